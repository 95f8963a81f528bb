import PyProof.Rows.All
import Wide.All
import OpenK.AllK
import Wide.FinOn
import Lean
import PyProof.EqAt
import PyProof.EqKinds
import PyProof.TupleCall
import PySem.Challenge.RW_widelanes_k43_alone_branches
set_option Elab.async false
set_option genSizeOf false
set_option genSizeOfSpec false
set_option genInjectivity false
set_option compiler.extract_closed false
set_option linter.all false
set_option maxRecDepth 100000
section
open List (map_set all_eq_true length_drop map_nil getElem_mem of_mem_zip size_toArray lookup_cons nodup_append all_cons drop_length tail_drop map_map cons_append drop_zero append_assoc length_take map_drop)
open Nat (lt_or_ge not_lt_zero le_succ le_of_eq)
open Option (isSome_iff_exists getD_none isSome_some)
open Bool (or_eq_true)
open PySem.Heap (size_push)
open PySem.PyData (strOk canLay0 canLayAll0 eqvAll)
open Int (not_le mul_le_mul)
namespace L2
open PySem PySem.Spec PyProof.Rows
open PySem.W (Frag)
theorem Oi:type_of% @decide_eq_false:=@decide_eq_false
theorem Oj:type_of% @Option.bind_some:=@Option.bind_some
theorem Ol:type_of% @Nat.le_refl:=@Nat.le_refl
theorem Om:type_of% @congrArg:=@congrArg
theorem Oo:type_of% @if_pos:=@if_pos
theorem Op:type_of% @decide_eq_true:=@decide_eq_true
theorem Oq:type_of% @if_neg:=@if_neg
theorem Ot:type_of% @Option.map_some:=@Option.map_some
theorem Ou:type_of% @List.length_cons:=@List.length_cons
theorem Ov:type_of% @wpAny_bind:=@wpAny_bind
theorem Ow:type_of% @List.mem_cons:=@List.mem_cons
theorem Ox:type_of% @List.not_mem_nil:=@List.not_mem_nil
theorem Oy:type_of% @Bool.false_ne_true:=@Bool.false_ne_true
theorem Oz:type_of% @List.append_nil:=@List.append_nil
theorem OA:type_of% @Heap.lt_size:=@Heap.lt_size
theorem OB:type_of% @List.size_toArray:=@List.size_toArray
theorem OC:type_of% @Nat.lt_of_lt_of_le:=@Nat.lt_of_lt_of_le
theorem OD:type_of% @Bool.and_eq_true:=@Bool.and_eq_true
theorem OE:type_of% @Heap.get?_push_of_some:=@Heap.get?_push_of_some
theorem OF:type_of% @List.getElem?_eq_getElem:=@List.getElem?_eq_getElem
theorem OG:type_of% @List.getElem?_append_right:=@List.getElem?_append_right
theorem OH:type_of% @List.mem_cons_of_mem:=@List.mem_cons_of_mem
theorem OI:type_of% @List.getElem?_set_ne:=@List.getElem?_set_ne
theorem OJ:type_of% @List.getElem?_append_left:=@List.getElem?_append_left
theorem OK:type_of% @List.mem_cons_self:=@List.mem_cons_self
theorem OL:type_of% @wpAny_pure:=@wpAny_pure
theorem OM:type_of% @List.mem_append_right:=@List.mem_append_right
theorem ON:type_of% @decide_eq_true_eq:=@decide_eq_true_eq
theorem OO:type_of% @Bool.false_eq_true:=@Bool.false_eq_true
theorem OP:type_of% @Nat.ne_of_lt:=@Nat.ne_of_lt
theorem OQ:type_of% @List.map_cons:=@List.map_cons
theorem OR:type_of% @List.replicate_succ:=@List.replicate_succ
theorem OS:type_of% @if_true:=@if_true
theorem OT:type_of% @Option.some.inj:=@Option.some.inj
theorem OU:type_of% @List.length_nil:=@List.length_nil
theorem OV:type_of% @List.length_append:=@List.length_append
theorem OW:type_of% @List.mem_singleton:=@List.mem_singleton
theorem OX:type_of% @if_false:=@if_false
theorem OY:type_of% @Nat.le_trans:=@Nat.le_trans
theorem OZ:type_of% @Heap.get?_push_size:=@Heap.get?_push_size
theorem O0:type_of% @Nat.lt_succ_self:=@Nat.lt_succ_self
theorem O1:type_of% @Nat.zero_le:=@Nat.zero_le
theorem O2:type_of% @List.getElem?_map:=@List.getElem?_map
theorem O3:type_of% @List.find?_cons:=@List.find?_cons
theorem O4:type_of% @wpAny_mono:=@wpAny_mono
theorem O5:type_of% @Nat.lt_irrefl:=@Nat.lt_irrefl
theorem O6:type_of% @List.length_map:=@List.length_map
theorem O7:type_of% @List.nodup_cons:=@List.nodup_cons
theorem O8:type_of% @List.mem_of_getElem?:=@List.mem_of_getElem?
theorem O9:type_of% @List.prefix_refl:=@List.prefix_refl
theorem Pa:type_of% @wpAny_holding:=@wpAny_holding
theorem Pb:type_of% @PySem.W.mg_of:=@PySem.W.mg_of
theorem Pc:type_of% @List.flatten_cons:=@List.flatten_cons
theorem Pd:type_of% @List.length_set:=@List.length_set
theorem Pe:type_of% @PyProof.Rows.slot_tuple_getitem:=@PyProof.Rows.slot_tuple_getitem
theorem Pg:type_of% @List.length_singleton:=@List.length_singleton
theorem Ph:type_of% @PySem.W.mg_none_of:=@PySem.W.mg_none_of
theorem Pj:type_of% @wpAny_truthy_bool:=@wpAny_truthy_bool
theorem Pl:type_of% @PySem.mem_of_lookup:=@PySem.mem_of_lookup
theorem Pm:type_of% @List.mem_filterMap:=@List.mem_filterMap
theorem Pn:type_of% @Heap.get?_update_self:=@Heap.get?_update_self
theorem Po:type_of% @List.getElem?_eq_none:=@List.getElem?_eq_none
theorem Pp:type_of% @List.mem_append:=@List.mem_append
theorem Pq:type_of% @wpAny_passesOwn:=@wpAny_passesOwn
theorem Pr:type_of% @List.map_append:=@List.map_append
theorem Ps:type_of% @Nat.le_of_lt:=@Nat.le_of_lt
theorem Pt:type_of% @Ne.symm:=@Ne.symm
theorem Pu:type_of% @beq_eq_false_iff_ne:=@beq_eq_false_iff_ne
theorem Pw:type_of% @Array.length_toList:=@Array.length_toList
theorem Px:type_of% @List.getElem?_replicate:=@List.getElem?_replicate
theorem Py:type_of% @List.getElem?_set_self:=@List.getElem?_set_self
theorem Pz:type_of% @wpAny_Call_Name_kw:=@wpAny_Call_Name_kw
theorem PB:type_of% @PySem.W.callWith_K:=@PySem.W.callWith_K
theorem PD:type_of% @Nat.lt_trans:=@Nat.lt_trans
theorem PF:type_of% @wpAny_execs_nil:=@wpAny_execs_nil
theorem PH:type_of% @List.any_cons:=@List.any_cons
theorem PJ:type_of% @PySem.W.methodCall_KW:=@PySem.W.methodCall_KW
theorem PL:type_of% @of_decide_eq_true:=@of_decide_eq_true
theorem PM:type_of% @List.mem_map:=@List.mem_map
theorem PN:type_of% @or_false:=@or_false
theorem PP:type_of% @List.nil_append:=@List.nil_append
theorem PQ:type_of% @beq_iff_eq:=@beq_iff_eq
theorem oB {α β:Type} {x:Option α} {f:α->Option β} {b:β} (h:x.bind f=some b):∃ a,x=some a/\f a=some b:=Option.bind_eq_some_iff.mp h
theorem oM {α β:Type} {x:Option α} {f:α->β} {b:β} (h:x.map f=some b):∃ a,x=some a/\f a=b:=Option.map_eq_some_iff.mp h
theorem oG {α:Type} {l:List α} {i:Nat} {a:α} (h:l[i]?=some a):∃ h:i<l.length,l[i]=a:=List.getElem?_eq_some_iff.mp h
noncomputable abbrev bR:=Sum Int Str
noncomputable def qt:bR->Value->Bool
 | .inl k,v=>Value.isInt k v
 | .inr x,v=>Value.isStrOf x v
noncomputable def L4 (w:World):bR->Int
 | .inl k=>hashInt k
 | .inr x=>hashStr w x
theorem cQ:∀ {k:bR} {v:Value},qt k v=true->(∃ i t,k=Sum.inl i/\v=Value.int i t)∨(∃ x t,k=Sum.inr x/\v=Value.str x t)
 | .inl i,v,h=>by
  obtain ⟨t,e⟩:=Value.isInt_shape (k:=i) (v:=v) h;exact .inl ⟨i,t,rfl,e⟩
 | .inr x,v,h=>by
  obtain ⟨t,e⟩:=Value.isStrOf_shape (x:=x) (v:=v) h;exact .inr ⟨x,t,rfl,e⟩
theorem xC (i:Int) (t:Tok):qt (.inl i) (.int i t)=true:=by simp [qt,Value.isInt]
theorem xi (x:Str) (t:Tok):qt (.inr x) (.str x t)=true:=by simp [qt,Value.isStrOf]
theorem ED (a b:Int):decide ((Sum.inl a:bR)=Sum.inl b)=(a==b):=by
 by_cases e:a=b
 . subst e;simp
 . have h:¬ (Sum.inl a:bR)=Sum.inl b:=λ q=>e (Sum.inl.inj q);rw [Oi h];exact (Pu.mpr e).symm
theorem Fz (a b:Str):decide ((Sum.inr a:bR)=Sum.inr b)=decide (a=b):=by
 by_cases e:a=b
 . subst e;simp
 . have h:¬ (Sum.inr a:bR)=Sum.inr b:=λ q=>e (Sum.inr.inj q);rw [Oi h,Oi e]
theorem EA (a:Int) (b:Str):decide ((Sum.inl a:bR)=Sum.inr b)=false:=Oi (λ q=>nomatch q)
theorem Fp (a:Str) (b:Int):decide ((Sum.inr a:bR)=Sum.inl b)=false:=Oi (λ q=>nomatch q)
noncomputable def ba (prog:Program) (w:World):PySem.KeyKind prog w bR where
 is:=qt
 hash:=L4 w
 inj:=λ v a b ha hb=>by
  rcases cQ ha with ⟨i,t,rfl,rfl⟩ | ⟨x,t,rfl,rfl⟩
  . rcases cQ hb with ⟨j,u,rfl,e⟩ | ⟨y,u,rfl,e⟩
    . injection e with e1 _;rw [e1]
    . exact nomatch e
  . rcases cQ hb with ⟨j,u,rfl,e⟩ | ⟨y,u,rfl,e⟩
    . exact nomatch e
    . injection e with e1 _;rw [e1]
 byValue:=λ k v h=>by
  rcases cQ h with ⟨i,t,rfl,rfl⟩ | ⟨x,t,rfl,rfl⟩ <;> rfl
 pyHash:=λ hv h=>by
  rcases cQ hv with ⟨i,t,rfl,rfl⟩ | ⟨x,t,rfl,rfl⟩
  . exact wpAny_pyHash_int h
  . exact wpAny_pyHash_str h
 eqBool:=λ hu hv h=>by
  rcases cQ hu with ⟨i,t,rfl,rfl⟩ | ⟨x,t,rfl,rfl⟩
  . rcases cQ hv with ⟨j,u,rfl,rfl⟩ | ⟨y,u,rfl,rfl⟩
    . rw [ED] at h;exact wpAny_eqBool_int h
    . rw [EA] at h;exact SeqAt.EqAt.int_str i t y u _ _ _ _ h
  . rcases cQ hv with ⟨j,u,rfl,rfl⟩ | ⟨y,u,rfl,rfl⟩
    . rw [Fp] at h;exact SeqAt.EqAt.str_int x t j u _ _ _ _ h
    . rw [Fz] at h;exact wpAny_eqBool_str h
 «strs»:=λ k x t v h=>by
  rcases cQ h with ⟨i,u,rfl,e⟩ | ⟨y,u,rfl,e⟩
  . exact nomatch e
  . injection e with e1 _
    subst e1;cases v <;> rfl
theorem tY (prog:Program) (w:World) (i:Int) (t:Tok):(ba prog w).is (.inl i) (.int i t)=true:=xC i t
theorem tI (prog:Program) (w:World) (x:Str) (t:Tok):(ba prog w).is (.inr x) (.str x t)=true:=xi x t
noncomputable def nH (P:Program) (w:World) (ks:List bR):Int:=if ks=[] then 4238894112 else (tupleKind (ba P w)).hash ks
noncomputable def nE (P:Program) (w:World) (x:List bR×Value×Value):DictEntry:=⟨nH P w x.1,x.2.1,x.2.2⟩
set_option genInjectivity true in
inductive V where
 | non | bl (b:Bool) | int (i:Int) | str (x:Str) | byt (b:Array UInt8) | flt (b:UInt64) | ref (a:Addr) | ty (n:String)
 deriving DecidableEq
noncomputable def bq:V->Value->Prop
 | .non,u=>u=Value.none
 | .bl b,u=>u=Value.bool b
 | .int i,u=>∃ t,u=Value.int i t
 | .str x,u=>∃ t,u=Value.str x t
 | .byt b,u=>∃ t,u=Value.bytes b t
 | .flt b,u=>∃ t,u=Value.float b t
 | .ref a,u=>u=Value.ref a
 | .ty n,u=>u=Value.type n
noncomputable abbrev be:List V->List Value->Prop:=Paired bq
theorem be.length {xs:List V} {us:List Value} (r:be xs us):xs.length=us.length:=Paired.length r
theorem be.get {xs:List V} {us:List Value} {i:Nat} {x:V} (h:be xs us) (e:xs[i]?=some x):∃ u,us[i]?=some u/\bq x u:=by
 induction h generalizing i with
 | nil=>cases e
 | cons r _ ih=>
  cases i with
  | zero=>cases e;exact ⟨_,rfl,r⟩
  | succ i=>exact ih (i:=i) e
theorem be.set {x:V} {u:Value} (r:bq x u) {xs:List V} {us:List Value} (i:Nat) (h:be xs us):be (xs.set i x) (us.set i u):=by
 induction h generalizing i with
 | nil=>exact .nil
 | cons q t ih=>
  cases i with
  | zero=>exact .cons r t
  | succ i=>exact .cons q (ih i)
theorem be.append {xs ys:List V} {us ws:List Value} (h:be xs us) (s:be ys ws):be (xs++ys) (us++ws):=by
 induction h with
 | nil=>exact s
 | cons r _ ih=>exact .cons r ih
theorem be.take {xs:List V} {us:List Value} (n:Nat) (h:be xs us):be (xs.take n) (us.take n):=by
 induction h generalizing n with
 | nil=>cases n <;> exact .nil
 | cons r _ ih=>
  cases n with
  | zero=>exact .nil
  | succ n=>exact .cons r (ih n)
theorem be.drop {xs:List V} {us:List Value} (n:Nat) (h:be xs us):be (xs.drop n) (us.drop n):=by
 induction h generalizing n with
 | nil=>cases n <;> exact .nil
 | cons r t ih=>
  cases n with
  | zero=>exact .cons r t
  | succ n=>exact ih n
noncomputable def jk:Option V->Option Value->Prop
 | some v,some u=>bq v u
 | none,none=>True
 | _,_=>False
noncomputable def KV {κ:Type}:List (κ×V)->List (κ×Value)->Prop:=Paired λ (p:κ×V) (q:κ×Value)=>p.1=q.1/\bq p.2 q.2
noncomputable def ji (P:Program) (w:World) (h:Heap) (a:Addr) (kvs:List (bR×Value)):Prop:=
 ∃ o es ep,h.get? a=some o/\o.ExactDict/\o.data=.dict es ep/\ep=es.size/\KeysOf (ba P w) es/\Pairs (ba P w) es.toList kvs/\(kvs.map (·.1)).Nodup
theorem ji.of {P:Program} {w:World} {h:Heap} {a:Addr} {kvs:List (bR×Value)} (x:ji P w h a kvs):h.DictOf (ba P w) a kvs:=by
 obtain ⟨o,es,ep,h1,h2,h3,_,h5⟩:=x;exact ⟨o,es,ep,h1,h2,h3,h5⟩
noncomputable def kV:bR->V
 | .inl i=>.int i
 | .inr x=>.str x
inductive HO where
 | lst (xs:List V)
 | tup (xs:List V)
 | dK (kvs:List (bR×V)) | dT (kvs:List (List bR×V)) | dN (kvs:List (List bR×V))
 | set (S:Int->Bool) (n:Nat)
 | ins (C dx:Addr) (fs:List (Str×V))
 | own (x:Addr)
 | xd (fs:List (Str×V))
 | met (f x:Addr)
 | rng (lo hi:Int)
 | frz (o:Obj) (u:HO)
 | tbl (ps:Array Value)
 | ext (φ:Heap->Prop)
noncomputable abbrev Hp:=Addr->Option HO
noncomputable def nV (H:Hp) (ks:List bR) (v:Value):Prop:=(ks=[]/\v=.none)∨(ks≠[]/\∃ b,v=.ref b/\H b=some (.tup (ks.map kV)))
noncomputable def d6 (H:Hp) (a:Addr) (o:HO):Hp:=λ b=>if b=a then some o else H b
theorem aO {H:Hp} {a:Addr} {o:HO}:d6 H a o a=some o:=by unfold d6;rw [Oo rfl]
theorem aP {H:Hp} {a b:Addr} {o:HO} (h:b≠a):d6 H a o b=H b:=by unfold d6;rw [Oq h]
theorem Il {H:Hp} {a b:Addr} {o u:HO} (h:H a=some o) (h':H b=some u) (d:o≠u):a≠b:=by
 intro e;subst e;rw [h] at h';exact d (OT h')
theorem bU {H:Hp} {a b:Addr} {o:HO} (h:H a=some o) (h':H b=none):a≠b:=by
 intro e;subst e;rw [h] at h';cases h'
section
variable (P:Program) (w:World)
noncomputable def dF (H:Hp) (h:Heap) (a:Addr):HO->Prop
 | .lst xs=>xs.length<=sizeLine/\∃ (its:List Value) (n:Nat),be xs its/\h.get? a=some { cls:=.type "list", data:=.seq its.toArray n }
 | .tup xs=>xs.length<=sizeLine/\∃ its:List Value,be xs its/\IsTup h a its.toArray
 | .dK kvs=>kvs.length<=sizeLine/\(a==sysModules)=false/\∃ vs,KV kvs vs/\ji P w h a vs
 | .dT kvs=>kvs.length<=sizeLine/\(a==sysModules)=false/\∃ xs:List (List bR×Addr×Value),
  Paired (λ (p:List bR×V) (q:List bR×Addr×Value)=>p.1=q.1/\H q.2.1=some (.tup (p.1.map kV))/\bq p.2 q.2.2) kvs xs/\
  ∃ o es ep,h.get? a=some o/\o.ExactDict/\o.data=.dict es ep/\es.toList=xs.map (entryOfKey (tupleKind (ba P w)))/\(xs.map (·.1)).Nodup
 | .dN kvs=>kvs.length<=sizeLine/\(a==sysModules)=false/\∃ xs:List (List bR×Value×Value),
  Paired (λ (p:List bR×V) (q:List bR×Value×Value)=>p.1=q.1/\nV H p.1 q.2.1/\bq p.2 q.2.2) kvs xs/\
  ∃ o es ep,h.get? a=some o/\o.ExactDict/\o.data=.dict es ep/\es.toList=xs.map (nE P w)/\(xs.map (·.1)).Nodup
 | .set S n=>h.SetOf (intKind P w) a S n
 | .ins C dx fs=>H dx=some (.own a)/\fs.length<=1000/\dx≠a/\h.get? a=some (PySem.W.instObj C dx)/\
  ∃ mA,h.Ns1 dx mA/\(∀ f,jk (fs.lookup f) (mA f))/\PySem.Within mA (fs.map (·.1))
 | .own _=>∃ o,h.get? a=some o
 | .xd fs=>∃ mA,h.Ns1 a mA/\∀ f,jk (fs.lookup f) (mA f)
 | .rng lo hi=>∃ t u v,h.get? a=some { cls:=.type "range", data:=.fields #[.int lo t,.int hi u,.int 1 v] }
 | .frz o u=>h.get? a=some o/\dF H h a u
 | .tbl ps=>h.get? a=some { cls:=.none,data:=.fields ps }
 | .met f x=>h.get? a=some (PySem.W.methodObj (.ref f) (.ref x))
 | .ext φ=>φ h/\(∃ o,h.get? a=some o)/\∀ h1 h2:Heap,φ h1->(∀ o,h1.get? a=some o->h2.get? a=some o)->φ h2
noncomputable def iS (H:Hp) (h:Heap):Prop:=∀ a o,H a=some o->dF P w H h a o
end
section
variable {P:Program} {w:World} {H H':Hp} {h h':Heap} {a:Addr} {o:HO}
theorem dF.lt (x:dF P w H h a o):a<h.objs.size:=by
 cases o with
 | lst xs=>obtain ⟨_,_,_,_,e⟩:=x;exact OA e
 | tup xs=>obtain ⟨_,_,_,p⟩:=x;exact p.lt
 | dK kvs=>obtain ⟨_,_,_,_,o,_,_,e,_⟩:=x;exact OA e
 | dT kvs=>obtain ⟨_,_,_,_,o,_,_,e,_⟩:=x;exact OA e
 | dN kvs=>obtain ⟨_,_,_,_,o,_,_,e,_⟩:=x;exact OA e
 | set S n=>obtain ⟨o,_,_,_,e,_⟩:=x;exact OA e
 | ins C dx fs=>obtain ⟨_,_,_,e,_⟩:=x;exact OA e
 | own y=>obtain ⟨_,e⟩:=x;exact OA e
 | xd fs=>obtain ⟨_,⟨_,_,_,e,_⟩,_⟩:=x;exact OA e
 | rng lo hi=>obtain ⟨_,_,_,e⟩:=x;exact OA e
 | frz ob u=>obtain ⟨e,_⟩:=x;exact OA e
 | tbl ps=>exact OA (show h.get? a=some _ from x)
 | met f y=>exact OA (show h.get? a=some _ from x)
 | ext φ=>obtain ⟨_,⟨_,e⟩,_⟩:=x;exact OA e
theorem Paired.mapP {α β:Type} {F G:α->β->Prop} {l₁:List α} {l₂:List β} (h:Paired F l₁ l₂) (f:∀ a b,F a b->G a b):Paired G l₁ l₂:=by
 induction h with
 | nil=>exact .nil
 | cons r _ ih=>exact .cons (f _ _ r) ih
theorem dF.stay (x:dF P w H h a o) (k:∀ b u,(b=a∨H b=some (.own a))->h.get? b=some u->h'.get? b=some u)
 (ho:∀ b,H b=some (.own a)->H' b=some (.own a)) (ht:∀ b xs,H b=some (.tup xs)->H' b=some (.tup xs)):dF P w H' h' a o:=by
 induction o with
 | lst xs=>obtain ⟨z,its,n,r,e⟩:=x;exact ⟨z,its,n,r,k _ _ (.inl rfl) e⟩
 | tup xs=>obtain ⟨z,its,r,ob,e,c⟩:=x;exact ⟨z,its,r,ob,k _ _ (.inl rfl) e,c⟩
 | dK kvs=>obtain ⟨z,y,vs,r,ob,es,ep,e,c⟩:=x;exact ⟨z,y,vs,r,ob,es,ep,k _ _ (.inl rfl) e,c⟩
 | dT kvs=>
  obtain ⟨z,y,xs,r,ob,es,ep,e,c⟩:=x;exact ⟨z,y,xs,Paired.mapP r λ p q z=>⟨z.1,ht _ _ z.2.1,z.2.2⟩,ob,es,ep,k _ _ (.inl rfl) e,c⟩
 | dN kvs=>
  obtain ⟨z,y,xs,r,ob,es,ep,e,c⟩:=x;exact ⟨z,y,xs,Paired.mapP r λ p q z=>⟨z.1,z.2.1.imp id λ hy0=>by obtain ⟨n,b,e1,e2⟩:=hy0;exact ⟨n,b,e1,ht _ _ e2⟩,z.2.2⟩,ob,es,ep,k _ _ (.inl rfl) e,c⟩
 | set S n=>obtain ⟨ob,es,ep,t,e,c⟩:=x;exact ⟨ob,es,ep,t,k _ _ (.inl rfl) e,c⟩
 | ins C dx fs=>
  obtain ⟨d,z,ne,e,mA,⟨od,es,ep,e2,c⟩,r⟩:=x;exact ⟨ho _ d,z,ne,k _ _ (.inl rfl) e,mA,⟨od,es,ep,k _ _ (.inr d) e2,c⟩,r⟩
 | own y=>obtain ⟨ob,e⟩:=x;exact ⟨ob,k _ _ (.inl rfl) e⟩
 | xd fs=>obtain ⟨mA,⟨od,es,ep,e,c⟩,r⟩:=x;exact ⟨mA,⟨od,es,ep,k _ _ (.inl rfl) e,c⟩,r⟩
 | rng lo hi=>obtain ⟨t,u,v,e⟩:=x;exact ⟨t,u,v,k _ _ (.inl rfl) e⟩
 | frz ob u ih=>obtain ⟨e,q⟩:=x;exact ⟨k _ _ (.inl rfl) e,ih q⟩
 | tbl ps=>
  have e:h.get? a=some { cls:=.none,data:=.fields ps }:=x;show h'.get? a=some { cls:=.none,data:=.fields ps };exact k a _ (.inl rfl) e
 | met f y=>
  have e:h.get? a=some (PySem.W.methodObj (.ref f) (.ref y)):=x;show h'.get? a=some (PySem.W.methodObj (.ref f) (.ref y));exact k a _ (.inl rfl) e
 | ext φ=>obtain ⟨p,⟨o,e⟩,st⟩:=x;exact ⟨st _ _ p λ o q=>k _ _ (.inl rfl) q,⟨o,k _ _ (.inl rfl) e⟩,st⟩
theorem iS.lt (x:iS P w H h) (e:H a=some o):a<h.objs.size:=(x a o e).lt
theorem iS.fresh (x:iS P w H h) (e:h.objs.size<=a):H a=none:=by
 cases q:H a with
 | none=>rfl
 | some u=>exact absurd (OC (x.lt q) e) (O5 _)
theorem iS.kept (x:iS P w H h) (k:∀ b u,h.get? b=some u->h'.get? b=some u):iS P w H h':=λ a o e=>
 (x a o e).stay (λ b u _ q=>k b u q) (λ _ q=>q) λ _ _ q=>q
theorem iS.laid (x:iS P w H h) (k:∀ b u,h.get? b=some u->h'.get? b=some u) (hp:h.objs.size<=a) (new:dF P w (d6 H a o) h' a o):iS P w (d6 H a o) h':=λ b u e=>by
 have hn:=x.fresh hp;by_cases hb:b=a
 . subst hb;rw [aO] at e;cases e;exact new
 . rw [aP hb] at e;exact (x b u e).stay (λ c v _ q=>k c v q) (λ c q=>by rw [aP (bU q hn)];exact q) λ c xs q=>by rw [aP (bU q hn)];exact q
end
noncomputable def Rd (H:Hp) (a:Addr) (u:HO):Prop:=H a=some u∨∃ o,H a=some (.frz o u)
theorem Rd.ok {P:Program} {w:World} {H:Hp} {h:Heap} {a:Addr} {u:HO} (r:Rd H a u) (x:iS P w H h):dF P w H h a u:=by
 rcases r with r | ⟨o,r⟩
 . exact x a u r
 . obtain ⟨_,q⟩:=x a _ r;exact q
noncomputable def IG:Option HO->Prop
 | some (.lst _)=>True
 | some (.dK _)=>True
 | some (.dT _)=>True
 | some (.dN _)=>True
 | some (.set _ _)=>True
 | some (.ins _ _ _)=>True
 | some (.ext _)=>True
 | _=>False
section
variable {P:Program} {w:World} {H:Hp} {h h':Heap} {x e:Addr} {o':HO}
theorem iS.write (ok:iS P w H h) (mu:IG (H x)) (he:e=x∨H e=some (.own x)) (k:∀ b u,b≠e->h.get? b=some u->h'.get? b=some u) (heo:∃ u,h'.get? e=some u)
 (new:dF P w (d6 H x o') h' x o'):iS P w (d6 H x o') h':=λ b u q=>by
 have nown:∀ c y,H c=some (.own y)->c≠x:=λ c y r z=>by subst z;rw [r] at mu;exact mu
 have ntup:∀ c xs,H c=some (.tup xs)->c≠x:=λ c xs r z=>by subst z;rw [r] at mu;exact mu
 by_cases hb:b=x
 . subst hb;rw [aO] at q;cases q;exact new
 . rw [aP hb] at q;by_cases hbe:b=e
   . have q':H b=some (.own x):=by
      rcases he with z | z
      . exact absurd (hbe.trans z) hb
      . rw [hbe];exact z
     rw [q] at q';cases q';obtain ⟨v,hv⟩:=heo;exact ⟨v,by rw [hbe];exact hv⟩
   . refine (ok b u q).stay (λ c v hc r=>k c v ?_ r) (λ c r=>by rw [aP (nown c b r)];exact r) λ c xs r=>by rw [aP (ntup c xs r)];exact r
     rcases hc with rfl | hc
     . exact hbe
     . rintro rfl;rcases he with z | z
       . exact nown c b hc z
       . rw [hc] at z;cases z;exact hb rfl
end
structure Un (fs ex:List Addr) (H H':Hp) (h h':Heap):Prop where
 keep:∀ b o,h.get? b=some o->H b=none->b∉fs->b∉ex->h'.get? b=some o
 slot:∀ b o,h.get? b=some o->H b=none->b∈fs->b∉ex->∃ sl,h'.get? b=some { o with slots:=sl }
 free:∀ b o,h.get? b=some o->H b=none->b∉ex->H' b=none
 there:∀ b o,h.get? b=some o->b∉ex->∃ o',h'.get? b=some o'
 tups:∀ b xs,H b=some (.tup xs)->H' b=some (.tup xs)
 frzs:∀ b o u,H b=some (.frz o u)->H' b=some (.frz o u)
 tbls:∀ b ps,H b=some (.tbl ps)->∃ more,H' b=some (.tbl (ps++more))
section
variable {fs fs' ex ex':List Addr} {H H1 H2:Hp} {h h1 h2 h':Heap} {a x e:Addr} {o:HO}
theorem Un.any (u:Un fs ex H H1 h h1) {b:Addr} {ob:Obj} (q:h.get? b=some ob) (n:H b=none) (hx:b∉ex):∃ sl,h1.get? b=some { ob with slots:=sl }:=by
 by_cases hb:b∈fs
 . exact u.slot b ob q n hb hx
 . exact ⟨ob.slots,u.keep b ob q n hb hx⟩
theorem Un.kept (k:∀ b u,h.get? b=some u->h'.get? b=some u):Un fs ex H H h h':=
 ⟨λ b ob q _ _ _=>k b ob q,λ b ob q _ _ _=>⟨ob.slots,k b ob q⟩,λ _ _ _ n _=>n,λ b ob q _=>⟨ob,k b ob q⟩,λ _ _ q=>q,λ _ _ _ q=>q,λ _ ps q=>⟨#[],by rw [q];simp⟩⟩
theorem Un.refl:Un fs ex H H h h:=Un.kept λ _ _ q=>q
theorem Un.laid (k:∀ b u,h.get? b=some u->h'.get? b=some u) (hp:h.objs.size<=a) (hn:H a=none):Un fs ex H (d6 H a o) h h' where
 keep:=λ b u q _ _ _=>k b u q
 slot:=λ b u q _ _ _=>⟨u.slots,k b u q⟩
 free:=λ b u q n _=>by rw [aP (OP (OC (OA q) hp))];exact n
 there:=λ b u q _=>⟨u,k b u q⟩
 tups:=λ b xs q=>by rw [aP (bU q hn)];exact q
 frzs:=λ b u xs q=>by rw [aP (bU q hn)];exact q
 tbls:=λ b ps q=>⟨#[],by rw [aP (bU q hn),q];simp⟩
theorem Un.write (mu:IG (H x)) (he:e=x∨H e=some (.own x)) (k:∀ b u,b≠e->h.get? b=some u->h'.get? b=some u) (heo:∃ u,h'.get? e=some u):Un fs ex H (d6 H x o) h h':=by
 have hx:∀ b,H b=none->b≠x:=λ b n z=>by subst z;rw [n] at mu;exact mu
 have hb:∀ b,H b=none->b≠e:=λ b n z=>by
  subst z;rcases he with r | r
  . exact hx b n r
  . rw [n] at r;cases r
 have hm:∀ b u,H b=some u->¬ IG (some u)->b≠x:=λ b u q nm z=>by subst z;rw [q] at mu;exact nm mu
 refine ⟨λ b u q n _ _=>k b u (hb b n) q,λ b u q n _ _=>⟨u.slots,k b u (hb b n) q⟩,λ b u q n _=>by rw [aP (hx b n)];exact n,λ b u q _=>?_,
  λ b xs q=>by rw [aP (hm b _ q λ z=>z)];exact q,λ b u xs q=>by rw [aP (hm b _ q λ z=>z)];exact q,λ b ps q=>⟨#[],by rw [aP (hm b _ q λ z=>z),q];simp⟩⟩
 by_cases hbe:b=e
 . subst hbe;exact heo
 . exact ⟨u,k b u hbe q⟩
end
noncomputable def F4 (h:Heap) (H:Hp):List Addr:=(List.range h.objs.size).filter λ a=>(H a).isSome
noncomputable def rV (h:Heap) (H:Hp):Heap:=PySem.W.hideAll h (F4 h H)
theorem wU (h:Heap) (H:Hp):(rV h H).objs.size=h.objs.size:=PySem.W.hideAll_size _ _
theorem y9 {h:Heap} {H:Hp} {b:Addr} {o:Obj} (e:h.get? b=some o) (n:H b=none):(rV h H).get? b=some o:=
 PySem.W.hideAll_get _ e λ hm=>by
  have q:(H b).isSome=true:=(List.mem_filter.mp hm).2;rw [n] at q;simp at q
theorem Bi {h:Heap} {H:Hp} {b:Addr} {o:Obj} (e:(rV h H).get? b=some o):h.get? b=some o/\H b=none:=by
 have e':h.get? b=some o:=PySem.W.of_hideAll (F4 h H) e;refine ⟨e',?_⟩;cases q:H b with
 | none=>rfl
 | some x=>
  have hm:b∈F4 h H:=List.mem_filter.mpr ⟨List.mem_range.mpr (OA e'),by simp [q]⟩;have z:(rV h H).get? b=none:=PySem.W.hideAll_none (F4 h H) hm;rw [z] at e;cases e
noncomputable def Bg (g h:Heap) (L:Addr):List (Addr×Obj):=(List.range h.objs.size).filterMap λ a=>if a=L∨(g.get? a).isSome=true then none else (h.get? a).map λ o=>(a,o)
noncomputable def aZ (g h:Heap) (L d:Addr):List (Addr×Obj):=(Bg g h L).filter λ p=>decide (p.1≠d)
structure Mod (K:Frag) (mg:Str->Option Value) (base:Heap):Prop where
 kin:K.In base
 glob:base.Ns mainGlobals mg
 blt:∃ mb,base.Ns builtinsNs mb/\∀ x:Str,x ≠ "__name__" -> mb x=bootBuiltins x
 nolimit:base.NoLimit
structure Cx where
 prog:Program
 w:World
 K:Frag
 mg:Str->Option Value
 base:Heap
 A:Around
 N:List Str
 s₀:Shared
 H₀:Hp
 env:Env
 outer:List Env
 stack:List Env
 ex:List Addr
 fn:Str->Bool
 calm:Bool
 pn:List (Addr×Obj)
 xe:Value->Shared->Prop
noncomputable def jy (l:List Env):List Addr:=l.filterMap (·.frame)
noncomputable abbrev Cx.fs (X:Cx):List Addr:=jy X.outer
noncomputable def JV (sc:Scope) (x:Str):Prop:=sc.names.lookup x=some .local∨sc.names.lookup x=some .cell∨sc.names.lookup x=some .free
noncomputable def JQ (sc:Scope) (x:Str):Prop:=sc.names.lookup x=some .local∨sc.names.lookup x=some .cell
noncomputable def L8 (env:Env) (h:Heap) (m:Str->Option Value) (x:Str) (u:Value):Prop:=
 (env.kindOf x=some .local/\m x=some u)∨((env.kindOf x=some .cell∨env.kindOf x=some .free)/\∃ c,env.cells.lookup x=some c/\h.IsCell c (some u))
structure Cx.Ok (X:Cx):Prop where
 mod:Mod X.K X.mg X.base
 kind:X.env.scope.kind=.function
 glob:X.env.globals=mainGlobals
 blt:X.env.builtins=builtinsNs
 above:X.s₀.heap.objs.size<=X.env.locals
 inj:∀ x y c,X.env.cells.lookup x=some c->X.env.cells.lookup y=some c->x=y
 has:∀ x,(X.env.kindOf x=some .cell∨X.env.kindOf x=some .free)->∃ c,X.env.cells.lookup x=some c
 cab:∀ x c,X.fn x=true->X.env.cells.lookup x=some c->X.s₀.heap.objs.size<=c
 hd:X.calm=true->X.A.handled=none
 frames:X.A.frames=some X.stack
 stk:X.stack=X.outer∨(X.stack=X.env::X.outer/\X.env.frame=some X.env.locals)
 exf:∀ b∈X.ex,b≠X.env.locals/\∀ x c,X.env.cells.lookup x=some c->c≠b
 bs:∀ b o,X.base.get? b=some o->X.s₀.heap.get? b=some o/\X.H₀ b=none
 bsz:X.base.objs.size<=X.s₀.heap.objs.size
 noex:∀ b o,X.base.get? b=some o->b∉X.ex
 exfs:∀ b∈X.ex,b∉X.fs
 funs:X.s₀.heap.FunFrames X.base X.outer
 frf:∀ b∈X.fs,X.H₀ b=none
structure aL (X:Cx) (pins:List (Addr×Obj)) (σ:List (Option V)) (H:Hp) (s:Shared):Prop where
 ok:X.Ok
 os:s.os=X.s₀.os
 bare:AllBare s.gens
 base:Un X.fs X.ex X.H₀ H X.s₀.heap s.heap
 loc:∃ m,s.heap.Ns X.env.locals m/\∀ (i:Nat) (x:Str) (v:V),X.N[i]?=some x->σ[i]?=some (some v)->JV X.env.scope x->∃ u,bq v u/\L8 X.env s.heap m x u
 cell:∀ x c,X.env.cells.lookup x=some c->∃ v,s.heap.IsCell c v
 free:H X.env.locals=none
 freeC:∀ x c,X.env.cells.lookup x=some c->H c=none
 pin:∀ p∈X.pn++pins,s.heap.get? p.1=some p.2/\H p.1=none/\p.1≠X.env.locals/\p.1∉X.fs/\∀ v,p.2.data≠.cell v
 hok:iS X.prog X.w H s.heap
 len:σ.length=X.N.length
section
variable {X:Cx} {pins:List (Addr×Obj)} {σ:List (Option V)} {H H':Hp} {s:Shared} {h':Heap}
theorem Cx.Ok.nofr (ok:X.Ok) {b:Addr} {o:Obj} (e:X.base.get? b=some o):b∉X.fs:=λ hb=>by
 have:=(ok.funs.mem hb).1;rw [e] at this;cases this
theorem aL.bs (I:aL X pins σ H s):∀ b o,X.base.get? b=some o->s.heap.get? b=some o/\H b=none:=λ b o e=>
 ⟨I.base.keep b o (I.ok.bs b o e).1 (I.ok.bs b o e).2 (I.ok.nofr e) (I.ok.noex b o e),I.base.free b o (I.ok.bs b o e).1 (I.ok.bs b o e).2 (I.ok.noex b o e)⟩
theorem aL.bk (I:aL X pins σ H s):∀ b o,X.base.get? b=some o->s.heap.get? b=some o:=λ b o e=>(I.bs b o e).1
theorem aL.mod (I:aL X pins σ H s):Mod X.K X.mg X.base:=I.ok.mod
theorem aL.kIn (I:aL X pins σ H s):X.K.In s.heap:=I.ok.mod.kin.keeps I.bk
theorem aL.lt (I:aL X pins σ H s):X.env.locals<s.heap.objs.size:=by obtain ⟨_,hn,_⟩:=I.loc;exact hn.lt
theorem aL.sz (I:aL X pins σ H s):X.s₀.heap.objs.size<=s.heap.objs.size:=OY I.ok.above (Ps I.lt)
theorem aL.nofs (I:aL X pins σ H s) {a:Addr} (h:s.heap.objs.size<=a):a∉X.fs:=λ hb=>by
 obtain ⟨_,o,ho,_⟩:=I.ok.funs.mem hb;exact absurd (OC (OA ho) (OY I.sz h)) (O5 _)
theorem aL.cne (I:aL X pins σ H s):∀ x c,X.env.cells.lookup x=some c->c≠X.env.locals:=λ x c e z=>by
 obtain ⟨v,o,ho,hd⟩:=I.cell x c e;obtain ⟨m,⟨o',es,ep,ho',hd',_⟩,_⟩:=I.loc;rw [z,ho'] at ho;cases ho;rw [hd'] at hd;cases hd
theorem aL.funs (I:aL X pins σ H s):s.heap.FunFrames X.base X.outer:=by
 have all:∀ (l:List Env),(∀ b∈jy l,b∈X.fs)->X.s₀.heap.FunFrames X.base l->s.heap.FunFrames X.base l:=by
  intro l;induction l with
  | nil=>intro _ _;trivial
  | cons env r ih=>
   intro hs hl;obtain ⟨hk,⟨L,o,hf,hn,ho,hd⟩,hr⟩:=hl;have hL:L∈X.fs:=hs L (by unfold jy;rw [List.filterMap_cons,hf];exact OK);obtain ⟨sl,e⟩:=I.base.slot L o ho (I.ok.frf L hL) hL λ z=>I.ok.exfs L z hL;exact ⟨hk,⟨L,_,hf,hn,e,hd⟩,ih (λ b hb=>hs b (by unfold jy;rw [List.filterMap_cons,hf];exact OH _ hb)) hr⟩
 exact all X.outer (λ _ hb=>hb) I.ok.funs
theorem aL.stack (I:aL X pins σ H s):s.heap.FunFrames X.base X.stack:=by
 rcases I.ok.stk with e | ⟨e,hf⟩
 . rw [e];exact I.funs
 . rw [e];obtain ⟨m,hn,_⟩:=I.loc;refine .cons (by rw [I.ok.kind];decide) hf hn ?_ I.funs;exact Heap.get?_none_of_le (OY I.ok.bsz I.ok.above)
theorem aL.stkSub (I:aL X pins σ H s):∀ b∈jy X.stack,b∈X.env.locals::X.fs:=λ b hb=>by
 rcases I.ok.stk with e | ⟨e,hf⟩
 . rw [e] at hb;exact OH _ hb
 . rw [e] at hb;unfold jy at hb;rw [List.filterMap_cons,hf] at hb;exact hb
theorem aL.stkFree (I:aL X pins σ H s):∀ b∈jy X.stack,H b=none:=λ b hb=>by
 rcases Ow.mp (I.stkSub b hb) with e | hb
 . rw [e];exact I.free
 . obtain ⟨_,o,ho,_⟩:=I.ok.funs.mem hb;exact I.base.free b o ho (I.ok.frf b hb) λ z=>I.ok.exfs b z hb
theorem aL.step {g':Array GenState} {t':Nat} {d':Drawn} {ch:List Addr} (I:aL X pins σ H s)
 (hch:∀ b∈ch,(b∈X.ex∨X.s₀.heap.objs.size<=b)/\b≠X.env.locals/\(∀ x c,X.env.cells.lookup x=some c->c≠b)/\∀ p∈X.pn++pins,p.1≠b)
 (keep:∀ b o,b≠X.env.locals->b∉X.fs->b∉ch->s.heap.get? b=some o->H b=none->h'.get? b=some o)
 (slot:∀ b o,b≠X.env.locals->b∈X.fs->b∉ch->s.heap.get? b=some o->H b=none->∃ sl,h'.get? b=some { o with slots:=sl }) (free:∀ b o,b∉ch->s.heap.get? b=some o->H b=none->H' b=none)
 (there:∀ b o,b∉ch->s.heap.get? b=some o->∃ o',h'.get? b=some o')
 (tups:∀ b xs,H b=some (.tup xs)->H' b=some (.tup xs)) (frzs:∀ b o u,H b=some (.frz o u)->H' b=some (.frz o u)) (tbls:∀ b ps,H b=some (.tbl ps)->∃ more,H' b=some (.tbl (ps++more)))
 (ns:∀ m,s.heap.Ns X.env.locals m->h'.Ns X.env.locals m) (hok:iS X.prog X.w H' h') (hg:AllBare g'):
 aL X pins σ H' { s with heap:=h',gens:=g',drawn:=d',toks:=t' }:=by
 have neL:∀ b o,X.s₀.heap.get? b=some o->b≠X.env.locals:=λ b o e=>OP (OC (OA e) I.ok.above);have neC:∀ b o,X.s₀.heap.get? b=some o->b∉X.ex->b∉ch:=λ b o e hx hb=>by
  rcases (hch b hb).1 with z | z
  . exact hx z
  . exact absurd (OC (OA e) z) (O5 _)
 have cellK:∀ x c,X.env.cells.lookup x=some c->∀ v,s.heap.IsCell c v->h'.IsCell c v:=λ x c e v hy0=>by
  obtain ⟨o,ho,hd⟩:=hy0;have nch:c∉ch:=λ z=>(hch c z).2.2.1 x c e rfl;by_cases hc:c∈X.fs
  . obtain ⟨sl,q⟩:=slot c o (I.cne x c e) hc nch ho (I.freeC x c e);exact ⟨_,q,hd⟩
  . exact ⟨o,keep c o (I.cne x c e) hc nch ho (I.freeC x c e),hd⟩
 refine ⟨I.ok,I.os,hg,⟨λ b o e n hb hx=>?_,λ b o e n hb hx=>?_,λ b o e n hx=>?_,λ b o e hx=>?_,λ b xs e=>tups b xs (I.base.tups b xs e),λ b o xs e=>frzs b o xs (I.base.frzs b o xs e),λ b ps e=>?_⟩,?_,λ x c e=>?_,?_,λ x c e=>?_,λ p hp=>?_,hok,I.len⟩
 . exact keep b o (neL b o e) hb (neC b o e hx) (I.base.keep b o e n hb hx) (I.base.free b o e n hx)
 . obtain ⟨sl,e1⟩:=I.base.slot b o e n hb hx;obtain ⟨sl',e2⟩:=slot b _ (neL b o e) hb (neC b o e hx) e1 (I.base.free b o e n hx);exact ⟨sl',e2⟩
 . obtain ⟨o',e1⟩:=I.base.there b o e hx;exact free b o' (neC b o e hx) e1 (I.base.free b o e n hx)
 . obtain ⟨o',e1⟩:=I.base.there b o e hx;exact there b o' (neC b o e hx) e1
 . obtain ⟨m1,e1⟩:=I.base.tbls b ps e;obtain ⟨m2,e2⟩:=tbls b _ e1;exact ⟨m1++m2,by rw [e2,Array.append_assoc]⟩
 . obtain ⟨m,hn,hl⟩:=I.loc;refine ⟨m,ns m hn,λ i x v e1 e2 e3=>?_⟩;obtain ⟨u,r,l⟩:=hl i x v e1 e2 e3;refine ⟨u,r,?_⟩;rcases l with l | ⟨k,c,e,z⟩
   . exact .inl l
   . exact .inr ⟨k,c,e,cellK x c e _ z⟩
 . obtain ⟨v,z⟩:=I.cell x c e;exact ⟨v,cellK x c e v z⟩
 . obtain ⟨m,⟨o,_,_,ho,_⟩,_⟩:=I.loc;exact free _ o (λ z=>(hch _ z).2.1 rfl) ho I.free
 . obtain ⟨v,o,ho,hd⟩:=I.cell x c e;exact free c o (λ z=>(hch c z).2.2.1 x c e rfl) ho (I.freeC x c e)
 . obtain ⟨e,n,ne,nf,d⟩:=I.pin p hp;have nch:p.1∉ch:=λ z=>(hch p.1 z).2.2.2 p hp rfl;exact ⟨keep p.1 p.2 ne nf nch e n,free p.1 p.2 nch e n,ne,nf,d⟩
theorem aL.un {t':Nat} (I:aL X pins σ H s) (u:Un X.fs [] H H' s.heap h') (hok:iS X.prog X.w H' h'):aL X pins σ H' { s with heap:=h',toks:=t' }:=by
 obtain ⟨m,⟨o,es,ep,ho,r⟩,_⟩:=id I.loc;obtain ⟨sl,hL⟩:=u.any ho I.free (by simp);exact I.step (g':=s.gens) (d':=s.drawn) (ch:=[]) (λ _ z=>nomatch z) (λ b o _ hb _ e n=>u.keep b o e n hb (by simp)) (λ b o _ hb _ e n=>u.slot b o e n hb (by simp)) (λ b o _ e n=>u.free b o e n (by simp)) (λ b o _ e=>u.there b o e (by simp)) u.tups u.frzs u.tbls (λ m' hm=>by
  obtain ⟨o',es',ep',ho',r'⟩:=hm;rw [ho] at ho';cases ho';exact ⟨_,es',ep',hL,r'⟩) hok I.bare
theorem aL.call {g':Array GenState} {t':Nat} {d':Drawn} {ch:List Addr} (I:aL X pins σ H s) (u:Un (jy X.stack) ch H H' s.heap h') (hok:iS X.prog X.w H' h') (hg:AllBare g')
 (hch:∀ b∈ch,(b∈X.ex∨X.s₀.heap.objs.size<=b)/\b≠X.env.locals/\(∀ x c,X.env.cells.lookup x=some c->c≠b)/\∀ p∈X.pn++pins,p.1≠b):
 aL X pins σ H' { s with heap:=h',gens:=g',drawn:=d',toks:=t' }:=by
 obtain ⟨m,⟨o,es,ep,ho,r⟩,_⟩:=id I.loc;obtain ⟨sl,hL⟩:=u.any ho I.free λ z=>(hch _ z).2.1 rfl;exact I.step (ch:=ch) hch (λ b o hL hb hc e n=>u.keep b o e n (λ z=>(Ow.mp (I.stkSub b z)).elim hL hb) hc) (λ b o _ _ hc e n=>u.any e n hc) (λ b o hc e n=>u.free b o e n hc) (λ b o hc e=>u.there b o e hc) u.tups u.frzs u.tbls (λ m' hm=>by
  obtain ⟨o',es',ep',ho',r'⟩:=hm;rw [ho] at ho';cases ho';exact ⟨_,es',ep',hL,r'⟩) hok hg
theorem aL.turned {t':Nat} {it:Addr} (I:aL X pins σ H s) (k:∀ b o,b≠it->s.heap.get? b=some o->h'.get? b=some o) (hn:H it=none) (hL:it≠X.env.locals)
 (h1:it∈X.ex∨X.s₀.heap.objs.size<=it) (h2:∀ x c,X.env.cells.lookup x=some c->c≠it) (h3:∀ p∈X.pn++pins,p.1≠it):aL X pins σ H { s with heap:=h',toks:=t' }:=by
 have nit:∀ b u,H b=some u->b≠it:=λ b u e z=>by rw [z,hn] at e;cases e
 refine I.step (g':=s.gens) (d':=s.drawn) (ch:=[it]) (λ b hb=>?_) (λ b o _ _ hc e _=>k b o (λ z=>hc (by simp [z])) e) (λ b o _ _ hc e _=>⟨o.slots,k b o (λ z=>hc (by simp [z])) e⟩) (λ _ _ _ _ n=>n)
  (λ b o hc e=>⟨o,k b o (λ z=>hc (by simp [z])) e⟩) (λ _ _ e=>e) (λ _ _ _ e=>e) (λ b ps e=>⟨#[],by rw [e];simp⟩) (λ m hm=>?_) (λ b u e=>?_) I.bare
 . have e:b=it:=by simpa using hb
   subst e;exact ⟨h1,hL,h2,h3⟩
 . obtain ⟨o,es,ep,ho,r⟩:=hm;exact ⟨o,es,ep,k _ o (Pt hL) ho,r⟩
 . refine (I.hok b u e).stay (λ c v hc q=>k c v ?_ q) (λ _ q=>q) λ _ _ q=>q;rcases hc with z | z
   . rw [z];exact nit b u e
   . exact nit c _ z
theorem aL.tok (I:aL X pins σ H s) (t:Nat):aL X pins σ H { s with toks:=t }:=I.un (h':=s.heap) (t':=t) Un.refl I.hok
theorem aL.kept {t':Nat} (I:aL X pins σ H s) (k:∀ b u,s.heap.get? b=some u->h'.get? b=some u):aL X pins σ H { s with heap:=h',toks:=t' }:=I.un (Un.kept k) (I.hok.kept k)
theorem aL.laid {a:Addr} {o:HO} {t':Nat} (I:aL X pins σ H s) (k:∀ b u,s.heap.get? b=some u->h'.get? b=some u) (hp:s.heap.objs.size<=a) (new:dF X.prog X.w (d6 H a o) h' a o):
 aL X pins σ (d6 H a o) { s with heap:=h',toks:=t' }:=I.un (Un.laid k hp (I.hok.fresh hp)) (I.hok.laid k hp new)
theorem aL.write {x e:Addr} {o:HO} {t':Nat} (I:aL X pins σ H s) (mu:IG (H x)) (he:e=x∨H e=some (.own x)) (k:∀ b u,b≠e->s.heap.get? b=some u->h'.get? b=some u) (heo:∃ u,h'.get? e=some u)
 (new:dF X.prog X.w (d6 H x o) h' x o):aL X pins σ (d6 H x o) { s with heap:=h',toks:=t' }:=I.un (Un.write mu he k heo) (I.hok.write mu he k heo new)
theorem aL.weak {σ':List (Option V)} (I:aL X pins σ H s) (hl:σ'.length=σ.length) (w:∀ (i:Nat) v,σ'[i]?=some (some v)->σ[i]?=some (some v)):aL X pins σ' H s:=
 ⟨I.ok,I.os,I.bare,I.base,by obtain ⟨m,hn,hl'⟩:=I.loc;exact ⟨m,hn,λ i x v e1 e2 e3=>hl' i x v e1 (w i v e2) e3⟩,I.cell,I.free,I.freeC,I.pin,I.hok,hl.trans I.len⟩
theorem aL.pins_of {pins':List (Addr×Obj)} (I:aL X pins σ H s) (h:∀ p∈pins',s.heap.get? p.1=some p.2/\H p.1=none/\p.1≠X.env.locals/\p.1∉X.fs/\∀ v,p.2.data≠.cell v):aL X pins' σ H s:=
 ⟨I.ok,I.os,I.bare,I.base,I.loc,I.cell,I.free,I.freeC,λ p hp=>(Pp.mp hp).elim (λ z=>I.pin p (List.mem_append_left _ z)) (h p),I.hok,I.len⟩
theorem sN {N:List Str} (hN:N.Nodup) {i j:Nat} {x:Str} (a:N[i]?=some x) (b:N[j]?=some x):i=j:=by
 obtain ⟨h1,e1⟩:=oG a
 obtain ⟨h2,e2⟩:=oG b
 exact (List.getElem_inj hN).mp (e1.trans e2.symm)
theorem xg {M:Model} {A:Around} {E:Value->Shared->Prop} {i:Nat} {x:Str} {v:V} {u:Value} {Q:Unit->Shared->Prop} (I:aL X pins σ H s) (hN:X.N.Nodup) (hi:X.N[i]?=some x) (hx:JQ X.env.scope x) (r:bq v u)
 (h:∀ s',aL X pins (σ.set i (some v)) H s'->(∃ a,Heap.SameBut a s.heap s'.heap/\(a=X.env.locals∨X.env.cells.lookup x=some a))->Q () s') (hf:X.fn x=true∨X.env.scope.names.lookup x=some .local:=by first | exact .inl rfl | exact .inr rfl | assumption):wpAny M A (storeName X.env x u) Q E s:=by
 obtain ⟨m,hn,hl⟩:=id I.loc;have hcls:(X.env.scope.kind==.class||(X.env.scope.kind==.module&&X.env.locals != X.env.globals))=false:=by rw [I.ok.kind];rfl
 have hiσ:i<σ.length:=by rw [I.len];exact (oG hi).1
 have cne:=I.cne;have tracked:∀ {a:Addr} {h':Heap},(∃ o,s.heap.get? a=some o/\H a=none)->Heap.SameBut a s.heap h'->iS X.prog X.w H h':=λ {a h'} ha hs b ob e=>by
  obtain ⟨_,_,hfree⟩:=ha;refine (I.hok b ob e).stay (λ c w' hc q=>(hs.2 c ?_).trans q) (λ _ q=>q) λ _ _ q=>q;rintro rfl;rcases hc with rfl | hc
  . rw [hfree] at e;cases e
  . rw [hfree] at hc;cases hc
 rcases hx with hk | hk
 . refine wpAny_storeName_local hk hn (λ h' hn' hs=>?_) hcls;obtain ⟨oL,_,_,hoL,_⟩:=id hn;refine h _ ⟨I.ok,I.os,I.bare,⟨λ b o e n hb hx=>?_,λ b o e n hb hx=>?_,I.base.free,λ b o e hx=>?_,I.base.tups,I.base.frzs,I.base.tbls⟩,⟨_,hn',λ j y v' e1 e2 e3=>?_⟩,λ y c e=>?_,I.free,I.freeC,λ p hp=>?_,tracked ⟨oL,hoL,I.free⟩ hs,by simpa using I.len⟩ ⟨_,hs,.inl rfl⟩
   . exact (hs.2 b (OP (OC (OA e) I.ok.above))).trans (I.base.keep b o e n hb hx)
   . obtain ⟨sl,e1⟩:=I.base.slot b o e n hb hx;exact ⟨sl,(hs.2 b (OP (OC (OA e) I.ok.above))).trans e1⟩
   . obtain ⟨o',e1⟩:=I.base.there b o e hx;exact ⟨o',(hs.2 b (OP (OC (OA e) I.ok.above))).trans e1⟩
   . by_cases hj:j=i
     . subst hj;rw [hi] at e1;cases e1;rw [Py hiσ] at e2;cases e2;exact ⟨u,r,.inl ⟨hk,by simp⟩⟩
     . rw [OI (Pt hj)] at e2;obtain ⟨u',r',q⟩:=hl j y v' e1 e2 e3;refine ⟨u',r',?_⟩;rcases q with ⟨k,e⟩ | ⟨k,c,e,z⟩
       . refine .inl ⟨k,?_⟩;have:y≠x:=λ e=>hj (sN hN e1 (e▸hi));simp [this,e]
       . exact .inr ⟨k,c,e,z.sameBut hs (cne y c e)⟩
   . obtain ⟨w',z⟩:=I.cell y c e;exact ⟨w',z.sameBut hs (cne y c e)⟩
   . obtain ⟨e,n,ne,nf,d⟩:=I.pin p hp;exact ⟨(hs.2 p.1 ne).trans e,n,ne,nf,d⟩
 . have hfn:X.fn x=true:=by
    rcases hf with z | z
    . exact z
    . rw [z] at hk;cases hk
   obtain ⟨c,hc⟩:=I.ok.has x (.inl hk);obtain ⟨w',z⟩:=I.cell x c hc;refine wpAny_storeName_cell I.ok.kind hk hc z (λ h' hc' hs=>?_);obtain ⟨oc,hoc,hocd⟩:=id z;refine h { s with heap:=h' } ⟨I.ok,I.os,I.bare,⟨λ b o e n hb hx=>?_,λ b o e n hb hx=>?_,I.base.free,λ b o e hx=>?_,I.base.tups,I.base.frzs,I.base.tbls⟩,⟨m,hn.sameBut hs (Pt (cne x c hc)),λ j y v' e1 e2 e3=>?_⟩,λ y c' e=>?_,I.free,I.freeC,λ p hp=>?_,tracked ⟨oc,hoc,I.freeC x c hc⟩ hs,by simpa using I.len⟩ ⟨c,hs,.inr hc⟩
   . exact (hs.2 b (OP (OC (OA e) (I.ok.cab x c hfn hc)))).trans (I.base.keep b o e n hb hx)
   . obtain ⟨sl,e1⟩:=I.base.slot b o e n hb hx;exact ⟨sl,(hs.2 b (OP (OC (OA e) (I.ok.cab x c hfn hc)))).trans e1⟩
   . obtain ⟨o',e1⟩:=I.base.there b o e hx;exact ⟨o',(hs.2 b (OP (OC (OA e) (I.ok.cab x c hfn hc)))).trans e1⟩
   . by_cases hj:j=i
     . subst hj;rw [hi] at e1;cases e1;rw [Py hiσ] at e2;cases e2;exact ⟨u,r,.inr ⟨.inl hk,c,hc,hc'⟩⟩
     . rw [OI (Pt hj)] at e2;obtain ⟨u',r',q⟩:=hl j y v' e1 e2 e3;refine ⟨u',r',?_⟩;rcases q with q | ⟨k,c',e,z'⟩
       . exact .inl q
       . refine .inr ⟨k,c',e,z'.sameBut hs ?_⟩;rintro rfl;exact hj (sN hN e1 (I.ok.inj _ _ _ e hc▸hi))
   . by_cases hcc:c'=c
     . subst hcc;exact ⟨_,hc'⟩
     . obtain ⟨w2,z2⟩:=I.cell y c' e;exact ⟨w2,z2.sameBut hs hcc⟩
   . obtain ⟨e,n,ne,nf,d⟩:=I.pin p hp;refine ⟨(hs.2 p.1 ?_).trans e,n,ne,nf,d⟩;intro q;rw [q,hoc] at e;have q':oc=p.2:=OT e;exact d w' (by rw [<-q'];exact hocd)
theorem tW {M:Model} {A:Around} {E:Value->Shared->Prop} {i:Nat} {x:Str} {v:V} {u:Value} {Q:Unit->Shared->Prop} (I:aL X pins σ H s) (hN:X.N.Nodup) (hi:X.N[i]?=some x) (hx:JQ X.env.scope x) (r:bq v u)
 (h:∀ s',aL X pins (σ.set i (some v)) H s'->Q () s') (hf:X.fn x=true∨X.env.scope.names.lookup x=some .local:=by first | exact .inl rfl | exact .inr rfl | assumption):wpAny M A (storeName X.env x u) Q E s:=
 xg I hN hi hx r (λ s' I' _=>h s' I') hf
theorem aL.call' {s':Shared} {ch:List Addr} (I:aL X pins σ H s) (ho:s'.os=s.os) (u:Un (jy X.stack) ch H H' s.heap s'.heap) (hok:iS X.prog X.w H' s'.heap) (hg:AllBare s'.gens)
 (hch:∀ b∈ch,(b∈X.ex∨X.s₀.heap.objs.size<=b)/\b≠X.env.locals/\(∀ x c,X.env.cells.lookup x=some c->c≠b)/\∀ p∈X.pn++pins,p.1≠b):aL X pins σ H' s':=by
 obtain ⟨h',g',d',t',o'⟩:=s';have e:o'=s.os:=ho;subst e;exact I.call (g':=g') (t':=t') (d':=d') u hok hg hch
end
noncomputable abbrev XK:=Value->Option Addr->Hp->Prop
noncomputable abbrev St:=List (Option V)
noncomputable abbrev VK:=V->Hp->Prop
noncomputable abbrev TE:=St->Hp->VK->Prop
noncomputable abbrev TT:=St->Hp->(Bool->Hp->Prop)->Prop
noncomputable abbrev TA:=St->Hp->(List V->Hp->Prop)->Prop
structure iZ where
 nx:St->Hp->Prop
 rt:VK
 bk:St->Hp->Prop:=λ _ _=>False
 ct:St->Hp->Prop:=λ _ _=>False
noncomputable abbrev TS:=iZ->St->Hp->Prop
noncomputable def EP (X:Cx) (pins:List (Addr×Obj)) (σ:St) (Q:VK) (u:Value) (s':Shared):Prop:=∃ v H',aL X pins σ H' s'/\bq v u/\Q v H'
noncomputable def TP (X:Cx) (pins:List (Addr×Obj)) (σ:St) (Q:Bool->Hp->Prop) (b:Bool) (s':Shared):Prop:=∃ H',aL X pins σ H' s'/\Q b H'
noncomputable def AP (X:Cx) (pins:List (Addr×Obj)) (σ:St) (Q:List V->Hp->Prop) (us:List Value) (s':Shared):Prop:=∃ vs H',aL X pins σ H' s'/\be vs us/\Q vs H'
noncomputable def SP (X:Cx) (pins:List (Addr×Obj)) (D:iZ) (f:Flow) (s':Shared):Prop:=
 match f with
 | .next=>∃ σ' H',aL X pins σ' H' s'/\D.nx σ' H'
 | .brk=>∃ σ' H',aL X pins σ' H' s'/\D.bk σ' H'
 | .cont=>∃ σ' H',aL X pins σ' H' s'/\D.ct σ' H'
 | .ret u=>∃ v σ' H',aL X pins σ' H' s'/\bq v u/\D.rt v H'
noncomputable def PE (X:Cx) (e:Expr) (t:TE):Prop:=
 ∀ (pins:List (Addr×Obj)) (s:Shared) (σ:St) (H:Hp) (Q:VK),aL X pins σ H s->t σ H Q->wpAny (model X.prog X.w) X.A (eval e X.env) (EP X pins σ Q) X.xe s
noncomputable def PT (X:Cx) (e:Expr) (t:TT):Prop:=
 ∀ (pins:List (Addr×Obj)) (s:Shared) (σ:St) (H:Hp) (Q:Bool->Hp->Prop),aL X pins σ H s->t σ H Q->wpAny (model X.prog X.w) X.A (isTrue e X.env (eval e X.env)) (TP X pins σ Q) X.xe s
noncomputable def PW (X:Cx) (e:Expr) (t:TT):Prop:=
 ∀ (whole:Sem Value) (pins:List (Addr×Obj)) (s:Shared) (σ:St) (H:Hp) (Q:Bool->Hp->Prop),aL X pins σ H s->t σ H Q->wpAny (model X.prog X.w) X.A (isTrue e X.env whole) (TP X pins σ Q) X.xe s
theorem PW.pt {X:Cx} {e:Expr} {t:TT} (h:PW X e t):PT X e t:=h _
noncomputable def PA (X:Cx) (es:List Expr) (t:TA):Prop:=
 ∀ (pos:Pos) (pins:List (Addr×Obj)) (s:Shared) (σ:St) (H:Hp) (Q:List V->Hp->Prop),aL X pins σ H s->t σ H Q->wpAny (model X.prog X.w) X.A (spliced (backTo pos (starEach es X.env))) (AP X pins σ Q) X.xe s
noncomputable def PS (X:Cx) (st:Stmt) (t:TS):Prop:=
 ∀ (pins:List (Addr×Obj)) (s:Shared) (σ:St) (H:Hp) (D:iZ),aL X pins σ H s->t D σ H->wpAny (model X.prog X.w) X.A (exec st X.env) (SP X pins D) X.xe s
noncomputable def nL (X:Cx) (st:List Stmt) (t:TS):Prop:=
 ∀ (pins:List (Addr×Obj)) (s:Shared) (σ:St) (H:Hp) (D:iZ),aL X pins σ H s->t D σ H->wpAny (model X.prog X.w) X.A (execs st X.env) (SP X pins D) X.xe s
theorem cy {α:Type} {t:Sem α} {Q Q':α->Shared->Prop} {M:Model} {A:Around} {E:Value->Shared->Prop} {s:Shared} (h:wpAny M A t Q E s) (hQ:∀ a s,Q a s->Q' a s):wpAny M A t Q' E s:=O4 h hQ λ _ _ x=>x
section
variable {X:Cx}
noncomputable def AY (i:Nat):TE:=λ σ H Q=>∃ v,σ[i]?=some (some v)/\Q v H
noncomputable def tC (v:V):TE:=λ _ H Q=>Q v H
theorem LM {i:Nat} {x:Str} {pos:Pos} (hN:X.N[i]?=some x) (hv:JV X.env.scope x) (hd:(x==("__debug__" : Str))=false) (hcd:(x==("__classdict__" : Str))=false):PE X (.Name x pos) (AY i):=by
 intro pins s σ H Q I h;obtain ⟨v,e,h⟩:=h;obtain ⟨m,hn,hl⟩:=I.loc;obtain ⟨u,r,l⟩:=hl i x v hN e hv;have fin:EP X pins σ Q u s:=⟨v,H,I,r,h⟩
 rcases l with ⟨hk,hm⟩ | ⟨hk,c,hc,hcell⟩
 . exact wpAny_Name (wpAny_loadName_local I.ok.kind hk hn hm fin) hd
 . rcases hk with hk | hk
   . exact wpAny_Name (wpAny_loadName_cell I.ok.kind hk hc hcell fin) hd
   . exact wpAny_Name (wpAny_loadName_free I.ok.kind hk hc hcell fin hcd) hd
theorem Mo {i j pos}:PE X (.Constant (.int i) j pos) (tC (.int i)):=λ _ _ _ H _ I h=>wpAny_Constant_int ⟨.int i,H,I.tok _,⟨_,rfl⟩,h⟩
theorem MI {b j pos}:PE X (.Constant (.bool b) j pos) (tC (.bl b)):=λ _ _ _ H _ I h=>Constant_bool ⟨.bl b,H,I,rfl,h⟩
theorem KR {j pos}:PE X (.Constant .none j pos) (tC .non):=λ _ _ _ H _ I h=>Constant_none ⟨.non,H,I,rfl,h⟩
theorem KQ {x j pos}:PE X (.Constant (.str x) j pos) (tC (.str x)):=λ _ _ _ H _ I h=>Calls.Constant_str ⟨.str x,H,I.tok _,⟨_,rfl⟩,h⟩
noncomputable def Gl (X:Cx) (x:Str):Prop:=X.env.kindOf x=some .globalImplicit
theorem gY {E:Value->Shared->Prop} {pins:List (Addr×Obj)} {s:Shared} {σ:St} {H:Hp} {x:Str} {u:Value} {pos:Pos} {Q:Value->Shared->Prop} (I:aL X pins σ H s) (hg:Gl X x) (hm:X.mg x=some u) (h:Q u s)
 (hd:(x==("__debug__" : Str))=false:=by decide):wpAny (model X.prog X.w) X.A (eval (.Name x pos) X.env) Q E s:=
 Calls.Name_function_global I.ok.kind hg (Calls.loadGlobal_global (by rw [I.ok.glob];exact I.mod.glob.keeps I.bk) hm h) hd
theorem rE {E:Value->Shared->Prop} {pins:List (Addr×Obj)} {s:Shared} {σ:St} {H:Hp} {x:Str} {u:Value} {pos:Pos} {Q:Value->Shared->Prop} (I:aL X pins σ H s) (hg:Gl X x) (hm:X.mg x=none) (hv:bootBuiltins x=some u) (h:Q u s)
 (hn:x ≠ "__name__" := by decide) (hd:(x==("__debug__" : Str))=false:=by decide):wpAny (model X.prog X.w) X.A (eval (.Name x pos) X.env) Q E s:=by
 obtain ⟨mb,h1,h2⟩:=I.mod.blt;exact Calls.Name_function_global I.ok.kind hg (Calls.loadGlobal_builtin (by rw [I.ok.glob];exact I.mod.glob.keeps I.bk) hm (by rw [I.ok.blt];exact h1.keeps I.bk) ((h2 x hn).trans hv) h) hd
theorem wt {x:Str} {v:V} {u:Value} {pos:Pos} (hg:Gl X x) (hm:X.mg x=some u) (r:bq v u) (hd:(x==("__debug__" : Str))=false:=by decide):PE X (.Name x pos) (tC v):=
 λ _ _ _ H _ I h=>gY I hg hm ⟨v,H,I,r,h⟩ hd
theorem qK {x:Str} {v:V} {u:Value} {pos:Pos} (hg:Gl X x) (hm:X.mg x=none) (hv:bootBuiltins x=some u) (r:bq v u) (hn:x ≠ "__name__" := by decide) (hd:(x==("__debug__" : Str))=false:=by decide):PE X (.Name x pos) (tC v):=
 λ _ _ _ H _ I h=>rE I hg hm hv ⟨v,H,I,r,h⟩ hn hd
variable {a b:Expr} {ta tb:TE} {pos:Pos}
noncomputable def PC (X:Cx) (op:CmpOp) (a b:Expr) (t:TE):Prop:=
 ∀ (pins:List (Addr×Obj)) (s:Shared) (σ:St) (H:Hp) (Q:VK),aL X pins σ H s->t σ H Q->
  wpAny (model X.prog X.w) X.A (eval a X.env) (λ v s₁=>wpAny (model X.prog X.w) X.A (eval b X.env) (λ u s₂=>wpAny (model X.prog X.w) X.A (compareOp op v u) (EP X pins σ Q) X.xe s₂) X.xe s₁) X.xe s
noncomputable def tB (t:TE):TT:=λ σ H Q=>t σ H λ x H1=>∃ c,x=.bl c/\Q c H1
theorem Ml {op:CmpOp} {t:TE} (h:PC X op a b t) (h1:behindInMarks op b=false):PT X (.Compare a [op] [b] pos) (tB t):=by
 intro pins s σ H Q I hw;refine wpAny_isTrue_Compare1 (cy (h pins s σ H _ I hw) λ v s1 h1=>cy h1 λ u s2 h2=>cy h2 λ c s3 hq0=>?_) h1;obtain ⟨x,H1,I1,r1,q1⟩:=hq0;obtain ⟨d,rfl,q⟩:=q1;cases r1;exact Pj ⟨H1,I1,q⟩
theorem Mc {e:Expr} {t:TE} (h:PE X e t) (he:∀ whole,isTrue e X.env whole=(do let v <-whole;standAt e.pos;holding [v] (truthy v))):PT X e (tB t):=by
 intro pins s σ H Q I hw;refine isTrue_plain (cy (h pins s σ H _ I hw) λ v s1 hq0=>?_) (he _);obtain ⟨x,H1,I1,r1,q1⟩:=hq0;obtain ⟨d,rfl,q⟩:=q1;cases r1;exact Pj ⟨H1,I1,q⟩
variable {tA tB':TT} {aZ:List Expr}
noncomputable def Ez (t u:TT):TT:=λ σ H Q=>t σ H λ c H1=>if c=true then u σ H1 Q else Q false H1
noncomputable def Mh (t u:TT):TT:=λ σ H Q=>t σ H λ c H1=>if c=true then Q true H1 else u σ H1 Q
noncomputable def GD (t:TT):TT:=λ σ H Q=>t σ H λ c H1=>Q (!c) H1
theorem JT (ha:PT X a tA):PW X (.BoolOp .And [a] pos) tA:=by
 intro wh pins s σ H Q I h;refine isTrue_and (cy (ha pins s σ H Q I h) λ c s1 e=>?_);cases c with
 | true=>exact isTrue_and_nil e
 | false=>exact e
theorem LO (ha:PT X a tA):PW X (.BoolOp .Or [a] pos) tA:=by
 intro wh pins s σ H Q I h;refine isTrue_or (cy (ha pins s σ H Q I h) λ c s1 e=>?_);cases c with
 | false=>exact isTrue_or_nil e
 | true=>exact e
theorem Le (ha:PT X a tA) (hb:PW X (.BoolOp .And (b::aZ) pos) tB'):PW X (.BoolOp .And (a::b::aZ) pos) (Ez tA tB'):=by
 intro wh pins s σ H Q I h;refine isTrue_and (cy (ha pins s σ H _ I h) λ c s1 hq0=>?_);obtain ⟨H1,I1,q1⟩:=hq0;cases c with
 | true=>exact hb wh pins s1 σ H1 Q I1 q1
 | false=>exact ⟨H1,I1,q1⟩
theorem Mv (ha:PT X a tA) (hb:PW X (.BoolOp .Or (b::aZ) pos) tB'):PW X (.BoolOp .Or (a::b::aZ) pos) (Mh tA tB'):=by
 intro wh pins s σ H Q I h;refine isTrue_or (cy (ha pins s σ H _ I h) λ c s1 hq0=>?_);obtain ⟨H1,I1,q1⟩:=hq0;cases c with
 | true=>exact ⟨H1,I1,q1⟩
 | false=>exact hb wh pins s1 σ H1 Q I1 q1
theorem LJ (ha:PT X a tA):PT X (.UnaryOp .Not a pos) (GD tA):=by
 intro pins s σ H Q I h;exact isTrue_not (ha pins s σ H (λ c H1=>Q (!c) H1) I h)
noncomputable def CW (ta tb:TE):TE:=λ σ H Q=>ta σ H λ x H1=>∃ c,x=.bl c/\if c=true then tb σ H1 Q else Q (.bl false) H1
theorem LW {op} {t:TE} (h:PE X a t):PE X (.BoolOp op [a] pos) t:=λ pins s σ H Q I hw=>BoolOp_one (h pins s σ H Q I hw)
theorem LP (ha:PE X a ta) (hb:PE X (.BoolOp .And (b::aZ) pos) tb):PE X (.BoolOp .And (a::b::aZ) pos) (CW ta tb):=by
 intro pins s σ H Q I h;refine BoolOp_and (cy (ha pins s σ H _ I h) λ v s1 hq0=>?_);obtain ⟨x,H1,I1,r1,q1⟩:=hq0;obtain ⟨c,rfl,q1⟩:=q1;cases r1;refine Pj ?_;cases c with
 | true=>exact hb pins s1 σ H1 Q I1 q1
 | false=>exact ⟨.bl false,H1,I1,rfl,q1⟩
noncomputable def Mi (t:TT) (ta tb:TE):TE:=λ σ H Q=>t σ H λ c H1=>if c=true then ta σ H1 Q else tb σ H1 Q
theorem IL {c:Expr} (hc:PT X c tA) (ha:PE X a ta) (hb:PE X b tb):PE X (.IfExp c a b pos) (Mi tA ta tb):=by
 intro pins s σ H Q I h;refine wpAny_IfExp (cy (hc pins s σ H _ I h) λ d s1 hq0=>?_);obtain ⟨H1,I1,q1⟩:=hq0;cases d with
 | true=>exact ha pins s1 σ H1 Q I1 q1
 | false=>exact hb pins s1 σ H1 Q I1 q1
end
noncomputable def eS (K:Frag) (H:Hp) (a:Addr) (xs:List V):Prop:=
 Rd H a (.lst xs)∨
  ∃ (o:Obj) (its:Array Value) (n:Nat),K.lookup a=some o/\o.cls=.type "list" /\ o.dict=none/\o.data=.seq its n/\its.size<=sizeLine/\be xs its.toList
noncomputable def gU (K:Frag) (H:Hp) (a:Addr) (xs:List V):Prop:=
 Rd H a (.tup xs)∨
  ∃ (o:Obj) (its:Array Value) (n:Nat),K.lookup a=some o/\o.cls=.type "tuple" /\ o.data=.seq its n/\its.size<=sizeLine/\be xs its.toList
noncomputable def LC:Value->Option V
 | .none=>some .non
 | .bool b=>some (.bl b)
 | .int i _=>some (.int i)
 | .str x _=>some (.str x)
 | .bytes b _=>some (.byt b)
 | .float b _=>some (.flt b)
 | .ref a=>some (.ref a)
 | .type n=>some (.ty n)
 | _=>none
theorem bq.abs {x:V} {u:Value} (r:bq x u):LC u=some x:=by
 cases x with
 | non=>cases r;rfl
 | bl _=>cases r;rfl
 | int _=>obtain ⟨t,rfl⟩:=r;rfl
 | str _=>obtain ⟨t,rfl⟩:=r;rfl
 | byt _=>obtain ⟨t,rfl⟩:=r;rfl
 | flt _=>obtain ⟨t,rfl⟩:=r;rfl
 | ref _=>cases r;rfl
 | ty _=>cases r;rfl
theorem bq.inj {x y:V} {u:Value} (r:bq x u) (q:bq y u):x=y:=OT (r.abs.symm.trans q.abs)
theorem be.inj {xs ys:List V} {us:List Value} (h:be xs us) (h':be ys us):xs=ys:=by
 induction h generalizing ys with
 | nil=>cases h';rfl
 | cons r _ ih=>
  cases h' with
  | cons r' t'=>rw [r.inj r',ih t']
section
variable {X:Cx} {pins:List (Addr×Obj)} {σ:St} {H:Hp} {s:Shared} {a:Addr} {xs ys:List V}
theorem eS.of {K:Frag} (h:H a=some (.lst xs)):eS K H a xs:=.inl (.inl h)
theorem gU.of {K:Frag} (h:H a=some (.tup xs)):gU K H a xs:=.inl (.inl h)
theorem aL.list (I:aL X pins σ H s) (h:eS X.K H a xs):∃ its:List Value,be xs its/\PlainL s.heap a its.toArray/\xs.length<=sizeLine:=by
 rcases h with h | ⟨o,its,n,hk,hc,hd,hs,hz,r⟩
 . obtain ⟨z,its,n,r,e⟩:=h.ok I.hok;exact ⟨its,r,⟨_,n,e,rfl,rfl,rfl⟩,z⟩
 . refine ⟨its.toList,r,⟨o,n,I.kIn a o hk,hc,hd,by simpa using hs⟩,?_⟩;have e:=r.length;simp only [Pw] at e;omega
theorem aL.tuple (I:aL X pins σ H s) (h:gU X.K H a xs):∃ its:List Value,be xs its/\IsTup s.heap a its.toArray/\xs.length<=sizeLine:=by
 rcases h with h | ⟨o,its,n,hk,hc,hs,hz,r⟩
 . obtain ⟨z,its,r,p⟩:=h.ok I.hok;exact ⟨its,r,p,z⟩
 . refine ⟨its.toList,r,⟨o,I.kIn a o hk,hc,n,by simpa using hs⟩,?_⟩;have e:=r.length;simp only [Pw] at e;omega
theorem aL.list_inj (I:aL X pins σ H s) (h:eS X.K H a xs) (h':eS X.K H a ys):xs=ys:=by
 obtain ⟨its,r,⟨o,n,e,_,_,d⟩,_⟩:=I.list h;obtain ⟨its',r',⟨o',n',e',_,_,d'⟩,_⟩:=I.list h';rw [e] at e';cases e';rw [d] at d';injection d' with d1 _
 have:its=its':=by simpa using Om Array.toList d1
 subst this;exact r.inj r'
theorem aL.tuple_inj (I:aL X pins σ H s) (h:gU X.K H a xs) (h':gU X.K H a ys):xs=ys:=by
 obtain ⟨its,r,⟨o,e,_,n,d⟩,_⟩:=I.tuple h;obtain ⟨its',r',⟨o',e',_,n',d'⟩,_⟩:=I.tuple h';rw [e] at e';cases e';rw [d] at d';injection d' with d1 _
 have:its=its':=by simpa using Om Array.toList d1
 subst this;exact r.inj r'
end
noncomputable abbrev Cx.wish (X:Cx) (E:Value->Shared->Prop):Cx:={ X with xe:=E }
noncomputable abbrev Cx.nox (X:Cx):Cx:=X.wish λ _ _=>False
theorem Cx.Ok.wish {X:Cx} (ok:X.Ok) (E:Value->Shared->Prop):(X.wish E).Ok:=
 ⟨ok.mod,ok.kind,ok.glob,ok.blt,ok.above,ok.inj,ok.has,ok.cab,ok.hd,ok.frames,ok.stk,ok.exf,ok.bs,ok.bsz,ok.noex,ok.exfs,ok.funs,ok.frf⟩
theorem Cx.Ok.unwish {X:Cx} {E:Value->Shared->Prop} (ok:(X.wish E).Ok):X.Ok:=
 ⟨ok.mod,ok.kind,ok.glob,ok.blt,ok.above,ok.inj,ok.has,ok.cab,ok.hd,ok.frames,ok.stk,ok.exf,ok.bs,ok.bsz,ok.noex,ok.exfs,ok.funs,ok.frf⟩
section
variable {X:Cx} {pins:List (Addr×Obj)} {σ:St} {H:Hp} {s:Shared} {E:Value->Shared->Prop}
theorem aL.wish (I:aL X pins σ H s) (E:Value->Shared->Prop):aL (X.wish E) pins σ H s:=⟨I.ok.wish E,I.os,I.bare,I.base,I.loc,I.cell,I.free,I.freeC,I.pin,I.hok,I.len⟩
theorem aL.unwish (I:aL (X.wish E) pins σ H s):aL X pins σ H s:=⟨I.ok.unwish,I.os,I.bare,I.base,I.loc,I.cell,I.free,I.freeC,I.pin,I.hok,I.len⟩
theorem SP.unwish {D:iZ} {f:Flow} {s':Shared} (h:SP (X.wish E) pins D f s'):SP X pins D f s':=by
 cases f with
 | next=>obtain ⟨σ',H',I,q⟩:=h;exact ⟨σ',H',I.unwish,q⟩
 | brk=>obtain ⟨σ',H',I,q⟩:=h;exact ⟨σ',H',I.unwish,q⟩
 | cont=>obtain ⟨σ',H',I,q⟩:=h;exact ⟨σ',H',I.unwish,q⟩
 | ret u=>obtain ⟨v,σ',H',I,r,q⟩:=h;exact ⟨v,σ',H',I.unwish,r,q⟩
theorem nL.nox {st:List Stmt} {t:TS} (h:nL X.nox st t):nL X st t:=λ pins s σ H D I hw=>
 O4 (h pins s σ H D (I.wish _) hw) (λ _ _ q=>q.unwish) λ _ _ z=>False.elim z
end
section
variable {X:Cx} {st:Stmt} {aZ:List Stmt} {t u:TS} {e:Expr} {te:TE} {pos:Pos}
noncomputable def Dr:TS:=λ D σ H=>D.nx σ H
noncomputable def Gs (t u:TS):TS:=λ D σ H=>t { D with nx:=u D } σ H
theorem K1:nL X [] Dr:=λ _ _ σ H _ I h=>PF ⟨σ,H,I,h⟩
theorem JL (h1:PS X st t) (h2:nL X aZ u):nL X (st::aZ) (Gs t u):=by
 intro pins s σ H D I h;refine wpAny_execs_cons (cy (h1 pins s σ H { D with nx:=u D } I h) λ f s1 q=>?_);cases f with
 | next=>
  obtain ⟨σ',H',I',q⟩:=q;exact h2 pins s1 σ' H' D I' q
 | ret v=>exact q
 | brk=>exact q
 | cont=>exact q
theorem JU (h1:PS X st t):nL X [st] t:=by
 intro pins s σ H D I h;refine wpAny_execs_cons (cy (h1 pins s σ H D I h) λ f s1 q=>?_);cases f with
 | next=>exact PF q
 | ret v=>exact q
 | brk=>exact q
 | cont=>exact q
theorem aL.quiet {pins:List (Addr×Obj)} {σ:St} {H:Hp} {s:Shared} (I:aL X pins σ H s):interactive X.env=false:=by simp [interactive,I.ok.kind]
noncomputable def wd (te:TE):TS:=λ D σ H=>te σ H λ _ H1=>D.nx σ H1
theorem Kt (he:PE X e te) (hs:swapsWith e none pos.line X.env=pure false):PS X (.Expr e pos) (wd te):=by
 intro pins s σ H D I h;exact wpAny_Expr_any (cy (he pins s σ H _ I h) λ v s1 hy0=>by obtain ⟨x,H1,I1,r1,q1⟩:=hy0;exact ⟨σ,H1,I1,q1⟩) I.quiet hs
noncomputable def Gq (te:TE):TS:=λ D σ H=>te σ H D.rt
theorem KY (he:PE X e te):PS X (.Return (some e) pos) (Gq te):=by
 intro pins s σ H D I h;exact wpAny_Return_some (cy (he pins s σ H _ I h) λ v s1 hy0=>by obtain ⟨x,H1,I1,r1,q1⟩:=hy0;exact ⟨x,σ,H1,I1,r1,q1⟩)
noncomputable def D9:TS:=λ D _ H=>D.rt .non H
theorem Kg:PS X (.Return none pos) D9:=λ _ _ σ H _ I h=>wpAny_Return_none ⟨.non,σ,H,I,rfl,h⟩
noncomputable def EN (c:TT) (t u:TS):TS:=λ D σ H=>c σ H λ b H1=>if b=true then t D σ H1 else u D σ H1
theorem M3 {c:Expr} {a b:List Stmt} {tc:TT} (hc:PT X c tc) (ha:nL X a t) (hb:nL X b u):PS X (.If c a b pos) (EN tc t u):=by
 intro pins s σ H D I h;refine wpAny_If (cy (hc pins s σ H _ I h) λ d s1 hq0=>?_);obtain ⟨H1,I1,q1⟩:=hq0;cases d with
 | true=>exact ha pins s1 σ H1 D I1 q1
 | false=>exact hb pins s1 σ H1 D I1 q1
noncomputable def zH:TS:=λ _ _ _=>False
theorem Ji:PS X st zH:=λ _ _ _ _ _ _ h=>h.elim
end
noncomputable abbrev TG:=V->St->Hp->(St->Hp->Prop)->Prop
noncomputable abbrev yi:=List V->St->Hp->(St->Hp->Prop)->Prop
noncomputable def PG (X:Cx) (target:Expr) (t:TG):Prop:=
 ∀ (pins:List (Addr×Obj)) (s:Shared) (σ:St) (H:Hp) (v:V) (u:Value) (Q:St->Hp->Prop),aL X pins σ H s->bq v u->t v σ H Q->
  wpAny (model X.prog X.w) X.A (assign target X.env u) (λ _ s'=>∃ σ' H',aL X pins σ' H' s'/\Q σ' H') X.xe s
noncomputable def Hy (X:Cx) (ts:List Expr) (t:yi):Prop:=
 ∀ (pins:List (Addr×Obj)) (s:Shared) (σ:St) (H:Hp) (vs:List V) (us:List Value) (Q:St->Hp->Prop),aL X pins σ H s->be vs us->t vs σ H Q->
  wpAny (model X.prog X.w) X.A (assignInOrder ((assignEach ts X.env).map (·.2)) us) (λ _ s'=>∃ σ' H',aL X pins σ' H' s'/\Q σ' H') X.xe s
noncomputable abbrev EH:=V->V->V->Hp->(Hp->Prop)->Prop
noncomputable def Jc (X:Cx) (t:EH):Prop:=
 ∀ (pins:List (Addr×Obj)) (s:Shared) (σ:St) (H:Hp) (o i v:V) (ov iv u:Value) (Q:Hp->Prop),aL X pins σ H s->bq o ov->bq i iv->bq v u->t o i v H Q->
  wpAny (model X.prog X.w) X.A (setItem ov iv u) (λ _ s'=>∃ H',aL X pins σ H' s'/\Q H') X.xe s
section
variable {X:Cx} {pos:Pos}
noncomputable def sM (i:Nat):TG:=λ v σ H Q=>Q (σ.set i (some v)) H
theorem KD {i:Nat} {x:Str} (hN:X.N.Nodup) (hi:X.N[i]?=some x) (hx:JQ X.env.scope x) (hf:X.fn x=true∨X.env.scope.names.lookup x=some .local):PG X (.Name x pos) (sM i):=by
 intro pins s σ H v u Q I r h;exact wpAny_assign_Name (tW I hN hi hx r (λ s' I'=>⟨_,H,I',h⟩) hf)
noncomputable def JO:yi:=λ vs σ H Q=>vs=[]/\Q σ H
noncomputable def Di (t:TG) (u:yi):yi:=λ vs σ H Q=>∃ v r,vs=v::r/\t v σ H λ σ' H'=>u r σ' H' Q
theorem JZ:Hy X [] JO:=by
 intro pins s σ H vs us Q I r h;obtain ⟨e,h⟩:=h;subst e;cases r;exact assignInOrder_nil ⟨σ,H,I,h⟩
theorem HR {e:Expr} {es:List Expr} {t:TG} {u:yi} (h1:PG X e t) (h2:Hy X es u)
 (hs:(assignEach (e::es) X.env).map (·.2)=assign e X.env::(assignEach es X.env).map (·.2)):Hy X (e::es) (Di t u):=by
 intro pins s σ H vs us Q I r h;obtain ⟨v,vr,e1,h⟩:=h;subst e1;cases r with
 | cons r rr=>
  rw [hs];refine assignInOrder_cons (cy (h1 pins s σ H _ _ _ I r h) λ _ s1 hq0=>?_);obtain ⟨σ1,H1,I1,q1⟩:=hq0;exact h2 pins s1 σ1 H1 _ _ Q I1 rr q1
noncomputable def FZ (K:Frag) (n:Nat) (t:yi):TG:=λ v σ H Q=>∃ a xs,v=.ref a/\gU K H a xs/\xs.length=n/\t xs σ H Q
theorem Hg {es:List Expr} {k:Nat} {t:yi} {n:Nat} (hc:X.calm=true) (h:Hy X es t)
 (hn:(assignEach es X.env).length=n:=by rfl) (hst:(assignEach es X.env).findIdx? (·.1)=none:=by rfl):PG X (.Tuple es k pos) (FZ X.K n t):=by
 intro pins s σ H v u Q I r hw;obtain ⟨a,xs,e1,hq,hl,hw⟩:=hw;subst e1;cases r;obtain ⟨its,rv,ht,hz⟩:=I.tuple hq;refine assign_Tuple_tuple (I.ok.hd hc) ht (by simp [hn,<-hl,rv.length]) hst λ h' hx=>?_;have I1:aL X pins σ H { s with heap:=h' }:=I.kept (t':=s.toks) λ b o e=>hx b o (OP (OA e)) e;exact h pins _ σ H xs _ Q I1 (by simpa using rv) hw
noncomputable def GO (to ti:TE) (t:EH):TG:=λ v σ H Q=>to σ H λ o H1=>ti σ H1 λ i H2=>t o i v H2 λ H3=>Q σ H3
theorem Fc {o i:Expr} {to ti:TE} {t:EH} (ho:PE X o to) (hi:PE X i ti) (hs:Jc X t)
 (ha:∀ v,assign (.Subscript o i pos) X.env v=(do
  let ov <-holding [v] (eval o X.env);let iv <-holding [v,ov] (eval i X.env)
  standAt pos
  holding [v,ov,iv] (setItem ov iv v)
  release [v,ov,iv] []):=by intro _;rfl):PG X (.Subscript o i pos) (GO to ti t):=by
 intro pins s σ H v u Q I r h;rw [ha];refine Ov (Pa (cy (ho pins s σ H _ I h) λ ov s1 hq0=>?_));obtain ⟨x,H1,I1,r1,q1⟩:=hq0;refine Ov (Pa (cy (hi pins s1 σ H1 _ I1 q1) λ iv s2 hq0=>?_));obtain ⟨y,H2,I2,r2,q2⟩:=hq0;refine Ov (wpAny_standAt (Ov (Pa (cy (hs pins s2 σ H2 x y v ov iv u _ I2 r1 r2 r q2) λ _ s3 hq0=>?_))));obtain ⟨H3,I3,q3⟩:=hq0;exact wpAny_release ⟨σ,H3,I3,q3⟩
noncomputable def uH (te:TE) (g:TG):TS:=λ D σ H=>te σ H λ x H1=>g x σ H1 D.nx
theorem Et {tg e:Expr} {te:TE} {g:TG} (he:PE X e te) (hg:PG X tg g) (hs:swapsWithSole [tg] e pos.line X.env=pure false:=by rfl) (hw:swappedStores [tg] e X.env=pure none:=by rfl)
 (h1:(assignEach [tg] X.env).map (·.2)=[assign tg X.env]:=by rfl):PS X (.Assign [tg] e pos) (uH te g):=by
 intro pins s σ H D I h;refine wpAny_Assign_stores (cy (he pins s σ H _ I h) λ v s1 hq0=>?_) hs hw;obtain ⟨x,H1,I1,r1,q1⟩:=hq0;rw [h1];exact cy (hg pins s1 σ H1 x v _ I1 r1 q1) λ _ s2 q=>q
theorem KL {i:Nat} {x:Str} {e:Expr} {te:TE} {pos':Pos} (hN:X.N.Nodup) (hi:X.N[i]?=some x) (hx:JQ X.env.scope x) (he:PE X e te) (hs:swapsWith e (some (.Name x pos')) pos.line X.env=pure false) (hf:X.fn x=true∨X.env.scope.names.lookup x=some .local):
 PS X (.Assign [.Name x pos'] e pos) (uH te (sM i)):=by
 intro pins s σ H D I h;refine wpAny_Assign_Name (cy (he pins s σ H _ I h) λ v s1 hq0=>?_) hs;obtain ⟨y,H1,I1,r1,q1⟩:=hq0;exact tW I1 hN hi hx r1 (λ s2 I2=>⟨_,H1,I2,q1⟩) hf
end
section
variable {X:Cx} {pos:Pos}
noncomputable def vi (c:TT) (tb:TS):TS:=λ D σ H=>∃ W:Nat->St->Hp->Prop,(∃ m,W m σ H)/\∀ m σ H,W m σ H->
 c σ H λ b H1=>if b=true then ∃ N:St->Hp->Prop,(∀ σ' H',N σ' H'->∃ m',m'<m/\W m' σ' H')/\tb { D with nx:=N,ct:=N,bk:=D.nx } σ H1 else D.nx σ H1
theorem Im {c:Expr} {body:List Stmt} {tc:TT} {tb:TS} (hp:PassesOwn (model X.prog X.w) X.A X.env X.xe) (hc:PT X c tc) (hb:nL X body tb):PS X (.While c body [] pos) (vi tc tb):=by
 intro pins s σ H D I h;obtain ⟨W,⟨m0,w0⟩,turn⟩:=h;refine wpAny_While (codeAny_whileLoop (λ n s'=>∃ σ' H',aL X pins σ' H' s'/\W n σ' H') ?_ m0 ⟨σ,H,I,w0⟩);rintro n s1 ⟨σ1,H1,I1,w1⟩;refine Pq hp (cy (hc pins s1 σ1 H1 _ I1 (turn n σ1 H1 w1)) λ b s2 hq0=>?_);obtain ⟨H2,I2,q2⟩:=hq0;cases b with
 | true=>
  obtain ⟨N,hN,q2⟩:=q2;rw [Oo rfl];refine Pq hp (cy (hb pins s2 σ1 H2 _ I2 q2) λ f s3 q3=>?_);cases f with
  | next=>
   obtain ⟨σ3,H3,I3,n3⟩:=q3;obtain ⟨m',hm,w3⟩:=hN σ3 H3 n3;exact ⟨m',hm,σ3,H3,I3,w3⟩
  | cont=>
   obtain ⟨σ3,H3,I3,n3⟩:=q3;obtain ⟨m',hm,w3⟩:=hN σ3 H3 n3;exact ⟨m',hm,σ3,H3,I3,w3⟩
  | brk=>exact q3
  | ret v=>exact q3
 | false=>
  rw [Oq Oy];exact PF ⟨σ1,H2,I2,q2⟩
end
structure It where
 go:Nat->Hp->Prop
 yld:Nat->Hp->V->Hp->Prop
 stop:Nat->Hp->Prop
noncomputable def lS (X:Cx) (pins:List (Addr×Obj)) (H:Hp) (b:Addr):Prop:=
 H b=none/\b≠X.env.locals/\b∉X.fs/\(b∈X.ex∨X.s₀.heap.objs.size<=b)/\(∀ x c,X.env.cells.lookup x=some c->c≠b)/\∀ p∈X.pn++pins,p.1≠b
theorem aL.fpOk {X:Cx} {pins:List (Addr×Obj)} {σ:St} {H H':Hp} {s:Shared} {b:Addr} (I:aL X pins σ H s) (hb:s.heap.objs.size<=b) (hn:H' b=none):lS X pins H' b:=by
 refine ⟨hn,Nat.ne_of_gt (OC I.lt hb),I.nofs hb,.inr (OY I.sz hb),λ x c e z=>?_,λ p hp z=>?_⟩
 . obtain ⟨v,q⟩:=I.cell x c e;exact absurd (OC q.lt (by rw [z];exact hb)) (O5 _)
 . exact absurd (OC (OA (I.pin p hp).1) (by rw [z];exact hb)) (O5 _)
structure BA (P:Program) (w:World) (K:Frag) (tg:Expr) (J:It) (fp:List Addr) (it:Addr) (tn:Nat->Heap->Prop):Prop where
 mem:it∈fp
 obj:∀ i h,tn i h->∀ b∈fp,∃ o,h.get? b=some o/\∀ v,o.data≠.cell v
 keep:∀ i h h',tn i h->(∀ b∈fp,∀ o,h.get? b=some o->h'.get? b=some o)->tn i h'
 item:∀ (X:Cx),X.prog=P->X.w=w->X.K=K->X.calm=true->∀ (i:Nat) (pins:List (Addr×Obj)) (s:Shared) (σ:St) (H:Hp) (E:Value->Shared->Prop),aL X pins σ H s->(∀ b∈fp,lS X pins H b)->tn i s.heap->J.go i H->
  wpAny (model P w) X.A (pyNext (.ref it)) (λ r s1=>∃ u,r=some u/\
   wpAny (model P w) X.A (letOwnedTupleGo tg (.ref it) u) (λ _ s2=>∃ x H',aL X pins σ H' s2/\bq x u/\J.yld i H x H'/\tn (i+1) s2.heap/\∀ b∈fp,H' b=none) E s1) E s
 done:∀ (X:Cx),X.prog=P->X.w=w->X.K=K->X.calm=true->∀ (i:Nat) (pins:List (Addr×Obj)) (s:Shared) (σ:St) (H:Hp) (E:Value->Shared->Prop),aL X pins σ H s->(∀ b∈fp,lS X pins H b)->tn i s.heap->J.stop i H->
  wpAny (model P w) X.A (pyNext (.ref it)) (λ r s1=>r=none/\aL X pins σ H s1) E s
 self:∀ (A:Around) (i:Nat) (s:Shared) (Q:Value->Shared->Prop) (E:Value->Shared->Prop),tn i s.heap->Q (.ref it) s->wpAny (model P w) A (pyIter (.ref it)) Q E s
noncomputable abbrev TI:=St->Hp->(It->Hp->Prop)->Prop
noncomputable def Nb (X:Cx) (pins:List (Addr×Obj)) (σ:St) (tg:Expr) (R:It->Hp->Prop) (itv:Value) (s2:Shared):Prop:=
 ∃ (it:Addr) (fp:List Addr) (tn:Nat->Heap->Prop) (J:It) (H':Hp),itv=.ref it/\aL X pins σ H' s2/\BA X.prog X.w X.K tg J fp it tn/\tn 0 s2.heap/\(∀ b∈fp,lS X pins H' b)/\R J H'
noncomputable def PI (X:Cx) (tg iter:Expr) (wi:TI):Prop:=
 ∀ (pins:List (Addr×Obj)) (s:Shared) (σ:St) (H:Hp) (R:It->Hp->Prop),aL X pins σ H s->wi σ H R->
  wpAny (model X.prog X.w) X.A (eval iter X.env) (λ v s1=>wpAny (model X.prog X.w) X.A (pyIter v) (Nb X pins σ tg R) X.xe s1) X.xe s
theorem DH {M:Model} {A:Around} {E:Value->Shared->Prop} {s:Shared} {tg:Expr} {it:Addr} {u:Value} {o:Obj} {n:String} {vs:Array Value} {Q:Unit->Shared->Prop} (ho:s.heap.get? it=some o) (hc:o.cls=.type n) (hd:o.data=.fields vs)
 (hn:["enumerate", "zip", "dict_itemiterator", "dict_reverseitemiterator", "odict_iterator", "itertools.zip_longest", "itertools.pairwise"].contains n=false) (hQ:Q () s):wpAny M A (letOwnedTupleGo tg (.ref it) u) Q E s:=by
 unfold letOwnedTupleGo;cases tg <;> first
  | exact OL hQ
  | (cases u <;> first
   | exact OL hQ
   | (refine Ov (wpAny_load ho ?_)
      rw [hc,hd];show wpAny M A (if (["enumerate", "zip", "dict_itemiterator", "dict_reverseitemiterator", "odict_iterator", "itertools.zip_longest", "itertools.pairwise"].contains n&&vs[0]?==some (rawInt _))=true then _ else _) Q E s;rw [Oq (by intro h;rw [hn,Bool.false_and] at h;cases h)];exact OL hQ))
noncomputable def L5 (K:Frag) (a:Addr):It:=
 ⟨λ i H=>∃ xs x,eS K H a xs/\xs[i]?=some x,λ i H x H'=>H'=H/\∀ xs,eS K H a xs->xs[i]?=some x,λ i H=>∃ xs,eS K H a xs/\xs.length<=i⟩
noncomputable def Mb (K:Frag) (a:Addr):It:=
 ⟨λ i H=>∃ xs x,gU K H a xs/\xs[i]?=some x,λ i H x H'=>H'=H/\∀ xs,gU K H a xs->xs[i]?=some x,λ i H=>∃ xs,gU K H a xs/\xs.length<=i⟩
theorem wL {P:Program} {w:World} {K:Frag} {tg:Expr} (a it:Addr):BA P w K tg (L5 K a) [it] it (λ i h=>h.IsListIter it a i) where
 mem:=by simp
 obj:=λ i h st b hb=>by
  have e:b=it:=by simpa using hb
  subst e;obtain ⟨o,e,c,d⟩:=st;exact ⟨o,e,λ v z=>by rw [d] at z;cases z⟩
 keep:=λ i h h' st k=>st.at λ o e=>k it (by simp) o e
 item:=by
  intro X hP hw hK hc i pins s σ H E I hf st hg;subst hP hw hK;obtain ⟨xs,x,hq,hx⟩:=hg;obtain ⟨its,rv,p,hz⟩:=I.list hq;obtain ⟨u,hu,ru⟩:=rv.get hx;obtain ⟨f0,f1,f2,f3,f4,f5⟩:=hf it (by simp);refine wpAny_pyNext_list_item st p.isList (x:=u) (by simpa using hu) λ h' st' sb=>?_;have I1:aL X pins σ H { s with heap:=h' }:=I.turned (t':=s.toks) (λ b o hb e=>(sb.2 b hb).trans e) f0 f1 f3 f4 f5;obtain ⟨o,e,c,d⟩:=id st';exact ⟨u,rfl,DH (s:={ s with heap:=h' }) e c d (by decide) ⟨x,H,I1,ru,⟨rfl,λ ys hy=>by rw [I.list_inj hy hq];exact hx⟩,st',λ b hb=>(hf b hb).1⟩⟩
 done:=by
  intro X hP hw hK hc i pins s σ H E I hf st hg;subst hP hw hK;obtain ⟨xs,hq,hx⟩:=hg;obtain ⟨its,rv,p,hz⟩:=I.list hq;obtain ⟨f0,f1,f2,f3,f4,f5⟩:=hf it (by simp);have hl:=rv.length;exact wpAny_pyNext_list_end (I.ok.hd hc) st p.isList (by simp;omega) λ h' eb=>⟨rfl,I.turned (t':=s.toks) (λ b o hb e=>eb b o hb e) f0 f1 f3 f4 f5⟩
 self:=λ _ _ _ _ _ st h=>wpAny_pyIter_listiter st h
theorem uZ {P:Program} {w:World} {K:Frag} {tg:Expr} (a it:Addr):BA P w K tg (Mb K a) [it] it (λ i h=>h.IsTupleIter it a i) where
 mem:=by simp
 obj:=λ i h st b hb=>by
  have e:b=it:=by simpa using hb
  subst e;obtain ⟨o,e,c,d⟩:=st;exact ⟨o,e,λ v z=>by rw [d] at z;cases z⟩
 keep:=λ i h h' st k=>st.at λ o e=>k it (by simp) o e
 item:=by
  intro X hP hw hK hc i pins s σ H E I hf st hg;subst hP hw hK;obtain ⟨xs,x,hq,hx⟩:=hg;obtain ⟨its,rv,p,hz⟩:=I.tuple hq;obtain ⟨u,hu,ru⟩:=rv.get hx;obtain ⟨f0,f1,f2,f3,f4,f5⟩:=hf it (by simp);refine wpAny_pyNext_tuple_item st (show s.heap.IsTuple a its.toArray from p) (x:=u) (by simpa using hu) λ h' st' sb=>?_;have I1:aL X pins σ H { s with heap:=h' }:=I.turned (t':=s.toks) (λ b o hb e=>(sb.2 b hb).trans e) f0 f1 f3 f4 f5;obtain ⟨o,e,c,d⟩:=id st';exact ⟨u,rfl,DH (s:={ s with heap:=h' }) e c d (by decide) ⟨x,H,I1,ru,⟨rfl,λ ys hy=>by rw [I.tuple_inj hy hq];exact hx⟩,st',λ b hb=>(hf b hb).1⟩⟩
 done:=by
  intro X hP hw hK hc i pins s σ H E I hf st hg;subst hP hw hK;obtain ⟨xs,hq,hx⟩:=hg;obtain ⟨its,rv,p,hz⟩:=I.tuple hq;obtain ⟨f0,f1,f2,f3,f4,f5⟩:=hf it (by simp);have hl:=rv.length;exact wpAny_pyNext_tuple_end (I.ok.hd hc) st (show s.heap.IsTuple a its.toArray from p) (by simp;omega) λ h' eb=>⟨rfl,I.turned (t':=s.toks) (λ b o hb e=>eb b o hb e) f0 f1 f3 f4 f5⟩
 self:=λ _ _ _ _ _ st h=>wpAny_pyIter_tupleiter st h
section
variable {X:Cx} {tg:Expr}
noncomputable def Fd (wi:TI) (g:TG) (tb:TS):TS:=λ D σ H=>wi σ H λ J H1=>∃ W:Nat->Nat->St->Hp->Prop,(∃ m,W 0 m σ H1)/\∀ i m σ H,W i m σ H->
 (J.stop i H/\D.nx σ H)∨(J.go i H/\∃ N:St->Hp->Prop,(∀ σ' H',N σ' H'->∃ m',m'<m/\W (i+1) m' σ' H')/\∀ x H',J.yld i H x H'->g x σ H' λ σ2 H2=>tb { D with nx:=N,ct:=N,bk:=D.nx } σ2 H2)
noncomputable def mm (fp:List Addr) (h:Heap):List (Addr×Obj):=fp.filterMap λ b=>(h.get? b).map λ o=>(b,o)
theorem iO {fp:List Addr} {h:Heap} {b:Addr} {o:Obj} (hb:b∈fp) (e:h.get? b=some o):(b,o)∈mm fp h:=Pm.mpr ⟨b,hb,by rw [e];rfl⟩
theorem wX {fp:List Addr} {h:Heap} {p:Addr×Obj} (hp:p∈mm fp h):p.1∈fp/\h.get? p.1=some p.2:=by
 obtain ⟨b,hb,e⟩:=Pm.mp hp;cases q:h.get? b with
 | none=>rw [q] at e;cases e
 | some o=>
  rw [q] at e;have e':(b,o)=p:=OT e;subst e';exact ⟨hb,q⟩
theorem aL.pinned {pins:List (Addr×Obj)} {σ:St} {H:Hp} {s:Shared} {fp:List Addr} (I:aL X pins σ H s) (hf:∀ b∈fp,lS X pins H b) (ho:∀ b∈fp,∃ o,s.heap.get? b=some o/\∀ v,o.data≠.cell v):aL X (pins++mm fp s.heap) σ H s:=
 I.pins_of λ p hp=>(Pp.mp hp).elim (λ z=>I.pin p (OM _ z)) λ z=>by
  obtain ⟨hb,e⟩:=wX z;obtain ⟨f0,f1,f2,_⟩:=hf p.1 hb;obtain ⟨o,e',d⟩:=ho p.1 hb;rw [e] at e';cases e';exact ⟨e,f0,f1,f2,d⟩
theorem aL.unpinned {pins pl:List (Addr×Obj)} {σ:St} {H:Hp} {s:Shared} (I:aL X (pins++pl) σ H s):aL X pins σ H s:=I.pins_of λ p hp=>I.pin p (OM _ (List.mem_append_left _ hp))
theorem Ln {iter:Expr} {body:List Stmt} {wi:TI} {g:TG} {tb:TS} {pos:Pos} (hp:PassesOwn (model X.prog X.w) X.A X.env X.xe) (hc:X.calm=true) (hi:PI X tg iter wi) (hg:PG X tg g) (hb:nL X body tb)
 (hs:∀ x,foldedSetIterable iter X.env x=pure x):PS X (.For tg iter body [] pos) (Fd wi g tb):=by
 intro pins s σ H D I h;refine wpAny_For (cy (hi pins s σ H _ I h) λ v s1 h1=>cy h1 λ itv s2 h2=>?_) hs;obtain ⟨it,fp,tn,J,H2,e,I2,T,st2,f2,W,⟨m0,w0⟩,turn⟩:=h2;subst e;have stat:∀ {H':Hp},(∀ b∈fp,H' b=none)->∀ b∈fp,lS X pins H' b:=λ hn b hb=>⟨hn b hb,(f2 b hb).2⟩
 refine codeAny_forLoop_any (λ n s'=>∃ i σ' H',aL X pins σ' H' s'/\tn i s'.heap/\(∀ b∈fp,H' b=none)/\W i n σ' H') ?_ m0 ⟨0,σ,H2,I2,st2,λ b hb=>(f2 b hb).1,w0⟩;rintro n s3 ⟨i,σ3,H3,I3,st3,fr3,w3⟩;rcases turn i n σ3 H3 w3 with ⟨stop,qn⟩ | ⟨go,N,hN,step⟩
 . refine Pq hp (cy (T.done X rfl rfl rfl hc i pins s3 σ3 H3 X.xe I3 (stat fr3) st3 stop) λ r s4 ⟨hr,I4⟩=>?_);subst hr;exact PF ⟨σ3,H3,I4,qn⟩
 . refine Pq hp (cy (T.item X rfl rfl rfl hc i pins s3 σ3 H3 X.xe I3 (stat fr3) st3 go) λ r s4 ⟨u,hr,h4⟩=>?_);subst hr;refine Pq hp (cy h4 λ _ s5 hq0=>?_);obtain ⟨x,H5,I5,r5,y5,st5,fr5⟩:=hq0;have I5':=I5.pinned (stat fr5) (T.obj _ _ st5);refine Pq hp (cy (hg _ s5 σ3 H5 x u _ I5' r5 (step x H5 y5)) λ _ s6 hq0=>?_);obtain ⟨σ6,H6,I6,q6⟩:=hq0;refine Pq hp (cy (hb _ s6 σ6 H6 _ I6 q6) λ f s7 q7=>?_);have again:∀ {σ7:St} {H7:Hp},aL X (pins++mm fp s5.heap) σ7 H7 s7->N σ7 H7->∃ m,m<n/\∃ i σ' H',aL X pins σ' H' s7/\tn i s7.heap/\(∀ b∈fp,H' b=none)/\W i m σ' H':=λ {σ7 H7} I7 n7=>by
    obtain ⟨m',hm,w7⟩:=hN σ7 H7 n7;refine ⟨m',hm,i+1,σ7,H7,I7.unpinned,T.keep _ _ _ st5 λ b hb o e=>(I7.pin (b,o) (OM _ (OM _ (iO hb e)))).1,λ b hb=>?_,w7⟩;obtain ⟨o,e,d⟩:=T.obj _ _ st5 b hb;exact (I7.pin (b,o) (OM _ (OM _ (iO hb e)))).2.1
   cases f with
   | next=>obtain ⟨σ7,H7,I7,n7⟩:=q7;exact again I7 n7
   | cont=>obtain ⟨σ7,H7,I7,n7⟩:=q7;exact again I7 n7
   | brk=>obtain ⟨σ7,H7,I7,q7⟩:=q7;exact ⟨σ7,H7,I7.unpinned,q7⟩
   | ret v=>obtain ⟨x7,σ7,H7,I7,r7,q7⟩:=q7;exact ⟨x7,σ7,H7,I7.unpinned,r7,q7⟩
end
noncomputable abbrev R2:=V->V->Hp->VK->Prop
noncomputable def iw (X:Cx) (f:Value->Value->Sem Value) (r:R2):Prop:=
 ∀ (pins:List (Addr×Obj)) (s:Shared) (σ:St) (H:Hp) (x y:V) (v u:Value) (Q:VK),aL X pins σ H s->bq x v->bq y u->r x y H Q->
  wpAny (model X.prog X.w) X.A (f v u) (EP X pins σ Q) X.xe s
noncomputable def K4 (X:Cx) (f:Value->Sem Value) (r:V->Hp->VK->Prop):Prop:=
 ∀ (pins:List (Addr×Obj)) (s:Shared) (σ:St) (H:Hp) (x:V) (v:Value) (Q:VK),aL X pins σ H s->bq x v->r x H Q->
  wpAny (model X.prog X.w) X.A (f v) (EP X pins σ Q) X.xe s
noncomputable def ff (X:Cx) (f:Value) (r:List V->Hp->VK->Prop):Prop:=
 ∀ (pins:List (Addr×Obj)) (s:Shared) (σ:St) (H:Hp) (xs:List V) (us:List Value) (Q:VK),aL X pins σ H s->be xs us->r xs H Q->
  wpAny (model X.prog X.w) X.A (call f us) (EP X pins σ Q) X.xe s
noncomputable def L0 (X:Cx) (r:V->Hp->(Bool->Hp->Prop)->Prop):Prop:=
 ∀ (pins:List (Addr×Obj)) (s:Shared) (σ:St) (H:Hp) (x:V) (v:Value) (Q:Bool->Hp->Prop),aL X pins σ H s->bq x v->r x H Q->
  wpAny (model X.prog X.w) X.A (truthy v) (TP X pins σ Q) X.xe s
noncomputable def pP (r:R2) (ta tb:TE):TE:=λ σ H Q=>ta σ H λ x H1=>tb σ H1 λ y H2=>r x y H2 Q
noncomputable def M0 (r:V->Hp->VK->Prop) (ta:TE):TE:=λ σ H Q=>ta σ H λ x H1=>r x H1 Q
noncomputable def rI (C:Int->Int->Prop) (g:Int->Int->V):R2:=λ x y H Q=>∃ i j,x=.int i/\y=.int j/\C i j/\Q (g i j) H
noncomputable def uh (g:Int->Int->V):R2:=λ x y H Q=>∃ i j,x=.int i/\y=.int j/\Q (g i j) H
noncomputable def rU (g:Int->V):V->Hp->VK->Prop:=λ x H Q=>∃ i,x=.int i/\Q (g i) H
section
variable {X:Cx} {a b c:Expr} {ta tb tc:TE} {pos:Pos}
theorem F8 (ha:PE X a ta) (hb:PE X b tb) {pins:List (Addr×Obj)} {s:Shared} {σ:St} {H:Hp} {R:V->V->Hp->Prop} (I:aL X pins σ H s)
 (h:ta σ H λ x H1=>tb σ H1 λ y H2=>R x y H2) {Q:Value->Shared->Prop} {f:Value->Value->Sem Value}
 (hf:∀ v u s2 x y H2,aL X pins σ H2 s2->bq x v->bq y u->R x y H2->wpAny (model X.prog X.w) X.A (f v u) Q X.xe s2):
 wpAny (model X.prog X.w) X.A (eval a X.env) (λ v s₁=>wpAny (model X.prog X.w) X.A (eval b X.env) (λ u s₂=>wpAny (model X.prog X.w) X.A (f v u) Q X.xe s₂) X.xe s₁) X.xe s:=by
 refine cy (ha pins s σ H _ I h) λ v s1 hq0=>?_;obtain ⟨x,H1,I1,r1,q1⟩:=hq0;refine cy (hb pins s1 σ H1 _ I1 q1) λ u s2 hq0=>?_;obtain ⟨y,H2,I2,r2,q2⟩:=hq0;exact hf v u s2 x y H2 I2 r1 r2 q2
theorem MS {op:Operator} {r:R2} (ho:iw X (binaryOp op) r) (ha:PE X a ta) (hb:PE X b tb):PE X (.BinOp a op b pos) (pP r ta tb):=by
 intro pins s σ H Q I h;exact wpAny_BinOp (F8 ha hb I h λ v u s2 x y H2 I2 rx ry q=>ho pins s2 σ H2 x y v u Q I2 rx ry q)
theorem MT {op:UnaryOp} {r:V->Hp->VK->Prop} (ho:K4 X (unaryOp op) r) (ha:PE X a ta):PE X (.UnaryOp op a pos) (M0 r ta):=by
 intro pins s σ H Q I h;exact UnaryOp_ (cy (ha pins s σ H _ I h) λ v s1 hy0=>by obtain ⟨x,H1,I1,r1,q1⟩:=hy0;exact ho pins s1 σ H1 x v Q I1 r1 q1)
theorem Kv {f:Value->Value->Sem Value} {C:Int->Int->Prop} {g:Int->Int->Int}
 (rule:∀ (i j:Int) (t u:Tok) (s:Shared) (Q:Value->Shared->Prop) (E:Value->Shared->Prop),C i j->Q (.int (g i j) s.toks) { s with toks:=s.toks+1 }->wpAny (model X.prog X.w) X.A (f (.int i t) (.int j u)) Q E s):
 iw X f (rI C λ i j=>.int (g i j)):=by
 intro pins s σ H x y v u Q I rx ry h;obtain ⟨i,j,rfl,rfl,hc,q⟩:=h;obtain ⟨t,rfl⟩:=rx;obtain ⟨t',rfl⟩:=ry;exact rule i j t t' s _ _ hc ⟨.int (g i j),H,I.tok _,⟨_,rfl⟩,q⟩
theorem HX {f:Value->Value->Sem Value} {g:Int->Int->Int}
 (rule:∀ (i j:Int) (t u:Tok) (s:Shared) (Q:Value->Shared->Prop) (E:Value->Shared->Prop),Q (.int (g i j) s.toks) { s with toks:=s.toks+1 }->wpAny (model X.prog X.w) X.A (f (.int i t) (.int j u)) Q E s):
 iw X f (uh λ i j=>.int (g i j)):=by
 intro pins s σ H x y v u Q I rx ry h;obtain ⟨i,j,rfl,rfl,q⟩:=h;obtain ⟨t,rfl⟩:=rx;obtain ⟨t',rfl⟩:=ry;exact rule i j t t' s _ _ ⟨.int (g i j),H,I.tok _,⟨_,rfl⟩,q⟩
theorem B1 {f:Value->Value->Sem Value} {g:Int->Int->Bool}
 (rule:∀ (i j:Int) (t u:Tok) (s:Shared) (Q:Value->Shared->Prop) (E:Value->Shared->Prop),Q (.bool (g i j)) s->wpAny (model X.prog X.w) X.A (f (.int i t) (.int j u)) Q E s):
 iw X f (uh λ i j=>.bl (g i j)):=by
 intro pins s σ H x y v u Q I rx ry h;obtain ⟨i,j,rfl,rfl,q⟩:=h;obtain ⟨t,rfl⟩:=rx;obtain ⟨t',rfl⟩:=ry;exact rule i j t t' s _ _ ⟨.bl (g i j),H,I,rfl,q⟩
noncomputable def BH (i j:Int):Prop:=(-(2^64)<i/\i<2^64)∨(-(2^64)<j/\j<2^64)
theorem BH.ok {i j:Int} (h:BH i j):IntMulOk i j:=by
 rcases h with ⟨h1,h2⟩ | ⟨h1,h2⟩
 . exact .of_left (intBits_le_64 h1 h2)
 . exact .of_right (intBits_le_64 h1 h2)
theorem Eh:iw X (binaryOp .Add) (uh λ i j=>.int (i+j)):=HX λ _ _ _ _ _ _ _ q=>add_int q
theorem Lu:iw X (binaryOp .Sub) (uh λ i j=>.int (i-j)):=HX λ _ _ _ _ _ _ _ q=>sub_int q
theorem Ed:iw X (binaryOp .Mult) (rI BH λ i j=>.int (i*j)):=Kv λ _ _ _ _ _ _ _ hc q=>mul_int q hc.ok
theorem Cd:iw X (binaryOp .Mod) (rI (λ _ j=>j≠0) λ i j=>.int (i.fmod j)):=Kv λ _ _ _ _ _ _ _ hc q=>mod_int' hc q
theorem Nr {f:Value->Sem Value} {g:Int->Int}
 (rule:∀ (i:Int) (t:Tok) (s:Shared) (Q:Value->Shared->Prop) (E:Value->Shared->Prop),Q (.int (g i) s.toks) { s with toks:=s.toks+1 }->wpAny (model X.prog X.w) X.A (f (.int i t)) Q E s):
 K4 X f (rU λ i=>.int (g i)):=by
 intro pins s σ H x v Q I rx h;obtain ⟨i,rfl,q⟩:=h;obtain ⟨t,rfl⟩:=rx;exact rule i t s _ _ ⟨.int (g i),H,I.tok _,⟨_,rfl⟩,q⟩
theorem Lp:K4 X (unaryOp .USub) (rU λ i=>.int (-i)):=Nr λ _ _ _ _ _ q=>neg_int q
end
noncomputable def FN:V->V->Bool
 | .non,.non=>true | .non,.int _=>true | .int _,.non=>true | .non,.bl _=>true | .bl _,.non=>true | .non,.str _=>true | .str _,.non=>true
 | .int _,.int _=>true | .bl _,.bl _=>true | .str _,.str _=>true | .byt _,.byt _=>true
 | .int _,.str _=>true | .str _,.int _=>true | .bl _,.str _=>true | .str _,.bl _=>true
 | _,_=>false
noncomputable def Nc:R2:=λ x y H Q=>FN x y=true/\Q (.bl (decide (x=y))) H
noncomputable def Nd:R2:=λ x y H Q=>FN x y=true/\Q (.bl (!decide (x=y))) H
theorem vC {i j:Int}:decide (V.int i=V.int j)=(i==j):=by
 rw [Bool.eq_iff_iff];simp
theorem zU {i j:Bool}:decide (V.bl i=V.bl j)=(i==j):=by
 rw [Bool.eq_iff_iff];simp
theorem vA {i j:Str}:decide (V.str i=V.str j)=(i==j):=by
 rw [Bool.eq_iff_iff];simp
theorem wp {i j:Array UInt8}:decide (V.byt i=V.byt j)=(i.toList==j.toList):=by
 rw [Bool.eq_iff_iff];cases i;cases j;simp
section
variable {X:Cx} {a b c:Expr} {ta tb tc:TE} {pos:Pos}
theorem bB {pins:List (Addr×Obj)} {σ:St} {H:Hp} {s:Shared} {Q:VK} {k k':Bool} (I:aL X pins σ H s) (q:Q (.bl k) H) (e:k=k'):EP X pins σ Q (.bool k') s:=by
 subst e;exact ⟨.bl k,H,I,rfl,q⟩
theorem Jl:iw X (compareOp .Eq) Nc:=by
 intro pins s σ H x y v u Q I rx ry h;obtain ⟨hs,q⟩:=h;cases x with
 | non=>
  cases rx;cases y with
  | non=>cases ry;exact PySem.EqNone.eq_none_none (bB I q (by simp))
  | bl j=>cases ry;exact PySem.EqNone.eq_none_bool (bB I q (by simp))
  | int j=>obtain ⟨t',rfl⟩:=ry;exact PySem.EqNone.eq_none_int (bB I q (by simp))
  | str j=>obtain ⟨t',rfl⟩:=ry;exact PySem.EqNone.eq_none_str (bB I q (by simp))
  | _=>exact absurd (show false=true from hs) Oy
 | bl i=>
  cases rx;cases y with
  | non=>cases ry;exact PySem.EqNone.eq_bool_none (bB I q (by simp))
  | bl j=>cases ry;exact eq_bool (bB I q zU)
  | str j=>obtain ⟨t',rfl⟩:=ry;exact PySem.EqMixed.eq_bool_str (bB I q (by simp))
  | _=>exact absurd (show false=true from hs) Oy
 | int i=>
  obtain ⟨t,rfl⟩:=rx;cases y with
  | non=>cases ry;exact PySem.EqNone.eq_int_none (bB I q (by simp))
  | int j=>obtain ⟨t',rfl⟩:=ry;exact eq_int (bB I q vC)
  | str j=>obtain ⟨t',rfl⟩:=ry;exact PySem.EqMixed.eq_int_str (bB I q (by simp))
  | _=>exact absurd (show false=true from hs) Oy
 | str i=>
  obtain ⟨t,rfl⟩:=rx;cases y with
  | non=>cases ry;exact PySem.EqNone.eq_str_none (bB I q (by simp))
  | bl j=>cases ry;exact PySem.EqMixed.eq_str_bool (bB I q (by simp))
  | int j=>obtain ⟨t',rfl⟩:=ry;exact PySem.EqMixed.eq_str_int (bB I q (by simp))
  | str j=>obtain ⟨t',rfl⟩:=ry;exact eq_str (bB I q vA)
  | _=>exact absurd (show false=true from hs) Oy
 | byt i=>
  obtain ⟨t,rfl⟩:=rx;cases y with
  | byt j=>obtain ⟨t',rfl⟩:=ry;exact PySem.W.eq_bytes (bB I q wp)
  | _=>exact absurd (show false=true from hs) Oy
 | _=>cases y <;> exact absurd (show false=true from hs) Oy
theorem HM:iw X (compareOp .NotEq) Nd:=by
 intro pins s σ H x y v u Q I rx ry h;obtain ⟨hs,q⟩:=h;cases x with
 | non=>
  cases rx;cases y with
  | non=>cases ry;exact PySem.EqNone.ne_none_none (bB I q (by simp))
  | bl j=>cases ry;exact PySem.EqNone.ne_none_bool (bB I q (by simp))
  | int j=>obtain ⟨t',rfl⟩:=ry;exact PySem.EqNone.ne_none_int (bB I q (by simp))
  | str j=>obtain ⟨t',rfl⟩:=ry;exact PySem.EqNone.ne_none_str (bB I q (by simp))
  | _=>exact absurd (show false=true from hs) Oy
 | bl i=>
  cases rx;cases y with
  | non=>cases ry;exact PySem.EqNone.ne_bool_none (bB I q (by simp))
  | bl j=>cases ry;exact ne_bool (bB I q (Om not zU))
  | str j=>obtain ⟨t',rfl⟩:=ry;exact PySem.EqMixed.ne_bool_str (bB I q (by simp))
  | _=>exact absurd (show false=true from hs) Oy
 | int i=>
  obtain ⟨t,rfl⟩:=rx;cases y with
  | non=>cases ry;exact PySem.EqNone.ne_int_none (bB I q (by simp))
  | int j=>obtain ⟨t',rfl⟩:=ry;exact ne_int (bB I q (Om not vC))
  | str j=>obtain ⟨t',rfl⟩:=ry;exact PySem.EqMixed.ne_int_str (bB I q (by simp))
  | _=>exact absurd (show false=true from hs) Oy
 | str i=>
  obtain ⟨t,rfl⟩:=rx;cases y with
  | non=>cases ry;exact PySem.EqNone.ne_str_none (bB I q (by simp))
  | bl j=>cases ry;exact PySem.EqMixed.ne_str_bool (bB I q (by simp))
  | int j=>obtain ⟨t',rfl⟩:=ry;exact PySem.EqMixed.ne_str_int (bB I q (by simp))
  | str j=>obtain ⟨t',rfl⟩:=ry;exact ne_str (bB I q (Om not vA))
  | _=>exact absurd (show false=true from hs) Oy
 | byt i=>
  obtain ⟨t,rfl⟩:=rx;cases y with
  | byt j=>obtain ⟨t',rfl⟩:=ry;exact PySem.W.ne_bytes (bB I q (Om not wp))
  | _=>exact absurd (show false=true from hs) Oy
 | _=>cases y <;> exact absurd (show false=true from hs) Oy
theorem MR:iw X (compareOp .Lt) (uh λ i j=>.bl (decide (i<j))):=B1 λ _ _ _ _ _ _ _ q=>lt_int q
theorem M9:iw X (compareOp .LtE) (uh λ i j=>.bl (decide (i<=j))):=B1 λ _ _ _ _ _ _ _ q=>le_int q
theorem Nf:iw X (compareOp .Gt) (uh λ i j=>.bl (decide (j<i))):=B1 λ _ _ _ _ _ _ _ q=>gt_int q
theorem Mr:iw X (compareOp .GtE) (uh λ i j=>.bl (decide (j<=i))):=B1 λ _ _ _ _ _ _ _ q=>ge_int q
theorem LR:iw X (compareOp .Is) (λ x y H Q=>y=.non/\Q (.bl (decide (x=.non))) H):=by
 intro pins s σ H x y v u Q I rx ry h;obtain ⟨rfl,q⟩:=h;cases ry;refine is_none_gen (bB I q ?_);cases x <;> first
  | (cases rx;rfl)
  | (obtain ⟨t,rfl⟩:=rx;rfl)
theorem Kz:iw X (compareOp .IsNot) (λ x y H Q=>y=.non/\Q (.bl (!decide (x=.non))) H):=by
 intro pins s σ H x y v u Q I rx ry h;obtain ⟨rfl,q⟩:=h;cases ry;refine isnot_none_gen (bB I q ?_);cases x <;> first
  | (cases rx;rfl)
  | (obtain ⟨t,rfl⟩:=rx;rfl)
theorem iw.or {f:Value->Value->Sem Value} {r r':R2} (h:iw X f r) (h':iw X f r'):iw X f (λ x y H Q=>r x y H Q∨r' x y H Q):=by
 intro pins s σ H x y v u Q I rx ry q;rcases q with q | q
 . exact h pins s σ H x y v u Q I rx ry q
 . exact h' pins s σ H x y v u Q I rx ry q
theorem K6 {op:CmpOp} {r:R2} (ho:iw X (compareOp op) r) (ha:PE X a ta) (hb:PE X b tb) (hm:behindInMarks op b=false):PE X (.Compare a [op] [b] pos) (pP r ta tb):=by
 intro pins s σ H Q I h;exact wpAny_Compare1 (F8 ha hb I h λ v u s2 x y H2 I2 rx ry q=>ho pins s2 σ H2 x y v u Q I2 rx ry q) hm
noncomputable def lI (t:TE):TT:=λ σ H Q=>t σ H λ x H'=>∃ k,x=.bl k/\Q k H'
theorem KG {op:CmpOp} {r:R2} (ho:iw X (compareOp op) r) (ha:PE X a ta) (hb:PE X b tb) (hm:behindInMarks op b=false):PT X (.Compare a [op] [b] pos) (lI (pP r ta tb)):=by
 intro pins s σ H Q I h;refine wpAny_isTrue_Compare1 (cy (ha pins s σ H _ I h) λ v s1 hy0=>?_) hm;obtain ⟨x,H1,I1,r1,q1⟩:=hy0;refine cy (hb pins s1 σ H1 _ I1 q1) λ u s2 hy0=>?_;obtain ⟨y,H2,I2,r2,q2⟩:=hy0;refine
  cy (ho pins s2 σ H2 x y v u _ I2 r1 r2 q2) λ c s3 ⟨z,H3,I3,r3,k,e,q3⟩=>?_
 subst e;cases r3;exact Pj ⟨H3,I3,q3⟩
noncomputable def z7 (r r':R2) (ta tb tc:TE):TE:=λ σ H Q=>ta σ H λ x H1=>tb σ H1 λ y H2=>r x y H2 λ z H3=>∃ k,z=.bl k/\
 (if k=true then tc σ H3 λ w' H4=>r' y w' H4 Q else Q (.bl false) H3)
theorem IT {op op':CmpOp} {r r':R2} (ho:iw X (compareOp op) r) (ho':iw X (compareOp op') r') (ha:PE X a ta) (hb:PE X b tb) (hc:PE X c tc)
 (hm:lastMarks [op,op'] [b,c]=false):PT X (.Compare a [op,op'] [b,c] pos) (lI (z7 r r' ta tb tc)):=by
 intro pins s σ H Q I h;refine isTrue_chain (cy (ha pins s σ H _ I h) λ v s1 hy0=>?_) hm;obtain ⟨x,H1,I1,r1,q1⟩:=hy0;refine test_link (cy (hb pins s1 σ H1 _ I1 q1) λ u s2 hy0=>?_);obtain ⟨y,H2,I2,r2,q2⟩:=hy0;refine
  cy (ho pins s2 σ H2 x y v u _ I2 r1 r2 q2) λ d s3 ⟨z,H3,I3,r3,k,e,q3⟩=>?_
 subst e;cases r3;refine Pj ?_;cases k with
 | false=>
  obtain ⟨k',e',q'⟩:=q3;cases e';exact ite_ff ⟨H3,I3,q'⟩
 | true=>
  refine ite_tt (test_last (cy (hc pins s3 σ H3 _ I3 q3) λ w' s4 hy0=>?_));obtain ⟨z',H4,I4,r4,q4⟩:=hy0;refine cy (ho' pins s4 σ H4 y z' u w' _ I4 r2 r4 q4) λ d' s5 hq0=>?_;obtain ⟨z2,H5,I5,r5,k2,e2,q5⟩:=hq0;subst e2;cases r5;exact Pj ⟨H5,I5,q5⟩
noncomputable def Em (K:Frag) (x:V) (H:Hp) (k:Bool):Prop:=
 match x with
 | .non=>k=false
 | .bl b=>k=b
 | .int i=>k=(i != 0)
 | .str y=>y.length<=sizeLine/\k=((y.length:Int) != 0)
 | .byt y=>y.size<=sizeLine/\k=((y.size:Int) != 0)
 | .ref p=>(∃ xs,eS K H p xs/\k = !xs.isEmpty)∨(∃ xs,gU K H p xs/\k = !xs.isEmpty)∨∃ kvs,H p=some (.dK kvs)/\k = !kvs.isEmpty
 | _=>False
theorem uM {κ:Type} {kvs:List (κ×V)} {vs:List (κ×Value)} (r:KV kvs vs):(!vs.isEmpty) = !kvs.isEmpty:=by
 cases r <;> rfl
theorem nU {xs:List V} {its:List Value} (r:be xs its):(!its.toArray.isEmpty) = !xs.isEmpty:=by
 cases r <;> simp
theorem kr:(sizeLine:Nat)<2^63:=by rw [sizeLine_eq];decide
theorem G9:L0 X (λ x H Q=>∃ k,Em X.K x H k/\Q k H):=by
 intro pins s σ H x v Q I rx h;obtain ⟨k,e,q⟩:=h;have hl:=kr;have hs:sizeLine=16777216:=sizeLine_eq;cases x with
 | non=>
  cases rx;have e':k=false:=e;subst e';exact truthy_none ⟨H,I,q⟩
 | bl b=>
  cases rx;have e':k=b:=e;subst e';exact Pj ⟨H,I,q⟩
 | int i=>
  obtain ⟨t,rfl⟩:=rx;have e':k=(i != 0):=e;subst e';exact PySem.P.truthy_int ⟨H,I,q⟩
 | str y=>
  obtain ⟨t,rfl⟩:=rx;obtain ⟨hy,e'⟩:y.length<=sizeLine/\k=((y.length:Int) != 0):=e;subst e';exact PySem.P.truthy_str (by omega) ⟨H,I.tok _,q⟩
 | byt y=>
  obtain ⟨t,rfl⟩:=rx;obtain ⟨hy,e'⟩:y.size<=sizeLine/\k=((y.size:Int) != 0):=e;subst e';exact PySem.W.truthy_bytes (by omega) ⟨H,I.tok _,q⟩
 | ref p=>
  cases rx;have e':(∃ xs,eS X.K H p xs/\k = !xs.isEmpty)∨(∃ xs,gU X.K H p xs/\k = !xs.isEmpty)∨∃ kvs,H p=some (.dK kvs)/\k = !kvs.isEmpty:=e;rcases e' with ⟨xs,hx,e'⟩ | ⟨xs,hx,e'⟩ | ⟨kvs,hx,e'⟩
  . subst e';obtain ⟨its,r,pl,hz⟩:=I.list hx;have hlen:=r.length;exact wpAny_truthy_list pl.isList (by simp only [OB];omega) ⟨H,I.tok _,by rw [nU r];exact q⟩
  . subst e';obtain ⟨its,r,pl,hz⟩:=I.tuple hx;have hlen:=r.length;exact truthy_tuple pl (by simp only [OB];omega) ⟨H,I.tok _,by rw [nU r];exact q⟩
  . subst e';obtain ⟨hz,hS,vs,r,m'⟩:kvs.length<=sizeLine/\(p==sysModules)=false/\∃ vs,KV kvs vs/\ji X.prog X.w s.heap p vs:=I.hok p _ hx;have m:=m'.of;have hlen:kvs.length=vs.length:=Paired.length r;exact wpAny_truthy_dict hS m (by omega) ⟨H,I.tok _,by rw [uM r];exact q⟩
 | _=>exact (show False from e).elim
theorem yI (ha:PE X a ta) (he:∀ whole,isTrue a X.env whole=(do let v <-whole;standAt a.pos;holding [v] (truthy v))):
 PT X a (λ σ H Q=>ta σ H λ x H'=>∃ k,Em X.K x H' k/\Q k H'):=by
 intro pins s σ H Q I h;exact isTrue_plain (cy (ha pins s σ H _ I h) λ v s1 hy0=>by obtain ⟨x,H1,I1,r1,q1⟩:=hy0;exact G9 pins s1 σ H1 x v Q I1 r1 q1) (he _)
theorem vd:iw X (binaryOp .Add) (λ x y H Q=>∃ i j,x=.str i/\y=.str j/\i.length+j.length<=sizeLine/\Q (.str (i++j)) H):=by
 intro pins s σ H x y v u Q I rx ry h;obtain ⟨i,j,rfl,rfl,hz,q⟩:=h;obtain ⟨t,rfl⟩:=rx;obtain ⟨t',rfl⟩:=ry;exact add_str (λ t' tk=>⟨.str (i++j),H,I.tok _,⟨_,rfl⟩,q⟩) hz
theorem vL {x:V} {us:List Value} (r:be [x] us):∃ u,us=[u]/\bq x u:=by
 cases r with
 | cons r1 r2=>cases r2;exact ⟨_,rfl,r1⟩
end
structure uq (h:Heap) (x dx C:Addr) (mA:Str->Option Value):Prop where
 obj:h.get? x=some (PySem.W.instObj C dx)
 ns:h.Ns1 dx mA
 ne:dx≠x
theorem xE {h:Heap} {dx:Addr} {mA:Str->Option Value} (n:h.Ns1 dx mA):∃ od,h.get? dx=some od/\∀ name,PySem.W.lookIn name od=some (mA name):=by
 obtain ⟨o,es,ep,ho,hd,hk,_,hm⟩:=n;refine ⟨o,ho,λ name=>?_⟩;have e:=hm name;unfold nsFind findBy at e;rw [<-Array.find?_toList] at e;unfold PySem.W.lookIn;rw [hd];dsimp only;split
 . rename_i y q;rw [q] at e;exact Om some e
 . rename_i q;rw [q] at e;have a:es.toList.any (·.refKey)=false:=by
    rw [List.any_eq_false];intro y hy;obtain ⟨z,t,hkey⟩:=hk y (Array.mem_toList_iff.mp hy);simp [DictEntry.refKey,hkey]
   have a':¬ es.toList.any (·.refKey)=true:=by rw [a];exact Oy
   rw [Oq a'];exact Om some e
theorem uq.look {h:Heap} {x dx C:Addr} {mA:Str->Option Value} (I:uq h x dx C mA):∃ od,PySem.W.InstAt h x (PySem.W.instObj C dx) C (some od)/\∀ name,PySem.W.lookIn name od=some (mA name):=
 let ⟨od,ho,hl⟩:=xE I.ns
 ⟨od,⟨I.obj,rfl,rfl,ho⟩,hl⟩
section
variable {prog:Program} {w:World} {A:Around} {E:Value->Shared->Prop} {s:Shared} {K:Frag} {x dx C f:Addr} {mA:Str->Option Value} {name:Str} {v:Value}
theorem B7 {expr:Bool} {Q:Value->Shared->Prop} (X:K.In s.heap) (I:uq s.heap x dx C mA) (hg:PySem.W.plainGet K C name=true) (hh:PySem.W.hasDictIn K C=true)
 (ha:PySem.W.findIn K (.ref C) name=some none) (hv:mA name=some v) (hv':PySem.W.handedIn v=true) (h:Q v { s with toks:=s.toks+1 }):
 wpAny (model prog w) A (getAttr (.ref x) name expr) Q E s:=by
 obtain ⟨od,J,hl⟩:=I.look;exact PySem.W.get_value X J (PySem.W.plainGet_of hg).1 (PySem.W.findObj_own hh ha rfl (by rw [hl,hv])) hv' h
theorem zo {pl:Sem Bool} {Q:Value×List Value->Shared->Prop} (X:K.In s.heap) (I:uq s.heap x dx C mA) (hg:PySem.W.plainGet K C name=true)
 (hf:PySem.W.findIn K (.ref C) name=some (some (.ref f))) (ht:PySem.W.isFn K (.ref f)=true) (hv:mA name=none) (h:Q (.ref f,[.ref x]) s):
 wpAny (model prog w) A (getMethod (.ref x) name pl) Q E s:=by
 obtain ⟨od,J,hl⟩:=I.look;exact PySem.W.method_fn X J (PySem.W.plainGet_of hg).1 (PySem.W.plainGet_of hg).2 hf (PQ.mp ht) (by show (PySem.W.lookIn name od).map (·.isSome)=some false;rw [hl,hv];rfl) h
theorem B3 {ns:List Str} {Q:Unit->Shared->Prop} (X:K.In s.heap) (I:uq s.heap x dx C mA)
 (hs:PySem.W.findIn K (.ref C) "__setattr__" = some (some (.builtin "object.__setattr__"))) (hp:PySem.W.plainOver K C=true) (ht:PySem.W.takerIn K C name=some none) (hh:PySem.W.hasDictIn K C=true)
 (hw:PySem.Within mA ns) (hsz:ns.length<=sizeLine)
 (h:∀ h',uq h' x dx C (λ y=>if y=name then some v else mA y)->Heap.SameBut dx s.heap h'->Q () { s with heap:=h',toks:=s.toks+2 }):
 wpAny (model prog w) A (setAttr (.ref x) name v) Q E s:=by
 obtain ⟨od,J,hl⟩:=I.look;refine PySem.W.set_plain X J hs (PySem.W.osa_open (s:={ s with toks:=s.toks+1 }) (r:=none) X J hp ht λ b=>?_);obtain ⟨cd,hc,hd'⟩:=PySem.W.any_some hh;have hx:s.heap.get? x=some ⟨.ref C,some dx,.plain,#[]⟩:=I.obj;refine Ov (OL (Ov (Ov (wpAny_loadPart hx (Ov (PySem.W.Looks.here (s:={ s with toks:=s.toks+1 }) (PySem.W.looks_clsIn X hc) ?_))))));rw [hd'];refine OL (a:=some dx) (Ov (OL (Ov ?_)));refine wpAny_nsSet1 (s:={ s with toks:=s.toks+1 }) I.ns λ h' hn2 hs2=>?_;obtain ⟨oD,esD,epD,hoD,hdD,hcD⟩:=hn2.count (PySem.Within.cons name v hw);refine Ov (wpAny_lookBehind hoD (by rw [hdD];exact pastItsLine_dict (OY hcD (by rw [Ou];omega))) ?_);exact OL (h _ ⟨(hs2.2 _ (Pt I.ne)).trans I.obj,hn2,I.ne⟩ hs2)
theorem yo {R:Result->Shared->Prop} {vs:List Value} {kw:List (Str×Value)} (X:K.In s.heap) (hm:PySem.W.makesIn K C=true)
 (hi:PySem.W.findIn K (.ref C) "__init__" = some (some (.ref f))) (hf:PySem.W.typeIn K (.ref f)=some (.type "function"))
 (h:codeAny (model prog w) (A.under (.builtin "type.__call__" ⟨.ref C::vs,kw⟩)) (.call (.ref f) ⟨.ref (s.heap.objs.size+1)::vs,kw⟩) (PySem.W.InitBack (s.heap.objs.size+1) R)
  { s with heap:=(s.heap.push PySem.W.emptyDict).push (PySem.W.instObj C s.heap.objs.size) }):
 codeAny (model prog w) A (.call (.ref C) ⟨vs,kw⟩) R s:=by
 obtain ⟨hh,g,d,t,os⟩:=s;exact PySem.W.make_core (PySem.W.makes_of X hm) (PySem.W.looks_findIn X hi) (λ self=>PySem.W.bind_fn X self hf) (.inl rfl) h
end
noncomputable def putF (f:Str) (v:V):List (Str×V)->List (Str×V)
 | []=>[(f,v)]
 | (g,x)::r=>if g=f then (g,v)::r else (g,x)::putF f v r
theorem mq (f g:Str) (v:V):∀ fs:List (Str×V),(putF f v fs).lookup g=if g=f then some v else fs.lookup g
 | []=>by
  show List.lookup g [(f,v)]=_;by_cases h:g=f
  . have hb:(g==f)=true:=PQ.mpr h;simp only [List.lookup,hb,Oo h]
  . have hb:(g==f)=false:=Pu.mpr h;simp only [List.lookup,hb,Oq h]
 | (k,x)::r=>by
  have ih:=mq f g v r;rw [show putF f v ((k,x)::r)=(if k=f then (k,v)::r else (k,x)::putF f v r) from rfl];by_cases hk:k=f
  . rw [Oo hk];by_cases h:g=k
    . have hb:(g==k)=true:=PQ.mpr h;simp only [List.lookup,hb,Oo (h.trans hk)]
    . have hb:(g==k)=false:=Pu.mpr h;simp only [List.lookup,hb,Oq (λ e:g=f=>h (e.trans hk.symm))]
  . rw [Oq hk];by_cases h:g=k
    . have hb:(g==k)=true:=PQ.mpr h;simp only [List.lookup,hb,Oq (λ e:g=f=>hk (h.symm.trans e))]
    . have hb:(g==k)=false:=Pu.mpr h;simp only [List.lookup,hb];exact ih
theorem mo (f:Str) (v:V):∀ fs:List (Str×V),f∈(putF f v fs).map (·.1)/\∀ g,g∈fs.map (·.1)->g∈(putF f v fs).map (·.1)
 | []=>⟨by simp [putF],λ g h=>by simp at h⟩
 | (k,x)::r=>by
  obtain ⟨i1,i2⟩:=mo f v r;rw [show putF f v ((k,x)::r)=(if k=f then (k,v)::r else (k,x)::putF f v r) from rfl];by_cases hk:k=f
  . rw [Oo hk];subst hk;exact ⟨by simp,λ g h=>by simpa using h⟩
  . rw [Oq hk];refine ⟨?_,λ g h=>?_⟩
    . rw [OQ];exact OH _ i1
    . rw [OQ] at h ⊢;rcases Ow.mp h with e | e
      . exact Ow.mpr (.inl e)
      . exact OH _ (i2 g e)
theorem mF (f:Str) (v:V):∀ fs:List (Str×V),(putF f v fs).length<=fs.length+1
 | []=>by simp [putF]
 | (k,x)::r=>by
  have ih:=mF f v r;rw [show putF f v ((k,x)::r)=(if k=f then (k,v)::r else (k,x)::putF f v r) from rfl];by_cases hk:k=f
  . rw [Oo hk,Ou,Ou];omega
  . rw [Oq hk,Ou,Ou];omega
theorem jk.some_of {v:V} {o:Option Value} (r:jk (some v) o):∃ u,o=some u/\bq v u:=by
 cases o with
 | none=>exact (show False from r).elim
 | some u=>exact ⟨u,rfl,r⟩
theorem jk.none_of {o:Option Value} (r:jk none o):o=none:=by
 cases o with
 | none=>rfl
 | some u=>exact (show False from r).elim
theorem wR {v:V} {u:Value} (r:bq v u):PySem.W.handedIn u=true:=by
 cases v with
 | non=>cases (show u=Value.none from r);rfl
 | bl b=>cases (show u=Value.bool b from r);rfl
 | int i=>obtain ⟨t,e⟩:=(show ∃ t,u=Value.int i t from r);cases e;rfl
 | str x=>obtain ⟨t,e⟩:=(show ∃ t,u=Value.str x t from r);cases e;rfl
 | byt b=>obtain ⟨t,e⟩:=(show ∃ t,u=Value.bytes b t from r);cases e;rfl
 | flt b=>obtain ⟨t,e⟩:=(show ∃ t,u=Value.float b t from r);cases e;rfl
 | ref a=>cases (show u=Value.ref a from r);rfl
 | ty n=>cases (show u=Value.type n from r);rfl
section
variable {P:Program} {w:World} {H H':Hp} {h h':Heap} {a C dx:Addr} {fs fs':List (Str×V)}
theorem sd (hok:iS P w H h) (e:H a=some (.ins C dx fs)):∃ mA,uq h a dx C mA/\(∀ f,jk (fs.lookup f) (mA f))/\PySem.Within mA (fs.map (·.1))/\fs.length<=1000/\H dx=some (.own a):=by
 obtain ⟨d,z,ne,ob,mA,n,r,q⟩:=(show dF P w H h a (.ins C dx fs) from hok a _ e)
 exact ⟨mA,⟨ob,n,ne⟩,r,q,z,d⟩
end
structure eU (K:Frag) (C:Addr):Prop where
 pg:PySem.W.plainGet K C Str.empty=true
 hd:PySem.W.hasDictIn K C=true
 po:PySem.W.plainOver K C=true
 sa:PySem.W.findIn K (.ref C) "__setattr__" = some (some (.builtin "object.__setattr__"))
theorem eU.get {K:Frag} {C:Addr} (c:eU K C) (f:Str):PySem.W.plainGet K C f=true:=c.pg
noncomputable def ac (K:Frag) (C:Addr) (f:Str):Prop:=PySem.W.findIn K (.ref C) f=some none
theorem ac.taker {K:Frag} {C:Addr} {f:Str} (n:ac K C f):PySem.W.takerIn K C f=some none:=by
 unfold PySem.W.takerIn;rw [show PySem.W.findIn K (.ref C) f=some none from n];rfl
structure bg (K:Frag) (C:Addr) (m:Str) (f:Addr):Prop where
 at_:PySem.W.findIn K (.ref C) m=some (some (.ref f))
 fn:PySem.W.isFn K (.ref f)=true
 kp:PySem.W.keepIn K (.ref f)=true
section
variable {X:Cx} {pins:List (Addr×Obj)} {σ:St} {H:Hp} {s:Shared} {a C dx:Addr} {fs:List (Str×V)} {f:Str} {v:V} {A:Around} {E:Value->Shared->Prop}
theorem oh {b:Bool} {Q:Value->Shared->Prop} (I:aL X pins σ H s) (e:H a=some (.ins C dx fs)) (c:eU X.K C) (n:ac X.K C f) (l:fs.lookup f=some v)
 (h:∀ u s',aL X pins σ H s'->bq v u->Q u s'):wpAny (model X.prog X.w) A (getAttr (.ref a) f b) Q E s:=by
 obtain ⟨mA,O,r,_,_,_⟩:=sd I.hok e;obtain ⟨u,hu,ru⟩:=jk.some_of (v:=v) (o:=mA f) (by rw [<-l];exact r f);exact B7 I.kIn O (c.get f) c.hd n hu (wR ru) (h u _ (I.tok _) ru)
theorem iP {m:Str} {g:Addr} {pl:Sem Bool} {Q:Value×List Value->Shared->Prop} (I:aL X pins σ H s) (e:H a=some (.ins C dx fs)) (c:eU X.K C) (k:bg X.K C m g) (l:fs.lookup m=none)
 (h:Q (.ref g,[.ref a]) s):wpAny (model X.prog X.w) A (getMethod (.ref a) m pl) Q E s:=by
 obtain ⟨mA,O,r,_,_,_⟩:=sd I.hok e;have hn:mA m=none:=jk.none_of (by rw [<-l];exact r m);exact zo I.kIn O (c.get m) k.at_ k.fn hn h
theorem oR {y:V} {u:Value} {Q:Unit->Shared->Prop} (I:aL X pins σ H s) (e:H a=some (.ins C dx fs)) (c:eU X.K C) (n:ac X.K C f) (hl:fs.length<1000) (ry:bq y u)
 (h:∀ s',aL X pins σ (d6 H a (.ins C dx (putF f y fs))) s'->Q () s'):wpAny (model X.prog X.w) A (setAttr (.ref a) f u) Q E s:=by
 obtain ⟨mA,O,r,wi,_,ho⟩:=sd I.hok e;have hz:(fs.map (·.1)).length<=sizeLine:=by rw [O6,sizeLine_eq];omega
 refine B3 I.kIn O c.sa c.po n.taker c.hd wi hz λ h' O' sb=>h _ ?_;have hd:∃ o,h'.get? dx=some o:=by obtain ⟨o,_,_,e',_⟩:=O'.ns;exact ⟨o,e'⟩
 refine I.write (x:=a) (e:=dx) (by rw [e];exact True.intro) (.inr ho) (λ b q hb z=>(sb.2 b hb).trans z) hd ?_;refine ⟨by rw [aP O.ne];exact ho,?_,O.ne,O'.obj,_,O'.ns,λ g=>?_,λ g hg=>?_⟩
 . have:=mF f y fs;omega
 . show jk ((putF f y fs).lookup g) (if g=f then some u else mA g);rw [mq];by_cases q:g=f
   . rw [Oo q,Oo q];exact ry
   . rw [Oq q,Oq q];exact r g
 . by_cases q:g=f
   . rw [q];exact (mo f y fs).1
   . refine (mo f y fs).2 g (wi g λ z=>hg ?_);show (if g=f then some u else mA g)=none;rw [Oq q];exact z
theorem aL.made (I:aL X pins σ H s):aL X pins σ (d6 (d6 H s.heap.objs.size (.own (s.heap.objs.size+1))) (s.heap.objs.size+1) (.ins C s.heap.objs.size []))
 { s with heap:=(s.heap.push PySem.W.emptyDict).push (PySem.W.instObj C s.heap.objs.size) }:=by
 have e1:(s.heap.push PySem.W.emptyDict).get? s.heap.objs.size=some PySem.W.emptyDict:=OZ s.heap rfl;have e2:((s.heap.push PySem.W.emptyDict).push (PySem.W.instObj C s.heap.objs.size)).get? (s.heap.objs.size+1)=some (PySem.W.instObj C s.heap.objs.size):=by
  have:=OZ (s.heap.push PySem.W.emptyDict) (o:=PySem.W.instObj C s.heap.objs.size) rfl
  rwa [size_push] at this
 have e3:(s.heap.push PySem.W.emptyDict).Ns s.heap.objs.size (λ _=>none):=⟨PySem.W.emptyDict,#[],_,e1,rfl,(λ e he=>absurd he (by simp)),λ _=>rfl⟩
 have I1:=I.laid (a:=s.heap.objs.size) (o:=.own (s.heap.objs.size+1)) (h':=s.heap.push PySem.W.emptyDict) (t':=s.toks) (λ b u q=>OE _ q) (Ol _) ⟨_,e1⟩;refine I1.laid (a:=s.heap.objs.size+1) (o:=.ins C s.heap.objs.size []) (t':=s.toks) (λ b u q=>OE _ q) (le_of_eq (size_push _ _)) ?_;have ne:s.heap.objs.size≠s.heap.objs.size+1:=OP (O0 _);refine ⟨by rw [aP ne,aO],O1 _,ne,e2,λ _=>none,(Heap.Ns1.of_empty e3).at λ o q=>OE _ q,λ _=>True.intro,λ y hy=>absurd rfl hy⟩
theorem Cr {prog:Program} {w:World} {env:Env} {e:Expr} {f:Str} {pos:Pos} {s:Shared} {Q:Value->Shared->Prop} (hb:attributeBase e f env (eval e env)=eval e env)
 (h:wpAny (model prog w) A (eval e env) (λ o s₁=>wpAny (model prog w) A (getAttr o f true) Q E s₁) E s):wpAny (model prog w) A (eval (.Attribute e f pos) env) Q E s:=
 Attribute_any_ h (by rw [arm_eval_Attribute,hb])
end
noncomputable def Hk (K:Frag) (ta:TE) (f:Str):TE:=λ σ H Q=>ta σ H λ x H1=>∃ a C dx fs v,x=.ref a/\H1 a=some (.ins C dx fs)/\eU K C/\ac K C f/\fs.lookup f=some v/\Q v H1
noncomputable def IC (K:Frag) (ta tv:TE) (f:Str):TS:=λ D σ H=>tv σ H λ y H1=>ta σ H1 λ x H2=>∃ a C dx fs,x=.ref a/\H2 a=some (.ins C dx fs)/\eU K C/\ac K C f/\fs.length<1000/\
 D.nx σ (d6 H2 a (.ins C dx (putF f y fs)))
noncomputable def BW (X:Cx) (op:Operator) (rd:V->V->Hp->VK->Prop):Prop:=
 ∀ (pins:List (Addr×Obj)) (s:Shared) (σ:St) (H:Hp) (x y:V) (u v:Value) (Q:VK),aL X pins σ H s->bq x u->bq y v->rd x y H Q->wpAny (model X.prog X.w) X.A (inplaceOp op u v) (EP X pins σ Q) X.xe s
noncomputable def re (K:Frag) (ta tv:TE) (rd:V->V->Hp->VK->Prop) (f:Str):TS:=λ D σ H=>ta σ H λ x H1=>∃ a C dx fs v,x=.ref a/\H1 a=some (.ins C dx fs)/\eU K C/\ac K C f/\fs.lookup f=some v/\
 tv σ H1 λ y H2=>rd v y H2 λ z H3=>∃ dx' fs',H3 a=some (.ins C dx' fs')/\fs'.length<1000/\D.nx σ (d6 H3 a (.ins C dx' (putF f z fs')))
section
variable {X:Cx} {o e value:Expr} {f:Str} {pos pos' tpos:Pos} {ta tv:TE}
theorem GH (he:PE X e ta) (hb:attributeBase e f X.env (eval e X.env)=eval e X.env):PE X (.Attribute e f pos) (Hk X.K ta f):=by
 intro pins s σ H Q I h;refine Cr hb (cy (he pins s σ H _ I h) λ u s1 hq0=>?_);obtain ⟨x,H1,I1,rx,a,C,dx,fs,v,ex,ea,c,n,l,q⟩:=hq0;subst ex;obtain rfl:u=Value.ref a:=rx;exact oh I1 ea c n l λ u' s2 I2 ru=>⟨v,H1,I2,ru,q⟩
theorem Lr (ha:PE X o ta) (hv:PE X value tv) (hs:swapsWith value (some (.Attribute o f pos')) pos.line X.env=pure false):PS X (.Assign [.Attribute o f pos'] value pos) (IC X.K ta tv f):=by
 intro pins s σ H D I h;refine plainObj_wpAny_Assign_Attribute (cy (hv pins s σ H _ I h) λ u s1 hy0=>?_) hs;obtain ⟨y,H1,I1,ry,q⟩:=hy0;refine cy (ha pins s1 σ H1 _ I1 q) λ ov s2 hq0=>?_;obtain ⟨x,H2,I2,rx,a,C,dx,fs,ex,ea,c,n,l,q2⟩:=hq0;subst ex;obtain rfl:ov=Value.ref a:=rx;exact oR I2 ea c n l ry λ s3 I3=>⟨σ,_,I3,q2⟩
theorem xf {op:Operator} {rd:V->V->Hp->VK->Prop} (ha:PE X o ta) (hv:PE X value tv) (hop:BW X op rd):PS X (.AugAssign (.Attribute o f tpos) op value pos) (re X.K ta tv rd f):=by
 intro pins s σ H D I h;refine wpAny_AugAssign_AttributeAny (cy (ha pins s σ H _ I h) λ ov s1 hq0=>?_);obtain ⟨x,H1,I1,rx,a,C,dx,fs,v,ex,ea,c,n,l,q⟩:=hq0;subst ex;obtain rfl:ov=Value.ref a:=rx;refine oh I1 ea c n l λ u s2 I2 ru=>cy (hv pins s2 σ H1 _ I2 q) λ w3 s3 hy0=>?_;obtain ⟨y,H2,I3,ry,q3⟩:=hy0;refine cy (hop pins s3 σ H2 v y u w3 _ I3 ru ry q3) λ w4 s4 hq0=>?_;obtain ⟨z,H3,I4,rz,dx',fs',ea',l',q4⟩:=hq0;exact oR I4 ea' c n l' rz λ s5 I5=>⟨σ,_,I5,q4⟩
noncomputable def Ij:V->V->Hp->VK->Prop:=λ x y H Q=>∃ i j,x=.int i/\y=.int j/\Q (.int (i+j)) H
theorem Mj:BW X .Add Ij:=by
 rintro pins s σ H x y u v Q I rx ry ⟨i,j,rfl,rfl,q⟩;obtain ⟨t,rfl⟩:=(show ∃ t,u=Value.int i t from rx)
 obtain ⟨t',rfl⟩:=(show ∃ t',v=Value.int j t' from ry)
 exact PyProof.Rows.iadd_int ⟨.int (i+j),H,I.tok _,⟨_,rfl⟩,q⟩
end
section
variable {X:Cx} {pins:List (Addr×Obj)} {σ:St} {H:Hp} {s:Shared} {A:Around} {E:Value->Shared->Prop} {Q:Value->Shared->Prop} {c:Value} {b:Bool}
end
structure cP (k:Nat) (A:Around):Prop where
 hd:A.handled=none
 dp:A.depth+3*k+5<recursionLimit
 un:A.units+16*k+200<cLine
 gd:A.guards=some []
theorem cP.mono {j k:Nat} {A:Around} (r:cP k A) (h:j<=k):cP j A:=⟨r.hd,by have:=r.dp;omega,by have:=r.un;omega,r.gd⟩
theorem cP.deeper {k:Nat} {A:Around} (r:cP (k+1) A) (env:Env):cP k (A.deeper env):=
 ⟨r.hd,by have:=r.dp;show A.depth+1+3*k+5<_;omega,by have:=r.un;show A.units+3+16*k+200<_;omega,r.gd⟩
theorem uP {A:Around} {C:Addr} {us:List Value} {kw:List (Str×Value)}:(A.under (.builtin "type.__call__" ⟨.ref C::us,kw⟩)).depth=A.depth+1:=by
 first | rfl | simp [Around.under,Code.weight,Code.isCreation,Code.isGuard,Code.isCaller,Code.frames,Code.isFrame,guardIds]
theorem um {A:Around} {C:Addr} {us:List Value} {kw:List (Str×Value)}:(A.under (.builtin "type.__call__" ⟨.ref C::us,kw⟩)).units=A.units+1:=by
 first | rfl | simp [Around.under,Code.cUnits,Code.frames,Code.isFrame]
theorem sJ {A:Around} {C:Addr} {us:List Value} {kw:List (Str×Value)}:(A.under (.builtin "type.__call__" ⟨.ref C::us,kw⟩)).guards=A.guards:=by
 first | rfl | (cases hg:A.guards <;> simp [Around.under,Code.guards,Code.isGuard,guardIds,pushGuards,hg])
theorem cP.make {k:Nat} {A:Around} (r:cP (k+1) A) (C:Addr) (us:List Value) (kw:List (Str×Value)):cP k (A.under (.builtin "type.__call__" ⟨.ref C::us,kw⟩)):=
 ⟨r.hd,by have:=r.dp;rw [uP];omega,by have:=r.un;rw [um];omega,sJ.trans r.gd⟩
theorem cP.depth {k:Nat} {A:Around} (r:cP k A):A.depth<recursionLimit:=by have:=r.dp;omega
theorem cP.units {k:Nat} {A:Around} (r:cP k A):A.units+64<cLine:=by have:=r.un;omega
noncomputable def md:TA:=λ _ H Q=>Q [] H
noncomputable def i9 (ta:TE) (tr:TA):TA:=λ σ H Q=>ta σ H λ x H1=>tr σ H1 λ xs H2=>Q (x::xs) H2
section
variable {X:Cx} {e:Expr} {es:List Expr} {te:TE} {t:TA} {pos:Pos}
theorem Lq:PA X [] md:=λ _ _ _ _ H Q I h=>Calls.spliced_nil ⟨[],H,I,.nil,h⟩
theorem Km (ha:PE X e te) (hr:PA X es t) (hs:starEach (e::es) X.env=(false,eval e X.env)::starEach es X.env):PA X (e::es) (i9 te t):=by
 intro pos pins s σ H Q I h;rw [hs];show wpAny _ _ (spliced ((false,eval e X.env)::backTo pos (starEach es X.env))) _ _ s;refine Calls.spliced_cons (cy (ha pins s σ H _ I h) λ u s1 hq0=>?_);obtain ⟨x,H1,I1,r1,q1⟩:=hq0;exact cy (hr pos pins s1 σ H1 _ I1 q1) λ us s2 hy0=>by obtain ⟨xs,H2,I2,r2,q2⟩:=hy0;exact ⟨x::xs,H2,I2,.cons r1 r2,q2⟩
end
noncomputable abbrev Sp:=List V->Hp->VK->XK->Prop
noncomputable abbrev qE:=List Env->Hp->Shared->XK->Value->Shared->Prop
structure tO (P:Program) (w:World) (K:Frag) (mg:Str->Option Value) (base:Heap) (A:Around) (outer:List Env) (s:Shared) (H:Hp):Prop where
 frames:A.frames=some outer
 mod:Mod K mg base
 bs:∀ b o,base.get? b=some o->s.heap.get? b=some o/\H b=none
 bsz:base.objs.size<=s.heap.objs.size
 funs:s.heap.FunFrames base outer
 frf:∀ b∈jy outer,H b=none
 hok:iS P w H s.heap
 bare:AllBare s.gens
noncomputable def CE (outer:List Env) (P:Program) (w:World) (H:Hp) (s:Shared) (Q:VK) (u:Value) (s':Shared):Prop:=
 ∃ v H',s'.os=s.os/\AllBare s'.gens/\Un (jy outer) [] H H' s.heap s'.heap/\iS P w H' s'.heap/\bq v u/\Q v H'
noncomputable def CR (CX:qE) (outer:List Env) (P:Program) (w:World) (H:Hp) (s:Shared) (Q:VK) (E:XK) (r:Result) (s':Shared):Prop:=
 match r with
 | .ok (.ret u)=>CE outer P w H s Q u s'
 | .ok _=>False
 | .error e=>CX outer H s E e s'
structure eE (P:Program) (w:World) (K:Frag) (mg:Str->Option Value) (base:Heap) (CX:qE) (k:Nat) (f:Addr) (fd:FuncData) (ps:List Str) (sp:Sp):Prop where
 len:∀ vs H Q E,sp vs H Q E->vs.length=ps.length
 run:∀ (A:Around) (outer:List Env) (s:Shared) (H:Hp) (args:Args) (us:List Value) (vs:List V) (Q:VK) (E:XK),cP k A->tO P w K mg base A outer s H->BindsTo s fd args (ps.zip us)->be vs us->sp vs H Q E->
  codeAny (model P w) A (.call (.ref f) args) (CR CX outer P w H s Q E) s
theorem eE.mono {P:Program} {w:World} {K:Frag} {mg:Str->Option Value} {base:Heap} {CX:qE} {j k:Nat} {f:Addr} {fd:FuncData} {ps:List Str} {sp:Sp} (F:eE P w K mg base CX j f fd ps sp) (h:j<=k):
 eE P w K mg base CX k f fd ps sp:=⟨F.len,λ A outer s H args us vs Q E hr=>F.run A outer s H args us vs Q E (hr.mono h)⟩
theorem eE.imp {P:Program} {w:World} {K:Frag} {mg:Str->Option Value} {base:Heap} {CX:qE} {k:Nat} {f:Addr} {fd:FuncData} {ps:List Str} {sp sp':Sp} (F:eE P w K mg base CX k f fd ps sp)
 (h:∀ vs H Q E,sp' vs H Q E->sp vs H Q E):eE P w K mg base CX k f fd ps sp':=
 ⟨λ vs H Q E q=>F.len vs H Q E (h _ _ _ _ q),λ A outer s H args us vs Q E hr he hb hv hs=>F.run A outer s H args us vs Q E hr he hb hv (h _ _ _ _ hs)⟩
theorem tO.make {P:Program} {w:World} {K:Frag} {mg:Str->Option Value} {base:Heap} {A:Around} {outer:List Env} {s:Shared} {H:Hp} (e:tO P w K mg base A outer s H) (C:Addr) (us:List Value) (kw:List (Str×Value)):
 tO P w K mg base (A.under (.builtin "type.__call__" ⟨.ref C::us,kw⟩)) outer s H:=⟨by first | exact e.frames | (simpa [Around.under,Code.envs,Code.isFrame,pushEnvs] using e.frames),e.mod,e.bs,e.bsz,e.funs,e.frf,e.hok,e.bare⟩
section
variable {X:Cx} {pins:List (Addr×Obj)} {σ:St} {H:Hp} {s s':Shared}
theorem aL.env0 (I:aL X pins σ H s):tO X.prog X.w X.K X.mg X.base X.A X.stack s H:=
 ⟨I.ok.frames,I.ok.mod,I.bs,OY I.ok.bsz I.sz,I.stack,I.stkFree,I.hok,I.bare⟩
theorem aL.after {Q:VK} {u:Value} (I:aL X pins σ H s) (h:CE X.stack X.prog X.w H s Q u s'):EP X pins σ Q u s':=by
 obtain ⟨v,H',os,bare,un,hok,r,q⟩:=h;obtain ⟨hh,g,d,t,os'⟩:=s';obtain rfl:os'=s.os:=os;exact ⟨v,H',I.call (h':=hh) (g':=g) (d':=d) (t':=t) (ch:=[]) un hok bare (λ b z=>absurd z (by simp)),r,q⟩
end
noncomputable def tM (sp:Sp) (dvs:List V) (E:XK) (t:TA):TE:=λ σ H Q=>t σ H λ vs H1=>sp (vs++dvs) H1 Q E
noncomputable def qy (C:Addr) (m:Str) (sp:Sp) (dvs:List V) (E:XK) (ta:TE) (t:TA):TE:=λ σ H Q=>ta σ H λ x H1=>∃ a dx fs,x=.ref a/\H1 a=some (.ins C dx fs)/\fs.lookup m=none/\
 t σ H1 λ vs H2=>sp (x::(vs++dvs)) H2 Q E
noncomputable def xX (C:Addr) (sp:Sp) (dvs:List V) (E:XK) (t:TA):TE:=λ σ H Q=>t σ H λ vs H1=>∀ x dx,H1 x=none->H1 dx=none->dx≠x->
 sp (.ref x::(vs++dvs)) (d6 (d6 H1 dx (.own x)) x (.ins C dx [])) (λ v H2=>v=.non/\Q (.ref x) H2) E
noncomputable def aN (K:Frag) (fd:FuncData) (ps:List Str) (ds:List Value):Prop:=
 ∀ (s:Shared) (us:List Value),K.In s.heap->(us++ds).length=ps.length->BindsTo s fd ⟨us,[]⟩ (ps.zip (us++ds))
theorem aN.all {K:Frag} {fd:FuncData} {ps:List Str} (h:∀ us:List Value,us.length=ps.length->bindArgs fd ⟨us,[]⟩=pure (ps.zip us)):aN K fd ps []:=λ s us _ hl=>by
 rw [Oz] at hl ⊢;exact .of_eq (h us hl)
noncomputable def iz (CX:qE) (X:Cx) (E:XK):Prop:=∀ (pins:List (Addr×Obj)) (σ:St) (H:Hp) (s:Shared) (e:Value) (s':Shared),aL X pins σ H s->CX X.stack H s E e s'->X.xe e s'
section
variable {X:Cx} {CX:qE} {k:Nat} {f C:Addr} {fd:FuncData} {ps:List Str} {sp:Sp} {dvs:List V} {ds:List Value} {E:XK} {x m:Str} {p pos apos:Pos} {e o:Expr} {es:List Expr} {ta:TE} {t:TA}
theorem vk {pins:List (Addr×Obj)} {σ:St} {H:Hp} {s:Shared} {Q:VK} {us:List Value} {vs:List V} (F:eE X.prog X.w X.K X.mg X.base CX k f fd ps sp) (hr:cP k X.A) (hb:aN X.K fd ps ds) (hd:be dvs ds) (hx:iz CX X E)
 (I:aL X pins σ H s) (r:be vs us) (h:sp (vs++dvs) H Q E):wpAny (model X.prog X.w) X.A (call (.ref f) us) (EP X pins σ Q) X.xe s:=by
 have r2:be (vs++dvs) (us++ds):=r.append hd;have hl:(us++ds).length=ps.length:=by rw [<-r2.length];exact F.len _ _ _ _ h
 refine wpAny_call (codeAny_mono (F.run X.A X.stack s H ⟨us,[]⟩ (us++ds) (vs++dvs) Q E hr I.env0 (hb s us I.kIn hl) r2 h) λ r s' hq=>?_);cases r with
 | error e=>exact hx pins σ H s e s' I hq
 | ok fl=>
  cases fl with
  | ret u=>exact I.after hq
  | next=>exact False.elim hq
  | brk=>exact False.elim hq
  | cont=>exact False.elim hq
theorem CI (F:eE X.prog X.w X.K X.mg X.base CX k f fd ps sp) (hr:cP k X.A) (hg:Gl X x) (hm:X.mg x=some (.ref f)) (hk:PySem.W.keepIn X.K (.ref f)=true) (hb:aN X.K fd ps ds) (hd:be dvs ds) (hx:iz CX X E)
 (ha:PA X (e::es) t) (hdb:(x==("__debug__" : Str))=false:=by decide) (he:starEach (e::es) X.env=(false,eval e X.env)::starEach es X.env:=by rfl) (hpl:(backTo pos (starEach es X.env)).any (·.1)=false:=by rfl):
 PE X (.Call (.Name x p) (e::es) [] pos) (tM sp dvs E t):=by
 intro pins s σ H Q I h;refine Pz (gY I hg hm ?_ hdb);refine PB (h₀:=X.base) I.ok.mod.kin hk (cy (ha pos pins s σ H _ I h) λ us s1 hy0=>?_) he hpl;obtain ⟨vs,H1,I1,r,q⟩:=hy0;refine ⟨I1.kIn,?_⟩;exact vk F hr hb hd hx I1 r q
theorem BK {pl:Sem Bool} (he:PE X o ta) (c:eU X.K C) (hm:bg X.K C m f) (F:eE X.prog X.w X.K X.mg X.base CX k f fd ps sp) (hr:cP k X.A) (hb:aN X.K fd ps ds) (hd:be dvs ds) (hx:iz CX X E) (ha:PA X (e::es) t)
 (hst:starEach (e::es) X.env=(false,eval e X.env)::starEach es X.env:=by rfl) (hpl:(backTo pos (starEach es X.env)).any (·.1)=false:=by rfl)
 (ht:eval (.Call (.Attribute o m apos) (e::es) [] pos) X.env=(do
  let ov <-eval o X.env
  standAt apos.atName
  let (f,first) <-holding [ov] (getMethod ov m pl)
  callWith pos f first (backTo pos (starEach (e::es) X.env)) (backToKw pos (keywordEach [] X.env))):=by rfl):
 PE X (.Call (.Attribute o m apos) (e::es) [] pos) (qy C m sp dvs E ta t):=by
 intro pins s σ H Q I h;refine PJ (pl:=pl) (cy (he pins s σ H _ I h) λ u s1 hq0=>?_) ht;obtain ⟨x,H1,I1,rx,a,dx,fs,ex,ea,l,q⟩:=hq0;subst ex;obtain rfl:u=Value.ref a:=rx;refine iP I1 ea c hm l ?_;refine PB (first:=[.ref a]) (h₀:=X.base) I.ok.mod.kin hm.kp (cy (ha pos pins s1 σ H1 _ I1 q) λ us s2 hy0=>?_) hst hpl;obtain ⟨vs,H2,I2,r,q2⟩:=hy0;refine ⟨I2.kIn,?_⟩;exact vk (us:=.ref a::us) (vs:=.ref a::vs) F hr hb hd hx I2 (.cons rfl r) q2
theorem yp {pl:Sem Bool} (he:PE X o ta) (c:eU X.K C) (hm:bg X.K C m f) (F:eE X.prog X.w X.K X.mg X.base CX k f fd ps sp) (hr:cP k X.A) (hb:aN X.K fd ps ds) (hd:be dvs ds) (hx:iz CX X E)
 (ht:eval (.Call (.Attribute o m apos) [] [] pos) X.env=(do
  let ov <-eval o X.env
  standAt apos.atName
  let (f,first) <-holding [ov] (getMethod ov m pl)
  callWith pos f first (backTo pos (starEach [] X.env)) (backToKw pos (keywordEach [] X.env))):=by rfl):
 PE X (.Call (.Attribute o m apos) [] [] pos) (qy C m sp dvs E ta md):=by
 intro pins s σ H Q I h;refine PJ (pl:=pl) (cy (he pins s σ H _ I h) λ u s1 hq0=>?_) ht;obtain ⟨x,H1,I1,rx,a,dx,fs,ex,ea,l,q⟩:=hq0;subst ex;obtain rfl:u=Value.ref a:=rx;refine iP I1 ea c hm l ?_;exact PySem.W.callWith_K0 (first:=[.ref a]) I1.kIn hm.kp (vk (us:=[.ref a]) (vs:=[.ref a]) F hr hb hd hx I1 (.cons rfl .nil) q)
structure Mk (K:Frag) (C f:Addr):Prop where
 makes:PySem.W.makesIn K C=true
 init:PySem.W.findIn K (.ref C) "__init__" = some (some (.ref f))
 fn:PySem.W.isFn K (.ref f)=true
 kp:PySem.W.keepIn K (.ref C)=true
theorem ue {pins:List (Addr×Obj)} {σ:St} {H:Hp} {s:Shared} {Q:VK} {us:List Value} {vs:List V} (M:Mk X.K C f) (F:eE X.prog X.w X.K X.mg X.base CX k f fd ps sp) (hr:cP (k+1) X.A) (hb:aN X.K fd ps ds) (hd:be dvs ds)
 (hx:iz CX X E) (I:aL X pins σ H s) (r:be vs us)
 (h:∀ x dx,H x=none->H dx=none->dx≠x->sp (.ref x::(vs++dvs)) (d6 (d6 H dx (.own x)) x (.ins C dx [])) (λ v H2=>v=.non/\Q (.ref x) H2) E):
 wpAny (model X.prog X.w) X.A (call (.ref C) us) (EP X pins σ Q) X.xe s:=by
 have hq:=h (s.heap.objs.size+1) s.heap.objs.size (I.hok.fresh (le_succ _)) (I.hok.fresh (Ol _)) (OP (O0 _));have I2:=aL.made (C:=C) I;have r2:be (V.ref (s.heap.objs.size+1)::(vs++dvs)) (Value.ref (s.heap.objs.size+1)::(us++ds)):=.cons rfl (r.append hd);have hl:(Value.ref (s.heap.objs.size+1)::us++ds).length=ps.length:=by
  have e:=r2.length;rw [F.len _ _ _ _ hq] at e;exact e.symm
 refine wpAny_call (yo (f:=f) I.kIn M.makes M.init (PQ.mp M.fn) (codeAny_mono (F.run _ X.stack _ _ ⟨Value.ref (s.heap.objs.size+1)::us,[]⟩ (Value.ref (s.heap.objs.size+1)::(us++ds)) _ _ E (hr.make C us [])
  (I2.env0.make C us []) (hb _ (Value.ref (s.heap.objs.size+1)::us) I2.kIn hl) r2 hq) λ r s' hq'=>?_))
 cases r with
 | error e=>exact hx pins σ _ _ e s' I2 hq'
 | ok fl=>
  cases fl with
  | ret u=>
   obtain ⟨v,H',I3,rv,ev,q3⟩:=I2.after hq';subst ev;exact ⟨rv,⟨V.ref (s.heap.objs.size+1),H',I3,rfl,q3⟩⟩
  | next=>exact False.elim hq'
  | brk=>exact False.elim hq'
  | cont=>exact False.elim hq'
theorem Co (M:Mk X.K C f) (F:eE X.prog X.w X.K X.mg X.base CX k f fd ps sp) (hr:cP (k+1) X.A) (hg:Gl X x) (hm:X.mg x=some (.ref C)) (hb:aN X.K fd ps ds) (hd:be dvs ds) (hx:iz CX X E)
 (ha:PA X (e::es) t) (hdb:(x==("__debug__" : Str))=false:=by decide) (he:starEach (e::es) X.env=(false,eval e X.env)::starEach es X.env:=by rfl) (hpl:(backTo pos (starEach es X.env)).any (·.1)=false:=by rfl):
 PE X (.Call (.Name x p) (e::es) [] pos) (xX C sp dvs E t):=by
 intro pins s σ H Q I h;refine Pz (gY I hg hm ?_ hdb);refine PB (h₀:=X.base) I.ok.mod.kin M.kp (cy (ha pos pins s σ H _ I h) λ us s1 hy0=>?_) he hpl;obtain ⟨vs,H1,I1,r,q⟩:=hy0;refine ⟨I1.kIn,?_⟩;exact ue M F hr hb hd hx I1 r q
theorem zu (M:Mk X.K C f) (F:eE X.prog X.w X.K X.mg X.base CX k f fd ps sp) (hr:cP (k+1) X.A) (hg:Gl X x) (hm:X.mg x=some (.ref C)) (hb:aN X.K fd ps ds) (hd:be dvs ds) (hx:iz CX X E)
 (hdb:(x==("__debug__" : Str))=false:=by decide):PE X (.Call (.Name x p) [] [] pos) (xX C sp dvs E md):=by
 intro pins s σ H Q I h;refine Pz (gY I hg hm ?_ hdb);exact PySem.W.callWith_K0 I.kIn M.kp (ue (us:=[]) M F hr hb hd hx I .nil h)
end
noncomputable def PK (X:Cx) (kws:List Keyword) (t:TA):Prop:=
 ∀ (pos:Pos) (pins:List (Addr×Obj)) (s:Shared) (σ:St) (H:Hp) (Q:List V->Hp->Prop),aL X pins σ H s->t σ H Q->wpAny (model X.prog X.w) X.A (evalAll ((backToKw pos (keywordEach kws X.env)).map (·.2))) (AP X pins σ Q) X.xe s
section
variable {X:Cx} {CX:qE} {k:Nat} {f C:Addr} {fd:FuncData} {ps ks:List Str} {sp:Sp} {E:XK} {x m:Str} {p pos apos kpos:Pos} {e o:Expr} {es:List Expr} {kws:List Keyword} {te ta:TE} {t tk:TA} {nm:Option Str}
variable {g:List Value->List Value->List Value} {gV:List V->List V->List V}
end
structure eL (N P:List Str) (sc:Scope):Prop where
 kind:sc.kind=.function
 co:sc.isCoroutine=false
 gen:sc.isGenerator=false
 nd:N.Nodup
 pre:N.take P.length=P
 par:∀ x∈P,sc.names.lookup x=some .local∨sc.names.lookup x=some .cell
 nofree:∀ y∈sc.names,y.2≠.free
theorem qf {kindOf:Str->Option NameKind} {x:Str}:∀ {binds:List (Str×Value)} {m:Str->Option Value},(∀ v,(x,v)∉binds)->bindL kindOf binds m x=m x
 | [],_,_=>rfl
 | (n,v)::r,m,h=>by
  unfold bindL;rw [qf λ w hw=>h w (OH _ hw)];split
  . have:x≠n:=by rintro rfl;exact h v OK
    simp [this]
  . rfl
theorem qD {kindOf:Str->Option NameKind} {x:Str}:∀ {binds:List (Str×Value)} {m:Str->Option Value},(∀ v,(x,v)∉binds)->bindC kindOf binds m x=m x
 | [],_,_=>rfl
 | (n,v)::r,m,h=>by
  unfold bindC;rw [qD λ w hw=>h w (OH _ hw)];split
  . rfl
  . have:x≠n:=by rintro rfl;exact h v OK
    simp [this]
theorem qj {kindOf:Str->Option NameKind} {x:Str} {v:Value}:∀ {P:List Str} {vs:List Value} {i:Nat} {m:Str->Option Value},P.Nodup->P[i]?=some x->vs[i]?=some v->kindOf x=some .local->
 bindL kindOf (P.zip vs) m x=some v
 | [],_,_,_,_,h,_,_=>by simp at h
 | _::_,[],_,_,_,_,h,_=>by simp at h
 | p::P,w::vs,0,m,nd,h1,h2,hk=>by
  simp at h1 h2;subst h1;subst h2;show bindL kindOf ((p,w)::P.zip vs) m p=_;unfold bindL;rw [qf λ v hv=>(O7.mp nd).1 (of_mem_zip hv).1,Oo hk];simp
 | p::P,w::vs,i+1,m,nd,h1,h2,hk=>by
  show bindL kindOf ((p,w)::P.zip vs) m x=_;unfold bindL;exact qj (i:=i) (O7.mp nd).2 (by simpa using h1) (by simpa using h2) hk
theorem qC {kindOf:Str->Option NameKind} {x:Str} {v:Value}:∀ {P:List Str} {vs:List Value} {i:Nat} {m:Str->Option Value},P.Nodup->P[i]?=some x->vs[i]?=some v->kindOf x≠some .local->
 bindC kindOf (P.zip vs) m x=some v
 | [],_,_,_,_,h,_,_=>by simp at h
 | _::_,[],_,_,_,_,h,_=>by simp at h
 | p::P,w::vs,0,m,nd,h1,h2,hk=>by
  simp at h1 h2;subst h1;subst h2;show bindC kindOf ((p,w)::P.zip vs) m p=_;unfold bindC;rw [qD λ v hv=>(O7.mp nd).1 (of_mem_zip hv).1,Oq hk];simp
 | p::P,w::vs,i+1,m,nd,h1,h2,hk=>by
  show bindC kindOf ((p,w)::P.zip vs) m x=_;unfold bindC;exact qC (i:=i) (O7.mp nd).2 (by simpa using h1) (by simpa using h2) hk
noncomputable def start (N:List Str) (vs:List V):St:=vs.map some++List.replicate (N.length-vs.length) none
noncomputable def gO (CX:qE) (P:Program) (w:World) (K:Frag) (mg:Str->Option Value) (base:Heap) (N:List Str) (qual:Str) (scope:Scope) (f:Addr) (cd:Value) (A:Around) (outer:List Env) (s:Shared) (H:Hp) (E:XK):Cx where
 prog:=P
 w:=w
 K:=K
 mg:=mg
 base:=base
 A:=A.deeper (envOfC qual scope s.heap.objs.size f cd)
 N:=N
 s₀:=s
 H₀:=H
 env:=envOfC qual scope s.heap.objs.size f cd
 outer:=outer
 stack:=envOfC qual scope s.heap.objs.size f cd::outer
 ex:=[]
 calm:=true
 fn:=λ _=>true
 pn:=[]
 xe:=λ e s'=>wpAny (model P w) (A.deeper (envOfC qual scope s.heap.objs.size f cd)) (leaving (envOfC qual scope s.heap.objs.size f cd) e) (λ _ s''=>CX outer H s E e s'') (λ e' s''=>CX outer H s E e' s'') s'
theorem uf {sc:Scope} {n:Nat} {x:Str} (h:sc.names.lookup x=some .cell):∃ c,(cellsFrom n sc.names []).lookup x=some c:=by
 have q:=PySem.W.cellsFrom_some sc.names n [] (.inl h);exact isSome_iff_exists.mp q
theorem ql {CX:qE} {P:Program} {w:World} {K:Frag} {mg:Str->Option Value} {base:Heap} {N ps:List Str} {qual:Str} {scope:Scope} {f:Addr} {cd:Value} {A:Around} {outer:List Env} {s s1:Shared} {H:Hp} {E:XK} {us:List Value} {vs:List V}
 (S:eL N ps scope) (hd:A.handled=none) (e0:tO P w K mg base A outer s H) (hl:vs.length=ps.length) (r:be vs us)
 (x:InCallC s s.heap.objs.size (bindL (envOfC qual scope s.heap.objs.size f cd).kindOf (ps.zip us) λ _=>none) (cellsFrom (s.heap.objs.size+1) scope.names []) (bindC (envOfC qual scope s.heap.objs.size f cd).kindOf (ps.zip us) λ _=>none) s1):
 aL (gO CX P w K mg base N qual scope f cd A outer s H E) [] (start N vs) H s1:=by
 have hpl:ps.length<=N.length:=by have:=Om List.length S.pre;rw [length_take] at this;omega
 obtain ⟨h1,tk,rfl,hk⟩:=x.done;have noA:∀ b:Addr,b∉(gO CX P w K mg base N qual scope f cd A outer s H E).ex:=λ b z=>absurd (show b∈([]:List Addr) from z) (by simp);refine ⟨⟨e0.mod,S.kind,rfl,rfl,Ol _,λ y z c h1 h2=>?_,λ y hy=>?_,λ y c _ h=>?_,λ _=>hd,Around.frames_deeper e0.frames,.inr ⟨rfl,rfl⟩,λ b z=>absurd z (noA b),e0.bs,e0.bsz,λ b _ _=>noA b,λ b z=>absurd z (noA b),e0.funs,e0.frf⟩,
  rfl,e0.bare,Un.kept hk,⟨_,x.toInCall.ns,λ i y v h1 h2 h3=>?_⟩,λ y c h=>⟨_,x.cell y c h⟩,e0.hok.fresh (Ol _),λ y c h=>?_,λ p hp=>absurd (show p∈([]:List (Addr×Obj)) from hp) (by simp),e0.hok.kept hk,?_⟩
 . exact name_of_addr x.apart (Pl h1) (Pl h2)
 . have hy:scope.names.lookup y=some .cell∨scope.names.lookup y=some .free:=hy;rcases hy with hy | hy
   . exact uf hy
   . exact absurd rfl (S.nofree _ (Pl hy))
 . exact Ps (x.above y c (Pl h))
 . have hi:i<vs.length:=by
    unfold start at h2;by_cases hi:i<vs.length
    . exact hi
    . rw [OG (by simpa using hi)] at h2;rw [Px] at h2;split at h2 <;> cases h2
   have ha:vs[i]?=some v:=by
    unfold start at h2;rw [OJ (by simpa using hi),O2] at h2;cases e:vs[i]? with
    | none=>rw [e] at h2;cases h2
    | some a=>rw [e] at h2;cases h2;rfl
   obtain ⟨u,hu,rv⟩:=r.get ha;have hp:ps[i]?=some y:=by
    rw [<-S.pre,List.getElem?_take_of_lt (by omega)];exact h1
   have ndP:ps.Nodup:=by rw [<-S.pre];exact S.nd.sublist (List.take_sublist _ _)
   refine ⟨u,rv,?_⟩;rcases S.par y (O8 hp) with k | k
   . exact .inl ⟨k,qj ndP hp hu k⟩
   . obtain ⟨c,e⟩:=uf (n:=s.heap.objs.size+1) k;refine .inr ⟨.inl k,c,e,?_⟩;have q:=x.cell y c e;rw [qC ndP hp hu (by show scope.names.lookup y≠_;rw [k];decide)] at q;exact q
 . exact e0.hok.fresh (Ps (x.above y c (Pl h)))
 . unfold start;show _=N.length;rw [OV,O6,List.length_replicate];omega
theorem Dz {CX:qE} {P:Program} {w:World} {K:Frag} {mg:Str->Option Value} {base:Heap} {k:Nat} {f:Addr} {name qual:Str} {params:Arguments} {body:List Stmt} {scope:Scope} {dV kV doc pm cdv ct oc:Value} {an od:Option Addr}
 {osl:Array (Option Value)} {N ps:List Str} {sp:Sp} (lk:K.lookup f=some ⟨oc,od,.func (PySem.W.fnOf name qual params body scope dV kV doc pm an cdv ct),osl⟩) (hcd:PySem.W.codeIn K cdv qual=true) (S:eL N ps scope)
 (len:∀ vs H Q E,sp vs H Q E->vs.length=ps.length)
 (hbody:∀ (A:Around) (outer:List Env) (s:Shared) (H:Hp) (vs:List V) (Q:VK) (E:XK),cP k (A.deeper (envOfC qual scope s.heap.objs.size f cdv))->sp vs H Q E->
  ∃ t,nL (gO CX P w K mg base N qual scope f cdv A outer s H E) body t/\t { nx:=λ _ H'=>Q .non H',rt:=Q } (start N vs) H):
 eE P w K mg base CX (k+1) f (PySem.W.fnOf name qual params body scope dV kV doc pm an cdv ct) ps sp:=by
 refine ⟨len,λ A outer s H args us vs Q E hr e0 hb r hsp=>?_⟩;have hl:=len _ _ _ _ hsp;have KX:K.In s.heap:=e0.mod.kin.keeps λ b o e=>(e0.bs b o e).1;have lim:s.heap.NoLimit:=e0.mod.nolimit.keeps λ b o e=>(e0.bs b o e).1;have hkind:∀ y∈ps.zip us,scope.names.lookup y.1=some .local∨(scope.names.lookup y.1=some .cell/\((cellsFrom (s.heap.objs.size+1) scope.names []).lookup y.1).isSome=true):=λ ⟨n,v⟩ hy=>by
  rcases S.par n (of_mem_zip hy).1 with q | q
  . exact .inl q
  . exact .inr ⟨q,PySem.W.cellsFrom_some _ _ _ (.inl q)⟩
 refine codeAny_call_function hr.depth (KX _ _ lk) rfl S.co S.gen rfl (PySem.W.codeRec_of KX hcd) (hb _ _ _ _ ?_);refine wpAny_newFunctionEnv_cells S.kind hkind λ env he s1 x=>?_;subst he;refine ⟨lim.keeps x.toInCall.keep,codeAny_func ?_⟩;obtain ⟨t,ht,hq⟩:=hbody A outer s H vs Q E (hr.deeper _) hsp;have I:aL (gO CX P w K mg base N qual scope f cdv A outer s H E) [] (start N vs) H s1:=ql S hr.hd e0 hl r x;refine O4 (ht [] s1 (start N vs) H _ I hq) (λ fl s' hs=>?_) λ e s' hs=>hs;have fin:∀ {σ':St} {H':Hp} {v:V} {u:Value},aL (gO CX P w K mg base N qual scope f cdv A outer s H E) [] σ' H' s'->bq v u->Q v H'->CE outer P w H s Q u s':=
  λ {σ' H' v u} J rv q=>⟨v,H',J.os,J.bare,J.base,J.hok,rv,q⟩
 cases fl with
 | ret u=>
  obtain ⟨v,σ',H',J,rv,q⟩:=hs;exact fin J rv q
 | next=>
  obtain ⟨σ',H',J,q⟩:=hs;exact fin (v:=V.non) (u:=Value.none) J rfl q
 | brk=>
  obtain ⟨_,_,_,q⟩:=hs;exact False.elim q
 | cont=>
  obtain ⟨_,_,_,q⟩:=hs;exact False.elim q
section
variable {X:Cx} {x:Str} {p pos:Pos} {e:Expr} {es:List Expr} {t:TA} {id T:String} {r:List V->Hp->VK->Prop}
noncomputable def AQ (r:List V->Hp->VK->Prop) (t:TA):TE:=λ σ H Q=>t σ H λ vs H1=>r vs H1 Q
theorem yf (hc:ff X (.builtin id) r) (hg:Gl X x) (hm:X.mg x=none) (hv:bootBuiltins x=some (.builtin id)) (ha:PA X (e::es) t) (hn:x ≠ "__name__" := by decide) (hdb:(x==("__debug__" : Str))=false:=by decide)
 (he:starEach (e::es) X.env=(false,eval e X.env)::starEach es X.env:=by rfl) (hpl:(backTo pos (starEach es X.env)).any (·.1)=false:=by rfl):PE X (.Call (.Name x p) (e::es) [] pos) (AQ r t):=by
 intro pins s σ H Q I h;refine Pz (rE I hg hm hv ?_ hn hdb);exact PyProof.Rows.callWith_builtin1 (cy (ha pos pins s σ H _ I h) λ us s1 hy0=>by obtain ⟨vs,H1,I1,r1,q1⟩:=hy0;exact hc pins s1 σ H1 vs us Q I1 r1 q1) he hpl
theorem xw (hc:ff X (.type T) r) (hg:Gl X x) (hm:X.mg x=none) (hv:bootBuiltins x=some (.type T)) (ha:PA X (e::es) t) (hn:x ≠ "__name__" := by decide) (hdb:(x==("__debug__" : Str))=false:=by decide)
 (he:starEach (e::es) X.env=(false,eval e X.env)::starEach es X.env:=by rfl) (hpl:(backTo pos (starEach es X.env)).any (·.1)=false:=by rfl):PE X (.Call (.Name x p) (e::es) [] pos) (AQ r t):=by
 intro pins s σ H Q I h;refine Pz (rE I hg hm hv ?_ hn hdb);exact PyProof.Rows.callWith_type1 (cy (ha pos pins s σ H _ I h) λ us s1 hy0=>by obtain ⟨vs,H1,I1,r1,q1⟩:=hy0;exact hc pins s1 σ H1 vs us Q I1 r1 q1) he hpl
end
end L2
namespace HT
open PySem PyProof.Rows
section
open PySem.SeqAt
open PySem.AutoSeq1 (wpAny_loadPart')
open PySem.MeetsSeq PySem.MeetsSeq2 PySem.MeetsSeq3
end
section
variable {prog:Program} {w:World} {A:Around} {E:Value->Shared->Prop} {s:Shared}
theorem cat_tup {t b:Addr} {vs ws:List Value} {Q:Value->Shared->Prop} (ht:IsTup s.heap t vs.toArray) (hb:IsTup s.heap b ws.toArray) (hv:vs≠[])
 (h1:ws=[]->Q (.ref t) s) (h2:ws≠[]->Q (.ref s.heap.objs.size) { s with heap:=s.heap.push { cls:=.type "tuple", data:=.seq (vs++ws).toArray } })
 (hsz:vs.length+ws.length<=sizeLine):wpAny (model prog w) A (binaryOp .Add (.ref t) (.ref b)) Q E s:=by
 obtain ⟨⟨cls,dd,data,sl⟩,ho,hc,n,hd⟩:=id ht;obtain ⟨⟨cls2,dd2,data2,sl2⟩,ho2,hc2,n2,hd2⟩:=id hb;simp only at hc hd hc2 hd2;subst hc hd hc2 hd2;have e:vs.toArray++ws.toArray=(vs++ws).toArray:=by simp
 by_cases hw:ws=[]
 . exact concat_meets ⟨_,ho,rfl⟩ ⟨_,ho2,rfl⟩ noFill_tuple_add seq_tuple_add PySem.F.slot_tuple_add PySem.F.entry_tuple_add (PySem.F.args_tuple_add_2 _ _)
    (tuple_addW1 t b vs.toArray ws.toArray n n2 dd dd2 sl sl2 (by simpa using hv) (by simp [hw])) ⟨ho,ho2,h1 hw⟩
 . refine concat_meets ⟨_,ho,rfl⟩ ⟨_,ho2,rfl⟩ noFill_tuple_add seq_tuple_add PySem.F.slot_tuple_add PySem.F.entry_tuple_add (PySem.F.args_tuple_add_2 _ _)
    (tuple_addW2 t b vs.toArray ws.toArray n n2 dd dd2 sl sl2 (by simpa using hv) (by simpa using hw) (by rw [size_toArray,size_toArray];exact hsz)) ⟨ho,ho2,?_⟩
   rw [e];exact h2 hw
noncomputable def sIx (n d:Nat):Option Int->Nat
 | none=>d
 | some v=>if v<0 then (v+(n:Int)).toNat else min v.toNat n
theorem sIx_none (n d:Nat):sIx n d none=d:=rfl
theorem sIx_nat (n d k:Nat):sIx n d (some (k:Int))=min k n:=by
 show (if (k:Int)<0 then ((k:Int)+(n:Int)).toNat else min (k:Int).toNat n)=min k n;rw [if_neg (by omega),Int.toNat_natCast]
theorem EW (n d:Nat) (hd:d<=n) (o:Option Int):sIx n d o<=n:=by
 cases o with
 | none=>exact hd
 | some v=>
  show (if v<0 then (v+(n:Int)).toNat else min v.toNat n)<=n;by_cases hv:v<0
  . rw [if_pos hv];omega
  . rw [if_neg hv];exact Nat.min_le_right _ _
theorem vX (v:Int) (n d:Nat):(if v<0 then max (v+(n:Int)) 0 else min v (n:Int))=((sIx n d (some v):Nat):Int):=by
 show (if v<0 then max (v+(n:Int)) 0 else min v (n:Int))=(((if v<0 then (v+(n:Int)).toNat else min v.toNat n):Nat):Int)
 by_cases hv:v<0
 . simp only [if_pos hv];omega
 . simp only [if_neg hv];omega
theorem vq (lo hi:Option Int) (n:Nat):Builtin.Slice.sliceAdjust lo hi 1 (n:Int)=(((sIx n 0 lo:Nat):Int),((sIx n n hi:Nat):Int)):=by
 have h1:¬ ((1:Int)<0):=by omega
 unfold Builtin.Slice.sliceAdjust;simp only [h1,if_false];refine Prod.ext ?_ ?_
 . cases lo with
   | none=>rfl
   | some v=>exact vX v n 0
 . cases hi with
   | none=>rfl
   | some v=>exact vX v n n
theorem ur (i j:Nat):Builtin.Slice.slicePlaces (i:Int) (j:Int) 1=j-i:=by
 unfold Builtin.Slice.slicePlaces;have h1:(1:Int)>0:=by omega
 simp only [h1,if_true,Int.ediv_one];split <;> omega
theorem ox {v:Value} {o:Option Int} {Q:Option Int->Shared->Prop} (p:IsPart v o) (h:Q o s):wpAny (model prog w) A (Builtin.Slice.slicePartIndex v) Q E s:=by
 cases p with
 | none=>exact slicePart_none h
 | int i t=>exact slicePart_int h
theorem sliceApplied_gen {sl:Addr} {vl vu:Value} {lo hi:Option Int} {n:Nat} {Q:Int×Int×Nat->Shared->Prop} (hs:s.heap.IsSliceOf sl vl vu .none) (pl:IsPart vl lo) (pu:IsPart vu hi)
 (h:Q (((sIx n 0 lo:Nat):Int),1,sIx n n hi-sIx n 0 lo) s):wpAny (model prog w) A (Builtin.Slice.sliceApplied (.ref sl) (pure (n:Int))) Q E s:=by
 obtain ⟨os,hos,hcs,hds⟩:=id hs;unfold Builtin.Slice.sliceApplied Builtin.Slice.sliceFields;refine wpAny_bind (wpAny_bind (wpAny_field hos hds (x:=vl) rfl (wpAny_bind (wpAny_field hos hds (x:=vu) rfl (wpAny_bind (wpAny_field hos hds (x:=.none) rfl (wpAny_pure ?_)))))));refine wpAny_bind (slicePart_none ?_);show wpAny _ _ (if ((1:Int)==0)=true then _ else _) _ _ s;rw [if_neg (by decide)];refine wpAny_bind (ox pl (wpAny_bind (ox pu (wpAny_bind (wpAny_pure ?_)))));show wpAny _ _ (match Builtin.Slice.sliceAdjust lo hi 1 (n:Int) with | (lo,hi)=>pure (lo,(1:Int),Builtin.Slice.slicePlaces lo hi 1)) _ _ s;rw [vq lo hi n];show wpAny _ _ (pure (((sIx n 0 lo:Nat):Int),(1:Int),Builtin.Slice.slicePlaces ((sIx n 0 lo:Nat):Int) ((sIx n n hi:Nat):Int) 1)) _ _ s;rw [ur];exact wpAny_pure h
theorem Ad (xs:Array Value) (i k:Nat):((List.range k).filterMap λ (m:Nat)=>xs[((i:Int)+(m:Int)*1).toNat]?).toArray=((xs.toList.drop i).take k).toArray:=by
 have e:(λ (m:Nat)=>xs[((i:Int)+(m:Int)*1).toNat]?)=λ m=>xs[i+m]?:=by
  funext m;have:((i:Int)+(m:Int)*1).toNat=i+m:=by omega
  rw [this]
 rw [e];have:=pick_run xs i k;rw [List.filterMap_map] at this;have e2:((λ x=>xs[x]?) ∘ λ x=>i+x)=λ m=>xs[i+m]?:=rfl;rw [e2] at this;rw [this]
theorem getItem_tuple_cut {t sl:Addr} {items:Array Value} {vl vu:Value} {lo hi:Option Int} {Q:Value->Shared->Prop} (ht:IsTup s.heap t items) (hs:s.heap.IsSliceOf sl vl vu .none) (pl:IsPart vl lo) (pu:IsPart vu hi)
 (hw:¬ (sIx items.size 0 lo=0/\sIx items.size items.size hi=items.size))
 (h:Q (.ref s.heap.objs.size) { s with heap:=s.heap.push { cls:=.type "tuple", data:=.seq ((items.toList.drop (sIx items.size 0 lo)).take (sIx items.size items.size hi-sIx items.size 0 lo)).toArray } })
 (hsz:items.size<=sizeLine):wpAny (model prog w) A (getItem (.ref t) (.ref sl)) Q E s:=by
 have htake:sizeOk (.seq ((items.toList.drop (sIx items.size 0 lo)).take (sIx items.size items.size hi-sIx items.size 0 lo)).toArray):=by
  show ((items.toList.drop (sIx items.size 0 lo)).take (sIx items.size items.size hi-sIx items.size 0 lo)).toArray.size<=sizeLine;rw [size_toArray,length_take,length_drop,Array.length_toList];omega
 have hj:sIx items.size items.size hi<=items.size:=EW _ _ (Nat.le_refl _) hi;obtain ⟨os,hos,hcs,hds⟩:=id hs;have hTs:s.TypeIs (.ref sl) "slice" := ⟨os,hos,hcs⟩
 unfold getItem;try with_reducible refine wpAny_holding ?_
 first | refine wpAny_bind (wpAny_pure ?_) | skip
 refine wpAny_bind (wpAny_sequenceKey ht.typeIs (by decide) ?_);refine wpAny_bind (wpAny_callSpecial?_slot (name:=Str.ofString "__getitem__") ht.typeIs PyProof.Rows.slot_tuple_getitem
  (wpAny_call_entry PyProof.Rows.slot_tuple_getitem ht.typeIs entry_tuple_getitem ?_ (args_tuple_getitem _ _)))
 show wpAny _ _ (Builtin.Tuple.tupleItemsOf (.ref t) >>= _) _ _ s;refine wpAny_bind (tupleItemsOf_ ht ?_);refine wpAny_bind (wpAny_typeOf hTs ?_);rw [if_pos (by decide)];refine wpAny_bind (sliceApplied_gen hs pl pu ?_);have hno:¬ ((((sIx items.size 0 lo:Nat):Int)==0&&(1:Int)==1&&(sIx items.size items.size hi-sIx items.size 0 lo)==items.size)=true):=by
  intro q;rw [Bool.and_eq_true,Bool.and_eq_true] at q;have q1:((sIx items.size 0 lo:Nat):Int)=0:=eq_of_beq q.1.1;have q2:sIx items.size items.size hi-sIx items.size 0 lo=items.size:=eq_of_beq q.2;exact hw ⟨by omega,by omega⟩
 show wpAny _ _ (if (((sIx items.size 0 lo:Nat):Int)==0&&(1:Int)==1&&(sIx items.size items.size hi-sIx items.size 0 lo)==items.size)=true then _ else _) _ _ s;rw [if_neg hno,Ad];first
  | exact wpAny_bind (m:=Builtin.Tuple.tupleExact _) (wpAny_newObj_type (wpAny_pure ⟨_,rfl,wpAny_pure h⟩) htake)
  | exact wpAny_bind (m:=Builtin.Tuple.tupleExact _) (wpAny_newObj_type (wpAny_bind (wpAny_pure (wpAny_pure ⟨_,rfl,wpAny_pure h⟩))) htake)
  | exact wpAny_bind (wpAny_bind (m:=Builtin.Tuple.tupleExact _) (wpAny_newObj_type (wpAny_pure (wpAny_pure ⟨_,rfl,wpAny_pure h⟩)) htake))
  | exact wpAny_bind (wpAny_bind (m:=Builtin.Tuple.tupleExact _) (wpAny_newObj_type (wpAny_pure ⟨_,rfl,wpAny_pure h⟩) htake))
end
end HT
namespace L2
open PySem PySem.Spec PyProof.Rows
open PySem.W (Frag)
noncomputable abbrev TO:=St->Hp->(Option Int->Hp->Prop)->Prop
noncomputable def PO (X:Cx) (e:Option Expr) (t:TO):Prop:=
 ∀ (pins:List (Addr×Obj)) (s:Shared) (σ:St) (H:Hp) (Q:Option Int->Hp->Prop),aL X pins σ H s->t σ H Q->
  wpAny (model X.prog X.w) X.A (evalPart e X.env) (λ u s'=>∃ o H',aL X pins σ H' s'/\IsPart u o/\Q o H') X.xe s
noncomputable def ny:TO:=λ _ H Q=>Q none H
noncomputable def vR (t:TE):TO:=λ σ H Q=>t σ H λ x H1=>∃ i,x=.int i/\Q (some i) H1
section
variable {X:Cx} {e:Expr} {te:TE} {lo hi:Option Expr} {tl th:TO} {pos p2:Pos}
theorem Kn:PO X none ny:=by
 intro pins s σ H Q I h;rw [evalPart_none];exact OL ⟨none,H,I,.none,h⟩
theorem Kl (h:PE X e te):PO X (some e) (vR te):=by
 intro pins s σ H Q I hw;rw [evalPart_some];refine cy (h pins s σ H _ I hw) λ u s1 hq0=>?_;obtain ⟨x,H1,I1,r1,q1⟩:=hq0;obtain ⟨i,rfl,q⟩:=q1;obtain ⟨t,rfl⟩:=r1;exact ⟨some i,H1,I1,.int i t,q⟩
noncomputable def Dg (X:Cx) (r:V->Option Int->Option Int->Hp->VK->Prop):Prop:=
 ∀ (pins:List (Addr×Obj)) (s:Shared) (σ:St) (H:Hp) (x:V) (v vl vu:Value) (lo hi:Option Int) (sl:Addr) (Q:VK),aL X pins σ H s->bq x v->s.heap.IsSliceOf sl vl vu .none->IsPart vl lo->IsPart vu hi->r x lo hi H Q->
  ∃ T id,typeLookup (.type T) "__getitem__" = pure (some (.builtin id))/\s.TypeIs v T/\wpAny (model X.prog X.w) X.A (getItem v (.ref sl)) (EP X pins σ Q) X.xe s
noncomputable def Jm (r:V->Option Int->Option Int->Hp->VK->Prop) (te:TE) (tl th:TO):TE:=λ σ H Q=>te σ H λ x H1=>tl σ H1 λ l H2=>th σ H2 λ u H3=>r x l u H3 Q
theorem JB {r:V->Option Int->Option Int->Hp->VK->Prop} (hr:Dg X r) (he:PE X e te) (hl:PO X lo tl) (hu:PO X hi th):PE X (.Subscript e (.Slice lo hi none p2) pos) (Jm r te tl th):=by
 intro pins s σ H Q I h;refine Subscript_ (cy (he pins s σ H _ I h) λ v s1 hq0=>?_);obtain ⟨x,H1,I1,r1,q1⟩:=hq0;refine wpAny_Slice (cy (hl pins s1 σ H1 _ I1 q1) λ vl s2 hy0=>?_);obtain ⟨l,H2,I2,pl,q2⟩:=hy0;refine cy (hu pins s2 σ H2 _ I2 q2) λ vu s3 hq0=>?_;obtain ⟨u,H3,I3,pu,q3⟩:=hq0;rw [evalPart_none];refine OL ?_;have I4:aL X pins σ H3 { s3 with heap:=s3.heap.push { cls:=.type "slice", data:=.fields #[vl,vu,.none] } }:=I3.kept (t':=s3.toks) λ b ob q=>OE _ q;obtain ⟨T,id,hT,ht,hg⟩:=hr pins { s3 with heap:=s3.heap.push { cls:=.type "slice", data:=.fields #[vl,vu,.none] } } σ H3 x v vl vu l u s3.heap.objs.size Q I4 r1 (Heap.IsSliceOf.new ..) pl pu q3;show wpAny (model X.prog X.w) X.A (subscriptTail e (.Slice lo hi none p2) v (.ref s3.heap.objs.size)) (EP X pins σ Q) X.xe { s3 with heap:=s3.heap.push { cls:=.type "slice", data:=.fields #[vl,vu,.none] } };exact tail_any (ops:=[.ref s3.heap.objs.size,v]) ht hT hg (by with_unfolding_all rfl)
noncomputable def mY (xs:List V) (lo hi:Option Int):List V:=(xs.drop (HT.sIx xs.length 0 lo)).take (HT.sIx xs.length xs.length hi-HT.sIx xs.length 0 lo)
theorem mQ (xs:List V) (lo hi:Option Int):(mY xs lo hi).length<=xs.length:=by
 unfold mY;rw [length_take,length_drop];omega
noncomputable def JJ (K:Frag):V->Option Int->Option Int->Hp->VK->Prop:=λ x lo hi H Q=>∃ a xs,x=.ref a/\gU K H a xs/\
 ¬ (HT.sIx xs.length 0 lo=0/\HT.sIx xs.length xs.length hi=xs.length)/\∀ p,H p=none->Q (.ref p) (d6 H p (.tup (mY xs lo hi)))
theorem E4:Dg X (JJ X.K):=by
 intro pins s σ H x v vl vu lo hi sl Q I rx hs pl pu h;obtain ⟨a,xs,rfl,hx,hw,q⟩:=h;cases rx;obtain ⟨its,r,ht,hz⟩:=I.tuple hx;have hlen:its.toArray.size=xs.length:=by rw [OB];exact r.length.symm
 refine ⟨"tuple", _,Pe.lookup,ht.typeIs,?_⟩;refine HT.getItem_tuple_cut ht hs pl pu (by rw [hlen];exact hw) ?_ (by rw [hlen];exact hz);rw [hlen];refine ⟨.ref s.heap.objs.size,_,I.laid (t':=s.toks) (o:=.tup (mY xs lo hi)) (λ b ob q=>OE _ q) (Ol _) ?_,rfl,q _ (I.hok.fresh (Ol _))⟩;exact ⟨OY (mQ xs lo hi) hz,_,(r.drop (HT.sIx xs.length 0 lo)).take (HT.sIx xs.length xs.length hi-HT.sIx xs.length 0 lo),IsTup.new _ _⟩
noncomputable def DN (K:Frag):R2:=λ x y H Q=>∃ a b xs ys,x=.ref a/\y=.ref b/\gU K H a xs/\gU K H b ys/\xs≠[]/\xs.length+ys.length<=sizeLine/\
 (ys=[]->Q (.ref a) H)/\(ys≠[]->∀ p,H p=none->Q (.ref p) (d6 H p (.tup (xs++ys))))
theorem be.nil_iff {xs:List V} {us:List Value} (r:be xs us):us=[]↔xs=[]:=by
 cases r with
 | nil=>simp
 | cons _ _=>simp
theorem C3:iw X (binaryOp .Add) (DN X.K):=by
 intro pins s σ H x y v u Q I rx ry h;obtain ⟨a,b,xs,ys,rfl,rfl,ha,hb,hx,hz,q1,q2⟩:=h;cases rx;cases ry;obtain ⟨its,r1,p1,_⟩:=I.tuple ha;obtain ⟨its2,r2,p2,_⟩:=I.tuple hb;refine HT.cat_tup p1 p2 (λ z=>hx (r1.nil_iff.mp z)) (λ z=>⟨.ref a,H,I,rfl,q1 (r2.nil_iff.mp z)⟩) (λ z=>?_) (by rw [<-r1.length,<-r2.length];exact hz);refine ⟨.ref s.heap.objs.size,_,I.laid (t':=s.toks) (o:=.tup (xs++ys)) (λ b ob q=>OE _ q) (Ol _) ?_,rfl,q2 (λ w=>z (r2.nil_iff.mpr w)) _ (I.hok.fresh (Ol _))⟩;exact ⟨by rw [OV];exact hz,_,r1.append r2,IsTup.new _ _⟩
end
noncomputable def ug (n:Nat) (i:Int):Option Nat:=if 0<=i then (if i<n then some i.toNat else none) else if -(n:Int)<=i then some (i+n).toNat else none
noncomputable def jg {α:Type} (xs:List α) (i:Int):Option α:=(ug xs.length i).bind λ j=>xs[j]?
theorem v6 {n:Nat} {i:Int} {j:Nat} (h:ug n i=some j):seqIndex? i n=some j/\j<n /\ -(n:Int)<=i/\i<n:=by
 unfold ug at h;by_cases h0:0<=i
 . rw [Oo h0] at h;by_cases h1:i<n
   . rw [Oo h1] at h;have e:i.toNat=j:=OT h;exact ⟨by rw [seqIndex_of h0 h1,e],by omega,by omega,h1⟩
   . rw [Oq h1] at h;cases h
 . rw [Oq h0] at h;by_cases h1 : -(n:Int)<=i
   . rw [Oo h1] at h;have e:(i+n).toNat=j:=OT h;exact ⟨by rw [seqIndex_neg (by omega) h1,e],by omega,h1,by omega⟩
   . rw [Oq h1] at h;cases h
theorem rY {α:Type} {xs:List α} {i:Int} {v:α} (h:jg xs i=some v):∃ j,seqIndex? i xs.length=some j/\xs[j]?=some v/\j<xs.length /\ -(xs.length:Int)<=i/\i<xs.length:=by
 unfold jg at h;cases e:ug xs.length i with
 | none=>rw [e] at h;cases h
 | some j=>
  rw [e] at h;obtain ⟨h1,h2,h3,h4⟩:=v6 e;exact ⟨j,h1,h,h2,h3,h4⟩
noncomputable def CC (b:Expr):Prop:=∀ o i,subscripted b false o i=operate [o,i] (getItem o i)
noncomputable def yO (X:Cx) (r:R2):Prop:=
 ∀ (value slice:Expr) (pins:List (Addr×Obj)) (s:Shared) (σ:St) (H:Hp) (x y:V) (v u:Value) (Q:VK),aL X pins σ H s->bq x v->bq y u->r x y H Q->
  subscripted slice false v u=operate [v,u] (getItem v u)->wpAny (model X.prog X.w) X.A (subscriptTail value slice v u) (EP X pins σ Q) X.xe s
noncomputable def HV (X:Cx) (id:String) (r:V->List V->Hp->VK->Prop):Prop:=
 ∀ (pins:List (Addr×Obj)) (s:Shared) (σ:St) (H:Hp) (x:V) (xs:List V) (v:Value) (us:List Value) (Q:VK),aL X pins σ H s->bq x v->be xs us->r x xs H Q->
  wpAny (model X.prog X.w) X.A (call (.builtin id) (v::us)) (EP X pins σ Q) X.xe s
section
variable {X:Cx} {a b:Expr} {ta tb:TE} {pos:Pos}
theorem yO.or {r r':R2} (h:yO X r) (h':yO X r'):yO X (λ x y H Q=>r x y H Q∨r' x y H Q):=by
 intro value slice pins s σ H x y v u Q I rx ry q hs;rcases q with q | q
 . exact h value slice pins s σ H x y v u Q I rx ry q hs
 . exact h' value slice pins s σ H x y v u Q I rx ry q hs
theorem MQ {r:R2} (hr:yO X r) (ha:PE X a ta) (hb:PE X b tb) (hs:CC b):PE X (.Subscript a b pos) (pP r ta tb):=by
 intro pins s σ H Q I h;exact Subscript_ (F8 ha hb I h λ v u s2 x y H2 I2 rx ry q=>hr a b pins s2 σ H2 x y v u Q I2 rx ry q (hs _ _))
noncomputable def Jx (K:Frag):R2:=λ x y H Q=>∃ p xs i v,x=.ref p/\y=.int i/\eS K H p xs/\jg xs i=some v/\Q v H
noncomputable def Iy (K:Frag):R2:=λ x y H Q=>∃ p xs i v,x=.ref p/\y=.int i/\gU K H p xs/\jg xs i=some v/\Q v H
noncomputable def HN:R2:=λ x y H Q=>∃ z i c,x=.str z/\y=.int i/\z.length<=sizeLine/\jg z.cps.toList i=some c/\Q (.str ⟨#[c]⟩) H
theorem Ci:yO X (Jx X.K):=by
 intro value slice pins s σ H x y v u Q I rx ry h hs;obtain ⟨p,xs,i,z,rfl,rfl,hq,he,q⟩:=h;cases rx;obtain ⟨t,rfl⟩:=ry;obtain ⟨its,r,pl,hz⟩:=I.list hq;obtain ⟨j,h1,h2,h3,h4,h5⟩:=rY he;obtain ⟨w,ew,rw'⟩:=r.get h2;have hl:=r.length;have hn:=kr;have fin:EP X pins σ Q w s:=⟨z,H,I,rw',q⟩
 by_cases h0:0<=i
 . have hj:i.toNat=j:=by
    rw [seqIndex_of h0 h5] at h1;exact OT h1
   exact item_listR pl.isList h0 (by omega) (by rw [hj];simpa using ew) fin hs
 . have hj:(i+(its.toArray.size:Int)).toNat=j:=by
    rw [seqIndex_neg (by omega) h4] at h1;rw [OB,<-hl];exact OT h1
   exact subscriptTail_builtinR (x:=w) pl.isList.typeIs slot_list_getitem.lookup
    (wpAny_getItem_list_neg (Q:=λ r s'=>r=w/\EP X pins σ Q r s') pl.isList (by omega) (by rw [OB] <;> omega) (by omega) (by rw [hj];simpa using ew) ⟨rfl,fin⟩) hs
theorem E3:yO X (Iy X.K):=by
 intro value slice pins s σ H x y v u Q I rx ry h hs;obtain ⟨p,xs,i,z,rfl,rfl,hq,he,q⟩:=h;cases rx;obtain ⟨t,rfl⟩:=ry;obtain ⟨its,r,pl,hz⟩:=I.tuple hq;obtain ⟨j,h1,h2,h3,h4,h5⟩:=rY he;obtain ⟨w,ew,rw'⟩:=r.get h2;have hl:=r.length;have hn:=kr;have fin:EP X pins σ Q w s:=⟨z,H,I,rw',q⟩
 exact subscriptTail_builtinR (x:=w) pl.typeIs slot_tuple_getitem.lookup
  (getItem_tuple (j:=j) (Q:=λ r s'=>r=w/\EP X pins σ Q r s') pl (by omega) (by omega) (by rw [OB,<-hl];exact h1) (by simpa using ew) ⟨rfl,fin⟩) hs
theorem Gx:yO X HN:=by
 intro value slice pins s σ H x y v u Q I rx ry h hs;obtain ⟨z,i,c,rfl,rfl,hz,he,q⟩:=h;obtain ⟨t,rfl⟩:=rx;obtain ⟨t',rfl⟩:=ry;obtain ⟨j,h1,h2,h3,h4,h5⟩:=rY he;have hl:z.cps.toList.length=z.length:=by simp [Str.length]
 rw [hl] at h1 h4 h5;have hn:=kr;exact tail_any (typeIs_str s z t) slot_str_getitem.lookup (getItem_str (c:=c) (by
  have e1:decide (i < -(2^63:Int))=false:=Oi (by omega);have e2:decide (i ≥ 2^63)=false:=Oi (by omega);rw [e1,e2,Bool.or_false]) (by rw [h1];simpa using h2) ⟨.str ⟨#[c]⟩,H,I.tok _,⟨_,rfl⟩,q⟩) hs
noncomputable def Kh (K:Frag):R2:=λ x y H Q=>Jx K x y H Q∨Iy K x y H Q∨HN x y H Q
theorem Fw:yO X (Kh X.K):=Ci.or (E3.or Gx)
theorem uK (its:List Value) (n j:Nat) (u:Value):Obj.mapSeq (·.setIfInBounds j u) { cls:=.type "list", data:=.seq its.toArray n }={ cls:=.type "list", data:=.seq (its.set j u).toArray n }:=by
 simp [Obj.mapSeq]
theorem aL.lst {pins:List (Addr×Obj)} {σ:St} {H:Hp} {s:Shared} {p:Addr} {xs:List V} (I:aL X pins σ H s) (h:H p=some (.lst xs)):
 ∃ (its:List Value) (n:Nat),be xs its/\s.heap.get? p=some { cls:=.type "list", data:=.seq its.toArray n }/\xs.length<=sizeLine:=by
 obtain ⟨z,its,n,r,e⟩:=I.hok p _ h;exact ⟨its,n,r,e,z⟩
theorem aL.lstUpd {pins:List (Addr×Obj)} {σ:St} {H:Hp} {s:Shared} {p:Addr} {xs ys:List V} {its its':List Value} {n n':Nat} {f:Obj->Obj} (I:aL X pins σ H s) (h:H p=some (.lst xs))
 (ho:s.heap.get? p=some { cls:=.type "list", data:=.seq its.toArray n }) (hf:f { cls:=.type "list", data:=.seq its.toArray n }={ cls:=.type "list", data:=.seq its'.toArray n' }) (r:be ys its') (hz:ys.length<=sizeLine) (t:Nat):
 aL X pins σ (d6 H p (.lst ys)) { s with heap:=s.heap.update p f,toks:=t }:=by
 have e:(s.heap.update p f).get? p=some { cls:=.type "list", data:=.seq its'.toArray n' }:=by
  rw [Pn f ho (by rw [hf] <;> rfl),hf]
 refine I.write (x:=p) (e:=p) (by rw [h];trivial) (.inl rfl) (λ b u hb q=>(Heap.get?_update_other _ _ (Pt hb)).trans q) ⟨_,e⟩ ?_;exact ⟨hz,its',n',r,e⟩
noncomputable def yx:V->V->V->Hp->(Hp->Prop)->Prop:=λ o i v H Q=>∃ p xs k j,o=.ref p/\i=.int k/\H p=some (.lst xs)/\ug xs.length k=some j/\Q (d6 H p (.lst (xs.set j v)))
theorem ya:Jc X yx:=by
 intro pins s σ H o i v ov iv u Q I ro ri rv h;obtain ⟨p,xs,k,j,rfl,rfl,hp,hj,q⟩:=h;cases ro;obtain ⟨t,rfl⟩:=ri;obtain ⟨its,n,r,ho,hz⟩:=I.lst hp;obtain ⟨h1,h2,h3,h4⟩:=v6 hj;have hl:=r.length;have hn:=kr;have I':aL X pins σ (d6 H p (.lst (xs.set j v))) { s with heap:=s.heap.update p (Obj.mapSeq (·.setIfInBounds j u)) }:=
  I.lstUpd hp ho (uK its n j u) (r.set rv j) (by rw [Pd];exact hz) s.toks
 by_cases h0:0<=k
 . have hk:k.toNat=j:=by
    rw [seqIndex_of h0 h4] at h1;exact OT h1
   exact PySem.W.ki_setAt ho h0 (by omega) (by rw [OB,<-hl];exact h4) (by rw [hk];exact ⟨_,I',q⟩)
 . have hk:(k+(its.toArray.size:Int)).toNat=j:=by
    rw [seqIndex_neg (by omega) h3] at h1;rw [OB,<-hl];exact OT h1
   exact PySem.W.ki_setBack ho (by omega) (by rw [OB,<-hl];exact h3) (by omega) (by rw [hk];exact ⟨_,I',q⟩)
theorem qN (lo hi:Option Int) (n:Nat):(sliceBounds lo hi none n).1=((HT.sIx n 0 lo:Nat):Int)/\(sliceBounds lo hi none n).2.1=((HT.sIx n n hi:Nat):Int)/\(sliceBounds lo hi none n).2.2=1:=by
 refine ⟨?_,?_,rfl⟩
 . cases lo with
   | none=>simp [sliceBounds,HT.sIx]
   | some i=>
    simp only [sliceBounds,HT.sIx,getD_none,show (1:Int)>0 by decide,OS];by_cases h:i<0
    . simp only [h,OS] <;> omega
    . simp only [h,OX] <;> omega
 . cases hi with
   | none=>simp [sliceBounds,HT.sIx]
   | some i=>
    simp only [sliceBounds,HT.sIx,getD_none,show (1:Int)>0 by decide,OS];by_cases h:i<0
    . simp only [h,OS] <;> omega
    . simp only [h,OX] <;> omega
theorem pG (its:List Value) (lo hi:Option Int):slicePick its.toArray lo hi none=((its.drop (HT.sIx its.length 0 lo)).take (HT.sIx its.length its.length hi-HT.sIx its.length 0 lo)).toArray:=by
 obtain ⟨h1,h2,h3⟩:=qN lo hi its.toArray.size;unfold slicePick;rw [h1,h2,h3];simp only [sliceRange_one,pick_run,OB] <;> rfl
noncomputable def HE (K:Frag):V->Option Int->Option Int->Hp->VK->Prop:=λ x lo hi H Q=>∃ a xs,x=.ref a/\eS K H a xs/\∀ p,H p=none->Q (.ref p) (d6 H p (.lst (mY xs lo hi)))
theorem Cy:Dg X (HE X.K):=by
 intro pins s σ H x v vl vu lo hi sl Q I rx hs pl pu h;obtain ⟨a,xs,rfl,hx,q⟩:=h;cases rx;obtain ⟨its,r,ht,hz⟩:=I.list hx;have hlen:=r.length;refine ⟨"list", _,slot_list_getitem.lookup,ht.isList.typeIs,?_⟩;refine wpAny_getItem_list_slice ht.isList hs pl pu .none (by simp) ?_ (by rw [OB] <;> omega);rw [pG,<-hlen];refine ⟨.ref s.heap.objs.size,_,I.laid (t':=s.toks) (o:=.lst (mY xs lo hi)) (λ b ob q=>OE _ q) (Ol _) ?_,rfl,q _ (I.hok.fresh (Ol _))⟩;exact ⟨OY (mQ xs lo hi) hz,_,0,(r.drop (HT.sIx xs.length 0 lo)).take (HT.sIx xs.length xs.length hi-HT.sIx xs.length 0 lo),OZ _ rfl⟩
noncomputable def gN:V->Bool
 | .non=>true
 | .bl _=>true
 | .int _=>true
 | .str _=>true
 | _=>false
noncomputable def CZ:V->V->Bool
 | .non,.non=>true
 | .bl a,.bl b=>a==b
 | .bl a,.int b=>(if a then 1 else 0)==b
 | .int a,.bl b=>a==(if b then 1 else 0)
 | .int a,.int b=>a==b
 | .str a,.str b=>a==b
 | _,_=>false
theorem EF {A:Around} {s:Shared} {y x:V} {u v:Value} (ry:bq y u) (rx:bq x v) (fy:gN y=true) (fx:gN x=true):SeqAt.EqAt A s u v (CZ y x):=by
 cases y with
 | non=>
  cases ry;cases x with
  | non=>cases rx;exact SeqAt.EqAt.same _
  | bl b=>cases rx;exact SeqAt.EqAt.none_bool b
  | int b=>obtain ⟨t,rfl⟩:=rx;exact SeqAt.EqAt.none_int b t
  | str b=>obtain ⟨t,rfl⟩:=rx;exact SeqAt.EqAt.none_str b t
  | _=>exact absurd (show false=true from fx) Oy
 | bl a=>
  cases ry;cases x with
  | non=>cases rx;exact SeqAt.EqAt.bool_none a
  | bl b=>cases rx;exact SeqAt.EqAt.bool_bool a b
  | int b=>obtain ⟨t,rfl⟩:=rx;exact SeqAt.EqAt.bool_int a b t
  | str b=>obtain ⟨t,rfl⟩:=rx;exact SeqAt.EqAt.bool_str a b t
  | _=>exact absurd (show false=true from fx) Oy
 | int a=>
  obtain ⟨t',rfl⟩:=ry;cases x with
  | non=>cases rx;exact SeqAt.EqAt.int_none a t'
  | bl b=>cases rx;exact SeqAt.EqAt.int_bool a t' b
  | int b=>obtain ⟨t,rfl⟩:=rx;exact SeqAt.EqAt.int_int a t' b t
  | str b=>obtain ⟨t,rfl⟩:=rx;exact SeqAt.EqAt.int_str a t' b t
  | _=>exact absurd (show false=true from fx) Oy
 | str a=>
  obtain ⟨t',rfl⟩:=ry;cases x with
  | non=>cases rx;exact SeqAt.EqAt.str_none a t'
  | bl b=>cases rx;exact SeqAt.EqAt.str_bool a t' b
  | int b=>obtain ⟨t,rfl⟩:=rx;exact SeqAt.EqAt.str_int a t' b t
  | str b=>obtain ⟨t,rfl⟩:=rx;exact SeqAt.EqAt.str_str a t' b t
  | _=>exact absurd (show false=true from fx) Oy
 | _=>exact absurd (show false=true from fy) Oy
noncomputable def BZ (x:V) (u:Value):Bool:=match u with
 | .none=>CZ .non x
 | .bool b=>CZ (.bl b) x
 | .int i _=>CZ (.int i) x
 | .str z _=>CZ (.str z) x
 | _=>false
theorem AF {x y:V} {u:Value} (r:bq y u) (f:gN y=true):BZ x u=CZ y x:=by
 cases y with
 | non=>cases r;rfl
 | bl b=>cases r;rfl
 | int i=>obtain ⟨t,rfl⟩:=r;rfl
 | str z=>obtain ⟨t,rfl⟩:=r;rfl
 | _=>exact absurd (show false=true from f) Oy
theorem wc {x:V} {xs:List V} {us:List Value} (h:be xs us):xs.all gN=true->us.any (BZ x)=xs.any λ y=>CZ y x:=by
 induction h with
 | nil=>exact λ _=>rfl
 | cons r _ ih=>
  intro f;rw [all_cons,OD] at f;rw [PH,PH,AF r f.1,ih f.2]
theorem sI {A:Around} {s:Shared} {x:V} {v:Value} (rx:bq x v) (fx:gN x=true):∀ {xs:List V} {us:List Value},be xs us->xs.all gN=true->∀ u∈us,SeqAt.EqAt A s u v (BZ x u):=λ h f u' hu=>by
 induction h with
 | nil=>cases hu
 | cons r _ ih=>
  rw [all_cons,OD] at f;rcases Ow.mp hu with rfl | hu
  . rw [AF r f.1];exact EF r rx f.1 fx
  . exact ih f.2 hu
noncomputable def BE (x:V) (xs:List V):Bool:=xs.any λ y=>CZ y x
noncomputable def ES (K:Frag) (neg:Bool):R2:=λ x y H Q=>∃ p xs,y=.ref p/\(eS K H p xs∨gU K H p xs)/\gN x=true/\xs.all gN=true/\Q (.bl (if neg then !BE x xs else BE x xs)) H
theorem xB:iw X (compareOp .In) (ES X.K false):=by
 intro pins s σ H x y v u Q I rx ry h;obtain ⟨p,xs,rfl,hq,fx,fs,q⟩:=h;cases ry;rcases hq with hq | hq
 . obtain ⟨its,r,pl,hz⟩:=I.list hq;refine SeqAt.in_listAt (BZ x) pl.isList (λ w hw=>sI rx fx r fs w (by simpa using hw)) ⟨.bl _,H,I,rfl,?_⟩;rw [show its.toArray.any (BZ x)=its.any (BZ x) by simp,wc r fs];exact q
 . obtain ⟨its,r,pl,hz⟩:=I.tuple hq;refine SeqAt.in_tupleAt (BZ x) pl (λ w hw=>sI rx fx r fs w (by simpa using hw)) ⟨.bl _,H,I,rfl,?_⟩;rw [show its.toArray.any (BZ x)=its.any (BZ x) by simp,wc r fs];exact q
theorem qG:ff X (.builtin "len") (λ xs H Q=>∃ p ys,xs=[.ref p]/\(eS X.K H p ys∨gU X.K H p ys)/\Q (.int ys.length) H):=by
 intro pins s σ H xs us Q I r h;obtain ⟨p,ys,rfl,hq,q⟩:=h;obtain ⟨u,rfl,rx⟩:=vL r;cases rx;have hn:=kr;rcases hq with hq | hq
 . obtain ⟨its,r',pl,hz⟩:=I.list hq;have hlen:=r'.length;exact Calls.call_len_list pl.isList (by simp only [OB] <;> omega) ⟨.int ys.length,H,I.tok _,⟨s.toks+1,by rw [OB,hlen]⟩,q⟩
 . obtain ⟨its,r',pl,hz⟩:=I.tuple hq;have hlen:=r'.length;exact len_tuple pl (by simp only [OB] <;> omega) ⟨.int ys.length,H,I.tok _,⟨s.toks+1,by rw [OB,hlen]⟩,q⟩
theorem rA:ff X (.builtin "len") (λ xs H Q=>∃ z,xs=[.str z]/\z.length<=sizeLine/\Q (.int z.length) H):=by
 intro pins s σ H xs us Q I r h;obtain ⟨z,rfl,hz,q⟩:=h;obtain ⟨u,rfl,t,rfl⟩:=vL r;have hn:=kr;exact len_str (by omega) ⟨.int z.length,H,I.tok _,⟨_,rfl⟩,q⟩
theorem ff.or {f:Value} {r r':List V->Hp->VK->Prop} (h:ff X f r) (h':ff X f r'):ff X f (λ xs H Q=>r xs H Q∨r' xs H Q):=by
 intro pins s σ H xs us Q I rs q;rcases q with q | q
 . exact h pins s σ H xs us Q I rs q
 . exact h' pins s σ H xs us Q I rs q
noncomputable def Md (K:Frag) (T:String) (x:V) (H:Hp):Prop:=match x with
 | .str _=>T = "str"
 | .int _=>T = "int"
 | .ref p=>(T = "list" /\ ∃ xs,eS K H p xs)∨(T = "tuple" /\ ∃ o,K.lookup p=some o/\o.cls=.type "tuple" /\ o.dict=none)∨
  (T = "dict" /\ ((∃ kvs,H p=some (.dK kvs))∨∃ kvs,H p=some (.dT kvs)))∨(T = "set" /\ ∃ S n,H p=some (.set S n))
 | _=>False
theorem zf {pins:List (Addr×Obj)} {σ:St} {H:Hp} {s:Shared} {T:String} {x:V} {v:Value} (I:aL X pins σ H s) (r:bq x v) (ty:Md X.K T x H):
 s.TypeIs v T/\∀ a,v=.ref a->∃ ob,s.heap.get? a=some ob/\ob.dict=none:=by
 cases x with
 | str z=>
  obtain ⟨t,rfl⟩:=r;cases (show T = "str" from ty);exact ⟨typeIs_str s z t,λ _ e=>nomatch e⟩
 | int i=>
  obtain ⟨t,rfl⟩:=r;cases (show T = "int" from ty);exact ⟨typeIs_int s i t,λ _ e=>nomatch e⟩
 | ref p=>
  cases r;rcases ty with ⟨rfl,xs,hq⟩ | ⟨rfl,o,hk,hc,hd⟩ | ⟨rfl,hk⟩ | ⟨rfl,S,n,hk⟩
  . obtain ⟨its,_,pl,_⟩:=I.list hq;refine ⟨pl.isList.typeIs,λ a e=>?_⟩;cases e;obtain ⟨o,n,e,c,hd,_⟩:=pl;exact ⟨o,e,hd⟩
  . refine ⟨⟨o,I.kIn p o hk,hc⟩,λ a e=>?_⟩;cases e;exact ⟨o,I.kIn _ o hk,hd⟩
  . have z:∃ o,s.heap.get? p=some o/\o.ExactDict:=by
     rcases hk with ⟨kvs,hk⟩ | ⟨kvs,hk⟩
     . obtain ⟨_,_,_,_,o,_,_,e,ex,_⟩:=I.hok p _ hk;exact ⟨o,e,ex⟩
     . obtain ⟨_,_,_,_,o,_,_,e,ex,_⟩:=I.hok p _ hk;exact ⟨o,e,ex⟩
    obtain ⟨o,e,ex⟩:=z;refine ⟨⟨o,e,ex.1⟩,λ a e2=>?_⟩;cases e2;exact ⟨o,e,ex.2.1⟩
  . obtain ⟨o,_,_,_,e,ex,_⟩:=I.hok p _ hk;refine ⟨⟨o,e,ex.1⟩,λ a e2=>?_⟩;cases e2;exact ⟨o,e,ex.2.1⟩
 | _=>exact False.elim ty
noncomputable def CT (K:Frag) (T:String) (r:V->List V->Hp->VK->Prop) (to:TE):TE:=λ σ H Q=>to σ H λ x H1=>Md K T x H1/\r x [] H1 Q
noncomputable def Jp (K:Frag) (T:String) (r:V->List V->Hp->VK->Prop) (to:TE) (t:TA):TE:=λ σ H Q=>to σ H λ x H1=>Md K T x H1/\t σ H1 λ xs H2=>r x xs H2 Q
variable {o e:Expr} {es:List Expr} {to:TE} {t:TA} {name:Str} {apos cpos:Pos} {T id:String} {r:V->List V->Hp->VK->Prop}
theorem Ha (pa:PlainAttrs T) (slot:Slot T name id) (hty:typeOf (.builtin id)=pure (.type "method_descriptor")) (hm:HV X id r) (ho:PE X o to)
 (hbase:attributeBase o name X.env (eval o X.env)=eval o X.env:=by rfl) (hline:(apos.endLine==cpos.line)=true:=by rfl):PE X (.Call (.Attribute o name apos) [] [] cpos) (CT X.K T r to):=by
 intro pins s σ H Q I h;refine wpAny_Call_method0_late hbase hline (cy (ho pins s σ H _ I h) λ v s1 hq0=>?_);obtain ⟨x,H1,I1,r1,ty,q1⟩:=hq0;obtain ⟨h1,h2⟩:=zf I1 r1 ty;exact ⟨T,id,pa,slot,hty,h1,h2,Calls.callWith_builtin rfl (PySem.evalArgs_none (hm pins s1 σ H1 x [] v [] Q I1 r1 .nil q1))⟩
theorem Ie (pa:PlainAttrs T) (slot:Slot T name id) (hty:typeOf (.builtin id)=pure (.type "method_descriptor")) (hm:HV X id r) (ho:PE X o to) (ha:PA X (e::es) t)
 (hbase:attributeBase o name X.env (eval o X.env)=eval o X.env:=by rfl)
 (hfew:((backTo cpos (starEach (e::es) X.env)).all (λ x=>!x.1)&&(backToKw cpos (keywordEach [] X.env)).all (λ x=>x.1.isSome)
  && decide ((e::es).length+([]:List Keyword).length+(if ([]:List Keyword).isEmpty then 0 else 1)<30))=true:=by rfl)
 (hline:(apos.endLine==cpos.line)=true:=by rfl) (hs:starEach (e::es) X.env=(false,eval e X.env)::starEach es X.env:=by rfl) (hplain:(backTo cpos (starEach es X.env)).any (·.1)=false:=by rfl):
 PE X (.Call (.Attribute o name apos) (e::es) [] cpos) (Jp X.K T r to t):=by
 intro pins s σ H Q I h;refine wpAny_Call_method_late hbase hfew hline rfl (cy (ho pins s σ H _ I h) λ v s1 hq0=>?_);obtain ⟨x,H1,I1,r1,ty,q1⟩:=hq0;obtain ⟨h1,h2⟩:=zf I1 r1 ty;refine ⟨T,id,pa,slot,hty,h1,h2,?_⟩;have hA:=ha cpos pins s1 σ H1 _ I1 q1;rw [hs] at hA ⊢;refine Calls.callWith_builtin (by show (false||(backTo cpos (starEach es X.env)).any (·.1))=false;rw [hplain] <;> rfl) (Calls.evalArgs_plain ?_);exact cy hA λ us s2 hy0=>by obtain ⟨vs,H2,I2,r2,q2⟩:=hy0;exact hm pins s2 σ H2 x vs v us Q I2 r1 r2 q2
end
noncomputable def M7 (X:Cx) (id:String) (r:V->List V->Hp->VK->Prop):Prop:=
 ∀ (pins:List (Addr×Obj)) (s:Shared) (σ:St) (H:Hp) (x:V) (xs:List V) (v:Value) (us:List Value) (Q:VK),aL X pins σ H s->bq x v->be xs us->r x xs H Q->
  wpAny (model X.prog X.w) X.A (call (.builtin id) (v::us)) (EP X pins σ Q) X.xe s
theorem be.one {x:V} {us:List Value} (h:be [x] us):∃ u,us=[u]/\bq x u:=by
 cases h with
 | cons r t=>cases t;exact ⟨_,rfl,r⟩
theorem be.zero:∀ {us:List Value},be [] us->us=[]
 | _,.nil=>rfl
theorem be.dropLast {xs:List V} {us:List Value} (h:be xs us):be xs.dropLast us.dropLast:=by
 induction h with
 | nil=>exact .nil
 | cons r t ih=>
  cases t with
  | nil=>exact .nil
  | cons q t'=>exact .cons r ih
theorem be.rep {xs:List V} {us:List Value} (h:be xs us):∀ k:Nat,be (List.replicate k xs).flatten (List.replicate k us).flatten
 | 0=>.nil
 | k+1=>by
  rw [OR,OR,Pc,Pc];exact be.append h (be.rep h k)
theorem uu {α:Type} (l:List α):l.eraseIdx (l.length-1)=l.dropLast:=by
 induction l with
 | nil=>rfl
 | cons a r ih=>
  cases r with
  | nil=>rfl
  | cons b r=>
   have e:(a::b::r).length-1=((b::r).length-1)+1:=by
    have h1:(a::b::r).length=r.length+2:=rfl;have h2:(b::r).length=r.length+1:=rfl;omega
   rw [e,List.eraseIdx_cons_succ,ih];all_goals rfl
theorem qk (its:List Value):∀ (k:Nat) (acc:List Value),
 List.foldl (λ x1 x2=>x1++x2) acc.toArray (List.replicate k its.toArray)=(acc++(List.replicate k its).flatten).toArray
 | 0,acc=>by simp
 | k+1,acc=>by
  have e:acc.toArray++its.toArray=(acc++its).toArray:=by simp
  have e2:(acc++its)++(List.replicate k its).flatten=acc++(List.replicate (k+1) its).flatten:=by
   rw [OR,Pc,append_assoc]
  rw [<-e2,<-qk its k (acc++its),<-e,OR,List.foldl_cons]
section
variable {X:Cx} {pins:List (Addr×Obj)} {σ:St} {H:Hp} {s:Shared} {l b:Addr} {xs ys zs:List V}
theorem aL.lset {its its':List Value} {n:Nat} {f:Array Value->Array Value} {t':Nat} (I:aL X pins σ H s) (hH:H l=some (.lst xs))
 (e:s.heap.get? l=some { cls:=.type "list", data:=.seq its.toArray n }) (hf:f its.toArray=its'.toArray) (hv:be ys its') (hz:ys.length<=sizeLine):
 aL X pins σ (d6 H l (.lst ys)) { s with heap:=s.heap.update l (Obj.mapSeq f),toks:=t' }:=by
 have q:=PySem.IsL.update e f;rw [hf] at q;refine I.write (x:=l) (e:=l) (by rw [hH];exact trivial) (.inl rfl) (λ b' u hb hu=>(Heap.get?_update_other s.heap (Obj.mapSeq f) (Pt hb)).trans hu) ⟨_,q⟩ ?_;exact ⟨hz,its',_,hv,q⟩
theorem aL.lnew {its:List Value} {t':Nat} (I:aL X pins σ H s) (hv:be ys its) (hz:ys.length<=sizeLine):
 aL X pins σ (d6 H s.heap.objs.size (.lst ys)) { s with heap:=s.heap.push { cls:=.type "list", data:=.seq its.toArray },toks:=t' }:=
 I.laid (λ _ _ q=>OE _ q) (Ol _) ⟨hz,its,0,hv,OZ _ rfl⟩
theorem aL.fresh (I:aL X pins σ H s):H s.heap.objs.size=none:=I.hok.fresh (Ol _)
theorem aL.lstM (I:aL X pins σ H s) (hH:H l=some (.lst xs)):xs.length<=sizeLine/\∃ (its:List Value) (n:Nat),be xs its/\xs.length=its.length/\s.heap.get? l=some { cls:=.type "list", data:=.seq its.toArray n }:=by
 obtain ⟨z,its,n,r,e⟩:=I.hok l _ hH;exact ⟨z,its,n,r,r.length,e⟩
theorem yd {n:Nat} (h:n<=sizeLine):Builtin.List.listTooLong n=false:=by
 unfold Builtin.List.listTooLong;exact Oi (by omega)
end
section
variable {X:Cx}
noncomputable def nB:V->List V->Hp->VK->Prop:=λ x vs H Q=>∃ l xs y,x=.ref l/\vs=[y]/\H l=some (.lst xs)/\xs.length<sizeLine/\Q .non (d6 H l (.lst (xs++[y])))
theorem wP:M7 X "list.append" nB:=by
 intro pins s σ H x vs v us Q I rx rv h;obtain ⟨l,xs,y,rfl,rfl,hH,hz,q⟩:=h;cases rx;obtain ⟨u,rfl,ru⟩:=rv.one;obtain ⟨z,its,n,r,hl,e⟩:=I.lstM hH;refine call_meets F.slot_list_append ⟨_,e,rfl⟩ F.entry_list_append (F.args_list_append_2 _ _) (PySem.list_append l its.toArray n u (by rw [OB];omega)) ⟨e,?_⟩;refine ⟨.non,_,I.lset (its':=its++[u]) hH e (by simp) (r.append (.cons ru .nil)) ?_,rfl,q⟩;rw [OV,Pg];omega
noncomputable def Fn:V->List V->Hp->VK->Prop:=λ x vs H Q=>∃ l xs y,x=.ref l/\vs=[]/\H l=some (.lst xs)/\xs[xs.length-1]?=some y/\Q y (d6 H l (.lst xs.dropLast))
theorem Hb:M7 X "list.pop" Fn:=by
 intro pins s σ H x vs v us Q I rx rv h;obtain ⟨l,xs,y,rfl,rfl,hH,hy,q⟩:=h;cases rx;have hus:=rv.zero;subst hus;obtain ⟨z,its,n,r,hl,e⟩:=I.lstM hH;obtain ⟨u,hu,ru⟩:=r.get hy;have hy':its.toArray[its.toArray.size-1]?=some u:=by
  show its.toArray[its.length-1]?=some u;rw [<-Array.getElem?_toList,<-hl];exact hu
 refine call_meets F.slot_list_pop ⟨_,e,rfl⟩ F.entry_list_pop (F.args_list_pop_1 _) (MeetsSeq.list_pop_last l its.toArray n u hy' (by rw [OB];omega)) ⟨e,?_⟩;refine ⟨y,_,I.lset (its':=its.dropLast) hH e ?_ r.dropLast ?_,ru,q⟩
 . show its.toArray.eraseIdxIfInBounds (its.toArray.size-1)=its.dropLast.toArray;rw [OB,List.eraseIdxIfInBounds_toArray,uu]
 . rw [List.length_dropLast];omega
noncomputable def IA:R2:=λ x y H Q=>∃ l k xs,x=.ref l/\y=.int k/\H l=some (.lst xs) /\ -(2^63)<=k/\k<2^63/\xs.length*k.toNat<=sizeLine/\
 ∀ p,H p=none->Q (.ref p) (d6 H p (.lst (List.replicate k.toNat xs).flatten))
theorem Bw {α:Type} (xs:List α) (k:Nat):(List.replicate k xs).flatten.length=k*xs.length:=by
 induction k with
 | zero=>simp
 | succ k ih=>rw [OR,Pc,OV,ih,Nat.succ_mul,Nat.add_comm]
theorem LD:iw X (binaryOp .Mult) IA:=by
 intro pins s σ H x y v u Q I rx ry h;obtain ⟨l,k,xs,rfl,rfl,hH,h1,h2,hz,q⟩:=h;cases rx;obtain ⟨t,rfl⟩:=ry;obtain ⟨z,its,n,r,hl,e⟩:=I.lstM hH;have hlen:its.toArray.size*k.toNat<=sizeLine:=by rw [OB,<-hl];exact hz
 have hcap:¬ its.toArray.size*k.toNat>(2^63-1) / 8:=by
  have:(sizeLine:Nat)<=(2^63-1) / 8:=by decide
  omega
 have hfit:¬ (!Builtin.List.listFitsIndex k)=true:=by
  rw [fitsIndex_both h1 h2];exact Oy
 have hlong:¬ Builtin.List.listTooLong (its.toArray.size*k.toNat)=true:=by
  rw [yd hlen];exact Oy
 have hnew:List.foldl (λ x1 x2=>x1++x2) #[] (List.replicate (if its.toArray.isEmpty=true then 0 else k.toNat) its.toArray)=(List.replicate k.toNat its).flatten.toArray:=by
  have f0:∀ m:Nat,List.foldl (λ x1 x2=>x1++x2) #[] (List.replicate m its.toArray)=(List.replicate m its).flatten.toArray:=λ m=>by
   have:=qk its m [];rw [PP] at this;exact this
  rw [f0];cases its with
  | nil=>simp
  | cons a r'=>rw [Oq (by simp)]
 refine wpAny_binaryOp_repeat_ref (T := "list") (U := "int") (by decide) ⟨_,e,rfl⟩ (λ s'=>typeIs_int s' k t) noFill_list_mul F.fills_int_mul F.slot_int_rmul repeat_list F.slot_int_index.lookup
  (call_meets F.slot_int_rmul (typeIs_int s k t) F.entry_int_rmul (F.args_int_rmul_2 _ _) (int___rmul___int_list k t l its.toArray n)
   ⟨e,rfl,⟨_,e,rfl⟩,call_meets F.slot_list_mul ⟨_,e,rfl⟩ F.entry_list_mul (F.args_list_mul_2 _ _) (AutoListH.list___mul___list_int_3 l its.toArray n k t hfit hcap hlong) ⟨e,?_⟩⟩)
 rw [hnew];exact ⟨.ref _,_,I.lnew (t':=s.toks) (r.rep k.toNat) (by rw [Bw,Nat.mul_comm];exact hz),rfl,q _ I.fresh⟩
end
section
variable {prog:Program} {w:World} {A:Around} {E:Value->Shared->Prop} {s:Shared}
end
section
variable {X:Cx}
end
end L2
namespace Att
open PySem PySem.W PySem.Calls PyProof.Rows
theorem nq {P:Params} {h:Heap}:∀ (ns:List Int) (vs:List Value),WellAll P h vs (ns.map WData.int)->IntsAre vs ns:=by
 intro ns;induction ns with
 | nil=>
  intro vs w;rw [map_nil] at w;cases w;exact .nil
 | cons n ns ih=>
  intro vs w;rw [List.map_cons] at w;cases w with
  | cons a b=>
   cases a;exact .cons _ _ (ih _ b)
theorem xA {l:OpenLaw} {n:Nat} (hn:l.most=some n) {P:Params} {h:Heap} {args:List WData} {vals:List Value}
 (hpre:l.row.toRowW.claim.pre args=true) (hwl:WellAll P h vals args):
 ∃ a vs ns,vals=[Value.ref a]/\args=[WData.list (ns.map WData.int)]/\h.get? a=some { cls:=.type "list", data:=.seq vs.toArray }/\IntsAre vs ns/\ns.length<=n:=by
 have hsh:WShape.hasAll [] args [.list .int]=true:=(pre_splitW hpre).1;have hc:l.pre.holds [] { args:=args }=true:=(pre_splitW hpre).2;obtain ⟨d,r,rfl,h1,h2⟩:=hasAllW_cons hsh;obtain rfl:=hasAllW_nil h2;obtain ⟨xs,rfl,h3⟩:=hasW_list h1;obtain ⟨ns,rfl⟩:=items_int h3;have hlen:ns.length<=n:=by
  unfold OpenLaw.pre at hc;have h4:(WTm.not (.lt (.lit (.int (n:Int))) (.len (.arg 0)))).holds [] { args:=[.list (ns.map .int)] }=true:=by
   have h4:=(holds_andW hc).1;rw [hn] at h4;exact h4
  have h5:=condW_of h4 (w_not (w_lt w_lit (w_len_list (w_arg rfl))));rw [List.length_map] at h5;refine Nat.le_of_not_lt λ q=>?_;have q':(n:Int)<((ns.length:Nat):Int):=by omega
  first
   | (rw [decide_eq_true q'] at h5;exact absurd h5 (by decide))
   | (simp at h5;omega)
 cases hwl with
 | cons w1 w2=>
  cases w2;cases w1 with
  | list ho hall=>exact ⟨_,_,ns,rfl,rfl,ho,nq ns _ hall,hlen⟩
theorem xK (l:OpenLaw) (args:List WData):l.row.toRowW.claim.post args (.bool true) args=true:=
 postW_of (r:=l.row.toRowW) (X:=(true==true))
  (show WShape.has [] (.bool true) .bool=true by first | rfl | decide | simp [WShape.has,WShape.arms,WShape.armsAll])
  (show (WTm.eq .res (.lit (.bool true))).value [] { args:=args,res:=some (.bool true),after:=args }=some (.bool (true==true)) from w_eq_bool (w_res rfl) w_lit) rfl
theorem attach_call {l:OpenLaw} {n:Nat} {q:Program} {loose:List Str} {XP:(Str->Option Value)->Heap->Prop} {YP:World->Heap->Prop} {d:DefRec}
 (hn:l.most=some n) (hdf:d.params.defaults=[])
 (call:∀ (w:World) (s₀ s₁:Shared) (mg mb:Str->Option Value) (fa:Addr) (o:Obj) (pm cd doc:Value) (a:Addr) (vs:List Value) (ns:List Int),
  Ground q loose [] XP w s₀ mg mb s₁.heap->YP w s₁.heap->
  s₁.heap.get? fa=some o->o.data=.func (docDef d.name d.params d.body d.scope pm cd doc)->s₁.heap.CodeRec cd d.name->mg d.name=some (.ref fa)->
  s₁.heap.get? a=some { cls:=.type "list", data:=.seq vs.toArray }->IntsAre vs ns->ns.length<=n->s₁.gens = #[]->
  codeAny (model l.prog w) callerA (.call (.ref fa) ⟨[.ref a],[]⟩) (λ r s'=>r=.ok (.ret (.bool true))/\OldK s₁.heap s'.heap/\s'.os=s₁.os/\AllBare s'.gens) s₁):
 WalkO q loose XP YP l.row.toRowW d [] (λ f vs=>PySem.call f vs):=by
 intro w s₀ s₁ mg mb G Y fa o pm cd doc dV kV ho hd hcd hD hmg hg args vals as hpre hlay hrd hwl hlo;obtain rfl:dV=.none:=Dflts.none hD hdf;obtain rfl:kV=.none:=Dflts.noKw hD;obtain ⟨a,vs,ns,rfl,rfl,hobj,hints,hlen⟩:=xA hn hpre hwl;refine enter_call (codeAny_mono (call w s₀ s₁ mg mb fa o pm cd doc a vs ns G Y ho (fd_plain hd) hcd hmg hobj hints hlen hg) λ r s' hq=>?_);obtain ⟨rfl,h2,h3,h4⟩:=hq;exact ⟨.inl ⟨.bool true,.bool true,[],rfl,λ _=>rfl,.bool true,xK l _,λ _=>⟨List.Pairwise.nil,λ _ hm=>(nomatch hm)⟩⟩,h2,h3,h4⟩
section
variable {prog:Program} {w:World} {A:Around} {E:Value->Shared->Prop} {s:Shared} {K:Frag}
end
end Att
namespace L2
open PySem PySem.Spec PyProof.Rows
open PySem.W (Frag)
theorem xk {vs:List Value} {ns:List Int} (h:IntsAre vs ns):be (ns.map V.int) vs:=by
 induction h with
 | nil=>exact .nil
 | cons n t _ ih=>exact .cons ⟨t,rfl⟩ ih
noncomputable def Gv (H:Hp):Prop:=∀ b,H b=none∨∃ o xs,H b=some (.frz o (.lst xs))
theorem Aa {P:Program} {w:World} {K:Frag} {mg mb:Str->Option Value} {CX:qE} {k:Nat} {fa a:Addr} {fd:FuncData} {x:Str} {sp:Sp} {s₁:Shared} {vs:List Value} {ns:List Int}
 (KX:K.In s₁.heap) (hns:s₁.heap.Ns mainGlobals mg) (hb:s₁.heap.Ns builtinsNs mb) (hbb:∀ x:Str,x ≠ "__name__" -> mb x=bootBuiltins x) (hlim:s₁.heap.NoLimit) (hg:s₁.gens = #[])
 (ha:s₁.heap.get? a=some { cls:=.type "list", data:=.seq vs.toArray }) (hi:IntsAre vs ns) (hl:ns.length<=sizeLine) (hr:cP k callerA)
 (F:∀ base:Heap,K.In base->base.Ns mainGlobals mg->eE P w K mg base CX k fa fd [x] sp) (hbind:∀ (s:Shared) (u:Value),BindsTo s fd ⟨[u],[]⟩ [(x,u)])
 (hsp:∀ H:Hp,Gv H->eS K H a (ns.map V.int)->sp [.ref a] H (λ v _=>v=.bl true) λ _ _ _=>False)
 (hCX:∀ H e s',CX [] H s₁ (λ _ _ _=>False) e s'->False):
 codeAny (model P w) callerA (.call (.ref fa) ⟨[.ref a],[]⟩) (λ r s'=>r=.ok (.ret (.bool true))/\OldK s₁.heap s'.heap/\s'.os=s₁.os/\AllBare s'.gens) s₁:=by
 have rv:=xk hi;have lenV:=hi.length;have core:∀ H:Hp,Gv H->eS K H a (ns.map V.int)->iS P w H s₁.heap->(∀ b,H b≠none->b=a)->(H a≠none->K.lookup a=none)->
  codeAny (model P w) callerA (.call (.ref fa) ⟨[.ref a],[]⟩) (λ r s'=>r=.ok (.ret (.bool true))/\OldK s₁.heap s'.heap/\s'.os=s₁.os/\AllBare s'.gens) s₁:=by
  intro H hO hS hok hA hK;have base_of:∀ {b:Addr} {o:Obj},s₁.heap.get? b=some o->H b=none->(rV s₁.heap H).get? b=some o:=λ e n=>y9 e n;have noA:∀ {b:Addr} {o:Obj} {es:Array DictEntry} {ep:Nat},s₁.heap.get? b=some o->o.data=.dict es ep->H b=none:=λ {b o es ep} e d=>by
   cases q:H b with
   | none=>rfl
   | some u=>
    have e':b=a:=hA b (by rw [q];simp);subst e';rw [ha] at e;cases e;have d':Data.seq vs.toArray _=Data.dict es ep:=d;cases d'
  have nsK:∀ {b:Addr} {m:Str->Option Value},s₁.heap.Ns b m->(rV s₁.heap H).Ns b m:=λ {b m} hy0=>by obtain ⟨o,es,ep,e,d,r⟩:=hy0;exact ⟨o,es,ep,base_of e (noA e d),d,r⟩
  have hKb:K.In (rV s₁.heap H):=λ b o e=>base_of (KX b o e) (by
   cases q:H b with
   | none=>rfl
   | some u=>
    have e':b=a:=hA b (by rw [q];simp);subst e';rw [hK (by rw [q];simp)] at e;cases e)
  have hM:Mod K mg (rV s₁.heap H):=⟨hKb,nsK hns,⟨mb,nsK hb,hbb⟩,by obtain ⟨mc,h1,h2⟩:=hlim;exact ⟨mc,nsK h1,h2⟩⟩
  have e0:tO P w K mg (rV s₁.heap H) callerA [] s₁ H:=⟨rfl,hM,λ b o e=>Bi e,le_of_eq (wU _ _),trivial,λ b hb=>absurd (show b∈([]:List Addr) from hb) (by simp),hok,.of_eq hg⟩
  refine codeAny_mono ((F _ hKb (nsK hns)).run callerA [] s₁ H ⟨[.ref a],[]⟩ [.ref a] [.ref a] _ _ hr e0 (hbind s₁ (.ref a)) (.cons rfl .nil) (hsp H hO hS)) λ r s' h=>?_;cases r with
  | error e=>exact (hCX H e s' h).elim
  | ok fl=>
   cases fl with
   | next=>exact False.elim h
   | brk=>exact False.elim h
   | cont=>exact False.elim h
   | ret u=>
    obtain ⟨v,H',os,bare,un,hok',r',q⟩:=h;have q':v=.bl true:=q;subst q';obtain rfl:u=Value.bool true:=r';refine ⟨rfl,OldK.of_keep λ b o e=>?_,os,bare⟩;cases q:H b with
    | none=>exact un.keep b o e q (by intro z;exact absurd (show b∈([]:List Addr) from z) (by simp)) (by simp)
    | some u=>
     rcases hO b with z | ⟨ob,xs,z⟩
     . rw [q] at z;cases z
     . have z2:=un.frzs b ob _ z;obtain ⟨e1,_⟩:=hok b _ z;obtain ⟨e2,_⟩:=hok' b _ z2;rw [e] at e1;cases e1;exact e2
 cases hk:K.lookup a with
 | some o=>
  have e:=KX a o hk;rw [ha] at e;cases e;refine core (λ _=>none) (λ _=>.inl rfl) (.inr ⟨_,vs.toArray,_,hk,rfl,rfl,rfl,by rw [OB,lenV];exact hl,by simpa using rv⟩) (λ b u z=>by have z':(none:Option HO)=some u:=z;cases z') (λ b z=>absurd rfl z) λ z=>absurd rfl z
 | none=>
  refine core (λ b=>if b=a then some (.frz { cls:=.type "list", data:=.seq vs.toArray } (.lst (ns.map V.int))) else none) (λ b=>?_) (.inl (.inr ⟨{ cls:=.type "list", data:=.seq vs.toArray },Oo rfl⟩)) (λ b u z=>?_) (λ b z=>?_) λ _=>hk
  . by_cases hb:b=a
    . exact .inr ⟨_,_,Oo hb⟩
    . exact .inl (Oq hb)
  . by_cases hb:b=a
    . have z':=(Oo hb).symm.trans z;cases z';subst hb;exact ⟨ha,by rw [O6];exact hl,vs,_,rv,ha⟩
    . have z':=(Oq hb).symm.trans z;cases z'
  . by_cases hb:b=a
    . exact hb
    . exact absurd (Oq hb) z
theorem walk_of {l:PySem.W.OpenLaw} {n k:Nat} {q:Program} {loose:List Str} {XP:(Str->Option Value)->Heap->Prop} {YP:World->Heap->Prop} {d:DefRec} {K:Params->Frag} {CX:World->qE} {sp:World->Sp} {x:Str}
 (hn:l.most=some n) (hn2:n<=sizeLine) (hdf:d.params.defaults=[]) (hr:cP k callerA)
 (hY:∀ (w:World) (h:Heap),YP w h->(K w.params).In h)
 (F:∀ (w:World) (mg:Str->Option Value) (fa:Addr) (h:Heap),(K w.params).In h->h.Ns mainGlobals mg->mg d.name=some (.ref fa)->
  ∃ fd:FuncData,(∀ (s:Shared) (u:Value),BindsTo s fd ⟨[u],[]⟩ [(x,u)])/\
   ∀ base:Heap,(K w.params).In base->base.Ns mainGlobals mg->eE l.prog w (K w.params) mg base (CX w) k fa fd [x] (sp w))
 (hsp:∀ (w:World) (H:Hp) (a:Addr) (ns:List Int),ns.length<=n->Gv H->eS (K w.params) H a (ns.map V.int)->sp w [.ref a] H (λ v _=>v=.bl true) λ _ _ _=>False)
 (hCX:∀ (w:World) (H:Hp) (s:Shared) (e:Value) (s':Shared),CX w [] H s (λ _ _ _=>False) e s'->False):
 PySem.W.WalkO q loose XP YP l.row.toRowW d [] (λ f vs=>PySem.call f vs):=by
 refine Att.attach_call hn hdf λ w s₀ s₁ mg mb fa o pm cd doc a vs ns G Y ho hd hcd hmg hobj hints hlen hg=>?_;have KX:=hY w _ Y;obtain ⟨fd,hb,hF⟩:=F w mg fa _ KX G.T.g hmg;exact Aa KX G.T.g G.T.b G.T.builtins G.T.nolimit hg hobj hints (OY hlen hn2) hr hF hb (λ H hO hS=>hsp w H a ns hlen hO hS) λ H e s'=>hCX w H s₁ e s'
noncomputable def bt (s:Stmt) (j:Nat):Stmt:=match s with
 | .ClassDef _ _ _ body _ _ _ _ _ _ _=>body.getD j (.Pass ⟨0,0,0,0⟩)
 | _=>.Pass ⟨0,0,0,0⟩
noncomputable def aT (s:Stmt):Arguments:=match s with
 | .FunctionDef _ a _ _ _ _ _ _ _ _=>a
 | _=>{ posonlyargs:=[],args:=[],vararg:=none,kwonlyargs:=[],kw_defaults:=[],kwarg:=none,defaults:=[] }
noncomputable def aM (s:Stmt):List Stmt:=match s with
 | .FunctionDef _ _ b _ _ _ _ _ _ _=>b
 | _=>[]
noncomputable def ay (s:Stmt):Scope:=match s with
 | .FunctionDef _ _ _ _ _ _ sc _ _ _=>sc
 | _=>{ kind:=.function,names:=[],isGenerator:=false,isCoroutine:=false }
noncomputable abbrev va:qE:=λ _ _ _ _ _ _=>False
noncomputable abbrev E0:XK:=λ _ _ _=>False
theorem IZ {X:Cx}:iz va X E0:=λ _ _ _ _ _ _ _ h=>h.elim
structure Lg (K:Frag) (x qual:Str) (st:Stmt) (f:Addr) (fd:FuncData):Prop where
 ex:∃ (oc:Value) (od:Option Addr) (kV doc pm:Value) (an:Option Addr) (cdv ct:Value) (osl:Array (Option Value)),
  fd=PySem.W.fnOf x qual (aT st) (aM st) (ay st) .none kV doc pm an cdv ct/\K.lookup f=some ⟨oc,od,.func fd,osl⟩/\PySem.W.codeIn K cdv qual=true
 kp:PySem.W.keepIn K (.ref f)=true
section
variable {P:Program} {w:World} {K:Frag} {mg:Str->Option Value} {base:Heap}
theorem Lg.binds {x qual:Str} {st:Stmt} {f:Addr} {fd:FuncData} {ps:List Str} (F:Lg K x qual st f fd)
 (h:∀ (kV doc pm:Value) (an:Option Addr) (cdv ct:Value) (us:List Value),us.length=ps.length->bindArgs (PySem.W.fnOf x qual (aT st) (aM st) (ay st) .none kV doc pm an cdv ct) ⟨us,[]⟩=pure (ps.zip us)):aN K fd ps []:=by
 obtain ⟨oc,od,kV,doc,pm,an,cdv,ct,osl,rfl,lk,hcd⟩:=F.ex;exact .all (h kV doc pm an cdv ct)
theorem bM {x qual:Str} {st:Stmt} {f:Addr} {oc:Value} {od an:Option Addr} {osl:Array (Option Value)} {kV doc pm cdv ct:Value} (l:K.lookup f=some ⟨oc,od,.func (PySem.W.fnOf x qual (aT st) (aM st) (ay st) .none kV doc pm an cdv ct),osl⟩)
 (c:PySem.W.codeIn K cdv qual=true) (k:PySem.W.keepIn K (.ref f)=true):Lg K x qual st f (PySem.W.fnOf x qual (aT st) (aM st) (ay st) .none kV doc pm an cdv ct):=⟨⟨oc,od,kV,doc,pm,an,cdv,ct,osl,rfl,l,c⟩,k⟩
end
theorem x6 {n:Nat} (h:n<=1000):n<sizeLine:=Nat.lt_of_le_of_lt h (by decide)
section
variable {X:Cx}
end
noncomputable def bE (H H':Hp):Prop:=∀ b o,H b=some o->H' b=some o
theorem bE.refl (H:Hp):bE H H:=λ _ _ h=>h
theorem bE.trans {H H1 H2:Hp} (a:bE H H1) (b:bE H1 H2):bE H H2:=λ c o h=>b c o (a c o h)
theorem bE.seq {K:Frag} {H H':Hp} {a:Addr} {xs:List V} (e:bE H H') (h:eS K H a xs):eS K H' a xs:=by
 rcases h with (h | ⟨o,h⟩) | h
 . exact .inl (.inl (e _ _ h))
 . exact .inl (.inr ⟨o,e _ _ h⟩)
 . exact .inr h
noncomputable def pv (cells:List (Str×Addr)):List (Str×NameKind)->List (Str×Addr)->List (Str×Addr)
 | [],cs=>cs
 | (n,k)::r,cs=>pv cells r (if k==.free then (n,(cells.lookup n).getD 0)::cs else cs)
noncomputable def xy (scope:Scope) (env:Env):List (Str×Addr):=pv env.cells scope.names []
theorem v8 {env:Env}:∀ (names:List (Str×NameKind)) (cs:List (Str×Addr)),(∀ y∈names,y.2=.free->∃ c,env.cells.lookup y.1=some c)->
 (forIn names cs λ (x:Str×NameKind) (r:List (Str×Addr))=>(match x with
  | (name,kind)=>if (kind==NameKind.free)=true then do let a <-cellOf env name;pure (ForInStep.yield ((name,a)::r)) else pure (ForInStep.yield r):Sem (ForInStep (List (Str×Addr)))))=(pure (pv env.cells names cs):Sem _)
 | [],cs,_=>rfl
 | (n,k)::r,cs,h=>by
  have hr:=λ cs'=>v8 (env:=env) r cs' λ y hy=>h y (OH _ hy);rw [List.forIn_cons];by_cases hk:(k==NameKind.free)=true
  . obtain ⟨c,hc⟩:=h (n,k) OK (by simpa using hk);have e1:cellOf env n=pure c:=by unfold cellOf;rw [hc]
    simp only [hk,OS,e1,pure_bind];rw [hr];unfold pv;rw [Oo hk,hc]
    conv=>rhs;unfold pv
    rfl
  . simp only [hk,OX,pure_bind,OO];rw [hr]
    conv=>rhs;unfold pv
    rw [Oq hk]
theorem u0 {scope:Scope} {env:Env} (h:∀ y∈scope.names,y.2=.free->∃ c,env.cells.lookup y.1=some c):closureFor scope env=pure (xy scope env):=by
 unfold closureFor xy;rw [<-v8 scope.names [] h];simp
theorem m6 {cells:List (Str×Addr)} {x:Str} {c:Addr}:∀ (names:List (Str×NameKind)) (cs:List (Str×Addr)),(∀ y∈names,y.2=.free->∃ d,cells.lookup y.1=some d)->(∀ d,cs.lookup x=some d->cells.lookup x=some d)->
 (pv cells names cs).lookup x=some c->cells.lookup x=some c
 | [],cs,_,hc,h=>hc c h
 | (n,k)::r,cs,hn,hc,h=>by
  unfold pv at h;refine m6 r _ (λ y hy=>hn y (OH _ hy)) ?_ h;intro d hd;by_cases hk:(k==NameKind.free)=true
  . rw [Oo hk] at hd;obtain ⟨e,he⟩:=hn (n,k) OK (by simpa using hk);simp only at he;rw [lookup_cons] at hd;cases hx:x==n with
    | true=>
     have:x=n:=by simpa using hx
     subst this;rw [hx] at hd;simp only [Option.some.injEq] at hd;rw [he] at hd ⊢;simp at hd;rw [hd]
    | false=>
     rw [hx] at hd;exact hc d hd
  . rw [Oq hk] at hd;exact hc d hd
theorem oQ {cells:List (Str×Addr)} {x:Str}:∀ (names:List (Str×NameKind)) (cs:List (Str×Addr)),((x,NameKind.free)∈names∨∃ d,cs.lookup x=some d)->∃ d,(pv cells names cs).lookup x=some d
 | [],cs,h=>by
  rcases h with h | h
  . cases h
  . exact h
 | (n,k)::r,cs,h=>by
  unfold pv;refine oQ r _ ?_;rcases h with h | ⟨d,h⟩
  . rcases Ow.mp h with e | h
    . cases e;exact .inr ⟨_,by rw [Oo (by rfl),lookup_cons,beq_self_eq_true]⟩
    . exact .inl h
  . refine .inr ?_;split
    . rw [lookup_cons];cases hx:x==n with
      | true=>exact ⟨_,rfl⟩
      | false=>exact ⟨d,h⟩
    . exact ⟨d,h⟩
theorem hX {scope:Scope} {env:Env} {x:Str} {k:NameKind} (h:(relabel scope env).names.lookup x=some k) (hk:k=.cell∨k=.free) (hc:∀ y∈scope.names,y.2≠.cell):(x,NameKind.free)∈scope.names:=by
 have hm:=Pl h;unfold relabel at hm;obtain ⟨⟨n,k'⟩,hy,e⟩:=PM.mp hm;by_cases q:(k'==NameKind.free&&env.scope.kind==.function&&env.kindOf n==some .cell)=true
 . simp only [q,OS] at e;cases e;have:k'=.free:=by
    simp only [OD,PQ] at q;exact q.1.1
   subst this;exact hy
 . simp only [q,OX,OO] at e;cases e;rcases hk with rfl | rfl
   . exact absurd rfl (hc _ hy)
   . exact hy
noncomputable def lift (ix:List (Option Nat)) (σ:St):St:=ix.map λ o=>match o with
 | none=>none
 | some i=>match σ[i]? with
  | some v=>v
  | none=>none
structure cH (X:Cx) (scope:Scope) (N:List Str) (ix:List (Option Nat)):Prop where
 kind:scope.kind=.function
 nocell:∀ y∈scope.names,y.2≠.cell
 locs:∀ y∈scope.names,y.2=.local->scope.names.lookup y.1=some .local
 free:∀ y∈scope.names,y.2=.free->X.env.kindOf y.1=some .cell∨X.env.kindOf y.1=some .free
 len:ix.length=N.length
 nd:N.Nodup
 from':∀ j i:Nat,ix[j]?=some (some i)->∃ x,N[j]?=some x/\X.N[i]?=some x/\(X.env.kindOf x=some .cell∨X.env.kindOf x=some .free)/\((relabel scope X.env).names.lookup x=some .cell∨(relabel scope X.env).names.lookup x=some .free)
noncomputable def cD (X:Cx) (scope:Scope) (N:List Str) (s₀:Shared) (H₀:Hp) (C:Addr) (ex:List Addr):Cx where
 prog:=X.prog
 w:=X.w
 K:=X.K
 mg:=X.mg
 base:=X.base
 A:=X.A
 N:=N
 s₀:=s₀
 H₀:=H₀
 env:=compEnvC scope (xy scope X.env) C X.env
 outer:=X.stack
 stack:=X.stack
 ex:=ex
 fn:=λ _=>false
 calm:=X.calm
 pn:=[]
 xe:=λ _ _=>False
section
variable {X:Cx} {pins:List (Addr×Obj)} {σ:St} {H:Hp} {s:Shared} {scope:Scope} {N:List Str} {ix:List (Option Nat)}
theorem cH.cells (S:cH X scope N ix) (I:aL X pins σ H s):∀ y∈scope.names,y.2=.free->∃ c,X.env.cells.lookup y.1=some c:=λ y hy hk=>I.ok.has y.1 (S.free y hy hk)
theorem cH.sub (S:cH X scope N ix) (I:aL X pins σ H s) {x:Str} {c:Addr} (h:(xy scope X.env).lookup x=some c):X.env.cells.lookup x=some c:=
 m6 scope.names [] (S.cells I) (λ d h=>by simp at h) h
theorem cH.start (S:cH X scope N ix) (I:aL X pins σ H s) {fp:List Addr} {C D:Addr} {h':Heap} {tk:Nat} (hf:∀ b∈fp,lS X pins H b) (hfo:∀ b∈fp,∃ o,s.heap.get? b=some o) (hD:D=s.heap.objs.size) (hC:s.heap.objs.size<C)
 (k:∀ b o,s.heap.get? b=some o->h'.get? b=some o) (hn:h'.Ns C λ _=>none):aL (cD X scope N s H C (D::fp)) [] (lift ix σ) H { s with heap:=h',toks:=tk }:=by
 have ltC:∀ x c,X.env.cells.lookup x=some c->c<s.heap.objs.size:=λ x c e=>let ⟨v,q⟩:=I.cell x c e;q.lt;refine ⟨⟨I.ok.mod,S.kind,I.ok.glob,I.ok.blt,Ps hC,λ x y c h1 h2=>I.ok.inj x y c (S.sub I h1) (S.sub I h2),λ x hx=>?_,λ x c z=>?_,I.ok.hd,I.ok.frames,.inl rfl,λ b hb=>?_,I.bs,OY I.ok.bsz I.sz,λ b o e hb=>?_,λ b hb hb'=>?_,I.stack,I.stkFree⟩,
  rfl,I.bare,Un.kept k,⟨_,hn,λ j x v e1 e2 e3=>?_⟩,λ x c e=>?_,I.hok.fresh (Ps hC),λ x c e=>I.freeC x c (S.sub I e),λ p hp=>absurd (show p∈([]:List (Addr×Obj)) from hp) (by simp),I.hok.kept k,?_⟩
 . have hx:(relabel scope X.env).names.lookup x=some .cell∨(relabel scope X.env).names.lookup x=some .free:=hx;have hm:(x,NameKind.free)∈scope.names:=by
    rcases hx with h | h
    . exact hX h (.inl rfl) S.nocell
    . exact hX h (.inr rfl) S.nocell
   exact oQ _ _ (.inl hm)
 . cases z
 . rcases Ow.mp hb with e | hb
   . subst e;subst hD;exact ⟨OP hC,λ x c e z=>absurd (ltC x c (S.sub I e)) (by rw [z];exact O5 _)⟩
   . obtain ⟨o,e⟩:=hfo b hb;exact ⟨OP (PD (OA e) hC),λ x c e=>(hf b hb).2.2.2.2.1 x c (S.sub I e)⟩
 . have lb:=OC (OA e) I.ok.bsz;rcases Ow.mp hb with z | hb
   . subst z;subst hD;exact absurd (OC lb I.sz) (O5 _)
   . rcases (hf b hb).2.2.2.1 with z | z
     . exact I.ok.noex b o e z
     . exact absurd (OC lb z) (O5 _)
 . have hs:=I.stkSub b hb';rcases Ow.mp hb with z | hb
   . subst z;subst hD;rcases Ow.mp hs with z | z
     . exact absurd I.lt (by rw [<-z];exact O5 _)
     . exact I.nofs (Ol _) z
   . rcases Ow.mp hs with z | z
     . exact (hf b hb).2.1 z
     . exact (hf b hb).2.2.1 z
 . unfold lift at e2;rw [O2] at e2;cases q:ix[j]? with
   | none=>rw [q] at e2;cases e2
   | some o=>
    rw [q] at e2;cases o with
    | none=>cases e2
    | some i=>
     obtain ⟨y,f1,f2,f3,f4⟩:=S.from' j i q;have e1':N[j]?=some x:=e1;rw [f1] at e1';cases e1';simp only [Ot,Option.some.injEq] at e2;cases q2:σ[i]? with
     | none=>rw [q2] at e2;cases e2
     | some w=>
      rw [q2] at e2;simp only at e2;subst e2;obtain ⟨m,hm,hl⟩:=I.loc;have vis:JV X.env.scope x:=by
       rcases f3 with z | z
       . exact .inr (.inl z)
       . exact .inr (.inr z)
      obtain ⟨u,r,l⟩:=hl i x v f2 q2 vis;refine ⟨u,r,.inr ⟨f4,?_⟩⟩;rcases l with ⟨l1,_⟩ | ⟨_,c,hc,hcell⟩
      . rw [l1] at f3;rcases f3 with z | z <;> cases z
      . have hmf:(x,NameKind.free)∈scope.names:=by
         rcases f4 with h | h
         . exact hX h (.inl rfl) S.nocell
         . exact hX h (.inr rfl) S.nocell
        obtain ⟨d,hd⟩:=oQ (cells:=X.env.cells) scope.names [] (.inl hmf);have hd':=S.sub I hd;rw [hc] at hd';cases hd';refine ⟨c,hd,?_⟩;obtain ⟨o,ho,hod⟩:=hcell;exact ⟨o,k _ _ ho,hod⟩
 . obtain ⟨v,o,ho,hod⟩:=I.cell x c (S.sub I e);exact ⟨v,o,k _ _ ho,hod⟩
 . show (lift ix σ).length=N.length;unfold lift;rw [O6,S.len]
end
theorem j9 {prog:Program} {w:World} {A:Around} {R:Result->Shared->Prop} {s:Shared} {elt target iter:Expr} {ifs:List Expr} {scope:Scope} {pos:Pos} {it acc:Value} {env:Env} (I:Nat->Shared->Prop)
 (turn:∀ n s,I n s->wpAny (model prog w) A (pyNext it) (λ r s₁=>match r with
  | none=>R (.ok .next) s₁
  | some v=>wpAny (model prog w) A (letOwnedTupleGo target it v) (λ _ s₁'=>wpAny (model prog w) A (assign target env v) (λ _ s₂=>
   wpAny (model prog w) A (forIn ifs true λ c r=>if r=true then do let ok <-isTrue c env (eval c env);pure (ForInStep.yield ok) else pure (ForInStep.yield r)) (λ ok s₃=>
    if ok=true then wpAny (model prog w) A (eval elt env) (λ x s₄=>
     wpAny (model prog w) A (call (.builtin "list.append") [acc,x]) (λ _ s₅=>∃ m,m<n/\I m s₅) (λ _ _=>False) s₄) (λ _ _=>False) s₃
    else ∃ m,m<n/\I m s₃) (λ _ _=>False) s₂) (λ _ _=>False) s₁') (λ _ _=>False) s₁) (λ _ _=>False) s)
 (n:Nat) (h:I n s):
 codeAny (model prog w) A (.compLoop (.ListComp elt [⟨target,iter,ifs,0⟩] scope pos) 0 it acc env) R s:=by
 refine codeAny_loop rfl I (λ n s hI=>?_) n h;show wpAny _ A ((compTurn (.ListComp elt [⟨target,iter,ifs,0⟩] scope pos) 0 it acc env).onRaise (λ x=>do noteFrame x env;theTreesLotGoes x)) _ _ s;refine wpAny_noted ?_;rw [compTurn_list];refine Ov (wpAny_standAt (Ov (O4 (turn n s hI) (λ r s₁ h₁=>?_) λ _ _ h'=>h'.elim)));cases r with
 | none=>exact OL h₁
 | some v=>
  refine Ov (O4 h₁ (λ _ s₁' h₁'=>?_) λ _ _ h'=>h'.elim);refine Ov (O4 h₁' (λ _ s₂ h₂=>Ov (O4 h₂ (λ ok s₃ h₃=>?_) λ _ _ h'=>h'.elim)) λ _ _ h'=>h'.elim);cases ok with
  | false=>exact OL ⟨rfl,h₃⟩
  | true=>
   exact Ov (Ov (O4 h₃ (λ x s₄ h₄=>Ov (O4 h₄ (λ _ s₅ h₅=>OL (OL ⟨rfl,h₅⟩)) λ _ _ h'=>h'.elim)) λ _ _ h'=>h'.elim))
noncomputable def xH (X:Cx) (ifs:List Expr) (t:TT):Prop:=
 ∀ (pins:List (Addr×Obj)) (s:Shared) (σ:St) (H:Hp) (Q:Bool->Hp->Prop),aL X pins σ H s->t σ H Q->
  wpAny (model X.prog X.w) X.A (forIn ifs true λ c r=>if r=true then do let ok <-isTrue c X.env (eval c X.env);pure (ForInStep.yield ok) else pure (ForInStep.yield r)) (TP X pins σ Q) X.xe s
noncomputable def Ju:TT:=λ _ H Q=>Q true H
theorem Jw {X:Cx}:xH X [] Ju:=λ _ _ _ H _ I h=>wpAny_tests_nil ⟨H,I,h⟩
theorem Ic {X:Cx} {c:Expr} {t:TT} (h:PT X c t):xH X [c] t:=λ pins s σ H Q I q=>wpAny_tests_one (h pins s σ H Q I q)
noncomputable def Ea (σ σ':St):Prop:=σ.length=σ'.length/\∀ (i:Nat) (v:V),σ[i]?=some (some v)->σ'[i]?=some (some v)
theorem Ea.refl (σ:St):Ea σ σ:=⟨rfl,λ _ _ h=>h⟩
theorem Ea.set {σ σ':St} {j:Nat} {v:V} (e:Ea σ σ') (h:σ[j]?=some none):Ea σ (σ'.set j (some v)):=by
 refine ⟨by rw [Pd];exact e.1,λ i u q=>?_⟩;have hne:j≠i:=λ z=>by subst z;rw [h] at q;cases q
 rw [OI hne];exact e.2 i u q
theorem xt {ix:List (Option Nat)} {σ:St} {j:Nat} (h:ix[j]?=some none):(lift ix σ)[j]?=some none:=by
 unfold lift;rw [O2,h];rfl
noncomputable def tH (ix:List (Option Nat)) (g:TG):Prop:=∀ (v:V) (σ:St) (H:Hp) (Q:St->Hp->Prop),g v (lift ix σ) H Q->g v (lift ix σ) H λ σ2 H2=>Q σ2 H2/\Ea (lift ix σ) σ2
theorem Eo {ix:List (Option Nat)} {j:Nat} (h:ix[j]?=some none):tH ix (sM j):=λ v σ H Q q=>⟨q,(Ea.refl _).set (xt h)⟩
noncomputable def w9 (ix:List (Option Nat)) (wi:TI) (g:TG) (tc:TT) (te:TE):TE:=λ σ H Q=>wi σ H λ J H1=>∃ W:Nat->Nat->List V->Hp->Prop,(∃ m,W 0 m [] H1)/\∀ i m ys H,W i m ys H->
 (J.stop i H/\ys.length<=sizeLine/\∀ p,H p=none->Q (.ref p) (d6 H p (.lst ys)))∨
 (J.go i H/\ys.length<sizeLine/\∃ N:List V->Hp->Prop,(∀ ys' H',N ys' H'->∃ m',m'<m/\W (i+1) m' ys' H')/\∀ x H',J.yld i H x H'->g x (lift ix σ) H' λ σ2 H2=>tc σ2 H2 λ b H3=>if b=true then te σ2 H3 λ v H4=>N (ys++[v]) H4 else N ys H3)
theorem yV {X:Cx} {pins pins':List (Addr×Obj)} {σ σ':St} {H2 H':Hp} {s2 s4:Shared} {scope:Scope} {N:List Str} {C D:Addr} {fp:List Addr} {h':Heap} {ys:List V} {its:List Value} {n:Nat}
 (I2:aL X pins σ H2 s2) (I':aL (cD X scope N s2 H2 C (D::fp)) pins' σ' H' s4) (f2:∀ b∈fp,lS X pins H2 b) (hD:D=s2.heap.objs.size) (hC:s2.heap.objs.size<C) (hDC:D≠C)
 (hs:Heap.SameBut C s4.heap h') (eD:s4.heap.get? D=some { cls:=.type "list", data:=.seq its.toArray n }) (fD:H' D=none) (rv:be ys its) (hz:ys.length<=sizeLine):
 aL X pins σ (d6 H' D (.lst ys)) { s4 with heap:=h' }:=by
 have lt:∀ b o,s2.heap.get? b=some o->b≠D/\b≠C:=λ b o e=>
  ⟨by rw [hD];exact OP (OA e),OP (PD (OA e) hC)⟩
 have nex:∀ b o,s2.heap.get? b=some o->b∉fp->b∉D::fp:=λ b o e hb z=>by
  rcases Ow.mp z with z | z
  . exact (lt b o e).1 z
  . exact hb z
 have nD:∀ b u,H' b=some u->b≠D:=λ b u e=>bU e fD;have nC:∀ b u,H' b=some u->b≠C:=λ b u e=>bU e I'.free;have u:=I'.base;refine I2.call' (ch:=fp) (show s4.os=s2.os from I'.os) ⟨λ b o e n hb hx=>?_,λ b o e n hb hx=>?_,λ b o e n hx=>?_,λ b o e hx=>?_,λ b xs e=>?_,λ b o xs e=>?_,λ b ps e=>?_⟩ (λ b o e=>?_) I'.bare λ b hb=>⟨(f2 b hb).2.2.2.1,(f2 b hb).2.1,(f2 b hb).2.2.2.2.1,(f2 b hb).2.2.2.2.2⟩
 . exact (hs.2 b (lt b o e).2).trans (u.keep b o e n hb (nex b o e hx))
 . obtain ⟨sl,q⟩:=u.slot b o e n hb (nex b o e hx);exact ⟨sl,(hs.2 b (lt b o e).2).trans q⟩
 . rw [aP (lt b o e).1];exact u.free b o e n (nex b o e hx)
 . obtain ⟨o',q⟩:=u.there b o e (nex b o e hx);exact ⟨o',(hs.2 b (lt b o e).2).trans q⟩
 . have q:=u.tups b xs e;rw [aP (nD b _ q)];exact q
 . have q:=u.frzs b o xs e;rw [aP (nD b _ q)];exact q
 . obtain ⟨m,q⟩:=u.tbls b ps e;exact ⟨m,by rw [aP (nD b _ q)];exact q⟩
 . by_cases hb:b=D
   . subst hb;rw [aO] at e;cases e;exact ⟨hz,its,n,rv,(hs.2 b hDC).trans eD⟩
   . rw [aP hb] at e;refine (I'.hok b o e).stay (λ c v hc q=>(hs.2 c ?_).trans q) (λ c q=>by rw [aP (nD c _ q)];exact q) λ c xs q=>by rw [aP (nD c _ q)];exact q
     rcases hc with z | z
     . rw [z];exact nC b o e
     . exact nC c _ z
section
variable {X:Cx} {elt tg iter:Expr} {ifs:List Expr} {scope:Scope} {pos:Pos} {wi:TI} {g:TG} {tc:TT} {te:TE} {N:List Str} {ix:List (Option Nat)}
theorem xM {pins:List (Addr×Obj)} {σ:St} {Q:VK} {s2:Shared} {itv:Value} {Rr:Value->Addr->Result->Shared->Prop} (S:cH X scope N ix) (hc:X.calm=true) (hG:tH ix g)
 (hb:∀ (s₀:Shared) (H₀:Hp) (C:Addr) (ex:List Addr),PG (cD X scope N s₀ H₀ C ex) tg g/\xH (cD X scope N s₀ H₀ C ex) ifs tc/\PE (cD X scope N s₀ H₀ C ex) elt te)
 (h2:Nb X pins σ tg (λ J H1=>∃ W:Nat->Nat->List V->Hp->Prop,(∃ m,W 0 m [] H1)/\∀ i m ys H,W i m ys H->
  (J.stop i H/\ys.length<=sizeLine/\∀ p,H p=none->Q (.ref p) (d6 H p (.lst ys)))∨
  (J.go i H/\ys.length<sizeLine/\∃ N:List V->Hp->Prop,(∀ ys' H',N ys' H'->∃ m',m'<m/\W (i+1) m' ys' H')/\∀ x H',J.yld i H x H'->g x (lift ix σ) H' λ σ2 H2=>tc σ2 H2 λ b H3=>if b=true then te σ2 H3 λ v H4=>N (ys++[v]) H4 else N ys H3)) itv s2)
 (hR:∀ (s4:Shared) (H':Hp) (D C:Addr) (m:Str->Option Value) (ys:List V),s4.heap.Ns C m->lS X pins H' C->(∀ h',Heap.SameBut C s4.heap h'->aL X pins σ (d6 H' D (.lst ys)) { s4 with heap:=h' })->aL X pins σ (d6 H' D (.lst ys)) s4->D≠C->Q (.ref D) (d6 H' D (.lst ys))->Rr (.ref D) C (.ok .next) s4):
 wpAny (model X.prog X.w) X.A (newList []) (λ acc s₃=>wpAny (model X.prog X.w) X.A (newFunctionEnv scope X.env.globals (xy scope X.env) [] X.env.qual none .none (some X.env)) (λ cenv s₄=>
  codeAny (model X.prog X.w) X.A (.compStart (.ListComp elt [⟨tg,iter,ifs,0⟩] scope pos) 0 itv acc { cenv with scope:=relabel scope X.env }) (Rr acc cenv.locals) s₄) X.xe s₃) X.xe s2:=by
 obtain ⟨it,fp,tn,J,H2,e,I2,T,st2,f2,W,⟨m0,w0⟩,turn⟩:=h2;subst e;have fo:∀ b∈fp,∃ o,s2.heap.get? b=some o:=λ b hb=>let ⟨o,e,_⟩:=T.obj _ _ st2 b hb;⟨o,e⟩;refine wpAny_newObj_type (wpAny_newFunctionEnv S.nocell (by intro y hy;simp at hy) (λ h₁ hns₁ hsb₁=>?_) S.kind);dsimp only at hns₁ hsb₁ ⊢;generalize hH2:s2.heap.push { cls:=.type "list", dict:=none,data:=.seq ([]:List Value).toArray }=HH at hns₁ hsb₁ ⊢;have hC:HH.objs.size=s2.heap.objs.size+1:=by rw [<-hH2,size_push]
 generalize hCC:HH.objs.size=C at hns₁ hsb₁ hC ⊢;generalize hDD:s2.heap.objs.size=D at hC ⊢;have hlt:s2.heap.objs.size<C:=by rw [hDD,hC];exact O0 _
 have hDC:D≠C:=by rw [hC];exact OP (O0 _)
 have old:∀ b o,s2.heap.get? b=some o->h₁.get? b=some o:=λ b o e=>
  hsb₁.extBut b o (OP (PD (OA e) hlt)) (OE _ (hH2▸OE _ e))
 have hacc:h₁.PlainList D #[]:=⟨_,hsb₁.extBut _ _ hDC (OE _ (hH2▸hDD▸OZ _ rfl))⟩
 have hns₂:h₁.Ns C λ _=>none:=hns₁;have I4:=S.start (tk:=s2.toks+([]:List (Str×Value)).length) I2 f2 fo hDD.symm hlt old hns₂;obtain ⟨hg,hif,hel⟩:=hb s2 H2 C (D::fp);have stat:∀ {H':Hp},(∀ b∈D::fp,H' b=none)->∀ b∈D::fp,lS (cD X scope N s2 H2 C (D::fp)) [] H' b:=λ hn b hb=>
  ⟨hn b hb,(I4.ok.exf b hb).1,I4.ok.exfs b hb,.inl hb,(I4.ok.exf b hb).2,λ p hp=>absurd (show p∈([]:List (Addr×Obj)) from hp) (by simp)⟩
 have sub:∀ b∈fp,b∈D::fp:=λ b hb=>OH _ hb;have nDf:∀ b∈fp,b≠D:=λ b hb z=>by
  obtain ⟨o,e⟩:=fo b hb;exact absurd (OA e) (by rw [z,hDD];exact O5 _)
 have free0:∀ b∈D::fp,H2 b=none:=λ b hb=>by
  rcases Ow.mp hb with z | hb
  . rw [z];exact I2.hok.fresh (le_of_eq hDD)
  . exact (f2 b hb).1
 have loop:∀ s₃:Shared,s₃={ s2 with heap:=h₁,toks:=s2.toks+([]:List (Str×Value)).length }->
  codeAny (model X.prog X.w) X.A (.compLoop (.ListComp elt [⟨tg,iter,ifs,0⟩] scope pos) 0 (.ref it) (.ref D) (compEnvC scope (xy scope X.env) C X.env))
   (Rr (.ref D) C) s₃:=by
  rintro s₃ rfl;refine j9 (λ n s'=>∃ i H' ys its,aL (cD X scope N s2 H2 C (D::fp)) [] (lift ix σ) H' s'/\tn i s'.heap/\(∀ b∈D::fp,H' b=none)/\s'.heap.PlainList D (List.toArray its)/\be ys its/\W i n ys H') ?_ m0
   ⟨0,H2,[],[],I4,T.keep _ _ _ st2 λ b _ o e=>old b o e,free0,hacc,.nil,w0⟩
  rintro n s3 ⟨i,H3,ys,its,I3,st3,fr3,pl3,rv3,w3⟩;obtain ⟨kk,plE⟩:=pl3;have pinD:∀ {pp:List (Addr×Obj)} {σ':St} {H':Hp} {s':Shared},aL (cD X scope N s2 H2 C (D::fp)) pp σ' H' s'->H' D=none->s'.heap.get? D=some { cls:=.type "list", data:=.seq its.toArray kk }->
   aL (cD X scope N s2 H2 C (D::fp)) [(D,{ cls:=.type "list", data:=.seq its.toArray kk })] σ' H' s':=λ {pp σ' H' s'} J f e=>J.pins_of λ p hp=>by
   have z:p=(D,{ cls:=.type "list", data:=.seq its.toArray kk }):=by simpa using hp
   subst z;exact ⟨e,f,(J.ok.exf D OK).1,J.ok.exfs D OK,λ v z=>by cases z⟩
  have fpD:∀ {H':Hp},(∀ b∈D::fp,H' b=none)->∀ b∈fp,lS (cD X scope N s2 H2 C (D::fp)) [(D,{ cls:=.type "list", data:=.seq its.toArray kk })] H' b:=λ hn b hb=>by
   obtain ⟨a1,a2,a3,a4,a5,a6⟩:=stat hn b (sub b hb);refine ⟨a1,a2,a3,a4,a5,λ p hp=>?_⟩;have z:p=(D,{ cls:=.type "list", data:=.seq its.toArray kk }):=by simpa [cD] using hp
   subst z;exact (nDf b hb).symm
  have frD:H3 D=none:=fr3 D OK;rcases turn i n ys H3 w3 with ⟨stop,hz,qn⟩ | ⟨go,hz,NN,hN,step⟩
  . refine cy (T.done (cD X scope N s2 H2 C (D::fp)) rfl rfl rfl hc i _ s3 _ H3 (λ _ _=>False) (pinD I3 frD plE) (fpD fr3) st3 stop) λ r s4 ⟨hr,I4'⟩=>?_;subst hr;obtain ⟨m,hm,_⟩:=I4'.loc;have eD:=(I4'.pin (D,_) (OM _ OK)).1;have fin:∀ h',Heap.SameBut C s4.heap h'->aL X pins σ (d6 H3 D (.lst ys)) { s4 with heap:=h' }:=λ h' hs'=>yV I2 I4' f2 hDD.symm hlt hDC hs' eD frD rv3 hz;have hC0:s2.heap.objs.size<=C:=Ps hlt;have fC:lS X pins H3 C:=by
     have q:=I2.fpOk (H':=H3) hC0 I4'.free;exact q
    exact hR s4 H3 D C m ys hm fC fin (by simpa using fin s4.heap (Heap.SameBut.refl ..)) hDC (qn D frD)
  . refine cy (T.item (cD X scope N s2 H2 C (D::fp)) rfl rfl rfl hc i _ s3 _ H3 (λ _ _=>False) (pinD I3 frD plE) (fpD fr3) st3 go) λ r s4 ⟨u,hr,h4⟩=>?_;subst hr;refine cy h4 λ _ s5 hq0=>?_;obtain ⟨x,H5,I5,r5,y5,st5,fr5⟩:=hq0;have eD5:=(I5.pin (D,_) (OM _ OK))
    have fr5':∀ b∈D::fp,H5 b=none:=λ b hb=>by
     rcases Ow.mp hb with z | hb
     . rw [z];exact eD5.2.1
     . exact fr5 b hb
    have I5':aL (cD X scope N s2 H2 C (D::fp)) ([]++mm (D::fp) s5.heap) (lift ix σ) H5 s5:=(I5.unpinned (pins:=[]) (pl:=[_])).pinned (stat fr5') λ b hb=>by
     rcases Ow.mp hb with z | hb
     . rw [z];exact ⟨_,eD5.1,λ v z=>by cases z⟩
     . exact T.obj _ _ st5 b hb
    have back:∀ {σ7:St} {H7:Hp} {s7:Shared},aL (cD X scope N s2 H2 C (D::fp)) ([]++mm (D::fp) s5.heap) σ7 H7 s7->Ea (lift ix σ) σ7->
     aL (cD X scope N s2 H2 C (D::fp)) [] (lift ix σ) H7 s7/\tn (i+1) s7.heap/\(∀ b∈D::fp,H7 b=none)/\s7.heap.get? D=some { cls:=.type "list", data:=.seq its.toArray kk }:=λ {σ7 H7 s7} I7 ex=>by
     have keepAt:∀ b∈D::fp,∀ o,s5.heap.get? b=some o->s7.heap.get? b=some o/\H7 b=none:=λ b hb o e=>
      ⟨(I7.pin (b,o) (OM _ (OM _ (iO hb e)))).1,(I7.pin (b,o) (OM _ (OM _ (iO hb e)))).2.1⟩
     refine ⟨I7.unpinned.weak ex.1 ex.2,T.keep _ _ _ st5 λ b hb o e=>(keepAt b (sub b hb) o e).1,λ b hb=>?_,(keepAt D OK _ eD5.1).1⟩;rcases Ow.mp hb with z | hb'
     . rw [z];exact (keepAt D OK _ eD5.1).2
     . obtain ⟨o,e,_⟩:=T.obj _ _ st5 b hb';exact (keepAt b hb o e).2
    refine cy (hg _ s5 _ H5 x u _ I5' r5 (hG _ _ _ _ (step x H5 y5))) λ _ s6 hq0=>?_;obtain ⟨σ6,H6,I6,q6,ex6⟩:=hq0;refine cy (hif _ s6 σ6 H6 _ I6 q6) λ ok s7 hq0=>?_;obtain ⟨H7,I7,q7⟩:=hq0;cases ok with
    | false=>
     rw [Oq Oy] at q7 ⊢;obtain ⟨m',hm,w7⟩:=hN _ _ q7;obtain ⟨J1,J2,J3,J4⟩:=back I7 ex6;exact ⟨m',hm,i+1,H7,ys,its,J1,J2,J3,⟨_,J4⟩,rv3,w7⟩
    | true=>
     rw [Oo rfl] at q7 ⊢;refine cy (hel _ s7 σ6 H7 _ I7 q7) λ uv s8 hq0=>?_;obtain ⟨y,H8,I8,r8,q8⟩:=hq0;obtain ⟨m',hm,w8⟩:=hN _ _ q8;obtain ⟨J1,J2,J3,J4⟩:=back I8 ex6;refine wpAny_list_append_plain (hsz:=by rw [OB,<-rv3.length];exact Ps hz) ⟨_,J4⟩ λ h₉ hl₉ hs₉=>?_;obtain ⟨a1,a2,a3,a4,a5,a6⟩:=stat J3 D OK;refine ⟨m',hm,i+1,H8,ys++[y],its++[uv],J1.turned (t':=s8.toks) (λ b o hb e=>hs₉.extBut b o hb e) a1 a2 a4 a5 a6,T.keep _ _ _ J2 λ b hb o e=>hs₉.extBut b o (nDf b hb) e,J3,by simpa using hl₉,rv3.append (.cons r8 .nil),w8⟩
 exact codeAny_compStart_list (loop _ rfl) (T.self _ 0 _ _ _ (T.keep _ _ _ st2 λ b _ o e=>old b o e) (loop _ rfl))
theorem BU (S:cH X scope N ix) (hc:X.calm=true) (hi:PI X tg iter wi) (hG:tH ix g)
 (hb:∀ (s₀:Shared) (H₀:Hp) (C:Addr) (ex:List Addr),PG (cD X scope N s₀ H₀ C ex) tg g/\xH (cD X scope N s₀ H₀ C ex) ifs tc/\PE (cD X scope N s₀ H₀ C ex) elt te)
 (hs:∀ x,foldedSetIterable iter X.env x=pure x:=by intro _;rfl):PE X (.ListComp elt [⟨tg,iter,ifs,0⟩] scope pos) (w9 ix wi g tc te):=by
 intro pins s σ H Q I h;rw [eval_ListComp];refine wpAny_comprehension_free (use:=none) rfl hs (u0 (S.cells I)) S.kind S.locs ?_;refine cy (hi pins s σ H _ I h) λ v s1 h1=>cy h1 λ itv s2 h2=>?_;refine xM (Rr:=λ acc C=>compPost (model X.prog X.w) X.A X.xe none (EP X pins σ Q) acc C) S hc hG hb h2 ?_;intro s4 H' D C m ys hm _ fin _ _ q;exact ⟨m,hm,λ h' hs'=>⟨.ref D,_,fin h' hs',rfl,q⟩⟩
end
noncomputable def GW (T:String):Option Bool:=if T = "int" then some true else if T = "bool" then some false else if T = "str" then some false else if T = "list" then some false else if T = "tuple" then some false else if T = "dict" then some false else none
noncomputable def GC (T:String):Option Bool:=if T = "int" then some true else if T = "bool" then some true else if T = "str" then some false else if T = "list" then some false else if T = "tuple" then some false else if T = "dict" then some false else none
noncomputable def Eg (T:String):Option Bool:=if T = "int" then some false else if T = "bool" then some false else if T = "str" then some true else if T = "list" then some false else if T = "tuple" then some false else if T = "dict" then some false else none
noncomputable def Az (v:V) (T:String):Option Bool:=match v with
 | .int _=>GW T
 | .bl _=>GC T
 | .str _=>Eg T
 | _=>none
theorem A0 {X:Cx}:ff X (.builtin "isinstance") (λ xs H Q=>∃ v T k,xs=[v,.ty T]/\Az v T=some k/\Q (.bl k) H):=by
 intro pins s σ H xs us Q I r h;obtain ⟨v,T,k,rfl,hk,q⟩:=h;cases r with
 | cons r rr=>
  cases rr with
  | cons r' rr=>
   cases rr;cases r';have fin:∀ {n:Option Bool} {T':String} {b:Bool},(if T=T' then some b else n)=some k->(T=T'/\b=k)∨n=some k:=λ {n T' b} h=>by
    by_cases e:T=T'
    . rw [Oo e] at h;cases h;exact .inl ⟨e,rfl⟩
    . rw [Oq e] at h;exact .inr h
   cases v with
   | int i=>
    obtain ⟨t,rfl⟩:=r;replace hk:GW T=some k:=hk;unfold GW at hk;rcases fin hk with ⟨rfl,rfl⟩ | hk
    . exact IsiPair.int_int ⟨.bl _,H,I,rfl,q⟩
    rcases fin hk with ⟨rfl,rfl⟩ | hk
    . exact IsiPair.int_bool ⟨.bl _,H,I.tok _,rfl,q⟩
    rcases fin hk with ⟨rfl,rfl⟩ | hk
    . exact IsiPair.int_str ⟨.bl _,H,I.tok _,rfl,q⟩
    rcases fin hk with ⟨rfl,rfl⟩ | hk
    . exact IsiPair.int_list ⟨.bl _,H,I.tok _,rfl,q⟩
    rcases fin hk with ⟨rfl,rfl⟩ | hk
    . exact IsiPair.int_tuple ⟨.bl _,H,I.tok _,rfl,q⟩
    rcases fin hk with ⟨rfl,rfl⟩ | hk
    . exact IsiPair.int_dict ⟨.bl _,H,I.tok _,rfl,q⟩
    cases hk
   | bl i=>
    cases r;replace hk:GC T=some k:=hk;unfold GC at hk;rcases fin hk with ⟨rfl,rfl⟩ | hk
    . first | exact IsiPair.bool_int ⟨.bl _,H,I,rfl,q⟩ | exact IsiPair.bool_int ⟨.bl _,H,I.tok _,rfl,q⟩
    rcases fin hk with ⟨rfl,rfl⟩ | hk
    . first | exact IsiPair.bool_bool ⟨.bl _,H,I,rfl,q⟩ | exact IsiPair.bool_bool ⟨.bl _,H,I.tok _,rfl,q⟩
    rcases fin hk with ⟨rfl,rfl⟩ | hk
    . first | exact IsiPair.bool_str ⟨.bl _,H,I,rfl,q⟩ | exact IsiPair.bool_str ⟨.bl _,H,I.tok _,rfl,q⟩
    rcases fin hk with ⟨rfl,rfl⟩ | hk
    . first | exact IsiPair.bool_list ⟨.bl _,H,I,rfl,q⟩ | exact IsiPair.bool_list ⟨.bl _,H,I.tok _,rfl,q⟩
    rcases fin hk with ⟨rfl,rfl⟩ | hk
    . first | exact IsiPair.bool_tuple ⟨.bl _,H,I,rfl,q⟩ | exact IsiPair.bool_tuple ⟨.bl _,H,I.tok _,rfl,q⟩
    rcases fin hk with ⟨rfl,rfl⟩ | hk
    . first | exact IsiPair.bool_dict ⟨.bl _,H,I,rfl,q⟩ | exact IsiPair.bool_dict ⟨.bl _,H,I.tok _,rfl,q⟩
    cases hk
   | str i=>
    obtain ⟨t,rfl⟩:=r;replace hk:Eg T=some k:=hk;unfold Eg at hk;rcases fin hk with ⟨rfl,rfl⟩ | hk
    . first | exact IsiPair.str_int ⟨.bl _,H,I,rfl,q⟩ | exact IsiPair.str_int ⟨.bl _,H,I.tok _,rfl,q⟩
    rcases fin hk with ⟨rfl,rfl⟩ | hk
    . first | exact IsiPair.str_bool ⟨.bl _,H,I,rfl,q⟩ | exact IsiPair.str_bool ⟨.bl _,H,I.tok _,rfl,q⟩
    rcases fin hk with ⟨rfl,rfl⟩ | hk
    . first | exact IsiPair.str_str ⟨.bl _,H,I,rfl,q⟩ | exact IsiPair.str_str ⟨.bl _,H,I.tok _,rfl,q⟩
    rcases fin hk with ⟨rfl,rfl⟩ | hk
    . first | exact IsiPair.str_list ⟨.bl _,H,I,rfl,q⟩ | exact IsiPair.str_list ⟨.bl _,H,I.tok _,rfl,q⟩
    rcases fin hk with ⟨rfl,rfl⟩ | hk
    . first | exact IsiPair.str_tuple ⟨.bl _,H,I,rfl,q⟩ | exact IsiPair.str_tuple ⟨.bl _,H,I.tok _,rfl,q⟩
    rcases fin hk with ⟨rfl,rfl⟩ | hk
    . first | exact IsiPair.str_dict ⟨.bl _,H,I,rfl,q⟩ | exact IsiPair.str_dict ⟨.bl _,H,I.tok _,rfl,q⟩
    cases hk
   | _=>cases hk
section
variable {X:Cx}
noncomputable def D0 (i j:Int):Prop:=j≠0/\j.natAbs<2^512
theorem JE:iw X (binaryOp .FloorDiv) (rI D0 λ i j=>.int (i.fdiv j)):=Kv λ i j _ _ _ _ _ hc q=>floordiv_int hc.1 q (.inl (PyProof.noPylong_of_log2 (by
 by_cases h0:j.natAbs=0
 . rw [h0];decide +kernel
 . have:=(Nat.log2_lt h0).mpr hc.2;omega)))
theorem K0:iw X (binaryOp .Mod) (rI (λ _ j=>j≠0) λ i j=>.int (i.fmod j)):=Cd
theorem boot_bool':bootBuiltins "bool" = some (.type "bool"):=by decide +kernel
theorem vv {scope:Scope} {N:List Str} {ix:List (Option Nat)} (kind:scope.kind=.function) (nocell:(scope.names.all λ y=>y.2 != .cell)=true) (locs:(scope.names.all λ y=>y.2 != .local||scope.names.lookup y.1==some .local)=true)
 (free:(scope.names.all λ y=>y.2 != .free||X.env.kindOf y.1==some .cell||X.env.kindOf y.1==some .free)=true) (len:ix.length=N.length) (nd:N.Nodup)
 (fr:((ix.zip N).all λ p=>match p.1 with
  | none=>true
  | some i=>X.N[i]?==some p.2&&(X.env.kindOf p.2==some .cell||X.env.kindOf p.2==some .free)&&((relabel scope X.env).names.lookup p.2==some .cell||(relabel scope X.env).names.lookup p.2==some .free))=true):cH X scope N ix:=by
 refine ⟨kind,λ y hy=>?_,λ y hy hl=>?_,λ y hy hf=>?_,len,nd,λ j i e=>?_⟩
 . have:=all_eq_true.mp nocell y hy;simpa using this
 . have:=all_eq_true.mp locs y hy;rw [hl] at this;simpa using this
 . have:=all_eq_true.mp free y hy;rw [hf] at this;simpa using this
 . have hj:j<ix.length:=(oG e).1;have hj':j<N.length:=by omega
   have hm:(ix.zip N)[j]?=some (some i,N[j]):=by
    rw [List.getElem?_zip_eq_some];exact ⟨e,by simp [hj']⟩
   have:=all_eq_true.mp fr _ (O8 hm);simp only [OD,or_eq_true,PQ] at this;exact ⟨N[j],by simp [hj'],this.1.1,this.1.2,this.2⟩
end
section
variable {K:Frag} {a b:Addr} {xs ys:List V} {wi:TI} {g:TG} {tb:TS} {D:iZ} {σ:St} {H H1:Hp} {ix:List (Option Nat)} {tc:TT} {te:TE} {Q:VK}
end
theorem aL.turnedTup {X:Cx} {pins:List (Addr×Obj)} {σ:St} {H:Hp} {s:Shared} {h':Heap} {t':Nat} {ch:List Addr} {T:Addr} {xs:List V} {its:List Value} (I:aL X pins σ H s) (hf:∀ b∈ch,lS X pins H b)
 (k:∀ b o,b∉ch->s.heap.get? b=some o->h'.get? b=some o) (hT:s.heap.objs.size<=T) (eT:IsTup h' T its.toArray) (r:be xs its) (hz:xs.length<=sizeLine):aL X pins σ (d6 H T (.tup xs)) { s with heap:=h',toks:=t' }:=by
 have hTn:H T=none:=I.hok.fresh hT;have big:∀ {c:Addr} {o:Obj},s.heap.get? c=some o->c≠T:=λ e=>OP (OC (OA e) hT);have F4:∀ c t,H c=some t->c∉ch:=λ c t e hc=>by rw [(hf c hc).1] at e;cases e
 refine I.step (g':=s.gens) (d':=s.drawn) (ch:=ch) (λ c hc=>⟨(hf c hc).2.2.2.1,(hf c hc).2.1,(hf c hc).2.2.2.2.1,(hf c hc).2.2.2.2.2⟩) (λ c o _ _ hc e _=>k c o hc e) (λ c o _ _ hc e _=>⟨o.slots,k c o hc e⟩) (λ c o hc e n=>?_) (λ c o hc e=>⟨o,k c o hc e⟩) (λ c t e=>?_) (λ c o t e=>?_) (λ c ps e=>?_) (λ m hm=>?_) (λ c t e=>?_) I.bare
 . rw [aP (big e)];exact n
 . rw [aP (bU e hTn)];exact e
 . rw [aP (bU e hTn)];exact e
 . exact ⟨#[],by rw [aP (bU e hTn),e];simp⟩
 . obtain ⟨o,es,ep,ho,r⟩:=hm;exact ⟨o,es,ep,k _ o (λ hc=>(hf _ hc).2.1 rfl) ho,r⟩
 . by_cases hcT:c=T
   . subst hcT;rw [aO] at e;cases e;exact ⟨hz,its,r,eT⟩
   . rw [aP hcT] at e;refine (I.hok c t e).stay (λ d o hd q=>k d o ?_ q) (λ d q=>by rw [aP (bU q hTn)];exact q) λ d zs q=>by rw [aP (bU q hTn)];exact q
     rcases hd with hd | hd
     . rw [hd];exact F4 c t e
     . exact F4 d _ hd
noncomputable def Lz (K:Frag) (a:Addr):It:=
 ⟨λ i H=>∃ xs x,eS K H a xs/\xs[i]?=some x,
  λ i H v H'=>∃ p x,H p=none/\v=.ref p/\H'=d6 H p (.tup [.int i,x])/\∀ xs,eS K H a xs->xs[i]?=some x,
  λ i H=>∃ xs,eS K H a xs/\xs.length<=i⟩
theorem xu {P:Program} {w:World} {K:Frag} {elts:List Expr} {x1} {pos:Pos} (a e it:Addr) (hei:e≠it):
 BA P w K (.Tuple elts x1 pos) (Lz K a) [e,it] e (λ i h=>(∃ old,IsEnum h e it i old)/\h.IsListIter it a i) where
 mem:=by simp
 obj:=λ i h st c hc=>by
  obtain ⟨⟨old,e1⟩,⟨o4,e4,_,d4⟩⟩:=st;simp only [Ow,Ox,PN] at hc;rcases hc with rfl | rfl
  . exact ⟨_,e1,λ v z=>by cases z⟩
  . exact ⟨o4,e4,λ v z=>by rw [d4] at z;cases z⟩
 keep:=λ i h h' st k=>by
  obtain ⟨⟨old,e1⟩,e4⟩:=st;exact ⟨⟨old,k e (by simp) _ e1⟩,e4.at λ o q=>k it (by simp) o q⟩
 item:=by
  intro X hP hw hK hc i pins s σ H E I hf st hg;subst hP hw hK;obtain ⟨xs,x,qx,hx⟩:=hg;obtain ⟨its,rvx,px,_⟩:=I.list qx;obtain ⟨u,hu,ru⟩:=rvx.get hx;obtain ⟨⟨old,e1⟩,e4⟩:=st;have big:∀ {c:Addr} {o:Obj},s.heap.get? c=some o->c≠s.heap.objs.size:=λ e=>OP (OA e);refine wpAny_pyNext_enum_item e1 e4 px.isList (x:=u) (by simpa using hu) hei λ h' a1 a2 a3 a4 a5=>?_;refine ⟨_,rfl,wpAny_letOwnedTupleGo_enum (s:={ s with heap:=h',toks:=s.toks+1 }) a1 λ h'' b1 b2=>?_⟩;have k2:∀ c o,c∉[e,it]->s.heap.get? c=some o->h''.get? c=some o:=λ c o hc q=>by
   simp only [Ow,Ox,PN,not_or] at hc;exact (b2.2 c hc.1).trans (a5 c o hc.1 hc.2 q)
  have eT:IsTup h'' s.heap.objs.size (List.toArray [.int i s.toks,u]):=⟨_,(b2.2 _ (big e1).symm).trans a3,rfl,_,rfl⟩
  have I1:=I.turnedTup (t':=s.toks+1) (xs:=[.int i,x]) hf k2 (Ol _) eT (.cons ⟨_,rfl⟩ (.cons ru .nil)) (by show 2<=sizeLine;decide);refine ⟨.ref s.heap.objs.size,_,I1,rfl,⟨s.heap.objs.size,x,I.hok.fresh (Ol _),rfl,rfl,λ zs hz=>by rw [I.list_inj hz qx];exact hx⟩,⟨⟨u,by simpa using b1⟩,a2.at λ o q=>(b2.2 _ hei.symm).trans q⟩,λ c hc=>?_⟩;have hcn:c≠s.heap.objs.size:=by
   obtain ⟨o4,g4,_⟩:=id e4;simp only [Ow,Ox,PN] at hc;rcases hc with rfl | rfl
   . exact big e1
   . exact big g4
  rw [aP hcn];exact (hf c hc).1
 done:=by
  intro X hP hw hK hc i pins s σ H E I hf st hg;subst hP hw hK;obtain ⟨xs,qx,hl⟩:=hg;obtain ⟨its,rvx,px,_⟩:=I.list qx;obtain ⟨⟨old,e1⟩,e4⟩:=st;have lx:=rvx.length;obtain ⟨f0,f1,f2,f3,f4,f5⟩:=hf it (by simp);exact wpAny_pyNext_enum_end (I.ok.hd hc) e1 e4 px.isList (by simp;omega) λ h' k=>⟨rfl,I.turned (t':=s.toks) (λ b o hb q=>k b o hb q) f0 f1 f3 f4 f5⟩
 self:=λ _ _ _ _ _ st h=>by
  obtain ⟨⟨old,e1⟩,_⟩:=st;exact wpAny_pyIter_enum e1 h
noncomputable def xR (K:Frag) (ta:TA):TI:=λ σ H R=>ta σ H λ vs H1=>∃ a,vs=[.ref a]/\(∃ xs,eS K H1 a xs)/\R (Lz K a) H1
theorem B4 {X:Cx} {elts:List Expr} {x1} {tpos:Pos} {a:Expr} {ta:TA} {p pos:Pos} (hg:Gl X "enumerate") (hm:X.mg "enumerate" = none) (ha:PA X [a] ta) (hs:starEach [a] X.env=[(false,eval a X.env)]:=by rfl):
 PI X (.Tuple elts x1 tpos) (.Call (.Name "enumerate" p) [a] [] pos) (xR X.K ta):=by
 intro pins s σ H R I h;refine Call_ (rE I hg hm boot_enumerate (PyProof.Rows.callWith_type1 (cy (ha pos pins s σ H _ I h) λ us s1 hq0=>?_) hs rfl));obtain ⟨vs,H1,I1,r1,q1⟩:=hq0;obtain ⟨a,e,⟨xs,qx⟩,q⟩:=q1;subst e;cases r1 with
 | cons r rr=>
  cases rr;cases r;obtain ⟨its,rvx,px,_⟩:=I1.list qx;refine call_enumerate_list px.isList λ h' g5 g1 z5 k=>?_;refine wpAny_pyIter_enum (s:={ s1 with heap:=h' }) g5 ?_;refine ⟨s1.heap.objs.size+1,[s1.heap.objs.size+1,s1.heap.objs.size],_,_,H1,rfl,I1.kept (t':=s1.toks) k,xu a _ _ (Nat.ne_of_gt (O0 _)),⟨⟨_,g5⟩,g1⟩,λ c hc=>?_,q⟩;have hc':s1.heap.objs.size<=c:=by
   simp only [Ow,Ox,PN] at hc;rcases hc with h | h <;> subst h <;> first
    | exact Ol _
    | exact Nat.le_add_right _ _
  exact I1.fpOk hc' (I1.hok.fresh hc')
mutual
inductive Dp (K:Frag) (H:Hp):V->PyData->Prop
 | non:Dp K H .non .none
 | bl (b:Bool):Dp K H (.bl b) (.bool b)
 | int (i:Int):Dp K H (.int i) (.int i)
 | str (x:Str):Dp K H (.str x) (.str x)
 | lst {a:Addr} {xs:List V} {ds:List PyData}:eS K H a xs->mL K H xs ds->Dp K H (.ref a) (.list ds)
 | tup {a:Addr} {xs:List V} {ds:List PyData}:gU K H a xs->mL K H xs ds->Dp K H (.ref a) (.tuple ds)
inductive mL (K:Frag) (H:Hp):List V->List PyData->Prop
 | nil:mL K H [] []
 | cons {v:V} {vs:List V} {d:PyData} {ds:List PyData}:Dp K H v d->mL K H vs ds->mL K H (v::vs) (d::ds)
end
theorem Dp.reads {X:Cx} {pins:List (Addr×Obj)} {σ:St} {H:Hp} {s:Shared} (I:aL X pins σ H s) {v:V} {d:PyData} {u:Value} (h:Dp X.K H v d):bq v u->∃ as,Reads s.heap u d as:=
 Dp.rec (motive_1:=λ v d _=>∀ u,bq v u->∃ as,Reads s.heap u d as) (motive_2:=λ vs ds _=>∀ us,be vs us->∃ as,ReadsAll s.heap us ds as)
  (λ u r=>by cases r;exact ⟨_,.none⟩) (λ b u r=>by cases r;exact ⟨_,.bool b⟩) (λ i u r=>by obtain ⟨t,rfl⟩:=r;exact ⟨_,.int i t⟩) (λ x u r=>by obtain ⟨t,rfl⟩:=r;exact ⟨_,.str x t⟩)
  (λ q _ ih u r=>by
   cases r;obtain ⟨its,rv,⟨o,n,e,c,_,d⟩,_⟩:=I.list q;obtain ⟨as,ra⟩:=ih _ rv;exact ⟨_,.list e c d (by simpa using ra)⟩)
  (λ q _ ih u r=>by
   cases r;obtain ⟨its,rv,⟨o,e,c,n,d⟩,_⟩:=I.tuple q;obtain ⟨as,ra⟩:=ih _ rv;exact ⟨_,.tuple e c d (by simpa using ra)⟩)
  (λ us r=>by cases r;exact ⟨_,.nil⟩)
  (λ _ _ ih1 ih2 us r=>by
   cases r with
   | cons r rr=>
    obtain ⟨as,ra⟩:=ih1 _ r;obtain ⟨bs,rb⟩:=ih2 _ rr;exact ⟨_,.cons ra rb⟩) h u
noncomputable def Br (K:Frag) (neg:Bool):R2:=λ x y H Q=>∃ d e,Dp K H x d/\Dp K H y e/\d.canLay0=true/\e.canLay0=true/\d.depth<=64/\Q (.bl (if neg then !(PyData.eqv d e) else PyData.eqv d e)) H
theorem EC {X:Cx} (hu:X.A.units+64<cLine):iw X (compareOp .Eq) (Br X.K false):=by
 intro pins s σ H x y v u Q I rx ry h;obtain ⟨d,e,hx,hy,cd,ce,dd,q⟩:=h;obtain ⟨as,ra⟩:=hx.reads I rx;obtain ⟨bs,rb⟩:=hy.reads I ry;exact SeqAt.compareEq_reads ra rb cd ce (by omega) ⟨.bl _,H,I,rfl,by simpa using q⟩
theorem GG {X:Cx} (hu:X.A.units+64<cLine):iw X (compareOp .NotEq) (Br X.K true):=by
 intro pins s σ H x y v u Q I rx ry h;obtain ⟨d,e,hx,hy,cd,ce,dd,q⟩:=h;obtain ⟨as,ra⟩:=hx.reads I rx;obtain ⟨bs,rb⟩:=hy.reads I ry;exact SeqAt.compareNe_reads ra rb cd ce (by omega) ⟨.bl _,H,I,rfl,by simpa using q⟩
theorem dF.there {P:Program} {w:World} {H:Hp} {h:Heap} {a:Addr} {o:HO} (x:dF P w H h a o):∃ ob,h.get? a=some ob:=by
 cases o with
 | lst xs=>obtain ⟨_,_,_,_,e⟩:=x;exact ⟨_,e⟩
 | tup xs=>obtain ⟨_,_,_,ob,e,_⟩:=x;exact ⟨_,e⟩
 | dK kvs=>obtain ⟨_,_,_,_,o,_,_,e,_⟩:=x;exact ⟨_,e⟩
 | dT kvs=>obtain ⟨_,_,_,_,o,_,_,e,_⟩:=x;exact ⟨_,e⟩
 | dN kvs=>obtain ⟨_,_,_,_,o,_,_,e,_⟩:=x;exact ⟨_,e⟩
 | set S n=>obtain ⟨o,_,_,_,e,_⟩:=x;exact ⟨_,e⟩
 | ins C dx fs=>obtain ⟨_,_,_,e,_⟩:=x;exact ⟨_,e⟩
 | own y=>exact x
 | xd fs=>obtain ⟨_,⟨_,_,_,e,_⟩,_⟩:=x;exact ⟨_,e⟩
 | rng lo hi=>obtain ⟨_,_,_,e⟩:=x;exact ⟨_,e⟩
 | frz ob u=>obtain ⟨e,_⟩:=x;exact ⟨_,e⟩
 | tbl ps=>exact ⟨_,(show h.get? a=some _ from x)⟩
 | met f y=>exact ⟨_,(show h.get? a=some _ from x)⟩
 | ext φ=>obtain ⟨_,e,_⟩:=x;exact e
theorem iS.none_of {P:Program} {w:World} {H:Hp} {h:Heap} {a:Addr} (x:iS P w H h) (e:h.get? a=none):H a=none:=by
 cases q:H a with
 | none=>rfl
 | some o=>
  obtain ⟨ob,z⟩:=(x a o q).there;rw [e] at z;cases z
theorem iS.hide {P:Program} {w:World} {H:Hp} {h:Heap} {as:List Addr} (x:iS P w H h) (n:∀ b∈as,H b=none):iS P w H (PySem.W.hideAll h as):=λ a o e=>
 (x a o e).stay (λ b u hb q=>PySem.W.hideAll_get _ q λ hm=>by
  have z:=n b hm;rcases hb with hb | hb
  . rw [hb,e] at z;cases z
  . rw [hb] at z;cases z) (λ _ q=>q) λ _ _ q=>q
noncomputable def rX (P:Program) (w:World):qE:=λ outer H s E e s'=>
 ∃ (ea:Addr) (cls a0:Value) (H':Hp) (B:Heap),e=.ref ea/\s'.os=s.os/\AllBare s'.gens/\Heap.FlyingW B outer ea cls a0 s'.heap/\iS P w H' B/\Un (jy outer) [] H H' s.heap s'.heap/\
  (∀ b o,s.heap.get? b=some o->H b=none->b∉jy outer->B.get? b=some o)/\(∀ b o,s.heap.get? b=some o->b∉jy outer->∃ o',B.get? b=some o')/\H' ea=none/\E cls none H'
noncomputable def uN (X:Cx) (E:XK):Prop:=∀ (pins:List (Addr×Obj)) (σ:St) (H:Hp) (s:Shared) (h':Heap) (e:Addr) (cls:Value) (vs:List Value),aL X pins σ H s->Heap.MadeExcOf s.heap h' e cls vs->E cls none H->X.xe (.ref e) { s with heap:=h' }
section
variable {P:Program} {w:World} {K:Frag} {mg:Str->Option Value} {base:Heap} {N:List Str} {qual:Str} {scope:Scope} {f:Addr} {cd:Value} {A:Around} {outer:List Env} {s:Shared} {H:Hp} {E:XK}
theorem rq {l:List Env} {env:Env} {b:Addr} (he:env∈l) (hb:env.frame=some b):b∈jy l:=Pm.mpr ⟨env,he,hb⟩
theorem Hn:uN (gO (rX P w) P w K mg base N qual scope f cd A outer s H E) E:=by
 intro pins σ H1 s1 h' e cls vs I hx hE;have stk:(gO (rX P w) P w K mg base N qual scope f cd A outer s H E).stack=(gO (rX P w) P w K mg base N qual scope f cd A outer s H E).env::outer:=rfl;have FF:=I.stack;have fr:=I.stkFree;have keepFr:∀ b o,s.heap.get? b=some o->b∉jy outer->b∉jy (gO (rX P w) P w K mg base N qual scope f cd A outer s H E).stack:=λ b o q hb hm=>by
  rcases Ow.mp (I.stkSub b hm) with z | z
  . have l1:=OA q;have l2:b=s.heap.objs.size:=z;rw [l2] at l1;exact absurd l1 (O5 _)
  . exact hb z
 refine wpAny_leaves_madeW (base:=PySem.W.hideAll s1.heap (jy (gO (rX P w) P w K mg base N qual scope f cd A outer s H E).stack)) I.ok.frames rfl (λ b o q=>PySem.W.of_hideAll _ q) (PySem.W.funFrames_hide FF λ env he a ha=>rq he ha) hx λ h'' t x1 x2 x3 x4=>?_;have keep:∀ b o,s1.heap.get? b=some o->b∉jy (gO (rX P w) P w K mg base N qual scope f cd A outer s H E).stack->(PySem.W.hideAll s1.heap (jy (gO (rX P w) P w K mg base N qual scope f cd A outer s H E).stack)).get? b=some o:=λ b o q hb=>PySem.W.hideAll_get _ q hb;have slot:∀ b∈jy outer,∀ o,s.heap.get? b=some o->∃ sl,h''.get? b=some { o with slots:=sl }:=λ b hb o q=>by
  obtain ⟨sl,e1⟩:=I.base.slot b o q (I.ok.frf b hb) hb (show b∉([]:List Addr) by simp);obtain ⟨_,o2,e2,nf⟩:=FF.mem (show b∈jy (gO (rX P w) P w K mg base N qual scope f cd A outer s H E).stack from by
   obtain ⟨env,he,hf⟩:=Pm.mp hb;exact rq (OH _ he) hf)
  rw [e1] at e2;cases e2;obtain ⟨sl',e3⟩:=x4 b _ (hx.keeps _ _ e1) nf;exact ⟨sl',e3⟩
 refine ⟨e,cls,.ref t,H1,_,rfl,I.os,I.bare,x1,I.hok.hide fr,⟨λ b o q n hb _=>?_,λ b o q n hb _=>slot b hb o q,λ b o q n _=>I.base.free b o q n (show b∉([]:List Addr) by simp),λ b o q _=>?_,I.base.tups,I.base.frzs,I.base.tbls⟩,λ b o q n hb=>?_,λ b o q hb=>?_,I.hok.none_of hx.new,hE⟩
 . exact x1.1 _ _ (keep b o (I.base.keep b o q n hb (show b∉([]:List Addr) by simp)) (keepFr b o q hb))
 . by_cases hb:b∈jy outer
   . obtain ⟨sl,e1⟩:=slot b hb o q;exact ⟨_,e1⟩
   . obtain ⟨o',e1⟩:=I.base.there b o q (show b∉([]:List Addr) by simp);exact ⟨o',x1.1 _ _ (keep b o' e1 (keepFr b o q hb))⟩
 . exact keep b o (I.base.keep b o q n hb (show b∉([]:List Addr) by simp)) (keepFr b o q hb)
 . obtain ⟨o',e1⟩:=I.base.there b o q (show b∉([]:List Addr) by simp);exact ⟨o',keep b o' e1 (keepFr b o q hb)⟩
theorem MP:iz (rX P w) (gO (rX P w) P w K mg base N qual scope f cd A outer s H E) E:=by
 intro pins σ H1 s1 e s2 I hq;obtain ⟨ea,cls,a0,H2,B,rfl,os,bare,fl,hokB,un,keepB,thereB,f1,q⟩:=hq;have keepFr:∀ b o,s.heap.get? b=some o->b∉jy outer->b∉jy (gO (rX P w) P w K mg base N qual scope f cd A outer s H E).stack:=λ b o q hb hm=>by
  rcases Ow.mp (I.stkSub b hm) with z | z
  . have l1:=OA q;have l2:b=s.heap.objs.size:=z;rw [l2] at l1;exact absurd l1 (O5 _)
  . exact hb z
 have upFr:∀ b∈jy outer,b∈jy (gO (rX P w) P w K mg base N qual scope f cd A outer s H E).stack:=λ b hb=>by
  obtain ⟨env,he,hf⟩:=Pm.mp hb;exact rq (OH _ he) hf
 refine wpAny_leaves_onW I.ok.frames rfl fl λ h' x1 x2=>?_;have no:∀ b:Addr,b∉([]:List Addr):=λ b=>by simp
 have slot:∀ b∈jy outer,∀ o,s.heap.get? b=some o->∃ sl,h'.get? b=some { o with slots:=sl }:=λ b hb o q=>by
  obtain ⟨sl,e1⟩:=I.base.slot b o q (I.ok.frf b hb) hb (no b);obtain ⟨sl2,e2⟩:=un.slot b _ e1 (I.stkFree b (upFr b hb)) (upFr b hb) (no b);obtain ⟨_,o3,e3,nf⟩:=fl.2.2.1.mem (show b∈jy (gO (rX P w) P w K mg base N qual scope f cd A outer s H E).stack from upFr b hb);rw [e2] at e3;cases e3;obtain ⟨sl',e4⟩:=x2 b _ e2 nf;exact ⟨sl',e4⟩
 refine ⟨ea,cls,a0,H2,B,rfl,os.trans I.os,bare,x1,hokB,⟨λ b o q n hb _=>?_,λ b o q n hb _=>slot b hb o q,λ b o q n _=>?_,λ b o q _=>?_,λ b xs e=>un.tups b xs (I.base.tups b xs e),λ b o xs e=>un.frzs b o xs (I.base.frzs b o xs e),λ b ps e=>?_⟩,λ b o q n hb=>?_,λ b o q hb=>?_,f1,q⟩
 . exact x1.1 _ _ (keepB b o (I.base.keep b o q n hb (no b)) (I.base.free b o q n (no b)) (keepFr b o q hb))
 . obtain ⟨o',e1⟩:=I.base.there b o q (no b);exact un.free b o' e1 (I.base.free b o q n (no b)) (no b)
 . by_cases hb:b∈jy outer
   . obtain ⟨sl,e1⟩:=slot b hb o q;exact ⟨_,e1⟩
   . obtain ⟨o',e1⟩:=I.base.there b o q (no b);obtain ⟨o2,e2⟩:=thereB b o' e1 (keepFr b o q hb);exact ⟨o2,x1.1 _ _ e2⟩
 . obtain ⟨m1,e1⟩:=I.base.tbls b ps e;obtain ⟨m2,e2⟩:=un.tbls b _ e1;exact ⟨m1++m2,by rw [e2,Array.append_assoc]⟩
 . exact keepB b o (I.base.keep b o q n hb (no b)) (I.base.free b o q n (no b)) (keepFr b o q hb)
 . obtain ⟨o',e1⟩:=I.base.there b o q (no b);exact thereB b o' e1 (keepFr b o q hb)
end
section
variable {X:Cx} {E:XK} {C:Addr} {x:Str} {np cpos pos:Pos} {e:Expr} {es:List Expr} {t:TA}
noncomputable def yL (C:Addr) (E:XK) (t:TA):TS:=λ _ σ H=>t σ H λ vs H1=>vs.length<=sizeLine/\E (.ref C) none H1
end
theorem aL.flown {X:Cx} {pins:List (Addr×Obj)} {σ:St} {H H2:Hp} {s s2:Shared} {h5 B:Heap} {ea:Addr} {cls a0:Value} (I:aL X pins σ H s) (os:s2.os=s.os) (bare:AllBare s2.gens) (un:Un (jy X.stack) [] H H2 s.heap s2.heap) (hokB:iS X.prog X.w H2 B)
 (keepB:∀ b o,s.heap.get? b=some o->H b=none->b∉jy X.stack->B.get? b=some o) (thereB:∀ b o,s.heap.get? b=some o->b∉jy X.stack->∃ o',B.get? b=some o')
 (fl0:s2.heap.FunFrames B X.stack) (fl:Heap.FlyingW B X.stack ea cls a0 h5) (up:s2.heap.UpToSlots h5):aL X pins σ H2 { s2 with heap:=h5 }:=by
 have no:∀ b:Addr,b∉([]:List Addr):=λ b=>by simp
 have slot:∀ b∈jy X.stack,∀ o,s.heap.get? b=some o->∃ sl,h5.get? b=some { o with slots:=sl }:=λ b hb o q=>by
  obtain ⟨sl,e1⟩:=un.slot b o q (I.stkFree b hb) hb (no b);obtain ⟨_,o3,e3,nf⟩:=fl0.mem hb;rw [e1] at e3;cases e3;obtain ⟨sl',e4⟩:=up b _ e1 nf;exact ⟨sl',e4⟩
 refine I.call' (ch:=[]) (show s2.os=s.os from os) ⟨λ b o q n hb _=>fl.1 _ _ (keepB b o q n hb),λ b o q n hb _=>slot b hb o q,λ b o q n _=>un.free b o q n (no b),λ b o q _=>?_,un.tups,un.frzs,un.tbls⟩ (hokB.kept λ b u q=>fl.1 b u q) bare λ b z=>absurd z (no b);by_cases hb:b∈jy X.stack
 . obtain ⟨sl,e1⟩:=slot b hb o q;exact ⟨_,e1⟩
 . obtain ⟨o',e1⟩:=thereB b o q hb;exact ⟨o',fl.1 _ _ e1⟩
noncomputable abbrev Cx.suite (X:Cx) (e:Addr):Cx:={ X with A:=X.A.mark (some (.ref e)),calm:=false,xe:=λ _ _=>False }
theorem aL.inSuite {X:Cx} {pins:List (Addr×Obj)} {σ:St} {H:Hp} {s:Shared} (I:aL X pins σ H s) (e:Addr):aL (X.suite e) pins σ H s:=
 ⟨⟨I.ok.mod,I.ok.kind,I.ok.glob,I.ok.blt,I.ok.above,I.ok.inj,I.ok.has,I.ok.cab,(λ h=>by cases h),I.ok.frames,I.ok.stk,I.ok.exf,I.ok.bs,I.ok.bsz,I.ok.noex,I.ok.exfs,I.ok.funs,I.ok.frf⟩,I.os,I.bare,I.base,I.loc,I.cell,I.free,I.freeC,I.pin,I.hok,I.len⟩
theorem aL.outSuite {X:Cx} {pins:List (Addr×Obj)} {σ:St} {H:Hp} {s:Shared} {e:Addr} (I:aL (X.suite e) pins σ H s) (ok:X.Ok):aL X pins σ H s:=
 ⟨ok,I.os,I.bare,I.base,I.loc,I.cell,I.free,I.freeC,I.pin,I.hok,I.len⟩
section
variable {K:Frag} {x D:Addr}
variable {prog:Program} {w:World} {A:Around} {E:Value->Shared->Prop} {s:Shared} {nm:Str}
end
section
variable {X:Cx}
end
section
variable {κ:Type} [DecidableEq κ]
noncomputable def jP (kvs:List (κ×V)) (k:κ):Option V:=(kvs.find? λ kv=>decide (kv.1=k)).map (·.2)
noncomputable def iH (kvs:List (κ×V)) (k:κ) (v:V):List (κ×V):=
 if (kvs.any λ kv=>decide (kv.1=k))=true then kvs.map (λ kv=>if kv.1=k then (kv.1,v) else kv) else kvs++[(k,v)]
theorem lD {p:κ×V} {r:List (κ×V)} {k:κ} (e:p.1=k):jP (p::r) k=some p.2:=by simp [jP,O3,e]
theorem j8 {p:κ×V} {r:List (κ×V)} {k:κ} (e:¬ p.1=k):jP (p::r) k=jP r k:=by simp [jP,O3,e]
theorem tm (k:κ):∀ kvs:List (κ×V),(kvs.any λ kv=>decide (kv.1=k))=(jP kvs k).isSome
 | []=>rfl
 | p::r=>by
  rw [PH];by_cases e:p.1=k
  . simp only [lD e,Op e,Bool.true_or,isSome_some]
  . rw [j8 e,Oi e,Bool.false_or];exact tm k r
theorem jz (kvs:List (κ×V)) (k:κ) (v:V):(iH kvs k v).length<=kvs.length+1:=by
 unfold iH;split
 . rw [O6];omega
 . rw [OV,Ou,OU];omega
theorem jk.isSome_eq {o:Option V} {u:Option Value} (r:jk o u):o.isSome=u.isSome:=by
 cases o with
 | none=>cases u with
  | none=>rfl
  | some _=>exact (show False from r).elim
 | some _=>cases u with
  | none=>exact (show False from r).elim
  | some _=>rfl
theorem jk.getD {o:Option V} {u:Option Value} {d:V} {d':Value} (r:jk o u) (rd:bq d d'):bq (o.getD d) (u.getD d'):=by
 cases o with
 | none=>cases u with
  | none=>exact rd
  | some _=>exact (show False from r).elim
 | some _=>cases u with
  | none=>exact (show False from r).elim
  | some _=>exact r
theorem KV.val {kvs:List (κ×V)} {vs:List (κ×Value)} (r:KV kvs vs) (k:κ):jk (jP kvs k) (valueAt vs k):=by
 unfold KV at r;induction r with
 | nil=>exact True.intro
 | @cons p q ps qs h t ih=>
  obtain ⟨h1,h2⟩:=h;by_cases e:p.1=k
  . have e':q.1=k:=h1.symm.trans e;have b:valueAt (q::qs) k=some q.2:=by simp [valueAt,O3,e']
    rw [lD e,b];exact h2
  . have e':¬ q.1=k:=λ z=>e (h1.trans z);have b:valueAt (q::qs) k=valueAt qs k:=by simp [valueAt,O3,e']
    rw [j8 e,b];exact ih
theorem KV.any {kvs:List (κ×V)} {vs:List (κ×Value)} (r:KV kvs vs) (k:κ):(kvs.any λ kv=>decide (kv.1=k))=vs.any λ kv=>decide (kv.1=k):=by
 unfold KV at r;induction r with
 | nil=>rfl
 | cons h t ih=>rw [PH,PH,ih,h.1]
theorem KV.repl {kvs:List (κ×V)} {vs:List (κ×Value)} (r:KV kvs vs) (k:κ) {y:V} {u:Value} (ry:bq y u):
 KV (kvs.map λ kv=>if kv.1=k then (kv.1,y) else kv) (vs.map λ kv=>if kv.1=k then (kv.1,u) else kv):=by
 unfold KV at r ⊢;induction r with
 | nil=>exact .nil
 | @cons p q ps qs h t ih=>
  rw [OQ,OQ];refine .cons ?_ ih;obtain ⟨h1,h2⟩:=h;by_cases e:p.1=k
  . rw [Oo e,Oo (h1.symm.trans e)];exact ⟨h1,ry⟩
  . rw [Oq e,Oq (λ z=>e (h1.trans z))];exact ⟨h1,h2⟩
theorem KV.put {kvs:List (κ×V)} {vs:List (κ×Value)} (r:KV kvs vs) (k:κ) {y:V} {u:Value} (ry:bq y u):KV (iH kvs k y) (stored vs k u):=by
 unfold iH stored;rw [r.any k];by_cases e:(vs.any λ kv=>decide (kv.1=k))=true
 . rw [Oo e,Oo e];exact r.repl k ry
 . rw [Oq e,Oq e];exact Paired.snoc r ⟨rfl,ry⟩
theorem KV.length {kvs:List (κ×V)} {vs:List (κ×Value)} (r:KV kvs vs):kvs.length=vs.length:=Paired.length r
end
theorem sU {P:Program} {w:World} {k:bR} {u:Value} (r:bq (kV k) u):(ba P w).is k u=true:=by
 cases k with
 | inl i=>obtain ⟨t,e⟩:=(show ∃ t,u=Value.int i t from r);subst e;exact tY P w i t
 | inr x=>obtain ⟨t,e⟩:=(show ∃ t,u=Value.str x t from r);subst e;exact tI P w x t
theorem qz {P:Program} {w:World}:∀ {ks:List bR} {us:List Value},be (ks.map kV) us->ItemsAre (ba P w) ks us
 | [],_,r=>by rw [map_nil] at r;cases r;exact .nil
 | k::ks,_,r=>by
  rw [OQ] at r;cases r with
  | cons h t=>exact .cons (sU h) (qz t)
noncomputable abbrev KT (H:Hp):List (List bR×V)->List (List bR×Addr×Value)->Prop:=Paired λ p q=>p.1=q.1/\H q.2.1=some (.tup (p.1.map kV))/\bq p.2 q.2.2
theorem KT.val {H:Hp} {kvs:List (List bR×V)} {xs:List (List bR×Addr×Value)} (r:KT H kvs xs) (k:List bR):jk (jP kvs k) ((atKey xs k).map (·.2)):=by
 induction r with
 | nil=>exact True.intro
 | @cons p q ps qs h t ih=>
  obtain ⟨h1,_,h2⟩:=h;by_cases e:p.1=k
  . have e':q.1=k:=h1.symm.trans e;have b:atKey (q::qs) k=some q.2:=by simp [atKey,O3,e']
    rw [lD e,b];exact h2
  . have e':¬ q.1=k:=λ z=>e (h1.trans z);have b:atKey (q::qs) k=atKey qs k:=by simp [atKey,O3,e']
    rw [j8 e,b];exact ih
theorem KT.repl {H:Hp} {kvs:List (List bR×V)} {xs:List (List bR×Addr×Value)} (r:KT H kvs xs) (k:List bR) {y:V} {u:Value} (ry:bq y u):
 KT H (kvs.map λ kv=>if kv.1=k then (kv.1,y) else kv) (xs.map (putAt k u)):=by
 induction r with
 | nil=>exact .nil
 | @cons p q ps qs h t ih=>
  rw [OQ,OQ];refine .cons ?_ ih;obtain ⟨h1,h2,h3⟩:=h;unfold putAt;by_cases e:p.1=k
  . rw [Oo e,Oo (h1.symm.trans e)];exact ⟨h1,h2,ry⟩
  . rw [Oq e,Oq (λ z=>e (h1.trans z))];exact ⟨h1,h2,h3⟩
theorem KT.put {H:Hp} {kvs:List (List bR×V)} {xs:List (List bR×Addr×Value)} (r:KT H kvs xs) (k:List bR) {b:Addr} {y:V} {u:Value} (hb:H b=some (.tup (k.map kV))) (ry:bq y u):
 KT H (iH kvs k y) (storedH xs k b u):=by
 have e:(kvs.any λ kv=>decide (kv.1=k))=(atKey xs k).isSome:=by
  rw [tm,(r.val k).isSome_eq,Option.isSome_map]
 unfold iH storedH;rw [e];by_cases q:(atKey xs k).isSome=true
 . rw [Oo q,Oo q];exact r.repl k ry
 . rw [Oq q,Oq q];exact Paired.snoc r ⟨rfl,hb,ry⟩
theorem KT.keeps {H H':Hp} {kvs:List (List bR×V)} {xs:List (List bR×Addr×Value)} (r:KT H kvs xs) (ht:∀ b ys,H b=some (.tup ys)->H' b=some (.tup ys)):KT H' kvs xs:=
 Paired.mapP r λ _ _ z=>⟨z.1,ht _ _ z.2.1,z.2.2⟩
section
variable {P:Program} {w:World} {H:Hp} {h:Heap} {a:Addr}
theorem Dq {u:HO} (ok:iS P w H h) (e:Rd H a u):dF P w H h a u:=e.ok ok
theorem tu {kvs:List (bR×V)} (ok:iS P w H h) (e:Rd H a (.dK kvs)):kvs.length<=sizeLine/\(a==sysModules)=false/\∃ vs,KV kvs vs/\h.DictOf (ba P w) a vs:=
 by obtain ⟨z,y,vs,r,x⟩:=(show dF P w H h a (.dK kvs) from Dq ok e);exact ⟨z,y,vs,r,x.of⟩
theorem KW {kvs:List (bR×V)} (ok:iS P w H h) (e:H a=some (.dK kvs)):∃ vs,KV kvs vs/\ji P w h a vs:=by
 obtain ⟨_,_,vs,r,x⟩:=(show dF P w H h a (.dK kvs) from ok a _ e);exact ⟨vs,r,x⟩
theorem Ip {kvs:List (bR×V)} (ok:iS P w H h) (e:H a=some (.dK kvs)):kvs.length<=sizeLine/\(a==sysModules)=false/\∃ vs,KV kvs vs/\h.DictOf (ba P w) a vs:=tu ok (.inl e)
theorem rQ {ks:List bR} (ok:iS P w H h) (e:H a=some (.tup (ks.map kV))):(tupleKind (ba P w)).is h ks a:=by
 obtain ⟨_,its,r,o,h1,h2,n,h3⟩:=(show dF P w H h a (.tup (ks.map kV)) from ok a _ e)
 exact ⟨o,its.toArray,n,h1,h2,h3,by simpa using qz r⟩
theorem sE {kvs:List (List bR×V)} (ok:iS P w H h) (e:Rd H a (.dT kvs)):kvs.length<=sizeLine/\(a==sysModules)=false/\
 ∃ xs,KT H kvs xs/\h.DictOfH (tupleKind (ba P w)) a xs:=by
 obtain ⟨z,y,xs,r,o,es,ep,h1,h2,h3,h4,h5⟩:=(show dF P w H h a (.dT kvs) from Dq ok e)
 refine ⟨z,y,xs,r,o,es,ep,h1,h2,h3,h4,λ x hx=>?_,h5⟩;have all:∀ {l:List (List bR×V)} {m:List (List bR×Addr×Value)},KT H l m->∀ x∈m,(tupleKind (ba P w)).is h x.1 x.2.1:=by
  intro l m q;induction q with
  | nil=>intro x hx;exact nomatch hx
  | @cons p q ps qs hq t ih=>
   intro x hx;rcases Ow.mp hx with e | hx
   . subst e;exact rQ ok (by rw [<-hq.1];exact hq.2.1)
   . exact ih x hx
 exact all r x hx
theorem Iz {kvs:List (List bR×V)} (ok:iS P w H h) (e:H a=some (.dT kvs)):kvs.length<=sizeLine/\(a==sysModules)=false/\
 ∃ xs,KT H kvs xs/\h.DictOfH (tupleKind (ba P w)) a xs:=sE ok (.inl e)
end
noncomputable def nh (H:Hp) (a:Addr) (y:V) (r:Option V):Prop:=
 (∃ kvs k,Rd H a (.dK kvs)/\y=kV k/\r=jP kvs k)∨∃ kvs k b,Rd H a (.dT kvs)/\y=.ref b/\H b=some (.tup (k.map kV))/\r=jP kvs k
noncomputable def qT (H:Hp) (a:Addr) (y v:V) (H':Hp):Prop:=
 (∃ kvs k,H a=some (.dK kvs)/\y=kV k/\kvs.length<sizeLine/\H'=d6 H a (.dK (iH kvs k v)))∨
 ∃ kvs k b,H a=some (.dT kvs)/\y=.ref b/\H b=some (.tup (k.map kV))/\kvs.length<sizeLine/\H'=d6 H a (.dT (iH kvs k v))
theorem nh.k {H:Hp} {a:Addr} {kvs:List (bR×V)} {k:bR} (e:H a=some (.dK kvs)):nh H a (kV k) (jP kvs k):=.inl ⟨kvs,k,.inl e,rfl,rfl⟩
theorem nh.t {H:Hp} {a b:Addr} {kvs:List (List bR×V)} {k:List bR} (e:H a=some (.dT kvs)) (eb:H b=some (.tup (k.map kV))):nh H a (.ref b) (jP kvs k):=.inr ⟨kvs,k,b,.inl e,rfl,eb,rfl⟩
theorem qT.k {H:Hp} {a:Addr} {kvs:List (bR×V)} {k:bR} {v:V} (e:H a=some (.dK kvs)) (hl:kvs.length<sizeLine):qT H a (kV k) v (d6 H a (.dK (iH kvs k v))):=.inl ⟨kvs,k,e,rfl,hl,rfl⟩
theorem qT.t {H:Hp} {a b:Addr} {kvs:List (List bR×V)} {k:List bR} {v:V} (e:H a=some (.dT kvs)) (eb:H b=some (.tup (k.map kV))) (hl:kvs.length<sizeLine):
 qT H a (.ref b) v (d6 H a (.dT (iH kvs k v))):=.inr ⟨kvs,k,b,e,rfl,eb,hl,rfl⟩
section
variable {X:Cx} {pins:List (Addr×Obj)} {σ:St} {H:Hp} {s:Shared} {a:Addr} {y v:V} {u r:Value} {o:Option V} {A:Around} {E:Value->Shared->Prop}
theorem aL.big (I:aL X pins σ H s):sysModules<s.heap.objs.size:=by
 have h:mainGlobals<s.heap.objs.size:=(I.mod.glob.keeps I.bk).lt;exact PD (by decide) h
theorem wW {Q:Value->Shared->Prop} (hu:A.units+1<cLine) (I:aL X pins σ H s) (g:nh H a y (some v)) (ry:bq y u) (h:∀ w' s',aL X pins σ H s'->bq v w'->Q w' s'):
 wpAny (model X.prog X.w) A (getItem (.ref a) u) Q E s:=by
 rcases g with ⟨kvs,k,e,ey,l⟩ | ⟨kvs,k,b,e,ey,eb,l⟩
 . subst ey;obtain ⟨z,hd,vs,rel,dd⟩:=tu I.hok e;obtain ⟨w',hw,rw'⟩:=jk.some_of (v:=v) (o:=valueAt vs k) (by rw [l];exact rel.val k);exact wpAny_getItem_of (sU ry) dd.mapOf hw (h w' _ (I.tok _) rw')
 . subst ey;cases (show u=Value.ref b from ry);obtain ⟨z,hd,xs,rel,dd⟩:=sE I.hok e;obtain ⟨w',hw,rw'⟩:=jk.some_of (v:=v) (o:=(atKey xs k).map (·.2)) (by rw [l];exact rel.val k);obtain ⟨p,hp,hp2⟩:=oM hw
   refine wpAny_getItem_heap (tupleKind_room_in1 hu) (rQ I.hok eb) dd hp ?_;rw [hp2];exact h w' _ (I.tok _) rw'
theorem qH {h':Heap} {t':Nat} {ob:HO} (I:aL X pins σ H s) (mu:IG (H a)) (hs:Heap.SameBut a s.heap h') (he:∃ q,h'.get? a=some q) (new:dF X.prog X.w (d6 H a ob) h' a ob):
 aL X pins σ (d6 H a ob) { s with heap:=h',toks:=t' }:=
 I.write (x:=a) (e:=a) mu (.inl rfl) (λ b q hb z=>(hs.2 b hb).trans z) he new
theorem Af {P:Program} {w:World} {H':Hp} {h':Heap} {kvs:List (bR×V)} {vs:List (bR×Value)} (z:kvs.length<=sizeLine) (hd:(a==sysModules)=false) (rel:KV kvs vs) (dd:ji P w h' a vs):
 dF P w H' h' a (.dK kvs):=⟨z,hd,vs,rel,dd⟩
theorem J7 {P:Program} {w:World} {d:Addr} {kvs:List (bR×Value)} {k:bR} {key v:Value} {Q:Unit->Shared->Prop} (hkey:(ba P w).is k key=true) (hm:ji P w s.heap d kvs) (hsz:kvs.length<=sizeLine)
 (hQ:∀ h',ji P w h' d (stored kvs k v)->Heap.SameBut d s.heap h'->Q () { s with heap:=h',toks:=s.toks+1 }):wpAny (model P w) A (setItem (.ref d) key v) Q E s:=by
 have T:=hm.of.typeIs;obtain ⟨o,es,ep,ho,hc,hd,he,hk,hp,hn⟩:=hm;have hes:es.size<=sizeLine:=by have e1:=hp.length;rw [Pw] at e1;omega
 unfold setItem;try with_reducible refine Pa ?_
 refine Ov (wpAny_sequenceKey T (by decide) (Ov (wpAny_callSpecial?_slot (name:=Str.ofString "__setitem__") T F.slot_dict_setitem (wpAny_call_entry F.slot_dict_setitem T F.entry_dict_setitem (Ov (wpAny_notOrdered_dict T (show wpAny _ _ (dictSet d key v >>= _) _ _ s from Ov ?_))) (args_dict_setitem _ _ _)))));unfold dictSet;try with_reducible refine Pa ?_
 refine Ov ((ba P w).pyHash hkey ?_);unfold dictSetHashed;try with_reducible refine Pa ?_
 refine Ov (wpAny_dictFind_of (s:={ s with toks:=s.toks+1 }) hkey ho hd hk ?_);have ix:(es.findIdx? λ e=>(ba P w).is k e.key)=kvs.findIdx? λ kv=>decide (kv.1=k):=by
  rw [<-hp.findIdx k];obtain ⟨l⟩:=es;simp
 cases hi:es.findIdx? λ e=>(ba P w).is k e.key with
 | some i=>
  have an:=any_of_findIdx_some (ix▸hi);have hl:(es.toList.findIdx? λ e=>(ba P w).is k e.key)=some i:=by rw [<-hi];obtain ⟨l⟩:=es;simp
  have hm:=hp.modify hn hl v;refine Ov (wpAny_rule (Ov (wpAny_updateDict (s:={ s with toks:=s.toks+1 }) ho hd (wpAny_point (OL ⟨.none,rfl,OL (hQ _ ?_ (Heap.SameBut.update ..))⟩)))));refine ⟨_,_,ep,Pn _ ho (Obj.isFreed_of_dict (Obj.data_mapDict hd _)),hc.mapDict _,Obj.data_mapDict hd _,by simpa using he,hk.modify _ _,?_,?_⟩
  . rw [stored,Oo an];obtain ⟨l⟩:=es;simpa using hm
  . rw [stored,Oo an,keys_map_store];exact hn
 | none=>
  have nm:k∉kvs.map (·.1):=not_mem_of_findIdx_none (ix▸hi);have na:¬ (kvs.any λ kv=>decide (kv.1=k))=true:=λ z=>by
   obtain ⟨kv,h1,h2⟩:=List.any_eq_true.mp z;exact nm (PM.mpr ⟨kv,h1,PL h2⟩)
  have ha:=hp.append hkey ((ba P w).hash k) v;refine Ov (wpAny_rule (wpAny_updateDictKeys (hz:=hes) (s:={ s with toks:=s.toks+1 }) ho hd (OL ⟨.none,rfl,OL (hQ _ ?_ (Heap.SameBut.update ..))⟩)));refine ⟨_,_,ep+1,Pn _ ho (Obj.isFreed_of_dict (Obj.data_mapDictKeys hd _)),hc.mapDictKeys _,Obj.data_mapDictKeys hd _,by simp [he],hk.push hkey _,?_,?_⟩
  . rw [stored,Oq na];obtain ⟨l⟩:=es;simpa using ha
  . rw [stored,Oq na,Pr,nodup_append];exact ⟨hn,by simp,λ x hx y hy z=>nm (by simp at hy;rw [<-hy,<-z];exact hx)⟩
theorem wM {H':Hp} {Q:Unit->Shared->Prop} (hu:A.units+1<cLine) (I:aL X pins σ H s) (g:qT H a y v H') (ry:bq y u) (rv:bq v r) (h:∀ s',aL X pins σ H' s'->Q () s'):
 wpAny (model X.prog X.w) A (setItem (.ref a) u r) Q E s:=by
 rcases g with ⟨kvs,k,e,ey,l,eH⟩ | ⟨kvs,k,b,e,ey,eb,l,eH⟩
 . subst ey eH;obtain ⟨z,hd,_⟩:=Ip I.hok e;obtain ⟨vs,rel,dd⟩:=KW I.hok e;have hz:vs.length<=sizeLine:=by rw [<-rel.length];exact z
   have hl:(iH kvs k v).length<=sizeLine:=by have:=jz kvs k v;omega
   refine J7 (sU ry) dd hz λ h' dd' hs=>h _ ?_;have he:∃ q,h'.get? a=some q:=let ⟨q,_,_,hq,_⟩:=dd';⟨q,hq⟩;exact qH I (by rw [e];exact True.intro) hs he (Af hl hd (rel.put k rv) dd')
 . subst ey eH;cases (show u=Value.ref b from ry);obtain ⟨z,hd,xs,rel,dd⟩:=Iz I.hok e;have hz:xs.length<=sizeLine:=by rw [<-Paired.length rel];exact z
   have hl:(iH kvs k v).length<=sizeLine:=by have:=jz kvs k v;omega
   refine wpAny_setItem_heap (hsz:=hz) (tupleKind_room_in1 hu) (rQ I.hok eb) dd λ h' dd' hs=>h _ ?_;obtain ⟨q,es,ep,hq,h2,h3,h4,_,h5⟩:=dd';refine qH I (by rw [e];exact True.intro) hs ⟨q,hq⟩ ⟨hl,hd,_,(rel.put k eb rv).keeps λ c ys ec=>?_,q,es,ep,hq,h2,h3,h4,h5⟩;rw [aP (Il ec e (λ z=>nomatch z))];exact ec
end
section
variable {X:Cx} {pins:List (Addr×Obj)} {σ:St} {H:Hp} {s:Shared} {a:Addr} {kvs:List (bR×V)} {k:bR} {u:Value} {A:Around} {E:Value->Shared->Prop}
end
noncomputable def Jy (i:Expr):Prop:=∀ ov iv,subscripted i false ov iv=operate [ov,iv] (getItem ov iv)
theorem Be {prog:Program} {w:World} {A:Around} {E:Value->Shared->Prop} {s:Shared} {env:Env} {value slice:Expr} {pos:Pos} {T id:String} {Q:Value->Shared->Prop}
 (hl:typeLookup (.type T) "__getitem__" = pure (some (.builtin id))) (hs:Jy slice)
 (h:wpAny (model prog w) A (eval value env) (λ o s₁=>wpAny (model prog w) A (eval slice env) (λ i s₂=>s₂.TypeIs o T/\wpAny (model prog w) A (getItem o i) Q E s₂) E s₁) E s):
 wpAny (model prog w) A (eval (.Subscript value slice pos) env) Q E s:=by
 refine Subscript_ (O4 h (λ o s₁ h₁=>O4 h₁ (λ i s₂ h₂=>?_) λ _ _ x=>x) λ _ _ x=>x);obtain ⟨hT,h₂⟩:=h₂;unfold subscriptTail;refine Ov ?_;rw [getitemInPython_of_ne hT.not_modules];refine Ov (wpAny_specialOf hT hl ?_);have fin:wpAny (model prog w) A (subscripted slice false o i) (λ r s₃=>wpAny (model prog w) A (letTemporaryGo value o r >>= λ _=>pure r) Q E s₃) E s₂:=by
  rw [hs o i];exact wpAny_operating (O4 h₂ (λ r s₃ h₃=>Ov (wpAny_letTemporaryGo (OL h₃))) λ _ _ x=>x)
 first
  | exact OL (Ov fin)
  | exact Ov (OL (Ov fin))
  | exact Ov fin
theorem sL {X:Cx} {pins:List (Addr×Obj)} {σ:St} {H:Hp} {s:Shared} {a:Addr} {y:V} {o:Option V} (I:aL X pins σ H s) (g:nh H a y o):s.TypeIs (.ref a) "dict" := by
 rcases g with ⟨kvs,k,e,_,_⟩ | ⟨kvs,k,b,e,_,_,_⟩
 . obtain ⟨_,_,vs,_,dd⟩:=tu I.hok e;exact dd.typeIs
 . obtain ⟨_,_,xs,_,dd⟩:=sE I.hok e;exact dd.typeIs
noncomputable def Dm (td ty:TE):TE:=λ σ H Q=>td σ H λ x H1=>ty σ H1 λ y H2=>∃ a v,x=.ref a/\nh H2 a y (some v)/\Q v H2
noncomputable def Dn (td ty tv:TE):TS:=λ D σ H=>tv σ H λ v H1=>td σ H1 λ x H2=>ty σ H2 λ y H3=>∃ a H4,x=.ref a/\qT H3 a y v H4/\D.nx σ H4
section
variable {X:Cx} {o i e value:Expr} {pos pos' tpos:Pos} {td ty tv:TE}
theorem Kb (hu:X.A.units+1<cLine) (ho:PE X o td) (hi:PE X i ty) (hs:Jy i):PE X (.Subscript o i pos) (Dm td ty):=by
 intro pins s σ H Q I h;refine Be PySem.F.slot_dict_getitem.lookup hs (cy (ho pins s σ H _ I h) λ u s1 hy0=>?_);obtain ⟨x,H1,I1,rx,q1⟩:=hy0;refine cy (hi pins s1 σ H1 _ I1 q1) λ iv s2 hq0=>?_;obtain ⟨y,H2,I2,ry,a,v,ex,g,q2⟩:=hq0;subst ex;obtain rfl:u=Value.ref a:=rx;exact ⟨sL I2 g,wW hu I2 g ry λ w' s3 I3 rw'=>⟨v,H2,I3,rw',q2⟩⟩
theorem Kx (hu:X.A.units+1<cLine) (ho:PE X o td) (hi:PE X i ty) (hv:PE X value tv) (hs:swapsWith value (some (.Subscript o i pos')) pos.line X.env=pure false):
 PS X (.Assign [.Subscript o i pos'] value pos) (Dn td ty tv):=by
 intro pins s σ H D I h;refine wpAny_Assign_Subscript (cy (hv pins s σ H _ I h) λ r s1 hy0=>?_) hs;obtain ⟨v,H1,I1,rv,q1⟩:=hy0;refine cy (ho pins s1 σ H1 _ I1 q1) λ u s2 hy0=>?_;obtain ⟨x,H2,I2,rx,q2⟩:=hy0;refine cy (hi pins s2 σ H2 _ I2 q2) λ iv s3 hq0=>?_;obtain ⟨y,H3,I3,ry,a,H4,ex,g,q3⟩:=hq0;subst ex;obtain rfl:u=Value.ref a:=rx;exact wM hu I3 g ry rv λ s4 I4=>⟨σ,H4,I4,q3⟩
end
theorem sO {P:Program} {w:World} {H:Hp} (h:Heap) (hb:sysModules<h.objs.size):dF P w H (h.push { cls:=.type "dict", data:=.dict #[] }) h.objs.size (.dK []):=
 ⟨O1 _,Pu.mpr (Pt (OP hb)),[],.nil,_,#[],0,OZ _ rfl,⟨rfl,rfl,rfl⟩,rfl,rfl,λ _ he=>by simp at he,.nil,List.nodup_nil⟩
noncomputable def zX:TE:=λ _ H Q=>∀ p,H p=none->Q (.ref p) (d6 H p (.dK []))
section
variable {X:Cx} {pos:Pos}
theorem IS:PE X (.Dict [] [] pos) zX:=λ pins s σ H Q I h=>
 wpAny_Dict_empty ⟨.ref s.heap.objs.size,_,I.laid (a:=s.heap.objs.size) (o:=.dK []) (t':=s.toks) (λ _ _ q=>OE _ q) (Ol _) (sO s.heap I.big),rfl,h _ (I.hok.fresh (Ol _))⟩
end
noncomputable def rT:List (TE×TE)->St->Hp->(List (V×V)->Hp->Prop)->Prop
 | [],_,H,Q=>Q [] H
 | (tk,tv)::r,σ,H,Q=>tk σ H λ x H1=>tv σ H1 λ y H2=>rT r σ H2 λ ps H3=>Q ((x,y)::ps) H3
noncomputable abbrev VV:List (V×V)->List (Value×Value)->Prop:=Paired λ p q=>bq p.1 q.1/\bq p.2 q.2
noncomputable def Jg (X:Cx) (pos:Pos) (keys:List (Option Expr)) (values:List Expr) (trs:List (TE×TE)):Prop:=
 ∀ (pins:List (Addr×Obj)) (s:Shared) (σ:St) (H:Hp) (Q:List (V×V)->Hp->Prop),aL X pins σ H s->rT trs σ H Q->
  wpAny (model X.prog X.w) X.A (evalPairs (pairTrees keys values X.env pos)) (λ vs s'=>∃ ps H',aL X pins σ H' s'/\VV ps vs/\Q ps H') X.xe s
theorem Kc {X:Cx} {pos:Pos}:Jg X pos [] [] []:=λ pins s σ H Q I h=>pairTrees_nil_walk ⟨[],H,I,.nil,h⟩
theorem JC {X:Cx} {pos:Pos} {k v:Expr} {ks:List (Option Expr)} {vs:List Expr} {tk tv:TE} {trs:List (TE×TE)} (hk:PE X k tk) (hv:PE X v tv) (hr:Jg X pos ks vs trs):
 Jg X pos (some k::ks) (v::vs) ((tk,tv)::trs):=λ pins s σ H Q I h=>
 pairTrees_cons_walk (cy (hk pins s σ H _ I h) λ u s1 ⟨x,H1,I1,rx,q1⟩=>cy (hv pins s1 σ H1 _ I1 q1) λ w2 s2 ⟨y,H2,I2,ry,q2⟩=>
  cy (hr pins s2 σ H2 _ I2 q2) λ ws s3 ⟨ps,H3,I3,rel,q3⟩=>⟨(x,y)::ps,H3,I3,.cons ⟨rx,ry⟩ rel,q3⟩)
noncomputable def ir (kvs more:List (bR×V)):List (bR×V):=more.foldl (λ acc kv=>iH acc kv.1 kv.2) kvs
theorem KV.merge:∀ {more:List (bR×V)} {rs:List (bR×Value)} {kvs:List (bR×V)} {vs:List (bR×Value)},KV more rs->KV kvs vs->KV (ir kvs more) (merged vs rs):=by
 intro more rs kvs vs r;unfold KV at r;induction r generalizing kvs vs with
 | nil=>intro q;exact q
 | @cons p q ps qs h t ih=>
  intro r0;have e:KV (iH kvs p.1 p.2) (stored vs q.1 q.2):=by
   have:=r0.put p.1 h.2;rw [<-h.1];exact this
  exact ih e
theorem jY:∀ (more kvs:List (bR×V)),(ir kvs more).length<=kvs.length+more.length
 | [],kvs=>by show kvs.length<=kvs.length+0;omega
 | p::r,kvs=>by
  have h1:=jY r (iH kvs p.1 p.2);have h2:=jz kvs p.1 p.2;show (ir (iH kvs p.1 p.2) r).length<=_;rw [Ou];omega
theorem nN {P:Program} {w:World}:∀ {kvs:List (bR×V)} {ws:List (Value×Value)},VV (kvs.map λ kv=>(kV kv.1,kv.2)) ws->∃ rs,Carries (ba P w) ws rs/\KV kvs rs
 | [],_,r=>by rw [map_nil] at r;cases r;exact ⟨[],True.intro,.nil⟩
 | p::kvs,_,r=>by
  rw [OQ] at r;cases r with
  | @cons a b as bs h t=>
   obtain ⟨rs,c,q⟩:=nN (P:=P) (w:=w) t;obtain ⟨b1,b2⟩:=b;exact ⟨(p.1,b2)::rs,⟨sU h.1,rfl,c⟩,.cons ⟨rfl,h.2⟩ q⟩
noncomputable def Dh (trs:List (TE×TE)):TE:=λ σ H Q=>∀ p,H p=none->rT trs σ (d6 H p (.dK [])) λ ps H2=>H2 p=some (.dK [])/\∃ kvs:List (bR×V),ps=kvs.map (λ kv=>(kV kv.1,kv.2))/\kvs.length<=15/\Q (.ref p) (d6 H2 p (.dK (ir [] kvs)))
structure M2 (X:Cx) (o:Expr) (m:Str) (apos:Pos) (e f:Expr) (cpos:Pos):Prop where
 base:attributeBase o m X.env (eval o X.env)=eval o X.env
 few:((backTo cpos (starEach [e,f] X.env)).all (λ x=>!x.1)&&(backToKw cpos (keywordEach [] X.env)).all (λ x=>x.1.isSome)
  && decide (([e,f]:List Expr).length+([]:List Keyword).length+(if ([]:List Keyword).isEmpty then 0 else 1)<30))=true
 line:(apos.endLine==cpos.line)=true
 trees:backTo cpos (starEach [e,f] X.env)=[(false,eval e X.env),(false,eval f X.env)]
noncomputable def M8 (H:Hp) (a:Addr):Prop:=(∃ kvs,Rd H a (.dK kvs))∨∃ kvs,Rd H a (.dT kvs)
theorem Ee {X:Cx} {pins:List (Addr×Obj)} {σ:St} {H:Hp} {s:Shared} {a:Addr} (I:aL X pins σ H s) (d:M8 H a):
 s.TypeIs (.ref a) "dict" /\ (∀ b,Value.ref a=.ref b->∃ ob,s.heap.get? b=some ob/\ob.dict=none)/\(a==sysModules)=false:=by
 rcases d with ⟨kvs,e⟩ | ⟨kvs,e⟩
 . obtain ⟨_,hd,vs,_,dd⟩:=tu I.hok e;refine ⟨dd.typeIs,λ b q=>?_,hd⟩;cases q;obtain ⟨ob,_,_,h1,h2,_⟩:=dd;exact ⟨ob,h1,h2.2.1⟩
 . obtain ⟨_,hd,xs,_,dd⟩:=sE I.hok e;refine ⟨dd.typeIs,λ b q=>?_,hd⟩;cases q;obtain ⟨ob,_,_,h1,h2,_⟩:=dd;exact ⟨ob,h1,h2.2.1⟩
section
variable {X:Cx} {pins:List (Addr×Obj)} {σ:St} {H:Hp} {s:Shared} {a:Addr} {y d:V} {u r:Value} {o:Option V} {A:Around} {E:Value->Shared->Prop}
theorem Ft {Q:Value->Shared->Prop} (hu:A.units+1<cLine) (I:aL X pins σ H s) (g:nh H a y o) (ry:bq y u) (rd:bq d r) (h:∀ w' s',aL X pins σ H s'->bq (o.getD d) w'->Q w' s'):
 wpAny (model X.prog X.w) A (call (.builtin "dict.get") [.ref a,u,r]) Q E s:=by
 rcases g with ⟨kvs,k,e,ey,l⟩ | ⟨kvs,k,b,e,ey,eb,l⟩
 . subst ey;obtain ⟨z,hd,vs,rel,dd⟩:=tu I.hok e;refine call_meetsIn PySem.F.slot_dict_get dd.typeIs PySem.F.entry_dict_get (PySem.F.args_dict_get_3 _ _ _) (meets_dict_get_default (ba X.prog X.w) a (sU ry) hd r) ⟨_,dd.mapOf,h _ _ (I.tok _) ?_⟩;rw [l];exact (rel.val k).getD rd
 . subst ey;cases (show u=Value.ref b from ry);obtain ⟨z,hd,xs,rel,dd⟩:=sE I.hok e;refine call_meetsIn PySem.F.slot_dict_get dd.typeIs PySem.F.entry_dict_get (PySem.F.args_dict_get_3 _ _ _) (meetsH_dict_get_default (tupleKind (ba X.prog X.w)) a b hd r) ⟨tupleKind_room_in1 hu,k,xs,rQ I.hok eb,dd,h _ _ (I.tok _) ?_⟩;rw [l];exact (rel.val k).getD rd
end
noncomputable def yK (td ty tx:TE):TE:=λ σ H Q=>td σ H λ x H1=>∃ a,x=.ref a/\M8 H1 a/\ty σ H1 λ y H2=>tx σ H2 λ z H3=>∃ o,nh H3 a y o/\Q (o.getD z) H3
section
variable {X:Cx} {o e f:Expr} {apos cpos:Pos} {td ty tx:TE}
theorem IU (hu:X.A.units+1<cLine) (ho:PE X o td) (he:PE X e ty) (hf:PE X f tx) (m:M2 X o "get" apos e f cpos):PE X (.Call (.Attribute o "get" apos) [e,f] [] cpos) (yK td ty tx):=by
 intro pins s σ H Q I h;refine wpAny_Call_method m.base m.few m.line PySem.F.plainAttrs_dict PySem.F.slot_dict_get PySem.F.type_dict_get (cy (ho pins s σ H _ I h) λ u s1 hq0=>?_);obtain ⟨x,H1,I1,rx,a,ex,d,q1⟩:=hq0;subst ex;obtain rfl:u=Value.ref a:=rx;obtain ⟨t1,t2,_⟩:=Ee I1 d;refine ⟨t1,t2,?_⟩;rw [m.trees];refine Calls.callWith_builtin rfl (Calls.evalArgs_plain (Calls.spliced_cons (cy (he pins s1 σ H1 _ I1 q1) λ iv s2 hy0=>?_)));obtain ⟨y,H2,I2,ry,q2⟩:=hy0;refine
  Calls.spliced_cons (cy (hf pins s2 σ H2 _ I2 q2) λ fv s3 hy0=>?_)
 obtain ⟨z,H3,I3,rz,ov,g,q3⟩:=hy0;refine Calls.spliced_nil ?_;exact Ft hu I3 g ry rz λ w' s4 I4 rw'=>⟨_,H3,I4,rw',q3⟩
end
section
variable {X:Cx} {pins:List (Addr×Obj)} {σ:St} {H:Hp} {s:Shared} {a:Addr} {kvs:List (bR×V)} {A:Around} {E:Value->Shared->Prop}
end
section
variable {X:Cx} {pins:List (Addr×Obj)} {σ:St} {H:Hp} {s:Shared} {a:Addr} {y:V} {u:Value} {A:Around} {E:Value->Shared->Prop}
end
section
variable {X:Cx}
end
section
variable {κ:Type} [DecidableEq κ]
end
section
variable {z:Str} {wi:TI} {g:TG} {tb:TS} {D:iZ} {σ:St} {H H1:Hp} {ix:List (Option Nat)} {tc:TT} {te:TE} {Q:VK}
end
section
variable {X:Cx}
end
section
variable {X:Cx}
noncomputable def Da (i j:Int):Prop:=i.natAbs<2^512/\j.natAbs<2^512
theorem BP:iw X (binaryOp .Mult) (rI Da λ i j=>.int (i*j)):=Kv λ _ _ _ _ _ _ _ hc q=>mul_int q (IntMulOk.of_le (PySem.intBits_le_iff.mpr hc.1) (PySem.intBits_le_iff.mpr hc.2) (by decide))
noncomputable def Dd:R2:=λ x y H Q=>∃ z n,x=.str z/\y=.int n/\0<=n/\n<=1000/\z.length<=1000/\Q (.str (Txt.mul z n)) H
theorem Kj:iw X (binaryOp .Mult) Dd:=by
 intro pins s σ H x y v u Q I rx ry h;obtain ⟨z,n,rfl,rfl,h0,h1,hz,q⟩:=h;obtain ⟨t,rfl⟩:=rx;obtain ⟨t',rfl⟩:=ry;have hm:z.length*n.toNat<=1000*1000:=Nat.mul_le_mul hz (by omega);refine SB.mul ⟨?_,λ a b=>?_,λ a b=>?_⟩ (λ t2 k=>⟨.str _,H,I.tok k,⟨t2,rfl⟩,q⟩)
 . have e1:decide (n < -(2^63:Int))=false:=Oi (by omega);have e2:decide (n ≥ 2^63)=false:=Oi (by omega);rw [e1,e2];rfl
 . have hn:1<=n:=by omega
   have:(1000:Int)<=(2^63-1) / n:=by
    rw [Int.le_ediv_iff_mul_le (by omega)];omega
   omega
 . unfold PySem.Builtin.Str.tooLong;exact Oi (by have:sizeLine=16777216:=sizeLine_eq;omega)
theorem xp:ff X (.builtin "isinstance") (λ xs H Q=>∃ (a:Addr) (ys:List V) (T:String) (k:Bool),xs=[.ref a,.ty T]/\gU X.K H a ys/\PySem.W.kitOne X.K (.type "tuple") (.type T)=some k/\Q (.bl k) H):=by
 intro pins s σ H xs us Q I r h;obtain ⟨a,ys,T,k,rfl,ha,hk,q⟩:=h;cases r with
 | cons r rr=>
  cases rr with
  | cons r' rr=>
   cases rr;cases r;cases r';obtain ⟨its,_,⟨o,e,c,_⟩,_⟩:=I.tuple ha;exact PySem.W.kia_one (PySem.W.kitx_tuple) I.kIn ⟨o,e,c⟩ hk (by intro z;cases z) λ tk=>⟨.bl k,H,I.tok tk,rfl,q⟩
theorem xL:ff X (.builtin "isinstance") (λ xs H Q=>∃ (a:Addr) (ys:List V) (T:String) (k:Bool),xs=[.ref a,.ty T]/\eS X.K H a ys/\PySem.W.kitOne X.K (.type "list") (.type T)=some k/\Q (.bl k) H):=by
 intro pins s σ H xs us Q I r h;obtain ⟨a,ys,T,k,rfl,ha,hk,q⟩:=h;cases r with
 | cons r rr=>
  cases rr with
  | cons r' rr=>
   cases rr;cases r;cases r';obtain ⟨its,_,⟨o,n,e,c,_⟩,_⟩:=I.list ha;exact PySem.W.kia_one (PySem.W.kitx_list) I.kIn ⟨o,e,c⟩ hk (by intro z;cases z) λ tk=>⟨.bl k,H,I.tok tk,rfl,q⟩
end
section
variable {X:Cx} {K:Frag}
theorem KH (h:X.K=K):yO X (Kh K):=h▸Fw
theorem AH (h:X.K=K):Dg X (HE K):=h▸Cy
theorem AU (h:X.K=K):Dg X (JJ K):=h▸E4
theorem E8 (h:X.K=K):iw X (compareOp .In) (ES K false):=h▸xB
noncomputable def Ir (K:Frag):List V->Hp->VK->Prop:=λ xs H Q=>∃ p ys,xs=[.ref p]/\(eS K H p ys∨gU K H p ys)/\Q (.int ys.length) H
theorem pE (h:X.K=K):ff X (.builtin "len") (Ir K):=h▸qG
noncomputable def Dv:List V->Hp->VK->Prop:=λ xs H Q=>∃ z,xs=[.str z]/\z.length<=sizeLine/\Q (.int z.length) H
theorem p3:ff X (.builtin "len") Dv:=rA
noncomputable def DL (K:Frag):List V->Hp->VK->Prop:=λ xs H Q=>∃ (a:Addr) (ys:List V) (T:String) (k:Bool),xs=[.ref a,.ty T]/\gU K H a ys/\PySem.W.kitOne K (.type "tuple") (.type T)=some k/\Q (.bl k) H
theorem vh (h:X.K=K):ff X (.builtin "isinstance") (DL K):=h▸xp
noncomputable def Db (K:Frag):List V->Hp->VK->Prop:=λ xs H Q=>∃ (a:Addr) (ys:List V) (T:String) (k:Bool),xs=[.ref a,.ty T]/\eS K H a ys/\PySem.W.kitOne K (.type "list") (.type T)=some k/\Q (.bl k) H
theorem vt (h:X.K=K):ff X (.builtin "isinstance") (Db K):=h▸xL
noncomputable def Ck:List V->Hp->VK->Prop:=λ xs H Q=>∃ v T k,xs=[v,.ty T]/\Az v T=some k/\Q (.bl k) H
theorem pM:ff X (.builtin "isinstance") Ck:=A0
theorem KE {pos:Pos} {es:List Expr} {k:Nat} {t:yi} {n:Nat} (h:X.K=K) (hc:X.calm=true) (hh:Hy X es t)
 (hn:(assignEach es X.env).length=n) (hst:(assignEach es X.env).findIdx? (·.1)=none):PG X (.Tuple es k pos) (FZ K n t):=h▸Hg hc hh hn hst
theorem Jt {elts:List Expr} {x1} {tpos:Pos} {a:Expr} {ta:TA} {p pos:Pos} (h:X.K=K) (hg:Gl X "enumerate") (hm:X.mg "enumerate" = none) (ha:PA X [a] ta) (hs:starEach [a] X.env=[(false,eval a X.env)]):
 PI X (.Tuple elts x1 tpos) (.Call (.Name "enumerate" p) [a] [] pos) (xR K ta):=h▸B4 hg hm ha hs
variable {o e:Expr} {es:List Expr} {to:TE} {t:TA} {name:Str} {apos cpos:Pos} {T id:String} {r:V->List V->Hp->VK->Prop}
theorem CJ (h:X.K=K) (pa:PlainAttrs T) (slot:Slot T name id) (hty:typeOf (.builtin id)=pure (.type "method_descriptor")) (hm:HV X id r) (ho:PE X o to)
 (hbase:attributeBase o name X.env (eval o X.env)=eval o X.env:=by rfl) (hline:(apos.endLine==cpos.line)=true:=by rfl):PE X (.Call (.Attribute o name apos) [] [] cpos) (CT K T r to):=h▸Ha pa slot hty hm ho hbase hline
theorem Gz (h:X.K=K) (pa:PlainAttrs T) (slot:Slot T name id) (hty:typeOf (.builtin id)=pure (.type "method_descriptor")) (hm:HV X id r) (ho:PE X o to) (ha:PA X (e::es) t)
 (hbase:attributeBase o name X.env (eval o X.env)=eval o X.env:=by rfl)
 (hfew:((backTo cpos (starEach (e::es) X.env)).all (λ x=>!x.1)&&(backToKw cpos (keywordEach [] X.env)).all (λ x=>x.1.isSome)
  && decide ((e::es).length+([]:List Keyword).length+(if ([]:List Keyword).isEmpty then 0 else 1)<30))=true:=by rfl)
 (hline:(apos.endLine==cpos.line)=true:=by rfl) (hs:starEach (e::es) X.env=(false,eval e X.env)::starEach es X.env:=by rfl) (hplain:(backTo cpos (starEach es X.env)).any (·.1)=false:=by rfl):
 PE X (.Call (.Attribute o name apos) (e::es) [] cpos) (Jp K T r to t):=h▸Ie pa slot hty hm ho ha hbase hfew hline hs hplain
end
theorem lE {H:Hp} {p:Addr} (h:H p=none) (o:HO):bE H (d6 H p o):=λ b u q=>by rw [aP (bU q h)];exact q
theorem bE.tup {K:Frag} {H H':Hp} {a:Addr} {xs:List V} (g:bE H H') (q:gU K H a xs):gU K H' a xs:=by
 rcases q with (h | ⟨o,h⟩) | h
 . exact .inl (.inl (g _ _ h))
 . exact .inl (.inr ⟨o,g _ _ h⟩)
 . exact .inr h
noncomputable def Nw (H H':Hp) (p:Addr) (o:HO):Prop:=bE H H'/\H p=none/\H' p=some o
theorem Nw.of {H:Hp} {p:Addr} {o:HO} (h:H p=none):Nw H (d6 H p o) p o:=⟨lE h o,h,aO⟩
noncomputable def z8 (t:TA):TE:=λ σ H Q=>t σ H λ xs H1=>xs.length<=sizeLine/\∀ p H',Nw H1 H' p (.tup xs)->Q (.ref p) H'
noncomputable def wC (t:TA):TE:=λ σ H Q=>t σ H λ xs H1=>xs.length<=sizeLine/\∀ p H',Nw H1 H' p (.lst xs)->Q (.ref p) H'
section
variable {X:Cx} {K:Frag} {es:List Expr} {t:TA} {pos:Pos}
theorem K5 {x1} (h:PA X es t):PE X (.Tuple es x1 pos) (z8 t):=λ pins s σ H Q I hq=>wpAny_Tuple_spliced (cy (h pos pins s σ H _ I hq) λ us s1 ⟨xs,H1,I1,r,z,q⟩=>⟨by rw [<-r.length];exact z,
 .ref s1.heap.objs.size,_,I1.laid (t':=s1.toks) (o:=.tup xs) (λ b u e=>OE _ e) (Ol _) ⟨z,us,r,⟨_,OZ _ rfl,rfl,_,rfl⟩⟩,rfl,q _ _ (.of (I1.hok.fresh (Ol _)))⟩)
theorem JX (h:PA X es t):PE X (.List es pos) (wC t):=λ pins s σ H Q I hq=>wpAny_List_spliced (cy (h pos pins s σ H _ I hq) λ us s1 ⟨xs,H1,I1,r,z,q⟩=>⟨by rw [<-r.length];exact z,
 .ref s1.heap.objs.size,_,I1.laid (t':=s1.toks) (o:=.lst xs) (λ b u e=>OE _ e) (Ol _) ⟨z,us,0,r,OZ _ rfl⟩,rfl,q _ _ (.of (I1.hok.fresh (Ol _)))⟩)
noncomputable def pY (K:Frag):V->Option Int->Option Int->Hp->VK->Prop:=λ x lo hi H Q=>∃ a xs,x=.ref a/\eS K H a xs/\∀ p H',Nw H H' p (.lst (mY xs lo hi))->Q (.ref p) H'
theorem IR (h:X.K=K):Dg X (pY K):=λ pins s σ H x v vl vu lo hi sl Q I rx hs pl pu hy0=>by obtain ⟨a,xs,e,q,r⟩:=hy0;exact AH h pins s σ H x v vl vu lo hi sl Q I rx hs pl pu ⟨a,xs,e,q,λ p hp=>r p _ (.of hp)⟩
noncomputable def Dc (K:Frag):V->Option Int->Option Int->Hp->VK->Prop:=λ x lo hi H Q=>∃ a xs,x=.ref a/\gU K H a xs/\
 ((HT.sIx xs.length 0 lo=0/\HT.sIx xs.length xs.length hi=xs.length/\Q (.ref a) H)∨(¬ (HT.sIx xs.length 0 lo=0/\HT.sIx xs.length xs.length hi=xs.length)/\∀ p H',Nw H H' p (.tup (mY xs lo hi))->Q (.ref p) H'))
theorem wT {prog:Program} {w:World} {A:Around} {E:Value->Shared->Prop} {s:Shared} {a sl:Addr} {its:Array Value} {vl vu:Value} {lo hi:Option Int} {Q:Value->Shared->Prop} (ht:IsTup s.heap a its) (hs:s.heap.IsSliceOf sl vl vu .none) (pl:IsPart vl lo) (pu:IsPart vu hi)
 (h1:HT.sIx its.size 0 lo=0) (h2:HT.sIx its.size its.size hi=its.size) (h:Q (.ref a) s):wpAny (model prog w) A (getItem (.ref a) (.ref sl)) Q E s:=by
 obtain ⟨os,hos,hcs,hds⟩:=id hs;unfold getItem;try with_reducible refine Pa ?_
 first | refine Ov (OL ?_) | skip
 refine Ov (wpAny_sequenceKey ht.typeIs (by decide) (Ov (wpAny_callSpecial?_slot (name:=Str.ofString "__getitem__") ht.typeIs Pe (wpAny_call_entry Pe ht.typeIs entry_tuple_getitem ?_ (args_tuple_getitem _ _)))));show wpAny _ _ (Builtin.Tuple.tupleItemsOf (.ref a) >>= _) _ _ s;refine Ov (PyProof.Rows.tupleItemsOf_ ht (Ov (wpAny_typeOf (show s.TypeIs (.ref sl) "slice" from ⟨os,hos,hcs⟩) ?_)));rw [Oo (by decide)];refine Ov (HT.sliceApplied_gen hs pl pu ?_);have yes:(((HT.sIx its.size 0 lo:Nat):Int)==0&&(1:Int)==1&&(HT.sIx its.size its.size hi-HT.sIx its.size 0 lo)==its.size)=true:=by
  rw [h1,h2];simp
 show wpAny _ _ (if (((HT.sIx its.size 0 lo:Nat):Int)==0&&(1:Int)==1&&(HT.sIx its.size its.size hi-HT.sIx its.size 0 lo)==its.size)=true then _ else _) _ _ s;rw [Oo yes];refine Ov ?_;unfold Builtin.Tuple.tupleIsExact;refine Ov (wpAny_typeOf ht.typeIs (OL ?_));rw [Oo (by decide)];exact Ov (wpAny_rule (OL ⟨_,rfl,OL h⟩))
theorem Ke (h:X.K=K):Dg X (Dc K):=by
 intro pins s σ H x v vl vu lo hi sl Q I rx hs pl pu q;obtain ⟨a,xs,e,hx,q | q⟩:=q
 . subst h e;cases rx;obtain ⟨its,r,ht,hz⟩:=I.tuple hx;have hlen:its.toArray.size=xs.length:=by rw [OB];exact r.length.symm
   exact ⟨"tuple", _,Pe.lookup,ht.typeIs,wT ht hs pl pu (by rw [hlen];exact q.1) (by rw [hlen];exact q.2.1) ⟨.ref a,H,I,rfl,q.2.2⟩⟩
 . exact AU h pins s σ H x v vl vu lo hi sl Q I rx hs pl pu ⟨a,xs,e,hx,q.1,λ p hp=>q.2 p _ (.of hp)⟩
end
section
variable {X:Cx} {K:Frag}
theorem Kq {o i e:Expr} {to ti te:TE} {pos tpos:Pos} (he:PE X e te) (ho:PE X o to) (hi:PE X i ti)
 (ha:∀ v,assign (.Subscript o i tpos) X.env v=(do
  let ov <-holding [v] (eval o X.env);let iv <-holding [v,ov] (eval i X.env)
  standAt tpos
  holding [v,ov,iv] (setItem ov iv v)
  release [v,ov,iv] [])) (hs:swapsWithSole [.Subscript o i tpos] e pos.line X.env=pure false) (hw:swappedStores [.Subscript o i tpos] e X.env=pure none):PS X (.Assign [.Subscript o i tpos] e pos) (uH te (GO to ti yx)):=Et he (Fc ho hi ya ha) hs hw
end
noncomputable def wH:Value->Option Str
 | .str x _=>some x
 | _=>none
noncomputable def CO (us:List Value) (ws:List Str):Bool:=decide (us.map wH=ws.map some)
theorem xa {u:Value} {y:Str} (h:wH u=some y):bq (.str y) u:=by
 unfold wH at h;split at h
 . cases h;exact ⟨_,rfl⟩
 . cases h
theorem kW:∀ {us:List Value} {ws:List Str},us.map wH=ws.map some->be (ws.map V.str) us
 | [],[],_=>.nil
 | u::r,y::s,h=>by
  simp only [OQ,List.cons.injEq] at h;exact .cons (xa h.1) (kW h.2)
 | [],_::_,h=>by simp at h
 | _::_,[],h=>by simp at h
noncomputable def uQ (o:Obj) (ws:List Str):Bool:=match o.data with
 | .seq its _=>CO its.toList ws&&decide (its.size<=1000)
 | _=>false
theorem xG {K:Frag} {H:Hp} {a:Addr} {o:Obj} {ws:List Str} (h:K.lookup a=some o) (hc:o.cls=.type "tuple") (ht:uQ o ws=true):gU K H a (ws.map V.str):=by
 unfold uQ at ht;split at ht
 . rename_i its n e;rw [OD] at ht;exact .inr ⟨o,its,n,h,hc,e,Ps (x6 (by simpa using ht.2)),kW (PL ht.1)⟩
 . cases ht
section
variable {K:Frag} {x D:Addr} {prog:Program} {w:World} {A:Around} {E:Value->Shared->Prop} {s:Shared}
end
section
variable {X:Cx} {K:Frag}
end
section
variable {P:Program} {w:World} {A:Around} {E:Value->Shared->Prop} {s:Shared}
end
section
variable {X:Cx} {K:Frag}
end
section
variable {K:Frag} {a b:Addr} {xs ys:List V} {wi:TI} {g:TG} {σ:St} {H H1:Hp} {ix:List (Option Nat)} {tc:TT} {te:TE} {Q:VK}
end
section
variable {K:Frag} {a:Addr} {xs:List V} {wi:TI} {g:TG} {σ:St} {H H1:Hp} {ix:List (Option Nat)} {tc:TT} {te:TE} {Q:VK}
end
inductive W where
 | none | bool (b:Bool) | int (i:Int) | str (x:Str) | list (ds:List W) | tuple (ds:List W) | ref (n:Nat)
mutual
inductive Dw (K:Frag) (ρ:List Addr) (H:Hp):V->W->Prop
 | non:Dw K ρ H .non .none
 | bl (b:Bool):Dw K ρ H (.bl b) (.bool b)
 | int (i:Int):Dw K ρ H (.int i) (.int i)
 | str (x:Str):Dw K ρ H (.str x) (.str x)
 | lst {a:Addr} {xs:List V} {ds:List W}:eS K H a xs->aC K ρ H xs ds->Dw K ρ H (.ref a) (.list ds)
 | tup {a:Addr} {xs:List V} {ds:List W}:H a=some (.tup xs)->aC K ρ H xs ds->Dw K ρ H (.ref a) (.tuple ds)
 | ref {a:Addr} {n:Nat}:ρ[n]?=some a->Dw K ρ H (.ref a) (.ref n)
inductive aC (K:Frag) (ρ:List Addr) (H:Hp):List V->List W->Prop
 | nil:aC K ρ H [] []
 | cons {v:V} {vs:List V} {d:W} {ds:List W}:Dw K ρ H v d->aC K ρ H vs ds->aC K ρ H (v::vs) (d::ds)
end
theorem Dw.mapG {K:Frag} {ρ ρ':List Addr} {H H':Hp} (hs:∀ a xs,eS K H a xs->eS K H' a xs) (ht:∀ a xs,H a=some (.tup xs)->H' a=some (.tup xs)) (hr:∀ (n:Nat) (a:Addr),ρ[n]?=some a->ρ'[n]?=some a) {v:V} {d:W} (h:Dw K ρ H v d):Dw K ρ' H' v d:=
 Dw.rec (motive_1:=λ v d _=>Dw K ρ' H' v d) (motive_2:=λ vs ds _=>aC K ρ' H' vs ds) .non .bl .int .str (λ q _ ih=>.lst (hs _ _ q) ih) (λ q _ ih=>.tup (ht _ _ q) ih) (λ e=>.ref (hr _ _ e)) .nil (λ _ _ a b=>.cons a b) h
theorem aC.ind {K:Frag} {ρ:List Addr} {H:Hp} {M:List V->List W->Prop} (h0:M [] []) (h1:∀ v vs d ds,Dw K ρ H v d->M vs ds->M (v::vs) (d::ds)) {vs:List V} {ds:List W} (h:aC K ρ H vs ds):M vs ds:=
 aC.rec (motive_1:=λ _ _ _=>True) (motive_2:=λ vs ds _=>M vs ds) trivial (λ _=>trivial) (λ _=>trivial) (λ _=>trivial) (λ _ _ _=>trivial) (λ _ _ _=>trivial) (λ _=>trivial) h0 (λ a _ _ ih=>h1 _ _ _ _ a ih) h
theorem Dw.same {K:Frag} {ρ:List Addr} {H H':Hp} (g:bE H H') {v:V} {d:W} (h:Dw K ρ H v d):Dw K ρ H' v d:=h.mapG (λ _ _ q=>g.seq q) (λ _ _ q=>g _ _ q) λ _ _ e=>e
theorem aC.mapA {K:Frag} {ρ ρ':List Addr} {H H':Hp} (f:∀ v d,Dw K ρ H v d->Dw K ρ' H' v d) {vs:List V} {ds:List W} (h:aC K ρ H vs ds):aC K ρ' H' vs ds:=h.ind (M:=λ vs ds=>aC K ρ' H' vs ds) .nil λ _ _ _ _ a b=>.cons (f _ _ a) b
theorem aC.same {K:Frag} {ρ:List Addr} {H H':Hp} (g:bE H H') {vs:List V} {ds:List W} (h:aC K ρ H vs ds):aC K ρ H' vs ds:=h.mapA λ _ _ a=>a.same g
mutual
noncomputable def W.py:W->Option PyData
 | .none=>some .none
 | .bool b=>some (.bool b)
 | .int i=>some (.int i)
 | .str x=>some (.str x)
 | .list ds=>(W.pys ds).map .list
 | .tuple ds=>(W.pys ds).map .tuple
 | .ref _=>Option.none
noncomputable def W.pys:List W->Option (List PyData)
 | []=>some []
 | d::ds=>(W.py d).bind λ x=>(W.pys ds).map (x::·)
end
theorem Dw.dp {K:Frag} {ρ:List Addr} {H:Hp} {v:V} {d:W} {x:PyData} (h:Dw K ρ H v d):d.py=some x->Dp K H v x:=
 Dw.rec (motive_1:=λ v d _=>∀ x,d.py=some x->Dp K H v x) (motive_2:=λ vs ds _=>∀ xs,W.pys ds=some xs->mL K H vs xs)
  (λ x e=>by cases e;exact .non) (λ b x e=>by cases e;exact .bl b) (λ i x e=>by cases e;exact .int i) (λ y x e=>by cases e;exact .str y)
  (λ q _ ih x e=>by
   obtain ⟨xs,e1,rfl⟩:=oM e
   exact .lst q (ih _ e1))
  (λ q _ ih x e=>by
   obtain ⟨xs,e1,rfl⟩:=oM e
   exact .tup (gU.of q) (ih _ e1))
  (λ _ x e=>by cases e) (λ xs e=>by cases e;exact .nil)
  (λ _ _ ih1 ih2 xs e=>by
   obtain ⟨x,e1,e⟩:=oB e
   obtain ⟨ys,e2,rfl⟩:=oM e
   exact .cons (ih1 _ e1) (ih2 _ e2)) h x
inductive Sl where
 | no
 | val (d:W)
 | own (ds:List W)
noncomputable abbrev DS:=List Sl
noncomputable def uY (K:Frag) (ρ:List Addr) (G H:Hp):Sl->Option V->Prop
 | .no,_=>True
 | .val d,o=>∃ v,o=some v/\Dw K ρ G v d
 | .own ds,o=>∃ p vs,o=some (.ref p)/\G p=none/\H p=some (.lst vs)/\aC K ρ G vs ds
noncomputable def nT (H:Hp) (b:Addr):Prop:=H b≠none/\∀ xs,H b≠some (.tup xs)
theorem nT.of {H:Hp} {b:Addr} {o:HO} (h:H b=some o) (n:∀ xs,o≠.tup xs):nT H b:=⟨by rw [h];exact nofun,λ xs z=>n xs (by rw [h] at z;cases z;rfl)⟩
theorem nT.l {H:Hp} {b:Addr} {vs:List V} (h:H b=some (.lst vs)):nT H b:=.of h λ _ z=>by cases z
theorem nT.same {H H':Hp} {b:Addr} (x:nT H b) (s:bE H H'):nT H' b:=by
 cases q:H b with
 | none=>exact absurd q x.1
 | some o=>exact .of (s b o q) λ xs z=>x.2 xs (by rw [q,z])
structure Gr (G H G' H':Hp):Prop where
 g:bE G G'
 h:bE H H'
 s:bE G' H'
 n:∀ b,nT H b->G b=none->G' b=none
theorem rh {H H':Hp} (s:bE H H') {b:Addr} (h:H b≠none):H' b≠none:=λ e=>by
 cases q:H b with
 | none=>exact h q
 | some o=>
  have:=s b o q;rw [e] at this;cases this
theorem gZ {G H:Hp} (s:bE G H) {b:Addr} (h:H b=none):G b=none:=by
 cases q:G b with
 | none=>rfl
 | some o=>
  have:=s b o q;rw [h] at this;cases this
theorem Gr.refl {G H:Hp} (s:bE G H):Gr G H G H:=⟨.refl _,.refl _,s,λ _ _ h=>h⟩
theorem Gr.trans {G H G1 H1 G2 H2:Hp} (a:Gr G H G1 H1) (b:Gr G1 H1 G2 H2):Gr G H G2 H2:=
 ⟨a.g.trans b.g,a.h.trans b.h,b.s,λ c h1 h2=>b.n c (h1.same a.h) (a.n c h1 h2)⟩
theorem pR {G H':Hp} {p:Addr} {o:HO} (s:bE G H') (h:H' p=some o):bE (d6 G p o) H':=λ b u e=>by
 by_cases hb:b=p
 . subst hb;rw [aO] at e;cases e;exact h
 . rw [aP hb] at e;exact s _ _ e
theorem Gr.new {G H G' H':Hp} {p:Addr} {o:HO} (a:Gr G H G' H') (h0:H p=none) (g0:G' p=none) (h:H' p=some o):Gr G H (d6 G' p o) H':=
 ⟨a.g.trans (lE g0 o),a.h,pR a.s h,λ b h1 h2=>by
  rw [aP (λ e=>h1.1 (by rw [e];exact h0))];exact a.n b h1 h2⟩
theorem Gr.nw {G H H':Hp} {p:Addr} {o:HO} (s:bE G H) (n:Nw H H' p o):Gr G H (d6 G p o) H':=
 Gr.new ⟨.refl _,n.1,s.trans n.1,λ _ _ h=>h⟩ n.2.1 (gZ s n.2.1) n.2.2
theorem Gr.nwO {G H H':Hp} {p:Addr} {o:HO} (s:bE G H) (n:Nw H H' p o):Gr G H G H':=⟨.refl _,n.1,s.trans n.1,λ _ _ h=>h⟩
structure Rl (K:Frag) (ρ:List Addr) (G H:Hp) (δ:DS) (σ:St):Prop where
 sub:bE G H
 len:δ.length=σ.length
 sl:∀ (i:Nat) s,δ[i]?=some s->∃ o,σ[i]?=some o/\uY K ρ G H s o
 apart:∀ (i j:Nat) p ds es,δ[i]?=some (.own ds)->δ[j]?=some (.own es)->σ[i]?=some (some (.ref p))->σ[j]?=some (some (.ref p))->i=j
theorem uY.grow {K:Frag} {ρ:List Addr} {G H G' H':Hp} (g:Gr G H G' H') {s:Sl} {o:Option V} (h:uY K ρ G H s o):uY K ρ G' H' s o:=by
 cases s with
 | no=>exact trivial
 | val d=>
  obtain ⟨v,e,h⟩:=h;exact ⟨v,e,h.same g.g⟩
 | own ds=>
  obtain ⟨p,vs,e,h1,h2,h3⟩:=h;exact ⟨p,vs,e,g.n p (.l h2) h1,g.h _ _ h2,h3.same g.g⟩
theorem Rl.grow {K:Frag} {ρ:List Addr} {G H G' H':Hp} {δ:DS} {σ:St} (R:Rl K ρ G H δ σ) (g:Gr G H G' H'):Rl K ρ G' H' δ σ:=
 ⟨g.s,R.len,λ i s e=>by
  obtain ⟨o,h1,h2⟩:=R.sl i s e;exact ⟨o,h1,h2.grow g⟩,R.apart⟩
theorem fB {α:Type} {xs:List α} {i j:Nat} {a b:α} (h:(xs.set i a)[j]?=some b):(i=j/\a=b/\j<xs.length)∨(i≠j/\xs[j]?=some b):=by
 by_cases e:i=j
 . subst e;rw [List.getElem?_set] at h;simp only [OS] at h;split at h
   . rename_i hl;cases h;exact .inl ⟨rfl,rfl,hl⟩
   . cases h
 . rw [OI e] at h;exact .inr ⟨e,h⟩
theorem lR {α:Type} {xs:List α} {i:Nat} {a:α} (h:i<xs.length):(xs.set i a)[i]?=some a:=by
 rw [List.getElem?_set];simp [h]
noncomputable def gS (δ':DS) (σ':St) (δ:DS) (σ:St):Prop:=∀ (i:Nat) ds p,δ'[i]?=some (.own ds)->σ'[i]?=some (some (.ref p))->∃ es,δ[i]?=some (.own es)/\σ[i]?=some (some (.ref p))
theorem gS.refl (δ:DS) (σ:St):gS δ σ δ σ:=λ i ds p h1 h2=>⟨ds,h1,h2⟩
theorem gS.trans {δ δ1 δ2:DS} {σ σ1 σ2:St} (a:gS δ2 σ2 δ1 σ1) (b:gS δ1 σ1 δ σ):gS δ2 σ2 δ σ:=λ i ds p h1 h2=>by
 obtain ⟨es,h3,h4⟩:=a i ds p h1 h2;exact b i es p h3 h4
theorem ku {δ:DS} {σ:St} {i:Nat} {d:W} {v:V} (h:δ.length=σ.length):gS (δ.set i (.val d)) (σ.set i (some v)) δ σ:=λ j ds p h1 h2=>by
 rcases fB h1 with ⟨_,e,_⟩ | ⟨ne,h1⟩
 . cases e
 . rw [OI ne] at h2;exact ⟨ds,h1,h2⟩
theorem Rl.set {K:Frag} {ρ:List Addr} {G H:Hp} {δ:DS} {σ:St} {i:Nat} {d:W} {v:V} (R:Rl K ρ G H δ σ) (h:Dw K ρ G v d):Rl K ρ G H (δ.set i (.val d)) (σ.set i (some v)):=
 ⟨R.sub,by rw [Pd,Pd];exact R.len,λ j s e=>by
  rcases fB e with ⟨rfl,rfl,hl⟩ | ⟨ne,e⟩
  . exact ⟨_,lR (by rw [<-R.len];exact hl),v,rfl,h⟩
  . rw [OI ne];exact R.sl j s e,λ j k p ds es h1 h2 h3 h4=>by
  obtain ⟨ds',a1,a2⟩:=ku (v:=v) R.len j ds p h1 h3;obtain ⟨es',b1,b2⟩:=ku (v:=v) R.len k es p h2 h4;exact R.apart j k p _ _ a1 b1 a2 b2⟩
theorem Rl.setO {K:Frag} {ρ:List Addr} {G H:Hp} {δ:DS} {σ:St} {i:Nat} {ds:List W} {p:Addr} {vs:List V} (R:Rl K ρ G H δ σ) (g0:G p=none) (h:H p=some (.lst vs)) (hd:aC K ρ G vs ds)
 (hn:∀ (j:Nat) es,j≠i->δ[j]?=some (.own es)->σ[j]?≠some (some (.ref p))):Rl K ρ G H (δ.set i (.own ds)) (σ.set i (some (.ref p))):=
 ⟨R.sub,by rw [Pd,Pd];exact R.len,λ j s e=>by
  rcases fB e with ⟨rfl,rfl,hl⟩ | ⟨ne,e⟩
  . exact ⟨_,lR (by rw [<-R.len];exact hl),p,vs,rfl,g0,h,hd⟩
  . rw [OI ne];exact R.sl j s e,λ j k q ds' es' h1 h2 h3 h4=>by
  rcases fB h1 with ⟨rfl,_,hl⟩ | ⟨ne,h1⟩ <;> rcases fB h2 with ⟨rfl,_,hl2⟩ | ⟨ne2,h2⟩
  . rfl
  . rw [lR (by rw [<-R.len];exact hl)] at h3;rw [OI ne2] at h4;cases h3;exact absurd h4 (hn k es' (Pt ne2) h2)
  . rw [lR (by rw [<-R.len];exact hl2)] at h4;rw [OI ne] at h3;cases h4;exact absurd h3 (hn j ds' (Pt ne) h1)
  . rw [OI ne] at h3;rw [OI ne2] at h4;exact R.apart j k q _ _ h1 h2 h3 h4⟩
noncomputable def DE (K:Frag) (ρ:List Addr) (t:TE) (f:DS->Option W):Prop:=
 ∀ (G:Hp) (σ:St) (H:Hp) (δ:DS) (d:W) (Q:VK),Rl K ρ G H δ σ->f δ=some d->(∀ v G' H',Gr G H G' H'->Dw K ρ G' v d->Q v H')->t σ H Q
noncomputable def DA (K:Frag) (ρ:List Addr) (t:TA) (f:DS->Option (List W)):Prop:=
 ∀ (G:Hp) (σ:St) (H:Hp) (δ:DS) (ds:List W) (Q:List V->Hp->Prop),Rl K ρ G H δ σ->f δ=some ds->(∀ vs G' H',Gr G H G' H'->aC K ρ G' vs ds->Q vs H')->t σ H Q
noncomputable def DT (K:Frag) (ρ:List Addr) (t:TT) (f:DS->Option Bool):Prop:=
 ∀ (G:Hp) (σ:St) (H:Hp) (δ:DS) (b:Bool) (Q:Bool->Hp->Prop),Rl K ρ G H δ σ->f δ=some b->(∀ G' H',Gr G H G' H'->Q b H')->t σ H Q
noncomputable def DO (K:Frag) (ρ:List Addr) (t:TE) (f:DS->Option (List W)):Prop:=
 ∀ (G:Hp) (σ:St) (H:Hp) (δ:DS) (ds:List W) (Q:VK),Rl K ρ G H δ σ->f δ=some ds->(∀ p vs G' H',Gr G H G' H'->H p=none->G' p=none->H' p=some (.lst vs)->aC K ρ G' vs ds->Q (.ref p) H')->t σ H Q
noncomputable def Pk (K:Frag) (ρ:List Addr) (G H:Hp) (v:V) (d:W):Prop:=Dw K ρ G v d∨∃ p vs ds,v=.ref p/\d=.list ds/\H p=some (.lst vs)/\aC K ρ G vs ds
noncomputable def DK (K:Frag) (ρ:List Addr) (t:TE) (f:DS->Option W):Prop:=
 ∀ (G:Hp) (σ:St) (H:Hp) (δ:DS) (d:W) (Q:VK),Rl K ρ G H δ σ->f δ=some d->(∀ v G' H',Gr G H G' H'->Pk K ρ G' H' v d->Q v H')->t σ H Q
section
variable {K:Frag} {ρ:List Addr}
theorem Pk.dp {G H:Hp} {v:V} {d:W} (s:bE G H) (h:Pk K ρ G H v d):Dw K ρ H v d:=by
 rcases h with h | ⟨p,vs,ds,rfl,rfl,h1,h2⟩
 . exact h.same s
 . exact .lst (eS.of h1) (h2.same s)
theorem Pk.grow {G H G' H':Hp} {v:V} {d:W} (g:Gr G H G' H') (h:Pk K ρ G H v d):Pk K ρ G' H' v d:=by
 rcases h with h | ⟨p,vs,ds,rfl,rfl,h1,h2⟩
 . exact .inl (h.same g.g)
 . exact .inr ⟨p,vs,ds,rfl,rfl,g.h _ _ h1,h2.same g.g⟩
theorem DE.dk {t:TE} {f:DS->Option W} (h:DE K ρ t f):DK K ρ t f:=λ G σ H δ d Q R e q=>h G σ H δ d Q R e λ v G' H' g dv=>q v G' H' g (.inl dv)
noncomputable def dt (f:DS->Option (List W)):DS->Option W:=λ δ=>(f δ).map .list
theorem DO.de {t:TE} {f:DS->Option (List W)} (h:DO K ρ t f):DE K ρ t (dt f):=λ G σ H δ d Q R e q=>by
 obtain ⟨ds,e1,rfl⟩:=oM e
 exact h G σ H δ ds Q R e1 λ p vs G' H' g h0 g0 hh da=>q _ _ H' (g.new h0 g0 hh) (.lst (eS.of aO) (da.same (lE g0 _)))
noncomputable def ae (i:Nat):DS->Option W:=λ δ=>match δ[i]? with
 | some (.val d)=>some d
 | _=>none
theorem Hd {i:Nat}:DE K ρ (AY i) (ae i):=λ G σ H δ d Q R e q=>by
 unfold ae at e;split at e
 . rename_i d' h;cases e;obtain ⟨o,h1,v,h2,h3⟩:=R.sl i _ h;exact ⟨v,by rw [h1,h2],q v G H (.refl R.sub) h3⟩
 . cases e
noncomputable def ax (i:Nat):DS->Option W:=λ δ=>match δ[i]? with
 | some (.val d)=>some d
 | some (.own ds)=>some (.list ds)
 | _=>none
theorem Gn {i:Nat}:DK K ρ (AY i) (ax i):=λ G σ H δ d Q R e q=>by
 unfold ax at e;split at e
 . rename_i d' h;cases e;obtain ⟨o,h1,v,h2,h3⟩:=R.sl i _ h;exact ⟨v,by rw [h1,h2],q v G H (.refl R.sub) (.inl h3)⟩
 . rename_i ds h;cases e;obtain ⟨o,h1,p,vs,h2,h3,h4,h5⟩:=R.sl i _ h;exact ⟨.ref p,by rw [h1,h2],q _ G H (.refl R.sub) (.inr ⟨p,vs,ds,rfl,rfl,h4,h5⟩)⟩
 . cases e
noncomputable def dC (d:W):DS->Option W:=λ _=>some d
theorem Cp {v:V} {d:W} (h:∀ G,Dw K ρ G v d):DE K ρ (tC v) (dC d):=λ G σ H δ d' Q R e q=>by
 cases e;exact q v G H (.refl R.sub) (h G)
theorem Ew {i:Int}:DE K ρ (tC (.int i)) (dC (.int i)):=Cp λ _=>.int i
theorem HF {b:Bool}:DE K ρ (tC (.bl b)) (dC (.bool b)):=Cp λ _=>.bl b
theorem Hl {x:Str}:DE K ρ (tC (.str x)) (dC (.str x)):=Cp λ _=>.str x
theorem GF:DE K ρ (tC .non) (dC .none):=Cp λ _=>.non
noncomputable def DR (K:Frag) (ρ:List Addr) (r:R2) (g:W->W->Option W):Prop:=
 ∀ (G H:Hp) (x y:V) (d e c:W) (Q:VK),bE G H->Pk K ρ G H x d->Dw K ρ G y e->g d e=some c->(∀ v G' H',Gr G H G' H'->Dw K ρ G' v c->Q v H')->r x y H Q
noncomputable def aA (g:W->W->Option W) (fa fb:DS->Option W):DS->Option W:=λ δ=>(fa δ).bind λ x=>(fb δ).bind λ y=>g x y
theorem Ih {r:R2} {ta tb:TE} {fa fb:DS->Option W} {g:W->W->Option W} (hr:DR K ρ r g) (ha:DK K ρ ta fa) (hb:DE K ρ tb fb):DE K ρ (pP r ta tb) (aA g fa fb):=λ G σ H δ d Q R e q=>by
 obtain ⟨x,ex,e⟩:=oB e
 obtain ⟨y,ey,e⟩:=oB e
 exact ha G σ H δ x _ R ex λ v G1 H1 g1 dv=>hb G1 σ H1 δ y _ (R.grow g1) ey λ u G2 H2 g2 du=>hr G2 H2 v u x y d Q g2.s (dv.grow g2) du e λ w G3 H3 g3 dw=>q w G3 H3 (g1.trans (g2.trans g3)) dw
noncomputable def DB (K:Frag) (ρ:List Addr) (r:R2) (g:W->W->Option Bool):Prop:=
 ∀ (H:Hp) (x y:V) (d e:W) (b:Bool) (Q:VK),Dw K ρ H x d->Dw K ρ H y e->g d e=some b->Q (.bl b) H->r x y H Q
noncomputable def aw (g:W->W->Option Bool) (fa fb:DS->Option W):DS->Option Bool:=λ δ=>(fa δ).bind λ x=>(fb δ).bind λ y=>g x y
noncomputable def dB (f:DS->Option Bool):DS->Option W:=λ δ=>(f δ).map .bool
theorem qA {r:R2} {ta tb:TE} {fa fb:DS->Option W} {g:W->W->Option Bool} (hr:DB K ρ r g) (ha:DK K ρ ta fa) (hb:DK K ρ tb fb) {G:Hp} {σ:St} {H:Hp} {δ:DS} {b:Bool} {Q:VK} (R:Rl K ρ G H δ σ) (e:aw g fa fb δ=some b) (q:∀ G' H',Gr G H G' H'->Q (.bl b) H'):pP r ta tb σ H Q:=by
 obtain ⟨x,ex,e⟩:=oB e
 obtain ⟨y,ey,e⟩:=oB e
 exact ha G σ H δ x _ R ex λ v G1 H1 g1 dv=>hb G1 σ H1 δ y _ (R.grow g1) ey λ u G2 H2 g2 du=>hr H2 v u x y b Q ((dv.grow g2).dp g2.s) (du.dp g2.s) e (q G2 H2 (g1.trans g2))
theorem Ge {r:R2} {ta tb:TE} {fa fb:DS->Option W} {g:W->W->Option Bool} (hr:DB K ρ r g) (ha:DK K ρ ta fa) (hb:DK K ρ tb fb):DE K ρ (pP r ta tb) (dB (aw g fa fb)):=λ G σ H δ d Q R e q=>by
 obtain ⟨b,e1,rfl⟩:=oM e
 exact qA hr ha hb R e1 λ G' H' g=>q _ G' H' g (.bl b)
theorem Go {r:R2} {ta tb:TE} {fa fb:DS->Option W} {g:W->W->Option Bool} (hr:DB K ρ r g) (ha:DK K ρ ta fa) (hb:DK K ρ tb fb):DT K ρ (lI (pP r ta tb)) (aw g fa fb):=λ G σ H δ b Q R e q=>
 qA hr ha hb R e λ G' H' g=>⟨b,rfl,q G' H' g⟩
noncomputable def AS:W->Option Bool
 | .bool b=>some b
 | _=>none
noncomputable def pB (f:DS->Option W):DS->Option Bool:=λ δ=>(f δ).bind AS
theorem u9 {d:W} {b:Bool} (h:AS d=some b):d=.bool b:=by
 cases d <;> first | (cases h;rfl) | cases h
theorem Fv {t:TE} {f:DS->Option W} (h:DE K ρ t f):DT K ρ (tB t) (pB f):=λ G σ H δ b Q R e q=>by
 obtain ⟨x,ex,e⟩:=oB e
 cases u9 e;exact h G σ H δ _ _ R ex λ v G1 H1 g1 dv=>by
  cases dv;exact ⟨b,rfl,q G1 H1 g1⟩
noncomputable def kC (f g:DS->Option Bool):DS->Option Bool:=λ δ=>(f δ).bind λ b=>if b=true then g δ else some false
noncomputable def jw (f g:DS->Option Bool):DS->Option Bool:=λ δ=>(f δ).bind λ b=>if b=true then some true else g δ
noncomputable def xJ (f:DS->Option Bool):DS->Option Bool:=λ δ=>(f δ).map (!·)
theorem EU {t u:TT} {f g:DS->Option Bool} (h1:DT K ρ t f) (h2:DT K ρ u g):DT K ρ (Ez t u) (kC f g):=λ G σ H δ b Q R e q=>by
 obtain ⟨x,ex,e⟩:=oB e
 refine h1 G σ H δ x _ R ex λ G1 H1 g1=>?_;cases x with
 | true=>exact h2 G1 σ H1 δ b Q (R.grow g1) e λ G2 H2 g2=>q G2 H2 (g1.trans g2)
 | false=>cases e;exact q G1 H1 g1
theorem Jo {t u:TT} {f g:DS->Option Bool} (h1:DT K ρ t f) (h2:DT K ρ u g):DT K ρ (Mh t u) (jw f g):=λ G σ H δ b Q R e q=>by
 obtain ⟨x,ex,e⟩:=oB e
 refine h1 G σ H δ x _ R ex λ G1 H1 g1=>?_;cases x with
 | false=>exact h2 G1 σ H1 δ b Q (R.grow g1) e λ G2 H2 g2=>q G2 H2 (g1.trans g2)
 | true=>cases e;exact q G1 H1 g1
theorem E9 {t:TT} {f:DS->Option Bool} (h:DT K ρ t f):DT K ρ (GD t) (xJ f):=λ G σ H δ b Q R e q=>by
 obtain ⟨x,ex,rfl⟩:=oM e
 exact h G σ H δ x _ R ex q
noncomputable def Ik (f g:DS->Option W):DS->Option W:=λ δ=>(f δ).bind λ x=>(AS x).bind λ b=>if b=true then g δ else some (.bool false)
noncomputable def KZ (f g:DS->Option W):DS->Option W:=λ δ=>(f δ).bind λ x=>(AS x).bind λ b=>if b=true then some (.bool true) else g δ
noncomputable def Jq (f:DS->Option W):DS->Option W:=λ δ=>(f δ).bind λ x=>(AS x).map λ b=>.bool (!b)
noncomputable def Hv (c:DS->Option Bool) (f g:DS->Option W):DS->Option W:=λ δ=>(c δ).bind λ b=>if b=true then f δ else g δ
theorem Iq {tc:TT} {t u:TE} {c:DS->Option Bool} {f g:DS->Option W} (hc:DT K ρ tc c) (h1:DE K ρ t f) (h2:DE K ρ u g):DE K ρ (Mi tc t u) (Hv c f g):=λ G σ H δ d Q R e q=>by
 obtain ⟨b,eb,e⟩:=oB e
 refine hc G σ H δ b _ R eb λ G1 H1 g1=>?_;cases b with
 | true=>exact h1 G1 σ H1 δ d Q (R.grow g1) e λ v G2 H2 g2 dv=>q v G2 H2 (g1.trans g2) dv
 | false=>exact h2 G1 σ H1 δ d Q (R.grow g1) e λ v G2 H2 g2 dv=>q v G2 H2 (g1.trans g2) dv
noncomputable def aj:DS->Option (List W):=λ _=>some []
noncomputable def af (f:DS->Option W) (g:DS->Option (List W)):DS->Option (List W):=λ δ=>(f δ).bind λ d=>(g δ).map (d::·)
theorem EZ:DA K ρ md aj:=λ G σ H δ ds Q R e q=>by
 cases e;exact q [] G H (.refl R.sub) .nil
theorem CA {t:TE} {u:TA} {f:DS->Option W} {g:DS->Option (List W)} (h1:DE K ρ t f) (h2:DA K ρ u g):DA K ρ (i9 t u) (af f g):=λ G σ H δ ds Q R e q=>by
 obtain ⟨d,ed,e⟩:=oB e
 obtain ⟨es,ee,rfl⟩:=oM e
 exact h1 G σ H δ d _ R ed λ v G1 H1 g1 dv=>h2 G1 σ H1 δ es _ (R.grow g1) ee λ vs G2 H2 g2 da=>q _ G2 H2 (g1.trans g2) (.cons (dv.same g2.g) da)
theorem aC.length {G:Hp} {vs:List V} {ds:List W} (h:aC K ρ G vs ds):vs.length=ds.length:=h.ind (M:=λ vs ds=>vs.length=ds.length) rfl λ _ _ _ _ _ e=>Om (· + 1) e
theorem aC.get {G:Hp} {vs:List V} {ds:List W} {i:Nat} {d:W} (h:aC K ρ G vs ds):ds[i]?=some d->∃ v,vs[i]?=some v/\Dw K ρ G v d:=
 h.ind (M:=λ vs ds=>∀ (i:Nat) d,ds[i]?=some d->∃ v,vs[i]?=some v/\Dw K ρ G v d) (λ _ _ e=>by cases e) (λ v _ _ _ a ih i d e=>by
  cases i with
  | zero=>cases e;exact ⟨v,rfl,a⟩
  | succ i=>exact ih i d e) i d
theorem aC.app {G:Hp} {vs ws:List V} {ds es:List W} (h:aC K ρ G vs ds) (h':aC K ρ G ws es):aC K ρ G (vs++ws) (ds++es):=h.ind (M:=λ vs ds=>aC K ρ G (vs++ws) (ds++es)) h' λ _ _ _ _ a ih=>.cons a ih
theorem aC.drop {G:Hp} {vs:List V} {ds:List W} (n:Nat) (h:aC K ρ G vs ds):aC K ρ G (vs.drop n) (ds.drop n):=by
 induction n generalizing vs ds with
 | zero=>exact h
 | succ n ih=>
  cases h with
  | nil=>exact .nil
  | cons _ t=>exact ih t
theorem aC.take {G:Hp} {vs:List V} {ds:List W} (n:Nat) (h:aC K ρ G vs ds):aC K ρ G (vs.take n) (ds.take n):=by
 induction n generalizing vs ds with
 | zero=>exact .nil
 | succ n ih=>
  cases h with
  | nil=>exact .nil
  | cons a t=>exact .cons a (ih t)
theorem aC.set {G:Hp} {v:V} {d:W} (h:Dw K ρ G v d):∀ {vs:List V} {ds:List W} (n:Nat),aC K ρ G vs ds->aC K ρ G (vs.set n v) (ds.set n d):=λ {vs ds} n q=>by
 induction n generalizing vs ds with
 | zero=>
  cases q with
  | nil=>exact .nil
  | cons _ t=>exact .cons h t
 | succ n ih=>
  cases q with
  | nil=>exact .nil
  | cons a t=>exact .cons a (ih t)
theorem aC.ints {G:Hp}:∀ (ns:List Int),aC K ρ G (ns.map V.int) (ns.map .int)
 | []=>.nil
 | n::r=>.cons (.int n) (aC.ints r)
noncomputable def bv (f:DS->Option (List W)):DS->Option W:=λ δ=>(f δ).bind λ ds=>if ds.length<=sizeLine then some (.tuple ds) else none
theorem E5 {t:TA} {f:DS->Option (List W)} (h:DA K ρ t f):DE K ρ (z8 t) (bv f):=λ G σ H δ d Q R e q=>by
 obtain ⟨ds,e1,e⟩:=oB e
 split at e
 . rename_i hz;cases e;refine h G σ H δ ds _ R e1 λ vs G1 H1 g1 da=>⟨by rw [da.length];exact hz,λ p H' n=>?_⟩
   have g2:=Gr.nw g1.s n;exact q _ _ H' (g1.trans g2) (.tup aO (da.same g2.g))
 . cases e
noncomputable def dD (f:DS->Option (List W)):DS->Option (List W):=λ δ=>(f δ).bind λ ds=>if ds.length<=sizeLine then some ds else none
theorem GU {t:TA} {f:DS->Option (List W)} (h:DA K ρ t f):DO K ρ (wC t) (dD f):=λ G σ H δ ds Q R e q=>by
 obtain ⟨ds',e1,e⟩:=oB e
 split at e
 . rename_i hz;cases e;refine h G σ H δ _ _ R e1 λ vs G1 H1 g1 da=>⟨by rw [da.length];exact hz,λ p H' n=>?_⟩
   exact q p vs G1 H' (g1.trans (.nwO g1.s n)) (by
    cases hp:H p with
    | none=>rfl
    | some o=>exact absurd (g1.h _ _ hp) (by rw [n.2.1];simp)) (gZ g1.s n.2.1) n.2.2 da
 . cases e
end
section
variable {X:Cx} {tg:Expr}
noncomputable def BL (K:Frag) (tl:TE):TI:=λ σ H R=>tl σ H λ x H1=>∃ a,x=.ref a/\(((∃ xs,eS K H1 a xs)/\R (L5 K a) H1)∨((∃ xs,gU K H1 a xs)/\R (Mb K a) H1))
theorem Ep {l:Expr} {tl:TE} (hl:PE X l tl):PI X tg l (BL X.K tl):=by
 intro pins s σ H R I h;refine cy (hl pins s σ H _ I h) λ v s1 hq0=>?_;obtain ⟨x,H1,I1,r1,q1⟩:=hq0;obtain ⟨a,e,⟨⟨xs,hq⟩,q⟩ | ⟨⟨xs,hq⟩,q⟩⟩:=q1;all_goals
  subst e;cases r1
 . obtain ⟨its,rv,p,hz⟩:=I1.list hq;refine wpAny_pyIter_list p.isList ?_;refine ⟨s1.heap.objs.size,[s1.heap.objs.size],_,_,H1,rfl,I1.kept (t':=s1.toks) λ b o e=>OE _ e,wL a _,⟨_,OZ _ rfl,rfl,rfl⟩,λ b hb=>?_,q⟩;have e:b=s1.heap.objs.size:=by simpa using hb
   subst e;exact I1.fpOk (Ol _) (I1.hok.fresh (Ol _))
 . obtain ⟨its,rv,p,hz⟩:=I1.tuple hq;refine wpAny_pyIter_tuple (show s1.heap.IsTuple a its.toArray from p) ?_;refine ⟨s1.heap.objs.size,[s1.heap.objs.size],_,_,H1,rfl,I1.kept (t':=s1.toks) λ b o e=>OE _ e,uZ a _,⟨_,OZ _ rfl,rfl,rfl⟩,λ b hb=>?_,q⟩;have e:b=s1.heap.objs.size:=by simpa using hb
   subst e;exact I1.fpOk (Ol _) (I1.hok.fresh (Ol _))
theorem Ks {K:Frag} (h:X.K=K) {l:Expr} {tl:TE} (hl:PE X l tl):PI X tg l (BL K tl):=h▸Ep hl
end
section
variable {K:Frag} {ρ:List Addr}
noncomputable def DY (K:Frag) (ρ:List Addr) (J:It) (ds:List W) (i:Nat) (G1 H1:Hp):Prop:=
 (∀ d,ds[i]?=some d->J.go i H1/\∀ x H',J.yld i H1 x H'->∃ G',Gr G1 H1 G' H'/\Dw K ρ G' x d)/\(ds.length<=i->J.stop i H1)
noncomputable def Nh (K:Frag) (ρ:List Addr) (J:It) (G:Hp) (ds:List W):Prop:=∀ i G1 H1,bE G G1->bE G1 H1->DY K ρ J ds i G1 H1
noncomputable def DI (K:Frag) (ρ:List Addr) (wi:TI) (f:DS->Option (List W)):Prop:=
 ∀ (G:Hp) (σ:St) (H:Hp) (δ:DS) (ds:List W) (R':It->Hp->Prop),Rl K ρ G H δ σ->f δ=some ds->(∀ J G' H',Gr G H G' H'->Nh K ρ J G' ds->R' J H')->wi σ H R'
noncomputable def xx:W->Option (List W)
 | .list ds=>some ds
 | .tuple ds=>some ds
 | _=>none
noncomputable def iY (f:DS->Option W):DS->Option (List W):=λ δ=>(f δ).bind xx
theorem z9 {G1 H1:Hp} {a:Addr} {xs:List V} {ds:List W} {i:Nat} (s:bE G1 H1) (q:eS K H1 a xs) (da:aC K ρ G1 xs ds):DY K ρ (L5 K a) ds i G1 H1:=by
 refine ⟨λ d hd=>?_,λ h=>⟨xs,q,by rw [da.length];exact h⟩⟩;obtain ⟨v,h1,h2⟩:=da.get hd;refine ⟨⟨xs,v,q,h1⟩,λ x H' y=>?_⟩;obtain ⟨rfl,y⟩:=y;have:=y xs q;rw [h1] at this;cases this;exact ⟨G1,.refl s,h2⟩
theorem EI {G1 H1:Hp} {a:Addr} {xs:List V} {ds:List W} {i:Nat} (s:bE G1 H1) (q:gU K H1 a xs) (da:aC K ρ G1 xs ds):DY K ρ (Mb K a) ds i G1 H1:=by
 refine ⟨λ d hd=>?_,λ h=>⟨xs,q,by rw [da.length];exact h⟩⟩;obtain ⟨v,h1,h2⟩:=da.get hd;refine ⟨⟨xs,v,q,h1⟩,λ x H' y=>?_⟩;obtain ⟨rfl,y⟩:=y;have:=y xs q;rw [h1] at this;cases this;exact ⟨G1,.refl s,h2⟩
theorem Gw {t:TE} {f:DS->Option W} (h:DE K ρ t f):DI K ρ (BL K t) (iY f):=λ G σ H δ ds R' R e q=>by
 obtain ⟨d,ed,e⟩:=oB e
 refine h G σ H δ d _ R ed λ v G1 H1 g1 dv=>?_;cases dv with
 | lst sq da=>
  cases e;exact ⟨_,rfl,.inl ⟨⟨_,g1.s.seq sq⟩,q _ G1 H1 g1 λ i G2 H2 a b=>z9 b ((a.trans b).seq sq) (da.same a)⟩⟩
 | tup sq da=>
  cases e;exact ⟨_,rfl,.inr ⟨⟨_,g1.s.tup (gU.of sq)⟩,q _ G1 H1 g1 λ i G2 H2 a b=>EI b ((a.trans b).tup (gU.of sq)) (da.same a)⟩⟩
 | _=>cases e
noncomputable def LH (lo:Int) (n:Nat):List W:=(List.range n).map λ i=>.int (lo+(i:Nat))
noncomputable def IY (j:Int):Bool:=decide (-(2^62)<=j)&&decide (j<2^62)
noncomputable def Mg (j:Int):Option (List W):=if IY j=true then some (LH 0 j.toNat) else none
noncomputable def MD:List W->Option (List W)
 | [.int j]=>Mg j
 | _=>none
theorem eg {G:Hp} {v:V} {i:Int} (h:Dw K ρ G v (.int i)):v=.int i:=by cases h;rfl
theorem yT {G:Hp} {v:V} {i:Str} (h:Dw K ρ G v (.str i)):v=.str i:=by cases h;rfl
theorem Dx {G:Hp} {v:V} {i:Bool} (h:Dw K ρ G v (.bool i)):v=.bl i:=by cases h;rfl
theorem uy {G:Hp} {v:V} (h:Dw K ρ G v .none):v=.non:=by cases h;rfl
theorem Hc {G:Hp} {vs:List V} {d:W} (h:aC K ρ G vs [d]):∃ v,vs=[v]/\Dw K ρ G v d:=by
 cases h with
 | cons a b=>cases b;exact ⟨_,rfl,a⟩
noncomputable def kJ (ds:List W):List W:=(List.range ds.length).map λ (i:Nat)=>.tuple [.int (i:Int),ds[i]?.getD .none]
theorem xn {ds:List W} {i:Nat} {d:W} (h:(kJ ds)[i]?=some d):∃ x,ds[i]?=some x/\d=.tuple [.int i,x]:=by
 have hi:i<ds.length:=by
  have:=(oG h).1;simpa [kJ] using this
 unfold kJ at h;rw [O2,List.getElem?_range hi] at h;cases h;exact ⟨ds[i],OF hi,by simp [OF hi]⟩
theorem F0 {G1 H1:Hp} {a:Addr} {xs:List V} {ds:List W} {i:Nat} (s:bE G1 H1) (q:eS K H1 a xs) (da:aC K ρ G1 xs ds):DY K ρ (Lz K a) (kJ ds) i G1 H1:=by
 refine ⟨λ d hd=>?_,λ h=>⟨xs,q,by rw [da.length];simpa [kJ] using h⟩⟩;obtain ⟨x,hx,rfl⟩:=xn hd;obtain ⟨v,h1,h2⟩:=da.get hx;refine ⟨⟨xs,v,q,h1⟩,λ y H' w=>?_⟩;obtain ⟨p,u,hp,rfl,rfl,w⟩:=w;have:=w xs q;rw [h1] at this;cases this;have n:Nw H1 (d6 H1 p (.tup [.int i,v])) p (.tup [.int i,v]):=.of hp;have g:=Gr.nw s n;exact ⟨_,g,.tup aO (.cons (.int i) (.cons (h2.same g.g) .nil))⟩
noncomputable def xY (f:DS->Option (List W)):DS->Option (List W):=λ δ=>(f δ).bind λ ds=>match ds with
 | [.list es]=>some (kJ es)
 | _=>none
theorem CB {t:TA} {f:DS->Option (List W)} (h:DA K ρ t f):DI K ρ (xR K t) (xY f):=λ G σ H δ ds R' R e q=>by
 obtain ⟨es,ed,e⟩:=oB e
 refine h G σ H δ es _ R ed λ vs G1 H1 g1 da=>?_;split at e
 . cases e;obtain ⟨v,rfl,dv⟩:=Hc da;cases dv with
   | lst sq da=>exact ⟨_,rfl,⟨_,g1.s.seq sq⟩,q _ G1 H1 g1 λ i G2 H2 a b=>F0 b ((a.trans b).seq sq) (da.same a)⟩
 . cases e
noncomputable def Mn (ds es:List W):List W:=List.zipWith (λ x y=>.tuple [x,y]) ds es
noncomputable def LF (f:DS->Option (List W)):DS->Option (List W):=λ δ=>(f δ).bind λ ds=>match ds with
 | [.list a,.list b]=>some (Mn a b)
 | _=>none
noncomputable def DG (K:Frag) (ρ:List Addr) (g:TG) (h:W->DS->Option DS):Prop:=
 ∀ (G H:Hp) (δ:DS) (σ:St) (v:V) (d:W) (δ':DS) (Q:St->Hp->Prop),Rl K ρ G H δ σ->Dw K ρ G v d->h d δ=some δ'->(∀ σ',Rl K ρ G H δ' σ'->gS δ' σ' δ σ->Q σ' H)->g v σ H Q
noncomputable def IN (K:Frag) (ρ:List Addr) (g:yi) (h:List W->DS->Option DS):Prop:=
 ∀ (G H:Hp) (δ:DS) (σ:St) (vs:List V) (ds:List W) (δ':DS) (Q:St->Hp->Prop),Rl K ρ G H δ σ->aC K ρ G vs ds->h ds δ=some δ'->(∀ σ',Rl K ρ G H δ' σ'->gS δ' σ' δ σ->Q σ' H)->g vs σ H Q
noncomputable def ar (i:Nat):W->DS->Option DS:=λ d δ=>some (δ.set i (.val d))
theorem C0 {i:Nat}:DG K ρ (sM i) (ar i):=λ G H δ σ v d δ' Q R dv e q=>by
 cases e;exact q _ (R.set dv) (ku R.len)
noncomputable def lF:List W->DS->Option DS:=λ ds δ=>match ds with
 | []=>some δ
 | _=>none
noncomputable def ft (h:W->DS->Option DS) (k:List W->DS->Option DS):List W->DS->Option DS:=λ ds δ=>match ds with
 | d::r=>(h d δ).bind (k r)
 | _=>none
theorem Bq:IN K ρ JO lF:=λ G H δ σ vs ds δ' Q R dv e q=>by
 cases dv with
 | nil=>cases e;exact ⟨rfl,q _ R (.refl _ _)⟩
 | cons _ _=>cases e
theorem xW {g:TG} {u:yi} {h:W->DS->Option DS} {k:List W->DS->Option DS} (h1:DG K ρ g h) (h2:IN K ρ u k):IN K ρ (Di g u) (ft h k):=λ G H δ σ vs ds δ' Q R dv e q=>by
 cases dv with
 | nil=>cases e
 | cons a b=>
  obtain ⟨δ1,e1,e⟩:=oB e
  exact ⟨_,_,rfl,h1 G H δ σ _ _ δ1 _ R a e1 λ σ1 R1 o1=>h2 G H δ1 σ1 _ _ δ' Q R1 b e λ σ2 R2 o2=>q σ2 R2 (o2.trans o1)⟩
noncomputable def jW (n:Nat) (k:List W->DS->Option DS):W->DS->Option DS:=λ d δ=>match d with
 | .tuple ds=>if ds.length=n then k ds δ else none
 | _=>none
theorem Gh {n:Nat} {u:yi} {k:List W->DS->Option DS} (h:IN K ρ u k):DG K ρ (FZ K n u) (jW n k):=λ G H δ σ v d δ' Q R dv e q=>by
 cases dv with
 | tup sq da=>
  simp only [jW] at e;split at e
  . rename_i hn;exact ⟨_,_,rfl,R.sub.tup (gU.of sq),by rw [da.length];exact hn,h G H δ σ _ _ δ' Q R da e q⟩
  . cases e
 | _=>cases e
noncomputable def pL (δ:DS):Option Nat->Sl
 | none=>.no
 | some i=>δ[i]?.getD .no
noncomputable def KA (σ:St):Option Nat->Option V
 | none=>none
 | some i=>match σ[i]? with
  | some v=>v
  | none=>none
noncomputable def cx (ix:List (Option Nat)) (δ:DS):DS:=ix.map (pL δ)
theorem pd {ix:List (Option Nat)} {σ:St} {j:Nat} {o:Option Nat} (h:ix[j]?=some o):(lift ix σ)[j]?=some (KA σ o):=by
 unfold lift;rw [O2,h];cases o <;> rfl
theorem lQ {ix:List (Option Nat)} {δ:DS} {j:Nat} {s:Sl} (h:(cx ix δ)[j]?=some s):∃ o,ix[j]?=some o/\s=pL δ o:=by
 unfold cx at h;rw [O2] at h;obtain ⟨o,h1,h2⟩:=oM h
 exact ⟨o,h1,h2.symm⟩
noncomputable def zY (ix:List (Option Nat)):Bool:=decide ((ix.filterMap id).Nodup)
theorem Fs {ix:List (Option Nat)} (h:(ix.filterMap id).Nodup):∀ {i j k:Nat},ix[i]?=some (some k)->ix[j]?=some (some k)->i=j:=by
 induction ix with
 | nil=>intro i j k h1;simp at h1
 | cons o r ih=>
  intro i j k h1 h2;have hr:(r.filterMap id).Nodup:=by
   cases o with
   | none=>simpa using h
   | some a=>
    have h':(a::r.filterMap id).Nodup:=h;exact (O7.mp h').2
  have hm:∀ m,r[m]?=some (some k)->k∈r.filterMap id:=λ m hm=>Pm.mpr ⟨some k,O8 hm,rfl⟩;cases i with
  | zero=>
   cases j with
   | zero=>rfl
   | succ j=>
    simp at h1 h2;subst h1;have h':(k::r.filterMap id).Nodup:=h;exact absurd (hm j h2) (O7.mp h').1
  | succ i=>
   cases j with
   | zero=>
    simp at h1 h2;subst h2;have h':(k::r.filterMap id).Nodup:=h;exact absurd (hm i h1) (O7.mp h').1
   | succ j=>
    simp at h1 h2;rw [ih hr h1 h2]
theorem Rl.lift {G H:Hp} {δ:DS} {σ:St} {ix:List (Option Nat)} (hx:zY ix=true) (R:Rl K ρ G H δ σ):Rl K ρ G H (cx ix δ) (lift ix σ):=by
 have hx':(ix.filterMap id).Nodup:=by simpa [zY] using hx
 have own:∀ {j:Nat} {ds:List W},(cx ix δ)[j]?=some (.own ds)->∃ i,ix[j]?=some (some i)/\δ[i]?=some (.own ds):=λ {j ds} h=>by
  obtain ⟨o,h1,h2⟩:=lQ h;cases o with
  | none=>cases h2
  | some i=>
   refine ⟨i,h1,?_⟩;cases e:δ[i]? with
   | none=>simp [pL,e] at h2
   | some s=>simp [pL,e] at h2;rw [h2]
 have at':∀ {j i:Nat} {v:V},ix[j]?=some (some i)->(L2.lift ix σ)[j]?=some (some v)->σ[i]?=some (some v):=λ {j i v} h1 h2=>by
  rw [pd h1] at h2;simp only [KA] at h2;split at h2
  . rename_i w e;rw [e];simpa using h2
  . cases h2
 refine ⟨R.sub,by simp [cx,L2.lift],λ j s h=>?_,λ j k p ds es h1 h2 h3 h4=>?_⟩
 . obtain ⟨o,h1,rfl⟩:=lQ h;refine ⟨_,pd h1,?_⟩;cases o with
   | none=>trivial
   | some i=>
    cases e:δ[i]? with
    | none=>simp only [pL,e,getD_none];trivial
    | some s=>
     obtain ⟨o,k1,k2⟩:=R.sl i s e;simp only [pL,KA,e,k1,Option.getD_some];exact k2
 . obtain ⟨i1,a1,a2⟩:=own h1;obtain ⟨i2,b1,b2⟩:=own h2;have:=R.apart i1 i2 p ds es a2 b2 (at' a1 h3) (at' b1 h4);subst this;exact Fs hx' a1 b1
noncomputable def ua:DS->Option Bool:=λ _=>some true
theorem G7:DT K ρ Ju ua:=λ G σ H δ b Q R e q=>by
 cases e;exact q G H (.refl R.sub)
noncomputable def rJ (h:W->DS->Option DS) (c:DS->Option Bool) (fe:DS->Option W) (δ:DS):List W->Option (List W)
 | []=>some []
 | d::ds=>(h d δ).bind λ δ2=>(c δ2).bind λ b=>if b=true then (fe δ2).bind λ e=>(rJ h c fe δ ds).map (e::·) else rJ h c fe δ ds
noncomputable def IB (ix:List (Option Nat)) (fi:DS->Option (List W)) (h:W->DS->Option DS) (c:DS->Option Bool) (fe:DS->Option W):DS->Option (List W):=λ δ=>
 (fi δ).bind λ ds=>if ds.length<=sizeLine then rJ h c fe (cx ix δ) ds else none
inductive dR where
 | nx (δ:DS)
 | bk (δ:DS)
 | ct (δ:DS)
 | rt (d:W)
structure Iv (K:Frag) (ρ:List Addr) (G0 H0 G H:Hp) (δ:DS) (σ:St):Prop where
 rl:Rl K ρ G H δ σ
 gr:Gr G0 H0 G H
 ow:∀ (i:Nat) p ds,δ[i]?=some (.own ds)->σ[i]?=some (some (.ref p))->H0 p=none
noncomputable def Nn (K:Frag) (ρ:List Addr) (G0 H0:Hp) (D:iZ):dR->Prop
 | .nx δ=>∀ σ G H,Iv K ρ G0 H0 G H δ σ->D.nx σ H
 | .bk δ=>∀ σ G H,Iv K ρ G0 H0 G H δ σ->D.bk σ H
 | .ct δ=>∀ σ G H,Iv K ρ G0 H0 G H δ σ->D.ct σ H
 | .rt d=>∀ v G H,Gr G0 H0 G H->Dw K ρ G v d->D.rt v H
noncomputable def pc (K:Frag) (ρ:List Addr) (t:TS) (f:DS->Option dR):Prop:=
 ∀ (G0 H0 G:Hp) (σ:St) (H:Hp) (δ:DS) (o:dR) (D:iZ),Iv K ρ G0 H0 G H δ σ->f δ=some o->Nn K ρ G0 H0 D o->t D σ H
theorem Iv.grow {G0 H0 G H G' H':Hp} {δ:DS} {σ:St} (I:Iv K ρ G0 H0 G H δ σ) (g:Gr G H G' H'):Iv K ρ G0 H0 G' H' δ σ:=⟨I.rl.grow g,I.gr.trans g,I.ow⟩
theorem Iv.sub {G0 H0 G H:Hp} {δ δ':DS} {σ σ':St} (I:Iv K ρ G0 H0 G H δ σ) (R:Rl K ρ G H δ' σ') (o:gS δ' σ' δ σ):Iv K ρ G0 H0 G H δ' σ':=⟨R,I.gr,λ i p ds h1 h2=>by
 obtain ⟨es,h3,h4⟩:=o i ds p h1 h2;exact I.ow i p es h3 h4⟩
noncomputable def az:DS->Option dR:=λ δ=>some (.nx δ)
theorem BR:pc K ρ Dr az:=λ G0 H0 G σ H δ o D I e p=>by
 cases e;exact p σ G H I
noncomputable def aX (f g:DS->Option dR):DS->Option dR:=λ δ=>match f δ with
 | some (.nx δ')=>g δ'
 | o=>o
theorem A1 {t u:TS} {f g:DS->Option dR} (h1:pc K ρ t f) (h2:pc K ρ u g):pc K ρ (Gs t u) (aX f g):=λ G0 H0 G σ H δ o D I e p=>by
 unfold aX at e;cases ef:f δ with
 | none=>rw [ef] at e;cases e
 | some o1=>
  rw [ef] at e;refine h1 G0 H0 G σ H δ o1 _ I ef ?_;cases o1 with
  | nx δ'=>exact λ σ' G' H' I'=>h2 G0 H0 G' σ' H' δ' o D I' e p
  | bk δ'=>cases e;exact p
  | ct δ'=>cases e;exact p
  | rt d=>cases e;exact p
noncomputable def bO (c:DS->Option Bool) (f g:DS->Option dR):DS->Option dR:=λ δ=>(c δ).bind λ b=>if b=true then f δ else g δ
theorem D3 {tc:TT} {t u:TS} {c:DS->Option Bool} {f g:DS->Option dR} (hc:DT K ρ tc c) (h1:pc K ρ t f) (h2:pc K ρ u g):pc K ρ (EN tc t u) (bO c f g):=λ G0 H0 G σ H δ o D I e p=>by
 obtain ⟨b,eb,e⟩:=oB e
 refine hc G σ H δ b _ I.rl eb λ G1 H1 g1=>?_;cases b with
 | true=>exact h1 G0 H0 G1 σ H1 δ o D (I.grow g1) e p
 | false=>exact h2 G0 H0 G1 σ H1 δ o D (I.grow g1) e p
noncomputable def aW (f:DS->Option W):DS->Option dR:=λ δ=>(f δ).map .rt
theorem zD {t:TE} {f:DS->Option W} (h:DE K ρ t f):pc K ρ (Gq t) (aW f):=λ G0 H0 G σ H δ o D I e p=>by
 obtain ⟨d,ed,rfl⟩:=oM e
 exact h G σ H δ d _ I.rl ed λ v G1 H1 g1 dv=>p v G1 H1 (I.gr.trans g1) dv
noncomputable def oA:DS->Option dR:=λ _=>some (.rt .none)
theorem Bu:pc K ρ D9 oA:=λ G0 H0 G σ H δ o D I e p=>by
 cases e;exact p .non G H I.gr .non
noncomputable def fO:DS->Option dR:=λ _=>none
theorem zI {t:TS}:pc K ρ t fO:=λ G0 H0 G σ H δ o D I e p=>by cases e
noncomputable def aV (f:DS->Option W) (h:W->DS->Option DS):DS->Option dR:=λ δ=>(f δ).bind λ d=>(h d δ).map .nx
theorem za {t:TE} {g:TG} {f:DS->Option W} {h:W->DS->Option DS} (h1:DE K ρ t f) (h2:DG K ρ g h):pc K ρ (uH t g) (aV f h):=λ G0 H0 G σ H δ o D I e p=>by
 obtain ⟨d,ed,e⟩:=oB e
 obtain ⟨δ',e2,rfl⟩:=oM e
 exact h1 G σ H δ d _ I.rl ed λ v G1 H1 g1 dv=>h2 G1 H1 δ σ v d δ' _ (I.rl.grow g1) dv e2 λ σ' R o=>p σ' G1 H1 ((I.grow g1).sub R o)
noncomputable def yZ (i:Nat) (f:DS->Option (List W)):DS->Option dR:=λ δ=>(f δ).map λ ds=>.nx (δ.set i (.own ds))
theorem yX {i:Nat} {t:TE} {f:DS->Option (List W)} (h:DO K ρ t f):pc K ρ (uH t (sM i)) (yZ i f):=λ G0 H0 G σ H δ o D I e p=>by
 obtain ⟨ds,ed,rfl⟩:=oM e
 refine h G σ H δ ds _ I.rl ed λ q vs G1 H1 g1 h0 g0 hh da=>?_;have I1:=I.grow g1;refine p _ G1 H1 ⟨I1.rl.setO g0 hh da λ j es hj h1 h2=>?_,I1.gr,λ j q' ds' h1 h2=>?_⟩
 . obtain ⟨o,k1,q1,vs1,k2,k3,k4,_⟩:=I.rl.sl j _ h1;rw [h2] at k1;cases k1;cases k2;rw [h0] at k4;cases k4
 . rcases fB h1 with ⟨rfl,_,hl⟩ | ⟨ne,h1⟩
   . rw [lR (by rw [<-I.rl.len];exact hl)] at h2;cases h2;exact gZ I.gr.h h0
   . rw [OI ne] at h2;exact I.ow j q' _ h1 h2
noncomputable def frz (i:Nat) (δ:DS):DS:=match δ[i]? with
 | some (.own ds)=>δ.set i (.val (.list ds))
 | _=>δ
noncomputable def Aj (i:Nat) (f:DS->Option dR):DS->Option dR:=λ δ=>f (frz i δ)
theorem Iv.frz {G0 H0 G H:Hp} {δ:DS} {σ:St} (i:Nat) (I:Iv K ρ G0 H0 G H δ σ):∃ G',Iv K ρ G0 H0 G' H (L2.frz i δ) σ:=by
 unfold L2.frz;split
 . rename_i ds h;obtain ⟨o,h1,p,vs,rfl,h3,h4,h5⟩:=I.rl.sl i _ h;have h0:=I.ow i p ds h h1;have g:bE G (d6 G p (.lst vs)):=lE h3 _;have lh:σ=σ.set i (some (.ref p)):=by
    apply List.ext_getElem?;intro j;by_cases e:i=j
    . subst e;rw [lR (oG h1).1,h1]
    . rw [OI e]
   refine ⟨d6 G p (.lst vs),⟨⟨pR I.gr.s h4,by rw [Pd];exact I.rl.len,λ j s e=>?_,λ j k q ds' es' k1 k2 k3 k4=>?_⟩,I.gr.new h0 h3 h4,λ j q ds' k1 k2=>?_⟩⟩
   . rcases fB e with ⟨rfl,rfl,hl⟩ | ⟨ne,e⟩
     . exact ⟨_,h1,.ref p,rfl,.lst (eS.of aO) (h5.same g)⟩
     . obtain ⟨o,k1,k2⟩:=I.rl.sl j s e;refine ⟨o,k1,?_⟩;cases s with
       | no=>trivial
       | val d=>
        obtain ⟨v,e1,e2⟩:=k2;exact ⟨v,e1,e2.same g⟩
       | own es=>
        obtain ⟨q,ws,rfl,e2,e3,e4⟩:=k2;refine ⟨q,ws,rfl,?_,e3,e4.same g⟩;rw [aP]
        . exact e2
        . rintro rfl;exact ne (I.rl.apart i j q ds es h e h1 k1)
   all_goals
    rcases fB k1 with ⟨_,z,_⟩ | ⟨ne,k1⟩
    . cases z
   . rcases fB k2 with ⟨_,z,_⟩ | ⟨ne2,k2⟩
     . cases z
     . exact I.rl.apart j k q ds' es' k1 k2 k3 k4
   . exact I.ow j q ds' k1 k2
 . exact ⟨G,I⟩
theorem zx {i:Nat} {t:TS} {f:DS->Option dR} (h:pc K ρ t f):pc K ρ t (Aj i f):=λ G0 H0 G σ H δ o D I e p=>by
 obtain ⟨G',I'⟩:=I.frz i;exact h G0 H0 G' σ H _ o D I' e p
noncomputable def rM (h:W->DS->Option DS) (fb:DS->Option dR):List W->DS->Option dR
 | [],δ=>some (.nx δ)
 | d::ds,δ=>(h d δ).bind λ δ2=>match fb δ2 with
  | some (.nx δ')=>rM h fb ds δ'
  | some (.ct δ')=>rM h fb ds δ'
  | some (.bk δ')=>some (.nx δ')
  | some (.rt d)=>some (.rt d)
  | none=>none
noncomputable def IF (fi:DS->Option (List W)) (h:W->DS->Option DS) (fb:DS->Option dR):DS->Option dR:=λ δ=>(fi δ).bind λ ds=>rM h fb ds δ
noncomputable def di (c:DS->Option Bool) (fb:DS->Option dR):Nat->DS->Option dR
 | 0,_=>none
 | n+1,δ=>(c δ).bind λ b=>if b=true then match fb δ with
  | some (.nx δ')=>di c fb n δ'
  | some (.ct δ')=>di c fb n δ'
  | some (.bk δ')=>some (.nx δ')
  | some (.rt d)=>some (.rt d)
  | none=>none
  else some (.nx δ)
theorem zw {n:Nat} {tc:TT} {tb:TS} {c:DS->Option Bool} {fb:DS->Option dR} (hc:DT K ρ tc c) (hb:pc K ρ tb fb):pc K ρ (vi tc tb) (di c fb n):=λ G0 H0 G σ H δ o D I e p=>by
 refine ⟨λ m σ H=>∃ G δ,Iv K ρ G0 H0 G H δ σ/\di c fb m δ=some o,⟨n,G,δ,I,e⟩,?_⟩;rintro m σ2 H2 ⟨G2,δ2,I2,e2⟩;cases m with
 | zero=>cases e2
 | succ m=>
  obtain ⟨b,eb,e3⟩:=oB e2
  refine hc G2 σ2 H2 δ2 b _ I2.rl eb λ G3 H3 g3=>?_;have I3:=I2.grow g3;cases b with
  | false=>cases e3;exact p σ2 G3 H3 I3
  | true=>
   rw [Oo rfl] at e3 ⊢;cases ef:fb δ2 with
   | none=>rw [ef] at e3;cases e3
   | some o1=>
    rw [ef] at e3;cases o1 with
    | nx δ'=>exact ⟨λ σ' H'=>∃ G',Iv K ρ G0 H0 G' H' δ' σ',λ σ' H' hy0=>by obtain ⟨G',I'⟩:=hy0;exact ⟨m,O0 _,G',δ',I',e3⟩,hb G0 H0 G3 σ2 H3 δ2 _ _ I3 ef λ σ5 G5 H5 I5=>⟨G5,I5⟩⟩
    | ct δ'=>exact ⟨λ σ' H'=>∃ G',Iv K ρ G0 H0 G' H' δ' σ',λ σ' H' hy0=>by obtain ⟨G',I'⟩:=hy0;exact ⟨m,O0 _,G',δ',I',e3⟩,hb G0 H0 G3 σ2 H3 δ2 _ _ I3 ef λ σ5 G5 H5 I5=>⟨G5,I5⟩⟩
    | bk δ'=>cases e3;exact ⟨λ _ _=>False,λ _ _ z=>z.elim,hb G0 H0 G3 σ2 H3 δ2 _ _ I3 ef λ σ5 G5 H5 I5=>p σ5 G5 H5 I5⟩
    | rt d=>cases e3;exact ⟨λ _ _=>False,λ _ _ z=>z.elim,hb G0 H0 G3 σ2 H3 δ2 _ _ I3 ef p⟩
noncomputable def qw (i:Nat) (δ:DS):Option (List W):=match δ[i]? with
 | some (.own ds)=>some ds
 | _=>none
theorem zN {i:Nat} {δ:DS} {ds:List W} (h:qw i δ=some ds):δ[i]?=some (.own ds):=by
 unfold qw at h;split at h
 . rename_i e;cases h;exact e
 . cases h
theorem Iv.put {G0 H0 G H:Hp} {δ:DS} {σ:St} {i:Nat} {ds es:List W} {p:Addr} {vs:List V} (I:Iv K ρ G0 H0 G H δ σ) (h:δ[i]?=some (.own ds)) (hp:σ[i]?=some (some (.ref p))) (g0:G p=none) (da:aC K ρ G vs es):Iv K ρ G0 H0 G (d6 H p (.lst vs)) (δ.set i (.own es)) σ:=by
 have h0:=I.ow i p ds h hp;have sG:bE G (d6 H p (.lst vs)):=λ b o e=>by
  rw [aP (λ z=>by rw [z,g0] at e;cases e)];exact I.gr.s _ _ e
 refine ⟨⟨sG,by rw [Pd];exact I.rl.len,λ j s e=>?_,λ j k q ds' es' k1 k2 k3 k4=>?_⟩,⟨I.gr.g,λ b o e=>?_,sG,I.gr.n⟩,λ j q ds' k1 k2=>?_⟩
 . rcases fB e with ⟨rfl,rfl,hl⟩ | ⟨ne,e⟩
   . exact ⟨_,hp,p,vs,rfl,g0,aO,da⟩
   . obtain ⟨o,k1,k2⟩:=I.rl.sl j s e;refine ⟨o,k1,?_⟩;cases s with
     | no=>trivial
     | val d=>exact k2
     | own es2=>
      obtain ⟨q,ws,rfl,e2,e3,e4⟩:=k2;refine ⟨q,ws,rfl,e2,?_,e4⟩;rw [aP]
      . exact e3
      . rintro rfl;exact ne (I.rl.apart i j q ds es2 h e hp k1)
 . rcases fB k1 with ⟨rfl,_,_⟩ | ⟨ne,k1⟩ <;> rcases fB k2 with ⟨rfl,_,_⟩ | ⟨ne2,k2⟩
   . rfl
   . exact I.rl.apart _ _ q _ _ h k2 k3 k4
   . exact I.rl.apart _ _ q _ _ k1 h k3 k4
   . exact I.rl.apart _ _ q _ _ k1 k2 k3 k4
 . rw [aP (λ z=>by rw [z,h0] at e;cases e)];exact I.gr.h _ _ e
 . rcases fB k1 with ⟨rfl,_,_⟩ | ⟨ne,k1⟩
   . exact I.ow _ q _ h k2
   . exact I.ow j q _ k1 k2
noncomputable def gJ (i:Nat) (f:DS->Option W):DS->Option dR:=λ δ=>(qw i δ).bind λ ds=>(f δ).bind λ d=>if ds.length<sizeLine then some (.nx (δ.set i (.own (ds++[d])))) else none
theorem qo {i:Nat} {t:TE} {f:DS->Option W} (h:DE K ρ t f):pc K ρ (wd (Jp K "list" nB (AY i) (i9 t md))) (gJ i f):=λ G0 H0 G σ H δ o D I e p=>by
 obtain ⟨ds,eo,e⟩:=oB e
 obtain ⟨d,ed,e⟩:=oB e
 split at e
 case isFalse=>cases e
 rename_i hz;cases e;have ho:=zN eo;obtain ⟨o,h1,q,vs,rfl,h3,h4,h5⟩:=I.rl.sl i _ ho;refine ⟨.ref q,h1,.inl ⟨rfl,vs,eS.of h4⟩,h G σ H δ d _ I.rl ed λ v G1 H1 g1 dv=>⟨q,vs,v,rfl,rfl,g1.h _ _ h4,by rw [h5.length];exact hz,?_⟩⟩;have I1:=I.grow g1;exact p σ G1 _ (I1.put ho h1 (g1.n q (.l h4) h3) ((h5.same g1.g).app (.cons dv .nil)))
noncomputable def GK (i:Nat) (fi fv:DS->Option W):DS->Option dR:=λ δ=>(fv δ).bind λ d=>(qw i δ).bind λ ds=>(fi δ).bind λ x=>match x with
 | .int k=>(ug ds.length k).map λ j=>.nx (δ.set i (.own (ds.set j d)))
 | _=>none
end
section
variable {K:Frag} {ρ:List Addr}
noncomputable def oy (K:Frag) (f:List W->Option W):Sp:=λ vs H Q _=>∃ ρ G ds d,bE G H/\aC K ρ G vs ds/\f ds=some d/\∀ v G' H',Gr G H G' H'->Dw K ρ G' v d->Q v H'
noncomputable def bc (f:List W->Option W) (fa:DS->Option (List W)):DS->Option W:=λ δ=>(fa δ).bind f
theorem Bn {f:List W->Option W} {t:TA} {fa:DS->Option (List W)} {E:XK} (h:DA K ρ t fa):DE K ρ (tM (oy K f) [] E t) (bc f fa):=λ G σ H δ d Q R e q=>by
 obtain ⟨ds,ed,e⟩:=oB e
 exact h G σ H δ ds _ R ed λ vs G1 H1 g1 da=>by
  refine ⟨ρ,G1,ds,d,g1.s,?_,e,λ v G2 H2 g2 dv=>q v G2 H2 (g1.trans g2) dv⟩;rw [Oz];exact da
noncomputable def fH (n:Nat) (ds:List W):DS:=ds.map .val++List.replicate (n-ds.length) .no
noncomputable def Bm:Option dR->Option W
 | some (.rt d)=>some d
 | some (.nx _)=>some .none
 | _=>none
noncomputable def eY (a n:Nat) (fb:DS->Option dR):List W->Option W:=λ ds=>if ds.length=a then Bm (fb (fH n ds)) else none
theorem pX {a n:Nat} {fb:DS->Option dR} {ds:List W} {d:W} (h:eY a n fb ds=some d):ds.length=a:=by
 unfold eY at h;split at h
 . assumption
 . cases h
theorem Bp {f:List W->Option W} {a:Nat} {vs:List V} {H:Hp} {Q:VK} {E:XK} (hf:∀ ds d,f ds=some d->ds.length=a) (h:oy K f vs H Q E):vs.length=a:=by
 obtain ⟨ρ,G,ds,d,s,da,e,q⟩:=h;rw [da.length];exact hf ds d e
theorem iR {n:Nat} {ds:List W} {i:Nat} {es:List W}:(fH n ds)[i]?≠some (.own es):=by
 unfold fH;intro h;rcases lt_or_ge i (ds.map Sl.val).length with hl | hl
 . rw [OJ hl,O2] at h;obtain ⟨d,_,e⟩:=oM h
   cases e
 . rw [OG hl,Px] at h;split at h <;> cases h
theorem tP {G H:Hp} {N:List Str} {vs:List V} {ds:List W} (s:bE G H) (h:aC K ρ G vs ds):Rl K ρ G H (fH N.length ds) (start N vs):=by
 refine ⟨s,by simp [fH,start,h.length],λ i sl e=>?_,λ i j p ds' es' h1=>absurd h1 iR⟩;unfold fH at e;unfold start;rcases lt_or_ge i ds.length with hl | hl
 . rw [OJ (by simpa using hl),O2] at e;obtain ⟨d,e1,rfl⟩:=oM e
   obtain ⟨v,h1,h2⟩:=h.get e1;refine ⟨some v,?_,v,rfl,h2⟩;rw [OJ (by simp [h.length];exact hl),O2,h1];rfl
 . rw [OG (by simpa using hl),Px] at e;split at e
   . cases e;rename_i hlt;refine ⟨none,?_,trivial⟩;rw [OG (by simp [h.length];exact hl),Px,Oo];simp only [O6] at hlt ⊢;rw [h.length];exact hlt
   . cases e
theorem KP {t:TS} {fb:DS->Option dR} {N:List Str} {a n:Nat} {vs:List V} {H:Hp} {Q:VK} {E:XK} (hn:N.length=n) (h:∀ ρ,pc K ρ t fb) (hsp:oy K (eY a n fb) vs H Q E):t { nx:=λ _ H'=>Q .non H',rt:=Q } (start N vs) H:=by
 subst hn;obtain ⟨ρ,G,ds,d,s,da,e,q⟩:=hsp;have R:=tP (N:=N) s da;have I:Iv K ρ G H G H (fH N.length ds) (start N vs):=⟨R,.refl s,λ i p ds' h1=>absurd h1 iR⟩
 unfold eY at e;rw [Oo (pX (show eY a N.length fb ds=some d from e))] at e;cases ef:fb (fH N.length ds) with
 | none=>rw [ef] at e;cases e
 | some o=>
  rw [ef] at e;refine h ρ G H G _ H _ o _ I ef ?_;cases o with
  | nx δ=>cases e;exact λ σ' G' H' I'=>q _ G' H' I'.gr .non
  | rt d'=>cases e;exact λ v G' H' g dv=>q v G' H' g dv
  | bk _=>cases e
  | ct _=>cases e
end
noncomputable def DV (K:Frag):R2:=λ x y H Q=>∃ l b xs zs,x=.ref l/\y=.ref b/\eS K H l xs/\eS K H b zs/\xs.length+zs.length<=sizeLine/\∀ p H',Nw H H' p (.lst (xs++zs))->Q (.ref p) H'
theorem BF {X:Cx}:iw X (binaryOp .Add) (DV X.K):=by
 intro pins s σ H x y v u Q I rx ry h;obtain ⟨l,b,xs,zs,rfl,rfl,hH,hB,hz,q⟩:=h;cases rx;cases ry;obtain ⟨its,r,hl,_⟩:=I.list hH;obtain ⟨its2,r2,hb,_⟩:=I.list hB;obtain ⟨⟨cls,dd,data,sl⟩,n,ho,hc,hdd,hd⟩:=hl;obtain ⟨⟨cls2,dd2,data2,sl2⟩,n2,ho2,hc2,hdd2,hd2⟩:=hb;simp only at hc hd hc2 hd2;subst hc hd hc2 hd2;have e:its.toArray++its2.toArray=(its++its2).toArray:=by simp
 refine concat_meets ⟨_,ho,rfl⟩ ⟨_,ho2,rfl⟩ noFill_list_add seq_list_add PySem.F.slot_list_add PySem.F.entry_list_add (PySem.F.args_list_add_2 _ _) (list_addW l b its.toArray its2.toArray n n2 dd dd2 sl sl2 (by rw [OB,OB,<-r.length,<-r2.length];exact hz)) ⟨ho,ho2,?_⟩;rw [e];exact ⟨.ref _,_,I.lnew (t':=s.toks) (r.append r2) (by rw [OV];omega),rfl,q _ _ (.of I.fresh)⟩
noncomputable def Bl:R2:=λ x y H Q=>∃ i j,x=.str i/\y=.str j/\i.length+j.length<=sizeLine/\Q (.str (i++j)) H
noncomputable def zL (K:Frag):R2:=λ x y H Q=>uh (λ i j=>.int (i+j)) x y H Q∨Bl x y H Q∨DV K x y H Q∨DN K x y H Q
theorem JS {X:Cx} {K:Frag} (h:X.K=K):iw X (binaryOp .Add) (zL K):=h▸Eh.or (vd.or (BF.or C3))
section
variable {K:Frag} {ρ:List Addr}
noncomputable def bQ:W->W->Option W
 | .int i,.int j=>some (.int (i+j))
 | .str i,.str j=>if i.length+j.length<=sizeLine then some (.str (i++j)) else none
 | .list a,.list b=>if a.length+b.length<=sizeLine then some (.list (a++b)) else none
 | .tuple a,.tuple b=>if a≠[]/\a.length+b.length<=sizeLine then some (.tuple (a++b)) else none
 | _,_=>none
theorem vf {G H:Hp} {v:V} {i:Int} (h:Pk K ρ G H v (.int i)):v=.int i:=by
 rcases h with h | ⟨_,_,_,_,e,_⟩
 . exact eg h
 . cases e
theorem rL {G H:Hp} {v:V} {i:Str} (h:Pk K ρ G H v (.str i)):v=.str i:=by
 rcases h with h | ⟨_,_,_,_,e,_⟩
 . exact yT h
 . cases e
theorem sf {G H:Hp} {v:V} {ds:List W} (s:bE G H) (h:Pk K ρ G H v (.list ds)):∃ p vs,v=.ref p/\eS K H p vs/\aC K ρ G vs ds:=by
 rcases h with h | ⟨p,vs,es,rfl,e,h1,h2⟩
 . cases h with
   | lst sq da=>exact ⟨_,_,rfl,s.seq sq,da⟩
 . cases e;exact ⟨p,vs,rfl,eS.of h1,h2⟩
theorem zg {G:Hp} {v:V} {ds:List W} (h:Dw K ρ G v (.list ds)):∃ p vs,v=.ref p/\eS K G p vs/\aC K ρ G vs ds:=by
 cases h with
 | lst sq da=>exact ⟨_,_,rfl,sq,da⟩
theorem qJ {G:Hp} {v:V} {ds:List W} (h:Dw K ρ G v (.tuple ds)):∃ p vs,v=.ref p/\G p=some (.tup vs)/\aC K ρ G vs ds:=by
 cases h with
 | tup sq da=>exact ⟨_,_,rfl,sq,da⟩
theorem uz {G H:Hp} {v:V} {ds:List W} (h:Pk K ρ G H v (.tuple ds)):∃ p vs,v=.ref p/\G p=some (.tup vs)/\aC K ρ G vs ds:=by
 rcases h with h | ⟨_,_,_,_,e,_⟩
 . exact qJ h
 . cases e
theorem GQ:DR K ρ (zL K) bQ:=λ G H x y d e c Q s hx hy hg q=>by
 cases d with
 | int i=>
  cases e with
  | int j=>
   cases hg;cases vf hx;cases eg hy;exact .inl ⟨_,_,rfl,rfl,q _ G H (.refl s) (.int _)⟩
  | _=>cases hg
 | str a=>
  cases e with
  | str b=>
   by_cases hz:a.length+b.length<=sizeLine
   . cases (Oo hz).symm.trans hg;cases rL hx;cases yT hy;exact .inr (.inl ⟨_,_,rfl,rfl,hz,q _ G H (.refl s) (.str _)⟩)
   . cases (Oq hz).symm.trans hg
  | _=>cases hg
 | list a=>
  cases e with
  | list b=>
   by_cases hz:a.length+b.length<=sizeLine
   . cases (Oo hz).symm.trans hg;obtain ⟨p,vs,rfl,sq,da⟩:=sf s hx;obtain ⟨p2,vs2,rfl,sq2,da2⟩:=zg hy;refine .inr (.inr (.inl ⟨p,p2,vs,vs2,rfl,rfl,sq,s.seq sq2,by rw [da.length,da2.length];exact hz,λ l H' n=>?_⟩));have g:=Gr.nw s n;exact q _ _ H' g (.lst (eS.of aO) ((da.same g.g).app (da2.same g.g)))
   . cases (Oq hz).symm.trans hg
  | _=>cases hg
 | tuple a=>
  cases e with
  | tuple b=>
   by_cases hz:a≠[]/\a.length+b.length<=sizeLine
   . cases (Oo hz).symm.trans hg;obtain ⟨p,vs,rfl,sq,da⟩:=uz hx;obtain ⟨p2,vs2,rfl,sq2,da2⟩:=qJ hy;refine .inr (.inr (.inr ⟨p,p2,vs,vs2,rfl,rfl,s.tup (gU.of sq),s.tup (gU.of sq2),?_,by rw [da.length,da2.length];exact hz.2,λ e=>?_,λ e l hl=>?_⟩))
     . rintro rfl;cases da;exact hz.1 rfl
     . subst e;cases da2;rw [Oz] at q;exact q _ G H (.refl s) (.tup sq da)
     . have g:=Gr.nw s (Nw.of (o:=.tup (vs++vs2)) hl);exact q _ _ _ g (.tup aO ((da.same g.g).app (da2.same g.g)))
   . cases (Oq hz).symm.trans hg
  | _=>cases hg
 | _=>cases hg
noncomputable def HS:W->W->Option (List W)
 | .list a,.list b=>if a.length+b.length<=sizeLine then some (a++b) else none
 | _,_=>none
noncomputable def IH (fa fb:DS->Option W):DS->Option (List W):=λ δ=>(fa δ).bind λ x=>(fb δ).bind λ y=>HS x y
noncomputable def gI (f:Int->Int->Int):W->W->Option W
 | .int i,.int j=>some (.int (f i j))
 | _,_=>none
noncomputable def D6 (C:Int->Int->Bool) (f:Int->Int->Int):W->W->Option W
 | .int i,.int j=>if C i j=true then some (.int (f i j)) else none
 | _,_=>none
theorem IM {f:Int->Int->Int}:DR K ρ (uh λ i j=>.int (f i j)) (gI f):=λ G H x y d e c Q s hx hy hg q=>by
 unfold gI at hg;split at hg
 . cases hg;cases vf hx;cases eg hy;exact ⟨_,_,rfl,rfl,q _ G H (.refl s) (.int _)⟩
 . cases hg
theorem A7 {C:Int->Int->Prop} {Cb:Int->Int->Bool} {f:Int->Int->Int} (hC:∀ i j,Cb i j=true->C i j):DR K ρ (rI C λ i j=>.int (f i j)) (D6 Cb f):=λ G H x y d e c Q s hx hy hg q=>by
 unfold D6 at hg;split at hg
 . split at hg
   . rename_i hc;cases hg;cases vf hx;cases eg hy;exact ⟨_,_,rfl,rfl,hC _ _ hc,q _ G H (.refl s) (.int _)⟩
   . cases hg
 . cases hg
noncomputable def gSub':W->W->Option W:=gI λ i j=>i-j
theorem GP:DR K ρ (uh λ i j=>.int (i-j)) gSub':=IM
theorem uo:2^200<2^512:=Nat.pow_lt_pow_right (by decide) (by decide)
noncomputable def mE (i j:Int):Bool:=decide (i.natAbs<2^64)||decide (j.natAbs<2^64)||(decide (i.natAbs<2^200)&&decide (j.natAbs<2^200))
noncomputable def Du (i j:Int):Prop:=BH i j∨Da i j
theorem Kk {X:Cx}:iw X (binaryOp .Mult) (rI Du λ i j=>.int (i*j)):=λ pins s σ H x y v u Q I rx ry h=>by
 obtain ⟨i,j,e1,e2,hc,q⟩:=h;rcases hc with hc | hc
 . exact Ed pins s σ H x y v u Q I rx ry ⟨i,j,e1,e2,hc,q⟩
 . exact BP pins s σ H x y v u Q I rx ry ⟨i,j,e1,e2,hc,q⟩
noncomputable def oj (i j:Int):Bool:=decide (j≠0)&&decide (j.natAbs<2^200)
noncomputable def tK (i j:Int):Bool:=decide (j≠0)
noncomputable def kZ:W->W->Option W:=D6 mE λ i j=>i*j
noncomputable def gW:W->W->Option W:=D6 oj λ i j=>i.fdiv j
noncomputable def cq:W->W->Option W:=D6 tK λ i j=>i.fmod j
theorem Fb:DR K ρ (rI Du λ i j=>.int (i*j)) kZ:=A7 λ i j h=>by
 simp only [mE,OD,or_eq_true,ON] at h;rcases h with (h | h) | h
 . exact .inl (.inl ⟨by omega,by omega⟩)
 . exact .inl (.inr ⟨by omega,by omega⟩)
 . exact .inr ⟨PD h.1 uo,PD h.2 uo⟩
theorem Ei:DR K ρ (rI D0 λ i j=>.int (i.fdiv j)) gW:=A7 λ i j h=>by
 simp only [oj,OD,ON] at h;exact ⟨h.1,PD h.2 uo⟩
theorem FK:DR K ρ (rI (λ _ j=>j≠0) λ i j=>.int (i.fmod j)) cq:=A7 λ i j h=>by simpa [tK] using h
noncomputable def cU:W->Option W
 | .int i=>some (.int (-i))
 | _=>none
noncomputable def iJ (g:W->Option W) (f:DS->Option W):DS->Option W:=λ δ=>(f δ).bind g
theorem Fo {t:TE} {f:DS->Option W} (h:DE K ρ t f):DE K ρ (M0 (rU λ i=>.int (-i)) t) (iJ cU f):=λ G σ H δ d Q R e q=>by
 obtain ⟨x,ex,e⟩:=oB e
 refine h G σ H δ x _ R ex λ v G1 H1 g1 dv=>?_;unfold cU at e;split at e
 . cases e;cases eg dv;exact ⟨_,rfl,q _ G1 H1 g1 (.int _)⟩
 . cases e
noncomputable def cI (p:Int->Int->Bool):W->W->Option Bool
 | .int i,.int j=>some (p i j)
 | _,_=>none
theorem B5 {p:Int->Int->Bool}:DB K ρ (uh λ i j=>.bl (p i j)) (cI p):=λ H x y d e b Q hx hy hg q=>by
 unfold cI at hg;split at hg
 . cases hg;cases eg hx;cases eg hy;exact ⟨_,_,rfl,rfl,q⟩
 . cases hg
noncomputable def p7:W->W->Option Bool:=cI λ i j=>decide (i<j)
noncomputable def JR:W->W->Option Bool:=cI λ i j=>decide (i<=j)
noncomputable def IE:W->W->Option Bool:=cI λ i j=>decide (j<i)
noncomputable def K9:W->W->Option Bool:=cI λ i j=>decide (j<=i)
theorem ID:DB K ρ (uh λ i j=>.bl (decide (i<j))) p7:=B5
theorem JP:DB K ρ (uh λ i j=>.bl (decide (i<=j))) JR:=B5
theorem J6:DB K ρ (uh λ i j=>.bl (decide (j<i))) IE:=B5
theorem IV:DB K ρ (uh λ i j=>.bl (decide (j<=i))) K9:=B5
noncomputable def isN:W->Bool
 | .none=>true
 | _=>false
noncomputable def gC:W->W->Option Bool
 | d,.none=>some (isN d)
 | _,_=>none
theorem v7 {H:Hp} {x:V} {d:W} (h:Dw K ρ H x d):decide (x=.non)=isN d:=by
 cases h <;> simp [isN]
theorem Fu:DB K ρ (λ x y H Q=>y=.non/\Q (.bl (decide (x=.non))) H) gC:=λ H x y d e b Q hx hy hg q=>by
 unfold gC at hg;split at hg
 . cases hg;cases uy hy;exact ⟨rfl,by rw [v7 hx];exact q⟩
 . cases hg
noncomputable def iF:W->W->Option Bool
 | d,.none=>some (!(isN d))
 | _,_=>none
theorem Cw:DB K ρ (λ x y H Q=>y=.non/\Q (.bl (!decide (x=.non))) H) iF:=λ H x y d e b Q hx hy hg q=>by
 unfold iF at hg;split at hg
 . cases hg;cases uy hy;exact ⟨rfl,by rw [v7 hx];exact q⟩
 . cases hg
noncomputable def Oc:W->Option Bool
 | .none=>some true
 | .int _=>some false
 | .bool _=>some false
 | .str _=>some false
 | _=>none
noncomputable def NB (i:Int):W->Option Bool
 | .none=>some false
 | .int j=>some (decide (i=j))
 | .str _=>some false
 | _=>none
noncomputable def N9 (i:Bool):W->Option Bool
 | .none=>some false
 | .bool j=>some (decide (i=j))
 | .str _=>some false
 | _=>none
noncomputable def N0 (i:Str):W->Option Bool
 | .none=>some false
 | .int _=>some false
 | .bool _=>some false
 | .str j=>some (decide (i=j))
 | _=>none
noncomputable def KB:W->W->Option Bool
 | .none,e=>Oc e
 | .int i,e=>NB i e
 | .bool i,e=>N9 i e
 | .str i,e=>N0 i e
 | _,_=>none
theorem uw {H:Hp} {x y:V} {d e:W} {b:Bool} (hx:Dw K ρ H x d) (hy:Dw K ρ H y e) (h:KB d e=some b):FN x y=true/\decide (x=y)=b:=by
 cases hx with
 | non=>cases hy <;> first | (cases h;exact ⟨rfl,by simp⟩) | cases h
 | int i=>cases hy <;> first | (cases h;exact ⟨rfl,by simp⟩) | cases h
 | bl i=>cases hy <;> first | (cases h;exact ⟨rfl,by simp⟩) | cases h
 | str i=>cases hy <;> first | (cases h;exact ⟨rfl,by simp⟩) | cases h
 | _=>cases h
noncomputable def bh (d e:W):Option Bool:=match KB d e with
 | some b=>some b
 | none=>d.py.bind λ a=>e.py.bind λ b=>if (a.canLay0&&b.canLay0&&decide (a.depth<=64))=true then some (PyData.eqv a b) else none
noncomputable def GM (K:Frag):R2:=λ x y H Q=>Nc x y H Q∨Br K false x y H Q
noncomputable def Fj (K:Frag):R2:=λ x y H Q=>Nd x y H Q∨Br K true x y H Q
theorem LL {X:Cx} {K:Frag} (h:X.K=K) (hu:X.A.units+64<cLine):iw X (compareOp .Eq) (GM K):=h▸Jl.or (EC hu)
theorem Lf {X:Cx} {K:Frag} (h:X.K=K) (hu:X.A.units+64<cLine):iw X (compareOp .NotEq) (Fj K):=h▸HM.or (GG hu)
theorem II:DB K ρ (GM K) bh:=λ H x y d e b Q hx hy hg q=>by
 unfold bh at hg;split at hg
 . rename_i b' hb;cases hg;obtain ⟨h1,h2⟩:=uw hx hy hb;exact .inl ⟨h1,by rw [h2];exact q⟩
 . obtain ⟨a,ea,hg⟩:=oB hg
   obtain ⟨b,eb,hg⟩:=oB hg
   split at hg
   . rename_i hc;cases hg;simp only [OD,ON] at hc;exact .inr ⟨a,b,hx.dp ea,hy.dp eb,hc.1.1,hc.1.2,hc.2,q⟩
   . cases hg
noncomputable def ui (d e:W):Option Bool:=(bh d e).map (!·)
theorem IX:DB K ρ (Fj K) ui:=λ H x y d e b Q hx hy hg q=>by
 obtain ⟨c,hg',rfl⟩:=oM hg
 unfold bh at hg';split at hg'
 . rename_i b' hb;cases hg';obtain ⟨h1,h2⟩:=uw hx hy hb;exact .inl ⟨h1,by rw [h2];exact q⟩
 . obtain ⟨a,ea,hg'⟩:=oB hg'
   obtain ⟨b,eb,hg'⟩:=oB hg'
   split at hg'
   . rename_i hc;cases hg';simp only [OD,ON] at hc;exact .inr ⟨a,b,hx.dp ea,hy.dp eb,hc.1.1,hc.1.2,hc.2,q⟩
   . cases hg'
noncomputable def aH:W->W->Option W
 | .list ds,.int i=>jg ds i
 | .tuple ds,.int i=>jg ds i
 | .str z,.int i=>if z.length<=sizeLine then (jg z.cps.toList i).map λ c=>.str ⟨#[c]⟩ else none
 | _,_=>none
theorem aC.at {G:Hp} {vs:List V} {ds:List W} {i:Int} {d:W} (h:aC K ρ G vs ds) (e:jg ds i=some d):∃ v,jg vs i=some v/\Dw K ρ G v d:=by
 unfold jg at e ⊢;rw [h.length];obtain ⟨j,h1,h2⟩:=oB e
 obtain ⟨v,h3,h4⟩:=h.get h2;exact ⟨v,Option.bind_eq_some_iff.mpr ⟨j,h1,h3⟩,h4⟩
theorem De:DR K ρ (Kh K) aH:=λ G H x y d e c Q s hx hy hg q=>by
 cases e with
 | int i=>
  cases eg hy;cases d with
  | list ds=>
   obtain ⟨p,vs,rfl,sq,da⟩:=sf s hx;obtain ⟨v,h1,h2⟩:=da.at hg;exact .inl ⟨p,vs,_,v,rfl,rfl,sq,h1,q v G H (.refl s) h2⟩
  | tuple ds=>
   obtain ⟨p,vs,rfl,sq,da⟩:=uz hx;obtain ⟨v,h1,h2⟩:=da.at hg;exact .inr (.inl ⟨p,vs,_,v,rfl,rfl,s.tup (gU.of sq),h1,q v G H (.refl s) h2⟩)
  | str z=>
   by_cases hz:z.length<=sizeLine
   . obtain ⟨c',h1,rfl⟩:=oM ((Oo hz).symm.trans hg)
     cases rL hx;exact .inr (.inr ⟨_,_,c',rfl,rfl,hz,h1,q _ G H (.refl s) (.str _)⟩)
   . cases (Oq hz).symm.trans hg
  | _=>cases hg
 | _=>cases d <;> cases hg
noncomputable def g7 (xs:List W) (lo hi:Option Int):List W:=(xs.drop (HT.sIx xs.length 0 lo)).take (HT.sIx xs.length xs.length hi-HT.sIx xs.length 0 lo)
theorem aC.cut {G:Hp} {vs:List V} {ds:List W} (h:aC K ρ G vs ds) (lo hi:Option Int):aC K ρ G (mY vs lo hi) (g7 ds lo hi):=by
 unfold mY g7;rw [h.length];exact (h.drop _).take _
noncomputable def FE (K:Frag) (ρ:List Addr) (t:TO) (f:DS->Option (Option Int)):Prop:=
 ∀ (G:Hp) (σ:St) (H:Hp) (δ:DS) (x:Option Int) (Q:Option Int->Hp->Prop),Rl K ρ G H δ σ->f δ=some x->(∀ G' H',Gr G H G' H'->Q x H')->t σ H Q
noncomputable def kN:DS->Option (Option Int):=λ _=>some none
noncomputable def wg:W->Option Int
 | .int i=>some i
 | _=>none
theorem ma {d:W} {i:Int} (h:wg d=some i):d=.int i:=by
 cases d <;> first | (cases h;rfl) | cases h
noncomputable def j3 (f:DS->Option W):DS->Option (Option Int):=λ δ=>(f δ).bind λ d=>(wg d).map some
theorem yH:FE K ρ ny kN:=λ G σ H δ x Q R e q=>by
 cases e;exact q G H (.refl R.sub)
theorem yE {t:TE} {f:DS->Option W} (h:DE K ρ t f):FE K ρ (vR t) (j3 f):=λ G σ H δ x Q R e q=>by
 obtain ⟨d,ed,e⟩:=oB e
 obtain ⟨i,ei,rfl⟩:=oM e
 cases ma ei;exact h G σ H δ _ _ R ed λ v G1 H1 g1 dv=>by
  cases eg dv;exact ⟨i,rfl,q G1 H1 g1⟩
noncomputable def Ae:W->Option (List W)
 | .list ds=>some ds
 | _=>none
theorem yz {d:W} {ds:List W} (h:Ae d=some ds):d=.list ds:=by
 cases d <;> first | (cases h;rfl) | cases h
noncomputable def Ar (f:DS->Option W) (lo hi:DS->Option (Option Int)):DS->Option (List W):=λ δ=>(f δ).bind λ d=>(Ae d).bind λ ds=>(lo δ).bind λ l=>(hi δ).map λ u=>g7 ds l u
theorem FT {t:TE} {tl th:TO} {f:DS->Option W} {lo hi:DS->Option (Option Int)} (h:DK K ρ t f) (hl:FE K ρ tl lo) (hh:FE K ρ th hi):DO K ρ (Jm (pY K) t tl th) (Ar f lo hi):=λ G σ H δ ds Q R e q=>by
 obtain ⟨d,ed,e⟩:=oB e
 obtain ⟨es,ee,e⟩:=oB e
 obtain ⟨l,el,e⟩:=oB e
 obtain ⟨u,eu,rfl⟩:=oM e
 cases yz ee;refine h G σ H δ _ _ R ed λ v G1 H1 g1 dv=>hl G1 σ H1 δ l _ (R.grow g1) el λ G2 H2 g2=>hh G2 σ H2 δ u _ ((R.grow g1).grow g2) eu λ G3 H3 g3=>?_;have g23:=g2.trans g3;obtain ⟨p,vs,rfl,sq,da⟩:=sf g23.s (dv.grow g23);refine ⟨p,vs,rfl,sq,λ r H' n=>?_⟩;have g:=g1.trans g23;exact q r _ G3 H' (g.trans (.nwO g.s n)) (gZ g.h n.2.1) (gZ g.s n.2.1) n.2.2 (da.cut l u)
noncomputable def Ll (K:Frag) (ρ:List Addr) (r:List V->Hp->VK->Prop) (g:W->Option W):Prop:=
 ∀ (G H:Hp) (x:V) (d c:W) (Q:VK),bE G H->Pk K ρ G H x d->g d=some c->(∀ v G' H',Gr G H G' H'->Dw K ρ G' v c->Q v H')->r [x] H Q
noncomputable def sw (g:W->Option W) (f:DS->Option W):DS->Option W:=λ δ=>(f δ).bind g
theorem Ib {r:List V->Hp->VK->Prop} {g:W->Option W} {t:TE} {f:DS->Option W} (hr:Ll K ρ r g) (h:DK K ρ t f):DE K ρ (AQ r (i9 t md)) (sw g f):=λ G σ H δ d Q R e q=>by
 obtain ⟨x,ex,e⟩:=oB e
 exact h G σ H δ x _ R ex λ v G1 H1 g1 dv=>hr G1 H1 v x d Q g1.s dv e λ u G2 H2 g2 du=>q u G2 H2 (g1.trans g2) du
noncomputable def wJ (K:Frag):List V->Hp->VK->Prop:=λ xs H Q=>Ir K xs H Q∨Dv xs H Q
theorem xD {X:Cx} {K:Frag} (h:X.K=K):ff X (.builtin "len") (wJ K):=(pE h).or p3
noncomputable def nc:W->Option W
 | .list ds=>some (.int ds.length)
 | .tuple ds=>some (.int ds.length)
 | .str z=>if z.length<=sizeLine then some (.int z.length) else none
 | _=>none
theorem yF:Ll K ρ (wJ K) nc:=λ G H x d c Q s hx hg q=>by
 unfold nc at hg;split at hg
 . cases hg;obtain ⟨p,vs,rfl,sq,da⟩:=sf s hx;exact .inl ⟨p,vs,rfl,.inl sq,by rw [da.length];exact q _ G H (.refl s) (.int _)⟩
 . cases hg;obtain ⟨p,vs,rfl,sq,da⟩:=uz hx;exact .inl ⟨p,vs,rfl,.inr (s.tup (gU.of sq)),by rw [da.length];exact q _ G H (.refl s) (.int _)⟩
 . split at hg
   . rename_i hz;cases hg;cases rL hx;exact .inr ⟨_,rfl,hz,q _ G H (.refl s) (.int _)⟩
   . cases hg
 . cases hg
noncomputable def Bo (f:DS->Option W):DS->Option (List W):=λ δ=>(f δ).bind xx
noncomputable def jS (T:String):W->Option W
 | .int i=>(Az (.int i) T).map .bool
 | .bool i=>(Az (.bl i) T).map .bool
 | .str i=>(Az (.str i) T).map .bool
 | _=>none
theorem FQ {T:String} {t:TE} {f:DS->Option W} (h:DE K ρ t f):DE K ρ (AQ Ck (i9 t (i9 (tC (.ty T)) md))) (sw (jS T) f):=λ G σ H δ d Q R e q=>by
 obtain ⟨x,ex,e⟩:=oB e
 refine h G σ H δ x _ R ex λ v G1 H1 g1 dv=>?_;unfold jS at e;split at e;all_goals first
  | cases e
  | (obtain ⟨k,ek,rfl⟩:=oM e
     cases dv;exact ⟨_,T,k,rfl,ek,q _ G1 H1 g1 (.bl k)⟩)
end
section
variable {X:Cx} {tg:Expr}
end
section
variable {K:Frag} {ρ:List Addr}
end
section
variable {X:Cx}
end
section
variable {K:Frag} {ρ:List Addr}
end
theorem FY (i j:Int):bQ (.int i) (.int j)=some (.int (i+j)):=rfl
theorem xU {a b:Str} (h:a.length+b.length<=sizeLine):bQ (.str a) (.str b)=some (.str (a++b)):=Oo h
theorem AG (i j:Int):gSub' (.int i) (.int j)=some (.int (i-j)):=rfl
theorem kg {i j:Int} (h:mE i j=true):kZ (.int i) (.int j)=some (.int (i*j)):=by simp only [kZ,D6,Oo h]
theorem uF {i j:Int} (h:oj i j=true):gW (.int i) (.int j)=some (.int (i.fdiv j)):=by simp only [gW,D6,Oo h]
theorem ER {i j:Int} (h:tK i j=true):cq (.int i) (.int j)=some (.int (i.fmod j)):=by simp only [cq,D6,Oo h]
theorem GI (i:Int):cU (.int i)=some (.int (-i)):=rfl
theorem nJ {i j:Int} (h1 : -(2^64)<i) (h2:i<2^64):mE i j=true:=by
 simp only [mE,OD,or_eq_true,ON];exact .inl (.inl (by omega))
theorem vS {i j:Int} (h1 : -(2^64)<j) (h2:j<2^64):mE i j=true:=by
 simp only [mE,OD,or_eq_true,ON];exact .inl (.inr (by omega))
theorem zi {i j:Int} (h1:0<j) (h2:j<2^64):oj i j=true:=by
 have e:(2:Nat)^64<2^200:=Nat.pow_lt_pow_right (by decide) (by decide);simp only [oj,OD,ON];exact ⟨by omega,PD (by omega) e⟩
theorem zZ {i j:Int} (h:j≠0):tK i j=true:=by simp [tK,h]
theorem iq (i:Int) {j:Int} (h1:0<j) (h2:j<2^64):gW (.int i) (.int j)=some (.int (i.fdiv j)):=uF (zi h1 h2)
theorem cf (i:Int) {j:Int} (h1:j≠0):cq (.int i) (.int j)=some (.int (i.fmod j)):=ER (zZ h1)
theorem Au (b:Bool):AS (.bool b)=some b:=rfl
theorem Do (i:Int):wg (.int i)=some i:=rfl
theorem AZ (ds:List W):Ae (.list ds)=some ds:=rfl
theorem He (ds:List W):xx (.list ds)=some ds:=rfl
theorem FB (ds:List W):xx (.tuple ds)=some ds:=rfl
theorem Hj (ds:List W):nc (.list ds)=some (.int ds.length):=rfl
theorem En (ds:List W):nc (.tuple ds)=some (.int ds.length):=rfl
theorem DD (ds:List W) (i:Int):aH (.list ds) (.int i)=jg ds i:=rfl
theorem pU (ds:List W) (i:Int):aH (.tuple ds) (.int i)=jg ds i:=rfl
theorem HK (i j:Int):bh (.int i) (.int j)=some (decide (i=j)):=rfl
theorem HA (i j:Str):bh (.str i) (.str j)=some (decide (i=j)):=rfl
theorem Io (i j:Bool):bh (.bool i) (.bool j)=some (decide (i=j)):=rfl
theorem HC (i j:Int):ui (.int i) (.int j)=some (!decide (i=j)):=rfl
theorem D7 (i j:Str):ui (.str i) (.str j)=some (!decide (i=j)):=rfl
theorem Dj (i j:Int):p7 (.int i) (.int j)=some (decide (i<j)):=rfl
theorem Dk (i j:Int):JR (.int i) (.int j)=some (decide (i<=j)):=rfl
theorem HU (i j:Int):IE (.int i) (.int j)=some (decide (j<i)):=rfl
theorem Iw (i j:Int):K9 (.int i) (.int j)=some (decide (j<=i)):=rfl
theorem BG (i:Int):iF (.int i) .none=some true:=rfl
theorem BC:iF .none .none=some false:=rfl
theorem Ba (i:Str):iF (.str i) .none=some true:=rfl
theorem BS (i:List W):iF (.list i) .none=some true:=rfl
theorem BD (i:List W):iF (.tuple i) .none=some true:=rfl
theorem Gj (i:Int):gC (.int i) .none=some false:=rfl
theorem Gm:gC .none .none=some true:=rfl
theorem Fl (i:Str):gC (.str i) .none=some false:=rfl
theorem Eu (i:List W):gC (.list i) .none=some false:=rfl
theorem Hf (i:List W):gC (.tuple i) .none=some false:=rfl
theorem C4 (i:Int):jS "int" (.int i)=some (.bool true):=rfl
theorem xV (i:Int):jS "bool" (.int i)=some (.bool false):=rfl
theorem Cf (i:Str):jS "str" (.str i)=some (.bool true):=rfl
theorem aI {f g:DS->Option dR} {δ δ1:DS} {o:Option dR} (h1:f δ=some (.nx δ1)) (h2:g δ1=o):aX f g δ=o:=by
 unfold aX;rw [h1];exact h2
theorem bK {a n:Nat} {fb:DS->Option dR} {ds:List W} {d:W} (hl:ds.length=a) (h:fb (fH n ds)=some (.rt d)):eY a n fb ds=some d:=by
 unfold eY;rw [Oo hl,h];rfl
theorem aF {f:DS->Option W} {h:W->DS->Option DS} {δ δ':DS} {d:W} (h1:f δ=some d) (h2:h d δ=some δ'):aV f h δ=some (.nx δ'):=by
 unfold aV;rw [h1];show (h d δ).map dR.nx=_;rw [h2];rfl
theorem aJ {f:DS->Option W} {δ:DS} {d:W} (h1:f δ=some d):aW f δ=some (.rt d):=by
 unfold aW;rw [h1];rfl
theorem aE {c:DS->Option Bool} {f g:DS->Option dR} {δ:DS} {b:Bool} {o:Option dR} (h1:c δ=some b) (h2:(if b=true then f δ else g δ)=o):bO c f g δ=o:=by
 unfold bO;rw [h1];exact h2
theorem zb {K:Frag} {g:List W->Option W} {vs:List V} {H:Hp} {Q:VK} {E:XK} (hg:∀ ds,g ds=none) (h:oy K g vs H Q E):False:=by
 obtain ⟨ρ,G,ds,d,_,_,e,_⟩:=h;rw [hg] at e;cases e
theorem eE.no {P:Program} {w:World} {K:Frag} {mg:Str->Option Value} {base:Heap} {CX:qE} {k:Nat} {f:Addr} {fd:FuncData} {ps:List Str} {g:List W->Option W} (hg:∀ ds,g ds=none):eE P w K mg base CX k f fd ps (oy K g):=
 ⟨λ _ _ _ _ h=>(zb hg h).elim,λ _ _ _ _ _ _ _ _ _ _ _ _ _ h=>(zb hg h).elim⟩
inductive Ob where
 | lst (ds:List W)
 | dK (kvs:List (bR×W))
 | dT (kvs:List (List bR×W))
 | dN (kvs:List (List bR×W))
 | ins (c:Str) (fs:List (Str×W))
noncomputable abbrev ah:=List Ob
inductive i6 (K:Frag) (ρ:List Addr) (G:Hp) {κ:Type}:List (κ×W)->List (κ×V)->Prop
 | nil:i6 K ρ G [] []
 | cons {k:κ} {d:W} {v:V} {l:List (κ×W)} {m:List (κ×V)}:Dw K ρ G v d->i6 K ρ G l m->i6 K ρ G ((k,d)::l) ((k,v)::m)
noncomputable def Ax (K:Frag) (ρ:List Addr) (cl:Str->Addr) (G H:Hp) (a:Addr):Ob->Prop
 | .lst ds=>∃ vs,H a=some (.lst vs)/\aC K ρ G vs ds
 | .dK kvs=>∃ ws,H a=some (.dK ws)/\i6 K ρ G kvs ws
 | .dT kvs=>∃ ws,H a=some (.dT ws)/\i6 K ρ G kvs ws
 | .dN kvs=>∃ ws,H a=some (.dN ws)/\i6 K ρ G kvs ws
 | .ins c fs=>∃ dx ws,H a=some (.ins (cl c) dx ws)/\G dx=none/\H dx=some (.own a)/\i6 K ρ G fs ws
theorem CK {ρ ρ':List Addr} (h:ρ <+: ρ') (n:Nat) (a:Addr) (e:ρ[n]?=some a):ρ'[n]?=some a:=by
 obtain ⟨t,rfl⟩:=h;rw [OJ (oG e).1];exact e
theorem Dw.ext {K:Frag} {ρ ρ':List Addr} {G:Hp} (h:ρ <+: ρ') {v:V} {d:W} (q:Dw K ρ G v d):Dw K ρ' G v d:=q.mapG (λ _ _ q=>q) (λ _ _ q=>q) (CK h)
theorem aC.ext {K:Frag} {ρ ρ':List Addr} {G:Hp} (h:ρ <+: ρ') {vs:List V} {ds:List W} (q:aC K ρ G vs ds):aC K ρ' G vs ds:=q.mapA λ _ _ a=>a.ext h
theorem i6.ext {K:Frag} {ρ ρ':List Addr} {G G':Hp} {κ:Type} (h:ρ <+: ρ') (g:bE G G') {l:List (κ×W)} {m:List (κ×V)} (q:i6 K ρ G l m):i6 K ρ' G' l m:=by
 induction q with
 | nil=>exact .nil
 | cons a _ ih=>exact .cons ((a.ext h).same g) ih
theorem i6.lookup {K:Frag} {ρ:List Addr} {G:Hp} {κ:Type} [BEq κ] {k:κ} {l:List (κ×W)} {m:List (κ×V)} {d:W} (q:i6 K ρ G l m):l.lookup k=some d->∃ v,m.lookup k=some v/\Dw K ρ G v d:=by
 induction q with
 | nil=>exact λ e=>by cases e
 | @cons j d v l m a _ ih=>
  intro e;simp only [List.lookup] at e ⊢;split at e
  . cases e;exact ⟨_,rfl,a⟩
  . exact ih e
theorem i6.lookup_none {K:Frag} {ρ:List Addr} {G:Hp} {κ:Type} [BEq κ] {k:κ} {l:List (κ×W)} {m:List (κ×V)} (q:i6 K ρ G l m):l.lookup k=none->m.lookup k=none:=by
 induction q with
 | nil=>exact λ _=>rfl
 | @cons j d v l m a _ ih=>
  intro e;simp only [List.lookup] at e ⊢;split at e
  . cases e
  . exact ih e
theorem i6.length {K:Frag} {ρ:List Addr} {G:Hp} {κ:Type} {l:List (κ×W)} {m:List (κ×V)} (q:i6 K ρ G l m):l.length=m.length:=by
 induction q with
 | nil=>rfl
 | cons _ _ ih=>exact Om (· + 1) ih
noncomputable def eh (f:Str) (v:W):List (Str×W)->List (Str×W)
 | []=>[(f,v)]
 | (g,x)::r=>if g=f then (g,v)::r else (g,x)::eh f v r
theorem i6.putF {K:Frag} {ρ:List Addr} {G:Hp} {f:Str} {v:V} {d:W} (h:Dw K ρ G v d) {l:List (Str×W)} {m:List (Str×V)} (q:i6 K ρ G l m):i6 K ρ G (eh f d l) (putF f v m):=by
 induction q with
 | nil=>exact .cons h .nil
 | cons a b ih=>
  unfold eh L2.putF;split
  . exact .cons h b
  . exact .cons a ih
structure SR (K:Frag) (ρ:List Addr) (cl:Str->Addr) (G H:Hp) (S:ah):Prop where
 len:ρ.length=S.length
 nd:ρ.Nodup
 ob:∀ (n:Nat) o,S[n]?=some o->∃ a,ρ[n]?=some a/\G a=none/\Ax K ρ cl G H a o
structure GS (ρ:List Addr) (G H:Hp) (ρ':List Addr) (G' H':Hp):Prop where
 r:ρ <+: ρ'
 g:bE G G'
 s:bE G' H'
 h:∀ b o,b∉ρ->H b=some o->H' b=some o
 k:∀ b,H b≠none->H' b≠none
 n:∀ b,nT H b->G b=none->G' b=none
 f:∀ a,a∈ρ'->a∉ρ->H a=none
 t:∀ b,nT H b->nT H' b
theorem GS.refl {ρ:List Addr} {G H:Hp} (s:bE G H):GS ρ G H ρ G H:=⟨O9 _,.refl _,s,λ _ _ _ e=>e,λ _ e=>e,λ _ _ e=>e,λ a h1 h2=>absurd h1 h2,λ _ e=>e⟩
theorem GS.of {ρ:List Addr} {G H G' H':Hp} (g:Gr G H G' H'):GS ρ G H ρ G' H':=⟨O9 _,g.g,g.s,λ b o _ e=>g.h b o e,λ b e=>rh g.h e,g.n,λ a h1 h2=>absurd h1 h2,λ _ e=>e.same g.h⟩
theorem GS.trans {ρ ρ1 ρ2:List Addr} {G H G1 H1 G2 H2:Hp} (a:GS ρ G H ρ1 G1 H1) (b:GS ρ1 G1 H1 ρ2 G2 H2):GS ρ G H ρ2 G2 H2:=
 ⟨a.r.trans b.r,a.g.trans b.g,b.s,λ c o hc e=>b.h c o (λ h1=>by rw [a.f c h1 hc] at e;cases e) (a.h c o hc e),λ c e=>b.k c (a.k c e),λ c h1 h2=>b.n c (a.t c h1) (a.n c h1 h2),(λ c h1 h2=>by
  by_cases h3:c∈ρ1
  . exact a.f c h3 h2
  . have:=b.f c h1 h3;cases e:H c with
    | none=>rfl
    | some o=>exact absurd this (a.k c (by rw [e];simp))),λ c e=>b.t c (a.t c e)⟩
section
variable {K:Frag} {cl:Str->Addr}
theorem Ax.move {ρ ρ':List Addr} {G H G' H':Hp} {a:Addr} (hr:ρ <+: ρ') (g:bE G G') (ha:H' a=H a) (hd:∀ dx,G dx=none->H dx=some (.own a)->H' dx=some (.own a)/\G' dx=none) {o:Ob} (h:Ax K ρ cl G H a o):Ax K ρ' cl G' H' a o:=by
 cases o with
 | lst ds=>
  obtain ⟨vs,h1,h2⟩:=h;exact ⟨vs,ha.trans h1,(h2.ext hr).same g⟩
 | ins c fs=>
  obtain ⟨dx,ws,h1,h2,h3,h4⟩:=h;exact ⟨dx,ws,ha.trans h1,(hd dx h2 h3).2,(hd dx h2 h3).1,h4.ext hr g⟩
 | _=>
  obtain ⟨ws,h1,h2⟩:=h;exact ⟨ws,ha.trans h1,h2.ext hr g⟩
theorem Ax.some {ρ:List Addr} {G H:Hp} {a:Addr} {o:Ob} (h:Ax K ρ cl G H a o):∃ x,H a=some x/\∀ b,x≠.own b:=by
 cases o with
 | ins c fs=>
  obtain ⟨dx,ws,h1,_⟩:=h;exact ⟨_,h1,λ b e=>by cases e⟩
 | _=>
  obtain ⟨ws,h1,_⟩:=h;exact ⟨_,h1,λ b e=>by cases e⟩
theorem Ax.nt {ρ:List Addr} {G H:Hp} {a:Addr} {o:Ob} (h:Ax K ρ cl G H a o):nT H a:=by
 cases o with
 | ins c fs=>
  obtain ⟨_,_,h1,_⟩:=h;exact .of h1 λ _ z=>by cases z
 | _=>
  obtain ⟨_,h1,_⟩:=h;exact .of h1 λ _ z=>by cases z
theorem SR.grow {ρ:List Addr} {G H G' H':Hp} {S:ah} (s:SR K ρ cl G H S) (g:Gr G H G' H'):SR K ρ cl G' H' S:=
 ⟨s.len,s.nd,λ n o e=>by
  obtain ⟨a,h1,h2,h3⟩:=s.ob n o e;obtain ⟨x,hx,_⟩:=h3.some;exact ⟨a,h1,g.n a h3.nt h2,h3.move (O9 _) g.g (by rw [hx];exact g.h _ _ hx) λ dx e1 e2=>⟨g.h _ _ e2,g.n dx (.of e2 λ _ z=>by cases z) e1⟩⟩⟩
theorem SR.addr {ρ:List Addr} {G H:Hp} {S:ah} (s:SR K ρ cl G H S) {n:Nat} {o:Ob} {a:Addr} (e:S[n]?=some o) (ea:ρ[n]?=some a):G a=none/\Ax K ρ cl G H a o:=by
 obtain ⟨b,h1,h2,h3⟩:=s.ob n o e;rw [ea] at h1;cases h1;exact ⟨h2,h3⟩
theorem xr {l:List Addr} (h:l.Nodup) {i j:Nat} {a:Addr} (h1:l[i]?=some a) (h2:l[j]?=some a):i=j:=by
 obtain ⟨hi,e1⟩:=oG h1
 obtain ⟨hj,e2⟩:=oG h2
 have hp:=List.pairwise_iff_getElem.mp h;rcases Nat.lt_trichotomy i j with c | c | c
 . exact absurd (e1.trans e2.symm) (hp i j hi hj c)
 . exact c
 . exact absurd (e2.trans e1.symm) (hp j i hj hi c)
theorem SR.put {ρ:List Addr} {G H:Hp} {S:ah} {n:Nat} {o o':Ob} {a:Addr} {x:HO} (s:SR K ρ cl G H S) (sg:bE G H) (e:S[n]?=some o) (ea:ρ[n]?=some a) (hx:∀ b,x≠.own b) (ho:Ax K ρ cl G (d6 H a x) a o'):SR K ρ cl G (d6 H a x) (S.set n o')/\GS ρ G H ρ G (d6 H a x):=by
 obtain ⟨ga,ob⟩:=s.addr e ea;obtain ⟨y,hy,hno⟩:=ob.some;have am:a∈ρ:=O8 ea;refine ⟨⟨by rw [Pd];exact s.len,s.nd,λ m q em=>?_⟩,⟨O9 _,.refl _,λ b u eb=>?_,λ b u hb eb=>?_,λ b hb=>?_,λ _ _ e=>e,λ b h1 h2=>absurd h1 h2,λ b hb=>by
  by_cases z:b=a
  . exact z▸ho.nt
  . unfold nT;rw [aP z];exact hb⟩⟩
 . rcases fB em with ⟨rfl,rfl,_⟩ | ⟨ne,em⟩
   . exact ⟨a,ea,ga,ho⟩
   . obtain ⟨b,h1,h2,h3⟩:=s.ob m q em;have hab:b≠a:=λ z=>ne (xr s.nd ea (z▸h1));exact ⟨b,h1,h2,h3.move (O9 _) (.refl _) (aP hab) λ dx e1 e2=>⟨by
      rw [aP (λ z=>by rw [z,hy] at e2;cases e2;exact hno _ rfl)];exact e2,e1⟩⟩
 . rw [aP (λ z=>by rw [z,ga] at eb;cases eb)];exact sg _ _ eb
 . rw [aP (λ z=>hb (by rw [z];exact am))];exact eb
 . by_cases z:b=a
   . subst z;rw [aO];simp
   . rw [aP z];exact hb
theorem SR.push {ρ:List Addr} {G H H':Hp} {S:ah} {p:Addr} {o:Ob} {x:HO} (s:SR K ρ cl G H S) (sg:bE G H) (n:Nw H H' p x) (ho:∀ ρ',ρ <+: ρ'->Ax K ρ' cl G H' p o):SR K (ρ++[p]) cl G H' (S++[o])/\GS ρ G H (ρ++[p]) G H':=by
 have pm:p∉ρ:=λ hp=>by
  obtain ⟨i,hi,e⟩:=List.mem_iff_getElem.mp hp;obtain ⟨b,h1,h2,h3⟩:=s.ob i (S[i]'(by rw [<-s.len];exact hi)) (OF _);rw [OF hi,e] at h1;cases h1;obtain ⟨y,hy,_⟩:=h3.some;rw [n.2.1] at hy;cases hy
 have pre:ρ <+: ρ++[p]:=⟨[p],rfl⟩
 refine ⟨⟨by simp [s.len],nodup_append.mpr ⟨s.nd,by simp,λ a ha b hb=>by
  rw [OW.mp hb];exact λ z=>pm (z▸ha)⟩,λ m q em=>?_⟩,⟨pre,.refl _,sg.trans n.1,λ b u _ e=>n.1 b u e,λ b e=>rh n.1 e,λ _ _ e=>e,λ a h1 h2=>?_,λ _ e=>e.same n.1⟩⟩
 . rcases lt_or_ge m S.length with hm | hm
   . rw [OJ hm] at em;obtain ⟨b,h1,h2,h3⟩:=s.ob m q em;obtain ⟨y,hy,_⟩:=h3.some;exact ⟨b,by rw [OJ (by rw [s.len];exact hm)];exact h1,h2,h3.move pre (.refl _) (by rw [hy];exact n.1 _ _ hy) λ dx e1 e2=>⟨n.1 _ _ e2,e1⟩⟩
   . rw [OG hm] at em;have hz:m-S.length=0:=by
      have:=(oG em).1;simp at this;omega
     rw [hz] at em;cases em;refine ⟨p,?_,gZ sg n.2.1,ho _ pre⟩;rw [OG (by rw [s.len];exact hm),s.len,hz];rfl
 . rcases Pp.mp h1 with h | h
   . exact absurd h h2
   . rw [OW.mp h];exact n.2.1
inductive Rs (α:Type) where
 | ok (a:α)
 | xc (c:Str)
noncomputable abbrev SM (α:Type):=Option (Rs α×ah)
noncomputable def ak {α β:Type} (m:SM α) (k:α->ah->SM β):SM β:=match m with
 | some (.ok a,S)=>k a S
 | some (.xc c,S)=>some (.xc c,S)
 | none=>none
theorem aR {α β:Type} {m:SM α} {k:α->ah->SM β} {r:Rs β} {S':ah} (h:ak m k=some (r,S')):(∃ c,m=some (.xc c,S')/\r=.xc c)∨∃ a S1,m=some (.ok a,S1)/\k a S1=some (r,S'):=by
 unfold ak at h;split at h
 . exact .inr ⟨_,_,rfl,h⟩
 . cases h;exact .inl ⟨_,rfl,rfl⟩
 . cases h
structure RS (K:Frag) (cl:Str->Addr) (ρ:List Addr) (G H:Hp) (δ:DS) (σ:St) (S:ah):Prop where
 rl:Rl K ρ G H δ σ
 st:SR K ρ cl G H S
 ap:∀ (i:Nat) ds p,δ[i]?=some (.own ds)->σ[i]?=some (some (.ref p))->p∉ρ
theorem uY.move {ρ ρ':List Addr} {G H G' H':Hp} (g:GS ρ G H ρ' G' H') {s:Sl} {o:Option V} (ha:∀ ds p,s=.own ds->o=some (.ref p)->p∉ρ) (h:uY K ρ G H s o):uY K ρ' G' H' s o:=by
 cases s with
 | no=>exact trivial
 | val d=>
  obtain ⟨v,e,h⟩:=h;exact ⟨v,e,(h.ext g.r).same g.g⟩
 | own ds=>
  obtain ⟨p,vs,e,h1,h2,h3⟩:=h;exact ⟨p,vs,e,g.n p (.l h2) h1,g.h _ _ (ha ds p rfl e) h2,(h3.ext g.r).same g.g⟩
theorem RS.grow {ρ ρ':List Addr} {G H G' H':Hp} {δ:DS} {σ:St} {S S':ah} (R:RS K cl ρ G H δ σ S) (g:GS ρ G H ρ' G' H') (s:SR K ρ' cl G' H' S'):RS K cl ρ' G' H' δ σ S':=
 ⟨⟨g.s,R.rl.len,λ i sl e=>by
  obtain ⟨o,h1,h2⟩:=R.rl.sl i sl e;exact ⟨o,h1,h2.move g λ ds p e1 e2=>R.ap i ds p (e1▸e) (e2▸h1)⟩,R.rl.apart⟩,s,λ i ds p h1 h2 hp=>by
  obtain ⟨o,k1,p',vs,rfl,k3,k4,k5⟩:=R.rl.sl i _ h1;rw [h2] at k1;cases k1;rw [g.f p hp (R.ap i ds p h1 h2)] at k4;cases k4⟩
noncomputable def SE (K:Frag) (cl:Str->Addr) (E:XK) (t:TE) (f:DS->ah->SM W):Prop:=
 ∀ (ρ:List Addr) (G:Hp) (σ:St) (H:Hp) (δ:DS) (S:ah) (r:Rs W) (S':ah) (Q:VK),RS K cl ρ G H δ σ S->f δ S=some (r,S')->
  (∀ d,r=.ok d->∀ v ρ' G' H',GS ρ G H ρ' G' H'->SR K ρ' cl G' H' S'->Dw K ρ' G' v d->Q v H')->
  (∀ c,r=.xc c->∀ ρ' G' H',GS ρ G H ρ' G' H'->SR K ρ' cl G' H' S'->E (.ref (cl c)) none H')->t σ H Q
noncomputable def SA (K:Frag) (cl:Str->Addr) (E:XK) (t:TA) (f:DS->ah->SM (List W)):Prop:=
 ∀ (ρ:List Addr) (G:Hp) (σ:St) (H:Hp) (δ:DS) (S:ah) (r:Rs (List W)) (S':ah) (Q:List V->Hp->Prop),RS K cl ρ G H δ σ S->f δ S=some (r,S')->
  (∀ ds,r=.ok ds->∀ vs ρ' G' H',GS ρ G H ρ' G' H'->SR K ρ' cl G' H' S'->aC K ρ' G' vs ds->Q vs H')->
  (∀ c,r=.xc c->∀ ρ' G' H',GS ρ G H ρ' G' H'->SR K ρ' cl G' H' S'->E (.ref (cl c)) none H')->t σ H Q
noncomputable def ST (K:Frag) (cl:Str->Addr) (E:XK) (t:TT) (f:DS->ah->SM Bool):Prop:=
 ∀ (ρ:List Addr) (G:Hp) (σ:St) (H:Hp) (δ:DS) (S:ah) (r:Rs Bool) (S':ah) (Q:Bool->Hp->Prop),RS K cl ρ G H δ σ S->f δ S=some (r,S')->
  (∀ b,r=.ok b->∀ ρ' G' H',GS ρ G H ρ' G' H'->SR K ρ' cl G' H' S'->Q b H')->
  (∀ c,r=.xc c->∀ ρ' G' H',GS ρ G H ρ' G' H'->SR K ρ' cl G' H' S'->E (.ref (cl c)) none H')->t σ H Q
variable {E:XK}
noncomputable def aa {α:Type} (f:DS->Option α):DS->ah->SM α:=λ δ S=>(f δ).map λ d=>(.ok d,S)
theorem iU {α:Type} {f:DS->Option α} {δ:DS} {S S':ah} {r:Rs α} (h:aa f δ S=some (r,S')):∃ d,f δ=some d/\r=.ok d/\S'=S:=by
 obtain ⟨d,e1,e2⟩:=oM h
 cases e2;exact ⟨d,e1,rfl,rfl⟩
theorem BJ {t:TE} {f:DS->Option W} (h:∀ ρ,DE K ρ t f):SE K cl E t (aa f):=λ ρ G σ H δ S r S' Q R e q _=>by
 obtain ⟨d,e1,rfl,rfl⟩:=iU e;exact h ρ G σ H δ d Q R.rl e1 λ v G' H' g dv=>q d rfl v ρ G' H' (.of g) (R.st.grow g) dv
theorem AX {t:TA} {f:DS->Option (List W)} (h:∀ ρ,DA K ρ t f):SA K cl E t (aa f):=λ ρ G σ H δ S r S' Q R e q _=>by
 obtain ⟨d,e1,rfl,rfl⟩:=iU e;exact h ρ G σ H δ d Q R.rl e1 λ v G' H' g dv=>q d rfl v ρ G' H' (.of g) (R.st.grow g) dv
theorem CN {t:TT} {f:DS->Option Bool} (h:∀ ρ,DT K ρ t f):ST K cl E t (aa f):=λ ρ G σ H δ S r S' Q R e q _=>by
 obtain ⟨d,e1,rfl,rfl⟩:=iU e;exact h ρ G σ H δ d Q R.rl e1 λ G' H' g=>q d rfl ρ G' H' (.of g) (R.st.grow g)
noncomputable def ca:DS->ah->SM (List W):=λ _ S=>some (.ok [],S)
noncomputable def aD (f:DS->ah->SM W) (g:DS->ah->SM (List W)):DS->ah->SM (List W):=λ δ S=>ak (f δ S) λ d S1=>ak (g δ S1) λ ds S2=>some (.ok (d::ds),S2)
theorem FJ:SA K cl E md ca:=λ ρ G σ H δ S r S' Q R e q _=>by
 cases e;exact q [] rfl [] ρ G H (.refl R.rl.sub) R.st .nil
theorem Cs {t:TE} {u:TA} {f:DS->ah->SM W} {g:DS->ah->SM (List W)} (h1:SE K cl E t f) (h2:SA K cl E u g):SA K cl E (i9 t u) (aD f g):=λ ρ G σ H δ S r S' Q R e q qx=>by
 rcases aR e with ⟨c,em,rfl⟩ | ⟨d,S1,em,e⟩
 . exact h1 ρ G σ H δ S _ _ _ R em (λ d hd=>by cases hd) (λ c' hc=>by cases hc;exact qx c rfl)
 . refine h1 ρ G σ H δ S _ _ _ R em (λ d' hd=>?_) (λ c' hc=>by cases hc);cases hd;intro v ρ1 G1 H1 g1 s1 dv;have R1:=R.grow g1 s1;rcases aR e with ⟨c,em,rfl⟩ | ⟨ds,S2,em,e⟩
   . exact h2 ρ1 G1 σ H1 δ S1 _ _ _ R1 em (λ d hd=>by cases hd) (λ c' hc=>by cases hc;exact λ ρ2 G2 H2 g2 s2=>qx c rfl ρ2 G2 H2 (g1.trans g2) s2)
   . refine h2 ρ1 G1 σ H1 δ S1 _ _ _ R1 em (λ d' hd=>?_) (λ c' hc=>by cases hc);cases hd;cases e;intro vs ρ2 G2 H2 g2 s2 da;exact q _ rfl _ ρ2 G2 H2 (g1.trans g2) s2 (.cons ((dv.ext g2.r).same g2.g) da)
end
section
variable {K:Frag} {cl:Str->Addr} {E:XK}
theorem dS {α:Type} {t:TE} {f:DS->ah->SM W} (h:SE K cl E t f) {ρ:List Addr} {G:Hp} {σ:St} {H:Hp} {δ:DS} {S:ah} {r:Rs α} {S':ah} {k:W->ah->SM α} {P:V->Hp->Prop} (R:RS K cl ρ G H δ σ S) (e:ak (f δ S) k=some (r,S'))
 (q:∀ d S1,k d S1=some (r,S')->∀ v ρ' G' H',GS ρ G H ρ' G' H'->SR K ρ' cl G' H' S1->Dw K ρ' G' v d->P v H')
 (qx:∀ c,r=.xc c->∀ ρ' G' H',GS ρ G H ρ' G' H'->SR K ρ' cl G' H' S'->E (.ref (cl c)) none H'):t σ H P:=by
 rcases aR e with ⟨c,em,rfl⟩ | ⟨d,S1,em,e⟩
 . exact h ρ G σ H δ S _ _ _ R em (λ d hd=>by cases hd) (λ c' hc=>by cases hc;exact qx c rfl)
 . exact h ρ G σ H δ S _ _ _ R em (λ d' hd=>by cases hd;exact q _ _ e) (λ c' hc=>by cases hc)
theorem j5 {α:Type} {t:TA} {f:DS->ah->SM (List W)} (h:SA K cl E t f) {ρ:List Addr} {G:Hp} {σ:St} {H:Hp} {δ:DS} {S:ah} {r:Rs α} {S':ah} {k:List W->ah->SM α} {P:List V->Hp->Prop} (R:RS K cl ρ G H δ σ S) (e:ak (f δ S) k=some (r,S'))
 (q:∀ d S1,k d S1=some (r,S')->∀ v ρ' G' H',GS ρ G H ρ' G' H'->SR K ρ' cl G' H' S1->aC K ρ' G' v d->P v H')
 (qx:∀ c,r=.xc c->∀ ρ' G' H',GS ρ G H ρ' G' H'->SR K ρ' cl G' H' S'->E (.ref (cl c)) none H'):t σ H P:=by
 rcases aR e with ⟨c,em,rfl⟩ | ⟨d,S1,em,e⟩
 . exact h ρ G σ H δ S _ _ _ R em (λ d hd=>by cases hd) (λ c' hc=>by cases hc;exact qx c rfl)
 . exact h ρ G σ H δ S _ _ _ R em (λ d' hd=>by cases hd;exact q _ _ e) (λ c' hc=>by cases hc)
theorem so {α:Type} {t:TT} {f:DS->ah->SM Bool} (h:ST K cl E t f) {ρ:List Addr} {G:Hp} {σ:St} {H:Hp} {δ:DS} {S:ah} {r:Rs α} {S':ah} {k:Bool->ah->SM α} {P:Bool->Hp->Prop} (R:RS K cl ρ G H δ σ S) (e:ak (f δ S) k=some (r,S'))
 (q:∀ d S1,k d S1=some (r,S')->∀ ρ' G' H',GS ρ G H ρ' G' H'->SR K ρ' cl G' H' S1->P d H')
 (qx:∀ c,r=.xc c->∀ ρ' G' H',GS ρ G H ρ' G' H'->SR K ρ' cl G' H' S'->E (.ref (cl c)) none H'):t σ H P:=by
 rcases aR e with ⟨c,em,rfl⟩ | ⟨d,S1,em,e⟩
 . exact h ρ G σ H δ S _ _ _ R em (λ d hd=>by cases hd) (λ c' hc=>by cases hc;exact qx c rfl)
 . exact h ρ G σ H δ S _ _ _ R em (λ d' hd=>by cases hd;exact q _ _ e) (λ c' hc=>by cases hc)
theorem fN {α:Type} {ta tb:TE} {fa fb:DS->ah->SM W} (ha:SE K cl E ta fa) (hb:SE K cl E tb fb) {ρ:List Addr} {G:Hp} {σ:St} {H:Hp} {δ:DS} {S:ah} {r:Rs α} {S':ah} {k:W->W->ah->SM α} {P:V->V->Hp->Prop} (R:RS K cl ρ G H δ σ S)
 (e:ak (fa δ S) (λ x S1=>ak (fb δ S1) λ y S2=>k x y S2)=some (r,S'))
 (q:∀ x y S2,k x y S2=some (r,S')->∀ v u ρ' G' H',GS ρ G H ρ' G' H'->SR K ρ' cl G' H' S2->Dw K ρ' G' v x->Dw K ρ' G' u y->P v u H')
 (qx:∀ c,r=.xc c->∀ ρ' G' H',GS ρ G H ρ' G' H'->SR K ρ' cl G' H' S'->E (.ref (cl c)) none H'):ta σ H λ v H1=>tb σ H1 λ u H2=>P v u H2:=
 dS ha R e (λ x S1 e1 v ρ1 G1 H1 g1 s1 dv=>dS hb (R.grow g1 s1) e1 (λ y S2 e2 u ρ2 G2 H2 g2 s2 du=>q x y S2 e2 v u ρ2 G2 H2 (g1.trans g2) s2 ((dv.ext g2.r).same g2.g) du) λ c hc ρ2 G2 H2 g2 s2=>qx c hc ρ2 G2 H2 (g1.trans g2) s2) qx
noncomputable def jm {α:Type} (x:Option α) (S:ah):SM α:=x.map λ d=>(.ok d,S)
theorem bZ {α:Type} {x:Option α} {S S':ah} {r:Rs α} (h:jm x S=some (r,S')):∃ d,x=some d/\r=.ok d/\S'=S:=by
 obtain ⟨d,e1,e2⟩:=oM h
 cases e2;exact ⟨d,e1,rfl,rfl⟩
noncomputable def CG (g:W->W->Option W) (fa fb:DS->ah->SM W):DS->ah->SM W:=λ δ S=>ak (fa δ S) λ x S1=>ak (fb δ S1) λ y S2=>jm (g x y) S2
theorem Jb {r:R2} {ta tb:TE} {fa fb:DS->ah->SM W} {g:W->W->Option W} (hr:∀ ρ,DR K ρ r g) (ha:SE K cl E ta fa) (hb:SE K cl E tb fb):SE K cl E (pP r ta tb) (CG g fa fb):=λ ρ G σ H δ S r' S' Q R e q qx=>
 fN ha hb R e (λ x y S2 e2 v u ρ2 G2 H2 g2 s2 dv du=>by
  obtain ⟨c,e3,rfl,rfl⟩:=bZ e2;exact hr ρ2 G2 H2 v u x y c Q g2.s (.inl dv) du e3 λ w G3 H3 g3 dw=>q c rfl w ρ2 G3 H3 (g2.trans (.of g3)) (s2.grow g3) dw) qx
noncomputable def i7 (g:W->W->Option Bool) (fa fb:DS->ah->SM W):DS->ah->SM Bool:=λ δ S=>ak (fa δ S) λ x S1=>ak (fb δ S1) λ y S2=>jm (g x y) S2
noncomputable def sB (f:DS->ah->SM Bool):DS->ah->SM W:=λ δ S=>ak (f δ S) λ b S1=>some (.ok (.bool b),S1)
theorem Fg {r:R2} {ta tb:TE} {fa fb:DS->ah->SM W} {g:W->W->Option Bool} (hr:∀ ρ,DB K ρ r g) (ha:SE K cl E ta fa) (hb:SE K cl E tb fb):ST K cl E (lI (pP r ta tb)) (i7 g fa fb):=λ ρ G σ H δ S r' S' Q R e q qx=>
 fN ha hb R e (λ x y S2 e2 v u ρ2 G2 H2 g2 s2 dv du=>by
  obtain ⟨c,e3,rfl,rfl⟩:=bZ e2;exact hr ρ2 H2 v u x y c _ (dv.same g2.s) (du.same g2.s) e3 ⟨c,rfl,q c rfl ρ2 G2 H2 g2 s2⟩) qx
noncomputable def fX (f g:DS->ah->SM Bool):DS->ah->SM Bool:=λ δ S=>ak (f δ S) λ b S1=>if b=true then g δ S1 else some (.ok false,S1)
noncomputable def AN (f g:DS->ah->SM Bool):DS->ah->SM Bool:=λ δ S=>ak (f δ S) λ b S1=>if b=true then some (.ok true,S1) else g δ S1
noncomputable def lV (f:DS->ah->SM Bool):DS->ah->SM Bool:=λ δ S=>ak (f δ S) λ b S1=>some (.ok (!b),S1)
theorem GL {t u:TT} {f g:DS->ah->SM Bool} (h1:ST K cl E t f) (h2:ST K cl E u g):ST K cl E (Ez t u) (fX f g):=λ ρ G σ H δ S r S' Q R e q qx=>
 so h1 R e (λ b S1 e1 ρ1 G1 H1 g1 s1=>by
  cases b with
  | true=>exact h2 ρ1 G1 σ H1 δ S1 r S' Q (R.grow g1 s1) e1 (λ b hb ρ2 G2 H2 g2 s2=>q b hb ρ2 G2 H2 (g1.trans g2) s2) λ c hc ρ2 G2 H2 g2 s2=>qx c hc ρ2 G2 H2 (g1.trans g2) s2
  | false=>cases e1;exact q false rfl ρ1 G1 H1 g1 s1) qx
theorem IQ {t u:TT} {f g:DS->ah->SM Bool} (h1:ST K cl E t f) (h2:ST K cl E u g):ST K cl E (Mh t u) (AN f g):=λ ρ G σ H δ S r S' Q R e q qx=>
 so h1 R e (λ b S1 e1 ρ1 G1 H1 g1 s1=>by
  cases b with
  | false=>exact h2 ρ1 G1 σ H1 δ S1 r S' Q (R.grow g1 s1) e1 (λ b hb ρ2 G2 H2 g2 s2=>q b hb ρ2 G2 H2 (g1.trans g2) s2) λ c hc ρ2 G2 H2 g2 s2=>qx c hc ρ2 G2 H2 (g1.trans g2) s2
  | true=>cases e1;exact q true rfl ρ1 G1 H1 g1 s1) qx
theorem Fm {t:TT} {f:DS->ah->SM Bool} (h:ST K cl E t f):ST K cl E (GD t) (lV f):=λ ρ G σ H δ S r S' Q R e q qx=>
 so h R e (λ b S1 e1 ρ1 G1 H1 g1 s1=>by cases e1;exact q _ rfl ρ1 G1 H1 g1 s1) qx
noncomputable def CF (c:DS->ah->SM Bool) (f g:DS->ah->SM W):DS->ah->SM W:=λ δ S=>ak (c δ S) λ b S1=>if b=true then f δ S1 else g δ S1
theorem IP {tc:TT} {t u:TE} {c:DS->ah->SM Bool} {f g:DS->ah->SM W} (hc:ST K cl E tc c) (h1:SE K cl E t f) (h2:SE K cl E u g):SE K cl E (Mi tc t u) (CF c f g):=λ ρ G σ H δ S r S' Q R e q qx=>
 so hc R e (λ b S1 e1 ρ1 G1 H1 g1 s1=>by
  cases b with
  | true=>exact h1 ρ1 G1 σ H1 δ S1 r S' Q (R.grow g1 s1) e1 (λ d hd v ρ2 G2 H2 g2 s2 dv=>q d hd v ρ2 G2 H2 (g1.trans g2) s2 dv) λ c hc ρ2 G2 H2 g2 s2=>qx c hc ρ2 G2 H2 (g1.trans g2) s2
  | false=>exact h2 ρ1 G1 σ H1 δ S1 r S' Q (R.grow g1 s1) e1 (λ d hd v ρ2 G2 H2 g2 s2 dv=>q d hd v ρ2 G2 H2 (g1.trans g2) s2 dv) λ c hc ρ2 G2 H2 g2 s2=>qx c hc ρ2 G2 H2 (g1.trans g2) s2) qx
noncomputable def y8 (f:DS->ah->SM (List W)):DS->ah->SM W:=λ δ S=>ak (f δ S) λ ds S1=>if ds.length<=sizeLine then some (.ok (.tuple ds),S1) else none
theorem GA {t:TA} {f:DS->ah->SM (List W)} (h:SA K cl E t f):SE K cl E (z8 t) (y8 f):=λ ρ G σ H δ S r S' Q R e q qx=>
 j5 h R e (λ ds S1 e1 vs ρ1 G1 H1 g1 s1 da=>by
  split at e1
  . rename_i hz;cases e1;refine ⟨by rw [da.length];exact hz,λ p H' n=>?_⟩;have g2:=Gr.nw g1.s n;exact q _ rfl _ ρ1 _ H' (g1.trans (.of g2)) (s1.grow g2) (.tup aO (da.same g2.g))
  . cases e1) qx
noncomputable def xq (f:DS->ah->SM (List W)):DS->ah->SM W:=λ δ S=>ak (f δ S) λ ds S1=>if ds.length<=sizeLine then some (.ok (.list ds),S1) else none
theorem GV {t:TA} {f:DS->ah->SM (List W)} (h:SA K cl E t f):SE K cl E (wC t) (xq f):=λ ρ G σ H δ S r S' Q R e q qx=>
 j5 h R e (λ ds S1 e1 vs ρ1 G1 H1 g1 s1 da=>by
  split at e1
  . rename_i hz;cases e1;refine ⟨by rw [da.length];exact hz,λ p H' n=>?_⟩;have g2:=Gr.nw g1.s n;exact q _ rfl _ ρ1 _ H' (g1.trans (.of g2)) (s1.grow g2) (.lst (eS.of aO) (da.same g2.g))
  . cases e1) qx
noncomputable def bS (f:DS->ah->SM (List W)):DS->ah->SM W:=λ δ S=>ak (f δ S) λ ds S1=>if ds.length<=sizeLine then some (.ok (.ref S1.length),S1++[.lst ds]) else none
theorem BO {t:TA} {f:DS->ah->SM (List W)} (h:SA K cl E t f):SE K cl E (wC t) (bS f):=λ ρ G σ H δ S r S' Q R e q qx=>
 j5 h R e (λ ds S1 e1 vs ρ1 G1 H1 g1 s1 da=>by
  split at e1
  . rename_i hz;cases e1;refine ⟨by rw [da.length];exact hz,λ p H' n=>?_⟩;obtain ⟨s2,g2⟩:=s1.push (o:=.lst ds) g1.s n λ ρ' hr=>⟨vs,n.2.2,da.ext hr⟩
    exact q _ rfl _ _ _ H' (g1.trans g2) s2 (.ref (by rw [<-s1.len];simp))
  . cases e1) qx
noncomputable def xN:DS->ah->SM W:=λ _ S=>some (.ok (.ref S.length),S++[.dK []])
theorem Jv:SE K cl E zX xN:=λ ρ G σ H δ S r S' Q R e q qx=>by
 cases e;intro p hp;obtain ⟨s2,g2⟩:=R.st.push (o:=.dK []) R.rl.sub (Nw.of (o:=.dK []) hp) λ ρ' hr=>⟨[],aO,.nil⟩
 exact q _ rfl _ _ _ _ g2 s2 (.ref (by rw [<-R.st.len];simp))
noncomputable def kB (x:W) (S:ah):Option (Nat×Ob):=match x with
 | .ref n=>(S[n]?).map λ o=>(n,o)
 | _=>none
theorem gb {x:W} {S:ah} {n:Nat} {o:Ob} (h:kB x S=some (n,o)):x=.ref n/\S[n]?=some o:=by
 unfold kB at h;split at h
 . obtain ⟨o',e1,e2⟩:=oM h
   cases e2;exact ⟨rfl,e1⟩
 . cases h
noncomputable def ja (c:Str) (x:W) (S:ah):Option (Nat×List (Str×W)):=match kB x S with
 | some (n,.ins c' fs)=>if c'=c then some (n,fs) else none
 | _=>none
theorem fu {c:Str} {x:W} {S:ah} {n:Nat} {fs:List (Str×W)} (h:ja c x S=some (n,fs)):x=.ref n/\S[n]?=some (.ins c fs):=by
 unfold ja at h;cases e:kB x S with
 | none=>rw [e] at h;cases h
 | some p=>
  obtain ⟨m,o⟩:=p;rw [e] at h;cases o with
  | ins c' fs'=>
   by_cases hc:c'=c
   . subst hc;cases (Oo rfl).symm.trans h;exact gb e
   . cases (Oq hc).symm.trans h
  | _=>cases h
noncomputable def al (c f:Str) (fa:DS->ah->SM W):DS->ah->SM W:=λ δ S=>ak (fa δ S) λ x S1=>(ja c x S1).bind λ p=>jm (p.2.lookup f) S1
theorem cr {ρ:List Addr} {G:Hp} {v:V} {n:Nat} (h:Dw K ρ G v (.ref n)):∃ a,v=.ref a/\ρ[n]?=some a:=by
 cases h with
 | ref e=>exact ⟨_,rfl,e⟩
theorem Hm {c f:Str} {ta:TE} {fa:DS->ah->SM W} (hc:eU K (cl c)) (hn:ac K (cl c) f) (ha:SE K cl E ta fa):SE K cl E (Hk K ta f) (al c f fa):=λ ρ G σ H δ S r S' Q R e q qx=>
 dS ha R e (λ x S1 e1 v ρ1 G1 H1 g1 s1 dv=>by
  obtain ⟨⟨n,fs⟩,e2,e3⟩:=oB e1
  obtain ⟨d,e4,rfl,rfl⟩:=bZ e3;obtain ⟨rfl,e5⟩:=fu e2;obtain ⟨a,rfl,ea⟩:=cr dv;obtain ⟨ga,dx,ws,k1,k2,k3,k4⟩:=s1.addr e5 ea;obtain ⟨u,k5,k6⟩:=k4.lookup e4;exact ⟨a,_,dx,ws,u,rfl,k1,hc,hn,k5,q d rfl u ρ1 G1 H1 g1 s1 k6⟩) qx
noncomputable def uL (K:Frag) (cl:Str->Addr) (f:List W->ah->SM W):Sp:=λ vs H Q E=>∃ ρ G S ds r S',bE G H/\SR K ρ cl G H S/\aC K ρ G vs ds/\f ds S=some (r,S')/\
 (∀ d,r=.ok d->∀ v ρ' G' H',GS ρ G H ρ' G' H'->SR K ρ' cl G' H' S'->Dw K ρ' G' v d->Q v H')/\(∀ c,r=.xc c->∀ ρ' G' H',GS ρ G H ρ' G' H'->SR K ρ' cl G' H' S'->E (.ref (cl c)) none H')
noncomputable def fY (f:List W->Option W) (fa:DS->ah->SM (List W)):DS->ah->SM W:=λ δ S=>ak (fa δ S) λ ds S1=>jm (f ds) S1
theorem Ag {f:List W->Option W} {t:TA} {fa:DS->ah->SM (List W)} {E':XK} (h:SA K cl E t fa):SE K cl E (tM (oy K f) [] E' t) (fY f fa):=λ ρ G σ H δ S r S' Q R e q qx=>
 j5 h R e (λ ds S1 e1 vs ρ1 G1 H1 g1 s1 da=>by
  obtain ⟨d,e2,rfl,rfl⟩:=bZ e1;exact ⟨ρ1,G1,ds,d,g1.s,by rw [Oz];exact da,e2,λ v G2 H2 g2 dv=>q d rfl v ρ1 G2 H2 (g1.trans (.of g2)) (s1.grow g2) dv⟩) qx
noncomputable def bn (c m:Str) (f:List W->ah->SM W) (fo:DS->ah->SM W) (fa:DS->ah->SM (List W)):DS->ah->SM W:=λ δ S=>ak (fo δ S) λ x S1=>(ja c x S1).bind λ p=>if p.2.lookup m=none then ak (fa δ S1) λ ds S2=>f (x::ds) S2 else none
theorem zn {c m:Str} {f:List W->ah->SM W} {to:TE} {t:TA} {fo:DS->ah->SM W} {fa:DS->ah->SM (List W)} (ho:SE K cl E to fo) (h:SA K cl E t fa):SE K cl E (qy (cl c) m (uL K cl f) [] E to t) (bn c m f fo fa):=λ ρ G σ H δ S r S' Q R e q qx=>
 dS ho R e (λ x S1 e1 v ρ1 G1 H1 g1 s1 dv=>by
  obtain ⟨⟨n,fs⟩,e2,e3⟩:=oB e1
  split at e3
  case isFalse=>cases e3
  rename_i hm;obtain ⟨rfl,e5⟩:=fu e2;obtain ⟨a,rfl,ea⟩:=cr dv;obtain ⟨ga,dx,ws,k1,k2,k3,k4⟩:=s1.addr e5 ea;refine ⟨a,dx,ws,rfl,k1,k4.lookup_none hm,?_⟩;exact j5 h (R.grow g1 s1) e3 (λ ds S2 e6 vs ρ2 G2 H2 g2 s2 da=>⟨ρ2,G2,S2,.ref n::ds,r,S',g2.s,s2,by rw [Oz];exact .cons ((dv.ext g2.r).same g2.g) da,e6,λ d hd v ρ3 G3 H3 g3 s3 dv=>q d hd v ρ3 G3 H3 (g1.trans (g2.trans g3)) s3 dv,λ c hc ρ3 G3 H3 g3 s3=>qx c hc ρ3 G3 H3 (g1.trans (g2.trans g3)) s3⟩) λ c hc ρ2 G2 H2 g2 s2=>qx c hc ρ2 G2 H2 (g1.trans g2) s2) qx
noncomputable def hV (K:Frag) (cl:Str->Addr) (f:List W->ah->SM W):Sp:=λ vs H Q _=>∃ ρ G S ds d S',bE G H/\SR K ρ cl G H S/\aC K ρ G vs ds/\f ds S=some (.ok d,S')/\
 ∀ v ρ' G' H',GS ρ G H ρ' G' H'->SR K ρ' cl G' H' S'->Dw K ρ' G' v d->Q v H'
noncomputable def noX (m:SM W):SM W:=match m with
 | some (.ok d,S)=>some (.ok d,S)
 | _=>none
theorem kR {m:SM W} {r:Rs W} {S':ah} (h:noX m=some (r,S')):∃ d,r=.ok d/\m=some (.ok d,S'):=by
 unfold noX at h;split at h
 . cases h;exact ⟨_,rfl,rfl⟩
 . cases h
noncomputable def cA (f:List W->ah->SM W) (fa:DS->ah->SM (List W)):DS->ah->SM W:=λ δ S=>ak (fa δ S) λ ds S1=>noX (f ds S1)
theorem Ct {f:List W->ah->SM W} {t:TA} {fa:DS->ah->SM (List W)} {E':XK} (h:SA K cl E t fa):SE K cl E (tM (hV K cl f) [] E' t) (cA f fa):=λ ρ G σ H δ S r S' Q R e q qx=>
 j5 h R e (λ ds S1 e1 vs ρ1 G1 H1 g1 s1 da=>by
  obtain ⟨d,rfl,e2⟩:=kR e1;exact ⟨ρ1,G1,S1,ds,d,S',g1.s,s1,by rw [Oz];exact da,e2,λ v ρ2 G2 H2 g2 s2 dv=>q d rfl v ρ2 G2 H2 (g1.trans g2) s2 dv⟩) qx
noncomputable def bH (c m:Str) (f:List W->ah->SM W) (fo:DS->ah->SM W) (fa:DS->ah->SM (List W)):DS->ah->SM W:=λ δ S=>ak (fo δ S) λ x S1=>(ja c x S1).bind λ p=>if p.2.lookup m=none then ak (fa δ S1) λ ds S2=>noX (f (x::ds) S2) else none
theorem v4 {c m:Str} {f:List W->ah->SM W} {to:TE} {t:TA} {fo:DS->ah->SM W} {fa:DS->ah->SM (List W)} {E':XK} (ho:SE K cl E to fo) (h:SA K cl E t fa):SE K cl E (qy (cl c) m (hV K cl f) [] E' to t) (bH c m f fo fa):=λ ρ G σ H δ S r S' Q R e q qx=>
 dS ho R e (λ x S1 e1 v ρ1 G1 H1 g1 s1 dv=>by
  obtain ⟨⟨n,fs⟩,e2,e3⟩:=oB e1
  split at e3
  case isFalse=>cases e3
  rename_i hm;obtain ⟨rfl,e5⟩:=fu e2;obtain ⟨a,rfl,ea⟩:=cr dv;obtain ⟨ga,dx,ws,k1,k2,k3,k4⟩:=s1.addr e5 ea;refine ⟨a,dx,ws,rfl,k1,k4.lookup_none hm,?_⟩;exact j5 h (R.grow g1 s1) e3 (λ ds S2 e6 vs ρ2 G2 H2 g2 s2 da=>by
   obtain ⟨d,rfl,e7⟩:=kR e6;exact ⟨ρ2,G2,S2,.ref n::ds,d,S',g2.s,s2,by rw [Oz];exact .cons ((dv.ext g2.r).same g2.g) da,e7,λ v ρ3 G3 H3 g3 s3 dv=>q d rfl v ρ3 G3 H3 (g1.trans (g2.trans g3)) s3 dv⟩) λ c hc ρ2 G2 H2 g2 s2=>qx c hc ρ2 G2 H2 (g1.trans g2) s2) qx
noncomputable def jB (c:Str) (f:List W->ah->SM W) (fa:DS->ah->SM (List W)):DS->ah->SM W:=λ δ S=>ak (fa δ S) λ ds S1=>ak (noX (f (.ref S1.length::ds) (S1++[.ins c []]))) λ d S2=>match d with
 | .none=>some (.ok (.ref S1.length),S2)
 | _=>none
theorem Bx {c:Str} {f:List W->ah->SM W} {t:TA} {fa:DS->ah->SM (List W)} {E':XK} (h:SA K cl E t fa):SE K cl E (xX (cl c) (hV K cl f) [] E' t) (jB c f fa):=λ ρ G σ H δ S r S' Q R e q qx=>
 j5 h R e (λ ds S1 e1 vs ρ1 G1 H1 g1 s1 da=>by
  intro x dx hx hdx hne;have na:Nw H1 (d6 H1 dx (.own x)) dx (.own x):=.of hdx;have gA:Gr G1 H1 G1 (d6 H1 dx (.own x)):=.nwO g1.s na;have hx':(d6 H1 dx (.own x)) x=none:=by rw [aP (Pt hne)];exact hx
  have nb:Nw (d6 H1 dx (.own x)) (d6 (d6 H1 dx (.own x)) x (.ins (cl c) dx [])) x (.ins (cl c) dx []):=.of hx';obtain ⟨s2,g2⟩:=(s1.grow gA).push (o:=.ins c []) gA.s nb λ ρ' hr=>⟨dx,[],aO,gZ g1.s hdx,by rw [aP hne];exact aO,.nil⟩
  have g12:=(GS.of (ρ:=ρ1) gA).trans g2;have dx1:aC K (ρ1++[x]) G1 (.ref x::vs) (.ref S1.length::ds):=.cons (.ref (by rw [<-s1.len];simp)) (da.ext ⟨[x],rfl⟩);rcases aR e1 with ⟨c',em,rfl⟩ | ⟨d,S2,em,e2⟩
  . obtain ⟨_,z,_⟩:=kR em;cases z
  . obtain ⟨d',z,em⟩:=kR em;cases z;refine ⟨_,G1,_,_,_,_,g2.s,s2,by rw [Oz];exact dx1,em,λ v ρ3 G3 H3 g3 s3 dv=>?_⟩;split at e2
    . cases e2;exact ⟨uy dv,q _ rfl _ ρ3 G3 H3 (g1.trans (g12.trans g3)) s3 (.ref (by
       have h1:(ρ1++[x])[S1.length]?=some x:=by rw [<-s1.len];simp
       obtain ⟨t',ht⟩:=g3.r;rw [<-ht,OJ (oG h1).1];exact h1))⟩
    . cases e2) qx
noncomputable def Ku (K:Frag) (cl:Str->Addr) (E:XK) (wi:TI) (f:DS->ah->SM (List W)):Prop:=
 ∀ (ρ:List Addr) (G:Hp) (σ:St) (H:Hp) (δ:DS) (S:ah) (r:Rs (List W)) (S':ah) (R':It->Hp->Prop),RS K cl ρ G H δ σ S->f δ S=some (r,S')->
  (∀ ds,r=.ok ds->∀ J ρ' G' H',GS ρ G H ρ' G' H'->SR K ρ' cl G' H' S'->Nh K ρ' J G' ds->R' J H')->
  (∀ c,r=.xc c->∀ ρ' G' H',GS ρ G H ρ' G' H'->SR K ρ' cl G' H' S'->E (.ref (cl c)) none H')->wi σ H R'
theorem zr {wi:TI} {f:DS->Option (List W)} (h:∀ ρ,DI K ρ wi f):Ku K cl E wi (aa f):=λ ρ G σ H δ S r S' R' R e q qx=>by
 obtain ⟨ds,e1,rfl,rfl⟩:=iU e;exact h ρ G σ H δ ds R' R.rl e1 λ J G' H' g it=>q ds rfl J ρ G' H' (.of g) (R.st.grow g) it
end
inductive oY where
 | nx (δ:DS)
 | bk (δ:DS)
 | ct (δ:DS)
 | rt (d:W)
 | xc (c:Str)
noncomputable abbrev SO:=Option (oY×ah)
section
variable {K:Frag} {cl:Str->Addr} {E:XK}
structure jO (K:Frag) (cl:Str->Addr) (ρ0:List Addr) (G0 H0:Hp) (ρ:List Addr) (G H:Hp) (δ:DS) (σ:St) (S:ah):Prop where
 rs:RS K cl ρ G H δ σ S
 gs:GS ρ0 G0 H0 ρ G H
 ow:∀ (i:Nat) p ds,δ[i]?=some (.own ds)->σ[i]?=some (some (.ref p))->H0 p=none
noncomputable def xS (K:Frag) (cl:Str->Addr) (E:XK) (ρ0:List Addr) (G0 H0:Hp) (D:iZ) (S:ah):oY->Prop
 | .nx δ=>∀ σ ρ G H,jO K cl ρ0 G0 H0 ρ G H δ σ S->D.nx σ H
 | .bk δ=>∀ σ ρ G H,jO K cl ρ0 G0 H0 ρ G H δ σ S->D.bk σ H
 | .ct δ=>∀ σ ρ G H,jO K cl ρ0 G0 H0 ρ G H δ σ S->D.ct σ H
 | .rt d=>∀ v ρ G H,GS ρ0 G0 H0 ρ G H->SR K ρ cl G H S->Dw K ρ G v d->D.rt v H
 | .xc c=>∀ ρ G H,GS ρ0 G0 H0 ρ G H->SR K ρ cl G H S->E (.ref (cl c)) none H
noncomputable def kc (K:Frag) (cl:Str->Addr) (E:XK) (t:TS) (f:DS->ah->SO):Prop:=
 ∀ (ρ0:List Addr) (G0 H0:Hp) (ρ:List Addr) (G:Hp) (σ:St) (H:Hp) (δ:DS) (S:ah) (o:oY) (S':ah) (D:iZ),jO K cl ρ0 G0 H0 ρ G H δ σ S->f δ S=some (o,S')->xS K cl E ρ0 G0 H0 D S' o->t D σ H
theorem jO.grow {ρ0:List Addr} {G0 H0:Hp} {ρ ρ':List Addr} {G H G' H':Hp} {δ:DS} {σ:St} {S S':ah} (I:jO K cl ρ0 G0 H0 ρ G H δ σ S) (g:GS ρ G H ρ' G' H') (s:SR K ρ' cl G' H' S'):jO K cl ρ0 G0 H0 ρ' G' H' δ σ S':=⟨I.rs.grow g s,I.gs.trans g,I.ow⟩
theorem jO.sub {ρ0:List Addr} {G0 H0:Hp} {ρ:List Addr} {G H:Hp} {δ δ':DS} {σ σ':St} {S:ah} (I:jO K cl ρ0 G0 H0 ρ G H δ σ S) (R:Rl K ρ G H δ' σ') (o:gS δ' σ' δ σ):jO K cl ρ0 G0 H0 ρ G H δ' σ' S:=
 ⟨⟨R,I.rs.st,λ i ds p h1 h2=>by
  obtain ⟨es,h3,h4⟩:=o i ds p h1 h2;exact I.rs.ap i es p h3 h4⟩,I.gs,λ i p ds h1 h2=>by
  obtain ⟨es,h3,h4⟩:=o i ds p h1 h2;exact I.ow i p es h3 h4⟩
theorem jO.base {ρ0:List Addr} {G0 H0:Hp} {ρ:List Addr} {G H:Hp} {δ:DS} {σ:St} {S:ah} (I:jO K cl ρ0 G0 H0 ρ G H δ σ S):jO K cl ρ G H0 ρ G H δ σ S:=
 ⟨I.rs,⟨O9 _,.refl _,I.gs.s,λ b o hb e=>I.gs.h b o (λ h=>hb (I.gs.r.subset h)) e,I.gs.k,λ _ _ e=>e,λ a h1 h2=>absurd h1 h2,I.gs.t⟩,I.ow⟩
theorem GS.rebase {ρ0:List Addr} {G0 H0:Hp} {ρ:List Addr} {G H:Hp} {ρ':List Addr} {G' H':Hp} (a:GS ρ0 G0 H0 ρ G H) (b:GS ρ G H0 ρ' G' H'):GS ρ0 G0 H0 ρ' G' H':=
 ⟨a.r.trans b.r,a.g.trans b.g,b.s,λ c o hc e=>b.h c o (λ h=>by rw [a.f c h hc] at e;cases e) e,b.k,λ c h1 h2=>b.n c h1 (a.n c h1 h2),(λ c h1 h2=>by
  by_cases h3:c∈ρ
  . exact a.f c h3 h2
  . exact b.f c h1 h3),b.t⟩
theorem jO.rebase {ρ0:List Addr} {G0 H0:Hp} {ρ:List Addr} {G H:Hp} {ρ':List Addr} {G' H':Hp} {δ:DS} {σ:St} {S:ah} (a:GS ρ0 G0 H0 ρ G H) (I:jO K cl ρ G H0 ρ' G' H' δ σ S):jO K cl ρ0 G0 H0 ρ' G' H' δ σ S:=⟨I.rs,a.rebase I.gs,I.ow⟩
noncomputable def tQ (δ:DS) (σ:St) (b:Addr):Prop:=∃ (i:Nat) (ds:List W),δ[i]?=some (.own ds)/\σ[i]?=some (some (.ref b))
noncomputable def hideO (δ:DS) (σ:St) (H:Hp):Hp:=λ b=>@ite _ (tQ δ σ b) (Classical.propDecidable _) none (H b)
theorem qm {δ:DS} {σ:St} {H:Hp} {b:Addr} (h:tQ δ σ b):hideO δ σ H b=none:=by
 unfold hideO;rw [Oo h]
theorem dP {δ:DS} {σ:St} {H:Hp} {b:Addr} (h:¬ tQ δ σ b):hideO δ σ H b=H b:=by
 unfold hideO;rw [Oq h]
noncomputable def ym:dR->oY
 | .nx δ=>.nx δ
 | .bk δ=>.bk δ
 | .ct δ=>.ct δ
 | .rt d=>.rt d
noncomputable def aq (f:DS->Option dR):DS->ah->SO:=λ δ S=>(f δ).map λ o=>(ym o,S)
theorem Ca {t:TS} {f:DS->Option dR} (h:∀ ρ,pc K ρ t f):kc K cl E t (aq f):=λ ρ0 G0 H0 ρ G σ H δ S o S' D I e p=>by
 obtain ⟨o',e1,e2⟩:=oM e
 cases e2;have same0:bE (hideO δ σ H) H:=λ b u hb=>by
  by_cases ho:tQ δ σ b
  . rw [qm ho] at hb;cases hb
  . rw [dP ho] at hb;exact hb
 have sameG:bE G (hideO δ σ H):=λ b u hb=>by
  by_cases ho:tQ δ σ b
  . obtain ⟨i,ds,k1,k2⟩:=ho;obtain ⟨o,m1,q,vs,rfl,m3,m4,m5⟩:=I.rs.rl.sl i _ k1;rw [k2] at m1;cases m1;rw [m3] at hb;cases hb
  . rw [dP ho];exact I.gs.s b u hb
 have notown:∀ a,a∈ρ->¬ tQ δ σ a:=λ a ha hy0=>by obtain ⟨i,ds,k1,k2⟩:=hy0;exact I.rs.ap i ds a k1 k2 ha
 have ownlst:∀ b,tQ δ σ b->∃ vs,H b=some (.lst vs):=λ b hy0=>by
  obtain ⟨i,ds,k1,k2⟩:=hy0;obtain ⟨o,m1,q,vs,rfl,m3,m4,m5⟩:=I.rs.rl.sl i _ k1;rw [k2] at m1;cases m1;exact ⟨vs,m4⟩
 have sr0:SR K ρ cl G (hideO δ σ H) S:=⟨I.rs.st.len,I.rs.st.nd,λ n ob en=>by
  obtain ⟨a,k1,k2,k3⟩:=I.rs.st.ob n ob en;refine ⟨a,k1,k2,k3.move (O9 _) (.refl _) (dP (notown a (O8 k1))) λ dx d1 d2=>⟨?_,d1⟩⟩;rw [dP λ ho=>by
   obtain ⟨vs,hv⟩:=ownlst dx ho;rw [d2] at hv;cases hv]
  exact d2⟩
 have iv:Iv K ρ G (hideO δ σ H) G H δ σ:=⟨I.rs.rl,⟨.refl _,same0,I.gs.s,λ _ _ e=>e⟩,λ i q ds k1 k2=>qm ⟨i,ds,k1,k2⟩⟩
 have h0own:∀ b,H0 b≠none->¬ tQ δ σ b:=λ b hb hy0=>by obtain ⟨i,ds,k1,k2⟩:=hy0;exact hb (I.ow i b ds k1 k2)
 have gs:∀ {G' H':Hp},Gr G (hideO δ σ H) G' H'->GS ρ0 G0 H0 ρ G' H':=λ {G' H'} g=>
  ⟨I.gs.r,I.gs.g.trans g.g,g.s,λ b u hb eb=>g.h b u (by rw [dP (h0own b (by rw [eb];simp))];exact I.gs.h b u hb eb),λ b hb=>rh g.h (by rw [dP (h0own b hb)];exact I.gs.k b hb),λ b h1 h2=>g.n b (by unfold nT;rw [dP (h0own b h1.1)];exact I.gs.t b h1) (I.gs.n b h1 h2),I.gs.f,λ b h1=>nT.same (by unfold nT;rw [dP (h0own b h1.1)];exact I.gs.t b h1) g.h⟩
 have nx:∀ {δ':DS} {σ':St} {G' H':Hp},Iv K ρ G (hideO δ σ H) G' H' δ' σ'->jO K cl ρ0 G0 H0 ρ G' H' δ' σ' S:=λ {δ' σ' G' H'} I'=>
  ⟨⟨I'.rl,sr0.grow I'.gr,λ i ds q k1 k2 hq=>by
   have:=I'.ow i q ds k1 k2;rw [dP (notown q hq)] at this;obtain ⟨j,hj,ej⟩:=List.mem_iff_getElem.mp hq;obtain ⟨b,m1,m2,m3⟩:=I.rs.st.ob j (S[j]'(by rw [<-I.rs.st.len];exact hj)) (OF _);rw [OF hj,ej] at m1;cases m1;obtain ⟨y,hy,_⟩:=m3.some;rw [this] at hy;cases hy⟩,gs I'.gr,λ i q ds k1 k2=>by
   have h1:=I'.ow i q ds k1 k2;cases h2:H0 q with
   | none=>rfl
   | some u=>
    exfalso;have h3:=I.gs.k q (by rw [h2];simp);rw [dP (h0own q (by rw [h2];simp))] at h1;exact h3 h1⟩
 refine h ρ G (hideO δ σ H) G σ H δ o' D iv e1 ?_;cases o' with
 | nx δ'=>exact λ σ' G' H' I'=>p σ' ρ G' H' (nx I')
 | bk δ'=>exact λ σ' G' H' I'=>p σ' ρ G' H' (nx I')
 | ct δ'=>exact λ σ' G' H' I'=>p σ' ρ G' H' (nx I')
 | rt d=>exact λ v G' H' g dv=>p v ρ G' H' (gs g) (sr0.grow g) dv
noncomputable def au (f g:DS->ah->SO):DS->ah->SO:=λ δ S=>match f δ S with
 | some (.nx δ',S')=>g δ' S'
 | o=>o
theorem Ab {t u:TS} {f g:DS->ah->SO} (h1:kc K cl E t f) (h2:kc K cl E u g):kc K cl E (Gs t u) (au f g):=λ ρ0 G0 H0 ρ G σ H δ S o S' D I e p=>by
 unfold au at e;cases ef:f δ S with
 | none=>rw [ef] at e;cases e
 | some r=>
  obtain ⟨o1,S1⟩:=r;rw [ef] at e;refine h1 ρ0 G0 H0 ρ G σ H δ S o1 S1 _ I ef ?_;cases o1 with
  | nx δ'=>exact λ σ' ρ' G' H' I'=>h2 ρ0 G0 H0 ρ' G' σ' H' δ' S1 o S' D I' e p
  | bk δ'=>cases e;exact p
  | ct δ'=>cases e;exact p
  | rt d=>cases e;exact p
  | xc c=>cases e;exact p
noncomputable def i4 {α:Type} (m:SM α) (k:α->ah->SO):SO:=match m with
 | some (.ok a,S)=>k a S
 | some (.xc c,S)=>some (.xc c,S)
 | none=>none
theorem j1 {α:Type} {m:SM α} {k:α->ah->SO} {o:oY} {S':ah} (h:i4 m k=some (o,S')):(∃ c,m=some (.xc c,S')/\o=.xc c)∨∃ a S1,m=some (.ok a,S1)/\k a S1=some (o,S'):=by
 unfold i4 at h;split at h
 . exact .inr ⟨_,_,rfl,h⟩
 . cases h;exact .inl ⟨_,rfl,rfl⟩
 . cases h
theorem fw {t:TE} {f:DS->ah->SM W} (h:SE K cl E t f) {ρ0:List Addr} {G0 H0:Hp} {ρ:List Addr} {G:Hp} {σ:St} {H:Hp} {δ:DS} {S:ah} {o:oY} {S':ah} {D:iZ} {k:W->ah->SO} {P:V->Hp->Prop} (I:jO K cl ρ0 G0 H0 ρ G H δ σ S) (e:i4 (f δ S) k=some (o,S')) (p:xS K cl E ρ0 G0 H0 D S' o)
 (q:∀ d S1,k d S1=some (o,S')->∀ v ρ' G' H',GS ρ G H ρ' G' H'->SR K ρ' cl G' H' S1->Dw K ρ' G' v d->P v H'):t σ H P:=by
 rcases j1 e with ⟨c,em,rfl⟩ | ⟨d,S1,em,e⟩
 . exact h ρ G σ H δ S _ _ _ I.rs em (λ d hd=>by cases hd) (λ c' hc ρ1 G1 H1 g1 s1=>by cases hc;exact p ρ1 G1 H1 (I.gs.trans g1) s1)
 . exact h ρ G σ H δ S _ _ _ I.rs em (λ d' hd=>by cases hd;exact q _ _ e) (λ c' hc=>by cases hc)
theorem vD {t:TT} {f:DS->ah->SM Bool} (h:ST K cl E t f) {ρ0:List Addr} {G0 H0:Hp} {ρ:List Addr} {G:Hp} {σ:St} {H:Hp} {δ:DS} {S:ah} {o:oY} {S':ah} {D:iZ} {k:Bool->ah->SO} {P:Bool->Hp->Prop} (I:jO K cl ρ0 G0 H0 ρ G H δ σ S) (e:i4 (f δ S) k=some (o,S')) (p:xS K cl E ρ0 G0 H0 D S' o)
 (q:∀ d S1,k d S1=some (o,S')->∀ ρ' G' H',GS ρ G H ρ' G' H'->SR K ρ' cl G' H' S1->P d H'):t σ H P:=by
 rcases j1 e with ⟨c,em,rfl⟩ | ⟨d,S1,em,e⟩
 . exact h ρ G σ H δ S _ _ _ I.rs em (λ d hd=>by cases hd) (λ c' hc ρ1 G1 H1 g1 s1=>by cases hc;exact p ρ1 G1 H1 (I.gs.trans g1) s1)
 . exact h ρ G σ H δ S _ _ _ I.rs em (λ d' hd=>by cases hd;exact q _ _ e) (λ c' hc=>by cases hc)
noncomputable def bj (c:DS->ah->SM Bool) (f g:DS->ah->SO):DS->ah->SO:=λ δ S=>i4 (c δ S) λ b S1=>if b=true then f δ S1 else g δ S1
theorem D1 {tc:TT} {t u:TS} {c:DS->ah->SM Bool} {f g:DS->ah->SO} (hc:ST K cl E tc c) (h1:kc K cl E t f) (h2:kc K cl E u g):kc K cl E (EN tc t u) (bj c f g):=λ ρ0 G0 H0 ρ G σ H δ S o S' D I e p=>
 vD hc I e p λ b S1 e1 ρ1 G1 H1 g1 s1=>by
  cases b with
  | true=>exact h1 ρ0 G0 H0 ρ1 G1 σ H1 δ S1 o S' D (I.grow g1 s1) e1 p
  | false=>exact h2 ρ0 G0 H0 ρ1 G1 σ H1 δ S1 o S' D (I.grow g1 s1) e1 p
noncomputable def eC (f:DS->ah->SM W):DS->ah->SO:=λ δ S=>i4 (f δ S) λ d S1=>some (.rt d,S1)
theorem zq {t:TE} {f:DS->ah->SM W} (h:SE K cl E t f):kc K cl E (Gq t) (eC f):=λ ρ0 G0 H0 ρ G σ H δ S o S' D I e p=>
 fw h I e p λ d S1 e1 v ρ1 G1 H1 g1 s1 dv=>by
  cases e1;exact p v ρ1 G1 H1 (I.gs.trans g1) s1 dv
noncomputable def cR (f:DS->ah->SM W) (h:W->DS->Option DS):DS->ah->SO:=λ δ S=>i4 (f δ S) λ d S1=>(h d δ).map λ δ'=>(.nx δ',S1)
theorem yU {t:TE} {g:TG} {f:DS->ah->SM W} {h:W->DS->Option DS} (h1:SE K cl E t f) (h2:∀ ρ,DG K ρ g h):kc K cl E (uH t g) (cR f h):=λ ρ0 G0 H0 ρ G σ H δ S o S' D I e p=>
 fw h1 I e p λ d S1 e1 v ρ1 G1 H1 g1 s1 dv=>by
  obtain ⟨δ',e2,e3⟩:=oM e1
  cases e3;have I1:=I.grow g1 s1;exact h2 ρ1 G1 H1 δ σ v d δ' _ I1.rs.rl dv e2 λ σ' R o=>p σ' ρ1 G1 H1 (I1.sub R o)
noncomputable def aS (f:DS->ah->SM W):DS->ah->SO:=λ δ S=>i4 (f δ S) λ _ S1=>some (.nx δ,S1)
theorem vU {t:TE} {f:DS->ah->SM W} (h:SE K cl E t f):kc K cl E (wd t) (aS f):=λ ρ0 G0 H0 ρ G σ H δ S o S' D I e p=>
 fw h I e p λ d S1 e1 v ρ1 G1 H1 g1 s1 dv=>by
  cases e1;exact p σ ρ1 G1 H1 (I.grow g1 s1)
noncomputable def J8 (i:Nat) (f:DS->ah->SO):DS->ah->SO:=λ δ S=>f (frz i δ) S
noncomputable def cB (c f:Str) (fo fv:DS->ah->SM W):DS->ah->SO:=λ δ S=>i4 (fv δ S) λ d S1=>i4 (fo δ S1) λ x S2=>(ja c x S2).bind λ p=>if p.2.length<1000 then some (.nx δ,S2.set p.1 (.ins c (eh f d p.2))) else none
theorem zh {c f:Str} {to tv:TE} {fo fv:DS->ah->SM W} (hc:eU K (cl c)) (hn:ac K (cl c) f) (ho:SE K cl E to fo) (hv:SE K cl E tv fv):kc K cl E (IC K to tv f) (cB c f fo fv):=λ ρ0 G0 H0 ρ G σ H δ S o S' D I e p=>
 fw hv I e p λ d S1 e1 v ρ1 G1 H1 g1 s1 dv=>by
  have I1:=I.grow g1 s1;refine fw ho I1 e1 p λ x S2 e2 u ρ2 G2 H2 g2 s2 du=>?_;obtain ⟨⟨n,fs⟩,e3,e4⟩:=oB e2
  split at e4
  case isFalse=>cases e4
  rename_i hl;cases e4;obtain ⟨rfl,e5⟩:=fu e3;obtain ⟨a,rfl,ea⟩:=cr du;obtain ⟨ga,dx,ws,k1,k2,k3,k4⟩:=s2.addr e5 ea;have I2:=I1.grow g2 s2;have hda:dx≠a:=λ z=>by rw [z,k1] at k3;cases k3
  obtain ⟨s3,g3⟩:=s2.put (x:=.ins (cl c) dx (putF f v ws)) (o':=.ins c (eh f d fs)) g2.s e5 ea (λ b z=>by cases z) ⟨dx,_,aO,k2,by rw [aP hda];exact k3,k4.putF ((dv.ext g2.r).same g2.g)⟩;exact ⟨a,_,dx,ws,rfl,k1,hc,hn,by rw [<-k4.length];exact hl,p σ ρ2 G2 _ (I2.grow g3 s3)⟩
noncomputable def j4 (c f:Str) (fo fv:DS->ah->SM W):DS->ah->SO:=λ δ S=>i4 (fo δ S) λ x S1=>(ja c x S1).bind λ p=>(p.2.lookup f).bind λ old=>i4 (fv δ S1) λ y S2=>(gI (λ i j=>i+j) old y).bind λ z=>(ja c x S2).bind λ p2=>if p2.2.length<1000 then some (.nx δ,S2.set p2.1 (.ins c (eh f z p2.2))) else none
theorem x9 {c f:Str} {to tv:TE} {fo fv:DS->ah->SM W} (hc:eU K (cl c)) (hn:ac K (cl c) f) (ho:SE K cl E to fo) (hv:SE K cl E tv fv):kc K cl E (re K to tv Ij f) (j4 c f fo fv):=λ ρ0 G0 H0 ρ G σ H δ S o S' D I e p=>
 fw ho I e p λ x S1 e1 u ρ1 G1 H1 g1 s1 du=>by
  obtain ⟨⟨n,fs⟩,e3,e4⟩:=oB e1
  obtain ⟨old,e5,e6⟩:=oB e4
  obtain ⟨rfl,e7⟩:=fu e3;obtain ⟨a,rfl,ea⟩:=cr du;obtain ⟨ga,dx,ws,k1,k2,k3,k4⟩:=s1.addr e7 ea;obtain ⟨ov,k5,k6⟩:=k4.lookup e5;have I1:=I.grow g1 s1;refine ⟨a,_,dx,ws,ov,rfl,k1,hc,hn,k5,?_⟩;refine fw hv I1 e6 p λ y S2 e8 v ρ2 G2 H2 g2 s2 dv=>?_;obtain ⟨z,e9,e10⟩:=oB e8
  obtain ⟨⟨m,fs2⟩,e11,e12⟩:=oB e10
  split at e12
  case isFalse=>cases e12
  rename_i hl;cases e12;obtain ⟨em,e13⟩:=fu e11;cases em;have ea2:ρ2[n]?=some a:=by
   obtain ⟨t',ht⟩:=g2.r;rw [<-ht,OJ (oG ea).1];exact ea
  obtain ⟨ga2,dx2,ws2,m1,m2,m3,m4⟩:=s2.addr e13 ea2;have I2:=I1.grow g2 s2;have hda:dx2≠a:=λ zz=>by rw [zz,m1] at m3;cases m3
  unfold gI at e9;split at e9
  . cases e9;cases eg k6;cases eg dv;rename_i i j;obtain ⟨s3,g3⟩:=s2.put (x:=.ins (cl c) dx2 (putF f (.int (i+j)) ws2)) (o':=.ins c (eh f (.int (i+j)) fs2)) g2.s e13 ea2 (λ b zz=>by cases zz) ⟨dx2,_,aO,m2,by rw [aP hda];exact m3,m4.putF (.int _)⟩;exact ⟨i,j,rfl,rfl,dx2,ws2,m1,by rw [<-m4.length];exact hl,p σ ρ2 G2 _ (I2.grow g3 s3)⟩
  . cases e9
noncomputable def gh (h:W->DS->Option DS) (fb:DS->ah->SO):List W->DS->ah->SO
 | [],δ,S=>some (.nx δ,S)
 | d::ds,δ,S=>(h d δ).bind λ δ2=>match fb δ2 S with
  | some (.nx δ',S')=>gh h fb ds δ' S'
  | some (.ct δ',S')=>gh h fb ds δ' S'
  | some (.bk δ',S')=>some (.nx δ',S')
  | some (.rt d,S')=>some (.rt d,S')
  | some (.xc c,S')=>some (.xc c,S')
  | none=>none
noncomputable def mr (fi:DS->ah->SM (List W)) (h:W->DS->Option DS) (fb:DS->ah->SO):DS->ah->SO:=λ δ S=>i4 (fi δ S) λ ds S1=>gh h fb ds δ S1
theorem yC {wi:TI} {g:TG} {tb:TS} {fi:DS->ah->SM (List W)} {h:W->DS->Option DS} {fb:DS->ah->SO} (hi:Ku K cl E wi fi) (hg:∀ ρ,DG K ρ g h) (hb:kc K cl E tb fb):kc K cl E (Fd wi g tb) (mr fi h fb):=λ ρ0 G0 H0 ρ G σ H δ S o S' D I e p=>by
 rcases j1 e with ⟨c,em,rfl⟩ | ⟨ds,S1,em,e⟩
 . exact hi ρ G σ H δ S _ _ _ I.rs em (λ d hd=>by cases hd) (λ c' hc ρ1 G1 H1 g1 s1=>by cases hc;exact p ρ1 G1 H1 (I.gs.trans g1) s1)
 refine hi ρ G σ H δ S _ _ _ I.rs em (λ ds' hd=>?_) (λ c' hc=>by cases hc);cases hd;intro J ρ1 G1 H1 g1 s1 it;refine ⟨λ i m σ H=>m=ds.length-i/\i<=ds.length/\∃ ρ2 G2 δ2 S2,jO K cl ρ0 G0 H0 ρ2 G2 H δ2 σ S2/\ρ1 <+: ρ2/\bE G1 G2/\gh h fb (ds.drop i) δ2 S2=some (o,S'),⟨ds.length,by simp,O1 _,ρ1,G1,δ,S1,I.grow g1 s1,O9 _,.refl _,by simpa using e⟩,?_⟩;rintro i m σ2 H2 ⟨rfl,hil,ρ2,G2,δ2,S2,I2,pr2,s2,e2⟩;have ia:=it i G2 H2 s2 I2.gs.s;by_cases hlt:i<ds.length
 . refine .inr ?_;obtain ⟨go,step⟩:=ia.1 ds[i] (OF hlt);rw [List.drop_eq_getElem_cons hlt] at e2;obtain ⟨δ3,e3,e4⟩:=oB e2
   have turn:∀ (P:iZ) (o1:oY) (S3:ah),fb δ3 S2=some (o1,S3)->(∀ G3 H3,Gr G2 H2 G3 H3->xS K cl E ρ2 G3 H0 P S3 o1)->∀ x H',J.yld i H2 x H'->g x σ2 H' λ σ2 H2=>tb P σ2 H2:=λ P o1 S3 ef hp x H' y=>by
    obtain ⟨G3,g3,dx⟩:=step x H' y;have I3:=I2.grow (.of g3) (I2.rs.st.grow g3);refine hg ρ2 G3 H' δ2 σ2 x _ δ3 _ I3.rs.rl (dx.ext pr2) e3 λ σ3 R3 o3=>?_;exact hb ρ2 G3 H0 ρ2 G3 σ3 H' δ3 S2 o1 S3 P (I3.sub R3 o3).base ef (hp G3 H' g3)
   have back:∀ {G3 H3:Hp},Gr G2 H2 G3 H3->∀ {ρ4:List Addr} {G4 H4:Hp} {σ4:St} {δ4:DS} {S4:ah},jO K cl ρ2 G3 H0 ρ4 G4 H4 δ4 σ4 S4->jO K cl ρ0 G0 H0 ρ4 G4 H4 δ4 σ4 S4/\ρ1 <+: ρ4/\bE G1 G4:=λ {G3 H3} g3 {ρ4 G4 H4 σ4 δ4 S4} I4=>⟨I4.rebase (I2.gs.trans (.of g3)),pr2.trans I4.gs.r,s2.trans (g3.g.trans I4.gs.g)⟩
   cases ef:fb δ3 S2 with
   | none=>rw [ef] at e4;cases e4
   | some r=>
    obtain ⟨o1,S3⟩:=r;rw [ef] at e4;cases o1 with
    | nx δ'=>
     exact ⟨go,λ σ' H'=>∃ ρ' G',jO K cl ρ0 G0 H0 ρ' G' H' δ' σ' S3/\ρ1 <+: ρ'/\bE G1 G',λ σ' H' hy0=>by obtain ⟨ρ',G',I',q1,q2⟩:=hy0;exact ⟨ds.length-(i+1),by omega,rfl,hlt,ρ',G',δ',S3,I',q1,q2,e4⟩,turn _ _ _ ef λ G3 H3 g3 σ5 ρ5 G5 H5 I5=>⟨ρ5,G5,back g3 I5⟩⟩
    | ct δ'=>
     exact ⟨go,λ σ' H'=>∃ ρ' G',jO K cl ρ0 G0 H0 ρ' G' H' δ' σ' S3/\ρ1 <+: ρ'/\bE G1 G',λ σ' H' hy0=>by obtain ⟨ρ',G',I',q1,q2⟩:=hy0;exact ⟨ds.length-(i+1),by omega,rfl,hlt,ρ',G',δ',S3,I',q1,q2,e4⟩,turn _ _ _ ef λ G3 H3 g3 σ5 ρ5 G5 H5 I5=>⟨ρ5,G5,back g3 I5⟩⟩
    | bk δ'=>
     cases e4;exact ⟨go,λ _ _=>False,λ _ _ z=>z.elim,turn _ _ _ ef λ G3 H3 g3 σ5 ρ5 G5 H5 I5=>p σ5 ρ5 G5 H5 (back g3 I5).1⟩
    | rt d=>
     cases e4;exact ⟨go,λ _ _=>False,λ _ _ z=>z.elim,turn _ _ _ ef λ G3 H3 g3 v ρ5 G5 H5 g5 s5 dv=>p v ρ5 G5 H5 ((I2.gs.trans (.of g3)).rebase g5) s5 dv⟩
    | xc c=>
     cases e4;exact ⟨go,λ _ _=>False,λ _ _ z=>z.elim,turn _ _ _ ef λ G3 H3 g3 ρ5 G5 H5 g5 s5=>p ρ5 G5 H5 ((I2.gs.trans (.of g3)).rebase g5) s5⟩
 . have hi':i=ds.length:=by omega
   subst hi';rw [drop_length] at e2;cases e2;exact .inl ⟨ia.2 (Ol _),p σ2 ρ2 G2 H2 I2⟩
noncomputable def dm (c:DS->ah->SM Bool) (fb:DS->ah->SO):Nat->DS->ah->SO
 | 0,_,_=>none
 | n+1,δ,S=>i4 (c δ S) λ b S1=>if b=true then match fb δ S1 with
  | some (.nx δ',S')=>dm c fb n δ' S'
  | some (.ct δ',S')=>dm c fb n δ' S'
  | some (.bk δ',S')=>some (.nx δ',S')
  | some (.rt d,S')=>some (.rt d,S')
  | some (.xc x,S')=>some (.xc x,S')
  | none=>none
  else some (.nx δ,S1)
theorem tt {n:Nat} {tc:TT} {tb:TS} {c:DS->ah->SM Bool} {fb:DS->ah->SO} (hc:ST K cl E tc c) (hb:kc K cl E tb fb):kc K cl E (vi tc tb) (dm c fb n):=λ ρ0 G0 H0 ρ G σ H δ S o S' D I e p=>by
 refine ⟨λ m σ H=>∃ ρ G δ S,jO K cl ρ0 G0 H0 ρ G H δ σ S/\dm c fb m δ S=some (o,S'),⟨n,ρ,G,δ,S,I,e⟩,?_⟩;rintro m σ2 H2 ⟨ρ2,G2,δ2,S2,I2,e2⟩;cases m with
 | zero=>cases e2
 | succ m=>
  refine vD hc I2 e2 p λ b S3 e3 ρ3 G3 H3 g3 s3=>?_;have I3:=I2.grow g3 s3;cases b with
  | false=>cases e3;exact p σ2 ρ3 G3 H3 I3
  | true=>
   rw [Oo rfl] at e3 ⊢;cases ef:fb δ2 S3 with
   | none=>rw [ef] at e3;cases e3
   | some r=>
    obtain ⟨o1,S4⟩:=r;rw [ef] at e3;cases o1 with
    | nx δ'=>exact ⟨λ σ' H'=>∃ ρ' G',jO K cl ρ0 G0 H0 ρ' G' H' δ' σ' S4,λ σ' H' hy0=>by obtain ⟨ρ',G',I'⟩:=hy0;exact ⟨m,O0 _,ρ',G',δ',S4,I',e3⟩,hb ρ0 G0 H0 ρ3 G3 σ2 H3 δ2 S3 _ _ _ I3 ef λ σ5 ρ5 G5 H5 I5=>⟨ρ5,G5,I5⟩⟩
    | ct δ'=>exact ⟨λ σ' H'=>∃ ρ' G',jO K cl ρ0 G0 H0 ρ' G' H' δ' σ' S4,λ σ' H' hy0=>by obtain ⟨ρ',G',I'⟩:=hy0;exact ⟨m,O0 _,ρ',G',δ',S4,I',e3⟩,hb ρ0 G0 H0 ρ3 G3 σ2 H3 δ2 S3 _ _ _ I3 ef λ σ5 ρ5 G5 H5 I5=>⟨ρ5,G5,I5⟩⟩
    | bk δ'=>cases e3;exact ⟨λ _ _=>False,λ _ _ z=>z.elim,hb ρ0 G0 H0 ρ3 G3 σ2 H3 δ2 S3 _ _ _ I3 ef λ σ5 ρ5 G5 H5 I5=>p σ5 ρ5 G5 H5 I5⟩
    | rt d=>cases e3;exact ⟨λ _ _=>False,λ _ _ z=>z.elim,hb ρ0 G0 H0 ρ3 G3 σ2 H3 δ2 S3 _ _ _ I3 ef p⟩
    | xc x=>cases e3;exact ⟨λ _ _=>False,λ _ _ z=>z.elim,hb ρ0 G0 H0 ρ3 G3 σ2 H3 δ2 S3 _ _ _ I3 ef p⟩
noncomputable def nA (c:Str) (f:DS->ah->SM (List W)):DS->ah->SO:=λ δ S=>i4 (f δ S) λ ds S1=>if ds.length<=sizeLine then some (.xc c,S1) else none
theorem zy {c:Str} {t:TA} {f:DS->ah->SM (List W)} (h:SA K cl E t f):kc K cl E (yL (cl c) E t) (nA c f):=λ ρ0 G0 H0 ρ G σ H δ S o S' D I e p=>by
 rcases j1 e with ⟨c',em,rfl⟩ | ⟨d,S1,em,e⟩
 . exact h ρ G σ H δ S _ _ _ I.rs em (λ d hd=>by cases hd) (λ c' hc ρ1 G1 H1 g1 s1=>by cases hc;exact p ρ1 G1 H1 (I.gs.trans g1) s1)
 . refine h ρ G σ H δ S _ _ _ I.rs em (λ d' hd=>?_) (λ c' hc=>by cases hc);cases hd;intro vs ρ1 G1 H1 g1 s1 da;split at e
   . rename_i hz;cases e;exact ⟨by rw [da.length];exact hz,p ρ1 G1 H1 (I.gs.trans g1) s1⟩
   . cases e
noncomputable def aY:SO->SM W
 | some (.rt d,S)=>some (.ok d,S)
 | some (.nx _,S)=>some (.ok .none,S)
 | some (.xc c,S)=>some (.xc c,S)
 | _=>none
noncomputable def bb (a n:Nat) (fb:DS->ah->SO):List W->ah->SM W:=λ ds S=>if ds.length=a then aY (fb (fH n ds) S) else none
theorem jE {a n:Nat} {fb:DS->ah->SO} {ds:List W} {S:ah} {r:Rs W×ah} (h:bb a n fb ds S=some r):ds.length=a:=by
 unfold bb at h;split at h
 . assumption
 . cases h
theorem CP {f:List W->ah->SM W} {a:Nat} {vs:List V} {H:Hp} {Q:VK} {E:XK} (hf:∀ ds S r,f ds S=some r->ds.length=a) (h:uL K cl f vs H Q E):vs.length=a:=by
 obtain ⟨ρ,G,S,ds,r,S',s,sr,da,e,q⟩:=h;rw [da.length];exact hf ds S _ e
theorem Ii {t:TS} {fb:DS->ah->SO} {N:List Str} {a n:Nat} {vs:List V} {H:Hp} {Q:VK} {E:XK} (hn:N.length=n) (h:kc K cl E t fb) (hsp:uL K cl (bb a n fb) vs H Q E):t { nx:=λ _ H'=>Q .non H',rt:=Q } (start N vs) H:=by
 subst hn;obtain ⟨ρ,G,S,ds,r,S',s,sr,da,e,q,qx⟩:=hsp;have R:=tP (N:=N) s da;have I:jO K cl ρ G H ρ G H (fH N.length ds) (start N vs) S:=⟨⟨R,sr,λ i ds' p h1=>absurd h1 iR⟩,.refl s,λ i p ds' h1=>absurd h1 iR⟩
 unfold bb at e;rw [Oo (jE (show bb a N.length fb ds S=some (r,S') from e))] at e;cases ef:fb (fH N.length ds) S with
 | none=>rw [ef] at e;cases e
 | some o=>
  obtain ⟨o,S1⟩:=o;rw [ef] at e;refine h ρ G H ρ G _ H _ S o S1 _ I ef ?_;cases o with
  | nx δ=>cases e;exact λ σ' ρ' G' H' I'=>q _ rfl _ ρ' G' H' I'.gs I'.rs.st .non
  | rt d'=>cases e;exact λ v ρ' G' H' g s dv=>q _ rfl v ρ' G' H' g s dv
  | xc c=>cases e;exact λ ρ' G' H' g s=>qx _ rfl ρ' G' H' g s
  | bk _=>cases e
  | ct _=>cases e
theorem wx {f:List W->ah->SM W} {a:Nat} {vs:List V} {H:Hp} {Q:VK} {E:XK} (hf:∀ ds S r,f ds S=some r->ds.length=a) (h:hV K cl f vs H Q E):vs.length=a:=by
 obtain ⟨ρ,G,S,ds,r,S',s,sr,da,e,q⟩:=h;rw [da.length];exact hf ds S _ e
theorem Df {t:TS} {fb:DS->ah->SO} {N:List Str} {a n:Nat} {vs:List V} {H:Hp} {Q:VK} {E:XK} (hn:N.length=n) (h:kc K cl E0 t fb) (hsp:hV K cl (bb a n fb) vs H Q E):t { nx:=λ _ H'=>Q .non H',rt:=Q } (start N vs) H:=by
 obtain ⟨ρ,G,S,ds,d,S',s,sr,da,e,q⟩:=hsp;exact Ii (E:=E0) hn h ⟨ρ,G,S,ds,.ok d,S',s,sr,da,e,(λ d' hd=>by cases hd;exact q),(λ c hc=>by cases hc)⟩
theorem zP {g:List W->ah->SM W} {vs:List V} {H:Hp} {Q:VK} {E:XK} (hg:∀ ds S,g ds S=none) (h:hV K cl g vs H Q E):False:=by
 obtain ⟨ρ,G,S,ds,r,S',s,sr,da,e,q⟩:=h;rw [hg] at e;cases e
theorem eE.no0 {P:Program} {w:World} {mg:Str->Option Value} {base:Heap} {CX:qE} {k:Nat} {f:Addr} {fd:FuncData} {ps:List Str} {g:List W->ah->SM W} (hg:∀ ds S,g ds S=none):eE P w K mg base CX k f fd ps (hV K cl g):=
 ⟨λ _ _ _ _ h=>(zP hg h).elim,λ _ _ _ _ _ _ _ _ _ _ _ _ _ h=>(zP hg h).elim⟩
theorem zj {g:List W->ah->SM W} {vs:List V} {H:Hp} {Q:VK} {E:XK} (hg:∀ ds S,g ds S=none) (h:uL K cl g vs H Q E):False:=by
 obtain ⟨ρ,G,S,ds,r,S',s,sr,da,e,q⟩:=h;rw [hg] at e;cases e
theorem eE.noX {P:Program} {w:World} {mg:Str->Option Value} {base:Heap} {CX:qE} {k:Nat} {f:Addr} {fd:FuncData} {ps:List Str} {g:List W->ah->SM W} (hg:∀ ds S,g ds S=none):eE P w K mg base CX k f fd ps (uL K cl g):=
 ⟨λ _ _ _ _ h=>(zj hg h).elim,λ _ _ _ _ _ _ _ _ _ _ _ _ _ h=>(zj hg h).elim⟩
end
section
variable {X:Cx} {pins:List (Addr×Obj)} {σ:St} {H:Hp} {s:Shared} {a:Addr} {kvs:List (bR×V)} {k:bR} {u:Value} {A:Around} {E:Value->Shared->Prop}
end
section
variable {X:Cx} {o e f:Expr} {td ty tx:TE} {apos cpos:Pos}
end
section
variable {prog:Program} {w:World} {A:Around} {E:Value->Shared->Prop} {s:Shared}
end
section
variable {X:Cx} {pos:Pos}
end
section
variable {K:Frag} {ρ:List Addr}
noncomputable def Ho:W->Option V
 | .none=>some .non
 | .bool b=>some (.bl b)
 | .int i=>some (.int i)
 | .str x=>some (.str x)
 | _=>none
noncomputable def vo:List W->Option (List V)
 | []=>some []
 | d::ds=>(Ho d).bind λ v=>(vo ds).map (v::·)
theorem rO {H:Hp} {v u:V} {d:W} (h:Dw K ρ H v d) (e:Ho d=some u):v=u/\gN u=true:=by
 cases h <;> first | (cases e;exact ⟨rfl,rfl⟩) | cases e
theorem n9 {H:Hp} {vs us:List V} {ds:List W} (h:aC K ρ H vs ds):vo ds=some us->vs=us/\us.all gN=true:=
 h.ind (M:=λ vs ds=>∀ us,vo ds=some us->vs=us/\us.all gN=true) (λ us e=>by cases e;exact ⟨rfl,rfl⟩) (λ _ _ _ _ a ih us e=>by
  obtain ⟨u,e1,e⟩:=oB e
  obtain ⟨us,e2,rfl⟩:=oM e
  obtain ⟨h1,h2⟩:=rO a e1;obtain ⟨h3,h4⟩:=ih _ e2;exact ⟨by rw [h1,h3],by rw [all_cons,h2,h4];rfl⟩) us
noncomputable def pi (d e:W):Option Bool:=(xx e).bind λ ds=>(Ho d).bind λ v=>(vo ds).map λ vs=>BE v vs
noncomputable def zk (d e:W):Option Bool:=(pi d e).map (!·)
theorem yg {H:Hp} {x y:V} {d e:W} {b:Bool} (hx:Dw K ρ H x d) (hy:Dw K ρ H y e) (h:pi d e=some b):∃ p xs,y=.ref p/\(eS K H p xs∨gU K H p xs)/\gN x=true/\xs.all gN=true/\BE x xs=b:=by
 obtain ⟨ds,e1,h⟩:=oB h
 obtain ⟨v,e2,h⟩:=oB h
 obtain ⟨vs,e3,rfl⟩:=oM h
 obtain ⟨rfl,f1⟩:=rO hx e2;cases hy with
 | lst sq da=>
  cases e1;obtain ⟨rfl,f2⟩:=n9 da e3;exact ⟨_,_,rfl,.inl sq,f1,f2,rfl⟩
 | tup sq da=>
  cases e1;obtain ⟨rfl,f2⟩:=n9 da e3;exact ⟨_,_,rfl,.inr (gU.of sq),f1,f2,rfl⟩
 | _=>cases e1
theorem Jk:DB K ρ (ES K false) pi:=λ H x y d e b Q hx hy hg q=>by
 obtain ⟨p,xs,h1,h2,h3,h4,rfl⟩:=yg hx hy hg;exact ⟨p,xs,h1,h2,h3,h4,q⟩
end
section
variable {K:Frag} {cl:Str->Addr} {E:XK}
noncomputable def dI (x:W) (S:ah):Option (Nat×List W):=match kB x S with
 | some (n,.lst ds)=>some (n,ds)
 | _=>none
theorem cz {x:W} {S:ah} {n:Nat} {ds:List W} (h:dI x S=some (n,ds)):x=.ref n/\S[n]?=some (.lst ds):=by
 unfold dI at h;cases e:kB x S with
 | none=>rw [e] at h;cases h
 | some p=>
  obtain ⟨m,o⟩:=p;rw [e] at h;cases o with
  | lst ds=>cases h;exact gb e
  | _=>cases h
noncomputable def AI (x:W) (S:ah):Option (List W):=match dI x S with
 | some (_,ds)=>some ds
 | none=>xx x
theorem x8 {ρ:List Addr} {G H:Hp} {S:ah} {v:V} {x:W} {ds:List W} (sg:bE G H) (s:SR K ρ cl G H S) (dv:Dw K ρ G v x) (h:AI x S=some ds):∃ p vs,v=.ref p/\(eS K H p vs∨gU K H p vs)/\aC K ρ G vs ds:=by
 unfold AI at h;split at h
 . rename_i n ds' e;cases h;obtain ⟨rfl,e2⟩:=cz e;obtain ⟨a,rfl,ea⟩:=cr dv;obtain ⟨ga,vs,k1,k2⟩:=s.addr e2 ea;exact ⟨a,vs,rfl,.inl (eS.of k1),k2⟩
 . cases dv with
   | lst sq da=>cases h;exact ⟨_,_,rfl,.inl (sg.seq sq),da⟩
   | tup sq da=>cases h;exact ⟨_,_,rfl,.inr (sg.tup (gU.of sq)),da⟩
   | _=>cases h
noncomputable def uT (x y:W) (S:ah):Option W:=match dI x S with
 | some (_,ds)=>(wg y).bind λ i=>jg ds i
 | none=>aH x y
noncomputable def sIx (fa fb:DS->ah->SM W):DS->ah->SM W:=λ δ S=>ak (fa δ S) λ x S1=>ak (fb δ S1) λ y S2=>jm (uT x y S2) S2
theorem J9 {ta tb:TE} {fa fb:DS->ah->SM W} (ha:SE K cl E ta fa) (hb:SE K cl E tb fb):SE K cl E (pP (Kh K) ta tb) (sIx fa fb):=λ ρ G σ H δ S r' S' Q R e q qx=>
 fN ha hb R e (λ x y S2 e2 v u ρ2 G2 H2 g2 s2 dv du=>by
  obtain ⟨c,e3,rfl,rfl⟩:=bZ e2;unfold uT at e3;split at e3
  . rename_i n ds e4;obtain ⟨i,e5,e6⟩:=oB e3
    cases ma e5;cases eg du;obtain ⟨rfl,e7⟩:=cz e4;obtain ⟨a,rfl,ea⟩:=cr dv;obtain ⟨ga,vs,k1,k2⟩:=s2.addr e7 ea;obtain ⟨w,h1,h2⟩:=k2.at e6;exact .inl ⟨a,vs,_,w,rfl,rfl,eS.of k1,h1,q c rfl w ρ2 G2 H2 g2 s2 h2⟩
  . exact De G2 H2 v u x y c Q g2.s (.inl dv) du e3 λ w G3 H3 g3 dw=>q c rfl w ρ2 G3 H3 (g2.trans (.of g3)) (s2.grow g3) dw) qx
noncomputable def pW (x:W) (S:ah):Option W:=match dI x S with
 | some (_,ds)=>some (.int ds.length)
 | none=>nc x
noncomputable def er (fa:DS->ah->SM W):DS->ah->SM W:=λ δ S=>ak (fa δ S) λ x S1=>jm (pW x S1) S1
theorem Fe {ta:TE} {fa:DS->ah->SM W} (ha:SE K cl E ta fa):SE K cl E (AQ (wJ K) (i9 ta md)) (er fa):=λ ρ G σ H δ S r' S' Q R e q qx=>
 dS ha R e (λ x S2 e2 v ρ2 G2 H2 g2 s2 dv=>by
  obtain ⟨c,e3,rfl,rfl⟩:=bZ e2;unfold pW at e3;split at e3
  . rename_i n ds e4;cases e3;obtain ⟨rfl,e7⟩:=cz e4;obtain ⟨a,rfl,ea⟩:=cr dv;obtain ⟨ga,vs,k1,k2⟩:=s2.addr e7 ea;exact .inl ⟨a,vs,rfl,.inl (eS.of k1),by rw [k2.length];exact q _ rfl _ ρ2 G2 H2 g2 s2 (.int _)⟩
  . exact yF G2 H2 v x c Q g2.s (.inl dv) e3 λ w G3 H3 g3 dw=>q c rfl w ρ2 G3 H3 (g2.trans (.of g3)) (s2.grow g3) dw) qx
noncomputable def Nl (g:W->Option W) (fa:DS->ah->SM W):DS->ah->SM W:=λ δ S=>ak (fa δ S) λ x S1=>jm (g x) S1
noncomputable def oN (T:String) (x:W) (S:ah):Option W:=match dI x S with
 | some _=>if T = "list" then some (.bool true) else none
 | none=>match x with
  | .list _=>if T = "list" then some (.bool true) else none
  | .tuple _=>if T = "tuple" then some (.bool true) else none
  | _=>jS T x
noncomputable def wj (K:Frag):List V->Hp->VK->Prop:=λ xs H Q=>Ck xs H Q∨DL K xs H Q∨Db K xs H Q
theorem wV {X:Cx} {K:Frag} (h:X.K=K):ff X (.builtin "isinstance") (wj K):=pM.or ((vh h).or (vt h))
noncomputable def xb (T:String) (fa:DS->ah->SM W):DS->ah->SM W:=λ δ S=>ak (fa δ S) λ x S1=>jm (oN T x S1) S1
theorem oz (c:Value) (h:(c==c)=true):PySem.W.kitOne K c c=some true:=by
 unfold PySem.W.kitOne;rw [Oo h]
theorem FU {T:String} {ta:TE} {fa:DS->ah->SM W} (ha:SE K cl E ta fa):SE K cl E (AQ (wj K) (i9 ta (i9 (tC (.ty T)) md))) (xb T fa):=λ ρ G σ H δ S r' S' Q R e q qx=>
 dS ha R e (λ x S2 e2 v ρ2 G2 H2 g2 s2 dv=>by
  obtain ⟨c,e3,rfl,rfl⟩:=bZ e2;show wj K [v,.ty T] H2 Q;unfold oN at e3;split at e3
  . rename_i p e4;obtain ⟨n,ds⟩:=p;split at e3
    . rename_i hT;subst hT;cases e3;obtain ⟨rfl,e7⟩:=cz e4;obtain ⟨a,rfl,ea⟩:=cr dv;obtain ⟨ga,vs,k1,k2⟩:=s2.addr e7 ea;exact .inr (.inr ⟨a,vs, "list", true,rfl,eS.of k1,oz _ (by decide),q _ rfl _ ρ2 G2 H2 g2 s2 (.bl _)⟩)
    . cases e3
  . split at e3
    . split at e3
      . rename_i hT;subst hT;cases e3;obtain ⟨a,vs,rfl,sq,da⟩:=zg dv;exact .inr (.inr ⟨a,vs, "list", true,rfl,g2.s.seq sq,oz _ (by decide),q _ rfl _ ρ2 G2 H2 g2 s2 (.bl _)⟩)
      . cases e3
    . split at e3
      . rename_i hT;subst hT;cases e3;obtain ⟨a,vs,rfl,sq,da⟩:=qJ dv;exact .inr (.inl ⟨a,vs, "tuple", true,rfl,g2.s.tup (gU.of sq),oz _ (by decide),q _ rfl _ ρ2 G2 H2 g2 s2 (.bl _)⟩)
      . cases e3
    . unfold jS at e3;split at e3;all_goals first
       | cases e3
       | (obtain ⟨k,ek,rfl⟩:=oM e3
          cases dv;exact .inl ⟨_,T,k,rfl,ek,q _ rfl _ ρ2 G2 H2 g2 s2 (.bl k)⟩)) qx
noncomputable def bT (fo fv:DS->ah->SM W):DS->ah->SO:=λ δ S=>i4 (fo δ S) λ x S1=>if (dI x S1).isSome=true then i4 (fv δ S1) λ d S2=>(dI x S2).bind λ p=>if p.2.length<sizeLine then some (.nx δ,S2.set p.1 (.lst (p.2++[d]))) else none else none
theorem oX {ρ ρ':List Addr} {n:Nat} {a:Addr} (h:ρ <+: ρ') (e:ρ[n]?=some a):ρ'[n]?=some a:=by
 obtain ⟨t,rfl⟩:=h;rw [OJ (oG e).1];exact e
theorem pZ {to tv:TE} {fo fv:DS->ah->SM W} (ho:SE K cl E to fo) (hv:SE K cl E tv fv):kc K cl E (wd (Jp K "list" nB to (i9 tv md))) (bT fo fv):=λ ρ0 G0 H0 ρ G σ H δ S o S' D I e p=>
 fw ho I e p λ x S1 e1 u ρ1 G1 H1 g1 s1 du=>by
  split at e1
  case isFalse=>cases e1
  rename_i hx;obtain ⟨⟨n,ds0⟩,hx0⟩:=isSome_iff_exists.mp hx;obtain ⟨rfl,h0⟩:=cz hx0;obtain ⟨a,rfl,ea⟩:=cr du;obtain ⟨_,vs0,k0,_⟩:=s1.addr h0 ea;have I1:=I.grow g1 s1;refine ⟨.inl ⟨rfl,vs0,eS.of k0⟩,fw hv I1 e1 p λ d S2 e2 v ρ2 G2 H2 g2 s2 dv=>?_⟩;obtain ⟨⟨m,ds⟩,e3,e4⟩:=oB e2
  split at e4
  case isFalse=>cases e4
  rename_i hl;cases e4;obtain ⟨em,e5⟩:=cz e3;cases em;have ea2:=oX g2.r ea;obtain ⟨ga,vs,k1,k2⟩:=s2.addr e5 ea2;obtain ⟨s3,g3⟩:=s2.put (x:=.lst (vs++[v])) (o':=.lst (ds++[d])) g2.s e5 ea2 (λ b z=>by cases z) ⟨_,aO,k2.app (.cons dv .nil)⟩;exact ⟨a,vs,v,rfl,rfl,k1,by rw [k2.length];exact hl,p σ ρ2 G2 _ ((I1.grow g2 s2).grow g3 s3)⟩
noncomputable def eW (fo fi fv:DS->ah->SM W):DS->ah->SO:=λ δ S=>i4 (fv δ S) λ d S1=>i4 (fo δ S1) λ x S2=>i4 (fi δ S2) λ y S3=>(dI x S3).bind λ p=>(wg y).bind λ k=>(ug p.2.length k).map λ j=>(.nx δ,S3.set p.1 (.lst (p.2.set j d)))
theorem vN {to ti tv:TE} {fo fi fv:DS->ah->SM W} (ho:SE K cl E to fo) (hi:SE K cl E ti fi) (hv:SE K cl E tv fv):kc K cl E (uH tv (GO to ti yx)) (eW fo fi fv):=λ ρ0 G0 H0 ρ G σ H δ S o S' D I e p=>
 fw hv I e p λ d S1 e1 v ρ1 G1 H1 g1 s1 dv=>by
  have I1:=I.grow g1 s1;refine fw ho I1 e1 p λ x S2 e2 u ρ2 G2 H2 g2 s2 du=>?_;have I2:=I1.grow g2 s2;refine fw hi I2 e2 p λ y S3 e3 w ρ3 G3 H3 g3 s3 dw=>?_;obtain ⟨⟨n,ds⟩,e4,e5⟩:=oB e3
  obtain ⟨k,e6,e7⟩:=oB e5
  obtain ⟨j,e8,e9⟩:=oM e7
  cases e9;cases ma e6;cases eg dw;obtain ⟨rfl,e10⟩:=cz e4;obtain ⟨a,rfl,ea⟩:=cr du;have ea3:=oX g3.r ea;obtain ⟨ga,vs,k1,k2⟩:=s3.addr e10 ea3;have g23:=g2.trans g3;obtain ⟨s4,g4⟩:=s3.put (x:=.lst (vs.set j v)) (o':=.lst (ds.set j d)) g3.s e10 ea3 (λ b z=>by cases z) ⟨_,aO,aC.set ((dv.ext g23.r).same g23.g) j k2⟩;exact ⟨a,vs,k,j,rfl,rfl,k1,by rw [k2.length];exact e8,p σ ρ3 G3 _ ((I2.grow g3 s3).grow g4 s4)⟩
noncomputable def oV:W->Option bR
 | .int i=>some (Sum.inl i)
 | .str x=>some (Sum.inr x)
 | _=>none
theorem oF {ρ:List Addr} {G:Hp} {v:V} {d:W} {k:bR} (h:Dw K ρ G v d) (e:oV d=some k):v=kV k:=by
 cases h <;> first | (cases e;rfl) | cases e
noncomputable def sS (x:W) (S:ah):Option (Nat×List (bR×W)):=match kB x S with
 | some (n,.dK kvs)=>some (n,kvs)
 | _=>none
theorem pQ {x:W} {S:ah} {n:Nat} {kvs:List (bR×W)} (h:sS x S=some (n,kvs)):x=.ref n/\S[n]?=some (.dK kvs):=by
 unfold sS at h;split at h
 . rename_i n' ds' e;cases h;exact gb e
 . cases h
noncomputable def jo {κ:Type} [DecidableEq κ] (kvs:List (κ×W)) (k:κ):Option W:=(kvs.find? λ kv=>decide (kv.1=k)).map (·.2)
noncomputable def jA {κ:Type} [DecidableEq κ] (kvs:List (κ×W)) (k:κ) (v:W):List (κ×W):=if (kvs.any λ kv=>decide (kv.1=k))=true then kvs.map λ kv=>if kv.1=k then (kv.1,v) else kv else kvs++[(k,v)]
theorem i6.val {κ:Type} [DecidableEq κ] {ρ:List Addr} {G:Hp} {k:κ}:∀ {l:List (κ×W)} {m:List (κ×V)},i6 K ρ G l m->(∀ d,jo l k=some d->∃ v,jP m k=some v/\Dw K ρ G v d)/\(jo l k=none->jP m k=none):=λ q=>by
 induction q with
 | nil=>exact ⟨(λ d e=>by cases e),λ _=>rfl⟩
 | @cons j x0 v0 l m a b ih=>
  obtain ⟨h1,h2⟩:=ih;by_cases hj:j=k
  . subst hj;refine ⟨λ d e=>?_,λ e=>?_⟩
    . have e':jo ((j,x0)::l) j=some x0:=by simp [jo,O3]
      rw [e'] at e;cases e;exact ⟨_,lD rfl,a⟩
    . simp [jo,O3] at e
  . refine ⟨λ d e=>?_,λ e=>?_⟩
    . rw [j8 hj];exact h1 d (by simpa [jo,O3,hj] using e)
    . rw [j8 hj];exact h2 (by simpa [jo,O3,hj] using e)
theorem i6.any {κ:Type} [DecidableEq κ] {ρ:List Addr} {G:Hp} {k:κ}:∀ {l:List (κ×W)} {m:List (κ×V)},i6 K ρ G l m->(l.any λ kv=>decide (kv.1=k))=m.any λ kv=>decide (kv.1=k):=λ q=>by
 induction q with
 | nil=>rfl
 | cons a b ih=>rw [PH,PH,ih]
theorem i6.repl {κ:Type} [DecidableEq κ] {ρ:List Addr} {G:Hp} {k:κ} {v:V} {d:W} (h:Dw K ρ G v d):∀ {l:List (κ×W)} {m:List (κ×V)},i6 K ρ G l m->i6 K ρ G (l.map λ kv=>if kv.1=k then (kv.1,d) else kv) (m.map λ kv=>if kv.1=k then (kv.1,v) else kv):=λ q=>by
 induction q with
 | nil=>exact .nil
 | @cons j d0 v0 l m a b ih=>
  rw [OQ,OQ];by_cases hj:j=k
  . simp only [Oo hj];exact .cons h ih
  . simp only [Oq hj];exact .cons a ih
theorem i6.snoc {κ:Type} {ρ:List Addr} {G:Hp} {k:κ} {v:V} {d:W} (h:Dw K ρ G v d):∀ {l:List (κ×W)} {m:List (κ×V)},i6 K ρ G l m->i6 K ρ G (l++[(k,d)]) (m++[(k,v)]):=λ q=>by
 induction q with
 | nil=>exact .cons h .nil
 | cons a _ ih=>exact .cons a ih
theorem i6.put {κ:Type} [DecidableEq κ] {ρ:List Addr} {G:Hp} {k:κ} {v:V} {d:W} (h:Dw K ρ G v d) {l:List (κ×W)} {m:List (κ×V)} (r:i6 K ρ G l m):i6 K ρ G (jA l k d) (iH m k v):=by
 unfold jA iH;rw [r.any];split
 . exact r.repl h
 . exact r.snoc h
noncomputable def cM (S:ah) (n:Nat):Option (List W):=match S[n]? with
 | some (.lst ds)=>some ds
 | _=>none
noncomputable def jn (f:W->Option PyData):List W->Option (List PyData)
 | []=>some []
 | d::ds=>(f d).bind λ x=>(jn f ds).map (x::·)
noncomputable def jQ (S:ah):Nat->W->Option PyData
 | 0,_=>none
 | n+1,d=>match d with
  | .list ds=>(jn (jQ S n) ds).map .list
  | .tuple ds=>(jn (jQ S n) ds).map .tuple
  | .ref m=>(cM S m).bind λ ds=>(jn (jQ S n) ds).map .list
  | d=>d.py
theorem qP {H:Hp} {ρ:List Addr} {G:Hp} {f:W->Option PyData} (hf:∀ v d x,Dw K ρ G v d->f d=some x->Dp K H v x) {vs:List V} {ds:List W} {xs:List PyData} (h:aC K ρ G vs ds):jn f ds=some xs->mL K H vs xs:=
 h.ind (M:=λ vs ds=>∀ xs,jn f ds=some xs->mL K H vs xs) (λ xs e=>by cases e;exact .nil) (λ _ _ _ _ a ih xs e=>by
  obtain ⟨x,e1,e⟩:=oB e
  obtain ⟨ys,e2,rfl⟩:=oM e
  exact .cons (hf _ _ _ a e1) (ih _ e2)) xs
theorem kE {ρ:List Addr} {G H:Hp} {S:ah} (sg:bE G H) (s:SR K ρ cl G H S):∀ (n:Nat) (v:V) (d:W) (x:PyData),Dw K ρ G v d->jQ S n d=some x->Dp K H v x
 | 0,_,_,_,_,e=>by cases e
 | n+1,v,d,x,h,e=>by
  cases h with
  | lst sq da=>
   obtain ⟨xs,e1,rfl⟩:=oM e
   exact .lst (sg.seq sq) (qP (λ v d x=>kE sg s n v d x) da e1)
  | tup sq da=>
   obtain ⟨xs,e1,rfl⟩:=oM e
   exact .tup (sg.tup (gU.of sq)) (qP (λ v d x=>kE sg s n v d x) da e1)
  | ref ea=>
   obtain ⟨ds,e1,e2⟩:=oB e
   obtain ⟨xs,e3,rfl⟩:=oM e2
   unfold cM at e1;split at e1
   . rename_i ds' h1;cases e1;obtain ⟨ga,vs,k1,k2⟩:=s.addr h1 ea;exact .lst (eS.of k1) (qP (λ v d x=>kE sg s n v d x) k2 e3)
   . cases e1
  | non=>exact Dw.dp (ρ:=ρ) .non e
  | bl b=>exact Dw.dp (ρ:=ρ) (.bl b) e
  | int i=>exact Dw.dp (ρ:=ρ) (.int i) e
  | str y=>exact Dw.dp (ρ:=ρ) (.str y) e
noncomputable def jV (neg:Bool) (d e:W) (S:ah):Option Bool:=match KB d e with
 | some b=>some (if neg then !b else b)
 | none=>(jQ S 24 d).bind λ a=>(jQ S 24 e).bind λ b=>if (a.canLay0&&b.canLay0&&decide (a.depth<=64))=true then some (if neg then !(PyData.eqv a b) else PyData.eqv a b) else none
noncomputable def EG (K:Frag) (neg:Bool):R2:=if neg then Fj K else GM K
noncomputable def iK (neg:Bool) (fa fb:DS->ah->SM W):DS->ah->SM Bool:=λ δ S=>ak (fa δ S) λ x S1=>ak (fb δ S1) λ y S2=>jm (jV neg x y S2) S2
theorem tR {ρ:List Addr} {G H:Hp} {S:ah} {neg:Bool} {v u:V} {x y:W} {b:Bool} {Q:VK} (sg:bE G H) (s:SR K ρ cl G H S) (dv:Dw K ρ G v x) (du:Dw K ρ G u y) (h:jV neg x y S=some b) (q:Q (.bl b) H):EG K neg v u H Q:=by
 unfold jV at h;split at h
 . rename_i b' hb;cases h;obtain ⟨h1,h2⟩:=uw (dv.same sg) (du.same sg) hb;cases neg with
   | false=>exact .inl ⟨h1,by rw [h2];exact q⟩
   | true=>exact .inl ⟨h1,by rw [h2];exact q⟩
 . obtain ⟨a,ea,h⟩:=oB h
   obtain ⟨c,ec,h⟩:=oB h
   split at h
   . rename_i hc;cases h;simp only [OD,ON] at hc;cases neg with
     | false=>exact .inr ⟨a,c,kE sg s 24 _ _ _ dv ea,kE sg s 24 _ _ _ du ec,hc.1.1,hc.1.2,hc.2,q⟩
     | true=>exact .inr ⟨a,c,kE sg s 24 _ _ _ dv ea,kE sg s 24 _ _ _ du ec,hc.1.1,hc.1.2,hc.2,q⟩
   . cases h
theorem HG {neg:Bool} {ta tb:TE} {fa fb:DS->ah->SM W} (ha:SE K cl E ta fa) (hb:SE K cl E tb fb):ST K cl E (lI (pP (EG K neg) ta tb)) (iK neg fa fb):=λ ρ G σ H δ S r' S' Q R e q qx=>
 fN ha hb R e (λ x y S2 e2 v u ρ2 G2 H2 g2 s2 dv du=>by
  obtain ⟨c,e3,rfl,rfl⟩:=bZ e2;exact tR g2.s s2 dv du e3 ⟨c,rfl,q c rfl ρ2 G2 H2 g2 s2⟩) qx
theorem JK {neg:Bool} {ta tb:TE} {fa fb:DS->ah->SM W} (ha:SE K cl E ta fa) (hb:SE K cl E tb fb):SE K cl E (pP (EG K neg) ta tb) (sB (iK neg fa fb)):=λ ρ G σ H δ S r' S' Q R e q qx=>by
 rcases aR e with ⟨c,em,rfl⟩ | ⟨b,S1,em,e⟩
 . exact fN (r:=Rs.xc c) ha hb R em (λ x y S2 e2=>by obtain ⟨_,_,z,_⟩:=bZ e2;cases z) (λ c' hc=>by cases hc;exact qx c rfl)
 . cases e;exact fN ha hb R em (λ x y S2 e2 v u ρ2 G2 H2 g2 s2 dv du=>by
    obtain ⟨c,e3,z,rfl⟩:=bZ e2;cases z;exact tR g2.s s2 dv du e3 (q _ rfl _ ρ2 G2 H2 g2 s2 (.bl _))) (λ c hc=>by cases hc)
end
section
variable {K:Frag} {cl:Str->Addr} {E:XK}
noncomputable def la (f:DS->ah->SM W):DS->ah->SM Bool:=λ δ S=>ak (f δ S) λ x S1=>jm (AS x) S1
theorem Gg {t:TE} {f:DS->ah->SM W} (h:SE K cl E t f):ST K cl E (tB t) (la f):=λ ρ G σ H δ S r S' Q R e q qx=>
 dS h R e (λ x S1 e1 v ρ1 G1 H1 g1 s1 dv=>by
  obtain ⟨b,e2,rfl,rfl⟩:=bZ e1;cases u9 e2;cases Dx dv;exact ⟨b,rfl,q b rfl ρ1 G1 H1 g1 s1⟩) qx
noncomputable def nQ (f g:DS->ah->SM W):DS->ah->SM W:=λ δ S=>ak (f δ S) λ x S1=>(AS x).bind λ b=>if b=true then g δ S1 else some (.ok (.bool false),S1)
noncomputable def LB (f g:DS->ah->SM W):DS->ah->SM W:=λ δ S=>ak (f δ S) λ x S1=>(AS x).bind λ b=>if b=true then some (.ok (.bool true),S1) else g δ S1
noncomputable def Jn (f:DS->ah->SM W):DS->ah->SM W:=λ δ S=>ak (f δ S) λ x S1=>(AS x).map λ b=>(.ok (.bool (!b)),S1)
theorem EQ {t u:TE} {f g:DS->ah->SM W} (h1:SE K cl E t f) (h2:SE K cl E u g):SE K cl E (CW t u) (nQ f g):=λ ρ G σ H δ S r S' Q R e q qx=>
 dS h1 R e (λ x S1 e1 v ρ1 G1 H1 g1 s1 dv=>by
  obtain ⟨b,e2,e3⟩:=oB e1
  cases u9 e2;cases Dx dv;refine ⟨b,rfl,?_⟩;cases b with
  | true=>exact h2 ρ1 G1 σ H1 δ S1 r S' Q (R.grow g1 s1) e3 (λ d hd v ρ2 G2 H2 g2 s2 dv=>q d hd v ρ2 G2 H2 (g1.trans g2) s2 dv) λ c hc ρ2 G2 H2 g2 s2=>qx c hc ρ2 G2 H2 (g1.trans g2) s2
  | false=>cases e3;exact q _ rfl _ ρ1 G1 H1 g1 s1 (.bl _)) qx
theorem DY.ext {ρ ρ1:List Addr} {J:It} {ds:List W} {i:Nat} {G H:Hp} (h:ρ <+: ρ1) (a:DY K ρ J ds i G H):DY K ρ1 J ds i G H:=⟨λ d hd=>⟨(a.1 d hd).1,λ x H' y=>by
 obtain ⟨G',g,dx⟩:=(a.1 d hd).2 x H' y;exact ⟨G',g,dx.ext h⟩⟩,a.2⟩
theorem uU {S:ah} {n:Nat} {ds:List W} (h:cM S n=some ds):S[n]?=some (.lst ds):=by
 unfold cM at h;split at h
 . rename_i e;cases h;exact e
 . cases h
inductive Kd where
 | l
 | e
 | d (m:Nat)
noncomputable def LV:bR->W
 | .inl i=>.int i
 | .inr x=>.str x
noncomputable def iB (S:ah) (n:Nat×Kd):Option (List W):=match n.2 with
 | .l=>cM S n.1
 | .e=>(cM S n.1).map kJ
 | .d m=>(sS (.ref n.1) S).bind λ p=>if p.2.length=m then some (p.2.map λ e=>LV e.1) else none
noncomputable def Mf (K:Frag) (cl:Str->Addr) (ρ:List Addr) (J:It) (n:Nat×Kd):Prop:=
 ∀ (i:Nat) (ρ1:List Addr) (G1 H1:Hp) (S1:ah) (es:List W),ρ <+: ρ1->bE G1 H1->SR K ρ1 cl G1 H1 S1->iB S1 n=some es->DY K ρ1 J es i G1 H1
noncomputable def K3 (K:Frag) (cl:Str->Addr) (E:XK) (wi:TI) (f:DS->ah->SM (Nat×Kd)):Prop:=
 ∀ (ρ:List Addr) (G:Hp) (σ:St) (H:Hp) (δ:DS) (S:ah) (r:Rs (Nat×Kd)) (S':ah) (R':It->Hp->Prop),RS K cl ρ G H δ σ S->f δ S=some (r,S')->
  (∀ n,r=.ok n->∀ J ρ' G' H',GS ρ G H ρ' G' H'->SR K ρ' cl G' H' S'->Mf K cl ρ' J n->R' J H')->
  (∀ c,r=.xc c->∀ ρ' G' H',GS ρ G H ρ' G' H'->SR K ρ' cl G' H' S'->E (.ref (cl c)) none H')->wi σ H R'
noncomputable def fV (f:DS->ah->SM W):DS->ah->SM (Nat×Kd):=λ δ S=>ak (f δ S) λ x S1=>(dI x S1).map λ p=>(.ok (p.1,.l),S1)
theorem CL {t:TE} {f:DS->ah->SM W} (h:SE K cl E t f):K3 K cl E (BL K t) (fV f):=λ ρ G σ H δ S r S' R' R e q qx=>
 dS h R e (λ x S1 e1 v ρ1 G1 H1 g1 s1 dv=>by
  obtain ⟨⟨n,ds⟩,e2,e3⟩:=oM e1
  cases e3;obtain ⟨rfl,e4⟩:=cz e2;obtain ⟨a,rfl,ea⟩:=cr dv;obtain ⟨ga,vs,k1,k2⟩:=s1.addr e4 ea;refine ⟨a,rfl,.inl ⟨⟨vs,eS.of k1⟩,q (n,.l) rfl _ ρ1 G1 H1 g1 s1 λ i ρ2 G2 H2 S2 es pr s2 sr he=>?_⟩⟩;obtain ⟨ga2,vs2,m1,m2⟩:=sr.addr (uU he) (oX pr ea);exact z9 s2 (eS.of m1) m2) qx
noncomputable def eI (n:Nat×Kd) (h:W->DS->Option DS) (fb:DS->ah->SO):Nat->Nat->DS->ah->SO
 | 0,_,_,_=>none
 | f+1,i,δ,S=>(iB S n).bind λ es=>match es[i]? with
  | none=>some (.nx δ,S)
  | some d=>(h d δ).bind λ δ2=>match fb δ2 S with
   | some (.nx δ',S')=>eI n h fb f (i+1) δ' S'
   | some (.ct δ',S')=>eI n h fb f (i+1) δ' S'
   | some (.bk δ',S')=>some (.nx δ',S')
   | some (.rt d,S')=>some (.rt d,S')
   | some (.xc c,S')=>some (.xc c,S')
   | none=>none
noncomputable def ph (m:Nat) (fi:DS->ah->SM (Nat×Kd)) (h:W->DS->Option DS) (fb:DS->ah->SO):DS->ah->SO:=λ δ S=>i4 (fi δ S) λ n S1=>eI n h fb m 0 δ S1
theorem wA {m:Nat} {wi:TI} {g:TG} {tb:TS} {fi:DS->ah->SM (Nat×Kd)} {h:W->DS->Option DS} {fb:DS->ah->SO} (hi:K3 K cl E wi fi) (hg:∀ ρ,DG K ρ g h) (hb:kc K cl E tb fb):kc K cl E (Fd wi g tb) (ph m fi h fb):=λ ρ0 G0 H0 ρ G σ H δ S o S' D I e p=>by
 rcases j1 e with ⟨c,em,rfl⟩ | ⟨n,S1,em,e⟩
 . exact hi ρ G σ H δ S _ _ _ I.rs em (λ d hd=>by cases hd) (λ c' hc ρ1 G1 H1 g1 s1=>by cases hc;exact p ρ1 G1 H1 (I.gs.trans g1) s1)
 refine hi ρ G σ H δ S _ _ _ I.rs em (λ n' hn=>?_) (λ c' hc=>by cases hc);cases hn;intro J ρ1 G1 H1 g1 s1 it;refine ⟨λ i k σ H=>∃ ρ2 G2 δ2 S2,jO K cl ρ0 G0 H0 ρ2 G2 H δ2 σ S2/\ρ1 <+: ρ2/\eI n h fb k i δ2 S2=some (o,S'),⟨m,ρ1,G1,δ,S1,I.grow g1 s1,O9 _,e⟩,?_⟩;rintro i k σ2 H2 ⟨ρ2,G2,δ2,S2,I2,pr2,e2⟩;cases k with
 | zero=>cases e2
 | succ k=>
  obtain ⟨es,e3,e4⟩:=oB e2
  have ia:=it i ρ2 G2 H2 S2 es pr2 I2.gs.s I2.rs.st e3;split at e4
  . rename_i hn;cases e4;exact .inl ⟨ia.2 (List.getElem?_eq_none_iff.mp hn),p σ2 ρ2 G2 H2 I2⟩
  . rename_i d hd;refine .inr ?_;obtain ⟨go,step⟩:=ia.1 d hd;obtain ⟨δ3,e5,e6⟩:=oB e4
    have turn:∀ (P:iZ) (o1:oY) (S3:ah),fb δ3 S2=some (o1,S3)->(∀ G3 H3,Gr G2 H2 G3 H3->xS K cl E ρ2 G3 H0 P S3 o1)->∀ x H',J.yld i H2 x H'->g x σ2 H' λ σ2 H2=>tb P σ2 H2:=λ P o1 S3 ef hp x H' y=>by
     obtain ⟨G3,g3,dx⟩:=step x H' y;have I3:=I2.grow (.of g3) (I2.rs.st.grow g3);refine hg ρ2 G3 H' δ2 σ2 x _ δ3 _ I3.rs.rl dx e5 λ σ3 R3 o3=>?_;exact hb ρ2 G3 H0 ρ2 G3 σ3 H' δ3 S2 o1 S3 P (I3.sub R3 o3).base ef (hp G3 H' g3)
    have back:∀ {G3 H3:Hp},Gr G2 H2 G3 H3->∀ {ρ4:List Addr} {G4 H4:Hp} {σ4:St} {δ4:DS} {S4:ah},jO K cl ρ2 G3 H0 ρ4 G4 H4 δ4 σ4 S4->jO K cl ρ0 G0 H0 ρ4 G4 H4 δ4 σ4 S4/\ρ1 <+: ρ4:=λ {G3 H3} g3 {ρ4 G4 H4 σ4 δ4 S4} I4=>⟨I4.rebase (I2.gs.trans (.of g3)),pr2.trans I4.gs.r⟩
    cases ef:fb δ3 S2 with
    | none=>rw [ef] at e6;cases e6
    | some r=>
     obtain ⟨o1,S3⟩:=r;rw [ef] at e6;cases o1 with
     | nx δ'=>exact ⟨go,λ σ' H'=>∃ ρ' G',jO K cl ρ0 G0 H0 ρ' G' H' δ' σ' S3/\ρ1 <+: ρ',λ σ' H' hy0=>by obtain ⟨ρ',G',I',q1⟩:=hy0;exact ⟨k,O0 _,ρ',G',δ',S3,I',q1,e6⟩,turn _ _ _ ef λ G3 H3 g3 σ5 ρ5 G5 H5 I5=>⟨ρ5,G5,back g3 I5⟩⟩
     | ct δ'=>exact ⟨go,λ σ' H'=>∃ ρ' G',jO K cl ρ0 G0 H0 ρ' G' H' δ' σ' S3/\ρ1 <+: ρ',λ σ' H' hy0=>by obtain ⟨ρ',G',I',q1⟩:=hy0;exact ⟨k,O0 _,ρ',G',δ',S3,I',q1,e6⟩,turn _ _ _ ef λ G3 H3 g3 σ5 ρ5 G5 H5 I5=>⟨ρ5,G5,back g3 I5⟩⟩
     | bk δ'=>
      cases e6;exact ⟨go,λ _ _=>False,λ _ _ z=>z.elim,turn _ _ _ ef λ G3 H3 g3 σ5 ρ5 G5 H5 I5=>p σ5 ρ5 G5 H5 (back g3 I5).1⟩
     | rt d=>
      cases e6;exact ⟨go,λ _ _=>False,λ _ _ z=>z.elim,turn _ _ _ ef λ G3 H3 g3 v ρ5 G5 H5 g5 s5 dv=>p v ρ5 G5 H5 ((I2.gs.trans (.of g3)).rebase g5) s5 dv⟩
     | xc c=>
      cases e6;exact ⟨go,λ _ _=>False,λ _ _ z=>z.elim,turn _ _ _ ef λ G3 H3 g3 ρ5 G5 H5 g5 s5=>p ρ5 G5 H5 ((I2.gs.trans (.of g3)).rebase g5) s5⟩
theorem RS.lift {ρ:List Addr} {G H:Hp} {δ:DS} {σ:St} {S:ah} {ix:List (Option Nat)} (hx:zY ix=true) (R:RS K cl ρ G H δ σ S):RS K cl ρ G H (cx ix δ) (lift ix σ) S:=
 ⟨R.rl.lift hx,R.st,λ j ds p h1 h2=>by
  obtain ⟨o,k1,k2⟩:=lQ h1;cases o with
  | none=>cases k2
  | some i=>
   have k3:δ[i]?=some (.own ds):=by
    cases e:δ[i]? with
    | none=>simp [pL,e] at k2
    | some s=>simp [pL,e] at k2;rw [k2]
   rw [pd k1] at h2;simp only [KA] at h2;split at h2
   . rename_i w e;exact R.ap i ds p k3 (by rw [e];simpa using h2)
   . cases h2⟩
noncomputable def d9 (h:W->DS->Option DS) (c:DS->ah->SM Bool) (fe:DS->ah->SM W) (δ:DS):List W->ah->SM (List W)
 | [],S=>some (.ok [],S)
 | d::ds,S=>(h d δ).bind λ δ2=>ak (c δ2 S) λ b S1=>if b=true then ak (fe δ2 S1) λ e S2=>ak (d9 h c fe δ ds S2) λ es S3=>some (.ok (e::es),S3) else d9 h c fe δ ds S1
end
section
variable {K:Frag} {cl:Str->Addr} {E:XK}
noncomputable def rS (ix:List (Option Nat)) (fi:DS->ah->SM (List W)) (h:W->DS->Option DS) (c:DS->ah->SM Bool) (fe:DS->ah->SM W):DS->ah->SM W:=λ δ S=>
 ak (fi δ S) λ ds S0=>if ds.length<=sizeLine then ak (d9 h c fe (cx ix δ) ds S0) λ es S1=>some (.ok (.ref S1.length),S1++[.lst es]) else none
theorem yu {ix:List (Option Nat)} {wi:TI} {g:TG} {tc:TT} {te:TE} {fi:DS->ah->SM (List W)} {h:W->DS->Option DS} {c:DS->ah->SM Bool} {fe:DS->ah->SM W}
 (hx:zY ix=true) (hi:Ku K cl E wi fi) (hg:∀ ρ,DG K ρ g h) (hc:ST K cl E tc c) (he:SE K cl E te fe):SE K cl E (w9 ix wi g tc te) (rS ix fi h c fe):=λ ρ G σ H δ S r S' Q R e q qx=>by
 rcases aR e with ⟨c0,em,rfl⟩ | ⟨ds,S0,em,e⟩
 . exact hi ρ G σ H δ S _ _ _ R em (λ d hd=>by cases hd) (λ c' hc=>by cases hc;exact qx c0 rfl)
 split at e
 case isFalse=>cases e
 rename_i hz;refine hi ρ G σ H δ S _ _ _ R em (λ ds' hd=>?_) (λ c' hc=>by cases hc);cases hd;intro J ρ1 G1 H1 gs1 sr1 it;have R1:=R.grow gs1 sr1;refine ⟨λ i m ys H2=>m=ds.length-i/\i<=ds.length/\ys.length<=i/\∃ ρ2 G2 as S2,GS ρ1 G1 H1 ρ2 G2 H2/\SR K ρ2 cl G2 H2 S2/\aC K ρ2 G2 ys as/\ak (d9 h c fe (cx ix δ) (ds.drop i) S2) (λ es S1=>some (.ok (.ref S1.length),S1++[.lst (as++es)]))=some (r,S'),⟨ds.length,by simp,O1 _,Ol _,ρ1,G1,[],S0,.refl gs1.s,R1.st,.nil,by simpa using e⟩,?_⟩;rintro i m ys H2 ⟨rfl,hil,hyl,ρ2,G2,as,S2,g2,s2,da,eb⟩;have ia:=(it i G2 H2 g2.g g2.s).ext g2.r;have R2:=R1.grow g2 s2;have g12:=gs1.trans g2;by_cases hlt:i<ds.length
 . refine .inr ?_;obtain ⟨go,step⟩:=ia.1 ds[i] (OF hlt);rw [List.drop_eq_getElem_cons hlt] at eb;have eb':∃ δ2,h ds[i] (cx ix δ)=some δ2/\ak (ak (c δ2 S2) λ b S1=>if b=true then ak (fe δ2 S1) λ e S2=>ak (d9 h c fe (cx ix δ) (ds.drop (i+1)) S2) λ es S3=>some (.ok (e::es),S3) else d9 h c fe (cx ix δ) (ds.drop (i+1)) S1) (λ es S1=>some (.ok (.ref S1.length),S1++[.lst (as++es)]))=some (r,S'):=by
    simp only [d9] at eb;cases e2:h ds[i] (cx ix δ) with
    | none=>rw [e2] at eb;cases eb
    | some δ2=>rw [e2] at eb;exact ⟨δ2,rfl,eb⟩
   obtain ⟨δ2,e2,e3⟩:=eb';refine ⟨go,by omega,λ ys' H'=>ys'.length<=i+1/\∃ ρ3 G3 as' S3,GS ρ1 G1 H1 ρ3 G3 H'/\SR K ρ3 cl G3 H' S3/\aC K ρ3 G3 ys' as'/\ak (d9 h c fe (cx ix δ) (ds.drop (i+1)) S3) (λ es S1=>some (.ok (.ref S1.length),S1++[.lst (as'++es)]))=some (r,S'),λ ys' H' hy0=>by obtain ⟨l,z⟩:=hy0;exact ⟨ds.length-(i+1),by omega,rfl,hlt,l,z⟩,λ x H' y=>?_⟩;obtain ⟨G3,g3,dx⟩:=step x H' y;have gs3:GS ρ2 G2 H2 ρ2 G3 H':=.of g3;have s3:=s2.grow g3;have R3:=R2.grow gs3 s3;refine hg ρ2 G3 H' (cx ix δ) _ x _ δ2 _ (R3.lift hx).rl dx e2 λ σ2 R4 o4=>?_;have RS4:RS K cl ρ2 G3 H' δ2 σ2 S2:=⟨R4,s3,λ j ds' p h1 h2=>by
    obtain ⟨es',m1,m2⟩:=o4 j ds' p h1 h2;exact (R3.lift hx).ap j es' p m1 m2⟩
   rcases aR e3 with ⟨c',em,rfl⟩ | ⟨es,S5,em,e4⟩
   . -- an exception on the way
     rcases aR em with ⟨c2,en,z⟩ | ⟨b,S4,en,e5⟩
     . cases z;exact hc ρ2 G3 σ2 H' δ2 S2 _ _ _ RS4 en (λ d hd=>by cases hd) (λ c3 h3 ρ5 G5 H5 g5 s5=>by cases h3;exact qx c' rfl ρ5 G5 H5 (g12.trans (gs3.trans g5)) s5)
     . refine hc ρ2 G3 σ2 H' δ2 S2 _ _ _ RS4 en (λ d hd=>?_) (λ c3 h3=>by cases h3);cases hd;intro ρ5 G5 H5 g5 s5;have g15:=g2.trans (gs3.trans g5);have da5:=((da.ext (gs3.trans g5).r).same (gs3.trans g5).g)
       cases b with
       | false=>exact ⟨by omega,ρ5,G5,as,S4,g15,s5,da5,by rw [show d9 h c fe (cx ix δ) (ds.drop (i+1)) S4=some (.xc c',S') from e5];rfl⟩
       | true=>
        rw [Oo rfl] at e5 ⊢;rcases aR e5 with ⟨c2,en2,z⟩ | ⟨ev,S6,en2,e6⟩
        . cases z;exact he ρ5 G5 σ2 H5 δ2 S4 _ _ _ (RS4.grow g5 s5) en2 (λ d hd=>by cases hd) (λ c3 h3 ρ6 G6 H6 g6 s6=>by cases h3;exact qx c' rfl ρ6 G6 H6 (g12.trans (gs3.trans (g5.trans g6))) s6)
        . refine he ρ5 G5 σ2 H5 δ2 S4 _ _ _ (RS4.grow g5 s5) en2 (λ d hd=>?_) (λ c3 h3=>by cases h3);cases hd;intro v ρ6 G6 H6 g6 s6 dv;rcases aR e6 with ⟨c2,en3,z⟩ | ⟨es2,S7,en3,e7⟩
          . cases z;exact ⟨by simp;omega,ρ6,G6,as++[ev],S6,g15.trans g6,s6,((da5.ext g6.r).same g6.g).app (.cons dv .nil),by rw [en3];rfl⟩
          . cases e7
   . cases e4;rcases aR em with ⟨c2,en,z⟩ | ⟨b,S4,en,e5⟩
     . cases z
     . refine hc ρ2 G3 σ2 H' δ2 S2 _ _ _ RS4 en (λ d hd=>?_) (λ c3 h3=>by cases h3);cases hd;intro ρ5 G5 H5 g5 s5;have g15:=g2.trans (gs3.trans g5);have da5:=((da.ext (gs3.trans g5).r).same (gs3.trans g5).g)
       cases b with
       | false=>exact ⟨by omega,ρ5,G5,as,S4,g15,s5,da5,by rw [show d9 h c fe (cx ix δ) (ds.drop (i+1)) S4=some (.ok es,S5) from e5];rfl⟩
       | true=>
        rw [Oo rfl] at e5 ⊢;rcases aR e5 with ⟨c2,en2,z⟩ | ⟨ev,S6,en2,e6⟩
        . cases z
        . refine he ρ5 G5 σ2 H5 δ2 S4 _ _ _ (RS4.grow g5 s5) en2 (λ d hd=>?_) (λ c3 h3=>by cases h3);cases hd;intro v ρ6 G6 H6 g6 s6 dv;rcases aR e6 with ⟨c2,en3,z⟩ | ⟨es2,S7,en3,e7⟩
          . cases z
          . cases e7;exact ⟨by simp;omega,ρ6,G6,as++[ev],S6,g15.trans g6,s6,((da5.ext g6.r).same g6.g).app (.cons dv .nil),by rw [en3];simp [ak]⟩
 . have hi':i=ds.length:=by omega
   subst hi';refine .inl ⟨ia.2 (Ol _),by omega,λ p hp=>?_⟩;rw [drop_length] at eb;simp only [d9,ak,Oz] at eb;cases eb;have n:Nw H2 (d6 H2 p (.lst ys)) p (.lst ys):=.of hp;obtain ⟨s3,g3⟩:=s2.push (o:=.lst as) g2.s n λ ρ' hr=>⟨ys,aO,da.ext hr⟩
   exact q _ rfl _ _ _ _ (g12.trans g3) s3 (.ref (by rw [<-s2.len];simp))
noncomputable def bP (n:Nat×Kd) (h:W->DS->Option DS) (c:DS->ah->SM Bool) (fe:DS->ah->SM W) (δ:DS):Nat->Nat->ah->SM (List W)
 | 0,_,_=>none
 | f+1,i,S=>(iB S n).bind λ es=>match es[i]? with
  | none=>some (.ok [],S)
  | some d=>(h d δ).bind λ δ2=>ak (c δ2 S) λ b S1=>if b=true then ak (fe δ2 S1) λ e S2=>ak (bP n h c fe δ f (i+1) S2) λ es S3=>some (.ok (e::es),S3) else bP n h c fe δ f (i+1) S1
noncomputable def il (m:Nat) (ix:List (Option Nat)) (fi:DS->ah->SM (Nat×Kd)) (h:W->DS->Option DS) (c:DS->ah->SM Bool) (fe:DS->ah->SM W):DS->ah->SM W:=λ δ S=>
 ak (fi δ S) λ n S0=>if m<=sizeLine then ak (bP n h c fe (cx ix δ) m 0 S0) λ es S1=>some (.ok (.list es),S1) else none
theorem Av {m:Nat} {ix:List (Option Nat)} {wi:TI} {g:TG} {tc:TT} {te:TE} {fi:DS->ah->SM (Nat×Kd)} {h:W->DS->Option DS} {c:DS->ah->SM Bool} {fe:DS->ah->SM W}
 (hx:zY ix=true) (hi:K3 K cl E wi fi) (hg:∀ ρ,DG K ρ g h) (hc:ST K cl E tc c) (he:SE K cl E te fe):SE K cl E (w9 ix wi g tc te) (il m ix fi h c fe):=λ ρ G σ H δ S r S' Q R e q qx=>by
 rcases aR e with ⟨c0,em,rfl⟩ | ⟨n,S0,em,e⟩
 . exact hi ρ G σ H δ S _ _ _ R em (λ d hd=>by cases hd) (λ c' hc=>by cases hc;exact qx c0 rfl)
 split at e
 case isFalse=>cases e
 rename_i hz;refine hi ρ G σ H δ S _ _ _ R em (λ n' hn=>?_) (λ c' hc=>by cases hc);cases hn;intro J ρ1 G1 H1 gs1 sr1 it;have R1:=R.grow gs1 sr1;refine ⟨λ i k ys H2=>k+i=m/\ys.length<=i/\∃ ρ2 G2 as S2,GS ρ1 G1 H1 ρ2 G2 H2/\SR K ρ2 cl G2 H2 S2/\aC K ρ2 G2 ys as/\ak (bP n h c fe (cx ix δ) k i S2) (λ es S1=>some (.ok (.list (as++es)),S1))=some (r,S'),⟨m,by simp,Ol _,ρ1,G1,[],S0,.refl gs1.s,R1.st,.nil,by simpa using e⟩,?_⟩;rintro i k ys H2 ⟨hk,hyl,ρ2,G2,as,S2,g2,s2,da,eb⟩;have R2:=R1.grow g2 s2;have g12:=gs1.trans g2;cases k with
 | zero=>cases eb
 | succ k=>
  have eb0:∃ es0,iB S2 n=some es0:=by
   cases hl:iB S2 n with
   | none=>simp only [bP,hl] at eb;cases eb
   | some es0=>exact ⟨es0,rfl⟩
  obtain ⟨es0,hl⟩:=eb0;have ia:=it i ρ2 G2 H2 S2 es0 g2.r g2.s s2 hl;cases hd:es0[i]? with
  | none=>
   refine .inl ⟨ia.2 (List.getElem?_eq_none_iff.mp hd),by omega,λ p hp=>?_⟩;simp only [bP,hl,Oj,hd,ak,Oz] at eb;cases eb;have nn:Nw H2 (d6 H2 p (.lst ys)) p (.lst ys):=.of hp;have g3:=Gr.nw g2.s nn;exact q _ rfl _ ρ2 _ _ (g12.trans (.of g3)) (s2.grow g3) (.lst (eS.of aO) (da.same g3.g))
  | some d0=>
   refine .inr ?_;obtain ⟨go,step⟩:=ia.1 d0 hd;have eb':∃ δ2,h d0 (cx ix δ)=some δ2/\ak (ak (c δ2 S2) λ b S1=>if b=true then ak (fe δ2 S1) λ e S2=>ak (bP n h c fe (cx ix δ) k (i+1) S2) λ es S3=>some (.ok (e::es),S3) else bP n h c fe (cx ix δ) k (i+1) S1) (λ es S1=>some (.ok (.list (as++es)),S1))=some (r,S'):=by
    simp only [bP,hl,Oj,hd] at eb;cases e2:h d0 (cx ix δ) with
    | none=>rw [e2] at eb;cases eb
    | some δ2=>rw [e2] at eb;exact ⟨δ2,rfl,eb⟩
   obtain ⟨δ2,e2,e3⟩:=eb';refine ⟨go,by omega,λ ys' H'=>ys'.length<=i+1/\∃ ρ3 G3 as' S3,GS ρ1 G1 H1 ρ3 G3 H'/\SR K ρ3 cl G3 H' S3/\aC K ρ3 G3 ys' as'/\ak (bP n h c fe (cx ix δ) k (i+1) S3) (λ es S1=>some (.ok (.list (as'++es)),S1))=some (r,S'),λ ys' H' hy0=>by obtain ⟨l,z⟩:=hy0;exact ⟨k,O0 _,by omega,l,z⟩,λ x H' y=>?_⟩;obtain ⟨G3,g3,dx⟩:=step x H' y;have gs3:GS ρ2 G2 H2 ρ2 G3 H':=.of g3;have s3:=s2.grow g3;have R3:=R2.grow gs3 s3;refine hg ρ2 G3 H' (cx ix δ) _ x _ δ2 _ (R3.lift hx).rl dx e2 λ σ2 R4 o4=>?_;have RS4:RS K cl ρ2 G3 H' δ2 σ2 S2:=⟨R4,s3,λ j ds' p h1 h2=>by
    obtain ⟨es',m1,m2⟩:=o4 j ds' p h1 h2;exact (R3.lift hx).ap j es' p m1 m2⟩
   rcases aR e3 with ⟨c',em,rfl⟩ | ⟨es,S5,em,e4⟩
   . -- an exception on the way
     rcases aR em with ⟨c2,en,z⟩ | ⟨b,S4,en,e5⟩
     . cases z;exact hc ρ2 G3 σ2 H' δ2 S2 _ _ _ RS4 en (λ d hd=>by cases hd) (λ c3 h3 ρ5 G5 H5 g5 s5=>by cases h3;exact qx c' rfl ρ5 G5 H5 (g12.trans (gs3.trans g5)) s5)
     . refine hc ρ2 G3 σ2 H' δ2 S2 _ _ _ RS4 en (λ d hd=>?_) (λ c3 h3=>by cases h3);cases hd;intro ρ5 G5 H5 g5 s5;have g15:=g2.trans (gs3.trans g5);have da5:=((da.ext (gs3.trans g5).r).same (gs3.trans g5).g)
       cases b with
       | false=>exact ⟨by omega,ρ5,G5,as,S4,g15,s5,da5,by rw [show bP n h c fe (cx ix δ) k (i+1) S4=some (.xc c',S') from e5];rfl⟩
       | true=>
        rw [Oo rfl] at e5 ⊢;rcases aR e5 with ⟨c2,en2,z⟩ | ⟨ev,S6,en2,e6⟩
        . cases z;exact he ρ5 G5 σ2 H5 δ2 S4 _ _ _ (RS4.grow g5 s5) en2 (λ d hd=>by cases hd) (λ c3 h3 ρ6 G6 H6 g6 s6=>by cases h3;exact qx c' rfl ρ6 G6 H6 (g12.trans (gs3.trans (g5.trans g6))) s6)
        . refine he ρ5 G5 σ2 H5 δ2 S4 _ _ _ (RS4.grow g5 s5) en2 (λ d hd=>?_) (λ c3 h3=>by cases h3);cases hd;intro v ρ6 G6 H6 g6 s6 dv;rcases aR e6 with ⟨c2,en3,z⟩ | ⟨es2,S7,en3,e7⟩
          . cases z;exact ⟨by simp;omega,ρ6,G6,as++[ev],S6,g15.trans g6,s6,((da5.ext g6.r).same g6.g).app (.cons dv .nil),by rw [en3];rfl⟩
          . cases e7
   . cases e4;rcases aR em with ⟨c2,en,z⟩ | ⟨b,S4,en,e5⟩
     . cases z
     . refine hc ρ2 G3 σ2 H' δ2 S2 _ _ _ RS4 en (λ d hd=>?_) (λ c3 h3=>by cases h3);cases hd;intro ρ5 G5 H5 g5 s5;have g15:=g2.trans (gs3.trans g5);have da5:=((da.ext (gs3.trans g5).r).same (gs3.trans g5).g)
       cases b with
       | false=>exact ⟨by omega,ρ5,G5,as,S4,g15,s5,da5,by rw [show bP n h c fe (cx ix δ) k (i+1) S4=some (.ok es,S') from e5];rfl⟩
       | true=>
        rw [Oo rfl] at e5 ⊢;rcases aR e5 with ⟨c2,en2,z⟩ | ⟨ev,S6,en2,e6⟩
        . cases z
        . refine he ρ5 G5 σ2 H5 δ2 S4 _ _ _ (RS4.grow g5 s5) en2 (λ d hd=>?_) (λ c3 h3=>by cases h3);cases hd;intro v ρ6 G6 H6 g6 s6 dv;rcases aR e6 with ⟨c2,en3,z⟩ | ⟨es2,S7,en3,e7⟩
          . cases z
          . cases e7;exact ⟨by simp;omega,ρ6,G6,as++[ev],S6,g15.trans g6,s6,((da5.ext g6.r).same g6.g).app (.cons dv .nil),by rw [en3];simp [ak]⟩
end
theorem yY {K:Frag} {cl:Str->Addr} {G H:Hp}:SR K [] cl G H []:=⟨rfl,List.nodup_nil,λ n o e=>by simp at e⟩
end L2
namespace L2
open PySem PySem.Spec PyProof.Rows PySem.AutoSeq1
open PySem.W (Frag)
section
variable {X:Cx}
end
section
variable {K:Frag} {ρ:List Addr}
theorem ou {G:Hp}:∀ ws:List Str,aC K ρ G (ws.map V.str) (ws.map W.str)
 | []=>.nil
 | w::ws=>.cons (.str w) (ou ws)
theorem tU {H:Hp} {x:V} {d:W} {a:Addr} {ws:List Str} {b:Bool} (h:gU K H a (ws.map V.str)) (hx:Dw K ρ H x d) (e:pi d (.tuple (ws.map W.str))=some b):gN x=true/\(ws.map V.str).all gN=true/\BE x (ws.map V.str)=b:=by
 obtain ⟨ds,e1,e⟩:=oB e
 obtain ⟨v,e2,e⟩:=oB e
 obtain ⟨vs,e3,rfl⟩:=oM e
 cases e1;obtain ⟨rfl,f1⟩:=rO hx e2;obtain ⟨rfl,f2⟩:=n9 (K:=K) (ρ:=ρ) (H:=H) (ou ws) e3;exact ⟨f1,f2,rfl⟩
theorem zE {neg:Bool} {ta:TE} {fa:DS->Option W} {a:Addr} {ws:List Str} (hs:∀ G,gU K G a (ws.map V.str)) (ha:DK K ρ ta fa) {G:Hp} {σ:St} {H:Hp} {δ:DS} {b:Bool} {Q:VK} (R:Rl K ρ G H δ σ) (e:aw (if neg then zk else pi) fa (dC (.tuple (ws.map W.str))) δ=some b) (q:∀ G' H',Gr G H G' H'->Q (.bl b) H'):pP (ES K neg) ta (tC (.ref a)) σ H Q:=by
 obtain ⟨x,ex,e⟩:=oB e
 have e:(if neg then zk else pi) x (.tuple (ws.map W.str))=some b:=e;refine ha G σ H δ x _ R ex λ v G1 H1 g1 dv=>?_;have dv:=dv.dp g1.s;cases neg with
 | false=>
  obtain ⟨f1,f2,rfl⟩:=tU (hs H1) dv e;exact ⟨a,_,rfl,.inr (hs H1),f1,f2,q G1 H1 g1⟩
 | true=>
  obtain ⟨b',e',rfl⟩:=oM e
  obtain ⟨f1,f2,rfl⟩:=tU (hs H1) dv e';exact ⟨a,_,rfl,.inr (hs H1),f1,f2,q G1 H1 g1⟩
theorem FG {ta:TE} {fa:DS->Option W} {a:Addr} {ws:List Str} (hs:∀ G,gU K G a (ws.map V.str)) (ha:DK K ρ ta fa):DT K ρ (lI (pP (ES K false) ta (tC (.ref a)))) (aw pi fa (dC (.tuple (ws.map W.str)))):=λ G σ H δ b Q R e q=>
 zE (neg:=false) hs ha R e λ G' H' g=>⟨b,rfl,q G' H' g⟩
end
structure sK (K:Frag) (x q:Str) (st:Stmt) (f:Addr) (fd:FuncData):Prop where
 ex:∃ (dV oc kV dc pm cd ct:Value) (od an:Option Addr) (sl:Array (Option Value)),fd=PySem.W.fnOf x q (aT st) (aM st) (ay st) dV kV dc pm an cd ct/\K.lookup f=some ⟨oc,od,.func fd,sl⟩/\PySem.W.codeIn K cd q=true
 kp:PySem.W.keepIn K (.ref f)=true
theorem sK.ok {P:Program} {w:World} {K:Frag} {mg:Str->Option Value} {base:Heap} {x q:Str} {st:Stmt} {f:Addr} {fd:FuncData} {N ps:List Str} {k:Nat} {sp:Sp} (F:sK K x q st f fd) (S:eL N ps (ay st)) (hl:∀ vs H Q E,sp vs H Q E->vs.length=ps.length)
 (hb:∀ (cd:Value) (A:Around) (outer:List Env) (s:Shared) (H:Hp) (vs:List V) (Q:VK) (E:XK),cP k (A.deeper (envOfC q (ay st) s.heap.objs.size f cd))->sp vs H Q E->
  ∃ t,nL (gO va P w K mg base N q (ay st) f cd A outer s H E).nox (aM st) t/\t ({ nx:=λ _ H'=>Q V.non H',rt:=Q }:iZ) (start N vs) H):eE P w K mg base va (k+1) f fd ps sp:=by
 obtain ⟨dV,oc,kV,dc,pm,cd,ct,od,an,sl,rfl,lk,hc⟩:=F.ex;refine Dz lk hc S hl λ A outer s H vs Q E hr hs=>?_;obtain ⟨t,h,r⟩:=hb cd A outer s H vs Q E hr hs;exact ⟨t,h.nox,r⟩
theorem bi {K:Frag} {x q:Str} {st:Stmt} {f:Addr} {dV oc kV dc pm cd ct:Value} {od an:Option Addr} {sl:Array (Option Value)} (l:K.lookup f=some ⟨oc,od,.func (PySem.W.fnOf x q (aT st) (aM st) (ay st) dV kV dc pm an cd ct),sl⟩) (c:PySem.W.codeIn K cd q=true) (k:PySem.W.keepIn K (.ref f)=true):sK K x q st f (PySem.W.fnOf x q (aT st) (aM st) (ay st) dV kV dc pm an cd ct):=⟨⟨dV,oc,kV,dc,pm,cd,ct,od,an,sl,rfl,l,c⟩,k⟩
section
variable {K:Frag} {ρ:List Addr}
end
section
variable {K:Frag} {cl:Str->Addr} {E:XK}
noncomputable def wl:List W->Option (List bR)
 | []=>some []
 | d::ds=>(oV d).bind λ k=>(wl ds).map (k::·)
noncomputable def uB:W->Option (List bR)
 | .tuple ds=>wl ds
 | _=>none
theorem Aq {ρ:List Addr} {G:Hp} {vs:List V} {ds:List W} {ks:List bR} (h:aC K ρ G vs ds):wl ds=some ks->vs=ks.map kV:=
 h.ind (M:=λ vs ds=>∀ ks,wl ds=some ks->vs=ks.map kV) (λ ks e=>by cases e;rfl) (λ _ _ _ _ a ih ks e=>by
  obtain ⟨k,e1,e⟩:=oB e
  obtain ⟨ks,e2,rfl⟩:=oM e
  rw [oF a e1,ih _ e2];rfl) ks
theorem pO {ρ:List Addr} {G:Hp} {v:V} {d:W} {ks:List bR} (h:Dw K ρ G v d) (e:uB d=some ks):∃ b,v=.ref b/\G b=some (.tup (ks.map kV)):=by
 cases h with
 | tup sq da=>exact ⟨_,rfl,by rw [<-Aq da e];exact sq⟩
 | _=>cases e
noncomputable def tX (x y:W) (S:ah):Option (Option W):=match kB x S with
 | some (_,.dK kvs)=>(oV y).map λ k=>jo kvs k
 | some (_,.dT kvs)=>(uB y).map λ k=>jo kvs k
 | _=>none
theorem vH {ρ:List Addr} {G H:Hp} {S:ah} {v u:V} {x y:W} {o:Option W} (sg:bE G H) (s:SR K ρ cl G H S) (dv:Dw K ρ G v x) (du:Dw K ρ G u y) (h:tX x y S=some o):∃ a r,v=.ref a/\nh H a u r/\(match o with | some d=>∃ z,r=some z/\Dw K ρ G z d | none=>r=none):=by
 unfold tX at h;split at h
 . rename_i n kvs e1;obtain ⟨k,e3,e4⟩:=oM h
   obtain ⟨rfl,e5⟩:=gb e1;obtain ⟨a,rfl,ea⟩:=cr dv;obtain ⟨ga,ws,k1,k2⟩:=s.addr e5 ea;obtain ⟨v1,v2⟩:=k2.val (k:=k);refine ⟨a,jP ws k,rfl,?_,?_⟩
   . rw [oF du e3];exact nh.k k1
   . cases o with
     | some d=>exact v1 d e4
     | none=>exact v2 e4
 . rename_i n kvs e1;obtain ⟨k,e3,e4⟩:=oM h
   obtain ⟨rfl,e5⟩:=gb e1;obtain ⟨a,rfl,ea⟩:=cr dv;obtain ⟨ga,ws,k1,k2⟩:=s.addr e5 ea;obtain ⟨v1,v2⟩:=k2.val (k:=k);obtain ⟨b,rfl,hb⟩:=pO du e3;refine ⟨a,jP ws k,rfl,nh.t k1 (sg _ _ hb),?_⟩
   . cases o with
     | some d=>exact v1 d e4
     | none=>exact v2 e4
 . cases h
noncomputable def lj (fo fk:DS->ah->SM W):DS->ah->SM W:=λ δ S=>ak (fo δ S) λ x S1=>ak (fk δ S1) λ y S2=>(tX x y S2).bind λ o=>jm o S2
theorem BX {to tk:TE} {fo fk:DS->ah->SM W} (ho:SE K cl E to fo) (hk:SE K cl E tk fk):SE K cl E (Dm to tk) (lj fo fk):=λ ρ G σ H δ S r S' Q R e q qx=>
 fN ho hk R e (λ x y S2 e2 v u ρ2 G2 H2 g2 s2 dv du=>by
  obtain ⟨o,e3,e4⟩:=oB e2
  obtain ⟨d,rfl,rfl,rfl⟩:=bZ e4;obtain ⟨a,r,rfl,h1,z,rfl,h2⟩:=vH g2.s s2 dv du e3;exact ⟨a,z,rfl,h1,q d rfl z ρ2 G2 H2 g2 s2 h2⟩) qx
noncomputable def Ak (x y d:W) (S:ah):Option ah:=match kB x S with
 | some (n,.dK kvs)=>(oV y).bind λ k=>if kvs.length<sizeLine then some (S.set n (.dK (jA kvs k d))) else none
 | some (n,.dT kvs)=>(uB y).bind λ k=>if kvs.length<sizeLine then some (S.set n (.dT (jA kvs k d))) else none
 | _=>none
theorem Cu {ρ:List Addr} {G H:Hp} {S S':ah} {v u w:V} {x y d:W} (sg:bE G H) (s:SR K ρ cl G H S) (dv:Dw K ρ G v x) (du:Dw K ρ G u y) (dw:Dw K ρ G w d) (h:Ak x y d S=some S'):∃ a H',v=.ref a/\qT H a u w H'/\SR K ρ cl G H' S'/\GS ρ G H ρ G H':=by
 unfold Ak at h;split at h
 . rename_i n kvs e1;obtain ⟨k,e3,e4⟩:=oB h
   split at e4
   case isFalse=>cases e4
   rename_i hl;cases e4;obtain ⟨rfl,e5⟩:=gb e1;obtain ⟨a,rfl,ea⟩:=cr dv;obtain ⟨ga,ws,k1,k2⟩:=s.addr e5 ea;obtain ⟨s4,g4⟩:=s.put (x:=.dK (iH ws k w)) (o':=.dK (jA kvs k d)) sg e5 ea (λ b z=>by cases z) ⟨_,aO,k2.put dw⟩;refine ⟨a,_,rfl,?_,s4,g4⟩;rw [oF du e3];exact qT.k k1 (by rw [<-k2.length];exact hl)
 . rename_i n kvs e1;obtain ⟨k,e3,e4⟩:=oB h
   split at e4
   case isFalse=>cases e4
   rename_i hl;cases e4;obtain ⟨rfl,e5⟩:=gb e1;obtain ⟨a,rfl,ea⟩:=cr dv;obtain ⟨ga,ws,k1,k2⟩:=s.addr e5 ea;obtain ⟨s4,g4⟩:=s.put (x:=.dT (iH ws k w)) (o':=.dT (jA kvs k d)) sg e5 ea (λ b z=>by cases z) ⟨_,aO,k2.put dw⟩;obtain ⟨b,rfl,hb⟩:=pO du e3;exact ⟨a,_,rfl,qT.t k1 (sg _ _ hb) (by rw [<-k2.length];exact hl),s4,g4⟩
 . cases h
noncomputable def kh (fo fk fv:DS->ah->SM W):DS->ah->SO:=λ δ S=>i4 (fv δ S) λ d S1=>i4 (fo δ S1) λ x S2=>i4 (fk δ S2) λ y S3=>(Ak x y d S3).map λ S4=>(.nx δ,S4)
theorem vw {to tk tv:TE} {fo fk fv:DS->ah->SM W} (ho:SE K cl E to fo) (hk:SE K cl E tk fk) (hv:SE K cl E tv fv):kc K cl E (Dn to tk tv) (kh fo fk fv):=λ ρ0 G0 H0 ρ G σ H δ S o S' D I e p=>
 fw hv I e p λ d S1 e1 v ρ1 G1 H1 g1 s1 dv=>by
  have I1:=I.grow g1 s1;refine fw ho I1 e1 p λ x S2 e2 u ρ2 G2 H2 g2 s2 du=>?_;have I2:=I1.grow g2 s2;refine fw hk I2 e2 p λ y S3 e3 w ρ3 G3 H3 g3 s3 dw=>?_;obtain ⟨S4,e4,e5⟩:=oM e3
  cases e5;have g23:=g2.trans g3;obtain ⟨a,H4,rfl,h1,s4,g4⟩:=Cu g3.s s3 ((du.ext g3.r).same g3.g) dw ((dv.ext g23.r).same g23.g) e4;exact ⟨a,_,rfl,h1,p σ ρ3 G3 _ ((I2.grow g3 s3).grow g4 s4)⟩
end
theorem cP.units1 {k:Nat} {A:Around} (r:cP k A):A.units+1<cLine:=Nat.lt_of_le_of_lt (by omega) r.units
section
variable {K:Frag} {cl:Str->Addr} {E:XK}
noncomputable def mh (fo:DS->ah->SM W):DS->ah->SM W:=λ δ S=>ak (fo δ S) λ x S1=>(dI x S1).bind λ p=>(p.2[p.2.length-1]?).map λ d=>(.ok d,S1.set p.1 (.lst p.2.dropLast))
theorem aC.dropL {ρ:List Addr} {G:Hp} {vs:List V} {ds:List W} (h:aC K ρ G vs ds):aC K ρ G vs.dropLast ds.dropLast:=by rw [List.dropLast_eq_take,List.dropLast_eq_take,h.length];exact h.take _
theorem FC {to:TE} {fo:DS->ah->SM W} (ho:SE K cl E to fo):SE K cl E (CT K "list" Fn to) (mh fo):=λ ρ G σ H δ S r' S' Q R e q qx=>
 dS ho R e (λ x S2 e2 v ρ2 G2 H2 g2 s2 dv=>by
  obtain ⟨⟨n,ds⟩,e3,e4⟩:=oB e2
  obtain ⟨d,e5,e6⟩:=oM e4
  cases e6;obtain ⟨rfl,e7⟩:=cz e3;obtain ⟨a,rfl,ea⟩:=cr dv;obtain ⟨ga,vs,k1,k2⟩:=s2.addr e7 ea;obtain ⟨z,h1,h2⟩:=k2.get e5;obtain ⟨s4,g4⟩:=s2.put (x:=.lst vs.dropLast) (o':=.lst ds.dropLast) g2.s e7 ea (λ b z=>by cases z) ⟨_,aO,k2.dropL⟩;exact ⟨.inl ⟨rfl,vs,eS.of k1⟩,a,vs,z,rfl,rfl,k1,by rw [k2.length];exact h1,q d rfl z ρ2 G2 _ (g2.trans g4) s4 h2⟩) qx
end
section
variable {K:Frag} {ρ:List Addr}
end
section
variable {K:Frag} {cl:Str->Addr} {E:XK}
end
open PySem.AutoSeq1 (wpAny_loadPart')
section
variable {prog:Program} {w:World} {A:Around} {E:Value->Shared->Prop} {s:Shared}
end
open PySem.AutoSeq1 (wpAny_loadPart')
section
variable {prog:Program} {w:World} {A:Around} {E:Value->Shared->Prop} {s:Shared}
end
section
variable {M:Model} {A:Around} {E:Value->Shared->Prop} {s:Shared} {env:Env}
end
noncomputable def vn (k:Nat) (ds:List W):List W:=(List.range ds.length).map λ (i:Nat)=>.tuple [.int ((k+i:Nat):Int),ds[i]?.getD .none]
section
variable {K:Frag} {ρ:List Addr}
noncomputable def EX:W->Option (List W)
 | .tuple ds=>some ds
 | _=>none
theorem C9 {d:W} {ds:List W} (h:EX d=some ds):d=.tuple ds:=by
 cases d <;> first | (cases h;rfl) | cases h
theorem Ff (ds:List W):EX (.tuple ds)=some ds:=rfl
noncomputable def yS (f:DS->Option W) (lo hi:DS->Option (Option Int)):DS->Option W:=λ δ=>(f δ).bind λ d=>(EX d).bind λ ds=>(lo δ).bind λ l=>(hi δ).map λ u=>.tuple (g7 ds l u)
theorem Ey {t:TE} {tl th:TO} {f:DS->Option W} {lo hi:DS->Option (Option Int)} (h:DE K ρ t f) (hl:FE K ρ tl lo) (hh:FE K ρ th hi):DE K ρ (Jm (Dc K) t tl th) (yS f lo hi):=λ G σ H δ d Q R e q=>by
 obtain ⟨x,ed,e⟩:=oB e
 obtain ⟨es,ee,e⟩:=oB e
 obtain ⟨l,el,e⟩:=oB e
 obtain ⟨u,eu,rfl⟩:=oM e
 cases C9 ee;refine h G σ H δ _ _ R ed λ v G1 H1 g1 dv=>hl G1 σ H1 δ l _ (R.grow g1) el λ G2 H2 g2=>hh G2 σ H2 δ u _ ((R.grow g1).grow g2) eu λ G3 H3 g3=>?_;have g23:=g2.trans g3;have g:=g1.trans g23;obtain ⟨p,vs,rfl,sq,da⟩:=qJ (dv.same g23.g);refine ⟨p,vs,rfl,gU.of (g.s _ _ sq),?_⟩;by_cases hw:HT.sIx vs.length 0 l=0/\HT.sIx vs.length vs.length u=vs.length
 . refine .inl ⟨hw.1,hw.2,q _ G3 H3 g ?_⟩;have e1:g7 es l u=es:=by
    unfold g7;rw [<-da.length,hw.1,hw.2,da.length];simp
   rw [e1];exact .tup sq da
 . refine .inr ⟨hw,λ r H' n=>?_⟩;have g4:=Gr.nw g.s n;exact q _ _ H' (g.trans g4) (.tup aO ((da.cut l u).same g4.g))
noncomputable def vB (T:String):W->Option W
 | .list _=>if T = "list" then some (.bool true) else none
 | .tuple _=>if T = "tuple" then some (.bool true) else none
 | d=>jS T d
theorem Hh (ds:List W):vB "list" (.list ds)=some (.bool true):=by simp [vB]
theorem FX (ds:List W):vB "tuple" (.tuple ds)=some (.bool true):=by simp [vB]
end
section
variable {K:Frag} {cl:Str->Addr} {E:XK}
noncomputable def GZ (d e:W) (S:ah):Option Bool:=(AI e S).bind λ ds=>(Ho d).bind λ v=>(vo ds).map λ vs=>BE v vs
noncomputable def B8 (neg:Bool) (fa fb:DS->ah->SM W):DS->ah->SM Bool:=λ δ S=>ak (fa δ S) λ x S1=>ak (fb δ S1) λ y S2=>jm ((GZ x y S2).map λ b=>if neg then !b else b) S2
theorem FL {neg:Bool} {ta tb:TE} {fa fb:DS->ah->SM W} (ha:SE K cl E ta fa) (hb:SE K cl E tb fb):ST K cl E (lI (pP (ES K neg) ta tb)) (B8 neg fa fb):=λ ρ G σ H δ S r' S' Q R e q qx=>
 fN ha hb R e (λ x y S2 e2 v u ρ2 G2 H2 g2 s2 dv du=>by
  obtain ⟨b,e3,rfl,rfl⟩:=bZ e2;obtain ⟨b',e4,rfl⟩:=oM e3
  obtain ⟨ds,e5,e4⟩:=oB e4
  obtain ⟨v',e6,e4⟩:=oB e4
  obtain ⟨vs,e7,rfl⟩:=oM e4
  obtain ⟨p,xs,rfl,h2,da⟩:=x8 g2.s s2 du e5;obtain ⟨rfl,f1⟩:=rO dv e6;obtain ⟨rfl,f2⟩:=n9 da e7;cases neg with
  | false=>exact ⟨p,xs,rfl,h2,f1,f2,_,rfl,q _ rfl ρ2 G2 H2 g2 s2⟩
  | true=>exact ⟨p,xs,rfl,h2,f1,f2,_,rfl,q _ rfl ρ2 G2 H2 g2 s2⟩) qx
end
theorem JW {X:Cx} {K:Frag} {e:Expr} {f:Str} {pos:Pos} {ta:TE} (hK:X.K=K) (he:PE X e ta) (hb:attributeBase e f X.env (eval e X.env)=eval e X.env):PE X (.Attribute e f pos) (Hk K ta f):=hK▸GH he hb
theorem K7 {α:Type} (x y:α) (r:List α):jg (x::y::r) 1=some y:=by
 unfold jg ug;rw [Oo (by decide),Oo (by simp;omega)];rfl
theorem Kr {α:Type} (x:α) (r:List α):jg (x::r) 0=some x:=by
 unfold jg ug;rw [Oo (by decide),Oo (by simp)];rfl
theorem sz (n:Nat) (h:n<=9000):n<=sizeLine:=OY h (by decide)
theorem dY {S:ah} {l:Nat} {es:List W} (h:S[l]?=some (.lst es)):dI (.ref l) S=some (l,es):=by simp [dI,kB,h]
theorem zc {S:ah} {l:Nat} {es:List (bR×W)} (h:S[l]?=some (.dK es)):sS (.ref l) S=some (l,es):=by simp [sS,kB,h]
theorem GT (B:List Int) (i:Int) (h0:0<=i) (h1:i<B.length):jg (B.map W.int) i=some (.int (B[i.toNat]?.getD 0)):=by
 unfold jg ug;rw [Oo h0,Oo (by simpa using h1)];have h2:i.toNat<B.length:=by omega
 simp [OF h2]
theorem qV (h:W->DS->Option DS) (fe:DS->ah->SM W) (δ δ2:DS) (d e:W) (ds es:List W) (S S1 S2:ah) (h1:h d δ=some δ2) (h2:fe δ2 S=some (.ok e,S1)) (h3:d9 h (aa ua) fe δ ds S1=some (.ok es,S2)):d9 h (aa ua) fe δ (d::ds) S=some (.ok (e::es),S2):=by
 show (h d δ).bind _=_;rw [h1];show ak (fe δ2 S) _=_;rw [h2];show ak (d9 h (aa ua) fe δ ds S1) _=_;rw [h3];rfl
theorem ao {a n:Nat} {fb:DS->ah->SO} {ds:List W} {S:ah} (h:ds.length=a):bb a n fb ds S=aY (fb (fH n ds) S):=Oo h
theorem ag {f g:DS->ah->SO} {δ δ':DS} {S S':ah} (h:f δ S=some (.nx δ',S')):au f g δ S=g δ' S':=by unfold au;rw [h]
theorem cT {c:DS->ah->SM Bool} {f g:DS->ah->SO} {δ:DS} {S S1:ah} (h:c δ S=some (.ok true,S1)):bj c f g δ S=f δ S1:=by unfold bj;rw [h];rfl
theorem bF {c:DS->ah->SM Bool} {f g:DS->ah->SO} {δ:DS} {S S1:ah} (h:c δ S=some (.ok false,S1)):bj c f g δ S=g δ S1:=by unfold bj;rw [h];rfl
theorem bC {f:DS->ah->SM W} {h:W->DS->Option DS} {δ δ':DS} {S S1:ah} {d:W} (h1:f δ S=some (.ok d,S1)) (h2:h d δ=some δ'):cR f h δ S=some (.nx δ',S1):=by
 unfold cR;rw [h1];show (h d δ).map _=_;rw [h2];rfl
theorem kM {fi:DS->ah->SM (List W)} {h:W->DS->Option DS} {fb:DS->ah->SO} {δ:DS} {S S1:ah} {ds:List W} (h1:fi δ S=some (.ok ds,S1)):mr fi h fb δ S=gh h fb ds δ S1:=by unfold mr;rw [h1];rfl
theorem kD {h:W->DS->Option DS} {fb:DS->ah->SO} {d:W} {ds:List W} {δ δ2 δ':DS} {S S':ah} (h1:h d δ=some δ2) (h2:fb δ2 S=some (.nx δ',S')):gh h fb (d::ds) δ S=gh h fb ds δ' S':=by
 show (h d δ).bind _=_;rw [h1];show (match fb δ2 S with | some (.nx δ',S')=>_ | some (.ct δ',S')=>_ | some (.bk δ',S')=>_ | some (.rt d,S')=>_ | some (.xc c,S')=>_ | none=>_)=_;rw [h2]
theorem bN (i:Int) {j:Int} (h:0<j):0<=i.fmod j/\i.fmod j<j:=⟨Int.fmod_nonneg_of_pos i h,Int.fmod_lt_of_pos i h⟩
mutual
noncomputable def iM:W->Bool
 | .none | .bool _ | .int _=>true
 | .str x=>strOk x
 | .list ds | .tuple ds=>cK ds
 | .ref _=>false
noncomputable def cK:List W->Bool
 | []=>true
 | d::ds=>iM d&&cK ds
end
mutual
noncomputable def fz:W->Nat
 | .list ds | .tuple ds=>ci ds+1
 | _=>0
noncomputable def ci:List W->Nat
 | []=>0
 | d::ds=>max (fz d) (ci ds)
end
mutual
theorem yr:∀ (d:W),iM d=true->∃ a,d.py=some a/\a.canLay0=true/\a.depth=fz d/\PyData.eqv a a=true
 | .none,_=>⟨.none,rfl,by simp [canLay0],by simp [PyData.depth,fz],by simp [PyData.eqv]⟩
 | .bool b,_=>⟨.bool b,rfl,by simp [canLay0],by simp [PyData.depth,fz],by simp [PyData.eqv]⟩
 | .int i,_=>⟨.int i,rfl,by simp [canLay0],by simp [PyData.depth,fz],by simp [PyData.eqv]⟩
 | .str x,h=>⟨.str x,rfl,by simpa [canLay0,iM] using h,by simp [PyData.depth,fz],by simp [PyData.eqv]⟩
 | .list ds,h=>by
  obtain ⟨xs,e1,e2,e3,e4⟩:=jF ds (by simpa [iM] using h);exact ⟨.list xs,by simp [W.py,e1],by simpa [canLay0] using e2,by simp [PyData.depth,fz,e3],by simpa [PyData.eqv] using e4⟩
 | .tuple ds,h=>by
  obtain ⟨xs,e1,e2,e3,e4⟩:=jF ds (by simpa [iM] using h);exact ⟨.tuple xs,by simp [W.py,e1],by simpa [canLay0] using e2,by simp [PyData.depth,fz,e3],by simpa [PyData.eqv] using e4⟩
 | .ref _,h=>by simp [iM] at h
theorem jF:∀ (ds:List W),cK ds=true->∃ xs,W.pys ds=some xs/\canLayAll0 xs=true/\PyData.depthAll xs=ci ds/\eqvAll xs xs=true
 | [],_=>⟨[],rfl,by simp [canLayAll0],by simp [PyData.depthAll,ci],by simp [eqvAll]⟩
 | d::ds,h=>by
  have h':iM d=true/\cK ds=true:=by simpa [cK] using h
  obtain ⟨a,a1,a2,a3,a4⟩:=yr d h'.1;obtain ⟨xs,e1,e2,e3,e4⟩:=jF ds h'.2;exact ⟨a::xs,by simp [W.pys,a1,e1],by simp [canLayAll0,a2,e2],by simp [PyData.depthAll,ci,a3,e3],by simp [eqvAll,a4,e4]⟩
end
theorem lM:∀ (a b:List W),cK (a++b)=(cK a&&cK b)
 | [],b=>by simp [cK]
 | d::a,b=>by simp [cK,lM a b,Bool.and_assoc]
theorem jG:∀ (a b:List W),ci (a++b)=max (ci a) (ci b)
 | [],b=>by simp [ci]
 | d::a,b=>by simp [ci,jG a b]
theorem AL {d:W} (h:iM d=true) (b:Bool) (e:KB d d=some b):b=true:=by
 cases d with
 | none=>exact (OT e).symm
 | int i=>exact (OT e).symm.trans (by simp)
 | bool i=>exact (OT e).symm.trans (by simp)
 | str i=>exact (OT e).symm.trans (by simp)
 | _=>cases e
mutual
theorem rn (S:ah):∀ (n:Nat) (d:W),iM d=true->fz d<n->jQ S n d=d.py
 | 0,d,_,h=>absurd h (not_lt_zero _)
 | n+1,.none,_,_=>rfl
 | n+1,.bool b,_,_=>rfl
 | n+1,.int i,_,_=>rfl
 | n+1,.str x,_,_=>rfl
 | n+1,.list ds,h,hd=>by
  show (jn (jQ S n) ds).map PyData.list=(W.pys ds).map .list;rw [jJ S n ds (by simpa [iM] using h) (by simp [fz] at hd;omega)]
 | n+1,.tuple ds,h,hd=>by
  show (jn (jQ S n) ds).map PyData.tuple=(W.pys ds).map .tuple;rw [jJ S n ds (by simpa [iM] using h) (by simp [fz] at hd;omega)]
 | n+1,.ref m,h,_=>by simp [iM] at h
theorem jJ (S:ah):∀ (n:Nat) (ds:List W),cK ds=true->ci ds<n->jn (jQ S n) ds=W.pys ds
 | n,[],_,_=>rfl
 | n,d::ds,h,hd=>by
  have h':iM d=true/\cK ds=true:=by simpa [cK] using h
  simp only [ci] at hd;show (jQ S n d).bind _=(W.py d).bind _;rw [rn S n d h'.1 (by omega),jJ S n ds h'.2 (by omega)]
end
theorem BY {S:ah} {l:Nat} {ds:List W} (neg:Bool) (h:S[l]?=some (.lst ds)) (hk:cK ds=true) (hd:ci ds<23):jV neg (.ref l) (.list ds) S=some (!neg):=by
 obtain ⟨xs,e1,e2,e3,e4⟩:=jF ds hk;have p1:jQ S 24 (.ref l)=some (.list xs):=by
  show (cM S l).bind _=_;rw [show cM S l=some ds by simp [cM,h]];show (jn (jQ S 23) ds).map PyData.list=_;rw [jJ S 23 ds hk hd,e1];rfl
 have p2:jQ S 24 (.list ds)=some (.list xs):=by
  rw [rn S 24 (.list ds) (by simpa [iM] using hk) (by simp [fz];omega)];simp [W.py,e1]
 unfold jV;show (jQ S 24 (.ref l)).bind _=_;rw [p1,p2];cases neg <;> simp [canLay0,e2,PyData.depth,e3,PyData.eqv,e4] <;> omega
theorem zT {S:ah} {d:W} (neg:Bool) (h:iM d=true) (hd:fz d<24):jV neg d d S=some (!neg):=by
 obtain ⟨a,a1,a2,a3,a4⟩:=yr d h;unfold jV;split
 . rename_i b e;rw [AL h b e];cases neg <;> rfl
 . rw [rn S 24 d h hd,a1];cases neg <;> simp [a2,a3,a4] <;> omega
theorem vE {α:Type} (l:List α) (k:Nat) (h:k<l.length):jg l (k:Int)=l[k]?:=by
 unfold jg ug;rw [Oo (by omega),Oo (by omega)];simp
theorem Mw {α:Type} (a b c:α) (r:List α):jg (a::b::c::r) 2=some c:=(vE _ 2 (by simp)).trans rfl
theorem NW {α:Type} (a b c d:α) (r:List α):jg (a::b::c::d::r) 3=some d:=(vE _ 3 (by simp)).trans rfl
theorem MG {α:Type} (a b c d e:α) (r:List α):jg (a::b::c::d::e::r) 4=some e:=(vE _ 4 (by simp)).trans rfl
theorem NA {α:Type} (l:List α) (k:Nat) (h0:0<k) (h:k<=l.length):jg l (-(k:Int))=l[l.length-k]?:=by
 unfold jg ug;rw [Oq (by omega),Oo (by omega)];have e2:(-(k:Int)+(l.length:Int)).toNat=l.length-k:=by omega
 simp [e2]
theorem HB (x:W) (r:List W):g7 (x::r) (some 1) none=r:=by
 unfold g7;rw [HT.sIx_none,show (some (1:Int))=some ((1:Nat):Int) from rfl,HT.sIx_nat];rw [show min 1 (x::r).length=1 by simp];simp
theorem xZ (l:List W) (a b:Nat):g7 l (some (a:Int)) (some (b:Int))=(l.drop a).take (b-a):=by
 unfold g7;rw [HT.sIx_nat,HT.sIx_nat];rcases lt_or_ge l.length a with h | h
 . rw [List.drop_of_length_le (Ps h),show min a l.length=l.length by omega,drop_length];simp
 . rw [show min a l.length=a by omega];rcases lt_or_ge l.length b with h2 | h2
   . rw [show min b l.length=l.length by omega,List.take_of_length_le (by simp),List.take_of_length_le (by simp;omega)]
   . rw [show min b l.length=b by omega]
theorem aU {f:DS->ah->SM W} {δ:DS} {S S1:ah} {d:W} (h:f δ S=some (.ok d,S1)):aS f δ S=some (.nx δ,S1):=by unfold aS;rw [h];rfl
theorem dq {f:List W->ah->SM W} {fa:DS->ah->SM (List W)} {δ:DS} {S S1 S2:ah} {ds:List W} {d:W} (h1:fa δ S=some (.ok ds,S1)) (h2:f ds S1=some (.ok d,S2)):cA f fa δ S=some (.ok d,S2):=by
 unfold cA;rw [h1];show noX (f ds S1)=_;rw [h2];rfl
theorem av {α:Type} {f:DS->Option α} {δ:DS} {S:ah} {d:α} (h:f δ=some d):aa f δ S=some (.ok d,S):=by unfold aa;rw [h];rfl
theorem aG {f:DS->Option dR} {δ δ':DS} {S:ah} (h:f δ=some (.nx δ')):aq f δ S=some (.nx δ',S):=by unfold aq;rw [h];rfl
theorem bu {f:DS->Option dR} {δ:DS} {S:ah} {d:W} (h:f δ=some (.rt d)):aq f δ S=some (.rt d,S):=by unfold aq;rw [h];rfl
theorem bw {f g:DS->ah->SO} {δ:DS} {S S':ah} {d:W} (h:f δ S=some (.rt d,S')):au f g δ S=some (.rt d,S'):=by unfold au;rw [h]
theorem bY {f:DS->ah->SM W} {δ:DS} {S S1:ah} {d:W} (h:f δ S=some (.ok d,S1)):eC f δ S=some (.rt d,S1):=by unfold eC;rw [h];rfl
theorem aK {f:DS->ah->SM W} {g:DS->ah->SM (List W)} {δ:DS} {S S1 S2:ah} {d:W} {ds:List W} (h1:f δ S=some (.ok d,S1)) (h2:g δ S1=some (.ok ds,S2)):aD f g δ S=some (.ok (d::ds),S2):=by
 unfold aD;rw [h1];show ak (g δ S1) _=_;rw [h2];rfl
theorem ju {c:Str} {f:List W->ah->SM W} {fa:DS->ah->SM (List W)} {δ:DS} {S S1 S2:ah} {ds:List W} (h1:fa δ S=some (.ok ds,S1)) (h2:f (.ref S1.length::ds) (S1++[.ins c []])=some (.ok .none,S2)):jB c f fa δ S=some (.ok (.ref S1.length),S2):=by
 simp only [jB,h1,ak,h2,noX]
theorem gT {f g:DS->ah->SM Bool} {δ:DS} {S S1:ah} (h1:f δ S=some (.ok false,S1)):fX f g δ S=some (.ok false,S1):=by simp only [fX,h1,ak,OO,OX]
theorem ge {f g:DS->ah->SM Bool} {δ:DS} {S S1 S2:ah} {b:Bool} (h1:f δ S=some (.ok true,S1)) (h2:g δ S1=some (.ok b,S2)):fX f g δ S=some (.ok b,S2):=by simp only [fX,h1,ak,OS,h2]
theorem C7 {α:Type} (q:List α) (b:α):jg (q++[b]) (-1)=some b:=by
 have:=NA (q++[b]) 1 (by decide) (by simp);simpa using this
theorem Ig {S:ah} {l:Nat} {es:List W} (h:S[l]?=some (.lst es)) (i:Int):uT (.ref l) (.int i) S=jg es i:=by simp only [uT,dY h,Do,Oj]
noncomputable def tN:Nat->List W->List W
 | _,[]=>[]
 | k,x::r=>.tuple [.int (k:Int),x]::tN (k+1) r
theorem v9:∀ (l:List W) (k i:Nat),(tN k l)[i]?=(l[i]?).map λ x=>.tuple [.int ((k+i:Nat):Int),x]
 | [],k,i=>by simp [tN]
 | x::l,k,0=>by simp [tN]
 | x::l,k,i+1=>by
  simp only [tN,List.getElem?_cons_succ,v9 l (k+1) i];rw [show k+1+i=k+(i+1) by omega]
theorem CD (l:List W) (k:Nat):vn k l=tN k l:=by
 apply List.ext_getElem?;intro i;rw [v9];unfold vn;rw [O2];by_cases h:i<l.length
 . rw [List.getElem?_range h];simp [OF h]
 . rw [Po (by simpa using h),Po (by omega)];rfl
theorem AB (l:List W):kJ l=tN 0 l:=by
 rw [<-CD];unfold kJ vn;simp
noncomputable def uD:=And.intro @eY.eq_1 <| And.intro @Bm.eq_1 <| And.intro @Bm.eq_2 <| And.intro @Bm.eq_3 <| And.intro @fH.eq_1 <| And.intro @az.eq_1 <| And.intro @aX.eq_1 <| And.intro @bO.eq_1 <| And.intro @aW.eq_1 <| And.intro @oA.eq_1 <| And.intro @aV.eq_1 <| And.intro @yZ.eq_1 <| And.intro @Aj.eq_1 <| And.intro @frz.eq_1 <| And.intro @IF.eq_1 <| And.intro @gJ.eq_1 <| And.intro @GK.eq_1 <| And.intro @qw.eq_1 <| And.intro @ae.eq_1 <| And.intro @ax.eq_1 <| And.intro @dC.eq_1 <| And.intro @aA.eq_1 <| And.intro @aw.eq_1 <| And.intro @dB.eq_1 <| And.intro @pB.eq_1 <| And.intro @xJ.eq_1 <| And.intro @Jq.eq_1 <| And.intro @Ik.eq_1 <| And.intro @KZ.eq_1 <| And.intro @kC.eq_1 <| And.intro @jw.eq_1 <| And.intro @bc.eq_1 <| And.intro @af.eq_1 <| And.intro @aj.eq_1 <| And.intro @bv.eq_1 <| And.intro @dD.eq_1 <| And.intro @dt.eq_1 <| And.intro @IB.eq_1 <| And.intro @sw.eq_1 <| And.intro @iY.eq_1 <| And.intro @ar.eq_1 <| And.intro @jW.eq_1 <| And.intro @jW.eq_2 <| And.intro @ft.eq_1 <| And.intro @ft.eq_2 <| And.intro @lF.eq_1 <| And.intro @lF.eq_2 <| And.intro @Ar.eq_1 <| And.intro @j3.eq_1 <| And.intro @kN.eq_1 <| And.intro @xY.eq_1 <| And.intro @LF.eq_1 <| And.intro @Bo.eq_1 <| And.intro @IH.eq_1 <| And.intro @cx.eq_1 <| And.intro @pL.eq_1 <| And.intro @pL.eq_2 <| And.intro @ua.eq_1 <| And.intro @Hv.eq_1 <| And.intro @yS.eq_1 <| And.intro @Ff <| And.intro @FY <| And.intro @AG <| And.intro @iq <| And.intro @cf <| And.intro @GI <| And.intro @Au <| And.intro @Do <| And.intro @AZ <| And.intro @He <| And.intro @FB <| And.intro @Hj <| And.intro @En <| And.intro @DD <| And.intro @pU <| And.intro @HK <| And.intro @HA <| And.intro @Io <| And.intro @HC <| And.intro @D7 <| And.intro @Dj <| And.intro @Dk <| And.intro @HU <| And.intro @Iw <| And.intro @BG <| And.intro @BC <| And.intro @Ba <| And.intro @BS <| And.intro @BD <| And.intro @Gj <| And.intro @Gm <| And.intro @Fl <| And.intro @Eu <| And.intro @Hf <| And.intro @C4 <| And.intro @xV <| And.intro @Cf <| And.intro @Hh <| And.intro @FX <| And.intro @Ou.{0} <| And.intro @OU.{0} <| And.intro @OQ.{0,0} <| And.intro @List.map_nil.{0,0} <| And.intro @PP.{0} <| And.intro @List.cons_append.{0} <| And.intro @List.getElem?_cons_zero.{0} <| And.intro @List.getElem?_cons_succ.{0} <| And.intro @List.set_cons_zero.{0} <| And.intro @List.set_cons_succ.{0} <| And.intro @Oj.{0,0} <| And.intro @Ot.{0,0} <| And.intro @Option.bind_none.{0,0} <| And.intro @Option.map_none.{0,0} <| And.intro @Option.getD_some.{0} <| And.intro @Option.getD_none.{0} <| And.intro @OS.{1} <| And.intro @decide_true <| And.intro @decide_false <| And.intro @Bool.not_true <| And.intro @Bool.not_false <| And.intro @OO <| And.intro @ne_eq.{1} <| @not_false_eq_true
noncomputable def uS:=And.intro @bb.eq_1 <| And.intro @aY.eq_1 <| And.intro @aY.eq_2 <| And.intro @aY.eq_3 <| And.intro @aY.eq_4 <| And.intro @au.eq_1 <| And.intro @bj.eq_1 <| And.intro @eC.eq_1 <| And.intro @cR.eq_1 <| And.intro @aS.eq_1 <| And.intro @aq.eq_1 <| And.intro @i4.eq_1 <| And.intro @i4.eq_2 <| And.intro @i4.eq_3 <| And.intro @ak.eq_1 <| And.intro @ak.eq_2 <| And.intro @ak.eq_3 <| And.intro @jm.eq_1 <| And.intro @aa.eq_1 <| And.intro @al.eq_1 <| And.intro @bH.eq_1 <| And.intro @cA.eq_1 <| And.intro @fY.eq_1 <| And.intro @noX.eq_1 <| And.intro @noX.eq_2 <| And.intro @ym.eq_1 <| And.intro @ym.eq_2 <| And.intro @ym.eq_3 <| And.intro @ym.eq_4 <| And.intro @ca.eq_1 <| And.intro @aD.eq_1 <| And.intro @la.eq_1 <| And.intro @lV.eq_1 <| And.intro @fX.eq_1 <| And.intro @AN.eq_1 <| And.intro @nQ.eq_1 <| And.intro @LB.eq_1 <| And.intro @Jn.eq_1 <| And.intro @sB.eq_1 <| And.intro @i7.eq_1 <| And.intro @Nl.eq_1 <| And.intro @y8.eq_1 <| And.intro @xq.eq_1 <| And.intro @bS.eq_1 <| And.intro @er.eq_1 <| And.intro @pW.eq_1 <| And.intro @sIx.eq_1 <| And.intro @uT.eq_1 <| And.intro @xb.eq_1 <| And.intro @oN.eq_1 <| And.intro @oN.eq_2 <| And.intro @oN.eq_3 <| And.intro @iK.eq_1 <| And.intro @J8.eq_1 <| And.intro @fV.eq_1 <| And.intro @ph.eq_1 <| And.intro @il.eq_1 <| @Option.map_eq_map.{0}
section
variable {X:Cx}
end
section
variable {K:Frag} {cl:Str->Addr} {E:XK}
end
section
variable {prog:Program} {w:World} {A:Around} {E:Value->Shared->Prop} {s:Shared}
variable {es:Array DictEntry} {ep:Nat} {key:Value} {h:Int} {m:Nat->Bool} {d:Addr} {o:Obj}
end
section
variable {P:Program} {w:World} {A:Around} {E:Value->Shared->Prop} {s:Shared}
noncomputable def nD (ks:List bR):Nat:=ks.length+1
end
section
variable {P:Program} {w:World} {H:Hp} {h:Heap} {a:Addr}
end
section
variable {X:Cx} {pins:List (Addr×Obj)} {σ:St} {H:Hp} {s:Shared} {a:Addr} {kvs:List (List bR×V)} {ks:List bR} {y z:V} {u dv:Value} {A:Around} {E:Value->Shared->Prop}
end
section
variable {X:Cx} {o e f:Expr} {td ty tx:TE} {apos cpos pos:Pos}
end
section
variable {K:Frag} {cl:Str->Addr} {E:XK}
noncomputable def D8 (K:Frag) (t:TE):TT:=λ σ H Q=>t σ H λ x H'=>∃ k,Em K x H' k/\Q k H'
theorem Ko {X:Cx} {a:Expr} {ta:TE} (hK:X.K=K) (ha:PE X a ta) (he:∀ whole,isTrue a X.env whole=(do let v <-whole;standAt a.pos;holding [v] (truthy v))):PT X a (D8 K ta):=hK▸yI ha he
noncomputable def kb (f:DS->ah->SM W):DS->ah->SM Bool:=λ δ S=>ak (f δ S) λ x S1=>jm ((dI x S1).map λ p=>!p.2.isEmpty) S1
theorem Ch {t:TE} {f:DS->ah->SM W} (h:SE K cl E t f):ST K cl E (D8 K t) (kb f):=λ ρ G σ H δ S r S' Q R e q qx=>
 dS h R e (λ x S1 e1 v ρ1 G1 H1 g1 s1 dv=>by
  obtain ⟨b,e2,rfl,rfl⟩:=bZ e1;obtain ⟨⟨n,ds⟩,e3,rfl⟩:=oM e2
  obtain ⟨rfl,e4⟩:=cz e3;obtain ⟨a,rfl,ea⟩:=cr dv;obtain ⟨ga,vs,k1,k2⟩:=s1.addr e4 ea;have hl:vs.isEmpty=ds.isEmpty:=by
   have:=k2.length;cases vs <;> cases ds <;> simp_all
  exact ⟨!ds.isEmpty,.inl ⟨vs,eS.of k1,by rw [hl]⟩,q _ rfl ρ1 G1 H1 g1 s1⟩) qx
end
section
variable {P:Program} {w:World} {A:Around} {E:Value->Shared->Prop} {s:Shared} {d:Addr} {o:Obj} {es:Array DictEntry} {ep:Nat}
end
section
variable {K:Frag} {cl:Str->Addr} {E:XK}
end
section
variable {X:Cx} {K:Frag}
end
section
variable {K:Frag} {ρ:List Addr}
noncomputable def NL:W->Option Str
 | .str z=>some z
 | _=>none
noncomputable def sC:W->W->Option W
 | .str z,.int n=>if (decide (0<=n)&&decide (n<=1000)&&decide (z.length<=1000))=true then some (.str (Txt.mul z n)) else none
 | _,_=>none
theorem B9:DR K ρ Dd sC:=λ G H x y d e c Q s hx hy hg q=>by
 unfold sC at hg;split at hg
 . rename_i z n;split at hg
   . rename_i hc;cases hg;simp only [OD,ON] at hc;cases rL hx;cases eg hy;exact ⟨z,n,rfl,rfl,hc.1.1,hc.1.2,hc.2,q _ G H (.refl s) (.str _)⟩
   . cases hg
 . cases hg
end
section
variable {K:Frag} {ρ:List Addr}
theorem aC.rep {G:Hp} {vs:List V} {ds:List W} (h:aC K ρ G vs ds):∀ n,aC K ρ G (List.replicate n vs).flatten (List.replicate n ds).flatten
 | 0=>.nil
 | n+1=>by
  rw [OR,OR,Pc,Pc];exact h.app (aC.rep h n)
end
section
variable {X:Cx} {K:Frag}
end
section
variable {K:Frag} {cl:Str->Addr} {E:XK}
noncomputable def og (f:W->Option W):List W->Option (List W)
 | []=>some []
 | d::ds=>(f d).bind λ x=>(og f ds).map (x::·)
noncomputable def CH (S:ah) (k:Nat):Option (List W):=match S[k]? with
 | some (.lst ds)=>some ds
 | _=>none
noncomputable def rW (F:Nat->Option (List W)):Nat->W->Option W
 | 0,_=>none
 | n+1,d=>match d with
  | .ref k=>(F k).bind λ ds=>(og (rW F n) ds).map .list
  | .list ds=>(og (rW F n) ds).map .list
  | .tuple ds=>(og (rW F n) ds).map .tuple
  | d=>some d
noncomputable def xo (f:List W->ah->SM W) (ds:List W):Option W:=if cK ds=true then (match f ds [] with | some (.ok d,S)=>rW (CH S) 40 d | _=>none) else none
theorem Dw.free {ρ ρ':List Addr} {G:Hp} {v:V} {d:W} (h:iM d=true) (q:Dw K ρ G v d):Dw K ρ' G v d:=
 Dw.rec (motive_1:=λ v d _=>iM d=true->Dw K ρ' G v d) (motive_2:=λ vs ds _=>cK ds=true->aC K ρ' G vs ds) (λ _=>.non) (λ b _=>.bl b) (λ i _=>.int i) (λ x _=>.str x) (λ q _ ih h=>.lst q (ih h)) (λ q _ ih h=>.tup q (ih h)) (λ _ h=>by cases h)
  (λ _=>.nil) (λ _ _ ih1 ih2 h=>by simp [cK] at h;exact .cons (ih1 h.1) (ih2 h.2)) q h
theorem aC.free {ρ ρ':List Addr} {G:Hp} {vs:List V} {ds:List W} (h:cK ds=true) (q:aC K ρ G vs ds):aC K ρ' G vs ds:=
 q.ind (M:=λ vs ds=>cK ds=true->aC K ρ' G vs ds) (λ _=>.nil) (λ _ _ _ _ a ih h=>by simp [cK] at h;exact .cons (a.free h.1) (ih h.2)) h
theorem ss {ρ ρ':List Addr} {G G2:Hp} {f:W->Option W} (hf:∀ v d d',f d=some d'->Dw K ρ' G v d->Dw K ρ G2 v d') {vs:List V} {ds es:List W} (e:og f ds=some es) (q:aC K ρ' G vs ds):aC K ρ G2 vs es:=
 q.ind (M:=λ vs ds=>∀ es,og f ds=some es->aC K ρ G2 vs es) (λ es e=>by cases e;exact .nil) (λ _ _ _ _ a ih es e=>by
  obtain ⟨x,e1,e⟩:=oB e
  obtain ⟨xs,e2,rfl⟩:=oM e
  exact .cons (hf _ _ _ e1 a) (ih _ e2)) es e
theorem r9 {ρ ρ':List Addr} {G G2 H:Hp} {S:ah} (s:SR K ρ' cl G H S) (hg:bE G G2) (hn:∀ a vs,a∈ρ'->H a=some (.lst vs)->G2 a=some (.lst vs)):∀ (n:Nat) (v:V) (d d':W),rW (CH S) n d=some d'->Dw K ρ' G v d->Dw K ρ G2 v d'
 | 0,_,_,_,e,_=>by cases e
 | n+1,v,d,d',e,h=>by
  cases h with
  | non=>cases e;exact .non
  | bl b=>cases e;exact .bl b
  | int i=>cases e;exact .int i
  | str x=>cases e;exact .str x
  | lst q a=>
   obtain ⟨es,e1,rfl⟩:=oM e
   exact .lst (hg.seq q) (ss (r9 s hg hn n) e1 a)
  | tup q a=>
   obtain ⟨es,e1,rfl⟩:=oM e
   exact .tup (hg _ _ q) (ss (r9 s hg hn n) e1 a)
  | @ref a k ea=>
   obtain ⟨ds,hF,e⟩:=oB e
   obtain ⟨es,e1,rfl⟩:=oM e
   have hS:S[k]?=some (.lst ds):=by
    unfold CH at hF;split at hF
    . rename_i h;cases hF;exact h
    . cases hF
   obtain ⟨ga,vs,k1,k2⟩:=s.addr hS ea;exact .lst (eS.of (hn a vs (O8 ea) k1)) (ss (r9 s hg hn n) e1 k2)
open Classical in
noncomputable def frzG (ρ:List Addr) (G H:Hp):Hp:=λ a=>if a∈ρ/\∃ vs,H a=some (.lst vs) then H a else G a
theorem ze {f:List W->ah->SM W} {vs:List V} {H:Hp} {Q:VK} {E:XK} (h:oy K (xo f) vs H Q E):hV K cl f vs H Q E:=by
 obtain ⟨ρ,G,ds,d',sg,da,e,q⟩:=h;unfold xo at e;split at e
 case isFalse=>cases e
 rename_i ok;split at e
 . rename_i d S' ef;refine ⟨[],G,[],ds,d,S',sg,yY,da.free ok,ef,λ v ρ' G' H' g s dv=>?_⟩;have out:∀ a,a∈ρ'->G' a=none:=λ a ha=>by
    obtain ⟨n,hn⟩:=List.getElem?_of_mem ha;have hl:n<S'.length:=by rw [<-s.len];exact (oG hn).1
    exact (s.addr (OF hl) hn).1
   have g1:bE G' (frzG ρ' G' H'):=λ b o eb=>by
    unfold frzG;rw [Oq]
    . exact eb
    . rintro ⟨hb,_⟩;rw [out b hb] at eb;cases eb
   have g2:bE (frzG ρ' G' H') H':=λ b o eb=>by
    unfold frzG at eb;split at eb
    . exact eb
    . exact g.s b o eb
   have gr:Gr G H (frzG ρ' G' H') H':=⟨g.g.trans g1,λ b o eb=>g.h b o (by simp) eb,g2,λ b h1 h2=>by
    unfold frzG;rw [Oq]
    . exact g.n b h1 h2
    . rintro ⟨hb,_⟩;exact h1.1 (g.f b hb (by simp))⟩
   exact q v (frzG ρ' G' H') H' gr (r9 s g1 (λ a vs ha hv=>by unfold frzG;rw [Oo ⟨ha,vs,hv⟩];exact hv) 40 v d d' e dv)
 . cases e
end
noncomputable def Jz (K:Frag) (mg:Str->Option Value) (x:Str) (ps:List Str) (us:List Value) (f:Addr) (fd:FuncData):Prop:=mg x=some (.ref f)/\PySem.W.keepIn K (.ref f)=true/\aN K fd ps []/\aN K fd ps us
noncomputable def Ce (R:Addr->FuncData->Prop) (P:Program) (w:World) (K:Frag) (mg:Str->Option Value) (base:Heap) (k:Nat) (ps:List Str) (sp:Sp):Prop:=∃ f fd,R f fd/\eE P w K mg base va k f fd ps sp
noncomputable def jd (R:Addr->FuncData->Prop) (K:Frag) (x q:Str) (st:Stmt):Prop:=∃ f fd,sK K x q st f fd/\R f fd
noncomputable abbrev rH (K:Frag) (mg:Str->Option Value) (x:Str) (ps:List Str) (us:List Value) (st:Stmt):Prop:=jd (Jz K mg x ps us) K x x st
noncomputable abbrev rc (P:Program) (w:World) (K:Frag) (mg:Str->Option Value) (base:Heap) (x:Str) (ps:List Str) (us:List Value) (k:Nat) (sp:Sp):Prop:=Ce (Jz K mg x ps us) P w K mg base k ps sp
section
variable {X:Cx} {x:Str} {o e:Expr} {es:List Expr} {t:TA} {ps:List Str} {us:List Value} {sp:Sp} {p pos:Pos} {K:Frag} {T:String} {name:Str} {r:V->List V->Hp->VK->Prop} {q:List V->Hp->VK->Prop} {to:TE} {apos:Pos}
noncomputable def MB (X:Cx) (x:Str) (us:List Value) (sp:Sp):Prop:=∃ j k ps,Ce (Jz X.K X.mg x ps us) X.prog X.w X.K X.mg X.base j ps sp/\cP k X.A/\j<=k
theorem MW (h:∃ us,MB X x us sp) (hg:Gl X x) (ha:PA X (e::es) t) (hd:(x==("__debug__" : Str))=false)
 (he:starEach (e::es) X.env=(false,eval e X.env)::starEach es X.env) (hp:(backTo pos (starEach es X.env)).any (·.1)=false):PE X (.Call (.Name x p) (e::es) [] pos) (tM sp [] E0 t):=by
 obtain ⟨us,j,k,ps,⟨f,fd,⟨m,kp,b,_⟩,F⟩,hr,hl⟩:=h;exact CI (F.mono hl) hr hg m kp b .nil IZ ha hd he hp
noncomputable def QM (X:Cx) (T:String) (name:Str) (r:V->List V->Hp->VK->Prop):Prop:=∃ id,PlainAttrs T/\Slot T name id/\typeOf (.builtin id)=pure (.type "method_descriptor")/\HV X id r
noncomputable def QB (X:Cx) (x:Str) (q:List V->Hp->VK->Prop):Prop:=∃ id,ff X (.builtin id) q/\bootBuiltins x=some (.builtin id)
theorem ME:QM X "list" "append" nB:=⟨_,PySem.F.plainAttrs_list,PySem.F.slot_list_append,PySem.F.type_list_append,wP⟩
theorem Ni:QM X "list" "pop" Fn:=⟨_,PySem.F.plainAttrs_list,PySem.F.slot_list_pop,PySem.F.type_list_pop,Hb⟩
theorem MY (h:X.K=K):QB X "len" (wJ K):=⟨_,xD h,PySem.boot_len⟩
theorem MU:QB X "isinstance" Ck:=⟨_,pM,boot_isinstance⟩
theorem L1 (h:X.K=K):QB X "isinstance" (wj K):=⟨_,wV h,boot_isinstance⟩
theorem MX (h:X.K=K) (hm:QM X T name r) (ho:PE X o to) (hb:attributeBase o name X.env (eval o X.env)=eval o X.env) (hl:(apos.endLine==pos.line)=true):PE X (.Call (.Attribute o name apos) [] [] pos) (CT K T r to):=by
 obtain ⟨_,a,b,c,d⟩:=hm;exact CJ h a b c d ho hb hl
theorem MJ (h:X.K=K) (hm:QM X T name r) (ho:PE X o to) (ha:PA X (e::es) t) (hb:attributeBase o name X.env (eval o X.env)=eval o X.env)
 (hf:((backTo pos (starEach (e::es) X.env)).all (λ x=>!x.1)&&(backToKw pos (keywordEach [] X.env)).all (λ x=>x.1.isSome)
  && decide ((e::es).length+([]:List Keyword).length+(if ([]:List Keyword).isEmpty then 0 else 1)<30))=true)
 (hl:(apos.endLine==pos.line)=true) (hs:starEach (e::es) X.env=(false,eval e X.env)::starEach es X.env) (hp:(backTo pos (starEach es X.env)).any (·.1)=false):
 PE X (.Call (.Attribute o name apos) (e::es) [] pos) (Jp K T r to t):=by
 obtain ⟨_,a,b,c,d⟩:=hm;exact Gz h a b c d ho ha hb hf hl hs hp
theorem MK (hq:QB X x q) (hg:Gl X x) (hm:X.mg x=none) (ha:PA X (e::es) t) (hn:x ≠ "__name__") (hd:(x==("__debug__" : Str))=false)
 (he:starEach (e::es) X.env=(false,eval e X.env)::starEach es X.env) (hp:(backTo pos (starEach es X.env)).any (·.1)=false):PE X (.Call (.Name x p) (e::es) [] pos) (AQ q t):=by
 obtain ⟨_,a,b⟩:=hq;exact yf a hg hm b ha hn hd he hp
end
section
variable {X:Cx} {x:Str} {us:List Value} {sp:Sp} {j k:Nat} {ps:List Str} {pos:Pos}
theorem Lk (h:Ce (Jz X.K X.mg x ps us) X.prog X.w X.K X.mg X.base j ps sp) (hr:cP k X.A) (hl:j<=k):∃ us,MB X x us sp:=⟨us,j,k,ps,h,hr,hl⟩
theorem NY (hg:Gl X "list") (hm:X.mg "list" = none):PE X (.Name "list" pos) (tC (.ty "list")):=qK hg hm boot_list rfl (by decide) (by decide)
theorem NU (hg:Gl X "int") (hm:X.mg "int" = none):PE X (.Name "int" pos) (tC (.ty "int")):=qK hg hm (by decide +kernel:bootBuiltins "int" = some (.type "int")) rfl (by decide) (by decide)
theorem Np (hg:Gl X "bool") (hm:X.mg "bool" = none):PE X (.Name "bool" pos) (tC (.ty "bool")):=qK hg hm boot_bool' rfl (by decide) (by decide)
theorem HL {a b c:Prop} (h:b):a∨b∨c:=.inr (.inl h)
end
noncomputable def cN (N:List Str):List (Option Nat)->List Str->List Str
 | some i::r,u=>N.getD i "" :: cN N r u
 | _,u=>u
section
variable {X:Cx} {scope:Scope} {ix:List (Option Nat)} {z:Str} {zp:Pos} {iter elt:Expr} {ifs:List Expr} {wi:TI} {g:TG} {tc:TT} {te:TE} {pos py spos:Pos} {y:Str} {i:Nat}
theorem DM {N:List Str} (kind:scope.kind=.function) (nocell:(scope.names.all λ y=>y.2 != .cell)=true) (locs:(scope.names.all λ y=>y.2 != .local||scope.names.lookup y.1==some .local)=true)
 (free:(scope.names.all λ y=>y.2 != .free||X.env.kindOf y.1==some .cell||X.env.kindOf y.1==some .free)=true) (len:ix.length=N.length) (nd:decide N.Nodup=true)
 (fr:((ix.zip N).all λ p=>match p.1 with
  | none=>true
  | some i=>X.N[i]?==some p.2&&(X.env.kindOf p.2==some .cell||X.env.kindOf p.2==some .free)&&((relabel scope X.env).names.lookup p.2==some .cell||(relabel scope X.env).names.lookup p.2==some .free))=true):cH X scope N ix:=vv kind nocell locs free len (PL nd) fr
noncomputable abbrev NX (X:Cx) (scope:Scope) (ix:List (Option Nat)) (z:Str) (zp:Pos) (elt:Expr) (ifs:List Expr) (g:TG) (tc:TT) (te:TE):Prop:=∀ (s₀:Shared) (H₀:Hp) (C:Addr) (ex:List Addr),(cN X.N ix [z]).Nodup->PG (cD X scope (cN X.N ix [z]) s₀ H₀ C ex) (.Name z zp) g/\xH (cD X scope (cN X.N ix [z]) s₀ H₀ C ex) ifs tc/\PE (cD X scope (cN X.N ix [z]) s₀ H₀ C ex) elt te
theorem Ja (S:cH X scope (cN X.N ix [z]) ix) (hn:decide (cN X.N ix [z]).Nodup=true) (hc:X.calm=true) (hi:PI X (.Name z zp) iter wi) (hG:tH ix g) (hb:NX X scope ix z zp elt ifs g tc te)
 (hs:∀ x,foldedSetIterable iter X.env x=pure x):PE X (.ListComp elt [⟨.Name z zp,iter,ifs,0⟩] scope pos) (w9 ix wi g tc te):=BU S hc hi hG (λ a b c d=>hb a b c d (PL hn)) hs
end
noncomputable abbrev KU (P:Program) (w:World) (K:Frag) (mg:Str->Option Value) (base:Heap) (N:List Str) (q:Str) (st:Stmt) (k:Nat) (t:TS):Prop:=∀ (f:Addr) (cd:Value) (A:Around) (outer:List Env) (s:Shared) (H:Hp) (E:XK),N.Nodup->cP k (A.deeper (envOfC q (ay st) s.heap.objs.size f cd))->(A.deeper (envOfC q (ay st) s.heap.objs.size f cd)).units+64<cLine->(A.deeper (envOfC q (ay st) s.heap.objs.size f cd)).units+1<cLine->
 nL (gO va P w K mg base N q (ay st) f cd A outer s H E).nox (aM st) t
section
variable {P:Program} {w:World} {K:Frag} {mg:Str->Option Value} {base:Heap} {cl:Str->Addr} {R:Addr->FuncData->Prop} {x q:Str} {st:Stmt} {N ps:List Str} {a n k:Nat} {t:TS} {sp:Sp}
theorem HW (D:jd R K x q st) (S:eL N ps (ay st)) (hl:∀ vs H Q E,sp vs H Q E->vs.length=ps.length) (rd:∀ vs H Q E,sp vs H Q E->t ({ nx:=λ _ H'=>Q V.non H',rt:=Q }:iZ) (start N vs) H)
 (pe:KU P w K mg base N q st k t):Ce R P w K mg base (k+1) ps sp:=by
 obtain ⟨f,fd,F,r⟩:=D;exact ⟨f,fd,r,F.ok S hl λ cd A outer s H vs Q E hr h=>⟨t,pe f cd A outer s H E S.nd hr hr.units hr.units1,rd vs H Q E h⟩⟩
theorem nR {fb:DS->Option dR} {g:List W->Option W} (D:jd R K x q st) (hg:g=eY a n fb) (de:∀ ρ,pc K ρ t fb)
 (pe:KU P w K mg base N q st k t) (hN:N.length=n) (ha:ps.length=a) (S:eL N ps (ay st)):Ce R P w K mg base (k+1) ps (oy K g):=by
 subst hg ha;exact HW D S (λ vs H Q E h=>Bp (λ ds d e=>pX e) h) (λ vs H Q E h=>KP hN de h) pe
theorem fU {fb:DS->ah->SO} {g:List W->ah->SM W} (D:jd R K x q st) (hg:g=bb a n fb) (de:kc K cl E0 t fb)
 (pe:KU P w K mg base N q st k t) (hN:N.length=n) (ha:ps.length=a) (S:eL N ps (ay st)):Ce R P w K mg base (k+1) ps (hV K cl g):=by
 subst hg ha;exact HW D S (λ vs H Q E h=>wx (λ ds S r e=>jE e) h) (λ vs H Q E h=>Df hN de h) pe
theorem Ce.imp {sq:Sp} (h:Ce R P w K mg base k ps sp) (i:∀ vs H Q E,sq vs H Q E->sp vs H Q E):Ce R P w K mg base k ps sq:=by
 obtain ⟨f,fd,r,F⟩:=h;exact ⟨f,fd,r,F.imp i⟩
theorem Ix {g:List W->Option W} (D:jd R K x q st) (h:∀ ds,g ds=none):Ce R P w K mg base k ps (oy K g):=by
 obtain ⟨f,fd,_,r⟩:=D;exact ⟨f,fd,r,eE.no h⟩
theorem uG {F:Nat->Sp} (h0:Ce R P w K mg base (k+0) ps (F 0)) (hs:∀ n,Ce R P w K mg base (k+n) ps (F n)->Ce R P w K mg base (k+n+1) ps (F (n+1))):∀ n,Ce R P w K mg base (k+n) ps (F n)
 | 0=>h0
 | n+1=>hs n (uG h0 hs n)
noncomputable def An (K:Frag) (x:Str) (st:Stmt) (dV:Value):Prop:=∃ (f:Addr) (oc:Value) (od:Option Addr) (kV dc pm:Value) (an:Option Addr) (cd ct:Value) (sl:Array (Option Value)),
 PySem.W.nsIn K mainGlobals x=some (some (.ref f))/\K.lookup f=some ⟨oc,od,.func (PySem.W.fnOf x x (aT st) (aM st) (ay st) dV kV dc pm an cd ct),sl⟩/\PySem.W.codeIn K cd x=true/\PySem.W.keepIn K (.ref f)=true
theorem An.dn {h:Heap} (X:K.In h) (G:h.Ns mainGlobals mg) (z:An K x st .none) (hb:∀ (kV dc pm:Value) (an:Option Addr) (cd ct:Value) (us:List Value),us.length=ps.length->bindArgs (PySem.W.fnOf x x (aT st) (aM st) (ay st) .none kV dc pm an cd ct) ⟨us,[]⟩=pure (ps.zip us)):
 jd (Jz K mg x ps []) K x x st:=by
 obtain ⟨f,oc,od,kV,dc,pm,an,cd,ct,sl,m,l,c,kp⟩:=z;have b:aN K _ ps []:=(bM l c kp).binds hb;exact ⟨f,_,bi l c kp,Pb X G m,kp,b,b⟩
end
section
variable {K:Frag} {cl:Str->Addr} {E:XK}
theorem FH {R:Addr->FuncData->Prop} {P:Program} {w:World} {mg:Str->Option Value} {base:Heap} {k:Nat} {ps:List Str} {x q:Str} {st:Stmt} {g:List W->ah->SM W} (D:jd R K x q st) (h:∀ ds S,g ds S=none):Ce R P w K mg base k ps (hV K cl g):=by
 obtain ⟨f,fd,_,r⟩:=D;exact ⟨f,fd,r,eE.no0 h⟩
end
section
variable {prog:Program} {w:World} {A:Around} {E:Value->Shared->Prop} {s:Shared} {d it:Addr} {es:Array DictEntry} {ep i:Nat}
end
section
variable {K:Frag} {cl:Str->Addr} {E:XK} {ρ:List Addr}
end
section
variable {K:Frag} {cl:Str->Addr} {E:XK}
end
section
variable {X:Cx} {e:Expr} {es:List Expr} {t:TA} {p pos:Pos}
end
section
variable {X:Cx} {pos:Pos}
end
section
variable {K:Frag} {cl:Str->Addr} {E:XK}
end
section
variable {X:Cx}
end
noncomputable abbrev mroEx:List Value:=[.type "Exception", .type "BaseException", .type "object"]
noncomputable def XClE (K:Frag) (C:Addr):Prop:=PySem.W.excIn K C mroEx "Exception.__new__" = true
theorem XClE.parts {K:Frag} {C:Addr} {hh:Heap} (q:XClE K C) (X:K.In hh):∃ tl N nm qn bs hdct sn sub ab col dd k0 k1 k2 k3 k5 mN,
 hh.get? C=some (excClassObj nm qn C N bs tl hdct sn sub ab col dd k0 k1 k2 k3 k5 "Exception.__new__")/\hh.Ns N mN/\mN "__init__" = none/\OwnTail hh mroEx tl:=by
 unfold XClE PySem.W.excIn at q;split at q <;> try (cases q;done)
 split at q <;> try (cases q;done)
 rename_i dct cdat slots look0 l1 l2 D tail a0 a1 a2 a3 nid a5 hmro hslots;rw [OD,OD,OD,OD,OD] at q;obtain ⟨⟨⟨⟨⟨q1,q2⟩,q3⟩,q4⟩,q5⟩,q6⟩:=q;have z1:D=C:=by simpa using q1
 have z2:nid = "Exception.__new__" := by simpa using q2
 have z3:cdat.hasDel=false:=by simpa using q3
 have z6:PySem.W.nsIn K cdat.ns "__init__" = some none:=by simpa using q6
 have zs:slots = #[a0,a1,a2,a3,some (.builtin nid),a5]:=by
  rw [<-hslots,Array.toArray_toList]
 subst z1 z2 zs;refine ⟨tail,cdat.ns,cdat.name,cdat.qualname,cdat.bases,cdat.hasDict,cdat.slotNames,cdat.subclasses,cdat.abstract,cdat.collection,dct,a0,a1,a2,a3,a5,_,?_,.of_isNs (PySem.W.isNs_of_in X q5),PySem.W.nsMap_none_of_in X q5 z6,PySem.W.tail_of_in X q4⟩;have got:=X _ _ look0;cases cdat;simp only at hmro z3;subst hmro z3;exact got
section
variable {X:Cx} {E:XK} {C:Addr} {x:Str} {np cpos pos:Pos} {e:Expr} {es:List Expr} {t:TA}
theorem Hz (hr:uN X E) (hc:X.calm=true) (hC:XClE X.K C) (hg:Gl X x) (hm:X.mg x=some (.ref C)) (ha:PA X (e::es) t)
 (he:starEach (e::es) X.env=(false,eval e X.env)::starEach es X.env) (hpl:(backTo cpos (starEach es X.env)).any (·.1)=false) (hd:(x==("__debug__" : Str))=false):
 PS X (.Raise (some (.Call (.Name x np) (e::es) [] cpos)) none pos) (yL C E t):=by
 intro pins s σ H D I h;obtain ⟨tl,N,nm,q,bs,hdct,sn,sub,ab,col,dd,k0,k1,k2,k3,k5,mN,hCo,hNs,hni,T0⟩:=hC.parts I.mod.kin;refine wpAny_Raise_call_subT (C:=C) (nm:=nm) (q:=q) (N:=N) (bs:=bs) (bm:=tl) (hdct:=hdct) (sn:=sn) (sub:=sub) (ab:=ab) (col:=col) (dd:=dd) (k0:=k0) (k1:=k1) (k2:=k2) (k3:=k3) (k5:=k5) F.excBase_Exception (mN:=mN)
  (T0.hasType F.excBase_Exception.hasBase) (I.ok.hd hc) (by rw [he];show (false||(backTo cpos (starEach es X.env)).any (·.1))=false;rw [hpl];rfl) hni (gY I hg hm ⟨rfl,?_⟩ hd)
 rw [he];refine Calls.evalArgs_plain ?_;have h1:=ha cpos pins s σ H _ I h;rw [he] at h1;refine cy h1 λ us s2 hy0=>?_;obtain ⟨vs,H2,I2,rv,hz,hE⟩:=hy0;refine ⟨rfl,by rw [<-rv.length];exact hz,I2.bk _ _ hCo,hNs.keeps I2.bk,T0.keeps I2.bk,λ h' ee hm=>?_⟩;exact hr pins σ H2 s2 h' ee (.ref C) us I2 hm hE
end
structure iC (k:Nat) (A:Around):Prop where
 dp:A.depth+3*k+5<recursionLimit
 un:A.units+16*k+200<cLine
theorem cP.n {k:Nat} {A:Around} (r:cP k A):iC k A:=⟨r.dp,r.un⟩
theorem iC.mono {j k:Nat} {A:Around} (r:iC k A) (h:j<=k):iC j A:=⟨by have:=r.dp;omega,by have:=r.un;omega⟩
theorem iC.deeper {k:Nat} {A:Around} (r:iC (k+1) A) (env:Env):iC k (A.deeper env):=
 ⟨by have:=r.dp;show A.depth+1+3*k+5<_;omega,by have:=r.un;show A.units+3+16*k+200<_;omega⟩
structure oP (P:Program) (w:World) (K:Frag) (mg:Str->Option Value) (base:Heap) (CX:qE) (k:Nat) (f:Addr) (fd:FuncData) (ps:List Str) (sp:Sp):Prop where
 len:∀ vs H Q E,sp vs H Q E->vs.length=ps.length
 run:∀ (A:Around) (outer:List Env) (s:Shared) (H:Hp) (args:Args) (us:List Value) (vs:List V) (Q:VK) (E:XK),iC k A->tO P w K mg base A outer s H->BindsTo s fd args (ps.zip us)->be vs us->sp vs H Q E->
  codeAny (model P w) A (.call (.ref f) args) (CR CX outer P w H s Q E) s
theorem oP.all {P:Program} {w:World} {K:Frag} {mg:Str->Option Value} {base:Heap} {CX:qE} {k:Nat} {f:Addr} {fd:FuncData} {ps:List Str} {sp:Sp} (F:oP P w K mg base CX k f fd ps sp):eE P w K mg base CX k f fd ps sp:=
 ⟨F.len,λ A outer s H args us vs Q E hr=>F.run A outer s H args us vs Q E hr.n⟩
noncomputable abbrev JH (P:Program) (w:World) (K:Frag) (mg:Str->Option Value) (base:Heap) (N:List Str) (qual:Str) (scope:Scope) (f:Addr) (cd:Value) (A:Around) (outer:List Env) (s:Shared) (H:Hp) (E:XK):Cx:=
 { gO va P w K mg base N qual scope f cd A outer s H E with calm:=false,xe:=λ _ _=>False }
theorem Ej {P:Program} {w:World} {K:Frag} {mg:Str->Option Value} {base:Heap} {k:Nat} {f:Addr} {name qual:Str} {params:Arguments} {body:List Stmt} {scope:Scope} {dV kV doc pm cdv ct oc:Value} {an od:Option Addr}
 {osl:Array (Option Value)} {N ps:List Str} {sp:Sp} (lk:K.lookup f=some ⟨oc,od,.func (PySem.W.fnOf name qual params body scope dV kV doc pm an cdv ct),osl⟩) (hcd:PySem.W.codeIn K cdv qual=true) (S:eL N ps scope)
 (len:∀ vs H Q E,sp vs H Q E->vs.length=ps.length)
 (hbody:∀ (A:Around) (outer:List Env) (s:Shared) (H:Hp) (vs:List V) (Q:VK) (E:XK),iC k (A.deeper (envOfC qual scope s.heap.objs.size f cdv))->sp vs H Q E->
  ∃ t,nL (JH P w K mg base N qual scope f cdv A outer s H E) body t/\t { nx:=λ _ H'=>Q .non H',rt:=Q } (start N vs) H):
 oP P w K mg base va (k+1) f (PySem.W.fnOf name qual params body scope dV kV doc pm an cdv ct) ps sp:=by
 refine ⟨len,λ A outer s H args us vs Q E hr e0 hb r hsp=>?_⟩;have hl:=len _ _ _ _ hsp;have KX:K.In s.heap:=e0.mod.kin.keeps λ b o e=>(e0.bs b o e).1;have lim:s.heap.NoLimit:=e0.mod.nolimit.keeps λ b o e=>(e0.bs b o e).1;have hkind:∀ y∈ps.zip us,scope.names.lookup y.1=some .local∨(scope.names.lookup y.1=some .cell/\((cellsFrom (s.heap.objs.size+1) scope.names []).lookup y.1).isSome=true):=λ ⟨n,v⟩ hy=>by
  rcases S.par n (of_mem_zip hy).1 with q | q
  . exact .inl q
  . exact .inr ⟨q,PySem.W.cellsFrom_some _ _ _ (.inl q)⟩
 have hdep:A.depth<recursionLimit:=by have:=hr.dp;omega
 refine codeAny_call_function hdep (KX _ _ lk) rfl S.co S.gen rfl (PySem.W.codeRec_of KX hcd) (hb _ _ _ _ ?_);refine wpAny_newFunctionEnv_cells S.kind hkind λ env he s1 x=>?_;subst he;refine ⟨lim.keeps x.toInCall.keep,codeAny_func ?_⟩;obtain ⟨t,ht,hq⟩:=hbody A outer s H vs Q E (hr.deeper _) hsp;have I0:aL (gO va P w K mg base N qual scope f cdv { A with handled:=none } outer s H E) [] (start N vs) H s1:=ql S rfl ⟨e0.frames,e0.mod,e0.bs,e0.bsz,e0.funs,e0.frf,e0.hok,e0.bare⟩ hl r x;have I:aL (JH P w K mg base N qual scope f cdv A outer s H E) [] (start N vs) H s1:=
  ⟨⟨I0.ok.mod,I0.ok.kind,I0.ok.glob,I0.ok.blt,I0.ok.above,I0.ok.inj,I0.ok.has,I0.ok.cab,(λ h=>by cases h),I0.ok.frames,I0.ok.stk,I0.ok.exf,I0.ok.bs,I0.ok.bsz,I0.ok.noex,I0.ok.exfs,I0.ok.funs,I0.ok.frf⟩,I0.os,I0.bare,I0.base,I0.loc,I0.cell,I0.free,I0.freeC,I0.pin,I0.hok,I0.len⟩
 refine O4 (ht [] s1 (start N vs) H _ I hq) (λ fl s' hs=>?_) λ e s' hs=>hs.elim;have fin:∀ {σ':St} {H':Hp} {v:V} {u:Value},aL (JH P w K mg base N qual scope f cdv A outer s H E) [] σ' H' s'->bq v u->Q v H'->CE outer P w H s Q u s':=
  λ {σ' H' v u} J rv q=>⟨v,H',J.os,J.bare,J.base,J.hok,rv,q⟩
 cases fl with
 | ret u=>
  obtain ⟨v,σ',H',J,rv,q⟩:=hs;exact fin J rv q
 | next=>
  obtain ⟨σ',H',J,q⟩:=hs;exact fin (v:=V.non) (u:=Value.none) J rfl q
 | brk=>
  obtain ⟨_,_,_,q⟩:=hs;exact False.elim q
 | cont=>
  obtain ⟨_,_,_,q⟩:=hs;exact False.elim q
section
variable {X:Cx} {CX:qE} {k:Nat} {f C:Addr} {fd:FuncData} {ps:List Str} {sp:Sp} {dvs:List V} {ds:List Value} {E:XK} {x m:Str} {p pos apos:Pos} {e o:Expr} {es:List Expr} {ta:TE} {t:TA}
theorem yc {pl:Sem Bool} (he:PE X o ta) (c:eU X.K C) (hm:bg X.K C m f) (F:oP X.prog X.w X.K X.mg X.base va k f fd ps sp) (hr:iC k X.A) (hb:aN X.K fd ps []) (ha:PA X (e::es) t)
 (hst:starEach (e::es) X.env=(false,eval e X.env)::starEach es X.env) (hpl:(backTo pos (starEach es X.env)).any (·.1)=false)
 (ht:eval (.Call (.Attribute o m apos) (e::es) [] pos) X.env=(do
  let ov <-eval o X.env
  standAt apos.atName
  let (f,first) <-holding [ov] (getMethod ov m pl)
  callWith pos f first (backTo pos (starEach (e::es) X.env)) (backToKw pos (keywordEach [] X.env)))):
 PE X (.Call (.Attribute o m apos) (e::es) [] pos) (qy C m sp [] E0 ta t):=by
 intro pins s σ H Q I h;refine PJ (pl:=pl) (cy (he pins s σ H _ I h) λ u s1 hq0=>?_) ht;obtain ⟨x,H1,I1,rx,a,dx,fs,ex,ea,l,q⟩:=hq0;subst ex;obtain rfl:u=Value.ref a:=rx;refine iP I1 ea c hm l ?_;refine PB (first:=[.ref a]) (h₀:=X.base) I.ok.mod.kin hm.kp (cy (ha pos pins s1 σ H1 _ I1 q) λ us s2 hy0=>?_) hst hpl;obtain ⟨vs,H2,I2,r,q2⟩:=hy0;refine ⟨I2.kIn,?_⟩;have r2:be (.ref a::(vs++[])) ((.ref a::us)++[]):=by rw [Oz,Oz];exact .cons rfl r
 have hl:((.ref a::us)++([]:List Value)).length=ps.length:=by rw [<-r2.length];exact F.len _ _ _ _ q2
 refine wpAny_call (codeAny_mono (F.run X.A X.stack s2 H2 ⟨.ref a::us,[]⟩ (.ref a::us++[]) _ Q E0 hr I2.env0 (hb s2 (.ref a::us) I2.kIn hl) r2 q2) λ r s' hq=>?_);cases r with
 | error e=>exact hq.elim
 | ok fl=>
  cases fl with
  | ret u=>exact I2.after hq
  | next=>exact False.elim hq
  | brk=>exact False.elim hq
  | cont=>exact False.elim hq
end
noncomputable def DX (C:Addr) (m:Str) (sp:Sp) (C1 C2:Addr) (to:TE) (ta:TA) (t1 t2:TS):TS:=λ D σ H=>to σ H λ x H1=>∃ a dx fs,x=.ref a/\H1 a=some (.ins C dx fs)/\fs.lookup m=none/\
 ta σ H1 λ vs H2=>sp (x::(vs++[])) H2 (λ _ H3=>D.nx σ H3) (λ cls _ H3=>(cls=.ref C1/\t1 D σ H3)∨(cls=.ref C2/\t2 D σ H3))
section
variable {X:Cx} {k:Nat} {f C C1 C2:Addr} {fd:FuncData} {ps:List Str} {sp:Sp} {m n1 n2:Str} {apos cpos xpos pos p1 p2 q1 q2:Pos} {e o:Expr} {es:List Expr} {to:TE} {ta:TA} {t1 t2:TS} {b1 b2:Stmt} {l1 l2:List Stmt} {pl:Sem Bool}
structure Gd (K:Frag) (C1 C2:Addr):Prop where
 a:PySem.W.exmOne K (.ref C1) (.ref C1)=some true
 b:PySem.W.exmOne K (.ref C2) (.ref C1)=some false
 c:PySem.W.exmOne K (.ref C2) (.ref C2)=some true
theorem AW (hst:X.stack=X.env::X.outer) (hfr:X.env.frame=some X.env.locals) (hx:X.xe=λ _ _=>False) (hg1:Gl X n1) (hm1:X.mg n1=some (.ref C1)) (hg2:Gl X n2) (hm2:X.mg n2=some (.ref C2)) (hE:Gd X.K C1 C2)
 (ho:PE X o to) (c:eU X.K C) (hm:bg X.K C m f) (F:eE X.prog X.w X.K X.mg X.base (rX X.prog X.w) k f fd ps sp) (hr:cP k X.A) (hb:aN X.K fd ps []) (ha:PA X (e::es) ta)
 (s1:∀ ea:Addr,nL (X.suite ea) (b1::l1) t1) (s2:∀ ea:Addr,nL (X.suite ea) (b2::l2) t2)
 (hse:starEach (e::es) X.env=(false,eval e X.env)::starEach es X.env) (hpl:(backTo cpos (starEach es X.env)).any (·.1)=false)
 (ht:eval (.Call (.Attribute o m apos) (e::es) [] cpos) X.env=(do
  let ov <-eval o X.env
  standAt apos.atName
  let (f,first) <-holding [ov] (getMethod ov m pl)
  callWith cpos f first (backTo cpos (starEach (e::es) X.env)) (backToKw cpos (keywordEach [] X.env))))
 (hsw:swapsWith (.Call (.Attribute o m apos) (e::es) [] cpos) none xpos.line X.env=pure false) (hd1:(n1==("__debug__" : Str))=false) (hd2:(n2==("__debug__" : Str))=false):
 PS X (.Try [.Expr (.Call (.Attribute o m apos) (e::es) [] cpos) xpos] [.ExceptHandler (some (.Name n1 p1)) none (b1::l1) q1,.ExceptHandler (some (.Name n2 p2)) none (b2::l2) q2] [] [] pos) (DX C m sp C1 C2 to ta t1 t2):=by
 intro pins s σ H D I h;let E1:XK:=λ cls _ H3=>(cls=.ref C1/\t1 D σ H3)∨(cls=.ref C2/\t2 D σ H3);have key:∀ Xe:Value->Shared->Prop,(∀ H2 s2 e s3,aL X pins σ H2 s2->rX X.prog X.w X.stack H2 s2 E1 e s3->Xe e s3)->
  wpAny (model X.prog X.w) X.A (execs [.Expr (.Call (.Attribute o m apos) (e::es) [] cpos) xpos] X.env) (SP X pins D) Xe s:=by
  intro Xe hXe;have any:∀ {α:Type} {t:Sem α} {Q:α->Shared->Prop} {s:Shared},wpAny (model X.prog X.w) X.A t Q X.xe s->wpAny (model X.prog X.w) X.A t Q Xe s:=λ {α t Q s} w0=>O4 w0 (λ _ _ z=>z) λ e s z=>by rw [hx] at z;exact z.elim
  refine wpAny_execs_cons (cy (Q:=λ f s1=>f=.next/\∃ H',aL X pins σ H' s1/\D.nx σ H') (wpAny_Expr_any (cy (Q:=λ _ s1=>∃ H',aL X pins σ H' s1/\D.nx σ H') ?_ λ v s1 z=>⟨rfl,z⟩) I.quiet hsw) λ f s1 q=>?_)
  . refine PJ (pl:=pl) (cy (any (ho pins s σ H _ I h)) λ u s1 ⟨x,H1,I1,rx,a,dx,fs,ex,ea,l,q⟩=>?_) ht;subst ex;obtain rfl:u=Value.ref a:=rx;refine iP I1 ea c hm l ?_;refine PB (first:=[.ref a]) (h₀:=X.base) I.ok.mod.kin hm.kp (cy (any (ha cpos pins s1 σ H1 _ I1 q)) λ us s2 hy0=>?_) hse hpl;obtain ⟨vs,H2,I2,r,q2⟩:=hy0;refine ⟨I2.kIn,?_⟩;have r2:be (.ref a::(vs++[])) ((.ref a::us)++[]):=by rw [Oz,Oz];exact .cons rfl r
    have hl:((.ref a::us)++([]:List Value)).length=ps.length:=by rw [<-r2.length];exact F.len _ _ _ _ q2
    refine wpAny_call (codeAny_mono (F.run X.A X.stack s2 H2 ⟨.ref a::us,[]⟩ (.ref a::us++[]) _ _ E1 hr I2.env0 (hb s2 (.ref a::us) I2.kIn hl) r2 q2) λ r s' hq=>?_);cases r with
    | error e=>exact hXe H2 s2 e s' I2 hq
    | ok fl=>
     cases fl with
     | ret u=>
      obtain ⟨v,H',I',_,z⟩:=I2.after hq;exact ⟨H',I',z⟩
     | next=>exact False.elim hq
     | brk=>exact False.elim hq
     | cont=>exact False.elim hq
  . obtain ⟨rfl,H',I',z⟩:=q;exact PF ⟨σ,H',I',z⟩
 refine wpAny_Try_except (O4 (key _ ?_) (λ f s1 q=>?_) λ e s1 q=>q)
 . intro H1 s1' e s2' I1 hq;obtain ⟨ea,cls,a0,H2,B,rfl,os,bare,fl,hokB,un,keepB,thereB,f1,q⟩:=hq;have fl0:=fl.2.2.1;have hfl:=fl;have frames:X.A.frames=some (X.env::X.outer):=by rw [<-hst];exact I.ok.frames
   have fl:Heap.FlyingW B (X.env::X.outer) ea cls a0 s2'.heap:=by rw [<-hst];exact hfl
   refine wpAny_looks_onW frames hfr fl λ h4 held4 up4=>wpAny_landsW held4 λ h5 fl5 up5=>?_;have up45:=up4.trans up5;rw [<-hst] at fl5;have I5:aL X pins σ H2 { s2' with heap:=h5 }:=I1.flown os bare un hokB keepB thereB fl0 fl5 up45;obtain ⟨ob,hob,hobc⟩:=fl5.there;have suite:∀ {b:Stmt} {l:List Stmt} {t:TS} {p:Pos} {R:Flow->Shared->Prop},(∀ ea:Addr,nL (X.suite ea) (b::l) t)->t D σ H2->(∀ f s,SP X pins D f s->R f s)->codeAny (model X.prog X.w) (X.A.mark (some (.ref ea))) (.handlers (.ref ea) [.ExceptHandler none none (b::l) p] X.env) (λ r s₂=>match r with
    | .ok f=>R f s₂
    | .error x=>cameBackBy (model X.prog X.w) X.A X.env X.xe x s₂) { s2' with heap:=h5 }:=λ {b l t p R} hs q hR=>by
    refine codeAny_handlers_suite (lands_againW fl5 λ h6 fl6 up6=>?_);have I6:aL X pins σ H2 { s2' with heap:=h6 }:=I1.flown os bare un hokB keepB thereB fl0 fl6 (up45.trans up6);refine O4 (hs ea pins _ σ H2 D (I6.inSuite ea) q) (λ f s9 q9=>hR f s9 ?_) λ _ _ z=>z.elim;cases f with
    | next=>obtain ⟨σ9,H9,I9,z⟩:=q9;exact ⟨σ9,H9,I9.outSuite I6.ok,z⟩
    | brk=>obtain ⟨σ9,H9,I9,z⟩:=q9;exact ⟨σ9,H9,I9.outSuite I6.ok,z⟩
    | cont=>obtain ⟨σ9,H9,I9,z⟩:=q9;exact ⟨σ9,H9,I9.outSuite I6.ok,z⟩
    | ret u=>obtain ⟨v,σ9,H9,I9,r,z⟩:=q9;exact ⟨v,σ9,H9,I9.outSuite I6.ok,r,z⟩
   have qq:(cls=.ref C1/\t1 D σ H2)∨(cls=.ref C2/\t2 D σ H2):=q;clear q;rcases qq with ⟨rfl,q⟩ | ⟨rfl,q⟩
   . refine wpAny_handleBy_cons (codeAny_handlers_test (gY (I5.inSuite ea) hg1 hm1 ?_ hd1)) (by intro z;cases z);refine PySem.W.exm_one (M:=model X.prog X.w) I5.kIn (hobc▸(PySem.W.Looks.ld hob).andThen .now) hE.a _ _ _ _ (λ _ _ z=>z) ?_;show codeAny _ _ _ _ _;exact suite s1 q λ _ _ z=>z
   . refine wpAny_handleBy_cons (codeAny_handlers_test (gY (I5.inSuite ea) hg1 hm1 ?_ hd1)) (by intro z;cases z);refine PySem.W.exm_one (M:=model X.prog X.w) I5.kIn (hobc▸(PySem.W.Looks.ld hob).andThen .now) hE.b _ _ _ _ (λ _ _ z=>z) ?_;show wpAny _ _ (handleBy _ _ _) _ _ _;refine wpAny_handleBy_cons (codeAny_handlers_test (gY (I5.inSuite ea) hg2 hm2 ?_ hd2)) (by intro z;cases z);refine PySem.W.exm_one (M:=model X.prog X.w) I5.kIn (hobc▸(PySem.W.Looks.ld hob).andThen .now) hE.c _ _ _ _ (λ _ _ z=>z) ?_;show codeAny _ _ _ _ _;exact suite s2 q λ _ _ z=>z
 . cases f with
   | next=>exact PF q
   | brk=>exact q
   | cont=>exact q
   | ret u=>exact q
end
section
variable {K:Frag} {cl:Str->Addr} {E:XK}
noncomputable def nW (c m:Str) (f:List W->ah->SM W) (c1 c2:Str) (fo:DS->Option W) (fa:DS->Option (List W)) (h1 h2:DS->ah->SO):DS->ah->SO:=λ δ S=>(fo δ).bind λ x=>(fa δ).bind λ ds=>(ja c x S).bind λ p=>if p.2.lookup m=none then
 (match f (x::ds) S with
 | some (.ok _,S1)=>some (.nx δ,S1)
 | some (.xc y,S1)=>if y=c1 then h1 δ S1 else if y=c2 then h2 δ S1 else none
 | none=>none)
 else none
theorem Cv {c m c1 c2:Str} {f:List W->ah->SM W} {to:TE} {ta:TA} {fo:DS->Option W} {fa:DS->Option (List W)} {t1 t2:TS} {h1 h2:DS->ah->SO} (ho:∀ ρ,DE K ρ to fo) (ha:∀ ρ,DA K ρ ta fa) (g1:kc K cl E t1 h1) (g2:kc K cl E t2 h2):
 kc K cl E (DX (cl c) m (uL K cl f) (cl c1) (cl c2) to ta t1 t2) (nW c m f c1 c2 fo fa h1 h2):=λ ρ0 G0 H0 ρ G σ H δ S o S' D I e p=>by
 obtain ⟨x,ex,e⟩:=oB e
 obtain ⟨ds,ed,e⟩:=oB e
 obtain ⟨⟨n,fs⟩,ei,e⟩:=oB e
 split at e
 case isFalse=>cases e
 rename_i hm;refine ho ρ G σ H δ x _ I.rs.rl ex λ v G1 H1 gr1 dv=>?_;have gs1:GS ρ G H ρ G1 H1:=.of gr1;have sr1:=I.rs.st.grow gr1;have I1:=I.grow gs1 sr1;obtain ⟨rfl,e5⟩:=fu ei;obtain ⟨a,rfl,ea⟩:=cr dv;obtain ⟨ga,dx,ws,k1,k2,k3,k4⟩:=sr1.addr e5 ea;refine ⟨a,dx,ws,rfl,k1,k4.lookup_none hm,?_⟩;refine ha ρ G1 σ H1 δ ds _ I1.rs.rl ed λ vs G2 H2 gr2 da=>?_;have gs2:GS ρ G1 H1 ρ G2 H2:=.of gr2;have sr2:=sr1.grow gr2;have I2:=I1.grow gs2 sr2;cases ef:f (.ref n::ds) S with
 | none=>rw [ef] at e;cases e
 | some r=>
  obtain ⟨r,S1⟩:=r;rw [ef] at e;refine ⟨ρ,G2,S,.ref n::ds,r,S1,gr2.s,sr2,by rw [Oz];exact .cons (dv.same gr2.g) da,ef,λ d hd v ρ3 G3 H3 g3 s3 dv=>?_,λ y hy ρ3 G3 H3 g3 s3=>?_⟩
  . subst hd;cases e;exact p σ ρ3 G3 H3 (I2.grow g3 s3)
  . subst hy;have e9:(if y=c1 then h1 δ S1 else if y=c2 then h2 δ S1 else none)=some (o,S'):=e;have I3:=I2.grow g3 s3;by_cases z:y=c1
    . rw [Oo z] at e9;exact .inl ⟨by rw [z],g1 ρ0 G0 H0 ρ3 G3 σ H3 δ S1 o S' D I3 e9 p⟩
    . rw [Oq z] at e9;by_cases z2:y=c2
      . rw [Oo z2] at e9;exact .inr ⟨by rw [z2],g2 ρ0 G0 H0 ρ3 G3 σ H3 δ S1 o S' D I3 e9 p⟩
      . rw [Oq z2] at e9;cases e9
end
section
variable {A:Around} {E:Value->Shared->Prop}
theorem EJ {P:Program} {w:World} {s:Shared} {d:Addr} {kvs:List (bR×Value)} {k:bR} {key v:Value} {Q:Unit->Shared->Prop} (hkey:(ba P w).is k key=true) (hm:ji P w s.heap d kvs) (hsz:kvs.length<=sizeLine)
 (hQ:∀ h',ji P w h' d (stored kvs k v)->Heap.SameBut d s.heap h'->Q () { s with heap:=h',toks:=s.toks+1 }):wpAny (model P w) A (dictSet d key v) Q E s:=by
 obtain ⟨o,es,ep,ho,hc,hd,he,hk,hp,hn⟩:=hm;have hes:es.size<=sizeLine:=by have e1:=hp.length;rw [Pw] at e1;omega
 unfold dictSet;try with_reducible refine Pa ?_
 refine Ov ((ba P w).pyHash hkey ?_);unfold dictSetHashed;try with_reducible refine Pa ?_
 refine Ov (wpAny_dictFind_of (s:={ s with toks:=s.toks+1 }) hkey ho hd hk ?_);have ix:(es.findIdx? λ e=>(ba P w).is k e.key)=kvs.findIdx? λ kv=>decide (kv.1=k):=by
  rw [<-hp.findIdx k];obtain ⟨l⟩:=es;simp
 cases hi:es.findIdx? λ e=>(ba P w).is k e.key with
 | some i=>
  have an:=any_of_findIdx_some (ix▸hi);have hl:(es.toList.findIdx? λ e=>(ba P w).is k e.key)=some i:=by rw [<-hi];obtain ⟨l⟩:=es;simp
  have hm:=hp.modify hn hl v;refine Ov (wpAny_rule (Ov (wpAny_updateDict (s:={ s with toks:=s.toks+1 }) ho hd (wpAny_point (hQ _ ?_ (Heap.SameBut.update ..))))));refine ⟨_,_,ep,Pn _ ho (Obj.isFreed_of_dict (Obj.data_mapDict hd _)),hc.mapDict _,Obj.data_mapDict hd _,by simpa using he,hk.modify _ _,?_,?_⟩
  . rw [stored,Oo an];obtain ⟨l⟩:=es;simpa using hm
  . rw [stored,Oo an,keys_map_store];exact hn
 | none=>
  have nm:k∉kvs.map (·.1):=not_mem_of_findIdx_none (ix▸hi);have na:¬ (kvs.any λ kv=>decide (kv.1=k))=true:=λ z=>by
   obtain ⟨kv,h1,h2⟩:=List.any_eq_true.mp z;exact nm (PM.mpr ⟨kv,h1,PL h2⟩)
  have ha:=hp.append hkey ((ba P w).hash k) v;refine Ov (wpAny_rule (wpAny_updateDictKeys (hz:=hes) (s:={ s with toks:=s.toks+1 }) ho hd (hQ _ ?_ (Heap.SameBut.update ..))));refine ⟨_,_,ep+1,Pn _ ho (Obj.isFreed_of_dict (Obj.data_mapDictKeys hd _)),hc.mapDictKeys _,Obj.data_mapDictKeys hd _,by simp [he],hk.push hkey _,?_,?_⟩
  . rw [stored,Oq na];obtain ⟨l⟩:=es;simpa using ha
  . rw [stored,Oq na,Pr,nodup_append];exact ⟨hn,by simp,λ x hx y hy z=>nm (by simp at hy;rw [<-hy,<-z];exact hx)⟩
theorem nY {P:Program} {w:World} {d:Addr}:∀ (vs:List (Value×Value)) (kvs acc:List (bR×Value)) (s:Shared) (Q:PUnit->Shared->Prop),Carries (ba P w) vs kvs->ji P w s.heap d acc->acc.length+kvs.length<=sizeLine->
 (∀ h' tk,ji P w h' d (merged acc kvs)->Heap.SameBut d s.heap h'->Q PUnit.unit { s with heap:=h',toks:=tk })->
 wpAny (model P w) A (forIn vs PUnit.unit λ (x:Value×Value) (_:PUnit)=>(do dictSet d x.1 x.2;pure (ForInStep.yield PUnit.unit):Sem (ForInStep PUnit))) Q E s
 | [],[],acc,s,Q,_,hm,_,hQ=>by
  rw [List.forIn_nil];exact OL (hQ s.heap s.toks (by simpa [merged] using hm) (Heap.SameBut.refl _ _))
 | (key,v)::vs,(k,v')::kvs,acc,s,Q,hc,hm,hsz,hQ=>by
  obtain ⟨hkey,rfl,hc'⟩:=hc;rw [Ou] at hsz;rw [List.forIn_cons];refine Ov (Ov (EJ hkey hm (by omega) λ h₁ hm₁ hs₁=>OL ?_));refine nY vs kvs (stored acc k v) _ Q hc' hm₁ (by have e:=stored_length_le acc k v;omega) λ h' tk hm' hs'=>?_;exact hQ h' tk (by simpa [merged] using hm') (hs₁.trans hs')
 | [],_::_,_,_,_,hc,_,_,_=>hc.elim
 | _::_,[],_,_,_,hc,_,_,_=>hc.elim
end
theorem Ia {X:Cx} {pos:Pos} {keys:List (Option Expr)} {values:List Expr} {trs:List (TE×TE)} (h:Jg X pos keys values trs) (hall:keys.all (·.isSome)=true) (hl:keys.length=values.length) (h0:keys≠[])
 (h15:keys.length<=15):PE X (.Dict keys values pos) (Dh trs):=by
 intro pins s σ H Q I q;have hn:=I.hok.fresh (Ol s.heap.objs.size);have I1:=I.laid (a:=s.heap.objs.size) (o:=.dK []) (h':=s.heap.push { cls:=.type "dict", data:=.dict #[] }) (t':=s.toks) (λ _ _ q=>OE _ q) (Ol _) (sO s.heap I.big);have hpl:=pairTrees_length keys values X.env pos hall hl;have hpn:pairTrees keys values X.env pos≠[]:=λ he=>by
  rw [he] at hpl;exact h0 (List.length_eq_zero_iff.mp hpl.symm)
 rw [arm_eval_Dict,zip_pairTrees keys values X.env pos hall hl,dictDisplay_pairs _ hpn (by omega)];refine Ov (wpAny_standAt (Ov ?_));unfold subDict;refine Ov (wpAny_alloc ?_);refine Ov (Pa ?_);rw [Oo (by omega)];refine Ov (O4 (wpAny_evalPairs_len (h pins _ σ _ _ I1 (q _ hn))) (λ ws s2 hy=>?_) λ _ _ e=>e);obtain ⟨hvl,ps,H2,I2,rel,e,kvs,ep,lk,q2⟩:=hy;subst ep;obtain ⟨rs,c,rk⟩:=nN (P:=X.prog) (w:=X.w) rel;obtain ⟨z,hd,vs0,r0,dd⟩:=(show dF X.prog X.w H2 s2.heap s.heap.objs.size (.dK []) from I2.hok _ _ e)
 cases r0;have hz:(ir [] kvs).length<=sizeLine:=by
  have h1:=jY kvs [];rw [OU] at h1;rw [sizeLine_eq];omega
 have hrs:rs.length=kvs.length:=(Paired.length rk).symm;refine Pa ?_;refine Ov (nY ws rs [] s2 _ c dd (by rw [OU,sizeLine_eq];omega) λ h' tk dd' hs=>OL (OL (OL ?_)));have he:∃ q,h'.get? s.heap.objs.size=some q:=let ⟨q,_,_,hq,_⟩:=dd';⟨q,hq⟩;exact ⟨.ref s.heap.objs.size,_,qH I2 (by rw [e];exact True.intro) hs he (Af hz hd (rk.merge .nil) dd'),rfl,q2⟩
section
variable {K:Frag} {cl:Str->Addr} {E:XK}
noncomputable def sX:List (Str×(DS->Option W))->DS->Option (List (bR×W))
 | [],_=>some []
 | (k,f)::r,δ=>(f δ).bind λ d=>(sX r δ).map ((.inr k,d)::·)
noncomputable def qI (kvs more:List (bR×W)):List (bR×W):=more.foldl (λ acc kv=>jA acc kv.1 kv.2) kvs
noncomputable def wa (kfs:List (Str×(DS->Option W))):DS->ah->SM W:=λ δ S=>(sX kfs δ).bind λ kvs=>if kvs.length<=15 then some (.ok (.ref S.length),S++[.dK (qI [] kvs)]) else none
inductive DQ (K:Frag):List (TE×TE)->List (Str×(DS->Option W))->Prop
 | nil:DQ K [] []
 | cons {k:Str} {t:TE} {f:DS->Option W} {trs:List (TE×TE)} {kfs:List (Str×(DS->Option W))}:(∀ ρ,DE K ρ t f)->DQ K trs kfs->DQ K ((tC (.str k),t)::trs) ((k,f)::kfs)
theorem i6.merge {ρ:List Addr} {G:Hp}:∀ {more:List (bR×W)} {ms:List (bR×V)} {l:List (bR×W)} {m:List (bR×V)},i6 K ρ G more ms->i6 K ρ G l m->i6 K ρ G (qI l more) (ir m ms):=by
 intro more ms l m h;induction h generalizing l m with
 | nil=>exact λ h2=>h2
 | cons h1 _ ih=>exact λ h2=>ih (h2.put h1)
theorem i6.extR {ρ ρ':List Addr} {G:Hp} (g:ρ <+: ρ') {l:List (bR×W)} {m:List (bR×V)} (h:i6 K ρ G l m):i6 K ρ' G l m:=by
 induction h with
 | nil=>exact .nil
 | cons h1 _ ih=>exact .cons (h1.ext g) ih
theorem AV {trs:List (TE×TE)} {kfs:List (Str×(DS->Option W))} (h:DQ K trs kfs):∀ {ρ:List Addr} {G:Hp} {σ:St} {H:Hp} {δ:DS} {kvs:List (bR×W)} {Q:List (V×V)->Hp->Prop},Rl K ρ G H δ σ->sX kfs δ=some kvs->
 (∀ ms G' H',Gr G H G' H'->i6 K ρ G' kvs ms->Q (ms.map λ kv=>(kV kv.1,kv.2)) H')->rT trs σ H Q:=by
 induction h with
 | nil=>
  intro ρ G σ H δ kvs Q R e q;cases e;exact q [] G H (.refl R.sub) .nil
 | @cons k t f trs kfs h1 _ ih=>
  intro ρ G σ H δ kvs Q R e q;obtain ⟨d,e1,e⟩:=oB e
  obtain ⟨r,e2,rfl⟩:=oM e
  refine h1 ρ G σ H δ d _ R e1 λ v G1 H1 g1 dv=>?_;refine ih (R.grow g1) e2 λ ms G2 H2 g2 kv=>?_;exact q ((.inr k,v)::ms) G2 H2 (g1.trans g2) (.cons (dv.same g2.g) kv)
theorem Cc {trs:List (TE×TE)} {kfs:List (Str×(DS->Option W))} (h:DQ K trs kfs):SE K cl E (Dh trs) (wa kfs):=λ ρ G σ H δ S r S' Q R e q qx=>by
 obtain ⟨kvs,e1,e⟩:=oB e
 split at e
 case isFalse=>cases e
 rename_i h15;cases e;intro p hp;have n0:Nw H (d6 H p (.dK [])) p (.dK []):=.of hp;have g0:Gr G H G (d6 H p (.dK [])):=.nwO R.rl.sub n0;refine AV h (R.rl.grow g0) e1 λ ms G2 H2 g2 kv=>?_;have hp2:H2 p=some (.dK []):=g2.h _ _ aO;have gp:G2 p=none:=g2.n p (.of aO λ _ z=>by cases z) (gZ R.rl.sub hp);refine ⟨hp2,ms,rfl,by rw [<-kv.length];exact h15,?_⟩;let Hx:Hp:=λ b=>if b=p then none else H2 b
 have hx:∀ b,b≠p->Hx b=H2 b:=λ b hb=>Oq hb;have hxp:Hx p=none:=Oo rfl;have gx:Gr G H G2 Hx:=by
  refine ⟨g2.g,λ b o eb=>?_,λ b o eb=>?_,λ b hb=>?_⟩
  . have hb:b≠p:=λ z=>by rw [z,hp] at eb;cases eb
    rw [hx b hb];exact g2.h _ _ (by rw [aP hb];exact eb)
  . have hb:b≠p:=λ z=>by rw [z,gp] at eb;cases eb
    rw [hx b hb];exact g2.s _ _ eb
  . exact g2.n b (hb.same n0.1)
 have ex:d6 H2 p (.dK (ir [] ms))=d6 Hx p (.dK (ir [] ms)):=by
  funext b;by_cases hb:b=p
  . subst hb;rw [aO,aO]
  . rw [aP hb,aP hb,hx b hb]
 rw [ex];have sx:=R.st.grow gx;have n1:Nw Hx (d6 Hx p (.dK (ir [] ms))) p (.dK (ir [] ms)):=.of hxp;obtain ⟨s2,gg⟩:=sx.push (o:=.dK (qI [] kvs)) gx.s n1 λ ρ' hr=>⟨_,aO,i6.merge (kv.extR hr) .nil⟩
 exact q _ rfl _ _ _ _ ((GS.of gx).trans gg) s2 (.ref (by rw [<-R.st.len];simp))
noncomputable def lY (fo fk fx:DS->ah->SM W):DS->ah->SM W:=λ δ S=>ak (fo δ S) λ x S1=>if (sS x S1).isSome=true then ak (fk δ S1) λ y S2=>ak (fx δ S2) λ z S3=>(tX x y S3).bind λ o=>some (.ok (o.getD z),S3) else none
theorem yj {to tk tx:TE} {fo fk fx:DS->ah->SM W} (ho:SE K cl E to fo) (hk:SE K cl E tk fk) (hx:SE K cl E tx fx):SE K cl E (yK to tk tx) (lY fo fk fx):=λ ρ G σ H δ S r S' Q R e q qx=>
 dS ho R e (λ x S1 e1 v ρ1 G1 H1 g1 s1 dv=>by
  split at e1
  case isFalse=>cases e1
  rename_i hx1;obtain ⟨⟨n,kvs0⟩,hx0⟩:=isSome_iff_exists.mp hx1;obtain ⟨rfl,h0⟩:=pQ hx0;obtain ⟨a,rfl,ea⟩:=cr dv;obtain ⟨_,ws0,k0,_⟩:=s1.addr h0 ea;have R1:=R.grow g1 s1;refine ⟨a,rfl,.inl ⟨ws0,.inl k0⟩,?_⟩;refine dS hk R1 e1 (λ y S2 e2 u ρ2 G2 H2 g2 s2 du=>?_) λ c hc ρ2 G2 H2 g2 s2=>qx c hc ρ2 G2 H2 (g1.trans g2) s2;refine dS hx (R1.grow g2 s2) e2 (λ z S3 e3 w ρ3 G3 H3 g3 s3 dw=>?_) λ c hc ρ3 G3 H3 g3 s3=>qx c hc ρ3 G3 H3 (g1.trans (g2.trans g3)) s3;obtain ⟨o,e4,e5⟩:=oB e3
  cases e5;have g13:=g1.trans (g2.trans g3);have g23:=g2.trans g3;obtain ⟨a',r',ez,h1,h2⟩:=vH g13.s s3 ((dv.ext g23.r).same g23.g) ((du.ext g3.r).same g3.g) e4;cases ez;refine ⟨r',h1,?_⟩;cases o with
  | some d=>
   obtain ⟨z',rfl,dz⟩:=h2;exact q _ rfl _ ρ3 G3 H3 g13 s3 dz
  | none=>
   rw [show r'=none from h2];exact q _ rfl _ ρ3 G3 H3 g13 s3 dw) qx
noncomputable def qF (g g':W->W->Option Bool) (fa fb fc:DS->ah->SM W):DS->ah->SM Bool:=λ δ S=>ak (fa δ S) λ x S1=>ak (fb δ S1) λ y S2=>(g x y).bind λ b=>if b=true then ak (fc δ S2) λ z S3=>jm (g' y z) S3 else some (.ok false,S2)
theorem yl {r r':R2} {ta tb tc:TE} {fa fb fc:DS->ah->SM W} {g g':W->W->Option Bool} (hr:∀ ρ,DB K ρ r g) (hr':∀ ρ,DB K ρ r' g') (ha:SE K cl E ta fa) (hb:SE K cl E tb fb) (hc:SE K cl E tc fc):ST K cl E (lI (z7 r r' ta tb tc)) (qF g g' fa fb fc):=λ ρ G σ H δ S rr S' Q R e q qx=>
 dS ha R e (λ x S1 e1 v ρ1 G1 H1 g1 s1 dv=>by
  refine dS hb (R.grow g1 s1) e1 (λ y S2 e2 u ρ2 G2 H2 g2 s2 du=>?_) λ c hc ρ2 G2 H2 g2 s2=>qx c hc ρ2 G2 H2 (g1.trans g2) s2;obtain ⟨b,e3,e4⟩:=oB e2
  refine hr ρ2 H2 v u x y b _ ((dv.ext g2.r).same (g2.g.trans g2.s)) (du.same g2.s) e3 ⟨b,rfl,?_⟩;cases b with
  | false=>
   cases e4;exact ⟨false,rfl,q _ rfl ρ2 G2 H2 (g1.trans g2) s2⟩
  | true=>
   rw [Oo rfl] at e4 ⊢;refine dS hc ((R.grow g1 s1).grow g2 s2) e4 (λ z S3 e5 w ρ3 G3 H3 g3 s3 dw=>?_) λ c hc ρ3 G3 H3 g3 s3=>qx c hc ρ3 G3 H3 (g1.trans (g2.trans g3)) s3;obtain ⟨c,e6,rfl,rfl⟩:=bZ e5;exact hr' ρ3 H3 u w y z c _ ((du.ext g3.r).same (g3.g.trans g3.s)) (dw.same g3.s) e6 ⟨c,rfl,q c rfl ρ3 G3 H3 (g1.trans (g2.trans g3)) s3⟩) qx
end
noncomputable def zM:List V->Hp->VK->Prop:=λ xs H Q=>∃ b:Bool,xs=[.bl b]/\Q (.int (if b then 1 else 0)) H
theorem xv {X:Cx}:ff X (.type "int") zM:=by
 intro pins s σ H xs us Q I r h;obtain ⟨b,e,q⟩:=h;subst e;obtain ⟨u,rfl,rb⟩:=vL r;cases rb;exact call_int_bool ⟨.int _,H,I.tok _,⟨_,rfl⟩,q⟩
theorem L7 {X:Cx} {e:Expr} {es:List Expr} {t:TA} {p pos:Pos} (hg:Gl X "int") (hm:X.mg "int" = none) (ha:PA X (e::es) t)
 (he:starEach (e::es) X.env=(false,eval e X.env)::starEach es X.env) (hp:(backTo pos (starEach es X.env)).any (·.1)=false):PE X (.Call (.Name "int" p) (e::es) [] pos) (AQ zM t):=xw xv hg hm (by decide +kernel:bootBuiltins "int" = some (.type "int")) ha (by decide) (by decide) he hp
noncomputable def DU:W->Option W
 | .bool b=>some (.int (if b then 1 else 0))
 | _=>none
noncomputable def jZ (f:DS->Option W):DS->Option W:=λ δ=>(f δ).bind DU
theorem Bj {K:Frag} {ρ:List Addr} {t:TE} {f:DS->Option W} (h:DE K ρ t f):DE K ρ (AQ zM (i9 t md)) (jZ f):=λ G σ H δ d Q R e q=>by
 obtain ⟨x,ex,e⟩:=oB e
 cases x <;> first | cases e
 rename_i b;exact h G σ H δ _ _ R ex λ v G1 H1 g1 dv=>by
  cases dv;exact ⟨b,rfl,q _ G1 H1 g1 (.int _)⟩
noncomputable def kz (d:PyData):Bool:=d.showable && !d.hasDict&&decide (d.depth<=64)&&decide (d.shown.length<=sizeLine)
noncomputable def qg (K:Frag):List V->Hp->VK->Prop:=λ xs H Q=>∃ a d,xs=[.ref a]/\Dp K H (.ref a) d/\kz d=true/\Q (.str d.shown) H
theorem vj {X:Cx} {K:Frag} (h:X.K=K) {k:Nat} (hr:cP k X.A):ff X (.builtin "repr") (qg K):=by
 subst h;intro pins s σ H xs us Q I r h;obtain ⟨a,d,e,dp,ok,q⟩:=h;subst e;obtain ⟨u,rfl,rb⟩:=vL r;cases rb;obtain ⟨as,rd⟩:=Dp.reads I dp rfl;simp only [kz,OD,ON,Bool.not_eq_true'] at ok;obtain ⟨⟨⟨o1,o2⟩,o3⟩,o4⟩:=ok;exact repr_of_reads' rd o1 (PyData.noDict_hsm o2) hr.gd (by have:=hr.un;omega) (λ _ _ e=>e) (λ h' u tk hk=>⟨.str d.shown,H,I.kept (t':=tk) λ b o e=>hk b o e,⟨u,rfl⟩,q⟩) o4
theorem boot_repr':bootBuiltins "repr" = some (.builtin "repr"):=by decide +kernel
theorem EV {X:Cx} {K:Frag} (h:X.K=K) {k:Nat} (hr:cP k X.A):QB X "repr" (qg K):=⟨_,vj h hr,boot_repr'⟩
noncomputable def y0 (x:W):Option W:=(W.py x).bind λ d=>match x with
 | .list _=>if kz d=true then some (.str d.shown) else none
 | .tuple _=>if kz d=true then some (.str d.shown) else none
 | _=>none
noncomputable def qd (f:DS->Option W):DS->Option W:=λ δ=>(f δ).bind y0
theorem By {K:Frag} {ρ:List Addr} {t:TE} {f:DS->Option W} (h:DE K ρ t f):DE K ρ (AQ (qg K) (i9 t md)) (qd f):=λ G σ H δ d Q R e q=>by
 obtain ⟨x,ex,e⟩:=oB e
 obtain ⟨y,ey,e⟩:=oB e
 refine h G σ H δ _ _ R ex λ v G1 H1 g1 dv=>?_;have dp:=(dv.same g1.s).dp ey;have go:∀ {a:Addr},v=.ref a->(if kz y=true then some (W.str y.shown) else none)=some d->qg K [v] H1 Q:=λ {a} hv e=>by
  subst hv;split at e
  . cases e;exact ⟨a,y,rfl,dp,by assumption,q _ G1 H1 g1 (.str _)⟩
  . cases e
 show qg K [v] H1 Q;cases x with
 | list ds=>
  obtain ⟨a,rfl⟩:∃ a,v=.ref a:=by cases dv;exact ⟨_,rfl⟩
  exact go rfl e
 | tuple ds=>
  obtain ⟨a,rfl⟩:∃ a,v=.ref a:=by cases dv;exact ⟨_,rfl⟩
  exact go rfl e
 | none=>cases e
 | bool _=>cases e
 | int _=>cases e
 | str _=>cases e
 | ref _=>cases e
theorem uX {P:Program} {w:World} {A:Around} {s:Shared} {H:Hp} {a b:Addr} (ok:iS P w H s.heap) (ha:H a=some (.dK [])) (hb:H b=some (.dK [])) (hu:A.units<cLine):SeqAt.EqAt A s (.ref a) (.ref b) true:=by
 by_cases hab:a=b
 . subst hab;exact SeqAt.EqAt.same _
 . refine SeqAt.EqAt.of_refs hab λ prog w' E Q h=>?_;have mk:∀ {c:Addr},H c=some (.dK [])->(c==sysModules)=false/\s.heap.DictOf (ba prog w') c []:=λ {c} hc=>by
    obtain ⟨_,hd,vs,r,o,es,ep,h1,h2,h3,_,h5,h6,_⟩:=(show dF P w H s.heap c (.dK []) from ok c _ hc)
    cases r;have ee:es = #[]:=by
     have:=h6.length;rw [Pw] at this;exact Array.eq_empty_of_size_eq_zero (by simpa using this)
    subst ee;exact ⟨hd,o,#[],ep,h1,h2,h3,λ e he=>absurd he (by simp),.nil,by simp⟩
   obtain ⟨a1,a2⟩:=mk ha;obtain ⟨b1,b2⟩:=mk hb;exact PySem.W.keq_eq (knd:=ba prog w') a1 b1 a2 b2 hu (λ _=>.nil) (by simpa using h)
noncomputable def Gi (K:Frag):R2:=λ x y H Q=>∃ (a b:Addr) (as bs:List Addr),x=.ref a/\y=.ref b/\eS K H a (as.map V.ref)/\eS K H b (bs.map V.ref)/\(∀ c∈as,H c=some (.dK []))/\(∀ c∈bs,H c=some (.dK []))/\Q (.bl (as.length==bs.length)) H
theorem mi:∀ {as:List Addr} {us:List Value},be (as.map V.ref) us->us=as.map Value.ref
 | [],us,h=>by cases h;rfl
 | a::as,us,h=>by
  cases h with
  | cons h1 h2=>
   cases h1;rw [mi h2];rfl
theorem Lj {X:Cx} {K:Frag} (h:X.K=K) (hu:X.A.units+64<cLine):iw X (compareOp .Eq) (Gi K):=by
 subst h;intro pins s σ H x y v u Q I rx ry h;obtain ⟨a,b,as,bs,rfl,rfl,ha,hb,da,db,q⟩:=h;cases rx;cases ry;obtain ⟨its,rv,pl,_⟩:=I.list ha;obtain ⟨jts,rw',pm,_⟩:=I.list hb;have e1:=mi rv;have e2:=mi rw';subst e1 e2;have go:SeqAt.RcAt X.A s (.ref a) (.ref b) (as.length==bs.length):=by
  by_cases hl:as.length=bs.length
  . have:=SeqAt.RcAt.lists (A:=X.A) (e:=λ _=>true) pl.isList pm.isList (by simpa using hl) (by omega) λ j h1 h2=>by
     have h1':j<as.length:=by simpa using h1
     have h2':j<bs.length:=by simpa using h2
     have:=uX (A:=X.A.in1) I.hok (da _ (getElem_mem h1')) (db _ (getElem_mem h2')) (by show X.A.units+1<cLine;omega);simpa using this
    have e:((List.range (as.map Value.ref).toArray.size).all λ _=>true)=(as.length==bs.length):=by simp [hl]
    rw [e] at this;exact this
  . have:(as.length==bs.length)=false:=by simpa using hl
    rw [this];exact SeqAt.RcAt.lists_lengths pl.isList pm.isList (by simpa using hl) (by omega)
 exact go X.prog X.w _ _ ⟨.bl _,H,I,rfl,q⟩
section
variable {K:Frag} {cl:Str->Addr} {E:XK}
noncomputable def Hs (S:ah):List W->Option Nat
 | []=>some 0
 | d::r=>match sS d S with
  | some (_,[])=>(Hs S r).map (· + 1)
  | _=>none
noncomputable def yQ (x y:W) (S:ah):Option Bool:=match x,y with
 | .ref l,.list es=>(cM S l).bind λ ds=>(Hs S ds).bind λ m=>(Hs S es).map λ n=>m==n
 | _,_=>none
noncomputable def BV (fa fb:DS->ah->SM W):DS->ah->SM Bool:=λ δ S=>ak (fa δ S) λ x S1=>ak (fb δ S1) λ y S2=>jm (yQ x y S2) S2
theorem rF {ρ:List Addr} {G H:Hp} {S:ah} (s:SR K ρ cl G H S):∀ {ds:List W} {vs:List V} {m:Nat},aC K ρ G vs ds->Hs S ds=some m->∃ as:List Addr,vs=as.map V.ref/\as.length=m/\∀ c∈as,H c=some (.dK [])
 | [],vs,m,h,e=>by
  cases h;cases e;exact ⟨[],rfl,rfl,λ c hc=>absurd hc Ox⟩
 | d::ds,vs,m,h,e=>by
  cases h with
  | @cons v vs _ _ h1 h2=>
   unfold Hs at e;split at e
   . rename_i n hk;obtain ⟨k,e1,rfl⟩:=oM e
     obtain ⟨as,rfl,hl,hd⟩:=rF s h2 e1;obtain ⟨rfl,e4⟩:=pQ hk;obtain ⟨a,rfl,ea⟩:=cr h1;obtain ⟨_,ws,k1,k2⟩:=s.addr e4 ea;cases k2;exact ⟨a::as,rfl,by simp [hl],λ c hc=>(Ow.mp hc).elim (λ z=>z▸k1) (hd c)⟩
   . cases e
theorem zV {ρ:List Addr} {G H:Hp} {S:ah} {v u:V} {x y:W} {b:Bool} {Q:VK} (sg:bE G H) (s:SR K ρ cl G H S) (dv:Dw K ρ G v x) (du:Dw K ρ G u y) (h:yQ x y S=some b) (q:Q (.bl b) H):Gi K v u H Q:=by
 unfold yQ at h;split at h
 . obtain ⟨ds,e1,e⟩:=oB h
   obtain ⟨m,em,e⟩:=oB e
   obtain ⟨n,en,rfl⟩:=oM e
   obtain ⟨a,rfl,ea⟩:=cr dv;unfold cM at e1;split at e1
   . rename_i hl;cases e1;obtain ⟨_,ws,k1,k2⟩:=s.addr hl ea;cases du with
     | @lst b' xs _ sq da=>
      obtain ⟨as,rfl,z1,d1⟩:=rF s k2 em;obtain ⟨bs,rfl,z2,d2⟩:=rF s da en;refine ⟨a,b',as,bs,rfl,rfl,eS.of k1,sg.seq sq,d1,d2,?_⟩;rw [z1,z2];exact q
   . cases e1
 . cases h
theorem EK {ta tb:TE} {fa fb:DS->ah->SM W} (ha:SE K cl E ta fa) (hb:SE K cl E tb fb):SE K cl E (pP (Gi K) ta tb) (sB (BV fa fb)):=λ ρ G σ H δ S r' S' Q R e q qx=>by
 rcases aR e with ⟨c,em,rfl⟩ | ⟨b,S1,em,e⟩
 . exact fN (r:=Rs.xc c) ha hb R em (λ x y S2 e2=>by obtain ⟨_,_,z,_⟩:=bZ e2;cases z) (λ c' hc=>by cases hc;exact qx c rfl)
 . cases e;exact fN ha hb R em (λ x y S2 e2 v u ρ2 G2 H2 g2 s2 dv du=>by
    obtain ⟨c,e3,z,rfl⟩:=bZ e2;cases z;exact zV g2.s s2 dv du e3 (q _ rfl _ ρ2 G2 H2 g2 s2 (.bl _))) (λ c hc=>by cases hc)
end
noncomputable def xO (R:Addr->FuncData->Prop) (P:Program) (w:World) (K:Frag) (mg:Str->Option Value) (base:Heap) (k:Nat) (ps:List Str) (sp:Sp):Prop:=∃ f fd,R f fd/\eE P w K mg base (rX P w) k f fd ps sp
noncomputable def JY (R:Addr->FuncData->Prop) (P:Program) (w:World) (K:Frag) (mg:Str->Option Value) (base:Heap) (k:Nat) (ps:List Str) (sp:Sp):Prop:=∃ f fd,R f fd/\oP P w K mg base va k f fd ps sp
noncomputable abbrev KN (P:Program) (w:World) (K:Frag) (mg:Str->Option Value) (base:Heap) (N:List Str) (q:Str) (st:Stmt) (k:Nat) (E:XK) (t:TS):Prop:=∀ (f:Addr) (cd:Value) (A:Around) (outer:List Env) (s:Shared) (H:Hp),N.Nodup->cP k (A.deeper (envOfC q (ay st) s.heap.objs.size f cd))->(A.deeper (envOfC q (ay st) s.heap.objs.size f cd)).units+64<cLine->(A.deeper (envOfC q (ay st) s.heap.objs.size f cd)).units+1<cLine->
 nL (gO (rX P w) P w K mg base N q (ay st) f cd A outer s H E) (aM st) t
noncomputable abbrev LX (P:Program) (w:World) (K:Frag) (mg:Str->Option Value) (base:Heap) (N:List Str) (q:Str) (st:Stmt) (k:Nat) (t:TS):Prop:=∀ (f:Addr) (cd:Value) (A:Around) (outer:List Env) (s:Shared) (H:Hp) (E:XK),N.Nodup->iC k (A.deeper (envOfC q (ay st) s.heap.objs.size f cd))->
 nL (JH P w K mg base N q (ay st) f cd A outer s H E) (aM st) t
theorem sK.okX {P:Program} {w:World} {K:Frag} {mg:Str->Option Value} {base:Heap} {x q:Str} {st:Stmt} {f:Addr} {fd:FuncData} {N ps:List Str} {k:Nat} {sp:Sp} (F:sK K x q st f fd) (S:eL N ps (ay st)) (hl:∀ vs H Q E,sp vs H Q E->vs.length=ps.length)
 (hb:∀ (cd:Value) (A:Around) (outer:List Env) (s:Shared) (H:Hp) (vs:List V) (Q:VK) (E:XK),cP k (A.deeper (envOfC q (ay st) s.heap.objs.size f cd))->sp vs H Q E->
  ∃ t,nL (gO (rX P w) P w K mg base N q (ay st) f cd A outer s H E) (aM st) t/\t ({ nx:=λ _ H'=>Q V.non H',rt:=Q }:iZ) (start N vs) H):eE P w K mg base (rX P w) (k+1) f fd ps sp:=by
 obtain ⟨dV,oc,kV,dc,pm,cd,ct,od,an,sl,rfl,lk,hc⟩:=F.ex;exact Dz lk hc S hl λ A outer s H vs Q E hr hs=>hb cd A outer s H vs Q E hr hs
theorem sK.okN {P:Program} {w:World} {K:Frag} {mg:Str->Option Value} {base:Heap} {x q:Str} {st:Stmt} {f:Addr} {fd:FuncData} {N ps:List Str} {k:Nat} {sp:Sp} (F:sK K x q st f fd) (S:eL N ps (ay st)) (hl:∀ vs H Q E,sp vs H Q E->vs.length=ps.length)
 (hb:∀ (cd:Value) (A:Around) (outer:List Env) (s:Shared) (H:Hp) (vs:List V) (Q:VK) (E:XK),iC k (A.deeper (envOfC q (ay st) s.heap.objs.size f cd))->sp vs H Q E->
  ∃ t,nL (JH P w K mg base N q (ay st) f cd A outer s H E) (aM st) t/\t ({ nx:=λ _ H'=>Q V.non H',rt:=Q }:iZ) (start N vs) H):oP P w K mg base va (k+1) f fd ps sp:=by
 obtain ⟨dV,oc,kV,dc,pm,cd,ct,od,an,sl,rfl,lk,hc⟩:=F.ex;exact Ej lk hc S hl λ A outer s H vs Q E hr hs=>hb cd A outer s H vs Q E hr hs
section
variable {P:Program} {w:World} {K:Frag} {mg:Str->Option Value} {base:Heap} {cl:Str->Addr} {R:Addr->FuncData->Prop} {x q:Str} {st:Stmt} {N ps:List Str} {a n k:Nat} {t:TS} {sp:Sp}
theorem JY.ce (h:JY R P w K mg base k ps sp):Ce R P w K mg base k ps sp:=by
 obtain ⟨f,fd,r,F⟩:=h;exact ⟨f,fd,r,F.all⟩
theorem wQ {fb:DS->ah->SO} {g:List W->ah->SM W} (D:jd R K x q st) (hg:g=bb a n fb) (h:∀ E:XK,∃ t,kc K cl E t fb/\KN P w K mg base N q st k E t)
 (hN:N.length=n) (ha:ps.length=a) (S:eL N ps (ay st)):xO R P w K mg base (k+1) ps (uL K cl g):=by
 subst hg ha;obtain ⟨f,fd,F,r⟩:=D;exact ⟨f,fd,r,F.okX S (λ vs H Q E h=>CP (λ ds S r e=>jE e) h) λ cd A outer s H vs Q E hr hs=>by
  obtain ⟨t,de,pe⟩:=h E;exact ⟨t,pe f cd A outer s H S.nd hr hr.units hr.units1,Ii hN de hs⟩⟩
theorem Lb {fb:DS->ah->SO} {g:List W->ah->SM W} (D:jd R K x q st) (hg:g=bb a n fb) (de:kc K cl E0 t fb) (pe:LX P w K mg base N q st k t)
 (hN:N.length=n) (ha:ps.length=a) (S:eL N ps (ay st)):JY R P w K mg base (k+1) ps (hV K cl g):=by
 subst hg ha;obtain ⟨f,fd,F,r⟩:=D;exact ⟨f,fd,r,F.okN S (λ vs H Q E h=>wx (λ ds S r e=>jE e) h) λ cd A outer s H vs Q E hr hs=>⟨t,pe f cd A outer s H E S.nd hr,Df hN de hs⟩⟩
theorem GE {g:List W->ah->SM W} (D:jd R K x q st) (h:∀ ds S,g ds S=none):xO R P w K mg base k ps (uL K cl g):=by
 obtain ⟨f,fd,_,r⟩:=D;exact ⟨f,fd,r,eE.noX h⟩
theorem vy {F:Nat->Sp} (h0:xO R P w K mg base (k+0) ps (F 0)) (hs:∀ n,xO R P w K mg base (k+n) ps (F n)->xO R P w K mg base (k+n+1) ps (F (n+1))):∀ n,xO R P w K mg base (k+n) ps (F n)
 | 0=>h0
 | n+1=>hs n (vy h0 hs n)
end
noncomputable def yq (C:Addr) (m:Str) (sp:Sp) (ta:TE) (t:TA):TE:=λ σ H Q=>True/\qy C m sp [] E0 ta t σ H Q
noncomputable def oK (c m:Str) (f:List W->ah->SM W) (fo:DS->ah->SM W) (fa:DS->ah->SM (List W)):DS->ah->SM W:=bH c m f fo fa
theorem Ay {K:Frag} {cl:Str->Addr} {E:XK} {c m:Str} {f:List W->ah->SM W} {to:TE} {t:TA} {fo:DS->ah->SM W} {fa:DS->ah->SM (List W)} (ho:SE K cl E to fo) (h:SA K cl E t fa):SE K cl E (yq (cl c) m (hV K cl f) to t) (oK c m f fo fa):=λ ρ G σ H δ S r S' Q R e q qx=>⟨True.intro,v4 ho h ρ G σ H δ S r S' Q R e q qx⟩
theorem JM {X:Cx} {k j:Nat} {f C:Addr} {fd:FuncData} {ps:List Str} {sp:Sp} {m:Str} {pos apos:Pos} {e o:Expr} {es:List Expr} {ta:TE} {t:TA} {pl:Sem Bool} (he:PE X o ta) (c:eU X.K C) (hm:bg X.K C m f) (F:oP X.prog X.w X.K X.mg X.base va k f fd ps sp) (hr:∃ A e,X.A=Around.mark A e/\cP j A) (hk:k<=j) (hb:aN X.K fd ps []) (ha:PA X (e::es) t)
 (hst:starEach (e::es) X.env=(false,eval e X.env)::starEach es X.env) (hpl:(backTo pos (starEach es X.env)).any (·.1)=false)
 (ht:eval (.Call (.Attribute o m apos) (e::es) [] pos) X.env=(do
  let ov <-eval o X.env
  standAt apos.atName
  let (f,first) <-holding [ov] (getMethod ov m pl)
  callWith pos f first (backTo pos (starEach (e::es) X.env)) (backToKw pos (keywordEach [] X.env)))):
 PE X (.Call (.Attribute o m apos) (e::es) [] pos) (yq C m sp ta t):=by
 have hr':iC k X.A:=by
  obtain ⟨A,e,hA,r⟩:=hr;rw [hA];exact ⟨(r.n.mono hk).dp,(r.n.mono hk).un⟩
 exact λ pins s σ H Q I h=>yc he c hm F hr' hb ha hst hpl ht pins s σ H Q I h.2
theorem wZ {A:Around} {e:Option Value} {j:Nat} (r:cP j A):∃ B v,A.mark e=Around.mark B v/\cP j B:=⟨A,e,rfl,r⟩
section
variable {K:Frag} {cl:Str->Addr} {E:XK}
end
end L2
namespace L2
open PySem PySem.Spec PyProof.Rows
open PySem.W (Frag)
theorem Fh {X:Cx} {K:Frag} (h:X.K=K) {op:Operator} {rd:V->V->Hp->VK->Prop} {o value:Expr} {ta tv:TE} {f:Str} {tpos pos:Pos} (ha:PE X o ta) (hv:PE X value tv) (hop:BW X op rd):PS X (.AugAssign (.Attribute o f tpos) op value pos) (re K ta tv rd f):=h▸xf ha hv hop
theorem F7 {K:Frag} {ρ:List Addr}:pc K ρ zH fO:=zI
noncomputable def ET (K:Frag) (a:Addr) (ws:List Str):Prop:=∀ G,gU K G a (ws.map V.str)
theorem Fi {K:Frag} {ρ:List Addr} {ta:TE} {fa:DS->Option W} {a:Addr} {ws:List Str} {d:W} (hs:ET K a ws) (hd:d=.tuple (ws.map W.str)) (ha:DK K ρ ta fa):DT K ρ (lI (pP (ES K false) ta (tC (.ref a)))) (aw pi fa (dC d)):=by
 subst hd;exact FG hs ha
noncomputable def AK (A:Around):Prop:=∃ k,cP k A
theorem IK {A:Around} {k:Nat} (r:cP k A):AK A:=⟨k,r⟩
theorem KF {X:Cx} {K:Frag} (h:X.K=K) (hr:AK X.A):QB X "repr" (qg K):=by
 obtain ⟨k,r⟩:=hr;exact EV h r
theorem yR {X:Cx} {x:Str} {i:Int} {t:Tok} {pos:Pos} (hg:Gl X x) (hm:X.mg x=some (.int i t)) (hd:(x==("__debug__" : Str))=false):PE X (.Name x pos) (tC (.int i)):=wt hg hm ⟨_,rfl⟩ hd
section
variable {K:Frag} {cl:Str->Addr} {E:XK}
theorem oT {ρ:List Addr} {G H:Hp} {S:ah} {v:V} {x:W} {n:Nat} {ds:List W} (s:SR K ρ cl G H S) (dv:Dw K ρ G v x) (h:dI x S=some (n,ds)):∃ a vs,v=.ref a/\H a=some (.lst vs)/\aC K ρ G vs ds:=by
 obtain ⟨rfl,e6⟩:=cz h;obtain ⟨a,rfl,ea⟩:=cr dv;obtain ⟨ga,vs,k1,k2⟩:=s.addr e6 ea;exact ⟨a,vs,rfl,k1,k2⟩
noncomputable def AT (fa fb:DS->ah->SM W):DS->ah->SM W:=λ δ S=>ak (fa δ S) λ x S1=>ak (fb δ S1) λ y S2=>(dI x S2).bind λ p=>(wg y).bind λ i=>some (.ok (.ref S2.length),S2++[.lst (g7 p.2 none (some i))])
noncomputable def AC (fa fb:DS->ah->SM W):DS->ah->SM W:=λ δ S=>ak (fa δ S) λ x S1=>ak (fb δ S1) λ y S2=>(dI x S2).bind λ p=>(wg y).bind λ i=>some (.ok (.ref S2.length),S2++[.lst (g7 p.2 (some i) none)])
theorem Fx {ta tb:TE} {fa fb:DS->ah->SM W} (ha:SE K cl E ta fa) (hb:SE K cl E tb fb):SE K cl E (Jm (pY K) ta ny (vR tb)) (AT fa fb):=λ ρ G σ H δ S r' S' Q R e q qx=>
 fN (P:=λ v u H=>∃ i,u=.int i/\pY K v none (some i) H Q) ha hb R e (λ x y S2 e2 v u ρ2 G2 H2 g2 s2 dv du=>by
  obtain ⟨⟨n,ds⟩,e4,e3⟩:=oB e2
  obtain ⟨i,e5,e7⟩:=oB e3
  cases ma e5;cases eg du;cases e7;obtain ⟨a,vs,rfl,k1,k2⟩:=oT s2 dv e4;refine ⟨i,rfl,a,vs,rfl,eS.of k1,λ p H' n=>?_⟩;obtain ⟨s3,g3⟩:=s2.push (o:=.lst (g7 ds none (some i))) g2.s n λ ρ' hr=>⟨mY vs none (some i),n.2.2,(k2.cut none (some i)).ext hr⟩
  exact q _ rfl _ _ _ H' (g2.trans g3) s3 (.ref (by rw [<-s2.len];simp))) qx
theorem GN {ta tb:TE} {fa fb:DS->ah->SM W} (ha:SE K cl E ta fa) (hb:SE K cl E tb fb):SE K cl E (Jm (pY K) ta (vR tb) ny) (AC fa fb):=λ ρ G σ H δ S r' S' Q R e q qx=>
 fN (P:=λ v u H=>∃ i,u=.int i/\pY K v (some i) none H Q) ha hb R e (λ x y S2 e2 v u ρ2 G2 H2 g2 s2 dv du=>by
  obtain ⟨⟨n,ds⟩,e4,e3⟩:=oB e2
  obtain ⟨i,e5,e7⟩:=oB e3
  cases ma e5;cases eg du;cases e7;obtain ⟨a,vs,rfl,k1,k2⟩:=oT s2 dv e4;refine ⟨i,rfl,a,vs,rfl,eS.of k1,λ p H' n=>?_⟩;obtain ⟨s3,g3⟩:=s2.push (o:=.lst (g7 ds (some i) none)) g2.s n λ ρ' hr=>⟨mY vs (some i) none,n.2.2,(k2.cut (some i) none).ext hr⟩
  exact q _ rfl _ _ _ H' (g2.trans g3) s3 (.ref (by rw [<-s2.len];simp))) qx
noncomputable def mv (fa fb:DS->ah->SM W):DS->ah->SM W:=λ δ S=>ak (fa δ S) λ x S1=>ak (fb δ S1) λ y S2=>(dI x S2).bind λ p=>(wg y).bind λ k=>if (decide (0<=k)&&decide (k<=1000)&&decide (p.2.length<=1000))=true then some (.ok (.ref S2.length),S2++[.lst (List.replicate k.toNat p.2).flatten]) else none
theorem Bc {ta tb:TE} {fa fb:DS->ah->SM W} (ha:SE K cl E ta fa) (hb:SE K cl E tb fb):SE K cl E (pP IA ta tb) (mv fa fb):=λ ρ G σ H δ S r' S' Q R e q qx=>
 fN ha hb R e (λ x y S2 e2 v u ρ2 G2 H2 g2 s2 dv du=>by
  obtain ⟨⟨n,ds⟩,e4,e3⟩:=oB e2
  obtain ⟨k,e5,e7⟩:=oB e3
  cases ma e5;cases eg du;split at e7
  case isFalse=>cases e7
  rename_i hc;cases e7;simp only [OD,ON] at hc;obtain ⟨a,vs,rfl,k1,k2⟩:=oT s2 dv e4;have hm:vs.length*k.toNat<=1000*1000:=Nat.mul_le_mul (by rw [k2.length];exact hc.2) (by omega);refine ⟨a,k,vs,rfl,rfl,k1,by omega,by omega,OY hm (by decide),λ p hp=>?_⟩;have n:Nw H2 (d6 H2 p (.lst (List.replicate k.toNat vs).flatten)) p (.lst (List.replicate k.toNat vs).flatten):=.of hp;obtain ⟨s3,g3⟩:=s2.push (o:=.lst (List.replicate k.toNat ds).flatten) g2.s n λ ρ' hr=>⟨_,n.2.2,(k2.rep k.toNat).ext hr⟩
  exact q _ rfl _ _ _ _ (g2.trans g3) s3 (.ref (by rw [<-s2.len];simp))) qx
noncomputable def wz (fa fb:DS->ah->SM W):DS->ah->SM W:=λ δ S=>ak (fa δ S) λ x S1=>ak (fb δ S1) λ y S2=>(dI x S2).bind λ p=>(dI y S2).bind λ q=>if p.2.length+q.2.length<=9000 then some (.ok (.ref S2.length),S2++[.lst (p.2++q.2)]) else none
theorem Cj {ta tb:TE} {fa fb:DS->ah->SM W} (ha:SE K cl E ta fa) (hb:SE K cl E tb fb):SE K cl E (pP (zL K) ta tb) (wz fa fb):=λ ρ G σ H δ S r' S' Q R e q qx=>
 fN ha hb R e (λ x y S2 e2 v u ρ2 G2 H2 g2 s2 dv du=>by
  obtain ⟨⟨n,ds⟩,e4,e3⟩:=oB e2
  obtain ⟨⟨m,es⟩,e5,e7⟩:=oB e3
  split at e7
  case isFalse=>cases e7
  rename_i hz;cases e7;obtain ⟨a,vs,rfl,k1,k2⟩:=oT s2 dv e4;obtain ⟨b,ws,rfl,l1,l2⟩:=oT s2 du e5;refine .inr (.inr (.inl ⟨a,b,vs,ws,rfl,rfl,eS.of k1,eS.of l1,by rw [k2.length,l2.length];exact OY hz (by decide),λ p H' n=>?_⟩));obtain ⟨s3,g3⟩:=s2.push (o:=.lst (ds++es)) g2.s n λ ρ' hr=>⟨vs++ws,n.2.2,(k2.app l2).ext hr⟩
  exact q _ rfl _ _ _ H' (g2.trans g3) s3 (.ref (by rw [<-s2.len];simp))) qx
end
end L2
namespace My
open PySem PySem.Spec PyProof.Rows L2
open PySem.W (Frag)
local macro_rules
 | `($x:num[$i:num]!)=>`(aA aH (ax $x) (dC (.int $i)))
 | `(!$x:num)=>`(dC (.int $x))
 | `(!$x:str)=>`(dC (.str $x))
 | `(#[$a,*])=>do
  let mut r<-`(aj)
  for x in a.getElems.reverse do r<-`(af $x $r)
  return r
local macro_rules | `(tactic| simp! [$a,*] $[$l]?)=>`(tactic| simp only [Nat.reduceAdd,Nat.reduceSub,reduceIte,Nat.reduceEqDiff,List.replicate,$a,*] $[$l]?)
noncomputable def gF (i:Nat):Stmt:=PySem.Challenge.pw_widelanes_k43_alone_branches.main.body.getD i (.Pass ⟨0,0,0,0⟩)
noncomputable abbrev qh:Stmt:=gF 8
noncomputable abbrev mR:Stmt:=gF 10
noncomputable abbrev tj:Stmt:=gF 9
noncomputable abbrev dL:Stmt:=bt (gF 1) 0
noncomputable abbrev dZ:Stmt:=bt (gF 1) 1
noncomputable abbrev fg:Stmt:=bt (gF 1) 2
noncomputable abbrev fK:Stmt:=bt (gF 1) 3
noncomputable abbrev cX:Stmt:=bt (gF 4) 0
noncomputable abbrev cS:Stmt:=bt (gF 4) 1
noncomputable abbrev dJ:Stmt:=bt (gF 4) 2
noncomputable abbrev eZ:Stmt:=bt (gF 4) 3
noncomputable abbrev cw:Stmt:=bt (gF 4) 4
noncomputable abbrev cv:Stmt:=bt (gF 4) 5
noncomputable abbrev cZ:Stmt:=bt (gF 14) 0
noncomputable abbrev cn:Stmt:=bt (gF 14) 1
noncomputable abbrev df:Stmt:=bt (gF 14) 2
noncomputable abbrev cO:Stmt:=bt (gF 14) 3
noncomputable abbrev eJ:Stmt:=bt (gF 14) 5
noncomputable abbrev dH:Stmt:=bt (gF 19) 0
noncomputable abbrev fP:Stmt:=bt (gF 19) 16
noncomputable abbrev gH:Stmt:=bt (gF 19) 15
noncomputable abbrev dE:Stmt:=bt (gF 19) 14
noncomputable abbrev gk:Stmt:=bt (gF 19) 12
noncomputable abbrev dG:Stmt:=bt (gF 19) 5
noncomputable abbrev fJ:Stmt:=bt (gF 19) 6
noncomputable abbrev fE:Stmt:=bt (gF 19) 10
noncomputable abbrev iE:Stmt:=bt (gF 19) 4
noncomputable abbrev gq:Stmt:=bt (gF 19) 3
noncomputable abbrev eG:Stmt:=bt (gF 19) 2
noncomputable abbrev iI:Stmt:=bt (gF 19) 1
noncomputable abbrev ww:Stmt:=gF 20
noncomputable abbrev mO:Stmt:=gF 22
noncomputable abbrev kX:Stmt:=gF 23
noncomputable abbrev iD:Stmt:=gF 24
noncomputable abbrev ij:Stmt:=gF 25
noncomputable abbrev lu:Stmt:=gF 26
noncomputable abbrev mJ:Stmt:=gF 27
noncomputable abbrev nM:Stmt:=gF 28
noncomputable abbrev mD:Stmt:=gF 29
noncomputable abbrev mK:Stmt:=gF 30
noncomputable abbrev lf:Stmt:=gF 31
noncomputable abbrev jc:Stmt:=gF 32
noncomputable abbrev jX:Stmt:=gF 33
noncomputable abbrev kd:Stmt:=gF 34
noncomputable abbrev mI:Stmt:=gF 35
noncomputable abbrev kH:Stmt:=gF 36
noncomputable abbrev tZ:Stmt:=gF 37
noncomputable def bV (c_Walk c_Frame c_Story c_Goer c_Nought c_Outside:Addr):Str->Addr:=λ s=>if s = "Walk" then c_Walk else if s = "Frame" then c_Frame else if s = "Story" then c_Story else if s = "Goer" then c_Goer else if s = "Nought" then c_Nought else if s = "Outside" then c_Outside else 0
theorem gu (c_Walk c_Frame c_Story c_Goer c_Nought c_Outside:Addr):bV c_Walk c_Frame c_Story c_Goer c_Nought c_Outside "Walk" = c_Walk:=by
 unfold bV;rw [Oo rfl]
theorem cG (c_Walk c_Frame c_Story c_Goer c_Nought c_Outside:Addr):bV c_Walk c_Frame c_Story c_Goer c_Nought c_Outside "Frame" = c_Frame:=by
 unfold bV;rw [Oq (by decide +kernel),Oo rfl]
theorem cj (c_Walk c_Frame c_Story c_Goer c_Nought c_Outside:Addr):bV c_Walk c_Frame c_Story c_Goer c_Nought c_Outside "Story" = c_Story:=by
 unfold bV;rw [Oq (by decide +kernel),Oq (by decide +kernel),Oo rfl]
theorem bo (c_Walk c_Frame c_Story c_Goer c_Nought c_Outside:Addr):bV c_Walk c_Frame c_Story c_Goer c_Nought c_Outside "Goer" = c_Goer:=by
 unfold bV;rw [Oq (by decide +kernel),Oq (by decide +kernel),Oq (by decide +kernel),Oo rfl]
theorem kf (c_Walk c_Frame c_Story c_Goer c_Nought c_Outside:Addr):bV c_Walk c_Frame c_Story c_Goer c_Nought c_Outside "Nought" = c_Nought:=by
 unfold bV;rw [Oq (by decide +kernel),Oq (by decide +kernel),Oq (by decide +kernel),Oq (by decide +kernel),Oo rfl]
theorem jr (c_Walk c_Frame c_Story c_Goer c_Nought c_Outside:Addr):bV c_Walk c_Frame c_Story c_Goer c_Nought c_Outside "Outside" = c_Outside:=by
 unfold bV;rw [Oq (by decide +kernel),Oq (by decide +kernel),Oq (by decide +kernel),Oq (by decide +kernel),Oq (by decide +kernel),Oo rfl]
noncomputable def dQ:List W->Option W:=eY 1 1
 (aW (aA bQ (aA cq (aA gSub' (ax 0) (dC (.int (-2147483648)))) (dC (.int 4294967296))) (dC (.int (-2147483648)))))
noncomputable def jv:List W->Option W:=eY 3 3
 (aX (bO (aw bh (ax 0) !"+")
  (aW (aA bQ (ax 1) (ae 2)))
  az)
 (aX (bO (aw bh (ax 0) !"-")
  (aW (aA gSub' (ax 1) (ae 2)))
  az)
 (aX (bO (aw bh (ax 0) !"*")
  (aW (aA kZ (ax 1) (ae 2)))
  az)
 (aX (bO (aw bh (ax 0) !"div")
  (aW (aA gW (ax 1) (ae 2)))
  az)
 (aX (bO (aw bh (ax 0) !"rem")
  (aW (aA gSub' (ax 1) (aA kZ (ax 2) (aA gW (ax 1) (ae 2)))))
  az)
 (aX (bO (aw bh (ax 0) !"<")
  (aW (Hv (aw p7 (ax 1) (ax 2)) (!1) !0))
  az)
 (aW (Hv (aw bh (ax 1) (ax 2)) (!1) !0))))))))
noncomputable def jC:List W->Option W:=eY 3 3
 (aX (bO (kC (aw pi (ax 0) (bv #[!"div",!"rem"])) (aw bh (ax 2) !0))
  (aW (dC .none))
  az)
 (aW (bc dQ #[bc jv #[ae 0,ae 1,ae 2]])))
noncomputable def ck:List W->ah->SM W:=bb 2 2
 (au (cB "Walk" "row" (aa (ae 0)) (aa (ae 1)))
 (cB "Walk" "at" (aa (ae 0)) (aa !0)))
noncomputable def fR:List W->ah->SM W:=bb 1 1
 (eC (sB (iK false (al "Walk" "at" (aa (ae 0))) (er (al "Walk" "row" (aa (ae 0)))))))
noncomputable def i0:List W->ah->SM W:=bb 1 1
 (eC (sIx (al "Walk" "row" (aa (ae 0))) (al "Walk" "at" (aa (ae 0)))))
noncomputable def iQ:List W->ah->SM W:=bb 1 2
 (au (cR (sIx (al "Walk" "row" (aa (ae 0))) (al "Walk" "at" (aa (ae 0)))) (ar 1))
 (au (j4 "Walk" "at" (aa (ae 0)) (aa !1))
 (aq (aW (ae 1)))))
noncomputable def dj:List W->ah->SM W:=bb 4 4
 (au (cB "Frame" "names" (aa (ae 0)) (aa (ae 2)))
 (au (cB "Frame" "given" (aa (ae 0)) (aa (ae 3)))
 (au (cB "Frame" "walks" (aa (ae 0)) (bS (aD (jB "Walk" ck (aa #[ae 1])) ca)))
 (cB "Frame" "loops" (aa (ae 0)) (bS (aa aj))))))
noncomputable def eV:DS->ah->SO:=(au (aS (mh (al "Frame" "walks" (aa (ae 0)))))
 (bj (fX (kb (al "Frame" "loops" (aa (ae 0)))) (iK false (sIx (al "Frame" "loops" (aa (ae 0))) (aa (iJ cU !1))) (er (al "Frame" "walks" (aa (ae 0))))))
  (aS (mh (al "Frame" "loops" (aa (ae 0)))))
  (aq az)))
noncomputable def dW:List W->ah->SM W:=bb 1 1
 (au (dm (fX (kb (al "Frame" "walks" (aa (ae 0)))) (la (bH "Walk" "is_over" fR (sIx (al "Frame" "walks" (aa (ae 0))) (aa (iJ cU !1))) (aa aj)))) eV 1000000)
 (eC (CF (kb (al "Frame" "walks" (aa (ae 0)))) (bH "Walk" "before" i0 (sIx (al "Frame" "walks" (aa (ae 0))) (aa (iJ cU !1))) (aa aj)) (aa (dC .none)))))
noncomputable def br:List W->ah->SM W:=bb 1 1
 (aS (bH "Walk" "taken" iQ (sIx (al "Frame" "walks" (aa (ae 0))) (aa (iJ cU !1))) (aa aj)))
noncomputable def dM:List W->ah->SM W:=bb 2 2
 (bT (al "Frame" "walks" (aa (ae 0))) (jB "Walk" ck (aa #[ae 1])))
noncomputable def d7:List W->ah->SM W:=bb 2 2
 (au (bT (al "Frame" "loops" (aa (ae 0))) (er (al "Frame" "walks" (aa (ae 0)))))
 (aS (bH "Frame" "enter" dM (aa (ae 0)) (aa #[ae 1]))))
noncomputable def d8:List W->ah->SM W:=bb 1 1
 (cB "Frame" "walks" (aa (ae 0)) (AT (al "Frame" "walks" (aa (ae 0))) (mh (al "Frame" "loops" (aa (ae 0))))))
noncomputable def cY:List W->ah->SM W:=bb 1 1
 (au (cB "Story" "told" (aa (ae 0)) (bS (aa aj)))
 (au (cB "Story" "steps" (aa (ae 0)) (aa !0))
 (au (cB "Story" "end" (aa (ae 0)) (aa (dC .none)))
 (au (cB "Story" "brought" (aa (ae 0)) (bS (aa aj)))
 (au (cB "Story" "touches" (aa (ae 0)) (bS (aa aj)))
 (au (cB "Story" "puts" (aa (ae 0)) (bS (aa aj)))
 (cB "Story" "lines" (aa (ae 0)) (bS (aa aj)))))))))
noncomputable def eX:List W->ah->SM W:=bb 1 1
 (au (bT (al "Story" "touches" (aa (ae 0))) (bS (aa aj)))
 (bT (al "Story" "puts" (aa (ae 0))) xN))
noncomputable def eM:List W->ah->SM W:=bb 2 2
 (au (j4 "Story" "steps" (aa (ae 0)) (aa !1))
 (bT (al "Story" "lines" (aa (ae 0))) (aa (ae 1))))
noncomputable def fS:List W->ah->SM W:=bb 4 4
 (bT (sIx (al "Story" "touches" (aa (ae 0))) (aa (iJ cU !1))) (aa (bv #[ae 1,ae 2,ae 3])))
noncomputable def bf:List W->ah->SM W:=bb 3 3
 (cB "Story" "end" (aa (ae 0)) (aa (bv #[ae 1,ae 2])))
noncomputable def hJ:DS->ah->SO:=(kh (al "Goer" "defs" (aa (ae 0))) (aa 7[0]!) (aa (ae 7)))
noncomputable def gw:List W->ah->SM W:=bb 7 8
 (au (cB "Goer" "defs" (aa (ae 0)) xN)
 (au (mr (aa (iY (ae 1))) (ar 7) hJ)
 (au (cB "Goer" "lane" (aa (ae 0)) (aa (ae 2)))
 (au (cB "Goer" "signs" (aa (ae 0)) (wa [(Str.ofString "lane", (ae 2)),(Str.ofString "lanes", (ae 3)),(Str.ofString "mine", (bc dQ #[ae 4]))]))
 (au (cB "Goer" "boxes" (aa (ae 0)) (rS [none] (aa (iY (ae 5))) (ar 0) (aa ua) (aa (bc dQ #[ae 0]))))
 (au (cB "Goer" "most" (aa (ae 0)) (aa (ae 6)))
 (au (cB "Goer" "frames" (aa (ae 0)) (bS (aD (jB "Frame" dj (aD (sIx (lj (al "Goer" "defs" (aa (ae 0))) (aa !"main")) (aa !2)) (aD xN (aD (aa (dC .none)) ca)))) ca)))
 (au (cB "Goer" "line" (aa (ae 0)) (aa (dC .none)))
 (au (cB "Goer" "meeting" (aa (ae 0)) (aa (dC .none)))
 (au (cB "Goer" "story" (aa (ae 0)) (jB "Story" cY (aa aj)))
 (aS (bH "Story" "begin_phase" eX (al "Goer" "story" (aa (ae 0))) (aa aj)))))))))))))
noncomputable def g9:List W->ah->SM W:=bb 3 3
 (au (bj (lV (qF JR p7 (aa !0) (aa (ae 2)) (er (al "Goer" "boxes" (aa (ae 0))))))
  (nA "Outside" (aa #[!"a place of no box"]))
  (aq az))
 (aS (bH "Story" "add_touch" fS (al "Goer" "story" (aa (ae 0))) (aD (aa (ae 1)) (aD (aa (ae 2)) (aD (al "Goer" "line" (aa (ae 0))) ca))))))
noncomputable def gG:List W->ah->SM W:=bb 2 2
 (au (aS (bn "Goer" "touch" g9 (aa (ae 0)) (aa #[!"get",ae 1])))
 (eC (sIx (al "Goer" "boxes" (aa (ae 0))) (aa (ae 1)))))
noncomputable def aB:Nat->List W->ah->SM W
 | 0,_,_=>none
 | n+1,ds,S=>bb 2 4
  (au (aq (aV 1[0]! (ar 2)))
  (au (aq (bO (aw bh (ax 2) !"num")
   (aW 1[1]!)
   az))
  (au (bj (aa (aw bh (ax 2) !"name"))
   (eC (lY (al "Frame" "names" (sIx (al "Goer" "frames" (aa (ae 0))) (aa (iJ cU !1)))) (aa 1[1]!) (aa !0)))
   (aq az))
  (au (bj (aa (aw pi (ax 2) (dC (.tuple [.str "lane", .str "lanes", .str "mine"]))))
   (eC (lj (al "Goer" "signs" (aa (ae 0))) (aa (ae 2))))
   (aq az))
  (au (bj (aa (aw bh (ax 2) !"box"))
   (eC (bn "Goer" "got" gG (aa (ae 0)) (aD (bn "Goer" "reckoned" (aB n) (aa (ae 0)) (aa #[1[1]!])) ca)))
   (aq az))
  (au (cR (fY jC (aD (aa (ae 2)) (aD (bn "Goer" "reckoned" (aB n) (aa (ae 0)) (aa #[1[1]!])) (aD (bn "Goer" "reckoned" (aB n) (aa (ae 0)) (aa #[1[2]!])) ca)))) (ar 3))
  (au (bj (aa (aw gC (ax 3) (dC .none)))
   (nA "Nought" (aa #[!"a working that has no number"]))
   (aq az))
  (aq (aW (ae 3)))))))))) ds S
noncomputable def ig:List W->ah->SM W:=bb 3 3
 (kh (al "Frame" "names" (sIx (al "Goer" "frames" (aa (ae 0))) (aa (iJ cU !1)))) (aa (ae 1)) (aa (ae 2)))
noncomputable def cE:List W->ah->SM W:=bb 2 3
 (au (cR (sIx (al "Goer" "frames" (aa (ae 0))) (aa (iJ cU !1))) (ar 2))
 (bj (iK true (bn "Goer" "reckoned" (aB 9) (aa (ae 0)) (aa #[1[2]!])) (aa !0))
  (aS (bH "Frame" "enter_loop" d7 (aa (ae 2)) (aa #[1[3]!])))
  (aS (bH "Frame" "pass_by" br (aa (ae 2)) (aa aj)))))
noncomputable def eQ:List W->ah->SM W:=bb 2 3
 (au (cR (CF (iK true (bn "Goer" "reckoned" (aB 9) (aa (ae 0)) (aa #[1[2]!])) (aa !0)) (aa 1[3]!) (aa 1[4]!)) (ar 2))
 (bj (aa (aw iF (ax 2) (dC .none)))
  (aS (bH "Frame" "enter" dM (sIx (al "Goer" "frames" (aa (ae 0))) (aa (iJ cU !1))) (aa #[ae 2])))
  (aq az)))
noncomputable def fI:List W->ah->SM W:=bb 2 4
 (au (aq (aV 1[0]! (ar 2)))
 (au (cR (sIx (al "Goer" "frames" (aa (ae 0))) (aa (iJ cU !1))) (ar 3))
 (bj (aa (aw bh (ax 2) !"return"))
  (aq fO)
  (bj (aa (aw bh (ax 2) !"stop"))
  (aS (bH "Story" "finish" bf (al "Goer" "story" (aa (ae 0))) (aD (aa !"done") (aD (al "Goer" "line" (aa (ae 0))) ca))))
  (au (aS (bH "Frame" "leave_body" d8 (aa (ae 3)) (aa aj)))
 (bj (aa (aw bh (ax 2) !"break"))
  (aS (bH "Frame" "pass_by" br (aa (ae 3)) (aa aj)))
  (aq az)))))))
noncomputable def bX:List W->ah->SM W:=bb 2 3
 (au (aq (aV 1[0]! (ar 2)))
 (au (bj (aa (aw bh (ax 2) !"while"))
  (au (aS (bn "Goer" "do_while" cE (aa (ae 0)) (aa #[ae 1])))
 (aq oA))
  (aq az))
 (au (aS (bH "Frame" "pass_by" br (sIx (al "Goer" "frames" (aa (ae 0))) (aa (iJ cU !1))) (aa aj)))
 (bj (aa (aw bh (ax 2) !"set"))
  (aS (bH "Goer" "give" ig (aa (ae 0)) (aD (aa 1[2]!) (aD (bn "Goer" "reckoned" (aB 9) (aa (ae 0)) (aa #[1[3]!])) ca))))
  (bj (aa (aw bh (ax 2) !"put"))
  (aq fO)
  (bj (aa (aw bh (ax 2) !"tell"))
  (bT (al "Story" "told" (al "Goer" "story" (aa (ae 0)))) (bn "Goer" "reckoned" (aB 9) (aa (ae 0)) (aa #[1[2]!])))
  (bj (aa (aw bh (ax 2) !"if"))
  (aS (bn "Goer" "do_if" eQ (aa (ae 0)) (aa #[ae 1])))
  (bj (aa (aw bh (ax 2) !"call"))
  (aq fO)
  (bj (aa (aw pi (ax 2) (bv #[!"meet",!"join"])))
  (aq fO)
  (aS (bH "Goer" "leave" fI (aa (ae 0)) (aa #[ae 1]))))))))))))
noncomputable def hW:List W->ah->SM W:=bb 2 2
 (au (cB "Goer" "line" (aa (ae 0)) (aa 1[1]!))
 (au (bj (i7 K9 (al "Story" "steps" (al "Goer" "story" (aa (ae 0)))) (al "Goer" "most" (aa (ae 0))))
  (au (aS (bH "Story" "finish" bf (al "Goer" "story" (aa (ae 0))) (aD (aa !"tired") (aD (al "Goer" "line" (aa (ae 0))) ca))))
 (aq oA))
  (aq az))
 (au (aS (bH "Story" "add_step" eM (al "Goer" "story" (aa (ae 0))) (aD (al "Goer" "line" (aa (ae 0))) ca)))
 (nW "Goer" "do" bX "Nought" "Outside" (ae 0) #[ae 1]
  (aS (oK "Story" "finish" bf (al "Goer" "story" (aa (ae 0))) (aD (aa !"nought") (aD (al "Goer" "line" (aa (ae 0))) ca))))
  (aS (oK "Story" "finish" bf (al "Goer" "story" (aa (ae 0))) (aD (aa !"outside") (aD (al "Goer" "line" (aa (ae 0))) ca))))))))
noncomputable def gR:List W->ah->SM W:=bb 1 1
 (bj (iK false (er (al "Goer" "frames" (aa (ae 0)))) (aa !1))
  (aS (bH "Story" "finish" bf (al "Goer" "story" (aa (ae 0))) (aD (aa !"done") (aD (sIx (lj (al "Goer" "defs" (aa (ae 0))) (aa !"main")) (aa !4)) ca))))
  (aq fO))
noncomputable def h8:DS->ah->SO:=(au (cR (bH "Frame" "statement" dW (sIx (al "Goer" "frames" (aa (ae 0))) (aa (iJ cU !1))) (aa aj)) (ar 1))
 (bj (aa (aw gC (ax 1) (dC .none)))
  (aS (bH "Goer" "end_def" gR (aa (ae 0)) (aa aj)))
  (aS (bH "Goer" "step" hW (aa (ae 0)) (aa #[ae 1])))))
noncomputable def jI:List W->ah->SM W:=bb 1 2
 (dm (fX (i7 gC (al "Story" "end" (al "Goer" "story" (aa (ae 0)))) (aa (dC .none))) (i7 gC (al "Goer" "meeting" (aa (ae 0))) (aa (dC .none)))) h8 1000000)
noncomputable def wK:DS->ah->SO:=(bj (i7 iF (al "Goer" "meeting" (aa (ae 7))) (aa (dC .none)))
 (au (aq fO)
 (aS (bH "Goer" "go" jI (aa (ae 7)) (aa aj))))
  (aq az))
noncomputable def nK:List W->ah->SM W:=bb 7 9
 (au (cR (jB "Goer" gw (aa #[ae 0,ae 1,ae 2,ae 3,ae 4,ae 5])) (ar 7))
 (au (aS (bH "Goer" "go" jI (aa (ae 7)) (aa aj)))
 (au (mr (aa (iY (ae 6))) (ar 8) wK)
 (eC (al "Goer" "story" (aa (ae 7)))))))
noncomputable def bA:List W->Option W:=eY 2 2
 (aX (bO (aw p7 (ax 1) (sw nc (ax 0)))
  (aW (aA aH (ax 0) (ae 1)))
  az)
 (aW !0))
noncomputable def bJ:List W->Option W:=eY 2 3
 (aX (aV (aA cq (aA bQ (aA bQ (aA cq (ax 0) !2147483647) (aA kZ (!16807) (ae 1))) !7) !2147483629) (ar 2))
 (aX (aV (aA cq (aA kZ (ax 2) (ae 2)) !2147483587) (ar 2))
 (aW (aA gW (aA cq (aA kZ (ax 2) (aA bQ (ax 2) !48271)) !2147483579) !5))))
noncomputable def bG:List W->ah->SM W:=bb 1 1
 (eC (sB (iK false (er (il 9000 [none] (fV (aa (ae 0))) (ar 0) (aa (jw (xJ (pB (sw (jS "int") (ae 0)))) (pB (sw (jS "bool") (ae 0))))) (aa (ae 0)))) (aa !0))))
noncomputable def cJ:List W->Option W:=eY 1 1
 (aW (aA gSub' (aA cq (aA bQ (ax 0) !2147483648) !4294967296) !2147483648))
noncomputable def gz:List W->Option W:=eY 1 6
 (aX (aV (aA bQ (!1) (aA cq (ax 0) !8)) (ar 1))
 (aX (aV (aA cq (aA gW (ax 0) !8) (ae 1)) (ar 2))
 (aX (aV (!"abcdefghijklmnopqrstuvwxyz") (ar 3))
 (aX (aV (aA sC (!"q") (ae 2)) (ar 4))
 (aX (aV (aA sC (!"q") (aA gSub' (aA gSub' (ax 1) !1) (ae 2))) (ar 5))
 (aW (dt (dD #[aA bQ (aA bQ (ax 4) (aA aH (ax 3) (aA cq (aA gW (ax 0) !64) !26))) (ae 5),aA bQ (aA bQ (ax 4) (aA aH (ax 3) (aA cq (aA bQ (aA gW (ax 0) !64) !1) !26))) (ae 5)]))))))))
noncomputable def gl:List W->Option W:=eY 2 5
 (aX (aV (bv #[!"name",aA aH (ax 1) (aA cq (ax 0) !2)]) (ar 2))
 (aX (aV (aA gW (ax 0) !12) (ar 3))
 (aX (aV (aA cq (aA gW (ax 0) !2) !6) (ar 4))
 (aX (bO (aw bh (ax 4) !0)
  (aW (ae 2))
  az)
 (aX (bO (aw bh (ax 4) !5)
  (aW (bv #[!"rem",ae 2,bv #[!"name",aA aH (ax 1) (aA cq (ax 3) !2)]]))
  az)
 (aX (bO (aw bh (ax 4) !1)
  (aW (bv #[!"rem",ae 2,bv #[!"num",aA bQ (!2) (aA cq (ax 3) !5)]]))
  az)
 (aX (bO (aw bh (ax 4) !2)
  (aW (bv #[!"=",ae 2,bv #[!"num",aA cq (ax 3) !4]]))
  az)
 (aW (bv #[!"<",ae 2,bv #[!"num",aA cq (ax 3) !9]])))))))))
noncomputable def gc:List W->Option W:=eY 2 5
 (aX (aV (bv #[!"name",aA aH (ax 1) (aA cq (ax 0) !2)]) (ar 2))
 (aX (aV (aA gW (ax 0) !14) (ar 3))
 (aX (aV (aA cq (aA gW (ax 0) !2) !7) (ar 4))
 (aX (bO (aw p7 (ax 4) !3)
  (aW (bv #[!"+",ae 2,bv #[!"num",!1]]))
  az)
 (aX (bO (aw bh (ax 4) !3)
  (aW (bv #[!"*",ae 2,bv #[!"num",aA gSub' (aA cq (aA kZ (ax 3) !7919007919) !1999999999) !999999999]]))
  az)
 (aX (bO (aw bh (ax 4) !4)
  (aW (bv #[!"-",bv #[!"num",aA cq (ax 3) !7],ae 2]))
  az)
 (aX (bO (aw bh (ax 4) !5)
  (aW (bv #[!"num",aA cq (ax 3) !5]))
  az)
 (aW (bv #[!"+",bv #[!"name",1[0]!],bv #[!"name",1[1]!]])))))))))
noncomputable def ii:List W->ah->SM W:=bb 4 4
 (au (aq (bO (aw p7 (ax 0) !3)
  (aW (bv #[!"set",aA aH (ax 3) (aA cq (ax 1) !2),bc gc #[aA gW (ax 1) !2,ae 3]]))
  az))
 (au (bj (fX (aa (aw p7 (ax 0) !7)) (i7 p7 (er (aa (ae 2))) (aa !5)))
  (au (bT (aa (ae 2)) (aa (aA aH (dt (dD #[!"if",!"if",!"while",!"while"])) (aA gSub' (ax 0) !3))))
 (eC (y8 (aD (sIx (aa (ae 2)) (aa (iJ cU !1))) (aD (aa (bc gl #[ae 1,ae 3])) ca)))))
  (aq az))
 (au (bj (fX (aa (aw bh (ax 0) !7)) (iK false (AC (aa (ae 2)) (aa (iJ cU !1))) (aa (dt (dD #[!"if"])))))
  (au (eW (aa (ae 2)) (aa (iJ cU !1)) (aa !"else"))
 (aq (aW (bv #[!"else"]))))
  (aq az))
 (au (bj (fX (aa (jw (aw bh (ax 0) !8) (aw bh (ax 0) !9))) (iK true (aa (ae 2)) (aa (dt (dD aj)))))
  (au (aS (mh (aa (ae 2))))
 (aq (aW (bv #[!"end"]))))
  (aq az))
 (au (bj (fX (aa (jw (aw bh (ax 0) !10) (aw bh (ax 0) !11))) (B8 false (aa !"while") (aa (ae 2))))
  (aq (aW (bv #[aA aH (dt (dD #[!"break",!"again"])) (aA gSub' (ax 0) !10)])))
  (aq az))
 (au (aq (bO (kC (aw bh (ax 0) !12) (aw bh (aA cq (ax 1) !4) !0))
  (aW (bv #[!"stop"]))
  az))
 (aq (aW (bv #[!"tell",bc gc #[ae 1,ae 3]])))))))))
noncomputable def ip:DS->ah->SO:=(au (cR (CG cq (fY bJ (aD (aa (ae 4)) (aD (CG bQ (er (aa (ae 2))) (aa !200)) ca))) (aa !16)) (ar 5))
 (bT (aa (ae 2)) (cA ii (aD (aa (ae 5)) (aD (fY bJ (aD (aa (ae 4)) (aD (er (aa (ae 2))) ca))) (aD (aa (ae 3)) (aD (aa (ae 1)) ca)))))))
noncomputable def my:List W->ah->SM W:=bb 2 6
 (au (cR (bS (aa #[bv #[!"def"]])) (ar 2))
 (au (cR (bS (aa aj)) (ar 3))
 (au (mr (aa (iY (ae 0))) (ar 4) ip)
 (eC (wz (aa (ae 2)) (mv (bS (aa #[bv #[!"end"]])) (CG bQ (er (aa (ae 3))) (aa !1))))))))
noncomputable def h9:List W->Option W:=xo my
noncomputable def cV (pf:List W->Option W):DS->Option dR:=(aX (aV (aA aH (ax 0) (ae 1)) (ar 3))
 (aX (aV (aA bQ (ax 1) !1) (ar 4))
 (aX (bO (aw bh 3[0]! !"if")
  (aX (aV (bc pf #[ae 0,aA bQ (ax 1) !1]) (jW 2 (ft (ar 5) (ft (ar 1) lF))))
 (aX (aV (dC .none) (ar 6))
 (aX (bO (aw bh (aA aH (aA aH (ax 0) (ae 1)) !0) !"else")
  (aV (bc pf #[ae 0,aA bQ (ax 1) !1]) (jW 2 (ft (ar 6) (ft (ar 1) lF))))
  az)
 (gJ 2 (bv #[!"if",ae 4,3[1]!,ae 5,ae 6])))))
  (bO (aw bh 3[0]! !"while")
  (aX (aV (bc pf #[ae 0,aA bQ (ax 1) !1]) (jW 2 (ft (ar 7) (ft (ar 1) lF))))
 (gJ 2 (bv #[!"while",ae 4,3[1]!,ae 7])))
  (gJ 2 (aA bQ (bv #[3[0]!,ae 4]) (yS (ae 3) (j3 !1) kN)))))
 (aV (aA bQ (ax 1) !1) (ar 1)))))
noncomputable def bD:Nat->List W->Option W
 | 0,_=>none
 | n+1,ds=>eY 2 8
  (aX (yZ 2 (dD aj))
  (aX (di (kC (aw ui (aA aH (aA aH (ax 0) (ae 1)) !0) !"end") (aw ui (aA aH (aA aH (ax 0) (ae 1)) !0) !"else")) (cV (bD n)) 1000000)
  (Aj 2 (aW (bv #[ae 2,ae 1]))))) ds
noncomputable def dX:DS->ah->SO:=(au (bj (aa (aw pi 4[0]! (bv #[!"def",!"if",!"while"])))
 (bT (aa (ae 2)) (aa (ae 3)))
 (aq az))
 (au (bj (aa (aw bh 4[0]! !"else"))
  (au (eW (aa (ae 1)) (sIx (aa (ae 2)) (aa (iJ cU !1))) (aa (ae 3)))
 (eW (aa (ae 2)) (aa (iJ cU !1)) (aa (ae 3))))
  (aq az))
 (au (bj (aa (aw bh 4[0]! !"end"))
  (au (eW (aa (ae 1)) (sIx (aa (ae 2)) (aa (iJ cU !1))) (aa (ae 3)))
 (eW (aa (ae 1)) (aa (ae 3)) (mh (aa (ae 2)))))
  (aq az))
 (bj (aa (jw (aw bh 4[0]! !"break") (aw bh 4[0]! !"again")))
  (eW (aa (ae 1)) (aa (ae 3)) (sIx (il 9000 [some 0,none] (fV (aa (ae 2))) (ar 1) (aa (aw bh (aA aH (aA aH (ax 0) (ae 1)) !0) !"while")) (aa (ae 1))) (aa (iJ cU !1))))
  (aq az)))))
noncomputable def jj:List W->ah->SM W:=bb 1 5
 (au (cR (mv (bS (aa #[!0])) (aa (sw nc (ax 0)))) (ar 1))
 (au (cR (bS (aa aj)) (ar 2))
 (au (mr (aa (xY #[ae 0])) (jW 2 (ft (ar 3) (ft (ar 4) lF))) dX)
 (aq (aW (ae 1))))))
noncomputable def fq:List W->Option W:=xo jj
noncomputable def aQ:Nat->List W->ah->SM W
 | 0,_,_=>none
 | n+1,ds,S=>bb 2 4
  (au (aq (bO (aw bh 0[0]! !"num")
   (aW 0[1]!)
   az))
  (au (bj (aa (aw bh 0[0]! !"name"))
   (eC (lY (aa (ae 1)) (aa 0[1]!) (aa !0)))
   (aq az))
  (au (cR (cA (aQ n) (aa #[0[1]!,ae 1])) (ar 2))
  (au (cR (cA (aQ n) (aa #[0[2]!,ae 1])) (ar 3))
  (au (aq (bO (aw bh 0[0]! !"rem")
   (aW (aA aH (dt (dD #[dC .none,aA cq (ax 2) (aA bQ (ax 3) (jZ (dB (aw bh (ax 3) !0))))])) (jZ (dB (aw ui (ax 3) !0)))))
   az))
  (au (aq (bO (aw bh 0[0]! !"=")
   (aW (jZ (dB (aw bh (ax 2) (ax 3)))))
   az))
  (au (aq (bO (aw bh 0[0]! !"<")
   (aW (jZ (dB (aw p7 (ax 2) (ax 3)))))
   az))
  (au (aq (bO (aw bh 0[0]! !"*")
   (aW (bc cJ #[aA kZ (ax 2) (ae 3)]))
   az))
  (au (aq (bO (aw bh 0[0]! !"-")
   (aW (bc cJ #[aA gSub' (ax 2) (ae 3)]))
   az))
  (aq (aW (bc cJ #[aA bQ (ax 2) (ae 3)])))))))))))) ds S
noncomputable def fh:DS->Option dR:=(bO (aw bh (aA aH (aA aH (ax 0) (ae 2)) !0) !"else")
 (aV (aA bQ (aA aH (ax 1) (ae 2)) !1) (ar 2))
 (bO (aw bh (aA aH (aA aH (ax 0) (aA aH (ax 1) (ae 2))) !0) !"while")
 (aV (aA aH (ax 1) (ae 2)) (ar 2))
 (aV (aA bQ (ax 2) !1) (ar 2))))
noncomputable def gj:List W->Option W:=eY 3 3
 (aX (di (jw (aw bh (aA aH (aA aH (ax 0) (ae 2)) !0) !"else") (kC (aw bh (aA aH (aA aH (ax 0) (ae 2)) !0) !"end") (aw ui (aA aH (aA aH (ax 0) (aA aH (ax 1) (ae 2))) !0) !"def"))) fh 1000000)
 (aW (ae 2)))
noncomputable def j6:List W->ah->SM W:=bb 5 6
 (au (aq (aV (aA aH (ax 0) (ae 2)) (ar 5)))
 (au (bj (aa (aw bh 5[0]! !"set"))
  (kh (aa (ae 3)) (aa 5[1]!) (cA (aQ 3) (aa #[5[2]!,ae 3])))
  (aq az))
 (au (bj (aa (aw bh 5[0]! !"tell"))
  (bT (aa (ae 4)) (cA (aQ 3) (aa #[5[1]!,ae 3])))
  (aq az))
 (au (bj (fX (aa (jw (aw bh 5[0]! !"if") (aw bh 5[0]! !"while"))) (iK false (cA (aQ 3) (aa #[5[1]!,ae 3])) (aa !0)))
  (aq (aW (aA bQ (aA aH (ax 1) (ae 2)) !1)))
  (aq az))
 (au (aq (bO (aw bh 5[0]! !"break")
  (aW (aA bQ (aA aH (ax 1) (aA aH (ax 1) (ae 2))) !1))
  az))
 (au (aq (bO (aw bh 5[0]! !"again")
  (aW (aA aH (ax 1) (ae 2)))
  az))
 (aq (aW (aA bQ (ax 2) !1)))))))))
noncomputable def gP:DS->ah->SO:=(au (aq (bO (jw (aw iF (ax 7) (dC .none)) (jw (aw ui (ax 8) (aA bQ (ax 6) !1)) (aw bh (aA aH (aA aH (ax 1) (ae 6)) !0) !"end")))
 (aW (dC (.bool false)))
 az))
 (bj (aa (aw bh (aA aH (aA aH (ax 1) (ae 6)) !0) !"stop"))
  (aq (aV (bv #[!"done",ae 8]) (ar 7)))
  (bj (fX (aa (jw (aw bh (aA aH (aA aH (ax 1) (ae 6)) !0) !"if") (aw bh (aA aH (aA aH (ax 1) (ae 6)) !0) !"while"))) (i7 gC (cA (aQ 3) (aa #[aA aH (aA aH (ax 1) (ae 6)) !1,ae 4])) (aa (dC .none))))
  (aq (aV (bv #[!"nought",ae 8]) (ar 7)))
  (cR (fY gj (aD (aa (ae 1)) (aD (aa (ae 2)) (aD (cA j6 (aa #[ae 1,ae 2,ae 6,ae 4,ae 5])) ca)))) (ar 6)))))
noncomputable def gE:List W->ah->SM W:=bb 4 9
 (au (cR xN (ar 4))
 (au (cR (bS (aa aj)) (ar 5))
 (au (aq (aV (bc gj #[ae 1,ae 2,!1]) (ar 6)))
 (au (aq (aV (dC .none) (ar 7)))
 (au (bj (AN (lV (la (xb "list" (al "Story" "lines" (aa (ae 0)))))) (AN (lV (la (cA bG (aD (al "Story" "lines" (aa (ae 0))) ca)))) (lV (la (cA bG (aD (bS (aD (al "Story" "steps" (aa (ae 0))) ca)) ca))))))
  (aq (aW (dC (.bool false))))
  (aq az))
 (au (ph 9000 (fV (al "Story" "lines" (aa (ae 0)))) (ar 8) gP)
 (au (aq (bO (kC (aw gC (ax 7) (dC .none)) (aw bh (aA aH (aA aH (ax 1) (ae 6)) !0) !"end"))
  (aV (bv #[!"done",aA bQ (ax 6) !1]) (ar 7))
  az))
 (au (bj (fX (aa (aw gC (ax 7) (dC .none))) (iK false (er (al "Story" "lines" (aa (ae 0)))) (aa (ae 3))))
  (aq (aV (bv #[!"tired",aA bQ (ax 6) !1]) (ar 7)))
  (aq az))
 (au (bj (AN (i7 IE (er (al "Story" "lines" (aa (ae 0)))) (aa (ae 3))) (AN (iK true (al "Story" "steps" (aa (ae 0))) (er (al "Story" "lines" (aa (ae 0))))) (AN (aa (aw gC (ax 7) (dC .none))) (iK true (al "Story" "end" (aa (ae 0))) (aa (ae 7))))))
  (aq (aW (dC (.bool false))))
  (aq az))
 (au (bj (AN (iK true (al "Story" "told" (aa (ae 0))) (aa (ae 5))) (lV (la (cA bG (aD (al "Story" "told" (aa (ae 0))) ca)))))
  (aq (aW (dC (.bool false))))
  (aq az))
 (eC (nQ (sB (iK false (al "Story" "brought" (aa (ae 0))) (aa (dt (dD aj))))) (nQ (sB (iK false (al "Story" "touches" (aa (ae 0))) (aa (dt (dD #[dt (dD aj)]))))) (sB (BV (al "Story" "puts" (aa (ae 0))) (xq (aD xN ca)))))))))))))))))
noncomputable def yM:List W->ah->SM W:=bb 1 9
 (au (aq (aV (bc gz #[bc bJ #[bc bA #[ae 0,!0],!601]]) (ar 1)))
 (au (aq (aV (aA bQ (!1) (aA cq (bc bA #[ae 0,!1]) !8)) (ar 2)))
 (au (aq (aV (aA cq (bc bJ #[bc bA #[ae 0,!2],!602]) !201) (ar 3)))
 (au (aq (aV (bc h9 #[dt (Ar (ax 0) (j3 !3) (j3 !103)),ae 1]) (ar 4)))
 (au (aq (aV (aA aH (bc (bD 9) #[ae 4,!1]) !0) (ar 5)))
 (au (aq (aV (dt (dD #[bv #[!"main",dt (dD aj),ae 5,!1,sw nc (ax 4)]])) (ar 6)))
 (au (aq (aV (qd (ae 6)) (ar 7)))
 (au (cR (cA nK (aa #[ae 6,aA cq (bc bJ #[bc bA #[ae 0,!1],!603]) (ae 2),ae 2,!0,dt (dD aj),ae 3,dt (dD aj)])) (ar 8))
 (eC (nQ (cA gE (aa #[ae 8,ae 4,bc fq #[ae 4],ae 3])) (aa (dB (aw bh (qd (ae 6)) (ax 7))))))))))))))
noncomputable def rD (K:Frag):Sp:=λ vs H Q _=>∃ (a:Addr) (ns:List Int),vs=[.ref a]/\eS K H a (ns.map V.int)/\ns.length<=63/\∀ H',Q (.bl true) H'
section
variable (P:Program) (w:World) (K:Frag) (mg:Str->Option Value) (base:Heap) (cl:Str->Addr)
noncomputable abbrev lO:Prop:=rc P w K mg base "wrapped" ["n"] [] 1 (oy K dQ)
noncomputable abbrev mB:Prop:=rc P w K mg base "unwrapped" ["word", "one", "other"] [] 1 (oy K jv)
noncomputable abbrev tV:Prop:=rc P w K mg base "worked" ["word", "one", "other"] [] 2 (oy K jC)
noncomputable abbrev gv:Prop:=Ce (λ f fd=>Mk K (cl "Walk") f/\aN K fd ["self", "row"] []) P w K mg base 1 ["self", "row"] (hV K cl ck)
noncomputable abbrev jx:Prop:=Ce (λ f fd=>bg K (cl "Walk") "is_over" f/\aN K fd ["self"] []) P w K mg base 1 ["self"] (hV K cl fR)
noncomputable abbrev ka:Prop:=Ce (λ f fd=>bg K (cl "Walk") "before" f/\aN K fd ["self"] []) P w K mg base 1 ["self"] (hV K cl i0)
noncomputable abbrev lG:Prop:=Ce (λ f fd=>bg K (cl "Walk") "taken" f/\aN K fd ["self"] []) P w K mg base 1 ["self"] (hV K cl iQ)
noncomputable abbrev iG:Prop:=Ce (λ f fd=>Mk K (cl "Frame") f/\aN K fd ["self", "body", "names", "given"] []) P w K mg base 3 ["self", "body", "names", "given"] (hV K cl dj)
noncomputable abbrev hZ:Prop:=Ce (λ f fd=>bg K (cl "Frame") "statement" f/\aN K fd ["self"] []) P w K mg base 2 ["self"] (hV K cl dW)
noncomputable abbrev fj:Prop:=Ce (λ f fd=>bg K (cl "Frame") "pass_by" f/\aN K fd ["self"] []) P w K mg base 2 ["self"] (hV K cl br)
noncomputable abbrev io:Prop:=Ce (λ f fd=>bg K (cl "Frame") "enter" f/\aN K fd ["self", "body"] []) P w K mg base 3 ["self", "body"] (hV K cl dM)
noncomputable abbrev gK:Prop:=Ce (λ f fd=>bg K (cl "Frame") "enter_loop" f/\aN K fd ["self", "body"] []) P w K mg base 4 ["self", "body"] (hV K cl d7)
noncomputable abbrev gM:Prop:=Ce (λ f fd=>bg K (cl "Frame") "leave_body" f/\aN K fd ["self"] []) P w K mg base 1 ["self"] (hV K cl d8)
noncomputable abbrev i5:Prop:=Ce (λ f fd=>Mk K (cl "Story") f/\aN K fd ["self"] []) P w K mg base 1 ["self"] (hV K cl cY)
noncomputable abbrev gy:Prop:=Ce (λ f fd=>bg K (cl "Story") "begin_phase" f/\aN K fd ["self"] []) P w K mg base 1 ["self"] (hV K cl eX)
noncomputable abbrev iA:Prop:=Ce (λ f fd=>bg K (cl "Story") "add_step" f/\aN K fd ["self", "line"] []) P w K mg base 1 ["self", "line"] (hV K cl eM)
noncomputable abbrev ie:Prop:=Ce (λ f fd=>bg K (cl "Story") "add_touch" f/\aN K fd ["self", "word", "place", "line"] []) P w K mg base 1 ["self", "word", "place", "line"] (hV K cl fS)
noncomputable abbrev js:Prop:=Ce (λ f fd=>bg K (cl "Story") "finish" f/\aN K fd ["self", "word", "line"] []) P w K mg base 1 ["self", "word", "line"] (hV K cl bf)
noncomputable abbrev jp:Prop:=JY (λ f fd=>bg K (cl "Story") "finish" f/\aN K fd ["self", "word", "line"] []) P w K mg base 1 ["self", "word", "line"] (hV K cl bf)
noncomputable abbrev jb:Prop:=Ce (λ f fd=>Mk K (cl "Goer") f/\aN K fd ["self", "program", "lane", "lanes", "mine", "boxes", "most"] []) P w K mg base 5 ["self", "program", "lane", "lanes", "mine", "boxes", "most"] (hV K cl gw)
noncomputable abbrev lH:Prop:=xO (λ f fd=>bg K (cl "Goer") "touch" f/\aN K fd ["self", "word", "place"] []) P w K mg base 2 ["self", "word", "place"] (uL K cl g9)
noncomputable abbrev nP:Prop:=xO (λ f fd=>bg K (cl "Goer") "got" f/\aN K fd ["self", "place"] []) P w K mg base 3 ["self", "place"] (uL K cl gG)
noncomputable abbrev fm:Prop:=xO (λ f fd=>bg K (cl "Goer") "reckoned" f/\aN K fd ["self", "expression"] []) P w K mg base 12 ["self", "expression"] (uL K cl (aB 9))
noncomputable abbrev mP:Prop:=Ce (λ f fd=>bg K (cl "Goer") "give" f/\aN K fd ["self", "name", "number"] []) P w K mg base 1 ["self", "name", "number"] (hV K cl ig)
noncomputable abbrev je:Prop:=xO (λ f fd=>bg K (cl "Goer") "do_while" f/\aN K fd ["self", "statement"] []) P w K mg base 13 ["self", "statement"] (uL K cl cE)
noncomputable abbrev lK:Prop:=xO (λ f fd=>bg K (cl "Goer") "do_if" f/\aN K fd ["self", "statement"] []) P w K mg base 13 ["self", "statement"] (uL K cl eQ)
noncomputable abbrev kU:Prop:=Ce (λ f fd=>bg K (cl "Goer") "leave" f/\aN K fd ["self", "statement"] []) P w K mg base 3 ["self", "statement"] (hV K cl fI)
noncomputable abbrev pV:Prop:=xO (λ f fd=>bg K (cl "Goer") "do" f/\aN K fd ["self", "statement"] []) P w K mg base 14 ["self", "statement"] (uL K cl bX)
noncomputable abbrev mz:Prop:=Ce (λ f fd=>bg K (cl "Goer") "step" f/\aN K fd ["self", "statement"] []) P w K mg base 15 ["self", "statement"] (hV K cl hW)
noncomputable abbrev jq:Prop:=Ce (λ f fd=>bg K (cl "Goer") "end_def" f/\aN K fd ["self"] []) P w K mg base 2 ["self"] (hV K cl gR)
noncomputable abbrev qr:Prop:=Ce (λ f fd=>bg K (cl "Goer") "go" f/\aN K fd ["self"] []) P w K mg base 16 ["self"] (hV K cl jI)
noncomputable abbrev vV:Prop:=rc P w K mg base "alone" ["program", "lane", "lanes", "mine", "boxes", "most", "letters"] [] 17 (hV K cl nK)
noncomputable abbrev mU:Prop:=rc P w K mg base "_law_cell" ["_law_script", "_law_k"] [] 1 (oy K bA)
noncomputable abbrev iX:Prop:=rc P w K mg base "_law_mixed" ["_law_cell_here", "_law_k"] [] 1 (oy K bJ)
noncomputable abbrev i8:Prop:=rc P w K mg base "_law_all_whole" ["_law_row"] [] 1 (hV K cl bG)
noncomputable abbrev ib:Prop:=rc P w K mg base "_law_into_range" ["_law_number_here"] [] 1 (oy K cJ)
noncomputable abbrev kI:Prop:=rc P w K mg base "_law_names" ["_law_cell_here"] [] 1 (oy K gz)
noncomputable abbrev m8:Prop:=rc P w K mg base "_law_test" ["_law_number_here", "_law_names_here"] [] 1 (oy K gl)
noncomputable abbrev oZ:Prop:=rc P w K mg base "_law_sum" ["_law_number_here", "_law_names_here"] [] 1 (oy K gc)
noncomputable abbrev m9:Prop:=rc P w K mg base "_law_line" ["_law_kind", "_law_number_here", "_law_pile", "_law_names_here"] [] 2 (hV K cl ii)
noncomputable abbrev mM:Prop:=rc P w K mg base "_law_rows" ["_law_cells", "_law_names_here"] [] 3 (oy K h9)
noncomputable abbrev lA:Prop:=rc P w K mg base "_law_block" ["_law_rows_here", "_law_at"] [] 9 (oy K (bD 9))
noncomputable abbrev jf:Prop:=rc P w K mg base "_law_partners" ["_law_rows_here"] [] 1 (oy K fq)
noncomputable abbrev iu:Prop:=rc P w K mg base "_law_number" ["_law_told", "_law_names_here"] [] 4 (hV K cl (aQ 3))
noncomputable abbrev ke:Prop:=rc P w K mg base "_law_onward" ["_law_rows_here", "_law_partners_here", "_law_at"] [] 1 (oy K gj)
noncomputable abbrev mH:Prop:=rc P w K mg base "_law_next" ["_law_rows_here", "_law_partners_here", "_law_at", "_law_names_here", "_law_told"] [] 5 (hV K cl j6)
noncomputable abbrev lr:Prop:=rc P w K mg base "_law_holds" ["_law_story", "_law_rows_here", "_law_partners_here", "_law_most"] [] 6 (hV K cl gE)
end
def rlX (s:String) (t:Lean.TSyntax `tactic):Lean.MacroM (Lean.TSyntax `tactic):=(s.splitOn ";").foldlM (λ t g=>do
 let l:=g.splitOn " ";let u <-l.tail.foldlM (λ u n=>do
  let q:=n.splitOn ":";let i:=Lean.mkIdent ((if n.front.isDigit||n.front=='<' then n.drop 1 else q.head!).toName);let a <-if n.front.isDigit||n.front=='<' then pure (Array.replicate (n.front.toNat-48) (<- `(?_))) else (q.getLast!.toList.toArray.mapM λ c=>if c=='r' then `(rfl) else if c=='a' then `(by assumption) else if c=='d' then `(by first | decide | exact Nat.le_refl _ | exact Nat.le_add_right _ _ | omega) else if c=='k' then `(by decide +kernel) else `(?_))
  let v <-if q.tail.isEmpty && !n.front.isDigit&&n.front != '<' then `(tactic| apply $i) else `(tactic| refine $(Lean.Syntax.mkApp i a))
  `(tactic| first | $v:tactic | $u:tactic)) (<- `(tactic| fail))
 `(tactic| first | (show $(Lean.mkIdent l.head!.toName) ..;$u:tactic) | $t:tactic)) t
local macro_rules | `(tactic| left)=>do
 let t <-rlX "DQ DQ.nil DQ.cons;Ku zr;ST FL yl CN IQ GL Fg HG Ch Gg Fm;K3 CL;FE yH yE;DI CB Gw;DR B9 Fb GP GQ Ei FK De;DG Gh C0;DB JP J6 IV Fu Cw IX Jk ID II;Ll yF;SA AX Cs FJ;IN xW Bq;DA CA EZ;DK DE.dk Gn;kc x9 Cv zy Ca zh vN wA tt vw pZ zq yC vU D1 yU Ab;DO FT GU;SE Cj Bc GN Fx FU GV Ag IP yu Ay zn EK Cc yj BJ Jb Fe Av BX Jv Bx GA Hm FC JK EQ BO v4 Ct J9;DE By Bj DO.de Ge Iq Ey Fo Ib GF Bn E5 Hl Ih Ew HF Hd FQ;pc zw Bu qo zx yX D3 zD za A1 BR F7;DT Fv E9 G7 EU Jo Go Fi" (<- `(tactic| first | assumption | decide));let u <-rlX "kc zh vN wA tt vw pZ zq yC vU D1 yU Ab;pc qo zx yX D3 zD za A1;Eq rfl" (<- `(tactic| first | exact E0 | decide))
 `(tactic| repeat' first | with_reducible (show (_:Prop);first | intro _ | $t:tactic) | $u:tactic)
local macro_rules | `(tactic| right)=>do
 let t <-rlX "BW 0Mj;uN 0Hn;Jg 0Kc 3JC;And 2And.intro;tH 1Eo;iz 0MP 0IZ;PassesOwn 0PassesOwn.never;Dg 1IR 1Ke;K4 0Lp;xH 0Jw 1Ic;PW 1JT 2Le 1LO 2Mv;cH 7DM;PO 0Kn 1Kl;PI 5Jt 2Ks;iw 0M9 2Lj 0Nf 0LD 0Mr 0Kj 0LR 0Kz 2Lf 0Kk 1E8 0Lu 0MR 1JS 0JE 0K0 2LL;Hy 0JZ 3HR;PT 1PW.pt 6IT 3Ko 2Mc 1LJ 4KG;PG 5KE 4KD;PS 0Ji 0Kg 4Fh 9Hz 5Et 3Im 6Kq 5Kx 6Ln 2Kt 3M3 1KY 6KL;yO 1KH;nL 0K1 1JU 2JL;PA 0Lq 3Km;PE 5Ia 5IU 2Np 2NU 2NY 5MX 8MK 9MJ 6MW 4Kb 0IS 0MI 3JW 1LW 3IL 2LP 2MT 7Ja 4JB 0KR 4K6 1JX 1K5 4MQ 3MS 0KQ 4LM 0Mo 9pe_cSet 5L7" (<- `(tactic| intro _));let u <-rlX "Or HL:r Or.inr:r Or.inl:r;JQ Or.inr:r Or.inl:r;JV HL:r Or.inl:r;Exists Lk:aad;M2 M2.mk:rrrr;PE Co zu BK yp wt:rard yR:rad JM;eE eE.mono:a?;cP cP.mono:ad;Paired Paired.nil:;eL eL.mk:rrrkrkk;PS AW;Exists wZ:a;AK IK:a;QB 2KF 3q_sort 0MU 1L1 1MY;QM 0Ni 0ME;iw 2Lf 2LL;PS 3Lr;nL 2JL 1JU" (<- `(tactic| first | assumption | rfl | exact λ _ _=>rfl | exact λ _=>rfl | decide +kernel))
 `(tactic| ((repeat' first | with_reducible $t:tactic | $u:tactic);all_goals try decide))
section
variable {P:Program} {w:World} {K:Frag} {mg:Str->Option Value} {base:Heap} {cl:Str->Addr}
set_option maxHeartbeats 4000000
theorem uI (D:rH K mg "wrapped" ["n"] [] qh) {tL:Tok} (m_LEAST:mg "LEAST" = some (.int (-2147483648) tL)) (g_LEAST:∀ ρ G,Dw K ρ G (.int (-2147483648)) ((.int (-2147483648)))) {tS:Tok} (m_SPAN:mg "SPAN" = some (.int 4294967296 tS)) (g_SPAN:∀ ρ G,Dw K ρ G (.int 4294967296) ((.int 4294967296))):lO P w K mg base:=
 nR (N:=["n"]) D rfl (λ ρ=>by left) (by right) rfl rfl (by right)
theorem qY (D:rH K mg "unwrapped" ["word", "one", "other"] [] mR):mB P w K mg base:=
 nR (N:=["word", "one", "other"]) D rfl (λ ρ=>by left) (by right) rfl rfl (by right)
theorem xz (D:rH K mg "worked" ["word", "one", "other"] [] tj) (_:lO P w K mg base) (_:mB P w K mg base):tV P w K mg base:=
 nR (N:=["word", "one", "other"]) D rfl (λ ρ=>by left) (by right) rfl rfl (by right)
theorem lX (D:jd (λ f fd=>Mk K (cl "Walk") f/\aN K fd ["self", "row"] []) K "__init__" "Walk.__init__" dL) (_:mg "Walk" = some (.ref (cl "Walk"))) (_:eU K (cl "Walk")) (_:ac K (cl "Walk") "row") (_:ac K (cl "Walk") "at"):gv P w K mg base cl:=
 fU (N:=["self", "row"]) D rfl (by left) (by right) rfl rfl (by right)
theorem ng (D:jd (λ f fd=>bg K (cl "Walk") "is_over" f/\aN K fd ["self"] []) K "is_over" "Walk.is_over" dZ) (_:mg "Walk" = some (.ref (cl "Walk"))) (_:eU K (cl "Walk")) (_:ac K (cl "Walk") "row") (_:ac K (cl "Walk") "at") (_:mg "len" = none):jx P w K mg base cl:=
 fU (N:=["self"]) D rfl (by left) (by right) rfl rfl (by right)
theorem nZ (D:jd (λ f fd=>bg K (cl "Walk") "before" f/\aN K fd ["self"] []) K "before" "Walk.before" fg) (_:mg "Walk" = some (.ref (cl "Walk"))) (_:eU K (cl "Walk")) (_:ac K (cl "Walk") "row") (_:ac K (cl "Walk") "at"):ka P w K mg base cl:=
 fU (N:=["self"]) D rfl (by left) (by right) rfl rfl (by right)
theorem pI (D:jd (λ f fd=>bg K (cl "Walk") "taken" f/\aN K fd ["self"] []) K "taken" "Walk.taken" fK) (_:mg "Walk" = some (.ref (cl "Walk"))) (_:eU K (cl "Walk")) (_:ac K (cl "Walk") "row") (_:ac K (cl "Walk") "at"):lG P w K mg base cl:=
 fU (N:=["self", "thing"]) D rfl (by left) (by right) rfl rfl (by right)
theorem lc (D:jd (λ f fd=>Mk K (cl "Frame") f/\aN K fd ["self", "body", "names", "given"] []) K "__init__" "Frame.__init__" cX) (h_Walk___init__:gv P w K mg base cl) (_:mg "Frame" = some (.ref (cl "Frame"))) (_:eU K (cl "Frame")) (_:ac K (cl "Frame") "names") (_:ac K (cl "Frame") "given") (_:ac K (cl "Frame") "walks") (_:ac K (cl "Frame") "loops") (_:mg "Walk" = some (.ref (cl "Walk"))) (_:eU K (cl "Walk")) (_:ac K (cl "Walk") "row") (_:ac K (cl "Walk") "at"):iG P w K mg base cl:=
 fU (N:=["self", "body", "names", "given"]) D rfl (by left) (by obtain ⟨_,_,⟨_,_⟩,_⟩:=h_Walk___init__;right) rfl rfl (by right)
theorem kl (D:jd (λ f fd=>bg K (cl "Frame") "statement" f/\aN K fd ["self"] []) K "statement" "Frame.statement" cS) (h_Walk_is_over:jx P w K mg base cl) (h_Walk_before:ka P w K mg base cl) (_:mg "Frame" = some (.ref (cl "Frame"))) (_:eU K (cl "Frame")) (_:ac K (cl "Frame") "names") (_:ac K (cl "Frame") "given") (_:ac K (cl "Frame") "walks") (_:ac K (cl "Frame") "loops") (_:mg "Walk" = some (.ref (cl "Walk"))) (_:eU K (cl "Walk")) (_:ac K (cl "Walk") "row") (_:ac K (cl "Walk") "at") (_:mg "len" = none):hZ P w K mg base cl:=
 fU (N:=["self"]) D rfl (by left) (by obtain ⟨_,_,⟨_,_⟩,_⟩:=h_Walk_is_over;obtain ⟨_,_,⟨_,_⟩,_⟩:=h_Walk_before;right) rfl rfl (by right)
theorem lP (D:jd (λ f fd=>bg K (cl "Frame") "pass_by" f/\aN K fd ["self"] []) K "pass_by" "Frame.pass_by" dJ) (h_Walk_taken:lG P w K mg base cl) (_:mg "Frame" = some (.ref (cl "Frame"))) (_:eU K (cl "Frame")) (_:ac K (cl "Frame") "names") (_:ac K (cl "Frame") "given") (_:ac K (cl "Frame") "walks") (_:ac K (cl "Frame") "loops") (_:mg "Walk" = some (.ref (cl "Walk"))) (_:eU K (cl "Walk")) (_:ac K (cl "Walk") "row") (_:ac K (cl "Walk") "at"):fj P w K mg base cl:=
 fU (N:=["self"]) D rfl (by left) (by obtain ⟨_,_,⟨_,_⟩,_⟩:=h_Walk_taken;right) rfl rfl (by right)
theorem ol (D:jd (λ f fd=>bg K (cl "Frame") "enter" f/\aN K fd ["self", "body"] []) K "enter" "Frame.enter" eZ) (h_Walk___init__:gv P w K mg base cl) (_:mg "Frame" = some (.ref (cl "Frame"))) (_:eU K (cl "Frame")) (_:ac K (cl "Frame") "names") (_:ac K (cl "Frame") "given") (_:ac K (cl "Frame") "walks") (_:ac K (cl "Frame") "loops") (_:mg "Walk" = some (.ref (cl "Walk"))) (_:eU K (cl "Walk")) (_:ac K (cl "Walk") "row") (_:ac K (cl "Walk") "at"):io P w K mg base cl:=
 fU (N:=["self", "body"]) D rfl (by left) (by obtain ⟨_,_,⟨_,_⟩,_⟩:=h_Walk___init__;right) rfl rfl (by right)
theorem jT (D:jd (λ f fd=>bg K (cl "Frame") "enter_loop" f/\aN K fd ["self", "body"] []) K "enter_loop" "Frame.enter_loop" cw) (h_Frame_enter:io P w K mg base cl) (_:mg "Frame" = some (.ref (cl "Frame"))) (_:eU K (cl "Frame")) (_:ac K (cl "Frame") "names") (_:ac K (cl "Frame") "given") (_:ac K (cl "Frame") "walks") (_:ac K (cl "Frame") "loops") (_:mg "len" = none):gK P w K mg base cl:=
 fU (N:=["self", "body"]) D rfl (by left) (by obtain ⟨_,_,⟨_,_⟩,_⟩:=h_Frame_enter;right) rfl rfl (by right)
theorem jU (D:jd (λ f fd=>bg K (cl "Frame") "leave_body" f/\aN K fd ["self"] []) K "leave_body" "Frame.leave_body" cv) (_:mg "Frame" = some (.ref (cl "Frame"))) (_:eU K (cl "Frame")) (_:ac K (cl "Frame") "names") (_:ac K (cl "Frame") "given") (_:ac K (cl "Frame") "walks") (_:ac K (cl "Frame") "loops"):gM P w K mg base cl:=
 fU (N:=["self"]) D rfl (by left) (by right) rfl rfl (by right)
theorem lm (D:jd (λ f fd=>Mk K (cl "Story") f/\aN K fd ["self"] []) K "__init__" "Story.__init__" cZ) (_:mg "Story" = some (.ref (cl "Story"))) (_:eU K (cl "Story")) (_:ac K (cl "Story") "told") (_:ac K (cl "Story") "steps") (_:ac K (cl "Story") "end") (_:ac K (cl "Story") "brought") (_:ac K (cl "Story") "touches") (_:ac K (cl "Story") "puts") (_:ac K (cl "Story") "lines"):i5 P w K mg base cl:=
 fU (N:=["self"]) D rfl (by left) (by right) rfl rfl (by right)
theorem j7 (D:jd (λ f fd=>bg K (cl "Story") "begin_phase" f/\aN K fd ["self"] []) K "begin_phase" "Story.begin_phase" cn) (_:mg "Story" = some (.ref (cl "Story"))) (_:eU K (cl "Story")) (_:ac K (cl "Story") "told") (_:ac K (cl "Story") "steps") (_:ac K (cl "Story") "end") (_:ac K (cl "Story") "brought") (_:ac K (cl "Story") "touches") (_:ac K (cl "Story") "puts") (_:ac K (cl "Story") "lines"):gy P w K mg base cl:=
 fU (N:=["self"]) D rfl (by left) (by right) rfl rfl (by right)
theorem kK (D:jd (λ f fd=>bg K (cl "Story") "add_step" f/\aN K fd ["self", "line"] []) K "add_step" "Story.add_step" df) (_:mg "Story" = some (.ref (cl "Story"))) (_:eU K (cl "Story")) (_:ac K (cl "Story") "told") (_:ac K (cl "Story") "steps") (_:ac K (cl "Story") "end") (_:ac K (cl "Story") "brought") (_:ac K (cl "Story") "touches") (_:ac K (cl "Story") "puts") (_:ac K (cl "Story") "lines"):iA P w K mg base cl:=
 fU (N:=["self", "line"]) D rfl (by left) (by right) rfl rfl (by right)
theorem ky (D:jd (λ f fd=>bg K (cl "Story") "add_touch" f/\aN K fd ["self", "word", "place", "line"] []) K "add_touch" "Story.add_touch" cO) (_:mg "Story" = some (.ref (cl "Story"))) (_:eU K (cl "Story")) (_:ac K (cl "Story") "told") (_:ac K (cl "Story") "steps") (_:ac K (cl "Story") "end") (_:ac K (cl "Story") "brought") (_:ac K (cl "Story") "touches") (_:ac K (cl "Story") "puts") (_:ac K (cl "Story") "lines"):ie P w K mg base cl:=
 fU (N:=["self", "word", "place", "line"]) D rfl (by left) (by right) rfl rfl (by right)
theorem mV (D:jd (λ f fd=>bg K (cl "Story") "finish" f/\aN K fd ["self", "word", "line"] []) K "finish" "Story.finish" eJ) (_:mg "Story" = some (.ref (cl "Story"))) (_:eU K (cl "Story")) (_:ac K (cl "Story") "told") (_:ac K (cl "Story") "steps") (_:ac K (cl "Story") "end") (_:ac K (cl "Story") "brought") (_:ac K (cl "Story") "touches") (_:ac K (cl "Story") "puts") (_:ac K (cl "Story") "lines"):jp P w K mg base cl:=
 Lb (N:=["self", "word", "line"]) D rfl (by left) (by right) rfl rfl (by right)
theorem lN (D:jd (λ f fd=>Mk K (cl "Goer") f/\aN K fd ["self", "program", "lane", "lanes", "mine", "boxes", "most"] []) K "__init__" "Goer.__init__" dH) (_:lO P w K mg base) (h_Frame___init__:iG P w K mg base cl) (h_Story___init__:i5 P w K mg base cl) (h_Story_begin_phase:gy P w K mg base cl) (_:mg "Frame" = some (.ref (cl "Frame"))) (_:eU K (cl "Frame")) (_:ac K (cl "Frame") "names") (_:ac K (cl "Frame") "given") (_:ac K (cl "Frame") "walks") (_:ac K (cl "Frame") "loops") (_:mg "Goer" = some (.ref (cl "Goer"))) (_:eU K (cl "Goer")) (_:ac K (cl "Goer") "defs") (_:ac K (cl "Goer") "lane") (_:ac K (cl "Goer") "signs") (_:ac K (cl "Goer") "boxes") (_:ac K (cl "Goer") "most") (_:ac K (cl "Goer") "frames") (_:ac K (cl "Goer") "line") (_:ac K (cl "Goer") "meeting") (_:ac K (cl "Goer") "story") (_:mg "Story" = some (.ref (cl "Story"))) (_:eU K (cl "Story")) (_:ac K (cl "Story") "told") (_:ac K (cl "Story") "steps") (_:ac K (cl "Story") "end") (_:ac K (cl "Story") "brought") (_:ac K (cl "Story") "touches") (_:ac K (cl "Story") "puts") (_:ac K (cl "Story") "lines"):jb P w K mg base cl:=
 fU (N:=["self", "program", "lane", "lanes", "mine", "boxes", "most", "each"]) D rfl (by left) (by obtain ⟨_,_,⟨_,_⟩,_⟩:=h_Frame___init__;obtain ⟨_,_,⟨_,_⟩,_⟩:=h_Story___init__;obtain ⟨_,_,⟨_,_⟩,_⟩:=h_Story_begin_phase;right) rfl rfl (by right)
theorem p4 (D:jd (λ f fd=>bg K (cl "Goer") "touch" f/\aN K fd ["self", "word", "place"] []) K "touch" "Goer.touch" fP) (h_Story_add_touch:ie P w K mg base cl) (_:mg "Goer" = some (.ref (cl "Goer"))) (_:eU K (cl "Goer")) (_:ac K (cl "Goer") "defs") (_:ac K (cl "Goer") "lane") (_:ac K (cl "Goer") "signs") (_:ac K (cl "Goer") "boxes") (_:ac K (cl "Goer") "most") (_:ac K (cl "Goer") "frames") (_:ac K (cl "Goer") "line") (_:ac K (cl "Goer") "meeting") (_:ac K (cl "Goer") "story") (_:mg "Story" = some (.ref (cl "Story"))) (_:eU K (cl "Story")) (_:ac K (cl "Story") "told") (_:ac K (cl "Story") "steps") (_:ac K (cl "Story") "end") (_:ac K (cl "Story") "brought") (_:ac K (cl "Story") "touches") (_:ac K (cl "Story") "puts") (_:ac K (cl "Story") "lines") (_:mg "Outside" = some (.ref (cl "Outside"))) (_:XClE K (cl "Outside")) (_:mg "len" = none):lH P w K mg base cl:=
 wQ (N:=["self", "word", "place"]) D rfl (λ E=>⟨_,by left,by obtain ⟨_,_,⟨_,_⟩,_⟩:=h_Story_add_touch;right⟩) rfl rfl (by right)
theorem uc (D:jd (λ f fd=>bg K (cl "Goer") "got" f/\aN K fd ["self", "place"] []) K "got" "Goer.got" gH) (h_Goer_touch:lH P w K mg base cl) (_:mg "Goer" = some (.ref (cl "Goer"))) (_:eU K (cl "Goer")) (_:ac K (cl "Goer") "defs") (_:ac K (cl "Goer") "lane") (_:ac K (cl "Goer") "signs") (_:ac K (cl "Goer") "boxes") (_:ac K (cl "Goer") "most") (_:ac K (cl "Goer") "frames") (_:ac K (cl "Goer") "line") (_:ac K (cl "Goer") "meeting") (_:ac K (cl "Goer") "story"):nP P w K mg base cl:=
 wQ (N:=["self", "place"]) D rfl (λ E=>⟨_,by left,by obtain ⟨_,_,⟨_,_⟩,_⟩:=h_Goer_touch;right⟩) rfl rfl (by right)
theorem lZ (D:jd (λ f fd=>bg K (cl "Goer") "reckoned" f/\aN K fd ["self", "expression"] []) K "reckoned" "Goer.reckoned" dE) (h_Goer_got:nP P w K mg base cl) (_:tV P w K mg base) (_:mg "Frame" = some (.ref (cl "Frame"))) (_:eU K (cl "Frame")) (_:ac K (cl "Frame") "names") (_:ac K (cl "Frame") "given") (_:ac K (cl "Frame") "walks") (_:ac K (cl "Frame") "loops") (_:mg "Goer" = some (.ref (cl "Goer"))) (_:eU K (cl "Goer")) (_:ac K (cl "Goer") "defs") (_:ac K (cl "Goer") "lane") (_:ac K (cl "Goer") "signs") (_:ac K (cl "Goer") "boxes") (_:ac K (cl "Goer") "most") (_:ac K (cl "Goer") "frames") (_:ac K (cl "Goer") "line") (_:ac K (cl "Goer") "meeting") (_:ac K (cl "Goer") "story") (_:mg "Nought" = some (.ref (cl "Nought"))) (_:XClE K (cl "Nought")) {a_SIGNS:Addr} (m_SIGNS:mg "SIGNS" = some (.ref a_SIGNS)) (g_SIGNS:ET K a_SIGNS ([(Str.ofString "lane"),(Str.ofString "lanes"),(Str.ofString "mine")])):fm P w K mg base cl:=
 vy (k:=3) (F:=λ n=>uL K cl (aB n)) (GE D λ _ _=>rfl) (λ n hself=>wQ (N:=["self", "expression", "kind", "number"]) D rfl (λ E=>⟨_,by left,by obtain ⟨_,_,⟨_,_⟩,_⟩:=h_Goer_got;obtain ⟨_,_,⟨_,_⟩,_⟩:=hself;right⟩) rfl rfl (by right)) 9
theorem qX (D:jd (λ f fd=>bg K (cl "Goer") "give" f/\aN K fd ["self", "name", "number"] []) K "give" "Goer.give" gk) (_:mg "Frame" = some (.ref (cl "Frame"))) (_:eU K (cl "Frame")) (_:ac K (cl "Frame") "names") (_:ac K (cl "Frame") "given") (_:ac K (cl "Frame") "walks") (_:ac K (cl "Frame") "loops") (_:mg "Goer" = some (.ref (cl "Goer"))) (_:eU K (cl "Goer")) (_:ac K (cl "Goer") "defs") (_:ac K (cl "Goer") "lane") (_:ac K (cl "Goer") "signs") (_:ac K (cl "Goer") "boxes") (_:ac K (cl "Goer") "most") (_:ac K (cl "Goer") "frames") (_:ac K (cl "Goer") "line") (_:ac K (cl "Goer") "meeting") (_:ac K (cl "Goer") "story"):mP P w K mg base cl:=
 fU (N:=["self", "name", "number"]) D rfl (by left) (by right) rfl rfl (by right)
theorem lU (D:jd (λ f fd=>bg K (cl "Goer") "do_while" f/\aN K fd ["self", "statement"] []) K "do_while" "Goer.do_while" dG) (h_Goer_reckoned:fm P w K mg base cl) (h_Frame_enter_loop:gK P w K mg base cl) (h_Frame_pass_by:fj P w K mg base cl) (_:mg "Frame" = some (.ref (cl "Frame"))) (_:eU K (cl "Frame")) (_:ac K (cl "Frame") "names") (_:ac K (cl "Frame") "given") (_:ac K (cl "Frame") "walks") (_:ac K (cl "Frame") "loops") (_:mg "Goer" = some (.ref (cl "Goer"))) (_:eU K (cl "Goer")) (_:ac K (cl "Goer") "defs") (_:ac K (cl "Goer") "lane") (_:ac K (cl "Goer") "signs") (_:ac K (cl "Goer") "boxes") (_:ac K (cl "Goer") "most") (_:ac K (cl "Goer") "frames") (_:ac K (cl "Goer") "line") (_:ac K (cl "Goer") "meeting") (_:ac K (cl "Goer") "story"):je P w K mg base cl:=
 wQ (N:=["self", "statement", "frame"]) D rfl (λ E=>⟨_,by left,by obtain ⟨_,_,⟨_,_⟩,_⟩:=h_Goer_reckoned;obtain ⟨_,_,⟨_,_⟩,_⟩:=h_Frame_enter_loop;obtain ⟨_,_,⟨_,_⟩,_⟩:=h_Frame_pass_by;right⟩) rfl rfl (by right)
theorem p8 (D:jd (λ f fd=>bg K (cl "Goer") "do_if" f/\aN K fd ["self", "statement"] []) K "do_if" "Goer.do_if" fJ) (h_Goer_reckoned:fm P w K mg base cl) (h_Frame_enter:io P w K mg base cl) (_:mg "Frame" = some (.ref (cl "Frame"))) (_:eU K (cl "Frame")) (_:ac K (cl "Frame") "names") (_:ac K (cl "Frame") "given") (_:ac K (cl "Frame") "walks") (_:ac K (cl "Frame") "loops") (_:mg "Goer" = some (.ref (cl "Goer"))) (_:eU K (cl "Goer")) (_:ac K (cl "Goer") "defs") (_:ac K (cl "Goer") "lane") (_:ac K (cl "Goer") "signs") (_:ac K (cl "Goer") "boxes") (_:ac K (cl "Goer") "most") (_:ac K (cl "Goer") "frames") (_:ac K (cl "Goer") "line") (_:ac K (cl "Goer") "meeting") (_:ac K (cl "Goer") "story"):lK P w K mg base cl:=
 wQ (N:=["self", "statement", "body"]) D rfl (λ E=>⟨_,by left,by obtain ⟨_,_,⟨_,_⟩,_⟩:=h_Goer_reckoned;obtain ⟨_,_,⟨_,_⟩,_⟩:=h_Frame_enter;right⟩) rfl rfl (by right)
theorem pH (D:jd (λ f fd=>bg K (cl "Goer") "leave" f/\aN K fd ["self", "statement"] []) K "leave" "Goer.leave" fE) (h_Story_finish:js P w K mg base cl) (h_Frame_leave_body:gM P w K mg base cl) (h_Frame_pass_by:fj P w K mg base cl) (_:mg "Frame" = some (.ref (cl "Frame"))) (_:eU K (cl "Frame")) (_:ac K (cl "Frame") "names") (_:ac K (cl "Frame") "given") (_:ac K (cl "Frame") "walks") (_:ac K (cl "Frame") "loops") (_:mg "Goer" = some (.ref (cl "Goer"))) (_:eU K (cl "Goer")) (_:ac K (cl "Goer") "defs") (_:ac K (cl "Goer") "lane") (_:ac K (cl "Goer") "signs") (_:ac K (cl "Goer") "boxes") (_:ac K (cl "Goer") "most") (_:ac K (cl "Goer") "frames") (_:ac K (cl "Goer") "line") (_:ac K (cl "Goer") "meeting") (_:ac K (cl "Goer") "story") (_:mg "Story" = some (.ref (cl "Story"))) (_:eU K (cl "Story")) (_:ac K (cl "Story") "told") (_:ac K (cl "Story") "steps") (_:ac K (cl "Story") "end") (_:ac K (cl "Story") "brought") (_:ac K (cl "Story") "touches") (_:ac K (cl "Story") "puts") (_:ac K (cl "Story") "lines"):kU P w K mg base cl:=
 fU (N:=["self", "statement", "kind", "frame"]) D rfl (by left) (by obtain ⟨_,_,⟨_,_⟩,_⟩:=h_Story_finish;obtain ⟨_,_,⟨_,_⟩,_⟩:=h_Frame_leave_body;obtain ⟨_,_,⟨_,_⟩,_⟩:=h_Frame_pass_by;right) rfl rfl (by right)
theorem vp (D:jd (λ f fd=>bg K (cl "Goer") "do" f/\aN K fd ["self", "statement"] []) K "do" "Goer.do" iE) (h_Goer_do_while:je P w K mg base cl) (h_Frame_pass_by:fj P w K mg base cl) (h_Goer_give:mP P w K mg base cl) (h_Goer_reckoned:fm P w K mg base cl) (h_Goer_do_if:lK P w K mg base cl) (h_Goer_leave:kU P w K mg base cl) (_:mg "Frame" = some (.ref (cl "Frame"))) (_:eU K (cl "Frame")) (_:ac K (cl "Frame") "names") (_:ac K (cl "Frame") "given") (_:ac K (cl "Frame") "walks") (_:ac K (cl "Frame") "loops") (_:mg "Goer" = some (.ref (cl "Goer"))) (_:eU K (cl "Goer")) (_:ac K (cl "Goer") "defs") (_:ac K (cl "Goer") "lane") (_:ac K (cl "Goer") "signs") (_:ac K (cl "Goer") "boxes") (_:ac K (cl "Goer") "most") (_:ac K (cl "Goer") "frames") (_:ac K (cl "Goer") "line") (_:ac K (cl "Goer") "meeting") (_:ac K (cl "Goer") "story") (_:mg "Story" = some (.ref (cl "Story"))) (_:eU K (cl "Story")) (_:ac K (cl "Story") "told") (_:ac K (cl "Story") "steps") (_:ac K (cl "Story") "end") (_:ac K (cl "Story") "brought") (_:ac K (cl "Story") "touches") (_:ac K (cl "Story") "puts") (_:ac K (cl "Story") "lines"):pV P w K mg base cl:=
 wQ (N:=["self", "statement", "kind"]) D rfl (λ E=>⟨_,by left,by obtain ⟨_,_,⟨_,_⟩,_⟩:=h_Goer_do_while;obtain ⟨_,_,⟨_,_⟩,_⟩:=h_Frame_pass_by;obtain ⟨_,_,⟨_,_⟩,_⟩:=h_Goer_give;obtain ⟨_,_,⟨_,_⟩,_⟩:=h_Goer_reckoned;obtain ⟨_,_,⟨_,_⟩,_⟩:=h_Goer_do_if;obtain ⟨_,_,⟨_,_⟩,_⟩:=h_Goer_leave;right⟩) rfl rfl (by right)
theorem su (D:jd (λ f fd=>bg K (cl "Goer") "step" f/\aN K fd ["self", "statement"] []) K "step" "Goer.step" gq) (h_Story_add_step:iA P w K mg base cl) (h_Goer_do:pV P w K mg base cl) (_:mg "Goer" = some (.ref (cl "Goer"))) (_:eU K (cl "Goer")) (_:ac K (cl "Goer") "defs") (_:ac K (cl "Goer") "lane") (_:ac K (cl "Goer") "signs") (_:ac K (cl "Goer") "boxes") (_:ac K (cl "Goer") "most") (_:ac K (cl "Goer") "frames") (_:ac K (cl "Goer") "line") (_:ac K (cl "Goer") "meeting") (_:ac K (cl "Goer") "story") (_:mg "Story" = some (.ref (cl "Story"))) (_:eU K (cl "Story")) (_:ac K (cl "Story") "told") (_:ac K (cl "Story") "steps") (_:ac K (cl "Story") "end") (_:ac K (cl "Story") "brought") (_:ac K (cl "Story") "touches") (_:ac K (cl "Story") "puts") (_:ac K (cl "Story") "lines") (_:mg "Nought" = some (.ref (cl "Nought"))) (_:mg "Outside" = some (.ref (cl "Outside"))) (_:Gd K (cl "Nought") (cl "Outside")) (hn_Story_finish:jp P w K mg base cl):mz P w K mg base cl:=
 fU (N:=["self", "statement"]) D rfl (by left) (by obtain ⟨_,_,⟨_,_⟩,_⟩:=h_Story_add_step;obtain ⟨_,_,⟨_,_⟩,_⟩:=h_Goer_do;obtain ⟨_,_,⟨_,_⟩,hF⟩:=hn_Story_finish;have:=hF.all;right) rfl rfl (by right)
theorem nk (D:jd (λ f fd=>bg K (cl "Goer") "end_def" f/\aN K fd ["self"] []) K "end_def" "Goer.end_def" eG) (h_Story_finish:js P w K mg base cl) (_:mg "Goer" = some (.ref (cl "Goer"))) (_:eU K (cl "Goer")) (_:ac K (cl "Goer") "defs") (_:ac K (cl "Goer") "lane") (_:ac K (cl "Goer") "signs") (_:ac K (cl "Goer") "boxes") (_:ac K (cl "Goer") "most") (_:ac K (cl "Goer") "frames") (_:ac K (cl "Goer") "line") (_:ac K (cl "Goer") "meeting") (_:ac K (cl "Goer") "story") (_:mg "Story" = some (.ref (cl "Story"))) (_:eU K (cl "Story")) (_:ac K (cl "Story") "told") (_:ac K (cl "Story") "steps") (_:ac K (cl "Story") "end") (_:ac K (cl "Story") "brought") (_:ac K (cl "Story") "touches") (_:ac K (cl "Story") "puts") (_:ac K (cl "Story") "lines") (_:mg "len" = none):jq P w K mg base cl:=
 fU (N:=["self"]) D rfl (by left) (by obtain ⟨_,_,⟨_,_⟩,_⟩:=h_Story_finish;right) rfl rfl (by right)
theorem uJ (D:jd (λ f fd=>bg K (cl "Goer") "go" f/\aN K fd ["self"] []) K "go" "Goer.go" iI) (h_Frame_statement:hZ P w K mg base cl) (h_Goer_end_def:jq P w K mg base cl) (h_Goer_step:mz P w K mg base cl) (_:mg "Frame" = some (.ref (cl "Frame"))) (_:eU K (cl "Frame")) (_:ac K (cl "Frame") "names") (_:ac K (cl "Frame") "given") (_:ac K (cl "Frame") "walks") (_:ac K (cl "Frame") "loops") (_:mg "Goer" = some (.ref (cl "Goer"))) (_:eU K (cl "Goer")) (_:ac K (cl "Goer") "defs") (_:ac K (cl "Goer") "lane") (_:ac K (cl "Goer") "signs") (_:ac K (cl "Goer") "boxes") (_:ac K (cl "Goer") "most") (_:ac K (cl "Goer") "frames") (_:ac K (cl "Goer") "line") (_:ac K (cl "Goer") "meeting") (_:ac K (cl "Goer") "story") (_:mg "Story" = some (.ref (cl "Story"))) (_:eU K (cl "Story")) (_:ac K (cl "Story") "told") (_:ac K (cl "Story") "steps") (_:ac K (cl "Story") "end") (_:ac K (cl "Story") "brought") (_:ac K (cl "Story") "touches") (_:ac K (cl "Story") "puts") (_:ac K (cl "Story") "lines"):qr P w K mg base cl:=
 fU (N:=["self", "statement"]) D rfl (by left) (by obtain ⟨_,_,⟨_,_⟩,_⟩:=h_Frame_statement;obtain ⟨_,_,⟨_,_⟩,_⟩:=h_Goer_end_def;obtain ⟨_,_,⟨_,_⟩,_⟩:=h_Goer_step;right) rfl rfl (by right)
theorem yt (D:rH K mg "alone" ["program", "lane", "lanes", "mine", "boxes", "most", "letters"] [] ww) (h_Goer___init__:jb P w K mg base cl) (h_Goer_go:qr P w K mg base cl) (_:mg "Goer" = some (.ref (cl "Goer"))) (_:eU K (cl "Goer")) (_:ac K (cl "Goer") "defs") (_:ac K (cl "Goer") "lane") (_:ac K (cl "Goer") "signs") (_:ac K (cl "Goer") "boxes") (_:ac K (cl "Goer") "most") (_:ac K (cl "Goer") "frames") (_:ac K (cl "Goer") "line") (_:ac K (cl "Goer") "meeting") (_:ac K (cl "Goer") "story"):vV P w K mg base cl:=
 fU (N:=["program", "lane", "lanes", "mine", "boxes", "most", "letters", "goer", "letter"]) D rfl (by left) (by obtain ⟨_,_,⟨_,_⟩,_⟩:=h_Goer___init__;obtain ⟨_,_,⟨_,_⟩,_⟩:=h_Goer_go;right) rfl rfl (by right)
theorem rC (D:rH K mg "_law_cell" ["_law_script", "_law_k"] [] mO) (_:mg "len" = none):mU P w K mg base:=
 nR (N:=["_law_script", "_law_k"]) D rfl (λ ρ=>by left) (by right) rfl rfl (by right)
theorem pz (D:rH K mg "_law_mixed" ["_law_cell_here", "_law_k"] [] kX):iX P w K mg base:=
 nR (N:=["_law_cell_here", "_law_k", "_law_number_here"]) D rfl (λ ρ=>by left) (by right) rfl rfl (by right)
theorem kY (D:rH K mg "_law_all_whole" ["_law_row"] [] iD) (_:mg "len" = none) (_:mg "isinstance" = none) (_:mg "bool" = none) (_:mg "int" = none):i8 P w K mg base cl:=
 fU (N:=["_law_row"]) D rfl (by left) (by right) rfl rfl (by right)
theorem kj (D:rH K mg "_law_into_range" ["_law_number_here"] [] ij):ib P w K mg base:=
 nR (N:=["_law_number_here"]) D rfl (λ ρ=>by left) (by right) rfl rfl (by right)
theorem p6 (D:rH K mg "_law_names" ["_law_cell_here"] [] lu):kI P w K mg base:=
 nR (N:=["_law_cell_here", "_law_size", "_law_at", "_law_letters", "_law_front", "_law_back"]) D rfl (λ ρ=>by left) (by right) rfl rfl (by right)
theorem rN (D:rH K mg "_law_test" ["_law_number_here", "_law_names_here"] [] mJ):m8 P w K mg base:=
 nR (N:=["_law_number_here", "_law_names_here", "_law_name", "_law_more", "_law_way"]) D rfl (λ ρ=>by left) (by right) rfl rfl (by right)
theorem t9 (D:rH K mg "_law_sum" ["_law_number_here", "_law_names_here"] [] nM):oZ P w K mg base:=
 nR (N:=["_law_number_here", "_law_names_here", "_law_name", "_law_more", "_law_way"]) D rfl (λ ρ=>by left) (by right) rfl rfl (by right)
theorem rK (D:rH K mg "_law_line" ["_law_kind", "_law_number_here", "_law_pile", "_law_names_here"] [] mD) (_:oZ P w K mg base) (_:m8 P w K mg base) (_:mg "len" = none):m9 P w K mg base cl:=
 fU (N:=["_law_kind", "_law_number_here", "_law_pile", "_law_names_here"]) D rfl (by left) (by right) rfl rfl (by right)
theorem rB (D:rH K mg "_law_rows" ["_law_cells", "_law_names_here"] [] mK) (_:iX P w K mg base) (_:m9 P w K mg base cl) (_:mg "len" = none):mM P w K mg base:=
 Ce.imp (sp:=hV K cl my) (fU (N:=["_law_cells", "_law_names_here", "_law_rows_here", "_law_pile", "_law_cell_here", "_law_kind"]) D rfl (by left) (by right) rfl rfl (by right)) λ _ _ _ _ h=>ze h
theorem pw (D:rH K mg "_law_block" ["_law_rows_here", "_law_at"] [] lf):lA P w K mg base:=
 uG (k:=0) (F:=λ n=>oy K (bD n)) (Ix D λ _=>rfl) (λ n _=>nR (N:=["_law_rows_here", "_law_at", "_law_body", "_law_row", "_law_line_here", "_law_yes", "_law_no", "_law_inner"]) D rfl (λ ρ=>by left) (by right) rfl rfl (by right)) 9
theorem mj {cl:Str->Addr} (D:rH K mg "_law_partners" ["_law_rows_here"] [] jc) (_:mg "len" = none) (_:mg "enumerate" = none):jf P w K mg base:=
 Ce.imp (sp:=hV K cl jj) (fU (N:=["_law_rows_here", "_law_partners_here", "_law_pile", "_law_k", "_law_row"]) D rfl (by left) (by right) rfl rfl (by right)) λ _ _ _ _ h=>ze h
theorem nS (D:rH K mg "_law_number" ["_law_told", "_law_names_here"] [] jX) (_:ib P w K mg base) (_:mg "int" = none):iu P w K mg base cl:=
 uG (k:=1) (F:=λ n=>hV K cl (aQ n)) (FH D λ _ _=>rfl) (λ n _=>fU (N:=["_law_told", "_law_names_here", "_law_one", "_law_other"]) D rfl (by left) (by right) rfl rfl (by right)) 3
theorem oS (D:rH K mg "_law_onward" ["_law_rows_here", "_law_partners_here", "_law_at"] [] kd):ke P w K mg base:=
 nR (N:=["_law_rows_here", "_law_partners_here", "_law_at"]) D rfl (λ ρ=>by left) (by right) rfl rfl (by right)
theorem si (D:rH K mg "_law_next" ["_law_rows_here", "_law_partners_here", "_law_at", "_law_names_here", "_law_told"] [] mI) (_:iu P w K mg base cl):mH P w K mg base cl:=
 fU (N:=["_law_rows_here", "_law_partners_here", "_law_at", "_law_names_here", "_law_told", "_law_row"]) D rfl (by left) (by right) rfl rfl (by right)
theorem p9 (D:rH K mg "_law_holds" ["_law_story", "_law_rows_here", "_law_partners_here", "_law_most"] [] kH) (_:ke P w K mg base) (_:i8 P w K mg base cl) (_:iu P w K mg base cl) (_:mH P w K mg base cl) (_:mg "Story" = some (.ref (cl "Story"))) (_:eU K (cl "Story")) (_:ac K (cl "Story") "told") (_:ac K (cl "Story") "steps") (_:ac K (cl "Story") "end") (_:ac K (cl "Story") "brought") (_:ac K (cl "Story") "touches") (_:ac K (cl "Story") "puts") (_:ac K (cl "Story") "lines") (_:mg "isinstance" = none) (_:mg "list" = none) (_:mg "len" = none):lr P w K mg base cl:=
 fU (N:=["_law_story", "_law_rows_here", "_law_partners_here", "_law_most", "_law_names_here", "_law_told", "_law_at", "_law_end", "_law_line_here"]) D rfl (by left) (by right) rfl rfl (by right)
theorem F3 {R:Addr->FuncData->Prop} (hlaw:∀ ns:List Int,ns.length<=63->∃ S,yM [.list (ns.map .int)] []=some (.ok (.bool true),S)) (D:jd R K "law" "law" tZ) (_:kI P w K mg base) (_:iX P w K mg base) (_:mU P w K mg base) (_:mM P w K mg base) (_:lA P w K mg base) (_:vV P w K mg base cl) (_:lr P w K mg base cl) (_:jf P w K mg base) (_:mg "len" = none) (_:mg "repr" = none):Ce R P w K mg base 18 ["_law_script"] (rD K):=
 Ce.imp (sp:=hV K cl yM) (fU (N:=["_law_script", "_law_names_here", "_law_lanes", "_law_most", "_law_rows_here", "_law_body", "_law_program", "_law_kept", "_law_story"]) D rfl (by left) (by right) rfl rfl (by right)) λ vs H Q E h=>by
  obtain ⟨a,ns,rfl,hS,h63,q⟩:=h;obtain ⟨Sf,hl⟩:=hlaw ns h63;exact ⟨[],H,[],[.list (ns.map .int)],.bool true,Sf,.refl _,yY,.cons (.lst hS (.ints ns)) .nil,hl,λ v ρ' G' H' g s dv=>by cases dv;exact q H'⟩
end
inductive Tr where
 | num (v:Int) | sig (k:Fin 3) | nam (x:Str) | box (t:Tr) | op (k:Fin 7) (a b:Tr)
noncomputable def DC (i:Fin 3):Str:=[Str.ofString "lane", Str.ofString "lanes", Str.ofString "mine"].getD i.1 ""
noncomputable def jt (i:Fin 7):Str:=[Str.ofString "+", Str.ofString "-", Str.ofString "*", Str.ofString "div", Str.ofString "rem", Str.ofString "<", Str.ofString "="].getD i.1 ""
noncomputable def tw:Tr->W
 | .num v=>.tuple [.str "num", .int v]
 | .sig k=>.tuple [.str (DC k)]
 | .nam x=>.tuple [.str "name", .str x]
 | .box t=>.tuple [.str "box", tw t]
 | .op k a b=>.tuple [.str (jt k),tw a,tw b]
noncomputable def jl:Tr->Nat
 | .num _=>0 | .sig _=>0 | .nam _=>0
 | .box t=>jl t+1
 | .op _ a b=>max (jl a) (jl b)+1
theorem NK:∀ k,decide (DC k=Str.ofString "num")=false:=by decide +kernel
theorem Oa:∀ k,decide (DC k=Str.ofString "name")=false:=by decide +kernel
theorem NI:∀ k,pi (.str (DC k)) (.tuple [.str "lane", .str "lanes", .str "mine"])=some true:=by decide +kernel
theorem MH:∀ k,decide (jt k=Str.ofString "num")=false:=by decide +kernel
theorem Mz:∀ k,decide (jt k=Str.ofString "name")=false:=by decide +kernel
theorem NR:∀ k,decide (jt k=Str.ofString "box")=false:=by decide +kernel
theorem Nj:∀ k,pi (.str (jt k)) (.tuple [.str "lane", .str "lanes", .str "mine"])=some false:=by decide +kernel
theorem MV:decide (Str.ofString "name" = Str.ofString "num")=false:=by decide +kernel
theorem N5:decide (Str.ofString "box" = Str.ofString "num")=false:=by decide +kernel
theorem NE:decide (Str.ofString "box" = Str.ofString "name")=false:=by decide +kernel
theorem NM:pi (.str "box") (.tuple [.str "lane", .str "lanes", .str "mine"])=some false:=by decide +kernel
theorem tF {f:DS->Option W} {δ:DS} {a b:Str} (h1:f δ=some (.str a)) (h2:decide (a=b)=false):aw bh f (dC (.str b)) δ=some false:=by simp! [uD,h1,h2]
theorem tT {f:DS->Option W} {δ:DS} {a:Str} (h1:f δ=some (.str a)):aw bh f (dC (.str a)) δ=some true:=by simp! [uD,h1]
theorem sF {f:DS->Option W} {δ:DS} {a b:Str} {S:ah} (h1:f δ=some (.str a)) (h2:decide (a=b)=false):aa (aw bh f (dC (.str b))) δ S=some (.ok false,S):=av (tF h1 h2)
theorem sT {f:DS->Option W} {δ:DS} {a:Str} {S:ah} (h1:f δ=some (.str a)):aa (aw bh f (dC (.str a))) δ S=some (.ok true,S):=av (tT h1)
theorem x0 {f:DS->Option W} {δ:DS} {w:W} {l:List W} (h:f δ=some (.tuple (w::l))):aA aH f (!0) δ=some w:=by simp only [aA,h,dC,Oj,pU,Kr]
theorem x1 {f:DS->Option W} {δ:DS} {v w:W} {l:List W} (h:f δ=some (.tuple (v::w::l))):aA aH f (!1) δ=some w:=by simp only [aA,h,dC,Oj,pU,K7]
theorem x2 {f:DS->Option W} {δ:DS} {u v w:W} {l:List W} (h:f δ=some (.tuple (u::v::w::l))):aA aH f (!2) δ=some w:=by simp only [aA,h,dC,Oj,pU,Mw]
theorem x3 {f:DS->Option W} {δ:DS} {t u v w:W} {l:List W} (h:f δ=some (.tuple (t::u::v::w::l))):aA aH f (!3) δ=some w:=by simp only [aA,h,dC,Oj,pU,NW]
theorem x4 {f:DS->Option W} {δ:DS} {s t u v w:W} {l:List W} (h:f δ=some (.tuple (s::t::u::v::w::l))):aA aH f (!4) δ=some w:=by simp only [aA,h,dC,Oj,pU,MG]
theorem eK {f g:DS->Option dR} {δ:DS} {d:W} (h:f δ=some (.rt d)):aX f g δ=some (.rt d):=by unfold aX;rw [h]
theorem iT {f:DS->Option W} {δ:DS} {a:Str} {d:W} {g k:DS->Option dR} (h1:f δ=some (.str a)) (h2:g δ=some (.rt d)):aX (bO (aw bh f (dC (.str a))) g az) k δ=some (.rt d):=eK (aE (b:=true) (tT h1) h2)
theorem pF {f:DS->Option W} {δ:DS} {a b:Str} {S:ah} {g:DS->Option dR} {k:DS->ah->SO} (h1:f δ=some (.str a)) (h2:decide (a=b)=false):au (aq (bO (aw bh f (dC (.str b))) g az)) k δ S=k δ S:=ag (aG (aE (b:=false) (tF h1 h2) rfl))
theorem cF {f:DS->Option W} {δ:DS} {a b:Str} {S:ah} {g k:DS->ah->SO} (h1:f δ=some (.str a)) (h2:decide (a=b)=false):au (bj (aa (aw bh f (dC (.str b)))) g (aq az)) k δ S=k δ S:=ag ((bF (sF h1 h2)).trans rfl)
theorem fF {f:DS->Option W} {δ:DS} {a b:Str} {S:ah} {g k:DS->ah->SO} (h1:f δ=some (.str a)) (h2:decide (a=b)=false):bj (aa (aw bh f (dC (.str b)))) g k δ S=k δ S:=bF (sF h1 h2)
theorem fT {f:DS->Option W} {δ:DS} {a:Str} {S:ah} {g k:DS->ah->SO} (h1:f δ=some (.str a)):bj (aa (aw bh f (dC (.str a)))) g k δ S=g δ S:=cT (sT h1)
theorem fL {f:DS->Option W} {g:DS->Option (List W)} {δ:DS} {a:W} {l:List W} (h1:f δ=some a) (h2:g δ=some l):af f g δ=some (a::l):=by simp only [af,h1,h2,Oj,Ot]
theorem Hu {g:DS->Option (List W)} {δ:DS} {l:List W} (h:g δ=some l) (hl:l.length<=9000):bv g δ=some (.tuple l):=by
 have z:=sz _ hl;simp only [bv,h,Oj,Oo z]
theorem Hq {f:DS->Option W} {δ:DS} {a:W} (h:f δ=some a):bv #[f] δ=some (.tuple [a]):=Hu (fL h rfl) (by simp)
theorem pJ {f g:DS->Option W} {δ:DS} {a b:W} (h:f δ=some a) (h':g δ=some b):bv #[f,g] δ=some (.tuple [a,b]):=Hu (fL h (fL h' rfl)) (by simp)
theorem A9 {f g k:DS->Option W} {δ:DS} {a b c:W} (h:f δ=some a) (h':g δ=some b) (h2:k δ=some c):bv #[f,g,k] δ=some (.tuple [a,b,c]):=Hu (fL h (fL h' (fL h2 rfl))) (by simp)
theorem NS {f g k m:DS->Option W} {δ:DS} {a b c d:W} (h:f δ=some a) (h':g δ=some b) (h2:k δ=some c) (h3:m δ=some d):bv #[f,g,k,m] δ=some (.tuple [a,b,c,d]):=Hu (fL h (fL h' (fL h2 (fL h3 rfl)))) (by simp)
theorem wy {f g:DS->Option W} {δ:DS} {l:List W} {i:Int} {x:W} (h1:f δ=some (.list l)) (h2:g δ=some (.int i)) (h3:jg l i=some x):aA aH f g δ=some x:=by simp only [aA,h1,h2,Oj,DD,h3]
theorem mZ {f:List W->Option W} {fa:DS->Option (List W)} {δ:DS} {ds:List W} {d:W} (h1:fa δ=some ds) (h2:f ds=some d):bc f fa δ=some d:=by simp only [bc,h1,Oj,h2]
theorem AR {c:W->W->Option Bool} {f g:DS->Option W} {δ:DS} {a b:W} {r:Bool} (h1:f δ=some a) (h2:g δ=some b) (h3:c a b=some r):aw c f g δ=some r:=by simp only [aw,h1,h2,Oj,h3]
theorem dO {c:W->W->Option W} {f g:DS->Option W} {δ:DS} {a b r:W} (h1:f δ=some a) (h2:g δ=some b) (h3:c a b=some r):aA c f g δ=some r:=by simp only [aA,h1,h2,Oj,h3]
theorem dA {f g:DS->Option Bool} {δ:DS} {r:Bool} (h1:f δ=some true) (h2:g δ=some r):kC f g δ=some r:=by simp! [uD,h1,h2]
theorem JI {f g:DS->Option Bool} {δ:DS} (h1:f δ=some false):kC f g δ=some false:=by simp! [uD,h1]
theorem LN {i:Nat} {f:DS->Option W} {δ:DS} {ds:List W} {d:W} (h1:qw i δ=some ds) (h2:f δ=some d) (h3:ds.length<9000):gJ i f δ=some (.nx (δ.set i (.own (ds++[d])))):=by
 have z:=OC h3 (sz 9000 (Ol _));simp only [gJ,h1,h2,Oj,Oo z]
theorem tD {f:DS->Option W} {δ:DS} {a b:Str} (h1:f δ=some (.str a)):aw bh f (dC (.str b)) δ=some (decide (a=b)):=by simp! [uD,h1]
noncomputable def wr (n:Int):Int:=(n+2147483648).fmod 4294967296-2147483648
noncomputable abbrev Rg (n:Int):Prop := -2147483648<=n/\n<=2147483647
theorem CY (n:Int):Rg (wr n):=by
 have h:=bN (n+2147483648) (j:=4294967296) (by decide);unfold wr;constructor <;> omega
theorem DZ {n:Int} (h:Rg n):wr n=n:=by
 unfold wr;rw [Int.fmod_eq_emod_of_nonneg _ (by decide),Int.emod_eq_of_lt (by omega) (by omega)];omega
theorem jD (n:Int):dQ [.int n]=some (.int (wr n)):=by
 refine bK rfl (aJ ?_);have e:n - -2147483648=n+2147483648:=by omega
 have m:=cf (n+2147483648) (j:=4294967296) (by decide);simp! [uD,e,m];rfl
theorem nO (n:Int):cJ [.int n]=some (.int (wr n)):=by
 refine bK rfl (aJ ?_);have m:=cf (n+2147483648) (j:=4294967296) (by decide);simp! [uD,m];rfl
noncomputable def unw (k:Fin 7) (a b:Int):Int:=if k=0 then a+b else if k=1 then a-b else if k=2 then a*b else if k=3 then a.fdiv b else if k=4 then a-b*a.fdiv b else if k=5 then (if a<b then 1 else 0) else (if a=b then 1 else 0)
noncomputable def wk (k:Fin 7) (a b:Int):Option Int:=if (k=3∨k=4)/\b=0 then none else some (wr (unw k a b))
theorem oq:∀ k:Fin 7,(decide (jt k=Str.ofString "+")=decide (k=0)/\decide (jt k=Str.ofString "-")=decide (k=1)/\decide (jt k=Str.ofString "*")=decide (k=2)/\decide (jt k=Str.ofString "div")=decide (k=3)/\decide (jt k=Str.ofString "rem")=decide (k=4)/\decide (jt k=Str.ofString "<")=decide (k=5)):=by decide +kernel
theorem oi:∀ k:Fin 7,pi (.str (jt k)) (.tuple [.str "div", .str "rem"])=some (decide (k=3∨k=4)):=by decide +kernel
theorem om {a b:Int} (ha:Rg a):mE a b=true:=nJ (by have:=ha.1;omega) (by have:=ha.2;omega)
theorem od {a b:Int} (hb:Rg b) (h0:b≠0):oj a b=true:=by
 have:b.natAbs<2^200:=OC (show b.natAbs<2^32 by omega) (Nat.pow_le_pow_right (by decide) (by decide));simp [oj,h0,this]
theorem AA (a:Int) {b:Int} (h:b<0):b<a.fmod b/\a.fmod b<=0:=by
 have e:=@Int.fmod_eq_emod a b;have h1:=Int.emod_nonneg a (show b≠0 by omega);have h2:a%b < -b:=by
  have:=Int.emod_lt_of_pos a (b := -b) (by omega)
  rwa [Int.emod_neg] at this
 rw [e];split
 . rename_i hd;rcases hd with hd | hd
   . omega
   . have:=Int.emod_eq_zero_of_dvd hd;omega
 . rename_i hd;have:a%b≠0:=λ z=>hd (.inr (Int.dvd_of_emod_eq_zero z));omega
theorem JN {a b:Int} (ha:Rg a) (hb:Rg b) (h0:b≠0) : -(2^64)<a.fdiv b/\a.fdiv b<2^64:=by
 have e:=Int.mul_fdiv_add_fmod a b;have q1:0<b->0<=a.fmod b/\a.fmod b<b:=λ h=>bN a h;have q2:b<0->b<a.fmod b/\a.fmod b<=0:=λ h=>AA a h;generalize a.fdiv b=d at e ⊢;generalize a.fmod b=r at e q1 q2;rcases Int.lt_or_gt_of_ne h0 with h | h
 . obtain ⟨h1,h2⟩:=q2 h;constructor
   . refine not_le.mp λ hd=>?_;have:b*d ≥ (-1)*(-(2^64)):=by
      have h3:(-b)*(-d) ≥ 1*(2^64):=mul_le_mul (by omega) (by omega) (by decide) (by omega);have:(-b)*(-d)=b*d:=by simp [Int.neg_mul_neg]
      omega
     omega
   . refine not_le.mp λ hd=>?_;have h3:(-b)*d ≥ 1*(2^64):=mul_le_mul (by omega) (by omega) (by decide) (by omega);have:(-b)*d = -(b*d):=by rw [Int.neg_mul]
     omega
 . obtain ⟨h1,h2⟩:=q1 h;constructor
   . refine not_le.mp λ hd=>?_;have h3:b*(-d) ≥ 1*(2^64):=mul_le_mul (by omega) (by omega) (by decide) (by omega);have:b*(-d) = -(b*d):=by rw [Int.mul_neg]
     omega
   . refine not_le.mp λ hd=>?_;have h3:b*d ≥ 1*(2^64):=mul_le_mul (by omega) (by omega) (by decide) (by omega);omega
theorem FS {a b:Int}:a-b*a.fdiv b=a.fmod b:=by have:=Int.mul_fdiv_add_fmod a b;omega
theorem FV {a b:Int} (hb:Rg b) (h0:b≠0):Rg (a.fmod b):=by
 rcases Int.lt_or_gt_of_ne h0 with h | h
 . have:=AA a h;omega
 . have:=bN a h;omega
theorem Bh (k:Fin 7) {a b:Int} (ha:Rg a) (hb:Rg b) (h0:¬ ((k=3∨k=4)/\b=0)):jv [.str (jt k),.int a,.int b]=some (.int (unw k a b)):=by
 obtain ⟨q0,q1,q2,q3,q4,q5⟩:=oq k;have z0:∀ {δ:DS} {w:Str},ax 0 δ=some (.str (jt k))->aw bh (ax 0) (dC (.str w)) δ=some (decide (jt k=w)):=λ h=>tD h;let δ:DS:=[.val (.str (jt k)),.val (.int a),.val (.int b)]
 refine bK rfl ?_;by_cases e0:k=0
 . subst e0;exact eK (aE (b:=true) (by rw [z0 rfl,q0];rfl) (aJ rfl))
 refine aI (δ1:=δ) (aE (b:=false) (by rw [z0 rfl,q0,Oi e0]) rfl) ?_;by_cases e1:k=1
 . subst e1;exact eK (aE (b:=true) (by rw [z0 rfl,q1];rfl) (aJ rfl))
 refine aI (δ1:=δ) (aE (b:=false) (by rw [z0 rfl,q1,Oi e1]) rfl) ?_;by_cases e2:k=2
 . subst e2;exact eK (aE (b:=true) (by rw [z0 rfl,q2];rfl) (aJ (dO rfl rfl (kg (om ha)))))
 refine aI (δ1:=δ) (aE (b:=false) (by rw [z0 rfl,q2,Oi e2]) rfl) ?_;by_cases e3:k=3
 . subst e3;have hb0:b≠0:=λ z=>h0 ⟨.inl rfl,z⟩;exact eK (aE (b:=true) (by rw [z0 rfl,q3];rfl) (aJ (dO rfl rfl (uF (od hb hb0)))))
 refine aI (δ1:=δ) (aE (b:=false) (by rw [z0 rfl,q3,Oi e3]) rfl) ?_;by_cases e4:k=4
 . subst e4;have hb0:b≠0:=λ z=>h0 ⟨.inr rfl,z⟩;have f:=JN ha hb hb0;exact eK (aE (b:=true) (by rw [z0 rfl,q4];rfl) (aJ (dO (b:=.int (b*a.fdiv b)) rfl (dO rfl (dO rfl rfl (uF (od hb hb0))) (kg (vS f.1 f.2))) rfl)))
 refine aI (δ1:=δ) (aE (b:=false) (by rw [z0 rfl,q4,Oi e4]) rfl) ?_;by_cases e5:k=5
 . subst e5;refine eK (aE (b:=true) (by rw [z0 rfl,q5];rfl) (aJ ?_));show Hv (aw p7 (ax 1) (ax 2)) (!1) (!0) δ=_;simp! [δ,uD];by_cases h:a<b <;> simp [h,unw]
 refine aI (δ1:=δ) (aE (b:=false) (by rw [z0 rfl,q5,Oi e5]) rfl) (aJ ?_);show Hv (aw bh (ax 1) (ax 2)) (!1) (!0) δ=_;simp! [δ,uD];by_cases h:a=b <;> simp [h,unw,e0,e1,e2,e3,e4,e5]
noncomputable def oI:Option Int->W
 | some v=>.int v
 | none=>.none
theorem ut (k:Fin 7) {a b:Int} (ha:Rg a) (hb:Rg b):jC [.str (jt k),.int a,.int b]=some (oI (wk k a b)):=by
 have z2:=sz 2 (by decide);refine bK rfl ?_;have t1:aw pi (ax 0) (bv #[!"div",!"rem"]) [.val (.str (jt k)),.val (.int a),.val (.int b)]=some (decide (k=3∨k=4)):=AR rfl (pJ rfl rfl) (oi k);have t2:aw bh (ax 2) (!0) [.val (.str (jt k)),.val (.int a),.val (.int b)]=some (decide (b=0)):=rfl;by_cases h:(k=3∨k=4)/\b=0
 . rw [Op h.1] at t1;rw [Op h.2] at t2;refine eK (aE (b:=true) (dA t1 t2) ?_);rw [show wk k a b=none from Oo h];exact aJ rfl
 . have c:kC (aw pi (ax 0) (bv #[!"div",!"rem"])) (aw bh (ax 2) !0) [.val (.str (jt k)),.val (.int a),.val (.int b)]=some false:=by
    by_cases h1:k=3∨k=4
    . rw [Op h1] at t1;rw [Oi (λ z=>h ⟨h1,z⟩)] at t2;exact dA t1 t2
    . rw [Oi h1] at t1;exact JI t1
   refine aI (aE (b:=false) c rfl) ?_;rw [show wk k a b=some (wr (unw k a b)) from Oq h];exact aJ (mZ (ds:=[.int (unw k a b)]) (fL (mZ rfl (Bh k ha hb h)) rfl) (jD _))
section
variable {c f m:Str} {fo fi fv fk fx:DS->ah->SM W} {fa:DS->ah->SM (List W)} {δ:DS} {S S1 S2 S3:ah} {n l:Nat} {fs:List (Str×W)} {d y:W} {es q ds:List W} {i:Int}
theorem gQ (h:S[n]?=some (.ins c fs)):ja c (.ref n) S=some (n,fs):=by simp [ja,kB,h]
theorem bz (h1:fo δ S=some (.ok (.ref n),S1)) (h2:S1[n]?=some (.ins c fs)) (h3:fs.lookup f=some d):al c f fo δ S=some (.ok d,S1):=by simp only [al,ak,h1,gQ h2,Oj,jm,h3,Ot]
theorem dU {g:List W->ah->SM W} (h1:fo δ S=some (.ok (.ref n),S1)) (h2:S1[n]?=some (.ins c fs)) (h3:fs.lookup m=none) (h4:fa δ S1=some (.ok ds,S2)) (h5:g (.ref n::ds) S2=some (.ok d,S3)):bH c m g fo fa δ S=some (.ok d,S3):=by
 simp only [bH,ak,h1,gQ h2,Oj,h3,OS,h4,h5,noX]
theorem jh {g:List W->ah->SM W} {r:SM W} (h1:fo δ S=some (.ok (.ref n),S1)) (h2:S1[n]?=some (.ins c fs)) (h3:fs.lookup m=none) (h4:fa δ S1=some (.ok ds,S2)) (h5:g (.ref n::ds) S2=r):bn c m g fo fa δ S=r:=by
 simp only [bn,ak,h1,gQ h2,Oj,h3,OS,h4,h5]
theorem Gb {g:List W->ah->SM W} {e:Str} (h1:fo δ S=some (.ok (.ref n),S1)) (h2:S1[n]?=some (.ins c fs)) (h3:fs.lookup m=none) (h4:fa δ S1=some (.xc e,S2)):bn c m g fo fa δ S=some (.xc e,S2):=by
 simp only [bn,ak,h1,gQ h2,Oj,h3,OS,h4]
theorem yy {g:DS->ah->SM (List W)} {e:Str} (h1:fo δ S=some (.xc e,S1)):aD fo g δ S=some (.xc e,S1):=by simp only [aD,ak,h1]
theorem uV {g:DS->ah->SM (List W)} {e:Str} (h1:fo δ S=some (.ok d,S1)) (h2:g δ S1=some (.xc e,S2)):aD fo g δ S=some (.xc e,S2):=by simp only [aD,ak,h1,h2]
theorem K8 (h1:fo δ S=some (.ok (.ref l),S1)) (h2:fi δ S1=some (.ok (.int i),S2)) (h3:S2[l]?=some (.lst es)) (h4:jg es i=some d):sIx fo fi δ S=some (.ok d,S2):=by simp only [sIx,ak,h1,h2,Ig h3,h4,jm,Ot]
theorem Lv (h1:fo δ S=some (.ok (.list es),S1)) (h2:fi δ S1=some (.ok (.int i),S2)) (h4:jg es i=some d):sIx fo fi δ S=some (.ok d,S2):=by
 have:uT (.list es) (.int i) S2=jg es i:=rfl;simp only [sIx,ak,h1,h2,this,h4,jm,Ot]
theorem Mt (h1:fo δ S=some (.ok (.tuple es),S1)) (h2:fi δ S1=some (.ok (.int i),S2)) (h4:jg es i=some d):sIx fo fi δ S=some (.ok d,S2):=by
 have:uT (.tuple es) (.int i) S2=jg es i:=rfl;simp only [sIx,ak,h1,h2,this,h4,jm,Ot]
theorem HZ (h1:fo δ S=some (.ok (.ref l),S1)) (h2:S1[l]?=some (.lst es)):kb fo δ S=some (.ok (!es.isEmpty),S1):=by simp only [kb,ak,h1,dY h2,Ot,jm]
theorem pA (h1:fo δ S=some (.ok (.ref l),S1)) (h2:S1[l]?=some (.lst es)):er fo δ S=some (.ok (.int es.length),S1):=by
 have:pW (.ref l) S1=some (.int es.length):=by unfold pW;rw [dY h2]
 simp only [er,ak,h1,this,jm,Ot]
theorem HY (h1:fo δ S=some (.ok (.list es),S1)):er fo δ S=some (.ok (.int es.length),S1):=by
 have:pW (.list es) S1=some (.int es.length):=rfl;simp only [er,ak,h1,this,jm,Ot]
theorem y7 (h1:fo δ S=some (.ok (.ref l),S1)) (h2:S1[l]?=some (.lst (es++[d]))):mh fo δ S=some (.ok d,S1.set l (.lst es)):=by
 simp [mh,ak,h1,dY h2]
theorem oW (h1:fo δ S=some (.ok (.ref l),S1)) (h2:S1[l]?=some (.lst es)) (h3:fv δ S1=some (.ok d,S2)) (h4:S2[l]?=some (.lst q)) (h5:q.length<9000):bT fo fv δ S=some (.nx δ,S2.set l (.lst (q++[d]))):=by
 have z:q.length<sizeLine:=OC h5 (sz 9000 (by decide));simp only [bT,i4,h1,dY h2,isSome_some,OS,h3,dY h4,Oj,Oo z]
theorem BM (h1:fv δ S=some (.ok d,S1)) (h2:fo δ S1=some (.ok (.ref n),S2)) (h3:S2[n]?=some (.ins c fs)) (h4:fs.length<1000):cB c f fo fv δ S=some (.nx δ,S2.set n (.ins c (eh f d fs))):=by
 simp only [cB,i4,h1,h2,gQ h3,Oj,Oo h4]
theorem Js {a b:Int} (h1:fo δ S=some (.ok (.ref n),S)) (h2:S[n]?=some (.ins c fs)) (h3:fs.lookup f=some (.int a)) (h4:fv δ S=some (.ok (.int b),S)) (h5:fs.length<1000):j4 c f fo fv δ S=some (.nx δ,S.set n (.ins c (eh f (.int (a+b)) fs))):=by
 simp only [j4,i4,h1,gQ h2,Oj,h3,h4,gI,Oo h5]
theorem DP {e:Str} (h:fo δ S=some (.xc e,S1)):aS fo δ S=some (.xc e,S1):=by simp only [aS,i4,h]
theorem Gy {e:Str} {g:W->DS->Option DS} (h:fo δ S=some (.xc e,S1)):cR fo g δ S=some (.xc e,S1):=by simp only [cR,i4,h]
theorem GY {e:Str} (h:fo δ S=some (.xc e,S1)):eC fo δ S=some (.xc e,S1):=by simp only [eC,i4,h]
theorem rR {g h:DS->ah->SO} {e:Str} (h1:g δ S=some (.xc e,S1)):au g h δ S=some (.xc e,S1):=by unfold au;rw [h1]
theorem uO {g:W->W->Option Bool} {b:Bool} (h1:fo δ S=some (.ok d,S1)) (h2:fi δ S1=some (.ok y,S2)) (h3:g d y=some b):i7 g fo fi δ S=some (.ok b,S2):=by simp only [i7,ak,h1,h2,h3,jm,Ot]
theorem Hw {a b:Int} (h1:fo δ S=some (.ok (.int a),S1)) (h2:fi δ S1=some (.ok (.int b),S2)):iK false fo fi δ S=some (.ok (decide (a=b)),S2):=by
 have:jV false (.int a) (.int b) S2=some (decide (a=b)):=rfl;simp only [iK,ak,h1,h2,this,jm,Ot]
theorem tG {g:DS->ah->SM Bool} {b:Bool} (h:g δ S=some (.ok b,S1)):sB g δ S=some (.ok (.bool b),S1):=by simp only [sB,ak,h]
theorem l0 {b:Bool} (h:fo δ S=some (.ok (.bool b),S1)):la fo δ S=some (.ok b,S1):=by simp only [la,ak,h,Au,jm,Ot]
theorem jM {g:DS->ah->SM Bool} {b:Bool} (h:g δ S=some (.ok b,S1)):lV g δ S=some (.ok (!b),S1):=by simp only [lV,ak,h]
theorem D2 {t:DS->ah->SM Bool} {r:SM W} (h:t δ S=some (.ok true,S1)) (h2:fo δ S1=r):CF t fo fi δ S=r:=by simp only [CF,ak,h,OS,h2]
theorem zB {t:DS->ah->SM Bool} {r:SM W} (h:t δ S=some (.ok false,S1)) (h2:fi δ S1=r):CF t fo fi δ S=r:=by simp only [CF,ak,h,OO,OX,h2]
theorem Bf {t:DS->ah->SM Bool} {g:DS->ah->SO} {δ':DS} {k:Nat} (h1:t δ S=some (.ok true,S1)) (h2:g δ S1=some (.nx δ',S2)):dm t g (k+1) δ S=dm t g k δ' S2:=by
 show i4 (t δ S) _=_;rw [h1];simp only [i4,OS,h2]
theorem xF {t:DS->ah->SM Bool} {g:DS->ah->SO} {k:Nat} (h1:t δ S=some (.ok false,S1)):dm t g (k+1) δ S=some (.nx δ,S1):=by
 show i4 (t δ S) _=_;rw [h1];rfl
theorem zO {kvs:List (bR×W)} {k:Str} (h1:fo δ S=some (.ok (.ref l),S1)) (h2:fk δ S1=some (.ok (.str k),S2)) (h3:S2[l]?=some (.dK kvs)) (h4:jo kvs (.inr k)=some d):lj fo fk δ S=some (.ok d,S2):=by
 have:tX (.ref l) (.str k) S2=some (jo kvs (Sum.inr k)):=by simp [tX,kB,h3,oV]
 simp only [lj,ak,h1,h2,this,Oj,h4,jm,Ot]
theorem At {kvs kvs':List (bR×W)} {k:Str} (h1:fo δ S=some (.ok (.ref l),S1)) (h0:S1[l]?=some (.dK kvs')) (h2:fk δ S1=some (.ok (.str k),S2)) (h5:fx δ S2=some (.ok y,S3)) (h3:S3[l]?=some (.dK kvs)):lY fo fk fx δ S=some (.ok ((jo kvs (.inr k)).getD y),S3):=by
 have:tX (.ref l) (.str k) S3=some (jo kvs (Sum.inr k)):=by simp [tX,kB,h3,oV]
 simp only [lY,ak,h1,zc h0,isSome_some,OS,h2,h5,this,Oj]
theorem xQ {kvs:List (bR×W)} {k:Str} (h1:fv δ S=some (.ok d,S1)) (h2:fo δ S1=some (.ok (.ref l),S2)) (h3:fk δ S2=some (.ok (.str k),S3)) (h4:S3[l]?=some (.dK kvs)) (h5:kvs.length<9000):kh fo fk fv δ S=some (.nx δ,S3.set l (.dK (jA kvs (.inr k) d))):=by
 have hl':kvs.length<sizeLine:=OC h5 (sz 9000 (by decide));have:Ak (.ref l) (.str k) d S3=some (S3.set l (.dK (jA kvs (.inr k) d))):=by simp [Ak,kB,h4,oV,hl']
 simp only [kh,i4,h1,h2,h3,this,Ot]
end
structure Cn where
 pg:W
 lane:Int
 lanes:Int
 mine:Int
 bx:List Int
 most:Int
 rows:List W
structure Dy where
 w6:Ob
 w7:Ob
 X:List Ob
structure Qs where
 line:W
 wr:Nat
 dy:Dy
 lp:List W
 nm:List (bR×W)
 told:List W
 steps:Int
 fin:W
 lns:List W
 tch:List W
noncomputable def pC (n:Nat) (c:Cn) (ln:W):List (Str×W):=[(Str.ofString "defs", .ref (n+1)),(Str.ofString "lane", .int c.lane),(Str.ofString "signs", .ref (n+2)),(Str.ofString "boxes", .ref (n+3)),(Str.ofString "most", .int c.most),(Str.ofString "frames", .ref (n+9)),(Str.ofString "line", ln),(Str.ofString "meeting", .none),(Str.ofString "story", .ref (n+10))]
noncomputable def qZ (n wr:Nat):List (Str×W):=[(Str.ofString "names", .ref (n+4)),(Str.ofString "given", .none),(Str.ofString "walks", .ref (n+wr)),(Str.ofString "loops", .ref (n+8))]
noncomputable def qi (rows:List W) (i:Nat):List (Str×W):=[(Str.ofString "row", .list rows),(Str.ofString "at", .int i)]
noncomputable def lW (n:Nat) (k:Int) (e:W):List (Str×W):=[(Str.ofString "told", .ref (n+11)),(Str.ofString "steps", .int k),(Str.ofString "end", e),(Str.ofString "brought", .ref (n+12)),(Str.ofString "touches", .ref (n+13)),(Str.ofString "puts", .ref (n+14)),(Str.ofString "lines", .ref (n+15))]
noncomputable def DF (c:Cn):List (bR×W):=[(.inr (Str.ofString "lane"),.int c.lane),(.inr (Str.ofString "lanes"),.int c.lanes),(.inr (Str.ofString "mine"),.int c.mine)]
noncomputable def JA (n:Nat) (c:Cn) (q:Qs):List Ob:=[.ins (Str.ofString "Goer") (pC n c q.line),.dK [(.inr (Str.ofString "main"),c.pg)],.dK (DF c),.lst (c.bx.map .int),.dK q.nm,.ins (Str.ofString "Frame") (qZ n q.wr),q.dy.w6,q.dy.w7,.lst q.lp,.lst [.ref (n+5)],.ins (Str.ofString "Story") (lW n q.steps q.fin),.lst q.told,.lst [],.lst [.ref (n+16)],.lst [.ref (n+17)],.lst q.lns,.lst q.tch,.dK []]++q.dy.X
noncomputable def ST (S:ah) (c:Cn) (q:Qs):ah:=S++JA S.length c q
section
variable {S:ah} {c:Cn} {q:Qs}
theorem gA (S L:ah) (k:Nat):(S++L)[S.length+k]?=L[k]?:=by rw [OG (by omega)];congr 1;omega
theorem sA (S L:ah) (k:Nat) (o:Ob):(S++L).set (S.length+k) o=S++L.set k o:=by rw [List.set_append_right _ _ (by omega)];congr 2;omega
theorem o0:(ST S c q)[S.length]?=some (.ins (Str.ofString "Goer") (pC S.length c q.line)):=gA S _ 0
theorem o1:(ST S c q)[S.length+1]?=some (.dK [(.inr (Str.ofString "main"),c.pg)]):=gA S _ 1
theorem o2:(ST S c q)[S.length+2]?=some (.dK (DF c)):=gA S _ 2
theorem o3:(ST S c q)[S.length+3]?=some (.lst (c.bx.map .int)):=gA S _ 3
theorem o4:(ST S c q)[S.length+4]?=some (.dK q.nm):=gA S _ 4
theorem o5:(ST S c q)[S.length+5]?=some (.ins (Str.ofString "Frame") (qZ S.length q.wr)):=gA S _ 5
theorem o6:(ST S c q)[S.length+6]?=some q.dy.w6:=gA S _ 6
theorem o7:(ST S c q)[S.length+7]?=some q.dy.w7:=gA S _ 7
theorem o8:(ST S c q)[S.length+8]?=some (.lst q.lp):=gA S _ 8
theorem o9:(ST S c q)[S.length+9]?=some (.lst [.ref (S.length+5)]):=gA S _ 9
theorem vK:(ST S c q)[S.length+10]?=some (.ins (Str.ofString "Story") (lW S.length q.steps q.fin)):=gA S _ 10
theorem LQ:(ST S c q)[S.length+11]?=some (.lst q.told):=gA S _ 11
theorem M6:(ST S c q)[S.length+13]?=some (.lst [.ref (S.length+16)]):=gA S _ 13
theorem KM:(ST S c q)[S.length+15]?=some (.lst q.lns):=gA S _ 15
theorem Ma:(ST S c q)[S.length+16]?=some (.lst q.tch):=gA S _ 16
theorem w0 (ln:W):(ST S c q).set S.length (.ins (Str.ofString "Goer") (pC S.length c ln))=ST S c { q with line:=ln }:=sA S _ 0 _
theorem w4 (x:List (bR×W)):(ST S c q).set (S.length+4) (.dK x)=ST S c { q with nm:=x }:=sA S _ 4 _
theorem w5 (x:Nat):(ST S c q).set (S.length+5) (.ins (Str.ofString "Frame") (qZ S.length x))=ST S c { q with wr:=x }:=sA S _ 5 _
theorem w6 (x:Ob):(ST S c q).set (S.length+6) x=ST S c { q with dy:={ q.dy with w6:=x } }:=sA S _ 6 _
theorem w7 (x:Ob):(ST S c q).set (S.length+7) x=ST S c { q with dy:={ q.dy with w7:=x } }:=sA S _ 7 _
theorem w8 (x:List W):(ST S c q).set (S.length+8) (.lst x)=ST S c { q with lp:=x }:=sA S _ 8 _
theorem Mx (k:Int) (e:W):(ST S c q).set (S.length+10) (.ins (Str.ofString "Story") (lW S.length k e))=ST S c { q with steps:=k,fin:=e }:=sA S _ 10 _
theorem NO (x:List W):(ST S c q).set (S.length+11) (.lst x)=ST S c { q with told:=x }:=sA S _ 11 _
theorem Oe (x:List W):(ST S c q).set (S.length+15) (.lst x)=ST S c { q with lns:=x }:=sA S _ 15 _
theorem Nk (x:List W):(ST S c q).set (S.length+16) (.lst x)=ST S c { q with tch:=x }:=sA S _ 16 _
end
section
variable (n wr:Nat) (c:Cn) (l e x:W) (k:Int) (i:Nat) (r:List W)
theorem Nx:(pC n c l).lookup (Str.ofString "defs")=some (.ref (n+1)):=by kernel_rfl
theorem NJ:(pC n c l).lookup (Str.ofString "signs")=some (.ref (n+2)):=by kernel_rfl
theorem MF:(pC n c l).lookup (Str.ofString "boxes")=some (.ref (n+3)):=by kernel_rfl
theorem NH:(pC n c l).lookup (Str.ofString "most")=some (.int c.most):=by kernel_rfl
theorem M1:(pC n c l).lookup (Str.ofString "frames")=some (.ref (n+9)):=by kernel_rfl
theorem Ky:(pC n c l).lookup (Str.ofString "line")=some l:=by kernel_rfl
theorem ND:(pC n c l).lookup (Str.ofString "meeting")=some .none:=by kernel_rfl
theorem Al:(pC n c l).lookup (Str.ofString "story")=some (.ref (n+10)):=by kernel_rfl
theorem NF:eh (Str.ofString "line") x (pC n c l)=pC n c x:=by kernel_rfl
theorem Ng:(qZ n wr).lookup (Str.ofString "names")=some (.ref (n+4)):=by kernel_rfl
theorem Gc:(qZ n wr).lookup (Str.ofString "walks")=some (.ref (n+wr)):=by kernel_rfl
theorem Ny (y:Nat):eh (Str.ofString "walks") (.ref (n+y)) (qZ n wr)=qZ n y:=by kernel_rfl
theorem IW:(qZ n wr).lookup (Str.ofString "loops")=some (.ref (n+8)):=by kernel_rfl
theorem LU:(qi r i).lookup (Str.ofString "row")=some (.list r):=by kernel_rfl
theorem Kp:(qi r i).lookup (Str.ofString "at")=some (.int i):=by kernel_rfl
theorem No:eh (Str.ofString "at") (.int ((i:Int)+1)) (qi r i)=qi r (i+1):=by kernel_rfl
theorem KO:(lW n k e).lookup (Str.ofString "told")=some (.ref (n+11)):=by kernel_rfl
theorem Kw:(lW n k e).lookup (Str.ofString "steps")=some (.int k):=by kernel_rfl
theorem LI:(lW n k e).lookup (Str.ofString "end")=some e:=by kernel_rfl
theorem KI:(lW n k e).lookup (Str.ofString "touches")=some (.ref (n+13)):=by kernel_rfl
theorem EM:(lW n k e).lookup (Str.ofString "lines")=some (.ref (n+15)):=by kernel_rfl
theorem NP (j:Int):eh (Str.ofString "steps") (.int j) (lW n k e)=lW n j e:=by kernel_rfl
theorem Nu:eh (Str.ofString "end") x (lW n k e)=lW n k x:=by kernel_rfl
theorem Og:∀ m∈[Str.ofString "touch", Str.ofString "got", Str.ofString "reckoned", Str.ofString "give", Str.ofString "do", Str.ofString "step", Str.ofString "end_def", Str.ofString "go", Str.ofString "do_while", Str.ofString "do_if", Str.ofString "leave"],(pC n c l).lookup m=none:=by
 intro m hm;simp only [Ow,Ox,PN] at hm;rcases hm with rfl | rfl | rfl | rfl | rfl | rfl | rfl | rfl | rfl | rfl | rfl <;> kernel_rfl
theorem M5:(qZ n wr).lookup (Str.ofString "statement")=none:=by kernel_rfl
theorem Mu:(qZ n wr).lookup (Str.ofString "enter")=none:=by kernel_rfl
theorem Of:(qZ n wr).lookup (Str.ofString "enter_loop")=none:=by kernel_rfl
theorem M4:(qZ n wr).lookup (Str.ofString "leave_body")=none:=by kernel_rfl
theorem KS:(qZ n wr).lookup (Str.ofString "pass_by")=none:=by kernel_rfl
theorem Od:(qi r i).lookup (Str.ofString "is_over")=none:=by kernel_rfl
theorem N7:(qi r i).lookup (Str.ofString "before")=none:=by kernel_rfl
theorem Nq:(qi r i).lookup (Str.ofString "taken")=none:=by kernel_rfl
theorem Nz:(lW n k e).lookup (Str.ofString "begin_phase")=none:=by kernel_rfl
theorem Nv:(lW n k e).lookup (Str.ofString "add_step")=none:=by kernel_rfl
theorem N8:(lW n k e).lookup (Str.ofString "add_touch")=none:=by kernel_rfl
theorem Me:(lW n k e).lookup (Str.ofString "finish")=none:=by kernel_rfl
end
noncomputable def ko (d:Dy) (k:Nat):Option Ob:=if k=6 then some d.w6 else if k=7 then some d.w7 else if 18<=k then d.X[k-18]? else none
noncomputable def qe (d:Dy) (k:Nat) (o:Ob):Dy:=if k=6 then { d with w6:=o } else if k=7 then { d with w7:=o } else { d with X:=d.X.set (k-18) o }
noncomputable def xP (d:Dy) (o:Ob):Dy:={ d with X:=d.X++[o] }
theorem me {d:Dy} {k:Nat} {o o':Ob} (h:ko d k=some o) (j:Nat):ko (qe d k o') j=if j=k then some o' else ko d j:=by
 unfold ko at h;by_cases h6:k=6
 . subst h6;by_cases hj:j=6 <;> simp [ko,qe,hj]
 . by_cases h7:k=7
   . subst h7;by_cases hj:j=7 <;> simp [ko,qe,hj]
   . simp only [h6,h7,OX] at h;split at h
     . rename_i h18;have hl:=(oG h).1;by_cases hj:j=k
       . subst hj;simp [ko,qe,h6,h7,h18,hl]
       . simp only [hj,OX,ko,qe,h6,h7];split
         . rfl
         . split
           . rfl
           . split
             . rw [OI (by omega)]
             . rfl
     . cases h
theorem kO {d:Dy} {o:Ob} (j:Nat):ko (xP d o) j=if j=18+d.X.length then some o else ko d j:=by
 simp only [ko,xP];by_cases hj:j=18+d.X.length
 . subst hj;simp;split
   . omega
   . split
     . omega
     . rfl
 . simp only [hj,OX];split
   . rfl
   . split
     . rfl
     . split
       . by_cases hl:j-18<d.X.length
         . rw [OJ hl]
         . rw [Po (by simp;omega),Po (by omega)]
       . rfl
theorem qc {d:Dy} {k:Nat} {o:Ob} (h:ko d k=some o):k≠18+d.X.length:=λ z=>by
 subst z;unfold ko at h;rw [Oq (by omega),Oq (by omega),Oo (by omega)] at h;simp at h
section
variable {S:ah} {c:Cn} {q:Qs}
theorem zv:(ST S c q).length=S.length+(18+q.dy.X.length):=by simp [ST,JA];omega
theorem gD {k:Nat} {o:Ob} (h:ko q.dy k=some o):(ST S c q)[S.length+k]?=some o:=by
 unfold ko at h;by_cases h6:k=6
 . subst h6;cases h;exact o6
 . by_cases h7:k=7
   . subst h7;cases h;exact o7
   . simp only [h6,h7,OX] at h;split at h
     . rename_i h18;show (S++(_++q.dy.X))[S.length+k]?=_;rw [gA,OG (by simpa [JA] using h18)];simpa [JA] using h
     . cases h
theorem wD {k:Nat} {o:Ob} (h:ko q.dy k=some o) (o':Ob):(ST S c q).set (S.length+k) o'=ST S c { q with dy:=qe q.dy k o' }:=by
 unfold ko at h;by_cases h6:k=6
 . subst h6;exact w6 o'
 . by_cases h7:k=7
   . subst h7;exact w7 o'
   . simp only [h6,h7,OX] at h;split at h
     . rename_i h18;simp only [qe,h6,h7,OX];show (S++(_++q.dy.X)).set (S.length+k) o'=S++(_++q.dy.X.set (k-18) o');rw [sA,List.set_append_right _ _ (by simpa using h18)];simp
     . cases h
theorem pD (o:Ob):ST S c q++[o]=ST S c { q with dy:=xP q.dy o }:=by simp [ST,JA,xP]
end
theorem v0 {x:W} {r:DS} {S:ah}:aa (ae 0) (.val x::r) S=some (.ok x,S):=rfl
theorem wn {x d:W} {r:DS} {T:ah} {l:Nat} {fo:DS->ah->SM W} {es:List W} (h:fo (.val x::r) T=some (.ok (.ref l),T)) (h2:T[l]?=some (.lst (es++[d]))):sIx fo (aa (iJ cU !1)) (.val x::r) T=some (.ok d,T):=K8 h rfl h2 (C7 es d)
section
variable {c f:Str} {S L L':ah} {fs:List (Str×W)} {d:W} {fv:DS->ah->SM W} {r:DS}
theorem gX (h1:fv (.val (.ref S.length)::r) (S++.ins c fs::L)=some (.ok d,S++.ins c fs::L')) (hl:fs.length<1000):cB c f (aa (ae 0)) fv (.val (.ref S.length)::r) (S++.ins c fs::L)=some (.nx (.val (.ref S.length)::r),S++.ins c (eh f d fs)::L'):=by
 have:=BM (c:=c) (f:=f) h1 (v0 (S:=S++.ins c fs::L')) (by have:=gA S (.ins c fs::L') 0;exact this) hl;rw [this];have e:=sA S (.ins c fs::L') 0 (.ins c (eh f d fs));rw [Nat.add_zero] at e;rw [e];rfl
end
theorem tE (f:Str) (d:W):∀ fs:List (Str×W),(eh f d fs).length<=fs.length+1
 | []=>by simp [eh]
 | p::fs=>by
  have:=tE f d fs;unfold eh;split
  . simp
  . simp only [Ou];omega
theorem pl {f:Str} {d:W} {fs:List (Str×W)} {n:Nat} (h:fs.length<n):(eh f d fs).length<n+1:=by
 have:=tE f d fs;omega
theorem AJ {δ:DS} {S:ah}:bS (aa aj) δ S=some (.ok (.ref S.length),S++[.lst []]):=rfl
theorem Fk {δ:DS} {S:ah}:xN δ S=some (.ok (.ref S.length),S++[.dK []]):=rfl
theorem vz (S:ah) (rows:List W):ck [.ref S.length,.list rows] (S++[.ins (Str.ofString "Walk") []])=some (.ok .none,S++[.ins (Str.ofString "Walk") (qi rows 0)]):=by
 refine (ao rfl).trans ((Om aY (?_:_=some (.nx [.val (.ref S.length),.val (.list rows)],S++[.ins (Str.ofString "Walk") (qi rows 0)]))).trans rfl);refine (ag (gX (fs:=[]) (d:=.list rows) rfl (by simp))).trans ?_;exact (gX (d:=.int 0) rfl (by simp [eh])).trans (by kernel_rfl)
theorem Cm (S:ah) (rows:List W) (m:Nat):dj [.ref S.length,.list rows,.ref m,.none] (S++[.ins (Str.ofString "Frame") []])=some (.ok .none,S++[.ins (Str.ofString "Frame") [(Str.ofString "names", .ref m),(Str.ofString "given", .none),(Str.ofString "walks", .ref (S.length+2)),(Str.ofString "loops", .ref (S.length+3))],.ins (Str.ofString "Walk") (qi rows 0),.lst [.ref (S.length+1)],.lst []]):=by
 let δ:DS:=[.val (.ref S.length),.val (.list rows),.val (.ref m),.val .none]
 refine (ao rfl).trans ((Om aY (?_:_=some (.nx δ,_))).trans rfl);refine (ag (gX (fs:=[]) (d:=.ref m) rfl (by simp))).trans ?_;refine (ag (gX (d:=.none) rfl (by simp [eh]))).trans ?_;let F2:List (Str×W):=eh (Str.ofString "given") .none (eh (Str.ofString "names") (.ref m) []);let S1:ah:=S++[.ins (Str.ofString "Frame") F2];have e1:S1.length=S.length+1:=by simp [S1]
 have wi:=vz S1 rows;have mk:bS (aD (jB "Walk" ck (aa #[ae 1])) ca) δ (S++[.ins (Str.ofString "Frame") F2])=some (.ok (.ref (S.length+2)),S++[.ins (Str.ofString "Frame") F2,.ins (Str.ofString "Walk") (qi rows 0),.lst [.ref (S.length+1)]]):=by
  have a:=ju (c := "Walk") (f:=ck) (fa:=aa #[ae 1]) (δ:=δ) (S:=S1) (S1:=S1) (ds:=[.list rows]) rfl wi;have z:=sz 1 (by decide);have b:=aK a (g:=ca) (ds:=[]) rfl;simp only [bS,ak];rw [b];simp only [Ou,OU,Oo z];simp [S1,e1]
 refine (ag (gX (L:=[]) (L':=[.ins (Str.ofString "Walk") (qi rows 0),.lst [.ref (S.length+1)]]) mk (pl (pl (by simp))))).trans ?_;refine (gX (d:=.ref (S.length+3)) (L':=[.ins (Str.ofString "Walk") (qi rows 0),.lst [.ref (S.length+1)],.lst []]) ?_ (pl (pl (pl (by simp))))).trans (by kernel_rfl);rw [AJ];simp
theorem BQ (S:ah):cY [.ref S.length] (S++[.ins (Str.ofString "Story") []])=some (.ok .none,S++[.ins (Str.ofString "Story") [(Str.ofString "told", .ref (S.length+1)),(Str.ofString "steps", .int 0),(Str.ofString "end", .none),(Str.ofString "brought", .ref (S.length+2)),(Str.ofString "touches", .ref (S.length+3)),(Str.ofString "puts", .ref (S.length+4)),(Str.ofString "lines", .ref (S.length+5))],.lst [],.lst [],.lst [],.lst [],.lst []]):=by
 have nl:∀ (x:Ob) (L:ah) (δ:DS),bS (aa aj) δ (S++x::L)=some (.ok (.ref (S.length+(L.length+1))),S++x::(L++[.lst []])):=λ x L δ=>by
  rw [AJ];simp
 refine (ao rfl).trans ((Om aY (?_:_=some (.nx [.val (.ref S.length)],_))).trans rfl);refine (ag (gX (fs:=[]) (nl _ _ _) (by simp))).trans ?_;refine (ag (gX (d:=.int 0) rfl (by simp [eh]))).trans ?_;refine (ag (gX (d:=.none) rfl (pl (pl (by simp))))).trans ?_;refine (ag (gX (nl _ _ _) (pl (pl (pl (by simp)))))).trans ?_;refine (ag (gX (nl _ _ _) (pl (pl (pl (pl (by simp))))))).trans ?_;refine (ag (gX (nl _ _ _) (pl (pl (pl (pl (pl (by simp)))))))).trans ?_;exact (gX (nl _ _ _) (pl (pl (pl (pl (pl (pl (by simp)))))))).trans (by kernel_rfl)
section
variable (S:ah) (c:Cn) (q:Qs)
theorem zt (x:W) (hl:q.lns.length<8000):eM [.ref (S.length+10),x] (ST S c q)=some (.ok .none,ST S c { q with steps:=q.steps+1,lns:=q.lns++[x] }):=by
 refine (ao rfl).trans ((Om aY (?_:_=some (.nx [.val (.ref (S.length+10)),.val x],ST S c { q with steps:=q.steps+1,lns:=q.lns++[x] }))).trans rfl);refine (ag (δ':=[.val (.ref (S.length+10)),.val x]) (S':=ST S c { q with steps:=q.steps+1 }) ((Js v0 vK (Kw _ _ _) (b:=1) rfl (by simp [lW])).trans ?_)).trans ?_
 . rw [NP,Mx];rfl
 . refine (oW (bz v0 vK (EM _ _ _)) KM (d:=x) rfl KM (by show q.lns.length<9000;omega)).trans ?_;rw [Oe]
theorem u8 (a b x:W) (hl:q.tch.length<8000):fS [.ref (S.length+10),a,b,x] (ST S c q)=some (.ok .none,ST S c { q with tch:=q.tch++[.tuple [a,b,x]] }):=by
 refine (ao rfl).trans ((Om aY (?_:_=some (.nx [.val (.ref (S.length+10)),.val a,.val b,.val x],ST S c { q with tch:=q.tch++[.tuple [a,b,x]] }))).trans rfl);refine (oW (wn (es:=[]) (bz v0 vK (KI _ _ _)) M6) Ma (d:=.tuple [a,b,x]) (av (A9 rfl rfl rfl)) Ma (by omega)).trans ?_;rw [Nk];rfl
theorem kn (a x:W):bf [.ref (S.length+10),a,x] (ST S c q)=some (.ok .none,ST S c { q with fin:=.tuple [a,x] }):=by
 refine (ao rfl).trans ((Om aY (?_:_=some (.nx [.val (.ref (S.length+10)),.val a,.val x],ST S c { q with fin:=.tuple [a,x] }))).trans rfl);refine (BM (d:=.tuple [a,x]) (av (pJ rfl rfl)) v0 vK (by simp [lW])).trans ?_;rw [Nu,Mx];rfl
end
noncomputable def wO (f:List W×Nat):Ob:=.ins (Str.ofString "Walk") (qi f.1 f.2)
noncomputable def WW (d:Dy):List Nat->List (List W×Nat)->Prop
 | [],[]=>True
 | k::ks,f::fs=>ko d k=some (wO f)/\WW d ks fs
 | _,_=>False
theorem WW.set {d:Dy} {k:Nat} {o o':Ob} (h:ko d k=some o):∀ {ks:List Nat} {fs:List (List W×Nat)},WW d ks fs->k∉ks->WW (qe d k o') ks fs
 | [],[],_,_=>trivial
 | [],_::_,w,_=>w
 | _::_,[],w,_=>w
 | j::ks,f::fs,w,hk=>by
  simp only [Ow,not_or] at hk;refine ⟨?_,WW.set h w.2 hk.2⟩;rw [me h,Oq (Pt hk.1)];exact w.1
theorem WW.push {d:Dy} {o:Ob}:∀ {ks:List Nat} {fs:List (List W×Nat)},WW d ks fs->WW (xP d o) ks fs
 | [],[],_=>trivial
 | [],_::_,w=>w
 | _::_,[],w=>w
 | j::ks,f::fs,w=>by
  refine ⟨?_,WW.push w.2⟩;rw [kO,Oq (qc w.1)];exact w.1
theorem WW.nin {d:Dy}:∀ {ks:List Nat} {fs:List (List W×Nat)},WW d ks fs->18+d.X.length∉ks
 | [],_,_=>Ox
 | _::_,[],w=>w.elim
 | j::ks,f::fs,w=>by
  simp only [Ow,not_or];exact ⟨Pt (qc w.1),WW.nin w.2⟩
theorem WW.len {d:Dy}:∀ {ks:List Nat} {fs:List (List W×Nat)},WW d ks fs->ks.length=fs.length
 | [],[],_=>rfl
 | [],_::_,w=>w.elim
 | _::_,[],w=>w.elim
 | j::ks,f::fs,w=>by simp [WW.len w.2]
theorem WW.drop {d:Dy}:∀ (m:Nat) {ks:List Nat} {fs:List (List W×Nat)},WW d ks fs->WW d (ks.drop m) (fs.drop m)
 | 0,_,_,w=>w
 | m+1,[],[],_=>trivial
 | m+1,[],_::_,w=>w.elim
 | m+1,_::_,[],w=>w.elim
 | m+1,_::ks,_::fs,w=>WW.drop m (ks:=ks) (fs:=fs) w.2
noncomputable def pj (n:Nat) (ks:List Nat):List W:=(ks.map λ k=>W.ref (n+k)).reverse
theorem kS (n k:Nat) (ks:List Nat):pj n (k::ks)=pj n ks++[.ref (n+k)]:=by simp [pj]
structure WS (n:Nat) (q:Qs) (ks:List Nat) (fs:List (List W×Nat)):Prop where
 l:ko q.dy q.wr=some (.lst (pj n ks))
 nw:q.wr∉ks
 nd:ks.Nodup
 w:WW q.dy ks fs
section
variable {S:ah} {c:Cn} {q:Qs} {k:Nat} {ks:List Nat} {f:List W×Nat} {fs:List (List W×Nat)}
theorem yD (h:ko q.dy k=some (wO f)):fR [.ref (S.length+k)] (ST S c q)=some (.ok (.bool (decide ((f.2:Int)=f.1.length))),ST S c q):=
 (ao rfl).trans ((Om aY (bY (tG (Hw (bz v0 (gD h) (Kp _ _)) (HY (bz v0 (gD h) (LU _ _))))))).trans rfl)
theorem ve (h:ko q.dy k=some (wO f)) {x:W} (hx:f.1[f.2]?=some x):i0 [.ref (S.length+k)] (ST S c q)=some (.ok x,ST S c q):=
 (ao rfl).trans ((Om aY (bY (Lv (bz v0 (gD h) (LU _ _)) (bz v0 (gD h) (Kp _ _)) (by rw [vE _ _ (oG hx).1];exact hx)))).trans rfl)
theorem xl (h:ko q.dy k=some (wO f)) {x:W} (hx:f.1[f.2]?=some x):iQ [.ref (S.length+k)] (ST S c q)=some (.ok x,ST S c { q with dy:=qe q.dy k (wO (f.1,f.2+1)) }):=by
 refine (ao rfl).trans ((Om aY (?_:_=some (.rt x,ST S c { q with dy:=qe q.dy k (wO (f.1,f.2+1)) }))).trans rfl);refine (ag (δ':=[.val (.ref (S.length+k)),.val x]) (bC (Lv (bz v0 (gD h) (LU _ _)) (bz v0 (gD h) (Kp _ _)) (by rw [vE _ _ (oG hx).1];exact hx)) rfl)).trans ?_;refine (ag (δ':=[.val (.ref (S.length+k)),.val x]) (S':=ST S c { q with dy:=qe q.dy k (wO (f.1,f.2+1)) }) ((Js v0 (gD h) (Kp _ _) (b:=1) rfl (by simp [qi])).trans ?_)).trans rfl;rw [No,wD h];rfl
theorem zS (w:WS S.length q (k::ks) fs) {r:DS}:sIx (al "Frame" "walks" (aa (ae 0))) (aa (iJ cU !1)) (.val (.ref (S.length+5))::r) (ST S c q)=some (.ok (.ref (S.length+k)),ST S c q):=
 wn (es:=pj S.length ks) (bz v0 o5 (Gc _ _)) (by rw [<-kS];exact gD w.l)
theorem WS.up (w:WS S.length q (k::ks) (f::fs)) (g:List W×Nat):WS S.length { q with dy:=qe q.dy k (wO g) } (k::ks) (g::fs):=by
 have hn:=w.nd;have hw:=w.nw;simp only [Ow,not_or] at hw;rw [O7] at hn;refine ⟨?_,w.nw,w.nd,?_,WW.set w.w.1 w.w.2 hn.1⟩
 . show ko (qe q.dy k _) q.wr=_;rw [me w.w.1,Oq hw.1];exact w.l
 . show ko (qe q.dy k _) k=_;rw [me w.w.1,Oo rfl]
theorem yG (w:WS S.length q (k::ks) (f::fs)) {x:W} (hx:f.1[f.2]?=some x):br [.ref (S.length+5)] (ST S c q)=some (.ok .none,ST S c { q with dy:=qe q.dy k (wO (f.1,f.2+1)) }):=
 (ao rfl).trans ((Om aY (aU (dU (zS w) (gD w.w.1) (Nq _ _) (ds:=[]) rfl (xl w.w.1 hx)))).trans rfl)
noncomputable def LY (n:Nat) (q:Qs) (ks:List Nat) (rows:List W):Qs:={ q with dy:=qe (xP q.dy (wO (rows,0))) q.wr (.lst (pj n ((18+q.dy.X.length)::ks))) }
theorem WS.en (w:WS S.length q ks fs) (rows:List W):WS S.length (LY S.length q ks rows) ((18+q.dy.X.length)::ks) ((rows,0)::fs):=by
 have hp:ko (xP q.dy (wO (rows,0))) q.wr=some (.lst (pj S.length ks)):=by rw [kO,Oq (qc w.l)];exact w.l
 refine ⟨?_,?_,?_,?_,WW.set hp w.w.push w.nw⟩
 . show ko (qe _ _ _) q.wr=_;rw [me hp,Oo rfl]
 . simp only [Ow,not_or];exact ⟨qc w.l,w.nw⟩
 . exact O7.mpr ⟨w.w.nin,w.nd⟩
 . show ko (qe _ _ _) _=_;rw [me hp,Oq (Pt (qc w.l)),kO,Oo rfl]
theorem pS (w:WS S.length q ks fs) (rows:List W) (hl:ks.length<1000):dM [.ref (S.length+5),.list rows] (ST S c q)=some (.ok .none,ST S c (LY S.length q ks rows)):=by
 let δ:DS:=[.val (.ref (S.length+5)),.val (.list rows)]
 have hp:ko (xP q.dy (wO (rows,0))) q.wr=some (.lst (pj S.length ks)):=by rw [kO,Oq (qc w.l)];exact w.l
 have mk:=ju (c := "Walk") (f:=ck) (fa:=aa #[ae 1]) (δ:=δ) (S:=ST S c q) (S1:=ST S c q) (ds:=[.list rows]) rfl (vz (ST S c q) rows);rw [show (.ins (Str.ofString "Walk") (qi rows 0):Ob)=wO (rows,0) from rfl,pD,zv] at mk;refine (ao rfl).trans ((Om aY (?_:_=some (.nx δ,ST S c (LY S.length q ks rows)))).trans rfl);refine (oW (l:=S.length+q.wr) (bz v0 o5 (Gc _ _)) (gD w.l) mk (gD (q:={ q with dy:=xP q.dy (wO (rows,0)) }) hp) (by simp [pj];omega)).trans ?_;rw [wD (q:={ q with dy:=xP q.dy (wO (rows,0)) }) hp,<-kS];rfl
end
inductive Bd where
 | nil
 | set (x:Str) (t:Tr) (r:Bd)
 | tell (t:Tr) (r:Bd)
 | brk (r:Bd)
 | agn (r:Bd)
 | stp (r:Bd)
 | ifs (t:Tr) (y r:Bd)
 | ife (t:Tr) (y n r:Bd)
 | whl (t:Tr) (b r:Bd)
noncomputable def Bd.len:Bd->Nat
 | .nil=>0
 | .set _ _ r=>r.len+1
 | .tell _ r=>r.len+1
 | .brk r=>r.len+1
 | .agn r=>r.len+1
 | .stp r=>r.len+1
 | .ifs _ y r=>y.len+r.len+2
 | .ife _ y n r=>y.len+n.len+r.len+3
 | .whl _ b r=>b.len+r.len+2
noncomputable def Bd.isN:Bd->Bool
 | .nil=>true
 | _=>false
noncomputable def sW (s:String):W:=.str (Str.ofString s)
noncomputable def bL (p:Nat):W:=.int ((p:Int)+1)
noncomputable def bW:Nat->Bd->List W
 | _,.nil=>[]
 | p,.set x t r=>.tuple [sW "set", bL p,.str x,tw t]::bW (p+1) r
 | p,.tell t r=>.tuple [sW "tell", bL p,tw t]::bW (p+1) r
 | p,.brk r=>.tuple [sW "break", bL p]::bW (p+1) r
 | p,.agn r=>.tuple [sW "again", bL p]::bW (p+1) r
 | p,.stp r=>.tuple [sW "stop", bL p]::bW (p+1) r
 | p,.ifs t y r=>.tuple [sW "if", bL p,tw t,.list (bW (p+1) y),.none]::bW (p+2+y.len) r
 | p,.ife t y n r=>.tuple [sW "if", bL p,tw t,.list (bW (p+1) y),.list (bW (p+2+y.len) n)]::bW (p+3+y.len+n.len) r
 | p,.whl t b r=>.tuple [sW "while", bL p,tw t,.list (bW (p+1) b)]::bW (p+2+b.len) r
theorem FW {p:Nat} {r:Bd} (h:r.isN=true):bW p r=[]:=by cases r <;> first | rfl | cases h
theorem nF {p:Nat} {r:Bd} (h:r.isN=false):∃ a l t,bW p r=.tuple (a::bL p::l)::t:=by
 cases r with
 | nil=>cases h
 | _=>exact ⟨_,_,_,rfl⟩
theorem EO (l:List W) (x:W):(!(l++[x]).isEmpty)=true:=by cases l <;> rfl
structure Kf where
 lp:Bool
 p:Nat
 r:Bd
noncomputable def pop (p:Nat) (r:Bd):List Kf->Option (Nat×Bd×List Kf)
 | []=>if r.isN then none else some (p,r,[])
 | k::K=>if r.isN then pop k.p k.r K else some (p,r,k::K)
noncomputable def FO (f:List W×Nat) (p:Nat) (r:Bd):Prop:=f.2<=f.1.length/\f.1.drop f.2=bW p r
noncomputable def FR:List (List W×Nat)->Nat->Bd->List Kf->Prop
 | [],_,_,_=>False
 | f::fs,p,r,[]=>FO f p r/\fs=[]
 | f::fs,p,r,k::K=>FO f p r/\FR fs k.p k.r K
theorem FR.len:∀ {K:List Kf} {fs:List (List W×Nat)} {p:Nat} {r:Bd},FR fs p r K->fs.length=K.length+1
 | [],[],_,_,h=>h.elim
 | [],f::fs,_,_,h=>by rw [h.2];rfl
 | _::_,[],_,_,h=>h.elim
 | k::K,f::fs,_,_,h=>by simp [FR.len h.2]
noncomputable def qR:List Kf->List W
 | []=>[]
 | k::K=>if k.lp then qR K++[.int (K.length+1)] else qR K
theorem tq:∀ K:List Kf,qR K=[]∨∃ l j,qR K=l++[.int j]/\j<=(K.length:Int)
 | []=>.inl rfl
 | k::K=>by
  unfold qR;split
  . exact .inr ⟨_,_,rfl,by simp⟩
  . rcases tq K with h | ⟨l,j,h1,h2⟩
    . exact .inl h
    . exact .inr ⟨l,j,h1,by simp;omega⟩
noncomputable def dh (q q':Qs):Prop:=q'={ q with wr:=q'.wr,dy:=q'.dy,lp:=q'.lp }
theorem dh.tr {a b c:Qs} (h:dh a b) (h':dh b c):dh a c:=by
 unfold dh at *;rw [h'] ; rw [h]
noncomputable def CS (S:ah) (q:Qs) (p:Nat) (r:Bd) (K:List Kf):Prop:=∃ ks fs,WS S.length q ks fs/\FR fs p r K/\q.lp=qR K
noncomputable abbrev MC:DS->ah->SM Bool:=fX (kb (al "Frame" "walks" (aa (ae 0)))) (la (bH "Walk" "is_over" fR (sIx (al "Frame" "walks" (aa (ae 0))) (aa (iJ cU !1))) (aa aj)))
theorem FO.over {f:List W×Nat} {p:Nat} {r:Bd} (h:FO f p r):decide ((f.2:Int)=f.1.length)=r.isN:=by
 have h1:=Om List.length h.2;rw [length_drop] at h1;have h2:=h.1;cases hr:r.isN with
 | true=>
  rw [FW hr] at h1;simp only [OU] at h1;exact Op (by omega)
 | false=>
  obtain ⟨_,_,_,e⟩:=nF (p:=p) hr;rw [e] at h1;simp only [Ou] at h1;exact Oi (by omega)
section
variable {S:ah} {c:Cn}
theorem L3 {q:Qs} {ks:List Nat} {fs:List (List W×Nat)} (w:WS S.length q ks fs) {r:DS}:kb (al "Frame" "walks" (aa (ae 0))) (.val (.ref (S.length+5))::r) (ST S c q)=some (.ok (!(pj S.length ks).isEmpty),ST S c q):=HZ (bz v0 o5 (Gc _ _)) (gD w.l)
theorem Ds {q:Qs} {k:Nat} {ks:List Nat} {fs:List (List W×Nat)} (w:WS S.length q (k::ks) fs) {r:DS}:kb (al "Frame" "walks" (aa (ae 0))) (.val (.ref (S.length+5))::r) (ST S c q)=some (.ok true,ST S c q):=by
 rw [L3 w,kS,EO]
theorem JF {q:Qs} {k:Nat} {ks:List Nat} {f:List W×Nat} {fs:List (List W×Nat)} (w:WS S.length q (k::ks) (f::fs)) {p:Nat} {r:Bd} (h:FO f p r):MC [.val (.ref (S.length+5))] (ST S c q)=some (.ok r.isN,ST S c q):=by
 refine ge (Ds w) ?_;rw [<-h.over];exact l0 (dU (zS w) (gD w.w.1) (Od _ _) (ds:=[]) rfl (yD w.w.1))
theorem sP {q:Qs} {k:Nat} {ks:List Nat} {f:List W×Nat} {fs:List (List W×Nat)} (w:WS S.length q (k::ks) (f::fs)) {L:List W} (hL:(q.lp=L/\(q.lp=[]∨∃ l j,q.lp=l++[.int j]/\j≠(ks.length:Int)))∨q.lp=L++[.int ks.length]):
 ∃ q',eV [.val (.ref (S.length+5))] (ST S c q)=some (.nx [.val (.ref (S.length+5))],ST S c q')/\WS S.length q' ks fs/\q'.lp=L/\dh q q':=by
 let q1:Qs:={ q with dy:=qe q.dy q.wr (.lst (pj S.length ks)) }
 have hw:=w.nw;have hn:=w.nd;simp only [Ow,not_or] at hw;rw [O7] at hn;have w1:WS S.length q1 ks fs:=⟨by show ko (qe q.dy q.wr _) q.wr=_;rw [me w.l,Oo rfl],hw.2,hn.2,WW.set w.l w.w.2 hw.2⟩
 have s1:aS (mh (al "Frame" "walks" (aa (ae 0)))) [.val (.ref (S.length+5))] (ST S c q)=some (.nx [.val (.ref (S.length+5))],ST S c q1):=by
  refine (aU (y7 (es:=pj S.length ks) (d:=.ref (S.length+k)) (bz v0 o5 (Gc _ _)) (by rw [<-kS];exact gD w.l))).trans ?_;rw [wD w.l]
 have lt:kb (al "Frame" "loops" (aa (ae 0))) [.val (.ref (S.length+5))] (ST S c q1)=some (.ok (!q.lp.isEmpty),ST S c q1):=HZ (bz v0 o5 (IW _ _)) o8;have ll:∀ {l:List W} {j:Int},q.lp=l++[.int j]->iK false (sIx (al "Frame" "loops" (aa (ae 0))) (aa (iJ cU !1))) (er (al "Frame" "walks" (aa (ae 0)))) [.val (.ref (S.length+5))] (ST S c q1)=some (.ok (decide (j=(ks.length:Int))),ST S c q1):=λ {l j} e=>by
  refine Hw (wn (es:=l) (bz v0 o5 (IW _ _)) (by rw [o8];show some (Ob.lst q.lp)=_;rw [e])) ?_;have:=pA (bz (v0 (r:=[])) (o5 (S:=S) (c:=c) (q:=q1)) (Gc _ _)) (gD w1.l);rw [this];simp [pj]
 rcases hL with ⟨e,h⟩ | e
 . refine ⟨q1,(ag s1).trans ((bF (S1:=ST S c q1) ?_).trans rfl),w1,e,rfl⟩;rcases h with h | ⟨l,j,h,hj⟩
   . rw [h] at lt;exact gT lt
   . have l2:=ll h;rw [Oi hj] at l2;rw [h,EO] at lt;exact ge lt l2
 . have l2:=ll e;rw [Op rfl] at l2;rw [e,EO] at lt;refine ⟨{ q1 with lp:=L },(ag s1).trans ((cT (S1:=ST S c q1) (ge lt l2)).trans ?_),⟨w1.l,w1.nw,w1.nd,w1.w⟩,rfl,rfl⟩;refine (aU (y7 (es:=L) (d:=.int ks.length) (bz v0 o5 (IW _ _)) (by rw [o8];show some (Ob.lst q.lp)=_;rw [e]))).trans ?_;rw [w8]
theorem vx:∀ (K:List Kf) (p:Nat) (r:Bd) (q:Qs) (F:Nat),CS S q p r K->K.length+2<=F->∃ q',dm MC eV F [.val (.ref (S.length+5))] (ST S c q)=some (.nx [.val (.ref (S.length+5))],ST S c q')/\dh q q'/\(match pop p r K with
 | none=>WS S.length q' [] []
 | some x=>CS S q' x.1 x.2.1 x.2.2)
 | K,p,r,q,F,h,hF=>by
  obtain ⟨F,rfl⟩:∃ j,F=j+2:=⟨F-2,by omega⟩
  obtain ⟨ks,fs,w,fr,lp⟩:=h;obtain ⟨f,fs,rfl⟩:∃ f fs',fs=f::fs':=by
   cases fs with
   | nil=>exact fr.elim
   | cons f fs=>exact ⟨f,fs,rfl⟩
  obtain ⟨k,ks,rfl⟩:∃ k ks',ks=k::ks':=by
   cases ks with
   | nil=>exact w.w.elim
   | cons k ks=>exact ⟨k,ks,rfl⟩
  have fo:FO f p r:=by cases K <;> exact fr.1
  have T:=JF (c:=c) w fo;cases hr:r.isN with
  | false=>
   rw [hr] at T;refine ⟨q,xF T,rfl,?_⟩;have:pop p r K=some (p,r,K):=by cases K <;> simp [pop,hr]
   rw [this];exact ⟨_,_,w,fr,lp⟩
  | true=>
   rw [hr] at T;cases K with
   | nil=>
    obtain ⟨q',e,w',l',s'⟩:=sP (c:=c) w (L:=[]) (.inl ⟨lp,.inl lp⟩);have hfs:fs=[]:=fr.2;subst hfs;have hks:ks=[]:=by
     cases ks with
     | nil=>rfl
     | cons _ _=>exact w'.w.elim
    subst hks;refine ⟨q',(Bf T e).trans (xF (gT (L3 w'))),s',?_⟩;simp only [pop,hr,OS];exact w'
   | cons k2 K=>
    have hl:ks.length=K.length+1:=by
     have h1:=w.w.2.len;rw [h1];exact FR.len fr.2
    obtain ⟨q',e,w',l',s'⟩:=sP (c:=c) w (L:=qR K) (by
     unfold qR at lp;split at lp
     . refine .inr ?_;rw [lp,hl];rfl
     . refine .inl ⟨lp,?_⟩;rw [lp];rcases tq K with h | ⟨l,j,h1,h2⟩
       . exact .inl h
       . exact .inr ⟨l,j,h1,by omega⟩)
    obtain ⟨q2,E,s2,m⟩:=vx K k2.p k2.r q' (F+1) ⟨ks,fs,w',fr.2,l'⟩ (by simp only [Ou] at hF;omega);refine ⟨q2,(Bf T e).trans E,s'.tr s2,?_⟩;simp only [pop,hr,OS];exact m
theorem yP {K:List Kf} {p:Nat} {r:Bd} {q:Qs} (h:CS S q p r K) (hK:K.length<=1000):∃ q',dh q q'/\(match pop p r K with
 | none=>dW [.ref (S.length+5)] (ST S c q)=some (.ok .none,ST S c q')
 | some x=>CS S q' x.1 x.2.1 x.2.2/\∃ y t,bW x.1 x.2.1=y::t/\dW [.ref (S.length+5)] (ST S c q)=some (.ok y,ST S c q')):=by
 obtain ⟨q',E,s,m⟩:=vx (c:=c) K p r q 1000000 h (by omega);refine ⟨q',s,?_⟩;cases hp:pop p r K with
 | none=>
  rw [hp] at m;exact (ao rfl).trans ((Om aY ((ag E).trans (bY (zB (L3 m) rfl)))).trans rfl)
 | some x=>
  rw [hp] at m;obtain ⟨p',r',K'⟩:=x;have hr:r'.isN=false:=by
   clear m E h hK;induction K generalizing p r with
   | nil=>
    unfold pop at hp;split at hp
    . cases hp
    . cases hp;rename_i z;simpa using z
   | cons k K ih=>
    unfold pop at hp;split at hp
    . exact ih hp
    . cases hp;rename_i z;simpa using z
  obtain ⟨a,l,t,e⟩:=nF (p:=p') hr;refine ⟨m,_,t,e,?_⟩;obtain ⟨ks,fs,w,fr,lp⟩:=m;cases fs with
  | nil=>exact fr.elim
  | cons f fs=>
   cases ks with
   | nil=>exact w.w.elim
   | cons k ks=>
    have fo:FO f p' r':=by cases K' <;> exact fr.1
    have hx:f.1[f.2]?=some (.tuple (a::bL p'::l)):=by
     have:=Om (λ z=>z[0]?) (fo.2.trans e);simpa using this
    exact (ao rfl).trans ((Om aY ((ag E).trans (bY (D2 (Ds w) (dU (zS w) (gD w.w.1) (N7 _ _) (ds:=[]) rfl (ve w.w.1 hx)))))).trans rfl)
end
inductive Rz where
 | ok (v:Int)
 | no (b:Bool)
noncomputable abbrev Ev:=List Int×Rz
noncomputable def km (bx:List Int) (r:Ev):Ev:=match r.2 with
 | .no b=>(r.1,.no b)
 | .ok p=>if 0<=p/\p<bx.length then (r.1++[p],.ok (bx[p.toNat]?.getD 0)) else (r.1,.no false)
noncomputable def oE (k:Fin 7) (r s:Ev):Ev:=match r.2 with
 | .no b=>(r.1,.no b)
 | .ok a=>match s.2 with
  | .no b=>(r.1++s.1,.no b)
  | .ok b=>match wk k a b with
   | none=>(r.1++s.1,.no true)
   | some v=>(r.1++s.1,.ok v)
noncomputable def Jd (c:Cn) (k:Fin 3):Int:=if k=0 then c.lane else if k=1 then c.lanes else c.mine
noncomputable abbrev fQ:=List (Str×Int)
noncomputable def DJ (l:fQ) (x:Str):Int:=match l.find? λ p=>decide (p.1=x) with
 | some p=>p.2
 | none=>0
noncomputable def mC (l:fQ):List (bR×W):=l.map λ p=>(.inr p.1,.int p.2)
theorem A8 (l:fQ) (x:Str):(jo (mC l) (.inr x)).getD (.int 0)=.int (DJ l x):=by
 unfold jo mC DJ;induction l with
 | nil=>rfl
 | cons p l ih=>
  simp only [OQ,O3];by_cases h:p.1=x
  . simp [h]
  . have:¬ (Sum.inr p.1:bR)=Sum.inr x:=λ z=>h (Sum.inr.inj z);simp only [this,h,decide_false];exact ih
noncomputable def ev (c:Cn) (l:fQ):Tr->Ev
 | .num v=>([],.ok v)
 | .sig k=>([],.ok (Jd c k))
 | .nam x=>([],.ok (DJ l x))
 | .box t=>km c.bx (ev c l t)
 | .op k a b=>oE k (ev c l a) (ev c l b)
structure Fq (c:Cn):Prop where
 l:Rg c.lane
 ls:Rg c.lanes
 m:Rg c.mine
 b:∀ x∈c.bx,Rg x
noncomputable def vc (l:fQ):Prop:=∀ p∈l,Rg p.2
noncomputable def Ht:Tr->Prop
 | .num v=>Rg v
 | .box t=>Ht t
 | .op _ a b=>Ht a/\Ht b
 | _=>True
noncomputable def KJ:Rz->Prop
 | .ok v=>Rg v
 | .no _=>True
theorem Gp {bx:List Int} {r:Ev} (hb:∀ x∈bx,Rg x):KJ (km bx r).2:=by
 unfold km;split
 . exact trivial
 . split
   . rename_i h;have hl:(r:Ev).2=r.2:=rfl;rename_i p _;have hp:p.toNat<bx.length:=by omega
     rw [OF hp];exact hb _ (getElem_mem hp)
   . exact trivial
theorem FP {k:Fin 7} {r s:Ev}:KJ (oE k r s).2:=by
 unfold oE;split
 . exact trivial
 . split
   . exact trivial
   . unfold wk;split
     . exact trivial
     . rename_i h;split at h
       . cases h
       . cases h;exact CY _
theorem Er {l:fQ} (h:vc l) (x:Str):Rg (DJ l x):=by
 unfold DJ;split
 . rename_i p hp;exact h p (List.mem_of_find?_eq_some hp)
 . decide
theorem Ga {c:Cn} (h:Fq c) (k:Fin 3):Rg (Jd c k):=by
 unfold Jd;split
 . exact h.l
 . split
   . exact h.ls
   . exact h.m
theorem sR {c:Cn} {l:fQ} (hc:Fq c) (hl:vc l):∀ t,Ht t->KJ (ev c l t).2
 | .num v,h=>h
 | .sig k,_=>Ga hc k
 | .nam x,_=>Er hl x
 | .box t,_=>Gp hc.b
 | .op k a b,_=>FP
noncomputable def NT (b:Bool):Str:=if b then Str.ofString "Nought" else Str.ofString "Outside"
noncomputable def Aw (r:Rz) (S:ah):SM W:=match r with
 | .ok v=>some (.ok (.int v),S)
 | .no b=>some (.xc (NT b),S)
noncomputable def n8 (q:Qs) (rs:List Int):Qs:={ q with tch:=q.tch++rs.map λ p=>.tuple [.str "get", .int p,q.line] }
theorem oO (q:Qs):n8 q []=q:=by simp [n8]
theorem yW (q:Qs) (a b:List Int):n8 (n8 q a) b=n8 q (a++b):=by simp [n8]
section
variable (S:ah) (c:Cn) (q:Qs)
theorem mG (m:Str) (hm:m∈[Str.ofString "touch", Str.ofString "got", Str.ofString "reckoned", Str.ofString "give", Str.ofString "do", Str.ofString "step", Str.ofString "end_def", Str.ofString "go", Str.ofString "do_while", Str.ofString "do_if", Str.ofString "leave"]):(pC S.length c q.line).lookup m=none:=Og _ _ _ m hm
theorem ul (p:Int) (hl:q.tch.length<8000):g9 [.ref S.length,.str "get", .int p] (ST S c q)=(if 0<=p/\p<c.bx.length then some (.ok .none,ST S c (n8 q [p])) else some (.xc (Str.ofString "Outside"),ST S c q)):=by
 let δ:DS:=[.val (.ref S.length),.val (.str "get"),.val (.int p)]
 have ln:er (al "Goer" "boxes" (aa (ae 0))) δ (ST S c q)=some (.ok (.int c.bx.length),ST S c q):=by
  have:=pA (bz (c := "Goer") (f := "boxes") (v0 (x:=.ref S.length) (r:=[.val (.str "get"),.val (.int p)])) (o0 (S:=S) (c:=c) (q:=q)) (MF _ _ _)) o3;rw [O6] at this;exact this
 have ch:qF JR p7 (aa !0) (aa (ae 2)) (er (al "Goer" "boxes" (aa (ae 0)))) δ (ST S c q)=some (.ok (decide (0<=p/\p<c.bx.length)),ST S c q):=by
  have a1:aa (!0) δ (ST S c q)=some (.ok (.int 0),ST S c q):=rfl;have a2:aa (ae 2) δ (ST S c q)=some (.ok (.int p),ST S c q):=rfl;simp only [qF,ak,a1,a2,Dk,Oj];by_cases h:0<=p
  . simp only [h,decide_true,OS,ln,Dj,jm,Ot,true_and]
  . simp [h]
 refine (ao rfl).trans ?_;by_cases h:0<=p/\p<c.bx.length
 . rw [Oo h];rw [Op h] at ch;refine (Om aY (?_:_=some (.nx δ,ST S c (n8 q [p])))).trans rfl;refine (ag (δ':=δ) ((bF (jM ch)).trans rfl)).trans ?_;refine (aU (dU (ds:=[.str "get", .int p,q.line]) (bz v0 o0 (Al _ _ _)) vK (N8 _ _ _) (aK rfl (aK rfl (aK (bz v0 o0 (Ky _ _ _)) rfl))) (u8 S c q _ _ _ hl)))
 . rw [Oq h];rw [Oi h] at ch;refine (Om aY (?_:_=some (.xc (Str.ofString "Outside"),ST S c q))).trans rfl;refine rR ((cT (jM ch)).trans ?_);show i4 _ _=_;have z1:=sz 1 (by decide);simp! [δ,uS,uD,Oo z1]
theorem Bb (p:Int) (hl:q.tch.length<8000):gG [.ref S.length,.int p] (ST S c q)=Aw (km c.bx ([],.ok p)).2 (ST S c (n8 q (km c.bx ([],.ok p)).1)):=by
 let δ:DS:=[.val (.ref S.length),.val (.int p)]
 have m:bn "Goer" "touch" g9 (aa (ae 0)) (aa #[!"get",ae 1]) δ (ST S c q)=_:=jh (ds:=[.str "get", .int p]) v0 o0 (mG S c q _ (by simp)) rfl (ul S c q p hl);refine (ao rfl).trans ?_;by_cases h:0<=p/\p<c.bx.length
 . rw [Oo h] at m;simp only [km,Oo h,PP,Aw];refine (Om aY (?_:_=some (.rt (.int (c.bx[p.toNat]?.getD 0)),ST S c (n8 q [p])))).trans rfl;refine (ag (δ':=δ) (aU m)).trans ?_;exact bY (K8 (bz v0 o0 (MF _ _ _)) (i:=p) rfl o3 (GT _ _ h.1 h.2))
 . rw [Oq h] at m;simp only [km,Oq h,Aw,oO];exact (Om aY (rR (DP m))).trans rfl
end
theorem A6 {g:List W->Option W} {fa:DS->ah->SM (List W)} {δ:DS} {S S1:ah} {e:Str} (h:fa δ S=some (.xc e,S1)):fY g fa δ S=some (.xc e,S1):=by simp only [fY,ak,h]
noncomputable def pq:Tr->Nat
 | .box t=>pq t+1
 | .op _ a b=>pq a+pq b
 | _=>0
theorem uE:∀ t,pq t+1<=2^jl t
 | .num _=>by simp [pq,jl]
 | .sig _=>by simp [pq,jl]
 | .nam _=>by simp [pq,jl]
 | .box t=>by
  have:=uE t;simp only [pq,jl,Nat.pow_succ];omega
 | .op _ a b=>by
  have h1:=uE a;have h2:=uE b;have h3:2^jl a<=2^max (jl a) (jl b):=Nat.pow_le_pow_right (by decide) (Nat.le_max_left ..);have h4:2^jl b<=2^max (jl a) (jl b):=Nat.pow_le_pow_right (by decide) (Nat.le_max_right ..);simp only [pq,jl,Nat.pow_succ];omega
theorem Bz {bx:List Int} {r:Ev}:(km bx r).1.length<=r.1.length+1:=by
 unfold km;split
 . simp
 . split <;> simp
theorem Bt {k:Fin 7} {r s:Ev}:(oE k r s).1.length<=r.1.length+s.1.length:=by
 unfold oE;split
 . simp
 . split
   . simp
   . split <;> simp
theorem kx (c:Cn) (l:fQ):∀ t,(ev c l t).1.length<=pq t
 | .num _=>by simp [ev,pq]
 | .sig _=>by simp [ev,pq]
 | .nam _=>by simp [ev,pq]
 | .box t=>by
  have:=kx c l t;have:=Bz (bx:=c.bx) (r:=ev c l t);simp only [ev,pq];omega
 | .op k a b=>by
  have:=kx c l a;have:=kx c l b;have:=Bt (k:=k) (r:=ev c l a) (s:=ev c l b);simp only [ev,pq];omega
theorem Ex (bx:List Int) (r:List Int) (p:Int):km bx (r,.ok p)=(r++(km bx ([],.ok p)).1,(km bx ([],.ok p)).2):=by
 unfold km;simp only;split <;> simp
theorem Gk {fo:DS->ah->SM W} {δ:DS} {S T:ah} {r:Rz} (h:fo δ S=Aw r T):aY (eC fo δ S)=Aw r T:=by
 cases r with
 | ok v=>exact (Om aY (bY h)).trans rfl
 | no b=>exact (Om aY (GY h)).trans rfl
theorem NC (c:Cn):∀ k:Fin 3,jo (DF c) (.inr (DC k))=some (.int (Jd c k))
 | 0=>by kernel_rfl
 | 1=>by kernel_rfl
 | 2=>by kernel_rfl
section
variable (S:ah) (c:Cn)
theorem j0 {q:Qs} {r:DS}:sIx (al "Goer" "frames" (aa (ae 0))) (aa (iJ cU !1)) (.val (.ref S.length)::r) (ST S c q)=some (.ok (.ref (S.length+5)),ST S c q):=wn (es:=[]) (bz v0 o0 (M1 _ _ _)) o9
theorem rk (hc:Fq c) {l:fQ} (hn:vc l):∀ (t:Tr) (n:Nat) (q:Qs),jl t<n->Ht t->q.nm=mC l->q.tch.length+pq t<8000->aB n [.ref S.length,tw t] (ST S c q)=Aw (ev c l t).2 (ST S c (n8 q (ev c l t).1))
 | _,0,_,h,_,_,_=>absurd h (not_lt_zero _)
 | .num v,n+1,q,_,_,_,_=>by
  show bb 2 4 _ _ _=_;refine (ao rfl).trans ((Om aY (?_:_=some (.rt (.int v),ST S c q))).trans (by simp only [ev,oO];rfl));refine (ag (δ':=[.val (.ref S.length),.val (tw (.num v)),.val (.str "num"),.no]) (aG (aF (x0 rfl) rfl))).trans ?_;exact bw (bu (aE (b:=true) (tT rfl) (aJ (x1 rfl))))
 | .sig k,n+1,q,_,_,_,_=>by
  show bb 2 4 _ _ _=_;let δ:DS:=[.val (.ref S.length),.val (tw (.sig k)),.val (.str (DC k)),.no]
  refine (ao rfl).trans ((Om aY (?_:_=some (.rt (.int (Jd c k)),ST S c q))).trans (by simp only [ev,oO];rfl));refine (ag (δ':=δ) (aG (aF (x0 rfl) rfl))).trans ?_;refine (pF (a:=DC k) rfl (NK k)).trans ?_;refine (cF (a:=DC k) rfl (Oa k)).trans ?_;refine bw ((cT (av (AR rfl rfl (NI k)))).trans (bY (zO (bz v0 o0 (NJ _ _ _)) rfl o2 (NC c k))))
 | .nam x,n+1,q,_,_,hq,_=>by
  show bb 2 4 _ _ _=_;let δ:DS:=[.val (.ref S.length),.val (tw (.nam x)),.val (.str "name"),.no]
  refine (ao rfl).trans ((Om aY (?_:_=some (.rt (.int (DJ l x)),ST S c q))).trans (by simp only [ev,oO];rfl));refine (ag (δ':=δ) (aG (aF (x0 rfl) rfl))).trans ?_;refine (pF (a:=Str.ofString "name") rfl MV).trans ?_;have g:=At (fo:=al "Frame" "names" (sIx (al "Goer" "frames" (aa (ae 0))) (aa (iJ cU !1)))) (fk:=aa 1[1]!) (fx:=aa !0) (δ:=δ) (k:=x) (y:=.int 0) (bz (j0 S c) o5 (Ng _ _)) o4 (av (x1 rfl)) rfl (o4 (S:=S) (c:=c) (q:=q));rw [hq,A8] at g;exact bw ((fT rfl).trans (bY g))
 | .box t,n+1,q,hd,hr,hq,hl=>by
  simp only [jl] at hd;simp only [pq] at hl;have ih:=rk hc hn t n q (by omega) hr hq (by omega);have el:=kx c l t;show bb 2 4 _ _ _=_;let δ:DS:=[.val (.ref S.length),.val (tw (.box t)),.val (.str "box"),.no]
  have R:bn "Goer" "reckoned" (aB n) (aa (ae 0)) (aa #[1[1]!]) δ (ST S c q)=_:=jh (ds:=[tw t]) v0 o0 (mG S c q _ (by simp)) (av (fL (x1 rfl) rfl)) ih;refine (ao rfl).trans ?_;have G:bn "Goer" "got" gG (aa (ae 0)) (aD (bn "Goer" "reckoned" (aB n) (aa (ae 0)) (aa #[1[1]!])) ca) δ (ST S c q)=Aw (ev c l (.box t)).2 (ST S c (n8 q (ev c l (.box t)).1)):=by
   show _=Aw (km c.bx (ev c l t)).2 (ST S c (n8 q (km c.bx (ev c l t)).1));generalize ev c l t=r at R el ⊢;obtain ⟨rs,z⟩:=r;cases z with
   | no b=>exact Gb v0 o0 (mG S c q _ (by simp)) (yy R)
   | ok p=>
    rw [Ex,<-yW];exact jh (ds:=[.int p]) v0 o0 (mG S c q _ (by simp)) (aK R rfl) (Bb S c (n8 q rs) p (by simp only [n8,OV,O6];simp only at el;omega))
  have main:=Gk G;refine Eq.trans (Om aY ?_) main;refine (ag (δ':=δ) (aG (aF (x0 rfl) rfl))).trans ?_;refine (pF (a:=Str.ofString "box") rfl N5).trans ?_;refine (cF (a:=Str.ofString "box") rfl NE).trans ?_;refine (ag (δ':=δ) ((bF (av (AR rfl rfl NM))).trans rfl)).trans ?_;have q1:=fT (S:=ST S c q) (δ:=δ) (f:=ax 2) (a:=Str.ofString "box") (g:=eC (bn "Goer" "got" gG (aa (ae 0)) (aD (bn "Goer" "reckoned" (aB n) (aa (ae 0)) (aa #[1[1]!])) ca))) (k:=aq az) rfl;revert G;generalize (ev c l (.box t))=e;intro G;obtain ⟨e1,e2⟩:=e;cases e2 with
  | ok v=>rw [bY G];exact bw (q1.trans (bY G))
  | no b=>rw [GY G];exact rR (q1.trans (GY G))
 | .op k a b,n+1,q,hd,hr,hq,hl=>by
  simp only [jl] at hd;simp only [pq] at hl;have iha:=rk hc hn a n q (by omega) hr.1 hq (by omega);have ea:=kx c l a;have eb:=kx c l b;have ra:=sR hc hn a hr.1;have rb:=sR hc hn b hr.2;show bb 2 4 _ _ _=_;let δ:DS:=[.val (.ref S.length),.val (tw (.op k a b)),.val (.str (jt k)),.no]
  have R1:bn "Goer" "reckoned" (aB n) (aa (ae 0)) (aa #[1[1]!]) δ (ST S c q)=_:=jh (ds:=[tw a]) v0 o0 (mG S c q _ (by simp)) (av (fL (x1 rfl) rfl)) iha;have R2:∀ rs,rs.length<=pq a->bn "Goer" "reckoned" (aB n) (aa (ae 0)) (aa #[1[2]!]) δ (ST S c (n8 q rs))=Aw (ev c l b).2 (ST S c (n8 q (rs++(ev c l b).1))):=λ rs h=>by
   rw [<-yW];exact jh (ds:=[tw b]) v0 o0 (mG S c _ _ (by simp)) (av (fL (x2 rfl) rfl)) (rk hc hn b n (n8 q rs) (by omega) hr.2 hq (by simp only [n8,OV,O6];omega))
  refine (ao rfl).trans ?_;refine (Om aY (?_:_=au (cR (fY jC (aD (aa (ae 2)) (aD (bn "Goer" "reckoned" (aB n) (aa (ae 0)) (aa #[1[1]!])) (aD (bn "Goer" "reckoned" (aB n) (aa (ae 0)) (aa #[1[2]!])) ca)))) (ar 3))
   (au (bj (aa (aw gC (ax 3) (dC .none))) (nA "Nought" (aa #[!"a working that has no number"])) (aq az)) (aq (aW (ae 3)))) δ (ST S c q))).trans ?_
  . refine (ag (δ':=δ) (aG (aF (x0 rfl) rfl))).trans ?_;refine (pF (a:=jt k) rfl (MH k)).trans ?_;refine (cF (a:=jt k) rfl (Mz k)).trans ?_;refine (ag (δ':=δ) ((bF (av (AR rfl rfl (Nj k)))).trans rfl)).trans ?_;exact cF (a:=jt k) rfl (NR k)
  show aY _=Aw (oE k (ev c l a) (ev c l b)).2 (ST S c (n8 q (oE k (ev c l a) (ev c l b)).1));generalize ev c l a=A at R1 ea ra ⊢;generalize ev c l b=B at R2 eb rb ⊢;obtain ⟨as,A⟩:=A;obtain ⟨bs,B⟩:=B;cases A with
  | no z=>exact (Om aY (rR (Gy (A6 (uV rfl (yy R1)))))).trans rfl
  | ok x=>
   have R2':=R2 as ea;cases B with
   | no z=>exact (Om aY (rR (Gy (A6 (uV rfl (uV R1 (yy R2'))))))).trans rfl
   | ok y=>
    have W:=ut k (a:=x) (b:=y) ra rb;have C:fY jC (aD (aa (ae 2)) (aD (bn "Goer" "reckoned" (aB n) (aa (ae 0)) (aa #[1[1]!])) (aD (bn "Goer" "reckoned" (aB n) (aa (ae 0)) (aa #[1[2]!])) ca))) δ (ST S c q)=some (.ok (oI (wk k x y)),ST S c (n8 q (as++bs))):=by
     have:=aK (f:=aa (ae 2)) (δ:=δ) (S:=ST S c q) (d:=.str (jt k)) rfl (aK R1 (aK R2' (g:=ca) rfl));simp only [fY,ak,this,W,jm,Ot]
    refine (Om aY (ag (δ':=[.val (.ref S.length),.val (tw (.op k a b)),.val (.str (jt k)),.val (oI (wk k x y))]) (bC C rfl))).trans ?_;simp only [oE];cases wk k x y with
    | none=>
     refine (Om aY (rR (e:=Str.ofString "Nought") (S1:=ST S c (n8 q (as++bs))) ((cT (S1:=ST S c (n8 q (as++bs))) rfl).trans ?_))).trans rfl;have z1:=sz 1 (by decide);show i4 _ _=_;simp! [uS,uD,Oo z1]
    | some v=>
     refine (Om aY ((ag (δ':=[.val (.ref S.length),.val (tw (.op k a b)),.val (.str (jt k)),.val (.int v)]) ((bF (S1:=ST S c (n8 q (as++bs))) rfl).trans rfl)).trans (bu (d:=.int v) (aJ rfl)))).trans rfl
end
theorem Gf (l:List W) (b:Nat):g7 l none (some (b:Int))=l.take b:=by
 have:=xZ l 0 b;simp only [drop_zero,Nat.sub_zero] at this;rw [<-this];rfl
theorem CS.cg {S:ah} {q q':Qs} {p:Nat} {r:Bd} {K:List Kf} (h:CS S q p r K) (h1:q'.wr=q.wr) (h2:q'.dy=q.dy) (h3:q'.lp=q.lp):CS S q' p r K:=by
 obtain ⟨ks,fs,w,fr,lp⟩:=h;exact ⟨ks,fs,⟨by rw [h1,h2];exact w.l,by rw [h1];exact w.nw,w.nd,by rw [h2];exact w.w⟩,fr,by rw [h3];exact lp⟩
theorem FR.hd {f:List W×Nat} {fs:List (List W×Nat)} {p:Nat} {r:Bd} {K:List Kf} (h:FR (f::fs) p r K):FO f p r:=by cases K <;> exact h.1
theorem FR.hd' {f g:List W×Nat} {fs:List (List W×Nat)} {p p':Nat} {r r':Bd} {K:List Kf} (h:FR (f::fs) p r K) (h':FO g p' r'):FR (g::fs) p' r' K:=by cases K <;> exact ⟨h',h.2⟩
noncomputable def mX:List Kf->Option (Nat×Bd×List Kf)
 | []=>none
 | k::K=>if k.lp then some (k.p,k.r,K) else mX K
theorem Jf (k:Kf) (K:List Kf):qR (k::K)=if k.lp then qR K++[.int (K.length+1)] else qR K:=rfl
theorem vm:∀ {K:List Kf} {p:Nat} {r:Bd} {K':List Kf},mX K=some (p,r,K')->qR K=qR K'++[.int (K'.length+1)]/\K'.length+1<=K.length
 | [],_,_,_,h=>by cases h
 | k::K,p,r,K',h=>by
  unfold mX at h;rw [Jf];split at h
  . rename_i hk;cases h;rw [Oo hk];exact ⟨rfl,by simp⟩
  . rename_i hk;rw [Oq hk];have:=vm h;exact ⟨this.1,by simp;omega⟩
theorem AD:∀ {K:List Kf} {fs:List (List W×Nat)} {p:Nat} {r:Bd} {p':Nat} {r':Bd} {K':List Kf},FR fs p r K->mX K=some (p',r',K')->FR (fs.drop (fs.length-(K'.length+1))) p' r' K'
 | [],_,_,_,_,_,_,_,h=>by cases h
 | k::K,[],_,_,_,_,_,h,_=>h.elim
 | k::K,f::fs,p,r,p',r',K',fr,h=>by
  have hl:=FR.len fr.2;unfold mX at h;split at h
  . cases h;have e:(f::fs).length-(K.length+1)=1:=by simp only [Ou];omega
    rw [e];exact fr.2
  . have h2:=(vm h).2;have e:(f::fs).length-(K'.length+1)=(fs.length-(K'.length+1))+1:=by simp only [Ou];omega
    rw [e];exact AD fr.2 h
section
variable {S:ah} {c:Cn} {q:Qs} {p:Nat} {r:Bd} {K:List Kf}
theorem CS.split (h:CS S q p r K):∃ k ks f fs,WS S.length q (k::ks) (f::fs)/\FR (f::fs) p r K/\q.lp=qR K:=by
 obtain ⟨ks,fs,w,fr,lp⟩:=h;cases fs with
 | nil=>exact fr.elim
 | cons f fs=>
  cases ks with
  | nil=>exact w.w.elim
  | cons k ks=>exact ⟨k,ks,f,fs,w,fr,lp⟩
theorem ic (h:CS S q p r K) {y:W} {p2:Nat} {r2:Bd} (e:bW p r=y::bW p2 r2):∃ q',br [.ref (S.length+5)] (ST S c q)=some (.ok .none,ST S c q')/\CS S q' p2 r2 K/\dh q q':=by
 obtain ⟨k,ks,f,fs,w,fr,lp⟩:=h.split;have fo:=fr.hd;have ed:=fo.2.trans e;have hx:f.1[f.2]?=some y:=by
  have:=Om (λ z=>z[0]?) ed;simpa using this
 have hl:=(oG hx).1;refine ⟨_,yG w hx,⟨_,_,w.up (f.1,f.2+1),fr.hd' ⟨hl,?_⟩,lp⟩,rfl⟩;show f.1.drop (f.2+1)=bW p2 r2;rw [<-tail_drop,ed];rfl
theorem yh (h:CS S q p r K) (hK:K.length<900) (pb:Nat) (b:Bd):∃ q',dM [.ref (S.length+5),.list (bW pb b)] (ST S c q)=some (.ok .none,ST S c q')/\CS S q' pb b (⟨false,p,r⟩::K)/\dh q q':=by
 obtain ⟨ks,fs,w,fr,lp⟩:=h;have hl:=w.w.len;have hf:=FR.len fr;refine ⟨_,pS w (bW pb b) (by omega),⟨_,_,w.en (bW pb b),?_,lp⟩,rfl⟩;exact ⟨⟨O1 _,rfl⟩,fr⟩
theorem B0 (h:CS S q p r K) (hK:K.length<900) (pb:Nat) (b:Bd):∃ q',d7 [.ref (S.length+5),.list (bW pb b)] (ST S c q)=some (.ok .none,ST S c q')/\CS S q' pb b (⟨true,p,r⟩::K)/\dh q q':=by
 obtain ⟨ks,fs,w,fr,lp⟩:=h;have hl:=w.w.len;have hf:=FR.len fr;have hll:(qR K).length<=K.length:=by
  clear fr lp hK hf;induction K with
  | nil=>exact Ol _
  | cons k K ih=>
   unfold qR;split
   . simp;exact ih
   . simp;omega
 let q1:Qs:={ q with lp:=q.lp++[.int (K.length+1)] }
 have w1:WS S.length q1 ks fs:=⟨w.l,w.nw,w.nd,w.w⟩
 have lw:er (al "Frame" "walks" (aa (ae 0))) [.val (.ref (S.length+5)),.val (.list (bW pb b))] (ST S c q)=some (.ok (.int (K.length+1)),ST S c q):=by
  have:=pA (bz (v0 (r:=[.val (.list (bW pb b))])) (o5 (S:=S) (c:=c) (q:=q)) (Gc _ _)) (gD w.l);rw [this];have e:((pj S.length ks).length:Int)=(K.length:Int)+1:=by simp [pj];omega
  rw [e]
 have s1:bT (al "Frame" "loops" (aa (ae 0))) (er (al "Frame" "walks" (aa (ae 0)))) [.val (.ref (S.length+5)),.val (.list (bW pb b))] (ST S c q)=some (.nx [.val (.ref (S.length+5)),.val (.list (bW pb b))],ST S c q1):=by
  refine (oW (bz v0 o5 (IW _ _)) o8 lw o8 (by rw [lp];omega)).trans ?_;rw [w8]
 refine ⟨_,(ao rfl).trans ((Om aY ((ag s1).trans (aU (dU (fa:=aa #[ae 1]) v0 o5 (Mu _ _) (ds:=[.list (bW pb b)]) rfl (pS w1 (bW pb b) (by omega)))))).trans rfl),⟨_,_,w1.en (bW pb b),⟨⟨O1 _,rfl⟩,fr⟩,?_⟩,rfl⟩;show q.lp++[.int (K.length+1)]=qR (⟨true,p,r⟩::K);rw [lp];rfl
theorem sY (h:CS S q p r K) {p':Nat} {r':Bd} {K':List Kf} (hu:mX K=some (p',r',K')):∃ q',d8 [.ref (S.length+5)] (ST S c q)=some (.ok .none,ST S c q')/\CS S q' p' r' K'/\dh q q':=by
 obtain ⟨ks,fs,w,fr,lp⟩:=h;have hl:=w.w.len;have hf:=FR.len fr;obtain ⟨u1,u2⟩:=vm hu;let m:=fs.length-(K'.length+1);let q1:Qs:={ q with lp:=qR K' }
 have tk:(pj S.length ks).take (K'.length+1)=pj S.length (ks.drop m):=by
  unfold pj;rw [map_drop,List.take_reverse];congr 2;simp [m];omega
 let o:Ob:=.lst (pj S.length (ks.drop m));let q2:Qs:={ q1 with dy:=xP q.dy o }
 let q3:Qs:={ q2 with wr:=18+q.dy.X.length }
 have pp:mh (al "Frame" "loops" (aa (ae 0))) [.val (.ref (S.length+5))] (ST S c q)=some (.ok (.int (K'.length+1)),ST S c q1):=by
  refine (y7 (es:=qR K') (d:=.int (K'.length+1)) (bz v0 o5 (IW _ _)) (by rw [o8,lp,u1])).trans ?_;rw [w8]
 have sl:AT (al "Frame" "walks" (aa (ae 0))) (mh (al "Frame" "loops" (aa (ae 0)))) [.val (.ref (S.length+5))] (ST S c q)=some (.ok (.ref (S.length+(18+q.dy.X.length))),ST S c q2):=by
  have e1:al "Frame" "walks" (aa (ae 0)) [.val (.ref (S.length+5))] (ST S c q)=some (.ok (.ref (S.length+q.wr)),ST S c q):=bz v0 o5 (Gc _ _);have e2:dI (.ref (S.length+q.wr)) (ST S c q1)=some (S.length+q.wr,pj S.length ks):=dY (gD (q:=q1) w.l);have e3:wg (.int ((K'.length:Int)+1))=some ((K'.length:Int)+1):=rfl;have e4:g7 (pj S.length ks) none (some ((K'.length:Int)+1))=pj S.length (ks.drop m):=by
   rw [<-tk];exact Gf _ (K'.length+1)
  simp only [AT,ak,e1,pp,e2,e3,Oj,e4];rw [pD,zv]
 have F:=BM (c := "Frame") (f := "walks") (fo:=aa (ae 0)) sl v0 (o5 (q:=q2)) (by simp [qZ]);rw [Ny,w5] at F;refine ⟨q3,(ao rfl).trans ((Om aY F).trans rfl),⟨ks.drop m,fs.drop m,⟨?_,?_,?_,?_⟩,AD fr hu,rfl⟩,rfl⟩
 . show ko (xP q.dy o) (18+q.dy.X.length)=_;rw [kO,Oo rfl]
 . exact λ z=>w.w.nin (List.mem_of_mem_drop z)
 . exact w.nd.drop
 . exact (w.w.drop m).push
end
noncomputable def nr (l:fQ) (x:Str) (v:Int):fQ:=if (l.any λ p=>decide (p.1=x))=true then l.map λ p=>if p.1=x then (p.1,v) else p else l++[(x,v)]
theorem vM (l:fQ) (x:Str) (v:Int):jA (mC l) (.inr x) (.int v)=mC (nr l x v):=by
 have e:((mC l).any λ kv=>decide (kv.1=(Sum.inr x:bR)))=l.any λ p=>decide (p.1=x):=by
  unfold mC;rw [List.any_map];congr 1;funext p;simp
 unfold jA nr;rw [e];split
 . unfold mC;rw [map_map,map_map];congr 1;funext p;by_cases h:p.1=x
   . simp [h]
   . have:¬ (Sum.inr p.1:bR)=Sum.inr x:=λ z=>h (Sum.inr.inj z);simp [h]
 . simp [mC]
theorem vc.put {l:fQ} (h:vc l) (x:Str) {v:Int} (hv:Rg v):vc (nr l x v):=by
 unfold nr;split
 . intro p hp;obtain ⟨p',h1,rfl⟩:=PM.mp hp;by_cases e:p'.1=x
   . simp only [e,OS];exact hv
   . simp only [e,OX];exact h p' h1
 . intro p hp;rcases Pp.mp hp with hp | hp
   . exact h p hp
   . rw [OW.mp hp];exact hv
theorem As (l:fQ) (x:Str) (v:Int):(nr l x v).length<=l.length+1:=by
 unfold nr;split <;> simp
noncomputable def c0:Cn:=⟨.none,0,0,0,[],0,[]⟩
noncomputable def nb:Tr->Prop
 | .num v=>Rg v
 | .nam _=>True
 | .op k a b=>k≠3/\nb a/\nb b
 | _=>False
theorem qu:∀ t,nb t->Ht t
 | .num _,h=>h
 | .nam _,_=>trivial
 | .op _ a b,h=>⟨qu a h.2.1,qu b h.2.2⟩
 | .sig _,h=>h.elim
 | .box _,h=>h.elim
theorem zJ (c:Cn) (l:fQ):∀ t,nb t->ev c l t=ev c0 l t
 | .num _,_=>rfl
 | .nam _,_=>rfl
 | .op k a b,h=>by simp only [ev];rw [zJ c l a h.2.1,zJ c l b h.2.2]
 | .sig _,h=>h.elim
 | .box _,h=>h.elim
theorem vQ:∀ t,nb t->pq t=0
 | .num _,_=>rfl
 | .nam _,_=>rfl
 | .op k a b,h=>by simp only [pq];rw [vQ a h.2.1,vQ b h.2.2]
 | .sig _,h=>h.elim
 | .box _,h=>h.elim
theorem J5 (l:fQ) {t:Tr} (h:nb t):(ev c0 l t).1=[]:=by
 have:=kx c0 l t;rw [vQ t h] at this;exact List.eq_nil_of_length_eq_zero (by omega)
theorem zG (l:fQ):∀ t,nb t->∀ b,(ev c0 l t).2=.no b->b=true
 | .num _,_,b,h=>by cases h
 | .nam _,_,b,h=>by cases h
 | .op k x y,hn,b,h=>by
  have h1:=zG l x hn.2.1;have h2:=zG l y hn.2.2;simp only [ev,oE] at h;cases hx:(ev c0 l x).2 with
  | no z=>
   rw [hx] at h;dsimp only at h;cases h;exact h1 _ hx
  | ok v=>
   rw [hx] at h;cases hy:(ev c0 l y).2 with
   | no z=>
    rw [hy] at h;dsimp only at h;cases h;exact h2 _ hy
   | ok u=>
    rw [hy] at h;simp only at h;cases hw:wk k v u with
    | none=>rw [hw] at h;dsimp only at h;cases h;rfl
    | some z=>rw [hw] at h;cases h
 | .sig _,h,_,_=>h.elim
 | .box _,h,_,_=>h.elim
noncomputable def x5 (y:Str):Tr->Prop
 | .nam x=>x=y
 | .box t=>x5 y t
 | .op _ a b=>x5 y a∨x5 y b
 | _=>False
noncomputable def pk (y:Str):Prop:=y.cps.size<=8/\∀ x∈y.cps.toList,x<1000
structure GX (t:Tr):Prop where
 nb:nb t
 dp:jl t<=1
 sh:∀ y,x5 y t->pk y
noncomputable def wo:Tr->Prop
 | .op k _ _=>k≠4
 | _=>True
theorem ik (l:fQ) {t:Tr} (g:GX t) (h:wo t):∃ v,(ev c0 l t).2=.ok v:=by
 obtain ⟨n,d,_⟩:=g;cases t with
 | num v=>exact ⟨_,rfl⟩
 | nam x=>exact ⟨_,rfl⟩
 | sig k=>exact n.elim
 | box t=>exact n.elim
 | op k a b=>
  simp only [jl] at d;have leaf:∀ t:Tr,nb t->jl t=0->∃ v,(ev c0 l t).2=.ok v:=λ t n d=>by
   cases t with
   | num v=>exact ⟨_,rfl⟩
   | nam x=>exact ⟨_,rfl⟩
   | sig k=>exact n.elim
   | box t=>exact n.elim
   | op k a b=>simp [jl] at d
  obtain ⟨v,hv⟩:=leaf a n.2.1 (by omega);obtain ⟨u,hu⟩:=leaf b n.2.2 (by omega);refine ⟨wr (unw k v u),?_⟩;have:wk k v u=some (wr (unw k v u)):=Oq λ z=>z.1.elim n.1 h;simp only [ev,oE,hv,hu,this]
inductive Ac where
 | go (p:Nat) (r:Bd) (K:List Kf) (l:fQ) (tl:List W)
 | nt
 | stop
noncomputable def qO (l:fQ) (t:Tr) (a b:Ac):Ac:=match (ev c0 l t).2 with
 | .ok v=>if v=0 then b else a
 | .no _=>.nt
noncomputable def act (l:fQ) (p:Nat) (r:Bd) (K:List Kf):Ac:=match r with
 | .nil=>.stop
 | .set x t r=>match (ev c0 l t).2 with
  | .ok v=>.go (p+1) r K (nr l x v) []
  | .no _=>.nt
 | .tell t r=>match (ev c0 l t).2 with
  | .ok v=>.go (p+1) r K l [.int v]
  | .no _=>.nt
 | .ifs t y r=>qO l t (.go (p+1) y (⟨false,p+2+y.len,r⟩::K) l []) (.go (p+2+y.len) r K l [])
 | .ife t y n r=>qO l t (.go (p+1) y (⟨false,p+3+y.len+n.len,r⟩::K) l []) (.go (p+2+y.len) n (⟨false,p+3+y.len+n.len,r⟩::K) l [])
 | .whl t b r=>qO l t (.go (p+1) b (⟨true,p,.whl t b r⟩::K) l []) (.go (p+2+b.len) r K l [])
 | .brk _=>match mX K with
  | some (p',.whl _ b r',K')=>.go (p'+2+b.len) r' K' l []
  | _=>.stop
 | .agn _=>match mX K with
  | some (p',r',K')=>.go p' r' K' l []
  | none=>.stop
 | .stp _=>.stop
structure QI (c:Cn) (q:Qs) (l:fQ):Prop where
 hc:Fq c
 nm:q.nm=mC l
 rg:vc l
 ll:l.length<7000
 to:q.told.length<7000
 ln:q.lns.length<7000
 tc:q.tch=[]
structure SX (q q':Qs):Prop where
 line:q'.line=q.line
 steps:q'.steps=q.steps
 lns:q'.lns=q.lns
 tch:q'.tch=q.tch
theorem dh.sx {q q':Qs} (h:dh q q'):SX q q':=by
 unfold dh at h;rw [h];exact ⟨rfl,rfl,rfl,rfl⟩
theorem dh.nm {q q':Qs} (h:dh q q'):q'.nm=q.nm:=by unfold dh at h;rw [h]
theorem dh.told {q q':Qs} (h:dh q q'):q'.told=q.told:=by unfold dh at h;rw [h]
theorem dh.fin {q q':Qs} (h:dh q q'):q'.fin=q.fin:=by unfold dh at h;rw [h]
theorem QI.same {c:Cn} {q q':Qs} {l:fQ} (h:QI c q l) (s:dh q q'):QI c q' l:=⟨h.hc,s.nm.trans h.nm,h.rg,h.ll,by rw [s.told];exact h.to,by rw [s.sx.lns];exact h.ln,s.sx.tch.trans h.tc⟩
theorem Je {n:Bool} {a b:Int} {fo fi:DS->ah->SM W} {δ:DS} {S S1 S2:ah} (h1:fo δ S=some (.ok (.int a),S1)) (h2:fi δ S1=some (.ok (.int b),S2)):iK true fo fi δ S=some (.ok (!decide (a=b)),S2):=by
 have:jV true (.int a) (.int b) S2=some (!decide (a=b)):=rfl;simp only [iK,ak,h1,h2,this,jm,Ot]
theorem Mp {n:Bool} {fo fi:DS->ah->SM W} {δ:DS} {S S1:ah} {e:Str} (h1:fo δ S=some (.xc e,S1)):iK n fo fi δ S=some (.xc e,S1):=by simp only [iK,ak,h1]
theorem Lx {t:DS->ah->SM Bool} {f g:DS->ah->SO} {δ:DS} {S S1:ah} {e:Str} (h:t δ S=some (.xc e,S1)):bj t f g δ S=some (.xc e,S1):=by unfold bj;rw [h];rfl
theorem Lo {t:DS->ah->SM Bool} {fo fi:DS->ah->SM W} {δ:DS} {S S1:ah} {e:Str} (h:t δ S=some (.xc e,S1)):CF t fo fi δ S=some (.xc e,S1):=by simp only [CF,ak,h]
theorem kq:(∀ w∈["set", "tell", "if", "break", "again", "stop"],decide (Str.ofString w=Str.ofString "while")=false)/\(∀ w∈["tell", "if", "break", "again", "stop"],decide (Str.ofString w=Str.ofString "set")=false/\decide (Str.ofString w=Str.ofString "put")=false)/\(∀ w∈["if", "break", "again", "stop"],decide (Str.ofString w=Str.ofString "tell")=false)/\(∀ w∈["break", "again", "stop"],decide (Str.ofString w=Str.ofString "if")=false/\decide (Str.ofString w=Str.ofString "call")=false/\decide (Str.ofString w=Str.ofString "return")=false)/\(∀ w∈["break", "again"],decide (Str.ofString w=Str.ofString "stop")=false)/\decide (Str.ofString "again" = Str.ofString "break")=false:=by decide +kernel
theorem kin:∀ w∈["break", "again", "stop"],pi (sW w) (.tuple [sW "meet", sW "join"])=some false:=by
 intro w hw;simp only [Ow,Ox,PN] at hw;rcases hw with rfl | rfl | rfl <;> kernel_rfl
section
variable {S:ah} {c:Cn}
theorem Lw {q:Qs} {l:fQ} (i:QI c q l) {t:Tr} (g:GX t):aB 9 [.ref S.length,tw t] (ST S c q)=Aw (ev c0 l t).2 (ST S c q):=by
 have:=rk S c i.hc i.rg t 9 q (by have:=g.dp;omega) (qu t g.nb) i.nm (by rw [i.tc,vQ t g.nb];simp);rw [zJ c l t g.nb,J5 l g.nb,oO] at this;exact this
theorem zK {q:Qs} {l:fQ} (i:QI c q l) (x:Str) (v:Int):ig [.ref S.length,.str x,.int v] (ST S c q)=some (.ok .none,ST S c { q with nm:=mC (nr l x v) }):=by
 refine (ao rfl).trans ((Om aY (?_:_=some (.nx [.val (.ref S.length),.val (.str x),.val (.int v)],ST S c { q with nm:=mC (nr l x v) }))).trans rfl);refine (xQ (d:=.int v) (k:=x) rfl (bz (j0 S c) o5 (Ng _ _)) rfl o4 (by rw [i.nm];have:=i.ll;simp [mC];omega)).trans ?_;rw [w4,i.nm,vM];rfl
noncomputable def C6 (S:ah) (c:Cn) (q:Qs) (l:fQ) (y:W) (a:Ac):Prop:=∃ q',SX q q'/\(match a with
 | .go p' r' K' l' tl=>bX [.ref S.length,y] (ST S c q)=some (.ok .none,ST S c q')/\CS S q' p' r' K'/\q'.nm=mC l'/\q'.told=q.told++tl/\q'.fin=q.fin
 | .nt=>bX [.ref S.length,y] (ST S c q)=some (.xc (Str.ofString "Nought"),ST S c q')/\q'.told=q.told/\q'.fin=q.fin
 | .stop=>bX [.ref S.length,y] (ST S c q)=some (.ok .none,ST S c q')/\q'.told=q.told/\q'.fin=.tuple [sW "done", q.line])
theorem vG {q q':Qs} {y:W} {k:Str} {w:String} (hk:k=Str.ofString w) (hy:∃ l,y=.tuple (.str k::l)) (hw:decide (k=Str.ofString "while")=false) (e:br [.ref (S.length+5)] (ST S c q)=some (.ok .none,ST S c q')):
 bX [.ref S.length,y] (ST S c q)=aY (bj (aa (aw bh (ax 2) !"set")) (aS (bH "Goer" "give" ig (aa (ae 0)) (aD (aa 1[2]!) (aD (bn "Goer" "reckoned" (aB 9) (aa (ae 0)) (aa #[1[3]!])) ca))))
  (bj (aa (aw bh (ax 2) !"put")) (aq fO)
  (bj (aa (aw bh (ax 2) !"tell")) (bT (al "Story" "told" (al "Goer" "story" (aa (ae 0)))) (bn "Goer" "reckoned" (aB 9) (aa (ae 0)) (aa #[1[2]!])))
  (bj (aa (aw bh (ax 2) !"if")) (aS (bn "Goer" "do_if" eQ (aa (ae 0)) (aa #[ae 1])))
  (bj (aa (aw bh (ax 2) !"call")) (aq fO)
  (bj (aa (aw pi (ax 2) (bv #[!"meet",!"join"]))) (aq fO)
  (aS (bH "Goer" "leave" fI (aa (ae 0)) (aa #[ae 1])))))))) [.val (.ref S.length),.val y,.val (.str k)] (ST S c q')):=by
 obtain ⟨l,rfl⟩:=hy;refine (ao rfl).trans (Om aY ?_);refine (ag (δ':=[.val (.ref S.length),.val (.tuple (.str k::l)),.val (.str k)]) (aG (aF (x0 rfl) rfl))).trans ?_;refine (cF (a:=k) rfl hw).trans ?_;exact ag (aU (dU (j0 S c) o5 (KS _ _) (ds:=[]) rfl e))
theorem EE {q:Qs} {l:fQ} (i:QI c q l) {p:Nat} {x:Str} {t:Tr} {r:Bd} {K:List Kf} (h:CS S q p (.set x t r) K) (g:GX t) (hs:wo t):C6 S c q l (.tuple [sW "set", bL p,.str x,tw t]) (act l p (.set x t r) K):=by
 obtain ⟨v,hv⟩:=ik l g hs;obtain ⟨q1,e1,c1,s1⟩:=ic (c:=c) h (p2:=p+1) (r2:=r) rfl;have i1:=i.same s1;have R:=Lw (S:=S) i1 g;rw [hv] at R;simp only [act,hv];refine ⟨{ q1 with nm:=mC (nr l x v) },⟨s1.sx.line,s1.sx.steps,s1.sx.lns,s1.sx.tch⟩,?_,c1.cg rfl rfl rfl,rfl,by rw [Oz];exact s1.told,s1.fin⟩;refine (vG (k:=Str.ofString "set") (w := "set") rfl ⟨_,rfl⟩ (kq.1 _ (by simp)) e1).trans ?_;refine (Om aY ((fT rfl).trans (aU (dU v0 o0 (mG S c _ _ (by simp)) (aK (av (x2 rfl)) (aK (jh (ds:=[tw t]) v0 o0 (mG S c _ _ (by simp)) (av (fL (x3 rfl) rfl)) R) rfl)) (zK i1 x v))))).trans rfl
theorem Bv {q:Qs} {l:fQ} (i:QI c q l) {p:Nat} {t:Tr} {r:Bd} {K:List Kf} (h:CS S q p (.tell t r) K) (g:GX t) (hs:wo t):C6 S c q l (.tuple [sW "tell", bL p,tw t]) (act l p (.tell t r) K):=by
 obtain ⟨v,hv⟩:=ik l g hs;obtain ⟨q1,e1,c1,s1⟩:=ic (c:=c) h (p2:=p+1) (r2:=r) rfl;have i1:=i.same s1;have R:=Lw (S:=S) i1 g;rw [hv] at R;simp only [act,hv];have k2:=kq.2.1 "tell" (by simp);refine ⟨{ q1 with told:=q1.told++[.int v] },⟨s1.sx.line,s1.sx.steps,s1.sx.lns,s1.sx.tch⟩,?_,c1.cg rfl rfl rfl,i1.nm,by show q1.told++_=_;rw [s1.told],s1.fin⟩;refine (vG (k:=Str.ofString "tell") (w := "tell") rfl ⟨_,rfl⟩ (kq.1 _ (by simp)) e1).trans ?_;have st:al "Story" "told" (al "Goer" "story" (aa (ae 0))) [.val (.ref S.length),.val (.tuple [sW "tell", bL p,tw t]),.val (.str "tell")] (ST S c q1)=some (.ok (.ref (S.length+11)),ST S c q1):=bz (bz v0 o0 (Al _ _ _)) vK (KO _ _ _);refine (Om aY ((fF rfl k2.1).trans ((fF rfl k2.2).trans ((fT rfl).trans ((oW st LQ (jh (ds:=[tw t]) v0 o0 (mG S c _ _ (by simp)) (av (fL (x2 rfl) rfl)) R) LQ (by have:=i1.to;omega)).trans (by rw [NO])))))).trans rfl
end
noncomputable def zW:Option (Nat×Bd)->W
 | none=>.none
 | some x=>.list (bW x.1 x.2)
noncomputable def zC (S:ah) (q:Qs) (p:Nat) (r:Bd) (K:List Kf):Option (Nat×Bd)->Prop
 | none=>CS S q p r K
 | some x=>CS S q x.1 x.2 (⟨false,p,r⟩::K)
noncomputable def zA (p:Nat) (r:Bd) (K:List Kf) (l:fQ):Option (Nat×Bd)->Ac
 | none=>.go p r K l []
 | some x=>.go x.1 x.2 (⟨false,p,r⟩::K) l []
section
variable {S:ah} {c:Cn}
theorem MA {q:Qs} {l:fQ} (i:QI c q l) {t:Tr} (g:GX t) {a b y:W} {z:List W} {s:DS} (hy:y=.tuple (a::b::tw t::z)):iK true (bn "Goer" "reckoned" (aB 9) (aa (ae 0)) (aa #[1[2]!])) (aa !0) (.val (.ref S.length)::.val y::s) (ST S c q)=(match (ev c0 l t).2 with
 | .ok v=>some (.ok (!decide (v=0)),ST S c q)
 | .no _=>some (.xc (Str.ofString "Nought"),ST S c q)):=by
 subst hy;have R:bn "Goer" "reckoned" (aB 9) (aa (ae 0)) (aa #[1[2]!]) (.val (.ref S.length)::.val (.tuple (a::b::tw t::z))::s) (ST S c q)=_:=jh (ds:=[tw t]) v0 o0 (mG S c _ _ (by simp)) (av (fL (x2 rfl) rfl)) (Lw (S:=S) i g);cases he:(ev c0 l t).2 with
 | ok v=>
  rw [he] at R;exact Je (n:=true) R rfl
 | no b=>
  rw [he,zG l t g.nb b he] at R;exact Mp R
theorem Lc {q:Qs} {l:fQ} (i:QI c q l) {t:Tr} (g:GX t) {a b y:W} {pb:Nat} {yb:Bd} {z:Option (Nat×Bd)} (hy:y=.tuple [a,b,tw t,.list (bW pb yb),zW z]) {p:Nat} {r:Bd} {K:List Kf} (h:CS S q p r K) (hK:K.length<900):match (ev c0 l t).2 with
 | .ok v=>∃ q',eQ [.ref S.length,y] (ST S c q)=some (.ok .none,ST S c q')/\dh q q'/\(if v=0 then zC S q' p r K z else CS S q' pb yb (⟨false,p,r⟩::K))
 | .no _=>eQ [.ref S.length,y] (ST S c q)=some (.xc (Str.ofString "Nought"),ST S c q):=by
 have T:=MA (S:=S) i g (s:=[.no]) hy;have en:∀ (pb:Nat) (yb:Bd),∃ q',bj (aa (aw iF (ax 2) (dC .none))) (aS (bH "Frame" "enter" dM (sIx (al "Goer" "frames" (aa (ae 0))) (aa (iJ cU !1))) (aa #[ae 2]))) (aq az) [.val (.ref S.length),.val y,.val (.list (bW pb yb))] (ST S c q)=some (.nx [.val (.ref S.length),.val y,.val (.list (bW pb yb))],ST S c q')/\dh q q'/\CS S q' pb yb (⟨false,p,r⟩::K):=λ pb yb=>by
  obtain ⟨q',e,c',s'⟩:=yh (c:=c) h hK pb yb;exact ⟨q',(cT (S1:=ST S c q) rfl).trans (aU (dU (j0 S c) o5 (Mu _ _) (ds:=[.list (bW pb yb)]) rfl e)),s',c'⟩
 cases he:(ev c0 l t).2 with
 | no b=>
  rw [he] at T;exact (ao rfl).trans ((Om aY (rR (Gy (Lo T)))).trans rfl)
 | ok v=>
  rw [he] at T;dsimp only at T ⊢;by_cases hv:v=0
  . rw [Op hv] at T;simp only [hv,OS];cases z with
    | none=>
     refine ⟨q,(ao rfl).trans ((Om aY ((ag (δ':=[.val (.ref S.length),.val y,.val .none]) (bC (zB T (av ?_)) rfl)).trans ((bF (S1:=ST S c q) rfl).trans rfl))).trans rfl),rfl,h⟩;rw [hy];exact x4 rfl
    | some x=>
     obtain ⟨q',e,s',c'⟩:=en x.1 x.2;refine ⟨q',(ao rfl).trans ((Om aY ((ag (δ':=[.val (.ref S.length),.val y,.val (.list (bW x.1 x.2))]) (bC (zB T (av ?_)) rfl)).trans e)).trans rfl),s',c'⟩;rw [hy];exact x4 rfl
  . rw [Oi hv] at T;simp only [hv,OX];obtain ⟨q',e,s',c'⟩:=en pb yb;refine ⟨q',(ao rfl).trans ((Om aY ((ag (δ':=[.val (.ref S.length),.val y,.val (.list (bW pb yb))]) (bC (D2 T (av ?_)) rfl)).trans e)).trans rfl),s',c'⟩;rw [hy];exact x3 rfl
theorem qv {q:Qs} {l:fQ} (i:QI c q l) {p:Nat} {r:Bd} {t:Tr} {y:Bd} {z:Option (Nat×Bd)} {p2:Nat} {r2:Bd} {K:List Kf} (h:CS S q p r K) (hK:K.length<900) (g:GX t) (hb:bW p r=.tuple [sW "if", bL p,tw t,.list (bW (p+1) y),zW z]::bW p2 r2):
 C6 S c q l (.tuple [sW "if", bL p,tw t,.list (bW (p+1) y),zW z]) (qO l t (.go (p+1) y (⟨false,p2,r2⟩::K) l []) (zA p2 r2 K l z)):=by
 obtain ⟨q1,e1,c1,s1⟩:=ic (c:=c) h hb;have i1:=i.same s1;have D:=Lc (S:=S) i1 g (y:=.tuple [sW "if", bL p,tw t,.list (bW (p+1) y),zW z]) rfl c1 hK;have k2:=kq.2.1 "if" (by simp);have pre:∀ {r:SM W},bn "Goer" "do_if" eQ (aa (ae 0)) (aa #[ae 1]) [.val (.ref S.length),.val (.tuple [sW "if", bL p,tw t,.list (bW (p+1) y),zW z]),.val (.str "if")] (ST S c q1)=r->bX [.ref S.length,.tuple [sW "if", bL p,tw t,.list (bW (p+1) y),zW z]] (ST S c q)=aY (aS (λ _ _=>r) [.val (.ref S.length),.val (.tuple [sW "if", bL p,tw t,.list (bW (p+1) y),zW z]),.val (.str "if")] (ST S c q1)):=λ {r} e=>by
  refine (vG (k:=Str.ofString "if") (w := "if") rfl ⟨_,rfl⟩ (kq.1 _ (by simp)) e1).trans ?_;refine Om aY ((fF rfl k2.1).trans ((fF rfl k2.2).trans ((fF rfl (kq.2.2.1 _ (by simp))).trans ((fT rfl).trans ?_))));exact Om (λ x=>i4 x λ (_:W) S1=>some (oY.nx [.val (.ref S.length),.val (.tuple [sW "if", bL p,tw t,.list (bW (p+1) y),zW z]),.val (.str "if")],S1)) e
 unfold qO;cases he:(ev c0 l t).2 with
 | no b=>
  rw [he] at D;refine ⟨q1,s1.sx,?_,s1.told,s1.fin⟩;rw [pre (jh v0 o0 (mG S c _ _ (by simp)) (ds:=[.tuple [sW "if", bL p,tw t,.list (bW (p+1) y),zW z]]) rfl D)];rfl
 | ok v=>
  rw [he] at D;dsimp only at D ⊢;obtain ⟨q',e,s',cc⟩:=D;have st:=s1.tr s';have e2:bX [.ref S.length,.tuple [sW "if", bL p,tw t,.list (bW (p+1) y),zW z]] (ST S c q)=some (.ok .none,ST S c q'):=by
   rw [pre (jh v0 o0 (mG S c _ _ (by simp)) (ds:=[.tuple [sW "if", bL p,tw t,.list (bW (p+1) y),zW z]]) rfl e)];rfl
  have fin:∀ {p':Nat} {r':Bd} {K':List Kf},CS S q' p' r' K'->C6 S c q l (.tuple [sW "if", bL p,tw t,.list (bW (p+1) y),zW z]) (.go p' r' K' l []):=λ hc=>⟨q',st.sx,e2,hc,st.nm.trans i.nm,by rw [Oz];exact st.told,st.fin⟩
  by_cases hv:v=0
  . simp only [hv,OS] at cc ⊢;cases z with
    | none=>exact fin cc
    | some x=>exact fin cc
  . simp only [hv,OX] at cc ⊢;exact fin cc
theorem EY {q:Qs} {l:fQ} (i:QI c q l) {p:Nat} {t:Tr} {b r:Bd} {K:List Kf} (h:CS S q p (.whl t b r) K) (hK:K.length<900) (g:GX t):C6 S c q l (.tuple [sW "while", bL p,tw t,.list (bW (p+1) b)]) (act l p (.whl t b r) K):=by
 let y:W:=.tuple [sW "while", bL p,tw t,.list (bW (p+1) b)];let δ:DS:=[.val (.ref S.length),.val y,.val (.ref (S.length+5))]
 have T:=MA (S:=S) i g (s:=[.val (.ref (S.length+5))]) (y:=y) rfl;have v2:∀ T:ah,aa (ae 2) δ T=some (.ok (.ref (S.length+5)),T):=λ _=>rfl;have a1:cR (sIx (al "Goer" "frames" (aa (ae 0))) (aa (iJ cU !1))) (ar 2) [.val (.ref S.length),.val y,.no] (ST S c q)=some (.nx δ,ST S c q):=bC (j0 S c) rfl;have D:∀ {o:SO},bj (iK true (bn "Goer" "reckoned" (aB 9) (aa (ae 0)) (aa #[1[2]!])) (aa !0)) (aS (bH "Frame" "enter_loop" d7 (aa (ae 2)) (aa #[1[3]!]))) (aS (bH "Frame" "pass_by" br (aa (ae 2)) (aa aj))) δ (ST S c q)=o->cE [.ref S.length,y] (ST S c q)=aY o:=λ {o} e=>(ao rfl).trans (Om aY ((ag a1).trans e));have pre:∀ {r:SM W},cE [.ref S.length,y] (ST S c q)=r->bX [.ref S.length,y] (ST S c q)=aY (au (aS (λ _ _=>r)) (aq oA) [.val (.ref S.length),.val y,.val (.str "while")] (ST S c q))∨True:=λ _=>.inr trivial;have go:∀ {q':Qs},cE [.ref S.length,y] (ST S c q)=some (.ok .none,ST S c q')->bX [.ref S.length,y] (ST S c q)=some (.ok .none,ST S c q'):=λ {q'} e=>by
  refine (ao rfl).trans ((Om aY (?_:_=some (.rt .none,ST S c q'))).trans rfl);refine (ag (δ':=[.val (.ref S.length),.val y,.val (.str "while")]) (aG (aF (x0 rfl) rfl))).trans ?_;refine bw ((fT rfl).trans ((ag (aU (jh v0 o0 (mG S c _ _ (by simp)) (ds:=[y]) rfl e))).trans rfl))
 have goX:cE [.ref S.length,y] (ST S c q)=some (.xc (Str.ofString "Nought"),ST S c q)->bX [.ref S.length,y] (ST S c q)=some (.xc (Str.ofString "Nought"),ST S c q):=λ e=>by
  refine (ao rfl).trans ((Om aY (?_:_=some (.xc (Str.ofString "Nought"),ST S c q))).trans rfl);refine (ag (δ':=[.val (.ref S.length),.val y,.val (.str "while")]) (aG (aF (x0 rfl) rfl))).trans ?_;exact rR ((fT rfl).trans (rR (DP (jh v0 o0 (mG S c _ _ (by simp)) (ds:=[y]) rfl e))))
 rw [show act l p (.whl t b r) K=qO l t (.go (p+1) b (⟨true,p,.whl t b r⟩::K) l []) (.go (p+2+b.len) r K l []) from rfl];unfold qO;cases he:(ev c0 l t).2 with
 | no b=>
  rw [he] at T;exact ⟨q,⟨rfl,rfl,rfl,rfl⟩,goX ((D (Lx T)).trans rfl),rfl,rfl⟩
 | ok v=>
  rw [he] at T;dsimp only at T ⊢;by_cases hv:v=0
  . rw [Op hv] at T;simp only [hv,OS];obtain ⟨q',e,c',s'⟩:=ic (c:=c) h (p2:=p+2+b.len) (r2:=r) rfl;exact ⟨q',s'.sx,go ((D ((bF T).trans (aU (dU (v2 _) o5 (KS _ _) (ds:=[]) rfl e)))).trans rfl),c',s'.nm.trans i.nm,by rw [Oz];exact s'.told,s'.fin⟩
  . rw [Oi hv] at T;simp only [hv,OX];obtain ⟨q',e,c',s'⟩:=B0 (c:=c) h hK (p+1) b;exact ⟨q',s'.sx,go ((D ((cT T).trans (aU (dU (v2 _) o5 (Of _ _) (ds:=[.list (bW (p+1) b)]) (av (fL (x3 rfl) rfl)) e)))).trans rfl),c',s'.nm.trans i.nm,by rw [Oz];exact s'.told,s'.fin⟩
end
noncomputable def ni (K:List Kf):Bd->Prop
 | .nil=>False
 | .set _ t _=>GX t/\wo t
 | .tell t _=>GX t/\wo t
 | .ifs t _ _=>GX t
 | .ife t _ _ _=>GX t
 | .whl t _ _=>GX t
 | .brk _=>∃ p t b r K',mX K=some (p,.whl t b r,K')
 | .agn _=>∃ p t b r K',mX K=some (p,.whl t b r,K')
 | .stp _=>True
section
variable {S:ah} {c:Cn}
theorem Ap {q q1 q':Qs} {y:W} {w:String} (hw:w∈["break", "again", "stop"]) (hy:y=.tuple [sW w,q.line]) (e1:br [.ref (S.length+5)] (ST S c q)=some (.ok .none,ST S c q1)) (e2:fI [.ref S.length,y] (ST S c q1)=some (.ok .none,ST S c q')):bX [.ref S.length,y] (ST S c q)=some (.ok .none,ST S c q'):=by
 have hw1:w∈["tell", "if", "break", "again", "stop"]:=OH _ (OH _ hw);have k2:=kq.2.1 w hw1;have k3:=kq.2.2.1 w (OH _ hw);have k4:=kq.2.2.2.1 w hw;refine (vG (k:=Str.ofString w) (w:=w) rfl ⟨[q.line],hy⟩ (kq.1 w (OH _ hw1)) e1).trans ?_;refine (Om aY ((fF rfl k2.1).trans ((fF rfl k2.2).trans ((fF rfl k3).trans ((fF rfl k4.1).trans ((fF rfl k4.2.1).trans ((bF (av (AR rfl (pJ rfl rfl) (kin w hw)))).trans (aU (dU v0 o0 (mG S c _ _ (by simp)) (ds:=[y]) rfl e2))))))))).trans rfl
theorem uR {q q':Qs} {y:W} {w:String} (hw:w∈["break", "again", "stop"]) {ln:W} (hy:y=.tuple [sW w,ln])
 (e:bj (aa (aw bh (ax 2) !"stop")) (aS (bH "Story" "finish" bf (al "Goer" "story" (aa (ae 0))) (aD (aa !"done") (aD (al "Goer" "line" (aa (ae 0))) ca))))
  (au (aS (bH "Frame" "leave_body" d8 (aa (ae 3)) (aa aj))) (bj (aa (aw bh (ax 2) !"break")) (aS (bH "Frame" "pass_by" br (aa (ae 3)) (aa aj))) (aq az))) [.val (.ref S.length),.val y,.val (.str (Str.ofString w)),.val (.ref (S.length+5))] (ST S c q)=some (.nx [.val (.ref S.length),.val y,.val (.str (Str.ofString w)),.val (.ref (S.length+5))],ST S c q')):
 fI [.ref S.length,y] (ST S c q)=some (.ok .none,ST S c q'):=by
 subst hy;refine (ao rfl).trans ((Om aY (?_:_=some (.nx [.val (.ref S.length),.val (.tuple [sW w,ln]),.val (.str (Str.ofString w)),.val (.ref (S.length+5))],ST S c q'))).trans rfl);refine (ag (δ':=[.val (.ref S.length),.val (.tuple [sW w,ln]),.val (.str (Str.ofString w)),.no]) (aG (aF (x0 rfl) rfl))).trans ?_;refine (ag (δ':=[.val (.ref S.length),.val (.tuple [sW w,ln]),.val (.str (Str.ofString w)),.val (.ref (S.length+5))]) (bC (j0 S c) rfl)).trans ?_;exact (fF rfl (kq.2.2.2.1 w hw).2.2).trans e
theorem FA {q:Qs} {l:fQ} {p:Nat} {r:Bd} {K:List Kf} (h:CS S q p (.stp r) K) (hl:q.line=bL p):C6 S c q l (.tuple [sW "stop", bL p]) (act l p (.stp r) K):=by
 obtain ⟨q1,e1,c1,s1⟩:=ic (c:=c) h (p2:=p+1) (r2:=r) rfl;refine ⟨{ q1 with fin:=.tuple [sW "done", q1.line] },⟨s1.sx.line,s1.sx.steps,s1.sx.lns,s1.sx.tch⟩,?_,s1.told,by show W.tuple [sW "done", q1.line]=_;rw [s1.sx.line]⟩;refine Ap (w := "stop") (by simp) (by rw [hl]) e1 (uR (w := "stop") (by simp) rfl ?_);exact (fT rfl).trans (aU (dU (bz v0 o0 (Al _ _ _)) vK (Me _ _ _) (aK rfl (aK (bz v0 o0 (Ky _ _ _)) rfl)) (kn S c q1 _ _)))
theorem Ef {q:Qs} {l:fQ} (i:QI c q l) {p:Nat} {r:Bd} {K:List Kf} (h:CS S q p (.agn r) K) (hl:q.line=bL p) (hk:ni K (.agn r)):C6 S c q l (.tuple [sW "again", bL p]) (act l p (.agn r) K):=by
 obtain ⟨p',t,b,r',K',hu⟩:=hk;obtain ⟨q1,e1,c1,s1⟩:=ic (c:=c) h (p2:=p+1) (r2:=r) rfl;obtain ⟨q2,e2,c2,s2⟩:=sY (c:=c) c1 hu;have s:=s1.tr s2;simp only [act,hu];refine ⟨q2,s.sx,?_,c2,s.nm.trans i.nm,by rw [Oz];exact s.told,s.fin⟩;refine Ap (w := "again") (by simp) (by rw [hl]) e1 (uR (w := "again") (by simp) rfl ?_);refine (fF rfl (kq.2.2.2.2.1 _ (by simp))).trans ((ag (aU (dU (fo:=aa (ae 3)) rfl o5 (M4 _ _) (ds:=[]) rfl e2))).trans ?_);exact (fF rfl kq.2.2.2.2.2).trans rfl
theorem Es {q:Qs} {l:fQ} (i:QI c q l) {p:Nat} {r:Bd} {K:List Kf} (h:CS S q p (.brk r) K) (hl:q.line=bL p) (hk:ni K (.brk r)):C6 S c q l (.tuple [sW "break", bL p]) (act l p (.brk r) K):=by
 obtain ⟨p',t,b,r',K',hu⟩:=hk;obtain ⟨q1,e1,c1,s1⟩:=ic (c:=c) h (p2:=p+1) (r2:=r) rfl;obtain ⟨q2,e2,c2,s2⟩:=sY (c:=c) c1 hu;obtain ⟨q3,e3,c3,s3⟩:=ic (c:=c) c2 (p2:=p'+2+b.len) (r2:=r') rfl;have s:=(s1.tr s2).tr s3;simp only [act,hu];refine ⟨q3,s.sx,?_,c3,s.nm.trans i.nm,by rw [Oz];exact s.told,s.fin⟩;refine Ap (w := "break") (by simp) (by rw [hl]) e1 (uR (w := "break") (by simp) rfl ?_);refine (fF rfl (kq.2.2.2.2.1 _ (by simp))).trans ((ag (aU (dU (fo:=aa (ae 3)) rfl o5 (M4 _ _) (ds:=[]) rfl e2))).trans ?_);exact (fT rfl).trans (aU (dU (fo:=aa (ae 3)) rfl o5 (KS _ _) (ds:=[]) rfl e3))
theorem FM {q:Qs} {l:fQ} (i:QI c q l) {p:Nat} {r:Bd} {K:List Kf} (h:CS S q p r K) (hl:q.line=bL p) (hk:ni K r) (hK:K.length<900) {y:W} {t:List W} (e:bW p r=y::t):C6 S c q l y (act l p r K):=by
 cases r with
 | nil=>exact hk.elim
 | set x t r=>cases e;exact EE i h hk.1 hk.2
 | tell t r=>cases e;exact Bv i h hk.1 hk.2
 | brk r=>cases e;exact Es i h hl hk
 | agn r=>cases e;exact Ef i h hl hk
 | stp r=>cases e;exact FA h hl
 | ifs t y r=>cases e;exact qv (z:=none) (p2:=p+2+y.len) (r2:=r) i h hK hk rfl
 | ife t y n r=>cases e;exact qv (z:=some (p+2+y.len,n)) (p2:=p+3+y.len+n.len) (r2:=r) i h hK hk rfl
 | whl t b r=>cases e;exact EY i h hK hk
end
noncomputable def fA (N:W):Nat->Option (Nat×Bd×List Kf)->fQ->List W×List W×W
 | 0,none,_=>([],[],.tuple [sW "done", N])
 | 0,some x,_=>([],[],.tuple [sW "tired", bL x.1])
 | _+1,none,_=>([],[],.tuple [sW "done", N])
 | k+1,some x,l=>match act l x.1 x.2.1 x.2.2 with
  | .go p' r' K' l' tl=>(bL x.1::(fA N k (pop p' r' K') l').1,tl++(fA N k (pop p' r' K') l').2.1,(fA N k (pop p' r' K') l').2.2)
  | .nt=>([bL x.1],[],.tuple [sW "nought", bL x.1])
  | .stop=>([bL x.1],[],.tuple [sW "done", bL x.1])
theorem yA:Fq c0:=⟨by decide,by decide,by decide,λ x hx=>absurd hx Ox⟩
theorem qW {l:fQ} (hl:vc l) {p:Nat} {r:Bd} {K:List Kf} (hk:ni K r) {p':Nat} {r':Bd} {K':List Kf} {l':fQ} {tl:List W} (e:act l p r K=.go p' r' K' l' tl):vc l'/\l'.length<=l.length+1/\(tl=[]∨∃ v,tl=[.int v]):=by
 have ts:∀ {t:Tr} {a b:Ac},qO l t a b=.go p' r' K' l' tl->(a=.go p' r' K' l' tl∨b=.go p' r' K' l' tl):=λ {t a b} h=>by
  unfold qO at h;split at h
  . split at h
    . exact .inr h
    . exact .inl h
  . cases h
 have same:∀ {a:Nat} {b:Bd} {c:List Kf},Ac.go a b c l []=.go p' r' K' l' tl->vc l'/\l'.length<=l.length+1/\(tl=[]∨∃ v,tl=[.int v]):=λ h=>by
  cases h;exact ⟨hl,le_succ _,.inl rfl⟩
 cases r with
 | nil=>cases e
 | set x t r=>
  obtain ⟨v,hv⟩:=ik l hk.1 hk.2;have rv:=sR yA hl t (qu t hk.1.nb);simp only [act,hv] at e;rw [hv] at rv;cases e;exact ⟨hl.put x rv,As _ _ _,.inl rfl⟩
 | tell t r=>
  obtain ⟨v,hv⟩:=ik l hk.1 hk.2;simp only [act,hv] at e;cases e;exact ⟨hl,le_succ _,.inr ⟨v,rfl⟩⟩
 | brk r=>
  obtain ⟨_,_,_,_,_,hu⟩:=hk;simp only [act,hu] at e;exact same e
 | agn r=>
  obtain ⟨_,_,_,_,_,hu⟩:=hk;simp only [act,hu] at e;exact same e
 | stp r=>cases e
 | ifs t y r=>exact (ts e).elim same same
 | ife t y n r=>exact (ts e).elim same same
 | whl t b r=>exact (ts e).elim same same
noncomputable abbrev Lm:DS->ah->SM Bool:=fX (i7 gC (al "Story" "end" (al "Goer" "story" (aa (ae 0)))) (aa (dC .none))) (i7 gC (al "Goer" "meeting" (aa (ae 0))) (aa (dC .none)))
section
variable (S:ah) (c:Cn)
theorem HQ {q:Qs} {r:DS} (h:q.fin=.none):Lm (.val (.ref S.length)::r) (ST S c q)=some (.ok true,ST S c q):=by
 have e:al "Story" "end" (al "Goer" "story" (aa (ae 0))) (.val (.ref S.length)::r) (ST S c q)=some (.ok .none,ST S c q):=by rw [<-h];exact bz (bz v0 o0 (Al _ _ _)) vK (LI _ _ _)
 exact ge (uO e rfl rfl) (uO (bz v0 o0 (ND _ _ _)) rfl rfl)
theorem C5 {q:Qs} {r:DS} {x:List W} (h:q.fin=.tuple x):Lm (.val (.ref S.length)::r) (ST S c q)=some (.ok false,ST S c q):=by
 have e:al "Story" "end" (al "Goer" "story" (aa (ae 0))) (.val (.ref S.length)::r) (ST S c q)=some (.ok (.tuple x),ST S c q):=by rw [<-h];exact bz (bz v0 o0 (Al _ _ _)) vK (LI _ _ _)
 exact gT (uO e rfl rfl)
theorem Cz (q:Qs) {a b d:W} {ln:W} (hp:c.pg=.tuple [a,b,d,.int 1,ln]):gR [.ref S.length] (ST S c q)=some (.ok .none,ST S c { q with fin:=.tuple [sW "done", ln] }):=by
 let δ:DS:=[.val (.ref S.length)]
 refine (ao rfl).trans ((Om aY (?_:_=some (.nx δ,ST S c { q with fin:=.tuple [sW "done", ln] }))).trans rfl);have tl:iK false (er (al "Goer" "frames" (aa (ae 0)))) (aa !1) δ (ST S c q)=some (.ok true,ST S c q):=Hw (b:=1) (pA (bz v0 o0 (M1 _ _ _)) o9) rfl;refine (cT tl).trans ?_;have dg:lj (al "Goer" "defs" (aa (ae 0))) (aa !"main") δ (ST S c q)=some (.ok c.pg,ST S c q):=zO (bz v0 o0 (Nx _ _ _)) rfl o1 (by simp [jo]);rw [hp] at dg;exact aU (dU (bz v0 o0 (Al _ _ _)) vK (Me _ _ _) (aK rfl (aK (Mt dg rfl (MG _ _ _ _ _ _)) rfl)) (kn S c q _ _))
noncomputable def Ms (q:Qs) (l:fQ) (p:Nat) (r:Bd) (K:List Kf) (y:W):Prop:=∃ q',hW [.ref S.length,y] (ST S c q)=some (.ok .none,ST S c q')/\q'.tch=q.tch/\(if c.most<=q.steps then q'.fin=.tuple [sW "tired", bL p]/\q'.told=q.told/\q'.lns=q.lns/\q'.steps=q.steps else q'.lns=q.lns++[bL p]/\q'.steps=q.steps+1/\(match act l p r K with
 | .go p' r' K' l' tl=>CS S q' p' r' K'/\q'.nm=mC l'/\q'.told=q.told++tl/\q'.fin=q.fin
 | .nt=>q'.told=q.told/\q'.fin=.tuple [sW "nought", bL p]
 | .stop=>q'.told=q.told/\q'.fin=.tuple [sW "done", bL p]))
theorem B6 {q:Qs} {l:fQ} (i:QI c q l) {p:Nat} {r:Bd} {K:List Kf} (h:CS S q p r K) (hk:ni K r) (hK:K.length<900) {y:W} {t:List W} (e:bW p r=y::t) (hln:q.lns.length<6999):Ms S c q l p r K y:=by
 let δ:DS:=[.val (.ref S.length),.val y]
 have ix1:1[1]! δ=some (bL p):=by
  have hr:r.isN=false:=by cases r <;> first | exact hk.elim | rfl
  obtain ⟨a,l',t',e'⟩:=nF (p:=p) hr;rw [e] at e';have:=(List.cons.inj e').1;exact x1 (v:=a) (l:=l') (by rw [<-this];rfl)
 let q1:Qs:={ q with line:=bL p }
 have s1:cB "Goer" "line" (aa (ae 0)) (aa 1[1]!) δ (ST S c q)=some (.nx δ,ST S c q1):=by
  refine (BM (av ix1) v0 o0 (by simp [pC])).trans ?_;rw [NF,w0]
 have cm:i7 K9 (al "Story" "steps" (al "Goer" "story" (aa (ae 0)))) (al "Goer" "most" (aa (ae 0))) δ (ST S c q1)=some (.ok (decide (c.most<=q.steps)),ST S c q1):=uO (bz (bz v0 o0 (Al _ _ _)) vK (Kw _ _ _)) (bz v0 o0 (NH _ _ _)) rfl;have fn:∀ (q':Qs) (w:Str) (h:q'.line=bL p),bH "Story" "finish" bf (al "Goer" "story" (aa (ae 0))) (aD (aa (dC (.str w))) (aD (al "Goer" "line" (aa (ae 0))) ca)) δ (ST S c q')=some (.ok .none,ST S c { q' with fin:=.tuple [.str w,bL p] }):=λ q' w h=>by
  have L:al "Goer" "line" (aa (ae 0)) δ (ST S c q')=some (.ok (bL p),ST S c q'):=by rw [<-h];exact bz v0 o0 (Ky _ _ _)
  exact dU (bz v0 o0 (Al _ _ _)) vK (Me _ _ _) (aK rfl (aK L rfl)) (kn S c q' _ _)
 by_cases hm:c.most<=q.steps
 . rw [Op hm] at cm;refine ⟨{ q1 with fin:=.tuple [sW "tired", bL p] },(ao rfl).trans ((Om aY ((ag s1).trans (bw ((cT cm).trans ((ag (aU (fn q1 _ rfl))).trans rfl))))).trans rfl),rfl,?_⟩;rw [Oo hm];exact ⟨rfl,rfl,rfl,rfl⟩
 . rw [Oi hm] at cm;let q2:Qs:={ q1 with steps:=q1.steps+1,lns:=q1.lns++[bL p] }
   have s2:aS (bH "Story" "add_step" eM (al "Goer" "story" (aa (ae 0))) (aD (al "Goer" "line" (aa (ae 0))) ca)) δ (ST S c q1)=some (.nx δ,ST S c q2):=aU (dU (bz v0 o0 (Al _ _ _)) vK (Nv _ _ _) (aK (bz v0 o0 (Ky _ _ _)) rfl) (zt S c q1 _ (by have:=i.ln;show q.lns.length<8000;omega)));have i2:QI c q2 l:=⟨i.hc,i.nm,i.rg,i.ll,i.to,by show (q.lns++[bL p]).length<7000;simp;omega,i.tc⟩
   have h2:CS S q2 p r K:=h.cg rfl rfl rfl;obtain ⟨q3,sx,D⟩:=FM i2 h2 rfl hk hK e;have I:ja "Goer" (.ref S.length) (ST S c q2)=some (S.length,pC S.length c q2.line):=gQ o0;have Mm:(pC S.length c q2.line).lookup (Str.ofString "do")=none:=mG S c q2 _ (by simp);have e0:ae 0 δ=some (.ref S.length):=rfl;have e1:#[ae 1] δ=some [y]:=rfl;have pre:∀ {a b:DS->ah->SO} {o:SM W} {g:SO},bX [.ref S.length,y] (ST S c q2)=o->(match o with
    | some (.ok _,S2)=>some (.nx δ,S2)
    | some (.xc x,S2)=>if x=Str.ofString "Nought" then a δ S2 else if x=Str.ofString "Outside" then b δ S2 else none
    | none=>none)=g->nW "Goer" "do" bX "Nought" "Outside" (ae 0) #[ae 1] a b δ (ST S c q2)=g:=λ {a b o g} ho hg=>by
    unfold nW;rw [e0,e1];simp only [Oj,I,Mm,OS];rw [ho];exact hg
   have run:∀ {q':Qs} {o:oY},(∃ d,o=.nx d)->nW "Goer" "do" bX "Nought" "Outside" (ae 0) #[ae 1] (aS (oK "Story" "finish" bf (al "Goer" "story" (aa (ae 0))) (aD (aa !"nought") (aD (al "Goer" "line" (aa (ae 0))) ca)))) (aS (oK "Story" "finish" bf (al "Goer" "story" (aa (ae 0))) (aD (aa !"outside") (aD (al "Goer" "line" (aa (ae 0))) ca)))) δ (ST S c q2)=some (o,ST S c q')->hW [.ref S.length,y] (ST S c q)=some (.ok .none,ST S c q'):=λ {q' o} hd ht=>by
    obtain ⟨d,rfl⟩:=hd;exact (ao rfl).trans ((Om aY ((ag s1).trans ((ag (δ':=δ) ((bF cm).trans rfl)).trans ((ag s2).trans ht)))).trans rfl)
   unfold Ms;simp only [hm,OX];cases ha:act l p r K with
   | go p' r' K' l' tl=>
    rw [ha] at D;obtain ⟨d1,d2,d3,d4,d5⟩:=D;exact ⟨q3,run ⟨_,rfl⟩ (pre d1 rfl),sx.tch,sx.lns,sx.steps,d2,d3,d4,d5⟩
   | stop=>
    rw [ha] at D;obtain ⟨d1,d2,d3⟩:=D;exact ⟨q3,run ⟨_,rfl⟩ (pre d1 rfl),sx.tch,sx.lns,sx.steps,d2,d3⟩
   | nt=>
    rw [ha] at D;obtain ⟨d1,d2,d3⟩:=D;refine ⟨{ q3 with fin:=.tuple [sW "nought", bL p] },run ⟨δ,rfl⟩ (pre d1 ?_),sx.tch,sx.lns,sx.steps,d2,rfl⟩;exact (Oo rfl).trans (aU (fn q3 (Str.ofString "nought") sx.line))
end
structure GJ (P:Nat->Bd->List Kf->Prop):Prop where
 pop:∀ {p r K x},P p r K->pop p r K=some x->P x.1 x.2.1 x.2.2/\ni x.2.2 x.2.1
 act:∀ {l p r K p' r' K' l' tl},P p r K->ni K r->act l p r K=.go p' r' K' l' tl->P p' r' K'
 len:∀ {p r K},P p r K->K.length<900
theorem wF (S:ah) (c:Cn) {P:Nat->Bd->List Kf->Prop} (hP:GJ P) {a b d N:W} (hp:c.pg=.tuple [a,b,d,.int 1,N]):∀ (k:Nat) (p:Nat) (r:Bd) (K:List Kf) (l:fQ) (q:Qs) (F:Nat) (s1:Sl),P p r K->CS S q p r K->QI c q l->q.fin=.none->c.most=q.steps+k->l.length+k<6000->q.told.length+k<6000->q.lns.length+k<6000->k+2<=F->
 ∃ q' s1',dm Lm h8 F [.val (.ref S.length),s1] (ST S c q)=some (.nx [.val (.ref S.length),s1'],ST S c q')/\q'.told=q.told++(fA N k (pop p r K) l).2.1/\q'.lns=q.lns++(fA N k (pop p r K) l).1/\q'.steps=q.steps+(fA N k (pop p r K) l).1.length/\q'.fin=(fA N k (pop p r K) l).2.2/\q'.tch=[]
 | k,p,r,K,l,q,F,s1,hI,hC,i,hf,hm,b1,b2,b3,hF=>by
  obtain ⟨F,rfl⟩:∃ j,F=j+2:=⟨F-2,by omega⟩
  obtain ⟨q1,s,St⟩:=yP (c:=c) hC (by have:=hP.len hI;omega);have i1:=i.same s;cases hx:pop p r K with
  | none=>
   rw [hx] at St;dsimp only at St;have sm:fA N k none l=([],[],.tuple [sW "done", N]):=by cases k <;> rfl
   rw [sm];refine ⟨{ q1 with fin:=.tuple [sW "done", N] },.val .none,?_,by simp [s.told],by simp [s.sx.lns],by simp [s.sx.steps],rfl,i1.tc⟩;have B:h8 [.val (.ref S.length),s1] (ST S c q)=some (.nx [.val (.ref S.length),.val .none],ST S c { q1 with fin:=.tuple [sW "done", N] }):=by
    refine (ag (δ':=[.val (.ref S.length),.val .none]) (bC (dU (j0 S c) o5 (M5 _ _) (ds:=[]) rfl St) rfl)).trans ?_;refine (cT (S1:=ST S c q1) rfl).trans ?_;exact aU (dU v0 o0 (mG S c _ _ (by simp)) (ds:=[]) rfl (Cz S c _ hp))
   exact (Bf (HQ S c hf) B).trans (xF (C5 S c rfl))
  | some x=>
   obtain ⟨p',r',K'⟩:=x;obtain ⟨hI',hk⟩:=hP.pop hI hx;have hK:=hP.len hI';rw [hx] at St;dsimp only at St hI' hk hK;obtain ⟨hC',y,t,e,St⟩:=St;obtain ⟨q2,E,tc,R⟩:=B6 S c i1 hC' hk hK e (by rw [s.sx.lns];omega);have hy:∃ z,y=.tuple z:=by
    have hr:r'.isN=false:=by cases r' <;> first | exact hk.elim | rfl
    obtain ⟨a,l',t',e'⟩:=nF (p:=p') hr;rw [e] at e';exact ⟨_,(List.cons.inj e').1⟩
   have B:h8 [.val (.ref S.length),s1] (ST S c q)=some (.nx [.val (.ref S.length),.val y],ST S c q2):=by
    refine (ag (δ':=[.val (.ref S.length),.val y]) (bC (dU (j0 S c) o5 (M5 _ _) (ds:=[]) rfl St) rfl)).trans ?_;refine (bF (S1:=ST S c q1) (by obtain ⟨z,rfl⟩:=hy;rfl)).trans ?_;exact aU (dU v0 o0 (mG S c _ _ (by simp)) (ds:=[y]) rfl E)
   have go:=Bf (k:=F+1) (HQ S c (r:=[s1]) hf) B;cases k with
   | zero=>
    rw [Oo (by rw [s.sx.steps];omega)] at R;obtain ⟨r1,r2,r3,r4⟩:=R;refine ⟨q2,.val y,go.trans (xF (C5 S c r1)),?_,?_,?_,r1,tc.trans i1.tc⟩
    . simp [fA,r2,s.told]
    . simp [fA,r3,s.sx.lns]
    . simp [fA,r4,s.sx.steps]
   | succ k=>
    rw [Oq (by rw [s.sx.steps];omega)] at R;obtain ⟨r1,r2,R⟩:=R;cases ha:act l p' r' K' with
    | nt=>
     rw [ha] at R;obtain ⟨r3,r4⟩:=R;refine ⟨q2,.val y,go.trans (xF (C5 S c r4)),?_,?_,?_,?_,tc.trans i1.tc⟩
     . simp [fA,ha,r3,s.told]
     . simp [fA,ha,r1,s.sx.lns]
     . simp [fA,ha,r2,s.sx.steps]
     . simp [fA,ha,r4]
    | stop=>
     rw [ha] at R;obtain ⟨r3,r4⟩:=R;refine ⟨q2,.val y,go.trans (xF (C5 S c r4)),?_,?_,?_,?_,tc.trans i1.tc⟩
     . simp [fA,ha,r3,s.told]
     . simp [fA,ha,r1,s.sx.lns]
     . simp [fA,ha,r2,s.sx.steps]
     . simp [fA,ha,r4]
    | go p2 r3 K2 l2 tl=>
     rw [ha] at R;obtain ⟨c2,n2,t2,f2⟩:=R;obtain ⟨g1,g2,g3⟩:=qW i1.rg hk ha;have tll:tl.length<=1:=by rcases g3 with rfl | ⟨v,rfl⟩ <;> simp
     have t2':q2.told.length<=q.told.length+1:=by rw [t2,s.told];simp;omega
     have i2:QI c q2 l2:=⟨i1.hc,n2,g1,by omega,by omega,by rw [r1,s.sx.lns];simp;omega,tc.trans i1.tc⟩
     obtain ⟨q',s1',E',z1,z2,z3,z4,z5⟩:=wF S c hP hp k p2 r3 K2 l2 q2 (F+1) (.val y) (hP.act hI' hk ha) c2 i2 (f2.trans (s.fin.trans hf)) (by rw [r2,s.sx.steps];omega) (by omega) (by omega) (by rw [r1,s.sx.lns];simp;omega) (by omega);refine ⟨q',s1',go.trans E',?_,?_,?_,?_,z5⟩
     . rw [z1,t2,s.told];simp [fA,ha]
     . rw [z2,r1,s.sx.lns];simp [fA,ha]
     . rw [z3,r2,s.sx.steps];simp [fA,ha];omega
     . rw [z4];simp [fA,ha]
theorem cg:∀ (hs:List Int) (T:ah),d9 (ar 0) (aa ua) (aa (bc dQ #[ae 0])) [.no] (hs.map .int) T=some (.ok (hs.map λ h=>.int (wr h)),T)
 | [],_=>rfl
 | h::hs,T=>qV _ _ _ [.val (.int h)] _ _ _ _ T T T rfl (av (mZ (ds:=[.int h]) rfl (jD h))) (cg hs T)
noncomputable def q0 (n:Nat) (rows:List W):Qs:={ line:=.none,wr:=7,dy:=⟨wO (rows,0),.lst [.ref (n+6)],[]⟩,lp:=[],nm:=[],told:=[],steps:=0,fin:=.none,lns:=[],tch:=[] }
noncomputable def kF (rows:List W) (N:W):W:=.tuple [.str "main", .list [],.list rows,.int 1,N]
noncomputable def Gu (lane lanes mine:Int) (hs:List Int) (most:Int) (rows:List W) (N:W):Cn:={ pg:=kF rows N,lane:=lane,lanes:=lanes,mine:=wr mine,bx:=hs.map wr,most:=most,rows:=rows }
theorem CM (S:ah) (lane lanes mine:Int) (hs:List Int) (most:Int) (rows:List W) (N:W) (hh:hs.length<=100):gw [.ref S.length,.list [kF rows N],.int lane,.int lanes,.int mine,.list (hs.map .int),.int most] (S++[.ins (Str.ofString "Goer") []])=some (.ok .none,ST S (Gu lane lanes mine hs most rows N) (q0 S.length rows)):=by
 let c:=Gu lane lanes mine hs most rows N;let δ (s:Sl):DS:=[.val (.ref S.length),.val (.list [kF rows N]),.val (.int lane),.val (.int lanes),.val (.int mine),.val (.list (hs.map .int)),.val (.int most),s]
 refine (ao rfl).trans ((Om aY (?_:_=some (.nx (δ (.val (kF rows N))),_))).trans rfl);have push:∀ (x:Ob) (L:ah) (o:Ob),(S++x::L)++[o]=S++x::(L++[o]):=λ x L o=>by simp
 have plen:∀ (x:Ob) (L:ah),(S++x::L).length=S.length+(L.length+1):=λ x L=>by simp
 refine (ag (gX (fs:=[]) (L:=[]) (L':=[.dK []]) (d:=.ref (S.length+1)) (by rw [Fk,plen,push];rfl) (by simp))).trans ?_;let F1:List (Str×W):=eh (Str.ofString "defs") (.ref (S.length+1)) [];have lp:mr (aa (iY (ae 1))) (ar 7) hJ (δ .no) (S++[.ins (Str.ofString "Goer") F1,.dK []])=some (.nx (δ (.val (kF rows N))),S++[.ins (Str.ofString "Goer") F1,.dK [(.inr (Str.ofString "main"),kF rows N)]]):=by
  refine (kM (ds:=[kF rows N]) rfl).trans ?_;refine (kD (δ2:=δ (.val (kF rows N))) (δ':=δ (.val (kF rows N))) (S':=S++[.ins (Str.ofString "Goer") F1,.dK [(.inr (Str.ofString "main"),kF rows N)]]) rfl ?_).trans rfl;have g0:(S++[Ob.ins (Str.ofString "Goer") F1,.dK []])[S.length]?=some (.ins (Str.ofString "Goer") F1):=gA S [.ins (Str.ofString "Goer") F1,.dK []] 0;refine (xQ (k:=Str.ofString "main") (l:=S.length+1) (kvs:=[]) (d:=kF rows N) rfl (bz v0 g0 (by kernel_rfl)) (av (x0 rfl)) (gA S [.ins (Str.ofString "Goer") F1,.dK []] 1) (by simp)).trans ?_;rw [sA S [.ins (Str.ofString "Goer") F1,.dK []] 1];rfl
 refine (ag lp).trans ?_;refine (ag (gX (d:=.int lane) rfl (pl (by simp)))).trans ?_;have dv:sX [(Str.ofString "lane", (ae 2)),(Str.ofString "lanes", (ae 3)),(Str.ofString "mine", (bc dQ #[ae 4]))] (δ (.val (kF rows N)))=some [(.inr (Str.ofString "lane"),.int lane),(.inr (Str.ofString "lanes"),.int lanes),(.inr (Str.ofString "mine"),.int (wr mine))]:=by
  have w:bc dQ #[ae 4] (δ (.val (kF rows N)))=some (.int (wr mine)):=mZ (ds:=[.int mine]) rfl (jD mine);simp only [sX,w,Oj,Ot];rfl
 have ds:∀ (x:Ob) (L:ah),wa [(Str.ofString "lane", (ae 2)),(Str.ofString "lanes", (ae 3)),(Str.ofString "mine", (bc dQ #[ae 4]))] (δ (.val (kF rows N))) (S++x::L)=some (.ok (.ref (S.length+(L.length+1))),S++x::(L++[.dK (DF c)])):=λ x L=>by
  have e:qI [] [(.inr (Str.ofString "lane"),.int lane),(.inr (Str.ofString "lanes"),.int lanes),(.inr (Str.ofString "mine"),.int (wr mine))]=DF c:=by kernel_rfl
  simp only [wa,dv,Oj,Ou,OU,e,plen,push];rfl
 refine (ag (gX (ds _ _) (pl (pl (by simp))))).trans ?_;have cb:∀ (x:Ob) (L:ah),rS [none] (aa (iY (ae 5))) (ar 0) (aa ua) (aa (bc dQ #[ae 0])) (δ (.val (kF rows N))) (S++x::L)=some (.ok (.ref (S.length+(L.length+1))),S++x::(L++[.lst (c.bx.map .int)])):=λ x L=>by
  have z:(hs.map W.int).length<=sizeLine:=sz _ (by simp;omega);have g:=cg hs (S++x::L);have e:(hs.map λ h=>W.int (wr h))=c.bx.map .int:=by simp [c,Gu,map_map,Function.comp_def]
  rw [e] at g;have s:aa (iY (ae 5)) (δ (.val (kF rows N))) (S++x::L)=some (.ok (hs.map .int),S++x::L):=rfl;unfold rS;rw [s];simp only [ak,Oo z];rw [show cx [none] (δ (.val (kF rows N)))=[.no] from rfl,g];simp only [plen,push]
 refine (ag (gX (cb _ _) (pl (pl (pl (by simp)))))).trans ?_;refine (ag (gX (d:=.int most) rfl (pl (pl (pl (pl (by simp))))))).trans ?_;let F6:List (Str×W):=eh (Str.ofString "most") (.int most) (eh (Str.ofString "boxes") (.ref (S.length+3)) (eh (Str.ofString "signs") (.ref (S.length+2)) (eh (Str.ofString "lane") (.int lane) F1)));let L6:ah:=[.dK [(.inr (Str.ofString "main"),kF rows N)],.dK (DF c),.lst (c.bx.map .int)]
 have fr:bS (aD (jB "Frame" dj (aD (sIx (lj (al "Goer" "defs" (aa (ae 0))) (aa !"main")) (aa !2)) (aD xN (aD (aa (dC .none)) ca)))) ca) (δ (.val (kF rows N))) (S++.ins (Str.ofString "Goer") F6::L6)=some (.ok (.ref (S.length+9)),S++.ins (Str.ofString "Goer") F6::(L6++[.dK [],.ins (Str.ofString "Frame") (qZ S.length 7),.ins (Str.ofString "Walk") (qi rows 0),.lst [.ref (S.length+6)],.lst [],.lst [.ref (S.length+5)]])):=by
  let T0:ah:=S++.ins (Str.ofString "Goer") F6::L6;let T1:ah:=T0++[.dK []];have t0:T0.length=S.length+4:=by simp [T0,L6]
  have t1:T1.length=S.length+5:=by simp [T1,t0]
  have g0:T0[S.length]?=some (.ins (Str.ofString "Goer") F6):=gA S _ 0;have dg:lj (al "Goer" "defs" (aa (ae 0))) (aa !"main") (δ (.val (kF rows N))) T0=some (.ok (kF rows N),T0):=zO (bz (n:=S.length) v0 g0 (show F6.lookup (Str.ofString "defs")=some (.ref (S.length+1)) by kernel_rfl)) rfl (gA S _ 1) (by simp [jo]);have a:=aK (Mt dg (fi:=aa !2) rfl (Mw _ _ _ _)) (aK (Fk (δ:=δ (.val (kF rows N))) (S:=T0)) (aK (f:=aa (dC .none)) (g:=ca) (d:=.none) (ds:=[]) rfl rfl));rw [t0] at a;have fi:=Cm T1 rows (S.length+4);have mk:=ju (c := "Frame") (f:=dj) a fi;have z:=sz 1 (by decide);have b:=aK mk (g:=ca) (ds:=[]) rfl;simp only [bS,ak];rw [b];simp only [Ou,OU,Oo z,t1];simp [T1,T0,L6,qZ]
 refine (ag (gX fr (pl (pl (pl (pl (pl (by simp)))))))).trans ?_;refine (ag (gX (d:=.none) rfl (pl (pl (pl (pl (pl (pl (by simp))))))))).trans ?_;refine (ag (gX (d:=.none) rfl (pl (pl (pl (pl (pl (pl (pl (by simp)))))))))).trans ?_;let F9:List (Str×W):=eh (Str.ofString "meeting") .none (eh (Str.ofString "line") .none (eh (Str.ofString "frames") (.ref (S.length+9)) F6));let L9:ah:=L6++[.dK [],.ins (Str.ofString "Frame") (qZ S.length 7),.ins (Str.ofString "Walk") (qi rows 0),.lst [.ref (S.length+6)],.lst [],.lst [.ref (S.length+5)]];have sy:jB "Story" cY (aa aj) (δ (.val (kF rows N))) (S++.ins (Str.ofString "Goer") F9::L9)=some (.ok (.ref (S.length+10)),S++.ins (Str.ofString "Goer") F9::(L9++[.ins (Str.ofString "Story") (lW S.length 0 .none),.lst [],.lst [],.lst [],.lst [],.lst []])):=by
  let T0:ah:=S++.ins (Str.ofString "Goer") F9::L9;have t0:T0.length=S.length+10:=by simp [T0,L9,L6]
  have a:=ju (c := "Story") (f:=cY) (fa:=aa aj) (δ:=δ (.val (kF rows N))) (S:=T0) (S1:=T0) (ds:=[]) rfl (BQ T0);rw [t0] at a;rw [a];simp [T0,lW]
 refine (ag (gX sy (pl (pl (pl (pl (pl (pl (pl (pl (by simp))))))))))).trans ?_;let F10:List (Str×W):=eh (Str.ofString "story") (.ref (S.length+10)) F9;have eF:F10=pC S.length c .none:=by kernel_rfl
 have e10:S++.ins (Str.ofString "Goer") F10::(L9++[.ins (Str.ofString "Story") (lW S.length 0 .none),.lst [],.lst [],.lst [],.lst [],.lst []])=S++[.ins (Str.ofString "Goer") (pC S.length c .none),.dK [(.inr (Str.ofString "main"),c.pg)],.dK (DF c),.lst (c.bx.map .int),.dK [],.ins (Str.ofString "Frame") (qZ S.length 7),.ins (Str.ofString "Walk") (qi rows 0),.lst [.ref (S.length+6)],.lst [],.lst [.ref (S.length+5)],.ins (Str.ofString "Story") (lW S.length 0 .none),.lst [],.lst [],.lst [],.lst [],.lst []]:=by rw [eF];rfl
 rw [show eh (Str.ofString "story") (.ref (S.length+10)) F9=F10 from rfl,e10];let M:ah:=[.ins (Str.ofString "Goer") (pC S.length c .none),.dK [(.inr (Str.ofString "main"),c.pg)],.dK (DF c),.lst (c.bx.map .int),.dK [],.ins (Str.ofString "Frame") (qZ S.length 7),.ins (Str.ofString "Walk") (qi rows 0),.lst [.ref (S.length+6)],.lst [],.lst [.ref (S.length+5)],.ins (Str.ofString "Story") (lW S.length 0 .none),.lst [],.lst [],.lst [],.lst [],.lst []]
 have bp:eX [.ref (S.length+10)] (S++M)=some (.ok .none,ST S c (q0 S.length rows)):=by
  have g:∀ (L:ah) (k:Nat),(S++L)[S.length+k]?=L[k]?:=gA S;refine (ao rfl).trans ((Om aY (?_:_=some (.nx [.val (.ref (S.length+10))],ST S c (q0 S.length rows)))).trans rfl);have n1:bS (aa aj) [.val (.ref (S.length+10))] (S++M)=some (.ok (.ref (S.length+16)),S++(M++[.lst []])):=by
   rw [AJ];simp [M]
  have a1:=oW (fo:=al "Story" "touches" (aa (ae 0))) (δ:=[.val (.ref (S.length+10))]) (l:=S.length+13) (bz (n:=S.length+10) v0 (g M 10) (KI _ _ _)) (g M 13) n1 (g (M++[.lst []]) 13) (by simp);refine (ag a1).trans ?_;rw [sA S (M++[Ob.lst []]) 13];let M2:ah:=(M++[Ob.lst []]).set 13 (Ob.lst ([]++[W.ref (S.length+16)]));have n2:xN [.val (.ref (S.length+10))] (S++M2)=some (.ok (.ref (S.length+17)),S++(M2++[.dK []])):=by
   rw [Fk];simp [M2,M]
  have a2:=oW (fo:=al "Story" "puts" (aa (ae 0))) (δ:=[.val (.ref (S.length+10))]) (l:=S.length+14) (bz (n:=S.length+10) v0 (g M2 10) (show (lW S.length 0 .none).lookup (Str.ofString "puts")=some (.ref (S.length+14)) by kernel_rfl)) (g M2 14) n2 (g (M2++[.dK []]) 14) (by simp);refine a2.trans ?_;rw [sA S (M2++[Ob.dK []]) 14];rfl
 exact aU (dU (n:=S.length+10) (bz (n:=S.length) v0 (gA S M 0) (Al _ _ _)) (gA S M 10) (Nz _ _ _) (ds:=[]) rfl bp)
theorem JG (S:ah) (B:Bd):CS S (q0 S.length (bW 1 B)) 1 B []:=⟨[6],[(bW 1 B,0)],⟨rfl,by show (7:Nat)∉[6];decide,by decide,rfl,trivial⟩,⟨⟨O1 _,rfl⟩,rfl⟩,rfl⟩
theorem xI (S:ah) (lane lanes mine:Int) (hs:List Int) (most:Nat) (B:Bd) (N:W) (hh:hs.length<=100) (hc:Fq (Gu lane lanes mine hs most (bW 1 B) N)) {P:Nat->Bd->List Kf->Prop} (hP:GJ P) (h0:P 1 B []) (hm:most<=1000):
 ∃ q',nK [.list [kF (bW 1 B) N],.int lane,.int lanes,.int mine,.list (hs.map .int),.int most,.list []] S=some (.ok (.ref (S.length+10)),ST S (Gu lane lanes mine hs most (bW 1 B) N) q')/\q'.told=(fA N most (pop 1 B []) []).2.1/\q'.lns=(fA N most (pop 1 B []) []).1/\q'.steps=(fA N most (pop 1 B []) []).1.length/\q'.fin=(fA N most (pop 1 B []) []).2.2/\q'.tch=[]:=by
 let c:=Gu lane lanes mine hs most (bW 1 B) N;let pr:W:=.list [kF (bW 1 B) N];let δ:DS:=[.val pr,.val (.int lane),.val (.int lanes),.val (.int mine),.val (.list (hs.map .int)),.val (.int most),.val (.list []),.val (.ref S.length),.no]
 have i:QI c (q0 S.length (bW 1 B)) []:=⟨hc,rfl,λ p hp=>absurd hp Ox,by simp,by simp [q0],by simp [q0],rfl⟩
 obtain ⟨q',s1',E,z1,z2,z3,z4,z5⟩:=wF S c hP (N:=N) rfl most 1 B [] [] (q0 S.length (bW 1 B)) 1000000 .no h0 (JG S B) i rfl (by show (most:Int)=0+most;omega) (by simp;omega) (by simp [q0];omega) (by simp [q0];omega) (by omega);refine ⟨q',?_,by simpa [q0] using z1,by simpa [q0] using z2,by simpa [q0] using z3,z4,z5⟩;have gr:jI [.ref S.length] (ST S c (q0 S.length (bW 1 B)))=some (.ok .none,ST S c q'):=(ao rfl).trans ((Om aY E).trans rfl);have vg:∀ T:ah,aa (ae 7) δ T=some (.ok (.ref S.length),T):=λ _=>rfl;refine (ao rfl).trans ((Om aY (?_:_=some (.rt (.ref (S.length+10)),_))).trans rfl);refine (ag (δ':=δ) (bC (ju (ds:=[pr,.int lane,.int lanes,.int mine,.list (hs.map .int),.int most]) (S1:=S) rfl (CM S lane lanes mine hs most (bW 1 B) N hh)) rfl)).trans ?_;refine (ag (aU (dU (vg _) o0 (mG S c _ _ (by simp)) (ds:=[]) rfl gr))).trans ?_;refine (ag (δ':=δ) ((kM (ds:=[]) rfl).trans rfl)).trans ?_;exact bY (bz (vg _) o0 (Al _ _ _))
noncomputable def fW (ns:List Int) (k:Nat):Int:=(ns[k]?).getD 0
theorem oH (ns:List Int) (k:Nat):bA [.list (ns.map .int),.int k]=some (.int (fW ns k)):=by
 refine bK rfl ?_;have t:aw p7 (ax 1) (sw nc (ax 0)) [.val (.list (ns.map .int)),.val (.int k)]=some (decide (k<ns.length)):=by
  simp! [uD,O6];congr 1;exact decide_eq_decide.mpr (by omega)
 by_cases h:k<ns.length
 . rw [Op h] at t;refine eK (aE (b:=true) t (aJ (wy (l:=ns.map .int) rfl rfl ?_)));rw [vE _ _ (by simpa using h)];simp [fW,OF h]
 . rw [Oi h] at t;refine aI (aE (b:=false) t rfl) (aJ ?_);simp [fW,Po (Nat.le_of_not_lt h),dC]
noncomputable def IJ (b:Int):Int:=((b*(b+48271)).fmod 2147483579).fdiv 5
noncomputable def j2 (x k:Int):Int:=IJ (((x.fmod 2147483647+16807*k+7).fmod 2147483629*(x.fmod 2147483647+16807*k+7).fmod 2147483629).fmod 2147483587)
theorem lq (x k:Int):bJ [.int x,.int k]=some (.int (j2 x k)):=by
 have h1:=bN (x.fmod 2147483647+16807*k+7) (j:=2147483629) (by decide);have h2:=bN ((x.fmod 2147483647+16807*k+7).fmod 2147483629*(x.fmod 2147483647+16807*k+7).fmod 2147483629) (j:=2147483587) (by decide);have m0:=cf x (j:=2147483647) (by decide);have m1:=cf (x.fmod 2147483647+16807*k+7) (j:=2147483629) (by decide);have p0:kZ (.int 16807) (.int k)=some (.int (16807*k)):=kg (nJ (by decide) (by decide));unfold j2;refine bK rfl ?_;refine aI (δ1:=[.val (.int x),.val (.int k),.val (.int ((x.fmod 2147483647+16807*k+7).fmod 2147483629))]) (aF (by simp! [uD,m0,p0,m1]) rfl) ?_;generalize (x.fmod 2147483647+16807*k+7).fmod 2147483629=a at h1 h2 ⊢;have p1:kZ (.int a) (.int a)=some (.int (a*a)):=kg (nJ (by omega) (by omega));have m2:=cf (a*a) (j:=2147483587) (by decide);refine aI (δ1:=[.val (.int x),.val (.int k),.val (.int ((a*a).fmod 2147483587))]) (aF (by simp! [uD,p1,m2]) rfl) ?_;generalize (a*a).fmod 2147483587=b at h2 ⊢;have p2:kZ (.int b) (.int (b+48271))=some (.int (b*(b+48271))):=kg (nJ (by omega) (by omega));have m3:=cf (b*(b+48271)) (j:=2147483579) (by decide);have d3:=iq ((b*(b+48271)).fmod 2147483579) (j:=5) (by decide) (by decide);refine aJ ?_;simp! [uD,p2,m3,d3,IJ]
noncomputable def gf:W:=.tuple [sW "end"]
noncomputable def ub:W:=.tuple [sW "else"]
noncomputable def uC:W:=.tuple [sW "def"]
noncomputable def cW:Bd->Nat
 | .nil=>0
 | .set _ _ r=>cW r
 | .tell _ r=>cW r
 | .brk r=>cW r
 | .agn r=>cW r
 | .stp r=>cW r
 | .ifs _ y r=>max (cW y+1) (cW r)
 | .ife _ y n r=>max (max (cW y+1) (cW n+1)) (cW r)
 | .whl _ b r=>max (cW b+1) (cW r)
section
variable (R:List W) (pa:List Int)
noncomputable def PT:Option Nat->Nat->Bd->Prop
 | _,_,.nil=>True
 | w,p,.set x t r=>R[p]?=some (.tuple [sW "set", .str x,tw t])/\(GX t/\wo t/\pk x)/\PT w (p+1) r
 | w,p,.tell t r=>R[p]?=some (.tuple [sW "tell", tw t])/\(GX t/\wo t)/\PT w (p+1) r
 | w,p,.brk r=>R[p]?=some (.tuple [sW "break"])/\(∃ v,w=some v/\pa[p]?=some (v:Int))/\PT w (p+1) r
 | w,p,.agn r=>R[p]?=some (.tuple [sW "again"])/\(∃ v,w=some v/\pa[p]?=some (v:Int))/\PT w (p+1) r
 | w,p,.stp r=>R[p]?=some (.tuple [sW "stop"])/\PT w (p+1) r
 | w,p,.ifs t y r=>R[p]?=some (.tuple [sW "if", tw t])/\GX t/\pa[p]?=some ((p+1+y.len:Nat):Int)/\R[p+1+y.len]?=some gf/\pa[p+1+y.len]?=some (p:Int)/\PT w (p+1) y/\PT w (p+2+y.len) r
 | w,p,.ife t y n r=>R[p]?=some (.tuple [sW "if", tw t])/\GX t/\pa[p]?=some ((p+1+y.len:Nat):Int)/\R[p+1+y.len]?=some ub/\pa[p+1+y.len]?=some ((p+2+y.len+n.len:Nat):Int)/\R[p+2+y.len+n.len]?=some gf/\pa[p+2+y.len+n.len]?=some ((p+1+y.len:Nat):Int)/\PT w (p+1) y/\PT w (p+2+y.len) n/\PT w (p+3+y.len+n.len) r
 | w,p,.whl t b r=>R[p]?=some (.tuple [sW "while", tw t])/\GX t/\pa[p]?=some ((p+1+b.len:Nat):Int)/\R[p+1+b.len]?=some gf/\pa[p+1+b.len]?=some (p:Int)/\PT (some p) (p+1) b/\PT w (p+2+b.len) r
noncomputable def Bk (e p:Nat):Prop:=(R[e]?=some gf/\p=e+1/\∃ j:Nat,pa[e]?=some (j:Int)/\((∃ t,R[j]?=some (.tuple [sW "if", t]))∨R[j]?=some ub))∨(R[e]?=some ub/\pa[e]?=some ((p:Int)-1))
noncomputable def Cq:Option Nat->Nat->List Kf->Prop
 | w,e,[]=>w=none/\R[e]?=some gf/\pa[e]?=some 0/\R[0]?=some uC/\e+1=R.length
 | w,e,k::K=>(if k.lp then (w=some k.p/\R[e]?=some gf/\pa[e]?=some (k.p:Int)/\∃ w' t b r,k.r=.whl t b r/\PT R pa w' k.p k.r/\Cq w' (k.p+k.r.len) K)
  else (Bk R pa e k.p/\PT R pa w k.p k.r/\Cq w (k.p+k.r.len) K))/\K.length+cW k.r<=500
noncomputable def uk (p:Nat) (r:Bd) (K:List Kf):Prop:=∃ w,PT R pa w p r/\Cq R pa w (p+r.len) K/\K.length+cW r<=500
end
noncomputable def ai:List String:=["def", "set", "tell", "if", "while", "else", "end", "break", "again", "stop"]
theorem wq:∀ a∈ai,∀ b∈ai,decide (Str.ofString a=Str.ofString b)=decide (a=b):=by decide +kernel
section
variable {R:List W} {pa:List Int}
theorem Cq.unw:∀ {K:List Kf} {w:Option Nat} {e v:Nat},Cq R pa w e K->w=some v->∃ t b r K',mX K=some (v,.whl t b r,K')/\uk R pa v (.whl t b r) K'
 | [],w,e,v,h,hw=>by
  rw [h.1] at hw;cases hw
 | k::K,w,e,v,h,hw=>by
  obtain ⟨h,hd⟩:=h;unfold mX;split at h
  . rename_i hk;rw [Oo hk];obtain ⟨h1,h2,h3,w',t,b,r,h4,h5,h6⟩:=h;rw [h1] at hw;cases hw;exact ⟨t,b,r,K,by rw [h4],w',by rw [<-h4];exact h5,by rw [<-h4];exact h6,by rw [<-h4];exact hd⟩
  . rename_i hk;rw [Oq hk];exact Cq.unw h.2.2 hw
theorem Dt {w:Option Nat} {p:Nat} {r:Bd} {e:Nat} {K:List Kf} (h:PT R pa w p r) (hs:Cq R pa w e K) (hr:r.isN=false):ni K r:=by
 cases r with
 | nil=>cases hr
 | set x t r=>exact ⟨h.2.1.1,h.2.1.2.1⟩
 | tell t r=>exact h.2.1
 | brk r=>
  obtain ⟨v,hv,_⟩:=h.2.1;obtain ⟨t,b,r',K',hu,_⟩:=hs.unw hv;exact ⟨_,_,_,_,_,hu⟩
 | agn r=>
  obtain ⟨v,hv,_⟩:=h.2.1;obtain ⟨t,b,r',K',hu,_⟩:=hs.unw hv;exact ⟨_,_,_,_,_,hu⟩
 | stp r=>trivial
 | ifs t y r=>exact h.2.1
 | ife t y n r=>exact h.2.1
 | whl t b r=>exact h.2.1
theorem Cq.nx {w:Option Nat} {e:Nat} {k:Kf} {K:List Kf} (h:Cq R pa w e (k::K)):uk R pa k.p k.r K:=by
 obtain ⟨h,hd⟩:=h;split at h
 . obtain ⟨_,_,_,w',_,_,_,_,h5,h6⟩:=h;exact ⟨w',h5,h6,hd⟩
 . exact ⟨w,h.2.1,h.2.2,hd⟩
theorem kP:∀ {K:List Kf} {p:Nat} {r:Bd} {x:Nat×Bd×List Kf},uk R pa p r K->pop p r K=some x->uk R pa x.1 x.2.1 x.2.2/\ni x.2.2 x.2.1
 | [],p,r,x,h,e=>by
  unfold pop at e;split at e
  . cases e
  . rename_i hr;cases e;obtain ⟨w,h1,h2,h3⟩:=h;exact ⟨⟨w,h1,h2,h3⟩,Dt h1 h2 (by simpa using hr)⟩
 | k::K,p,r,x,h,e=>by
  obtain ⟨w,h1,h2,h3⟩:=h;unfold pop at e;split at e
  . exact kP h2.nx e
  . rename_i hr;cases e;exact ⟨⟨w,h1,h2,h3⟩,Dt h1 h2 (by simpa using hr)⟩
theorem lz {l:fQ} {p:Nat} {r:Bd} {K:List Kf} {p':Nat} {r':Bd} {K':List Kf} {l':fQ} {tl:List W} (h:uk R pa p r K) (hk:ni K r) (e:act l p r K=.go p' r' K' l' tl):uk R pa p' r' K':=by
 obtain ⟨w,h1,h2,h3⟩:=h;have ts:∀ {t:Tr} {a b:Ac},qO l t a b=.go p' r' K' l' tl->(a=.go p' r' K' l' tl∨b=.go p' r' K' l' tl):=λ {t a b} h=>by
  unfold qO at h;split at h
  . split at h
    . exact .inr h
    . exact .inl h
  . cases h
 cases r with
 | nil=>cases e
 | set x t r=>
  obtain ⟨v,hv⟩:=ik l hk.1 hk.2;simp only [act,hv] at e;have hr:p+1+r.len=p+(Bd.set x t r).len:=by simp only [Bd.len];omega
  cases e;exact ⟨w,h1.2.2,by rw [hr];exact h2,h3⟩
 | tell t r=>
  obtain ⟨v,hv⟩:=ik l hk.1 hk.2;simp only [act,hv] at e;have hr:p+1+r.len=p+(Bd.tell t r).len:=by simp only [Bd.len];omega
  cases e;exact ⟨w,h1.2.2,by rw [hr];exact h2,h3⟩
 | brk r=>
  obtain ⟨v,hv,_⟩:=h1.2.1;obtain ⟨t,b,r',K',hu,w',i1,i2,i3⟩:=h2.unw hv;simp only [act,hu] at e;have hr:v+2+b.len+r'.len=v+(Bd.whl t b r').len:=by simp only [Bd.len];omega
  cases e;exact ⟨w',i1.2.2.2.2.2.2,by rw [hr];exact i2,by simp only [cW] at i3;omega⟩
 | agn r=>
  obtain ⟨v,hv,_⟩:=h1.2.1;obtain ⟨t,b,r',K',hu,i⟩:=h2.unw hv;simp only [act,hu] at e;cases e;exact i
 | stp r=>cases e
 | ifs t y r=>
  obtain ⟨a1,a2,a3,a4,a5,a6,a7⟩:=h1;simp only [cW] at h3;have hr:p+2+y.len+r.len=p+(Bd.ifs t y r).len:=by simp only [Bd.len];omega
  rcases ts e with e | e <;> cases e
  . refine ⟨w,a6,⟨?_,by show K.length+cW r<=500;omega⟩,by simp only [Ou];omega⟩;simp only [OO,OX];exact ⟨.inl ⟨a4,by omega,p,a5,.inl ⟨_,a1⟩⟩,a7,by rw [hr];exact h2⟩
  . exact ⟨w,a7,by rw [hr];exact h2,by omega⟩
 | ife t y n r=>
  obtain ⟨a1,a2,a3,a4,a5,a6,a7,a8,a9,a10⟩:=h1;simp only [cW] at h3;have hr:p+3+y.len+n.len+r.len=p+(Bd.ife t y n r).len:=by simp only [Bd.len];omega
  rcases ts e with e | e <;> cases e
  . refine ⟨w,a8,⟨?_,by show K.length+cW r<=500;omega⟩,by simp only [Ou];omega⟩;simp only [OO,OX];refine ⟨.inr ⟨a4,?_⟩,a10,by rw [hr];exact h2⟩;rw [a5];congr 1;omega
  . refine ⟨w,a9,⟨?_,by show K.length+cW r<=500;omega⟩,by simp only [Ou];omega⟩;simp only [OO,OX];exact ⟨.inl ⟨a6,by omega,_,a7,.inr a4⟩,a10,by rw [hr];exact h2⟩
 | whl t b r=>
  have h1':=h1;obtain ⟨a1,a2,a3,a4,a5,a6,a7⟩:=h1;have h3':=h3;simp only [cW] at h3;have hr:p+2+b.len+r.len=p+(Bd.whl t b r).len:=by simp only [Bd.len];omega
  rcases ts e with e | e <;> cases e
  . refine ⟨some p,a6,⟨?_,h3'⟩,by simp only [Ou];omega⟩;simp only [OS];exact ⟨trivial,a4,a5,w,t,_,r,rfl,h1',h2⟩
  . exact ⟨w,a7,by rw [hr];exact h2,by omega⟩
theorem HJ:GJ (uk R pa):=⟨kP,lz,λ h=>by obtain ⟨_,_,_,h⟩:=h;omega⟩
end
theorem uW {R:List W} {p:Nat} {a:String} {l:List W} {f g:DS->Option W} {δ:DS} (h:R[p]?=some (.tuple (sW a::l))) (h1:f δ=some (.list R)) (h2:g δ=some (.int p)):aA aH (aA aH f g) (!0) δ=some (sW a):=
 x0 (l:=l) (wy h1 h2 (by rw [vE _ _ (oG h).1];exact h))
theorem Hr {pa:List Int} {p:Nat} {v:Int} {f g:DS->Option W} {δ:DS} (h:pa[p]?=some v) (h1:f δ=some (.list (pa.map .int))) (h2:g δ=some (.int p)):aA aH f g δ=some (.int v):=
 wy h1 h2 (by rw [vE _ _ (by simpa using (oG h).1)];simp [h])
theorem wE {a b:String} (ha:a∈ai) (hb:b∈ai) {f:DS->Option W} {δ:DS} (h:f δ=some (sW a)):aw bh f (dC (.str (Str.ofString b))) δ=some (decide (a=b)):=(tD h).trans (Om some (wq a ha b hb))
theorem wN {a b:String} (ha:a∈ai) (hb:b∈ai) {f:DS->Option W} {δ:DS} (h:f δ=some (sW a)):aw ui f (dC (.str (Str.ofString b))) δ=some (!decide (a=b)):=by
 rw [<-wq a ha b hb];exact AR h rfl (D7 _ _)
noncomputable abbrev Ka:DS->Option Bool:=jw (aw bh (aA aH (aA aH (ax 0) (ae 2)) !0) !"else") (kC (aw bh (aA aH (aA aH (ax 0) (ae 2)) !0) !"end") (aw ui (aA aH (aA aH (ax 0) (aA aH (ax 1) (ae 2))) !0) !"def"))
noncomputable def vb (R:List W) (pa:List Int) (p:Nat):DS:=[.val (.list R),.val (.list (pa.map .int)),.val (.int p)]
theorem Eb {f g:DS->Option Bool} {δ:DS} (h:f δ=some true):jw f g δ=some true:=by simp only [jw,h,Oj,OS]
theorem pT {f g:DS->Option Bool} {δ:DS} (h:f δ=some false):jw f g δ=g δ:=by simp only [jw,h,Oj,OO,OX]
theorem nu {c:DS->Option Bool} {fb:DS->Option dR} {n:Nat} {δ δ':DS} (h1:c δ=some true) (h2:fb δ=some (.nx δ')):di c fb (n+1) δ=di c fb n δ':=by
 show (c δ).bind _=_;rw [h1];simp only [Oj,OS,h2]
theorem Fa {c:DS->Option Bool} {fb:DS->Option dR} {n:Nat} {δ:DS} (h1:c δ=some false):di c fb (n+1) δ=some (.nx δ):=by
 show (c δ).bind _=_;rw [h1];rfl
section
variable {R:List W} {pa:List Int}
theorem Jh {p:Nat} {a:String} {l:List W} (h:R[p]?=some (.tuple (sW a::l))) (ha:a∈ai) (h1:a ≠ "else") (h2:a ≠ "end"):Ka (vb R pa p)=some false:=by
 have w:=uW (f:=ax 0) (g:=ae 2) (δ:=vb R pa p) h rfl rfl;have e1:=wE ha (b := "else") (by simp [ai]) w;have e2:=wE ha (b := "end") (by simp [ai]) w;rw [Oi h1] at e1;rw [Oi h2] at e2;exact (pT e1).trans (JI e2)
theorem rf {p j:Nat} {a:String} {l:List W} (h:R[p]?=some gf) (hp:pa[p]?=some (j:Int)) (hj:R[j]?=some (.tuple (sW a::l))) (ha:a∈ai):Ka (vb R pa p)=some (!decide (a = "def")):=by
 have w:=uW (l:=[]) (f:=ax 0) (g:=ae 2) (δ:=vb R pa p) h rfl rfl;have e1:=wE (a := "end") (by simp [ai]) (b := "else") (by simp [ai]) w;have e2:=wE (a := "end") (by simp [ai]) (b := "end") (by simp [ai]) w;have e3:=wN ha (b := "def") (by simp [ai]) (uW (f:=ax 0) (g:=aA aH (ax 1) (ae 2)) (δ:=vb R pa p) hj rfl (Hr hp rfl rfl));rw [Oi (by decide)] at e1;rw [Op rfl] at e2;exact (pT e1).trans (dA e2 e3)
theorem uA {p j:Nat} {a:String} {l:List W} (h:R[p]?=some gf) (hp:pa[p]?=some (j:Int)) (hj:R[j]?=some (.tuple (sW a::l))) (ha:a∈ai):fh (vb R pa p)=some (.nx (vb R pa (if a = "while" then j else p+1))):=by
 have w:=uW (l:=[]) (f:=ax 0) (g:=ae 2) (δ:=vb R pa p) h rfl rfl;have e1:=wE (a := "end") (by simp [ai]) (b := "else") (by simp [ai]) w;have e3:=wE ha (b := "while") (by simp [ai]) (uW (f:=ax 0) (g:=aA aH (ax 1) (ae 2)) (δ:=vb R pa p) hj rfl (Hr hp rfl rfl));rw [Oi (by decide)] at e1;refine aE (b:=false) e1 (aE e3 ?_);by_cases hw:a = "while"
 . simp only [hw,decide_true,OS];exact aF (Hr hp rfl rfl) rfl
 . simp only [hw,decide_false,OO,OX];exact aF (d:=.int ((p+1:Nat):Int)) rfl rfl
theorem BN {p:Nat} {v:Int} (h:R[p]?=some ub) (hp:pa[p]?=some v) {k:Nat} (hk:v+1=(k:Int)):Ka (vb R pa p)=some true/\fh (vb R pa p)=some (.nx (vb R pa k)):=by
 have w:=uW (l:=[]) (f:=ax 0) (g:=ae 2) (δ:=vb R pa p) h rfl rfl;have e1:=wE (a := "else") (by simp [ai]) (b := "else") (by simp [ai]) w;rw [Op rfl] at e1;refine ⟨Eb e1,aE (b:=true) e1 (aF (d:=.int k) (dO (Hr hp rfl rfl) rfl ?_) rfl)⟩;rw [<-hk];rfl
noncomputable def sD (R:List W):Option (Nat×Bd×List Kf)->Nat
 | some x=>x.1
 | none=>R.length-1
theorem zd {w:Option Nat} {p:Nat} {r:Bd} (h:PT R pa w p r) (hr:r.isN=false):∃ a l,R[p]?=some (.tuple (sW a::l))/\a∈ai/\a ≠ "else" /\ a ≠ "end" /\ a ≠ "def" := by
 cases r with
 | nil=>cases hr
 | set x t r=>exact ⟨_,_,h.1,by simp [ai],by decide,by decide,by decide⟩
 | tell t r=>exact ⟨_,_,h.1,by simp [ai],by decide,by decide,by decide⟩
 | brk r=>exact ⟨_,_,h.1,by simp [ai],by decide,by decide,by decide⟩
 | agn r=>exact ⟨_,_,h.1,by simp [ai],by decide,by decide,by decide⟩
 | stp r=>exact ⟨_,_,h.1,by simp [ai],by decide,by decide,by decide⟩
 | ifs t y r=>exact ⟨_,_,h.1,by simp [ai],by decide,by decide,by decide⟩
 | ife t y n r=>exact ⟨_,_,h.1,by simp [ai],by decide,by decide,by decide⟩
 | whl t b r=>exact ⟨_,_,h.1,by simp [ai],by decide,by decide,by decide⟩
theorem wf:∀ (K:List Kf) (p:Nat) (r:Bd) (F:Nat),uk R pa p r K->K.length+1<=F->di Ka fh F (vb R pa p)=some (.nx (vb R pa (sD R (pop p r K))))
 | K,p,r,F,h,hF=>by
  obtain ⟨F,rfl⟩:∃ j,F=j+1:=⟨F-1,by omega⟩
  obtain ⟨w,h1,h2,h3⟩:=h;cases hr:r.isN with
  | false=>
   obtain ⟨a,l,t1,t2,t3,t4,_⟩:=zd h1 hr;have:pop p r K=some (p,r,K):=by cases K <;> simp [pop,hr]
   rw [this];exact Fa (Jh t1 t2 t3 t4)
  | true=>
   have hl:r.len=0:=by cases r <;> first | rfl | cases hr
   rw [hl,Nat.add_zero] at h2;cases K with
   | nil=>
    obtain ⟨_,e1,e2,e3,e4⟩:=h2;simp only [pop,hr,OS,sD];have:R.length-1=p:=by omega
    rw [this];exact Fa (rf (j:=0) (l:=[]) (a := "def") e1 e2 e3 (by simp [ai]))
   | cons k K=>
    have hn:=h2.nx;have ih:=wf K k.p k.r F hn (by simp only [Ou] at hF;omega);simp only [pop,hr,OS];refine Eq.trans ?_ ih;obtain ⟨h2,_⟩:=h2;split at h2
    . obtain ⟨_,e1,e2,w',t,b,r',e3,e4,_⟩:=h2;rw [e3] at e4;have oe:=rf e1 e2 e4.1 (by simp [ai]);have ob:=uA e1 e2 e4.1 (by simp [ai]);exact nu oe ob
    . obtain ⟨hb,_,_⟩:=h2;rcases hb with ⟨e1,e2,j,e3,e4⟩ | ⟨e1,e2⟩
      . rw [e2];rcases e4 with ⟨t,e4⟩ | e4
        . exact nu (rf e1 e3 e4 (by simp [ai])) (uA e1 e3 e4 (by simp [ai]))
        . exact nu (rf (a := "else") (l:=[]) e1 e3 e4 (by simp [ai])) (uA (a := "else") (l:=[]) e1 e3 e4 (by simp [ai]))
      . have o:=BN e1 e2 (k:=k.p) (by omega);exact nu o.1 o.2
theorem oC {p:Nat} {r:Bd} {K:List Kf} (h:uk R pa p r K):gj [.list R,.list (pa.map .int),.int p]=some (.int (sD R (pop p r K))):=by
 have hl:K.length<=500:=by obtain ⟨_,_,_,h⟩:=h;omega
 refine bK rfl (aI (wf K p r 1000000 h (by omega)) (aJ rfl))
end
noncomputable def Iu:Rz->W
 | .ok v=>.int v
 | .no _=>.none
theorem Nt:∀ k:Fin 7,decide (jt k=Str.ofString "=")=decide (k=6):=by decide +kernel
theorem bI {p:Prop} [Decidable p] {f:DS->Option Bool} {δ:DS} (h:f δ=some (decide p)):jZ (dB f) δ=some (.int (if p then 1 else 0)):=by
 simp only [jZ,dB,h,Ot,Oj,DU];by_cases hp:p <;> simp [hp]
section
variable {T:ah} {d:Nat} {l:fQ}
theorem lC (hT:T[d]?=some (.dK (mC l))) (n:Nat) {t:Tr} (g:nb t) (h0:jl t=0):∃ v,(ev c0 l t).2=.ok v/\aQ (n+1) [tw t,.ref d] T=some (.ok (.int v),T):=by
 cases t with
 | num v=>
  refine ⟨v,rfl,?_⟩;show bb 2 4 _ _ _=_;refine (ao rfl).trans ((Om aY (?_:_=some (.rt (.int v),T))).trans rfl);exact bw (bu (aE (b:=true) (tT (x0 rfl)) (aJ (x1 rfl))))
 | nam x=>
  refine ⟨DJ l x,rfl,?_⟩;show bb 2 4 _ _ _=_;refine (ao rfl).trans ((Om aY (?_:_=some (.rt (.int (DJ l x)),T))).trans rfl);refine (pF (a:=Str.ofString "name") (x0 rfl) MV).trans ?_;have gg:=At (fo:=aa (ae 1)) (fk:=aa 0[1]!) (fx:=aa !0) (δ:=[.val (tw (.nam x)),.val (.ref d),.no,.no]) (k:=x) (y:=.int 0) (l:=d) (S:=T) (S1:=T) (S2:=T) (S3:=T) rfl hT (av (x1 rfl)) rfl hT;rw [A8] at gg;exact bw ((fT (x0 rfl)).trans (bY gg))
 | sig k=>exact g.elim
 | box t=>exact g.elim
 | op k a b=>simp [jl] at h0
theorem iW (hT:T[d]?=some (.dK (mC l))) (hl:vc l) {t:Tr} (g:GX t):aQ 3 [tw t,.ref d] T=some (.ok (Iu (ev c0 l t).2),T):=by
 obtain ⟨gn,gd,_⟩:=g;cases t with
 | num v=>
  obtain ⟨v,e,r⟩:=lC hT 2 (t:=.num v) gn rfl;rw [e];exact r
 | nam x=>
  obtain ⟨v,e,r⟩:=lC hT 2 (t:=.nam x) gn rfl;rw [e];exact r
 | sig k=>exact gn.elim
 | box t=>exact gn.elim
 | op k a b=>
  simp only [jl] at gd;obtain ⟨u,e1,r1⟩:=lC hT 1 (t:=a) gn.2.1 (by omega);obtain ⟨v,e2,r2⟩:=lC hT 1 (t:=b) gn.2.2 (by omega);have hu:Rg u:=by have:=sR yA hl a (qu a gn.2.1);rw [e1] at this;exact this
  have hv:Rg v:=by have:=sR yA hl b (qu b gn.2.2);rw [e2] at this;exact this
  have E:(ev c0 l (.op k a b)).2=match wk k u v with
   | none=>.no true
   | some z=>.ok z:=by
   simp only [ev,oE,e1,e2];cases wk k u v <;> rfl
  rw [E];obtain ⟨q0,q1,q2,q3,q4,q5⟩:=oq k;have q6:=Nt k;have z2:=sz 2 (by decide);let δ:DS:=[.val (tw (.op k a b)),.val (.ref d),.val (.int u),.val (.int v)]
  have w0:∀ {s:DS},0[0]! (.val (tw (.op k a b))::s)=some (.str (jt k)):=x0 rfl;have n3:k≠3:=gn.1;have fin:∀ {z:Int} {W':W},(if (k=3∨k=4)/\v=0 then W.none else .int (wr (unw k u v)))=W'->Iu (match wk k u v with
   | none=>.no true
   | some z=>.ok z)=W':=λ {z W'} h=>by
   unfold wk;by_cases hc:(k=3∨k=4)/\v=0
   . rw [Oo hc];rw [Oo hc] at h;exact h
   . rw [Oq hc];rw [Oq hc] at h;exact h
  have ret:∀ {W':W} {x:SO},x=some (.rt W',T)->Iu (match wk k u v with
   | none=>.no true
   | some z=>.ok z)=W'->aY x=some (.ok (Iu (match wk k u v with
   | none=>.no true
   | some z=>.ok z)),T):=λ {W' x} h1 h2=>by rw [h1,h2];rfl
  show bb 2 4 _ _ _=_;refine (ao rfl).trans ?_;have pre:∀ {g:DS->ah->SO} {x:SO},g δ T=x->au (aq (bO (aw bh 0[0]! !"num") (aW 0[1]!) az)) (au (bj (aa (aw bh 0[0]! !"name")) (eC (lY (aa (ae 1)) (aa 0[1]!) (aa !0))) (aq az))
   (au (cR (cA (aQ 2) (aa #[0[1]!,ae 1])) (ar 2)) (au (cR (cA (aQ 2) (aa #[0[2]!,ae 1])) (ar 3)) g))) [.val (tw (.op k a b)),.val (.ref d),.no,.no] T=x:=λ {g x} h=>by
   refine (pF (a:=jt k) w0 (MH k)).trans ((cF (a:=jt k) w0 (Mz k)).trans ?_);refine (ag (δ':=[.val (tw (.op k a b)),.val (.ref d),.val (.int u),.no]) (bC (dq (ds:=[tw a,.ref d]) (av (fL (x1 rfl) rfl)) r1) rfl)).trans ?_;exact (ag (δ':=δ) (bC (dq (ds:=[tw b,.ref d]) (av (fL (x2 rfl) rfl)) r2) rfl)).trans h
  have nx:∀ {w:Str} {f:DS->Option dR} {g:DS->ah->SO},decide (jt k=w)=false->au (aq (bO (aw bh 0[0]! (dC (.str w))) f az)) g δ T=g δ T:=λ h=>pF (a:=jt k) w0 h;by_cases h4:k=4
  . subst h4;refine ret (pre (bw (bu (d:=if v=0 then .none else .int (u.fmod v)) (aE (b:=true) ((tD w0).trans (Om some (q4.trans rfl))) (aJ ?_))))) ?_
    . have b1:jZ (dB (aw bh (ax 3) !0)) δ=some (.int (if v=0 then 1 else 0)):=bI rfl;have b2:jZ (dB (aw ui (ax 3) !0)) δ=some (.int (if v≠0 then 1 else 0)):=by
       refine bI ?_;show some (!decide (v=0))=_;simp
      have nz:v+(if v=0 then 1 else 0)≠0:=by split <;> omega
      have li:dt (dD #[dC .none,aA cq (ax 2) (aA bQ (ax 3) (jZ (dB (aw bh (ax 3) !0))))]) δ=some (.list [.none,.int (u.fmod (v+(if v=0 then 1 else 0)))]):=by
       have:=fL (f:=dC .none) (δ:=δ) rfl (fL (dO (f:=ax 2) rfl (dO (c:=bQ) (f:=ax 3) rfl b1 rfl) (cf u nz)) (g:=aj) rfl);simp only [dt,dD,this,Oj,Ou,OU,Oo z2,Ot]
      refine wy li b2 ?_;by_cases hz:v=0
      . simp only [hz,OS,ne_eq,not_true,OX];exact Kr _ _
      . simp only [hz,OX,ne_eq,not_false_iff,OS,Int.add_zero];exact K7 _ _ _
    . refine fin (z:=0) ?_;by_cases hz:v=0
      . simp [hz]
      . simp only [hz,and_false,OX];congr 1;have e1':unw 4 u v=u-v*u.fdiv v:=rfl;rw [e1',FS,DZ (FV hv hz)]
  have hn:¬ ((k=3∨k=4)/\v=0):=λ z=>z.1.elim n3 h4;have fin2:∀ {y:Int},wr (unw k u v)=y->Iu (match wk k u v with
   | none=>.no true
   | some z=>.ok z)=.int y:=λ {y} h=>fin (z:=0) (by rw [Oq hn,h])
  have w01:∀ p:Prop,∀ [Decidable p],wr (if p then 1 else 0)=(if p then 1 else 0):=λ p _=>DZ (by by_cases h:p <;> simp only [h,OS,OX] <;> decide);by_cases h6:k=6
  . subst h6;exact ret (pre ((nx (by rw [q4];rfl)).trans (bw (bu (aE (b:=true) ((tD w0).trans (Om some (q6.trans rfl))) (aJ (bI (p:=u=v) rfl))))))) (fin2 (w01 (u=v)))
  by_cases h5:k=5
  . subst h5;exact ret (pre ((nx (by rw [q4];rfl)).trans ((nx (by rw [q6];rfl)).trans (bw (bu (aE (b:=true) ((tD w0).trans (Om some (q5.trans rfl))) (aJ (bI (p:=u<v) rfl)))))))) (fin2 (w01 (u<v)))
  by_cases h2:k=2
  . subst h2;exact ret (pre ((nx (by rw [q4];rfl)).trans ((nx (by rw [q6];rfl)).trans ((nx (by rw [q5];rfl)).trans (bw (bu (aE (b:=true) ((tD w0).trans (Om some (q2.trans rfl))) (aJ (mZ (ds:=[.int (u*v)]) (fL (dO rfl rfl (kg (om hu))) rfl) (nO _)))))))))) (fin2 rfl)
  by_cases h1:k=1
  . subst h1;exact ret (pre ((nx (by rw [q4];rfl)).trans ((nx (by rw [q6];rfl)).trans ((nx (by rw [q5];rfl)).trans ((nx (by rw [q2];rfl)).trans (bw (bu (aE (b:=true) ((tD w0).trans (Om some (q1.trans rfl))) (aJ (mZ (ds:=[.int (u-v)]) rfl (nO _))))))))))) (fin2 rfl)
  have h0:k=0:=by
   rcases k with ⟨k,hk⟩
   match k,hk with
   | 0,_=>rfl
   | 1,_=>exact absurd rfl h1
   | 2,_=>exact absurd rfl h2
   | 3,_=>exact absurd rfl n3
   | 4,_=>exact absurd rfl h4
   | 5,_=>exact absurd rfl h5
   | 6,_=>exact absurd rfl h6
  subst h0;exact ret (pre ((nx (by rw [q4];rfl)).trans ((nx (by rw [q6];rfl)).trans ((nx (by rw [q5];rfl)).trans ((nx (by rw [q2];rfl)).trans ((nx (by rw [q1];rfl)).trans (bu (aJ (mZ (ds:=[.int (u+v)]) rfl (nO _)))))))))) (fin2 rfl)
end
structure LS (T:ah) (d m:Nat) (l:fQ) (told:List W):Prop where
 hd:T[d]?=some (.dK (mC l))
 hm:T[m]?=some (.lst told)
 ne:d≠m
 rg:vc l
 ll:l.length<8000
 tl:told.length<8000
theorem pK {T:ah} {i j:Nat} {o o':Ob} (h:T[i]?=some o):(T.set i o')[j]?=if j=i then some o' else T[j]?:=by
 by_cases e:j=i
 . subst e;rw [Oo rfl,Py (oG h).1]
 . rw [Oq e,OI (Pt e)]
section
variable {R:List W} {pa:List Int}
noncomputable def MM (R:List W) (pa:List Int) (T:ah) (d m p p':Nat) (l':fQ) (told':List W):Prop:=∃ T',j6 [.list R,.list (pa.map .int),.int p,.ref d,.ref m] T=some (.ok (.int p'),T')/\T'[d]?=some (.dK (mC l'))/\T'[m]?=some (.lst told')/\∀ i,i≠d->i≠m->T'[i]?=T[i]?
noncomputable def mS:Bd->String
 | .nil => "end"
 | .set _ _ _ => "set"
 | .tell _ _ => "tell"
 | .brk _ => "break"
 | .agn _ => "again"
 | .stp _ => "stop"
 | .ifs _ _ _ => "if"
 | .ife _ _ _ _ => "if"
 | .whl _ _ _ => "while"
noncomputable def BI:Bd->List W
 | .set x t _=>[.str x,tw t]
 | .tell t _=>[tw t]
 | .ifs t _ _=>[tw t]
 | .ife t _ _ _=>[tw t]
 | .whl t _ _=>[tw t]
 | _=>[]
theorem CU {w:Option Nat} {p:Nat} {r:Bd} (h:PT R pa w p r) (hr:r.isN=false):R[p]?=some (.tuple (sW (mS r)::BI r))/\mS r∈ai:=by
 cases r with
 | nil=>cases hr
 | _=>exact ⟨h.1,by simp [ai,mS]⟩
theorem yJ {l:fQ} {p:Nat} {r:Bd} {K:List Kf} {p':Nat} {r':Bd} {K':List Kf} {l':fQ} {tl:List W} (h:uk R pa p r K) (hk:ni K r) (e:act l p r K=.go p' r' K' l' tl) {T:ah} {d m:Nat} {told:List W} (s:LS T d m l told):MM R pa T d m p p' l' (told++tl):=by
 obtain ⟨w,h1,h2,h3⟩:=h;have hr:r.isN=false:=by cases r <;> first | exact hk.elim | rfl
 obtain ⟨t1,t2⟩:=CU h1 hr;obtain ⟨a,ha⟩:∃ a,a=mS r:=⟨_,rfl⟩
 obtain ⟨tk,htk⟩:∃ tk,tk=BI r:=⟨_,rfl⟩
 rw [<-ha,<-htk] at t1;rw [<-ha] at t2;let y:W:=.tuple (sW a::tk);let δ:DS:=[.val (.list R),.val (.list (pa.map .int)),.val (.int p),.val (.ref d),.val (.ref m),.val y]
 have a1:aV (aA aH (ax 0) (ae 2)) (ar 5) [.val (.list R),.val (.list (pa.map .int)),.val (.int p),.val (.ref d),.val (.ref m),.no]=some (.nx δ):=aF (wy (l:=R) (i:=p) rfl rfl (by rw [vE _ _ (oG t1).1];exact t1)) rfl;have w0:5[0]! δ=some (sW a):=x0 (l:=tk) rfl;have we:∀ b∈ai,aw bh 5[0]! (dC (.str (Str.ofString b))) δ=some (decide (a=b)):=λ b hb=>wE t2 hb w0;have sk:∀ {b:String} {f g:DS->ah->SO} {S:ah},b∈ai->a≠b->au (bj (aa (aw bh 5[0]! (dC (.str (Str.ofString b))))) f (aq az)) g δ S=g δ S:=λ {b f g S} hb hn=>by
  have:=we b hb;rw [Oi hn] at this;exact ag ((bF (av this)).trans rfl)
 have skP:∀ {b:String} {f:DS->Option dR} {g:DS->ah->SO} {S:ah},b∈ai->a≠b->au (aq (bO (aw bh 5[0]! (dC (.str (Str.ofString b)))) f az)) g δ S=g δ S:=λ {b f g S} hb hn=>by
  have:=we b hb;rw [Oi hn] at this;exact ag (aG (aE (b:=false) this rfl))
 have sk4:∀ {f g:DS->ah->SO} {q:DS->ah->SM Bool} {S:ah},a ≠ "if" -> a ≠ "while" -> au (bj (fX (aa (jw (aw bh 5[0]! !"if") (aw bh 5[0]! !"while"))) q) f (aq az)) g δ S=g δ S:=λ {f g q S} n1 n2=>by
  have e1:=we "if" (by simp [ai]);have e2:=we "while" (by simp [ai]);rw [Oi n1] at e1;rw [Oi n2] at e2;exact ag ((bF (gT (av ((pT e1).trans e2)))).trans rfl)
 have p1:∀ S:ah,aq (aW (aA bQ (ax 2) !1)) δ S=some (.rt (.int ((p+1:Nat):Int)),S):=λ S=>bu (aJ rfl);have go:∀ {x:SO} {T':ah} {l2:fQ} {told2:List W} {p2:Nat},x=some (.rt (.int p2),T')->T'[d]?=some (.dK (mC l2))->T'[m]?=some (.lst told2)->(∀ i,i≠d->i≠m->T'[i]?=T[i]?)->aY x=some (.ok (.int p2),T')/\T'[d]?=some (.dK (mC l2))/\T'[m]?=some (.lst told2)/\∀ i,i≠d->i≠m->T'[i]?=T[i]?:=λ hx z1 z2 z3=>by rw [hx];exact ⟨rfl,z1,z2,z3⟩
 have id':∀ i,i≠d->i≠m->T[i]?=T[i]?:=λ _ _ _=>rfl;have app0:told++[]=told:=Oz _;have tst4:∀ {t:Tr} {z:List W},tk=tw t::z->GX t->(a = "if" ∨ a = "while")->∀ {v:Int},(ev c0 l t).2=.ok v->fX (aa (jw (aw bh 5[0]! !"if") (aw bh 5[0]! !"while"))) (iK false (cA (aQ 3) (aa #[5[1]!,ae 3])) (aa !0)) δ T=some (.ok (decide (v=0)),T):=λ {t z} ht g ho {v} hv=>by
  have o:jw (aw bh 5[0]! !"if") (aw bh 5[0]! !"while") δ=some true:=by
   have e1:=we "if" (by simp [ai]);have e2:=we "while" (by simp [ai]);rcases ho with rfl | rfl
   . exact Eb (e1.trans (Om some (Op rfl)))
   . exact (pT (e1.trans (Om some (Oi (by decide))))).trans (e2.trans (Om some (Op rfl)))
  have n:=iW s.hd s.rg g;rw [hv] at n;exact ge (av o) (Hw (dq (ds:=[tw t,.ref d]) (av (fL (x1 (v:=sW a) (l:=z) (by show some y=_;simp only [y,ht])) rfl)) n) rfl)
 have pat:∀ {v:Int},pa[p]?=some v->aA aH (ax 1) (ae 2) δ=some (.int v):=λ hv=>Hr hv rfl rfl;have test:∀ {t:Tr} {z:List W} {e':Nat} {A B:Ac},tk=tw t::z->GX t->(a = "if" ∨ a = "while")->pa[p]?=some ((e':Nat):Int)->(∃ r2 K2,A=.go (p+1) r2 K2 l [])->(∃ r2 K2,B=.go (e'+1) r2 K2 l [])->qO l t A B=.go p' r' K' l' tl->MM R pa T d m p p' l' (told++tl):=λ {t z e' A B} ht g ho hp hA hB he=>by
  have n1:a ≠ "set" := by rcases ho with rfl | rfl <;> decide
  have n2:a ≠ "tell" := by rcases ho with rfl | rfl <;> decide
  have n3:a ≠ "break" := by rcases ho with rfl | rfl <;> decide
  have n4:a ≠ "again" := by rcases ho with rfl | rfl <;> decide
  unfold qO at he;cases hv:(ev c0 l t).2 with
  | no b=>rw [hv] at he;cases he
  | ok v=>
   rw [hv] at he;have T4:=tst4 ht g ho hv;dsimp only at he;by_cases h0:v=0
   . rw [Oo h0] at he;rw [Op h0] at T4;obtain ⟨r2,K2,rfl⟩:=hB;cases he;refine ⟨T,?_⟩;rw [app0];refine (λ z=>(⟨(ao rfl).trans z.1,z.2⟩:_/\_)) (go (p2:=e'+1) ((ag (aG a1)).trans ((sk (by simp [ai]) n1).trans ((sk (by simp [ai]) n2).trans (bw ((cT T4).trans (bu (aJ (dO (pat hp) rfl rfl)))))))) s.hd s.hm id')
   . rw [Oq h0] at he;rw [Oi h0] at T4;obtain ⟨r2,K2,rfl⟩:=hA;cases he;refine ⟨T,?_⟩;rw [app0];refine (λ z=>(⟨(ao rfl).trans z.1,z.2⟩:_/\_)) (go (p2:=p+1) ((ag (aG a1)).trans ((sk (by simp [ai]) n1).trans ((sk (by simp [ai]) n2).trans ((ag ((bF T4).trans rfl)).trans ((skP (by simp [ai]) n3).trans ((skP (by simp [ai]) n4).trans (p1 _))))))) s.hd s.hm id')
 cases r with
 | nil=>cases hr
 | set x t r=>
  obtain ⟨v,hv⟩:=ik l hk.1 hk.2;simp only [act,hv] at e;have ha':a = "set" := ha;have hk':tk=[.str x,tw t]:=htk;subst ha';subst hk';cases e;have n:=iW s.hd s.rg hk.1;rw [hv] at n;rw [app0];have pt:kh (aa (ae 3)) (aa 5[1]!) (cA (aQ 3) (aa #[5[2]!,ae 3])) δ T=some (.nx δ,T.set d (.dK (mC (nr l x v)))):=by
   refine (xQ (d:=.int v) (k:=x) (dq (ds:=[tw t,.ref d]) (av (fL (x2 rfl) rfl)) n) rfl (av (x1 rfl)) s.hd (by have:=s.ll;simp [mC];omega)).trans ?_;rw [vM]
  have e1:=(we "set" (by simp [ai])).trans (Om some (Op rfl));refine ⟨T.set d (.dK (mC (nr l x v))),(λ z=>(⟨(ao rfl).trans z.1,z.2⟩:_/\_)) (go (p2:=p+1) ((ag (aG a1)).trans ((ag ((cT (av e1)).trans pt)).trans ((sk (by simp [ai]) (by decide)).trans ((sk4 (by decide) (by decide)).trans ((skP (by simp [ai]) (by decide)).trans ((skP (by simp [ai]) (by decide)).trans (p1 _))))))) ?_ ?_ ?_)⟩
  . rw [pK s.hd,Oo rfl]
  . rw [pK s.hd,Oq (Pt s.ne)];exact s.hm
  . intro i h1 h2;rw [pK s.hd,Oq h1]
 | tell t r=>
  obtain ⟨v,hv⟩:=ik l hk.1 hk.2;simp only [act,hv] at e;have ha':a = "tell" := ha;have hk':tk=[tw t]:=htk;subst ha';subst hk';cases e;have n:=iW s.hd s.rg hk.1;rw [hv] at n;have pt:bT (aa (ae 4)) (cA (aQ 3) (aa #[5[1]!,ae 3])) δ T=some (.nx δ,T.set m (.lst (told++[.int v]))):=oW (l:=m) rfl s.hm (dq (ds:=[tw t,.ref d]) (av (fL (x1 rfl) rfl)) n) s.hm (by have:=s.tl;omega);have e1:=(we "tell" (by simp [ai])).trans (Om some (Op rfl));refine ⟨T.set m (.lst (told++[.int v])),(λ z=>(⟨(ao rfl).trans z.1,z.2⟩:_/\_)) (go (p2:=p+1) ((ag (aG a1)).trans ((sk (by simp [ai]) (by decide)).trans ((ag ((cT (av e1)).trans pt)).trans ((sk4 (by decide) (by decide)).trans ((skP (by simp [ai]) (by decide)).trans ((skP (by simp [ai]) (by decide)).trans (p1 _))))))) ?_ ?_ ?_)⟩
  . rw [pK s.hm,Oq s.ne];exact s.hd
  . rw [pK s.hm,Oo rfl]
  . intro i h1 h2;rw [pK s.hm,Oq h2]
 | brk r=>
  obtain ⟨v,hv,hp⟩:=h1.2.1;obtain ⟨t,b,r',K',hu,w',i1,i2,i3⟩:=h2.unw hv;simp only [act,hu] at e;have ha':a = "break" := ha;have hk':tk=[]:=htk;subst ha';subst hk';cases e;rw [app0];have e1:=(we "break" (by simp [ai])).trans (Om some (Op rfl));have rv:aA bQ (aA aH (ax 1) (aA aH (ax 1) (ae 2))) (!1) δ=some (.int ((v+2+b.len:Nat):Int)):=by
   refine (dO (Hr i1.2.2.1 rfl (pat hp)) rfl rfl).trans ?_;congr 2;omega
  refine ⟨T,(ao rfl).trans ((Om aY (?_:_=some (.rt (.int ((v+2+b.len:Nat):Int)),T))).trans rfl),s.hd,s.hm,id'⟩;refine (ag (aG a1)).trans ((sk (by simp [ai]) (by decide)).trans ((sk (by simp [ai]) (by decide)).trans ((sk4 (by decide) (by decide)).trans ?_)));exact bw (bu (aE (b:=true) e1 (aJ rv)))
 | agn r=>
  obtain ⟨v,hv,hp⟩:=h1.2.1;obtain ⟨t,b,r',K',hu,_⟩:=h2.unw hv;simp only [act,hu] at e;have ha':a = "again" := ha;have hk':tk=[]:=htk;subst ha';subst hk';cases e;rw [app0];have e1:=(we "again" (by simp [ai])).trans (Om some (Op rfl));refine ⟨T,(ao rfl).trans ((Om aY (?_:_=some (.rt (.int _),T))).trans rfl),s.hd,s.hm,id'⟩;refine (ag (aG a1)).trans ((sk (by simp [ai]) (by decide)).trans ((sk (by simp [ai]) (by decide)).trans ((sk4 (by decide) (by decide)).trans ((skP (by simp [ai]) (by decide)).trans ?_))));exact bw (bu (aE (b:=true) e1 (aJ (pat hp))))
 | stp r=>cases e
 | ifs t yb r=>
  obtain ⟨b1,b2,b3,b4,b5,b6,b7⟩:=h1;have ha':a = "if" := ha;have hk':tk=[tw t]:=htk;subst ha';subst hk';exact test rfl b2 (.inl rfl) b3 ⟨_,_,rfl⟩ ⟨_,_,by rw [show p+1+yb.len+1=p+2+yb.len by omega]⟩ e
 | ife t yb n r=>
  obtain ⟨b1,b2,b3,b4,b5,b6,b7,b8,b9,b10⟩:=h1;have ha':a = "if" := ha;have hk':tk=[tw t]:=htk;subst ha';subst hk';exact test rfl b2 (.inl rfl) b3 ⟨_,_,rfl⟩ ⟨_,_,by rw [show p+1+yb.len+1=p+2+yb.len by omega]⟩ e
 | whl t b r=>
  obtain ⟨b1,b2,b3,b4,b5,b6,b7⟩:=h1;have ha':a = "while" := ha;have hk':tk=[tw t]:=htk;subst ha';subst hk';exact test rfl b2 (.inr rfl) b3 ⟨_,_,rfl⟩ ⟨_,_,by rw [show p+1+b.len+1=p+2+b.len by omega]⟩ e
end
noncomputable def FI (n:Nat) (R:List W) (pa:List Int) (most:Int) (d m a:Nat) (e:W) (s8:Sl):DS:=[.val (.ref n),.val (.list R),.val (.list (pa.map .int)),.val (.int most),.val (.ref d),.val (.ref m),.val (.int a),.val e,s8]
theorem oJ {g:List W->Option W} {fa:DS->ah->SM (List W)} {δ:DS} {S S1:ah} {ds:List W} {x:W} (h:fa δ S=some (.ok ds,S1)) (h2:g ds=some x):fY g fa δ S=some (.ok x,S1):=by simp only [fY,ak,h,h2,jm,Ot]
theorem G8 (p:Nat):ui (bL p) (.int ((p:Int)+1))=some false:=by
 show some (!decide ((p:Int)+1=(p:Int)+1))=_;simp
section
variable {R:List W} {pa:List Int}
noncomputable def LA (R:List W) (pa:List Int) (n:Nat) (most:Int) (T:ah) (d m p:Nat) (a:Ac) (told:List W):Prop:=∃ T' a' e',gP (FI n R pa most d m p .none (.val (bL p))) T=some (.nx (FI n R pa most d m a' e' (.val (bL p))),T')/\(∀ i,i≠d->i≠m->T'[i]?=T[i]?)/\(match a with
 | .go p' r' K' l' tl=>a'=sD R (pop p' r' K')/\e'=.none/\T'[d]?=some (.dK (mC l'))/\T'[m]?=some (.lst (told++tl))
 | .nt=>e'=.tuple [sW "nought", bL p]/\T'[m]?=some (.lst told)
 | .stop=>e'=.tuple [sW "done", bL p]/\T'[m]?=some (.lst told))
theorem El {l:fQ} {p:Nat} {r:Bd} {K:List Kf} (h:uk R pa p r K) (hk:ni K r) {T:ah} {d m:Nat} {told:List W} (s:LS T d m l told) (n:Nat) (most:Int):LA R pa n most T d m p (act l p r K) told:=by
 have hI:=h;obtain ⟨w,h1,h2,h3⟩:=h;have hr:r.isN=false:=by cases r <;> first | exact hk.elim | rfl
 obtain ⟨t1,t2⟩:=CU h1 hr;let δ:DS:=FI n R pa most d m p .none (.val (bL p));have w0:aA aH (aA aH (ax 1) (ae 6)) (!0) δ=some (sW (mS r)):=uW t1 rfl rfl;have we:∀ b∈ai,aw bh (aA aH (aA aH (ax 1) (ae 6)) !0) (dC (.str (Str.ofString b))) δ=some (decide (mS r=b)):=λ b hb=>wE t2 hb w0;have n1:mS r ≠ "end" := by cases r <;> first | cases hr;done | (show (_:String)≠_;simp [mS])
 have t0:jw (aw iF (ax 7) (dC .none)) (jw (aw ui (ax 8) (aA bQ (ax 6) !1)) (aw bh (aA aH (aA aH (ax 1) (ae 6)) !0) !"end")) δ=some false:=by
  refine (pT rfl).trans ((pT (AR (a:=bL p) (b:=.int ((p:Int)+1)) rfl rfl (G8 p))).trans ?_);rw [we "end" (by simp [ai]),Oi n1]
 have pre:∀ {g:DS->ah->SO} {x:SO},g δ T=x->au (aq (bO (jw (aw iF (ax 7) (dC .none)) (jw (aw ui (ax 8) (aA bQ (ax 6) !1)) (aw bh (aA aH (aA aH (ax 1) (ae 6)) !0) !"end"))) (aW (dC (.bool false))) az)) g δ T=x:=λ {g x} hx=>(ag (aG (aE (b:=false) t0 rfl))).trans hx;by_cases hs:mS r = "stop"
 . have hst:∃ r',r=.stp r':=by cases r <;> first | exact ⟨_,rfl⟩ | (exact absurd hs (by simp [mS]))
   obtain ⟨r',rfl⟩:=hst;have e1:=(we "stop" (by simp [ai])).trans (Om some (Op hs));refine ⟨T,p,.tuple [sW "done", bL p],pre ((cT (av e1)).trans (aG (aF (pJ rfl rfl) rfl))),λ _ _ _=>rfl,rfl,s.hm⟩
 . have e1:=(we "stop" (by simp [ai])).trans (Om some (Oi hs));have num:∀ {t:Tr},BI r=[tw t]->GX t->i7 gC (cA (aQ 3) (aa #[aA aH (aA aH (ax 1) (ae 6)) !1,ae 4])) (aa (dC .none)) δ T=some (.ok (match (ev c0 l t).2 with
    | .ok _=>false
    | .no _=>true),T):=λ {t} ht g=>by
    have nn:=iW s.hd s.rg g;have ix:aA aH (aA aH (ax 1) (ae 6)) (!1) δ=some (tw t):=by
     rw [ht] at t1;exact x1 (v:=sW (mS r)) (l:=[]) (wy (l:=R) (i:=p) rfl rfl (by rw [vE _ _ (oG t1).1];exact t1))
    refine uO (dq (ds:=[tw t,.ref d]) (av (fL ix rfl)) nn) rfl ?_;cases (ev c0 l t).2 <;> rfl
   have oo:∀ b:Bool,(b=decide (mS r = "if" ∨ mS r = "while"))->jw (aw bh (aA aH (aA aH (ax 1) (ae 6)) !0) !"if") (aw bh (aA aH (aA aH (ax 1) (ae 6)) !0) !"while") δ=some b:=λ b hb=>by
    rw [hb];unfold jw;rw [we "if" (by simp [ai]),we "while" (by simp [ai])];by_cases ha:mS r = "if" <;> simp [ha]
   have goes:∀ {p':Nat} {r':Bd} {K':List Kf} {l':fQ} {tl:List W},act l p r K=.go p' r' K' l' tl->fX (aa (jw (aw bh (aA aH (aA aH (ax 1) (ae 6)) !0) !"if") (aw bh (aA aH (aA aH (ax 1) (ae 6)) !0) !"while"))) (i7 gC (cA (aQ 3) (aa #[aA aH (aA aH (ax 1) (ae 6)) !1,ae 4])) (aa (dC .none))) δ T=some (.ok false,T)->LA R pa n most T d m p (act l p r K) told:=λ {p' r' K' l' tl} ha hc=>by
    obtain ⟨T',N1,N2,N3,N4⟩:=yJ hI hk ha s;have on:=oC (lz hI hk ha);rw [ha];refine ⟨T',sD R (pop p' r' K'),.none,pre ((bF (av e1)).trans ((bF hc).trans (bC (oJ (ds:=[.list R,.list (pa.map .int),.int p']) (aK rfl (aK rfl (aK (dq (ds:=[.list R,.list (pa.map .int),.int p,.ref d,.ref m]) rfl N1) rfl))) on) rfl))),N4,rfl,rfl,N2,N3⟩
   have plain:mS r ≠ "if" -> mS r ≠ "while" -> fX (aa (jw (aw bh (aA aH (aA aH (ax 1) (ae 6)) !0) !"if") (aw bh (aA aH (aA aH (ax 1) (ae 6)) !0) !"while"))) (i7 gC (cA (aQ 3) (aa #[aA aH (aA aH (ax 1) (ae 6)) !1,ae 4])) (aa (dC .none))) δ T=some (.ok false,T):=λ n1 n2=>gT (av (oo false (by simp [n1,n2])));have tests:∀ {t:Tr} {A B:Ac},BI r=[tw t]->GX t->(mS r = "if" ∨ mS r = "while")->act l p r K=qO l t A B->(∃ a b c d e,A=.go a b c d e)->(∃ a b c d e,B=.go a b c d e)->LA R pa n most T d m p (act l p r K) told:=λ {t A B} ht g ho ha hA hB=>by
    have nm:=num ht g;have o:=oo true (by simp [ho]);cases hv:(ev c0 l t).2 with
    | no b=>
     rw [hv] at nm;have:act l p r K=.nt:=by rw [ha];simp only [qO,hv]
     rw [this];exact ⟨T,p,.tuple [sW "nought", bL p],pre ((bF (av e1)).trans ((cT (ge (av o) nm)).trans (aG (aF (pJ rfl rfl) rfl)))),λ _ _ _=>rfl,rfl,s.hm⟩
    | ok v=>
     rw [hv] at nm;have:∃ a b c d e,act l p r K=.go a b c d e:=by
      rw [ha];simp only [qO,hv];split
      . exact hB
      . exact hA
     obtain ⟨a,b,c,d',e',this⟩:=this;exact goes this (ge (av o) nm)
   cases r with
   | nil=>cases hr
   | set x t r=>
    obtain ⟨v,hv⟩:=ik l hk.1 hk.2;exact goes (by simp only [act,hv];rfl) (plain (by simp [mS]) (by simp [mS]))
   | tell t r=>
    obtain ⟨v,hv⟩:=ik l hk.1 hk.2;exact goes (by simp only [act,hv];rfl) (plain (by simp [mS]) (by simp [mS]))
   | brk r=>
    obtain ⟨_,_,_,_,_,hu⟩:=hk;exact goes (by simp only [act,hu];rfl) (plain (by simp [mS]) (by simp [mS]))
   | agn r=>
    obtain ⟨_,_,_,_,_,hu⟩:=hk;exact goes (by simp only [act,hu];rfl) (plain (by simp [mS]) (by simp [mS]))
   | stp r=>exact absurd rfl hs
   | ifs t yb r=>exact tests rfl h1.2.1 (.inl rfl) rfl ⟨_,_,_,_,_,rfl⟩ ⟨_,_,_,_,_,rfl⟩
   | ife t yb n r=>exact tests rfl h1.2.1 (.inl rfl) rfl ⟨_,_,_,_,_,rfl⟩ ⟨_,_,_,_,_,rfl⟩
   | whl t b r=>exact tests rfl h1.2.1 (.inr rfl) rfl ⟨_,_,_,_,_,rfl⟩ ⟨_,_,_,_,_,rfl⟩
end
theorem v3 (N:W):∀ (k:Nat) (x:Option (Nat×Bd×List Kf)) (l:fQ),(fA N k x l).1.length<=k
 | 0,none,_=>Ol _
 | 0,some _,_=>Ol _
 | _+1,none,_=>O1 _
 | k+1,some x,l=>by
  unfold fA;split
  . rename_i p' r' K' l' tl _;have:=v3 N k (pop p' r' K') l';simp only [Ou];omega
  . simp
  . simp
theorem qQ {n:Nat} {h:W->DS->Option DS} {fb:DS->ah->SO} {f i:Nat} {δ:DS} {S:ah} {es:List W} (hl:S[n]?=some (.lst es)) (hi:es[i]?=none):eI (n,.l) h fb (f+1) i δ S=some (.nx δ,S):=by
 have:iB S (n,.l)=some es:=by simp [iB,cM,hl]
 simp only [eI,this,Oj,hi]
theorem Ah {n:Nat} {h:W->DS->Option DS} {fb:DS->ah->SO} {f i:Nat} {δ δ2 δ':DS} {S S':ah} {es:List W} {d:W} (hl:S[n]?=some (.lst es)) (hi:es[i]?=some d) (h1:h d δ=some δ2) (h2:fb δ2 S=some (.nx δ',S')):eI (n,.l) h fb (f+1) i δ S=eI (n,.l) h fb f (i+1) δ' S':=by
 have:iB S (n,.l)=some es:=by simp [iB,cM,hl]
 simp only [eI,this,Oj,hi,h1,h2]
section
variable {R:List W} {pa:List Int}
noncomputable def Lh (R:List W) (N:W) (k:Nat) (x:Option (Nat×Bd×List Kf)) (l:fQ) (a':Nat) (e':W):Prop:=
 (e'=(fA N k x l).2.2/\∃ s i,e'=.tuple [sW s,bL i]/\s∈["done", "nought"])∨(e'=.none/\R[a']?=some gf/\(fA N k x l).2.2=.tuple [sW "done", bL a'])∨(e'=.none/\(∃ a t,R[a']?=some (.tuple (sW a::t))/\a∈ai/\a ≠ "end")/\(fA N k x l).2.2=.tuple [sW "tired", bL a']/\(fA N k x l).1.length=k)
theorem vT (n:Nat) (most:Int) {d m lk:Nat} (hld:lk≠d) (hlm:lk≠m) {Ls:List W} {N:W} (hN:N=bL (R.length-1)):∀ (k p:Nat) (r:Bd) (K:List Kf) (l:fQ) (told:List W) (T:ah) (i F:Nat) (s8:Sl),uk R pa p r K->LS T d m l told->l.length+k<7000->told.length+k<7000->T[lk]?=some (.lst Ls)->Ls.drop i=(fA N k (pop p r K) l).1->k+1<=F->R[R.length-1]?=some gf->
 ∃ T' a' e' s8',eI (lk,.l) (ar 8) gP F i (FI n R pa most d m (sD R (pop p r K)) .none s8) T=some (.nx (FI n R pa most d m a' e' s8'),T')/\(∀ j,j≠d->j≠m->T'[j]?=T[j]?)/\T'[m]?=some (.lst (told++(fA N k (pop p r K) l).2.1))/\Lh R N k (pop p r K) l a' e'
 | k,p,r,K,l,told,T,i,F,s8,hI,s,b1,b2,hL,hD,hF,hE=>by
  obtain ⟨F,rfl⟩:∃ j,F=j+1:=⟨F-1,by omega⟩
  have iN:∀ {y:List W},Ls.drop i=y->y[0]?=Ls[i]?:=λ h=>by rw [<-h];simp
  cases hx:pop p r K with
  | none=>
   rw [hx] at hD;have sm:fA N k none l=([],[],.tuple [sW "done", N]):=by cases k <;> rfl
   rw [sm] at hD;refine ⟨T,R.length-1,.none,s8,qQ hL (iN hD).symm,λ _ _ _=>rfl,by rw [sm,Oz];exact s.hm,.inr (.inl ⟨rfl,hE,?_⟩)⟩;rw [sm,hN]
  | some x=>
   obtain ⟨p',r',K'⟩:=x;obtain ⟨hI',hk⟩:=kP hI hx;dsimp only at hI' hk;rw [hx] at hD;cases k with
   | zero=>
    refine ⟨T,p',.none,s8,qQ hL (iN hD).symm,λ _ _ _=>rfl,by simp only [fA,Oz];exact s.hm,.inr (.inr ⟨rfl,?_,rfl,rfl⟩)⟩;obtain ⟨w,h1,_,_⟩:=hI';have hr:r'.isN=false:=by cases r' <;> first | exact hk.elim | rfl
    obtain ⟨a,t,t1,t2,t3,t4,_⟩:=zd h1 hr;exact ⟨a,t,t1,t2,t4⟩
   | succ k=>
    obtain ⟨T1,a1,e1,B,fr,H⟩:=El hI' hk s n most;have hL1:T1[lk]?=some (.lst Ls):=by rw [fr lk hld hlm];exact hL
    have st:∀ {aZ:List W},Ls.drop i=bL p'::aZ->Ls[i]?=some (bL p')/\Ls.drop (i+1)=aZ:=λ {aZ} h=>⟨(iN h).symm,by rw [<-tail_drop,h];rfl⟩
    cases ha:act l p' r' K' with
    | nt=>
     rw [ha] at H;have sm:fA N (k+1) (some (p',r',K')) l=([bL p'],[],.tuple [sW "nought", bL p']):=by simp only [fA,ha]
     rw [sm] at hD;obtain ⟨g1,g2⟩:=st hD;obtain ⟨F,rfl⟩:∃ j,F=j+1:=⟨F-1,by omega⟩
     refine ⟨T1,a1,e1,.val (bL p'),(Ah hL g1 rfl B).trans (qQ hL1 ?_),fr,by rw [sm,Oz];exact H.2,.inl ⟨by rw [sm];exact H.1, "nought", p',H.1,by simp⟩⟩;have:=Om (λ z=>z[0]?) g2;simpa using this
    | stop=>
     rw [ha] at H;have sm:fA N (k+1) (some (p',r',K')) l=([bL p'],[],.tuple [sW "done", bL p']):=by simp only [fA,ha]
     rw [sm] at hD;obtain ⟨g1,g2⟩:=st hD;obtain ⟨F,rfl⟩:∃ j,F=j+1:=⟨F-1,by omega⟩
     refine ⟨T1,a1,e1,.val (bL p'),(Ah hL g1 rfl B).trans (qQ hL1 ?_),fr,by rw [sm,Oz];exact H.2,.inl ⟨by rw [sm];exact H.1, "done", p',H.1,by simp⟩⟩;have:=Om (λ z=>z[0]?) g2;simpa using this
    | go p2 r2 K2 l2 tl=>
     rw [ha] at H;obtain ⟨rfl,rfl,H3,H4⟩:=H;have sm:fA N (k+1) (some (p',r',K')) l=(bL p'::(fA N k (pop p2 r2 K2) l2).1,tl++(fA N k (pop p2 r2 K2) l2).2.1,(fA N k (pop p2 r2 K2) l2).2.2):=by simp only [fA,ha]
     rw [sm] at hD;obtain ⟨g1,g2⟩:=st hD;obtain ⟨q1,q2,q3⟩:=qW s.rg hk ha;have tll:tl.length<=1:=by rcases q3 with rfl | ⟨v,rfl⟩ <;> simp
     obtain ⟨T2,a2,e2,s82,E,f2,m2,fo⟩:=vT n most hld hlm hN k p2 r2 K2 l2 (told++tl) T1 (i+1) F (.val (bL p')) (lz hI' hk ha) ⟨H3,H4,s.ne,q1,by omega,by simp;omega⟩ (by omega) (by simp;omega) hL1 g2 (by omega) hE;refine ⟨T2,a2,e2,s82,(Ah hL g1 rfl B).trans E,λ j h1 h2=>(f2 j h1 h2).trans (fr j h1 h2),by rw [sm,m2,append_assoc],?_⟩;rcases fo with ⟨z1,z2⟩ | ⟨z1,z2,z3⟩ | ⟨z1,z2,z3,z4⟩
     . exact .inl ⟨by rw [sm];exact z1,z2⟩
     . exact .inr (.inl ⟨z1,z2,by rw [sm];exact z3⟩)
     . exact .inr (.inr ⟨z1,z2,by rw [sm];exact z3,by rw [sm];simp only [Ou];omega⟩)
end
theorem tf {S:ah} {l:Nat} {es:List W} (h:S[l]?=some (.lst es)) (hi:∀ d∈es,∃ i,d=W.int i):∀ (f i:Nat),es.length-i<f->bP (l,.l) (ar 0) (aa (jw (xJ (pB (sw (jS "int") (ae 0)))) (pB (sw (jS "bool") (ae 0))))) (aa (ae 0)) [.no] f i S=some (.ok [],S)
 | 0,i,hf=>by omega
 | f+1,i,hf=>by
  have le:iB S (l,.l)=some es:=by simp [iB,cM,h]
  cases hd:es[i]? with
  | none=>simp only [bP,le,Oj,hd]
  | some d=>
   obtain ⟨j,rfl⟩:=hi d (O8 hd);have hl:i<es.length:=(oG hd).1;have t:aa (jw (xJ (pB (sw (jS "int") (ae 0)))) (pB (sw (jS "bool") (ae 0)))) [.val (.int j)] S=some (.ok false,S):=rfl;have g:ar 0 (.int j) [.no]=some [.val (.int j)]:=rfl;simp only [bP,le,Oj,hd,g,ak,t,OO,OX];exact tf h hi f (i+1) (by omega)
theorem mf {S:ah} {l:Nat} {es:List W} (h:S[l]?=some (.lst es)) (hi:∀ d∈es,∃ i,d=W.int i) (hl:es.length<8000):bG [.ref l] S=some (.ok (.bool true),S):=by
 have z:=sz 9000 (by decide);have lv:fV (aa (ae 0)) [.val (.ref l)] S=some (.ok (l,.l),S):=by
  have:aa (ae 0) [.val (.ref l)] S=some (.ok (.ref l),S):=rfl;simp only [fV,ak,this,dY h,Ot]
 have cp:il 9000 [none] (fV (aa (ae 0))) (ar 0) (aa (jw (xJ (pB (sw (jS "int") (ae 0)))) (pB (sw (jS "bool") (ae 0))))) (aa (ae 0)) [.val (.ref l)] S=some (.ok (.list []),S):=by
  have e:cx [none] [Sl.val (.ref l)]=[.no]:=rfl;simp only [il,ak,lv,Oo z,e,tf h hi 9000 0 (by omega)]
 refine (ao rfl).trans ((Om aY (?_:_=some (.rt (.bool true),S))).trans rfl);exact bY (tG (Hw (a:=0) (b:=0) (HY cp) rfl))
theorem kT:∀ {ds:List W},(∀ d∈ds,∃ i,d=W.int i)->cK ds=true/\ci ds=0
 | [],_=>⟨rfl,rfl⟩
 | d::ds,h=>by
  obtain ⟨i,rfl⟩:=h d OK;have:=kT (ds:=ds) λ d hd=>h d (OH _ hd);exact ⟨by simp [cK,iM,this.1],by simp [ci,fz,this.2]⟩
theorem zm {S:ah} {l m:Nat} {ds:List W} (h:S[l]?=some (.lst [.ref m])) (h':S[m]?=some (.lst ds)) (hk:cK ds=true) (hd:ci ds<20):jV false (.ref l) (.list [.list ds]) S=some true:=by
 obtain ⟨xs,e1,e2,e3,e4⟩:=jF ds hk;have p1:jQ S 24 (.ref l)=some (.list [.list xs]):=by
  show (cM S l).bind _=_;rw [show cM S l=some [.ref m] by simp [cM,h]];show (jn (jQ S 23) [.ref m]).map PyData.list=_;have:jQ S 23 (.ref m)=some (.list xs):=by
   show (cM S m).bind _=_;rw [show cM S m=some ds by simp [cM,h']];show (jn (jQ S 22) ds).map PyData.list=_;rw [jJ S 22 ds hk (by omega),e1];rfl
  simp only [jn,this,Oj,Ot]
 have p2:jQ S 24 (.list [.list ds])=some (.list [.list xs]):=by
  rw [rn S 24 (.list [.list ds]) (by simpa [iM,cK] using hk) (by simp [fz,ci];omega)];simp [W.py,W.pys,e1]
 unfold jV;show (jQ S 24 (.ref l)).bind _=_;rw [p1,p2];simp [canLay0,canLayAll0,e2,PyData.depth,PyData.depthAll,e3,PyData.eqv,eqvAll,e4];omega
theorem gL {T X:ah} {i:Nat} {x:Ob} (h:T[i]?=some x):(T++X)[i]?=some x:=by
 rw [OJ (oG h).1,h]
theorem pN {f g:DS->ah->SM Bool} {δ:DS} {S S1 S2:ah} {b:Bool} (h1:f δ S=some (.ok false,S1)) (h2:g δ S1=some (.ok b,S2)):AN f g δ S=some (.ok b,S2):=by simp only [AN,ak,h1,OO,OX,h2]
theorem qL {f g:DS->ah->SM W} {δ:DS} {S S1 S2:ah} {d:W} (h1:f δ S=some (.ok (.bool true),S1)) (h2:g δ S1=some (.ok d,S2)):nQ f g δ S=some (.ok d,S2):=by
 simp only [nQ,ak,h1,Au,Oj,OS,h2]
theorem mn {neg b:Bool} {fo fi:DS->ah->SM W} {δ:DS} {S S1 S2:ah} {x y:W} (h1:fo δ S=some (.ok x,S1)) (h2:fi δ S1=some (.ok y,S2)) (h3:jV neg x y S2=some b):iK neg fo fi δ S=some (.ok b,S2):=by simp only [iK,ak,h1,h2,h3,jm,Ot]
theorem NQ (n:Nat) (k:Int) (e:W):(lW n k e).lookup (Str.ofString "brought")=some (.ref (n+12)):=by kernel_rfl
theorem N6 (n:Nat) (k:Int) (e:W):(lW n k e).lookup (Str.ofString "puts")=some (.ref (n+14)):=by kernel_rfl
structure nX (T:ah) (n:Nat) (q:Qs):Prop where
 h10:T[n+10]?=some (.ins (Str.ofString "Story") (lW n q.steps q.fin))
 h11:T[n+11]?=some (.lst q.told)
 h12:T[n+12]?=some (.lst [])
 h13:T[n+13]?=some (.lst [.ref (n+16)])
 h14:T[n+14]?=some (.lst [.ref (n+17)])
 h15:T[n+15]?=some (.lst q.lns)
 h16:T[n+16]?=some (.lst q.tch)
 h17:T[n+17]?=some (.dK [])
theorem nX.of (S:ah) (c:Cn) (q:Qs):nX (ST S c q) S.length q:=⟨vK,LQ,gA S _ 12,M6,gA S _ 14,KM,Ma,gA S _ 17⟩
theorem nX.app {T:ah} {n:Nat} {q:Qs} (h:nX T n q) (X:ah):nX (T++X) n q:=⟨gL h.h10,gL h.h11,gL h.h12,gL h.h13,gL h.h14,gL h.h15,gL h.h16,gL h.h17⟩
theorem E6 {S:ah} {l m:Nat} {ds:List W} (neg:Bool) (h:S[l]?=some (.lst ds)) (h':S[m]?=some (.lst ds)) (hk:cK ds=true) (hd:ci ds<20):jV neg (.ref l) (.ref m) S=some (!neg):=by
 obtain ⟨xs,e1,e2,e3,e4⟩:=jF ds hk;have p:∀ {l:Nat},S[l]?=some (.lst ds)->jQ S 24 (.ref l)=some (.list xs):=λ {l} h=>by
  show (cM S l).bind _=_;rw [show cM S l=some ds by simp [cM,h]];show (jn (jQ S 23) ds).map PyData.list=_;rw [jJ S 23 ds hk (by omega),e1];rfl
 unfold jV;show (jQ S 24 (.ref l)).bind _=_;rw [p h,p h'];cases neg <;> simp [canLay0,e2,PyData.depth,e3,PyData.eqv,e4] <;> omega
theorem wI (N:W):∀ (k:Nat) (x:Option (Nat×Bd×List Kf)) (l:fQ),∀ d∈(fA N k x l).1,∃ i,d=W.int i
 | 0,none,_,d,h=>absurd h Ox
 | 0,some _,_,d,h=>absurd h Ox
 | _+1,none,_,d,h=>absurd h Ox
 | k+1,some x,l,d,h=>by
  unfold fA at h;split at h
  . rcases Ow.mp h with h | h
    . exact ⟨_,h⟩
    . exact wI N k _ _ d h
  . exact ⟨_,OW.mp h⟩
  . exact ⟨_,OW.mp h⟩
theorem ud {R:List W} {pa:List Int} (N:W):∀ (k p:Nat) (r:Bd) (K:List Kf) (l:fQ),uk R pa p r K->vc l->∀ d∈(fA N k (pop p r K) l).2.1,∃ i,d=W.int i
 | k,p,r,K,l,hI,hl=>by
  intro d h;cases hx:pop p r K with
  | none=>
   rw [hx] at h;have sm:fA N k none l=([],[],.tuple [sW "done", N]):=by cases k <;> rfl
   rw [sm] at h;exact absurd h Ox
  | some x=>
   obtain ⟨p',r',K'⟩:=x;obtain ⟨hI',hk⟩:=kP hI hx;rw [hx] at h;cases k with
   | zero=>exact absurd h Ox
   | succ k=>
    cases ha:act l p' r' K' with
    | nt=>simp only [fA,ha] at h;exact absurd h Ox
    | stop=>simp only [fA,ha] at h;exact absurd h Ox
    | go p2 r2 K2 l2 tl=>
     simp only [fA,ha] at h;obtain ⟨q1,q2,q3⟩:=qW hl hk ha;rcases Pp.mp h with h | h
     . rcases q3 with rfl | ⟨v,rfl⟩
       . exact absurd h Ox
       . exact ⟨v,OW.mp h⟩
     . exact ud N k p2 r2 K2 l2 (lz hI' hk ha) q1 d h
theorem AE {R:List W} {pa:List Int} (N:W):∀ (k p:Nat) (r:Bd) (K:List Kf) (l:fQ),uk R pa p r K->vc l->(fA N k (pop p r K) l).2.1.length<=k
 | k,p,r,K,l,hI,hl=>by
  cases hx:pop p r K with
  | none=>
   have sm:fA N k none l=([],[],.tuple [sW "done", N]):=by cases k <;> rfl
   rw [sm];exact O1 _
  | some x=>
   obtain ⟨p',r',K'⟩:=x;obtain ⟨hI',hk⟩:=kP hI hx;cases k with
   | zero=>exact Ol _
   | succ k=>
    cases ha:act l p' r' K' with
    | nt=>simp [fA,ha]
    | stop=>simp [fA,ha]
    | go p2 r2 K2 l2 tl=>
     obtain ⟨q1,q2,q3⟩:=qW hl hk ha;have:=AE N k p2 r2 K2 l2 (lz hI' hk ha) q1;have tll:tl.length<=1:=by rcases q3 with rfl | ⟨v,rfl⟩ <;> simp
     simp only [fA,ha,OV];omega
theorem J0:∀ s∈["done", "nought", "tired"],strOk (Str.ofString s)=true:=by decide +kernel
theorem Ld {fo:DS->ah->SM W} {δ:DS} {S S1:ah} {l:Nat} {es:List W} (h1:fo δ S=some (.ok (.ref l),S1)) (h2:S1[l]?=some (.lst es)):xb "list" fo δ S=some (.ok (.bool true),S1):=by
 have:oN "list" (.ref l) S1=some (.bool true):=by simp [oN,dY h2]
 simp only [xb,ak,h1,this,jm,Ot]
theorem BB {m:Nat} {fi:DS->ah->SM (Nat×Kd)} {h:W->DS->Option DS} {fb:DS->ah->SO} {δ:DS} {S S1:ah} {n:Nat×Kd} (h1:fi δ S=some (.ok n,S1)):ph m fi h fb δ S=eI n h fb m 0 δ S1:=by unfold ph;rw [h1];rfl
theorem wB {fo:DS->ah->SM W} {δ:DS} {S S1:ah} {l:Nat} {es:List W} (h1:fo δ S=some (.ok (.ref l),S1)) (h2:S1[l]?=some (.lst es)):fV fo δ S=some (.ok (l,.l),S1):=by simp only [fV,ak,h1,dY h2,Ot]
theorem iV {T:ah} {i:Nat} {o:Ob} (h:T[i]?=some o):i<T.length:=(oG h).1
theorem wY {R:List W} {pa:List Int} {B:Bd} (hI:uk R pa 1 B []) (hE:R[R.length-1]?=some gf) {N:W} (hN:N=bL (R.length-1)) {most:Nat} (hm:most<=1000) {T:ah} {n:Nat} {q:Qs} (A:nX T n q) (z1:q.told=(fA N most (pop 1 B []) []).2.1) (z2:q.lns=(fA N most (pop 1 B []) []).1) (z3:q.steps=(fA N most (pop 1 B []) []).1.length) (z4:q.fin=(fA N most (pop 1 B []) []).2.2) (z5:q.tch=[]):
 ∃ T',gE [.ref (n+10),.list R,.list (pa.map .int),.int most] T=some (.ok (.bool true),T'):=by
 have n0:vc []:=λ p hp=>absurd hp Ox;have iL:=wI N most (pop 1 B []) [];have iT:=ud N most 1 B [] [] hI n0;have lL:=v3 N most (pop 1 B []) [];have lT:=AE N most 1 B [] [] hI n0;rw [<-z2] at iL lL;rw [<-z1] at iT lT;have on:=oC hI;let d:=T.length;let m:=T.length+1;let T2:ah:=T++[.dK [],.lst []];let T3:ah:=T++[.dK [],.lst [],.lst [.int q.steps]];have A2:nX T2 n q:=A.app _;have A3:nX T3 n q:=A.app _;have h15:=iV A.h15;have s3:LS T3 d m [] []:=⟨by show (T++_)[T.length+0]?=_;rw [gA];rfl,by show (T++_)[T.length+1]?=_;rw [gA];rfl,by show T.length≠T.length+1;omega,n0,by simp,by simp⟩
 obtain ⟨T4,a',e',s8',EL,fr,mT,fo⟩:=vT (n+10) most (d:=d) (m:=m) (lk:=n+15) (by show n+15≠T.length;omega) (by show n+15≠T.length+1;omega) (Ls:=q.lns) hN most 1 B [] [] [] T3 0 9000 .no hI s3 (by simp;omega) (by simp;omega) A3.h15 (by rw [drop_zero];exact z2) (by omega) hE;rw [PP,<-z1] at mT;have k4:∀ {i:Nat} {o:Ob},T3[i]?=some o->i<T.length->T4[i]?=some o:=λ {i o} h hi=>(fr i (by show i≠T.length;omega) (by show i≠T.length+1;omega)).trans h;have A4:nX T4 n q:=⟨k4 A3.h10 (iV A.h10),k4 A3.h11 (iV A.h11),k4 A3.h12 (iV A.h12),k4 A3.h13 (iV A.h13),k4 A3.h14 (iV A.h14),k4 A3.h15 (iV A.h15),k4 A3.h16 (iV A.h16),k4 A3.h17 (iV A.h17)⟩
 let δ (s4 s5 s6 s7 s8:Sl):DS:=[.val (.ref (n+10)),.val (.list R),.val (.list (pa.map .int)),.val (.int most),s4,s5,s6,s7,s8]
 let δo:DS:=FI (n+10) R pa most d m (sD R (pop 1 B [])) .none .no;have v0':∀ (x:Sl) (a b c e f:Sl) (T':ah),aa (ae 0) (δ a b c e f) T'=some (.ok (.ref (n+10)),T'):=λ _ _ _ _ _ _ _=>rfl;have z0:=sz 0 (by decide);have z1':=sz 1 (by decide);have c1:lV (la (xb "list" (al "Story" "lines" (aa (ae 0))))) δo T2=some (.ok false,T2):=jM (l0 (Ld (bz rfl A2.h10 (EM _ _ _)) A2.h15));have c2:lV (la (cA bG (aD (al "Story" "lines" (aa (ae 0))) ca))) δo T2=some (.ok false,T2):=jM (l0 (dq (aK (bz rfl A2.h10 (EM _ _ _)) rfl) (mf A2.h15 iL (by omega))));have ls:bS (aD (al "Story" "steps" (aa (ae 0))) ca) δo T2=some (.ok (.ref T2.length),T3):=by
  have:aD (al "Story" "steps" (aa (ae 0))) ca δo T2=some (.ok [.int q.steps],T2):=aK (bz rfl A2.h10 (Kw _ _ _)) rfl;simp only [bS,ak,this,Pg,Oo z1'];simp [T2,T3]
 have c3:lV (la (cA bG (aD (bS (aD (al "Story" "steps" (aa (ae 0))) ca)) ca))) δo T2=some (.ok false,T3):=jM (l0 (dq (aK ls rfl) (mf (es:=[.int q.steps]) (by
  have e:T2.length=T.length+2:=by simp [T2]
  rw [e];show (T++_)[T.length+2]?=_;rw [gA];rfl) (λ d hd=>⟨q.steps,OW.mp hd⟩) (by simp))))
 let δ4 (e:W):DS:=FI (n+10) R pa most d m a' e s8';have f1:∃ e2,bO (kC (aw gC (ax 7) (dC .none)) (aw bh (aA aH (aA aH (ax 1) (ae 6)) !0) !"end")) (aV (bv #[!"done",aA bQ (ax 6) !1]) (ar 7)) az (δ4 e')=some (.nx (δ4 e2))/\bj (fX (aa (aw gC (ax 7) (dC .none))) (iK false (er (al "Story" "lines" (aa (ae 0)))) (aa (ae 3)))) (aq (aV (bv #[!"tired",aA bQ (ax 6) !1]) (ar 7))) (aq az) (δ4 e2) T4=some (.nx (δ4 q.fin),T4)/\∃ s i,q.fin=.tuple [sW s,bL i]/\s∈["done", "nought", "tired"]:=by
  rw [z4];have ll:iK false (er (al "Story" "lines" (aa (ae 0)))) (aa (ae 3)) (δ4 .none) T4=some (.ok (decide ((q.lns.length:Int)=most)),T4):=Hw (pA (bz rfl A4.h10 (EM _ _ _)) A4.h15) rfl;rcases fo with ⟨y1,s,i,y2,y3⟩ | ⟨y1,y2,y3⟩ | ⟨y1,⟨a,t,y2,y4,y5⟩,y3,y6⟩
  . refine ⟨e',aE (b:=false) (JI (by rw [y2];rfl)) rfl,?_,s,i,by rw [<-y1];exact y2,by simp at y3 ⊢;rcases y3 with h | h <;> simp [h]⟩;rw [<-y1];exact (bF (gT (av (by rw [y2];rfl)))).trans rfl
  . refine ⟨.tuple [sW "done", bL a'],?_,?_, "done", a',y3,by simp⟩
    . have w0:=uW (l:=[]) (f:=ax 1) (g:=ae 6) (δ:=δ4 e') y2 rfl rfl;have e1:=(wE (a := "end") (by simp [ai]) (b := "end") (by simp [ai]) w0).trans (Om some (Op rfl));exact aE (b:=true) (dA (by rw [y1];rfl) e1) (aF (pJ rfl rfl) rfl)
    . rw [y3];exact (bF (gT (av rfl))).trans rfl
  . refine ⟨.none,?_,?_, "tired", a',y3,by simp⟩
    . have w0:=uW (f:=ax 1) (g:=ae 6) (δ:=δ4 e') y2 rfl rfl;have e1:=(wE y4 (b := "end") (by simp [ai]) w0).trans (Om some (Oi y5));rw [y1] at e1 ⊢;exact aE (b:=false) (dA rfl e1) rfl
    . rw [Op (by rw [z2,y6])] at ll;rw [y3];exact (cT (ge (av rfl) ll)).trans (aG (aF (pJ rfl rfl) rfl))
 obtain ⟨e2,E1,E2,fs,fi,F1,F2⟩:=f1;have okF:iM q.fin=true/\fz q.fin=1:=by rw [F1];exact ⟨by simp [iM,cK,sW,bL,J0 fs F2],by simp [fz,ci,sW,bL]⟩
 have g1:i7 IE (er (al "Story" "lines" (aa (ae 0)))) (aa (ae 3)) (δ4 q.fin) T4=some (.ok false,T4):=by
  have:=uO (g:=IE) (fi:=aa (ae 3)) (pA (bz (fo:=aa (ae 0)) (δ:=δ4 q.fin) rfl A4.h10 (EM _ _ _)) A4.h15) (y:=.int most) rfl (b:=decide ((q.lns.length:Int)>most)) rfl;rw [this,Oi (by omega)]
 have g2:iK true (al "Story" "steps" (aa (ae 0))) (er (al "Story" "lines" (aa (ae 0)))) (δ4 q.fin) T4=some (.ok false,T4):=by
  have:=Je (n:=true) (bz (fo:=aa (ae 0)) (δ:=δ4 q.fin) rfl A4.h10 (Kw _ _ _)) (pA (bz (fo:=aa (ae 0)) (δ:=δ4 q.fin) rfl A4.h10 (EM _ _ _)) A4.h15);rw [this,Op (by rw [z3,z2])];rfl
 have g3:aw gC (ax 7) (dC .none) (δ4 q.fin)=some false:=by rw [F1];rfl
 have g4:iK true (al "Story" "end" (aa (ae 0))) (aa (ae 7)) (δ4 q.fin) T4=some (.ok false,T4):=mn (bz rfl A4.h10 (LI _ _ _)) rfl (zT true okF.1 (by omega));have kt:=kT iT;have g5:iK true (al "Story" "told" (aa (ae 0))) (aa (ae 5)) (δ4 q.fin) T4=some (.ok false,T4):=mn (bz rfl A4.h10 (KO _ _ _)) rfl (E6 true A4.h11 mT kt.1 (by omega));have g6:lV (la (cA bG (aD (al "Story" "told" (aa (ae 0))) ca))) (δ4 q.fin) T4=some (.ok false,T4):=jM (l0 (dq (aK (bz rfl A4.h10 (KO _ _ _)) rfl) (mf A4.h11 iT (by omega))));have ow:∀ (f:DS->Option (List W)) (l:List W),f (δ4 q.fin)=some l->l.length<=1->dt (dD f) (δ4 q.fin)=some (.list l):=λ f l h hl=>by
  have z:=sz l.length (by omega);simp only [dt,dD,h,Oj,Oo z,Ot]
 have r1:iK false (al "Story" "brought" (aa (ae 0))) (aa (dt (dD aj))) (δ4 q.fin) T4=some (.ok true,T4):=mn (y:=.list []) (bz rfl A4.h10 (NQ _ _ _)) (av (ow _ [] rfl (by simp))) (BY false A4.h12 rfl (by decide));have r2:iK false (al "Story" "touches" (aa (ae 0))) (aa (dt (dD #[dt (dD aj)]))) (δ4 q.fin) T4=some (.ok true,T4):=mn (y:=.list [.list []]) (bz rfl A4.h10 (KI _ _ _)) (av (ow _ [.list []] (fL (ow _ [] rfl (by simp)) rfl) (by simp))) (zm A4.h13 (by rw [<-z5];exact A4.h16) rfl (by decide));let T5:ah:=T4++[.dK []];have A5:nX T5 n q:=A4.app _;have r3:BV (al "Story" "puts" (aa (ae 0))) (xq (aD xN ca)) (δ4 q.fin) T4=some (.ok true,T5):=by
  have d1:xq (aD xN ca) (δ4 q.fin) T4=some (.ok (.list [.ref T4.length]),T5):=by
   have:aD xN ca (δ4 q.fin) T4=some (.ok [.ref T4.length],T5):=aK rfl rfl;simp only [xq,ak,this,Pg,Oo z1']
  have d2:yQ (.ref (n+14)) (.list [.ref T4.length]) T5=some true:=by
   have l1:cM T5 (n+14)=some [.ref (n+17)]:=by simp only [cM,A5.h14]
   have k1:=zc A5.h17;have k2:sS (.ref T4.length) T5=some (T4.length,[]):=zc (by
    show (T4++[.dK []])[T4.length]?=_;rw [OG (Ol _)];simp)
   simp only [yQ,l1,Oj,Hs,k1,k2,Ot];rfl
  have d0:al "Story" "puts" (aa (ae 0)) (δ4 q.fin) T4=some (.ok (.ref (n+14)),T4):=bz rfl A4.h10 (N6 _ _ _);simp only [BV,ak,d0,d1,d2,jm,Ot]
 refine ⟨T5,(ao rfl).trans ((Om aY (?_:_=some (.rt (.bool true),T5))).trans rfl)⟩;refine (ag (δ':=δ (.val (.ref d)) .no .no .no .no) (S':=T++[.dK []]) (bC rfl rfl)).trans ?_;refine (ag (δ':=δ (.val (.ref d)) (.val (.ref m)) .no .no .no) (S':=T2) (bC (d:=.ref m) ?_ rfl)).trans ?_
 . show some (_,_)=_;simp [T2,m]
 refine (ag (δ':=δ (.val (.ref d)) (.val (.ref m)) (.val (.int (sD R (pop 1 B [])))) .no .no) (aG (aF (mZ (ds:=[.list R,.list (pa.map .int),.int 1]) rfl on) rfl))).trans ?_;refine (ag (δ':=δo) (aG rfl)).trans ?_;refine (ag (δ':=δo) (S':=T3) ((bF (pN c1 (pN c2 c3))).trans rfl)).trans ?_;refine (ag ((BB (wB (bz (fo:=aa (ae 0)) (δ:=δo) rfl A3.h10 (EM _ _ _)) A3.h15)).trans EL)).trans ?_;refine (ag (aG E1)).trans ((ag E2).trans ?_);refine (ag (δ':=δ4 q.fin) (S':=T4) ((bF (pN g1 (pN g2 (pN (av g3) g4)))).trans rfl)).trans ?_;refine (ag (δ':=δ4 q.fin) (S':=T4) ((bF (pN g5 g6)).trans rfl)).trans ?_;exact bY (qL (tG r1) (qL (tG r2) (tG r3)))
noncomputable def fl:Bd->List W
 | .nil=>[]
 | .set x t r=>.tuple [sW "set", .str x,tw t]::fl r
 | .tell t r=>.tuple [sW "tell", tw t]::fl r
 | .brk r=>.tuple [sW "break"]::fl r
 | .agn r=>.tuple [sW "again"]::fl r
 | .stp r=>.tuple [sW "stop"]::fl r
 | .ifs t y r=>.tuple [sW "if", tw t]::(fl y++gf::fl r)
 | .ife t y n r=>.tuple [sW "if", tw t]::(fl y++ub::(fl n++gf::fl r))
 | .whl t b r=>.tuple [sW "while", tw t]::(fl b++gf::fl r)
theorem cC:∀ r:Bd,(fl r).length=r.len
 | .nil=>rfl
 | .set _ _ r=>by simp [fl,Bd.len,cC r]
 | .tell _ r=>by simp [fl,Bd.len,cC r]
 | .brk r=>by simp [fl,Bd.len,cC r]
 | .agn r=>by simp [fl,Bd.len,cC r]
 | .stp r=>by simp [fl,Bd.len,cC r]
 | .ifs _ y r=>by simp [fl,Bd.len,cC y,cC r];omega
 | .ife _ y n r=>by simp [fl,Bd.len,cC y,cC n,cC r];omega
 | .whl _ b r=>by simp [fl,Bd.len,cC b,cC r];omega
noncomputable def GB:Bool->Bd->Prop
 | _,.nil=>True
 | w,.set x t r=>(GX t/\wo t/\pk x)/\GB w r
 | w,.tell t r=>(GX t/\wo t)/\GB w r
 | w,.brk r=>w=true/\GB w r
 | w,.agn r=>w=true/\GB w r
 | w,.stp r=>GB w r
 | w,.ifs t y r=>GX t/\GB w y/\GB w r
 | w,.ife t y n r=>GX t/\GB w y/\GB w n/\GB w r
 | w,.whl t b r=>GX t/\GB true b/\GB w r
inductive PK where
 | i
 | e
 | w
noncomputable def kA:List PK->Bool
 | []=>false
 | .w::_=>true
 | _::P=>kA P
noncomputable def sv:List PK->List W->Prop
 | [],ts=>∃ r,ts=fl r/\GB false r/\cW r<=5
 | k::P,ts=>(∃ r aZ,ts=fl r++gf::aZ/\GB (kA (k::P)) r/\cW r+(P.length+1)<=5/\sv P aZ)∨(k=.i/\∃ r n aZ,ts=fl r++ub::(fl n++gf::aZ)/\GB (kA (k::P)) r/\GB (kA (k::P)) n/\cW r+(P.length+1)<=5/\cW n+(P.length+1)<=5/\sv P aZ)
theorem wG {k:PK} {P:List PK} {ts:List W} (hP:P.length<5) (h:sv P ts):sv (k::P) (gf::ts):=.inl ⟨.nil,ts,rfl,trivial,by simp [cW];omega,h⟩
theorem sQ:∀ {P:List PK},P.length<=5->sv P (List.replicate P.length gf)
 | [],_=>⟨.nil,rfl,trivial,by simp [cW]⟩
 | k::P,h=>by
  simp only [Ou] at h ⊢;rw [OR];exact wG (by omega) (sQ (by omega))
theorem qM {P:List PK} {ts:List W} (c:Bd->Bd) (s:W) (h1:∀ r,fl (c r)=s::fl r) (h2:∀ r,GB (kA P) r->GB (kA P) (c r)) (h3:∀ r,cW (c r)=cW r) (h:sv P ts):sv P (s::ts):=by
 cases P with
 | nil=>
  obtain ⟨r,rfl,g,d⟩:=h;exact ⟨c r,(h1 r).symm,h2 r g,by rw [h3];exact d⟩
 | cons k P=>
  rcases h with ⟨r,aZ,rfl,g,d,h⟩ | ⟨hk,r,n,aZ,rfl,g,g2,d,d2,h⟩
  . exact .inl ⟨c r,aZ,by rw [h1];rfl,h2 r g,by rw [h3];exact d,h⟩
  . exact .inr ⟨hk,c r,n,aZ,by rw [h1];rfl,h2 r g,g2,by rw [h3];exact d,d2,h⟩
theorem Ai {P:List PK} {ts:List W} (hP:P.length<5) (h:sv (.e::P) ts):sv (.i::P) (ub::ts):=by
 rcases h with ⟨n,aZ,rfl,g,d,h⟩ | ⟨hk,_⟩
 . exact .inr ⟨rfl,.nil,n,aZ,rfl,trivial,g,by simp [cW];omega,d,h⟩
 . cases hk
theorem zl {P:List PK} {ts:List W} {t:Tr} (g:GX t) (hP:P.length<5) (h:sv (.i::P) ts):sv P (.tuple [sW "if", tw t]::ts):=by
 have hw:kA (.i::P)=kA P:=rfl;rcases h with ⟨r,aZ,rfl,gr,d,h⟩ | ⟨_,r,n,aZ,rfl,gr,gn,d,d2,h⟩
 . cases P with
   | nil=>
    obtain ⟨r2,rfl,g2,d2⟩:=h;exact ⟨.ifs t r r2,rfl,⟨g,gr,g2⟩,by simp only [cW,OU] at *;omega⟩
   | cons k P=>
    simp only [Ou] at d hP;rcases h with ⟨r2,rest2,rfl,g2,d2,h⟩ | ⟨hk,r2,n2,rest2,rfl,g2,g3,d2,d3,h⟩
    . exact .inl ⟨.ifs t r r2,rest2,by simp [fl],⟨g,gr,g2⟩,by simp only [cW];omega,h⟩
    . exact .inr ⟨hk,.ifs t r r2,n2,rest2,by simp [fl],⟨g,gr,g2⟩,g3,by simp only [cW];omega,d3,h⟩
 . cases P with
   | nil=>
    obtain ⟨r2,rfl,g2,d3⟩:=h;exact ⟨.ife t r n r2,rfl,⟨g,gr,gn,g2⟩,by simp only [cW,OU] at *;omega⟩
   | cons k P=>
    simp only [Ou] at d d2 hP;rcases h with ⟨r2,rest2,rfl,g2,d3,h⟩ | ⟨hk,r2,n2,rest2,rfl,g2,g3,d3,d4,h⟩
    . exact .inl ⟨.ife t r n r2,rest2,by simp [fl],⟨g,gr,gn,g2⟩,by simp only [cW];omega,h⟩
    . exact .inr ⟨hk,.ife t r n r2,n2,rest2,by simp [fl],⟨g,gr,gn,g2⟩,g3,by simp only [cW];omega,d4,h⟩
theorem vF {P:List PK} {ts:List W} {t:Tr} (g:GX t) (hP:P.length<5) (h:sv (.w::P) ts):sv P (.tuple [sW "while", tw t]::ts):=by
 rcases h with ⟨r,aZ,rfl,gr,d,h⟩ | ⟨hk,_⟩
 . cases P with
   | nil=>
    obtain ⟨r2,rfl,g2,d2⟩:=h;exact ⟨.whl t r r2,rfl,⟨g,gr,g2⟩,by simp only [cW,OU] at *;omega⟩
   | cons k P=>
    simp only [Ou] at d hP;rcases h with ⟨r2,rest2,rfl,g2,d2,h⟩ | ⟨hk,r2,n2,rest2,rfl,g2,g3,d2,d3,h⟩
    . exact .inl ⟨.whl t r r2,rest2,by simp [fl],⟨g,gr,g2⟩,by simp only [cW];omega,h⟩
    . exact .inr ⟨hk,.whl t r r2,n2,rest2,by simp [fl],⟨g,gr,g2⟩,g3,by simp only [cW];omega,d3,h⟩
 . cases hk
theorem kQ {R:List W} {p:Nat} {s:W} {t:List W} (h:R.drop p=s::t):R[p]?=some s/\R.drop (p+1)=t:=by
 refine ⟨?_,by rw [<-tail_drop,h];rfl⟩;have:=Om (λ z=>z[0]?) h;simpa using this
theorem Oh {R:List W} {p:Nat} {a b:List W} (h:R.drop p=a++b):R.drop (p+a.length)=b:=by
 rw [<-List.drop_drop,h];simp
theorem AM {R:List W} {p:Nat} {r:Bd} {b:List W} (h:R.drop p=fl r++b):R.drop (p+r.len)=b:=by
 rw [<-cC];exact Oh h
noncomputable abbrev Mq:DS->Option Bool:=kC (aw ui (aA aH (aA aH (ax 0) (ae 1)) !0) !"end") (aw ui (aA aH (aA aH (ax 0) (ae 1)) !0) !"else")
noncomputable def kG (R:List W) (p:Nat) (bs:List W) (s3 s4 s5 s6 s7:Sl):DS:=[.val (.list R),.val (.int p),.own bs,s3,s4,s5,s6,s7]
section
variable {R:List W}
theorem Bs {p:Nat} {bs:List W} {s3 s4 s5 s6 s7:Sl} (h:R[p]?=some gf∨R[p]?=some ub):Mq (kG R p bs s3 s4 s5 s6 s7)=some false:=by
 rcases h with h | h
 . have w0:=uW (l:=[]) (f:=ax 0) (g:=ae 1) (δ:=kG R p bs s3 s4 s5 s6 s7) h rfl rfl;have e1:=(wN (a := "end") (by simp [ai]) (b := "end") (by simp [ai]) w0)
   rw [Op rfl] at e1;exact JI e1
 . have w0:=uW (l:=[]) (f:=ax 0) (g:=ae 1) (δ:=kG R p bs s3 s4 s5 s6 s7) h rfl rfl;have e1:=(wN (a := "else") (by simp [ai]) (b := "end") (by simp [ai]) w0)
   have e2:=(wN (a := "else") (by simp [ai]) (b := "else") (by simp [ai]) w0)
   rw [Oi (by decide)] at e1;rw [Op rfl] at e2;exact dA e1 e2
theorem mx {p:Nat} {bs:List W} {s3 s4 s5 s6 s7:Sl} {a:String} {l:List W} (h:R[p]?=some (.tuple (sW a::l))) (ha:a∈ai) (h1:a ≠ "end") (h2:a ≠ "else"):Mq (kG R p bs s3 s4 s5 s6 s7)=some true:=by
 have w0:=uW (f:=ax 0) (g:=ae 1) (δ:=kG R p bs s3 s4 s5 s6 s7) h rfl rfl;have e1:=wN ha (b := "end") (by simp [ai]) w0;have e2:=wN ha (b := "else") (by simp [ai]) w0;rw [Oi h1] at e1;rw [Oi h2] at e2;exact dA e1 e2
noncomputable def CQ (R:List W) (n:Nat):Prop:=∀ (r:Bd) (p:Nat) (tok:W) (aZ:List W),cW r<n->R.drop p=fl r++tok::aZ->tok=gf∨tok=ub->bD n [.list R,.int p]=some (.tuple [.list (bW p r),.int ((p+r.len:Nat):Int)])
theorem tJ {pf:List W->Option W} {p:Nat} {bs:List W} {s3 s4 s5 s6 s7:Sl} {a:String} {l:List W} (h:R[p]?=some (.tuple (sW a::l))) (ha:a∈ai) (h1:a ≠ "if") (h2:a ≠ "while") (hb:bs.length<8000) (hl:l.length<=10):cV pf (kG R p bs s3 s4 s5 s6 s7)=some (.nx (kG R (p+1) (bs++[.tuple (sW a::bL p::l)]) (.val (.tuple (sW a::l))) (.val (bL p)) s5 s6 s7)):=by
 let δ:DS:=kG R p bs (.val (.tuple (sW a::l))) (.val (bL p)) s5 s6 s7;have w0:3[0]! δ=some (sW a):=x0 (l:=l) rfl;have e1:=wE ha (b := "if") (by simp [ai]) w0;have e2:=wE ha (b := "while") (by simp [ai]) w0;rw [Oi h1] at e1;rw [Oi h2] at e2;have z:=sz (2+l.length) (by omega);have sl:yS (ae 3) (j3 !1) kN δ=some (.tuple l):=by
  have:yS (ae 3) (j3 !1) kN δ=some (.tuple (g7 (sW a::l) (some 1) none)):=rfl;rw [this,HB]
 have ad:bQ (.tuple [sW a,bL p]) (.tuple l)=some (.tuple (sW a::bL p::l)):=by
  show (if ([sW a,bL p]:List W)≠[]/\[sW a,bL p].length+l.length<=sizeLine then some (W.tuple ([sW a,bL p]++l)) else none)=_;rw [Oo ⟨by simp,by simpa using z⟩];rfl
 refine aI (δ1:=kG R p bs (.val (.tuple (sW a::l))) s4 s5 s6 s7) (aF (wy (l:=R) (i:=p) rfl rfl (by rw [vE _ _ (oG h).1];exact h)) rfl) ?_;refine aI (δ1:=δ) (aF (d:=bL p) rfl rfl) ?_;refine aI (δ1:=kG R p (bs++[.tuple (sW a::bL p::l)]) (.val (.tuple (sW a::l))) (.val (bL p)) s5 s6 s7) (aE (b:=false) e1 (aE (b:=false) e2 (LN (ds:=bs) rfl (dO (pJ w0 rfl) sl ad) (by omega)))) ?_;exact aF (d:=.int ((p+1:Nat):Int)) rfl rfl
theorem Fy {n:Nat} (hn:CQ R n) {p:Nat} {bs:List W} {s3 s4 s5 s6 s7:Sl} {t:Tr} {b:Bd} {aZ:List W} (h:R.drop p=.tuple [sW "while", tw t]::(fl b++gf::aZ)) (hd:cW b<n) (hb:bs.length<8000):∃ s3' s4' s7',cV (bD n) (kG R p bs s3 s4 s5 s6 s7)=some (.nx (kG R (p+2+b.len) (bs++[.tuple [sW "while", bL p,tw t,.list (bW (p+1) b)]]) s3' s4' s5 s6 s7')):=by
 obtain ⟨h1,h2⟩:=kQ h;have B:=hn b (p+1) gf aZ hd h2 (.inl rfl);let y:W:=.tuple [sW "while", tw t];let δ:DS:=kG R p bs (.val y) (.val (bL p)) s5 s6 s7;have w0:3[0]! δ=some (sW "while"):=x0 rfl;have e1:=(wE (a := "while") (by simp [ai]) (b := "if") (by simp [ai]) w0).trans (Om some (Oi (by decide)));have e2:=(wE (a := "while") (by simp [ai]) (b := "while") (by simp [ai]) w0).trans (Om some (Op rfl));let δ2:DS:=kG R (p+1+b.len) bs (.val y) (.val (bL p)) s5 s6 (.val (.list (bW (p+1) b)));refine ⟨.val y,.val (bL p),.val (.list (bW (p+1) b)),?_⟩;refine aI (δ1:=kG R p bs (.val y) s4 s5 s6 s7) (aF (wy (l:=R) (i:=p) rfl rfl (by rw [vE _ _ (oG h1).1];exact h1)) rfl) ?_;refine aI (δ1:=δ) (aF (d:=bL p) rfl rfl) ?_;refine aI (δ1:=kG R (p+1+b.len) (bs++[.tuple [sW "while", bL p,tw t,.list (bW (p+1) b)]]) (.val y) (.val (bL p)) s5 s6 (.val (.list (bW (p+1) b)))) (aE (b:=false) e1 (aE (b:=true) e2 ?_)) ?_
 . refine aI (δ1:=δ2) (aF (d:=.tuple [.list (bW (p+1) b),.int ((p+1+b.len:Nat):Int)]) (mZ (ds:=[.list R,.int ((p+1:Nat):Int)]) rfl B) rfl) ?_;exact LN (ds:=bs) rfl (NS rfl rfl (x1 rfl) rfl) (by omega)
 . refine (aF (d:=.int ((p+1+b.len+1:Nat):Int)) rfl rfl).trans ?_;rw [show p+1+b.len+1=p+2+b.len by omega];rfl
theorem DW {n:Nat} (hn:CQ R n) {p:Nat} {bs:List W} {s3 s4 s5 s6 s7:Sl} {t:Tr} {y:Bd} {tok:W} {aZ:List W} (h:R.drop p=.tuple [sW "if", tw t]::(fl y++tok::aZ)) (hd:cW y<n) (hb:bs.length<8000) {z:Option (Nat×Bd)} {e:Nat}
 (hz:(tok=gf/\z=none/\e=p+2+y.len)∨(tok=ub/\∃ nn rest2,z=some (p+2+y.len,nn)/\aZ=fl nn++gf::rest2/\cW nn<n/\e=p+3+y.len+nn.len)):∃ s3' s4' s5' s6',cV (bD n) (kG R p bs s3 s4 s5 s6 s7)=some (.nx (kG R e (bs++[.tuple [sW "if", bL p,tw t,.list (bW (p+1) y),zW z]]) s3' s4' s5' s6' s7)):=by
 obtain ⟨h1,h2⟩:=kQ h;have ht:tok=gf∨tok=ub:=by rcases hz with h | h <;> simp [h.1]
 have B:=hn y (p+1) tok aZ hd h2 ht;obtain ⟨g1,g2⟩:=kQ (AM h2);let Y:W:=.tuple [sW "if", tw t];let δ:DS:=kG R p bs (.val Y) (.val (bL p)) s5 s6 s7;have w0:3[0]! δ=some (sW "if"):=x0 rfl;have e1:=(wE (a := "if") (by simp [ai]) (b := "if") (by simp [ai]) w0).trans (Om some (Op rfl));let δ2 (s:Sl):DS:=kG R (p+1+y.len) bs (.val Y) (.val (bL p)) (.val (.list (bW (p+1) y))) s s7;have pre:∀ {q:Nat} {zz:W} {o:dR},bO (aw bh (aA aH (aA aH (ax 0) (ae 1)) !0) !"else") (aV (bc (bD n) #[ae 0,aA bQ (ax 1) !1]) (jW 2 (ft (ar 6) (ft (ar 1) lF)))) az (δ2 (.val .none))=some (.nx (kG R q bs (.val Y) (.val (bL p)) (.val (.list (bW (p+1) y))) (.val zz) s7))->cV (bD n) (kG R p bs s3 s4 s5 s6 s7)=some (.nx (kG R (q+1) (bs++[.tuple [sW "if", bL p,tw t,.list (bW (p+1) y),zz]]) (.val Y) (.val (bL p)) (.val (.list (bW (p+1) y))) (.val zz) s7)):=λ {q zz o} hx=>by
  refine aI (δ1:=kG R p bs (.val Y) s4 s5 s6 s7) (aF (wy (l:=R) (i:=p) rfl rfl (by rw [vE _ _ (oG h1).1];exact h1)) rfl) ?_;refine aI (δ1:=δ) (aF (d:=bL p) rfl rfl) ?_;refine aI (δ1:=kG R q (bs++[.tuple [sW "if", bL p,tw t,.list (bW (p+1) y),zz]]) (.val Y) (.val (bL p)) (.val (.list (bW (p+1) y))) (.val zz) s7) (aE (b:=true) e1 ?_) (aF (d:=.int ((q+1:Nat):Int)) rfl rfl);refine aI (δ1:=δ2 s6) (aF (d:=.tuple [.list (bW (p+1) y),.int ((p+1+y.len:Nat):Int)]) (mZ (ds:=[.list R,.int ((p+1:Nat):Int)]) rfl B) rfl) ?_;refine aI (δ1:=δ2 (.val .none)) (aF rfl rfl) ?_;refine aI hx ?_;exact LN (ds:=bs) rfl (Hu (fL rfl (fL rfl (fL (x1 rfl) (fL rfl (fL rfl rfl))))) (by simp)) (by omega)
 rcases hz with ⟨rfl,rfl,rfl⟩ | ⟨rfl,nn,rest2,rfl,rfl,hd2,rfl⟩
 . have w1:=uW (l:=[]) (f:=ax 0) (g:=ae 1) (δ:=δ2 (.val .none)) g1 rfl rfl;have e2:=(wE (a := "end") (by simp [ai]) (b := "else") (by simp [ai]) w1).trans (Om some (Oi (by decide)));refine ⟨.val Y,.val (bL p),.val (.list (bW (p+1) y)),.val .none,(pre (o:=.bk []) (aE (b:=false) e2 rfl)).trans ?_⟩;rw [show p+1+y.len+1=p+2+y.len by omega];rfl
 . have w1:=uW (l:=[]) (f:=ax 0) (g:=ae 1) (δ:=δ2 (.val .none)) g1 rfl rfl;have e2:=(wE (a := "else") (by simp [ai]) (b := "else") (by simp [ai]) w1).trans (Om some (Op rfl));have B2:=hn nn (p+1+y.len+1) gf rest2 hd2 g2 (.inl rfl);have q1:p+1+y.len+1=p+2+y.len:=by omega
   have q2:p+1+y.len+1+nn.len+1=p+3+y.len+nn.len:=by omega
   refine ⟨.val Y,.val (bL p),.val (.list (bW (p+1) y)),.val (.list (bW (p+1+y.len+1) nn)),(pre (q:=p+1+y.len+1+nn.len) (zz:=.list (bW (p+1+y.len+1) nn)) (o:=.bk []) (aE (b:=true) e2 (aF (d:=.tuple [.list (bW (p+1+y.len+1) nn),.int ((p+1+y.len+1+nn.len:Nat):Int)]) (mZ (ds:=[.list R,.int ((p+1+y.len+1:Nat):Int)]) rfl B2) rfl))).trans ?_⟩;rw [q2,q1];rfl
end
section
variable {R:List W}
theorem g8 {n:Nat} (hn:CQ R n):∀ (r:Bd) (p:Nat) (tok:W) (aZ bs:List W) (F:Nat) (s3 s4 s5 s6 s7:Sl),cW r<=n->R.drop p=fl r++tok::aZ->tok=gf∨tok=ub->r.len+1<=F->bs.length+r.len<8000->∃ t3 t4 t5 t6 t7,di Mq (cV (bD n)) F (kG R p bs s3 s4 s5 s6 s7)=some (.nx (kG R (p+r.len) (bs++bW p r) t3 t4 t5 t6 t7))
 | .nil,p,tok,aZ,bs,F,s3,s4,s5,s6,s7,hd,h,ht,hF,hb=>by
  obtain ⟨F,rfl⟩:∃ j,F=j+1:=⟨F-1,by omega⟩
  obtain ⟨h1,_⟩:=kQ (s:=tok) (t:=aZ) h;refine ⟨s3,s4,s5,s6,s7,(Fa (Bs ?_)).trans ?_⟩
  . rcases ht with rfl | rfl
    . exact .inl h1
    . exact .inr h1
  . simp [bW,Bd.len]
 | .set x t r,p,tok,aZ,bs,F,s3,s4,s5,s6,s7,hd,h,ht,hF,hb=>by
  simp only [Bd.len] at hF hb;obtain ⟨F,rfl⟩:∃ j,F=j+1:=⟨F-1,by omega⟩
  obtain ⟨h1,h2⟩:=kQ h;obtain ⟨t3,t4,t5,t6,t7,E⟩:=g8 hn r (p+1) tok aZ (bs++[.tuple [sW "set", bL p,.str x,tw t]]) F _ _ s5 s6 s7 hd h2 ht (by omega) (by simp;omega);refine ⟨t3,t4,t5,t6,t7,(nu (mx h1 (by simp [ai]) (by decide) (by decide)) (tJ h1 (by simp [ai]) (by decide) (by decide) (by omega) (by simp))).trans (E.trans ?_)⟩;rw [show p+1+r.len=p+(Bd.set x t r).len by simp only [Bd.len];omega];simp [bW]
 | .tell t r,p,tok,aZ,bs,F,s3,s4,s5,s6,s7,hd,h,ht,hF,hb=>by
  simp only [Bd.len] at hF hb;obtain ⟨F,rfl⟩:∃ j,F=j+1:=⟨F-1,by omega⟩
  obtain ⟨h1,h2⟩:=kQ h;obtain ⟨t3,t4,t5,t6,t7,E⟩:=g8 hn r (p+1) tok aZ (bs++[.tuple [sW "tell", bL p,tw t]]) F _ _ s5 s6 s7 hd h2 ht (by omega) (by simp;omega);refine ⟨t3,t4,t5,t6,t7,(nu (mx h1 (by simp [ai]) (by decide) (by decide)) (tJ h1 (by simp [ai]) (by decide) (by decide) (by omega) (by simp))).trans (E.trans ?_)⟩;rw [show p+1+r.len=p+(Bd.tell t r).len by simp only [Bd.len];omega];simp [bW]
 | .brk r,p,tok,aZ,bs,F,s3,s4,s5,s6,s7,hd,h,ht,hF,hb=>by
  simp only [Bd.len] at hF hb;obtain ⟨F,rfl⟩:∃ j,F=j+1:=⟨F-1,by omega⟩
  obtain ⟨h1,h2⟩:=kQ h;obtain ⟨t3,t4,t5,t6,t7,E⟩:=g8 hn r (p+1) tok aZ (bs++[.tuple [sW "break", bL p]]) F _ _ s5 s6 s7 hd h2 ht (by omega) (by simp;omega);refine ⟨t3,t4,t5,t6,t7,(nu (mx h1 (by simp [ai]) (by decide) (by decide)) (tJ h1 (by simp [ai]) (by decide) (by decide) (by omega) (by simp))).trans (E.trans ?_)⟩;rw [show p+1+r.len=p+(Bd.brk r).len by simp only [Bd.len];omega];simp [bW]
 | .agn r,p,tok,aZ,bs,F,s3,s4,s5,s6,s7,hd,h,ht,hF,hb=>by
  simp only [Bd.len] at hF hb;obtain ⟨F,rfl⟩:∃ j,F=j+1:=⟨F-1,by omega⟩
  obtain ⟨h1,h2⟩:=kQ h;obtain ⟨t3,t4,t5,t6,t7,E⟩:=g8 hn r (p+1) tok aZ (bs++[.tuple [sW "again", bL p]]) F _ _ s5 s6 s7 hd h2 ht (by omega) (by simp;omega);refine ⟨t3,t4,t5,t6,t7,(nu (mx h1 (by simp [ai]) (by decide) (by decide)) (tJ h1 (by simp [ai]) (by decide) (by decide) (by omega) (by simp))).trans (E.trans ?_)⟩;rw [show p+1+r.len=p+(Bd.agn r).len by simp only [Bd.len];omega];simp [bW]
 | .stp r,p,tok,aZ,bs,F,s3,s4,s5,s6,s7,hd,h,ht,hF,hb=>by
  simp only [Bd.len] at hF hb;obtain ⟨F,rfl⟩:∃ j,F=j+1:=⟨F-1,by omega⟩
  obtain ⟨h1,h2⟩:=kQ h;obtain ⟨t3,t4,t5,t6,t7,E⟩:=g8 hn r (p+1) tok aZ (bs++[.tuple [sW "stop", bL p]]) F _ _ s5 s6 s7 hd h2 ht (by omega) (by simp;omega);refine ⟨t3,t4,t5,t6,t7,(nu (mx h1 (by simp [ai]) (by decide) (by decide)) (tJ h1 (by simp [ai]) (by decide) (by decide) (by omega) (by simp))).trans (E.trans ?_)⟩;rw [show p+1+r.len=p+(Bd.stp r).len by simp only [Bd.len];omega];simp [bW]
 | .ifs t y r,p,tok,aZ,bs,F,s3,s4,s5,s6,s7,hd,h,ht,hF,hb=>by
  simp only [Bd.len] at hF hb;simp only [cW] at hd;obtain ⟨F,rfl⟩:∃ j,F=j+1:=⟨F-1,by omega⟩
  have h':R.drop p=.tuple [sW "if", tw t]::(fl y++gf::(fl r++tok::aZ)):=by rw [h];simp [fl]
  obtain ⟨h1,h2⟩:=kQ h';obtain ⟨u3,u4,u5,u6,B⟩:=DW hn (bs:=bs) (s3:=s3) (s4:=s4) (s5:=s5) (s6:=s6) (s7:=s7) h' (by omega) (by omega) (z:=none) (e:=p+2+y.len) (.inl ⟨rfl,rfl,rfl⟩);have h3:=(kQ (AM h2)).2;rw [show p+1+y.len+1=p+2+y.len by omega] at h3;obtain ⟨t3,t4,t5,t6,t7,E⟩:=g8 hn r (p+2+y.len) tok aZ (bs++[.tuple [sW "if", bL p,tw t,.list (bW (p+1) y),zW none]]) F u3 u4 u5 u6 s7 (by omega) h3 ht (by omega) (by simp;omega);refine ⟨t3,t4,t5,t6,t7,(nu (mx h1 (by simp [ai]) (by decide) (by decide)) B).trans (E.trans ?_)⟩;rw [show p+2+y.len+r.len=p+(Bd.ifs t y r).len by simp only [Bd.len];omega];simp [bW,zW]
 | .ife t y nn r,p,tok,aZ,bs,F,s3,s4,s5,s6,s7,hd,h,ht,hF,hb=>by
  simp only [Bd.len] at hF hb;simp only [cW] at hd;obtain ⟨F,rfl⟩:∃ j,F=j+1:=⟨F-1,by omega⟩
  have h':R.drop p=.tuple [sW "if", tw t]::(fl y++ub::(fl nn++gf::(fl r++tok::aZ))):=by rw [h];simp [fl]
  obtain ⟨h1,h2⟩:=kQ h';obtain ⟨u3,u4,u5,u6,B⟩:=DW hn (bs:=bs) (s3:=s3) (s4:=s4) (s5:=s5) (s6:=s6) (s7:=s7) h' (by omega) (by omega) (z:=some (p+2+y.len,nn)) (e:=p+3+y.len+nn.len) (.inr ⟨rfl,nn,_,rfl,rfl,by omega,rfl⟩);have h3:=(kQ (AM (kQ (AM h2)).2)).2;rw [show p+1+y.len+1+nn.len+1=p+3+y.len+nn.len by omega] at h3;obtain ⟨t3,t4,t5,t6,t7,E⟩:=g8 hn r (p+3+y.len+nn.len) tok aZ (bs++[.tuple [sW "if", bL p,tw t,.list (bW (p+1) y),zW (some (p+2+y.len,nn))]]) F u3 u4 u5 u6 s7 (by omega) h3 ht (by omega) (by simp;omega);refine ⟨t3,t4,t5,t6,t7,(nu (mx h1 (by simp [ai]) (by decide) (by decide)) B).trans (E.trans ?_)⟩;rw [show p+3+y.len+nn.len+r.len=p+(Bd.ife t y nn r).len by simp only [Bd.len];omega];simp [bW,zW]
 | .whl t b r,p,tok,aZ,bs,F,s3,s4,s5,s6,s7,hd,h,ht,hF,hb=>by
  simp only [Bd.len] at hF hb;simp only [cW] at hd;obtain ⟨F,rfl⟩:∃ j,F=j+1:=⟨F-1,by omega⟩
  have h':R.drop p=.tuple [sW "while", tw t]::(fl b++gf::(fl r++tok::aZ)):=by rw [h];simp [fl]
  obtain ⟨h1,h2⟩:=kQ h';obtain ⟨u3,u4,u7,B⟩:=Fy hn (bs:=bs) (s3:=s3) (s4:=s4) (s5:=s5) (s6:=s6) (s7:=s7) h' (by omega) (by omega);have h3:=(kQ (AM h2)).2;rw [show p+1+b.len+1=p+2+b.len by omega] at h3;obtain ⟨t3,t4,t5,t6,t7,E⟩:=g8 hn r (p+2+b.len) tok aZ (bs++[.tuple [sW "while", bL p,tw t,.list (bW (p+1) b)]]) F u3 u4 s5 s6 u7 (by omega) h3 ht (by omega) (by simp;omega);refine ⟨t3,t4,t5,t6,t7,(nu (mx h1 (by simp [ai]) (by decide) (by decide)) B).trans (E.trans ?_)⟩;rw [show p+2+b.len+r.len=p+(Bd.whl t b r).len by simp only [Bd.len];omega];simp [bW]
theorem CV (hR:R.length<7000):∀ n,CQ R n
 | 0=>λ r p tok aZ hd _ _=>absurd hd (not_lt_zero _)
 | n+1=>λ r p tok aZ hd h ht=>by
  have z0:=sz 0 (by decide);have hl:r.len+1<=R.length:=by
   have:=Om List.length h;simp only [length_drop,OV,Ou,cC] at this;omega
  obtain ⟨t3,t4,t5,t6,t7,E⟩:=g8 (CV hR n) r p tok aZ [] 1000000 .no .no .no .no .no (by omega) h ht (by omega) (by simp;omega);show eY 2 8 _ _=_;refine bK rfl ?_;refine aI (δ1:=kG R p [] .no .no .no .no .no) (by simp! [kG,uD,Oo z0]) ?_;refine aI E ?_;have z2:=sz 2 (by decide);rw [PP];simp! [kG,uD,Oo z2]
end
mutual
theorem HD (F:Nat->Option (List W)):∀ (n:Nat) (d:W),iM d=true->fz d<n->rW F n d=some d
 | 0,_,_,h=>absurd h (not_lt_zero _)
 | n+1,.none,_,_=>rfl
 | n+1,.bool _,_,_=>rfl
 | n+1,.int _,_,_=>rfl
 | n+1,.str _,_,_=>rfl
 | n+1,.list ds,h,hd=>by
  show (og (rW F n) ds).map _=_;rw [wv F n ds (by simpa [iM] using h) (by simp only [fz] at hd;omega)];rfl
 | n+1,.tuple ds,h,hd=>by
  show (og (rW F n) ds).map _=_;rw [wv F n ds (by simpa [iM] using h) (by simp only [fz] at hd;omega)];rfl
 | n+1,.ref _,h,_=>by simp [iM] at h
theorem wv (F:Nat->Option (List W)):∀ (n:Nat) (ds:List W),cK ds=true->ci ds<n->og (rW F n) ds=some ds
 | n,[],_,_=>rfl
 | n,d::ds,h,hd=>by
  simp only [cK,OD] at h;simp only [ci] at hd;show (rW F n d).bind _=_;rw [HD F n d h.1 (by omega)];show (og (rW F n) ds).map _=_;rw [wv F n ds h.2 (by omega)];rfl
end
theorem vO {f:List W->ah->SM W} {ds ws:List W} {a:Nat} {S:ah} (h:f ds []=some (.ok (.ref a),S)) (ha:S[a]?=some (.lst ws)) (hk:cK ds=true) (h1:cK ws=true) (h2:ci ws<39):xo f ds=some (.list ws):=by
 unfold xo;rw [Oo hk,h];show rW (CH S) 40 (.ref a)=_;show (CH S a).bind _=_;rw [show CH S a=some ws by simp [CH,ha]];show (og (rW (CH S) 39) ws).map W.list=_;rw [wv (CH S) 39 ws h1 h2];rfl
theorem pk.ok {y:Str} (h:pk y):strOk y=true:=by
 simp only [strOk];rw [Array.all_eq_true_iff_forall_mem];intro x hx;have:=h.2 x (Array.mem_toList_iff.mpr hx);simp;omega
theorem vP:(∀ a∈ai,strOk (Str.ofString a)=true)/\strOk (Str.ofString "num")=true/\strOk (Str.ofString "name")=true/\∀ k,strOk (jt k)=true:=by decide +kernel
theorem zR:∀ t,nb t->(∀ y,x5 y t->pk y)->iM (tw t)=true/\fz (tw t)<=jl t+1
 | .num v,_,_=>⟨by simp [tw,iM,cK,vP.2.1],by simp [tw,fz,ci,jl]⟩
 | .nam x,_,h=>⟨by simp [tw,iM,cK,vP.2.2.1,(h x rfl).ok],by simp [tw,fz,ci,jl]⟩
 | .op k a b,n,h=>by
  have h1:=zR a n.2.1 λ y hy=>h y (.inl hy);have h2:=zR b n.2.2 λ y hy=>h y (.inr hy);exact ⟨by simp [tw,iM,cK,vP.2.2.2,h1.1,h2.1],by have:=h1.2;have:=h2.2;simp only [tw,fz,ci,jl];omega⟩
 | .sig _,h,_=>h.elim
 | .box _,h,_=>h.elim
theorem vY {t:Tr} (g:GX t):iM (tw t)=true/\fz (tw t)<=2:=by
 have:=zR t g.nb g.sh;exact ⟨this.1,by have:=g.dp;omega⟩
theorem lM:∀ {a b:List W},cK a=true->cK b=true->cK (a++b)=true
 | [],_,_,h=>h
 | x::a,b,h,h2=>by
  simp only [cK,OD,cons_append] at h ⊢;exact ⟨h.1,lM h.2 h2⟩
theorem jG:∀ {a b:List W} {n:Nat},ci a<=n->ci b<=n->ci (a++b)<=n
 | [],_,_,_,h=>h
 | x::a,b,n,h,h2=>by
  simp only [ci,cons_append] at h ⊢;have:=jG (a:=a) (b:=b) (n:=n) (by omega) h2;omega
noncomputable def AO (l:List W):Prop:=cK l=true/\ci l<=4
theorem AO.app {a b:List W} (h:AO a) (h2:AO b):AO (a++b):=⟨lM h.1 h2.1,jG h.2 h2.2⟩
theorem AO.cons {x:W} {b:List W} (h:iM x=true/\fz x<=4) (h2:AO b):AO (x::b):=⟨by simp only [cK,h.1,h2.1,Bool.and_self],by have:=h.2;have:=h2.2;simp only [ci];omega⟩
theorem Ao {a:String} (ha:a∈ai):iM (.tuple [sW a])=true/\fz (.tuple [sW a])<=4:=⟨by simp [iM,cK,sW,vP.1 a ha],by simp [fz,ci,sW]⟩
theorem Ki {a:String} (ha:a∈ai) {t:Tr} (g:GX t):iM (.tuple [sW a,tw t])=true/\fz (.tuple [sW a,tw t])<=4:=⟨by simp [iM,cK,sW,vP.1 a ha,(vY g).1],by have:=(vY g).2;simp only [fz,ci,sW];omega⟩
theorem hU:∀ (r:Bd) (w:Bool),GB w r->AO (fl r)
 | .nil,_,_=>⟨rfl,O1 _⟩
 | .set x t r,w,h=>.cons ⟨by simp [iM,cK,sW,vP.1 "set" (by simp [ai]),(vY h.1.1).1,h.1.2.2.ok],by have:=(vY h.1.1).2;simp only [fz,ci,sW];omega⟩ (hU r w h.2)
 | .tell t r,w,h=>.cons (Ki (by simp [ai]) h.1.1) (hU r w h.2)
 | .brk r,w,h=>.cons (Ao (by simp [ai])) (hU r w h.2)
 | .agn r,w,h=>.cons (Ao (by simp [ai])) (hU r w h.2)
 | .stp r,w,h=>.cons (Ao (by simp [ai])) (hU r w h)
 | .ifs t y r,w,h=>.cons (Ki (by simp [ai]) h.1) ((hU y w h.2.1).app (.cons (Ao (by simp [ai])) (hU r w h.2.2)))
 | .ife t y n r,w,h=>.cons (Ki (by simp [ai]) h.1) ((hU y w h.2.1).app (.cons (Ao (by simp [ai])) ((hU n w h.2.2.1).app (.cons (Ao (by simp [ai])) (hU r w h.2.2.2)))))
 | .whl t b r,w,h=>.cons (Ki (by simp [ai]) h.1) ((hU b true h.2.1).app (.cons (Ao (by simp [ai])) (hU r w h.2.2)))
noncomputable def PS (pa:List Int) (P:List Nat):ah:=[.lst [.int 0],.lst (pa.map .int),.lst (P.map λ (k:Nat)=>W.int (k:Int))]
noncomputable def mW (R:List W) (s3 s4:Sl):DS:=[.val (.list R),.val (.ref 1),.val (.ref 2),s3,s4]
theorem vW {fo fi fv:DS->ah->SM W} {δ:DS} {S S1 S2 S3:ah} {d:W} {n k:Nat} {es:List W} (h1:fv δ S=some (.ok d,S1)) (h2:fo δ S1=some (.ok (.ref n),S2)) (h3:fi δ S2=some (.ok (.int (k:Int)),S3)) (h4:S3[n]?=some (.lst es)) (h5:k<es.length):eW fo fi fv δ S=some (.nx δ,S3.set n (.lst (es.set k d))):=by
 have e1:wg (.int (k:Int))=some (k:Int):=rfl;have e2:ug es.length (k:Int)=some k:=by
  unfold ug;rw [Oo (by omega),Oo (by omega)];simp
 simp only [eW,i4,h1,h2,h3,dY h4,Oj,e1,e2,Ot]
theorem D4 {fo fi fv:DS->ah->SM W} {δ:DS} {S S1 S2 S3:ah} {d x:W} {n:Nat} {es:List W} (h1:fv δ S=some (.ok d,S1)) (h2:fo δ S1=some (.ok (.ref n),S2)) (h3:fi δ S2=some (.ok (.int (-1)),S3)) (h4:S3[n]?=some (.lst (es++[x]))):eW fo fi fv δ S=some (.nx δ,S3.set n (.lst (es++[d]))):=by
 have e1:wg (.int (-1))=some (-1:Int):=rfl;have e2:ug (es++[x]).length (-1:Int)=some es.length:=by
  unfold ug;rw [Oq (by omega),Oo (by simp;omega)];simp;omega
 have e3:(es++[x]).set es.length d=es++[d]:=by simp
 simp only [eW,i4,h1,h2,h3,dY h4,Oj,e1,e2,Ot,e3]
theorem Ly:∀ a∈ai,pi (sW a) (.tuple [sW "def", sW "if", sW "while"])=some (decide (a∈["def", "if", "while"])):=by
 intro a ha;simp only [ai,Ow,Ox,PN] at ha;rcases ha with rfl | rfl | rfl | rfl | rfl | rfl | rfl | rfl | rfl | rfl <;> kernel_rfl
noncomputable def p5 (R:List W) (j:Nat):Bool:=match R[j]? with
 | some (.tuple (.str s::_))=>decide (s=Str.ofString "while")
 | _=>false
noncomputable def lw (R:List W) (P:List Nat):Option Nat:=(P.filter (p5 R)).getLast?
noncomputable def HP (R:List W) (P:List Nat):Prop:=(∀ j∈P,∃ a l,R[j]?=some (.tuple (sW a::l))/\a∈ai)/\P.length<1000
section
variable {R:List W}
theorem jL {j:Nat} {a:String} {l:List W} (h:R[j]?=some (.tuple (sW a::l))) (ha:a∈ai):p5 R j=decide (a = "while"):=by
 unfold p5;rw [h];exact wq a ha "while" (by simp [ai])
theorem lg (P:List Nat) (j:Nat):lw R (P++[j])=if p5 R j then some j else lw R P:=by
 unfold lw;rw [List.filter_append];by_cases h:p5 R j=true <;> simp [h]
theorem HP.snoc {P:List Nat} (h:HP R P) (hl:P.length+1<1000) {j:Nat} {a:String} {l:List W} (e:R[j]?=some (.tuple (sW a::l))) (ha:a∈ai):HP R (P++[j]):=⟨λ i hi=>by
 rcases Pp.mp hi with z | z
 . exact h.1 i z
 . rw [OW.mp z];exact ⟨a,l,e,ha⟩,by simp;omega⟩
theorem vZ {S:ah} {P:List Nat} (h:S[2]?=some (.lst (P.map λ (k:Nat)=>W.int (k:Int)))) (hp:HP R P):∀ (f i:Nat),P.length-i<f->bP (2,.l) (ar 1) (aa (aw bh (aA aH (aA aH (ax 0) (ae 1)) !0) !"while")) (aa (ae 1)) [.val (.list R),.no] f i S=some (.ok (((P.drop i).filter (p5 R)).map λ (k:Nat)=>W.int (k:Int)),S)
 | 0,i,hf=>by omega
 | f+1,i,hf=>by
  have le:iB S (2,.l)=some (P.map λ (k:Nat)=>W.int (k:Int)):=by simp [iB,cM,h]
  by_cases hl:i<P.length
  . obtain ⟨a,l,e,ha⟩:=hp.1 P[i] (getElem_mem hl);have gi:(P.map λ (k:Nat)=>W.int (k:Int))[i]?=some (.int (P[i]:Int)):=by simp [hl]
    have ih:=vZ h hp f (i+1) (by omega);have dr:P.drop i=P[i]::P.drop (i+1):=List.drop_eq_getElem_cons hl;have t:aa (aw bh (aA aH (aA aH (ax 0) (ae 1)) !0) !"while") [.val (.list R),.val (.int (P[i]:Int))] S=some (.ok (p5 R P[i]),S):=by
     rw [jL e ha];exact av (wE ha (by simp [ai]) (uW e rfl rfl))
    have g:ar 1 (.int (P[i]:Int)) [.val (.list R),.no]=some [.val (.list R),.val (.int (P[i]:Int))]:=rfl;have v:aa (ae 1) [.val (.list R),.val (.int (P[i]:Int))] S=some (.ok (.int (P[i]:Int)),S):=rfl;simp only [bP,le,Oj,gi,g,ak,t];rw [dr];cases hw:p5 R P[i] with
    | true=>simp only [OS,v,ih,List.filter_cons,hw,OQ]
    | false=>simp only [OO,OX,ih,List.filter_cons,hw]
  . have gi:(P.map λ (k:Nat)=>W.int (k:Int))[i]?=none:=by simp;omega
    simp only [bP,le,Oj,gi];rw [List.drop_of_length_le (by omega)];rfl
structure Dl (R:List W) (k:Nat) (y:W) (pa:List Int) (P:List Nat) (pa':List Int) (P':List Nat):Prop where
 e:dX (mW R (.val (.int (k:Int))) (.val y)) (PS pa P)=some (.nx (mW R (.val (.int (k:Int))) (.val y)),PS pa' P')
theorem yw {pa:List Int} {P:List Nat} {j:Nat} {s3 s4:Sl}:sIx (aa (ae 2)) (aa (iJ cU !1)) (mW R s3 s4) (PS pa (P++[j]))=some (.ok (.int (j:Int)),PS pa (P++[j])):=by
 refine K8 (l:=2) (i := -1) (es:=(P.map λ (k:Nat)=>W.int (k:Int))++[.int (j:Int)]) rfl rfl ?_ (C7 _ _);show some (Ob.lst ((P++[j]).map _))=_;rw [Pr];rfl
theorem oU {k:Nat} {a:String} {l:List W} {pa:List Int} {P:List Nat} (ha:a∈ai) {b1:Bool} {pa1:List Int} {P1:List Nat} (h1:decide (a∈["def", "if", "while"])=b1)
 (s1:(if b1=true then bT (aa (ae 2)) (aa (ae 3)) (mW R (.val (.int (k:Int))) (.val (.tuple (sW a::l)))) (PS pa P) else some (.nx (mW R (.val (.int (k:Int))) (.val (.tuple (sW a::l)))),PS pa P))=some (.nx (mW R (.val (.int (k:Int))) (.val (.tuple (sW a::l)))),PS pa1 P1))
 {pa2:List Int} {P2:List Nat}
 (s2:(if a = "else" then au (eW (aa (ae 1)) (sIx (aa (ae 2)) (aa (iJ cU !1))) (aa (ae 3))) (eW (aa (ae 2)) (aa (iJ cU !1)) (aa (ae 3))) (mW R (.val (.int (k:Int))) (.val (.tuple (sW a::l)))) (PS pa1 P1) else some (.nx (mW R (.val (.int (k:Int))) (.val (.tuple (sW a::l)))),PS pa1 P1))=some (.nx (mW R (.val (.int (k:Int))) (.val (.tuple (sW a::l)))),PS pa2 P2))
 {pa3:List Int} {P3:List Nat}
 (s3:(if a = "end" then au (eW (aa (ae 1)) (sIx (aa (ae 2)) (aa (iJ cU !1))) (aa (ae 3))) (eW (aa (ae 1)) (aa (ae 3)) (mh (aa (ae 2)))) (mW R (.val (.int (k:Int))) (.val (.tuple (sW a::l)))) (PS pa2 P2) else some (.nx (mW R (.val (.int (k:Int))) (.val (.tuple (sW a::l)))),PS pa2 P2))=some (.nx (mW R (.val (.int (k:Int))) (.val (.tuple (sW a::l)))),PS pa3 P3))
 {pa4:List Int} {P4:List Nat}
 (s4:(if a = "break" ∨ a = "again" then eW (aa (ae 1)) (aa (ae 3)) (sIx (il 9000 [some 0,none] (fV (aa (ae 2))) (ar 1) (aa (aw bh (aA aH (aA aH (ax 0) (ae 1)) !0) !"while")) (aa (ae 1))) (aa (iJ cU !1))) (mW R (.val (.int (k:Int))) (.val (.tuple (sW a::l)))) (PS pa3 P3) else some (.nx (mW R (.val (.int (k:Int))) (.val (.tuple (sW a::l)))),PS pa3 P3))=some (.nx (mW R (.val (.int (k:Int))) (.val (.tuple (sW a::l)))),PS pa4 P4)):Dl R k (.tuple (sW a::l)) pa P pa4 P4:=by
 let δ:DS:=mW R (.val (.int (k:Int))) (.val (.tuple (sW a::l)));have w0:4[0]! δ=some (sW a):=x0 (l:=l) rfl;have we:∀ b∈ai,aw bh 4[0]! (dC (.str (Str.ofString b))) δ=some (decide (a=b)):=λ b hb=>wE ha hb w0;have c1:aw pi 4[0]! (bv #[!"def",!"if",!"while"]) δ=some b1:=by
  rw [<-h1];exact AR w0 (A9 rfl rfl rfl) (Ly a ha)
 refine ⟨?_⟩;have st:∀ {c:DS->Option Bool} {f:DS->ah->SO} {p:Prop} [Decidable p] {S S':ah},c δ=some (decide p)->(if p then f δ S else some (.nx δ,S))=some (.nx δ,S')->bj (aa c) f (aq az) δ S=some (.nx δ,S'):=λ {c f p _ S S'} hc hs=>by
  by_cases hp:p
  . rw [Op hp] at hc;rw [Oo hp] at hs;exact (cT (av hc)).trans hs
  . rw [Oi hp] at hc;rw [Oq hp] at hs;exact (bF (av hc)).trans hs
 refine (ag (st (p:=b1=true) (by rw [c1];cases b1 <;> rfl) s1)).trans ?_;refine (ag (st (we "else" (by simp [ai])) s2)).trans ?_;refine (ag (st (we "end" (by simp [ai])) s3)).trans ?_;refine st ?_ s4;unfold jw;rw [we "break" (by simp [ai]),we "again" (by simp [ai])];by_cases h:a = "break" <;> simp [h]
theorem nG {k:Nat} {a:String} {l:List W} {pa:List Int} {P:List Nat} (ha:a∈["def", "if", "while"]) (hl:P.length<1000):Dl R k (.tuple (sW a::l)) pa P pa (P++[k]):=by
 have hw:a∈ai:=by
  simp only [Ow,Ox,PN] at ha;rcases ha with rfl | rfl | rfl <;> simp [ai]
 have n:a ≠ "else" /\ a ≠ "end" /\ a ≠ "break" /\ a ≠ "again" := by
  simp only [Ow,Ox,PN] at ha;rcases ha with rfl | rfl | rfl <;> decide
 refine oU hw (b1:=true) (Op ha) (P1:=P++[k]) (pa1:=pa) ?_ (Oq n.1) (Oq n.2.1) (Oq (by simp [n.2.2.1,n.2.2.2]));rw [Oo rfl];refine (oW (l:=2) (es:=P.map λ (k:Nat)=>W.int (k:Int)) (q:=P.map λ (k:Nat)=>W.int (k:Int)) (d:=.int (k:Int)) rfl rfl rfl rfl (by simp;omega)).trans ?_;simp [PS]
theorem oa {k:Nat} {a:String} {l:List W} {pa:List Int} {P:List Nat} (ha:a∈["set", "tell", "stop"]):Dl R k (.tuple (sW a::l)) pa P pa P:=by
 have hw:a∈ai:=by
  simp only [Ow,Ox,PN] at ha;rcases ha with rfl | rfl | rfl <;> simp [ai]
 have n:a∉["def", "if", "while"]/\a ≠ "else" /\ a ≠ "end" /\ a ≠ "break" /\ a ≠ "again" := by
  simp only [Ow,Ox,PN] at ha;rcases ha with rfl | rfl | rfl <;> decide
 exact oU hw (b1:=false) (Oi n.1) (Oq (by simp)) (Oq n.2.1) (Oq n.2.2.1) (Oq (by simp [n.2.2.2.1,n.2.2.2.2]))
theorem Cg {k j:Nat} {pa:List Int} {P:List Nat} (hj:j<pa.length):Dl R k ub pa (P++[j]) (pa.set j (k:Int)) (P++[k]):=by
 refine oU (a := "else") (by simp [ai]) (b1:=false) (by decide) (Oq (by simp)) (pa2:=pa.set j (k:Int)) (P2:=P++[k]) ?_ (Oq (by decide)) (Oq (by decide));rw [Oo rfl];refine (ag (δ':=mW R (.val (.int (k:Int))) (.val ub)) (S':=PS (pa.set j (k:Int)) (P++[j])) ((vW (n:=1) (k:=j) (es:=pa.map .int) (d:=.int (k:Int)) rfl rfl yw rfl (by simpa using hj)).trans ?_)).trans ?_
 . simp [PS,map_set];rfl
 . refine (D4 (n:=2) (es:=P.map λ (k:Nat)=>W.int (k:Int)) (x:=.int (j:Int)) (d:=.int (k:Int)) rfl rfl rfl ?_).trans ?_
   . show some (Ob.lst ((P++[j]).map _))=_;rw [Pr];rfl
   . simp [PS];rfl
theorem rG {k j:Nat} {pa:List Int} {P:List Nat} (hj:j<pa.length) (hk:k<pa.length):Dl R k gf pa (P++[j]) ((pa.set j (k:Int)).set k (j:Int)) P:=by
 refine oU (a := "end") (by simp [ai]) (b1:=false) (by decide) (Oq (by simp)) (Oq (by decide)) (pa3:=(pa.set j (k:Int)).set k (j:Int)) (P3:=P) ?_ (Oq (by decide));rw [Oo rfl];refine (ag (δ':=mW R (.val (.int (k:Int))) (.val gf)) (S':=PS (pa.set j (k:Int)) (P++[j])) ((vW (n:=1) (k:=j) (es:=pa.map .int) (d:=.int (k:Int)) rfl rfl yw rfl (by simpa using hj)).trans ?_)).trans ?_
 . simp [PS,map_set];rfl
 . have pp:mh (aa (ae 2)) (mW R (.val (.int (k:Int))) (.val gf)) (PS (pa.set j (k:Int)) (P++[j]))=some (.ok (.int (j:Int)),PS (pa.set j (k:Int)) P):=by
    refine (y7 (l:=2) (es:=P.map λ (k:Nat)=>W.int (k:Int)) (d:=.int (j:Int)) rfl ?_).trans ?_
    . show some (Ob.lst ((P++[j]).map _))=_;rw [Pr];rfl
    . simp [PS]
   refine (vW (n:=1) (k:=k) (es:=(pa.set j (k:Int)).map .int) pp rfl rfl rfl (by simpa using hk)).trans ?_;simp [PS,map_set];rfl
theorem yn {k v:Nat} {a:String} {pa:List Int} {P:List Nat} (ha:a = "break" ∨ a = "again") (hp:HP R P) (hv:lw R P=some v) (hk:k<pa.length):Dl R k (.tuple [sW a]) pa P (pa.set k (v:Int)) P:=by
 have hw:a∈ai:=by rcases ha with rfl | rfl <;> simp [ai]
 have n:a∉["def", "if", "while"]/\a ≠ "else" /\ a ≠ "end" := by rcases ha with rfl | rfl <;> decide
 refine oU hw (b1:=false) (Oi n.1) (Oq (by simp)) (Oq n.2.1) (Oq n.2.2) ?_;rw [Oo ha];have z:=sz 9000 (by decide);let δ:DS:=mW R (.val (.int (k:Int))) (.val (.tuple [sW a]));have cp:il 9000 [some 0,none] (fV (aa (ae 2))) (ar 1) (aa (aw bh (aA aH (aA aH (ax 0) (ae 1)) !0) !"while")) (aa (ae 1)) δ (PS pa P)=some (.ok (.list ((P.filter (p5 R)).map λ (k:Nat)=>W.int (k:Int))),PS pa P):=by
  have e:cx [some 0,none] δ=[.val (.list R),.no]:=rfl;have lv:fV (aa (ae 2)) δ (PS pa P)=some (.ok (2,.l),PS pa P):=wB (l:=2) (es:=P.map λ (k:Nat)=>W.int (k:Int)) rfl rfl;have:=vZ (S:=PS pa P) rfl hp 9000 0 (by have:=hp.2;omega);rw [drop_zero] at this;simp only [il,ak,lv,Oo z,e,this]
 obtain ⟨L,hL⟩:∃ L,P.filter (p5 R)=L++[v]:=by
  unfold lw at hv;exact List.getLast?_eq_some_iff.mp hv
 rw [hL,Pr] at cp;have iv:sIx (il 9000 [some 0,none] (fV (aa (ae 2))) (ar 1) (aa (aw bh (aA aH (aA aH (ax 0) (ae 1)) !0) !"while")) (aa (ae 1))) (aa (iJ cU !1)) δ (PS pa P)=some (.ok (.int (v:Int)),PS pa P):=Lv cp (i := -1) rfl (C7 _ _);refine (vW (n:=1) (k:=k) (es:=pa.map .int) iv rfl rfl rfl (by simpa using hk)).trans ?_;simp [PS,map_set];rfl
end
theorem PT.ext {R:List W} {pa pa':List Int}:∀ {r:Bd} {w:Option Nat} {p:Nat},PT R pa w p r->(∀ j,p<=j->j<p+r.len->pa'[j]?=pa[j]?)->PT R pa' w p r
 | .nil,_,_,_,_=>trivial
 | .set x t r,w,p,h,e=>⟨h.1,h.2.1,PT.ext h.2.2 λ j h1 h2=>e j (by omega) (by simp only [Bd.len];omega)⟩
 | .tell t r,w,p,h,e=>⟨h.1,h.2.1,PT.ext h.2.2 λ j h1 h2=>e j (by omega) (by simp only [Bd.len];omega)⟩
 | .brk r,w,p,h,e=>by
  obtain ⟨h1,⟨v,h2,h3⟩,h4⟩:=h;exact ⟨h1,⟨v,h2,by rw [e p (Ol _) (by simp only [Bd.len];omega)];exact h3⟩,PT.ext h4 λ j h1 h2=>e j (by omega) (by simp only [Bd.len];omega)⟩
 | .agn r,w,p,h,e=>by
  obtain ⟨h1,⟨v,h2,h3⟩,h4⟩:=h;exact ⟨h1,⟨v,h2,by rw [e p (Ol _) (by simp only [Bd.len];omega)];exact h3⟩,PT.ext h4 λ j h1 h2=>e j (by omega) (by simp only [Bd.len];omega)⟩
 | .stp r,w,p,h,e=>⟨h.1,PT.ext h.2 λ j h1 h2=>e j (by omega) (by simp only [Bd.len];omega)⟩
 | .ifs t y r,w,p,h,e=>by
  obtain ⟨a1,a2,a3,a4,a5,a6,a7⟩:=h;simp only [Bd.len] at e;exact ⟨a1,a2,by rw [e p (Ol _) (by omega)];exact a3,a4,by rw [e _ (by omega) (by omega)];exact a5,a6.ext λ j h1 h2=>e j (by omega) (by omega),a7.ext λ j h1 h2=>e j (by omega) (by omega)⟩
 | .ife t y n r,w,p,h,e=>by
  obtain ⟨a1,a2,a3,a4,a5,a6,a7,a8,a9,a10⟩:=h;simp only [Bd.len] at e;exact ⟨a1,a2,by rw [e p (Ol _) (by omega)];exact a3,a4,by rw [e _ (by omega) (by omega)];exact a5,a6,by rw [e _ (by omega) (by omega)];exact a7,a8.ext λ j h1 h2=>e j (by omega) (by omega),a9.ext λ j h1 h2=>e j (by omega) (by omega),a10.ext λ j h1 h2=>e j (by omega) (by omega)⟩
 | .whl t b r,w,p,h,e=>by
  obtain ⟨a1,a2,a3,a4,a5,a6,a7⟩:=h;simp only [Bd.len] at e;exact ⟨a1,a2,by rw [e p (Ol _) (by omega)];exact a3,a4,by rw [e _ (by omega) (by omega)];exact a5,a6.ext λ j h1 h2=>e j (by omega) (by omega),a7.ext λ j h1 h2=>e j (by omega) (by omega)⟩
noncomputable abbrev MO:W->DS->Option DS:=jW 2 (ft (ar 3) (ft (ar 4) lF))
noncomputable def jR (R:List W) (l:List W) (pa:List Int) (P:List Nat) (pa':List Int) (P':List Nat):Prop:=∀ s3 s4,∃ t3 t4,∀ tl,gh MO dX (l++tl) (mW R s3 s4) (PS pa P)=gh MO dX tl (mW R t3 t4) (PS pa' P')
section
variable {R:List W}
theorem jR.nil (pa:List Int) (P:List Nat):jR R [] pa P pa P:=λ s3 s4=>⟨s3,s4,λ _=>rfl⟩
theorem jR.app {a b:List W} {pa pa1 pa2:List Int} {P P1 P2:List Nat} (h:jR R a pa P pa1 P1) (h':jR R b pa1 P1 pa2 P2):jR R (a++b) pa P pa2 P2:=λ s3 s4=>by
 obtain ⟨t3,t4,e⟩:=h s3 s4;obtain ⟨u3,u4,e'⟩:=h' t3 t4;exact ⟨u3,u4,λ tl=>by rw [append_assoc,e,e']⟩
theorem jR.one {k:Nat} {y:W} {pa pa1:List Int} {P P1:List Nat} (h:Dl R k y pa P pa1 P1):jR R [.tuple [.int (k:Int),y]] pa P pa1 P1:=λ s3 s4=>⟨.val (.int (k:Int)),.val y,λ tl=>kD (δ2:=mW R (.val (.int (k:Int))) (.val y)) rfl h.e⟩
theorem jH:∀ (a b:List W) (k:Nat),tN k (a++b)=tN k a++tN (k+a.length) b
 | [],b,k=>by simp [tN]
 | x::a,b,k=>by
  simp only [cons_append,tN,jH a b (k+1),Ou];rw [show k+1+a.length=k+(a.length+1) by omega]
theorem jR.cons {k:Nat} {y:W} {l:List W} {pa pa1 pa2:List Int} {P P1 P2:List Nat} (h:Dl R k y pa P pa1 P1) (h':jR R (tN (k+1) l) pa1 P1 pa2 P2):jR R (tN k (y::l)) pa P pa2 P2:=jR.app (a:=[.tuple [.int (k:Int),y]]) (.one h) h'
theorem lh {pa:List Int} {k j:Nat} {v:Int} (h:k<pa.length):(pa.set k v)[j]?=if j=k then some v else pa[j]?:=by
 by_cases e:j=k
 . subst e;rw [Oo rfl,Py h]
 . rw [Oq e,OI (Pt e)]
structure PR (R:List W) (p:Nat) (r:Bd) (P:List Nat) (pa pa':List Int):Prop where
 run:jR R (tN p (fl r)) pa P pa' P
 len:pa'.length=R.length
 out:∀ j,(j<p∨p+r.len<=j)->pa'[j]?=pa[j]?
 pt:PT R pa' (lw R P) p r
theorem fZ:∀ (r:Bd) (p:Nat) (P:List Nat) (pa:List Int) (wb:Bool) (aZ:List W),R.drop p=fl r++aZ->GB wb r->(wb=true->∃ v,lw R P=some v)->HP R P->P.length+cW r<900->pa.length=R.length->p+r.len<=R.length->∃ pa',PR R p r P pa pa'
 | .nil,p,P,pa,wb,aZ,h,g,hw,hp,hd,hl,hb=>⟨pa,.nil _ _,hl,λ _ _=>rfl,trivial⟩
 | .set x t r,p,P,pa,wb,aZ,h,g,hw,hp,hd,hl,hb=>by
  obtain ⟨h1,h2⟩:=kQ h;simp only [Bd.len] at hb;obtain ⟨pa',q⟩:=fZ r (p+1) P pa wb aZ h2 g.2 hw hp hd hl (by omega);exact ⟨pa',.cons (oa (by simp)) q.run,q.len,λ j hj=>q.out j (by simp only [Bd.len] at hj;omega),h1,g.1,q.pt⟩
 | .tell t r,p,P,pa,wb,aZ,h,g,hw,hp,hd,hl,hb=>by
  obtain ⟨h1,h2⟩:=kQ h;simp only [Bd.len] at hb;obtain ⟨pa',q⟩:=fZ r (p+1) P pa wb aZ h2 g.2 hw hp hd hl (by omega);exact ⟨pa',.cons (oa (by simp)) q.run,q.len,λ j hj=>q.out j (by simp only [Bd.len] at hj;omega),h1,g.1,q.pt⟩
 | .stp r,p,P,pa,wb,aZ,h,g,hw,hp,hd,hl,hb=>by
  obtain ⟨h1,h2⟩:=kQ h;simp only [Bd.len] at hb;obtain ⟨pa',q⟩:=fZ r (p+1) P pa wb aZ h2 g hw hp hd hl (by omega);exact ⟨pa',.cons (oa (by simp)) q.run,q.len,λ j hj=>q.out j (by simp only [Bd.len] at hj;omega),h1,q.pt⟩
 | .brk r,p,P,pa,wb,aZ,h,g,hw,hp,hd,hl,hb=>by
  obtain ⟨h1,h2⟩:=kQ h;simp only [Bd.len] at hb;obtain ⟨v,hv⟩:=hw g.1;obtain ⟨pa',q⟩:=fZ r (p+1) P (pa.set p (v:Int)) wb aZ h2 g.2 hw hp hd (by simpa using hl) (by omega);refine ⟨pa',.cons (yn (.inl rfl) hp hv (by omega)) q.run,q.len,λ j hj=>?_,h1,⟨v,hv,?_⟩,q.pt⟩
  . simp only [Bd.len] at hj;rw [q.out j (by omega),lh (by omega),Oq (by omega)]
  . rw [q.out p (by omega),lh (by omega),Oo rfl]
 | .agn r,p,P,pa,wb,aZ,h,g,hw,hp,hd,hl,hb=>by
  obtain ⟨h1,h2⟩:=kQ h;simp only [Bd.len] at hb;obtain ⟨v,hv⟩:=hw g.1;obtain ⟨pa',q⟩:=fZ r (p+1) P (pa.set p (v:Int)) wb aZ h2 g.2 hw hp hd (by simpa using hl) (by omega);refine ⟨pa',.cons (yn (.inr rfl) hp hv (by omega)) q.run,q.len,λ j hj=>?_,h1,⟨v,hv,?_⟩,q.pt⟩
  . simp only [Bd.len] at hj;rw [q.out j (by omega),lh (by omega),Oq (by omega)]
  . rw [q.out p (by omega),lh (by omega),Oo rfl]
 | .ifs t y r,p,P,pa,wb,aZ,h,g,hw,hp,hd,hl,hb=>by
  simp only [Bd.len] at hb;simp only [cW] at hd;have h':R.drop p=.tuple [sW "if", tw t]::(fl y++gf::(fl r++aZ)):=by rw [h];simp [fl]
  obtain ⟨h1,h2⟩:=kQ h';obtain ⟨e1,e2⟩:=kQ (AM h2);have hlw:lw R (P++[p])=lw R P:=by rw [lg,jL h1 (by simp [ai])];rfl
  have hp1:=hp.snoc (by omega) h1 (by simp [ai]);obtain ⟨pa1,q⟩:=fZ y (p+1) (P++[p]) pa wb _ h2 g.2.1 (by rw [hlw];exact hw) hp1 (by simp;omega) hl (by omega);have l1:=q.len;let pa2:=(pa1.set p ((p+1+y.len:Nat):Int)).set (p+1+y.len) (p:Int);have g2:∀ j,pa2[j]?=if j=p+1+y.len then some (p:Int) else if j=p then some ((p+1+y.len:Nat):Int) else pa1[j]?:=λ j=>by
   show ((pa1.set p _).set (p+1+y.len) _)[j]?=_;rw [lh (by simp;omega),lh (by omega)]
  rw [show p+1+y.len+1=p+2+y.len by omega] at e2;obtain ⟨pa3,q3⟩:=fZ r (p+2+y.len) P pa2 wb aZ e2 g.2.2 hw hp (by omega) (by simp [pa2];omega) (by omega);have f:∀ j,j<p+2+y.len->pa3[j]?=pa2[j]?:=λ j hj=>q3.out j (.inl hj);refine ⟨pa3,?_,q3.len,λ j hj=>?_,h1,g.1,?_,e1,?_,?_,q3.pt⟩
  . refine .cons (nG (by simp) (by omega)) ?_;rw [jH,cC];refine .app q.run (.cons (rG (by omega) (by omega)) ?_);rw [show p+1+y.len+1=p+2+y.len by omega];exact q3.run
  . simp only [Bd.len] at hj;rw [q3.out j (by omega),g2,Oq (by omega),Oq (by omega),q.out j (by omega)]
  . rw [f p (by omega),g2,Oq (by omega),Oo rfl]
  . rw [f _ (by omega),g2,Oo rfl]
  . have qp:=q.pt;rw [hlw] at qp;exact qp.ext λ j a b=>by rw [f j (by omega),g2,Oq (by omega),Oq (by omega)]
 | .whl t y r,p,P,pa,wb,aZ,h,g,hw,hp,hd,hl,hb=>by
  simp only [Bd.len] at hb;simp only [cW] at hd;have h':R.drop p=.tuple [sW "while", tw t]::(fl y++gf::(fl r++aZ)):=by rw [h];simp [fl]
  obtain ⟨h1,h2⟩:=kQ h';obtain ⟨e1,e2⟩:=kQ (AM h2);have hlw:lw R (P++[p])=some p:=by rw [lg,jL h1 (by simp [ai])];rfl
  have hp1:=hp.snoc (by omega) h1 (by simp [ai]);obtain ⟨pa1,q⟩:=fZ y (p+1) (P++[p]) pa true _ h2 g.2.1 (λ _=>⟨p,hlw⟩) hp1 (by simp;omega) hl (by omega);have l1:=q.len;let pa2:=(pa1.set p ((p+1+y.len:Nat):Int)).set (p+1+y.len) (p:Int);have g2:∀ j,pa2[j]?=if j=p+1+y.len then some (p:Int) else if j=p then some ((p+1+y.len:Nat):Int) else pa1[j]?:=λ j=>by
   show ((pa1.set p _).set (p+1+y.len) _)[j]?=_;rw [lh (by simp;omega),lh (by omega)]
  rw [show p+1+y.len+1=p+2+y.len by omega] at e2;obtain ⟨pa3,q3⟩:=fZ r (p+2+y.len) P pa2 wb aZ e2 g.2.2 hw hp (by omega) (by simp [pa2];omega) (by omega);have f:∀ j,j<p+2+y.len->pa3[j]?=pa2[j]?:=λ j hj=>q3.out j (.inl hj);refine ⟨pa3,?_,q3.len,λ j hj=>?_,h1,g.1,?_,e1,?_,?_,q3.pt⟩
  . refine .cons (nG (by simp) (by omega)) ?_;rw [jH,cC];refine .app q.run (.cons (rG (by omega) (by omega)) ?_);rw [show p+1+y.len+1=p+2+y.len by omega];exact q3.run
  . simp only [Bd.len] at hj;rw [q3.out j (by omega),g2,Oq (by omega),Oq (by omega),q.out j (by omega)]
  . rw [f p (by omega),g2,Oq (by omega),Oo rfl]
  . rw [f _ (by omega),g2,Oo rfl]
  . have qp:=q.pt;rw [hlw] at qp;exact qp.ext λ j a b=>by rw [f j (by omega),g2,Oq (by omega),Oq (by omega)]
 | .ife t y n r,p,P,pa,wb,aZ,h,g,hw,hp,hd,hl,hb=>by
  simp only [Bd.len] at hb;simp only [cW] at hd;have h':R.drop p=.tuple [sW "if", tw t]::(fl y++ub::(fl n++gf::(fl r++aZ))):=by rw [h];simp [fl]
  obtain ⟨h1,h2⟩:=kQ h';obtain ⟨e1,e2⟩:=kQ (AM h2);obtain ⟨e3,e4⟩:=kQ (AM e2);rw [show p+1+y.len+1+n.len=p+2+y.len+n.len by omega] at e3;rw [show p+1+y.len+1+n.len+1=p+3+y.len+n.len by omega] at e4;rw [show p+1+y.len+1=p+2+y.len by omega] at e2;have hlw:lw R (P++[p])=lw R P:=by rw [lg,jL h1 (by simp [ai])];rfl
  have hlw2:lw R (P++[p+1+y.len])=lw R P:=by rw [lg,jL (a := "else") (l:=[]) e1 (by simp [ai])];rfl
  have hp1:=hp.snoc (by omega) h1 (by simp [ai]);have hp2:=hp.snoc (by omega) (a := "else") (l:=[]) e1 (by simp [ai]);obtain ⟨pa1,q⟩:=fZ y (p+1) (P++[p]) pa wb _ h2 g.2.1 (by rw [hlw];exact hw) hp1 (by simp;omega) hl (by omega);have l1:=q.len;let pa2:=pa1.set p ((p+1+y.len:Nat):Int);have g2:∀ j,pa2[j]?=if j=p then some ((p+1+y.len:Nat):Int) else pa1[j]?:=λ j=>lh (by omega)
  obtain ⟨pa3,q3⟩:=fZ n (p+2+y.len) (P++[p+1+y.len]) pa2 wb _ e2 g.2.2.1 (by rw [hlw2];exact hw) hp2 (by simp;omega) (by simp [pa2];omega) (by omega);have l3:=q3.len;let pa4:=(pa3.set (p+1+y.len) ((p+2+y.len+n.len:Nat):Int)).set (p+2+y.len+n.len) ((p+1+y.len:Nat):Int);have g4:∀ j,pa4[j]?=if j=p+2+y.len+n.len then some ((p+1+y.len:Nat):Int) else if j=p+1+y.len then some ((p+2+y.len+n.len:Nat):Int) else pa3[j]?:=λ j=>by
   show ((pa3.set (p+1+y.len) _).set (p+2+y.len+n.len) _)[j]?=_;rw [lh (by simp;omega),lh (by omega)]
  obtain ⟨pa5,q5⟩:=fZ r (p+3+y.len+n.len) P pa4 wb aZ e4 g.2.2.2 hw hp (by omega) (by simp [pa4];omega) (by omega);have f:∀ j,j<p+3+y.len+n.len->pa5[j]?=pa4[j]?:=λ j hj=>q5.out j (.inl hj);have f3:∀ j,j<p+2+y.len->pa3[j]?=pa2[j]?:=λ j hj=>q3.out j (.inl hj);refine ⟨pa5,?_,q5.len,λ j hj=>?_,h1,g.1,?_,e1,?_,e3,?_,?_,?_,q5.pt⟩
  . refine .cons (nG (by simp) (by omega)) ?_;rw [jH,cC];refine .app q.run (.cons (Cg (by omega)) ?_);rw [show p+1+y.len+1=p+2+y.len by omega,jH,cC];refine .app q3.run (.cons (rG (by omega) (by omega)) ?_);rw [show p+2+y.len+n.len+1=p+3+y.len+n.len by omega];exact q5.run
  . simp only [Bd.len] at hj;rw [q5.out j (by omega),g4,Oq (by omega),Oq (by omega),q3.out j (by omega),g2,Oq (by omega),q.out j (by omega)]
  . rw [f p (by omega),g4,Oq (by omega),Oq (by omega),f3 p (by omega),g2,Oo rfl]
  . rw [f _ (by omega),g4,Oq (by omega),Oo rfl]
  . rw [f _ (by omega),g4,Oo rfl]
  . have qp:=q.pt;rw [hlw] at qp;exact qp.ext λ j a b=>by rw [f j (by omega),g4,Oq (by omega),Oq (by omega),f3 j (by omega),g2,Oq (by omega)]
  . have qp:=q3.pt;rw [hlw2] at qp;exact qp.ext λ j a b=>by rw [f j (by omega),g4,Oq (by omega),Oq (by omega)]
end
noncomputable def fM (B:Bd):List W:=uC::(fl B++[gf])
theorem jK (B:Bd):(fM B).length=B.len+2:=by simp [fM,cC]
theorem rj {B:Bd} (g:GB false B) (hd:cW B<=5) (hl:B.len<=500):∃ pa,fq [.list (fM B)]=some (.list (pa.map .int))/\uk (fM B) pa 1 B []:=by
 let R:=fM B;have hR:R.length=B.len+2:=jK B;have d0:R.drop 1=fl B++[gf]:=rfl;have r0:R[0]?=some uC:=rfl;have hp:HP R [0]:=⟨λ j hj=>by rw [OW.mp hj];exact ⟨"def", [],r0,by simp [ai]⟩,by simp⟩
 have hw:lw R [0]=none:=by
  have:lw R ([]++[0])=_:=lg [] 0;rw [jL (a := "def") (l:=[]) r0 (by simp [ai])] at this;exact this
 let pa0:List Int:=List.replicate R.length 0;obtain ⟨pa1,q⟩:=fZ B 1 [0] pa0 false [gf] d0 g (λ h=>by cases h) hp (by simp;omega) (by simp [pa0]) (by omega);have l1:=q.len;obtain ⟨e1,_⟩:=kQ (AM d0);let pa2:List Int:=(pa1.set 0 ((1+B.len:Nat):Int)).set (1+B.len) ((0:Nat):Int);have g2:∀ j,pa2[j]?=if j=1+B.len then some ((0:Nat):Int) else if j=0 then some ((1+B.len:Nat):Int) else pa1[j]?:=λ j=>by
  show ((pa1.set 0 _).set (1+B.len) _)[j]?=_;rw [lh (by simp;omega),lh (by omega)]
 refine ⟨pa2,?_,none,?_,⟨rfl,e1,by rw [g2,Oo rfl];rfl,r0,by show 1+B.len+1=R.length;omega⟩,by simp;omega⟩
 . -- the run
   have full:jR R (tN 0 R) pa0 [] pa2 []:=by
    refine jR.cons (y:=uC) (P1:=[0]) (pa1:=pa0) (nG (a := "def") (by simp) (by simp)) ?_;rw [jH,cC];exact q.run.app (jR.cons (l:=[]) (P1:=[]) (rG (P:=[]) (by omega) (by omega)) (.nil _ _))
   obtain ⟨t3,t4,E⟩:=full .no .no;have E0:=E [];rw [Oz] at E0;have ok:AO R:=.cons (Ao (by simp [ai])) ((hU B false g).app (.cons (Ao (by simp [ai])) ⟨rfl,O1 _⟩));have oi:=kT (ds:=pa2.map .int) λ d hd=>let ⟨x,_,e⟩:=PM.mp hd;⟨x,e.symm⟩;have z1:=sz 1 (by decide);have z0:=sz 0 (by decide);refine vO (a:=1) (S:=PS pa2 []) ?_ rfl (by show (cK R&&true)=true;rw [ok.1];rfl) oi.1 (by omega);refine (ao rfl).trans ((Om aY (?_:_=some (.rt (.ref 1),PS pa2 []))).trans rfl);have rp:mv (bS (aa #[!0])) (aa (sw nc (ax 0))) [.val (.list R),.no,.no,.no,.no] []=some (.ok (.ref 1),[.lst [.int 0],.lst (pa0.map .int)]):=by
    have a:bS (aa #[!0]) [.val (.list R),.no,.no,.no,.no] []=some (.ok (.ref 0),[.lst [.int 0]]):=by
     have:aa #[!0] [.val (.list R),.no,.no,.no,.no] []=some (.ok [.int 0],[]):=rfl;simp only [bS,ak,this,Pg,Oo z1];rfl
    have b:aa (sw nc (ax 0)) [.val (.list R),.no,.no,.no,.no] [.lst [.int 0]]=some (.ok (.int (R.length:Int)),[.lst [.int 0]]):=rfl;have c:dI (.ref 0) [.lst [.int 0]]=some (0,[.int 0]):=rfl;have d:wg (.int (R.length:Int))=some (R.length:Int):=rfl;have e:(decide (0<=(R.length:Int))&&decide ((R.length:Int)<=1000)&&decide (([W.int 0]:List W).length<=1000))=true:=by simp;omega
    have f:(List.replicate (R.length:Int).toNat [W.int 0]).flatten=pa0.map .int:=by
     rw [Int.toNat_natCast];simp only [pa0];generalize R.length=m;induction m with
     | zero=>rfl
     | succ m ih=>simp only [OR,Pc,ih,OQ];rfl
    simp only [mv,ak,a,b,c,d,Oj,e,OS,f];rfl
   refine (ag (δ':=[.val (.list R),.val (.ref 1),.no,.no,.no]) (bC rp rfl)).trans ?_;refine (ag (δ':=mW R .no .no) (S':=PS pa0 []) (bC (d:=.ref 2) (by rw [AJ];rfl) rfl)).trans ?_;refine (ag (δ':=mW R t3 t4) (S':=PS pa2 []) ((kM (S1:=PS pa0 []) (ds:=tN 0 R) (av ?_)).trans (E0.trans rfl))).trans rfl;rw [<-AB];rfl
 . have qp:=q.pt;rw [hw] at qp;exact qp.ext λ j a b=>by rw [g2,Oq (by omega),Oq (by omega)]
theorem xj {B:Bd} (hd:cW B<=5) (hl:B.len<=500):bD 9 [.list (fM B),.int 1]=some (.tuple [.list (bW 1 B),.int ((1+B.len:Nat):Int)]):=CV (R:=fM B) (by rw [jK];omega) 9 B 1 gf [] (by omega) rfl (.inl rfl)
noncomputable def nj:Str:=Str.ofString "abcdefghijklmnopqrstuvwxyz"
noncomputable def D5 (k:Nat):Nat:=nj.cps.toList.getD k 0
theorem C8:nj.cps.toList.length=26:=by decide +kernel
theorem yB (k:Nat) (h:k<26):aH (.str nj) (.int k)=some (.str ⟨List.toArray [D5 k]⟩):=by
 have hz:nj.length<=sizeLine:=sz _ (by decide +kernel);have hk:k<nj.cps.toList.length:=by rw [C8];omega
 show (if nj.length<=sizeLine then (jg nj.cps.toList (k:Int)).map λ c=>W.str ⟨List.toArray [c]⟩ else none)=_;rw [Oo hz,vE _ k hk,OF hk];simp [D5,List.getD,OF hk]
noncomputable instance (y:Str):Decidable (pk y):=by unfold pk;infer_instance
noncomputable def qS (k:Nat):Str:=Txt.mul (Str.ofString "q") (k:Int)
noncomputable def KC (a b l:Nat):Str:=(qS a++(⟨List.toArray [D5 l]⟩:Str))++qS b
theorem Ec:∀ (a b:Fin 8) (l:Fin 26),a.1+b.1<=7->pk (KC a.1 b.1 l.1):=by decide +kernel
theorem yN:∀ a:Fin 8,(qS a.1).length<=8:=by decide +kernel
theorem HI:(Str.ofString "q").length<=1000:=by decide +kernel
theorem Am (k:Nat) (h:k<8):sC (.str "q") (.int (k:Int))=some (.str (qS k)):=by
 show (if (decide (0<=(k:Int))&&decide ((k:Int)<=1000)&&decide ((Str.ofString "q").length<=1000))=true then some (W.str (Txt.mul (Str.ofString "q") (k:Int))) else none)=_;rw [Oo (by simp [HI];omega)];rfl
theorem LK (a b:Str):(a++b).length=a.length+b.length:=strLen_append a b
theorem xh (c:Int):∃ x0 x1,gz [.int c]=some (.list [.str x0,.str x1])/\pk x0/\pk x1:=by
 have r8:=bN c (j:=8) (by decide);obtain ⟨s,hs⟩:∃ s:Nat,c.fmod 8=s:=⟨(c.fmod 8).toNat,by omega⟩
 have ra:=bN (c.fdiv 8) (j:=1+(s:Int)) (by omega);obtain ⟨a,ha⟩:∃ a:Nat,(c.fdiv 8).fmod (1+(s:Int))=a:=⟨((c.fdiv 8).fmod (1+(s:Int))).toNat,by omega⟩
 have rl:=bN (c.fdiv 64) (j:=26) (by decide);obtain ⟨l,hl⟩:∃ l:Nat,(c.fdiv 64).fmod 26=l:=⟨((c.fdiv 64).fmod 26).toNat,by omega⟩
 have rm:=bN (c.fdiv 64+1) (j:=26) (by decide);obtain ⟨m,hm⟩:∃ m:Nat,(c.fdiv 64+1).fmod 26=m:=⟨((c.fdiv 64+1).fmod 26).toNat,by omega⟩
 obtain ⟨b,hb⟩:∃ b:Nat,b=s-a:=⟨_,rfl⟩
 have hab:a+b<=7:=by omega
 have sh:=λ k hk=>Ec ⟨a,by omega⟩ ⟨b,by omega⟩ ⟨k,hk⟩ hab;refine ⟨KC a b l,KC a b m,?_,sh l (by omega),sh m (by omega)⟩;have m1:=Am a (by omega);have m2:=Am b (by omega);have qa:=yN ⟨a,by omega⟩;have qb:=yN ⟨b,by omega⟩;dsimp only at qa qb;have z2:=sz 2 (by decide);have g1:∀ k:Nat,bQ (.str (qS a)) (.str ⟨List.toArray [D5 k]⟩)=some (.str (qS a++⟨List.toArray [D5 k]⟩)):=λ k=>xU (sz _ (by have:(⟨List.toArray [D5 k]⟩:Str).length=1:=rfl;omega));have g2:∀ k:Nat,bQ (.str (qS a++⟨List.toArray [D5 k]⟩)) (.str (qS b))=some (.str (KC a b k)):=λ k=>xU (sz _ (by rw [LK];have:(⟨List.toArray [D5 k]⟩:Str).length=1:=rfl;omega));let δ (s1 s2 s3 s4 s5:Sl):DS:=[.val (.int c),s1,s2,s3,s4,s5]
 refine bK rfl ?_;refine aI (δ1:=δ (.val (.int (1+(s:Int)))) .no .no .no .no) (aF (dO rfl (dO rfl rfl ((cf c (by decide)).trans (by rw [hs]))) rfl) rfl) ?_;refine aI (δ1:=δ (.val (.int (1+(s:Int)))) (.val (.int a)) .no .no .no) (aF (dO (dO rfl rfl (iq c (by decide) (by decide))) rfl ((cf _ (by omega)).trans (by rw [ha]))) rfl) ?_;refine aI (δ1:=δ (.val (.int (1+(s:Int)))) (.val (.int a)) (.val (.str nj)) .no .no) rfl ?_;refine aI (δ1:=δ (.val (.int (1+(s:Int)))) (.val (.int a)) (.val (.str nj)) (.val (.str (qS a))) .no) (aF (dO rfl rfl m1) rfl) ?_;have eb:(1+(s:Int))-1-(a:Int)=(b:Int):=by omega
 refine aI (δ1:=δ (.val (.int (1+(s:Int)))) (.val (.int a)) (.val (.str nj)) (.val (.str (qS a))) (.val (.str (qS b)))) (aF (dO rfl (dO (dO rfl rfl rfl) rfl ((AG _ _).trans (by rw [eb]))) m2) rfl) ?_;refine aJ ?_;have n1:=dO (c:=bQ) (f:=aA bQ (ax 4) (aA aH (ax 3) (aA cq (aA gW (ax 0) !64) !26))) (g:=ae 5) (δ:=δ (.val (.int (1+(s:Int)))) (.val (.int a)) (.val (.str nj)) (.val (.str (qS a))) (.val (.str (qS b)))) (dO rfl (dO rfl (dO (dO rfl rfl (iq c (by decide) (by decide))) rfl ((cf _ (by decide)).trans (by rw [hl]))) (yB l (by omega))) (g1 l)) rfl (g2 l);have n2:=dO (c:=bQ) (f:=aA bQ (ax 4) (aA aH (ax 3) (aA cq (aA bQ (aA gW (ax 0) !64) !1) !26))) (g:=ae 5) (δ:=δ (.val (.int (1+(s:Int)))) (.val (.int a)) (.val (.str nj)) (.val (.str (qS a))) (.val (.str (qS b)))) (dO rfl (dO rfl (dO (dO (dO rfl rfl (iq c (by decide) (by decide))) rfl rfl) rfl ((cf _ (by decide)).trans (by rw [hm]))) (yB m (by omega))) (g1 m)) rfl (g2 m);have li:=fL n1 (fL n2 (g:=aj) rfl);simp only [dt,dD,li,Oj,Ou,OU,Oo z2,Ot]
section
variable {x0 x1:Str} (h0:pk x0) (h1:pk x1)
noncomputable def nI (x0 x1:Str) (k:Int):Str:=if k.fmod 2=0 then x0 else x1
include h0 h1 in
theorem ye (k:Int):pk (nI x0 x1 k):=by unfold nI;split <;> assumption
theorem wu {f g:DS->Option W} {δ:DS} {k:Int} (hf:f δ=some (.list [.str x0,.str x1])) (hg:g δ=some (.int k)):aA aH f (aA cq g !2) δ=some (.str (nI x0 x1 k)):=by
 have r:=bN k (j:=2) (by decide);refine wy hf (dO hg rfl (cf k (by decide))) ?_;unfold nI;by_cases h:k.fmod 2=0
 . rw [h,Oo rfl];exact Kr _ _
 . rw [show k.fmod 2=1 by omega,Oq (by decide)];exact K7 _ _ _
theorem qU {x:Str} (h:pk x):GX (.nam x):=⟨trivial,by simp [jl],λ y hy=>by rw [<-(show x=y from hy)];exact h⟩
theorem ki {v:Int} (h:Rg v):GX (.num v):=⟨h,by simp [jl],λ y hy=>hy.elim⟩
theorem m7 {k:Fin 7} {a b:Tr} (hk:k≠3) (ha:GX a) (hb:GX b) (da:jl a=0) (db:jl b=0):GX (.op k a b):=⟨⟨hk,ha.nb,hb.nb⟩,by simp [jl,da,db],λ y hy=>hy.elim (ha.sh y) (hb.sh y)⟩
end
section
variable {x0 x1:Str} (h0:pk x0) (h1:pk x1)
include h0 h1
theorem yv (n:Int):∃ t,gl [.int n,.list [.str x0,.str x1]]=some (tw t)/\GX t:=by
 have nm:=λ k=>qU (ye h0 h1 k);have r6:=bN (n.fdiv 2) (j:=6) (by decide);let N:Tr:=.nam (nI x0 x1 n);let δ (w:Int):DS:=[.val (.int n),.val (.list [.str x0,.str x1]),.val (tw N),.val (.int (n.fdiv 12)),.val (.int w)]
 have pre:∀ {g:DS->Option dR} {r:Option dR},g (δ ((n.fdiv 2).fmod 6))=r->aX (aV (bv #[!"name",aA aH (ax 1) (aA cq (ax 0) !2)]) (ar 2)) (aX (aV (aA gW (ax 0) !12) (ar 3)) (aX (aV (aA cq (aA gW (ax 0) !2) !6) (ar 4)) g)) [.val (.int n),.val (.list [.str x0,.str x1]),.no,.no,.no]=r:=λ {g r} h=>by
  refine aI (δ1:=[.val (.int n),.val (.list [.str x0,.str x1]),.val (tw N),.no,.no]) (aF (pJ rfl (wu (k:=n) rfl rfl)) rfl) ?_;refine aI (δ1:=[.val (.int n),.val (.list [.str x0,.str x1]),.val (tw N),.val (.int (n.fdiv 12)),.no]) (aF (dO rfl rfl (iq n (by decide) (by decide))) rfl) ?_;exact aI (aF (dO (dO rfl rfl (iq n (by decide) (by decide))) rfl (cf _ (by decide))) rfl) h
 have ne:∀ (w k:Int),aw bh (ax 4) (dC (.int k)) (δ w)=some (decide (w=k)):=λ w k=>rfl;generalize hw:(n.fdiv 2).fmod 6=w at pre r6;by_cases e0:w=0
 . exact ⟨N,bK rfl (pre (eK (aE (b:=true) ((ne w 0).trans (by rw [Op e0])) (aJ rfl)))),nm n⟩
 have s0:∀ {f:DS->Option dR} {g:DS->Option dR},aX (bO (aw bh (ax 4) !0) f az) g (δ w)=g (δ w):=λ {f g}=>aI (aE (b:=false) ((ne w 0).trans (by rw [Oi e0])) rfl) rfl;by_cases e5:w=5
 . refine ⟨.op 4 N (.nam (nI x0 x1 (n.fdiv 12))),bK rfl (pre (s0.trans (eK (aE (b:=true) ((ne w 5).trans (by rw [Op e5])) (aJ (A9 rfl rfl (pJ rfl (wu (k:=n.fdiv 12) rfl rfl)))))))),m7 (by decide) (nm n) (nm _) rfl rfl⟩
 have s5:∀ {f:DS->Option dR} {g:DS->Option dR},aX (bO (aw bh (ax 4) !5) f az) g (δ w)=g (δ w):=λ {f g}=>aI (aE (b:=false) ((ne w 5).trans (by rw [Oi e5])) rfl) rfl;by_cases e1:w=1
 . have r:=bN (n.fdiv 12) (j:=5) (by decide);refine ⟨.op 4 N (.num (2+(n.fdiv 12).fmod 5)),bK rfl (pre (s0.trans (s5.trans (eK (aE (b:=true) ((ne w 1).trans (by rw [Op e1])) (aJ (A9 rfl rfl (pJ rfl (dO rfl (dO rfl rfl (cf _ (by decide))) rfl))))))))),m7 (by decide) (nm n) (ki (by constructor <;> omega)) rfl rfl⟩
 have s1:∀ {f:DS->Option dR} {g:DS->Option dR},aX (bO (aw bh (ax 4) !1) f az) g (δ w)=g (δ w):=λ {f g}=>aI (aE (b:=false) ((ne w 1).trans (by rw [Oi e1])) rfl) rfl;by_cases e2:w=2
 . have r:=bN (n.fdiv 12) (j:=4) (by decide);refine ⟨.op 6 N (.num ((n.fdiv 12).fmod 4)),bK rfl (pre (s0.trans (s5.trans (s1.trans (eK (aE (b:=true) ((ne w 2).trans (by rw [Op e2])) (aJ (A9 rfl rfl (pJ rfl (dO rfl rfl (cf _ (by decide)))))))))))),m7 (by decide) (nm n) (ki (by constructor <;> omega)) rfl rfl⟩
 have s2:∀ {f:DS->Option dR} {g:DS->Option dR},aX (bO (aw bh (ax 4) !2) f az) g (δ w)=g (δ w):=λ {f g}=>aI (aE (b:=false) ((ne w 2).trans (by rw [Oi e2])) rfl) rfl;have r:=bN (n.fdiv 12) (j:=9) (by decide);exact ⟨.op 5 N (.num ((n.fdiv 12).fmod 9)),bK rfl (pre (s0.trans (s5.trans (s1.trans (s2.trans (aJ (A9 rfl rfl (pJ rfl (dO rfl rfl (cf _ (by decide))))))))))),m7 (by decide) (nm n) (ki (by constructor <;> omega)) rfl rfl⟩
theorem vI (n:Int):∃ t,gc [.int n,.list [.str x0,.str x1]]=some (tw t)/\GX t/\wo t:=by
 have nm:=λ k=>qU (ye h0 h1 k);have r7:=bN (n.fdiv 2) (j:=7) (by decide);let N:Tr:=.nam (nI x0 x1 n);let δ (w:Int):DS:=[.val (.int n),.val (.list [.str x0,.str x1]),.val (tw N),.val (.int (n.fdiv 14)),.val (.int w)]
 have pre:∀ {g:DS->Option dR} {r:Option dR},g (δ ((n.fdiv 2).fmod 7))=r->aX (aV (bv #[!"name",aA aH (ax 1) (aA cq (ax 0) !2)]) (ar 2)) (aX (aV (aA gW (ax 0) !14) (ar 3)) (aX (aV (aA cq (aA gW (ax 0) !2) !7) (ar 4)) g)) [.val (.int n),.val (.list [.str x0,.str x1]),.no,.no,.no]=r:=λ {g r} h=>by
  refine aI (δ1:=[.val (.int n),.val (.list [.str x0,.str x1]),.val (tw N),.no,.no]) (aF (pJ rfl (wu (k:=n) rfl rfl)) rfl) ?_;refine aI (δ1:=[.val (.int n),.val (.list [.str x0,.str x1]),.val (tw N),.val (.int (n.fdiv 14)),.no]) (aF (dO rfl rfl (iq n (by decide) (by decide))) rfl) ?_;exact aI (aF (dO (dO rfl rfl (iq n (by decide) (by decide))) rfl (cf _ (by decide))) rfl) h
 have ne:∀ (w k:Int),aw bh (ax 4) (dC (.int k)) (δ w)=some (decide (w=k)):=λ w k=>rfl;have lt:∀ w:Int,aw p7 (ax 4) (!3) (δ w)=some (decide (w<3)):=λ w=>rfl;generalize hw:(n.fdiv 2).fmod 7=w at pre r7;by_cases e0:w<3
 . exact ⟨.op 0 N (.num 1),bK rfl (pre (eK (aE (b:=true) ((lt w).trans (by rw [Op e0])) (aJ (A9 rfl rfl (pJ rfl rfl)))))),m7 (by decide) (nm n) (ki (by decide)) rfl rfl,by simp [wo]⟩
 have s0:∀ {f:DS->Option dR} {g:DS->Option dR},aX (bO (aw p7 (ax 4) !3) f az) g (δ w)=g (δ w):=λ {f g}=>aI (aE (b:=false) ((lt w).trans (by rw [Oi e0])) rfl) rfl;by_cases e3:w=3
 . have r:=bN (n.fdiv 14*7919007919) (j:=1999999999) (by decide);have gm:kZ (.int (n.fdiv 14)) (.int 7919007919)=some (.int (n.fdiv 14*7919007919)):=kg (vS (by decide) (by decide));exact ⟨.op 2 N (.num ((n.fdiv 14*7919007919).fmod 1999999999-999999999)),bK rfl (pre (s0.trans (eK (aE (b:=true) ((ne w 3).trans (by rw [Op e3])) (aJ (A9 rfl rfl (pJ rfl (dO (dO (dO rfl rfl gm) rfl (cf _ (by decide))) rfl rfl)))))))),m7 (by decide) (nm n) (ki (by constructor <;> omega)) rfl rfl,by simp [wo]⟩
 have s3:∀ {f:DS->Option dR} {g:DS->Option dR},aX (bO (aw bh (ax 4) !3) f az) g (δ w)=g (δ w):=λ {f g}=>aI (aE (b:=false) ((ne w 3).trans (by rw [Oi e3])) rfl) rfl;by_cases e4:w=4
 . have r:=bN (n.fdiv 14) (j:=7) (by decide);exact ⟨.op 1 (.num ((n.fdiv 14).fmod 7)) N,bK rfl (pre (s0.trans (s3.trans (eK (aE (b:=true) ((ne w 4).trans (by rw [Op e4])) (aJ (A9 rfl (pJ rfl (dO rfl rfl (cf _ (by decide)))) rfl))))))),m7 (by decide) (ki (by constructor <;> omega)) (nm n) rfl rfl,by simp [wo]⟩
 have s4:∀ {f:DS->Option dR} {g:DS->Option dR},aX (bO (aw bh (ax 4) !4) f az) g (δ w)=g (δ w):=λ {f g}=>aI (aE (b:=false) ((ne w 4).trans (by rw [Oi e4])) rfl) rfl;by_cases e5:w=5
 . have r:=bN (n.fdiv 14) (j:=5) (by decide);exact ⟨.num ((n.fdiv 14).fmod 5),bK rfl (pre (s0.trans (s3.trans (s4.trans (eK (aE (b:=true) ((ne w 5).trans (by rw [Op e5])) (aJ (pJ rfl (dO rfl rfl (cf _ (by decide))))))))))),ki (by constructor <;> omega),trivial⟩
 have s5:∀ {f:DS->Option dR} {g:DS->Option dR},aX (bO (aw bh (ax 4) !5) f az) g (δ w)=g (δ w):=λ {f g}=>aI (aE (b:=false) ((ne w 5).trans (by rw [Oi e5])) rfl) rfl;exact ⟨.op 0 (.nam x0) (.nam x1),bK rfl (pre (s0.trans (s3.trans (s4.trans (s5.trans (aJ (A9 rfl (pJ rfl (wy (i:=0) rfl rfl (Kr _ _))) (pJ rfl (wy (i:=1) rfl rfl (K7 _ _ _)))))))))),m7 (by decide) (qU h0) (qU h1) rfl rfl,by simp [wo]⟩
end
theorem rP (S:ah) (n:Nat):∀ ks:List Str,jn (jQ S (n+1)) (ks.map W.str)=some (ks.map PyData.str)
 | []=>rfl
 | k::ks=>by
  show (jQ S (n+1) (.str k)).bind _=_;have:jQ S (n+1) (.str k)=some (.str k):=rfl;rw [this];show (jn (jQ S (n+1)) (ks.map W.str)).map _=_;rw [rP S n ks];rfl
theorem rZ:∀ {ks:List Str},(∀ k∈ks,strOk k=true)->canLayAll0 (ks.map PyData.str)=true/\PyData.depthAll (ks.map PyData.str)=0
 | [],_=>⟨rfl,rfl⟩
 | k::ks,h=>by
  have:=rZ (ks:=ks) λ k hk=>h k (OH _ hk);have hk:=h k OK;exact ⟨by simp only [OQ,canLayAll0,canLay0,hk,this.1,Bool.and_self],by simp only [OQ,PyData.depthAll,PyData.depth,this.2];rfl⟩
theorem wm:∀ (ks bs:List Str),eqvAll (ks.map PyData.str) (bs.map PyData.str)=decide (ks=bs)
 | [],[]=>rfl
 | [],b::bs=>by simp [eqvAll]
 | k::ks,[]=>by simp [eqvAll]
 | k::ks,b::bs=>by
  simp only [OQ,eqvAll,PyData.eqv,wm ks bs];by_cases h:k=b <;> by_cases h2:ks=bs <;> simp [h,h2]
theorem tz {S:ah} {n:Nat} {ks bs:List Str} (neg:Bool) (h:S[n]?=some (.lst (ks.map W.str))) (h1:∀ k∈ks,strOk k=true) (h2:∀ k∈bs,strOk k=true):jV neg (.ref n) (.list (bs.map W.str)) S=some (if neg then !decide (ks=bs) else decide (ks=bs)):=by
 have p1:jQ S 24 (.ref n)=some (.list (ks.map PyData.str)):=by
  show (cM S n).bind _=_;rw [show cM S n=some (ks.map W.str) by simp [cM,h]];show (jn (jQ S 23) (ks.map W.str)).map PyData.list=_;rw [rP];rfl
 have p2:jQ S 24 (.list (bs.map W.str))=some (.list (bs.map PyData.str)):=by
  show (jn (jQ S 23) (bs.map W.str)).map PyData.list=_;rw [rP];rfl
 have a:=rZ h1;have b:=rZ h2;unfold jV;show (jQ S 24 (.ref n)).bind _=_;rw [p1,p2];simp only [Oj,canLay0,a.1,b.1,PyData.depth,a.2,PyData.eqv,wm];rfl
theorem Ek (w:Str) (ks:List Str) {S:ah} {n:Nat} (h:S[n]?=some (.lst (ks.map W.str))):GZ (.str w) (.ref n) S=some (decide (w∈ks)):=by
 have e1:AI (.ref n) S=some (ks.map W.str):=by unfold AI;rw [dY h]
 have e2:Ho (.str w)=some (.str w):=rfl;have e3:∀ ks:List Str,vo (ks.map W.str)=some (ks.map V.str):=λ ks=>by
  induction ks with
  | nil=>rfl
  | cons k ks ih=>
   show (Ho (.str k)).bind _=_;show (vo (ks.map W.str)).map _=_;rw [ih];rfl
 have e4:∀ ks:List Str,BE (.str w) (ks.map V.str)=decide (w∈ks):=λ ks=>by
  induction ks with
  | nil=>rfl
  | cons k ks ih=>
   have:BE (.str w) ((k::ks).map V.str)=((k==w)||BE (.str w) (ks.map V.str)):=rfl;rw [this,ih];by_cases h:w=k
   . simp [h]
   . simp [h,Pt h]
 simp only [GZ,e1,e2,e3,e4,Oj,Ot]
theorem F5 (l:List W) (x:W):g7 (l++[x]) (some (-1)) none=[x]:=by
 unfold g7;have e:HT.sIx (l++[x]).length 0 (some (-1))=l.length:=by
  unfold HT.sIx;dsimp only;rw [Oo (by decide)];simp;omega
 rw [e,HT.sIx_none];simp
theorem EB:g7 [] (some (-1)) none=[]:=rfl
noncomputable def PK.s:PK->Str
 | .i=>Str.ofString "if"
 | .e=>Str.ofString "else"
 | .w=>Str.ofString "while"
noncomputable def jN (P:List PK):List Str:=(P.map PK.s).reverse
theorem fG (k:PK) (P:List PK):jN (k::P)=jN P++[k.s]:=by simp [jN]
theorem zF (P:List PK):∀ k∈jN P,strOk k=true:=λ k hk=>by
 simp only [jN,List.mem_reverse,PM] at hk;obtain ⟨p,_,rfl⟩:=hk;cases p
 . exact vP.1 "if" (by simp [ai])
 . exact vP.1 "else" (by simp [ai])
 . exact vP.1 "while" (by simp [ai])
theorem v5:(PK.s .e≠PK.s .i)/\(PK.s .w≠PK.s .i)/\(PK.s .i≠PK.s .w)/\(PK.s .e≠PK.s .w):=by decide +kernel
theorem sZ:∀ P:List PK,(PK.s .w∈jN P)↔kA P=true
 | []=>by simp [jN,kA]
 | k::P=>by
  have ih:=sZ P;rw [fG];simp only [Pp,OW,ih];cases k
  . simp only [kA];exact ⟨λ h=>h.elim id λ z=>absurd z.symm v5.2.2.1,.inl⟩
  . simp only [kA];exact ⟨λ h=>h.elim id λ z=>absurd z.symm v5.2.2.2,.inl⟩
  . simp [kA]
structure sV (S:ah) (rows:List W) (P:List PK):Prop where
 r:S[0]?=some (.lst rows)
 p:S[1]?=some (.lst ((jN P).map W.str))
theorem sV.app {S:ah} {rows:List W} {P:List PK} (h:sV S rows P) (X:ah):sV (S++X) rows P:=⟨gL h.r,gL h.p⟩
theorem sV.set {S:ah} {rows:List W} {P Q:List PK} (h:sV S rows P):sV (S.set 1 (.lst ((jN Q).map W.str))) rows Q:=⟨by rw [pK h.p,Oq (by decide)];exact h.r,by rw [pK h.p,Oo rfl]⟩
noncomputable abbrev LZ:DS->ah->SM Bool:=fX (aa (aw p7 (ax 0) !7)) (i7 p7 (er (aa (ae 2))) (aa !5))
noncomputable abbrev LG:DS->ah->SM Bool:=fX (aa (aw bh (ax 0) !7)) (iK false (AC (aa (ae 2)) (aa (iJ cU !1))) (aa (dt (dD #[!"if"]))))
noncomputable abbrev Na:DS->ah->SM Bool:=fX (aa (jw (aw bh (ax 0) !8) (aw bh (ax 0) !9))) (iK true (aa (ae 2)) (aa (dt (dD aj))))
noncomputable abbrev MZ:DS->ah->SM Bool:=fX (aa (jw (aw bh (ax 0) !10) (aw bh (ax 0) !11))) (B8 false (aa !"while") (aa (ae 2)))
noncomputable def Jj (S:ah) (rows:List W) (P:List PK) (kind n:Int) (nms:W):Prop:=∃ s P1 S1,ii [.int kind,.int n,.ref 1,nms] S=some (.ok s,S1)/\sV S1 rows P1/\P1.length<=5/\∀ ts,sv P1 ts->sv P (s::ts)
section
variable {x0 x1:Str} (h0:pk x0) (h1:pk x1)
include h0 h1
theorem xT {S:ah} {rows:List W} {P:List PK} (hS:sV S rows P) (hP:P.length<=5) (kind n:Int) (hk:0<=kind/\kind<16):Jj S rows P kind n (.list [.str x0,.str x1]):=by
 let δ:DS:=[.val (.int kind),.val (.int n),.val (.ref 1),.val (.list [.str x0,.str x1])]
 have z1:=sz 1 (by decide);have z0:=sz 0 (by decide);have lt:∀ k:Int,aw p7 (ax 0) (dC (.int k)) δ=some (decide (kind<k)):=λ k=>rfl;have eq:∀ k:Int,aw bh (ax 0) (dC (.int k)) δ=some (decide (kind=k)):=λ k=>rfl;have o2:∀ a b:Int,jw (aw bh (ax 0) (dC (.int a))) (aw bh (ax 0) (dC (.int b))) δ=some (decide (kind=a∨kind=b)):=λ a b=>by
  unfold jw;rw [eq a,eq b];by_cases h:kind=a <;> simp [h]
 have ow1:dt (dD #[!"if"]) δ=some (.list ([PK.s .i].map W.str)):=by simp! [uD,Oo z1];rfl
 have ow0:dt (dD aj) δ=some (.list (([]:List Str).map W.str)):=by simp! [uD,Oo z0,map_nil]
 have okI:∀ k∈[PK.s .i],strOk k=true:=λ k hk=>by rw [OW.mp hk];exact vP.1 "if" (by simp [ai])
 have lp:((jN P).map W.str).length=P.length:=by simp [jN]
 have v2:∀ S':ah,aa (ae 2) δ S'=some (.ok (.ref 1),S'):=λ _=>rfl;obtain ⟨t,et,gt,ot⟩:=vI h0 h1 n;have tellF:∀ {S':ah},sV S' rows P->aq (aW (bv #[!"tell",bc gc #[ae 1,ae 3]])) δ S'=some (.rt (.tuple [sW "tell", tw t]),S'):=λ _=>bu (aJ (pJ rfl (mZ (ds:=[.int n,.list [.str x0,.str x1]]) rfl et)));have tell:∀ {S':ah},sV S' rows P->ii [.int kind,.int n,.ref 1,.list [.str x0,.str x1]] S=some (.ok (.tuple [sW "tell", tw t]),S')->Jj S rows P kind n (.list [.str x0,.str x1]):=λ {S'} hS' e=>⟨_,P,S',e,hS',hP,λ ts h=>qM (Bd.tell t) _ (λ _=>rfl) (λ r hr=>⟨⟨gt,ot⟩,hr⟩) (λ _=>rfl) h⟩
 by_cases e1:kind<3
 . obtain ⟨t',et',gt',ot'⟩:=vI h0 h1 (n.fdiv 2);have rv:bv #[!"set",aA aH (ax 3) (aA cq (ax 1) !2),bc gc #[aA gW (ax 1) !2,ae 3]] δ=some (.tuple [sW "set", .str (nI x0 x1 n),tw t']):=A9 rfl (wu (k:=n) rfl rfl) (mZ (ds:=[.int (n.fdiv 2),.list [.str x0,.str x1]]) (fL (dO rfl rfl (iq n (by decide) (by decide))) rfl) et');refine ⟨.tuple [sW "set", .str (nI x0 x1 n),tw t'],P,S,(ao rfl).trans ((Om aY (?_:_=some (.rt (.tuple [sW "set", .str (nI x0 x1 n),tw t']),S))).trans rfl),hS,hP,λ ts h=>qM (Bd.set (nI x0 x1 n) t') _ (λ _=>rfl) (λ r hr=>⟨⟨gt',ot',ye h0 h1 n⟩,hr⟩) (λ _=>rfl) h⟩;exact bw (bu (aE (b:=true) ((lt 3).trans (by rw [Op e1])) (aJ rv)))
 have s1:∀ {f:DS->Option dR} {g:DS->ah->SO},au (aq (bO (aw p7 (ax 0) !3) f az)) g δ S=g δ S:=λ {f g}=>ag (aG (aE (b:=false) ((lt 3).trans (by rw [Oi e1])) rfl));have ll:i7 p7 (er (aa (ae 2))) (aa !5) δ S=some (.ok (decide ((P.length:Int)<5)),S):=by
  have:=uO (g:=p7) (fi:=aa !5) (pA (v2 S) hS.p) (y:=.int 5) rfl (b:=decide ((((jN P).map W.str).length:Int)<5)) rfl;rw [this,lp]
 by_cases e2:kind<7/\P.length<5
 . have T2:LZ δ S=some (.ok true,S):=ge (av ((lt 7).trans (by rw [Op e2.1]))) (by rw [ll,Op (by omega)]);obtain ⟨t',et',gt'⟩:=yv h0 h1 n;have four:dt (dD #[!"if",!"if",!"while",!"while"]) δ=some (.list [sW "if", sW "if", sW "while", sW "while"]):=by
    have z4:=sz 4 (by decide);simp! [uD,Oo z4];rfl
   have go:∀ k:PK,jg [sW "if", sW "if", sW "while", sW "while"] (kind-3)=some (.str k.s)->(∀ ts,sv (k::P) ts->sv P (.tuple [.str k.s,tw t']::ts))->Jj S rows P kind n (.list [.str x0,.str x1]):=λ k ha hd=>by
    have a:=oW (fo:=aa (ae 2)) (fv:=aa (aA aH (dt (dD #[!"if",!"if",!"while",!"while"])) (aA gSub' (ax 0) !3))) (δ:=δ) (S:=S) (v2 S) hS.p (av (wy four (dO rfl rfl rfl) ha)) hS.p (by rw [lp];omega);rw [show (jN P).map W.str++[.str k.s]=(jN (k::P)).map W.str by rw [fG];simp] at a;have hS1:sV (S.set 1 (.lst ((jN (k::P)).map W.str))) rows (k::P):=hS.set;have lst:sIx (aa (ae 2)) (aa (iJ cU !1)) δ (S.set 1 (.lst ((jN (k::P)).map W.str)))=some (.ok (.str k.s),S.set 1 (.lst ((jN (k::P)).map W.str))):=K8 (l:=1) (i := -1) (es:=(jN P).map W.str++[.str k.s]) rfl rfl (by rw [hS1.p,fG];simp) (C7 _ _);have z2:=sz 2 (by decide);have tp:y8 (aD (sIx (aa (ae 2)) (aa (iJ cU !1))) (aD (aa (bc gl #[ae 1,ae 3])) ca)) δ (S.set 1 (.lst ((jN (k::P)).map W.str)))=some (.ok (.tuple [.str k.s,tw t']),S.set 1 (.lst ((jN (k::P)).map W.str))):=by
     have:=aK lst (aK (f:=aa (bc gl #[ae 1,ae 3])) (av (mZ (ds:=[.int n,.list [.str x0,.str x1]]) rfl et')) (g:=ca) (S2:=S.set 1 (.lst ((jN (k::P)).map W.str))) (ds:=[]) rfl);simp only [y8,ak,this,Ou,OU,Oo z2]
    refine ⟨_,k::P,_,(ao rfl).trans ((Om aY (s1.trans (bw ((cT T2).trans ((ag a).trans (bY tp)))))).trans rfl),hS1,by simp;omega,hd⟩
   have k4:kind=3∨kind=4∨kind=5∨kind=6:=by omega
   rcases k4 with rfl | rfl | rfl | rfl
   . exact go .i rfl λ ts h=>zl gt' e2.2 h
   . exact go .i rfl λ ts h=>zl gt' e2.2 h
   . exact go .w rfl λ ts h=>vF gt' e2.2 h
   . exact go .w rfl λ ts h=>vF gt' e2.2 h
 have T2:LZ δ S=some (.ok false,S):=by
  by_cases h7:kind<7
  . exact ge (av ((lt 7).trans (by rw [Op h7]))) (by rw [ll,Oi (by omega)])
  . exact gT (av ((lt 7).trans (by rw [Oi h7])))
 have s2:∀ {f g:DS->ah->SO},au (bj LZ f (aq az)) g δ S=g δ S:=λ {f g}=>ag ((bF T2).trans rfl);have n4:∀ {S':ah} {f g:DS->ah->SO},¬ (kind=8∨kind=9)->au (bj Na f (aq az)) g δ S'=g δ S':=λ h=>ag ((bF (gT (av ((o2 8 9).trans (by rw [Oi h]))))).trans rfl);have n5:∀ {S':ah} {f g:DS->ah->SO},¬ (kind=10∨kind=11)->au (bj MZ f (aq az)) g δ S'=g δ S':=λ h=>ag ((bF (gT (av ((o2 10 11).trans (by rw [Oi h]))))).trans rfl);have n3:∀ {S':ah} {f g:DS->ah->SO},kind≠7->au (bj LG f (aq az)) g δ S'=g δ S':=λ h=>ag ((bF (gT (av ((eq 7).trans (by rw [Oi h]))))).trans rfl);have n6:∀ {S':ah} {f:DS->Option dR} {g:DS->ah->SO},kind≠12->au (aq (bO (kC (aw bh (ax 0) !12) (aw bh (aA cq (ax 1) !4) !0)) f az)) g δ S'=g δ S':=λ h=>ag (aG (aE (b:=false) (JI ((eq 12).trans (by rw [Oi h]))) rfl));by_cases e7:kind=7
 . subst e7;have sl:∀ {c:List W},g7 ((jN P).map W.str) (some (-1)) none=c->AC (aa (ae 2)) (aa (iJ cU !1)) δ S=some (.ok (.ref S.length),S++[.lst c]):=λ {c} hc=>by
    have a1:aa (iJ cU !1) δ S=some (.ok (.int (-1)),S):=rfl;have a2:wg (.int (-1))=some (-1:Int):=rfl;simp only [AC,ak,v2,a1,dY hS.p,a2,Oj,hc]
   have atN':∀ c:List W,(S++[Ob.lst c])[S.length]?=some (.lst c):=λ c=>by rw [OG (Ol _)];simp
   have qO:∀ {ks:List Str},g7 ((jN P).map W.str) (some (-1)) none=ks.map W.str->(∀ k∈ks,strOk k=true)->LG δ S=some (.ok (decide (ks=[PK.s .i])),S++[.lst (ks.map W.str)]):=λ {ks} hc hk=>ge (av ((eq 7).trans (by rw [Op rfl]))) (mn (sl hc) (av ow1) (tz false (atN' _) hk okI));have no:∀ {ks:List Str},LG δ S=some (.ok false,S++[.lst (ks.map W.str)])->Jj S rows P 7 n (.list [.str x0,.str x1]):=λ {ks} h=>tell (hS.app _) ((ao rfl).trans ((Om aY (s1.trans (s2.trans ((ag ((bF h).trans rfl)).trans ((n4 (by decide)).trans ((n5 (by decide)).trans ((n6 (by decide)).trans (tellF (hS.app _))))))))).trans rfl));cases P with
   | nil=>
    have:=qO (ks:=[]) EB (λ k hk=>absurd hk Ox);exact no this
   | cons k P=>
    have cu:g7 ((jN (k::P)).map W.str) (some (-1)) none=[k.s].map W.str:=by
     rw [fG,Pr];exact F5 _ _
    have T:=qO cu (λ j hj=>zF (k::P) j (by rw [fG];simp at hj ⊢;exact .inr hj));cases k with
    | i=>
     rw [Op rfl] at T;simp only [Ou] at hP;have hS1:=hS.app [.lst ([PK.s .i].map W.str)];have se:=D4 (fo:=aa (ae 2)) (fi:=aa (iJ cU !1)) (fv:=aa !"else") (δ:=δ) (S:=S++[.lst ([PK.s .i].map W.str)]) (S1:=S++[.lst ([PK.s .i].map W.str)]) (S2:=S++[.lst ([PK.s .i].map W.str)]) (S3:=S++[.lst ([PK.s .i].map W.str)]) (d:=.str (PK.s .e)) (x:=.str (PK.s .i)) (n:=1) (es:=(jN P).map W.str) rfl rfl rfl (by rw [hS1.p,fG];simp);rw [show (jN P).map W.str++[.str (PK.s .e)]=(jN (.e::P)).map W.str by rw [fG];simp] at se;refine ⟨ub,.e::P,_,(ao rfl).trans ((Om aY (s1.trans (s2.trans (bw ((cT T).trans ((ag se).trans (bu (aJ (Hq rfl))))))))).trans rfl),hS1.set,by simp;omega,λ ts h=>Ai (by omega) h⟩
    | e=>
     rw [Oi (by simp [v5.1])] at T;exact no T
    | w=>
     rw [Oi (by simp [v5.2.1])] at T;exact no T
 by_cases e8:kind=8∨kind=9
 . have n12:kind≠12:=by omega
   have n10:¬ (kind=10∨kind=11):=by omega
   have T:Na δ S=some (.ok (!decide (jN P=[])),S):=ge (av ((o2 8 9).trans (by rw [Op e8]))) (mn (v2 S) (av ow0) (tz true hS.p (zF P) (λ k hk=>absurd hk Ox)));cases P with
   | nil=>
    rw [Op (show jN []=[] from rfl)] at T;exact tell hS ((ao rfl).trans ((Om aY (s1.trans (s2.trans ((n3 e7).trans ((ag ((bF T).trans rfl)).trans ((n5 n10).trans ((n6 n12).trans (tellF hS)))))))).trans rfl))
   | cons k P=>
    rw [Oi (by rw [fG];simp)] at T;simp only [Ou] at hP;have pp:=y7 (fo:=aa (ae 2)) (δ:=δ) (S:=S) (l:=1) (es:=(jN P).map W.str) (d:=.str k.s) rfl (by rw [hS.p,fG];simp);exact ⟨gf,P,_,(ao rfl).trans ((Om aY (s1.trans (s2.trans ((n3 e7).trans (bw ((cT T).trans ((ag (aU pp)).trans (bu (aJ (Hq rfl)))))))))).trans rfl),hS.set,by omega,λ ts h=>wG (by omega) h⟩
 by_cases e10:kind=10∨kind=11
 . have n12:kind≠12:=by omega
   have T:MZ δ S=some (.ok (decide (PK.s .w∈jN P)),S):=by
    refine ge (av ((o2 10 11).trans (by rw [Op e10]))) ?_;have a:aa (!"while") δ S=some (.ok (.str (PK.s .w)),S):=rfl;simp only [B8,ak,a,v2,Ek _ _ hS.p,Ot,jm];rfl
   by_cases hw:PK.s .w∈jN P
   . rw [Op hw] at T;have hw':=(sZ P).mp hw;have z2:=sz 2 (by decide);have two:dt (dD #[!"break",!"again"]) δ=some (.list [sW "break", sW "again"]):=by simp! [uD,Oo z2];rfl
     have go:∀ {a:String} (c:Bd->Bd),jg [sW "break", sW "again"] (kind-10)=some (sW a)->(∀ r,fl (c r)=.tuple [sW a]::fl r)->(∀ r,GB (kA P) r->GB (kA P) (c r))->(∀ r,cW (c r)=cW r)->Jj S rows P kind n (.list [.str x0,.str x1]):=λ {a} c ha c1 c2 c3=>by
      have rv:bv #[aA aH (dt (dD #[!"break",!"again"])) (aA gSub' (ax 0) !10)] δ=some (.tuple [sW a]):=Hq (wy two (dO rfl rfl rfl) ha);refine ⟨.tuple [sW a],P,S,(ao rfl).trans ((Om aY (?_:_=some (.rt (.tuple [sW a]),S))).trans rfl),hS,hP,λ ts h=>qM c _ c1 c2 c3 h⟩;refine s1.trans (s2.trans ((n3 e7).trans ((n4 e8).trans ?_)));exact bw ((cT T).trans (bu (aJ rv)))
     rcases e10 with rfl | rfl
     . exact go Bd.brk rfl (λ _=>rfl) (λ r hr=>⟨hw',hr⟩) (λ _=>rfl)
     . exact go Bd.agn rfl (λ _=>rfl) (λ r hr=>⟨hw',hr⟩) (λ _=>rfl)
   . rw [Oi hw] at T;exact tell hS ((ao rfl).trans ((Om aY (s1.trans (s2.trans ((n3 e7).trans ((n4 e8).trans ((ag ((bF T).trans rfl)).trans ((n6 n12).trans (tellF hS)))))))).trans rfl))
 by_cases e12:kind=12
 . have m4:aw bh (aA cq (ax 1) !4) (!0) δ=some (decide (n.fmod 4=0)):=AR (dO rfl rfl (cf n (by decide))) rfl rfl;have T:kC (aw bh (ax 0) !12) (aw bh (aA cq (ax 1) !4) !0) δ=some (decide (n.fmod 4=0)):=dA ((eq 12).trans (by rw [Op e12])) m4;by_cases h4:n.fmod 4=0
   . rw [Op h4] at T;refine ⟨.tuple [sW "stop"],P,S,(ao rfl).trans ((Om aY (?_:_=some (.rt (.tuple [sW "stop"]),S))).trans rfl),hS,hP,λ ts h=>qM Bd.stp _ (λ _=>rfl) (λ r hr=>hr) (λ _=>rfl) h⟩;refine s1.trans (s2.trans ((n3 e7).trans ((n4 e8).trans ((n5 e10).trans ?_))));exact bw (bu (aE (b:=true) T (aJ (Hq rfl))))
   . rw [Oi h4] at T;exact tell hS ((ao rfl).trans ((Om aY (s1.trans (s2.trans ((n3 e7).trans ((n4 e8).trans ((n5 e10).trans ((ag (aG (aE (b:=false) T rfl))).trans (tellF hS)))))))).trans rfl))
 exact tell hS ((ao rfl).trans ((Om aY (s1.trans (s2.trans ((n3 e7).trans ((n4 e8).trans ((n5 e10).trans ((n6 e12).trans (tellF hS)))))))).trans rfl))
end
theorem GR {c:W->W->Option W} {fa fb:DS->ah->SM W} {δ:DS} {S S1 S2:ah} {x y z:W} (h1:fa δ S=some (.ok x,S1)) (h2:fb δ S1=some (.ok y,S2)) (h3:c x y=some z):CG c fa fb δ S=some (.ok z,S2):=by simp only [CG,ak,h1,h2,h3,jm,Ot]
section
variable {x0 x1:Str} (h0:pk x0) (h1:pk x1)
include h0 h1
theorem qB (cells:W):∀ (cs:List Int) (S:ah) (rows:List W) (P:List PK) (s4 s5:Sl),sV S rows P->P.length<=5->rows.length+cs.length<7000->∃ S' new Pf t4 t5,gh (ar 4) ip (cs.map .int) [.val cells,.val (.list [.str x0,.str x1]),.val (.ref 0),.val (.ref 1),s4,s5] S=some (.nx [.val cells,.val (.list [.str x0,.str x1]),.val (.ref 0),.val (.ref 1),t4,t5],S')/\sV S' (rows++new) Pf/\Pf.length<=5/\new.length=cs.length/\sv P (new++List.replicate Pf.length gf)
 | [],S,rows,P,s4,s5,hS,hP,hl=>⟨S,[],P,s4,s5,rfl,by rw [Oz];exact hS,hP,rfl,sQ hP⟩
 | c::cs,S,rows,P,s4,s5,hS,hP,hl=>by
  simp only [Ou] at hl;have rk:=bN (j2 c (rows.length+200)) (j:=16) (by decide);obtain ⟨s,P1,S1,e,hS1,hP1,hd⟩:=xT h0 h1 hS hP ((j2 c (rows.length+200)).fmod 16) (j2 c rows.length) rk;let δ (a b:Sl):DS:=[.val cells,.val (.list [.str x0,.str x1]),.val (.ref 0),.val (.ref 1),a,b]
  have ln:∀ (a b:Sl),er (aa (ae 2)) (δ a b) S=some (.ok (.int rows.length),S):=λ a b=>pA rfl hS.r;have m1:=lq c (rows.length+200);have m2:=lq c rows.length;have hS2:sV (S1.set 0 (.lst (rows++[s]))) (rows++[s]) P1:=⟨by rw [pK hS1.r,Oo rfl],by rw [pK hS1.r,Oq (by decide)];exact hS1.p⟩
  have B:ip (δ (.val (.int c)) s5) S=some (.nx (δ (.val (.int c)) (.val (.int ((j2 c (rows.length+200)).fmod 16)))),S1.set 0 (.lst (rows++[s]))):=by
   refine (ag (δ':=δ (.val (.int c)) (.val (.int ((j2 c (rows.length+200)).fmod 16)))) (bC (GR (oJ (ds:=[.int c,.int (rows.length+200)]) (aK rfl (aK (GR (ln _ _) rfl rfl) rfl)) m1) rfl (cf _ (by decide))) rfl)).trans ?_;exact oW (l:=0) rfl hS.r (dq (ds:=[.int ((j2 c (rows.length+200)).fmod 16),.int (j2 c rows.length),.ref 1,.list [.str x0,.str x1]]) (aK rfl (aK (oJ (ds:=[.int c,.int rows.length]) (aK rfl (aK (ln _ _) rfl)) m2) rfl)) e) hS1.r (by omega)
  obtain ⟨S',new,Pf,t4,t5,E,a1,a2,a3,a4⟩:=qB cells cs (S1.set 0 (.lst (rows++[s]))) (rows++[s]) P1 (.val (.int c)) (.val (.int ((j2 c (rows.length+200)).fmod 16))) hS2 hP1 (by simp;omega);exact ⟨S',s::new,Pf,t4,t5,(kD (δ2:=δ (.val (.int c)) s5) rfl B).trans E,by simpa using a1,a2,by simp [a3],by simpa using hd _ a4⟩
theorem zQ (cs:List Int) (hl:cs.length<=100):∃ B,h9 [.list (cs.map .int),.list [.str x0,.str x1]]=some (.list (fM B))/\GB false B/\cW B<=5/\B.len<=200:=by
 have z0:=sz 0 (by decide);have z1:=sz 1 (by decide);let S0:ah:=[.lst [uC],.lst []]
 have hS:sV S0 [uC] []:=⟨rfl,rfl⟩
 obtain ⟨S',new,Pf,t4,t5,E,a1,a2,a3,r,a4,g,d⟩:=qB h0 h1 (.list (cs.map .int)) cs S0 [uC] [] .no .no hS (by simp) (by simp;omega);have ln:r.len=new.length+Pf.length:=by rw [<-cC,<-a4];simp
 refine ⟨r,?_,g,d,by omega⟩;let δ:DS:=[.val (.list (cs.map .int)),.val (.list [.str x0,.str x1]),.val (.ref 0),.val (.ref 1),t4,t5]
 have okR:AO (fM r):=.cons (Ao (by simp [ai])) ((hU r false g).app (.cons (Ao (by simp [ai])) ⟨rfl,O1 _⟩));have okC:=kT (ds:=cs.map .int) λ d hd=>let ⟨x,_,e⟩:=PM.mp hd;⟨x,e.symm⟩;have rr:[uC]++new++(List.replicate (Pf.length+1) [gf]).flatten=fM r:=by
  have f:∀ m:Nat,(List.replicate m [gf]).flatten=List.replicate m gf:=λ m=>by
   induction m with
   | zero=>rfl
   | succ m ih=>rw [OR,Pc,ih,OR];rfl
  rw [f];unfold fM;rw [<-a4,List.replicate_succ'];simp
 let S2:ah:=S'++[.lst [gf]];let S3:ah:=S2++[.lst (List.replicate (Pf.length+1) [gf]).flatten];let S4:ah:=S3++[.lst (fM r)];refine vO (a:=S3.length) (S:=S4) ?_ (by show (S3++_)[S3.length]?=_;rw [OG (Ol _)];simp) ?_ okR.1 (by have:=okR.2;omega)
 . refine (ao rfl).trans ((Om aY (?_:_=some (.rt (.ref S3.length),S4))).trans rfl);have l1:bS (aa #[bv #[!"def"]]) [.val (.list (cs.map .int)),.val (.list [.str x0,.str x1]),.no,.no,.no,.no] []=some (.ok (.ref 0),[.lst [uC]]):=by
    have:aa #[bv #[!"def"]] [.val (.list (cs.map .int)),.val (.list [.str x0,.str x1]),.no,.no,.no,.no] []=some (.ok [uC],[]):=av (fL (Hq rfl) rfl);simp only [bS,ak,this,Pg,Oo z1];rfl
   refine (ag (δ':=[.val (.list (cs.map .int)),.val (.list [.str x0,.str x1]),.val (.ref 0),.no,.no,.no]) (bC l1 rfl)).trans ?_;refine (ag (δ':=[.val (.list (cs.map .int)),.val (.list [.str x0,.str x1]),.val (.ref 0),.val (.ref 1),.no,.no]) (S':=S0) (bC (d:=.ref 1) (by rw [AJ];rfl) rfl)).trans ?_;refine (ag ((kM (S1:=S0) (ds:=cs.map .int) rfl).trans E)).trans ?_;have l2:bS (aa #[bv #[!"end"]]) δ S'=some (.ok (.ref S'.length),S2):=by
    have:aa #[bv #[!"end"]] δ S'=some (.ok [gf],S'):=av (fL (Hq rfl) rfl);simp only [bS,ak,this,Pg,Oo z1];rfl
   have hS2:sV S2 ([uC]++new) Pf:=a1.app _;have hS3:sV S3 ([uC]++new) Pf:=hS2.app _;have l3:CG bQ (er (aa (ae 3))) (aa !1) δ S2=some (.ok (.int ((Pf.length+1:Nat):Int)),S2):=by
    refine GR (pA (l:=1) rfl hS2.p) rfl ?_;show some (W.int ((((jN Pf).map W.str).length:Int)+1))=_;simp [jN]
   have rp:mv (bS (aa #[bv #[!"end"]])) (CG bQ (er (aa (ae 3))) (aa !1)) δ S'=some (.ok (.ref S2.length),S3):=by
    have c:dI (.ref S'.length) S2=some (S'.length,[gf]):=dY (by show (S'++_)[S'.length]?=_;rw [OG (Ol _)];simp);have d':wg (.int ((Pf.length+1:Nat):Int))=some ((Pf.length+1:Nat):Int):=rfl;have e:(decide (0<=((Pf.length+1:Nat):Int))&&decide (((Pf.length+1:Nat):Int)<=1000)&&decide (([gf]:List W).length<=1000))=true:=by simp;omega
    simp only [mv,ak,l2,l3,c,d',Oj,e,OS,Int.toNat_natCast];rfl
   have ad:wz (aa (ae 2)) (mv (bS (aa #[bv #[!"end"]])) (CG bQ (er (aa (ae 3))) (aa !1))) δ S'=some (.ok (.ref S3.length),S4):=by
    have b0:aa (ae 2) δ S'=some (.ok (.ref 0),S'):=rfl;have c1:dI (.ref 0) S3=some (0,[uC]++new):=dY hS3.r;have c2:dI (.ref S2.length) S3=some (S2.length,(List.replicate (Pf.length+1) [gf]).flatten):=dY (by show (S2++_)[S2.length]?=_;rw [OG (Ol _)];simp);have sz':([uC]++new).length+((List.replicate (Pf.length+1) [gf]).flatten).length<=9000:=by
     have:=Om List.length rr;rw [OV,jK] at this;omega
    simp only [wz,ak,b0,rp,c1,c2,Oj,Oo sz',rr];rfl
   exact bY ad
 . have hx:=h0.ok;have hy:=h1.ok;show (iM (.list (cs.map .int))&&(iM (.list [.str x0,.str x1])&&true))=true;simp [iM,cK,okC.1,hx,hy]
end
structure NV (a:PyData) (D w:Nat):Prop where
 sh:a.showable=true
 ly:a.canLay0=true
 is:a.intsShort 13=true
 d:a.depth<=D
 w:a.weight<=w
structure Nm (a:List PyData) (D w:Nat):Prop where
 sh:PyData.showableAll a=true
 ly:canLayAll0 a=true
 is:PyData.intsShortAll 13 a=true
 d:PyData.depthAll a<=D
 w:PyData.weightAll a<=w
noncomputable def RO (x:W) (D w:Nat):Prop:=∃ a,x.py=some a/\NV a D w
noncomputable def RA (x:List W) (D w:Nat):Prop:=∃ a,W.pys x=some a/\Nm a D w
theorem RO.mono {x:W} {D w D' w':Nat} (h:RO x D w) (h1:D<=D') (h2:w<=w'):RO x D' w':=let ⟨a,e,r⟩:=h;⟨a,e,r.sh,r.ly,r.is,OY r.d h1,OY r.w h2⟩
theorem Hi {n:Nat} (h:n<10^12):n.log2<40:=by
 by_cases h0:n=0
 . subst h0;decide
 . rw [Nat.log2_lt h0];have:(10:Nat)^12<2^40:=by decide
   omega
theorem RO.int {i:Int} (h:i.natAbs<10^12):RO (.int i) 0 41:=by
 have hl:=Hi h;refine ⟨.int i,rfl,?_,rfl,?_,Ol _,?_⟩
 . simp only [PyData.showable,ON];omega
 . simp only [PyData.intsShort,ON];exact PyData.shown_int_le h
 . simp only [PyData.weight];split <;> omega
theorem RO.str {x:Str} {s:Nat} (h:x.cps.size<=s) (h':strOk x=true):RO (.str x) 0 s:=⟨.str x,rfl,rfl,h',rfl,Ol _,h⟩
theorem RA.nil (D:Nat):RA [] D 0:=⟨[],rfl,rfl,rfl,rfl,O1 _,Ol _⟩
theorem RA.cons {x:W} {xs:List W} {D w w':Nat} (h:RO x D w) (h':RA xs D w'):RA (x::xs) D (w+1+w'):=by
 obtain ⟨a,e,r⟩:=h;obtain ⟨as,es,rs⟩:=h';refine ⟨a::as,by simp only [W.pys,e,es,Oj,Ot],?_,?_,?_,?_,?_⟩
 . simp only [PyData.showableAll,r.sh,rs.sh,Bool.and_self]
 . simp only [canLayAll0,r.ly,rs.ly,Bool.and_self]
 . simp only [PyData.intsShortAll,r.is,rs.is,Bool.and_self]
 . simp only [PyData.depthAll];exact Nat.max_le.mpr ⟨r.d,rs.d⟩
 . simp only [PyData.weightAll];have:=r.w;have:=rs.w;omega
theorem RA.tup {xs:List W} {D w:Nat} (h:RA xs D w):RO (.tuple xs) (D+1) w:=by
 obtain ⟨a,e,r⟩:=h;exact ⟨.tuple a,by simp only [W.py,e,Ot],r.sh,r.ly,r.is,Nat.succ_le_succ r.d,r.w⟩
theorem RA.lst {xs:List W} {D w:Nat} (h:RA xs D w):RO (.list xs) (D+1) w:=by
 obtain ⟨a,e,r⟩:=h;exact ⟨.list a,by simp only [W.py,e,Ot],r.sh,r.ly,r.is,Nat.succ_le_succ r.d,r.w⟩
theorem RO.none:RO .none 0 0:=⟨.none,rfl,rfl,rfl,rfl,Ol _,Ol _⟩
theorem wS:(∀ a∈ai,(Str.ofString a).cps.size<=5)/\(Str.ofString "num").cps.size<=5/\(Str.ofString "name").cps.size<=5/\(∀ k,(jt k).cps.size<=5)/\(Str.ofString "main").cps.size<=5/\strOk (Str.ofString "main")=true:=by decide +kernel
theorem JD {v:Int} (h:Rg v):v.natAbs<10^12:=by
 have e:(10:Nat)^12=1000000000000:=by decide
 rw [e];have:=h.1;have:=h.2;omega
theorem nv {t:Tr} (n:nb t) (h:jl t=0) (sh:∀ y,x5 y t->pk y):RO (tw t) 1 49:=by
 cases t with
 | num v=>exact (RA.cons (RO.str wS.2.1 vP.2.1) (RA.cons (RO.int (JD n)) (RA.nil _))).tup.mono (Ol _) (by omega)
 | nam x=>exact (RA.cons (RO.str wS.2.2.1 vP.2.2.1) (RA.cons (RO.str (sh x rfl).1 (sh x rfl).ok) (RA.nil _))).tup.mono (Ol _) (by omega)
 | sig k=>exact n.elim
 | box t=>exact n.elim
 | op k a b=>simp [jl] at h
theorem lJ {t:Tr} (g:GX t):RO (tw t) 2 120:=by
 obtain ⟨n,d,sh⟩:=g;cases t with
 | num v=>exact (nv (t:=.num v) n rfl sh).mono (by omega) (by omega)
 | nam x=>exact (nv (t:=.nam x) n rfl sh).mono (by omega) (by omega)
 | sig k=>exact n.elim
 | box t=>exact n.elim
 | op k a b=>
  simp only [jl] at d;have ra:=nv n.2.1 (by omega) λ y hy=>sh y (.inl hy);have rb:=nv n.2.2 (by omega) λ y hy=>sh y (.inr hy);exact (RA.cons (D:=1) ((RO.str (wS.2.2.2.1 k) (vP.2.2.2 k)).mono (by omega) (Ol _)) (RA.cons ra (RA.cons rb (RA.nil _)))).tup.mono (Ol _) (by omega)
theorem sH {a:String} (ha:a∈ai) (D:Nat):RO (sW a) D 5:=(RO.str (wS.1 a ha) (vP.1 a ha)).mono (O1 _) (Ol _)
theorem Li {p:Nat} (h:p<=1000):((p:Int)+1).natAbs<10^12:=by
 have e:(10:Nat)^12=1000000000000:=by decide
 rw [e];omega
theorem mw {p:Nat} (h:p<=1000) (D:Nat):RO (bL p) D 41:=(RO.int (i:=(p:Int)+1) (Li h)).mono (O1 _) (Ol _)
theorem RA.mono {x:List W} {D w D' w':Nat} (h:RA x D w) (h1:D<=D') (h2:w<=w'):RA x D' w':=let ⟨a,e,r⟩:=h;⟨a,e,r.sh,r.ly,r.is,OY r.d h1,OY r.w h2⟩
theorem eO:∀ (r:Bd) (w:Bool) (p:Nat),GB w r->p+r.len<=1000->RA (bW p r) (2*cW r+3) (200*r.len)
 | .nil,_,_,_,_=>RA.nil _
 | .set x t r,w,p,g,h=>by
  simp only [Bd.len] at h;have ih:=eO r w (p+1) g.2 (by omega);have ro:=(RA.cons (D:=2) (sH (a := "set") (by simp [ai]) 2) (RA.cons (mw (p:=p) (by omega) 2) (RA.cons ((RO.str g.1.2.2.1 g.1.2.2.ok).mono (O1 _) (Ol _)) (RA.cons (lJ g.1.1) (RA.nil _))))).tup;exact (RA.cons (ro.mono (by omega) (Ol _)) ih).mono (by simp only [cW];omega) (by simp only [Bd.len];omega)
 | .tell t r,w,p,g,h=>by
  simp only [Bd.len] at h;have ih:=eO r w (p+1) g.2 (by omega);have ro:=(RA.cons (D:=2) (sH (a := "tell") (by simp [ai]) 2) (RA.cons (mw (p:=p) (by omega) 2) (RA.cons (lJ g.1.1) (RA.nil _)))).tup;exact (RA.cons (ro.mono (by omega) (Ol _)) ih).mono (by simp only [cW];omega) (by simp only [Bd.len];omega)
 | .brk r,w,p,g,h=>by
  simp only [Bd.len] at h;have ih:=eO r w (p+1) g.2 (by omega);have ro:=(RA.cons (D:=2) (sH (a := "break") (by simp [ai]) 2) (RA.cons (mw (p:=p) (by omega) 2) (RA.nil _))).tup;exact (RA.cons (ro.mono (by omega) (Ol _)) ih).mono (by simp only [cW];omega) (by simp only [Bd.len];omega)
 | .agn r,w,p,g,h=>by
  simp only [Bd.len] at h;have ih:=eO r w (p+1) g.2 (by omega);have ro:=(RA.cons (D:=2) (sH (a := "again") (by simp [ai]) 2) (RA.cons (mw (p:=p) (by omega) 2) (RA.nil _))).tup;exact (RA.cons (ro.mono (by omega) (Ol _)) ih).mono (by simp only [cW];omega) (by simp only [Bd.len];omega)
 | .stp r,w,p,g,h=>by
  simp only [Bd.len] at h;have ih:=eO r w (p+1) g (by omega);have ro:=(RA.cons (D:=2) (sH (a := "stop") (by simp [ai]) 2) (RA.cons (mw (p:=p) (by omega) 2) (RA.nil _))).tup;exact (RA.cons (ro.mono (by omega) (Ol _)) ih).mono (by simp only [cW];omega) (by simp only [Bd.len];omega)
 | .ifs t y r,w,p,g,h=>by
  simp only [Bd.len] at h;have iy:=(eO y w (p+1) g.2.1 (by omega)).lst;have ih:=eO r w (p+2+y.len) g.2.2 (by omega);let D:=2*cW y+4;have ro:=(RA.cons (D:=D) (sH (a := "if") (by simp [ai]) D) (RA.cons (mw (p:=p) (by omega) D) (RA.cons ((lJ g.1).mono (by show 2<=2*cW y+4;omega) (Ol _)) (RA.cons iy (RA.cons (RO.none.mono (O1 _) (Ol _)) (RA.nil _)))))).tup;have m:2*cW (.ifs t y r)+3 ≥ D+1/\2*cW (.ifs t y r)+3 ≥ 2*cW r+3:=by simp only [cW,D];omega
  exact (RA.cons (ro.mono m.1 (Ol _)) (ih.mono m.2 (Ol _))).mono (Ol _) (by simp only [Bd.len];omega)
 | .ife t y n r,w,p,g,h=>by
  simp only [Bd.len] at h;have iy:=(eO y w (p+1) g.2.1 (by omega)).lst;have im:=(eO n w (p+2+y.len) g.2.2.1 (by omega)).lst;have ih:=eO r w (p+3+y.len+n.len) g.2.2.2 (by omega);let D:=max (2*cW y+4) (2*cW n+4);have ro:=(RA.cons (D:=D) (sH (a := "if") (by simp [ai]) D) (RA.cons (mw (p:=p) (by omega) D) (RA.cons ((lJ g.1).mono (by show 2<=max (2*cW y+4) (2*cW n+4);omega) (Ol _)) (RA.cons (iy.mono (Nat.le_max_left _ _) (Ol _)) (RA.cons (im.mono (Nat.le_max_right _ _) (Ol _)) (RA.nil _)))))).tup;have m:2*cW (.ife t y n r)+3 ≥ D+1/\2*cW (.ife t y n r)+3 ≥ 2*cW r+3:=by simp only [cW,D];omega
  exact (RA.cons (ro.mono m.1 (Ol _)) (ih.mono m.2 (Ol _))).mono (Ol _) (by simp only [Bd.len];omega)
 | .whl t y r,w,p,g,h=>by
  simp only [Bd.len] at h;have iy:=(eO y true (p+1) g.2.1 (by omega)).lst;have ih:=eO r w (p+2+y.len) g.2.2 (by omega);let D:=2*cW y+4;have ro:=(RA.cons (D:=D) (sH (a := "while") (by simp [ai]) D) (RA.cons (mw (p:=p) (by omega) D) (RA.cons ((lJ g.1).mono (by show 2<=2*cW y+4;omega) (Ol _)) (RA.cons iy (RA.nil _))))).tup;have m:2*cW (.whl t y r)+3 ≥ D+1/\2*cW (.whl t y r)+3 ≥ 2*cW r+3:=by simp only [cW,D];omega
  exact (RA.cons (ro.mono m.1 (Ol _)) (ih.mono m.2 (Ol _))).mono (Ol _) (by simp only [Bd.len];omega)
theorem ux {B:Bd} (g:GB false B) (hd:cW B<=5) (hl:B.len<=200) {k:Nat} (hk:k<=1000):∃ s,y0 (.list [kF (bW 1 B) (.int (k:Int))])=some (.str s):=by
 have e:(10:Nat)^12=1000000000000:=by decide
 have b:=((eO B false 1 g (by omega)).mono (D':=13) (by omega) (Ol _)).lst;have z:∀ {x:W} {w:Nat},RO x 0 w->RO x 14 w:=λ h=>h.mono (O1 _) (Ol _);have R:RO (.list [kF (bW 1 B) (.int (k:Int))]) 16 _:=(RA.cons (RA.cons (D:=14) (z (RO.str wS.2.2.2.2.1 wS.2.2.2.2.2)) (RA.cons ((RA.nil 13).lst) (RA.cons b (RA.cons (z (RO.int (by rw [e];omega))) (RA.cons (z (RO.int (by rw [e];omega))) (RA.nil _)))))).tup (RA.nil _)).lst;obtain ⟨a,ea,r⟩:=R;have rd:=r.d;have rw':=r.w;have e20:(2:Nat)^20=1048576:=by decide
 have ly:PyData.layable0 a=true:=by
  simp only [PyData.layable0,OD,ON];exact ⟨⟨r.ly,by omega⟩,by rw [e20];omega⟩
 have ok:kz a=true:=by
  simp only [kz,OD,ON,Bool.not_eq_true'];exact ⟨⟨⟨r.sh,PyData.hasDict_of_canLay a r.ly⟩,by omega⟩,PyData.shown_fits_of_layable0 (by decide) (by decide) ly r.is⟩
 refine ⟨a.shown,?_⟩;unfold y0;rw [ea];simp only [Oj,Oo ok]
theorem vJ {f:DS->Option (List W)} {δ:DS} {l:List W} (h:f δ=some l) (hl:l.length<=9000):dt (dD f) δ=some (.list l):=by
 have z:=sz _ hl;simp only [dt,dD,h,Oj,Oo z,Ot]
theorem yk (ns:List Int) (_h:ns.length<=63):∃ S,yM [.list (ns.map .int)] []=some (.ok (.bool true),S):=by
 have k0:bA [.list (ns.map .int),.int 0]=some (.int (fW ns 0)):=oH ns 0;have k1:bA [.list (ns.map .int),.int 1]=some (.int (fW ns 1)):=oH ns 1;have k2:bA [.list (ns.map .int),.int 2]=some (.int (fW ns 2)):=oH ns 2;obtain ⟨x0,x1,eN,s0,s1⟩:=xh (j2 (fW ns 0) 601);have r8:=bN (fW ns 1) (j:=8) (by decide);obtain ⟨Ls,hLs⟩:∃ x,x=1+(fW ns 1).fmod 8:=⟨_,rfl⟩
 have rm:=bN (j2 (fW ns 2) 602) (j:=201) (by decide);obtain ⟨most,hmost⟩:∃ m:Nat,(j2 (fW ns 2) 602).fmod 201=m:=⟨((j2 (fW ns 2) 602).fmod 201).toNat,by omega⟩
 have hm:most<=1000:=by omega
 obtain ⟨La,hLa⟩:∃ x,x=(j2 (fW ns 1) 603).fmod Ls:=⟨_,rfl⟩
 have rl:=bN (j2 (fW ns 1) 603) (j:=Ls) (by omega);rw [<-hLa] at rl;obtain ⟨cs,hcs,hcl⟩:∃ cs:List Int,g7 (ns.map W.int) (some 3) (some 103)=cs.map W.int/\cs.length<=100:=by
  refine ⟨(ns.drop 3).take 100,?_,by simp;omega⟩;rw [List.map_take,map_drop];exact xZ _ 3 103
 obtain ⟨B,eR,gB,dB',lB⟩:=zQ s0 s1 cs hcl;obtain ⟨pa,eP,hI⟩:=rj gB dB' (by omega);have eB:=xj (B:=B) dB' (by omega);have hR:=jK B;have hE:(fM B)[(fM B).length-1]?=some gf:=by
  rw [hR];show (uC::(fl B++[gf]))[B.len+1]?=_;rw [List.getElem?_cons_succ,<-cC];simp
 let N:W:=.int ((fM B).length:Int);have hN:N=bL ((fM B).length-1):=by
  show W.int _=W.int _;congr 1
 obtain ⟨sh,SH⟩:=ux gB dB' lB (k:=(fM B).length) (by omega);let c:Cn:=Gu La Ls 0 [] most (bW 1 B) N;have hc:Fq c:=by
  refine ⟨?_,?_,CY _,λ x hx=>absurd hx Ox⟩
  . show Rg La;constructor <;> omega
  . show Rg Ls;constructor <;> omega
 obtain ⟨q,eA,z1,z2,z3,z4,z5⟩:=xI [] La Ls 0 [] most B N (by simp) hc (HJ (R:=fM B) (pa:=pa)) hI hm;obtain ⟨T',eH⟩:=wY hI hE hN hm (nX.of [] c q) z1 z2 z3 z4 z5;let sc:Sl:=.val (.list (ns.map .int));let nm:W:=.list [.str x0,.str x1];let RW:W:=.list (fM B);let bd:W:=.list (bW 1 B);let pr:W:=.list [kF (bW 1 B) N];let δ (a b d e f g h i:Sl):DS:=[sc,a,b,d,e,f,g,h,i]
 refine ⟨T',(ao rfl).trans ((Om aY (?_:_=some (.rt (.bool true),T'))).trans rfl)⟩;have t1:aV (bc gz #[bc bJ #[bc bA #[ae 0,!0],!601]]) (ar 1) (δ .no .no .no .no .no .no .no .no)=some (.nx (δ (.val nm) .no .no .no .no .no .no .no)):=aF (mZ (ds:=[.int (j2 (fW ns 0) 601)]) (fL (mZ (ds:=[.int (fW ns 0),.int 601]) (fL (mZ (ds:=[.list (ns.map .int),.int 0]) rfl k0) rfl) (lq _ _)) rfl) eN) rfl;have t2:aV (aA bQ (!1) (aA cq (bc bA #[ae 0,!1]) !8)) (ar 2) (δ (.val nm) .no .no .no .no .no .no .no)=some (.nx (δ (.val nm) (.val (.int Ls)) .no .no .no .no .no .no)):=by
  rw [hLs];exact aF (dO rfl (dO (mZ (ds:=[.list (ns.map .int),.int 1]) rfl k1) rfl (cf _ (by decide))) rfl) rfl
 have t3:aV (aA cq (bc bJ #[bc bA #[ae 0,!2],!602]) !201) (ar 3) (δ (.val nm) (.val (.int Ls)) .no .no .no .no .no .no)=some (.nx (δ (.val nm) (.val (.int Ls)) (.val (.int most)) .no .no .no .no .no)):=by
  rw [<-hmost];exact aF (dO (mZ (ds:=[.int (fW ns 2),.int 602]) (fL (mZ (ds:=[.list (ns.map .int),.int 2]) rfl k2) rfl) (lq _ _)) rfl (cf _ (by decide))) rfl
 have t4:aV (bc h9 #[dt (Ar (ax 0) (j3 !3) (j3 !103)),ae 1]) (ar 4) (δ (.val nm) (.val (.int Ls)) (.val (.int most)) .no .no .no .no .no)=some (.nx (δ (.val nm) (.val (.int Ls)) (.val (.int most)) (.val RW) .no .no .no .no)):=by
  refine aF (mZ (ds:=[.list (cs.map .int),nm]) (fL ?_ rfl) eR) rfl;have:Ar (ax 0) (j3 !3) (j3 !103) (δ (.val nm) (.val (.int Ls)) (.val (.int most)) .no .no .no .no .no)=some (cs.map W.int):=by rw [<-hcs];rfl
  simp only [dt,this,Ot]
 have t5:aV (aA aH (bc (bD 9) #[ae 4,!1]) !0) (ar 5) (δ (.val nm) (.val (.int Ls)) (.val (.int most)) (.val RW) .no .no .no .no)=some (.nx (δ (.val nm) (.val (.int Ls)) (.val (.int most)) (.val RW) (.val bd) .no .no .no)):=aF (My.x0 (mZ (ds:=[RW,.int 1]) rfl eB)) rfl;have t6:aV (dt (dD #[bv #[!"main",dt (dD aj),ae 5,!1,sw nc (ax 4)]])) (ar 6) (δ (.val nm) (.val (.int Ls)) (.val (.int most)) (.val RW) (.val bd) .no .no .no)=some (.nx (δ (.val nm) (.val (.int Ls)) (.val (.int most)) (.val RW) (.val bd) (.val pr) .no .no)):=aF (vJ (l:=[kF (bW 1 B) N]) (fL (Hu (fL rfl (fL (vJ (l:=[]) rfl (by simp)) (fL rfl (fL rfl (fL rfl rfl))))) (by simp)) rfl) (by simp)) rfl;have t7:aV (qd (ae 6)) (ar 7) (δ (.val nm) (.val (.int Ls)) (.val (.int most)) (.val RW) (.val bd) (.val pr) .no .no)=some (.nx (δ (.val nm) (.val (.int Ls)) (.val (.int most)) (.val RW) (.val bd) (.val pr) (.val (.str sh)) .no)):=aF SH rfl;let δ7 (i:Sl):DS:=δ (.val nm) (.val (.int Ls)) (.val (.int most)) (.val RW) (.val bd) (.val pr) (.val (.str sh)) i;have lane:aA cq (bc bJ #[bc bA #[ae 0,!1],!603]) (ae 2) (δ7 .no)=some (.int La):=by
  rw [hLa];exact dO (mZ (ds:=[.int (fW ns 1),.int 603]) (fL (mZ (ds:=[.list (ns.map .int),.int 1]) rfl k1) rfl) (lq _ _)) rfl (cf _ (by omega))
 have t8:cR (cA nK (aa #[ae 6,aA cq (bc bJ #[bc bA #[ae 0,!1],!603]) (ae 2),ae 2,!0,dt (dD aj),ae 3,dt (dD aj)])) (ar 8) (δ7 .no) []=some (.nx (δ7 (.val (.ref 10))),ST [] c q):=bC (dq (ds:=[pr,.int La,.int Ls,.int 0,.list [],.int most,.list []]) (av (fL rfl (fL lane (fL rfl (fL rfl (fL (vJ (l:=[]) rfl (by simp)) (fL rfl (fL (vJ (l:=[]) rfl (by simp)) rfl)))))))) eA) rfl;have h1:cA gE (aa #[ae 8,ae 4,bc fq #[ae 4],ae 3]) (δ7 (.val (.ref 10))) (ST [] c q)=some (.ok (.bool true),T'):=dq (ds:=[.ref 10,RW,.list (pa.map .int),.int most]) (av (fL rfl (fL rfl (fL (mZ (ds:=[RW]) rfl eP) rfl)))) eH;have h2:aa (dB (aw bh (qd (ae 6)) (ax 7))) (δ7 (.val (.ref 10))) T'=some (.ok (.bool true),T'):=by
  refine av ?_;have:aw bh (qd (ae 6)) (ax 7) (δ7 (.val (.ref 10)))=some true:=by
   refine (AR (a:=.str sh) (b:=.str sh) SH rfl rfl).trans ?_;simp
  simp only [dB,this,Ot]
 exact (ag (aG t1)).trans ((ag (aG t2)).trans ((ag (aG t3)).trans ((ag (aG t4)).trans ((ag (aG t5)).trans ((ag (aG t6)).trans ((ag (aG t7)).trans ((ag t8).trans (bY (qL h1 h2)))))))))
theorem FD {α:Type} {P:List α->Prop} {n:Nat} (h:∀ a us,us.length=n->P (a::us)):∀ us:List α,us.length=n+1->P us:=λ us hl=>by
 cases us with
 | nil=>cases hl
 | cons a us=>exact h a us (Nat.succ.inj hl)
theorem NZ {α:Type} {P:List α->Prop} (h:P []):∀ us:List α,us.length=0->P us:=λ us hl=>by
 cases us with
 | nil=>exact h
 | cons a us=>cases hl
theorem uj {α:Type} {P:List α->Prop} (h:∀ a0,P [a0]):∀ us:List α,us.length=1->P us:=FD λ a us hl=>NZ (P:=λ l=>P (a::l)) (h a) us hl
theorem sj {α:Type} {P:List α->Prop} (h:∀ a0 a1,P [a0,a1]):∀ us:List α,us.length=2->P us:=FD λ a us hl=>uj (P:=λ l=>P (a::l)) (h a) us hl
theorem E7 {α:Type} {P:List α->Prop} (h:∀ a0 a1 a2,P [a0,a1,a2]):∀ us:List α,us.length=3->P us:=FD λ a us hl=>sj (P:=λ l=>P (a::l)) (h a) us hl
theorem Jr {α:Type} {P:List α->Prop} (h:∀ a0 a1 a2 a3,P [a0,a1,a2,a3]):∀ us:List α,us.length=4->P us:=FD λ a us hl=>E7 (P:=λ l=>P (a::l)) (h a) us hl
theorem ML {α:Type} {P:List α->Prop} (h:∀ a0 a1 a2 a3 a4,P [a0,a1,a2,a3,a4]):∀ us:List α,us.length=5->P us:=FD λ a us hl=>Jr (P:=λ l=>P (a::l)) (h a) us hl
theorem NG {α:Type} {P:List α->Prop} (h:∀ a0 a1 a2 a3 a4 a5,P [a0,a1,a2,a3,a4,a5]):∀ us:List α,us.length=6->P us:=FD λ a us hl=>ML (P:=λ l=>P (a::l)) (h a) us hl
theorem MN {α:Type} {P:List α->Prop} (h:∀ a0 a1 a2 a3 a4 a5 a6,P [a0,a1,a2,a3,a4,a5,a6]):∀ us:List α,us.length=7->P us:=FD λ a us hl=>NG (P:=λ l=>P (a::l)) (h a) us hl
set_option maxHeartbeats 0 in
theorem all_mk {l:PySem.W.OpenLaw} {w:World} {K:Frag} {h:Heap} {mg:Str->Option Value} {fa:Addr} (X:K.In h) (G:h.Ns mainGlobals mg) (hfa:mg "law" = some (.ref fa)) {c_Walk:Addr} {c_Frame:Addr} {c_Story:Addr} {c_Goer:Addr} {c_Nought:Addr} {c_Outside:Addr} {f3:Addr} {od3 an3:Option Addr} {sl3:Array (Option Value)} {oc3 kV3 dc3 pm3 cd3 ct3:Value} {f4:Addr} {od4 an4:Option Addr} {sl4:Array (Option Value)} {oc4 kV4 dc4 pm4 cd4 ct4:Value} {f5:Addr} {od5 an5:Option Addr} {sl5:Array (Option Value)} {oc5 kV5 dc5 pm5 cd5 ct5:Value} {f6:Addr} {od6 an6:Option Addr} {sl6:Array (Option Value)} {oc6 kV6 dc6 pm6 cd6 ct6:Value} {f7:Addr} {od7 an7:Option Addr} {sl7:Array (Option Value)} {oc7 kV7 dc7 pm7 cd7 ct7:Value} {f8:Addr} {od8 an8:Option Addr} {sl8:Array (Option Value)} {oc8 kV8 dc8 pm8 cd8 ct8:Value} {f9:Addr} {od9 an9:Option Addr} {sl9:Array (Option Value)} {oc9 kV9 dc9 pm9 cd9 ct9:Value} {f10:Addr} {od10 an10:Option Addr} {sl10:Array (Option Value)} {oc10 kV10 dc10 pm10 cd10 ct10:Value} {f11:Addr} {od11 an11:Option Addr} {sl11:Array (Option Value)} {oc11 kV11 dc11 pm11 cd11 ct11:Value} {f12:Addr} {od12 an12:Option Addr} {sl12:Array (Option Value)} {oc12 kV12 dc12 pm12 cd12 ct12:Value} {f13:Addr} {od13 an13:Option Addr} {sl13:Array (Option Value)} {oc13 kV13 dc13 pm13 cd13 ct13:Value} {f14:Addr} {od14 an14:Option Addr} {sl14:Array (Option Value)} {oc14 kV14 dc14 pm14 cd14 ct14:Value} {f15:Addr} {od15 an15:Option Addr} {sl15:Array (Option Value)} {oc15 kV15 dc15 pm15 cd15 ct15:Value} {f16:Addr} {od16 an16:Option Addr} {sl16:Array (Option Value)} {oc16 kV16 dc16 pm16 cd16 ct16:Value} {f17:Addr} {od17 an17:Option Addr} {sl17:Array (Option Value)} {oc17 kV17 dc17 pm17 cd17 ct17:Value} {f18:Addr} {od18 an18:Option Addr} {sl18:Array (Option Value)} {oc18 kV18 dc18 pm18 cd18 ct18:Value} {f19:Addr} {od19 an19:Option Addr} {sl19:Array (Option Value)} {oc19 kV19 dc19 pm19 cd19 ct19:Value} {f20:Addr} {od20 an20:Option Addr} {sl20:Array (Option Value)} {oc20 kV20 dc20 pm20 cd20 ct20:Value} {f21:Addr} {od21 an21:Option Addr} {sl21:Array (Option Value)} {oc21 kV21 dc21 pm21 cd21 ct21:Value} {f22:Addr} {od22 an22:Option Addr} {sl22:Array (Option Value)} {oc22 kV22 dc22 pm22 cd22 ct22:Value} {f23:Addr} {od23 an23:Option Addr} {sl23:Array (Option Value)} {oc23 kV23 dc23 pm23 cd23 ct23:Value} {f24:Addr} {od24 an24:Option Addr} {sl24:Array (Option Value)} {oc24 kV24 dc24 pm24 cd24 ct24:Value} {f25:Addr} {od25 an25:Option Addr} {sl25:Array (Option Value)} {oc25 kV25 dc25 pm25 cd25 ct25:Value} {f26:Addr} {od26 an26:Option Addr} {sl26:Array (Option Value)} {oc26 kV26 dc26 pm26 cd26 ct26:Value} {f27:Addr} {od27 an27:Option Addr} {sl27:Array (Option Value)} {oc27 kV27 dc27 pm27 cd27 ct27:Value} {f28:Addr} {od28 an28:Option Addr} {sl28:Array (Option Value)} {oc28 kV28 dc28 pm28 cd28 ct28:Value} {f29:Addr} {od29 an29:Option Addr} {sl29:Array (Option Value)} {oc29 kV29 dc29 pm29 cd29 ct29:Value} {tL:Tok} {a_SIGNS:Addr} {o_SIGNS:Obj} {tS:Tok}
 (mm_Walk:PySem.W.nsIn K mainGlobals "Walk" = some (some (.ref c_Walk)))
 (mm_Frame:PySem.W.nsIn K mainGlobals "Frame" = some (some (.ref c_Frame)))
 (mm_Story:PySem.W.nsIn K mainGlobals "Story" = some (some (.ref c_Story)))
 (mm_Goer:PySem.W.nsIn K mainGlobals "Goer" = some (some (.ref c_Goer)))
 (mm_Nought:PySem.W.nsIn K mainGlobals "Nought" = some (some (.ref c_Nought)))
 (mm_Outside:PySem.W.nsIn K mainGlobals "Outside" = some (some (.ref c_Outside)))
 (ex_Nought:XClE K c_Nought)
 (ex_Outside:XClE K c_Outside)
 (xm1:PySem.W.exmOne K (.ref c_Nought) (.ref c_Nought)=some true)
 (xm2:PySem.W.exmOne K (.ref c_Outside) (.ref c_Nought)=some false)
 (xm3:PySem.W.exmOne K (.ref c_Outside) (.ref c_Outside)=some true)
 (a0:An K "wrapped" qh .none)
 (a1:An K "unwrapped" mR .none)
 (a2:An K "worked" tj .none)
 (a3:PySem.W.findIn K (.ref c_Walk) "__init__" = some (some (.ref f3)))
 (ifn3:PySem.W.isFn K (.ref f3)=true)
 (l3:K.lookup f3=some ⟨oc3,od3,.func (PySem.W.fnOf "__init__" "Walk.__init__" (aT dL) (aM dL) (ay dL) .none kV3 dc3 pm3 an3 cd3 ct3),sl3⟩)
 (c3:PySem.W.codeIn K cd3 "Walk.__init__" = true)
 (k3:PySem.W.keepIn K (.ref f3)=true)
 (a4:PySem.W.findIn K (.ref c_Walk) "is_over" = some (some (.ref f4)))
 (ifn4:PySem.W.isFn K (.ref f4)=true)
 (l4:K.lookup f4=some ⟨oc4,od4,.func (PySem.W.fnOf "is_over" "Walk.is_over" (aT dZ) (aM dZ) (ay dZ) .none kV4 dc4 pm4 an4 cd4 ct4),sl4⟩)
 (c4:PySem.W.codeIn K cd4 "Walk.is_over" = true)
 (k4:PySem.W.keepIn K (.ref f4)=true)
 (a5:PySem.W.findIn K (.ref c_Walk) "before" = some (some (.ref f5)))
 (ifn5:PySem.W.isFn K (.ref f5)=true)
 (l5:K.lookup f5=some ⟨oc5,od5,.func (PySem.W.fnOf "before" "Walk.before" (aT fg) (aM fg) (ay fg) .none kV5 dc5 pm5 an5 cd5 ct5),sl5⟩)
 (c5:PySem.W.codeIn K cd5 "Walk.before" = true)
 (k5:PySem.W.keepIn K (.ref f5)=true)
 (a6:PySem.W.findIn K (.ref c_Walk) "taken" = some (some (.ref f6)))
 (ifn6:PySem.W.isFn K (.ref f6)=true)
 (l6:K.lookup f6=some ⟨oc6,od6,.func (PySem.W.fnOf "taken" "Walk.taken" (aT fK) (aM fK) (ay fK) .none kV6 dc6 pm6 an6 cd6 ct6),sl6⟩)
 (c6:PySem.W.codeIn K cd6 "Walk.taken" = true)
 (k6:PySem.W.keepIn K (.ref f6)=true)
 (a7:PySem.W.findIn K (.ref c_Frame) "__init__" = some (some (.ref f7)))
 (ifn7:PySem.W.isFn K (.ref f7)=true)
 (l7:K.lookup f7=some ⟨oc7,od7,.func (PySem.W.fnOf "__init__" "Frame.__init__" (aT cX) (aM cX) (ay cX) .none kV7 dc7 pm7 an7 cd7 ct7),sl7⟩)
 (c7:PySem.W.codeIn K cd7 "Frame.__init__" = true)
 (k7:PySem.W.keepIn K (.ref f7)=true)
 (a8:PySem.W.findIn K (.ref c_Frame) "statement" = some (some (.ref f8)))
 (ifn8:PySem.W.isFn K (.ref f8)=true)
 (l8:K.lookup f8=some ⟨oc8,od8,.func (PySem.W.fnOf "statement" "Frame.statement" (aT cS) (aM cS) (ay cS) .none kV8 dc8 pm8 an8 cd8 ct8),sl8⟩)
 (c8:PySem.W.codeIn K cd8 "Frame.statement" = true)
 (k8:PySem.W.keepIn K (.ref f8)=true)
 (a9:PySem.W.findIn K (.ref c_Frame) "pass_by" = some (some (.ref f9)))
 (ifn9:PySem.W.isFn K (.ref f9)=true)
 (l9:K.lookup f9=some ⟨oc9,od9,.func (PySem.W.fnOf "pass_by" "Frame.pass_by" (aT dJ) (aM dJ) (ay dJ) .none kV9 dc9 pm9 an9 cd9 ct9),sl9⟩)
 (c9:PySem.W.codeIn K cd9 "Frame.pass_by" = true)
 (k9:PySem.W.keepIn K (.ref f9)=true)
 (a10:PySem.W.findIn K (.ref c_Frame) "enter" = some (some (.ref f10)))
 (ifn10:PySem.W.isFn K (.ref f10)=true)
 (l10:K.lookup f10=some ⟨oc10,od10,.func (PySem.W.fnOf "enter" "Frame.enter" (aT eZ) (aM eZ) (ay eZ) .none kV10 dc10 pm10 an10 cd10 ct10),sl10⟩)
 (c10:PySem.W.codeIn K cd10 "Frame.enter" = true)
 (k10:PySem.W.keepIn K (.ref f10)=true)
 (a11:PySem.W.findIn K (.ref c_Frame) "enter_loop" = some (some (.ref f11)))
 (ifn11:PySem.W.isFn K (.ref f11)=true)
 (l11:K.lookup f11=some ⟨oc11,od11,.func (PySem.W.fnOf "enter_loop" "Frame.enter_loop" (aT cw) (aM cw) (ay cw) .none kV11 dc11 pm11 an11 cd11 ct11),sl11⟩)
 (c11:PySem.W.codeIn K cd11 "Frame.enter_loop" = true)
 (k11:PySem.W.keepIn K (.ref f11)=true)
 (a12:PySem.W.findIn K (.ref c_Frame) "leave_body" = some (some (.ref f12)))
 (ifn12:PySem.W.isFn K (.ref f12)=true)
 (l12:K.lookup f12=some ⟨oc12,od12,.func (PySem.W.fnOf "leave_body" "Frame.leave_body" (aT cv) (aM cv) (ay cv) .none kV12 dc12 pm12 an12 cd12 ct12),sl12⟩)
 (c12:PySem.W.codeIn K cd12 "Frame.leave_body" = true)
 (k12:PySem.W.keepIn K (.ref f12)=true)
 (a13:PySem.W.findIn K (.ref c_Story) "__init__" = some (some (.ref f13)))
 (ifn13:PySem.W.isFn K (.ref f13)=true)
 (l13:K.lookup f13=some ⟨oc13,od13,.func (PySem.W.fnOf "__init__" "Story.__init__" (aT cZ) (aM cZ) (ay cZ) .none kV13 dc13 pm13 an13 cd13 ct13),sl13⟩)
 (c13:PySem.W.codeIn K cd13 "Story.__init__" = true)
 (k13:PySem.W.keepIn K (.ref f13)=true)
 (a14:PySem.W.findIn K (.ref c_Story) "begin_phase" = some (some (.ref f14)))
 (ifn14:PySem.W.isFn K (.ref f14)=true)
 (l14:K.lookup f14=some ⟨oc14,od14,.func (PySem.W.fnOf "begin_phase" "Story.begin_phase" (aT cn) (aM cn) (ay cn) .none kV14 dc14 pm14 an14 cd14 ct14),sl14⟩)
 (c14:PySem.W.codeIn K cd14 "Story.begin_phase" = true)
 (k14:PySem.W.keepIn K (.ref f14)=true)
 (a15:PySem.W.findIn K (.ref c_Story) "add_step" = some (some (.ref f15)))
 (ifn15:PySem.W.isFn K (.ref f15)=true)
 (l15:K.lookup f15=some ⟨oc15,od15,.func (PySem.W.fnOf "add_step" "Story.add_step" (aT df) (aM df) (ay df) .none kV15 dc15 pm15 an15 cd15 ct15),sl15⟩)
 (c15:PySem.W.codeIn K cd15 "Story.add_step" = true)
 (k15:PySem.W.keepIn K (.ref f15)=true)
 (a16:PySem.W.findIn K (.ref c_Story) "add_touch" = some (some (.ref f16)))
 (ifn16:PySem.W.isFn K (.ref f16)=true)
 (l16:K.lookup f16=some ⟨oc16,od16,.func (PySem.W.fnOf "add_touch" "Story.add_touch" (aT cO) (aM cO) (ay cO) .none kV16 dc16 pm16 an16 cd16 ct16),sl16⟩)
 (c16:PySem.W.codeIn K cd16 "Story.add_touch" = true)
 (k16:PySem.W.keepIn K (.ref f16)=true)
 (a17:PySem.W.findIn K (.ref c_Story) "finish" = some (some (.ref f17)))
 (ifn17:PySem.W.isFn K (.ref f17)=true)
 (l17:K.lookup f17=some ⟨oc17,od17,.func (PySem.W.fnOf "finish" "Story.finish" (aT eJ) (aM eJ) (ay eJ) .none kV17 dc17 pm17 an17 cd17 ct17),sl17⟩)
 (c17:PySem.W.codeIn K cd17 "Story.finish" = true)
 (k17:PySem.W.keepIn K (.ref f17)=true)
 (a18:PySem.W.findIn K (.ref c_Goer) "__init__" = some (some (.ref f18)))
 (ifn18:PySem.W.isFn K (.ref f18)=true)
 (l18:K.lookup f18=some ⟨oc18,od18,.func (PySem.W.fnOf "__init__" "Goer.__init__" (aT dH) (aM dH) (ay dH) .none kV18 dc18 pm18 an18 cd18 ct18),sl18⟩)
 (c18:PySem.W.codeIn K cd18 "Goer.__init__" = true)
 (k18:PySem.W.keepIn K (.ref f18)=true)
 (a19:PySem.W.findIn K (.ref c_Goer) "touch" = some (some (.ref f19)))
 (ifn19:PySem.W.isFn K (.ref f19)=true)
 (l19:K.lookup f19=some ⟨oc19,od19,.func (PySem.W.fnOf "touch" "Goer.touch" (aT fP) (aM fP) (ay fP) .none kV19 dc19 pm19 an19 cd19 ct19),sl19⟩)
 (c19:PySem.W.codeIn K cd19 "Goer.touch" = true)
 (k19:PySem.W.keepIn K (.ref f19)=true)
 (a20:PySem.W.findIn K (.ref c_Goer) "got" = some (some (.ref f20)))
 (ifn20:PySem.W.isFn K (.ref f20)=true)
 (l20:K.lookup f20=some ⟨oc20,od20,.func (PySem.W.fnOf "got" "Goer.got" (aT gH) (aM gH) (ay gH) .none kV20 dc20 pm20 an20 cd20 ct20),sl20⟩)
 (c20:PySem.W.codeIn K cd20 "Goer.got" = true)
 (k20:PySem.W.keepIn K (.ref f20)=true)
 (a21:PySem.W.findIn K (.ref c_Goer) "reckoned" = some (some (.ref f21)))
 (ifn21:PySem.W.isFn K (.ref f21)=true)
 (l21:K.lookup f21=some ⟨oc21,od21,.func (PySem.W.fnOf "reckoned" "Goer.reckoned" (aT dE) (aM dE) (ay dE) .none kV21 dc21 pm21 an21 cd21 ct21),sl21⟩)
 (c21:PySem.W.codeIn K cd21 "Goer.reckoned" = true)
 (k21:PySem.W.keepIn K (.ref f21)=true)
 (a22:PySem.W.findIn K (.ref c_Goer) "give" = some (some (.ref f22)))
 (ifn22:PySem.W.isFn K (.ref f22)=true)
 (l22:K.lookup f22=some ⟨oc22,od22,.func (PySem.W.fnOf "give" "Goer.give" (aT gk) (aM gk) (ay gk) .none kV22 dc22 pm22 an22 cd22 ct22),sl22⟩)
 (c22:PySem.W.codeIn K cd22 "Goer.give" = true)
 (k22:PySem.W.keepIn K (.ref f22)=true)
 (a23:PySem.W.findIn K (.ref c_Goer) "do_while" = some (some (.ref f23)))
 (ifn23:PySem.W.isFn K (.ref f23)=true)
 (l23:K.lookup f23=some ⟨oc23,od23,.func (PySem.W.fnOf "do_while" "Goer.do_while" (aT dG) (aM dG) (ay dG) .none kV23 dc23 pm23 an23 cd23 ct23),sl23⟩)
 (c23:PySem.W.codeIn K cd23 "Goer.do_while" = true)
 (k23:PySem.W.keepIn K (.ref f23)=true)
 (a24:PySem.W.findIn K (.ref c_Goer) "do_if" = some (some (.ref f24)))
 (ifn24:PySem.W.isFn K (.ref f24)=true)
 (l24:K.lookup f24=some ⟨oc24,od24,.func (PySem.W.fnOf "do_if" "Goer.do_if" (aT fJ) (aM fJ) (ay fJ) .none kV24 dc24 pm24 an24 cd24 ct24),sl24⟩)
 (c24:PySem.W.codeIn K cd24 "Goer.do_if" = true)
 (k24:PySem.W.keepIn K (.ref f24)=true)
 (a25:PySem.W.findIn K (.ref c_Goer) "leave" = some (some (.ref f25)))
 (ifn25:PySem.W.isFn K (.ref f25)=true)
 (l25:K.lookup f25=some ⟨oc25,od25,.func (PySem.W.fnOf "leave" "Goer.leave" (aT fE) (aM fE) (ay fE) .none kV25 dc25 pm25 an25 cd25 ct25),sl25⟩)
 (c25:PySem.W.codeIn K cd25 "Goer.leave" = true)
 (k25:PySem.W.keepIn K (.ref f25)=true)
 (a26:PySem.W.findIn K (.ref c_Goer) "do" = some (some (.ref f26)))
 (ifn26:PySem.W.isFn K (.ref f26)=true)
 (l26:K.lookup f26=some ⟨oc26,od26,.func (PySem.W.fnOf "do" "Goer.do" (aT iE) (aM iE) (ay iE) .none kV26 dc26 pm26 an26 cd26 ct26),sl26⟩)
 (c26:PySem.W.codeIn K cd26 "Goer.do" = true)
 (k26:PySem.W.keepIn K (.ref f26)=true)
 (a27:PySem.W.findIn K (.ref c_Goer) "step" = some (some (.ref f27)))
 (ifn27:PySem.W.isFn K (.ref f27)=true)
 (l27:K.lookup f27=some ⟨oc27,od27,.func (PySem.W.fnOf "step" "Goer.step" (aT gq) (aM gq) (ay gq) .none kV27 dc27 pm27 an27 cd27 ct27),sl27⟩)
 (c27:PySem.W.codeIn K cd27 "Goer.step" = true)
 (k27:PySem.W.keepIn K (.ref f27)=true)
 (a28:PySem.W.findIn K (.ref c_Goer) "end_def" = some (some (.ref f28)))
 (ifn28:PySem.W.isFn K (.ref f28)=true)
 (l28:K.lookup f28=some ⟨oc28,od28,.func (PySem.W.fnOf "end_def" "Goer.end_def" (aT eG) (aM eG) (ay eG) .none kV28 dc28 pm28 an28 cd28 ct28),sl28⟩)
 (c28:PySem.W.codeIn K cd28 "Goer.end_def" = true)
 (k28:PySem.W.keepIn K (.ref f28)=true)
 (a29:PySem.W.findIn K (.ref c_Goer) "go" = some (some (.ref f29)))
 (ifn29:PySem.W.isFn K (.ref f29)=true)
 (l29:K.lookup f29=some ⟨oc29,od29,.func (PySem.W.fnOf "go" "Goer.go" (aT iI) (aM iI) (ay iI) .none kV29 dc29 pm29 an29 cd29 ct29),sl29⟩)
 (c29:PySem.W.codeIn K cd29 "Goer.go" = true)
 (k29:PySem.W.keepIn K (.ref f29)=true)
 (a30:An K "alone" ww .none)
 (a31:An K "_law_cell" mO .none)
 (a32:An K "_law_mixed" kX .none)
 (a33:An K "_law_all_whole" iD .none)
 (a34:An K "_law_into_range" ij .none)
 (a35:An K "_law_names" lu .none)
 (a36:An K "_law_test" mJ .none)
 (a37:An K "_law_sum" nM .none)
 (a38:An K "_law_line" mD .none)
 (a39:An K "_law_rows" mK .none)
 (a40:An K "_law_block" lf .none)
 (a41:An K "_law_partners" jc .none)
 (a42:An K "_law_number" jX .none)
 (a43:An K "_law_onward" kd .none)
 (a44:An K "_law_next" mI .none)
 (a45:An K "_law_holds" kH .none)
 (a46:An K "law" tZ .none)
 (pg_Walk:PySem.W.plainGet K c_Walk Str.empty=true)
 (hd_Walk:PySem.W.hasDictIn K c_Walk=true)
 (po_Walk:PySem.W.plainOver K c_Walk=true)
 (sa_Walk:PySem.W.findIn K (.ref c_Walk) "__setattr__" = some (some (.builtin "object.__setattr__")))
 (mk_Walk:PySem.W.makesIn K c_Walk=true)
 (kc_Walk:PySem.W.keepIn K (.ref c_Walk)=true)
 (nn_Walk_row:PySem.W.findIn K (.ref c_Walk) "row" = some none)
 (nn_Walk_at:PySem.W.findIn K (.ref c_Walk) "at" = some none)
 (pg_Frame:PySem.W.plainGet K c_Frame Str.empty=true)
 (hd_Frame:PySem.W.hasDictIn K c_Frame=true)
 (po_Frame:PySem.W.plainOver K c_Frame=true)
 (sa_Frame:PySem.W.findIn K (.ref c_Frame) "__setattr__" = some (some (.builtin "object.__setattr__")))
 (mk_Frame:PySem.W.makesIn K c_Frame=true)
 (kc_Frame:PySem.W.keepIn K (.ref c_Frame)=true)
 (nn_Frame_names:PySem.W.findIn K (.ref c_Frame) "names" = some none)
 (nn_Frame_given:PySem.W.findIn K (.ref c_Frame) "given" = some none)
 (nn_Frame_walks:PySem.W.findIn K (.ref c_Frame) "walks" = some none)
 (nn_Frame_loops:PySem.W.findIn K (.ref c_Frame) "loops" = some none)
 (pg_Story:PySem.W.plainGet K c_Story Str.empty=true)
 (hd_Story:PySem.W.hasDictIn K c_Story=true)
 (po_Story:PySem.W.plainOver K c_Story=true)
 (sa_Story:PySem.W.findIn K (.ref c_Story) "__setattr__" = some (some (.builtin "object.__setattr__")))
 (mk_Story:PySem.W.makesIn K c_Story=true)
 (kc_Story:PySem.W.keepIn K (.ref c_Story)=true)
 (nn_Story_told:PySem.W.findIn K (.ref c_Story) "told" = some none)
 (nn_Story_steps:PySem.W.findIn K (.ref c_Story) "steps" = some none)
 (nn_Story_end:PySem.W.findIn K (.ref c_Story) "end" = some none)
 (nn_Story_brought:PySem.W.findIn K (.ref c_Story) "brought" = some none)
 (nn_Story_touches:PySem.W.findIn K (.ref c_Story) "touches" = some none)
 (nn_Story_puts:PySem.W.findIn K (.ref c_Story) "puts" = some none)
 (nn_Story_lines:PySem.W.findIn K (.ref c_Story) "lines" = some none)
 (pg_Goer:PySem.W.plainGet K c_Goer Str.empty=true)
 (hd_Goer:PySem.W.hasDictIn K c_Goer=true)
 (po_Goer:PySem.W.plainOver K c_Goer=true)
 (sa_Goer:PySem.W.findIn K (.ref c_Goer) "__setattr__" = some (some (.builtin "object.__setattr__")))
 (mk_Goer:PySem.W.makesIn K c_Goer=true)
 (kc_Goer:PySem.W.keepIn K (.ref c_Goer)=true)
 (nn_Goer_defs:PySem.W.findIn K (.ref c_Goer) "defs" = some none)
 (nn_Goer_lane:PySem.W.findIn K (.ref c_Goer) "lane" = some none)
 (nn_Goer_signs:PySem.W.findIn K (.ref c_Goer) "signs" = some none)
 (nn_Goer_boxes:PySem.W.findIn K (.ref c_Goer) "boxes" = some none)
 (nn_Goer_most:PySem.W.findIn K (.ref c_Goer) "most" = some none)
 (nn_Goer_frames:PySem.W.findIn K (.ref c_Goer) "frames" = some none)
 (nn_Goer_line:PySem.W.findIn K (.ref c_Goer) "line" = some none)
 (nn_Goer_meeting:PySem.W.findIn K (.ref c_Goer) "meeting" = some none)
 (nn_Goer_story:PySem.W.findIn K (.ref c_Goer) "story" = some none)
 (zz_bool:PySem.W.nsIn K mainGlobals "bool" = some none)
 (zz_enumerate:PySem.W.nsIn K mainGlobals "enumerate" = some none)
 (zz_int:PySem.W.nsIn K mainGlobals "int" = some none)
 (zz_isinstance:PySem.W.nsIn K mainGlobals "isinstance" = some none)
 (zz_len:PySem.W.nsIn K mainGlobals "len" = some none)
 (zz_list:PySem.W.nsIn K mainGlobals "list" = some none)
 (zz_repr:PySem.W.nsIn K mainGlobals "repr" = some none)
 (mm_LEAST:PySem.W.nsIn K mainGlobals "LEAST" = some (some (.int (-2147483648) tL)))
 (mm_SIGNS:PySem.W.nsIn K mainGlobals "SIGNS" = some (some (.ref a_SIGNS)))
 (lk_SIGNS:K.lookup a_SIGNS=some o_SIGNS)
 (lc_SIGNS:o_SIGNS.cls=.type "tuple")
 (lt_SIGNS:uQ o_SIGNS [(Str.ofString "lane"),(Str.ofString "lanes"),(Str.ofString "mine")]=true)
 (mm_SPAN:PySem.W.nsIn K mainGlobals "SPAN" = some (some (.int 4294967296 tS))):
 ∃ fd:FuncData,(∀ (s:Shared) (v:Value),BindsTo s fd ⟨[v],[]⟩ [("_law_script", v)])/\∀ base:Heap,K.In base->base.Ns mainGlobals mg->eE l.prog w K mg base va 18 fa fd ["_law_script"] (rD K):=by
 have m_Walk:mg "Walk" = some (.ref ((bV c_Walk c_Frame c_Story c_Goer c_Nought c_Outside) "Walk")):=by rw [gu];exact Pb X G mm_Walk
 have m_Frame:mg "Frame" = some (.ref ((bV c_Walk c_Frame c_Story c_Goer c_Nought c_Outside) "Frame")):=by rw [cG];exact Pb X G mm_Frame
 have m_Story:mg "Story" = some (.ref ((bV c_Walk c_Frame c_Story c_Goer c_Nought c_Outside) "Story")):=by rw [cj];exact Pb X G mm_Story
 have m_Goer:mg "Goer" = some (.ref ((bV c_Walk c_Frame c_Story c_Goer c_Nought c_Outside) "Goer")):=by rw [bo];exact Pb X G mm_Goer
 have m_Nought:mg "Nought" = some (.ref ((bV c_Walk c_Frame c_Story c_Goer c_Nought c_Outside) "Nought")):=by rw [kf];exact Pb X G mm_Nought
 have m_Outside:mg "Outside" = some (.ref ((bV c_Walk c_Frame c_Story c_Goer c_Nought c_Outside) "Outside")):=by rw [jr];exact Pb X G mm_Outside
 have x_Nought:XClE K ((bV c_Walk c_Frame c_Story c_Goer c_Nought c_Outside) "Nought"):=by rw [kf];exact ex_Nought
 have x_Outside:XClE K ((bV c_Walk c_Frame c_Story c_Goer c_Nought c_Outside) "Outside"):=by rw [jr];exact ex_Outside
 have xm:Gd K ((bV c_Walk c_Frame c_Story c_Goer c_Nought c_Outside) "Nought") ((bV c_Walk c_Frame c_Story c_Goer c_Nought c_Outside) "Outside"):=by rw [kf,jr];exact ⟨xm1,xm2,xm3⟩
 have b_Walk___init__:=(bM (st:=dL) l3 c3 k3).binds (ps:=["self", "row"]) (λ _ _ _ _ _ _=>sj λ _ _=>rfl);have b_Walk_is_over:=(bM (st:=dZ) l4 c4 k4).binds (ps:=["self"]) (λ _ _ _ _ _ _=>uj λ _=>rfl);have mt_Walk_is_over:bg K ((bV c_Walk c_Frame c_Story c_Goer c_Nought c_Outside) "Walk") "is_over" f4:=by rw [gu];exact ⟨a4,ifn4,k4⟩
 have b_Walk_before:=(bM (st:=fg) l5 c5 k5).binds (ps:=["self"]) (λ _ _ _ _ _ _=>uj λ _=>rfl);have mt_Walk_before:bg K ((bV c_Walk c_Frame c_Story c_Goer c_Nought c_Outside) "Walk") "before" f5:=by rw [gu];exact ⟨a5,ifn5,k5⟩
 have b_Walk_taken:=(bM (st:=fK) l6 c6 k6).binds (ps:=["self"]) (λ _ _ _ _ _ _=>uj λ _=>rfl);have mt_Walk_taken:bg K ((bV c_Walk c_Frame c_Story c_Goer c_Nought c_Outside) "Walk") "taken" f6:=by rw [gu];exact ⟨a6,ifn6,k6⟩
 have b_Frame___init__:=(bM (st:=cX) l7 c7 k7).binds (ps:=["self", "body", "names", "given"]) (λ _ _ _ _ _ _=>Jr λ _ _ _ _=>rfl);have b_Frame_statement:=(bM (st:=cS) l8 c8 k8).binds (ps:=["self"]) (λ _ _ _ _ _ _=>uj λ _=>rfl);have mt_Frame_statement:bg K ((bV c_Walk c_Frame c_Story c_Goer c_Nought c_Outside) "Frame") "statement" f8:=by rw [cG];exact ⟨a8,ifn8,k8⟩
 have b_Frame_pass_by:=(bM (st:=dJ) l9 c9 k9).binds (ps:=["self"]) (λ _ _ _ _ _ _=>uj λ _=>rfl);have mt_Frame_pass_by:bg K ((bV c_Walk c_Frame c_Story c_Goer c_Nought c_Outside) "Frame") "pass_by" f9:=by rw [cG];exact ⟨a9,ifn9,k9⟩
 have b_Frame_enter:=(bM (st:=eZ) l10 c10 k10).binds (ps:=["self", "body"]) (λ _ _ _ _ _ _=>sj λ _ _=>rfl);have mt_Frame_enter:bg K ((bV c_Walk c_Frame c_Story c_Goer c_Nought c_Outside) "Frame") "enter" f10:=by rw [cG];exact ⟨a10,ifn10,k10⟩
 have b_Frame_enter_loop:=(bM (st:=cw) l11 c11 k11).binds (ps:=["self", "body"]) (λ _ _ _ _ _ _=>sj λ _ _=>rfl);have mt_Frame_enter_loop:bg K ((bV c_Walk c_Frame c_Story c_Goer c_Nought c_Outside) "Frame") "enter_loop" f11:=by rw [cG];exact ⟨a11,ifn11,k11⟩
 have b_Frame_leave_body:=(bM (st:=cv) l12 c12 k12).binds (ps:=["self"]) (λ _ _ _ _ _ _=>uj λ _=>rfl);have mt_Frame_leave_body:bg K ((bV c_Walk c_Frame c_Story c_Goer c_Nought c_Outside) "Frame") "leave_body" f12:=by rw [cG];exact ⟨a12,ifn12,k12⟩
 have b_Story___init__:=(bM (st:=cZ) l13 c13 k13).binds (ps:=["self"]) (λ _ _ _ _ _ _=>uj λ _=>rfl);have b_Story_begin_phase:=(bM (st:=cn) l14 c14 k14).binds (ps:=["self"]) (λ _ _ _ _ _ _=>uj λ _=>rfl);have mt_Story_begin_phase:bg K ((bV c_Walk c_Frame c_Story c_Goer c_Nought c_Outside) "Story") "begin_phase" f14:=by rw [cj];exact ⟨a14,ifn14,k14⟩
 have b_Story_add_step:=(bM (st:=df) l15 c15 k15).binds (ps:=["self", "line"]) (λ _ _ _ _ _ _=>sj λ _ _=>rfl);have mt_Story_add_step:bg K ((bV c_Walk c_Frame c_Story c_Goer c_Nought c_Outside) "Story") "add_step" f15:=by rw [cj];exact ⟨a15,ifn15,k15⟩
 have b_Story_add_touch:=(bM (st:=cO) l16 c16 k16).binds (ps:=["self", "word", "place", "line"]) (λ _ _ _ _ _ _=>Jr λ _ _ _ _=>rfl);have mt_Story_add_touch:bg K ((bV c_Walk c_Frame c_Story c_Goer c_Nought c_Outside) "Story") "add_touch" f16:=by rw [cj];exact ⟨a16,ifn16,k16⟩
 have b_Story_finish:=(bM (st:=eJ) l17 c17 k17).binds (ps:=["self", "word", "line"]) (λ _ _ _ _ _ _=>E7 λ _ _ _=>rfl);have mt_Story_finish:bg K ((bV c_Walk c_Frame c_Story c_Goer c_Nought c_Outside) "Story") "finish" f17:=by rw [cj];exact ⟨a17,ifn17,k17⟩
 have b_Goer___init__:=(bM (st:=dH) l18 c18 k18).binds (ps:=["self", "program", "lane", "lanes", "mine", "boxes", "most"]) (λ _ _ _ _ _ _=>MN λ _ _ _ _ _ _ _=>rfl);have b_Goer_touch:=(bM (st:=fP) l19 c19 k19).binds (ps:=["self", "word", "place"]) (λ _ _ _ _ _ _=>E7 λ _ _ _=>rfl);have mt_Goer_touch:bg K ((bV c_Walk c_Frame c_Story c_Goer c_Nought c_Outside) "Goer") "touch" f19:=by rw [bo];exact ⟨a19,ifn19,k19⟩
 have b_Goer_got:=(bM (st:=gH) l20 c20 k20).binds (ps:=["self", "place"]) (λ _ _ _ _ _ _=>sj λ _ _=>rfl);have mt_Goer_got:bg K ((bV c_Walk c_Frame c_Story c_Goer c_Nought c_Outside) "Goer") "got" f20:=by rw [bo];exact ⟨a20,ifn20,k20⟩
 have b_Goer_reckoned:=(bM (st:=dE) l21 c21 k21).binds (ps:=["self", "expression"]) (λ _ _ _ _ _ _=>sj λ _ _=>rfl);have mt_Goer_reckoned:bg K ((bV c_Walk c_Frame c_Story c_Goer c_Nought c_Outside) "Goer") "reckoned" f21:=by rw [bo];exact ⟨a21,ifn21,k21⟩
 have b_Goer_give:=(bM (st:=gk) l22 c22 k22).binds (ps:=["self", "name", "number"]) (λ _ _ _ _ _ _=>E7 λ _ _ _=>rfl);have mt_Goer_give:bg K ((bV c_Walk c_Frame c_Story c_Goer c_Nought c_Outside) "Goer") "give" f22:=by rw [bo];exact ⟨a22,ifn22,k22⟩
 have b_Goer_do_while:=(bM (st:=dG) l23 c23 k23).binds (ps:=["self", "statement"]) (λ _ _ _ _ _ _=>sj λ _ _=>rfl);have mt_Goer_do_while:bg K ((bV c_Walk c_Frame c_Story c_Goer c_Nought c_Outside) "Goer") "do_while" f23:=by rw [bo];exact ⟨a23,ifn23,k23⟩
 have b_Goer_do_if:=(bM (st:=fJ) l24 c24 k24).binds (ps:=["self", "statement"]) (λ _ _ _ _ _ _=>sj λ _ _=>rfl);have mt_Goer_do_if:bg K ((bV c_Walk c_Frame c_Story c_Goer c_Nought c_Outside) "Goer") "do_if" f24:=by rw [bo];exact ⟨a24,ifn24,k24⟩
 have b_Goer_leave:=(bM (st:=fE) l25 c25 k25).binds (ps:=["self", "statement"]) (λ _ _ _ _ _ _=>sj λ _ _=>rfl);have mt_Goer_leave:bg K ((bV c_Walk c_Frame c_Story c_Goer c_Nought c_Outside) "Goer") "leave" f25:=by rw [bo];exact ⟨a25,ifn25,k25⟩
 have b_Goer_do:=(bM (st:=iE) l26 c26 k26).binds (ps:=["self", "statement"]) (λ _ _ _ _ _ _=>sj λ _ _=>rfl);have mt_Goer_do:bg K ((bV c_Walk c_Frame c_Story c_Goer c_Nought c_Outside) "Goer") "do" f26:=by rw [bo];exact ⟨a26,ifn26,k26⟩
 have b_Goer_step:=(bM (st:=gq) l27 c27 k27).binds (ps:=["self", "statement"]) (λ _ _ _ _ _ _=>sj λ _ _=>rfl);have mt_Goer_step:bg K ((bV c_Walk c_Frame c_Story c_Goer c_Nought c_Outside) "Goer") "step" f27:=by rw [bo];exact ⟨a27,ifn27,k27⟩
 have b_Goer_end_def:=(bM (st:=eG) l28 c28 k28).binds (ps:=["self"]) (λ _ _ _ _ _ _=>uj λ _=>rfl);have mt_Goer_end_def:bg K ((bV c_Walk c_Frame c_Story c_Goer c_Nought c_Outside) "Goer") "end_def" f28:=by rw [bo];exact ⟨a28,ifn28,k28⟩
 have b_Goer_go:=(bM (st:=iI) l29 c29 k29).binds (ps:=["self"]) (λ _ _ _ _ _ _=>uj λ _=>rfl);have mt_Goer_go:bg K ((bV c_Walk c_Frame c_Story c_Goer c_Nought c_Outside) "Goer") "go" f29:=by rw [bo];exact ⟨a29,ifn29,k29⟩
 have cl_Walk:eU K ((bV c_Walk c_Frame c_Story c_Goer c_Nought c_Outside) "Walk"):=by rw [gu];exact ⟨pg_Walk,hd_Walk,po_Walk,sa_Walk⟩
 have n_Walk_row:ac K ((bV c_Walk c_Frame c_Story c_Goer c_Nought c_Outside) "Walk") "row" := by rw [gu];exact nn_Walk_row
 have n_Walk_at:ac K ((bV c_Walk c_Frame c_Story c_Goer c_Nought c_Outside) "Walk") "at" := by rw [gu];exact nn_Walk_at
 have M_Walk:Mk K ((bV c_Walk c_Frame c_Story c_Goer c_Nought c_Outside) "Walk") f3:=by rw [gu];exact ⟨mk_Walk,a3,ifn3,kc_Walk⟩
 have cl_Frame:eU K ((bV c_Walk c_Frame c_Story c_Goer c_Nought c_Outside) "Frame"):=by rw [cG];exact ⟨pg_Frame,hd_Frame,po_Frame,sa_Frame⟩
 have n_Frame_names:ac K ((bV c_Walk c_Frame c_Story c_Goer c_Nought c_Outside) "Frame") "names" := by rw [cG];exact nn_Frame_names
 have n_Frame_given:ac K ((bV c_Walk c_Frame c_Story c_Goer c_Nought c_Outside) "Frame") "given" := by rw [cG];exact nn_Frame_given
 have n_Frame_walks:ac K ((bV c_Walk c_Frame c_Story c_Goer c_Nought c_Outside) "Frame") "walks" := by rw [cG];exact nn_Frame_walks
 have n_Frame_loops:ac K ((bV c_Walk c_Frame c_Story c_Goer c_Nought c_Outside) "Frame") "loops" := by rw [cG];exact nn_Frame_loops
 have M_Frame:Mk K ((bV c_Walk c_Frame c_Story c_Goer c_Nought c_Outside) "Frame") f7:=by rw [cG];exact ⟨mk_Frame,a7,ifn7,kc_Frame⟩
 have cl_Story:eU K ((bV c_Walk c_Frame c_Story c_Goer c_Nought c_Outside) "Story"):=by rw [cj];exact ⟨pg_Story,hd_Story,po_Story,sa_Story⟩
 have n_Story_told:ac K ((bV c_Walk c_Frame c_Story c_Goer c_Nought c_Outside) "Story") "told" := by rw [cj];exact nn_Story_told
 have n_Story_steps:ac K ((bV c_Walk c_Frame c_Story c_Goer c_Nought c_Outside) "Story") "steps" := by rw [cj];exact nn_Story_steps
 have n_Story_end:ac K ((bV c_Walk c_Frame c_Story c_Goer c_Nought c_Outside) "Story") "end" := by rw [cj];exact nn_Story_end
 have n_Story_brought:ac K ((bV c_Walk c_Frame c_Story c_Goer c_Nought c_Outside) "Story") "brought" := by rw [cj];exact nn_Story_brought
 have n_Story_touches:ac K ((bV c_Walk c_Frame c_Story c_Goer c_Nought c_Outside) "Story") "touches" := by rw [cj];exact nn_Story_touches
 have n_Story_puts:ac K ((bV c_Walk c_Frame c_Story c_Goer c_Nought c_Outside) "Story") "puts" := by rw [cj];exact nn_Story_puts
 have n_Story_lines:ac K ((bV c_Walk c_Frame c_Story c_Goer c_Nought c_Outside) "Story") "lines" := by rw [cj];exact nn_Story_lines
 have M_Story:Mk K ((bV c_Walk c_Frame c_Story c_Goer c_Nought c_Outside) "Story") f13:=by rw [cj];exact ⟨mk_Story,a13,ifn13,kc_Story⟩
 have cl_Goer:eU K ((bV c_Walk c_Frame c_Story c_Goer c_Nought c_Outside) "Goer"):=by rw [bo];exact ⟨pg_Goer,hd_Goer,po_Goer,sa_Goer⟩
 have n_Goer_defs:ac K ((bV c_Walk c_Frame c_Story c_Goer c_Nought c_Outside) "Goer") "defs" := by rw [bo];exact nn_Goer_defs
 have n_Goer_lane:ac K ((bV c_Walk c_Frame c_Story c_Goer c_Nought c_Outside) "Goer") "lane" := by rw [bo];exact nn_Goer_lane
 have n_Goer_signs:ac K ((bV c_Walk c_Frame c_Story c_Goer c_Nought c_Outside) "Goer") "signs" := by rw [bo];exact nn_Goer_signs
 have n_Goer_boxes:ac K ((bV c_Walk c_Frame c_Story c_Goer c_Nought c_Outside) "Goer") "boxes" := by rw [bo];exact nn_Goer_boxes
 have n_Goer_most:ac K ((bV c_Walk c_Frame c_Story c_Goer c_Nought c_Outside) "Goer") "most" := by rw [bo];exact nn_Goer_most
 have n_Goer_frames:ac K ((bV c_Walk c_Frame c_Story c_Goer c_Nought c_Outside) "Goer") "frames" := by rw [bo];exact nn_Goer_frames
 have n_Goer_line:ac K ((bV c_Walk c_Frame c_Story c_Goer c_Nought c_Outside) "Goer") "line" := by rw [bo];exact nn_Goer_line
 have n_Goer_meeting:ac K ((bV c_Walk c_Frame c_Story c_Goer c_Nought c_Outside) "Goer") "meeting" := by rw [bo];exact nn_Goer_meeting
 have n_Goer_story:ac K ((bV c_Walk c_Frame c_Story c_Goer c_Nought c_Outside) "Goer") "story" := by rw [bo];exact nn_Goer_story
 have M_Goer:Mk K ((bV c_Walk c_Frame c_Story c_Goer c_Nought c_Outside) "Goer") f18:=by rw [bo];exact ⟨mk_Goer,a18,ifn18,kc_Goer⟩
 have z_bool:=Ph X G zz_bool;have z_enumerate:=Ph X G zz_enumerate;have z_int:=Ph X G zz_int;have z_isinstance:=Ph X G zz_isinstance;have z_len:=Ph X G zz_len;have z_list:=Ph X G zz_list;have z_repr:=Ph X G zz_repr;have m_LEAST:=Pb X G mm_LEAST;have g_LEAST:∀ ρ G,Dw K ρ G (.int (-2147483648)) ((.int (-2147483648))):=λ ρ G=>Dw.int _;have m_SIGNS:=Pb X G mm_SIGNS;have g_SIGNS:ET K a_SIGNS ([(Str.ofString "lane"),(Str.ofString "lanes"),(Str.ofString "mine")]):=λ _=>xG lk_SIGNS lc_SIGNS lt_SIGNS;have m_SPAN:=Pb X G mm_SPAN;have g_SPAN:∀ ρ G,Dw K ρ G (.int 4294967296) ((.int 4294967296)):=λ ρ G=>Dw.int _;obtain ⟨_,_,_,kV,dc,pm,an,cd,ct,_,ml,ll,cL,kL⟩:=a46;cases hfa.symm.trans (Pb X G ml);refine ⟨PySem.W.fnOf "law" "law" (aT tZ) (aM tZ) (ay tZ) .none kV dc pm an cd ct,λ s v=>.of_eq rfl,λ base _ _=>?_⟩;have C_wrapped:=uI (P:=l.prog) (w:=w) (base:=base) (a0.dn X G (λ _ _ _ _ _ _=>uj λ _=>rfl)) m_LEAST g_LEAST m_SPAN g_SPAN;have C_unwrapped:=qY (P:=l.prog) (w:=w) (base:=base) (a1.dn X G (λ _ _ _ _ _ _=>E7 λ _ _ _=>rfl));have C_worked:=xz (a2.dn X G (λ _ _ _ _ _ _=>E7 λ _ _ _=>rfl)) C_wrapped C_unwrapped;have C_Walk___init__:=lX (P:=l.prog) (w:=w) (base:=base) (cl:=(bV c_Walk c_Frame c_Story c_Goer c_Nought c_Outside)) ⟨_,_,bi l3 c3 k3,M_Walk,b_Walk___init__⟩ m_Walk cl_Walk n_Walk_row n_Walk_at;have C_Walk_is_over:=ng (P:=l.prog) (w:=w) (base:=base) (cl:=(bV c_Walk c_Frame c_Story c_Goer c_Nought c_Outside)) ⟨_,_,bi l4 c4 k4,mt_Walk_is_over,b_Walk_is_over⟩ m_Walk cl_Walk n_Walk_row n_Walk_at z_len;have C_Walk_before:=nZ (P:=l.prog) (w:=w) (base:=base) (cl:=(bV c_Walk c_Frame c_Story c_Goer c_Nought c_Outside)) ⟨_,_,bi l5 c5 k5,mt_Walk_before,b_Walk_before⟩ m_Walk cl_Walk n_Walk_row n_Walk_at;have C_Walk_taken:=pI (P:=l.prog) (w:=w) (base:=base) (cl:=(bV c_Walk c_Frame c_Story c_Goer c_Nought c_Outside)) ⟨_,_,bi l6 c6 k6,mt_Walk_taken,b_Walk_taken⟩ m_Walk cl_Walk n_Walk_row n_Walk_at;have C_Frame___init__:=lc (cl:=(bV c_Walk c_Frame c_Story c_Goer c_Nought c_Outside)) ⟨_,_,bi l7 c7 k7,M_Frame,b_Frame___init__⟩ C_Walk___init__ m_Frame cl_Frame n_Frame_names n_Frame_given n_Frame_walks n_Frame_loops m_Walk cl_Walk n_Walk_row n_Walk_at;have C_Frame_statement:=kl (cl:=(bV c_Walk c_Frame c_Story c_Goer c_Nought c_Outside)) ⟨_,_,bi l8 c8 k8,mt_Frame_statement,b_Frame_statement⟩ C_Walk_is_over C_Walk_before m_Frame cl_Frame n_Frame_names n_Frame_given n_Frame_walks n_Frame_loops m_Walk cl_Walk n_Walk_row n_Walk_at z_len;have C_Frame_pass_by:=lP (cl:=(bV c_Walk c_Frame c_Story c_Goer c_Nought c_Outside)) ⟨_,_,bi l9 c9 k9,mt_Frame_pass_by,b_Frame_pass_by⟩ C_Walk_taken m_Frame cl_Frame n_Frame_names n_Frame_given n_Frame_walks n_Frame_loops m_Walk cl_Walk n_Walk_row n_Walk_at;have C_Frame_enter:=ol (cl:=(bV c_Walk c_Frame c_Story c_Goer c_Nought c_Outside)) ⟨_,_,bi l10 c10 k10,mt_Frame_enter,b_Frame_enter⟩ C_Walk___init__ m_Frame cl_Frame n_Frame_names n_Frame_given n_Frame_walks n_Frame_loops m_Walk cl_Walk n_Walk_row n_Walk_at;have C_Frame_enter_loop:=jT (cl:=(bV c_Walk c_Frame c_Story c_Goer c_Nought c_Outside)) ⟨_,_,bi l11 c11 k11,mt_Frame_enter_loop,b_Frame_enter_loop⟩ C_Frame_enter m_Frame cl_Frame n_Frame_names n_Frame_given n_Frame_walks n_Frame_loops z_len;have C_Frame_leave_body:=jU (P:=l.prog) (w:=w) (base:=base) (cl:=(bV c_Walk c_Frame c_Story c_Goer c_Nought c_Outside)) ⟨_,_,bi l12 c12 k12,mt_Frame_leave_body,b_Frame_leave_body⟩ m_Frame cl_Frame n_Frame_names n_Frame_given n_Frame_walks n_Frame_loops;have C_Story___init__:=lm (P:=l.prog) (w:=w) (base:=base) (cl:=(bV c_Walk c_Frame c_Story c_Goer c_Nought c_Outside)) ⟨_,_,bi l13 c13 k13,M_Story,b_Story___init__⟩ m_Story cl_Story n_Story_told n_Story_steps n_Story_end n_Story_brought n_Story_touches n_Story_puts n_Story_lines;have C_Story_begin_phase:=j7 (P:=l.prog) (w:=w) (base:=base) (cl:=(bV c_Walk c_Frame c_Story c_Goer c_Nought c_Outside)) ⟨_,_,bi l14 c14 k14,mt_Story_begin_phase,b_Story_begin_phase⟩ m_Story cl_Story n_Story_told n_Story_steps n_Story_end n_Story_brought n_Story_touches n_Story_puts n_Story_lines;have C_Story_add_step:=kK (P:=l.prog) (w:=w) (base:=base) (cl:=(bV c_Walk c_Frame c_Story c_Goer c_Nought c_Outside)) ⟨_,_,bi l15 c15 k15,mt_Story_add_step,b_Story_add_step⟩ m_Story cl_Story n_Story_told n_Story_steps n_Story_end n_Story_brought n_Story_touches n_Story_puts n_Story_lines;have C_Story_add_touch:=ky (P:=l.prog) (w:=w) (base:=base) (cl:=(bV c_Walk c_Frame c_Story c_Goer c_Nought c_Outside)) ⟨_,_,bi l16 c16 k16,mt_Story_add_touch,b_Story_add_touch⟩ m_Story cl_Story n_Story_told n_Story_steps n_Story_end n_Story_brought n_Story_touches n_Story_puts n_Story_lines;have N_Story_finish:=mV (P:=l.prog) (w:=w) (base:=base) (cl:=(bV c_Walk c_Frame c_Story c_Goer c_Nought c_Outside)) ⟨_,_,bi l17 c17 k17,mt_Story_finish,b_Story_finish⟩ m_Story cl_Story n_Story_told n_Story_steps n_Story_end n_Story_brought n_Story_touches n_Story_puts n_Story_lines;have C_Story_finish:=N_Story_finish.ce;have C_Goer___init__:=lN (cl:=(bV c_Walk c_Frame c_Story c_Goer c_Nought c_Outside)) ⟨_,_,bi l18 c18 k18,M_Goer,b_Goer___init__⟩ C_wrapped C_Frame___init__ C_Story___init__ C_Story_begin_phase m_Frame cl_Frame n_Frame_names n_Frame_given n_Frame_walks n_Frame_loops m_Goer cl_Goer n_Goer_defs n_Goer_lane n_Goer_signs n_Goer_boxes n_Goer_most n_Goer_frames n_Goer_line n_Goer_meeting n_Goer_story m_Story cl_Story n_Story_told n_Story_steps n_Story_end n_Story_brought n_Story_touches n_Story_puts n_Story_lines;have C_Goer_touch:=p4 (cl:=(bV c_Walk c_Frame c_Story c_Goer c_Nought c_Outside)) ⟨_,_,bi l19 c19 k19,mt_Goer_touch,b_Goer_touch⟩ C_Story_add_touch m_Goer cl_Goer n_Goer_defs n_Goer_lane n_Goer_signs n_Goer_boxes n_Goer_most n_Goer_frames n_Goer_line n_Goer_meeting n_Goer_story m_Story cl_Story n_Story_told n_Story_steps n_Story_end n_Story_brought n_Story_touches n_Story_puts n_Story_lines m_Outside x_Outside z_len;have C_Goer_got:=uc (cl:=(bV c_Walk c_Frame c_Story c_Goer c_Nought c_Outside)) ⟨_,_,bi l20 c20 k20,mt_Goer_got,b_Goer_got⟩ C_Goer_touch m_Goer cl_Goer n_Goer_defs n_Goer_lane n_Goer_signs n_Goer_boxes n_Goer_most n_Goer_frames n_Goer_line n_Goer_meeting n_Goer_story;have C_Goer_reckoned:=lZ (cl:=(bV c_Walk c_Frame c_Story c_Goer c_Nought c_Outside)) ⟨_,_,bi l21 c21 k21,mt_Goer_reckoned,b_Goer_reckoned⟩ C_Goer_got C_worked m_Frame cl_Frame n_Frame_names n_Frame_given n_Frame_walks n_Frame_loops m_Goer cl_Goer n_Goer_defs n_Goer_lane n_Goer_signs n_Goer_boxes n_Goer_most n_Goer_frames n_Goer_line n_Goer_meeting n_Goer_story m_Nought x_Nought m_SIGNS g_SIGNS;have C_Goer_give:=qX (P:=l.prog) (w:=w) (base:=base) (cl:=(bV c_Walk c_Frame c_Story c_Goer c_Nought c_Outside)) ⟨_,_,bi l22 c22 k22,mt_Goer_give,b_Goer_give⟩ m_Frame cl_Frame n_Frame_names n_Frame_given n_Frame_walks n_Frame_loops m_Goer cl_Goer n_Goer_defs n_Goer_lane n_Goer_signs n_Goer_boxes n_Goer_most n_Goer_frames n_Goer_line n_Goer_meeting n_Goer_story;have C_Goer_do_while:=lU (cl:=(bV c_Walk c_Frame c_Story c_Goer c_Nought c_Outside)) ⟨_,_,bi l23 c23 k23,mt_Goer_do_while,b_Goer_do_while⟩ C_Goer_reckoned C_Frame_enter_loop C_Frame_pass_by m_Frame cl_Frame n_Frame_names n_Frame_given n_Frame_walks n_Frame_loops m_Goer cl_Goer n_Goer_defs n_Goer_lane n_Goer_signs n_Goer_boxes n_Goer_most n_Goer_frames n_Goer_line n_Goer_meeting n_Goer_story;have C_Goer_do_if:=p8 (cl:=(bV c_Walk c_Frame c_Story c_Goer c_Nought c_Outside)) ⟨_,_,bi l24 c24 k24,mt_Goer_do_if,b_Goer_do_if⟩ C_Goer_reckoned C_Frame_enter m_Frame cl_Frame n_Frame_names n_Frame_given n_Frame_walks n_Frame_loops m_Goer cl_Goer n_Goer_defs n_Goer_lane n_Goer_signs n_Goer_boxes n_Goer_most n_Goer_frames n_Goer_line n_Goer_meeting n_Goer_story;have C_Goer_leave:=pH (cl:=(bV c_Walk c_Frame c_Story c_Goer c_Nought c_Outside)) ⟨_,_,bi l25 c25 k25,mt_Goer_leave,b_Goer_leave⟩ C_Story_finish C_Frame_leave_body C_Frame_pass_by m_Frame cl_Frame n_Frame_names n_Frame_given n_Frame_walks n_Frame_loops m_Goer cl_Goer n_Goer_defs n_Goer_lane n_Goer_signs n_Goer_boxes n_Goer_most n_Goer_frames n_Goer_line n_Goer_meeting n_Goer_story m_Story cl_Story n_Story_told n_Story_steps n_Story_end n_Story_brought n_Story_touches n_Story_puts n_Story_lines;have C_Goer_do:=vp (cl:=(bV c_Walk c_Frame c_Story c_Goer c_Nought c_Outside)) ⟨_,_,bi l26 c26 k26,mt_Goer_do,b_Goer_do⟩ C_Goer_do_while C_Frame_pass_by C_Goer_give C_Goer_reckoned C_Goer_do_if C_Goer_leave m_Frame cl_Frame n_Frame_names n_Frame_given n_Frame_walks n_Frame_loops m_Goer cl_Goer n_Goer_defs n_Goer_lane n_Goer_signs n_Goer_boxes n_Goer_most n_Goer_frames n_Goer_line n_Goer_meeting n_Goer_story m_Story cl_Story n_Story_told n_Story_steps n_Story_end n_Story_brought n_Story_touches n_Story_puts n_Story_lines;have C_Goer_step:=su (cl:=(bV c_Walk c_Frame c_Story c_Goer c_Nought c_Outside)) ⟨_,_,bi l27 c27 k27,mt_Goer_step,b_Goer_step⟩ C_Story_add_step C_Goer_do m_Goer cl_Goer n_Goer_defs n_Goer_lane n_Goer_signs n_Goer_boxes n_Goer_most n_Goer_frames n_Goer_line n_Goer_meeting n_Goer_story m_Story cl_Story n_Story_told n_Story_steps n_Story_end n_Story_brought n_Story_touches n_Story_puts n_Story_lines m_Nought m_Outside xm N_Story_finish;have C_Goer_end_def:=nk (cl:=(bV c_Walk c_Frame c_Story c_Goer c_Nought c_Outside)) ⟨_,_,bi l28 c28 k28,mt_Goer_end_def,b_Goer_end_def⟩ C_Story_finish m_Goer cl_Goer n_Goer_defs n_Goer_lane n_Goer_signs n_Goer_boxes n_Goer_most n_Goer_frames n_Goer_line n_Goer_meeting n_Goer_story m_Story cl_Story n_Story_told n_Story_steps n_Story_end n_Story_brought n_Story_touches n_Story_puts n_Story_lines z_len;have C_Goer_go:=uJ (cl:=(bV c_Walk c_Frame c_Story c_Goer c_Nought c_Outside)) ⟨_,_,bi l29 c29 k29,mt_Goer_go,b_Goer_go⟩ C_Frame_statement C_Goer_end_def C_Goer_step m_Frame cl_Frame n_Frame_names n_Frame_given n_Frame_walks n_Frame_loops m_Goer cl_Goer n_Goer_defs n_Goer_lane n_Goer_signs n_Goer_boxes n_Goer_most n_Goer_frames n_Goer_line n_Goer_meeting n_Goer_story m_Story cl_Story n_Story_told n_Story_steps n_Story_end n_Story_brought n_Story_touches n_Story_puts n_Story_lines;have C_alone:=yt (cl:=(bV c_Walk c_Frame c_Story c_Goer c_Nought c_Outside)) (a30.dn X G (λ _ _ _ _ _ _=>MN λ _ _ _ _ _ _ _=>rfl)) C_Goer___init__ C_Goer_go m_Goer cl_Goer n_Goer_defs n_Goer_lane n_Goer_signs n_Goer_boxes n_Goer_most n_Goer_frames n_Goer_line n_Goer_meeting n_Goer_story;have C__law_cell:=rC (P:=l.prog) (w:=w) (base:=base) (a31.dn X G (λ _ _ _ _ _ _=>sj λ _ _=>rfl)) z_len;have C__law_mixed:=pz (P:=l.prog) (w:=w) (base:=base) (a32.dn X G (λ _ _ _ _ _ _=>sj λ _ _=>rfl));have C__law_all_whole:=kY (P:=l.prog) (w:=w) (base:=base) (cl:=(bV c_Walk c_Frame c_Story c_Goer c_Nought c_Outside)) (a33.dn X G (λ _ _ _ _ _ _=>uj λ _=>rfl)) z_len z_isinstance z_bool z_int;have C__law_into_range:=kj (P:=l.prog) (w:=w) (base:=base) (a34.dn X G (λ _ _ _ _ _ _=>uj λ _=>rfl));have C__law_names:=p6 (P:=l.prog) (w:=w) (base:=base) (a35.dn X G (λ _ _ _ _ _ _=>uj λ _=>rfl));have C__law_test:=rN (P:=l.prog) (w:=w) (base:=base) (a36.dn X G (λ _ _ _ _ _ _=>sj λ _ _=>rfl));have C__law_sum:=t9 (P:=l.prog) (w:=w) (base:=base) (a37.dn X G (λ _ _ _ _ _ _=>sj λ _ _=>rfl));have C__law_line:=rK (cl:=(bV c_Walk c_Frame c_Story c_Goer c_Nought c_Outside)) (a38.dn X G (λ _ _ _ _ _ _=>Jr λ _ _ _ _=>rfl)) C__law_sum C__law_test z_len;have C__law_rows:=rB (cl:=(bV c_Walk c_Frame c_Story c_Goer c_Nought c_Outside)) (a39.dn X G (λ _ _ _ _ _ _=>sj λ _ _=>rfl)) C__law_mixed C__law_line z_len;have C__law_block:=pw (P:=l.prog) (w:=w) (base:=base) (a40.dn X G (λ _ _ _ _ _ _=>sj λ _ _=>rfl));have C__law_partners:=mj (P:=l.prog) (w:=w) (base:=base) (cl:=(bV c_Walk c_Frame c_Story c_Goer c_Nought c_Outside)) (a41.dn X G (λ _ _ _ _ _ _=>uj λ _=>rfl)) z_len z_enumerate;have C__law_number:=nS (cl:=(bV c_Walk c_Frame c_Story c_Goer c_Nought c_Outside)) (a42.dn X G (λ _ _ _ _ _ _=>sj λ _ _=>rfl)) C__law_into_range z_int;have C__law_onward:=oS (P:=l.prog) (w:=w) (base:=base) (a43.dn X G (λ _ _ _ _ _ _=>E7 λ _ _ _=>rfl));have C__law_next:=si (cl:=(bV c_Walk c_Frame c_Story c_Goer c_Nought c_Outside)) (a44.dn X G (λ _ _ _ _ _ _=>ML λ _ _ _ _ _=>rfl)) C__law_number;have C__law_holds:=p9 (cl:=(bV c_Walk c_Frame c_Story c_Goer c_Nought c_Outside)) (a45.dn X G (λ _ _ _ _ _ _=>Jr λ _ _ _ _=>rfl)) C__law_onward C__law_all_whole C__law_number C__law_next m_Story cl_Story n_Story_told n_Story_steps n_Story_end n_Story_brought n_Story_touches n_Story_puts n_Story_lines z_isinstance z_list z_len;obtain ⟨_,_,⟨rfl,rfl⟩,F⟩:=F3 (cl:=(bV c_Walk c_Frame c_Story c_Goer c_Nought c_Outside)) (R:=λ g gd=>g=fa/\gd=_) yk ⟨_,_,bi ll cL kL,rfl,rfl⟩ C__law_names C__law_mixed C__law_cell C__law_rows C__law_block C_alone C__law_holds C__law_partners z_len z_repr;exact F
theorem walk {l:PySem.W.OpenLaw} {q:Program} {loose:List Str} {XP:(Str->Option Value)->Heap->Prop} {YP:World->Heap->Prop} {d:DefRec} {K:Params->Frag} (hn:l.most=some 63) (hdf:d.params.defaults=[])
 (hY:∀ (w:World) (h:Heap),YP w h->(K w.params).In h)
 (F:∀ (w:World) (mg:Str->Option Value) (fa:Addr) (h:Heap),(K w.params).In h->h.Ns mainGlobals mg->mg d.name=some (.ref fa)->
  ∃ fd:FuncData,(∀ (s:Shared) (u:Value),BindsTo s fd ⟨[u],[]⟩ [("_law_script", u)])/\∀ base:Heap,(K w.params).In base->base.Ns mainGlobals mg->eE l.prog w (K w.params) mg base va 18 fa fd ["_law_script"] (rD (K w.params))):
 PySem.W.WalkO q loose XP YP l.row.toRowW d [] (λ f vs=>PySem.call f vs):=
 L2.walk_of (n:=63) (k:=18) (x := "_law_script") (CX:=λ _=>va) (sp:=λ w=>(rD (K w.params))) hn (by decide) hdf ⟨rfl,by decide,by decide,rfl⟩ hY F (λ _ _ a ns hl _ hS=>⟨a,ns,rfl,hS,hl,λ _=>rfl⟩) λ _ _ _ _ _ z=>z
theorem toX {q:Program} {loose:List Str} {XP:(Str->Option Value)->Heap->Prop} {r:PySem.W.RowW} {d:DefRec} {kwd:List (Str×Expr)} {run:Value->List Value->Sem Value} {K:Params->Frag} {as:List Addr} {n t:Nat} (e:∀ P,as=(K P).map (·.1))
 (h:PySem.W.WalkO q loose XP (λ w h=>(K w.params).In h) r d kwd run):PySem.W.WalkX q loose XP (PySem.W.X.obsZ as) (PySem.W.X.valZ K n t) r d kwd run:=
 λ w s0 s1 mg mb G y a o pm cd doc dV kV h1 h2 h3 h4 h5 h6 args vals as' L hp hl hr hw ho=>h w s0 s1 mg mb G (PySem.W.InK.keeps w s0.heap s1.heap (PySem.W.X.z_facts e y).2.1 L.keeps) a o pm cd doc dV kV h1 h2 h3 h4 h5 h6 args vals as' hp hl hr hw ho
end My
end
open PySem PySem.W PyProof.Rows
def Sp.k {α : Type} (x : α) (t : True) : α := x
local macro_rules
 | `(command| universe $z) => do
  let F (s : String) (n : Lean.Name) := Lean.mkIdent (`PySem.W.Fast ++ .mkSimple s!"{s}{n.hash}")
  let mut a := #[]
  let mut b := #[]
  let p := Lean.mkIdent `PySem.Challenge.pw_widelanes_k43_alone_branches
  for k in [0:39] do
   let c := .mkStr2 "Sp" s!"c{k}"
   let C := Lean.mkIdent c
   let (T, e) <- if k < 38 then pure (<- `(Stmt), <- `(($p).main.body.getD $(Lean.quote k) (.Pass ⟨0, 0, 0, 0⟩))) else pure (<- `(Scope), <- `(($p).main.scope))
   a := ((a.push (<- `(command| def $C : $T := $e))).push (<- `(command| noncomputable def $(F "tw" c) : $T := by
    refine Sp.k ?x ?t
    case t =>
     have h : $C = ?x := by conv => lhs; whnf
     exact trivial))).push (<- `(command| theorem $(F "te" c) : $C = $(F "tw" c) := by kernel_rfl))
   b := b.push C
  for (i, j) in ([(919,1480)] : List (Nat × Nat)) do
   for k in [i:j] do
    a := a.push (<- `(command| def $(F "tw" (`PySem.Challenge.cw_widelanes_k43_alone_branches_holds ++ .mkSimple s!"o_{k}")) := ()))
  let q := b.pop
  let s := b.back!
  return Lean.mkNullNode (a.push (<- `(command| def $(Lean.mkIdent `Sp.p) : Program := { main := { body := [$q,*], scope := $s, futureAnnotations := false, file := "/claim/cut.py", more := [] }, modules := [], parses := [], absent := [], harvested := [], given := { argv := [], stdin := [], environ := (some [([76, 67, 95, 65, 76, 76], [67, 46, 85, 84, 70, 45, 56])]) } })))
universe u
set_option maxRecDepth 100000 in
set_option maxHeartbeats 0 in
theorem PySem.Challenge.cw_widelanes_k43_alone_branches_holds : PySem.Challenge.rw_widelanes_k43_alone_branches.Holds := by
 show OpenLaw.Holds { prog := Sp.p, name := "law", about := ["alone"], foot := 16, most := some 63, bound := none, writes := false }
 w_on; o_law;z_head;(case hw=>w_witness2)
 refine My.toX (λ _=>rfl) (My.walk (l:={ prog := Sp.p, name := "law", about := ["alone"], foot := 16, most := some 63, bound := none, writes := false }) rfl rfl (λ w h Y=>Y) ?F)
 case F=>
  intro w mg fa h KX G hmg;refine' My.all_mk KX G hmg ?mm_Walk ?mm_Frame ?mm_Story ?mm_Goer ?mm_Nought ?mm_Outside ?ex_Nought ?ex_Outside ?xm1 ?xm2 ?xm3 ?a0 ?a1 ?a2 ?a3 ?ifn3 ?l3 ?c3 ?k3 ?a4 ?ifn4 ?l4 ?c4 ?k4 ?a5 ?ifn5 ?l5 ?c5 ?k5 ?a6 ?ifn6 ?l6 ?c6 ?k6 ?a7 ?ifn7 ?l7 ?c7 ?k7 ?a8 ?ifn8 ?l8 ?c8 ?k8 ?a9 ?ifn9 ?l9 ?c9 ?k9 ?a10 ?ifn10 ?l10 ?c10 ?k10 ?a11 ?ifn11 ?l11 ?c11 ?k11 ?a12 ?ifn12 ?l12 ?c12 ?k12 ?a13 ?ifn13 ?l13 ?c13 ?k13 ?a14 ?ifn14 ?l14 ?c14 ?k14 ?a15 ?ifn15 ?l15 ?c15 ?k15 ?a16 ?ifn16 ?l16 ?c16 ?k16 ?a17 ?ifn17 ?l17 ?c17 ?k17 ?a18 ?ifn18 ?l18 ?c18 ?k18 ?a19 ?ifn19 ?l19 ?c19 ?k19 ?a20 ?ifn20 ?l20 ?c20 ?k20 ?a21 ?ifn21 ?l21 ?c21 ?k21 ?a22 ?ifn22 ?l22 ?c22 ?k22 ?a23 ?ifn23 ?l23 ?c23 ?k23 ?a24 ?ifn24 ?l24 ?c24 ?k24 ?a25 ?ifn25 ?l25 ?c25 ?k25 ?a26 ?ifn26 ?l26 ?c26 ?k26 ?a27 ?ifn27 ?l27 ?c27 ?k27 ?a28 ?ifn28 ?l28 ?c28 ?k28 ?a29 ?ifn29 ?l29 ?c29 ?k29 ?a30 ?a31 ?a32 ?a33 ?a34 ?a35 ?a36 ?a37 ?a38 ?a39 ?a40 ?a41 ?a42 ?a43 ?a44 ?a45 ?a46 ?pg_Walk ?hd_Walk ?po_Walk ?sa_Walk ?mk_Walk ?kc_Walk ?nn_Walk_row ?nn_Walk_at ?pg_Frame ?hd_Frame ?po_Frame ?sa_Frame ?mk_Frame ?kc_Frame ?nn_Frame_names ?nn_Frame_given ?nn_Frame_walks ?nn_Frame_loops ?pg_Story ?hd_Story ?po_Story ?sa_Story ?mk_Story ?kc_Story ?nn_Story_told ?nn_Story_steps ?nn_Story_end ?nn_Story_brought ?nn_Story_touches ?nn_Story_puts ?nn_Story_lines ?pg_Goer ?hd_Goer ?po_Goer ?sa_Goer ?mk_Goer ?kc_Goer ?nn_Goer_defs ?nn_Goer_lane ?nn_Goer_signs ?nn_Goer_boxes ?nn_Goer_most ?nn_Goer_frames ?nn_Goer_line ?nn_Goer_meeting ?nn_Goer_story ?zz_bool ?zz_enumerate ?zz_int ?zz_isinstance ?zz_len ?zz_list ?zz_repr ?mm_LEAST ?mm_SIGNS ?lk_SIGNS ?lc_SIGNS ?lt_SIGNS ?mm_SPAN
  (case mm_Walk | mm_Frame | mm_Story | mm_Goer | mm_Nought | mm_Outside=>k_is)
  (case ex_Nought | ex_Outside=>(unfold L2.XClE L2.mroEx;k_exc))
  (case xm1 | xm2 | xm3=>kts_exm)
  (case a0 | a1 | a2=>exact ⟨_,_,_,_,_,_,_,_,_,_,by k_is,by k_is,by k_is,by k_is⟩)
  (case a3 | ifn3 | l3 | c3 | k3 | a4 | ifn4 | l4 | c4 | k4 | a5 | ifn5 | l5 | c5 | k5 | a6 | ifn6 | l6 | c6 | k6 | a7 | ifn7 | l7 | c7 | k7 | a8 | ifn8 | l8 | c8 | k8 | a9 | ifn9 | l9 | c9 | k9 | a10 | ifn10 | l10 | c10 | k10 | a11 | ifn11 | l11 | c11 | k11 | a12 | ifn12 | l12 | c12 | k12 | a13 | ifn13 | l13 | c13 | k13 | a14 | ifn14 | l14 | c14 | k14 | a15 | ifn15 | l15 | c15 | k15 | a16 | ifn16 | l16 | c16 | k16 | a17 | ifn17 | l17 | c17 | k17 | a18 | ifn18 | l18 | c18 | k18 | a19 | ifn19 | l19 | c19 | k19 | a20 | ifn20 | l20 | c20 | k20 | a21 | ifn21 | l21 | c21 | k21 | a22 | ifn22 | l22 | c22 | k22 | a23 | ifn23 | l23 | c23 | k23 | a24 | ifn24 | l24 | c24 | k24 | a25 | ifn25 | l25 | c25 | k25 | a26 | ifn26 | l26 | c26 | k26 | a27 | ifn27 | l27 | c27 | k27 | a28 | ifn28 | l28 | c28 | k28 | a29 | ifn29 | l29 | c29 | k29=>k_is)
  (case a30 | a31 | a32 | a33 | a34 | a35 | a36 | a37 | a38 | a39 | a40 | a41 | a42 | a43 | a44 | a45 | a46=>exact ⟨_,_,_,_,_,_,_,_,_,_,by k_is,by k_is,by k_is,by k_is⟩)
  (case pg_Walk | hd_Walk | po_Walk | sa_Walk | mk_Walk | kc_Walk | nn_Walk_row | nn_Walk_at | pg_Frame | hd_Frame | po_Frame | sa_Frame | mk_Frame | kc_Frame | nn_Frame_names | nn_Frame_given | nn_Frame_walks | nn_Frame_loops | pg_Story | hd_Story | po_Story | sa_Story | mk_Story | kc_Story | nn_Story_told | nn_Story_steps | nn_Story_end | nn_Story_brought | nn_Story_touches | nn_Story_puts | nn_Story_lines | pg_Goer | hd_Goer | po_Goer | sa_Goer | mk_Goer | kc_Goer | nn_Goer_defs | nn_Goer_lane | nn_Goer_signs | nn_Goer_boxes | nn_Goer_most | nn_Goer_frames | nn_Goer_line | nn_Goer_meeting | nn_Goer_story | zz_bool | zz_enumerate | zz_int | zz_isinstance | zz_len | zz_list | zz_repr | mm_LEAST | mm_SIGNS | lk_SIGNS=>k_is)
  (case lc_SIGNS=>rfl)
  (case lt_SIGNS=>kernel_rfl)
  (case mm_SPAN=>k_is)
