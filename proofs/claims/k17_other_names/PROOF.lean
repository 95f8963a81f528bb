import PyProof.Rows.All
import Wide.All
import OpenK.AllK
import Wide.FinOn
import Lean
import PyProof.EqAt
import PyProof.EqKinds
import PyProof.TupleCall
import PySem.Challenge.RW_widelanes_k17_other_names
set_option Elab.async false
set_option genSizeOf false
set_option genSizeOfSpec false
set_option genInjectivity false
set_option compiler.extract_closed false
set_option linter.all false
set_option maxRecDepth 100000
section
local macro_rules | `(command| def $n:declId $b* : $t $v:declVal) => `(command| theorem $n:declId $b* : $t $v:declVal)
local macro_rules | `(tactic| omega) => `(tactic| first | lia | omega +splitNatSub)
open List (mem_cons map_cons size_toArray mem_map not_mem_nil length_map length_cons mem_singleton length_append append_nil map_append getElem?_eq_getElem find?_cons map_map getElem?_set_ne mem_append nodup_cons getElem?_append_left getElem?_map mem_cons_self any_cons mem_cons_of_mem mem_append_right length_nil append_assoc replicate_succ mem_of_getElem? prefix_refl length_set getElem_mem flatMap_cons getElem?_append_right drop_eq_getElem_cons filter_cons_of_neg filter_cons_of_pos length_singleton length_drop of_mem_zip forall_mem_cons map_nil mem_map_of_mem flatten_cons mem_filterMap mem_filter drop_length getElem?_eq_none take_of_length_le length_take sum_cons find?_eq_none mem_flatMap getElem?_replicate map_take mem_range length_filter_le all_eq_true any_eq_true nodup_nil foldl_cons map_set lookup_cons all_cons ext_getElem? nodup_append)
open Nat (le_refl ne_of_lt le_trans lt_of_lt_of_le zero_le lt_succ_self lt_irrefl le_of_lt lt_trans lt_or_ge le_of_eq not_lt_zero add_assoc)
open Option (bind_some map_some isSome_some isSome_iff_exists getD_none isSome_map getD_some)
open Bool (and_eq_true false_eq_true or_eq_true)
open PySem.Heap (lt_size get?_push_of_some get?_push_size size_push)
open PySem.PyData (strOk canLayAll0 canLay0 eqvAll)
open Array (getElem?_toList length_toList toList_append mem_toList_iff)
open Int (toNat_natCast ofNat_lt)
abbrev Γ:=PySem.Value->PySem.Shared->Prop
abbrev Δ:=List (PySem.Addr×PySem.Obj)
abbrev Θ:=PySem.Str->Option PySem.Value
abbrev Λ:=List (Option Nat)
abbrev Ξ:=List PySem.Addr
abbrev Φ:=List PySem.Value
abbrev Ψ:=PySem.Str->PySem.Str
abbrev Ω:=List PySem.Str
namespace L2
open PySem PySem.Spec PyProof.Rows
open PySem.W (Frag)
def oB {α β:Type} {x:Option α} {f:α->Option β} {b:β} (h:x.bind f=some b):∃ a,x=some a/\f a=some b:=Option.bind_eq_some_iff.mp h
def oM {α β:Type} {x:Option α} {f:α->β} {b:β} (h:x.map f=some b):∃ a,x=some a/\f a=b:=Option.map_eq_some_iff.mp h
def oG {α:Type} {l:List α} {i:Nat} {a:α} (h:l[i]?=some a):∃ h:i<l.length,l[i]=a:=List.getElem?_eq_some_iff.mp h
noncomputable abbrev aA:=Sum Int Str
noncomputable def pV:aA->Value->Bool
 | .inl k,v=>Value.isInt k v
 | .inr x,v=>Value.isStrOf x v
noncomputable def Nj (w:World):aA->Int
 | .inl k=>hashInt k
 | .inr x=>hashStr w x
def cp:∀ {k:aA} {v:Value},pV k v=true->(∃ i t,k=Sum.inl i/\v=Value.int i t)∨(∃ x t,k=Sum.inr x/\v=Value.str x t)
 | .inl i,v,h=>by
  obtain ⟨t,e⟩:=Value.isInt_shape (k:=i) (v:=v) h
  exact .inl ⟨i,t,rfl,e⟩
 | .inr x,v,h=>by
  obtain ⟨t,e⟩:=Value.isStrOf_shape (x:=x) (v:=v) h
  exact .inr ⟨x,t,rfl,e⟩
def yk (i:Int) (t:Tok):pV (.inl i) (.int i t)=true:=by simp [pV,Value.isInt]
def yB (x:Str) (t:Tok):pV (.inr x) (.str x t)=true:=by simp [pV,Value.isStrOf]
def GZ (a b:Int):decide ((Sum.inl a:aA)=Sum.inl b)=(a==b):=by
 by_cases e:a=b
 . subst e;simp
 . have h:¬ (Sum.inl a:aA)=Sum.inl b:=λ q=>e (Sum.inl.inj q)
   rw [decide_eq_false h]
   exact (beq_eq_false_iff_ne.mpr e).symm
def Gs (a b:Str):decide ((Sum.inr a:aA)=Sum.inr b)=decide (a=b):=by
 by_cases e:a=b
 . subst e;simp
 . have h:¬ (Sum.inr a:aA)=Sum.inr b:=λ q=>e (Sum.inr.inj q)
   rw [decide_eq_false h,decide_eq_false e]
def Hc (a:Int) (b:Str):decide ((Sum.inl a:aA)=Sum.inr b)=false:=decide_eq_false (λ q=>nomatch q)
def HE (a:Str) (b:Int):decide ((Sum.inr a:aA)=Sum.inl b)=false:=decide_eq_false (λ q=>nomatch q)
noncomputable def bq (prog:Program) (w:World):PySem.KeyKind prog w aA where
 is:=pV
 hash:=Nj w
 inj:=λ v a b ha hb=>by
  rcases cp ha with ⟨i,t,rfl,rfl⟩ | ⟨x,t,rfl,rfl⟩
  . rcases cp hb with ⟨j,u,rfl,e⟩ | ⟨y,u,rfl,e⟩
    . injection e with e1 _;rw [e1]
    . exact nomatch e
  . rcases cp hb with ⟨j,u,rfl,e⟩ | ⟨y,u,rfl,e⟩
    . exact nomatch e
    . injection e with e1 _;rw [e1]
 byValue:=λ k v h=>by
  rcases cp h with ⟨i,t,rfl,rfl⟩ | ⟨x,t,rfl,rfl⟩ <;> rfl
 pyHash:=λ hv h=>by
  rcases cp hv with ⟨i,t,rfl,rfl⟩ | ⟨x,t,rfl,rfl⟩
  . exact wpAny_pyHash_int h
  . exact wpAny_pyHash_str h
 eqBool:=λ hu hv h=>by
  rcases cp hu with ⟨i,t,rfl,rfl⟩ | ⟨x,t,rfl,rfl⟩
  . rcases cp hv with ⟨j,u,rfl,rfl⟩ | ⟨y,u,rfl,rfl⟩
    . rw [GZ] at h;exact wpAny_eqBool_int h
    . rw [Hc] at h;exact SeqAt.EqAt.int_str i t y u _ _ _ _ h
  . rcases cp hv with ⟨j,u,rfl,rfl⟩ | ⟨y,u,rfl,rfl⟩
    . rw [HE] at h;exact SeqAt.EqAt.str_int x t j u _ _ _ _ h
    . rw [Gs] at h;exact wpAny_eqBool_str h
 «strs»:=λ k x t v h=>by
  rcases cp h with ⟨i,u,rfl,e⟩ | ⟨y,u,rfl,e⟩
  . exact nomatch e
  . injection e with e1 _
    subst e1
    cases v <;> rfl
def sS (prog:Program) (w:World) (i:Int) (t:Tok):(bq prog w).is (.inl i) (.int i t)=true:=yk i t
def sP (prog:Program) (w:World) (x:Str) (t:Tok):(bq prog w).is (.inr x) (.str x t)=true:=yB x t
noncomputable def nH (P:Program) (w:World) (ks:List aA):Int:=if ks=[] then 4238894112 else (tupleKind (bq P w)).hash ks
noncomputable def nE (P:Program) (w:World) (x:List aA×Value×Value):DictEntry:=⟨nH P w x.1,x.2.1,x.2.2⟩
set_option genInjectivity true in
inductive V where
 | non | bl (b:Bool) | int (i:Int) | str (x:Str) | byt (b:Array UInt8) | flt (b:UInt64) | ref (a:Addr) | ty (n:String)
 deriving DecidableEq
noncomputable def bc:V->Value->Prop
 | .non,u=>u=Value.none
 | .bl b,u=>u=Value.bool b
 | .int i,u=>∃ t,u=Value.int i t
 | .str x,u=>∃ t,u=Value.str x t
 | .byt b,u=>∃ t,u=Value.bytes b t
 | .flt b,u=>∃ t,u=Value.float b t
 | .ref a,u=>u=Value.ref a
 | .ty n,u=>u=Value.type n
noncomputable abbrev bb:List V->List Value->Prop:=Paired bc
def bb.length {xs:List V} {us:Φ} (r:bb xs us):xs.length=us.length:=Paired.length r
def bb.get {xs:List V} {us:Φ} {i:Nat} {x:V} (h:bb xs us) (e:xs[i]?=some x):∃ u,us[i]?=some u/\bc x u:=by
 induction h generalizing i with
 | nil=>cases e
 | cons r _ ih=>
  cases i with
  | zero=>cases e;exact ⟨_,rfl,r⟩
  | succ i=>exact ih (i:=i) e
def bb.set {x:V} {u:Value} (r:bc x u) {xs:List V} {us:Φ} (i:Nat) (h:bb xs us):bb (xs.set i x) (us.set i u):=by
 induction h generalizing i with
 | nil=>exact .nil
 | cons q t ih=>
  cases i with
  | zero=>exact .cons r t
  | succ i=>exact .cons q (ih i)
def bb.append {xs ys:List V} {us ws:Φ} (h:bb xs us) (s:bb ys ws):bb (xs++ys) (us++ws):=by
 induction h with
 | nil=>exact s
 | cons r _ ih=>exact .cons r ih
def bb.take {xs:List V} {us:Φ} (n:Nat) (h:bb xs us):bb (xs.take n) (us.take n):=by
 induction h generalizing n with
 | nil=>cases n <;> exact .nil
 | cons r _ ih=>
  cases n with
  | zero=>exact .nil
  | succ n=>exact .cons r (ih n)
def bb.drop {xs:List V} {us:Φ} (n:Nat) (h:bb xs us):bb (xs.drop n) (us.drop n):=by
 induction h generalizing n with
 | nil=>cases n <;> exact .nil
 | cons r t ih=>
  cases n with
  | zero=>exact .cons r t
  | succ n=>exact ih n
noncomputable def hZ:Option V->Option Value->Prop
 | some v,some u=>bc v u
 | none,none=>True
 | _,_=>False
noncomputable def KV {κ:Type}:List (κ×V)->List (κ×Value)->Prop:=Paired λ (p:κ×V) (q:κ×Value)=>p.1=q.1/\bc p.2 q.2
noncomputable def kV:aA->V
 | .inl i=>.int i
 | .inr x=>.str x
inductive HO where
 | lst (xs:List V)
 | tup (xs:List V)
 | dK (kvs:List (aA×V)) | dT (kvs:List (List aA×V)) | dN (kvs:List (List aA×V))
 | set (S:Int->Bool) (n:Nat)
 | ins (C dx:Addr) (fs:List (Str×V))
 | own (x:Addr)
 | xd (fs:List (Str×V))
 | met (f x:Addr)
 | rng (lo hi:Int)
 | frz (o:Obj) (u:HO)
 | tbl (ps:Array Value)
 | ext (φ:Heap->Prop)
noncomputable abbrev Hp:=Addr->Option HO
noncomputable def nV (H:Hp) (ks:List aA) (v:Value):Prop:=(ks=[]/\v=.none)∨(ks≠[]/\∃ b,v=.ref b/\H b=some (.tup (ks.map kV)))
noncomputable def bZ (H:Hp) (a:Addr) (o:HO):Hp:=λ b=>if b=a then some o else H b
def aJ {H:Hp} {a:Addr} {o:HO}:bZ H a o a=some o:=by unfold bZ;rw [if_pos rfl]
def aH {H:Hp} {a b:Addr} {o:HO} (h:b≠a):bZ H a o b=H b:=by unfold bZ;rw [if_neg h]
def Fa {H:Hp} {a b:Addr} {o u:HO} (h:H a=some o) (h':H b=some u) (d:o≠u):a≠b:=by
 intro e;subst e;rw [h] at h';exact d (Option.some.inj h')
def be {H:Hp} {a b:Addr} {o:HO} (h:H a=some o) (h':H b=none):a≠b:=by
 intro e;subst e;rw [h] at h';cases h'
section
variable (P:Program) (w:World)
noncomputable def cH (H:Hp) (h:Heap) (a:Addr):HO->Prop
 | .lst xs=>xs.length<=sizeLine/\∃ (its:Φ) (n:Nat),bb xs its/\h.get? a=some { cls:=.type "list", data:=.seq its.toArray n }
 | .tup xs=>xs.length<=sizeLine/\∃ its:List Value,bb xs its/\IsTup h a its.toArray
 | .dK kvs=>kvs.length<=sizeLine/\(a==sysModules)=false/\∃ vs,KV kvs vs/\h.DictOf (bq P w) a vs
 | .dT kvs=>kvs.length<=sizeLine/\(a==sysModules)=false/\∃ xs:List (List aA×Addr×Value),
  Paired (λ (p:List aA×V) (q:List aA×Addr×Value)=>p.1=q.1/\H q.2.1=some (.tup (p.1.map kV))/\bc p.2 q.2.2) kvs xs/\
  ∃ o es ep,h.get? a=some o/\o.ExactDict/\o.data=.dict es ep/\es.toList=xs.map (entryOfKey (tupleKind (bq P w)))/\(xs.map (·.1)).Nodup
 | .dN kvs=>kvs.length<=sizeLine/\(a==sysModules)=false/\∃ xs:List (List aA×Value×Value),
  Paired (λ (p:List aA×V) (q:List aA×Value×Value)=>p.1=q.1/\nV H p.1 q.2.1/\bc p.2 q.2.2) kvs xs/\
  ∃ o es ep,h.get? a=some o/\o.ExactDict/\o.data=.dict es ep/\es.toList=xs.map (nE P w)/\(xs.map (·.1)).Nodup
 | .set S n=>h.SetOf (intKind P w) a S n
 | .ins C dx fs=>H dx=some (.own a)/\fs.length<=1000/\dx≠a/\h.get? a=some (PySem.W.instObj C dx)/\
  ∃ mA,h.Ns1 dx mA/\(∀ f,hZ (fs.lookup f) (mA f))/\PySem.Within mA (fs.map (·.1))
 | .own _=>∃ o,h.get? a=some o
 | .xd fs=>∃ mA,h.Ns1 a mA/\∀ f,hZ (fs.lookup f) (mA f)
 | .rng lo hi=>∃ t u v,h.get? a=some { cls:=.type "range", data:=.fields #[.int lo t,.int hi u,.int 1 v] }
 | .frz o u=>h.get? a=some o/\cH H h a u
 | .tbl ps=>h.get? a=some { cls:=.none,data:=.fields ps }
 | .met f x=>h.get? a=some (PySem.W.methodObj (.ref f) (.ref x))
 | .ext φ=>φ h/\(∃ o,h.get? a=some o)/\∀ h1 h2:Heap,φ h1->(∀ o,h1.get? a=some o->h2.get? a=some o)->φ h2
noncomputable def je (H:Hp) (h:Heap):Prop:=∀ a o,H a=some o->cH P w H h a o
end
section
variable {P:Program} {w:World} {H H':Hp} {h h':Heap} {a:Addr} {o:HO}
def cH.lt (x:cH P w H h a o):a<h.objs.size:=by
 cases o with
 | lst xs=>obtain ⟨_,_,_,_,e⟩:=x;exact lt_size e
 | tup xs=>obtain ⟨_,_,_,p⟩:=x;exact p.lt
 | dK kvs=>obtain ⟨_,_,_,_,o,_,_,e,_⟩:=x;exact lt_size e
 | dT kvs=>obtain ⟨_,_,_,_,o,_,_,e,_⟩:=x;exact lt_size e
 | dN kvs=>obtain ⟨_,_,_,_,o,_,_,e,_⟩:=x;exact lt_size e
 | set S n=>obtain ⟨o,_,_,_,e,_⟩:=x;exact lt_size e
 | ins C dx fs=>obtain ⟨_,_,_,e,_⟩:=x;exact lt_size e
 | own y=>obtain ⟨_,e⟩:=x;exact lt_size e
 | xd fs=>obtain ⟨_,⟨_,_,_,e,_⟩,_⟩:=x;exact lt_size e
 | rng lo hi=>obtain ⟨_,_,_,e⟩:=x;exact lt_size e
 | frz ob u=>obtain ⟨e,_⟩:=x;exact lt_size e
 | tbl ps=>exact lt_size (show h.get? a=some _ from x)
 | met f y=>exact lt_size (show h.get? a=some _ from x)
 | ext φ=>obtain ⟨_,⟨_,e⟩,_⟩:=x;exact lt_size e
def Paired.mapP {α β:Type} {F G:α->β->Prop} {l₁:List α} {l₂:List β} (h:Paired F l₁ l₂) (f:∀ a b,F a b->G a b):Paired G l₁ l₂:=by
 induction h with
 | nil=>exact .nil
 | cons r _ ih=>exact .cons (f _ _ r) ih
def cH.stay (x:cH P w H h a o) (k:∀ b u,(b=a∨H b=some (.own a))->h.get? b=some u->h'.get? b=some u)
 (ho:∀ b,H b=some (.own a)->H' b=some (.own a)) (ht:∀ b xs,H b=some (.tup xs)->H' b=some (.tup xs)):cH P w H' h' a o:=by
 induction o with
 | lst xs=>obtain ⟨z,its,n,r,e⟩:=x;exact ⟨z,its,n,r,k _ _ (.inl rfl) e⟩
 | tup xs=>obtain ⟨z,its,r,ob,e,c⟩:=x;exact ⟨z,its,r,ob,k _ _ (.inl rfl) e,c⟩
 | dK kvs=>obtain ⟨z,y,vs,r,ob,es,ep,e,c⟩:=x;exact ⟨z,y,vs,r,ob,es,ep,k _ _ (.inl rfl) e,c⟩
 | dT kvs=>
  obtain ⟨z,y,xs,r,ob,es,ep,e,c⟩:=x
  exact ⟨z,y,xs,Paired.mapP r λ p q z=>⟨z.1,ht _ _ z.2.1,z.2.2⟩,ob,es,ep,k _ _ (.inl rfl) e,c⟩
 | dN kvs=>
  obtain ⟨z,y,xs,r,ob,es,ep,e,c⟩:=x
  exact ⟨z,y,xs,Paired.mapP r λ p q z=>⟨z.1,z.2.1.imp id λ hy0=>by obtain ⟨n,b,e1,e2⟩:=hy0;exact ⟨n,b,e1,ht _ _ e2⟩,z.2.2⟩,ob,es,ep,k _ _ (.inl rfl) e,c⟩
 | set S n=>obtain ⟨ob,es,ep,t,e,c⟩:=x;exact ⟨ob,es,ep,t,k _ _ (.inl rfl) e,c⟩
 | ins C dx fs=>
  obtain ⟨d,z,ne,e,mA,⟨od,es,ep,e2,c⟩,r⟩:=x
  exact ⟨ho _ d,z,ne,k _ _ (.inl rfl) e,mA,⟨od,es,ep,k _ _ (.inr d) e2,c⟩,r⟩
 | own y=>obtain ⟨ob,e⟩:=x;exact ⟨ob,k _ _ (.inl rfl) e⟩
 | xd fs=>obtain ⟨mA,⟨od,es,ep,e,c⟩,r⟩:=x;exact ⟨mA,⟨od,es,ep,k _ _ (.inl rfl) e,c⟩,r⟩
 | rng lo hi=>obtain ⟨t,u,v,e⟩:=x;exact ⟨t,u,v,k _ _ (.inl rfl) e⟩
 | frz ob u ih=>obtain ⟨e,q⟩:=x;exact ⟨k _ _ (.inl rfl) e,ih q⟩
 | tbl ps=>
  have e:h.get? a=some { cls:=.none,data:=.fields ps }:=x
  show h'.get? a=some { cls:=.none,data:=.fields ps }
  exact k a _ (.inl rfl) e
 | met f y=>
  have e:h.get? a=some (PySem.W.methodObj (.ref f) (.ref y)):=x
  show h'.get? a=some (PySem.W.methodObj (.ref f) (.ref y))
  exact k a _ (.inl rfl) e
 | ext φ=>obtain ⟨p,⟨o,e⟩,st⟩:=x;exact ⟨st _ _ p λ o q=>k _ _ (.inl rfl) q,⟨o,k _ _ (.inl rfl) e⟩,st⟩
def je.lt (x:je P w H h) (e:H a=some o):a<h.objs.size:=(x a o e).lt
def je.fresh (x:je P w H h) (e:h.objs.size<=a):H a=none:=by
 cases q:H a with
 | none=>rfl
 | some u=>exact absurd (lt_of_lt_of_le (x.lt q) e) (lt_irrefl _)
def je.kept (x:je P w H h) (k:∀ b u,h.get? b=some u->h'.get? b=some u):je P w H h':=λ a o e=>
 (x a o e).stay (λ b u _ q=>k b u q) (λ _ q=>q) λ _ _ q=>q
def je.laid (x:je P w H h) (k:∀ b u,h.get? b=some u->h'.get? b=some u) (hp:h.objs.size<=a) (new:cH P w (bZ H a o) h' a o):je P w (bZ H a o) h':=λ b u e=>by
 have hn:=x.fresh hp
 by_cases hb:b=a
 . subst hb;rw [aJ] at e;cases e;exact new
 . rw [aH hb] at e
   exact (x b u e).stay (λ c v _ q=>k c v q) (λ c q=>by rw [aH (be q hn)];exact q) λ c xs q=>by rw [aH (be q hn)];exact q
end
noncomputable def Rd (H:Hp) (a:Addr) (u:HO):Prop:=H a=some u∨∃ o,H a=some (.frz o u)
def Rd.ok {P:Program} {w:World} {H:Hp} {h:Heap} {a:Addr} {u:HO} (r:Rd H a u) (x:je P w H h):cH P w H h a u:=by
 rcases r with r | ⟨o,r⟩
 . exact x a u r
 . obtain ⟨_,q⟩:=x a _ r
   exact q
noncomputable def J9:Option HO->Prop
 | some (.lst _)=>True
 | some (.dK _)=>True
 | some (.dT _)=>True
 | some (.dN _)=>True
 | some (.set _ _)=>True
 | some (.ins _ _ _)=>True
 | some (.ext _)=>True
 | _=>False
section
variable {P:Program} {w:World} {H:Hp} {h h':Heap} {x e:Addr} {o':HO}
def je.write (ok:je P w H h) (mu:J9 (H x)) (he:e=x∨H e=some (.own x)) (k:∀ b u,b≠e->h.get? b=some u->h'.get? b=some u) (heo:∃ u,h'.get? e=some u)
 (new:cH P w (bZ H x o') h' x o'):je P w (bZ H x o') h':=λ b u q=>by
 have nown:∀ c y,H c=some (.own y)->c≠x:=λ c y r z=>by subst z;rw [r] at mu;exact mu
 have ntup:∀ c xs,H c=some (.tup xs)->c≠x:=λ c xs r z=>by subst z;rw [r] at mu;exact mu
 by_cases hb:b=x
 . subst hb;rw [aJ] at q;cases q;exact new
 . rw [aH hb] at q
   by_cases hbe:b=e
   . have q':H b=some (.own x):=by
      rcases he with z | z
      . exact absurd (hbe.trans z) hb
      . rw [hbe];exact z
     rw [q] at q';cases q'
     obtain ⟨v,hv⟩:=heo
     exact ⟨v,by rw [hbe];exact hv⟩
   . refine (ok b u q).stay (λ c v hc r=>k c v ?_ r) (λ c r=>by rw [aH (nown c b r)];exact r) λ c xs r=>by rw [aH (ntup c xs r)];exact r
     rcases hc with rfl | hc
     . exact hbe
     . rintro rfl
       rcases he with z | z
       . exact nown c b hc z
       . rw [hc] at z;cases z;exact hb rfl
end
structure Un (fs ex:Ξ) (H H':Hp) (h h':Heap):Prop where
 keep:∀ b o,h.get? b=some o->H b=none->b∉fs->b∉ex->h'.get? b=some o
 slot:∀ b o,h.get? b=some o->H b=none->b∈fs->b∉ex->∃ sl,h'.get? b=some { o with slots:=sl }
 free:∀ b o,h.get? b=some o->H b=none->b∉ex->H' b=none
 there:∀ b o,h.get? b=some o->b∉ex->∃ o',h'.get? b=some o'
 tups:∀ b xs,H b=some (.tup xs)->H' b=some (.tup xs)
 frzs:∀ b o u,H b=some (.frz o u)->H' b=some (.frz o u)
 tbls:∀ b ps,H b=some (.tbl ps)->∃ more,H' b=some (.tbl (ps++more))
section
variable {fs fs' ex ex':Ξ} {H H1 H2:Hp} {h h1 h2 h':Heap} {a x e:Addr} {o:HO}
def Un.any (u:Un fs ex H H1 h h1) {b:Addr} {ob:Obj} (q:h.get? b=some ob) (n:H b=none) (hx:b∉ex):∃ sl,h1.get? b=some { ob with slots:=sl }:=by
 by_cases hb:b∈fs
 . exact u.slot b ob q n hb hx
 . exact ⟨ob.slots,u.keep b ob q n hb hx⟩
def Un.kept (k:∀ b u,h.get? b=some u->h'.get? b=some u):Un fs ex H H h h':=
 ⟨λ b ob q _ _ _=>k b ob q,λ b ob q _ _ _=>⟨ob.slots,k b ob q⟩,λ _ _ _ n _=>n,λ b ob q _=>⟨ob,k b ob q⟩,λ _ _ q=>q,λ _ _ _ q=>q,λ _ ps q=>⟨#[],by rw [q];simp⟩⟩
def Un.refl:Un fs ex H H h h:=Un.kept λ _ _ q=>q
def Un.laid (k:∀ b u,h.get? b=some u->h'.get? b=some u) (hp:h.objs.size<=a) (hn:H a=none):Un fs ex H (bZ H a o) h h' where
 keep:=λ b u q _ _ _=>k b u q
 slot:=λ b u q _ _ _=>⟨u.slots,k b u q⟩
 free:=λ b u q n _=>by rw [aH (ne_of_lt (lt_of_lt_of_le (lt_size q) hp))];exact n
 there:=λ b u q _=>⟨u,k b u q⟩
 tups:=λ b xs q=>by rw [aH (be q hn)];exact q
 frzs:=λ b u xs q=>by rw [aH (be q hn)];exact q
 tbls:=λ b ps q=>⟨#[],by rw [aH (be q hn),q];simp⟩
def Un.write (mu:J9 (H x)) (he:e=x∨H e=some (.own x)) (k:∀ b u,b≠e->h.get? b=some u->h'.get? b=some u) (heo:∃ u,h'.get? e=some u):Un fs ex H (bZ H x o) h h':=by
 have hx:∀ b,H b=none->b≠x:=λ b n z=>by subst z;rw [n] at mu;exact mu
 have hb:∀ b,H b=none->b≠e:=λ b n z=>by
  subst z
  rcases he with r | r
  . exact hx b n r
  . rw [n] at r;cases r
 have hm:∀ b u,H b=some u->¬ J9 (some u)->b≠x:=λ b u q nm z=>by subst z;rw [q] at mu;exact nm mu
 refine ⟨λ b u q n _ _=>k b u (hb b n) q,λ b u q n _ _=>⟨u.slots,k b u (hb b n) q⟩,λ b u q n _=>by rw [aH (hx b n)];exact n,λ b u q _=>?_,
  λ b xs q=>by rw [aH (hm b _ q λ z=>z)];exact q,λ b u xs q=>by rw [aH (hm b _ q λ z=>z)];exact q,λ b ps q=>⟨#[],by rw [aH (hm b _ q λ z=>z),q];simp⟩⟩
 by_cases hbe:b=e
 . subst hbe;exact heo
 . exact ⟨u,k b u hbe q⟩
end
noncomputable def yj (h:Heap) (H:Hp):List Addr:=(List.range h.objs.size).filter λ a=>(H a).isSome
noncomputable def qw (h:Heap) (H:Hp):Heap:=PySem.W.hideAll h (yj h H)
def yd (h:Heap) (H:Hp):(qw h H).objs.size=h.objs.size:=PySem.W.hideAll_size _ _
def zd {h:Heap} {H:Hp} {b:Addr} {o:Obj} (e:h.get? b=some o) (n:H b=none):(qw h H).get? b=some o:=
 PySem.W.hideAll_get _ e λ hm=>by
  have q:(H b).isSome=true:=(mem_filter.mp hm).2
  rw [n] at q;simp at q
def Db {h:Heap} {H:Hp} {b:Addr} {o:Obj} (e:(qw h H).get? b=some o):h.get? b=some o/\H b=none:=by
 have e':h.get? b=some o:=PySem.W.of_hideAll (yj h H) e
 refine ⟨e',?_⟩
 cases q:H b with
 | none=>rfl
 | some x=>
  have hm:b∈yj h H:=mem_filter.mpr ⟨mem_range.mpr (lt_size e'),by simp [q]⟩
  have z:(qw h H).get? b=none:=PySem.W.hideAll_none (yj h H) hm
  rw [z] at e;cases e
noncomputable def Eu (g h:Heap) (L:Addr):List (Addr×Obj):=(List.range h.objs.size).filterMap λ a=>if a=L∨(g.get? a).isSome=true then none else (h.get? a).map λ o=>(a,o)
noncomputable def av (g h:Heap) (L d:Addr):List (Addr×Obj):=(Eu g h L).filter λ p=>decide (p.1≠d)
structure Mod (K:Frag) (mg:Θ) (base:Heap):Prop where
 kin:K.In base
 glob:base.Ns mainGlobals mg
 blt:∃ mb,base.Ns builtinsNs mb/\∀ x:Str,x ≠ "__name__" -> mb x=bootBuiltins x
 nolimit:base.NoLimit
structure Cx where
 prog:Program
 w:World
 K:Frag
 mg:Θ
 base:Heap
 A:Around
 N:Ω
 s₀:Shared
 H₀:Hp
 env:Env
 outer:List Env
 stack:List Env
 ex:Ξ
 fn:Str->Bool
 calm:Bool
 pn:Δ
 xe:Γ
noncomputable def BI (l:List Env):List Addr:=l.filterMap (·.frame)
noncomputable abbrev Cx.fs (X:Cx):List Addr:=BI X.outer
noncomputable def Mh (sc:Scope) (x:Str):Prop:=sc.names.lookup x=some .local∨sc.names.lookup x=some .cell∨sc.names.lookup x=some .free
noncomputable def Gg (sc:Scope) (x:Str):Prop:=sc.names.lookup x=some .local∨sc.names.lookup x=some .cell
noncomputable def MZ (env:Env) (h:Heap) (m:Θ) (x:Str) (u:Value):Prop:=
 (env.kindOf x=some .local/\m x=some u)∨((env.kindOf x=some .cell∨env.kindOf x=some .free)/\∃ c,env.cells.lookup x=some c/\h.IsCell c (some u))
structure Cx.Ok (X:Cx):Prop where
 mod:Mod X.K X.mg X.base
 kind:X.env.scope.kind=.function
 glob:X.env.globals=mainGlobals
 blt:X.env.builtins=builtinsNs
 above:X.s₀.heap.objs.size<=X.env.locals
 inj:∀ x y c,X.env.cells.lookup x=some c->X.env.cells.lookup y=some c->x=y
 has:∀ x,(X.env.kindOf x=some .cell∨X.env.kindOf x=some .free)->∃ c,X.env.cells.lookup x=some c
 cab:∀ x c,X.fn x=true->X.env.cells.lookup x=some c->X.s₀.heap.objs.size<=c
 hd:X.calm=true->X.A.handled=none
 frames:X.A.frames=some X.stack
 stk:X.stack=X.outer∨(X.stack=X.env::X.outer/\X.env.frame=some X.env.locals)
 exf:∀ b∈X.ex,b≠X.env.locals/\∀ x c,X.env.cells.lookup x=some c->c≠b
 bs:∀ b o,X.base.get? b=some o->X.s₀.heap.get? b=some o/\X.H₀ b=none
 bsz:X.base.objs.size<=X.s₀.heap.objs.size
 noex:∀ b o,X.base.get? b=some o->b∉X.ex
 exfs:∀ b∈X.ex,b∉X.fs
 funs:X.s₀.heap.FunFrames X.base X.outer
 frf:∀ b∈X.fs,X.H₀ b=none
structure aL (X:Cx) (pins:Δ) (σ:List (Option V)) (H:Hp) (s:Shared):Prop where
 ok:X.Ok
 os:s.os=X.s₀.os
 bare:AllBare s.gens
 base:Un X.fs X.ex X.H₀ H X.s₀.heap s.heap
 loc:∃ m,s.heap.Ns X.env.locals m/\∀ (i:Nat) (x:Str) (v:V),X.N[i]?=some x->σ[i]?=some (some v)->Mh X.env.scope x->∃ u,bc v u/\MZ X.env s.heap m x u
 cell:∀ x c,X.env.cells.lookup x=some c->∃ v,s.heap.IsCell c v
 free:H X.env.locals=none
 freeC:∀ x c,X.env.cells.lookup x=some c->H c=none
 pin:∀ p∈X.pn++pins,s.heap.get? p.1=some p.2/\H p.1=none/\p.1≠X.env.locals/\p.1∉X.fs/\∀ v,p.2.data≠.cell v
 hok:je X.prog X.w H s.heap
 len:σ.length=X.N.length
section
variable {X:Cx} {pins:Δ} {σ:List (Option V)} {H H':Hp} {s:Shared} {h':Heap}
def Cx.Ok.nofr (ok:X.Ok) {b:Addr} {o:Obj} (e:X.base.get? b=some o):b∉X.fs:=λ hb=>by
 have:=(ok.funs.mem hb).1
 rw [e] at this;cases this
def aL.bs (I:aL X pins σ H s):∀ b o,X.base.get? b=some o->s.heap.get? b=some o/\H b=none:=λ b o e=>
 ⟨I.base.keep b o (I.ok.bs b o e).1 (I.ok.bs b o e).2 (I.ok.nofr e) (I.ok.noex b o e),I.base.free b o (I.ok.bs b o e).1 (I.ok.bs b o e).2 (I.ok.noex b o e)⟩
def aL.bk (I:aL X pins σ H s):∀ b o,X.base.get? b=some o->s.heap.get? b=some o:=λ b o e=>(I.bs b o e).1
def aL.mod (I:aL X pins σ H s):Mod X.K X.mg X.base:=I.ok.mod
def aL.kIn (I:aL X pins σ H s):X.K.In s.heap:=I.ok.mod.kin.keeps I.bk
def aL.lt (I:aL X pins σ H s):X.env.locals<s.heap.objs.size:=by obtain ⟨_,hn,_⟩:=I.loc;exact hn.lt
def aL.sz (I:aL X pins σ H s):X.s₀.heap.objs.size<=s.heap.objs.size:=le_trans I.ok.above (le_of_lt I.lt)
def aL.nofs (I:aL X pins σ H s) {a:Addr} (h:s.heap.objs.size<=a):a∉X.fs:=λ hb=>by
 obtain ⟨_,o,ho,_⟩:=I.ok.funs.mem hb
 exact absurd (lt_of_lt_of_le (lt_size ho) (le_trans I.sz h)) (lt_irrefl _)
def aL.cne (I:aL X pins σ H s):∀ x c,X.env.cells.lookup x=some c->c≠X.env.locals:=λ x c e z=>by
 obtain ⟨v,o,ho,hd⟩:=I.cell x c e
 obtain ⟨m,⟨o',es,ep,ho',hd',_⟩,_⟩:=I.loc
 rw [z,ho'] at ho;cases ho;rw [hd'] at hd;cases hd
def aL.funs (I:aL X pins σ H s):s.heap.FunFrames X.base X.outer:=by
 have all:∀ (l:List Env),(∀ b∈BI l,b∈X.fs)->X.s₀.heap.FunFrames X.base l->s.heap.FunFrames X.base l:=by
  intro l
  induction l with
  | nil=>intro _ _;trivial
  | cons env r ih=>
   intro hs hl
   obtain ⟨hk,⟨L,o,hf,hn,ho,hd⟩,hr⟩:=hl
   have hL:L∈X.fs:=hs L (by unfold BI;rw [List.filterMap_cons,hf];exact mem_cons_self)
   obtain ⟨sl,e⟩:=I.base.slot L o ho (I.ok.frf L hL) hL λ z=>I.ok.exfs L z hL
   exact ⟨hk,⟨L,_,hf,hn,e,hd⟩,ih (λ b hb=>hs b (by unfold BI;rw [List.filterMap_cons,hf];exact mem_cons_of_mem _ hb)) hr⟩
 exact all X.outer (λ _ hb=>hb) I.ok.funs
def aL.stack (I:aL X pins σ H s):s.heap.FunFrames X.base X.stack:=by
 rcases I.ok.stk with e | ⟨e,hf⟩
 . rw [e];exact I.funs
 . rw [e]
   obtain ⟨m,hn,_⟩:=I.loc
   refine .cons (by rw [I.ok.kind];decide) hf hn ?_ I.funs
   exact Heap.get?_none_of_le (le_trans I.ok.bsz I.ok.above)
def aL.stkSub (I:aL X pins σ H s):∀ b∈BI X.stack,b∈X.env.locals::X.fs:=λ b hb=>by
 rcases I.ok.stk with e | ⟨e,hf⟩
 . rw [e] at hb;exact mem_cons_of_mem _ hb
 . rw [e] at hb
   unfold BI at hb
   rw [List.filterMap_cons,hf] at hb
   exact hb
def aL.stkFree (I:aL X pins σ H s):∀ b∈BI X.stack,H b=none:=λ b hb=>by
 rcases mem_cons.mp (I.stkSub b hb) with e | hb
 . rw [e];exact I.free
 . obtain ⟨_,o,ho,_⟩:=I.ok.funs.mem hb
   exact I.base.free b o ho (I.ok.frf b hb) λ z=>I.ok.exfs b z hb
def aL.step {g':Array GenState} {t':Nat} {d':Drawn} {ch:Ξ} (I:aL X pins σ H s)
 (hch:∀ b∈ch,(b∈X.ex∨X.s₀.heap.objs.size<=b)/\b≠X.env.locals/\(∀ x c,X.env.cells.lookup x=some c->c≠b)/\∀ p∈X.pn++pins,p.1≠b)
 (keep:∀ b o,b≠X.env.locals->b∉X.fs->b∉ch->s.heap.get? b=some o->H b=none->h'.get? b=some o)
 (slot:∀ b o,b≠X.env.locals->b∈X.fs->b∉ch->s.heap.get? b=some o->H b=none->∃ sl,h'.get? b=some { o with slots:=sl }) (free:∀ b o,b∉ch->s.heap.get? b=some o->H b=none->H' b=none)
 (there:∀ b o,b∉ch->s.heap.get? b=some o->∃ o',h'.get? b=some o')
 (tups:∀ b xs,H b=some (.tup xs)->H' b=some (.tup xs)) (frzs:∀ b o u,H b=some (.frz o u)->H' b=some (.frz o u)) (tbls:∀ b ps,H b=some (.tbl ps)->∃ more,H' b=some (.tbl (ps++more)))
 (ns:∀ m,s.heap.Ns X.env.locals m->h'.Ns X.env.locals m) (hok:je X.prog X.w H' h') (hg:AllBare g'):
 aL X pins σ H' { s with heap:=h',gens:=g',drawn:=d',toks:=t' }:=by
 have neL:∀ b o,X.s₀.heap.get? b=some o->b≠X.env.locals:=λ b o e=>ne_of_lt (lt_of_lt_of_le (lt_size e) I.ok.above)
 have neC:∀ b o,X.s₀.heap.get? b=some o->b∉X.ex->b∉ch:=λ b o e hx hb=>by
  rcases (hch b hb).1 with z | z
  . exact hx z
  . exact absurd (lt_of_lt_of_le (lt_size e) z) (lt_irrefl _)
 have cellK:∀ x c,X.env.cells.lookup x=some c->∀ v,s.heap.IsCell c v->h'.IsCell c v:=λ x c e v hy0=>by
  obtain ⟨o,ho,hd⟩:=hy0
  have nch:c∉ch:=λ z=>(hch c z).2.2.1 x c e rfl
  by_cases hc:c∈X.fs
  . obtain ⟨sl,q⟩:=slot c o (I.cne x c e) hc nch ho (I.freeC x c e)
    exact ⟨_,q,hd⟩
  . exact ⟨o,keep c o (I.cne x c e) hc nch ho (I.freeC x c e),hd⟩
 refine ⟨I.ok,I.os,hg,⟨λ b o e n hb hx=>?_,λ b o e n hb hx=>?_,λ b o e n hx=>?_,λ b o e hx=>?_,λ b xs e=>tups b xs (I.base.tups b xs e),λ b o xs e=>frzs b o xs (I.base.frzs b o xs e),λ b ps e=>?_⟩,?_,λ x c e=>?_,?_,λ x c e=>?_,λ p hp=>?_,hok,I.len⟩
 . exact keep b o (neL b o e) hb (neC b o e hx) (I.base.keep b o e n hb hx) (I.base.free b o e n hx)
 . obtain ⟨sl,e1⟩:=I.base.slot b o e n hb hx
   obtain ⟨sl',e2⟩:=slot b _ (neL b o e) hb (neC b o e hx) e1 (I.base.free b o e n hx)
   exact ⟨sl',e2⟩
 . obtain ⟨o',e1⟩:=I.base.there b o e hx
   exact free b o' (neC b o e hx) e1 (I.base.free b o e n hx)
 . obtain ⟨o',e1⟩:=I.base.there b o e hx
   exact there b o' (neC b o e hx) e1
 . obtain ⟨m1,e1⟩:=I.base.tbls b ps e
   obtain ⟨m2,e2⟩:=tbls b _ e1
   exact ⟨m1++m2,by rw [e2,Array.append_assoc]⟩
 . obtain ⟨m,hn,hl⟩:=I.loc
   refine ⟨m,ns m hn,λ i x v e1 e2 e3=>?_⟩
   obtain ⟨u,r,l⟩:=hl i x v e1 e2 e3
   refine ⟨u,r,?_⟩
   rcases l with l | ⟨k,c,e,z⟩
   . exact .inl l
   . exact .inr ⟨k,c,e,cellK x c e _ z⟩
 . obtain ⟨v,z⟩:=I.cell x c e
   exact ⟨v,cellK x c e v z⟩
 . obtain ⟨m,⟨o,_,_,ho,_⟩,_⟩:=I.loc
   exact free _ o (λ z=>(hch _ z).2.1 rfl) ho I.free
 . obtain ⟨v,o,ho,hd⟩:=I.cell x c e
   exact free c o (λ z=>(hch c z).2.2.1 x c e rfl) ho (I.freeC x c e)
 . obtain ⟨e,n,ne,nf,d⟩:=I.pin p hp
   have nch:p.1∉ch:=λ z=>(hch p.1 z).2.2.2 p hp rfl
   exact ⟨keep p.1 p.2 ne nf nch e n,free p.1 p.2 nch e n,ne,nf,d⟩
def aL.un {t':Nat} (I:aL X pins σ H s) (u:Un X.fs [] H H' s.heap h') (hok:je X.prog X.w H' h'):aL X pins σ H' { s with heap:=h',toks:=t' }:=by
 obtain ⟨m,⟨o,es,ep,ho,r⟩,_⟩:=id I.loc
 obtain ⟨sl,hL⟩:=u.any ho I.free (by simp)
 exact I.step (g':=s.gens) (d':=s.drawn) (ch:=[]) (λ _ z=>nomatch z) (λ b o _ hb _ e n=>u.keep b o e n hb (by simp)) (λ b o _ hb _ e n=>u.slot b o e n hb (by simp)) (λ b o _ e n=>u.free b o e n (by simp)) (λ b o _ e=>u.there b o e (by simp)) u.tups u.frzs u.tbls (λ m' hm=>by
  obtain ⟨o',es',ep',ho',r'⟩:=hm
  rw [ho] at ho';cases ho'
  exact ⟨_,es',ep',hL,r'⟩) hok I.bare
def aL.call {g':Array GenState} {t':Nat} {d':Drawn} {ch:Ξ} (I:aL X pins σ H s) (u:Un (BI X.stack) ch H H' s.heap h') (hok:je X.prog X.w H' h') (hg:AllBare g')
 (hch:∀ b∈ch,(b∈X.ex∨X.s₀.heap.objs.size<=b)/\b≠X.env.locals/\(∀ x c,X.env.cells.lookup x=some c->c≠b)/\∀ p∈X.pn++pins,p.1≠b):
 aL X pins σ H' { s with heap:=h',gens:=g',drawn:=d',toks:=t' }:=by
 obtain ⟨m,⟨o,es,ep,ho,r⟩,_⟩:=id I.loc
 obtain ⟨sl,hL⟩:=u.any ho I.free λ z=>(hch _ z).2.1 rfl
 exact I.step (ch:=ch) hch (λ b o hL hb hc e n=>u.keep b o e n (λ z=>(mem_cons.mp (I.stkSub b z)).elim hL hb) hc) (λ b o _ _ hc e n=>u.any e n hc) (λ b o hc e n=>u.free b o e n hc) (λ b o hc e=>u.there b o e hc) u.tups u.frzs u.tbls (λ m' hm=>by
  obtain ⟨o',es',ep',ho',r'⟩:=hm
  rw [ho] at ho';cases ho'
  exact ⟨_,es',ep',hL,r'⟩) hok hg
def aL.turned {t':Nat} {it:Addr} (I:aL X pins σ H s) (k:∀ b o,b≠it->s.heap.get? b=some o->h'.get? b=some o) (hn:H it=none) (hL:it≠X.env.locals)
 (h1:it∈X.ex∨X.s₀.heap.objs.size<=it) (h2:∀ x c,X.env.cells.lookup x=some c->c≠it) (h3:∀ p∈X.pn++pins,p.1≠it):aL X pins σ H { s with heap:=h',toks:=t' }:=by
 have nit:∀ b u,H b=some u->b≠it:=λ b u e z=>by rw [z,hn] at e;cases e
 refine I.step (g':=s.gens) (d':=s.drawn) (ch:=[it]) (λ b hb=>?_) (λ b o _ _ hc e _=>k b o (λ z=>hc (by simp [z])) e) (λ b o _ _ hc e _=>⟨o.slots,k b o (λ z=>hc (by simp [z])) e⟩) (λ _ _ _ _ n=>n)
  (λ b o hc e=>⟨o,k b o (λ z=>hc (by simp [z])) e⟩) (λ _ _ e=>e) (λ _ _ _ e=>e) (λ b ps e=>⟨#[],by rw [e];simp⟩) (λ m hm=>?_) (λ b u e=>?_) I.bare
 . have e:b=it:=by simpa using hb
   subst e
   exact ⟨h1,hL,h2,h3⟩
 . obtain ⟨o,es,ep,ho,r⟩:=hm
   exact ⟨o,es,ep,k _ o (Ne.symm hL) ho,r⟩
 . refine (I.hok b u e).stay (λ c v hc q=>k c v ?_ q) (λ _ q=>q) λ _ _ q=>q
   rcases hc with z | z
   . rw [z];exact nit b u e
   . exact nit c _ z
def aL.tok (I:aL X pins σ H s) (t:Nat):aL X pins σ H { s with toks:=t }:=I.un (h':=s.heap) (t':=t) Un.refl I.hok
def aL.kept {t':Nat} (I:aL X pins σ H s) (k:∀ b u,s.heap.get? b=some u->h'.get? b=some u):aL X pins σ H { s with heap:=h',toks:=t' }:=I.un (Un.kept k) (I.hok.kept k)
def aL.laid {a:Addr} {o:HO} {t':Nat} (I:aL X pins σ H s) (k:∀ b u,s.heap.get? b=some u->h'.get? b=some u) (hp:s.heap.objs.size<=a) (new:cH X.prog X.w (bZ H a o) h' a o):
 aL X pins σ (bZ H a o) { s with heap:=h',toks:=t' }:=I.un (Un.laid k hp (I.hok.fresh hp)) (I.hok.laid k hp new)
def aL.write {x e:Addr} {o:HO} {t':Nat} (I:aL X pins σ H s) (mu:J9 (H x)) (he:e=x∨H e=some (.own x)) (k:∀ b u,b≠e->s.heap.get? b=some u->h'.get? b=some u) (heo:∃ u,h'.get? e=some u)
 (new:cH X.prog X.w (bZ H x o) h' x o):aL X pins σ (bZ H x o) { s with heap:=h',toks:=t' }:=I.un (Un.write mu he k heo) (I.hok.write mu he k heo new)
def aL.weak {σ':List (Option V)} (I:aL X pins σ H s) (hl:σ'.length=σ.length) (w:∀ (i:Nat) v,σ'[i]?=some (some v)->σ[i]?=some (some v)):aL X pins σ' H s:=
 ⟨I.ok,I.os,I.bare,I.base,by obtain ⟨m,hn,hl'⟩:=I.loc;exact ⟨m,hn,λ i x v e1 e2 e3=>hl' i x v e1 (w i v e2) e3⟩,I.cell,I.free,I.freeC,I.pin,I.hok,hl.trans I.len⟩
def aL.pins_of {pins':Δ} (I:aL X pins σ H s) (h:∀ p∈pins',s.heap.get? p.1=some p.2/\H p.1=none/\p.1≠X.env.locals/\p.1∉X.fs/\∀ v,p.2.data≠.cell v):aL X pins' σ H s:=
 ⟨I.ok,I.os,I.bare,I.base,I.loc,I.cell,I.free,I.freeC,λ p hp=>(mem_append.mp hp).elim (λ z=>I.pin p (List.mem_append_left _ z)) (h p),I.hok,I.len⟩
def sH {N:Ω} (hN:N.Nodup) {i j:Nat} {x:Str} (a:N[i]?=some x) (b:N[j]?=some x):i=j:=by
 obtain ⟨h1,e1⟩:=oG a
 obtain ⟨h2,e2⟩:=oG b
 exact (List.getElem_inj hN).mp (e1.trans e2.symm)
def pR {M:Model} {A:Around} {E:Γ} {i:Nat} {x:Str} {v:V} {u:Value} {Q:Unit->Shared->Prop} (I:aL X pins σ H s) (hN:X.N.Nodup) (hi:X.N[i]?=some x) (hx:Gg X.env.scope x) (r:bc v u)
 (h:∀ s',aL X pins (σ.set i (some v)) H s'->(∃ a,Heap.SameBut a s.heap s'.heap/\(a=X.env.locals∨X.env.cells.lookup x=some a))->Q () s') (hf:X.fn x=true∨X.env.scope.names.lookup x=some .local:=by first | exact .inl rfl | exact .inr rfl | assumption):wpAny M A (storeName X.env x u) Q E s:=by
 obtain ⟨m,hn,hl⟩:=id I.loc
 have hcls:(X.env.scope.kind==.class||(X.env.scope.kind==.module&&X.env.locals != X.env.globals))=false:=by rw [I.ok.kind];rfl
 have hiσ:i<σ.length:=by rw [I.len];exact (oG hi).1
 have cne:=I.cne
 have tracked:∀ {a:Addr} {h':Heap},(∃ o,s.heap.get? a=some o/\H a=none)->Heap.SameBut a s.heap h'->je X.prog X.w H h':=λ {a h'} ha hs b ob e=>by
  obtain ⟨_,_,hfree⟩:=ha
  refine (I.hok b ob e).stay (λ c w' hc q=>(hs.2 c ?_).trans q) (λ _ q=>q) λ _ _ q=>q
  rintro rfl
  rcases hc with rfl | hc
  . rw [hfree] at e;cases e
  . rw [hfree] at hc;cases hc
 rcases hx with hk | hk
 . refine wpAny_storeName_local hk hn (λ h' hn' hs=>?_) hcls
   obtain ⟨oL,_,_,hoL,_⟩:=id hn
   refine h _ ⟨I.ok,I.os,I.bare,⟨λ b o e n hb hx=>?_,λ b o e n hb hx=>?_,I.base.free,λ b o e hx=>?_,I.base.tups,I.base.frzs,I.base.tbls⟩,⟨_,hn',λ j y v' e1 e2 e3=>?_⟩,λ y c e=>?_,I.free,I.freeC,λ p hp=>?_,tracked ⟨oL,hoL,I.free⟩ hs,by simpa using I.len⟩ ⟨_,hs,.inl rfl⟩
   . exact (hs.2 b (ne_of_lt (lt_of_lt_of_le (lt_size e) I.ok.above))).trans (I.base.keep b o e n hb hx)
   . obtain ⟨sl,e1⟩:=I.base.slot b o e n hb hx
     exact ⟨sl,(hs.2 b (ne_of_lt (lt_of_lt_of_le (lt_size e) I.ok.above))).trans e1⟩
   . obtain ⟨o',e1⟩:=I.base.there b o e hx
     exact ⟨o',(hs.2 b (ne_of_lt (lt_of_lt_of_le (lt_size e) I.ok.above))).trans e1⟩
   . by_cases hj:j=i
     . subst hj
       rw [hi] at e1;cases e1
       rw [List.getElem?_set_self hiσ] at e2
       cases e2
       exact ⟨u,r,.inl ⟨hk,by simp⟩⟩
     . rw [getElem?_set_ne (Ne.symm hj)] at e2
       obtain ⟨u',r',q⟩:=hl j y v' e1 e2 e3
       refine ⟨u',r',?_⟩
       rcases q with ⟨k,e⟩ | ⟨k,c,e,z⟩
       . refine .inl ⟨k,?_⟩
         have:y≠x:=λ e=>hj (sH hN e1 (e▸hi))
         simp [this,e]
       . exact .inr ⟨k,c,e,z.sameBut hs (cne y c e)⟩
   . obtain ⟨w',z⟩:=I.cell y c e
     exact ⟨w',z.sameBut hs (cne y c e)⟩
   . obtain ⟨e,n,ne,nf,d⟩:=I.pin p hp
     exact ⟨(hs.2 p.1 ne).trans e,n,ne,nf,d⟩
 . have hfn:X.fn x=true:=by
    rcases hf with z | z
    . exact z
    . rw [z] at hk;cases hk
   obtain ⟨c,hc⟩:=I.ok.has x (.inl hk)
   obtain ⟨w',z⟩:=I.cell x c hc
   refine wpAny_storeName_cell I.ok.kind hk hc z (λ h' hc' hs=>?_)
   obtain ⟨oc,hoc,hocd⟩:=id z
   refine h { s with heap:=h' } ⟨I.ok,I.os,I.bare,⟨λ b o e n hb hx=>?_,λ b o e n hb hx=>?_,I.base.free,λ b o e hx=>?_,I.base.tups,I.base.frzs,I.base.tbls⟩,⟨m,hn.sameBut hs (Ne.symm (cne x c hc)),λ j y v' e1 e2 e3=>?_⟩,λ y c' e=>?_,I.free,I.freeC,λ p hp=>?_,tracked ⟨oc,hoc,I.freeC x c hc⟩ hs,by simpa using I.len⟩ ⟨c,hs,.inr hc⟩
   . exact (hs.2 b (ne_of_lt (lt_of_lt_of_le (lt_size e) (I.ok.cab x c hfn hc)))).trans (I.base.keep b o e n hb hx)
   . obtain ⟨sl,e1⟩:=I.base.slot b o e n hb hx
     exact ⟨sl,(hs.2 b (ne_of_lt (lt_of_lt_of_le (lt_size e) (I.ok.cab x c hfn hc)))).trans e1⟩
   . obtain ⟨o',e1⟩:=I.base.there b o e hx
     exact ⟨o',(hs.2 b (ne_of_lt (lt_of_lt_of_le (lt_size e) (I.ok.cab x c hfn hc)))).trans e1⟩
   . by_cases hj:j=i
     . subst hj
       rw [hi] at e1;cases e1
       rw [List.getElem?_set_self hiσ] at e2
       cases e2
       exact ⟨u,r,.inr ⟨.inl hk,c,hc,hc'⟩⟩
     . rw [getElem?_set_ne (Ne.symm hj)] at e2
       obtain ⟨u',r',q⟩:=hl j y v' e1 e2 e3
       refine ⟨u',r',?_⟩
       rcases q with q | ⟨k,c',e,z'⟩
       . exact .inl q
       . refine .inr ⟨k,c',e,z'.sameBut hs ?_⟩
         rintro rfl
         exact hj (sH hN e1 (I.ok.inj _ _ _ e hc▸hi))
   . by_cases hcc:c'=c
     . subst hcc;exact ⟨_,hc'⟩
     . obtain ⟨w2,z2⟩:=I.cell y c' e
       exact ⟨w2,z2.sameBut hs hcc⟩
   . obtain ⟨e,n,ne,nf,d⟩:=I.pin p hp
     refine ⟨(hs.2 p.1 ?_).trans e,n,ne,nf,d⟩
     intro q
     rw [q,hoc] at e
     have q':oc=p.2:=Option.some.inj e
     exact d w' (by rw [<-q'];exact hocd)
def tp {M:Model} {A:Around} {E:Γ} {i:Nat} {x:Str} {v:V} {u:Value} {Q:Unit->Shared->Prop} (I:aL X pins σ H s) (hN:X.N.Nodup) (hi:X.N[i]?=some x) (hx:Gg X.env.scope x) (r:bc v u)
 (h:∀ s',aL X pins (σ.set i (some v)) H s'->Q () s') (hf:X.fn x=true∨X.env.scope.names.lookup x=some .local:=by first | exact .inl rfl | exact .inr rfl | assumption):wpAny M A (storeName X.env x u) Q E s:=
 pR I hN hi hx r (λ s' I' _=>h s' I') hf
def aL.call' {s':Shared} {ch:Ξ} (I:aL X pins σ H s) (ho:s'.os=s.os) (u:Un (BI X.stack) ch H H' s.heap s'.heap) (hok:je X.prog X.w H' s'.heap) (hg:AllBare s'.gens)
 (hch:∀ b∈ch,(b∈X.ex∨X.s₀.heap.objs.size<=b)/\b≠X.env.locals/\(∀ x c,X.env.cells.lookup x=some c->c≠b)/\∀ p∈X.pn++pins,p.1≠b):aL X pins σ H' s':=by
 obtain ⟨h',g',d',t',o'⟩:=s'
 have e:o'=s.os:=ho
 subst e
 exact I.call (g':=g') (t':=t') (d':=d') u hok hg hch
end
noncomputable abbrev XK:=Value->Option Addr->Hp->Prop
noncomputable abbrev St:=List (Option V)
noncomputable abbrev VK:=V->Hp->Prop
noncomputable abbrev TE:=St->Hp->VK->Prop
noncomputable abbrev TT:=St->Hp->(Bool->Hp->Prop)->Prop
noncomputable abbrev TA:=St->Hp->(List V->Hp->Prop)->Prop
structure iI where
 nx:St->Hp->Prop
 rt:VK
 bk:St->Hp->Prop:=λ _ _=>False
 ct:St->Hp->Prop:=λ _ _=>False
noncomputable abbrev TS:=iI->St->Hp->Prop
noncomputable def EP (X:Cx) (pins:Δ) (σ:St) (Q:VK) (u:Value) (s':Shared):Prop:=∃ v H',aL X pins σ H' s'/\bc v u/\Q v H'
noncomputable def TP (X:Cx) (pins:Δ) (σ:St) (Q:Bool->Hp->Prop) (b:Bool) (s':Shared):Prop:=∃ H',aL X pins σ H' s'/\Q b H'
noncomputable def AP (X:Cx) (pins:Δ) (σ:St) (Q:List V->Hp->Prop) (us:Φ) (s':Shared):Prop:=∃ vs H',aL X pins σ H' s'/\bb vs us/\Q vs H'
noncomputable def SP (X:Cx) (pins:Δ) (D:iI) (f:Flow) (s':Shared):Prop:=
 match f with
 | .next=>∃ σ' H',aL X pins σ' H' s'/\D.nx σ' H'
 | .brk=>∃ σ' H',aL X pins σ' H' s'/\D.bk σ' H'
 | .cont=>∃ σ' H',aL X pins σ' H' s'/\D.ct σ' H'
 | .ret u=>∃ v σ' H',aL X pins σ' H' s'/\bc v u/\D.rt v H'
noncomputable def PE (X:Cx) (e:Expr) (t:TE):Prop:=
 ∀ (pins:Δ) (s:Shared) (σ:St) (H:Hp) (Q:VK),aL X pins σ H s->t σ H Q->wpAny (model X.prog X.w) X.A (eval e X.env) (EP X pins σ Q) X.xe s
noncomputable def PT (X:Cx) (e:Expr) (t:TT):Prop:=
 ∀ (pins:Δ) (s:Shared) (σ:St) (H:Hp) (Q:Bool->Hp->Prop),aL X pins σ H s->t σ H Q->wpAny (model X.prog X.w) X.A (isTrue e X.env (eval e X.env)) (TP X pins σ Q) X.xe s
noncomputable def PW (X:Cx) (e:Expr) (t:TT):Prop:=
 ∀ (whole:Sem Value) (pins:Δ) (s:Shared) (σ:St) (H:Hp) (Q:Bool->Hp->Prop),aL X pins σ H s->t σ H Q->wpAny (model X.prog X.w) X.A (isTrue e X.env whole) (TP X pins σ Q) X.xe s
def PW.pt {X:Cx} {e:Expr} {t:TT} (h:PW X e t):PT X e t:=h _
noncomputable def PA (X:Cx) (es:List Expr) (t:TA):Prop:=
 ∀ (pos:Pos) (pins:Δ) (s:Shared) (σ:St) (H:Hp) (Q:List V->Hp->Prop),aL X pins σ H s->t σ H Q->wpAny (model X.prog X.w) X.A (spliced (backTo pos (starEach es X.env))) (AP X pins σ Q) X.xe s
noncomputable def PS (X:Cx) (st:Stmt) (t:TS):Prop:=
 ∀ (pins:Δ) (s:Shared) (σ:St) (H:Hp) (D:iI),aL X pins σ H s->t D σ H->wpAny (model X.prog X.w) X.A (exec st X.env) (SP X pins D) X.xe s
noncomputable def uc (X:Cx) (st:List Stmt) (t:TS):Prop:=
 ∀ (pins:Δ) (s:Shared) (σ:St) (H:Hp) (D:iI),aL X pins σ H s->t D σ H->wpAny (model X.prog X.w) X.A (execs st X.env) (SP X pins D) X.xe s
def bY {α:Type} {t:Sem α} {Q Q':α->Shared->Prop} {M:Model} {A:Around} {E:Γ} {s:Shared} (h:wpAny M A t Q E s) (hQ:∀ a s,Q a s->Q' a s):wpAny M A t Q' E s:=wpAny_mono h hQ λ _ _ x=>x
section
variable {X:Cx}
noncomputable def ym (i:Nat):TE:=λ σ H Q=>∃ v,σ[i]?=some (some v)/\Q v H
noncomputable def tC (v:V):TE:=λ _ H Q=>Q v H
def Mv {i:Nat} {x:Str} {pos:Pos} (hN:X.N[i]?=some x) (hv:Mh X.env.scope x) (hd:(x==("__debug__" : Str))=false) (hcd:(x==("__classdict__" : Str))=false):PE X (.Name x pos) (ym i):=by
 intro pins s σ H Q I h
 obtain ⟨v,e,h⟩:=h
 obtain ⟨m,hn,hl⟩:=I.loc
 obtain ⟨u,r,l⟩:=hl i x v hN e hv
 have fin:EP X pins σ Q u s:=⟨v,H,I,r,h⟩
 rcases l with ⟨hk,hm⟩ | ⟨hk,c,hc,hcell⟩
 . exact wpAny_Name (wpAny_loadName_local I.ok.kind hk hn hm fin) hd
 . rcases hk with hk | hk
   . exact wpAny_Name (wpAny_loadName_cell I.ok.kind hk hc hcell fin) hd
   . exact wpAny_Name (wpAny_loadName_free I.ok.kind hk hc hcell fin hcd) hd
def Nh {i j pos}:PE X (.Constant (.int i) j pos) (tC (.int i)):=λ _ _ _ H _ I h=>wpAny_Constant_int ⟨.int i,H,I.tok _,⟨_,rfl⟩,h⟩
def Od {b j pos}:PE X (.Constant (.bool b) j pos) (tC (.bl b)):=λ _ _ _ H _ I h=>Constant_bool ⟨.bl b,H,I,rfl,h⟩
def N7 {j pos}:PE X (.Constant .none j pos) (tC .non):=λ _ _ _ H _ I h=>Constant_none ⟨.non,H,I,rfl,h⟩
def zD {x j pos}:PE X (.Constant (.str x) j pos) (tC (.str x)):=λ _ _ _ H _ I h=>Calls.Constant_str ⟨.str x,H,I.tok _,⟨_,rfl⟩,h⟩
noncomputable def Gl (X:Cx) (x:Str):Prop:=X.env.kindOf x=some .globalImplicit
def qL {E:Γ} {pins:Δ} {s:Shared} {σ:St} {H:Hp} {x:Str} {u:Value} {pos:Pos} {Q:Γ} (I:aL X pins σ H s) (hg:Gl X x) (hm:X.mg x=some u) (h:Q u s)
 (hd:(x==("__debug__" : Str))=false:=by decide):wpAny (model X.prog X.w) X.A (eval (.Name x pos) X.env) Q E s:=
 Calls.Name_function_global I.ok.kind hg (Calls.loadGlobal_global (by rw [I.ok.glob];exact I.mod.glob.keeps I.bk) hm h) hd
def kS {E:Γ} {pins:Δ} {s:Shared} {σ:St} {H:Hp} {x:Str} {u:Value} {pos:Pos} {Q:Γ} (I:aL X pins σ H s) (hg:Gl X x) (hm:X.mg x=none) (hv:bootBuiltins x=some u) (h:Q u s)
 (hn:x ≠ "__name__" := by decide) (hd:(x==("__debug__" : Str))=false:=by decide):wpAny (model X.prog X.w) X.A (eval (.Name x pos) X.env) Q E s:=by
 obtain ⟨mb,h1,h2⟩:=I.mod.blt
 exact Calls.Name_function_global I.ok.kind hg (Calls.loadGlobal_builtin (by rw [I.ok.glob];exact I.mod.glob.keeps I.bk) hm (by rw [I.ok.blt];exact h1.keeps I.bk) ((h2 x hn).trans hv) h) hd
def D5 {x:Str} {v:V} {u:Value} {pos:Pos} (hg:Gl X x) (hm:X.mg x=some u) (r:bc v u) (hd:(x==("__debug__" : Str))=false:=by decide):PE X (.Name x pos) (tC v):=
 λ _ _ _ H _ I h=>qL I hg hm ⟨v,H,I,r,h⟩ hd
def Di {x:Str} {v:V} {u:Value} {pos:Pos} (hg:Gl X x) (hm:X.mg x=none) (hv:bootBuiltins x=some u) (r:bc v u) (hn:x ≠ "__name__" := by decide) (hd:(x==("__debug__" : Str))=false:=by decide):PE X (.Name x pos) (tC v):=
 λ _ _ _ H _ I h=>kS I hg hm hv ⟨v,H,I,r,h⟩ hn hd
variable {a b:Expr} {ta tb:TE} {pos:Pos}
noncomputable def PC (X:Cx) (op:CmpOp) (a b:Expr) (t:TE):Prop:=
 ∀ (pins:Δ) (s:Shared) (σ:St) (H:Hp) (Q:VK),aL X pins σ H s->t σ H Q->
  wpAny (model X.prog X.w) X.A (eval a X.env) (λ v s₁=>wpAny (model X.prog X.w) X.A (eval b X.env) (λ u s₂=>wpAny (model X.prog X.w) X.A (compareOp op v u) (EP X pins σ Q) X.xe s₂) X.xe s₁) X.xe s
noncomputable def tB (t:TE):TT:=λ σ H Q=>t σ H λ x H1=>∃ c,x=.bl c/\Q c H1
def MT {op:CmpOp} {t:TE} (h:PC X op a b t) (h1:behindInMarks op b=false):PT X (.Compare a [op] [b] pos) (tB t):=by
 intro pins s σ H Q I hw
 refine wpAny_isTrue_Compare1 (bY (h pins s σ H _ I hw) λ v s1 h1=>bY h1 λ u s2 h2=>bY h2 λ c s3 hq0=>?_) h1
 obtain ⟨x,H1,I1,r1,q1⟩:=hq0
 obtain ⟨d,rfl,q⟩:=q1
 cases r1
 exact wpAny_truthy_bool ⟨H1,I1,q⟩
def NE {e:Expr} {t:TE} (h:PE X e t) (he:∀ whole,isTrue e X.env whole=(do let v <-whole;standAt e.pos;holding [v] (truthy v))):PT X e (tB t):=by
 intro pins s σ H Q I hw
 refine isTrue_plain (bY (h pins s σ H _ I hw) λ v s1 hq0=>?_) (he _)
 obtain ⟨x,H1,I1,r1,q1⟩:=hq0
 obtain ⟨d,rfl,q⟩:=q1
 cases r1
 exact wpAny_truthy_bool ⟨H1,I1,q⟩
variable {tA tB':TT} {av:List Expr}
noncomputable def Jv (t u:TT):TT:=λ σ H Q=>t σ H λ c H1=>if c=true then u σ H1 Q else Q false H1
noncomputable def MD (t u:TT):TT:=λ σ H Q=>t σ H λ c H1=>if c=true then Q true H1 else u σ H1 Q
noncomputable def Jt (t:TT):TT:=λ σ H Q=>t σ H λ c H1=>Q (!c) H1
def LM (ha:PT X a tA):PW X (.BoolOp .And [a] pos) tA:=by
 intro wh pins s σ H Q I h
 refine isTrue_and (bY (ha pins s σ H Q I h) λ c s1 e=>?_)
 cases c with
 | true=>exact isTrue_and_nil e
 | false=>exact e
def M3 (ha:PT X a tA):PW X (.BoolOp .Or [a] pos) tA:=by
 intro wh pins s σ H Q I h
 refine isTrue_or (bY (ha pins s σ H Q I h) λ c s1 e=>?_)
 cases c with
 | false=>exact isTrue_or_nil e
 | true=>exact e
def N9 (ha:PT X a tA) (hb:PW X (.BoolOp .And (b::av) pos) tB'):PW X (.BoolOp .And (a::b::av) pos) (Jv tA tB'):=by
 intro wh pins s σ H Q I h
 refine isTrue_and (bY (ha pins s σ H _ I h) λ c s1 hq0=>?_)
 obtain ⟨H1,I1,q1⟩:=hq0
 cases c with
 | true=>exact hb wh pins s1 σ H1 Q I1 q1
 | false=>exact ⟨H1,I1,q1⟩
def Oc (ha:PT X a tA) (hb:PW X (.BoolOp .Or (b::av) pos) tB'):PW X (.BoolOp .Or (a::b::av) pos) (MD tA tB'):=by
 intro wh pins s σ H Q I h
 refine isTrue_or (bY (ha pins s σ H _ I h) λ c s1 hq0=>?_)
 obtain ⟨H1,I1,q1⟩:=hq0
 cases c with
 | true=>exact ⟨H1,I1,q1⟩
 | false=>exact hb wh pins s1 σ H1 Q I1 q1
def MM (ha:PT X a tA):PT X (.UnaryOp .Not a pos) (Jt tA):=by
 intro pins s σ H Q I h
 exact isTrue_not (ha pins s σ H (λ c H1=>Q (!c) H1) I h)
noncomputable def Fh (ta tb:TE):TE:=λ σ H Q=>ta σ H λ x H1=>∃ c,x=.bl c/\if c=true then tb σ H1 Q else Q (.bl false) H1
noncomputable def Kx (ta tb:TE):TE:=λ σ H Q=>ta σ H λ x H1=>∃ c,x=.bl c/\if c=true then Q (.bl true) H1 else tb σ H1 Q
noncomputable def E9 (ta:TE):TE:=λ σ H Q=>ta σ H λ x H1=>∃ c,x=.bl c/\Q (.bl (!c)) H1
def MU {op} {t:TE} (h:PE X a t):PE X (.BoolOp op [a] pos) t:=λ pins s σ H Q I hw=>BoolOp_one (h pins s σ H Q I hw)
def MX (ha:PE X a ta) (hb:PE X (.BoolOp .And (b::av) pos) tb):PE X (.BoolOp .And (a::b::av) pos) (Fh ta tb):=by
 intro pins s σ H Q I h
 refine BoolOp_and (bY (ha pins s σ H _ I h) λ v s1 hq0=>?_)
 obtain ⟨x,H1,I1,r1,q1⟩:=hq0
 obtain ⟨c,rfl,q1⟩:=q1
 cases r1
 refine wpAny_truthy_bool ?_
 cases c with
 | true=>exact hb pins s1 σ H1 Q I1 q1
 | false=>exact ⟨.bl false,H1,I1,rfl,q1⟩
def NM (ha:PE X a ta) (hb:PE X (.BoolOp .Or (b::av) pos) tb):PE X (.BoolOp .Or (a::b::av) pos) (Kx ta tb):=by
 intro pins s σ H Q I h
 refine BoolOp_or (bY (ha pins s σ H _ I h) λ v s1 hq0=>?_)
 obtain ⟨x,H1,I1,r1,q1⟩:=hq0
 obtain ⟨c,rfl,q1⟩:=q1
 cases r1
 refine wpAny_truthy_bool ?_
 cases c with
 | false=>exact hb pins s1 σ H1 Q I1 q1
 | true=>exact ⟨.bl true,H1,I1,rfl,q1⟩
def N4 (ha:PE X a ta):PE X (.UnaryOp .Not a pos) (E9 ta):=by
 intro pins s σ H Q I h
 refine UnaryOp_ (bY (ha pins s σ H _ I h) λ v s1 hq0=>?_)
 obtain ⟨x,H1,I1,r1,q1⟩:=hq0
 obtain ⟨c,rfl,q1⟩:=q1
 cases r1
 exact not_of (wpAny_truthy_bool ⟨.bl (!c),H1,I1,rfl,q1⟩)
noncomputable def NO (t:TT) (ta tb:TE):TE:=λ σ H Q=>t σ H λ c H1=>if c=true then ta σ H1 Q else tb σ H1 Q
def Km {c:Expr} (hc:PT X c tA) (ha:PE X a ta) (hb:PE X b tb):PE X (.IfExp c a b pos) (NO tA ta tb):=by
 intro pins s σ H Q I h
 refine wpAny_IfExp (bY (hc pins s σ H _ I h) λ d s1 hq0=>?_)
 obtain ⟨H1,I1,q1⟩:=hq0
 cases d with
 | true=>exact ha pins s1 σ H1 Q I1 q1
 | false=>exact hb pins s1 σ H1 Q I1 q1
end
noncomputable def cD (K:Frag) (H:Hp) (a:Addr) (xs:List V):Prop:=
 Rd H a (.lst xs)∨
  ∃ (o:Obj) (its:Array Value) (n:Nat),K.lookup a=some o/\o.cls=.type "list" /\ o.dict=none/\o.data=.seq its n/\its.size<=sizeLine/\bb xs its.toList
noncomputable def eK (K:Frag) (H:Hp) (a:Addr) (xs:List V):Prop:=
 Rd H a (.tup xs)∨
  ∃ (o:Obj) (its:Array Value) (n:Nat),K.lookup a=some o/\o.cls=.type "tuple" /\ o.data=.seq its n/\its.size<=sizeLine/\bb xs its.toList
noncomputable def Nb:Value->Option V
 | .none=>some .non
 | .bool b=>some (.bl b)
 | .int i _=>some (.int i)
 | .str x _=>some (.str x)
 | .bytes b _=>some (.byt b)
 | .float b _=>some (.flt b)
 | .ref a=>some (.ref a)
 | .type n=>some (.ty n)
 | _=>none
def bc.abs {x:V} {u:Value} (r:bc x u):Nb u=some x:=by
 cases x with
 | non=>cases r;rfl
 | bl _=>cases r;rfl
 | int _=>obtain ⟨t,rfl⟩:=r;rfl
 | str _=>obtain ⟨t,rfl⟩:=r;rfl
 | byt _=>obtain ⟨t,rfl⟩:=r;rfl
 | flt _=>obtain ⟨t,rfl⟩:=r;rfl
 | ref _=>cases r;rfl
 | ty _=>cases r;rfl
def bc.inj {x y:V} {u:Value} (r:bc x u) (q:bc y u):x=y:=Option.some.inj (r.abs.symm.trans q.abs)
def bb.inj {xs ys:List V} {us:Φ} (h:bb xs us) (h':bb ys us):xs=ys:=by
 induction h generalizing ys with
 | nil=>cases h';rfl
 | cons r _ ih=>
  cases h' with
  | cons r' t'=>rw [r.inj r',ih t']
section
variable {X:Cx} {pins:Δ} {σ:St} {H:Hp} {s:Shared} {a:Addr} {xs ys:List V}
def cD.of {K:Frag} (h:H a=some (.lst xs)):cD K H a xs:=.inl (.inl h)
def eK.of {K:Frag} (h:H a=some (.tup xs)):eK K H a xs:=.inl (.inl h)
def aL.list (I:aL X pins σ H s) (h:cD X.K H a xs):∃ its:Φ,bb xs its/\PlainL s.heap a its.toArray/\xs.length<=sizeLine:=by
 rcases h with h | ⟨o,its,n,hk,hc,hd,hs,hz,r⟩
 . obtain ⟨z,its,n,r,e⟩:=h.ok I.hok
   exact ⟨its,r,⟨_,n,e,rfl,rfl,rfl⟩,z⟩
 . refine ⟨its.toList,r,⟨o,n,I.kIn a o hk,hc,hd,by simpa using hs⟩,?_⟩
   have e:=r.length
   simp only [length_toList] at e
   omega
def aL.tuple (I:aL X pins σ H s) (h:eK X.K H a xs):∃ its:Φ,bb xs its/\IsTup s.heap a its.toArray/\xs.length<=sizeLine:=by
 rcases h with h | ⟨o,its,n,hk,hc,hs,hz,r⟩
 . obtain ⟨z,its,r,p⟩:=h.ok I.hok
   exact ⟨its,r,p,z⟩
 . refine ⟨its.toList,r,⟨o,I.kIn a o hk,hc,n,by simpa using hs⟩,?_⟩
   have e:=r.length
   simp only [length_toList] at e
   omega
def aL.list_inj (I:aL X pins σ H s) (h:cD X.K H a xs) (h':cD X.K H a ys):xs=ys:=by
 obtain ⟨its,r,⟨o,n,e,_,_,d⟩,_⟩:=I.list h
 obtain ⟨its',r',⟨o',n',e',_,_,d'⟩,_⟩:=I.list h'
 rw [e] at e';cases e'
 rw [d] at d'
 injection d' with d1 _
 have:its=its':=by simpa using congrArg Array.toList d1
 subst this
 exact r.inj r'
def aL.tuple_inj (I:aL X pins σ H s) (h:eK X.K H a xs) (h':eK X.K H a ys):xs=ys:=by
 obtain ⟨its,r,⟨o,e,_,n,d⟩,_⟩:=I.tuple h
 obtain ⟨its',r',⟨o',e',_,n',d'⟩,_⟩:=I.tuple h'
 rw [e] at e';cases e'
 rw [d] at d'
 injection d' with d1 _
 have:its=its':=by simpa using congrArg Array.toList d1
 subst this
 exact r.inj r'
end
noncomputable abbrev Cx.wish (X:Cx) (E:Γ):Cx:={ X with xe:=E }
noncomputable abbrev Cx.nox (X:Cx):Cx:=X.wish λ _ _=>False
def Cx.Ok.wish {X:Cx} (ok:X.Ok) (E:Γ):(X.wish E).Ok:=
 ⟨ok.mod,ok.kind,ok.glob,ok.blt,ok.above,ok.inj,ok.has,ok.cab,ok.hd,ok.frames,ok.stk,ok.exf,ok.bs,ok.bsz,ok.noex,ok.exfs,ok.funs,ok.frf⟩
def Cx.Ok.unwish {X:Cx} {E:Γ} (ok:(X.wish E).Ok):X.Ok:=
 ⟨ok.mod,ok.kind,ok.glob,ok.blt,ok.above,ok.inj,ok.has,ok.cab,ok.hd,ok.frames,ok.stk,ok.exf,ok.bs,ok.bsz,ok.noex,ok.exfs,ok.funs,ok.frf⟩
section
variable {X:Cx} {pins:Δ} {σ:St} {H:Hp} {s:Shared} {E:Γ}
def aL.wish (I:aL X pins σ H s) (E:Γ):aL (X.wish E) pins σ H s:=⟨I.ok.wish E,I.os,I.bare,I.base,I.loc,I.cell,I.free,I.freeC,I.pin,I.hok,I.len⟩
def aL.unwish (I:aL (X.wish E) pins σ H s):aL X pins σ H s:=⟨I.ok.unwish,I.os,I.bare,I.base,I.loc,I.cell,I.free,I.freeC,I.pin,I.hok,I.len⟩
def SP.unwish {D:iI} {f:Flow} {s':Shared} (h:SP (X.wish E) pins D f s'):SP X pins D f s':=by
 cases f with
 | next=>obtain ⟨σ',H',I,q⟩:=h;exact ⟨σ',H',I.unwish,q⟩
 | brk=>obtain ⟨σ',H',I,q⟩:=h;exact ⟨σ',H',I.unwish,q⟩
 | cont=>obtain ⟨σ',H',I,q⟩:=h;exact ⟨σ',H',I.unwish,q⟩
 | ret u=>obtain ⟨v,σ',H',I,r,q⟩:=h;exact ⟨v,σ',H',I.unwish,r,q⟩
def uc.nox {st:List Stmt} {t:TS} (h:uc X.nox st t):uc X st t:=λ pins s σ H D I hw=>
 wpAny_mono (h pins s σ H D (I.wish _) hw) (λ _ _ q=>q.unwish) λ _ _ z=>False.elim z
end
section
variable {X:Cx} {st:Stmt} {av:List Stmt} {t u:TS} {e:Expr} {te:TE} {pos:Pos}
noncomputable def EA:TS:=λ D σ H=>D.nx σ H
noncomputable def FX (t u:TS):TS:=λ D σ H=>t { D with nx:=u D } σ H
def Mb:uc X [] EA:=λ _ _ σ H _ I h=>wpAny_execs_nil ⟨σ,H,I,h⟩
def KJ (h1:PS X st t) (h2:uc X av u):uc X (st::av) (FX t u):=by
 intro pins s σ H D I h
 refine wpAny_execs_cons (bY (h1 pins s σ H { D with nx:=u D } I h) λ f s1 q=>?_)
 cases f with
 | next=>
  obtain ⟨σ',H',I',q⟩:=q
  exact h2 pins s1 σ' H' D I' q
 | ret v=>exact q
 | brk=>exact q
 | cont=>exact q
def Mp (h1:PS X st t):uc X [st] t:=by
 intro pins s σ H D I h
 refine wpAny_execs_cons (bY (h1 pins s σ H D I h) λ f s1 q=>?_)
 cases f with
 | next=>exact wpAny_execs_nil q
 | ret v=>exact q
 | brk=>exact q
 | cont=>exact q
noncomputable def E6:TS:=λ D σ H=>D.ct σ H
def Fo:PS X (.Continue pos) E6:=λ _ _ σ H _ I h=>wpAny_Continue ⟨σ,H,I,h⟩
def aL.quiet {pins:Δ} {σ:St} {H:Hp} {s:Shared} (I:aL X pins σ H s):interactive X.env=false:=by simp [interactive,I.ok.kind]
noncomputable def tU (te:TE):TS:=λ D σ H=>te σ H λ _ H1=>D.nx σ H1
def LR (he:PE X e te) (hs:swapsWith e none pos.line X.env=pure false):PS X (.Expr e pos) (tU te):=by
 intro pins s σ H D I h
 exact wpAny_Expr_any (bY (he pins s σ H _ I h) λ v s1 hy0=>by obtain ⟨x,H1,I1,r1,q1⟩:=hy0;exact ⟨σ,H1,I1,q1⟩) I.quiet hs
noncomputable def Hy (te:TE):TS:=λ D σ H=>te σ H D.rt
def M9 (he:PE X e te):PS X (.Return (some e) pos) (Hy te):=by
 intro pins s σ H D I h
 exact wpAny_Return_some (bY (he pins s σ H _ I h) λ v s1 hy0=>by obtain ⟨x,H1,I1,r1,q1⟩:=hy0;exact ⟨x,σ,H1,I1,r1,q1⟩)
noncomputable def Hn (c:TT) (t u:TS):TS:=λ D σ H=>c σ H λ b H1=>if b=true then t D σ H1 else u D σ H1
def Ov {c:Expr} {a b:List Stmt} {tc:TT} (hc:PT X c tc) (ha:uc X a t) (hb:uc X b u):PS X (.If c a b pos) (Hn tc t u):=by
 intro pins s σ H D I h
 refine wpAny_If (bY (hc pins s σ H _ I h) λ d s1 hq0=>?_)
 obtain ⟨H1,I1,q1⟩:=hq0
 cases d with
 | true=>exact ha pins s1 σ H1 D I1 q1
 | false=>exact hb pins s1 σ H1 D I1 q1
end
noncomputable abbrev TG:=V->St->Hp->(St->Hp->Prop)->Prop
noncomputable abbrev AQ:=List V->St->Hp->(St->Hp->Prop)->Prop
noncomputable def PG (X:Cx) (target:Expr) (t:TG):Prop:=
 ∀ (pins:Δ) (s:Shared) (σ:St) (H:Hp) (v:V) (u:Value) (Q:St->Hp->Prop),aL X pins σ H s->bc v u->t v σ H Q->
  wpAny (model X.prog X.w) X.A (assign target X.env u) (λ _ s'=>∃ σ' H',aL X pins σ' H' s'/\Q σ' H') X.xe s
noncomputable def IY (X:Cx) (ts:List Expr) (t:AQ):Prop:=
 ∀ (pins:Δ) (s:Shared) (σ:St) (H:Hp) (vs:List V) (us:Φ) (Q:St->Hp->Prop),aL X pins σ H s->bb vs us->t vs σ H Q->
  wpAny (model X.prog X.w) X.A (assignInOrder ((assignEach ts X.env).map (·.2)) us) (λ _ s'=>∃ σ' H',aL X pins σ' H' s'/\Q σ' H') X.xe s
noncomputable abbrev Gd:=V->V->V->Hp->(Hp->Prop)->Prop
noncomputable def JT (X:Cx) (t:Gd):Prop:=
 ∀ (pins:Δ) (s:Shared) (σ:St) (H:Hp) (o i v:V) (ov iv u:Value) (Q:Hp->Prop),aL X pins σ H s->bc o ov->bc i iv->bc v u->t o i v H Q->
  wpAny (model X.prog X.w) X.A (setItem ov iv u) (λ _ s'=>∃ H',aL X pins σ H' s'/\Q H') X.xe s
section
variable {X:Cx} {pos:Pos}
noncomputable def lF (i:Nat):TG:=λ v σ H Q=>Q (σ.set i (some v)) H
def L0 {i:Nat} {x:Str} (hN:X.N.Nodup) (hi:X.N[i]?=some x) (hx:Gg X.env.scope x) (hf:X.fn x=true∨X.env.scope.names.lookup x=some .local):PG X (.Name x pos) (lF i):=by
 intro pins s σ H v u Q I r h
 exact wpAny_assign_Name (tp I hN hi hx r (λ s' I'=>⟨_,H,I',h⟩) hf)
noncomputable def Li:AQ:=λ vs σ H Q=>vs=[]/\Q σ H
noncomputable def EI (t:TG) (u:AQ):AQ:=λ vs σ H Q=>∃ v r,vs=v::r/\t v σ H λ σ' H'=>u r σ' H' Q
def LU:IY X [] Li:=by
 intro pins s σ H vs us Q I r h
 obtain ⟨e,h⟩:=h
 subst e
 cases r
 exact assignInOrder_nil ⟨σ,H,I,h⟩
def JD {e:Expr} {es:List Expr} {t:TG} {u:AQ} (h1:PG X e t) (h2:IY X es u)
 (hs:(assignEach (e::es) X.env).map (·.2)=assign e X.env::(assignEach es X.env).map (·.2)):IY X (e::es) (EI t u):=by
 intro pins s σ H vs us Q I r h
 obtain ⟨v,vr,e1,h⟩:=h
 subst e1
 cases r with
 | cons r rr=>
  rw [hs]
  refine assignInOrder_cons (bY (h1 pins s σ H _ _ _ I r h) λ _ s1 hq0=>?_)
  obtain ⟨σ1,H1,I1,q1⟩:=hq0
  exact h2 pins s1 σ1 H1 _ _ Q I1 rr q1
noncomputable def HY (K:Frag) (n:Nat) (t:AQ):TG:=λ v σ H Q=>∃ a xs,v=.ref a/\eK K H a xs/\xs.length=n/\t xs σ H Q
def GU {es:List Expr} {k:Nat} {t:AQ} {n:Nat} (hc:X.calm=true) (h:IY X es t)
 (hn:(assignEach es X.env).length=n:=by rfl) (hst:(assignEach es X.env).findIdx? (·.1)=none:=by rfl):PG X (.Tuple es k pos) (HY X.K n t):=by
 intro pins s σ H v u Q I r hw
 obtain ⟨a,xs,e1,hq,hl,hw⟩:=hw
 subst e1
 cases r
 obtain ⟨its,rv,ht,hz⟩:=I.tuple hq
 refine assign_Tuple_tuple (I.ok.hd hc) ht (by simp [hn,<-hl,rv.length]) hst λ h' hx=>?_
 have I1:aL X pins σ H { s with heap:=h' }:=I.kept (t':=s.toks) λ b o e=>hx b o (ne_of_lt (lt_size e)) e
 exact h pins _ σ H xs _ Q I1 (by simpa using rv) hw
noncomputable def Cw (to ti:TE) (t:Gd):TG:=λ v σ H Q=>to σ H λ o H1=>ti σ H1 λ i H2=>t o i v H2 λ H3=>Q σ H3
def HS {o i:Expr} {to ti:TE} {t:Gd} (ho:PE X o to) (hi:PE X i ti) (hs:JT X t)
 (ha:∀ v,assign (.Subscript o i pos) X.env v=(do
  let ov <-holding [v] (eval o X.env)
  let iv <-holding [v,ov] (eval i X.env)
  standAt pos
  holding [v,ov,iv] (setItem ov iv v)
  release [v,ov,iv] []):=by intro _;rfl):PG X (.Subscript o i pos) (Cw to ti t):=by
 intro pins s σ H v u Q I r h
 rw [ha]
 refine wpAny_bind (wpAny_holding (bY (ho pins s σ H _ I h) λ ov s1 hq0=>?_))
 obtain ⟨x,H1,I1,r1,q1⟩:=hq0
 refine wpAny_bind (wpAny_holding (bY (hi pins s1 σ H1 _ I1 q1) λ iv s2 hq0=>?_))
 obtain ⟨y,H2,I2,r2,q2⟩:=hq0
 refine wpAny_bind (wpAny_standAt (wpAny_bind (wpAny_holding (bY (hs pins s2 σ H2 x y v ov iv u _ I2 r1 r2 r q2) λ _ s3 hq0=>?_))))
 obtain ⟨H3,I3,q3⟩:=hq0
 exact wpAny_release ⟨σ,H3,I3,q3⟩
noncomputable def oT (te:TE) (g:TG):TS:=λ D σ H=>te σ H λ x H1=>g x σ H1 D.nx
def GM {tg e:Expr} {te:TE} {g:TG} (he:PE X e te) (hg:PG X tg g) (hs:swapsWithSole [tg] e pos.line X.env=pure false:=by rfl) (hw:swappedStores [tg] e X.env=pure none:=by rfl)
 (h1:(assignEach [tg] X.env).map (·.2)=[assign tg X.env]:=by rfl):PS X (.Assign [tg] e pos) (oT te g):=by
 intro pins s σ H D I h
 refine wpAny_Assign_stores (bY (he pins s σ H _ I h) λ v s1 hq0=>?_) hs hw
 obtain ⟨x,H1,I1,r1,q1⟩:=hq0
 rw [h1]
 exact bY (hg pins s1 σ H1 x v _ I1 r1 q1) λ _ s2 q=>q
def N3 {i:Nat} {x:Str} {e:Expr} {te:TE} {pos':Pos} (hN:X.N.Nodup) (hi:X.N[i]?=some x) (hx:Gg X.env.scope x) (he:PE X e te) (hs:swapsWith e (some (.Name x pos')) pos.line X.env=pure false) (hf:X.fn x=true∨X.env.scope.names.lookup x=some .local):
 PS X (.Assign [.Name x pos'] e pos) (oT te (lF i)):=by
 intro pins s σ H D I h
 refine wpAny_Assign_Name (bY (he pins s σ H _ I h) λ v s1 hq0=>?_) hs
 obtain ⟨y,H1,I1,r1,q1⟩:=hq0
 exact tp I1 hN hi hx r1 (λ s2 I2=>⟨_,H1,I2,q1⟩) hf
end
section
variable {X:Cx} {pos:Pos}
noncomputable def zt (c:TT) (tb:TS):TS:=λ D σ H=>∃ W:Nat->St->Hp->Prop,(∃ m,W m σ H)/\∀ m σ H,W m σ H->
 c σ H λ b H1=>if b=true then ∃ N:St->Hp->Prop,(∀ σ' H',N σ' H'->∃ m',m'<m/\W m' σ' H')/\tb { D with nx:=N,ct:=N,bk:=D.nx } σ H1 else D.nx σ H1
def JN {c:Expr} {body:List Stmt} {tc:TT} {tb:TS} (hp:PassesOwn (model X.prog X.w) X.A X.env X.xe) (hc:PT X c tc) (hb:uc X body tb):PS X (.While c body [] pos) (zt tc tb):=by
 intro pins s σ H D I h
 obtain ⟨W,⟨m0,w0⟩,turn⟩:=h
 refine wpAny_While (codeAny_whileLoop (λ n s'=>∃ σ' H',aL X pins σ' H' s'/\W n σ' H') ?_ m0 ⟨σ,H,I,w0⟩)
 rintro n s1 ⟨σ1,H1,I1,w1⟩
 refine wpAny_passesOwn hp (bY (hc pins s1 σ1 H1 _ I1 (turn n σ1 H1 w1)) λ b s2 hq0=>?_)
 obtain ⟨H2,I2,q2⟩:=hq0
 cases b with
 | true=>
  obtain ⟨N,hN,q2⟩:=q2
  rw [if_pos rfl]
  refine wpAny_passesOwn hp (bY (hb pins s2 σ1 H2 _ I2 q2) λ f s3 q3=>?_)
  cases f with
  | next=>
   obtain ⟨σ3,H3,I3,n3⟩:=q3
   obtain ⟨m',hm,w3⟩:=hN σ3 H3 n3
   exact ⟨m',hm,σ3,H3,I3,w3⟩
  | cont=>
   obtain ⟨σ3,H3,I3,n3⟩:=q3
   obtain ⟨m',hm,w3⟩:=hN σ3 H3 n3
   exact ⟨m',hm,σ3,H3,I3,w3⟩
  | brk=>exact q3
  | ret v=>exact q3
 | false=>
  rw [if_neg Bool.false_ne_true]
  exact wpAny_execs_nil ⟨σ1,H2,I2,q2⟩
end
structure It where
 go:Nat->Hp->Prop
 yld:Nat->Hp->V->Hp->Prop
 stop:Nat->Hp->Prop
noncomputable def jv (X:Cx) (pins:Δ) (H:Hp) (b:Addr):Prop:=
 H b=none/\b≠X.env.locals/\b∉X.fs/\(b∈X.ex∨X.s₀.heap.objs.size<=b)/\(∀ x c,X.env.cells.lookup x=some c->c≠b)/\∀ p∈X.pn++pins,p.1≠b
def aL.fpOk {X:Cx} {pins:Δ} {σ:St} {H H':Hp} {s:Shared} {b:Addr} (I:aL X pins σ H s) (hb:s.heap.objs.size<=b) (hn:H' b=none):jv X pins H' b:=by
 refine ⟨hn,Nat.ne_of_gt (lt_of_lt_of_le I.lt hb),I.nofs hb,.inr (le_trans I.sz hb),λ x c e z=>?_,λ p hp z=>?_⟩
 . obtain ⟨v,q⟩:=I.cell x c e
   exact absurd (lt_of_lt_of_le q.lt (by rw [z];exact hb)) (lt_irrefl _)
 . exact absurd (lt_of_lt_of_le (lt_size (I.pin p hp).1) (by rw [z];exact hb)) (lt_irrefl _)
structure yh (P:Program) (w:World) (K:Frag) (tg:Expr) (J:It) (fp:Ξ) (it:Addr) (tn:Nat->Heap->Prop):Prop where
 mem:it∈fp
 obj:∀ i h,tn i h->∀ b∈fp,∃ o,h.get? b=some o/\∀ v,o.data≠.cell v
 keep:∀ i h h',tn i h->(∀ b∈fp,∀ o,h.get? b=some o->h'.get? b=some o)->tn i h'
 item:∀ (X:Cx),X.prog=P->X.w=w->X.K=K->X.calm=true->∀ (i:Nat) (pins:Δ) (s:Shared) (σ:St) (H:Hp) (E:Γ),aL X pins σ H s->(∀ b∈fp,jv X pins H b)->tn i s.heap->J.go i H->
  wpAny (model P w) X.A (pyNext (.ref it)) (λ r s1=>∃ u,r=some u/\
   wpAny (model P w) X.A (letOwnedTupleGo tg (.ref it) u) (λ _ s2=>∃ x H',aL X pins σ H' s2/\bc x u/\J.yld i H x H'/\tn (i+1) s2.heap/\∀ b∈fp,H' b=none) E s1) E s
 done:∀ (X:Cx),X.prog=P->X.w=w->X.K=K->X.calm=true->∀ (i:Nat) (pins:Δ) (s:Shared) (σ:St) (H:Hp) (E:Γ),aL X pins σ H s->(∀ b∈fp,jv X pins H b)->tn i s.heap->J.stop i H->
  wpAny (model P w) X.A (pyNext (.ref it)) (λ r s1=>r=none/\aL X pins σ H s1) E s
 self:∀ (A:Around) (i:Nat) (s:Shared) (Q:Γ) (E:Γ),tn i s.heap->Q (.ref it) s->wpAny (model P w) A (pyIter (.ref it)) Q E s
noncomputable abbrev TI:=St->Hp->(It->Hp->Prop)->Prop
noncomputable def M4 (X:Cx) (pins:Δ) (σ:St) (tg:Expr) (R:It->Hp->Prop) (itv:Value) (s2:Shared):Prop:=
 ∃ (it:Addr) (fp:Ξ) (tn:Nat->Heap->Prop) (J:It) (H':Hp),itv=.ref it/\aL X pins σ H' s2/\yh X.prog X.w X.K tg J fp it tn/\tn 0 s2.heap/\(∀ b∈fp,jv X pins H' b)/\R J H'
noncomputable def PI (X:Cx) (tg iter:Expr) (wi:TI):Prop:=
 ∀ (pins:Δ) (s:Shared) (σ:St) (H:Hp) (R:It->Hp->Prop),aL X pins σ H s->wi σ H R->
  wpAny (model X.prog X.w) X.A (eval iter X.env) (λ v s1=>wpAny (model X.prog X.w) X.A (pyIter v) (M4 X pins σ tg R) X.xe s1) X.xe s
def Aw {M:Model} {A:Around} {E:Γ} {s:Shared} {tg:Expr} {it:Addr} {u:Value} {o:Obj} {n:String} {vs:Array Value} {Q:Unit->Shared->Prop} (ho:s.heap.get? it=some o) (hc:o.cls=.type n) (hd:o.data=.fields vs)
 (hn:["enumerate", "zip", "dict_itemiterator", "dict_reverseitemiterator", "odict_iterator", "itertools.zip_longest", "itertools.pairwise"].contains n=false) (hQ:Q () s):wpAny M A (letOwnedTupleGo tg (.ref it) u) Q E s:=by
 unfold letOwnedTupleGo
 cases tg <;> first
  | exact wpAny_pure hQ
  | (cases u <;> first
   | exact wpAny_pure hQ
   | (refine wpAny_bind (wpAny_load ho ?_)
      rw [hc,hd]
      show wpAny M A (if (["enumerate", "zip", "dict_itemiterator", "dict_reverseitemiterator", "odict_iterator", "itertools.zip_longest", "itertools.pairwise"].contains n&&vs[0]?==some (rawInt _))=true then _ else _) Q E s
      rw [if_neg (by intro h;rw [hn,Bool.false_and] at h;cases h)]
      exact wpAny_pure hQ))
noncomputable def MR (K:Frag) (a:Addr):It:=
 ⟨λ i H=>∃ xs x,cD K H a xs/\xs[i]?=some x,λ i H x H'=>H'=H/\∀ xs,cD K H a xs->xs[i]?=some x,λ i H=>∃ xs,cD K H a xs/\xs.length<=i⟩
noncomputable def NB (K:Frag) (a:Addr):It:=
 ⟨λ i H=>∃ xs x,eK K H a xs/\xs[i]?=some x,λ i H x H'=>H'=H/\∀ xs,eK K H a xs->xs[i]?=some x,λ i H=>∃ xs,eK K H a xs/\xs.length<=i⟩
noncomputable def LH (lo:Int) (n:Nat):It:=⟨λ i _=>i<n,λ i H x H'=>H'=H/\x=.int (lo+i),λ i _=>n<=i⟩
def yg {P:Program} {w:World} {K:Frag} {tg:Expr} (a it:Addr):yh P w K tg (MR K a) [it] it (λ i h=>h.IsListIter it a i) where
 mem:=by simp
 obj:=λ i h st b hb=>by
  have e:b=it:=by simpa using hb
  subst e
  obtain ⟨o,e,c,d⟩:=st
  exact ⟨o,e,λ v z=>by rw [d] at z;cases z⟩
 keep:=λ i h h' st k=>st.at λ o e=>k it (by simp) o e
 item:=by
  intro X hP hw hK hc i pins s σ H E I hf st hg
  subst hP hw hK
  obtain ⟨xs,x,hq,hx⟩:=hg
  obtain ⟨its,rv,p,hz⟩:=I.list hq
  obtain ⟨u,hu,ru⟩:=rv.get hx
  obtain ⟨f0,f1,f2,f3,f4,f5⟩:=hf it (by simp)
  refine wpAny_pyNext_list_item st p.isList (x:=u) (by simpa using hu) λ h' st' sb=>?_
  have I1:aL X pins σ H { s with heap:=h' }:=I.turned (t':=s.toks) (λ b o hb e=>(sb.2 b hb).trans e) f0 f1 f3 f4 f5
  obtain ⟨o,e,c,d⟩:=id st'
  exact ⟨u,rfl,Aw (s:={ s with heap:=h' }) e c d (by decide) ⟨x,H,I1,ru,⟨rfl,λ ys hy=>by rw [I.list_inj hy hq];exact hx⟩,st',λ b hb=>(hf b hb).1⟩⟩
 done:=by
  intro X hP hw hK hc i pins s σ H E I hf st hg
  subst hP hw hK
  obtain ⟨xs,hq,hx⟩:=hg
  obtain ⟨its,rv,p,hz⟩:=I.list hq
  obtain ⟨f0,f1,f2,f3,f4,f5⟩:=hf it (by simp)
  have hl:=rv.length
  exact wpAny_pyNext_list_end (I.ok.hd hc) st p.isList (by simp;omega) λ h' eb=>⟨rfl,I.turned (t':=s.toks) (λ b o hb e=>eb b o hb e) f0 f1 f3 f4 f5⟩
 self:=λ _ _ _ _ _ st h=>wpAny_pyIter_listiter st h
def vB {P:Program} {w:World} {K:Frag} {tg:Expr} (a it:Addr):yh P w K tg (NB K a) [it] it (λ i h=>h.IsTupleIter it a i) where
 mem:=by simp
 obj:=λ i h st b hb=>by
  have e:b=it:=by simpa using hb
  subst e
  obtain ⟨o,e,c,d⟩:=st
  exact ⟨o,e,λ v z=>by rw [d] at z;cases z⟩
 keep:=λ i h h' st k=>st.at λ o e=>k it (by simp) o e
 item:=by
  intro X hP hw hK hc i pins s σ H E I hf st hg
  subst hP hw hK
  obtain ⟨xs,x,hq,hx⟩:=hg
  obtain ⟨its,rv,p,hz⟩:=I.tuple hq
  obtain ⟨u,hu,ru⟩:=rv.get hx
  obtain ⟨f0,f1,f2,f3,f4,f5⟩:=hf it (by simp)
  refine wpAny_pyNext_tuple_item st (show s.heap.IsTuple a its.toArray from p) (x:=u) (by simpa using hu) λ h' st' sb=>?_
  have I1:aL X pins σ H { s with heap:=h' }:=I.turned (t':=s.toks) (λ b o hb e=>(sb.2 b hb).trans e) f0 f1 f3 f4 f5
  obtain ⟨o,e,c,d⟩:=id st'
  exact ⟨u,rfl,Aw (s:={ s with heap:=h' }) e c d (by decide) ⟨x,H,I1,ru,⟨rfl,λ ys hy=>by rw [I.tuple_inj hy hq];exact hx⟩,st',λ b hb=>(hf b hb).1⟩⟩
 done:=by
  intro X hP hw hK hc i pins s σ H E I hf st hg
  subst hP hw hK
  obtain ⟨xs,hq,hx⟩:=hg
  obtain ⟨its,rv,p,hz⟩:=I.tuple hq
  obtain ⟨f0,f1,f2,f3,f4,f5⟩:=hf it (by simp)
  have hl:=rv.length
  exact wpAny_pyNext_tuple_end (I.ok.hd hc) st (show s.heap.IsTuple a its.toArray from p) (by simp;omega) λ h' eb=>⟨rfl,I.turned (t':=s.toks) (λ b o hb e=>eb b o hb e) f0 f1 f3 f4 f5⟩
 self:=λ _ _ _ _ _ st h=>wpAny_pyIter_tupleiter st h
def vb {P:Program} {w:World} {K:Frag} {tg:Expr} (it:Addr) (lo:Int) (n:Nat):yh P w K tg (LH lo n) [it] it (λ i h=>IsRangeIter h it (lo+(i:Nat)*1) ((n:Int)-(i:Nat)) 1) where
 mem:=by simp
 obj:=λ i h st b hb=>by
  have e:b=it:=by simpa using hb
  subst e
  exact ⟨_,st,λ v z=>by
   have z':Data.fields _=Data.cell v:=z
   cases z'⟩
 keep:=λ i h h' st k=>k it (by simp) _ st
 item:=by
  intro X hP hw hK hc i pins s σ H E I hf st hg
  subst hP hw hK
  obtain ⟨f0,f1,f2,f3,f4,f5⟩:=hf it (by simp)
  have W:=Walks.range (prog:=X.prog) (w:=X.w) (I.ok.hd hc) it lo 1 n
  refine W.item i s _ _ hg st λ v h' tk hv st' kk=>?_
  obtain ⟨t,rfl⟩:=hv
  have I1:aL X pins σ H { s with heap:=h',toks:=tk }:=I.turned (λ b o hb e=>kk b o (by simpa using hb) e) f0 f1 f3 f4 f5
  refine ⟨_,rfl,Aw (s:={ s with heap:=h',toks:=tk }) (n := "range_iterator") st' rfl rfl (by decide) ⟨.int (lo+i),H,I1,⟨t,?_⟩,⟨rfl,rfl⟩,st',λ b hb=>(hf b hb).1⟩⟩
  rw [Int.mul_one]
 done:=by
  intro X hP hw hK hc i pins s σ H E I hf st hg
  subst hP hw hK
  obtain ⟨f0,f1,f2,f3,f4,f5⟩:=hf it (by simp)
  exact wpAny_pyNext_range_end (I.ok.hd hc) st (by have:n<=i:=hg;omega) λ h' eb=>⟨rfl,I.turned (t':=s.toks) (λ b o hb e=>eb b o hb e) f0 f1 f3 f4 f5⟩
 self:=λ _ _ _ _ _ st h=>wpAny_pyIter_rangeiter st h
section
variable {X:Cx} {tg:Expr}
def Az {pins:Δ} {σ:St} {H:Hp} {s:Shared} {R:It->Hp->Prop} {E:Γ} {lo hi:Int} {t u v:Tok} {tk:Nat} (I:aL X pins σ H s) (h1 : -(2^62)<=lo) (h2:lo<2^62) (h3 : -(2^62)<=hi) (h4:hi<2^62)
 (q:R (LH lo (hi-lo).toNat) H):wpAny (model X.prog X.w) X.A (pyIter (.ref s.heap.objs.size)) (M4 X pins σ tg R) E { s with heap:=s.heap.push { cls:=.type "range", data:=.fields #[.int lo t,.int hi u,.int 1 v] },toks:=tk }:=by
 refine wpAny_pyIter_range (IsRange.new ..) (small_one h1 h2 h3 h4) ?_
 have I1:aL X pins σ H { s with heap:=s.heap.push { cls:=.type "range", data:=.fields #[.int lo t,.int hi u,.int 1 v] },toks:=tk }:=I.kept λ b o e=>get?_push_of_some _ e
 refine ⟨(s.heap.push { cls:=.type "range", data:=.fields #[.int lo t,.int hi u,.int 1 v] }).objs.size,[(s.heap.push { cls:=.type "range", data:=.fields #[.int lo t,.int hi u,.int 1 v] }).objs.size],_,_,H,rfl,
  I1.kept (t':=tk) λ b o e=>get?_push_of_some _ e,vb _ lo (hi-lo).toNat,?_,λ b hb=>?_,q⟩
 . have e1:lo+((0:Nat):Int)*1=lo:=by simp
   have e2:(((hi-lo).toNat:Nat):Int)-((0:Nat):Int)=Builtin.Range.rangeSize lo hi 1:=by rw [rangeSize_one];split <;> omega
   show IsRangeIter _ _ (lo+((0:Nat):Int)*1) ((((hi-lo).toNat:Nat):Int)-((0:Nat):Int)) 1
   rw [e1,e2]
   exact get?_push_size _ rfl
 . have e:b=(s.heap.push { cls:=.type "range", data:=.fields #[.int lo t,.int hi u,.int 1 v] }).objs.size:=by simpa using hb
   subst e
   exact I1.fpOk (le_refl _) (I1.hok.fresh (le_refl _))
noncomputable def F6 (ta:TA):TI:=λ σ H R=>ta σ H λ vs H1=>∃ j:Int,vs=[.int j] /\ -(2^62)<=j/\j<2^62/\R (LH 0 j.toNat) H1
def Ja {a:Expr} {ta:TA} {p pos:Pos} (hg:Gl X "range") (hm:X.mg "range" = none) (ha:PA X [a] ta) (hs:starEach [a] X.env=[(false,eval a X.env)]):PI X tg (.Call (.Name "range" p) [a] [] pos) (F6 ta):=by
 intro pins s σ H R I h
 refine Call_ (kS I hg hm boot_range (PyProof.Rows.callWith_type1 (bY (ha pos pins s σ H _ I h) λ us s1 hq0=>?_) hs rfl))
 obtain ⟨vs,H1,I1,r1,q1⟩:=hq0
 obtain ⟨j,e,q1,q2,q⟩:=q1
 subst e
 cases r1 with
 | cons r rr=>
  cases rr
  obtain ⟨t,rfl⟩:=r
  exact call_range_1 (Az I1 (by omega) (by omega) q1 q2 (by simpa using q))
noncomputable def C5 (wi:TI) (g:TG) (tb:TS):TS:=λ D σ H=>wi σ H λ J H1=>∃ W:Nat->Nat->St->Hp->Prop,(∃ m,W 0 m σ H1)/\∀ i m σ H,W i m σ H->
 (J.stop i H/\D.nx σ H)∨(J.go i H/\∃ N:St->Hp->Prop,(∀ σ' H',N σ' H'->∃ m',m'<m/\W (i+1) m' σ' H')/\∀ x H',J.yld i H x H'->g x σ H' λ σ2 H2=>tb { D with nx:=N,ct:=N,bk:=D.nx } σ2 H2)
noncomputable def kR (fp:Ξ) (h:Heap):List (Addr×Obj):=fp.filterMap λ b=>(h.get? b).map λ o=>(b,o)
def ib {fp:Ξ} {h:Heap} {b:Addr} {o:Obj} (hb:b∈fp) (e:h.get? b=some o):(b,o)∈kR fp h:=mem_filterMap.mpr ⟨b,hb,by rw [e];rfl⟩
def yA {fp:Ξ} {h:Heap} {p:Addr×Obj} (hp:p∈kR fp h):p.1∈fp/\h.get? p.1=some p.2:=by
 obtain ⟨b,hb,e⟩:=mem_filterMap.mp hp
 cases q:h.get? b with
 | none=>rw [q] at e;cases e
 | some o=>
  rw [q] at e
  have e':(b,o)=p:=Option.some.inj e
  subst e'
  exact ⟨hb,q⟩
def aL.pinned {pins:Δ} {σ:St} {H:Hp} {s:Shared} {fp:Ξ} (I:aL X pins σ H s) (hf:∀ b∈fp,jv X pins H b) (ho:∀ b∈fp,∃ o,s.heap.get? b=some o/\∀ v,o.data≠.cell v):aL X (pins++kR fp s.heap) σ H s:=
 I.pins_of λ p hp=>(mem_append.mp hp).elim (λ z=>I.pin p (mem_append_right _ z)) λ z=>by
  obtain ⟨hb,e⟩:=yA z
  obtain ⟨f0,f1,f2,_⟩:=hf p.1 hb
  obtain ⟨o,e',d⟩:=ho p.1 hb
  rw [e] at e';cases e'
  exact ⟨e,f0,f1,f2,d⟩
def aL.unpinned {pins pl:Δ} {σ:St} {H:Hp} {s:Shared} (I:aL X (pins++pl) σ H s):aL X pins σ H s:=I.pins_of λ p hp=>I.pin p (mem_append_right _ (List.mem_append_left _ hp))
def MI {iter:Expr} {body:List Stmt} {wi:TI} {g:TG} {tb:TS} {pos:Pos} (hp:PassesOwn (model X.prog X.w) X.A X.env X.xe) (hc:X.calm=true) (hi:PI X tg iter wi) (hg:PG X tg g) (hb:uc X body tb)
 (hs:∀ x,foldedSetIterable iter X.env x=pure x):PS X (.For tg iter body [] pos) (C5 wi g tb):=by
 intro pins s σ H D I h
 refine wpAny_For (bY (hi pins s σ H _ I h) λ v s1 h1=>bY h1 λ itv s2 h2=>?_) hs
 obtain ⟨it,fp,tn,J,H2,e,I2,T,st2,f2,W,⟨m0,w0⟩,turn⟩:=h2
 subst e
 have stat:∀ {H':Hp},(∀ b∈fp,H' b=none)->∀ b∈fp,jv X pins H' b:=λ hn b hb=>⟨hn b hb,(f2 b hb).2⟩
 refine codeAny_forLoop_any (λ n s'=>∃ i σ' H',aL X pins σ' H' s'/\tn i s'.heap/\(∀ b∈fp,H' b=none)/\W i n σ' H') ?_ m0 ⟨0,σ,H2,I2,st2,λ b hb=>(f2 b hb).1,w0⟩
 rintro n s3 ⟨i,σ3,H3,I3,st3,fr3,w3⟩
 rcases turn i n σ3 H3 w3 with ⟨stop,qn⟩ | ⟨go,N,hN,step⟩
 . refine wpAny_passesOwn hp (bY (T.done X rfl rfl rfl hc i pins s3 σ3 H3 X.xe I3 (stat fr3) st3 stop) λ r s4 ⟨hr,I4⟩=>?_)
   subst hr
   exact wpAny_execs_nil ⟨σ3,H3,I4,qn⟩
 . refine wpAny_passesOwn hp (bY (T.item X rfl rfl rfl hc i pins s3 σ3 H3 X.xe I3 (stat fr3) st3 go) λ r s4 ⟨u,hr,h4⟩=>?_)
   subst hr
   refine wpAny_passesOwn hp (bY h4 λ _ s5 hq0=>?_)
   obtain ⟨x,H5,I5,r5,y5,st5,fr5⟩:=hq0
   have I5':=I5.pinned (stat fr5) (T.obj _ _ st5)
   refine wpAny_passesOwn hp (bY (hg _ s5 σ3 H5 x u _ I5' r5 (step x H5 y5)) λ _ s6 hq0=>?_)
   obtain ⟨σ6,H6,I6,q6⟩:=hq0
   refine wpAny_passesOwn hp (bY (hb _ s6 σ6 H6 _ I6 q6) λ f s7 q7=>?_)
   have again:∀ {σ7:St} {H7:Hp},aL X (pins++kR fp s5.heap) σ7 H7 s7->N σ7 H7->∃ m,m<n/\∃ i σ' H',aL X pins σ' H' s7/\tn i s7.heap/\(∀ b∈fp,H' b=none)/\W i m σ' H':=λ {σ7 H7} I7 n7=>by
    obtain ⟨m',hm,w7⟩:=hN σ7 H7 n7
    refine ⟨m',hm,i+1,σ7,H7,I7.unpinned,T.keep _ _ _ st5 λ b hb o e=>(I7.pin (b,o) (mem_append_right _ (mem_append_right _ (ib hb e)))).1,λ b hb=>?_,w7⟩
    obtain ⟨o,e,d⟩:=T.obj _ _ st5 b hb
    exact (I7.pin (b,o) (mem_append_right _ (mem_append_right _ (ib hb e)))).2.1
   cases f with
   | next=>obtain ⟨σ7,H7,I7,n7⟩:=q7;exact again I7 n7
   | cont=>obtain ⟨σ7,H7,I7,n7⟩:=q7;exact again I7 n7
   | brk=>obtain ⟨σ7,H7,I7,q7⟩:=q7;exact ⟨σ7,H7,I7.unpinned,q7⟩
   | ret v=>obtain ⟨x7,σ7,H7,I7,r7,q7⟩:=q7;exact ⟨x7,σ7,H7,I7.unpinned,r7,q7⟩
end
noncomputable abbrev R2:=V->V->Hp->VK->Prop
noncomputable def fP (X:Cx) (f:Value->Value->Sem Value) (r:R2):Prop:=
 ∀ (pins:Δ) (s:Shared) (σ:St) (H:Hp) (x y:V) (v u:Value) (Q:VK),aL X pins σ H s->bc x v->bc y u->r x y H Q->
  wpAny (model X.prog X.w) X.A (f v u) (EP X pins σ Q) X.xe s
noncomputable def LB (X:Cx) (f:Value->Sem Value) (r:V->Hp->VK->Prop):Prop:=
 ∀ (pins:Δ) (s:Shared) (σ:St) (H:Hp) (x:V) (v:Value) (Q:VK),aL X pins σ H s->bc x v->r x H Q->
  wpAny (model X.prog X.w) X.A (f v) (EP X pins σ Q) X.xe s
noncomputable def dI (X:Cx) (f:Value) (r:List V->Hp->VK->Prop):Prop:=
 ∀ (pins:Δ) (s:Shared) (σ:St) (H:Hp) (xs:List V) (us:Φ) (Q:VK),aL X pins σ H s->bb xs us->r xs H Q->
  wpAny (model X.prog X.w) X.A (call f us) (EP X pins σ Q) X.xe s
noncomputable def M8 (X:Cx) (r:V->Hp->(Bool->Hp->Prop)->Prop):Prop:=
 ∀ (pins:Δ) (s:Shared) (σ:St) (H:Hp) (x:V) (v:Value) (Q:Bool->Hp->Prop),aL X pins σ H s->bc x v->r x H Q->
  wpAny (model X.prog X.w) X.A (truthy v) (TP X pins σ Q) X.xe s
noncomputable def tT (r:R2) (ta tb:TE):TE:=λ σ H Q=>ta σ H λ x H1=>tb σ H1 λ y H2=>r x y H2 Q
noncomputable def Ot (r:V->Hp->VK->Prop) (ta:TE):TE:=λ σ H Q=>ta σ H λ x H1=>r x H1 Q
noncomputable def rI (C:Int->Int->Prop) (g:Int->Int->V):R2:=λ x y H Q=>∃ i j,x=.int i/\y=.int j/\C i j/\Q (g i j) H
noncomputable def yI (g:Int->Int->V):R2:=λ x y H Q=>∃ i j,x=.int i/\y=.int j/\Q (g i j) H
noncomputable def rU (g:Int->V):V->Hp->VK->Prop:=λ x H Q=>∃ i,x=.int i/\Q (g i) H
section
variable {X:Cx} {a b c:Expr} {ta tb tc:TE} {pos:Pos}
def Iy (ha:PE X a ta) (hb:PE X b tb) {pins:Δ} {s:Shared} {σ:St} {H:Hp} {R:V->V->Hp->Prop} (I:aL X pins σ H s)
 (h:ta σ H λ x H1=>tb σ H1 λ y H2=>R x y H2) {Q:Γ} {f:Value->Value->Sem Value}
 (hf:∀ v u s2 x y H2,aL X pins σ H2 s2->bc x v->bc y u->R x y H2->wpAny (model X.prog X.w) X.A (f v u) Q X.xe s2):
 wpAny (model X.prog X.w) X.A (eval a X.env) (λ v s₁=>wpAny (model X.prog X.w) X.A (eval b X.env) (λ u s₂=>wpAny (model X.prog X.w) X.A (f v u) Q X.xe s₂) X.xe s₁) X.xe s:=by
 refine bY (ha pins s σ H _ I h) λ v s1 hq0=>?_
 obtain ⟨x,H1,I1,r1,q1⟩:=hq0
 refine bY (hb pins s1 σ H1 _ I1 q1) λ u s2 hq0=>?_
 obtain ⟨y,H2,I2,r2,q2⟩:=hq0
 exact hf v u s2 x y H2 I2 r1 r2 q2
def Oy {op:Operator} {r:R2} (ho:fP X (binaryOp op) r) (ha:PE X a ta) (hb:PE X b tb):PE X (.BinOp a op b pos) (tT r ta tb):=by
 intro pins s σ H Q I h
 exact wpAny_BinOp (Iy ha hb I h λ v u s2 x y H2 I2 rx ry q=>ho pins s2 σ H2 x y v u Q I2 rx ry q)
def NX {op:UnaryOp} {r:V->Hp->VK->Prop} (ho:LB X (unaryOp op) r) (ha:PE X a ta):PE X (.UnaryOp op a pos) (Ot r ta):=by
 intro pins s σ H Q I h
 exact UnaryOp_ (bY (ha pins s σ H _ I h) λ v s1 hy0=>by obtain ⟨x,H1,I1,r1,q1⟩:=hy0;exact ho pins s1 σ H1 x v Q I1 r1 q1)
def Lu {f:Value->Value->Sem Value} {C:Int->Int->Prop} {g:Int->Int->Int}
 (rule:∀ (i j:Int) (t u:Tok) (s:Shared) (Q:Γ) (E:Γ),C i j->Q (.int (g i j) s.toks) { s with toks:=s.toks+1 }->wpAny (model X.prog X.w) X.A (f (.int i t) (.int j u)) Q E s):
 fP X f (rI C λ i j=>.int (g i j)):=by
 intro pins s σ H x y v u Q I rx ry h
 obtain ⟨i,j,rfl,rfl,hc,q⟩:=h
 obtain ⟨t,rfl⟩:=rx
 obtain ⟨t',rfl⟩:=ry
 exact rule i j t t' s _ _ hc ⟨.int (g i j),H,I.tok _,⟨_,rfl⟩,q⟩
def Lv {f:Value->Value->Sem Value} {g:Int->Int->Int}
 (rule:∀ (i j:Int) (t u:Tok) (s:Shared) (Q:Γ) (E:Γ),Q (.int (g i j) s.toks) { s with toks:=s.toks+1 }->wpAny (model X.prog X.w) X.A (f (.int i t) (.int j u)) Q E s):
 fP X f (yI λ i j=>.int (g i j)):=by
 intro pins s σ H x y v u Q I rx ry h
 obtain ⟨i,j,rfl,rfl,q⟩:=h
 obtain ⟨t,rfl⟩:=rx
 obtain ⟨t',rfl⟩:=ry
 exact rule i j t t' s _ _ ⟨.int (g i j),H,I.tok _,⟨_,rfl⟩,q⟩
def KQ {f:Value->Value->Sem Value} {g:Int->Int->Bool}
 (rule:∀ (i j:Int) (t u:Tok) (s:Shared) (Q:Γ) (E:Γ),Q (.bool (g i j)) s->wpAny (model X.prog X.w) X.A (f (.int i t) (.int j u)) Q E s):
 fP X f (yI λ i j=>.bl (g i j)):=by
 intro pins s σ H x y v u Q I rx ry h
 obtain ⟨i,j,rfl,rfl,q⟩:=h
 obtain ⟨t,rfl⟩:=rx
 obtain ⟨t',rfl⟩:=ry
 exact rule i j t t' s _ _ ⟨.bl (g i j),H,I,rfl,q⟩
noncomputable def JG (i j:Int):Prop:=0<=j/\j<=1000000/\i.natAbs<2^64
noncomputable def Eo (i j:Int):Prop:=(-(2^64)<i/\i<2^64)∨(-(2^64)<j/\j<2^64)
def Eo.ok {i j:Int} (h:Eo i j):IntMulOk i j:=by
 rcases h with ⟨h1,h2⟩ | ⟨h1,h2⟩
 . exact .of_left (intBits_le_64 h1 h2)
 . exact .of_right (intBits_le_64 h1 h2)
def FO:fP X (binaryOp .Add) (yI λ i j=>.int (i+j)):=Lv λ _ _ _ _ _ _ _ q=>add_int q
def Nk:fP X (binaryOp .Sub) (yI λ i j=>.int (i-j)):=Lv λ _ _ _ _ _ _ _ q=>sub_int q
def Gp:fP X (binaryOp .Mult) (rI Eo λ i j=>.int (i*j)):=Lu λ _ _ _ _ _ _ _ hc q=>mul_int q hc.ok
def Ed:fP X (binaryOp .Mod) (rI (λ _ j=>j≠0) λ i j=>.int (i.fmod j)):=Lu λ _ _ _ _ _ _ _ hc q=>mod_int' hc q
def Nc:fP X (binaryOp .Pow) (rI JG λ i j=>.int (i^j.toNat)):=Lu λ _ _ _ _ _ _ _ hc q=>pow_int_small hc.1 hc.2.1 hc.2.2 q
def OB {f:Value->Sem Value} {g:Int->Int}
 (rule:∀ (i:Int) (t:Tok) (s:Shared) (Q:Γ) (E:Γ),Q (.int (g i) s.toks) { s with toks:=s.toks+1 }->wpAny (model X.prog X.w) X.A (f (.int i t)) Q E s):
 LB X f (rU λ i=>.int (g i)):=by
 intro pins s σ H x v Q I rx h
 obtain ⟨i,rfl,q⟩:=h
 obtain ⟨t,rfl⟩:=rx
 exact rule i t s _ _ ⟨.int (g i),H,I.tok _,⟨_,rfl⟩,q⟩
def Nl:LB X (unaryOp .USub) (rU λ i=>.int (-i)):=OB λ _ _ _ _ _ q=>neg_int q
end
noncomputable def Hv:V->V->Bool
 | .non,.non=>true | .non,.int _=>true | .int _,.non=>true | .non,.bl _=>true | .bl _,.non=>true | .non,.str _=>true | .str _,.non=>true
 | .int _,.int _=>true | .bl _,.bl _=>true | .str _,.str _=>true | .byt _,.byt _=>true
 | .int _,.str _=>true | .str _,.int _=>true | .bl _,.str _=>true | .str _,.bl _=>true
 | _,_=>false
noncomputable def Oa:R2:=λ x y H Q=>Hv x y=true/\Q (.bl (decide (x=y))) H
noncomputable def Oo:R2:=λ x y H Q=>Hv x y=true/\Q (.bl (!decide (x=y))) H
def wo {i j:Int}:decide (V.int i=V.int j)=(i==j):=by
 rw [Bool.eq_iff_iff]
 simp
def Bo {i j:Bool}:decide (V.bl i=V.bl j)=(i==j):=by
 rw [Bool.eq_iff_iff]
 simp
def x9 {i j:Str}:decide (V.str i=V.str j)=(i==j):=by
 rw [Bool.eq_iff_iff]
 simp
def wP {i j:Array UInt8}:decide (V.byt i=V.byt j)=(i.toList==j.toList):=by
 rw [Bool.eq_iff_iff]
 cases i
 cases j
 simp
section
variable {X:Cx} {a b c:Expr} {ta tb tc:TE} {pos:Pos}
def bm {pins:Δ} {σ:St} {H:Hp} {s:Shared} {Q:VK} {k k':Bool} (I:aL X pins σ H s) (q:Q (.bl k) H) (e:k=k'):EP X pins σ Q (.bool k') s:=by
 subst e
 exact ⟨.bl k,H,I,rfl,q⟩
def K9:fP X (compareOp .Eq) Oa:=by
 intro pins s σ H x y v u Q I rx ry h
 obtain ⟨hs,q⟩:=h
 cases x with
 | non=>
  cases rx
  cases y with
  | non=>cases ry;exact PySem.EqNone.eq_none_none (bm I q (by simp))
  | bl j=>cases ry;exact PySem.EqNone.eq_none_bool (bm I q (by simp))
  | int j=>obtain ⟨t',rfl⟩:=ry;exact PySem.EqNone.eq_none_int (bm I q (by simp))
  | str j=>obtain ⟨t',rfl⟩:=ry;exact PySem.EqNone.eq_none_str (bm I q (by simp))
  | _=>exact absurd (show false=true from hs) Bool.false_ne_true
 | bl i=>
  cases rx
  cases y with
  | non=>cases ry;exact PySem.EqNone.eq_bool_none (bm I q (by simp))
  | bl j=>cases ry;exact eq_bool (bm I q Bo)
  | str j=>obtain ⟨t',rfl⟩:=ry;exact PySem.EqMixed.eq_bool_str (bm I q (by simp))
  | _=>exact absurd (show false=true from hs) Bool.false_ne_true
 | int i=>
  obtain ⟨t,rfl⟩:=rx
  cases y with
  | non=>cases ry;exact PySem.EqNone.eq_int_none (bm I q (by simp))
  | int j=>obtain ⟨t',rfl⟩:=ry;exact eq_int (bm I q wo)
  | str j=>obtain ⟨t',rfl⟩:=ry;exact PySem.EqMixed.eq_int_str (bm I q (by simp))
  | _=>exact absurd (show false=true from hs) Bool.false_ne_true
 | str i=>
  obtain ⟨t,rfl⟩:=rx
  cases y with
  | non=>cases ry;exact PySem.EqNone.eq_str_none (bm I q (by simp))
  | bl j=>cases ry;exact PySem.EqMixed.eq_str_bool (bm I q (by simp))
  | int j=>obtain ⟨t',rfl⟩:=ry;exact PySem.EqMixed.eq_str_int (bm I q (by simp))
  | str j=>obtain ⟨t',rfl⟩:=ry;exact eq_str (bm I q x9)
  | _=>exact absurd (show false=true from hs) Bool.false_ne_true
 | byt i=>
  obtain ⟨t,rfl⟩:=rx
  cases y with
  | byt j=>obtain ⟨t',rfl⟩:=ry;exact PySem.W.eq_bytes (bm I q wP)
  | _=>exact absurd (show false=true from hs) Bool.false_ne_true
 | _=>cases y <;> exact absurd (show false=true from hs) Bool.false_ne_true
def Kc:fP X (compareOp .NotEq) Oo:=by
 intro pins s σ H x y v u Q I rx ry h
 obtain ⟨hs,q⟩:=h
 cases x with
 | non=>
  cases rx
  cases y with
  | non=>cases ry;exact PySem.EqNone.ne_none_none (bm I q (by simp))
  | bl j=>cases ry;exact PySem.EqNone.ne_none_bool (bm I q (by simp))
  | int j=>obtain ⟨t',rfl⟩:=ry;exact PySem.EqNone.ne_none_int (bm I q (by simp))
  | str j=>obtain ⟨t',rfl⟩:=ry;exact PySem.EqNone.ne_none_str (bm I q (by simp))
  | _=>exact absurd (show false=true from hs) Bool.false_ne_true
 | bl i=>
  cases rx
  cases y with
  | non=>cases ry;exact PySem.EqNone.ne_bool_none (bm I q (by simp))
  | bl j=>cases ry;exact ne_bool (bm I q (congrArg not Bo))
  | str j=>obtain ⟨t',rfl⟩:=ry;exact PySem.EqMixed.ne_bool_str (bm I q (by simp))
  | _=>exact absurd (show false=true from hs) Bool.false_ne_true
 | int i=>
  obtain ⟨t,rfl⟩:=rx
  cases y with
  | non=>cases ry;exact PySem.EqNone.ne_int_none (bm I q (by simp))
  | int j=>obtain ⟨t',rfl⟩:=ry;exact ne_int (bm I q (congrArg not wo))
  | str j=>obtain ⟨t',rfl⟩:=ry;exact PySem.EqMixed.ne_int_str (bm I q (by simp))
  | _=>exact absurd (show false=true from hs) Bool.false_ne_true
 | str i=>
  obtain ⟨t,rfl⟩:=rx
  cases y with
  | non=>cases ry;exact PySem.EqNone.ne_str_none (bm I q (by simp))
  | bl j=>cases ry;exact PySem.EqMixed.ne_str_bool (bm I q (by simp))
  | int j=>obtain ⟨t',rfl⟩:=ry;exact PySem.EqMixed.ne_str_int (bm I q (by simp))
  | str j=>obtain ⟨t',rfl⟩:=ry;exact ne_str (bm I q (congrArg not x9))
  | _=>exact absurd (show false=true from hs) Bool.false_ne_true
 | byt i=>
  obtain ⟨t,rfl⟩:=rx
  cases y with
  | byt j=>obtain ⟨t',rfl⟩:=ry;exact PySem.W.ne_bytes (bm I q (congrArg not wP))
  | _=>exact absurd (show false=true from hs) Bool.false_ne_true
 | _=>cases y <;> exact absurd (show false=true from hs) Bool.false_ne_true
def NK:fP X (compareOp .Lt) (yI λ i j=>.bl (decide (i<j))):=KQ λ _ _ _ _ _ _ _ q=>lt_int q
def NR:fP X (compareOp .GtE) (yI λ i j=>.bl (decide (j<=i))):=KQ λ _ _ _ _ _ _ _ q=>ge_int q
def ME:fP X (compareOp .Is) (λ x y H Q=>y=.non/\Q (.bl (decide (x=.non))) H):=by
 intro pins s σ H x y v u Q I rx ry h
 obtain ⟨rfl,q⟩:=h
 cases ry
 refine is_none_gen (bm I q ?_)
 cases x <;> first
  | (cases rx;rfl)
  | (obtain ⟨t,rfl⟩:=rx;rfl)
def Mq:fP X (compareOp .IsNot) (λ x y H Q=>y=.non/\Q (.bl (!decide (x=.non))) H):=by
 intro pins s σ H x y v u Q I rx ry h
 obtain ⟨rfl,q⟩:=h
 cases ry
 refine isnot_none_gen (bm I q ?_)
 cases x <;> first
  | (cases rx;rfl)
  | (obtain ⟨t,rfl⟩:=rx;rfl)
def fP.or {f:Value->Value->Sem Value} {r r':R2} (h:fP X f r) (h':fP X f r'):fP X f (λ x y H Q=>r x y H Q∨r' x y H Q):=by
 intro pins s σ H x y v u Q I rx ry q
 rcases q with q | q
 . exact h pins s σ H x y v u Q I rx ry q
 . exact h' pins s σ H x y v u Q I rx ry q
def LA {op:CmpOp} {r:R2} (ho:fP X (compareOp op) r) (ha:PE X a ta) (hb:PE X b tb) (hm:behindInMarks op b=false):PE X (.Compare a [op] [b] pos) (tT r ta tb):=by
 intro pins s σ H Q I h
 exact wpAny_Compare1 (Iy ha hb I h λ v u s2 x y H2 I2 rx ry q=>ho pins s2 σ H2 x y v u Q I2 rx ry q) hm
noncomputable def xy (t:TE):TT:=λ σ H Q=>t σ H λ x H'=>∃ k,x=.bl k/\Q k H'
def LZ {op:CmpOp} {r:R2} (ho:fP X (compareOp op) r) (ha:PE X a ta) (hb:PE X b tb) (hm:behindInMarks op b=false):PT X (.Compare a [op] [b] pos) (xy (tT r ta tb)):=by
 intro pins s σ H Q I h
 refine wpAny_isTrue_Compare1 (bY (ha pins s σ H _ I h) λ v s1 hy0=>?_) hm
 obtain ⟨x,H1,I1,r1,q1⟩:=hy0
 refine bY (hb pins s1 σ H1 _ I1 q1) λ u s2 hy0=>?_
 obtain ⟨y,H2,I2,r2,q2⟩:=hy0
 refine
  bY (ho pins s2 σ H2 x y v u _ I2 r1 r2 q2) λ c s3 ⟨z,H3,I3,r3,k,e,q3⟩=>?_
 subst e
 cases r3
 exact wpAny_truthy_bool ⟨H3,I3,q3⟩
noncomputable def BE (K:Frag) (x:V) (H:Hp) (k:Bool):Prop:=
 match x with
 | .non=>k=false
 | .bl b=>k=b
 | .int i=>k=(i != 0)
 | .str y=>y.length<=sizeLine/\k=((y.length:Int) != 0)
 | .byt y=>y.size<=sizeLine/\k=((y.size:Int) != 0)
 | .ref p=>(∃ xs,cD K H p xs/\k = !xs.isEmpty)∨(∃ xs,eK K H p xs/\k = !xs.isEmpty)∨∃ kvs,H p=some (.dK kvs)/\k = !kvs.isEmpty
 | _=>False
def uT {κ:Type} {kvs:List (κ×V)} {vs:List (κ×Value)} (r:KV kvs vs):(!vs.isEmpty) = !kvs.isEmpty:=by
 cases r <;> rfl
def oy {xs:List V} {its:Φ} (r:bb xs its):(!its.toArray.isEmpty) = !xs.isEmpty:=by
 cases r <;> simp
def j1:(sizeLine:Nat)<2^63:=by rw [sizeLine_eq];decide
def zy:M8 X (λ x H Q=>∃ k,BE X.K x H k/\Q k H):=by
 intro pins s σ H x v Q I rx h
 obtain ⟨k,e,q⟩:=h
 have hl:=j1
 have hs:sizeLine=16777216:=sizeLine_eq
 cases x with
 | non=>
  cases rx
  have e':k=false:=e
  subst e'
  exact truthy_none ⟨H,I,q⟩
 | bl b=>
  cases rx
  have e':k=b:=e
  subst e'
  exact wpAny_truthy_bool ⟨H,I,q⟩
 | int i=>
  obtain ⟨t,rfl⟩:=rx
  have e':k=(i != 0):=e
  subst e'
  exact PySem.P.truthy_int ⟨H,I,q⟩
 | str y=>
  obtain ⟨t,rfl⟩:=rx
  obtain ⟨hy,e'⟩:y.length<=sizeLine/\k=((y.length:Int) != 0):=e
  subst e'
  exact PySem.P.truthy_str (by omega) ⟨H,I.tok _,q⟩
 | byt y=>
  obtain ⟨t,rfl⟩:=rx
  obtain ⟨hy,e'⟩:y.size<=sizeLine/\k=((y.size:Int) != 0):=e
  subst e'
  exact PySem.W.truthy_bytes (by omega) ⟨H,I.tok _,q⟩
 | ref p=>
  cases rx
  have e':(∃ xs,cD X.K H p xs/\k = !xs.isEmpty)∨(∃ xs,eK X.K H p xs/\k = !xs.isEmpty)∨∃ kvs,H p=some (.dK kvs)/\k = !kvs.isEmpty:=e
  rcases e' with ⟨xs,hx,e'⟩ | ⟨xs,hx,e'⟩ | ⟨kvs,hx,e'⟩
  . subst e'
    obtain ⟨its,r,pl,hz⟩:=I.list hx
    have hlen:=r.length
    exact wpAny_truthy_list pl.isList (by simp only [size_toArray];omega) ⟨H,I.tok _,by rw [oy r];exact q⟩
  . subst e'
    obtain ⟨its,r,pl,hz⟩:=I.tuple hx
    have hlen:=r.length
    exact truthy_tuple pl (by simp only [size_toArray];omega) ⟨H,I.tok _,by rw [oy r];exact q⟩
  . subst e'
    obtain ⟨hz,hS,vs,r,m⟩:kvs.length<=sizeLine/\(p==sysModules)=false/\∃ vs,KV kvs vs/\s.heap.DictOf (bq X.prog X.w) p vs:=I.hok p _ hx
    have hlen:kvs.length=vs.length:=Paired.length r
    exact wpAny_truthy_dict hS m (by omega) ⟨H,I.tok _,by rw [uT r];exact q⟩
 | _=>exact (show False from e).elim
def AR (ha:PE X a ta) (he:∀ whole,isTrue a X.env whole=(do let v <-whole;standAt a.pos;holding [v] (truthy v))):
 PT X a (λ σ H Q=>ta σ H λ x H'=>∃ k,BE X.K x H' k/\Q k H'):=by
 intro pins s σ H Q I h
 exact isTrue_plain (bY (ha pins s σ H _ I h) λ v s1 hy0=>by obtain ⟨x,H1,I1,r1,q1⟩:=hy0;exact zy pins s1 σ H1 x v Q I1 r1 q1) (he _)
def vi:fP X (binaryOp .Add) (λ x y H Q=>∃ i j,x=.str i/\y=.str j/\i.length+j.length<=sizeLine/\Q (.str (i++j)) H):=by
 intro pins s σ H x y v u Q I rx ry h
 obtain ⟨i,j,rfl,rfl,hz,q⟩:=h
 obtain ⟨t,rfl⟩:=rx
 obtain ⟨t',rfl⟩:=ry
 exact add_str (λ t' tk=>⟨.str (i++j),H,I.tok _,⟨_,rfl⟩,q⟩) hz
def pD {x:V} {us:Φ} (r:bb [x] us):∃ u,us=[u]/\bc x u:=by
 cases r with
 | cons r1 r2=>cases r2;exact ⟨_,rfl,r1⟩
end
structure uM (h:Heap) (x dx C:Addr) (mA:Θ):Prop where
 obj:h.get? x=some (PySem.W.instObj C dx)
 ns:h.Ns1 dx mA
 ne:dx≠x
def yw {h:Heap} {dx:Addr} {mA:Θ} (n:h.Ns1 dx mA):∃ od,h.get? dx=some od/\∀ name,PySem.W.lookIn name od=some (mA name):=by
 obtain ⟨o,es,ep,ho,hd,hk,_,hm⟩:=n
 refine ⟨o,ho,λ name=>?_⟩
 have e:=hm name
 unfold nsFind findBy at e
 rw [<-Array.find?_toList] at e
 unfold PySem.W.lookIn
 rw [hd]
 dsimp only
 split
 . rename_i y q
   rw [q] at e
   exact congrArg some e
 . rename_i q
   rw [q] at e
   have a:es.toList.any (·.refKey)=false:=by
    rw [List.any_eq_false]
    intro y hy
    obtain ⟨z,t,hkey⟩:=hk y (mem_toList_iff.mp hy)
    simp [DictEntry.refKey,hkey]
   have a':¬ es.toList.any (·.refKey)=true:=by rw [a];exact Bool.false_ne_true
   rw [if_neg a']
   exact congrArg some e
def uM.look {h:Heap} {x dx C:Addr} {mA:Θ} (I:uM h x dx C mA):∃ od,PySem.W.InstAt h x (PySem.W.instObj C dx) C (some od)/\∀ name,PySem.W.lookIn name od=some (mA name):=
 let ⟨od,ho,hl⟩:=yw I.ns
 ⟨od,⟨I.obj,rfl,rfl,ho⟩,hl⟩
section
variable {prog:Program} {w:World} {A:Around} {E:Γ} {s:Shared} {K:Frag} {x dx C f:Addr} {mA:Θ} {name:Str} {v:Value}
def Cg {expr:Bool} {Q:Γ} (X:K.In s.heap) (I:uM s.heap x dx C mA) (hg:PySem.W.plainGet K C name=true) (hh:PySem.W.hasDictIn K C=true)
 (ha:PySem.W.findIn K (.ref C) name=some none) (hv:mA name=some v) (hv':PySem.W.handedIn v=true) (h:Q v { s with toks:=s.toks+1 }):
 wpAny (model prog w) A (getAttr (.ref x) name expr) Q E s:=by
 obtain ⟨od,J,hl⟩:=I.look
 exact PySem.W.get_value X J (PySem.W.plainGet_of hg).1 (PySem.W.findObj_own hh ha rfl (by rw [hl,hv])) hv' h
def zo {pl:Sem Bool} {Q:Value×List Value->Shared->Prop} (X:K.In s.heap) (I:uM s.heap x dx C mA) (hg:PySem.W.plainGet K C name=true)
 (hf:PySem.W.findIn K (.ref C) name=some (some (.ref f))) (ht:PySem.W.isFn K (.ref f)=true) (hv:mA name=none) (h:Q (.ref f,[.ref x]) s):
 wpAny (model prog w) A (getMethod (.ref x) name pl) Q E s:=by
 obtain ⟨od,J,hl⟩:=I.look
 exact PySem.W.method_fn X J (PySem.W.plainGet_of hg).1 (PySem.W.plainGet_of hg).2 hf (beq_iff_eq.mp ht) (by show (PySem.W.lookIn name od).map (·.isSome)=some false;rw [hl,hv];rfl) h
def CK {ns:Ω} {Q:Unit->Shared->Prop} (X:K.In s.heap) (I:uM s.heap x dx C mA)
 (hs:PySem.W.findIn K (.ref C) "__setattr__" = some (some (.builtin "object.__setattr__"))) (hp:PySem.W.plainOver K C=true) (ht:PySem.W.takerIn K C name=some none) (hh:PySem.W.hasDictIn K C=true)
 (hw:PySem.Within mA ns) (hsz:ns.length<=sizeLine)
 (h:∀ h',uM h' x dx C (λ y=>if y=name then some v else mA y)->Heap.SameBut dx s.heap h'->Q () { s with heap:=h',toks:=s.toks+2 }):
 wpAny (model prog w) A (setAttr (.ref x) name v) Q E s:=by
 obtain ⟨od,J,hl⟩:=I.look
 refine PySem.W.set_plain X J hs (PySem.W.osa_open (s:={ s with toks:=s.toks+1 }) (r:=none) X J hp ht λ b=>?_)
 obtain ⟨cd,hc,hd'⟩:=PySem.W.any_some hh
 have hx:s.heap.get? x=some ⟨.ref C,some dx,.plain,#[]⟩:=I.obj
 refine wpAny_bind (wpAny_pure (wpAny_bind (wpAny_bind (wpAny_loadPart hx (wpAny_bind (PySem.W.Looks.here (s:={ s with toks:=s.toks+1 }) (PySem.W.looks_clsIn X hc) ?_))))))
 rw [hd']
 refine wpAny_pure (a:=some dx) (wpAny_bind (wpAny_pure (wpAny_bind ?_)))
 refine wpAny_nsSet1 (s:={ s with toks:=s.toks+1 }) I.ns λ h' hn2 hs2=>?_
 obtain ⟨oD,esD,epD,hoD,hdD,hcD⟩:=hn2.count (PySem.Within.cons name v hw)
 refine wpAny_bind (wpAny_lookBehind hoD (by rw [hdD];exact pastItsLine_dict (le_trans hcD (by rw [length_cons];omega))) ?_)
 exact wpAny_pure (h _ ⟨(hs2.2 _ (Ne.symm I.ne)).trans I.obj,hn2,I.ne⟩ hs2)
def Bl {R:Result->Shared->Prop} {vs:Φ} {kw:List (Str×Value)} (X:K.In s.heap) (hm:PySem.W.makesIn K C=true)
 (hi:PySem.W.findIn K (.ref C) "__init__" = some (some (.ref f))) (hf:PySem.W.typeIn K (.ref f)=some (.type "function"))
 (h:codeAny (model prog w) (A.under (.builtin "type.__call__" ⟨.ref C::vs,kw⟩)) (.call (.ref f) ⟨.ref (s.heap.objs.size+1)::vs,kw⟩) (PySem.W.InitBack (s.heap.objs.size+1) R)
  { s with heap:=(s.heap.push PySem.W.emptyDict).push (PySem.W.instObj C s.heap.objs.size) }):
 codeAny (model prog w) A (.call (.ref C) ⟨vs,kw⟩) R s:=by
 obtain ⟨hh,g,d,t,os⟩:=s
 exact PySem.W.make_core (PySem.W.makes_of X hm) (PySem.W.looks_findIn X hi) (λ self=>PySem.W.bind_fn X self hf) (.inl rfl) h
end
noncomputable def putF (f:Str) (v:V):List (Str×V)->List (Str×V)
 | []=>[(f,v)]
 | (g,x)::r=>if g=f then (g,v)::r else (g,x)::putF f v r
def lJ (f g:Str) (v:V):∀ fs:List (Str×V),(putF f v fs).lookup g=if g=f then some v else fs.lookup g
 | []=>by
  show List.lookup g [(f,v)]=_
  by_cases h:g=f
  . have hb:(g==f)=true:=beq_iff_eq.mpr h
    simp only [List.lookup,hb,if_pos h]
  . have hb:(g==f)=false:=beq_eq_false_iff_ne.mpr h
    simp only [List.lookup,hb,if_neg h]
 | (k,x)::r=>by
  have ih:=lJ f g v r
  rw [show putF f v ((k,x)::r)=(if k=f then (k,v)::r else (k,x)::putF f v r) from rfl]
  by_cases hk:k=f
  . rw [if_pos hk]
    by_cases h:g=k
    . have hb:(g==k)=true:=beq_iff_eq.mpr h
      simp only [List.lookup,hb,if_pos (h.trans hk)]
    . have hb:(g==k)=false:=beq_eq_false_iff_ne.mpr h
      simp only [List.lookup,hb,if_neg (λ e:g=f=>h (e.trans hk.symm))]
  . rw [if_neg hk]
    by_cases h:g=k
    . have hb:(g==k)=true:=beq_iff_eq.mpr h
      simp only [List.lookup,hb,if_neg (λ e:g=f=>hk (h.symm.trans e))]
    . have hb:(g==k)=false:=beq_eq_false_iff_ne.mpr h
      simp only [List.lookup,hb]
      exact ih
def kP (f:Str) (v:V):∀ fs:List (Str×V),f∈(putF f v fs).map (·.1)/\∀ g,g∈fs.map (·.1)->g∈(putF f v fs).map (·.1)
 | []=>⟨by simp [putF],λ g h=>by simp at h⟩
 | (k,x)::r=>by
  obtain ⟨i1,i2⟩:=kP f v r
  rw [show putF f v ((k,x)::r)=(if k=f then (k,v)::r else (k,x)::putF f v r) from rfl]
  by_cases hk:k=f
  . rw [if_pos hk]
    subst hk
    exact ⟨by simp,λ g h=>by simpa using h⟩
  . rw [if_neg hk]
    refine ⟨?_,λ g h=>?_⟩
    . rw [map_cons]
      exact mem_cons_of_mem _ i1
    . rw [map_cons] at h ⊢
      rcases mem_cons.mp h with e | e
      . exact mem_cons.mpr (.inl e)
      . exact mem_cons_of_mem _ (i2 g e)
def lU (f:Str) (v:V):∀ fs:List (Str×V),(putF f v fs).length<=fs.length+1
 | []=>by simp [putF]
 | (k,x)::r=>by
  have ih:=lU f v r
  rw [show putF f v ((k,x)::r)=(if k=f then (k,v)::r else (k,x)::putF f v r) from rfl]
  by_cases hk:k=f
  . rw [if_pos hk,length_cons,length_cons];omega
  . rw [if_neg hk,length_cons,length_cons];omega
def hZ.some_of {v:V} {o:Option Value} (r:hZ (some v) o):∃ u,o=some u/\bc v u:=by
 cases o with
 | none=>exact (show False from r).elim
 | some u=>exact ⟨u,rfl,r⟩
def hZ.none_of {o:Option Value} (r:hZ none o):o=none:=by
 cases o with
 | none=>rfl
 | some u=>exact (show False from r).elim
def yi {v:V} {u:Value} (r:bc v u):PySem.W.handedIn u=true:=by
 cases v with
 | non=>cases (show u=Value.none from r);rfl
 | bl b=>cases (show u=Value.bool b from r);rfl
 | int i=>obtain ⟨t,e⟩:=(show ∃ t,u=Value.int i t from r);cases e;rfl
 | str x=>obtain ⟨t,e⟩:=(show ∃ t,u=Value.str x t from r);cases e;rfl
 | byt b=>obtain ⟨t,e⟩:=(show ∃ t,u=Value.bytes b t from r);cases e;rfl
 | flt b=>obtain ⟨t,e⟩:=(show ∃ t,u=Value.float b t from r);cases e;rfl
 | ref a=>cases (show u=Value.ref a from r);rfl
 | ty n=>cases (show u=Value.type n from r);rfl
section
variable {P:Program} {w:World} {H H':Hp} {h h':Heap} {a C dx:Addr} {fs fs':List (Str×V)}
def qG (hok:je P w H h) (e:H a=some (.ins C dx fs)):∃ mA,uM h a dx C mA/\(∀ f,hZ (fs.lookup f) (mA f))/\PySem.Within mA (fs.map (·.1))/\fs.length<=1000/\H dx=some (.own a):=by
 obtain ⟨d,z,ne,ob,mA,n,r,q⟩:=(show cH P w H h a (.ins C dx fs) from hok a _ e)
 exact ⟨mA,⟨ob,n,ne⟩,r,q,z,d⟩
end
structure rT (K:Frag) (C:Addr):Prop where
 pg:PySem.W.plainGet K C Str.empty=true
 hd:PySem.W.hasDictIn K C=true
 po:PySem.W.plainOver K C=true
 sa:PySem.W.findIn K (.ref C) "__setattr__" = some (some (.builtin "object.__setattr__"))
def rT.get {K:Frag} {C:Addr} (c:rT K C) (f:Str):PySem.W.plainGet K C f=true:=c.pg
noncomputable def dh (K:Frag) (C:Addr) (f:Str):Prop:=PySem.W.findIn K (.ref C) f=some none
def dh.taker {K:Frag} {C:Addr} {f:Str} (n:dh K C f):PySem.W.takerIn K C f=some none:=by
 unfold PySem.W.takerIn
 rw [show PySem.W.findIn K (.ref C) f=some none from n]
 rfl
structure Ai (K:Frag) (C:Addr) (m:Str) (f:Addr):Prop where
 at_:PySem.W.findIn K (.ref C) m=some (some (.ref f))
 fn:PySem.W.isFn K (.ref f)=true
 kp:PySem.W.keepIn K (.ref f)=true
section
variable {X:Cx} {pins:Δ} {σ:St} {H:Hp} {s:Shared} {a C dx:Addr} {fs:List (Str×V)} {f:Str} {v:V} {A:Around} {E:Γ}
def uQ {b:Bool} {Q:Γ} (I:aL X pins σ H s) (e:H a=some (.ins C dx fs)) (c:rT X.K C) (n:dh X.K C f) (l:fs.lookup f=some v)
 (h:∀ u s',aL X pins σ H s'->bc v u->Q u s'):wpAny (model X.prog X.w) A (getAttr (.ref a) f b) Q E s:=by
 obtain ⟨mA,O,r,_,_,_⟩:=qG I.hok e
 obtain ⟨u,hu,ru⟩:=hZ.some_of (v:=v) (o:=mA f) (by rw [<-l];exact r f)
 exact Cg I.kIn O (c.get f) c.hd n hu (yi ru) (h u _ (I.tok _) ru)
def vk {m:Str} {g:Addr} {pl:Sem Bool} {Q:Value×List Value->Shared->Prop} (I:aL X pins σ H s) (e:H a=some (.ins C dx fs)) (c:rT X.K C) (k:Ai X.K C m g) (l:fs.lookup m=none)
 (h:Q (.ref g,[.ref a]) s):wpAny (model X.prog X.w) A (getMethod (.ref a) m pl) Q E s:=by
 obtain ⟨mA,O,r,_,_,_⟩:=qG I.hok e
 have hn:mA m=none:=hZ.none_of (by rw [<-l];exact r m)
 exact zo I.kIn O (c.get m) k.at_ k.fn hn h
def ux {y:V} {u:Value} {Q:Unit->Shared->Prop} (I:aL X pins σ H s) (e:H a=some (.ins C dx fs)) (c:rT X.K C) (n:dh X.K C f) (hl:fs.length<1000) (ry:bc y u)
 (h:∀ s',aL X pins σ (bZ H a (.ins C dx (putF f y fs))) s'->Q () s'):wpAny (model X.prog X.w) A (setAttr (.ref a) f u) Q E s:=by
 obtain ⟨mA,O,r,wi,_,ho⟩:=qG I.hok e
 have hz:(fs.map (·.1)).length<=sizeLine:=by rw [length_map,sizeLine_eq];omega
 refine CK I.kIn O c.sa c.po n.taker c.hd wi hz λ h' O' sb=>h _ ?_
 have hd:∃ o,h'.get? dx=some o:=by obtain ⟨o,_,_,e',_⟩:=O'.ns;exact ⟨o,e'⟩
 refine I.write (x:=a) (e:=dx) (by rw [e];exact True.intro) (.inr ho) (λ b q hb z=>(sb.2 b hb).trans z) hd ?_
 refine ⟨by rw [aH O.ne];exact ho,?_,O.ne,O'.obj,_,O'.ns,λ g=>?_,λ g hg=>?_⟩
 . have:=lU f y fs;omega
 . show hZ ((putF f y fs).lookup g) (if g=f then some u else mA g)
   rw [lJ]
   by_cases q:g=f
   . rw [if_pos q,if_pos q];exact ry
   . rw [if_neg q,if_neg q];exact r g
 . by_cases q:g=f
   . rw [q];exact (kP f y fs).1
   . refine (kP f y fs).2 g (wi g λ z=>hg ?_)
     show (if g=f then some u else mA g)=none
     rw [if_neg q];exact z
def aL.made (I:aL X pins σ H s):aL X pins σ (bZ (bZ H s.heap.objs.size (.own (s.heap.objs.size+1))) (s.heap.objs.size+1) (.ins C s.heap.objs.size []))
 { s with heap:=(s.heap.push PySem.W.emptyDict).push (PySem.W.instObj C s.heap.objs.size) }:=by
 have e1:(s.heap.push PySem.W.emptyDict).get? s.heap.objs.size=some PySem.W.emptyDict:=get?_push_size s.heap rfl
 have e2:((s.heap.push PySem.W.emptyDict).push (PySem.W.instObj C s.heap.objs.size)).get? (s.heap.objs.size+1)=some (PySem.W.instObj C s.heap.objs.size):=by
  have:=get?_push_size (s.heap.push PySem.W.emptyDict) (o:=PySem.W.instObj C s.heap.objs.size) rfl
  rwa [size_push] at this
 have e3:(s.heap.push PySem.W.emptyDict).Ns s.heap.objs.size (λ _=>none):=⟨PySem.W.emptyDict,#[],_,e1,rfl,(λ e he=>absurd he (by simp)),λ _=>rfl⟩
 have I1:=I.laid (a:=s.heap.objs.size) (o:=.own (s.heap.objs.size+1)) (h':=s.heap.push PySem.W.emptyDict) (t':=s.toks) (λ b u q=>get?_push_of_some _ q) (le_refl _) ⟨_,e1⟩
 refine I1.laid (a:=s.heap.objs.size+1) (o:=.ins C s.heap.objs.size []) (t':=s.toks) (λ b u q=>get?_push_of_some _ q) (le_of_eq (size_push _ _)) ?_
 have ne:s.heap.objs.size≠s.heap.objs.size+1:=ne_of_lt (lt_succ_self _)
 refine ⟨by rw [aH ne,aJ],zero_le _,ne,e2,λ _=>none,(Heap.Ns1.of_empty e3).at λ o q=>get?_push_of_some _ q,λ _=>True.intro,λ y hy=>absurd rfl hy⟩
def Ef {prog:Program} {w:World} {env:Env} {e:Expr} {f:Str} {pos:Pos} {s:Shared} {Q:Γ} (hb:attributeBase e f env (eval e env)=eval e env)
 (h:wpAny (model prog w) A (eval e env) (λ o s₁=>wpAny (model prog w) A (getAttr o f true) Q E s₁) E s):wpAny (model prog w) A (eval (.Attribute e f pos) env) Q E s:=
 Attribute_any_ h (by rw [arm_eval_Attribute,hb])
end
noncomputable def HL (K:Frag) (ta:TE) (f:Str):TE:=λ σ H Q=>ta σ H λ x H1=>∃ a C dx fs v,x=.ref a/\H1 a=some (.ins C dx fs)/\rT K C/\dh K C f/\fs.lookup f=some v/\Q v H1
noncomputable def KD (K:Frag) (ta tv:TE) (f:Str):TS:=λ D σ H=>tv σ H λ y H1=>ta σ H1 λ x H2=>∃ a C dx fs,x=.ref a/\H2 a=some (.ins C dx fs)/\rT K C/\dh K C f/\fs.length<1000/\
 D.nx σ (bZ H2 a (.ins C dx (putF f y fs)))
section
variable {X:Cx} {o e value:Expr} {f:Str} {pos pos' tpos:Pos} {ta tv:TE}
def GC (he:PE X e ta) (hb:attributeBase e f X.env (eval e X.env)=eval e X.env):PE X (.Attribute e f pos) (HL X.K ta f):=by
 intro pins s σ H Q I h
 refine Ef hb (bY (he pins s σ H _ I h) λ u s1 hq0=>?_)
 obtain ⟨x,H1,I1,rx,a,C,dx,fs,v,ex,ea,c,n,l,q⟩:=hq0
 subst ex
 obtain rfl:u=Value.ref a:=rx
 exact uQ I1 ea c n l λ u' s2 I2 ru=>⟨v,H1,I2,ru,q⟩
def Nr (ha:PE X o ta) (hv:PE X value tv) (hs:swapsWith value (some (.Attribute o f pos')) pos.line X.env=pure false):PS X (.Assign [.Attribute o f pos'] value pos) (KD X.K ta tv f):=by
 intro pins s σ H D I h
 refine plainObj_wpAny_Assign_Attribute (bY (hv pins s σ H _ I h) λ u s1 hy0=>?_) hs
 obtain ⟨y,H1,I1,ry,q⟩:=hy0
 refine bY (ha pins s1 σ H1 _ I1 q) λ ov s2 hq0=>?_
 obtain ⟨x,H2,I2,rx,a,C,dx,fs,ex,ea,c,n,l,q2⟩:=hq0
 subst ex
 obtain rfl:ov=Value.ref a:=rx
 exact ux I2 ea c n l ry λ s3 I3=>⟨σ,_,I3,q2⟩
end
section
variable {X:Cx} {pins:Δ} {σ:St} {H:Hp} {s:Shared} {A:Around} {E:Γ} {Q:Γ} {c:Value} {b:Bool}
end
structure d7 (k:Nat) (A:Around):Prop where
 hd:A.handled=none
 dp:A.depth+3*k+5<recursionLimit
 un:A.units+16*k+200<cLine
def d7.mono {j k:Nat} {A:Around} (r:d7 k A) (h:j<=k):d7 j A:=⟨r.hd,by have:=r.dp;omega,by have:=r.un;omega⟩
def d7.deeper {k:Nat} {A:Around} (r:d7 (k+1) A) (env:Env):d7 k (A.deeper env):=
 ⟨r.hd,by have:=r.dp;show A.depth+1+3*k+5<_;omega,by have:=r.un;show A.units+3+16*k+200<_;omega⟩
def ur {A:Around} {C:Addr} {us:Φ} {kw:List (Str×Value)}:(A.under (.builtin "type.__call__" ⟨.ref C::us,kw⟩)).depth=A.depth+1:=by
 first | rfl | simp [Around.under,Code.weight,Code.isCreation,Code.isGuard,Code.isCaller,Code.frames,Code.isFrame,guardIds]
def uI {A:Around} {C:Addr} {us:Φ} {kw:List (Str×Value)}:(A.under (.builtin "type.__call__" ⟨.ref C::us,kw⟩)).units=A.units+1:=by
 first | rfl | simp [Around.under,Code.cUnits,Code.frames,Code.isFrame]
def d7.make {k:Nat} {A:Around} (r:d7 (k+1) A) (C:Addr) (us:Φ) (kw:List (Str×Value)):d7 k (A.under (.builtin "type.__call__" ⟨.ref C::us,kw⟩)):=
 ⟨r.hd,by have:=r.dp;rw [ur];omega,by have:=r.un;rw [uI];omega⟩
def d7.depth {k:Nat} {A:Around} (r:d7 k A):A.depth<recursionLimit:=by have:=r.dp;omega
def d7.units {k:Nat} {A:Around} (r:d7 k A):A.units+64<cLine:=by have:=r.un;omega
noncomputable def j4:TA:=λ _ H Q=>Q [] H
noncomputable def fX (ta:TE) (tr:TA):TA:=λ σ H Q=>ta σ H λ x H1=>tr σ H1 λ xs H2=>Q (x::xs) H2
section
variable {X:Cx} {e:Expr} {es:List Expr} {te:TE} {t:TA} {pos:Pos}
def MG:PA X [] j4:=λ _ _ _ _ H Q I h=>Calls.spliced_nil ⟨[],H,I,.nil,h⟩
def LO (ha:PE X e te) (hr:PA X es t) (hs:starEach (e::es) X.env=(false,eval e X.env)::starEach es X.env):PA X (e::es) (fX te t):=by
 intro pos pins s σ H Q I h
 rw [hs]
 show wpAny _ _ (spliced ((false,eval e X.env)::backTo pos (starEach es X.env))) _ _ s
 refine Calls.spliced_cons (bY (ha pins s σ H _ I h) λ u s1 hq0=>?_)
 obtain ⟨x,H1,I1,r1,q1⟩:=hq0
 exact bY (hr pos pins s1 σ H1 _ I1 q1) λ us s2 hy0=>by obtain ⟨xs,H2,I2,r2,q2⟩:=hy0;exact ⟨x::xs,H2,I2,.cons r1 r2,q2⟩
end
noncomputable abbrev Sp:=List V->Hp->VK->XK->Prop
noncomputable abbrev vW:=List Env->Hp->Shared->XK->Value->Shared->Prop
structure uy (P:Program) (w:World) (K:Frag) (mg:Θ) (base:Heap) (A:Around) (outer:List Env) (s:Shared) (H:Hp):Prop where
 frames:A.frames=some outer
 mod:Mod K mg base
 bs:∀ b o,base.get? b=some o->s.heap.get? b=some o/\H b=none
 bsz:base.objs.size<=s.heap.objs.size
 funs:s.heap.FunFrames base outer
 frf:∀ b∈BI outer,H b=none
 hok:je P w H s.heap
 bare:AllBare s.gens
noncomputable def CE (outer:List Env) (P:Program) (w:World) (H:Hp) (s:Shared) (Q:VK) (u:Value) (s':Shared):Prop:=
 ∃ v H',s'.os=s.os/\AllBare s'.gens/\Un (BI outer) [] H H' s.heap s'.heap/\je P w H' s'.heap/\bc v u/\Q v H'
noncomputable def CR (CX:vW) (outer:List Env) (P:Program) (w:World) (H:Hp) (s:Shared) (Q:VK) (E:XK) (r:Result) (s':Shared):Prop:=
 match r with
 | .ok (.ret u)=>CE outer P w H s Q u s'
 | .ok _=>False
 | .error e=>CX outer H s E e s'
structure fO (P:Program) (w:World) (K:Frag) (mg:Θ) (base:Heap) (CX:vW) (k:Nat) (f:Addr) (fd:FuncData) (ps:Ω) (sp:Sp):Prop where
 len:∀ vs H Q E,sp vs H Q E->vs.length=ps.length
 run:∀ (A:Around) (outer:List Env) (s:Shared) (H:Hp) (args:Args) (us:Φ) (vs:List V) (Q:VK) (E:XK),d7 k A->uy P w K mg base A outer s H->BindsTo s fd args (ps.zip us)->bb vs us->sp vs H Q E->
  codeAny (model P w) A (.call (.ref f) args) (CR CX outer P w H s Q E) s
def fO.mono {P:Program} {w:World} {K:Frag} {mg:Θ} {base:Heap} {CX:vW} {j k:Nat} {f:Addr} {fd:FuncData} {ps:Ω} {sp:Sp} (F:fO P w K mg base CX j f fd ps sp) (h:j<=k):
 fO P w K mg base CX k f fd ps sp:=⟨F.len,λ A outer s H args us vs Q E hr=>F.run A outer s H args us vs Q E (hr.mono h)⟩
def fO.imp {P:Program} {w:World} {K:Frag} {mg:Θ} {base:Heap} {CX:vW} {k:Nat} {f:Addr} {fd:FuncData} {ps:Ω} {sp sp':Sp} (F:fO P w K mg base CX k f fd ps sp)
 (h:∀ vs H Q E,sp' vs H Q E->sp vs H Q E):fO P w K mg base CX k f fd ps sp':=
 ⟨λ vs H Q E q=>F.len vs H Q E (h _ _ _ _ q),λ A outer s H args us vs Q E hr he hb hv hs=>F.run A outer s H args us vs Q E hr he hb hv (h _ _ _ _ hs)⟩
def uy.make {P:Program} {w:World} {K:Frag} {mg:Θ} {base:Heap} {A:Around} {outer:List Env} {s:Shared} {H:Hp} (e:uy P w K mg base A outer s H) (C:Addr) (us:Φ) (kw:List (Str×Value)):
 uy P w K mg base (A.under (.builtin "type.__call__" ⟨.ref C::us,kw⟩)) outer s H:=⟨by first | exact e.frames | (simpa [Around.under,Code.envs,Code.isFrame,pushEnvs] using e.frames),e.mod,e.bs,e.bsz,e.funs,e.frf,e.hok,e.bare⟩
section
variable {X:Cx} {pins:Δ} {σ:St} {H:Hp} {s s':Shared}
def aL.env0 (I:aL X pins σ H s):uy X.prog X.w X.K X.mg X.base X.A X.stack s H:=
 ⟨I.ok.frames,I.ok.mod,I.bs,le_trans I.ok.bsz I.sz,I.stack,I.stkFree,I.hok,I.bare⟩
def aL.after {Q:VK} {u:Value} (I:aL X pins σ H s) (h:CE X.stack X.prog X.w H s Q u s'):EP X pins σ Q u s':=by
 obtain ⟨v,H',os,bare,un,hok,r,q⟩:=h
 obtain ⟨hh,g,d,t,os'⟩:=s'
 obtain rfl:os'=s.os:=os
 exact ⟨v,H',I.call (h':=hh) (g':=g) (d':=d) (t':=t) (ch:=[]) un hok bare (λ b z=>absurd z (by simp)),r,q⟩
end
noncomputable def pU (sp:Sp) (dvs:List V) (E:XK) (t:TA):TE:=λ σ H Q=>t σ H λ vs H1=>sp (vs++dvs) H1 Q E
noncomputable def Fu (C:Addr) (m:Str) (sp:Sp) (dvs:List V) (E:XK) (ta:TE) (t:TA):TE:=λ σ H Q=>ta σ H λ x H1=>∃ a dx fs,x=.ref a/\H1 a=some (.ins C dx fs)/\fs.lookup m=none/\
 t σ H1 λ vs H2=>sp (x::(vs++dvs)) H2 Q E
noncomputable def Fv (C:Addr) (sp:Sp) (dvs:List V) (E:XK) (t:TA):TE:=λ σ H Q=>t σ H λ vs H1=>∀ x dx,H1 x=none->H1 dx=none->dx≠x->
 sp (.ref x::(vs++dvs)) (bZ (bZ H1 dx (.own x)) x (.ins C dx [])) (λ v H2=>v=.non/\Q (.ref x) H2) E
noncomputable def fJ (K:Frag) (fd:FuncData) (ps:Ω) (ds:Φ):Prop:=
 ∀ (s:Shared) (us:Φ),K.In s.heap->(us++ds).length=ps.length->BindsTo s fd ⟨us,[]⟩ (ps.zip (us++ds))
def fJ.all {K:Frag} {fd:FuncData} {ps:Ω} (h:∀ us:Φ,us.length=ps.length->bindArgs fd ⟨us,[]⟩=pure (ps.zip us)):fJ K fd ps []:=λ s us _ hl=>by
 rw [append_nil] at hl ⊢
 exact .of_eq (h us hl)
noncomputable def jt (CX:vW) (X:Cx) (E:XK):Prop:=∀ (pins:Δ) (σ:St) (H:Hp) (s:Shared) (e:Value) (s':Shared),aL X pins σ H s->CX X.stack H s E e s'->X.xe e s'
section
variable {X:Cx} {CX:vW} {k:Nat} {f C:Addr} {fd:FuncData} {ps:Ω} {sp:Sp} {dvs:List V} {ds:Φ} {E:XK} {x m:Str} {p pos apos:Pos} {e o:Expr} {es:List Expr} {ta:TE} {t:TA}
def A2 {pins:Δ} {σ:St} {H:Hp} {s:Shared} {Q:VK} {us:Φ} {vs:List V} (F:fO X.prog X.w X.K X.mg X.base CX k f fd ps sp) (hr:d7 k X.A) (hb:fJ X.K fd ps ds) (hd:bb dvs ds) (hx:jt CX X E)
 (I:aL X pins σ H s) (r:bb vs us) (h:sp (vs++dvs) H Q E):wpAny (model X.prog X.w) X.A (call (.ref f) us) (EP X pins σ Q) X.xe s:=by
 have r2:bb (vs++dvs) (us++ds):=r.append hd
 have hl:(us++ds).length=ps.length:=by rw [<-r2.length];exact F.len _ _ _ _ h
 refine wpAny_call (codeAny_mono (F.run X.A X.stack s H ⟨us,[]⟩ (us++ds) (vs++dvs) Q E hr I.env0 (hb s us I.kIn hl) r2 h) λ r s' hq=>?_)
 cases r with
 | error e=>exact hx pins σ H s e s' I hq
 | ok fl=>
  cases fl with
  | ret u=>exact I.after hq
  | next=>exact False.elim hq
  | brk=>exact False.elim hq
  | cont=>exact False.elim hq
def wc (F:fO X.prog X.w X.K X.mg X.base CX k f fd ps sp) (hr:d7 k X.A) (hg:Gl X x) (hm:X.mg x=some (.ref f)) (hk:PySem.W.keepIn X.K (.ref f)=true) (hb:fJ X.K fd ps ds) (hd:bb dvs ds) (hx:jt CX X E)
 (ha:PA X (e::es) t) (hdb:(x==("__debug__" : Str))=false:=by decide) (he:starEach (e::es) X.env=(false,eval e X.env)::starEach es X.env:=by rfl) (hpl:(backTo pos (starEach es X.env)).any (·.1)=false:=by rfl):
 PE X (.Call (.Name x p) (e::es) [] pos) (pU sp dvs E t):=by
 intro pins s σ H Q I h
 refine wpAny_Call_Name_kw (qL I hg hm ?_ hdb)
 refine PySem.W.callWith_K (h₀:=X.base) I.ok.mod.kin hk (bY (ha pos pins s σ H _ I h) λ us s1 hy0=>?_) he hpl
 obtain ⟨vs,H1,I1,r,q⟩:=hy0
 refine ⟨I1.kIn,?_⟩
 exact A2 F hr hb hd hx I1 r q
def Cr {pl:Sem Bool} (he:PE X o ta) (c:rT X.K C) (hm:Ai X.K C m f) (F:fO X.prog X.w X.K X.mg X.base CX k f fd ps sp) (hr:d7 k X.A) (hb:fJ X.K fd ps ds) (hd:bb dvs ds) (hx:jt CX X E) (ha:PA X (e::es) t)
 (hst:starEach (e::es) X.env=(false,eval e X.env)::starEach es X.env:=by rfl) (hpl:(backTo pos (starEach es X.env)).any (·.1)=false:=by rfl)
 (ht:eval (.Call (.Attribute o m apos) (e::es) [] pos) X.env=(do
  let ov <-eval o X.env
  standAt apos.atName
  let (f,first) <-holding [ov] (getMethod ov m pl)
  callWith pos f first (backTo pos (starEach (e::es) X.env)) (backToKw pos (keywordEach [] X.env))):=by rfl):
 PE X (.Call (.Attribute o m apos) (e::es) [] pos) (Fu C m sp dvs E ta t):=by
 intro pins s σ H Q I h
 refine PySem.W.methodCall_KW (pl:=pl) (bY (he pins s σ H _ I h) λ u s1 hq0=>?_) ht
 obtain ⟨x,H1,I1,rx,a,dx,fs,ex,ea,l,q⟩:=hq0
 subst ex
 obtain rfl:u=Value.ref a:=rx
 refine vk I1 ea c hm l ?_
 refine PySem.W.callWith_K (first:=[.ref a]) (h₀:=X.base) I.ok.mod.kin hm.kp (bY (ha pos pins s1 σ H1 _ I1 q) λ us s2 hy0=>?_) hst hpl
 obtain ⟨vs,H2,I2,r,q2⟩:=hy0
 refine ⟨I2.kIn,?_⟩
 exact A2 (us:=.ref a::us) (vs:=.ref a::vs) F hr hb hd hx I2 (.cons rfl r) q2
structure Mk (K:Frag) (C f:Addr):Prop where
 makes:PySem.W.makesIn K C=true
 init:PySem.W.findIn K (.ref C) "__init__" = some (some (.ref f))
 fn:PySem.W.isFn K (.ref f)=true
 kp:PySem.W.keepIn K (.ref C)=true
def Ag {pins:Δ} {σ:St} {H:Hp} {s:Shared} {Q:VK} {us:Φ} {vs:List V} (M:Mk X.K C f) (F:fO X.prog X.w X.K X.mg X.base CX k f fd ps sp) (hr:d7 (k+1) X.A) (hb:fJ X.K fd ps ds) (hd:bb dvs ds)
 (hx:jt CX X E) (I:aL X pins σ H s) (r:bb vs us)
 (h:∀ x dx,H x=none->H dx=none->dx≠x->sp (.ref x::(vs++dvs)) (bZ (bZ H dx (.own x)) x (.ins C dx [])) (λ v H2=>v=.non/\Q (.ref x) H2) E):
 wpAny (model X.prog X.w) X.A (call (.ref C) us) (EP X pins σ Q) X.xe s:=by
 have hq:=h (s.heap.objs.size+1) s.heap.objs.size (I.hok.fresh (Nat.le_succ _)) (I.hok.fresh (le_refl _)) (ne_of_lt (lt_succ_self _))
 have I2:=aL.made (C:=C) I
 have r2:bb (V.ref (s.heap.objs.size+1)::(vs++dvs)) (Value.ref (s.heap.objs.size+1)::(us++ds)):=.cons rfl (r.append hd)
 have hl:(Value.ref (s.heap.objs.size+1)::us++ds).length=ps.length:=by
  have e:=r2.length
  rw [F.len _ _ _ _ hq] at e
  exact e.symm
 refine wpAny_call (Bl (f:=f) I.kIn M.makes M.init (beq_iff_eq.mp M.fn) (codeAny_mono (F.run _ X.stack _ _ ⟨Value.ref (s.heap.objs.size+1)::us,[]⟩ (Value.ref (s.heap.objs.size+1)::(us++ds)) _ _ E (hr.make C us [])
  (I2.env0.make C us []) (hb _ (Value.ref (s.heap.objs.size+1)::us) I2.kIn hl) r2 hq) λ r s' hq'=>?_))
 cases r with
 | error e=>exact hx pins σ _ _ e s' I2 hq'
 | ok fl=>
  cases fl with
  | ret u=>
   obtain ⟨v,H',I3,rv,ev,q3⟩:=I2.after hq'
   subst ev
   exact ⟨rv,⟨V.ref (s.heap.objs.size+1),H',I3,rfl,q3⟩⟩
  | next=>exact False.elim hq'
  | brk=>exact False.elim hq'
  | cont=>exact False.elim hq'
def zx (M:Mk X.K C f) (F:fO X.prog X.w X.K X.mg X.base CX k f fd ps sp) (hr:d7 (k+1) X.A) (hg:Gl X x) (hm:X.mg x=some (.ref C)) (hb:fJ X.K fd ps ds) (hd:bb dvs ds) (hx:jt CX X E)
 (hdb:(x==("__debug__" : Str))=false:=by decide):PE X (.Call (.Name x p) [] [] pos) (Fv C sp dvs E j4):=by
 intro pins s σ H Q I h
 refine wpAny_Call_Name_kw (qL I hg hm ?_ hdb)
 exact PySem.W.callWith_K0 I.kIn M.kp (Ag (us:=[]) M F hr hb hd hx I .nil h)
end
section
variable {X:Cx} {CX:vW} {k:Nat} {f C:Addr} {fd:FuncData} {ps ks:Ω} {sp:Sp} {E:XK} {x m:Str} {p pos apos kpos:Pos} {e o:Expr} {es:List Expr} {kws:List Keyword} {te ta:TE} {t tk:TA} {nm:Option Str}
variable {g:List Value->List Value->Φ} {gV:List V->List V->List V}
end
structure fY (N P:Ω) (sc:Scope):Prop where
 kind:sc.kind=.function
 co:sc.isCoroutine=false
 gen:sc.isGenerator=false
 nd:N.Nodup
 pre:N.take P.length=P
 par:∀ x∈P,sc.names.lookup x=some .local∨sc.names.lookup x=some .cell
 nofree:∀ y∈sc.names,y.2≠.free
def p8 {kindOf:Str->Option NameKind} {x:Str}:∀ {binds:List (Str×Value)} {m:Θ},(∀ v,(x,v)∉binds)->bindL kindOf binds m x=m x
 | [],_,_=>rfl
 | (n,v)::r,m,h=>by
  unfold bindL
  rw [p8 λ w hw=>h w (mem_cons_of_mem _ hw)]
  split
  . have:x≠n:=by rintro rfl;exact h v mem_cons_self
    simp [this]
  . rfl
def pN {kindOf:Str->Option NameKind} {x:Str}:∀ {binds:List (Str×Value)} {m:Θ},(∀ v,(x,v)∉binds)->bindC kindOf binds m x=m x
 | [],_,_=>rfl
 | (n,v)::r,m,h=>by
  unfold bindC
  rw [pN λ w hw=>h w (mem_cons_of_mem _ hw)]
  split
  . rfl
  . have:x≠n:=by rintro rfl;exact h v mem_cons_self
    simp [this]
def pL {kindOf:Str->Option NameKind} {x:Str} {v:Value}:∀ {P:Ω} {vs:Φ} {i:Nat} {m:Θ},P.Nodup->P[i]?=some x->vs[i]?=some v->kindOf x=some .local->
 bindL kindOf (P.zip vs) m x=some v
 | [],_,_,_,_,h,_,_=>by simp at h
 | _::_,[],_,_,_,_,h,_=>by simp at h
 | p::P,w::vs,0,m,nd,h1,h2,hk=>by
  simp at h1 h2;subst h1;subst h2
  show bindL kindOf ((p,w)::P.zip vs) m p=_
  unfold bindL
  rw [p8 λ v hv=>(nodup_cons.mp nd).1 (of_mem_zip hv).1,if_pos hk]
  simp
 | p::P,w::vs,i+1,m,nd,h1,h2,hk=>by
  show bindL kindOf ((p,w)::P.zip vs) m x=_
  unfold bindL
  exact pL (i:=i) (nodup_cons.mp nd).2 (by simpa using h1) (by simpa using h2) hk
def pY {kindOf:Str->Option NameKind} {x:Str} {v:Value}:∀ {P:Ω} {vs:Φ} {i:Nat} {m:Θ},P.Nodup->P[i]?=some x->vs[i]?=some v->kindOf x≠some .local->
 bindC kindOf (P.zip vs) m x=some v
 | [],_,_,_,_,h,_,_=>by simp at h
 | _::_,[],_,_,_,_,h,_=>by simp at h
 | p::P,w::vs,0,m,nd,h1,h2,hk=>by
  simp at h1 h2;subst h1;subst h2
  show bindC kindOf ((p,w)::P.zip vs) m p=_
  unfold bindC
  rw [pN λ v hv=>(nodup_cons.mp nd).1 (of_mem_zip hv).1,if_neg hk]
  simp
 | p::P,w::vs,i+1,m,nd,h1,h2,hk=>by
  show bindC kindOf ((p,w)::P.zip vs) m x=_
  unfold bindC
  exact pY (i:=i) (nodup_cons.mp nd).2 (by simpa using h1) (by simpa using h2) hk
noncomputable def start (N:Ω) (vs:List V):St:=vs.map some++List.replicate (N.length-vs.length) none
noncomputable def uz (CX:vW) (P:Program) (w:World) (K:Frag) (mg:Θ) (base:Heap) (N:Ω) (qual:Str) (scope:Scope) (f:Addr) (cd:Value) (A:Around) (outer:List Env) (s:Shared) (H:Hp) (E:XK):Cx where
 prog:=P
 w:=w
 K:=K
 mg:=mg
 base:=base
 A:=A.deeper (envOfC qual scope s.heap.objs.size f cd)
 N:=N
 s₀:=s
 H₀:=H
 env:=envOfC qual scope s.heap.objs.size f cd
 outer:=outer
 stack:=envOfC qual scope s.heap.objs.size f cd::outer
 ex:=[]
 calm:=true
 fn:=λ _=>true
 pn:=[]
 xe:=λ e s'=>wpAny (model P w) (A.deeper (envOfC qual scope s.heap.objs.size f cd)) (leaving (envOfC qual scope s.heap.objs.size f cd) e) (λ _ s''=>CX outer H s E e s'') (λ e' s''=>CX outer H s E e' s'') s'
def sx {sc:Scope} {n:Nat} {x:Str} (h:sc.names.lookup x=some .cell):∃ c,(cellsFrom n sc.names []).lookup x=some c:=by
 have q:=PySem.W.cellsFrom_some sc.names n [] (.inl h)
 exact isSome_iff_exists.mp q
def xG {CX:vW} {P:Program} {w:World} {K:Frag} {mg:Θ} {base:Heap} {N ps:Ω} {qual:Str} {scope:Scope} {f:Addr} {cd:Value} {A:Around} {outer:List Env} {s s1:Shared} {H:Hp} {E:XK} {us:Φ} {vs:List V}
 (S:fY N ps scope) (hd:A.handled=none) (e0:uy P w K mg base A outer s H) (hl:vs.length=ps.length) (r:bb vs us)
 (x:InCallC s s.heap.objs.size (bindL (envOfC qual scope s.heap.objs.size f cd).kindOf (ps.zip us) λ _=>none) (cellsFrom (s.heap.objs.size+1) scope.names []) (bindC (envOfC qual scope s.heap.objs.size f cd).kindOf (ps.zip us) λ _=>none) s1):
 aL (uz CX P w K mg base N qual scope f cd A outer s H E) [] (start N vs) H s1:=by
 have hpl:ps.length<=N.length:=by have:=congrArg List.length S.pre;rw [length_take] at this;omega
 obtain ⟨h1,tk,rfl,hk⟩:=x.done
 have noA:∀ b:Addr,b∉(uz CX P w K mg base N qual scope f cd A outer s H E).ex:=λ b z=>absurd (show b∈([]:Ξ) from z) (by simp)
 refine ⟨⟨e0.mod,S.kind,rfl,rfl,le_refl _,λ y z c h1 h2=>?_,λ y hy=>?_,λ y c _ h=>?_,λ _=>hd,Around.frames_deeper e0.frames,.inr ⟨rfl,rfl⟩,λ b z=>absurd z (noA b),e0.bs,e0.bsz,λ b _ _=>noA b,λ b z=>absurd z (noA b),e0.funs,e0.frf⟩,
  rfl,e0.bare,Un.kept hk,⟨_,x.toInCall.ns,λ i y v h1 h2 h3=>?_⟩,λ y c h=>⟨_,x.cell y c h⟩,e0.hok.fresh (le_refl _),λ y c h=>?_,λ p hp=>absurd (show p∈([]:Δ) from hp) (by simp),e0.hok.kept hk,?_⟩
 . exact name_of_addr x.apart (PySem.mem_of_lookup h1) (PySem.mem_of_lookup h2)
 . have hy:scope.names.lookup y=some .cell∨scope.names.lookup y=some .free:=hy
   rcases hy with hy | hy
   . exact sx hy
   . exact absurd rfl (S.nofree _ (PySem.mem_of_lookup hy))
 . exact le_of_lt (x.above y c (PySem.mem_of_lookup h))
 . have hi:i<vs.length:=by
    unfold start at h2
    by_cases hi:i<vs.length
    . exact hi
    . rw [getElem?_append_right (by simpa using hi)] at h2
      rw [getElem?_replicate] at h2
      split at h2 <;> cases h2
   have ha:vs[i]?=some v:=by
    unfold start at h2
    rw [getElem?_append_left (by simpa using hi),getElem?_map] at h2
    cases e:vs[i]? with
    | none=>rw [e] at h2;cases h2
    | some a=>rw [e] at h2;cases h2;rfl
   obtain ⟨u,hu,rv⟩:=r.get ha
   have hp:ps[i]?=some y:=by
    rw [<-S.pre,List.getElem?_take_of_lt (by omega)];exact h1
   have ndP:ps.Nodup:=by rw [<-S.pre];exact S.nd.sublist (List.take_sublist _ _)
   refine ⟨u,rv,?_⟩
   rcases S.par y (mem_of_getElem? hp) with k | k
   . exact .inl ⟨k,pL ndP hp hu k⟩
   . obtain ⟨c,e⟩:=sx (n:=s.heap.objs.size+1) k
     refine .inr ⟨.inl k,c,e,?_⟩
     have q:=x.cell y c e
     rw [pY ndP hp hu (by show scope.names.lookup y≠_;rw [k];decide)] at q
     exact q
 . exact e0.hok.fresh (le_of_lt (x.above y c (PySem.mem_of_lookup h)))
 . unfold start
   show _=N.length
   rw [length_append,length_map,List.length_replicate]
   omega
def KZ {CX:vW} {P:Program} {w:World} {K:Frag} {mg:Θ} {base:Heap} {k:Nat} {f:Addr} {name qual:Str} {params:Arguments} {body:List Stmt} {scope:Scope} {dV kV doc pm cdv ct oc:Value} {an od:Option Addr}
 {osl:Array (Option Value)} {N ps:Ω} {sp:Sp} (lk:K.lookup f=some ⟨oc,od,.func (PySem.W.fnOf name qual params body scope dV kV doc pm an cdv ct),osl⟩) (hcd:PySem.W.codeIn K cdv qual=true) (S:fY N ps scope)
 (len:∀ vs H Q E,sp vs H Q E->vs.length=ps.length)
 (hbody:∀ (A:Around) (outer:List Env) (s:Shared) (H:Hp) (vs:List V) (Q:VK) (E:XK),d7 k (A.deeper (envOfC qual scope s.heap.objs.size f cdv))->sp vs H Q E->
  ∃ t,uc (uz CX P w K mg base N qual scope f cdv A outer s H E) body t/\t { nx:=λ _ H'=>Q .non H',rt:=Q } (start N vs) H):
 fO P w K mg base CX (k+1) f (PySem.W.fnOf name qual params body scope dV kV doc pm an cdv ct) ps sp:=by
 refine ⟨len,λ A outer s H args us vs Q E hr e0 hb r hsp=>?_⟩
 have hl:=len _ _ _ _ hsp
 have KX:K.In s.heap:=e0.mod.kin.keeps λ b o e=>(e0.bs b o e).1
 have lim:s.heap.NoLimit:=e0.mod.nolimit.keeps λ b o e=>(e0.bs b o e).1
 have hkind:∀ y∈ps.zip us,scope.names.lookup y.1=some .local∨(scope.names.lookup y.1=some .cell/\((cellsFrom (s.heap.objs.size+1) scope.names []).lookup y.1).isSome=true):=λ ⟨n,v⟩ hy=>by
  rcases S.par n (of_mem_zip hy).1 with q | q
  . exact .inl q
  . exact .inr ⟨q,PySem.W.cellsFrom_some _ _ _ (.inl q)⟩
 refine codeAny_call_function hr.depth (KX _ _ lk) rfl S.co S.gen rfl (PySem.W.codeRec_of KX hcd) (hb _ _ _ _ ?_)
 refine wpAny_newFunctionEnv_cells S.kind hkind λ env he s1 x=>?_
 subst he
 refine ⟨lim.keeps x.toInCall.keep,codeAny_func ?_⟩
 obtain ⟨t,ht,hq⟩:=hbody A outer s H vs Q E (hr.deeper _) hsp
 have I:aL (uz CX P w K mg base N qual scope f cdv A outer s H E) [] (start N vs) H s1:=xG S hr.hd e0 hl r x
 refine wpAny_mono (ht [] s1 (start N vs) H _ I hq) (λ fl s' hs=>?_) λ e s' hs=>hs
 have fin:∀ {σ':St} {H':Hp} {v:V} {u:Value},aL (uz CX P w K mg base N qual scope f cdv A outer s H E) [] σ' H' s'->bc v u->Q v H'->CE outer P w H s Q u s':=
  λ {σ' H' v u} J rv q=>⟨v,H',J.os,J.bare,J.base,J.hok,rv,q⟩
 cases fl with
 | ret u=>
  obtain ⟨v,σ',H',J,rv,q⟩:=hs
  exact fin J rv q
 | next=>
  obtain ⟨σ',H',J,q⟩:=hs
  exact fin (v:=V.non) (u:=Value.none) J rfl q
 | brk=>
  obtain ⟨_,_,_,q⟩:=hs
  exact False.elim q
 | cont=>
  obtain ⟨_,_,_,q⟩:=hs
  exact False.elim q
section
variable {X:Cx} {x:Str} {p pos:Pos} {e:Expr} {es:List Expr} {t:TA} {id T:String} {r:List V->Hp->VK->Prop}
noncomputable def yH (r:List V->Hp->VK->Prop) (t:TA):TE:=λ σ H Q=>t σ H λ vs H1=>r vs H1 Q
def Bc (hc:dI X (.builtin id) r) (hg:Gl X x) (hm:X.mg x=none) (hv:bootBuiltins x=some (.builtin id)) (ha:PA X (e::es) t) (hn:x ≠ "__name__" := by decide) (hdb:(x==("__debug__" : Str))=false:=by decide)
 (he:starEach (e::es) X.env=(false,eval e X.env)::starEach es X.env:=by rfl) (hpl:(backTo pos (starEach es X.env)).any (·.1)=false:=by rfl):PE X (.Call (.Name x p) (e::es) [] pos) (yH r t):=by
 intro pins s σ H Q I h
 refine wpAny_Call_Name_kw (kS I hg hm hv ?_ hn hdb)
 exact PyProof.Rows.callWith_builtin1 (bY (ha pos pins s σ H _ I h) λ us s1 hy0=>by obtain ⟨vs,H1,I1,r1,q1⟩:=hy0;exact hc pins s1 σ H1 vs us Q I1 r1 q1) he hpl
def p7 (hc:dI X (.type T) r) (hg:Gl X x) (hm:X.mg x=none) (hv:bootBuiltins x=some (.type T)) (ha:PA X (e::es) t) (hn:x ≠ "__name__" := by decide) (hdb:(x==("__debug__" : Str))=false:=by decide)
 (he:starEach (e::es) X.env=(false,eval e X.env)::starEach es X.env:=by rfl) (hpl:(backTo pos (starEach es X.env)).any (·.1)=false:=by rfl):PE X (.Call (.Name x p) (e::es) [] pos) (yH r t):=by
 intro pins s σ H Q I h
 refine wpAny_Call_Name_kw (kS I hg hm hv ?_ hn hdb)
 exact PyProof.Rows.callWith_type1 (bY (ha pos pins s σ H _ I h) λ us s1 hy0=>by obtain ⟨vs,H1,I1,r1,q1⟩:=hy0;exact hc pins s1 σ H1 vs us Q I1 r1 q1) he hpl
end
end L2
namespace HT
open PySem PyProof.Rows
section
open PySem.SeqAt
open PySem.AutoSeq1 (wpAny_loadPart')
open PySem.MeetsSeq PySem.MeetsSeq2 PySem.MeetsSeq3
end
section
variable {prog:Program} {w:World} {A:Around} {E:Γ} {s:Shared}
def cat_tup {t b:Addr} {vs ws:Φ} {Q:Γ} (ht:IsTup s.heap t vs.toArray) (hb:IsTup s.heap b ws.toArray) (hv:vs≠[])
 (h1:ws=[]->Q (.ref t) s) (h2:ws≠[]->Q (.ref s.heap.objs.size) { s with heap:=s.heap.push { cls:=.type "tuple", data:=.seq (vs++ws).toArray } })
 (hsz:vs.length+ws.length<=sizeLine):wpAny (model prog w) A (binaryOp .Add (.ref t) (.ref b)) Q E s:=by
 obtain ⟨⟨cls,dd,data,sl⟩,ho,hc,n,hd⟩:=id ht
 obtain ⟨⟨cls2,dd2,data2,sl2⟩,ho2,hc2,n2,hd2⟩:=id hb
 simp only at hc hd hc2 hd2
 subst hc hd hc2 hd2
 have e:vs.toArray++ws.toArray=(vs++ws).toArray:=by simp
 by_cases hw:ws=[]
 . exact concat_meets ⟨_,ho,rfl⟩ ⟨_,ho2,rfl⟩ noFill_tuple_add seq_tuple_add PySem.F.slot_tuple_add PySem.F.entry_tuple_add (PySem.F.args_tuple_add_2 _ _)
    (tuple_addW1 t b vs.toArray ws.toArray n n2 dd dd2 sl sl2 (by simpa using hv) (by simp [hw])) ⟨ho,ho2,h1 hw⟩
 . refine concat_meets ⟨_,ho,rfl⟩ ⟨_,ho2,rfl⟩ noFill_tuple_add seq_tuple_add PySem.F.slot_tuple_add PySem.F.entry_tuple_add (PySem.F.args_tuple_add_2 _ _)
    (tuple_addW2 t b vs.toArray ws.toArray n n2 dd dd2 sl sl2 (by simpa using hv) (by simpa using hw) (by rw [size_toArray,size_toArray];exact hsz)) ⟨ho,ho2,?_⟩
   rw [e]
   exact h2 hw
noncomputable def sIx (n d:Nat):Option Int->Nat
 | none=>d
 | some v=>if v<0 then (v+(n:Int)).toNat else min v.toNat n
def sIx_none (n d:Nat):sIx n d none=d:=rfl
def sIx_nat (n d k:Nat):sIx n d (some (k:Int))=min k n:=by
 show (if (k:Int)<0 then ((k:Int)+(n:Int)).toNat else min (k:Int).toNat n)=min k n
 rw [if_neg (by omega),toNat_natCast]
def Gf (n d:Nat) (hd:d<=n) (o:Option Int):sIx n d o<=n:=by
 cases o with
 | none=>exact hd
 | some v=>
  show (if v<0 then (v+(n:Int)).toNat else min v.toNat n)<=n
  by_cases hv:v<0
  . rw [if_pos hv];omega
  . rw [if_neg hv];exact Nat.min_le_right _ _
def xv (v:Int) (n d:Nat):(if v<0 then max (v+(n:Int)) 0 else min v (n:Int))=((sIx n d (some v):Nat):Int):=by
 show (if v<0 then max (v+(n:Int)) 0 else min v (n:Int))=(((if v<0 then (v+(n:Int)).toNat else min v.toNat n):Nat):Int)
 by_cases hv:v<0
 . simp only [if_pos hv];omega
 . simp only [if_neg hv];omega
def uP (lo hi:Option Int) (n:Nat):Builtin.Slice.sliceAdjust lo hi 1 (n:Int)=(((sIx n 0 lo:Nat):Int),((sIx n n hi:Nat):Int)):=by
 have h1:¬ ((1:Int)<0):=by omega
 unfold Builtin.Slice.sliceAdjust
 simp only [h1,if_false]
 refine Prod.ext ?_ ?_
 . cases lo with
   | none=>rfl
   | some v=>exact xv v n 0
 . cases hi with
   | none=>rfl
   | some v=>exact xv v n n
def uk (i j:Nat):Builtin.Slice.slicePlaces (i:Int) (j:Int) 1=j-i:=by
 unfold Builtin.Slice.slicePlaces
 have h1:(1:Int)>0:=by omega
 simp only [h1,if_true,Int.ediv_one]
 split <;> omega
def nj {v:Value} {o:Option Int} {Q:Option Int->Shared->Prop} (p:IsPart v o) (h:Q o s):wpAny (model prog w) A (Builtin.Slice.slicePartIndex v) Q E s:=by
 cases p with
 | none=>exact slicePart_none h
 | int i t=>exact slicePart_int h
def sliceApplied_gen {sl:Addr} {vl vu:Value} {lo hi:Option Int} {n:Nat} {Q:Int×Int×Nat->Shared->Prop} (hs:s.heap.IsSliceOf sl vl vu .none) (pl:IsPart vl lo) (pu:IsPart vu hi)
 (h:Q (((sIx n 0 lo:Nat):Int),1,sIx n n hi-sIx n 0 lo) s):wpAny (model prog w) A (Builtin.Slice.sliceApplied (.ref sl) (pure (n:Int))) Q E s:=by
 obtain ⟨os,hos,hcs,hds⟩:=id hs
 unfold Builtin.Slice.sliceApplied Builtin.Slice.sliceFields
 refine wpAny_bind (wpAny_bind (wpAny_field hos hds (x:=vl) rfl (wpAny_bind (wpAny_field hos hds (x:=vu) rfl (wpAny_bind (wpAny_field hos hds (x:=.none) rfl (wpAny_pure ?_)))))))
 refine wpAny_bind (slicePart_none ?_)
 show wpAny _ _ (if ((1:Int)==0)=true then _ else _) _ _ s
 rw [if_neg (by decide)]
 refine wpAny_bind (nj pl (wpAny_bind (nj pu (wpAny_bind (wpAny_pure ?_)))))
 show wpAny _ _ (match Builtin.Slice.sliceAdjust lo hi 1 (n:Int) with | (lo,hi)=>pure (lo,(1:Int),Builtin.Slice.slicePlaces lo hi 1)) _ _ s
 rw [uP lo hi n]
 show wpAny _ _ (pure (((sIx n 0 lo:Nat):Int),(1:Int),Builtin.Slice.slicePlaces ((sIx n 0 lo:Nat):Int) ((sIx n n hi:Nat):Int) 1)) _ _ s
 rw [uk]
 exact wpAny_pure h
def AC (xs:Array Value) (i k:Nat):((List.range k).filterMap λ (m:Nat)=>xs[((i:Int)+(m:Int)*1).toNat]?).toArray=((xs.toList.drop i).take k).toArray:=by
 have e:(λ (m:Nat)=>xs[((i:Int)+(m:Int)*1).toNat]?)=λ m=>xs[i+m]?:=by
  funext m
  have:((i:Int)+(m:Int)*1).toNat=i+m:=by omega
  rw [this]
 rw [e]
 have:=pick_run xs i k
 rw [List.filterMap_map] at this
 have e2:((λ x=>xs[x]?) ∘ λ x=>i+x)=λ m=>xs[i+m]?:=rfl
 rw [e2] at this
 rw [this]
def getItem_tuple_cut {t sl:Addr} {items:Array Value} {vl vu:Value} {lo hi:Option Int} {Q:Γ} (ht:IsTup s.heap t items) (hs:s.heap.IsSliceOf sl vl vu .none) (pl:IsPart vl lo) (pu:IsPart vu hi)
 (hw:¬ (sIx items.size 0 lo=0/\sIx items.size items.size hi=items.size))
 (h:Q (.ref s.heap.objs.size) { s with heap:=s.heap.push { cls:=.type "tuple", data:=.seq ((items.toList.drop (sIx items.size 0 lo)).take (sIx items.size items.size hi-sIx items.size 0 lo)).toArray } })
 (hsz:items.size<=sizeLine):wpAny (model prog w) A (getItem (.ref t) (.ref sl)) Q E s:=by
 have htake:sizeOk (.seq ((items.toList.drop (sIx items.size 0 lo)).take (sIx items.size items.size hi-sIx items.size 0 lo)).toArray):=by
  show ((items.toList.drop (sIx items.size 0 lo)).take (sIx items.size items.size hi-sIx items.size 0 lo)).toArray.size<=sizeLine
  rw [size_toArray,length_take,length_drop,length_toList]
  omega
 have hj:sIx items.size items.size hi<=items.size:=Gf _ _ (le_refl _) hi
 obtain ⟨os,hos,hcs,hds⟩:=id hs
 have hTs:s.TypeIs (.ref sl) "slice" := ⟨os,hos,hcs⟩
 unfold getItem
 try with_reducible refine wpAny_holding ?_
 first | refine wpAny_bind (wpAny_pure ?_) | skip
 refine wpAny_bind (wpAny_sequenceKey ht.typeIs (by decide) ?_)
 refine wpAny_bind (wpAny_callSpecial?_slot (name:=Str.ofString "__getitem__") ht.typeIs PyProof.Rows.slot_tuple_getitem
  (wpAny_call_entry PyProof.Rows.slot_tuple_getitem ht.typeIs entry_tuple_getitem ?_ (args_tuple_getitem _ _)))
 show wpAny _ _ (Builtin.Tuple.tupleItemsOf (.ref t) >>= _) _ _ s
 refine wpAny_bind (tupleItemsOf_ ht ?_)
 refine wpAny_bind (wpAny_typeOf hTs ?_)
 rw [if_pos (by decide)]
 refine wpAny_bind (sliceApplied_gen hs pl pu ?_)
 have hno:¬ ((((sIx items.size 0 lo:Nat):Int)==0&&(1:Int)==1&&(sIx items.size items.size hi-sIx items.size 0 lo)==items.size)=true):=by
  intro q
  rw [and_eq_true,and_eq_true] at q
  have q1:((sIx items.size 0 lo:Nat):Int)=0:=eq_of_beq q.1.1
  have q2:sIx items.size items.size hi-sIx items.size 0 lo=items.size:=eq_of_beq q.2
  exact hw ⟨by omega,by omega⟩
 show wpAny _ _ (if (((sIx items.size 0 lo:Nat):Int)==0&&(1:Int)==1&&(sIx items.size items.size hi-sIx items.size 0 lo)==items.size)=true then _ else _) _ _ s
 rw [if_neg hno,AC]
 first
  | exact wpAny_bind (m:=Builtin.Tuple.tupleExact _) (wpAny_newObj_type (wpAny_pure ⟨_,rfl,wpAny_pure h⟩) htake)
  | exact wpAny_bind (m:=Builtin.Tuple.tupleExact _) (wpAny_newObj_type (wpAny_bind (wpAny_pure (wpAny_pure ⟨_,rfl,wpAny_pure h⟩))) htake)
  | exact wpAny_bind (wpAny_bind (m:=Builtin.Tuple.tupleExact _) (wpAny_newObj_type (wpAny_pure (wpAny_pure ⟨_,rfl,wpAny_pure h⟩)) htake))
  | exact wpAny_bind (wpAny_bind (m:=Builtin.Tuple.tupleExact _) (wpAny_newObj_type (wpAny_pure ⟨_,rfl,wpAny_pure h⟩) htake))
end
end HT
namespace L2
open PySem PySem.Spec PyProof.Rows
open PySem.W (Frag)
noncomputable abbrev TO:=St->Hp->(Option Int->Hp->Prop)->Prop
noncomputable def PO (X:Cx) (e:Option Expr) (t:TO):Prop:=
 ∀ (pins:Δ) (s:Shared) (σ:St) (H:Hp) (Q:Option Int->Hp->Prop),aL X pins σ H s->t σ H Q->
  wpAny (model X.prog X.w) X.A (evalPart e X.env) (λ u s'=>∃ o H',aL X pins σ H' s'/\IsPart u o/\Q o H') X.xe s
noncomputable def xu:TO:=λ _ H Q=>Q none H
noncomputable def FB (t:TE):TO:=λ σ H Q=>t σ H λ x H1=>∃ i,x=.int i/\Q (some i) H1
section
variable {X:Cx} {e:Expr} {te:TE} {lo hi:Option Expr} {tl th:TO} {pos p2:Pos}
def Mo:PO X none xu:=by
 intro pins s σ H Q I h
 rw [evalPart_none]
 exact wpAny_pure ⟨none,H,I,.none,h⟩
def L7 (h:PE X e te):PO X (some e) (FB te):=by
 intro pins s σ H Q I hw
 rw [evalPart_some]
 refine bY (h pins s σ H _ I hw) λ u s1 hq0=>?_
 obtain ⟨x,H1,I1,r1,q1⟩:=hq0
 obtain ⟨i,rfl,q⟩:=q1
 obtain ⟨t,rfl⟩:=r1
 exact ⟨some i,H1,I1,.int i t,q⟩
noncomputable def C8 (X:Cx) (r:V->Option Int->Option Int->Hp->VK->Prop):Prop:=
 ∀ (pins:Δ) (s:Shared) (σ:St) (H:Hp) (x:V) (v vl vu:Value) (lo hi:Option Int) (sl:Addr) (Q:VK),aL X pins σ H s->bc x v->s.heap.IsSliceOf sl vl vu .none->IsPart vl lo->IsPart vu hi->r x lo hi H Q->
  ∃ T id,typeLookup (.type T) "__getitem__" = pure (some (.builtin id))/\s.TypeIs v T/\wpAny (model X.prog X.w) X.A (getItem v (.ref sl)) (EP X pins σ Q) X.xe s
noncomputable def Ml (r:V->Option Int->Option Int->Hp->VK->Prop) (te:TE) (tl th:TO):TE:=λ σ H Q=>te σ H λ x H1=>tl σ H1 λ l H2=>th σ H2 λ u H3=>r x l u H3 Q
def Ju {r:V->Option Int->Option Int->Hp->VK->Prop} (hr:C8 X r) (he:PE X e te) (hl:PO X lo tl) (hu:PO X hi th):PE X (.Subscript e (.Slice lo hi none p2) pos) (Ml r te tl th):=by
 intro pins s σ H Q I h
 refine Subscript_ (bY (he pins s σ H _ I h) λ v s1 hq0=>?_)
 obtain ⟨x,H1,I1,r1,q1⟩:=hq0
 refine wpAny_Slice (bY (hl pins s1 σ H1 _ I1 q1) λ vl s2 hy0=>?_)
 obtain ⟨l,H2,I2,pl,q2⟩:=hy0
 refine bY (hu pins s2 σ H2 _ I2 q2) λ vu s3 hq0=>?_
 obtain ⟨u,H3,I3,pu,q3⟩:=hq0
 rw [evalPart_none]
 refine wpAny_pure ?_
 have I4:aL X pins σ H3 { s3 with heap:=s3.heap.push { cls:=.type "slice", data:=.fields #[vl,vu,.none] } }:=I3.kept (t':=s3.toks) λ b ob q=>get?_push_of_some _ q
 obtain ⟨T,id,hT,ht,hg⟩:=hr pins { s3 with heap:=s3.heap.push { cls:=.type "slice", data:=.fields #[vl,vu,.none] } } σ H3 x v vl vu l u s3.heap.objs.size Q I4 r1 (Heap.IsSliceOf.new ..) pl pu q3
 show wpAny (model X.prog X.w) X.A (subscriptTail e (.Slice lo hi none p2) v (.ref s3.heap.objs.size)) (EP X pins σ Q) X.xe { s3 with heap:=s3.heap.push { cls:=.type "slice", data:=.fields #[vl,vu,.none] } }
 exact tail_any (ops:=[.ref s3.heap.objs.size,v]) ht hT hg (by with_unfolding_all rfl)
noncomputable def oR (xs:List V) (lo hi:Option Int):List V:=(xs.drop (HT.sIx xs.length 0 lo)).take (HT.sIx xs.length xs.length hi-HT.sIx xs.length 0 lo)
def lA (xs:List V) (lo hi:Option Int):(oR xs lo hi).length<=xs.length:=by
 unfold oR
 rw [length_take,length_drop]
 omega
noncomputable def KU (K:Frag):V->Option Int->Option Int->Hp->VK->Prop:=λ x lo hi H Q=>∃ a xs,x=.ref a/\eK K H a xs/\
 ¬ (HT.sIx xs.length 0 lo=0/\HT.sIx xs.length xs.length hi=xs.length)/\∀ p,H p=none->Q (.ref p) (bZ H p (.tup (oR xs lo hi)))
def Im:C8 X (KU X.K):=by
 intro pins s σ H x v vl vu lo hi sl Q I rx hs pl pu h
 obtain ⟨a,xs,rfl,hx,hw,q⟩:=h
 cases rx
 obtain ⟨its,r,ht,hz⟩:=I.tuple hx
 have hlen:its.toArray.size=xs.length:=by rw [size_toArray];exact r.length.symm
 refine ⟨"tuple", _,PyProof.Rows.slot_tuple_getitem.lookup,ht.typeIs,?_⟩
 refine HT.getItem_tuple_cut ht hs pl pu (by rw [hlen];exact hw) ?_ (by rw [hlen];exact hz)
 rw [hlen]
 refine ⟨.ref s.heap.objs.size,_,I.laid (t':=s.toks) (o:=.tup (oR xs lo hi)) (λ b ob q=>get?_push_of_some _ q) (le_refl _) ?_,rfl,q _ (I.hok.fresh (le_refl _))⟩
 exact ⟨le_trans (lA xs lo hi) hz,_,(r.drop (HT.sIx xs.length 0 lo)).take (HT.sIx xs.length xs.length hi-HT.sIx xs.length 0 lo),IsTup.new _ _⟩
noncomputable def ER (K:Frag):R2:=λ x y H Q=>∃ a b xs ys,x=.ref a/\y=.ref b/\eK K H a xs/\eK K H b ys/\xs≠[]/\xs.length+ys.length<=sizeLine/\
 (ys=[]->Q (.ref a) H)/\(ys≠[]->∀ p,H p=none->Q (.ref p) (bZ H p (.tup (xs++ys))))
def bb.nil_iff {xs:List V} {us:Φ} (r:bb xs us):us=[]↔xs=[]:=by
 cases r with
 | nil=>simp
 | cons _ _=>simp
def CJ:fP X (binaryOp .Add) (ER X.K):=by
 intro pins s σ H x y v u Q I rx ry h
 obtain ⟨a,b,xs,ys,rfl,rfl,ha,hb,hx,hz,q1,q2⟩:=h
 cases rx
 cases ry
 obtain ⟨its,r1,p1,_⟩:=I.tuple ha
 obtain ⟨its2,r2,p2,_⟩:=I.tuple hb
 refine HT.cat_tup p1 p2 (λ z=>hx (r1.nil_iff.mp z)) (λ z=>⟨.ref a,H,I,rfl,q1 (r2.nil_iff.mp z)⟩) (λ z=>?_) (by rw [<-r1.length,<-r2.length];exact hz)
 refine ⟨.ref s.heap.objs.size,_,I.laid (t':=s.toks) (o:=.tup (xs++ys)) (λ b ob q=>get?_push_of_some _ q) (le_refl _) ?_,rfl,q2 (λ w=>z (r2.nil_iff.mpr w)) _ (I.hok.fresh (le_refl _))⟩
 exact ⟨by rw [length_append];exact hz,_,r1.append r2,IsTup.new _ _⟩
end
noncomputable def ug (n:Nat) (i:Int):Option Nat:=if 0<=i then (if i<n then some i.toNat else none) else if -(n:Int)<=i then some (i+n).toNat else none
noncomputable def fu {α:Type} (xs:List α) (i:Int):Option α:=(ug xs.length i).bind λ j=>xs[j]?
def w9 {n:Nat} {i:Int} {j:Nat} (h:ug n i=some j):seqIndex? i n=some j/\j<n /\ -(n:Int)<=i/\i<n:=by
 unfold ug at h
 by_cases h0:0<=i
 . rw [if_pos h0] at h
   by_cases h1:i<n
   . rw [if_pos h1] at h
     have e:i.toNat=j:=Option.some.inj h
     exact ⟨by rw [seqIndex_of h0 h1,e],by omega,by omega,h1⟩
   . rw [if_neg h1] at h;cases h
 . rw [if_neg h0] at h
   by_cases h1 : -(n:Int)<=i
   . rw [if_pos h1] at h
     have e:(i+n).toNat=j:=Option.some.inj h
     exact ⟨by rw [seqIndex_neg (by omega) h1,e],by omega,h1,by omega⟩
   . rw [if_neg h1] at h;cases h
def mD {α:Type} {xs:List α} {i:Int} {v:α} (h:fu xs i=some v):∃ j,seqIndex? i xs.length=some j/\xs[j]?=some v/\j<xs.length /\ -(xs.length:Int)<=i/\i<xs.length:=by
 unfold fu at h
 cases e:ug xs.length i with
 | none=>rw [e] at h;cases h
 | some j=>
  rw [e] at h
  obtain ⟨h1,h2,h3,h4⟩:=w9 e
  exact ⟨j,h1,h,h2,h3,h4⟩
noncomputable def Ee (b:Expr):Prop:=∀ o i,subscripted b false o i=operate [o,i] (getItem o i)
noncomputable def zQ (X:Cx) (r:R2):Prop:=
 ∀ (value slice:Expr) (pins:Δ) (s:Shared) (σ:St) (H:Hp) (x y:V) (v u:Value) (Q:VK),aL X pins σ H s->bc x v->bc y u->r x y H Q->
  subscripted slice false v u=operate [v,u] (getItem v u)->wpAny (model X.prog X.w) X.A (subscriptTail value slice v u) (EP X pins σ Q) X.xe s
noncomputable def Jk (X:Cx) (id:String) (r:V->List V->Hp->VK->Prop):Prop:=
 ∀ (pins:Δ) (s:Shared) (σ:St) (H:Hp) (x:V) (xs:List V) (v:Value) (us:Φ) (Q:VK),aL X pins σ H s->bc x v->bb xs us->r x xs H Q->
  wpAny (model X.prog X.w) X.A (call (.builtin id) (v::us)) (EP X pins σ Q) X.xe s
section
variable {X:Cx} {a b:Expr} {ta tb:TE} {pos:Pos}
def zQ.or {r r':R2} (h:zQ X r) (h':zQ X r'):zQ X (λ x y H Q=>r x y H Q∨r' x y H Q):=by
 intro value slice pins s σ H x y v u Q I rx ry q hs
 rcases q with q | q
 . exact h value slice pins s σ H x y v u Q I rx ry q hs
 . exact h' value slice pins s σ H x y v u Q I rx ry q hs
def Oi {r:R2} (hr:zQ X r) (ha:PE X a ta) (hb:PE X b tb) (hs:Ee b):PE X (.Subscript a b pos) (tT r ta tb):=by
 intro pins s σ H Q I h
 exact Subscript_ (Iy ha hb I h λ v u s2 x y H2 I2 rx ry q=>hr a b pins s2 σ H2 x y v u Q I2 rx ry q (hs _ _))
noncomputable def JA (K:Frag):R2:=λ x y H Q=>∃ p xs i v,x=.ref p/\y=.int i/\cD K H p xs/\fu xs i=some v/\Q v H
noncomputable def KR (K:Frag):R2:=λ x y H Q=>∃ p xs i v,x=.ref p/\y=.int i/\eK K H p xs/\fu xs i=some v/\Q v H
noncomputable def Kg:R2:=λ x y H Q=>∃ z i c,x=.str z/\y=.int i/\z.length<=sizeLine/\fu z.cps.toList i=some c/\Q (.str ⟨#[c]⟩) H
def C2:zQ X (JA X.K):=by
 intro value slice pins s σ H x y v u Q I rx ry h hs
 obtain ⟨p,xs,i,z,rfl,rfl,hq,he,q⟩:=h
 cases rx
 obtain ⟨t,rfl⟩:=ry
 obtain ⟨its,r,pl,hz⟩:=I.list hq
 obtain ⟨j,h1,h2,h3,h4,h5⟩:=mD he
 obtain ⟨w,ew,rw'⟩:=r.get h2
 have hl:=r.length
 have hn:=j1
 have fin:EP X pins σ Q w s:=⟨z,H,I,rw',q⟩
 by_cases h0:0<=i
 . have hj:i.toNat=j:=by
    rw [seqIndex_of h0 h5] at h1
    exact Option.some.inj h1
   exact item_listR pl.isList h0 (by omega) (by rw [hj];simpa using ew) fin hs
 . have hj:(i+(its.toArray.size:Int)).toNat=j:=by
    rw [seqIndex_neg (by omega) h4] at h1
    rw [size_toArray,<-hl]
    exact Option.some.inj h1
   exact subscriptTail_builtinR (x:=w) pl.isList.typeIs slot_list_getitem.lookup
    (wpAny_getItem_list_neg (Q:=λ r s'=>r=w/\EP X pins σ Q r s') pl.isList (by omega) (by rw [size_toArray] <;> omega) (by omega) (by rw [hj];simpa using ew) ⟨rfl,fin⟩) hs
def IN:zQ X (KR X.K):=by
 intro value slice pins s σ H x y v u Q I rx ry h hs
 obtain ⟨p,xs,i,z,rfl,rfl,hq,he,q⟩:=h
 cases rx
 obtain ⟨t,rfl⟩:=ry
 obtain ⟨its,r,pl,hz⟩:=I.tuple hq
 obtain ⟨j,h1,h2,h3,h4,h5⟩:=mD he
 obtain ⟨w,ew,rw'⟩:=r.get h2
 have hl:=r.length
 have hn:=j1
 have fin:EP X pins σ Q w s:=⟨z,H,I,rw',q⟩
 exact subscriptTail_builtinR (x:=w) pl.typeIs slot_tuple_getitem.lookup
  (getItem_tuple (j:=j) (Q:=λ r s'=>r=w/\EP X pins σ Q r s') pl (by omega) (by omega) (by rw [size_toArray,<-hl];exact h1) (by simpa using ew) ⟨rfl,fin⟩) hs
def HK:zQ X Kg:=by
 intro value slice pins s σ H x y v u Q I rx ry h hs
 obtain ⟨z,i,c,rfl,rfl,hz,he,q⟩:=h
 obtain ⟨t,rfl⟩:=rx
 obtain ⟨t',rfl⟩:=ry
 obtain ⟨j,h1,h2,h3,h4,h5⟩:=mD he
 have hl:z.cps.toList.length=z.length:=by simp [Str.length]
 rw [hl] at h1 h4 h5
 have hn:=j1
 exact tail_any (typeIs_str s z t) slot_str_getitem.lookup (getItem_str (c:=c) (by
  have e1:decide (i < -(2^63:Int))=false:=decide_eq_false (by omega)
  have e2:decide (i ≥ 2^63)=false:=decide_eq_false (by omega)
  rw [e1,e2,Bool.or_false]) (by rw [h1];simpa using h2) ⟨.str ⟨#[c]⟩,H,I.tok _,⟨_,rfl⟩,q⟩) hs
noncomputable def LD (K:Frag):R2:=λ x y H Q=>JA K x y H Q∨KR K x y H Q∨Kg x y H Q
def Gk:zQ X (LD X.K):=C2.or (IN.or HK)
def vC (its:Φ) (n j:Nat) (u:Value):Obj.mapSeq (·.setIfInBounds j u) { cls:=.type "list", data:=.seq its.toArray n }={ cls:=.type "list", data:=.seq (its.set j u).toArray n }:=by
 simp [Obj.mapSeq]
def aL.lst {pins:Δ} {σ:St} {H:Hp} {s:Shared} {p:Addr} {xs:List V} (I:aL X pins σ H s) (h:H p=some (.lst xs)):
 ∃ (its:Φ) (n:Nat),bb xs its/\s.heap.get? p=some { cls:=.type "list", data:=.seq its.toArray n }/\xs.length<=sizeLine:=by
 obtain ⟨z,its,n,r,e⟩:=I.hok p _ h
 exact ⟨its,n,r,e,z⟩
def aL.lstUpd {pins:Δ} {σ:St} {H:Hp} {s:Shared} {p:Addr} {xs ys:List V} {its its':Φ} {n n':Nat} {f:Obj->Obj} (I:aL X pins σ H s) (h:H p=some (.lst xs))
 (ho:s.heap.get? p=some { cls:=.type "list", data:=.seq its.toArray n }) (hf:f { cls:=.type "list", data:=.seq its.toArray n }={ cls:=.type "list", data:=.seq its'.toArray n' }) (r:bb ys its') (hz:ys.length<=sizeLine) (t:Nat):
 aL X pins σ (bZ H p (.lst ys)) { s with heap:=s.heap.update p f,toks:=t }:=by
 have e:(s.heap.update p f).get? p=some { cls:=.type "list", data:=.seq its'.toArray n' }:=by
  rw [Heap.get?_update_self f ho (by rw [hf] <;> rfl),hf]
 refine I.write (x:=p) (e:=p) (by rw [h];trivial) (.inl rfl) (λ b u hb q=>(Heap.get?_update_other _ _ (Ne.symm hb)).trans q) ⟨_,e⟩ ?_
 exact ⟨hz,its',n',r,e⟩
noncomputable def wx:V->V->V->Hp->(Hp->Prop)->Prop:=λ o i v H Q=>∃ p xs k j,o=.ref p/\i=.int k/\H p=some (.lst xs)/\ug xs.length k=some j/\Q (bZ H p (.lst (xs.set j v)))
def Bt:JT X wx:=by
 intro pins s σ H o i v ov iv u Q I ro ri rv h
 obtain ⟨p,xs,k,j,rfl,rfl,hp,hj,q⟩:=h
 cases ro
 obtain ⟨t,rfl⟩:=ri
 obtain ⟨its,n,r,ho,hz⟩:=I.lst hp
 obtain ⟨h1,h2,h3,h4⟩:=w9 hj
 have hl:=r.length
 have hn:=j1
 have I':aL X pins σ (bZ H p (.lst (xs.set j v))) { s with heap:=s.heap.update p (Obj.mapSeq (·.setIfInBounds j u)) }:=
  I.lstUpd hp ho (vC its n j u) (r.set rv j) (by rw [length_set];exact hz) s.toks
 by_cases h0:0<=k
 . have hk:k.toNat=j:=by
    rw [seqIndex_of h0 h4] at h1
    exact Option.some.inj h1
   exact PySem.W.ki_setAt ho h0 (by omega) (by rw [size_toArray,<-hl];exact h4) (by rw [hk];exact ⟨_,I',q⟩)
 . have hk:(k+(its.toArray.size:Int)).toNat=j:=by
    rw [seqIndex_neg (by omega) h3] at h1
    rw [size_toArray,<-hl]
    exact Option.some.inj h1
   exact PySem.W.ki_setBack ho (by omega) (by rw [size_toArray,<-hl];exact h3) (by omega) (by rw [hk];exact ⟨_,I',q⟩)
def qp (lo hi:Option Int) (n:Nat):(sliceBounds lo hi none n).1=((HT.sIx n 0 lo:Nat):Int)/\(sliceBounds lo hi none n).2.1=((HT.sIx n n hi:Nat):Int)/\(sliceBounds lo hi none n).2.2=1:=by
 refine ⟨?_,?_,rfl⟩
 . cases lo with
   | none=>simp [sliceBounds,HT.sIx]
   | some i=>
    simp only [sliceBounds,HT.sIx,getD_none,show (1:Int)>0 by decide,if_true]
    by_cases h:i<0
    . simp only [h,if_true] <;> omega
    . simp only [h,if_false] <;> omega
 . cases hi with
   | none=>simp [sliceBounds,HT.sIx]
   | some i=>
    simp only [sliceBounds,HT.sIx,getD_none,show (1:Int)>0 by decide,if_true]
    by_cases h:i<0
    . simp only [h,if_true] <;> omega
    . simp only [h,if_false] <;> omega
def oY (its:Φ) (lo hi:Option Int):slicePick its.toArray lo hi none=((its.drop (HT.sIx its.length 0 lo)).take (HT.sIx its.length its.length hi-HT.sIx its.length 0 lo)).toArray:=by
 obtain ⟨h1,h2,h3⟩:=qp lo hi its.toArray.size
 unfold slicePick
 rw [h1,h2,h3]
 simp only [sliceRange_one,pick_run,size_toArray] <;> rfl
noncomputable def J8 (K:Frag):V->Option Int->Option Int->Hp->VK->Prop:=λ x lo hi H Q=>∃ a xs,x=.ref a/\cD K H a xs/\∀ p,H p=none->Q (.ref p) (bZ H p (.lst (oR xs lo hi)))
def CW:C8 X (J8 X.K):=by
 intro pins s σ H x v vl vu lo hi sl Q I rx hs pl pu h
 obtain ⟨a,xs,rfl,hx,q⟩:=h
 cases rx
 obtain ⟨its,r,ht,hz⟩:=I.list hx
 have hlen:=r.length
 refine ⟨"list", _,slot_list_getitem.lookup,ht.isList.typeIs,?_⟩
 refine wpAny_getItem_list_slice ht.isList hs pl pu .none (by simp) ?_ (by rw [size_toArray] <;> omega)
 rw [oY,<-hlen]
 refine ⟨.ref s.heap.objs.size,_,I.laid (t':=s.toks) (o:=.lst (oR xs lo hi)) (λ b ob q=>get?_push_of_some _ q) (le_refl _) ?_,rfl,q _ (I.hok.fresh (le_refl _))⟩
 exact ⟨le_trans (lA xs lo hi) hz,_,0,(r.drop (HT.sIx xs.length 0 lo)).take (HT.sIx xs.length xs.length hi-HT.sIx xs.length 0 lo),get?_push_size _ rfl⟩
noncomputable def fH:V->Bool
 | .non=>true
 | .bl _=>true
 | .int _=>true
 | .str _=>true
 | _=>false
noncomputable def C3:V->V->Bool
 | .non,.non=>true
 | .bl a,.bl b=>a==b
 | .bl a,.int b=>(if a then 1 else 0)==b
 | .int a,.bl b=>a==(if b then 1 else 0)
 | .int a,.int b=>a==b
 | .str a,.str b=>a==b
 | _,_=>false
def HJ {A:Around} {s:Shared} {y x:V} {u v:Value} (ry:bc y u) (rx:bc x v) (fy:fH y=true) (fx:fH x=true):SeqAt.EqAt A s u v (C3 y x):=by
 cases y with
 | non=>
  cases ry
  cases x with
  | non=>cases rx;exact SeqAt.EqAt.same _
  | bl b=>cases rx;exact SeqAt.EqAt.none_bool b
  | int b=>obtain ⟨t,rfl⟩:=rx;exact SeqAt.EqAt.none_int b t
  | str b=>obtain ⟨t,rfl⟩:=rx;exact SeqAt.EqAt.none_str b t
  | _=>exact absurd (show false=true from fx) Bool.false_ne_true
 | bl a=>
  cases ry
  cases x with
  | non=>cases rx;exact SeqAt.EqAt.bool_none a
  | bl b=>cases rx;exact SeqAt.EqAt.bool_bool a b
  | int b=>obtain ⟨t,rfl⟩:=rx;exact SeqAt.EqAt.bool_int a b t
  | str b=>obtain ⟨t,rfl⟩:=rx;exact SeqAt.EqAt.bool_str a b t
  | _=>exact absurd (show false=true from fx) Bool.false_ne_true
 | int a=>
  obtain ⟨t',rfl⟩:=ry
  cases x with
  | non=>cases rx;exact SeqAt.EqAt.int_none a t'
  | bl b=>cases rx;exact SeqAt.EqAt.int_bool a t' b
  | int b=>obtain ⟨t,rfl⟩:=rx;exact SeqAt.EqAt.int_int a t' b t
  | str b=>obtain ⟨t,rfl⟩:=rx;exact SeqAt.EqAt.int_str a t' b t
  | _=>exact absurd (show false=true from fx) Bool.false_ne_true
 | str a=>
  obtain ⟨t',rfl⟩:=ry
  cases x with
  | non=>cases rx;exact SeqAt.EqAt.str_none a t'
  | bl b=>cases rx;exact SeqAt.EqAt.str_bool a t' b
  | int b=>obtain ⟨t,rfl⟩:=rx;exact SeqAt.EqAt.str_int a t' b t
  | str b=>obtain ⟨t,rfl⟩:=rx;exact SeqAt.EqAt.str_str a t' b t
  | _=>exact absurd (show false=true from fx) Bool.false_ne_true
 | _=>exact absurd (show false=true from fy) Bool.false_ne_true
noncomputable def vD (x:V) (u:Value):Bool:=match u with
 | .none=>C3 .non x
 | .bool b=>C3 (.bl b) x
 | .int i _=>C3 (.int i) x
 | .str z _=>C3 (.str z) x
 | _=>false
def zC {x y:V} {u:Value} (r:bc y u) (f:fH y=true):vD x u=C3 y x:=by
 cases y with
 | non=>cases r;rfl
 | bl b=>cases r;rfl
 | int i=>obtain ⟨t,rfl⟩:=r;rfl
 | str z=>obtain ⟨t,rfl⟩:=r;rfl
 | _=>exact absurd (show false=true from f) Bool.false_ne_true
def mC {x:V} {xs:List V} {us:Φ} (h:bb xs us):xs.all fH=true->us.any (vD x)=xs.any λ y=>C3 y x:=by
 induction h with
 | nil=>exact λ _=>rfl
 | cons r _ ih=>
  intro f
  rw [all_cons,and_eq_true] at f
  rw [any_cons,any_cons,zC r f.1,ih f.2]
def jT {A:Around} {s:Shared} {x:V} {v:Value} (rx:bc x v) (fx:fH x=true):∀ {xs:List V} {us:Φ},bb xs us->xs.all fH=true->∀ u∈us,SeqAt.EqAt A s u v (vD x u):=λ h f u' hu=>by
 induction h with
 | nil=>cases hu
 | cons r _ ih=>
  rw [all_cons,and_eq_true] at f
  rcases mem_cons.mp hu with rfl | hu
  . rw [zC r f.1];exact HJ r rx f.1 fx
  . exact ih f.2 hu
noncomputable def Hb (x:V) (xs:List V):Bool:=xs.any λ y=>C3 y x
noncomputable def Fi (K:Frag) (neg:Bool):R2:=λ x y H Q=>∃ p xs,y=.ref p/\(cD K H p xs∨eK K H p xs)/\fH x=true/\xs.all fH=true/\Q (.bl (if neg then !Hb x xs else Hb x xs)) H
def pF:fP X (compareOp .In) (Fi X.K false):=by
 intro pins s σ H x y v u Q I rx ry h
 obtain ⟨p,xs,rfl,hq,fx,fs,q⟩:=h
 cases ry
 rcases hq with hq | hq
 . obtain ⟨its,r,pl,hz⟩:=I.list hq
   refine SeqAt.in_listAt (vD x) pl.isList (λ w hw=>jT rx fx r fs w (by simpa using hw)) ⟨.bl _,H,I,rfl,?_⟩
   rw [show its.toArray.any (vD x)=its.any (vD x) by simp,mC r fs]
   exact q
 . obtain ⟨its,r,pl,hz⟩:=I.tuple hq
   refine SeqAt.in_tupleAt (vD x) pl (λ w hw=>jT rx fx r fs w (by simpa using hw)) ⟨.bl _,H,I,rfl,?_⟩
   rw [show its.toArray.any (vD x)=its.any (vD x) by simp,mC r fs]
   exact q
def qA:fP X (compareOp .NotIn) (Fi X.K true):=by
 intro pins s σ H x y v u Q I rx ry h
 obtain ⟨p,xs,rfl,hq,fx,fs,q⟩:=h
 cases ry
 rcases hq with hq | hq
 . obtain ⟨its,r,pl,hz⟩:=I.list hq
   refine SeqAt.notIn_listAt (vD x) pl.isList (λ w hw=>jT rx fx r fs w (by simpa using hw)) ⟨.bl _,H,I,rfl,?_⟩
   rw [show its.toArray.any (vD x)=its.any (vD x) by simp,mC r fs]
   exact q
 . obtain ⟨its,r,pl,hz⟩:=I.tuple hq
   refine SeqAt.notIn_tupleAt (vD x) pl (λ w hw=>jT rx fx r fs w (by simpa using hw)) ⟨.bl _,H,I,rfl,?_⟩
   rw [show its.toArray.any (vD x)=its.any (vD x) by simp,mC r fs]
   exact q
def rM:dI X (.builtin "len") (λ xs H Q=>∃ p ys,xs=[.ref p]/\(cD X.K H p ys∨eK X.K H p ys)/\Q (.int ys.length) H):=by
 intro pins s σ H xs us Q I r h
 obtain ⟨p,ys,rfl,hq,q⟩:=h
 obtain ⟨u,rfl,rx⟩:=pD r
 cases rx
 have hn:=j1
 rcases hq with hq | hq
 . obtain ⟨its,r',pl,hz⟩:=I.list hq
   have hlen:=r'.length
   exact Calls.call_len_list pl.isList (by simp only [size_toArray] <;> omega) ⟨.int ys.length,H,I.tok _,⟨s.toks+1,by rw [size_toArray,hlen]⟩,q⟩
 . obtain ⟨its,r',pl,hz⟩:=I.tuple hq
   have hlen:=r'.length
   exact len_tuple pl (by simp only [size_toArray] <;> omega) ⟨.int ys.length,H,I.tok _,⟨s.toks+1,by rw [size_toArray,hlen]⟩,q⟩
def rJ:dI X (.builtin "len") (λ xs H Q=>∃ z,xs=[.str z]/\z.length<=sizeLine/\Q (.int z.length) H):=by
 intro pins s σ H xs us Q I r h
 obtain ⟨z,rfl,hz,q⟩:=h
 obtain ⟨u,rfl,t,rfl⟩:=pD r
 have hn:=j1
 exact len_str (by omega) ⟨.int z.length,H,I.tok _,⟨_,rfl⟩,q⟩
def dI.or {f:Value} {r r':List V->Hp->VK->Prop} (h:dI X f r) (h':dI X f r'):dI X f (λ xs H Q=>r xs H Q∨r' xs H Q):=by
 intro pins s σ H xs us Q I rs q
 rcases q with q | q
 . exact h pins s σ H xs us Q I rs q
 . exact h' pins s σ H xs us Q I rs q
def qH:dI X (.type "list") (λ xs H Q=>∃ p ys,xs=[.ref p]/\(cD X.K H p ys∨eK X.K H p ys)/\∀ l,H l=none->Q (.ref l) (bZ H l (.lst ys))):=by
 intro pins s σ H xs us Q I r h
 obtain ⟨p,ys,rfl,hq,q⟩:=h
 obtain ⟨u,rfl,rx⟩:=pD r
 cases rx
 have fin:∀ (its:Φ),bb ys its->ys.length<=sizeLine->∀ (h':Heap) (c':Nat),(∀ b o',s.heap.get? b=some o'->h'.get? b=some o')->
  h'.get? s.heap.objs.size=some { cls:=.type "list", dict:=none,data:=.seq its.toArray c',slots:=#[] }->EP X pins σ Q (.ref s.heap.objs.size) { s with heap:=h' }:=λ its r' hz h' c' kp e=>
  ⟨.ref s.heap.objs.size,_,I.laid (t':=s.toks) kp (le_refl _) (show cH X.prog X.w _ h' _ (.lst ys) from ⟨hz,its,c',r',e⟩),rfl,q _ (I.hok.fresh (le_refl _))⟩
 rcases hq with hq | hq
 . obtain ⟨its,r',pl,hz⟩:=I.list hq
   have hlen:=r'.length
   obtain ⟨o,ho,hc,n,hd⟩:=pl.isList
   exact call_list_seq p (.inl rfl) ho hc hd (λ h' c' kp e=>fin its r' hz h' c' kp e) (by simp only [size_toArray] <;> omega)
 . obtain ⟨its,r',pl,hz⟩:=I.tuple hq
   have hlen:=r'.length
   obtain ⟨o,ho,hc,n,hd⟩:=pl
   exact call_list_seq p (.inr rfl) ho hc hd (λ h' c' kp e=>fin its r' hz h' c' kp e) (by simp only [size_toArray] <;> omega)
noncomputable def MP (K:Frag) (T:String) (x:V) (H:Hp):Prop:=match x with
 | .str _=>T = "str"
 | .int _=>T = "int"
 | .ref p=>(T = "list" /\ ∃ xs,cD K H p xs)∨(T = "tuple" /\ ∃ o,K.lookup p=some o/\o.cls=.type "tuple" /\ o.dict=none)∨
  (T = "dict" /\ ((∃ kvs,H p=some (.dK kvs))∨∃ kvs,H p=some (.dT kvs)))∨(T = "set" /\ ∃ S n,H p=some (.set S n))
 | _=>False
def Bv {pins:Δ} {σ:St} {H:Hp} {s:Shared} {T:String} {x:V} {v:Value} (I:aL X pins σ H s) (r:bc x v) (ty:MP X.K T x H):
 s.TypeIs v T/\∀ a,v=.ref a->∃ ob,s.heap.get? a=some ob/\ob.dict=none:=by
 cases x with
 | str z=>
  obtain ⟨t,rfl⟩:=r
  cases (show T = "str" from ty)
  exact ⟨typeIs_str s z t,λ _ e=>nomatch e⟩
 | int i=>
  obtain ⟨t,rfl⟩:=r
  cases (show T = "int" from ty)
  exact ⟨typeIs_int s i t,λ _ e=>nomatch e⟩
 | ref p=>
  cases r
  rcases ty with ⟨rfl,xs,hq⟩ | ⟨rfl,o,hk,hc,hd⟩ | ⟨rfl,hk⟩ | ⟨rfl,S,n,hk⟩
  . obtain ⟨its,_,pl,_⟩:=I.list hq
    refine ⟨pl.isList.typeIs,λ a e=>?_⟩
    cases e
    obtain ⟨o,n,e,c,hd,_⟩:=pl
    exact ⟨o,e,hd⟩
  . refine ⟨⟨o,I.kIn p o hk,hc⟩,λ a e=>?_⟩
    cases e
    exact ⟨o,I.kIn _ o hk,hd⟩
  . have z:∃ o,s.heap.get? p=some o/\o.ExactDict:=by
     rcases hk with ⟨kvs,hk⟩ | ⟨kvs,hk⟩
     . obtain ⟨_,_,_,_,o,_,_,e,ex,_⟩:=I.hok p _ hk
       exact ⟨o,e,ex⟩
     . obtain ⟨_,_,_,_,o,_,_,e,ex,_⟩:=I.hok p _ hk
       exact ⟨o,e,ex⟩
    obtain ⟨o,e,ex⟩:=z
    refine ⟨⟨o,e,ex.1⟩,λ a e2=>?_⟩
    cases e2
    exact ⟨o,e,ex.2.1⟩
  . obtain ⟨o,_,_,_,e,ex,_⟩:=I.hok p _ hk
    refine ⟨⟨o,e,ex.1⟩,λ a e2=>?_⟩
    cases e2
    exact ⟨o,e,ex.2.1⟩
 | _=>exact False.elim ty
noncomputable def De (K:Frag) (T:String) (r:V->List V->Hp->VK->Prop) (to:TE):TE:=λ σ H Q=>to σ H λ x H1=>MP K T x H1/\r x [] H1 Q
noncomputable def IU (K:Frag) (T:String) (r:V->List V->Hp->VK->Prop) (to:TE) (t:TA):TE:=λ σ H Q=>to σ H λ x H1=>MP K T x H1/\t σ H1 λ xs H2=>r x xs H2 Q
variable {o e:Expr} {es:List Expr} {to:TE} {t:TA} {name:Str} {apos cpos:Pos} {T id:String} {r:V->List V->Hp->VK->Prop}
def FD (pa:PlainAttrs T) (slot:Slot T name id) (hty:typeOf (.builtin id)=pure (.type "method_descriptor")) (hm:Jk X id r) (ho:PE X o to)
 (hbase:attributeBase o name X.env (eval o X.env)=eval o X.env:=by rfl) (hline:(apos.endLine==cpos.line)=true:=by rfl):PE X (.Call (.Attribute o name apos) [] [] cpos) (De X.K T r to):=by
 intro pins s σ H Q I h
 refine wpAny_Call_method0_late hbase hline (bY (ho pins s σ H _ I h) λ v s1 hq0=>?_)
 obtain ⟨x,H1,I1,r1,ty,q1⟩:=hq0
 obtain ⟨h1,h2⟩:=Bv I1 r1 ty
 exact ⟨T,id,pa,slot,hty,h1,h2,Calls.callWith_builtin rfl (PySem.evalArgs_none (hm pins s1 σ H1 x [] v [] Q I1 r1 .nil q1))⟩
def JU (pa:PlainAttrs T) (slot:Slot T name id) (hty:typeOf (.builtin id)=pure (.type "method_descriptor")) (hm:Jk X id r) (ho:PE X o to) (ha:PA X (e::es) t)
 (hbase:attributeBase o name X.env (eval o X.env)=eval o X.env:=by rfl)
 (hfew:((backTo cpos (starEach (e::es) X.env)).all (λ x=>!x.1)&&(backToKw cpos (keywordEach [] X.env)).all (λ x=>x.1.isSome)
  && decide ((e::es).length+([]:List Keyword).length+(if ([]:List Keyword).isEmpty then 0 else 1)<30))=true:=by rfl)
 (hline:(apos.endLine==cpos.line)=true:=by rfl) (hs:starEach (e::es) X.env=(false,eval e X.env)::starEach es X.env:=by rfl) (hplain:(backTo cpos (starEach es X.env)).any (·.1)=false:=by rfl):
 PE X (.Call (.Attribute o name apos) (e::es) [] cpos) (IU X.K T r to t):=by
 intro pins s σ H Q I h
 refine wpAny_Call_method_late hbase hfew hline rfl (bY (ho pins s σ H _ I h) λ v s1 hq0=>?_)
 obtain ⟨x,H1,I1,r1,ty,q1⟩:=hq0
 obtain ⟨h1,h2⟩:=Bv I1 r1 ty
 refine ⟨T,id,pa,slot,hty,h1,h2,?_⟩
 have hA:=ha cpos pins s1 σ H1 _ I1 q1
 rw [hs] at hA ⊢
 refine Calls.callWith_builtin (by show (false||(backTo cpos (starEach es X.env)).any (·.1))=false;rw [hplain] <;> rfl) (Calls.evalArgs_plain ?_)
 exact bY hA λ us s2 hy0=>by obtain ⟨vs,H2,I2,r2,q2⟩:=hy0;exact hm pins s2 σ H2 x vs v us Q I2 r1 r2 q2
end
noncomputable def MA (X:Cx) (id:String) (r:V->List V->Hp->VK->Prop):Prop:=
 ∀ (pins:Δ) (s:Shared) (σ:St) (H:Hp) (x:V) (xs:List V) (v:Value) (us:Φ) (Q:VK),aL X pins σ H s->bc x v->bb xs us->r x xs H Q->
  wpAny (model X.prog X.w) X.A (call (.builtin id) (v::us)) (EP X pins σ Q) X.xe s
def bb.one {x:V} {us:Φ} (h:bb [x] us):∃ u,us=[u]/\bc x u:=by
 cases h with
 | cons r t=>cases t;exact ⟨_,rfl,r⟩
def bb.zero:∀ {us:Φ},bb [] us->us=[]
 | _,.nil=>rfl
def bb.dropLast {xs:List V} {us:Φ} (h:bb xs us):bb xs.dropLast us.dropLast:=by
 induction h with
 | nil=>exact .nil
 | cons r t ih=>
  cases t with
  | nil=>exact .nil
  | cons q t'=>exact .cons r ih
def bb.rep {xs:List V} {us:Φ} (h:bb xs us):∀ k:Nat,bb (List.replicate k xs).flatten (List.replicate k us).flatten
 | 0=>.nil
 | k+1=>by
  rw [replicate_succ,replicate_succ,flatten_cons,flatten_cons]
  exact bb.append h (bb.rep h k)
def uN {α:Type} (l:List α):l.eraseIdx (l.length-1)=l.dropLast:=by
 induction l with
 | nil=>rfl
 | cons a r ih=>
  cases r with
  | nil=>rfl
  | cons b r=>
   have e:(a::b::r).length-1=((b::r).length-1)+1:=by
    have h1:(a::b::r).length=r.length+2:=rfl
    have h2:(b::r).length=r.length+1:=rfl
    omega
   rw [e,List.eraseIdx_cons_succ,ih]
   all_goals rfl
def pH (its:Φ):∀ (k:Nat) (acc:Φ),
 List.foldl (λ x1 x2=>x1++x2) acc.toArray (List.replicate k its.toArray)=(acc++(List.replicate k its).flatten).toArray
 | 0,acc=>by simp
 | k+1,acc=>by
  have e:acc.toArray++its.toArray=(acc++its).toArray:=by simp
  have e2:(acc++its)++(List.replicate k its).flatten=acc++(List.replicate (k+1) its).flatten:=by
   rw [replicate_succ,flatten_cons,append_assoc]
  rw [<-e2,<-pH its k (acc++its),<-e,replicate_succ,foldl_cons]
section
variable {X:Cx} {pins:Δ} {σ:St} {H:Hp} {s:Shared} {l b:Addr} {xs ys zs:List V}
def aL.lset {its its':Φ} {n:Nat} {f:Array Value->Array Value} {t':Nat} (I:aL X pins σ H s) (hH:H l=some (.lst xs))
 (e:s.heap.get? l=some { cls:=.type "list", data:=.seq its.toArray n }) (hf:f its.toArray=its'.toArray) (hv:bb ys its') (hz:ys.length<=sizeLine):
 aL X pins σ (bZ H l (.lst ys)) { s with heap:=s.heap.update l (Obj.mapSeq f),toks:=t' }:=by
 have q:=PySem.IsL.update e f
 rw [hf] at q
 refine I.write (x:=l) (e:=l) (by rw [hH];exact trivial) (.inl rfl) (λ b' u hb hu=>(Heap.get?_update_other s.heap (Obj.mapSeq f) (Ne.symm hb)).trans hu) ⟨_,q⟩ ?_
 exact ⟨hz,its',_,hv,q⟩
def aL.lnew {its:Φ} {t':Nat} (I:aL X pins σ H s) (hv:bb ys its) (hz:ys.length<=sizeLine):
 aL X pins σ (bZ H s.heap.objs.size (.lst ys)) { s with heap:=s.heap.push { cls:=.type "list", data:=.seq its.toArray },toks:=t' }:=
 I.laid (λ _ _ q=>get?_push_of_some _ q) (le_refl _) ⟨hz,its,0,hv,get?_push_size _ rfl⟩
def aL.fresh (I:aL X pins σ H s):H s.heap.objs.size=none:=I.hok.fresh (le_refl _)
def aL.lstM (I:aL X pins σ H s) (hH:H l=some (.lst xs)):xs.length<=sizeLine/\∃ (its:Φ) (n:Nat),bb xs its/\xs.length=its.length/\s.heap.get? l=some { cls:=.type "list", data:=.seq its.toArray n }:=by
 obtain ⟨z,its,n,r,e⟩:=I.hok l _ hH
 exact ⟨z,its,n,r,r.length,e⟩
def tJ {n:Nat} (h:n<=sizeLine):Builtin.List.listTooLong n=false:=by
 unfold Builtin.List.listTooLong
 exact decide_eq_false (by omega)
end
section
variable {X:Cx}
noncomputable def mq:V->List V->Hp->VK->Prop:=λ x vs H Q=>∃ l xs y,x=.ref l/\vs=[y]/\H l=some (.lst xs)/\xs.length<sizeLine/\Q .non (bZ H l (.lst (xs++[y])))
def y4:MA X "list.append" mq:=by
 intro pins s σ H x vs v us Q I rx rv h
 obtain ⟨l,xs,y,rfl,rfl,hH,hz,q⟩:=h
 cases rx
 obtain ⟨u,rfl,ru⟩:=rv.one
 obtain ⟨z,its,n,r,hl,e⟩:=I.lstM hH
 refine call_meets F.slot_list_append ⟨_,e,rfl⟩ F.entry_list_append (F.args_list_append_2 _ _) (PySem.list_append l its.toArray n u (by rw [size_toArray];omega)) ⟨e,?_⟩
 refine ⟨.non,_,I.lset (its':=its++[u]) hH e (by simp) (r.append (.cons ru .nil)) ?_,rfl,q⟩
 rw [length_append,length_singleton]
 omega
noncomputable def Hr:V->List V->Hp->VK->Prop:=λ x vs H Q=>∃ l xs y,x=.ref l/\vs=[]/\H l=some (.lst xs)/\xs[xs.length-1]?=some y/\Q y (bZ H l (.lst xs.dropLast))
def HF:MA X "list.pop" Hr:=by
 intro pins s σ H x vs v us Q I rx rv h
 obtain ⟨l,xs,y,rfl,rfl,hH,hy,q⟩:=h
 cases rx
 have hus:=rv.zero
 subst hus
 obtain ⟨z,its,n,r,hl,e⟩:=I.lstM hH
 obtain ⟨u,hu,ru⟩:=r.get hy
 have hy':its.toArray[its.toArray.size-1]?=some u:=by
  show its.toArray[its.length-1]?=some u
  rw [<-getElem?_toList,<-hl]
  exact hu
 refine call_meets F.slot_list_pop ⟨_,e,rfl⟩ F.entry_list_pop (F.args_list_pop_1 _) (MeetsSeq.list_pop_last l its.toArray n u hy' (by rw [size_toArray];omega)) ⟨e,?_⟩
 refine ⟨y,_,I.lset (its':=its.dropLast) hH e ?_ r.dropLast ?_,ru,q⟩
 . show its.toArray.eraseIdxIfInBounds (its.toArray.size-1)=its.dropLast.toArray
   rw [size_toArray,List.eraseIdxIfInBounds_toArray,uN]
 . rw [List.length_dropLast]
   omega
noncomputable def Ji:R2:=λ x y H Q=>∃ l k xs,x=.ref l/\y=.int k/\H l=some (.lst xs) /\ -(2^63)<=k/\k<2^63/\xs.length*k.toNat<=sizeLine/\
 ∀ p,H p=none->Q (.ref p) (bZ H p (.lst (List.replicate k.toNat xs).flatten))
def CT {α:Type} (xs:List α) (k:Nat):(List.replicate k xs).flatten.length=k*xs.length:=by
 induction k with
 | zero=>simp
 | succ k ih=>rw [replicate_succ,flatten_cons,length_append,ih,Nat.succ_mul,Nat.add_comm]
def N5:fP X (binaryOp .Mult) Ji:=by
 intro pins s σ H x y v u Q I rx ry h
 obtain ⟨l,k,xs,rfl,rfl,hH,h1,h2,hz,q⟩:=h
 cases rx
 obtain ⟨t,rfl⟩:=ry
 obtain ⟨z,its,n,r,hl,e⟩:=I.lstM hH
 have hlen:its.toArray.size*k.toNat<=sizeLine:=by rw [size_toArray,<-hl];exact hz
 have hcap:¬ its.toArray.size*k.toNat>(2^63-1) / 8:=by
  have:(sizeLine:Nat)<=(2^63-1) / 8:=by decide
  omega
 have hfit:¬ (!Builtin.List.listFitsIndex k)=true:=by
  rw [fitsIndex_both h1 h2]
  exact Bool.false_ne_true
 have hlong:¬ Builtin.List.listTooLong (its.toArray.size*k.toNat)=true:=by
  rw [tJ hlen]
  exact Bool.false_ne_true
 have hnew:List.foldl (λ x1 x2=>x1++x2) #[] (List.replicate (if its.toArray.isEmpty=true then 0 else k.toNat) its.toArray)=(List.replicate k.toNat its).flatten.toArray:=by
  have f0:∀ m:Nat,List.foldl (λ x1 x2=>x1++x2) #[] (List.replicate m its.toArray)=(List.replicate m its).flatten.toArray:=λ m=>by
   have:=pH its m []
   rw [List.nil_append] at this
   exact this
  rw [f0]
  cases its with
  | nil=>simp
  | cons a r'=>rw [if_neg (by simp)]
 refine wpAny_binaryOp_repeat_ref (T := "list") (U := "int") (by decide) ⟨_,e,rfl⟩ (λ s'=>typeIs_int s' k t) noFill_list_mul F.fills_int_mul F.slot_int_rmul repeat_list F.slot_int_index.lookup
  (call_meets F.slot_int_rmul (typeIs_int s k t) F.entry_int_rmul (F.args_int_rmul_2 _ _) (int___rmul___int_list k t l its.toArray n)
   ⟨e,rfl,⟨_,e,rfl⟩,call_meets F.slot_list_mul ⟨_,e,rfl⟩ F.entry_list_mul (F.args_list_mul_2 _ _) (AutoListH.list___mul___list_int_3 l its.toArray n k t hfit hcap hlong) ⟨e,?_⟩⟩)
 rw [hnew]
 exact ⟨.ref _,_,I.lnew (t':=s.toks) (r.rep k.toNat) (by rw [CT,Nat.mul_comm];exact hz),rfl,q _ I.fresh⟩
end
section
variable {prog:Program} {w:World} {A:Around} {E:Γ} {s:Shared}
end
section
variable {X:Cx}
end
end L2
namespace Att
open PySem PySem.W PySem.Calls PyProof.Rows
def mf {P:Params} {h:Heap}:∀ (ns:List Int) (vs:Φ),WellAll P h vs (ns.map WData.int)->IntsAre vs ns:=by
 intro ns
 induction ns with
 | nil=>
  intro vs w
  rw [map_nil] at w
  cases w
  exact .nil
 | cons n ns ih=>
  intro vs w
  rw [map_cons] at w
  cases w with
  | cons a b=>
   cases a
   exact .cons _ _ (ih _ b)
def yz {l:OpenLaw} {n:Nat} (hn:l.most=some n) {P:Params} {h:Heap} {args:List WData} {vals:Φ}
 (hpre:l.row.toRowW.claim.pre args=true) (hwl:WellAll P h vals args):
 ∃ a vs ns,vals=[Value.ref a]/\args=[WData.list (ns.map WData.int)]/\h.get? a=some { cls:=.type "list", data:=.seq vs.toArray }/\IntsAre vs ns/\ns.length<=n:=by
 have hsh:WShape.hasAll [] args [.list .int]=true:=(pre_splitW hpre).1
 have hc:l.pre.holds [] { args:=args }=true:=(pre_splitW hpre).2
 obtain ⟨d,r,rfl,h1,h2⟩:=hasAllW_cons hsh
 obtain rfl:=hasAllW_nil h2
 obtain ⟨xs,rfl,h3⟩:=hasW_list h1
 obtain ⟨ns,rfl⟩:=items_int h3
 have hlen:ns.length<=n:=by
  unfold OpenLaw.pre at hc
  have h4:(WTm.not (.lt (.lit (.int (n:Int))) (.len (.arg 0)))).holds [] { args:=[.list (ns.map .int)] }=true:=by
   have h4:=(holds_andW hc).1
   rw [hn] at h4
   exact h4
  have h5:=condW_of h4 (w_not (w_lt w_lit (w_len_list (w_arg rfl))))
  rw [length_map] at h5
  refine Nat.le_of_not_lt λ q=>?_
  have q':(n:Int)<((ns.length:Nat):Int):=by omega
  first
   | (rw [decide_eq_true q'] at h5;exact absurd h5 (by decide))
   | (simp at h5;omega)
 cases hwl with
 | cons w1 w2=>
  cases w2
  cases w1 with
  | list ho hall=>exact ⟨_,_,ns,rfl,rfl,ho,mf ns _ hall,hlen⟩
def xV (l:OpenLaw) (args:List WData):l.row.toRowW.claim.post args (.bool true) args=true:=
 postW_of (r:=l.row.toRowW) (X:=(true==true))
  (show WShape.has [] (.bool true) .bool=true by first | rfl | decide | simp [WShape.has,WShape.arms,WShape.armsAll])
  (show (WTm.eq .res (.lit (.bool true))).value [] { args:=args,res:=some (.bool true),after:=args }=some (.bool (true==true)) from w_eq_bool (w_res rfl) w_lit) rfl
def attach_call {l:OpenLaw} {n:Nat} {q:Program} {loose:Ω} {XP:(Θ)->Heap->Prop} {YP:World->Heap->Prop} {d:DefRec}
 (hn:l.most=some n) (hdf:d.params.defaults=[])
 (call:∀ (w:World) (s₀ s₁:Shared) (mg mb:Θ) (fa:Addr) (o:Obj) (pm cd doc:Value) (a:Addr) (vs:Φ) (ns:List Int),
  Ground q loose [] XP w s₀ mg mb s₁.heap->YP w s₁.heap->
  s₁.heap.get? fa=some o->o.data=.func (docDef d.name d.params d.body d.scope pm cd doc)->s₁.heap.CodeRec cd d.name->mg d.name=some (.ref fa)->
  s₁.heap.get? a=some { cls:=.type "list", data:=.seq vs.toArray }->IntsAre vs ns->ns.length<=n->s₁.gens = #[]->
  codeAny (model l.prog w) callerA (.call (.ref fa) ⟨[.ref a],[]⟩) (λ r s'=>r=.ok (.ret (.bool true))/\OldK s₁.heap s'.heap/\s'.os=s₁.os/\AllBare s'.gens) s₁):
 WalkO q loose XP YP l.row.toRowW d [] (λ f vs=>PySem.call f vs):=by
 intro w s₀ s₁ mg mb G Y fa o pm cd doc dV kV ho hd hcd hD hmg hg args vals as hpre hlay hrd hwl hlo
 obtain rfl:dV=.none:=Dflts.none hD hdf
 obtain rfl:kV=.none:=Dflts.noKw hD
 obtain ⟨a,vs,ns,rfl,rfl,hobj,hints,hlen⟩:=yz hn hpre hwl
 refine enter_call (codeAny_mono (call w s₀ s₁ mg mb fa o pm cd doc a vs ns G Y ho (fd_plain hd) hcd hmg hobj hints hlen hg) λ r s' hq=>?_)
 obtain ⟨rfl,h2,h3,h4⟩:=hq
 exact ⟨.inl ⟨.bool true,.bool true,[],rfl,λ _=>rfl,.bool true,xV l _,λ _=>⟨List.Pairwise.nil,λ _ hm=>(nomatch hm)⟩⟩,h2,h3,h4⟩
section
variable {prog:Program} {w:World} {A:Around} {E:Γ} {s:Shared} {K:Frag}
end
end Att
namespace L2
open PySem PySem.Spec PyProof.Rows
open PySem.W (Frag)
def yu {vs:Φ} {ns:List Int} (h:IntsAre vs ns):bb (ns.map V.int) vs:=by
 induction h with
 | nil=>exact .nil
 | cons n t _ ih=>exact .cons ⟨t,rfl⟩ ih
noncomputable def IE (H:Hp):Prop:=∀ b,H b=none∨∃ o xs,H b=some (.frz o (.lst xs))
def BJ {P:Program} {w:World} {K:Frag} {mg mb:Θ} {CX:vW} {k:Nat} {fa a:Addr} {fd:FuncData} {x:Str} {sp:Sp} {s₁:Shared} {vs:Φ} {ns:List Int}
 (KX:K.In s₁.heap) (hns:s₁.heap.Ns mainGlobals mg) (hb:s₁.heap.Ns builtinsNs mb) (hbb:∀ x:Str,x ≠ "__name__" -> mb x=bootBuiltins x) (hlim:s₁.heap.NoLimit) (hg:s₁.gens = #[])
 (ha:s₁.heap.get? a=some { cls:=.type "list", data:=.seq vs.toArray }) (hi:IntsAre vs ns) (hl:ns.length<=sizeLine) (hr:d7 k callerA)
 (F:∀ base:Heap,K.In base->base.Ns mainGlobals mg->fO P w K mg base CX k fa fd [x] sp) (hbind:∀ (s:Shared) (u:Value),BindsTo s fd ⟨[u],[]⟩ [(x,u)])
 (hsp:∀ H:Hp,IE H->cD K H a (ns.map V.int)->sp [.ref a] H (λ v _=>v=.bl true) λ _ _ _=>False)
 (hCX:∀ H e s',CX [] H s₁ (λ _ _ _=>False) e s'->False):
 codeAny (model P w) callerA (.call (.ref fa) ⟨[.ref a],[]⟩) (λ r s'=>r=.ok (.ret (.bool true))/\OldK s₁.heap s'.heap/\s'.os=s₁.os/\AllBare s'.gens) s₁:=by
 have rv:=yu hi
 have lenV:=hi.length
 have core:∀ H:Hp,IE H->cD K H a (ns.map V.int)->je P w H s₁.heap->(∀ b,H b≠none->b=a)->(H a≠none->K.lookup a=none)->
  codeAny (model P w) callerA (.call (.ref fa) ⟨[.ref a],[]⟩) (λ r s'=>r=.ok (.ret (.bool true))/\OldK s₁.heap s'.heap/\s'.os=s₁.os/\AllBare s'.gens) s₁:=by
  intro H hO hS hok hA hK
  have base_of:∀ {b:Addr} {o:Obj},s₁.heap.get? b=some o->H b=none->(qw s₁.heap H).get? b=some o:=λ e n=>zd e n
  have noA:∀ {b:Addr} {o:Obj} {es:Array DictEntry} {ep:Nat},s₁.heap.get? b=some o->o.data=.dict es ep->H b=none:=λ {b o es ep} e d=>by
   cases q:H b with
   | none=>rfl
   | some u=>
    have e':b=a:=hA b (by rw [q];simp)
    subst e'
    rw [ha] at e;cases e
    have d':Data.seq vs.toArray _=Data.dict es ep:=d
    cases d'
  have nsK:∀ {b:Addr} {m:Θ},s₁.heap.Ns b m->(qw s₁.heap H).Ns b m:=λ {b m} hy0=>by obtain ⟨o,es,ep,e,d,r⟩:=hy0;exact ⟨o,es,ep,base_of e (noA e d),d,r⟩
  have hKb:K.In (qw s₁.heap H):=λ b o e=>base_of (KX b o e) (by
   cases q:H b with
   | none=>rfl
   | some u=>
    have e':b=a:=hA b (by rw [q];simp)
    subst e'
    rw [hK (by rw [q];simp)] at e;cases e)
  have hM:Mod K mg (qw s₁.heap H):=⟨hKb,nsK hns,⟨mb,nsK hb,hbb⟩,by obtain ⟨mc,h1,h2⟩:=hlim;exact ⟨mc,nsK h1,h2⟩⟩
  have e0:uy P w K mg (qw s₁.heap H) callerA [] s₁ H:=⟨rfl,hM,λ b o e=>Db e,le_of_eq (yd _ _),trivial,λ b hb=>absurd (show b∈([]:Ξ) from hb) (by simp),hok,.of_eq hg⟩
  refine codeAny_mono ((F _ hKb (nsK hns)).run callerA [] s₁ H ⟨[.ref a],[]⟩ [.ref a] [.ref a] _ _ hr e0 (hbind s₁ (.ref a)) (.cons rfl .nil) (hsp H hO hS)) λ r s' h=>?_
  cases r with
  | error e=>exact (hCX H e s' h).elim
  | ok fl=>
   cases fl with
   | next=>exact False.elim h
   | brk=>exact False.elim h
   | cont=>exact False.elim h
   | ret u=>
    obtain ⟨v,H',os,bare,un,hok',r',q⟩:=h
    have q':v=.bl true:=q
    subst q'
    obtain rfl:u=Value.bool true:=r'
    refine ⟨rfl,OldK.of_keep λ b o e=>?_,os,bare⟩
    cases q:H b with
    | none=>exact un.keep b o e q (by intro z;exact absurd (show b∈([]:List Addr) from z) (by simp)) (by simp)
    | some u=>
     rcases hO b with z | ⟨ob,xs,z⟩
     . rw [q] at z;cases z
     . have z2:=un.frzs b ob _ z
       obtain ⟨e1,_⟩:=hok b _ z
       obtain ⟨e2,_⟩:=hok' b _ z2
       rw [e] at e1;cases e1
       exact e2
 cases hk:K.lookup a with
 | some o=>
  have e:=KX a o hk
  rw [ha] at e
  cases e
  refine core (λ _=>none) (λ _=>.inl rfl) (.inr ⟨_,vs.toArray,_,hk,rfl,rfl,rfl,by rw [size_toArray,lenV];exact hl,by simpa using rv⟩) (λ b u z=>by have z':(none:Option HO)=some u:=z;cases z') (λ b z=>absurd rfl z) λ z=>absurd rfl z
 | none=>
  refine core (λ b=>if b=a then some (.frz { cls:=.type "list", data:=.seq vs.toArray } (.lst (ns.map V.int))) else none) (λ b=>?_) (.inl (.inr ⟨{ cls:=.type "list", data:=.seq vs.toArray },if_pos rfl⟩)) (λ b u z=>?_) (λ b z=>?_) λ _=>hk
  . by_cases hb:b=a
    . exact .inr ⟨_,_,if_pos hb⟩
    . exact .inl (if_neg hb)
  . by_cases hb:b=a
    . have z':=(if_pos hb).symm.trans z
      cases z'
      subst hb
      exact ⟨ha,by rw [length_map];exact hl,vs,_,rv,ha⟩
    . have z':=(if_neg hb).symm.trans z
      cases z'
  . by_cases hb:b=a
    . exact hb
    . exact absurd (if_neg hb) z
def walk_of {l:PySem.W.OpenLaw} {n k:Nat} {q:Program} {loose:Ω} {XP:(Θ)->Heap->Prop} {YP:World->Heap->Prop} {d:DefRec} {K:Params->Frag} {CX:World->vW} {sp:World->Sp} {x:Str}
 (hn:l.most=some n) (hn2:n<=sizeLine) (hdf:d.params.defaults=[]) (hr:d7 k callerA)
 (hY:∀ (w:World) (h:Heap),YP w h->(K w.params).In h)
 (F:∀ (w:World) (mg:Θ) (fa:Addr) (h:Heap),(K w.params).In h->h.Ns mainGlobals mg->mg d.name=some (.ref fa)->
  ∃ fd:FuncData,(∀ (s:Shared) (u:Value),BindsTo s fd ⟨[u],[]⟩ [(x,u)])/\
   ∀ base:Heap,(K w.params).In base->base.Ns mainGlobals mg->fO l.prog w (K w.params) mg base (CX w) k fa fd [x] (sp w))
 (hsp:∀ (w:World) (H:Hp) (a:Addr) (ns:List Int),ns.length<=n->IE H->cD (K w.params) H a (ns.map V.int)->sp w [.ref a] H (λ v _=>v=.bl true) λ _ _ _=>False)
 (hCX:∀ (w:World) (H:Hp) (s:Shared) (e:Value) (s':Shared),CX w [] H s (λ _ _ _=>False) e s'->False):
 PySem.W.WalkO q loose XP YP l.row.toRowW d [] (λ f vs=>PySem.call f vs):=by
 refine Att.attach_call hn hdf λ w s₀ s₁ mg mb fa o pm cd doc a vs ns G Y ho hd hcd hmg hobj hints hlen hg=>?_
 have KX:=hY w _ Y
 obtain ⟨fd,hb,hF⟩:=F w mg fa _ KX G.T.g hmg
 exact BJ KX G.T.g G.T.b G.T.builtins G.T.nolimit hg hobj hints (le_trans hlen hn2) hr hF hb (λ H hO hS=>hsp w H a ns hlen hO hS) λ H e s'=>hCX w H s₁ e s'
noncomputable def vM (s:Stmt) (j:Nat):Stmt:=match s with
 | .ClassDef _ _ _ body _ _ _ _ _ _ _=>body.getD j (.Pass ⟨0,0,0,0⟩)
 | _=>.Pass ⟨0,0,0,0⟩
noncomputable def dy (s:Stmt):Arguments:=match s with
 | .FunctionDef _ a _ _ _ _ _ _ _ _=>a
 | _=>{ posonlyargs:=[],args:=[],vararg:=none,kwonlyargs:=[],kw_defaults:=[],kwarg:=none,defaults:=[] }
noncomputable def cS (s:Stmt):List Stmt:=match s with
 | .FunctionDef _ _ b _ _ _ _ _ _ _=>b
 | _=>[]
noncomputable def bn (s:Stmt):Scope:=match s with
 | .FunctionDef _ _ _ _ _ _ sc _ _ _=>sc
 | _=>{ kind:=.function,names:=[],isGenerator:=false,isCoroutine:=false }
noncomputable abbrev F5:vW:=λ _ _ _ _ _ _=>False
noncomputable abbrev E0:XK:=λ _ _ _=>False
def FA {X:Cx}:jt F5 X E0:=λ _ _ _ _ _ _ _ h=>h.elim
structure N1 (K:Frag) (x qual:Str) (st:Stmt) (f:Addr) (fd:FuncData):Prop where
 ex:∃ (oc:Value) (od:Option Addr) (kV doc pm:Value) (an:Option Addr) (cdv ct:Value) (osl:Array (Option Value)),
  fd=PySem.W.fnOf x qual (dy st) (cS st) (bn st) .none kV doc pm an cdv ct/\K.lookup f=some ⟨oc,od,.func fd,osl⟩/\PySem.W.codeIn K cdv qual=true
 kp:PySem.W.keepIn K (.ref f)=true
section
variable {P:Program} {w:World} {K:Frag} {mg:Θ} {base:Heap}
def N1.binds {x qual:Str} {st:Stmt} {f:Addr} {fd:FuncData} {ps:Ω} (F:N1 K x qual st f fd)
 (h:∀ (kV doc pm:Value) (an:Option Addr) (cdv ct:Value) (us:Φ),us.length=ps.length->bindArgs (PySem.W.fnOf x qual (dy st) (cS st) (bn st) .none kV doc pm an cdv ct) ⟨us,[]⟩=pure (ps.zip us)):fJ K fd ps []:=by
 obtain ⟨oc,od,kV,doc,pm,an,cdv,ct,osl,rfl,lk,hcd⟩:=F.ex
 exact .all (h kV doc pm an cdv ct)
def uE {x qual:Str} {st:Stmt} {f:Addr} {oc:Value} {od an:Option Addr} {osl:Array (Option Value)} {kV doc pm cdv ct:Value} (l:K.lookup f=some ⟨oc,od,.func (PySem.W.fnOf x qual (dy st) (cS st) (bn st) .none kV doc pm an cdv ct),osl⟩)
 (c:PySem.W.codeIn K cdv qual=true) (k:PySem.W.keepIn K (.ref f)=true):N1 K x qual st f (PySem.W.fnOf x qual (dy st) (cS st) (bn st) .none kV doc pm an cdv ct):=⟨⟨oc,od,kV,doc,pm,an,cdv,ct,osl,rfl,l,c⟩,k⟩
end
def yx {n:Nat} (h:n<=1000):n<sizeLine:=Nat.lt_of_le_of_lt h (by decide)
section
variable {X:Cx}
end
noncomputable def bj (H H':Hp):Prop:=∀ b o,H b=some o->H' b=some o
def bj.refl (H:Hp):bj H H:=λ _ _ h=>h
def bj.trans {H H1 H2:Hp} (a:bj H H1) (b:bj H1 H2):bj H H2:=λ c o h=>b c o (a c o h)
def bj.seq {K:Frag} {H H':Hp} {a:Addr} {xs:List V} (e:bj H H') (h:cD K H a xs):cD K H' a xs:=by
 rcases h with (h | ⟨o,h⟩) | h
 . exact .inl (.inl (e _ _ h))
 . exact .inl (.inr ⟨o,e _ _ h⟩)
 . exact .inr h
noncomputable def oV (cells:List (Str×Addr)):List (Str×NameKind)->List (Str×Addr)->List (Str×Addr)
 | [],cs=>cs
 | (n,k)::r,cs=>oV cells r (if k==.free then (n,(cells.lookup n).getD 0)::cs else cs)
noncomputable def yC (scope:Scope) (env:Env):List (Str×Addr):=oV env.cells scope.names []
def wC {env:Env}:∀ (names:List (Str×NameKind)) (cs:List (Str×Addr)),(∀ y∈names,y.2=.free->∃ c,env.cells.lookup y.1=some c)->
 (forIn names cs λ (x:Str×NameKind) (r:List (Str×Addr))=>(match x with
  | (name,kind)=>if (kind==NameKind.free)=true then do let a <-cellOf env name;pure (ForInStep.yield ((name,a)::r)) else pure (ForInStep.yield r):Sem (ForInStep (List (Str×Addr)))))=(pure (oV env.cells names cs):Sem _)
 | [],cs,_=>rfl
 | (n,k)::r,cs,h=>by
  have hr:=λ cs'=>wC (env:=env) r cs' λ y hy=>h y (mem_cons_of_mem _ hy)
  rw [List.forIn_cons]
  by_cases hk:(k==NameKind.free)=true
  . obtain ⟨c,hc⟩:=h (n,k) mem_cons_self (by simpa using hk)
    have e1:cellOf env n=pure c:=by unfold cellOf;rw [hc]
    simp only [hk,if_true,e1,pure_bind]
    rw [hr]
    unfold oV
    rw [if_pos hk,hc]
    conv=>rhs;unfold oV
    rfl
  . simp only [hk,if_false,pure_bind,false_eq_true]
    rw [hr]
    conv=>rhs;unfold oV
    rw [if_neg hk]
def ni {scope:Scope} {env:Env} (h:∀ y∈scope.names,y.2=.free->∃ c,env.cells.lookup y.1=some c):closureFor scope env=pure (yC scope env):=by
 unfold closureFor yC
 rw [<-wC scope.names [] h]
 simp
def lL {cells:List (Str×Addr)} {x:Str} {c:Addr}:∀ (names:List (Str×NameKind)) (cs:List (Str×Addr)),(∀ y∈names,y.2=.free->∃ d,cells.lookup y.1=some d)->(∀ d,cs.lookup x=some d->cells.lookup x=some d)->
 (oV cells names cs).lookup x=some c->cells.lookup x=some c
 | [],cs,_,hc,h=>hc c h
 | (n,k)::r,cs,hn,hc,h=>by
  unfold oV at h
  refine lL r _ (λ y hy=>hn y (mem_cons_of_mem _ hy)) ?_ h
  intro d hd
  by_cases hk:(k==NameKind.free)=true
  . rw [if_pos hk] at hd
    obtain ⟨e,he⟩:=hn (n,k) mem_cons_self (by simpa using hk)
    simp only at he
    rw [lookup_cons] at hd
    cases hx:x==n with
    | true=>
     have:x=n:=by simpa using hx
     subst this
     rw [hx] at hd
     simp only [Option.some.injEq] at hd
     rw [he] at hd ⊢
     simp at hd
     rw [hd]
    | false=>
     rw [hx] at hd
     exact hc d hd
  . rw [if_neg hk] at hd
    exact hc d hd
def nF {cells:List (Str×Addr)} {x:Str}:∀ (names:List (Str×NameKind)) (cs:List (Str×Addr)),((x,NameKind.free)∈names∨∃ d,cs.lookup x=some d)->∃ d,(oV cells names cs).lookup x=some d
 | [],cs,h=>by
  rcases h with h | h
  . cases h
  . exact h
 | (n,k)::r,cs,h=>by
  unfold oV
  refine nF r _ ?_
  rcases h with h | ⟨d,h⟩
  . rcases mem_cons.mp h with e | h
    . cases e
      exact .inr ⟨_,by rw [if_pos (by rfl),lookup_cons,beq_self_eq_true]⟩
    . exact .inl h
  . refine .inr ?_
    split
    . rw [lookup_cons]
      cases hx:x==n with
      | true=>exact ⟨_,rfl⟩
      | false=>exact ⟨d,h⟩
    . exact ⟨d,h⟩
def fT {scope:Scope} {env:Env} {x:Str} {k:NameKind} (h:(relabel scope env).names.lookup x=some k) (hk:k=.cell∨k=.free) (hc:∀ y∈scope.names,y.2≠.cell):(x,NameKind.free)∈scope.names:=by
 have hm:=PySem.mem_of_lookup h
 unfold relabel at hm
 obtain ⟨⟨n,k'⟩,hy,e⟩:=mem_map.mp hm
 by_cases q:(k'==NameKind.free&&env.scope.kind==.function&&env.kindOf n==some .cell)=true
 . simp only [q,if_true] at e
   cases e
   have:k'=.free:=by
    simp only [and_eq_true,beq_iff_eq] at q
    exact q.1.1
   subst this
   exact hy
 . simp only [q,if_false,false_eq_true] at e
   cases e
   rcases hk with rfl | rfl
   . exact absurd rfl (hc _ hy)
   . exact hy
noncomputable def lift (ix:Λ) (σ:St):St:=ix.map λ o=>match o with
 | none=>none
 | some i=>match σ[i]? with
  | some v=>v
  | none=>none
structure bH (X:Cx) (scope:Scope) (N:Ω) (ix:Λ):Prop where
 kind:scope.kind=.function
 nocell:∀ y∈scope.names,y.2≠.cell
 locs:∀ y∈scope.names,y.2=.local->scope.names.lookup y.1=some .local
 free:∀ y∈scope.names,y.2=.free->X.env.kindOf y.1=some .cell∨X.env.kindOf y.1=some .free
 len:ix.length=N.length
 nd:N.Nodup
 from':∀ j i:Nat,ix[j]?=some (some i)->∃ x,N[j]?=some x/\X.N[i]?=some x/\(X.env.kindOf x=some .cell∨X.env.kindOf x=some .free)/\((relabel scope X.env).names.lookup x=some .cell∨(relabel scope X.env).names.lookup x=some .free)
noncomputable def bM (X:Cx) (scope:Scope) (N:Ω) (s₀:Shared) (H₀:Hp) (C:Addr) (ex:Ξ):Cx where
 prog:=X.prog
 w:=X.w
 K:=X.K
 mg:=X.mg
 base:=X.base
 A:=X.A
 N:=N
 s₀:=s₀
 H₀:=H₀
 env:=compEnvC scope (yC scope X.env) C X.env
 outer:=X.stack
 stack:=X.stack
 ex:=ex
 fn:=λ _=>false
 calm:=X.calm
 pn:=[]
 xe:=λ _ _=>False
section
variable {X:Cx} {pins:Δ} {σ:St} {H:Hp} {s:Shared} {scope:Scope} {N:Ω} {ix:Λ}
def bH.cells (S:bH X scope N ix) (I:aL X pins σ H s):∀ y∈scope.names,y.2=.free->∃ c,X.env.cells.lookup y.1=some c:=λ y hy hk=>I.ok.has y.1 (S.free y hy hk)
def bH.sub (S:bH X scope N ix) (I:aL X pins σ H s) {x:Str} {c:Addr} (h:(yC scope X.env).lookup x=some c):X.env.cells.lookup x=some c:=
 lL scope.names [] (S.cells I) (λ d h=>by simp at h) h
def bH.start (S:bH X scope N ix) (I:aL X pins σ H s) {fp:Ξ} {C D:Addr} {h':Heap} {tk:Nat} (hf:∀ b∈fp,jv X pins H b) (hfo:∀ b∈fp,∃ o,s.heap.get? b=some o) (hD:D=s.heap.objs.size) (hC:s.heap.objs.size<C)
 (k:∀ b o,s.heap.get? b=some o->h'.get? b=some o) (hn:h'.Ns C λ _=>none):aL (bM X scope N s H C (D::fp)) [] (lift ix σ) H { s with heap:=h',toks:=tk }:=by
 have ltC:∀ x c,X.env.cells.lookup x=some c->c<s.heap.objs.size:=λ x c e=>let ⟨v,q⟩:=I.cell x c e;q.lt
 refine ⟨⟨I.ok.mod,S.kind,I.ok.glob,I.ok.blt,le_of_lt hC,λ x y c h1 h2=>I.ok.inj x y c (S.sub I h1) (S.sub I h2),λ x hx=>?_,λ x c z=>?_,I.ok.hd,I.ok.frames,.inl rfl,λ b hb=>?_,I.bs,le_trans I.ok.bsz I.sz,λ b o e hb=>?_,λ b hb hb'=>?_,I.stack,I.stkFree⟩,
  rfl,I.bare,Un.kept k,⟨_,hn,λ j x v e1 e2 e3=>?_⟩,λ x c e=>?_,I.hok.fresh (le_of_lt hC),λ x c e=>I.freeC x c (S.sub I e),λ p hp=>absurd (show p∈([]:Δ) from hp) (by simp),I.hok.kept k,?_⟩
 . have hx:(relabel scope X.env).names.lookup x=some .cell∨(relabel scope X.env).names.lookup x=some .free:=hx
   have hm:(x,NameKind.free)∈scope.names:=by
    rcases hx with h | h
    . exact fT h (.inl rfl) S.nocell
    . exact fT h (.inr rfl) S.nocell
   exact nF _ _ (.inl hm)
 . cases z
 . rcases mem_cons.mp hb with e | hb
   . subst e
     subst hD
     exact ⟨ne_of_lt hC,λ x c e z=>absurd (ltC x c (S.sub I e)) (by rw [z];exact lt_irrefl _)⟩
   . obtain ⟨o,e⟩:=hfo b hb
     exact ⟨ne_of_lt (lt_trans (lt_size e) hC),λ x c e=>(hf b hb).2.2.2.2.1 x c (S.sub I e)⟩
 . have lb:=lt_of_lt_of_le (lt_size e) I.ok.bsz
   rcases mem_cons.mp hb with z | hb
   . subst z
     subst hD
     exact absurd (lt_of_lt_of_le lb I.sz) (lt_irrefl _)
   . rcases (hf b hb).2.2.2.1 with z | z
     . exact I.ok.noex b o e z
     . exact absurd (lt_of_lt_of_le lb z) (lt_irrefl _)
 . have hs:=I.stkSub b hb'
   rcases mem_cons.mp hb with z | hb
   . subst z
     subst hD
     rcases mem_cons.mp hs with z | z
     . exact absurd I.lt (by rw [<-z];exact lt_irrefl _)
     . exact I.nofs (le_refl _) z
   . rcases mem_cons.mp hs with z | z
     . exact (hf b hb).2.1 z
     . exact (hf b hb).2.2.1 z
 . unfold lift at e2
   rw [getElem?_map] at e2
   cases q:ix[j]? with
   | none=>rw [q] at e2;cases e2
   | some o=>
    rw [q] at e2
    cases o with
    | none=>cases e2
    | some i=>
     obtain ⟨y,f1,f2,f3,f4⟩:=S.from' j i q
     have e1':N[j]?=some x:=e1
     rw [f1] at e1'
     cases e1'
     simp only [map_some,Option.some.injEq] at e2
     cases q2:σ[i]? with
     | none=>rw [q2] at e2;cases e2
     | some w=>
      rw [q2] at e2
      simp only at e2
      subst e2
      obtain ⟨m,hm,hl⟩:=I.loc
      have vis:Mh X.env.scope x:=by
       rcases f3 with z | z
       . exact .inr (.inl z)
       . exact .inr (.inr z)
      obtain ⟨u,r,l⟩:=hl i x v f2 q2 vis
      refine ⟨u,r,.inr ⟨f4,?_⟩⟩
      rcases l with ⟨l1,_⟩ | ⟨_,c,hc,hcell⟩
      . rw [l1] at f3
        rcases f3 with z | z <;> cases z
      . have hmf:(x,NameKind.free)∈scope.names:=by
         rcases f4 with h | h
         . exact fT h (.inl rfl) S.nocell
         . exact fT h (.inr rfl) S.nocell
        obtain ⟨d,hd⟩:=nF (cells:=X.env.cells) scope.names [] (.inl hmf)
        have hd':=S.sub I hd
        rw [hc] at hd'
        cases hd'
        refine ⟨c,hd,?_⟩
        obtain ⟨o,ho,hod⟩:=hcell
        exact ⟨o,k _ _ ho,hod⟩
 . obtain ⟨v,o,ho,hod⟩:=I.cell x c (S.sub I e)
   exact ⟨v,o,k _ _ ho,hod⟩
 . show (lift ix σ).length=N.length
   unfold lift
   rw [length_map,S.len]
end
def iD {prog:Program} {w:World} {A:Around} {R:Result->Shared->Prop} {s:Shared} {elt target iter:Expr} {ifs:List Expr} {scope:Scope} {pos:Pos} {it acc:Value} {env:Env} (I:Nat->Shared->Prop)
 (turn:∀ n s,I n s->wpAny (model prog w) A (pyNext it) (λ r s₁=>match r with
  | none=>R (.ok .next) s₁
  | some v=>wpAny (model prog w) A (letOwnedTupleGo target it v) (λ _ s₁'=>wpAny (model prog w) A (assign target env v) (λ _ s₂=>
   wpAny (model prog w) A (forIn ifs true λ c r=>if r=true then do let ok <-isTrue c env (eval c env);pure (ForInStep.yield ok) else pure (ForInStep.yield r)) (λ ok s₃=>
    if ok=true then wpAny (model prog w) A (eval elt env) (λ x s₄=>
     wpAny (model prog w) A (call (.builtin "list.append") [acc,x]) (λ _ s₅=>∃ m,m<n/\I m s₅) (λ _ _=>False) s₄) (λ _ _=>False) s₃
    else ∃ m,m<n/\I m s₃) (λ _ _=>False) s₂) (λ _ _=>False) s₁') (λ _ _=>False) s₁) (λ _ _=>False) s)
 (n:Nat) (h:I n s):
 codeAny (model prog w) A (.compLoop (.ListComp elt [⟨target,iter,ifs,0⟩] scope pos) 0 it acc env) R s:=by
 refine codeAny_loop rfl I (λ n s hI=>?_) n h
 show wpAny _ A ((compTurn (.ListComp elt [⟨target,iter,ifs,0⟩] scope pos) 0 it acc env).onRaise (λ x=>do noteFrame x env;theTreesLotGoes x)) _ _ s
 refine wpAny_noted ?_
 rw [compTurn_list]
 refine wpAny_bind (wpAny_standAt (wpAny_bind (wpAny_mono (turn n s hI) (λ r s₁ h₁=>?_) λ _ _ h'=>h'.elim)))
 cases r with
 | none=>exact wpAny_pure h₁
 | some v=>
  refine wpAny_bind (wpAny_mono h₁ (λ _ s₁' h₁'=>?_) λ _ _ h'=>h'.elim)
  refine wpAny_bind (wpAny_mono h₁' (λ _ s₂ h₂=>wpAny_bind (wpAny_mono h₂ (λ ok s₃ h₃=>?_) λ _ _ h'=>h'.elim)) λ _ _ h'=>h'.elim)
  cases ok with
  | false=>exact wpAny_pure ⟨rfl,h₃⟩
  | true=>
   exact wpAny_bind (wpAny_bind (wpAny_mono h₃ (λ x s₄ h₄=>wpAny_bind (wpAny_mono h₄ (λ _ s₅ h₅=>wpAny_pure (wpAny_pure ⟨rfl,h₅⟩)) λ _ _ h'=>h'.elim)) λ _ _ h'=>h'.elim))
noncomputable def uq (X:Cx) (ifs:List Expr) (t:TT):Prop:=
 ∀ (pins:Δ) (s:Shared) (σ:St) (H:Hp) (Q:Bool->Hp->Prop),aL X pins σ H s->t σ H Q->
  wpAny (model X.prog X.w) X.A (forIn ifs true λ c r=>if r=true then do let ok <-isTrue c X.env (eval c X.env);pure (ForInStep.yield ok) else pure (ForInStep.yield r)) (TP X pins σ Q) X.xe s
noncomputable def Jf:TT:=λ _ H Q=>Q true H
def JB {X:Cx}:uq X [] Jf:=λ _ _ _ H _ I h=>wpAny_tests_nil ⟨H,I,h⟩
def La {X:Cx} {c:Expr} {t:TT} (h:PT X c t):uq X [c] t:=λ pins s σ H Q I q=>wpAny_tests_one (h pins s σ H Q I q)
noncomputable def EZ (σ σ':St):Prop:=σ.length=σ'.length/\∀ (i:Nat) (v:V),σ[i]?=some (some v)->σ'[i]?=some (some v)
def EZ.refl (σ:St):EZ σ σ:=⟨rfl,λ _ _ h=>h⟩
def EZ.set {σ σ':St} {j:Nat} {v:V} (e:EZ σ σ') (h:σ[j]?=some none):EZ σ (σ'.set j (some v)):=by
 refine ⟨by rw [length_set];exact e.1,λ i u q=>?_⟩
 have hne:j≠i:=λ z=>by subst z;rw [h] at q;cases q
 rw [getElem?_set_ne hne]
 exact e.2 i u q
def xQ {ix:Λ} {σ:St} {j:Nat} (h:ix[j]?=some none):(lift ix σ)[j]?=some none:=by
 unfold lift
 rw [getElem?_map,h]
 rfl
noncomputable def nS (ix:Λ) (g:TG):Prop:=∀ (v:V) (σ:St) (H:Hp) (Q:St->Hp->Prop),g v (lift ix σ) H Q->g v (lift ix σ) H λ σ2 H2=>Q σ2 H2/\EZ (lift ix σ) σ2
def Gc {ix:Λ} {j:Nat} (h:ix[j]?=some none):nS ix (lF j):=λ v σ H Q q=>⟨q,(EZ.refl _).set (xQ h)⟩
noncomputable def ny (ix:Λ) (wi:TI) (g:TG) (tc:TT) (te:TE):TE:=λ σ H Q=>wi σ H λ J H1=>∃ W:Nat->Nat->List V->Hp->Prop,(∃ m,W 0 m [] H1)/\∀ i m ys H,W i m ys H->
 (J.stop i H/\ys.length<=sizeLine/\∀ p,H p=none->Q (.ref p) (bZ H p (.lst ys)))∨
 (J.go i H/\ys.length<sizeLine/\∃ N:List V->Hp->Prop,(∀ ys' H',N ys' H'->∃ m',m'<m/\W (i+1) m' ys' H')/\∀ x H',J.yld i H x H'->g x (lift ix σ) H' λ σ2 H2=>tc σ2 H2 λ b H3=>if b=true then te σ2 H3 λ v H4=>N (ys++[v]) H4 else N ys H3)
def At {X:Cx} {pins pins':Δ} {σ σ':St} {H2 H':Hp} {s2 s4:Shared} {scope:Scope} {N:Ω} {C D:Addr} {fp:Ξ} {h':Heap} {ys:List V} {its:Φ} {n:Nat}
 (I2:aL X pins σ H2 s2) (I':aL (bM X scope N s2 H2 C (D::fp)) pins' σ' H' s4) (f2:∀ b∈fp,jv X pins H2 b) (hD:D=s2.heap.objs.size) (hC:s2.heap.objs.size<C) (hDC:D≠C)
 (hs:Heap.SameBut C s4.heap h') (eD:s4.heap.get? D=some { cls:=.type "list", data:=.seq its.toArray n }) (fD:H' D=none) (rv:bb ys its) (hz:ys.length<=sizeLine):
 aL X pins σ (bZ H' D (.lst ys)) { s4 with heap:=h' }:=by
 have lt:∀ b o,s2.heap.get? b=some o->b≠D/\b≠C:=λ b o e=>
  ⟨by rw [hD];exact ne_of_lt (lt_size e),ne_of_lt (lt_trans (lt_size e) hC)⟩
 have nex:∀ b o,s2.heap.get? b=some o->b∉fp->b∉D::fp:=λ b o e hb z=>by
  rcases mem_cons.mp z with z | z
  . exact (lt b o e).1 z
  . exact hb z
 have nD:∀ b u,H' b=some u->b≠D:=λ b u e=>be e fD
 have nC:∀ b u,H' b=some u->b≠C:=λ b u e=>be e I'.free
 have u:=I'.base
 refine I2.call' (ch:=fp) (show s4.os=s2.os from I'.os) ⟨λ b o e n hb hx=>?_,λ b o e n hb hx=>?_,λ b o e n hx=>?_,λ b o e hx=>?_,λ b xs e=>?_,λ b o xs e=>?_,λ b ps e=>?_⟩ (λ b o e=>?_) I'.bare λ b hb=>⟨(f2 b hb).2.2.2.1,(f2 b hb).2.1,(f2 b hb).2.2.2.2.1,(f2 b hb).2.2.2.2.2⟩
 . exact (hs.2 b (lt b o e).2).trans (u.keep b o e n hb (nex b o e hx))
 . obtain ⟨sl,q⟩:=u.slot b o e n hb (nex b o e hx)
   exact ⟨sl,(hs.2 b (lt b o e).2).trans q⟩
 . rw [aH (lt b o e).1]
   exact u.free b o e n (nex b o e hx)
 . obtain ⟨o',q⟩:=u.there b o e (nex b o e hx)
   exact ⟨o',(hs.2 b (lt b o e).2).trans q⟩
 . have q:=u.tups b xs e
   rw [aH (nD b _ q)]
   exact q
 . have q:=u.frzs b o xs e
   rw [aH (nD b _ q)]
   exact q
 . obtain ⟨m,q⟩:=u.tbls b ps e
   exact ⟨m,by rw [aH (nD b _ q)];exact q⟩
 . by_cases hb:b=D
   . subst hb
     rw [aJ] at e
     cases e
     exact ⟨hz,its,n,rv,(hs.2 b hDC).trans eD⟩
   . rw [aH hb] at e
     refine (I'.hok b o e).stay (λ c v hc q=>(hs.2 c ?_).trans q) (λ c q=>by rw [aH (nD c _ q)];exact q) λ c xs q=>by rw [aH (nD c _ q)];exact q
     rcases hc with z | z
     . rw [z];exact nC b o e
     . exact nC c _ z
section
variable {X:Cx} {elt tg iter:Expr} {ifs:List Expr} {scope:Scope} {pos:Pos} {wi:TI} {g:TG} {tc:TT} {te:TE} {N:Ω} {ix:Λ}
def pZ {pins:Δ} {σ:St} {Q:VK} {s2:Shared} {itv:Value} {Rr:Value->Addr->Result->Shared->Prop} (S:bH X scope N ix) (hc:X.calm=true) (hG:nS ix g)
 (hb:∀ (s₀:Shared) (H₀:Hp) (C:Addr) (ex:Ξ),PG (bM X scope N s₀ H₀ C ex) tg g/\uq (bM X scope N s₀ H₀ C ex) ifs tc/\PE (bM X scope N s₀ H₀ C ex) elt te)
 (h2:M4 X pins σ tg (λ J H1=>∃ W:Nat->Nat->List V->Hp->Prop,(∃ m,W 0 m [] H1)/\∀ i m ys H,W i m ys H->
  (J.stop i H/\ys.length<=sizeLine/\∀ p,H p=none->Q (.ref p) (bZ H p (.lst ys)))∨
  (J.go i H/\ys.length<sizeLine/\∃ N:List V->Hp->Prop,(∀ ys' H',N ys' H'->∃ m',m'<m/\W (i+1) m' ys' H')/\∀ x H',J.yld i H x H'->g x (lift ix σ) H' λ σ2 H2=>tc σ2 H2 λ b H3=>if b=true then te σ2 H3 λ v H4=>N (ys++[v]) H4 else N ys H3)) itv s2)
 (hR:∀ (s4:Shared) (H':Hp) (D C:Addr) (m:Θ) (ys:List V),s4.heap.Ns C m->jv X pins H' C->(∀ h',Heap.SameBut C s4.heap h'->aL X pins σ (bZ H' D (.lst ys)) { s4 with heap:=h' })->aL X pins σ (bZ H' D (.lst ys)) s4->D≠C->Q (.ref D) (bZ H' D (.lst ys))->Rr (.ref D) C (.ok .next) s4):
 wpAny (model X.prog X.w) X.A (newList []) (λ acc s₃=>wpAny (model X.prog X.w) X.A (newFunctionEnv scope X.env.globals (yC scope X.env) [] X.env.qual none .none (some X.env)) (λ cenv s₄=>
  codeAny (model X.prog X.w) X.A (.compStart (.ListComp elt [⟨tg,iter,ifs,0⟩] scope pos) 0 itv acc { cenv with scope:=relabel scope X.env }) (Rr acc cenv.locals) s₄) X.xe s₃) X.xe s2:=by
 obtain ⟨it,fp,tn,J,H2,e,I2,T,st2,f2,W,⟨m0,w0⟩,turn⟩:=h2
 subst e
 have fo:∀ b∈fp,∃ o,s2.heap.get? b=some o:=λ b hb=>let ⟨o,e,_⟩:=T.obj _ _ st2 b hb;⟨o,e⟩
 refine wpAny_newObj_type (wpAny_newFunctionEnv S.nocell (by intro y hy;simp at hy) (λ h₁ hns₁ hsb₁=>?_) S.kind)
 dsimp only at hns₁ hsb₁ ⊢
 generalize hH2:s2.heap.push { cls:=.type "list", dict:=none,data:=.seq ([]:Φ).toArray }=HH at hns₁ hsb₁ ⊢
 have hC:HH.objs.size=s2.heap.objs.size+1:=by rw [<-hH2,size_push]
 generalize hCC:HH.objs.size=C at hns₁ hsb₁ hC ⊢
 generalize hDD:s2.heap.objs.size=D at hC ⊢
 have hlt:s2.heap.objs.size<C:=by rw [hDD,hC];exact lt_succ_self _
 have hDC:D≠C:=by rw [hC];exact ne_of_lt (lt_succ_self _)
 have old:∀ b o,s2.heap.get? b=some o->h₁.get? b=some o:=λ b o e=>
  hsb₁.extBut b o (ne_of_lt (lt_trans (lt_size e) hlt)) (get?_push_of_some _ (hH2▸get?_push_of_some _ e))
 have hacc:h₁.PlainList D #[]:=⟨_,hsb₁.extBut _ _ hDC (get?_push_of_some _ (hH2▸hDD▸get?_push_size _ rfl))⟩
 have hns₂:h₁.Ns C λ _=>none:=hns₁
 have I4:=S.start (tk:=s2.toks+([]:List (Str×Value)).length) I2 f2 fo hDD.symm hlt old hns₂
 obtain ⟨hg,hif,hel⟩:=hb s2 H2 C (D::fp)
 have stat:∀ {H':Hp},(∀ b∈D::fp,H' b=none)->∀ b∈D::fp,jv (bM X scope N s2 H2 C (D::fp)) [] H' b:=λ hn b hb=>
  ⟨hn b hb,(I4.ok.exf b hb).1,I4.ok.exfs b hb,.inl hb,(I4.ok.exf b hb).2,λ p hp=>absurd (show p∈([]:Δ) from hp) (by simp)⟩
 have sub:∀ b∈fp,b∈D::fp:=λ b hb=>mem_cons_of_mem _ hb
 have nDf:∀ b∈fp,b≠D:=λ b hb z=>by
  obtain ⟨o,e⟩:=fo b hb
  exact absurd (lt_size e) (by rw [z,hDD];exact lt_irrefl _)
 have free0:∀ b∈D::fp,H2 b=none:=λ b hb=>by
  rcases mem_cons.mp hb with z | hb
  . rw [z];exact I2.hok.fresh (le_of_eq hDD)
  . exact (f2 b hb).1
 have loop:∀ s₃:Shared,s₃={ s2 with heap:=h₁,toks:=s2.toks+([]:List (Str×Value)).length }->
  codeAny (model X.prog X.w) X.A (.compLoop (.ListComp elt [⟨tg,iter,ifs,0⟩] scope pos) 0 (.ref it) (.ref D) (compEnvC scope (yC scope X.env) C X.env))
   (Rr (.ref D) C) s₃:=by
  rintro s₃ rfl
  refine iD (λ n s'=>∃ i H' ys its,aL (bM X scope N s2 H2 C (D::fp)) [] (lift ix σ) H' s'/\tn i s'.heap/\(∀ b∈D::fp,H' b=none)/\s'.heap.PlainList D (List.toArray its)/\bb ys its/\W i n ys H') ?_ m0
   ⟨0,H2,[],[],I4,T.keep _ _ _ st2 λ b _ o e=>old b o e,free0,hacc,.nil,w0⟩
  rintro n s3 ⟨i,H3,ys,its,I3,st3,fr3,pl3,rv3,w3⟩
  obtain ⟨kk,plE⟩:=pl3
  have pinD:∀ {pp:Δ} {σ':St} {H':Hp} {s':Shared},aL (bM X scope N s2 H2 C (D::fp)) pp σ' H' s'->H' D=none->s'.heap.get? D=some { cls:=.type "list", data:=.seq its.toArray kk }->
   aL (bM X scope N s2 H2 C (D::fp)) [(D,{ cls:=.type "list", data:=.seq its.toArray kk })] σ' H' s':=λ {pp σ' H' s'} J f e=>J.pins_of λ p hp=>by
   have z:p=(D,{ cls:=.type "list", data:=.seq its.toArray kk }):=by simpa using hp
   subst z
   exact ⟨e,f,(J.ok.exf D mem_cons_self).1,J.ok.exfs D mem_cons_self,λ v z=>by cases z⟩
  have fpD:∀ {H':Hp},(∀ b∈D::fp,H' b=none)->∀ b∈fp,jv (bM X scope N s2 H2 C (D::fp)) [(D,{ cls:=.type "list", data:=.seq its.toArray kk })] H' b:=λ hn b hb=>by
   obtain ⟨a1,a2,a3,a4,a5,a6⟩:=stat hn b (sub b hb)
   refine ⟨a1,a2,a3,a4,a5,λ p hp=>?_⟩
   have z:p=(D,{ cls:=.type "list", data:=.seq its.toArray kk }):=by simpa [bM] using hp
   subst z
   exact (nDf b hb).symm
  have frD:H3 D=none:=fr3 D mem_cons_self
  rcases turn i n ys H3 w3 with ⟨stop,hz,qn⟩ | ⟨go,hz,NN,hN,step⟩
  . refine bY (T.done (bM X scope N s2 H2 C (D::fp)) rfl rfl rfl hc i _ s3 _ H3 (λ _ _=>False) (pinD I3 frD plE) (fpD fr3) st3 stop) λ r s4 ⟨hr,I4'⟩=>?_
    subst hr
    obtain ⟨m,hm,_⟩:=I4'.loc
    have eD:=(I4'.pin (D,_) (mem_append_right _ mem_cons_self)).1
    have fin:∀ h',Heap.SameBut C s4.heap h'->aL X pins σ (bZ H3 D (.lst ys)) { s4 with heap:=h' }:=λ h' hs'=>At I2 I4' f2 hDD.symm hlt hDC hs' eD frD rv3 hz
    have hC0:s2.heap.objs.size<=C:=le_of_lt hlt
    have fC:jv X pins H3 C:=by
     have q:=I2.fpOk (H':=H3) hC0 I4'.free
     exact q
    exact hR s4 H3 D C m ys hm fC fin (by simpa using fin s4.heap (Heap.SameBut.refl ..)) hDC (qn D frD)
  . refine bY (T.item (bM X scope N s2 H2 C (D::fp)) rfl rfl rfl hc i _ s3 _ H3 (λ _ _=>False) (pinD I3 frD plE) (fpD fr3) st3 go) λ r s4 ⟨u,hr,h4⟩=>?_
    subst hr
    refine bY h4 λ _ s5 hq0=>?_
    obtain ⟨x,H5,I5,r5,y5,st5,fr5⟩:=hq0
    have eD5:=(I5.pin (D,_) (mem_append_right _ mem_cons_self))
    have fr5':∀ b∈D::fp,H5 b=none:=λ b hb=>by
     rcases mem_cons.mp hb with z | hb
     . rw [z];exact eD5.2.1
     . exact fr5 b hb
    have I5':aL (bM X scope N s2 H2 C (D::fp)) ([]++kR (D::fp) s5.heap) (lift ix σ) H5 s5:=(I5.unpinned (pins:=[]) (pl:=[_])).pinned (stat fr5') λ b hb=>by
     rcases mem_cons.mp hb with z | hb
     . rw [z];exact ⟨_,eD5.1,λ v z=>by cases z⟩
     . exact T.obj _ _ st5 b hb
    have back:∀ {σ7:St} {H7:Hp} {s7:Shared},aL (bM X scope N s2 H2 C (D::fp)) ([]++kR (D::fp) s5.heap) σ7 H7 s7->EZ (lift ix σ) σ7->
     aL (bM X scope N s2 H2 C (D::fp)) [] (lift ix σ) H7 s7/\tn (i+1) s7.heap/\(∀ b∈D::fp,H7 b=none)/\s7.heap.get? D=some { cls:=.type "list", data:=.seq its.toArray kk }:=λ {σ7 H7 s7} I7 ex=>by
     have keepAt:∀ b∈D::fp,∀ o,s5.heap.get? b=some o->s7.heap.get? b=some o/\H7 b=none:=λ b hb o e=>
      ⟨(I7.pin (b,o) (mem_append_right _ (mem_append_right _ (ib hb e)))).1,(I7.pin (b,o) (mem_append_right _ (mem_append_right _ (ib hb e)))).2.1⟩
     refine ⟨I7.unpinned.weak ex.1 ex.2,T.keep _ _ _ st5 λ b hb o e=>(keepAt b (sub b hb) o e).1,λ b hb=>?_,(keepAt D mem_cons_self _ eD5.1).1⟩
     rcases mem_cons.mp hb with z | hb'
     . rw [z];exact (keepAt D mem_cons_self _ eD5.1).2
     . obtain ⟨o,e,_⟩:=T.obj _ _ st5 b hb'
       exact (keepAt b hb o e).2
    refine bY (hg _ s5 _ H5 x u _ I5' r5 (hG _ _ _ _ (step x H5 y5))) λ _ s6 hq0=>?_
    obtain ⟨σ6,H6,I6,q6,ex6⟩:=hq0
    refine bY (hif _ s6 σ6 H6 _ I6 q6) λ ok s7 hq0=>?_
    obtain ⟨H7,I7,q7⟩:=hq0
    cases ok with
    | false=>
     rw [if_neg Bool.false_ne_true] at q7 ⊢
     obtain ⟨m',hm,w7⟩:=hN _ _ q7
     obtain ⟨J1,J2,J3,J4⟩:=back I7 ex6
     exact ⟨m',hm,i+1,H7,ys,its,J1,J2,J3,⟨_,J4⟩,rv3,w7⟩
    | true=>
     rw [if_pos rfl] at q7 ⊢
     refine bY (hel _ s7 σ6 H7 _ I7 q7) λ uv s8 hq0=>?_
     obtain ⟨y,H8,I8,r8,q8⟩:=hq0
     obtain ⟨m',hm,w8⟩:=hN _ _ q8
     obtain ⟨J1,J2,J3,J4⟩:=back I8 ex6
     refine wpAny_list_append_plain (hsz:=by rw [size_toArray,<-rv3.length];exact le_of_lt hz) ⟨_,J4⟩ λ h₉ hl₉ hs₉=>?_
     obtain ⟨a1,a2,a3,a4,a5,a6⟩:=stat J3 D mem_cons_self
     refine ⟨m',hm,i+1,H8,ys++[y],its++[uv],J1.turned (t':=s8.toks) (λ b o hb e=>hs₉.extBut b o hb e) a1 a2 a4 a5 a6,T.keep _ _ _ J2 λ b hb o e=>hs₉.extBut b o (nDf b hb) e,J3,by simpa using hl₉,rv3.append (.cons r8 .nil),w8⟩
 exact codeAny_compStart_list (loop _ rfl) (T.self _ 0 _ _ _ (T.keep _ _ _ st2 λ b _ o e=>old b o e) (loop _ rfl))
def Eg (S:bH X scope N ix) (hc:X.calm=true) (hi:PI X tg iter wi) (hG:nS ix g)
 (hb:∀ (s₀:Shared) (H₀:Hp) (C:Addr) (ex:Ξ),PG (bM X scope N s₀ H₀ C ex) tg g/\uq (bM X scope N s₀ H₀ C ex) ifs tc/\PE (bM X scope N s₀ H₀ C ex) elt te)
 (hs:∀ x,foldedSetIterable iter X.env x=pure x:=by intro _;rfl):PE X (.ListComp elt [⟨tg,iter,ifs,0⟩] scope pos) (ny ix wi g tc te):=by
 intro pins s σ H Q I h
 rw [eval_ListComp]
 refine wpAny_comprehension_free (use:=none) rfl hs (ni (S.cells I)) S.kind S.locs ?_
 refine bY (hi pins s σ H _ I h) λ v s1 h1=>bY h1 λ itv s2 h2=>?_
 refine pZ (Rr:=λ acc C=>compPost (model X.prog X.w) X.A X.xe none (EP X pins σ Q) acc C) S hc hG hb h2 ?_
 intro s4 H' D C m ys hm _ fin _ _ q
 exact ⟨m,hm,λ h' hs'=>⟨.ref D,_,fin h' hs',rfl,q⟩⟩
def CY {y:Str} {py spos:Pos} {i:Nat} (hN:X.N.Nodup) (hi:X.N[i]?=some y) (hy:Gg X.env.scope y) (S:bH X scope N ix) (hc:X.calm=true) (hit:PI X tg iter wi) (hG:nS ix g)
 (hb:∀ (s₀:Shared) (H₀:Hp) (C:Addr) (ex:Ξ),PG (bM X scope N s₀ H₀ C ex) tg g/\uq (bM X scope N s₀ H₀ C ex) ifs tc/\PE (bM X scope N s₀ H₀ C ex) elt te)
 (hsw:swapsWith (.ListComp elt [⟨tg,iter,ifs,0⟩] scope pos) (some (.Name y py)) spos.line X.env=pure true:=by rfl) (hs:∀ x,foldedSetIterable iter X.env x=pure x:=by intro _;rfl)
 (hf:X.fn y=true∨X.env.scope.names.lookup y=some .local:=by first | exact .inl rfl | exact .inr rfl | assumption):
 PS X (.Assign [.Name y py] (.ListComp elt [⟨tg,iter,ifs,0⟩] scope pos) spos) (oT (ny ix wi g tc te) (lF i)):=by
 intro pins s σ H D0 I h
 rw [exec_Assign_Name_used _ _ _ _ hsw]
 refine wpAny_bind (wpAny_standAt (wpAny_bind ?_))
 show wpAny _ X.A (do let _ <-comprehension (.ListComp elt [⟨tg,iter,ifs,0⟩] scope pos) scope X.env _ (newList []) false (eval iter X.env) (some (assign (.Name y py) X.env))) _ _ s
 refine wpAny_bind (wpAny_mono (wpAny_comprehension_free (use:=some (assign (.Name y py) X.env)) (Q:=λ _ s'=>SP X pins D0 .next s') rfl hs (ni (S.cells I)) S.kind S.locs ?_) (λ _ s' hq=>wpAny_pure (wpAny_pure hq)) λ _ _ e=>e)
 refine bY (hit pins s σ H _ I h) λ v s1 h1=>bY h1 λ itv s2 h2=>?_
 refine pZ (Q:=λ x H1=>lF i x σ H1 D0.nx) (Rr:=λ acc C=>compPost (model X.prog X.w) X.A X.xe (some (assign (.Name y py) X.env)) (λ _ s'=>SP X pins D0 .next s') acc C) S hc hG hb h2 ?_
 intro s4 H' D C m ys hm fC _ I4 hDC q
 show wpAny _ X.A (assign (.Name y py) X.env (.ref D)) _ _ _
 obtain ⟨c0,c1,c2,c3,c4,c5⟩:=fC
 refine wpAny_assign_Name (pR (v:=.ref D) I4 hN hi hy rfl (λ s5 I5 hsb=>?_) hf)
 obtain ⟨a,hsa,ha⟩:=hsb
 have haC:C≠a:=by
  rcases ha with z | z
  . rw [z];exact c1
  . exact λ e=>c4 y a z e.symm
 refine ⟨m,hm.sameBut hsa haC,λ h' hs'=>?_⟩
 have hCn:(bZ H' D (.lst ys)) C=none:=by rw [aH hDC.symm];exact c0
 exact ⟨_,_,I5.turned (t':=s5.toks) (λ b o hb e=>hs'.extBut b o hb e) hCn c1 c3 c4 c5,q⟩
end
noncomputable def MW (K:Frag) (a b:Addr):It:=
 ⟨λ i H=>∃ xs ys x y,cD K H a xs/\cD K H b ys/\xs[i]?=some x/\ys[i]?=some y,
  λ i H v H'=>∃ p x y,H p=none/\v=.ref p/\H'=bZ H p (.tup [x,y])/\(∀ xs,cD K H a xs->xs[i]?=some x)/\∀ ys,cD K H b ys->ys[i]?=some y,
  λ i H=>∃ xs ys,cD K H a xs/\cD K H b ys/\(xs.length<=i∨ys.length<=i)⟩
def aL.turnedL {X:Cx} {pins:Δ} {σ:St} {H:Hp} {s:Shared} {h':Heap} {t':Nat} {ch:Ξ} (I:aL X pins σ H s) (hf:∀ b∈ch,jv X pins H b) (k:∀ b o,b∉ch->s.heap.get? b=some o->h'.get? b=some o):
 aL X pins σ H { s with heap:=h',toks:=t' }:=by
 have yj:∀ c t,H c=some t->c∉ch:=λ c t e hc=>by rw [(hf c hc).1] at e;cases e
 refine I.step (g':=s.gens) (d':=s.drawn) (ch:=ch) (λ c hc=>⟨(hf c hc).2.2.2.1,(hf c hc).2.1,(hf c hc).2.2.2.2.1,(hf c hc).2.2.2.2.2⟩) (λ c o _ _ hc e _=>k c o hc e) (λ c o _ _ hc e _=>⟨o.slots,k c o hc e⟩) (λ _ _ _ _ n=>n) (λ c o hc e=>⟨o,k c o hc e⟩)
  (λ _ _ e=>e) (λ _ _ _ e=>e) (λ c ps e=>⟨#[],by rw [e];simp⟩) (λ m hm=>?_) (λ c t e=>?_) I.bare
 . obtain ⟨o,es,ep,ho,r⟩:=hm
   exact ⟨o,es,ep,k _ o (λ hc=>(hf _ hc).2.1 rfl) ho,r⟩
 . refine (I.hok c t e).stay (λ d o hd q=>k d o ?_ q) (λ _ q=>q) λ _ _ q=>q
   rcases hd with hd | hd
   . rw [hd];exact yj c t e
   . exact yj d _ hd
def oZ {h:Heap} {a b z TI TO i1 i2:Addr} {u0 v0:Value} {i:Nat} {its jts:Array Value} (h12:i1≠i2) (hT:TI≠TO) (e1:IsZip h z TI TO .none) (e2:IsPair h TI (.ref i1) (.ref i2)) (e3:IsPair h TO u0 v0) (e4:h.IsListIter i1 a i) (e5:h.IsListIter i2 b i)
 (px:PlainL h a its) (py:PlainL h b jts):ZipApart z TI TO i1 i2 a b:=by
 obtain ⟨o4,g4,c4,_⟩:=id e4
 obtain ⟨o5,g5,c5,_⟩:=id e5
 obtain ⟨oa,na,ga,ca,_⟩:=id px
 obtain ⟨ob,nb,gb,cb,_⟩:=id py
 have ne:∀ {p q:Addr} {o o':Obj},h.get? p=some o->h.get? q=some o'->o.cls≠o'.cls->p≠q:=λ h h' d z=>by
  subst z;rw [h] at h';cases h';exact d rfl
 exact ⟨ne e2 e1 (by simp),ne e3 e1 (by simp),ne g4 e1 (by rw [c4];simp),ne g5 e1 (by rw [c5];simp),hT,ne e2 g4 (by rw [c4];simp),ne e2 g5 (by rw [c5];simp),ne e3 g4 (by rw [c4];simp),ne e3 g5 (by rw [c5];simp),h12,
  ne ga e1 (by rw [ca];simp),ne ga e3 (by rw [ca];simp),ne ga g4 (by rw [ca,c4];simp),ne ga g5 (by rw [ca,c5];simp),ne gb e1 (by rw [cb];simp),ne gb e3 (by rw [cb];simp),ne gb g4 (by rw [cb,c4];simp),ne gb g5 (by rw [cb,c5];simp)⟩
def AL {P:Program} {w:World} {K:Frag} {elts:List Expr} {x1} {pos:Pos} (a b z TI TO i1 i2:Addr) (h12:i1≠i2) (hT:TI≠TO):
 yh P w K (.Tuple elts x1 pos) (MW K a b) [z,TI,TO,i1,i2] z (λ i h=>IsZip h z TI TO .none/\IsPair h TI (.ref i1) (.ref i2)/\(∃ u v,IsPair h TO u v)/\h.IsListIter i1 a i/\h.IsListIter i2 b i) where
 mem:=by simp
 obj:=λ i h st c hc=>by
  obtain ⟨e1,e2,⟨u,v,e3⟩,⟨o4,e4,_,d4⟩,⟨o5,e5,_,d5⟩⟩:=st
  simp only [mem_cons,not_mem_nil,or_false] at hc
  rcases hc with rfl | rfl | rfl | rfl | rfl
  . exact ⟨_,e1,λ v z=>by cases z⟩
  . exact ⟨_,e2,λ v z=>by cases z⟩
  . exact ⟨_,e3,λ v z=>by cases z⟩
  . exact ⟨o4,e4,λ v z=>by rw [d4] at z;cases z⟩
  . exact ⟨o5,e5,λ v z=>by rw [d5] at z;cases z⟩
 keep:=λ i h h' st k=>by
  obtain ⟨e1,e2,⟨u,v,e3⟩,e4,e5⟩:=st
  exact ⟨k z (by simp) _ e1,k TI (by simp) _ e2,⟨u,v,k TO (by simp) _ e3⟩,e4.at λ o e=>k i1 (by simp) o e,e5.at λ o e=>k i2 (by simp) o e⟩
 item:=by
  intro X hP hw hK hc i pins s σ H E I hf st hg
  subst hP hw hK
  obtain ⟨xs,ys,x,y,qx,qy,hx,hy⟩:=hg
  obtain ⟨its,rvx,px,_⟩:=I.list qx
  obtain ⟨jts,rvy,py,_⟩:=I.list qy
  obtain ⟨u,hu,ru⟩:=rvx.get hx
  obtain ⟨v,hv,rv⟩:=rvy.get hy
  obtain ⟨e1,e2,⟨u0,v0,e3⟩,e4,e5⟩:=st
  have D:=oZ h12 hT e1 e2 e3 e4 e5 px py
  refine wpAny_pyNext_zip_item D e1 e2 e3 e4 e5 px.isList py.isList (x:=u) (y:=v) (by simpa using hu) (by simpa using hv) λ h' a1 a2 a3 a4 a5 a6 a7=>?_
  refine ⟨_,rfl,wpAny_letOwnedTupleGo_zip (s:={ s with heap:=h' }) a1 λ h'' b1 b2=>?_⟩
  have hTn:H s.heap.objs.size=none:=I.hok.fresh (le_refl _)
  have big:∀ {c:Addr} {o:Obj},s.heap.get? c=some o->c≠s.heap.objs.size:=λ e=>ne_of_lt (lt_size e)
  have hTz:s.heap.objs.size≠z:=(big e1).symm
  have k2:∀ c o,c≠z->c≠TO->c≠i1->c≠i2->s.heap.get? c=some o->h''.get? c=some o:=λ c o c1 c2 c3 c4 e=>(b2.2 c c1).trans (a7 c o c1 c2 c3 c4 e)
  have eT:IsPair h'' s.heap.objs.size u v:=(b2.2 _ hTz).trans a5
  have fpz:=hf z (by simp)
  have fpO:=hf TO (by simp)
  have fp1:=hf i1 (by simp)
  have fp2:=hf i2 (by simp)
  have nin:∀ c,c∉[z,TO,i1,i2]->c≠z/\c≠TO/\c≠i1/\c≠i2:=λ c hc=>by
   simp only [mem_cons,not_mem_nil,or_false,not_or] at hc
   exact hc
  have inn:∀ c∈[z,TO,i1,i2],jv X pins H c:=λ c hc=>by
   simp only [mem_cons,not_mem_nil,or_false] at hc
   rcases hc with rfl | rfl | rfl | rfl
   . exact fpz
   . exact fpO
   . exact fp1
   . exact fp2
  have yj:∀ c t,H c=some t->c∉[z,TO,i1,i2]:=λ c t e hc=>by rw [(inn c hc).1] at e;cases e
  have I1:aL X pins σ (bZ H s.heap.objs.size (.tup [x,y])) { s with heap:=h'',gens:=s.gens,drawn:=s.drawn,toks:=s.toks }:=by
   refine I.step (ch:=[z,TO,i1,i2]) (λ c hc=>⟨(inn c hc).2.2.2.1,(inn c hc).2.1,(inn c hc).2.2.2.2.1,(inn c hc).2.2.2.2.2⟩) (λ c o _ _ hc e _=>?_) (λ c o _ _ hc e _=>?_) (λ c o hc e n=>?_) (λ c o hc e=>?_) (λ c t e=>?_) (λ c o t e=>?_) (λ c ps e=>?_) (λ m hm=>?_) (λ c t e=>?_) I.bare
   . obtain ⟨c1,c2,c3,c4⟩:=nin c hc;exact k2 c o c1 c2 c3 c4 e
   . obtain ⟨c1,c2,c3,c4⟩:=nin c hc;exact ⟨o.slots,k2 c o c1 c2 c3 c4 e⟩
   . rw [aH (big e)];exact n
   . obtain ⟨c1,c2,c3,c4⟩:=nin c hc;exact ⟨o,k2 c o c1 c2 c3 c4 e⟩
   . rw [aH (be e hTn)];exact e
   . rw [aH (be e hTn)];exact e
   . exact ⟨#[],by rw [aH (be e hTn),e];simp⟩
   . obtain ⟨o,es,ep,ho,r⟩:=hm
     obtain ⟨c1,c2,c3,c4⟩:=nin X.env.locals (λ hc=>(inn _ hc).2.1 rfl)
     exact ⟨o,es,ep,k2 _ o c1 c2 c3 c4 ho,r⟩
   . by_cases hcT:c=s.heap.objs.size
     . subst hcT
       rw [aJ] at e
       cases e
       exact ⟨by show 2<=sizeLine;decide,[u,v],.cons ru (.cons rv .nil),⟨_,eT,rfl,_,rfl⟩⟩
     . rw [aH hcT] at e
       refine (I.hok c t e).stay (λ d o hd q=>?_) (λ d q=>by rw [aH (be q hTn)];exact q) λ d zs q=>by rw [aH (be q hTn)];exact q
       have hd':d∉[z,TO,i1,i2]:=by
        rcases hd with hd | hd
        . rw [hd];exact yj c t e
        . exact yj d _ hd
       obtain ⟨c1,c2,c3,c4⟩:=nin d hd'
       exact k2 d o c1 c2 c3 c4 q
  refine ⟨.ref s.heap.objs.size,_,I1,rfl,⟨s.heap.objs.size,x,y,hTn,rfl,rfl,λ zs hz=>by rw [I.list_inj hz qx];exact hx,λ zs hz=>by rw [I.list_inj hz qy];exact hy⟩,
   ⟨b1,k2 _ _ D.TIz D.TITO D.TIi1 D.TIi2 e2,⟨u,v,(b2.2 _ D.TOz).trans a2⟩,a3.at λ o e=>(b2.2 _ D.i1z).trans e,a4.at λ o e=>(b2.2 _ D.i2z).trans e⟩,λ c hc=>?_⟩
  have hcn:∀ c∈[z,TI,TO,i1,i2],c≠s.heap.objs.size:=λ c hc=>by
   obtain ⟨o4,g4,_⟩:=id e4
   obtain ⟨o5,g5,_⟩:=id e5
   simp only [mem_cons,not_mem_nil,or_false] at hc
   rcases hc with rfl | rfl | rfl | rfl | rfl
   . exact big e1
   . exact big e2
   . exact big e3
   . exact big g4
   . exact big g5
  rw [aH (hcn c hc)]
  exact (hf c hc).1
 done:=by
  intro X hP hw hK hc i pins s σ H E I hf st hg
  subst hP hw hK
  obtain ⟨xs,ys,qx,qy,hl⟩:=hg
  obtain ⟨its,rvx,px,_⟩:=I.list qx
  obtain ⟨jts,rvy,py,_⟩:=I.list qy
  obtain ⟨e1,e2,⟨u0,v0,e3⟩,e4,e5⟩:=st
  have D:=oZ h12 hT e1 e2 e3 e4 e5 px py
  have lx:=rvx.length
  have ly:=rvy.length
  refine wpAny_pyNext_zip_end (I.ok.hd hc) D e1 e2 e3 e4 e5 px.isList py.isList ?_ λ h' k=>⟨rfl,I.turnedL (t':=s.toks) (ch:=[z,TO,i1,i2]) (λ c hc=>hf c ?_) λ c o hc e=>?_⟩
  . rcases hl with hl | hl
    . exact .inl (by simp;omega)
    . exact .inr (by simp;omega)
  . simp only [mem_cons,not_mem_nil,or_false] at hc ⊢
    rcases hc with h | h | h | h
    . exact .inl h
    . exact .inr (.inr (.inl h))
    . exact .inr (.inr (.inr (.inl h)))
    . exact .inr (.inr (.inr (.inr h)))
  . simp only [mem_cons,not_mem_nil,or_false,not_or] at hc
    exact k c o hc.1 hc.2.1 hc.2.2.1 hc.2.2.2 e
 self:=λ _ _ _ _ _ st h=>wpAny_pyIter_zip st.1 h
noncomputable def GN (K:Frag) (ta:TA):TI:=λ σ H R=>ta σ H λ vs H1=>∃ a b,vs=[.ref a,.ref b]/\(∃ xs,cD K H1 a xs)/\(∃ ys,cD K H1 b ys)/\R (MW K a b) H1
def ID {X:Cx} {elts:List Expr} {x1} {tpos:Pos} {a b:Expr} {ta:TA} {p pos:Pos} (hg:Gl X "zip") (hm:X.mg "zip" = none) (ha:PA X [a,b] ta) (hs:starEach [a,b] X.env=[(false,eval a X.env),(false,eval b X.env)]:=by rfl) (hs2:starEach [b] X.env=[(false,eval b X.env)]:=by rfl):
 PI X (.Tuple elts x1 tpos) (.Call (.Name "zip" p) [a,b] [] pos) (GN X.K ta):=by
 intro pins s σ H R I h
 refine Call_ (kS I hg hm boot_zip (PyProof.Rows.callWith_type1 (bY (ha pos pins s σ H _ I h) λ us s1 hq0=>?_) (by rw [hs,hs2]) (by rw [hs2];rfl)))
 obtain ⟨vs,H1,I1,r1,q1⟩:=hq0
 obtain ⟨a,b,e,⟨xs,qx⟩,⟨ys,qy⟩,q⟩:=q1
 subst e
 cases r1 with
 | cons r rr=>
  cases rr with
  | cons r' rr=>
   cases rr
   cases r
   cases r'
   obtain ⟨its,rvx,px,_⟩:=I1.list qx
   obtain ⟨jts,rvy,py,_⟩:=I1.list qy
   refine call_zip_2 px.isList py.isList λ h' g5 g3 g4 g1 g2 z5 k=>?_
   refine wpAny_pyIter_zip (s:={ s1 with heap:=h' }) g5 ?_
   refine ⟨s1.heap.objs.size+4,[s1.heap.objs.size+4,s1.heap.objs.size+2,s1.heap.objs.size+3,s1.heap.objs.size,s1.heap.objs.size+1],_,_,H1,rfl,I1.kept (t':=s1.toks) k,AL a b _ _ _ _ _ (ne_of_lt (lt_succ_self _)) (ne_of_lt (lt_succ_self _)),⟨g5,g3,⟨_,_,g4⟩,g1,g2⟩,λ c hc=>?_,q⟩
   have hc':s1.heap.objs.size<=c:=by
    simp only [mem_cons,not_mem_nil,or_false] at hc
    rcases hc with h | h | h | h | h <;> subst h <;> first
     | exact le_refl _
     | exact Nat.le_add_right _ _
   exact I1.fpOk hc' (I1.hok.fresh hc')
noncomputable def Mz (T:String):Option Bool:=if T = "int" then some true else if T = "bool" then some false else if T = "str" then some false else if T = "list" then some false else if T = "tuple" then some false else if T = "dict" then some false else none
noncomputable def NF (T:String):Option Bool:=if T = "int" then some true else if T = "bool" then some true else if T = "str" then some false else if T = "list" then some false else if T = "tuple" then some false else if T = "dict" then some false else none
noncomputable def Np (T:String):Option Bool:=if T = "int" then some false else if T = "bool" then some false else if T = "str" then some true else if T = "list" then some false else if T = "tuple" then some false else if T = "dict" then some false else none
noncomputable def Gx (v:V) (T:String):Option Bool:=match v with
 | .int _=>Mz T
 | .bl _=>NF T
 | .str _=>Np T
 | _=>none
section
variable {X:Cx}
noncomputable def E7 (i j:Int):Prop:=j≠0/\j.natAbs<2^512
def Jj:fP X (binaryOp .FloorDiv) (rI E7 λ i j=>.int (i.fdiv j)):=Lu λ i j _ _ _ _ _ hc q=>floordiv_int hc.1 q (.inl (PyProof.noPylong_of_log2 (by
 by_cases h0:j.natAbs=0
 . rw [h0];decide +kernel
 . have:=(Nat.log2_lt h0).mpr hc.2
   omega)))
def Ma:fP X (binaryOp .Mod) (rI (λ _ j=>j≠0) λ i j=>.int (i.fmod j)):=Ed
def uX {scope:Scope} {N:Ω} {ix:Λ} (kind:scope.kind=.function) (nocell:(scope.names.all λ y=>y.2 != .cell)=true) (locs:(scope.names.all λ y=>y.2 != .local||scope.names.lookup y.1==some .local)=true)
 (free:(scope.names.all λ y=>y.2 != .free||X.env.kindOf y.1==some .cell||X.env.kindOf y.1==some .free)=true) (len:ix.length=N.length) (nd:N.Nodup)
 (fr:((ix.zip N).all λ p=>match p.1 with
  | none=>true
  | some i=>X.N[i]?==some p.2&&(X.env.kindOf p.2==some .cell||X.env.kindOf p.2==some .free)&&((relabel scope X.env).names.lookup p.2==some .cell||(relabel scope X.env).names.lookup p.2==some .free))=true):bH X scope N ix:=by
 refine ⟨kind,λ y hy=>?_,λ y hy hl=>?_,λ y hy hf=>?_,len,nd,λ j i e=>?_⟩
 . have:=all_eq_true.mp nocell y hy
   simpa using this
 . have:=all_eq_true.mp locs y hy
   rw [hl] at this
   simpa using this
 . have:=all_eq_true.mp free y hy
   rw [hf] at this
   simpa using this
 . have hj:j<ix.length:=(oG e).1
   have hj':j<N.length:=by omega
   have hm:(ix.zip N)[j]?=some (some i,N[j]):=by
    rw [List.getElem?_zip_eq_some]
    exact ⟨e,by simp [hj']⟩
   have:=all_eq_true.mp fr _ (mem_of_getElem? hm)
   simp only [and_eq_true,or_eq_true,beq_iff_eq] at this
   exact ⟨N[j],by simp [hj'],this.1.1,this.1.2,this.2⟩
end
section
variable {K:Frag} {a b:Addr} {xs ys:List V} {wi:TI} {g:TG} {tb:TS} {D:iI} {σ:St} {H H1:Hp} {ix:Λ} {tc:TT} {te:TE} {Q:VK}
end
def aL.turnedTup {X:Cx} {pins:Δ} {σ:St} {H:Hp} {s:Shared} {h':Heap} {t':Nat} {ch:Ξ} {T:Addr} {xs:List V} {its:Φ} (I:aL X pins σ H s) (hf:∀ b∈ch,jv X pins H b)
 (k:∀ b o,b∉ch->s.heap.get? b=some o->h'.get? b=some o) (hT:s.heap.objs.size<=T) (eT:IsTup h' T its.toArray) (r:bb xs its) (hz:xs.length<=sizeLine):aL X pins σ (bZ H T (.tup xs)) { s with heap:=h',toks:=t' }:=by
 have hTn:H T=none:=I.hok.fresh hT
 have big:∀ {c:Addr} {o:Obj},s.heap.get? c=some o->c≠T:=λ e=>ne_of_lt (lt_of_lt_of_le (lt_size e) hT)
 have yj:∀ c t,H c=some t->c∉ch:=λ c t e hc=>by rw [(hf c hc).1] at e;cases e
 refine I.step (g':=s.gens) (d':=s.drawn) (ch:=ch) (λ c hc=>⟨(hf c hc).2.2.2.1,(hf c hc).2.1,(hf c hc).2.2.2.2.1,(hf c hc).2.2.2.2.2⟩) (λ c o _ _ hc e _=>k c o hc e) (λ c o _ _ hc e _=>⟨o.slots,k c o hc e⟩) (λ c o hc e n=>?_) (λ c o hc e=>⟨o,k c o hc e⟩) (λ c t e=>?_) (λ c o t e=>?_) (λ c ps e=>?_) (λ m hm=>?_) (λ c t e=>?_) I.bare
 . rw [aH (big e)];exact n
 . rw [aH (be e hTn)];exact e
 . rw [aH (be e hTn)];exact e
 . exact ⟨#[],by rw [aH (be e hTn),e];simp⟩
 . obtain ⟨o,es,ep,ho,r⟩:=hm
   exact ⟨o,es,ep,k _ o (λ hc=>(hf _ hc).2.1 rfl) ho,r⟩
 . by_cases hcT:c=T
   . subst hcT
     rw [aJ] at e
     cases e
     exact ⟨hz,its,r,eT⟩
   . rw [aH hcT] at e
     refine (I.hok c t e).stay (λ d o hd q=>k d o ?_ q) (λ d q=>by rw [aH (be q hTn)];exact q) λ d zs q=>by rw [aH (be q hTn)];exact q
     rcases hd with hd | hd
     . rw [hd];exact yj c t e
     . exact yj d _ hd
noncomputable def M1 (K:Frag) (a:Addr):It:=
 ⟨λ i H=>∃ xs x,cD K H a xs/\xs[i]?=some x,
  λ i H v H'=>∃ p x,H p=none/\v=.ref p/\H'=bZ H p (.tup [.int i,x])/\∀ xs,cD K H a xs->xs[i]?=some x,
  λ i H=>∃ xs,cD K H a xs/\xs.length<=i⟩
def yl {P:Program} {w:World} {K:Frag} {elts:List Expr} {x1} {pos:Pos} (a e it:Addr) (hei:e≠it):
 yh P w K (.Tuple elts x1 pos) (M1 K a) [e,it] e (λ i h=>(∃ old,IsEnum h e it i old)/\h.IsListIter it a i) where
 mem:=by simp
 obj:=λ i h st c hc=>by
  obtain ⟨⟨old,e1⟩,⟨o4,e4,_,d4⟩⟩:=st
  simp only [mem_cons,not_mem_nil,or_false] at hc
  rcases hc with rfl | rfl
  . exact ⟨_,e1,λ v z=>by cases z⟩
  . exact ⟨o4,e4,λ v z=>by rw [d4] at z;cases z⟩
 keep:=λ i h h' st k=>by
  obtain ⟨⟨old,e1⟩,e4⟩:=st
  exact ⟨⟨old,k e (by simp) _ e1⟩,e4.at λ o q=>k it (by simp) o q⟩
 item:=by
  intro X hP hw hK hc i pins s σ H E I hf st hg
  subst hP hw hK
  obtain ⟨xs,x,qx,hx⟩:=hg
  obtain ⟨its,rvx,px,_⟩:=I.list qx
  obtain ⟨u,hu,ru⟩:=rvx.get hx
  obtain ⟨⟨old,e1⟩,e4⟩:=st
  have big:∀ {c:Addr} {o:Obj},s.heap.get? c=some o->c≠s.heap.objs.size:=λ e=>ne_of_lt (lt_size e)
  refine wpAny_pyNext_enum_item e1 e4 px.isList (x:=u) (by simpa using hu) hei λ h' a1 a2 a3 a4 a5=>?_
  refine ⟨_,rfl,wpAny_letOwnedTupleGo_enum (s:={ s with heap:=h',toks:=s.toks+1 }) a1 λ h'' b1 b2=>?_⟩
  have k2:∀ c o,c∉[e,it]->s.heap.get? c=some o->h''.get? c=some o:=λ c o hc q=>by
   simp only [mem_cons,not_mem_nil,or_false,not_or] at hc
   exact (b2.2 c hc.1).trans (a5 c o hc.1 hc.2 q)
  have eT:IsTup h'' s.heap.objs.size (List.toArray [.int i s.toks,u]):=⟨_,(b2.2 _ (big e1).symm).trans a3,rfl,_,rfl⟩
  have I1:=I.turnedTup (t':=s.toks+1) (xs:=[.int i,x]) hf k2 (le_refl _) eT (.cons ⟨_,rfl⟩ (.cons ru .nil)) (by show 2<=sizeLine;decide)
  refine ⟨.ref s.heap.objs.size,_,I1,rfl,⟨s.heap.objs.size,x,I.hok.fresh (le_refl _),rfl,rfl,λ zs hz=>by rw [I.list_inj hz qx];exact hx⟩,⟨⟨u,by simpa using b1⟩,a2.at λ o q=>(b2.2 _ hei.symm).trans q⟩,λ c hc=>?_⟩
  have hcn:c≠s.heap.objs.size:=by
   obtain ⟨o4,g4,_⟩:=id e4
   simp only [mem_cons,not_mem_nil,or_false] at hc
   rcases hc with rfl | rfl
   . exact big e1
   . exact big g4
  rw [aH hcn]
  exact (hf c hc).1
 done:=by
  intro X hP hw hK hc i pins s σ H E I hf st hg
  subst hP hw hK
  obtain ⟨xs,qx,hl⟩:=hg
  obtain ⟨its,rvx,px,_⟩:=I.list qx
  obtain ⟨⟨old,e1⟩,e4⟩:=st
  have lx:=rvx.length
  obtain ⟨f0,f1,f2,f3,f4,f5⟩:=hf it (by simp)
  exact wpAny_pyNext_enum_end (I.ok.hd hc) e1 e4 px.isList (by simp;omega) λ h' k=>⟨rfl,I.turned (t':=s.toks) (λ b o hb q=>k b o hb q) f0 f1 f3 f4 f5⟩
 self:=λ _ _ _ _ _ st h=>by
  obtain ⟨⟨old,e1⟩,_⟩:=st
  exact wpAny_pyIter_enum e1 h
noncomputable def Ad (K:Frag) (ta:TA):TI:=λ σ H R=>ta σ H λ vs H1=>∃ a,vs=[.ref a]/\(∃ xs,cD K H1 a xs)/\R (M1 K a) H1
def Ez {X:Cx} {elts:List Expr} {x1} {tpos:Pos} {a:Expr} {ta:TA} {p pos:Pos} (hg:Gl X "enumerate") (hm:X.mg "enumerate" = none) (ha:PA X [a] ta) (hs:starEach [a] X.env=[(false,eval a X.env)]:=by rfl):
 PI X (.Tuple elts x1 tpos) (.Call (.Name "enumerate" p) [a] [] pos) (Ad X.K ta):=by
 intro pins s σ H R I h
 refine Call_ (kS I hg hm boot_enumerate (PyProof.Rows.callWith_type1 (bY (ha pos pins s σ H _ I h) λ us s1 hq0=>?_) hs rfl))
 obtain ⟨vs,H1,I1,r1,q1⟩:=hq0
 obtain ⟨a,e,⟨xs,qx⟩,q⟩:=q1
 subst e
 cases r1 with
 | cons r rr=>
  cases rr
  cases r
  obtain ⟨its,rvx,px,_⟩:=I1.list qx
  refine call_enumerate_list px.isList λ h' g5 g1 z5 k=>?_
  refine wpAny_pyIter_enum (s:={ s1 with heap:=h' }) g5 ?_
  refine ⟨s1.heap.objs.size+1,[s1.heap.objs.size+1,s1.heap.objs.size],_,_,H1,rfl,I1.kept (t':=s1.toks) k,yl a _ _ (Nat.ne_of_gt (lt_succ_self _)),⟨⟨_,g5⟩,g1⟩,λ c hc=>?_,q⟩
  have hc':s1.heap.objs.size<=c:=by
   simp only [mem_cons,not_mem_nil,or_false] at hc
   rcases hc with h | h <;> subst h <;> first
    | exact le_refl _
    | exact Nat.le_add_right _ _
  exact I1.fpOk hc' (I1.hok.fresh hc')
mutual
inductive Dp (K:Frag) (H:Hp):V->PyData->Prop
 | non:Dp K H .non .none
 | bl (b:Bool):Dp K H (.bl b) (.bool b)
 | int (i:Int):Dp K H (.int i) (.int i)
 | str (x:Str):Dp K H (.str x) (.str x)
 | lst {a:Addr} {xs:List V} {ds:List PyData}:cD K H a xs->ik K H xs ds->Dp K H (.ref a) (.list ds)
 | tup {a:Addr} {xs:List V} {ds:List PyData}:eK K H a xs->ik K H xs ds->Dp K H (.ref a) (.tuple ds)
inductive ik (K:Frag) (H:Hp):List V->List PyData->Prop
 | nil:ik K H [] []
 | cons {v:V} {vs:List V} {d:PyData} {ds:List PyData}:Dp K H v d->ik K H vs ds->ik K H (v::vs) (d::ds)
end
def Dp.reads {X:Cx} {pins:Δ} {σ:St} {H:Hp} {s:Shared} (I:aL X pins σ H s) {v:V} {d:PyData} {u:Value} (h:Dp X.K H v d):bc v u->∃ as,Reads s.heap u d as:=
 Dp.rec (motive_1:=λ v d _=>∀ u,bc v u->∃ as,Reads s.heap u d as) (motive_2:=λ vs ds _=>∀ us,bb vs us->∃ as,ReadsAll s.heap us ds as)
  (λ u r=>by cases r;exact ⟨_,.none⟩) (λ b u r=>by cases r;exact ⟨_,.bool b⟩) (λ i u r=>by obtain ⟨t,rfl⟩:=r;exact ⟨_,.int i t⟩) (λ x u r=>by obtain ⟨t,rfl⟩:=r;exact ⟨_,.str x t⟩)
  (λ q _ ih u r=>by
   cases r
   obtain ⟨its,rv,⟨o,n,e,c,_,d⟩,_⟩:=I.list q
   obtain ⟨as,ra⟩:=ih _ rv
   exact ⟨_,.list e c d (by simpa using ra)⟩)
  (λ q _ ih u r=>by
   cases r
   obtain ⟨its,rv,⟨o,e,c,n,d⟩,_⟩:=I.tuple q
   obtain ⟨as,ra⟩:=ih _ rv
   exact ⟨_,.tuple e c d (by simpa using ra)⟩)
  (λ us r=>by cases r;exact ⟨_,.nil⟩)
  (λ _ _ ih1 ih2 us r=>by
   cases r with
   | cons r rr=>
    obtain ⟨as,ra⟩:=ih1 _ r
    obtain ⟨bs,rb⟩:=ih2 _ rr
    exact ⟨_,.cons ra rb⟩) h u
noncomputable def Dg (K:Frag) (neg:Bool):R2:=λ x y H Q=>∃ d e,Dp K H x d/\Dp K H y e/\d.canLay0=true/\e.canLay0=true/\d.depth<=64/\Q (.bl (if neg then !(PyData.eqv d e) else PyData.eqv d e)) H
def FJ {X:Cx} (hu:X.A.units+64<cLine):fP X (compareOp .Eq) (Dg X.K false):=by
 intro pins s σ H x y v u Q I rx ry h
 obtain ⟨d,e,hx,hy,cd,ce,dd,q⟩:=h
 obtain ⟨as,ra⟩:=hx.reads I rx
 obtain ⟨bs,rb⟩:=hy.reads I ry
 exact SeqAt.compareEq_reads ra rb cd ce (by omega) ⟨.bl _,H,I,rfl,by simpa using q⟩
def Gy {X:Cx} (hu:X.A.units+64<cLine):fP X (compareOp .NotEq) (Dg X.K true):=by
 intro pins s σ H x y v u Q I rx ry h
 obtain ⟨d,e,hx,hy,cd,ce,dd,q⟩:=h
 obtain ⟨as,ra⟩:=hx.reads I rx
 obtain ⟨bs,rb⟩:=hy.reads I ry
 exact SeqAt.compareNe_reads ra rb cd ce (by omega) ⟨.bl _,H,I,rfl,by simpa using q⟩
section
variable {P:Program} {w:World} {K:Frag} {mg:Θ} {base:Heap} {N:Ω} {qual:Str} {scope:Scope} {f:Addr} {cd:Value} {A:Around} {outer:List Env} {s:Shared} {H:Hp} {E:XK}
end
section
variable {X:Cx} {E:XK} {C:Addr} {x:Str} {np cpos pos:Pos} {e:Expr} {es:List Expr} {t:TA}
end
section
variable {K:Frag} {x D:Addr}
variable {prog:Program} {w:World} {A:Around} {E:Γ} {s:Shared} {nm:Str}
end
section
variable {X:Cx}
end
section
variable {κ:Type} [DecidableEq κ]
noncomputable def eL (kvs:List (κ×V)) (k:κ):Option V:=(kvs.find? λ kv=>decide (kv.1=k)).map (·.2)
noncomputable def eX (kvs:List (κ×V)) (k:κ) (v:V):List (κ×V):=
 if (kvs.any λ kv=>decide (kv.1=k))=true then kvs.map (λ kv=>if kv.1=k then (kv.1,v) else kv) else kvs++[(k,v)]
def iy {p:κ×V} {r:List (κ×V)} {k:κ} (e:p.1=k):eL (p::r) k=some p.2:=by simp [eL,find?_cons,e]
def gG {p:κ×V} {r:List (κ×V)} {k:κ} (e:¬ p.1=k):eL (p::r) k=eL r k:=by simp [eL,find?_cons,e]
def mH (k:κ):∀ kvs:List (κ×V),(kvs.any λ kv=>decide (kv.1=k))=(eL kvs k).isSome
 | []=>rfl
 | p::r=>by
  rw [any_cons]
  by_cases e:p.1=k
  . simp only [iy e,decide_eq_true e,Bool.true_or,isSome_some]
  . rw [gG e,decide_eq_false e,Bool.false_or];exact mH k r
def iG (kvs:List (κ×V)) (k:κ) (v:V):(eX kvs k v).length<=kvs.length+1:=by
 unfold eX
 split
 . rw [length_map];omega
 . rw [length_append,length_cons,length_nil];omega
def Bf {kvs:List (κ×V)} {k:κ} (v:V) (h:eL kvs k=none):eX kvs k v=kvs++[(k,v)]:=by
 unfold eX
 rw [mH,h]
 exact if_neg (by decide)
def hZ.isSome_eq {o:Option V} {u:Option Value} (r:hZ o u):o.isSome=u.isSome:=by
 cases o with
 | none=>cases u with
  | none=>rfl
  | some _=>exact (show False from r).elim
 | some _=>cases u with
  | none=>exact (show False from r).elim
  | some _=>rfl
def hZ.getD {o:Option V} {u:Option Value} {d:V} {d':Value} (r:hZ o u) (rd:bc d d'):bc (o.getD d) (u.getD d'):=by
 cases o with
 | none=>cases u with
  | none=>exact rd
  | some _=>exact (show False from r).elim
 | some _=>cases u with
  | none=>exact (show False from r).elim
  | some _=>exact r
def KV.val {kvs:List (κ×V)} {vs:List (κ×Value)} (r:KV kvs vs) (k:κ):hZ (eL kvs k) (valueAt vs k):=by
 unfold KV at r
 induction r with
 | nil=>exact True.intro
 | @cons p q ps qs h t ih=>
  obtain ⟨h1,h2⟩:=h
  by_cases e:p.1=k
  . have e':q.1=k:=h1.symm.trans e
    have b:valueAt (q::qs) k=some q.2:=by simp [valueAt,find?_cons,e']
    rw [iy e,b];exact h2
  . have e':¬ q.1=k:=λ z=>e (h1.trans z)
    have b:valueAt (q::qs) k=valueAt qs k:=by simp [valueAt,find?_cons,e']
    rw [gG e,b];exact ih
def KV.any {kvs:List (κ×V)} {vs:List (κ×Value)} (r:KV kvs vs) (k:κ):(kvs.any λ kv=>decide (kv.1=k))=vs.any λ kv=>decide (kv.1=k):=by
 unfold KV at r
 induction r with
 | nil=>rfl
 | cons h t ih=>rw [any_cons,any_cons,ih,h.1]
def KV.repl {kvs:List (κ×V)} {vs:List (κ×Value)} (r:KV kvs vs) (k:κ) {y:V} {u:Value} (ry:bc y u):
 KV (kvs.map λ kv=>if kv.1=k then (kv.1,y) else kv) (vs.map λ kv=>if kv.1=k then (kv.1,u) else kv):=by
 unfold KV at r ⊢
 induction r with
 | nil=>exact .nil
 | @cons p q ps qs h t ih=>
  rw [map_cons,map_cons]
  refine .cons ?_ ih
  obtain ⟨h1,h2⟩:=h
  by_cases e:p.1=k
  . rw [if_pos e,if_pos (h1.symm.trans e)];exact ⟨h1,ry⟩
  . rw [if_neg e,if_neg (λ z=>e (h1.trans z))];exact ⟨h1,h2⟩
def KV.put {kvs:List (κ×V)} {vs:List (κ×Value)} (r:KV kvs vs) (k:κ) {y:V} {u:Value} (ry:bc y u):KV (eX kvs k y) (stored vs k u):=by
 unfold eX stored
 rw [r.any k]
 by_cases e:(vs.any λ kv=>decide (kv.1=k))=true
 . rw [if_pos e,if_pos e];exact r.repl k ry
 . rw [if_neg e,if_neg e];exact Paired.snoc r ⟨rfl,ry⟩
def KV.length {kvs:List (κ×V)} {vs:List (κ×Value)} (r:KV kvs vs):kvs.length=vs.length:=Paired.length r
end
def pE {P:Program} {w:World} {k:aA} {u:Value} (r:bc (kV k) u):(bq P w).is k u=true:=by
 cases k with
 | inl i=>obtain ⟨t,e⟩:=(show ∃ t,u=Value.int i t from r);subst e;exact sS P w i t
 | inr x=>obtain ⟨t,e⟩:=(show ∃ t,u=Value.str x t from r);subst e;exact sP P w x t
def pJ {P:Program} {w:World}:∀ {ks:List aA} {us:Φ},bb (ks.map kV) us->ItemsAre (bq P w) ks us
 | [],_,r=>by rw [map_nil] at r;cases r;exact .nil
 | k::ks,_,r=>by
  rw [map_cons] at r
  cases r with
  | cons h t=>exact .cons (pE h) (pJ t)
noncomputable abbrev KT (H:Hp):List (List aA×V)->List (List aA×Addr×Value)->Prop:=Paired λ p q=>p.1=q.1/\H q.2.1=some (.tup (p.1.map kV))/\bc p.2 q.2.2
def KT.val {H:Hp} {kvs:List (List aA×V)} {xs:List (List aA×Addr×Value)} (r:KT H kvs xs) (k:List aA):hZ (eL kvs k) ((atKey xs k).map (·.2)):=by
 induction r with
 | nil=>exact True.intro
 | @cons p q ps qs h t ih=>
  obtain ⟨h1,_,h2⟩:=h
  by_cases e:p.1=k
  . have e':q.1=k:=h1.symm.trans e
    have b:atKey (q::qs) k=some q.2:=by simp [atKey,find?_cons,e']
    rw [iy e,b];exact h2
  . have e':¬ q.1=k:=λ z=>e (h1.trans z)
    have b:atKey (q::qs) k=atKey qs k:=by simp [atKey,find?_cons,e']
    rw [gG e,b];exact ih
def KT.repl {H:Hp} {kvs:List (List aA×V)} {xs:List (List aA×Addr×Value)} (r:KT H kvs xs) (k:List aA) {y:V} {u:Value} (ry:bc y u):
 KT H (kvs.map λ kv=>if kv.1=k then (kv.1,y) else kv) (xs.map (putAt k u)):=by
 induction r with
 | nil=>exact .nil
 | @cons p q ps qs h t ih=>
  rw [map_cons,map_cons]
  refine .cons ?_ ih
  obtain ⟨h1,h2,h3⟩:=h
  unfold putAt
  by_cases e:p.1=k
  . rw [if_pos e,if_pos (h1.symm.trans e)];exact ⟨h1,h2,ry⟩
  . rw [if_neg e,if_neg (λ z=>e (h1.trans z))];exact ⟨h1,h2,h3⟩
def KT.put {H:Hp} {kvs:List (List aA×V)} {xs:List (List aA×Addr×Value)} (r:KT H kvs xs) (k:List aA) {b:Addr} {y:V} {u:Value} (hb:H b=some (.tup (k.map kV))) (ry:bc y u):
 KT H (eX kvs k y) (storedH xs k b u):=by
 have e:(kvs.any λ kv=>decide (kv.1=k))=(atKey xs k).isSome:=by
  rw [mH,(r.val k).isSome_eq,isSome_map]
 unfold eX storedH
 rw [e]
 by_cases q:(atKey xs k).isSome=true
 . rw [if_pos q,if_pos q];exact r.repl k ry
 . rw [if_neg q,if_neg q];exact Paired.snoc r ⟨rfl,hb,ry⟩
def KT.keeps {H H':Hp} {kvs:List (List aA×V)} {xs:List (List aA×Addr×Value)} (r:KT H kvs xs) (ht:∀ b ys,H b=some (.tup ys)->H' b=some (.tup ys)):KT H' kvs xs:=
 Paired.mapP r λ _ _ z=>⟨z.1,ht _ _ z.2.1,z.2.2⟩
section
variable {P:Program} {w:World} {H:Hp} {h:Heap} {a:Addr}
def Fc {u:HO} (ok:je P w H h) (e:Rd H a u):cH P w H h a u:=e.ok ok
def si {kvs:List (aA×V)} (ok:je P w H h) (e:Rd H a (.dK kvs)):kvs.length<=sizeLine/\(a==sysModules)=false/\∃ vs,KV kvs vs/\h.DictOf (bq P w) a vs:=
 show cH P w H h a (.dK kvs) from Fc ok e
def Fw {kvs:List (aA×V)} (ok:je P w H h) (e:H a=some (.dK kvs)):kvs.length<=sizeLine/\(a==sysModules)=false/\∃ vs,KV kvs vs/\h.DictOf (bq P w) a vs:=si ok (.inl e)
def kJ {ks:List aA} (ok:je P w H h) (e:H a=some (.tup (ks.map kV))):(tupleKind (bq P w)).is h ks a:=by
 obtain ⟨_,its,r,o,h1,h2,n,h3⟩:=(show cH P w H h a (.tup (ks.map kV)) from ok a _ e)
 exact ⟨o,its.toArray,n,h1,h2,h3,by simpa using pJ r⟩
def tf {kvs:List (List aA×V)} (ok:je P w H h) (e:Rd H a (.dT kvs)):kvs.length<=sizeLine/\(a==sysModules)=false/\
 ∃ xs,KT H kvs xs/\h.DictOfH (tupleKind (bq P w)) a xs:=by
 obtain ⟨z,y,xs,r,o,es,ep,h1,h2,h3,h4,h5⟩:=(show cH P w H h a (.dT kvs) from Fc ok e)
 refine ⟨z,y,xs,r,o,es,ep,h1,h2,h3,h4,λ x hx=>?_,h5⟩
 have all:∀ {l:List (List aA×V)} {m:List (List aA×Addr×Value)},KT H l m->∀ x∈m,(tupleKind (bq P w)).is h x.1 x.2.1:=by
  intro l m q
  induction q with
  | nil=>intro x hx;exact nomatch hx
  | @cons p q ps qs hq t ih=>
   intro x hx
   rcases mem_cons.mp hx with e | hx
   . subst e
     exact kJ ok (by rw [<-hq.1];exact hq.2.1)
   . exact ih x hx
 exact all r x hx
def Bm {kvs:List (List aA×V)} (ok:je P w H h) (e:H a=some (.dT kvs)):kvs.length<=sizeLine/\(a==sysModules)=false/\
 ∃ xs,KT H kvs xs/\h.DictOfH (tupleKind (bq P w)) a xs:=tf ok (.inl e)
end
noncomputable def jY (H:Hp) (a:Addr) (y:V) (r:Option V):Prop:=
 (∃ kvs k,Rd H a (.dK kvs)/\y=kV k/\r=eL kvs k)∨∃ kvs k b,Rd H a (.dT kvs)/\y=.ref b/\H b=some (.tup (k.map kV))/\r=eL kvs k
noncomputable def qf (H:Hp) (a:Addr) (y v:V) (H':Hp):Prop:=
 (∃ kvs k,H a=some (.dK kvs)/\y=kV k/\kvs.length<sizeLine/\H'=bZ H a (.dK (eX kvs k v)))∨
 ∃ kvs k b,H a=some (.dT kvs)/\y=.ref b/\H b=some (.tup (k.map kV))/\kvs.length<sizeLine/\H'=bZ H a (.dT (eX kvs k v))
def jY.k {H:Hp} {a:Addr} {kvs:List (aA×V)} {k:aA} (e:H a=some (.dK kvs)):jY H a (kV k) (eL kvs k):=.inl ⟨kvs,k,.inl e,rfl,rfl⟩
def jY.t {H:Hp} {a b:Addr} {kvs:List (List aA×V)} {k:List aA} (e:H a=some (.dT kvs)) (eb:H b=some (.tup (k.map kV))):jY H a (.ref b) (eL kvs k):=.inr ⟨kvs,k,b,.inl e,rfl,eb,rfl⟩
def qf.k {H:Hp} {a:Addr} {kvs:List (aA×V)} {k:aA} {v:V} (e:H a=some (.dK kvs)) (hl:kvs.length<sizeLine):qf H a (kV k) v (bZ H a (.dK (eX kvs k v))):=.inl ⟨kvs,k,e,rfl,hl,rfl⟩
def qf.t {H:Hp} {a b:Addr} {kvs:List (List aA×V)} {k:List aA} {v:V} (e:H a=some (.dT kvs)) (eb:H b=some (.tup (k.map kV))) (hl:kvs.length<sizeLine):
 qf H a (.ref b) v (bZ H a (.dT (eX kvs k v))):=.inr ⟨kvs,k,b,e,rfl,eb,hl,rfl⟩
section
variable {X:Cx} {pins:Δ} {σ:St} {H:Hp} {s:Shared} {a:Addr} {y v:V} {u r:Value} {o:Option V} {A:Around} {E:Γ}
def aL.big (I:aL X pins σ H s):sysModules<s.heap.objs.size:=by
 have h:mainGlobals<s.heap.objs.size:=(I.mod.glob.keeps I.bk).lt
 exact lt_trans (by decide) h
def xK {Q:Γ} (hu:A.units+1<cLine) (I:aL X pins σ H s) (g:jY H a y (some v)) (ry:bc y u) (h:∀ w' s',aL X pins σ H s'->bc v w'->Q w' s'):
 wpAny (model X.prog X.w) A (getItem (.ref a) u) Q E s:=by
 rcases g with ⟨kvs,k,e,ey,l⟩ | ⟨kvs,k,b,e,ey,eb,l⟩
 . subst ey
   obtain ⟨z,hd,vs,rel,dd⟩:=si I.hok e
   obtain ⟨w',hw,rw'⟩:=hZ.some_of (v:=v) (o:=valueAt vs k) (by rw [l];exact rel.val k)
   exact wpAny_getItem_of (pE ry) dd.mapOf hw (h w' _ (I.tok _) rw')
 . subst ey
   cases (show u=Value.ref b from ry)
   obtain ⟨z,hd,xs,rel,dd⟩:=tf I.hok e
   obtain ⟨w',hw,rw'⟩:=hZ.some_of (v:=v) (o:=(atKey xs k).map (·.2)) (by rw [l];exact rel.val k)
   obtain ⟨p,hp,hp2⟩:=oM hw
   refine wpAny_getItem_heap (tupleKind_room_in1 hu) (kJ I.hok eb) dd hp ?_
   rw [hp2]
   exact h w' _ (I.tok _) rw'
def MH {Q:Γ} (hu:A.units+1<cLine) (I:aL X pins σ H s) (g:jY H a y o) (ry:bc y u) (h:∀ s',aL X pins σ H s'->Q (.bool o.isSome) s'):
 wpAny (model X.prog X.w) A (compareOp .In u (.ref a)) Q E s:=by
 rcases g with ⟨kvs,k,e,ey,l⟩ | ⟨kvs,k,b,e,ey,eb,l⟩
 . subst ey
   obtain ⟨z,hd,vs,rel,dd⟩:=si I.hok e
   refine wpAny_in_of (pE ry) hd dd.mapOf ?_
   rw [<-(rel.val k).isSome_eq,<-l]
   exact h _ (I.tok _)
 . subst ey
   cases (show u=Value.ref b from ry)
   obtain ⟨z,hd,xs,rel,dd⟩:=tf I.hok e
   refine wpAny_in_heap (tupleKind_room_in1 hu) (kJ I.hok eb) hd dd ?_
   have q:=(rel.val k).isSome_eq
   rw [isSome_map] at q
   rw [<-q,<-l]
   exact h _ (I.tok _)
def Cq {Q:Γ} (hu:A.units+1<cLine) (I:aL X pins σ H s) (g:jY H a y o) (ry:bc y u) (h:∀ s',aL X pins σ H s'->Q (.bool (!o.isSome)) s'):
 wpAny (model X.prog X.w) A (compareOp .NotIn u (.ref a)) Q E s:=by
 rcases g with ⟨kvs,k,e,ey,l⟩ | ⟨kvs,k,b,e,ey,eb,l⟩
 . subst ey
   obtain ⟨z,hd,vs,rel,dd⟩:=si I.hok e
   refine wpAny_notIn_of (pE ry) hd dd.mapOf ?_
   rw [<-(rel.val k).isSome_eq,<-l]
   exact h _ (I.tok _)
 . subst ey
   cases (show u=Value.ref b from ry)
   obtain ⟨z,hd,xs,rel,dd⟩:=tf I.hok e
   refine wpAny_notIn_heap (tupleKind_room_in1 hu) (kJ I.hok eb) hd dd ?_
   have q:=(rel.val k).isSome_eq
   rw [isSome_map] at q
   rw [<-q,<-l]
   exact h _ (I.tok _)
def my {h':Heap} {t':Nat} {ob:HO} (I:aL X pins σ H s) (mu:J9 (H a)) (hs:Heap.SameBut a s.heap h') (he:∃ q,h'.get? a=some q) (new:cH X.prog X.w (bZ H a ob) h' a ob):
 aL X pins σ (bZ H a ob) { s with heap:=h',toks:=t' }:=
 I.write (x:=a) (e:=a) mu (.inl rfl) (λ b q hb z=>(hs.2 b hb).trans z) he new
def Bh {P:Program} {w:World} {H':Hp} {h':Heap} {kvs:List (aA×V)} {vs:List (aA×Value)} (z:kvs.length<=sizeLine) (hd:(a==sysModules)=false) (rel:KV kvs vs) (dd:h'.DictOf (bq P w) a vs):
 cH P w H' h' a (.dK kvs):=⟨z,hd,vs,rel,dd⟩
def yF {H':Hp} {Q:Unit->Shared->Prop} (hu:A.units+1<cLine) (I:aL X pins σ H s) (g:qf H a y v H') (ry:bc y u) (rv:bc v r) (h:∀ s',aL X pins σ H' s'->Q () s'):
 wpAny (model X.prog X.w) A (setItem (.ref a) u r) Q E s:=by
 rcases g with ⟨kvs,k,e,ey,l,eH⟩ | ⟨kvs,k,b,e,ey,eb,l,eH⟩
 . subst ey eH
   obtain ⟨z,hd,vs,rel,dd⟩:=Fw I.hok e
   have hz:vs.length<=sizeLine:=by rw [<-rel.length];exact z
   have hl:(eX kvs k v).length<=sizeLine:=by have:=iG kvs k v;omega
   refine wpAny_setItem_pairs (hsz:=hz) (pE ry) dd λ h' dd' hs=>h _ ?_
   have he:∃ q,h'.get? a=some q:=let ⟨q,_,_,hq,_⟩:=dd';⟨q,hq⟩
   exact my I (by rw [e];exact True.intro) hs he (Bh hl hd (rel.put k rv) dd')
 . subst ey eH
   cases (show u=Value.ref b from ry)
   obtain ⟨z,hd,xs,rel,dd⟩:=Bm I.hok e
   have hz:xs.length<=sizeLine:=by rw [<-Paired.length rel];exact z
   have hl:(eX kvs k v).length<=sizeLine:=by have:=iG kvs k v;omega
   refine wpAny_setItem_heap (hsz:=hz) (tupleKind_room_in1 hu) (kJ I.hok eb) dd λ h' dd' hs=>h _ ?_
   obtain ⟨q,es,ep,hq,h2,h3,h4,_,h5⟩:=dd'
   refine my I (by rw [e];exact True.intro) hs ⟨q,hq⟩ ⟨hl,hd,_,(rel.put k eb rv).keeps λ c ys ec=>?_,q,es,ep,hq,h2,h3,h4,h5⟩
   rw [aH (Fa ec e (λ z=>nomatch z))]
   exact ec
end
section
variable {X:Cx} {pins:Δ} {σ:St} {H:Hp} {s:Shared} {a:Addr} {kvs:List (aA×V)} {k:aA} {u:Value} {A:Around} {E:Γ}
end
noncomputable def JP (i:Expr):Prop:=∀ ov iv,subscripted i false ov iv=operate [ov,iv] (getItem ov iv)
def DD {prog:Program} {w:World} {A:Around} {E:Γ} {s:Shared} {env:Env} {value slice:Expr} {pos:Pos} {T id:String} {Q:Γ}
 (hl:typeLookup (.type T) "__getitem__" = pure (some (.builtin id))) (hs:JP slice)
 (h:wpAny (model prog w) A (eval value env) (λ o s₁=>wpAny (model prog w) A (eval slice env) (λ i s₂=>s₂.TypeIs o T/\wpAny (model prog w) A (getItem o i) Q E s₂) E s₁) E s):
 wpAny (model prog w) A (eval (.Subscript value slice pos) env) Q E s:=by
 refine Subscript_ (wpAny_mono h (λ o s₁ h₁=>wpAny_mono h₁ (λ i s₂ h₂=>?_) λ _ _ x=>x) λ _ _ x=>x)
 obtain ⟨hT,h₂⟩:=h₂
 unfold subscriptTail
 refine wpAny_bind ?_
 rw [getitemInPython_of_ne hT.not_modules]
 refine wpAny_bind (wpAny_specialOf hT hl ?_)
 have fin:wpAny (model prog w) A (subscripted slice false o i) (λ r s₃=>wpAny (model prog w) A (letTemporaryGo value o r >>= λ _=>pure r) Q E s₃) E s₂:=by
  rw [hs o i]
  exact wpAny_operating (wpAny_mono h₂ (λ r s₃ h₃=>wpAny_bind (wpAny_letTemporaryGo (wpAny_pure h₃))) λ _ _ x=>x)
 first
  | exact wpAny_pure (wpAny_bind fin)
  | exact wpAny_bind (wpAny_pure (wpAny_bind fin))
  | exact wpAny_bind fin
def sJ {X:Cx} {pins:Δ} {σ:St} {H:Hp} {s:Shared} {a:Addr} {y:V} {o:Option V} (I:aL X pins σ H s) (g:jY H a y o):s.TypeIs (.ref a) "dict" := by
 rcases g with ⟨kvs,k,e,_,_⟩ | ⟨kvs,k,b,e,_,_,_⟩
 . obtain ⟨_,_,vs,_,dd⟩:=si I.hok e
   exact dd.typeIs
 . obtain ⟨_,_,xs,_,dd⟩:=tf I.hok e
   exact dd.typeIs
noncomputable def EK (td ty:TE):TE:=λ σ H Q=>td σ H λ x H1=>ty σ H1 λ y H2=>∃ a v,x=.ref a/\jY H2 a y (some v)/\Q v H2
noncomputable def K3 (ty td:TE):TE:=λ σ H Q=>ty σ H λ y H1=>td σ H1 λ x H2=>∃ a o,x=.ref a/\jY H2 a y o/\Q (.bl o.isSome) H2
noncomputable def xz (ty td:TE):TE:=λ σ H Q=>ty σ H λ y H1=>td σ H1 λ x H2=>∃ a o,x=.ref a/\jY H2 a y o/\Q (.bl (!o.isSome)) H2
noncomputable def EH (td ty tv:TE):TS:=λ D σ H=>tv σ H λ v H1=>td σ H1 λ x H2=>ty σ H2 λ y H3=>∃ a H4,x=.ref a/\qf H3 a y v H4/\D.nx σ H4
section
variable {X:Cx} {o i e value:Expr} {pos pos' tpos:Pos} {td ty tv:TE}
def L1 (hu:X.A.units+1<cLine) (ho:PE X o td) (hi:PE X i ty) (hs:JP i):PE X (.Subscript o i pos) (EK td ty):=by
 intro pins s σ H Q I h
 refine DD PySem.F.slot_dict_getitem.lookup hs (bY (ho pins s σ H _ I h) λ u s1 hy0=>?_)
 obtain ⟨x,H1,I1,rx,q1⟩:=hy0
 refine bY (hi pins s1 σ H1 _ I1 q1) λ iv s2 hq0=>?_
 obtain ⟨y,H2,I2,ry,a,v,ex,g,q2⟩:=hq0
 subst ex
 obtain rfl:u=Value.ref a:=rx
 exact ⟨sJ I2 g,xK hu I2 g ry λ w' s3 I3 rw'=>⟨v,H2,I3,rw',q2⟩⟩
def N2 (hu:X.A.units+1<cLine) (hi:PE X i ty) (ho:PE X o td):PC X .In i o (K3 ty td):=by
 intro pins s σ H Q I h
 refine bY (hi pins s σ H _ I h) λ iv s1 hy0=>?_
 obtain ⟨y,H1,I1,ry,q1⟩:=hy0
 refine bY (ho pins s1 σ H1 _ I1 q1) λ u s2 hq0=>?_
 obtain ⟨x,H2,I2,rx,a,ov,ex,g,q2⟩:=hq0
 subst ex
 obtain rfl:u=Value.ref a:=rx
 exact MH hu I2 g ry λ s3 I3=>⟨.bl ov.isSome,H2,I3,rfl,q2⟩
def IT (hu:X.A.units+1<cLine) (hi:PE X i ty) (ho:PE X o td):PC X .NotIn i o (xz ty td):=by
 intro pins s σ H Q I h
 refine bY (hi pins s σ H _ I h) λ iv s1 hy0=>?_
 obtain ⟨y,H1,I1,ry,q1⟩:=hy0
 refine bY (ho pins s1 σ H1 _ I1 q1) λ u s2 hq0=>?_
 obtain ⟨x,H2,I2,rx,a,ov,ex,g,q2⟩:=hq0
 subst ex
 obtain rfl:u=Value.ref a:=rx
 exact Cq hu I2 g ry λ s3 I3=>⟨.bl (!ov.isSome),H2,I3,rfl,q2⟩
def Mr (hu:X.A.units+1<cLine) (ho:PE X o td) (hi:PE X i ty) (hv:PE X value tv) (hs:swapsWith value (some (.Subscript o i pos')) pos.line X.env=pure false):
 PS X (.Assign [.Subscript o i pos'] value pos) (EH td ty tv):=by
 intro pins s σ H D I h
 refine wpAny_Assign_Subscript (bY (hv pins s σ H _ I h) λ r s1 hy0=>?_) hs
 obtain ⟨v,H1,I1,rv,q1⟩:=hy0
 refine bY (ho pins s1 σ H1 _ I1 q1) λ u s2 hy0=>?_
 obtain ⟨x,H2,I2,rx,q2⟩:=hy0
 refine bY (hi pins s2 σ H2 _ I2 q2) λ iv s3 hq0=>?_
 obtain ⟨y,H3,I3,ry,a,H4,ex,g,q3⟩:=hq0
 subst ex
 obtain rfl:u=Value.ref a:=rx
 exact yF hu I3 g ry rv λ s4 I4=>⟨σ,H4,I4,q3⟩
end
def tM {P:Program} {w:World} {H:Hp} (h:Heap) (hb:sysModules<h.objs.size):cH P w H (h.push { cls:=.type "dict", data:=.dict #[] }) h.objs.size (.dK []):=
 ⟨zero_le _,beq_eq_false_iff_ne.mpr (Ne.symm (ne_of_lt hb)),[],.nil,Heap.DictOf.new h⟩
def A6 {P:Program} {w:World} {H:Hp} (h:Heap) (hb:sysModules<h.objs.size):cH P w H (h.push { cls:=.type "dict", data:=.dict #[] }) h.objs.size (.dT []):=
 ⟨zero_le _,beq_eq_false_iff_ne.mpr (Ne.symm (ne_of_lt hb)),[],.nil,_,#[],0,get?_push_size _ rfl,⟨rfl,rfl,rfl⟩,rfl,rfl,nodup_nil⟩
noncomputable def Bi:TE:=λ _ H Q=>∀ p,H p=none->Q (.ref p) (bZ H p (.dK []))
noncomputable def zN:TE:=λ _ H Q=>∀ p,H p=none->Q (.ref p) (bZ H p (.dT []))
section
variable {X:Cx} {pos:Pos}
def K2:PE X (.Dict [] [] pos) Bi:=λ pins s σ H Q I h=>
 wpAny_Dict_empty ⟨.ref s.heap.objs.size,_,I.laid (a:=s.heap.objs.size) (o:=.dK []) (t':=s.toks) (λ _ _ q=>get?_push_of_some _ q) (le_refl _) (tM s.heap I.big),rfl,h _ (I.hok.fresh (le_refl _))⟩
def KF:PE X (.Dict [] [] pos) zN:=λ pins s σ H Q I h=>
 wpAny_Dict_empty ⟨.ref s.heap.objs.size,_,I.laid (a:=s.heap.objs.size) (o:=.dT []) (t':=s.toks) (λ _ _ q=>get?_push_of_some _ q) (le_refl _) (A6 s.heap I.big),rfl,h _ (I.hok.fresh (le_refl _))⟩
end
noncomputable def vA:List (TE×TE)->St->Hp->(List (V×V)->Hp->Prop)->Prop
 | [],_,H,Q=>Q [] H
 | (tk,tv)::r,σ,H,Q=>tk σ H λ x H1=>tv σ H1 λ y H2=>vA r σ H2 λ ps H3=>Q ((x,y)::ps) H3
noncomputable abbrev VV:List (V×V)->List (Value×Value)->Prop:=Paired λ p q=>bc p.1 q.1/\bc p.2 q.2
noncomputable def Ms (X:Cx) (pos:Pos) (keys:List (Option Expr)) (values:List Expr) (qN:List (TE×TE)):Prop:=
 ∀ (pins:Δ) (s:Shared) (σ:St) (H:Hp) (Q:List (V×V)->Hp->Prop),aL X pins σ H s->vA qN σ H Q->
  wpAny (model X.prog X.w) X.A (evalPairs (pairTrees keys values X.env pos)) (λ vs s'=>∃ ps H',aL X pins σ H' s'/\VV ps vs/\Q ps H') X.xe s
def Dm {X:Cx} {pos:Pos}:Ms X pos [] [] []:=λ pins s σ H Q I h=>pairTrees_nil_walk ⟨[],H,I,.nil,h⟩
def Ab {X:Cx} {pos:Pos} {k v:Expr} {ks:List (Option Expr)} {vs:List Expr} {tk tv:TE} {qN:List (TE×TE)} (hk:PE X k tk) (hv:PE X v tv) (hr:Ms X pos ks vs qN):
 Ms X pos (some k::ks) (v::vs) ((tk,tv)::qN):=λ pins s σ H Q I h=>
 pairTrees_cons_walk (bY (hk pins s σ H _ I h) λ u s1 ⟨x,H1,I1,rx,q1⟩=>bY (hv pins s1 σ H1 _ I1 q1) λ w2 s2 ⟨y,H2,I2,ry,q2⟩=>
  bY (hr pins s2 σ H2 _ I2 q2) λ ws s3 ⟨ps,H3,I3,rel,q3⟩=>⟨(x,y)::ps,H3,I3,.cons ⟨rx,ry⟩ rel,q3⟩)
noncomputable def ji (kvs more:List (aA×V)):List (aA×V):=more.foldl (λ acc kv=>eX acc kv.1 kv.2) kvs
def KV.merge:∀ {more:List (aA×V)} {rs:List (aA×Value)} {kvs:List (aA×V)} {vs:List (aA×Value)},KV more rs->KV kvs vs->KV (ji kvs more) (merged vs rs):=by
 intro more rs kvs vs r
 unfold KV at r
 induction r generalizing kvs vs with
 | nil=>intro q;exact q
 | @cons p q ps qs h t ih=>
  intro r0
  have e:KV (eX kvs p.1 p.2) (stored vs q.1 q.2):=by
   have:=r0.put p.1 h.2
   rw [<-h.1];exact this
  exact ih e
def jc:∀ (more kvs:List (aA×V)),(ji kvs more).length<=kvs.length+more.length
 | [],kvs=>by show kvs.length<=kvs.length+0;omega
 | p::r,kvs=>by
  have h1:=jc r (eX kvs p.1 p.2)
  have h2:=iG kvs p.1 p.2
  show (ji (eX kvs p.1 p.2) r).length<=_
  rw [length_cons];omega
def og {P:Program} {w:World}:∀ {kvs:List (aA×V)} {ws:List (Value×Value)},VV (kvs.map λ kv=>(kV kv.1,kv.2)) ws->∃ rs,Carries (bq P w) ws rs/\KV kvs rs
 | [],_,r=>by rw [map_nil] at r;cases r;exact ⟨[],True.intro,.nil⟩
 | p::kvs,_,r=>by
  rw [map_cons] at r
  cases r with
  | @cons a b as bs h t=>
   obtain ⟨rs,c,q⟩:=og (P:=P) (w:=w) t
   obtain ⟨b1,b2⟩:=b
   exact ⟨(p.1,b2)::rs,⟨pE h.1,rfl,c⟩,.cons ⟨rfl,h.2⟩ q⟩
noncomputable def Ft (qN:List (TE×TE)):TE:=λ σ H Q=>∀ p,H p=none->vA qN σ (bZ H p (.dK [])) λ ps H2=>H2 p=some (.dK [])/\∃ kvs:List (aA×V),ps=kvs.map (λ kv=>(kV kv.1,kv.2))/\kvs.length<=15/\Q (.ref p) (bZ H2 p (.dK (ji [] kvs)))
def Eb {X:Cx} {pos:Pos} {keys:List (Option Expr)} {values:List Expr} {qN:List (TE×TE)} (h:Ms X pos keys values qN) (hall:keys.all (·.isSome)=true) (hl:keys.length=values.length) (h0:keys≠[])
 (h15:keys.length<=15):PE X (.Dict keys values pos) (Ft qN):=by
 intro pins s σ H Q I q
 have hn:=I.hok.fresh (le_refl s.heap.objs.size)
 have I1:=I.laid (a:=s.heap.objs.size) (o:=.dK []) (h':=s.heap.push { cls:=.type "dict", data:=.dict #[] }) (t':=s.toks) (λ _ _ q=>get?_push_of_some _ q) (le_refl _) (tM s.heap I.big)
 refine wpAny_Dict_walk (knd:=bq X.prog X.w) hall hl h0 h15 (bY (h pins _ σ _ _ I1 (q _ hn)) λ ws s2 hq0=>?_)
 obtain ⟨ps,H2,I2,rel,e,kvs,ep,lk,q2⟩:=hq0
 subst ep
 obtain ⟨rs,c,rk⟩:=og (P:=X.prog) (w:=X.w) rel
 obtain ⟨z,hd,vs0,r0,dd⟩:=Fw I2.hok e
 cases r0
 refine ⟨rs,c,dd,λ h' dd' hs=>⟨.ref s.heap.objs.size,_,?_,rfl,q2⟩⟩
 have hz:(ji [] kvs).length<=sizeLine:=by
  have h1:=jc kvs []
  rw [length_nil] at h1
  rw [sizeLine_eq];omega
 have he:∃ q,h'.get? s.heap.objs.size=some q:=let ⟨q,_,_,hq,_⟩:=dd';⟨q,hq⟩
 exact my I2 (by rw [e];exact True.intro) hs he (Bh hz hd (rk.merge .nil) dd')
structure M2 (X:Cx) (o:Expr) (m:Str) (apos:Pos) (e f:Expr) (cpos:Pos):Prop where
 base:attributeBase o m X.env (eval o X.env)=eval o X.env
 few:((backTo cpos (starEach [e,f] X.env)).all (λ x=>!x.1)&&(backToKw cpos (keywordEach [] X.env)).all (λ x=>x.1.isSome)
  && decide (([e,f]:List Expr).length+([]:List Keyword).length+(if ([]:List Keyword).isEmpty then 0 else 1)<30))=true
 line:(apos.endLine==cpos.line)=true
 trees:backTo cpos (starEach [e,f] X.env)=[(false,eval e X.env),(false,eval f X.env)]
section
variable {X:Cx} {pins:Δ} {σ:St} {H:Hp} {s:Shared} {a:Addr} {y d:V} {u r:Value} {o:Option V} {A:Around} {E:Γ}
end
section
variable {X:Cx} {o e f:Expr} {apos cpos:Pos} {td ty tx:TE}
end
section
variable {X:Cx} {pins:Δ} {σ:St} {H:Hp} {s:Shared} {a:Addr} {kvs:List (aA×V)} {A:Around} {E:Γ}
end
section
variable {X:Cx} {pins:Δ} {σ:St} {H:Hp} {s:Shared} {a:Addr} {y:V} {u:Value} {A:Around} {E:Γ}
end
section
variable {X:Cx}
end
section
variable {κ:Type} [DecidableEq κ]
end
noncomputable def eY (z:Str):Prop:=z.cps.all (· < 128)=true
section
variable {z:Str} {wi:TI} {g:TG} {tb:TS} {D:iI} {σ:St} {H H1:Hp} {ix:Λ} {tc:TT} {te:TE} {Q:VK}
end
def Nq {X:Cx}:C8 X (λ x lo hi H Q=>∃ z,x=.str z/\z.length<=sizeLine/\Q (.str (Txt.slice z lo hi)) H):=by
 intro pins s σ H x v vl vu lo hi sl Q I rx hs pl pu h
 obtain ⟨z,rfl,hz,q⟩:=h
 obtain ⟨t,rfl⟩:=rx
 have part:∀ {v:Value} {o:Option Int},IsPart v o->∃ p:Option (Int×Tok),v=partValue p/\o=p.map (·.1):=λ {v o} p=>by
  cases p with
  | none=>exact ⟨none,rfl,rfl⟩
  | int i t=>exact ⟨some (i,t),rfl,rfl⟩
 obtain ⟨p1,rfl,rfl⟩:=part pl
 obtain ⟨p2,rfl,rfl⟩:=part pu
 refine ⟨"str", _,F.slot_str_getitem.lookup,typeIs_str _ _ _,wpAny_getItem_str_slice (l:=p1) (u:=p2) (st:=none) hs rfl ?_⟩
 refine post_val_or_str ⟨le_trans (Txt.slice_le z _ _) hz,λ t' k=>⟨.str _,H,I.tok k,⟨t',rfl⟩,q⟩⟩
section
variable {X:Cx}
def tW {P:Program} {w:World} {A:Around} {its:Array Value} {bs:List Bool} (r:bb (bs.map V.bl) its.toList):TruthOf P w A (λ i v=>its[i]?=some v) λ i=>bs.getD i false:=by
 intro i v s Q E hv hQ
 have hv':its.toList[i]?=some v:=by simpa using hv
 have hlen:=r.length
 have hi:i<bs.length:=by
  have:=(oG hv').1
  rw [<-hlen,length_map] at this
  exact this
 have hb:(bs.map V.bl)[i]?=some (V.bl bs[i]):=by rw [getElem?_map,getElem?_eq_getElem hi];rfl
 obtain ⟨u,hu,ru⟩:=r.get hb
 rw [hv'] at hu
 cases hu
 cases ru
 refine wpAny_truthy_bool ?_
 have e:bs.getD i false=bs[i]:=by simp [hi]
 have hQ':Q (bs.getD i false) s:=hQ
 rw [e] at hQ'
 exact hQ'
def xP (bs:List Bool):(List.range bs.length).any (λ i=>bs.getD i false)=bs.any id:=by
 rw [Bool.eq_iff_iff,any_eq_true,any_eq_true]
 constructor
 . rintro ⟨i,hi,h⟩
   have hi':=mem_range.mp hi
   exact ⟨bs[i],getElem_mem hi',by simpa [hi'] using h⟩
 . rintro ⟨b,hb,h⟩
   obtain ⟨i,hi,rfl⟩:=List.mem_iff_getElem.mp hb
   exact ⟨i,mem_range.mpr hi,by simpa [hi] using h⟩
def call_any' (hc:X.calm=true):dI X (.builtin "any") (λ xs H Q=>∃ (a:Addr) (bs:List Bool),xs=[.ref a]/\cD X.K H a (bs.map V.bl)/\Q (.bl (bs.any id)) H):=by
 intro pins s σ H xs us Q I r h
 obtain ⟨a,bs,rfl,hq,q⟩:=h
 obtain ⟨u,rfl,ru⟩:=pD r
 cases ru
 obtain ⟨its,rv,pl,_⟩:=I.list hq
 refine call_any_walk (wpAny_pyIter_list pl.isList ?_)
 have hne:a≠s.heap.objs.size:=by
  obtain ⟨o,n,e,_⟩:=pl
  exact ne_of_lt (lt_size e)
 refine ⟨s.heap.objs.size,_,_,_,_,_,_,rfl,Walks.list (A:=X.A.in1) (show X.A.in1.handled=none from I.ok.hd hc) _ a hne its.toArray,⟨⟨_,get?_push_size _ rfl,rfl,rfl⟩,pl.isList.push _⟩,tW (bs:=bs) (by simpa using rv),λ h' tk k=>?_⟩
 have hsz:its.toArray.size=bs.length:=by rw [size_toArray,<-rv.length,length_map]
 rw [hsz,xP]
 exact ⟨.bl _,H,I.kept λ b o e=>k b o (by
  simp only [mem_cons,not_mem_nil,or_false]
  exact ne_of_lt (lt_size e)) (get?_push_of_some _ e),rfl,q⟩
end
section
variable {X:Cx}
noncomputable def EW (i j:Int):Prop:=i.natAbs<2^512/\j.natAbs<2^512
def CB:fP X (binaryOp .Mult) (rI EW λ i j=>.int (i*j)):=Lu λ _ _ _ _ _ _ _ hc q=>mul_int q (IntMulOk.of_le (PySem.intBits_le_iff.mpr hc.1) (PySem.intBits_le_iff.mpr hc.2) (by decide))
noncomputable def ED:R2:=λ x y H Q=>∃ z n,x=.str z/\y=.int n/\0<=n/\n<=1000/\z.length<=1000/\Q (.str (Txt.mul z n)) H
def LN:fP X (binaryOp .Mult) ED:=by
 intro pins s σ H x y v u Q I rx ry h
 obtain ⟨z,n,rfl,rfl,h0,h1,hz,q⟩:=h
 obtain ⟨t,rfl⟩:=rx
 obtain ⟨t',rfl⟩:=ry
 have hm:z.length*n.toNat<=1000*1000:=Nat.mul_le_mul hz (by omega)
 refine SB.mul ⟨?_,λ a b=>?_,λ a b=>?_⟩ (λ t2 k=>⟨.str _,H,I.tok k,⟨t2,rfl⟩,q⟩)
 . have e1:decide (n < -(2^63:Int))=false:=decide_eq_false (by omega)
   have e2:decide (n ≥ 2^63)=false:=decide_eq_false (by omega)
   rw [e1,e2];rfl
 . have hn:1<=n:=by omega
   have:(1000:Int)<=(2^63-1) / n:=by
    rw [Int.le_ediv_iff_mul_le (by omega)]
    omega
   omega
 . unfold PySem.Builtin.Str.tooLong
   exact decide_eq_false (by have:sizeLine=16777216:=sizeLine_eq;omega)
end
section
variable {X:Cx} {K:Frag}
def LY (h:X.K=K):zQ X (LD K):=h▸Gk
def zg (h:X.K=K):C8 X (J8 K):=h▸CW
def D1 (h:X.K=K):C8 X (KU K):=h▸Im
def Ho (h:X.K=K):fP X (compareOp .In) (Fi K false):=h▸pF
def BP (h:X.K=K):fP X (compareOp .NotIn) (Fi K true):=h▸qA
noncomputable def Lq (K:Frag):List V->Hp->VK->Prop:=λ xs H Q=>∃ p ys,xs=[.ref p]/\(cD K H p ys∨eK K H p ys)/\Q (.int ys.length) H
def oO (h:X.K=K):dI X (.builtin "len") (Lq K):=h▸rM
noncomputable def EQ:List V->Hp->VK->Prop:=λ xs H Q=>∃ z,xs=[.str z]/\z.length<=sizeLine/\Q (.int z.length) H
def oP:dI X (.builtin "len") EQ:=rJ
noncomputable def qd (K:Frag):List V->Hp->VK->Prop:=λ xs H Q=>∃ p ys,xs=[.ref p]/\(cD K H p ys∨eK K H p ys)/\∀ l,H l=none->Q (.ref l) (bZ H l (.lst ys))
def oQ (h:X.K=K):dI X (.type "list") (qd K):=h▸qH
noncomputable def FU (K:Frag):List V->Hp->VK->Prop:=λ xs H Q=>∃ (a:Addr) (bs:List Bool),xs=[.ref a]/\cD K H a (bs.map V.bl)/\Q (.bl (bs.any id)) H
def yE (h:X.K=K) (hc:X.calm=true):dI X (.builtin "any") (FU K):=h▸call_any' hc
def LC {pos:Pos} {es:List Expr} {k:Nat} {t:AQ} {n:Nat} (h:X.K=K) (hc:X.calm=true) (hh:IY X es t)
 (hn:(assignEach es X.env).length=n) (hst:(assignEach es X.env).findIdx? (·.1)=none):PG X (.Tuple es k pos) (HY K n t):=h▸GU hc hh hn hst
def Jr {elts:List Expr} {x1} {tpos:Pos} {a:Expr} {ta:TA} {p pos:Pos} (h:X.K=K) (hg:Gl X "enumerate") (hm:X.mg "enumerate" = none) (ha:PA X [a] ta) (hs:starEach [a] X.env=[(false,eval a X.env)]):
 PI X (.Tuple elts x1 tpos) (.Call (.Name "enumerate" p) [a] [] pos) (Ad K ta):=h▸Ez hg hm ha hs
def Mn {elts:List Expr} {x1} {tpos:Pos} {a b:Expr} {ta:TA} {p pos:Pos} (h:X.K=K) (hg:Gl X "zip") (hm:X.mg "zip" = none) (ha:PA X [a,b] ta) (hs:starEach [a,b] X.env=[(false,eval a X.env),(false,eval b X.env)]) (hs2:starEach [b] X.env=[(false,eval b X.env)]):
 PI X (.Tuple elts x1 tpos) (.Call (.Name "zip" p) [a,b] [] pos) (GN K ta):=h▸ID hg hm ha hs hs2
variable {o e:Expr} {es:List Expr} {to:TE} {t:TA} {name:Str} {apos cpos:Pos} {T id:String} {r:V->List V->Hp->VK->Prop}
def Cu (h:X.K=K) (pa:PlainAttrs T) (slot:Slot T name id) (hty:typeOf (.builtin id)=pure (.type "method_descriptor")) (hm:Jk X id r) (ho:PE X o to)
 (hbase:attributeBase o name X.env (eval o X.env)=eval o X.env:=by rfl) (hline:(apos.endLine==cpos.line)=true:=by rfl):PE X (.Call (.Attribute o name apos) [] [] cpos) (De K T r to):=h▸FD pa slot hty hm ho hbase hline
def Hm (h:X.K=K) (pa:PlainAttrs T) (slot:Slot T name id) (hty:typeOf (.builtin id)=pure (.type "method_descriptor")) (hm:Jk X id r) (ho:PE X o to) (ha:PA X (e::es) t)
 (hbase:attributeBase o name X.env (eval o X.env)=eval o X.env:=by rfl)
 (hfew:((backTo cpos (starEach (e::es) X.env)).all (λ x=>!x.1)&&(backToKw cpos (keywordEach [] X.env)).all (λ x=>x.1.isSome)
  && decide ((e::es).length+([]:List Keyword).length+(if ([]:List Keyword).isEmpty then 0 else 1)<30))=true:=by rfl)
 (hline:(apos.endLine==cpos.line)=true:=by rfl) (hs:starEach (e::es) X.env=(false,eval e X.env)::starEach es X.env:=by rfl) (hplain:(backTo cpos (starEach es X.env)).any (·.1)=false:=by rfl):
 PE X (.Call (.Attribute o name apos) (e::es) [] cpos) (IU K T r to t):=h▸JU pa slot hty hm ho ha hbase hfew hline hs hplain
end
def jK {H:Hp} {p:Addr} (h:H p=none) (o:HO):bj H (bZ H p o):=λ b u q=>by rw [aH (be q h)];exact q
def bj.tup {K:Frag} {H H':Hp} {a:Addr} {xs:List V} (g:bj H H') (q:eK K H a xs):eK K H' a xs:=by
 rcases q with (h | ⟨o,h⟩) | h
 . exact .inl (.inl (g _ _ h))
 . exact .inl (.inr ⟨o,g _ _ h⟩)
 . exact .inr h
def jQ {z:Str}:eY z↔∀ c∈z.cps.toList,c<128:=by
 unfold eY
 rw [Array.all_eq_true']
 constructor
 . intro h c hc;simpa using h c (by simpa using hc)
 . intro h c hc;simpa using h c (by simpa using hc)
def eY.app {a b:Str} (h:eY a) (h':eY b):eY (a++b):=by
 rw [jQ] at *
 intro c hc
 have e:(a++b).cps=a.cps++b.cps:=rfl
 rw [e,toList_append,mem_append] at hc
 exact hc.elim (h c) (h' c)
def rP (a b:Str):(a++b).length=a.length+b.length:=by
 show (a.cps++b.cps).size=_
 rw [Array.size_append];rfl
def eY.one {z:Str} (h:eY z) {i:Int} {c:Nat} (e:fu z.cps.toList i=some c):eY ⟨#[c]⟩:=by
 rw [jQ] at *
 obtain ⟨j,_,hj,_⟩:=mD e
 have:=h c (mem_of_getElem? hj)
 intro d hd
 have:d=c:=by simpa using hd
 omega
def eY.slice {z:Str} (h:eY z) (lo hi:Option Int):eY (Txt.slice z lo hi):=by
 rw [jQ] at *
 intro c hc
 unfold Txt.slice at hc
 split at hc
 . exact h c hc
 refine h c ?_
 simp only [mem_filterMap] at hc
 obtain ⟨k,_,e⟩:=hc
 exact mem_of_getElem? (by simpa using e)
def eY.ok {z:Str} (h:eY z):strOk z=true:=by
 rw [jQ] at h
 unfold strOk
 rw [Array.all_eq_true']
 intro c hc
 have:=h c (by simpa using hc)
 simp only [decide_eq_true_eq]
 omega
noncomputable def Nw (H H':Hp) (p:Addr) (o:HO):Prop:=bj H H'/\H p=none/\H' p=some o
def Nw.of {H:Hp} {p:Addr} {o:HO} (h:H p=none):Nw H (bZ H p o) p o:=⟨jK h o,h,aJ⟩
noncomputable def Bw (t:TA):TE:=λ σ H Q=>t σ H λ xs H1=>xs.length<=sizeLine/\∀ p H',Nw H1 H' p (.tup xs)->Q (.ref p) H'
noncomputable def Af (t:TA):TE:=λ σ H Q=>t σ H λ xs H1=>xs.length<=sizeLine/\∀ p H',Nw H1 H' p (.lst xs)->Q (.ref p) H'
section
variable {X:Cx} {K:Frag} {es:List Expr} {t:TA} {pos:Pos}
def Me {x1} (h:PA X es t):PE X (.Tuple es x1 pos) (Bw t):=λ pins s σ H Q I hq=>wpAny_Tuple_spliced (bY (h pos pins s σ H _ I hq) λ us s1 ⟨xs,H1,I1,r,z,q⟩=>⟨by rw [<-r.length];exact z,
 .ref s1.heap.objs.size,_,I1.laid (t':=s1.toks) (o:=.tup xs) (λ b u e=>get?_push_of_some _ e) (le_refl _) ⟨z,us,r,⟨_,get?_push_size _ rfl,rfl,_,rfl⟩⟩,rfl,q _ _ (.of (I1.hok.fresh (le_refl _)))⟩)
def LP (h:PA X es t):PE X (.List es pos) (Af t):=λ pins s σ H Q I hq=>wpAny_List_spliced (bY (h pos pins s σ H _ I hq) λ us s1 ⟨xs,H1,I1,r,z,q⟩=>⟨by rw [<-r.length];exact z,
 .ref s1.heap.objs.size,_,I1.laid (t':=s1.toks) (o:=.lst xs) (λ b u e=>get?_push_of_some _ e) (le_refl _) ⟨z,us,0,r,get?_push_size _ rfl⟩,rfl,q _ _ (.of (I1.hok.fresh (le_refl _)))⟩)
noncomputable def Fj (K:Frag):V->Option Int->Option Int->Hp->VK->Prop:=λ x lo hi H Q=>∃ a xs,x=.ref a/\cD K H a xs/\∀ p H',Nw H H' p (.lst (oR xs lo hi))->Q (.ref p) H'
def Kz (h:X.K=K):C8 X (Fj K):=λ pins s σ H x v vl vu lo hi sl Q I rx hs pl pu hy0=>by obtain ⟨a,xs,e,q,r⟩:=hy0;exact zg h pins s σ H x v vl vu lo hi sl Q I rx hs pl pu ⟨a,xs,e,q,λ p hp=>r p _ (.of hp)⟩
noncomputable def ES (K:Frag):V->Option Int->Option Int->Hp->VK->Prop:=λ x lo hi H Q=>∃ a xs,x=.ref a/\eK K H a xs/\
 ((HT.sIx xs.length 0 lo=0/\HT.sIx xs.length xs.length hi=xs.length/\Q (.ref a) H)∨(¬ (HT.sIx xs.length 0 lo=0/\HT.sIx xs.length xs.length hi=xs.length)/\∀ p H',Nw H H' p (.tup (oR xs lo hi))->Q (.ref p) H'))
def xL {prog:Program} {w:World} {A:Around} {E:Γ} {s:Shared} {a sl:Addr} {its:Array Value} {vl vu:Value} {lo hi:Option Int} {Q:Γ} (ht:IsTup s.heap a its) (hs:s.heap.IsSliceOf sl vl vu .none) (pl:IsPart vl lo) (pu:IsPart vu hi)
 (h1:HT.sIx its.size 0 lo=0) (h2:HT.sIx its.size its.size hi=its.size) (h:Q (.ref a) s):wpAny (model prog w) A (getItem (.ref a) (.ref sl)) Q E s:=by
 obtain ⟨os,hos,hcs,hds⟩:=id hs
 unfold getItem
 try with_reducible refine wpAny_holding ?_
 first | refine wpAny_bind (wpAny_pure ?_) | skip
 refine wpAny_bind (wpAny_sequenceKey ht.typeIs (by decide) (wpAny_bind (wpAny_callSpecial?_slot (name:=Str.ofString "__getitem__") ht.typeIs PyProof.Rows.slot_tuple_getitem (wpAny_call_entry PyProof.Rows.slot_tuple_getitem ht.typeIs entry_tuple_getitem ?_ (args_tuple_getitem _ _)))))
 show wpAny _ _ (Builtin.Tuple.tupleItemsOf (.ref a) >>= _) _ _ s
 refine wpAny_bind (PyProof.Rows.tupleItemsOf_ ht (wpAny_bind (wpAny_typeOf (show s.TypeIs (.ref sl) "slice" from ⟨os,hos,hcs⟩) ?_)))
 rw [if_pos (by decide)]
 refine wpAny_bind (HT.sliceApplied_gen hs pl pu ?_)
 have yes:(((HT.sIx its.size 0 lo:Nat):Int)==0&&(1:Int)==1&&(HT.sIx its.size its.size hi-HT.sIx its.size 0 lo)==its.size)=true:=by
  rw [h1,h2];simp
 show wpAny _ _ (if (((HT.sIx its.size 0 lo:Nat):Int)==0&&(1:Int)==1&&(HT.sIx its.size its.size hi-HT.sIx its.size 0 lo)==its.size)=true then _ else _) _ _ s
 rw [if_pos yes]
 refine wpAny_bind ?_
 unfold Builtin.Tuple.tupleIsExact
 refine wpAny_bind (wpAny_typeOf ht.typeIs (wpAny_pure ?_))
 rw [if_pos (by decide)]
 exact wpAny_bind (wpAny_rule (wpAny_pure ⟨_,rfl,wpAny_pure h⟩))
def Lz (h:X.K=K):C8 X (ES K):=by
 intro pins s σ H x v vl vu lo hi sl Q I rx hs pl pu q
 obtain ⟨a,xs,e,hx,q | q⟩:=q
 . subst h e
   cases rx
   obtain ⟨its,r,ht,hz⟩:=I.tuple hx
   have hlen:its.toArray.size=xs.length:=by rw [size_toArray];exact r.length.symm
   exact ⟨"tuple", _,PyProof.Rows.slot_tuple_getitem.lookup,ht.typeIs,xL ht hs pl pu (by rw [hlen];exact q.1) (by rw [hlen];exact q.2.1) ⟨.ref a,H,I,rfl,q.2.2⟩⟩
 . exact D1 h pins s σ H x v vl vu lo hi sl Q I rx hs pl pu ⟨a,xs,e,hx,q.1,λ p hp=>q.2 p _ (.of hp)⟩
end
section
variable {X:Cx} {K:Frag}
def LW {o i e:Expr} {to ti te:TE} {pos tpos:Pos} (he:PE X e te) (ho:PE X o to) (hi:PE X i ti)
 (ha:∀ v,assign (.Subscript o i tpos) X.env v=(do
  let ov <-holding [v] (eval o X.env)
  let iv <-holding [v,ov] (eval i X.env)
  standAt tpos
  holding [v,ov,iv] (setItem ov iv v)
  release [v,ov,iv] [])) (hs:swapsWithSole [.Subscript o i tpos] e pos.line X.env=pure false) (hw:swappedStores [.Subscript o i tpos] e X.env=pure none):PS X (.Assign [.Subscript o i tpos] e pos) (oT te (Cw to ti wx)):=GM he (HS ho hi Bt ha) hs hw
end
def jO (z:Str):z.cps.toList.length=z.length:=by simp [Str.length]
def Hf (l:Option Int) (n j:Nat) (h:n<=j):Builtin.Str.strSliceIndices l (some (j:Int)) 1 n=Builtin.Str.strSliceIndices l (some (n:Int)) 1 n:=by
 have e1:¬ ((j:Int)<0):=by omega
 have e2:¬ ((n:Int)<0):=by omega
 have e3:max (0:Int) (min (j:Int) (n:Int))=n:=by omega
 have e4:max (0:Int) (min (n:Int) (n:Int))=n:=by omega
 unfold Builtin.Str.strSliceIndices
 simp only [show (1:Int)>0 by decide,if_true,if_neg e1,if_neg e2,e3,e4]
def Bg (z:Str) (j:Nat):(Txt.slice z none (some (j:Int))).cps.toList=z.cps.toList.take j:=by
 by_cases h:j<=z.length
 . have:=StrLaws.sliceText_to (x:=z) (j:=(j:Int)) ⟨by omega,by rw [jO];omega⟩
   have e:Txt.slice z none (some (j:Int))=StrLaws.sliceText z none (some (j:Int)):=rfl
   rw [e,this]
   simp
 . have e:Txt.slice z none (some (j:Int))=Txt.slice z none (some ((z.length:Nat):Int)):=by
    unfold Txt.slice
    rw [Hf none z.length j (by omega)]
   have:=StrLaws.sliceText_to (x:=z) (j:=((z.length:Nat):Int)) ⟨by omega,by rw [jO];omega⟩
   have e2:Txt.slice z none (some ((z.length:Nat):Int))=StrLaws.sliceText z none (some ((z.length:Nat):Int)):=rfl
   rw [e,e2,this]
   simp only [List.drop_zero,Int.sub_zero,toNat_natCast]
   rw [take_of_length_le (by rw [jO];exact le_refl _),take_of_length_le (by rw [jO];omega)]
noncomputable def BW (c:Nat):Bool:=decide (97<=c)&&decide (c<=122)
noncomputable def wg:Value->Option Str
 | .str x _=>some x
 | _=>none
noncomputable def DC (us:Φ) (ws:Ω):Bool:=decide (us.map wg=ws.map some)
def ya {u:Value} {y:Str} (h:wg u=some y):bc (.str y) u:=by
 unfold wg at h
 split at h
 . cases h;exact ⟨_,rfl⟩
 . cases h
def j9:∀ {us:Φ} {ws:Ω},us.map wg=ws.map some->bb (ws.map V.str) us
 | [],[],_=>.nil
 | u::r,y::s,h=>by
  simp only [map_cons,List.cons.injEq] at h
  exact .cons (ya h.1) (j9 h.2)
 | [],_::_,h=>by simp at h
 | _::_,[],h=>by simp at h
noncomputable def vw (o:Obj) (ws:Ω):Bool:=match o.data with
 | .seq its _=>DC its.toList ws&&decide (its.size<=1000)
 | _=>false
def yb {K:Frag} {H:Hp} {a:Addr} {o:Obj} {ws:Ω} (h:K.lookup a=some o) (hc:o.cls=.type "tuple") (ht:vw o ws=true):eK K H a (ws.map V.str):=by
 unfold vw at ht
 split at ht
 . rename_i its n e
   rw [and_eq_true] at ht
   exact .inr ⟨o,its,n,h,hc,e,le_of_lt (yx (by simpa using ht.2)),j9 (of_decide_eq_true ht.1)⟩
 . cases ht
section
variable {K:Frag} {x D:Addr} {prog:Program} {w:World} {A:Around} {E:Γ} {s:Shared}
end
section
variable {X:Cx} {K:Frag}
end
section
variable {P:Program} {w:World} {A:Around} {E:Γ} {s:Shared}
end
section
variable {X:Cx} {K:Frag}
end
section
variable {K:Frag} {a b:Addr} {xs ys:List V} {wi:TI} {g:TG} {σ:St} {H H1:Hp} {ix:Λ} {tc:TT} {te:TE} {Q:VK}
end
section
variable {K:Frag} {a:Addr} {xs:List V} {wi:TI} {g:TG} {σ:St} {H H1:Hp} {ix:Λ} {tc:TT} {te:TE} {Q:VK}
end
inductive W where
 | none | bool (b:Bool) | int (i:Int) | str (x:Str) | list (ds:List W) | tuple (ds:List W) | ref (n:Nat)
abbrev χ:=Nat->Option (List W)
abbrev ν:=List (List aA×W)
mutual
inductive Dw (K:Frag) (ρ:Ξ) (H:Hp):V->W->Prop
 | non:Dw K ρ H .non .none
 | bl (b:Bool):Dw K ρ H (.bl b) (.bool b)
 | int (i:Int):Dw K ρ H (.int i) (.int i)
 | str (x:Str):Dw K ρ H (.str x) (.str x)
 | lst {a:Addr} {xs:List V} {ds:List W}:cD K H a xs->ay K ρ H xs ds->Dw K ρ H (.ref a) (.list ds)
 | tup {a:Addr} {xs:List V} {ds:List W}:H a=some (.tup xs)->ay K ρ H xs ds->Dw K ρ H (.ref a) (.tuple ds)
 | ref {a:Addr} {n:Nat}:ρ[n]?=some a->Dw K ρ H (.ref a) (.ref n)
inductive ay (K:Frag) (ρ:Ξ) (H:Hp):List V->List W->Prop
 | nil:ay K ρ H [] []
 | cons {v:V} {vs:List V} {d:W} {ds:List W}:Dw K ρ H v d->ay K ρ H vs ds->ay K ρ H (v::vs) (d::ds)
end
def Dw.mapG {K:Frag} {ρ ρ':Ξ} {H H':Hp} (hs:∀ a xs,cD K H a xs->cD K H' a xs) (ht:∀ a xs,H a=some (.tup xs)->H' a=some (.tup xs)) (hr:∀ (n:Nat) (a:Addr),ρ[n]?=some a->ρ'[n]?=some a) {v:V} {d:W} (h:Dw K ρ H v d):Dw K ρ' H' v d:=
 Dw.rec (motive_1:=λ v d _=>Dw K ρ' H' v d) (motive_2:=λ vs ds _=>ay K ρ' H' vs ds) .non .bl .int .str (λ q _ ih=>.lst (hs _ _ q) ih) (λ q _ ih=>.tup (ht _ _ q) ih) (λ e=>.ref (hr _ _ e)) .nil (λ _ _ a b=>.cons a b) h
def ay.ind {K:Frag} {ρ:Ξ} {H:Hp} {M:List V->List W->Prop} (h0:M [] []) (h1:∀ v vs d ds,Dw K ρ H v d->M vs ds->M (v::vs) (d::ds)) {vs:List V} {ds:List W} (h:ay K ρ H vs ds):M vs ds:=
 ay.rec (motive_1:=λ _ _ _=>True) (motive_2:=λ vs ds _=>M vs ds) trivial (λ _=>trivial) (λ _=>trivial) (λ _=>trivial) (λ _ _ _=>trivial) (λ _ _ _=>trivial) (λ _=>trivial) h0 (λ a _ _ ih=>h1 _ _ _ _ a ih) h
def Dw.same {K:Frag} {ρ:Ξ} {H H':Hp} (g:bj H H') {v:V} {d:W} (h:Dw K ρ H v d):Dw K ρ H' v d:=h.mapG (λ _ _ q=>g.seq q) (λ _ _ q=>g _ _ q) λ _ _ e=>e
def ay.mapA {K:Frag} {ρ ρ':Ξ} {H H':Hp} (f:∀ v d,Dw K ρ H v d->Dw K ρ' H' v d) {vs:List V} {ds:List W} (h:ay K ρ H vs ds):ay K ρ' H' vs ds:=h.ind (M:=λ vs ds=>ay K ρ' H' vs ds) .nil λ _ _ _ _ a b=>.cons (f _ _ a) b
def ay.same {K:Frag} {ρ:Ξ} {H H':Hp} (g:bj H H') {vs:List V} {ds:List W} (h:ay K ρ H vs ds):ay K ρ H' vs ds:=h.mapA λ _ _ a=>a.same g
mutual
noncomputable def W.py:W->Option PyData
 | .none=>some .none
 | .bool b=>some (.bool b)
 | .int i=>some (.int i)
 | .str x=>some (.str x)
 | .list ds=>(W.pys ds).map .list
 | .tuple ds=>(W.pys ds).map .tuple
 | .ref _=>Option.none
noncomputable def W.pys:List W->Option (List PyData)
 | []=>some []
 | d::ds=>(W.py d).bind λ x=>(W.pys ds).map (x::·)
end
def Dw.dp {K:Frag} {ρ:Ξ} {H:Hp} {v:V} {d:W} {x:PyData} (h:Dw K ρ H v d):d.py=some x->Dp K H v x:=
 Dw.rec (motive_1:=λ v d _=>∀ x,d.py=some x->Dp K H v x) (motive_2:=λ vs ds _=>∀ xs,W.pys ds=some xs->ik K H vs xs)
  (λ x e=>by cases e;exact .non) (λ b x e=>by cases e;exact .bl b) (λ i x e=>by cases e;exact .int i) (λ y x e=>by cases e;exact .str y)
  (λ q _ ih x e=>by
   obtain ⟨xs,e1,rfl⟩:=oM e
   exact .lst q (ih _ e1))
  (λ q _ ih x e=>by
   obtain ⟨xs,e1,rfl⟩:=oM e
   exact .tup (eK.of q) (ih _ e1))
  (λ _ x e=>by cases e) (λ xs e=>by cases e;exact .nil)
  (λ _ _ ih1 ih2 xs e=>by
   obtain ⟨x,e1,e⟩:=oB e
   obtain ⟨ys,e2,rfl⟩:=oM e
   exact .cons (ih1 _ e1) (ih2 _ e2)) h x
def ay.dp {K:Frag} {ρ:Ξ} {H:Hp} {vs:List V} {ds:List W} {xs:List PyData} (h:ay K ρ H vs ds):W.pys ds=some xs->ik K H vs xs:=
 h.ind (M:=λ vs ds=>∀ xs,W.pys ds=some xs->ik K H vs xs) (λ xs e=>by cases e;exact .nil) (λ _ _ _ _ a ih xs e=>by
  obtain ⟨x,e1,e⟩:=oB e
  obtain ⟨ys,e2,rfl⟩:=oM e
  exact .cons (a.dp e1) (ih _ e2)) xs
inductive Sl where
 | no
 | val (d:W)
 | own (ds:List W)
noncomputable abbrev DS:=List Sl
abbrev μ:=DS->Option W
abbrev θ:=DS->Option (List W)
abbrev η:=W->DS->Option DS
noncomputable def vH (K:Frag) (ρ:Ξ) (G H:Hp):Sl->Option V->Prop
 | .no,_=>True
 | .val d,o=>∃ v,o=some v/\Dw K ρ G v d
 | .own ds,o=>∃ p vs,o=some (.ref p)/\G p=none/\H p=some (.lst vs)/\ay K ρ G vs ds
noncomputable def nT (H:Hp) (b:Addr):Prop:=H b≠none/\∀ xs,H b≠some (.tup xs)
def nT.of {H:Hp} {b:Addr} {o:HO} (h:H b=some o) (n:∀ xs,o≠.tup xs):nT H b:=⟨by rw [h];exact nofun,λ xs z=>n xs (by rw [h] at z;cases z;rfl)⟩
def nT.l {H:Hp} {b:Addr} {vs:List V} (h:H b=some (.lst vs)):nT H b:=.of h λ _ z=>by cases z
def nT.same {H H':Hp} {b:Addr} (x:nT H b) (s:bj H H'):nT H' b:=by
 cases q:H b with
 | none=>exact absurd q x.1
 | some o=>exact .of (s b o q) λ xs z=>x.2 xs (by rw [q,z])
structure Gr (G H G' H':Hp):Prop where
 g:bj G G'
 h:bj H H'
 s:bj G' H'
 n:∀ b,nT H b->G b=none->G' b=none
def qv {H H':Hp} (s:bj H H') {b:Addr} (h:H b≠none):H' b≠none:=λ e=>by
 cases q:H b with
 | none=>exact h q
 | some o=>
  have:=s b o q
  rw [e] at this
  cases this
def cW {G H:Hp} (s:bj G H) {b:Addr} (h:H b=none):G b=none:=by
 cases q:G b with
 | none=>rfl
 | some o=>
  have:=s b o q
  rw [h] at this
  cases this
def Gr.refl {G H:Hp} (s:bj G H):Gr G H G H:=⟨.refl _,.refl _,s,λ _ _ h=>h⟩
def Gr.trans {G H G1 H1 G2 H2:Hp} (a:Gr G H G1 H1) (b:Gr G1 H1 G2 H2):Gr G H G2 H2:=
 ⟨a.g.trans b.g,a.h.trans b.h,b.s,λ c h1 h2=>b.n c (h1.same a.h) (a.n c h1 h2)⟩
def pv {G H':Hp} {p:Addr} {o:HO} (s:bj G H') (h:H' p=some o):bj (bZ G p o) H':=λ b u e=>by
 by_cases hb:b=p
 . subst hb
   rw [aJ] at e
   cases e
   exact h
 . rw [aH hb] at e
   exact s _ _ e
def Gr.new {G H G' H':Hp} {p:Addr} {o:HO} (a:Gr G H G' H') (h0:H p=none) (g0:G' p=none) (h:H' p=some o):Gr G H (bZ G' p o) H':=
 ⟨a.g.trans (jK g0 o),a.h,pv a.s h,λ b h1 h2=>by
  rw [aH (λ e=>h1.1 (by rw [e];exact h0))]
  exact a.n b h1 h2⟩
def Gr.nw {G H H':Hp} {p:Addr} {o:HO} (s:bj G H) (n:Nw H H' p o):Gr G H (bZ G p o) H':=
 Gr.new ⟨.refl _,n.1,s.trans n.1,λ _ _ h=>h⟩ n.2.1 (cW s n.2.1) n.2.2
def Gr.nwO {G H H':Hp} {p:Addr} {o:HO} (s:bj G H) (n:Nw H H' p o):Gr G H G H':=⟨.refl _,n.1,s.trans n.1,λ _ _ h=>h⟩
structure Rl (K:Frag) (ρ:Ξ) (G H:Hp) (δ:DS) (σ:St):Prop where
 sub:bj G H
 len:δ.length=σ.length
 sl:∀ (i:Nat) s,δ[i]?=some s->∃ o,σ[i]?=some o/\vH K ρ G H s o
 apart:∀ (i j:Nat) p ds es,δ[i]?=some (.own ds)->δ[j]?=some (.own es)->σ[i]?=some (some (.ref p))->σ[j]?=some (some (.ref p))->i=j
def vH.grow {K:Frag} {ρ:Ξ} {G H G' H':Hp} (g:Gr G H G' H') {s:Sl} {o:Option V} (h:vH K ρ G H s o):vH K ρ G' H' s o:=by
 cases s with
 | no=>exact trivial
 | val d=>
  obtain ⟨v,e,h⟩:=h
  exact ⟨v,e,h.same g.g⟩
 | own ds=>
  obtain ⟨p,vs,e,h1,h2,h3⟩:=h
  exact ⟨p,vs,e,g.n p (.l h2) h1,g.h _ _ h2,h3.same g.g⟩
def Rl.grow {K:Frag} {ρ:Ξ} {G H G' H':Hp} {δ:DS} {σ:St} (R:Rl K ρ G H δ σ) (g:Gr G H G' H'):Rl K ρ G' H' δ σ:=
 ⟨g.s,R.len,λ i s e=>by
  obtain ⟨o,h1,h2⟩:=R.sl i s e
  exact ⟨o,h1,h2.grow g⟩,R.apart⟩
def dJ {α:Type} {xs:List α} {i j:Nat} {a b:α} (h:(xs.set i a)[j]?=some b):(i=j/\a=b/\j<xs.length)∨(i≠j/\xs[j]?=some b):=by
 by_cases e:i=j
 . subst e
   rw [List.getElem?_set] at h
   simp only [if_true] at h
   split at h
   . rename_i hl
     cases h
     exact .inl ⟨rfl,rfl,hl⟩
   . cases h
 . rw [getElem?_set_ne e] at h
   exact .inr ⟨e,h⟩
def jj {α:Type} {xs:List α} {i:Nat} {a:α} (h:i<xs.length):(xs.set i a)[i]?=some a:=by
 rw [List.getElem?_set]
 simp [h]
noncomputable def f9 (δ':DS) (σ':St) (δ:DS) (σ:St):Prop:=∀ (i:Nat) ds p,δ'[i]?=some (.own ds)->σ'[i]?=some (some (.ref p))->∃ es,δ[i]?=some (.own es)/\σ[i]?=some (some (.ref p))
def f9.refl (δ:DS) (σ:St):f9 δ σ δ σ:=λ i ds p h1 h2=>⟨ds,h1,h2⟩
def f9.trans {δ δ1 δ2:DS} {σ σ1 σ2:St} (a:f9 δ2 σ2 δ1 σ1) (b:f9 δ1 σ1 δ σ):f9 δ2 σ2 δ σ:=λ i ds p h1 h2=>by
 obtain ⟨es,h3,h4⟩:=a i ds p h1 h2
 exact b i es p h3 h4
def jn {δ:DS} {σ:St} {i:Nat} {d:W} {v:V} (h:δ.length=σ.length):f9 (δ.set i (.val d)) (σ.set i (some v)) δ σ:=λ j ds p h1 h2=>by
 rcases dJ h1 with ⟨_,e,_⟩ | ⟨ne,h1⟩
 . cases e
 . rw [getElem?_set_ne ne] at h2
   exact ⟨ds,h1,h2⟩
def Rl.set {K:Frag} {ρ:Ξ} {G H:Hp} {δ:DS} {σ:St} {i:Nat} {d:W} {v:V} (R:Rl K ρ G H δ σ) (h:Dw K ρ G v d):Rl K ρ G H (δ.set i (.val d)) (σ.set i (some v)):=
 ⟨R.sub,by rw [length_set,length_set];exact R.len,λ j s e=>by
  rcases dJ e with ⟨rfl,rfl,hl⟩ | ⟨ne,e⟩
  . exact ⟨_,jj (by rw [<-R.len];exact hl),v,rfl,h⟩
  . rw [getElem?_set_ne ne]
    exact R.sl j s e,λ j k p ds es h1 h2 h3 h4=>by
  obtain ⟨ds',a1,a2⟩:=jn (v:=v) R.len j ds p h1 h3
  obtain ⟨es',b1,b2⟩:=jn (v:=v) R.len k es p h2 h4
  exact R.apart j k p _ _ a1 b1 a2 b2⟩
def Rl.setO {K:Frag} {ρ:Ξ} {G H:Hp} {δ:DS} {σ:St} {i:Nat} {ds:List W} {p:Addr} {vs:List V} (R:Rl K ρ G H δ σ) (g0:G p=none) (h:H p=some (.lst vs)) (hd:ay K ρ G vs ds)
 (hn:∀ (j:Nat) es,j≠i->δ[j]?=some (.own es)->σ[j]?≠some (some (.ref p))):Rl K ρ G H (δ.set i (.own ds)) (σ.set i (some (.ref p))):=
 ⟨R.sub,by rw [length_set,length_set];exact R.len,λ j s e=>by
  rcases dJ e with ⟨rfl,rfl,hl⟩ | ⟨ne,e⟩
  . exact ⟨_,jj (by rw [<-R.len];exact hl),p,vs,rfl,g0,h,hd⟩
  . rw [getElem?_set_ne ne]
    exact R.sl j s e,λ j k q ds' es' h1 h2 h3 h4=>by
  rcases dJ h1 with ⟨rfl,_,hl⟩ | ⟨ne,h1⟩ <;> rcases dJ h2 with ⟨rfl,_,hl2⟩ | ⟨ne2,h2⟩
  . rfl
  . rw [jj (by rw [<-R.len];exact hl)] at h3
    rw [getElem?_set_ne ne2] at h4
    cases h3
    exact absurd h4 (hn k es' (Ne.symm ne2) h2)
  . rw [jj (by rw [<-R.len];exact hl2)] at h4
    rw [getElem?_set_ne ne] at h3
    cases h4
    exact absurd h3 (hn j ds' (Ne.symm ne) h1)
  . rw [getElem?_set_ne ne] at h3
    rw [getElem?_set_ne ne2] at h4
    exact R.apart j k q _ _ h1 h2 h3 h4⟩
noncomputable def DE (K:Frag) (ρ:Ξ) (t:TE) (f:μ):Prop:=
 ∀ (G:Hp) (σ:St) (H:Hp) (δ:DS) (d:W) (Q:VK),Rl K ρ G H δ σ->f δ=some d->(∀ v G' H',Gr G H G' H'->Dw K ρ G' v d->Q v H')->t σ H Q
noncomputable def DA (K:Frag) (ρ:Ξ) (t:TA) (f:θ):Prop:=
 ∀ (G:Hp) (σ:St) (H:Hp) (δ:DS) (ds:List W) (Q:List V->Hp->Prop),Rl K ρ G H δ σ->f δ=some ds->(∀ vs G' H',Gr G H G' H'->ay K ρ G' vs ds->Q vs H')->t σ H Q
noncomputable def DT (K:Frag) (ρ:Ξ) (t:TT) (f:DS->Option Bool):Prop:=
 ∀ (G:Hp) (σ:St) (H:Hp) (δ:DS) (b:Bool) (Q:Bool->Hp->Prop),Rl K ρ G H δ σ->f δ=some b->(∀ G' H',Gr G H G' H'->Q b H')->t σ H Q
noncomputable def DO (K:Frag) (ρ:Ξ) (t:TE) (f:θ):Prop:=
 ∀ (G:Hp) (σ:St) (H:Hp) (δ:DS) (ds:List W) (Q:VK),Rl K ρ G H δ σ->f δ=some ds->(∀ p vs G' H',Gr G H G' H'->H p=none->G' p=none->H' p=some (.lst vs)->ay K ρ G' vs ds->Q (.ref p) H')->t σ H Q
noncomputable def Pk (K:Frag) (ρ:Ξ) (G H:Hp) (v:V) (d:W):Prop:=Dw K ρ G v d∨∃ p vs ds,v=.ref p/\d=.list ds/\H p=some (.lst vs)/\ay K ρ G vs ds
noncomputable def DK (K:Frag) (ρ:Ξ) (t:TE) (f:μ):Prop:=
 ∀ (G:Hp) (σ:St) (H:Hp) (δ:DS) (d:W) (Q:VK),Rl K ρ G H δ σ->f δ=some d->(∀ v G' H',Gr G H G' H'->Pk K ρ G' H' v d->Q v H')->t σ H Q
section
variable {K:Frag} {ρ:Ξ}
def Pk.dp {G H:Hp} {v:V} {d:W} (s:bj G H) (h:Pk K ρ G H v d):Dw K ρ H v d:=by
 rcases h with h | ⟨p,vs,ds,rfl,rfl,h1,h2⟩
 . exact h.same s
 . exact .lst (cD.of h1) (h2.same s)
def Pk.grow {G H G' H':Hp} {v:V} {d:W} (g:Gr G H G' H') (h:Pk K ρ G H v d):Pk K ρ G' H' v d:=by
 rcases h with h | ⟨p,vs,ds,rfl,rfl,h1,h2⟩
 . exact .inl (h.same g.g)
 . exact .inr ⟨p,vs,ds,rfl,rfl,g.h _ _ h1,h2.same g.g⟩
def DE.dk {t:TE} {f:μ} (h:DE K ρ t f):DK K ρ t f:=λ G σ H δ d Q R e q=>h G σ H δ d Q R e λ v G' H' g dv=>q v G' H' g (.inl dv)
noncomputable def br (f:θ):DS->Option W:=λ δ=>(f δ).map .list
def DO.de {t:TE} {f:θ} (h:DO K ρ t f):DE K ρ t (br f):=λ G σ H δ d Q R e q=>by
 obtain ⟨ds,e1,rfl⟩:=oM e
 exact h G σ H δ ds Q R e1 λ p vs G' H' g h0 g0 hh da=>q _ _ H' (g.new h0 g0 hh) (.lst (cD.of aJ) (da.same (jK g0 _)))
noncomputable def af (i:Nat):DS->Option W:=λ δ=>match δ[i]? with
 | some (.val d)=>some d
 | _=>none
def n9 {i:Nat}:DE K ρ (ym i) (af i):=λ G σ H δ d Q R e q=>by
 unfold af at e
 split at e
 . rename_i d' h
   cases e
   obtain ⟨o,h1,v,h2,h3⟩:=R.sl i _ h
   exact ⟨v,by rw [h1,h2],q v G H (.refl R.sub) h3⟩
 . cases e
noncomputable def aw (i:Nat):DS->Option W:=λ δ=>match δ[i]? with
 | some (.val d)=>some d
 | some (.own ds)=>some (.list ds)
 | _=>none
def uC {i:Nat}:DK K ρ (ym i) (aw i):=λ G σ H δ d Q R e q=>by
 unfold aw at e
 split at e
 . rename_i d' h
   cases e
   obtain ⟨o,h1,v,h2,h3⟩:=R.sl i _ h
   exact ⟨v,by rw [h1,h2],q v G H (.refl R.sub) (.inl h3)⟩
 . rename_i ds h
   cases e
   obtain ⟨o,h1,p,vs,h2,h3,h4,h5⟩:=R.sl i _ h
   exact ⟨.ref p,by rw [h1,h2],q _ G H (.refl R.sub) (.inr ⟨p,vs,ds,rfl,rfl,h4,h5⟩)⟩
 . cases e
noncomputable def dC (d:W):DS->Option W:=λ _=>some d
def Ex {v:V} {d:W} (h:∀ G,Dw K ρ G v d):DE K ρ (tC v) (dC d):=λ G σ H δ d' Q R e q=>by
 cases e
 exact q v G H (.refl R.sub) (h G)
def qc {i:Int}:DE K ρ (tC (.int i)) (dC (.int i)):=Ex λ _=>.int i
def J5 {b:Bool}:DE K ρ (tC (.bl b)) (dC (.bool b)):=Ex λ _=>.bl b
def Ar {x:Str}:DE K ρ (tC (.str x)) (dC (.str x)):=Ex λ _=>.str x
def Ii:DE K ρ (tC .non) (dC .none):=Ex λ _=>.non
noncomputable def DR (K:Frag) (ρ:Ξ) (r:R2) (g:W->W->Option W):Prop:=
 ∀ (G H:Hp) (x y:V) (d e c:W) (Q:VK),bj G H->Pk K ρ G H x d->Dw K ρ G y e->g d e=some c->(∀ v G' H',Gr G H G' H'->Dw K ρ G' v c->Q v H')->r x y H Q
noncomputable def az (g:W->W->Option W) (fa fb:μ):DS->Option W:=λ δ=>(fa δ).bind λ x=>(fb δ).bind λ y=>g x y
def BB {r:R2} {ta tb:TE} {fa fb:μ} {g:W->W->Option W} (hr:DR K ρ r g) (ha:DK K ρ ta fa) (hb:DE K ρ tb fb):DE K ρ (tT r ta tb) (az g fa fb):=λ G σ H δ d Q R e q=>by
 obtain ⟨x,ex,e⟩:=oB e
 obtain ⟨y,ey,e⟩:=oB e
 exact ha G σ H δ x _ R ex λ v G1 H1 g1 dv=>hb G1 σ H1 δ y _ (R.grow g1) ey λ u G2 H2 g2 du=>hr G2 H2 v u x y d Q g2.s (dv.grow g2) du e λ w G3 H3 g3 dw=>q w G3 H3 (g1.trans (g2.trans g3)) dw
noncomputable def DB (K:Frag) (ρ:Ξ) (r:R2) (g:W->W->Option Bool):Prop:=
 ∀ (H:Hp) (x y:V) (d e:W) (b:Bool) (Q:VK),Dw K ρ H x d->Dw K ρ H y e->g d e=some b->Q (.bl b) H->r x y H Q
noncomputable def aG (g:W->W->Option Bool) (fa fb:μ):DS->Option Bool:=λ δ=>(fa δ).bind λ x=>(fb δ).bind λ y=>g x y
noncomputable def dB (f:DS->Option Bool):DS->Option W:=λ δ=>(f δ).map .bool
def p6 {r:R2} {ta tb:TE} {fa fb:μ} {g:W->W->Option Bool} (hr:DB K ρ r g) (ha:DK K ρ ta fa) (hb:DK K ρ tb fb) {G:Hp} {σ:St} {H:Hp} {δ:DS} {b:Bool} {Q:VK} (R:Rl K ρ G H δ σ) (e:aG g fa fb δ=some b) (q:∀ G' H',Gr G H G' H'->Q (.bl b) H'):tT r ta tb σ H Q:=by
 obtain ⟨x,ex,e⟩:=oB e
 obtain ⟨y,ey,e⟩:=oB e
 exact ha G σ H δ x _ R ex λ v G1 H1 g1 dv=>hb G1 σ H1 δ y _ (R.grow g1) ey λ u G2 H2 g2 du=>hr H2 v u x y b Q ((dv.grow g2).dp g2.s) (du.dp g2.s) e (q G2 H2 (g1.trans g2))
def H9 {r:R2} {ta tb:TE} {fa fb:μ} {g:W->W->Option Bool} (hr:DB K ρ r g) (ha:DK K ρ ta fa) (hb:DK K ρ tb fb):DE K ρ (tT r ta tb) (dB (aG g fa fb)):=λ G σ H δ d Q R e q=>by
 obtain ⟨b,e1,rfl⟩:=oM e
 exact p6 hr ha hb R e1 λ G' H' g=>q _ G' H' g (.bl b)
def BG {r:R2} {ta tb:TE} {fa fb:μ} {g:W->W->Option Bool} (hr:DB K ρ r g) (ha:DK K ρ ta fa) (hb:DK K ρ tb fb):DT K ρ (xy (tT r ta tb)) (aG g fa fb):=λ G σ H δ b Q R e q=>
 p6 hr ha hb R e λ G' H' g=>⟨b,rfl,q G' H' g⟩
noncomputable def Am:W->Option Bool
 | .bool b=>some b
 | _=>none
noncomputable def ML (f:μ):DS->Option Bool:=λ δ=>(f δ).bind Am
def mZ {d:W} {b:Bool} (h:Am d=some b):d=.bool b:=by
 cases d <;> first | (cases h;rfl) | cases h
noncomputable def oi (f g:DS->Option Bool):DS->Option Bool:=λ δ=>(f δ).bind λ b=>if b=true then g δ else some false
noncomputable def pC (f g:DS->Option Bool):DS->Option Bool:=λ δ=>(f δ).bind λ b=>if b=true then some true else g δ
noncomputable def Ny (f:DS->Option Bool):DS->Option Bool:=λ δ=>(f δ).map (!·)
def Ak {t u:TT} {f g:DS->Option Bool} (h1:DT K ρ t f) (h2:DT K ρ u g):DT K ρ (Jv t u) (oi f g):=λ G σ H δ b Q R e q=>by
 obtain ⟨x,ex,e⟩:=oB e
 refine h1 G σ H δ x _ R ex λ G1 H1 g1=>?_
 cases x with
 | true=>exact h2 G1 σ H1 δ b Q (R.grow g1) e λ G2 H2 g2=>q G2 H2 (g1.trans g2)
 | false=>cases e;exact q G1 H1 g1
def Ll {t u:TT} {f g:DS->Option Bool} (h1:DT K ρ t f) (h2:DT K ρ u g):DT K ρ (MD t u) (pC f g):=λ G σ H δ b Q R e q=>by
 obtain ⟨x,ex,e⟩:=oB e
 refine h1 G σ H δ x _ R ex λ G1 H1 g1=>?_
 cases x with
 | false=>exact h2 G1 σ H1 δ b Q (R.grow g1) e λ G2 H2 g2=>q G2 H2 (g1.trans g2)
 | true=>cases e;exact q G1 H1 g1
noncomputable def JS (f g:μ):DS->Option W:=λ δ=>(f δ).bind λ x=>(Am x).bind λ b=>if b=true then g δ else some (.bool false)
noncomputable def Eh (f g:μ):DS->Option W:=λ δ=>(f δ).bind λ x=>(Am x).bind λ b=>if b=true then some (.bool true) else g δ
def Lx {t u:TE} {f g:μ} (h1:DE K ρ t f) (h2:DE K ρ u g):DE K ρ (Kx t u) (Eh f g):=λ G σ H δ d Q R e q=>by
 obtain ⟨x,ex,e⟩:=oB e
 obtain ⟨b,eb,e⟩:=oB e
 cases mZ eb
 refine h1 G σ H δ _ _ R ex λ v G1 H1 g1 dv=>?_
 cases dv
 refine ⟨b,rfl,?_⟩
 cases b with
 | false=>exact h2 G1 σ H1 δ d Q (R.grow g1) e λ v G2 H2 g2 dv=>q v G2 H2 (g1.trans g2) dv
 | true=>cases e;exact q _ G1 H1 g1 (.bl true)
noncomputable def wB (f:μ):DS->Option W:=λ δ=>(f δ).bind λ x=>(Am x).map λ b=>.bool (!b)
def IB {t:TE} {f:μ} (h:DE K ρ t f):DE K ρ (E9 t) (wB f):=λ G σ H δ d Q R e q=>by
 obtain ⟨x,ex,e⟩:=oB e
 obtain ⟨b,eb,rfl⟩:=oM e
 cases mZ eb
 refine h G σ H δ _ _ R ex λ v G1 H1 g1 dv=>?_
 cases dv
 exact ⟨b,rfl,q _ G1 H1 g1 (.bl _)⟩
noncomputable def Ew (c:DS->Option Bool) (f g:μ):DS->Option W:=λ δ=>(c δ).bind λ b=>if b=true then f δ else g δ
def Jh {tc:TT} {t u:TE} {c:DS->Option Bool} {f g:μ} (hc:DT K ρ tc c) (h1:DE K ρ t f) (h2:DE K ρ u g):DE K ρ (NO tc t u) (Ew c f g):=λ G σ H δ d Q R e q=>by
 obtain ⟨b,eb,e⟩:=oB e
 refine hc G σ H δ b _ R eb λ G1 H1 g1=>?_
 cases b with
 | true=>exact h1 G1 σ H1 δ d Q (R.grow g1) e λ v G2 H2 g2 dv=>q v G2 H2 (g1.trans g2) dv
 | false=>exact h2 G1 σ H1 δ d Q (R.grow g1) e λ v G2 H2 g2 dv=>q v G2 H2 (g1.trans g2) dv
noncomputable def ag:DS->Option (List W):=λ _=>some []
noncomputable def aa (f:μ) (g:θ):DS->Option (List W):=λ δ=>(f δ).bind λ d=>(g δ).map (d::·)
def qX:DA K ρ j4 ag:=λ G σ H δ ds Q R e q=>by
 cases e
 exact q [] G H (.refl R.sub) .nil
def rB {t:TE} {u:TA} {f:μ} {g:θ} (h1:DE K ρ t f) (h2:DA K ρ u g):DA K ρ (fX t u) (aa f g):=λ G σ H δ ds Q R e q=>by
 obtain ⟨d,ed,e⟩:=oB e
 obtain ⟨es,ee,rfl⟩:=oM e
 exact h1 G σ H δ d _ R ed λ v G1 H1 g1 dv=>h2 G1 σ H1 δ es _ (R.grow g1) ee λ vs G2 H2 g2 da=>q _ G2 H2 (g1.trans g2) (.cons (dv.same g2.g) da)
def ay.length {G:Hp} {vs:List V} {ds:List W} (h:ay K ρ G vs ds):vs.length=ds.length:=h.ind (M:=λ vs ds=>vs.length=ds.length) rfl λ _ _ _ _ _ e=>congrArg (· + 1) e
def ay.get {G:Hp} {vs:List V} {ds:List W} {i:Nat} {d:W} (h:ay K ρ G vs ds):ds[i]?=some d->∃ v,vs[i]?=some v/\Dw K ρ G v d:=
 h.ind (M:=λ vs ds=>∀ (i:Nat) d,ds[i]?=some d->∃ v,vs[i]?=some v/\Dw K ρ G v d) (λ _ _ e=>by cases e) (λ v _ _ _ a ih i d e=>by
  cases i with
  | zero=>cases e;exact ⟨v,rfl,a⟩
  | succ i=>exact ih i d e) i d
def ay.app {G:Hp} {vs ws:List V} {ds es:List W} (h:ay K ρ G vs ds) (h':ay K ρ G ws es):ay K ρ G (vs++ws) (ds++es):=h.ind (M:=λ vs ds=>ay K ρ G (vs++ws) (ds++es)) h' λ _ _ _ _ a ih=>.cons a ih
def ay.drop {G:Hp} {vs:List V} {ds:List W} (n:Nat) (h:ay K ρ G vs ds):ay K ρ G (vs.drop n) (ds.drop n):=by
 induction n generalizing vs ds with
 | zero=>exact h
 | succ n ih=>
  cases h with
  | nil=>exact .nil
  | cons _ t=>exact ih t
def ay.take {G:Hp} {vs:List V} {ds:List W} (n:Nat) (h:ay K ρ G vs ds):ay K ρ G (vs.take n) (ds.take n):=by
 induction n generalizing vs ds with
 | zero=>exact .nil
 | succ n ih=>
  cases h with
  | nil=>exact .nil
  | cons a t=>exact .cons a (ih t)
def ay.set {G:Hp} {v:V} {d:W} (h:Dw K ρ G v d):∀ {vs:List V} {ds:List W} (n:Nat),ay K ρ G vs ds->ay K ρ G (vs.set n v) (ds.set n d):=λ {vs ds} n q=>by
 induction n generalizing vs ds with
 | zero=>
  cases q with
  | nil=>exact .nil
  | cons _ t=>exact .cons h t
 | succ n ih=>
  cases q with
  | nil=>exact .nil
  | cons a t=>exact .cons a (ih t)
def ay.ints {G:Hp}:∀ (ns:List Int),ay K ρ G (ns.map V.int) (ns.map .int)
 | []=>.nil
 | n::r=>.cons (.int n) (ay.ints r)
noncomputable def aM (f:θ):DS->Option W:=λ δ=>(f δ).bind λ ds=>if ds.length<=sizeLine then some (.tuple ds) else none
def FG {t:TA} {f:θ} (h:DA K ρ t f):DE K ρ (Bw t) (aM f):=λ G σ H δ d Q R e q=>by
 obtain ⟨ds,e1,e⟩:=oB e
 split at e
 . rename_i hz
   cases e
   refine h G σ H δ ds _ R e1 λ vs G1 H1 g1 da=>⟨by rw [da.length];exact hz,λ p H' n=>?_⟩
   have g2:=Gr.nw g1.s n
   exact q _ _ H' (g1.trans g2) (.tup aJ (da.same g2.g))
 . cases e
noncomputable def bE (f:θ):DS->Option (List W):=λ δ=>(f δ).bind λ ds=>if ds.length<=sizeLine then some ds else none
def uA {t:TA} {f:θ} (h:DA K ρ t f):DO K ρ (Af t) (bE f):=λ G σ H δ ds Q R e q=>by
 obtain ⟨ds',e1,e⟩:=oB e
 split at e
 . rename_i hz
   cases e
   refine h G σ H δ _ _ R e1 λ vs G1 H1 g1 da=>⟨by rw [da.length];exact hz,λ p H' n=>?_⟩
   exact q p vs G1 H' (g1.trans (.nwO g1.s n)) (by
    cases hp:H p with
    | none=>rfl
    | some o=>exact absurd (g1.h _ _ hp) (by rw [n.2.1];simp)) (cW g1.s n.2.1) n.2.2 da
 . cases e
end
section
variable {X:Cx} {tg:Expr}
noncomputable def xO (K:Frag) (tl:TE):TI:=λ σ H R=>tl σ H λ x H1=>∃ a,x=.ref a/\(((∃ xs,cD K H1 a xs)/\R (MR K a) H1)∨((∃ xs,eK K H1 a xs)/\R (NB K a) H1))
def HN {l:Expr} {tl:TE} (hl:PE X l tl):PI X tg l (xO X.K tl):=by
 intro pins s σ H R I h
 refine bY (hl pins s σ H _ I h) λ v s1 hq0=>?_
 obtain ⟨x,H1,I1,r1,q1⟩:=hq0
 obtain ⟨a,e,⟨⟨xs,hq⟩,q⟩ | ⟨⟨xs,hq⟩,q⟩⟩:=q1
 all_goals
  subst e
  cases r1
 . obtain ⟨its,rv,p,hz⟩:=I1.list hq
   refine wpAny_pyIter_list p.isList ?_
   refine ⟨s1.heap.objs.size,[s1.heap.objs.size],_,_,H1,rfl,I1.kept (t':=s1.toks) λ b o e=>get?_push_of_some _ e,yg a _,⟨_,get?_push_size _ rfl,rfl,rfl⟩,λ b hb=>?_,q⟩
   have e:b=s1.heap.objs.size:=by simpa using hb
   subst e
   exact I1.fpOk (le_refl _) (I1.hok.fresh (le_refl _))
 . obtain ⟨its,rv,p,hz⟩:=I1.tuple hq
   refine wpAny_pyIter_tuple (show s1.heap.IsTuple a its.toArray from p) ?_
   refine ⟨s1.heap.objs.size,[s1.heap.objs.size],_,_,H1,rfl,I1.kept (t':=s1.toks) λ b o e=>get?_push_of_some _ e,vB a _,⟨_,get?_push_size _ rfl,rfl,rfl⟩,λ b hb=>?_,q⟩
   have e:b=s1.heap.objs.size:=by simpa using hb
   subst e
   exact I1.fpOk (le_refl _) (I1.hok.fresh (le_refl _))
def L8 {K:Frag} (h:X.K=K) {l:Expr} {tl:TE} (hl:PE X l tl):PI X tg l (xO K tl):=h▸HN hl
end
section
variable {K:Frag} {ρ:Ξ}
noncomputable def Cd (K:Frag) (ρ:Ξ) (J:It) (ds:List W) (i:Nat) (G1 H1:Hp):Prop:=
 (∀ d,ds[i]?=some d->J.go i H1/\∀ x H',J.yld i H1 x H'->∃ G',Gr G1 H1 G' H'/\Dw K ρ G' x d)/\(ds.length<=i->J.stop i H1)
noncomputable def NH (K:Frag) (ρ:Ξ) (J:It) (G H:Hp) (ds:List W):Prop:=∀ i G1 H1,Gr G H G1 H1->Cd K ρ J ds i G1 H1
noncomputable def Ln (K:Frag) (ρ:Ξ) (J:It) (G:Hp) (ds:List W):Prop:=∀ i G1 H1,bj G G1->bj G1 H1->Cd K ρ J ds i G1 H1
def Ln.d {J:It} {G H:Hp} {ds:List W} (h:Ln K ρ J G ds):NH K ρ J G H ds:=λ i G1 H1 g=>h i G1 H1 g.g g.s
noncomputable def DI (K:Frag) (ρ:Ξ) (wi:TI) (f:θ):Prop:=
 ∀ (G:Hp) (σ:St) (H:Hp) (δ:DS) (ds:List W) (R':It->Hp->Prop),Rl K ρ G H δ σ->f δ=some ds->(∀ J G' H',Gr G H G' H'->Ln K ρ J G' ds->R' J H')->wi σ H R'
noncomputable def Mc (K:Frag) (ρ:Ξ) (wi:TI) (f:θ):Prop:=
 ∀ (G:Hp) (σ:St) (H:Hp) (δ:DS) (ds:List W) (R':It->Hp->Prop),Rl K ρ G H δ σ->f δ=some ds->(∀ J G' H',Gr G H G' H'->NH K ρ J G' H' ds->R' J H')->wi σ H R'
def DI.k {wi:TI} {f:θ} (h:DI K ρ wi f):Mc K ρ wi f:=λ G σ H δ ds R' R e q=>h G σ H δ ds R' R e λ J G' H' g i=>q J G' H' g i.d
noncomputable def qM:W->Option (List W)
 | .list ds=>some ds
 | .tuple ds=>some ds
 | _=>none
noncomputable def bU (f:μ):DS->Option (List W):=λ δ=>(f δ).bind qM
def nW {G1 H1:Hp} {a:Addr} {xs:List V} {ds:List W} {i:Nat} (s:bj G1 H1) (q:cD K H1 a xs) (da:ay K ρ G1 xs ds):Cd K ρ (MR K a) ds i G1 H1:=by
 refine ⟨λ d hd=>?_,λ h=>⟨xs,q,by rw [da.length];exact h⟩⟩
 obtain ⟨v,h1,h2⟩:=da.get hd
 refine ⟨⟨xs,v,q,h1⟩,λ x H' y=>?_⟩
 obtain ⟨rfl,y⟩:=y
 have:=y xs q
 rw [h1] at this
 cases this
 exact ⟨G1,.refl s,h2⟩
def vz {G1 H1:Hp} {a:Addr} {xs:List V} {ds:List W} {i:Nat} (s:bj G1 H1) (q:eK K H1 a xs) (da:ay K ρ G1 xs ds):Cd K ρ (NB K a) ds i G1 H1:=by
 refine ⟨λ d hd=>?_,λ h=>⟨xs,q,by rw [da.length];exact h⟩⟩
 obtain ⟨v,h1,h2⟩:=da.get hd
 refine ⟨⟨xs,v,q,h1⟩,λ x H' y=>?_⟩
 obtain ⟨rfl,y⟩:=y
 have:=y xs q
 rw [h1] at this
 cases this
 exact ⟨G1,.refl s,h2⟩
def zv {t:TE} {f:μ} (h:DE K ρ t f):DI K ρ (xO K t) (bU f):=λ G σ H δ ds R' R e q=>by
 obtain ⟨d,ed,e⟩:=oB e
 refine h G σ H δ d _ R ed λ v G1 H1 g1 dv=>?_
 cases dv with
 | lst sq da=>
  cases e
  exact ⟨_,rfl,.inl ⟨⟨_,g1.s.seq sq⟩,q _ G1 H1 g1 λ i G2 H2 a b=>nW b ((a.trans b).seq sq) (da.same a)⟩⟩
 | tup sq da=>
  cases e
  exact ⟨_,rfl,.inr ⟨⟨_,g1.s.tup (eK.of sq)⟩,q _ G1 H1 g1 λ i G2 H2 a b=>vz b ((a.trans b).tup (eK.of sq)) (da.same a)⟩⟩
 | _=>cases e
def D8 {t:TE} {f:μ} (h:DK K ρ t f):Mc K ρ (xO K t) (bU f):=λ G σ H δ ds R' R e q=>by
 obtain ⟨d,ed,e⟩:=oB e
 refine h G σ H δ d _ R ed λ v G1 H1 g1 dv=>?_
 rcases dv with dv | ⟨p,vs,es,rfl,rfl,hp,da⟩
 . cases dv with
   | lst sq da=>
    cases e
    exact ⟨_,rfl,.inl ⟨⟨_,g1.s.seq sq⟩,q _ G1 H1 g1 λ i G2 H2 g=>nW g.s ((g.g.trans g.s).seq sq) (da.same g.g)⟩⟩
   | tup sq da=>
    cases e
    exact ⟨_,rfl,.inr ⟨⟨_,g1.s.tup (eK.of sq)⟩,q _ G1 H1 g1 λ i G2 H2 g=>vz g.s ((g.g.trans g.s).tup (eK.of sq)) (da.same g.g)⟩⟩
   | _=>cases e
 . cases e
   exact ⟨p,rfl,.inl ⟨⟨_,cD.of hp⟩,q _ G1 H1 g1 λ i G2 H2 g=>nW g.s (cD.of (g.h _ _ hp)) (da.same g.g)⟩⟩
noncomputable def eZ (lo:Int) (n:Nat):List W:=(List.range n).map λ i=>.int (lo+(i:Nat))
def FS {G:Hp} {lo:Int} {n:Nat}:Ln K ρ (LH lo n) G (eZ lo n):=λ i G1 H1 _ s=>by
 refine ⟨λ d hd=>?_,λ h=>show n<=i by simpa [eZ] using h⟩
 have hi:i<n:=by
  have:=(oG hd).1
  simpa [eZ] using this
 refine ⟨hi,λ x H' y=>?_⟩
 obtain ⟨rfl,rfl⟩:=y
 have:d=.int (lo+i):=by
  unfold eZ at hd
  rw [getElem?_map,List.getElem?_range hi] at hd
  cases hd
  rfl
 subst this
 exact ⟨G1,.refl s,.int _⟩
noncomputable def pi (j:Int):Bool:=decide (-(2^62)<=j)&&decide (j<2^62)
def xJ {j:Int} (h:pi j=true) : -(2^62)<=j/\j<2^62:=by
 simp only [pi,and_eq_true,decide_eq_true_eq] at h
 exact h
def zX {j:Int} (h1 : -(2^62)<=j) (h2:j<2^62):pi j=true:=by
 simp only [pi,and_eq_true,decide_eq_true_eq]
 exact ⟨h1,h2⟩
def xW {n:Nat} (h:n<=16777216):pi (n:Int)=true:=zX (by omega) (by omega)
noncomputable def xZ (j:Int):Option (List W):=if pi j=true then some (eZ 0 j.toNat) else none
noncomputable def Fe:List W->Option (List W)
 | [.int j]=>xZ j
 | _=>none
noncomputable def jf (f:θ):DS->Option (List W):=λ δ=>(f δ).bind Fe
def CZ {j:Int} {ds:List W} (h:xZ j=some ds):(-(2^62)<=j/\j<2^62)/\ds=eZ 0 j.toNat:=by
 unfold xZ at h
 split at h
 . rename_i hc
   cases h
   exact ⟨xJ hc,rfl⟩
 . cases h
def d8 {G:Hp} {v:V} {i:Int} (h:Dw K ρ G v (.int i)):v=.int i:=by cases h;rfl
def uZ {G:Hp} {v:V} {i:Str} (h:Dw K ρ G v (.str i)):v=.str i:=by cases h;rfl
def Aq {G:Hp} {v:V} {i:Bool} (h:Dw K ρ G v (.bool i)):v=.bl i:=by cases h;rfl
def vp {G:Hp} {v:V} (h:Dw K ρ G v .none):v=.non:=by cases h;rfl
def AJ {G:Hp} {vs:List V} {d:W} (h:ay K ρ G vs [d]):∃ v,vs=[v]/\Dw K ρ G v d:=by
 cases h with
 | cons a b=>cases b;exact ⟨_,rfl,a⟩
def Gi {G:Hp} {vs:List V} {d e:W} (h:ay K ρ G vs [d,e]):∃ v u,vs=[v,u]/\Dw K ρ G v d/\Dw K ρ G u e:=by
 cases h with
 | cons a b=>
  cases b with
  | cons b c=>cases c;exact ⟨_,_,rfl,a,b⟩
def B8 {ds es:List W} (e:Fe ds=some es):∃ j,ds=[.int j]/\xZ j=some es:=by
 cases ds with
 | nil=>cases e
 | cons x r=>
  cases x with
  | int j=>
   cases r with
   | nil=>exact ⟨j,rfl,e⟩
   | cons y r=>cases e
  | _=>cases r <;> cases e
def CV {t:TA} {f:θ} (h:DA K ρ t f):DI K ρ (F6 t) (jf f):=λ G σ H δ ds R' R e q=>by
 obtain ⟨es,ed,e⟩:=oB e
 refine h G σ H δ es _ R ed λ vs G1 H1 g1 da=>?_
 obtain ⟨j,rfl,e⟩:=B8 e
 obtain ⟨hc,rfl⟩:=CZ e
 obtain ⟨v,rfl,dv⟩:=AJ da
 cases d8 dv
 exact ⟨_,rfl,hc.1,hc.2,q _ G1 H1 g1 FS⟩
noncomputable def ke (ds:List W):List W:=(List.range ds.length).map λ (i:Nat)=>.tuple [.int (i:Int),ds[i]?.getD .none]
def xR {ds:List W} {i:Nat} {d:W} (h:(ke ds)[i]?=some d):∃ x,ds[i]?=some x/\d=.tuple [.int i,x]:=by
 have hi:i<ds.length:=by
  have:=(oG h).1
  simpa [ke] using this
 unfold ke at h
 rw [getElem?_map,List.getElem?_range hi] at h
 cases h
 exact ⟨ds[i],getElem?_eq_getElem hi,by simp [getElem?_eq_getElem hi]⟩
def Hq {G1 H1:Hp} {a:Addr} {xs:List V} {ds:List W} {i:Nat} (s:bj G1 H1) (q:cD K H1 a xs) (da:ay K ρ G1 xs ds):Cd K ρ (M1 K a) (ke ds) i G1 H1:=by
 refine ⟨λ d hd=>?_,λ h=>⟨xs,q,by rw [da.length];simpa [ke] using h⟩⟩
 obtain ⟨x,hx,rfl⟩:=xR hd
 obtain ⟨v,h1,h2⟩:=da.get hx
 refine ⟨⟨xs,v,q,h1⟩,λ y H' w=>?_⟩
 obtain ⟨p,u,hp,rfl,rfl,w⟩:=w
 have:=w xs q
 rw [h1] at this
 cases this
 have n:Nw H1 (bZ H1 p (.tup [.int i,v])) p (.tup [.int i,v]):=.of hp
 have g:=Gr.nw s n
 exact ⟨_,g,.tup aJ (.cons (.int i) (.cons (h2.same g.g) .nil))⟩
noncomputable def wL (f:θ):DS->Option (List W):=λ δ=>(f δ).bind λ ds=>match ds with
 | [.list es]=>some (ke es)
 | _=>none
def Ck {t:TA} {f:θ} (h:DA K ρ t f):DI K ρ (Ad K t) (wL f):=λ G σ H δ ds R' R e q=>by
 obtain ⟨es,ed,e⟩:=oB e
 refine h G σ H δ es _ R ed λ vs G1 H1 g1 da=>?_
 split at e
 . cases e
   obtain ⟨v,rfl,dv⟩:=AJ da
   cases dv with
   | lst sq da=>exact ⟨_,rfl,⟨_,g1.s.seq sq⟩,q _ G1 H1 g1 λ i G2 H2 a b=>Hq b ((a.trans b).seq sq) (da.same a)⟩
 . cases e
noncomputable def lY (ds es:List W):List W:=List.zipWith (λ x y=>.tuple [x,y]) ds es
def Av {ds es:List W} {i:Nat} {d:W} (h:(lY ds es)[i]?=some d):∃ x y,ds[i]?=some x/\es[i]?=some y/\d=.tuple [x,y]:=by
 unfold lY at h
 rw [List.getElem?_zipWith] at h
 cases h1:ds[i]? with
 | none=>rw [h1] at h;cases h
 | some x=>
  cases h2:es[i]? with
  | none=>rw [h1,h2] at h;cases h
  | some y=>
   rw [h1,h2] at h
   cases h
   exact ⟨x,y,rfl,rfl,rfl⟩
def Iw {G1 H1:Hp} {a b:Addr} {xs ys:List V} {ds es:List W} {i:Nat} (s:bj G1 H1) (q:cD K H1 a xs) (da:ay K ρ G1 xs ds) (q2:cD K H1 b ys) (db:ay K ρ G1 ys es):Cd K ρ (MW K a b) (lY ds es) i G1 H1:=by
 refine ⟨λ d hd=>?_,λ h=>⟨xs,ys,q,q2,?_⟩⟩
 . obtain ⟨x,y,hx,hy,rfl⟩:=Av hd
   obtain ⟨v,h1,h2⟩:=da.get hx
   obtain ⟨u,k1,k2⟩:=db.get hy
   refine ⟨⟨xs,ys,v,u,q,q2,h1,k1⟩,λ z H' w=>?_⟩
   obtain ⟨p,v',u',hp,rfl,rfl,w1,w2⟩:=w
   have:=w1 xs q
   rw [h1] at this
   cases this
   have:=w2 ys q2
   rw [k1] at this
   cases this
   have g:=Gr.nw s (Nw.of (o:=.tup [v,u]) hp)
   exact ⟨_,g,.tup aJ (.cons (h2.same g.g) (.cons (k2.same g.g) .nil))⟩
 . have:(lY ds es).length=min ds.length es.length:=by simp [lY]
   rw [da.length,db.length]
   omega
noncomputable def Bz (f:θ):DS->Option (List W):=λ δ=>(f δ).bind λ ds=>match ds with
 | [.list a,.list b]=>some (lY a b)
 | _=>none
def HA {t:TA} {f:θ} (h:DA K ρ t f):DI K ρ (GN K t) (Bz f):=λ G σ H δ ds R' R e q=>by
 obtain ⟨es,ed,e⟩:=oB e
 refine h G σ H δ es _ R ed λ vs G1 H1 g1 da=>?_
 split at e
 . cases e
   obtain ⟨v,u,rfl,dv,du⟩:=Gi da
   cases dv with
   | lst sq dA=>
    cases du with
    | lst sq2 db=>exact ⟨_,_,rfl,⟨_,g1.s.seq sq⟩,⟨_,g1.s.seq sq2⟩,q _ G1 H1 g1 λ i G2 H2 a b=>Iw b ((a.trans b).seq sq) (dA.same a) ((a.trans b).seq sq2) (db.same a)⟩
 . cases e
noncomputable def DG (K:Frag) (ρ:Ξ) (g:TG) (h:η):Prop:=
 ∀ (G H:Hp) (δ:DS) (σ:St) (v:V) (d:W) (δ':DS) (Q:St->Hp->Prop),Rl K ρ G H δ σ->Dw K ρ G v d->h d δ=some δ'->(∀ σ',Rl K ρ G H δ' σ'->f9 δ' σ' δ σ->Q σ' H)->g v σ H Q
noncomputable def KH (K:Frag) (ρ:Ξ) (g:AQ) (h:List W->DS->Option DS):Prop:=
 ∀ (G H:Hp) (δ:DS) (σ:St) (vs:List V) (ds:List W) (δ':DS) (Q:St->Hp->Prop),Rl K ρ G H δ σ->ay K ρ G vs ds->h ds δ=some δ'->(∀ σ',Rl K ρ G H δ' σ'->f9 δ' σ' δ σ->Q σ' H)->g vs σ H Q
noncomputable def ae (i:Nat):W->DS->Option DS:=λ d δ=>some (δ.set i (.val d))
def wA {i:Nat}:DG K ρ (lF i) (ae i):=λ G H δ σ v d δ' Q R dv e q=>by
 cases e
 exact q _ (R.set dv) (jn R.len)
noncomputable def bB:List W->DS->Option DS:=λ ds δ=>match ds with
 | []=>some δ
 | _=>none
noncomputable def au (h:η) (k:List W->DS->Option DS):List W->DS->Option DS:=λ ds δ=>match ds with
 | d::r=>(h d δ).bind (k r)
 | _=>none
def Cm:KH K ρ Li bB:=λ G H δ σ vs ds δ' Q R dv e q=>by
 cases dv with
 | nil=>cases e;exact ⟨rfl,q _ R (.refl _ _)⟩
 | cons _ _=>cases e
def A1 {g:TG} {u:AQ} {h:η} {k:List W->DS->Option DS} (h1:DG K ρ g h) (h2:KH K ρ u k):KH K ρ (EI g u) (au h k):=λ G H δ σ vs ds δ' Q R dv e q=>by
 cases dv with
 | nil=>cases e
 | cons a b=>
  obtain ⟨δ1,e1,e⟩:=oB e
  exact ⟨_,_,rfl,h1 G H δ σ _ _ δ1 _ R a e1 λ σ1 R1 o1=>h2 G H δ1 σ1 _ _ δ' Q R1 b e λ σ2 R2 o2=>q σ2 R2 (o2.trans o1)⟩
noncomputable def b8 (n:Nat) (k:List W->DS->Option DS):W->DS->Option DS:=λ d δ=>match d with
 | .tuple ds=>if ds.length=n then k ds δ else none
 | _=>none
def HV {n:Nat} {u:AQ} {k:List W->DS->Option DS} (h:KH K ρ u k):DG K ρ (HY K n u) (b8 n k):=λ G H δ σ v d δ' Q R dv e q=>by
 cases dv with
 | tup sq da=>
  simp only [b8] at e
  split at e
  . rename_i hn
    exact ⟨_,_,rfl,R.sub.tup (eK.of sq),by rw [da.length];exact hn,h G H δ σ _ _ δ' Q R da e q⟩
  . cases e
 | _=>cases e
noncomputable def o8 (δ:DS):Option Nat->Sl
 | none=>.no
 | some i=>δ[i]?.getD .no
noncomputable def L4 (σ:St):Option Nat->Option V
 | none=>none
 | some i=>match σ[i]? with
  | some v=>v
  | none=>none
noncomputable def bF (ix:Λ) (δ:DS):DS:=ix.map (o8 δ)
def mK {ix:Λ} {σ:St} {j:Nat} {o:Option Nat} (h:ix[j]?=some o):(lift ix σ)[j]?=some (L4 σ o):=by
 unfold lift
 rw [getElem?_map,h]
 cases o <;> rfl
def kY {ix:Λ} {δ:DS} {j:Nat} {s:Sl} (h:(bF ix δ)[j]?=some s):∃ o,ix[j]?=some o/\s=o8 δ o:=by
 unfold bF at h
 rw [getElem?_map] at h
 obtain ⟨o,h1,h2⟩:=oM h
 exact ⟨o,h1,h2.symm⟩
noncomputable def y7 (ix:Λ):Bool:=decide ((ix.filterMap id).Nodup)
def Hx {ix:Λ} (h:(ix.filterMap id).Nodup):∀ {i j k:Nat},ix[i]?=some (some k)->ix[j]?=some (some k)->i=j:=by
 induction ix with
 | nil=>intro i j k h1;simp at h1
 | cons o r ih=>
  intro i j k h1 h2
  have hr:(r.filterMap id).Nodup:=by
   cases o with
   | none=>simpa using h
   | some a=>
    have h':(a::r.filterMap id).Nodup:=h
    exact (nodup_cons.mp h').2
  have hm:∀ m,r[m]?=some (some k)->k∈r.filterMap id:=λ m hm=>mem_filterMap.mpr ⟨some k,mem_of_getElem? hm,rfl⟩
  cases i with
  | zero=>
   cases j with
   | zero=>rfl
   | succ j=>
    simp at h1 h2
    subst h1
    have h':(k::r.filterMap id).Nodup:=h
    exact absurd (hm j h2) (nodup_cons.mp h').1
  | succ i=>
   cases j with
   | zero=>
    simp at h1 h2
    subst h2
    have h':(k::r.filterMap id).Nodup:=h
    exact absurd (hm i h1) (nodup_cons.mp h').1
   | succ j=>
    simp at h1 h2
    rw [ih hr h1 h2]
def Rl.lift {G H:Hp} {δ:DS} {σ:St} {ix:Λ} (hx:y7 ix=true) (R:Rl K ρ G H δ σ):Rl K ρ G H (bF ix δ) (lift ix σ):=by
 have hx':(ix.filterMap id).Nodup:=by simpa [y7] using hx
 have own:∀ {j:Nat} {ds:List W},(bF ix δ)[j]?=some (.own ds)->∃ i,ix[j]?=some (some i)/\δ[i]?=some (.own ds):=λ {j ds} h=>by
  obtain ⟨o,h1,h2⟩:=kY h
  cases o with
  | none=>cases h2
  | some i=>
   refine ⟨i,h1,?_⟩
   cases e:δ[i]? with
   | none=>simp [o8,e] at h2
   | some s=>simp [o8,e] at h2;rw [h2]
 have at':∀ {j i:Nat} {v:V},ix[j]?=some (some i)->(L2.lift ix σ)[j]?=some (some v)->σ[i]?=some (some v):=λ {j i v} h1 h2=>by
  rw [mK h1] at h2
  simp only [L4] at h2
  split at h2
  . rename_i w e
    rw [e]
    simpa using h2
  . cases h2
 refine ⟨R.sub,by simp [bF,L2.lift],λ j s h=>?_,λ j k p ds es h1 h2 h3 h4=>?_⟩
 . obtain ⟨o,h1,rfl⟩:=kY h
   refine ⟨_,mK h1,?_⟩
   cases o with
   | none=>trivial
   | some i=>
    cases e:δ[i]? with
    | none=>simp only [o8,e,getD_none];trivial
    | some s=>
     obtain ⟨o,k1,k2⟩:=R.sl i s e
     simp only [o8,L4,e,k1,getD_some]
     exact k2
 . obtain ⟨i1,a1,a2⟩:=own h1
   obtain ⟨i2,b1,b2⟩:=own h2
   have:=R.apart i1 i2 p ds es a2 b2 (at' a1 h3) (at' b1 h4)
   subst this
   exact Hx hx' a1 b1
noncomputable def gN:DS->Option Bool:=λ _=>some true
def GG:DT K ρ Jf gN:=λ G σ H δ b Q R e q=>by
 cases e
 exact q G H (.refl R.sub)
noncomputable def b6 (h:η) (c:DS->Option Bool) (fe:μ) (δ:DS):List W->Option (List W)
 | []=>some []
 | d::ds=>(h d δ).bind λ δ2=>(c δ2).bind λ b=>if b=true then (fe δ2).bind λ e=>(b6 h c fe δ ds).map (e::·) else b6 h c fe δ ds
noncomputable def gC (ix:Λ) (fi:θ) (h:η) (c:DS->Option Bool) (fe:μ):DS->Option (List W):=λ δ=>
 (fi δ).bind λ ds=>if ds.length<=sizeLine then b6 h c fe (bF ix δ) ds else none
def Cv {ix:Λ} {wi:TI} {g:TG} {tc:TT} {te:TE} {fi:θ} {h:η} {c:DS->Option Bool} {fe:μ}
 (hx:y7 ix=true) (hi:Mc K ρ wi fi) (hg:DG K ρ g h) (hc:DT K ρ tc c) (he:DE K ρ te fe):DO K ρ (ny ix wi g tc te) (gC ix fi h c fe):=λ G σ H δ es Q R e q=>by
 obtain ⟨ds,ed,e⟩:=oB e
 split at e
 case isFalse=>cases e
 rename_i hz
 refine hi G σ H δ ds _ R ed λ J G1 H1 g1 it=>?_
 refine ⟨λ i m ys H2=>m=ds.length-i/\i<=ds.length/\ys.length<=i/\∃ G2 as bs,Gr G1 H1 G2 H2/\ay K ρ G2 ys as/\b6 h c fe (bF ix δ) (ds.drop i)=some bs/\as++bs=es,⟨ds.length,by simp,zero_le _,le_refl _,G1,[],es,.refl g1.s,.nil,by simpa using e,rfl⟩,?_⟩
 rintro i m ys H2 ⟨rfl,hil,hyl,G2,as,bs,g2,da,eb,rfl⟩
 have ia:=it i G2 H2 g2
 by_cases hlt:i<ds.length
 . refine .inr ?_
   obtain ⟨go,step⟩:=ia.1 ds[i] (getElem?_eq_getElem hlt)
   rw [drop_eq_getElem_cons hlt] at eb
   obtain ⟨δ2,e2,eb⟩:=oB eb
   obtain ⟨b,e3,eb⟩:=oB eb
   refine ⟨go,by omega,λ ys' H'=>ys'.length<=i+1/\∃ G2 as' bs',Gr G1 H1 G2 H'/\ay K ρ G2 ys' as'/\b6 h c fe (bF ix δ) (ds.drop (i+1))=some bs'/\as'++bs'=as++bs,λ ys' H' hy0=>by obtain ⟨l,z⟩:=hy0;exact ⟨ds.length-(i+1),by omega,rfl,hlt,l,z⟩,λ x H' y=>?_⟩
   obtain ⟨G3,g3,dx⟩:=step x H' y
   have R3:=((R.grow g1).grow g2).grow g3
   refine hg G3 H' (bF ix δ) _ x _ δ2 _ (R3.lift hx) dx e2 λ σ2 R4 _=>?_
   refine hc G3 σ2 H' δ2 b _ R4 e3 λ G5 H5 g5=>?_
   have g25:=g2.trans (g3.trans g5)
   have da5:=da.same (g3.trans g5).g
   cases b with
   | false=>exact ⟨by omega,G5,as,bs,g25,da5,eb,rfl⟩
   | true=>
    obtain ⟨ev,e6,eb⟩:=oB eb
    obtain ⟨bs',e7,rfl⟩:=oM eb
    refine he G5 σ2 H5 δ2 ev _ (R4.grow g5) e6 λ v G6 H6 g6 dv=>?_
    exact ⟨by simp;omega,G6,as++[ev],bs',g25.trans g6,(da5.same g6.g).app (.cons dv .nil),e7,by simp⟩
 . have hi':i=ds.length:=by omega
   subst hi'
   refine .inl ⟨ia.2 (le_refl _),by omega,λ p hp=>?_⟩
   rw [drop_length] at eb
   cases eb
   rw [append_nil] at q
   have n:Nw H2 (bZ H2 p (.lst ys)) p (.lst ys):=.of hp
   exact q p ys G2 _ (g1.trans (g2.trans (.nwO g2.s n))) (cW (g1.trans g2).h hp) (cW g2.s hp) aJ da
inductive dt where
 | nx (δ:DS)
 | bk (δ:DS)
 | ct (δ:DS)
 | rt (d:W)
abbrev υ:=DS->Option dt
structure Iv (K:Frag) (ρ:Ξ) (G0 H0 G H:Hp) (δ:DS) (σ:St):Prop where
 rl:Rl K ρ G H δ σ
 gr:Gr G0 H0 G H
 ow:∀ (i:Nat) p ds,δ[i]?=some (.own ds)->σ[i]?=some (some (.ref p))->H0 p=none
noncomputable def OC (K:Frag) (ρ:Ξ) (G0 H0:Hp) (D:iI):dt->Prop
 | .nx δ=>∀ σ G H,Iv K ρ G0 H0 G H δ σ->D.nx σ H
 | .bk δ=>∀ σ G H,Iv K ρ G0 H0 G H δ σ->D.bk σ H
 | .ct δ=>∀ σ G H,Iv K ρ G0 H0 G H δ σ->D.ct σ H
 | .rt d=>∀ v G H,Gr G0 H0 G H->Dw K ρ G v d->D.rt v H
noncomputable def oh (K:Frag) (ρ:Ξ) (t:TS) (f:υ):Prop:=
 ∀ (G0 H0 G:Hp) (σ:St) (H:Hp) (δ:DS) (o:dt) (D:iI),Iv K ρ G0 H0 G H δ σ->f δ=some o->OC K ρ G0 H0 D o->t D σ H
def Iv.grow {G0 H0 G H G' H':Hp} {δ:DS} {σ:St} (I:Iv K ρ G0 H0 G H δ σ) (g:Gr G H G' H'):Iv K ρ G0 H0 G' H' δ σ:=⟨I.rl.grow g,I.gr.trans g,I.ow⟩
def Iv.sub {G0 H0 G H:Hp} {δ δ':DS} {σ σ':St} (I:Iv K ρ G0 H0 G H δ σ) (R:Rl K ρ G H δ' σ') (o:f9 δ' σ' δ σ):Iv K ρ G0 H0 G H δ' σ':=⟨R,I.gr,λ i p ds h1 h2=>by
 obtain ⟨es,h3,h4⟩:=o i ds p h1 h2
 exact I.ow i p es h3 h4⟩
def Iv.base {G0 H0 G H:Hp} {δ:DS} {σ:St} (I:Iv K ρ G0 H0 G H δ σ):Iv K ρ G H0 G H δ σ:=⟨I.rl,⟨.refl _,I.gr.h,I.gr.s,λ _ _ h=>h⟩,I.ow⟩
def Gr.rebase {G0 H0 G H G' H':Hp} (a:Gr G0 H0 G H) (b:Gr G H0 G' H'):Gr G0 H0 G' H':=⟨a.g.trans b.g,b.h,b.s,λ c h1 h2=>b.n c h1 (a.n c h1 h2)⟩
def Iv.rebase {G0 H0 G H G' H':Hp} {δ:DS} {σ:St} (a:Gr G0 H0 G H) (I:Iv K ρ G H0 G' H' δ σ):Iv K ρ G0 H0 G' H' δ σ:=⟨I.rl,a.rebase I.gr,I.ow⟩
noncomputable def aI:DS->Option dt:=λ δ=>some (.nx δ)
def xt:oh K ρ EA aI:=λ G0 H0 G σ H δ o D I e p=>by
 cases e
 exact p σ G H I
noncomputable def aB (f g:υ):DS->Option dt:=λ δ=>match f δ with
 | some (.nx δ')=>g δ'
 | o=>o
def nX {t u:TS} {f g:υ} (h1:oh K ρ t f) (h2:oh K ρ u g):oh K ρ (FX t u) (aB f g):=λ G0 H0 G σ H δ o D I e p=>by
 unfold aB at e
 cases ef:f δ with
 | none=>rw [ef] at e;cases e
 | some o1=>
  rw [ef] at e
  refine h1 G0 H0 G σ H δ o1 _ I ef ?_
  cases o1 with
  | nx δ'=>exact λ σ' G' H' I'=>h2 G0 H0 G' σ' H' δ' o D I' e p
  | bk δ'=>cases e;exact p
  | ct δ'=>cases e;exact p
  | rt d=>cases e;exact p
noncomputable def cG (c:DS->Option Bool) (f g:υ):DS->Option dt:=λ δ=>(c δ).bind λ b=>if b=true then f δ else g δ
def yW {tc:TT} {t u:TS} {c:DS->Option Bool} {f g:υ} (hc:DT K ρ tc c) (h1:oh K ρ t f) (h2:oh K ρ u g):oh K ρ (Hn tc t u) (cG c f g):=λ G0 H0 G σ H δ o D I e p=>by
 obtain ⟨b,eb,e⟩:=oB e
 refine hc G σ H δ b _ I.rl eb λ G1 H1 g1=>?_
 cases b with
 | true=>exact h1 G0 H0 G1 σ H1 δ o D (I.grow g1) e p
 | false=>exact h2 G0 H0 G1 σ H1 δ o D (I.grow g1) e p
noncomputable def bg (f:μ):DS->Option dt:=λ δ=>(f δ).map .rt
def rc {t:TE} {f:μ} (h:DE K ρ t f):oh K ρ (Hy t) (bg f):=λ G0 H0 G σ H δ o D I e p=>by
 obtain ⟨d,ed,rfl⟩:=oM e
 exact h G σ H δ d _ I.rl ed λ v G1 H1 g1 dv=>p v G1 H1 (I.gr.trans g1) dv
noncomputable def IJ:DS->Option dt:=λ _=>some (.rt .none)
noncomputable def jq:DS->Option dt:=λ δ=>some (.ct δ)
def sf:oh K ρ E6 jq:=λ G0 H0 G σ H δ o D I e p=>by
 cases e
 exact p σ G H I
noncomputable def aC (f:μ) (h:η):DS->Option dt:=λ δ=>(f δ).bind λ d=>(h d δ).map .nx
def zZ {t:TE} {g:TG} {f:μ} {h:η} (h1:DE K ρ t f) (h2:DG K ρ g h):oh K ρ (oT t g) (aC f h):=λ G0 H0 G σ H δ o D I e p=>by
 obtain ⟨d,ed,e⟩:=oB e
 obtain ⟨δ',e2,rfl⟩:=oM e
 exact h1 G σ H δ d _ I.rl ed λ v G1 H1 g1 dv=>h2 G1 H1 δ σ v d δ' _ (I.rl.grow g1) dv e2 λ σ' R o=>p σ' G1 H1 ((I.grow g1).sub R o)
noncomputable def lI (i:Nat) (f:θ):DS->Option dt:=λ δ=>(f δ).map λ ds=>.nx (δ.set i (.own ds))
def uK {i:Nat} {t:TE} {f:θ} (h:DO K ρ t f):oh K ρ (oT t (lF i)) (lI i f):=λ G0 H0 G σ H δ o D I e p=>by
 obtain ⟨ds,ed,rfl⟩:=oM e
 refine h G σ H δ ds _ I.rl ed λ q vs G1 H1 g1 h0 g0 hh da=>?_
 have I1:=I.grow g1
 refine p _ G1 H1 ⟨I1.rl.setO g0 hh da λ j es hj h1 h2=>?_,I1.gr,λ j q' ds' h1 h2=>?_⟩
 . obtain ⟨o,k1,q1,vs1,k2,k3,k4,_⟩:=I.rl.sl j _ h1
   rw [h2] at k1
   cases k1
   cases k2
   rw [h0] at k4
   cases k4
 . rcases dJ h1 with ⟨rfl,_,hl⟩ | ⟨ne,h1⟩
   . rw [jj (by rw [<-I.rl.len];exact hl)] at h2
     cases h2
     exact cW I.gr.h h0
   . rw [getElem?_set_ne ne] at h2
     exact I.ow j q' _ h1 h2
noncomputable def frz (i:Nat) (δ:DS):DS:=match δ[i]? with
 | some (.own ds)=>δ.set i (.val (.list ds))
 | _=>δ
noncomputable def lT (i:Nat) (f:υ):DS->Option dt:=λ δ=>f (frz i δ)
def Iv.frz {G0 H0 G H:Hp} {δ:DS} {σ:St} (i:Nat) (I:Iv K ρ G0 H0 G H δ σ):∃ G',Iv K ρ G0 H0 G' H (L2.frz i δ) σ:=by
 unfold L2.frz
 split
 . rename_i ds h
   obtain ⟨o,h1,p,vs,rfl,h3,h4,h5⟩:=I.rl.sl i _ h
   have h0:=I.ow i p ds h h1
   have g:bj G (bZ G p (.lst vs)):=jK h3 _
   have set1:σ=σ.set i (some (.ref p)):=by
    apply ext_getElem?
    intro j
    by_cases e:i=j
    . subst e
      rw [jj (oG h1).1,h1]
    . rw [getElem?_set_ne e]
   refine ⟨bZ G p (.lst vs),⟨⟨pv I.gr.s h4,by rw [length_set];exact I.rl.len,λ j s e=>?_,λ j k q ds' es' k1 k2 k3 k4=>?_⟩,I.gr.new h0 h3 h4,λ j q ds' k1 k2=>?_⟩⟩
   . rcases dJ e with ⟨rfl,rfl,hl⟩ | ⟨ne,e⟩
     . exact ⟨_,h1,.ref p,rfl,.lst (cD.of aJ) (h5.same g)⟩
     . obtain ⟨o,k1,k2⟩:=I.rl.sl j s e
       refine ⟨o,k1,?_⟩
       cases s with
       | no=>trivial
       | val d=>
        obtain ⟨v,e1,e2⟩:=k2
        exact ⟨v,e1,e2.same g⟩
       | own es=>
        obtain ⟨q,ws,rfl,e2,e3,e4⟩:=k2
        refine ⟨q,ws,rfl,?_,e3,e4.same g⟩
        rw [aH]
        . exact e2
        . rintro rfl
          exact ne (I.rl.apart i j q ds es h e h1 k1)
   all_goals
    rcases dJ k1 with ⟨_,z,_⟩ | ⟨ne,k1⟩
    . cases z
   . rcases dJ k2 with ⟨_,z,_⟩ | ⟨ne2,k2⟩
     . cases z
     . exact I.rl.apart j k q ds' es' k1 k2 k3 k4
   . exact I.ow j q ds' k1 k2
 . exact ⟨G,I⟩
def uW {i:Nat} {t:TS} {f:υ} (h:oh K ρ t f):oh K ρ t (lT i f):=λ G0 H0 G σ H δ o D I e p=>by
 obtain ⟨G',I'⟩:=I.frz i
 exact h G0 H0 G' σ H _ o D I' e p
noncomputable def bh (h:η) (fb:υ):List W->DS->Option dt
 | [],δ=>some (.nx δ)
 | d::ds,δ=>(h d δ).bind λ δ2=>match fb δ2 with
  | some (.nx δ')=>bh h fb ds δ'
  | some (.ct δ')=>bh h fb ds δ'
  | some (.bk δ')=>some (.nx δ')
  | some (.rt d)=>some (.rt d)
  | none=>none
noncomputable def ic (fi:θ) (h:η) (fb:υ):DS->Option dt:=λ δ=>(fi δ).bind λ ds=>bh h fb ds δ
def um {wi:TI} {g:TG} {tb:TS} {fi:θ} {h:η} {fb:υ} (hi:DI K ρ wi fi) (hg:DG K ρ g h) (hb:oh K ρ tb fb):oh K ρ (C5 wi g tb) (ic fi h fb):=λ G0 H0 G σ H δ o D I e p=>by
 obtain ⟨ds,ed,e⟩:=oB e
 refine hi G σ H δ ds _ I.rl ed λ J G1 H1 g1 it=>?_
 refine ⟨λ i m σ H=>m=ds.length-i/\i<=ds.length/\∃ G δ,Iv K ρ G0 H0 G H δ σ/\bj G1 G/\bh h fb (ds.drop i) δ=some o,⟨ds.length,by simp,zero_le _,G1,δ,I.grow g1,.refl _,by simpa using e⟩,?_⟩
 rintro i m σ2 H2 ⟨rfl,hil,G2,δ2,I2,s2,e2⟩
 have ia:=it i G2 H2 s2 I2.gr.s
 by_cases hlt:i<ds.length
 . refine .inr ?_
   obtain ⟨go,step⟩:=ia.1 ds[i] (getElem?_eq_getElem hlt)
   rw [drop_eq_getElem_cons hlt] at e2
   obtain ⟨δ3,e3,e4⟩:=oB e2
   have back:∀ {G3 H3:Hp},Gr G2 H2 G3 H3->∀ {G4 H4:Hp} {σ4:St} {δ4:DS},Iv K ρ G3 H0 G4 H4 δ4 σ4->Iv K ρ G0 H0 G4 H4 δ4 σ4/\bj G1 G4:=λ {G3 H3} g3 {G4 H4 σ4 δ4} I4=>⟨I4.rebase (I2.gr.trans g3),s2.trans (g3.g.trans I4.gr.g)⟩
   have again:∀ (δ':DS),bh h fb (ds.drop (i+1)) δ'=some o->(fb δ3=some (.nx δ')∨fb δ3=some (.ct δ'))->∃ N:St->Hp->Prop,(∀ σ' H',N σ' H'->∃ m',m'<ds.length-i/\m'=ds.length-(i+1)/\i+1<=ds.length/\∃ G δ,Iv K ρ G0 H0 G H' δ σ'/\bj G1 G/\bh h fb (ds.drop (i+1)) δ=some o)/\∀ x H',J.yld i H2 x H'->g x σ2 H' λ σ2 H2=>tb { D with nx:=N,ct:=N,bk:=D.nx } σ2 H2:=λ δ' ed' ef=>by
    refine ⟨λ σ' H'=>∃ G',Iv K ρ G0 H0 G' H' δ' σ'/\bj G1 G',λ σ' H' hy0=>by obtain ⟨G',I',s'⟩:=hy0;exact ⟨ds.length-(i+1),by omega,rfl,hlt,G',δ',I',s',ed'⟩,λ x H' y=>?_⟩
    obtain ⟨G3,g3,dx⟩:=step x H' y
    have I3:=I2.grow g3
    refine hg G3 H' δ2 σ2 x _ δ3 _ I3.rl dx e3 λ σ3 R3 o3=>?_
    have I4:=(I3.sub R3 o3).base
    rcases ef with ef | ef
    . exact hb G3 H0 G3 σ3 H' δ3 _ _ I4 ef λ σ5 G5 H5 I5=>⟨G5,back g3 I5⟩
    . exact hb G3 H0 G3 σ3 H' δ3 _ _ I4 ef λ σ5 G5 H5 I5=>⟨G5,back g3 I5⟩
   cases ef:fb δ3 with
   | none=>rw [ef] at e4;cases e4
   | some o1=>
    rw [ef] at e4
    cases o1 with
    | nx δ'=>
     obtain ⟨N,n1,n2⟩:=again δ' e4 (.inl ef)
     exact ⟨go,N,n1,n2⟩
    | ct δ'=>
     obtain ⟨N,n1,n2⟩:=again δ' e4 (.inr ef)
     exact ⟨go,N,n1,n2⟩
    | bk δ'=>
     cases e4
     refine ⟨go,λ _ _=>False,λ _ _ z=>z.elim,λ x H' y=>?_⟩
     obtain ⟨G3,g3,dx⟩:=step x H' y
     have I3:=I2.grow g3
     refine hg G3 H' δ2 σ2 x _ δ3 _ I3.rl dx e3 λ σ3 R3 o3=>?_
     exact hb G3 H0 G3 σ3 H' δ3 _ _ (I3.sub R3 o3).base ef λ σ5 G5 H5 I5=>p σ5 G5 H5 (back g3 I5).1
    | rt d=>
     cases e4
     refine ⟨go,λ _ _=>False,λ _ _ z=>z.elim,λ x H' y=>?_⟩
     obtain ⟨G3,g3,dx⟩:=step x H' y
     have I3:=I2.grow g3
     refine hg G3 H' δ2 σ2 x _ δ3 _ I3.rl dx e3 λ σ3 R3 o3=>?_
     exact hb G3 H0 G3 σ3 H' δ3 _ _ (I3.sub R3 o3).base ef λ v G5 H5 g5 dv=>p v G5 H5 ((I2.gr.trans g3).rebase g5) dv
 . have hi':i=ds.length:=by omega
   subst hi'
   rw [drop_length] at e2
   cases e2
   exact .inl ⟨ia.2 (le_refl _),p σ2 G2 H2 I2⟩
noncomputable def lC (i:Nat) (δ:DS):Option (List W):=match δ[i]? with
 | some (.own ds)=>some ds
 | _=>none
def oe {i:Nat} {δ:DS} {ds:List W} (h:lC i δ=some ds):δ[i]?=some (.own ds):=by
 unfold lC at h
 split at h
 . rename_i e;cases h;exact e
 . cases h
def Iv.put {G0 H0 G H:Hp} {δ:DS} {σ:St} {i:Nat} {ds es:List W} {p:Addr} {vs:List V} (I:Iv K ρ G0 H0 G H δ σ) (h:δ[i]?=some (.own ds)) (hp:σ[i]?=some (some (.ref p))) (g0:G p=none) (da:ay K ρ G vs es):Iv K ρ G0 H0 G (bZ H p (.lst vs)) (δ.set i (.own es)) σ:=by
 have h0:=I.ow i p ds h hp
 have sG:bj G (bZ H p (.lst vs)):=λ b o e=>by
  rw [aH (λ z=>by rw [z,g0] at e;cases e)]
  exact I.gr.s _ _ e
 refine ⟨⟨sG,by rw [length_set];exact I.rl.len,λ j s e=>?_,λ j k q ds' es' k1 k2 k3 k4=>?_⟩,⟨I.gr.g,λ b o e=>?_,sG,I.gr.n⟩,λ j q ds' k1 k2=>?_⟩
 . rcases dJ e with ⟨rfl,rfl,hl⟩ | ⟨ne,e⟩
   . exact ⟨_,hp,p,vs,rfl,g0,aJ,da⟩
   . obtain ⟨o,k1,k2⟩:=I.rl.sl j s e
     refine ⟨o,k1,?_⟩
     cases s with
     | no=>trivial
     | val d=>exact k2
     | own es2=>
      obtain ⟨q,ws,rfl,e2,e3,e4⟩:=k2
      refine ⟨q,ws,rfl,e2,?_,e4⟩
      rw [aH]
      . exact e3
      . rintro rfl
        exact ne (I.rl.apart i j q ds es2 h e hp k1)
 . rcases dJ k1 with ⟨rfl,_,_⟩ | ⟨ne,k1⟩ <;> rcases dJ k2 with ⟨rfl,_,_⟩ | ⟨ne2,k2⟩
   . rfl
   . exact I.rl.apart _ _ q _ _ h k2 k3 k4
   . exact I.rl.apart _ _ q _ _ k1 h k3 k4
   . exact I.rl.apart _ _ q _ _ k1 k2 k3 k4
 . rw [aH (λ z=>by rw [z,h0] at e;cases e)]
   exact I.gr.h _ _ e
 . rcases dJ k1 with ⟨rfl,_,_⟩ | ⟨ne,k1⟩
   . exact I.ow _ q _ h k2
   . exact I.ow j q _ k1 k2
noncomputable def dH (i:Nat) (f:μ):DS->Option dt:=λ δ=>(lC i δ).bind λ ds=>(f δ).bind λ d=>if ds.length<sizeLine then some (.nx (δ.set i (.own (ds++[d])))) else none
def pW {i:Nat} {t:TE} {f:μ} (h:DE K ρ t f):oh K ρ (tU (IU K "list" mq (ym i) (fX t j4))) (dH i f):=λ G0 H0 G σ H δ o D I e p=>by
 obtain ⟨ds,eo,e⟩:=oB e
 obtain ⟨d,ed,e⟩:=oB e
 split at e
 case isFalse=>cases e
 rename_i hz
 cases e
 have ho:=oe eo
 obtain ⟨o,h1,q,vs,rfl,h3,h4,h5⟩:=I.rl.sl i _ ho
 refine ⟨.ref q,h1,.inl ⟨rfl,vs,cD.of h4⟩,h G σ H δ d _ I.rl ed λ v G1 H1 g1 dv=>⟨q,vs,v,rfl,rfl,g1.h _ _ h4,by rw [h5.length];exact hz,?_⟩⟩
 have I1:=I.grow g1
 exact p σ G1 _ (I1.put ho h1 (g1.n q (.l h4) h3) ((h5.same g1.g).app (.cons dv .nil)))
noncomputable def rf (i:Nat) (fi fv:μ):DS->Option dt:=λ δ=>(fv δ).bind λ d=>(lC i δ).bind λ ds=>(fi δ).bind λ x=>match x with
 | .int k=>(ug ds.length k).map λ j=>.nx (δ.set i (.own (ds.set j d)))
 | _=>none
end
section
variable {K:Frag} {ρ:Ξ}
noncomputable def kI (K:Frag) (f:List W->Option W):Sp:=λ vs H Q _=>∃ ρ G ds d,bj G H/\ay K ρ G vs ds/\f ds=some d/\∀ v G' H',Gr G H G' H'->Dw K ρ G' v d->Q v H'
noncomputable def aW (f:List W->Option W) (fa:θ):DS->Option W:=λ δ=>(fa δ).bind f
def wu {f:List W->Option W} {t:TA} {fa:θ} {E:XK} (h:DA K ρ t fa):DE K ρ (pU (kI K f) [] E t) (aW f fa):=λ G σ H δ d Q R e q=>by
 obtain ⟨ds,ed,e⟩:=oB e
 exact h G σ H δ ds _ R ed λ vs G1 H1 g1 da=>by
  refine ⟨ρ,G1,ds,d,g1.s,?_,e,λ v G2 H2 g2 dv=>q v G2 H2 (g1.trans g2) dv⟩
  rw [append_nil]
  exact da
noncomputable def bL (n:Nat) (ds:List W):DS:=ds.map .val++List.replicate (n-ds.length) .no
noncomputable def D4:Option dt->Option W
 | some (.rt d)=>some d
 | some (.nx _)=>some .none
 | _=>none
noncomputable def c7 (a n:Nat) (fb:υ):List W->Option W:=λ ds=>if ds.length=a then D4 (fb (bL n ds)) else none
def pz {a n:Nat} {fb:υ} {ds:List W} {d:W} (h:c7 a n fb ds=some d):ds.length=a:=by
 unfold c7 at h
 split at h
 . assumption
 . cases h
def D7 {f:List W->Option W} {a:Nat} {vs:List V} {H:Hp} {Q:VK} {E:XK} (hf:∀ ds d,f ds=some d->ds.length=a) (h:kI K f vs H Q E):vs.length=a:=by
 obtain ⟨ρ,G,ds,d,s,da,e,q⟩:=h
 rw [da.length]
 exact hf ds d e
def gR {n:Nat} {ds:List W} {i:Nat} {es:List W}:(bL n ds)[i]?≠some (.own es):=by
 unfold bL
 intro h
 rcases lt_or_ge i (ds.map Sl.val).length with hl | hl
 . rw [getElem?_append_left hl,getElem?_map] at h
   obtain ⟨d,_,e⟩:=oM h
   cases e
 . rw [getElem?_append_right hl,getElem?_replicate] at h
   split at h <;> cases h
def sY {G H:Hp} {N:Ω} {vs:List V} {ds:List W} (s:bj G H) (h:ay K ρ G vs ds):Rl K ρ G H (bL N.length ds) (start N vs):=by
 refine ⟨s,by simp [bL,start,h.length],λ i sl e=>?_,λ i j p ds' es' h1=>absurd h1 gR⟩
 unfold bL at e
 unfold start
 rcases lt_or_ge i ds.length with hl | hl
 . rw [getElem?_append_left (by simpa using hl),getElem?_map] at e
   obtain ⟨d,e1,rfl⟩:=oM e
   obtain ⟨v,h1,h2⟩:=h.get e1
   refine ⟨some v,?_,v,rfl,h2⟩
   rw [getElem?_append_left (by simp [h.length];exact hl),getElem?_map,h1]
   rfl
 . rw [getElem?_append_right (by simpa using hl),getElem?_replicate] at e
   split at e
   . cases e
     rename_i hlt
     refine ⟨none,?_,trivial⟩
     rw [getElem?_append_right (by simp [h.length];exact hl),getElem?_replicate,if_pos]
     simp only [length_map] at hlt ⊢
     rw [h.length]
     exact hlt
   . cases e
def Nx {t:TS} {fb:υ} {N:Ω} {a n:Nat} {vs:List V} {H:Hp} {Q:VK} {E:XK} (hn:N.length=n) (h:∀ ρ,oh K ρ t fb) (hsp:kI K (c7 a n fb) vs H Q E):t { nx:=λ _ H'=>Q .non H',rt:=Q } (start N vs) H:=by
 subst hn
 obtain ⟨ρ,G,ds,d,s,da,e,q⟩:=hsp
 have R:=sY (N:=N) s da
 have I:Iv K ρ G H G H (bL N.length ds) (start N vs):=⟨R,.refl s,λ i p ds' h1=>absurd h1 gR⟩
 unfold c7 at e
 rw [if_pos (pz (show c7 a N.length fb ds=some d from e))] at e
 cases ef:fb (bL N.length ds) with
 | none=>rw [ef] at e;cases e
 | some o=>
  rw [ef] at e
  refine h ρ G H G _ H _ o _ I ef ?_
  cases o with
  | nx δ=>cases e;exact λ σ' G' H' I'=>q _ G' H' I'.gr .non
  | rt d'=>cases e;exact λ v G' H' g dv=>q v G' H' g dv
  | bk _=>cases e
  | ct _=>cases e
end
noncomputable def F9 (K:Frag):R2:=λ x y H Q=>∃ l b xs zs,x=.ref l/\y=.ref b/\cD K H l xs/\cD K H b zs/\xs.length+zs.length<=sizeLine/\∀ p H',Nw H H' p (.lst (xs++zs))->Q (.ref p) H'
def DP {X:Cx}:fP X (binaryOp .Add) (F9 X.K):=by
 intro pins s σ H x y v u Q I rx ry h
 obtain ⟨l,b,xs,zs,rfl,rfl,hH,hB,hz,q⟩:=h
 cases rx
 cases ry
 obtain ⟨its,r,hl,_⟩:=I.list hH
 obtain ⟨its2,r2,hb,_⟩:=I.list hB
 obtain ⟨⟨cls,dd,data,sl⟩,n,ho,hc,hdd,hd⟩:=hl
 obtain ⟨⟨cls2,dd2,data2,sl2⟩,n2,ho2,hc2,hdd2,hd2⟩:=hb
 simp only at hc hd hc2 hd2
 subst hc hd hc2 hd2
 have e:its.toArray++its2.toArray=(its++its2).toArray:=by simp
 refine concat_meets ⟨_,ho,rfl⟩ ⟨_,ho2,rfl⟩ noFill_list_add seq_list_add PySem.F.slot_list_add PySem.F.entry_list_add (PySem.F.args_list_add_2 _ _) (list_addW l b its.toArray its2.toArray n n2 dd dd2 sl sl2 (by rw [size_toArray,size_toArray,<-r.length,<-r2.length];exact hz)) ⟨ho,ho2,?_⟩
 rw [e]
 exact ⟨.ref _,_,I.lnew (t':=s.toks) (r.append r2) (by rw [length_append];omega),rfl,q _ _ (.of I.fresh)⟩
noncomputable def Cf:R2:=λ x y H Q=>∃ i j,x=.str i/\y=.str j/\i.length+j.length<=sizeLine/\Q (.str (i++j)) H
noncomputable def wR (K:Frag):R2:=λ x y H Q=>yI (λ i j=>.int (i+j)) x y H Q∨Cf x y H Q∨F9 K x y H Q∨ER K x y H Q
def Dk {X:Cx} {K:Frag} (h:X.K=K):fP X (binaryOp .Add) (wR K):=h▸FO.or (vi.or (DP.or CJ))
section
variable {K:Frag} {ρ:Ξ}
noncomputable def ck:W->W->Option W
 | .int i,.int j=>some (.int (i+j))
 | .str i,.str j=>if i.length+j.length<=sizeLine then some (.str (i++j)) else none
 | .list a,.list b=>if a.length+b.length<=sizeLine then some (.list (a++b)) else none
 | .tuple a,.tuple b=>if a≠[]/\a.length+b.length<=sizeLine then some (.tuple (a++b)) else none
 | _,_=>none
def vg {G H:Hp} {v:V} {i:Int} (h:Pk K ρ G H v (.int i)):v=.int i:=by
 rcases h with h | ⟨_,_,_,_,e,_⟩
 . exact d8 h
 . cases e
def rG {G H:Hp} {v:V} {i:Str} (h:Pk K ρ G H v (.str i)):v=.str i:=by
 rcases h with h | ⟨_,_,_,_,e,_⟩
 . exact uZ h
 . cases e
def lw {G H:Hp} {v:V} {ds:List W} (s:bj G H) (h:Pk K ρ G H v (.list ds)):∃ p vs,v=.ref p/\cD K H p vs/\ay K ρ G vs ds:=by
 rcases h with h | ⟨p,vs,es,rfl,e,h1,h2⟩
 . cases h with
   | lst sq da=>exact ⟨_,_,rfl,s.seq sq,da⟩
 . cases e
   exact ⟨p,vs,rfl,cD.of h1,h2⟩
def mS {G:Hp} {v:V} {ds:List W} (h:Dw K ρ G v (.list ds)):∃ p vs,v=.ref p/\cD K G p vs/\ay K ρ G vs ds:=by
 cases h with
 | lst sq da=>exact ⟨_,_,rfl,sq,da⟩
def qu {G:Hp} {v:V} {ds:List W} (h:Dw K ρ G v (.tuple ds)):∃ p vs,v=.ref p/\G p=some (.tup vs)/\ay K ρ G vs ds:=by
 cases h with
 | tup sq da=>exact ⟨_,_,rfl,sq,da⟩
def mQ {G H:Hp} {v:V} {ds:List W} (h:Pk K ρ G H v (.tuple ds)):∃ p vs,v=.ref p/\G p=some (.tup vs)/\ay K ρ G vs ds:=by
 rcases h with h | ⟨_,_,_,_,e,_⟩
 . exact qu h
 . cases e
def B7:DR K ρ (wR K) ck:=λ G H x y d e c Q s hx hy hg q=>by
 cases d with
 | int i=>
  cases e with
  | int j=>
   cases hg
   cases vg hx
   cases d8 hy
   exact .inl ⟨_,_,rfl,rfl,q _ G H (.refl s) (.int _)⟩
  | _=>cases hg
 | str a=>
  cases e with
  | str b=>
   by_cases hz:a.length+b.length<=sizeLine
   . cases (if_pos hz).symm.trans hg
     cases rG hx
     cases uZ hy
     exact .inr (.inl ⟨_,_,rfl,rfl,hz,q _ G H (.refl s) (.str _)⟩)
   . cases (if_neg hz).symm.trans hg
  | _=>cases hg
 | list a=>
  cases e with
  | list b=>
   by_cases hz:a.length+b.length<=sizeLine
   . cases (if_pos hz).symm.trans hg
     obtain ⟨p,vs,rfl,sq,da⟩:=lw s hx
     obtain ⟨p2,vs2,rfl,sq2,da2⟩:=mS hy
     refine .inr (.inr (.inl ⟨p,p2,vs,vs2,rfl,rfl,sq,s.seq sq2,by rw [da.length,da2.length];exact hz,λ l H' n=>?_⟩))
     have g:=Gr.nw s n
     exact q _ _ H' g (.lst (cD.of aJ) ((da.same g.g).app (da2.same g.g)))
   . cases (if_neg hz).symm.trans hg
  | _=>cases hg
 | tuple a=>
  cases e with
  | tuple b=>
   by_cases hz:a≠[]/\a.length+b.length<=sizeLine
   . cases (if_pos hz).symm.trans hg
     obtain ⟨p,vs,rfl,sq,da⟩:=mQ hx
     obtain ⟨p2,vs2,rfl,sq2,da2⟩:=qu hy
     refine .inr (.inr (.inr ⟨p,p2,vs,vs2,rfl,rfl,s.tup (eK.of sq),s.tup (eK.of sq2),?_,by rw [da.length,da2.length];exact hz.2,λ e=>?_,λ e l hl=>?_⟩))
     . rintro rfl
       cases da
       exact hz.1 rfl
     . subst e
       cases da2
       rw [append_nil] at q
       exact q _ G H (.refl s) (.tup sq da)
     . have g:=Gr.nw s (Nw.of (o:=.tup (vs++vs2)) hl)
       exact q _ _ _ g (.tup aJ ((da.same g.g).app (da2.same g.g)))
   . cases (if_neg hz).symm.trans hg
  | _=>cases hg
 | _=>cases hg
noncomputable def Kh:W->W->Option (List W)
 | .list a,.list b=>if a.length+b.length<=sizeLine then some (a++b) else none
 | _,_=>none
noncomputable def JR (fa fb:μ):DS->Option (List W):=λ δ=>(fa δ).bind λ x=>(fb δ).bind λ y=>Kh x y
noncomputable def gI (f:Int->Int->Int):W->W->Option W
 | .int i,.int j=>some (.int (f i j))
 | _,_=>none
noncomputable def C6 (C:Int->Int->Bool) (f:Int->Int->Int):W->W->Option W
 | .int i,.int j=>if C i j=true then some (.int (f i j)) else none
 | _,_=>none
def Kq {f:Int->Int->Int}:DR K ρ (yI λ i j=>.int (f i j)) (gI f):=λ G H x y d e c Q s hx hy hg q=>by
 unfold gI at hg
 split at hg
 . cases hg
   cases vg hx
   cases d8 hy
   exact ⟨_,_,rfl,rfl,q _ G H (.refl s) (.int _)⟩
 . cases hg
def x8 {C:Int->Int->Prop} {Cb:Int->Int->Bool} {f:Int->Int->Int} (hC:∀ i j,Cb i j=true->C i j):DR K ρ (rI C λ i j=>.int (f i j)) (C6 Cb f):=λ G H x y d e c Q s hx hy hg q=>by
 unfold C6 at hg
 split at hg
 . split at hg
   . rename_i hc
     cases hg
     cases vg hx
     cases d8 hy
     exact ⟨_,_,rfl,rfl,hC _ _ hc,q _ G H (.refl s) (.int _)⟩
   . cases hg
 . cases hg
noncomputable def gSub':W->W->Option W:=gI λ i j=>i-j
def Gm:DR K ρ (yI λ i j=>.int (i-j)) gSub':=Kq
def uU:2^200<2^512:=Nat.pow_lt_pow_right (by decide) (by decide)
noncomputable def jD (i j:Int):Bool:=decide (i.natAbs<2^64)||decide (j.natAbs<2^64)||(decide (i.natAbs<2^200)&&decide (j.natAbs<2^200))
noncomputable def FC (i j:Int):Prop:=Eo i j∨EW i j
def LX {X:Cx}:fP X (binaryOp .Mult) (rI FC λ i j=>.int (i*j)):=λ pins s σ H x y v u Q I rx ry h=>by
 obtain ⟨i,j,e1,e2,hc,q⟩:=h
 rcases hc with hc | hc
 . exact Gp pins s σ H x y v u Q I rx ry ⟨i,j,e1,e2,hc,q⟩
 . exact CB pins s σ H x y v u Q I rx ry ⟨i,j,e1,e2,hc,q⟩
noncomputable def sn (i j:Int):Bool:=decide (j≠0)&&decide (j.natAbs<2^200)
noncomputable def jI (i j:Int):Bool:=decide (j≠0)
noncomputable def j7:W->W->Option W:=C6 jD λ i j=>i*j
noncomputable def cm:W->W->Option W:=C6 sn λ i j=>i.fdiv j
noncomputable def bD:W->W->Option W:=C6 jI λ i j=>i.fmod j
def Ir:DR K ρ (rI FC λ i j=>.int (i*j)) j7:=x8 λ i j h=>by
 simp only [jD,and_eq_true,or_eq_true,decide_eq_true_eq] at h
 rcases h with (h | h) | h
 . exact .inl (.inl ⟨by omega,by omega⟩)
 . exact .inl (.inr ⟨by omega,by omega⟩)
 . exact .inr ⟨lt_trans h.1 uU,lt_trans h.2 uU⟩
def Ga:DR K ρ (rI E7 λ i j=>.int (i.fdiv j)) cm:=x8 λ i j h=>by
 simp only [sn,and_eq_true,decide_eq_true_eq] at h
 exact ⟨h.1,lt_trans h.2 uU⟩
def Ht:DR K ρ (rI (λ _ j=>j≠0) λ i j=>.int (i.fmod j)) bD:=x8 λ i j h=>by simpa [jI] using h
noncomputable def lX:W->Option W
 | .int i=>some (.int (-i))
 | _=>none
noncomputable def BZ (g:W->Option W) (f:μ):DS->Option W:=λ δ=>(f δ).bind g
def Gj {t:TE} {f:μ} (h:DE K ρ t f):DE K ρ (Ot (rU λ i=>.int (-i)) t) (BZ lX f):=λ G σ H δ d Q R e q=>by
 obtain ⟨x,ex,e⟩:=oB e
 refine h G σ H δ x _ R ex λ v G1 H1 g1 dv=>?_
 unfold lX at e
 split at e
 . cases e
   cases d8 dv
   exact ⟨_,rfl,q _ G1 H1 g1 (.int _)⟩
 . cases e
noncomputable def cI (p:Int->Int->Bool):W->W->Option Bool
 | .int i,.int j=>some (p i j)
 | _,_=>none
def Kl {p:Int->Int->Bool}:DB K ρ (yI λ i j=>.bl (p i j)) (cI p):=λ H x y d e b Q hx hy hg q=>by
 unfold cI at hg
 split at hg
 . cases hg
   cases d8 hx
   cases d8 hy
   exact ⟨_,_,rfl,rfl,q⟩
 . cases hg
noncomputable def sA:W->W->Option Bool:=cI λ i j=>decide (i<j)
noncomputable def OF:W->W->Option Bool:=cI λ i j=>decide (i<=j)
noncomputable def O5:W->W->Option Bool:=cI λ i j=>decide (j<i)
noncomputable def Md:W->W->Option Bool:=cI λ i j=>decide (j<=i)
def JO:DB K ρ (yI λ i j=>.bl (decide (i<j))) sA:=Kl
def JM:DB K ρ (yI λ i j=>.bl (decide (j<=i))) Md:=Kl
noncomputable def IV:W->Bool
 | .none=>true
 | _=>false
noncomputable def oH:W->W->Option Bool
 | d,.none=>some (IV d)
 | _,_=>none
def wv {H:Hp} {x:V} {d:W} (h:Dw K ρ H x d):decide (x=.non)=IV d:=by
 cases h <;> simp [IV]
def Hl:DB K ρ (λ x y H Q=>y=.non/\Q (.bl (decide (x=.non))) H) oH:=λ H x y d e b Q hx hy hg q=>by
 unfold oH at hg
 split at hg
 . cases hg
   cases vp hy
   exact ⟨rfl,by rw [wv hx];exact q⟩
 . cases hg
noncomputable def fB:W->W->Option Bool
 | d,.none=>some (!(IV d))
 | _,_=>none
def CI:DB K ρ (λ x y H Q=>y=.non/\Q (.bl (!decide (x=.non))) H) fB:=λ H x y d e b Q hx hy hg q=>by
 unfold fB at hg
 split at hg
 . cases hg
   cases vp hy
   exact ⟨rfl,by rw [wv hx];exact q⟩
 . cases hg
noncomputable def OE:W->Option Bool
 | .none=>some true
 | .int _=>some false
 | .bool _=>some false
 | .str _=>some false
 | _=>none
noncomputable def OR (i:Int):W->Option Bool
 | .none=>some false
 | .int j=>some (decide (i=j))
 | .str _=>some false
 | _=>none
noncomputable def O1 (i:Bool):W->Option Bool
 | .none=>some false
 | .bool j=>some (decide (i=j))
 | .str _=>some false
 | _=>none
noncomputable def OG (i:Str):W->Option Bool
 | .none=>some false
 | .int _=>some false
 | .bool _=>some false
 | .str j=>some (decide (i=j))
 | _=>none
noncomputable def Jl:W->W->Option Bool
 | .none,e=>OE e
 | .int i,e=>OR i e
 | .bool i,e=>O1 i e
 | .str i,e=>OG i e
 | _,_=>none
def vF {H:Hp} {x y:V} {d e:W} {b:Bool} (hx:Dw K ρ H x d) (hy:Dw K ρ H y e) (h:Jl d e=some b):Hv x y=true/\decide (x=y)=b:=by
 cases hx with
 | non=>cases hy <;> first | (cases h;exact ⟨rfl,by simp⟩) | cases h
 | int i=>cases hy <;> first | (cases h;exact ⟨rfl,by simp⟩) | cases h
 | bl i=>cases hy <;> first | (cases h;exact ⟨rfl,by simp⟩) | cases h
 | str i=>cases hy <;> first | (cases h;exact ⟨rfl,by simp⟩) | cases h
 | _=>cases h
noncomputable def c6 (d e:W):Option Bool:=match Jl d e with
 | some b=>some b
 | none=>d.py.bind λ a=>e.py.bind λ b=>if (a.canLay0&&b.canLay0&&decide (a.depth<=64))=true then some (PyData.eqv a b) else none
noncomputable def FR (K:Frag):R2:=λ x y H Q=>Oa x y H Q∨Dg K false x y H Q
noncomputable def GE (K:Frag):R2:=λ x y H Q=>Oo x y H Q∨Dg K true x y H Q
def Nd {X:Cx} {K:Frag} (h:X.K=K) (hu:X.A.units+64<cLine):fP X (compareOp .Eq) (FR K):=h▸K9.or (FJ hu)
def N6 {X:Cx} {K:Frag} (h:X.K=K) (hu:X.A.units+64<cLine):fP X (compareOp .NotEq) (GE K):=h▸Kc.or (Gy hu)
def KG:DB K ρ (FR K) c6:=λ H x y d e b Q hx hy hg q=>by
 unfold c6 at hg
 split at hg
 . rename_i b' hb
   cases hg
   obtain ⟨h1,h2⟩:=vF hx hy hb
   exact .inl ⟨h1,by rw [h2];exact q⟩
 . obtain ⟨a,ea,hg⟩:=oB hg
   obtain ⟨b,eb,hg⟩:=oB hg
   split at hg
   . rename_i hc
     cases hg
     simp only [and_eq_true,decide_eq_true_eq] at hc
     exact .inr ⟨a,b,hx.dp ea,hy.dp eb,hc.1.1,hc.1.2,hc.2,q⟩
   . cases hg
noncomputable def BS (d e:W):Option Bool:=(c6 d e).map (!·)
def Fy:DB K ρ (GE K) BS:=λ H x y d e b Q hx hy hg q=>by
 obtain ⟨c,hg',rfl⟩:=oM hg
 unfold c6 at hg'
 split at hg'
 . rename_i b' hb
   cases hg'
   obtain ⟨h1,h2⟩:=vF hx hy hb
   exact .inl ⟨h1,by rw [h2];exact q⟩
 . obtain ⟨a,ea,hg'⟩:=oB hg'
   obtain ⟨b,eb,hg'⟩:=oB hg'
   split at hg'
   . rename_i hc
     cases hg'
     simp only [and_eq_true,decide_eq_true_eq] at hc
     exact .inr ⟨a,b,hx.dp ea,hy.dp eb,hc.1.1,hc.1.2,hc.2,q⟩
   . cases hg'
noncomputable def aT:W->W->Option W
 | .list ds,.int i=>fu ds i
 | .tuple ds,.int i=>fu ds i
 | .str z,.int i=>if z.length<=sizeLine then (fu z.cps.toList i).map λ c=>.str ⟨#[c]⟩ else none
 | _,_=>none
def ay.at {G:Hp} {vs:List V} {ds:List W} {i:Int} {d:W} (h:ay K ρ G vs ds) (e:fu ds i=some d):∃ v,fu vs i=some v/\Dw K ρ G v d:=by
 unfold fu at e ⊢
 rw [h.length]
 obtain ⟨j,h1,h2⟩:=oB e
 obtain ⟨v,h3,h4⟩:=h.get h2
 exact ⟨v,Option.bind_eq_some_iff.mpr ⟨j,h1,h3⟩,h4⟩
def xE:DR K ρ (LD K) aT:=λ G H x y d e c Q s hx hy hg q=>by
 cases e with
 | int i=>
  cases d8 hy
  cases d with
  | list ds=>
   obtain ⟨p,vs,rfl,sq,da⟩:=lw s hx
   obtain ⟨v,h1,h2⟩:=da.at hg
   exact .inl ⟨p,vs,_,v,rfl,rfl,sq,h1,q v G H (.refl s) h2⟩
  | tuple ds=>
   obtain ⟨p,vs,rfl,sq,da⟩:=mQ hx
   obtain ⟨v,h1,h2⟩:=da.at hg
   exact .inr (.inl ⟨p,vs,_,v,rfl,rfl,s.tup (eK.of sq),h1,q v G H (.refl s) h2⟩)
  | str z=>
   by_cases hz:z.length<=sizeLine
   . obtain ⟨c',h1,rfl⟩:=oM ((if_pos hz).symm.trans hg)
     cases rG hx
     exact .inr (.inr ⟨_,_,c',rfl,rfl,hz,h1,q _ G H (.refl s) (.str _)⟩)
   . cases (if_neg hz).symm.trans hg
  | _=>cases hg
 | _=>cases d <;> cases hg
noncomputable def io (xs:List W) (lo hi:Option Int):List W:=(xs.drop (HT.sIx xs.length 0 lo)).take (HT.sIx xs.length xs.length hi-HT.sIx xs.length 0 lo)
def ay.cut {G:Hp} {vs:List V} {ds:List W} (h:ay K ρ G vs ds) (lo hi:Option Int):ay K ρ G (oR vs lo hi) (io ds lo hi):=by
 unfold oR io
 rw [h.length]
 exact (h.drop _).take _
noncomputable def Es (K:Frag) (ρ:Ξ) (t:TO) (f:DS->Option (Option Int)):Prop:=
 ∀ (G:Hp) (σ:St) (H:Hp) (δ:DS) (x:Option Int) (Q:Option Int->Hp->Prop),Rl K ρ G H δ σ->f δ=some x->(∀ G' H',Gr G H G' H'->Q x H')->t σ H Q
noncomputable def dz:DS->Option (Option Int):=λ _=>some none
noncomputable def Je:W->Option Int
 | .int i=>some i
 | _=>none
def rF {d:W} {i:Int} (h:Je d=some i):d=.int i:=by
 cases d <;> first | (cases h;rfl) | cases h
noncomputable def dR (f:μ):DS->Option (Option Int):=λ δ=>(f δ).bind λ d=>(Je d).map some
def sL:Es K ρ xu dz:=λ G σ H δ x Q R e q=>by
 cases e
 exact q G H (.refl R.sub)
def tY {t:TE} {f:μ} (h:DE K ρ t f):Es K ρ (FB t) (dR f):=λ G σ H δ x Q R e q=>by
 obtain ⟨d,ed,e⟩:=oB e
 obtain ⟨i,ei,rfl⟩:=oM e
 cases rF ei
 exact h G σ H δ _ _ R ed λ v G1 H1 g1 dv=>by
  cases d8 dv
  exact ⟨i,rfl,q G1 H1 g1⟩
noncomputable def fR:W->Option (List W)
 | .list ds=>some ds
 | _=>none
def eM {d:W} {ds:List W} (h:fR d=some ds):d=.list ds:=by
 cases d <;> first | (cases h;rfl) | cases h
noncomputable def E2 (f:μ) (lo hi:DS->Option (Option Int)):DS->Option (List W):=λ δ=>(f δ).bind λ d=>(fR d).bind λ ds=>(lo δ).bind λ l=>(hi δ).map λ u=>io ds l u
def HG {t:TE} {tl th:TO} {f:μ} {lo hi:DS->Option (Option Int)} (h:DK K ρ t f) (hl:Es K ρ tl lo) (hh:Es K ρ th hi):DO K ρ (Ml (Fj K) t tl th) (E2 f lo hi):=λ G σ H δ ds Q R e q=>by
 obtain ⟨d,ed,e⟩:=oB e
 obtain ⟨es,ee,e⟩:=oB e
 obtain ⟨l,el,e⟩:=oB e
 obtain ⟨u,eu,rfl⟩:=oM e
 cases eM ee
 refine h G σ H δ _ _ R ed λ v G1 H1 g1 dv=>hl G1 σ H1 δ l _ (R.grow g1) el λ G2 H2 g2=>hh G2 σ H2 δ u _ ((R.grow g1).grow g2) eu λ G3 H3 g3=>?_
 have g23:=g2.trans g3
 obtain ⟨p,vs,rfl,sq,da⟩:=lw g23.s (dv.grow g23)
 refine ⟨p,vs,rfl,sq,λ r H' n=>?_⟩
 have g:=g1.trans g23
 exact q r _ G3 H' (g.trans (.nwO g.s n)) (cW g.h n.2.1) (cW g.s n.2.1) n.2.2 (da.cut l u)
noncomputable def KB (K:Frag) (ρ:Ξ) (r:List V->Hp->VK->Prop) (g:W->Option W):Prop:=
 ∀ (G H:Hp) (x:V) (d c:W) (Q:VK),bj G H->Pk K ρ G H x d->g d=some c->(∀ v G' H',Gr G H G' H'->Dw K ρ G' v c->Q v H')->r [x] H Q
noncomputable def BV (g:W->Option W) (f:μ):DS->Option W:=λ δ=>(f δ).bind g
def Ks {r:List V->Hp->VK->Prop} {g:W->Option W} {t:TE} {f:μ} (hr:KB K ρ r g) (h:DK K ρ t f):DE K ρ (yH r (fX t j4)) (BV g f):=λ G σ H δ d Q R e q=>by
 obtain ⟨x,ex,e⟩:=oB e
 exact h G σ H δ x _ R ex λ v G1 H1 g1 dv=>hr G1 H1 v x d Q g1.s dv e λ u G2 H2 g2 du=>q u G2 H2 (g1.trans g2) du
noncomputable def wM (K:Frag):List V->Hp->VK->Prop:=λ xs H Q=>Lq K xs H Q∨EQ xs H Q
def yp {X:Cx} {K:Frag} (h:X.K=K):dI X (.builtin "len") (wM K):=(oO h).or oP
noncomputable def ky:W->Option W
 | .list ds=>some (.int ds.length)
 | .tuple ds=>some (.int ds.length)
 | .str z=>if z.length<=sizeLine then some (.int z.length) else none
 | _=>none
def Bj:KB K ρ (wM K) ky:=λ G H x d c Q s hx hg q=>by
 unfold ky at hg
 split at hg
 . cases hg
   obtain ⟨p,vs,rfl,sq,da⟩:=lw s hx
   exact .inl ⟨p,vs,rfl,.inl sq,by rw [da.length];exact q _ G H (.refl s) (.int _)⟩
 . cases hg
   obtain ⟨p,vs,rfl,sq,da⟩:=mQ hx
   exact .inl ⟨p,vs,rfl,.inr (s.tup (eK.of sq)),by rw [da.length];exact q _ G H (.refl s) (.int _)⟩
 . split at hg
   . rename_i hz
     cases hg
     cases rG hx
     exact .inr ⟨_,rfl,hz,q _ G H (.refl s) (.int _)⟩
   . cases hg
 . cases hg
noncomputable def gU (f:μ):DS->Option (List W):=λ δ=>(f δ).bind qM
def E1 {t:TE} {f:μ} (h:DK K ρ t f):DO K ρ (yH (qd K) (fX t j4)) (gU f):=λ G σ H δ ds Q R e q=>by
 obtain ⟨x,ex,e⟩:=oB e
 refine h G σ H δ x _ R ex λ v G1 H1 g1 dv=>?_
 have fin:∀ (vs:List V) (l:Addr),ay K ρ G1 vs ds->H1 l=none->Q (.ref l) (bZ H1 l (.lst vs)):=λ vs l da hl=>by
  have n:Nw H1 (bZ H1 l (.lst vs)) l (.lst vs):=.of hl
  exact q l vs G1 _ (g1.trans (.nwO g1.s n)) (cW g1.h hl) (cW g1.s hl) aJ da
 unfold qM at e
 split at e
 . cases e
   obtain ⟨p,vs,rfl,sq,da⟩:=lw g1.s dv
   exact ⟨p,vs,rfl,.inl sq,λ l hl=>fin vs l da hl⟩
 . cases e
   obtain ⟨p,vs,rfl,sq,da⟩:=mQ dv
   exact ⟨p,vs,rfl,.inr (g1.s.tup (eK.of sq)),λ l hl=>fin vs l da hl⟩
 . cases e
noncomputable def BA (T:String):W->Option W
 | .int i=>(Gx (.int i) T).map .bool
 | .bool i=>(Gx (.bl i) T).map .bool
 | .str i=>(Gx (.str i) T).map .bool
 | _=>none
def wK {i:Nat} {te ti:TE} {fv fi:μ} (hv:DE K ρ te fv) (hi:DE K ρ ti fi):oh K ρ (oT te (Cw (ym i) ti wx)) (rf i fi fv):=λ G0 H0 G σ H δ o D I e p=>by
 obtain ⟨d,ed,e⟩:=oB e
 obtain ⟨ds,eo,e⟩:=oB e
 obtain ⟨x,ex,e⟩:=oB e
 have ho:=oe eo
 refine hv G σ H δ d _ I.rl ed λ v G1 H1 g1 dv=>?_
 have I1:=I.grow g1
 obtain ⟨o',h1,q,vs,rfl,h3,h4,h5⟩:=I1.rl.sl i _ ho
 refine ⟨.ref q,h1,hi G1 σ H1 δ x _ I1.rl ex λ u G2 H2 g2 du=>?_⟩
 have I2:=I1.grow g2
 split at e
 . obtain ⟨j,ej,rfl⟩:=oM e
   cases d8 du
   exact ⟨q,vs,_,j,rfl,rfl,g2.h _ _ h4,by rw [h5.length];exact ej,p σ G2 _ (I2.put ho h1 (g2.n q (.l h4) h3) (ay.set (dv.same g2.g) j (h5.same g2.g)))⟩
 . cases e
end
noncomputable def rN (a b c:Int):Nat:=(if a<b then (b-a-1) / c+1 else 0).toNat
section
variable {X:Cx} {tg:Expr}
end
section
variable {K:Frag} {ρ:Ξ}
end
section
variable {X:Cx}
end
section
variable {K:Frag} {ρ:Ξ}
end
def HB (i j:Int):ck (.int i) (.int j)=some (.int (i+j)):=rfl
def qF {a b:List W} (h:a.length+b.length<=sizeLine):ck (.list a) (.list b)=some (.list (a++b)):=if_pos h
def vc {a b:Str} (h:a.length+b.length<=sizeLine):ck (.str a) (.str b)=some (.str (a++b)):=if_pos h
def HM (i j:Int):gSub' (.int i) (.int j)=some (.int (i-j)):=rfl
def mM {i j:Int} (h:jD i j=true):j7 (.int i) (.int j)=some (.int (i*j)):=by simp only [j7,C6,if_pos h]
def vm {i j:Int} (h:sn i j=true):cm (.int i) (.int j)=some (.int (i.fdiv j)):=by simp only [cm,C6,if_pos h]
def mF {i j:Int} (h:jI i j=true):bD (.int i) (.int j)=some (.int (i.fmod j)):=by simp only [bD,C6,if_pos h]
def FK (i:Int):lX (.int i)=some (.int (-i)):=rfl
def qi {i j:Int} (h1 : -(2^64)<i) (h2:i<2^64):jD i j=true:=by
 simp only [jD,and_eq_true,or_eq_true,decide_eq_true_eq]
 exact .inl (.inl (by omega))
def Cp {i j:Int} (h1 : -(2^64)<j) (h2:j<2^64):jD i j=true:=by
 simp only [jD,and_eq_true,or_eq_true,decide_eq_true_eq]
 exact .inl (.inr (by omega))
def n5 {i j:Int} (h1:0<j) (h2:j<2^64):sn i j=true:=by
 have e:(2:Nat)^64<2^200:=Nat.pow_lt_pow_right (by decide) (by decide)
 simp only [sn,and_eq_true,decide_eq_true_eq]
 exact ⟨by omega,lt_trans (by omega) e⟩
def AN {i j:Int} (h:j≠0):jI i j=true:=by simp [jI,h]
def Il (i:Int) {j:Int} (h1:0<j) (h2:j<2^64):cm (.int i) (.int j)=some (.int (i.fdiv j)):=vm (n5 h1 h2)
def Bn (i:Int) {j:Int} (h1:j≠0):bD (.int i) (.int j)=some (.int (i.fmod j)):=mF (AN h1)
def o0 (b:Bool):Am (.bool b)=some b:=rfl
def zS (i:Int):Je (.int i)=some i:=rfl
def iO (ds:List W):fR (.list ds)=some ds:=rfl
def GV (ds:List W):qM (.list ds)=some ds:=rfl
def Hz (ds:List W):qM (.tuple ds)=some ds:=rfl
def HC (ds:List W):ky (.list ds)=some (.int ds.length):=rfl
def Ha (ds:List W):ky (.tuple ds)=some (.int ds.length):=rfl
def F4 (ds:List W) (i:Int):aT (.list ds) (.int i)=fu ds i:=rfl
def pj (ds:List W) (i:Int):aT (.tuple ds) (.int i)=fu ds i:=rfl
def JJ (i j:Int):c6 (.int i) (.int j)=some (decide (i=j)):=rfl
def Ls (i j:Str):c6 (.str i) (.str j)=some (decide (i=j)):=rfl
def Jg (i j:Bool):c6 (.bool i) (.bool j)=some (decide (i=j)):=rfl
def K1 (i j:Int):BS (.int i) (.int j)=some (!decide (i=j)):=rfl
def KI (i j:Str):BS (.str i) (.str j)=some (!decide (i=j)):=rfl
def KC (i j:Int):sA (.int i) (.int j)=some (decide (i<j)):=rfl
def JI (i j:Int):OF (.int i) (.int j)=some (decide (i<=j)):=rfl
def KO (i j:Int):O5 (.int i) (.int j)=some (decide (j<i)):=rfl
def Lp (i j:Int):Md (.int i) (.int j)=some (decide (j<=i)):=rfl
def Em (i:Int):fB (.int i) .none=some true:=rfl
def Ds:fB .none .none=some false:=rfl
def CM (i:Str):fB (.str i) .none=some true:=rfl
def Dz (i:List W):fB (.list i) .none=some true:=rfl
def Do (i:List W):fB (.tuple i) .none=some true:=rfl
def Gz (i:Int):oH (.int i) .none=some false:=rfl
def Gb:oH .none .none=some true:=rfl
def HZ (i:Str):oH (.str i) .none=some false:=rfl
def IA (i:List W):oH (.list i) .none=some false:=rfl
def HP (i:List W):oH (.tuple i) .none=some false:=rfl
def Cy (i:Int):BA "int" (.int i)=some (.bool true):=rfl
def AA (i:Int):BA "bool" (.int i)=some (.bool false):=rfl
def Dh (i:Str):BA "str" (.str i)=some (.bool true):=rfl
def ak {f g:υ} {δ δ1:DS} {o:Option dt} (h1:f δ=some (.nx δ1)) (h2:g δ1=o):aB f g δ=o:=by
 unfold aB
 rw [h1]
 exact h2
def aZ {a n:Nat} {fb:υ} {ds:List W} {d:W} (hl:ds.length=a) (h:fb (bL n ds)=some (.rt d)):c7 a n fb ds=some d:=by
 unfold c7
 rw [if_pos hl,h]
 rfl
def fQ {fi:θ} {h:η} {fb:υ} {δ:DS} {ds:List W} {o:Option dt} (h1:fi δ=some ds) (h2:bh h fb ds δ=o):ic fi h fb δ=o:=by
 unfold ic
 rw [h1]
 exact h2
def aK {f:μ} {h:η} {δ δ':DS} {d:W} (h1:f δ=some d) (h2:h d δ=some δ'):aC f h δ=some (.nx δ'):=by
 unfold aC
 rw [h1]
 show (h d δ).map dt.nx=_
 rw [h2]
 rfl
def bo {f:μ} {δ:DS} {d:W} (h1:f δ=some d):bg f δ=some (.rt d):=by
 unfold bg
 rw [h1]
 rfl
def aY {c:DS->Option Bool} {f g:υ} {δ:DS} {b:Bool} {o:Option dt} (h1:c δ=some b) (h2:(if b=true then f δ else g δ)=o):cG c f g δ=o:=by
 unfold cG
 rw [h1]
 exact h2
def E3 {n:Nat} (hn:n<=16777216):xZ (n:Int)=some (eZ 0 n):=by
 unfold xZ
 rw [if_pos (xW hn),toNat_natCast]
def gy {f:θ} {δ:DS} {n:Nat} (h:f δ=some [.int n]) (hn:n<=16777216):jf f δ=some (eZ 0 n):=by
 unfold jf
 rw [h,bind_some]
 exact E3 hn
def z9 {K:Frag} {g:List W->Option W} {vs:List V} {H:Hp} {Q:VK} {E:XK} (hg:∀ ds,g ds=none) (h:kI K g vs H Q E):False:=by
 obtain ⟨ρ,G,ds,d,_,_,e,_⟩:=h
 rw [hg] at e
 cases e
def fO.no {P:Program} {w:World} {K:Frag} {mg:Θ} {base:Heap} {CX:vW} {k:Nat} {f:Addr} {fd:FuncData} {ps:Ω} {g:List W->Option W} (hg:∀ ds,g ds=none):fO P w K mg base CX k f fd ps (kI K g):=
 ⟨λ _ _ _ _ h=>(z9 hg h).elim,λ _ _ _ _ _ _ _ _ _ _ _ _ _ h=>(z9 hg h).elim⟩
inductive Ob where
 | lst (ds:List W)
 | dK (kvs:List (aA×W))
 | dT (kvs:ν)
 | dN (kvs:ν)
 | ins (c:Str) (fs:List (Str×W))
noncomputable abbrev ah:=List Ob
inductive iX (K:Frag) (ρ:Ξ) (G:Hp) {κ:Type}:List (κ×W)->List (κ×V)->Prop
 | nil:iX K ρ G [] []
 | cons {k:κ} {d:W} {v:V} {l:List (κ×W)} {m:List (κ×V)}:Dw K ρ G v d->iX K ρ G l m->iX K ρ G ((k,d)::l) ((k,v)::m)
noncomputable def Ah (K:Frag) (ρ:Ξ) (cl:Str->Addr) (G H:Hp) (a:Addr):Ob->Prop
 | .lst ds=>∃ vs,H a=some (.lst vs)/\ay K ρ G vs ds
 | .dK kvs=>∃ ws,H a=some (.dK ws)/\iX K ρ G kvs ws
 | .dT kvs=>∃ ws,H a=some (.dT ws)/\iX K ρ G kvs ws
 | .dN kvs=>∃ ws,H a=some (.dN ws)/\iX K ρ G kvs ws
 | .ins c fs=>∃ dx ws,H a=some (.ins (cl c) dx ws)/\G dx=none/\H dx=some (.own a)/\iX K ρ G fs ws
def Cn {ρ ρ':Ξ} (h:ρ <+: ρ') (n:Nat) (a:Addr) (e:ρ[n]?=some a):ρ'[n]?=some a:=by
 obtain ⟨t,rfl⟩:=h
 rw [getElem?_append_left (oG e).1]
 exact e
def Dw.ext {K:Frag} {ρ ρ':Ξ} {G:Hp} (h:ρ <+: ρ') {v:V} {d:W} (q:Dw K ρ G v d):Dw K ρ' G v d:=q.mapG (λ _ _ q=>q) (λ _ _ q=>q) (Cn h)
def ay.ext {K:Frag} {ρ ρ':Ξ} {G:Hp} (h:ρ <+: ρ') {vs:List V} {ds:List W} (q:ay K ρ G vs ds):ay K ρ' G vs ds:=q.mapA λ _ _ a=>a.ext h
def iX.ext {K:Frag} {ρ ρ':Ξ} {G G':Hp} {κ:Type} (h:ρ <+: ρ') (g:bj G G') {l:List (κ×W)} {m:List (κ×V)} (q:iX K ρ G l m):iX K ρ' G' l m:=by
 induction q with
 | nil=>exact .nil
 | cons a _ ih=>exact .cons ((a.ext h).same g) ih
def iX.lookup {K:Frag} {ρ:Ξ} {G:Hp} {κ:Type} [BEq κ] {k:κ} {l:List (κ×W)} {m:List (κ×V)} {d:W} (q:iX K ρ G l m):l.lookup k=some d->∃ v,m.lookup k=some v/\Dw K ρ G v d:=by
 induction q with
 | nil=>exact λ e=>by cases e
 | @cons j d v l m a _ ih=>
  intro e
  simp only [List.lookup] at e ⊢
  split at e
  . cases e;exact ⟨_,rfl,a⟩
  . exact ih e
def iX.lookup_none {K:Frag} {ρ:Ξ} {G:Hp} {κ:Type} [BEq κ] {k:κ} {l:List (κ×W)} {m:List (κ×V)} (q:iX K ρ G l m):l.lookup k=none->m.lookup k=none:=by
 induction q with
 | nil=>exact λ _=>rfl
 | @cons j d v l m a _ ih=>
  intro e
  simp only [List.lookup] at e ⊢
  split at e
  . cases e
  . exact ih e
def iX.length {K:Frag} {ρ:Ξ} {G:Hp} {κ:Type} {l:List (κ×W)} {m:List (κ×V)} (q:iX K ρ G l m):l.length=m.length:=by
 induction q with
 | nil=>rfl
 | cons _ _ ih=>exact congrArg (· + 1) ih
noncomputable def xH (f:Str) (v:W):List (Str×W)->List (Str×W)
 | []=>[(f,v)]
 | (g,x)::r=>if g=f then (g,v)::r else (g,x)::xH f v r
def iX.putF {K:Frag} {ρ:Ξ} {G:Hp} {f:Str} {v:V} {d:W} (h:Dw K ρ G v d) {l:List (Str×W)} {m:List (Str×V)} (q:iX K ρ G l m):iX K ρ G (xH f d l) (putF f v m):=by
 induction q with
 | nil=>exact .cons h .nil
 | cons a b ih=>
  unfold xH L2.putF
  split
  . exact .cons h b
  . exact .cons a ih
structure SR (K:Frag) (ρ:Ξ) (cl:Str->Addr) (G H:Hp) (S:ah):Prop where
 len:ρ.length=S.length
 nd:ρ.Nodup
 ob:∀ (n:Nat) o,S[n]?=some o->∃ a,ρ[n]?=some a/\G a=none/\Ah K ρ cl G H a o
structure GS (ρ:Ξ) (G H:Hp) (ρ':Ξ) (G' H':Hp):Prop where
 r:ρ <+: ρ'
 g:bj G G'
 s:bj G' H'
 h:∀ b o,b∉ρ->H b=some o->H' b=some o
 k:∀ b,H b≠none->H' b≠none
 n:∀ b,nT H b->G b=none->G' b=none
 f:∀ a,a∈ρ'->a∉ρ->H a=none
 t:∀ b,nT H b->nT H' b
def GS.refl {ρ:Ξ} {G H:Hp} (s:bj G H):GS ρ G H ρ G H:=⟨prefix_refl _,.refl _,s,λ _ _ _ e=>e,λ _ e=>e,λ _ _ e=>e,λ a h1 h2=>absurd h1 h2,λ _ e=>e⟩
def GS.of {ρ:Ξ} {G H G' H':Hp} (g:Gr G H G' H'):GS ρ G H ρ G' H':=⟨prefix_refl _,g.g,g.s,λ b o _ e=>g.h b o e,λ b e=>qv g.h e,g.n,λ a h1 h2=>absurd h1 h2,λ _ e=>e.same g.h⟩
def GS.trans {ρ ρ1 ρ2:Ξ} {G H G1 H1 G2 H2:Hp} (a:GS ρ G H ρ1 G1 H1) (b:GS ρ1 G1 H1 ρ2 G2 H2):GS ρ G H ρ2 G2 H2:=
 ⟨a.r.trans b.r,a.g.trans b.g,b.s,λ c o hc e=>b.h c o (λ h1=>by rw [a.f c h1 hc] at e;cases e) (a.h c o hc e),λ c e=>b.k c (a.k c e),λ c h1 h2=>b.n c (a.t c h1) (a.n c h1 h2),(λ c h1 h2=>by
  by_cases h3:c∈ρ1
  . exact a.f c h3 h2
  . have:=b.f c h1 h3
    cases e:H c with
    | none=>rfl
    | some o=>exact absurd this (a.k c (by rw [e];simp))),λ c e=>b.t c (a.t c e)⟩
section
variable {K:Frag} {cl:Str->Addr}
def Ah.move {ρ ρ':Ξ} {G H G' H':Hp} {a:Addr} (hr:ρ <+: ρ') (g:bj G G') (ha:H' a=H a) (hd:∀ dx,G dx=none->H dx=some (.own a)->H' dx=some (.own a)/\G' dx=none) {o:Ob} (h:Ah K ρ cl G H a o):Ah K ρ' cl G' H' a o:=by
 cases o with
 | lst ds=>
  obtain ⟨vs,h1,h2⟩:=h
  exact ⟨vs,ha.trans h1,(h2.ext hr).same g⟩
 | ins c fs=>
  obtain ⟨dx,ws,h1,h2,h3,h4⟩:=h
  exact ⟨dx,ws,ha.trans h1,(hd dx h2 h3).2,(hd dx h2 h3).1,h4.ext hr g⟩
 | _=>
  obtain ⟨ws,h1,h2⟩:=h
  exact ⟨ws,ha.trans h1,h2.ext hr g⟩
def Ah.some {ρ:Ξ} {G H:Hp} {a:Addr} {o:Ob} (h:Ah K ρ cl G H a o):∃ x,H a=some x/\∀ b,x≠.own b:=by
 cases o with
 | ins c fs=>
  obtain ⟨dx,ws,h1,_⟩:=h
  exact ⟨_,h1,λ b e=>by cases e⟩
 | _=>
  obtain ⟨ws,h1,_⟩:=h
  exact ⟨_,h1,λ b e=>by cases e⟩
def Ah.nt {ρ:Ξ} {G H:Hp} {a:Addr} {o:Ob} (h:Ah K ρ cl G H a o):nT H a:=by
 cases o with
 | ins c fs=>
  obtain ⟨_,_,h1,_⟩:=h
  exact .of h1 λ _ z=>by cases z
 | _=>
  obtain ⟨_,h1,_⟩:=h
  exact .of h1 λ _ z=>by cases z
def SR.grow {ρ:Ξ} {G H G' H':Hp} {S:ah} (s:SR K ρ cl G H S) (g:Gr G H G' H'):SR K ρ cl G' H' S:=
 ⟨s.len,s.nd,λ n o e=>by
  obtain ⟨a,h1,h2,h3⟩:=s.ob n o e
  obtain ⟨x,hx,_⟩:=h3.some
  exact ⟨a,h1,g.n a h3.nt h2,h3.move (prefix_refl _) g.g (by rw [hx];exact g.h _ _ hx) λ dx e1 e2=>⟨g.h _ _ e2,g.n dx (.of e2 λ _ z=>by cases z) e1⟩⟩⟩
def SR.addr {ρ:Ξ} {G H:Hp} {S:ah} (s:SR K ρ cl G H S) {n:Nat} {o:Ob} {a:Addr} (e:S[n]?=some o) (ea:ρ[n]?=some a):G a=none/\Ah K ρ cl G H a o:=by
 obtain ⟨b,h1,h2,h3⟩:=s.ob n o e
 rw [ea] at h1
 cases h1
 exact ⟨h2,h3⟩
def xX {l:Ξ} (h:l.Nodup) {i j:Nat} {a:Addr} (h1:l[i]?=some a) (h2:l[j]?=some a):i=j:=by
 obtain ⟨hi,e1⟩:=oG h1
 obtain ⟨hj,e2⟩:=oG h2
 have hp:=List.pairwise_iff_getElem.mp h
 rcases Nat.lt_trichotomy i j with c | c | c
 . exact absurd (e1.trans e2.symm) (hp i j hi hj c)
 . exact c
 . exact absurd (e2.trans e1.symm) (hp j i hj hi c)
def SR.put {ρ:Ξ} {G H:Hp} {S:ah} {n:Nat} {o o':Ob} {a:Addr} {x:HO} (s:SR K ρ cl G H S) (sg:bj G H) (e:S[n]?=some o) (ea:ρ[n]?=some a) (hx:∀ b,x≠.own b) (ho:Ah K ρ cl G (bZ H a x) a o'):SR K ρ cl G (bZ H a x) (S.set n o')/\GS ρ G H ρ G (bZ H a x):=by
 obtain ⟨ga,ob⟩:=s.addr e ea
 obtain ⟨y,hy,hno⟩:=ob.some
 have am:a∈ρ:=mem_of_getElem? ea
 refine ⟨⟨by rw [length_set];exact s.len,s.nd,λ m q em=>?_⟩,⟨prefix_refl _,.refl _,λ b u eb=>?_,λ b u hb eb=>?_,λ b hb=>?_,λ _ _ e=>e,λ b h1 h2=>absurd h1 h2,λ b hb=>by
  by_cases z:b=a
  . exact z▸ho.nt
  . unfold nT
    rw [aH z]
    exact hb⟩⟩
 . rcases dJ em with ⟨rfl,rfl,_⟩ | ⟨ne,em⟩
   . exact ⟨a,ea,ga,ho⟩
   . obtain ⟨b,h1,h2,h3⟩:=s.ob m q em
     have hab:b≠a:=λ z=>ne (xX s.nd ea (z▸h1))
     exact ⟨b,h1,h2,h3.move (prefix_refl _) (.refl _) (aH hab) λ dx e1 e2=>⟨by
      rw [aH (λ z=>by rw [z,hy] at e2;cases e2;exact hno _ rfl)]
      exact e2,e1⟩⟩
 . rw [aH (λ z=>by rw [z,ga] at eb;cases eb)]
   exact sg _ _ eb
 . rw [aH (λ z=>hb (by rw [z];exact am))]
   exact eb
 . by_cases z:b=a
   . subst z
     rw [aJ]
     simp
   . rw [aH z]
     exact hb
def SR.push {ρ:Ξ} {G H H':Hp} {S:ah} {p:Addr} {o:Ob} {x:HO} (s:SR K ρ cl G H S) (sg:bj G H) (n:Nw H H' p x) (ho:∀ ρ',ρ <+: ρ'->Ah K ρ' cl G H' p o):SR K (ρ++[p]) cl G H' (S++[o])/\GS ρ G H (ρ++[p]) G H':=by
 have pm:p∉ρ:=λ hp=>by
  obtain ⟨i,hi,e⟩:=List.mem_iff_getElem.mp hp
  obtain ⟨b,h1,h2,h3⟩:=s.ob i (S[i]'(by rw [<-s.len];exact hi)) (getElem?_eq_getElem _)
  rw [getElem?_eq_getElem hi,e] at h1
  cases h1
  obtain ⟨y,hy,_⟩:=h3.some
  rw [n.2.1] at hy
  cases hy
 have pre:ρ <+: ρ++[p]:=⟨[p],rfl⟩
 refine ⟨⟨by simp [s.len],nodup_append.mpr ⟨s.nd,by simp,λ a ha b hb=>by
  rw [mem_singleton.mp hb]
  exact λ z=>pm (z▸ha)⟩,λ m q em=>?_⟩,⟨pre,.refl _,sg.trans n.1,λ b u _ e=>n.1 b u e,λ b e=>qv n.1 e,λ _ _ e=>e,λ a h1 h2=>?_,λ _ e=>e.same n.1⟩⟩
 . rcases lt_or_ge m S.length with hm | hm
   . rw [getElem?_append_left hm] at em
     obtain ⟨b,h1,h2,h3⟩:=s.ob m q em
     obtain ⟨y,hy,_⟩:=h3.some
     exact ⟨b,by rw [getElem?_append_left (by rw [s.len];exact hm)];exact h1,h2,h3.move pre (.refl _) (by rw [hy];exact n.1 _ _ hy) λ dx e1 e2=>⟨n.1 _ _ e2,e1⟩⟩
   . rw [getElem?_append_right hm] at em
     have hz:m-S.length=0:=by
      have:=(oG em).1
      simp at this
      omega
     rw [hz] at em
     cases em
     refine ⟨p,?_,cW sg n.2.1,ho _ pre⟩
     rw [getElem?_append_right (by rw [s.len];exact hm),s.len,hz]
     rfl
 . rcases mem_append.mp h1 with h | h
   . exact absurd h h2
   . rw [mem_singleton.mp h]
     exact n.2.1
inductive Rs (α:Type) where
 | ok (a:α)
 | xc (c:Str)
noncomputable abbrev SM (α:Type):=Option (Rs α×ah)
abbrev ζ:=DS->ah->SM W
abbrev Υ:=DS->ah->SM (List W)
noncomputable def aq {α β:Type} (m:SM α) (k:α->ah->SM β):SM β:=match m with
 | some (.ok a,S)=>k a S
 | some (.xc c,S)=>some (.xc c,S)
 | none=>none
def aP {α β:Type} {m:SM α} {k:α->ah->SM β} {r:Rs β} {S':ah} (h:aq m k=some (r,S')):(∃ c,m=some (.xc c,S')/\r=.xc c)∨∃ a S1,m=some (.ok a,S1)/\k a S1=some (r,S'):=by
 unfold aq at h
 split at h
 . exact .inr ⟨_,_,rfl,h⟩
 . cases h
   exact .inl ⟨_,rfl,rfl⟩
 . cases h
structure RS (K:Frag) (cl:Str->Addr) (ρ:Ξ) (G H:Hp) (δ:DS) (σ:St) (S:ah):Prop where
 rl:Rl K ρ G H δ σ
 st:SR K ρ cl G H S
 ap:∀ (i:Nat) ds p,δ[i]?=some (.own ds)->σ[i]?=some (some (.ref p))->p∉ρ
def vH.move {ρ ρ':Ξ} {G H G' H':Hp} (g:GS ρ G H ρ' G' H') {s:Sl} {o:Option V} (ha:∀ ds p,s=.own ds->o=some (.ref p)->p∉ρ) (h:vH K ρ G H s o):vH K ρ' G' H' s o:=by
 cases s with
 | no=>exact trivial
 | val d=>
  obtain ⟨v,e,h⟩:=h
  exact ⟨v,e,(h.ext g.r).same g.g⟩
 | own ds=>
  obtain ⟨p,vs,e,h1,h2,h3⟩:=h
  exact ⟨p,vs,e,g.n p (.l h2) h1,g.h _ _ (ha ds p rfl e) h2,(h3.ext g.r).same g.g⟩
def RS.grow {ρ ρ':Ξ} {G H G' H':Hp} {δ:DS} {σ:St} {S S':ah} (R:RS K cl ρ G H δ σ S) (g:GS ρ G H ρ' G' H') (s:SR K ρ' cl G' H' S'):RS K cl ρ' G' H' δ σ S':=
 ⟨⟨g.s,R.rl.len,λ i sl e=>by
  obtain ⟨o,h1,h2⟩:=R.rl.sl i sl e
  exact ⟨o,h1,h2.move g λ ds p e1 e2=>R.ap i ds p (e1▸e) (e2▸h1)⟩,R.rl.apart⟩,s,λ i ds p h1 h2 hp=>by
  obtain ⟨o,k1,p',vs,rfl,k3,k4,k5⟩:=R.rl.sl i _ h1
  rw [h2] at k1
  cases k1
  rw [g.f p hp (R.ap i ds p h1 h2)] at k4
  cases k4⟩
noncomputable def SE (K:Frag) (cl:Str->Addr) (E:XK) (t:TE) (f:ζ):Prop:=
 ∀ (ρ:Ξ) (G:Hp) (σ:St) (H:Hp) (δ:DS) (S:ah) (r:Rs W) (S':ah) (Q:VK),RS K cl ρ G H δ σ S->f δ S=some (r,S')->
  (∀ d,r=.ok d->∀ v ρ' G' H',GS ρ G H ρ' G' H'->SR K ρ' cl G' H' S'->Dw K ρ' G' v d->Q v H')->
  (∀ c,r=.xc c->∀ ρ' G' H',GS ρ G H ρ' G' H'->SR K ρ' cl G' H' S'->E (.ref (cl c)) none H')->t σ H Q
noncomputable def SA (K:Frag) (cl:Str->Addr) (E:XK) (t:TA) (f:Υ):Prop:=
 ∀ (ρ:Ξ) (G:Hp) (σ:St) (H:Hp) (δ:DS) (S:ah) (r:Rs (List W)) (S':ah) (Q:List V->Hp->Prop),RS K cl ρ G H δ σ S->f δ S=some (r,S')->
  (∀ ds,r=.ok ds->∀ vs ρ' G' H',GS ρ G H ρ' G' H'->SR K ρ' cl G' H' S'->ay K ρ' G' vs ds->Q vs H')->
  (∀ c,r=.xc c->∀ ρ' G' H',GS ρ G H ρ' G' H'->SR K ρ' cl G' H' S'->E (.ref (cl c)) none H')->t σ H Q
noncomputable def ST (K:Frag) (cl:Str->Addr) (E:XK) (t:TT) (f:DS->ah->SM Bool):Prop:=
 ∀ (ρ:Ξ) (G:Hp) (σ:St) (H:Hp) (δ:DS) (S:ah) (r:Rs Bool) (S':ah) (Q:Bool->Hp->Prop),RS K cl ρ G H δ σ S->f δ S=some (r,S')->
  (∀ b,r=.ok b->∀ ρ' G' H',GS ρ G H ρ' G' H'->SR K ρ' cl G' H' S'->Q b H')->
  (∀ c,r=.xc c->∀ ρ' G' H',GS ρ G H ρ' G' H'->SR K ρ' cl G' H' S'->E (.ref (cl c)) none H')->t σ H Q
variable {E:XK}
noncomputable def ab {α:Type} (f:DS->Option α):DS->ah->SM α:=λ δ S=>(f δ).map λ d=>(.ok d,S)
def gQ {α:Type} {f:DS->Option α} {δ:DS} {S S':ah} {r:Rs α} (h:ab f δ S=some (r,S')):∃ d,f δ=some d/\r=.ok d/\S'=S:=by
 obtain ⟨d,e1,e2⟩:=oM h
 cases e2
 exact ⟨d,e1,rfl,rfl⟩
def E4 {t:TE} {f:μ} (h:∀ ρ,DE K ρ t f):SE K cl E t (ab f):=λ ρ G σ H δ S r S' Q R e q _=>by
 obtain ⟨d,e1,rfl,rfl⟩:=gQ e
 exact h ρ G σ H δ d Q R.rl e1 λ v G' H' g dv=>q d rfl v ρ G' H' (.of g) (R.st.grow g) dv
def Du {t:TA} {f:θ} (h:∀ ρ,DA K ρ t f):SA K cl E t (ab f):=λ ρ G σ H δ S r S' Q R e q _=>by
 obtain ⟨d,e1,rfl,rfl⟩:=gQ e
 exact h ρ G σ H δ d Q R.rl e1 λ v G' H' g dv=>q d rfl v ρ G' H' (.of g) (R.st.grow g) dv
def Df {t:TT} {f:DS->Option Bool} (h:∀ ρ,DT K ρ t f):ST K cl E t (ab f):=λ ρ G σ H δ S r S' Q R e q _=>by
 obtain ⟨d,e1,rfl,rfl⟩:=gQ e
 exact h ρ G σ H δ d Q R.rl e1 λ G' H' g=>q d rfl ρ G' H' (.of g) (R.st.grow g)
noncomputable def jZ:DS->ah->SM (List W):=λ _ S=>some (.ok [],S)
noncomputable def bJ (f:ζ) (g:Υ):DS->ah->SM (List W):=λ δ S=>aq (f δ S) λ d S1=>aq (g δ S1) λ ds S2=>some (.ok (d::ds),S2)
def Gu:SA K cl E j4 jZ:=λ ρ G σ H δ S r S' Q R e q _=>by
 cases e
 exact q [] rfl [] ρ G H (.refl R.rl.sub) R.st .nil
def DF {t:TE} {u:TA} {f:ζ} {g:Υ} (h1:SE K cl E t f) (h2:SA K cl E u g):SA K cl E (fX t u) (bJ f g):=λ ρ G σ H δ S r S' Q R e q qx=>by
 rcases aP e with ⟨c,em,rfl⟩ | ⟨d,S1,em,e⟩
 . exact h1 ρ G σ H δ S _ _ _ R em (λ d hd=>by cases hd) (λ c' hc=>by cases hc;exact qx c rfl)
 . refine h1 ρ G σ H δ S _ _ _ R em (λ d' hd=>?_) (λ c' hc=>by cases hc)
   cases hd
   intro v ρ1 G1 H1 g1 s1 dv
   have R1:=R.grow g1 s1
   rcases aP e with ⟨c,em,rfl⟩ | ⟨ds,S2,em,e⟩
   . exact h2 ρ1 G1 σ H1 δ S1 _ _ _ R1 em (λ d hd=>by cases hd) (λ c' hc=>by cases hc;exact λ ρ2 G2 H2 g2 s2=>qx c rfl ρ2 G2 H2 (g1.trans g2) s2)
   . refine h2 ρ1 G1 σ H1 δ S1 _ _ _ R1 em (λ d' hd=>?_) (λ c' hc=>by cases hc)
     cases hd
     cases e
     intro vs ρ2 G2 H2 g2 s2 da
     exact q _ rfl _ ρ2 G2 H2 (g1.trans g2) s2 (.cons ((dv.ext g2.r).same g2.g) da)
end
section
variable {K:Frag} {cl:Str->Addr} {E:XK}
def ci {α:Type} {t:TE} {f:ζ} (h:SE K cl E t f) {ρ:Ξ} {G:Hp} {σ:St} {H:Hp} {δ:DS} {S:ah} {r:Rs α} {S':ah} {k:W->ah->SM α} {P:V->Hp->Prop} (R:RS K cl ρ G H δ σ S) (e:aq (f δ S) k=some (r,S'))
 (q:∀ d S1,k d S1=some (r,S')->∀ v ρ' G' H',GS ρ G H ρ' G' H'->SR K ρ' cl G' H' S1->Dw K ρ' G' v d->P v H')
 (qx:∀ c,r=.xc c->∀ ρ' G' H',GS ρ G H ρ' G' H'->SR K ρ' cl G' H' S'->E (.ref (cl c)) none H'):t σ H P:=by
 rcases aP e with ⟨c,em,rfl⟩ | ⟨d,S1,em,e⟩
 . exact h ρ G σ H δ S _ _ _ R em (λ d hd=>by cases hd) (λ c' hc=>by cases hc;exact qx c rfl)
 . exact h ρ G σ H δ S _ _ _ R em (λ d' hd=>by cases hd;exact q _ _ e) (λ c' hc=>by cases hc)
def nZ {α:Type} {t:TA} {f:Υ} (h:SA K cl E t f) {ρ:Ξ} {G:Hp} {σ:St} {H:Hp} {δ:DS} {S:ah} {r:Rs α} {S':ah} {k:List W->ah->SM α} {P:List V->Hp->Prop} (R:RS K cl ρ G H δ σ S) (e:aq (f δ S) k=some (r,S'))
 (q:∀ d S1,k d S1=some (r,S')->∀ v ρ' G' H',GS ρ G H ρ' G' H'->SR K ρ' cl G' H' S1->ay K ρ' G' v d->P v H')
 (qx:∀ c,r=.xc c->∀ ρ' G' H',GS ρ G H ρ' G' H'->SR K ρ' cl G' H' S'->E (.ref (cl c)) none H'):t σ H P:=by
 rcases aP e with ⟨c,em,rfl⟩ | ⟨d,S1,em,e⟩
 . exact h ρ G σ H δ S _ _ _ R em (λ d hd=>by cases hd) (λ c' hc=>by cases hc;exact qx c rfl)
 . exact h ρ G σ H δ S _ _ _ R em (λ d' hd=>by cases hd;exact q _ _ e) (λ c' hc=>by cases hc)
def zb {α:Type} {t:TT} {f:DS->ah->SM Bool} (h:ST K cl E t f) {ρ:Ξ} {G:Hp} {σ:St} {H:Hp} {δ:DS} {S:ah} {r:Rs α} {S':ah} {k:Bool->ah->SM α} {P:Bool->Hp->Prop} (R:RS K cl ρ G H δ σ S) (e:aq (f δ S) k=some (r,S'))
 (q:∀ d S1,k d S1=some (r,S')->∀ ρ' G' H',GS ρ G H ρ' G' H'->SR K ρ' cl G' H' S1->P d H')
 (qx:∀ c,r=.xc c->∀ ρ' G' H',GS ρ G H ρ' G' H'->SR K ρ' cl G' H' S'->E (.ref (cl c)) none H'):t σ H P:=by
 rcases aP e with ⟨c,em,rfl⟩ | ⟨d,S1,em,e⟩
 . exact h ρ G σ H δ S _ _ _ R em (λ d hd=>by cases hd) (λ c' hc=>by cases hc;exact qx c rfl)
 . exact h ρ G σ H δ S _ _ _ R em (λ d' hd=>by cases hd;exact q _ _ e) (λ c' hc=>by cases hc)
def fK {α:Type} {ta tb:TE} {fa fb:ζ} (ha:SE K cl E ta fa) (hb:SE K cl E tb fb) {ρ:Ξ} {G:Hp} {σ:St} {H:Hp} {δ:DS} {S:ah} {r:Rs α} {S':ah} {k:W->W->ah->SM α} {P:V->V->Hp->Prop} (R:RS K cl ρ G H δ σ S)
 (e:aq (fa δ S) (λ x S1=>aq (fb δ S1) λ y S2=>k x y S2)=some (r,S'))
 (q:∀ x y S2,k x y S2=some (r,S')->∀ v u ρ' G' H',GS ρ G H ρ' G' H'->SR K ρ' cl G' H' S2->Dw K ρ' G' v x->Dw K ρ' G' u y->P v u H')
 (qx:∀ c,r=.xc c->∀ ρ' G' H',GS ρ G H ρ' G' H'->SR K ρ' cl G' H' S'->E (.ref (cl c)) none H'):ta σ H λ v H1=>tb σ H1 λ u H2=>P v u H2:=
 ci ha R e (λ x S1 e1 v ρ1 G1 H1 g1 s1 dv=>ci hb (R.grow g1 s1) e1 (λ y S2 e2 u ρ2 G2 H2 g2 s2 du=>q x y S2 e2 v u ρ2 G2 H2 (g1.trans g2) s2 ((dv.ext g2.r).same g2.g) du) λ c hc ρ2 G2 H2 g2 s2=>qx c hc ρ2 G2 H2 (g1.trans g2) s2) qx
noncomputable def iq {α:Type} (x:Option α) (S:ah):SM α:=x.map λ d=>(.ok d,S)
def bp {α:Type} {x:Option α} {S S':ah} {r:Rs α} (h:iq x S=some (r,S')):∃ d,x=some d/\r=.ok d/\S'=S:=by
 obtain ⟨d,e1,e2⟩:=oM h
 cases e2
 exact ⟨d,e1,rfl,rfl⟩
noncomputable def uY (g:W->W->Option Bool) (fa fb:ζ):DS->ah->SM Bool:=λ δ S=>aq (fa δ S) λ x S1=>aq (fb δ S1) λ y S2=>iq (g x y) S2
noncomputable def sB (f:DS->ah->SM Bool):DS->ah->SM W:=λ δ S=>aq (f δ S) λ b S1=>some (.ok (.bool b),S1)
def GF {r:R2} {ta tb:TE} {fa fb:ζ} {g:W->W->Option Bool} (hr:∀ ρ,DB K ρ r g) (ha:SE K cl E ta fa) (hb:SE K cl E tb fb):SE K cl E (tT r ta tb) (sB (uY g fa fb)):=λ ρ G σ H δ S r' S' Q R e q qx=>by
 rcases aP e with ⟨c,em,rfl⟩ | ⟨b,S1,em,e⟩
 . exact fK (r:=Rs.xc c) ha hb R em (λ x y S2 e2=>by obtain ⟨_,_,z,_⟩:=bp e2;cases z) (λ c' hc=>by cases hc;exact qx c rfl)
 . cases e
   exact fK ha hb R em (λ x y S2 e2 v u ρ2 G2 H2 g2 s2 dv du=>by
    obtain ⟨c,e3,z,rfl⟩:=bp e2
    cases z
    exact hr ρ2 H2 v u x y _ _ (dv.same g2.s) (du.same g2.s) e3 (q _ rfl _ ρ2 G2 H2 g2 s2 (.bl _))) (λ c hc=>by cases hc)
noncomputable def Nf (f g:DS->ah->SM Bool):DS->ah->SM Bool:=λ δ S=>aq (f δ S) λ b S1=>if b=true then g δ S1 else some (.ok false,S1)
noncomputable def Jm (f g:DS->ah->SM Bool):DS->ah->SM Bool:=λ δ S=>aq (f δ S) λ b S1=>if b=true then some (.ok true,S1) else g δ S1
noncomputable def oN (f:DS->ah->SM Bool):DS->ah->SM Bool:=λ δ S=>aq (f δ S) λ b S1=>some (.ok (!b),S1)
def Jw {t u:TT} {f g:DS->ah->SM Bool} (h1:ST K cl E t f) (h2:ST K cl E u g):ST K cl E (MD t u) (Jm f g):=λ ρ G σ H δ S r S' Q R e q qx=>
 zb h1 R e (λ b S1 e1 ρ1 G1 H1 g1 s1=>by
  cases b with
  | false=>exact h2 ρ1 G1 σ H1 δ S1 r S' Q (R.grow g1 s1) e1 (λ b hb ρ2 G2 H2 g2 s2=>q b hb ρ2 G2 H2 (g1.trans g2) s2) λ c hc ρ2 G2 H2 g2 s2=>qx c hc ρ2 G2 H2 (g1.trans g2) s2
  | true=>cases e1;exact q true rfl ρ1 G1 H1 g1 s1) qx
def G9 {t:TT} {f:DS->ah->SM Bool} (h:ST K cl E t f):ST K cl E (Jt t) (oN f):=λ ρ G σ H δ S r S' Q R e q qx=>
 zb h R e (λ b S1 e1 ρ1 G1 H1 g1 s1=>by cases e1;exact q _ rfl ρ1 G1 H1 g1 s1) qx
noncomputable def oI (f:Υ):DS->ah->SM W:=λ δ S=>aq (f δ S) λ ds S1=>if ds.length<=sizeLine then some (.ok (.tuple ds),S1) else none
def FP {t:TA} {f:Υ} (h:SA K cl E t f):SE K cl E (Bw t) (oI f):=λ ρ G σ H δ S r S' Q R e q qx=>
 nZ h R e (λ ds S1 e1 vs ρ1 G1 H1 g1 s1 da=>by
  split at e1
  . rename_i hz
    cases e1
    refine ⟨by rw [da.length];exact hz,λ p H' n=>?_⟩
    have g2:=Gr.nw g1.s n
    exact q _ rfl _ ρ1 _ H' (g1.trans (.of g2)) (s1.grow g2) (.tup aJ (da.same g2.g))
  . cases e1) qx
noncomputable def MN (f:Υ):DS->ah->SM W:=λ δ S=>aq (f δ S) λ ds S1=>if ds.length<=sizeLine then some (.ok (.list ds),S1) else none
noncomputable def d9 (f:Υ):DS->ah->SM W:=λ δ S=>aq (f δ S) λ ds S1=>if ds.length<=sizeLine then some (.ok (.ref S1.length),S1++[.lst ds]) else none
def Cj {t:TA} {f:Υ} (h:SA K cl E t f):SE K cl E (Af t) (d9 f):=λ ρ G σ H δ S r S' Q R e q qx=>
 nZ h R e (λ ds S1 e1 vs ρ1 G1 H1 g1 s1 da=>by
  split at e1
  . rename_i hz
    cases e1
    refine ⟨by rw [da.length];exact hz,λ p H' n=>?_⟩
    obtain ⟨s2,g2⟩:=s1.push (o:=.lst ds) g1.s n λ ρ' hr=>⟨vs,n.2.2,da.ext hr⟩
    exact q _ rfl _ _ _ H' (g1.trans g2) s2 (.ref (by rw [<-s1.len];simp))
  . cases e1) qx
noncomputable def NQ:DS->ah->SM W:=λ _ S=>some (.ok (.ref S.length),S++[.dK []])
noncomputable def Oe:DS->ah->SM W:=λ _ S=>some (.ok (.ref S.length),S++[.dT []])
def JK:SE K cl E Bi NQ:=λ ρ G σ H δ S r S' Q R e q qx=>by
 cases e
 intro p hp
 obtain ⟨s2,g2⟩:=R.st.push (o:=.dK []) R.rl.sub (Nw.of (o:=.dK []) hp) λ ρ' hr=>⟨[],aJ,.nil⟩
 exact q _ rfl _ _ _ _ g2 s2 (.ref (by rw [<-R.st.len];simp))
def JQ:SE K cl E zN Oe:=λ ρ G σ H δ S r S' Q R e q qx=>by
 cases e
 intro p hp
 obtain ⟨s2,g2⟩:=R.st.push (o:=.dT []) R.rl.sub (Nw.of (o:=.dT []) hp) λ ρ' hr=>⟨[],aJ,.nil⟩
 exact q _ rfl _ _ _ _ g2 s2 (.ref (by rw [<-R.st.len];simp))
noncomputable def df (x:W) (S:ah):Option (Nat×Ob):=match x with
 | .ref n=>(S[n]?).map λ o=>(n,o)
 | _=>none
def cP {x:W} {S:ah} {n:Nat} {o:Ob} (h:df x S=some (n,o)):x=.ref n/\S[n]?=some o:=by
 unfold df at h
 split at h
 . obtain ⟨o',e1,e2⟩:=oM h
   cases e2
   exact ⟨rfl,e1⟩
 . cases h
noncomputable def ie (c:Str) (x:W) (S:ah):Option (Nat×List (Str×W)):=match df x S with
 | some (n,.ins c' fs)=>if c'=c then some (n,fs) else none
 | _=>none
def jw {c:Str} {x:W} {S:ah} {n:Nat} {fs:List (Str×W)} (h:ie c x S=some (n,fs)):x=.ref n/\S[n]?=some (.ins c fs):=by
 unfold ie at h
 cases e:df x S with
 | none=>rw [e] at h;cases h
 | some p=>
  obtain ⟨m,o⟩:=p
  rw [e] at h
  cases o with
  | ins c' fs'=>
   by_cases hc:c'=c
   . subst hc
     cases (if_pos rfl).symm.trans h
     exact cP e
   . cases (if_neg hc).symm.trans h
  | _=>cases h
noncomputable def n8 (c f:Str) (fa:ζ):DS->ah->SM W:=λ δ S=>aq (fa δ S) λ x S1=>(ie c x S1).bind λ p=>iq (p.2.lookup f) S1
def cg {ρ:Ξ} {G:Hp} {v:V} {n:Nat} (h:Dw K ρ G v (.ref n)):∃ a,v=.ref a/\ρ[n]?=some a:=by
 cases h with
 | ref e=>exact ⟨_,rfl,e⟩
def FH {c f:Str} {ta:TE} {fa:ζ} (hc:rT K (cl c)) (hn:dh K (cl c) f) (ha:SE K cl E ta fa):SE K cl E (HL K ta f) (n8 c f fa):=λ ρ G σ H δ S r S' Q R e q qx=>
 ci ha R e (λ x S1 e1 v ρ1 G1 H1 g1 s1 dv=>by
  obtain ⟨⟨n,fs⟩,e2,e3⟩:=oB e1
  obtain ⟨d,e4,rfl,rfl⟩:=bp e3
  obtain ⟨rfl,e5⟩:=jw e2
  obtain ⟨a,rfl,ea⟩:=cg dv
  obtain ⟨ga,dx,ws,k1,k2,k3,k4⟩:=s1.addr e5 ea
  obtain ⟨u,k5,k6⟩:=k4.lookup e4
  exact ⟨a,_,dx,ws,u,rfl,k1,hc,hn,k5,q d rfl u ρ1 G1 H1 g1 s1 k6⟩) qx
noncomputable def OD (K:Frag) (cl:Str->Addr) (f:List W->ah->SM W):Sp:=λ vs H Q E=>∃ ρ G S ds r S',bj G H/\SR K ρ cl G H S/\ay K ρ G vs ds/\f ds S=some (r,S')/\
 (∀ d,r=.ok d->∀ v ρ' G' H',GS ρ G H ρ' G' H'->SR K ρ' cl G' H' S'->Dw K ρ' G' v d->Q v H')/\(∀ c,r=.xc c->∀ ρ' G' H',GS ρ G H ρ' G' H'->SR K ρ' cl G' H' S'->E (.ref (cl c)) none H')
noncomputable def Ib (f:List W->Option W) (fa:Υ):DS->ah->SM W:=λ δ S=>aq (fa δ S) λ ds S1=>iq (f ds) S1
noncomputable def o6 (K:Frag) (cl:Str->Addr) (f:List W->ah->SM W):Sp:=λ vs H Q _=>∃ ρ G S ds d S',bj G H/\SR K ρ cl G H S/\ay K ρ G vs ds/\f ds S=some (.ok d,S')/\
 ∀ v ρ' G' H',GS ρ G H ρ' G' H'->SR K ρ' cl G' H' S'->Dw K ρ' G' v d->Q v H'
noncomputable def BQ (m:SM W):SM W:=match m with
 | some (.ok d,S)=>some (.ok d,S)
 | _=>none
def ku {m:SM W} {r:Rs W} {S':ah} (h:BQ m=some (r,S')):∃ d,r=.ok d/\m=some (.ok d,S'):=by
 unfold BQ at h
 split at h
 . cases h;exact ⟨_,rfl,rfl⟩
 . cases h
noncomputable def bI (f:List W->ah->SM W) (fa:Υ):DS->ah->SM W:=λ δ S=>aq (fa δ S) λ ds S1=>BQ (f ds S1)
def CO {f:List W->ah->SM W} {t:TA} {fa:Υ} {E':XK} (h:SA K cl E t fa):SE K cl E (pU (o6 K cl f) [] E' t) (bI f fa):=λ ρ G σ H δ S r S' Q R e q qx=>
 nZ h R e (λ ds S1 e1 vs ρ1 G1 H1 g1 s1 da=>by
  obtain ⟨d,rfl,e2⟩:=ku e1
  exact ⟨ρ1,G1,S1,ds,d,S',g1.s,s1,by rw [append_nil];exact da,e2,λ v ρ2 G2 H2 g2 s2 dv=>q d rfl v ρ2 G2 H2 (g1.trans g2) s2 dv⟩) qx
noncomputable def cJ (c m:Str) (f:List W->ah->SM W) (fo:ζ) (fa:Υ):DS->ah->SM W:=λ δ S=>aq (fo δ S) λ x S1=>(ie c x S1).bind λ p=>if p.2.lookup m=none then aq (fa δ S1) λ ds S2=>BQ (f (x::ds) S2) else none
def C1 {c m:Str} {f:List W->ah->SM W} {to:TE} {t:TA} {fo:ζ} {fa:Υ} {E':XK} (ho:SE K cl E to fo) (h:SA K cl E t fa):SE K cl E (Fu (cl c) m (o6 K cl f) [] E' to t) (cJ c m f fo fa):=λ ρ G σ H δ S r S' Q R e q qx=>
 ci ho R e (λ x S1 e1 v ρ1 G1 H1 g1 s1 dv=>by
  obtain ⟨⟨n,fs⟩,e2,e3⟩:=oB e1
  split at e3
  case isFalse=>cases e3
  rename_i hm
  obtain ⟨rfl,e5⟩:=jw e2
  obtain ⟨a,rfl,ea⟩:=cg dv
  obtain ⟨ga,dx,ws,k1,k2,k3,k4⟩:=s1.addr e5 ea
  refine ⟨a,dx,ws,rfl,k1,k4.lookup_none hm,?_⟩
  exact nZ h (R.grow g1 s1) e3 (λ ds S2 e6 vs ρ2 G2 H2 g2 s2 da=>by
   obtain ⟨d,rfl,e7⟩:=ku e6
   exact ⟨ρ2,G2,S2,.ref n::ds,d,S',g2.s,s2,by rw [append_nil];exact .cons ((dv.ext g2.r).same g2.g) da,e7,λ v ρ3 G3 H3 g3 s3 dv=>q d rfl v ρ3 G3 H3 (g1.trans (g2.trans g3)) s3 dv⟩) λ c hc ρ2 G2 H2 g2 s2=>qx c hc ρ2 G2 H2 (g1.trans g2) s2) qx
noncomputable def wq (c:Str) (f:List W->ah->SM W) (fa:Υ):DS->ah->SM W:=λ δ S=>aq (fa δ S) λ ds S1=>aq (BQ (f (.ref S1.length::ds) (S1++[.ins c []]))) λ d S2=>match d with
 | .none=>some (.ok (.ref S1.length),S2)
 | _=>none
def DH {c:Str} {f:List W->ah->SM W} {t:TA} {fa:Υ} {E':XK} (h:SA K cl E t fa):SE K cl E (Fv (cl c) (o6 K cl f) [] E' t) (wq c f fa):=λ ρ G σ H δ S r S' Q R e q qx=>
 nZ h R e (λ ds S1 e1 vs ρ1 G1 H1 g1 s1 da=>by
  intro x dx hx hdx hne
  have na:Nw H1 (bZ H1 dx (.own x)) dx (.own x):=.of hdx
  have gA:Gr G1 H1 G1 (bZ H1 dx (.own x)):=.nwO g1.s na
  have hx':(bZ H1 dx (.own x)) x=none:=by rw [aH (Ne.symm hne)];exact hx
  have nb:Nw (bZ H1 dx (.own x)) (bZ (bZ H1 dx (.own x)) x (.ins (cl c) dx [])) x (.ins (cl c) dx []):=.of hx'
  obtain ⟨s2,g2⟩:=(s1.grow gA).push (o:=.ins c []) gA.s nb λ ρ' hr=>⟨dx,[],aJ,cW g1.s hdx,by rw [aH hne];exact aJ,.nil⟩
  have g12:=(GS.of (ρ:=ρ1) gA).trans g2
  have dx1:ay K (ρ1++[x]) G1 (.ref x::vs) (.ref S1.length::ds):=.cons (.ref (by rw [<-s1.len];simp)) (da.ext ⟨[x],rfl⟩)
  rcases aP e1 with ⟨c',em,rfl⟩ | ⟨d,S2,em,e2⟩
  . obtain ⟨_,z,_⟩:=ku em
    cases z
  . obtain ⟨d',z,em⟩:=ku em
    cases z
    refine ⟨_,G1,_,_,_,_,g2.s,s2,by rw [append_nil];exact dx1,em,λ v ρ3 G3 H3 g3 s3 dv=>?_⟩
    split at e2
    . cases e2
      exact ⟨vp dv,q _ rfl _ ρ3 G3 H3 (g1.trans (g12.trans g3)) s3 (.ref (by
       have h1:(ρ1++[x])[S1.length]?=some x:=by rw [<-s1.len];simp
       obtain ⟨t',ht⟩:=g3.r
       rw [<-ht,getElem?_append_left (oG h1).1]
       exact h1))⟩
    . cases e2) qx
noncomputable def Lw (K:Frag) (cl:Str->Addr) (E:XK) (wi:TI) (f:Υ):Prop:=
 ∀ (ρ:Ξ) (G:Hp) (σ:St) (H:Hp) (δ:DS) (S:ah) (r:Rs (List W)) (S':ah) (R':It->Hp->Prop),RS K cl ρ G H δ σ S->f δ S=some (r,S')->
  (∀ ds,r=.ok ds->∀ J ρ' G' H',GS ρ G H ρ' G' H'->SR K ρ' cl G' H' S'->Ln K ρ' J G' ds->R' J H')->
  (∀ c,r=.xc c->∀ ρ' G' H',GS ρ G H ρ' G' H'->SR K ρ' cl G' H' S'->E (.ref (cl c)) none H')->wi σ H R'
def Be {wi:TI} {f:θ} (h:∀ ρ,DI K ρ wi f):Lw K cl E wi (ab f):=λ ρ G σ H δ S r S' R' R e q qx=>by
 obtain ⟨ds,e1,rfl,rfl⟩:=gQ e
 exact h ρ G σ H δ ds R' R.rl e1 λ J G' H' g it=>q ds rfl J ρ G' H' (.of g) (R.st.grow g) it
noncomputable def ii (f:ζ):DS->ah->SM (List W):=λ δ S=>aq (f δ S) λ x S1=>iq (qM x) S1
def CN {t:TE} {f:ζ} (h:SE K cl E t f):Lw K cl E (xO K t) (ii f):=λ ρ G σ H δ S r S' R' R e q qx=>
 ci h R e (λ x S1 e1 v ρ1 G1 H1 g1 s1 dv=>by
  obtain ⟨ds,e2,rfl,rfl⟩:=bp e1
  cases dv with
  | lst sq da=>
   cases e2
   exact ⟨_,rfl,.inl ⟨⟨_,g1.s.seq sq⟩,q _ rfl _ ρ1 G1 H1 g1 s1 λ i G2 H2 a b=>nW b ((a.trans b).seq sq) (da.same a)⟩⟩
  | tup sq da=>
   cases e2
   exact ⟨_,rfl,.inr ⟨⟨_,g1.s.tup (eK.of sq)⟩,q _ rfl _ ρ1 G1 H1 g1 s1 λ i G2 H2 a b=>vz b ((a.trans b).tup (eK.of sq)) (da.same a)⟩⟩
  | _=>cases e2) qx
end
inductive rn where
 | nx (δ:DS)
 | bk (δ:DS)
 | ct (δ:DS)
 | rt (d:W)
 | xc (c:Str)
noncomputable abbrev SO:=Option (rn×ah)
abbrev τ:=DS->ah->SO
section
variable {K:Frag} {cl:Str->Addr} {E:XK}
structure iT (K:Frag) (cl:Str->Addr) (ρ0:Ξ) (G0 H0:Hp) (ρ:Ξ) (G H:Hp) (δ:DS) (σ:St) (S:ah):Prop where
 rs:RS K cl ρ G H δ σ S
 gs:GS ρ0 G0 H0 ρ G H
 ow:∀ (i:Nat) p ds,δ[i]?=some (.own ds)->σ[i]?=some (some (.ref p))->H0 p=none
noncomputable def zm (K:Frag) (cl:Str->Addr) (E:XK) (ρ0:Ξ) (G0 H0:Hp) (D:iI) (S:ah):rn->Prop
 | .nx δ=>∀ σ ρ G H,iT K cl ρ0 G0 H0 ρ G H δ σ S->D.nx σ H
 | .bk δ=>∀ σ ρ G H,iT K cl ρ0 G0 H0 ρ G H δ σ S->D.bk σ H
 | .ct δ=>∀ σ ρ G H,iT K cl ρ0 G0 H0 ρ G H δ σ S->D.ct σ H
 | .rt d=>∀ v ρ G H,GS ρ0 G0 H0 ρ G H->SR K ρ cl G H S->Dw K ρ G v d->D.rt v H
 | .xc c=>∀ ρ G H,GS ρ0 G0 H0 ρ G H->SR K ρ cl G H S->E (.ref (cl c)) none H
noncomputable def me (K:Frag) (cl:Str->Addr) (E:XK) (t:TS) (f:τ):Prop:=
 ∀ (ρ0:Ξ) (G0 H0:Hp) (ρ:Ξ) (G:Hp) (σ:St) (H:Hp) (δ:DS) (S:ah) (o:rn) (S':ah) (D:iI),iT K cl ρ0 G0 H0 ρ G H δ σ S->f δ S=some (o,S')->zm K cl E ρ0 G0 H0 D S' o->t D σ H
def iT.grow {ρ0:Ξ} {G0 H0:Hp} {ρ ρ':Ξ} {G H G' H':Hp} {δ:DS} {σ:St} {S S':ah} (I:iT K cl ρ0 G0 H0 ρ G H δ σ S) (g:GS ρ G H ρ' G' H') (s:SR K ρ' cl G' H' S'):iT K cl ρ0 G0 H0 ρ' G' H' δ σ S':=⟨I.rs.grow g s,I.gs.trans g,I.ow⟩
def iT.sub {ρ0:Ξ} {G0 H0:Hp} {ρ:Ξ} {G H:Hp} {δ δ':DS} {σ σ':St} {S:ah} (I:iT K cl ρ0 G0 H0 ρ G H δ σ S) (R:Rl K ρ G H δ' σ') (o:f9 δ' σ' δ σ):iT K cl ρ0 G0 H0 ρ G H δ' σ' S:=
 ⟨⟨R,I.rs.st,λ i ds p h1 h2=>by
  obtain ⟨es,h3,h4⟩:=o i ds p h1 h2
  exact I.rs.ap i es p h3 h4⟩,I.gs,λ i p ds h1 h2=>by
  obtain ⟨es,h3,h4⟩:=o i ds p h1 h2
  exact I.ow i p es h3 h4⟩
def iT.base {ρ0:Ξ} {G0 H0:Hp} {ρ:Ξ} {G H:Hp} {δ:DS} {σ:St} {S:ah} (I:iT K cl ρ0 G0 H0 ρ G H δ σ S):iT K cl ρ G H0 ρ G H δ σ S:=
 ⟨I.rs,⟨prefix_refl _,.refl _,I.gs.s,λ b o hb e=>I.gs.h b o (λ h=>hb (I.gs.r.subset h)) e,I.gs.k,λ _ _ e=>e,λ a h1 h2=>absurd h1 h2,I.gs.t⟩,I.ow⟩
def GS.rebase {ρ0:Ξ} {G0 H0:Hp} {ρ:Ξ} {G H:Hp} {ρ':Ξ} {G' H':Hp} (a:GS ρ0 G0 H0 ρ G H) (b:GS ρ G H0 ρ' G' H'):GS ρ0 G0 H0 ρ' G' H':=
 ⟨a.r.trans b.r,a.g.trans b.g,b.s,λ c o hc e=>b.h c o (λ h=>by rw [a.f c h hc] at e;cases e) e,b.k,λ c h1 h2=>b.n c h1 (a.n c h1 h2),(λ c h1 h2=>by
  by_cases h3:c∈ρ
  . exact a.f c h3 h2
  . exact b.f c h1 h3),b.t⟩
def iT.rebase {ρ0:Ξ} {G0 H0:Hp} {ρ:Ξ} {G H:Hp} {ρ':Ξ} {G' H':Hp} {δ:DS} {σ:St} {S:ah} (a:GS ρ0 G0 H0 ρ G H) (I:iT K cl ρ G H0 ρ' G' H' δ σ S):iT K cl ρ0 G0 H0 ρ' G' H' δ σ S:=⟨I.rs,a.rebase I.gs,I.ow⟩
noncomputable def sM (δ:DS) (σ:St) (b:Addr):Prop:=∃ (i:Nat) (ds:List W),δ[i]?=some (.own ds)/\σ[i]?=some (some (.ref b))
noncomputable def hideO (δ:DS) (σ:St) (H:Hp):Hp:=λ b=>@ite _ (sM δ σ b) (Classical.propDecidable _) none (H b)
def pB {δ:DS} {σ:St} {H:Hp} {b:Addr} (h:sM δ σ b):hideO δ σ H b=none:=by
 unfold hideO
 rw [if_pos h]
def cR {δ:DS} {σ:St} {H:Hp} {b:Addr} (h:¬ sM δ σ b):hideO δ σ H b=H b:=by
 unfold hideO
 rw [if_neg h]
noncomputable def B4:dt->rn
 | .nx δ=>.nx δ
 | .bk δ=>.bk δ
 | .ct δ=>.ct δ
 | .rt d=>.rt d
noncomputable def aE (f:υ):DS->ah->SO:=λ δ S=>(f δ).map λ o=>(B4 o,S)
def DZ {t:TS} {f:υ} (h:∀ ρ,oh K ρ t f):me K cl E t (aE f):=λ ρ0 G0 H0 ρ G σ H δ S o S' D I e p=>by
 obtain ⟨o',e1,e2⟩:=oM e
 cases e2
 have same0:bj (hideO δ σ H) H:=λ b u hb=>by
  by_cases ho:sM δ σ b
  . rw [pB ho] at hb;cases hb
  . rw [cR ho] at hb;exact hb
 have sameG:bj G (hideO δ σ H):=λ b u hb=>by
  by_cases ho:sM δ σ b
  . obtain ⟨i,ds,k1,k2⟩:=ho
    obtain ⟨o,m1,q,vs,rfl,m3,m4,m5⟩:=I.rs.rl.sl i _ k1
    rw [k2] at m1
    cases m1
    rw [m3] at hb
    cases hb
  . rw [cR ho];exact I.gs.s b u hb
 have notown:∀ a,a∈ρ->¬ sM δ σ a:=λ a ha hy0=>by obtain ⟨i,ds,k1,k2⟩:=hy0;exact I.rs.ap i ds a k1 k2 ha
 have ownlst:∀ b,sM δ σ b->∃ vs,H b=some (.lst vs):=λ b hy0=>by
  obtain ⟨i,ds,k1,k2⟩:=hy0
  obtain ⟨o,m1,q,vs,rfl,m3,m4,m5⟩:=I.rs.rl.sl i _ k1
  rw [k2] at m1
  cases m1
  exact ⟨vs,m4⟩
 have sr0:SR K ρ cl G (hideO δ σ H) S:=⟨I.rs.st.len,I.rs.st.nd,λ n ob en=>by
  obtain ⟨a,k1,k2,k3⟩:=I.rs.st.ob n ob en
  refine ⟨a,k1,k2,k3.move (prefix_refl _) (.refl _) (cR (notown a (mem_of_getElem? k1))) λ dx d1 d2=>⟨?_,d1⟩⟩
  rw [cR λ ho=>by
   obtain ⟨vs,hv⟩:=ownlst dx ho
   rw [d2] at hv
   cases hv]
  exact d2⟩
 have iv:Iv K ρ G (hideO δ σ H) G H δ σ:=⟨I.rs.rl,⟨.refl _,same0,I.gs.s,λ _ _ e=>e⟩,λ i q ds k1 k2=>pB ⟨i,ds,k1,k2⟩⟩
 have h0own:∀ b,H0 b≠none->¬ sM δ σ b:=λ b hb hy0=>by obtain ⟨i,ds,k1,k2⟩:=hy0;exact hb (I.ow i b ds k1 k2)
 have gs:∀ {G' H':Hp},Gr G (hideO δ σ H) G' H'->GS ρ0 G0 H0 ρ G' H':=λ {G' H'} g=>
  ⟨I.gs.r,I.gs.g.trans g.g,g.s,λ b u hb eb=>g.h b u (by rw [cR (h0own b (by rw [eb];simp))];exact I.gs.h b u hb eb),λ b hb=>qv g.h (by rw [cR (h0own b hb)];exact I.gs.k b hb),λ b h1 h2=>g.n b (by unfold nT;rw [cR (h0own b h1.1)];exact I.gs.t b h1) (I.gs.n b h1 h2),I.gs.f,λ b h1=>nT.same (by unfold nT;rw [cR (h0own b h1.1)];exact I.gs.t b h1) g.h⟩
 have nx:∀ {δ':DS} {σ':St} {G' H':Hp},Iv K ρ G (hideO δ σ H) G' H' δ' σ'->iT K cl ρ0 G0 H0 ρ G' H' δ' σ' S:=λ {δ' σ' G' H'} I'=>
  ⟨⟨I'.rl,sr0.grow I'.gr,λ i ds q k1 k2 hq=>by
   have:=I'.ow i q ds k1 k2
   rw [cR (notown q hq)] at this
   obtain ⟨j,hj,ej⟩:=List.mem_iff_getElem.mp hq
   obtain ⟨b,m1,m2,m3⟩:=I.rs.st.ob j (S[j]'(by rw [<-I.rs.st.len];exact hj)) (getElem?_eq_getElem _)
   rw [getElem?_eq_getElem hj,ej] at m1
   cases m1
   obtain ⟨y,hy,_⟩:=m3.some
   rw [this] at hy
   cases hy⟩,gs I'.gr,λ i q ds k1 k2=>by
   have h1:=I'.ow i q ds k1 k2
   cases h2:H0 q with
   | none=>rfl
   | some u=>
    exfalso
    have h3:=I.gs.k q (by rw [h2];simp)
    rw [cR (h0own q (by rw [h2];simp))] at h1
    exact h3 h1⟩
 refine h ρ G (hideO δ σ H) G σ H δ o' D iv e1 ?_
 cases o' with
 | nx δ'=>exact λ σ' G' H' I'=>p σ' ρ G' H' (nx I')
 | bk δ'=>exact λ σ' G' H' I'=>p σ' ρ G' H' (nx I')
 | ct δ'=>exact λ σ' G' H' I'=>p σ' ρ G' H' (nx I')
 | rt d=>exact λ v G' H' g dv=>p v ρ G' H' (gs g) (sr0.grow g) dv
noncomputable def aF (f g:τ):DS->ah->SO:=λ δ S=>match f δ S with
 | some (.nx δ',S')=>g δ' S'
 | o=>o
def Ap {t u:TS} {f g:τ} (h1:me K cl E t f) (h2:me K cl E u g):me K cl E (FX t u) (aF f g):=λ ρ0 G0 H0 ρ G σ H δ S o S' D I e p=>by
 unfold aF at e
 cases ef:f δ S with
 | none=>rw [ef] at e;cases e
 | some r=>
  obtain ⟨o1,S1⟩:=r
  rw [ef] at e
  refine h1 ρ0 G0 H0 ρ G σ H δ S o1 S1 _ I ef ?_
  cases o1 with
  | nx δ'=>exact λ σ' ρ' G' H' I'=>h2 ρ0 G0 H0 ρ' G' σ' H' δ' S1 o S' D I' e p
  | bk δ'=>cases e;exact p
  | ct δ'=>cases e;exact p
  | rt d=>cases e;exact p
  | xc c=>cases e;exact p
noncomputable def iV {α:Type} (m:SM α) (k:α->ah->SO):SO:=match m with
 | some (.ok a,S)=>k a S
 | some (.xc c,S)=>some (.xc c,S)
 | none=>none
def kr {α:Type} {m:SM α} {k:α->ah->SO} {o:rn} {S':ah} (h:iV m k=some (o,S')):(∃ c,m=some (.xc c,S')/\o=.xc c)∨∃ a S1,m=some (.ok a,S1)/\k a S1=some (o,S'):=by
 unfold iV at h
 split at h
 . exact .inr ⟨_,_,rfl,h⟩
 . cases h
   exact .inl ⟨_,rfl,rfl⟩
 . cases h
def eg {t:TE} {f:ζ} (h:SE K cl E t f) {ρ0:Ξ} {G0 H0:Hp} {ρ:Ξ} {G:Hp} {σ:St} {H:Hp} {δ:DS} {S:ah} {o:rn} {S':ah} {D:iI} {k:W->ah->SO} {P:V->Hp->Prop} (I:iT K cl ρ0 G0 H0 ρ G H δ σ S) (e:iV (f δ S) k=some (o,S')) (p:zm K cl E ρ0 G0 H0 D S' o)
 (q:∀ d S1,k d S1=some (o,S')->∀ v ρ' G' H',GS ρ G H ρ' G' H'->SR K ρ' cl G' H' S1->Dw K ρ' G' v d->P v H'):t σ H P:=by
 rcases kr e with ⟨c,em,rfl⟩ | ⟨d,S1,em,e⟩
 . exact h ρ G σ H δ S _ _ _ I.rs em (λ d hd=>by cases hd) (λ c' hc ρ1 G1 H1 g1 s1=>by cases hc;exact p ρ1 G1 H1 (I.gs.trans g1) s1)
 . exact h ρ G σ H δ S _ _ _ I.rs em (λ d' hd=>by cases hd;exact q _ _ e) (λ c' hc=>by cases hc)
def xq {t:TT} {f:DS->ah->SM Bool} (h:ST K cl E t f) {ρ0:Ξ} {G0 H0:Hp} {ρ:Ξ} {G:Hp} {σ:St} {H:Hp} {δ:DS} {S:ah} {o:rn} {S':ah} {D:iI} {k:Bool->ah->SO} {P:Bool->Hp->Prop} (I:iT K cl ρ0 G0 H0 ρ G H δ σ S) (e:iV (f δ S) k=some (o,S')) (p:zm K cl E ρ0 G0 H0 D S' o)
 (q:∀ d S1,k d S1=some (o,S')->∀ ρ' G' H',GS ρ G H ρ' G' H'->SR K ρ' cl G' H' S1->P d H'):t σ H P:=by
 rcases kr e with ⟨c,em,rfl⟩ | ⟨d,S1,em,e⟩
 . exact h ρ G σ H δ S _ _ _ I.rs em (λ d hd=>by cases hd) (λ c' hc ρ1 G1 H1 g1 s1=>by cases hc;exact p ρ1 G1 H1 (I.gs.trans g1) s1)
 . exact h ρ G σ H δ S _ _ _ I.rs em (λ d' hd=>by cases hd;exact q _ _ e) (λ c' hc=>by cases hc)
noncomputable def dq (c:DS->ah->SM Bool) (f g:τ):DS->ah->SO:=λ δ S=>iV (c δ S) λ b S1=>if b=true then f δ S1 else g δ S1
def EM {tc:TT} {t u:TS} {c:DS->ah->SM Bool} {f g:τ} (hc:ST K cl E tc c) (h1:me K cl E t f) (h2:me K cl E u g):me K cl E (Hn tc t u) (dq c f g):=λ ρ0 G0 H0 ρ G σ H δ S o S' D I e p=>
 xq hc I e p λ b S1 e1 ρ1 G1 H1 g1 s1=>by
  cases b with
  | true=>exact h1 ρ0 G0 H0 ρ1 G1 σ H1 δ S1 o S' D (I.grow g1 s1) e1 p
  | false=>exact h2 ρ0 G0 H0 ρ1 G1 σ H1 δ S1 o S' D (I.grow g1 s1) e1 p
noncomputable def fU (f:ζ):DS->ah->SO:=λ δ S=>iV (f δ S) λ d S1=>some (.rt d,S1)
def BF {t:TE} {f:ζ} (h:SE K cl E t f):me K cl E (Hy t) (fU f):=λ ρ0 G0 H0 ρ G σ H δ S o S' D I e p=>
 eg h I e p λ d S1 e1 v ρ1 G1 H1 g1 s1 dv=>by
  cases e1
  exact p v ρ1 G1 H1 (I.gs.trans g1) s1 dv
noncomputable def cz (f:ζ) (h:η):DS->ah->SO:=λ δ S=>iV (f δ S) λ d S1=>(h d δ).map λ δ'=>(.nx δ',S1)
def zU {t:TE} {g:TG} {f:ζ} {h:η} (h1:SE K cl E t f) (h2:∀ ρ,DG K ρ g h):me K cl E (oT t g) (cz f h):=λ ρ0 G0 H0 ρ G σ H δ S o S' D I e p=>
 eg h1 I e p λ d S1 e1 v ρ1 G1 H1 g1 s1 dv=>by
  obtain ⟨δ',e2,e3⟩:=oM e1
  cases e3
  have I1:=I.grow g1 s1
  exact h2 ρ1 G1 H1 δ σ v d δ' _ I1.rs.rl dv e2 λ σ' R o=>p σ' ρ1 G1 H1 (I1.sub R o)
noncomputable def bw (f:ζ):DS->ah->SO:=λ δ S=>iV (f δ S) λ _ S1=>some (.nx δ,S1)
def xl {t:TE} {f:ζ} (h:SE K cl E t f):me K cl E (tU t) (bw f):=λ ρ0 G0 H0 ρ G σ H δ S o S' D I e p=>
 eg h I e p λ d S1 e1 v ρ1 G1 H1 g1 s1 dv=>by
  cases e1
  exact p σ ρ1 G1 H1 (I.grow g1 s1)
noncomputable def JL (i:Nat) (f:τ):DS->ah->SO:=λ δ S=>f (frz i δ) S
noncomputable def xf (c f:Str) (fo fv:ζ):DS->ah->SO:=λ δ S=>iV (fv δ S) λ d S1=>iV (fo δ S1) λ x S2=>(ie c x S2).bind λ p=>if p.2.length<1000 then some (.nx δ,S2.set p.1 (.ins c (xH f d p.2))) else none
def yZ {c f:Str} {to tv:TE} {fo fv:ζ} (hc:rT K (cl c)) (hn:dh K (cl c) f) (ho:SE K cl E to fo) (hv:SE K cl E tv fv):me K cl E (KD K to tv f) (xf c f fo fv):=λ ρ0 G0 H0 ρ G σ H δ S o S' D I e p=>
 eg hv I e p λ d S1 e1 v ρ1 G1 H1 g1 s1 dv=>by
  have I1:=I.grow g1 s1
  refine eg ho I1 e1 p λ x S2 e2 u ρ2 G2 H2 g2 s2 du=>?_
  obtain ⟨⟨n,fs⟩,e3,e4⟩:=oB e2
  split at e4
  case isFalse=>cases e4
  rename_i hl
  cases e4
  obtain ⟨rfl,e5⟩:=jw e3
  obtain ⟨a,rfl,ea⟩:=cg du
  obtain ⟨ga,dx,ws,k1,k2,k3,k4⟩:=s2.addr e5 ea
  have I2:=I1.grow g2 s2
  have hda:dx≠a:=λ z=>by rw [z,k1] at k3;cases k3
  obtain ⟨s3,g3⟩:=s2.put (x:=.ins (cl c) dx (putF f v ws)) (o':=.ins c (xH f d fs)) g2.s e5 ea (λ b z=>by cases z) ⟨dx,_,aJ,k2,by rw [aH hda];exact k3,k4.putF ((dv.ext g2.r).same g2.g)⟩
  exact ⟨a,_,dx,ws,rfl,k1,hc,hn,by rw [<-k4.length];exact hl,p σ ρ2 G2 _ (I2.grow g3 s3)⟩
noncomputable def bx (h:η) (fb:τ):List W->DS->ah->SO
 | [],δ,S=>some (.nx δ,S)
 | d::ds,δ,S=>(h d δ).bind λ δ2=>match fb δ2 S with
  | some (.nx δ',S')=>bx h fb ds δ' S'
  | some (.ct δ',S')=>bx h fb ds δ' S'
  | some (.bk δ',S')=>some (.nx δ',S')
  | some (.rt d,S')=>some (.rt d,S')
  | some (.xc c,S')=>some (.xc c,S')
  | none=>none
noncomputable def fG (fi:Υ) (h:η) (fb:τ):DS->ah->SO:=λ δ S=>iV (fi δ S) λ ds S1=>bx h fb ds δ S1
def zK {wi:TI} {g:TG} {tb:TS} {fi:Υ} {h:η} {fb:τ} (hi:Lw K cl E wi fi) (hg:∀ ρ,DG K ρ g h) (hb:me K cl E tb fb):me K cl E (C5 wi g tb) (fG fi h fb):=λ ρ0 G0 H0 ρ G σ H δ S o S' D I e p=>by
 rcases kr e with ⟨c,em,rfl⟩ | ⟨ds,S1,em,e⟩
 . exact hi ρ G σ H δ S _ _ _ I.rs em (λ d hd=>by cases hd) (λ c' hc ρ1 G1 H1 g1 s1=>by cases hc;exact p ρ1 G1 H1 (I.gs.trans g1) s1)
 refine hi ρ G σ H δ S _ _ _ I.rs em (λ ds' hd=>?_) (λ c' hc=>by cases hc)
 cases hd
 intro J ρ1 G1 H1 g1 s1 it
 refine ⟨λ i m σ H=>m=ds.length-i/\i<=ds.length/\∃ ρ2 G2 δ2 S2,iT K cl ρ0 G0 H0 ρ2 G2 H δ2 σ S2/\ρ1 <+: ρ2/\bj G1 G2/\bx h fb (ds.drop i) δ2 S2=some (o,S'),⟨ds.length,by simp,zero_le _,ρ1,G1,δ,S1,I.grow g1 s1,prefix_refl _,.refl _,by simpa using e⟩,?_⟩
 rintro i m σ2 H2 ⟨rfl,hil,ρ2,G2,δ2,S2,I2,pr2,s2,e2⟩
 have ia:=it i G2 H2 s2 I2.gs.s
 by_cases hlt:i<ds.length
 . refine .inr ?_
   obtain ⟨go,step⟩:=ia.1 ds[i] (getElem?_eq_getElem hlt)
   rw [drop_eq_getElem_cons hlt] at e2
   obtain ⟨δ3,e3,e4⟩:=oB e2
   have turn:∀ (P:iI) (o1:rn) (S3:ah),fb δ3 S2=some (o1,S3)->(∀ G3 H3,Gr G2 H2 G3 H3->zm K cl E ρ2 G3 H0 P S3 o1)->∀ x H',J.yld i H2 x H'->g x σ2 H' λ σ2 H2=>tb P σ2 H2:=λ P o1 S3 ef hp x H' y=>by
    obtain ⟨G3,g3,dx⟩:=step x H' y
    have I3:=I2.grow (.of g3) (I2.rs.st.grow g3)
    refine hg ρ2 G3 H' δ2 σ2 x _ δ3 _ I3.rs.rl (dx.ext pr2) e3 λ σ3 R3 o3=>?_
    exact hb ρ2 G3 H0 ρ2 G3 σ3 H' δ3 S2 o1 S3 P (I3.sub R3 o3).base ef (hp G3 H' g3)
   have back:∀ {G3 H3:Hp},Gr G2 H2 G3 H3->∀ {ρ4:Ξ} {G4 H4:Hp} {σ4:St} {δ4:DS} {S4:ah},iT K cl ρ2 G3 H0 ρ4 G4 H4 δ4 σ4 S4->iT K cl ρ0 G0 H0 ρ4 G4 H4 δ4 σ4 S4/\ρ1 <+: ρ4/\bj G1 G4:=λ {G3 H3} g3 {ρ4 G4 H4 σ4 δ4 S4} I4=>⟨I4.rebase (I2.gs.trans (.of g3)),pr2.trans I4.gs.r,s2.trans (g3.g.trans I4.gs.g)⟩
   cases ef:fb δ3 S2 with
   | none=>rw [ef] at e4;cases e4
   | some r=>
    obtain ⟨o1,S3⟩:=r
    rw [ef] at e4
    cases o1 with
    | nx δ'=>
     exact ⟨go,λ σ' H'=>∃ ρ' G',iT K cl ρ0 G0 H0 ρ' G' H' δ' σ' S3/\ρ1 <+: ρ'/\bj G1 G',λ σ' H' hy0=>by obtain ⟨ρ',G',I',q1,q2⟩:=hy0;exact ⟨ds.length-(i+1),by omega,rfl,hlt,ρ',G',δ',S3,I',q1,q2,e4⟩,turn _ _ _ ef λ G3 H3 g3 σ5 ρ5 G5 H5 I5=>⟨ρ5,G5,back g3 I5⟩⟩
    | ct δ'=>
     exact ⟨go,λ σ' H'=>∃ ρ' G',iT K cl ρ0 G0 H0 ρ' G' H' δ' σ' S3/\ρ1 <+: ρ'/\bj G1 G',λ σ' H' hy0=>by obtain ⟨ρ',G',I',q1,q2⟩:=hy0;exact ⟨ds.length-(i+1),by omega,rfl,hlt,ρ',G',δ',S3,I',q1,q2,e4⟩,turn _ _ _ ef λ G3 H3 g3 σ5 ρ5 G5 H5 I5=>⟨ρ5,G5,back g3 I5⟩⟩
    | bk δ'=>
     cases e4
     exact ⟨go,λ _ _=>False,λ _ _ z=>z.elim,turn _ _ _ ef λ G3 H3 g3 σ5 ρ5 G5 H5 I5=>p σ5 ρ5 G5 H5 (back g3 I5).1⟩
    | rt d=>
     cases e4
     exact ⟨go,λ _ _=>False,λ _ _ z=>z.elim,turn _ _ _ ef λ G3 H3 g3 v ρ5 G5 H5 g5 s5 dv=>p v ρ5 G5 H5 ((I2.gs.trans (.of g3)).rebase g5) s5 dv⟩
    | xc c=>
     cases e4
     exact ⟨go,λ _ _=>False,λ _ _ z=>z.elim,turn _ _ _ ef λ G3 H3 g3 ρ5 G5 H5 g5 s5=>p ρ5 G5 H5 ((I2.gs.trans (.of g3)).rebase g5) s5⟩
 . have hi':i=ds.length:=by omega
   subst hi'
   rw [drop_length] at e2
   cases e2
   exact .inl ⟨ia.2 (le_refl _),p σ2 ρ2 G2 H2 I2⟩
noncomputable def cY (c:DS->ah->SM Bool) (fb:τ):Nat->DS->ah->SO
 | 0,_,_=>none
 | n+1,δ,S=>iV (c δ S) λ b S1=>if b=true then match fb δ S1 with
  | some (.nx δ',S')=>cY c fb n δ' S'
  | some (.ct δ',S')=>cY c fb n δ' S'
  | some (.bk δ',S')=>some (.nx δ',S')
  | some (.rt d,S')=>some (.rt d,S')
  | some (.xc x,S')=>some (.xc x,S')
  | none=>none
  else some (.nx δ,S1)
def tI {n:Nat} {tc:TT} {tb:TS} {c:DS->ah->SM Bool} {fb:τ} (hc:ST K cl E tc c) (hb:me K cl E tb fb):me K cl E (zt tc tb) (cY c fb n):=λ ρ0 G0 H0 ρ G σ H δ S o S' D I e p=>by
 refine ⟨λ m σ H=>∃ ρ G δ S,iT K cl ρ0 G0 H0 ρ G H δ σ S/\cY c fb m δ S=some (o,S'),⟨n,ρ,G,δ,S,I,e⟩,?_⟩
 rintro m σ2 H2 ⟨ρ2,G2,δ2,S2,I2,e2⟩
 cases m with
 | zero=>cases e2
 | succ m=>
  refine xq hc I2 e2 p λ b S3 e3 ρ3 G3 H3 g3 s3=>?_
  have I3:=I2.grow g3 s3
  cases b with
  | false=>cases e3;exact p σ2 ρ3 G3 H3 I3
  | true=>
   rw [if_pos rfl] at e3 ⊢
   cases ef:fb δ2 S3 with
   | none=>rw [ef] at e3;cases e3
   | some r=>
    obtain ⟨o1,S4⟩:=r
    rw [ef] at e3
    cases o1 with
    | nx δ'=>exact ⟨λ σ' H'=>∃ ρ' G',iT K cl ρ0 G0 H0 ρ' G' H' δ' σ' S4,λ σ' H' hy0=>by obtain ⟨ρ',G',I'⟩:=hy0;exact ⟨m,lt_succ_self _,ρ',G',δ',S4,I',e3⟩,hb ρ0 G0 H0 ρ3 G3 σ2 H3 δ2 S3 _ _ _ I3 ef λ σ5 ρ5 G5 H5 I5=>⟨ρ5,G5,I5⟩⟩
    | ct δ'=>exact ⟨λ σ' H'=>∃ ρ' G',iT K cl ρ0 G0 H0 ρ' G' H' δ' σ' S4,λ σ' H' hy0=>by obtain ⟨ρ',G',I'⟩:=hy0;exact ⟨m,lt_succ_self _,ρ',G',δ',S4,I',e3⟩,hb ρ0 G0 H0 ρ3 G3 σ2 H3 δ2 S3 _ _ _ I3 ef λ σ5 ρ5 G5 H5 I5=>⟨ρ5,G5,I5⟩⟩
    | bk δ'=>cases e3;exact ⟨λ _ _=>False,λ _ _ z=>z.elim,hb ρ0 G0 H0 ρ3 G3 σ2 H3 δ2 S3 _ _ _ I3 ef λ σ5 ρ5 G5 H5 I5=>p σ5 ρ5 G5 H5 I5⟩
    | rt d=>cases e3;exact ⟨λ _ _=>False,λ _ _ z=>z.elim,hb ρ0 G0 H0 ρ3 G3 σ2 H3 δ2 S3 _ _ _ I3 ef p⟩
    | xc x=>cases e3;exact ⟨λ _ _=>False,λ _ _ z=>z.elim,hb ρ0 G0 H0 ρ3 G3 σ2 H3 δ2 S3 _ _ _ I3 ef p⟩
noncomputable def fw:SO->SM W
 | some (.rt d,S)=>some (.ok d,S)
 | some (.nx _,S)=>some (.ok .none,S)
 | some (.xc c,S)=>some (.xc c,S)
 | _=>none
noncomputable def cT (a n:Nat) (fb:τ):List W->ah->SM W:=λ ds S=>if ds.length=a then fw (fb (bL n ds) S) else none
def pG {a n:Nat} {fb:τ} {ds:List W} {S:ah} {r:Rs W×ah} (h:cT a n fb ds S=some r):ds.length=a:=by
 unfold cT at h
 split at h
 . assumption
 . cases h
def M7 {t:TS} {fb:τ} {N:Ω} {a n:Nat} {vs:List V} {H:Hp} {Q:VK} {E:XK} (hn:N.length=n) (h:me K cl E t fb) (hsp:OD K cl (cT a n fb) vs H Q E):t { nx:=λ _ H'=>Q .non H',rt:=Q } (start N vs) H:=by
 subst hn
 obtain ⟨ρ,G,S,ds,r,S',s,sr,da,e,q,qx⟩:=hsp
 have R:=sY (N:=N) s da
 have I:iT K cl ρ G H ρ G H (bL N.length ds) (start N vs) S:=⟨⟨R,sr,λ i ds' p h1=>absurd h1 gR⟩,.refl s,λ i p ds' h1=>absurd h1 gR⟩
 unfold cT at e
 rw [if_pos (pG (show cT a N.length fb ds S=some (r,S') from e))] at e
 cases ef:fb (bL N.length ds) S with
 | none=>rw [ef] at e;cases e
 | some o=>
  obtain ⟨o,S1⟩:=o
  rw [ef] at e
  refine h ρ G H ρ G _ H _ S o S1 _ I ef ?_
  cases o with
  | nx δ=>cases e;exact λ σ' ρ' G' H' I'=>q _ rfl _ ρ' G' H' I'.gs I'.rs.st .non
  | rt d'=>cases e;exact λ v ρ' G' H' g s dv=>q _ rfl v ρ' G' H' g s dv
  | xc c=>cases e;exact λ ρ' G' H' g s=>qx _ rfl ρ' G' H' g s
  | bk _=>cases e
  | ct _=>cases e
def CH {f:List W->ah->SM W} {a:Nat} {vs:List V} {H:Hp} {Q:VK} {E:XK} (hf:∀ ds S r,f ds S=some r->ds.length=a) (h:o6 K cl f vs H Q E):vs.length=a:=by
 obtain ⟨ρ,G,S,ds,r,S',s,sr,da,e,q⟩:=h
 rw [da.length]
 exact hf ds S _ e
def KL {t:TS} {fb:τ} {N:Ω} {a n:Nat} {vs:List V} {H:Hp} {Q:VK} {E:XK} (hn:N.length=n) (h:me K cl E0 t fb) (hsp:o6 K cl (cT a n fb) vs H Q E):t { nx:=λ _ H'=>Q .non H',rt:=Q } (start N vs) H:=by
 obtain ⟨ρ,G,S,ds,d,S',s,sr,da,e,q⟩:=hsp
 exact M7 (E:=E0) hn h ⟨ρ,G,S,ds,.ok d,S',s,sr,da,e,(λ d' hd=>by cases hd;exact q),(λ c hc=>by cases hc)⟩
end
section
variable {X:Cx} {pins:Δ} {σ:St} {H:Hp} {s:Shared} {a:Addr} {kvs:List (aA×V)} {k:aA} {u:Value} {A:Around} {E:Γ}
end
section
variable {X:Cx} {o e f:Expr} {td ty tx:TE} {apos cpos:Pos}
end
section
variable {prog:Program} {w:World} {A:Around} {E:Γ} {s:Shared}
end
section
variable {X:Cx} {pos:Pos}
end
section
variable {K:Frag} {ρ:Ξ}
noncomputable def Mg:W->Option V
 | .none=>some .non
 | .bool b=>some (.bl b)
 | .int i=>some (.int i)
 | .str x=>some (.str x)
 | _=>none
noncomputable def yc:List W->Option (List V)
 | []=>some []
 | d::ds=>(Mg d).bind λ v=>(yc ds).map (v::·)
def uO {H:Hp} {v u:V} {d:W} (h:Dw K ρ H v d) (e:Mg d=some u):v=u/\fH u=true:=by
 cases h <;> first | (cases e;exact ⟨rfl,rfl⟩) | cases e
def qk {H:Hp} {vs us:List V} {ds:List W} (h:ay K ρ H vs ds):yc ds=some us->vs=us/\us.all fH=true:=
 h.ind (M:=λ vs ds=>∀ us,yc ds=some us->vs=us/\us.all fH=true) (λ us e=>by cases e;exact ⟨rfl,rfl⟩) (λ _ _ _ _ a ih us e=>by
  obtain ⟨u,e1,e⟩:=oB e
  obtain ⟨us,e2,rfl⟩:=oM e
  obtain ⟨h1,h2⟩:=uO a e1
  obtain ⟨h3,h4⟩:=ih _ e2
  exact ⟨by rw [h1,h3],by rw [all_cons,h2,h4];rfl⟩) us
noncomputable def kF (d e:W):Option Bool:=(qM e).bind λ ds=>(Mg d).bind λ v=>(yc ds).map λ vs=>Hb v vs
noncomputable def i9 (d e:W):Option Bool:=(kF d e).map (!·)
def Ay {H:Hp} {x y:V} {d e:W} {b:Bool} (hx:Dw K ρ H x d) (hy:Dw K ρ H y e) (h:kF d e=some b):∃ p xs,y=.ref p/\(cD K H p xs∨eK K H p xs)/\fH x=true/\xs.all fH=true/\Hb x xs=b:=by
 obtain ⟨ds,e1,h⟩:=oB h
 obtain ⟨v,e2,h⟩:=oB h
 obtain ⟨vs,e3,rfl⟩:=oM h
 obtain ⟨rfl,f1⟩:=uO hx e2
 cases hy with
 | lst sq da=>
  cases e1
  obtain ⟨rfl,f2⟩:=qk da e3
  exact ⟨_,_,rfl,.inl sq,f1,f2,rfl⟩
 | tup sq da=>
  cases e1
  obtain ⟨rfl,f2⟩:=qk da e3
  exact ⟨_,_,rfl,.inr (eK.of sq),f1,f2,rfl⟩
 | _=>cases e1
def EB:DB K ρ (Fi K false) kF:=λ H x y d e b Q hx hy hg q=>by
 obtain ⟨p,xs,h1,h2,h3,h4,rfl⟩:=Ay hx hy hg
 exact ⟨p,xs,h1,h2,h3,h4,q⟩
noncomputable def yv:List W->Option (List Bool)
 | []=>some []
 | d::ds=>(Am d).bind λ b=>(yv ds).map (b::·)
def Ch {G:Hp} {vs:List V} {ds:List W} {bs:List Bool} (h:ay K ρ G vs ds):yv ds=some bs->vs=bs.map V.bl:=
 h.ind (M:=λ vs ds=>∀ bs,yv ds=some bs->vs=bs.map V.bl) (λ bs e=>by cases e;rfl) (λ _ _ _ _ a ih bs e=>by
  obtain ⟨i,e1,e⟩:=oB e
  obtain ⟨ms,e2,rfl⟩:=oM e
  cases mZ e1
  cases Aq a
  rw [ih _ e2]
  rfl) bs
noncomputable def FI (d:W):Option W:=(fR d).bind λ ds=>(yv ds).map λ bs=>.bool (bs.any id)
def He:KB K ρ (FU K) FI:=λ G H x d c Q s hx hg q=>by
 obtain ⟨ds,e1,hg⟩:=oB hg
 obtain ⟨bs,e2,rfl⟩:=oM hg
 cases eM e1
 obtain ⟨p,vs,rfl,sq,da⟩:=lw s hx
 rw [Ch da e2] at sq
 exact ⟨p,bs,rfl,sq,q _ G H (.refl s) (.bl _)⟩
end
section
variable {K:Frag} {cl:Str->Addr} {E:XK}
noncomputable def fj (x:W) (S:ah):Option (Nat×List W):=match df x S with
 | some (n,.lst ds)=>some (n,ds)
 | _=>none
def cy {x:W} {S:ah} {n:Nat} {ds:List W} (h:fj x S=some (n,ds)):x=.ref n/\S[n]?=some (.lst ds):=by
 unfold fj at h
 cases e:df x S with
 | none=>rw [e] at h;cases h
 | some p=>
  obtain ⟨m,o⟩:=p
  rw [e] at h
  cases o with
  | lst ds=>cases h;exact cP e
  | _=>cases h
noncomputable def OU (x:W) (S:ah):Option (List W):=match fj x S with
 | some (_,ds)=>some ds
 | none=>qM x
noncomputable def zM (x y:W) (S:ah):Option W:=match fj x S with
 | some (_,ds)=>(Je y).bind λ i=>fu ds i
 | none=>aT x y
noncomputable def sIx (fa fb:ζ):DS->ah->SM W:=λ δ S=>aq (fa δ S) λ x S1=>aq (fb δ S1) λ y S2=>iq (zM x y S2) S2
def JW {ta tb:TE} {fa fb:ζ} (ha:SE K cl E ta fa) (hb:SE K cl E tb fb):SE K cl E (tT (LD K) ta tb) (sIx fa fb):=λ ρ G σ H δ S r' S' Q R e q qx=>
 fK ha hb R e (λ x y S2 e2 v u ρ2 G2 H2 g2 s2 dv du=>by
  obtain ⟨c,e3,rfl,rfl⟩:=bp e2
  unfold zM at e3
  split at e3
  . rename_i n ds e4
    obtain ⟨i,e5,e6⟩:=oB e3
    cases rF e5
    cases d8 du
    obtain ⟨rfl,e7⟩:=cy e4
    obtain ⟨a,rfl,ea⟩:=cg dv
    obtain ⟨ga,vs,k1,k2⟩:=s2.addr e7 ea
    obtain ⟨w,h1,h2⟩:=k2.at e6
    exact .inl ⟨a,vs,_,w,rfl,rfl,cD.of k1,h1,q c rfl w ρ2 G2 H2 g2 s2 h2⟩
  . exact xE G2 H2 v u x y c Q g2.s (.inl dv) du e3 λ w G3 H3 g3 dw=>q c rfl w ρ2 G3 H3 (g2.trans (.of g3)) (s2.grow g3) dw) qx
noncomputable def sD (x:W) (S:ah):Option W:=match fj x S with
 | some (_,ds)=>some (.int ds.length)
 | none=>ky x
noncomputable def Ea (fa:ζ):DS->ah->SM W:=λ δ S=>aq (fa δ S) λ x S1=>iq (sD x S1) S1
def HI {ta:TE} {fa:ζ} (ha:SE K cl E ta fa):SE K cl E (yH (wM K) (fX ta j4)) (Ea fa):=λ ρ G σ H δ S r' S' Q R e q qx=>
 ci ha R e (λ x S2 e2 v ρ2 G2 H2 g2 s2 dv=>by
  obtain ⟨c,e3,rfl,rfl⟩:=bp e2
  unfold sD at e3
  split at e3
  . rename_i n ds e4
    cases e3
    obtain ⟨rfl,e7⟩:=cy e4
    obtain ⟨a,rfl,ea⟩:=cg dv
    obtain ⟨ga,vs,k1,k2⟩:=s2.addr e7 ea
    exact .inl ⟨a,vs,rfl,.inl (cD.of k1),by rw [k2.length];exact q _ rfl _ ρ2 G2 H2 g2 s2 (.int _)⟩
  . exact Bj G2 H2 v x c Q g2.s (.inl dv) e3 λ w G3 H3 g3 dw=>q c rfl w ρ2 G3 H3 (g2.trans (.of g3)) (s2.grow g3) dw) qx
noncomputable def LG (g:W->Option W) (fa:ζ):DS->ah->SM W:=λ δ S=>aq (fa δ S) λ x S1=>iq (g x) S1
def Lf {r:List V->Hp->VK->Prop} {g:W->Option W} {ta:TE} {fa:ζ} (hr:∀ ρ,KB K ρ r g) (ha:SE K cl E ta fa):SE K cl E (yH r (fX ta j4)) (LG g fa):=λ ρ G σ H δ S r' S' Q R e q qx=>
 ci ha R e (λ x S2 e2 v ρ2 G2 H2 g2 s2 dv=>by
  obtain ⟨c,e3,rfl,rfl⟩:=bp e2
  exact hr ρ2 G2 H2 v x c Q g2.s (.inl dv) e3 λ w G3 H3 g3 dw=>q c rfl w ρ2 G3 H3 (g2.trans (.of g3)) (s2.grow g3) dw) qx
noncomputable def wN (T:String) (x:W) (S:ah):Option W:=match fj x S with
 | some _=>if T = "list" then some (.bool true) else none
 | none=>match x with
  | .list _=>if T = "list" then some (.bool true) else none
  | .tuple _=>if T = "tuple" then some (.bool true) else none
  | _=>BA T x
noncomputable def N0 (T:String) (fa:ζ):DS->ah->SM W:=λ δ S=>aq (fa δ S) λ x S1=>iq (wN T x S1) S1
def tm (c:Value) (h:(c==c)=true):PySem.W.kitOne K c c=some true:=by
 unfold PySem.W.kitOne
 rw [if_pos h]
noncomputable def cK (fo fv:ζ):DS->ah->SO:=λ δ S=>iV (fo δ S) λ x S1=>if (fj x S1).isSome=true then iV (fv δ S1) λ d S2=>(fj x S2).bind λ p=>if p.2.length<sizeLine then some (.nx δ,S2.set p.1 (.lst (p.2++[d]))) else none else none
def iH {ρ ρ':Ξ} {n:Nat} {a:Addr} (h:ρ <+: ρ') (e:ρ[n]?=some a):ρ'[n]?=some a:=by
 obtain ⟨t,rfl⟩:=h
 rw [getElem?_append_left (oG e).1]
 exact e
def pA {to tv:TE} {fo fv:ζ} (ho:SE K cl E to fo) (hv:SE K cl E tv fv):me K cl E (tU (IU K "list" mq to (fX tv j4))) (cK fo fv):=λ ρ0 G0 H0 ρ G σ H δ S o S' D I e p=>
 eg ho I e p λ x S1 e1 u ρ1 G1 H1 g1 s1 du=>by
  split at e1
  case isFalse=>cases e1
  rename_i hx
  obtain ⟨⟨n,ds0⟩,hx0⟩:=isSome_iff_exists.mp hx
  obtain ⟨rfl,h0⟩:=cy hx0
  obtain ⟨a,rfl,ea⟩:=cg du
  obtain ⟨_,vs0,k0,_⟩:=s1.addr h0 ea
  have I1:=I.grow g1 s1
  refine ⟨.inl ⟨rfl,vs0,cD.of k0⟩,eg hv I1 e1 p λ d S2 e2 v ρ2 G2 H2 g2 s2 dv=>?_⟩
  obtain ⟨⟨m,ds⟩,e3,e4⟩:=oB e2
  split at e4
  case isFalse=>cases e4
  rename_i hl
  cases e4
  obtain ⟨em,e5⟩:=cy e3
  cases em
  have ea2:=iH g2.r ea
  obtain ⟨ga,vs,k1,k2⟩:=s2.addr e5 ea2
  obtain ⟨s3,g3⟩:=s2.put (x:=.lst (vs++[v])) (o':=.lst (ds++[d])) g2.s e5 ea2 (λ b z=>by cases z) ⟨_,aJ,k2.app (.cons dv .nil)⟩
  exact ⟨a,vs,v,rfl,rfl,k1,by rw [k2.length];exact hl,p σ ρ2 G2 _ ((I1.grow g2 s2).grow g3 s3)⟩
noncomputable def rR (fo fi fv:ζ):DS->ah->SO:=λ δ S=>iV (fv δ S) λ d S1=>iV (fo δ S1) λ x S2=>iV (fi δ S2) λ y S3=>(fj x S3).bind λ p=>(Je y).bind λ k=>(ug p.2.length k).map λ j=>(.nx δ,S3.set p.1 (.lst (p.2.set j d)))
def wb {to ti tv:TE} {fo fi fv:ζ} (ho:SE K cl E to fo) (hi:SE K cl E ti fi) (hv:SE K cl E tv fv):me K cl E (oT tv (Cw to ti wx)) (rR fo fi fv):=λ ρ0 G0 H0 ρ G σ H δ S o S' D I e p=>
 eg hv I e p λ d S1 e1 v ρ1 G1 H1 g1 s1 dv=>by
  have I1:=I.grow g1 s1
  refine eg ho I1 e1 p λ x S2 e2 u ρ2 G2 H2 g2 s2 du=>?_
  have I2:=I1.grow g2 s2
  refine eg hi I2 e2 p λ y S3 e3 w ρ3 G3 H3 g3 s3 dw=>?_
  obtain ⟨⟨n,ds⟩,e4,e5⟩:=oB e3
  obtain ⟨k,e6,e7⟩:=oB e5
  obtain ⟨j,e8,e9⟩:=oM e7
  cases e9
  cases rF e6
  cases d8 dw
  obtain ⟨rfl,e10⟩:=cy e4
  obtain ⟨a,rfl,ea⟩:=cg du
  have ea3:=iH g3.r ea
  obtain ⟨ga,vs,k1,k2⟩:=s3.addr e10 ea3
  have g23:=g2.trans g3
  obtain ⟨s4,g4⟩:=s3.put (x:=.lst (vs.set j v)) (o':=.lst (ds.set j d)) g3.s e10 ea3 (λ b z=>by cases z) ⟨_,aJ,ay.set ((dv.ext g23.r).same g23.g) j k2⟩
  exact ⟨a,vs,k,j,rfl,rfl,k1,by rw [k2.length];exact e8,p σ ρ3 G3 _ ((I2.grow g3 s3).grow g4 s4)⟩
noncomputable def eW:W->Option aA
 | .int i=>some (Sum.inl i)
 | .str x=>some (Sum.inr x)
 | _=>none
def oo {ρ:Ξ} {G:Hp} {v:V} {d:W} {k:aA} (h:Dw K ρ G v d) (e:eW d=some k):v=kV k:=by
 cases h <;> first | (cases e;rfl) | cases e
noncomputable def aQ {κ:Type} [DecidableEq κ] (kvs:List (κ×W)) (k:κ):Option W:=(kvs.find? λ kv=>decide (kv.1=k)).map (·.2)
noncomputable def cZ {κ:Type} [DecidableEq κ] (kvs:List (κ×W)) (k:κ) (v:W):List (κ×W):=if (kvs.any λ kv=>decide (kv.1=k))=true then kvs.map λ kv=>if kv.1=k then (kv.1,v) else kv else kvs++[(k,v)]
def iX.val {κ:Type} [DecidableEq κ] {ρ:Ξ} {G:Hp} {k:κ}:∀ {l:List (κ×W)} {m:List (κ×V)},iX K ρ G l m->(∀ d,aQ l k=some d->∃ v,eL m k=some v/\Dw K ρ G v d)/\(aQ l k=none->eL m k=none):=λ q=>by
 induction q with
 | nil=>exact ⟨(λ d e=>by cases e),λ _=>rfl⟩
 | @cons j x0 v0 l m a b ih=>
  obtain ⟨h1,h2⟩:=ih
  by_cases hj:j=k
  . subst hj
    refine ⟨λ d e=>?_,λ e=>?_⟩
    . have e':aQ ((j,x0)::l) j=some x0:=by simp [aQ,find?_cons]
      rw [e'] at e
      cases e
      exact ⟨_,iy rfl,a⟩
    . simp [aQ,find?_cons] at e
  . refine ⟨λ d e=>?_,λ e=>?_⟩
    . rw [gG hj]
      exact h1 d (by simpa [aQ,find?_cons,hj] using e)
    . rw [gG hj]
      exact h2 (by simpa [aQ,find?_cons,hj] using e)
def iX.any {κ:Type} [DecidableEq κ] {ρ:Ξ} {G:Hp} {k:κ}:∀ {l:List (κ×W)} {m:List (κ×V)},iX K ρ G l m->(l.any λ kv=>decide (kv.1=k))=m.any λ kv=>decide (kv.1=k):=λ q=>by
 induction q with
 | nil=>rfl
 | cons a b ih=>rw [any_cons,any_cons,ih]
def iX.repl {κ:Type} [DecidableEq κ] {ρ:Ξ} {G:Hp} {k:κ} {v:V} {d:W} (h:Dw K ρ G v d):∀ {l:List (κ×W)} {m:List (κ×V)},iX K ρ G l m->iX K ρ G (l.map λ kv=>if kv.1=k then (kv.1,d) else kv) (m.map λ kv=>if kv.1=k then (kv.1,v) else kv):=λ q=>by
 induction q with
 | nil=>exact .nil
 | @cons j d0 v0 l m a b ih=>
  rw [map_cons,map_cons]
  by_cases hj:j=k
  . simp only [if_pos hj]
    exact .cons h ih
  . simp only [if_neg hj]
    exact .cons a ih
def iX.snoc {κ:Type} {ρ:Ξ} {G:Hp} {k:κ} {v:V} {d:W} (h:Dw K ρ G v d):∀ {l:List (κ×W)} {m:List (κ×V)},iX K ρ G l m->iX K ρ G (l++[(k,d)]) (m++[(k,v)]):=λ q=>by
 induction q with
 | nil=>exact .cons h .nil
 | cons a _ ih=>exact .cons a ih
def iX.put {κ:Type} [DecidableEq κ] {ρ:Ξ} {G:Hp} {k:κ} {v:V} {d:W} (h:Dw K ρ G v d) {l:List (κ×W)} {m:List (κ×V)} (r:iX K ρ G l m):iX K ρ G (cZ l k d) (eX m k v):=by
 unfold cZ eX
 rw [r.any]
 split
 . exact r.repl h
 . exact r.snoc h
noncomputable def pS (S:ah) (n:Nat):Option (List W):=match S[n]? with
 | some (.lst ds)=>some ds
 | _=>none
noncomputable def rh (f:W->Option PyData):List W->Option (List PyData)
 | []=>some []
 | d::ds=>(f d).bind λ x=>(rh f ds).map (x::·)
noncomputable def AY (S:ah):Nat->W->Option PyData
 | 0,_=>none
 | n+1,d=>match d with
  | .list ds=>(rh (AY S n) ds).map .list
  | .tuple ds=>(rh (AY S n) ds).map .tuple
  | .ref m=>(pS S m).bind λ ds=>(rh (AY S n) ds).map .list
  | d=>d.py
def qC {H:Hp} {ρ:Ξ} {G:Hp} {f:W->Option PyData} (hf:∀ v d x,Dw K ρ G v d->f d=some x->Dp K H v x) {vs:List V} {ds:List W} {xs:List PyData} (h:ay K ρ G vs ds):rh f ds=some xs->ik K H vs xs:=
 h.ind (M:=λ vs ds=>∀ xs,rh f ds=some xs->ik K H vs xs) (λ xs e=>by cases e;exact .nil) (λ _ _ _ _ a ih xs e=>by
  obtain ⟨x,e1,e⟩:=oB e
  obtain ⟨ys,e2,rfl⟩:=oM e
  exact .cons (hf _ _ _ a e1) (ih _ e2)) xs
def ju {ρ:Ξ} {G H:Hp} {S:ah} (sg:bj G H) (s:SR K ρ cl G H S):∀ (n:Nat) (v:V) (d:W) (x:PyData),Dw K ρ G v d->AY S n d=some x->Dp K H v x
 | 0,_,_,_,_,e=>by cases e
 | n+1,v,d,x,h,e=>by
  cases h with
  | lst sq da=>
   obtain ⟨xs,e1,rfl⟩:=oM e
   exact .lst (sg.seq sq) (qC (λ v d x=>ju sg s n v d x) da e1)
  | tup sq da=>
   obtain ⟨xs,e1,rfl⟩:=oM e
   exact .tup (sg.tup (eK.of sq)) (qC (λ v d x=>ju sg s n v d x) da e1)
  | ref ea=>
   obtain ⟨ds,e1,e2⟩:=oB e
   obtain ⟨xs,e3,rfl⟩:=oM e2
   unfold pS at e1
   split at e1
   . rename_i ds' h1
     cases e1
     obtain ⟨ga,vs,k1,k2⟩:=s.addr h1 ea
     exact .lst (cD.of k1) (qC (λ v d x=>ju sg s n v d x) k2 e3)
   . cases e1
  | non=>exact Dw.dp (ρ:=ρ) .non e
  | bl b=>exact Dw.dp (ρ:=ρ) (.bl b) e
  | int i=>exact Dw.dp (ρ:=ρ) (.int i) e
  | str y=>exact Dw.dp (ρ:=ρ) (.str y) e
noncomputable def yD (neg:Bool) (d e:W) (S:ah):Option Bool:=match Jl d e with
 | some b=>some (if neg then !b else b)
 | none=>(AY S 24 d).bind λ a=>(AY S 24 e).bind λ b=>if (a.canLay0&&b.canLay0&&decide (a.depth<=64))=true then some (if neg then !(PyData.eqv a b) else PyData.eqv a b) else none
noncomputable def IL (K:Frag) (neg:Bool):R2:=if neg then GE K else FR K
noncomputable def wJ (neg:Bool) (fa fb:ζ):DS->ah->SM Bool:=λ δ S=>aq (fa δ S) λ x S1=>aq (fb δ S1) λ y S2=>iq (yD neg x y S2) S2
def su {ρ:Ξ} {G H:Hp} {S:ah} {neg:Bool} {v u:V} {x y:W} {b:Bool} {Q:VK} (sg:bj G H) (s:SR K ρ cl G H S) (dv:Dw K ρ G v x) (du:Dw K ρ G u y) (h:yD neg x y S=some b) (q:Q (.bl b) H):IL K neg v u H Q:=by
 unfold yD at h
 split at h
 . rename_i b' hb
   cases h
   obtain ⟨h1,h2⟩:=vF (dv.same sg) (du.same sg) hb
   cases neg with
   | false=>exact .inl ⟨h1,by rw [h2];exact q⟩
   | true=>exact .inl ⟨h1,by rw [h2];exact q⟩
 . obtain ⟨a,ea,h⟩:=oB h
   obtain ⟨c,ec,h⟩:=oB h
   split at h
   . rename_i hc
     cases h
     simp only [and_eq_true,decide_eq_true_eq] at hc
     cases neg with
     | false=>exact .inr ⟨a,c,ju sg s 24 _ _ _ dv ea,ju sg s 24 _ _ _ du ec,hc.1.1,hc.1.2,hc.2,q⟩
     | true=>exact .inr ⟨a,c,ju sg s 24 _ _ _ dv ea,ju sg s 24 _ _ _ du ec,hc.1.1,hc.1.2,hc.2,q⟩
   . cases h
def Kr {neg:Bool} {ta tb:TE} {fa fb:ζ} (ha:SE K cl E ta fa) (hb:SE K cl E tb fb):ST K cl E (xy (tT (IL K neg) ta tb)) (wJ neg fa fb):=λ ρ G σ H δ S r' S' Q R e q qx=>
 fK ha hb R e (λ x y S2 e2 v u ρ2 G2 H2 g2 s2 dv du=>by
  obtain ⟨c,e3,rfl,rfl⟩:=bp e2
  exact su g2.s s2 dv du e3 ⟨c,rfl,q c rfl ρ2 G2 H2 g2 s2⟩) qx
def JC {neg:Bool} {ta tb:TE} {fa fb:ζ} (ha:SE K cl E ta fa) (hb:SE K cl E tb fb):SE K cl E (tT (IL K neg) ta tb) (sB (wJ neg fa fb)):=λ ρ G σ H δ S r' S' Q R e q qx=>by
 rcases aP e with ⟨c,em,rfl⟩ | ⟨b,S1,em,e⟩
 . exact fK (r:=Rs.xc c) ha hb R em (λ x y S2 e2=>by obtain ⟨_,_,z,_⟩:=bp e2;cases z) (λ c' hc=>by cases hc;exact qx c rfl)
 . cases e
   exact fK ha hb R em (λ x y S2 e2 v u ρ2 G2 H2 g2 s2 dv du=>by
    obtain ⟨c,e3,z,rfl⟩:=bp e2
    cases z
    exact su g2.s s2 dv du e3 (q _ rfl _ ρ2 G2 H2 g2 s2 (.bl _))) (λ c hc=>by cases hc)
end
section
variable {K:Frag} {cl:Str->Addr} {E:XK}
noncomputable def oK (f:ζ):DS->ah->SM Bool:=λ δ S=>aq (f δ S) λ x S1=>iq (Am x) S1
def GA {t:TE} {f:ζ} (h:SE K cl E t f):ST K cl E (tB t) (oK f):=λ ρ G σ H δ S r S' Q R e q qx=>
 ci h R e (λ x S1 e1 v ρ1 G1 H1 g1 s1 dv=>by
  obtain ⟨b,e2,rfl,rfl⟩:=bp e1
  cases mZ e2
  cases Aq dv
  exact ⟨b,rfl,q b rfl ρ1 G1 H1 g1 s1⟩) qx
noncomputable def lR (f g:ζ):DS->ah->SM W:=λ δ S=>aq (f δ S) λ x S1=>(Am x).bind λ b=>if b=true then g δ S1 else some (.ok (.bool false),S1)
noncomputable def Nn (f g:ζ):DS->ah->SM W:=λ δ S=>aq (f δ S) λ x S1=>(Am x).bind λ b=>if b=true then some (.ok (.bool true),S1) else g δ S1
noncomputable def Kk (f:ζ):DS->ah->SM W:=λ δ S=>aq (f δ S) λ x S1=>(Am x).map λ b=>(.ok (.bool (!b)),S1)
def Ig {t u:TE} {f g:ζ} (h1:SE K cl E t f) (h2:SE K cl E u g):SE K cl E (Fh t u) (lR f g):=λ ρ G σ H δ S r S' Q R e q qx=>
 ci h1 R e (λ x S1 e1 v ρ1 G1 H1 g1 s1 dv=>by
  obtain ⟨b,e2,e3⟩:=oB e1
  cases mZ e2
  cases Aq dv
  refine ⟨b,rfl,?_⟩
  cases b with
  | true=>exact h2 ρ1 G1 σ H1 δ S1 r S' Q (R.grow g1 s1) e3 (λ d hd v ρ2 G2 H2 g2 s2 dv=>q d hd v ρ2 G2 H2 (g1.trans g2) s2 dv) λ c hc ρ2 G2 H2 g2 s2=>qx c hc ρ2 G2 H2 (g1.trans g2) s2
  | false=>cases e3;exact q _ rfl _ ρ1 G1 H1 g1 s1 (.bl _)) qx
def Cd.ext {ρ ρ1:Ξ} {J:It} {ds:List W} {i:Nat} {G H:Hp} (h:ρ <+: ρ1) (a:Cd K ρ J ds i G H):Cd K ρ1 J ds i G H:=⟨λ d hd=>⟨(a.1 d hd).1,λ x H' y=>by
 obtain ⟨G',g,dx⟩:=(a.1 d hd).2 x H' y
 exact ⟨G',g,dx.ext h⟩⟩,a.2⟩
def vI {S:ah} {n:Nat} {ds:List W} (h:pS S n=some ds):S[n]?=some (.lst ds):=by
 unfold pS at h
 split at h
 . rename_i e;cases h;exact e
 . cases h
noncomputable def fZ (S:ah) (n:Nat×Bool):Option (List W):=(pS S n.1).map λ es=>if n.2 then ke es else es
noncomputable def Nt (K:Frag) (cl:Str->Addr) (ρ:Ξ) (J:It) (n:Nat×Bool):Prop:=
 ∀ (i:Nat) (ρ1:Ξ) (G1 H1:Hp) (S1:ah) (es:List W),ρ <+: ρ1->bj G1 H1->SR K ρ1 cl G1 H1 S1->fZ S1 n=some es->Cd K ρ1 J es i G1 H1
noncomputable def Mj (K:Frag) (cl:Str->Addr) (E:XK) (wi:TI) (f:DS->ah->SM (Nat×Bool)):Prop:=
 ∀ (ρ:Ξ) (G:Hp) (σ:St) (H:Hp) (δ:DS) (S:ah) (r:Rs (Nat×Bool)) (S':ah) (R':It->Hp->Prop),RS K cl ρ G H δ σ S->f δ S=some (r,S')->
  (∀ n,r=.ok n->∀ J ρ' G' H',GS ρ G H ρ' G' H'->SR K ρ' cl G' H' S'->Nt K cl ρ' J n->R' J H')->
  (∀ c,r=.xc c->∀ ρ' G' H',GS ρ G H ρ' G' H'->SR K ρ' cl G' H' S'->E (.ref (cl c)) none H')->wi σ H R'
noncomputable def iB (f:ζ):DS->ah->SM (Nat×Bool):=λ δ S=>aq (f δ S) λ x S1=>(fj x S1).map λ p=>(.ok (p.1,false),S1)
def Dj {t:TE} {f:ζ} (h:SE K cl E t f):Mj K cl E (xO K t) (iB f):=λ ρ G σ H δ S r S' R' R e q qx=>
 ci h R e (λ x S1 e1 v ρ1 G1 H1 g1 s1 dv=>by
  obtain ⟨⟨n,ds⟩,e2,e3⟩:=oM e1
  cases e3
  obtain ⟨rfl,e4⟩:=cy e2
  obtain ⟨a,rfl,ea⟩:=cg dv
  obtain ⟨ga,vs,k1,k2⟩:=s1.addr e4 ea
  refine ⟨a,rfl,.inl ⟨⟨vs,cD.of k1⟩,q (n,false) rfl _ ρ1 G1 H1 g1 s1 λ i ρ2 G2 H2 S2 es pr s2 sr he=>?_⟩⟩
  obtain ⟨es',hf,rfl⟩:=oM he
  obtain ⟨ga2,vs2,m1,m2⟩:=sr.addr (vI hf) (iH pr ea)
  exact nW s2 (cD.of m1) m2) qx
noncomputable def gq (n:Nat×Bool) (h:η) (fb:τ):Nat->Nat->DS->ah->SO
 | 0,_,_,_=>none
 | f+1,i,δ,S=>(fZ S n).bind λ es=>match es[i]? with
  | none=>some (.nx δ,S)
  | some d=>(h d δ).bind λ δ2=>match fb δ2 S with
   | some (.nx δ',S')=>gq n h fb f (i+1) δ' S'
   | some (.ct δ',S')=>gq n h fb f (i+1) δ' S'
   | some (.bk δ',S')=>some (.nx δ',S')
   | some (.rt d,S')=>some (.rt d,S')
   | some (.xc c,S')=>some (.xc c,S')
   | none=>none
noncomputable def uo (m:Nat) (fi:DS->ah->SM (Nat×Bool)) (h:η) (fb:τ):DS->ah->SO:=λ δ S=>iV (fi δ S) λ n S1=>gq n h fb m 0 δ S1
def vV {m:Nat} {wi:TI} {g:TG} {tb:TS} {fi:DS->ah->SM (Nat×Bool)} {h:η} {fb:τ} (hi:Mj K cl E wi fi) (hg:∀ ρ,DG K ρ g h) (hb:me K cl E tb fb):me K cl E (C5 wi g tb) (uo m fi h fb):=λ ρ0 G0 H0 ρ G σ H δ S o S' D I e p=>by
 rcases kr e with ⟨c,em,rfl⟩ | ⟨n,S1,em,e⟩
 . exact hi ρ G σ H δ S _ _ _ I.rs em (λ d hd=>by cases hd) (λ c' hc ρ1 G1 H1 g1 s1=>by cases hc;exact p ρ1 G1 H1 (I.gs.trans g1) s1)
 refine hi ρ G σ H δ S _ _ _ I.rs em (λ n' hn=>?_) (λ c' hc=>by cases hc)
 cases hn
 intro J ρ1 G1 H1 g1 s1 it
 refine ⟨λ i k σ H=>∃ ρ2 G2 δ2 S2,iT K cl ρ0 G0 H0 ρ2 G2 H δ2 σ S2/\ρ1 <+: ρ2/\gq n h fb k i δ2 S2=some (o,S'),⟨m,ρ1,G1,δ,S1,I.grow g1 s1,prefix_refl _,e⟩,?_⟩
 rintro i k σ2 H2 ⟨ρ2,G2,δ2,S2,I2,pr2,e2⟩
 cases k with
 | zero=>cases e2
 | succ k=>
  obtain ⟨es,e3,e4⟩:=oB e2
  have ia:=it i ρ2 G2 H2 S2 es pr2 I2.gs.s I2.rs.st e3
  split at e4
  . rename_i hn
    cases e4
    exact .inl ⟨ia.2 (List.getElem?_eq_none_iff.mp hn),p σ2 ρ2 G2 H2 I2⟩
  . rename_i d hd
    refine .inr ?_
    obtain ⟨go,step⟩:=ia.1 d hd
    obtain ⟨δ3,e5,e6⟩:=oB e4
    have turn:∀ (P:iI) (o1:rn) (S3:ah),fb δ3 S2=some (o1,S3)->(∀ G3 H3,Gr G2 H2 G3 H3->zm K cl E ρ2 G3 H0 P S3 o1)->∀ x H',J.yld i H2 x H'->g x σ2 H' λ σ2 H2=>tb P σ2 H2:=λ P o1 S3 ef hp x H' y=>by
     obtain ⟨G3,g3,dx⟩:=step x H' y
     have I3:=I2.grow (.of g3) (I2.rs.st.grow g3)
     refine hg ρ2 G3 H' δ2 σ2 x _ δ3 _ I3.rs.rl dx e5 λ σ3 R3 o3=>?_
     exact hb ρ2 G3 H0 ρ2 G3 σ3 H' δ3 S2 o1 S3 P (I3.sub R3 o3).base ef (hp G3 H' g3)
    have back:∀ {G3 H3:Hp},Gr G2 H2 G3 H3->∀ {ρ4:Ξ} {G4 H4:Hp} {σ4:St} {δ4:DS} {S4:ah},iT K cl ρ2 G3 H0 ρ4 G4 H4 δ4 σ4 S4->iT K cl ρ0 G0 H0 ρ4 G4 H4 δ4 σ4 S4/\ρ1 <+: ρ4:=λ {G3 H3} g3 {ρ4 G4 H4 σ4 δ4 S4} I4=>⟨I4.rebase (I2.gs.trans (.of g3)),pr2.trans I4.gs.r⟩
    cases ef:fb δ3 S2 with
    | none=>rw [ef] at e6;cases e6
    | some r=>
     obtain ⟨o1,S3⟩:=r
     rw [ef] at e6
     cases o1 with
     | nx δ'=>exact ⟨go,λ σ' H'=>∃ ρ' G',iT K cl ρ0 G0 H0 ρ' G' H' δ' σ' S3/\ρ1 <+: ρ',λ σ' H' hy0=>by obtain ⟨ρ',G',I',q1⟩:=hy0;exact ⟨k,lt_succ_self _,ρ',G',δ',S3,I',q1,e6⟩,turn _ _ _ ef λ G3 H3 g3 σ5 ρ5 G5 H5 I5=>⟨ρ5,G5,back g3 I5⟩⟩
     | ct δ'=>exact ⟨go,λ σ' H'=>∃ ρ' G',iT K cl ρ0 G0 H0 ρ' G' H' δ' σ' S3/\ρ1 <+: ρ',λ σ' H' hy0=>by obtain ⟨ρ',G',I',q1⟩:=hy0;exact ⟨k,lt_succ_self _,ρ',G',δ',S3,I',q1,e6⟩,turn _ _ _ ef λ G3 H3 g3 σ5 ρ5 G5 H5 I5=>⟨ρ5,G5,back g3 I5⟩⟩
     | bk δ'=>
      cases e6
      exact ⟨go,λ _ _=>False,λ _ _ z=>z.elim,turn _ _ _ ef λ G3 H3 g3 σ5 ρ5 G5 H5 I5=>p σ5 ρ5 G5 H5 (back g3 I5).1⟩
     | rt d=>
      cases e6
      exact ⟨go,λ _ _=>False,λ _ _ z=>z.elim,turn _ _ _ ef λ G3 H3 g3 v ρ5 G5 H5 g5 s5 dv=>p v ρ5 G5 H5 ((I2.gs.trans (.of g3)).rebase g5) s5 dv⟩
     | xc c=>
      cases e6
      exact ⟨go,λ _ _=>False,λ _ _ z=>z.elim,turn _ _ _ ef λ G3 H3 g3 ρ5 G5 H5 g5 s5=>p ρ5 G5 H5 ((I2.gs.trans (.of g3)).rebase g5) s5⟩
def RS.lift {ρ:Ξ} {G H:Hp} {δ:DS} {σ:St} {S:ah} {ix:Λ} (hx:y7 ix=true) (R:RS K cl ρ G H δ σ S):RS K cl ρ G H (bF ix δ) (lift ix σ) S:=
 ⟨R.rl.lift hx,R.st,λ j ds p h1 h2=>by
  obtain ⟨o,k1,k2⟩:=kY h1
  cases o with
  | none=>cases k2
  | some i=>
   have k3:δ[i]?=some (.own ds):=by
    cases e:δ[i]? with
    | none=>simp [o8,e] at k2
    | some s=>simp [o8,e] at k2;rw [k2]
   rw [mK k1] at h2
   simp only [L4] at h2
   split at h2
   . rename_i w e
     exact R.ap i ds p k3 (by rw [e];simpa using h2)
   . cases h2⟩
noncomputable def b9 (h:η) (c:DS->ah->SM Bool) (fe:ζ) (δ:DS):List W->ah->SM (List W)
 | [],S=>some (.ok [],S)
 | d::ds,S=>(h d δ).bind λ δ2=>aq (c δ2 S) λ b S1=>if b=true then aq (fe δ2 S1) λ e S2=>aq (b9 h c fe δ ds S2) λ es S3=>some (.ok (e::es),S3) else b9 h c fe δ ds S1
noncomputable def nA (ix:Λ) (fi:Υ) (h:η) (c:DS->ah->SM Bool) (fe:ζ):DS->ah->SM W:=λ δ S=>
 aq (fi δ S) λ ds S0=>if ds.length<=sizeLine then aq (b9 h c fe (bF ix δ) ds S0) λ es S1=>some (.ok (.list es),S1) else none
def Ei {ix:Λ} {wi:TI} {g:TG} {tc:TT} {te:TE} {fi:Υ} {h:η} {c:DS->ah->SM Bool} {fe:ζ}
 (hx:y7 ix=true) (hi:Lw K cl E wi fi) (hg:∀ ρ,DG K ρ g h) (hc:ST K cl E tc c) (he:SE K cl E te fe):SE K cl E (ny ix wi g tc te) (nA ix fi h c fe):=λ ρ G σ H δ S r S' Q R e q qx=>by
 rcases aP e with ⟨c0,em,rfl⟩ | ⟨ds,S0,em,e⟩
 . exact hi ρ G σ H δ S _ _ _ R em (λ d hd=>by cases hd) (λ c' hc=>by cases hc;exact qx c0 rfl)
 split at e
 case isFalse=>cases e
 rename_i hz
 refine hi ρ G σ H δ S _ _ _ R em (λ ds' hd=>?_) (λ c' hc=>by cases hc)
 cases hd
 intro J ρ1 G1 H1 gs1 sr1 it
 have R1:=R.grow gs1 sr1
 refine ⟨λ i m ys H2=>m=ds.length-i/\i<=ds.length/\ys.length<=i/\∃ ρ2 G2 as S2,GS ρ1 G1 H1 ρ2 G2 H2/\SR K ρ2 cl G2 H2 S2/\ay K ρ2 G2 ys as/\aq (b9 h c fe (bF ix δ) (ds.drop i) S2) (λ es S1=>some (.ok (.list (as++es)),S1))=some (r,S'),⟨ds.length,by simp,zero_le _,le_refl _,ρ1,G1,[],S0,.refl gs1.s,R1.st,.nil,by simpa using e⟩,?_⟩
 rintro i m ys H2 ⟨rfl,hil,hyl,ρ2,G2,as,S2,g2,s2,da,eb⟩
 have ia:=(it i G2 H2 g2.g g2.s).ext g2.r
 have R2:=R1.grow g2 s2
 have g12:=gs1.trans g2
 by_cases hlt:i<ds.length
 . refine .inr ?_
   obtain ⟨go,step⟩:=ia.1 ds[i] (getElem?_eq_getElem hlt)
   rw [drop_eq_getElem_cons hlt] at eb
   have eb':∃ δ2,h ds[i] (bF ix δ)=some δ2/\aq (aq (c δ2 S2) λ b S1=>if b=true then aq (fe δ2 S1) λ e S2=>aq (b9 h c fe (bF ix δ) (ds.drop (i+1)) S2) λ es S3=>some (.ok (e::es),S3) else b9 h c fe (bF ix δ) (ds.drop (i+1)) S1) (λ es S1=>some (.ok (.list (as++es)),S1))=some (r,S'):=by
    simp only [b9] at eb
    cases e2:h ds[i] (bF ix δ) with
    | none=>rw [e2] at eb;cases eb
    | some δ2=>rw [e2] at eb;exact ⟨δ2,rfl,eb⟩
   obtain ⟨δ2,e2,e3⟩:=eb'
   refine ⟨go,by omega,λ ys' H'=>ys'.length<=i+1/\∃ ρ3 G3 as' S3,GS ρ1 G1 H1 ρ3 G3 H'/\SR K ρ3 cl G3 H' S3/\ay K ρ3 G3 ys' as'/\aq (b9 h c fe (bF ix δ) (ds.drop (i+1)) S3) (λ es S1=>some (.ok (.list (as'++es)),S1))=some (r,S'),λ ys' H' hy0=>by obtain ⟨l,z⟩:=hy0;exact ⟨ds.length-(i+1),by omega,rfl,hlt,l,z⟩,λ x H' y=>?_⟩
   obtain ⟨G3,g3,dx⟩:=step x H' y
   have gs3:GS ρ2 G2 H2 ρ2 G3 H':=.of g3
   have s3:=s2.grow g3
   have R3:=R2.grow gs3 s3
   refine hg ρ2 G3 H' (bF ix δ) _ x _ δ2 _ (R3.lift hx).rl dx e2 λ σ2 R4 o4=>?_
   have RS4:RS K cl ρ2 G3 H' δ2 σ2 S2:=⟨R4,s3,λ j ds' p h1 h2=>by
    obtain ⟨es',m1,m2⟩:=o4 j ds' p h1 h2
    exact (R3.lift hx).ap j es' p m1 m2⟩
   rcases aP e3 with ⟨c',em,rfl⟩ | ⟨es,S5,em,e4⟩
   . -- an exception on the way
     rcases aP em with ⟨c2,en,z⟩ | ⟨b,S4,en,e5⟩
     . cases z
       exact hc ρ2 G3 σ2 H' δ2 S2 _ _ _ RS4 en (λ d hd=>by cases hd) (λ c3 h3 ρ5 G5 H5 g5 s5=>by cases h3;exact qx c' rfl ρ5 G5 H5 (g12.trans (gs3.trans g5)) s5)
     . refine hc ρ2 G3 σ2 H' δ2 S2 _ _ _ RS4 en (λ d hd=>?_) (λ c3 h3=>by cases h3)
       cases hd
       intro ρ5 G5 H5 g5 s5
       have g15:=g2.trans (gs3.trans g5)
       have da5:=((da.ext (gs3.trans g5).r).same (gs3.trans g5).g)
       cases b with
       | false=>exact ⟨by omega,ρ5,G5,as,S4,g15,s5,da5,by rw [show b9 h c fe (bF ix δ) (ds.drop (i+1)) S4=some (.xc c',S') from e5];rfl⟩
       | true=>
        rw [if_pos rfl] at e5 ⊢
        rcases aP e5 with ⟨c2,en2,z⟩ | ⟨ev,S6,en2,e6⟩
        . cases z
          exact he ρ5 G5 σ2 H5 δ2 S4 _ _ _ (RS4.grow g5 s5) en2 (λ d hd=>by cases hd) (λ c3 h3 ρ6 G6 H6 g6 s6=>by cases h3;exact qx c' rfl ρ6 G6 H6 (g12.trans (gs3.trans (g5.trans g6))) s6)
        . refine he ρ5 G5 σ2 H5 δ2 S4 _ _ _ (RS4.grow g5 s5) en2 (λ d hd=>?_) (λ c3 h3=>by cases h3)
          cases hd
          intro v ρ6 G6 H6 g6 s6 dv
          rcases aP e6 with ⟨c2,en3,z⟩ | ⟨es2,S7,en3,e7⟩
          . cases z
            exact ⟨by simp;omega,ρ6,G6,as++[ev],S6,g15.trans g6,s6,((da5.ext g6.r).same g6.g).app (.cons dv .nil),by rw [en3];rfl⟩
          . cases e7
   . cases e4
     rcases aP em with ⟨c2,en,z⟩ | ⟨b,S4,en,e5⟩
     . cases z
     . refine hc ρ2 G3 σ2 H' δ2 S2 _ _ _ RS4 en (λ d hd=>?_) (λ c3 h3=>by cases h3)
       cases hd
       intro ρ5 G5 H5 g5 s5
       have g15:=g2.trans (gs3.trans g5)
       have da5:=((da.ext (gs3.trans g5).r).same (gs3.trans g5).g)
       cases b with
       | false=>exact ⟨by omega,ρ5,G5,as,S4,g15,s5,da5,by rw [show b9 h c fe (bF ix δ) (ds.drop (i+1)) S4=some (.ok es,S') from e5];rfl⟩
       | true=>
        rw [if_pos rfl] at e5 ⊢
        rcases aP e5 with ⟨c2,en2,z⟩ | ⟨ev,S6,en2,e6⟩
        . cases z
        . refine he ρ5 G5 σ2 H5 δ2 S4 _ _ _ (RS4.grow g5 s5) en2 (λ d hd=>?_) (λ c3 h3=>by cases h3)
          cases hd
          intro v ρ6 G6 H6 g6 s6 dv
          rcases aP e6 with ⟨c2,en3,z⟩ | ⟨es2,S7,en3,e7⟩
          . cases z
          . cases e7
            exact ⟨by simp;omega,ρ6,G6,as++[ev],S6,g15.trans g6,s6,((da5.ext g6.r).same g6.g).app (.cons dv .nil),by rw [en3];simp [aq]⟩
 . have hi':i=ds.length:=by omega
   subst hi'
   refine .inl ⟨ia.2 (le_refl _),by omega,λ p hp=>?_⟩
   rw [drop_length] at eb
   simp only [b9,aq,append_nil] at eb
   cases eb
   have n:Nw H2 (bZ H2 p (.lst ys)) p (.lst ys):=.of hp
   have g3:=Gr.nw g2.s n
   exact q _ rfl _ ρ2 _ _ (g12.trans (.of g3)) (s2.grow g3) (.lst (cD.of aJ) (da.same g3.g))
end
section
variable {K:Frag} {cl:Str->Addr} {E:XK}
noncomputable def bV (n:Nat×Bool) (h:η) (c:DS->ah->SM Bool) (fe:ζ) (δ:DS):Nat->Nat->ah->SM (List W)
 | 0,_,_=>none
 | f+1,i,S=>(fZ S n).bind λ es=>match es[i]? with
  | none=>some (.ok [],S)
  | some d=>(h d δ).bind λ δ2=>aq (c δ2 S) λ b S1=>if b=true then aq (fe δ2 S1) λ e S2=>aq (bV n h c fe δ f (i+1) S2) λ es S3=>some (.ok (e::es),S3) else bV n h c fe δ f (i+1) S1
noncomputable def mX (m:Nat) (ix:Λ) (fi:DS->ah->SM (Nat×Bool)) (h:η) (c:DS->ah->SM Bool) (fe:ζ):DS->ah->SM W:=λ δ S=>
 aq (fi δ S) λ n S0=>if m<=sizeLine then aq (bV n h c fe (bF ix δ) m 0 S0) λ es S1=>some (.ok (.list es),S1) else none
def zi {m:Nat} {ix:Λ} {wi:TI} {g:TG} {tc:TT} {te:TE} {fi:DS->ah->SM (Nat×Bool)} {h:η} {c:DS->ah->SM Bool} {fe:ζ}
 (hx:y7 ix=true) (hi:Mj K cl E wi fi) (hg:∀ ρ,DG K ρ g h) (hc:ST K cl E tc c) (he:SE K cl E te fe):SE K cl E (ny ix wi g tc te) (mX m ix fi h c fe):=λ ρ G σ H δ S r S' Q R e q qx=>by
 rcases aP e with ⟨c0,em,rfl⟩ | ⟨n,S0,em,e⟩
 . exact hi ρ G σ H δ S _ _ _ R em (λ d hd=>by cases hd) (λ c' hc=>by cases hc;exact qx c0 rfl)
 split at e
 case isFalse=>cases e
 rename_i hz
 refine hi ρ G σ H δ S _ _ _ R em (λ n' hn=>?_) (λ c' hc=>by cases hc)
 cases hn
 intro J ρ1 G1 H1 gs1 sr1 it
 have R1:=R.grow gs1 sr1
 refine ⟨λ i k ys H2=>k+i=m/\ys.length<=i/\∃ ρ2 G2 as S2,GS ρ1 G1 H1 ρ2 G2 H2/\SR K ρ2 cl G2 H2 S2/\ay K ρ2 G2 ys as/\aq (bV n h c fe (bF ix δ) k i S2) (λ es S1=>some (.ok (.list (as++es)),S1))=some (r,S'),⟨m,by simp,le_refl _,ρ1,G1,[],S0,.refl gs1.s,R1.st,.nil,by simpa using e⟩,?_⟩
 rintro i k ys H2 ⟨hk,hyl,ρ2,G2,as,S2,g2,s2,da,eb⟩
 have R2:=R1.grow g2 s2
 have g12:=gs1.trans g2
 cases k with
 | zero=>cases eb
 | succ k=>
  have eb0:∃ es0,fZ S2 n=some es0:=by
   cases hl:fZ S2 n with
   | none=>simp only [bV,hl] at eb;cases eb
   | some es0=>exact ⟨es0,rfl⟩
  obtain ⟨es0,hl⟩:=eb0
  have ia:=it i ρ2 G2 H2 S2 es0 g2.r g2.s s2 hl
  cases hd:es0[i]? with
  | none=>
   refine .inl ⟨ia.2 (List.getElem?_eq_none_iff.mp hd),by omega,λ p hp=>?_⟩
   simp only [bV,hl,bind_some,hd,aq,append_nil] at eb
   cases eb
   have nn:Nw H2 (bZ H2 p (.lst ys)) p (.lst ys):=.of hp
   have g3:=Gr.nw g2.s nn
   exact q _ rfl _ ρ2 _ _ (g12.trans (.of g3)) (s2.grow g3) (.lst (cD.of aJ) (da.same g3.g))
  | some d0=>
   refine .inr ?_
   obtain ⟨go,step⟩:=ia.1 d0 hd
   have eb':∃ δ2,h d0 (bF ix δ)=some δ2/\aq (aq (c δ2 S2) λ b S1=>if b=true then aq (fe δ2 S1) λ e S2=>aq (bV n h c fe (bF ix δ) k (i+1) S2) λ es S3=>some (.ok (e::es),S3) else bV n h c fe (bF ix δ) k (i+1) S1) (λ es S1=>some (.ok (.list (as++es)),S1))=some (r,S'):=by
    simp only [bV,hl,bind_some,hd] at eb
    cases e2:h d0 (bF ix δ) with
    | none=>rw [e2] at eb;cases eb
    | some δ2=>rw [e2] at eb;exact ⟨δ2,rfl,eb⟩
   obtain ⟨δ2,e2,e3⟩:=eb'
   refine ⟨go,by omega,λ ys' H'=>ys'.length<=i+1/\∃ ρ3 G3 as' S3,GS ρ1 G1 H1 ρ3 G3 H'/\SR K ρ3 cl G3 H' S3/\ay K ρ3 G3 ys' as'/\aq (bV n h c fe (bF ix δ) k (i+1) S3) (λ es S1=>some (.ok (.list (as'++es)),S1))=some (r,S'),λ ys' H' hy0=>by obtain ⟨l,z⟩:=hy0;exact ⟨k,lt_succ_self _,by omega,l,z⟩,λ x H' y=>?_⟩
   obtain ⟨G3,g3,dx⟩:=step x H' y
   have gs3:GS ρ2 G2 H2 ρ2 G3 H':=.of g3
   have s3:=s2.grow g3
   have R3:=R2.grow gs3 s3
   refine hg ρ2 G3 H' (bF ix δ) _ x _ δ2 _ (R3.lift hx).rl dx e2 λ σ2 R4 o4=>?_
   have RS4:RS K cl ρ2 G3 H' δ2 σ2 S2:=⟨R4,s3,λ j ds' p h1 h2=>by
    obtain ⟨es',m1,m2⟩:=o4 j ds' p h1 h2
    exact (R3.lift hx).ap j es' p m1 m2⟩
   rcases aP e3 with ⟨c',em,rfl⟩ | ⟨es,S5,em,e4⟩
   . -- an exception on the way
     rcases aP em with ⟨c2,en,z⟩ | ⟨b,S4,en,e5⟩
     . cases z
       exact hc ρ2 G3 σ2 H' δ2 S2 _ _ _ RS4 en (λ d hd=>by cases hd) (λ c3 h3 ρ5 G5 H5 g5 s5=>by cases h3;exact qx c' rfl ρ5 G5 H5 (g12.trans (gs3.trans g5)) s5)
     . refine hc ρ2 G3 σ2 H' δ2 S2 _ _ _ RS4 en (λ d hd=>?_) (λ c3 h3=>by cases h3)
       cases hd
       intro ρ5 G5 H5 g5 s5
       have g15:=g2.trans (gs3.trans g5)
       have da5:=((da.ext (gs3.trans g5).r).same (gs3.trans g5).g)
       cases b with
       | false=>exact ⟨by omega,ρ5,G5,as,S4,g15,s5,da5,by rw [show bV n h c fe (bF ix δ) k (i+1) S4=some (.xc c',S') from e5];rfl⟩
       | true=>
        rw [if_pos rfl] at e5 ⊢
        rcases aP e5 with ⟨c2,en2,z⟩ | ⟨ev,S6,en2,e6⟩
        . cases z
          exact he ρ5 G5 σ2 H5 δ2 S4 _ _ _ (RS4.grow g5 s5) en2 (λ d hd=>by cases hd) (λ c3 h3 ρ6 G6 H6 g6 s6=>by cases h3;exact qx c' rfl ρ6 G6 H6 (g12.trans (gs3.trans (g5.trans g6))) s6)
        . refine he ρ5 G5 σ2 H5 δ2 S4 _ _ _ (RS4.grow g5 s5) en2 (λ d hd=>?_) (λ c3 h3=>by cases h3)
          cases hd
          intro v ρ6 G6 H6 g6 s6 dv
          rcases aP e6 with ⟨c2,en3,z⟩ | ⟨es2,S7,en3,e7⟩
          . cases z
            exact ⟨by simp;omega,ρ6,G6,as++[ev],S6,g15.trans g6,s6,((da5.ext g6.r).same g6.g).app (.cons dv .nil),by rw [en3];rfl⟩
          . cases e7
   . cases e4
     rcases aP em with ⟨c2,en,z⟩ | ⟨b,S4,en,e5⟩
     . cases z
     . refine hc ρ2 G3 σ2 H' δ2 S2 _ _ _ RS4 en (λ d hd=>?_) (λ c3 h3=>by cases h3)
       cases hd
       intro ρ5 G5 H5 g5 s5
       have g15:=g2.trans (gs3.trans g5)
       have da5:=((da.ext (gs3.trans g5).r).same (gs3.trans g5).g)
       cases b with
       | false=>exact ⟨by omega,ρ5,G5,as,S4,g15,s5,da5,by rw [show bV n h c fe (bF ix δ) k (i+1) S4=some (.ok es,S') from e5];rfl⟩
       | true=>
        rw [if_pos rfl] at e5 ⊢
        rcases aP e5 with ⟨c2,en2,z⟩ | ⟨ev,S6,en2,e6⟩
        . cases z
        . refine he ρ5 G5 σ2 H5 δ2 S4 _ _ _ (RS4.grow g5 s5) en2 (λ d hd=>?_) (λ c3 h3=>by cases h3)
          cases hd
          intro v ρ6 G6 H6 g6 s6 dv
          rcases aP e6 with ⟨c2,en3,z⟩ | ⟨es2,S7,en3,e7⟩
          . cases z
          . cases e7
            exact ⟨by simp;omega,ρ6,G6,as++[ev],S6,g15.trans g6,s6,((da5.ext g6.r).same g6.g).app (.cons dv .nil),by rw [en3];simp [aq]⟩
end
def yU {K:Frag} {cl:Str->Addr} {G H:Hp}:SR K [] cl G H []:=⟨rfl,nodup_nil,λ n o e=>by simp at e⟩
end L2
namespace L2
open PySem PySem.Spec PyProof.Rows PySem.AutoSeq1
open PySem.W (Frag)
def CF (l b:Addr) (xs ys:Array Value) (n k:Nat) (sl:Array (Option Value)) (h1:¬(!xs.isEmpty&&Builtin.List.listTooLong (xs.size+ys.size))=true) (h2:xs.size<=sizeLine) (h3:xs.size+ys.size<=sizeLine+1):
 Meets (Builtin.«list.extend» ⟨[.ref l,.ref b],[]⟩) (λ _ R s=>s.heap.get? l=some { cls:=.type "list", data:=.seq xs n }/\s.heap.get? b=some { cls:=.type "list", dict:=none,data:=.seq ys k,slots:=sl }/\R (.ok (.ret .none)) { s with heap:=s.heap.update l (Obj.mapSeq (·++ys)),toks:=s.toks }):=
 .of_wp λ prog w A R s h=>by
  obtain ⟨hp,g,d,tk,os⟩:=s
  obtain ⟨hl,hb,h⟩:=h
  have e1:=idx_int
  have e2:=AutoSeq1.sub_tuple_tuple
  have e3:=AutoSeq1.sub_list_list
  have e4:=AutoSeq1.sub_tuple_list
  have e5:=AutoSeq1.sub_list_tuple
  have hz:(xs++ys).size<=sizeLine+1:=by
   rw [Array.size_append]
   exact h3
  wp_walk using (wpAny_updateSeq hl rfl (hz:=h2) (_hz':=hz)),wpAny_loadPart' hl,wpAny_loadPart' hb
  exact ⟨_,rfl,h⟩
section
variable {X:Cx}
noncomputable def nN (K:Frag):V->List V->Hp->VK->Prop:=λ x vs H Q=>∃ l b xs ys,x=.ref l/\vs=[.ref b]/\H l=some (.lst xs)/\cD K H b ys/\xs.length+ys.length<=sizeLine/\Q .non (bZ H l (.lst (xs++ys)))
def vx:MA X "list.extend" (nN X.K):=by
 intro pins s σ H x vs v us Q I rx rv h
 obtain ⟨l,b,xs,ys,rfl,rfl,h1,h2,h3,q⟩:=h
 cases rx
 obtain ⟨u,rfl,ru⟩:=rv.one
 cases ru
 obtain ⟨z,its,n,r,hl,e⟩:=I.lstM h1
 obtain ⟨jts,r2,⟨⟨oc,od,da,sl⟩,k,e2,c1,c2,c3⟩,z2⟩:=I.list h2
 simp only at c1 c2 c3
 subst c1 c2 c3
 have l2:=r2.length
 have hn:¬ (!its.toArray.isEmpty&&Builtin.List.listTooLong (its.toArray.size+jts.toArray.size))=true:=by
  rw [size_toArray,size_toArray,tJ (by omega),Bool.and_false]
  exact Bool.false_ne_true
 refine call_meets F.slot_list_extend ⟨_,e,rfl⟩ F.entry_list_extend (F.args_list_extend_2 _ _) (CF l b its.toArray jts.toArray n k sl hn (by rw [size_toArray];omega) (by rw [size_toArray,size_toArray];omega)) ⟨e,e2,?_⟩
 refine ⟨.non,_,I.lset (its':=its++jts) h1 e (by simp) (r.append r2) ?_,rfl,q⟩
 rw [length_append]
 omega
end
section
variable {K:Frag} {ρ:Ξ}
def mV {G:Hp}:∀ ws:Ω,ay K ρ G (ws.map V.str) (ws.map W.str)
 | []=>.nil
 | w::ws=>.cons (.str w) (mV ws)
def tQ {H:Hp} {x:V} {d:W} {a:Addr} {ws:Ω} {b:Bool} (h:eK K H a (ws.map V.str)) (hx:Dw K ρ H x d) (e:kF d (.tuple (ws.map W.str))=some b):fH x=true/\(ws.map V.str).all fH=true/\Hb x (ws.map V.str)=b:=by
 obtain ⟨ds,e1,e⟩:=oB e
 obtain ⟨v,e2,e⟩:=oB e
 obtain ⟨vs,e3,rfl⟩:=oM e
 cases e1
 obtain ⟨rfl,f1⟩:=uO hx e2
 obtain ⟨rfl,f2⟩:=qk (K:=K) (ρ:=ρ) (H:=H) (mV ws) e3
 exact ⟨f1,f2,rfl⟩
def Ba {neg:Bool} {ta:TE} {fa:μ} {a:Addr} {ws:Ω} (hs:∀ G,eK K G a (ws.map V.str)) (ha:DK K ρ ta fa) {G:Hp} {σ:St} {H:Hp} {δ:DS} {b:Bool} {Q:VK} (R:Rl K ρ G H δ σ) (e:aG (if neg then i9 else kF) fa (dC (.tuple (ws.map W.str))) δ=some b) (q:∀ G' H',Gr G H G' H'->Q (.bl b) H'):tT (Fi K neg) ta (tC (.ref a)) σ H Q:=by
 obtain ⟨x,ex,e⟩:=oB e
 have e:(if neg then i9 else kF) x (.tuple (ws.map W.str))=some b:=e
 refine ha G σ H δ x _ R ex λ v G1 H1 g1 dv=>?_
 have dv:=dv.dp g1.s
 cases neg with
 | false=>
  obtain ⟨f1,f2,rfl⟩:=tQ (hs H1) dv e
  exact ⟨a,_,rfl,.inr (hs H1),f1,f2,q G1 H1 g1⟩
 | true=>
  obtain ⟨b',e',rfl⟩:=oM e
  obtain ⟨f1,f2,rfl⟩:=tQ (hs H1) dv e'
  exact ⟨a,_,rfl,.inr (hs H1),f1,f2,q G1 H1 g1⟩
def y2 {ta:TE} {fa:μ} {a:Addr} {ws:Ω} (hs:∀ G,eK K G a (ws.map V.str)) (ha:DK K ρ ta fa):DT K ρ (xy (tT (Fi K true) ta (tC (.ref a)))) (aG i9 fa (dC (.tuple (ws.map W.str)))):=λ G σ H δ b Q R e q=>
 Ba (neg:=true) hs ha R e λ G' H' g=>⟨b,rfl,q G' H' g⟩
noncomputable def g8 (i:Nat) (f:μ):DS->Option dt:=λ δ=>(lC i δ).bind λ ds=>(f δ).bind λ d=>(fR d).bind λ es=>if ds.length+es.length<=sizeLine then some (.nx (δ.set i (.own (ds++es)))) else none
def jr {i:Nat} {t:TE} {f:μ} (h:DE K ρ t f):oh K ρ (tU (IU K "list" (nN K) (ym i) (fX t j4))) (g8 i f):=λ G0 H0 G σ H δ o D I e p=>by
 obtain ⟨ds,eo,e⟩:=oB e
 obtain ⟨d,ed,e⟩:=oB e
 obtain ⟨es,ee,e⟩:=oB e
 split at e
 case isFalse=>cases e
 rename_i hz
 cases e
 cases eM ee
 have ho:=oe eo
 obtain ⟨o,h1,q,vs,rfl,h3,h4,h5⟩:=I.rl.sl i _ ho
 refine ⟨.ref q,h1,.inl ⟨rfl,vs,cD.of h4⟩,h G σ H δ _ _ I.rl ed λ v G1 H1 g1 dv=>?_⟩
 have I1:=I.grow g1
 cases dv with
 | lst sq da=>
  refine ⟨q,_,vs,_,rfl,rfl,g1.h _ _ h4,g1.s.seq sq,by rw [h5.length,da.length];exact hz,?_⟩
  exact p σ G1 _ (I1.put ho h1 (g1.n q (.l h4) h3) ((h5.same g1.g).app da))
end
structure Dx (K:Frag) (x q:Str) (st:Stmt) (f:Addr) (fd:FuncData):Prop where
 ex:∃ (dV oc kV dc pm cd ct:Value) (od an:Option Addr) (sl:Array (Option Value)),fd=PySem.W.fnOf x q (dy st) (cS st) (bn st) dV kV dc pm an cd ct/\K.lookup f=some ⟨oc,od,.func fd,sl⟩/\PySem.W.codeIn K cd q=true
 kp:PySem.W.keepIn K (.ref f)=true
def Dx.ok {P:Program} {w:World} {K:Frag} {mg:Θ} {base:Heap} {x q:Str} {st:Stmt} {f:Addr} {fd:FuncData} {N ps:Ω} {k:Nat} {sp:Sp} (F:Dx K x q st f fd) (S:fY N ps (bn st)) (hl:∀ vs H Q E,sp vs H Q E->vs.length=ps.length)
 (hb:∀ (cd:Value) (A:Around) (outer:List Env) (s:Shared) (H:Hp) (vs:List V) (Q:VK) (E:XK),d7 k (A.deeper (envOfC q (bn st) s.heap.objs.size f cd))->sp vs H Q E->
  ∃ t,uc (uz F5 P w K mg base N q (bn st) f cd A outer s H E).nox (cS st) t/\t ({ nx:=λ _ H'=>Q V.non H',rt:=Q }:iI) (start N vs) H):fO P w K mg base F5 (k+1) f fd ps sp:=by
 obtain ⟨dV,oc,kV,dc,pm,cd,ct,od,an,sl,rfl,lk,hc⟩:=F.ex
 refine KZ lk hc S hl λ A outer s H vs Q E hr hs=>?_
 obtain ⟨t,h,r⟩:=hb cd A outer s H vs Q E hr hs
 exact ⟨t,h.nox,r⟩
def j8 {K:Frag} {x q:Str} {st:Stmt} {f:Addr} {dV oc kV dc pm cd ct:Value} {od an:Option Addr} {sl:Array (Option Value)} (l:K.lookup f=some ⟨oc,od,.func (PySem.W.fnOf x q (dy st) (cS st) (bn st) dV kV dc pm an cd ct),sl⟩) (c:PySem.W.codeIn K cd q=true) (k:PySem.W.keepIn K (.ref f)=true):Dx K x q st f (PySem.W.fnOf x q (dy st) (cS st) (bn st) dV kV dc pm an cd ct):=⟨⟨dV,oc,kV,dc,pm,cd,ct,od,an,sl,rfl,l,c⟩,k⟩
section
variable {K:Frag} {ρ:Ξ}
noncomputable def mG (f:List W->Option W) (fa:θ):DS->Option W:=λ δ=>(fa δ).bind λ ds=>f (ds++[.none])
def A4 {f:List W->Option W} {t:TA} {fa:θ} {E:XK} (h:DA K ρ t fa):DE K ρ (pU (kI K f) [.non] E t) (mG f fa):=λ G σ H δ d Q R e q=>by
 obtain ⟨ds,ed,e⟩:=oB e
 exact h G σ H δ ds _ R ed λ vs G1 H1 g1 da=>⟨ρ,G1,ds++[.none],d,g1.s,da.app (.cons .non .nil),e,λ v G2 H2 g2 dv=>q v G2 H2 (g1.trans g2) dv⟩
end
noncomputable def nQ (i j:Int):Bool:=decide (0<=j)&&decide (j<=1000)&&decide (i.natAbs<2^64)
noncomputable def kf:W->W->Option W:=C6 nQ λ i j=>i^j.toNat
def Hh {K:Frag} {ρ:Ξ}:DR K ρ (rI JG λ i j=>.int (i^j.toNat)) kf:=x8 λ i j h=>by
 simp only [nQ,and_eq_true,decide_eq_true_eq] at h
 exact ⟨h.1.1,by omega,h.2⟩
def Bq:bb [V.non] [Value.none]:=.cons rfl .nil
section
variable {K:Frag} {cl:Str->Addr} {E:XK}
noncomputable def eP:List W->Option (List aA)
 | []=>some []
 | d::ds=>(eW d).bind λ k=>(eP ds).map (k::·)
noncomputable def eC:W->Option (List aA)
 | .tuple ds=>eP ds
 | _=>none
def sE {ρ:Ξ} {G:Hp} {vs:List V} {ds:List W} {ks:List aA} (h:ay K ρ G vs ds):eP ds=some ks->vs=ks.map kV:=
 h.ind (M:=λ vs ds=>∀ ks,eP ds=some ks->vs=ks.map kV) (λ ks e=>by cases e;rfl) (λ _ _ _ _ a ih ks e=>by
  obtain ⟨k,e1,e⟩:=oB e
  obtain ⟨ks,e2,rfl⟩:=oM e
  rw [oo a e1,ih _ e2]
  rfl) ks
def pX {ρ:Ξ} {G:Hp} {v:V} {d:W} {ks:List aA} (h:Dw K ρ G v d) (e:eC d=some ks):∃ b,v=.ref b/\G b=some (.tup (ks.map kV)):=by
 cases h with
 | tup sq da=>exact ⟨_,rfl,by rw [<-sE da e];exact sq⟩
 | _=>cases e
noncomputable def nh (x y:W) (S:ah):Option (Option W):=match df x S with
 | some (_,.dK kvs)=>(eW y).map λ k=>aQ kvs k
 | some (_,.dT kvs)=>(eC y).map λ k=>aQ kvs k
 | _=>none
def qt {ρ:Ξ} {G H:Hp} {S:ah} {v u:V} {x y:W} {o:Option W} (sg:bj G H) (s:SR K ρ cl G H S) (dv:Dw K ρ G v x) (du:Dw K ρ G u y) (h:nh x y S=some o):∃ a r,v=.ref a/\jY H a u r/\(match o with | some d=>∃ z,r=some z/\Dw K ρ G z d | none=>r=none):=by
 unfold nh at h
 split at h
 . rename_i n kvs e1
   obtain ⟨k,e3,e4⟩:=oM h
   obtain ⟨rfl,e5⟩:=cP e1
   obtain ⟨a,rfl,ea⟩:=cg dv
   obtain ⟨ga,ws,k1,k2⟩:=s.addr e5 ea
   obtain ⟨v1,v2⟩:=k2.val (k:=k)
   refine ⟨a,eL ws k,rfl,?_,?_⟩
   . rw [oo du e3]
     exact jY.k k1
   . cases o with
     | some d=>exact v1 d e4
     | none=>exact v2 e4
 . rename_i n kvs e1
   obtain ⟨k,e3,e4⟩:=oM h
   obtain ⟨rfl,e5⟩:=cP e1
   obtain ⟨a,rfl,ea⟩:=cg dv
   obtain ⟨ga,ws,k1,k2⟩:=s.addr e5 ea
   obtain ⟨v1,v2⟩:=k2.val (k:=k)
   obtain ⟨b,rfl,hb⟩:=pX du e3
   refine ⟨a,eL ws k,rfl,jY.t k1 (sg _ _ hb),?_⟩
   . cases o with
     | some d=>exact v1 d e4
     | none=>exact v2 e4
 . cases h
noncomputable def ja (fo fk:ζ):DS->ah->SM W:=λ δ S=>aq (fo δ S) λ x S1=>aq (fk δ S1) λ y S2=>(nh x y S2).bind λ o=>iq o S2
def Ct {to tk:TE} {fo fk:ζ} (ho:SE K cl E to fo) (hk:SE K cl E tk fk):SE K cl E (EK to tk) (ja fo fk):=λ ρ G σ H δ S r S' Q R e q qx=>
 fK ho hk R e (λ x y S2 e2 v u ρ2 G2 H2 g2 s2 dv du=>by
  obtain ⟨o,e3,e4⟩:=oB e2
  obtain ⟨d,rfl,rfl,rfl⟩:=bp e4
  obtain ⟨a,r,rfl,h1,z,rfl,h2⟩:=qt g2.s s2 dv du e3
  exact ⟨a,z,rfl,h1,q d rfl z ρ2 G2 H2 g2 s2 h2⟩) qx
noncomputable def k8 (neg:Bool) (fk fo:ζ):DS->ah->SM Bool:=λ δ S=>aq (fk δ S) λ y S1=>aq (fo δ S1) λ x S2=>iq ((nh x y S2).map λ o=>if neg then !o.isSome else o.isSome) S2
def GT {to tk:TE} {fo fk:ζ} (hk:SE K cl E tk fk) (ho:SE K cl E to fo):ST K cl E (tB (K3 tk to)) (k8 false fk fo):=λ ρ G σ H δ S r S' Q R e q qx=>
 fK hk ho R e (λ y x S2 e2 u v ρ2 G2 H2 g2 s2 du dv=>by
  obtain ⟨b,e3,rfl,rfl⟩:=bp e2
  obtain ⟨o,e4,rfl⟩:=oM e3
  obtain ⟨a,r,rfl,h1,h2⟩:=qt g2.s s2 dv du e4
  have hb:r.isSome=o.isSome:=by
   cases o with
   | some d=>obtain ⟨z,rfl,_⟩:=h2;rfl
   | none=>rw [show r=none from h2];rfl
  refine ⟨a,r,rfl,h1,?_⟩
  rw [hb]
  exact ⟨o.isSome,rfl,q _ rfl ρ2 G2 H2 g2 s2⟩) qx
def xN {to tk:TE} {fo fk:ζ} (hk:SE K cl E tk fk) (ho:SE K cl E to fo):ST K cl E (tB (xz tk to)) (k8 true fk fo):=λ ρ G σ H δ S r S' Q R e q qx=>
 fK hk ho R e (λ y x S2 e2 u v ρ2 G2 H2 g2 s2 du dv=>by
  obtain ⟨b,e3,rfl,rfl⟩:=bp e2
  obtain ⟨o,e4,rfl⟩:=oM e3
  obtain ⟨a,r,rfl,h1,h2⟩:=qt g2.s s2 dv du e4
  have hb:r.isSome=o.isSome:=by
   cases o with
   | some d=>obtain ⟨z,rfl,_⟩:=h2;rfl
   | none=>rw [show r=none from h2];rfl
  refine ⟨a,r,rfl,h1,?_⟩
  rw [hb]
  exact ⟨!o.isSome,rfl,q _ rfl ρ2 G2 H2 g2 s2⟩) qx
noncomputable def nY (x y d:W) (S:ah):Option ah:=match df x S with
 | some (n,.dK kvs)=>(eW y).bind λ k=>if kvs.length<sizeLine then some (S.set n (.dK (cZ kvs k d))) else none
 | some (n,.dT kvs)=>(eC y).bind λ k=>if kvs.length<sizeLine then some (S.set n (.dT (cZ kvs k d))) else none
 | _=>none
def C9 {ρ:Ξ} {G H:Hp} {S S':ah} {v u w:V} {x y d:W} (sg:bj G H) (s:SR K ρ cl G H S) (dv:Dw K ρ G v x) (du:Dw K ρ G u y) (dw:Dw K ρ G w d) (h:nY x y d S=some S'):∃ a H',v=.ref a/\qf H a u w H'/\SR K ρ cl G H' S'/\GS ρ G H ρ G H':=by
 unfold nY at h
 split at h
 . rename_i n kvs e1
   obtain ⟨k,e3,e4⟩:=oB h
   split at e4
   case isFalse=>cases e4
   rename_i hl
   cases e4
   obtain ⟨rfl,e5⟩:=cP e1
   obtain ⟨a,rfl,ea⟩:=cg dv
   obtain ⟨ga,ws,k1,k2⟩:=s.addr e5 ea
   obtain ⟨s4,g4⟩:=s.put (x:=.dK (eX ws k w)) (o':=.dK (cZ kvs k d)) sg e5 ea (λ b z=>by cases z) ⟨_,aJ,k2.put dw⟩
   refine ⟨a,_,rfl,?_,s4,g4⟩
   rw [oo du e3]
   exact qf.k k1 (by rw [<-k2.length];exact hl)
 . rename_i n kvs e1
   obtain ⟨k,e3,e4⟩:=oB h
   split at e4
   case isFalse=>cases e4
   rename_i hl
   cases e4
   obtain ⟨rfl,e5⟩:=cP e1
   obtain ⟨a,rfl,ea⟩:=cg dv
   obtain ⟨ga,ws,k1,k2⟩:=s.addr e5 ea
   obtain ⟨s4,g4⟩:=s.put (x:=.dT (eX ws k w)) (o':=.dT (cZ kvs k d)) sg e5 ea (λ b z=>by cases z) ⟨_,aJ,k2.put dw⟩
   obtain ⟨b,rfl,hb⟩:=pX du e3
   exact ⟨a,_,rfl,qf.t k1 (sg _ _ hb) (by rw [<-k2.length];exact hl),s4,g4⟩
 . cases h
noncomputable def gS (fo fk fv:ζ):DS->ah->SO:=λ δ S=>iV (fv δ S) λ d S1=>iV (fo δ S1) λ x S2=>iV (fk δ S2) λ y S3=>(nY x y d S3).map λ S4=>(.nx δ,S4)
def xn {to tk tv:TE} {fo fk fv:ζ} (ho:SE K cl E to fo) (hk:SE K cl E tk fk) (hv:SE K cl E tv fv):me K cl E (EH to tk tv) (gS fo fk fv):=λ ρ0 G0 H0 ρ G σ H δ S o S' D I e p=>
 eg hv I e p λ d S1 e1 v ρ1 G1 H1 g1 s1 dv=>by
  have I1:=I.grow g1 s1
  refine eg ho I1 e1 p λ x S2 e2 u ρ2 G2 H2 g2 s2 du=>?_
  have I2:=I1.grow g2 s2
  refine eg hk I2 e2 p λ y S3 e3 w ρ3 G3 H3 g3 s3 dw=>?_
  obtain ⟨S4,e4,e5⟩:=oM e3
  cases e5
  have g23:=g2.trans g3
  obtain ⟨a,H4,rfl,h1,s4,g4⟩:=C9 g3.s s3 ((du.ext g3.r).same g3.g) dw ((dv.ext g23.r).same g23.g) e4
  exact ⟨a,_,rfl,h1,p σ ρ3 G3 _ ((I2.grow g3 s3).grow g4 s4)⟩
end
def d7.units1 {k:Nat} {A:Around} (r:d7 k A):A.units+1<cLine:=Nat.lt_of_le_of_lt (by omega) r.units
section
variable {K:Frag} {cl:Str->Addr} {E:XK}
noncomputable def Ax (fo:ζ):DS->ah->SM W:=λ δ S=>aq (fo δ S) λ x S1=>(fj x S1).bind λ p=>(p.2[p.2.length-1]?).map λ d=>(.ok d,S1.set p.1 (.lst p.2.dropLast))
def ay.dropL {ρ:Ξ} {G:Hp} {vs:List V} {ds:List W} (h:ay K ρ G vs ds):ay K ρ G vs.dropLast ds.dropLast:=by rw [List.dropLast_eq_take,List.dropLast_eq_take,h.length];exact h.take _
def IH {to:TE} {fo:ζ} (ho:SE K cl E to fo):SE K cl E (De K "list" Hr to) (Ax fo):=λ ρ G σ H δ S r' S' Q R e q qx=>
 ci ho R e (λ x S2 e2 v ρ2 G2 H2 g2 s2 dv=>by
  obtain ⟨⟨n,ds⟩,e3,e4⟩:=oB e2
  obtain ⟨d,e5,e6⟩:=oM e4
  cases e6
  obtain ⟨rfl,e7⟩:=cy e3
  obtain ⟨a,rfl,ea⟩:=cg dv
  obtain ⟨ga,vs,k1,k2⟩:=s2.addr e7 ea
  obtain ⟨z,h1,h2⟩:=k2.get e5
  obtain ⟨s4,g4⟩:=s2.put (x:=.lst vs.dropLast) (o':=.lst ds.dropLast) g2.s e7 ea (λ b z=>by cases z) ⟨_,aJ,k2.dropL⟩
  exact ⟨.inl ⟨rfl,vs,cD.of k1⟩,a,vs,z,rfl,rfl,k1,by rw [k2.length];exact h1,q d rfl z ρ2 G2 _ (g2.trans g4) s4 h2⟩) qx
end
noncomputable def yO (g:List W->Option W) (fa:θ):DS->Option W:=λ δ=>(fa δ).bind g
section
variable {K:Frag} {ρ:Ξ}
end
section
variable {K:Frag} {cl:Str->Addr} {E:XK}
end
open PySem.AutoSeq1 (wpAny_loadPart')
section
variable {prog:Program} {w:World} {A:Around} {E:Γ} {s:Shared}
end
open PySem.AutoSeq1 (wpAny_loadPart')
section
variable {prog:Program} {w:World} {A:Around} {E:Γ} {s:Shared}
end
section
variable {M:Model} {A:Around} {E:Γ} {s:Shared} {env:Env}
end
noncomputable def uH (k:Nat) (ds:List W):List W:=(List.range ds.length).map λ (i:Nat)=>.tuple [.int ((k+i:Nat):Int),ds[i]?.getD .none]
section
variable {K:Frag} {ρ:Ξ}
noncomputable def Ip:W->Option (List W)
 | .tuple ds=>some ds
 | _=>none
def DV {d:W} {ds:List W} (h:Ip d=some ds):d=.tuple ds:=by
 cases d <;> first | (cases h;rfl) | cases h
def HQ (ds:List W):Ip (.tuple ds)=some ds:=rfl
noncomputable def oW (f:μ) (lo hi:DS->Option (Option Int)):DS->Option W:=λ δ=>(f δ).bind λ d=>(Ip d).bind λ ds=>(lo δ).bind λ l=>(hi δ).map λ u=>.tuple (io ds l u)
def zG {t:TE} {tl th:TO} {f:μ} {lo hi:DS->Option (Option Int)} (h:DE K ρ t f) (hl:Es K ρ tl lo) (hh:Es K ρ th hi):DE K ρ (Ml (ES K) t tl th) (oW f lo hi):=λ G σ H δ d Q R e q=>by
 obtain ⟨x,ed,e⟩:=oB e
 obtain ⟨es,ee,e⟩:=oB e
 obtain ⟨l,el,e⟩:=oB e
 obtain ⟨u,eu,rfl⟩:=oM e
 cases DV ee
 refine h G σ H δ _ _ R ed λ v G1 H1 g1 dv=>hl G1 σ H1 δ l _ (R.grow g1) el λ G2 H2 g2=>hh G2 σ H2 δ u _ ((R.grow g1).grow g2) eu λ G3 H3 g3=>?_
 have g23:=g2.trans g3
 have g:=g1.trans g23
 obtain ⟨p,vs,rfl,sq,da⟩:=qu (dv.same g23.g)
 refine ⟨p,vs,rfl,eK.of (g.s _ _ sq),?_⟩
 by_cases hw:HT.sIx vs.length 0 l=0/\HT.sIx vs.length vs.length u=vs.length
 . refine .inl ⟨hw.1,hw.2,q _ G3 H3 g ?_⟩
   have e1:io es l u=es:=by
    unfold io
    rw [<-da.length,hw.1,hw.2,da.length]
    simp
   rw [e1]
   exact .tup sq da
 . refine .inr ⟨hw,λ r H' n=>?_⟩
   have g4:=Gr.nw g.s n
   exact q _ _ H' (g.trans g4) (.tup aJ ((da.cut l u).same g4.g))
noncomputable def x6 (T:String):W->Option W
 | .list _=>if T = "list" then some (.bool true) else none
 | .tuple _=>if T = "tuple" then some (.bool true) else none
 | d=>BA T d
def FV (ds:List W):x6 "list" (.list ds)=some (.bool true):=by simp [x6]
def FZ (ds:List W):x6 "tuple" (.tuple ds)=some (.bool true):=by simp [x6]
end
section
variable {K:Frag} {cl:Str->Addr} {E:XK}
end
def L9 {X:Cx} {K:Frag} {e:Expr} {f:Str} {pos:Pos} {ta:TE} (hK:X.K=K) (he:PE X e ta) (hb:attributeBase e f X.env (eval e X.env)=eval e X.env):PE X (.Attribute e f pos) (HL K ta f):=hK▸GC he hb
def Fs {α:Type} (x y:α) (r:List α):fu (x::y::r) 1=some y:=by
 unfold fu ug
 rw [if_pos (by decide),if_pos (by simp;omega)]
 rfl
def r9 {α:Type} (x:α) (r:List α):fu (x::r) 0=some x:=by
 unfold fu ug
 rw [if_pos (by decide),if_pos (by simp)]
 rfl
def sz (n:Nat) (h:n<=9000):n<=sizeLine:=le_trans h (by decide)
def fg {S:ah} {l:Nat} {es:List W} (h:S[l]?=some (.lst es)):fj (.ref l) S=some (l,es):=by simp [fj,df,h]
def fL {κ:Type} [DecidableEq κ]:∀ (kvs:List (κ×W)) (k q:κ) (x:W),aQ kvs k=none->aQ (kvs++[(k,x)]) q=if q=k then some x else aQ kvs q:=λ kvs k q x h=>by
 induction kvs with
 | nil=>
  by_cases e:q=k
  . subst e;simp [aQ]
  . have e':¬ k=q:=λ z=>e z.symm
    simp [aQ,e,e']
 | cons p r ih=>
  obtain ⟨j,y⟩:=p
  by_cases hj:j=k
  . subst hj
    simp [aQ,find?_cons] at h
  . have h':aQ r k=none:=by simpa [aQ,find?_cons,hj] using h
    have ih':=ih h'
    by_cases hq:j=q
    . subst hq
      simp [aQ,find?_cons,hj]
    . simp only [aQ,List.cons_append,find?_cons,hq,decide_false] at ih' ⊢
      exact ih'
def lc {κ:Type} [DecidableEq κ] {kvs:List (κ×W)} {k:κ} (x:W) (h:aQ kvs k=none):cZ kvs k x=kvs++[(k,x)]:=by
 unfold cZ
 rw [if_neg]
 intro ha
 obtain ⟨kv,h1,h2⟩:=any_eq_true.mp ha
 unfold aQ at h
 have h3:kvs.find? (λ kv=>decide (kv.1=k))=none:=by
  cases hf:kvs.find? (λ kv=>decide (kv.1=k)) with
  | none=>rfl
  | some z=>rw [hf] at h;cases h
 exact absurd h2 (by simpa using find?_eq_none.mp h3 kv h1)
def aS {S:ah} {m:Nat} {o x:Ob} (h:S[m]?=some o):(S++[x])[m]?=some o:=by
 rw [getElem?_append_left (oG h).1]
 exact h
def gP (B:List Int) (i:Int) (h0:0<=i) (h1:i<B.length):fu (B.map W.int) i=some (.int (B[i.toNat]?.getD 0)):=by
 unfold fu ug
 rw [if_pos h0,if_pos (by simpa using h1)]
 have h2:i.toNat<B.length:=by omega
 simp [getElem?_eq_getElem h2]
def f6 (lo:Int) (n:Nat):eZ lo (n+1)=.int lo::eZ (lo+1) n:=by
 unfold eZ
 rw [List.range_succ_eq_map,map_cons,map_map]
 congr 1
 . simp
 . apply List.map_congr_left
   intro a _
   show W.int (lo+((a+1:Nat):Int))=W.int (lo+1+(a:Int))
   congr 1
   omega
def re (h:η) (fe:ζ) (δ δ2:DS) (d e:W) (ds es:List W) (S S1 S2:ah) (h1:h d δ=some δ2) (h2:fe δ2 S=some (.ok e,S1)) (h3:b9 h (ab gN) fe δ ds S1=some (.ok es,S2)):b9 h (ab gN) fe δ (d::ds) S=some (.ok (e::es),S2):=by
 show (h d δ).bind _=_
 rw [h1]
 show aq (fe δ2 S) _=_
 rw [h2]
 show aq (b9 h (ab gN) fe δ ds S1) _=_
 rw [h3]
 rfl
def bt {a n:Nat} {fb:τ} {ds:List W} {S:ah} (h:ds.length=a):cT a n fb ds S=fw (fb (bL n ds) S):=if_pos h
def ai {f g:τ} {δ δ':DS} {S S':ah} (h:f δ S=some (.nx δ',S')):aF f g δ S=g δ' S':=by unfold aF;rw [h]
def dZ {c:DS->ah->SM Bool} {f g:τ} {δ:DS} {S S1:ah} (h:c δ S=some (.ok true,S1)):dq c f g δ S=f δ S1:=by unfold dq;rw [h];rfl
def bP {c:DS->ah->SM Bool} {f g:τ} {δ:DS} {S S1:ah} (h:c δ S=some (.ok false,S1)):dq c f g δ S=g δ S1:=by unfold dq;rw [h];rfl
def bf {f:ζ} {h:η} {δ δ':DS} {S S1:ah} {d:W} (h1:f δ S=some (.ok d,S1)) (h2:h d δ=some δ'):cz f h δ S=some (.nx δ',S1):=by
 unfold cz
 rw [h1]
 show (h d δ).map _=_
 rw [h2]
 rfl
def cM {fi:Υ} {h:η} {fb:τ} {δ:DS} {S S1:ah} {ds:List W} (h1:fi δ S=some (.ok ds,S1)):fG fi h fb δ S=bx h fb ds δ S1:=by unfold fG;rw [h1];rfl
def bK {h:η} {fb:τ} {d:W} {ds:List W} {δ δ2 δ':DS} {S S':ah} (h1:h d δ=some δ2) (h2:fb δ2 S=some (.nx δ',S')):bx h fb (d::ds) δ S=bx h fb ds δ' S':=by
 show (h d δ).bind _=_
 rw [h1]
 show (match fb δ2 S with | some (.nx δ',S')=>_ | some (.ct δ',S')=>_ | some (.bk δ',S')=>_ | some (.rt d,S')=>_ | some (.xc c,S')=>_ | none=>_)=_
 rw [h2]
def jP {ix:Λ} {fi:Υ} {h:η} {c:DS->ah->SM Bool} {fe:ζ} {δ:DS} {S S0 S1:ah} {ds es:List W} (h1:fi δ S=some (.ok ds,S0)) (h2:ds.length<=sizeLine) (h3:b9 h c fe (bF ix δ) ds S0=some (.ok es,S1)):nA ix fi h c fe δ S=some (.ok (.list es),S1):=by
 unfold nA
 rw [h1]
 show (if ds.length<=sizeLine then _ else _)=_
 rw [if_pos h2,h3]
 rfl
def xY {m:Nat} {n:Nat×Bool} {ix:Λ} {fi:DS->ah->SM (Nat×Bool)} {h:η} {c:DS->ah->SM Bool} {fe:ζ} {δ:DS} {S S0 S1:ah} {es:List W} (h1:fi δ S=some (.ok n,S0)) (h2:m<=sizeLine) (h3:bV n h c fe (bF ix δ) m 0 S0=some (.ok es,S1)):mX m ix fi h c fe δ S=some (.ok (.list es),S1):=by
 unfold mX
 rw [h1]
 show (if m<=sizeLine then _ else _)=_
 rw [if_pos h2,h3]
 rfl
def bG (i:Int) {j:Int} (h:0<j):0<=i.fmod j/\i.fmod j<j:=⟨Int.fmod_nonneg_of_pos i h,Int.fmod_lt_of_pos i h⟩
def xp {S:ah} {l:Nat} {es:List W} (h:S[l]?=some (.lst es)):fZ S (l,false)=some es:=by simp [fZ,pS,h]
mutual
noncomputable def hJ:W->Bool
 | .none | .bool _ | .int _=>true
 | .str x=>strOk x
 | .list ds | .tuple ds=>cC ds
 | .ref _=>false
noncomputable def cC:List W->Bool
 | []=>true
 | d::ds=>hJ d&&cC ds
end
mutual
noncomputable def cF:W->Nat
 | .list ds | .tuple ds=>bQ ds+1
 | _=>0
noncomputable def bQ:List W->Nat
 | []=>0
 | d::ds=>max (cF d) (bQ ds)
end
mutual
theorem vo:∀ (d:W),hJ d=true->∃ a,d.py=some a/\a.canLay0=true/\a.depth=cF d/\PyData.eqv a a=true
 | .none,_=>⟨.none,rfl,by simp [canLay0],by simp [PyData.depth,cF],by simp [PyData.eqv]⟩
 | .bool b,_=>⟨.bool b,rfl,by simp [canLay0],by simp [PyData.depth,cF],by simp [PyData.eqv]⟩
 | .int i,_=>⟨.int i,rfl,by simp [canLay0],by simp [PyData.depth,cF],by simp [PyData.eqv]⟩
 | .str x,h=>⟨.str x,rfl,by simpa [canLay0,hJ] using h,by simp [PyData.depth,cF],by simp [PyData.eqv]⟩
 | .list ds,h=>by
  obtain ⟨xs,e1,e2,e3,e4⟩:=qW ds (by simpa [hJ] using h)
  exact ⟨.list xs,by simp [W.py,e1],by simpa [canLay0] using e2,by simp [PyData.depth,cF,e3],by simpa [PyData.eqv] using e4⟩
 | .tuple ds,h=>by
  obtain ⟨xs,e1,e2,e3,e4⟩:=qW ds (by simpa [hJ] using h)
  exact ⟨.tuple xs,by simp [W.py,e1],by simpa [canLay0] using e2,by simp [PyData.depth,cF,e3],by simpa [PyData.eqv] using e4⟩
 | .ref _,h=>by simp [hJ] at h
theorem qW:∀ (ds:List W),cC ds=true->∃ xs,W.pys ds=some xs/\canLayAll0 xs=true/\PyData.depthAll xs=bQ ds/\eqvAll xs xs=true
 | [],_=>⟨[],rfl,by simp [canLayAll0],by simp [PyData.depthAll,bQ],by simp [eqvAll]⟩
 | d::ds,h=>by
  have h':hJ d=true/\cC ds=true:=by simpa [cC] using h
  obtain ⟨a,a1,a2,a3,a4⟩:=vo d h'.1
  obtain ⟨xs,e1,e2,e3,e4⟩:=qW ds h'.2
  exact ⟨a::xs,by simp [W.pys,a1,e1],by simp [canLayAll0,a2,e2],by simp [PyData.depthAll,bQ,a3,e3],by simp [eqvAll,a4,e4]⟩
end
def jW {ds:List W} (h:∀ d∈ds,hJ d=true):cC ds=true:=by
 induction ds with
 | nil=>rfl
 | cons d ds ih=>simp [cC,h d (by simp),ih λ e he=>h e (by simp [he])]
def kQ {ds:List W} {n:Nat} (h:∀ d∈ds,cF d<=n):bQ ds<=n:=by
 induction ds with
 | nil=>simp [bQ]
 | cons d ds ih=>
  have:=h d (by simp)
  have:=ih λ e he=>h e (by simp [he])
  simp [bQ]
  omega
def zH {d:W} (h:hJ d=true) (b:Bool) (e:Jl d d=some b):b=true:=by
 cases d with
 | none=>exact (Option.some.inj e).symm
 | int i=>exact (Option.some.inj e).symm.trans (by simp)
 | bool i=>exact (Option.some.inj e).symm.trans (by simp)
 | str i=>exact (Option.some.inj e).symm.trans (by simp)
 | _=>cases e
mutual
theorem AT (S:ah):∀ (n:Nat) (d:W),hJ d=true->cF d<n->AY S n d=d.py
 | 0,d,_,h=>absurd h (not_lt_zero _)
 | n+1,.none,_,_=>rfl
 | n+1,.bool b,_,_=>rfl
 | n+1,.int i,_,_=>rfl
 | n+1,.str x,_,_=>rfl
 | n+1,.list ds,h,hd=>by
  show (rh (AY S n) ds).map PyData.list=(W.pys ds).map .list
  rw [qh S n ds (by simpa [hJ] using h) (by simp [cF] at hd;omega)]
 | n+1,.tuple ds,h,hd=>by
  show (rh (AY S n) ds).map PyData.tuple=(W.pys ds).map .tuple
  rw [qh S n ds (by simpa [hJ] using h) (by simp [cF] at hd;omega)]
 | n+1,.ref m,h,_=>by simp [hJ] at h
theorem qh (S:ah):∀ (n:Nat) (ds:List W),cC ds=true->bQ ds<n->rh (AY S n) ds=W.pys ds
 | n,[],_,_=>rfl
 | n,d::ds,h,hd=>by
  have h':hJ d=true/\cC ds=true:=by simpa [cC] using h
  simp only [bQ] at hd
  show (AY S n d).bind _=(W.py d).bind _
  rw [AT S n d h'.1 (by omega),qh S n ds h'.2 (by omega)]
end
def nB {S:ah} {d:W} (neg:Bool) (h:hJ d=true) (hd:cF d<24):yD neg d d S=some (!neg):=by
 obtain ⟨a,a1,a2,a3,a4⟩:=vo d h
 unfold yD
 split
 . rename_i b e
   rw [zH h b e]
   cases neg <;> rfl
 . rw [AT S 24 d h hd,a1]
   cases neg <;> simp [a2,a3,a4] <;> omega
def Bb {α:Type} (l:List α) (k:Nat) (h:k<l.length):fu l (k:Int)=l[k]?:=by
 unfold fu ug
 rw [if_pos (by omega),if_pos (by omega)]
 simp
def NY {α:Type} (a b c:α) (r:List α):fu (a::b::c::r) 2=some c:=(Bb _ 2 (by simp)).trans rfl
def Oz {α:Type} (a b c d:α) (r:List α):fu (a::b::c::d::r) 3=some d:=(Bb _ 3 (by simp)).trans rfl
def Nz {α:Type} (a b c d e:α) (r:List α):fu (a::b::c::d::e::r) 4=some e:=(Bb _ 4 (by simp)).trans rfl
def Mt {α:Type} (a b c d e f:α) (r:List α):fu (a::b::c::d::e::f::r) 5=some f:=(Bb _ 5 (by simp)).trans rfl
def OQ {α:Type} (l:List α) (k:Nat) (h0:0<k) (h:k<=l.length):fu l (-(k:Int))=l[l.length-k]?:=by
 unfold fu ug
 rw [if_neg (by omega),if_pos (by omega)]
 have e2:(-(k:Int)+(l.length:Int)).toNat=l.length-k:=by omega
 simp [e2]
def zF (x:W) (r:List W):io (x::r) (some 1) none=r:=by
 unfold io
 rw [HT.sIx_none,show (some (1:Int))=some ((1:Nat):Int) from rfl,HT.sIx_nat]
 rw [show min 1 (x::r).length=1 by simp]
 simp
def Gh (l:List W) (a b:Nat):io l (some (a:Int)) (some (b:Int))=(l.drop a).take (b-a):=by
 unfold io
 rw [HT.sIx_nat,HT.sIx_nat]
 rcases lt_or_ge l.length a with h | h
 . rw [List.drop_of_length_le (le_of_lt h),show min a l.length=l.length by omega,drop_length]
   simp
 . rw [show min a l.length=a by omega]
   rcases lt_or_ge l.length b with h2 | h2
   . rw [show min b l.length=l.length by omega,take_of_length_le (by simp),take_of_length_le (by simp;omega)]
   . rw [show min b l.length=b by omega]
def Lg (l:List W) (a:Nat):io l (some (a:Int)) none=l.drop a:=by
 unfold io
 rw [HT.sIx_nat,HT.sIx_none]
 rcases lt_or_ge l.length a with h | h
 . rw [List.drop_of_length_le (le_of_lt h),show min a l.length=l.length by omega,drop_length]
   simp
 . rw [show min a l.length=a by omega,take_of_length_le (by simp)]
def iR {f:ζ} {δ:DS} {S S1:ah} {d:W} (h:f δ S=some (.ok d,S1)):bw f δ S=some (.nx δ,S1):=by unfold bw;rw [h];rfl
def bN {f:List W->ah->SM W} {fa:Υ} {δ:DS} {S S1 S2:ah} {ds:List W} {d:W} (h1:fa δ S=some (.ok ds,S1)) (h2:f ds S1=some (.ok d,S2)):bI f fa δ S=some (.ok d,S2):=by
 unfold bI
 rw [h1]
 show BQ (f ds S1)=_
 rw [h2]
 rfl
def zj {c m:Str} {f:List W->ah->SM W} {fo:μ} {fa:Υ} {δ:DS} {S S1 S2:ah} {I:Nat} {fs:List (Str×W)} {ds:List W} {d:W} (h1:fo δ=some (.ref I)) (h2:S[I]?=some (.ins c fs)) (h3:fs.lookup m=none) (h4:fa δ S=some (.ok ds,S1)) (h5:f (.ref I::ds) S1=some (.ok d,S2)):cJ c m f (ab fo) fa δ S=some (.ok d,S2):=by
 unfold cJ ab
 rw [h1]
 show (ie c (.ref I) S).bind _=_
 rw [show ie c (.ref I) S=some (I,fs) by simp [ie,df,h2]]
 show (if fs.lookup m=none then _ else _)=_
 rw [if_pos h3,h4]
 show BQ (f (.ref I::ds) S1)=_
 rw [h5]
 rfl
def ao {α:Type} {f:DS->Option α} {δ:DS} {S:ah} {d:α} (h:f δ=some d):ab f δ S=some (.ok d,S):=by unfold ab;rw [h];rfl
def aR {f:υ} {δ δ':DS} {S:ah} (h:f δ=some (.nx δ')):aE f δ S=some (.nx δ',S):=by unfold aE;rw [h];rfl
def lp {f:υ} {δ:DS} {S:ah} {d:W} (h:f δ=some (.rt d)):aE f δ S=some (.rt d,S):=by unfold aE;rw [h];rfl
def fF {f g:τ} {δ:DS} {S S':ah} {d:W} (h:f δ S=some (.rt d,S')):aF f g δ S=some (.rt d,S'):=by unfold aF;rw [h]
def dm {f:ζ} {δ:DS} {S S1:ah} {d:W} (h:f δ S=some (.ok d,S1)):fU f δ S=some (.rt d,S1):=by unfold fU;rw [h];rfl
def set_ne' {S:ah} {m k:Nat} {o x:Ob} (h:S[k]?=some o) (hne:m≠k):(S.set m x)[k]?=some o:=by rw [getElem?_set_ne hne];exact h
def set_eq' {S:ah} {m:Nat} {o x:Ob} (h:S[m]?=some o):(S.set m x)[m]?=some x:=jj (oG h).1
def bO {S:ah} {m k:Nat} {o x:Ob} (h:S[m]?=some o) (h2:S[k]?=some x) (hne:o≠x):m≠k:=λ e=>hne (by rw [e,h2] at h;exact (Option.some.inj h).symm)
def kK {κ:Type} [DecidableEq κ] (kvs:List (κ×W)) (k:κ) (x:W):(cZ kvs k x).length<=kvs.length+1:=by
 unfold cZ
 split <;> simp
def bT (S:ah) (o:Ob):(S++[o])[S.length]?=some o:=by simp
def bz {f:ζ} {g:Υ} {δ:DS} {S S1 S2:ah} {d:W} {ds:List W} (h1:f δ S=some (.ok d,S1)) (h2:g δ S1=some (.ok ds,S2)):bJ f g δ S=some (.ok (d::ds),S2):=by
 unfold bJ
 rw [h1]
 show aq (g δ S1) _=_
 rw [h2]
 rfl
def BM {c f:Str} {fo:μ} {fv:ζ} {δ:DS} {S S1:ah} {d:W} {n:Nat} {fs:List (Str×W)} (h1:fv δ S=some (.ok d,S1)) (h2:fo δ=some (.ref n)) (h3:S1[n]?=some (.ins c fs)) (h4:fs.length<1000):xf c f (ab fo) fv δ S=some (.nx δ,S1.set n (.ins c (xH f d fs))):=by
 have h5:ie c (.ref n) S1=some (n,fs):=by simp [ie,df,h3]
 simp only [xf,h1,iV,ab,h2,map_some,h5,bind_some,if_pos h4]
def AX {c:Str} {f:List W->ah->SM W} {fa:Υ} {δ:DS} {S S1 S2:ah} {ds:List W} (h1:fa δ S=some (.ok ds,S1)) (h2:f (.ref S1.length::ds) (S1++[.ins c []])=some (.ok .none,S2)):wq c f fa δ S=some (.ok (.ref S1.length),S2):=by
 simp only [wq,h1,aq,h2,BQ]
def dD {fo:μ} {fv:ζ} {δ:DS} {S:ah} {l:Nat} {q:List W} {d:W} (h1:fo δ=some (.ref l)) (h2:S[l]?=some (.lst q)) (h3:fv δ S=some (.ok d,S)) (h4:q.length<9000):cK (ab fo) fv δ S=some (.nx δ,S.set l (.lst (q++[d]))):=by
 have hz:q.length<sizeLine:=lt_of_lt_of_le h4 (sz 9000 (by decide))
 simp only [cK,ab,h1,iV,fg h2,isSome_some,if_true,h3,bind_some,if_pos hz,map_some]
def J7 {α:Type} (q:List α) (b:α):fu (q++[b]) (-1)=some b:=by
 have:=OQ (q++[b]) 1 (by decide) (by simp)
 simpa using this
def Ff {S:ah} {l:Nat} {es:List W} (h:S[l]?=some (.lst es)) (i:Int):zM (.ref l) (.int i) S=fu es i:=by simp only [zM,fg h,zS,bind_some]
def zJ:∀ (bs:List Bool),yv (bs.map .bool)=some bs
 | []=>rfl
 | b::bs=>by
  show ((some b).bind λ b=>(yv (bs.map .bool)).map (b::·))=_
  rw [zJ bs]
  rfl
def xD {κ:Type} [DecidableEq κ] (kvs:List (κ×W)) (k q:κ) (x:W):aQ (cZ kvs k x) q=if q=k then some x else aQ kvs q:=by
 by_cases h:aQ kvs k=none
 . rw [lc x h,fL kvs k q x h]
 . have ha:(kvs.any λ kv=>decide (kv.1=k))=true:=by
    cases e:kvs.any λ kv=>decide (kv.1=k) with
    | true=>rfl
    | false=>
     exact absurd (by
      unfold aQ
      rw [find?_eq_none.mpr λ z hz=>by simpa using List.any_eq_false.mp e z hz]
      rfl) h
   unfold cZ
   rw [if_pos ha]
   clear ha
   induction kvs with
   | nil=>simp [aQ] at h
   | cons p r ih=>
    obtain ⟨j,y⟩:=p
    by_cases hj:j=k
    . subst hj
      by_cases hq:q=j
      . subst hq;simp [aQ,find?_cons]
      . have hq':¬ j=q:=λ z=>hq z.symm
        rw [if_neg hq]
        clear ih h
        simp only [aQ,map_cons,if_true,find?_cons,hq',decide_false]
        induction r with
        | nil=>rfl
        | cons p r ih=>
         obtain ⟨i,z⟩:=p
         by_cases hi:i=j
         . subst hi;simpa [find?_cons,hq'] using ih
         . by_cases hiq:i=q
           . subst hiq;simp [find?_cons,hi]
           . simpa [find?_cons,hi,hiq] using ih
    . have h':¬ aQ r k=none:=by simpa [aQ,find?_cons,hj] using h
      have ih':=ih h'
      by_cases hjq:j=q
      . subst hjq;simp [aQ,find?_cons,hj]
      . simpa [aQ,find?_cons,hj,hjq] using ih'
inductive Al (R:W->W->Prop):List W->List W->Prop
 | nil:Al R [] []
 | cons {x y:W} {a b:List W}:R x y->Al R a b->Al R (x::a) (y::b)
def AB {n:Nat×Bool} {h:η} {fe:ζ} {S:ah} {es:List W} {δ:DS} {R:W->W->Prop} (hl:fZ S n=some es) (hh:∀ x y,R x y->∃ δ2,h x δ=some δ2/\fe δ2 S=some (.ok y,S)) {a b:List W} (A:Al R a b):∀ (m i:Nat),es.drop i=a->a.length<m->bV n h (ab gN) fe δ m i S=some (.ok b,S):=by
 induction A with
 | nil=>
  intro m i e hm
  obtain ⟨m,rfl⟩:∃ k,m=k+1:=⟨m-1,by omega⟩
  show (fZ S n).bind _=_
  rw [hl]
  show (match es[i]? with | none=>_ | some d=>_)=_
  rw [getElem?_eq_none (by simpa using e)]
 | cons r _ ih=>
  rename_i x y a b _
  intro m i e hm
  obtain ⟨m,rfl⟩:∃ k,m=k+1:=⟨m-1,by simp at hm;omega⟩
  have hi:i<es.length:=Nat.lt_of_not_le λ hc=>by rw [List.drop_of_length_le hc] at e;cases e
  rw [drop_eq_getElem_cons hi] at e
  obtain ⟨e1,e2⟩:=List.cons.inj e
  obtain ⟨δ2,h1,h2⟩:=hh x y r
  show (fZ S n).bind _=_
  rw [hl]
  show (match es[i]? with | none=>_ | some d=>_)=_
  rw [getElem?_eq_getElem hi,e1]
  show (h x δ).bind _=_
  rw [h1]
  show aq (fe δ2 S) _=_
  rw [h2]
  show aq (bV n h (ab gN) fe δ m (i+1) S) _=_
  rw [ih m (i+1) e2 (by simp at hm;omega)]
  rfl
noncomputable def AM:Nat->List W->List W
 | _,[]=>[]
 | k,x::r=>.tuple [.int (k:Int),x]::AM (k+1) r
def wI:∀ (l:List W) (k i:Nat),(AM k l)[i]?=(l[i]?).map λ x=>.tuple [.int ((k+i:Nat):Int),x]
 | [],k,i=>by simp [AM]
 | x::l,k,0=>by simp [AM]
 | x::l,k,i+1=>by
  simp only [AM,List.getElem?_cons_succ,wI l (k+1) i]
  rw [show k+1+i=k+(i+1) by omega]
def Ec (l:List W) (k:Nat):uH k l=AM k l:=by
 apply ext_getElem?
 intro i
 rw [wI]
 unfold uH
 rw [getElem?_map]
 by_cases h:i<l.length
 . rw [List.getElem?_range h]
   simp [getElem?_eq_getElem h]
 . rw [getElem?_eq_none (by simpa using h),getElem?_eq_none (by omega)]
   rfl
def sK (l:List W):ke l=AM 0 l:=by
 rw [<-Ec]
 unfold ke uH
 simp
noncomputable def uD:=And.intro @c7.eq_1 <| And.intro @D4.eq_1 <| And.intro @D4.eq_2 <| And.intro @D4.eq_3 <| And.intro @bL.eq_1 <| And.intro @aI.eq_1 <| And.intro @aB.eq_1 <| And.intro @cG.eq_1 <| And.intro @bg.eq_1 <| And.intro @IJ.eq_1 <| And.intro @aC.eq_1 <| And.intro @lI.eq_1 <| And.intro @lT.eq_1 <| And.intro @frz.eq_1 <| And.intro @ic.eq_1 <| And.intro @dH.eq_1 <| And.intro @rf.eq_1 <| And.intro @lC.eq_1 <| And.intro @af.eq_1 <| And.intro @aw.eq_1 <| And.intro @dC.eq_1 <| And.intro @az.eq_1 <| And.intro @aG.eq_1 <| And.intro @dB.eq_1 <| And.intro @ML.eq_1 <| And.intro @Ny.eq_1 <| And.intro @wB.eq_1 <| And.intro @JS.eq_1 <| And.intro @Eh.eq_1 <| And.intro @oi.eq_1 <| And.intro @pC.eq_1 <| And.intro @aW.eq_1 <| And.intro @aa.eq_1 <| And.intro @ag.eq_1 <| And.intro @aM.eq_1 <| And.intro @bE.eq_1 <| And.intro @br.eq_1 <| And.intro @gC.eq_1 <| And.intro @BV.eq_1 <| And.intro @bU.eq_1 <| And.intro @ae.eq_1 <| And.intro @b8.eq_1 <| And.intro @b8.eq_2 <| And.intro @au.eq_1 <| And.intro @au.eq_2 <| And.intro @bB.eq_1 <| And.intro @bB.eq_2 <| And.intro @E2.eq_1 <| And.intro @dR.eq_1 <| And.intro @dz.eq_1 <| And.intro @wL.eq_1 <| And.intro @Bz.eq_1 <| And.intro @gU.eq_1 <| And.intro @JR.eq_1 <| And.intro @bF.eq_1 <| And.intro @o8.eq_1 <| And.intro @o8.eq_2 <| And.intro @gN.eq_1 <| And.intro @Ew.eq_1 <| And.intro @oW.eq_1 <| And.intro @HQ <| And.intro @HB <| And.intro @HM <| And.intro @Il <| And.intro @Bn <| And.intro @FK <| And.intro @o0 <| And.intro @zS <| And.intro @iO <| And.intro @GV <| And.intro @Hz <| And.intro @HC <| And.intro @Ha <| And.intro @F4 <| And.intro @pj <| And.intro @JJ <| And.intro @Ls <| And.intro @Jg <| And.intro @K1 <| And.intro @KI <| And.intro @KC <| And.intro @JI <| And.intro @KO <| And.intro @Lp <| And.intro @Em <| And.intro @Ds <| And.intro @CM <| And.intro @Dz <| And.intro @Do <| And.intro @Gz <| And.intro @Gb <| And.intro @HZ <| And.intro @IA <| And.intro @HP <| And.intro @Cy <| And.intro @AA <| And.intro @Dh <| And.intro @FV <| And.intro @FZ <| And.intro @List.length_cons.{0} <| And.intro @List.length_nil.{0} <| And.intro @List.map_cons.{0,0} <| And.intro @List.map_nil.{0,0} <| And.intro @List.nil_append.{0} <| And.intro @List.cons_append.{0} <| And.intro @List.getElem?_cons_zero.{0} <| And.intro @List.getElem?_cons_succ.{0} <| And.intro @List.set_cons_zero.{0} <| And.intro @List.set_cons_succ.{0} <| And.intro @Option.bind_some.{0,0} <| And.intro @Option.map_some.{0,0} <| And.intro @Option.bind_none.{0,0} <| And.intro @Option.map_none.{0,0} <| And.intro @Option.getD_some.{0} <| And.intro @Option.getD_none.{0} <| And.intro @if_true.{1} <| And.intro @decide_true <| And.intro @decide_false <| And.intro @Bool.not_true <| And.intro @Bool.not_false <| And.intro @Bool.false_eq_true <| And.intro @ne_eq.{1} <| @not_false_eq_true
noncomputable def uS:=And.intro @cT.eq_1 <| And.intro @fw.eq_1 <| And.intro @fw.eq_2 <| And.intro @fw.eq_3 <| And.intro @fw.eq_4 <| And.intro @aF.eq_1 <| And.intro @dq.eq_1 <| And.intro @fU.eq_1 <| And.intro @cz.eq_1 <| And.intro @bw.eq_1 <| And.intro @aE.eq_1 <| And.intro @iV.eq_1 <| And.intro @iV.eq_2 <| And.intro @iV.eq_3 <| And.intro @aq.eq_1 <| And.intro @aq.eq_2 <| And.intro @aq.eq_3 <| And.intro @iq.eq_1 <| And.intro @ab.eq_1 <| And.intro @n8.eq_1 <| And.intro @cJ.eq_1 <| And.intro @bI.eq_1 <| And.intro @Ib.eq_1 <| And.intro @BQ.eq_1 <| And.intro @BQ.eq_2 <| And.intro @B4.eq_1 <| And.intro @B4.eq_2 <| And.intro @B4.eq_3 <| And.intro @B4.eq_4 <| And.intro @jZ.eq_1 <| And.intro @bJ.eq_1 <| And.intro @oK.eq_1 <| And.intro @oN.eq_1 <| And.intro @Nf.eq_1 <| And.intro @Jm.eq_1 <| And.intro @lR.eq_1 <| And.intro @Nn.eq_1 <| And.intro @Kk.eq_1 <| And.intro @sB.eq_1 <| And.intro @uY.eq_1 <| And.intro @LG.eq_1 <| And.intro @oI.eq_1 <| And.intro @MN.eq_1 <| And.intro @d9.eq_1 <| And.intro @Ea.eq_1 <| And.intro @sD.eq_1 <| And.intro @sIx.eq_1 <| And.intro @zM.eq_1 <| And.intro @N0.eq_1 <| And.intro @wN.eq_1 <| And.intro @wN.eq_2 <| And.intro @wN.eq_3 <| And.intro @wJ.eq_1 <| And.intro @JL.eq_1 <| And.intro @iB.eq_1 <| And.intro @uo.eq_1 <| And.intro @mX.eq_1 <| @Option.map_eq_map.{0}
section
variable {X:Cx}
end
section
variable {K:Frag} {cl:Str->Addr} {E:XK}
end
section
variable {prog:Program} {w:World} {A:Around} {E:Γ} {s:Shared}
noncomputable def BX (es:Array DictEntry) (h:Int):List Nat:=placesWithHash es.size (λ i=>es[i]?.map (·.hash)) h
def AO (es:Array DictEntry) (h:Int):BX es h=(List.range es.size).filter λ i=>(es[i]?.map (·.hash))==some h:=rfl
def m6 {es:Array DictEntry} {h:Int} {x:Nat}:x∈BX es h↔∃ e,es[x]?=some e/\e.hash=h:=by
 rw [AO,mem_filter,mem_range]
 constructor
 . rintro ⟨h1,h2⟩
   rw [Array.getElem?_eq_getElem h1] at h2 ⊢
   exact ⟨_,rfl,by simpa using h2⟩
 . rintro ⟨e,h1,h2⟩
   refine ⟨?_,by simp [h1,h2]⟩
   rcases lt_or_ge x es.size with g | g
   . exact g
   . rw [Array.getElem?_eq_none g] at h1;cases h1
def xF (es:Array DictEntry) (h:Int):(BX es h).Nodup:=by rw [AO];exact List.Pairwise.filter _ List.nodup_range
def qO {α:Type} {M:Model} {c:Prop} [Decidable c] {a b:Sem α} {Q:α->Shared->Prop} (h1:wpAny M A a Q E s) (h2:wpAny M A b Q E s):wpAny M A (if c then a else b) Q E s:=by
 by_cases h:c
 . rw [if_pos h];exact h1
 . rw [if_neg h];exact h2
structure E5 (prog:Program) (w:World) (A:Around) (E:Γ) (s:Shared) (es:Array DictEntry) (key:Value) (h:Int) (m:Nat->Bool):Prop where
 kind:key=.none∨∃ a,key=.ref a
 same:∀ e∈es,e.key=key->e.hash=h
 quiet:∀ v,v=key∨(∃ e∈es,e.key=v)->∀ Q':Bool->Shared->Prop,Q' true s->wpAny (model prog w) A (eqIsQuiet 8 v) Q' E s
 eq:∀ i e,es[i]?=some e->e.hash=h->∀ Q':Bool->Shared->Prop,Q' (m i) s->wpAny (model prog w) A (eqBool e.key key) Q' E s
 hash:∀ i,m i=true->∃ e,es[i]?=some e/\e.hash=h
 one:∀ i j,m i=true->m j=true->i=j
variable {es:Array DictEntry} {ep:Nat} {key:Value} {h:Int} {m:Nat->Bool} {d:Addr} {o:Obj}
def E5.plain (L:E5 prog w A E s es key h m) (ho:s.heap.get? d=some o) (hd:o.data=.dict es ep) {Q:Option Nat->Shared->Prop} (h0:(∀ i,m i=false)->Q none s) (h1:∀ i,m i=true->Q (some i) s):wpAny (model prog w) A (dictWalkPlain d key h es (BX es h)) Q E s:=by
 refine wpAny_bind ?_
 refine wpAny_forIn_list _ (λ av b s'=>s'=s/\b=(none,())/\∃ pre,BX es h=pre++av/\∀ i∈pre,m i=false) _ ?_ ?_ _ _ ⟨rfl,rfl,[],rfl,by simp⟩
 . rintro x av b s' ⟨rfl,rfl,pre,hp,hn⟩
   obtain ⟨e,e1,e2⟩:=m6.mp (show x∈BX es h by rw [hp];simp)
   rw [e1]
   dsimp only
   rw [if_pos (by simp [e2])]
   refine wpAny_bind (wpAny_dictEpoch ho hd (wpAny_bind (L.eq x e e1 e2 _ (wpAny_bind (wpAny_dictEpoch ho hd ?_)))))
   rw [if_neg (by simp)]
   cases hx:m x with
   | true=>rw [if_pos rfl];exact wpAny_bind (wpAny_rule (wpAny_pure (wpAny_pure (h1 x hx))))
   | false=>
    rw [if_neg (by simp)]
    refine wpAny_bind (wpAny_rule (wpAny_pure ⟨rfl,rfl,pre++[x],by rw [hp];simp,λ i hi=>?_⟩))
    rcases mem_append.mp hi with hi | hi
    . exact hn i hi
    . rw [mem_singleton.mp hi];exact hx
 . rintro b s' ⟨rfl,rfl,pre,hp,hn⟩
   refine wpAny_pure (h0 λ i=>?_)
   cases hi:m i with
   | false=>rfl
   | true=>exact absurd hi (by rw [hn i (by have:=m6.mpr (L.hash i hi);rw [hp,append_nil] at this;exact this)];simp)
def E5.tells (L:E5 prog w A E s es key h m) {Q:Bool->Shared->Prop} (hQ:Q false s):wpAny (model prog w) A (tableMayTell key ((BX es h).filterMap λ i=>es[i]?.map (·.key))) Q E s:=by
 unfold tableMayTell
 split
 . exact wpAny_pure hQ
 . refine wpAny_bind (L.quiet key (.inl rfl) _ ?_)
   simp only [Bool.not_true,false_eq_true,if_false]
   refine wpAny_bind (wpAny_forIn_list _ (λ av r s'=>s'=s/\r=(none,())/\∀ v∈av,∃ e∈es,e.key=v) _ ?_ ?_ _ _ ⟨rfl,rfl,λ v hv=>?_⟩)
   . rintro x av r s' ⟨rfl,rfl,hr⟩
     refine wpAny_bind (L.quiet x (.inr (hr x (by simp))) _ ?_)
     simp only [Bool.not_true,false_eq_true,if_false]
     exact wpAny_pure ⟨rfl,rfl,λ v hv=>hr v (by simp [hv])⟩
   . rintro r s' ⟨rfl,rfl,_⟩
     exact wpAny_pure hQ
   . obtain ⟨i,_,hi⟩:=mem_filterMap.mp hv
     obtain ⟨e,e1,e2⟩:=oM hi
     exact ⟨e,Array.mem_of_getElem? e1,e2⟩
def E5.find (L:E5 prog w A E s es key h m) (ho:s.heap.get? d=some o) (hd:o.data=.dict es ep) {Q:Option Nat->Shared->Prop} (h0:(∀ i,m i=false)->Q none s) (h1:∀ i,m i=true->Q (some i) s):wpAny (model prog w) A (dictFind d key h) Q E s:=by
 have hany:¬ (es.any λ e=>e.key==key&&e.hash != h)=true:=by
  rw [<-Array.any_toList,any_eq_true]
  rintro ⟨e,hin,hc⟩
  simp only [and_eq_true,beq_iff_eq,bne_iff_ne,ne_eq] at hc
  exact hc.2 (L.same e (mem_toList_iff.mp hin) hc.1)
 have walk:∀ {sv:Φ},wpAny (model prog w) A (do
  let mut g:Option Nat:=none
  for i in BX es h do
   if let some q:=es[i]? then
    if q.hash==h then
     let b4 <-dictEpoch d (keyPart key);let sm <-eqBool q.key key
     if (<-dictEpoch d (keyPart key)) != b4 then unsupported "dict.changed-during-lookup"
     if sm then
      if g.isSome then unsupported "dict.find:order-among-keys-of-one-hash"
      rule "dict.find.hit"; if sv.length<2 then return some i
      g:=some i
     else
      rule "dict.find.same-hash-other-key"; if false && !(0<=h&&h<32) then unsupported "dict.find:asked-again-or-not-hangs-on-the-table"
  return g) Q E s:=by
  intro stored
  refine wpAny_bind ?_
  refine wpAny_forIn_list _ (λ av b s'=>s'=s/\∃ hit,b=(none,hit)/\∃ pre,BX es h=pre++av/\((hit=none/\∀ i∈pre,m i=false)∨∃ i∈pre,hit=some i/\m i=true)) _ ?_ ?_ _ _ ⟨rfl,none,rfl,[],rfl,.inl ⟨rfl,by simp⟩⟩
  . rintro x av b s' ⟨rfl,hit,rfl,pre,hp,hH⟩
    obtain ⟨e,e1,e2⟩:=m6.mp (show x∈BX es h by rw [hp];simp)
    rw [e1]
    dsimp only
    rw [if_pos (by simp [e2])]
    refine wpAny_bind (wpAny_dictEpoch ho hd (wpAny_bind (L.eq x e e1 e2 _ (wpAny_bind (wpAny_dictEpoch ho hd ?_)))))
    rw [if_neg (by simp)]
    have nd:=xF es h
    rw [hp] at nd
    have hx0:x∉pre:=λ hx=>(nodup_append.mp nd).2.2 x hx x (by simp) rfl
    cases hx:m x with
    | true=>
     rw [if_pos rfl]
     rcases hH with ⟨rfl,hn⟩ | ⟨i,hi,rfl,hm⟩
     . rw [if_neg (by simp)]
       refine wpAny_bind (wpAny_rule ?_)
       split
       . exact wpAny_pure (wpAny_pure (h1 x hx))
       . exact wpAny_pure ⟨rfl,some x,rfl,pre++[x],by rw [hp];simp,.inr ⟨x,by simp,rfl,hx⟩⟩
     . exact absurd (L.one i x hm hx▸hi) hx0
    | false=>
     rw [if_neg (by simp)]
     refine wpAny_bind (wpAny_rule ?_)
     rw [if_neg (by simp)]
     refine wpAny_pure ⟨rfl,hit,rfl,pre++[x],by rw [hp];simp,?_⟩
     rcases hH with ⟨rfl,hn⟩ | ⟨i,hi,rfl,hm⟩
     . refine .inl ⟨rfl,λ i hi=>?_⟩
       rcases mem_append.mp hi with hi | hi
       . exact hn i hi
       . rw [mem_singleton.mp hi];exact hx
     . exact .inr ⟨i,by simp [hi],rfl,hm⟩
  . rintro b s' ⟨rfl,hit,rfl,pre,hp,hH⟩
    rw [append_nil] at hp
    rcases hH with ⟨rfl,hn⟩ | ⟨i,hi,rfl,hm⟩
    . refine wpAny_pure (h0 λ i=>?_)
      cases hi:m i with
      | false=>rfl
      | true=>exact absurd hi (by rw [hn i (by have:=m6.mpr (L.hash i hi);rw [hp] at this;exact this)];simp)
    . exact wpAny_pure (h1 i hm)
 have pl:=L.plain ho hd h0 h1
 have tl:=@E5.tells prog w A E s es key h m L
 rcases L.kind with rfl | ⟨a,rfl⟩
 . unfold dictFind
   try with_reducible refine wpAny_holding ?_
   refine wpAny_bind (wpAny_dictEntries ho hd ?_)
   refine qO pl (qO (wpAny_bind (wpAny_pure ?_)) (wpAny_bind (tl ?_)))
   . dsimp only
     rw [if_neg (by simp)]
     exact walk
   . dsimp only
     rw [if_neg (by simp)]
     exact walk
 . unfold dictFind
   try with_reducible refine wpAny_holding ?_
   refine wpAny_bind (wpAny_dictEntries ho hd ?_)
   refine qO pl ?_
   dsimp only
   rw [if_neg hany]
   refine qO (wpAny_bind (wpAny_pure ?_)) (wpAny_bind (tl ?_))
   . rw [if_neg (by simp)]
     exact walk
   . rw [if_neg (by simp)]
     exact walk
end
section
variable {P:Program} {w:World} {A:Around} {E:Γ} {s:Shared}
def xS {Q:Int->Shared->Prop} (h:Q 4238894112 { s with toks:=s.toks+1 }):wpAny (model P w) A (pyHash .none) Q E s:=by
 have hT:s.TypeIs .none "NoneType" := rfl
 have hv:[Value.none].any Value.onHeap=false:=rfl
 unfold pyHash
 refine wpAny_bind ?_
 rw [cRoomFor,if_neg (by rw [hv];exact Bool.false_ne_true)];refine wpAny_pure ?_
 refine wpAny_bind (wpAny_specialOf hT F.slot_NoneType_hash.lookup ?_)
 rw [if_neg (by rw [beq_builtin_none];exact Bool.false_ne_true)]
 refine wpAny_bind (wpAny_specialOf hT F.slot_NoneType_hash.lookup ?_)
 rw [if_neg (by simp)]
 refine wpAny_bind (wpAny_callSpecialIfBoundUnlessNone?_slot hT F.slot_NoneType_hash (wpAny_call_entry F.slot_NoneType_hash hT F.entry_NoneType_hash (show wpAny _ _ (do ret (<-mkInt 4238894112)) _ _ s from wpAny_ret_mkInt ?_) (F.args_NoneType_hash_1 _)))
 show wpAny _ _ (if (decide (-(2:Int)^63<=4238894112)&&decide ((4238894112:Int)<2^63))=true then _ else _) Q E _
 rw [if_pos (by decide)]
 exact wpAny_pure h
noncomputable def nR (P:Program) (w:World) (h:Heap) (ks:List aA) (v:Value):Prop:=(ks=[]/\v=.none)∨(ks≠[]/\∃ b,v=.ref b/\(tupleKind (bq P w)).is h ks b)
noncomputable def nD (ks:List aA):Nat:=ks.length+1
def nR.hash {ks:List aA} {v:Value} {Q:Int->Shared->Prop} (hu:A.units<cLine) (r:nR P w s.heap ks v) (h:Q (nH P w ks) { s with toks:=s.toks+nD ks }):wpAny (model P w) A (pyHash v) Q E s:=by
 rcases r with ⟨rfl,rfl⟩ | ⟨n,b,rfl,hb⟩
 . exact xS h
 . refine (tupleKind (bq P w)).pyHash hu hb ?_
   rw [nH,if_neg n] at h
   exact h
def nR.inj {h:Heap} {x y:List aA} {v:Value} (a:nR P w h x v) (b:nR P w h y v):x=y:=by
 rcases a with ⟨rfl,rfl⟩ | ⟨n,c,rfl,hc⟩ <;> rcases b with ⟨rfl,e⟩ | ⟨n',c',e,hc'⟩
 . rfl
 . cases e
 . cases e
 . cases e;exact (tupleKind (bq P w)).inj hc hc'
def nR.eq {x y:List aA} {u v:Value} {Q:Bool->Shared->Prop} (hu:A.units<cLine) (a:nR P w s.heap x u) (b:nR P w s.heap y v) (h:Q (decide (x=y)) s):wpAny (model P w) A (eqBool u v) Q E s:=by
 rcases a with ⟨rfl,rfl⟩ | ⟨n,c,rfl,hc⟩ <;> rcases b with ⟨rfl,rfl⟩ | ⟨n',c',rfl,hc'⟩
 . unfold eqBool
   try with_reducible refine wpAny_holding ?_
   rw [if_pos (by rfl)]
   exact wpAny_bind (wpAny_rule (wpAny_pure (by simpa using h)))
 . obtain ⟨o,its,k,h1,h2,h3,_⟩:=hc'
   exact SeqAt.EqAt.none_tuple (items:=its) ⟨o,h1,h2,k,h3⟩ hu P w E Q (by rw [decide_eq_false (λ z=>n' z.symm)] at h;exact h)
 . obtain ⟨o,its,k,h1,h2,h3,_⟩:=hc
   exact SeqAt.EqAt.tuple_none (items:=its) ⟨o,h1,h2,k,h3⟩ hu P w E Q (by rw [decide_eq_false n] at h;exact h)
 . exact (tupleKind (bq P w)).eqBool hu hc hc' h
def nR.quiet {x:List aA} {u:Value} {Q:Bool->Shared->Prop} (a:nR P w s.heap x u) (h:Q true s):wpAny (model P w) A (eqIsQuiet 8 u) Q E s:=by
 rcases a with ⟨rfl,rfl⟩ | ⟨n,c,rfl,hc⟩
 . exact wpAny_pure h
 . exact (tupleKind (bq P w)).quiet hc h
noncomputable def Dn (P:Program) (w:World) (h:Heap) (d:Addr) (xs:List (List aA×Value×Value)):Prop:=
 ∃ o es ep,h.get? d=some o/\o.ExactDict/\o.data=.dict es ep/\es.toList=xs.map (nE P w)/\(∀ x∈xs,nR P w h x.1 x.2.1)/\(xs.map (·.1)).Nodup
noncomputable def qV (xs:List (List aA×Value×Value)) (k:List aA):Option (Value×Value):=(xs.find? λ x=>decide (x.1=k)).map (·.2)
noncomputable def nM (xs:List (List aA×Value×Value)) (k:List aA) (i:Nat):Bool:=(xs[i]?.map λ x=>decide (x.1=k)).getD false
def jF {xs:List (List aA×Value×Value)} {k:List aA} {i:Nat} (h:nM xs k i=true):∃ p,xs[i]?=some (k,p):=by
 unfold nM at h
 cases e:xs[i]? with
 | none=>rw [e] at h;cases h
 | some x=>
  rw [e] at h
  simp at h
  subst h
  exact ⟨x.2,rfl⟩
def F0 {xs:List (List aA×Value×Value)} {k:List aA} (hn:(xs.map (·.1)).Nodup) {i:Nat} {p:Value×Value} (h:xs[i]?=some (k,p)):qV xs k=some p:=by
 unfold qV
 cases e:xs.find? λ x=>decide (x.1=k) with
 | none=>exact absurd (find?_eq_none.mp e (k,p) (mem_of_getElem? h)) (by simp)
 | some y=>
  have y1:y.1=k:=by simpa using List.find?_some e
  obtain ⟨j,hj⟩:=List.getElem?_of_mem (List.mem_of_find?_eq_some e)
  have l1:(xs.map (·.1))[i]?=some k:=by simp [h]
  have l2:(xs.map (·.1))[j]?=some k:=by simp [hj,y1]
  have ij:i=j:=(List.getElem?_inj (by have:=(oG l1).1;exact this) hn).mp (l1.trans l2.symm)
  subst ij
  rw [h] at hj
  cases hj
  rfl
def wz {xs:List (List aA×Value×Value)} {k:List aA} (h:∀ i,nM xs k i=false):qV xs k=none:=by
 unfold qV
 rw [find?_eq_none.mpr]
 . rfl
 . intro x hx
   obtain ⟨i,hi⟩:=List.getElem?_of_mem hx
   have:=h i
   simp [nM,hi] at this
   simpa using this
def Dn.fnd {h:Heap} {xs:List (List aA×Value×Value)} {es:Array DictEntry} {k:List aA} {key:Value} (hu:A.units<cLine) (hh:s.heap=h) (hk:nR P w h k key) (he:es.toList=xs.map (nE P w)) (his:∀ x∈xs,nR P w h x.1 x.2.1) (hn:(xs.map (·.1)).Nodup):E5 P w A E s es key (nH P w k) (nM xs k):=by
 subst hh
 have at':∀ i:Nat,es[i]?=(xs[i]?).map (nE P w):=λ i=>by rw [<-getElem?_toList,he,getElem?_map]
 have mem:∀ e∈es,∃ x∈xs,e=nE P w x:=λ e hin=>by
  have:e∈xs.map (nE P w):=he▸mem_toList_iff.mpr hin
  obtain ⟨x,hx,rfl⟩:=mem_map.mp this
  exact ⟨x,hx,rfl⟩
 refine ⟨?_,λ e hin e1=>?_,λ v hv Q' hq=>?_,λ i e e1 e2 Q' hq=>?_,λ i hi=>?_,λ i j hi hj=>?_⟩
 . rcases hk with ⟨_,rfl⟩ | ⟨_,b,rfl,_⟩
   . exact .inl rfl
   . exact .inr ⟨b,rfl⟩
 . obtain ⟨x,hx,rfl⟩:=mem e hin
   have e1:x.2.1=key:=e1
   have:=his x hx
   rw [e1] at this
   show nH P w x.1=nH P w k
   rw [this.inj hk]
 . rcases hv with rfl | ⟨e,hin,rfl⟩
   . exact hk.quiet hq
   . obtain ⟨x,hx,rfl⟩:=mem e hin
     exact (his x hx).quiet hq
 . rw [at' i] at e1
   obtain ⟨x,hx,rfl⟩:=oM e1
   refine (his x (mem_of_getElem? hx)).eq hu hk ?_
   simpa [nM,hx] using hq
 . obtain ⟨p,hp⟩:=jF hi
   exact ⟨_,by rw [at' i,hp];rfl,rfl⟩
 . obtain ⟨p,hp⟩:=jF hi
   obtain ⟨q,hq⟩:=jF hj
   have l1:(xs.map (·.1))[i]?=some k:=by simp [hp]
   have l2:(xs.map (·.1))[j]?=some k:=by simp [hq]
   exact (List.getElem?_inj (oG l1).1 hn).mp (l1.trans l2.symm)
def Dn.get {d:Addr} {xs:List (List aA×Value×Value)} {k:List aA} {key:Value} {Q:Option Value->Shared->Prop} (hu:A.units<cLine) (hk:nR P w s.heap k key) (D:Dn P w s.heap d xs) (h:Q ((qV xs k).map (·.2)) { s with toks:=s.toks+nD k }):wpAny (model P w) A (dictGet d key) Q E s:=by
 obtain ⟨o,es,ep,ho,_,hd,he,his,hn⟩:=D
 unfold dictGet
 try with_reducible refine wpAny_holding ?_
 refine wpAny_bind (hk.hash hu (wpAny_bind ((Dn.fnd (s:={ s with toks:=s.toks+nD k }) hu rfl hk he his hn).find ho hd (λ h0=>?_) λ i hi=>?_)))
 . rw [wz h0] at h
   exact wpAny_pure h
 . obtain ⟨p,hp⟩:=jF hi
   rw [F0 hn hp] at h
   refine wpAny_bind (wpAny_dictEntries (s:={ s with toks:=s.toks+nD k }) ho hd ?_)
   rw [show es[i]?=some (nE P w (k,p)) by rw [<-getElem?_toList,he,getElem?_map,hp];rfl]
   exact wpAny_pure h
def nR.keeps {h h':Heap} {x:List aA} {v:Value} {d:Addr} {o:Obj} {es:Array DictEntry} {ep:Nat} (a:nR P w h x v) (ho:h.get? d=some o) (hd:o.data=.dict es ep) (hs:Heap.SameBut d h h'):nR P w h' x v:=by
 rcases a with ⟨rfl,rfl⟩ | ⟨n,c,rfl,hc⟩
 . exact .inl ⟨rfl,rfl⟩
 . exact .inr ⟨n,c,rfl,(tupleKind (bq P w)).keeps hc ho hd hs⟩
def Dn.push {d:Addr} {o:Obj} {es:Array DictEntry} {ep:Nat} {xs:List (List aA×Value×Value)} {k:List aA} {key v:Value} (hk:nR P w s.heap k key) (ho:s.heap.get? d=some o) (hc:o.ExactDict) (hd:o.data=.dict es ep) (he:es.toList=xs.map (nE P w)) (his:∀ x∈xs,nR P w s.heap x.1 x.2.1) (hn:(xs.map (·.1)).Nodup) (hno:qV xs k=none):
 Dn P w (s.heap.update d (Obj.mapDictKeys (·.push ⟨nH P w k,key,v⟩))) d (xs++[(k,key,v)]):=by
 refine ⟨_,_,ep+1,Heap.get?_update_self _ ho (Obj.isFreed_of_dict (Obj.data_mapDictKeys hd _)),hc.mapDictKeys _,Obj.data_mapDictKeys hd _,?_,?_,?_⟩
 . simp [he,nE]
 . intro x hx
   rcases mem_append.mp hx with hx | hx
   . exact (his x hx).keeps ho hd (Heap.SameBut.update ..)
   . rw [mem_singleton.mp hx]
     exact hk.keeps ho hd (Heap.SameBut.update ..)
 . rw [map_append,nodup_append]
   refine ⟨hn,by simp,λ a ha b hb hab=>?_⟩
   simp at hb
   subst hab
   obtain ⟨x,hx,e⟩:=mem_map.mp ha
   unfold qV at hno
   cases f:xs.find? λ x=>decide (x.1=k) with
   | none=>exact absurd (find?_eq_none.mp f x hx) (by simp [e,hb])
   | some y=>rw [f] at hno;cases hno
def Dn.setdefault {d:Addr} {xs:List (List aA×Value×Value)} {k:List aA} {key dv:Value} {Q:Γ} (hu:A.units<cLine) (hk:nR P w s.heap k key) (D:Dn P w s.heap d xs) (hz:xs.length<sizeLine)
 (h0:qV xs k=none->∀ h',Dn P w h' d (xs++[(k,key,dv)])->Heap.SameBut d s.heap h'->Q dv { s with heap:=h',toks:=s.toks+nD k }) (h1:∀ p,qV xs k=some p->Q p.2 { s with toks:=s.toks+nD k }):wpAny (model P w) A (dictSetDefault d key dv) Q E s:=by
 obtain ⟨o,es,ep,ho,hc,hd,he,his,hn⟩:=D
 have hsz:es.size=xs.length:=by rw [<-length_toList,he,length_map]
 unfold dictSetDefault
 try with_reducible refine wpAny_holding ?_
 refine wpAny_bind (hk.hash hu (wpAny_bind ((Dn.fnd (s:={ s with toks:=s.toks+nD k }) hu rfl hk he his hn).find ho hd (λ hno=>?_) λ i hi=>?_)))
 . have hno:=wz hno
   refine wpAny_bind (wpAny_rule (wpAny_bind (wpAny_updateDictKeys (hz:=by omega) (s:={ s with toks:=s.toks+nD k }) ho hd (wpAny_pure (h0 hno _ (Dn.push hk ho hc hd he his hn hno) (Heap.SameBut.update ..))))))
 . obtain ⟨p,hp⟩:=jF hi
   refine wpAny_bind (wpAny_dictEntries (s:={ s with toks:=s.toks+nD k }) ho hd ?_)
   rw [show es[i]?=some (nE P w (k,p)) by rw [<-getElem?_toList,he,getElem?_map,hp];rfl]
   exact wpAny_bind (wpAny_rule (wpAny_pure (h1 p (F0 hn hp))))
def uR {d:Addr} {key:Value} (hd:(d==sysModules)=false) (r:Value):
 MeetsIn P w (Builtin.«dict.get» ⟨[.ref d,key,r],[]⟩) (λ A R s=>A.in1.units<cLine/\∃ k xs,nR P w s.heap k key/\Dn P w s.heap d xs/\R (.ok (.ret (((qV xs k).map (·.2)).getD r))) { s with toks:=s.toks+nD k }):=
 .of_wp λ A R s ⟨hu,k,xs,hk,hm,h⟩=>by
  show wpAny _ _ (dictGet d key >>= _) _ _ s
  refine wpAny_bind (Dn.get hu hk hm ?_)
  cases hf:(qV xs k).map (·.2) with
  | some v=>rw [hf] at h;exact wpAny_pure ⟨v,rfl,h⟩
  | none=>
   rw [hf] at h
   show wpAny _ _ (Builtin.Dict.missed d key >>= _) _ _ _
   exact wpAny_bind (wpAny_missed_other hd (wpAny_pure ⟨r,rfl,h⟩))
def Dn.typeIs {d:Addr} {xs:List (List aA×Value×Value)} (D:Dn P w s.heap d xs):s.TypeIs (.ref d) "dict" := let ⟨o,_,_,ho,hc,_⟩:=D;⟨o,ho,hc.1⟩
def vd {d:Addr} {key:Value} (hd:(d==sysModules)=false) (r:Value):
 MeetsIn P w (Builtin.«dict.setdefault» ⟨[.ref d,key,r],[]⟩) (λ A R s=>A.in1.units<cLine/\∃ k xs,nR P w s.heap k key/\Dn P w s.heap d xs/\xs.length<sizeLine/\
  (∀ p,qV xs k=some p->R (.ok (.ret p.2)) { s with toks:=s.toks+nD k })/\
  (qV xs k=none->∀ h',Dn P w h' d (xs++[(k,key,r)])->Heap.SameBut d s.heap h'->R (.ok (.ret r)) { s with heap:=h',toks:=s.toks+nD k })):=
 .of_wp λ A R s ⟨hu,k,xs,hk,hm,hz,h1,h0⟩=>by
  unfold Builtin.«dict.setdefault»
  refine wpAny_bind ?_
  unfold Builtin.Dict.keyAndDefault
  refine wpAny_bind (wpAny_notOrdered_dict hm.typeIs ?_)
  show wpAny _ _ (pure (d,key,some r)) _ _ s
  refine wpAny_pure ?_
  show wpAny _ _ (if (d==sysModules)=true then _ else (dictSetDefault d key r >>= _)) _ _ s
  rw [if_neg (by rw [hd];exact Bool.false_ne_true)]
  exact wpAny_bind (Dn.setdefault hu hk hm hz (λ hn h' hm' hs=>wpAny_pure ⟨r,rfl,h0 hn h' hm' hs⟩) λ p hp=>wpAny_pure ⟨p.2,rfl,h1 p hp⟩)
end
section
noncomputable abbrev KN (H:Hp):List (List aA×V)->List (List aA×Value×Value)->Prop:=Paired λ p q=>p.1=q.1/\nV H p.1 q.2.1/\bc p.2 q.2.2
def KN.val {H:Hp} {kvs:List (List aA×V)} {xs:List (List aA×Value×Value)} (r:KN H kvs xs) (k:List aA):hZ (eL kvs k) ((qV xs k).map (·.2)):=by
 induction r with
 | nil=>exact True.intro
 | @cons p q ps qs h t ih=>
  obtain ⟨h1,_,h2⟩:=h
  by_cases e:p.1=k
  . have e':q.1=k:=h1.symm.trans e
    rw [iy e,show qV (q::qs) k=some q.2 by simp [qV,find?_cons,e']]
    exact h2
  . have e':¬ q.1=k:=λ z=>e (h1.trans z)
    rw [gG e,show qV (q::qs) k=qV qs k by simp [qV,find?_cons,e']]
    exact ih
variable {P:Program} {w:World} {H:Hp} {h:Heap} {a:Addr}
def AE {ks:List aA} {v:Value} (ok:je P w H h) (n:nV H ks v):nR P w h ks v:=n.imp id λ hy0=>by obtain ⟨n,b,e,q⟩:=hy0;exact ⟨n,b,e,kJ ok q⟩
def B2 {kvs:List (List aA×V)} (ok:je P w H h) (e:H a=some (.dN kvs)):kvs.length<=sizeLine/\(a==sysModules)=false/\∃ xs,KN H kvs xs/\Dn P w h a xs:=by
 obtain ⟨z,y,xs,r,o,es,ep,h1,h2,h3,h4,h5⟩:=(show cH P w H h a (.dN kvs) from ok a _ e)
 refine ⟨z,y,xs,r,o,es,ep,h1,h2,h3,h4,?_,h5⟩
 clear h4 h5 e z
 induction r with
 | nil=>intro x hx;cases hx
 | @cons p q ps qs hq t ih=>
  intro x hx
  rcases mem_cons.mp hx with rfl | hx
  . exact AE ok (by rw [<-hq.1];exact hq.2.1)
  . exact ih x hx
noncomputable def kN (H:Hp) (y:V) (ks:List aA):Prop:=(ks=[]/\y=.non)∨(ks≠[]/\∃ b,y=.ref b/\H b=some (.tup (ks.map kV)))
def kN.nv {y:V} {ks:List aA} {u:Value} (k:kN H y ks) (r:bc y u):nV H ks u:=by
 rcases k with ⟨rfl,rfl⟩ | ⟨n,b,rfl,q⟩
 . exact .inl ⟨rfl,by cases r;rfl⟩
 . exact .inr ⟨n,b,r,q⟩
end
section
variable {X:Cx} {pins:Δ} {σ:St} {H:Hp} {s:Shared} {a:Addr} {kvs:List (List aA×V)} {ks:List aA} {y z:V} {u dv:Value} {A:Around} {E:Γ}
def IK {Q:Γ} (hu:A.units+1<cLine) (I:aL X pins σ H s) (e:H a=some (.dN kvs)) (k:kN H y ks) (ry:bc y u) (rz:bc z dv) (h:∀ w' s',aL X pins σ H s'->bc ((eL kvs ks).getD z) w'->Q w' s'):
 wpAny (model X.prog X.w) A (call (.builtin "dict.get") [.ref a,u,dv]) Q E s:=by
 obtain ⟨zz,hd,xs,rel,dd⟩:=B2 I.hok e
 exact call_meetsIn PySem.F.slot_dict_get dd.typeIs PySem.F.entry_dict_get (PySem.F.args_dict_get_3 _ _ _) (uR hd dv) ⟨tupleKind_room_in1 (knd:=bq X.prog X.w) hu,ks,xs,AE I.hok (k.nv ry),dd,h _ _ (I.tok _) ((rel.val ks).getD rz)⟩
def GO {Q:Γ} (hu:A.units+1<cLine) (I:aL X pins σ H s) (e:H a=some (.dN kvs)) (k:kN H y ks) (ry:bc y u) (rz:bc z dv) (hl:kvs.length<sizeLine)
 (h1:∀ v w' s',eL kvs ks=some v->aL X pins σ H s'->bc v w'->Q w' s') (h2:eL kvs ks=none->∀ s',aL X pins σ (bZ H a (.dN (eX kvs ks z))) s'->Q dv s'):
 wpAny (model X.prog X.w) A (call (.builtin "dict.setdefault") [.ref a,u,dv]) Q E s:=by
 obtain ⟨zz,hd,xs,rel,dd⟩:=B2 I.hok e
 have hn:=k.nv ry
 refine call_meetsIn PySem.F.slot_dict_setdefault dd.typeIs PySem.F.entry_dict_setdefault (PySem.F.args_dict_setdefault_3 _ _ _) (vd hd dv)
  ⟨tupleKind_room_in1 (knd:=bq X.prog X.w) hu,ks,xs,AE I.hok hn,dd,by rw [<-Paired.length rel];exact hl,λ p hp=>?_,λ hno h' dd' hs=>?_⟩
 . have r:=rel.val ks
   rw [hp] at r
   cases q:eL kvs ks with
   | none=>rw [q] at r;exact r.elim
   | some v=>rw [q] at r;exact h1 v _ _ q (I.tok _) r
 . have r:=rel.val ks
   rw [hno] at r
   cases q:eL kvs ks with
   | some v=>rw [q] at r;exact r.elim
   | none=>
    have he:∃ q,h'.get? a=some q:=let ⟨q,_,_,hq,_⟩:=dd';⟨q,hq⟩
    obtain ⟨o',es',ep',g1,g2,g3,g4,_,g5⟩:=dd'
    refine h2 q _ (my I (by rw [e];exact True.intro) hs he ?_)
    rw [Bf z q]
    refine ⟨by simp;omega,hd,xs++[(ks,u,dv)],?_,o',es',ep',g1,g2,g3,g4,g5⟩
    have keep:∀ b ys,H b=some (.tup ys)->bZ H a (.dN (kvs++[(ks,z)])) b=some (.tup ys):=λ b ys hb=>by rw [aH (Fa hb e (by simp))];exact hb
    have mv:∀ {k v},nV H k v->nV (bZ H a (.dN (kvs++[(ks,z)]))) k v:=λ n=>n.imp id λ hy0=>by obtain ⟨n,b,e1,e2⟩:=hy0;exact ⟨n,b,e1,keep _ _ e2⟩
    exact Paired.snoc (Paired.mapP rel λ p q z=>⟨z.1,mv z.2.1,z.2.2⟩) ⟨rfl,mv hn,rz⟩
end
def AZ {P:Program} {w:World} {H:Hp} (h:Heap) (hb:sysModules<h.objs.size):cH P w H (h.push { cls:=.type "dict", data:=.dict #[] }) h.objs.size (.dN []):=
 ⟨zero_le _,beq_eq_false_iff_ne.mpr (Ne.symm (ne_of_lt hb)),[],.nil,_,#[],0,get?_push_size _ rfl,⟨rfl,rfl,rfl⟩,rfl,rfl,nodup_nil⟩
noncomputable def zB:TE:=λ _ H Q=>∀ p,H p=none->Q (.ref p) (bZ H p (.dN []))
noncomputable def B9 (td ty tx:TE):TE:=λ σ H Q=>td σ H λ x H1=>∃ a,x=.ref a/\(∃ kvs,H1 a=some (.dN kvs))/\ty σ H1 λ y H2=>tx σ H2 λ z H3=>∃ kvs ks,H3 a=some (.dN kvs)/\kN H3 y ks/\Q ((eL kvs ks).getD z) H3
noncomputable def A3 (td ty tx:TE):TE:=λ σ H Q=>td σ H λ x H1=>∃ a,x=.ref a/\(∃ kvs,H1 a=some (.dN kvs))/\ty σ H1 λ y H2=>tx σ H2 λ z H3=>∃ kvs ks,H3 a=some (.dN kvs)/\kN H3 y ks/\kvs.length<sizeLine/\
 (∀ v,eL kvs ks=some v->Q v H3)/\(eL kvs ks=none->Q z (bZ H3 a (.dN (eX kvs ks z))))
def AH {X:Cx} {pins:Δ} {σ:St} {H:Hp} {s:Shared} {a:Addr} (I:aL X pins σ H s) (d:∃ kvs,H a=some (.dN kvs)):
 s.TypeIs (.ref a) "dict" /\ (∀ b,Value.ref a=.ref b->∃ ob,s.heap.get? b=some ob/\ob.dict=none):=by
 obtain ⟨kvs,e⟩:=d
 obtain ⟨_,hd,xs,_,dd⟩:=B2 I.hok e
 refine ⟨dd.typeIs,λ b q=>?_⟩
 cases q
 obtain ⟨ob,_,_,h1,h2,_⟩:=dd
 exact ⟨ob,h1,h2.2.1⟩
section
variable {X:Cx} {o e f:Expr} {td ty tx:TE} {apos cpos pos:Pos}
def J0:PE X (.Dict [] [] pos) zB:=λ pins s σ H Q I h=>
 wpAny_Dict_empty ⟨.ref s.heap.objs.size,_,I.laid (a:=s.heap.objs.size) (o:=.dN []) (t':=s.toks) (λ _ _ q=>get?_push_of_some _ q) (le_refl _) (AZ s.heap I.big),rfl,h _ (I.hok.fresh (le_refl _))⟩
def JV (hu:X.A.units+1<cLine) (ho:PE X o td) (he:PE X e ty) (hf:PE X f tx) (m:M2 X o "get" apos e f cpos):PE X (.Call (.Attribute o "get" apos) [e,f] [] cpos) (B9 td ty tx):=by
 intro pins s σ H Q I h
 refine wpAny_Call_method m.base m.few m.line PySem.F.plainAttrs_dict PySem.F.slot_dict_get PySem.F.type_dict_get (bY (ho pins s σ H _ I h) λ u s1 hq=>?_)
 obtain ⟨x,H1,I1,rx,a,rfl,d,q1⟩:=hq
 obtain rfl:u=Value.ref a:=rx
 obtain ⟨t1,t2⟩:=AH I1 d
 refine ⟨t1,t2,?_⟩
 rw [m.trees]
 refine Calls.callWith_builtin rfl (Calls.evalArgs_plain (Calls.spliced_cons (bY (he pins s1 σ H1 _ I1 q1) λ iv s2 hq=>?_)))
 obtain ⟨y,H2,I2,ry,q2⟩:=hq
 refine Calls.spliced_cons (bY (hf pins s2 σ H2 _ I2 q2) λ fv s3 hq=>Calls.spliced_nil ?_)
 obtain ⟨z,H3,I3,rz,kvs,ks,ea,kn,q3⟩:=hq
 exact IK hu I3 ea kn ry rz λ w' s4 I4 rw'=>⟨_,H3,I4,rw',q3⟩
def Kv (hu:X.A.units+1<cLine) (ho:PE X o td) (he:PE X e ty) (hf:PE X f tx) (m:M2 X o "setdefault" apos e f cpos):PE X (.Call (.Attribute o "setdefault" apos) [e,f] [] cpos) (A3 td ty tx):=by
 intro pins s σ H Q I h
 refine wpAny_Call_method m.base m.few m.line PySem.F.plainAttrs_dict PySem.F.slot_dict_setdefault PySem.F.type_dict_setdefault (bY (ho pins s σ H _ I h) λ u s1 hq=>?_)
 obtain ⟨x,H1,I1,rx,a,rfl,d,q1⟩:=hq
 obtain rfl:u=Value.ref a:=rx
 obtain ⟨t1,t2⟩:=AH I1 d
 refine ⟨t1,t2,?_⟩
 rw [m.trees]
 refine Calls.callWith_builtin rfl (Calls.evalArgs_plain (Calls.spliced_cons (bY (he pins s1 σ H1 _ I1 q1) λ iv s2 hq=>?_)))
 obtain ⟨y,H2,I2,ry,q2⟩:=hq
 refine Calls.spliced_cons (bY (hf pins s2 σ H2 _ I2 q2) λ fv s3 hq=>Calls.spliced_nil ?_)
 obtain ⟨z,H3,I3,rz,kvs,ks,ea,kn,hl,q3,q4⟩:=hq
 exact GO hu I3 ea kn ry rz hl (λ v w' s4 hv I4 rw'=>⟨v,_,I4,rw',q3 v hv⟩) λ hn s4 I4=>⟨z,_,I4,rz,q4 hn⟩
end
section
variable {K:Frag} {cl:Str->Addr} {E:XK}
noncomputable def Mf:DS->ah->SM W:=λ _ S=>some (.ok (.ref S.length),S++[.dN []])
def Kj:SE K cl E zB Mf:=λ ρ G σ H δ S r S' Q R e q qx=>by
 cases e
 intro p hp
 obtain ⟨s2,g2⟩:=R.st.push (o:=.dN []) R.rl.sub (Nw.of (o:=.dN []) hp) λ ρ' hr=>⟨[],aJ,.nil⟩
 exact q _ rfl _ _ _ _ g2 s2 (.ref (by rw [<-R.st.len];simp))
noncomputable def dU:W->Option (List aA)
 | .none=>some []
 | .tuple ds=>(eP ds).bind λ ks=>if ks=[] then none else some ks
 | _=>none
def wF {ρ:Ξ} {G H:Hp} {v:V} {d:W} {ks:List aA} (sg:bj G H) (h:Dw K ρ G v d) (e:dU d=some ks):kN H v ks:=by
 cases h with
 | non=>cases e;exact .inl ⟨rfl,rfl⟩
 | tup sq da=>
  obtain ⟨ks',e1,e2⟩:=oB e
  split at e2
  . cases e2
  . rename_i hn
    cases e2
    exact .inr ⟨hn,_,rfl,sg _ _ (by rw [<-sE da e1];exact sq)⟩
 | _=>cases e
noncomputable def jX (x:W) (S:ah):Option (Nat×List (List aA×W)):=match df x S with
 | some (n,.dN kvs)=>some (n,kvs)
 | _=>none
def iP {x:W} {S:ah} {n:Nat} {kvs:ν} (h:jX x S=some (n,kvs)):x=.ref n/\S[n]?=some (.dN kvs):=by
 unfold jX at h
 cases e:df x S with
 | none=>rw [e] at h;cases h
 | some p=>
  obtain ⟨m,o⟩:=p
  rw [e] at h
  cases o with
  | dN ds=>cases h;exact cP e
  | _=>cases h
noncomputable def qI (fo fk fx:ζ):DS->ah->SM W:=λ δ S=>aq (fo δ S) λ x S1=>if (jX x S1).isSome=true then aq (fk δ S1) λ y S2=>aq (fx δ S2) λ z S3=>(jX x S3).bind λ p=>(dU y).bind λ k=>if p.2.length<sizeLine then match aQ p.2 k with
 | some d=>some (.ok d,S3)
 | none=>some (.ok z,S3.set p.1 (.dN (cZ p.2 k z)))
 else none else none
def zA {to tk tx:TE} {fo fk fx:ζ} (ho:SE K cl E to fo) (hk:SE K cl E tk fk) (hx:SE K cl E tx fx):SE K cl E (A3 to tk tx) (qI fo fk fx):=λ ρ G σ H δ S r S' Q R e q qx=>
 ci ho R e (λ x S1 e1 v ρ1 G1 H1 g1 s1 dv=>by
  split at e1
  case isFalse=>cases e1
  rename_i hx1
  obtain ⟨⟨n,kvs0⟩,hx0⟩:=isSome_iff_exists.mp hx1
  obtain ⟨rfl,h0⟩:=iP hx0
  obtain ⟨a,rfl,ea⟩:=cg dv
  obtain ⟨_,ws0,k0,_⟩:=s1.addr h0 ea
  have R1:=R.grow g1 s1
  refine ⟨a,rfl,⟨ws0,k0⟩,?_⟩
  refine ci hk R1 e1 (λ y S2 e2 u ρ2 G2 H2 g2 s2 du=>?_) λ c hc ρ2 G2 H2 g2 s2=>qx c hc ρ2 G2 H2 (g1.trans g2) s2
  refine ci hx (R1.grow g2 s2) e2 (λ z S3 e3 w ρ3 G3 H3 g3 s3 dw=>?_) λ c hc ρ3 G3 H3 g3 s3=>qx c hc ρ3 G3 H3 (g1.trans (g2.trans g3)) s3
  obtain ⟨⟨m,kvs⟩,e4,e5⟩:=oB e3
  obtain ⟨k,e6,e7⟩:=oB e5
  split at e7
  case isFalse=>cases e7
  rename_i hl
  obtain ⟨em,e8⟩:=iP e4
  cases em
  have g13:=g1.trans (g2.trans g3)
  have ea3:=iH (g2.trans g3).r ea
  obtain ⟨ga,ws,k1,k2⟩:=s3.addr e8 ea3
  obtain ⟨v1,v2⟩:=k2.val (k:=k)
  refine ⟨ws,k,k1,wF g13.s ((du.ext g3.r).same g3.g) e6,by rw [<-k2.length];exact hl,λ v hv=>?_,λ hv=>?_⟩
  . split at e7
    . rename_i d hd
      cases e7
      obtain ⟨v',h1,h2⟩:=v1 d hd
      rw [hv] at h1
      cases h1
      exact q d rfl v ρ3 G3 H3 g13 s3 h2
    . rename_i hd
      rw [v2 hd] at hv
      cases hv
  . split at e7
    . rename_i d hd
      obtain ⟨v',h1,h2⟩:=v1 d hd
      rw [hv] at h1
      cases h1
    . rename_i hd
      cases e7
      obtain ⟨s4,g4⟩:=s3.put (x:=.dN (eX ws k w)) (o':=.dN (cZ kvs k z)) g13.s e8 ea3 (λ b zz=>by cases zz) ⟨_,aJ,k2.put dw⟩
      exact q z rfl w ρ3 G3 _ (g13.trans g4) s4 dw) qx
noncomputable def mE (fo fk fx:ζ):DS->ah->SM W:=λ δ S=>aq (fo δ S) λ x S1=>if (jX x S1).isSome=true then aq (fk δ S1) λ y S2=>aq (fx δ S2) λ z S3=>(jX x S3).bind λ p=>(dU y).bind λ k=>some (.ok ((aQ p.2 k).getD z),S3) else none
def BD {to tk tx:TE} {fo fk fx:ζ} (ho:SE K cl E to fo) (hk:SE K cl E tk fk) (hx:SE K cl E tx fx):SE K cl E (B9 to tk tx) (mE fo fk fx):=λ ρ G σ H δ S r S' Q R e q qx=>
 ci ho R e (λ x S1 e1 v ρ1 G1 H1 g1 s1 dv=>by
  split at e1
  case isFalse=>cases e1
  rename_i hx1
  obtain ⟨⟨n,kvs0⟩,hx0⟩:=isSome_iff_exists.mp hx1
  obtain ⟨rfl,h0⟩:=iP hx0
  obtain ⟨a,rfl,ea⟩:=cg dv
  obtain ⟨_,ws0,k0,_⟩:=s1.addr h0 ea
  have R1:=R.grow g1 s1
  refine ⟨a,rfl,⟨ws0,k0⟩,?_⟩
  refine ci hk R1 e1 (λ y S2 e2 u ρ2 G2 H2 g2 s2 du=>?_) λ c hc ρ2 G2 H2 g2 s2=>qx c hc ρ2 G2 H2 (g1.trans g2) s2
  refine ci hx (R1.grow g2 s2) e2 (λ z S3 e3 w ρ3 G3 H3 g3 s3 dw=>?_) λ c hc ρ3 G3 H3 g3 s3=>qx c hc ρ3 G3 H3 (g1.trans (g2.trans g3)) s3
  obtain ⟨⟨m,kvs⟩,e4,e5⟩:=oB e3
  obtain ⟨k,e6,e7⟩:=oB e5
  cases e7
  obtain ⟨em,e8⟩:=iP e4
  cases em
  have g13:=g1.trans (g2.trans g3)
  have ea3:=iH (g2.trans g3).r ea
  obtain ⟨ga,ws,k1,k2⟩:=s3.addr e8 ea3
  obtain ⟨v1,v2⟩:=k2.val (k:=k)
  refine ⟨ws,k,k1,wF g13.s ((du.ext g3.r).same g3.g) e6,?_⟩
  cases hv:aQ kvs k with
  | some d=>
   obtain ⟨v',h1,h2⟩:=v1 d hv
   rw [h1]
   exact q d (by rw [hv];rfl) v' ρ3 G3 H3 g13 s3 h2
  | none=>
   rw [v2 hv]
   exact q z (by rw [hv];rfl) w ρ3 G3 H3 g13 s3 dw) qx
noncomputable def AI (K:Frag) (t:TE):TT:=λ σ H Q=>t σ H λ x H'=>∃ k,BE K x H' k/\Q k H'
def LS {X:Cx} {a:Expr} {ta:TE} (hK:X.K=K) (ha:PE X a ta) (he:∀ whole,isTrue a X.env whole=(do let v <-whole;standAt a.pos;holding [v] (truthy v))):PT X a (AI K ta):=hK▸AR ha he
noncomputable def tS (f:ζ):DS->ah->SM Bool:=λ δ S=>aq (f δ S) λ x S1=>iq ((fj x S1).map λ p=>!p.2.isEmpty) S1
def Co {t:TE} {f:ζ} (h:SE K cl E t f):ST K cl E (AI K t) (tS f):=λ ρ G σ H δ S r S' Q R e q qx=>
 ci h R e (λ x S1 e1 v ρ1 G1 H1 g1 s1 dv=>by
  obtain ⟨b,e2,rfl,rfl⟩:=bp e1
  obtain ⟨⟨n,ds⟩,e3,rfl⟩:=oM e2
  obtain ⟨rfl,e4⟩:=cy e3
  obtain ⟨a,rfl,ea⟩:=cg dv
  obtain ⟨ga,vs,k1,k2⟩:=s1.addr e4 ea
  have hl:vs.isEmpty=ds.isEmpty:=by
   have:=k2.length
   cases vs <;> cases ds <;> simp_all
  exact ⟨!ds.isEmpty,.inl ⟨vs,cD.of k1,by rw [hl]⟩,q _ rfl ρ1 G1 H1 g1 s1⟩) qx
noncomputable def vQ (K:Frag):List V->Hp->VK->Prop:=λ xs H Q=>∃ (a:Addr) (T:String) (k:Bool),xs=[.ref a,.ty T]/\((∃ kvs,H a=some (.dK kvs))∨∃ kvs,H a=some (.dT kvs))/\PySem.W.kitOne K (.type "dict") (.type T)=some k/\Q (.bl k) H
def yf {X:Cx} (hK:X.K=K):dI X (.builtin "isinstance") (vQ K):=by
 subst hK
 intro pins s σ H xs us Q I r h
 obtain ⟨a,T,k,rfl,ha,hk,q⟩:=h
 cases r with
 | cons r rr=>
  cases rr with
  | cons r' rr=>
   cases rr
   cases r
   cases r'
   have z:∃ o,s.heap.get? a=some o/\o.cls=.type "dict" := by
    rcases ha with ⟨kvs,ha⟩ | ⟨kvs,ha⟩
    . obtain ⟨_,_,_,_,o,_,_,e,ex,_⟩:=I.hok a _ ha
      exact ⟨o,e,ex.1⟩
    . obtain ⟨_,_,_,_,o,_,_,e,ex,_⟩:=I.hok a _ ha
      exact ⟨o,e,ex.1⟩
   obtain ⟨o,e,c⟩:=z
   exact PySem.W.kia_one (PySem.W.kitx_dict) I.kIn ⟨o,e,c⟩ hk (by intro z;cases z) λ tk=>⟨.bl k,H,I.tok tk,rfl,q⟩
noncomputable def IW (x:W) (S:ah):Option Bool:=match df x S with
 | some (_,.dK _)=>some true
 | some (_,.dT _)=>some true
 | _=>none
noncomputable def wy (fa:ζ):DS->ah->SM W:=λ δ S=>aq (fa δ S) λ x S1=>iq ((IW x S1).map .bool) S1
def Er {ta:TE} {fa:ζ} (ha:SE K cl E ta fa):SE K cl E (yH (vQ K) (fX ta (fX (tC (.ty "dict")) j4))) (wy fa):=λ ρ G σ H δ S r' S' Q R e q qx=>
 ci ha R e (λ x S2 e2 v ρ2 G2 H2 g2 s2 dv=>by
  obtain ⟨c,e3,rfl,rfl⟩:=bp e2
  obtain ⟨b,e4,rfl⟩:=oM e3
  show vQ K [v,.ty "dict"] H2 Q
  unfold IW at e4
  split at e4
  . rename_i n kvs e5
    cases e4
    obtain ⟨rfl,e7⟩:=cP e5
    obtain ⟨a,rfl,ea⟩:=cg dv
    obtain ⟨ga,vs,k1,k2⟩:=s2.addr e7 ea
    exact ⟨a, "dict", true,rfl,.inl ⟨vs,k1⟩,tm _ (by decide),q _ rfl _ ρ2 G2 H2 g2 s2 (.bl _)⟩
  . rename_i n kvs e5
    cases e4
    obtain ⟨rfl,e7⟩:=cP e5
    obtain ⟨a,rfl,ea⟩:=cg dv
    obtain ⟨ga,vs,k1,k2⟩:=s2.addr e7 ea
    exact ⟨a, "dict", true,rfl,.inr ⟨vs,k1⟩,tm _ (by decide),q _ rfl _ ρ2 G2 H2 g2 s2 (.bl _)⟩
  . cases e4) qx
end
section
variable {P:Program} {w:World} {A:Around} {E:Γ} {s:Shared} {d:Addr} {o:Obj} {es:Array DictEntry} {ep:Nat}
def I9 (hd:(d==sysModules)=false) (n:Nat):MeetsIn P w (Builtin.«dict.__len__» ⟨[.ref d],[]⟩) (λ _ R s=>(∃ o es ep,s.heap.get? d=some o/\o.data=.dict es ep/\es.size=n)/\R (.ok (.ret (.int (n:Nat) s.toks))) { s with toks:=s.toks+1 }):=
 .of_wp λ A R s ⟨⟨o,es,ep,ho,hdat,hn⟩,h⟩=>by
  show wpAny _ _ (dictSize d >>= _) _ _ s
  unfold dictSize
  refine wpAny_bind (wpAny_bind (wpAny_dictEntries ho hdat (wpAny_pure ?_)))
  show wpAny _ _ (Builtin.Dict.pendingCount d >>= _) _ _ s
  refine wpAny_bind (wpAny_pendingCount_other hd (wpAny_ret_mkInt ?_))
  rw [Nat.add_zero,hn]
  exact h
def yQ {Q:Γ} {n:Nat} (hd:(d==sysModules)=false) (hT:s.TypeIs (.ref d) "dict") (ho:∃ o es ep,s.heap.get? d=some o/\o.data=.dict es ep/\es.size=n) (hfit:(n:Int)<2^63)
 (h:Q (.int (n:Nat) (s.toks+1)) { s with toks:=s.toks+1+1 }):wpAny (model P w) A (call (.builtin "len") [.ref d]) Q E s:=by
 refine Calls.call_function_entry kind_len plain_len entry_len (args_len1 _) ?_
 unfold Builtin.«len»
 refine wpAny_bind (m:=oneArg "len" _) (wpAny_pure ?_)
 refine wpAny_bind (m:=callSpecial? (.ref d) (Str.ofString "__len__")) (wpAny_callSpecial?_slot (name:=Str.ofString "__len__") hT F.slot_dict_len (call_meetsIn F.slot_dict_len hT F.entry_dict_len (F.args_dict_len_1 _) (I9 hd n) ⟨ho,?_⟩))
 show wpAny _ _ _ _ _ { s with toks:=s.toks+1 }
 refine wpAny_bind (wpAny_holding (wpAny_pure ?_))
 refine wpAny_bind (wpAny_letGo ?_)
 show wpAny _ _ (if ((n:Nat):Int)<0 then _ else _) _ _ _
 rw [if_neg (by omega)]
 show wpAny _ _ (if ((n:Nat):Int) ≥ 2^63 then _ else _) _ _ _
 rw [if_neg (by omega)]
 exact wpAny_bind (wpAny_mkInt (wpAny_pure ⟨_,rfl,h⟩))
end
section
variable {K:Frag} {cl:Str->Addr} {E:XK}
noncomputable def AU:List V->Hp->VK->Prop:=λ xs H Q=>∃ a kvs,xs=[V.ref a]/\H a=some (.dT kvs)/\Q (.int kvs.length) H
def vq {X:Cx}:dI X (.builtin "len") AU:=by
 intro pins s σ H xs us Q I r h
 obtain ⟨a,kvs,rfl,ha,q⟩:=h
 obtain ⟨u,rfl,ru⟩:=pD r
 cases ru
 obtain ⟨z,hd,xs,rel,dd⟩:=Bm I.hok ha
 have hT:=dd.typeIs
 have hl:kvs.length=xs.length:=Paired.length rel
 obtain ⟨o,es,ep,h1,h2,h3,h4,_⟩:=dd
 refine yQ (n:=kvs.length) hd hT ⟨o,es,ep,h1,h3,by rw [hl,<-length_toList,h4,length_map]⟩ (by rw [sizeLine_eq] at z;omega) ⟨.int kvs.length,H,I.tok _,⟨_,rfl⟩,q⟩
noncomputable def oA (x:W) (S:ah):Option (Nat×List (List aA×W)):=match df x S with
 | some (n,.dT kvs)=>some (n,kvs)
 | _=>none
def pT {x:W} {S:ah} {n:Nat} {kvs:ν} (h:oA x S=some (n,kvs)):x=.ref n/\S[n]?=some (.dT kvs):=by
 unfold oA at h
 cases e:df x S with
 | none=>rw [e] at h;cases h
 | some p=>
  obtain ⟨m,o⟩:=p
  rw [e] at h
  cases o with
  | dT ds=>cases h;exact cP e
  | _=>cases h
noncomputable def xw (fa:ζ):DS->ah->SM W:=λ δ S=>aq (fa δ S) λ x S1=>iq ((oA x S1).map λ p=>.int p.2.length) S1
def Ci {ta:TE} {fa:ζ} (ha:SE K cl E ta fa):SE K cl E (yH AU (fX ta j4)) (xw fa):=λ ρ G σ H δ S r' S' Q R e q qx=>
 ci ha R e (λ x S2 e2 v ρ2 G2 H2 g2 s2 dv=>by
  obtain ⟨c,e3,rfl,rfl⟩:=bp e2
  obtain ⟨⟨n,kvs⟩,e4,rfl⟩:=oM e3
  obtain ⟨rfl,e5⟩:=pT e4
  obtain ⟨a,rfl,ea⟩:=cg dv
  obtain ⟨ga,ws,k1,k2⟩:=s2.addr e5 ea
  refine ⟨a,ws,rfl,k1,?_⟩
  rw [<-k2.length]
  exact q _ rfl _ ρ2 G2 H2 g2 s2 (.int _)) qx
end
section
open Classical in
noncomputable def eRd (h:Heap) (dx:PyData) (u:Value):Bool:=decide (∃ d as,Reads h u d as/\d.canLay0=true/\PyData.eqv d dx=true)
def BN {h:Heap} {dx d:PyData} {u:Value} {as:Ξ} (r:Reads h u d as) (c:d.canLay0=true):eRd h dx u=PyData.eqv d dx:=by
 unfold eRd
 cases e:PyData.eqv d dx with
 | true=>exact @decide_eq_true _ (Classical.propDecidable _) ⟨d,as,r,c,e⟩
 | false=>
  refine @decide_eq_false _ (Classical.propDecidable _) ?_
  rintro ⟨d',as',r',c',e'⟩
  rw [SeqAt.Reads.unique d' d u as' as c' r' r] at e'
  rw [e] at e'
  cases e'
noncomputable def JX (K:Frag):R2:=λ x y H Q=>∃ p xs dx ds,y=.ref p/\cD K H p xs/\Dp K H x dx/\ik K H xs ds/\dx.canLay0=true/\canLayAll0 ds=true/\dx.depth<=60/\Q (.bl (ds.any λ d=>PyData.eqv d dx)) H
variable {X:Cx} {K:Frag}
def zO {pins:Δ} {σ:St} {H:Hp} {s:Shared} {dx:PyData} (I:aL X pins σ H s):∀ {xs:List V} {its:Φ} {ds:List PyData},bb xs its->ik X.K H xs ds->canLayAll0 ds=true->(∀ u∈its,∃ d as,Reads s.heap u d as/\d.canLay0=true)/\its.any (eRd s.heap dx)=ds.any λ d=>PyData.eqv d dx:=λ {xs its ds} q w c=>by
 induction q generalizing ds with
 | nil=>
  cases w
  exact ⟨(λ u hu=>absurd hu not_mem_nil),rfl⟩
 | cons r t ih=>
  cases w with
  | cons a b=>
  simp only [canLayAll0,and_eq_true] at c
  obtain ⟨as,rd⟩:=Dp.reads I a r
  obtain ⟨h1,h2⟩:=ih b c.2
  refine ⟨λ u hu=>?_,by rw [any_cons,any_cons,BN rd c.1,h2]⟩
  rcases mem_cons.mp hu with rfl | hu
  . exact ⟨_,as,rd,c.1⟩
  . exact h1 u hu
def vy (hu:X.A.units+64<cLine):fP X (compareOp .In) (JX X.K):=by
 intro pins s σ H x y v u Q I rx ry h
 obtain ⟨p,xs,dx,ds,rfl,hq,hx,hs,cx,cs,hd,q⟩:=h
 cases ry
 obtain ⟨its,r,pl,hz⟩:=I.list hq
 obtain ⟨ax,rdx⟩:=Dp.reads I hx rx
 obtain ⟨h1,h2⟩:=zO (dx:=dx) I r hs cs
 refine SeqAt.in_listAt (eRd s.heap dx) pl.isList (λ w hw=>?_) ⟨.bl _,H,I,rfl,?_⟩
 . obtain ⟨d,as,rd,c⟩:=h1 w (by simpa using hw)
   rw [BN rd c]
   exact SeqAt.eqAt_reads d dx _ s w v as ax rd rdx c cx (by show X.A.units+1+_<_;omega)
 . rw [show its.toArray.any (eRd s.heap dx)=its.any (eRd s.heap dx) by simp,h2]
   exact q
noncomputable def JY (K:Frag):R2:=λ x y H Q=>Fi K false x y H Q∨JX K x y H Q
def MQ (h:X.K=K) (hu:X.A.units+64<cLine):fP X (compareOp .In) (JY K):=h▸pF.or (vy hu)
noncomputable def oX (d e:W):Option Bool:=match kF d e with
 | some b=>some b
 | none=>(fR e).bind λ ds=>d.py.bind λ x=>(W.pys ds).bind λ ys=>if (x.canLay0&&canLayAll0 ys&&decide (x.depth<=60))=true then some (ys.any λ y=>PyData.eqv y x) else none
def GH {ρ:Ξ}:DB K ρ (JY K) oX:=λ H x y d e b Q hx hy hg q=>by
 unfold oX at hg
 split at hg
 . rename_i b' hb
   cases hg
   exact .inl (EB H x y d e b Q hx hy hb q)
 . obtain ⟨ds,e1,hg⟩:=oB hg
   obtain ⟨dx,e2,hg⟩:=oB hg
   obtain ⟨ys,e3,hg⟩:=oB hg
   split at hg
   case isFalse=>cases hg
   rename_i hc
   cases hg
   simp only [and_eq_true,decide_eq_true_eq] at hc
   cases eM e1
   obtain ⟨p,vs,rfl,sq,da⟩:=mS hy
   exact .inr ⟨p,vs,dx,ys,rfl,sq,hx.dp e2,da.dp e3,hc.1.1,hc.1.2,hc.2,q⟩
end
section
variable {K:Frag} {ρ:Ξ}
noncomputable def GK:W->Option Str
 | .str z=>some z
 | _=>none
def D9 {d:W} {z:Str} (h:GK d=some z):d=.str z:=by
 cases d <;> first | (cases h;rfl) | cases h
noncomputable def rL (f:μ) (lo hi:DS->Option (Option Int)):DS->Option W:=λ δ=>(f δ).bind λ d=>(GK d).bind λ z=>(lo δ).bind λ l=>(hi δ).bind λ u=>if z.length<=1000 then some (.str (Txt.slice z l u)) else none
def FY {t:TE} {tl th:TO} {f:μ} {lo hi:DS->Option (Option Int)} (h:DE K ρ t f) (hl:Es K ρ tl lo) (hh:Es K ρ th hi):DE K ρ (Ml (λ x lo hi H Q=>∃ z,x=.str z/\z.length<=sizeLine/\Q (.str (Txt.slice z lo hi)) H) t tl th) (rL f lo hi):=λ G σ H δ d Q R e q=>by
 obtain ⟨x,ed,e⟩:=oB e
 obtain ⟨z,ee,e⟩:=oB e
 obtain ⟨l,el,e⟩:=oB e
 obtain ⟨u,eu,e4⟩:=oB e
 cases D9 ee
 by_cases hz:z.length<=1000
 . rw [if_pos hz] at e4
   cases e4
   refine h G σ H δ _ _ R ed λ v G1 H1 g1 dv=>hl G1 σ H1 δ l _ (R.grow g1) el λ G2 H2 g2=>hh G2 σ H2 δ u _ ((R.grow g1).grow g2) eu λ G3 H3 g3=>?_
   cases uZ dv
   exact ⟨z,rfl,le_trans hz (by decide),q _ G3 H3 (g1.trans (g2.trans g3)) (.str _)⟩
 . rw [if_neg hz] at e4
   cases e4
noncomputable def sd:W->W->Option W
 | .str z,.int n=>if (decide (0<=n)&&decide (n<=1000)&&decide (z.length<=1000))=true then some (.str (Txt.mul z n)) else none
 | _,_=>none
def El:DR K ρ ED sd:=λ G H x y d e c Q s hx hy hg q=>by
 unfold sd at hg
 split at hg
 . rename_i z n
   split at hg
   . rename_i hc
     cases hg
     simp only [and_eq_true,decide_eq_true_eq] at hc
     cases rG hx
     cases d8 hy
     exact ⟨z,n,rfl,rfl,hc.1.1,hc.1.2,hc.2,q _ G H (.refl s) (.str _)⟩
   . cases hg
 . cases hg
def sQ (x:Array Nat):∀ (n:Nat) (a:Array Nat) (c:Nat),c∈((List.replicate n x).foldl (·++·) a).toList->c∈a.toList∨c∈x.toList
 | 0,a,c,h=>.inl h
 | n+1,a,c,h=>by
  rw [replicate_succ,foldl_cons] at h
  rcases sQ x n (a++x) c h with h | h
  . rw [toList_append,mem_append] at h
    exact h
  . exact .inr h
def eY.mul {z:Str} (h:eY z) (n:Int):eY (Txt.mul z n):=by
 rw [jQ] at *
 intro c hc
 unfold Txt.mul at hc
 split at hc
 . exact absurd hc (by simp [Str.empty])
 . split at hc
   . exact h c hc
   . rcases sQ z.cps n.toNat #[] c hc with h' | h'
     . exact absurd h' (by simp)
     . exact h c h'
end
section
variable {K:Frag} {ρ:Ξ}
noncomputable def CA (f:θ) (g:μ):DS->Option (List W):=λ δ=>(f δ).bind λ ds=>(g δ).bind λ y=>(Je y).bind λ k=>if (decide (0<=k)&&decide (k<=1000)&&decide (ds.length<=1000))=true then some (List.replicate k.toNat ds).flatten else none
def ay.rep {G:Hp} {vs:List V} {ds:List W} (h:ay K ρ G vs ds):∀ n,ay K ρ G (List.replicate n vs).flatten (List.replicate n ds).flatten
 | 0=>.nil
 | n+1=>by
  rw [replicate_succ,replicate_succ,flatten_cons,flatten_cons]
  exact h.app (ay.rep h n)
def Hw {t u:TE} {f:θ} {g:μ} (h:DO K ρ t f) (hg:DE K ρ u g):DO K ρ (tT Ji t u) (CA f g):=λ G σ H δ ds Q R e q=>by
 obtain ⟨es,e1,e⟩:=oB e
 obtain ⟨y,e2,e⟩:=oB e
 obtain ⟨k,e3,e4⟩:=oB e
 split at e4
 . rename_i hc
   cases e4
   cases rF e3
   simp only [and_eq_true,decide_eq_true_eq] at hc
   refine h G σ H δ es _ R e1 λ p vs G1 H1 g1 h0 h1 h2 da=>hg G1 σ H1 δ _ _ (R.grow g1) e2 λ v G2 H2 g2 dv=>?_
   cases d8 dv
   have hm:vs.length*k.toNat<=1000*1000:=Nat.mul_le_mul (by rw [da.length];exact hc.2) (by omega)
   refine ⟨p,k,vs,rfl,rfl,g2.h _ _ h2,by omega,by omega,le_trans hm (by decide),λ r hr=>?_⟩
   have n:Nw H2 (bZ H2 r (.lst (List.replicate k.toNat vs).flatten)) r (.lst (List.replicate k.toNat vs).flatten):=.of hr
   have g12:=g1.trans g2
   exact q r _ G2 _ (g12.trans (.nwO g2.s n)) (cW g12.h hr) (cW g2.s hr) n.2.2 ((da.same g2.g).rep k.toNat)
 . cases e4
noncomputable def yV (f:μ):DS->Option Bool:=λ δ=>(f δ).bind λ d=>(fR d).map λ ds=>!ds.isEmpty
def Au {G:Hp} {v:V} {ds:List W} (h:Dw K ρ G v (.list ds)):BE K v G (!ds.isEmpty):=by
 obtain ⟨p,vs,rfl,sq,da⟩:=mS h
 have hl:vs.isEmpty=ds.isEmpty:=by
  have:=da.length
  cases vs <;> cases ds <;> simp_all
 exact .inl ⟨vs,sq,by rw [hl]⟩
def Dv {t:TE} {f:μ} (h:DE K ρ t f):DT K ρ (AI K t) (yV f):=λ G σ H δ b Q R e q=>by
 obtain ⟨d,e1,e⟩:=oB e
 obtain ⟨ds,e2,rfl⟩:=oM e
 cases eM e2
 exact h G σ H δ _ _ R e1 λ v G1 H1 g1 dv=>⟨_,Au (dv.same g1.s),q G1 H1 g1⟩
end
section
variable {X:Cx} {K:Frag}
noncomputable def E8 (K:Frag) (t:TE):TE:=λ σ H Q=>t σ H λ x H'=>∃ k,BE K x H' k/\Q (.bl (!k)) H'
def L5 {a:Expr} {ta:TE} {pos:Pos} (hK:X.K=K) (ha:PE X a ta):PE X (.UnaryOp .Not a pos) (E8 K ta):=by
 subst hK
 intro pins s σ H Q I h
 refine UnaryOp_ (bY (ha pins s σ H _ I h) λ v s1 hq0=>?_)
 obtain ⟨x,H1,I1,r1,k,q1,q2⟩:=hq0
 refine not_of (bY (zy pins s1 σ H1 x v (λ b H'=>Q (.bl (!b)) H') I1 r1 ⟨k,q1,q2⟩) λ b s2 hy0=>by obtain ⟨H2,I2,q⟩:=hy0;exact ⟨.bl (!b),H2,I2,rfl,q⟩)
noncomputable def Kf (K:Frag) (neg:Bool):R2:=λ x y H Q=>∃ p b xs,x=.ref p/\y=.ref b/\cD K H p xs/\cD K H b []/\Q (.bl (xs.isEmpty != neg)) H
def K6 (hK:X.K=K) (hu:X.A.units+64<cLine):fP X (compareOp .NotEq) (Kf K true):=by
 subst hK
 intro pins s σ H x y v u Q I rx ry h
 obtain ⟨p,b,xs,rfl,rfl,hx,hy,q⟩:=h
 cases rx
 cases ry
 obtain ⟨its,r,pl,hz⟩:=I.list hx
 obtain ⟨its2,r2,pl2,hz2⟩:=I.list hy
 have l1:=r.length
 have l2:=r2.length
 cases xs with
 | nil=>
  exact SeqAt.RcNeAt.lists (e:=λ _=>true) pl.isList pl2.isList (by simp only [size_toArray];omega) (by omega) (λ j h1 h2=>by simp only [size_toArray,<-l1,length_nil] at h1;omega) X.prog X.w _ _ (by
   have:its.toArray.size=0:=by simp only [size_toArray];simpa using l1.symm
   rw [this]
   exact bm I q rfl)
 | cons z zs=>
  exact SeqAt.RcNeAt.lists_lengths pl.isList pl2.isList (by simp only [size_toArray,<-l1,<-l2];simp) (by omega) X.prog X.w _ _ (bm I q rfl)
def zw {prog:Program} {w:World} {A:Around} {E:Γ} {s:Shared} {t b:Addr} {ws:Φ} {Q:Γ} (ht:IsTup s.heap t ([]:Φ).toArray) (hb:IsTup s.heap b ws.toArray) (h0:Q (.ref b) s):wpAny (model prog w) A (binaryOp .Add (.ref t) (.ref b)) Q E s:=by
 obtain ⟨⟨cls,dd,data,sl⟩,ho,hc,n,hd⟩:=id ht
 obtain ⟨⟨cls2,dd2,data2,sl2⟩,ho2,hc2,n2,hd2⟩:=id hb
 simp only at hc hd hc2 hd2
 subst hc hd hc2 hd2
 exact concat_meets ⟨_,ho,rfl⟩ ⟨_,ho2,rfl⟩ noFill_tuple_add seq_tuple_add PySem.F.slot_tuple_add PySem.F.entry_tuple_add (PySem.F.args_tuple_add_2 _ _) (tuple_addW0 t b _ ws.toArray n n2 dd dd2 sl sl2 (by simp)) ⟨ho,ho2,h0⟩
noncomputable def EJ (K:Frag):R2:=λ x y H Q=>∃ a b ys,x=.ref a/\y=.ref b/\eK K H a []/\eK K H b ys/\Q (.ref b) H
def CL:fP X (binaryOp .Add) (EJ X.K):=by
 intro pins s σ H x y v u Q I rx ry h
 obtain ⟨a,b,ys,rfl,rfl,ha,hb,q⟩:=h
 cases rx
 cases ry
 obtain ⟨its,r1,p1,_⟩:=I.tuple ha
 obtain ⟨its2,r2,p2,_⟩:=I.tuple hb
 cases r1
 exact zw p1 p2 ⟨.ref b,H,I,rfl,q⟩
noncomputable def Fg (K:Frag):R2:=λ x y H Q=>wR K x y H Q∨EJ K x y H Q
def L6 (h:X.K=K):fP X (binaryOp .Add) (Fg K):=by
 subst h
 exact (Dk rfl).or CL
noncomputable def xh:W->W->Option W
 | .tuple [],.tuple b=>some (.tuple b)
 | x,y=>ck x y
def CU {ρ:Ξ}:DR K ρ (Fg K) xh:=λ G H x y d e c Q s hx hy hg q=>by
 unfold xh at hg
 split at hg
 . cases hg
   obtain ⟨p,vs,rfl,sq,da⟩:=mQ hx
   obtain ⟨p2,vs2,rfl,sq2,da2⟩:=qu hy
   cases da
   exact .inr ⟨p,p2,vs2,rfl,rfl,s.tup (eK.of sq),s.tup (eK.of sq2),q _ G H (.refl s) (.tup sq2 da2)⟩
 . exact .inl (B7 G H x y d e c Q s hx hy hg q)
end
section
variable {K:Frag} {cl:Str->Addr} {E:XK}
noncomputable def AV (x y:W) (S:ah):Option W:=(fj x S).bind λ p=>(fR y).bind λ es=>if p.2.length+es.length<=9000 then some (.list (p.2++es)) else none
noncomputable def wZ (fa fb:ζ):DS->ah->SM W:=λ δ S=>aq (fa δ S) λ x S1=>aq (fb δ S1) λ y S2=>iq (AV x y S2) S2
def DJ {ta tb:TE} {fa fb:ζ} (ha:SE K cl E ta fa) (hb:SE K cl E tb fb):SE K cl E (tT (wR K) ta tb) (wZ fa fb):=λ ρ G σ H δ S r' S' Q R e q qx=>
 fK ha hb R e (λ x y S2 e2 v u ρ2 G2 H2 g2 s2 dv du=>by
  obtain ⟨c,e3,rfl,rfl⟩:=bp e2
  obtain ⟨⟨n,ds⟩,e4,e3⟩:=oB e3
  obtain ⟨es,e5,e7⟩:=oB e3
  obtain ⟨rfl,e6⟩:=cy e4
  cases eM e5
  obtain ⟨a,rfl,ea⟩:=cg dv
  obtain ⟨ga,vs,k1,k2⟩:=s2.addr e6 ea
  obtain ⟨b,ws,rfl,sq,da⟩:=mS du
  split at e7
  case isFalse=>cases e7
  rename_i hz
  cases e7
  refine .inr (.inr (.inl ⟨a,b,vs,ws,rfl,rfl,cD.of k1,g2.s.seq sq,by rw [k2.length,da.length];exact le_trans hz (by decide),λ p H' n=>?_⟩))
  have g3:=Gr.nw g2.s n
  exact q _ rfl _ ρ2 _ H' (g2.trans (.of g3)) (s2.grow g3) (.lst (cD.of aJ) ((k2.app da).same g3.g))) qx
noncomputable def K8 (neg:Bool) (x y:W) (S:ah):Option W:=(fj x S).bind λ p=>(fR y).bind λ es=>if es=[] then some (.bool (p.2.isEmpty != neg)) else none
noncomputable def tj (neg:Bool) (fa fb:ζ):DS->ah->SM W:=λ δ S=>aq (fa δ S) λ x S1=>aq (fb δ S1) λ y S2=>iq (K8 neg x y S2) S2
def Gq {neg:Bool} {ta tb:TE} {fa fb:ζ} (ha:SE K cl E ta fa) (hb:SE K cl E tb fb):SE K cl E (tT (Kf K neg) ta tb) (tj neg fa fb):=λ ρ G σ H δ S r' S' Q R e q qx=>
 fK ha hb R e (λ x y S2 e2 v u ρ2 G2 H2 g2 s2 dv du=>by
  obtain ⟨c,e3,rfl,rfl⟩:=bp e2
  obtain ⟨⟨n,ds⟩,e4,e3⟩:=oB e3
  obtain ⟨es,e5,e7⟩:=oB e3
  obtain ⟨rfl,e6⟩:=cy e4
  cases eM e5
  obtain ⟨a,rfl,ea⟩:=cg dv
  obtain ⟨ga,vs,k1,k2⟩:=s2.addr e6 ea
  obtain ⟨b,ws,rfl,sq,da⟩:=mS du
  split at e7
  case isFalse=>cases e7
  rename_i hz
  cases e7
  subst hz
  cases da
  have hl:vs.isEmpty=ds.isEmpty:=by
   have:=k2.length
   cases vs <;> cases ds <;> simp_all
  exact ⟨a,b,vs,rfl,rfl,cD.of k1,g2.s.seq sq,by rw [hl];exact q _ rfl _ ρ2 G2 H2 g2 s2 (.bl _)⟩) qx
noncomputable def xa (f:ζ):DS->ah->SM W:=λ δ S=>aq (f δ S) λ x S1=>iq ((fR x).map λ ds=>.bool ds.isEmpty) S1
def C7 {t:TE} {f:ζ} (h:SE K cl E t f):SE K cl E (E8 K t) (xa f):=λ ρ G σ H δ S r S' Q R e q qx=>
 ci h R e (λ x S1 e1 v ρ1 G1 H1 g1 s1 dv=>by
  obtain ⟨b,e2,rfl,rfl⟩:=bp e1
  obtain ⟨ds,e3,rfl⟩:=oM e2
  cases eM e3
  exact ⟨_,Au (dv.same g1.s),by rw [Bool.not_not];exact q _ rfl _ ρ1 G1 H1 g1 s1 (.bl _)⟩) qx
noncomputable def dr (f:W->Option W):List W->Option (List W)
 | []=>some []
 | d::ds=>(f d).bind λ x=>(dr f ds).map (x::·)
noncomputable def Jb (S:ah) (k:Nat):Option (List W):=match S[k]? with
 | some (.lst ds)=>some ds
 | _=>none
noncomputable def rW (F:χ):Nat->W->Option W
 | 0,_=>none
 | n+1,d=>match d with
  | .ref k=>(F k).bind λ ds=>(dr (rW F n) ds).map .list
  | .list ds=>(dr (rW F n) ds).map .list
  | .tuple ds=>(dr (rW F n) ds).map .tuple
  | d=>some d
noncomputable def zW (f:List W->ah->SM W) (ds:List W):Option W:=if cC ds=true then (match f ds [] with | some (.ok d,S)=>rW (Jb S) 40 d | _=>none) else none
def Dw.free {ρ ρ':Ξ} {G:Hp} {v:V} {d:W} (h:hJ d=true) (q:Dw K ρ G v d):Dw K ρ' G v d:=
 Dw.rec (motive_1:=λ v d _=>hJ d=true->Dw K ρ' G v d) (motive_2:=λ vs ds _=>cC ds=true->ay K ρ' G vs ds) (λ _=>.non) (λ b _=>.bl b) (λ i _=>.int i) (λ x _=>.str x) (λ q _ ih h=>.lst q (ih h)) (λ q _ ih h=>.tup q (ih h)) (λ _ h=>by cases h)
  (λ _=>.nil) (λ _ _ ih1 ih2 h=>by simp [cC] at h;exact .cons (ih1 h.1) (ih2 h.2)) q h
def ay.free {ρ ρ':Ξ} {G:Hp} {vs:List V} {ds:List W} (h:cC ds=true) (q:ay K ρ G vs ds):ay K ρ' G vs ds:=
 q.ind (M:=λ vs ds=>cC ds=true->ay K ρ' G vs ds) (λ _=>.nil) (λ _ _ _ _ a ih h=>by simp [cC] at h;exact .cons (a.free h.1) (ih h.2)) h
def qq {ρ ρ':Ξ} {G G2:Hp} {f:W->Option W} (hf:∀ v d d',f d=some d'->Dw K ρ' G v d->Dw K ρ G2 v d') {vs:List V} {ds es:List W} (e:dr f ds=some es) (q:ay K ρ' G vs ds):ay K ρ G2 vs es:=
 q.ind (M:=λ vs ds=>∀ es,dr f ds=some es->ay K ρ G2 vs es) (λ es e=>by cases e;exact .nil) (λ _ _ _ _ a ih es e=>by
  obtain ⟨x,e1,e⟩:=oB e
  obtain ⟨xs,e2,rfl⟩:=oM e
  exact .cons (hf _ _ _ e1 a) (ih _ e2)) es e
def qR {ρ ρ':Ξ} {G G2 H:Hp} {S:ah} (s:SR K ρ' cl G H S) (hg:bj G G2) (hn:∀ a vs,a∈ρ'->H a=some (.lst vs)->G2 a=some (.lst vs)):∀ (n:Nat) (v:V) (d d':W),rW (Jb S) n d=some d'->Dw K ρ' G v d->Dw K ρ G2 v d'
 | 0,_,_,_,e,_=>by cases e
 | n+1,v,d,d',e,h=>by
  cases h with
  | non=>cases e;exact .non
  | bl b=>cases e;exact .bl b
  | int i=>cases e;exact .int i
  | str x=>cases e;exact .str x
  | lst q a=>
   obtain ⟨es,e1,rfl⟩:=oM e
   exact .lst (hg.seq q) (qq (qR s hg hn n) e1 a)
  | tup q a=>
   obtain ⟨es,e1,rfl⟩:=oM e
   exact .tup (hg _ _ q) (qq (qR s hg hn n) e1 a)
  | @ref a k ea=>
   obtain ⟨ds,hF,e⟩:=oB e
   obtain ⟨es,e1,rfl⟩:=oM e
   have hS:S[k]?=some (.lst ds):=by
    unfold Jb at hF
    split at hF
    . rename_i h;cases hF;exact h
    . cases hF
   obtain ⟨ga,vs,k1,k2⟩:=s.addr hS ea
   exact .lst (cD.of (hn a vs (mem_of_getElem? ea) k1)) (qq (qR s hg hn n) e1 k2)
open Classical in
noncomputable def frzG (ρ:Ξ) (G H:Hp):Hp:=λ a=>if a∈ρ/\∃ vs,H a=some (.lst vs) then H a else G a
def IM {f:List W->ah->SM W} {vs:List V} {H:Hp} {Q:VK} {E:XK} (h:kI K (zW f) vs H Q E):o6 K cl f vs H Q E:=by
 obtain ⟨ρ,G,ds,d',sg,da,e,q⟩:=h
 unfold zW at e
 split at e
 case isFalse=>cases e
 rename_i ok
 split at e
 . rename_i d S' ef
   refine ⟨[],G,[],ds,d,S',sg,yU,da.free ok,ef,λ v ρ' G' H' g s dv=>?_⟩
   have out:∀ a,a∈ρ'->G' a=none:=λ a ha=>by
    obtain ⟨n,hn⟩:=List.getElem?_of_mem ha
    have hl:n<S'.length:=by rw [<-s.len];exact (oG hn).1
    exact (s.addr (getElem?_eq_getElem hl) hn).1
   have g1:bj G' (frzG ρ' G' H'):=λ b o eb=>by
    unfold frzG
    rw [if_neg]
    . exact eb
    . rintro ⟨hb,_⟩
      rw [out b hb] at eb
      cases eb
   have g2:bj (frzG ρ' G' H') H':=λ b o eb=>by
    unfold frzG at eb
    split at eb
    . exact eb
    . exact g.s b o eb
   have gr:Gr G H (frzG ρ' G' H') H':=⟨g.g.trans g1,λ b o eb=>g.h b o (by simp) eb,g2,λ b h1 h2=>by
    unfold frzG
    rw [if_neg]
    . exact g.n b h1 h2
    . rintro ⟨hb,_⟩
      exact h1.1 (g.f b hb (by simp))⟩
   exact q v (frzG ρ' G' H') H' gr (qR s g1 (λ a vs ha hv=>by unfold frzG;rw [if_pos ⟨ha,vs,hv⟩];exact hv) 40 v d d' e dv)
 . cases e
end
noncomputable def GX (K:Frag) (mg:Θ) (x:Str) (ps:Ω) (us:Φ) (f:Addr) (fd:FuncData):Prop:=mg x=some (.ref f)/\PySem.W.keepIn K (.ref f)=true/\fJ K fd ps []/\fJ K fd ps us
noncomputable def Ce (R:Addr->FuncData->Prop) (P:Program) (w:World) (K:Frag) (mg:Θ) (base:Heap) (k:Nat) (ps:Ω) (sp:Sp):Prop:=∃ f fd,R f fd/\fO P w K mg base F5 k f fd ps sp
noncomputable def Ca (R:Addr->FuncData->Prop) (K:Frag) (x q:Str) (st:Stmt):Prop:=∃ f fd,Dx K x q st f fd/\R f fd
noncomputable abbrev kG (K:Frag) (mg:Θ) (x:Str) (ps:Ω) (us:Φ) (st:Stmt):Prop:=Ca (GX K mg x ps us) K x x st
noncomputable abbrev kD (P:Program) (w:World) (K:Frag) (mg:Θ) (base:Heap) (x:Str) (ps:Ω) (us:Φ) (k:Nat) (sp:Sp):Prop:=Ce (GX K mg x ps us) P w K mg base k ps sp
section
variable {X:Cx} {x:Str} {o e:Expr} {es:List Expr} {t:TA} {ps:Ω} {us:Φ} {sp:Sp} {p pos:Pos} {K:Frag} {T:String} {name:Str} {r:V->List V->Hp->VK->Prop} {q:List V->Hp->VK->Prop} {to:TE} {apos:Pos}
noncomputable def KS (X:Cx) (x:Str) (us:Φ) (sp:Sp):Prop:=∃ j k ps,Ce (GX X.K X.mg x ps us) X.prog X.w X.K X.mg X.base j ps sp/\d7 k X.A/\j<=k
def On (h:∃ us,KS X x us sp) (hg:Gl X x) (ha:PA X (e::es) t) (hd:(x==("__debug__" : Str))=false)
 (he:starEach (e::es) X.env=(false,eval e X.env)::starEach es X.env) (hp:(backTo pos (starEach es X.env)).any (·.1)=false):PE X (.Call (.Name x p) (e::es) [] pos) (pU sp [] E0 t):=by
 obtain ⟨us,j,k,ps,⟨f,fd,⟨m,kp,b,_⟩,F⟩,hr,hl⟩:=h
 exact wc (F.mono hl) hr hg m kp b .nil FA ha hd he hp
def NS (h:KS X x [.none] sp) (hg:Gl X x) (ha:PA X (e::es) t) (hd:(x==("__debug__" : Str))=false)
 (he:starEach (e::es) X.env=(false,eval e X.env)::starEach es X.env) (hp:(backTo pos (starEach es X.env)).any (·.1)=false):PE X (.Call (.Name x p) (e::es) [] pos) (pU sp [.non] E0 t):=by
 obtain ⟨j,k,ps,⟨f,fd,⟨m,kp,_,b⟩,F⟩,hr,hl⟩:=h
 exact wc (F.mono hl) hr hg m kp b Bq FA ha hd he hp
noncomputable def QM (X:Cx) (T:String) (name:Str) (r:V->List V->Hp->VK->Prop):Prop:=∃ id,PlainAttrs T/\Slot T name id/\typeOf (.builtin id)=pure (.type "method_descriptor")/\Jk X id r
noncomputable def QB (X:Cx) (x:Str) (q:List V->Hp->VK->Prop):Prop:=∃ id,dI X (.builtin id) q/\bootBuiltins x=some (.builtin id)
def NL:QM X "list" "append" mq:=⟨_,PySem.F.plainAttrs_list,PySem.F.slot_list_append,PySem.F.type_list_append,y4⟩
def NV:QM X "list" "extend" (nN X.K):=⟨_,PySem.F.plainAttrs_list,PySem.F.slot_list_extend,PySem.F.type_list_extend,vx⟩
def Oq:QM X "list" "pop" Hr:=⟨_,PySem.F.plainAttrs_list,PySem.F.slot_list_pop,PySem.F.type_list_pop,HF⟩
def NI (h:X.K=K):QB X "len" (wM K):=⟨_,yp h,PySem.boot_len⟩
def Ng:QB X "len" AU:=⟨_,vq,PySem.boot_len⟩
def Oh (h:X.K=K) (hc:X.calm=true):QB X "any" (FU K):=⟨_,yE h hc,boot_any⟩
def MV (h:X.K=K):QB X "isinstance" (vQ K):=⟨_,yf h,boot_isinstance⟩
def Ol (h:X.K=K) (hm:QM X T name r) (ho:PE X o to) (hb:attributeBase o name X.env (eval o X.env)=eval o X.env) (hl:(apos.endLine==pos.line)=true):PE X (.Call (.Attribute o name apos) [] [] pos) (De K T r to):=by
 obtain ⟨_,a,b,c,d⟩:=hm
 exact Cu h a b c d ho hb hl
def Of (h:X.K=K) (hm:QM X T name r) (ho:PE X o to) (ha:PA X (e::es) t) (hb:attributeBase o name X.env (eval o X.env)=eval o X.env)
 (hf:((backTo pos (starEach (e::es) X.env)).all (λ x=>!x.1)&&(backToKw pos (keywordEach [] X.env)).all (λ x=>x.1.isSome)
  && decide ((e::es).length+([]:List Keyword).length+(if ([]:List Keyword).isEmpty then 0 else 1)<30))=true)
 (hl:(apos.endLine==pos.line)=true) (hs:starEach (e::es) X.env=(false,eval e X.env)::starEach es X.env) (hp:(backTo pos (starEach es X.env)).any (·.1)=false):
 PE X (.Call (.Attribute o name apos) (e::es) [] pos) (IU K T r to t):=by
 obtain ⟨_,a,b,c,d⟩:=hm
 exact Hm h a b c d ho ha hb hf hl hs hp
def Og (hq:QB X x q) (hg:Gl X x) (hm:X.mg x=none) (ha:PA X (e::es) t) (hn:x ≠ "__name__") (hd:(x==("__debug__" : Str))=false)
 (he:starEach (e::es) X.env=(false,eval e X.env)::starEach es X.env) (hp:(backTo pos (starEach es X.env)).any (·.1)=false):PE X (.Call (.Name x p) (e::es) [] pos) (yH q t):=by
 obtain ⟨_,a,b⟩:=hq
 exact Bc a hg hm b ha hn hd he hp
def NP (h:X.K=K) (hg:Gl X "list") (hm:X.mg "list" = none) (ha:PA X (e::es) t)
 (he:starEach (e::es) X.env=(false,eval e X.env)::starEach es X.env) (hp:(backTo pos (starEach es X.env)).any (·.1)=false):PE X (.Call (.Name "list" p) (e::es) [] pos) (yH (qd K) t):=p7 (oQ h) hg hm boot_list ha (by decide) (by decide) he hp
end
section
variable {X:Cx} {x:Str} {us:Φ} {sp:Sp} {j k:Nat} {ps:Ω} {pos:Pos}
def No (h:Ce (GX X.K X.mg x ps us) X.prog X.w X.K X.mg X.base j ps sp) (hr:d7 k X.A) (hl:j<=k):KS X x us sp:=⟨j,k,ps,h,hr,hl⟩
def Nv (h:Ce (GX X.K X.mg x ps us) X.prog X.w X.K X.mg X.base j ps sp) (hr:d7 k X.A) (hl:j<=k):∃ us,KS X x us sp:=⟨us,j,k,ps,h,hr,hl⟩
def OJ (hg:Gl X "dict") (hm:X.mg "dict" = none):PE X (.Name "dict" pos) (tC (.ty "dict")):=Di hg hm boot_dict rfl (by decide) (by decide)
def Kt {a b c:Prop} (h:b):a∨b∨c:=.inr (.inl h)
end
noncomputable def cN (N:Ω):List (Option Nat)->List Str->List Str
 | some i::r,u=>N.getD i "" :: cN N r u
 | _,u=>u
section
variable {X:Cx} {scope:Scope} {ix:Λ} {z:Str} {zp:Pos} {iter elt:Expr} {ifs:List Expr} {wi:TI} {g:TG} {tc:TT} {te:TE} {pos py spos:Pos} {y:Str} {i:Nat}
def F7 {N:Ω} (kind:scope.kind=.function) (nocell:(scope.names.all λ y=>y.2 != .cell)=true) (locs:(scope.names.all λ y=>y.2 != .local||scope.names.lookup y.1==some .local)=true)
 (free:(scope.names.all λ y=>y.2 != .free||X.env.kindOf y.1==some .cell||X.env.kindOf y.1==some .free)=true) (len:ix.length=N.length) (nd:decide N.Nodup=true)
 (fr:((ix.zip N).all λ p=>match p.1 with
  | none=>true
  | some i=>X.N[i]?==some p.2&&(X.env.kindOf p.2==some .cell||X.env.kindOf p.2==some .free)&&((relabel scope X.env).names.lookup p.2==some .cell||(relabel scope X.env).names.lookup p.2==some .free))=true):bH X scope N ix:=uX kind nocell locs free len (of_decide_eq_true nd) fr
noncomputable abbrev Ow (X:Cx) (scope:Scope) (ix:Λ) (z:Str) (zp:Pos) (elt:Expr) (ifs:List Expr) (g:TG) (tc:TT) (te:TE):Prop:=∀ (s₀:Shared) (H₀:Hp) (C:Addr) (ex:Ξ),(cN X.N ix [z]).Nodup->PG (bM X scope (cN X.N ix [z]) s₀ H₀ C ex) (.Name z zp) g/\uq (bM X scope (cN X.N ix [z]) s₀ H₀ C ex) ifs tc/\PE (bM X scope (cN X.N ix [z]) s₀ H₀ C ex) elt te
def Le (S:bH X scope (cN X.N ix [z]) ix) (hn:decide (cN X.N ix [z]).Nodup=true) (hc:X.calm=true) (hi:PI X (.Name z zp) iter wi) (hG:nS ix g) (hb:Ow X scope ix z zp elt ifs g tc te)
 (hs:∀ x,foldedSetIterable iter X.env x=pure x):PE X (.ListComp elt [⟨.Name z zp,iter,ifs,0⟩] scope pos) (ny ix wi g tc te):=Eg S hc hi hG (λ a b c d=>hb a b c d (of_decide_eq_true hn)) hs
def AS (hN:X.N.Nodup) (hi:X.N[i]?=some y) (hy:Gg X.env.scope y) (S:bH X scope (cN X.N ix [z]) ix) (hn:decide (cN X.N ix [z]).Nodup=true) (hc:X.calm=true) (hit:PI X (.Name z zp) iter wi) (hG:nS ix g) (hb:Ow X scope ix z zp elt ifs g tc te)
 (hsw:swapsWith (.ListComp elt [⟨.Name z zp,iter,ifs,0⟩] scope pos) (some (.Name y py)) spos.line X.env=pure true) (hs:∀ x,foldedSetIterable iter X.env x=pure x) (hf:X.fn y=true∨X.env.scope.names.lookup y=some .local):
 PS X (.Assign [.Name y py] (.ListComp elt [⟨.Name z zp,iter,ifs,0⟩] scope pos) spos) (oT (ny ix wi g tc te) (lF i)):=CY hN hi hy S hc hit hG (λ a b c d=>hb a b c d (of_decide_eq_true hn)) hsw hs hf
end
noncomputable abbrev Mw (P:Program) (w:World) (K:Frag) (mg:Θ) (base:Heap) (N:Ω) (q:Str) (st:Stmt) (k:Nat) (t:TS):Prop:=∀ (f:Addr) (cd:Value) (A:Around) (outer:List Env) (s:Shared) (H:Hp) (E:XK),N.Nodup->d7 k (A.deeper (envOfC q (bn st) s.heap.objs.size f cd))->(A.deeper (envOfC q (bn st) s.heap.objs.size f cd)).units+64<cLine->(A.deeper (envOfC q (bn st) s.heap.objs.size f cd)).units+1<cLine->
 uc (uz F5 P w K mg base N q (bn st) f cd A outer s H E).nox (cS st) t
section
variable {P:Program} {w:World} {K:Frag} {mg:Θ} {base:Heap} {cl:Str->Addr} {R:Addr->FuncData->Prop} {x q:Str} {st:Stmt} {N ps:Ω} {a n k:Nat} {t:TS} {sp:Sp}
def Jp (D:Ca R K x q st) (S:fY N ps (bn st)) (hl:∀ vs H Q E,sp vs H Q E->vs.length=ps.length) (rd:∀ vs H Q E,sp vs H Q E->t ({ nx:=λ _ H'=>Q V.non H',rt:=Q }:iI) (start N vs) H)
 (pe:Mw P w K mg base N q st k t):Ce R P w K mg base (k+1) ps sp:=by
 obtain ⟨f,fd,F,r⟩:=D
 exact ⟨f,fd,r,F.ok S hl λ cd A outer s H vs Q E hr h=>⟨t,pe f cd A outer s H E S.nd hr hr.units hr.units1,rd vs H Q E h⟩⟩
def iU {fb:υ} {g:List W->Option W} (D:Ca R K x q st) (hg:g=c7 a n fb) (de:∀ ρ,oh K ρ t fb)
 (pe:Mw P w K mg base N q st k t) (hN:N.length=n) (ha:ps.length=a) (S:fY N ps (bn st)):Ce R P w K mg base (k+1) ps (kI K g):=by
 subst hg ha
 exact Jp D S (λ vs H Q E h=>D7 (λ ds d e=>pz e) h) (λ vs H Q E h=>Nx hN de h) pe
def jo {fb:τ} {g:List W->ah->SM W} (D:Ca R K x q st) (hg:g=cT a n fb) (de:me K cl E0 t fb)
 (pe:Mw P w K mg base N q st k t) (hN:N.length=n) (ha:ps.length=a) (S:fY N ps (bn st)):Ce R P w K mg base (k+1) ps (o6 K cl g):=by
 subst hg ha
 exact Jp D S (λ vs H Q E h=>CH (λ ds S r e=>pG e) h) (λ vs H Q E h=>KL hN de h) pe
def Ce.imp {sq:Sp} (h:Ce R P w K mg base k ps sp) (i:∀ vs H Q E,sq vs H Q E->sp vs H Q E):Ce R P w K mg base k ps sq:=by
 obtain ⟨f,fd,r,F⟩:=h
 exact ⟨f,fd,r,F.imp i⟩
def Fl {g:List W->Option W} (D:Ca R K x q st) (h:∀ ds,g ds=none):Ce R P w K mg base k ps (kI K g):=by
 obtain ⟨f,fd,_,r⟩:=D
 exact ⟨f,fd,r,fO.no h⟩
def vJ {F:Nat->Sp} (h0:Ce R P w K mg base (k+0) ps (F 0)) (hs:∀ n,Ce R P w K mg base (k+n) ps (F n)->Ce R P w K mg base (k+n+1) ps (F (n+1))):∀ n,Ce R P w K mg base (k+n) ps (F n)
 | 0=>h0
 | n+1=>hs n (vJ h0 hs n)
noncomputable def An (K:Frag) (x:Str) (st:Stmt) (dV:Value):Prop:=∃ (f:Addr) (oc:Value) (od:Option Addr) (kV dc pm:Value) (an:Option Addr) (cd ct:Value) (sl:Array (Option Value)),
 PySem.W.nsIn K mainGlobals x=some (some (.ref f))/\K.lookup f=some ⟨oc,od,.func (PySem.W.fnOf x x (dy st) (cS st) (bn st) dV kV dc pm an cd ct),sl⟩/\PySem.W.codeIn K cd x=true/\PySem.W.keepIn K (.ref f)=true
def An.dn {h:Heap} (X:K.In h) (G:h.Ns mainGlobals mg) (z:An K x st .none) (hb:∀ (kV dc pm:Value) (an:Option Addr) (cd ct:Value) (us:Φ),us.length=ps.length->bindArgs (PySem.W.fnOf x x (dy st) (cS st) (bn st) .none kV dc pm an cd ct) ⟨us,[]⟩=pure (ps.zip us)):
 Ca (GX K mg x ps []) K x x st:=by
 obtain ⟨f,oc,od,kV,dc,pm,an,cd,ct,sl,m,l,c,kp⟩:=z
 have b:fJ K _ ps []:=(uE l c kp).binds hb
 exact ⟨f,_,j8 l c kp,PySem.W.mg_of X G m,kp,b,b⟩
end
noncomputable def BR (h:Heap) (d:Addr) (es:Array DictEntry) (ep:Nat):Prop:=∃ o,h.get? d=some o/\o.ExactDict/\o.data=.dict es ep
section
variable {prog:Program} {w:World} {A:Around} {E:Γ} {s:Shared} {d it:Addr} {es:Array DictEntry} {ep i:Nat}
def BR.ty (x:BR s.heap d es ep):s.TypeIs (.ref d) "dict" := by
 obtain ⟨o,e1,e2,_⟩:=x
 exact ⟨o,e1,e2.1⟩
def BR.at {h h':Heap} (x:BR h d es ep) (k:∀ o,h.get? d=some o->h'.get? d=some o):BR h' d es ep:=by
 obtain ⟨o,e1,e2⟩:=x
 exact ⟨o,k o e1,e2⟩
noncomputable def MO (d:Addr) (n ep:Nat):Obj:={ cls:=.type "dict_keyiterator", data:=.fields #[.ref d,.int 0 0,.int n 0,.int ep 0] }
def Ih {Q:Γ} (hd:(d==sysModules)=false) (x:BR s.heap d es ep) (q:Q (.ref s.heap.objs.size) { s with heap:=s.heap.push (MO d es.size ep) }):wpAny (model prog w) A (pyIter (.ref d)) Q E s:=by
 have T:=x.ty
 obtain ⟨o,e1,e2,e3⟩:=x
 refine wpAny_pyIter_slot T F.slot_dict_iter (wpAny_call_entry F.slot_dict_iter T F.entry_dict_iter ?_ (F.args_dict_iter_1 _))
 unfold Builtin.«dict.__iter__»
 refine wpAny_bind ?_
 unfold Builtin.Dict.dictSlotNone
 refine wpAny_bind (wpAny_notOrdered_dict T (show wpAny _ _ (pure (Value.ref d)) _ _ s from wpAny_pure ?_))
 show wpAny _ _ (Builtin.Dict.showsAll d >>= _) _ _ s
 unfold Builtin.Dict.showsAll
 rw [if_neg (by rw [hd];exact Bool.false_ne_true)]
 refine wpAny_bind (wpAny_pure (wpAny_bind (wpAny_dictEntries e1 e3 (wpAny_bind (wpAny_dictEpoch e1 e3 ?_)))))
 exact wpAny_bind (wpAny_newObj_type (wpAny_pure ⟨_,rfl, "dict_keyiterator", _,⟨_,get?_push_size _ rfl,rfl⟩,F.slot_dict_keyiterator_next.lookup,q⟩))
def Gn {Q:Option Value->Shared->Prop} (t:s.heap.IsKeyIter it d i es.size ep) (x:BR s.heap d es ep) (hl:i<es.size)
 (q:∀ h',h'.IsKeyIter it d (i+1) es.size ep->Heap.SameBut it s.heap h'->Q (some es[i].key) { s with heap:=h' }):wpAny (model prog w) A (pyNext (.ref it)) Q E s:=by
 have T:=t.typeIs
 obtain ⟨o,t1,t2,t3⟩:=t
 obtain ⟨od,e1,e2,e3⟩:=x
 unfold pyNext
 refine wpAny_bind (wpAny_attempt (wpAny_callSpecial?_slot (name:=Str.ofString "__next__") T F.slot_dict_keyiterator_next (wpAny_call_entry F.slot_dict_keyiterator_next T F.entry_dict_keyiterator_next ?_ (F.args_dict_keyiterator_next_1 _))))
 refine wpAny_bind (wpAny_pure (wpAny_bind (wpAny_bind ?_)))
 refine wpAny_bind (wpAny_typeNameOfWhole_keyiter T (wpAny_pure (wpAny_bind (wpAny_fieldsOf t1 t3 ?_))))
 have no:Builtin.Dict_items.ownsTuple "dict_keyiterator" = false:=by decide
 simp only [no,false_eq_true,if_false]
 show wpAny _ _ (if (Value.ref d==Value.none)=true then _ else _) _ _ s
 rw [if_neg (show ¬ ((Value.ref d==Value.none)=true) from Bool.false_ne_true)]
 refine wpAny_bind (wpAny_pure (wpAny_bind (wpAny_dictEntries e1 e3 ?_)))
 rw [if_neg (by simp)]
 refine wpAny_bind (wpAny_pure (wpAny_bind (wpAny_dictEpoch e1 e3 ?_)))
 rw [if_neg (by simp)]
 refine wpAny_pure ?_
 simp only [show ¬ ((i:Int)<0) by omega,if_false,toNat_natCast,Array.getElem?_eq_getElem hl]
 refine wpAny_bind (wpAny_bind (wpAny_typeNameOfWhole_keyiter T (wpAny_pure (wpAny_bind (wpAny_isOneOf_keyiter T ?_)))))
 show wpAny _ _ (setField (.ref it) 1 (rawInt ((i:Int)+1)) >>= _) _ _ s
 refine wpAny_bind (wpAny_setField t1 t3 (by simp) ?_)
 have t':(s.heap.update it (Obj.mapFields (·.setIfInBounds 1 (rawInt ((i:Int)+1))))).IsKeyIter it d (i+1) es.size ep:=
  ⟨_,Heap.get?_update_self _ t1 (Obj.isFreed_of_fields (Obj.data_mapFields t3 _)),(Obj.cls_mapFields ..).trans t2,by rw [Obj.data_mapFields t3];simp [rawInt]⟩
 refine wpAny_bind (wpAny_holding (wpAny_bind (wpAny_isOneOf_keyiter (s:={ s with heap:=s.heap.update it (Obj.mapFields (·.setIfInBounds 1 (rawInt ((i:Int)+1)))) }) t'.typeIs ?_)))
 show wpAny _ _ (pure es[i].key) _ _ _
 exact wpAny_pure (wpAny_pure ⟨_,rfl,wpAny_pure (q _ t' (Heap.SameBut.update ..))⟩)
def FM {Q:Option Value->Shared->Prop} (hh:A.handled=none) (t:s.heap.IsKeyIter it d es.size es.size ep) (x:BR s.heap d es ep)
 (q:∀ h',Heap.ExtBut it s.heap h'->Q none { s with heap:=h' }):wpAny (model prog w) A (pyNext (.ref it)) Q E s:=by
 have T:=t.typeIs
 obtain ⟨o,t1,t2,t3⟩:=t
 obtain ⟨od,e1,e2,e3⟩:=x
 unfold pyNext
 refine wpAny_bind (wpAny_attempt (wpAny_callSpecial?_slot (name:=Str.ofString "__next__") T F.slot_dict_keyiterator_next (wpAny_call_entry F.slot_dict_keyiterator_next T F.entry_dict_keyiterator_next ?_ (F.args_dict_keyiterator_next_1 _))))
 refine wpAny_bind (wpAny_pure (wpAny_bind (wpAny_bind ?_)))
 refine wpAny_bind (wpAny_typeNameOfWhole_keyiter T (wpAny_pure (wpAny_bind (wpAny_fieldsOf t1 t3 ?_))))
 have no:Builtin.Dict_items.ownsTuple "dict_keyiterator" = false:=by decide
 simp only [no,false_eq_true,if_false]
 show wpAny _ _ (if (Value.ref d==Value.none)=true then _ else _) _ _ s
 rw [if_neg (show ¬ ((Value.ref d==Value.none)=true) from Bool.false_ne_true)]
 refine wpAny_bind (wpAny_pure (wpAny_bind (wpAny_dictEntries e1 e3 ?_)))
 rw [if_neg (by simp)]
 refine wpAny_bind (wpAny_pure (wpAny_bind (wpAny_dictEpoch e1 e3 ?_)))
 rw [if_neg (by simp)]
 refine wpAny_pure ?_
 simp only [show ¬ ((es.size:Int)<0) by omega,if_false,toNat_natCast,Array.getElem?_eq_none (le_refl es.size)]
 refine wpAny_bind (wpAny_bind (wpAny_typeNameOfWhole_keyiter T (wpAny_pure ?_)))
 show wpAny _ _ (setField (.ref it) 0 .none >>= _) _ _ s
 refine wpAny_bind (wpAny_setField t1 t3 (by simp) ?_)
 show wpAny _ _ (newExc (.type "StopIteration") [] >>= _) _ _ _
 refine wpAny_bind ?_
 simp only [newExc,newTuple]
 refine wpAny_bind (wpAny_newObj_type (wpAny_bind (m:=firstArgMember _ _) (wpAny_of_eq (a:=Value.none) (by first | rfl | (simp only [firstArgMember];rfl)) (wpAny_newObj_type ?_ (by size_fits)))) (by size_fits))
 simp only [raiseNew]
 refine wpAny_bind (wpAny_handled ?_)
 rw [show A.in1.handled=none from hh]
 refine wpAny_bind (wpAny_pure (wpAny_throw ?_))
 refine wpAny_bind (wpAny_isInstance (T := "StopIteration") (b:=true) ⟨_,get?_push_size _ rfl,rfl⟩ isSubtype_stop ?_)
 exact wpAny_pure (q _ (((Heap.SameBut.update ..).extBut.push _).push _))
def KW (hh:A.handled=none) (I d:Addr) (hne:d≠I) (es:Array DictEntry) (ep:Nat):Walks prog w A I [I,d] [I] es.size (λ i v=>∃ e,es[i]?=some e/\v=e.key) (λ i h=>h.IsKeyIter I d i es.size ep/\BR h d es ep) where
 sub:=λ b hb=>by rw [mem_singleton.mp hb];exact mem_cons_self
 frame:=λ _ _ _ st k=>⟨st.1.at λ o e=>k I mem_cons_self o e,st.2.at λ o e=>k d (mem_cons_of_mem _ mem_cons_self) o e⟩
 item:=λ i s Q E hi st hQ=>Gn st.1 st.2 hi λ h' t' sb=>hQ _ h' s.toks ⟨_,Array.getElem?_eq_getElem hi,rfl⟩ ⟨t',st.2.at λ o e=>sb.extBut d o hne e⟩ λ b o hb e=>sb.extBut b o (λ z=>hb (mem_singleton.mpr z)) e
 done:=λ s Q E st hQ=>FM hh st.1 st.2 λ h' x=>hQ h' s.toks λ b o hb e=>x b o (λ z=>hb (mem_singleton.mpr z)) e
 self:=λ _ _ _ _ st hQ=>wpAny_pyIter_keyiter st.1 hQ
def Jo (hd:(d==sysModules)=false):PySem.W.KdlSrc prog w "dict" d d es.size (λ i v=>∃ e,es[i]?=some e/\v=e.key) (λ h=>BR h d es ep) where
 type:=λ _ x=>x.ty
 there:=λ h x=>by obtain ⟨o,e1,_⟩:=x;exact ⟨lt_size e1,lt_size e1⟩
 keep:=λ _ _ x k=>x.at λ o e=>k d (.inl rfl) o e
 notList:=by decide
 notTuple:=by decide
 hint:=λ _ _ _ _ x q=>PySem.W.kdl_hint_dict x.ty q
 iter:=λ A s hh x=>⟨_,_,(λ _ _ q=>Ih hd x q),KW hh _ d (by obtain ⟨o,e1,_⟩:=x;exact ne_of_lt (lt_size e1)) es ep,⟨⟨_,get?_push_size _ rfl,rfl,rfl⟩,x.at λ o e=>get?_push_of_some _ e⟩⟩
end
noncomputable abbrev KA (H:Hp):List (List aA×V)->List Addr->Prop:=Paired λ p b=>H b=some (.tup (p.1.map kV))
noncomputable def rK:List V->Hp->VK->Prop:=λ xs H Q=>∃ (a:Addr) (kvs:List (List aA×V)),xs=[.ref a]/\H a=some (.dT kvs)/\∀ bs,KA H kvs bs->∀ l,H l=none->Q (.ref l) (bZ H l (.lst (bs.map V.ref)))
def KE {H:Hp} {kvs:List (List aA×V)} {xs:List (List aA×Addr×Value)} (r:KT H kvs xs):KA H kvs (xs.map (·.2.1)):=by
 induction r with
 | nil=>exact .nil
 | cons h _ ih=>exact .cons h.2.1 ih
def tG:∀ (bs:Ξ),bb (bs.map V.ref) (bs.map Value.ref)
 | []=>.nil
 | b::bs=>.cons rfl (tG bs)
def vK {X:Cx} (hc:X.calm=true):dI X (.type "list") rK:=by
 intro pins s σ H xs us Q I r h
 obtain ⟨a,kvs,rfl,ha,q⟩:=h
 obtain ⟨u,rfl,rx⟩:=pD r
 cases rx
 obtain ⟨z,hd,ys,kt,o,es,ep,h1,h2,h3,h4,_⟩:=Bm I.hok ha
 have sz:es.size=ys.length:=by rw [<-length_toList,h4,length_map]
 have kl:=Paired.length kt
 refine PySem.W.kdl_call (Jo (es:=es) (ep:=ep) hd) (I.ok.hd hc) ⟨o,h1,h2,h3⟩ (by omega) λ h' tk acc c kp e ia=>?_
 have ac:acc.toList=(ys.map (·.2.1)).map Value.ref:=by
  refine ext_getElem? λ i=>?_
  rcases lt_or_ge i acc.size with hi | hi
  . have e1:acc[i]?=some acc[i]:=Array.getElem?_eq_getElem hi
    obtain ⟨en,e2,e3⟩:=ia.2 i _ e1
    have e4:=entry_at h4 i
    rw [e2] at e4
    rw [getElem?_toList,e1,e3,map_map,getElem?_map]
    cases hy:ys[i]? with
    | none=>rw [hy] at e4;cases e4
    | some y=>rw [hy] at e4;cases e4;rfl
  . have:ys.length<=i:=by have:=ia.1;omega
    rw [getElem?_toList,Array.getElem?_eq_none hi,getElem?_eq_none (by simpa using this)]
 refine ⟨.ref s.heap.objs.size,_,I.laid (t':=tk) (λ b o' e=>kp b o' e) (le_refl _) (show cH X.prog X.w _ h' _ (.lst ((ys.map (·.2.1)).map V.ref)) from ⟨by simp;omega,acc.toList,c,by rw [ac];exact tG _,by simpa using e⟩),rfl,q _ (KE kt) _ (I.hok.fresh (le_refl _))⟩
noncomputable def Ky:aA->W
 | .inl i=>.int i
 | .inr x=>.str x
noncomputable def xg (ks:List aA):W:=.tuple (ks.map Ky)
noncomputable def uB (f:ζ):DS->ah->SM W:=λ δ S=>aq (f δ S) λ x S1=>iq ((oA x S1).map λ p=>.list (p.2.map λ e=>xg e.1)) S1
noncomputable def adopt (G H:Hp) (bs:Ξ):Hp:=λ b=>if b∈bs then H b else G b
def Gr.adopt {G H:Hp} {bs:Ξ} (s:bj G H) (h:∀ b∈bs,∃ xs,H b=some (.tup xs)):Gr G H (L2.adopt G H bs) H:=
 ⟨λ b o e=>by
  unfold L2.adopt
  split
  . exact s b o e
  . exact e,.refl _,λ b o e=>by
  unfold L2.adopt at e
  split at e
  . exact e
  . exact s b o e,λ b n e=>by
  unfold L2.adopt
  rw [if_neg λ z=>by obtain ⟨xs,hx⟩:=h b z;exact n.2 xs hx]
  exact e⟩
def yR {H:Hp} {kvs:List (List aA×V)} {bs:Ξ} (h:KA H kvs bs):∀ b∈bs,∃ xs,H b=some (.tup xs):=by
 induction h with
 | nil=>exact λ b hb=>absurd hb not_mem_nil
 | cons r _ ih=>
  intro b hb
  rcases mem_cons.mp hb with rfl | hb
  . exact ⟨_,r⟩
  . exact ih b hb
section
variable {K:Frag} {cl:Str->Addr} {E:XK} {ρ:Ξ}
def qE {G:Hp}:∀ (ks:List aA),ay K ρ G (ks.map kV) (ks.map Ky)
 | []=>.nil
 | .inl i::ks=>.cons (.int i) (qE ks)
 | .inr x::ks=>.cons (.str x) (qE ks)
def Jx {G H:Hp} {kvs:ν} {ws:List (List aA×V)} (hk:iX K ρ G kvs ws):∀ {bs:Ξ} {G':Hp},KA H ws bs->(∀ b∈bs,G' b=H b)->ay K ρ G' (bs.map V.ref) (kvs.map λ e=>xg e.1):=by
 induction hk with
 | nil=>intro bs G' h _;cases h;exact .nil
 | cons _ _ ih=>
  intro bs G' h hb
  cases h with
  | cons r t=>exact .cons (.tup ((hb _ (by simp)).trans r) (qE _)) (ih t λ b hm=>hb b (by simp [hm]))
def Ac {ta:TE} {fa:ζ} (ha:SE K cl E ta fa):SE K cl E (yH rK (fX ta j4)) (uB fa):=λ ρ G σ H δ S r' S' Q R e q qx=>
 ci ha R e (λ x S2 e2 v ρ2 G2 H2 g2 s2 dv=>by
  obtain ⟨c,e3,rfl,rfl⟩:=bp e2
  obtain ⟨⟨n,kvs⟩,e4,rfl⟩:=oM e3
  obtain ⟨rfl,e5⟩:=pT e4
  obtain ⟨a,rfl,ea⟩:=cg dv
  obtain ⟨ga,vs,k1,k2⟩:=s2.addr e5 ea
  show rK [.ref a] H2 Q
  refine ⟨a,vs,rfl,k1,λ bs ka l hl=>?_⟩
  have g3:=Gr.adopt g2.s (yR ka)
  have n3:Nw H2 (bZ H2 l (.lst (bs.map V.ref))) l (.lst (bs.map V.ref)):=.of hl
  have g4:=g3.trans (Gr.nw g3.s n3)
  refine q _ rfl _ ρ2 _ _ (g2.trans (.of g4)) (s2.grow g4) (.lst (cD.of aJ) (Jx k2 ka λ b hb=>?_))
  rw [aH (λ z=>by obtain ⟨xs,hx⟩:=yR ka b hb;rw [z,hl] at hx;cases hx)]
  unfold L2.adopt
  rw [if_pos hb]) qx
end
noncomputable def Om (k v:Str):TE:=Ft [(tC (.str k),tC (.str v))]
def NT {X:Cx} {k v:Str} {j j':Nat} {p p' pos:Pos}:PE X (.Dict [some (.Constant (.str k) j p)] [.Constant (.str v) j' p'] pos) (Om k v):=Eb (Ab zD zD Dm) rfl rfl nofun (Nat.le_add_left 1 14)
section
variable {K:Frag} {cl:Str->Addr} {E:XK}
noncomputable def MF (k v:Str):DS->ah->SM W:=λ _ S=>some (.ok (.ref S.length),S++[.dK [(.inr k,.str v)]])
def Jn {k v:Str}:SE K cl E (Om k v) (MF k v):=λ ρ G σ H δ S r S' Q R e q qx=>by
 cases e
 intro p hp
 refine ⟨aJ,[(.inr k,.str v)],rfl,by simp,?_⟩
 have n:Nw H (bZ (bZ H p (.dK [])) p (.dK (ji [] [(.inr k,V.str v)]))) p (.dK (ji [] [(.inr k,V.str v)])):=⟨λ b o eb=>by
  have:b≠p:=λ z=>by rw [z,hp] at eb;cases eb
  rw [aH this,aH this]
  exact eb,hp,aJ⟩
 obtain ⟨s2,g2⟩:=R.st.push (o:=.dK [(.inr k,.str v)]) R.rl.sub n λ ρ' hr=>⟨_,n.2.2,.cons (.str v) .nil⟩
 exact q _ rfl _ _ _ _ g2 s2 (.ref (by rw [<-R.st.len];simp))
end
section
variable {X:Cx} {e:Expr} {es:List Expr} {t:TA} {p pos:Pos}
def N8 (hc:X.calm=true) (hg:Gl X "list") (hm:X.mg "list" = none) (ha:PA X (e::es) t)
 (he:starEach (e::es) X.env=(false,eval e X.env)::starEach es X.env) (hp:(backTo pos (starEach es X.env)).any (·.1)=false):PE X (.Call (.Name "list" p) (e::es) [] pos) (yH rK t):=p7 (vK hc) hg hm boot_list ha (by decide) (by decide) he hp
end
end L2
namespace My
open PySem PySem.Spec PyProof.Rows L2
open PySem.W (Frag)
local macro_rules | `(tactic| simp! [$a,*] $[$l]?)=>`(tactic| simp only [Nat.reduceAdd,Nat.reduceSub,reduceIte,Nat.reduceEqDiff,List.replicate,$a,*] $[$l]?)
noncomputable def jm (i:Nat):Stmt:=PySem.Challenge.pw_widelanes_k17_other_names.main.body.getD i (.Pass ⟨0,0,0,0⟩)
noncomputable abbrev lK:Stmt:=jm 1
noncomputable abbrev nu:Stmt:=jm 2
noncomputable abbrev om:Stmt:=jm 3
noncomputable abbrev lG:Stmt:=jm 6
noncomputable abbrev cB:Stmt:=vM (jm 8) 0
noncomputable abbrev eQ:Stmt:=vM (jm 8) 1
noncomputable abbrev sI:Stmt:=jm 11
noncomputable abbrev lz:Stmt:=jm 12
noncomputable abbrev nG:Stmt:=jm 13
noncomputable abbrev iL:Stmt:=jm 14
noncomputable abbrev lP:Stmt:=jm 15
noncomputable abbrev nO:Stmt:=jm 10
noncomputable abbrev x5:Stmt:=jm 9
noncomputable abbrev vR:Stmt:=jm 16
noncomputable abbrev tN:Stmt:=jm 17
noncomputable abbrev iF:Stmt:=jm 19
noncomputable abbrev jg:Stmt:=jm 20
noncomputable abbrev jN:Stmt:=jm 21
noncomputable abbrev l7:Stmt:=jm 22
noncomputable abbrev jh:Stmt:=jm 23
noncomputable abbrev fS:Stmt:=jm 24
noncomputable abbrev l8:Stmt:=jm 25
noncomputable abbrev p9:Stmt:=jm 26
noncomputable abbrev gH:Stmt:=jm 27
noncomputable abbrev gj:Stmt:=jm 28
noncomputable abbrev lM:Stmt:=jm 29
noncomputable abbrev jS:Stmt:=jm 30
noncomputable abbrev gE:Stmt:=jm 31
noncomputable abbrev iN:Stmt:=jm 32
noncomputable abbrev gv:Stmt:=jm 33
noncomputable abbrev sC:Stmt:=jm 34
noncomputable def o7 (c_Links:Addr):Str->Addr:=λ s=>if s = "Links" then c_Links else 0
def gB (c_Links:Addr):o7 c_Links "Links" = c_Links:=by
 unfold o7
 rw [if_pos rfl]
noncomputable def iM:List W->Option W:=c7 1 1
 (aB (cG (aG c6 (az aT (aw 0) (dC (.int (0)))) (dC (.str "while")))
  (bg (br (bE (aa (az aT (aw 0) (dC (.int (3)))) ag))))
  aI)
 (aB (cG (aG c6 (az aT (aw 0) (dC (.int (0)))) (dC (.str "if")))
  (bg (br (gC [none] (bU (oW (af 0) (dR (dC (.int (3)))) dz)) (ae 0) (aG fB (aw 0) (dC .none)) (af 0))))
  aI)
 (bg (br (bE ag)))))
noncomputable def gO (pf:List W->Option W):DS->Option dt:=(g8 3 (aW pf (aa (af 5) (aa (az xh (aw 2) (aM (aa (af 4) ag))) ag))))
noncomputable def cv (pf:List W->Option W):DS->Option dt:=(aB (dH 3 (aM (aa (af 4) (aa (af 2) ag))))
 (ic (bU (aW iM (aa (af 4) ag))) (ae 5) (gO pf)))
noncomputable def aU:Nat->List W->Option W
 | 0,_=>none
 | n+1,ds=>c7 2 6
  (aB (aC (Ew (aG oH (aw 1) (dC .none)) (aM ag) (af 1)) (ae 2))
  (aB (lI 3 (bE ag))
  (aB (ic (bU (af 0)) (ae 4) (cv (aU n)))
  (lT 3 (bg (af 3)))))) ds
noncomputable def jk:List W->Option W:=c7 1 1
 (bg (Ew (aG kF (az aT (aw 0) (dC (.int (0)))) (aM (aa (dC (.str "set")) (aa (dC (.str "call")) (aa (dC (.str "join")) ag))))) (az aT (aw 0) (dC (.int (2)))) (dC .none)))
noncomputable def cO (pf:List W->Option W):DS->Option dt:=(g8 1 (aW pf (aa (af 2) ag)))
noncomputable def bu:Nat->List W->Option W
 | 0,_=>none
 | n+1,ds=>c7 1 3
  (aB (cG (oi (aG BS (az aT (aw 0) (dC (.int (0)))) (dC (.str "box"))) (aG i9 (az aT (aw 0) (dC (.int (0)))) (dC (.tuple [.str "+", .str "-", .str "*", .str "div", .str "rem", .str "<", .str "="]))))
   (bg (br (bE (aa (af 0) ag))))
   aI)
  (aB (lI 1 (bE ag))
  (aB (ic (bU (oW (af 0) (dR (dC (.int (1)))) dz)) (ae 2) (cO (bu n)))
  (lT 1 (bg (af 1)))))) ds
noncomputable def dY:List W->ah->SM W:=cT 1 1
 (xf "Links" "behind" (ab (af 0)) Mf)
noncomputable def gh:DS->ah->SO:=(cK (qI (n8 "Links" "behind" (ab (af 0))) (ab (af 4)) (d9 (ab ag))) (ab (aM (aa (af 2) (aa (af 3) ag)))))
noncomputable def aN:List W->ah->SM W:=cT 4 5
 (fG (ab (bU (af 1))) (ae 4) gh)
noncomputable def kj:List W->Option W:=c7 2 2
 (bg (az ck (br (bE (aa (aM (aa (dC (.str "def")) (aa (af 0) ag))) ag))) (br (gC [none] (bU (aw 1)) (ae 0) gN (aM (aa (dC (.str "row")) (aa (az aT (aw 0) (dC (.int (1)))) ag)))))))
noncomputable def bC:List W->Option W:=c7 2 4
 (aB (aC (aW (bu 9) (aa (af 1) ag)) (ae 2))
 (aB (aC (br (gC [some 0,none] (bU (aw 2)) (ae 1) (aG c6 (az aT (aw 1) (dC (.int (0)))) (dC (.str "name"))) (aM (aa (dC (.str "name")) (aa (af 0) (aa (az aT (aw 1) (dC (.int (1)))) ag)))))) (ae 3))
 (bg (Ew (pC (aG oX (aM (aa (dC (.str "lane")) ag)) (aw 2)) (aG oX (aM (aa (dC (.str "mine")) ag)) (aw 2))) (br (bE (aa (dC .none) ag))) (af 3)))))
noncomputable def jz:List W->ah->SM W:=cT 4 8
 (aF (aE (aC (aW kj (aa (af 1) (aa (af 3) ag))) (ae 4)))
 (aF (aE (aC (az aT (aw 2) (dC (.int (1)))) (ae 5)))
 (aF (aE (aC (aW jk (aa (af 2) ag)) (ae 6)))
 (aF (dq (ab (aG fB (aw 6) (dC .none)))
  (bw (cJ "Links" "add" aN (ab (af 0)) (ab (aa (af 4) (aa (aM (aa (dC (.str "name")) (aa (af 1) (aa (af 6) ag)))) (aa (af 5) ag))))))
  (aE aI))
 (aF (dq (ab (aG kF (az aT (aw 2) (dC (.int (0)))) (aM (aa (dC (.str "break")) (aa (dC (.str "again")) ag)))))
  (aF (aE (aC (br (gC [none] (bU (aw 3)) (ae 0) (aG c6 (az aT (aw 0) (dC (.int (0)))) (dC (.str "while"))) (az aT (aw 0) (dC (.int (1)))))) (ae 7)))
 (bw (cJ "Links" "add" aN (ab (af 0)) (ab (aa (af 4) (aa (aM (aa (dC (.str "row")) (aa (az aT (aw 7) (BZ lX (dC (.int (1))))) ag))) (aa (af 5) ag)))))))
  (aE aI))
 (aF (dq (ab (aG c6 (az aT (aw 2) (dC (.int (0)))) (dC (.str "return"))))
  (bw (cJ "Links" "add" aN (ab (af 0)) (ab (aa (af 4) (aa (aM (aa (dC (.str "def")) (aa (af 1) ag))) (aa (af 5) ag))))))
  (aE aI))
 (dq (ab (aG c6 (az aT (aw 2) (dC (.int (0)))) (dC (.str "call"))))
  (bw (cJ "Links" "add" aN (ab (af 0)) (ab (aa (af 4) (aa (aM (aa (dC (.str "def")) (aa (az aT (aw 2) (dC (.int (3)))) ag))) (aa (af 5) ag))))))
  (aE aI))))))))
noncomputable def fM:List W->ah->SM W:=cT 3 5
 (aF (aE (aC (az aT (aw 2) (dC (.int (0)))) (ae 3)))
 (aF (aE (aC (az aT (aw 2) (dC (.int (1)))) (ae 4)))
 (aF (dq (ab (aG kF (aw 3) (aM (aa (dC (.str "if")) (aa (dC (.str "while")) ag)))))
  (bw (cJ "Links" "add" aN (ab (af 0)) (ab (aa (aW bC (aa (af 1) (aa (az aT (aw 2) (dC (.int (2)))) ag))) (aa (aM (aa (dC (.str "row")) (aa (af 4) ag))) (aa (af 4) ag))))))
  (aE aI))
 (aF (dq (ab (aG c6 (aw 3) (dC (.str "return"))))
  (bw (cJ "Links" "add" aN (ab (af 0)) (ab (aa (aW bC (aa (af 1) (aa (az aT (aw 2) (dC (.int (2)))) ag))) (aa (aM (aa (dC (.str "back")) (aa (af 1) ag))) (aa (af 4) ag))))))
  (aE aI))
 (aF (dq (ab (aG c6 (aw 3) (dC (.str "set"))))
  (bw (cJ "Links" "add" aN (ab (af 0)) (ab (aa (aW bC (aa (af 1) (aa (az aT (aw 2) (dC (.int (3)))) ag))) (aa (aM (aa (dC (.str "name")) (aa (af 1) (aa (az aT (aw 2) (dC (.int (2)))) ag)))) (aa (af 4) ag))))))
  (aE aI))
 (dq (ab (oi (aG c6 (aw 3) (dC (.str "join"))) (aG c6 (az aT (aw 2) (dC (.int (3)))) (dC (.str "ahead")))))
  (bw (cJ "Links" "add" aN (ab (af 0)) (ab (aa (br (bE (aa (dC .none) ag))) (aa (aM (aa (dC (.str "name")) (aa (af 1) (aa (az aT (aw 2) (dC (.int (2)))) ag)))) (aa (af 4) ag))))))
  (aE aI)))))))
noncomputable def jd:DS->ah->SO:=(bw (cJ "Links" "add" aN (ab (af 0)) (ab (aa (aW bC (aa (af 1) (aa (af 7) ag))) (aa (aM (aa (dC (.str "name")) (aa (af 5) (aa (af 6) ag)))) (aa (af 4) ag))))))
noncomputable def fV:List W->ah->SM W:=cT 4 8
 (aF (aE (aC (az aT (aw 2) (dC (.int (1)))) (ae 4)))
 (aF (aE (aC (az aT (aw 2) (dC (.int (3)))) (ae 5)))
 (aF (bw (cJ "Links" "add" aN (ab (af 0)) (ab (aa (br (bE (aa (aM (aa (dC (.str "back")) (aa (af 5) ag))) ag))) (aa (aM (aa (dC (.str "name")) (aa (af 1) (aa (az aT (aw 2) (dC (.int (2)))) ag)))) (aa (af 4) ag))))))
 (fG (ab (Bz (aa (af 3) (aa (az aT (aw 2) (dC (.int (4)))) ag)))) (b8 2 (au (ae 6) (au (ae 7) bB))) jd))))
noncomputable def gY:DS->ah->SO:=(gS (ab (af 2)) (ab (af 3)) (ab (af 4)))
noncomputable def jM:DS->ah->SO:=(aF (bw (bI jz (ab (aa (af 1) (aa (af 3) (aa (af 8) (aa (af 9) ag)))))))
 (aF (bw (bI fM (ab (aa (af 1) (aa (af 3) (aa (af 8) ag))))))
 (dq (ab (aG c6 (az aT (aw 8) (dC (.int (0)))) (dC (.str "call"))))
  (bw (bI fV (bJ (ab (af 1)) (bJ (ab (af 3)) (bJ (ab (af 8)) (bJ (ja (ab (af 2)) (ab (az aT (aw 8) (dC (.int (3)))))) jZ))))))
  (aE aI))))
noncomputable def k7:DS->ah->SO:=(aF (bw (cJ "Links" "add" aN (ab (af 1)) (ab (aa (br (bE (aa (aM (aa (dC (.str "def")) (aa (af 3) ag))) ag))) (aa (aM (aa (dC (.str "back")) (aa (af 3) ag))) (aa (af 6) ag))))))
 (fG (ab (bU (mG (aU 8) (aa (af 5) ag)))) (b8 2 (au (ae 8) (au (ae 9) bB))) jM))
noncomputable def jp:List W->ah->SM W:=cT 1 10
 (aF (cz (wq "Links" dY (ab ag)) (ae 1))
 (aF (cz NQ (ae 2))
 (aF (fG (ab (bU (af 0))) (b8 5 (au (ae 3) (au (ae 4) (au (ae 5) (au (ae 6) (au (ae 7) bB)))))) gY)
 (aF (fG (ab (bU (af 0))) (b8 5 (au (ae 3) (au (ae 4) (au (ae 5) (au (ae 6) (au (ae 7) bB)))))) k7)
 (aE (bg (af 1)))))))
noncomputable def iS:DS->ah->SO:=(dq (k8 true (ab (af 5)) (ab (af 2)))
 (aF (gS (ab (af 2)) (ab (af 5)) (ab (aM (aa (af 6) (aa (af 4) ag)))))
 (cK (ab (af 3)) (ab (af 5))))
  (aE aI))
noncomputable def kT:DS->ah->SO:=(aF (cz (Ax (ab (af 3))) (ae 4))
 (uo 9000 (iB (mE (n8 "Links" "behind" (ab (af 1))) (ab (af 4)) (d9 (ab ag)))) (b8 2 (au (ae 5) (au (ae 6) bB))) iS))
noncomputable def jG:List W->ah->SM W:=cT 1 7
 (aF (cz (bI jp (ab (aa (af 0) ag))) (ae 1))
 (aF (cz Oe (ae 2))
 (aF (cz (d9 (ab (aa (dC .none) ag))) (ae 3))
 (aF (cY (tS (ab (af 3))) kT 1000000)
 (aE (bg (af 2)))))))
noncomputable def ls:DS->ah->SO:=(aF (cz (nA [some 1,none] (ab (bU (aW kj (aa (af 3) (aa (af 9) ag))))) (ae 1) (k8 false (ab (af 1)) (ab (af 0))) (ab (af 1))) (ae 10))
 (aE (cG (oi (yV (af 10)) (aG kF (az aT (aw 8) (dC (.int (0)))) (aM (aa (dC (.str "meet")) (aa (dC (.str "join")) ag)))))
  (dH 2 (aM (aa (az aT (aw 8) (dC (.int (1)))) (aa (az aT (aw 10) (dC (.int (0)))) ag))))
  aI)))
noncomputable def p5:DS->ah->SO:=(fG (ab (bU (mG (aU 8) (aa (af 5) ag)))) (b8 2 (au (ae 8) (au (ae 9) bB))) ls)
noncomputable def eG:List W->ah->SM W:=cT 1 11
 (aF (cz (bI jG (ab (aa (af 0) ag))) (ae 1))
 (aF (aE (lI 2 (bE ag)))
 (aF (fG (ab (bU (af 0))) (b8 5 (au (ae 3) (au (ae 4) (au (ae 5) (au (ae 6) (au (ae 7) bB)))))) p5)
 (aE (lT 2 (bg (af 2)))))))
noncomputable def gD:List W->ah->SM W:=cT 1 1
 (fU (xa (bI eG (ab (aa (af 0) ag)))))
noncomputable def bA:List W->Option W:=c7 2 2
 (aB (cG (aG sA (aw 1) (BV ky (aw 0)))
  (bg (az aT (aw 0) (af 1)))
  aI)
 (bg (dC (.int (0)))))
noncomputable def bv:List W->Option W:=c7 2 4
 (aB (aC (az ck (az kf (dC (.int (10))) (dC (.int (30)))) (dC (.int (57)))) (ae 2))
 (aB (aC (az j7 (az bD (aw 0) (af 2)) (dC (.int (271828182845904523536028747135)))) (ae 3))
 (aB (aC (az ck (aw 3) (az j7 (az j7 (aw 1) (af 1)) (dC (.int (314159265358979323846264338327))))) (ae 3))
 (bg (az bD (az ck (aw 3) (dC (.int (577215664901532860606512090082)))) (af 2))))))
noncomputable def fA:DS->Option dt:=(aB (aC (az ck (aw 6) (az aT (aw 1) (az bD (aw 5) (dC (.int (26)))))) (ae 6))
 (aC (az cm (aw 5) (dC (.int (26)))) (ae 5)))
noncomputable def f8:DS->Option dt:=(aB (aC (az aT (aw 1) (az bD (az ck (aw 5) (az j7 (dC (.int (5))) (af 7))) (dC (.int (26))))) (ae 9))
 (aB (aC (az ck (az ck (rL (af 6) dz (dR (af 4))) (af 9)) (rL (af 6) (dR (az ck (aw 4) (dC (.int (1))))) (dR (af 3)))) (ae 10))
 (aB (cG (aG c6 (az bD (az cm (aw 5) (dC (.int (26)))) (dC (.int (4)))) (dC (.int (1))))
  (aC (rL (af 6) dz (dR (az gSub' (dC (.int (8))) (af 7)))) (ae 10))
  aI)
 (aB (cG (pC (aG kF (aw 10) (aw 2)) (aG c6 (aw 10) (dC (.str "main"))))
  (aC (az sd (dC (.str "q")) (BV ky (aw 10))) (ae 10))
  aI)
 (dH 8 (af 10))))))
noncomputable def ft:List W->Option W:=c7 1 11
 (aB (aC (dC (.str "abcdefghijklmnopqrstuvwxyz")) (ae 1))
 (aB (aC (br (bE (aa (dC (.str "def")) (aa (dC (.str "set")) (aa (dC (.str "put")) (aa (dC (.str "tell")) (aa (dC (.str "if")) (aa (dC (.str "else")) (aa (dC (.str "while")) (aa (dC (.str "end")) (aa (dC (.str "break")) (aa (dC (.str "again")) (aa (dC (.str "call")) (aa (dC (.str "return")) ag)))))))))))))) (ae 2))
 (aB (aC (az ck (aw 2) (br (bE (aa (dC (.str "stop")) (aa (dC (.str "join")) (aa (dC (.str "meet")) (aa (dC (.str "lane")) (aa (dC (.str "lanes")) (aa (dC (.str "mine")) (aa (dC (.str "box")) (aa (dC (.str "div")) (aa (dC (.str "rem")) (aa (dC (.str "sum")) (aa (dC (.str "most")) ag)))))))))))))) (ae 2))
 (aB (aC (az ck (aw 2) (br (bE (aa (dC (.str "least")) (aa (dC (.str "ahead")) ag))))) (ae 2))
 (aB (aC (az ck (dC (.int (1))) (az bD (aw 0) (dC (.int (8))))) (ae 3))
 (aB (aC (az bD (az cm (aw 0) (dC (.int (8)))) (af 3)) (ae 4))
 (aB (aC (az cm (aw 0) (dC (.int (64)))) (ae 5))
 (aB (aC (dC (.str "")) (ae 6))
 (aB (ic (jf (aa (dC (.int (8))) ag)) (ae 7) fA)
 (aB (lI 8 (bE ag))
 (aB (ic (jf (aa (dC (.int (6))) ag)) (ae 7) f8)
 (lT 8 (bg (af 8))))))))))))))
noncomputable def cj:List W->Option W:=c7 3 5
 (aB (aC (az bD (aw 0) (dC (.int (24)))) (ae 3))
 (aB (aC (az cm (aw 0) (dC (.int (24)))) (ae 4))
 (aB (cG (aG Md (aw 3) (az gSub' (dC (.int (24))) (af 2)))
  (bg (aM (aa (az aT (br (bE (aa (aM (aa (dC (.str "lane")) ag)) (aa (aM (aa (dC (.str "mine")) ag)) ag)))) (az bD (aw 4) (dC (.int (2))))) (aa (az cm (aw 4) (dC (.int (2)))) ag))))
  aI)
 (aB (cG (aG sA (aw 3) (dC (.int (11))))
  (bg (aM (aa (aM (aa (dC (.str "name")) (aa (az aT (aw 1) (az bD (aw 4) (dC (.int (6))))) ag))) (aa (az cm (aw 4) (dC (.int (6)))) ag))))
  aI)
 (aB (cG (aG c6 (aw 3) (dC (.int (11))))
  (bg (aM (aa (aM (aa (dC (.str "lanes")) ag)) (aa (af 4) ag))))
  aI)
 (bg (aM (aa (aM (aa (dC (.str "num")) (aa (az gSub' (az bD (aw 4) (dC (.int (1999999999)))) (dC (.int (999999999)))) ag))) (aa (az cm (aw 4) (dC (.int (199)))) ag)))))))))
noncomputable def eJ:List W->Option W:=c7 3 6
 (aB (aC (aW cj (aa (az cm (aw 0) (dC (.int (5)))) (aa (af 1) (aa (af 2) ag)))) (b8 2 (au (ae 3) (au (ae 4) bB))))
 (aB (cG (aG c6 (az bD (aw 0) (dC (.int (5)))) (dC (.int (1))))
  (bg (aM (aa (aM (aa (dC (.str "box")) (aa (af 3) ag))) (aa (af 4) ag))))
  aI)
 (aB (cG (aG c6 (az bD (aw 0) (dC (.int (5)))) (dC (.int (2))))
  (aB (aC (aW cj (aa (af 4) (aa (af 1) (aa (af 2) ag)))) (b8 2 (au (ae 5) (au (ae 4) bB))))
 (bg (aM (aa (aM (aa (az aT (br (bE (aa (dC (.str "+")) (aa (dC (.str "*")) (aa (dC (.str "<")) ag))))) (az bD (aw 4) (dC (.int (3))))) (aa (af 3) (aa (af 5) ag)))) (aa (az cm (aw 4) (dC (.int (3)))) ag)))))
  aI)
 (bg (aM (aa (af 3) (aa (af 4) ag)))))))
noncomputable def c8:DS->Option dt:=(aB (cG (aG sA (aw 5) (az kf (dC (.int (10))) (dC (.int (11)))))
 (aC (aW bv (aa (az ck (aw 0) (af 6)) (aa (az ck (aw 6) (dC (.int (5)))) ag))) (ae 5))
 aI)
 (aB (aC (az bD (aw 5) (dC (.int (4)))) (ae 7))
 (aB (aC (az cm (aw 5) (dC (.int (4)))) (ae 5))
 (aB (cG (aG c6 (aw 7) (dC (.int (0))))
  (aB (aC (aM (aa (dC (.str "box")) (aa (af 4) ag))) (ae 4))
 jq)
  aI)
 (aB (cG (oi (aG c6 (aw 3) (dC (.int (6)))) (aG c6 (aw 6) (dC (.int (0)))))
  (aC (aW cj (aa (af 5) (aa (af 1) (aa (af 2) ag)))) (b8 2 (au (ae 8) (au (ae 5) bB))))
  (aC (aW eJ (aa (af 5) (aa (af 1) (aa (af 2) ag)))) (b8 2 (au (ae 8) (au (ae 5) bB)))))
 (aB (aC (az aT (br (bE (aa (dC (.str "+")) (aa (dC (.str "-")) (aa (dC (.str "*")) (aa (dC (.str "div")) (aa (dC (.str "rem")) (aa (dC (.str "<")) (aa (dC (.str "=")) ag))))))))) (az bD (aw 5) (dC (.int (7))))) (ae 9))
 (aB (aC (az cm (aw 5) (dC (.int (7)))) (ae 5))
 (cG (aG c6 (aw 7) (dC (.int (1))))
  (aC (aM (aa (af 9) (aa (af 4) (aa (af 8) ag)))) (ae 4))
  (aC (aM (aa (af 9) (aa (af 8) (aa (af 4) ag)))) (ae 4))))))))))
noncomputable def aX:List W->Option W:=c7 3 10
 (aB (aC (az aT (br (bE (aa (dC (.int (0))) (aa (dC (.int (0))) (aa (dC (.int (0))) (aa (dC (.int (1))) (aa (dC (.int (1))) (aa (dC (.int (2))) (aa (dC (.int (6))) ag))))))))) (az bD (aw 0) (dC (.int (7))))) (ae 3))
 (aB (aC (aW cj (aa (az cm (aw 0) (dC (.int (7)))) (aa (af 1) (aa (af 2) ag)))) (b8 2 (au (ae 4) (au (ae 5) bB))))
 (aB (ic (jf (aa (af 3) ag)) (ae 6) c8)
 (bg (af 4)))))
noncomputable def jb:DS->Option dt:=(aB (dH 8 (aW aX (aa (az ck (az j7 (az bD (aw 0) (dC (.int (1000)))) (dC (.int (7)))) (az bD (az cm (aw 0) (dC (.int (1000)))) (dC (.int (5))))) (aa (af 2) (aa (af 4) ag)))))
 (aC (az cm (aw 0) (az kf (dC (.int (10))) (dC (.int (4))))) (ae 0)))
noncomputable def i7:List W->Option W:=c7 5 10
 (aB (aC (br (gC [none] (bU (aw 3)) (ae 0) (aG BS (az aT (aw 0) (dC (.int (0)))) (dC (.str "main"))) (af 0))) (ae 5))
 (aB (cG (aG c6 (aw 5) (br (bE ag)))
  (bg (aM (aa (dC (.str "tell")) (aa (aW aX (aa (af 0) (aa (af 2) (aa (af 4) ag)))) ag))))
  aI)
 (aB (aC (az aT (aw 5) (az bD (aw 0) (BV ky (aw 5)))) (b8 2 (au (ae 6) (au (ae 7) bB))))
 (aB (aC (az cm (aw 0) (dC (.int (3)))) (ae 0))
 (aB (lI 8 (bE ag))
 (aB (ic (jf (aa (BV ky (aw 7)) ag)) (ae 9) jb)
 (lT 8 (bg (aM (aa (dC (.str "call")) (aa (af 1) (aa (af 6) (aa (af 8) ag)))))))))))))
noncomputable def kX:List W->Option W:=c7 5 8
 (aB (aC (az bD (aw 0) (dC (.int (24)))) (ae 5))
 (aB (aC (az aT (aw 1) (az bD (az cm (aw 0) (dC (.int (24)))) (dC (.int (6))))) (ae 6))
 (aB (aC (az cm (aw 0) (dC (.int (144)))) (ae 7))
 (aB (cG (aG sA (aw 5) (dC (.int (5))))
  (bg (aM (aa (dC (.str "set")) (aa (af 6) (aa (aW aX (aa (af 7) (aa (af 1) (aa (af 3) ag)))) ag)))))
  aI)
 (aB (cG (aG sA (aw 5) (dC (.int (9))))
  (bg (aM (aa (az aT (br (bE (aa (dC (.str "if")) (aa (dC (.str "if")) (aa (dC (.str "while")) (aa (dC (.str "while")) ag)))))) (az gSub' (aw 5) (dC (.int (5))))) (aa (aW aX (aa (af 7) (aa (af 1) (aa (af 3) ag)))) ag))))
  aI)
 (aB (cG (aG sA (aw 5) (dC (.int (13))))
  (bg (aM (aa (az aT (br (bE (aa (dC (.str "end")) (aa (dC (.str "end")) (aa (dC (.str "end")) (aa (dC (.str "else")) ag)))))) (az gSub' (aw 5) (dC (.int (9))))) ag)))
  aI)
 (aB (cG (aG sA (aw 5) (dC (.int (17))))
  (bg (aM (aa (az aT (br (bE (aa (dC (.str "break")) (aa (dC (.str "again")) (aa (dC (.str "meet")) (aa (dC (.str "stop")) ag)))))) (az gSub' (aw 5) (dC (.int (13))))) ag)))
  aI)
 (aB (cG (aG sA (aw 5) (dC (.int (19))))
  (bg (aM (aa (az aT (br (bE (aa (dC (.str "tell")) (aa (dC (.str "return")) ag)))) (az gSub' (aw 5) (dC (.int (17))))) (aa (aW aX (aa (af 7) (aa (af 1) (aa (af 3) ag)))) ag))))
  aI)
 (aB (cG (aG c6 (aw 5) (dC (.int (19))))
  (aB (aC (aW aX (aa (az cm (aw 7) (az kf (dC (.int (10))) (dC (.int (12))))) (aa (af 1) (aa (af 3) ag)))) (ae 0))
 (bg (aM (aa (dC (.str "put")) (aa (aW aX (aa (az bD (aw 7) (az kf (dC (.int (10))) (dC (.int (12))))) (aa (af 1) (aa (af 3) ag)))) (aa (af 0) ag))))))
  aI)
 (aB (cG (aG c6 (aw 5) (dC (.int (20))))
  (bg (aM (aa (dC (.str "join")) (aa (af 6) (aa (az aT (aw 4) (az bD (aw 7) (BV ky (aw 4)))) (aa (aW aX (aa (az cm (aw 7) (dC (.int (4)))) (aa (af 1) (aa (af 3) ag)))) ag))))))
  aI)
 (bg (aW i7 (aa (af 7) (aa (af 6) (aa (af 1) (aa (af 2) (aa (af 3) ag)))))))))))))))))
noncomputable def eB:List W->ah->SM W:=cT 1 1
 (aF (dq (wJ false (sIx (ab (af 0)) (ab (dC (.int (0))))) (ab (dC (.str "if"))))
  (fU (oI (bJ (ab (dC (.str "if"))) (bJ (sIx (ab (af 0)) (ab (dC (.int (1))))) (bJ (sIx (ab (af 0)) (ab (dC (.int (2))))) (bJ (sIx (ab (af 0)) (ab (dC (.int (4))))) (bJ (sIx (ab (af 0)) (ab (dC (.int (5))))) jZ)))))))
  (aE aI))
 (fU (oI (bJ (ab (dC (.str "while"))) (bJ (sIx (ab (af 0)) (ab (dC (.int (1))))) (bJ (sIx (ab (af 0)) (ab (dC (.int (2))))) (bJ (sIx (ab (af 0)) (ab (dC (.int (4))))) jZ)))))))
noncomputable def b7:List W->ah->SM W:=cT 3 3
 (aF (dq (ab (pC (aG c6 (az aT (aw 0) (dC (.int (0)))) (dC (.str "break"))) (aG c6 (az aT (aw 0) (dC (.int (0)))) (dC (.str "again")))))
  (fU (LG FI (mX 9000 [none] (iB (ab (af 1))) (ae 0) (ab gN) (sB (wJ false (sIx (ab (af 0)) (ab (dC (.int (0))))) (ab (dC (.str "while"))))))))
  (aE aI))
 (aF (dq (ab (aG c6 (az aT (aw 0) (dC (.int (0)))) (dC (.str "else"))))
  (fU (lR (tj true (ab (af 1)) (ab (br (bE ag)))) (lR (sB (wJ false (sIx (sIx (ab (af 1)) (ab (BZ lX (dC (.int (1)))))) (ab (dC (.int (0))))) (ab (dC (.str "if"))))) (sB (uY oH (sIx (sIx (ab (af 1)) (ab (BZ lX (dC (.int (1)))))) (ab (dC (.int (5))))) (ab (dC .none)))))))
  (aE aI))
 (aF (dq (ab (aG c6 (az aT (aw 0) (dC (.int (0)))) (dC (.str "end"))))
  (fU (tj true (ab (af 1)) (ab (br (bE ag)))))
  (aE aI))
 (aF (dq (ab (pC (aG c6 (az aT (aw 0) (dC (.int (0)))) (dC (.str "if"))) (aG c6 (az aT (aw 0) (dC (.int (0)))) (dC (.str "while")))))
  (fU (sB (uY sA (Ea (ab (af 1))) (ab (dC (.int (5)))))))
  (aE aI))
 (aE (bg (Eh (dB (aG BS (az aT (aw 0) (dC (.int (0)))) (dC (.str "return")))) (wB (af 2)))))))))
noncomputable def cQ:DS->ah->SO:=(aF (dq (oN (oK (bI b7 (ab (aa (af 6) (aa (af 5) (aa (af 2) ag)))))))
 (aE jq)
 (aE aI))
 (aF (aE (aC (az ck (aw 1) (dC (.int (1)))) (ae 1)))
 (dq (ab (aG c6 (az aT (aw 6) (dC (.int (0)))) (dC (.str "end"))))
  (aF (cz (Ax (ab (af 5))) (ae 7))
 (aF (cz (sIx (ab (af 7)) (ab (dC (.int (3))))) (ae 4))
 (cK (ab (af 4)) (bI eB (ab (aa (af 7) ag))))))
  (dq (ab (aG c6 (az aT (aw 6) (dC (.int (0)))) (dC (.str "else"))))
  (aF (cz (sIx (ab (af 5)) (ab (BZ lX (dC (.int (1)))))) (ae 7))
 (aF (rR (ab (af 7)) (ab (dC (.int (5)))) (d9 (ab ag)))
 (cz (sIx (ab (af 7)) (ab (dC (.int (5))))) (ae 4))))
  (dq (ab (pC (aG c6 (az aT (aw 6) (dC (.int (0)))) (dC (.str "if"))) (aG c6 (az aT (aw 6) (dC (.int (0)))) (dC (.str "while")))))
  (aF (cz (d9 (bJ (ab (az aT (aw 6) (dC (.int (0))))) (bJ (ab (af 1)) (bJ (ab (az aT (aw 6) (dC (.int (1))))) (bJ (ab (af 4)) (bJ (d9 (ab ag)) (bJ (ab (dC .none)) jZ))))))) (ae 7))
 (aF (cK (ab (af 5)) (ab (af 7)))
 (cz (sIx (ab (af 7)) (ab (dC (.int (4))))) (ae 4))))
  (cK (ab (af 4)) (ab (az ck (aM (aa (az aT (aw 6) (dC (.int (0)))) (aa (af 1) ag))) (oW (af 6) (dR (dC (.int (1)))) dz)))))))))
noncomputable def iJ:List W->ah->SM W:=cT 3 8
 (aF (cz (d9 (ab ag)) (ae 3))
 (aF (aE (aC (af 3) (ae 4)))
 (aF (cz (d9 (ab ag)) (ae 5))
 (aF (fG (ii (wZ (ab (af 0)) (ab (br (CA (bE (aa (aM (aa (dC (.str "end")) ag)) ag)) (dC (.int (5)))))))) (ae 6) cQ)
 (aE (bg (aM (aa (af 3) (aa (az ck (aw 1) (dC (.int (1)))) ag)))))))))
noncomputable def i6:DS->Option dt:=(aB (aC (az cm (az cm (aw 0) (dC (.int (64)))) (az aT (br (bE (aa (dC (.int (1))) (aa (dC (.int (42))) (aa (dC (.int (1764))) (aa (dC (.int (74088))) ag)))))) (af 5))) (ae 6))
 (aB (aC (az aT (br (bE (aa (dC (.int (0))) (aa (dC (.int (0))) (aa (dC (.int (1))) (aa (dC (.int (1))) (aa (dC (.int (2))) (aa (dC (.int (3))) (aa (dC (.int (6))) ag))))))))) (az bD (aw 6) (dC (.int (7))))) (ae 7))
 (dH 4 (aM (aa (az aT (aw 1) (af 5)) (aa (br (gC [some 2,some 6,none] (jf (aa (af 7) ag)) (ae 2) gN (az aT (aw 0) (az bD (az ck (az cm (aw 1) (dC (.int (7)))) (af 2)) (dC (.int (6))))))) ag))))))
noncomputable def gX:List W->Option W:=c7 3 8
 (aB (aC (az ck (dC (.int (1))) (az bD (aw 0) (dC (.int (4))))) (ae 3))
 (aB (lI 4 (bE ag))
 (aB (ic (jf (aa (af 3) ag)) (ae 5) i6)
 (aB (rf 4 (az bD (az cm (aw 0) (dC (.int (4)))) (af 3)) (aM (aa (dC (.str "main")) (aa (br (bE ag)) ag))))
 (lT 4 (bg (af 4)))))))
noncomputable def cA:List W->Option W:=c7 2 2
 (aB (cG (aG c6 (az bD (az cm (aw 0) (az kf (dC (.int (10))) (dC (.int (9))))) (dC (.int (4)))) (dC (.int (1))))
  (bg (az ck (br (E2 (aw 1) dz (dR (dC (.int (5)))))) (br (bE (aa (dC (.str "main")) ag)))))
  aI)
 (bg (br (gU (aw 1)))))
noncomputable def gM:DS->ah->SO:=(aF (aE (aC (aW bv (aa (af 10) (aa (az ck (aw 9) (dC (.int (2)))) ag))) (ae 11)))
 (cK (ab (az aT (aw 8) (az bD (aw 11) (BV ky (aw 7))))) (ab (aW kX (aa (az cm (aw 11) (BV ky (aw 7))) (aa (af 6) (aa (af 7) (aa (af 2) (aa (af 3) ag)))))))))
noncomputable def gJ:DS->ah->SO:=(aF (cz (bI iJ (ab (aa (az aT (aw 8) (af 9)) (aa (az ck (aw 13) (dC (.int (1)))) (aa (dB (aG c6 (az aT (aw 14) (dC (.int (0)))) (dC (.str "main")))) ag))))) (b8 2 (au (ae 15) (au (ae 16) bB))))
 (aF (cK (ab (af 12)) (ab (aM (aa (az aT (aw 14) (dC (.int (0)))) (aa (br (gU (az aT (aw 14) (dC (.int (1)))))) (aa (af 15) (aa (az ck (aw 13) (dC (.int (1)))) (aa (af 16) ag))))))))
 (aE (aC (af 16) (ae 13)))))
noncomputable def fI:List W->ah->SM W:=cT 5 17
 (aF (aE (aC (aW bv (aa (aW bA (aa (af 0) (aa (dC (.int (0))) ag))) (aa (dC (.int (0))) ag))) (ae 5)))
 (aF (aE (aC (aW cA (aa (af 5) (aa (af 1) ag))) (ae 6)))
 (aF (aE (aC (aW gX (aa (af 5) (aa (af 1) (aa (af 6) ag)))) (ae 7)))
 (aF (cz (nA [none] (ab (bU (af 7))) (ae 0) (ab gN) (d9 (ab ag))) (ae 8))
 (aF (fG (ab (wL (aa (br (E2 (aw 0) (dR (dC (.int (2)))) (dR (af 4)))) ag))) (b8 2 (au (ae 9) (au (ae 10) bB))) gM)
 (aF (cz (d9 (ab ag)) (ae 12))
 (aF (aE (aC (dC (.int (0))) (ae 13)))
 (aF (fG (ab (wL (aa (af 7) ag))) (b8 2 (au (ae 9) (au (ae 14) bB))) gJ)
 (aE (bg (af 12)))))))))))
noncomputable def bX:List W->Option W:=zW fI
noncomputable def bR:List W->ah->SM W:=cT 3 3
 (aF (aE (cG (aG c6 (az aT (aw 0) (dC (.int (0)))) (dC (.str "row")))
  (bg (af 0))
  aI))
 (aF (dq (ab (aG c6 (az aT (aw 0) (dC (.int (0)))) (dC (.str "name"))))
  (fU (oI (bJ (ab (dC (.str "name"))) (bJ (ja (ab (af 1)) (ab (az aT (aw 0) (dC (.int (1)))))) (bJ (ja (ab (af 2)) (ab (az aT (aw 0) (dC (.int (2)))))) jZ)))))
  (aE aI))
 (fU (oI (bJ (ab (az aT (aw 0) (dC (.int (0))))) (bJ (ja (ab (af 1)) (ab (az aT (aw 0) (dC (.int (1)))))) jZ))))))
noncomputable def wn:DS->ah->SO:=(aF (gS (ab (af 6)) (ab (af 8)) (ab (af 9)))
 (gS (ab (af 7)) (ab (af 8)) (ab (af 9))))
noncomputable def wV:DS->ah->SO:=(dq (k8 true (bI bR (ab (aa (af 12) (aa (af 6) (aa (af 7) ag))))) (ab (af 11)))
 (aE (bg (dC (.bool false))))
 (aE aI))
noncomputable def wH:List W->ah->SM W:=cT 1 14
 (aF (aE (aC (aW ft (aa (aW bv (aa (aW bA (aa (af 0) (aa (dC (.int (1))) ag))) (aa (dC (.int (1))) ag))) ag)) (ae 1)))
 (aF (aE (aC (aW ft (aa (aW bv (aa (aW bA (aa (af 0) (aa (dC (.int (2))) ag))) (aa (dC (.int (2))) ag))) ag)) (ae 2)))
 (aF (aE (aC (az aT (br (bE (aa (dC (.int (0))) (aa (dC (.int (1))) (aa (dC (.int (3))) (aa (dC (.int (12))) ag)))))) (az bD (aW bv (aa (aW bA (aa (af 0) (aa (dC (.int (0))) ag))) (aa (dC (.int (77))) ag))) (dC (.int (4))))) (ae 3)))
 (aF (aE (aC (aW bX (aa (af 0) (aa (af 1) (aa (af 3) (aa (br (bE (aa (dC (.str "sum")) (aa (dC (.str "most")) (aa (dC (.str "least")) (aa (dC (.str "ahead")) ag)))))) (aa (dC (.int (56))) ag)))))) (ae 4)))
 (aF (aE (aC (aW bX (aa (af 0) (aa (af 2) (aa (af 3) (aa (br (bE (aa (dC (.str "sum")) (aa (dC (.str "most")) (aa (dC (.str "least")) (aa (dC (.str "ahead")) ag)))))) (aa (dC (.int (56))) ag)))))) (ae 5)))
 (aF (cz (MF (Str.ofString "main") (Str.ofString "main")) (ae 6))
 (aF (cz (MF (Str.ofString "main") (Str.ofString "main")) (ae 7))
 (aF (fG (ab (Bz (aa (af 1) (aa (af 2) ag)))) (b8 2 (au (ae 8) (au (ae 9) bB))) wn)
 (aF (cz (bI jG (ab (aa (af 4) ag))) (ae 10))
 (aF (cz (bI jG (ab (aa (af 5) ag))) (ae 11))
 (aF (dq (Jm (oN (oK (wy (ab (af 10))))) (Jm (oN (oK (wy (ab (af 11))))) (wJ true (xw (ab (af 10))) (xw (ab (af 11))))))
  (aE (bg (dC (.bool false))))
  (aE aI))
 (aF (fG (ii (uB (ab (af 10)))) (ae 12) wV)
 (aF (cz (nA [none] (ii (bI eG (ab (aa (af 4) ag)))) (ae 0) (ab gN) (ab (az aT (aw 0) (dC (.int (0)))))) (ae 13))
 (fU (lR (sB (wJ false (ab (af 13)) (nA [none] (ii (bI eG (ab (aa (af 5) ag)))) (ae 0) (ab gN) (ab (az aT (aw 0) (dC (.int (0)))))))) (sB (wJ false (bI gD (ab (aa (af 4) ag))) (bI gD (ab (aa (af 5) ag))))))))))))))))))))
noncomputable def qr (K:Frag):Sp:=λ vs H Q _=>∃ (a:Addr) (ns:List Int),vs=[.ref a]/\cD K H a (ns.map V.int)/\ns.length<=63/\∀ H',Q (.bl true) H'
section
variable (P:Program) (w:World) (K:Frag) (mg:Θ) (base:Heap) (cl:Str->Addr)
noncomputable abbrev lE:Prop:=kD P w K mg base "bodies_of" ["statement"] [] 1 (kI K iM)
noncomputable abbrev nI:Prop:=kD P w K mg base "placed" ["body", "around"] [.none] 9 (kI K (aU 8))
noncomputable abbrev mR:Prop:=kD P w K mg base "given_by" ["statement"] [] 1 (kI K jk)
noncomputable abbrev l9:Prop:=kD P w K mg base "leaves_of" ["expression"] [] 9 (kI K (bu 9))
noncomputable abbrev gp:Prop:=Ce (λ f fd=>Mk K (cl "Links") f/\fJ K fd ["self"] []) P w K mg base 1 ["self"] (o6 K cl dY)
noncomputable abbrev eU:Prop:=Ce (λ f fd=>Ai K (cl "Links") "add" f/\fJ K fd ["self", "causes", "key", "line"] []) P w K mg base 1 ["self", "causes", "key", "line"] (o6 K cl aN)
noncomputable abbrev ng:Prop:=kD P w K mg base "way_of" ["name", "around"] [] 1 (kI K kj)
noncomputable abbrev iz:Prop:=kD P w K mg base "causes_of" ["name", "expression"] [] 10 (kI K bC)
noncomputable abbrev mU:Prop:=kD P w K mg base "link_way" ["links", "name", "statement", "around"] [] 2 (o6 K cl jz)
noncomputable abbrev i8:Prop:=kD P w K mg base "link_numbers" ["links", "name", "statement"] [] 11 (o6 K cl fM)
noncomputable abbrev lH:Prop:=kD P w K mg base "link_call" ["links", "name", "statement", "params"] [] 11 (o6 K cl fV)
noncomputable abbrev mI:Prop:=kD P w K mg base "links_of" ["program"] [] 12 (o6 K cl jp)
noncomputable abbrev rE:Prop:=kD P w K mg base "marks" ["program"] [] 13 (o6 K cl jG)
noncomputable abbrev rj:Prop:=kD P w K mg base "waits" ["program"] [] 14 (o6 K cl eG)
noncomputable abbrev tq:Prop:=kD P w K mg base "is_let" ["program"] [] 15 (o6 K cl gD)
noncomputable abbrev fN:Prop:=kD P w K mg base "_law_cell_at" ["_law_script", "_law_k"] [] 1 (kI K bA)
noncomputable abbrev eF:Prop:=kD P w K mg base "_law_spread" ["_law_cell", "_law_k"] [] 1 (kI K bv)
noncomputable abbrev kh:Prop:=kD P w K mg base "_law_names" ["_law_number"] [] 1 (kI K ft)
noncomputable abbrev iE:Prop:=kD P w K mg base "_law_leaf" ["_law_number", "_law_names_here", "_law_own"] [] 1 (kI K cj)
noncomputable abbrev iZ:Prop:=kD P w K mg base "_law_beside" ["_law_number", "_law_names_here", "_law_own"] [] 2 (kI K eJ)
noncomputable abbrev dG:Prop:=kD P w K mg base "_law_expression" ["_law_number", "_law_names_here", "_law_own"] [] 3 (kI K aX)
noncomputable abbrev l6:Prop:=kD P w K mg base "_law_call" ["_law_rest", "_law_x", "_law_names_here", "_law_rooms_here", "_law_own"] [] 4 (kI K i7)
noncomputable abbrev pK:Prop:=kD P w K mg base "_law_op" ["_law_number", "_law_names_here", "_law_rooms_here", "_law_own", "_law_words"] [] 5 (kI K kX)
noncomputable abbrev g7:Prop:=kD P w K mg base "_law_closed_up" ["_law_frame"] [] 1 (o6 K cl eB)
noncomputable abbrev gL:Prop:=kD P w K mg base "_law_may_stand" ["_law_op_here", "_law_pile", "_law_main"] [] 1 (o6 K cl b7)
noncomputable abbrev lS:Prop:=kD P w K mg base "_law_laid" ["_law_ops", "_law_line", "_law_main"] [] 2 (o6 K cl iJ)
noncomputable abbrev jA:Prop:=kD P w K mg base "_law_rooms" ["_law_head", "_law_names_here", "_law_variables_here"] [] 1 (kI K gX)
noncomputable abbrev gz:Prop:=kD P w K mg base "_law_variables" ["_law_head", "_law_names_here"] [] 1 (kI K cA)
noncomputable abbrev iA:Prop:=kD P w K mg base "_law_program" ["_law_script", "_law_names_here", "_law_own", "_law_words", "_law_most"] [] 6 (kI K bX)
noncomputable abbrev gF:Prop:=kD P w K mg base "_law_exchanged" ["_law_key", "_law_defs", "_law_variables_here"] [] 1 (o6 K cl bR)
end
@[inline] def rlX (s:String) (t:Lean.TSyntax `tactic):Lean.MacroM (Lean.TSyntax `tactic):=(s.splitOn ";").foldlM (λ t g=>do
 let l:=g.splitOn " "
 let u <-l.tail.foldlM (λ u n=>do
  let q:=n.splitOn ":"
  let i:=Lean.mkIdent ((if n.front.isDigit||n.front=='<' then n.drop 1 else q.head!).toName)
  let a <-if n.front.isDigit||n.front=='<' then pure (Array.replicate (n.front.toNat-48) (<- `(?_))) else (q.getLast!.toList.toArray.mapM λ c=>if c=='r' then `(rfl) else if c=='a' then `(by assumption) else if c=='d' then `(by first | decide | exact Nat.le_refl _ | exact Nat.le_add_right _ _) else if c=='k' then `(by decide +kernel) else `(?_))
  let v <-if q.tail.isEmpty && !n.front.isDigit&&n.front != '<' then `(tactic| apply $i) else `(tactic| refine $(Lean.Syntax.mkApp i a))
  `(tactic| first | $v:tactic | $u:tactic)) (<- `(tactic| fail))
 `(tactic| first | (show $(Lean.mkIdent l.head!.toName) ..;$u:tactic) | $t:tactic)) t
local macro_rules | `(tactic| left)=>do
 let t <-rlX "Lw Be sip_zip CN;ST Df Jw Kr GT xN Co GA G9;Mj Dj;Mc DI.k D8;Es sL tY;DI HA Ck CV zv;DT Dv GG Ak Ll BG;DR El CU Ir Hh Gm B7 Ga Ht xE;DG HV wA;DB JM GH Hl CI Fy EB JO KG;KB Bj He;SA Du DF Gu;KH A1 Cm;oh wK jr pW uW uK um yW rc zZ nX sf xt;DA rB qX;DK DE.dk uC;me DZ yZ wb vV tI xn pA BF zK xl EM zU Ap;DO Hw E1 HG Cv uA;SE E4 zA Ci DJ Jn Ac HI zi Lf C7 BD JQ Ct JK DH Gq FP Ei FH IH GF JC Ig Cj C1 CO JW Kj Er;DE DO.de IB Lx A4 H9 FY Jh zG Gj Ks Ii wu FG Ar BB qc J5 n9" (<- `(tactic| first | assumption | decide))
 let u <-rlX "me yZ wb vV tI xn pA BF zK xl EM zU Ap;oh wK jr pW uW uK um yW rc zZ nX" (<- `(tactic| first | exact E0 | decide))
 `(tactic| repeat' first | with_reducible (show (_:Prop);first | intro _ | $t:tactic) | $u:tactic)
local macro_rules | `(tactic| right)=>do
 let t <-rlX "And 2And.intro;nS 1Gc;jt 0FA;PassesOwn 0PassesOwn.never;PC 3N2 3IT;C8 1Kz 0Nq 1Lz;LB 0Nl;uq 0JB 1La;PW 1LM 2N9 1M3 2Oc;bH 7F7;PO 0Mo 1L7;PI 6Mn 5Jr 4Ja 2L8;fP 0N5 0NR 0LN 1BP 1L6 2K6 2MQ 0ME 0Mq 2N6 0LX 1Ho 0Nc 0Nk 0NK 1Dk 0Jj 0Ma 2Nd;IY 0LU 3JD;PT 1PW.pt 3LS 2NE 2MT 1MM 4LZ;PG 5LC 4L0;PS 5GM 3JN 6LW 0Fo 5Mr 6MI 2LR 3Ov 1M9 6N3 <AS;zQ 1LY;uc 0Mb 1Mp 2KJ;PE 2OJ 6NS 5Ol 8Og 6NP 9Of 6On 0NT 6N8 1N4 2NM 2L5 5JV 0KF 4L1 0K2 5Kv 0J0 0Od 3L9 1MU 3Km 2MX 2NX 7Le 4Ju 0N7 4LA 1LP 1Me 4Oi 3Oy 0zD 4Mv 0Nh;PA 0MG 3LO" (<- `(tactic| intro _))
 let u <-rlX "Or Kt:r Or.inr:r Or.inl:r;Gg Or.inr:r Or.inl:r;Mh Kt:r Or.inl:r;KS No:aad;Exists Nv:aad;M2 M2.mk:rrrr;PE zx Cr D5:rard;fO fO.mono:a?;d7 d7.mono:ad;Paired Paired.nil:;fY fY.mk:rrrkrkk;QB 1MV 2Oh 0Ng 1NI;QM 0Oq 0NV 0NL;fP 2N6 2Nd;PS 3Nr;uc 2KJ 1Mp" (<- `(tactic| first | assumption | rfl | exact λ _ _=>rfl | exact λ _=>rfl | decide +kernel))
 `(tactic| ((repeat' first | with_reducible $t:tactic | $u:tactic);all_goals try decide))
section
variable {P:Program} {w:World} {K:Frag} {mg:Θ} {base:Heap} {cl:Str->Addr}
set_option maxHeartbeats 4000000
def rS (D:kG K mg "bodies_of" ["statement"] [] lK):lE P w K mg base:=
 iU (N:=["statement"]) D rfl (λ ρ=>by left) (by right) rfl rfl (by right)
def yq (D:kG K mg "placed" ["body", "around"] [.none] nu) (_:lE P w K mg base):nI P w K mg base:=
 vJ (k:=1) (F:=λ n=>kI K (aU n)) (Fl D λ _=>rfl) (λ n _=>iU (N:=["body", "around", "outer", "found", "statement", "inner"]) D rfl (λ ρ=>by left) (by right) rfl rfl (by right)) 8
def sk (D:kG K mg "given_by" ["statement"] [] om):mR P w K mg base:=
 iU (N:=["statement"]) D rfl (λ ρ=>by left) (by right) rfl rfl (by right)
def qP (D:kG K mg "leaves_of" ["expression"] [] lG) {a_WORKINGS:Addr} (m_WORKINGS:mg "WORKINGS" = some (.ref a_WORKINGS)) (g_WORKINGS:∀ G,eK K G a_WORKINGS (([(Str.ofString "+"),(Str.ofString "-"),(Str.ofString "*"),(Str.ofString "div"),(Str.ofString "rem"),(Str.ofString "<"),(Str.ofString "=")]).map V.str)):l9 P w K mg base:=
 vJ (k:=0) (F:=λ n=>kI K (bu n)) (Fl D λ _=>rfl) (λ n _=>iU (N:=["expression", "found", "part"]) D rfl (λ ρ=>(nX (yW (Ak (BG Fy (DE.dk (BB xE (uC (i:=0)) qc)) (DE.dk Ar)) (y2 (ws:=[(Str.ofString "+"),(Str.ofString "-"),(Str.ofString "*"),(Str.ofString "div"),(Str.ofString "rem"),(Str.ofString "<"),(Str.ofString "=")]) g_WORKINGS (DE.dk (BB xE (uC (i:=0)) qc))))
  (rc (DO.de (uA (rB (n9 (i:=0)) qX))))
  xt)
  (nX (uK (uA qX))
  (nX (um (zv (zG (n9 (i:=0)) (tY qc) sL)) wA
   (jr (wu (rB (n9 (i:=2)) qX))))
  (uW (i:=1) (rc (n9 (i:=1)))))))) (by right) rfl rfl (by right)) 9
def kA (D:Ca (λ f fd=>Mk K (cl "Links") f/\fJ K fd ["self"] []) K "__init__" "Links.__init__" cB) (_:mg "Links" = some (.ref (cl "Links"))) (_:rT K (cl "Links")) (_:dh K (cl "Links") "behind"):gp P w K mg base cl:=
 jo (N:=["self"]) D rfl (by left) (by right) rfl rfl (by right)
def qB (D:Ca (λ f fd=>Ai K (cl "Links") "add" f/\fJ K fd ["self", "causes", "key", "line"] []) K "add" "Links.add" eQ) (_:mg "Links" = some (.ref (cl "Links"))) (_:rT K (cl "Links")) (_:dh K (cl "Links") "behind"):eU P w K mg base cl:=
 jo (N:=["self", "causes", "key", "line", "cause"]) D rfl (by left) (by right) rfl rfl (by right)
def y6 (D:kG K mg "way_of" ["name", "around"] [] sI):ng P w K mg base:=
 iU (N:=["name", "around"]) D rfl (λ ρ=>by left) (by right) rfl rfl (by right)
def qU (D:kG K mg "causes_of" ["name", "expression"] [] lz) (_:l9 P w K mg base):iz P w K mg base:=
 iU (N:=["name", "expression", "leaves", "causes"]) D rfl (λ ρ=>by left) (by right) rfl rfl (by right)
def sO (D:kG K mg "link_way" ["links", "name", "statement", "around"] [] nG) (_:ng P w K mg base) (_:mR P w K mg base) (h_Links_add:eU P w K mg base cl) (_:mg "Links" = some (.ref (cl "Links"))) (_:rT K (cl "Links")) (_:dh K (cl "Links") "behind"):mU P w K mg base cl:=
 jo (N:=["links", "name", "statement", "around", "way", "line", "given", "whiles"]) D rfl (by left) (by obtain ⟨_,_,⟨_,_⟩,_⟩:=h_Links_add;right) rfl rfl (by right)
def mj (D:kG K mg "link_numbers" ["links", "name", "statement"] [] iL) (h_Links_add:eU P w K mg base cl) (_:iz P w K mg base) (_:mg "Links" = some (.ref (cl "Links"))) (_:rT K (cl "Links")) (_:dh K (cl "Links") "behind"):i8 P w K mg base cl:=
 jo (N:=["links", "name", "statement", "kind", "line"]) D rfl (by left) (by obtain ⟨_,_,⟨_,_⟩,_⟩:=h_Links_add;right) rfl rfl (by right)
def q9 (D:kG K mg "link_call" ["links", "name", "statement", "params"] [] lP) (h_Links_add:eU P w K mg base cl) (_:iz P w K mg base) (_:mg "Links" = some (.ref (cl "Links"))) (_:rT K (cl "Links")) (_:dh K (cl "Links") "behind") (_:mg "zip" = none):lH P w K mg base cl:=
 jo (N:=["links", "name", "statement", "params", "line", "called", "param", "expression"]) D rfl (by left) (by obtain ⟨_,_,⟨_,_⟩,_⟩:=h_Links_add;right) rfl rfl (by right)
def tP (D:kG K mg "links_of" ["program"] [] nO) (h_Links___init__:gp P w K mg base cl) (h_Links_add:eU P w K mg base cl) (_:mU P w K mg base cl) (_:i8 P w K mg base cl) (_:lH P w K mg base cl) (_:nI P w K mg base) (_:mg "Links" = some (.ref (cl "Links"))) (_:rT K (cl "Links")) (_:dh K (cl "Links") "behind"):mI P w K mg base cl:=
 jo (N:=["program", "links", "params_of", "name", "params", "body", "line", "last", "statement", "around"]) D rfl (by left) (by obtain ⟨_,_,⟨_,_⟩,_⟩:=h_Links___init__;obtain ⟨_,_,⟨_,_⟩,_⟩:=h_Links_add;right) rfl rfl (by right)
def B6 (D:kG K mg "marks" ["program"] [] x5) (_:mI P w K mg base cl) (_:mg "Links" = some (.ref (cl "Links"))) (_:rT K (cl "Links")) (_:dh K (cl "Links") "behind"):rE P w K mg base cl:=
 jo (N:=["program", "links", "found", "due", "cause", "key", "line"]) D rfl (by left) (by right) rfl rfl (by right)
def Ao (D:kG K mg "waits" ["program"] [] vR) (_:rE P w K mg base cl) (_:ng P w K mg base) (_:nI P w K mg base):rj P w K mg base cl:=
 jo (N:=["program", "found", "told", "name", "params", "body", "line", "last", "statement", "around", "own"]) D rfl (by left) (by right) rfl rfl (by right)
def yr (D:kG K mg "is_let" ["program"] [] tN) (_:rj P w K mg base cl):tq P w K mg base cl:=
 jo (N:=["program"]) D rfl (by left) (by right) rfl rfl (by right)
def lZ (D:kG K mg "_law_cell_at" ["_law_script", "_law_k"] [] iF) (_:mg "len" = none):fN P w K mg base:=
 iU (N:=["_law_script", "_law_k"]) D rfl (λ ρ=>by left) (by right) rfl rfl (by right)
def mY (D:kG K mg "_law_spread" ["_law_cell", "_law_k"] [] jg):eF P w K mg base:=
 iU (N:=["_law_cell", "_law_k", "_law_big", "_law_number"]) D rfl (λ ρ=>by left) (by right) rfl rfl (by right)
def oJ (D:kG K mg "_law_names" ["_law_number"] [] jN) (_:mg "range" = none) (_:mg "len" = none):kh P w K mg base:=
 iU (N:=["_law_number", "_law_letters", "_law_kept", "_law_long", "_law_place", "_law_rest", "_law_base", "_law_k", "_law_found", "_law_sign", "_law_word"]) D rfl (λ ρ=>by left) (by right) rfl rfl (by right)
def qm (D:kG K mg "_law_leaf" ["_law_number", "_law_names_here", "_law_own"] [] l7):iE P w K mg base:=
 iU (N:=["_law_number", "_law_names_here", "_law_own", "_law_kind", "_law_rest"]) D rfl (λ ρ=>by left) (by right) rfl rfl (by right)
def mO (D:kG K mg "_law_beside" ["_law_number", "_law_names_here", "_law_own"] [] jh) (_:iE P w K mg base):iZ P w K mg base:=
 iU (N:=["_law_number", "_law_names_here", "_law_own", "_law_told", "_law_rest", "_law_other"]) D rfl (λ ρ=>by left) (by right) rfl rfl (by right)
def jy (D:kG K mg "_law_expression" ["_law_number", "_law_names_here", "_law_own"] [] fS) (_:iE P w K mg base) (_:eF P w K mg base) (_:iZ P w K mg base) (_:mg "range" = none):dG P w K mg base:=
 iU (N:=["_law_number", "_law_names_here", "_law_own", "_law_deep", "_law_told", "_law_rest", "_law_k", "_law_kind", "_law_other", "_law_word"]) D rfl (λ ρ=>by left) (by right) rfl rfl (by right)
def rD (D:kG K mg "_law_call" ["_law_rest", "_law_x", "_law_names_here", "_law_rooms_here", "_law_own"] [] l8) (_:dG P w K mg base) (_:mg "len" = none) (_:mg "range" = none):l6 P w K mg base:=
 iU (N:=["_law_rest", "_law_x", "_law_names_here", "_law_rooms_here", "_law_own", "_law_others", "_law_name", "_law_params", "_law_handed", "_law_k"]) D rfl (λ ρ=>by left) (by right) rfl rfl (by right)
def uw (D:kG K mg "_law_op" ["_law_number", "_law_names_here", "_law_rooms_here", "_law_own", "_law_words"] [] p9) (_:dG P w K mg base) (_:l6 P w K mg base) (_:mg "len" = none):pK P w K mg base:=
 iU (N:=["_law_number", "_law_names_here", "_law_rooms_here", "_law_own", "_law_words", "_law_kind", "_law_x", "_law_rest"]) D rfl (λ ρ=>by left) (by right) rfl rfl (by right)
def kz (D:kG K mg "_law_closed_up" ["_law_frame"] [] gH):g7 P w K mg base cl:=
 jo (N:=["_law_frame"]) D rfl (by left) (by right) rfl rfl (by right)
def jE (D:kG K mg "_law_may_stand" ["_law_op_here", "_law_pile", "_law_main"] [] gj) (_:mg "any" = none) (_:mg "len" = none):gL P w K mg base cl:=
 jo (N:=["_law_op_here", "_law_pile", "_law_main"]) D rfl (by left) (by right) rfl rfl (by right)
def qY (D:kG K mg "_law_laid" ["_law_ops", "_law_line", "_law_main"] [] lM) (_:gL P w K mg base cl) (_:g7 P w K mg base cl):lS P w K mg base cl:=
 jo (N:=["_law_ops", "_law_line", "_law_main", "_law_body", "_law_here", "_law_pile", "_law_op_here", "_law_frame"]) D rfl (by left) (by right) rfl rfl (by right)
def o9 (D:kG K mg "_law_rooms" ["_law_head", "_law_names_here", "_law_variables_here"] [] jS) (_:mg "range" = none):jA P w K mg base:=
 iU (N:=["_law_head", "_law_names_here", "_law_variables_here", "_law_many", "_law_rooms_here", "_law_k", "_law_digits", "_law_count"]) D rfl (λ ρ=>by left) (by right) rfl rfl (by right)
def jL (D:kG K mg "_law_variables" ["_law_head", "_law_names_here"] [] gE) (_:mg "list" = none):gz P w K mg base:=
 iU (N:=["_law_head", "_law_names_here"]) D rfl (λ ρ=>by left) (by right) rfl rfl (by right)
def mh (D:kG K mg "_law_program" ["_law_script", "_law_names_here", "_law_own", "_law_words", "_law_most"] [] iN) (_:eF P w K mg base) (_:fN P w K mg base) (_:gz P w K mg base) (_:jA P w K mg base) (_:pK P w K mg base) (_:lS P w K mg base cl) (_:mg "len" = none) (_:mg "enumerate" = none) (_:mg "list" = none):iA P w K mg base:=
 Ce.imp (sp:=o6 K cl fI) (jo (N:=["_law_script", "_law_names_here", "_law_own", "_law_words", "_law_most", "_law_head", "_law_variables_here", "_law_rooms_here", "_law_ops", "_law_k", "_law_cell", "_law_number", "_law_program_here", "_law_line", "_law_room", "_law_body", "_law_last"]) D rfl (by left) (by right) rfl rfl (by right)) λ _ _ _ _ h=>IM h
def jJ (D:kG K mg "_law_exchanged" ["_law_key", "_law_defs", "_law_variables_here"] [] gv):gF P w K mg base cl:=
 jo (N:=["_law_key", "_law_defs", "_law_variables_here"]) D rfl (by left) (by right) rfl rfl (by right)
def GB {R:Addr->FuncData->Prop} (hlaw:∀ ns:List Int,ns.length<=63->∃ S,wH [.list (ns.map .int)] []=some (.ok (.bool true),S)) (D:Ca R K "law" "law" sC) (_:kh P w K mg base) (_:eF P w K mg base) (_:fN P w K mg base) (_:iA P w K mg base) (_:rE P w K mg base cl) (_:gF P w K mg base cl) (_:rj P w K mg base cl) (_:tq P w K mg base cl) (_:mg "zip" = none) (_:mg "len" = none) (_:mg "isinstance" = none) (_:mg "dict" = none) (_:mg "list" = none):Ce R P w K mg base 16 ["_law_script"] (qr K):=
 Ce.imp (sp:=o6 K cl wH) (jo (N:=["_law_script", "_law_names_here", "_law_others", "_law_own", "_law_program_here", "_law_turned", "_law_defs", "_law_variables_here", "_law_one", "_law_other", "_law_found", "_law_second", "_law_key", "_law_lines"]) D rfl (by left) (by right) rfl rfl (by right)) λ vs H Q E h=>by
  obtain ⟨a,ns,rfl,hS,h63,q⟩:=h
  obtain ⟨Sf,hl⟩:=hlaw ns h63
  exact ⟨[],H,[],[.list (ns.map .int)],.bool true,Sf,.refl _,yU,.cons (.lst hS (.ints ns)) .nil,hl,λ v ρ' G' H' g s dv=>by cases dv;exact q H'⟩
end
inductive Tr where
 | num (v:Int) | sig (k:Fin 3) | nam (x:Str) | box (t:Tr) | op (k:Fin 7) (a b:Tr)
noncomputable def ue (i:Fin 3):Str:=[Str.ofString "lane", Str.ofString "lanes", Str.ofString "mine"].getD i.1 ""
noncomputable def y0 (i:Fin 7):Str:=[Str.ofString "+", Str.ofString "-", Str.ofString "*", Str.ofString "div", Str.ofString "rem", Str.ofString "<", Str.ofString "="].getD i.1 ""
noncomputable def tw:Tr->W
 | .num v=>.tuple [.str "num", .int v]
 | .sig k=>.tuple [.str (ue k)]
 | .nam x=>.tuple [.str "name", .str x]
 | .box t=>.tuple [.str "box", tw t]
 | .op k a b=>.tuple [.str (y0 k),tw a,tw b]
noncomputable def pM:Tr->Nat
 | .num _=>0 | .sig _=>0 | .nam _=>0
 | .box t=>pM t+1
 | .op _ a b=>max (pM a) (pM b)+1
noncomputable def lh:Tr->Nat
 | .num _=>1 | .sig _=>1 | .nam _=>1
 | .box t=>lh t+1
 | .op _ a b=>lh a+lh b+1
noncomputable def fz:Tr->List Tr
 | .num v=>[.num v] | .sig k=>[.sig k] | .nam x=>[.nam x]
 | .box t=>fz t
 | .op _ a b=>fz a++fz b
def fW:∀ t,(fz t).length<=lh t
 | .num _=>by simp [fz,lh]
 | .sig _=>by simp [fz,lh]
 | .nam _=>by simp [fz,lh]
 | .box t=>by have:=fW t;simp [fz,lh];omega
 | .op _ a b=>by have:=fW a;have:=fW b;simp [fz,lh];omega
def OV:∀ k,decide (ue k=Str.ofString "name")=false:=by decide +kernel
def OW:∀ k,decide (ue k=Str.ofString "box")=false:=by decide +kernel
def ON:∀ k,i9 (.str (ue k)) (.tuple [.str "+", .str "-", .str "*", .str "div", .str "rem", .str "<", .str "="])=some true:=by decide +kernel
def OT:∀ k,decide (y0 k=Str.ofString "name")=false:=by decide +kernel
def OO:∀ k,decide (y0 k=Str.ofString "box")=false:=by decide +kernel
def O9:∀ k,i9 (.str (y0 k)) (.tuple [.str "+", .str "-", .str "*", .str "div", .str "rem", .str "<", .str "="])=some false:=by decide +kernel
def OA:decide (Str.ofString "num" = Str.ofString "box")=false:=by decide +kernel
def O0:decide (Str.ofString "num" = Str.ofString "name")=false:=by decide +kernel
def O4:i9 (.str "num") (.tuple [.str "+", .str "-", .str "*", .str "div", .str "rem", .str "<", .str "="])=some true:=by decide +kernel
def OK:decide (Str.ofString "name" = Str.ofString "box")=false:=by decide +kernel
def O3:i9 (.str "name") (.tuple [.str "+", .str "-", .str "*", .str "div", .str "rem", .str "<", .str "="])=some true:=by decide +kernel
def O8:decide (Str.ofString "box" = Str.ofString "name")=false:=by decide +kernel
def qJ {pf:List W->Option W} {e x:W} {ds es:List W} (h:pf [x]=some (.list es)) (hz:ds.length+es.length<=9000):cO pf [.val e,.own ds,.val x]=some (.nx [.val e,.own (ds++es),.val x]):=by
 have hz:=sz _ hz
 first | rfl | simp! [cO,g8,uD,h,if_pos hz]
def gZ:∀ (t:Tr) (n:Nat),pM t<n->lh t<=500->bu n [tw t]=some (.list ((fz t).map tw))
 | _,0,h,_=>absurd h (not_lt_zero _)
 | .num v,n+1,_,_=>by
  have z1:=sz 1 (by decide)
  first | rfl | simp! [bu,tw,fz,uD,r9,OA,O4,if_pos z1]
 | .sig k,n+1,_,_=>by
  have z1:=sz 1 (by decide)
  first | rfl | simp! [bu,tw,fz,uD,r9,OW,ON,if_pos z1]
 | .nam x,n+1,_,_=>by
  have z1:=sz 1 (by decide)
  first | rfl | simp! [bu,tw,fz,uD,r9,OK,O3,if_pos z1]
 | .box t,n+1,h,hc=>by
  have z0:=sz 0 (by decide)
  have ih:=gZ t n (by simp only [pM] at h;omega) (by simp only [lh] at hc;omega)
  have l:=fW t
  have st:∀ e,cO (bu n) [.val e,.own [],.val (tw t)]=some (.nx [.val e,.own ([]++(fz t).map tw),.val (tw t)]):=λ e=>qJ ih (by simp only [lh] at hc;simp;omega)
  first | rfl | simp! [bu,tw,fz,uD,r9,decide_true,Bool.not_true,oW,zF,if_pos z0,bh,st]
 | .op k a b,n+1,h,hc=>by
  have z0:=sz 0 (by decide)
  have iha:=gZ a n (by simp only [pM] at h;omega) (by simp only [lh] at hc;omega)
  have ihb:=gZ b n (by simp only [pM] at h;omega) (by simp only [lh] at hc;omega)
  have la:=fW a
  have lb:=fW b
  have s1:∀ e,cO (bu n) [.val e,.own [],.val (tw a)]=some (.nx [.val e,.own ([]++(fz a).map tw),.val (tw a)]):=λ e=>qJ iha (by simp only [lh] at hc;simp;omega)
  have s2:∀ e,cO (bu n) [.val e,.own ((fz a).map tw),.val (tw b)]=some (.nx [.val e,.own ((fz a).map tw++(fz b).map tw),.val (tw b)]):=λ e=>qJ ihb (by simp only [lh] at hc;simp;omega)
  first | rfl | simp! [bu,tw,fz,uD,r9,OO,O9,oW,zF,if_pos z0,bh,s1,s2,map_append]
noncomputable def yP (l:List Tr):List Str:=l.filterMap λ t=>match t with | .nam x=>some x | _=>none
noncomputable def nms (t:Tr):List Str:=yP (fz t)
def tF {f:μ} {δ:DS} {a b:Str} (h1:f δ=some (.str a)) (h2:decide (a=b)=false):aG c6 f (dC (.str b)) δ=some false:=by first | rfl | simp! [uD,h1,h2]
def x0 {f:μ} {δ:DS} {w:W} {l:List W} (h:f δ=some (.tuple (w::l))):az aT f (dC (.int (0))) δ=some w:=by simp only [az,h,dC,bind_some,pj,r9]
def x1 {f:μ} {δ:DS} {v w:W} {l:List W} (h:f δ=some (.tuple (v::w::l))):az aT f (dC (.int (1))) δ=some w:=by simp only [az,h,dC,bind_some,pj,Fs]
def x2 {f:μ} {δ:DS} {u v w:W} {l:List W} (h:f δ=some (.tuple (u::v::w::l))):az aT f (dC (.int (2))) δ=some w:=by simp only [az,h,dC,bind_some,pj,NY]
def x3 {f:μ} {δ:DS} {t u v w:W} {l:List W} (h:f δ=some (.tuple (t::u::v::w::l))):az aT f (dC (.int (3))) δ=some w:=by simp only [az,h,dC,bind_some,pj,Oz]
def x4 {f:μ} {δ:DS} {s t u v w:W} {l:List W} (h:f δ=some (.tuple (s::t::u::v::w::l))):az aT f (dC (.int (4))) δ=some w:=by simp only [az,h,dC,bind_some,pj,Nz]
def fE {f g:υ} {δ:DS} {d:W} (h:f δ=some (.rt d)):aB f g δ=some (.rt d):=by unfold aB;rw [h]
def iw {f:μ} {g:θ} {δ:DS} {a:W} {l:List W} (h1:f δ=some a) (h2:g δ=some l):aa f g δ=some (a::l):=by simp only [aa,h1,h2,bind_some,map_some]
def Ld {g:θ} {δ:DS} {l:List W} (h:g δ=some l) (hl:l.length<=9000):aM g δ=some (.tuple l):=by
 have z:=sz _ hl
 simp only [aM,h,bind_some,if_pos z]
def Jd {f:μ} {δ:DS} {a:W} (h:f δ=some a):aM (aa f ag) δ=some (.tuple [a]):=Ld (iw h rfl) (by simp)
def kM {f g:μ} {δ:DS} {a b:W} (h:f δ=some a) (h':g δ=some b):aM (aa f (aa g ag)) δ=some (.tuple [a,b]):=Ld (iw h (iw h' rfl)) (by simp)
def BY {f g k:μ} {δ:DS} {a b c:W} (h:f δ=some a) (h':g δ=some b) (h2:k δ=some c):aM (aa f (aa g (aa k ag))) δ=some (.tuple [a,b,c]):=Ld (iw h (iw h' (iw h2 rfl))) (by simp)
def NU {f g k m:μ} {δ:DS} {a b c d:W} (h:f δ=some a) (h':g δ=some b) (h2:k δ=some c) (h3:m δ=some d):aM (aa f (aa g (aa k (aa m ag)))) δ=some (.tuple [a,b,c,d]):=Ld (iw h (iw h' (iw h2 (iw h3 rfl)))) (by simp)
def qa {f g:μ} {δ:DS} {l:List W} {i:Int} {x:W} (h1:f δ=some (.list l)) (h2:g δ=some (.int i)) (h3:fu l i=some x):az aT f g δ=some x:=by simp only [az,h1,h2,bind_some,F4,h3]
def iu {f:List W->Option W} {fa:θ} {δ:DS} {ds:List W} {d:W} (h1:fa δ=some ds) (h2:f ds=some d):aW f fa δ=some d:=by simp only [aW,h1,bind_some,h2]
def IS {c:W->W->Option Bool} {f g:μ} {δ:DS} {a b:W} {r:Bool} (h1:f δ=some a) (h2:g δ=some b) (h3:c a b=some r):aG c f g δ=some r:=by simp only [aG,h1,h2,bind_some,h3]
def dO {c:W->W->Option W} {f g:μ} {δ:DS} {a b r:W} (h1:f δ=some a) (h2:g δ=some b) (h3:c a b=some r):az c f g δ=some r:=by simp only [az,h1,h2,bind_some,h3]
def dA {f g:DS->Option Bool} {δ:DS} {r:Bool} (h1:f δ=some true) (h2:g δ=some r):oi f g δ=some r:=by first | rfl | simp! [uD,h1,h2]
def Mx {f g:DS->Option Bool} {δ:DS} (h1:f δ=some false):oi f g δ=some false:=by first | rfl | simp! [uD,h1]
def yO {f g:μ} {δ:DS} {a b:W} (h:f δ=some a) (h':g δ=some b):aa f (aa g ag) δ=some [a,b]:=iw h (iw h' rfl)
def xU {f g k:μ} {δ:DS} {a b c:W} (h:f δ=some a) (h':g δ=some b) (h2:k δ=some c):aa f (aa g (aa k ag)) δ=some [a,b,c]:=iw h (iw h' (iw h2 rfl))
def KY {ix:Λ} {fi:θ} {h:η} {c:DS->Option Bool} {fe:μ} {δ:DS} {ds r:List W} (h1:fi δ=some ds) (h2:ds.length<=9000) (h3:b6 h c fe (bF ix δ) ds=some r):br (gC ix fi h c fe) δ=some (.list r):=by
 have z:=sz _ h2
 simp only [br,gC,h1,bind_some,if_pos z,h3,map_some]
def LQ {i:Nat} {f:μ} {δ:DS} {ds:List W} {d:W} (h1:lC i δ=some ds) (h2:f δ=some d) (h3:ds.length<9000):dH i f δ=some (.nx (δ.set i (.own (ds++[d])))):=by
 have z:=lt_of_lt_of_le h3 (sz 9000 (le_refl _))
 simp only [dH,h1,h2,bind_some,if_pos z]
inductive Hd where
 | set (x:Str) (t:Tr) | put (a b:Tr) | tell (t:Tr) | ret (t:Tr) | brk | agn | mt | stp
 | join (x j:Str) (t:Tr) | call (x f:Str) (ts:List Tr) | ifs (t:Tr) (bs:List W) | whl (t:Tr) (bs:List W)
abbrev π:=Bool->Hd->Prop
noncomputable def dS (i:Fin 12):Str:=[Str.ofString "set", Str.ofString "put", Str.ofString "tell", Str.ofString "return", Str.ofString "break", Str.ofString "again", Str.ofString "meet", Str.ofString "stop", Str.ofString "join", Str.ofString "call", Str.ofString "if", Str.ofString "while"].getD i.1 ""
noncomputable def aD:Hd->Fin 12
 | .set _ _=>0 | .put _ _=>1 | .tell _=>2 | .ret _=>3 | .brk=>4 | .agn=>5 | .mt=>6 | .stp=>7 | .join _ _ _=>8 | .call _ _ _=>9 | .ifs _ _=>10 | .whl _ _=>11
noncomputable def rs:Hd->List W
 | .set x t=>[.str x,tw t] | .put a b=>[tw a,tw b] | .tell t=>[tw t] | .ret t=>[tw t] | .brk=>[] | .agn=>[] | .mt=>[] | .stp=>[]
 | .join x j t=>[.str x,.str j,tw t] | .call x f ts=>[.str x,.str f,.list (ts.map tw)] | .ifs t bs=>tw t::bs | .whl t bs=>tw t::bs
noncomputable def dM (k:Int) (h:Hd):W:=.tuple (.str (dS (aD h))::.int k::rs h)
def kq:∀ i:Fin 12,decide (dS i=Str.ofString "while")=decide (i=11)/\decide (dS i=Str.ofString "if")=decide (i=10)/\decide (dS i=Str.ofString "return")=decide (i=3)/\decide (dS i=Str.ofString "call")=decide (i=9)/\decide (dS i=Str.ofString "set")=decide (i=0)/\decide (dS i=Str.ofString "join")=decide (i=8):=by decide +kernel
def ki:∀ i:Fin 12,kF (.str (dS i)) (.tuple [.str "set", .str "call", .str "join"])=some (decide (i=0∨i=9∨i=8))/\kF (.str (dS i)) (.tuple [.str "break", .str "again"])=some (decide (i=4∨i=5))/\kF (.str (dS i)) (.tuple [.str "if", .str "while"])=some (decide (i=10∨i=11))/\kF (.str (dS i)) (.tuple [.str "meet", .str "join"])=some (decide (i=6∨i=8)):=by decide +kernel
def tD {f:μ} {δ:DS} {a b:Str} (h1:f δ=some (.str a)):aG c6 f (dC (.str b)) δ=some (decide (a=b)):=by first | rfl | simp! [uD,h1]
noncomputable def Ou:List W->Option (List (List W))
 | [x]=>(fR x).map λ a=>[a]
 | _=>none
noncomputable def Os:List W->Option (List (List W))
 | [x,y]=>(fR x).bind λ a=>if IV y=true then some [a] else (fR y).map λ b=>[a,b]
 | _=>none
noncomputable def i3:Hd->Option (List (List W))
 | .ifs _ l=>Os l
 | .whl _ l=>Ou l
 | _=>some []
def zf {x:W} {a:List W} (h:fR x=some a):x=.list a:=by
 cases x with
 | list b=>cases h;rfl
 | _=>cases h
def Bp {l:List W} {bs:List (List W)} (h:Ou l=some bs):∃ a,l=[.list a]/\bs=[a]:=by
 cases l with
 | nil=>cases h
 | cons x r=>
  cases r with
  | nil=>
   obtain ⟨a,e,rfl⟩:=oM h
   exact ⟨a,by rw [zf e],rfl⟩
  | cons y r=>cases h
def zI {l:List W} {bs:List (List W)} (h:Os l=some bs):∃ a,(∃ b,l=[.list a,.list b]/\bs=[a,b])∨(l=[.list a,.none]/\bs=[a]):=by
 cases l with
 | nil=>cases h
 | cons x r=>
  cases r with
  | nil=>cases h
  | cons y r=>
   cases r with
   | nil=>
    obtain ⟨a,e,h⟩:=oB h
    have e':=zf e
    by_cases z:IV y=true
    . rw [if_pos z] at h
      cases h
      cases y with
      | none=>exact ⟨a,.inr ⟨by rw [e'],rfl⟩⟩
      | _=>cases z
    . rw [if_neg z] at h
      obtain ⟨b,e2,rfl⟩:=oM h
      exact ⟨a,.inl ⟨b,by rw [e',zf e2],rfl⟩⟩
   | cons z r=>cases h
def y9 (t:Tr) (l:List W):i3 (.ifs t l)≠some []/\i3 (.whl t l)≠some []:=by
 constructor
 . intro z
   obtain ⟨a,⟨b,_,e⟩ | ⟨_,e⟩⟩:=zI z <;> cases e
 . intro z
   obtain ⟨a,_,e⟩:=Bp z
   cases e
def M6 {h:Hd} {bs:List (List W)} (hb:i3 h=some bs) (e:aD h=11):∃ t a,rs h=[tw t,.list a]/\bs=[a]:=by
 cases h with
 | whl t l=>
  obtain ⟨a,rfl,rfl⟩:=Bp hb
  exact ⟨t,a,rfl,rfl⟩
 | _=>exact nomatch (show false=true from decide_eq_true e)
def NC {h:Hd} {bs:List (List W)} (hb:i3 h=some bs) (e:aD h=10):∃ t a,(∃ b,rs h=[tw t,.list a,.list b]/\bs=[a,b])∨(rs h=[tw t,.list a,.none]/\bs=[a]):=by
 cases h with
 | ifs t l=>
  obtain ⟨a,⟨b,rfl,rfl⟩ | ⟨rfl,rfl⟩⟩:=zI hb
  . exact ⟨t,a,.inl ⟨b,rfl,rfl⟩⟩
  . exact ⟨t,a,.inr ⟨rfl,rfl⟩⟩
 | _=>exact nomatch (show false=true from decide_eq_true e)
def OP {f:μ} {δ:DS} {a:W} (h:f δ=some a):br (bE (aa f ag)) δ=some (.list [a]):=by
 unfold br bE
 rw [iw h rfl]
 rfl
def uJ (k:Int) (h:Hd) (bs:List (List W)) (hb:i3 h=some bs):iM [dM k h]=some (.list (bs.map .list)):=by
 let δ:DS:=[.val (dM k h)]
 have a0:az aT (aw 0) (dC (.int (0))) δ=some (.str (dS (aD h))):=x0 rfl
 have t1:=tD (b:=Str.ofString "while") a0
 have t2:=tD (b:=Str.ofString "if") a0
 rw [(kq _).1] at t1
 rw [(kq _).2.1] at t2
 have p0:∀ {r},rs h=r->aw 0 δ=some (.tuple (.str (dS (aD h))::.int k::r)):=λ e=>by rw [<-e];rfl
 refine aZ rfl ?_
 by_cases h11:aD h=11
 . rw [decide_eq_true h11] at t1
   obtain ⟨t,a,er,rfl⟩:=M6 hb h11
   exact fE (aY (b:=true) t1 (bo (OP (x3 (p0 er)))))
 rw [decide_eq_false h11] at t1
 refine ak (aY (b:=false) t1 rfl) ?_
 by_cases h10:aD h=10
 . rw [decide_eq_true h10] at t2
   have sl:∀ {t r},rs h=t::r->bU (oW (af 0) (dR (dC (.int (3)))) dz) δ=some r:=λ {t r} e=>by
    have c:io (.str (dS (aD h))::.int k::rs h) (some ((3:Nat):Int)) none=r:=(Lg _ 3).trans (by rw [e];rfl)
    exact congrArg some c
   obtain ⟨t,a,⟨b,er,rfl⟩ | ⟨er,rfl⟩⟩:=NC hb h10
   . exact fE (aY (b:=true) t2 (bo (KY (sl er) (by simp) rfl)))
   . exact fE (aY (b:=true) t2 (bo (KY (sl er) (by simp) rfl)))
 . rw [decide_eq_false h10] at t2
   refine ak (aY (b:=false) t2 rfl) (bo ?_)
   have:bs=[]:=by cases h <;> first | (cases hb;rfl) | exact absurd rfl h10 | exact absurd rfl h11
   subst this
   rfl
noncomputable def ol:Hd->Option Str
 | .set x _=>some x | .join x _ _=>some x | .call x _ _=>some x | _=>none
noncomputable def vt (h:Hd):W:=match ol h with | some x=>.str x | none=>.none
def xI (k:Int) (h:Hd):jk [dM k h]=some (vt h):=by
 have z3:=sz 3 (by decide)
 let δ:DS:=[.val (dM k h)]
 have a0:az aT (aw 0) (dC (.int (0))) δ=some (.str (dS (aD h))):=x0 rfl
 have e:aM (aa (dC (.str "set")) (aa (dC (.str "call")) (aa (dC (.str "join")) ag))) δ=some (.tuple [.str "set", .str "call", .str "join"]):=by first | rfl | simp! [uD,if_pos z3]
 have t:aG kF (az aT (aw 0) (dC (.int (0)))) (aM (aa (dC (.str "set")) (aa (dC (.str "call")) (aa (dC (.str "join")) ag)))) δ=some (decide (aD h=0∨aD h=9∨aD h=8)):=by
  simp only [aG,a0,e,bind_some]
  exact (ki (aD h)).1
 refine aZ rfl (bo ?_)
 show Ew _ _ _ δ=_
 unfold Ew
 rw [t]
 cases h with
 | set x u=>exact (x2 rfl:az aT (aw 0) (dC (.int (2))) [.val (dM k (.set x u))]=some (.str x))
 | join x j u=>exact (x2 rfl:az aT (aw 0) (dC (.int (2))) [.val (dM k (.join x j u))]=some (.str x))
 | call x f ts=>exact (x2 rfl:az aT (aw 0) (dC (.int (2))) [.val (dM k (.call x f ts))]=some (.str x))
 | _=>rfl
noncomputable abbrev Bk:=Int×Hd
abbrev ω:=List Bk
noncomputable def dE (b:Bk):W:=dM b.1 b.2
noncomputable def bS (l:ω):List W:=l.map dE
noncomputable def gg (b:Bk):Bool:=decide (aD b.2=11)
noncomputable abbrev It:=Int×Hd×List Bk
noncomputable def jx (i:It):W:=.tuple [dM i.1 i.2.1,.tuple (i.2.2.map dE)]
mutual
inductive yX (P:π):Nat->Bool->Hd->Nat->Prop
 | lf {n:Nat} {wh:Bool} {h:Hd}:P wh h->i3 h=some []->yX P n wh h 1
 | whl {n:Nat} {wh:Bool} {t:Tr} {a:ω} {c:Nat}:P wh (.whl t [.list (bS a)])->nz P n true a c->yX P (n+1) wh (.whl t [.list (bS a)]) (c+1)
 | if1 {n:Nat} {wh:Bool} {t:Tr} {a:ω} {c:Nat}:P wh (.ifs t [.list (bS a),.none])->nz P n wh a c->yX P (n+1) wh (.ifs t [.list (bS a),.none]) (c+1)
 | if2 {n:Nat} {wh:Bool} {t:Tr} {a b:ω} {c c':Nat}:P wh (.ifs t [.list (bS a),.list (bS b)])->nz P n wh a c->nz P n wh b c'->yX P (n+1) wh (.ifs t [.list (bS a),.list (bS b)]) (c+c'+1)
inductive nz (P:π):Nat->Bool->List Bk->Nat->Prop
 | nil {n:Nat} {wh:Bool}:nz P n wh [] 0
 | cons {n:Nat} {wh:Bool} {k:Int} {h:Hd} {l:ω} {c c':Nat}:yX P n wh h c->nz P n wh l c'->nz P n wh ((k,h)::l) (c+c')
end
noncomputable def aO (r:Ψ):Tr->Tr
 | .num v=>.num v
 | .sig k=>.sig k
 | .nam x=>.nam (r x)
 | .box t=>.box (aO r t)
 | .op k a b=>.op k (aO r a) (aO r b)
noncomputable def ir (r:Ψ):Hd->Hd
 | .set x t=>.set (r x) (aO r t) | .put a b=>.put (aO r a) (aO r b) | .tell t=>.tell (aO r t) | .ret t=>.ret (aO r t) | .brk=>.brk | .agn=>.agn | .mt=>.mt | .stp=>.stp
 | .join x j t=>.join (r x) j (aO r t) | .call x f ts=>.call (r x) (r f) (ts.map (aO r)) | .ifs t l=>.ifs (aO r t) l | .whl t l=>.whl (aO r t) l
def bs_map' (r:Ψ) (h:Hd):i3 (ir r h)=i3 h:=by cases h <;> rfl
noncomputable def hz:Hd->Hd
 | .ifs t _=>.ifs t [] | .whl t _=>.whl t [] | h=>h
mutual
inductive qj (P:π) (r:Ψ):Nat->Bool->Hd->Hd->Nat->Prop
 | lf {n:Nat} {wh:Bool} {h:Hd}:P wh h->i3 h=some []->qj P r n wh h (ir r h) 1
 | whl {n:Nat} {wh:Bool} {t:Tr} {a a':ω} {c:Nat}:P wh (.whl t [.list (bS a)])->eS P r n true a a' c->qj P r (n+1) wh (.whl t [.list (bS a)]) (.whl (aO r t) [.list (bS a')]) (c+1)
 | if1 {n:Nat} {wh:Bool} {t:Tr} {a a':ω} {c:Nat}:P wh (.ifs t [.list (bS a),.none])->eS P r n wh a a' c->qj P r (n+1) wh (.ifs t [.list (bS a),.none]) (.ifs (aO r t) [.list (bS a'),.none]) (c+1)
 | if2 {n:Nat} {wh:Bool} {t:Tr} {a b a' b':ω} {c c':Nat}:P wh (.ifs t [.list (bS a),.list (bS b)])->eS P r n wh a a' c->eS P r n wh b b' c'->qj P r (n+1) wh (.ifs t [.list (bS a),.list (bS b)]) (.ifs (aO r t) [.list (bS a'),.list (bS b')]) (c+c'+1)
inductive eS (P:π) (r:Ψ):Nat->Bool->List Bk->List Bk->Nat->Prop
 | nil {n:Nat} {wh:Bool}:eS P r n wh [] [] 0
 | cons {n:Nat} {wh:Bool} {k:Int} {h h':Hd} {l l':ω} {c c':Nat}:qj P r n wh h h' c->eS P r n wh l l' c'->eS P r n wh ((k,h)::l) ((k,h')::l') (c+c')
end
structure GI (P:π) (m:Nat) (i:It):Prop where
 p:∃ wh,P wh i.2.1/\(wh=true->∃ b∈i.2.2,gg b=true)
 l:i.2.2.length<=m
def Io (ar:List W) (x:W) (h:ar.length<9000):xh (.tuple ar) (.tuple [x])=some (.tuple (ar++[x])):=by
 cases ar with
 | nil=>rfl
 | cons y r=>
  have hz:(y::r).length+[x].length<=sizeLine:=sz _ (by simp at h ⊢;omega)
  show ck (.tuple (y::r)) (.tuple [x])=_
  exact if_pos ⟨by simp,hz⟩
section
variable {P:π}
def vh {pf:List W->Option W} {s0 s1:Sl} {ar acc es:List W} {st a:W} (h:pf [a,.tuple (ar++[st])]=some (.list es)) (hz:acc.length+es.length<=9000) (hr:ar.length<9000):gO pf [s0,s1,.val (.tuple ar),.own acc,.val st,.val a]=some (.nx [s0,s1,.val (.tuple ar),.own (acc++es),.val st,.val a]):=by
 have z:=sz _ hz
 have z1:=sz 1 (by decide)
 first | rfl | simp! [gO,g8,uD,if_pos z1,Io ar st hr,h,if_pos z]
def iY {h:η} {f:υ} {d:W} {ds:List W} {δ δ2 δ':DS} {o:Option dt} (h1:h d δ=some δ2) (h2:f δ2=some (.nx δ')) (h3:bh h f ds δ'=o):bh h f (d::ds) δ=o:=by
 rw [<-h3]
 show (h d δ).bind _=_
 rw [h1]
 show (match f δ2 with | some (.nx δ')=>_ | some (.ct δ')=>_ | some (.bk δ')=>_ | some (.rt d)=>_ | none=>_)=_
 rw [h2]
def wT {m:Nat} {l:ω} {ar:ω} {is:List It} (e:∃ s4 s5,bh (ae 4) (cv (aU m)) (bS l) [.val (.list (bS l)),.val (.tuple (ar.map dE)),.val (.tuple (ar.map dE)),.own [],.no,.no]=some (.nx [.val (.list (bS l)),.val (.tuple (ar.map dE)),.val (.tuple (ar.map dE)),.own (is.map jx),s4,s5])):aU (m+1) [.list (bS l),.tuple (ar.map dE)]=some (.list (is.map jx)):=by
 have z0:=sz 0 (by decide)
 obtain ⟨s4,s5,e⟩:=e
 show c7 2 6 _ _=_
 refine aZ rfl ?_
 refine ak (δ1:=[.val (.list (bS l)),.val (.tuple (ar.map dE)),.val (.tuple (ar.map dE)),.no,.no,.no]) (by first | rfl | simp! [bL,uD,if_pos z0]) ?_
 refine ak (δ1:=[.val (.list (bS l)),.val (.tuple (ar.map dE)),.val (.tuple (ar.map dE)),.own [],.no,.no]) (by first | rfl | simp! [uD,if_pos z0]) ?_
 refine ak (fQ (ds:=bS l) (by first | rfl | simp! [uD]) e) ?_
 first | rfl | simp! [uD]
def jR {m:Nat} {s0 s1 s5:Sl} {ar acc:List W} {k:Int} {h:Hd} {bs:List (List W)} (hb:i3 h=some bs) (hl:acc.length<900) {o:Option dt} (e:bh (ae 5) (gO (aU m)) (bs.map .list) [s0,s1,.val (.tuple ar),.own (acc++[.tuple [dM k h,.tuple ar]]),.val (dM k h),s5]=o):cv (aU m) [s0,s1,.val (.tuple ar),.own acc,.val (dM k h),s5]=o:=by
 have z2:=sz 2 (by decide)
 have zl:acc.length<sizeLine:=lt_of_lt_of_le hl (sz 900 (by decide))
 refine ak (δ1:=[s0,s1,.val (.tuple ar),.own (acc++[.tuple [dM k h,.tuple ar]]),.val (dM k h),s5]) (by first | rfl | simp! [uD,if_pos z2,if_pos zl]) ?_
 exact fQ (ds:=bs.map .list) (by first | rfl | simp! [uD,uJ k h bs hb]) e
noncomputable def sg (b:Bk):Int×Bool:=(b.1,gg b)
structure Mi (r:Ψ) (i j:It):Prop where
 k:j.1=i.1
 h:hz j.2.1=hz (ir r i.2.1)
 a:j.2.2.map sg=i.2.2.map sg
noncomputable abbrev xi (r:Ψ):List It->List It->Prop:=Paired (Mi r)
def xi.app {r:Ψ} {a b x y:List It} (h:xi r a x) (h':xi r b y):xi r (a++b) (x++y):=by
 induction h with
 | nil=>exact h'
 | cons r _ ih=>exact .cons r ih
noncomputable def PB (P:π) (r:Ψ) (n:Nat):Prop:=∀ (wh:Bool) (l l':ω) (c:Nat),eS P r n wh l l' c->∀ (m M:Nat) (ar ar':ω) (acc acc':List W) (s0 s1 s4 s5 t0 t1 t4 t5:Sl),n<=m->ar.length+n<=M->M<100->ar'.map sg=ar.map sg->(wh=true->∃ b∈ar,gg b=true)->acc.length+c<899->acc'.length+c<899->∃ (is is':List It) (s4' s5' t4' t5':Sl),is.length=c/\xi r is is'/\(∀ i∈is,GI P M i)/\bh (ae 4) (cv (aU m)) (bS l) [s0,s1,.val (.tuple (ar.map dE)),.own acc,s4,s5]=some (.nx [s0,s1,.val (.tuple (ar.map dE)),.own (acc++is.map jx),s4',s5'])/\bh (ae 4) (cv (aU m)) (bS l') [t0,t1,.val (.tuple (ar'.map dE)),.own acc',t4,t5]=some (.nx [t0,t1,.val (.tuple (ar'.map dE)),.own (acc'++is'.map jx),t4',t5'])
def iQ {r:Ψ} {a x:List It} (h:xi r a x):x.length=a.length:=by
 induction h with
 | nil=>rfl
 | cons _ _ ih=>exact congrArg (· + 1) ih
def BC {a b:ω} (h:a.map sg=b.map sg):a.length=b.length:=by simpa using congrArg List.length h
def vS {r:Ψ} {n:Nat} (ih:PB P r n) {wh:Bool} {a a':ω} {c:Nat} (g:eS P r n wh a a' c) {m M:Nat} {ar ar':ω} (x x':Bk) (hx:sg x'=sg x) (hs:ar'.map sg=ar.map sg) (hm:n<=m) (hM:ar.length+(n+1)<=M) (h100:M<100) (hw:wh=true->∃ b∈ar++[x],gg b=true) (hc:c<899):∃ is is':List It,is.length=c/\xi r is is'/\(∀ i∈is,GI P M i)/\aU (m+1) [.list (bS a),.tuple (ar.map dE++[dE x])]=some (.list (is.map jx))/\aU (m+1) [.list (bS a'),.tuple (ar'.map dE++[dE x'])]=some (.list (is'.map jx)):=by
 obtain ⟨is,is',s4,s5',t4,t5,l1,r1,i1,e1,e2⟩:=ih wh a a' c g m M (ar++[x]) (ar'++[x']) [] [] (.val (.list (bS a))) (.val (.tuple ((ar++[x]).map dE))) .no .no (.val (.list (bS a'))) (.val (.tuple ((ar'++[x']).map dE))) .no .no hm (by simp;omega) h100 (by simp [hs,hx]) hw (by simpa using hc) (by simpa using hc)
 have ec:=wT (is:=is) ⟨s4,s5',e1⟩
 have ed:=wT (is:=is') ⟨t4,t5,e2⟩
 rw [map_append] at ec ed
 exact ⟨is,is',l1,r1,i1,ec,ed⟩
def ww {n M:Nat} {wh:Bool} {k:Int} {h:Hd} {ar:ω} (p:P wh h) (hM:ar.length+n<=M) (hw:wh=true->∃ b∈ar,gg b=true):GI P M (k,h,ar):=⟨⟨wh,p,hw⟩,by show ar.length<=M;omega⟩
def qZ {m:Nat} {s0 s1 s5:Sl} {ar:ω} {acc:List W} {k:Int} {h:Hd} {a:List W} {is:List It} (hb:i3 h=some [a]) (hl:acc.length+is.length<899) (hr:ar.length<100) (ec:aU m [.list a,.tuple (ar.map dE++[dE (k,h)])]=some (.list (is.map jx))):cv (aU m) [s0,s1,.val (.tuple (ar.map dE)),.own acc,.val (dM k h),s5]=some (.nx [s0,s1,.val (.tuple (ar.map dE)),.own (acc++((k,h,ar)::is:List It).map jx),.val (dM k h),.val (.list a)]):=by
 refine jR hb (by omega) ((iY (ds:=[]) rfl (vh (es:=is.map jx) ec (by simp;omega) (by simp;omega)) rfl).trans ?_)
 simp [jx,bh,dE]
def A7 {m:Nat} {s0 s1 s5:Sl} {ar:ω} {acc:List W} {k:Int} {h:Hd} {a b:List W} {is js:List It} (hb:i3 h=some [a,b]) (hl:acc.length+is.length+js.length<899) (hr:ar.length<100) (ec:aU m [.list a,.tuple (ar.map dE++[dE (k,h)])]=some (.list (is.map jx))) (ed:aU m [.list b,.tuple (ar.map dE++[dE (k,h)])]=some (.list (js.map jx))):cv (aU m) [s0,s1,.val (.tuple (ar.map dE)),.own acc,.val (dM k h),s5]=some (.nx [s0,s1,.val (.tuple (ar.map dE)),.own (acc++((k,h,ar)::(is++js):List It).map jx),.val (dM k h),.val (.list b)]):=by
 refine jR hb (by omega) ((iY (ds:=[.list b]) rfl (vh (es:=is.map jx) ec (by simp;omega) (by simp;omega)) (iY (ds:=[]) rfl (vh (es:=js.map jx) ed (by simp;omega) (by simp;omega)) rfl)).trans ?_)
 simp [jx,bh,dE]
def J6 {r:Ψ} {n:Nat} (ih:∀ k,n=k+1->PB P r k) {wh:Bool} {h h':Hd} {c:Nat} (g:qj P r n wh h h' c) (m M:Nat) (ar ar':ω) (acc acc':List W) (s0 s1 s5 t0 t1 t5:Sl) (k:Int) (hm:n<=m) (hM:ar.length+n<=M) (h100:M<100) (hs:ar'.map sg=ar.map sg) (hw:wh=true->∃ b∈ar,gg b=true) (hl:acc.length+c<899) (hl':acc'.length+c<899):∃ (is is':List It) (s5' t5':Sl),is.length=c/\xi r is is'/\(∀ i∈is,GI P M i)/\cv (aU m) [s0,s1,.val (.tuple (ar.map dE)),.own acc,.val (dM k h),s5]=some (.nx [s0,s1,.val (.tuple (ar.map dE)),.own (acc++is.map jx),.val (dM k h),s5'])/\cv (aU m) [t0,t1,.val (.tuple (ar'.map dE)),.own acc',.val (dM k h'),t5]=some (.nx [t0,t1,.val (.tuple (ar'.map dE)),.own (acc'++is'.map jx),.val (dM k h'),t5']):=by
 have al:∀ {x:It} {l:List It},GI P M x->(∀ i∈l,GI P M i)->∀ i∈x::l,GI P M i:=λ {x l} h1 h2 i hi=>(mem_cons.mp hi).elim (λ e=>e▸h1) (h2 i)
 have up:∀ x:Bk,wh=true->∃ b∈ar++[x],gg b=true:=λ x z=>by obtain ⟨b,hb,q⟩:=hw z;exact ⟨b,by simp [hb],q⟩
 have sl:=BC hs
 cases g with
 | lf p hb=>exact ⟨[(k,h,ar)],[(k,ir r h,ar')],s5,t5,rfl,.cons ⟨rfl,rfl,hs⟩ .nil,al (ww p hM hw) (λ i hi=>absurd hi not_mem_nil),jR hb (by omega) rfl,jR ((bs_map' r h).trans hb) (by omega) rfl⟩
 | @whl _ _ t a a' c p g=>
  obtain ⟨m,rfl⟩:∃ j,m=j+1:=⟨m-1,by omega⟩
  obtain ⟨is,is',l1,r1,i1,ec,ed⟩:=vS (m:=m) (ih _ rfl) g (k,.whl t [.list (bS a)]) (k,.whl (aO r t) [.list (bS a')]) rfl hs (by omega) hM h100 (λ _=>⟨_,mem_append.mpr (.inr (mem_singleton.mpr rfl)),rfl⟩) (by omega)
  have l2:=iQ r1
  exact ⟨(k,.whl t [.list (bS a)],ar)::is,(k,.whl (aO r t) [.list (bS a')],ar')::is',_,_,by simp [l1],.cons ⟨rfl,rfl,hs⟩ r1,al (ww p hM hw) i1,qZ (acc:=acc) rfl (by omega) (by omega) ec,qZ (acc:=acc') rfl (by omega) (by omega) ed⟩
 | @if1 _ _ t a a' c p g=>
  obtain ⟨m,rfl⟩:∃ j,m=j+1:=⟨m-1,by omega⟩
  obtain ⟨is,is',l1,r1,i1,ec,ed⟩:=vS (m:=m) (ih _ rfl) g (k,.ifs t [.list (bS a),.none]) (k,.ifs (aO r t) [.list (bS a'),.none]) rfl hs (by omega) hM h100 (up _) (by omega)
  have l2:=iQ r1
  exact ⟨(k,.ifs t [.list (bS a),.none],ar)::is,(k,.ifs (aO r t) [.list (bS a'),.none],ar')::is',_,_,by simp [l1],.cons ⟨rfl,rfl,hs⟩ r1,al (ww p hM hw) i1,qZ (acc:=acc) rfl (by omega) (by omega) ec,qZ (acc:=acc') rfl (by omega) (by omega) ed⟩
 | @if2 _ _ t a b a' b' c c' p g g'=>
  obtain ⟨m,rfl⟩:∃ j,m=j+1:=⟨m-1,by omega⟩
  obtain ⟨is,is',l1,r1,i1,ec,ec'⟩:=vS (m:=m) (ih _ rfl) g (k,.ifs t [.list (bS a),.list (bS b)]) (k,.ifs (aO r t) [.list (bS a'),.list (bS b')]) rfl hs (by omega) hM h100 (up _) (by omega)
  obtain ⟨js,js',l2,r2,i2,ed,ed'⟩:=vS (m:=m) (ih _ rfl) g' (k,.ifs t [.list (bS a),.list (bS b)]) (k,.ifs (aO r t) [.list (bS a'),.list (bS b')]) rfl hs (by omega) hM h100 (up _) (by omega)
  have l3:=iQ r1
  have l4:=iQ r2
  exact ⟨(k,.ifs t [.list (bS a),.list (bS b)],ar)::(is++js),(k,.ifs (aO r t) [.list (bS a'),.list (bS b')],ar')::(is'++js'),_,_,by simp [l1,l2],.cons ⟨rfl,rfl,hs⟩ (r1.app r2),al (ww p hM hw) (λ i hi=>(mem_append.mp hi).elim (i1 i) (i2 i)),A7 (acc:=acc) rfl (by omega) (by omega) ec ed,A7 (acc:=acc') rfl (by omega) (by omega) ec' ed'⟩
def zk {r:Ψ} {n:Nat} (ih:∀ k,n=k+1->PB P r k):PB P r n:=λ wh l=>by
 induction l with
 | nil=>
  intro l' c g m M ar ar' acc acc' s0 s1 s4 s5 t0 t1 t4 t5 _ _ _ _ _ _ _
  cases g
  exact ⟨[],[],s4,s5,t4,t5,rfl,.nil,(λ i hi=>absurd hi not_mem_nil),by simp [bS,bh],by simp [bS,bh]⟩
 | cons b l il=>
  intro l' c g m M ar ar' acc acc' s0 s1 s4 s5 t0 t1 t4 t5 hm hM h100 hs hw hl hl'
  cases g with
  | cons g1 g2=>
   obtain ⟨is,is',u5,v5,l1,r1,i1,e1,f1⟩:=J6 ih g1 m M ar ar' acc acc' s0 s1 s5 t0 t1 t5 _ hm hM h100 hs hw (by omega) (by omega)
   have l3:=iQ r1
   obtain ⟨js,js',u4,u5',v4,v5',l2,r2,i2,e2,f2⟩:=il _ _ g2 m M ar ar' (acc++is.map jx) (acc'++is'.map jx) s0 s1 (.val (dM _ _)) u5 t0 t1 (.val (dM _ _)) v5 hm hM h100 hs hw (by simp;omega) (by simp;omega)
   refine ⟨is++js,is'++js',u4,u5',v4,v5',by simp [l1,l2],r1.app r2,λ i hi=>(mem_append.mp hi).elim (i1 i) (i2 i),?_,?_⟩
   . refine (iY (δ2:=[s0,s1,.val (.tuple (ar.map dE)),.own acc,.val (dM _ _),s5]) rfl e1 e2).trans ?_
     simp
   . refine (iY (δ2:=[t0,t1,.val (.tuple (ar'.map dE)),.own acc',.val (dM _ _),t5]) rfl f1 f2).trans ?_
     simp
def K7 {r:Ψ}:∀ n,PB P r n:=λ n=>by
 induction n with
 | zero=>exact zk λ k z=>by cases z
 | succ n ih=>exact zk λ k z=>by cases z;exact ih
def zE {l:ω} {is:List It} (e:∃ s4 s5,bh (ae 4) (cv (aU 7)) (bS l) [.val (.list (bS l)),.val .none,.val (.tuple []),.own [],.no,.no]=some (.nx [.val (.list (bS l)),.val .none,.val (.tuple []),.own (is.map jx),s4,s5])):aU 8 [.list (bS l),.none]=some (.list (is.map jx)):=by
 have z0:=sz 0 (by decide)
 obtain ⟨s4,s5,e⟩:=e
 show c7 2 6 _ _=_
 refine aZ rfl ?_
 refine ak (δ1:=[.val (.list (bS l)),.val .none,.val (.tuple []),.no,.no,.no]) (by first | rfl | simp! [bL,uD,if_pos z0]) ?_
 refine ak (δ1:=[.val (.list (bS l)),.val .none,.val (.tuple []),.own [],.no,.no]) (by first | rfl | simp! [uD,if_pos z0]) ?_
 refine ak (fQ (ds:=bS l) (by first | rfl | simp! [uD]) e) ?_
 first | rfl | simp! [uD]
def uj {r:Ψ} {n:Nat} {l l':ω} {c:Nat} (g:eS P r n false l l' c) (hn:n<=6) (hc:c<899):∃ is is':List It,is.length=c/\xi r is is'/\(∀ i∈is,GI P 6 i)/\aU 8 [.list (bS l),.none]=some (.list (is.map jx))/\aU 8 [.list (bS l'),.none]=some (.list (is'.map jx)):=by
 obtain ⟨is,is',s4,s5,t4,t5,l1,r1,i1,e,f⟩:=K7 _ _ _ _ _ g 7 6 [] [] [] [] (.val (.list (bS l))) (.val .none) .no .no (.val (.list (bS l'))) (.val .none) .no .no (by omega) (by simpa using hn) (by decide) rfl (λ z=>by cases z) (by simpa using hc) (by simpa using hc)
 exact ⟨is,is',l1,r1,i1,zE ⟨s4,s5,e⟩,zE ⟨t4,t5,f⟩⟩
end
noncomputable def yJ:Tr->PyData
 | .num v=>.tuple [.str "num", .int v]
 | .sig k=>.tuple [.str (ue k)]
 | .nam x=>.tuple [.str "name", .str x]
 | .box _=>.none | .op _ _ _=>.none
noncomputable def BW:Tr->Bool
 | .num _=>true
 | .sig _=>true
 | .nam _=>true
 | _=>false
noncomputable def gT (j:Fin 3):Tr->Bool
 | .sig k=>k==j
 | .num _=>false | .nam _=>false | .box _=>false | .op _ _ _=>false
def j6:∀ (t:Tr),∀ l∈fz t,BW l=true
 | .num _,l,h=>by rw [mem_singleton.mp h];rfl
 | .sig _,l,h=>by rw [mem_singleton.mp h];rfl
 | .nam _,l,h=>by rw [mem_singleton.mp h];rfl
 | .box t,l,h=>j6 t l h
 | .op _ a b,l,h=>by
  rcases mem_append.mp h with h | h
  . exact j6 a l h
  . exact j6 b l h
def MJ {t:Tr} (h:BW t=true):(tw t).py=some (yJ t):=by
 cases t with
 | num v=>rfl
 | sig k=>rfl
 | nam x=>rfl
 | _=>cases h
def EG:∀ (l:List Tr),(∀ t∈l,BW t=true)->W.pys (l.map tw)=some (l.map yJ)
 | [],_=>rfl
 | t::l,h=>by
  have ih:=EG l λ u hu=>h u (by simp [hu])
  simp only [map_cons,W.pys,MJ (h t (by simp)),ih,bind_some,map_some]
noncomputable def L3 (t:Tr):Prop:=∀ x,t=.nam x->strOk x=true
def Hu:∀ k:Fin 3,strOk (ue k)=true:=by decide +kernel
def Ki:strOk (Str.ofString "num")=true/\strOk (Str.ofString "name")=true:=by decide +kernel
def JH {t:Tr} (h:BW t=true) (o:L3 t):(yJ t).canLay0=true:=by
 cases t with
 | num v=>simp [yJ,canLay0,canLayAll0,Ki]
 | sig k=>simp [yJ,canLay0,canLayAll0,Hu]
 | nam x=>simp [yJ,canLay0,canLayAll0,Ki,o x rfl]
 | _=>cases h
def B1:∀ (l:List Tr),(∀ t∈l,BW t=true/\L3 t)->canLayAll0 (l.map yJ)=true
 | [],_=>rfl
 | t::l,h=>by
  have ih:=B1 l λ u hu=>h u (by simp [hu])
  have:=JH (h t (by simp)).1 (h t (by simp)).2
  simp [canLayAll0,ih,this]
def OY:∀ j k:Fin 3,(ue k==ue j)=(k==j):=by decide +kernel
def Ni {t:Tr} (h:BW t=true) (j:Fin 3):PyData.eqv (yJ t) (.tuple [.str (ue j)])=gT j t:=by
 cases t with
 | num v=>simp [yJ,gT,PyData.eqv,eqvAll]
 | sig k=>simpa [yJ,gT,PyData.eqv,eqvAll] using OY j k
 | nam x=>simp [yJ,gT,PyData.eqv,eqvAll]
 | _=>cases h
def Fx (j:Fin 3):∀ (l:List Tr),(∀ t∈l,BW t=true)->((l.map yJ).any λ y=>PyData.eqv y (.tuple [.str (ue j)]))=l.any (gT j)
 | [],_=>rfl
 | t::l,h=>by
  rw [map_cons,any_cons,any_cons,Ni (h t (by simp)),Fx j l λ u hu=>h u (by simp [hu])]
def EX (j:Fin 3) (l:List Tr) (h:∀ t∈l,BW t=true/\L3 t):oX (.tuple [.str (ue j)]) (.list (l.map tw))=some (l.any (gT j)):=by
 have c1:kF (.tuple [.str (ue j)]) (.list (l.map tw))=none:=rfl
 have c2:(PyData.tuple [.str (ue j)]).canLay0=true:=by simp [canLay0,canLayAll0,Hu]
 have c3:(PyData.tuple [.str (ue j)]).depth<=60:=by simp [PyData.depth,PyData.depthAll]
 have p1:(W.tuple [.str (ue j)]).py=some (.tuple [.str (ue j)]):=rfl
 simp only [oX,c1,iO,bind_some,p1,EG l λ t ht=>(h t ht).1,c2,B1 l h,c3,decide_true,Bool.and_self,if_true,Fx j l λ t ht=>(h t ht).1]
noncomputable def own (t:Tr):Bool:=(fz t).any (gT 0)||(fz t).any (gT 2)
noncomputable def kC (nm y:Str):W:=.tuple [.str "name", .str nm,.str y]
noncomputable def cs (nm:Str) (t:Tr):List W:=if own t=true then [.none] else (nms t).map (kC nm)
noncomputable def Fd (t:Tr):Prop:=∀ x∈nms t,strOk x=true
def B5 {t:Tr} (h:Fd t):∀ l∈fz t,BW l=true/\L3 l:=λ l hl=>⟨j6 t l hl,λ x e=>h x (by subst e;exact mem_filterMap.mpr ⟨_,hl,rfl⟩)⟩
def BO (nm:Str):∀ (l:List Tr),b6 (ae 1) (aG c6 (az aT (aw 1) (dC (.int (0)))) (dC (.str "name"))) (aM (aa (dC (.str "name")) (aa (af 0) (aa (az aT (aw 1) (dC (.int (1)))) ag)))) [.val (.str nm),.no] (l.map tw)=some ((yP l).map (kC nm))
 | []=>rfl
 | t::l=>by
  have ih:=BO nm l
  have z3:=sz 3 (by decide)
  cases t with
  | num v=>simp! [map_cons,b6,tw,uD,r9,O0,ih];simp [yP]
  | sig k=>simp! [map_cons,b6,tw,uD,r9,OV,ih];simp [yP]
  | nam x=>simp! [map_cons,b6,tw,uD,r9,Fs,decide_true,if_pos z3,ih];simp [yP,kC]
  | box t=>simp! [map_cons,b6,tw,uD,r9,O8,ih];simp [yP]
  | op k a b=>simp! [map_cons,b6,tw,uD,r9,OT,ih];simp [yP]
def nc (nm:Str) (t:Tr) (hd:pM t<9) (hc:lh t<=300) (ho:Fd t):bC [.str nm,tw t]=some (.list (cs nm t)):=by
 have z1:=sz 1 (by decide)
 have lv:=gZ t 9 hd (by omega)
 have zl:((fz t).map tw).length<=sizeLine:=sz _ (by have:=fW t;simp;omega)
 have i0:oX (.tuple [.str "lane"]) (.list ((fz t).map tw))=some ((fz t).any (gT 0)):=EX 0 (fz t) (B5 ho)
 have i2:oX (.tuple [.str "mine"]) (.list ((fz t).map tw))=some ((fz t).any (gT 2)):=EX 2 (fz t) (B5 ho)
 have nk:=BO nm (fz t)
 refine aZ rfl ?_
 refine ak (δ1:=[.val (.str nm),.val (tw t),.val (.list ((fz t).map tw)),.no]) (by first | rfl | simp! [uD,bL,lv]) ?_
 refine ak (δ1:=[.val (.str nm),.val (tw t),.val (.list ((fz t).map tw)),.val (.list ((nms t).map (kC nm)))]) (aK (d:=.list ((nms t).map (kC nm))) ?_ rfl) (bo ?_)
 . simp! [uD,if_pos zl]
   rw [nk]
   rfl
 . have t1:pC (aG oX (aM (aa (dC (.str "lane")) ag)) (aw 2)) (aG oX (aM (aa (dC (.str "mine")) ag)) (aw 2)) [.val (.str nm),.val (tw t),.val (.list ((fz t).map tw)),.val (.list ((nms t).map (kC nm)))]=some (own t):=by
    unfold own
    cases h0:(fz t).any (gT 0) with
    | true=>simp! [uD,if_pos z1,i0,h0,Bool.true_or]
    | false=>simp! [uD,if_pos z1,i0,i2,h0,Bool.false_or]
   unfold cs
   cases hw:own t with
   | true=>rw [hw] at t1;simp only [Ew,t1];simp! [uD,if_pos z1]
   | false=>rw [hw] at t1;simp only [Ew,t1];simp! [uD]
def Bd {fo fk fx:ζ} {δ:DS} {S S3:ah} {d:Nat} {kvs:ν} {y z:W} {k:List aA} (h1:fo δ S=some (.ok (.ref d),S)) (hd:S[d]?=some (.dN kvs)) (h2:fk δ S=some (.ok y,S)) (h3:fx δ S=some (.ok z,S3)) (hd3:S3[d]?=some (.dN kvs)) (hk:dU y=some k) (hl:kvs.length<9000):
 qI fo fk fx δ S=match aQ kvs k with
  | some v=>some (.ok v,S3)
  | none=>some (.ok z,S3.set d (.dN (cZ kvs k z))):=by
 have a1:jX (.ref d) S=some (d,kvs):=by simp [jX,df,hd]
 have a3:jX (.ref d) S3=some (d,kvs):=by simp [jX,df,hd3]
 have hz:kvs.length<sizeLine:=lt_of_lt_of_le hl (sz 9000 (by decide))
 simp only [qI,h1,aq,a1,isSome_some,if_true,h2,h3,a3,bind_some,hk,if_pos hz]
 all_goals (cases aQ kvs k <;> rfl)
def pQ {fo:ζ} {fv:ζ} {δ:DS} {S S1:ah} {l:Nat} {q:List W} {d:W} (h1:fo δ S=some (.ok (.ref l),S1)) (h2:S1[l]?=some (.lst q)) (h3:fv δ S1=some (.ok d,S1)) (h4:q.length<9000):cK fo fv δ S=some (.nx δ,S1.set l (.lst (q++[d]))):=by
 have hz:q.length<sizeLine:=lt_of_lt_of_le h4 (sz 9000 (by decide))
 simp only [cK,h1,iV,fg h2,isSome_some,if_true,h3,bind_some,if_pos hz,map_some]
noncomputable def nU (E:ν) (k:List aA):List W:=(E.filter λ e=>decide (e.1=k)).map (·.2)
def gx (E:ν) (k q:List aA) (x:W):nU (E++[(k,x)]) q=if q=k then nU E q++[x] else nU E q:=by
 unfold nU
 rw [List.filter_append,map_append]
 by_cases h:q=k
 . subst h;simp
 . have h':¬ k=q:=λ z=>h z.symm
   simp [h,h']
def Aa (E:ν) (k:List aA):(nU E k).length<=E.length:=by
 unfold nU
 rw [length_map]
 exact length_filter_le _ _
noncomputable def Fz:Ob->Bool
 | .dK _=>true
 | .dT _=>true
 | _=>false
structure LK (D:Nat->Option Ob) (S:ah) (I d:Nat) (kvs:ν) (E:ν):Prop where
 hI:S[I]?=some (.ins (Str.ofString "Links") [(Str.ofString "behind", .ref d)])
 hd:S[d]?=some (.dN kvs)
 hl:kvs.length<=E.length
 nn:∀ k,aQ kvs k=none->nU E k=[]
 ss:∀ k v,aQ kvs k=some v->∃ l,v=.ref l/\S[l]?=some (.lst (nU E k))
 one:∀ k k' l,aQ kvs k=some (.ref l)->aQ kvs k'=some (.ref l)->k=k'
 kp:∀ m o,D m=some o->S[m]?=some o/\Fz o=true
section
variable {D:Nat->Option Ob}
def Lm {S:ah} {I:Nat} {fs:List (Str×W)} (h:S[I]?=some (.ins (Str.ofString "Links") fs)):ie (Str.ofString "Links") (.ref I) S=some (I,fs):=by simp [ie,df,h]
def Fq (d:Nat):List.lookup (Str.ofString "behind") [(Str.ofString "behind", W.ref d)]=some (.ref d):=by simp [List.lookup]
def zP {S:ah} {I d:Nat} {kvs E:ν} (h:LK D S I d kvs E) (s1:Sl) (key line c:W) (k:List aA) (hk:dU c=some k) (hE:E.length<8000):∃ S' kvs',gh [.val (.ref I),s1,.val key,.val line,.val c] S=some (.nx [.val (.ref I),s1,.val key,.val line,.val c],S')/\LK D S' I d kvs' (E++[(k,.tuple [key,line])]):=by
 have z0:=sz 0 (by decide)
 have z2:=sz 2 (by decide)
 let δ:DS:=[.val (.ref I),s1,.val key,.val line,.val c]
 have hlt:d<S.length:=(oG h.hd).1
 have f1:n8 "Links" "behind" (ab (af 0)) δ S=some (.ok (.ref d),S):=by first | rfl | simp! [δ,uS,uD,Lm h.hI,Fq]
 have f3:d9 (ab ag) δ S=some (.ok (.ref S.length),S++[.lst []]):=by first | rfl | simp! [δ,uS,uD,if_pos z0]
 have dd:=Bd (fk:=ab (af 4)) f1 h.hd rfl f3 (aS h.hd) hk (by have:=h.hl;omega)
 have tv:∀ S1,ab (aM (aa (af 2) (aa (af 3) ag))) δ S1=some (.ok (.tuple [key,line]),S1):=λ S1=>by simp! [δ,uS,uD,if_pos z2]
 have el:=Aa E k
 cases hv:aQ kvs k with
 | some v=>
  obtain ⟨l,rfl,hl⟩:=h.ss k v hv
  rw [hv] at dd
  refine ⟨_,kvs,pQ dd (aS hl) (tv _) (by omega),?_⟩
  have hne:∀ {m o},S[m]?=some o->o≠.lst (nU E k)->l≠m:=λ hm ho=>bO hl hm λ z=>ho z.symm
  refine ⟨set_ne' (aS h.hI) (hne h.hI (by simp)),set_ne' (aS h.hd) (hne h.hd (by simp)),by have:=h.hl;simp;omega,λ q hq=>?_,λ q w hq=>?_,h.one,λ m o hm=>⟨set_ne' (aS (h.kp m o hm).1) (hne (h.kp m o hm).1 (λ z=>by have:=(h.kp m o hm).2;rw [z] at this;cases this)),(h.kp m o hm).2⟩⟩
  . have:q≠k:=λ z=>by subst z;rw [hv] at hq;cases hq
    rw [gx,if_neg this]
    exact h.nn q hq
  . obtain ⟨l',rfl,hl'⟩:=h.ss q w hq
    refine ⟨l',rfl,?_⟩
    rw [gx]
    by_cases e:q=k
    . subst e
      rw [hv] at hq
      cases hq
      rw [if_pos rfl]
      exact set_eq' (aS hl)
    . rw [if_neg e]
      exact set_ne' (aS hl') λ z=>e (h.one q k l' hq (by rw [hv,z]))
 | none=>
  rw [hv] at dd
  have pk:=lc (W.ref S.length) hv
  rw [pk] at dd
  have e0:=h.nn k hv
  have n1:((S++[Ob.lst []]:ah).set d (Ob.dN (kvs++[(k,W.ref S.length)])))[S.length]?=some (Ob.lst []):=set_ne' (bT _ _) (by omega)
  have hIl:I<S.length:=(oG h.hI).1
  have hId:d≠I:=bO h.hd h.hI (by simp)
  refine ⟨_,kvs++[(k,.ref S.length)],pQ dd n1 (tv _) (by simp),?_⟩
  refine ⟨set_ne' (set_ne' (aS h.hI) hId) (by omega),set_ne' (set_eq' (aS h.hd)) (by omega),by have:=h.hl;simp;omega,λ q hq=>?_,λ q w hq=>?_,λ q q' l hq hq'=>?_,λ m a hm=>?_⟩
  . rw [fL kvs k q _ hv] at hq
    by_cases e:q=k
    . rw [if_pos e] at hq;cases hq
    . rw [if_neg e] at hq
      rw [gx,if_neg e]
      exact h.nn q hq
  . rw [fL kvs k q _ hv] at hq
    by_cases e:q=k
    . subst e
      rw [if_pos rfl] at hq
      cases hq
      refine ⟨S.length,rfl,?_⟩
      rw [gx,if_pos rfl,e0]
      exact set_eq' n1
    . rw [if_neg e] at hq
      obtain ⟨l',rfl,hl'⟩:=h.ss q w hq
      have:l'<S.length:=(oG hl').1
      refine ⟨l',rfl,?_⟩
      rw [gx,if_neg e]
      exact set_ne' (set_ne' (aS hl') (bO h.hd hl' (by simp))) (by omega)
  . have lo:∀ q,aQ kvs q=some (.ref l)->l<S.length:=λ q hq=>by
     obtain ⟨l',e,hl'⟩:=h.ss q _ hq
     cases e
     exact (oG hl').1
    rw [fL kvs k q _ hv] at hq
    rw [fL kvs k q' _ hv] at hq'
    by_cases e:q=k <;> by_cases e':q'=k
    . rw [e,e']
    . rw [if_pos e] at hq;rw [if_neg e'] at hq';cases hq;exact absurd (lo q' hq') (by omega)
    . rw [if_neg e] at hq;rw [if_pos e'] at hq';cases hq';exact absurd (lo q hq) (by omega)
    . rw [if_neg e] at hq;rw [if_neg e'] at hq';exact h.one q q' l hq hq'
  . have g:=(h.kp m a hm).1
    have q:=(h.kp m a hm).2
    have:m<S.length:=(oG g).1
    exact ⟨set_ne' (set_ne' (aS g) (bO h.hd g (λ z=>by rw [<-z] at q;cases q))) (by omega),q⟩
def sF {I d:Nat} (s1:Sl) (key line:W):∀ (kc:List (W×List aA)) (S:ah) (kvs E:ν) (s4:Sl),(∀ p∈kc,dU p.1=some p.2)->E.length+kc.length<=8000->LK D S I d kvs E->∃ S' kvs' s4',bx (ae 4) gh (kc.map (·.1)) [.val (.ref I),s1,.val key,.val line,s4] S=some (.nx [.val (.ref I),s1,.val key,.val line,s4'],S')/\LK D S' I d kvs' (E++kc.map λ p=>(p.2,.tuple [key,line]))
 | [],S,kvs,E,s4,_,_,h=>⟨S,kvs,s4,rfl,by simpa using h⟩
 | p::kc,S,kvs,E,s4,hk,hl,h=>by
  simp only [length_cons] at hl
  obtain ⟨S1,kvs1,e1,h1⟩:=zP h s1 key line p.1 p.2 (hk p (by simp)) (by omega)
  obtain ⟨S',kvs',s4',e2,h2⟩:=sF s1 key line kc S1 kvs1 _ (.val p.1) (λ q hq=>hk q (by simp [hq])) (by simp;omega) h1
  exact ⟨S',kvs',s4',(bK rfl e1).trans e2,by simpa using h2⟩
def NA:(Str.ofString "add" == Str.ofString "behind")=false:=by decide +kernel
def Nu {I d:Nat} {S:ah} {kvs E:ν} (h:LK D S I d kvs E) (kc:List (W×List aA)) (hk:∀ p∈kc,dU p.1=some p.2) (hl:E.length+kc.length<=8000) (key line:W) {fo:μ} {fa:Υ} {δ:DS} (h1:fo δ=some (.ref I)) (h2:fa δ S=some (.ok [.list (kc.map (·.1)),key,line],S)):
 ∃ S' kvs',bw (cJ "Links" "add" aN (ab fo) fa) δ S=some (.nx δ,S')/\LK D S' I d kvs' (E++kc.map λ p=>(p.2,.tuple [key,line])):=by
 obtain ⟨S',kvs',s4',e,g⟩:=sF (.val (.list (kc.map (·.1)))) key line kc S kvs E .no hk hl h
 refine ⟨S',kvs',iR (d:=.none) (zj h1 h.hI (by simp [List.lookup,NA]) h2 ?_),g⟩
 refine (bt rfl).trans ((congrArg fw (?_:_=some (.nx [.val (.ref I),.val (.list (kc.map (·.1))),.val key,.val line,s4'],S'))).trans rfl)
 exact (cM (S1:=S) (ds:=kc.map (·.1)) (by first | rfl | simp! [uS,uD,bL])).trans e
end
noncomputable def rX (nm:Str):W:=.tuple [.str "def", .str nm]
noncomputable def sU (nm:Str):List aA:=[Sum.inr (Str.ofString "def"),Sum.inr nm]
noncomputable def yM (nm:Str):W:=.tuple [.str "back", .str nm]
noncomputable def ye (nm:Str):List aA:=[Sum.inr (Str.ofString "back"),Sum.inr nm]
noncomputable def qQ (k:Int):W:=.tuple [.str "row", .int k]
noncomputable def qD (k:Int):List aA:=[Sum.inr (Str.ofString "row"),Sum.inl k]
noncomputable def lW (nm y:Str):List aA:=[Sum.inr (Str.ofString "name"),Sum.inr nm,Sum.inr y]
noncomputable abbrev En:=W×List aA×W
abbrev ξ:=List (List aA×En)
noncomputable def F8 (e:En):W:=.tuple [e.1,e.2.2]
noncomputable def iK (EE:ξ):List (List aA×W):=EE.map λ e=>(e.1,F8 e.2)
def DM (a b:ξ):iK (a++b)=iK a++iK b:=by simp [iK]
noncomputable def fc (kc:List (W×List aA)) (kw:W) (kk:List aA) (ln:Int):List (List aA×En):=kc.map λ c=>(c.2,(kw,kk,.int ln))
noncomputable def cV (nm:Str) (ar:ω):List (W×List aA):=(rX nm,sU nm)::ar.map λ b=>(qQ b.1,qD b.1)
noncomputable def kW (nm:Str) (t:Tr):List (W×List aA):=if own t=true then [(.none,[])] else (nms t).map λ y=>(kC nm y,lW nm y)
def m9 (nm:Str) (t:Tr):∀ p∈kW nm t,dU p.1=some p.2:=λ p hp=>by
 unfold kW at hp
 split at hp
 . rw [mem_singleton.mp hp];rfl
 . obtain ⟨y,_,rfl⟩:=mem_map.mp hp
   rfl
def EO (nm:Str) (t:Tr):(kW nm t).map (·.1)=cs nm t:=by
 unfold kW cs
 split <;> simp [map_map]
def mw (nm:Str) (t:Tr):(kW nm t).length<=lh t:=by
 have h1:(nms t).length<=lh t:=le_trans (List.length_filterMap_le _ _) (fW t)
 have h2:1<=lh t:=by cases t <;> simp [lh]
 unfold kW
 split <;> simp <;> omega
def za (nm:Str) (ar:ω):∀ p∈cV nm ar,dU p.1=some p.2:=λ p hp=>by
 rcases mem_cons.mp hp with rfl | hp
 . rfl
 . obtain ⟨b,_,rfl⟩:=mem_map.mp hp
   rfl
def tE:∀ (ar:ω),b6 (ae 0) gN (aM (aa (dC (.str "row")) (aa (az aT (aw 0) (dC (.int (1)))) ag))) [.no] (ar.map dE)=some (ar.map λ b=>qQ b.1)
 | []=>rfl
 | b::ar=>by
  have z2:=sz 2 (by decide)
  have ih:=tE ar
  simp! [map_cons,b6,dE,dM,uD,Fs,if_pos z2] at ih ⊢
  rw [ih]
  rfl
def wG (nm:Str) (ar:ω) (hl:ar.length<=100):kj [.str nm,.tuple (ar.map dE)]=some (.list ((cV nm ar).map (·.1))):=by
 have z1:=sz 1 (by decide)
 have z2:=sz 2 (by decide)
 have zl:(ar.map dE).length<=sizeLine:=sz _ (by simp;omega)
 have ga:ck (.list [rX nm]) (.list (ar.map λ b=>qQ b.1))=some (.list ((cV nm ar).map (·.1))):=by
  rw [qF (sz _ (by simp;omega))]
  simp [cV,map_map,Function.comp_def]
 refine aZ rfl (bo ?_)
 have c1:br (gC [none] (bU (aw 1)) (ae 0) gN (aM (aa (dC (.str "row")) (aa (az aT (aw 0) (dC (.int (1)))) ag)))) (bL 2 [.str nm,.tuple (ar.map dE)])=some (.list (ar.map λ b=>qQ b.1)):=by
  simp! [bL,uD,if_pos zl]
  rw [tE ar]
  rfl
 have c2:br (bE (aa (aM (aa (dC (.str "def")) (aa (af 0) ag))) ag)) (bL 2 [.str nm,.tuple (ar.map dE)])=some (.list [rX nm]):=by
  first | rfl | (simp! [bL,uD,if_pos z1,if_pos z2];rfl)
 simp only [az,c1,c2,bind_some,ga]
noncomputable def cE (ar:ω):Int:=((ar.filter gg).map (·.1)).getLast?.getD 0
def xj:∀ (ar:ω),b6 (ae 0) (aG c6 (az aT (aw 0) (dC (.int (0)))) (dC (.str "while"))) (az aT (aw 0) (dC (.int (1)))) [.no] (ar.map dE)=some ((ar.filter gg).map λ b=>.int b.1)
 | []=>rfl
 | b::ar=>by
  have ih:=xj ar
  have q:=(kq (aD b.2)).1
  by_cases h:aD b.2=11
  . rw [decide_eq_true h] at q
    have:gg b=true:=by simp [gg,h]
    simp! [map_cons,b6,dE,dM,uD,r9,Fs,q] at ih ⊢
    rw [ih]
    simp [this]
  . rw [decide_eq_false h] at q
    have:gg b=false:=by simp [gg,h]
    simp! [map_cons,b6,dE,dM,uD,r9,Fs,q] at ih ⊢
    rw [ih]
    simp [this]
def Dc (ar:ω) (h:∃ b∈ar,gg b=true):fu ((ar.filter gg).map λ b=>W.int b.1) (-1)=some (.int (cE ar)):=by
 obtain ⟨b,hb,hw⟩:=h
 have hm:b∈ar.filter gg:=mem_filter.mpr ⟨hb,hw⟩
 rcases List.eq_nil_or_concat (ar.filter gg) with e | ⟨l,c,e⟩
 . rw [e] at hm;cases hm
 . unfold cE
   rw [e,List.concat_eq_append,map_append,map_append]
   simp only [map_cons,map_nil]
   rw [J7]
   simp
noncomputable def gd (t:Tr) (d c:Nat):Prop:=pM t<=d/\lh t<=c/\Fd t
noncomputable def oC (nm:Str) (k:Int) (ar:ω):Option Str->List (List aA×En)
 | some x=>fc (cV nm ar) (kC nm x) (lW nm x) k
 | none=>[]
noncomputable def EC (nm:Str) (k:Int) (ar:ω):Hd->List (List aA×En)
 | .call _ f _=>fc (cV nm ar) (rX f) (sU f) k
 | _=>[]
noncomputable def lu (nm:Str) (k:Int) (h:Hd) (ar:ω):List (List aA×En):=
 oC nm k ar (ol h)++((if aD h=4∨aD h=5 then fc (cV nm ar) (qQ (cE ar)) (qD (cE ar)) k else [])++((if aD h=3 then fc (cV nm ar) (rX nm) (sU nm) k else [])++EC nm k ar h))
noncomputable def dF (nm:Str) (k:Int):Hd->List (List aA×En)
 | .ifs t _=>fc (kW nm t) (qQ k) (qD k) k
 | .whl t _=>fc (kW nm t) (qQ k) (qD k) k
 | .ret t=>fc (kW nm t) (yM nm) (ye nm) k
 | .set x t=>fc (kW nm t) (kC nm x) (lW nm x) k
 | .join x j _=>if j=Str.ofString "ahead" then fc [(.none,[])] (kC nm x) (lW nm x) k else []
 | _=>[]
noncomputable def yT (nm:Str) (k:Int) (f:Str) (ps:Ω) (ts:List Tr):List (List aA×En):=(ps.zip ts).flatMap λ p=>fc (kW nm p.2) (kC f p.1) (lW f p.1) k
noncomputable def vP (nm:Str) (k:Int) (ps:Ω):Hd->List (List aA×En)
 | .call x f ts=>fc [(yM f,ye f)] (kC nm x) (lW nm x) k++yT nm k f ps ts
 | _=>[]
section
variable {D:Nat->Option Ob} {I d:Nat} {S:ah} {kvs:ν} {EE:ξ}
def oj (h:LK D S I d kvs (iK EE)) (kc:List (W×List aA)) (hk:∀ p∈kc,dU p.1=some p.2) (hl:EE.length+kc.length<=8000) (kw:W) (kk:List aA) (ln:Int) {fo:μ} {fa:Υ} {δ:DS} (h1:fo δ=some (.ref I)) (h2:fa δ S=some (.ok [.list (kc.map (·.1)),kw,.int ln],S)):
 ∃ S' kvs',bw (cJ "Links" "add" aN (ab fo) fa) δ S=some (.nx δ,S')/\LK D S' I d kvs' (iK (EE++fc kc kw kk ln)):=by
 obtain ⟨S',kvs',e,g⟩:=Nu h kc hk (by simpa [iK] using hl) kw (.int ln) h1 h2
 refine ⟨S',kvs',e,?_⟩
 rw [DM]
 simpa [iK,fc,F8,map_map,Function.comp_def] using g
def lB {c:DS->ah->SM Bool} {act:τ} {δ:DS} {b:Bool} (hc:c δ S=some (.ok b,S)) (h:LK D S I d kvs (iK EE)) {X:ξ} (ha:b=true->∃ S' kvs',act δ S=some (.nx δ,S')/\LK D S' I d kvs' (iK (EE++X))) (hx:b=false->X=[]):∃ S' kvs',dq c act (aE aI) δ S=some (.nx δ,S')/\LK D S' I d kvs' (iK (EE++X)):=by
 cases b with
 | true=>
  obtain ⟨S',kvs',e,g⟩:=ha rfl
  exact ⟨S',kvs',(dZ hc).trans e,g⟩
 | false=>exact ⟨S,kvs,(bP hc).trans rfl,by rw [hx rfl,append_nil];exact h⟩
end
def Ke (x:Str):fB (.str x) .none=some true:=by first | rfl | simp [fB]
def Kd:fB .none .none=some false:=by first | rfl | simp [fB]
def OM (h:Hd):fB (vt h) .none=some (ol h).isSome:=by
 unfold vt
 cases ol h with
 | some x=>exact Ke x
 | none=>exact Kd
def Nm {h:Hd} (nm:Str) (k:Int) (ar:ω) (e:aD h=9):∃ f x l,rs h=x::W.str f::l/\EC nm k ar h=fc (cV nm ar) (rX f) (sU f) k:=by
 cases h with
 | call x f ts=>exact ⟨f,_,_,rfl,rfl⟩
 | _=>exact nomatch (show false=true from decide_eq_true e)
def Jq {h:Hd} (nm:Str) (k:Int) (ar:ω) (e:aD h≠9):EC nm k ar h=[]:=by
 cases h with
 | call x f ts=>exact absurd rfl e
 | _=>rfl
def d6 (kc:List (W×List aA)) (kw:W) (kk:List aA) (ln:Int):(fc kc kw kk ln).length=kc.length:=by simp [fc]
def nL (nm:Str) (ar:ω):(cV nm ar).length=ar.length+1:=by simp [cV]
section
variable {D:Nat->Option Ob} {I d:Nat} {S:ah} {kvs:ν} {EE:ξ}
noncomputable def yN (I:Nat) (nm:Str) (k:Int) (h:Hd) (ar:ω) (s7:Sl):DS:=[.val (.ref I),.val (.str nm),.val (dM k h),.val (.tuple (ar.map dE)),.val (.list ((cV nm ar).map (·.1))),.val (.int k),.val (vt h),s7]
def yS (h:LK D S I d kvs (iK EE)) (hl:EE.length+50<=8000) (nm:Str) (k:Int) (hd:Hd) (ar:ω) (ha:ar.length<=6) (hb:aD hd=4∨aD hd=5->∃ b∈ar,gg b=true):∃ S' kvs',jz [.ref I,.str nm,dM k hd,.tuple (ar.map dE)] S=some (.ok .none,S')/\LK D S' I d kvs' (iK (EE++lu nm k hd ar)):=by
 have wl:=nL nm ar
 have wk:=za nm ar
 have wr:=wG nm ar (by omega)
 have gr:=xI k hd
 let W4:W:=.list ((cV nm ar).map (·.1))
 have a0:∀ s7,az aT (aw 2) (dC (.int (0))) (yN I nm k hd ar s7)=some (.str (dS (aD hd))):=λ s7=>x0 rfl
 obtain ⟨S1,kvs1,e1,h1⟩:=lB (c:=ab (aG fB (aw 6) (dC .none))) (act:=bw (cJ "Links" "add" aN (ab (af 0)) (ab (aa (af 4) (aa (aM (aa (dC (.str "name")) (aa (af 1) (aa (af 6) ag)))) (aa (af 5) ag)))))) (δ:=yN I nm k hd ar .no) (b:=(ol hd).isSome) (X:=oC nm k ar (ol hd)) (ao (IS rfl rfl (OM hd))) h (λ hb=>by
  cases hg:ol hd with
  | none=>rw [hg] at hb;cases hb
  | some x=>
   have gw:vt hd=.str x:=by simp [vt,hg]
   exact oj h (cV nm ar) wk (by omega) (kC nm x) (lW nm x) k rfl (ao (xU rfl (BY rfl rfl (congrArg some gw)) rfl))) (λ hb=>by cases hg:ol hd with | none=>rfl | some x=>rw [hg] at hb;cases hb)
 have l1:(oC nm k ar (ol hd)).length<=7:=by
  cases ol hd with
  | some x=>simp only [oC,d6];omega
  | none=>simp [oC]
 generalize hX:(oC nm k ar (ol hd))=X1 at h1 l1
 have st2:∃ s7 S2 kvs2,dq (ab (aG kF (az aT (aw 2) (dC (.int (0)))) (aM (aa (dC (.str "break")) (aa (dC (.str "again")) ag))))) (aF (aE (aC (br (gC [none] (bU (aw 3)) (ae 0) (aG c6 (az aT (aw 0) (dC (.int (0)))) (dC (.str "while"))) (az aT (aw 0) (dC (.int (1)))))) (ae 7))) (bw (cJ "Links" "add" aN (ab (af 0)) (ab (aa (af 4) (aa (aM (aa (dC (.str "row")) (aa (az aT (aw 7) (BZ lX (dC (.int (1))))) ag))) (aa (af 5) ag))))))) (aE aI) (yN I nm k hd ar .no) S1=some (.nx (yN I nm k hd ar s7),S2)/\LK D S2 I d kvs2 (iK (EE++X1++if aD hd=4∨aD hd=5 then fc (cV nm ar) (qQ (cE ar)) (qD (cE ar)) k else [])):=by
  have t:aG kF (az aT (aw 2) (dC (.int (0)))) (aM (aa (dC (.str "break")) (aa (dC (.str "again")) ag))) (yN I nm k hd ar .no)=some (decide (aD hd=4∨aD hd=5)):=IS (a0 _) (kM rfl rfl) (ki (aD hd)).2.1
  by_cases hc:aD hd=4∨aD hd=5
  . rw [decide_eq_true hc] at t
    have la:=Dc ar (hb hc)
    let wh:W:=.list ((ar.filter gg).map λ b=>.int b.1)
    obtain ⟨S2,kvs2,e2,h2⟩:=oj h1 (cV nm ar) wk (by rw [length_append];omega) (qQ (cE ar)) (qD (cE ar)) k (fo:=af 0) (fa:=(ab (aa (af 4) (aa (aM (aa (dC (.str "row")) (aa (az aT (aw 7) (BZ lX (dC (.int (1))))) ag))) (aa (af 5) ag))))) (δ:=yN I nm k hd ar (.val wh)) rfl (ao (xU rfl (kM rfl (qa rfl rfl la)) rfl))
    exact ⟨.val wh,S2,kvs2,(dZ (ao t)).trans ((ai (δ':=yN I nm k hd ar (.val wh)) (S':=S1) (aR (aK (d:=wh) (KY rfl (by rw [length_map];omega) (xj ar)) rfl))).trans e2),by rw [if_pos hc];exact h2⟩
  . rw [decide_eq_false hc] at t
    exact ⟨.no,S1,kvs1,(bP (ao t)).trans rfl,by rw [if_neg hc,append_nil];exact h1⟩
 obtain ⟨s7,S2,kvs2,e2,h2⟩:=st2
 have l2:(if aD hd=4∨aD hd=5 then fc (cV nm ar) (qQ (cE ar)) (qD (cE ar)) k else []).length<=7:=by
  split
  . simp only [d6];omega
  . simp
 generalize hX2:(if aD hd=4∨aD hd=5 then fc (cV nm ar) (qQ (cE ar)) (qD (cE ar)) k else [])=X2 at h2 l2
 obtain ⟨S3,kvs3,e3,h3⟩:=lB (c:=ab (aG c6 (az aT (aw 2) (dC (.int (0)))) (dC (.str "return")))) (act:=bw (cJ "Links" "add" aN (ab (af 0)) (ab (aa (af 4) (aa (aM (aa (dC (.str "def")) (aa (af 1) ag))) (aa (af 5) ag)))))) (δ:=yN I nm k hd ar s7) (b:=decide (aD hd=3)) (X:=if aD hd=3 then fc (cV nm ar) (rX nm) (sU nm) k else []) (ao (by rw [tD (a0 s7),(kq _).2.2.1])) h2 (λ hb=>by
  rw [if_pos (of_decide_eq_true hb)]
  exact oj h2 (cV nm ar) wk (by simp only [length_append];omega) (rX nm) (sU nm) k rfl (ao (xU rfl (kM rfl rfl) rfl))) (λ hb=>if_neg (of_decide_eq_false hb))
 have l3:(if aD hd=3 then fc (cV nm ar) (rX nm) (sU nm) k else []).length<=7:=by
  split
  . simp only [d6];omega
  . simp
 generalize hX3:(if aD hd=3 then fc (cV nm ar) (rX nm) (sU nm) k else [])=X3 at h3 l3
 obtain ⟨S4,kvs4,e4,h4⟩:=lB (c:=ab (aG c6 (az aT (aw 2) (dC (.int (0)))) (dC (.str "call")))) (act:=bw (cJ "Links" "add" aN (ab (af 0)) (ab (aa (af 4) (aa (aM (aa (dC (.str "def")) (aa (az aT (aw 2) (dC (.int (3)))) ag))) (aa (af 5) ag)))))) (δ:=yN I nm k hd ar s7) (b:=decide (aD hd=9)) (X:=EC nm k ar hd) (ao (by rw [tD (a0 s7),(kq _).2.2.2.1])) h3 (λ hb=>by
  obtain ⟨f,x,l,er,et⟩:=Nm nm k ar (of_decide_eq_true hb)
  rw [et]
  have p2:aw 2 (yN I nm k hd ar s7)=some (.tuple (.str (dS (aD hd))::.int k::x::.str f::l)):=by rw [<-er];rfl
  exact oj h3 (cV nm ar) wk (by simp only [length_append];omega) (rX f) (sU f) k rfl (ao (xU rfl (kM rfl (x3 p2)) rfl))) (λ hb=>Jq nm k ar (of_decide_eq_false hb))
 refine ⟨S4,kvs4,?_,?_⟩
 . refine (bt rfl).trans ((congrArg fw (?_:_=some (.nx (yN I nm k hd ar s7),S4))).trans rfl)
   refine (ai (δ':=[.val (.ref I),.val (.str nm),.val (dM k hd),.val (.tuple (ar.map dE)),.val W4,.no,.no,.no]) (S':=S) (aR (aK (iu rfl wr) rfl))).trans ?_
   refine (ai (δ':=[.val (.ref I),.val (.str nm),.val (dM k hd),.val (.tuple (ar.map dE)),.val W4,.val (.int k),.no,.no]) (S':=S) (aR (aK (x1 rfl) rfl))).trans ?_
   refine (ai (δ':=yN I nm k hd ar .no) (S':=S) (aR (aK (d:=vt hd) (iu rfl gr) rfl))).trans ?_
   exact (ai e1).trans ((ai e2).trans ((ai e3).trans e4))
 . unfold lu
   rw [hX,hX2,hX3]
   simpa only [append_assoc] using h4
end
noncomputable def qN:Hd->List Tr
 | .set _ t=>[t] | .ret t=>[t] | .ifs t _=>[t] | .whl t _=>[t] | _=>[]
noncomputable def GP:Hd->Bool
 | .join _ j _=>decide (j=Str.ofString "ahead")
 | _=>false
def rH {nm:Str} {t:Tr} {w:W} {ks:List aA} {k:Int} (h:gd t 7 30):(fc (kW nm t) w ks k).length<=30:=by
 have:=mw nm t
 have:=h.2.1
 rw [d6]
 omega
def ua (nm:Str) (k:Int) (hd:Hd) (ht:∀ t∈qN hd,gd t 7 30):(dF nm k hd).length<=30:=by
 cases hd with
 | join x j t=>
  show (if j=Str.ofString "ahead" then fc [(.none,[])] (kC nm x) (lW nm x) k else []).length<=30
  split
  . rw [d6]
    decide
  . exact zero_le _
 | set x t=>exact rH (ht t (mem_singleton.mpr rfl))
 | ret t=>exact rH (ht t (mem_singleton.mpr rfl))
 | ifs t l=>exact rH (ht t (mem_singleton.mpr rfl))
 | whl t l=>exact rH (ht t (mem_singleton.mpr rfl))
 | _=>exact zero_le _
def IQ (nm:Str) (k:Int) (hd:Hd):(if aD hd=10∨aD hd=11 then dF nm k hd else [])++(if aD hd=3 then dF nm k hd else [])++(if aD hd=0 then dF nm k hd else [])++(if GP hd=true then dF nm k hd else [])=dF nm k hd:=by
 cases hd with
 | set x t=>exact append_nil _
 | ret t=>exact (append_nil _).trans (append_nil _)
 | ifs t l=>exact (append_nil _).trans ((append_nil _).trans (append_nil _))
 | whl t l=>exact (append_nil _).trans ((append_nil _).trans (append_nil _))
 | join x j t=>
  by_cases hj:j=Str.ofString "ahead"
  . have:GP (.join x j t)=true:=decide_eq_true hj
    rw [if_pos this]
    rfl
  . have:GP (.join x j t)≠true:=λ z=>hj (of_decide_eq_true z)
    rw [if_neg this]
    exact (append_nil _).trans (if_neg hj).symm
 | _=>rfl
def JZ {h:Hd} (nm:Str) (k:Int) (e:aD h=10∨aD h=11):∃ t l,rs h=tw t::l/\t∈qN h/\dF nm k h=fc (kW nm t) (qQ k) (qD k) k:=by
 cases h with
 | ifs t l=>exact ⟨t,_,rfl,.head _,rfl⟩
 | whl t l=>exact ⟨t,_,rfl,.head _,rfl⟩
 | _=>exact nomatch (show false=true from decide_eq_true e)
def JE {h:Hd} (nm:Str) (k:Int) (e:aD h=3):∃ t l,rs h=tw t::l/\t∈qN h/\dF nm k h=fc (kW nm t) (yM nm) (ye nm) k:=by
 cases h with
 | ret t=>exact ⟨t,_,rfl,.head _,rfl⟩
 | _=>exact nomatch (show false=true from decide_eq_true e)
def Lh {h:Hd} (nm:Str) (k:Int) (e:aD h=0):∃ x t l,rs h=.str x::tw t::l/\t∈qN h/\dF nm k h=fc (kW nm t) (kC nm x) (lW nm x) k:=by
 cases h with
 | set x t=>exact ⟨x,t,_,rfl,.head _,rfl⟩
 | _=>exact nomatch (show false=true from decide_eq_true e)
def Fp {h:Hd} (nm:Str) (k:Int) (e:aD h=8):∃ x j l,rs h=.str x::.str j::l/\GP h=decide (j=Str.ofString "ahead")/\(j=Str.ofString "ahead" -> dF nm k h=fc [(.none,[])] (kC nm x) (lW nm x) k):=by
 cases h with
 | join x j t=>exact ⟨x,j,_,rfl,rfl,λ e=>if_pos e⟩
 | _=>exact nomatch (show false=true from decide_eq_true e)
def EN {h:Hd} (e:aD h≠8):GP h=false:=by
 cases h with
 | join x j t=>exact absurd rfl e
 | _=>rfl
section
variable {D:Nat->Option Ob} {I d:Nat} {S:ah} {kvs:ν} {EE:ξ}
noncomputable def Fk (I:Nat) (nm:Str) (k:Int) (h:Hd):DS:=[.val (.ref I),.val (.str nm),.val (dM k h),.val (.str (dS (aD h))),.val (.int k)]
def AG (h:LK D S I d kvs (iK EE)) (hl:EE.length+200<=8000) (nm:Str) (k:Int) (hd:Hd) (ht:∀ t∈qN hd,gd t 7 30):∃ S' kvs',fM [.ref I,.str nm,dM k hd] S=some (.ok .none,S')/\LK D S' I d kvs' (iK (EE++dF nm k hd)):=by
 have nl:=ua nm k hd ht
 have cr:∀ t∈qN hd,bC [.str nm,tw t]=some (.list ((kW nm t).map (·.1)))/\(kW nm t).length<=30:=λ t q=>by
  have g:=ht t q
  rw [EO]
  exact ⟨nc nm t (by have:=g.1;omega) (by have:=g.2.1;omega) g.2.2,le_trans (mw nm t) g.2.1⟩
 have p3:aw 3 (Fk I nm k hd)=some (.str (dS (aD hd))):=rfl
 have p2:∀ {r},rs hd=r->aw 2 (Fk I nm k hd)=some (.tuple (.str (dS (aD hd))::.int k::r)):=λ e=>by rw [<-e];rfl
 have sub:∀ c:Prop,[Decidable c]->(if c then dF nm k hd else []).length<=30:=λ c _=>by
  split
  . exact nl
  . simp
 obtain ⟨S1,kvs1,e1,h1⟩:=lB (c:=ab (aG kF (aw 3) (aM (aa (dC (.str "if")) (aa (dC (.str "while")) ag))))) (act:=bw (cJ "Links" "add" aN (ab (af 0)) (ab (aa (aW bC (aa (af 1) (aa (az aT (aw 2) (dC (.int (2)))) ag))) (aa (aM (aa (dC (.str "row")) (aa (af 4) ag))) (aa (af 4) ag)))))) (δ:=Fk I nm k hd) (b:=decide (aD hd=10∨aD hd=11)) (X:=if aD hd=10∨aD hd=11 then dF nm k hd else []) (ao (IS p3 (kM rfl rfl) (ki (aD hd)).2.2.1)) h (λ hb=>by
  have hc:=of_decide_eq_true hb
  obtain ⟨t,l,er,ht,en⟩:=JZ nm k hc
  have c:=cr t ht
  rw [if_pos hc,en]
  exact oj h (kW nm t) (m9 nm t) (by omega) (qQ k) (qD k) k rfl (ao (xU (iu (yO rfl (x2 (p2 er))) c.1) (kM rfl rfl) rfl))) (λ hb=>if_neg (of_decide_eq_false hb))
 have l1:=sub (aD hd=10∨aD hd=11)
 generalize hX1:(if aD hd=10∨aD hd=11 then dF nm k hd else [])=X1 at h1 l1
 obtain ⟨S2,kvs2,e2,h2⟩:=lB (c:=ab (aG c6 (aw 3) (dC (.str "return")))) (act:=bw (cJ "Links" "add" aN (ab (af 0)) (ab (aa (aW bC (aa (af 1) (aa (az aT (aw 2) (dC (.int (2)))) ag))) (aa (aM (aa (dC (.str "back")) (aa (af 1) ag))) (aa (af 4) ag)))))) (δ:=Fk I nm k hd) (b:=decide (aD hd=3)) (X:=if aD hd=3 then dF nm k hd else []) (ao (by rw [tD p3,(kq _).2.2.1])) h1 (λ hb=>by
  have hc:=of_decide_eq_true hb
  obtain ⟨t,l,er,ht,en⟩:=JE nm k hc
  have c:=cr t ht
  rw [if_pos hc,en]
  exact oj h1 (kW nm t) (m9 nm t) (by rw [length_append];omega) (yM nm) (ye nm) k rfl (ao (xU (iu (yO rfl (x2 (p2 er))) c.1) (kM rfl rfl) rfl))) (λ hb=>if_neg (of_decide_eq_false hb))
 have l2:=sub (aD hd=3)
 generalize hX2:(if aD hd=3 then dF nm k hd else [])=X2 at h2 l2
 obtain ⟨S3,kvs3,e3,h3⟩:=lB (c:=ab (aG c6 (aw 3) (dC (.str "set")))) (act:=bw (cJ "Links" "add" aN (ab (af 0)) (ab (aa (aW bC (aa (af 1) (aa (az aT (aw 2) (dC (.int (3)))) ag))) (aa (aM (aa (dC (.str "name")) (aa (af 1) (aa (az aT (aw 2) (dC (.int (2)))) ag)))) (aa (af 4) ag)))))) (δ:=Fk I nm k hd) (b:=decide (aD hd=0)) (X:=if aD hd=0 then dF nm k hd else []) (ao (by rw [tD p3,(kq _).2.2.2.2.1])) h2 (λ hb=>by
  have hc:=of_decide_eq_true hb
  obtain ⟨x,t,l,er,ht,en⟩:=Lh nm k hc
  have c:=cr t ht
  rw [if_pos hc,en]
  exact oj h2 (kW nm t) (m9 nm t) (by simp only [length_append];omega) (kC nm x) (lW nm x) k rfl (ao (xU (iu (yO rfl (x3 (p2 er))) c.1) (BY rfl rfl (x2 (p2 er))) rfl))) (λ hb=>if_neg (of_decide_eq_false hb))
 have l3:=sub (aD hd=0)
 generalize hX3:(if aD hd=0 then dF nm k hd else [])=X3 at h3 l3
 obtain ⟨S4,kvs4,e4,h4⟩:=lB (c:=ab (oi (aG c6 (aw 3) (dC (.str "join"))) (aG c6 (az aT (aw 2) (dC (.int (3)))) (dC (.str "ahead"))))) (act:=bw (cJ "Links" "add" aN (ab (af 0)) (ab (aa (br (bE (aa (dC .none) ag))) (aa (aM (aa (dC (.str "name")) (aa (af 1) (aa (az aT (aw 2) (dC (.int (2)))) ag)))) (aa (af 4) ag)))))) (δ:=Fk I nm k hd) (b:=GP hd) (X:=if GP hd=true then dF nm k hd else []) (ao (by
  have t:=tD (b:=Str.ofString "join") p3
  rw [(kq _).2.2.2.2.2] at t
  by_cases h8:aD hd=8
  . rw [decide_eq_true h8] at t
    obtain ⟨x,j,l,er,ea,_⟩:=Fp nm k h8
    rw [ea]
    exact dA t (tD (x3 (p2 er)))
  . rw [decide_eq_false h8] at t
    rw [EN h8]
    exact Mx t)) h3 (λ hb=>by
  by_cases h8:aD hd=8
  . obtain ⟨x,j,l,er,ea,en⟩:=Fp nm k h8
    rw [if_pos hb,en (of_decide_eq_true (ea.symm.trans hb))]
    exact oj h3 [(.none,[])] (λ p hp=>by rw [mem_singleton.mp hp];rfl) (by simp only [length_append,length_singleton];omega) (kC nm x) (lW nm x) k rfl (ao (xU rfl (BY rfl rfl (x2 (p2 er))) rfl))
  . rw [EN h8] at hb
    cases hb) (λ hb=>if_neg (by rw [hb];exact Bool.false_ne_true))
 refine ⟨S4,kvs4,?_,?_⟩
 . refine (bt rfl).trans ((congrArg fw (?_:_=some (.nx (Fk I nm k hd),S4))).trans rfl)
   refine (ai (δ':=[.val (.ref I),.val (.str nm),.val (dM k hd),.val (.str (dS (aD hd))),.no]) (S':=S) (aR (aK (x0 rfl) rfl))).trans ?_
   refine (ai (δ':=Fk I nm k hd) (S':=S) (aR (aK (x1 rfl) rfl))).trans ?_
   exact (ai e1).trans ((ai e2).trans ((ai e3).trans e4))
 . have e:=IQ nm k hd
   rw [hX1,hX2,hX3] at e
   rw [append_assoc,append_assoc,append_assoc,<-append_assoc X2,<-append_assoc X1,<-append_assoc X1,e] at h4
   exact h4
def zip_map:∀ (ps:Ω) (ts:List Tr),lY (ps.map .str) (ts.map tw)=(ps.zip ts).map λ p=>.tuple [.str p.1,tw p.2]
 | [],_=>by simp [lY]
 | _::_,[]=>by simp [lY]
 | p::ps,t::ts=>by
  have:=zip_map ps ts
  simp [lY] at this ⊢
  exact this
def sX (nm:Str) (k:Int) (f:Str) (s2 s3:Sl):∀ (l:List (Str×Tr)) (S:ah) (kvs:ν) (EE:ξ) (s6 s7:Sl),(∀ p∈l,gd p.2 7 5)->EE.length+5*l.length<=7900->LK D S I d kvs (iK EE)->∃ S' kvs' s6' s7',bx (b8 2 (au (ae 6) (au (ae 7) bB))) jd (l.map λ p=>.tuple [.str p.1,tw p.2]) [.val (.ref I),.val (.str nm),s2,s3,.val (.int k),.val (.str f),s6,s7] S=some (.nx [.val (.ref I),.val (.str nm),s2,s3,.val (.int k),.val (.str f),s6',s7'],S')/\LK D S' I d kvs' (iK (EE++l.flatMap λ p=>fc (kW nm p.2) (kC f p.1) (lW f p.1) k))
 | [],S,kvs,EE,s6,s7,_,_,h=>⟨S,kvs,s6,s7,rfl,by simpa using h⟩
 | p::l,S,kvs,EE,s6,s7,hp,hl,h=>by
  simp only [length_cons] at hl
  have g:=hp p (by simp)
  have c1:=nc nm p.2 (by have:=g.1;omega) (by have:=g.2.1;omega) g.2.2
  rw [<-EO] at c1
  have c2:=le_trans (mw nm p.2) g.2.1
  let δ:DS:=[.val (.ref I),.val (.str nm),s2,s3,.val (.int k),.val (.str f),.val (.str p.1),.val (tw p.2)]
  obtain ⟨S1,kvs1,e1,h1⟩:=oj h (kW nm p.2) (m9 nm p.2) (by omega) (kC f p.1) (lW f p.1) k (fo:=af 0) (fa:=(ab (aa (aW bC (aa (af 1) (aa (af 7) ag))) (aa (aM (aa (dC (.str "name")) (aa (af 5) (aa (af 6) ag)))) (aa (af 4) ag))))) (δ:=δ) rfl (ao (xU (iu rfl c1) (BY rfl rfl rfl) rfl))
  obtain ⟨S',kvs',s6',s7',e2,h2⟩:=sX nm k f s2 s3 l S1 kvs1 _ (.val (.str p.1)) (.val (tw p.2)) (λ q hq=>hp q (by simp [hq])) (by rw [length_append,d6];omega) h1
  exact ⟨S',kvs',s6',s7',(bK (δ2:=δ) rfl e1).trans e2,by simpa using h2⟩
def yo (h:LK D S I d kvs (iK EE)) (hl:EE.length+200<=7900) (nm:Str) (k:Int) (x f:Str) (ts:List Tr) (ps:Ω) (hp:ps.length<=6) (ht:∀ t∈ts,gd t 7 5):∃ S' kvs',fV [.ref I,.str nm,dM k (.call x f ts),.list (ps.map .str)] S=some (.ok .none,S')/\LK D S' I d kvs' (iK (EE++vP nm k ps (.call x f ts))):=by
 let δ:DS:=[.val (.ref I),.val (.str nm),.val (dM k (.call x f ts)),.val (.list (ps.map .str)),.val (.int k),.val (.str f),.no,.no]
 obtain ⟨S1,kvs1,e1,h1⟩:=oj h [(yM f,ye f)] (λ p hp=>by rw [mem_singleton.mp hp];rfl) (by simp only [length_singleton];omega) (kC nm x) (lW nm x) k (fo:=af 0) (fa:=(ab (aa (br (bE (aa (aM (aa (dC (.str "back")) (aa (af 5) ag))) ag))) (aa (aM (aa (dC (.str "name")) (aa (af 1) (aa (az aT (aw 2) (dC (.int (2)))) ag)))) (aa (af 4) ag))))) (δ:=δ) rfl (ao (xU rfl (BY rfl rfl (x2 rfl)) rfl))
 have zl:(ps.zip ts).length<=6:=by rw [List.length_zip];omega
 obtain ⟨S2,kvs2,s6,s7,e2,h2⟩:=sX nm k f (.val (dM k (.call x f ts))) (.val (.list (ps.map .str))) (ps.zip ts) S1 kvs1 _ .no .no (λ p hp=>ht p.2 (of_mem_zip hp).2) (by rw [length_append,d6,length_singleton];omega) h1
 refine ⟨S2,kvs2,?_,by simpa [vP,yT] using h2⟩
 refine (bt rfl).trans ((congrArg fw (?_:_=some (.nx [.val (.ref I),.val (.str nm),.val (dM k (.call x f ts)),.val (.list (ps.map .str)),.val (.int k),.val (.str f),s6,s7],S2))).trans rfl)
 refine (ai (δ':=[.val (.ref I),.val (.str nm),.val (dM k (.call x f ts)),.val (.list (ps.map .str)),.val (.int k),.no,.no,.no]) (S':=S) (aR (aK (x1 rfl) rfl))).trans ?_
 refine (ai (δ':=δ) (S':=S) (aR (aK (x3 rfl) rfl))).trans ?_
 refine (ai e1).trans ((cM (S1:=S1) (ds:=(ps.zip ts).map λ p=>.tuple [.str p.1,tw p.2]) (ao ?_)).trans e2)
 have a4:az aT (aw 2) (dC (.int (4))) δ=some (.list (ts.map tw)):=x4 rfl
 have v3:af 3 δ=some (.list (ps.map .str)):=rfl
 unfold Bz
 rw [yO v3 a4]
 exact congrArg some (zip_map ps ts)
end
structure oq where
 nm:Str
 ps:Ω
 bd:ω
 ln:Int
 la:Int
noncomputable def dW (q:oq):W:=.tuple [.str q.nm,.list (q.ps.map .str),.list (bS q.bd),.int q.ln,.int q.la]
noncomputable def ve:List oq->(Str->List Str)->Str->List Str
 | [],g=>g
 | q::qs,g=>ve qs λ f=>if f=q.nm then q.ps else g f
def rg:∀ (qs:List oq) (g:Str->Ω),(∀ q∈qs,q.ps.length<=6)->(∀ f,(g f).length<=6)->∀ f,(ve qs g f).length<=6
 | [],g,_,hg,f=>hg f
 | q::qs,g,hq,hg,f=>rg qs _ (λ r hr=>hq r (by simp [hr])) (λ f=>by split;exact hq q (by simp);exact hg f) f
noncomputable abbrev Dq:=oq×List It
noncomputable def yK (nm:Str) (k:Int) (pO:Str->List Str):Hd->List (List aA×En)
 | .call x f ts=>vP nm k (pO f) (.call x f ts)
 | _=>[]
noncomputable def fh (nm:Str) (pO:Str->List Str) (i:It):List (List aA×En):=lu nm i.1 i.2.1 i.2.2++(dF nm i.1 i.2.1++yK nm i.1 pO i.2.1)
noncomputable def se (pO:Str->List Str) (q:Dq):List (List aA×En):=fc [(rX q.1.nm,sU q.1.nm)] (yM q.1.nm) (ye q.1.nm) q.1.ln++q.2.flatMap (fh q.1.nm pO)
noncomputable def im (pO:Str->List Str) (qs:List Dq):List (List aA×En):=qs.flatMap (se pO)
noncomputable def Hg (FN:Ω) (wh:Bool) (h:Hd):Prop:=(∀ t∈qN h,gd t 7 30)/\(aD h=4∨aD h=5->wh=true)/\∀ x f ts,h=.call x f ts->f∈FN/\∀ t∈ts,gd t 7 5
def sy (nm:Str) (k:Int) (f:Str):∀ (l:List (Str×Tr)),(∀ p∈l,gd p.2 7 5)->(l.flatMap λ p=>fc (kW nm p.2) (kC f p.1) (lW f p.1) k).length<=5*l.length
 | [],_=>by simp
 | p::l,h=>by
  have:=sy nm k f l λ q hq=>h q (by simp [hq])
  have c:=le_trans (mw nm p.2) (h p (by simp)).2.1
  rw [flatMap_cons,length_append,d6,length_cons]
  omega
def Js {h:Hd} (e:aD h=9):∃ x f ts,h=.call x f ts:=by
 cases h with
 | call x f ts=>exact ⟨_,_,_,rfl⟩
 | _=>exact nomatch (show false=true from decide_eq_true e)
def Kw {h:Hd} {pO:Str->Ω} (nm:Str) (k:Int) (e:aD h≠9):yK nm k pO h=[]:=by
 cases h with
 | call x f ts=>exact absurd rfl e
 | _=>rfl
def pI {FN:Ω} {wh:Bool} (nm:Str) (pO:Str->Ω) (hp:∀ f,(pO f).length<=6) (i:It) (hg:Hg FN wh i.2.1) (ha:i.2.2.length<=6):(fh nm pO i).length<=50:=by
 have n:=ua nm i.1 i.2.1 hg.1
 have T:∀ kw kk,(fc (cV nm i.2.2) kw kk i.1).length<=7:=λ _ _=>by
  rw [d6,nL]
  omega
 have g:(oC nm i.1 i.2.2 (ol i.2.1)).length<=7:=by
  cases ol i.2.1 with
  | some x=>exact T _ _
  | none=>exact zero_le _
 have a:(if aD i.2.1=4∨aD i.2.1=5 then fc (cV nm i.2.2) (qQ (cE i.2.2)) (qD (cE i.2.2)) i.1 else []).length+(if aD i.2.1=3 then fc (cV nm i.2.2) (rX nm) (sU nm) i.1 else []).length<=7:=by
  by_cases c3:aD i.2.1=3
  . rw [if_pos c3,if_neg (by rw [c3];decide)]
    exact le_trans (le_of_eq (Nat.zero_add _)) (T _ _)
  . rw [if_neg c3]
    split
    . exact T _ _
    . exact zero_le _
 unfold fh lu
 simp only [length_append]
 by_cases c9:aD i.2.1=9
 . obtain ⟨x,f,ts,eh⟩:=Js c9
   have c:=sy nm i.1 f ((pO f).zip ts) λ p hp=>(hg.2.2 x f ts eh).2 p.2 (of_mem_zip hp).2
   have l:((pO f).zip ts).length<=6:=by rw [List.length_zip];have:=hp f;omega
   have e1:(EC nm i.1 i.2.2 i.2.1).length<=7:=by rw [eh];exact T _ _
   have e2:(dF nm i.1 i.2.1).length=0:=by rw [eh];rfl
   have e3:(yK nm i.1 pO i.2.1).length=1+((((pO f).zip ts).flatMap λ p=>fc (kW nm p.2) (kC f p.1) (lW f p.1) i.1)).length:=by
    rw [eh]
    exact length_append
   rw [if_neg (by rw [c9];decide:¬(aD i.2.1=4∨aD i.2.1=5)),if_neg (by rw [c9];decide:¬aD i.2.1=3)]
   simp only [length_nil]
   omega
 . rw [Jq nm i.1 i.2.2 c9,Kw nm i.1 c9]
   simp only [length_nil]
   omega
section
variable {D:Nat->Option Ob}
def LK.push {S:ah} {I d:Nat} {kvs E:ν} (h:LK D S I d kvs E) (o:Ob):LK D (S++[o]) I d kvs E:=
 ⟨aS h.hI,aS h.hd,h.hl,h.nn,(λ k v hv=>by obtain ⟨l,e,hl⟩:=h.ss k v hv;exact ⟨l,e,aS hl⟩),h.one,λ m o hm=>⟨aS (h.kp m o hm).1,(h.kp m o hm).2⟩⟩
def LK.setK {S:ah} {I d m:Nat} {kvs E:ν} {a b:List (aA×W)} (h:LK D S I d kvs E) (hm:S[m]?=some (.dK a)) (hD:D m=none):LK D (S.set m (.dK b)) I d kvs E:=
 ⟨set_ne' h.hI (bO hm h.hI (by simp)),set_ne' h.hd (bO hm h.hd (by simp)),h.hl,h.nn,(λ k v hv=>by obtain ⟨l,e,hl⟩:=h.ss k v hv;exact ⟨l,e,set_ne' hl (bO hm hl (by simp))⟩),h.one,λ k o hk=>⟨set_ne' (h.kp k o hk).1 (λ z=>by rw [z,hk] at hD;cases hD),(h.kp k o hk).2⟩⟩
def vT {I d pd:Nat} {kvs E:ν} (hD:D pd=none) (s0 s8 s9:Sl):∀ (qs:List oq) (S:ah) (kv:List (aA×W)) (g:Str->Ω) (seen:Ω) (s3 s4 s5 s6 s7:Sl),LK D S I d kvs E->S[pd]?=some (.dK kv)->(∀ f∈seen,aQ kv (Sum.inr f)=some (.list ((g f).map .str)))->kv.length+qs.length<900->
 ∃ S' kv' s3' s4' s5' s6' s7',bx (b8 5 (au (ae 3) (au (ae 4) (au (ae 5) (au (ae 6) (au (ae 7) bB)))))) gY (qs.map dW) [s0,.val (.ref I),.val (.ref pd),s3,s4,s5,s6,s7,s8,s9] S=some (.nx [s0,.val (.ref I),.val (.ref pd),s3',s4',s5',s6',s7',s8,s9],S')/\LK D S' I d kvs E/\S'[pd]?=some (.dK kv')/\∀ f,f∈seen∨f∈qs.map (·.nm)->aQ kv' (Sum.inr f)=some (.list ((ve qs g f).map .str))
 | [],S,kv,g,seen,s3,s4,s5,s6,s7,h,hp,hs,_=>⟨S,kv,s3,s4,s5,s6,s7,rfl,h,hp,λ f hf=>hs f (hf.resolve_right (by simp))⟩
 | q::qs,S,kv,g,seen,s3,s4,s5,s6,s7,h,hp,hs,hl=>by
  simp only [length_cons] at hl
  have hz:kv.length<sizeLine:=lt_of_lt_of_le (by omega) (sz 900 (by decide))
  have pa:nY (.ref pd) (.str q.nm) (.list (q.ps.map .str)) S=some (S.set pd (.dK (cZ kv (Sum.inr q.nm) (.list (q.ps.map .str))))):=by simp [nY,df,hp,eW,hz]
  have pl:=kK kv (Sum.inr q.nm) (W.list (q.ps.map .str))
  obtain ⟨S',kv',t3,t4,t5,t6,t7,e,h1,h2,h3⟩:=vT hD s0 s8 s9 qs (S.set pd (.dK (cZ kv (Sum.inr q.nm) (.list (q.ps.map .str))))) (cZ kv (Sum.inr q.nm) (.list (q.ps.map .str))) (λ f=>if f=q.nm then q.ps else g f) (q.nm::seen) (.val (.str q.nm)) (.val (.list (q.ps.map .str))) (.val (.list (bS q.bd))) (.val (.int q.ln)) (.val (.int q.la)) (h.setK hp hD) (set_eq' hp) (λ f hf=>by
   rw [xD]
   by_cases hq:f=q.nm
   . simp [hq]
   . have:f∈seen:=(mem_cons.mp hf).resolve_left hq
     simp [hq,hs f this]) (by omega)
  refine ⟨S',kv',t3,t4,t5,t6,t7,(bK (δ2:=[s0,.val (.ref I),.val (.ref pd),.val (.str q.nm),.val (.list (q.ps.map .str)),.val (.list (bS q.bd)),.val (.int q.ln),.val (.int q.la),s8,s9]) (δ':=[s0,.val (.ref I),.val (.ref pd),.val (.str q.nm),.val (.list (q.ps.map .str)),.val (.list (bS q.bd)),.val (.int q.ln),.val (.int q.la),s8,s9]) (S':=S.set pd (.dK (cZ kv (Sum.inr q.nm) (.list (q.ps.map .str))))) rfl ?_).trans e,h1,h2,λ f hf=>h3 f ?_⟩
  . first | rfl | simp! [gY,gS,uS,uD,pa]
  . rcases hf with hf | hf
    . exact .inl (by simp [hf])
    . rw [map_cons] at hf
      rcases mem_cons.mp hf with rfl | hf
      . exact .inl (by simp)
      . exact .inr hf
end
def FT {S:ah} {d:Nat} {kvs:List (aA×W)} {x:Str} (h:S[d]?=some (.dK kvs)):nh (.ref d) (.str x) S=some (aQ kvs (Sum.inr x)):=by simp [nh,df,h,eW]
structure GQ (FN:Ω) (i:It):Prop where
 p:∃ wh,Hg FN wh i.2.1/\(wh=true->∃ b∈i.2.2,gg b=true)
 l:i.2.2.length<=6
section
variable {D:Nat->Option Ob} {I d pd:Nat} {kv:List (aA×W)} {FN:Ω} {pO:Str->Ω}
def xA (hD:D pd=some (.dK kv)) (hv:∀ f∈FN,aQ kv (Sum.inr f)=some (.list ((pO f).map .str))) (hp:∀ f,(pO f).length<=6) (nm:Str) (s0 s4 s5 s6 s7:Sl):∀ (is:List It) (S:ah) (kvs:ν) (EE:ξ) (s8 s9:Sl),(∀ i∈is,GQ FN i)->EE.length+50*is.length<=7500->LK D S I d kvs (iK EE)->
 ∃ S' kvs' s8' s9',bx (b8 2 (au (ae 8) (au (ae 9) bB))) jM (is.map jx) [s0,.val (.ref I),.val (.ref pd),.val (.str nm),s4,s5,s6,s7,s8,s9] S=some (.nx [s0,.val (.ref I),.val (.ref pd),.val (.str nm),s4,s5,s6,s7,s8',s9'],S')/\LK D S' I d kvs' (iK (EE++is.flatMap (fh nm pO)))
 | [],S,kvs,EE,s8,s9,_,_,h=>⟨S,kvs,s8,s9,rfl,by simpa using h⟩
 | i::is,S,kvs,EE,s8,s9,hi,hl,h=>by
  simp only [length_cons] at hl
  obtain ⟨⟨wh,hg,hw⟩,ha⟩:=hi i (by simp)
  have el:=pI nm pO hp i hg ha
  have el':(lu nm i.1 i.2.1 i.2.2).length+((dF nm i.1 i.2.1).length+(yK nm i.1 pO i.2.1).length)<=50:=by simpa only [fh,length_append] using el
  obtain ⟨S1,kvs1,e1,h1⟩:=yS h (by omega) nm i.1 i.2.1 i.2.2 ha λ hc=>hw (hg.2.1 hc)
  obtain ⟨S2,kvs2,e2,h2⟩:=AG h1 (by rw [length_append];omega) nm i.1 i.2.1 hg.1
  have hb2:(EE++lu nm i.1 i.2.1 i.2.2++dF nm i.1 i.2.1).length+200<=7900:=by simp only [length_append];omega
  let δ:DS:=[s0,.val (.ref I),.val (.ref pd),.val (.str nm),s4,s5,s6,s7,.val (dM i.1 i.2.1),.val (.tuple (i.2.2.map dE))]
  have a0:az aT (aw 8) (dC (.int (0))) δ=some (.str (dS (aD i.2.1))):=x0 rfl
  obtain ⟨S3,kvs3,e3,h3⟩:=lB (c:=ab (aG c6 (az aT (aw 8) (dC (.int (0)))) (dC (.str "call")))) (act:=bw (bI fV (bJ (ab (af 1)) (bJ (ab (af 3)) (bJ (ab (af 8)) (bJ (ja (ab (af 2)) (ab (az aT (aw 8) (dC (.int (3)))))) jZ)))))) (δ:=δ) (b:=decide (aD i.2.1=9)) (X:=yK nm i.1 pO i.2.1) (ao (by rw [tD a0,(kq _).2.2.2.1])) h2 (λ hb=>by
   obtain ⟨x,f,ts,eh⟩:=Js (of_decide_eq_true hb)
   obtain ⟨hf,ht⟩:=hg.2.2 x f ts eh
   obtain ⟨S3,kvs3,e3,h3⟩:=yo h2 hb2 nm i.1 x f ts (pO f) (hp f) ht
   have a3:az aT (aw 8) (dC (.int (3))) δ=some (.str f):=x3 (congrArg (λ h=>some (dM i.1 h)) eh)
   have gk:=FT (x:=f) (h2.kp pd _ hD).1
   rw [hv f hf] at gk
   rw [<-eh] at e3
   have ec:yK nm i.1 pO i.2.1=vP nm i.1 (pO f) (.call x f ts):=by rw [eh];rfl
   have g:ja (ab (af 2)) (ab (az aT (aw 8) (dC (.int (3))))) δ S2=some (.ok (.list ((pO f).map .str)),S2):=by
    have v2:ab (af 2) δ S2=some (.ok (.ref pd),S2):=rfl
    simp only [ja,v2,ao a3,aq,gk,bind_some,iq,map_some]
   exact ⟨S3,kvs3,iR (bN (S1:=S2) (ds:=[.ref I,.str nm,dM i.1 i.2.1,.list ((pO f).map .str)]) (bz (S1:=S2) rfl (bz (S1:=S2) rfl (bz (S1:=S2) rfl (bz (S1:=S2) g rfl)))) e3),by rw [ec];exact h3⟩) (λ hb=>Kw nm i.1 (of_decide_eq_false hb))
  have hE:EE++lu nm i.1 i.2.1 i.2.2++dF nm i.1 i.2.1++yK nm i.1 pO i.2.1=EE++fh nm pO i:=by simp [fh]
  rw [hE] at h3
  obtain ⟨S',kvs',s8',s9',e4,h4⟩:=xA hD hv hp nm s0 s4 s5 s6 s7 is S3 kvs3 _ (.val (dM i.1 i.2.1)) (.val (.tuple (i.2.2.map dE))) (λ j hj=>hi j (by simp [hj])) (by rw [length_append];omega) h3
  refine ⟨S',kvs',s8',s9',?_,by simpa using h4⟩
  refine (bK (δ2:=δ) (δ':=δ) (S':=S3) rfl ?_).trans e4
  refine (ai (δ':=δ) (iR (bN (S1:=S) (ds:=[.ref I,.str nm,dM i.1 i.2.1,.tuple (i.2.2.map dE)]) rfl e1))).trans ?_
  exact (ai (δ':=δ) (iR (bN (S1:=S1) (ds:=[.ref I,.str nm,dM i.1 i.2.1]) rfl e2))).trans e3
structure GD (FN:Ω) (q:Dq):Prop where
 pl:aU 8 [.list (bS q.1.bd),.none]=some (.list (q.2.map jx))
 it:∀ i∈q.2,GQ FN i
 ps:q.1.ps.length<=6
noncomputable def cX (qs:List Dq):Nat:=(qs.map λ q=>q.2.length+1).sum
def ot (hp:∀ f,(pO f).length<=6) (nm:Str):∀ (is:List It),(∀ i∈is,GQ FN i)->(is.flatMap (fh nm pO)).length<=50*is.length
 | [],_=>by simp
 | i::is,h=>by
  obtain ⟨⟨wh,hg,_⟩,ha⟩:=h i (by simp)
  have:=pI nm pO hp i hg ha
  have:=ot hp nm is λ j hj=>h j (by simp [hj])
  rw [flatMap_cons,length_append,length_cons]
  omega
def tL (hD:D pd=some (.dK kv)) (hv:∀ f∈FN,aQ kv (Sum.inr f)=some (.list ((pO f).map .str))) (hp:∀ f,(pO f).length<=6) (s0:Sl):∀ (qs:List Dq) (S:ah) (kvs:ν) (EE:ξ) (s3 s4 s5 s6 s7 s8 s9:Sl),(∀ q∈qs,GD FN q)->EE.length+50*cX qs<=7000->LK D S I d kvs (iK EE)->
 ∃ S' kvs' s3' s4' s5' s6' s7' s8' s9',bx (b8 5 (au (ae 3) (au (ae 4) (au (ae 5) (au (ae 6) (au (ae 7) bB)))))) k7 (qs.map λ q=>dW q.1) [s0,.val (.ref I),.val (.ref pd),s3,s4,s5,s6,s7,s8,s9] S=some (.nx [s0,.val (.ref I),.val (.ref pd),s3',s4',s5',s6',s7',s8',s9'],S')/\LK D S' I d kvs' (iK (EE++im pO qs))
 | [],S,kvs,EE,s3,s4,s5,s6,s7,s8,s9,_,_,h=>⟨S,kvs,s3,s4,s5,s6,s7,s8,s9,rfl,by simpa [im] using h⟩
 | q::qs,S,kvs,EE,s3,s4,s5,s6,s7,s8,s9,hq,hl,h=>by
  have g:=hq q (by simp)
  have hc:cX (q::qs)=q.2.length+1+cX qs:=by simp [cX]
  rw [hc] at hl
  have dl:=ot (FN:=FN) hp q.1.nm q.2 g.it
  let δ (s8 s9:Sl):DS:=[s0,.val (.ref I),.val (.ref pd),.val (.str q.1.nm),.val (.list (q.1.ps.map .str)),.val (.list (bS q.1.bd)),.val (.int q.1.ln),.val (.int q.1.la),s8,s9]
  obtain ⟨S1,kvs1,e1,h1⟩:=oj h [(rX q.1.nm,sU q.1.nm)] (λ p hp=>by rw [mem_singleton.mp hp];rfl) (by simp only [length_singleton];omega) (yM q.1.nm) (ye q.1.nm) q.1.ln (fo:=af 1) (fa:=(ab (aa (br (bE (aa (aM (aa (dC (.str "def")) (aa (af 3) ag))) ag))) (aa (aM (aa (dC (.str "back")) (aa (af 3) ag))) (aa (af 6) ag))))) (δ:=δ s8 s9) rfl (ao (xU rfl rfl rfl))
  obtain ⟨S2,kvs2,t8,t9,e2,h2⟩:=xA hD hv hp q.1.nm s0 (.val (.list (q.1.ps.map .str))) (.val (.list (bS q.1.bd))) (.val (.int q.1.ln)) (.val (.int q.1.la)) q.2 S1 kvs1 _ s8 s9 g.it (by rw [length_append,d6,length_singleton];omega) h1
  have hE:EE++fc [(rX q.1.nm,sU q.1.nm)] (yM q.1.nm) (ye q.1.nm) q.1.ln++q.2.flatMap (fh q.1.nm pO)=EE++se pO q:=by simp [se]
  rw [hE] at h2
  obtain ⟨S',kvs',u3,u4,u5,u6,u7,u8,u9,e3,h3⟩:=tL hD hv hp s0 qs S2 kvs2 _ (.val (.str q.1.nm)) (.val (.list (q.1.ps.map .str))) (.val (.list (bS q.1.bd))) (.val (.int q.1.ln)) (.val (.int q.1.la)) t8 t9 (λ r hr=>hq r (by simp [hr])) (by rw [length_append,se,length_append,d6,length_singleton];omega) h2
  refine ⟨S',kvs',u3,u4,u5,u6,u7,u8,u9,?_,by simpa [im] using h3⟩
  rw [map_cons]
  refine (bK (δ2:=δ s8 s9) (δ':=δ t8 t9) (S':=S2) rfl ?_).trans e3
  refine (ai e1).trans ((cM (S1:=S1) (ds:=q.2.map jx) (ao ?_)).trans e2)
  have pl:=g.pl
  first | rfl | simp! [δ,mG,uD,pl]
end
def xM {FN:Ω} (qs:List Dq) (S:ah) (hq:∀ q∈qs,GD FN q) (hf:∀ f∈FN,f∈qs.map (·.1.nm)) (hc:cX qs<=70) (hl:qs.length<=10) {D0:Nat->Option Ob} (hD0:∀ m o,D0 m=some o->S[m]?=some o/\Fz o=true):∃ S' d kvs,jp [.list (qs.map λ q=>dW q.1)] S=some (.ok (.ref S.length),S')/\LK D0 S' S.length d kvs (iK (im (ve (qs.map (·.1)) λ _=>[]) qs)):=by
 let pr:W:=.list (qs.map λ q=>dW q.1)
 have i0:dY [.ref S.length] (S++[.ins (Str.ofString "Links") []])=some (.ok .none,(S++[Ob.ins (Str.ofString "Links") []]++[Ob.dN []]:ah).set S.length (.ins (Str.ofString "Links") [(Str.ofString "behind", .ref (S.length+1))])):=by
  refine (bt rfl).trans ((congrArg fw (?_:_=some (.nx [.val (.ref S.length)],_))).trans rfl)
  exact BM (c:=Str.ofString "Links") (f:=Str.ofString "behind") (fo:=af 0) (fv:=Mf) (δ:=[.val (.ref S.length)]) (S:=S++[.ins (Str.ofString "Links") []]) (S1:=S++[Ob.ins (Str.ofString "Links") []]++[Ob.dN []]) (d:=.ref (S.length+1)) (n:=S.length) (fs:=[]) (by simp [Mf]) rfl (aS (bT _ _)) (by simp)
 let S0:ah:=(S++[Ob.ins (Str.ofString "Links") []]++[Ob.dN []]:ah).set S.length (.ins (Str.ofString "Links") [(Str.ofString "behind", .ref (S.length+1))])
 have h0:LK D0 S0 S.length (S.length+1) [] (iK []):=by
  have g1:(S++[Ob.ins (Str.ofString "Links") []]++[Ob.dN []]:ah)[S.length+1]?=some (.dN []):=by
   have:=bT (S++[Ob.ins (Str.ofString "Links") []]) (Ob.dN [])
   simpa using this
  exact ⟨set_eq' (aS (bT _ _)),set_ne' g1 (by omega),by simp,λ k _=>rfl,(λ k v hv=>by cases hv),(λ k k' l hv=>by cases hv),λ m o hm=>⟨set_ne' (aS (aS (hD0 m o hm).1)) (by have:=(oG (hD0 m o hm).1).1;omega),(hD0 m o hm).2⟩⟩
 obtain ⟨S2,kv,t3,t4,t5,t6,t7,e2,h2,hpd,hv⟩:=vT (pd:=S0.length) (D:=D0) (by cases hq:D0 S0.length with | none=>rfl | some o=>have:=(oG (hD0 _ o hq).1).1;simp [S0] at this;omega) (.val pr) .no .no (qs.map (·.1)) (S0++[.dK []]) [] (λ _=>[]) [] .no .no .no .no .no (h0.push (.dK [])) (bT _ _) (λ f hf=>absurd hf not_mem_nil) (by simp;omega)
 rw [map_map] at e2
 let pO:=ve (qs.map (·.1)) λ _=>[]
 have hp:∀ f,(pO f).length<=6:=rg _ _ (λ q hm=>by obtain ⟨r,hr,rfl⟩:=mem_map.mp hm;exact (hq r hr).ps) (λ f=>by simp)
 let D:Nat->Option Ob:=λ m=>if m=S0.length then some (.dK kv) else D0 m
 have h3:LK D S2 S.length (S.length+1) [] (iK []):=⟨h2.hI,h2.hd,h2.hl,h2.nn,h2.ss,h2.one,λ m o hm=>by
  by_cases e:m=S0.length
  . subst e
    simp [D] at hm
    rw [<-hm]
    exact ⟨hpd,rfl⟩
  . simp [D,e] at hm
    exact h2.kp m o hm⟩
 obtain ⟨S4,kvs4,u3,u4,u5,u6,u7,u8,u9,e4,h4⟩:=tL (pd:=S0.length) (kv:=kv) (FN:=FN) (pO:=pO) (by simp [D]) (λ f hf'=>hv f (.inr (by simpa [map_map,Function.comp_def] using hf f hf'))) hp (.val pr) qs S2 [] [] t3 t4 t5 t6 t7 .no .no hq (by simp;omega) h3
 have h5:LK D0 S4 S.length (S.length+1) kvs4 (iK (im pO qs)):=by
  have h4:LK D S4 S.length (S.length+1) kvs4 (iK (im pO qs)):=by simpa using h4
  exact ⟨h4.hI,h4.hd,h4.hl,h4.nn,h4.ss,h4.one,λ m o hm=>h4.kp m o (by
   have:m≠S0.length:=λ z=>by have:=(oG (hD0 m o hm).1).1;simp [S0] at z;omega
   simp [D,this,hm])⟩
 refine ⟨S4,S.length+1,kvs4,?_,h5⟩
 refine (bt rfl).trans ((congrArg fw (?_:_=some (.rt (.ref S.length),S4))).trans rfl)
 refine (ai (δ':=[.val pr,.val (.ref S.length),.no,.no,.no,.no,.no,.no,.no,.no]) (S':=S0) (bf (AX (S1:=S) (ds:=[]) rfl i0) rfl)).trans ?_
 refine (ai (δ':=[.val pr,.val (.ref S.length),.val (.ref S0.length),.no,.no,.no,.no,.no,.no,.no]) (S':=S0++[.dK []]) (bf rfl rfl)).trans ?_
 refine (ai ((cM (S1:=S0++[.dK []]) (ds:=qs.map λ q=>dW q.1) (by first | rfl | simp! [pr,uS,uD])).trans e2)).trans ?_
 refine (ai ((cM (S1:=S2) (ds:=qs.map λ q=>dW q.1) (by first | rfl | simp! [pr,uS,uD])).trans e4)).trans ?_
 first | rfl | simp! [uS,uD]
def xB {fo:μ} {δ:DS} {S:ah} {l:Nat} {q:List W} {y:W} (h1:fo δ=some (.ref l)) (h2:S[l]?=some (.lst (q++[y]))):Ax (ab fo) δ S=some (.ok y,S.set l (.lst q)):=by
 simp [Ax,ab,h1,aq,fg h2]
def C0 {fo fk fx:ζ} {δ:DS} {S S3:ah} {d:Nat} {kvs:ν} {y z:W} {k:List aA} (h1:fo δ S=some (.ok (.ref d),S)) (hd:S[d]?=some (.dN kvs)) (h2:fk δ S=some (.ok y,S)) (h3:fx δ S=some (.ok z,S3)) (hd3:S3[d]?=some (.dN kvs)) (hk:dU y=some k):mE fo fk fx δ S=some (.ok ((aQ kvs k).getD z),S3):=by
 have a1:jX (.ref d) S=some (d,kvs):=by simp [jX,df,hd]
 have a3:jX (.ref d) S3=some (d,kvs):=by simp [jX,df,hd3]
 simp only [mE,h1,aq,a1,isSome_some,if_true,h2,h3,a3,bind_some,hk]
def MC {c:DS->ah->SM Bool} {b:τ} {n:Nat} {δ δ':DS} {S S1 S2:ah} (h1:c δ S=some (.ok true,S1)) (h2:b δ S1=some (.nx δ',S2)):cY c b (n+1) δ S=cY c b n δ' S2:=by
 show iV _ _=_
 rw [h1]
 show (match b δ S1 with | some (.nx δ',S')=>_ | some (.ct δ',S')=>_ | some (.bk δ',S')=>_ | some (.rt d,S')=>_ | some (.xc x,S')=>_ | none=>_)=_
 rw [h2]
def MB {c:DS->ah->SM Bool} {b:τ} {n:Nat} {δ:DS} {S S1:ah} (h1:c δ S=some (.ok false,S1)):cY c b (n+1) δ S=some (.nx δ,S1):=by
 show iV _ _=_
 rw [h1]
 rfl
def nP {n:Nat×Bool} {h:η} {fb:τ} {es:List W} {J:Nat->DS->ah->Prop} (look:∀ i δ S,J i δ S->fZ S n=some es)
 (step:∀ i x δ S,es[i]?=some x->J i δ S->∃ δ2 δ' S',h x δ=some δ2/\fb δ2 S=some (.nx δ',S')/\J (i+1) δ' S'):∀ (m i:Nat) (δ:DS) (S:ah),es.length-i<m->i<=es.length->J i δ S->∃ δ' S',gq n h fb m i δ S=some (.nx δ',S')/\J es.length δ' S'
 | 0,i,δ,S,hm,_,_=>by omega
 | m+1,i,δ,S,hm,hi,hj=>by
  have hl:=look i δ S hj
  by_cases hlt:i<es.length
  . obtain ⟨δ2,δ',S',e1,e2,j2⟩:=step i es[i] δ S (getElem?_eq_getElem hlt) hj
    obtain ⟨δ3,S3,e3,j3⟩:=nP look step m (i+1) δ' S' (by omega) (by omega) j2
    refine ⟨δ3,S3,?_,j3⟩
    show (fZ S n).bind _=_
    rw [hl]
    show (match es[i]? with | none=>_ | some d=>_)=_
    rw [getElem?_eq_getElem hlt]
    show (h es[i] δ).bind _=_
    rw [e1]
    show (match fb δ2 S with | some (.nx δ',S')=>_ | some (.ct δ',S')=>_ | some (.bk δ',S')=>_ | some (.rt d,S')=>_ | some (.xc c,S')=>_ | none=>_)=_
    rw [e2]
    exact e3
  . have:i=es.length:=by omega
    subst this
    refine ⟨δ,S,?_,hj⟩
    show (fZ S n).bind _=_
    rw [hl]
    show (match es[es.length]? with | none=>_ | some d=>_)=_
    rw [getElem?_eq_none (le_refl _)]
structure MK (D0:Nat->Option Ob) (S:ah) (I d f q:Nat) (kvs E:ν) (F:ν) (D:List W):Prop where
 lk:LK D0 S I d kvs E
 hf:S[f]?=some (.dT F)
 nf:D0 f=none
 hq:S[q]?=some (.lst D)
 nq:∀ k l,aQ kvs k=some (.ref l)->l≠q
section
variable {D0:Nat->Option Ob} {S:ah} {I d f q:Nat} {kvs E F:ν} {D:List W}
def MK.put (h:MK D0 S I d f q kvs E F D) (F':ν):MK D0 (S.set f (.dT F')) I d f q kvs E F' D:=
 ⟨⟨set_ne' h.lk.hI (bO h.hf h.lk.hI (by simp)),set_ne' h.lk.hd (bO h.hf h.lk.hd (by simp)),h.lk.hl,h.lk.nn,(λ k v hv=>by obtain ⟨l,e,hl⟩:=h.lk.ss k v hv;exact ⟨l,e,set_ne' hl (bO h.hf hl (by simp))⟩),h.lk.one,λ m o hm=>⟨set_ne' (h.lk.kp m o hm).1 (λ z=>by have:=h.nf;rw [z,hm] at this;cases this),(h.lk.kp m o hm).2⟩⟩,set_eq' h.hf,h.nf,set_ne' h.hq (bO h.hf h.hq (by simp)),h.nq⟩
def MK.due (h:MK D0 S I d f q kvs E F D) (D':List W):MK D0 (S.set q (.lst D')) I d f q kvs E F D':=
 ⟨⟨set_ne' h.lk.hI (bO h.hq h.lk.hI (by simp)),set_ne' h.lk.hd (bO h.hq h.lk.hd (by simp)),h.lk.hl,h.lk.nn,(λ k v hv=>by obtain ⟨l,rfl,hl⟩:=h.lk.ss k v hv;exact ⟨l,rfl,set_ne' hl (Ne.symm (h.nq k l hv))⟩),h.lk.one,λ m o hm=>⟨set_ne' (h.lk.kp m o hm).1 (bO h.hq (h.lk.kp m o hm).1 (λ z=>by have:=(h.lk.kp m o hm).2;rw [<-z] at this;cases this)),(h.lk.kp m o hm).2⟩⟩,set_ne' h.hf (bO h.hq h.hf (by simp)),h.nf,set_eq' h.hq,h.nq⟩
def MK.push (h:MK D0 S I d f q kvs E F D) (o:Ob):MK D0 (S++[o]) I d f q kvs E F D:=⟨h.lk.push o,aS h.hf,h.nf,aS h.hq,h.nq⟩
def uu {S:ah} {d:Nat} {kvs:ν} {x:W} {ks:List aA} (h:S[d]?=some (.dT kvs)) (hk:eC x=some ks):nh (.ref d) x S=some (aQ kvs ks):=by simp [nh,df,h,hk]
def CC (h:MK D0 S I d f q kvs E F D) (s0:Sl) (c kw ln:W) (kk:List aA) (hk:eC kw=some kk) (hF:F.length<8000) (hD:D.length<8000):
 ∃ S',iS [s0,.val (.ref I),.val (.ref f),.val (.ref q),.val c,.val kw,.val ln] S=some (.nx [s0,.val (.ref I),.val (.ref f),.val (.ref q),.val c,.val kw,.val ln],S')/\MK D0 S' I d f q kvs E (if aQ F kk=none then F++[(kk,.tuple [ln,c])] else F) (if aQ F kk=none then D++[kw] else D)/\∀ m x,m≠q->S[m]?=some (.lst x)->S'[m]?=some (.lst x):=by
 have z2:=sz 2 (by decide)
 have gk:nh (.ref f) kw S=some (aQ F kk):=uu h.hf hk
 cases hv:aQ F kk with
 | some v=>
  refine ⟨S,?_,by simpa using h,λ _ _ _ hm=>hm⟩
  refine (bP (S1:=S) ?_).trans rfl
  first | rfl | simp! [k8,uS,uD,gk,hv,isSome_some]
 | none=>
  have hz:F.length<sizeLine:=lt_of_lt_of_le hF (sz 8000 (by decide))
  have pa:nY (.ref f) kw (.tuple [ln,c]) S=some (S.set f (.dT (F++[(kk,.tuple [ln,c])]))):=by
   rw [<-lc (.tuple [ln,c]) hv]
   simp [nY,df,h.hf,hk,hz]
  have h1:=h.put (F++[(kk,.tuple [ln,c])])
  refine ⟨(S.set f (.dT (F++[(kk,.tuple [ln,c])]))).set q (.lst (D++[kw])),?_,by simpa using h1.due (D++[kw]),λ m x hmq hm=>set_ne' (set_ne' hm (bO h.hf hm (by simp))) (Ne.symm hmq)⟩
  refine (dZ (S1:=S) (by first | rfl | simp! [k8,uS,uD,gk,hv,Option.isSome_none])).trans ?_
  refine (ai (δ':=[s0,.val (.ref I),.val (.ref f),.val (.ref q),.val c,.val kw,.val ln]) (S':=S.set f (.dT (F++[(kk,.tuple [ln,c])]))) ?_).trans ?_
  . first | rfl | simp! [gS,uS,uD,if_pos z2,pa]
  . exact dD rfl h1.hq rfl (by omega)
end
noncomputable def eE (c:W) (st:List (List aA×W)×List W) (e:En):List (List aA×W)×List W:=(if aQ st.1 e.2.1=none then st.1++[(e.2.1,.tuple [e.2.2,c])] else st.1,if aQ st.1 e.2.1=none then st.2++[e.1] else st.2)
def Da (c:W) (st:ν×List W) (e:En):(eE c st e).1.length<=st.1.length+1/\(eE c st e).2.length<=st.2.length+1:=by
 unfold eE
 by_cases h:aQ st.1 e.2.1=none <;> simp [h]
def tz (c:W):∀ (es:List En) (st:ν×List W),(es.foldl (eE c) st).1.length<=st.1.length+es.length/\(es.foldl (eE c) st).2.length<=st.2.length+es.length
 | [],st=>by simp
 | e::es,st=>by
  have h1:=Da c st e
  have h2:=tz c es (eE c st e)
  simp only [foldl_cons,length_cons]
  omega
section
variable {D0:Nat->Option Ob} {I d f q:Nat} {kvs E:ν} {c:W} {s0:Sl}
def Dl (l:Nat) (es:List En) (hk:∀ e∈es,eC e.1=some e.2.1) {S:ah} {F:ν} {D:List W} (h:MK D0 S I d f q kvs E F D) (hlq:l≠q) (hl:S[l]?=some (.lst (es.map F8))) (hF:F.length+es.length<8000) (hD:D.length+es.length<8000) (s5 s6:Sl):
 ∃ S' s5' s6',gq (l,false) (b8 2 (au (ae 5) (au (ae 6) bB))) iS 9000 0 [s0,.val (.ref I),.val (.ref f),.val (.ref q),.val c,s5,s6] S=some (.nx [s0,.val (.ref I),.val (.ref f),.val (.ref q),.val c,s5',s6'],S')/\MK D0 S' I d f q kvs E (es.foldl (eE c) (F,D)).1 (es.foldl (eE c) (F,D)).2:=by
 let J:Nat->DS->ah->Prop:=λ i δ S=>∃ s5 s6,δ=[s0,.val (.ref I),.val (.ref f),.val (.ref q),.val c,s5,s6]/\MK D0 S I d f q kvs E ((es.take i).foldl (eE c) (F,D)).1 ((es.take i).foldl (eE c) (F,D)).2/\S[l]?=some (.lst (es.map F8))
 have look:∀ i δ S,J i δ S->fZ S (l,false)=some (es.map F8):=λ i δ S hj=>by
  obtain ⟨_,_,_,_,h3⟩:=hj
  exact xp h3
 have step:∀ i x δ S,(es.map F8)[i]?=some x->J i δ S->∃ δ2 δ' S',(b8 2 (au (ae 5) (au (ae 6) bB))) x δ=some δ2/\iS δ2 S=some (.nx δ',S')/\J (i+1) δ' S':=by
  rintro i x δ S hx ⟨t5,t6,rfl,hm,h3⟩
  rw [getElem?_map] at hx
  obtain ⟨e,he,rfl⟩:=oM hx
  have hi:i<es.length:=(oG he).1
  have fl:=tz c (es.take i) (F,D)
  have tl:(es.take i).length<=i:=by simp;omega
  obtain ⟨S',e1,m1,keep⟩:=CC hm s0 c e.1 e.2.2 e.2.1 (hk e (mem_of_getElem? he)) (by simp at fl;omega) (by simp at fl;omega)
  have tk:(es.take (i+1)).foldl (eE c) (F,D)=eE c ((es.take i).foldl (eE c) (F,D)) e:=by
   rw [List.take_succ,he]
   simp
  refine ⟨[s0,.val (.ref I),.val (.ref f),.val (.ref q),.val c,.val e.1,.val e.2.2],_,S',rfl,e1,_,_,rfl,by rw [tk];exact m1,keep l _ hlq h3⟩
 obtain ⟨δ',S',e,t5,t6,rfl,hm,_⟩:=nP look step 9000 0 _ S (by simp;omega) (by simp) ⟨s5,s6,rfl,by simpa using h,hl⟩
 exact ⟨S',t5,t6,e,by simpa using hm⟩
end
noncomputable def ip (EE:ξ) (k:List aA):List En:=(EE.filter λ e=>decide (e.1=k)).map (·.2)
def qe:∀ (EE:ξ) (k:List aA),nU (iK EE) k=(ip EE k).map F8
 | [],k=>rfl
 | e::EE,k=>by
  have ih:=qe EE k
  unfold nU iK ip at ih ⊢
  by_cases h:e.1=k
  . simp [h] at ih ⊢
    exact ih
  . simp [h] at ih ⊢
    exact ih
def kg {EE:ξ} {k:List aA} {e:En} (h:e∈ip EE k):(k,e)∈EE:=by
 obtain ⟨x,hx,rfl⟩:=mem_map.mp h
 obtain ⟨h1,h2⟩:=mem_filter.mp hx
 have:x.1=k:=by simpa using h2
 rw [<-this]
 exact h1
def As (EE:ξ) (k:List aA):(ip EE k).length<=EE.length:=by
 unfold ip
 rw [length_map]
 exact length_filter_le _ _
noncomputable def rem (EE:ξ) (F:ν):Nat:=(EE.filter λ e=>(aQ F e.2.2.1).isNone).length
def y3 {α:Type} (p q:α->Bool) (l:List α) (h:∀ x,q x=true->p x=true):(l.filter q).length<=(l.filter p).length:=by
 induction l with
 | nil=>simp
 | cons x l ih=>
  by_cases hq:q x=true
  . simp [hq,h x hq];exact ih
  . by_cases hp:p x=true <;> simp [hq,hp] <;> omega
def filter_lt' {α:Type} (p q:α->Bool) (l:List α) (y:α) (h:∀ x,q x=true->p x=true) (hy:y∈l) (h1:p y=true) (h2:q y=false):(l.filter q).length+1<=(l.filter p).length:=by
 induction l with
 | nil=>exact absurd hy not_mem_nil
 | cons x l ih=>
  rcases mem_cons.mp hy with rfl | hy
  . have:=y3 p q l h
    simp [h1,h2];omega
  . have ih:=ih hy
    by_cases hq:q x=true
    . simp [hq,h x hq];omega
    . by_cases hp:p x=true <;> simp [hq,hp] <;> omega
def Aj {EE:ξ} {F:ν} {D:List W} {c:W} {k:List aA} (e:En) (he:(k,e)∈EE):2*rem EE (eE c (F,D) e).1+(eE c (F,D) e).2.length<=2*rem EE F+D.length/\(eE c (F,D) e).1.length+rem EE (eE c (F,D) e).1<=F.length+rem EE F/\(D.length<=F.length+1->(eE c (F,D) e).2.length<=(eE c (F,D) e).1.length+1):=by
 unfold eE
 by_cases hv:aQ F e.2.1=none
 . simp only [hv,if_true]
   have:rem EE (F++[(e.2.1,W.tuple [e.2.2,c])])+1<=rem EE F:=by
    refine filter_lt' _ _ EE (k,e) (λ x hx=>?_) he (by simp [hv]) (by simp [fL F e.2.1 e.2.1 _ hv])
    rw [fL F e.2.1 x.2.2.1 _ hv] at hx
    by_cases hq:x.2.2.1=e.2.1
    . simp [hq] at hx
    . simpa [hq] using hx
   simp
   omega
 . simp only [hv,if_false]
   exact ⟨le_refl _,le_refl _,id⟩
def rZ {EE:ξ} {c:W} {k:List aA}:∀ (es:List En) (F:ν) (D:List W),(∀ e∈es,(k,e)∈EE)->2*rem EE (es.foldl (eE c) (F,D)).1+(es.foldl (eE c) (F,D)).2.length<=2*rem EE F+D.length/\(es.foldl (eE c) (F,D)).1.length+rem EE (es.foldl (eE c) (F,D)).1<=F.length+rem EE F/\(D.length<=F.length+1->(es.foldl (eE c) (F,D)).2.length<=(es.foldl (eE c) (F,D)).1.length+1)
 | [],F,D,_=>⟨le_refl _,le_refl _,id⟩
 | e::es,F,D,he=>by
  obtain ⟨a1,a2,a3⟩:=Aj (c:=c) (F:=F) (D:=D) e (he e (by simp))
  obtain ⟨b1,b2,b3⟩:=rZ (c:=c) es (eE c (F,D) e).1 (eE c (F,D) e).2 λ x hx=>he x (by simp [hx])
  exact ⟨le_trans b1 a1,le_trans b2 a2,λ h=>b3 (a3 h)⟩
noncomputable def DK (D:List W):Prop:=∀ c∈D,∃ k,dU c=some k
def wd {EE:ξ} (hw:∀ e∈EE,dU e.2.1=some e.2.2.1) {c:W} {k:List aA}:∀ (es:List En) (F:ν) (D:List W),(∀ e∈es,(k,e)∈EE)->DK D->DK (es.foldl (eE c) (F,D)).2
 | [],F,D,_,h=>h
 | e::es,F,D,he,h=>by
  refine wd hw es (eE c (F,D) e).1 (eE c (F,D) e).2 (λ x hx=>he x (by simp [hx])) ?_
  unfold eE
  by_cases hv:aQ F e.2.1=none
  . simp only [hv,if_true]
    intro x hx
    rcases mem_append.mp hx with hx | hx
    . exact h x hx
    . rw [mem_singleton.mp hx]
      exact ⟨_,hw _ (he e (by simp))⟩
  . simp only [hv,if_false]
    exact h
noncomputable def DU (EE:ξ):Nat->List (List aA×W)->List W->List (List aA×W)
 | 0,F,_=>F
 | n+1,F,D=>match D.getLast? with
  | none=>F
  | some c=>DU EE n ((ip EE ((dU c).getD [])).foldl (eE c) (F,D.dropLast)).1 ((ip EE ((dU c).getD [])).foldl (eE c) (F,D.dropLast)).2
section
variable {D0:Nat->Option Ob} {I d f q:Nat} {kvs:ν} {EE:ξ} {s0:Sl}
def zc (hk:∀ e∈EE,eC e.2.1=some e.2.2.1) (c:W) (k:List aA) (hc:dU c=some k) {S:ah} {F:ν} {D:List W} (h:MK D0 S I d f q kvs (iK EE) F (D++[c])) (hF:F.length+EE.length<8000) (hD:D.length+EE.length<8000) (s4 s5 s6:Sl):
 ∃ S' s5' s6',kT [s0,.val (.ref I),.val (.ref f),.val (.ref q),s4,s5,s6] S=some (.nx [s0,.val (.ref I),.val (.ref f),.val (.ref q),.val c,s5',s6'],S')/\MK D0 S' I d f q kvs (iK EE) ((ip EE k).foldl (eE c) (F,D)).1 ((ip EE k).foldl (eE c) (F,D)).2:=by
 have z0:=sz 0 (by decide)
 have h1:=h.due D
 let S1:ah:=S.set q (.lst D)
 have h2:=h1.push (.lst [])
 have el:=As EE k
 let δ:DS:=[s0,.val (.ref I),.val (.ref f),.val (.ref q),.val c,s5,s6]
 have hI1:S1[I]?=some (.ins (Str.ofString "Links") [(Str.ofString "behind", .ref d)]):=h1.lk.hI
 have f1:n8 "Links" "behind" (ab (af 1)) δ S1=some (.ok (.ref d),S1):=by first | rfl | simp! [δ,uS,uD,Lm hI1,Fq]
 have f3:d9 (ab ag) δ S1=some (.ok (.ref S1.length),S1++[.lst []]):=by first | rfl | simp! [δ,uS,uD,if_pos z0]
 have gn:=C0 (fk:=ab (af 4)) f1 h1.lk.hd rfl f3 h2.lk.hd hc
 have hq1:q<S1.length:=(oG h1.hq).1
 have key:∃ l,(aQ kvs k).getD (.ref S1.length)=.ref l/\l≠q/\(S1++[Ob.lst []]:ah)[l]?=some (.lst ((ip EE k).map F8)):=by
  cases hv:aQ kvs k with
  | some v=>
   obtain ⟨l,rfl,hl⟩:=h2.lk.ss k v hv
   exact ⟨l,rfl,h.nq k l hv,by rw [<-qe];exact hl⟩
  | none=>
   have e0:=h.lk.nn k hv
   rw [qe] at e0
   exact ⟨S1.length,rfl,by omega,by rw [e0];exact bT _ _⟩
 obtain ⟨l,el1,hlq,hll⟩:=key
 rw [el1] at gn
 obtain ⟨S',t5,t6,e1,m1⟩:=Dl (c:=c) (s0:=s0) l (ip EE k) (λ e he=>hk _ (kg he)) h2 hlq hll (by omega) (by omega) s5 s6
 refine ⟨S',t5,t6,?_,m1⟩
 refine (ai (δ':=δ) (S':=S1) (bf (xB rfl h.hq) rfl)).trans ?_
 have li:iB (mE (n8 "Links" "behind" (ab (af 1))) (ab (af 4)) (d9 (ab ag))) δ S1=some (.ok (l,false),S1++[.lst []]):=by
  simp only [iB,gn,aq,fg hll,map_some]
 show iV _ _=_
 rw [li]
 exact e1
def pP (hk:∀ e∈EE,eC e.2.1=some e.2.2.1) (hw:∀ e∈EE,dU e.2.1=some e.2.2.1) (hE:EE.length<3900):∀ (n:Nat) (F:ν) (D:List W) (S:ah) (s4 s5 s6:Sl),2*rem EE F+D.length<n->F.length+rem EE F<=EE.length->D.length<=F.length+1->MK D0 S I d f q kvs (iK EE) F D->DK D->
 ∃ S' s4' s5' s6',cY (tS (ab (af 3))) kT n [s0,.val (.ref I),.val (.ref f),.val (.ref q),s4,s5,s6] S=some (.nx [s0,.val (.ref I),.val (.ref f),.val (.ref q),s4',s5',s6'],S')/\S'[f]?=some (.dT (DU EE n F D))/\∀ m o,D0 m=some o->S'[m]?=some o
 | 0,F,D,S,s4,s5,s6,hn,_,_,_,_=>absurd hn (not_lt_zero _)
 | n+1,F,D,S,s4,s5,s6,hn,h1,h2,hm,hp=>by
  rcases List.eq_nil_or_concat D with rfl | ⟨D,c,rfl⟩
  . exact ⟨S,s4,s5,s6,MB (by simp! [tS,uS,uD,fg hm.hq];rfl),hm.hf,λ m o z=>(hm.lk.kp m o z).1⟩
  . rw [List.concat_eq_append] at hn h2 hm hp ⊢
    obtain ⟨k,hck⟩:=hp c (by simp)
    have hd:D.length<=F.length:=by simp at h2;omega
    obtain ⟨S1,t5,t6,e1,m1⟩:=zc (s0:=s0) hk c k hck hm (by omega) (by omega) s4 s5 s6
    obtain ⟨r1,r2,r3⟩:=rZ (EE:=EE) (c:=c) (k:=k) (ip EE k) F D λ e he=>kg he
    obtain ⟨S',u4,u5,u6,e2,z1,z2⟩:=pP hk hw hE n _ _ S1 (.val c) t5 t6 (by simp at hn;omega) (by omega) (r3 (by omega)) m1 (wd hw _ F D (λ e he=>kg he) λ x hx=>hp x (by simp [hx]))
    refine ⟨S',u4,u5,u6,?_,?_,z2⟩
    . refine (MC ?_ e1).trans e2
      have hq:=hm.hq
      simp! [tS,uS,uD,fg hq]
      cases D <;> rfl
    . rw [z1]
      show _=some (Ob.dT (match (D++[c]).getLast? with | none=>_ | some c=>_))
      rw [List.getLast?_concat]
      simp only [hck,getD_some,List.dropLast_concat]
end
noncomputable def Ek (L:ξ):Prop:=∀ e∈L,eC e.2.1=some e.2.2.1/\dU e.2.1=some e.2.2.1
def Ek.nil:Ek []:=λ e h=>absurd h not_mem_nil
def Ek.app {a b:ξ} (h:Ek a) (h':Ek b):Ek (a++b):=λ e he=>(mem_append.mp he).elim (h e) (h' e)
def Ek.to {kc:List (W×List aA)} {kw:W} {kk:List aA} {ln:Int} (h:eC kw=some kk) (h':dU kw=some kk):Ek (fc kc kw kk ln):=λ e he=>by
 obtain ⟨c,_,rfl⟩:=mem_map.mp he
 exact ⟨h,h'⟩
def Ek.flat {α:Type} {f:α->ξ} {l:List α} (h:∀ x∈l,Ek (f x)):Ek (l.flatMap f):=λ e he=>by
 obtain ⟨x,hx,hm⟩:=mem_flatMap.mp he
 exact h x hx e hm
def Ek.ite {p:Prop} [Decidable p] {a:ξ} (h:Ek a):Ek (if p then a else []):=by
 split
 . exact h
 . exact .nil
def HD (nm:Str) (k:Int) (h:Hd) (ar:ω):Ek (lu nm k h ar):=by
 refine .app ?_ (.app (.ite (.to rfl rfl)) (.app (.ite (.to rfl rfl)) ?_))
 . cases ol h with
   | none=>exact .nil
   | some x=>exact .to rfl rfl
 . cases h with
   | call x f ts=>exact .to rfl rfl
   | _=>exact .nil
def GW (nm:Str) (k:Int) (h:Hd):Ek (dF nm k h):=by
 cases h with
 | ifs t l=>exact .to rfl rfl
 | whl t l=>exact .to rfl rfl
 | ret t=>exact .to rfl rfl
 | set x t=>exact .to rfl rfl
 | join x j t=>exact .ite (.to rfl rfl)
 | _=>exact .nil
def GY (pO:Str->Ω) (qs:List Dq):Ek (im pO qs):=.flat λ q _=>.app (.to rfl rfl) (.flat λ i _=>.app (HD _ _ _ _) (.app (GW _ _ _) (by
 cases i.2.1 with
 | call x f ts=>exact .app (.to rfl rfl) (.flat λ p _=>.to rfl rfl)
 | _=>exact .nil)))
def BH {FN:Ω} {pO:Str->Ω} (hp:∀ f,(pO f).length<=6) (qs:List Dq) (h:∀ q∈qs,GD FN q):(im pO qs).length<=50*cX qs:=by
 induction qs with
 | nil=>simp [im]
 | cons q qs ih=>
  have i1:=ih λ r hr=>h r (by simp [hr])
  have i2:=ot hp q.1.nm q.2 (h q (by simp)).it
  have hc:cX (q::qs)=q.2.length+1+cX qs:=by simp [cX]
  rw [hc]
  show ((se pO q)++im pO qs).length<=_
  rw [length_append]
  show (fc [(rX q.1.nm,sU q.1.nm)] (yM q.1.nm) (ye q.1.nm) q.1.ln++q.2.flatMap (fh q.1.nm pO)).length+_<=_
  rw [length_append,d6]
  simp only [length_cons,length_nil]
  omega
noncomputable def FF (qs:List Dq):List (List aA×W):=DU (im (ve (qs.map (·.1)) λ _=>[]) qs) 1000000 [] [.none]
def IP (EE:ξ) (F:ν):rem EE F<=EE.length:=length_filter_le _ _
def lg {FN:Ω} (qs:List Dq) (S:ah) (hq:∀ q∈qs,GD FN q) (hf:∀ f∈FN,f∈qs.map (·.1.nm)) (hc:cX qs<=70) (hl:qs.length<=10) {D0:Nat->Option Ob} (hD0:∀ m o,D0 m=some o->S[m]?=some o/\Fz o=true):∃ S' f,jG [.list (qs.map λ q=>dW q.1)] S=some (.ok (.ref f),S')/\S'[f]?=some (.dT (FF qs))/\S.length<=f/\∀ m o,D0 m=some o->S'[m]?=some o:=by
 have z1:=sz 1 (by decide)
 obtain ⟨S1,d,kvs,e1,lk⟩:=xM qs S hq hf hc hl hD0
 let pr:W:=.list (qs.map λ q=>dW q.1)
 let EE:=im (ve (qs.map (·.1)) λ _=>[]) qs
 have hp:∀ f,(ve (qs.map (·.1)) (λ _=>[]) f).length<=6:=rg _ _ (λ q hm=>by obtain ⟨r,hr,rfl⟩:=mem_map.mp hm;exact (hq r hr).ps) (λ f=>by simp)
 have hE:EE.length<=3500:=le_trans (BH hp qs hq) (by omega)
 have ek:=GY (ve (qs.map (·.1)) λ _=>[]) qs
 have sl:S.length<S1.length:=(oG lk.hI).1
 let S2:ah:=S1++[.dT []]
 let S3:ah:=S2++[.lst [.none]]
 have nf:D0 S1.length=none:=by
  cases hz:D0 S1.length with
  | none=>rfl
  | some o=>exact absurd (oG (lk.kp _ o hz).1).1 (lt_irrefl _)
 have mk:MK D0 S3 S.length d S1.length S2.length kvs (iK EE) [] [.none]:=⟨(lk.push (.dT [])).push (.lst [.none]),aS (bT _ _),nf,bT _ _,λ k l hv=>by
  obtain ⟨l',e,hl'⟩:=lk.ss k _ hv
  cases e
  have:=(oG hl').1
  simp [S2]
  omega⟩
 have rl:=IP EE []
 obtain ⟨S',s4,s5,s6,e2,h1,h2⟩:=pP (EE:=EE) (s0:=.val pr) (λ e he=>(ek e he).1) (λ e he=>(ek e he).2) (by omega) 1000000 [] [.none] S3 .no .no .no (by simp only [length_cons,length_nil];omega) (by simpa using rl) (by simp) mk (λ c hc=>by rw [mem_singleton.mp hc];exact ⟨_,rfl⟩)
 refine ⟨S',S1.length,?_,h1,le_of_lt sl,h2⟩
 refine (bt rfl).trans ((congrArg fw (?_:_=some (.rt (.ref S1.length),S'))).trans rfl)
 refine (ai (δ':=[.val pr,.val (.ref S.length),.no,.no,.no,.no,.no]) (S':=S1) (bf (bN (S1:=S) (ds:=[pr]) rfl e1) rfl)).trans ?_
 refine (ai (δ':=[.val pr,.val (.ref S.length),.val (.ref S1.length),.no,.no,.no,.no]) (S':=S2) (bf rfl rfl)).trans ?_
 refine (ai (δ':=[.val pr,.val (.ref S.length),.val (.ref S1.length),.val (.ref S2.length),.no,.no,.no]) (S':=S3) (bf (d:=.ref S2.length) (by simp! [uS,uD,if_pos z1];rfl) rfl)).trans ?_
 exact (ai e2).trans rfl
noncomputable def EV (F:ν) (p:W×List aA):Bool:=(aQ F p.2).isSome
def Ej {S:ah} {f:Nat} {F:ν} (hf:S[f]?=some (.dT F)) (ws:List (W×List aA)) (h:∀ p∈ws,eC p.1=some p.2):b9 (ae 1) (k8 false (ab (af 1)) (ab (af 0))) (ab (af 1)) [.val (.ref f),.no] (ws.map (·.1)) S=some (.ok ((ws.filter (EV F)).map (·.1)),S):=by
 induction ws with
 | nil=>rfl
 | cons p ws ih=>
  have ih:=ih λ y hy=>h y (by simp [hy])
  have g:=uu hf (h p (by simp))
  have t:k8 false (ab (af 1)) (ab (af 0)) [.val (.ref f),.val p.1] S=some (.ok (EV F p),S):=by
   have v1:ab (af 1) [.val (.ref f),.val p.1] S=some (.ok p.1,S):=rfl
   have v0:ab (af 0) [.val (.ref f),.val p.1] S=some (.ok (.ref f),S):=rfl
   simp only [k8,v1,v0,aq,g,map_some,iq,EV]
   cases aQ F p.2 <;> rfl
  show aq (k8 false (ab (af 1)) (ab (af 0)) [.val (.ref f),.val p.1] S) _=_
  rw [t]
  cases hb:EV F p with
  | false=>
   rw [filter_cons_of_neg (by rw [hb];exact Bool.false_ne_true)]
   exact ih
  | true=>
   rw [filter_cons_of_pos hb]
   simp only [aq,if_true]
   show aq (b9 (ae 1) (k8 false (ab (af 1)) (ab (af 0))) (ab (af 1)) [.val (.ref f),.no] (ws.map (·.1)) S) _=_
   rw [ih]
   rfl
def DY (nm:Str) (ar:ω):∀ p∈cV nm ar,eC p.1=some p.2:=λ p hp=>by
 rcases mem_cons.mp hp with rfl | hp
 . rfl
 . obtain ⟨b,_,rfl⟩:=mem_map.mp hp
   rfl
noncomputable def ou (F:ν) (nm:Str) (ar:ω):List (W×List aA):=(cV nm ar).filter (EV F)
noncomputable def qb (F:ν) (nm:Str) (i:It):List W:=if aD i.2.1=6∨aD i.2.1=8 then ((ou F nm i.2.2).take 1).map λ p=>.tuple [.int i.1,p.1] else []
noncomputable def uh (F:ν) (qs:List Dq):List W:=qs.flatMap λ q=>q.2.flatMap (qb F q.1.nm)
def km:∀ i:Fin 12,kF (.str (dS i)) (.tuple [.str "meet", .str "join"])=some (decide (i=6∨i=8)):=by decide +kernel
def qg (F:ν) (nm:Str) (i:It):(qb F nm i).length<=1:=by
 unfold qb
 split
 . simp
   omega
 . exact zero_le _
section
variable {S:ah} {f:Nat} {F:ν}
def Dt (hf:S[f]?=some (.dT F)) (s0 s4 s5 s6 s7 s10:Sl) (nm:Str) (i:It) (told:List W) (ha:i.2.2.length<=6) (ht:told.length<9000):ls [s0,.val (.ref f),.own told,.val (.str nm),s4,s5,s6,s7,.val (dM i.1 i.2.1),.val (.tuple (i.2.2.map dE)),s10] S=some (.nx [s0,.val (.ref f),.own (told++qb F nm i),.val (.str nm),s4,s5,s6,s7,.val (dM i.1 i.2.1),.val (.tuple (i.2.2.map dE)),.val (.list ((ou F nm i.2.2).map (·.1)))],S):=by
 have wr:=wG nm i.2.2 (by omega)
 let δ (told:List W) (s10:Sl):DS:=[s0,.val (.ref f),.own told,.val (.str nm),s4,s5,s6,s7,.val (dM i.1 i.2.1),.val (.tuple (i.2.2.map dE)),s10]
 refine (ai (δ':=δ told (.val (.list ((ou F nm i.2.2).map (·.1))))) (S':=S) (bf (d:=.list ((ou F nm i.2.2).map (·.1))) (jP (S0:=S) (ds:=(cV nm i.2.2).map (·.1)) (ao ?_) (sz _ ?_) (Ej hf _ (DY nm i.2.2))) rfl)).trans ?_
 . first | rfl | simp! [uD,wr]
 . have:=nL nm i.2.2
   simp
   omega
 . refine aR ?_
   have a0:az aT (aw 8) (dC (.int (0))) (δ told (.val (.list ((ou F nm i.2.2).map (·.1)))))=some (.str (dS (aD i.2.1))):=x0 rfl
   have c:aG kF (az aT (aw 8) (dC (.int (0)))) (aM (aa (dC (.str "meet")) (aa (dC (.str "join")) ag))) (δ told (.val (.list ((ou F nm i.2.2).map (·.1)))))=some (decide (aD i.2.1=6∨aD i.2.1=8)):=IS a0 (kM rfl rfl) (km _)
   unfold qb
   cases ho:ou F nm i.2.2 with
   | nil=>
    rw [show (if aD i.2.1=6∨aD i.2.1=8 then (([]:List (W×List aA)).take 1).map (λ p=>W.tuple [.int i.1,p.1]) else [])=[] by split <;> rfl,append_nil]
    exact aY (b:=false) (Mx rfl) rfl
   | cons p r=>
    have t1:yV (af 10) (δ told (.val (.list ((p::r).map (·.1)))))=some true:=rfl
    rw [ho] at c
    by_cases hk:aD i.2.1=6∨aD i.2.1=8
    . rw [decide_eq_true hk] at c
      rw [if_pos hk]
      refine aY (b:=true) (dA t1 c) ?_
      exact LQ (ds:=told) rfl (kM (x1 rfl) (qa (l:=(p::r).map (·.1)) rfl rfl (by simp only [map_cons,r9]))) ht
    . rw [decide_eq_false hk] at c
      rw [if_neg hk,append_nil]
      exact aY (b:=false) (dA t1 c) rfl
def wQ (hf:S[f]?=some (.dT F)) (s0 s4 s5 s6 s7:Sl) (nm:Str):∀ (is:List It) (told:List W) (s8 s9 s10:Sl),(∀ i∈is,i.2.2.length<=6)->told.length+is.length<9000->∃ t8 t9 t10,bx (b8 2 (au (ae 8) (au (ae 9) bB))) ls (is.map jx) [s0,.val (.ref f),.own told,.val (.str nm),s4,s5,s6,s7,s8,s9,s10] S=some (.nx [s0,.val (.ref f),.own (told++is.flatMap (qb F nm)),.val (.str nm),s4,s5,s6,s7,t8,t9,t10],S)
 | [],told,s8,s9,s10,_,_=>⟨s8,s9,s10,by rw [List.flatMap_nil,append_nil];rfl⟩
 | i::is,told,s8,s9,s10,h,hl=>by
  simp only [length_cons] at hl
  have w1:=qg F nm i
  obtain ⟨t8,t9,t10,e⟩:=wQ hf s0 s4 s5 s6 s7 nm is (told++qb F nm i) (.val (dM i.1 i.2.1)) (.val (.tuple (i.2.2.map dE))) (.val (.list ((ou F nm i.2.2).map (·.1)))) (λ j hj=>h j (by simp [hj])) (by rw [length_append];omega)
  rw [append_assoc] at e
  exact ⟨t8,t9,t10,(bK rfl (Dt hf s0 s4 s5 s6 s7 s10 nm i told (h i (by simp)) (by omega))).trans e⟩
def GJ {α:Type} (f:α->List W) (hf:∀ x,(f x).length<=1) (l:List α):(l.flatMap f).length<=l.length:=by
 induction l with
 | nil=>exact zero_le _
 | cons x l ih=>
  have:=hf x
  rw [flatMap_cons,length_append,length_cons]
  omega
def vO {FN:Ω} (hf:S[f]?=some (.dT F)) (s0:Sl):∀ (qs:List Dq) (told:List W) (s3 s4 s5 s6 s7 s8 s9 s10:Sl),(∀ q∈qs,GD FN q)->told.length+cX qs<9000->∃ t3 t4 t5 t6 t7 t8 t9 t10,bx (b8 5 (au (ae 3) (au (ae 4) (au (ae 5) (au (ae 6) (au (ae 7) bB)))))) p5 (qs.map λ q=>dW q.1) [s0,.val (.ref f),.own told,s3,s4,s5,s6,s7,s8,s9,s10] S=some (.nx [s0,.val (.ref f),.own (told++uh F qs),t3,t4,t5,t6,t7,t8,t9,t10],S)
 | [],told,s3,s4,s5,s6,s7,s8,s9,s10,_,_=>⟨s3,s4,s5,s6,s7,s8,s9,s10,by rw [show uh F []=[] from rfl,append_nil];rfl⟩
 | q::qs,told,s3,s4,s5,s6,s7,s8,s9,s10,h,hl=>by
  have g:=h q (by simp)
  have pl:=g.pl
  have hc:cX (q::qs)=q.2.length+1+cX qs:=by simp [cX]
  have w1:=GJ (qb F q.1.nm) (qg F q.1.nm) q.2
  obtain ⟨u8,u9,u10,e1⟩:=wQ hf s0 (.val (.list (q.1.ps.map .str))) (.val (.list (bS q.1.bd))) (.val (.int q.1.ln)) (.val (.int q.1.la)) q.1.nm q.2 told s8 s9 s10 (λ i hi=>(g.it i hi).l) (by omega)
  obtain ⟨t3,t4,t5,t6,t7,t8,t9,t10,e2⟩:=vO hf s0 qs (told++q.2.flatMap (qb F q.1.nm)) (.val (.str q.1.nm)) (.val (.list (q.1.ps.map .str))) (.val (.list (bS q.1.bd))) (.val (.int q.1.ln)) (.val (.int q.1.la)) u8 u9 u10 (λ r hr=>h r (by simp [hr])) (by rw [length_append];omega)
  rw [append_assoc] at e2
  refine ⟨t3,t4,t5,t6,t7,t8,t9,t10,(bK (δ2:=[s0,.val (.ref f),.own told,.val (.str q.1.nm),.val (.list (q.1.ps.map .str)),.val (.list (bS q.1.bd)),.val (.int q.1.ln),.val (.int q.1.la),s8,s9,s10]) rfl ((cM (S1:=S) (ds:=q.2.map jx) (ao ?_)).trans e1)).trans e2⟩
  first | rfl | simp! [mG,uD,pl]
end
def kZ {FN:Ω} (qs:List Dq) (S:ah) (hq:∀ q∈qs,GD FN q) (hf:∀ f∈FN,f∈qs.map (·.1.nm)) (hc:cX qs<=70) (hl:qs.length<=10) {D0:Nat->Option Ob} (hD0:∀ m o,D0 m=some o->S[m]?=some o/\Fz o=true):∃ S',eG [.list (qs.map λ q=>dW q.1)] S=some (.ok (.list (uh (FF qs) qs)),S')/\∀ m o,D0 m=some o->S'[m]?=some o:=by
 have z0:=sz 0 (by decide)
 obtain ⟨S1,f,e1,h1,_,k1⟩:=lg qs S hq hf hc hl hD0
 let pr:W:=.list (qs.map λ q=>dW q.1)
 obtain ⟨t3,t4,t5,t6,t7,t8,t9,t10,e2⟩:=vO h1 (.val pr) qs [] .no .no .no .no .no .no .no .no hq (by simp;omega)
 rw [List.nil_append] at e2
 refine ⟨S1,?_,k1⟩
 refine (bt rfl).trans ((congrArg fw (?_:_=some (.rt (.list (uh (FF qs) qs)),S1))).trans rfl)
 refine (ai (δ':=[.val pr,.val (.ref f),.no,.no,.no,.no,.no,.no,.no,.no,.no]) (S':=S1) (bf (bN (S1:=S) (ds:=[pr]) rfl e1) rfl)).trans ?_
 refine (ai (δ':=[.val pr,.val (.ref f),.own [],.no,.no,.no,.no,.no,.no,.no,.no]) (S':=S1) (aR (by first | rfl | simp! [uD,if_pos z0]))).trans ?_
 refine (ai ((cM (S1:=S1) (ds:=qs.map λ q=>dW q.1) (by first | rfl | simp! [pr,uS,uD])).trans e2)).trans ?_
 first | rfl | simp! [uS,uD]
def xx {FN:Ω} (qs:List Dq) (S:ah) (hq:∀ q∈qs,GD FN q) (hf:∀ f∈FN,f∈qs.map (·.1.nm)) (hc:cX qs<=70) (hl:qs.length<=10) {D0:Nat->Option Ob} (hD0:∀ m o,D0 m=some o->S[m]?=some o/\Fz o=true):∃ S',gD [.list (qs.map λ q=>dW q.1)] S=some (.ok (.bool (uh (FF qs) qs).isEmpty),S')/\∀ m o,D0 m=some o->S'[m]?=some o:=by
 obtain ⟨S1,e1,k1⟩:=kZ qs S hq hf hc hl hD0
 generalize hp:W.list (qs.map λ q=>dW q.1)=pr at e1
 refine ⟨S1,(bt rfl).trans ((congrArg fw (?_:_=some (.rt (.bool (uh (FF qs) qs).isEmpty),S1))).trans rfl),k1⟩
 refine dm ?_
 have c:bI eG (ab (aa (af 0) ag)) [.val pr] S=some (.ok (.list (uh (FF qs) qs)),S1):=bN (S1:=S) (ds:=[pr]) rfl e1
 show xa _ [.val pr] S=_
 simp only [xa,c,aq,iq,iO,map_some]
def yY:∀ (acc:Ω),yc (acc.map .str)=some (acc.map V.str)
 | []=>rfl
 | x::acc=>by
  show ((some (V.str x)).bind λ v=>(yc (acc.map .str)).map (v::·))=_
  rw [yY acc]
  rfl
def Bx (x:Str):∀ (acc:Ω),Hb (.str x) (acc.map V.str)=decide (x∈acc)
 | []=>rfl
 | y::acc=>by
  have ih:=Bx x acc
  unfold Hb at ih ⊢
  rw [map_cons,any_cons,ih]
  have:C3 (V.str y) (V.str x)=decide (y=x):=by
   show (y==x)=_
   by_cases h:y=x <;> simp [h]
  rw [this]
  by_cases h:y=x
  . subst h;simp
  . have h':¬ x=y:=λ z=>h z.symm
    simp [h,h']
def Hj {f g:DS->Option Bool} {δ:DS} (h1:f δ=some false) (h2:g δ=some false):pC f g δ=some false:=by simp only [pC,h1,h2,bind_some];rfl
def Hk {f g:DS->Option Bool} {δ:DS} (h1:f δ=some true):pC f g δ=some true:=by simp only [pC,h1,bind_some];rfl
def Ik {f g:DS->Option Bool} {δ:DS} (h1:f δ=some false) (h2:g δ=some true):pC f g δ=some true:=by simp only [pC,h1,h2,bind_some];rfl
def vL (k:Fin 7) (a b:Tr):nms (.op k a b)=nms a++nms b:=by simp [nms,yP,fz,List.filterMap_append]
def Hi (k:Fin 7) (a b:Tr):own (.op k a b)=(own a||own b):=by
 simp only [own,fz,List.any_append]
 cases (fz a).any (gT 0) <;> cases (fz a).any (gT 2) <;> cases (fz b).any (gT 0) <;> cases (fz b).any (gT 2) <;> rfl
def Lr:kf (.int 10) (.int 30)=some (.int 1000000000000000000000000000000):=by
 show (if nQ 10 30=true then some (W.int ((10:Int)^(30:Int).toNat)) else none)=_
 rw [if_pos (by decide +kernel)]
 rfl
def K5:kf (.int 10) (.int 11)=some (.int 100000000000):=by
 show (if nQ 10 11=true then some (W.int ((10:Int)^(11:Int).toNat)) else none)=_
 rw [if_pos (by decide +kernel)]
 rfl
def DQ {i j:Int} (h1:0<=i) (h2:i<2^190) (h3:0<=j) (h4:j<2^190):jD i j=true:=by
 have e:(2:Nat)^190<2^200:=Nat.pow_lt_pow_right (by decide) (by decide)
 simp only [jD,and_eq_true,or_eq_true,decide_eq_true_eq]
 exact .inr ⟨lt_trans (by omega) e,lt_trans (by omega) e⟩
def eA (c:Int) (k:Nat) (hk:k<9000):∃ m:Int,bv [.int c,.int (k:Int)]=some (.int m)/\0<=m:=by
 have hm:=bG c (j:=1000000000000000000000000000057) (by decide)
 generalize hx:c.fmod 1000000000000000000000000000057=x at hm
 have g1:j7 (.int x) (.int 271828182845904523536028747135)=some (.int (x*271828182845904523536028747135)):=mM (DQ hm.1 (Int.lt_trans hm.2 (by decide)) (by decide) (by decide))
 have g2:j7 (.int (k:Int)) (.int (k:Int))=some (.int ((k:Int)*k)):=mM (qi (by omega) (by omega))
 have kk:(k:Int)*k<=9000*9000:=Int.mul_le_mul (by omega) (by omega) (by omega) (by omega)
 have k0:0<=(k:Int)*k:=Int.mul_nonneg (by omega) (by omega)
 have g3:j7 (.int ((k:Int)*k)) (.int 314159265358979323846264338327)=some (.int ((k:Int)*k*314159265358979323846264338327)):=mM (qi (by omega) (by omega))
 have ga:(1000000000000000000000000000000:Int)+57=1000000000000000000000000000057:=by decide
 refine ⟨(x*271828182845904523536028747135+(k:Int)*k*314159265358979323846264338327+577215664901532860606512090082).fmod 1000000000000000000000000000057,?_,(bG _ (by decide)).1⟩
 have md:∀ i:Int,bD (.int i) (.int 1000000000000000000000000000057)=some (.int (i.fmod 1000000000000000000000000000057)):=λ i=>mF (by simp only [jI];decide)
 have mx:=md c
 rw [hx] at mx
 first | rfl | simp! [bv,uD,Lr,ga,md,mx,hx,g1,g2,g3]
def jB (ns:List Int) (k:Nat):∃ c:Int,bA [.list (ns.map .int),.int (k:Int)]=some (.int c):=by
 by_cases h:(k:Int)<ns.length
 . have e1:decide ((k:Int)<((ns.map W.int).length:Nat))=true:=by simpa using h
   refine ⟨ns[k]?.getD 0,?_⟩
   have Fs:=gP ns (k:Int) (by omega) h
   first | rfl | (simp! [bA,uD,e1,Fs];rfl)
 . have e1:decide ((k:Int)<((ns.map W.int).length:Nat))=false:=by simpa using h
   refine ⟨0,?_⟩
   first | rfl | simp! [bA,uD,e1]
noncomputable def dP:Str:=Str.ofString "abcdefghijklmnopqrstuvwxyz"
def wp:dP.cps.toList.length=26:=by decide +kernel
def wD:eY dP:=by unfold eY;decide +kernel
def IF (i:Int) (h0:0<=i) (h1:i<26):∃ c:Nat,aT (.str dP) (.int i)=some (.str ⟨#[c]⟩)/\eY ⟨#[c]⟩:=by
 have hz:dP.length<=sizeLine:=sz _ (by decide +kernel)
 obtain ⟨k,rfl⟩:∃ k:Nat,i=k:=⟨i.toNat,by omega⟩
 have hk:k<dP.cps.toList.length:=by rw [wp];omega
 refine ⟨dP.cps.toList[k],?_,?_⟩
 . show (if dP.length<=sizeLine then (fu dP.cps.toList (k:Int)).map λ c=>W.str ⟨#[c]⟩ else none)=_
   rw [if_pos hz,Bb _ k hk,getElem?_eq_getElem hk]
   rfl
 . exact eY.one wD (i:=(k:Int)) (by rw [Bb _ k hk,getElem?_eq_getElem hk])
noncomputable def KP:List Str:=[Str.ofString "def", Str.ofString "set", Str.ofString "put", Str.ofString "tell", Str.ofString "if", Str.ofString "else", Str.ofString "while", Str.ofString "end", Str.ofString "break", Str.ofString "again", Str.ofString "call", Str.ofString "return", Str.ofString "stop", Str.ofString "join", Str.ofString "meet", Str.ofString "lane", Str.ofString "lanes", Str.ofString "mine", Str.ofString "box", Str.ofString "div", Str.ofString "rem", Str.ofString "sum", Str.ofString "most", Str.ofString "least", Str.ofString "ahead"]
def JF (x:Str) (acc:Ω):kF (.str x) (.list (acc.map .str))=some (decide (x∈acc)):=by
 have e1:qM (.list (acc.map .str))=some (acc.map .str):=rfl
 have e2:Mg (.str x)=some (.str x):=rfl
 simp only [kF,e1,e2,bind_some,yY,map_some,Bx]
def qo (c:Nat):(⟨#[c]⟩:Str).length=1:=rfl
def NW (s0 s2 s3 s4 s8 s9 s10:Sl):∀ (n:Nat) (lo av:Int) (b:Str) (s7:Sl),eY b->b.length+n<=100->∃ (rest':Int) (b':Str) (s7':Sl),bh (ae 7) fA (eZ lo n) [s0,.val (.str dP),s2,s3,s4,.val (.int av),.val (.str b),s7,s8,s9,s10]=some (.nx [s0,.val (.str dP),s2,s3,s4,.val (.int rest'),.val (.str b'),s7',s8,s9,s10])/\eY b'/\b'.length=b.length+n
 | 0,lo,av,b,s7,hb,_=>⟨av,b,s7,rfl,hb,rfl⟩
 | n+1,lo,av,b,s7,hb,hn=>by
  have h1:=bG av (j:=26) (by decide)
  obtain ⟨c,ec,hc⟩:=IF _ h1.1 h1.2
  have ga:ck (.str b) (.str ⟨#[c]⟩)=some (.str (b++⟨#[c]⟩)):=vc (sz _ (by rw [qo];omega))
  have ln:(b++⟨#[c]⟩:Str).length=b.length+1:=by rw [rP,qo]
  obtain ⟨r',b',s7',e,a,l⟩:=NW s0 s2 s3 s4 s8 s9 s10 n (lo+1) (av.fdiv 26) (b++⟨#[c]⟩) (.val (.int lo)) (hb.app hc) (by omega)
  refine ⟨r',b',s7',?_,a,by omega⟩
  rw [f6]
  refine iY rfl ?_ e
  first | rfl | simp +decide only [fA,uD,Nat.reduceAdd,Nat.reduceSub,reduceIte,Nat.reduceEqDiff,List.replicate,ec,ga]
def mm (a b:Str):(a++b).cps.toList=a.cps.toList++b.cps.toList:=by
 show (a.cps++b.cps).toList=_
 rw [toList_append]
noncomputable def KM:List Str:=Str.ofString "main" :: KP
noncomputable def Iu:List Nat->List Nat->Nat
 | a::l,b::m=>(if a=b then 0 else 1)+Iu l m
 | _,_=>0
def tK:∀ l,Iu l l=0
 | []=>rfl
 | a::l=>by simp [Iu,tK l]
def wf {c d:Nat} (h:c≠d) (B:List Nat):∀ A,Iu (A++c::B) (A++d::B)=1
 | []=>by simp [Iu,h,tK]
 | a::A=>by simp [Iu,wf h B A]
def Iz:∀ u∈KM,∀ v∈KM,u.length=v.length->Iu u.cps.toList v.cps.toList≠1:=by decide +kernel
def Na:∀ u∈KM,113∉u.cps.toList/\2<=u.cps.toList.length:=by decide +kernel
noncomputable def qs' (n:Nat):Str:=Txt.mul (Str.ofString "q") (n:Nat)
def xk:∀ (n:Nat) (a:Array Nat),(List.foldl (λ x y=>x++y) a (List.replicate n #[113])).toList=a.toList++List.replicate n 113
 | 0,a=>by simp
 | n+1,a=>by rw [replicate_succ,foldl_cons,xk n,toList_append,replicate_succ];simp
def ul (n:Nat):(qs' n).cps.toList=List.replicate n 113:=by
 have q:(Str.ofString "q").cps = #[113]:=by decide +kernel
 have l:(Str.ofString "q").length=1:=by decide +kernel
 unfold qs' Txt.mul
 cases n with
 | zero=>rfl
 | succ n=>
  rw [if_neg (by omega)]
  by_cases h:((n+1:Nat):Int)=1
  . have h0:n=0:=by omega
    subst h0
    rw [if_pos (by simp),q]
    rfl
  . rw [if_neg (by rw [l];simp;omega),q]
    exact (xk (n+1) #[]).trans (by simp)
noncomputable def fq (w:Str):Str:=if w∈KM then qs' w.length else w
def HX (w:Str):(fq w).cps.toList.length=w.cps.toList.length:=by
 unfold fq
 split
 . rw [ul];simp [Str.length]
 . rfl
def Dd (w:Str):fq w≠Str.ofString "main" := λ z=>by
 unfold fq at z
 split at z
 . have e:=congrArg (λ s:Str=>s.cps.toList) z
   simp only [ul] at e
   have m:(Str.ofString "main").cps.toList=[109,97,105,110]:=by decide +kernel
   rw [m] at e
   have:(109:Nat)∈List.replicate w.length 113:=by rw [e];simp
   have:=List.eq_of_mem_replicate this
   omega
 . rename_i h
   exact h (by rw [z];exact mem_cons_self)
def Ij {A B:List Nat} {c d:Nat} {u v:Str} (hu:u.cps.toList=A++c::B) (hv:v.cps.toList=A++d::B) (hcd:c≠d):fq u≠fq v:=λ z=>by
 have ln:u.length=v.length:=by
  have:u.cps.toList.length=v.cps.toList.length:=by rw [hu,hv];simp
  simpa [Str.length] using this
 have ne:∀ {x y:Str} {c d:Nat},x.cps.toList=A++c::B->y.cps.toList=A++d::B->c≠d->x∈KM->y∉KM->fq x≠fq y:=λ {x y c d} hx hy hcd hxm hym z=>by
  have e:=congrArg (λ s:Str=>s.cps.toList) z
  simp only [fq,if_pos hxm,if_neg hym,ul,hy] at e
  have all:∀ a∈A++d::B,a=113:=λ a ha=>List.eq_of_mem_replicate (e▸ha)
  obtain ⟨k1,k2⟩:=Na x hxm
  rw [hx] at k1 k2
  cases A with
  | cons a A=>exact k1 (by have:=all a (by simp);simp [this])
  | nil=>
   cases B with
   | cons b B=>exact k1 (by have:=all b (by simp);simp [this])
   | nil=>simp at k2
 by_cases h1:u∈KM <;> by_cases h2:v∈KM
 . exact Iz u h1 v h2 ln (by rw [hu,hv];exact wf hcd B A)
 . exact ne hu hv hcd h1 h2 z
 . exact ne hv hu (Ne.symm hcd) h2 h1 z.symm
 . have e:=congrArg (λ s:Str=>s.cps.toList) z
   simp only [fq,if_neg h1,if_neg h2,hu,hv] at e
   have:=List.append_cancel_left e
   simp at this
   exact hcd this
def uG (z:Str) (lo hi:Option Int):(Txt.slice z lo hi).length<=z.length:=Txt.slice_le z _ _
def M0 {f:μ} {p q:DS->Option (Option Int)} {δ:DS} {b:Str} {lo hi:Option Int} (h:f δ=some (.str b)) (h1:p δ=some lo) (h2:q δ=some hi) (hz:b.length<=1000):rL f p q δ=some (.str (Txt.slice b lo hi)):=by simp only [rL,GK,h,h1,h2,bind_some,if_pos hz]
noncomputable def rY (i:Int):Nat:=dP.cps.toList.getD (i.fmod 26).toNat 0
def AW (i:Int):rY i=97+(i.fmod 26).toNat:=by
 have h:=bG i (j:=26) (by decide)
 have all:∀ n:Fin 26,dP.cps.toList.getD n.val 0=97+n.val:=by decide +kernel
 exact all ⟨(i.fmod 26).toNat,by omega⟩
def IC (i:Int):aT (.str dP) (.int (i.fmod 26))=some (.str ⟨#[rY i]⟩)/\eY ⟨#[rY i]⟩:=by
 have h:=bG i (j:=26) (by decide)
 have hz:dP.length<=sizeLine:=sz _ (by decide +kernel)
 unfold rY
 obtain ⟨k,e⟩:∃ k:Nat,i.fmod 26=k:=⟨(i.fmod 26).toNat,by omega⟩
 rw [e,toNat_natCast]
 have hk:k<dP.cps.toList.length:=by rw [wp];omega
 have g:dP.cps.toList.getD k 0=dP.cps.toList[k]:=by rw [List.getD_eq_getElem?_getD,getElem?_eq_getElem hk];rfl
 rw [g]
 refine ⟨?_,eY.one wD (i:=(k:Int)) (by rw [Bb _ k hk,getElem?_eq_getElem hk])⟩
 show (if dP.length<=sizeLine then (fu dP.cps.toList (k:Int)).map λ c=>W.str ⟨#[c]⟩ else none)=_
 rw [if_pos hz,Bb _ k hk,getElem?_eq_getElem hk]
 rfl
noncomputable def ud (b:Str) (L P av k:Int):Str:=if (av.fdiv 26).fmod 4=1 then Txt.slice b none (some (8-k)) else Txt.slice b none (some P)++⟨#[rY (av+5*k)]⟩++Txt.slice b (some (P+1)) (some L)
noncomputable def rq (b:Str) (L P av:Int):Nat->Int->List Str
 | 0,_=>[]
 | n+1,lo=>fq (ud b L P av lo)::rq b L P av n (lo+1)
def mP {b:Str} {L P av:Int}:∀ (n:Nat) (lo:Int),∀ x∈rq b L P av n lo,∃ k,lo<=k/\k<lo+n/\x=fq (ud b L P av k)
 | 0,_,x,h=>absurd h not_mem_nil
 | n+1,lo,x,h=>by
  rcases mem_cons.mp h with rfl | h
  . exact ⟨lo,by omega,by omega,rfl⟩
  . obtain ⟨k,a,b,c⟩:=mP n (lo+1) x h
    exact ⟨k,by omega,by omega,c⟩
def I0 {b:Str} (hb:b.length=8) {L P av j k:Int} (j0:0<=j) (j5:j<6) (k0:0<=k) (k5:k<6) (h:j≠k):fq (ud b L P av j)≠fq (ud b L P av k):=by
 unfold ud
 by_cases hc:(av.fdiv 26).fmod 4=1
 . rw [if_pos hc,if_pos hc]
   intro z
   have e:=congrArg (λ s:Str=>s.cps.toList.length) z
   simp only [HX] at e
   have l:∀ m:Int,0<=m->m<6->(Txt.slice b none (some (8-m))).cps.toList.length=(8-m).toNat:=λ m h0 h1=>by
    have e:(8-m:Int)=((8-m).toNat:Int):=by omega
    have s:=Bg b (8-m).toNat
    rw [<-e] at s
    have hl:b.cps.toList.length=8:=hb
    rw [s,length_take,hl]
    omega
   rw [l j j0 j5,l k k0 k5] at e
   omega
 . rw [if_neg hc,if_neg hc]
   refine Ij (A:=(Txt.slice b none (some P)).cps.toList) (B:=(Txt.slice b (some (P+1)) (some L)).cps.toList) (c:=rY (av+5*j)) (d:=rY (av+5*k)) (by rw [mm,mm];simp) (by rw [mm,mm];simp) λ z=>?_
   rw [AW,AW] at z
   have f1:=bG (av+5*j) (j:=26) (by decide)
   have f2:=bG (av+5*k) (j:=26) (by decide)
   have e1:=Int.fmod_eq_emod_of_nonneg (av+5*j) (show (0:Int)<=26 by decide)
   have e2:=Int.fmod_eq_emod_of_nonneg (av+5*k) (show (0:Int)<=26 by decide)
   omega
def wj {b:Str} (hb:b.length=8) {L P av:Int}:∀ (n:Nat) (lo:Int),0<=lo->lo+n<=6->(rq b L P av n lo).Nodup
 | 0,_,_,_=>nodup_nil
 | n+1,lo,h0,h1=>nodup_cons.mpr ⟨λ z=>by
  obtain ⟨k,a,b,c⟩:=mP n (lo+1) _ z
  exact I0 hb (by omega) (by omega) (by omega) (by omega) (by omega) c,wj hb n (lo+1) (by omega) (by omega)⟩
section
variable {s0:Sl} {L P av:Int} {b:Str}
noncomputable def dN (s0:Sl) (L P av:Int) (b:Str) (s7 s8 s9 s10:Sl):DS:=[s0,.val (.str dP),.val (.list (KP.map .str)),.val (.int L),.val (.int P),.val (.int av),.val (.str b),s7,s8,s9,s10]
def ze (hb:eY b) (hl:b.length<=100) (k:Int) (h0:0<=k) (h1:k<=6) (acc:List W) (ha:acc.length<100) (s9 s10:Sl):∃ (t9:Sl),eY (fq (ud b L P av k))/\f8 (dN s0 L P av b (.val (.int k)) (.own acc) s9 s10)=some (.nx (dN s0 L P av b (.val (.int k)) (.own (acc++[.str (fq (ud b L P av k))])) t9 (.val (.str (fq (ud b L P av k)))))):=by
 have hz:b.length<=1000:=by omega
 obtain ⟨ec,hc⟩:=IC (av+5*k)
 have gm:j7 (.int 5) (.int k)=some (.int (5*k)):=mM (qi (by decide) (by decide))
 let a1:=Txt.slice b none (some P)
 let a2:=Txt.slice b (some (P+1)) (some L)
 have l1:a1.length<=b.length:=uG _ _ _
 have l2:a2.length<=b.length:=uG _ _ _
 have g1:ck (.str a1) (.str ⟨#[rY (av+5*k)]⟩)=some (.str (a1++⟨#[rY (av+5*k)]⟩)):=vc (sz _ (by rw [qo];omega))
 have l3:(a1++⟨#[rY (av+5*k)]⟩:Str).length=a1.length+1:=by rw [rP,qo]
 have g2:ck (.str (a1++⟨#[rY (av+5*k)]⟩)) (.str a2)=some (.str (a1++⟨#[rY (av+5*k)]⟩++a2)):=vc (sz _ (by omega))
 have l4:(a1++⟨#[rY (av+5*k)]⟩++a2:Str).length=(a1++⟨#[rY (av+5*k)]⟩:Str).length+a2.length:=rP _ _
 have k1:eY (a1++⟨#[rY (av+5*k)]⟩++a2:Str):=((hb.slice _ _).app hc).app (hb.slice _ _)
 let sg:W:=.str ⟨#[rY (av+5*k)]⟩
 let w1:Str:=a1++⟨#[rY (av+5*k)]⟩++a2
 have e1:aC (az aT (aw 1) (az bD (az ck (aw 5) (az j7 (dC (.int (5))) (af 7))) (dC (.int (26))))) (ae 9) (dN s0 L P av b (.val (.int k)) (.own acc) s9 s10)=some (.nx (dN s0 L P av b (.val (.int k)) (.own acc) (.val sg) s10)):=aK (dO rfl (dO (dO rfl (dO rfl rfl gm) rfl) rfl rfl) ec) rfl
 have e2:aC (az ck (az ck (rL (af 6) dz (dR (af 4))) (af 9)) (rL (af 6) (dR (az ck (aw 4) (dC (.int (1))))) (dR (af 3)))) (ae 10) (dN s0 L P av b (.val (.int k)) (.own acc) (.val sg) s10)=some (.nx (dN s0 L P av b (.val (.int k)) (.own acc) (.val sg) (.val (.str w1)))):=aK (dO (dO (M0 rfl rfl rfl hz) rfl g1) (M0 rfl rfl rfl hz) g2) rfl
 have e3:eY (ud b L P av k)/\(ud b L P av k).length<=300/\cG (aG c6 (az bD (az cm (aw 5) (dC (.int (26)))) (dC (.int (4)))) (dC (.int (1)))) (aC (rL (af 6) dz (dR (az gSub' (dC (.int (8))) (af 7)))) (ae 10)) aI (dN s0 L P av b (.val (.int k)) (.own acc) (.val sg) (.val (.str w1)))=some (.nx (dN s0 L P av b (.val (.int k)) (.own acc) (.val sg) (.val (.str (ud b L P av k))))):=by
  have t:aG c6 (az bD (az cm (aw 5) (dC (.int (26)))) (dC (.int (4)))) (dC (.int (1))) (dN s0 L P av b (.val (.int k)) (.own acc) (.val sg) (.val (.str w1)))=some (decide ((av.fdiv 26).fmod 4=1)):=rfl
  by_cases h:(av.fdiv 26).fmod 4=1
  . rw [decide_eq_true h] at t
    have c1:ud b L P av k=Txt.slice b none (some (8-k)):=if_pos h
    rw [c1]
    exact ⟨hb.slice _ _,le_trans (uG _ _ _) (by omega),aY (b:=true) t (aK (M0 rfl rfl rfl hz) rfl)⟩
  . rw [decide_eq_false h] at t
    have c1:ud b L P av k=w1:=if_neg h
    rw [c1]
    exact ⟨k1,(by show (a1++⟨#[rY (av+5*k)]⟩++a2:Str).length<=300;omega),aY (b:=false) t rfl⟩
 obtain ⟨k2,l5,e3⟩:=e3
 generalize ud b L P av k=w2 at k2 l5 e3 ⊢
 have e4:eY (fq w2)/\cG (pC (aG kF (aw 10) (aw 2)) (aG c6 (aw 10) (dC (.str "main")))) (aC (az sd (dC (.str "q")) (BV ky (aw 10))) (ae 10)) aI (dN s0 L P av b (.val (.int k)) (.own acc) (.val sg) (.val (.str w2)))=some (.nx (dN s0 L P av b (.val (.int k)) (.own acc) (.val sg) (.val (.str (fq w2))))):=by
  have i1:aG kF (aw 10) (aw 2) (dN s0 L P av b (.val (.int k)) (.own acc) (.val sg) (.val (.str w2)))=some (decide (w2∈KP)):=JF w2 KP
  have i2:aG c6 (aw 10) (dC (.str "main")) (dN s0 L P av b (.val (.int k)) (.own acc) (.val sg) (.val (.str w2)))=some (decide (w2=Str.ofString "main")):=tD rfl
  have t:pC (aG kF (aw 10) (aw 2)) (aG c6 (aw 10) (dC (.str "main"))) (dN s0 L P av b (.val (.int k)) (.own acc) (.val sg) (.val (.str w2)))=some (decide (w2∈KM)):=by
   by_cases h:w2∈KP
   . have hm:w2∈KM:=mem_cons_of_mem _ h
     rw [decide_eq_true hm]
     rw [decide_eq_true h] at i1
     exact Hk i1
   . rw [decide_eq_false h] at i1
     by_cases h':w2=Str.ofString "main"
     . have hm:w2∈KM:=by rw [h'];exact mem_cons_self
       rw [decide_eq_true hm]
       rw [decide_eq_true h'] at i2
       exact Ik i1 i2
     . have hm:w2∉KM:=λ z=>(mem_cons.mp z).elim h' h
       rw [decide_eq_false hm]
       rw [decide_eq_false h'] at i2
       exact Hj i1 i2
  unfold fq
  by_cases h:w2∈KM
  . rw [decide_eq_true h] at t
    rw [if_pos h]
    have q1:eY (Str.ofString "q"):=by unfold eY;decide +kernel
    have gl:ky (.str w2)=some (.int w2.length):=if_pos (sz _ (by omega))
    have gs:sd (.str "q") (.int (w2.length:Nat))=some (.str (qs' w2.length)):=by
     have ql:(Str.ofString "q").length<=1000:=by decide +kernel
     refine if_pos ?_
     simp only [and_eq_true,decide_eq_true_eq]
     exact ⟨⟨by omega,by omega⟩,ql⟩
    exact ⟨q1.mul _,aY (b:=true) t (aK (d:=.str (qs' w2.length)) (dO rfl gl gs) rfl)⟩
  . rw [decide_eq_false h] at t
    rw [if_neg h]
    exact ⟨k2,aY (b:=false) t rfl⟩
 obtain ⟨k3,e4⟩:=e4
 exact ⟨.val sg,k3,ak e1 (ak e2 (ak e3 (ak e4 (LQ rfl rfl (by omega)))))⟩
def NZ (hb:eY b) (hl:b.length<=100):∀ (n:Nat) (lo:Int) (acc:List W) (s7 s9 s10:Sl),0<=lo->lo+n<=6->acc.length+n<100->∃ (t7 t9 t10:Sl),(rq b L P av n lo).length=n/\(∀ x∈rq b L P av n lo,eY x)/\bh (ae 7) f8 (eZ lo n) (dN s0 L P av b s7 (.own acc) s9 s10)=some (.nx (dN s0 L P av b t7 (.own (acc++(rq b L P av n lo).map .str)) t9 t10))
 | 0,lo,acc,s7,s9,s10,_,_,_=>⟨s7,s9,s10,rfl,(λ x hx=>absurd hx not_mem_nil),by simp [eZ,bh,rq]⟩
 | n+1,lo,acc,s7,s9,s10,h0,h1,ha=>by
  obtain ⟨t9,hw,e⟩:=ze (s0:=s0) (L:=L) (P:=P) (av:=av) hb hl lo h0 (by omega) acc (by omega) s9 s10
  obtain ⟨u7,u9,u10,l,k,e2⟩:=NZ hb hl n (lo+1) (acc++[.str (fq (ud b L P av lo))]) (.val (.int lo)) t9 (.val (.str (fq (ud b L P av lo)))) (by omega) (by omega) (by simp;omega)
  refine ⟨u7,u9,u10,congrArg (· + 1) l,λ x hx=>?_,?_⟩
  . rcases mem_cons.mp hx with rfl | hx
    . exact hw
    . exact k x hx
  . rw [f6]
    refine iY (δ2:=dN s0 L P av b (.val (.int lo)) (.own acc) s9 s10) rfl e (e2.trans ?_)
    simp [rq]
end
def mJ (m:Int):∃ N:Ω,ft [.int m]=some (.list (N.map .str))/\N.length=6/\(∀ x∈N,eY x)/\N.Nodup/\Str.ofString "main" ∉ N:=by
 have h8:=bG m (j:=8) (by decide)
 let L:Int:=1+m.fmod 8
 let P:Int:=(m.fdiv 8).fmod L
 obtain ⟨r1,b1,s7,e1,a1,l1⟩:=NW (.val (.int m)) (.val (.list (KP.map .str))) (.val (.int L)) (.val (.int P)) .no .no .no 8 0 (m.fdiv 64) (Str.ofString "") .no (by unfold eY;decide +kernel) (by decide +kernel)
 have l0:(Str.ofString "").length=0:=by decide +kernel
 obtain ⟨t7,t9,t10,l2,k2,e2⟩:=NZ (s0:=.val (.int m)) (L:=L) (P:=P) (av:=r1) a1 (by omega) 6 0 [] s7 .no .no (by decide) (by decide) (by decide)
 have lb:b1.length=8:=by omega
 refine ⟨rq b1 L P r1 6 0,?_,l2,k2,wj lb 6 0 (by decide) (by decide),λ z=>?_⟩
 case refine_2=>
  obtain ⟨k,_,_,e⟩:=mP 6 0 _ z
  exact Dd _ e.symm
 show c7 1 11 _ _=_
 refine aZ rfl ?_
 refine ak (δ1:=[.val (.int m),.val (.str dP),.no,.no,.no,.no,.no,.no,.no,.no,.no]) rfl ?_
 refine ak (δ1:=[.val (.int m),.val (.str dP),.val (.list ((KP.take 12).map .str)),.no,.no,.no,.no,.no,.no,.no,.no]) rfl ?_
 refine ak (δ1:=[.val (.int m),.val (.str dP),.val (.list ((KP.take 23).map .str)),.no,.no,.no,.no,.no,.no,.no,.no]) (aK (d:=.list ((KP.take 23).map .str)) (dO (a:=.list ((KP.take 12).map .str)) (b:=.list (((KP.drop 12).take 11).map .str)) rfl rfl ((qF (sz _ (by decide))).trans rfl)) rfl) ?_
 refine ak (δ1:=[.val (.int m),.val (.str dP),.val (.list (KP.map .str)),.no,.no,.no,.no,.no,.no,.no,.no]) (aK (d:=.list (KP.map .str)) (dO (a:=.list ((KP.take 23).map .str)) (b:=.list ((KP.drop 23).map .str)) rfl rfl ((qF (sz _ (by decide))).trans rfl)) rfl) ?_
 refine ak (δ1:=[.val (.int m),.val (.str dP),.val (.list (KP.map .str)),.val (.int L),.no,.no,.no,.no,.no,.no,.no]) rfl ?_
 refine ak (δ1:=[.val (.int m),.val (.str dP),.val (.list (KP.map .str)),.val (.int L),.val (.int P),.no,.no,.no,.no,.no,.no]) (aK (d:=.int P) ?_ rfl) ?_
 . have hL:bD (.int (m.fdiv 8)) (.int L)=some (.int P):=mF (by simp only [jI,decide_eq_true_eq];omega)
   exact dO rfl rfl hL
 refine ak (δ1:=[.val (.int m),.val (.str dP),.val (.list (KP.map .str)),.val (.int L),.val (.int P),.val (.int (m.fdiv 64)),.no,.no,.no,.no,.no]) rfl ?_
 refine ak (δ1:=[.val (.int m),.val (.str dP),.val (.list (KP.map .str)),.val (.int L),.val (.int P),.val (.int (m.fdiv 64)),.val (.str ""),.no,.no,.no,.no]) rfl ?_
 refine ak (fQ (ds:=eZ 0 8) (gy (n:=8) rfl (by decide)) e1) ?_
 refine ak (δ1:=dN (.val (.int m)) L P r1 b1 s7 (.own []) .no .no) rfl ?_
 refine ak (fQ (ds:=eZ 0 6) (gy (n:=6) rfl (by decide)) e2) rfl
def Fb {α:Type} (g:α->W) (a:List α) {i:Int} (h0:0<=i) (h1:i<a.length):∃ k:Fin a.length,i=(k.val:Int)/\fu (a.map g) i=some (g a[k]):=by
 obtain ⟨k,rfl⟩:=Int.eq_ofNat_of_zero_le h0
 have hl:=ofNat_lt.mp h1
 refine ⟨⟨k,hl⟩,rfl,?_⟩
 rw [Bb _ k (by rw [length_map];exact hl),getElem?_map,getElem?_eq_getElem hl]
 rfl
def gP {α:Type} (g:α->W) (a:List α) {i:Int} (h0:0<=i) (h1:i<a.length):∃ x∈a,fu (a.map g) i=some (g x):=by
 obtain ⟨k,_,e⟩:=Fb g a h0 h1
 exact ⟨_,getElem_mem k.2,e⟩
def wU {α:Type} (g:α->W) (a:List α) (c:Int) (h:0<a.length):∃ x∈a,fu (a.map g) (c.fmod a.length)=some (g x):=
 have h:=bG c (ofNat_lt.mpr h)
 gP g a h.1 h.2
def Lo (i:Int) (h0:0<=i) (h1:i<7):∃ n:Nat,fu [W.int 0,.int 0,.int 0,.int 1,.int 1,.int 2,.int 6] i=some (.int (n:Int))/\n<=6/\(i<5->n<=1):=by
 obtain ⟨k,rfl,e⟩:=Fb (λ n:Nat=>W.int n) [0,0,0,1,1,2,6] h0 h1
 have:∀ k:Fin 7,[0,0,0,1,1,2,6][k]<=6/\((k.val:Int)<5->[0,0,0,1,1,2,6][k]<=1):=by decide
 exact ⟨_,e,this k⟩
def uL {α:Type} (a:List α) {i:Int} (h0:0<=i) (h1:i<a.length):∃ x∈a,∀ g:α->W,fu (a.map g) i=some (g x):=by
 obtain ⟨k,rfl⟩:=Int.eq_ofNat_of_zero_le h0
 have hl:=ofNat_lt.mp h1
 refine ⟨a[k],getElem_mem hl,λ g=>?_⟩
 rw [Bb _ k (by rw [length_map];exact hl),getElem?_map,getElem?_eq_getElem hl]
 rfl
def Br (N:Ω) (hN:N.length=6) (c:Int):∃ x∈N,∀ r:Ψ,fu ((N.map r).map W.str) (c.fmod 6)=some (.str (r x)):=by
 have h:=bG c (j:=6) (by decide)
 obtain ⟨x,hx,e⟩:=uL N h.1 (by rw [hN];exact h.2)
 exact ⟨x,hx,λ r=>by rw [map_map];exact e λ x=>W.str (r x)⟩
def vG {α:Type} (g:α->W) (a:List α) (c:Int) (h:0<a.length):bD (.int c) (.int ((a.map g).length:Nat))=some (.int (c.fmod a.length)):=by
 rw [length_map]
 exact mF (by simp only [jI,decide_eq_true_eq];omega)
noncomputable def ge (o:Int) (t:Tr) (d c:Nat):Prop:=gd t d c/\(o=0->own t=false)
section
variable {N:Ω} {o:Int}
def jV (hN:N.length=6) (hk:∀ x∈N,eY x) (c:Int):∃ (t:Tr) (q:Int),(∀ r:Ψ,cj [.int c,.list ((N.map r).map .str),.int o]=some (.tuple [tw (aO r t),.int q]))/\ge o t 0 1:=by
 have h24:=bG c (j:=24) (by decide)
 let δ (r:Ψ):DS:=[.val (.int c),.val (.list ((N.map r).map .str)),.val (.int o),.val (.int (c.fmod 24)),.val (.int (c.fdiv 24))]
 have pre (r:Ψ):∀ {f:υ} {d:W},f (δ r)=some (.rt d)->aB (aC (az bD (aw 0) (dC (.int (24)))) (ae 3)) (aB (aC (az cm (aw 0) (dC (.int (24)))) (ae 4)) f) (bL 5 [.int c,.list ((N.map r).map .str),.int o])=some (.rt d):=λ {f d} h=>ak (δ1:=[.val (.int c),.val (.list ((N.map r).map .str)),.val (.int o),.val (.int (c.fmod 24)),.no]) rfl (ak (δ1:=δ r) rfl h)
 have t1 (r:Ψ):aG Md (aw 3) (az gSub' (dC (.int (24))) (af 2)) (δ r)=some (decide (24-o<=c.fmod 24)):=rfl
 have t2 (r:Ψ):aG sA (aw 3) (dC (.int (11))) (δ r)=some (decide (c.fmod 24<11)):=rfl
 have t3 (r:Ψ):aG c6 (aw 3) (dC (.int (11))) (δ r)=some (decide (c.fmod 24=11)):=rfl
 have no:∀ t:Tr,nms t=[]->Fd t:=λ t h x hx=>by rw [h] at hx;cases hx
 by_cases h1:24-o<=c.fmod 24
 . obtain ⟨k,_,ek⟩:=wU (λ k:Fin 3=>tw (.sig k)) [0,2] (c.fdiv 24) (by decide)
   rw [decide_eq_true h1] at t1
   exact ⟨.sig k,(c.fdiv 24).fdiv 2,λ r=>aZ rfl (pre r (fE (aY (b:=true) (t1 r) (bo (kM (qa (l:=[.tuple [.str "lane"],.tuple [.str "mine"]]) rfl rfl ek) rfl))))),⟨le_refl _,le_refl _,no _ rfl⟩,λ z=>by omega⟩
 rw [decide_eq_false h1] at t1
 have s1 (r:Ψ):=aY (f:=bg (aM (aa (az aT (br (bE (aa (aM (aa (dC (.str "lane")) ag)) (aa (aM (aa (dC (.str "mine")) ag)) ag)))) (az bD (aw 4) (dC (.int (2))))) (aa (az cm (aw 4) (dC (.int (2)))) ag)))) (g:=aI) (b:=false) (t1 r) rfl
 by_cases h2:c.fmod 24<11
 . obtain ⟨x,hx,ex⟩:=Br N hN (c.fdiv 24)
   rw [decide_eq_true h2] at t2
   exact ⟨.nam x,(c.fdiv 24).fdiv 6,λ r=>aZ rfl (pre r (ak (s1 r) (fE (aY (b:=true) (t2 r) (bo (kM (kM rfl (qa rfl rfl (ex r))) rfl)))))),⟨le_refl _,le_refl _,λ y hy=>by rw [mem_singleton.mp hy];exact (hk x hx).ok⟩,λ _=>rfl⟩
 rw [decide_eq_false h2] at t2
 have s2 (r:Ψ):=aY (f:=bg (aM (aa (aM (aa (dC (.str "name")) (aa (az aT (aw 1) (az bD (aw 4) (dC (.int (6))))) ag))) (aa (az cm (aw 4) (dC (.int (6)))) ag)))) (g:=aI) (b:=false) (t2 r) rfl
 by_cases h3:c.fmod 24=11
 . rw [decide_eq_true h3] at t3
   exact ⟨.sig 1,c.fdiv 24,λ r=>aZ rfl (pre r (ak (s1 r) (ak (s2 r) (fE (aY (b:=true) (t3 r) (bo (kM (Jd rfl) rfl))))))),⟨le_refl _,le_refl _,no _ rfl⟩,λ _=>rfl⟩
 . rw [decide_eq_false h3] at t3
   exact ⟨.num ((c.fdiv 24).fmod 1999999999-999999999),(c.fdiv 24).fdiv 199,λ r=>aZ rfl (pre r (ak (s1 r) (ak (s2 r) (ak (aY (b:=false) (t3 r) rfl) (bo (kM (kM rfl rfl) rfl)))))),⟨le_refl _,le_refl _,no _ rfl⟩,λ _=>rfl⟩
def zR {t:Tr} {d c:Nat} (h:ge o t d c):ge o (.box t) (d+1) (c+1):=⟨⟨by have:=h.1.1;simp only [pM];omega,by have:=h.1.2.1;simp only [lh];omega,λ x hx=>h.1.2.2 x (by simpa [nms,fz] using hx)⟩,λ z=>h.2 z⟩
def AD {a b:Tr} {d c d' c':Nat} (k:Fin 7) (h:ge o a d c) (h':ge o b d' c'):ge o (.op k a b) (max d d'+1) (c+c'+1):=⟨⟨by have:=h.1.1;have:=h'.1.1;simp only [pM];omega,by have:=h.1.2.1;have:=h'.1.2.1;simp only [lh];omega,λ x hx=>by
 rw [vL] at hx
 rcases mem_append.mp hx with hx | hx
 . exact h.1.2.2 x hx
 . exact h'.1.2.2 x hx⟩,λ z=>by rw [Hi,h.2 z,h'.2 z];rfl⟩
def ig {t:Tr} {d c d' c':Nat} (h:ge o t d c) (h1:d<=d') (h2:c<=c'):ge o t d' c':=⟨⟨le_trans h.1.1 h1,le_trans h.1.2.1 h2,h.1.2.2⟩,h.2⟩
def vj (hN:N.length=6) (hk:∀ x∈N,eY x) (c:Int):∃ (t:Tr) (q:Int),(∀ r:Ψ,eJ [.int c,.list ((N.map r).map .str),.int o]=some (.tuple [tw (aO r t),.int q]))/\ge o t 1 3:=by
 obtain ⟨a,q,ea,ga⟩:=jV (o:=o) hN hk (c.fdiv 5)
 let δ (r:Ψ) (q:Int) (s5:Sl):DS:=[.val (.int c),.val (.list ((N.map r).map .str)),.val (.int o),.val (tw (aO r a)),.val (.int q),s5]
 have t1 (r:Ψ):aG c6 (az bD (aw 0) (dC (.int (5)))) (dC (.int (1))) (δ r q .no)=some (decide (c.fmod 5=1)):=rfl
 have t2 (r:Ψ):aG c6 (az bD (aw 0) (dC (.int (5)))) (dC (.int (2))) (δ r q .no)=some (decide (c.fmod 5=2)):=rfl
 have s0 (r:Ψ):aC (aW cj (aa (az cm (aw 0) (dC (.int (5)))) (aa (af 1) (aa (af 2) ag)))) (b8 2 (au (ae 3) (au (ae 4) bB))) (bL 6 [.int c,.list ((N.map r).map .str),.int o])=some (.nx (δ r q .no)):=aK (iu rfl (ea r)) rfl
 by_cases h1:c.fmod 5=1
 . rw [decide_eq_true h1] at t1
   exact ⟨.box a,q,λ r=>aZ rfl (ak (s0 r) (fE (aY (b:=true) (t1 r) (bo (kM (kM rfl rfl) rfl))))),ig (zR ga) (by decide) (by decide)⟩
 rw [decide_eq_false h1] at t1
 by_cases h2:c.fmod 5=2
 . obtain ⟨b,r2,eb,gb⟩:=jV (o:=o) hN hk q
   obtain ⟨k,_,ek⟩:=wU (λ k:Fin 7=>W.str (y0 k)) [0,2,5] r2 (by decide)
   rw [decide_eq_true h2] at t2
   exact ⟨.op k a b,r2.fdiv 3,λ r=>aZ rfl (ak (s0 r) (ak (aY (b:=false) (t1 r) rfl) (fE (aY (b:=true) (t2 r) (ak (f:=aC (aW cj (aa (af 4) (aa (af 1) (aa (af 2) ag)))) (b8 2 (au (ae 5) (au (ae 4) bB)))) (δ1:=δ r r2 (.val (tw (aO r b)))) (aK (iu rfl (eb r)) rfl) (bo (kM (BY (qa (l:=[.str "+", .str "*", .str "<"]) rfl rfl ek) rfl rfl) rfl))))))),ig (AD k ga gb) (by decide) (by decide)⟩
 . rw [decide_eq_false h2] at t2
   exact ⟨a,q,λ r=>aZ rfl (ak (s0 r) (ak (aY (b:=false) (t1 r) rfl) (ak (aY (b:=false) (t2 r) rfl) (bo (kM rfl rfl))))),ig ga (by decide) (by decide)⟩
end
def Ic {f g:υ} {δ δ':DS} (h:f δ=some (.ct δ')):aB f g δ=some (.ct δ'):=by unfold aB;rw [h]
section
variable {N:Ω} {o num:Int}
noncomputable def dX (N:Ω) (o num:Int) (D:Nat) (t:Tr) (av:Int) (s6 s7 s8 s9:Sl):DS:=[.val (.int num),.val (.list (N.map .str)),.val (.int o),.val (.int (D:Int)),.val (tw t),.val (.int av),s6,s7,s8,s9]
def CP (hN:N.length=6) (hk:∀ x∈N,eY x) (D k:Nat) (hkk:k<100) (t:Tr) (d c:Nat) (g:ge o t d c) (av:Int) (s7 s8 s9:(Ψ)->Sl):∃ (t':Tr) (r':Int) (s7' s8' s9':(Ψ)->Sl),ge o t' (max d 1+1) (c+4)/\((∀ r,c8 (dX (N.map r) o num D (aO r t) av (.val (.int (k:Int))) (s7 r) (s8 r) (s9 r))=some (.nx (dX (N.map r) o num D (aO r t') r' (.val (.int (k:Int))) (s7' r) (s8' r) (s9' r))))∨(∀ r,c8 (dX (N.map r) o num D (aO r t) av (.val (.int (k:Int))) (s7 r) (s8 r) (s9 r))=some (.ct (dX (N.map r) o num D (aO r t') r' (.val (.int (k:Int))) (s7' r) (s8' r) (s9' r))))):=by
 obtain ⟨m,em,_⟩:=eA (num+(k:Int)) (k+5) (by omega)
 have e5:((k+5:Nat):Int)=(k:Int)+5:=by omega
 rw [e5] at em
 have s1:∃ r1,∀ r:Ψ,cG (aG sA (aw 5) (az kf (dC (.int (10))) (dC (.int (11))))) (aC (aW bv (aa (az ck (aw 0) (af 6)) (aa (az ck (aw 6) (dC (.int (5)))) ag))) (ae 5)) aI (dX (N.map r) o num D (aO r t) av (.val (.int (k:Int))) (s7 r) (s8 r) (s9 r))=some (.nx (dX (N.map r) o num D (aO r t) r1 (.val (.int (k:Int))) (s7 r) (s8 r) (s9 r))):=by
  have tt (r:Ψ):aG sA (aw 5) (az kf (dC (.int (10))) (dC (.int (11)))) (dX (N.map r) o num D (aO r t) av (.val (.int (k:Int))) (s7 r) (s8 r) (s9 r))=some (decide (av<100000000000)):=IS rfl (dO rfl rfl K5) rfl
  by_cases h:av<100000000000
  . rw [decide_eq_true h] at tt
    exact ⟨m,λ r=>aY (b:=true) (tt r) (aK (d:=.int m) (iu rfl em) rfl)⟩
  . rw [decide_eq_false h] at tt
    exact ⟨av,λ r=>aY (b:=false) (tt r) rfl⟩
 obtain ⟨r1,s1⟩:=s1
 let kd:Int:=r1.fmod 4
 let r2:Int:=r1.fdiv 4
 have s2 (r:Ψ):aC (az bD (aw 5) (dC (.int (4)))) (ae 7) (dX (N.map r) o num D (aO r t) r1 (.val (.int (k:Int))) (s7 r) (s8 r) (s9 r))=some (.nx (dX (N.map r) o num D (aO r t) r1 (.val (.int (k:Int))) (.val (.int kd)) (s8 r) (s9 r))):=rfl
 have s3 (r:Ψ):aC (az cm (aw 5) (dC (.int (4)))) (ae 5) (dX (N.map r) o num D (aO r t) r1 (.val (.int (k:Int))) (.val (.int kd)) (s8 r) (s9 r))=some (.nx (dX (N.map r) o num D (aO r t) r2 (.val (.int (k:Int))) (.val (.int kd)) (s8 r) (s9 r))):=rfl
 have t4 (r:Ψ):aG c6 (aw 7) (dC (.int (0))) (dX (N.map r) o num D (aO r t) r2 (.val (.int (k:Int))) (.val (.int kd)) (s8 r) (s9 r))=some (decide (kd=0)):=rfl
 by_cases h0:kd=0
 . rw [decide_eq_true h0] at t4
   refine ⟨.box t,r2,λ _=>.val (.int kd),s8,s9,ig (zR g) (by omega) (by omega),.inr λ r=>?_⟩
   refine ak (s1 r) (ak (s2 r) (ak (s3 r) ?_))
   have:cG (aG c6 (aw 7) (dC (.int (0)))) (aB (aC (aM (aa (dC (.str "box")) (aa (af 4) ag))) (ae 4)) jq) aI (dX (N.map r) o num D (aO r t) r2 (.val (.int (k:Int))) (.val (.int kd)) (s8 r) (s9 r))=some (.ct (dX (N.map r) o num D (aO r (.box t)) r2 (.val (.int (k:Int))) (.val (.int kd)) (s8 r) (s9 r))):=by
    refine aY (b:=true) (t4 r) (if_pos rfl |>.trans ?_)
    exact ak (δ1:=dX (N.map r) o num D (aO r (.box t)) r2 (.val (.int (k:Int))) (.val (.int kd)) (s8 r) (s9 r)) (aK (kM rfl rfl) rfl) rfl
   exact Ic this
 . rw [decide_eq_false h0] at t4
   have s4:∃ (u:Tr) (r3:Int),ge o u 1 3/\∀ r:Ψ,cG (oi (aG c6 (aw 3) (dC (.int (6)))) (aG c6 (aw 6) (dC (.int (0))))) (aC (aW cj (aa (af 5) (aa (af 1) (aa (af 2) ag)))) (b8 2 (au (ae 8) (au (ae 5) bB)))) (aC (aW eJ (aa (af 5) (aa (af 1) (aa (af 2) ag)))) (b8 2 (au (ae 8) (au (ae 5) bB)))) (dX (N.map r) o num D (aO r t) r2 (.val (.int (k:Int))) (.val (.int kd)) (s8 r) (s9 r))=some (.nx (dX (N.map r) o num D (aO r t) r3 (.val (.int (k:Int))) (.val (.int kd)) (.val (tw (aO r u))) (s9 r))):=by
    have tt:∃ b,∀ r:Ψ,oi (aG c6 (aw 3) (dC (.int (6)))) (aG c6 (aw 6) (dC (.int (0)))) (dX (N.map r) o num D (aO r t) r2 (.val (.int (k:Int))) (.val (.int kd)) (s8 r) (s9 r))=some b:=by
     have tD6 (r:Ψ):aG c6 (aw 3) (dC (.int (6))) (dX (N.map r) o num D (aO r t) r2 (.val (.int (k:Int))) (.val (.int kd)) (s8 r) (s9 r))=some (decide ((D:Int)=6)):=rfl
     by_cases h6:(D:Int)=6
     . exact ⟨decide ((k:Int)=0),λ r=>dA (decide_eq_true h6▸tD6 r) rfl⟩
     . exact ⟨false,λ r=>Mx (decide_eq_false h6▸tD6 r)⟩
    obtain ⟨b,tt⟩:=tt
    cases b with
    | true=>
     obtain ⟨u,r3,eu,gu⟩:=jV (o:=o) hN hk r2
     exact ⟨u,r3,ig gu (by decide) (by decide),λ r=>aY (b:=true) (tt r) (aK (d:=.tuple [tw (aO r u),.int r3]) (iu rfl (eu r)) rfl)⟩
    | false=>
     obtain ⟨u,r3,eu,gu⟩:=vj (o:=o) hN hk r2
     exact ⟨u,r3,gu,λ r=>aY (b:=false) (tt r) (aK (d:=.tuple [tw (aO r u),.int r3]) (iu rfl (eu r)) rfl)⟩
   obtain ⟨u,r3,gu,s4⟩:=s4
   obtain ⟨q,_,eq⟩:=wU (λ k:Fin 7=>W.str (y0 k)) [0,1,2,3,4,5,6] r3 (by decide)
   have s5 (r:Ψ):aC (az aT (br (bE (aa (dC (.str "+")) (aa (dC (.str "-")) (aa (dC (.str "*")) (aa (dC (.str "div")) (aa (dC (.str "rem")) (aa (dC (.str "<")) (aa (dC (.str "=")) ag))))))))) (az bD (aw 5) (dC (.int (7))))) (ae 9) (dX (N.map r) o num D (aO r t) r3 (.val (.int (k:Int))) (.val (.int kd)) (.val (tw (aO r u))) (s9 r))=some (.nx (dX (N.map r) o num D (aO r t) r3 (.val (.int (k:Int))) (.val (.int kd)) (.val (tw (aO r u))) (.val (.str (y0 q))))):=aK (qa (l:=[W.str "+", .str "-", .str "*", .str "div", .str "rem", .str "<", .str "="]) rfl rfl eq) rfl
   have s6 (r:Ψ):aC (az cm (aw 5) (dC (.int (7)))) (ae 5) (dX (N.map r) o num D (aO r t) r3 (.val (.int (k:Int))) (.val (.int kd)) (.val (tw (aO r u))) (.val (.str (y0 q))))=some (.nx (dX (N.map r) o num D (aO r t) (r3.fdiv 7) (.val (.int (k:Int))) (.val (.int kd)) (.val (tw (aO r u))) (.val (.str (y0 q))))):=rfl
   have t7 (r:Ψ):aG c6 (aw 7) (dC (.int (1))) (dX (N.map r) o num D (aO r t) (r3.fdiv 7) (.val (.int (k:Int))) (.val (.int kd)) (.val (tw (aO r u))) (.val (.str (y0 q))))=some (decide (kd=1)):=rfl
   have s40 (r:Ψ):=aY (f:=aB (aC (aM (aa (dC (.str "box")) (aa (af 4) ag))) (ae 4)) jq) (g:=aI) (b:=false) (t4 r) rfl
   by_cases h1:kd=1
   . rw [decide_eq_true h1] at t7
     refine ⟨.op q t u,r3.fdiv 7,λ _=>.val (.int kd),λ r=>.val (tw (aO r u)),λ _=>.val (.str (y0 q)),ig (AD q g gu) (by omega) (by omega),.inl λ r=>?_⟩
     exact ak (s1 r) (ak (s2 r) (ak (s3 r) (ak (s40 r) (ak (s4 r) (ak (s5 r) (ak (s6 r) (aY (b:=true) (t7 r) (aK (d:=tw (aO r (.op q t u))) (BY rfl rfl rfl) rfl))))))))
   . rw [decide_eq_false h1] at t7
     refine ⟨.op q u t,r3.fdiv 7,λ _=>.val (.int kd),λ r=>.val (tw (aO r u)),λ _=>.val (.str (y0 q)),ig (AD q gu g) (by omega) (by omega),.inl λ r=>?_⟩
     exact ak (s1 r) (ak (s2 r) (ak (s3 r) (ak (s40 r) (ak (s4 r) (ak (s5 r) (ak (s6 r) (aY (b:=false) (t7 r) (aK (d:=tw (aO r (.op q u t))) (BY rfl rfl rfl) rfl))))))))
def Jz {h:η} {f:υ} {d:W} {ds:List W} {δ δ2 δ':DS} {o:Option dt} (h1:h d δ=some δ2) (h2:f δ2=some (.ct δ')) (h3:bh h f ds δ'=o):bh h f (d::ds) δ=o:=by
 rw [<-h3]
 show (h d δ).bind _=_
 rw [h1]
 show (match f δ2 with | some (.nx δ')=>_ | some (.ct δ')=>_ | some (.bk δ')=>_ | some (.rt d)=>_ | none=>_)=_
 rw [h2]
def w5 (hN:N.length=6) (hk:∀ x∈N,eY x) (D:Nat):∀ (n lo d c:Nat) (t:Tr) (av:Int) (s6 s7 s8 s9:(Ψ)->Sl),lo+n<100->ge o t d c->1<=d->∃ (t':Tr) (r':Int) (s6' s7' s8' s9':(Ψ)->Sl),ge o t' (d+n) (c+4*n)/\∀ r,bh (ae 6) c8 (eZ (lo:Int) n) (dX (N.map r) o num D (aO r t) av (s6 r) (s7 r) (s8 r) (s9 r))=some (.nx (dX (N.map r) o num D (aO r t') r' (s6' r) (s7' r) (s8' r) (s9' r)))
 | 0,lo,d,c,t,av,s6,s7,s8,s9,_,g,_=>⟨t,av,s6,s7,s8,s9,g,λ _=>rfl⟩
 | n+1,lo,d,c,t,av,s6,s7,s8,s9,hl,g,hd=>by
  obtain ⟨t1,r1,u7,u8,u9,g1,e1⟩:=CP (o:=o) (num:=num) hN hk D lo (by omega) t d c g av s7 s8 s9
  obtain ⟨t2,r2,v6,v7,v8,v9,g2,e2⟩:=w5 hN hk D n (lo+1) (d+1) (c+4) t1 r1 (λ _=>.val (.int (lo:Int))) u7 u8 u9 (by omega) (ig g1 (by omega) (le_refl _)) (by omega)
  refine ⟨t2,r2,v6,v7,v8,v9,ig g2 (by omega) (by omega),λ r=>?_⟩
  rw [f6]
  rcases e1 with e1 | e1
  . exact iY (δ2:=dX (N.map r) o num D (aO r t) av (.val (.int (lo:Int))) (s7 r) (s8 r) (s9 r)) rfl (e1 r) (e2 r)
  . exact Jz (δ2:=dX (N.map r) o num D (aO r t) av (.val (.int (lo:Int))) (s7 r) (s8 r) (s9 r)) rfl (e1 r) (e2 r)
def g9 (hN:N.length=6) (hk:∀ x∈N,eY x):∃ t:Tr,(∀ r:Ψ,aX [.int num,.list ((N.map r).map .str),.int o]=some (tw (aO r t)))/\ge o t 7 30/\(num.fmod 7<5->ge o t 7 5):=by
 have hm:=bG num (j:=7) (by decide)
 obtain ⟨D,eD,hD,hD1⟩:=Lo _ hm.1 hm.2
 obtain ⟨a,q,ea,ga⟩:=jV (o:=o) hN hk (num.fdiv 7)
 obtain ⟨t,r',s6,s7,s8,s9,g,e⟩:=w5 (o:=o) (num:=num) hN hk D D 0 1 1 a q (λ _=>.no) (λ _=>.no) (λ _=>.no) (λ _=>.no) (by omega) (ig ga (by decide) (by decide)) (by decide)
 refine ⟨t,λ r=>?_,ig g (by omega) (by omega),λ z=>ig g (by omega) (by have:=hD1 z;omega)⟩
 refine aZ rfl ?_
 refine ak (δ1:=[.val (.int num),.val (.list ((N.map r).map .str)),.val (.int o),.val (.int (D:Int)),.no,.no,.no,.no,.no,.no]) (aK (qa (l:=[W.int 0,.int 0,.int 0,.int 1,.int 1,.int 2,.int 6]) rfl rfl eD) rfl) ?_
 refine ak (δ1:=dX (N.map r) o num D (aO r a) q .no .no .no .no) (aK (d:=.tuple [tw (aO r a),.int q]) (iu rfl (ea r)) rfl) ?_
 refine ak (fQ (ds:=eZ 0 D) (gy (n:=D) rfl (by omega)) (e r)) rfl
end
inductive Op where
 | st (h:Hd) | opn (wh:Bool) (t:Tr) | fin | els
noncomputable def mi (wh:Bool):Fin 12:=if wh=true then 11 else 10
noncomputable def dj:Op->W
 | .st h=>.tuple (.str (dS (aD h))::rs h)
 | .opn wh t=>.tuple [.str (dS (mi wh)),tw t]
 | .fin=>.tuple [.str "end"]
 | .els=>.tuple [.str "else"]
noncomputable def gf (r:Ψ):Op->Op
 | .st h=>.st (ir r h)
 | .opn wh t=>.opn wh (aO r t)
 | .fin=>.fin
 | .els=>.els
noncomputable def PP (o:Int) (FN WD:Ω) (wh:Bool):Hd->Prop
 | .set x t=>strOk x=true/\ge o t 7 30
 | .put a b=>ge o a 7 30/\ge o b 7 30
 | .tell t=>ge o t 7 30
 | .ret t=>ge o t 7 30
 | .brk=>wh=true
 | .agn=>wh=true
 | .mt=>True
 | .stp=>True
 | .join x j t=>strOk x=true/\j∈WD/\ge o t 7 30
 | .call x f ts=>strOk x=true/\f∈FN/\ts.length<=6/\∀ t∈ts,ge o t 7 5
 | .ifs t _=>ge o t 7 30
 | .whl t _=>ge o t 7 30
noncomputable def xT (o:Int) (FN WD:Ω):Op->Prop
 | .st h=>i3 h=some []/\PP o FN WD true h
 | .opn _ t=>ge o t 7 30
 | _=>True
noncomputable abbrev Rm:=Str×List Str
noncomputable def di (r:Rm):W:=.tuple [.str r.1,.list (r.2.map .str)]
noncomputable def HU:Op->List Str
 | .st h=>(ol h).toList
 | _=>[]
noncomputable def bi (r:Ψ) (x:Rm):Rm:=(r x.1,x.2.map r)
structure GR (r:Ψ):Prop where
 m:∀ x,decide (r x=Str.ofString "main")=decide (x=Str.ofString "main")
 k:∀ x,strOk x=true->strOk (r x)=true
def GR.id:GR λ x=>x:=⟨λ _=>rfl,λ _ h=>h⟩
def mB {l:Ω} (h:∀ x∈l,strOk x=true):cC (l.map .str)=true/\bQ (l.map .str)<=0:=
 ⟨jW λ d hd=>by obtain ⟨x,h1,rfl⟩:=mem_map.mp hd;exact h x h1,kQ λ d hd=>by obtain ⟨x,h1,rfl⟩:=mem_map.mp hd;simp [cF]⟩
structure zV (FN:Ω) (r:Rm):Prop where
 n:strOk r.1=true
 p:∀ x∈r.2,strOk x=true
 l:r.2.length<=6
 f:r.1≠Str.ofString "main" -> r.1∈FN
def Hs {ds:List W} (h:cC ds=true) (hd:bQ ds<=60):c6 (.list ds) (.list [])=some ds.isEmpty:=by
 obtain ⟨a,a1,a2,a3,_⟩:=vo (.list ds) (by simpa [hJ] using h)
 obtain ⟨xs,b1,rfl⟩:=oM a1
 have p1:(W.list []).py=some (.list []):=rfl
 have c1:(PyData.list []).canLay0=true:=by simp [canLay0,canLayAll0]
 have s1:Jl (.list ds) (.list [])=none:=rfl
 have d1:(PyData.list xs).depth<=64:=by rw [a3];simp [cF];omega
 have e:PyData.eqv (.list xs) (.list [])=ds.isEmpty:=by
  cases ds with
  | nil=>cases b1;simp [PyData.eqv,eqvAll]
  | cons y ys=>
   simp only [W.pys] at b1
   obtain ⟨u,_,b2⟩:=oB b1
   obtain ⟨v,_,rfl⟩:=oM b2
   simp [PyData.eqv,eqvAll]
 simp only [c6,s1,a1,p1,bind_some,a2,c1,d1,decide_true,Bool.and_self,if_true,e]
def ND:kf (.int 10) (.int 4)=some (.int 10000):=by
 show (if nQ 10 4=true then some (W.int ((10:Int)^(4:Int).toNat)) else none)=_
 rw [if_pos (by decide +kernel)]
 rfl
def F3:kf (.int 10) (.int 12)=some (.int 1000000000000):=by
 show (if nQ 10 12=true then some (W.int ((10:Int)^(12:Int).toNat)) else none)=_
 rw [if_pos (by decide +kernel)]
 rfl
def Jy:kf (.int 10) (.int 9)=some (.int 1000000000):=by
 show (if nQ 10 9=true then some (W.int ((10:Int)^(9:Int).toNat)) else none)=_
 rw [if_pos (by decide +kernel)]
 rfl
def sW:∀ (R:List Rm),b6 (ae 0) (aG BS (az aT (aw 0) (dC (.int (0)))) (dC (.str "main"))) (af 0) [.no] (R.map di)=some ((R.filter λ r=>!decide (r.1=Str.ofString "main")).map di)
 | []=>rfl
 | r::R=>by
  have ih:=sW R
  by_cases h:r.1=Str.ofString "main"
  . have e:=decide_eq_true h
    simp! [map_cons,b6,di,uD,r9,e,Bool.not_true] at ih ⊢
    rw [ih]
    simp [e]
  . have e:=decide_eq_false h
    simp! [map_cons,b6,di,uD,r9,e,Bool.not_false] at ih ⊢
    rw [ih]
    simp [e,di]
def qT {r:Ψ} (g:GR r):∀ (R:List Rm),((R.map (bi r)).filter λ x=>!decide (x.1=Str.ofString "main"))=(R.filter λ x=>!decide (x.1=Str.ofString "main")).map (bi r)
 | []=>rfl
 | x::R=>by
  have e:decide ((bi r x).1=Str.ofString "main")=decide (x.1=Str.ofString "main"):=g.m x.1
  rw [map_cons]
  cases h:decide (x.1=Str.ofString "main") with
  | true=>rw [filter_cons_of_neg (by rw [e,h];decide),filter_cons_of_neg (by rw [h];decide),qT g R]
  | false=>rw [filter_cons_of_pos (by rw [e,h];decide),filter_cons_of_pos (by rw [h];decide),qT g R,map_cons]
section
variable {V:Ω} {o:Int} {FN WD:Ω}
def wX (hV:V.length=6) (hk:∀ x∈V,eY x) (s1 s3 s5 s6 s7:(Ψ)->Sl):∀ (n:Nat) (lo av:Int) (acc:List Tr) (s9:Sl),acc.length+n<100->(∀ t∈acc,ge o t 7 5)->∃ (ts:List Tr) (rest':Int) (s9':Sl),ts.length=acc.length+n/\(∀ t∈ts,ge o t 7 5)/\∀ r,bh (ae 9) jb (eZ lo n) [.val (.int av),s1 r,.val (.list ((V.map r).map .str)),s3 r,.val (.int o),s5 r,s6 r,s7 r,.own ((acc.map (aO r)).map tw),s9]=some (.nx [.val (.int rest'),s1 r,.val (.list ((V.map r).map .str)),s3 r,.val (.int o),s5 r,s6 r,s7 r,.own ((ts.map (aO r)).map tw),s9'])
 | 0,lo,av,acc,s9,_,ha=>⟨acc,av,s9,rfl,ha,λ _=>rfl⟩
 | n+1,lo,av,acc,s9,hl,ha=>by
  let num:Int:=av.fmod 1000*7+(av.fdiv 1000).fmod 5
  have h5:=bG (av.fdiv 1000) (j:=5) (by decide)
  have hn:num.fmod 7<5:=by
   have e:num.fmod 7=(av.fdiv 1000).fmod 5:=by
    rw [Int.fmod_eq_emod_of_nonneg _ (by decide)]
    show (av.fmod 1000*7+(av.fdiv 1000).fmod 5)%7=_
    omega
   omega
  obtain ⟨t,et,_,gt⟩:=g9 (num:=num) (o:=o) hV hk
  have gm:j7 (.int (av.fmod 1000)) (.int 7)=some (.int (av.fmod 1000*7)):=mM (Cp (by decide) (by decide))
  obtain ⟨ts,r',s9',l,g,e⟩:=wX hV hk s1 s3 s5 s6 s7 n (lo+1) (av.fdiv 10000) (acc++[t]) (.val (.int lo)) (by simp;omega) (λ u hu=>by
   rcases mem_append.mp hu with hu | hu
   . exact ha u hu
   . rw [mem_singleton.mp hu];exact gt hn)
  refine ⟨ts,r',s9',by simp at l;omega,g,λ r=>?_⟩
  rw [f6]
  exact iY (δ2:=[.val (.int av),s1 r,.val (.list ((V.map r).map .str)),s3 r,.val (.int o),s5 r,s6 r,s7 r,.own ((acc.map (aO r)).map tw),.val (.int lo)]) rfl (ak (δ1:=[.val (.int av),s1 r,.val (.list ((V.map r).map .str)),s3 r,.val (.int o),s5 r,s6 r,s7 r,.own (((acc++[t]).map (aO r)).map tw),.val (.int lo)]) ((LQ rfl (iu (xU (dO (dO rfl rfl gm) rfl rfl) rfl rfl) (et r)) (by rw [length_map,length_map];omega)).trans (by rw [map_append,map_append];rfl)) (aK (dO rfl (dO rfl rfl ND) rfl) rfl)) (e r)
def yt (hV:V.length=6) (hk:∀ x∈V,eY x) (R:List Rm) (hR:∀ r∈R,zV FN r) (hl:R.length<=10) (av:Int) (x:Str) (hx:strOk x=true):∃ op,(∀ y∈HU op,y=x)/\(∀ r,GR r->i7 [.int av,.str (r x),.list ((V.map r).map .str),.list ((R.map (bi r)).map di),.int o]=some (dj (gf r op)))/\xT o FN WD op:=by
 let T:=R.filter λ r=>!decide (r.1=Str.ofString "main")
 have tl:T.length<=R.length:=length_filter_le _ _
 have tR:∀ r∈T,zV FN r/\r.1≠Str.ofString "main" := λ r hr=>by
  obtain ⟨h1,h2⟩:=mem_filter.mp hr
  exact ⟨hR r h1,by simpa using h2⟩
 let δ (r:Ψ) (s5 s6 s7 s8 s9:Sl) (q:Int):DS:=[.val (.int q),.val (.str (r x)),.val (.list ((V.map r).map .str)),.val (.list ((R.map (bi r)).map di)),.val (.int o),s5,s6,s7,s8,s9]
 have st1 (r:Ψ) (gr:GR r):aC (br (gC [none] (bU (aw 3)) (ae 0) (aG BS (az aT (aw 0) (dC (.int (0)))) (dC (.str "main"))) (af 0))) (ae 5) (δ r .no .no .no .no .no av)=some (.nx (δ r (.val (.list ((T.map (bi r)).map di))) .no .no .no .no av)):=aK (KY rfl (by rw [length_map,length_map];omega) ((sW (R.map (bi r))).trans (by rw [qT gr]))) rfl
 have t1 (r:Ψ) (gr:GR r):aG c6 (aw 5) (br (bE ag)) (δ r (.val (.list ((T.map (bi r)).map di))) .no .no .no .no av)=some ((T.map (bi r)).map di).isEmpty:=by
  have ok:cC ((T.map (bi r)).map di)=true/\bQ ((T.map (bi r)).map di)<=2:=by
   have q:∀ d∈(T.map (bi r)).map di,hJ d=true/\cF d<=2:=λ d hd=>by
    obtain ⟨y,h1,rfl⟩:=mem_map.mp hd
    obtain ⟨z,h2,rfl⟩:=mem_map.mp h1
    have a:=mB (l:=z.2.map r) λ x hx=>by obtain ⟨y,hy,rfl⟩:=mem_map.mp hx;exact gr.k y ((tR z h2).1.p y hy)
    have b:=gr.k _ (tR z h2).1.n
    refine ⟨by simpa [bi,di,hJ,cC,b] using a.1,?_⟩
    have:=a.2
    simp only [bi,di,cF,bQ]
    omega
   exact ⟨jW λ d hd=>(q d hd).1,kQ λ d hd=>(q d hd).2⟩
  exact IS rfl rfl (Hs ok.1 (by omega))
 by_cases hT:T=[]
 . obtain ⟨t,et,gt,_⟩:=g9 (num:=av) (o:=o) hV hk
   exact ⟨.st (.tell t),(λ y hy=>absurd hy not_mem_nil),λ r gr=>aZ rfl (ak (st1 r gr) (fE (aY (b:=true) (by rw [t1 r gr,hT];rfl) (bo (kM rfl (iu rfl (et r))))))),rfl,gt⟩
 . have hp:0<T.length:=List.length_pos_iff.mpr hT
   have hf:=bG av (ofNat_lt.mpr hp)
   obtain ⟨q,hq,ea⟩:=uL T hf.1 hf.2
   have hr:=tR q hq
   obtain ⟨ts,r',s9',l,g,e⟩:=wX (o:=o) hV hk (λ r=>.val (.str (r x))) (λ r=>.val (.list ((R.map (bi r)).map di))) (λ r=>.val (.list ((T.map (bi r)).map di))) (λ r=>.val (.str (r q.1))) (λ r=>.val (.list ((q.2.map r).map .str))) q.2.length 0 (av.fdiv 3) [] .no (by have:=hr.1.l;simp;omega) (λ t ht=>absurd ht not_mem_nil)
   refine ⟨.st (.call x q.1 ts),(λ y hy=>mem_singleton.mp hy),λ r gr=>aZ rfl (ak (st1 r gr) (ak (aY (b:=false) ?_ rfl) ?_)),rfl,hx,hr.1.f hr.2,by have:=hr.1.l;simp at l;omega,g⟩
   . rw [t1 r gr]
     cases hq:(T.map (bi r)).map di with
     | nil=>exact absurd (List.map_eq_nil_iff.mp (List.map_eq_nil_iff.mp hq)) hT
     | cons a b=>rfl
   have md:=vG (λ y=>di (bi r y)) T av hp
   have eq:(T.map (bi r)).map di=T.map λ y=>di (bi r y):=by rw [map_map];rfl
   rw [<-eq] at md
   have ea':fu ((T.map (bi r)).map di) (av.fmod T.length)=some (di (bi r q)):=by rw [eq];exact ea _
   refine ak (δ1:=δ r (.val (.list ((T.map (bi r)).map di))) (.val (.str (r q.1))) (.val (.list ((q.2.map r).map .str))) .no .no av) (aK (d:=di (bi r q)) (qa rfl (dO rfl rfl md) ea') rfl) ?_
   refine ak (δ1:=δ r (.val (.list ((T.map (bi r)).map di))) (.val (.str (r q.1))) (.val (.list ((q.2.map r).map .str))) .no .no (av.fdiv 3)) rfl ?_
   refine ak (δ1:=δ r (.val (.list ((T.map (bi r)).map di))) (.val (.str (r q.1))) (.val (.list ((q.2.map r).map .str))) (.own ((([]:List Tr).map (aO r)).map tw)) .no (av.fdiv 3)) rfl ?_
   exact ak (fQ (ds:=eZ 0 q.2.length) (gy (n:=q.2.length) (by first | rfl | simp! [δ,uD,length_map]) (by have:=hr.1.l;omega)) (e r)) (bo (NU rfl rfl rfl rfl))
end
section
variable {V:Ω} {o:Int} {FN WD:Ω}
def HR (hV:V.length=6) (hk:∀ x∈V,eY x) (R:List Rm) (hR:∀ r∈R,zV FN r) (hl:R.length<=10) (hW:0<WD.length) (num:Int):∃ op,(∀ y∈HU op,y∈V)/\(∀ r,GR r->kX [.int num,.list ((V.map r).map .str),.list ((R.map (bi r)).map di),.int o,.list (WD.map .str)]=some (dj (gf r op)))/\xT o FN WD op:=by
 have h24:=bG num (j:=24) (by decide)
 obtain ⟨x,hx,ex⟩:=Br V hV (num.fdiv 24)
 have xo:=(hk x hx).ok
 let kd:=num.fmod 24
 let av:=num.fdiv 144
 let δ (r:Ψ) (s0:Sl):DS:=[s0,.val (.list ((V.map r).map .str)),.val (.list ((R.map (bi r)).map di)),.val (.int o),.val (.list (WD.map .str)),.val (.int kd),.val (.str (r x)),.val (.int av)]
 obtain ⟨t,et,gt,_⟩:=g9 (num:=av) (o:=o) hV hk
 have tl (r:Ψ):∀ m:Int,aG sA (aw 5) (dC (.int m)) (δ r (.val (.int num)))=some (decide (kd<m)):=λ m=>rfl
 have te (r:Ψ):∀ m:Int,aG c6 (aw 5) (dC (.int m)) (δ r (.val (.int num)))=some (decide (kd=m)):=λ m=>rfl
 have pre (r:Ψ):∀ {f:υ} {d:W},f (δ r (.val (.int num)))=some (.rt d)->aB (aC (az bD (aw 0) (dC (.int (24)))) (ae 5)) (aB (aC (az aT (aw 1) (az bD (az cm (aw 0) (dC (.int (24)))) (dC (.int (6))))) (ae 6)) (aB (aC (az cm (aw 0) (dC (.int (144)))) (ae 7)) f)) (bL 8 [.int num,.list ((V.map r).map .str),.list ((R.map (bi r)).map di),.int o,.list (WD.map .str)])=some (.rt d):=λ {f d} h=>by
  refine ak (δ1:=[.val (.int num),.val (.list ((V.map r).map .str)),.val (.list ((R.map (bi r)).map di)),.val (.int o),.val (.list (WD.map .str)),.val (.int kd),.no,.no]) rfl ?_
  refine ak (δ1:=[.val (.int num),.val (.list ((V.map r).map .str)),.val (.list ((R.map (bi r)).map di)),.val (.int o),.val (.list (WD.map .str)),.val (.int kd),.val (.str (r x)),.no]) (aK (qa rfl rfl (ex r)) rfl) ?_
  exact ak (δ1:=δ r (.val (.int num))) rfl h
 have F (r:Ψ):∀ {m:Int} {g k:υ},¬ kd<m->aB (cG (aG sA (aw 5) (dC (.int m))) g aI) k (δ r (.val (.int num)))=k (δ r (.val (.int num))):=λ {m g k} h=>ak (aY (b:=false) (by rw [tl r,decide_eq_false h]) rfl) rfl
 have FE (r:Ψ):∀ {m:Int} {g k:υ},¬ kd=m->aB (cG (aG c6 (aw 5) (dC (.int m))) g aI) k (δ r (.val (.int num)))=k (δ r (.val (.int num))):=λ {m g k} h=>ak (aY (b:=false) (by rw [te r,decide_eq_false h]) rfl) rfl
 have T (r:Ψ):∀ {m:Int} {g k:υ} {d:W},kd<m->g (δ r (.val (.int num)))=some (.rt d)->aB (cG (aG sA (aw 5) (dC (.int m))) g aI) k (δ r (.val (.int num)))=some (.rt d):=λ {m g k d} h e=>fE (aY (b:=true) (by rw [tl r,decide_eq_true h]) e)
 have TE (r:Ψ):∀ {m:Int} {g k:υ} {d:W},kd=m->g (δ r (.val (.int num)))=some (.rt d)->aB (cG (aG c6 (aw 5) (dC (.int m))) g aI) k (δ r (.val (.int num)))=some (.rt d):=λ {m g k d} h e=>fE (aY (b:=true) (by rw [te r,decide_eq_true h]) e)
 have g0:∀ {P:Str->Prop},∀ y∈([]:Ω),P y:=λ y hy=>absurd hy not_mem_nil
 have g1:∀ y∈[x],y∈V:=λ y hy=>by rw [mem_singleton.mp hy];exact hx
 by_cases h5:kd<5
 . exact ⟨.st (.set x t),g1,λ r g=>aZ rfl (pre r (T r h5 (bo (BY rfl rfl (iu rfl (et r)))))),rfl,xo,gt⟩
 by_cases h9:kd<9
 . obtain ⟨wh,_,ew⟩:=gP (λ wh=>W.str (dS (mi wh))) [false,false,true,true] (i:=kd-5) (by omega) (by show _<(4:Int);omega)
   exact ⟨.opn wh t,g0,λ r g=>aZ rfl (pre r ((F r h5).trans (T r h9 (bo (kM (qa (l:=[W.str "if", .str "if", .str "while", .str "while"]) rfl rfl ew) (iu rfl (et r))))))),gt⟩
 by_cases h13:kd<13
 . obtain ⟨w,_,ew⟩:=gP (λ w:Bool=>W.str (bif w then Str.ofString "else" else Str.ofString "end")) [false,false,false,true] (i:=kd-9) (by omega) (by show _<(4:Int);omega)
   exact ⟨bif w then .els else .fin,by cases w <;> exact g0,λ r g=>Eq.trans (aZ rfl (pre r ((F r h5).trans ((F r h9).trans (T r h13 (bo (Jd (qa (l:=[W.str "end", .str "end", .str "end", .str "else"]) rfl rfl ew)))))))) (by cases w <;> rfl),by cases w <;> trivial⟩
 by_cases h17:kd<17
 . obtain ⟨h,m,ew⟩:=gP (λ h=>W.str (dS (aD h))) [.brk,.agn,.mt,.stp] (i:=kd-13) (by omega) (by show _<(4:Int);omega)
   have all:∀ h∈[Hd.brk,.agn,.mt,.stp],(∀ r,ir r h=h)/\rs h=[]/\HU (.st h)=[]/\xT o FN WD (.st h):=forall_mem_cons.mpr ⟨⟨λ _=>rfl,rfl,rfl,rfl,rfl⟩,forall_mem_cons.mpr ⟨⟨λ _=>rfl,rfl,rfl,rfl,rfl⟩,forall_mem_cons.mpr ⟨⟨λ _=>rfl,rfl,rfl,rfl,trivial⟩,forall_mem_cons.mpr ⟨⟨λ _=>rfl,rfl,rfl,rfl,trivial⟩,λ _ h=>nomatch h⟩⟩⟩⟩
   exact ⟨.st h,by rw [(all h m).2.2.1];exact g0,λ r g=>Eq.trans (aZ rfl (pre r ((F r h5).trans ((F r h9).trans ((F r h13).trans (T r h17 (bo (Jd (qa (l:=[W.str "break", .str "again", .str "meet", .str "stop"]) rfl rfl ew))))))))) (by rw [gf,(all h m).1,dj,(all h m).2.1]),(all h m).2.2.2⟩
 by_cases h19:kd<19
 . obtain ⟨h,m,ew⟩:=gP (λ h=>W.str (dS (aD h))) [.tell t,.ret t] (i:=kd-17) (by omega) (by show _<(2:Int);omega)
   have all:∀ h∈[Hd.tell t,.ret t],(∀ r,dj (gf r (.st h))=.tuple [.str (dS (aD h)),tw (aO r t)])/\HU (.st h)=[]/\xT o FN WD (.st h):=forall_mem_cons.mpr ⟨⟨λ _=>rfl,rfl,rfl,gt⟩,forall_mem_cons.mpr ⟨⟨λ _=>rfl,rfl,rfl,gt⟩,λ _ h=>nomatch h⟩⟩
   exact ⟨.st h,by rw [(all h m).2.1];exact g0,λ r g=>Eq.trans (aZ rfl (pre r ((F r h5).trans ((F r h9).trans ((F r h13).trans ((F r h17).trans (T r h19 (bo (kM (qa (l:=[W.str "tell", .str "return"]) rfl rfl ew) (iu rfl (et r))))))))))) (congrArg some ((all h m).1 r).symm),(all h m).2.2⟩
 by_cases e19:kd=19
 . obtain ⟨a,ea,ga,_⟩:=g9 (num:=av.fdiv 1000000000000) (o:=o) hV hk
   obtain ⟨b,eb,gb,_⟩:=g9 (num:=av.fmod 1000000000000) (o:=o) hV hk
   exact ⟨.st (.put b a),g0,λ r g=>aZ rfl (pre r ((F r h5).trans ((F r h9).trans ((F r h13).trans ((F r h17).trans ((F r h19).trans (TE r e19 (ak (δ1:=δ r (.val (tw (aO r a)))) (aK (iu (iw (dO rfl (dO rfl rfl F3) rfl) rfl) (ea r)) rfl) (bo (BY rfl (iu (iw (dO rfl (dO rfl rfl F3) rfl) rfl) (eb r)) rfl)))))))))),rfl,gb,ga⟩
 by_cases e20:kd=20
 . obtain ⟨j,hj,aj⟩:=wU W.str WD av hW
   obtain ⟨b,eb,gb,_⟩:=g9 (num:=av.fdiv 4) (o:=o) hV hk
   exact ⟨.st (.join x j b),g1,λ r g=>aZ rfl (pre r ((F r h5).trans ((F r h9).trans ((F r h13).trans ((F r h17).trans ((F r h19).trans ((FE r e19).trans (TE r e20 (bo (NU rfl rfl (qa rfl (dO rfl rfl (vG W.str WD av hW)) aj) (iu rfl (eb r)))))))))))),rfl,xo,hj,gb⟩
 . obtain ⟨op,go,eo,ho⟩:=yt (WD:=WD) (o:=o) hV hk R hR hl av x xo
   exact ⟨op,(λ y hy=>go y hy▸hx),λ r g=>aZ rfl (pre r ((F r h5).trans ((F r h9).trans ((F r h13).trans ((F r h17).trans ((F r h19).trans ((FE r e19).trans ((FE r e20).trans (bo (iu rfl (eo r g))))))))))),ho⟩
end
structure Fr where
 id:Nat
 wh:Bool
 ln:Int
 t:Tr
 up:Nat
 a:Nat
 b:Option Nat
 ca:ω
 cs:ω
noncomputable def bW:Option Nat->W
 | none=>.none
 | some b=>.ref b
noncomputable def oz (f:Fr):List W:=[.str (dS (mi f.wh)),.int f.ln,tw f.t,.ref f.up,.ref f.a,bW f.b]
noncomputable def kB (f:Fr):Nat:=f.b.getD f.a
noncomputable def cf (fs:List Fr):List W:=fs.reverse.map λ f=>.ref f.id
def k2:∀ i:Fin 12,decide (dS i=Str.ofString "break")=decide (i=4)/\decide (dS i=Str.ofString "again")=decide (i=5)/\decide (dS i=Str.ofString "else")=false/\decide (dS i=Str.ofString "end")=false:=by decide +kernel
def kE:decide (Str.ofString "else" = Str.ofString "break")=false/\decide (Str.ofString "else" = Str.ofString "again")=false/\decide (Str.ofString "end" = Str.ofString "break")=false/\decide (Str.ofString "end" = Str.ofString "again")=false/\decide (Str.ofString "end" = Str.ofString "else")=false/\decide (Str.ofString "else" = Str.ofString "end")=false:=by decide +kernel
def kO:∀ wh:Bool,decide (dS (mi wh)=Str.ofString "while")=wh/\decide (dS (mi wh)=Str.ofString "if") = !wh:=by decide +kernel
def A0 {fo:ζ} {δ:DS} {S:ah} {l:Nat} {es:List W} {i:Int} {x:W} (h1:fo δ S=some (.ok (.ref l),S)) (h2:S[l]?=some (.lst es)) (h3:fu es i=some x):sIx fo (ab (dC (.int i))) δ S=some (.ok x,S):=by
 have v:ab (dC (.int i)) δ S=some (.ok (.int i),S):=rfl
 simp only [sIx,h1,v,aq,Ff h2,h3,iq,map_some]
def MY {fo:ζ} {δ:DS} {S:ah} {l:Nat} {es:List W} {x:W} (h1:fo δ S=some (.ok (.ref l),S)) (h2:S[l]?=some (.lst (es++[x]))):sIx fo (ab (BZ lX (dC (.int (1))))) δ S=some (.ok x,S):=by
 have v:ab (BZ lX (dC (.int (1)))) δ S=some (.ok (.int (-1)),S):=rfl
 simp only [sIx,h1,v,aq,Ff h2,J7,iq,map_some]
def NG {fa:ζ} {δ:DS} {S:ah} {a b:Str} (h:fa δ S=some (.ok (.str a),S)):wJ false fa (ab (dC (.str b))) δ S=some (.ok (decide (a=b)),S):=by
 have v:ab (dC (.str b)) δ S=some (.ok (.str b),S):=rfl
 have e:yD false (.str a) (.str b) S=some (decide (a=b)):=rfl
 simp only [wJ,h,v,aq,e,iq,map_some]
def Mm {f:DS->ah->SM Bool} {δ:DS} {S:ah} {b:Bool} (h:f δ S=some (.ok b,S)):sB f δ S=some (.ok (.bool b),S):=by simp only [sB,h,aq]
def Ka {fa fb:ζ} {δ:DS} {S:ah} {l:Nat} {es:List W} (h1:fa δ S=some (.ok (.ref l),S)) (h2:S[l]?=some (.lst es)) (h3:fb δ S=some (.ok (.list []),S)):tj true fa fb δ S=some (.ok (.bool (!es.isEmpty)),S):=by
 simp only [tj,h1,h3,aq,K8,fg h2,iO,bind_some,if_true,iq,map_some]
 cases es <;> rfl
section
variable {S:ah} {p:Nat} {fs:List Fr}
noncomputable def n4 (main:Bool) (fs:List Fr):Op->Bool
 | .st h=>if aD h=4∨aD h=5 then fs.any (·.wh) else (decide (aD h≠3) || !main)
 | .els=>match fs with | []=>false | f::_=>!f.wh&&f.b.isNone
 | .fin=>!fs.isEmpty
 | .opn _ _=>decide (fs.length<5)
def G8 (fs:List Fr):Al (λ x y=>∃ f∈fs,x=.ref f.id/\y=.bool f.wh) (cf fs) ((fs.reverse.map (·.wh)).map .bool):=by
 have:∀ l:List Fr,(∀ f∈l,f∈fs)->Al (λ x y=>∃ f∈fs,x=W.ref f.id/\y=.bool f.wh) (l.map λ f=>.ref f.id) ((l.map (·.wh)).map .bool):=λ l=>by
  induction l with
  | nil=>intro _;exact .nil
  | cons f l ih=>intro h;exact .cons ⟨f,h f (by simp),rfl,rfl⟩ (ih λ g hg=>h g (by simp [hg]))
 exact this fs.reverse λ f hf=>List.mem_reverse.mp hf
def D6 (hp:S[p]?=some (.lst (cf fs))) (hf:∀ f∈fs,S[f.id]?=some (.lst (oz f))) (hl:fs.length<=10) (main:Bool) (op:Op) (ho:∀ h,op=.st h->aD h≠10/\aD h≠11):b7 [dj op,.ref p,.bool main] S=some (.ok (.bool (n4 main fs op)),S):=by
 have z0:=sz 0 (by decide)
 let δ:DS:=[.val (dj op),.val (.ref p),.val (.bool main)]
 have v1:ab (af 1) δ S=some (.ok (.ref p),S):=rfl
 have vn:ab (br (bE ag)) δ S=some (.ok (.list []),S):=ao (by first | rfl | simp! [uD,if_pos z0])
 refine (bt rfl).trans ((congrArg fw (?_:_=some (.rt (.bool (n4 main fs op)),S))).trans rfl)
 have run:∀ (w:Str) (c1 c2 c3 c4:Bool),az aT (aw 0) (dC (.int (0))) δ=some (.str w)->(decide (w=Str.ofString "break")||decide (w=Str.ofString "again"))=c1->decide (w=Str.ofString "else")=c2->decide (w=Str.ofString "end")=c3->(decide (w=Str.ofString "if")||decide (w=Str.ofString "while"))=c4->
  pC (aG c6 (az aT (aw 0) (dC (.int (0)))) (dC (.str "break"))) (aG c6 (az aT (aw 0) (dC (.int (0)))) (dC (.str "again"))) δ=some c1/\aG c6 (az aT (aw 0) (dC (.int (0)))) (dC (.str "else")) δ=some c2/\aG c6 (az aT (aw 0) (dC (.int (0)))) (dC (.str "end")) δ=some c3/\pC (aG c6 (az aT (aw 0) (dC (.int (0)))) (dC (.str "if"))) (aG c6 (az aT (aw 0) (dC (.int (0)))) (dC (.str "while"))) δ=some c4:=λ w c1 c2 c3 c4 h0 h1 h2 h3 h4=>by
  have orr:∀ {f g:DS->Option Bool} {a b:Bool},f δ=some a->g δ=some b->pC f g δ=some (a||b):=λ {f g a b} h h'=>by
   cases a with
   | true=>exact Hk h
   | false=>cases b with
    | true=>exact Ik h h'
    | false=>exact Hj h h'
  exact ⟨by rw [orr (tD h0) (tD h0),h1],by rw [tD h0,h2],by rw [tD h0,h3],by rw [orr (tD h0) (tD h0),h4]⟩
 cases op with
 | st h=>
  obtain ⟨n10,n11⟩:=ho h rfl
  have q:=k2 (aD h)
  have q':=kq (aD h)
  have a0:az aT (aw 0) (dC (.int (0))) δ=some (.str (dS (aD h))):=x0 rfl
  obtain ⟨t1,t2,t3,t4⟩:=run (dS (aD h)) (decide (aD h=4)||decide (aD h=5)) false false false a0 (by rw [q.1,q.2.1]) q.2.2.1 q.2.2.2 (by rw [q'.1,q'.2.1,decide_eq_false n10,decide_eq_false n11];rfl)
  by_cases hb:aD h=4∨aD h=5
  . have e1:(decide (aD h=4)||decide (aD h=5))=true:=by simpa using hb
    rw [e1] at t1
    refine fF ((dZ (ao t1)).trans (dm ?_))
    have lk:=xp hp
    have cl:=AB (h:=ae 0) (fe:=sB (wJ false (sIx (ab (af 0)) (ab (dC (.int (0))))) (ab (dC (.str "while"))))) (δ:=[.no]) lk (λ x y r=>by
     obtain ⟨f,hm,rfl,rfl⟩:=r
     refine ⟨[.val (.ref f.id)],rfl,?_⟩
     have:=Mm (NG (b:=Str.ofString "while") (A0 (fo:=ab (af 0)) (δ:=[.val (.ref f.id)]) rfl (hf f hm) (r9 _ _)))
     rw [(kO f.wh).1] at this
     exact this) (G8 fs) 9000 0 rfl (by simp [cf];omega)
    have c:=xY (S:=S) (ix:=[none]) (fi:=iB (ab (af 1))) (δ:=δ) (n:=(p,false)) (S0:=S) (m:=9000) (by simp only [iB,v1,aq,fg hp,map_some]) (sz 9000 (by decide)) cl
    have an:(fs.reverse.map (·.wh)).any id=fs.any (·.wh):=by rw [List.any_map,List.any_reverse];rfl
    have ms:n4 main (fs) (.st h)=fs.any (·.wh):=by simp only [n4,if_pos hb]
    simp only [LG,c,aq,FI,iO,bind_some,zJ,map_some,iq,an,ms]
  . have e1:(decide (aD h=4)||decide (aD h=5))=false:=by simpa using hb
    rw [e1] at t1
    refine (ai (δ':=δ) (S':=S) ((bP (ao t1)).trans rfl)).trans ?_
    refine (ai (δ':=δ) (S':=S) ((bP (ao t2)).trans rfl)).trans ?_
    refine (ai (δ':=δ) (S':=S) ((bP (ao t3)).trans rfl)).trans ?_
    refine (ai (δ':=δ) (S':=S) ((bP (ao t4)).trans rfl)).trans ?_
    refine lp (bo ?_)
    have nr:dB (aG BS (az aT (aw 0) (dC (.int (0)))) (dC (.str "return"))) δ=some (.bool (!decide (aD h=3))):=by
     have c:BS (.str (dS (aD h))) (.str "return")=some (!decide (dS (aD h)=Str.ofString "return")):=rfl
     rw [q'.2.2.1] at c
     simp only [dB,aG,a0,dC,bind_some,c,map_some]
    have nv:wB (af 2) δ=some (.bool (!main)):=rfl
    simp only [Eh,nr,nv,bind_some,o0,n4,if_neg hb]
    by_cases h3:aD h=3 <;> simp [h3]
 | opn wh t=>
  have a0:az aT (aw 0) (dC (.int (0))) δ=some (.str (dS (mi wh))):=x0 rfl
  have q:=k2 (mi wh)
  have w4:decide (mi wh=4)=false/\decide (mi wh=5)=false:=by cases wh <;> decide
  obtain ⟨t1,t2,t3,t4⟩:=run (dS (mi wh)) false false false true a0 (by rw [q.1,q.2.1,w4.1,w4.2];rfl) q.2.2.1 q.2.2.2 (by rw [(kO wh).1,(kO wh).2];cases wh <;> rfl)
  refine (ai (δ':=δ) (S':=S) ((bP (ao t1)).trans rfl)).trans ?_
  refine (ai (δ':=δ) (S':=S) ((bP (ao t2)).trans rfl)).trans ?_
  refine (ai (δ':=δ) (S':=S) ((bP (ao t3)).trans rfl)).trans ?_
  refine fF ((dZ (ao t4)).trans (dm (Mm ?_)))
  have v5:ab (dC (.int (5))) δ S=some (.ok (.int 5),S):=rfl
  have ll:sD (.ref p) S=some (.int (fs.length:Nat)):=by simp [sD,fg hp,cf]
  simp only [uY,Ea,v1,v5,aq,ll,iq,map_some]
  show some (Rs.ok (decide ((fs.length:Int)<5)),S)=some (Rs.ok (decide (fs.length<5)),S)
  by_cases h5:fs.length<5
  . rw [decide_eq_true h5,decide_eq_true (by omega)]
  . rw [decide_eq_false h5,decide_eq_false (by omega)]
 | fin=>
  have a0:az aT (aw 0) (dC (.int (0))) δ=some (.str "end"):=x0 rfl
  obtain ⟨t1,t2,t3,t4⟩:=run (Str.ofString "end") false false true _ a0 (by rw [kE.2.2.1,kE.2.2.2.1];rfl) kE.2.2.2.2.1 (decide_eq_true rfl) rfl
  refine (ai (δ':=δ) (S':=S) ((bP (ao t1)).trans rfl)).trans ?_
  refine (ai (δ':=δ) (S':=S) ((bP (ao t2)).trans rfl)).trans ?_
  refine fF ((dZ (ao t3)).trans (dm ?_))
  rw [Ka v1 hp vn]
  simp [n4,cf]
 | els=>
  have a0:az aT (aw 0) (dC (.int (0))) δ=some (.str "else"):=x0 rfl
  obtain ⟨t1,t2,t3,t4⟩:=run (Str.ofString "else") false true _ _ a0 (by rw [kE.1,kE.2.1];rfl) (decide_eq_true rfl) rfl rfl
  refine (ai (δ':=δ) (S':=S) ((bP (ao t1)).trans rfl)).trans ?_
  refine fF ((dZ (ao t2)).trans (dm ?_))
  have n1:=Ka v1 hp vn
  cases fs with
  | nil=>
   simp only [lR,n1,aq,o0,bind_some]
   rfl
  | cons f fs=>
   have hp':S[p]?=some (.lst ((fs.reverse.map λ f=>W.ref f.id)++[.ref f.id])):=by rw [hp];simp [cf]
   have hff:=hf f (by simp)
   have i0:=A0 (i:=0) (MY v1 hp') hff (r9 _ _)
   have i5:=A0 (i:=5) (MY v1 hp') hff (Mt _ _ _ _ _ _ _)
   have e1:=Mm (NG (b:=Str.ofString "if") i0)
   rw [(kO f.wh).2] at e1
   have e2:sB (uY oH (sIx (sIx (ab (af 1)) (ab (BZ lX (dC (.int (1)))))) (ab (dC (.int (5))))) (ab (dC .none))) δ S=some (.ok (.bool f.b.isNone),S):=by
    refine Mm ?_
    have vN:ab (dC .none) δ S=some (.ok .none,S):=rfl
    simp only [uY,i5,vN,aq]
    cases f.b <;> rfl
   have n2:(!(cf (f::fs)).isEmpty)=true:=by simp [cf]
   rw [n2] at n1
   simp only [lR,n1,aq,o0,bind_some,if_true,e1,e2,n4]
   cases f.wh <;> rfl
def CQ {f:Fr} (hf:S[f.id]?=some (.lst (oz f))):eB [.ref f.id] S=some (.ok (if f.wh=true then .tuple [.str (dS 11),.int f.ln,tw f.t,.ref f.a] else .tuple [.str (dS 10),.int f.ln,tw f.t,.ref f.a,bW f.b]),S):=by
 have z4:=sz 4 (by decide)
 have z5:=sz 5 (by decide)
 let δ:DS:=[.val (.ref f.id)]
 have v0:ab (af 0) δ S=some (.ok (.ref f.id),S):=rfl
 have i0:=A0 (i:=0) v0 hf (r9 _ _)
 have i1:=A0 (i:=1) v0 hf (Fs _ _ _)
 have i2:=A0 (i:=2) v0 hf (NY _ _ _ _)
 have i4:=A0 (i:=4) v0 hf (Nz _ _ _ _ _ _)
 have i5:=A0 (i:=5) v0 hf (Mt _ _ _ _ _ _ _)
 have e1:=NG (b:=Str.ofString "if") i0
 rw [(kO f.wh).2] at e1
 refine (bt rfl).trans ?_
 cases hw:f.wh with
 | true=>
  rw [hw] at e1
  refine (congrArg fw (?_:_=some (.rt (.tuple [.str (dS 11),.int f.ln,tw f.t,.ref f.a]),S))).trans rfl
  refine (ai (δ':=δ) (S':=S) ((bP e1).trans rfl)).trans (dm ?_)
  have c:=bz (f:=ab (dC (.str "while"))) (δ:=δ) (S:=S) rfl (bz i1 (bz i2 (bz (g:=jZ) i4 rfl)))
  simp only [oI,c,aq,length_cons,length_nil]
  rw [if_pos z4]
  rfl
 | false=>
  rw [hw] at e1
  refine (congrArg fw (?_:_=some (.rt (.tuple [.str (dS 10),.int f.ln,tw f.t,.ref f.a,bW f.b]),S))).trans rfl
  refine fF ((dZ e1).trans (dm ?_))
  have c:=bz (f:=ab (dC (.str "if"))) (δ:=δ) (S:=S) rfl (bz i1 (bz i2 (bz i4 (bz (g:=jZ) i5 rfl))))
  simp only [oI,c,aq,length_cons,length_nil]
  rw [if_pos z5]
  rfl
end
def Mu:∀ k:Fin 7,strOk (y0 k)=true:=by decide +kernel
def zL {k:Fin 7} {a b:Tr} (h:Fd (.op k a b)):Fd a/\Fd b:=⟨λ x hx=>h x (by rw [vL];simp [hx]),λ x hx=>h x (by rw [vL];simp [hx])⟩
def sZ:∀ (t:Tr),Fd t->hJ (tw t)=true
 | .num v,_=>by simp only [tw,hJ,cC,Bool.and_true];decide +kernel
 | .sig k,_=>by simp only [tw,hJ,cC,Bool.and_true];exact Hu k
 | .nam x,h=>by
  have:=h x (by simp [nms,yP,fz])
  simp only [tw,hJ,cC,Bool.and_true,this]
  decide +kernel
 | .box t,h=>by
  have:=sZ t (λ x hx=>h x (by simpa [nms,fz] using hx))
  simp only [tw,hJ,cC,Bool.and_true,this]
  decide +kernel
 | .op k t u,h=>by
  have h1:=sZ t (zL h).1
  have h2:=sZ u (zL h).2
  simp only [tw,hJ,cC,Bool.and_true,h1,h2]
  exact Mu k
def mW:∀ (t:Tr),cF (tw t)<=pM t+1
 | .num v=>by simp [tw,cF,bQ,pM]
 | .sig k=>by simp [tw,cF,bQ,pM]
 | .nam x=>by simp [tw,cF,bQ,pM]
 | .box t=>by have:=mW t;simp [tw,cF,bQ,pM];omega
 | .op k t u=>by have:=mW t;have:=mW u;simp [tw,cF,bQ,pM];omega
def f7 {f g:W->Option W} (h:∀ d e,f d=some e->g d=some e):∀ (ds es:List W),dr f ds=some es->dr g ds=some es
 | [],es,e=>e
 | d::ds,es,e=>by
  obtain ⟨x,e1,e⟩:=oB e
  obtain ⟨xs,e2,rfl⟩:=oM e
  show (g d).bind _=_
  rw [h d x e1]
  show (dr g ds).map _=_
  rw [f7 h ds xs e2]
  rfl
def hU {F G:χ} (h:∀ k ds,F k=some ds->G k=some ds):∀ (n m:Nat) (d e:W),n<=m->rW F n d=some e->rW G m d=some e
 | 0,_,_,_,_,e=>by cases e
 | n+1,0,_,_,hm,_=>by omega
 | n+1,m+1,d,e,hm,q=>by
  have ih:=f7 λ d e=>hU h n m d e (by omega)
  cases d with
  | ref k=>
   obtain ⟨ds,hF,q⟩:=oB q
   obtain ⟨es,q1,rfl⟩:=oM q
   show (G k).bind _=_
   rw [h k ds hF]
   show (dr (rW G m) ds).map _=_
   rw [ih ds es q1]
   rfl
  | list ds=>
   obtain ⟨es,q1,rfl⟩:=oM q
   show (dr (rW G m) ds).map _=_
   rw [ih ds es q1]
   rfl
  | tuple ds=>
   obtain ⟨es,q1,rfl⟩:=oM q
   show (dr (rW G m) ds).map _=_
   rw [ih ds es q1]
   rfl
  | _=>exact q
mutual
theorem tH (F:χ):∀ (n:Nat) (d:W),hJ d=true->cF d<n->rW F n d=some d
 | 0,_,_,h=>absurd h (not_lt_zero _)
 | n+1,.none,_,_=>rfl
 | n+1,.bool _,_,_=>rfl
 | n+1,.int _,_,_=>rfl
 | n+1,.str _,_,_=>rfl
 | n+1,.list ds,h,hd=>by
  show (dr (rW F n) ds).map _=_
  rw [Bu F n ds (by simpa [hJ] using h) (by simp only [cF] at hd;omega)]
  rfl
 | n+1,.tuple ds,h,hd=>by
  show (dr (rW F n) ds).map _=_
  rw [Bu F n ds (by simpa [hJ] using h) (by simp only [cF] at hd;omega)]
  rfl
 | n+1,.ref _,h,_=>by simp [hJ] at h
theorem Bu (F:χ):∀ (n:Nat) (ds:List W),cC ds=true->bQ ds<n->dr (rW F n) ds=some ds
 | n,[],_,_=>rfl
 | n,d::ds,h,hd=>by
  simp only [cC,and_eq_true] at h
  simp only [bQ] at hd
  show (rW F n d).bind _=_
  rw [tH F n d h.1 (by omega)]
  show (dr (rW F n) ds).map _=_
  rw [Bu F n ds h.2 (by omega)]
  rfl
end
def n6 {f:W->Option W}:∀ {a b x y:List W},dr f a=some x->dr f b=some y->dr f (a++b)=some (x++y)
 | [],b,x,y,ha,hb=>by cases ha;exact hb
 | d::a,b,x,y,ha,hb=>by
  obtain ⟨u,e1,e⟩:=oB ha
  obtain ⟨us,e2,rfl⟩:=oM e
  show (f d).bind _=_
  rw [e1]
  show (dr f (a++b)).map _=_
  rw [n6 e2 hb]
  rfl
def ba {f:W->Option W} {d x:W} {ds xs:List W} (h1:f d=some x) (h2:dr f ds=some xs):dr f (d::ds)=some (x::xs):=by
 show (f d).bind _=_
 rw [h1]
 show (dr f ds).map _=_
 rw [h2]
 rfl
def nz.snoc {P:π} {n:Nat} {wh:Bool} {k:Int} {h:Hd} {c':Nat} (g:yX P n wh h c'):∀ (cs:ω) (c:Nat),nz P n wh cs c->nz P n wh (cs++[(k,h)]) (c+c')
 | [],c,q=>by
  cases q
  have:=nz.cons (k:=k) g .nil
  simpa using this
 | b::cs,c,q=>by
  cases q with
  | cons g1 g2=>
   rw [add_assoc]
   exact nz.cons g1 (nz.snoc g cs _ g2)
section
variable {P:π} {o:Int} {body p K0:Nat} {out:ω}
noncomputable def kH (fs:List Fr):Bool:=fs.any (·.wh)
noncomputable def Gt (P:π) (F:χ) (i:Nat) (wh:Bool) (ws:List W) (cs:ω) (c:Nat):Prop:=dr (rW F (27-3*i)) ws=some (bS cs)/\nz P (5-i) wh cs c
def Gt.mono {F G:χ} (h:∀ k ds,F k=some ds->G k=some ds) {i:Nat} {wh:Bool} {ws:List W} {cs:ω} {c:Nat} (l:Gt P F i wh ws cs c):Gt P G i wh ws cs c:=⟨f7 (λ d e=>hU h _ _ d e (le_refl _)) _ _ l.1,l.2⟩
noncomputable def Fn (P:π) (F:χ) (i:Nat) (wh:Bool) (f:Fr) (n:Nat):Prop:=match f.b with
 | none=>n=0
 | some _=>f.wh=false/\∃ wa,F f.a=some wa/\Gt P F i wh wa f.ca n
def Fn.mono {F G:χ} (h:∀ k ds,F k=some ds->G k=some ds) {i:Nat} {wh:Bool} {f:Fr} {n:Nat} (l:Fn P F i wh f n):Fn P G i wh f n:=by
 unfold Fn at l ⊢
 cases hb:f.b with
 | none=>rw [hb] at l;exact l
 | some b=>rw [hb] at l;obtain ⟨a,wa,e,q⟩:=l;exact ⟨a,wa,h _ _ e,q.mono h⟩
noncomputable def LI (P:π) (o:Int) (S:ah) (F:χ) (body:Nat) (out:ω):List Fr->Nat->Nat->Prop
 | [],h,n=>h=body/\∃ ws,S[body]?=some (.lst ws)/\Gt P F 0 false ws out n
 | f::fs,h,n=>∃ n1 n2 n3 ws,h=kB f/\S[f.id]?=some (.lst (oz f))/\ge o f.t 7 30/\S[h]?=some (.lst ws)/\Gt P F (fs.length+1) (kH (f::fs)) ws f.cs n1/\Fn P F (fs.length+1) (kH (f::fs)) f n2/\LI P o S F body out fs f.up n3/\n=n1+n2+n3+1
noncomputable def nJ (x:Bk):List Fr->List Fr
 | []=>[]
 | f::fs=>{ f with cs:=f.cs++[x] }::fs
noncomputable def ui (x:Bk) (out:ω):List Fr->List Bk
 | []=>out++[x]
 | _::_=>out
noncomputable def kb:List Fr->List Nat
 | []=>[]
 | f::fs=>f.id::kB f::kb fs
def LI.move {S S':ah} {F G:χ} (hF:∀ k ds,F k=some ds->G k=some ds):∀ (fs:List Fr) (h n:Nat),(∀ k∈body::kb fs,S'[k]?=S[k]?)->LI P o S F body out fs h n->LI P o S' G body out fs h n
 | [],h,n,hs,q=>by
  obtain ⟨e,ws,h1,h2⟩:=q
  exact ⟨e,ws,by rw [hs body (by simp)];exact h1,h2.mono hF⟩
 | f::fs,h,n,hs,q=>by
  obtain ⟨n1,n2,n3,ws,e,h1,h2,h3,h4,h5,h6,h7⟩:=q
  exact ⟨n1,n2,n3,ws,e,by rw [hs f.id (by simp [kb])];exact h1,h2,by rw [e,hs (kB f) (by simp [kb]),<-e];exact h3,h4.mono hF,h5.mono hF,LI.move hF fs f.up n3 (λ k hk=>hs k (by simp only [kb,mem_cons] at hk ⊢;rcases hk with hk | hk <;> simp [hk])) h6,h7⟩
def LI.here {S:ah} {F:χ}:∀ (fs:List Fr) (h n:Nat),LI P o S F body out fs h n->h∈body::kb fs
 | [],h,n,q=>by simp [q.1]
 | f::fs,h,n,q=>by
  obtain ⟨_,_,_,_,e,_⟩:=q
  simp [kb,e]
def LI.app {S:ah} {F:χ}:∀ (fs:List Fr) (h n:Nat),(body::kb fs).Nodup->LI P o S F body out fs h n->∃ ws,S[h]?=some (.lst ws)/\∀ (w:W) (k:Int) (hd:Hd) (c:Nat),rW F (27-3*fs.length) w=some (dM k hd)->yX P (5-fs.length) (kH fs) hd c->LI P o (S.set h (.lst (ws++[w]))) F body (ui (k,hd) out fs) (nJ (k,hd) fs) h (n+c)
 | [],h,n,_,q=>by
  obtain ⟨e,ws,h1,h2,h3⟩:=q
  subst e
  exact ⟨ws,h1,λ w k hd c hw hg=>⟨rfl,ws++[w],set_eq' h1,by
   have:=n6 h2 (ba (ds:=[]) hw rfl)
   simpa [bS,dE,ui] using this,nz.snoc hg _ _ h3⟩⟩
 | f::fs,h,n,hn,q=>by
  obtain ⟨n1,n2,n3,ws,e,h1,h2,h3,⟨h4,h4'⟩,h5,h6,h7⟩:=q
  subst e
  simp only [kb] at hn
  have d1:kB f≠f.id:=λ z=>by rw [nodup_cons,nodup_cons] at hn;exact hn.2.1 (by simp [z])
  have d2:∀ k∈body::kb fs,kB f≠k:=λ k hk z=>by
   rw [nodup_cons,nodup_cons,nodup_cons] at hn
   rcases mem_cons.mp hk with rfl | hk
   . exact hn.1 (by simp [z])
   . exact hn.2.2.1 (z▸hk)
  refine ⟨ws,h3,λ w k hd c hw hg=>⟨n1+c,n2,n3,ws++[w],rfl,set_ne' h1 d1,h2,set_eq' h3,⟨?_,nz.snoc hg _ _ h4'⟩,h5,LI.move (λ _ _ z=>z) fs f.up n3 (λ k hk=>getElem?_set_ne (d2 k hk)) h6,by omega⟩⟩
  have:=n6 h4 (ba (ds:=[]) hw rfl)
  simpa [bS,dE] using this
def qS (x:Bk):∀ fs,kb (nJ x fs)=kb fs
 | []=>rfl
 | f::fs=>rfl
def BK (x:Bk):∀ fs,cf (nJ x fs)=cf fs
 | []=>rfl
 | f::fs=>by simp [nJ,cf]
def xr (x:Bk):∀ fs,(nJ x fs).length=fs.length
 | []=>rfl
 | f::fs=>rfl
end
def mL {f:W->Option W}:∀ {ds es:List W},dr f ds=some es->ds.length=es.length
 | [],es,e=>by cases e;rfl
 | d::ds,es,e=>by
  obtain ⟨x,_,e⟩:=oB e
  obtain ⟨xs,e2,rfl⟩:=oM e
  simp [mL e2]
def yX.pos {P:π} {n:Nat} {wh:Bool} {h:Hd} {c:Nat} (g:yX P n wh h c):1<=c:=by cases g <;> omega
def nz.len {P:π} {n:Nat} {wh:Bool}:∀ (cs:ω) (c:Nat),nz P n wh cs c->cs.length<=c
 | [],c,_=>zero_le _
 | b::cs,c,q=>by
  cases q with
  | cons g1 g2=>
   have:=g1.pos
   have:=nz.len cs _ g2
   simp only [length_cons]
   omega
section
variable {P:π} {o:Int} {body p K0:Nat} {S:ah} {F:χ} {fs:List Fr} {h n:Nat} {out:ω}
def LI.len:∀ (fs:List Fr) (h n:Nat) {ws:List W},LI P o S F body out fs h n->S[h]?=some (.lst ws)->ws.length<=n
 | [],h,n,ws,q,hw=>by
  obtain ⟨e,ws',h1,h2,h3⟩:=q
  subst e
  rw [h1] at hw
  cases hw
  have:=mL h2
  have:=nz.len _ _ h3
  simp [bS] at *
  omega
 | f::fs,h,n,ws,q,hw=>by
  obtain ⟨n1,n2,n3,ws',e,h1,h2,h3,⟨h4,h4'⟩,h5,h6,h7⟩:=q
  rw [h3] at hw
  cases hw
  have:=mL h4
  have:=nz.len _ _ h4'
  simp [bS] at *
  omega
def LI.frames:∀ (fs:List Fr) (h n:Nat),LI P o S F body out fs h n->∀ f∈fs,S[f.id]?=some (.lst (oz f))
 | [],_,_,_,f,hf=>absurd hf not_mem_nil
 | f::fs,h,n,q,g,hg=>by
  obtain ⟨_,_,n3,_,_,h1,_,_,_,_,h6,_⟩:=q
  rcases mem_cons.mp hg with rfl | hg
  . exact h1
  . exact LI.frames fs f.up n3 h6 g hg
def LI.inS:∀ (fs:List Fr) (h n:Nat),LI P o S F body out fs h n->∀ k∈body::kb fs,∃ ws,S[k]?=some (.lst ws)
 | [],_,_,q,k,hk=>by
  obtain ⟨_,ws,h1,_⟩:=q
  simp [kb] at hk
  subst hk
  exact ⟨ws,h1⟩
 | f::fs,h,n,q,k,hk=>by
  obtain ⟨_,_,n3,ws,e,h1,_,h3,_,_,h6,_⟩:=q
  simp only [kb,mem_cons] at hk
  rcases hk with hk | hk | hk | hk
  . exact LI.inS fs f.up n3 h6 k (by simp [hk])
  . exact ⟨_,hk▸h1⟩
  . exact ⟨ws,by rw [hk,<-e];exact h3⟩
  . exact LI.inS fs f.up n3 h6 k (by simp [hk])
def LL {p b x y:Nat} {r:List Nat}:(p::b::x::y::r).Nodup↔(¬p=b/\¬p=x/\¬p=y/\p∉r)/\(¬b=x/\¬b=y/\b∉r)/\(¬x=y/\x∉r)/\y∉r/\r.Nodup:=by simp only [nodup_cons,mem_cons,not_or]
def Oj {p b:Nat} {r:List Nat}:(p::b::r).Nodup↔(¬p=b/\p∉r)/\b∉r/\r.Nodup:=by simp only [nodup_cons,mem_cons,not_or]
def kU {k p b x y:Nat} {r:List Nat}:k∈p::b::x::y::r↔k=p∨k=b∨k=x∨k=y∨k∈r:=by simp only [mem_cons]
def Cc {k p b:Nat} {r:List Nat}:k∈p::b::r↔k=p∨k=b∨k∈r:=by simp only [mem_cons]
def OI {k p b x y:Nat} {r:List Nat} (h:k∉p::b::x::y::r):¬k=p/\¬k=b/\¬k=x/\¬k=y/\k∉r:=by simpa only [mem_cons,not_or] using h
def NJ {k p b:Nat} {r:List Nat} (h:k∉p::b::r):¬k=p/\¬k=b/\k∉r:=by simpa only [mem_cons,not_or] using h
structure LV (P:π) (o:Int) (S:ah) (F:χ) (body p K0:Nat) (out:ω) (fs:List Fr) (h n:Nat):Prop where
 li:LI P o S F body out fs h n
 hp:S[p]?=some (.lst (cf fs))
 nd:(p::body::kb fs).Nodup
 nf:∀ k∈p::body::kb fs,F k=none
 hF:∀ k ds,F k=some ds->S[k]?=some (.lst ds)
 lo:∀ k∈p::body::kb fs,K0<=k
 fl:fs.length<=5
 lf:∀ k ds,F k=some ds->K0<=k
def LV.bnd (v:LV P o S F body p K0 out fs h n):∀ k∈p::body::kb fs,k<S.length:=λ k hk=>by
 rcases mem_cons.mp hk with rfl | hk
 . exact (oG v.hp).1
 . obtain ⟨ws,e⟩:=LI.inS fs h n v.li k hk
   exact (oG e).1
def LV.hm (v:LV P o S F body p K0 out fs h n):h∈p::body::kb fs:=mem_cons.mpr (.inr (LI.here fs h n v.li))
def LV.ph (v:LV P o S F body p K0 out fs h n):p≠h:=λ z=>by
 have:=v.nd
 rw [nodup_cons] at this
 exact this.1 (z▸LI.here fs h n v.li)
def LV.add (v:LV P o S F body p K0 out fs h n):∃ ws,S[h]?=some (.lst ws)/\ws.length<=n/\∀ (w:W) (k:Int) (hd:Hd) (c:Nat),rW F (27-3*fs.length) w=some (dM k hd)->yX P (5-fs.length) (kH fs) hd c->LV P o (S.set h (.lst (ws++[w]))) F body p K0 (ui (k,hd) out fs) (nJ (k,hd) fs) h (n+c)/\∀ k,k<K0->(S.set h (.lst (ws++[w])))[k]?=S[k]?:=by
 have nd':=v.nd
 rw [nodup_cons] at nd'
 obtain ⟨ws,h1,h2⟩:=LI.app fs h n nd'.2 v.li
 refine ⟨ws,h1,LI.len fs h n v.li h1,λ w k hd c hw hg=>⟨⟨h2 w k hd c hw hg,by rw [BK];exact set_ne' v.hp (Ne.symm v.ph),by rw [qS];exact v.nd,by rw [qS];exact v.nf,λ k ds hk=>set_ne' (v.hF k ds hk) (λ z=>?_),by rw [qS];exact v.lo,by rw [xr];exact v.fl,v.lf⟩,λ k hk=>getElem?_set_ne (λ z=>?_)⟩⟩
 . have:=v.nf h v.hm
   rw [z,hk] at this
   cases this
 . have:=v.lo h v.hm
   omega
def LV.opn (v:LV P o S F body p K0 out fs h n) (hK:K0<=S.length) (h5:fs.length<5) (wh:Bool) (ln:Int) (t:Tr) (ht:ge o t 7 30):LV P o ((S++[Ob.lst []]++[Ob.lst (oz ⟨S.length+1,wh,ln,t,h,S.length,none,[],[]⟩)]:ah).set p (.lst (cf (⟨S.length+1,wh,ln,t,h,S.length,none,[],[]⟩::fs)))) F body p K0 out (⟨S.length+1,wh,ln,t,h,S.length,none,[],[]⟩::fs) S.length (n+1):=by
 let f:Fr:=⟨S.length+1,wh,ln,t,h,S.length,none,[],[]⟩
 have bd:=v.bnd
 have pb:=bd p (Cc.mpr (.inl rfl))
 have old:∀ k,k<S.length->k≠p->((S++[Ob.lst []]++[Ob.lst (oz f)]:ah).set p (.lst (cf (f::fs))))[k]?=S[k]?:=λ k hk hp=>by
  rw [getElem?_set_ne (Ne.symm hp),getElem?_append_left (by simp;omega),getElem?_append_left hk]
 have g1:((S++[Ob.lst []]++[Ob.lst (oz f)]:ah).set p (.lst (cf (f::fs))))[S.length+1]?=some (.lst (oz f)):=set_ne' (by have:=bT (S++[Ob.lst []]) (Ob.lst (oz f));simpa using this) (by omega)
 have g0:((S++[Ob.lst []]++[Ob.lst (oz f)]:ah).set p (.lst (cf (f::fs))))[S.length]?=some (.lst []):=set_ne' (aS (bT _ _)) (by omega)
 have pne:∀ k∈body::kb fs,k≠p:=λ k hk z=>by
  have:=v.nd
  rw [nodup_cons] at this
  exact this.1 (z▸hk)
 refine ⟨⟨0,0,n,[],rfl,g1,ht,g0,⟨rfl,.nil⟩,rfl,LI.move (λ _ _ z=>z) fs h n (λ k hk=>old k (bd k (mem_cons_of_mem _ hk)) (pne k hk)) v.li,by omega⟩,set_eq' (aS (aS v.hp)),?_,λ k hk=>?_,λ k ds hk=>?_,λ k hk=>?_,by simp;omega,v.lf⟩
 . have nd:=v.nd
   have q1:S.length+1∉p::body::kb fs:=λ z=>absurd (bd _ z) (by omega)
   have q0:S.length∉p::body::kb fs:=λ z=>absurd (bd _ z) (by omega)
   have nd:=Oj.mp nd
   have q1:=NJ q1
   have q0:=NJ q0
   exact LL.mpr ⟨⟨nd.1.1,Ne.symm q1.1,Ne.symm q0.1,nd.1.2⟩,⟨Ne.symm q1.2.1,Ne.symm q0.2.1,nd.2.1⟩,⟨Nat.succ_ne_self _,q1.2.2⟩,q0.2.2,nd.2.2⟩
 . have ff:∀ m,S.length<=m->F m=none:=λ m hm=>by
    cases hq:F m with
    | none=>rfl
    | some ds=>
     have:=(oG (v.hF m ds hq)).1
     omega
   rcases kU.mp hk with hk | hk | hk | hk | hk
   . exact v.nf k (Cc.mpr (.inl hk))
   . exact v.nf k (Cc.mpr (.inr (.inl hk)))
   . exact ff k (hk▸Nat.le_succ _)
   . exact ff k (le_of_eq hk.symm)
   . exact v.nf k (Cc.mpr (.inr (.inr hk)))
 . have hs:=v.hF k ds hk
   have kl:=(oG hs).1
   rw [old k kl (λ z=>by have:=v.nf p (Cc.mpr (.inl rfl));rw [z,this] at hk;cases hk)]
   exact hs
 . rcases kU.mp hk with hk | hk | hk | hk | hk
   . exact v.lo k (Cc.mpr (.inl hk))
   . exact v.lo k (Cc.mpr (.inr (.inl hk)))
   . exact hk▸Nat.le_succ_of_le hK
   . exact hk▸hK
   . exact v.lo k (Cc.mpr (.inr (.inr hk)))
noncomputable def lD (F:χ) (a:Nat) (ws:List W):Nat->Option (List W):=λ k=>if k=a then some ws else F k
def vf {a:Nat} {ws:List W} (h:F a=none):∀ k ds,F k=some ds->lD F a ws k=some ds:=λ k ds hk=>by
 unfold lD
 rw [if_neg (λ z=>by rw [z,h] at hk;cases hk)]
 exact hk
def LV.els {f:Fr} (v:LV P o S F body p K0 out (f::fs) h n) (hK:K0<=S.length) (hb:f.b=none) (hw:f.wh=false):∃ F',LV P o ((S++[Ob.lst []]:ah).set f.id (.lst (oz { f with b:=some S.length,ca:=f.cs,cs:=[] }))) F' body p K0 out ({ f with b:=some S.length,ca:=f.cs,cs:=[] }::fs) S.length n:=by
 obtain ⟨n1,n2,n3,ws,e,h1,h2,h3,h4,h5,h6,h7⟩:=v.li
 have bd:=v.bnd
 have ca:kB f=f.a:=by simp [kB,hb]
 have hF0:F f.a=none:=v.nf f.a (kU.mpr (.inr (.inr (.inr (.inl ca.symm)))))
 have le:=vf (ws:=ws) hF0
 have fb:=bd f.id (kU.mpr (.inr (.inr (.inl rfl))))
 have old:∀ k,k<S.length->k≠f.id->((S++[Ob.lst []]:ah).set f.id (.lst (oz { f with b:=some S.length,ca:=f.cs,cs:=[] })))[k]?=S[k]?:=λ k hk hp=>by
  rw [getElem?_set_ne (Ne.symm hp),getElem?_append_left hk]
 have nd:=v.nd
 have q0:S.length∉p::body::kb (f::fs):=λ z=>absurd (bd _ z) (by omega)
 have nd:=LL.mp nd
 have q0:=OI q0
 have n2':n2=0:=by unfold Fn at h5;rw [hb] at h5;exact h5
 have g0:((S++[Ob.lst []]:ah).set f.id (.lst (oz { f with b:=some S.length,ca:=f.cs,cs:=[] })))[S.length]?=some (.lst []):=set_ne' (bT _ _) (by omega)
 refine ⟨lD F f.a ws,⟨0,n1,n3,[],rfl,set_eq' (aS h1),h2,g0,⟨rfl,.nil⟩,⟨hw,ws,by simp [lD],h4.mono le⟩,LI.move le fs f.up n3 (λ k hk=>old k (bd k (by rcases mem_cons.mp hk with hk | hk;exact kU.mpr (.inr (.inl hk));exact kU.mpr (.inr (.inr (.inr (.inr hk)))))) (λ z=>by
  rcases mem_cons.mp hk with hk | hk
  . exact nd.2.1.1 (hk▸z)
  . exact nd.2.2.1.2 (z▸hk))) h6,by omega⟩,?_,?_,λ k hk=>?_,λ k ds hk=>?_,λ k hk=>?_,v.fl,λ k ds hk=>?_⟩
 . rw [old p (bd p (kU.mpr (.inl rfl))) (λ z=>nd.1.2.1 z),v.hp]
   simp [cf]
 . exact LL.mpr ⟨⟨nd.1.1,nd.1.2.1,Ne.symm q0.1,nd.1.2.2.2⟩,⟨nd.2.1.1,Ne.symm q0.2.1,nd.2.1.2.2⟩,⟨Ne.symm q0.2.2.1,nd.2.2.1.2⟩,q0.2.2.2.2,nd.2.2.2.2⟩
 . have ne:k≠f.a:=λ z=>by
    rw [<-ca] at z
    have cu:kB f<S.length:=bd (kB f) (kU.mpr (.inr (.inr (.inr (.inl rfl)))))
    rcases kU.mp hk with hk | hk | hk | hk | hk
    . exact nd.1.2.2.1 (by rw [<-hk,z])
    . exact nd.2.1.2.1 (by rw [<-hk,z])
    . exact nd.2.2.1.1 (by rw [<-hk,z])
    . have hk:k=S.length:=hk
      omega
    . exact nd.2.2.2.1 (z▸hk)
   unfold lD
   rw [if_neg ne]
   rcases kU.mp hk with hk | hk | hk | hk | hk
   . exact v.nf k (kU.mpr (.inl hk))
   . exact v.nf k (kU.mpr (.inr (.inl hk)))
   . exact v.nf k (kU.mpr (.inr (.inr (.inl hk))))
   . have hk:k=S.length:=hk
     cases hq:F k with
     | none=>rfl
     | some ds=>
      have:=(oG (v.hF k ds hq)).1
      omega
   . exact v.nf k (kU.mpr (.inr (.inr (.inr (.inr hk)))))
 . unfold lD at hk
   split at hk
   . rename_i z
     cases hk
     rw [z,old f.a (by rw [<-ca];exact bd _ (kU.mpr (.inr (.inr (.inr (.inl rfl)))))) (λ z=>nd.2.2.1.1 (by rw [ca,z])),<-ca,<-e]
     exact h3
   . have hs:=v.hF k ds hk
     rw [old k (oG hs).1 (λ z=>by have:=v.nf f.id (kU.mpr (.inr (.inr (.inl rfl))));rw [z,this] at hk;cases hk)]
     exact hs
 . rcases kU.mp hk with hk | hk | hk | hk | hk
   . exact v.lo k (kU.mpr (.inl hk))
   . exact v.lo k (kU.mpr (.inr (.inl hk)))
   . exact v.lo k (kU.mpr (.inr (.inr (.inl hk))))
   . exact hk▸hK
   . exact v.lo k (kU.mpr (.inr (.inr (.inr (.inr hk)))))
 . unfold lD at hk
   split at hk
   . rename_i z
     rw [z,<-ca]
     exact v.lo _ (kU.mpr (.inr (.inr (.inr (.inl rfl)))))
   . exact v.lf k ds hk
end
noncomputable def Kp (f:Fr):W:=if f.wh=true then .tuple [.str (dS 11),.int f.ln,tw f.t,.ref f.a] else .tuple [.str (dS 10),.int f.ln,tw f.t,.ref f.a,bW f.b]
section
variable {P:π} {o:Int} {body p K0:Nat} {S:ah} {F:χ} {fs:List Fr} {h n:Nat} {out:ω}
def nK {G:χ} {a m:Nat} {ws es:List W} (h1:G a=some ws) (h2:dr (rW G m) ws=some es):rW G (m+1) (.ref a)=some (.list es):=by
 show (G a).bind _=_
 rw [h1]
 show (dr (rW G m) ws).map _=_
 rw [h2]
 rfl
def rQ {G:χ} {m:Nat} {ws es:List W} (h2:dr (rW G m) ws=some es):rW G (m+1) (.tuple ws)=some (.tuple es):=by
 show (dr (rW G m) ws).map _=_
 rw [h2]
 rfl
noncomputable def y8 (f:Fr):Hd:=if f.wh=true then .whl f.t [.list (bS f.cs)] else match f.b with
 | none=>.ifs f.t [.list (bS f.cs),.none]
 | some _=>.ifs f.t [.list (bS f.ca),.list (bS f.cs)]
def LV.fin (hP:∀ wh t bs,ge o t 7 30->P wh (.whl t bs)/\P wh (.ifs t bs)) {f:Fr} (v:LV P o S F body p K0 out (f::fs) h n):∃ F' n3 c,LV P o (S.set p (.lst (cf fs))) F' body p K0 out fs f.up n3/\rW F' (27-3*fs.length) (Kp f)=some (dM f.ln (y8 f))/\yX P (5-fs.length) (kH fs) (y8 f) c/\n=n3+c/\S[f.id]?=some (.lst (oz f))/\ge o f.t 7 30:=by
 obtain ⟨n1,n2,n3,ws,e,h1,h2,h3,h4,h5,h6,h7⟩:=v.li
 have bd:=v.bnd
 have fl:=v.fl
 simp only [length_cons] at fl
 have hF0:F (kB f)=none:=v.nf (kB f) (kU.mpr (.inr (.inr (.inr (.inl rfl)))))
 have le:=vf (ws:=ws) hF0
 have nd:=LL.mp v.nd
 have nv:LV P o (S.set p (.lst (cf fs))) (lD F (kB f) ws) body p K0 out fs f.up n3:=by
  refine ⟨LI.move le fs f.up n3 (λ k hk=>getElem?_set_ne (λ z=>?_)) h6,set_eq' v.hp,?_,λ k hk=>?_,λ k ds hk=>?_,λ k hk=>v.lo k ?_,by omega,λ k ds hk=>?_⟩
  . rcases mem_cons.mp hk with hk | hk
    . exact nd.1.1 (z.trans hk)
    . exact nd.1.2.2.2 (z▸hk)
  . exact Oj.mpr ⟨⟨nd.1.1,nd.1.2.2.2⟩,nd.2.1.2.2,nd.2.2.2.2⟩
  . have hk:=Cc.mp hk
    have ne:k≠kB f:=λ z=>by
     rcases hk with hk | hk | hk
     . exact nd.1.2.2.1 (by rw [<-hk,z])
     . exact nd.2.1.2.1 (by rw [<-hk,z])
     . exact nd.2.2.2.1 (z▸hk)
    unfold lD
    rw [if_neg ne]
    exact v.nf k (kU.mpr (hk.imp id (.imp id λ z=>.inr (.inr z))))
  . unfold lD at hk
    split at hk
    . rename_i z
      cases hk
      rw [z]
      exact set_ne' (by rw [<-e];exact h3) (λ q=>nd.1.2.2.1 q)
    . exact set_ne' (v.hF k ds hk) (λ q=>by have:=v.nf p (kU.mpr (.inl rfl));rw [q,hk] at this;cases this)
  . exact kU.mpr ((Cc.mp hk).imp id (.imp id λ z=>.inr (.inr z)))
  . unfold lD at hk
    split at hk
    . rename_i z
      rw [z]
      exact v.lo _ (kU.mpr (.inr (.inr (.inr (.inl rfl)))))
    . exact v.lf k ds hk
 have g:=h2.1
 have tok:=sZ f.t g.2.2
 have tdp:=mW f.t
 have tdd:cF (tw f.t)<=8:=by have:=g.1;omega
 have e1:27-3*fs.length=24-3*fs.length+1+1+1:=by omega
 have e2:27-3*(fs.length+1)=24-3*fs.length:=by omega
 have e3:5-fs.length=5-(fs.length+1)+1:=by omega
 have tr:rW (lD F (kB f) ws) (24-3*fs.length+1+1) (tw f.t)=some (tw f.t):=tH _ _ _ tok (by omega)
 have cw:lD F (kB f) ws (kB f)=some ws:=by simp [lD]
 obtain ⟨q1,q2⟩:=h4
 rw [e2] at q1
 have q1':dr (rW (lD F (kB f) ws) (24-3*fs.length+1)) ws=some (bS f.cs):=f7 (λ d e=>hU le _ _ d e (by omega)) _ _ q1
 have lit:∀ d:W,(∀ k,d≠.ref k)->hJ d=true->cF d=0->rW (lD F (kB f) ws) (24-3*fs.length+1+1) d=some d:=λ d _ hd hz=>tH _ _ _ hd (by omega)
 rw [e1,e3]
 cases hb:f.b with
 | none=>
  have ca:kB f=f.a:=by simp [kB,hb]
  have n0:n2=0:=by unfold Fn at h5;rw [hb] at h5;exact h5
  have ra:=nK (G:=lD F (kB f) ws) (a:=f.a) (by rw [<-ca];exact cw) q1'
  cases hw:f.wh with
  | true=>
   have ch:y8 f=.whl f.t [.list (bS f.cs)]:=if_pos hw
   rw [ch]
   refine ⟨lD F (kB f) ws,n3,n1+1,nv,?_,.whl (hP _ _ _ h2).1 ?_,by omega,h1,h2⟩
   . unfold Kp
     rw [if_pos hw]
     exact rQ (ba (d:=.str (dS 11)) rfl (ba (d:=.int f.ln) rfl (ba tr (ba (ds:=[]) ra rfl))))
   . have:kH (f::fs)=true:=by simp [kH,hw]
     rw [this] at q2
     exact q2
  | false=>
   have ch:y8 f=.ifs f.t [.list (bS f.cs),.none]:=by unfold y8;rw [hw,if_neg (by simp),hb]
   rw [ch]
   refine ⟨lD F (kB f) ws,n3,n1+1,nv,?_,.if1 (hP _ _ _ h2).2 ?_,by omega,h1,h2⟩
   . unfold Kp
     rw [hw,if_neg (by simp),hb]
     exact rQ (ba (d:=.str (dS 10)) rfl (ba (d:=.int f.ln) rfl (ba tr (ba ra (ba (d:=.none) (ds:=[]) rfl rfl)))))
   . have:kH (f::fs)=kH fs:=by simp [kH,hw]
     rw [this] at q2
     exact q2
 | some b=>
  have cb:kB f=b:=by simp [kB,hb]
  obtain ⟨hw,wa,ha,u1,u2⟩:f.wh=false/\∃ wa,F f.a=some wa/\Gt P F (fs.length+1) (kH (f::fs)) wa f.ca n2:=by unfold Fn at h5;rw [hb] at h5;exact h5
  rw [e2] at u1
  have u1':dr (rW (lD F (kB f) ws) (24-3*fs.length+1)) wa=some (bS f.ca):=f7 (λ d e=>hU le _ _ d e (by omega)) _ _ u1
  have ra:=nK (G:=lD F (kB f) ws) (a:=f.a) (le _ _ ha) u1'
  have rb:=nK (G:=lD F (kB f) ws) (a:=b) (by rw [<-cb];exact cw) q1'
  have:kH (f::fs)=kH fs:=by simp [kH,hw]
  rw [this] at q2 u2
  have ch:y8 f=.ifs f.t [.list (bS f.ca),.list (bS f.cs)]:=by unfold y8;rw [hw,if_neg (by simp),hb]
  rw [ch]
  refine ⟨lD F (kB f) ws,n3,n2+n1+1,nv,?_,.if2 (hP _ _ _ h2).2 u2 q2,by omega,h1,h2⟩
  unfold Kp
  rw [hw,if_neg (by simp),hb]
  exact rQ (ba (d:=.str (dS 10)) rfl (ba (d:=.int f.ln) rfl (ba tr (ba ra (ba (d:=bW (some b)) (ds:=[]) rb rfl)))))
end
def M5:∀ i:Fin 12,strOk (dS i)=true:=by decide +kernel
def lQ {o:Int} {t:Tr} {d c:Nat} (h:ge o t d c):hJ (tw t)=true/\cF (tw t)<=d+1:=⟨sZ t h.1.2.2,le_trans (mW t) (by have:=h.1.1;omega)⟩
def Lk {o:Int} {FN WD:Ω} (hF:∀ f∈FN,strOk f=true) (hW:∀ f∈WD,strOk f=true) (k:Int) {h:Hd} (hb:i3 h=some []) (hp:PP o FN WD true h):hJ (dM k h)=true/\cF (dM k h)<=10:=by
 have q:=M5 (aD h)
 have r:cC (rs h)=true/\bQ (rs h)<=9:=by
  cases h with
  | set x t=>obtain ⟨a,b⟩:=lQ hp.2;have:=hp.1;simp [rs,cC,hJ,bQ,cF,a,this];omega
  | put a b=>obtain ⟨a1,b1⟩:=lQ hp.1;obtain ⟨a2,b2⟩:=lQ hp.2;simp [rs,cC,bQ,a1,a2];omega
  | tell t=>obtain ⟨a,b⟩:=lQ hp;simp [rs,cC,bQ,a];omega
  | ret t=>obtain ⟨a,b⟩:=lQ hp;simp [rs,cC,bQ,a];omega
  | join x j t=>obtain ⟨a,b⟩:=lQ hp.2.2;have:=hp.1;have:=hW j hp.2.1;simp [rs,cC,hJ,bQ,cF, *];omega
  | call x f ts=>
   have a:cC (ts.map tw)=true:=jW λ d hd=>by obtain ⟨t,h1,rfl⟩:=mem_map.mp hd;exact (lQ (hp.2.2.2 t h1)).1
   have b:bQ (ts.map tw)<=8:=kQ λ d hd=>by obtain ⟨t,h1,rfl⟩:=mem_map.mp hd;exact (lQ (hp.2.2.2 t h1)).2
   have:=hp.1
   have:=hF f hp.2.1
   simp [rs,cC,hJ,bQ,cF, *] <;> omega
  | ifs t l=>exact absurd hb (y9 t l).1
  | whl t l=>exact absurd hb (y9 t l).2
  | _=>exact ⟨rfl,zero_le _⟩
 refine ⟨by simp [dM,hJ,cC,q,r.1],?_⟩
 have:=r.2
 simp [dM,cF,bQ]
 omega
noncomputable def ub (ops:W) (line:Int) (main:Bool) (body h p:Nat) (s6 s7:Sl):DS:=[.val ops,.val (.int line),.val (.bool main),.val (.ref body),.val (.ref h),.val (.ref p),s6,s7]
def Ia (a:W) (l:Int) (r:List W) (h:r.length<=100):ck (.tuple [a,.int l]) (.tuple r)=some (.tuple (a::.int l::r)):=if_pos ⟨by simp,sz _ (by simp;omega)⟩
def Cz {fo fi fv:ζ} {δ:DS} {S S1:ah} {l:Nat} {es:List W} {d:W} {k:Nat} (h1:fv δ S=some (.ok d,S1)) (h2:fo δ S1=some (.ok (.ref l),S1)) (h3:fi δ S1=some (.ok (.int (k:Int)),S1)) (h4:S1[l]?=some (.lst es)) (h5:k<es.length):rR fo fi fv δ S=some (.nx δ,S1.set l (.lst (es.set k d))):=by
 have i:ug es.length (k:Int)=some k:=by
  unfold ug
  rw [if_pos (by omega),if_pos (by omega)]
  simp
 simp only [rR,h1,iV,h2,h3,fg h4,bind_some,zS,i,map_some]
section
variable {o:Int} {FN WD:Ω} {body p K0:Nat} {S:ah} {F:χ} {fs:List Fr} {h n:Nat} {ops:W} {main:Bool} {out:ω}
def Ie:∀ (wh:Bool) (t:Tr) (bs:List W),ge o t 7 30->PP o FN WD wh (.whl t bs)/\PP o FN WD wh (.ifs t bs):=λ _ _ _ g=>⟨g,g⟩
def Kb {h:Hd} {wh:Bool} (hp:PP o FN WD true h) (hb:aD h=4∨aD h=5->wh=true):PP o FN WD wh h:=by
 cases h with
 | brk=>exact hb (.inl rfl)
 | agn=>exact hb (.inr rfl)
 | _=>exact hp
def wY {h:Hd} (hb:i3 h=some []):aD h≠10/\aD h≠11:=by
 cases h with
 | ifs t l=>exact absurd hb (y9 t l).1
 | whl t l=>exact absurd hb (y9 t l).2
 | _=>exact ⟨λ z=>Bool.noConfusion (show false=true from decide_eq_true z),λ z=>Bool.noConfusion (show false=true from decide_eq_true z)⟩
def Iq {h:Hd} (hb:i3 h=some []):(rs h).length<=100:=by
 cases h with
 | ifs t l=>exact absurd hb (y9 t l).1
 | whl t l=>exact absurd hb (y9 t l).2
 | _=>exact of_decide_eq_true rfl
noncomputable def OX (P:π) (o line:Int) (fs:List Fr) (out:ω) (fs':List Fr) (out':ω):Op->Prop
 | .st h=>P (kH fs) h/\i3 h=some []/\fs'=nJ (line+1,h) fs/\out'=ui (line+1,h) out fs
 | .opn wh t=>∃ f:Fr,f.wh=wh/\f.ln=line+1/\f.t=t/\f.b=none/\f.cs=[]/\fs'=f::fs/\out'=out
 | .fin=>∃ f fs1,fs=f::fs1/\ge o f.t 7 30/\fs'=nJ (f.ln,y8 f) fs1/\out'=ui (f.ln,y8 f) out fs1
 | .els=>∃ f fs1 b,fs=f::fs1/\f.wh=false/\f.b=none/\fs'={ f with b:=some b,ca:=f.cs,cs:=[] }::fs1/\out'=out
noncomputable def IZ (P:π) (o:Int) (main:Bool) (op:Op) (line:Int) (fs:List Fr) (out:ω) (fs':List Fr) (out':ω) (line':Int):Prop:=(n4 main fs op=false/\fs'=fs/\out'=out/\line'=line)∨(n4 main fs op=true/\line'=line+1/\OX P o line fs out fs' out' op)
noncomputable abbrev O7 (o:Int) (FN WD:Ω) (body p K0:Nat) (S:ah) (fs:List Fr) (h n:Nat) (ops:W) (main:Bool) (out:ω) (line:Int) (op:Op) (s7:Sl) (S':ah) (F':χ) (out':ω) (fs':List Fr) (h':Nat) (line':Int) (s7':Sl) (n':Nat):Prop:=(cQ (ub ops line main body h p (.val (dj op)) s7) S=some (.nx (ub ops line' main body h' p (.val (dj op)) s7'),S')∨cQ (ub ops line main body h p (.val (dj op)) s7) S=some (.ct (ub ops line' main body h' p (.val (dj op)) s7'),S'))/\LV (PP o FN WD) o S' F' body p K0 out' fs' h' n'/\IZ (PP o FN WD) o main op line fs out fs' out' line'/\n'<=n+1/\K0<=S'.length/\(∀ k,k<K0->S'[k]?=S[k]?)/\(op=.fin->fs'.length=fs.tail.length/\n'=n)
def Ae (hFN:∀ f∈FN,strOk f=true) (hWD:∀ f∈WD,strOk f=true) (v:LV (PP o FN WD) o S F body p K0 out fs h n) (hK:K0<=S.length) (hn:n<800) (line:Int) (op:Op) (ho:xT o FN WD op) (s7:Sl):
 ∃ S' F' out' fs' h' line' s7' n',O7 o FN WD body p K0 S fs h n ops main out line op s7 S' F' out' fs' h' line' s7' n':=by
 have z6:=sz 6 (by decide)
 have fl:=v.fl
 have ho':∀ h,op=.st h->aD h≠10/\aD h≠11:=λ h e=>by subst e;exact wY ho.1
 have mr:=D6 v.hp (LI.frames fs h n v.li) (by omega) main op ho'
 let δ (ln:Int) (h:Nat) (s7:Sl):DS:=ub ops ln main body h p (.val (dj op)) s7
 have c0:oN (oK (bI b7 (ab (aa (af 6) (aa (af 5) (aa (af 2) ag)))))) (δ line h s7) S=some (.ok (!n4 main fs op),S):=by
  have c:bI b7 (ab (aa (af 6) (aa (af 5) (aa (af 2) ag)))) (δ line h s7) S=some (.ok (.bool (n4 main fs op)),S):=bN (S1:=S) (ds:=[dj op,.ref p,.bool main]) rfl mr
  simp only [oN,oK,c,aq,iq,o0,map_some]
 by_cases hm:n4 main fs op=true
 case neg=>
  have hm:n4 main fs op=false:=by simpa using hm
  rw [hm] at c0
  refine ⟨S,F,out,fs,h,line,s7,n,.inr ?_,v,.inl ⟨hm,rfl,rfl,rfl⟩,by omega,hK,λ _ _=>rfl,λ e=>?_⟩
  . have:dq (oN (oK (bI b7 (ab (aa (af 6) (aa (af 5) (aa (af 2) ag))))))) (aE jq) (aE aI) (δ line h s7) S=some (.ct (δ line h s7),S):=(dZ c0).trans rfl
    show aF _ _ _ _=_
    unfold aF
    rw [this]
  . subst e
    cases fs with
    | nil=>exact ⟨rfl,rfl⟩
    | cons f fs=>simp [n4] at hm
 rw [hm] at c0
 have pre:∀ {g:τ} {r:SO},g (δ (line+1) h s7) S=r->aF (dq (oN (oK (bI b7 (ab (aa (af 6) (aa (af 5) (aa (af 2) ag))))))) (aE jq) (aE aI)) (aF (aE (aC (az ck (aw 1) (dC (.int (1)))) (ae 1))) g) (δ line h s7) S=r:=λ {g r} e=>
  (ai (δ':=δ line h s7) (S':=S) ((bP c0).trans rfl)).trans ((ai (δ':=δ (line+1) h s7) (S':=S) (aR rfl)).trans e)
 cases op with
 | st hd=>
  obtain ⟨hb,hp⟩:=ho
  have a0:az aT (aw 6) (dC (.int (0))) (δ (line+1) h s7)=some (.str (dS (aD hd))):=x0 rfl
  have q:=k2 (aD hd)
  have q':=kq (aD hd)
  have cl:=wY hb
  obtain ⟨ok1,ok2⟩:=Lk hFN hWD (line+1) hb hp
  obtain ⟨ws,w1,w2,w3⟩:=v.add
  have hp':PP o FN WD (kH fs) hd:=Kb hp λ z=>by
   have:=hm
   simp only [n4,if_pos z] at this
   exact this
  obtain ⟨v',k'⟩:=w3 (dM (line+1) hd) (line+1) hd 1 (tH _ _ _ ok1 (by omega)) (.lf hp' hb)
  refine ⟨_,F,_,_,h,line+1,s7,n+1,.inl (pre ?_),v',.inr ⟨hm,rfl,hp',hb,rfl,rfl⟩,le_refl _,by simpa using hK,k',λ e=>by cases e⟩
  refine (bP (S1:=S) (ao (by rw [tD a0,q.2.2.2]))).trans ?_
  refine (bP (S1:=S) (ao (by rw [tD a0,q.2.2.1]))).trans ?_
  refine (bP (S1:=S) (ao (Hj (by rw [tD a0,q'.2.1,decide_eq_false cl.1]) (by rw [tD a0,q'.1,decide_eq_false cl.2])))).trans ?_
  refine dD rfl w1 (ao ?_) (by omega)
  have t1:aM (aa (az aT (aw 6) (dC (.int (0)))) (aa (af 1) ag)) (δ (line+1) h s7)=some (.tuple [.str (dS (aD hd)),.int (line+1)]):=kM a0 rfl
  have t2:oW (af 6) (dR (dC (.int (1)))) dz (δ (line+1) h s7)=some (.tuple (rs hd)):=by
   first | rfl | simp! [δ,ub,dj,oW,uD,zF]
  exact dO t1 t2 (Ia _ _ _ (Iq hb))
 | opn wh t=>
  have a0:az aT (aw 6) (dC (.int (0))) (δ (line+1) h s7)=some (.str (dS (mi wh))):=x0 rfl
  have a1:az aT (aw 6) (dC (.int (1))) (δ (line+1) h s7)=some (tw t):=x1 rfl
  have q:=k2 (mi wh)
  have h5:fs.length<5:=of_decide_eq_true hm
  have v':=v.opn hK h5 wh (line+1) t ho
  let f:Fr:=⟨S.length+1,wh,line+1,t,h,S.length,none,[],[]⟩
  let S1:ah:=S++[Ob.lst []]
  let S2:ah:=S1++[Ob.lst (oz f)]
  refine ⟨S2.set p (.lst (cf (f::fs))),F,out,f::fs,S.length,line+1,.val (.ref (S.length+1)),n+1,.inl (pre ?_),v',.inr ⟨hm,rfl,f,rfl,rfl,rfl,rfl,rfl,rfl,rfl⟩,le_refl _,by simp [S2,S1];omega,λ k hk=>?_,λ e=>by cases e⟩
  . refine (bP (S1:=S) (ao (by rw [tD a0,q.2.2.2]))).trans ?_
    refine (bP (S1:=S) (ao (by rw [tD a0,q.2.2.1]))).trans ?_
    have tt:pC (aG c6 (az aT (aw 6) (dC (.int (0)))) (dC (.str "if"))) (aG c6 (az aT (aw 6) (dC (.int (0)))) (dC (.str "while"))) (δ (line+1) h s7)=some true:=by
     have i1:=tD (b:=Str.ofString "if") a0
     have i2:=tD (b:=Str.ofString "while") a0
     rw [(kO wh).2] at i1
     rw [(kO wh).1] at i2
     cases wh with
     | true=>exact Ik i1 i2
     | false=>exact Hk i1
    refine (dZ (S1:=S) (ao tt)).trans ?_
    have le:d9 (ab ag) (δ (line+1) h s7) S=some (.ok (.ref S.length),S1):=rfl
    have ar:=bz (S:=S) (ao a0) (bz (f:=ab (af 1)) (δ:=δ (line+1) h s7) (d:=.int (line+1)) rfl (bz (S:=S) (ao a1) (bz (f:=ab (af 4)) (d:=.ref h) rfl (bz le (bz (f:=ab (dC .none)) (g:=jZ) (d:=.none) rfl rfl)))))
    refine (ai (δ':=δ (line+1) h (.val (.ref (S.length+1)))) (S':=S2) (bf (d:=.ref (S.length+1)) ?_ rfl)).trans ?_
    . simp only [d9] at ar ⊢
      rw [ar]
      simp only [aq,length_cons,length_nil,if_pos z6]
      simp [S1,S2,oz,f,bW]
    have hp2:S2[p]?=some (.lst (cf fs)):=aS (aS v.hp)
    have g1:S2[S.length+1]?=some (.lst (oz f)):=by have:=bT S1 (Ob.lst (oz f));simpa [S1,S2] using this
    have pb:=v.bnd p (by simp)
    refine (ai (dD rfl hp2 rfl (by simp [cf];omega))).trans ?_
    have pe:cf fs++[.ref (S.length+1)]=cf (f::fs):=by simp [cf,f]
    rw [pe]
    exact bf (A0 (i:=4) (fo:=ab (af 7)) rfl (set_ne' g1 (by omega)) (Nz _ _ _ _ _ _)) rfl
  . have pb:=v.lo p (by simp)
    rw [getElem?_set_ne (by omega),getElem?_append_left (by simp [S1];omega),getElem?_append_left (by omega)]
 | fin=>
  have a0:az aT (aw 6) (dC (.int (0))) (δ (line+1) h s7)=some (.str "end"):=x0 rfl
  cases fs with
  | nil=>simp [n4] at hm
  | cons f fs=>
   obtain ⟨F',n3,c,v1,r1,g1,e1,hf,gt⟩:=v.fin Ie
   let S1:ah:=S.set p (.lst (cf fs))
   obtain ⟨ws,w1,w2,w3⟩:=v1.add
   obtain ⟨v2,k2'⟩:=w3 (Kp f) f.ln (y8 f) c r1 g1
   have pf:p≠f.id:=λ z=>by have:=v.nd;simp only [kb,nodup_cons,mem_cons,not_or] at this;exact this.1.2.1 z
   have hf1:S1[f.id]?=some (.lst (oz f)):=set_ne' hf pf
   have pl:=v.lo p (by simp)
   refine ⟨_,F',_,_,f.up,line+1,.val (.ref f.id),n3+c,.inl (pre ?_),v2,.inr ⟨rfl,rfl,f,fs,rfl,gt,rfl,rfl⟩,by omega,by simpa using hK,λ k hk=>(k2' k hk).trans (getElem?_set_ne (by omega)),λ _=>⟨xr _ _,e1.symm⟩⟩
   refine (dZ (S1:=S) (ao (by rw [tD a0];simp))).trans ?_
   have hp':S[p]?=some (.lst (cf fs++[.ref f.id])):=by rw [v.hp];simp [cf]
   refine (ai (δ':=δ (line+1) h (.val (.ref f.id))) (S':=S1) (bf (xB rfl hp') rfl)).trans ?_
   refine (ai (δ':=δ (line+1) f.up (.val (.ref f.id))) (S':=S1) (bf (A0 (i:=3) (fo:=ab (af 7)) rfl hf1 (Oz _ _ _ _ _)) rfl)).trans ?_
   exact dD rfl w1 (bN (S1:=S1) (ds:=[.ref f.id]) rfl (CQ hf1)) (by omega)
 | els=>
  have a0:az aT (aw 6) (dC (.int (0))) (δ (line+1) h s7)=some (.str "else"):=x0 rfl
  cases fs with
  | nil=>simp [n4] at hm
  | cons f fs=>
   have hm':f.wh=false/\f.b=none:=by simpa [n4] using hm
   obtain ⟨F',v'⟩:=v.els hK hm'.2 hm'.1
   have hf:=LI.frames _ h n v.li f (by simp)
   let S1:ah:=S++[Ob.lst []]
   have fb:=v.bnd f.id (by simp [kb])
   have fo:=v.lo f.id (by simp [kb])
   refine ⟨_,F',out,{ f with b:=some S.length,ca:=f.cs,cs:=[] }::fs,S.length,line+1,.val (.ref f.id),n,.inl (pre ?_),v',.inr ⟨hm,rfl,f,fs,_,rfl,hm'.1,hm'.2,rfl,rfl⟩,by omega,by simp;omega,λ k hk=>?_,λ e=>by cases e⟩
   . refine (bP (S1:=S) (ao (by rw [tD a0,kE.2.2.2.2.2]))).trans ?_
     refine (dZ (S1:=S) (ao (by rw [tD a0];simp))).trans ?_
     have hp':S[p]?=some (.lst (cf fs++[.ref f.id])):=by rw [v.hp];simp [cf]
     refine (ai (δ':=δ (line+1) h (.val (.ref f.id))) (S':=S) (bf (MY (fo:=ab (af 5)) rfl hp') rfl)).trans ?_
     have le:d9 (ab ag) (δ (line+1) h (.val (.ref f.id))) S=some (.ok (.ref S.length),S1):=rfl
     have st:=Cz (fo:=ab (af 7)) (fi:=ab (dC (.int (5)))) (k:=5) le rfl rfl (aS hf) (by simp [oz])
     have fe:(oz f).set 5 (.ref S.length)=oz { f with b:=some S.length,ca:=f.cs,cs:=[] }:=by simp [oz,bW]
     rw [fe] at st
     refine (ai st).trans ?_
     exact bf (A0 (i:=5) (fo:=ab (af 7)) rfl (set_eq' (aS hf)) (Mt _ _ _ _ _ _ _)) rfl
   . rw [getElem?_set_ne (by omega),getElem?_append_left (by omega)]
end
def uV {h:η} {fb:τ} {d:W} {ds:List W} {δ δ2 δ':DS} {S S':ah} (h1:h d δ=some δ2) (h2:fb δ2 S=some (.ct δ',S')):bx h fb (d::ds) δ S=bx h fb ds δ' S':=by
 show (h d δ).bind _=_
 rw [h1]
 show (match fb δ2 S with | some (.nx δ',S')=>_ | some (.ct δ',S')=>_ | some (.bk δ',S')=>_ | some (.rt d,S')=>_ | some (.xc c,S')=>_ | none=>_)=_
 rw [h2]
section
variable {o:Int} {FN WD:Ω} {body p K0:Nat} {ops:W} {main:Bool}
noncomputable def iW (P:π) (o:Int) (main:Bool):List Op->Int->List Fr->List Bk->List Fr->List Bk->Int->Prop
 | [],line,fs,out,fs',out',line'=>fs'=fs/\out'=out/\line'=line
 | op::l,line,fs,out,fs',out',line'=>∃ line1 fs1 out1,IZ P o main op line fs out fs1 out1 line1/\iW P o main l line1 fs1 out1 fs' out' line'
def iW.app {P:π} {o:Int} {main:Bool} {m:List Op} {line1 line2:Int} {fs1 fs2:List Fr} {out1 out2:ω} (h':iW P o main m line1 fs1 out1 fs2 out2 line2):∀ (l:List Op) {line:Int} {fs:List Fr} {out:ω},iW P o main l line fs out fs1 out1 line1->iW P o main (l++m) line fs out fs2 out2 line2:=λ l=>by
 induction l with
 | nil=>
  intro line fs out h
  obtain ⟨rfl,rfl,rfl⟩:=h
  exact h'
 | cons op l ih=>
  intro line fs out h
  obtain ⟨a,b,c,d,h⟩:=h
  exact ⟨a,b,c,d,ih h⟩
noncomputable abbrev OS (o:Int) (FN WD:Ω) (body p K0:Nat) (ops:W) (main:Bool) (l:List Op) (S:ah) (out:ω) (fs:List Fr) (h n:Nat) (line:Int) (s6 s7:Sl) (S':ah) (F':χ) (out':ω) (fs':List Fr) (h':Nat) (line':Int) (s6' s7':Sl) (n':Nat):Prop:=(∀ av,bx (ae 6) cQ (l.map dj++av) (ub ops line main body h p s6 s7) S=bx (ae 6) cQ av (ub ops line' main body h' p s6' s7') S')/\LV (PP o FN WD) o S' F' body p K0 out' fs' h' n'/\iW (PP o FN WD) o main l line fs out fs' out' line'/\n'<=n+l.length/\K0<=S'.length/\(∀ k,k<K0->S'[k]?=S[k]?)/\((∀ op∈l,op=.fin)->fs'.length=fs.length-l.length/\n'=n)
def mT (hFN:∀ f∈FN,strOk f=true) (hWD:∀ f∈WD,strOk f=true):∀ (l:List Op) (S:ah) (F:χ) (out:ω) (fs:List Fr) (h n:Nat) (line:Int) (s6 s7:Sl),LV (PP o FN WD) o S F body p K0 out fs h n->K0<=S.length->(∀ op∈l,xT o FN WD op)->n+l.length<800->
 ∃ S' F' out' fs' h' line' s6' s7' n',OS o FN WD body p K0 ops main l S out fs h n line s6 s7 S' F' out' fs' h' line' s6' s7' n'
 | [],S,F,out,fs,h,n,line,s6,s7,v,hK,_,_=>⟨S,F,out,fs,h,line,s6,s7,n,λ _=>rfl,v,⟨rfl,rfl,rfl⟩,le_refl _,hK,λ _ _=>rfl,λ _=>⟨rfl,rfl⟩⟩
 | op::l,S,F,out,fs,h,n,line,s6,s7,v,hK,ho,hl=>by
  simp only [length_cons] at hl
  obtain ⟨S1,F1,out1,fs1,h1,line1,t7,n1,e1,v1,g1,b1,k1,f1,q1⟩:=Ae (ops:=ops) (main:=main) hFN hWD v hK (by omega) line op (ho op (by simp)) s7
  obtain ⟨S',F',out',fs',h',line',u6,u7,n',e2,v2,g2,b2,k2,f2,q2⟩:=mT hFN hWD l S1 F1 out1 fs1 h1 n1 line1 (.val (dj op)) t7 v1 k1 (λ o ho'=>ho o (by simp [ho'])) (by omega)
  refine ⟨S',F',out',fs',h',line',u6,u7,n',?_,v2,⟨_,_,_,g1,g2⟩,by simp only [length_cons];omega,k2,λ k hk=>(f2 k hk).trans (f1 k hk),λ hf=>?_⟩
  . intro av
    rw [map_cons,List.cons_append]
    rcases e1 with e1 | e1
    . exact (bK (δ2:=ub ops line main body h p (.val (dj op)) s7) rfl e1).trans (e2 av)
    . exact (uV (δ2:=ub ops line main body h p (.val (dj op)) s7) rfl e1).trans (e2 av)
  . obtain ⟨a,b⟩:=q2 λ o ho'=>hf o (by simp [ho'])
    obtain ⟨c,d⟩:=q1 (hf op (by simp))
    rw [a,c,List.length_tail,length_cons]
    omega
end
def EU {S:ah} {k:Nat} {ds:List W} (h:S[k]?=some (.lst ds)):Jb S k=some ds:=by unfold Jb;rw [h]
def B3 {o:Int} {FN WD:Ω} (hFN:∀ f∈FN,strOk f=true) (hWD:∀ f∈WD,strOk f=true) (S:ah) (lo:Nat) (l:List Op) (hlo:S[lo]?=some (.lst (l.map dj))) (ho:∀ op∈l,xT o FN WD op) (hl:l.length<=70) (line:Int) (main:Bool):∃ S' b cs c la fr,iJ [.ref lo,.int line,.bool main] S=some (.ok (.tuple [.ref b,.int (la+1)]),S')/\iW (PP o FN WD) o main (l++[.fin,.fin,.fin,.fin,.fin]) line [] [] fr cs la/\fr=[]/\(∃ G:χ,(∀ k ds,G k=some ds->S.length<=k/\S'[k]?=some (.lst ds))/\rW G 28 (.ref b)=some (.list (bS cs)))/\nz (PP o FN WD) 5 false cs c/\c<=l.length/\S.length<=S'.length/\∀ k,k<S.length->S'[k]?=S[k]?:=by
 let S0:ah:=S++[Ob.lst []]++[Ob.lst []]
 have g0:S0[S.length]?=some (.lst []):=aS (bT _ _)
 have g1:S0[S.length+1]?=some (.lst []):=by have:=bT (S++[Ob.lst []]) (Ob.lst []);simpa [S0] using this
 have v0:LV (PP o FN WD) o S0 (λ _=>none) S.length (S.length+1) S.length [] [] S.length 0:=
  ⟨⟨rfl,[],g0,rfl,.nil⟩,g1,by simp [kb],λ _ _=>rfl,(λ k ds hk=>by cases hk),(λ k hk=>by simp [kb] at hk;omega),by simp,(λ k ds hk=>by cases hk)⟩
 let fin5:List Op:=[.fin,.fin,.fin,.fin,.fin]
 obtain ⟨S1,F1,o1,fs1,h1,line1,t6,t7,n1,e1,v1,g1',b1,k1,f1,_⟩:=mT (ops:=.ref lo) (main:=main) hFN hWD l S0 _ [] [] S.length 0 line .no .no v0 (by simp [S0]) ho (by omega)
 obtain ⟨S2,F2,o2,fs2,h2,line2,u6,u7,n2,e2,v2,g2',b2,k2,f2,q2⟩:=mT (ops:=.ref lo) (main:=main) hFN hWD fin5 S1 F1 o1 fs1 h1 n1 line1 t6 t7 v1 k1 (λ op hop=>by simp [fin5] at hop;subst hop;trivial) (by simp [fin5];omega)
 obtain ⟨q3,q4⟩:=q2 (λ op hop=>by simpa [fin5] using hop)
 have fl:=v1.fl
 have e0:fs2=[]:=List.eq_nil_of_length_eq_zero (by rw [q3];simp [fin5];omega)
 subst e0
 obtain ⟨eb,ws,w1,w2,w3⟩:=v2.li
 subst eb
 refine ⟨S2,S.length,o2,n2,line2,[],?_,iW.app g2' _ g1',rfl,?_,w3,by omega,k2,λ k hk=>?_⟩
 . refine (bt rfl).trans ((congrArg fw (?_:_=some (.rt (.tuple [.ref S.length,.int (line2+1)]),S2))).trans rfl)
   refine (ai (δ':=[.val (.ref lo),.val (.int line),.val (.bool main),.val (.ref S.length),.no,.no,.no,.no]) (S':=S++[Ob.lst []]) (bf (d:=.ref S.length) rfl rfl)).trans ?_
   refine (ai (δ':=[.val (.ref lo),.val (.int line),.val (.bool main),.val (.ref S.length),.val (.ref S.length),.no,.no,.no]) (S':=S++[Ob.lst []]) (aR rfl)).trans ?_
   refine (ai (δ':=ub (.ref lo) line main S.length S.length (S.length+1) .no .no) (S':=S0) (bf (d:=.ref (S.length+1)) (by show some (Rs.ok (W.ref (S++[Ob.lst []]).length),_)=_;rw [length_append];rfl) rfl)).trans ?_
   have hlo0:S0[lo]?=some (.lst (l.map dj)):=aS (aS hlo)
   have it:ii (wZ (ab (af 0)) (ab (br (CA (bE (aa (aM (aa (dC (.str "end")) ag)) ag)) (dC (.int (5))))))) (ub (.ref lo) line main S.length S.length (S.length+1) .no .no) S0=some (.ok (l.map dj++fin5.map dj),S0):=by
    have r:br (CA (bE (aa (aM (aa (dC (.str "end")) ag)) ag)) (dC (.int (5)))) (ub (.ref lo) line main S.length S.length (S.length+1) .no .no)=some (.list (fin5.map dj)):=rfl
    have v0:ab (af 0) (ub (.ref lo) line main S.length S.length (S.length+1) .no .no) S0=some (.ok (.ref lo),S0):=rfl
    have ga:AV (.ref lo) (.list (fin5.map dj)) S0=some (.list (l.map dj++fin5.map dj)):=by
     simp only [AV,fg hlo0,bind_some,iO]
     exact if_pos (by simp [fin5];omega)
    simp only [ii,wZ,v0,ao r,aq,ga,iq,map_some]
    rfl
   have both:bx (ae 6) cQ (l.map dj++fin5.map dj) (ub (.ref lo) line main S.length S.length (S.length+1) .no .no) S0=some (.nx (ub (.ref lo) line2 main S.length S.length (S.length+1) u6 u7),S2):=by
    have e3:=e2 []
    rw [append_nil] at e3
    exact (e1 _).trans e3
   refine (ai ((cM it).trans both)).trans ?_
   exact lp (bo (kM rfl rfl))
 . have n0:=v2.nf S.length (by simp)
   refine ⟨lD F2 S.length ws,λ k ds hk=>?_,nK (by simp [lD]) (f7 (λ d e=>hU (vf n0) _ _ d e (by omega)) _ _ w2)⟩
   unfold lD at hk
   split at hk
   . rename_i z
     cases hk
     subst z
     exact ⟨le_refl _,w1⟩
   . exact ⟨v2.lf k ds hk,v2.hF k ds hk⟩
 . rw [f2 k hk,f1 k hk,getElem?_append_left (by simp;omega),getElem?_append_left hk]
def k9 (r:Ψ) (h:Hd):aD (ir r h)=aD h:=by cases h <;> rfl
section
variable {P P' Q:π} {r:Ψ} {o o':Int} {main:Bool}
def eS.snoc {n:Nat} {wh:Bool} {k:Int} {h h':Hd} {c':Nat} (g:qj P r n wh h h' c'):∀ (cs ds:ω) (c:Nat),eS P r n wh cs ds c->eS P r n wh (cs++[(k,h)]) (ds++[(k,h')]) (c+c')
 | [],_,c,q=>by
  cases q
  have:=eS.cons (k:=k) g .nil
  simpa using this
 | b::cs,_,c,q=>by
  cases q with
  | cons g1 g2=>
   rw [add_assoc]
   exact eS.cons g1 (eS.snoc g cs _ _ g2)
noncomputable def yG (P:π) (r:Ψ):List Fr->List Fr->Nat->Prop
 | [],[],n=>n=0
 | f::fs,g::gs,n=>∃ n1 n2 n3,g.wh=f.wh/\g.ln=f.ln/\g.t=aO r f.t/\g.b.isNone=f.b.isNone/\eS P r (4-fs.length) (kH (f::fs)) f.cs g.cs n1/\(if f.b.isNone=true then n2=0 else f.wh=false/\eS P r (4-fs.length) (kH (f::fs)) f.ca g.ca n2)/\yG P r fs gs n3/\n=n1+n2+n3+1
 | _,_,_=>False
def yG.len:∀ (fs gs:List Fr) (n:Nat),yG P r fs gs n->gs.length=fs.length
 | [],[],_,_=>rfl
 | f::fs,g::gs,n,h=>by
  obtain ⟨_,_,n3,_,_,_,_,_,_,h,_⟩:=h
  exact congrArg (· + 1) (yG.len fs gs n3 h)
 | [],_::_,_,h=>h.elim
 | _::_,[],_,h=>h.elim
def yG.any:∀ (fs gs:List Fr) (n:Nat),yG P r fs gs n->gs.any (·.wh)=fs.any (·.wh)
 | [],[],_,_=>rfl
 | f::fs,g::gs,n,h=>by
  obtain ⟨_,_,n3,e,_,_,_,_,_,h,_⟩:=h
  rw [any_cons,any_cons,e,yG.any fs gs n3 h]
 | [],_::_,_,h=>h.elim
 | _::_,[],_,h=>h.elim
def D2 (op:Op) (fs gs:List Fr) (n:Nat) (h:yG P r fs gs n):n4 main gs (gf r op)=n4 main fs op:=by
 cases op with
 | st hd=>simp only [gf,n4,k9,yG.any fs gs n h]
 | opn wh t=>simp only [gf,n4,yG.len fs gs n h]
 | fin=>
  cases fs with
  | nil=>cases gs with | nil=>rfl | cons=>exact h.elim
  | cons=>cases gs with | nil=>exact h.elim | cons=>rfl
 | els=>
  cases fs with
  | nil=>cases gs with | nil=>rfl | cons=>exact h.elim
  | cons f fs=>
   cases gs with
   | nil=>exact h.elim
   | cons g gs=>
    obtain ⟨_,_,_,e1,_,_,e2,_⟩:=h
    simp only [gf,n4,e1,e2]
noncomputable def wt:Op->Nat
 | .fin=>0
 | _=>1
structure RG (P:π) (r:Ψ) (fs:List Fr) (out:ω) (gs:List Fr) (out2:ω) (N:Nat):Prop where
 q:∃ n0 n1,eS P r 5 false out out2 n0/\yG P r fs gs n1/\n0+n1<=N
 l:fs.length<=5
def RG.add {fs gs:List Fr} {out out2:ω} {n0 n1:Nat} (hl:fs.length<=5) (h0:eS P r 5 false out out2 n0) (h1:yG P r fs gs n1) {k:Int} {hd hd':Hd} {c N:Nat} (g:qj P r (5-fs.length) (kH fs) hd hd' c) (hN:n0+n1+c<=N):RG P r (nJ (k,hd) fs) (ui (k,hd) out fs) (nJ (k,hd') gs) (ui (k,hd') out2 gs) N:=by
 cases fs with
 | nil=>
  cases gs with
  | cons=>exact h1.elim
  | nil=>
   have h1:n1=0:=h1
   exact ⟨⟨n0+c,0,eS.snoc g _ _ _ h0,rfl,by omega⟩,by simp [nJ]⟩
 | cons f fs=>
  cases gs with
  | nil=>exact h1.elim
  | cons f' gs=>
   obtain ⟨m1,m2,m3,a,b,c1,d,e,f1,h1,rfl⟩:=h1
   have e5:5-(f::fs).length=4-fs.length:=by simp only [length_cons];omega
   rw [e5] at g
   exact ⟨⟨n0,m1+c+m2+m3+1,h0,⟨m1+c,m2,m3,a,b,c1,d,eS.snoc g _ _ _ e,f1,h1,rfl⟩,by omega⟩,hl⟩
def DL (hP:∀ wh t bs,ge o t 7 30->Q wh (.whl t bs)/\Q wh (.ifs t bs)) {f g:Fr} {fs:List Fr} {n1 n2:Nat} (hl:fs.length<5) (ht:ge o f.t 7 30) (e1:g.wh=f.wh) (e3:g.t=aO r f.t) (e4:g.b.isNone=f.b.isNone) (hc:eS Q r (4-fs.length) (kH (f::fs)) f.cs g.cs n1) (ha:if f.b.isNone=true then n2=0 else f.wh=false/\eS Q r (4-fs.length) (kH (f::fs)) f.ca g.ca n2):∃ c,c<=n1+n2+1/\qj Q r (5-fs.length) (kH fs) (y8 f) (y8 g) c:=by
 have e5:5-fs.length=4-fs.length+1:=by omega
 rw [e5]
 unfold y8
 rw [e1,e3]
 cases hw:f.wh with
 | true=>
  have w1:kH (f::fs)=true:=by simp [kH,hw]
  rw [w1] at hc
  exact ⟨n1+1,by omega,.whl (hP _ _ _ ht).1 hc⟩
 | false=>
  have w1:kH (f::fs)=kH fs:=by simp [kH,hw]
  rw [w1] at hc ha
  cases hb:f.b with
  | none=>
   cases hg:g.b with
   | some b=>rw [hb,hg] at e4;cases e4
   | none=>exact ⟨n1+1,by omega,.if1 (hP _ _ _ ht).2 hc⟩
  | some a=>
   cases hg:g.b with
   | none=>rw [hb,hg] at e4;cases e4
   | some b=>
    rw [hb] at ha
    have ha:eS Q r (4-fs.length) (kH fs) f.ca g.ca n2:=by simpa [hw] using ha
    exact ⟨n2+n1+1,by omega,.if2 (hP _ _ _ ht).2 ha hc⟩
def IZ.rel (hP:∀ wh t bs,ge o t 7 30->Q wh (.whl t bs)/\Q wh (.ifs t bs)) {op:Op} {line line' line2:Int} {fs gs fs' gs':List Fr} {out out2 out' out2':ω} {N:Nat} (hq:∀ wh h,op=.st h->P wh h->Q wh h) (R:RG Q r fs out gs out2 N) (h1:IZ P o main op line fs out fs' out' line') (h2:IZ P' o' main (gf r op) line gs out2 gs' out2' line2):RG Q r fs' out' gs' out2' (N+wt op)/\line2=line':=by
 obtain ⟨⟨n0,n1,q0,q1,hN⟩,hl⟩:=R
 have ms:=D2 (main:=main) op fs gs n1 q1
 rcases h1 with ⟨m,rfl,rfl,rfl⟩ | ⟨m,rfl,k1⟩
 . rcases h2 with ⟨_,rfl,rfl,rfl⟩ | ⟨m',_⟩
   . exact ⟨⟨⟨n0,n1,q0,q1,by omega⟩,hl⟩,rfl⟩
   . rw [ms,m] at m'
     cases m'
 rcases h2 with ⟨m',_⟩ | ⟨_,rfl,k2⟩
 . rw [ms,m] at m'
   cases m'
 cases op with
 | st h=>
  obtain ⟨p,hb,rfl,rfl⟩:=k1
  obtain ⟨_,_,rfl,rfl⟩:=k2
  exact ⟨RG.add hl q0 q1 (.lf (hq _ _ rfl p) hb) (by show _<=N+1;omega),rfl⟩
 | opn wh t=>
  obtain ⟨f,a,b,c,d,e,rfl,rfl⟩:=k1
  obtain ⟨f',a',b',c',d',e',rfl,rfl⟩:=k2
  have h5:fs.length<5:=of_decide_eq_true m
  exact ⟨⟨⟨n0,n1+1,q0,⟨0,0,n1,by rw [a',a],by rw [b',b],by rw [c',c],by rw [d',d],by rw [e,e'];exact .nil,by simp [d],q1,by omega⟩,by show _<=N+1;omega⟩,by simp;omega⟩,rfl⟩
 | fin=>
  obtain ⟨f,fs,rfl,ht,rfl,rfl⟩:=k1
  obtain ⟨g,gs,rfl,_,rfl,rfl⟩:=k2
  obtain ⟨m1,m2,m3,a,b,c1,d,e,f1,q1,rfl⟩:=q1
  simp only [length_cons] at hl
  obtain ⟨c,hc,gc⟩:=DL hP (by omega) ht a c1 d e f1
  rw [b]
  exact ⟨RG.add (by omega) q0 q1 gc (by show _<=N+0;omega),rfl⟩
 | els=>
  obtain ⟨f,fs,b0,rfl,hw,hb,rfl,rfl⟩:=k1
  obtain ⟨g,gs,_,rfl,_,_,rfl,rfl⟩:=k2
  obtain ⟨m1,m2,m3,a,b,c1,d,e,f1,q1,rfl⟩:=q1
  rw [hb] at f1
  have m20:m2=0:=by simpa using f1
  exact ⟨⟨⟨n0,m1+m3+1,q0,⟨0,m1,m3,a,b,c1,rfl,.nil,⟨hw,e⟩,q1,by omega⟩,by show _<=N+1;omega⟩,hl⟩,rfl⟩
def iW.rel (hP:∀ wh t bs,ge o t 7 30->Q wh (.whl t bs)/\Q wh (.ifs t bs)) {line':Int} {fs':List Fr} {out':ω}:∀ (l:List Op) {line:Int} {fs:List Fr} {out:ω},(∀ h,.st h∈l->∀ wh,P wh h->Q wh h)->iW P o main l line fs out fs' out' line'->∀ {line2:Int} {gs gs':List Fr} {out2 out2':ω} {N:Nat},RG Q r fs out gs out2 N->iW P' o' main (l.map (gf r)) line gs out2 gs' out2' line2->RG Q r fs' out' gs' out2' (N+(l.map wt).sum)/\line2=line':=λ l=>by
 induction l with
 | nil=>
  intro line fs out _ h1 line2 gs gs' out2 out2' N R h2
  obtain ⟨rfl,rfl,rfl⟩:=h1
  obtain ⟨rfl,rfl,rfl⟩:=h2
  exact ⟨R,rfl⟩
 | cons op l ih=>
  intro line fs out hq h1 line2 gs gs' out2 out2' N R h2
  obtain ⟨_,_,_,a,h1⟩:=h1
  obtain ⟨_,_,_,b,h2⟩:=h2
  obtain ⟨R1,e1⟩:=IZ.rel hP (λ wh h e=>hq h (by rw [<-e];exact mem_cons_self) wh) R a b
  subst e1
  obtain ⟨R2,e2⟩:=ih (λ h hm=>hq h (mem_cons_of_mem _ hm)) h1 R1 h2
  refine ⟨?_,e2⟩
  rw [map_cons,sum_cons,<-add_assoc]
  exact R2
def z7 (hP:∀ wh t bs,ge o t 7 30->Q wh (.whl t bs)/\Q wh (.ifs t bs)) {l:List Op} {line la la':Int} {cs cs':ω} (hq:∀ h,.st h∈l->∀ wh,P wh h->Q wh h) (h1:iW P o main l line [] [] [] cs la) (h2:iW P' o' main (l.map (gf r)) line [] [] [] cs' la'):(∃ c,c<=(l.map wt).sum/\eS Q r 5 false cs cs' c)/\la'=la:=by
 obtain ⟨R,e⟩:=iW.rel (r:=r) hP l hq h1 (N:=0) (gs:=[]) (out2:=[]) ⟨⟨0,0,.nil,rfl,le_refl _⟩,zero_le _⟩ h2
 obtain ⟨⟨n0,n1,q0,q1,hN⟩,_⟩:=R
 exact ⟨⟨n0,by omega,q0⟩,e⟩
end
def Ko (k:Nat) (h:k<4):∃ m:Int,fu [W.int 1,.int 42,.int 1764,.int 74088] (k:Int)=some (.int m)/\0<m/\m<2^64:=by
 obtain ⟨m,hm,e⟩:=gP W.int [1,42,1764,74088] (Int.natCast_nonneg k) (ofNat_lt.mpr h)
 exact ⟨m,e,(show ∀ m∈[(1:Int),42,1764,74088],0<m/\m<2^64 by decide) m hm⟩
def Ku (i:Int) (h0:0<=i) (h1:i<7):∃ n:Nat,fu [W.int 0,.int 0,.int 1,.int 1,.int 2,.int 3,.int 6] i=some (.int (n:Int))/\n<=6:=by
 obtain ⟨n,hn,e⟩:=gP (λ n:Nat=>W.int n) [0,0,1,1,2,3,6] h0 h1
 exact ⟨n,e,(show ∀ n∈[0,0,1,1,2,3,6],n<=6 by decide) n hn⟩
section
variable {N V:Ω}
def vZ (hV:V.length=6) (dg:Int):∀ (n:Nat) (lo:Int),∃ xs:Ω,xs.length=n/\(∀ x∈xs,x∈V)/\∀ r:Ψ,b6 (ae 2) gN (az aT (aw 0) (az bD (az ck (az cm (aw 1) (dC (.int (7)))) (af 2)) (dC (.int (6))))) [.val (.list ((V.map r).map .str)),.val (.int dg),.no] (eZ lo n)=some ((xs.map r).map .str)
 | 0,lo=>⟨[],rfl,(λ x hx=>absurd hx not_mem_nil),λ _=>rfl⟩
 | n+1,lo=>by
  obtain ⟨xs,l,h,e⟩:=vZ hV dg n (lo+1)
  obtain ⟨x,hx,ex⟩:=Br V hV (dg.fdiv 7+lo)
  refine ⟨x::xs,by simp [l],λ y hy=>?_,λ r=>?_⟩
  . rcases mem_cons.mp hy with rfl | hy
    . exact hx
    . exact h y hy
  . rw [f6]
    have ex:=ex r
    have e:=e r
    generalize V.map r=V' at ex e
    first | rfl | simp +decide only [b6,uD,Nat.reduceAdd,Nat.reduceSub,reduceIte,Nat.reduceEqDiff,List.replicate,ex,e,map_cons]
noncomputable def EF (head:Int) (N V:Ω) (s3:Sl) (l:List W) (s5 s6 s7:Sl):DS:=[.val (.int head),.val (.list (N.map .str)),.val (.list (V.map .str)),s3,.own l,s5,s6,s7]
def wW (hN:N.length=6) (hV:V.length=6) {A B:Str->Prop} (hn:∀ x∈N,A x) (hv:∀ x∈V,B x) (head:Int) (s3:Sl):∀ (n lo:Nat) (R:List Rm) (s5 s6 s7:Sl),lo+n<=4->R.length=lo->(∀ r∈R,A r.1/\(∀ x∈r.2,B x)/\r.2.length<=6)->∃ (R':List Rm) (t5 t6 t7:Sl),R'.length=lo+n/\(∀ r∈R',A r.1/\(∀ x∈r.2,B x)/\r.2.length<=6)/\∀ r,bh (ae 5) i6 (eZ (lo:Int) n) (EF head (N.map r) (V.map r) s3 ((R.map (bi r)).map di) s5 s6 s7)=some (.nx (EF head (N.map r) (V.map r) s3 ((R'.map (bi r)).map di) t5 t6 t7))
 | 0,lo,R,s5,s6,s7,_,hl,hR=>⟨R,s5,s6,s7,hl,hR,λ _=>rfl⟩
 | n+1,lo,R,s5,s6,s7,h4,hl,hR=>by
  obtain ⟨m,em,m0,m1⟩:=Ko lo (by omega)
  let dg:Int:=(head.fdiv 64).fdiv m
  have gd1:cm (.int (head.fdiv 64)) (.int m)=some (.int dg):=vm (n5 m0 m1)
  have hm:=bG dg (j:=7) (by decide)
  obtain ⟨c,ec,hc⟩:=Ku _ hm.1 hm.2
  obtain ⟨xs,lx,hx,ex⟩:=vZ hV dg c 0
  obtain ⟨y,hy,en⟩:=uL N (i:=(lo:Int)) (by omega) (by omega)
  obtain ⟨R',t5,t6,t7,l',h',e'⟩:=wW hN hV hn hv head s3 n (lo+1) (R++[(y,xs)]) (.val (.int (lo:Int))) (.val (.int dg)) (.val (.int (c:Int))) (by omega) (by simp [hl]) (λ q hq=>by
   rcases mem_append.mp hq with hq | hq
   . exact hR q hq
   . rw [mem_singleton.mp hq];exact ⟨hn _ hy,λ x h=>hv x (hx x h),by show xs.length<=6;omega⟩)
  refine ⟨R',t5,t6,t7,by omega,h',λ r=>?_⟩
  rw [f6]
  let δ (s6 s7:Sl) (l:List W):DS:=EF head (N.map r) (V.map r) s3 l (.val (.int (lo:Int))) s6 s7
  have en':fu ((N.map r).map W.str) (lo:Int)=some (.str (r y)):=by rw [map_map];exact en λ x=>W.str (r x)
  refine iY (δ2:=δ s6 s7 ((R.map (bi r)).map di)) rfl ?_ (e' r)
  refine ak (δ1:=δ (.val (.int dg)) s7 ((R.map (bi r)).map di)) (aK (dO rfl (qa (l:=[W.int 1,.int 42,.int 1764,.int 74088]) rfl rfl em) gd1) rfl) ?_
  refine ak (δ1:=δ (.val (.int dg)) (.val (.int (c:Int))) ((R.map (bi r)).map di)) (aK (qa (l:=[W.int 0,.int 0,.int 1,.int 1,.int 2,.int 3,.int 6]) rfl rfl ec) rfl) ?_
  have r1:jf (aa (af 7) ag) (δ (.val (.int dg)) (.val (.int (c:Int))) ((R.map (bi r)).map di))=some (eZ 0 c):=gy (n:=c) rfl (by omega)
  exact (LQ rfl (kM (qa rfl rfl en') (KY r1 (by simp [eZ];omega) (ex r))) (by rw [length_map,length_map];omega)).trans (by rw [map_append,map_append];rfl)
def GR.main {r:Ψ} (g:GR r):r (Str.ofString "main")=Str.ofString "main" := of_decide_eq_true ((g.m _).trans (decide_eq_true rfl))
def yn (hN:N.length=6) (hV:V.length=6) (hn:∀ x∈N,strOk x=true) (hv:∀ x∈V,strOk x=true) (head:Int):∃ R:List Rm,(∀ r,GR r->gX [.int head,.list ((N.map r).map .str),.list ((V.map r).map .str)]=some (.list ((R.map (bi r)).map di)))/\0<R.length/\R.length<=4/\∀ x∈R,zV (R.map (·.1)) x/\(x.1∈N∨x.1=Str.ofString "main")/\∀ y∈x.2,y∈V:=by
 have h4:=bG head (j:=4) (by decide)
 obtain ⟨m,hm⟩:∃ m:Nat,1+head.fmod 4=(m:Int):=⟨(1+head.fmod 4).toNat,by omega⟩
 obtain ⟨R,t5,t6,t7,l,h,e⟩:=wW hN hV (A:=λ x=>strOk x=true/\x∈N) (B:=λ x=>strOk x=true/\x∈V) (λ x hx=>⟨hn x hx,hx⟩) (λ x hx=>⟨hv x hx,hx⟩) head (.val (.int (m:Int))) m 0 [] .no .no .no (by omega) rfl (λ r hr=>absurd hr not_mem_nil)
 have hj:=bG (head.fdiv 4) (j:=(m:Int)) (by omega)
 obtain ⟨j,ej⟩:∃ j:Nat,(head.fdiv 4).fmod (m:Int)=(j:Int):=⟨((head.fdiv 4).fmod (m:Int)).toNat,by omega⟩
 let mn:Rm:=(Str.ofString "main", [])
 have md:bD (.int (head.fdiv 4)) (.int (m:Int))=some (.int (j:Int)):=by rw [<-ej];exact mF (by simp only [jI,decide_eq_true_eq];omega)
 have mo:strOk (Str.ofString "main")=true:=by decide +kernel
 refine ⟨R.set j mn,λ r g=>?_,by simp;omega,by simp;omega,λ r hr=>?_⟩
 . have ix:ug ((R.map (bi r)).map di).length (j:Int)=some j:=by
    unfold ug
    rw [if_pos (by omega),if_pos (by simp;omega)]
    simp
   have mr:bi r mn=mn:=by show (r (Str.ofString "main"),[].map r)=_;rw [g.main];rfl
   have es:((R.map (bi r)).map di).set j (di mn)=((R.set j mn).map (bi r)).map di:=by rw [map_set,map_set,mr]
   refine aZ rfl ?_
   refine ak (δ1:=[.val (.int head),.val (.list ((N.map r).map .str)),.val (.list ((V.map r).map .str)),.val (.int (m:Int)),.no,.no,.no,.no]) (aK ((rfl:_=some (W.int (1+head.fmod 4))).trans (by rw [hm])) rfl) ?_
   refine ak (δ1:=EF head (N.map r) (V.map r) (.val (.int (m:Int))) ((([]:List Rm).map (bi r)).map di) .no .no .no) rfl ?_
   refine ak (fQ (ds:=eZ 0 m) (gy (n:=m) rfl (by omega)) (e r)) ?_
   refine ak (δ1:=EF head (N.map r) (V.map r) (.val (.int (m:Int))) (((R.set j mn).map (bi r)).map di) t5 t6 t7) ?_ rfl
   have tv:aM (aa (dC (.str "main")) (aa (br (bE ag)) ag)) (EF head (N.map r) (V.map r) (.val (.int (m:Int))) ((R.map (bi r)).map di) t5 t6 t7)=some (di mn):=kM rfl rfl
   have ow:lC 4 (EF head (N.map r) (V.map r) (.val (.int (m:Int))) ((R.map (bi r)).map di) t5 t6 t7)=some ((R.map (bi r)).map di):=rfl
   have iv:az bD (az cm (aw 0) (dC (.int (4)))) (af 3) (EF head (N.map r) (V.map r) (.val (.int (m:Int))) ((R.map (bi r)).map di) t5 t6 t7)=some (.int (j:Int)):=dO rfl rfl md
   simp only [rf,tv,ow,iv,bind_some,ix,map_some,es]
   rfl
 . have hr':r∈R∨r=mn:=(List.mem_or_eq_of_mem_set hr).imp id id
   have q:strOk r.1=true/\(∀ x∈r.2,strOk x=true/\x∈V)/\r.2.length<=6/\(r.1∈N∨r.1=Str.ofString "main"):=by
    rcases hr' with hr' | rfl
    . exact ⟨(h r hr').1.1,(h r hr').2.1,(h r hr').2.2,.inl (h r hr').1.2⟩
    . exact ⟨mo,(λ x hx=>absurd hx not_mem_nil),by simp [mn],.inr rfl⟩
   exact ⟨⟨q.1,λ x hx=>(q.2.1 x hx).1,q.2.2.1,λ _=>mem_map.mpr ⟨r,hr,rfl⟩⟩,q.2.2.2,λ y hy=>(q.2.1 y hy).2⟩
def z8 (hN:N.length=6) (hn:∀ x∈N,eY x) (head:Int):∃ V:Ω,(∀ r,GR r->cA [.int head,.list ((N.map r).map .str)]=some (.list ((V.map r).map .str)))/\V.length=6/\∀ x∈V,eY x/\(x∈N∨x=Str.ofString "main"):=by
 have z1:=sz 1 (by decide)
 by_cases h:(head.fdiv 1000000000).fmod 4=1
 . have e:=decide_eq_true h
   have ma:eY (Str.ofString "main"):=by unfold eY;decide +kernel
   refine ⟨N.take 5++[Str.ofString "main"],λ r g=>?_,by simp;omega,λ x hx=>?_⟩
   . rw [map_append,map_take,map_cons,map_nil,g.main]
     have hM:(N.map r).length=6:=by simpa using hN
     generalize N.map r=M at hM
     have cu:io (M.map W.str) none (some 5)=(M.take 5).map .str:=by
      have:io (M.map W.str) none (some 5)=io (M.map W.str) (some ((0:Nat):Int)) (some ((5:Nat):Int)):=rfl
      rw [this,Gh]
      simp [map_take]
     have ga:ck (.list ((M.take 5).map W.str)) (.list [.str "main"])=some (.list ((M.take 5++[Str.ofString "main"]).map .str)):=by
      rw [qF (sz _ (by simp;omega))]
      simp
     first | rfl | simp +decide only [cA,uD,Nat.reduceAdd,Nat.reduceSub,reduceIte,Nat.reduceEqDiff,List.replicate,Jy,e,cu,if_pos z1,ga]
   . rcases mem_append.mp hx with hx | hx
     . exact ⟨hn x (List.mem_of_mem_take hx),.inl (List.mem_of_mem_take hx)⟩
     . rw [mem_singleton.mp hx];exact ⟨ma,.inr rfl⟩
 . have e:=decide_eq_false h
   refine ⟨N,λ r _=>?_,hN,λ x hx=>⟨hn x hx,.inl hx⟩⟩
   have hM:(N.map r).length=6:=by simpa using hN
   generalize N.map r=M at hM
   have zn:(M.map W.str).length<=sizeLine:=sz _ (by simp;omega)
   first | rfl | simp +decide only [cA,uD,Nat.reduceAdd,Nat.reduceSub,reduceIte,Nat.reduceEqDiff,List.replicate,gU,Jy,e,if_pos zn]
end
noncomputable def qz (OL:List (List Op)):ah:=OL.map λ l=>.lst (l.map dj)
def vU:∀ (R:List Rm) (S:ah),b9 (ae 0) (ab gN) (d9 (ab ag)) [.no] (R.map di) S=some (.ok ((List.range' S.length R.length).map .ref),S++List.replicate R.length (.lst []))
 | [],S=>by simp [b9]
 | r::R,S=>by
  have z0:=sz 0 (by decide)
  have ih:=vU R (S++[Ob.lst []])
  have:=re (ae 0) (d9 (ab ag)) [.no] [.val (di r)] (di r) (.ref S.length) (R.map di) _ S (S++[Ob.lst []]) _ rfl (by first | rfl | simp! [uS,uD,if_pos z0]) ih
  rw [map_cons,this]
  simp [List.range'_succ,replicate_succ]
def AK {k n:Nat} (h:k<n):fu ((List.range' 0 n).map W.ref) (k:Int)=some (.ref k):=by
 rw [Bb _ k (by simp;omega),getElem?_map,List.getElem?_range' h]
 simp
def vv:∀ (L:List (List Op)),∀ l∈L,l.length<=(L.map List.length).sum
 | a::L,l,h=>by
  rw [map_cons,sum_cons]
  rcases mem_cons.mp h with rfl | h
  . omega
  . have:=vv L l h
    omega
def O6 {f:μ} {δ:DS} {l:List W} (h:f δ=some (.list l)):br (gU f) δ=some (.list l):=by
 unfold br gU
 rw [h]
 rfl
noncomputable def rV (OL:List (List Op)):Nat:=(OL.map List.length).sum
def qK:∀ (OL:List (List Op)) (j:Nat) (op:Op) (h:j<OL.length),rV (OL.set j (OL[j]++[op]))=rV OL+1
 | l::OL,0,op,_=>by simp [rV];omega
 | l::OL,j+1,op,h=>by
  have:=qK OL j op (by simpa using h)
  simp [rV] at this ⊢
  omega
section
variable {V:Ω} {o:Int} {WD:Ω} {R:List Rm}
noncomputable def IX (s0 s1:Sl) (o:Int) (WD:Ω) (s4 s5:Sl) (V:Ω) (R:List Rm) (s9 s10 s11:Sl):DS:=[s0,s1,.val (.int o),.val (.list (WD.map .str)),s4,s5,.val (.list (V.map .str)),.val (.list (R.map di)),.val (.list ((List.range' 0 R.length).map .ref)),s9,s10,s11,.no,.no,.no,.no,.no]
noncomputable def oF (r:Ψ) (OL:List (List Op)):List (List Op):=OL.map (List.map (gf r))
def vX (hV:V.length=6) (hk:∀ x∈V,eY x) (hR:∀ r∈R,zV (R.map (·.1)) r) (h0:0<R.length) (h4:R.length<=4) (hW:0<WD.length) (s0 s4 s5:Sl) (s1:(Ψ)->Sl):∀ (cells:List Int) (k:Nat) (OL:List (List Op)) (s9 s10 s11:Sl),k+cells.length<900->OL.length=R.length->rV OL+cells.length<900->(∀ l∈OL,∀ op∈l,xT o (R.map (·.1)) WD op/\∀ y∈HU op,y∈V)->∃ (OL':List (List Op)) (t9 t10 t11:Sl),OL'.length=R.length/\rV OL'=rV OL+cells.length/\(∀ l∈OL',∀ op∈l,xT o (R.map (·.1)) WD op/\∀ y∈HU op,y∈V)/\∀ r,GR r->bx (b8 2 (au (ae 9) (au (ae 10) bB))) gM (AM k (cells.map .int)) (IX s0 (s1 r) o WD s4 s5 (V.map r) (R.map (bi r)) s9 s10 s11) (qz (oF r OL))=some (.nx (IX s0 (s1 r) o WD s4 s5 (V.map r) (R.map (bi r)) t9 t10 t11),qz (oF r OL'))
 | [],k,OL,s9,s10,s11,_,hl,_,ho=>⟨OL,s9,s10,s11,hl,rfl,ho,λ _ _=>rfl⟩
 | c::cells,k,OL,s9,s10,s11,hk9,hl,ht,ho=>by
  simp only [length_cons] at hk9 ht
  obtain ⟨m,em,_⟩:=eA c (k+2) (by omega)
  have e2:(((k+2:Nat)):Int)=(k:Int)+2:=by omega
  rw [e2] at em
  have hm:=bG m (j:=R.length) (by omega)
  obtain ⟨j,ej⟩:∃ j:Nat,m.fmod R.length=j:=⟨(m.fmod R.length).toNat,by omega⟩
  have jl:j<OL.length:=by omega
  obtain ⟨op,go,eo,hop⟩:=HR (o:=o) (FN:=R.map (·.1)) (WD:=WD) hV hk R hR (by omega) hW (m.fdiv R.length)
  have er:=AK (show j<R.length by omega)
  have lj:OL[j].length<=rV OL:=vv OL _ (getElem_mem jl)
  obtain ⟨OL',t9,t10,t11,l',q',o',e'⟩:=vX hV hk hR h0 h4 hW s0 s4 s5 s1 cells (k+1) (OL.set j (OL[j]++[op])) (.val (.int (k:Int))) (.val (.int c)) (.val (.int m)) (by omega) (by simpa using hl) (by rw [qK OL j op jl];omega) (λ l hm' p hp=>by
   rcases List.mem_or_eq_of_mem_set hm' with h | rfl
   . exact ho l h p hp
   . rcases mem_append.mp hp with hp | hp
     . exact ho _ (getElem_mem jl) p hp
     . rw [mem_singleton.mp hp];exact ⟨hop,go⟩)
  refine ⟨OL',t9,t10,t11,l',by rw [q',qK OL j op jl];simp only [length_cons];omega,o',λ r g=>?_⟩
  have md:=vG di (R.map (bi r)) m (by rw [length_map];exact h0)
  rw [length_map (as:=R),ej] at md
  have dv:cm (.int m) (.int (((R.map (bi r)).map di).length:Nat))=some (.int (m.fdiv R.length)):=by
   rw [length_map,length_map]
   exact vm (n5 (by omega) (by omega))
  have sj:(qz (oF r OL))[j]?=some (.lst ((OL[j].map (gf r)).map dj)):=by simp [qz,oF,getElem?_eq_getElem jl]
  have ss:(qz (oF r OL)).set j (.lst ((OL[j].map (gf r)).map dj++[dj (gf r op)]))=qz (oF r (OL.set j (OL[j]++[op]))):=by simp [qz,oF,map_set]
  have er:fu ((List.range' 0 (R.map (bi r)).length).map W.ref) (j:Int)=some (.ref j):=by rw [length_map];exact er
  rw [map_cons]
  refine (bK (δ2:=IX s0 (s1 r) o WD s4 s5 (V.map r) (R.map (bi r)) (.val (.int (k:Int))) (.val (.int c)) s11) (δ':=IX s0 (s1 r) o WD s4 s5 (V.map r) (R.map (bi r)) (.val (.int (k:Int))) (.val (.int c)) (.val (.int m))) (S':=qz (oF r (OL.set j (OL[j]++[op])))) rfl ?_).trans (e' r g)
  refine (ai (δ':=IX s0 (s1 r) o WD s4 s5 (V.map r) (R.map (bi r)) (.val (.int (k:Int))) (.val (.int c)) (.val (.int m))) (S':=qz (oF r OL)) (aR (aK (d:=.int m) (iu rfl em) rfl))).trans ?_
  rw [<-ss]
  exact dD (qa rfl (dO rfl rfl md) er) sj (ao (iu (iw (dO rfl rfl dv) rfl) (eo r g))) (by simp;omega)
noncomputable def Fm (P:π) (o:Int):List Rm->List (List Op)->Int->List oq->Prop
 | [],_,_,ds=>ds=[]
 | rm::R,OL,line,ds=>∃ l OL1 la d ds1,OL=l::OL1/\ds=d::ds1/\iW P o (decide (rm.1=Str.ofString "main")) (l++[.fin,.fin,.fin,.fin,.fin]) (line+1) [] [] [] d.bd la/\d.nm=rm.1/\d.ps=rm.2/\d.ln=line+1/\d.la=la+1/\Fm P o R OL1 (la+1) ds1
noncomputable def xb (S:ah) (q:Nat) (w:W) (d:oq):Prop:=∀ G:Nat->Option (List W),(∀ k ds,q<k->S[k]?=some (.lst ds)->G k=some ds)->rW G 30 w=some (dW d)
def xb.move {S S':ah} {q:Nat} {w:W} {d:oq} (h:xb S q w d) (hs:∀ k,q<k->k<S.length->S'[k]?=S[k]?):xb S' q w d:=λ G hG=>h G λ k ds hk hS=>hG k ds hk (by rw [hs k hk (oG hS).1];exact hS)
noncomputable def LJ (s0 s1 s2 s3 s4 s5 s6:Sl) (R:List Rm) (R8:List W) (s9 s10 s11:Sl) (q:Nat) (line:Int) (s14 s15 s16:Sl):DS:=[s0,s1,s2,s3,s4,s5,s6,.val (.list (R.map di)),.val (.list R8),s9,s10,s11,.val (.ref q),.val (.int line),s14,s15,s16]
structure EL (P:π) (S:ah) (q:Nat) (ws:List W) (ds:List (oq×Nat)):Prop where
 hq:S[q]?=some (.lst ws)
 al:ws.length=ds.length
 en:∀ (i:Nat) (w:W) (d:oq×Nat),ws[i]?=some w->ds[i]?=some d->xb S q w d.1
 gb:∀ d∈ds,nz P 5 false d.1.bd d.2/\d.1.ps.length<=6/\strOk d.1.nm=true/\∀ x∈d.1.ps,strOk x=true
noncomputable abbrev O2 (o:Int) (WD:Ω) (R:List Rm) (R8:List W) (OL:List (List Op)) (s0 s1 s2 s3 s4 s5 s6 s10 s11:Sl) (k:Nat) (rs:List Rm) (S:ah) (ds:List (oq×Nat)) (line:Int) (s9 s14 s15 s16:Sl) (S':ah) (ws':List W) (ds':List (oq×Nat)) (line':Int) (t9 t14 t15 t16:Sl) (es:List oq):Prop:=ds'.map (·.1)=ds.map (·.1)++es/\Fm (PP o (R.map (·.1)) WD) o rs (OL.drop k) line es/\bx (b8 2 (au (ae 9) (au (ae 14) bB))) gJ (AM k (rs.map di)) (LJ s0 s1 s2 s3 s4 s5 s6 R R8 s9 s10 s11 R.length line s14 s15 s16) S=some (.nx (LJ s0 s1 s2 s3 s4 s5 s6 R R8 t9 s10 s11 R.length line' t14 t15 t16),S')/\EL (PP o (R.map (·.1)) WD) S' R.length ws' ds'/\ds'.map (·.1.nm)=ds.map (·.1.nm)++rs.map (·.1)/\(ds'.map (·.2)).sum<=(ds.map (·.2)).sum+((OL.drop k).map List.length).sum
def xm (hFN:∀ r∈R,zV (R.map (·.1)) r) (hWD:∀ f∈WD,strOk f=true) (R8:List W) (h8:R8=(List.range' 0 R.length).map .ref) (OL:List (List Op)) (hOL:OL.length=R.length) (ho:∀ l∈OL,∀ op∈l,xT o (R.map (·.1)) WD op) (hl:∀ l∈OL,l.length<=70) (s0 s1 s2 s3 s4 s5 s6 s10 s11:Sl):∀ (n k:Nat) (rs:List Rm) (S:ah) (ws:List W) (ds:List (oq×Nat)) (line:Int) (s9 s14 s15 s16:Sl),rs=R.drop k->rs.length=n->(∀ i,i<R.length->S[i]?=(qz OL)[i]?)->EL (PP o (R.map (·.1)) WD) S R.length ws ds->ds.length+n<=100->
 ∃ (S':ah) (ws':List W) (ds':List (oq×Nat)) (line':Int) (t9 t14 t15 t16:Sl) (es:List oq),O2 o WD R R8 OL s0 s1 s2 s3 s4 s5 s6 s10 s11 k rs S ds line s9 s14 s15 s16 S' ws' ds' line' t9 t14 t15 t16 es
 | 0,k,rs,S,ws,ds,line,s9,s14,s15,s16,hr,hn,hS,el,_=>by
  have:rs=[]:=List.eq_nil_of_length_eq_zero hn
  subst this
  exact ⟨S,ws,ds,line,s9,s14,s15,s16,[],by simp,rfl,rfl,el,by simp,by omega⟩
 | n+1,k,rs,S,ws,ds,line,s9,s14,s15,s16,hr,hn,hS,el,h100=>by
  have kl:k<R.length:=by rw [hr,length_drop] at hn;omega
  have rk:rs=R[k]::R.drop (k+1):=by rw [hr];exact drop_eq_getElem_cons kl
  have ok:=hFN R[k] (getElem_mem kl)
  have ko:k<OL.length:=by omega
  have hlo:S[k]?=some (.lst (OL[k].map dj)):=by rw [hS k kl];simp [qz,getElem?_eq_getElem ko]
  let main:Bool:=decide (R[k].1=Str.ofString "main")
  have fnOk:∀ f∈R.map (·.1),strOk f=true:=λ f hf=>by obtain ⟨r,h1,rfl⟩:=mem_map.mp hf;exact (hFN r h1).n
  obtain ⟨S1,b,cs,c,la,fr',e1,stp,fr0,⟨G1,g1,g2⟩,gb,cc,sl,fr⟩:=B3 fnOk hWD S k OL[k] hlo (λ op hop=>ho _ (getElem_mem ko) op hop) (hl _ (getElem_mem ko)) (line+1) main
  have ql:=(oG el.hq).1
  have hq1:S1[R.length]?=some (.lst ws):=by rw [fr _ ql];exact el.hq
  subst fr0
  let d:oq:=⟨R[k].1,R[k].2,cs,line+1,la+1⟩
  let w:W:=.tuple [.str R[k].1,.list (R[k].2.map .str),.ref b,.int (line+1),.int (la+1)]
  let S2:ah:=S1.set R.length (.lst (ws++[w]))
  have el2:EL (PP o (R.map (·.1)) WD) S2 R.length (ws++[w]) (ds++[(d,c)]):=by
   refine ⟨set_eq' hq1,by simp [el.al],λ i w' d' hw hd=>?_,λ x hx=>?_⟩
   . rcases lt_or_ge i ws.length with hi | hi
     . rw [getElem?_append_left hi] at hw
       rw [getElem?_append_left (by rw [<-el.al];exact hi)] at hd
       exact (el.en i w' d' hw hd).move λ k hk hk2=>by rw [getElem?_set_ne (by omega),fr k hk2]
     . have il:i=ws.length:=by have:=(oG hw).1;simp at this;omega
       subst il
       rw [getElem?_append_right (le_refl _),Nat.sub_self] at hw
       rw [el.al,getElem?_append_right (le_refl _),Nat.sub_self] at hd
       simp at hw hd
       subst hw hd
       intro G hG
       have rb:rW G 29 (.ref b)=some (.list (bS cs)):=hU (λ k ds hk=>by
        obtain ⟨a1,a2⟩:=g1 k ds hk
        exact hG k ds (by omega) (set_ne' a2 (by omega))) 28 29 _ _ (by omega) g2
       have st:=mB ok.p
       have rp:rW G 29 (.list (R[k].2.map .str))=some (.list (R[k].2.map .str)):=tH G 29 _ (by simpa [hJ] using st.1) (by simp only [cF];omega)
       exact rQ (ba (d:=.str R[k].1) rfl (ba rp (ba rb (ba (d:=.int (line+1)) rfl (ba (d:=.int (la+1)) (ds:=[]) rfl rfl)))))
   . rcases mem_append.mp hx with hx | hx
     . exact el.gb x hx
     . rw [mem_singleton.mp hx];exact ⟨gb,ok.l,ok.n,ok.p⟩
  obtain ⟨S',ws',ds',line',t9,t14,t15,t16,es,es1,es2,e2,el3,nm3,sm3⟩:=xm hFN hWD R8 h8 OL hOL ho hl s0 s1 s2 s3 s4 s5 s6 s10 s11 n (k+1) (R.drop (k+1)) S2 (ws++[w]) (ds++[(d,c)]) (la+1) (.val (.int (k:Int))) (.val (di R[k])) (.val (.ref b)) (.val (.int (la+1))) rfl (by rw [hr,length_drop] at hn;rw [length_drop];omega) (λ i hi=>by rw [getElem?_set_ne (by omega),fr i (by omega),hS i hi]) el2 (by simp;omega)
  refine ⟨S',ws',ds',line',t9,t14,t15,t16,d::es,by rw [es1,map_append,append_assoc];rfl,by rw [rk,drop_eq_getElem_cons ko];exact ⟨_,_,_,_,_,rfl,rfl,stp,rfl,rfl,rfl,rfl,es2⟩,?_,el3,by rw [nm3,rk,map_append,map_cons,append_assoc];rfl,?_⟩
  . rw [rk,map_cons]
    let δ (s15 s16:Sl) (ln:Int):DS:=LJ s0 s1 s2 s3 s4 s5 s6 R R8 (.val (.int (k:Int))) s10 s11 R.length ln (.val (di R[k])) s15 s16
    have er:=AK kl
    rw [<-h8] at er
    refine (bK (δ2:=δ s15 s16 line) (δ':=δ (.val (.ref b)) (.val (.int (la+1))) (la+1)) (S':=S2) rfl ?_).trans e2
    refine (ai (δ':=δ (.val (.ref b)) (.val (.int (la+1))) line) (S':=S1) (bf (bN (S1:=S) (ds:=[.ref k,.int (line+1),.bool main]) (ao (xU (qa rfl rfl er) rfl (congrArg (Option.map W.bool) (tD (x0 rfl))))) e1) rfl)).trans ?_
    exact (ai (δ':=δ (.val (.ref b)) (.val (.int (la+1))) line) (S':=S2) (dD rfl hq1 (ao (Ld (l:=[.str R[k].1,.list (R[k].2.map .str),.ref b,.int (line+1),.int (la+1)]) (iw (x0 rfl) (iw (O6 (x1 rfl)) rfl)) (by simp))) (by have:=el.al;omega))).trans (aR rfl)
  . have:(OL.drop k).map List.length=OL[k].length::(OL.drop (k+1)).map List.length:=by rw [drop_eq_getElem_cons ko];rfl
    rw [this,sum_cons]
    rw [map_append,List.sum_append] at sm3
    simp only [map_cons,map_nil,sum_cons,List.sum_nil] at sm3
    omega
end
def D3 (ns:List Int) (lo hi:Option Int):∃ ms:List Int,ms.length<=ns.length/\io (ns.map .int) lo hi=ms.map .int:=by
 refine ⟨(ns.drop (HT.sIx (ns.map W.int).length 0 lo)).take (HT.sIx (ns.map W.int).length (ns.map W.int).length hi-HT.sIx (ns.map W.int).length 0 lo),?_,?_⟩
 . rw [length_take,length_drop]
   omega
 . unfold io
   rw [map_take,List.map_drop]
def xC {f:W->Option W}:∀ (ws:List W) (xs:List W),ws.length=xs.length->(∀ (i:Nat) (w x:W),ws[i]?=some w->xs[i]?=some x->f w=some x)->dr f ws=some xs
 | [],[],_,_=>rfl
 | w::ws,x::xs,hl,h=>ba (h 0 w x rfl rfl) (xC ws xs (by simpa using hl) λ i a b ha hb=>h (i+1) a b (by simpa using ha) (by simpa using hb))
 | [],_::_,hl,_=>by simp at hl
 | _::_,[],hl,_=>by simp at hl
def jH (r:Ψ):∀ t,fz (aO r t)=(fz t).map (aO r)
 | .num _=>rfl
 | .sig _=>rfl
 | .nam _=>rfl
 | .box t=>jH r t
 | .op _ a b=>by simp only [aO,fz,jH r a,jH r b,map_append]
def uF (r:Ψ) (j:Fin 3):∀ l:List Tr,(l.map (aO r)).any (gT j)=l.any (gT j)
 | []=>rfl
 | t::l=>by
  have e:gT j (aO r t)=gT j t:=by cases t <;> rfl
  rw [map_cons,any_cons,any_cons,e,uF r j l]
def w6 (r:Ψ) (t:Tr):own (aO r t)=own t:=by unfold own;rw [jH,uF,uF]
def vY (r:Ψ):∀ l:List Tr,yP (l.map (aO r))=(yP l).map r
 | []=>rfl
 | t::l=>by
  have ih:=vY r l
  unfold yP at ih ⊢
  cases t <;> simp [aO,ih]
def wS (r:Ψ) (t:Tr):nms (aO r t)=(nms t).map r:=by unfold nms;rw [jH,vY]
def m8 (r:Ψ):∀ t,pM (aO r t)=pM t
 | .num _=>rfl
 | .sig _=>rfl
 | .nam _=>rfl
 | .box t=>congrArg (· + 1) (m8 r t)
 | .op _ a b=>by simp only [aO,pM,m8 r a,m8 r b]
def mz (r:Ψ):∀ t,lh (aO r t)=lh t
 | .num _=>rfl
 | .sig _=>rfl
 | .nam _=>rfl
 | .box t=>congrArg (· + 1) (mz r t)
 | .op _ a b=>by simp only [aO,lh,mz r a,mz r b]
section
variable {r:Ψ} {o:Int} {FN WD:Ω}
def ut (g:GR r) {t:Tr} {d c:Nat} (h:gd t d c):gd (aO r t) d c:=⟨by rw [m8];exact h.1,by rw [mz];exact h.2.1,λ x hx=>by
 rw [wS] at hx
 obtain ⟨y,hy,rfl⟩:=mem_map.mp hx
 exact g.k y (h.2.2 y hy)⟩
def eI (g:GR r) {t:Tr} {d c:Nat} (h:ge o t d c):ge o (aO r t) d c:=⟨ut g h.1,λ z=>by rw [w6];exact h.2 z⟩
def FQ (g:GR r) {wh:Bool} {h:Hd} (hp:PP o FN WD wh h):PP o (FN.map r) WD wh (ir r h):=by
 cases h with
 | set x t=>exact ⟨g.k x hp.1,eI g hp.2⟩
 | put a b=>exact ⟨eI g hp.1,eI g hp.2⟩
 | tell t=>exact eI g hp
 | ret t=>exact eI g hp
 | join x j t=>exact ⟨g.k x hp.1,hp.2.1,eI g hp.2.2⟩
 | call x f ts=>exact ⟨g.k x hp.1,mem_map_of_mem hp.2.1,by rw [length_map];exact hp.2.2.1,λ t ht=>by obtain ⟨u,hu,rfl⟩:=mem_map.mp ht;exact eI g (hp.2.2.2 u hu)⟩
 | ifs t l=>exact eI g hp
 | whl t l=>exact eI g hp
 | _=>exact hp
def DN (g:GR r) {op:Op} (h:xT o FN WD op):xT o (FN.map r) WD (gf r op):=by
 cases op with
 | st hd=>exact ⟨(bs_map' r hd).trans h.1,FQ g h.2⟩
 | opn wh t=>exact eI g h
 | _=>trivial
def DX (g:GR r) {x:Rm} (h:zV FN x):zV (FN.map r) (bi r x):=⟨g.k _ h.n,λ y hy=>by obtain ⟨z,hz,rfl⟩:=mem_map.mp hy;exact g.k z (h.p z hz),by show (x.2.map r).length<=6;rw [length_map];exact h.l,λ z=>mem_map_of_mem (h.f λ e=>z (of_decide_eq_true ((g.m x.1).trans (decide_eq_true e))))⟩
end
def By (ns:List Int) (hns:ns.length<=63) {N:Ω} (hN:N.length=6) (hA:∀ x∈N,eY x) (o:Int) {WD:Ω} (hW:0<WD.length) (hWD:∀ f∈WD,strOk f=true):∃ (R:List Rm) (OL:List (List Op)),R.length<=4/\rV OL<=63/\(∀ x∈R,zV (R.map (·.1)) x/\(x.1∈N∨x.1=Str.ofString "main")/\∀ y∈x.2,y∈N∨y=Str.ofString "main")/\(∀ l∈OL,∀ op∈l,∀ y∈HU op,y∈N∨y=Str.ofString "main")/\∀ r,GR r->∃ ds:List (oq×Nat),bX [.list (ns.map .int),.list ((N.map r).map .str),.int o,.list (WD.map .str),.int 56]=some (.list (ds.map λ d=>dW d.1))/\Fm (PP o ((R.map (bi r)).map (·.1)) WD) o (R.map (bi r)) (oF r OL) 0 (ds.map (·.1)):=by
 have hn:∀ x∈N,strOk x=true:=λ x hx=>(hA x hx).ok
 obtain ⟨c0,ec0⟩:=jB ns 0
 obtain ⟨head,eh,_⟩:=eA c0 0 (by decide)
 obtain ⟨V,eV,lV,aV⟩:=z8 hN hA head
 obtain ⟨R,eR,r0,r4,hR⟩:=yn hN lV hn (λ x hx=>(aV x hx).1.ok) head
 obtain ⟨ms,lm,em⟩:=D3 ns (some 2) (some 56)
 let scr:Sl:=.val (.list (ns.map .int))
 obtain ⟨OL,t9,t10,t11,lO,tO,kO,eO⟩:=vX (o:=o) (WD:=WD) lV (λ x hx=>(aV x hx).1) (λ x hx=>(hR x hx).1) r0 r4 hW scr (.val (.int 56)) (.val (.int head)) (λ r=>.val (.list ((N.map r).map .str))) ms 0 (List.replicate R.length []) .no .no .no (by omega) (by simp) (by simp [rV];omega) (λ l hl op hop=>by rw [List.eq_of_mem_replicate hl] at hop;cases hop)
 have t0:rV (List.replicate R.length ([]:List Op))=0:=by simp [rV]
 rw [t0,Nat.zero_add] at tO
 refine ⟨R,OL,r4,by omega,λ x hx=>⟨(hR x hx).1,(hR x hx).2.1,λ y hy=>(aV y ((hR x hx).2.2 y hy)).2⟩,λ l hl op hop y hy=>(aV y ((kO l hl op hop).2 y hy)).2,λ r g=>?_⟩
 have eV:=eV r g
 have eR:=eR r g
 have eO:=eO r g
 have lb:∀ l∈oF r OL,l.length<=70:=λ l hl=>by
  obtain ⟨l0,hl0,rfl⟩:=mem_map.mp hl
  have:l0.length<=rV OL:=vv OL l0 hl0
  rw [length_map]
  omega
 have lO:(oF r OL).length=(R.map (bi r)).length:=by simp [oF,lO]
 have kO:∀ l∈oF r OL,∀ op∈l,xT o ((R.map (bi r)).map (·.1)) WD op:=λ l hl op hop=>by
  obtain ⟨l0,hl0,rfl⟩:=mem_map.mp hl
  obtain ⟨p0,hp,rfl⟩:=mem_map.mp hop
  have:=DN g (kO l0 hl0 p0 hp).1
  rw [map_map] at this ⊢
  exact this
 have hR:∀ x∈R.map (bi r),zV ((R.map (bi r)).map (·.1)) x:=λ x hx=>by
  obtain ⟨y,hy,rfl⟩:=mem_map.mp hx
  have:=DX g (hR y hy).1
  rw [map_map] at this ⊢
  exact this
 have rep:oF r (List.replicate R.length [])=List.replicate (R.map (bi r)).length []:=by simp [oF]
 rw [rep] at eO
 have hn:∀ x∈N.map r,strOk x=true:=λ x hx=>by obtain ⟨y,hy,rfl⟩:=mem_map.mp hx;exact g.k y (hn y hy)
 have r4:(R.map (bi r)).length<=4:=by rw [length_map];exact r4
 generalize oF r OL=OL at lb lO kO eO ⊢
 generalize R.map (bi r)=R at lO kO hR eR eO r4 ⊢
 generalize V.map r=V at eV eR eO
 generalize N.map r=N at hn eV eR eO ⊢
 let nl:Sl:=.val (.list (N.map .str))
 have st0:qz (List.replicate R.length [])=([]:ah)++List.replicate R.length (Ob.lst []):=by simp [qz]
 have sl:(qz OL).length=R.length:=by simp [qz,lO]
 let S1:ah:=qz OL++[Ob.lst []]
 have hq:S1[R.length]?=some (.lst []):=by rw [<-sl];exact bT _ _
 obtain ⟨S2,ws,ds,line',u9,u14,u15,u16,es,es1,es2,e2,el,nm,sm⟩:=xm (o:=o) (WD:=WD) hR hWD ((List.range' 0 R.length).map .ref) rfl OL lO kO lb scr nl (.val (.int o)) (.val (.list (WD.map .str))) (.val (.int 56)) (.val (.int head)) (.val (.list (V.map .str))) t10 t11 R.length 0 R S1 [] [] 0 t9 .no .no .no rfl rfl (λ i hi=>by simp only [S1];rw [getElem?_append_left (by omega)]) ⟨hq,rfl,(λ i w d hw=>by simp at hw),λ d hd=>absurd hd not_mem_nil⟩ (by simp;omega)
 refine ⟨ds,?_,by rw [es1];exact es2⟩
 . have ok:cC [.list (ns.map .int),.list (N.map .str),.int o,.list (WD.map .str),.int 56]=true:=by
    have a:=(mB hn).1
    have b:=(mB hWD).1
    have c:cC (ns.map .int)=true:=jW λ d hd=>by obtain ⟨x,_,rfl⟩:=mem_map.mp hd;rfl
    simp [cC,hJ,a,b,c]
   have run:fI [.list (ns.map .int),.list (N.map .str),.int o,.list (WD.map .str),.int 56] []=some (.ok (.ref R.length),S2):=by
    let δ (s5 s6 s7 s8 s9 s10 s11 s12 s13:Sl):DS:=[scr,nl,.val (.int o),.val (.list (WD.map .str)),.val (.int 56),s5,s6,s7,s8,s9,s10,s11,s12,s13,.no,.no,.no]
    let sV:Sl:=.val (.list (V.map .str))
    let sR:Sl:=.val (.list (R.map di))
    let s8:Sl:=.val (.list ((List.range' 0 R.length).map .ref))
    have zr:(R.map di).length<=sizeLine:=sz _ (by simp;omega)
    refine (bt rfl).trans ((congrArg fw (?_:_=some (.rt (.ref R.length),S2))).trans rfl)
    refine (ai (δ':=δ (.val (.int head)) .no .no .no .no .no .no .no .no) (S':=[]) (aR (aK (d:=.int head) (iu (yO (iu rfl ec0) rfl) eh) rfl))).trans ?_
    refine (ai (δ':=δ (.val (.int head)) sV .no .no .no .no .no .no .no) (S':=[]) (aR (aK (d:=.list (V.map .str)) (iu rfl eV) rfl))).trans ?_
    refine (ai (δ':=δ (.val (.int head)) sV sR .no .no .no .no .no .no) (S':=[]) (aR (aK (d:=.list (R.map di)) (iu rfl eR) rfl))).trans ?_
    have oc:=vU R []
    refine (ai (δ':=δ (.val (.int head)) sV sR s8 .no .no .no .no .no) (S':=qz (List.replicate R.length [])) (bf (jP (S0:=[]) (ds:=R.map di) rfl zr (by rw [st0];exact oc)) rfl)).trans ?_
    refine (ai (δ':=δ (.val (.int head)) sV sR s8 t9 t10 t11 .no .no) (S':=qz OL) ((cM (S1:=qz (List.replicate R.length [])) (ds:=AM 0 (ms.map .int)) (ao ?_)).trans eO)).trans ?_
    . first | rfl | simp! [δ,IX,scr,uD,em,sK]
    refine (ai (δ':=δ (.val (.int head)) sV sR s8 t9 t10 t11 (.val (.ref R.length)) .no) (S':=S1) (bf (d:=.ref R.length) (by rw [<-sl];rfl) rfl)).trans ?_
    refine (ai (δ':=δ (.val (.int head)) sV sR s8 t9 t10 t11 (.val (.ref R.length)) (.val (.int 0))) (S':=S1) (aR rfl)).trans ?_
    refine (ai ((cM (S1:=S1) (ds:=AM 0 (R.map di)) (ao ?_)).trans e2)).trans rfl
    first | rfl | simp! [δ,LJ,sR,uD,sK]
   show zW _ _=_
   unfold zW
   rw [if_pos ok,run]
   refine nK (EU el.hq) (xC ws _ (by simp [el.al]) λ i w x hw hx=>?_)
   rw [getElem?_map] at hx
   obtain ⟨d,hd,rfl⟩:=oM hx
   exact hU (λ _ _ z=>z) 30 39 _ _ (by omega) (el.en i w d hw hd (Jb S2) λ k dd _ hk=>EU hk)
def EY {o:Int} {FN WD:Ω} {wh:Bool} {h:Hd} (hp:PP o FN WD wh h):Hg FN wh h:=by
 refine ⟨λ t ht=>?_,λ hc=>?_,λ x f ts e=>?_⟩
 . cases h with
   | set x u=>rw [mem_singleton.mp ht];exact hp.2.1
   | ret u=>rw [mem_singleton.mp ht];exact hp.1
   | ifs u l=>rw [mem_singleton.mp ht];exact hp.1
   | whl u l=>rw [mem_singleton.mp ht];exact hp.1
   | _=>cases ht
 . cases h with
   | brk=>exact hp
   | agn=>exact hp
   | _=>exact nomatch (show false=true from decide_eq_true hc)
 . subst e
   exact ⟨hp.2.1,λ t ht=>(hp.2.2.2 t ht).1⟩
def jU:∀ t,aO (λ x=>x) t=t
 | .num _=>rfl
 | .sig _=>rfl
 | .nam _=>rfl
 | .box t=>congrArg Tr.box (jU t)
 | .op k a b=>by rw [aO,jU a,jU b]
def C4 (h:Hd):ir (λ x=>x) h=h:=by
 have e:(aO λ x=>x)=id:=funext jU
 cases h <;> simp [ir,e]
def Ey (op:Op):gf (λ x=>x) op=op:=by
 cases op <;> simp [gf,C4,jU]
def HW (OL:List (List Op)):oF (λ x=>x) OL=OL:=by
 have e:(gf λ x=>x)=id:=funext Ey
 simp [oF,e]
def GL (R:List Rm):R.map (bi λ x=>x)=R:=by
 have e:(bi λ x=>x)=id:=funext λ x=>by simp [bi]
 simp [e]
def ET:∀ l:List Op,(l.map wt).sum<=l.length
 | []=>le_refl _
 | op::l=>by
  have:=ET l
  have:wt op<=1:=by cases op <;> simp [wt]
  simp only [map_cons,sum_cons,length_cons]
  omega
def Gv (l:List Op):((l++[Op.fin,.fin,.fin,.fin,.fin]).map wt).sum<=l.length:=by
 have:=ET l
 simpa [wt] using this
structure RQ (Q:π) (A:Rm->Prop) (r:Ψ) (q q':Dq):Prop where
 nm:q'.1.nm=r q.1.nm
 ps:q'.1.ps=q.1.ps.map r
 ln:q'.1.ln=q.1.ln
 a:A (q.1.nm,q.1.ps)
 is:xi r q.2 q'.2
 gi:∀ i∈q.2,GI Q 6 i
 pl:aU 8 [.list (bS q.1.bd),.none]=some (.list (q.2.map jx))
 pl':aU 8 [.list (bS q'.1.bd),.none]=some (.list (q'.2.map jx))
def II {P P' Q:π} {A:Rm->Prop} {r:Ψ} {o:Int} (g:GR r) (hP:∀ wh t bs,ge o t 7 30->Q wh (.whl t bs)/\Q wh (.ifs t bs)):∀ (R:List Rm) {OL:List (List Op)} {line:Int} {ds:List oq},Fm P o R OL line ds->(∀ x∈R,A x)->(∀ l∈OL,∀ h,.st h∈l->∀ wh,P wh h->Q wh h)->rV OL<800->∀ {ds':List oq},Fm P' o (R.map (bi r)) (oF r OL) line ds'->∃ qs qs':List Dq,qs.map (·.1)=ds/\qs'.map (·.1)=ds'/\Paired (RQ Q A r) qs qs'/\cX qs<=rV OL+R.length:=λ R=>by
 induction R with
 | nil=>
  intro OL line ds h1 _ _ _ ds' h2
  have e1:ds=[]:=h1
  have e2:ds'=[]:=h2
  subst e1 e2
  exact ⟨[],[],rfl,rfl,.nil,zero_le _⟩
 | cons rm R ih=>
  intro OL line ds h1 hA hq ht ds' h2
  obtain ⟨l,OL,la,d,ds,rfl,rfl,a1,a2,a3,a4,a5,h1⟩:=h1
  obtain ⟨l',OL',la',d',ds',e3,rfl,b1,b2,b3,b4,b5,h3⟩:=h2
  obtain ⟨rfl,rfl⟩:l.map (gf r)=l'/\oF r OL=OL':=List.cons.inj e3
  have ht':rV (l::OL)=l.length+rV OL:=by simp [rV]
  rw [ht'] at ht
  have b1:iW P' o (decide (rm.1=Str.ofString "main")) ((l++[Op.fin,.fin,.fin,.fin,.fin]).map (gf r)) (line+1) [] [] [] d'.bd la':=by
   rw [<-g.m rm.1,map_append]
   exact b1
  obtain ⟨⟨c,hc,g2⟩,e⟩:=z7 hP (λ h hm wh=>hq l (by simp) h (by simpa using hm) wh) a1 b1
  subst e
  have wl:=Gv l
  obtain ⟨is,is',l1,r1,i1,e1,e2⟩:=uj g2 (by decide) (by omega)
  obtain ⟨qs,qs',q1,q2,q3,q4⟩:=ih h1 (λ x hx=>hA x (by simp [hx])) (λ l hl=>hq l (by simp [hl])) (by omega) h3
  refine ⟨(d,is)::qs,(d',is')::qs',by simp [q1],by simp [q2],.cons ⟨by rw [b2,a2];rfl,by rw [b3,a3];rfl,by rw [b4,a4],?_,r1,i1,e1,e2⟩ q3,?_⟩
  . have:(d.nm,d.ps)=rm:=by rw [a2,a3]
    show A (d.nm,d.ps)
    rw [this]
    exact hA rm (by simp)
  . have hcn:cX ((d,is)::qs)=is.length+1+cX qs:=by simp [cX]
    rw [hcn,ht',length_cons]
    omega
noncomputable def kx (r:Ψ):aA->aA
 | .inl i=>.inl i
 | .inr x=>.inr (r x)
noncomputable def cU (r:Ψ):List aA->List aA
 | []=>[]
 | a::ks=>a::ks.map (kx r)
noncomputable def sm (r:Ψ):W->W
 | .str x=>.str (r x)
 | d=>d
noncomputable def gK (r:Ψ):W->W
 | .tuple (a::l)=>.tuple (a::l.map (sm r))
 | d=>d
noncomputable def va (r:Ψ) (p:W×List aA):W×List aA:=(gK r p.1,cU r p.2)
noncomputable def oS (r:Ψ) (e:En):En:=(gK r e.1,cU r e.2.1,e.2.2)
noncomputable def gW (r:Ψ) (e:List aA×En):List aA×En:=(cU r e.1,oS r e.2)
def Ly {α β γ:Type} {f:α->β->γ} {a a':α} {b b':β} (h:a=a') (h':b=b'):f a b=f a' b':=by rw [h,h']
section
variable {r:Ψ}
def wE (hi:∀ x y,r x=r y->x=y):∀ a b:List aA,a.map (kx r)=b.map (kx r)->a=b
 | [],[],_=>rfl
 | x::a,y::b,h=>by
  simp only [map_cons,List.cons.injEq] at h
  rw [wE hi a b h.2]
  have h:=h.1
  cases x <;> cases y <;> simp only [kx,reduceCtorEq] at h
  . cases h;rfl
  . rw [hi _ _ (Sum.inr.inj h)]
 | [],_::_,h=>by cases h
 | _::_,[],h=>by cases h
def tV (hi:∀ x y,r x=r y->x=y):∀ a b:List aA,cU r a=cU r b->a=b
 | [],[],_=>rfl
 | x::a,y::b,h=>by
  simp only [cU,List.cons.injEq] at h
  rw [h.1,wE hi a b h.2]
 | [],_::_,h=>by cases h
 | _::_,[],h=>by cases h
def pc:∀ l:List W,eP (l.map (sm r))=(eP l).map (List.map (kx r))
 | []=>rfl
 | d::l=>by
  have e:eW (sm r d)=(eW d).map (kx r):=by cases d <;> rfl
  show (eW (sm r d)).bind _=_
  rw [e,pc l]
  show _=((eW d).bind λ k=>(eP l).map (k::·)).map _
  cases eW d <;> cases eP l <;> rfl
def zu (d:W):dU (gK r d)=(dU d).map (cU r):=by
 cases d with
 | tuple l=>
  cases l with
  | nil=>rfl
  | cons a l=>
   have e:eP (a::l.map (sm r))=(eP (a::l)).map (cU r):=by
    show (eW a).bind (λ k=>(eP (l.map (sm r))).map (k::·))=((eW a).bind λ k=>(eP l).map (k::·)).map _
    rw [pc]
    cases eW a <;> cases eP l <;> rfl
   show (eP (a::l.map (sm r))).bind _=((eP (a::l)).bind _).map _
   rw [e]
   cases h:eP (a::l) with
   | none=>rfl
   | some ks=>cases ks <;> rfl
 | _=>rfl
def dL (kc:List (W×List aA)) (kw:W) (kk:List aA) (ln:Int):fc (kc.map (va r)) (gK r kw) (cU r kk) ln=(fc kc kw kk ln).map (gW r):=by simp [fc,va,gW,oS,map_map,Function.comp_def]
def m7 (nm:Str) {ar ar':ω} (h:ar'.map sg=ar.map sg):cV (r nm) ar'=(cV nm ar).map (va r):=by
 have e:∀ a:ω,(a.map λ b=>(qQ b.1,qD b.1))=(a.map sg).map λ s=>(qQ s.1,qD s.1):=λ a=>by simp [sg,map_map,Function.comp_def]
 unfold cV
 rw [e,h,map_cons,e]
 refine Ly (f:=List.cons) rfl ?_
 rw [map_map (g:=va r)]
 rfl
def ox (nm:Str) (t:Tr):kW (r nm) (aO r t)=(kW nm t).map (va r):=by
 unfold kW
 rw [w6,wS]
 split
 . rfl
 . rw [map_map,map_map]
   rfl
def AF {ar ar':ω} (h:ar'.map sg=ar.map sg):cE ar'=cE ar:=by
 have e:∀ a:ω,(a.filter gg).map (·.1)=((a.map sg).filter (·.2)).map (·.1):=λ a=>by simp [sg,List.filter_map,Function.comp_def]
 unfold cE
 rw [e,e,h]
def r6 {c:Prop} [Decidable c] (a:ξ):(if c then a.map (gW r) else [])=(if c then a else []).map (gW r):=by split <;> rfl
def A9 (nm:Str) (k:Int) {ar ar':ω} (h:ar'.map sg=ar.map sg) (x:Option Str):oC (r nm) k ar' (x.map r)=(oC nm k ar x).map (gW r):=by
 cases x with
 | none=>rfl
 | some x=>exact (congrArg (λ w=>fc w _ _ _) (m7 nm h)).trans (dL _ (kC nm x) (lW nm x) k)
def Dr (h:Hd):ol (ir r h)=(ol h).map r:=by cases h <;> rfl
def zh (nm:Str) (k:Int) (h:Hd) {ar ar':ω} (hs:ar'.map sg=ar.map sg):lu (r nm) k (ir r h) ar'=(lu nm k h ar).map (gW r):=by
 have t:EC (r nm) k ar' (ir r h)=(EC nm k ar h).map (gW r):=by
  cases h with
  | call x f ts=>exact (congrArg (λ w=>fc w _ _ _) (m7 nm hs)).trans (dL _ (rX f) (sU f) k)
  | _=>rfl
 have e1:=dL (r:=r) (cV nm ar) (qQ (cE ar)) (qD (cE ar)) k
 have e2:=dL (r:=r) (cV nm ar) (rX nm) (sU nm) k
 unfold lu
 rw [Dr,A9 nm k hs,k9,t,AF hs,m7 nm hs]
 simp only [map_append]
 rw [<-r6,<-r6,<-e1,<-e2]
 rfl
def Bs (nm:Str) (k:Int) (h:Hd):dF (r nm) k (ir r h)=(dF nm k h).map (gW r):=by
 cases h with
 | ifs t l=>exact (congrArg (λ w=>fc w _ _ _) (ox nm t)).trans (dL _ (qQ k) (qD k) k)
 | whl t l=>exact (congrArg (λ w=>fc w _ _ _) (ox nm t)).trans (dL _ (qQ k) (qD k) k)
 | ret t=>exact (congrArg (λ w=>fc w _ _ _) (ox nm t)).trans (dL _ (yM nm) (ye nm) k)
 | set x t=>exact (congrArg (λ w=>fc w _ _ _) (ox nm t)).trans (dL _ (kC nm x) (lW nm x) k)
 | join x j t=>
  show (if j=Str.ofString "ahead" then _ else [])=(if j=Str.ofString "ahead" then _ else []).map _
  rw [<-r6]
  rfl
 | _=>rfl
def Ev (nm:Str) (k:Int) {pO pO':Str->Ω} (hp:∀ f,pO' (r f)=(pO f).map r) (h:Hd):yK (r nm) k pO' (ir r h)=(yK nm k pO h).map (gW r):=by
 cases h with
 | call x f ts=>
  show fc [(yM (r f),ye (r f))] (kC (r nm) (r x)) (lW (r nm) (r x)) k++yT (r nm) k (r f) (pO' (r f)) (ts.map (aO r))=(fc [(yM f,ye f)] (kC nm x) (lW nm x) k++yT nm k f (pO f) ts).map _
  rw [map_append,<-dL,hp f]
  refine Ly (f:=(·++·)) rfl ?_
  unfold yT
  rw [List.zip_map,List.flatMap_map,List.map_flatMap]
  refine congrArg (λ g=>((pO f).zip ts).flatMap g) (funext λ p=>?_)
  exact (congrArg (λ w=>fc w _ _ _) (ox nm p.2)).trans (dL _ (kC f p.1) (lW f p.1) k)
 | _=>rfl
def K4 (nm:Str) (k:Int) (pO:Str->Ω) (ar:ω) (h:Hd):lu nm k (hz h) ar=lu nm k h ar/\dF nm k (hz h)=dF nm k h/\yK nm k pO (hz h)=yK nm k pO h:=by cases h <;> exact ⟨rfl,rfl,rfl⟩
def yy (nm:Str) {pO pO':Str->Ω} (hp:∀ f,pO' (r f)=(pO f).map r) {i j:It} (h:Mi r i j):fh (r nm) pO' j=(fh nm pO i).map (gW r):=by
 unfold fh
 have a:=K4 (r nm) j.1 pO' j.2.2 j.2.1
 have b:=K4 (r nm) j.1 pO' j.2.2 (ir r i.2.1)
 rw [h.h] at a
 rw [<-a.1,<-a.2.1,<-a.2.2,b.1,b.2.1,b.2.2,h.k,zh nm _ _ h.a,Bs,Ev nm _ hp]
 simp only [map_append]
def CD (nm:Str) {pO pO':Str->Ω} (hp:∀ f,pO' (r f)=(pO f).map r) {is js:List It} (h:xi r is js):js.flatMap (fh (r nm) pO')=(is.flatMap (fh nm pO)).map (gW r):=by
 induction h with
 | nil=>rfl
 | cons a _ ih=>rw [flatMap_cons,flatMap_cons,map_append,yy nm hp a,ih]
def zq {Q:π} {A:Rm->Prop} {pO pO':Str->Ω} (hp:∀ f,pO' (r f)=(pO f).map r) {qs qs':List Dq} (h:Paired (RQ Q A r) qs qs'):im pO' qs'=(im pO qs).map (gW r):=by
 induction h with
 | nil=>rfl
 | @cons q q' qs qs' a _ ih=>
  show se pO' q'++im pO' qs'=(se pO q++im pO qs).map _
  rw [map_append,ih]
  refine Ly (f:=(·++·)) ?_ rfl
  unfold se
  rw [a.nm,a.ln,map_append,CD _ hp a.is,<-dL]
  rfl
def Dy (hi:∀ x y,r x=r y->x=y) {Q:π} {A:Rm->Prop} {qs qs':List Dq} (h:Paired (RQ Q A r) qs qs'):∀ (g g':Str->Ω),(∀ f,g' (r f)=(g f).map r)->∀ f,ve (qs'.map (·.1)) g' (r f)=(ve (qs.map (·.1)) g f).map r:=by
 induction h with
 | nil=>exact λ g g' h f=>h f
 | @cons q q' qs qs' a _ ih=>
  intro g g' h f
  refine ih _ _ (λ f=>?_) f
  show (if r f=q'.1.nm then q'.1.ps else g' (r f))=(if f=q.1.nm then q.1.ps else g f).map r
  rw [a.nm,a.ps]
  by_cases e:f=q.1.nm
  . rw [if_pos e,if_pos (by rw [e])]
  . rw [if_neg e,if_neg (λ z=>e (hi _ _ z)),h f]
end
def lr (F:ν) (k:List aA):(aQ F k).isSome=true↔k∈F.map (·.1):=by
 induction F with
 | nil=>exact ⟨(λ h=>by cases h),(λ h=>by cases h)⟩
 | cons e F ih=>
  unfold aQ at ih ⊢
  rw [find?_cons,map_cons]
  by_cases h:e.1=k
  . simp [h]
  . have h':¬ k=e.1:=λ z=>h z.symm
    simp only [h,decide_false]
    rw [ih]
    simp [h']
noncomputable def oU (T:List aA->Prop) (EE:ξ):Prop:=∀ x∈EE,T x.2.2.1
def tZ {T:List aA->Prop} {c:W}:∀ (es:List En) (F:ν) (D:List W),(∀ e∈es,T e.2.1)->(∀ k∈F.map (·.1),T k)->∀ k∈(es.foldl (eE c) (F,D)).1.map (·.1),T k
 | [],_,_,_,h=>h
 | e::es,F,D,he,h=>tZ es (eE c (F,D) e).1 (eE c (F,D) e).2 (λ x hx=>he x (by simp [hx])) (λ k hk=>by
  unfold eE at hk
  by_cases hv:aQ F e.2.1=none
  . simp only [hv,if_true,map_append,mem_append] at hk
    rcases hk with hk | hk
    . exact h k hk
    . rw [mem_singleton.mp hk];exact he e (by simp)
  . simp only [hv,if_false] at hk
    exact h k hk)
def wO {T:List aA->Prop} {EE:ξ} (ht:oU T EE):∀ (n:Nat) (F:ν) (D:List W),(∀ k∈F.map (·.1),T k)->∀ k∈(DU EE n F D).map (·.1),T k
 | 0,_,_,h=>h
 | n+1,F,D,h=>by
  unfold DU
  cases D.getLast? with
  | none=>exact h
  | some c=>exact wO ht n _ _ (tZ _ _ _ (λ e he=>ht _ (kg he)) h)
section
variable {r:Ψ} (hi:∀ x y,r x=r y->x=y)
include hi
def rO {F F':ν} (h:F'.map (·.1)=(F.map (·.1)).map (cU r)) (k:List aA):(aQ F' (cU r k)).isSome=(aQ F k).isSome:=by
 have a:=lr F' (cU r k)
 have b:=lr F k
 rw [h] at a
 have e:(aQ F' (cU r k)).isSome=true↔(aQ F k).isSome=true:=by
  rw [a,b]
  exact ⟨λ z=>by obtain ⟨y,hy,e⟩:=mem_map.mp z;exact tV hi _ _ e▸hy,λ z=>mem_map_of_mem z⟩
 cases h1:(aQ F' (cU r k)).isSome <;> cases h2:(aQ F k).isSome <;> simp_all
def Ge {F F':ν} {D:List W} (h:F'.map (·.1)=(F.map (·.1)).map (cU r)) (c c':W) (e:En):(eE c' (F',D.map (gK r)) (oS r e)).1.map (·.1)=((eE c (F,D) e).1.map (·.1)).map (cU r)/\(eE c' (F',D.map (gK r)) (oS r e)).2=(eE c (F,D) e).2.map (gK r):=by
 have q:=rO hi h e.2.1
 unfold eE
 by_cases hv:aQ F e.2.1=none
 . rw [hv] at q
   have hv':aQ F' (cU r e.2.1)=none:=by simpa using q
   have hv':aQ F' (oS r e).2.1=none:=hv'
   simp only [hv,hv',if_true,map_append,h]
   exact ⟨rfl,rfl⟩
 . have hv':¬ aQ F' (oS r e).2.1=none:=λ z=>by
    rw [show aQ F' (cU r e.2.1)=none from z] at q
    cases hz:aQ F e.2.1 with
    | none=>exact hv hz
    | some _=>rw [hz] at q;cases q
   rw [if_neg hv',if_neg hv',if_neg hv,if_neg hv]
   exact ⟨h,rfl⟩
def sw (c c':W):∀ (es:List En) (F F':ν) (D:List W),F'.map (·.1)=(F.map (·.1)).map (cU r)->((es.map (oS r)).foldl (eE c') (F',D.map (gK r))).1.map (·.1)=((es.foldl (eE c) (F,D)).1.map (·.1)).map (cU r)/\((es.map (oS r)).foldl (eE c') (F',D.map (gK r))).2=(es.foldl (eE c) (F,D)).2.map (gK r)
 | [],_,_,_,h=>⟨h,rfl⟩
 | e::es,F,F',D,h=>by
  obtain ⟨a,b⟩:=Ge hi (D:=D) h c c' e
  have ih:=sw c c' es (eE c (F,D) e).1 (eE c' (F',D.map (gK r)) (oS r e)).1 (eE c (F,D) e).2 a
  rw [<-b] at ih
  exact ih
def DW (EE:ξ) (k:List aA):ip (EE.map (gW r)) (cU r k)=(ip EE k).map (oS r):=by
 unfold ip
 induction EE with
 | nil=>rfl
 | cons e EE ih=>
  by_cases h:e.1=k
  . have h':(gW r e).1=cU r k:=congrArg (cU r) h
    rw [map_cons,filter_cons_of_pos (by simpa using h'),filter_cons_of_pos (by simpa using h),map_cons,map_cons,map_cons,ih]
    rfl
  . have h':¬ (gW r e).1=cU r k:=λ z=>h (tV hi _ _ z)
    rw [map_cons,filter_cons_of_neg (by simpa using h'),filter_cons_of_neg (by simpa using h),ih]
def B0 (EE:ξ):∀ (n:Nat) (F F':ν) (D:List W),F'.map (·.1)=(F.map (·.1)).map (cU r)->(DU (EE.map (gW r)) n F' (D.map (gK r))).map (·.1)=((DU EE n F D).map (·.1)).map (cU r)
 | 0,_,_,_,h=>h
 | n+1,F,F',D,h=>by
  unfold DU
  rw [List.getLast?_map]
  cases D.getLast? with
  | none=>exact h
  | some c=>
   have e:(dU (gK r c)).getD []=cU r ((dU c).getD []):=by rw [zu];cases dU c <;> rfl
   show (DU (EE.map (gW r)) n ((ip (EE.map (gW r)) ((dU (gK r c)).getD [])).foldl (eE (gK r c)) (F',(D.map (gK r)).dropLast)).1 ((ip (EE.map (gW r)) ((dU (gK r c)).getD [])).foldl (eE (gK r c)) (F',(D.map (gK r)).dropLast)).2).map _=_
   rw [e,DW hi,<-List.map_dropLast]
   obtain ⟨a,b⟩:=sw hi c (gK r c) (ip EE ((dU c).getD [])) F F' D.dropLast h
   rw [b]
   exact B0 EE n _ _ _ a
def FL {Q:π} {A:Rm->Prop} {qs qs':List Dq} (h:Paired (RQ Q A r) qs qs'):(FF qs').map (·.1)=((FF qs).map (·.1)).map (cU r):=by
 have e:=zq (Dy hi h (λ _=>[]) (λ _=>[]) λ _=>rfl) h
 have m:=B0 hi (im (ve (qs.map (·.1)) λ _=>[]) qs) 1000000 [] [] [.none] rfl
 unfold FF
 rw [e]
 exact m
def own_map' {F F':ν} (h:F'.map (·.1)=(F.map (·.1)).map (cU r)) (nm:Str) {ar ar':ω} (hs:ar'.map sg=ar.map sg):ou F' (r nm) ar'=(ou F nm ar).map (va r):=by
 unfold ou
 rw [m7 nm hs]
 generalize cV nm ar=l
 induction l with
 | nil=>rfl
 | cons p l ih=>
  have e:EV F' (va r p)=EV F p:=rO hi h p.2
  rw [map_cons]
  cases hp:EV F p with
  | true=>rw [filter_cons_of_pos (by rw [e,hp]),filter_cons_of_pos hp,map_cons,ih]
  | false=>rw [filter_cons_of_neg (by rw [e,hp];decide),filter_cons_of_neg (by rw [hp];decide),ih]
omit hi
noncomputable def uf:W->W
 | .tuple (a::_)=>a
 | d=>d
include hi
def CG {F F':ν} (h:F'.map (·.1)=(F.map (·.1)).map (cU r)) (nm:Str) {i j:It} (q:Mi r i j):(qb F' (r nm) j).map uf=(qb F nm i).map uf:=by
 have c:aD j.2.1=aD i.2.1:=by
  have e:∀ h,aD (hz h)=aD h:=λ h=>by cases h <;> rfl
  rw [<-e j.2.1,q.h,e,k9]
 unfold qb
 rw [c,own_map' hi h nm q.a,q.k]
 split
 . rw [map_map,map_map,<-map_take,map_map]
   rfl
 . rfl
def Ep {Q:π} {A:Rm->Prop} {F F':ν} (h:F'.map (·.1)=(F.map (·.1)).map (cU r)) {qs qs':List Dq} (p:Paired (RQ Q A r) qs qs'):(uh F' qs').map uf=(uh F qs).map uf:=by
 have one:∀ (nm:Str) {is js:List It},xi r is js->(js.flatMap (qb F' (r nm))).map uf=(is.flatMap (qb F nm)).map uf:=λ nm is js q=>by
  induction q with
  | nil=>rfl
  | cons a _ ih=>rw [flatMap_cons,flatMap_cons,map_append,map_append,CG hi h nm a,ih]
 induction p with
 | nil=>rfl
 | @cons q q' qs qs' a _ ih=>
  show (q'.2.flatMap (qb F' q'.1.nm)++uh F' qs').map uf=(q.2.flatMap (qb F q.1.nm)++uh F qs).map uf
  rw [map_append,map_append,ih,a.nm,one q.1.nm a.is]
end
noncomputable def IR (B:Str->Prop) (k:List aA):Prop:=(∃ i,k=qD i)∨(∃ nm,B nm/\(k=sU nm∨k=ye nm))∨∃ nm y,B nm/\B y/\k=lW nm y
section
variable {T:List aA->Prop} {B:Str->Prop}
def oU.to {kc:List (W×List aA)} {kw:W} {kk:List aA} {ln:Int} (h:T kk):oU T (fc kc kw kk ln):=λ x hx=>by
 obtain ⟨p,_,rfl⟩:=mem_map.mp hx
 exact h
def oU.nil:oU T []:=λ _ h=>absurd h not_mem_nil
def oU.app {a b:ξ} (h:oU T a) (h':oU T b):oU T (a++b):=λ x hx=>(mem_append.mp hx).elim (h x) (h' x)
def oU.ite {c:Prop} [Decidable c] {a:ξ} (h:oU T a):oU T (if c then a else []):=by
 split
 . exact h
 . exact .nil
def oU.flat {α:Type} {f:α->ξ} {l:List α} (h:∀ x∈l,oU T (f x)):oU T (l.flatMap f):=λ x hx=>by
 obtain ⟨y,hy,hx⟩:=mem_flatMap.mp hx
 exact h y hy x hx
def zT {nm:Str} {pO:Str->Ω} {i:It} (hn:B nm) (hg:∀ y,ol i.2.1=some y->B y) (hc:∀ x f ts,i.2.1=.call x f ts->B f/\∀ p∈pO f,B p):oU (IR B) (fh nm pO i):=by
 obtain ⟨k,h,ar⟩:=i
 have nk:∀ y,ol h=some y->IR B (lW nm y):=λ y e=>.inr (.inr ⟨nm,y,hn,hg y e,rfl⟩)
 refine .app (.app ?_ (.app (.ite (.to (.inl ⟨_,rfl⟩))) (.app (.ite (.to (.inr (.inl ⟨nm,hn,.inl rfl⟩)))) ?_))) (.app ?_ ?_)
 . show oU _ (oC nm k ar (ol h))
   cases e:ol h with
   | none=>exact .nil
   | some x=>exact .to (nk x e)
 . show oU _ (EC nm k ar h)
   cases h with
   | call x f ts=>exact .to (.inr (.inl ⟨f,(hc x f ts rfl).1,.inl rfl⟩))
   | _=>exact .nil
 . show oU _ (dF nm k h)
   cases h with
   | ifs t l=>exact .to (.inl ⟨_,rfl⟩)
   | whl t l=>exact .to (.inl ⟨_,rfl⟩)
   | ret t=>exact .to (.inr (.inl ⟨nm,hn,.inr rfl⟩))
   | set x t=>exact .to (nk x rfl)
   | join x j t=>exact .ite (.to (nk x rfl))
   | _=>exact .nil
 . show oU _ (yK nm k pO h)
   cases h with
   | call x f ts=>exact .app (.to (nk x rfl)) (.flat λ p hp=>.to (.inr (.inr ⟨f,p.1,(hc x f ts rfl).1,(hc x f ts rfl).2 _ (of_mem_zip hp).1,rfl⟩)))
   | _=>exact .nil
end
section
variable {r:Ψ} {FN:Ω} {wh:Bool}
def Kn {h:Hd}:Hg FN wh (hz h)->Hg FN wh h:=by
 cases h with
 | ifs t l=>exact λ q=>⟨q.1,q.2.1,λ x f ts e=>by cases e⟩
 | whl t l=>exact λ q=>⟨q.1,q.2.1,λ x f ts e=>by cases e⟩
 | _=>exact id
def Lc {h:Hd}:Hg FN wh h->Hg FN wh (hz h):=by
 cases h with
 | ifs t l=>exact λ q=>⟨q.1,q.2.1,λ x f ts e=>by cases e⟩
 | whl t l=>exact λ q=>⟨q.1,q.2.1,λ x f ts e=>by cases e⟩
 | _=>exact id
def Ix (g:GR r) {h:Hd} (q:Hg FN wh h):Hg (FN.map r) wh (ir r h):=by
 refine ⟨λ t ht=>?_,λ z=>q.2.1 (by rw [k9] at z;exact z),λ x f ts e=>?_⟩
 . have e:qN (ir r h)=(qN h).map (aO r):=by cases h <;> rfl
   rw [e] at ht
   obtain ⟨u,hu,rfl⟩:=mem_map.mp ht
   exact ut g (q.1 u hu)
 . cases h with
   | call x' f' ts'=>
    cases e
    obtain ⟨a,b⟩:=q.2.2 x' f' ts' rfl
    exact ⟨mem_map_of_mem a,λ t ht=>by obtain ⟨u,hu,rfl⟩:=mem_map.mp ht;exact ut g (b u hu)⟩
   | _=>cases e
def IG (g:GR r) {i j:It} (h:Mi r i j) (q:GQ FN i):GQ (FN.map r) j:=by
 obtain ⟨⟨wh,a,b⟩,l⟩:=q
 refine ⟨⟨wh,Kn (h.h▸Lc (Ix g a)),λ z=>?_⟩,by rw [BC h.a];exact l⟩
 obtain ⟨x,hx,e⟩:=b z
 have:sg x∈j.2.2.map sg:=by rw [h.a];exact mem_map_of_mem hx
 obtain ⟨y,hy,ey⟩:=mem_map.mp this
 exact ⟨y,hy,(congrArg Prod.snd ey).trans e⟩
end
def Fm.nms {P:π} {o:Int}:∀ (R:List Rm) {OL:List (List Op)} {line:Int} {ds:List oq},Fm P o R OL line ds->ds.map (·.nm)=R.map (·.1):=λ R=>by
 induction R with
 | nil=>
  intro _ _ ds h
  have e:ds=[]:=h
  rw [e]
  rfl
 | cons rm R ih=>
  intro _ _ ds h
  obtain ⟨_,_,_,d,ds,rfl,rfl,_,a,_,_,_,h⟩:=h
  rw [map_cons,map_cons,a,ih h]
def xi.all {r:Ψ} {FN:Ω} (g:GR r) {is js:List It} (h:xi r is js):(∀ i∈is,GQ FN i)->∀ j∈js,GQ (FN.map r) j:=by
 induction h with
 | nil=>exact λ _ j hj=>absurd hj not_mem_nil
 | cons a _ ih=>
  intro q j hj
  rcases mem_cons.mp hj with rfl | hj
  . exact IG g a (q _ (by simp))
  . exact ih (λ i hi=>q i (by simp [hi])) j hj
def iC {α β:Type} {R:α->β->Prop} {a:List α} {b:List β} (h:Paired R a b):(∀ x∈a,∃ y∈b,R x y)/\∀ y∈b,∃ x∈a,R x y:=by
 induction h with
 | nil=>exact ⟨λ x h=>absurd h not_mem_nil,λ x h=>absurd h not_mem_nil⟩
 | cons r _ ih=>
  refine ⟨λ x hx=>?_,λ y hy=>?_⟩
  . rcases mem_cons.mp hx with rfl | hx
    . exact ⟨_,by simp,r⟩
    . obtain ⟨y,hy,q⟩:=ih.1 x hx
      exact ⟨y,by simp [hy],q⟩
  . rcases mem_cons.mp hy with rfl | hy
    . exact ⟨_,by simp,r⟩
    . obtain ⟨x,hx,q⟩:=ih.2 y hy
      exact ⟨x,by simp [hx],q⟩
noncomputable def Jc:List Str:=[Str.ofString "sum", Str.ofString "most", Str.ofString "least", Str.ofString "ahead"]
noncomputable def A5 (N:Ω) (x:Str):Prop:=x∈N∨x=Str.ofString "main"
def Cs (ns:List Int) (hns:ns.length<=63) {N:Ω} (hN:N.length=6) (hA:∀ x∈N,eY x) (o:Int) {r:Ψ} (g:GR r):∃ (FN:Ω) (Q:π) (A:Rm->Prop) (qs qs':List Dq),bX [.list (ns.map .int),.list (N.map .str),.int o,.list (Jc.map .str),.int 56]=some (.list (qs.map λ q=>dW q.1))/\bX [.list (ns.map .int),.list ((N.map r).map .str),.int o,.list (Jc.map .str),.int 56]=some (.list (qs'.map λ q=>dW q.1))/\Paired (RQ Q A r) qs qs'/\(∀ q∈qs,GD FN q)/\(∀ q∈qs',GD (FN.map r) q)/\(∀ f∈FN,f∈qs.map (·.1.nm))/\(∀ f∈FN.map r,f∈qs'.map (·.1.nm))/\cX qs<=70/\cX qs'<=70/\qs.length<=10/\qs'.length<=10/\oU (IR (A5 N)) (im (ve (qs.map (·.1)) λ _=>[]) qs):=by
 obtain ⟨R,OL,r4,tO,hR,hO,run⟩:=By ns hns hN hA o (WD:=Jc) (by decide) (by decide +kernel)
 obtain ⟨ds,e1,d1⟩:=run _ GR.id
 obtain ⟨ds',e2,d2⟩:=run r g
 rw [GL,HW] at d1
 have e1:bX [.list (ns.map .int),.list (N.map .str),.int o,.list (Jc.map .str),.int 56]=some (.list (ds.map λ d=>dW d.1)):=by simpa using e1
 let FN:=R.map (·.1)
 let Q:π:=λ wh h=>PP o FN Jc wh h/\∀ y,ol h=some y->A5 N y
 let A:Rm->Prop:=λ x=>zV FN x/\A5 N x.1/\∀ y∈x.2,A5 N y
 obtain ⟨qs,qs',q1,q2,q3,q4⟩:=II (Q:=Q) (A:=A) g (λ wh t bs h=>⟨⟨h,λ y e=>by cases e⟩,⟨h,λ y e=>by cases e⟩⟩) _ d1 (λ x hx=>hR x hx) (λ l hl h hm wh p=>⟨p,λ y e=>hO l hl _ hm y (by show y∈(ol h).toList;rw [e];simp)⟩) (by omega) d2
 have nm:=Fm.nms _ d1
 rw [<-q1,map_map] at nm
 have ql:qs.length=R.length:=by have:=congrArg List.length nm;simpa using this
 have ql':qs'.length=qs.length:=by
  have:∀ {a b:List Dq},Paired (RQ Q A r) a b->b.length=a.length:=λ h=>by
   induction h with
   | nil=>rfl
   | cons _ _ ih=>exact congrArg (· + 1) ih
  exact this q3
 have GDs:∀ q∈qs,GD FN q:=λ q hq=>by
  obtain ⟨q',_,x⟩:=(iC q3).1 q hq
  exact ⟨x.pl,λ i hi=>⟨by obtain ⟨wh,a,b⟩:=(x.gi i hi).p;exact ⟨wh,EY a.1,b⟩,(x.gi i hi).l⟩,x.a.1.l⟩
 have GDs':∀ q∈qs',GD (FN.map r) q:=λ q' hq=>by
  obtain ⟨q,hq,x⟩:=(iC q3).2 q' hq
  exact ⟨x.pl',x.is.all g (GDs q hq).it,by rw [x.ps,length_map];exact (GDs q hq).ps⟩
 have cn:∀ {a b:List Dq},Paired (RQ Q A r) a b->cX b=cX a:=λ h=>by
  induction h with
  | nil=>rfl
  | @cons q q' qs qs' a _ ih=>
   have c1:cX (q::qs)=q.2.length+1+cX qs:=by simp [cX]
   have c2:cX (q'::qs')=q'.2.length+1+cX qs':=by simp [cX]
   rw [c1,c2,ih,iQ a.is]
 have toW:∀ (l:List Dq) (m:List (oq×Nat)),l.map (·.1)=m.map (·.1)->(m.map λ d=>dW d.1)=l.map λ q=>dW q.1:=λ l m h=>by
  have a:(m.map λ d=>dW d.1)=(m.map (·.1)).map dW:=by simp [map_map,Function.comp_def]
  have b:(l.map λ d=>dW d.1)=(l.map (·.1)).map dW:=by simp [map_map,Function.comp_def]
  rw [a,b,h]
 refine ⟨FN,Q,A,qs,qs',by rw [e1,toW qs ds q1],by rw [e2,toW qs' ds' q2],q3,GDs,GDs',λ f hf=>?_,λ f hf=>?_,by omega,by rw [cn q3];omega,by omega,by omega,?_⟩
 . rw [show FN=_ from nm.symm] at hf
   exact hf
 . obtain ⟨x,hx,rfl⟩:=mem_map.mp hf
   rw [show FN=_ from nm.symm] at hx
   obtain ⟨q,hq,rfl⟩:=mem_map.mp hx
   obtain ⟨q',hq',y⟩:=(iC q3).1 q hq
   exact mem_map.mpr ⟨q',hq',y.nm⟩
 . have ps:∀ f,∀ p∈ve (qs.map (·.1)) (λ _=>[]) f,A5 N p:=by
    have:∀ (l:List oq) (h:Str->Ω),(∀ d∈l,∀ p∈d.ps,A5 N p)->(∀ f,∀ p∈h f,A5 N p)->∀ f,∀ p∈ve l h f,A5 N p:=λ l=>by
     induction l with
     | nil=>exact λ h _ hh=>hh
     | cons d l ih=>
      intro h hd hh
      refine ih _ (λ x hx=>hd x (by simp [hx])) λ f p hp=>?_
      split at hp
      . exact hd d (by simp) p hp
      . exact hh f p hp
    exact this _ _ (λ d hd p hp=>by obtain ⟨q,hq,rfl⟩:=mem_map.mp hd;obtain ⟨q',_,x⟩:=(iC q3).1 q hq;exact x.a.2.2 p hp) λ f p hp=>absurd hp not_mem_nil
   have fb:∀ f∈FN,A5 N f:=λ f hf=>by obtain ⟨x,hx,rfl⟩:=mem_map.mp hf;exact (hR x hx).2.1
   refine .flat λ q hq=>?_
   obtain ⟨q',_,x⟩:=(iC q3).1 q hq
   refine .app (.to (.inr (.inl ⟨_,x.a.2.1,.inr rfl⟩))) (.flat λ i hi=>?_)
   obtain ⟨wh,a,_⟩:=(x.gi i hi).p
   exact zT x.a.2.1 a.2 λ y f ts e=>⟨fb f ((EY a.1).2.2 y f ts e).1,ps f⟩
noncomputable def BU (a b x:Str):Str:=if x=a then b else if x=b then a else x
def CS {a b x y:Str} (h:BU a b x=BU a b y):x=y:=by
 unfold BU at h
 by_cases h1:x=a <;> by_cases h2:y=a <;> by_cases h3:x=b <;> by_cases h4:y=b <;> simp_all
def zY {a b x:Str} (h1:x≠a) (h2:x≠b):BU a b x=x:=by unfold BU;rw [if_neg h1,if_neg h2]
def Lj {a b:Str}:BU a b a=b:=if_pos rfl
def Go {a b:Str} (ha:strOk a=true) (hb:strOk b=true) (x:Str) (hx:strOk x=true):strOk (BU a b x)=true:=by
 unfold BU
 split
 . exact hb
 . split
   . exact ha
   . exact hx
def Ox {m:Str}:∀ (N N':Ω),N.length=N'.length->N.Nodup->N'.Nodup->m∉N->m∉N'->(∀ x∈N,strOk x=true)->(∀ x∈N',strOk x=true)->∃ r:Ψ,(∀ x y,r x=r y->x=y)/\r m=m/\N.map r=N'/\∀ x,strOk x=true->strOk (r x)=true
 | [],[],_,_,_,_,_,_,_=>⟨id,λ _ _ h=>h,rfl,rfl,λ _ h=>h⟩
 | [],_::_,h,_,_,_,_,_,_=>by cases h
 | _::_,[],h,_,_,_,_,_,_=>by cases h
 | a::N,b::N',h,n1,n2,m1,m2,k1,k2=>by
  obtain ⟨a1,n1⟩:=nodup_cons.mp n1
  obtain ⟨b1,n2⟩:=nodup_cons.mp n2
  obtain ⟨r,i,e1,e2,k⟩:=Ox (m:=m) N N' (Nat.succ.inj h) n1 n2 (λ z=>m1 (by simp [z])) (λ z=>m2 (by simp [z])) (λ x hx=>k1 x (by simp [hx])) (λ x hx=>k2 x (by simp [hx]))
  refine ⟨λ x=>BU (r a) b (r x),λ x y z=>i _ _ (CS z),?_,?_,λ x hx=>Go (k a (k1 a (by simp))) (k2 b (by simp)) _ (k x hx)⟩
  . show BU (r a) b (r m)=m
    rw [e1]
    exact zY (λ z=>m1 (by have:=i m a (e1.trans z);simp [this])) (λ z=>m2 (by simp [z]))
  . rw [map_cons,<-e2]
    refine Ly (f:=List.cons) Lj (List.map_congr_left λ x hx=>zY (λ z=>?_) (λ z=>?_))
    . exact a1 (i x a z▸hx)
    . exact b1 (by rw [<-e2,<-z];exact mem_map_of_mem hx)
def Gw {r:Ψ} (hi:∀ x y,r x=r y->x=y) (hm:r (Str.ofString "main")=Str.ofString "main") (hk:∀ x,strOk x=true->strOk (r x)=true):GR r:=
 ⟨λ x=>decide_eq_decide.mpr ⟨λ z=>hi _ _ (z.trans hm.symm),λ z=>by rw [z];exact hm⟩,hk⟩
noncomputable def BL (S:ah) (m:Nat):Option Ob:=(S[m]?).bind λ o=>if Fz o=true then some o else none
def jC {S:ah} {m:Nat} {o:Ob} (h:S[m]?=some o) (hd:Fz o=true):BL S m=some o:=by
 unfold BL
 rw [h,bind_some,if_pos hd]
def tu {S:ah} (m:Nat) (o:Ob) (h:BL S m=some o):S[m]?=some o/\Fz o=true:=by
 obtain ⟨p,h1,h2⟩:=oB h
 split at h2
 . rename_i hd
   cases h2
   exact ⟨h1,hd⟩
 . cases h2
section
variable {S:ah} {d dd dv f f2:Nat} {kv kd:List (aA×W)} {x:Str} {δ:DS} {fo fk:μ} {y:W} {B:Str->Prop} {r:Ψ} {k:List aA} {F':ν}
def G7 (h:S[d]?=some (.dK kv)):nh (.ref d) (.str x) S=some (aQ kv (Sum.inr x)):=by simp [nh,df,h,eW]
def vE (h:S[d]?=some (.dK kv)) (h1:fo δ=some (.ref d)) (h2:fk δ=some (.str x)) (hv:aQ kv (Sum.inr x)=some y):ja (ab fo) (ab fk) δ S=some (.ok y,S):=by
 simp only [ja,ao h1,ao h2,aq,G7 h,hv,bind_some,iq,map_some]
def oE (hd:S[dd]?=some (.dK kd)) (hv:S[dv]?=some (.dK kv)) (h1:∀ x,B x->aQ kd (Sum.inr x)=some (.str (r x))) (h2:∀ x,B x->aQ kv (Sum.inr x)=some (.str (r x))) (hk:IR B k):bR [xg k,.ref dd,.ref dv] S=some (.ok (xg (cU r k)),S)/\eC (xg (cU r k))=some (cU r k):=by
 have z2:=sz 2 (by decide)
 have z3:=sz 3 (by decide)
 have two:∀ (nm g:Str),B nm->nm=nm->(decide (g=Str.ofString "row")=false)->(decide (g=Str.ofString "name")=false)->bR [.tuple [.str g,.str nm],.ref dd,.ref dv] S=some (.ok (.tuple [.str g,.str (r nm)]),S):=λ nm g hb _ g1 g2=>by
  let δ:DS:=[.val (.tuple [.str g,.str nm]),.val (.ref dd),.val (.ref dv)]
  have a0:az aT (aw 0) (dC (.int (0))) δ=some (.str g):=x0 rfl
  refine (bt rfl).trans ((congrArg fw (?_:_=some (.rt (.tuple [.str g,.str (r nm)]),S))).trans rfl)
  refine (ai (δ':=δ) (S':=S) (aR (aY (b:=false) ((tD a0).trans (by rw [g1])) rfl))).trans ?_
  refine (ai (δ':=δ) (S':=S) ((bP (S1:=S) (ao ((tD a0).trans (by rw [g2])))).trans rfl)).trans ?_
  refine dm ?_
  have q:=vE (fo:=af 1) (fk:=az aT (aw 0) (dC (.int (1)))) (δ:=δ) hd rfl (x1 rfl) (h1 nm hb)
  have a0:=ao (S:=S) a0
  simp only [oI,bJ,jZ,a0,q,aq,length_cons,length_nil,if_pos z2]
 rcases hk with ⟨i,rfl⟩ | ⟨nm,hb,rfl | rfl⟩ | ⟨nm,y,hb,hy,rfl⟩
 . refine ⟨?_,rfl⟩
   let δ:DS:=[.val (xg (qD i)),.val (.ref dd),.val (.ref dv)]
   have a0:az aT (aw 0) (dC (.int (0))) δ=some (.str "row"):=x0 rfl
   refine (bt rfl).trans ((congrArg fw (?_:_=some (.rt (xg (qD i)),S))).trans rfl)
   exact fF (lp (aY (b:=true) ((tD a0).trans (by decide +kernel)) rfl))
 . exact ⟨two nm (Str.ofString "def") hb rfl (by decide +kernel) (by decide +kernel),rfl⟩
 . exact ⟨two nm (Str.ofString "back") hb rfl (by decide +kernel) (by decide +kernel),rfl⟩
 . refine ⟨?_,rfl⟩
   let δ:DS:=[.val (xg (lW nm y)),.val (.ref dd),.val (.ref dv)]
   have a0:az aT (aw 0) (dC (.int (0))) δ=some (.str "name"):=x0 rfl
   refine (bt rfl).trans ((congrArg fw (?_:_=some (.rt (.tuple [.str "name", .str (r nm),.str (r y)]),S))).trans rfl)
   refine (ai (δ':=δ) (S':=S) (aR (aY (b:=false) ((tD a0).trans (by decide +kernel)) rfl))).trans ?_
   refine fF ((dZ (S1:=S) (ao ((tD a0).trans (by decide +kernel)))).trans (dm ?_))
   have q1:=vE (fo:=af 1) (fk:=az aT (aw 0) (dC (.int (1)))) (δ:=δ) hd rfl (x1 rfl) (h1 nm hb)
   have q2:=vE (fo:=af 2) (fk:=az aT (aw 0) (dC (.int (2)))) (δ:=δ) hv rfl (x2 rfl) (h2 y hy)
   have a1:ab (dC (.str "name")) δ S=some (.ok (.str "name"),S):=rfl
   simp only [oI,bJ,jZ,a1,q1,q2,aq,length_cons,length_nil,if_pos z3]
noncomputable def dQ (a0 a1 a2 a3 a4 a5:Sl) (dd dv:Nat) (s8 s9 s10 s11 s12 s13:Sl):DS:=[a0,a1,a2,a3,a4,a5,.val (.ref dd),.val (.ref dv),s8,s9,s10,s11,s12,s13]
def sT (hd:S[dd]?=some (.dK kd)) (hv:S[dv]?=some (.dK kv)) (h1:∀ x,B x->aQ kd (Sum.inr x)=some (.str (r x))) (h2:∀ x,B x->aQ kv (Sum.inr x)=some (.str (r x))) (hf:S[f2]?=some (.dT F')) (a0 a1 a2 a3 a4 a5 s8 s9 s10 s13:Sl):∀ (ks:List (List aA)) (s12:Sl),(∀ k∈ks,IR B k/\(aQ F' (cU r k)).isSome=true)->∃ t12,bx (ae 12) wV (ks.map xg) (dQ a0 a1 a2 a3 a4 a5 dd dv s8 s9 s10 (.val (.ref f2)) s12 s13) S=some (.nx (dQ a0 a1 a2 a3 a4 a5 dd dv s8 s9 s10 (.val (.ref f2)) t12 s13),S)
 | [],s12,_=>⟨s12,rfl⟩
 | k::ks,s12,h=>by
  obtain ⟨hk,hi⟩:=h k (by simp)
  obtain ⟨e1,e2⟩:=oE hd hv h1 h2 hk
  obtain ⟨t12,e⟩:=sT hd hv h1 h2 hf a0 a1 a2 a3 a4 a5 s8 s9 s10 s13 ks (.val (xg k)) λ x hx=>h x (by simp [hx])
  let δ:=dQ a0 a1 a2 a3 a4 a5 dd dv s8 s9 s10 (.val (.ref f2)) (.val (xg k)) s13
  have c:k8 true (bI bR (ab (aa (af 12) (aa (af 6) (aa (af 7) ag))))) (ab (af 11)) δ S=some (.ok false,S):=by
   have q:bI bR (ab (aa (af 12) (aa (af 6) (aa (af 7) ag)))) δ S=some (.ok (xg (cU r k)),S):=bN (S1:=S) (ds:=[xg k,.ref dd,.ref dv]) (ao (iw rfl (iw rfl (iw rfl rfl)))) e1
   have v:ab (af 11) δ S=some (.ok (.ref f2),S):=rfl
   simp only [k8,q,v,aq,uu hf e2,map_some,iq,hi,if_true,Bool.not_true]
  exact ⟨t12,(bK (δ2:=δ) (δ':=δ) (S':=S) rfl ((bP c).trans rfl)).trans e⟩
def tX (hne:dd≠dv) (a0 a1 a2 a3 a4 a5 s10 s11 s12 s13:Sl):∀ (L:Ω) (S:ah) (kd kv:List (aA×W)) (B:Str->Prop) (s8 s9:Sl),S[dd]?=some (.dK kd)->S[dv]?=some (.dK kv)->(∀ x,B x->aQ kd (Sum.inr x)=some (.str (r x))/\aQ kv (Sum.inr x)=some (.str (r x)))->kd.length+L.length<900->kv.length+L.length<900->∃ S' kd' kv' t8 t9,bx (b8 2 (au (ae 8) (au (ae 9) bB))) wn (lY (L.map .str) ((L.map r).map .str)) (dQ a0 a1 a2 a3 a4 a5 dd dv s8 s9 s10 s11 s12 s13) S=some (.nx (dQ a0 a1 a2 a3 a4 a5 dd dv t8 t9 s10 s11 s12 s13),S')/\S'[dd]?=some (.dK kd')/\S'[dv]?=some (.dK kv')/\∀ x,x∈L∨B x->aQ kd' (Sum.inr x)=some (.str (r x))/\aQ kv' (Sum.inr x)=some (.str (r x))
 | [],S,kd,kv,B,s8,s9,h1,h2,h3,_,_=>⟨S,kd,kv,s8,s9,rfl,h1,h2,λ x hx=>h3 x (hx.resolve_left not_mem_nil)⟩
 | a::L,S,kd,kv,B,s8,s9,h1,h2,h3,l1,l2=>by
  simp only [length_cons] at l1 l2
  have z1:kd.length<sizeLine:=lt_of_lt_of_le (by omega) (sz 900 (by decide))
  have z2:kv.length<sizeLine:=lt_of_lt_of_le (by omega) (sz 900 (by decide))
  let kd1:=cZ kd (Sum.inr a) (W.str (r a))
  let kv1:=cZ kv (Sum.inr a) (W.str (r a))
  have p1:kd1.length<=kd.length+1:=kK kd (Sum.inr a) (W.str (r a))
  have p2:kv1.length<=kv.length+1:=kK kv (Sum.inr a) (W.str (r a))
  have e1:nY (.ref dd) (.str a) (.str (r a)) S=some (S.set dd (.dK kd1)):=by simp [nY,df,h1,eW,z1,kd1]
  have h2':(S.set dd (.dK kd1))[dv]?=some (.dK kv):=set_ne' h2 hne
  have e2:nY (.ref dv) (.str a) (.str (r a)) (S.set dd (.dK kd1))=some ((S.set dd (.dK kd1)).set dv (.dK kv1)):=by simp [nY,df,h2',eW,z2,kv1]
  have put:∀ (m:List (aA×W)) (x:Str),(x≠a->aQ m (Sum.inr x)=some (.str (r x)))->aQ (cZ m (Sum.inr a) (W.str (r a))) (Sum.inr x)=some (.str (r x)):=λ m x h=>by
   rw [xD]
   by_cases hq:x=a
   . simp [hq]
   . simp [hq,h hq]
  obtain ⟨S',kd',kv',t8,t9,e,g1,g2,g3⟩:=tX hne a0 a1 a2 a3 a4 a5 s10 s11 s12 s13 L ((S.set dd (.dK kd1)).set dv (.dK kv1)) kd1 kv1 (λ x=>x=a∨B x) (.val (.str a)) (.val (.str (r a))) (set_ne' (set_eq' h1) (Ne.symm hne)) (set_eq' h2') (λ x hx=>⟨put kd x λ n=>(h3 x (hx.resolve_left n)).1,put kv x λ n=>(h3 x (hx.resolve_left n)).2⟩) (by omega) (by omega)
  let δ:=dQ a0 a1 a2 a3 a4 a5 dd dv (.val (.str a)) (.val (.str (r a))) s10 s11 s12 s13
  refine ⟨S',kd',kv',t8,t9,(bK (δ2:=δ) (δ':=δ) (S':=(S.set dd (.dK kd1)).set dv (.dK kv1)) rfl ?_).trans e,g1,g2,λ x hx=>g3 x ?_⟩
  . have v8:∀ S,ab (af 8) δ S=some (.ok (.str a),S):=λ _=>rfl
    have v9:∀ S,ab (af 9) δ S=some (.ok (.str (r a)),S):=λ _=>rfl
    have v6:∀ S,ab (af 6) δ S=some (.ok (.ref dd),S):=λ _=>rfl
    have v7:∀ S,ab (af 7) δ S=some (.ok (.ref dv),S):=λ _=>rfl
    refine (ai (δ':=δ) (S':=S.set dd (.dK kd1)) ?_).trans ?_
    . simp only [gS,v8,v9,v6,iV,aq,e1,map_some]
    . simp only [gS,v8,v9,v7,iV,aq,e2,map_some]
  . rcases hx with hx | hx
    . rcases mem_cons.mp hx with rfl | hx
      . exact .inr (.inl rfl)
      . exact .inl hx
    . exact .inr (.inr hx)
end
def pw {F:ν} {qs:List Dq}:∀ w∈uh F qs,∃ (i:Int) (p:W),w=.tuple [.int i,p]:=λ w hw=>by
 obtain ⟨q,_,hw⟩:=mem_flatMap.mp hw
 obtain ⟨i,_,hw⟩:=mem_flatMap.mp hw
 unfold qb at hw
 split at hw
 . obtain ⟨p,_,rfl⟩:=mem_map.mp hw
   exact ⟨_,_,rfl⟩
 . exact absurd hw not_mem_nil
def rC {F:ν}:∀ qs:List Dq,(uh F qs).length<=cX qs
 | []=>le_refl 0
 | q::qs=>by
  have one:∀ (nm:Str) (is:List It),(is.flatMap (qb F nm)).length<=is.length:=λ nm is=>by
   induction is with
   | nil=>exact le_refl 0
   | cons i is ih=>
    have:=qg F nm i
    rw [flatMap_cons,length_append,length_cons]
    omega
  have h:=one q.1.nm q.2
  have ih:=rC (F:=F) qs
  have c1:cX (q::qs)=q.2.length+1+cX qs:=by simp [cX]
  show (q.2.flatMap (qb F q.1.nm)++uh F qs).length<=_
  rw [length_append]
  omega
def rA (S:ah):∀ (ws:List W),(∀ w∈ws,∃ (i:Int) (p:W),w=.tuple [.int i,p])->b9 (ae 0) (ab gN) (ab (az aT (aw 0) (dC (.int (0))))) [.no] ws S=some (.ok (ws.map uf),S)/\cC (ws.map uf)=true/\bQ (ws.map uf)<=0
 | [],_=>⟨rfl,rfl,le_refl 0⟩
 | w::ws,h=>by
  obtain ⟨i,p,rfl⟩:=h w (by simp)
  obtain ⟨e,o,d⟩:=rA S ws λ x hx=>h x (by simp [hx])
  have a:ab (az aT (aw 0) (dC (.int (0)))) [.val (.tuple [.int i,p])] S=some (.ok (.int i),S):=ao (x0 rfl)
  refine ⟨?_,?_,?_⟩
  . have g:ae 0 (.tuple [.int i,p]) [.no]=some [.val (.tuple [.int i,p])]:=rfl
    have y:ab gN [.val (.tuple [.int i,p])] S=some (.ok true,S):=rfl
    simp only [b9,g,bind_some,y,aq,if_true,a,e,map_cons]
    rfl
  . exact o
  . simpa [bQ,cF,uf] using d
def A8 (ns:List Int) (h:ns.length<=63):∃ S,wH [.list (ns.map .int)] []=some (.ok (.bool true),S):=by
 have z4:=sz 4 (by decide)
 obtain ⟨c0,ec0⟩:=jB ns 0
 obtain ⟨m0,em0,_⟩:=eA c0 77 (by decide)
 obtain ⟨c1,ec1⟩:=jB ns 1
 obtain ⟨m1,em1,_⟩:=eA c1 1 (by decide)
 obtain ⟨c2,ec2⟩:=jB ns 2
 obtain ⟨m2,em2,_⟩:=eA c2 2 (by decide)
 obtain ⟨N,eN,lN,kN,dN,mN⟩:=mJ m1
 obtain ⟨N',eN',lN',kN',dN',mN'⟩:=mJ m2
 obtain ⟨r,hi,rm,rN,rk⟩:=Ox N N' (by omega) dN dN' mN mN' (λ x hx=>(kN x hx).ok) (λ x hx=>(kN' x hx).ok)
 have g:=Gw hi rm rk
 obtain ⟨o,eo⟩:∃ o:Int,fu [W.int 0,.int 1,.int 3,.int 12] (m0.fmod 4)=some (.int o):=by
  have:=bG m0 (j:=4) (by decide)
  have:m0.fmod 4=0∨m0.fmod 4=1∨m0.fmod 4=2∨m0.fmod 4=3:=by omega
  rcases this with e | e | e | e <;> rw [e] <;> exact ⟨_,rfl⟩
 obtain ⟨FN,Q,A,qs,qs',ep,ep',pq,gd,gd',fn,fn',cq,cq',lq,lq',tg⟩:=Cs ns h lN kN o g
 rw [rN] at ep'
 have fm:=FL hi pq
 have fk:∀ k∈(FF qs).map (·.1),IR (A5 N) k:=by
  unfold FF
  exact wO tg _ _ _ λ k hk=>absurd hk not_mem_nil
 have wm:=Ep hi fm pq
 let S0:ah:=[.dK [(.inr (Str.ofString "main"),.str "main")],.dK [(.inr (Str.ofString "main"),.str "main")]]
 let scr:Sl:=.val (.list (ns.map .int))
 let sN:Sl:=.val (.list (N.map .str))
 let sN':Sl:=.val (.list (N'.map .str))
 let so:Sl:=.val (.int o)
 let pr:W:=.list (qs.map λ q=>dW q.1)
 let pr':W:=.list (qs'.map λ q=>dW q.1)
 have b0:∀ x,x=Str.ofString "main" -> aQ [((Sum.inr (Str.ofString "main"):aA),W.str "main")] (Sum.inr x)=some (.str (r x))/\aQ [((Sum.inr (Str.ofString "main"):aA),W.str "main")] (Sum.inr x)=some (.str (r x)):=λ x hx=>by
  rw [hx,rm]
  exact ⟨by simp [aQ],by simp [aQ]⟩
 obtain ⟨S1,kd,kv,t8,t9,ez,d1,v1,b1⟩:=tX (dd:=0) (dv:=1) (r:=r) (by decide) scr sN sN' so (.val pr) (.val pr') .no .no .no .no N S0 _ _ (λ x=>x=Str.ofString "main") .no .no rfl rfl b0 (by simp;omega) (by simp;omega)
 rw [rN] at ez
 obtain ⟨S2,f,e2,f2,_,k2⟩:=lg (D0:=BL S1) qs S1 gd fn cq lq tu
 have d2:=k2 0 _ (jC d1 rfl)
 have v2:=k2 1 _ (jC v1 rfl)
 obtain ⟨S3,f',e3,f3',_,k3⟩:=lg (D0:=BL S2) qs' S2 gd' fn' cq' lq' tu
 have d3:=k3 0 _ (jC d2 rfl)
 have v3:=k3 1 _ (jC v2 rfl)
 have f3:=k3 f _ (jC f2 rfl)
 obtain ⟨S4,e4,_⟩:=kZ (D0:=λ _=>none) qs S3 gd fn cq lq (λ _ _ z=>by cases z)
 obtain ⟨S5,e5,_⟩:=kZ (D0:=λ _=>none) qs' S4 gd' fn' cq' lq' (λ _ _ z=>by cases z)
 obtain ⟨S6,e6,_⟩:=xx (D0:=λ _=>none) qs S5 gd fn cq lq (λ _ _ z=>by cases z)
 obtain ⟨S7,e7,_⟩:=xx (D0:=λ _=>none) qs' S6 gd' fn' cq' lq' (λ _ _ z=>by cases z)
 have sh:=pw (F:=FF qs) (qs:=qs)
 have sh':=pw (F:=FF qs') (qs:=qs')
 have wl:=rC (F:=FF qs) qs
 have wl':=rC (F:=FF qs') qs'
 generalize FF qs=F at *
 generalize FF qs'=F' at *
 generalize uh F qs=ws at *
 generalize uh F' qs'=ws' at *
 have fl:F'.length=F.length:=by have:=congrArg List.length fm;simpa using this
 have we:ws'.isEmpty=ws.isEmpty:=by
  have:=congrArg List.length wm
  simp only [length_map] at this
  cases ws <;> cases ws' <;> simp_all
 obtain ⟨c4,o4,p4⟩:=rA S4 ws sh
 obtain ⟨c5,_,_⟩:=rA S5 ws' sh'
 rw [wm] at c5
 obtain ⟨t12,ek⟩:=sT (B:=A5 N) (r:=r) d3 v3 (λ x hx=>(b1 x hx).1) (λ x hx=>(b1 x hx).2) f3' scr sN sN' so (.val pr) (.val pr') t8 t9 (.val (.ref f)) .no (F.map (·.1)) .no λ k hk=>⟨fk k hk,by
  rw [rO hi fm]
  exact (lr F k).mpr hk⟩
 let δ (s1 s2 s3 s4 s5 s6 s7 s8 s9 s10 s11 s12 s13:Sl):DS:=[scr,s1,s2,s3,s4,s5,s6,s7,s8,s9,s10,s11,s12,s13]
 have w4:∀ δ,br (bE (aa (dC (.str "sum")) (aa (dC (.str "most")) (aa (dC (.str "least")) (aa (dC (.str "ahead")) ag))))) δ=some (.list (Jc.map .str)):=λ δ=>by simp! [uD,if_pos z4];rfl
 refine ⟨S7,?_⟩
 unfold wH
 refine (bt rfl).trans ((congrArg fw (?_:_=some (.rt (.bool true),S7))).trans rfl)
 refine (ai (δ':=δ sN .no .no .no .no .no .no .no .no .no .no .no .no) (S':=[]) (aR (aK (iu (iw (iu (yO (iu (yO rfl rfl) ec1) rfl) em1) rfl) eN) rfl))).trans ?_
 refine (ai (δ':=δ sN sN' .no .no .no .no .no .no .no .no .no .no .no) (S':=[]) (aR (aK (iu (iw (iu (yO (iu (yO rfl rfl) ec2) rfl) em2) rfl) eN') rfl))).trans ?_
 refine (ai (δ':=δ sN sN' so .no .no .no .no .no .no .no .no .no .no) (S':=[]) (aR (aK (d:=.int o) ?_ rfl))).trans ?_
 . have md:=Bn m0 (j:=4) (by decide)
   have l1:br (bE (aa (dC (.int (0))) (aa (dC (.int (1))) (aa (dC (.int (3))) (aa (dC (.int (12))) ag))))) (δ sN sN' .no .no .no .no .no .no .no .no .no .no .no)=some (.list [.int 0,.int 1,.int 3,.int 12]):=by first | rfl | simp! [uD,if_pos z4]
   exact qa l1 (dO (iu (yO (iu (yO rfl rfl) ec0) rfl) em0) rfl md) eo
 refine (ai (δ':=δ sN sN' so (.val pr) .no .no .no .no .no .no .no .no .no) (S':=[]) (aR (aK (d:=pr) (iu (iw rfl (iw rfl (iw rfl (iw (w4 _) (iw rfl rfl))))) ep) rfl))).trans ?_
 refine (ai (δ':=δ sN sN' so (.val pr) (.val pr') .no .no .no .no .no .no .no .no) (S':=[]) (aR (aK (d:=pr') (iu (iw rfl (iw rfl (iw rfl (iw (w4 _) (iw rfl rfl))))) ep') rfl))).trans ?_
 refine (ai (δ':=δ sN sN' so (.val pr) (.val pr') (.val (.ref 0)) .no .no .no .no .no .no .no) (S':=[.dK [(.inr (Str.ofString "main"),.str "main")]]) (bf rfl rfl)).trans ?_
 refine (ai (δ':=dQ scr sN sN' so (.val pr) (.val pr') 0 1 .no .no .no .no .no .no) (S':=S0) (bf rfl rfl)).trans ?_
 refine (ai ((cM (S1:=S0) (ds:=lY (N.map .str) (N'.map .str)) (ao rfl)).trans ez)).trans ?_
 refine (ai (δ':=dQ scr sN sN' so (.val pr) (.val pr') 0 1 t8 t9 (.val (.ref f)) .no .no .no) (S':=S2) (bf (bN (S1:=S1) (ds:=[pr]) rfl e2) rfl)).trans ?_
 refine (ai (δ':=dQ scr sN sN' so (.val pr) (.val pr') 0 1 t8 t9 (.val (.ref f)) (.val (.ref f')) .no .no) (S':=S3) (bf (bN (S1:=S2) (ds:=[pr']) rfl e3) rfl)).trans ?_
 refine (ai (δ':=dQ scr sN sN' so (.val pr) (.val pr') 0 1 t8 t9 (.val (.ref f)) (.val (.ref f')) .no .no) (S':=S3) ((bP (S1:=S3) ?_).trans rfl)).trans ?_
 . have i1:IW (.ref f) S3=some true:=by simp [IW,df,f3]
   have i2:IW (.ref f') S3=some true:=by simp [IW,df,f3']
   have a1:oA (.ref f) S3=some (f,F):=by simp [oA,df,f3]
   have a2:oA (.ref f') S3=some (f',F'):=by simp [oA,df,f3']
   have v10:ab (af 10) (dQ scr sN sN' so (.val pr) (.val pr') 0 1 t8 t9 (.val (.ref f)) (.val (.ref f')) .no .no) S3=some (.ok (.ref f),S3):=rfl
   have v11:ab (af 11) (dQ scr sN sN' so (.val pr) (.val pr') 0 1 t8 t9 (.val (.ref f)) (.val (.ref f')) .no .no) S3=some (.ok (.ref f'),S3):=rfl
   have q:=nB (S:=S3) (d:=.int F.length) true rfl (by simp [cF])
   simp only [Jm,oN,oK,wy,wJ,xw,v10,v11,aq,i1,i2,a1,a2,fl,map_some,iq,o0,Bool.not_true,q,false_eq_true,if_false]
 refine (ai ((cM (S1:=S3) (ds:=(F.map (·.1)).map xg) ?_).trans ek)).trans ?_
 . have a1:oA (.ref f) S3=some (f,F):=by simp [oA,df,f3]
   have v10:ab (af 10) (dQ scr sN sN' so (.val pr) (.val pr') 0 1 t8 t9 (.val (.ref f)) (.val (.ref f')) .no .no) S3=some (.ok (.ref f),S3):=rfl
   simp only [ii,uB,v10,aq,a1,map_some,iq]
   rw [map_map]
   rfl
 generalize hδ:dQ scr sN sN' so (.val pr) (.val pr') 0 1 t8 t9 (.val (.ref f)) (.val (.ref f')) t12 .no=δ1
 have q4:ii (bI eG (ab (aa (af 4) ag))) δ1 S3=some (.ok ws,S4):=by
  have c:bI eG (ab (aa (af 4) ag)) δ1 S3=some (.ok (.list ws),S4):=bN (S1:=S3) (ds:=[pr]) (by rw [<-hδ];rfl) e4
  simp only [ii,c,aq]
  rfl
 refine (ai (δ':=dQ scr sN sN' so (.val pr) (.val pr') 0 1 t8 t9 (.val (.ref f)) (.val (.ref f')) t12 (.val (.list (ws.map uf)))) (S':=S4) (bf (jP (S0:=S4) q4 (sz _ (by omega)) c4) (by rw [<-hδ];rfl))).trans ?_
 generalize hε:dQ scr sN sN' so (.val pr) (.val pr') 0 1 t8 t9 (.val (.ref f)) (.val (.ref f')) t12 (.val (.list (ws.map uf)))=δ2
 refine dm ?_
 have q5:ii (bI eG (ab (aa (af 5) ag))) δ2 S4=some (.ok ws',S5):=by
  have c:bI eG (ab (aa (af 5) ag)) δ2 S4=some (.ok (.list ws'),S5):=bN (S1:=S4) (ds:=[pr']) (by rw [<-hε];rfl) e5
  simp only [ii,c,aq]
  rfl
 have q13:ab (af 13) δ2 S4=some (.ok (.list (ws.map uf)),S4):=by rw [<-hε];rfl
 have q6:=jP (ix:=[none]) (δ:=δ2) q5 (sz _ (by omega)) c5
 have q7:bI gD (ab (aa (af 4) ag)) δ2 S5=some (.ok (.bool ws.isEmpty),S6):=bN (S1:=S5) (ds:=[pr]) (by rw [<-hε];rfl) e6
 have q8:bI gD (ab (aa (af 5) ag)) δ2 S6=some (.ok (.bool ws'.isEmpty),S7):=bN (S1:=S6) (ds:=[pr']) (by rw [<-hε];rfl) e7
 have s1:=nB (S:=S5) (d:=.list (ws.map uf)) false o4 (by simp only [cF];omega)
 have s2:=nB (S:=S7) (d:=.bool ws.isEmpty) false rfl (by simp [cF])
 rw [we] at q8
 simp only [lR,sB,wJ,q13,q6,q7,q8,s1,s2,aq,iq,map_some,Bool.not_false,o0,bind_some,if_true]
def Lb {α:Type} {P:List α->Prop} {n:Nat} (h:∀ a us,us.length=n->P (a::us)):∀ us:List α,us.length=n+1->P us:=λ us hl=>by
 cases us with
 | nil=>cases hl
 | cons a us=>exact h a us (Nat.succ.inj hl)
def OH {α:Type} {P:List α->Prop} (h:P []):∀ us:List α,us.length=0->P us:=λ us hl=>by
 cases us with
 | nil=>exact h
 | cons a us=>cases hl
def yL {α:Type} {P:List α->Prop} (h:∀ a0,P [a0]):∀ us:List α,us.length=1->P us:=Lb λ a us hl=>OH (P:=λ l=>P (a::l)) (h a) us hl
def FW {α:Type} {P:List α->Prop} (h:∀ a0 a1,P [a0,a1]):∀ us:List α,us.length=2->P us:=Lb λ a us hl=>yL (P:=λ l=>P (a::l)) (h a) us hl
def Et {α:Type} {P:List α->Prop} (h:∀ a0 a1 a2,P [a0,a1,a2]):∀ us:List α,us.length=3->P us:=Lb λ a us hl=>FW (P:=λ l=>P (a::l)) (h a) us hl
def LF {α:Type} {P:List α->Prop} (h:∀ a0 a1 a2 a3,P [a0,a1,a2,a3]):∀ us:List α,us.length=4->P us:=Lb λ a us hl=>Et (P:=λ l=>P (a::l)) (h a) us hl
def MS {α:Type} {P:List α->Prop} (h:∀ a0 a1 a2 a3 a4,P [a0,a1,a2,a3,a4]):∀ us:List α,us.length=5->P us:=Lb λ a us hl=>LF (P:=λ l=>P (a::l)) (h a) us hl
set_option maxHeartbeats 0 in
def all_mk {l:PySem.W.OpenLaw} {w:World} {K:Frag} {h:Heap} {mg:Θ} {fa:Addr} (X:K.In h) (G:h.Ns mainGlobals mg) (hfa:mg "law" = some (.ref fa)) {c_Links:Addr} {Jd:Addr} {oT1:Obj} {nT1:Nat} {f4:Addr} {od4 an4:Option Addr} {sl4:Array (Option Value)} {oc4 kV4 dc4 pm4 cd4 ct4:Value} {f5:Addr} {od5 an5:Option Addr} {sl5:Array (Option Value)} {oc5 kV5 dc5 pm5 cd5 ct5:Value} {a_WORKINGS:Addr} {o_WORKINGS:Obj}
 (mm_Links:PySem.W.nsIn K mainGlobals "Links" = some (some (.ref c_Links)))
 (a0:An K "bodies_of" lK .none)
 (a1:An K "placed" nu (.ref Jd))
 (lT1:K.lookup Jd=some oT1)
 (hT1:oT1.data=.seq #[.none] nT1)
 (a2:An K "given_by" om .none)
 (a3:An K "leaves_of" lG .none)
 (a4:PySem.W.findIn K (.ref c_Links) "__init__" = some (some (.ref f4)))
 (ifn4:PySem.W.isFn K (.ref f4)=true)
 (l4:K.lookup f4=some ⟨oc4,od4,.func (PySem.W.fnOf "__init__" "Links.__init__" (dy cB) (cS cB) (bn cB) .none kV4 dc4 pm4 an4 cd4 ct4),sl4⟩)
 (c4:PySem.W.codeIn K cd4 "Links.__init__" = true)
 (k4:PySem.W.keepIn K (.ref f4)=true)
 (a5:PySem.W.findIn K (.ref c_Links) "add" = some (some (.ref f5)))
 (ifn5:PySem.W.isFn K (.ref f5)=true)
 (l5:K.lookup f5=some ⟨oc5,od5,.func (PySem.W.fnOf "add" "Links.add" (dy eQ) (cS eQ) (bn eQ) .none kV5 dc5 pm5 an5 cd5 ct5),sl5⟩)
 (c5:PySem.W.codeIn K cd5 "Links.add" = true)
 (k5:PySem.W.keepIn K (.ref f5)=true)
 (a6:An K "way_of" sI .none)
 (a7:An K "causes_of" lz .none)
 (a8:An K "link_way" nG .none)
 (a9:An K "link_numbers" iL .none)
 (a10:An K "link_call" lP .none)
 (a11:An K "links_of" nO .none)
 (a12:An K "marks" x5 .none)
 (a13:An K "waits" vR .none)
 (a14:An K "is_let" tN .none)
 (a15:An K "_law_cell_at" iF .none)
 (a16:An K "_law_spread" jg .none)
 (a17:An K "_law_names" jN .none)
 (a18:An K "_law_leaf" l7 .none)
 (a19:An K "_law_beside" jh .none)
 (a20:An K "_law_expression" fS .none)
 (a21:An K "_law_call" l8 .none)
 (a22:An K "_law_op" p9 .none)
 (a23:An K "_law_closed_up" gH .none)
 (a24:An K "_law_may_stand" gj .none)
 (a25:An K "_law_laid" lM .none)
 (a26:An K "_law_rooms" jS .none)
 (a27:An K "_law_variables" gE .none)
 (a28:An K "_law_program" iN .none)
 (a29:An K "_law_exchanged" gv .none)
 (a30:An K "law" sC .none)
 (pg_Links:PySem.W.plainGet K c_Links Str.empty=true)
 (hd_Links:PySem.W.hasDictIn K c_Links=true)
 (po_Links:PySem.W.plainOver K c_Links=true)
 (sa_Links:PySem.W.findIn K (.ref c_Links) "__setattr__" = some (some (.builtin "object.__setattr__")))
 (mk_Links:PySem.W.makesIn K c_Links=true)
 (kc_Links:PySem.W.keepIn K (.ref c_Links)=true)
 (nn_Links_behind:PySem.W.findIn K (.ref c_Links) "behind" = some none)
 (zz_any:PySem.W.nsIn K mainGlobals "any" = some none)
 (zz_dict:PySem.W.nsIn K mainGlobals "dict" = some none)
 (zz_enumerate:PySem.W.nsIn K mainGlobals "enumerate" = some none)
 (zz_isinstance:PySem.W.nsIn K mainGlobals "isinstance" = some none)
 (zz_len:PySem.W.nsIn K mainGlobals "len" = some none)
 (zz_list:PySem.W.nsIn K mainGlobals "list" = some none)
 (zz_range:PySem.W.nsIn K mainGlobals "range" = some none)
 (zz_zip:PySem.W.nsIn K mainGlobals "zip" = some none)
 (mm_WORKINGS:PySem.W.nsIn K mainGlobals "WORKINGS" = some (some (.ref a_WORKINGS)))
 (lk_WORKINGS:K.lookup a_WORKINGS=some o_WORKINGS)
 (lc_WORKINGS:o_WORKINGS.cls=.type "tuple")
 (lt_WORKINGS:vw o_WORKINGS [(Str.ofString "+"),(Str.ofString "-"),(Str.ofString "*"),(Str.ofString "div"),(Str.ofString "rem"),(Str.ofString "<"),(Str.ofString "=")]=true):
 ∃ fd:FuncData,(∀ (s:Shared) (v:Value),BindsTo s fd ⟨[v],[]⟩ [("_law_script", v)])/\∀ base:Heap,K.In base->base.Ns mainGlobals mg->fO l.prog w K mg base F5 16 fa fd ["_law_script"] (qr K):=by
 have m_Links:mg "Links" = some (.ref ((o7 c_Links) "Links")):=by rw [gB];exact PySem.W.mg_of X G mm_Links
 obtain ⟨f1,_,_,_,_,_,_,_,_,_,m1,l1,c1,k1⟩:=a1
 have D_placed:Ca (GX K mg "placed" ["body", "around"] [.none]) K "placed" "placed" nu:=⟨_,_,j8 l1 c1 k1,PySem.W.mg_of X G m1,k1,(λ s us Xs hl=>FW (P:=λ us=>BindsTo s _ ⟨us,[]⟩ (List.zip _ (us++_))) (λ _ _=>PySem.W.binds_K Xs rfl lT1 hT1 rfl rfl) us (by simpa using hl)),(λ s us Xs hl=>yL (P:=λ us=>BindsTo s _ ⟨us,[]⟩ (List.zip _ (us++_))) (λ _=>PySem.W.binds_K Xs rfl lT1 hT1 rfl rfl) us (by simpa using hl))⟩
 have b_Links___init__:=(uE (st:=cB) l4 c4 k4).binds (ps:=["self"]) (λ _ _ _ _ _ _=>yL λ _=>rfl)
 have b_Links_add:=(uE (st:=eQ) l5 c5 k5).binds (ps:=["self", "causes", "key", "line"]) (λ _ _ _ _ _ _=>LF λ _ _ _ _=>rfl)
 have mt_Links_add:Ai K ((o7 c_Links) "Links") "add" f5:=by rw [gB];exact ⟨a5,ifn5,k5⟩
 have cl_Links:rT K ((o7 c_Links) "Links"):=by rw [gB];exact ⟨pg_Links,hd_Links,po_Links,sa_Links⟩
 have n_Links_behind:dh K ((o7 c_Links) "Links") "behind" := by rw [gB];exact nn_Links_behind
 have M_Links:Mk K ((o7 c_Links) "Links") f4:=by rw [gB];exact ⟨mk_Links,a4,ifn4,kc_Links⟩
 have z_any:=PySem.W.mg_none_of X G zz_any
 have z_dict:=PySem.W.mg_none_of X G zz_dict
 have z_enumerate:=PySem.W.mg_none_of X G zz_enumerate
 have z_isinstance:=PySem.W.mg_none_of X G zz_isinstance
 have z_len:=PySem.W.mg_none_of X G zz_len
 have z_list:=PySem.W.mg_none_of X G zz_list
 have z_range:=PySem.W.mg_none_of X G zz_range
 have z_zip:=PySem.W.mg_none_of X G zz_zip
 have m_WORKINGS:=PySem.W.mg_of X G mm_WORKINGS
 have g_WORKINGS:∀ G,eK K G a_WORKINGS (([(Str.ofString "+"),(Str.ofString "-"),(Str.ofString "*"),(Str.ofString "div"),(Str.ofString "rem"),(Str.ofString "<"),(Str.ofString "=")]).map V.str):=λ _=>yb lk_WORKINGS lc_WORKINGS lt_WORKINGS
 obtain ⟨_,_,_,kV,dc,pm,an,cd,ct,_,ml,ll,cL,kL⟩:=a30
 cases hfa.symm.trans (PySem.W.mg_of X G ml)
 refine ⟨PySem.W.fnOf "law" "law" (dy sC) (cS sC) (bn sC) .none kV dc pm an cd ct,λ s v=>.of_eq rfl,λ base _ _=>?_⟩
 have C_bodies_of:=rS (P:=l.prog) (w:=w) (base:=base) (a0.dn X G (λ _ _ _ _ _ _=>yL λ _=>rfl))
 have C_placed:=yq D_placed C_bodies_of
 have C_given_by:=sk (P:=l.prog) (w:=w) (base:=base) (a2.dn X G (λ _ _ _ _ _ _=>yL λ _=>rfl))
 have C_leaves_of:=qP (P:=l.prog) (w:=w) (base:=base) (a3.dn X G (λ _ _ _ _ _ _=>yL λ _=>rfl)) m_WORKINGS g_WORKINGS
 have C_Links___init__:=kA (P:=l.prog) (w:=w) (base:=base) (cl:=(o7 c_Links)) ⟨_,_,j8 l4 c4 k4,M_Links,b_Links___init__⟩ m_Links cl_Links n_Links_behind
 have C_Links_add:=qB (P:=l.prog) (w:=w) (base:=base) (cl:=(o7 c_Links)) ⟨_,_,j8 l5 c5 k5,mt_Links_add,b_Links_add⟩ m_Links cl_Links n_Links_behind
 have C_way_of:=y6 (P:=l.prog) (w:=w) (base:=base) (a6.dn X G (λ _ _ _ _ _ _=>FW λ _ _=>rfl))
 have C_causes_of:=qU (a7.dn X G (λ _ _ _ _ _ _=>FW λ _ _=>rfl)) C_leaves_of
 have C_link_way:=sO (cl:=(o7 c_Links)) (a8.dn X G (λ _ _ _ _ _ _=>LF λ _ _ _ _=>rfl)) C_way_of C_given_by C_Links_add m_Links cl_Links n_Links_behind
 have C_link_numbers:=mj (cl:=(o7 c_Links)) (a9.dn X G (λ _ _ _ _ _ _=>Et λ _ _ _=>rfl)) C_Links_add C_causes_of m_Links cl_Links n_Links_behind
 have C_link_call:=q9 (cl:=(o7 c_Links)) (a10.dn X G (λ _ _ _ _ _ _=>LF λ _ _ _ _=>rfl)) C_Links_add C_causes_of m_Links cl_Links n_Links_behind z_zip
 have C_links_of:=tP (cl:=(o7 c_Links)) (a11.dn X G (λ _ _ _ _ _ _=>yL λ _=>rfl)) C_Links___init__ C_Links_add C_link_way C_link_numbers C_link_call C_placed m_Links cl_Links n_Links_behind
 have C_marks:=B6 (cl:=(o7 c_Links)) (a12.dn X G (λ _ _ _ _ _ _=>yL λ _=>rfl)) C_links_of m_Links cl_Links n_Links_behind
 have C_waits:=Ao (cl:=(o7 c_Links)) (a13.dn X G (λ _ _ _ _ _ _=>yL λ _=>rfl)) C_marks C_way_of C_placed
 have C_is_let:=yr (cl:=(o7 c_Links)) (a14.dn X G (λ _ _ _ _ _ _=>yL λ _=>rfl)) C_waits
 have C__law_cell_at:=lZ (P:=l.prog) (w:=w) (base:=base) (a15.dn X G (λ _ _ _ _ _ _=>FW λ _ _=>rfl)) z_len
 have C__law_spread:=mY (P:=l.prog) (w:=w) (base:=base) (a16.dn X G (λ _ _ _ _ _ _=>FW λ _ _=>rfl))
 have C__law_names:=oJ (P:=l.prog) (w:=w) (base:=base) (a17.dn X G (λ _ _ _ _ _ _=>yL λ _=>rfl)) z_range z_len
 have C__law_leaf:=qm (P:=l.prog) (w:=w) (base:=base) (a18.dn X G (λ _ _ _ _ _ _=>Et λ _ _ _=>rfl))
 have C__law_beside:=mO (a19.dn X G (λ _ _ _ _ _ _=>Et λ _ _ _=>rfl)) C__law_leaf
 have C__law_expression:=jy (a20.dn X G (λ _ _ _ _ _ _=>Et λ _ _ _=>rfl)) C__law_leaf C__law_spread C__law_beside z_range
 have C__law_call:=rD (a21.dn X G (λ _ _ _ _ _ _=>MS λ _ _ _ _ _=>rfl)) C__law_expression z_len z_range
 have C__law_op:=uw (a22.dn X G (λ _ _ _ _ _ _=>MS λ _ _ _ _ _=>rfl)) C__law_expression C__law_call z_len
 have C__law_closed_up:=kz (P:=l.prog) (w:=w) (base:=base) (cl:=(o7 c_Links)) (a23.dn X G (λ _ _ _ _ _ _=>yL λ _=>rfl))
 have C__law_may_stand:=jE (P:=l.prog) (w:=w) (base:=base) (cl:=(o7 c_Links)) (a24.dn X G (λ _ _ _ _ _ _=>Et λ _ _ _=>rfl)) z_any z_len
 have C__law_laid:=qY (cl:=(o7 c_Links)) (a25.dn X G (λ _ _ _ _ _ _=>Et λ _ _ _=>rfl)) C__law_may_stand C__law_closed_up
 have C__law_rooms:=o9 (P:=l.prog) (w:=w) (base:=base) (a26.dn X G (λ _ _ _ _ _ _=>Et λ _ _ _=>rfl)) z_range
 have C__law_variables:=jL (P:=l.prog) (w:=w) (base:=base) (a27.dn X G (λ _ _ _ _ _ _=>FW λ _ _=>rfl)) z_list
 have C__law_program:=mh (cl:=(o7 c_Links)) (a28.dn X G (λ _ _ _ _ _ _=>MS λ _ _ _ _ _=>rfl)) C__law_spread C__law_cell_at C__law_variables C__law_rooms C__law_op C__law_laid z_len z_enumerate z_list
 have C__law_exchanged:=jJ (P:=l.prog) (w:=w) (base:=base) (cl:=(o7 c_Links)) (a29.dn X G (λ _ _ _ _ _ _=>Et λ _ _ _=>rfl))
 obtain ⟨_,_,⟨rfl,rfl⟩,F⟩:=GB (cl:=(o7 c_Links)) (R:=λ g gd=>g=fa/\gd=_) A8 ⟨_,_,j8 ll cL kL,rfl,rfl⟩ C__law_names C__law_spread C__law_cell_at C__law_program C_marks C__law_exchanged C_waits C_is_let z_zip z_len z_isinstance z_dict z_list
 exact F
def walk {l:PySem.W.OpenLaw} {q:Program} {loose:Ω} {XP:(Θ)->Heap->Prop} {YP:World->Heap->Prop} {d:DefRec} {K:Params->Frag} (hn:l.most=some 63) (hdf:d.params.defaults=[])
 (hY:∀ (w:World) (h:Heap),YP w h->(K w.params).In h)
 (F:∀ (w:World) (mg:Θ) (fa:Addr) (h:Heap),(K w.params).In h->h.Ns mainGlobals mg->mg d.name=some (.ref fa)->
  ∃ fd:FuncData,(∀ (s:Shared) (u:Value),BindsTo s fd ⟨[u],[]⟩ [("_law_script", u)])/\∀ base:Heap,(K w.params).In base->base.Ns mainGlobals mg->fO l.prog w (K w.params) mg base F5 16 fa fd ["_law_script"] (qr (K w.params))):
 PySem.W.WalkO q loose XP YP l.row.toRowW d [] (λ f vs=>PySem.call f vs):=
 L2.walk_of (n:=63) (k:=16) (x := "_law_script") (CX:=λ _=>F5) (sp:=λ w=>(qr (K w.params))) hn (by decide) hdf ⟨rfl,by decide,by decide⟩ hY F (λ _ _ a ns hl _ hS=>⟨a,ns,rfl,hS,hl,λ _=>rfl⟩) λ _ _ _ _ _ z=>z
def toX {q:Program} {loose:Ω} {XP:(Θ)->Heap->Prop} {r:PySem.W.RowW} {d:DefRec} {kwd:List (Str×Expr)} {run:Value->List Value->Sem Value} {K:Params->Frag} {as:Ξ} {n t:Nat} (e:∀ P,as=(K P).map (·.1))
 (h:PySem.W.WalkO q loose XP (λ w h=>(K w.params).In h) r d kwd run):PySem.W.WalkX q loose XP (PySem.W.X.obsZ as) (PySem.W.X.valZ K n t) r d kwd run:=
 λ w s0 s1 mg mb G y a o pm cd doc dV kV h1 h2 h3 h4 h5 h6 args vals as' L hp hl hr hw ho=>h w s0 s1 mg mb G (PySem.W.InK.keeps w s0.heap s1.heap (PySem.W.X.z_facts e y).2.1 L.keeps) a o pm cd doc dV kV h1 h2 h3 h4 h5 h6 args vals as' hp hl hr hw ho
end My
end
open PySem PySem.W PyProof.Rows
def Sp.k {α : Type} (x : α) (t : True) : α := x
local macro_rules
 | `(command| universe $z) => do
  let F (s : String) (n : Lean.Name) := Lean.mkIdent (`PySem.W.Fast ++ .mkSimple s!"{s}{n.hash}")
  let mut a := #[]
  let mut u := #[]
  let mut b := #[]
  let mut d := #[]
  let p := Lean.mkIdent `PySem.Challenge.pw_widelanes_k17_other_names
  for k in [0:36] do
   let c := .mkStr2 "Sp" s!"c{k}"
   let l := .mkStr2 "Sp" s!"l{k}"
   let C := Lean.mkIdent c
   let M := Lean.mkIdent l
   let (T, e) <- if k < 35 then pure (<- `(Stmt), <- `(($p).main.body.getD $(Lean.quote k) (.Pass ⟨0, 0, 0, 0⟩))) else pure (<- `(Scope), <- `(($p).main.scope))
   a := (a.push (<- `(command| def $C : $T := $e))).push (<- `(command| noncomputable def $M : $T := by
    refine Sp.k ?x ?t
    case t =>
     have h : $C = ?x := by conv => lhs; whnf
     exact trivial))
   u := u.push M
   b := b.push C
   d := (d.push (<- `(command| noncomputable def $(F "tw" c) : $T := $(F "tw" l)))).push (<- `(command| theorem $(F "te" c) : $C = $(F "tw" c) := $(F "te" l)))
  let q := b.pop
  let s := b.back!
  return Lean.mkNullNode (((a.push (<- `(command| lay_quick $u*))) ++ d).push (<- `(command| def $(Lean.mkIdent `Sp.p) : Program := { main := { body := [$q,*], scope := $s, futureAnnotations := false, file := "/claim/cut.py", more := [] }, modules := [], parses := [], absent := [], harvested := [], given := { argv := [], stdin := [], environ := (some [([76, 67, 95, 65, 76, 76], [67, 46, 85, 84, 70, 45, 56])]) } })))
universe u
set_option maxRecDepth 100000 in
set_option maxHeartbeats 0 in
theorem PySem.Challenge.cw_widelanes_k17_other_names_holds : PySem.Challenge.rw_widelanes_k17_other_names.Holds := by
 show OpenLaw.Holds { prog := Sp.p, name := "law", about := ["marks"], foot := 16, most := some 63, bound := none, writes := false }
 w_on; o_law;z_head;(case hw=>w_witness2)
 refine My.toX (λ _=>rfl) (My.walk (l:={ prog := Sp.p, name := "law", about := ["marks"], foot := 16, most := some 63, bound := none, writes := false }) rfl rfl (λ w h Y=>Y) ?F)
 case F=>
  intro w mg fa h KX G hmg
  refine' My.all_mk KX G hmg ?mm_Links ?a0 ?a1 ?lT1 ?hT1 ?a2 ?a3 ?a4 ?ifn4 ?l4 ?c4 ?k4 ?a5 ?ifn5 ?l5 ?c5 ?k5 ?a6 ?a7 ?a8 ?a9 ?a10 ?a11 ?a12 ?a13 ?a14 ?a15 ?a16 ?a17 ?a18 ?a19 ?a20 ?a21 ?a22 ?a23 ?a24 ?a25 ?a26 ?a27 ?a28 ?a29 ?a30 ?pg_Links ?hd_Links ?po_Links ?sa_Links ?mk_Links ?kc_Links ?nn_Links_behind ?zz_any ?zz_dict ?zz_enumerate ?zz_isinstance ?zz_len ?zz_list ?zz_range ?zz_zip ?mm_WORKINGS ?lk_WORKINGS ?lc_WORKINGS ?lt_WORKINGS
  (case mm_Links=>k_is)
  (case a0 | a1=>exact ⟨_,_,_,_,_,_,_,_,_,_,by k_is,by k_is,by k_is,by k_is⟩)
  (case lT1=>k_is)
  (case hT1=>rfl)
  (case a2 | a3=>exact ⟨_,_,_,_,_,_,_,_,_,_,by k_is,by k_is,by k_is,by k_is⟩)
  (case a4 | ifn4 | l4 | c4 | k4 | a5 | ifn5 | l5 | c5 | k5=>k_is)
  (case a6 | a7 | a8 | a9 | a10 | a11 | a12 | a13 | a14 | a15 | a16 | a17 | a18 | a19 | a20 | a21 | a22 | a23 | a24 | a25 | a26 | a27 | a28 | a29 | a30=>exact ⟨_,_,_,_,_,_,_,_,_,_,by k_is,by k_is,by k_is,by k_is⟩)
  (case pg_Links | hd_Links | po_Links | sa_Links | mk_Links | kc_Links | nn_Links_behind | zz_any | zz_dict | zz_enumerate | zz_isinstance | zz_len | zz_list | zz_range | zz_zip | mm_WORKINGS | lk_WORKINGS=>k_is)
  (case lc_WORKINGS=>rfl)
  (case lt_WORKINGS=>kernel_rfl)
