import PyProof.Rows.All
import Wide.All
import OpenK.AllK
import Wide.FinOn
import Lean
import PyProof.EqAt
import PyProof.EqKinds
import PyProof.TupleCall
import PySem.Challenge.RW_widelanes_k12_marks_are_closed
set_option Elab.async false
set_option genSizeOf false
set_option genSizeOfSpec false
set_option genInjectivity false
set_option compiler.extract_closed false
set_option linter.all false
set_option maxRecDepth 100000
namespace L2
open PySem PySem.Spec PyProof.Rows
open PySem.W (Frag)
local macro_rules | `(tactic| omega) => `(tactic| first | lia | omega +splitNatSub)
theorem oB {α β:Type} {x:Option α} {f:α->Option β} {b:β} (h:x.bind f=some b):∃ a,x=some a/\f a=some b:=Option.bind_eq_some_iff.mp h
theorem oM {α β:Type} {x:Option α} {f:α->β} {b:β} (h:x.map f=some b):∃ a,x=some a/\f a=b:=Option.map_eq_some_iff.mp h
theorem oG {α:Type} {l:List α} {i:Nat} {a:α} (h:l[i]?=some a):∃ h:i<l.length,l[i]=a:=List.getElem?_eq_some_iff.mp h
noncomputable abbrev aF:=Sum Int Str
noncomputable def pi:aF->Value->Bool
 | .inl k,v=>Value.isInt k v
 | .inr x,v=>Value.isStrOf x v
noncomputable def KR (w:World):aF->Int
 | .inl k=>hashInt k
 | .inr x=>hashStr w x
theorem cf:∀ {k:aF} {v:Value},pi k v=true->(∃ i t,k=Sum.inl i/\v=Value.int i t)∨(∃ x t,k=Sum.inr x/\v=Value.str x t)
 | .inl i,v,h=>by
  obtain ⟨t,e⟩:=Value.isInt_shape (k:=i) (v:=v) h
  exact .inl ⟨i,t,rfl,e⟩
 | .inr x,v,h=>by
  obtain ⟨t,e⟩:=Value.isStrOf_shape (x:=x) (v:=v) h
  exact .inr ⟨x,t,rfl,e⟩
theorem x5 (i:Int) (t:Tok):pi (.inl i) (.int i t)=true:=by simp [pi,Value.isInt]
theorem wE (x:Str) (t:Tok):pi (.inr x) (.str x t)=true:=by simp [pi,Value.isStrOf]
theorem EV (a b:Int):decide ((Sum.inl a:aF)=Sum.inl b)=(a==b):=by
 by_cases e:a=b
 . subst e;simp
 . have h:¬ (Sum.inl a:aF)=Sum.inl b:=λ q=>e (Sum.inl.inj q)
   rw [decide_eq_false h]
   exact (beq_eq_false_iff_ne.mpr e).symm
theorem EM (a b:Str):decide ((Sum.inr a:aF)=Sum.inr b)=decide (a=b):=by
 by_cases e:a=b
 . subst e;simp
 . have h:¬ (Sum.inr a:aF)=Sum.inr b:=λ q=>e (Sum.inr.inj q)
   rw [decide_eq_false h,decide_eq_false e]
theorem Ed (a:Int) (b:Str):decide ((Sum.inl a:aF)=Sum.inr b)=false:=decide_eq_false (λ q=>nomatch q)
theorem Fq (a:Str) (b:Int):decide ((Sum.inr a:aF)=Sum.inl b)=false:=decide_eq_false (λ q=>nomatch q)
noncomputable def b0 (prog:Program) (w:World):PySem.KeyKind prog w aF where
 is:=pi
 hash:=KR w
 inj:=λ v a b ha hb=>by
  rcases cf ha with ⟨i,t,rfl,rfl⟩ | ⟨x,t,rfl,rfl⟩
  . rcases cf hb with ⟨j,u,rfl,e⟩ | ⟨y,u,rfl,e⟩
    . injection e with e1 _;rw [e1]
    . exact nomatch e
  . rcases cf hb with ⟨j,u,rfl,e⟩ | ⟨y,u,rfl,e⟩
    . exact nomatch e
    . injection e with e1 _;rw [e1]
 byValue:=λ k v h=>by
  rcases cf h with ⟨i,t,rfl,rfl⟩ | ⟨x,t,rfl,rfl⟩ <;> rfl
 pyHash:=λ hv h=>by
  rcases cf hv with ⟨i,t,rfl,rfl⟩ | ⟨x,t,rfl,rfl⟩
  . exact wpAny_pyHash_int h
  . exact wpAny_pyHash_str h
 eqBool:=λ hu hv h=>by
  rcases cf hu with ⟨i,t,rfl,rfl⟩ | ⟨x,t,rfl,rfl⟩
  . rcases cf hv with ⟨j,u,rfl,rfl⟩ | ⟨y,u,rfl,rfl⟩
    . rw [EV] at h;exact wpAny_eqBool_int h
    . rw [Ed] at h;exact SeqAt.EqAt.int_str i t y u _ _ _ _ h
  . rcases cf hv with ⟨j,u,rfl,rfl⟩ | ⟨y,u,rfl,rfl⟩
    . rw [Fq] at h;exact SeqAt.EqAt.str_int x t j u _ _ _ _ h
    . rw [EM] at h;exact wpAny_eqBool_str h
 «strs»:=λ k x t v h=>by
  rcases cf h with ⟨i,u,rfl,e⟩ | ⟨y,u,rfl,e⟩
  . exact nomatch e
  . injection e with e1 _
    subst e1
    cases v <;> rfl
theorem sL (prog:Program) (w:World) (i:Int) (t:Tok):(b0 prog w).is (.inl i) (.int i t)=true:=x5 i t
theorem rT (prog:Program) (w:World) (x:Str) (t:Tok):(b0 prog w).is (.inr x) (.str x t)=true:=wE x t
noncomputable def nH (P:Program) (w:World) (ks:List aF):Int:=if ks=[] then 4238894112 else (tupleKind (b0 P w)).hash ks
noncomputable def nE (P:Program) (w:World) (x:List aF×Value×Value):DictEntry:=⟨nH P w x.1,x.2.1,x.2.2⟩
end L2
namespace L2
open PySem PySem.Spec PyProof.Rows
open PySem.W (Frag)
set_option genInjectivity true in
inductive V where
 | non | bl (b:Bool) | int (i:Int) | str (x:Str) | byt (b:Array UInt8) | flt (b:UInt64) | ref (a:Addr) | ty (n:String)
 deriving DecidableEq
noncomputable def bf:V->Value->Prop
 | .non,u=>u=Value.none
 | .bl b,u=>u=Value.bool b
 | .int i,u=>∃ t,u=Value.int i t
 | .str x,u=>∃ t,u=Value.str x t
 | .byt b,u=>∃ t,u=Value.bytes b t
 | .flt b,u=>∃ t,u=Value.float b t
 | .ref a,u=>u=Value.ref a
 | .ty n,u=>u=Value.type n
noncomputable abbrev bc:List V->List Value->Prop:=Paired bf
theorem bc.length {xs:List V} {us:List Value} (r:bc xs us):xs.length=us.length:=Paired.length r
theorem bc.get {xs:List V} {us:List Value} {i:Nat} {x:V} (h:bc xs us) (e:xs[i]?=some x):∃ u,us[i]?=some u/\bf x u:=by
 induction h generalizing i with
 | nil=>cases e
 | cons r _ ih=>
  cases i with
  | zero=>cases e;exact ⟨_,rfl,r⟩
  | succ i=>exact ih (i:=i) e
theorem bc.set {x:V} {u:Value} (r:bf x u) {xs:List V} {us:List Value} (i:Nat) (h:bc xs us):bc (xs.set i x) (us.set i u):=by
 induction h generalizing i with
 | nil=>exact .nil
 | cons q t ih=>
  cases i with
  | zero=>exact .cons r t
  | succ i=>exact .cons q (ih i)
theorem bc.append {xs ys:List V} {us ws:List Value} (h:bc xs us) (s:bc ys ws):bc (xs++ys) (us++ws):=by
 induction h with
 | nil=>exact s
 | cons r _ ih=>exact .cons r ih
theorem bc.take {xs:List V} {us:List Value} (n:Nat) (h:bc xs us):bc (xs.take n) (us.take n):=by
 induction h generalizing n with
 | nil=>cases n <;> exact .nil
 | cons r _ ih=>
  cases n with
  | zero=>exact .nil
  | succ n=>exact .cons r (ih n)
theorem bc.drop {xs:List V} {us:List Value} (n:Nat) (h:bc xs us):bc (xs.drop n) (us.drop n):=by
 induction h generalizing n with
 | nil=>cases n <;> exact .nil
 | cons r t ih=>
  cases n with
  | zero=>exact .cons r t
  | succ n=>exact ih n
noncomputable def gK:Option V->Option Value->Prop
 | some v,some u=>bf v u
 | none,none=>True
 | _,_=>False
noncomputable def KV {κ:Type}:List (κ×V)->List (κ×Value)->Prop:=Paired λ (p:κ×V) (q:κ×Value)=>p.1=q.1/\bf p.2 q.2
noncomputable def kV:aF->V
 | .inl i=>.int i
 | .inr x=>.str x
inductive HO where
 | lst (xs:List V)
 | tup (xs:List V)
 | dK (kvs:List (aF×V)) | dT (kvs:List (List aF×V)) | dN (kvs:List (List aF×V))
 | set (S:Int->Bool) (n:Nat)
 | ins (C dx:Addr) (fs:List (Str×V))
 | own (x:Addr)
 | xd (fs:List (Str×V))
 | met (f x:Addr)
 | rng (lo hi:Int)
 | frz (o:Obj) (u:HO)
 | tbl (ps:Array Value)
 | ext (φ:Heap->Prop)
noncomputable abbrev Hp:=Addr->Option HO
noncomputable def nV (H:Hp) (ks:List aF) (v:Value):Prop:=(ks=[]/\v=.none)∨(ks≠[]/\∃ b,v=.ref b/\H b=some (.tup (ks.map kV)))
noncomputable def cp (H:Hp) (a:Addr) (o:HO):Hp:=λ b=>if b=a then some o else H b
theorem aK {H:Hp} {a:Addr} {o:HO}:cp H a o a=some o:=by unfold cp;rw [if_pos rfl]
theorem aJ {H:Hp} {a b:Addr} {o:HO} (h:b≠a):cp H a o b=H b:=by unfold cp;rw [if_neg h]
theorem Dv {H:Hp} {a b:Addr} {o u:HO} (h:H a=some o) (h':H b=some u) (d:o≠u):a≠b:=by
 intro e;subst e;rw [h] at h';exact d (Option.some.inj h')
theorem be {H:Hp} {a b:Addr} {o:HO} (h:H a=some o) (h':H b=none):a≠b:=by
 intro e;subst e;rw [h] at h';cases h'
section
variable (P:Program) (w:World)
noncomputable def cR (H:Hp) (h:Heap) (a:Addr):HO->Prop
 | .lst xs=>xs.length<=sizeLine/\∃ (its:List Value) (n:Nat),bc xs its/\h.get? a=some { cls:=.type "list", data:=.seq its.toArray n }
 | .tup xs=>xs.length<=sizeLine/\∃ its:List Value,bc xs its/\IsTup h a its.toArray
 | .dK kvs=>kvs.length<=sizeLine/\(a==sysModules)=false/\∃ vs,KV kvs vs/\h.DictOf (b0 P w) a vs
 | .dT kvs=>kvs.length<=sizeLine/\(a==sysModules)=false/\∃ xs:List (List aF×Addr×Value),
  Paired (λ (p:List aF×V) (q:List aF×Addr×Value)=>p.1=q.1/\H q.2.1=some (.tup (p.1.map kV))/\bf p.2 q.2.2) kvs xs/\
  ∃ o es ep,h.get? a=some o/\o.ExactDict/\o.data=.dict es ep/\es.toList=xs.map (entryOfKey (tupleKind (b0 P w)))/\(xs.map (·.1)).Nodup
 | .dN kvs=>kvs.length<=sizeLine/\(a==sysModules)=false/\∃ xs:List (List aF×Value×Value),
  Paired (λ (p:List aF×V) (q:List aF×Value×Value)=>p.1=q.1/\nV H p.1 q.2.1/\bf p.2 q.2.2) kvs xs/\
  ∃ o es ep,h.get? a=some o/\o.ExactDict/\o.data=.dict es ep/\es.toList=xs.map (nE P w)/\(xs.map (·.1)).Nodup
 | .set S n=>h.SetOf (intKind P w) a S n
 | .ins C dx fs=>H dx=some (.own a)/\fs.length<=1000/\dx≠a/\h.get? a=some (PySem.W.instObj C dx)/\
  ∃ mA,h.Ns1 dx mA/\(∀ f,gK (fs.lookup f) (mA f))/\PySem.Within mA (fs.map (·.1))
 | .own _=>∃ o,h.get? a=some o
 | .xd fs=>∃ mA,h.Ns1 a mA/\∀ f,gK (fs.lookup f) (mA f)
 | .rng lo hi=>∃ t u v,h.get? a=some { cls:=.type "range", data:=.fields #[.int lo t,.int hi u,.int 1 v] }
 | .frz o u=>h.get? a=some o/\cR H h a u
 | .tbl ps=>h.get? a=some { cls:=.none,data:=.fields ps }
 | .met f x=>h.get? a=some (PySem.W.methodObj (.ref f) (.ref x))
 | .ext φ=>φ h/\(∃ o,h.get? a=some o)/\∀ h1 h2:Heap,φ h1->(∀ o,h1.get? a=some o->h2.get? a=some o)->φ h2
noncomputable def jp (H:Hp) (h:Heap):Prop:=∀ a o,H a=some o->cR P w H h a o
end
section
variable {P:Program} {w:World} {H H':Hp} {h h':Heap} {a:Addr} {o:HO}
theorem cR.lt (x:cR P w H h a o):a<h.objs.size:=by
 cases o with
 | lst xs=>obtain ⟨_,_,_,_,e⟩:=x;exact Heap.lt_size e
 | tup xs=>obtain ⟨_,_,_,p⟩:=x;exact p.lt
 | dK kvs=>obtain ⟨_,_,_,_,o,_,_,e,_⟩:=x;exact Heap.lt_size e
 | dT kvs=>obtain ⟨_,_,_,_,o,_,_,e,_⟩:=x;exact Heap.lt_size e
 | dN kvs=>obtain ⟨_,_,_,_,o,_,_,e,_⟩:=x;exact Heap.lt_size e
 | set S n=>obtain ⟨o,_,_,_,e,_⟩:=x;exact Heap.lt_size e
 | ins C dx fs=>obtain ⟨_,_,_,e,_⟩:=x;exact Heap.lt_size e
 | own y=>obtain ⟨_,e⟩:=x;exact Heap.lt_size e
 | xd fs=>obtain ⟨_,⟨_,_,_,e,_⟩,_⟩:=x;exact Heap.lt_size e
 | rng lo hi=>obtain ⟨_,_,_,e⟩:=x;exact Heap.lt_size e
 | frz ob u=>obtain ⟨e,_⟩:=x;exact Heap.lt_size e
 | tbl ps=>exact Heap.lt_size (show h.get? a=some _ from x)
 | met f y=>exact Heap.lt_size (show h.get? a=some _ from x)
 | ext φ=>obtain ⟨_,⟨_,e⟩,_⟩:=x;exact Heap.lt_size e
theorem Paired.mapP {α β:Type} {F G:α->β->Prop} {l₁:List α} {l₂:List β} (h:Paired F l₁ l₂) (f:∀ a b,F a b->G a b):Paired G l₁ l₂:=by
 induction h with
 | nil=>exact .nil
 | cons r _ ih=>exact .cons (f _ _ r) ih
theorem cR.stay (x:cR P w H h a o) (k:∀ b u,(b=a∨H b=some (.own a))->h.get? b=some u->h'.get? b=some u)
 (ho:∀ b,H b=some (.own a)->H' b=some (.own a)) (ht:∀ b xs,H b=some (.tup xs)->H' b=some (.tup xs)):cR P w H' h' a o:=by
 induction o with
 | lst xs=>obtain ⟨z,its,n,r,e⟩:=x;exact ⟨z,its,n,r,k _ _ (.inl rfl) e⟩
 | tup xs=>obtain ⟨z,its,r,ob,e,c⟩:=x;exact ⟨z,its,r,ob,k _ _ (.inl rfl) e,c⟩
 | dK kvs=>obtain ⟨z,y,vs,r,ob,es,ep,e,c⟩:=x;exact ⟨z,y,vs,r,ob,es,ep,k _ _ (.inl rfl) e,c⟩
 | dT kvs=>
  obtain ⟨z,y,xs,r,ob,es,ep,e,c⟩:=x
  exact ⟨z,y,xs,Paired.mapP r λ p q z=>⟨z.1,ht _ _ z.2.1,z.2.2⟩,ob,es,ep,k _ _ (.inl rfl) e,c⟩
 | dN kvs=>
  obtain ⟨z,y,xs,r,ob,es,ep,e,c⟩:=x
  exact ⟨z,y,xs,Paired.mapP r λ p q z=>⟨z.1,z.2.1.imp id λ hy0=>by obtain ⟨n,b,e1,e2⟩:=hy0;exact ⟨n,b,e1,ht _ _ e2⟩,z.2.2⟩,ob,es,ep,k _ _ (.inl rfl) e,c⟩
 | set S n=>obtain ⟨ob,es,ep,t,e,c⟩:=x;exact ⟨ob,es,ep,t,k _ _ (.inl rfl) e,c⟩
 | ins C dx fs=>
  obtain ⟨d,z,ne,e,mA,⟨od,es,ep,e2,c⟩,r⟩:=x
  exact ⟨ho _ d,z,ne,k _ _ (.inl rfl) e,mA,⟨od,es,ep,k _ _ (.inr d) e2,c⟩,r⟩
 | own y=>obtain ⟨ob,e⟩:=x;exact ⟨ob,k _ _ (.inl rfl) e⟩
 | xd fs=>obtain ⟨mA,⟨od,es,ep,e,c⟩,r⟩:=x;exact ⟨mA,⟨od,es,ep,k _ _ (.inl rfl) e,c⟩,r⟩
 | rng lo hi=>obtain ⟨t,u,v,e⟩:=x;exact ⟨t,u,v,k _ _ (.inl rfl) e⟩
 | frz ob u ih=>obtain ⟨e,q⟩:=x;exact ⟨k _ _ (.inl rfl) e,ih q⟩
 | tbl ps=>
  have e:h.get? a=some { cls:=.none,data:=.fields ps }:=x
  show h'.get? a=some { cls:=.none,data:=.fields ps }
  exact k a _ (.inl rfl) e
 | met f y=>
  have e:h.get? a=some (PySem.W.methodObj (.ref f) (.ref y)):=x
  show h'.get? a=some (PySem.W.methodObj (.ref f) (.ref y))
  exact k a _ (.inl rfl) e
 | ext φ=>obtain ⟨p,⟨o,e⟩,st⟩:=x;exact ⟨st _ _ p λ o q=>k _ _ (.inl rfl) q,⟨o,k _ _ (.inl rfl) e⟩,st⟩
theorem jp.lt (x:jp P w H h) (e:H a=some o):a<h.objs.size:=(x a o e).lt
theorem jp.fresh (x:jp P w H h) (e:h.objs.size<=a):H a=none:=by
 cases q:H a with
 | none=>rfl
 | some u=>exact absurd (Nat.lt_of_lt_of_le (x.lt q) e) (Nat.lt_irrefl _)
theorem jp.kept (x:jp P w H h) (k:∀ b u,h.get? b=some u->h'.get? b=some u):jp P w H h':=λ a o e=>
 (x a o e).stay (λ b u _ q=>k b u q) (λ _ q=>q) λ _ _ q=>q
theorem jp.laid (x:jp P w H h) (k:∀ b u,h.get? b=some u->h'.get? b=some u) (hp:h.objs.size<=a) (new:cR P w (cp H a o) h' a o):jp P w (cp H a o) h':=λ b u e=>by
 have hn:=x.fresh hp
 by_cases hb:b=a
 . subst hb;rw [aK] at e;cases e;exact new
 . rw [aJ hb] at e
   exact (x b u e).stay (λ c v _ q=>k c v q) (λ c q=>by rw [aJ (be q hn)];exact q) λ c xs q=>by rw [aJ (be q hn)];exact q
end
noncomputable def Rd (H:Hp) (a:Addr) (u:HO):Prop:=H a=some u∨∃ o,H a=some (.frz o u)
theorem Rd.ok {P:Program} {w:World} {H:Hp} {h:Heap} {a:Addr} {u:HO} (r:Rd H a u) (x:jp P w H h):cR P w H h a u:=by
 rcases r with r | ⟨o,r⟩
 . exact x a u r
 . obtain ⟨_,q⟩:=x a _ r
   exact q
noncomputable def IZ:Option HO->Prop
 | some (.lst _)=>True
 | some (.dK _)=>True
 | some (.dT _)=>True
 | some (.dN _)=>True
 | some (.set _ _)=>True
 | some (.ins _ _ _)=>True
 | some (.ext _)=>True
 | _=>False
section
variable {P:Program} {w:World} {H:Hp} {h h':Heap} {x e:Addr} {o':HO}
theorem jp.write (ok:jp P w H h) (mu:IZ (H x)) (he:e=x∨H e=some (.own x)) (k:∀ b u,b≠e->h.get? b=some u->h'.get? b=some u) (heo:∃ u,h'.get? e=some u)
 (new:cR P w (cp H x o') h' x o'):jp P w (cp H x o') h':=λ b u q=>by
 have nown:∀ c y,H c=some (.own y)->c≠x:=λ c y r z=>by subst z;rw [r] at mu;exact mu
 have ntup:∀ c xs,H c=some (.tup xs)->c≠x:=λ c xs r z=>by subst z;rw [r] at mu;exact mu
 by_cases hb:b=x
 . subst hb;rw [aK] at q;cases q;exact new
 . rw [aJ hb] at q
   by_cases hbe:b=e
   . have q':H b=some (.own x):=by
      rcases he with z | z
      . exact absurd (hbe.trans z) hb
      . rw [hbe];exact z
     rw [q] at q';cases q'
     obtain ⟨v,hv⟩:=heo
     exact ⟨v,by rw [hbe];exact hv⟩
   . refine (ok b u q).stay (λ c v hc r=>k c v ?_ r) (λ c r=>by rw [aJ (nown c b r)];exact r) λ c xs r=>by rw [aJ (ntup c xs r)];exact r
     rcases hc with rfl | hc
     . exact hbe
     . rintro rfl
       rcases he with z | z
       . exact nown c b hc z
       . rw [hc] at z;cases z;exact hb rfl
end
structure Un (fs ex:List Addr) (H H':Hp) (h h':Heap):Prop where
 keep:∀ b o,h.get? b=some o->H b=none->b∉fs->b∉ex->h'.get? b=some o
 slot:∀ b o,h.get? b=some o->H b=none->b∈fs->b∉ex->∃ sl,h'.get? b=some { o with slots:=sl }
 free:∀ b o,h.get? b=some o->H b=none->b∉ex->H' b=none
 there:∀ b o,h.get? b=some o->b∉ex->∃ o',h'.get? b=some o'
 tups:∀ b xs,H b=some (.tup xs)->H' b=some (.tup xs)
 frzs:∀ b o u,H b=some (.frz o u)->H' b=some (.frz o u)
 tbls:∀ b ps,H b=some (.tbl ps)->∃ more,H' b=some (.tbl (ps++more))
section
variable {fs fs' ex ex':List Addr} {H H1 H2:Hp} {h h1 h2 h':Heap} {a x e:Addr} {o:HO}
theorem Un.any (u:Un fs ex H H1 h h1) {b:Addr} {ob:Obj} (q:h.get? b=some ob) (n:H b=none) (hx:b∉ex):∃ sl,h1.get? b=some { ob with slots:=sl }:=by
 by_cases hb:b∈fs
 . exact u.slot b ob q n hb hx
 . exact ⟨ob.slots,u.keep b ob q n hb hx⟩
theorem Un.kept (k:∀ b u,h.get? b=some u->h'.get? b=some u):Un fs ex H H h h':=
 ⟨λ b ob q _ _ _=>k b ob q,λ b ob q _ _ _=>⟨ob.slots,k b ob q⟩,λ _ _ _ n _=>n,λ b ob q _=>⟨ob,k b ob q⟩,λ _ _ q=>q,λ _ _ _ q=>q,λ _ ps q=>⟨#[],by rw [q];simp⟩⟩
theorem Un.refl:Un fs ex H H h h:=Un.kept λ _ _ q=>q
theorem Un.laid (k:∀ b u,h.get? b=some u->h'.get? b=some u) (hp:h.objs.size<=a) (hn:H a=none):Un fs ex H (cp H a o) h h' where
 keep:=λ b u q _ _ _=>k b u q
 slot:=λ b u q _ _ _=>⟨u.slots,k b u q⟩
 free:=λ b u q n _=>by rw [aJ (Nat.ne_of_lt (Nat.lt_of_lt_of_le (Heap.lt_size q) hp))];exact n
 there:=λ b u q _=>⟨u,k b u q⟩
 tups:=λ b xs q=>by rw [aJ (be q hn)];exact q
 frzs:=λ b u xs q=>by rw [aJ (be q hn)];exact q
 tbls:=λ b ps q=>⟨#[],by rw [aJ (be q hn),q];simp⟩
theorem Un.write (mu:IZ (H x)) (he:e=x∨H e=some (.own x)) (k:∀ b u,b≠e->h.get? b=some u->h'.get? b=some u) (heo:∃ u,h'.get? e=some u):Un fs ex H (cp H x o) h h':=by
 have hx:∀ b,H b=none->b≠x:=λ b n z=>by subst z;rw [n] at mu;exact mu
 have hb:∀ b,H b=none->b≠e:=λ b n z=>by
  subst z
  rcases he with r | r
  . exact hx b n r
  . rw [n] at r;cases r
 have hm:∀ b u,H b=some u->¬ IZ (some u)->b≠x:=λ b u q nm z=>by subst z;rw [q] at mu;exact nm mu
 refine ⟨λ b u q n _ _=>k b u (hb b n) q,λ b u q n _ _=>⟨u.slots,k b u (hb b n) q⟩,λ b u q n _=>by rw [aJ (hx b n)];exact n,λ b u q _=>?_,
  λ b xs q=>by rw [aJ (hm b _ q λ z=>z)];exact q,λ b u xs q=>by rw [aJ (hm b _ q λ z=>z)];exact q,λ b ps q=>⟨#[],by rw [aJ (hm b _ q λ z=>z),q];simp⟩⟩
 by_cases hbe:b=e
 . subst hbe;exact heo
 . exact ⟨u,k b u hbe q⟩
end
noncomputable def wY (h:Heap) (H:Hp):List Addr:=(List.range h.objs.size).filter λ a=>(H a).isSome
noncomputable def qf (h:Heap) (H:Hp):Heap:=PySem.W.hideAll h (wY h H)
theorem wI (h:Heap) (H:Hp):(qf h H).objs.size=h.objs.size:=PySem.W.hideAll_size _ _
theorem ze {h:Heap} {H:Hp} {b:Addr} {o:Obj} (e:h.get? b=some o) (n:H b=none):(qf h H).get? b=some o:=
 PySem.W.hideAll_get _ e λ hm=>by
  have q:(H b).isSome=true:=(List.mem_filter.mp hm).2
  rw [n] at q;simp at q
theorem Bq {h:Heap} {H:Hp} {b:Addr} {o:Obj} (e:(qf h H).get? b=some o):h.get? b=some o/\H b=none:=by
 have e':h.get? b=some o:=PySem.W.of_hideAll (wY h H) e
 refine ⟨e',?_⟩
 cases q:H b with
 | none=>rfl
 | some x=>
  have hm:b∈wY h H:=List.mem_filter.mpr ⟨List.mem_range.mpr (Heap.lt_size e'),by simp [q]⟩
  have z:(qf h H).get? b=none:=PySem.W.hideAll_none (wY h H) hm
  rw [z] at e;cases e
noncomputable def Bs (g h:Heap) (L:Addr):List (Addr×Obj):=(List.range h.objs.size).filterMap λ a=>if a=L∨(g.get? a).isSome=true then none else (h.get? a).map λ o=>(a,o)
noncomputable def aI (g h:Heap) (L d:Addr):List (Addr×Obj):=(Bs g h L).filter λ p=>decide (p.1≠d)
end L2
namespace L2
open PySem PySem.Spec PyProof.Rows
open PySem.W (Frag)
structure Mod (K:Frag) (mg:Str->Option Value) (base:Heap):Prop where
 kin:K.In base
 glob:base.Ns mainGlobals mg
 blt:∃ mb,base.Ns builtinsNs mb/\∀ x:Str,x ≠ "__name__" -> mb x=bootBuiltins x
 nolimit:base.NoLimit
structure Cx where
 prog:Program
 w:World
 K:Frag
 mg:Str->Option Value
 base:Heap
 A:Around
 N:List Str
 s₀:Shared
 H₀:Hp
 env:Env
 outer:List Env
 stack:List Env
 ex:List Addr
 fn:Str->Bool
 calm:Bool
 pn:List (Addr×Obj)
 xe:Value->Shared->Prop
noncomputable def yl (l:List Env):List Addr:=l.filterMap (·.frame)
noncomputable abbrev Cx.fs (X:Cx):List Addr:=yl X.outer
noncomputable def Ki (sc:Scope) (x:Str):Prop:=sc.names.lookup x=some .local∨sc.names.lookup x=some .cell∨sc.names.lookup x=some .free
noncomputable def FV (sc:Scope) (x:Str):Prop:=sc.names.lookup x=some .local∨sc.names.lookup x=some .cell
noncomputable def Lx (env:Env) (h:Heap) (m:Str->Option Value) (x:Str) (u:Value):Prop:=
 (env.kindOf x=some .local/\m x=some u)∨((env.kindOf x=some .cell∨env.kindOf x=some .free)/\∃ c,env.cells.lookup x=some c/\h.IsCell c (some u))
structure Cx.Ok (X:Cx):Prop where
 mod:Mod X.K X.mg X.base
 kind:X.env.scope.kind=.function
 glob:X.env.globals=mainGlobals
 blt:X.env.builtins=builtinsNs
 above:X.s₀.heap.objs.size<=X.env.locals
 inj:∀ x y c,X.env.cells.lookup x=some c->X.env.cells.lookup y=some c->x=y
 has:∀ x,(X.env.kindOf x=some .cell∨X.env.kindOf x=some .free)->∃ c,X.env.cells.lookup x=some c
 cab:∀ x c,X.fn x=true->X.env.cells.lookup x=some c->X.s₀.heap.objs.size<=c
 hd:X.calm=true->X.A.handled=none
 frames:X.A.frames=some X.stack
 stk:X.stack=X.outer∨(X.stack=X.env::X.outer/\X.env.frame=some X.env.locals)
 exf:∀ b∈X.ex,b≠X.env.locals/\∀ x c,X.env.cells.lookup x=some c->c≠b
 bs:∀ b o,X.base.get? b=some o->X.s₀.heap.get? b=some o/\X.H₀ b=none
 bsz:X.base.objs.size<=X.s₀.heap.objs.size
 noex:∀ b o,X.base.get? b=some o->b∉X.ex
 exfs:∀ b∈X.ex,b∉X.fs
 funs:X.s₀.heap.FunFrames X.base X.outer
 frf:∀ b∈X.fs,X.H₀ b=none
structure aL (X:Cx) (pins:List (Addr×Obj)) (σ:List (Option V)) (H:Hp) (s:Shared):Prop where
 ok:X.Ok
 os:s.os=X.s₀.os
 bare:AllBare s.gens
 base:Un X.fs X.ex X.H₀ H X.s₀.heap s.heap
 loc:∃ m,s.heap.Ns X.env.locals m/\∀ (i:Nat) (x:Str) (v:V),X.N[i]?=some x->σ[i]?=some (some v)->Ki X.env.scope x->∃ u,bf v u/\Lx X.env s.heap m x u
 cell:∀ x c,X.env.cells.lookup x=some c->∃ v,s.heap.IsCell c v
 free:H X.env.locals=none
 freeC:∀ x c,X.env.cells.lookup x=some c->H c=none
 pin:∀ p∈X.pn++pins,s.heap.get? p.1=some p.2/\H p.1=none/\p.1≠X.env.locals/\p.1∉X.fs/\∀ v,p.2.data≠.cell v
 hok:jp X.prog X.w H s.heap
 len:σ.length=X.N.length
section
variable {X:Cx} {pins:List (Addr×Obj)} {σ:List (Option V)} {H H':Hp} {s:Shared} {h':Heap}
theorem Cx.Ok.nofr (ok:X.Ok) {b:Addr} {o:Obj} (e:X.base.get? b=some o):b∉X.fs:=λ hb=>by
 have:=(ok.funs.mem hb).1
 rw [e] at this;cases this
theorem aL.bs (I:aL X pins σ H s):∀ b o,X.base.get? b=some o->s.heap.get? b=some o/\H b=none:=λ b o e=>
 ⟨I.base.keep b o (I.ok.bs b o e).1 (I.ok.bs b o e).2 (I.ok.nofr e) (I.ok.noex b o e),I.base.free b o (I.ok.bs b o e).1 (I.ok.bs b o e).2 (I.ok.noex b o e)⟩
theorem aL.bk (I:aL X pins σ H s):∀ b o,X.base.get? b=some o->s.heap.get? b=some o:=λ b o e=>(I.bs b o e).1
theorem aL.mod (I:aL X pins σ H s):Mod X.K X.mg X.base:=I.ok.mod
theorem aL.kIn (I:aL X pins σ H s):X.K.In s.heap:=I.ok.mod.kin.keeps I.bk
theorem aL.lt (I:aL X pins σ H s):X.env.locals<s.heap.objs.size:=by obtain ⟨_,hn,_⟩:=I.loc;exact hn.lt
theorem aL.sz (I:aL X pins σ H s):X.s₀.heap.objs.size<=s.heap.objs.size:=Nat.le_trans I.ok.above (Nat.le_of_lt I.lt)
theorem aL.nofs (I:aL X pins σ H s) {a:Addr} (h:s.heap.objs.size<=a):a∉X.fs:=λ hb=>by
 obtain ⟨_,o,ho,_⟩:=I.ok.funs.mem hb
 exact absurd (Nat.lt_of_lt_of_le (Heap.lt_size ho) (Nat.le_trans I.sz h)) (Nat.lt_irrefl _)
theorem aL.cne (I:aL X pins σ H s):∀ x c,X.env.cells.lookup x=some c->c≠X.env.locals:=λ x c e z=>by
 obtain ⟨v,o,ho,hd⟩:=I.cell x c e
 obtain ⟨m,⟨o',es,ep,ho',hd',_⟩,_⟩:=I.loc
 rw [z,ho'] at ho;cases ho;rw [hd'] at hd;cases hd
theorem aL.funs (I:aL X pins σ H s):s.heap.FunFrames X.base X.outer:=by
 have all:∀ (l:List Env),(∀ b∈yl l,b∈X.fs)->X.s₀.heap.FunFrames X.base l->s.heap.FunFrames X.base l:=by
  intro l
  induction l with
  | nil=>intro _ _;trivial
  | cons env r ih=>
   intro hs hl
   obtain ⟨hk,⟨L,o,hf,hn,ho,hd⟩,hr⟩:=hl
   have hL:L∈X.fs:=hs L (by unfold yl;rw [List.filterMap_cons,hf];exact List.mem_cons_self)
   obtain ⟨sl,e⟩:=I.base.slot L o ho (I.ok.frf L hL) hL λ z=>I.ok.exfs L z hL
   exact ⟨hk,⟨L,_,hf,hn,e,hd⟩,ih (λ b hb=>hs b (by unfold yl;rw [List.filterMap_cons,hf];exact List.mem_cons_of_mem _ hb)) hr⟩
 exact all X.outer (λ _ hb=>hb) I.ok.funs
theorem aL.stack (I:aL X pins σ H s):s.heap.FunFrames X.base X.stack:=by
 rcases I.ok.stk with e | ⟨e,hf⟩
 . rw [e];exact I.funs
 . rw [e]
   obtain ⟨m,hn,_⟩:=I.loc
   refine .cons (by rw [I.ok.kind];decide) hf hn ?_ I.funs
   exact Heap.get?_none_of_le (Nat.le_trans I.ok.bsz I.ok.above)
theorem aL.stkSub (I:aL X pins σ H s):∀ b∈yl X.stack,b∈X.env.locals::X.fs:=λ b hb=>by
 rcases I.ok.stk with e | ⟨e,hf⟩
 . rw [e] at hb;exact List.mem_cons_of_mem _ hb
 . rw [e] at hb
   unfold yl at hb
   rw [List.filterMap_cons,hf] at hb
   exact hb
theorem aL.stkFree (I:aL X pins σ H s):∀ b∈yl X.stack,H b=none:=λ b hb=>by
 rcases List.mem_cons.mp (I.stkSub b hb) with e | hb
 . rw [e];exact I.free
 . obtain ⟨_,o,ho,_⟩:=I.ok.funs.mem hb
   exact I.base.free b o ho (I.ok.frf b hb) λ z=>I.ok.exfs b z hb
theorem aL.step {g':Array GenState} {t':Nat} {d':Drawn} {ch:List Addr} (I:aL X pins σ H s)
 (hch:∀ b∈ch,(b∈X.ex∨X.s₀.heap.objs.size<=b)/\b≠X.env.locals/\(∀ x c,X.env.cells.lookup x=some c->c≠b)/\∀ p∈X.pn++pins,p.1≠b)
 (keep:∀ b o,b≠X.env.locals->b∉X.fs->b∉ch->s.heap.get? b=some o->H b=none->h'.get? b=some o)
 (slot:∀ b o,b≠X.env.locals->b∈X.fs->b∉ch->s.heap.get? b=some o->H b=none->∃ sl,h'.get? b=some { o with slots:=sl }) (free:∀ b o,b∉ch->s.heap.get? b=some o->H b=none->H' b=none)
 (there:∀ b o,b∉ch->s.heap.get? b=some o->∃ o',h'.get? b=some o')
 (tups:∀ b xs,H b=some (.tup xs)->H' b=some (.tup xs)) (frzs:∀ b o u,H b=some (.frz o u)->H' b=some (.frz o u)) (tbls:∀ b ps,H b=some (.tbl ps)->∃ more,H' b=some (.tbl (ps++more)))
 (ns:∀ m,s.heap.Ns X.env.locals m->h'.Ns X.env.locals m) (hok:jp X.prog X.w H' h') (hg:AllBare g'):
 aL X pins σ H' { s with heap:=h',gens:=g',drawn:=d',toks:=t' }:=by
 have neL:∀ b o,X.s₀.heap.get? b=some o->b≠X.env.locals:=λ b o e=>Nat.ne_of_lt (Nat.lt_of_lt_of_le (Heap.lt_size e) I.ok.above)
 have neC:∀ b o,X.s₀.heap.get? b=some o->b∉X.ex->b∉ch:=λ b o e hx hb=>by
  rcases (hch b hb).1 with z | z
  . exact hx z
  . exact absurd (Nat.lt_of_lt_of_le (Heap.lt_size e) z) (Nat.lt_irrefl _)
 have cellK:∀ x c,X.env.cells.lookup x=some c->∀ v,s.heap.IsCell c v->h'.IsCell c v:=λ x c e v hy0=>by
  obtain ⟨o,ho,hd⟩:=hy0
  have nch:c∉ch:=λ z=>(hch c z).2.2.1 x c e rfl
  by_cases hc:c∈X.fs
  . obtain ⟨sl,q⟩:=slot c o (I.cne x c e) hc nch ho (I.freeC x c e)
    exact ⟨_,q,hd⟩
  . exact ⟨o,keep c o (I.cne x c e) hc nch ho (I.freeC x c e),hd⟩
 refine ⟨I.ok,I.os,hg,⟨λ b o e n hb hx=>?_,λ b o e n hb hx=>?_,λ b o e n hx=>?_,λ b o e hx=>?_,λ b xs e=>tups b xs (I.base.tups b xs e),λ b o xs e=>frzs b o xs (I.base.frzs b o xs e),λ b ps e=>?_⟩,?_,λ x c e=>?_,?_,λ x c e=>?_,λ p hp=>?_,hok,I.len⟩
 . exact keep b o (neL b o e) hb (neC b o e hx) (I.base.keep b o e n hb hx) (I.base.free b o e n hx)
 . obtain ⟨sl,e1⟩:=I.base.slot b o e n hb hx
   obtain ⟨sl',e2⟩:=slot b _ (neL b o e) hb (neC b o e hx) e1 (I.base.free b o e n hx)
   exact ⟨sl',e2⟩
 . obtain ⟨o',e1⟩:=I.base.there b o e hx
   exact free b o' (neC b o e hx) e1 (I.base.free b o e n hx)
 . obtain ⟨o',e1⟩:=I.base.there b o e hx
   exact there b o' (neC b o e hx) e1
 . obtain ⟨m1,e1⟩:=I.base.tbls b ps e
   obtain ⟨m2,e2⟩:=tbls b _ e1
   exact ⟨m1++m2,by rw [e2,Array.append_assoc]⟩
 . obtain ⟨m,hn,hl⟩:=I.loc
   refine ⟨m,ns m hn,λ i x v e1 e2 e3=>?_⟩
   obtain ⟨u,r,l⟩:=hl i x v e1 e2 e3
   refine ⟨u,r,?_⟩
   rcases l with l | ⟨k,c,e,z⟩
   . exact .inl l
   . exact .inr ⟨k,c,e,cellK x c e _ z⟩
 . obtain ⟨v,z⟩:=I.cell x c e
   exact ⟨v,cellK x c e v z⟩
 . obtain ⟨m,⟨o,_,_,ho,_⟩,_⟩:=I.loc
   exact free _ o (λ z=>(hch _ z).2.1 rfl) ho I.free
 . obtain ⟨v,o,ho,hd⟩:=I.cell x c e
   exact free c o (λ z=>(hch c z).2.2.1 x c e rfl) ho (I.freeC x c e)
 . obtain ⟨e,n,ne,nf,d⟩:=I.pin p hp
   have nch:p.1∉ch:=λ z=>(hch p.1 z).2.2.2 p hp rfl
   exact ⟨keep p.1 p.2 ne nf nch e n,free p.1 p.2 nch e n,ne,nf,d⟩
theorem aL.un {t':Nat} (I:aL X pins σ H s) (u:Un X.fs [] H H' s.heap h') (hok:jp X.prog X.w H' h'):aL X pins σ H' { s with heap:=h',toks:=t' }:=by
 obtain ⟨m,⟨o,es,ep,ho,r⟩,_⟩:=id I.loc
 obtain ⟨sl,hL⟩:=u.any ho I.free (by simp)
 exact I.step (g':=s.gens) (d':=s.drawn) (ch:=[]) (λ _ z=>nomatch z) (λ b o _ hb _ e n=>u.keep b o e n hb (by simp)) (λ b o _ hb _ e n=>u.slot b o e n hb (by simp)) (λ b o _ e n=>u.free b o e n (by simp)) (λ b o _ e=>u.there b o e (by simp)) u.tups u.frzs u.tbls (λ m' hm=>by
  obtain ⟨o',es',ep',ho',r'⟩:=hm
  rw [ho] at ho';cases ho'
  exact ⟨_,es',ep',hL,r'⟩) hok I.bare
theorem aL.call {g':Array GenState} {t':Nat} {d':Drawn} {ch:List Addr} (I:aL X pins σ H s) (u:Un (yl X.stack) ch H H' s.heap h') (hok:jp X.prog X.w H' h') (hg:AllBare g')
 (hch:∀ b∈ch,(b∈X.ex∨X.s₀.heap.objs.size<=b)/\b≠X.env.locals/\(∀ x c,X.env.cells.lookup x=some c->c≠b)/\∀ p∈X.pn++pins,p.1≠b):
 aL X pins σ H' { s with heap:=h',gens:=g',drawn:=d',toks:=t' }:=by
 obtain ⟨m,⟨o,es,ep,ho,r⟩,_⟩:=id I.loc
 obtain ⟨sl,hL⟩:=u.any ho I.free λ z=>(hch _ z).2.1 rfl
 exact I.step (ch:=ch) hch (λ b o hL hb hc e n=>u.keep b o e n (λ z=>(List.mem_cons.mp (I.stkSub b z)).elim hL hb) hc) (λ b o _ _ hc e n=>u.any e n hc) (λ b o hc e n=>u.free b o e n hc) (λ b o hc e=>u.there b o e hc) u.tups u.frzs u.tbls (λ m' hm=>by
  obtain ⟨o',es',ep',ho',r'⟩:=hm
  rw [ho] at ho';cases ho'
  exact ⟨_,es',ep',hL,r'⟩) hok hg
theorem aL.turned {t':Nat} {it:Addr} (I:aL X pins σ H s) (k:∀ b o,b≠it->s.heap.get? b=some o->h'.get? b=some o) (hn:H it=none) (hL:it≠X.env.locals)
 (h1:it∈X.ex∨X.s₀.heap.objs.size<=it) (h2:∀ x c,X.env.cells.lookup x=some c->c≠it) (h3:∀ p∈X.pn++pins,p.1≠it):aL X pins σ H { s with heap:=h',toks:=t' }:=by
 have nit:∀ b u,H b=some u->b≠it:=λ b u e z=>by rw [z,hn] at e;cases e
 refine I.step (g':=s.gens) (d':=s.drawn) (ch:=[it]) (λ b hb=>?_) (λ b o _ _ hc e _=>k b o (λ z=>hc (by simp [z])) e) (λ b o _ _ hc e _=>⟨o.slots,k b o (λ z=>hc (by simp [z])) e⟩) (λ _ _ _ _ n=>n)
  (λ b o hc e=>⟨o,k b o (λ z=>hc (by simp [z])) e⟩) (λ _ _ e=>e) (λ _ _ _ e=>e) (λ b ps e=>⟨#[],by rw [e];simp⟩) (λ m hm=>?_) (λ b u e=>?_) I.bare
 . have e:b=it:=by simpa using hb
   subst e
   exact ⟨h1,hL,h2,h3⟩
 . obtain ⟨o,es,ep,ho,r⟩:=hm
   exact ⟨o,es,ep,k _ o (Ne.symm hL) ho,r⟩
 . refine (I.hok b u e).stay (λ c v hc q=>k c v ?_ q) (λ _ q=>q) λ _ _ q=>q
   rcases hc with z | z
   . rw [z];exact nit b u e
   . exact nit c _ z
theorem aL.tok (I:aL X pins σ H s) (t:Nat):aL X pins σ H { s with toks:=t }:=I.un (h':=s.heap) (t':=t) Un.refl I.hok
theorem aL.kept {t':Nat} (I:aL X pins σ H s) (k:∀ b u,s.heap.get? b=some u->h'.get? b=some u):aL X pins σ H { s with heap:=h',toks:=t' }:=I.un (Un.kept k) (I.hok.kept k)
theorem aL.laid {a:Addr} {o:HO} {t':Nat} (I:aL X pins σ H s) (k:∀ b u,s.heap.get? b=some u->h'.get? b=some u) (hp:s.heap.objs.size<=a) (new:cR X.prog X.w (cp H a o) h' a o):
 aL X pins σ (cp H a o) { s with heap:=h',toks:=t' }:=I.un (Un.laid k hp (I.hok.fresh hp)) (I.hok.laid k hp new)
theorem aL.write {x e:Addr} {o:HO} {t':Nat} (I:aL X pins σ H s) (mu:IZ (H x)) (he:e=x∨H e=some (.own x)) (k:∀ b u,b≠e->s.heap.get? b=some u->h'.get? b=some u) (heo:∃ u,h'.get? e=some u)
 (new:cR X.prog X.w (cp H x o) h' x o):aL X pins σ (cp H x o) { s with heap:=h',toks:=t' }:=I.un (Un.write mu he k heo) (I.hok.write mu he k heo new)
theorem aL.weak {σ':List (Option V)} (I:aL X pins σ H s) (hl:σ'.length=σ.length) (w:∀ (i:Nat) v,σ'[i]?=some (some v)->σ[i]?=some (some v)):aL X pins σ' H s:=
 ⟨I.ok,I.os,I.bare,I.base,by obtain ⟨m,hn,hl'⟩:=I.loc;exact ⟨m,hn,λ i x v e1 e2 e3=>hl' i x v e1 (w i v e2) e3⟩,I.cell,I.free,I.freeC,I.pin,I.hok,hl.trans I.len⟩
theorem aL.pins_of {pins':List (Addr×Obj)} (I:aL X pins σ H s) (h:∀ p∈pins',s.heap.get? p.1=some p.2/\H p.1=none/\p.1≠X.env.locals/\p.1∉X.fs/\∀ v,p.2.data≠.cell v):aL X pins' σ H s:=
 ⟨I.ok,I.os,I.bare,I.base,I.loc,I.cell,I.free,I.freeC,λ p hp=>(List.mem_append.mp hp).elim (λ z=>I.pin p (List.mem_append_left _ z)) (h p),I.hok,I.len⟩
theorem qY {N:List Str} (hN:N.Nodup) {i j:Nat} {x:Str} (a:N[i]?=some x) (b:N[j]?=some x):i=j:=by
 obtain ⟨h1,e1⟩:=oG a
 obtain ⟨h2,e2⟩:=oG b
 exact (List.getElem_inj hN).mp (e1.trans e2.symm)
theorem o7 {M:Model} {A:Around} {E:Value->Shared->Prop} {i:Nat} {x:Str} {v:V} {u:Value} {Q:Unit->Shared->Prop} (I:aL X pins σ H s) (hN:X.N.Nodup) (hi:X.N[i]?=some x) (hx:FV X.env.scope x) (r:bf v u)
 (h:∀ s',aL X pins (σ.set i (some v)) H s'->(∃ a,Heap.SameBut a s.heap s'.heap/\(a=X.env.locals∨X.env.cells.lookup x=some a))->Q () s') (hf:X.fn x=true∨X.env.scope.names.lookup x=some .local:=by first | exact .inl rfl | exact .inr rfl | assumption):wpAny M A (storeName X.env x u) Q E s:=by
 obtain ⟨m,hn,hl⟩:=id I.loc
 have hcls:(X.env.scope.kind==.class||(X.env.scope.kind==.module&&X.env.locals != X.env.globals))=false:=by rw [I.ok.kind];rfl
 have hiσ:i<σ.length:=by rw [I.len];exact (oG hi).1
 have cne:=I.cne
 have tracked:∀ {a:Addr} {h':Heap},(∃ o,s.heap.get? a=some o/\H a=none)->Heap.SameBut a s.heap h'->jp X.prog X.w H h':=λ {a h'} ha hs b ob e=>by
  obtain ⟨_,_,hfree⟩:=ha
  refine (I.hok b ob e).stay (λ c w' hc q=>(hs.2 c ?_).trans q) (λ _ q=>q) λ _ _ q=>q
  rintro rfl
  rcases hc with rfl | hc
  . rw [hfree] at e;cases e
  . rw [hfree] at hc;cases hc
 rcases hx with hk | hk
 . refine wpAny_storeName_local hk hn (λ h' hn' hs=>?_) hcls
   obtain ⟨oL,_,_,hoL,_⟩:=id hn
   refine h _ ⟨I.ok,I.os,I.bare,⟨λ b o e n hb hx=>?_,λ b o e n hb hx=>?_,I.base.free,λ b o e hx=>?_,I.base.tups,I.base.frzs,I.base.tbls⟩,⟨_,hn',λ j y v' e1 e2 e3=>?_⟩,λ y c e=>?_,I.free,I.freeC,λ p hp=>?_,tracked ⟨oL,hoL,I.free⟩ hs,by simpa using I.len⟩ ⟨_,hs,.inl rfl⟩
   . exact (hs.2 b (Nat.ne_of_lt (Nat.lt_of_lt_of_le (Heap.lt_size e) I.ok.above))).trans (I.base.keep b o e n hb hx)
   . obtain ⟨sl,e1⟩:=I.base.slot b o e n hb hx
     exact ⟨sl,(hs.2 b (Nat.ne_of_lt (Nat.lt_of_lt_of_le (Heap.lt_size e) I.ok.above))).trans e1⟩
   . obtain ⟨o',e1⟩:=I.base.there b o e hx
     exact ⟨o',(hs.2 b (Nat.ne_of_lt (Nat.lt_of_lt_of_le (Heap.lt_size e) I.ok.above))).trans e1⟩
   . by_cases hj:j=i
     . subst hj
       rw [hi] at e1;cases e1
       rw [List.getElem?_set_self hiσ] at e2
       cases e2
       exact ⟨u,r,.inl ⟨hk,by simp⟩⟩
     . rw [List.getElem?_set_ne (Ne.symm hj)] at e2
       obtain ⟨u',r',q⟩:=hl j y v' e1 e2 e3
       refine ⟨u',r',?_⟩
       rcases q with ⟨k,e⟩ | ⟨k,c,e,z⟩
       . refine .inl ⟨k,?_⟩
         have:y≠x:=λ e=>hj (qY hN e1 (e▸hi))
         simp [this,e]
       . exact .inr ⟨k,c,e,z.sameBut hs (cne y c e)⟩
   . obtain ⟨w',z⟩:=I.cell y c e
     exact ⟨w',z.sameBut hs (cne y c e)⟩
   . obtain ⟨e,n,ne,nf,d⟩:=I.pin p hp
     exact ⟨(hs.2 p.1 ne).trans e,n,ne,nf,d⟩
 . have hfn:X.fn x=true:=by
    rcases hf with z | z
    . exact z
    . rw [z] at hk;cases hk
   obtain ⟨c,hc⟩:=I.ok.has x (.inl hk)
   obtain ⟨w',z⟩:=I.cell x c hc
   refine wpAny_storeName_cell I.ok.kind hk hc z (λ h' hc' hs=>?_)
   obtain ⟨oc,hoc,hocd⟩:=id z
   refine h { s with heap:=h' } ⟨I.ok,I.os,I.bare,⟨λ b o e n hb hx=>?_,λ b o e n hb hx=>?_,I.base.free,λ b o e hx=>?_,I.base.tups,I.base.frzs,I.base.tbls⟩,⟨m,hn.sameBut hs (Ne.symm (cne x c hc)),λ j y v' e1 e2 e3=>?_⟩,λ y c' e=>?_,I.free,I.freeC,λ p hp=>?_,tracked ⟨oc,hoc,I.freeC x c hc⟩ hs,by simpa using I.len⟩ ⟨c,hs,.inr hc⟩
   . exact (hs.2 b (Nat.ne_of_lt (Nat.lt_of_lt_of_le (Heap.lt_size e) (I.ok.cab x c hfn hc)))).trans (I.base.keep b o e n hb hx)
   . obtain ⟨sl,e1⟩:=I.base.slot b o e n hb hx
     exact ⟨sl,(hs.2 b (Nat.ne_of_lt (Nat.lt_of_lt_of_le (Heap.lt_size e) (I.ok.cab x c hfn hc)))).trans e1⟩
   . obtain ⟨o',e1⟩:=I.base.there b o e hx
     exact ⟨o',(hs.2 b (Nat.ne_of_lt (Nat.lt_of_lt_of_le (Heap.lt_size e) (I.ok.cab x c hfn hc)))).trans e1⟩
   . by_cases hj:j=i
     . subst hj
       rw [hi] at e1;cases e1
       rw [List.getElem?_set_self hiσ] at e2
       cases e2
       exact ⟨u,r,.inr ⟨.inl hk,c,hc,hc'⟩⟩
     . rw [List.getElem?_set_ne (Ne.symm hj)] at e2
       obtain ⟨u',r',q⟩:=hl j y v' e1 e2 e3
       refine ⟨u',r',?_⟩
       rcases q with q | ⟨k,c',e,z'⟩
       . exact .inl q
       . refine .inr ⟨k,c',e,z'.sameBut hs ?_⟩
         rintro rfl
         exact hj (qY hN e1 (I.ok.inj _ _ _ e hc▸hi))
   . by_cases hcc:c'=c
     . subst hcc;exact ⟨_,hc'⟩
     . obtain ⟨w2,z2⟩:=I.cell y c' e
       exact ⟨w2,z2.sameBut hs hcc⟩
   . obtain ⟨e,n,ne,nf,d⟩:=I.pin p hp
     refine ⟨(hs.2 p.1 ?_).trans e,n,ne,nf,d⟩
     intro q
     rw [q,hoc] at e
     have q':oc=p.2:=Option.some.inj e
     exact d w' (by rw [<-q'];exact hocd)
theorem rf {M:Model} {A:Around} {E:Value->Shared->Prop} {i:Nat} {x:Str} {v:V} {u:Value} {Q:Unit->Shared->Prop} (I:aL X pins σ H s) (hN:X.N.Nodup) (hi:X.N[i]?=some x) (hx:FV X.env.scope x) (r:bf v u)
 (h:∀ s',aL X pins (σ.set i (some v)) H s'->Q () s') (hf:X.fn x=true∨X.env.scope.names.lookup x=some .local:=by first | exact .inl rfl | exact .inr rfl | assumption):wpAny M A (storeName X.env x u) Q E s:=
 o7 I hN hi hx r (λ s' I' _=>h s' I') hf
theorem aL.call' {s':Shared} {ch:List Addr} (I:aL X pins σ H s) (ho:s'.os=s.os) (u:Un (yl X.stack) ch H H' s.heap s'.heap) (hok:jp X.prog X.w H' s'.heap) (hg:AllBare s'.gens)
 (hch:∀ b∈ch,(b∈X.ex∨X.s₀.heap.objs.size<=b)/\b≠X.env.locals/\(∀ x c,X.env.cells.lookup x=some c->c≠b)/\∀ p∈X.pn++pins,p.1≠b):aL X pins σ H' s':=by
 obtain ⟨h',g',d',t',o'⟩:=s'
 have e:o'=s.os:=ho
 subst e
 exact I.call (g':=g') (t':=t') (d':=d') u hok hg hch
end
noncomputable abbrev XK:=Value->Option Addr->Hp->Prop
noncomputable abbrev St:=List (Option V)
noncomputable abbrev VK:=V->Hp->Prop
noncomputable abbrev TE:=St->Hp->VK->Prop
noncomputable abbrev TT:=St->Hp->(Bool->Hp->Prop)->Prop
noncomputable abbrev TA:=St->Hp->(List V->Hp->Prop)->Prop
structure iq where
 nx:St->Hp->Prop
 rt:VK
 bk:St->Hp->Prop:=λ _ _=>False
 ct:St->Hp->Prop:=λ _ _=>False
noncomputable abbrev TS:=iq->St->Hp->Prop
noncomputable def EP (X:Cx) (pins:List (Addr×Obj)) (σ:St) (Q:VK) (u:Value) (s':Shared):Prop:=∃ v H',aL X pins σ H' s'/\bf v u/\Q v H'
noncomputable def TP (X:Cx) (pins:List (Addr×Obj)) (σ:St) (Q:Bool->Hp->Prop) (b:Bool) (s':Shared):Prop:=∃ H',aL X pins σ H' s'/\Q b H'
noncomputable def AP (X:Cx) (pins:List (Addr×Obj)) (σ:St) (Q:List V->Hp->Prop) (us:List Value) (s':Shared):Prop:=∃ vs H',aL X pins σ H' s'/\bc vs us/\Q vs H'
noncomputable def SP (X:Cx) (pins:List (Addr×Obj)) (D:iq) (f:Flow) (s':Shared):Prop:=
 match f with
 | .next=>∃ σ' H',aL X pins σ' H' s'/\D.nx σ' H'
 | .brk=>∃ σ' H',aL X pins σ' H' s'/\D.bk σ' H'
 | .cont=>∃ σ' H',aL X pins σ' H' s'/\D.ct σ' H'
 | .ret u=>∃ v σ' H',aL X pins σ' H' s'/\bf v u/\D.rt v H'
noncomputable def PE (X:Cx) (e:Expr) (t:TE):Prop:=
 ∀ (pins:List (Addr×Obj)) (s:Shared) (σ:St) (H:Hp) (Q:VK),aL X pins σ H s->t σ H Q->wpAny (model X.prog X.w) X.A (eval e X.env) (EP X pins σ Q) X.xe s
noncomputable def PT (X:Cx) (e:Expr) (t:TT):Prop:=
 ∀ (pins:List (Addr×Obj)) (s:Shared) (σ:St) (H:Hp) (Q:Bool->Hp->Prop),aL X pins σ H s->t σ H Q->wpAny (model X.prog X.w) X.A (isTrue e X.env (eval e X.env)) (TP X pins σ Q) X.xe s
noncomputable def PW (X:Cx) (e:Expr) (t:TT):Prop:=
 ∀ (whole:Sem Value) (pins:List (Addr×Obj)) (s:Shared) (σ:St) (H:Hp) (Q:Bool->Hp->Prop),aL X pins σ H s->t σ H Q->wpAny (model X.prog X.w) X.A (isTrue e X.env whole) (TP X pins σ Q) X.xe s
theorem PW.pt {X:Cx} {e:Expr} {t:TT} (h:PW X e t):PT X e t:=h _
noncomputable def PA (X:Cx) (es:List Expr) (t:TA):Prop:=
 ∀ (pos:Pos) (pins:List (Addr×Obj)) (s:Shared) (σ:St) (H:Hp) (Q:List V->Hp->Prop),aL X pins σ H s->t σ H Q->wpAny (model X.prog X.w) X.A (spliced (backTo pos (starEach es X.env))) (AP X pins σ Q) X.xe s
noncomputable def PS (X:Cx) (st:Stmt) (t:TS):Prop:=
 ∀ (pins:List (Addr×Obj)) (s:Shared) (σ:St) (H:Hp) (D:iq),aL X pins σ H s->t D σ H->wpAny (model X.prog X.w) X.A (exec st X.env) (SP X pins D) X.xe s
noncomputable def sP (X:Cx) (st:List Stmt) (t:TS):Prop:=
 ∀ (pins:List (Addr×Obj)) (s:Shared) (σ:St) (H:Hp) (D:iq),aL X pins σ H s->t D σ H->wpAny (model X.prog X.w) X.A (execs st X.env) (SP X pins D) X.xe s
theorem cm {α:Type} {t:Sem α} {Q Q':α->Shared->Prop} {M:Model} {A:Around} {E:Value->Shared->Prop} {s:Shared} (h:wpAny M A t Q E s) (hQ:∀ a s,Q a s->Q' a s):wpAny M A t Q' E s:=wpAny_mono h hQ λ _ _ x=>x
end L2
namespace L2
open PySem PySem.Spec PyProof.Rows
open PySem.W (Frag)
section
variable {X:Cx}
noncomputable def xh (i:Nat):TE:=λ σ H Q=>∃ v,σ[i]?=some (some v)/\Q v H
noncomputable def tC (v:V):TE:=λ _ H Q=>Q v H
theorem LB {i:Nat} {x:Str} {pos:Pos} (hN:X.N[i]?=some x) (hv:Ki X.env.scope x) (hd:(x==("__debug__" : Str))=false) (hcd:(x==("__classdict__" : Str))=false):PE X (.Name x pos) (xh i):=by
 intro pins s σ H Q I h
 obtain ⟨v,e,h⟩:=h
 obtain ⟨m,hn,hl⟩:=I.loc
 obtain ⟨u,r,l⟩:=hl i x v hN e hv
 have fin:EP X pins σ Q u s:=⟨v,H,I,r,h⟩
 rcases l with ⟨hk,hm⟩ | ⟨hk,c,hc,hcell⟩
 . exact wpAny_Name (wpAny_loadName_local I.ok.kind hk hn hm fin) hd
 . rcases hk with hk | hk
   . exact wpAny_Name (wpAny_loadName_cell I.ok.kind hk hc hcell fin) hd
   . exact wpAny_Name (wpAny_loadName_free I.ok.kind hk hc hcell fin hcd) hd
theorem L9 {i j pos}:PE X (.Constant (.int i) j pos) (tC (.int i)):=λ _ _ _ H _ I h=>wpAny_Constant_int ⟨.int i,H,I.tok _,⟨_,rfl⟩,h⟩
theorem LR {b j pos}:PE X (.Constant (.bool b) j pos) (tC (.bl b)):=λ _ _ _ H _ I h=>Constant_bool ⟨.bl b,H,I,rfl,h⟩
theorem Lr {j pos}:PE X (.Constant .none j pos) (tC .non):=λ _ _ _ H _ I h=>Constant_none ⟨.non,H,I,rfl,h⟩
theorem Lj {x j pos}:PE X (.Constant (.str x) j pos) (tC (.str x)):=λ _ _ _ H _ I h=>Calls.Constant_str ⟨.str x,H,I.tok _,⟨_,rfl⟩,h⟩
noncomputable def Gl (X:Cx) (x:Str):Prop:=X.env.kindOf x=some .globalImplicit
theorem qp {E:Value->Shared->Prop} {pins:List (Addr×Obj)} {s:Shared} {σ:St} {H:Hp} {x:Str} {u:Value} {pos:Pos} {Q:Value->Shared->Prop} (I:aL X pins σ H s) (hg:Gl X x) (hm:X.mg x=some u) (h:Q u s)
 (hd:(x==("__debug__" : Str))=false:=by decide):wpAny (model X.prog X.w) X.A (eval (.Name x pos) X.env) Q E s:=
 Calls.Name_function_global I.ok.kind hg (Calls.loadGlobal_global (by rw [I.ok.glob];exact I.mod.glob.keeps I.bk) hm h) hd
theorem kZ {E:Value->Shared->Prop} {pins:List (Addr×Obj)} {s:Shared} {σ:St} {H:Hp} {x:Str} {u:Value} {pos:Pos} {Q:Value->Shared->Prop} (I:aL X pins σ H s) (hg:Gl X x) (hm:X.mg x=none) (hv:bootBuiltins x=some u) (h:Q u s)
 (hn:x ≠ "__name__" := by decide) (hd:(x==("__debug__" : Str))=false:=by decide):wpAny (model X.prog X.w) X.A (eval (.Name x pos) X.env) Q E s:=by
 obtain ⟨mb,h1,h2⟩:=I.mod.blt
 exact Calls.Name_function_global I.ok.kind hg (Calls.loadGlobal_builtin (by rw [I.ok.glob];exact I.mod.glob.keeps I.bk) hm (by rw [I.ok.blt];exact h1.keeps I.bk) ((h2 x hn).trans hv) h) hd
theorem AJ {x:Str} {v:V} {u:Value} {pos:Pos} (hg:Gl X x) (hm:X.mg x=some u) (r:bf v u) (hd:(x==("__debug__" : Str))=false:=by decide):PE X (.Name x pos) (tC v):=
 λ _ _ _ H _ I h=>qp I hg hm ⟨v,H,I,r,h⟩ hd
theorem BD {x:Str} {v:V} {u:Value} {pos:Pos} (hg:Gl X x) (hm:X.mg x=none) (hv:bootBuiltins x=some u) (r:bf v u) (hn:x ≠ "__name__" := by decide) (hd:(x==("__debug__" : Str))=false:=by decide):PE X (.Name x pos) (tC v):=
 λ _ _ _ H _ I h=>kZ I hg hm hv ⟨v,H,I,r,h⟩ hn hd
variable {a b:Expr} {ta tb:TE} {pos:Pos}
noncomputable def PC (X:Cx) (op:CmpOp) (a b:Expr) (t:TE):Prop:=
 ∀ (pins:List (Addr×Obj)) (s:Shared) (σ:St) (H:Hp) (Q:VK),aL X pins σ H s->t σ H Q->
  wpAny (model X.prog X.w) X.A (eval a X.env) (λ v s₁=>wpAny (model X.prog X.w) X.A (eval b X.env) (λ u s₂=>wpAny (model X.prog X.w) X.A (compareOp op v u) (EP X pins σ Q) X.xe s₂) X.xe s₁) X.xe s
noncomputable def tB (t:TE):TT:=λ σ H Q=>t σ H λ x H1=>∃ c,x=.bl c/\Q c H1
theorem Kz {op:CmpOp} {t:TE} (h:PC X op a b t) (h1:behindInMarks op b=false):PE X (.Compare a [op] [b] pos) t:=λ pins s σ H Q I hw=>wpAny_Compare1 (h pins s σ H Q I hw) h1
theorem Kr {op:CmpOp} {t:TE} (h:PC X op a b t) (h1:behindInMarks op b=false):PT X (.Compare a [op] [b] pos) (tB t):=by
 intro pins s σ H Q I hw
 refine wpAny_isTrue_Compare1 (cm (h pins s σ H _ I hw) λ v s1 h1=>cm h1 λ u s2 h2=>cm h2 λ c s3 hq0=>?_) h1
 obtain ⟨x,H1,I1,r1,q1⟩:=hq0
 obtain ⟨d,rfl,q⟩:=q1
 cases r1
 exact wpAny_truthy_bool ⟨H1,I1,q⟩
theorem Ln {e:Expr} {t:TE} (h:PE X e t) (he:∀ whole,isTrue e X.env whole=(do let v <-whole;standAt e.pos;holding [v] (truthy v))):PT X e (tB t):=by
 intro pins s σ H Q I hw
 refine isTrue_plain (cm (h pins s σ H _ I hw) λ v s1 hq0=>?_) (he _)
 obtain ⟨x,H1,I1,r1,q1⟩:=hq0
 obtain ⟨d,rfl,q⟩:=q1
 cases r1
 exact wpAny_truthy_bool ⟨H1,I1,q⟩
variable {tA tB':TT} {aI:List Expr}
noncomputable def Eg (t u:TT):TT:=λ σ H Q=>t σ H λ c H1=>if c=true then u σ H1 Q else Q false H1
noncomputable def Ll (t u:TT):TT:=λ σ H Q=>t σ H λ c H1=>if c=true then Q true H1 else u σ H1 Q
noncomputable def Ip (t:TT):TT:=λ σ H Q=>t σ H λ c H1=>Q (!c) H1
theorem Kn (ha:PT X a tA):PW X (.BoolOp .And [a] pos) tA:=by
 intro wh pins s σ H Q I h
 refine isTrue_and (cm (ha pins s σ H Q I h) λ c s1 e=>?_)
 cases c with
 | true=>exact isTrue_and_nil e
 | false=>exact e
theorem Kp (ha:PT X a tA):PW X (.BoolOp .Or [a] pos) tA:=by
 intro wh pins s σ H Q I h
 refine isTrue_or (cm (ha pins s σ H Q I h) λ c s1 e=>?_)
 cases c with
 | false=>exact isTrue_or_nil e
 | true=>exact e
theorem L5 (ha:PT X a tA) (hb:PW X (.BoolOp .And (b::aI) pos) tB'):PW X (.BoolOp .And (a::b::aI) pos) (Eg tA tB'):=by
 intro wh pins s σ H Q I h
 refine isTrue_and (cm (ha pins s σ H _ I h) λ c s1 hq0=>?_)
 obtain ⟨H1,I1,q1⟩:=hq0
 cases c with
 | true=>exact hb wh pins s1 σ H1 Q I1 q1
 | false=>exact ⟨H1,I1,q1⟩
theorem LH (ha:PT X a tA) (hb:PW X (.BoolOp .Or (b::aI) pos) tB'):PW X (.BoolOp .Or (a::b::aI) pos) (Ll tA tB'):=by
 intro wh pins s σ H Q I h
 refine isTrue_or (cm (ha pins s σ H _ I h) λ c s1 hq0=>?_)
 obtain ⟨H1,I1,q1⟩:=hq0
 cases c with
 | true=>exact ⟨H1,I1,q1⟩
 | false=>exact hb wh pins s1 σ H1 Q I1 q1
theorem Lw (ha:PT X a tA):PT X (.UnaryOp .Not a pos) (Ip tA):=by
 intro pins s σ H Q I h
 exact isTrue_not (ha pins s σ H (λ c H1=>Q (!c) H1) I h)
noncomputable def D3 (ta tb:TE):TE:=λ σ H Q=>ta σ H λ x H1=>∃ c,x=.bl c/\if c=true then tb σ H1 Q else Q (.bl false) H1
noncomputable def EI (ta tb:TE):TE:=λ σ H Q=>ta σ H λ x H1=>∃ c,x=.bl c/\if c=true then Q (.bl true) H1 else tb σ H1 Q
noncomputable def CQ (ta:TE):TE:=λ σ H Q=>ta σ H λ x H1=>∃ c,x=.bl c/\Q (.bl (!c)) H1
theorem K5 {op} {t:TE} (h:PE X a t):PE X (.BoolOp op [a] pos) t:=λ pins s σ H Q I hw=>BoolOp_one (h pins s σ H Q I hw)
theorem L0 (ha:PE X a ta) (hb:PE X (.BoolOp .And (b::aI) pos) tb):PE X (.BoolOp .And (a::b::aI) pos) (D3 ta tb):=by
 intro pins s σ H Q I h
 refine BoolOp_and (cm (ha pins s σ H _ I h) λ v s1 hq0=>?_)
 obtain ⟨x,H1,I1,r1,q1⟩:=hq0
 obtain ⟨c,rfl,q1⟩:=q1
 cases r1
 refine wpAny_truthy_bool ?_
 cases c with
 | true=>exact hb pins s1 σ H1 Q I1 q1
 | false=>exact ⟨.bl false,H1,I1,rfl,q1⟩
theorem Mi (ha:PE X a ta) (hb:PE X (.BoolOp .Or (b::aI) pos) tb):PE X (.BoolOp .Or (a::b::aI) pos) (EI ta tb):=by
 intro pins s σ H Q I h
 refine BoolOp_or (cm (ha pins s σ H _ I h) λ v s1 hq0=>?_)
 obtain ⟨x,H1,I1,r1,q1⟩:=hq0
 obtain ⟨c,rfl,q1⟩:=q1
 cases r1
 refine wpAny_truthy_bool ?_
 cases c with
 | false=>exact hb pins s1 σ H1 Q I1 q1
 | true=>exact ⟨.bl true,H1,I1,rfl,q1⟩
theorem K6 (ha:PE X a ta):PE X (.UnaryOp .Not a pos) (CQ ta):=by
 intro pins s σ H Q I h
 refine UnaryOp_ (cm (ha pins s σ H _ I h) λ v s1 hq0=>?_)
 obtain ⟨x,H1,I1,r1,q1⟩:=hq0
 obtain ⟨c,rfl,q1⟩:=q1
 cases r1
 exact not_of (wpAny_truthy_bool ⟨.bl (!c),H1,I1,rfl,q1⟩)
noncomputable def Mg (t:TT) (ta tb:TE):TE:=λ σ H Q=>t σ H λ c H1=>if c=true then ta σ H1 Q else tb σ H1 Q
theorem Ih {c:Expr} (hc:PT X c tA) (ha:PE X a ta) (hb:PE X b tb):PE X (.IfExp c a b pos) (Mg tA ta tb):=by
 intro pins s σ H Q I h
 refine wpAny_IfExp (cm (hc pins s σ H _ I h) λ d s1 hq0=>?_)
 obtain ⟨H1,I1,q1⟩:=hq0
 cases d with
 | true=>exact ha pins s1 σ H1 Q I1 q1
 | false=>exact hb pins s1 σ H1 Q I1 q1
end
end L2
namespace L2
open PySem PySem.Spec PyProof.Rows
open PySem.W (Frag)
noncomputable def cC (K:Frag) (H:Hp) (a:Addr) (xs:List V):Prop:=
 Rd H a (.lst xs)∨
  ∃ (o:Obj) (its:Array Value) (n:Nat),K.lookup a=some o/\o.cls=.type "list" /\ o.dict=none/\o.data=.seq its n/\its.size<=sizeLine/\bc xs its.toList
noncomputable def eK (K:Frag) (H:Hp) (a:Addr) (xs:List V):Prop:=
 Rd H a (.tup xs)∨
  ∃ (o:Obj) (its:Array Value) (n:Nat),K.lookup a=some o/\o.cls=.type "tuple" /\ o.data=.seq its n/\its.size<=sizeLine/\bc xs its.toList
noncomputable def KQ:Value->Option V
 | .none=>some .non
 | .bool b=>some (.bl b)
 | .int i _=>some (.int i)
 | .str x _=>some (.str x)
 | .bytes b _=>some (.byt b)
 | .float b _=>some (.flt b)
 | .ref a=>some (.ref a)
 | .type n=>some (.ty n)
 | _=>none
theorem bf.abs {x:V} {u:Value} (r:bf x u):KQ u=some x:=by
 cases x with
 | non=>cases r;rfl
 | bl _=>cases r;rfl
 | int _=>obtain ⟨t,rfl⟩:=r;rfl
 | str _=>obtain ⟨t,rfl⟩:=r;rfl
 | byt _=>obtain ⟨t,rfl⟩:=r;rfl
 | flt _=>obtain ⟨t,rfl⟩:=r;rfl
 | ref _=>cases r;rfl
 | ty _=>cases r;rfl
theorem bf.inj {x y:V} {u:Value} (r:bf x u) (q:bf y u):x=y:=Option.some.inj (r.abs.symm.trans q.abs)
theorem bc.inj {xs ys:List V} {us:List Value} (h:bc xs us) (h':bc ys us):xs=ys:=by
 induction h generalizing ys with
 | nil=>cases h';rfl
 | cons r _ ih=>
  cases h' with
  | cons r' t'=>rw [r.inj r',ih t']
section
variable {X:Cx} {pins:List (Addr×Obj)} {σ:St} {H:Hp} {s:Shared} {a:Addr} {xs ys:List V}
theorem cC.of {K:Frag} (h:H a=some (.lst xs)):cC K H a xs:=.inl (.inl h)
theorem eK.of {K:Frag} (h:H a=some (.tup xs)):eK K H a xs:=.inl (.inl h)
theorem aL.list (I:aL X pins σ H s) (h:cC X.K H a xs):∃ its:List Value,bc xs its/\PlainL s.heap a its.toArray/\xs.length<=sizeLine:=by
 rcases h with h | ⟨o,its,n,hk,hc,hd,hs,hz,r⟩
 . obtain ⟨z,its,n,r,e⟩:=h.ok I.hok
   exact ⟨its,r,⟨_,n,e,rfl,rfl,rfl⟩,z⟩
 . refine ⟨its.toList,r,⟨o,n,I.kIn a o hk,hc,hd,by simpa using hs⟩,?_⟩
   have e:=r.length
   simp only [Array.length_toList] at e
   omega
theorem aL.tuple (I:aL X pins σ H s) (h:eK X.K H a xs):∃ its:List Value,bc xs its/\IsTup s.heap a its.toArray/\xs.length<=sizeLine:=by
 rcases h with h | ⟨o,its,n,hk,hc,hs,hz,r⟩
 . obtain ⟨z,its,r,p⟩:=h.ok I.hok
   exact ⟨its,r,p,z⟩
 . refine ⟨its.toList,r,⟨o,I.kIn a o hk,hc,n,by simpa using hs⟩,?_⟩
   have e:=r.length
   simp only [Array.length_toList] at e
   omega
theorem aL.list_inj (I:aL X pins σ H s) (h:cC X.K H a xs) (h':cC X.K H a ys):xs=ys:=by
 obtain ⟨its,r,⟨o,n,e,_,_,d⟩,_⟩:=I.list h
 obtain ⟨its',r',⟨o',n',e',_,_,d'⟩,_⟩:=I.list h'
 rw [e] at e';cases e'
 rw [d] at d'
 injection d' with d1 _
 have:its=its':=by simpa using congrArg Array.toList d1
 subst this
 exact r.inj r'
theorem aL.tuple_inj (I:aL X pins σ H s) (h:eK X.K H a xs) (h':eK X.K H a ys):xs=ys:=by
 obtain ⟨its,r,⟨o,e,_,n,d⟩,_⟩:=I.tuple h
 obtain ⟨its',r',⟨o',e',_,n',d'⟩,_⟩:=I.tuple h'
 rw [e] at e';cases e'
 rw [d] at d'
 injection d' with d1 _
 have:its=its':=by simpa using congrArg Array.toList d1
 subst this
 exact r.inj r'
end
noncomputable abbrev Cx.wish (X:Cx) (E:Value->Shared->Prop):Cx:={ X with xe:=E }
noncomputable abbrev Cx.nox (X:Cx):Cx:=X.wish λ _ _=>False
theorem Cx.Ok.wish {X:Cx} (ok:X.Ok) (E:Value->Shared->Prop):(X.wish E).Ok:=
 ⟨ok.mod,ok.kind,ok.glob,ok.blt,ok.above,ok.inj,ok.has,ok.cab,ok.hd,ok.frames,ok.stk,ok.exf,ok.bs,ok.bsz,ok.noex,ok.exfs,ok.funs,ok.frf⟩
theorem Cx.Ok.unwish {X:Cx} {E:Value->Shared->Prop} (ok:(X.wish E).Ok):X.Ok:=
 ⟨ok.mod,ok.kind,ok.glob,ok.blt,ok.above,ok.inj,ok.has,ok.cab,ok.hd,ok.frames,ok.stk,ok.exf,ok.bs,ok.bsz,ok.noex,ok.exfs,ok.funs,ok.frf⟩
section
variable {X:Cx} {pins:List (Addr×Obj)} {σ:St} {H:Hp} {s:Shared} {E:Value->Shared->Prop}
theorem aL.wish (I:aL X pins σ H s) (E:Value->Shared->Prop):aL (X.wish E) pins σ H s:=⟨I.ok.wish E,I.os,I.bare,I.base,I.loc,I.cell,I.free,I.freeC,I.pin,I.hok,I.len⟩
theorem aL.unwish (I:aL (X.wish E) pins σ H s):aL X pins σ H s:=⟨I.ok.unwish,I.os,I.bare,I.base,I.loc,I.cell,I.free,I.freeC,I.pin,I.hok,I.len⟩
theorem SP.unwish {D:iq} {f:Flow} {s':Shared} (h:SP (X.wish E) pins D f s'):SP X pins D f s':=by
 cases f with
 | next=>obtain ⟨σ',H',I,q⟩:=h;exact ⟨σ',H',I.unwish,q⟩
 | brk=>obtain ⟨σ',H',I,q⟩:=h;exact ⟨σ',H',I.unwish,q⟩
 | cont=>obtain ⟨σ',H',I,q⟩:=h;exact ⟨σ',H',I.unwish,q⟩
 | ret u=>obtain ⟨v,σ',H',I,r,q⟩:=h;exact ⟨v,σ',H',I.unwish,r,q⟩
theorem sP.nox {st:List Stmt} {t:TS} (h:sP X.nox st t):sP X st t:=λ pins s σ H D I hw=>
 wpAny_mono (h pins s σ H D (I.wish _) hw) (λ _ _ q=>q.unwish) λ _ _ z=>False.elim z
end
section
variable {X:Cx} {st:Stmt} {aI:List Stmt} {t u:TS} {e:Expr} {te:TE} {pos:Pos}
noncomputable def DQ:TS:=λ D σ H=>D.nx σ H
noncomputable def E9 (t u:TS):TS:=λ D σ H=>t { D with nx:=u D } σ H
theorem JT:sP X [] DQ:=λ _ _ σ H _ I h=>wpAny_execs_nil ⟨σ,H,I,h⟩
theorem Jd (h1:PS X st t) (h2:sP X aI u):sP X (st::aI) (E9 t u):=by
 intro pins s σ H D I h
 refine wpAny_execs_cons (cm (h1 pins s σ H { D with nx:=u D } I h) λ f s1 q=>?_)
 cases f with
 | next=>
  obtain ⟨σ',H',I',q⟩:=q
  exact h2 pins s1 σ' H' D I' q
 | ret v=>exact q
 | brk=>exact q
 | cont=>exact q
theorem JR (h1:PS X st t):sP X [st] t:=by
 intro pins s σ H D I h
 refine wpAny_execs_cons (cm (h1 pins s σ H D I h) λ f s1 q=>?_)
 cases f with
 | next=>exact wpAny_execs_nil q
 | ret v=>exact q
 | brk=>exact q
 | cont=>exact q
noncomputable def Dx:TS:=λ D σ H=>D.ct σ H
theorem DJ:PS X (.Continue pos) Dx:=λ _ _ σ H _ I h=>wpAny_Continue ⟨σ,H,I,h⟩
theorem aL.quiet {pins:List (Addr×Obj)} {σ:St} {H:Hp} {s:Shared} (I:aL X pins σ H s):interactive X.env=false:=by simp [interactive,I.ok.kind]
noncomputable def rK (te:TE):TS:=λ D σ H=>te σ H λ _ H1=>D.nx σ H1
theorem J7 (he:PE X e te) (hs:swapsWith e none pos.line X.env=pure false):PS X (.Expr e pos) (rK te):=by
 intro pins s σ H D I h
 exact wpAny_Expr_any (cm (he pins s σ H _ I h) λ v s1 hy0=>by obtain ⟨x,H1,I1,r1,q1⟩:=hy0;exact ⟨σ,H1,I1,q1⟩) I.quiet hs
noncomputable def FJ (te:TE):TS:=λ D σ H=>te σ H D.rt
theorem KY (he:PE X e te):PS X (.Return (some e) pos) (FJ te):=by
 intro pins s σ H D I h
 exact wpAny_Return_some (cm (he pins s σ H _ I h) λ v s1 hy0=>by obtain ⟨x,H1,I1,r1,q1⟩:=hy0;exact ⟨x,σ,H1,I1,r1,q1⟩)
noncomputable def FP (c:TT) (t u:TS):TS:=λ D σ H=>c σ H λ b H1=>if b=true then t D σ H1 else u D σ H1
theorem LL {c:Expr} {a b:List Stmt} {tc:TT} (hc:PT X c tc) (ha:sP X a t) (hb:sP X b u):PS X (.If c a b pos) (FP tc t u):=by
 intro pins s σ H D I h
 refine wpAny_If (cm (hc pins s σ H _ I h) λ d s1 hq0=>?_)
 obtain ⟨H1,I1,q1⟩:=hq0
 cases d with
 | true=>exact ha pins s1 σ H1 D I1 q1
 | false=>exact hb pins s1 σ H1 D I1 q1
end
noncomputable abbrev TG:=V->St->Hp->(St->Hp->Prop)->Prop
noncomputable abbrev zf:=List V->St->Hp->(St->Hp->Prop)->Prop
noncomputable def PG (X:Cx) (target:Expr) (t:TG):Prop:=
 ∀ (pins:List (Addr×Obj)) (s:Shared) (σ:St) (H:Hp) (v:V) (u:Value) (Q:St->Hp->Prop),aL X pins σ H s->bf v u->t v σ H Q->
  wpAny (model X.prog X.w) X.A (assign target X.env u) (λ _ s'=>∃ σ' H',aL X pins σ' H' s'/\Q σ' H') X.xe s
noncomputable def GJ (X:Cx) (ts:List Expr) (t:zf):Prop:=
 ∀ (pins:List (Addr×Obj)) (s:Shared) (σ:St) (H:Hp) (vs:List V) (us:List Value) (Q:St->Hp->Prop),aL X pins σ H s->bc vs us->t vs σ H Q->
  wpAny (model X.prog X.w) X.A (assignInOrder ((assignEach ts X.env).map (·.2)) us) (λ _ s'=>∃ σ' H',aL X pins σ' H' s'/\Q σ' H') X.xe s
noncomputable abbrev FX:=V->V->V->Hp->(Hp->Prop)->Prop
noncomputable def GZ (X:Cx) (t:FX):Prop:=
 ∀ (pins:List (Addr×Obj)) (s:Shared) (σ:St) (H:Hp) (o i v:V) (ov iv u:Value) (Q:Hp->Prop),aL X pins σ H s->bf o ov->bf i iv->bf v u->t o i v H Q->
  wpAny (model X.prog X.w) X.A (setItem ov iv u) (λ _ s'=>∃ H',aL X pins σ H' s'/\Q H') X.xe s
section
variable {X:Cx} {pos:Pos}
noncomputable def lI (i:Nat):TG:=λ v σ H Q=>Q (σ.set i (some v)) H
theorem Ka {i:Nat} {x:Str} (hN:X.N.Nodup) (hi:X.N[i]?=some x) (hx:FV X.env.scope x) (hf:X.fn x=true∨X.env.scope.names.lookup x=some .local):PG X (.Name x pos) (lI i):=by
 intro pins s σ H v u Q I r h
 exact wpAny_assign_Name (rf I hN hi hx r (λ s' I'=>⟨_,H,I',h⟩) hf)
noncomputable def Io:zf:=λ vs σ H Q=>vs=[]/\Q σ H
noncomputable def DU (t:TG) (u:zf):zf:=λ vs σ H Q=>∃ v r,vs=v::r/\t v σ H λ σ' H'=>u r σ' H' Q
theorem JY:GJ X [] Io:=by
 intro pins s σ H vs us Q I r h
 obtain ⟨e,h⟩:=h
 subst e
 cases r
 exact assignInOrder_nil ⟨σ,H,I,h⟩
theorem IW {e:Expr} {es:List Expr} {t:TG} {u:zf} (h1:PG X e t) (h2:GJ X es u)
 (hs:(assignEach (e::es) X.env).map (·.2)=assign e X.env::(assignEach es X.env).map (·.2)):GJ X (e::es) (DU t u):=by
 intro pins s σ H vs us Q I r h
 obtain ⟨v,vr,e1,h⟩:=h
 subst e1
 cases r with
 | cons r rr=>
  rw [hs]
  refine assignInOrder_cons (cm (h1 pins s σ H _ _ _ I r h) λ _ s1 hq0=>?_)
  obtain ⟨σ1,H1,I1,q1⟩:=hq0
  exact h2 pins s1 σ1 H1 _ _ Q I1 rr q1
noncomputable def E7 (K:Frag) (n:Nat) (t:zf):TG:=λ v σ H Q=>∃ a xs,v=.ref a/\eK K H a xs/\xs.length=n/\t xs σ H Q
theorem EF {es:List Expr} {k:Nat} {t:zf} {n:Nat} (hc:X.calm=true) (h:GJ X es t)
 (hn:(assignEach es X.env).length=n:=by rfl) (hst:(assignEach es X.env).findIdx? (·.1)=none:=by rfl):PG X (.Tuple es k pos) (E7 X.K n t):=by
 intro pins s σ H v u Q I r hw
 obtain ⟨a,xs,e1,hq,hl,hw⟩:=hw
 subst e1
 cases r
 obtain ⟨its,rv,ht,hz⟩:=I.tuple hq
 refine assign_Tuple_tuple (I.ok.hd hc) ht (by simp [hn,<-hl,rv.length]) hst λ h' hx=>?_
 have I1:aL X pins σ H { s with heap:=h' }:=I.kept (t':=s.toks) λ b o e=>hx b o (Nat.ne_of_lt (Heap.lt_size e)) e
 exact h pins _ σ H xs _ Q I1 (by simpa using rv) hw
noncomputable def AT (to ti:TE) (t:FX):TG:=λ v σ H Q=>to σ H λ o H1=>ti σ H1 λ i H2=>t o i v H2 λ H3=>Q σ H3
theorem Fb {o i:Expr} {to ti:TE} {t:FX} (ho:PE X o to) (hi:PE X i ti) (hs:GZ X t)
 (ha:∀ v,assign (.Subscript o i pos) X.env v=(do
  let ov <-holding [v] (eval o X.env)
  let iv <-holding [v,ov] (eval i X.env)
  standAt pos
  holding [v,ov,iv] (setItem ov iv v)
  release [v,ov,iv] []):=by intro _;rfl):PG X (.Subscript o i pos) (AT to ti t):=by
 intro pins s σ H v u Q I r h
 rw [ha]
 refine wpAny_bind (wpAny_holding (cm (ho pins s σ H _ I h) λ ov s1 hq0=>?_))
 obtain ⟨x,H1,I1,r1,q1⟩:=hq0
 refine wpAny_bind (wpAny_holding (cm (hi pins s1 σ H1 _ I1 q1) λ iv s2 hq0=>?_))
 obtain ⟨y,H2,I2,r2,q2⟩:=hq0
 refine wpAny_bind (wpAny_standAt (wpAny_bind (wpAny_holding (cm (hs pins s2 σ H2 x y v ov iv u _ I2 r1 r2 r q2) λ _ s3 hq0=>?_))))
 obtain ⟨H3,I3,q3⟩:=hq0
 exact wpAny_release ⟨σ,H3,I3,q3⟩
noncomputable def o0 (te:TE) (g:TG):TS:=λ D σ H=>te σ H λ x H1=>g x σ H1 D.nx
theorem Fw {tg e:Expr} {te:TE} {g:TG} (he:PE X e te) (hg:PG X tg g) (hs:swapsWithSole [tg] e pos.line X.env=pure false:=by rfl) (hw:swappedStores [tg] e X.env=pure none:=by rfl)
 (h1:(assignEach [tg] X.env).map (·.2)=[assign tg X.env]:=by rfl):PS X (.Assign [tg] e pos) (o0 te g):=by
 intro pins s σ H D I h
 refine wpAny_Assign_stores (cm (he pins s σ H _ I h) λ v s1 hq0=>?_) hs hw
 obtain ⟨x,H1,I1,r1,q1⟩:=hq0
 rw [h1]
 exact cm (hg pins s1 σ H1 x v _ I1 r1 q1) λ _ s2 q=>q
theorem La {i:Nat} {x:Str} {e:Expr} {te:TE} {pos':Pos} (hN:X.N.Nodup) (hi:X.N[i]?=some x) (hx:FV X.env.scope x) (he:PE X e te) (hs:swapsWith e (some (.Name x pos')) pos.line X.env=pure false) (hf:X.fn x=true∨X.env.scope.names.lookup x=some .local):
 PS X (.Assign [.Name x pos'] e pos) (o0 te (lI i)):=by
 intro pins s σ H D I h
 refine wpAny_Assign_Name (cm (he pins s σ H _ I h) λ v s1 hq0=>?_) hs
 obtain ⟨y,H1,I1,r1,q1⟩:=hq0
 exact rf I1 hN hi hx r1 (λ s2 I2=>⟨_,H1,I2,q1⟩) hf
end
section
variable {X:Cx} {pos:Pos}
noncomputable def yI (c:TT) (tb:TS):TS:=λ D σ H=>∃ W:Nat->St->Hp->Prop,(∃ m,W m σ H)/\∀ m σ H,W m σ H->
 c σ H λ b H1=>if b=true then ∃ N:St->Hp->Prop,(∀ σ' H',N σ' H'->∃ m',m'<m/\W m' σ' H')/\tb { D with nx:=N,ct:=N,bk:=D.nx } σ H1 else D.nx σ H1
theorem Hr {c:Expr} {body:List Stmt} {tc:TT} {tb:TS} (hp:PassesOwn (model X.prog X.w) X.A X.env X.xe) (hc:PT X c tc) (hb:sP X body tb):PS X (.While c body [] pos) (yI tc tb):=by
 intro pins s σ H D I h
 obtain ⟨W,⟨m0,w0⟩,turn⟩:=h
 refine wpAny_While (codeAny_whileLoop (λ n s'=>∃ σ' H',aL X pins σ' H' s'/\W n σ' H') ?_ m0 ⟨σ,H,I,w0⟩)
 rintro n s1 ⟨σ1,H1,I1,w1⟩
 refine wpAny_passesOwn hp (cm (hc pins s1 σ1 H1 _ I1 (turn n σ1 H1 w1)) λ b s2 hq0=>?_)
 obtain ⟨H2,I2,q2⟩:=hq0
 cases b with
 | true=>
  obtain ⟨N,hN,q2⟩:=q2
  rw [if_pos rfl]
  refine wpAny_passesOwn hp (cm (hb pins s2 σ1 H2 _ I2 q2) λ f s3 q3=>?_)
  cases f with
  | next=>
   obtain ⟨σ3,H3,I3,n3⟩:=q3
   obtain ⟨m',hm,w3⟩:=hN σ3 H3 n3
   exact ⟨m',hm,σ3,H3,I3,w3⟩
  | cont=>
   obtain ⟨σ3,H3,I3,n3⟩:=q3
   obtain ⟨m',hm,w3⟩:=hN σ3 H3 n3
   exact ⟨m',hm,σ3,H3,I3,w3⟩
  | brk=>exact q3
  | ret v=>exact q3
 | false=>
  rw [if_neg Bool.false_ne_true]
  exact wpAny_execs_nil ⟨σ1,H2,I2,q2⟩
end
structure It where
 go:Nat->Hp->Prop
 yld:Nat->Hp->V->Hp->Prop
 stop:Nat->Hp->Prop
noncomputable def j6 (X:Cx) (pins:List (Addr×Obj)) (H:Hp) (b:Addr):Prop:=
 H b=none/\b≠X.env.locals/\b∉X.fs/\(b∈X.ex∨X.s₀.heap.objs.size<=b)/\(∀ x c,X.env.cells.lookup x=some c->c≠b)/\∀ p∈X.pn++pins,p.1≠b
theorem aL.fpOk {X:Cx} {pins:List (Addr×Obj)} {σ:St} {H H':Hp} {s:Shared} {b:Addr} (I:aL X pins σ H s) (hb:s.heap.objs.size<=b) (hn:H' b=none):j6 X pins H' b:=by
 refine ⟨hn,Nat.ne_of_gt (Nat.lt_of_lt_of_le I.lt hb),I.nofs hb,.inr (Nat.le_trans I.sz hb),λ x c e z=>?_,λ p hp z=>?_⟩
 . obtain ⟨v,q⟩:=I.cell x c e
   exact absurd (Nat.lt_of_lt_of_le q.lt (by rw [z];exact hb)) (Nat.lt_irrefl _)
 . exact absurd (Nat.lt_of_lt_of_le (Heap.lt_size (I.pin p hp).1) (by rw [z];exact hb)) (Nat.lt_irrefl _)
structure xz (P:Program) (w:World) (K:Frag) (tg:Expr) (J:It) (fp:List Addr) (it:Addr) (tn:Nat->Heap->Prop):Prop where
 mem:it∈fp
 obj:∀ i h,tn i h->∀ b∈fp,∃ o,h.get? b=some o/\∀ v,o.data≠.cell v
 keep:∀ i h h',tn i h->(∀ b∈fp,∀ o,h.get? b=some o->h'.get? b=some o)->tn i h'
 item:∀ (X:Cx),X.prog=P->X.w=w->X.K=K->X.calm=true->∀ (i:Nat) (pins:List (Addr×Obj)) (s:Shared) (σ:St) (H:Hp) (E:Value->Shared->Prop),aL X pins σ H s->(∀ b∈fp,j6 X pins H b)->tn i s.heap->J.go i H->
  wpAny (model P w) X.A (pyNext (.ref it)) (λ r s1=>∃ u,r=some u/\
   wpAny (model P w) X.A (letOwnedTupleGo tg (.ref it) u) (λ _ s2=>∃ x H',aL X pins σ H' s2/\bf x u/\J.yld i H x H'/\tn (i+1) s2.heap/\∀ b∈fp,H' b=none) E s1) E s
 done:∀ (X:Cx),X.prog=P->X.w=w->X.K=K->X.calm=true->∀ (i:Nat) (pins:List (Addr×Obj)) (s:Shared) (σ:St) (H:Hp) (E:Value->Shared->Prop),aL X pins σ H s->(∀ b∈fp,j6 X pins H b)->tn i s.heap->J.stop i H->
  wpAny (model P w) X.A (pyNext (.ref it)) (λ r s1=>r=none/\aL X pins σ H s1) E s
 self:∀ (A:Around) (i:Nat) (s:Shared) (Q:Value->Shared->Prop) (E:Value->Shared->Prop),tn i s.heap->Q (.ref it) s->wpAny (model P w) A (pyIter (.ref it)) Q E s
noncomputable abbrev TI:=St->Hp->(It->Hp->Prop)->Prop
noncomputable def Ls (X:Cx) (pins:List (Addr×Obj)) (σ:St) (tg:Expr) (R:It->Hp->Prop) (itv:Value) (s2:Shared):Prop:=
 ∃ (it:Addr) (fp:List Addr) (tn:Nat->Heap->Prop) (J:It) (H':Hp),itv=.ref it/\aL X pins σ H' s2/\xz X.prog X.w X.K tg J fp it tn/\tn 0 s2.heap/\(∀ b∈fp,j6 X pins H' b)/\R J H'
noncomputable def PI (X:Cx) (tg iter:Expr) (wi:TI):Prop:=
 ∀ (pins:List (Addr×Obj)) (s:Shared) (σ:St) (H:Hp) (R:It->Hp->Prop),aL X pins σ H s->wi σ H R->
  wpAny (model X.prog X.w) X.A (eval iter X.env) (λ v s1=>wpAny (model X.prog X.w) X.A (pyIter v) (Ls X pins σ tg R) X.xe s1) X.xe s
theorem ya {M:Model} {A:Around} {E:Value->Shared->Prop} {s:Shared} {tg:Expr} {it:Addr} {u:Value} {o:Obj} {n:String} {vs:Array Value} {Q:Unit->Shared->Prop} (ho:s.heap.get? it=some o) (hc:o.cls=.type n) (hd:o.data=.fields vs)
 (hn:["enumerate", "zip", "dict_itemiterator", "dict_reverseitemiterator", "odict_iterator", "itertools.zip_longest", "itertools.pairwise"].contains n=false) (hQ:Q () s):wpAny M A (letOwnedTupleGo tg (.ref it) u) Q E s:=by
 unfold letOwnedTupleGo
 cases tg <;> first
  | exact wpAny_pure hQ
  | (cases u <;> first
   | exact wpAny_pure hQ
   | (refine wpAny_bind (wpAny_load ho ?_)
      rw [hc,hd]
      show wpAny M A (if (["enumerate", "zip", "dict_itemiterator", "dict_reverseitemiterator", "odict_iterator", "itertools.zip_longest", "itertools.pairwise"].contains n&&vs[0]?==some (rawInt _))=true then _ else _) Q E s
      rw [if_neg (by intro h;rw [hn,Bool.false_and] at h;cases h)]
      exact wpAny_pure hQ))
noncomputable def Ko (K:Frag) (a:Addr):It:=
 ⟨λ i H=>∃ xs x,cC K H a xs/\xs[i]?=some x,λ i H x H'=>H'=H/\∀ xs,cC K H a xs->xs[i]?=some x,λ i H=>∃ xs,cC K H a xs/\xs.length<=i⟩
noncomputable def K3 (K:Frag) (a:Addr):It:=
 ⟨λ i H=>∃ xs x,eK K H a xs/\xs[i]?=some x,λ i H x H'=>H'=H/\∀ xs,eK K H a xs->xs[i]?=some x,λ i H=>∃ xs,eK K H a xs/\xs.length<=i⟩
noncomputable def JV (lo:Int) (n:Nat):It:=⟨λ i _=>i<n,λ i H x H'=>H'=H/\x=.int (lo+i),λ i _=>n<=i⟩
theorem xr {P:Program} {w:World} {K:Frag} {tg:Expr} (a it:Addr):xz P w K tg (Ko K a) [it] it (λ i h=>h.IsListIter it a i) where
 mem:=by simp
 obj:=λ i h st b hb=>by
  have e:b=it:=by simpa using hb
  subst e
  obtain ⟨o,e,c,d⟩:=st
  exact ⟨o,e,λ v z=>by rw [d] at z;cases z⟩
 keep:=λ i h h' st k=>st.at λ o e=>k it (by simp) o e
 item:=by
  intro X hP hw hK hc i pins s σ H E I hf st hg
  subst hP hw hK
  obtain ⟨xs,x,hq,hx⟩:=hg
  obtain ⟨its,rv,p,hz⟩:=I.list hq
  obtain ⟨u,hu,ru⟩:=rv.get hx
  obtain ⟨f0,f1,f2,f3,f4,f5⟩:=hf it (by simp)
  refine wpAny_pyNext_list_item st p.isList (x:=u) (by simpa using hu) λ h' st' sb=>?_
  have I1:aL X pins σ H { s with heap:=h' }:=I.turned (t':=s.toks) (λ b o hb e=>(sb.2 b hb).trans e) f0 f1 f3 f4 f5
  obtain ⟨o,e,c,d⟩:=id st'
  exact ⟨u,rfl,ya (s:={ s with heap:=h' }) e c d (by decide) ⟨x,H,I1,ru,⟨rfl,λ ys hy=>by rw [I.list_inj hy hq];exact hx⟩,st',λ b hb=>(hf b hb).1⟩⟩
 done:=by
  intro X hP hw hK hc i pins s σ H E I hf st hg
  subst hP hw hK
  obtain ⟨xs,hq,hx⟩:=hg
  obtain ⟨its,rv,p,hz⟩:=I.list hq
  obtain ⟨f0,f1,f2,f3,f4,f5⟩:=hf it (by simp)
  have hl:=rv.length
  exact wpAny_pyNext_list_end (I.ok.hd hc) st p.isList (by simp;omega) λ h' eb=>⟨rfl,I.turned (t':=s.toks) (λ b o hb e=>eb b o hb e) f0 f1 f3 f4 f5⟩
 self:=λ _ _ _ _ _ st h=>wpAny_pyIter_listiter st h
theorem tG {P:Program} {w:World} {K:Frag} {tg:Expr} (a it:Addr):xz P w K tg (K3 K a) [it] it (λ i h=>h.IsTupleIter it a i) where
 mem:=by simp
 obj:=λ i h st b hb=>by
  have e:b=it:=by simpa using hb
  subst e
  obtain ⟨o,e,c,d⟩:=st
  exact ⟨o,e,λ v z=>by rw [d] at z;cases z⟩
 keep:=λ i h h' st k=>st.at λ o e=>k it (by simp) o e
 item:=by
  intro X hP hw hK hc i pins s σ H E I hf st hg
  subst hP hw hK
  obtain ⟨xs,x,hq,hx⟩:=hg
  obtain ⟨its,rv,p,hz⟩:=I.tuple hq
  obtain ⟨u,hu,ru⟩:=rv.get hx
  obtain ⟨f0,f1,f2,f3,f4,f5⟩:=hf it (by simp)
  refine wpAny_pyNext_tuple_item st (show s.heap.IsTuple a its.toArray from p) (x:=u) (by simpa using hu) λ h' st' sb=>?_
  have I1:aL X pins σ H { s with heap:=h' }:=I.turned (t':=s.toks) (λ b o hb e=>(sb.2 b hb).trans e) f0 f1 f3 f4 f5
  obtain ⟨o,e,c,d⟩:=id st'
  exact ⟨u,rfl,ya (s:={ s with heap:=h' }) e c d (by decide) ⟨x,H,I1,ru,⟨rfl,λ ys hy=>by rw [I.tuple_inj hy hq];exact hx⟩,st',λ b hb=>(hf b hb).1⟩⟩
 done:=by
  intro X hP hw hK hc i pins s σ H E I hf st hg
  subst hP hw hK
  obtain ⟨xs,hq,hx⟩:=hg
  obtain ⟨its,rv,p,hz⟩:=I.tuple hq
  obtain ⟨f0,f1,f2,f3,f4,f5⟩:=hf it (by simp)
  have hl:=rv.length
  exact wpAny_pyNext_tuple_end (I.ok.hd hc) st (show s.heap.IsTuple a its.toArray from p) (by simp;omega) λ h' eb=>⟨rfl,I.turned (t':=s.toks) (λ b o hb e=>eb b o hb e) f0 f1 f3 f4 f5⟩
 self:=λ _ _ _ _ _ st h=>wpAny_pyIter_tupleiter st h
theorem uN {P:Program} {w:World} {K:Frag} {tg:Expr} (it:Addr) (lo:Int) (n:Nat):xz P w K tg (JV lo n) [it] it (λ i h=>IsRangeIter h it (lo+(i:Nat)*1) ((n:Int)-(i:Nat)) 1) where
 mem:=by simp
 obj:=λ i h st b hb=>by
  have e:b=it:=by simpa using hb
  subst e
  exact ⟨_,st,λ v z=>by
   have z':Data.fields _=Data.cell v:=z
   cases z'⟩
 keep:=λ i h h' st k=>k it (by simp) _ st
 item:=by
  intro X hP hw hK hc i pins s σ H E I hf st hg
  subst hP hw hK
  obtain ⟨f0,f1,f2,f3,f4,f5⟩:=hf it (by simp)
  have W:=Walks.range (prog:=X.prog) (w:=X.w) (I.ok.hd hc) it lo 1 n
  refine W.item i s _ _ hg st λ v h' tk hv st' kk=>?_
  obtain ⟨t,rfl⟩:=hv
  have I1:aL X pins σ H { s with heap:=h',toks:=tk }:=I.turned (λ b o hb e=>kk b o (by simpa using hb) e) f0 f1 f3 f4 f5
  refine ⟨_,rfl,ya (s:={ s with heap:=h',toks:=tk }) (n := "range_iterator") st' rfl rfl (by decide) ⟨.int (lo+i),H,I1,⟨t,?_⟩,⟨rfl,rfl⟩,st',λ b hb=>(hf b hb).1⟩⟩
  rw [Int.mul_one]
 done:=by
  intro X hP hw hK hc i pins s σ H E I hf st hg
  subst hP hw hK
  obtain ⟨f0,f1,f2,f3,f4,f5⟩:=hf it (by simp)
  exact wpAny_pyNext_range_end (I.ok.hd hc) st (by have:n<=i:=hg;omega) λ h' eb=>⟨rfl,I.turned (t':=s.toks) (λ b o hb e=>eb b o hb e) f0 f1 f3 f4 f5⟩
 self:=λ _ _ _ _ _ st h=>wpAny_pyIter_rangeiter st h
end L2
namespace L2
open PySem PySem.Spec PyProof.Rows
open PySem.W (Frag)
section
variable {X:Cx} {tg:Expr}
theorem yX {pins:List (Addr×Obj)} {σ:St} {H:Hp} {s:Shared} {R:It->Hp->Prop} {E:Value->Shared->Prop} {lo hi:Int} {t u v:Tok} {tk:Nat} (I:aL X pins σ H s) (h1 : -(2^62)<=lo) (h2:lo<2^62) (h3 : -(2^62)<=hi) (h4:hi<2^62)
 (q:R (JV lo (hi-lo).toNat) H):wpAny (model X.prog X.w) X.A (pyIter (.ref s.heap.objs.size)) (Ls X pins σ tg R) E { s with heap:=s.heap.push { cls:=.type "range", data:=.fields #[.int lo t,.int hi u,.int 1 v] },toks:=tk }:=by
 refine wpAny_pyIter_range (IsRange.new ..) (small_one h1 h2 h3 h4) ?_
 have I1:aL X pins σ H { s with heap:=s.heap.push { cls:=.type "range", data:=.fields #[.int lo t,.int hi u,.int 1 v] },toks:=tk }:=I.kept λ b o e=>Heap.get?_push_of_some _ e
 refine ⟨(s.heap.push { cls:=.type "range", data:=.fields #[.int lo t,.int hi u,.int 1 v] }).objs.size,[(s.heap.push { cls:=.type "range", data:=.fields #[.int lo t,.int hi u,.int 1 v] }).objs.size],_,_,H,rfl,
  I1.kept (t':=tk) λ b o e=>Heap.get?_push_of_some _ e,uN _ lo (hi-lo).toNat,?_,λ b hb=>?_,q⟩
 . have e1:lo+((0:Nat):Int)*1=lo:=by simp
   have e2:(((hi-lo).toNat:Nat):Int)-((0:Nat):Int)=Builtin.Range.rangeSize lo hi 1:=by rw [rangeSize_one];split <;> omega
   show IsRangeIter _ _ (lo+((0:Nat):Int)*1) ((((hi-lo).toNat:Nat):Int)-((0:Nat):Int)) 1
   rw [e1,e2]
   exact Heap.get?_push_size _ rfl
 . have e:b=(s.heap.push { cls:=.type "range", data:=.fields #[.int lo t,.int hi u,.int 1 v] }).objs.size:=by simpa using hb
   subst e
   exact I1.fpOk (Nat.le_refl _) (I1.hok.fresh (Nat.le_refl _))
noncomputable def D5 (ta:TA):TI:=λ σ H R=>ta σ H λ vs H1=>∃ j:Int,vs=[.int j] /\ -(2^62)<=j/\j<2^62/\R (JV 0 j.toNat) H1
theorem GB {a:Expr} {ta:TA} {p pos:Pos} (hg:Gl X "range") (hm:X.mg "range" = none) (ha:PA X [a] ta) (hs:starEach [a] X.env=[(false,eval a X.env)]):PI X tg (.Call (.Name "range" p) [a] [] pos) (D5 ta):=by
 intro pins s σ H R I h
 refine Call_ (kZ I hg hm boot_range (PyProof.Rows.callWith_type1 (cm (ha pos pins s σ H _ I h) λ us s1 hq0=>?_) hs rfl))
 obtain ⟨vs,H1,I1,r1,q1⟩:=hq0
 obtain ⟨j,e,q1,q2,q⟩:=q1
 subst e
 cases r1 with
 | cons r rr=>
  cases rr
  obtain ⟨t,rfl⟩:=r
  exact call_range_1 (yX I1 (by omega) (by omega) q1 q2 (by simpa using q))
noncomputable def AN (wi:TI) (g:TG) (tb:TS):TS:=λ D σ H=>wi σ H λ J H1=>∃ W:Nat->Nat->St->Hp->Prop,(∃ m,W 0 m σ H1)/\∀ i m σ H,W i m σ H->
 (J.stop i H/\D.nx σ H)∨(J.go i H/\∃ N:St->Hp->Prop,(∀ σ' H',N σ' H'->∃ m',m'<m/\W (i+1) m' σ' H')/\∀ x H',J.yld i H x H'->g x σ H' λ σ2 H2=>tb { D with nx:=N,ct:=N,bk:=D.nx } σ2 H2)
noncomputable def kK (fp:List Addr) (h:Heap):List (Addr×Obj):=fp.filterMap λ b=>(h.get? b).map λ o=>(b,o)
theorem gM {fp:List Addr} {h:Heap} {b:Addr} {o:Obj} (hb:b∈fp) (e:h.get? b=some o):(b,o)∈kK fp h:=List.mem_filterMap.mpr ⟨b,hb,by rw [e];rfl⟩
theorem x6 {fp:List Addr} {h:Heap} {p:Addr×Obj} (hp:p∈kK fp h):p.1∈fp/\h.get? p.1=some p.2:=by
 obtain ⟨b,hb,e⟩:=List.mem_filterMap.mp hp
 cases q:h.get? b with
 | none=>rw [q] at e;cases e
 | some o=>
  rw [q] at e
  have e':(b,o)=p:=Option.some.inj e
  subst e'
  exact ⟨hb,q⟩
theorem aL.pinned {pins:List (Addr×Obj)} {σ:St} {H:Hp} {s:Shared} {fp:List Addr} (I:aL X pins σ H s) (hf:∀ b∈fp,j6 X pins H b) (ho:∀ b∈fp,∃ o,s.heap.get? b=some o/\∀ v,o.data≠.cell v):aL X (pins++kK fp s.heap) σ H s:=
 I.pins_of λ p hp=>(List.mem_append.mp hp).elim (λ z=>I.pin p (List.mem_append_right _ z)) λ z=>by
  obtain ⟨hb,e⟩:=x6 z
  obtain ⟨f0,f1,f2,_⟩:=hf p.1 hb
  obtain ⟨o,e',d⟩:=ho p.1 hb
  rw [e] at e';cases e'
  exact ⟨e,f0,f1,f2,d⟩
theorem aL.unpinned {pins pl:List (Addr×Obj)} {σ:St} {H:Hp} {s:Shared} (I:aL X (pins++pl) σ H s):aL X pins σ H s:=I.pins_of λ p hp=>I.pin p (List.mem_append_right _ (List.mem_append_left _ hp))
theorem K4 {iter:Expr} {body:List Stmt} {wi:TI} {g:TG} {tb:TS} {pos:Pos} (hp:PassesOwn (model X.prog X.w) X.A X.env X.xe) (hc:X.calm=true) (hi:PI X tg iter wi) (hg:PG X tg g) (hb:sP X body tb)
 (hs:∀ x,foldedSetIterable iter X.env x=pure x):PS X (.For tg iter body [] pos) (AN wi g tb):=by
 intro pins s σ H D I h
 refine wpAny_For (cm (hi pins s σ H _ I h) λ v s1 h1=>cm h1 λ itv s2 h2=>?_) hs
 obtain ⟨it,fp,tn,J,H2,e,I2,T,st2,f2,W,⟨m0,w0⟩,turn⟩:=h2
 subst e
 have stat:∀ {H':Hp},(∀ b∈fp,H' b=none)->∀ b∈fp,j6 X pins H' b:=λ hn b hb=>⟨hn b hb,(f2 b hb).2⟩
 refine codeAny_forLoop_any (λ n s'=>∃ i σ' H',aL X pins σ' H' s'/\tn i s'.heap/\(∀ b∈fp,H' b=none)/\W i n σ' H') ?_ m0 ⟨0,σ,H2,I2,st2,λ b hb=>(f2 b hb).1,w0⟩
 rintro n s3 ⟨i,σ3,H3,I3,st3,fr3,w3⟩
 rcases turn i n σ3 H3 w3 with ⟨stop,qn⟩ | ⟨go,N,hN,step⟩
 . refine wpAny_passesOwn hp (cm (T.done X rfl rfl rfl hc i pins s3 σ3 H3 X.xe I3 (stat fr3) st3 stop) λ r s4 ⟨hr,I4⟩=>?_)
   subst hr
   exact wpAny_execs_nil ⟨σ3,H3,I4,qn⟩
 . refine wpAny_passesOwn hp (cm (T.item X rfl rfl rfl hc i pins s3 σ3 H3 X.xe I3 (stat fr3) st3 go) λ r s4 ⟨u,hr,h4⟩=>?_)
   subst hr
   refine wpAny_passesOwn hp (cm h4 λ _ s5 hq0=>?_)
   obtain ⟨x,H5,I5,r5,y5,st5,fr5⟩:=hq0
   have I5':=I5.pinned (stat fr5) (T.obj _ _ st5)
   refine wpAny_passesOwn hp (cm (hg _ s5 σ3 H5 x u _ I5' r5 (step x H5 y5)) λ _ s6 hq0=>?_)
   obtain ⟨σ6,H6,I6,q6⟩:=hq0
   refine wpAny_passesOwn hp (cm (hb _ s6 σ6 H6 _ I6 q6) λ f s7 q7=>?_)
   have again:∀ {σ7:St} {H7:Hp},aL X (pins++kK fp s5.heap) σ7 H7 s7->N σ7 H7->∃ m,m<n/\∃ i σ' H',aL X pins σ' H' s7/\tn i s7.heap/\(∀ b∈fp,H' b=none)/\W i m σ' H':=λ {σ7 H7} I7 n7=>by
    obtain ⟨m',hm,w7⟩:=hN σ7 H7 n7
    refine ⟨m',hm,i+1,σ7,H7,I7.unpinned,T.keep _ _ _ st5 λ b hb o e=>(I7.pin (b,o) (List.mem_append_right _ (List.mem_append_right _ (gM hb e)))).1,λ b hb=>?_,w7⟩
    obtain ⟨o,e,d⟩:=T.obj _ _ st5 b hb
    exact (I7.pin (b,o) (List.mem_append_right _ (List.mem_append_right _ (gM hb e)))).2.1
   cases f with
   | next=>obtain ⟨σ7,H7,I7,n7⟩:=q7;exact again I7 n7
   | cont=>obtain ⟨σ7,H7,I7,n7⟩:=q7;exact again I7 n7
   | brk=>obtain ⟨σ7,H7,I7,q7⟩:=q7;exact ⟨σ7,H7,I7.unpinned,q7⟩
   | ret v=>obtain ⟨x7,σ7,H7,I7,r7,q7⟩:=q7;exact ⟨x7,σ7,H7,I7.unpinned,r7,q7⟩
end
end L2
namespace L2
open PySem PySem.Spec PyProof.Rows
open PySem.W (Frag)
noncomputable abbrev R2:=V->V->Hp->VK->Prop
noncomputable def fJ (X:Cx) (f:Value->Value->Sem Value) (r:R2):Prop:=
 ∀ (pins:List (Addr×Obj)) (s:Shared) (σ:St) (H:Hp) (x y:V) (v u:Value) (Q:VK),aL X pins σ H s->bf x v->bf y u->r x y H Q->
  wpAny (model X.prog X.w) X.A (f v u) (EP X pins σ Q) X.xe s
noncomputable def JJ (X:Cx) (f:Value->Sem Value) (r:V->Hp->VK->Prop):Prop:=
 ∀ (pins:List (Addr×Obj)) (s:Shared) (σ:St) (H:Hp) (x:V) (v:Value) (Q:VK),aL X pins σ H s->bf x v->r x H Q->
  wpAny (model X.prog X.w) X.A (f v) (EP X pins σ Q) X.xe s
noncomputable def eI (X:Cx) (f:Value) (r:List V->Hp->VK->Prop):Prop:=
 ∀ (pins:List (Addr×Obj)) (s:Shared) (σ:St) (H:Hp) (xs:List V) (us:List Value) (Q:VK),aL X pins σ H s->bc xs us->r xs H Q->
  wpAny (model X.prog X.w) X.A (call f us) (EP X pins σ Q) X.xe s
noncomputable def Kx (X:Cx) (r:V->Hp->(Bool->Hp->Prop)->Prop):Prop:=
 ∀ (pins:List (Addr×Obj)) (s:Shared) (σ:St) (H:Hp) (x:V) (v:Value) (Q:Bool->Hp->Prop),aL X pins σ H s->bf x v->r x H Q->
  wpAny (model X.prog X.w) X.A (truthy v) (TP X pins σ Q) X.xe s
noncomputable def qR (r:R2) (ta tb:TE):TE:=λ σ H Q=>ta σ H λ x H1=>tb σ H1 λ y H2=>r x y H2 Q
noncomputable def LF (r:V->Hp->VK->Prop) (ta:TE):TE:=λ σ H Q=>ta σ H λ x H1=>r x H1 Q
noncomputable def rI (C:Int->Int->Prop) (g:Int->Int->V):R2:=λ x y H Q=>∃ i j,x=.int i/\y=.int j/\C i j/\Q (g i j) H
noncomputable def xN (g:Int->Int->V):R2:=λ x y H Q=>∃ i j,x=.int i/\y=.int j/\Q (g i j) H
noncomputable def rU (g:Int->V):V->Hp->VK->Prop:=λ x H Q=>∃ i,x=.int i/\Q (g i) H
section
variable {X:Cx} {a b c:Expr} {ta tb tc:TE} {pos:Pos}
theorem EA (ha:PE X a ta) (hb:PE X b tb) {pins:List (Addr×Obj)} {s:Shared} {σ:St} {H:Hp} {R:V->V->Hp->Prop} (I:aL X pins σ H s)
 (h:ta σ H λ x H1=>tb σ H1 λ y H2=>R x y H2) {Q:Value->Shared->Prop} {f:Value->Value->Sem Value}
 (hf:∀ v u s2 x y H2,aL X pins σ H2 s2->bf x v->bf y u->R x y H2->wpAny (model X.prog X.w) X.A (f v u) Q X.xe s2):
 wpAny (model X.prog X.w) X.A (eval a X.env) (λ v s₁=>wpAny (model X.prog X.w) X.A (eval b X.env) (λ u s₂=>wpAny (model X.prog X.w) X.A (f v u) Q X.xe s₂) X.xe s₁) X.xe s:=by
 refine cm (ha pins s σ H _ I h) λ v s1 hq0=>?_
 obtain ⟨x,H1,I1,r1,q1⟩:=hq0
 refine cm (hb pins s1 σ H1 _ I1 q1) λ u s2 hq0=>?_
 obtain ⟨y,H2,I2,r2,q2⟩:=hq0
 exact hf v u s2 x y H2 I2 r1 r2 q2
theorem LM {op:Operator} {r:R2} (ho:fJ X (binaryOp op) r) (ha:PE X a ta) (hb:PE X b tb):PE X (.BinOp a op b pos) (qR r ta tb):=by
 intro pins s σ H Q I h
 exact wpAny_BinOp (EA ha hb I h λ v u s2 x y H2 I2 rx ry q=>ho pins s2 σ H2 x y v u Q I2 rx ry q)
theorem LG {op:UnaryOp} {r:V->Hp->VK->Prop} (ho:JJ X (unaryOp op) r) (ha:PE X a ta):PE X (.UnaryOp op a pos) (LF r ta):=by
 intro pins s σ H Q I h
 exact UnaryOp_ (cm (ha pins s σ H _ I h) λ v s1 hy0=>by obtain ⟨x,H1,I1,r1,q1⟩:=hy0;exact ho pins s1 σ H1 x v Q I1 r1 q1)
theorem Ig {f:Value->Value->Sem Value} {C:Int->Int->Prop} {g:Int->Int->Int}
 (rule:∀ (i j:Int) (t u:Tok) (s:Shared) (Q:Value->Shared->Prop) (E:Value->Shared->Prop),C i j->Q (.int (g i j) s.toks) { s with toks:=s.toks+1 }->wpAny (model X.prog X.w) X.A (f (.int i t) (.int j u)) Q E s):
 fJ X f (rI C λ i j=>.int (g i j)):=by
 intro pins s σ H x y v u Q I rx ry h
 obtain ⟨i,j,rfl,rfl,hc,q⟩:=h
 obtain ⟨t,rfl⟩:=rx
 obtain ⟨t',rfl⟩:=ry
 exact rule i j t t' s _ _ hc ⟨.int (g i j),H,I.tok _,⟨_,rfl⟩,q⟩
theorem Ix {f:Value->Value->Sem Value} {g:Int->Int->Int}
 (rule:∀ (i j:Int) (t u:Tok) (s:Shared) (Q:Value->Shared->Prop) (E:Value->Shared->Prop),Q (.int (g i j) s.toks) { s with toks:=s.toks+1 }->wpAny (model X.prog X.w) X.A (f (.int i t) (.int j u)) Q E s):
 fJ X f (xN λ i j=>.int (g i j)):=by
 intro pins s σ H x y v u Q I rx ry h
 obtain ⟨i,j,rfl,rfl,q⟩:=h
 obtain ⟨t,rfl⟩:=rx
 obtain ⟨t',rfl⟩:=ry
 exact rule i j t t' s _ _ ⟨.int (g i j),H,I.tok _,⟨_,rfl⟩,q⟩
theorem Jg {f:Value->Value->Sem Value} {g:Int->Int->Bool}
 (rule:∀ (i j:Int) (t u:Tok) (s:Shared) (Q:Value->Shared->Prop) (E:Value->Shared->Prop),Q (.bool (g i j)) s->wpAny (model X.prog X.w) X.A (f (.int i t) (.int j u)) Q E s):
 fJ X f (xN λ i j=>.bl (g i j)):=by
 intro pins s σ H x y v u Q I rx ry h
 obtain ⟨i,j,rfl,rfl,q⟩:=h
 obtain ⟨t,rfl⟩:=rx
 obtain ⟨t',rfl⟩:=ry
 exact rule i j t t' s _ _ ⟨.bl (g i j),H,I,rfl,q⟩
noncomputable def Jf (i j:Int):Prop:=0<=j/\j<=1000000/\i.natAbs<2^64
noncomputable def AS (i j:Int):Prop:=(-(2^64)<i/\i<2^64)∨(-(2^64)<j/\j<2^64)
theorem AS.ok {i j:Int} (h:AS i j):IntMulOk i j:=by
 rcases h with ⟨h1,h2⟩ | ⟨h1,h2⟩
 . exact .of_left (intBits_le_64 h1 h2)
 . exact .of_right (intBits_le_64 h1 h2)
theorem Fe:fJ X (binaryOp .Add) (xN λ i j=>.int (i+j)):=Ix λ _ _ _ _ _ _ _ q=>add_int q
theorem KG:fJ X (binaryOp .Sub) (xN λ i j=>.int (i-j)):=Ix λ _ _ _ _ _ _ _ q=>sub_int q
theorem F3:fJ X (binaryOp .Mult) (rI AS λ i j=>.int (i*j)):=Ig λ _ _ _ _ _ _ _ hc q=>mul_int q hc.ok
theorem BJ:fJ X (binaryOp .Mod) (rI (λ _ j=>j≠0) λ i j=>.int (i.fmod j)):=Ig λ _ _ _ _ _ _ _ hc q=>mod_int' hc q
theorem KS:fJ X (binaryOp .Pow) (rI Jf λ i j=>.int (i^j.toNat)):=Ig λ _ _ _ _ _ _ _ hc q=>pow_int_small hc.1 hc.2.1 hc.2.2 q
theorem MC {f:Value->Sem Value} {g:Int->Int}
 (rule:∀ (i:Int) (t:Tok) (s:Shared) (Q:Value->Shared->Prop) (E:Value->Shared->Prop),Q (.int (g i) s.toks) { s with toks:=s.toks+1 }->wpAny (model X.prog X.w) X.A (f (.int i t)) Q E s):
 JJ X f (rU λ i=>.int (g i)):=by
 intro pins s σ H x v Q I rx h
 obtain ⟨i,rfl,q⟩:=h
 obtain ⟨t,rfl⟩:=rx
 exact rule i t s _ _ ⟨.int (g i),H,I.tok _,⟨_,rfl⟩,q⟩
theorem K7:JJ X (unaryOp .USub) (rU λ i=>.int (-i)):=MC λ _ _ _ _ _ q=>neg_int q
end
noncomputable def Gw:V->V->Bool
 | .non,.non=>true | .non,.int _=>true | .int _,.non=>true | .non,.bl _=>true | .bl _,.non=>true | .non,.str _=>true | .str _,.non=>true
 | .int _,.int _=>true | .bl _,.bl _=>true | .str _,.str _=>true | .byt _,.byt _=>true
 | .int _,.str _=>true | .str _,.int _=>true | .bl _,.str _=>true | .str _,.bl _=>true
 | _,_=>false
noncomputable def Mf:R2:=λ x y H Q=>Gw x y=true/\Q (.bl (decide (x=y))) H
noncomputable def LW:R2:=λ x y H Q=>Gw x y=true/\Q (.bl (!decide (x=y))) H
theorem uZ {i j:Int}:decide (V.int i=V.int j)=(i==j):=by
 rw [Bool.eq_iff_iff]
 simp
theorem xW {i j:Bool}:decide (V.bl i=V.bl j)=(i==j):=by
 rw [Bool.eq_iff_iff]
 simp
theorem vP {i j:Str}:decide (V.str i=V.str j)=(i==j):=by
 rw [Bool.eq_iff_iff]
 simp
theorem wn {i j:Array UInt8}:decide (V.byt i=V.byt j)=(i.toList==j.toList):=by
 rw [Bool.eq_iff_iff]
 cases i
 cases j
 simp
section
variable {X:Cx} {a b c:Expr} {ta tb tc:TE} {pos:Pos}
theorem bj {pins:List (Addr×Obj)} {σ:St} {H:Hp} {s:Shared} {Q:VK} {k k':Bool} (I:aL X pins σ H s) (q:Q (.bl k) H) (e:k=k'):EP X pins σ Q (.bool k') s:=by
 subst e
 exact ⟨.bl k,H,I,rfl,q⟩
theorem HR:fJ X (compareOp .Eq) Mf:=by
 intro pins s σ H x y v u Q I rx ry h
 obtain ⟨hs,q⟩:=h
 cases x with
 | non=>
  cases rx
  cases y with
  | non=>cases ry;exact PySem.EqNone.eq_none_none (bj I q (by simp))
  | bl j=>cases ry;exact PySem.EqNone.eq_none_bool (bj I q (by simp))
  | int j=>obtain ⟨t',rfl⟩:=ry;exact PySem.EqNone.eq_none_int (bj I q (by simp))
  | str j=>obtain ⟨t',rfl⟩:=ry;exact PySem.EqNone.eq_none_str (bj I q (by simp))
  | _=>exact absurd (show false=true from hs) Bool.false_ne_true
 | bl i=>
  cases rx
  cases y with
  | non=>cases ry;exact PySem.EqNone.eq_bool_none (bj I q (by simp))
  | bl j=>cases ry;exact eq_bool (bj I q xW)
  | str j=>obtain ⟨t',rfl⟩:=ry;exact PySem.EqMixed.eq_bool_str (bj I q (by simp))
  | _=>exact absurd (show false=true from hs) Bool.false_ne_true
 | int i=>
  obtain ⟨t,rfl⟩:=rx
  cases y with
  | non=>cases ry;exact PySem.EqNone.eq_int_none (bj I q (by simp))
  | int j=>obtain ⟨t',rfl⟩:=ry;exact eq_int (bj I q uZ)
  | str j=>obtain ⟨t',rfl⟩:=ry;exact PySem.EqMixed.eq_int_str (bj I q (by simp))
  | _=>exact absurd (show false=true from hs) Bool.false_ne_true
 | str i=>
  obtain ⟨t,rfl⟩:=rx
  cases y with
  | non=>cases ry;exact PySem.EqNone.eq_str_none (bj I q (by simp))
  | bl j=>cases ry;exact PySem.EqMixed.eq_str_bool (bj I q (by simp))
  | int j=>obtain ⟨t',rfl⟩:=ry;exact PySem.EqMixed.eq_str_int (bj I q (by simp))
  | str j=>obtain ⟨t',rfl⟩:=ry;exact eq_str (bj I q vP)
  | _=>exact absurd (show false=true from hs) Bool.false_ne_true
 | byt i=>
  obtain ⟨t,rfl⟩:=rx
  cases y with
  | byt j=>obtain ⟨t',rfl⟩:=ry;exact PySem.W.eq_bytes (bj I q wn)
  | _=>exact absurd (show false=true from hs) Bool.false_ne_true
 | _=>cases y <;> exact absurd (show false=true from hs) Bool.false_ne_true
theorem HL:fJ X (compareOp .NotEq) LW:=by
 intro pins s σ H x y v u Q I rx ry h
 obtain ⟨hs,q⟩:=h
 cases x with
 | non=>
  cases rx
  cases y with
  | non=>cases ry;exact PySem.EqNone.ne_none_none (bj I q (by simp))
  | bl j=>cases ry;exact PySem.EqNone.ne_none_bool (bj I q (by simp))
  | int j=>obtain ⟨t',rfl⟩:=ry;exact PySem.EqNone.ne_none_int (bj I q (by simp))
  | str j=>obtain ⟨t',rfl⟩:=ry;exact PySem.EqNone.ne_none_str (bj I q (by simp))
  | _=>exact absurd (show false=true from hs) Bool.false_ne_true
 | bl i=>
  cases rx
  cases y with
  | non=>cases ry;exact PySem.EqNone.ne_bool_none (bj I q (by simp))
  | bl j=>cases ry;exact ne_bool (bj I q (congrArg not xW))
  | str j=>obtain ⟨t',rfl⟩:=ry;exact PySem.EqMixed.ne_bool_str (bj I q (by simp))
  | _=>exact absurd (show false=true from hs) Bool.false_ne_true
 | int i=>
  obtain ⟨t,rfl⟩:=rx
  cases y with
  | non=>cases ry;exact PySem.EqNone.ne_int_none (bj I q (by simp))
  | int j=>obtain ⟨t',rfl⟩:=ry;exact ne_int (bj I q (congrArg not uZ))
  | str j=>obtain ⟨t',rfl⟩:=ry;exact PySem.EqMixed.ne_int_str (bj I q (by simp))
  | _=>exact absurd (show false=true from hs) Bool.false_ne_true
 | str i=>
  obtain ⟨t,rfl⟩:=rx
  cases y with
  | non=>cases ry;exact PySem.EqNone.ne_str_none (bj I q (by simp))
  | bl j=>cases ry;exact PySem.EqMixed.ne_str_bool (bj I q (by simp))
  | int j=>obtain ⟨t',rfl⟩:=ry;exact PySem.EqMixed.ne_str_int (bj I q (by simp))
  | str j=>obtain ⟨t',rfl⟩:=ry;exact ne_str (bj I q (congrArg not vP))
  | _=>exact absurd (show false=true from hs) Bool.false_ne_true
 | byt i=>
  obtain ⟨t,rfl⟩:=rx
  cases y with
  | byt j=>obtain ⟨t',rfl⟩:=ry;exact PySem.W.ne_bytes (bj I q (congrArg not wn))
  | _=>exact absurd (show false=true from hs) Bool.false_ne_true
 | _=>cases y <;> exact absurd (show false=true from hs) Bool.false_ne_true
theorem M0:fJ X (compareOp .Lt) (xN λ i j=>.bl (decide (i<j))):=Jg λ _ _ _ _ _ _ _ q=>lt_int q
theorem Mv:fJ X (compareOp .GtE) (xN λ i j=>.bl (decide (j<=i))):=Jg λ _ _ _ _ _ _ _ q=>ge_int q
theorem KF:fJ X (compareOp .Is) (λ x y H Q=>y=.non/\Q (.bl (decide (x=.non))) H):=by
 intro pins s σ H x y v u Q I rx ry h
 obtain ⟨rfl,q⟩:=h
 cases ry
 refine is_none_gen (bj I q ?_)
 cases x <;> first
  | (cases rx;rfl)
  | (obtain ⟨t,rfl⟩:=rx;rfl)
theorem J9:fJ X (compareOp .IsNot) (λ x y H Q=>y=.non/\Q (.bl (!decide (x=.non))) H):=by
 intro pins s σ H x y v u Q I rx ry h
 obtain ⟨rfl,q⟩:=h
 cases ry
 refine isnot_none_gen (bj I q ?_)
 cases x <;> first
  | (cases rx;rfl)
  | (obtain ⟨t,rfl⟩:=rx;rfl)
theorem fJ.or {f:Value->Value->Sem Value} {r r':R2} (h:fJ X f r) (h':fJ X f r'):fJ X f (λ x y H Q=>r x y H Q∨r' x y H Q):=by
 intro pins s σ H x y v u Q I rx ry q
 rcases q with q | q
 . exact h pins s σ H x y v u Q I rx ry q
 . exact h' pins s σ H x y v u Q I rx ry q
theorem J6 {op:CmpOp} {r:R2} (ho:fJ X (compareOp op) r) (ha:PE X a ta) (hb:PE X b tb) (hm:behindInMarks op b=false):PE X (.Compare a [op] [b] pos) (qR r ta tb):=by
 intro pins s σ H Q I h
 exact wpAny_Compare1 (EA ha hb I h λ v u s2 x y H2 I2 rx ry q=>ho pins s2 σ H2 x y v u Q I2 rx ry q) hm
noncomputable def vG (t:TE):TT:=λ σ H Q=>t σ H λ x H'=>∃ k,x=.bl k/\Q k H'
theorem JB {op:CmpOp} {r:R2} (ho:fJ X (compareOp op) r) (ha:PE X a ta) (hb:PE X b tb) (hm:behindInMarks op b=false):PT X (.Compare a [op] [b] pos) (vG (qR r ta tb)):=by
 intro pins s σ H Q I h
 refine wpAny_isTrue_Compare1 (cm (ha pins s σ H _ I h) λ v s1 hy0=>?_) hm
 obtain ⟨x,H1,I1,r1,q1⟩:=hy0
 refine cm (hb pins s1 σ H1 _ I1 q1) λ u s2 hy0=>?_
 obtain ⟨y,H2,I2,r2,q2⟩:=hy0
 refine
  cm (ho pins s2 σ H2 x y v u _ I2 r1 r2 q2) λ c s3 ⟨z,H3,I3,r3,k,e,q3⟩=>?_
 subst e
 cases r3
 exact wpAny_truthy_bool ⟨H3,I3,q3⟩
noncomputable def FU (K:Frag) (x:V) (H:Hp) (k:Bool):Prop:=
 match x with
 | .non=>k=false
 | .bl b=>k=b
 | .int i=>k=(i != 0)
 | .str y=>y.length<=sizeLine/\k=((y.length:Int) != 0)
 | .byt y=>y.size<=sizeLine/\k=((y.size:Int) != 0)
 | .ref p=>(∃ xs,cC K H p xs/\k = !xs.isEmpty)∨(∃ xs,eK K H p xs/\k = !xs.isEmpty)∨∃ kvs,H p=some (.dK kvs)/\k = !kvs.isEmpty
 | _=>False
theorem um {κ:Type} {kvs:List (κ×V)} {vs:List (κ×Value)} (r:KV kvs vs):(!vs.isEmpty) = !kvs.isEmpty:=by
 cases r <;> rfl
theorem mO {xs:List V} {its:List Value} (r:bc xs its):(!its.toArray.isEmpty) = !xs.isEmpty:=by
 cases r <;> simp
theorem jw:(sizeLine:Nat)<2^63:=by rw [sizeLine_eq];decide
theorem Fc:Kx X (λ x H Q=>∃ k,FU X.K x H k/\Q k H):=by
 intro pins s σ H x v Q I rx h
 obtain ⟨k,e,q⟩:=h
 have hl:=jw
 have hs:sizeLine=16777216:=sizeLine_eq
 cases x with
 | non=>
  cases rx
  have e':k=false:=e
  subst e'
  exact truthy_none ⟨H,I,q⟩
 | bl b=>
  cases rx
  have e':k=b:=e
  subst e'
  exact wpAny_truthy_bool ⟨H,I,q⟩
 | int i=>
  obtain ⟨t,rfl⟩:=rx
  have e':k=(i != 0):=e
  subst e'
  exact PySem.P.truthy_int ⟨H,I,q⟩
 | str y=>
  obtain ⟨t,rfl⟩:=rx
  obtain ⟨hy,e'⟩:y.length<=sizeLine/\k=((y.length:Int) != 0):=e
  subst e'
  exact PySem.P.truthy_str (by omega) ⟨H,I.tok _,q⟩
 | byt y=>
  obtain ⟨t,rfl⟩:=rx
  obtain ⟨hy,e'⟩:y.size<=sizeLine/\k=((y.size:Int) != 0):=e
  subst e'
  exact PySem.W.truthy_bytes (by omega) ⟨H,I.tok _,q⟩
 | ref p=>
  cases rx
  have e':(∃ xs,cC X.K H p xs/\k = !xs.isEmpty)∨(∃ xs,eK X.K H p xs/\k = !xs.isEmpty)∨∃ kvs,H p=some (.dK kvs)/\k = !kvs.isEmpty:=e
  rcases e' with ⟨xs,hx,e'⟩ | ⟨xs,hx,e'⟩ | ⟨kvs,hx,e'⟩
  . subst e'
    obtain ⟨its,r,pl,hz⟩:=I.list hx
    have hlen:=r.length
    exact wpAny_truthy_list pl.isList (by simp only [List.size_toArray];omega) ⟨H,I.tok _,by rw [mO r];exact q⟩
  . subst e'
    obtain ⟨its,r,pl,hz⟩:=I.tuple hx
    have hlen:=r.length
    exact truthy_tuple pl (by simp only [List.size_toArray];omega) ⟨H,I.tok _,by rw [mO r];exact q⟩
  . subst e'
    obtain ⟨hz,hS,vs,r,m⟩:kvs.length<=sizeLine/\(p==sysModules)=false/\∃ vs,KV kvs vs/\s.heap.DictOf (b0 X.prog X.w) p vs:=I.hok p _ hx
    have hlen:kvs.length=vs.length:=Paired.length r
    exact wpAny_truthy_dict hS m (by omega) ⟨H,I.tok _,by rw [um r];exact q⟩
 | _=>exact (show False from e).elim
theorem yE (ha:PE X a ta) (he:∀ whole,isTrue a X.env whole=(do let v <-whole;standAt a.pos;holding [v] (truthy v))):
 PT X a (λ σ H Q=>ta σ H λ x H'=>∃ k,FU X.K x H' k/\Q k H'):=by
 intro pins s σ H Q I h
 exact isTrue_plain (cm (ha pins s σ H _ I h) λ v s1 hy0=>by obtain ⟨x,H1,I1,r1,q1⟩:=hy0;exact Fc pins s1 σ H1 x v Q I1 r1 q1) (he _)
theorem tE:fJ X (binaryOp .Add) (λ x y H Q=>∃ i j,x=.str i/\y=.str j/\i.length+j.length<=sizeLine/\Q (.str (i++j)) H):=by
 intro pins s σ H x y v u Q I rx ry h
 obtain ⟨i,j,rfl,rfl,hz,q⟩:=h
 obtain ⟨t,rfl⟩:=rx
 obtain ⟨t',rfl⟩:=ry
 exact add_str (λ t' tk=>⟨.str (i++j),H,I.tok _,⟨_,rfl⟩,q⟩) hz
theorem wx {x:V} {us:List Value} (r:bc [x] us):∃ u,us=[u]/\bf x u:=by
 cases r with
 | cons r1 r2=>cases r2;exact ⟨_,rfl,r1⟩
end
end L2
namespace L2
open PySem PySem.Spec PyProof.Rows
open PySem.W (Frag)
structure tM (h:Heap) (x dx C:Addr) (mA:Str->Option Value):Prop where
 obj:h.get? x=some (PySem.W.instObj C dx)
 ns:h.Ns1 dx mA
 ne:dx≠x
theorem wU {h:Heap} {dx:Addr} {mA:Str->Option Value} (n:h.Ns1 dx mA):∃ od,h.get? dx=some od/\∀ name,PySem.W.lookIn name od=some (mA name):=by
 obtain ⟨o,es,ep,ho,hd,hk,_,hm⟩:=n
 refine ⟨o,ho,λ name=>?_⟩
 have e:=hm name
 unfold nsFind findBy at e
 rw [<-Array.find?_toList] at e
 unfold PySem.W.lookIn
 rw [hd]
 dsimp only
 split
 . rename_i y q
   rw [q] at e
   exact congrArg some e
 . rename_i q
   rw [q] at e
   have a:es.toList.any (·.refKey)=false:=by
    rw [List.any_eq_false]
    intro y hy
    obtain ⟨z,t,hkey⟩:=hk y (Array.mem_toList_iff.mp hy)
    simp [DictEntry.refKey,hkey]
   have a':¬ es.toList.any (·.refKey)=true:=by rw [a];exact Bool.false_ne_true
   rw [if_neg a']
   exact congrArg some e
theorem tM.look {h:Heap} {x dx C:Addr} {mA:Str->Option Value} (I:tM h x dx C mA):∃ od,PySem.W.InstAt h x (PySem.W.instObj C dx) C (some od)/\∀ name,PySem.W.lookIn name od=some (mA name):=
 let ⟨od,ho,hl⟩:=wU I.ns
 ⟨od,⟨I.obj,rfl,rfl,ho⟩,hl⟩
section
variable {prog:Program} {w:World} {A:Around} {E:Value->Shared->Prop} {s:Shared} {K:Frag} {x dx C f:Addr} {mA:Str->Option Value} {name:Str} {v:Value}
theorem AX {expr:Bool} {Q:Value->Shared->Prop} (X:K.In s.heap) (I:tM s.heap x dx C mA) (hg:PySem.W.plainGet K C name=true) (hh:PySem.W.hasDictIn K C=true)
 (ha:PySem.W.findIn K (.ref C) name=some none) (hv:mA name=some v) (hv':PySem.W.handedIn v=true) (h:Q v { s with toks:=s.toks+1 }):
 wpAny (model prog w) A (getAttr (.ref x) name expr) Q E s:=by
 obtain ⟨od,J,hl⟩:=I.look
 exact PySem.W.get_value X J (PySem.W.plainGet_of hg).1 (PySem.W.findObj_own hh ha rfl (by rw [hl,hv])) hv' h
theorem Ae {pl:Sem Bool} {Q:Value×List Value->Shared->Prop} (X:K.In s.heap) (I:tM s.heap x dx C mA) (hg:PySem.W.plainGet K C name=true)
 (hf:PySem.W.findIn K (.ref C) name=some (some (.ref f))) (ht:PySem.W.isFn K (.ref f)=true) (hv:mA name=none) (h:Q (.ref f,[.ref x]) s):
 wpAny (model prog w) A (getMethod (.ref x) name pl) Q E s:=by
 obtain ⟨od,J,hl⟩:=I.look
 exact PySem.W.method_fn X J (PySem.W.plainGet_of hg).1 (PySem.W.plainGet_of hg).2 hf (beq_iff_eq.mp ht) (by show (PySem.W.lookIn name od).map (·.isSome)=some false;rw [hl,hv];rfl) h
theorem C6 {ns:List Str} {Q:Unit->Shared->Prop} (X:K.In s.heap) (I:tM s.heap x dx C mA)
 (hs:PySem.W.findIn K (.ref C) "__setattr__" = some (some (.builtin "object.__setattr__"))) (hp:PySem.W.plainOver K C=true) (ht:PySem.W.takerIn K C name=some none) (hh:PySem.W.hasDictIn K C=true)
 (hw:PySem.Within mA ns) (hsz:ns.length<=sizeLine)
 (h:∀ h',tM h' x dx C (λ y=>if y=name then some v else mA y)->Heap.SameBut dx s.heap h'->Q () { s with heap:=h',toks:=s.toks+2 }):
 wpAny (model prog w) A (setAttr (.ref x) name v) Q E s:=by
 obtain ⟨od,J,hl⟩:=I.look
 refine PySem.W.set_plain X J hs (PySem.W.osa_open (s:={ s with toks:=s.toks+1 }) (r:=none) X J hp ht λ b=>?_)
 obtain ⟨cd,hc,hd'⟩:=PySem.W.any_some hh
 have hx:s.heap.get? x=some ⟨.ref C,some dx,.plain,#[]⟩:=I.obj
 refine wpAny_bind (wpAny_pure (wpAny_bind (wpAny_bind (wpAny_loadPart hx (wpAny_bind (PySem.W.Looks.here (s:={ s with toks:=s.toks+1 }) (PySem.W.looks_clsIn X hc) ?_))))))
 rw [hd']
 refine wpAny_pure (a:=some dx) (wpAny_bind (wpAny_pure (wpAny_bind ?_)))
 refine wpAny_nsSet1 (s:={ s with toks:=s.toks+1 }) I.ns λ h' hn2 hs2=>?_
 obtain ⟨oD,esD,epD,hoD,hdD,hcD⟩:=hn2.count (PySem.Within.cons name v hw)
 refine wpAny_bind (wpAny_lookBehind hoD (by rw [hdD];exact pastItsLine_dict (Nat.le_trans hcD (by rw [List.length_cons];omega))) ?_)
 exact wpAny_pure (h _ ⟨(hs2.2 _ (Ne.symm I.ne)).trans I.obj,hn2,I.ne⟩ hs2)
theorem zM {R:Result->Shared->Prop} {vs:List Value} {kw:List (Str×Value)} (X:K.In s.heap) (hm:PySem.W.makesIn K C=true)
 (hi:PySem.W.findIn K (.ref C) "__init__" = some (some (.ref f))) (hf:PySem.W.typeIn K (.ref f)=some (.type "function"))
 (h:codeAny (model prog w) (A.under (.builtin "type.__call__" ⟨.ref C::vs,kw⟩)) (.call (.ref f) ⟨.ref (s.heap.objs.size+1)::vs,kw⟩) (PySem.W.InitBack (s.heap.objs.size+1) R)
  { s with heap:=(s.heap.push PySem.W.emptyDict).push (PySem.W.instObj C s.heap.objs.size) }):
 codeAny (model prog w) A (.call (.ref C) ⟨vs,kw⟩) R s:=by
 obtain ⟨hh,g,d,t,os⟩:=s
 exact PySem.W.make_core (PySem.W.makes_of X hm) (PySem.W.looks_findIn X hi) (λ self=>PySem.W.bind_fn X self hf) (.inl rfl) h
end
noncomputable def putF (f:Str) (v:V):List (Str×V)->List (Str×V)
 | []=>[(f,v)]
 | (g,x)::r=>if g=f then (g,v)::r else (g,x)::putF f v r
theorem lK (f g:Str) (v:V):∀ fs:List (Str×V),(putF f v fs).lookup g=if g=f then some v else fs.lookup g
 | []=>by
  show List.lookup g [(f,v)]=_
  by_cases h:g=f
  . have hb:(g==f)=true:=beq_iff_eq.mpr h
    simp only [List.lookup,hb,if_pos h]
  . have hb:(g==f)=false:=beq_eq_false_iff_ne.mpr h
    simp only [List.lookup,hb,if_neg h]
 | (k,x)::r=>by
  have ih:=lK f g v r
  rw [show putF f v ((k,x)::r)=(if k=f then (k,v)::r else (k,x)::putF f v r) from rfl]
  by_cases hk:k=f
  . rw [if_pos hk]
    by_cases h:g=k
    . have hb:(g==k)=true:=beq_iff_eq.mpr h
      simp only [List.lookup,hb,if_pos (h.trans hk)]
    . have hb:(g==k)=false:=beq_eq_false_iff_ne.mpr h
      simp only [List.lookup,hb,if_neg (λ e:g=f=>h (e.trans hk.symm))]
  . rw [if_neg hk]
    by_cases h:g=k
    . have hb:(g==k)=true:=beq_iff_eq.mpr h
      simp only [List.lookup,hb,if_neg (λ e:g=f=>hk (h.symm.trans e))]
    . have hb:(g==k)=false:=beq_eq_false_iff_ne.mpr h
      simp only [List.lookup,hb]
      exact ih
theorem kS (f:Str) (v:V):∀ fs:List (Str×V),f∈(putF f v fs).map (·.1)/\∀ g,g∈fs.map (·.1)->g∈(putF f v fs).map (·.1)
 | []=>⟨by simp [putF],λ g h=>by simp at h⟩
 | (k,x)::r=>by
  obtain ⟨i1,i2⟩:=kS f v r
  rw [show putF f v ((k,x)::r)=(if k=f then (k,v)::r else (k,x)::putF f v r) from rfl]
  by_cases hk:k=f
  . rw [if_pos hk]
    subst hk
    exact ⟨by simp,λ g h=>by simpa using h⟩
  . rw [if_neg hk]
    refine ⟨?_,λ g h=>?_⟩
    . rw [List.map_cons]
      exact List.mem_cons_of_mem _ i1
    . rw [List.map_cons] at h ⊢
      rcases List.mem_cons.mp h with e | e
      . exact List.mem_cons.mpr (.inl e)
      . exact List.mem_cons_of_mem _ (i2 g e)
theorem lu (f:Str) (v:V):∀ fs:List (Str×V),(putF f v fs).length<=fs.length+1
 | []=>by simp [putF]
 | (k,x)::r=>by
  have ih:=lu f v r
  rw [show putF f v ((k,x)::r)=(if k=f then (k,v)::r else (k,x)::putF f v r) from rfl]
  by_cases hk:k=f
  . rw [if_pos hk,List.length_cons,List.length_cons];omega
  . rw [if_neg hk,List.length_cons,List.length_cons];omega
theorem gK.some_of {v:V} {o:Option Value} (r:gK (some v) o):∃ u,o=some u/\bf v u:=by
 cases o with
 | none=>exact (show False from r).elim
 | some u=>exact ⟨u,rfl,r⟩
theorem gK.none_of {o:Option Value} (r:gK none o):o=none:=by
 cases o with
 | none=>rfl
 | some u=>exact (show False from r).elim
theorem xA {v:V} {u:Value} (r:bf v u):PySem.W.handedIn u=true:=by
 cases v with
 | non=>cases (show u=Value.none from r);rfl
 | bl b=>cases (show u=Value.bool b from r);rfl
 | int i=>obtain ⟨t,e⟩:=(show ∃ t,u=Value.int i t from r);cases e;rfl
 | str x=>obtain ⟨t,e⟩:=(show ∃ t,u=Value.str x t from r);cases e;rfl
 | byt b=>obtain ⟨t,e⟩:=(show ∃ t,u=Value.bytes b t from r);cases e;rfl
 | flt b=>obtain ⟨t,e⟩:=(show ∃ t,u=Value.float b t from r);cases e;rfl
 | ref a=>cases (show u=Value.ref a from r);rfl
 | ty n=>cases (show u=Value.type n from r);rfl
section
variable {P:Program} {w:World} {H H':Hp} {h h':Heap} {a C dx:Addr} {fs fs':List (Str×V)}
theorem q9 (hok:jp P w H h) (e:H a=some (.ins C dx fs)):∃ mA,tM h a dx C mA/\(∀ f,gK (fs.lookup f) (mA f))/\PySem.Within mA (fs.map (·.1))/\fs.length<=1000/\H dx=some (.own a):=by
 obtain ⟨d,z,ne,ob,mA,n,r,q⟩:=(show cR P w H h a (.ins C dx fs) from hok a _ e)
 exact ⟨mA,⟨ob,n,ne⟩,r,q,z,d⟩
end
structure qT (K:Frag) (C:Addr):Prop where
 pg:PySem.W.plainGet K C Str.empty=true
 hd:PySem.W.hasDictIn K C=true
 po:PySem.W.plainOver K C=true
 sa:PySem.W.findIn K (.ref C) "__setattr__" = some (some (.builtin "object.__setattr__"))
theorem qT.get {K:Frag} {C:Addr} (c:qT K C) (f:Str):PySem.W.plainGet K C f=true:=c.pg
noncomputable def dh (K:Frag) (C:Addr) (f:Str):Prop:=PySem.W.findIn K (.ref C) f=some none
theorem dh.taker {K:Frag} {C:Addr} {f:Str} (n:dh K C f):PySem.W.takerIn K C f=some none:=by
 unfold PySem.W.takerIn
 rw [show PySem.W.findIn K (.ref C) f=some none from n]
 rfl
structure yC (K:Frag) (C:Addr) (m:Str) (f:Addr):Prop where
 at_:PySem.W.findIn K (.ref C) m=some (some (.ref f))
 fn:PySem.W.isFn K (.ref f)=true
 kp:PySem.W.keepIn K (.ref f)=true
section
variable {X:Cx} {pins:List (Addr×Obj)} {σ:St} {H:Hp} {s:Shared} {a C dx:Addr} {fs:List (Str×V)} {f:Str} {v:V} {A:Around} {E:Value->Shared->Prop}
theorem ui {b:Bool} {Q:Value->Shared->Prop} (I:aL X pins σ H s) (e:H a=some (.ins C dx fs)) (c:qT X.K C) (n:dh X.K C f) (l:fs.lookup f=some v)
 (h:∀ u s',aL X pins σ H s'->bf v u->Q u s'):wpAny (model X.prog X.w) A (getAttr (.ref a) f b) Q E s:=by
 obtain ⟨mA,O,r,_,_,_⟩:=q9 I.hok e
 obtain ⟨u,hu,ru⟩:=gK.some_of (v:=v) (o:=mA f) (by rw [<-l];exact r f)
 exact AX I.kIn O (c.get f) c.hd n hu (xA ru) (h u _ (I.tok _) ru)
theorem ug {m:Str} {g:Addr} {pl:Sem Bool} {Q:Value×List Value->Shared->Prop} (I:aL X pins σ H s) (e:H a=some (.ins C dx fs)) (c:qT X.K C) (k:yC X.K C m g) (l:fs.lookup m=none)
 (h:Q (.ref g,[.ref a]) s):wpAny (model X.prog X.w) A (getMethod (.ref a) m pl) Q E s:=by
 obtain ⟨mA,O,r,_,_,_⟩:=q9 I.hok e
 have hn:mA m=none:=gK.none_of (by rw [<-l];exact r m)
 exact Ae I.kIn O (c.get m) k.at_ k.fn hn h
theorem uo {y:V} {u:Value} {Q:Unit->Shared->Prop} (I:aL X pins σ H s) (e:H a=some (.ins C dx fs)) (c:qT X.K C) (n:dh X.K C f) (hl:fs.length<1000) (ry:bf y u)
 (h:∀ s',aL X pins σ (cp H a (.ins C dx (putF f y fs))) s'->Q () s'):wpAny (model X.prog X.w) A (setAttr (.ref a) f u) Q E s:=by
 obtain ⟨mA,O,r,wi,_,ho⟩:=q9 I.hok e
 have hz:(fs.map (·.1)).length<=sizeLine:=by rw [List.length_map,sizeLine_eq];omega
 refine C6 I.kIn O c.sa c.po n.taker c.hd wi hz λ h' O' sb=>h _ ?_
 have hd:∃ o,h'.get? dx=some o:=by obtain ⟨o,_,_,e',_⟩:=O'.ns;exact ⟨o,e'⟩
 refine I.write (x:=a) (e:=dx) (by rw [e];exact True.intro) (.inr ho) (λ b q hb z=>(sb.2 b hb).trans z) hd ?_
 refine ⟨by rw [aJ O.ne];exact ho,?_,O.ne,O'.obj,_,O'.ns,λ g=>?_,λ g hg=>?_⟩
 . have:=lu f y fs;omega
 . show gK ((putF f y fs).lookup g) (if g=f then some u else mA g)
   rw [lK]
   by_cases q:g=f
   . rw [if_pos q,if_pos q];exact ry
   . rw [if_neg q,if_neg q];exact r g
 . by_cases q:g=f
   . rw [q];exact (kS f y fs).1
   . refine (kS f y fs).2 g (wi g λ z=>hg ?_)
     show (if g=f then some u else mA g)=none
     rw [if_neg q];exact z
theorem aL.made (I:aL X pins σ H s):aL X pins σ (cp (cp H s.heap.objs.size (.own (s.heap.objs.size+1))) (s.heap.objs.size+1) (.ins C s.heap.objs.size []))
 { s with heap:=(s.heap.push PySem.W.emptyDict).push (PySem.W.instObj C s.heap.objs.size) }:=by
 have e1:(s.heap.push PySem.W.emptyDict).get? s.heap.objs.size=some PySem.W.emptyDict:=Heap.get?_push_size s.heap rfl
 have e2:((s.heap.push PySem.W.emptyDict).push (PySem.W.instObj C s.heap.objs.size)).get? (s.heap.objs.size+1)=some (PySem.W.instObj C s.heap.objs.size):=by
  have:=Heap.get?_push_size (s.heap.push PySem.W.emptyDict) (o:=PySem.W.instObj C s.heap.objs.size) rfl
  rwa [Heap.size_push] at this
 have e3:(s.heap.push PySem.W.emptyDict).Ns s.heap.objs.size (λ _=>none):=⟨PySem.W.emptyDict,#[],_,e1,rfl,(λ e he=>absurd he (by simp)),λ _=>rfl⟩
 have I1:=I.laid (a:=s.heap.objs.size) (o:=.own (s.heap.objs.size+1)) (h':=s.heap.push PySem.W.emptyDict) (t':=s.toks) (λ b u q=>Heap.get?_push_of_some _ q) (Nat.le_refl _) ⟨_,e1⟩
 refine I1.laid (a:=s.heap.objs.size+1) (o:=.ins C s.heap.objs.size []) (t':=s.toks) (λ b u q=>Heap.get?_push_of_some _ q) (Nat.le_of_eq (Heap.size_push _ _)) ?_
 have ne:s.heap.objs.size≠s.heap.objs.size+1:=Nat.ne_of_lt (Nat.lt_succ_self _)
 refine ⟨by rw [aJ ne,aK],Nat.zero_le _,ne,e2,λ _=>none,(Heap.Ns1.of_empty e3).at λ o q=>Heap.get?_push_of_some _ q,λ _=>True.intro,λ y hy=>absurd rfl hy⟩
theorem Cg {prog:Program} {w:World} {env:Env} {e:Expr} {f:Str} {pos:Pos} {s:Shared} {Q:Value->Shared->Prop} (hb:attributeBase e f env (eval e env)=eval e env)
 (h:wpAny (model prog w) A (eval e env) (λ o s₁=>wpAny (model prog w) A (getAttr o f true) Q E s₁) E s):wpAny (model prog w) A (eval (.Attribute e f pos) env) Q E s:=
 Attribute_any_ h (by rw [arm_eval_Attribute,hb])
end
noncomputable def Ep (K:Frag) (ta:TE) (f:Str):TE:=λ σ H Q=>ta σ H λ x H1=>∃ a C dx fs v,x=.ref a/\H1 a=some (.ins C dx fs)/\qT K C/\dh K C f/\fs.lookup f=some v/\Q v H1
noncomputable def IJ (K:Frag) (ta tv:TE) (f:Str):TS:=λ D σ H=>tv σ H λ y H1=>ta σ H1 λ x H2=>∃ a C dx fs,x=.ref a/\H2 a=some (.ins C dx fs)/\qT K C/\dh K C f/\fs.length<1000/\
 D.nx σ (cp H2 a (.ins C dx (putF f y fs)))
section
variable {X:Cx} {o e value:Expr} {f:Str} {pos pos' tpos:Pos} {ta tv:TE}
theorem EW (he:PE X e ta) (hb:attributeBase e f X.env (eval e X.env)=eval e X.env):PE X (.Attribute e f pos) (Ep X.K ta f):=by
 intro pins s σ H Q I h
 refine Cg hb (cm (he pins s σ H _ I h) λ u s1 hq0=>?_)
 obtain ⟨x,H1,I1,rx,a,C,dx,fs,v,ex,ea,c,n,l,q⟩:=hq0
 subst ex
 obtain rfl:u=Value.ref a:=rx
 exact ui I1 ea c n l λ u' s2 I2 ru=>⟨v,H1,I2,ru,q⟩
theorem KZ (ha:PE X o ta) (hv:PE X value tv) (hs:swapsWith value (some (.Attribute o f pos')) pos.line X.env=pure false):PS X (.Assign [.Attribute o f pos'] value pos) (IJ X.K ta tv f):=by
 intro pins s σ H D I h
 refine plainObj_wpAny_Assign_Attribute (cm (hv pins s σ H _ I h) λ u s1 hy0=>?_) hs
 obtain ⟨y,H1,I1,ry,q⟩:=hy0
 refine cm (ha pins s1 σ H1 _ I1 q) λ ov s2 hq0=>?_
 obtain ⟨x,H2,I2,rx,a,C,dx,fs,ex,ea,c,n,l,q2⟩:=hq0
 subst ex
 obtain rfl:ov=Value.ref a:=rx
 exact uo I2 ea c n l ry λ s3 I3=>⟨σ,_,I3,q2⟩
end
section
variable {X:Cx} {pins:List (Addr×Obj)} {σ:St} {H:Hp} {s:Shared} {A:Around} {E:Value->Shared->Prop} {Q:Value->Shared->Prop} {c:Value} {b:Bool}
end
end L2
namespace L2
open PySem PySem.Spec PyProof.Rows
open PySem.W (Frag)
structure d3 (k:Nat) (A:Around):Prop where
 hd:A.handled=none
 dp:A.depth+3*k+5<recursionLimit
 un:A.units+16*k+200<cLine
theorem d3.mono {j k:Nat} {A:Around} (r:d3 k A) (h:j<=k):d3 j A:=⟨r.hd,by have:=r.dp;omega,by have:=r.un;omega⟩
theorem d3.deeper {k:Nat} {A:Around} (r:d3 (k+1) A) (env:Env):d3 k (A.deeper env):=
 ⟨r.hd,by have:=r.dp;show A.depth+1+3*k+5<_;omega,by have:=r.un;show A.units+3+16*k+200<_;omega⟩
theorem tz {A:Around} {C:Addr} {us:List Value} {kw:List (Str×Value)}:(A.under (.builtin "type.__call__" ⟨.ref C::us,kw⟩)).depth=A.depth+1:=by
 first | rfl | simp [Around.under,Code.weight,Code.isCreation,Code.isGuard,Code.isCaller,Code.frames,Code.isFrame,guardIds]
theorem tu {A:Around} {C:Addr} {us:List Value} {kw:List (Str×Value)}:(A.under (.builtin "type.__call__" ⟨.ref C::us,kw⟩)).units=A.units+1:=by
 first | rfl | simp [Around.under,Code.cUnits,Code.frames,Code.isFrame]
theorem d3.make {k:Nat} {A:Around} (r:d3 (k+1) A) (C:Addr) (us:List Value) (kw:List (Str×Value)):d3 k (A.under (.builtin "type.__call__" ⟨.ref C::us,kw⟩)):=
 ⟨r.hd,by have:=r.dp;rw [tz];omega,by have:=r.un;rw [tu];omega⟩
theorem d3.depth {k:Nat} {A:Around} (r:d3 k A):A.depth<recursionLimit:=by have:=r.dp;omega
theorem d3.units {k:Nat} {A:Around} (r:d3 k A):A.units+64<cLine:=by have:=r.un;omega
noncomputable def lM:TA:=λ _ H Q=>Q [] H
noncomputable def gX (ta:TE) (tr:TA):TA:=λ σ H Q=>ta σ H λ x H1=>tr σ H1 λ xs H2=>Q (x::xs) H2
section
variable {X:Cx} {e:Expr} {es:List Expr} {te:TE} {t:TA} {pos:Pos}
theorem KD:PA X [] lM:=λ _ _ _ _ H Q I h=>Calls.spliced_nil ⟨[],H,I,.nil,h⟩
theorem Kg (ha:PE X e te) (hr:PA X es t) (hs:starEach (e::es) X.env=(false,eval e X.env)::starEach es X.env):PA X (e::es) (gX te t):=by
 intro pos pins s σ H Q I h
 rw [hs]
 show wpAny _ _ (spliced ((false,eval e X.env)::backTo pos (starEach es X.env))) _ _ s
 refine Calls.spliced_cons (cm (ha pins s σ H _ I h) λ u s1 hq0=>?_)
 obtain ⟨x,H1,I1,r1,q1⟩:=hq0
 exact cm (hr pos pins s1 σ H1 _ I1 q1) λ us s2 hy0=>by obtain ⟨xs,H2,I2,r2,q2⟩:=hy0;exact ⟨x::xs,H2,I2,.cons r1 r2,q2⟩
end
noncomputable abbrev Sp:=List V->Hp->VK->XK->Prop
noncomputable abbrev uJ:=List Env->Hp->Shared->XK->Value->Shared->Prop
structure uO (P:Program) (w:World) (K:Frag) (mg:Str->Option Value) (base:Heap) (A:Around) (outer:List Env) (s:Shared) (H:Hp):Prop where
 frames:A.frames=some outer
 mod:Mod K mg base
 bs:∀ b o,base.get? b=some o->s.heap.get? b=some o/\H b=none
 bsz:base.objs.size<=s.heap.objs.size
 funs:s.heap.FunFrames base outer
 frf:∀ b∈yl outer,H b=none
 hok:jp P w H s.heap
 bare:AllBare s.gens
noncomputable def CE (outer:List Env) (P:Program) (w:World) (H:Hp) (s:Shared) (Q:VK) (u:Value) (s':Shared):Prop:=
 ∃ v H',s'.os=s.os/\AllBare s'.gens/\Un (yl outer) [] H H' s.heap s'.heap/\jp P w H' s'.heap/\bf v u/\Q v H'
noncomputable def CR (CX:uJ) (outer:List Env) (P:Program) (w:World) (H:Hp) (s:Shared) (Q:VK) (E:XK) (r:Result) (s':Shared):Prop:=
 match r with
 | .ok (.ret u)=>CE outer P w H s Q u s'
 | .ok _=>False
 | .error e=>CX outer H s E e s'
structure ez (P:Program) (w:World) (K:Frag) (mg:Str->Option Value) (base:Heap) (CX:uJ) (k:Nat) (f:Addr) (fd:FuncData) (ps:List Str) (sp:Sp):Prop where
 len:∀ vs H Q E,sp vs H Q E->vs.length=ps.length
 run:∀ (A:Around) (outer:List Env) (s:Shared) (H:Hp) (args:Args) (us:List Value) (vs:List V) (Q:VK) (E:XK),d3 k A->uO P w K mg base A outer s H->BindsTo s fd args (ps.zip us)->bc vs us->sp vs H Q E->
  codeAny (model P w) A (.call (.ref f) args) (CR CX outer P w H s Q E) s
theorem ez.mono {P:Program} {w:World} {K:Frag} {mg:Str->Option Value} {base:Heap} {CX:uJ} {j k:Nat} {f:Addr} {fd:FuncData} {ps:List Str} {sp:Sp} (F:ez P w K mg base CX j f fd ps sp) (h:j<=k):
 ez P w K mg base CX k f fd ps sp:=⟨F.len,λ A outer s H args us vs Q E hr=>F.run A outer s H args us vs Q E (hr.mono h)⟩
theorem ez.imp {P:Program} {w:World} {K:Frag} {mg:Str->Option Value} {base:Heap} {CX:uJ} {k:Nat} {f:Addr} {fd:FuncData} {ps:List Str} {sp sp':Sp} (F:ez P w K mg base CX k f fd ps sp)
 (h:∀ vs H Q E,sp' vs H Q E->sp vs H Q E):ez P w K mg base CX k f fd ps sp':=
 ⟨λ vs H Q E q=>F.len vs H Q E (h _ _ _ _ q),λ A outer s H args us vs Q E hr he hb hv hs=>F.run A outer s H args us vs Q E hr he hb hv (h _ _ _ _ hs)⟩
theorem uO.make {P:Program} {w:World} {K:Frag} {mg:Str->Option Value} {base:Heap} {A:Around} {outer:List Env} {s:Shared} {H:Hp} (e:uO P w K mg base A outer s H) (C:Addr) (us:List Value) (kw:List (Str×Value)):
 uO P w K mg base (A.under (.builtin "type.__call__" ⟨.ref C::us,kw⟩)) outer s H:=⟨by first | exact e.frames | (simpa [Around.under,Code.envs,Code.isFrame,pushEnvs] using e.frames),e.mod,e.bs,e.bsz,e.funs,e.frf,e.hok,e.bare⟩
section
variable {X:Cx} {pins:List (Addr×Obj)} {σ:St} {H:Hp} {s s':Shared}
theorem aL.env0 (I:aL X pins σ H s):uO X.prog X.w X.K X.mg X.base X.A X.stack s H:=
 ⟨I.ok.frames,I.ok.mod,I.bs,Nat.le_trans I.ok.bsz I.sz,I.stack,I.stkFree,I.hok,I.bare⟩
theorem aL.after {Q:VK} {u:Value} (I:aL X pins σ H s) (h:CE X.stack X.prog X.w H s Q u s'):EP X pins σ Q u s':=by
 obtain ⟨v,H',os,bare,un,hok,r,q⟩:=h
 obtain ⟨hh,g,d,t,os'⟩:=s'
 obtain rfl:os'=s.os:=os
 exact ⟨v,H',I.call (h':=hh) (g':=g) (d':=d) (t':=t) (ch:=[]) un hok bare (λ b z=>absurd z (by simp)),r,q⟩
end
noncomputable def p4 (sp:Sp) (dvs:List V) (E:XK) (t:TA):TE:=λ σ H Q=>t σ H λ vs H1=>sp (vs++dvs) H1 Q E
noncomputable def DF (C:Addr) (m:Str) (sp:Sp) (dvs:List V) (E:XK) (ta:TE) (t:TA):TE:=λ σ H Q=>ta σ H λ x H1=>∃ a dx fs,x=.ref a/\H1 a=some (.ins C dx fs)/\fs.lookup m=none/\
 t σ H1 λ vs H2=>sp (x::(vs++dvs)) H2 Q E
noncomputable def Dg (C:Addr) (sp:Sp) (dvs:List V) (E:XK) (t:TA):TE:=λ σ H Q=>t σ H λ vs H1=>∀ x dx,H1 x=none->H1 dx=none->dx≠x->
 sp (.ref x::(vs++dvs)) (cp (cp H1 dx (.own x)) x (.ins C dx [])) (λ v H2=>v=.non/\Q (.ref x) H2) E
noncomputable def fq (K:Frag) (fd:FuncData) (ps:List Str) (ds:List Value):Prop:=
 ∀ (s:Shared) (us:List Value),K.In s.heap->(us++ds).length=ps.length->BindsTo s fd ⟨us,[]⟩ (ps.zip (us++ds))
theorem fq.all {K:Frag} {fd:FuncData} {ps:List Str} (h:∀ us:List Value,us.length=ps.length->bindArgs fd ⟨us,[]⟩=pure (ps.zip us)):fq K fd ps []:=λ s us _ hl=>by
 rw [List.append_nil] at hl ⊢
 exact .of_eq (h us hl)
noncomputable def jA (CX:uJ) (X:Cx) (E:XK):Prop:=∀ (pins:List (Addr×Obj)) (σ:St) (H:Hp) (s:Shared) (e:Value) (s':Shared),aL X pins σ H s->CX X.stack H s E e s'->X.xe e s'
section
variable {X:Cx} {CX:uJ} {k:Nat} {f C:Addr} {fd:FuncData} {ps:List Str} {sp:Sp} {dvs:List V} {ds:List Value} {E:XK} {x m:Str} {p pos apos:Pos} {e o:Expr} {es:List Expr} {ta:TE} {t:TA}
theorem z8 {pins:List (Addr×Obj)} {σ:St} {H:Hp} {s:Shared} {Q:VK} {us:List Value} {vs:List V} (F:ez X.prog X.w X.K X.mg X.base CX k f fd ps sp) (hr:d3 k X.A) (hb:fq X.K fd ps ds) (hd:bc dvs ds) (hx:jA CX X E)
 (I:aL X pins σ H s) (r:bc vs us) (h:sp (vs++dvs) H Q E):wpAny (model X.prog X.w) X.A (call (.ref f) us) (EP X pins σ Q) X.xe s:=by
 have r2:bc (vs++dvs) (us++ds):=r.append hd
 have hl:(us++ds).length=ps.length:=by rw [<-r2.length];exact F.len _ _ _ _ h
 refine wpAny_call (codeAny_mono (F.run X.A X.stack s H ⟨us,[]⟩ (us++ds) (vs++dvs) Q E hr I.env0 (hb s us I.kIn hl) r2 h) λ r s' hq=>?_)
 cases r with
 | error e=>exact hx pins σ H s e s' I hq
 | ok fl=>
  cases fl with
  | ret u=>exact I.after hq
  | next=>exact False.elim hq
  | brk=>exact False.elim hq
  | cont=>exact False.elim hq
theorem vp (F:ez X.prog X.w X.K X.mg X.base CX k f fd ps sp) (hr:d3 k X.A) (hg:Gl X x) (hm:X.mg x=some (.ref f)) (hk:PySem.W.keepIn X.K (.ref f)=true) (hb:fq X.K fd ps ds) (hd:bc dvs ds) (hx:jA CX X E)
 (ha:PA X (e::es) t) (hdb:(x==("__debug__" : Str))=false:=by decide) (he:starEach (e::es) X.env=(false,eval e X.env)::starEach es X.env:=by rfl) (hpl:(backTo pos (starEach es X.env)).any (·.1)=false:=by rfl):
 PE X (.Call (.Name x p) (e::es) [] pos) (p4 sp dvs E t):=by
 intro pins s σ H Q I h
 refine wpAny_Call_Name_kw (qp I hg hm ?_ hdb)
 refine PySem.W.callWith_K (h₀:=X.base) I.ok.mod.kin hk (cm (ha pos pins s σ H _ I h) λ us s1 hy0=>?_) he hpl
 obtain ⟨vs,H1,I1,r,q⟩:=hy0
 refine ⟨I1.kIn,?_⟩
 exact z8 F hr hb hd hx I1 r q
theorem AI {pl:Sem Bool} (he:PE X o ta) (c:qT X.K C) (hm:yC X.K C m f) (F:ez X.prog X.w X.K X.mg X.base CX k f fd ps sp) (hr:d3 k X.A) (hb:fq X.K fd ps ds) (hd:bc dvs ds) (hx:jA CX X E) (ha:PA X (e::es) t)
 (hst:starEach (e::es) X.env=(false,eval e X.env)::starEach es X.env:=by rfl) (hpl:(backTo pos (starEach es X.env)).any (·.1)=false:=by rfl)
 (ht:eval (.Call (.Attribute o m apos) (e::es) [] pos) X.env=(do
  let ov <-eval o X.env
  standAt apos.atName
  let (f,first) <-holding [ov] (getMethod ov m pl)
  callWith pos f first (backTo pos (starEach (e::es) X.env)) (backToKw pos (keywordEach [] X.env))):=by rfl):
 PE X (.Call (.Attribute o m apos) (e::es) [] pos) (DF C m sp dvs E ta t):=by
 intro pins s σ H Q I h
 refine PySem.W.methodCall_KW (pl:=pl) (cm (he pins s σ H _ I h) λ u s1 hq0=>?_) ht
 obtain ⟨x,H1,I1,rx,a,dx,fs,ex,ea,l,q⟩:=hq0
 subst ex
 obtain rfl:u=Value.ref a:=rx
 refine ug I1 ea c hm l ?_
 refine PySem.W.callWith_K (first:=[.ref a]) (h₀:=X.base) I.ok.mod.kin hm.kp (cm (ha pos pins s1 σ H1 _ I1 q) λ us s2 hy0=>?_) hst hpl
 obtain ⟨vs,H2,I2,r,q2⟩:=hy0
 refine ⟨I2.kIn,?_⟩
 exact z8 (us:=.ref a::us) (vs:=.ref a::vs) F hr hb hd hx I2 (.cons rfl r) q2
structure Mk (K:Frag) (C f:Addr):Prop where
 makes:PySem.W.makesIn K C=true
 init:PySem.W.findIn K (.ref C) "__init__" = some (some (.ref f))
 fn:PySem.W.isFn K (.ref f)=true
 kp:PySem.W.keepIn K (.ref C)=true
theorem yN {pins:List (Addr×Obj)} {σ:St} {H:Hp} {s:Shared} {Q:VK} {us:List Value} {vs:List V} (M:Mk X.K C f) (F:ez X.prog X.w X.K X.mg X.base CX k f fd ps sp) (hr:d3 (k+1) X.A) (hb:fq X.K fd ps ds) (hd:bc dvs ds)
 (hx:jA CX X E) (I:aL X pins σ H s) (r:bc vs us)
 (h:∀ x dx,H x=none->H dx=none->dx≠x->sp (.ref x::(vs++dvs)) (cp (cp H dx (.own x)) x (.ins C dx [])) (λ v H2=>v=.non/\Q (.ref x) H2) E):
 wpAny (model X.prog X.w) X.A (call (.ref C) us) (EP X pins σ Q) X.xe s:=by
 have hq:=h (s.heap.objs.size+1) s.heap.objs.size (I.hok.fresh (Nat.le_succ _)) (I.hok.fresh (Nat.le_refl _)) (Nat.ne_of_lt (Nat.lt_succ_self _))
 have I2:=aL.made (C:=C) I
 have r2:bc (V.ref (s.heap.objs.size+1)::(vs++dvs)) (Value.ref (s.heap.objs.size+1)::(us++ds)):=.cons rfl (r.append hd)
 have hl:(Value.ref (s.heap.objs.size+1)::us++ds).length=ps.length:=by
  have e:=r2.length
  rw [F.len _ _ _ _ hq] at e
  exact e.symm
 refine wpAny_call (zM (f:=f) I.kIn M.makes M.init (beq_iff_eq.mp M.fn) (codeAny_mono (F.run _ X.stack _ _ ⟨Value.ref (s.heap.objs.size+1)::us,[]⟩ (Value.ref (s.heap.objs.size+1)::(us++ds)) _ _ E (hr.make C us [])
  (I2.env0.make C us []) (hb _ (Value.ref (s.heap.objs.size+1)::us) I2.kIn hl) r2 hq) λ r s' hq'=>?_))
 cases r with
 | error e=>exact hx pins σ _ _ e s' I2 hq'
 | ok fl=>
  cases fl with
  | ret u=>
   obtain ⟨v,H',I3,rv,ev,q3⟩:=I2.after hq'
   subst ev
   exact ⟨rv,⟨V.ref (s.heap.objs.size+1),H',I3,rfl,q3⟩⟩
  | next=>exact False.elim hq'
  | brk=>exact False.elim hq'
  | cont=>exact False.elim hq'
theorem zH (M:Mk X.K C f) (F:ez X.prog X.w X.K X.mg X.base CX k f fd ps sp) (hr:d3 (k+1) X.A) (hg:Gl X x) (hm:X.mg x=some (.ref C)) (hb:fq X.K fd ps ds) (hd:bc dvs ds) (hx:jA CX X E)
 (hdb:(x==("__debug__" : Str))=false:=by decide):PE X (.Call (.Name x p) [] [] pos) (Dg C sp dvs E lM):=by
 intro pins s σ H Q I h
 refine wpAny_Call_Name_kw (qp I hg hm ?_ hdb)
 exact PySem.W.callWith_K0 I.kIn M.kp (yN (us:=[]) M F hr hb hd hx I .nil h)
end
section
variable {X:Cx} {CX:uJ} {k:Nat} {f C:Addr} {fd:FuncData} {ps ks:List Str} {sp:Sp} {E:XK} {x m:Str} {p pos apos kpos:Pos} {e o:Expr} {es:List Expr} {kws:List Keyword} {te ta:TE} {t tk:TA} {nm:Option Str}
variable {g:List Value->List Value->List Value} {gV:List V->List V->List V}
end
structure fP (N P:List Str) (sc:Scope):Prop where
 kind:sc.kind=.function
 co:sc.isCoroutine=false
 gen:sc.isGenerator=false
 nd:N.Nodup
 pre:N.take P.length=P
 par:∀ x∈P,sc.names.lookup x=some .local∨sc.names.lookup x=some .cell
 nofree:∀ y∈sc.names,y.2≠.free
theorem p6 {kindOf:Str->Option NameKind} {x:Str}:∀ {binds:List (Str×Value)} {m:Str->Option Value},(∀ v,(x,v)∉binds)->bindL kindOf binds m x=m x
 | [],_,_=>rfl
 | (n,v)::r,m,h=>by
  unfold bindL
  rw [p6 λ w hw=>h w (List.mem_cons_of_mem _ hw)]
  split
  . have:x≠n:=by rintro rfl;exact h v List.mem_cons_self
    simp [this]
  . rfl
theorem pj {kindOf:Str->Option NameKind} {x:Str}:∀ {binds:List (Str×Value)} {m:Str->Option Value},(∀ v,(x,v)∉binds)->bindC kindOf binds m x=m x
 | [],_,_=>rfl
 | (n,v)::r,m,h=>by
  unfold bindC
  rw [pj λ w hw=>h w (List.mem_cons_of_mem _ hw)]
  split
  . rfl
  . have:x≠n:=by rintro rfl;exact h v List.mem_cons_self
    simp [this]
theorem oZ {kindOf:Str->Option NameKind} {x:Str} {v:Value}:∀ {P:List Str} {vs:List Value} {i:Nat} {m:Str->Option Value},P.Nodup->P[i]?=some x->vs[i]?=some v->kindOf x=some .local->
 bindL kindOf (P.zip vs) m x=some v
 | [],_,_,_,_,h,_,_=>by simp at h
 | _::_,[],_,_,_,_,h,_=>by simp at h
 | p::P,w::vs,0,m,nd,h1,h2,hk=>by
  simp at h1 h2;subst h1;subst h2
  show bindL kindOf ((p,w)::P.zip vs) m p=_
  unfold bindL
  rw [p6 λ v hv=>(List.nodup_cons.mp nd).1 (List.of_mem_zip hv).1,if_pos hk]
  simp
 | p::P,w::vs,i+1,m,nd,h1,h2,hk=>by
  show bindL kindOf ((p,w)::P.zip vs) m x=_
  unfold bindL
  exact oZ (i:=i) (List.nodup_cons.mp nd).2 (by simpa using h1) (by simpa using h2) hk
theorem oX {kindOf:Str->Option NameKind} {x:Str} {v:Value}:∀ {P:List Str} {vs:List Value} {i:Nat} {m:Str->Option Value},P.Nodup->P[i]?=some x->vs[i]?=some v->kindOf x≠some .local->
 bindC kindOf (P.zip vs) m x=some v
 | [],_,_,_,_,h,_,_=>by simp at h
 | _::_,[],_,_,_,_,h,_=>by simp at h
 | p::P,w::vs,0,m,nd,h1,h2,hk=>by
  simp at h1 h2;subst h1;subst h2
  show bindC kindOf ((p,w)::P.zip vs) m p=_
  unfold bindC
  rw [pj λ v hv=>(List.nodup_cons.mp nd).1 (List.of_mem_zip hv).1,if_neg hk]
  simp
 | p::P,w::vs,i+1,m,nd,h1,h2,hk=>by
  show bindC kindOf ((p,w)::P.zip vs) m x=_
  unfold bindC
  exact oX (i:=i) (List.nodup_cons.mp nd).2 (by simpa using h1) (by simpa using h2) hk
noncomputable def start (N:List Str) (vs:List V):St:=vs.map some++List.replicate (N.length-vs.length) none
noncomputable def uG (CX:uJ) (P:Program) (w:World) (K:Frag) (mg:Str->Option Value) (base:Heap) (N:List Str) (qual:Str) (scope:Scope) (f:Addr) (cd:Value) (A:Around) (outer:List Env) (s:Shared) (H:Hp) (E:XK):Cx where
 prog:=P
 w:=w
 K:=K
 mg:=mg
 base:=base
 A:=A.deeper (envOfC qual scope s.heap.objs.size f cd)
 N:=N
 s₀:=s
 H₀:=H
 env:=envOfC qual scope s.heap.objs.size f cd
 outer:=outer
 stack:=envOfC qual scope s.heap.objs.size f cd::outer
 ex:=[]
 calm:=true
 fn:=λ _=>true
 pn:=[]
 xe:=λ e s'=>wpAny (model P w) (A.deeper (envOfC qual scope s.heap.objs.size f cd)) (leaving (envOfC qual scope s.heap.objs.size f cd) e) (λ _ s''=>CX outer H s E e s'') (λ e' s''=>CX outer H s E e' s'') s'
theorem rj {sc:Scope} {n:Nat} {x:Str} (h:sc.names.lookup x=some .cell):∃ c,(cellsFrom n sc.names []).lookup x=some c:=by
 have q:=PySem.W.cellsFrom_some sc.names n [] (.inl h)
 exact Option.isSome_iff_exists.mp q
theorem wR {CX:uJ} {P:Program} {w:World} {K:Frag} {mg:Str->Option Value} {base:Heap} {N ps:List Str} {qual:Str} {scope:Scope} {f:Addr} {cd:Value} {A:Around} {outer:List Env} {s s1:Shared} {H:Hp} {E:XK} {us:List Value} {vs:List V}
 (S:fP N ps scope) (hd:A.handled=none) (e0:uO P w K mg base A outer s H) (hl:vs.length=ps.length) (r:bc vs us)
 (x:InCallC s s.heap.objs.size (bindL (envOfC qual scope s.heap.objs.size f cd).kindOf (ps.zip us) λ _=>none) (cellsFrom (s.heap.objs.size+1) scope.names []) (bindC (envOfC qual scope s.heap.objs.size f cd).kindOf (ps.zip us) λ _=>none) s1):
 aL (uG CX P w K mg base N qual scope f cd A outer s H E) [] (start N vs) H s1:=by
 have hpl:ps.length<=N.length:=by have:=congrArg List.length S.pre;rw [List.length_take] at this;omega
 obtain ⟨h1,tk,rfl,hk⟩:=x.done
 have noA:∀ b:Addr,b∉(uG CX P w K mg base N qual scope f cd A outer s H E).ex:=λ b z=>absurd (show b∈([]:List Addr) from z) (by simp)
 refine ⟨⟨e0.mod,S.kind,rfl,rfl,Nat.le_refl _,λ y z c h1 h2=>?_,λ y hy=>?_,λ y c _ h=>?_,λ _=>hd,Around.frames_deeper e0.frames,.inr ⟨rfl,rfl⟩,λ b z=>absurd z (noA b),e0.bs,e0.bsz,λ b _ _=>noA b,λ b z=>absurd z (noA b),e0.funs,e0.frf⟩,
  rfl,e0.bare,Un.kept hk,⟨_,x.toInCall.ns,λ i y v h1 h2 h3=>?_⟩,λ y c h=>⟨_,x.cell y c h⟩,e0.hok.fresh (Nat.le_refl _),λ y c h=>?_,λ p hp=>absurd (show p∈([]:List (Addr×Obj)) from hp) (by simp),e0.hok.kept hk,?_⟩
 . exact name_of_addr x.apart (PySem.mem_of_lookup h1) (PySem.mem_of_lookup h2)
 . have hy:scope.names.lookup y=some .cell∨scope.names.lookup y=some .free:=hy
   rcases hy with hy | hy
   . exact rj hy
   . exact absurd rfl (S.nofree _ (PySem.mem_of_lookup hy))
 . exact Nat.le_of_lt (x.above y c (PySem.mem_of_lookup h))
 . have hi:i<vs.length:=by
    unfold start at h2
    by_cases hi:i<vs.length
    . exact hi
    . rw [List.getElem?_append_right (by simpa using hi)] at h2
      rw [List.getElem?_replicate] at h2
      split at h2 <;> cases h2
   have ha:vs[i]?=some v:=by
    unfold start at h2
    rw [List.getElem?_append_left (by simpa using hi),List.getElem?_map] at h2
    cases e:vs[i]? with
    | none=>rw [e] at h2;cases h2
    | some a=>rw [e] at h2;cases h2;rfl
   obtain ⟨u,hu,rv⟩:=r.get ha
   have hp:ps[i]?=some y:=by
    rw [<-S.pre,List.getElem?_take_of_lt (by omega)];exact h1
   have ndP:ps.Nodup:=by rw [<-S.pre];exact S.nd.sublist (List.take_sublist _ _)
   refine ⟨u,rv,?_⟩
   rcases S.par y (List.mem_of_getElem? hp) with k | k
   . exact .inl ⟨k,oZ ndP hp hu k⟩
   . obtain ⟨c,e⟩:=rj (n:=s.heap.objs.size+1) k
     refine .inr ⟨.inl k,c,e,?_⟩
     have q:=x.cell y c e
     rw [oX ndP hp hu (by show scope.names.lookup y≠_;rw [k];decide)] at q
     exact q
 . exact e0.hok.fresh (Nat.le_of_lt (x.above y c (PySem.mem_of_lookup h)))
 . unfold start
   show _=N.length
   rw [List.length_append,List.length_map,List.length_replicate]
   omega
theorem ID {CX:uJ} {P:Program} {w:World} {K:Frag} {mg:Str->Option Value} {base:Heap} {k:Nat} {f:Addr} {name qual:Str} {params:Arguments} {body:List Stmt} {scope:Scope} {dV kV doc pm cdv ct oc:Value} {an od:Option Addr}
 {osl:Array (Option Value)} {N ps:List Str} {sp:Sp} (lk:K.lookup f=some ⟨oc,od,.func (PySem.W.fnOf name qual params body scope dV kV doc pm an cdv ct),osl⟩) (hcd:PySem.W.codeIn K cdv qual=true) (S:fP N ps scope)
 (len:∀ vs H Q E,sp vs H Q E->vs.length=ps.length)
 (hbody:∀ (A:Around) (outer:List Env) (s:Shared) (H:Hp) (vs:List V) (Q:VK) (E:XK),d3 k (A.deeper (envOfC qual scope s.heap.objs.size f cdv))->sp vs H Q E->
  ∃ t,sP (uG CX P w K mg base N qual scope f cdv A outer s H E) body t/\t { nx:=λ _ H'=>Q .non H',rt:=Q } (start N vs) H):
 ez P w K mg base CX (k+1) f (PySem.W.fnOf name qual params body scope dV kV doc pm an cdv ct) ps sp:=by
 refine ⟨len,λ A outer s H args us vs Q E hr e0 hb r hsp=>?_⟩
 have hl:=len _ _ _ _ hsp
 have KX:K.In s.heap:=e0.mod.kin.keeps λ b o e=>(e0.bs b o e).1
 have lim:s.heap.NoLimit:=e0.mod.nolimit.keeps λ b o e=>(e0.bs b o e).1
 have hkind:∀ y∈ps.zip us,scope.names.lookup y.1=some .local∨(scope.names.lookup y.1=some .cell/\((cellsFrom (s.heap.objs.size+1) scope.names []).lookup y.1).isSome=true):=λ ⟨n,v⟩ hy=>by
  rcases S.par n (List.of_mem_zip hy).1 with q | q
  . exact .inl q
  . exact .inr ⟨q,PySem.W.cellsFrom_some _ _ _ (.inl q)⟩
 refine codeAny_call_function hr.depth (KX _ _ lk) rfl S.co S.gen rfl (PySem.W.codeRec_of KX hcd) (hb _ _ _ _ ?_)
 refine wpAny_newFunctionEnv_cells S.kind hkind λ env he s1 x=>?_
 subst he
 refine ⟨lim.keeps x.toInCall.keep,codeAny_func ?_⟩
 obtain ⟨t,ht,hq⟩:=hbody A outer s H vs Q E (hr.deeper _) hsp
 have I:aL (uG CX P w K mg base N qual scope f cdv A outer s H E) [] (start N vs) H s1:=wR S hr.hd e0 hl r x
 refine wpAny_mono (ht [] s1 (start N vs) H _ I hq) (λ fl s' hs=>?_) λ e s' hs=>hs
 have fin:∀ {σ':St} {H':Hp} {v:V} {u:Value},aL (uG CX P w K mg base N qual scope f cdv A outer s H E) [] σ' H' s'->bf v u->Q v H'->CE outer P w H s Q u s':=
  λ {σ' H' v u} J rv q=>⟨v,H',J.os,J.bare,J.base,J.hok,rv,q⟩
 cases fl with
 | ret u=>
  obtain ⟨v,σ',H',J,rv,q⟩:=hs
  exact fin J rv q
 | next=>
  obtain ⟨σ',H',J,q⟩:=hs
  exact fin (v:=V.non) (u:=Value.none) J rfl q
 | brk=>
  obtain ⟨_,_,_,q⟩:=hs
  exact False.elim q
 | cont=>
  obtain ⟨_,_,_,q⟩:=hs
  exact False.elim q
end L2
namespace L2
open PySem PySem.Spec PyProof.Rows
open PySem.W (Frag)
section
variable {X:Cx} {x:Str} {p pos:Pos} {e:Expr} {es:List Expr} {t:TA} {id T:String} {r:List V->Hp->VK->Prop}
noncomputable def Be (r:List V->Hp->VK->Prop) (t:TA):TE:=λ σ H Q=>t σ H λ vs H1=>r vs H1 Q
theorem zD (hc:eI X (.builtin id) r) (hg:Gl X x) (hm:X.mg x=none) (hv:bootBuiltins x=some (.builtin id)) (ha:PA X (e::es) t) (hn:x ≠ "__name__" := by decide) (hdb:(x==("__debug__" : Str))=false:=by decide)
 (he:starEach (e::es) X.env=(false,eval e X.env)::starEach es X.env:=by rfl) (hpl:(backTo pos (starEach es X.env)).any (·.1)=false:=by rfl):PE X (.Call (.Name x p) (e::es) [] pos) (Be r t):=by
 intro pins s σ H Q I h
 refine wpAny_Call_Name_kw (kZ I hg hm hv ?_ hn hdb)
 exact PyProof.Rows.callWith_builtin1 (cm (ha pos pins s σ H _ I h) λ us s1 hy0=>by obtain ⟨vs,H1,I1,r1,q1⟩:=hy0;exact hc pins s1 σ H1 vs us Q I1 r1 q1) he hpl
theorem wQ (hc:eI X (.type T) r) (hg:Gl X x) (hm:X.mg x=none) (hv:bootBuiltins x=some (.type T)) (ha:PA X (e::es) t) (hn:x ≠ "__name__" := by decide) (hdb:(x==("__debug__" : Str))=false:=by decide)
 (he:starEach (e::es) X.env=(false,eval e X.env)::starEach es X.env:=by rfl) (hpl:(backTo pos (starEach es X.env)).any (·.1)=false:=by rfl):PE X (.Call (.Name x p) (e::es) [] pos) (Be r t):=by
 intro pins s σ H Q I h
 refine wpAny_Call_Name_kw (kZ I hg hm hv ?_ hn hdb)
 exact PyProof.Rows.callWith_type1 (cm (ha pos pins s σ H _ I h) λ us s1 hy0=>by obtain ⟨vs,H1,I1,r1,q1⟩:=hy0;exact hc pins s1 σ H1 vs us Q I1 r1 q1) he hpl
end
end L2
namespace HT
open PySem PyProof.Rows
section
open PySem.SeqAt
open PySem.AutoSeq1 (wpAny_loadPart')
open PySem.MeetsSeq PySem.MeetsSeq2 PySem.MeetsSeq3
end
section
variable {prog:Program} {w:World} {A:Around} {E:Value->Shared->Prop} {s:Shared}
theorem cat_tup {t b:Addr} {vs ws:List Value} {Q:Value->Shared->Prop} (ht:IsTup s.heap t vs.toArray) (hb:IsTup s.heap b ws.toArray) (hv:vs≠[])
 (h1:ws=[]->Q (.ref t) s) (h2:ws≠[]->Q (.ref s.heap.objs.size) { s with heap:=s.heap.push { cls:=.type "tuple", data:=.seq (vs++ws).toArray } })
 (hsz:vs.length+ws.length<=sizeLine):wpAny (model prog w) A (binaryOp .Add (.ref t) (.ref b)) Q E s:=by
 obtain ⟨⟨cls,dd,data,sl⟩,ho,hc,n,hd⟩:=id ht
 obtain ⟨⟨cls2,dd2,data2,sl2⟩,ho2,hc2,n2,hd2⟩:=id hb
 simp only at hc hd hc2 hd2
 subst hc hd hc2 hd2
 have e:vs.toArray++ws.toArray=(vs++ws).toArray:=by simp
 by_cases hw:ws=[]
 . exact concat_meets ⟨_,ho,rfl⟩ ⟨_,ho2,rfl⟩ noFill_tuple_add seq_tuple_add PySem.F.slot_tuple_add PySem.F.entry_tuple_add (PySem.F.args_tuple_add_2 _ _)
    (tuple_addW1 t b vs.toArray ws.toArray n n2 dd dd2 sl sl2 (by simpa using hv) (by simp [hw])) ⟨ho,ho2,h1 hw⟩
 . refine concat_meets ⟨_,ho,rfl⟩ ⟨_,ho2,rfl⟩ noFill_tuple_add seq_tuple_add PySem.F.slot_tuple_add PySem.F.entry_tuple_add (PySem.F.args_tuple_add_2 _ _)
    (tuple_addW2 t b vs.toArray ws.toArray n n2 dd dd2 sl sl2 (by simpa using hv) (by simpa using hw) (by rw [List.size_toArray,List.size_toArray];exact hsz)) ⟨ho,ho2,?_⟩
   rw [e]
   exact h2 hw
noncomputable def sIx (n d:Nat):Option Int->Nat
 | none=>d
 | some v=>if v<0 then (v+(n:Int)).toNat else min v.toNat n
theorem sIx_none (n d:Nat):sIx n d none=d:=rfl
theorem sIx_nat (n d k:Nat):sIx n d (some (k:Int))=min k n:=by
 show (if (k:Int)<0 then ((k:Int)+(n:Int)).toNat else min (k:Int).toNat n)=min k n
 rw [if_neg (by omega),Int.toNat_natCast]
theorem Go (n d:Nat) (hd:d<=n) (o:Option Int):sIx n d o<=n:=by
 cases o with
 | none=>exact hd
 | some v=>
  show (if v<0 then (v+(n:Int)).toNat else min v.toNat n)<=n
  by_cases hv:v<0
  . rw [if_pos hv];omega
  . rw [if_neg hv];exact Nat.min_le_right _ _
theorem wD (v:Int) (n d:Nat):(if v<0 then max (v+(n:Int)) 0 else min v (n:Int))=((sIx n d (some v):Nat):Int):=by
 show (if v<0 then max (v+(n:Int)) 0 else min v (n:Int))=(((if v<0 then (v+(n:Int)).toNat else min v.toNat n):Nat):Int)
 by_cases hv:v<0
 . simp only [if_pos hv];omega
 . simp only [if_neg hv];omega
theorem tS (lo hi:Option Int) (n:Nat):Builtin.Slice.sliceAdjust lo hi 1 (n:Int)=(((sIx n 0 lo:Nat):Int),((sIx n n hi:Nat):Int)):=by
 have h1:¬ ((1:Int)<0):=by omega
 unfold Builtin.Slice.sliceAdjust
 simp only [h1,if_false]
 refine Prod.ext ?_ ?_
 . cases lo with
   | none=>rfl
   | some v=>exact wD v n 0
 . cases hi with
   | none=>rfl
   | some v=>exact wD v n n
theorem uI (i j:Nat):Builtin.Slice.slicePlaces (i:Int) (j:Int) 1=j-i:=by
 unfold Builtin.Slice.slicePlaces
 have h1:(1:Int)>0:=by omega
 simp only [h1,if_true,Int.ediv_one]
 split <;> omega
theorem nK {v:Value} {o:Option Int} {Q:Option Int->Shared->Prop} (p:IsPart v o) (h:Q o s):wpAny (model prog w) A (Builtin.Slice.slicePartIndex v) Q E s:=by
 cases p with
 | none=>exact slicePart_none h
 | int i t=>exact slicePart_int h
theorem sliceApplied_gen {sl:Addr} {vl vu:Value} {lo hi:Option Int} {n:Nat} {Q:Int×Int×Nat->Shared->Prop} (hs:s.heap.IsSliceOf sl vl vu .none) (pl:IsPart vl lo) (pu:IsPart vu hi)
 (h:Q (((sIx n 0 lo:Nat):Int),1,sIx n n hi-sIx n 0 lo) s):wpAny (model prog w) A (Builtin.Slice.sliceApplied (.ref sl) (pure (n:Int))) Q E s:=by
 obtain ⟨os,hos,hcs,hds⟩:=id hs
 unfold Builtin.Slice.sliceApplied Builtin.Slice.sliceFields
 refine wpAny_bind (wpAny_bind (wpAny_field hos hds (x:=vl) rfl (wpAny_bind (wpAny_field hos hds (x:=vu) rfl (wpAny_bind (wpAny_field hos hds (x:=.none) rfl (wpAny_pure ?_)))))))
 refine wpAny_bind (slicePart_none ?_)
 show wpAny _ _ (if ((1:Int)==0)=true then _ else _) _ _ s
 rw [if_neg (by decide)]
 refine wpAny_bind (nK pl (wpAny_bind (nK pu (wpAny_bind (wpAny_pure ?_)))))
 show wpAny _ _ (match Builtin.Slice.sliceAdjust lo hi 1 (n:Int) with | (lo,hi)=>pure (lo,(1:Int),Builtin.Slice.slicePlaces lo hi 1)) _ _ s
 rw [tS lo hi n]
 show wpAny _ _ (pure (((sIx n 0 lo:Nat):Int),(1:Int),Builtin.Slice.slicePlaces ((sIx n 0 lo:Nat):Int) ((sIx n n hi:Nat):Int) 1)) _ _ s
 rw [uI]
 exact wpAny_pure h
theorem ye (xs:Array Value) (i k:Nat):((List.range k).filterMap λ (m:Nat)=>xs[((i:Int)+(m:Int)*1).toNat]?).toArray=((xs.toList.drop i).take k).toArray:=by
 have e:(λ (m:Nat)=>xs[((i:Int)+(m:Int)*1).toNat]?)=λ m=>xs[i+m]?:=by
  funext m
  have:((i:Int)+(m:Int)*1).toNat=i+m:=by omega
  rw [this]
 rw [e]
 have:=pick_run xs i k
 rw [List.filterMap_map] at this
 have e2:((λ x=>xs[x]?) ∘ λ x=>i+x)=λ m=>xs[i+m]?:=rfl
 rw [e2] at this
 rw [this]
theorem getItem_tuple_cut {t sl:Addr} {items:Array Value} {vl vu:Value} {lo hi:Option Int} {Q:Value->Shared->Prop} (ht:IsTup s.heap t items) (hs:s.heap.IsSliceOf sl vl vu .none) (pl:IsPart vl lo) (pu:IsPart vu hi)
 (hw:¬ (sIx items.size 0 lo=0/\sIx items.size items.size hi=items.size))
 (h:Q (.ref s.heap.objs.size) { s with heap:=s.heap.push { cls:=.type "tuple", data:=.seq ((items.toList.drop (sIx items.size 0 lo)).take (sIx items.size items.size hi-sIx items.size 0 lo)).toArray } })
 (hsz:items.size<=sizeLine):wpAny (model prog w) A (getItem (.ref t) (.ref sl)) Q E s:=by
 have htake:sizeOk (.seq ((items.toList.drop (sIx items.size 0 lo)).take (sIx items.size items.size hi-sIx items.size 0 lo)).toArray):=by
  show ((items.toList.drop (sIx items.size 0 lo)).take (sIx items.size items.size hi-sIx items.size 0 lo)).toArray.size<=sizeLine
  rw [List.size_toArray,List.length_take,List.length_drop,Array.length_toList]
  omega
 have hj:sIx items.size items.size hi<=items.size:=Go _ _ (Nat.le_refl _) hi
 obtain ⟨os,hos,hcs,hds⟩:=id hs
 have hTs:s.TypeIs (.ref sl) "slice" := ⟨os,hos,hcs⟩
 unfold getItem
 try with_reducible refine wpAny_holding ?_
 first | refine wpAny_bind (wpAny_pure ?_) | skip
 refine wpAny_bind (wpAny_sequenceKey ht.typeIs (by decide) ?_)
 refine wpAny_bind (wpAny_callSpecial?_slot (name:=Str.ofString "__getitem__") ht.typeIs PyProof.Rows.slot_tuple_getitem
  (wpAny_call_entry PyProof.Rows.slot_tuple_getitem ht.typeIs entry_tuple_getitem ?_ (args_tuple_getitem _ _)))
 show wpAny _ _ (Builtin.Tuple.tupleItemsOf (.ref t) >>= _) _ _ s
 refine wpAny_bind (tupleItemsOf_ ht ?_)
 refine wpAny_bind (wpAny_typeOf hTs ?_)
 rw [if_pos (by decide)]
 refine wpAny_bind (sliceApplied_gen hs pl pu ?_)
 have hno:¬ ((((sIx items.size 0 lo:Nat):Int)==0&&(1:Int)==1&&(sIx items.size items.size hi-sIx items.size 0 lo)==items.size)=true):=by
  intro q
  rw [Bool.and_eq_true,Bool.and_eq_true] at q
  have q1:((sIx items.size 0 lo:Nat):Int)=0:=eq_of_beq q.1.1
  have q2:sIx items.size items.size hi-sIx items.size 0 lo=items.size:=eq_of_beq q.2
  exact hw ⟨by omega,by omega⟩
 show wpAny _ _ (if (((sIx items.size 0 lo:Nat):Int)==0&&(1:Int)==1&&(sIx items.size items.size hi-sIx items.size 0 lo)==items.size)=true then _ else _) _ _ s
 rw [if_neg hno,ye]
 first
  | exact wpAny_bind (m:=Builtin.Tuple.tupleExact _) (wpAny_newObj_type (wpAny_pure ⟨_,rfl,wpAny_pure h⟩) htake)
  | exact wpAny_bind (m:=Builtin.Tuple.tupleExact _) (wpAny_newObj_type (wpAny_bind (wpAny_pure (wpAny_pure ⟨_,rfl,wpAny_pure h⟩))) htake)
  | exact wpAny_bind (wpAny_bind (m:=Builtin.Tuple.tupleExact _) (wpAny_newObj_type (wpAny_pure (wpAny_pure ⟨_,rfl,wpAny_pure h⟩)) htake))
  | exact wpAny_bind (wpAny_bind (m:=Builtin.Tuple.tupleExact _) (wpAny_newObj_type (wpAny_pure ⟨_,rfl,wpAny_pure h⟩) htake))
end
end HT
namespace L2
open PySem PySem.Spec PyProof.Rows
open PySem.W (Frag)
noncomputable abbrev TO:=St->Hp->(Option Int->Hp->Prop)->Prop
noncomputable def PO (X:Cx) (e:Option Expr) (t:TO):Prop:=
 ∀ (pins:List (Addr×Obj)) (s:Shared) (σ:St) (H:Hp) (Q:Option Int->Hp->Prop),aL X pins σ H s->t σ H Q->
  wpAny (model X.prog X.w) X.A (evalPart e X.env) (λ u s'=>∃ o H',aL X pins σ H' s'/\IsPart u o/\Q o H') X.xe s
noncomputable def vj:TO:=λ _ H Q=>Q none H
noncomputable def CW (t:TE):TO:=λ σ H Q=>t σ H λ x H1=>∃ i,x=.int i/\Q (some i) H1
section
variable {X:Cx} {e:Expr} {te:TE} {lo hi:Option Expr} {tl th:TO} {pos p2:Pos}
theorem Kb:PO X none vj:=by
 intro pins s σ H Q I h
 rw [evalPart_none]
 exact wpAny_pure ⟨none,H,I,.none,h⟩
theorem JW (h:PE X e te):PO X (some e) (CW te):=by
 intro pins s σ H Q I hw
 rw [evalPart_some]
 refine cm (h pins s σ H _ I hw) λ u s1 hq0=>?_
 obtain ⟨x,H1,I1,r1,q1⟩:=hq0
 obtain ⟨i,rfl,q⟩:=q1
 obtain ⟨t,rfl⟩:=r1
 exact ⟨some i,H1,I1,.int i t,q⟩
noncomputable def BH (X:Cx) (r:V->Option Int->Option Int->Hp->VK->Prop):Prop:=
 ∀ (pins:List (Addr×Obj)) (s:Shared) (σ:St) (H:Hp) (x:V) (v vl vu:Value) (lo hi:Option Int) (sl:Addr) (Q:VK),aL X pins σ H s->bf x v->s.heap.IsSliceOf sl vl vu .none->IsPart vl lo->IsPart vu hi->r x lo hi H Q->
  ∃ T id,typeLookup (.type T) "__getitem__" = pure (some (.builtin id))/\s.TypeIs v T/\wpAny (model X.prog X.w) X.A (getItem v (.ref sl)) (EP X pins σ Q) X.xe s
noncomputable def JA (r:V->Option Int->Option Int->Hp->VK->Prop) (te:TE) (tl th:TO):TE:=λ σ H Q=>te σ H λ x H1=>tl σ H1 λ l H2=>th σ H2 λ u H3=>r x l u H3 Q
theorem HZ {r:V->Option Int->Option Int->Hp->VK->Prop} (hr:BH X r) (he:PE X e te) (hl:PO X lo tl) (hu:PO X hi th):PE X (.Subscript e (.Slice lo hi none p2) pos) (JA r te tl th):=by
 intro pins s σ H Q I h
 refine Subscript_ (cm (he pins s σ H _ I h) λ v s1 hq0=>?_)
 obtain ⟨x,H1,I1,r1,q1⟩:=hq0
 refine wpAny_Slice (cm (hl pins s1 σ H1 _ I1 q1) λ vl s2 hy0=>?_)
 obtain ⟨l,H2,I2,pl,q2⟩:=hy0
 refine cm (hu pins s2 σ H2 _ I2 q2) λ vu s3 hq0=>?_
 obtain ⟨u,H3,I3,pu,q3⟩:=hq0
 rw [evalPart_none]
 refine wpAny_pure ?_
 have I4:aL X pins σ H3 { s3 with heap:=s3.heap.push { cls:=.type "slice", data:=.fields #[vl,vu,.none] } }:=I3.kept (t':=s3.toks) λ b ob q=>Heap.get?_push_of_some _ q
 obtain ⟨T,id,hT,ht,hg⟩:=hr pins { s3 with heap:=s3.heap.push { cls:=.type "slice", data:=.fields #[vl,vu,.none] } } σ H3 x v vl vu l u s3.heap.objs.size Q I4 r1 (Heap.IsSliceOf.new ..) pl pu q3
 show wpAny (model X.prog X.w) X.A (subscriptTail e (.Slice lo hi none p2) v (.ref s3.heap.objs.size)) (EP X pins σ Q) X.xe { s3 with heap:=s3.heap.push { cls:=.type "slice", data:=.fields #[vl,vu,.none] } }
 exact tail_any (ops:=[.ref s3.heap.objs.size,v]) ht hT hg (by with_unfolding_all rfl)
noncomputable def oh (xs:List V) (lo hi:Option Int):List V:=(xs.drop (HT.sIx xs.length 0 lo)).take (HT.sIx xs.length xs.length hi-HT.sIx xs.length 0 lo)
theorem l9 (xs:List V) (lo hi:Option Int):(oh xs lo hi).length<=xs.length:=by
 unfold oh
 rw [List.length_take,List.length_drop]
 omega
noncomputable def Hh (K:Frag):V->Option Int->Option Int->Hp->VK->Prop:=λ x lo hi H Q=>∃ a xs,x=.ref a/\eK K H a xs/\
 ¬ (HT.sIx xs.length 0 lo=0/\HT.sIx xs.length xs.length hi=xs.length)/\∀ p,H p=none->Q (.ref p) (cp H p (.tup (oh xs lo hi)))
theorem Fj:BH X (Hh X.K):=by
 intro pins s σ H x v vl vu lo hi sl Q I rx hs pl pu h
 obtain ⟨a,xs,rfl,hx,hw,q⟩:=h
 cases rx
 obtain ⟨its,r,ht,hz⟩:=I.tuple hx
 have hlen:its.toArray.size=xs.length:=by rw [List.size_toArray];exact r.length.symm
 refine ⟨"tuple", _,PyProof.Rows.slot_tuple_getitem.lookup,ht.typeIs,?_⟩
 refine HT.getItem_tuple_cut ht hs pl pu (by rw [hlen];exact hw) ?_ (by rw [hlen];exact hz)
 rw [hlen]
 refine ⟨.ref s.heap.objs.size,_,I.laid (t':=s.toks) (o:=.tup (oh xs lo hi)) (λ b ob q=>Heap.get?_push_of_some _ q) (Nat.le_refl _) ?_,rfl,q _ (I.hok.fresh (Nat.le_refl _))⟩
 exact ⟨Nat.le_trans (l9 xs lo hi) hz,_,(r.drop (HT.sIx xs.length 0 lo)).take (HT.sIx xs.length xs.length hi-HT.sIx xs.length 0 lo),IsTup.new _ _⟩
noncomputable def Dh (K:Frag):R2:=λ x y H Q=>∃ a b xs ys,x=.ref a/\y=.ref b/\eK K H a xs/\eK K H b ys/\xs≠[]/\xs.length+ys.length<=sizeLine/\
 (ys=[]->Q (.ref a) H)/\(ys≠[]->∀ p,H p=none->Q (.ref p) (cp H p (.tup (xs++ys))))
theorem bc.nil_iff {xs:List V} {us:List Value} (r:bc xs us):us=[]↔xs=[]:=by
 cases r with
 | nil=>simp
 | cons _ _=>simp
theorem CG:fJ X (binaryOp .Add) (Dh X.K):=by
 intro pins s σ H x y v u Q I rx ry h
 obtain ⟨a,b,xs,ys,rfl,rfl,ha,hb,hx,hz,q1,q2⟩:=h
 cases rx
 cases ry
 obtain ⟨its,r1,p1,_⟩:=I.tuple ha
 obtain ⟨its2,r2,p2,_⟩:=I.tuple hb
 refine HT.cat_tup p1 p2 (λ z=>hx (r1.nil_iff.mp z)) (λ z=>⟨.ref a,H,I,rfl,q1 (r2.nil_iff.mp z)⟩) (λ z=>?_) (by rw [<-r1.length,<-r2.length];exact hz)
 refine ⟨.ref s.heap.objs.size,_,I.laid (t':=s.toks) (o:=.tup (xs++ys)) (λ b ob q=>Heap.get?_push_of_some _ q) (Nat.le_refl _) ?_,rfl,q2 (λ w=>z (r2.nil_iff.mpr w)) _ (I.hok.fresh (Nat.le_refl _))⟩
 exact ⟨by rw [List.length_append];exact hz,_,r1.append r2,IsTup.new _ _⟩
end
end L2
namespace L2
open PySem PySem.Spec PyProof.Rows
open PySem.W (Frag)
noncomputable def sQ (n:Nat) (i:Int):Option Nat:=if 0<=i then (if i<n then some i.toNat else none) else if -(n:Int)<=i then some (i+n).toNat else none
noncomputable def fK {α:Type} (xs:List α) (i:Int):Option α:=(sQ xs.length i).bind λ j=>xs[j]?
theorem w5 {n:Nat} {i:Int} {j:Nat} (h:sQ n i=some j):seqIndex? i n=some j/\j<n /\ -(n:Int)<=i/\i<n:=by
 unfold sQ at h
 by_cases h0:0<=i
 . rw [if_pos h0] at h
   by_cases h1:i<n
   . rw [if_pos h1] at h
     have e:i.toNat=j:=Option.some.inj h
     exact ⟨by rw [seqIndex_of h0 h1,e],by omega,by omega,h1⟩
   . rw [if_neg h1] at h;cases h
 . rw [if_neg h0] at h
   by_cases h1 : -(n:Int)<=i
   . rw [if_pos h1] at h
     have e:(i+n).toNat=j:=Option.some.inj h
     exact ⟨by rw [seqIndex_neg (by omega) h1,e],by omega,h1,by omega⟩
   . rw [if_neg h1] at h;cases h
theorem mz {α:Type} {xs:List α} {i:Int} {v:α} (h:fK xs i=some v):∃ j,seqIndex? i xs.length=some j/\xs[j]?=some v/\j<xs.length /\ -(xs.length:Int)<=i/\i<xs.length:=by
 unfold fK at h
 cases e:sQ xs.length i with
 | none=>rw [e] at h;cases h
 | some j=>
  rw [e] at h
  obtain ⟨h1,h2,h3,h4⟩:=w5 e
  exact ⟨j,h1,h,h2,h3,h4⟩
noncomputable def Cc (b:Expr):Prop:=∀ o i,subscripted b false o i=operate [o,i] (getItem o i)
noncomputable def Ac (X:Cx) (r:R2):Prop:=
 ∀ (value slice:Expr) (pins:List (Addr×Obj)) (s:Shared) (σ:St) (H:Hp) (x y:V) (v u:Value) (Q:VK),aL X pins σ H s->bf x v->bf y u->r x y H Q->
  subscripted slice false v u=operate [v,u] (getItem v u)->wpAny (model X.prog X.w) X.A (subscriptTail value slice v u) (EP X pins σ Q) X.xe s
noncomputable def Iw (X:Cx) (id:String) (r:V->List V->Hp->VK->Prop):Prop:=
 ∀ (pins:List (Addr×Obj)) (s:Shared) (σ:St) (H:Hp) (x:V) (xs:List V) (v:Value) (us:List Value) (Q:VK),aL X pins σ H s->bf x v->bc xs us->r x xs H Q->
  wpAny (model X.prog X.w) X.A (call (.builtin id) (v::us)) (EP X pins σ Q) X.xe s
section
variable {X:Cx} {a b:Expr} {ta tb:TE} {pos:Pos}
theorem Ac.or {r r':R2} (h:Ac X r) (h':Ac X r'):Ac X (λ x y H Q=>r x y H Q∨r' x y H Q):=by
 intro value slice pins s σ H x y v u Q I rx ry q hs
 rcases q with q | q
 . exact h value slice pins s σ H x y v u Q I rx ry q hs
 . exact h' value slice pins s σ H x y v u Q I rx ry q hs
theorem LY {r:R2} (hr:Ac X r) (ha:PE X a ta) (hb:PE X b tb) (hs:Cc b):PE X (.Subscript a b pos) (qR r ta tb):=by
 intro pins s σ H Q I h
 exact Subscript_ (EA ha hb I h λ v u s2 x y H2 I2 rx ry q=>hr a b pins s2 σ H2 x y v u Q I2 rx ry q (hs _ _))
noncomputable def Ic (K:Frag):R2:=λ x y H Q=>∃ p xs i v,x=.ref p/\y=.int i/\cC K H p xs/\fK xs i=some v/\Q v H
noncomputable def IE (K:Frag):R2:=λ x y H Q=>∃ p xs i v,x=.ref p/\y=.int i/\eK K H p xs/\fK xs i=some v/\Q v H
noncomputable def IK:R2:=λ x y H Q=>∃ z i c,x=.str z/\y=.int i/\z.length<=sizeLine/\fK z.cps.toList i=some c/\Q (.str ⟨#[c]⟩) H
theorem Bm:Ac X (Ic X.K):=by
 intro value slice pins s σ H x y v u Q I rx ry h hs
 obtain ⟨p,xs,i,z,rfl,rfl,hq,he,q⟩:=h
 cases rx
 obtain ⟨t,rfl⟩:=ry
 obtain ⟨its,r,pl,hz⟩:=I.list hq
 obtain ⟨j,h1,h2,h3,h4,h5⟩:=mz he
 obtain ⟨w,ew,rw'⟩:=r.get h2
 have hl:=r.length
 have hn:=jw
 have fin:EP X pins σ Q w s:=⟨z,H,I,rw',q⟩
 by_cases h0:0<=i
 . have hj:i.toNat=j:=by
    rw [seqIndex_of h0 h5] at h1
    exact Option.some.inj h1
   exact item_listR pl.isList h0 (by omega) (by rw [hj];simpa using ew) fin hs
 . have hj:(i+(its.toArray.size:Int)).toNat=j:=by
    rw [seqIndex_neg (by omega) h4] at h1
    rw [List.size_toArray,<-hl]
    exact Option.some.inj h1
   exact subscriptTail_builtinR (x:=w) pl.isList.typeIs slot_list_getitem.lookup
    (wpAny_getItem_list_neg (Q:=λ r s'=>r=w/\EP X pins σ Q r s') pl.isList (by omega) (by rw [List.size_toArray] <;> omega) (by omega) (by rw [hj];simpa using ew) ⟨rfl,fin⟩) hs
theorem F9:Ac X (IE X.K):=by
 intro value slice pins s σ H x y v u Q I rx ry h hs
 obtain ⟨p,xs,i,z,rfl,rfl,hq,he,q⟩:=h
 cases rx
 obtain ⟨t,rfl⟩:=ry
 obtain ⟨its,r,pl,hz⟩:=I.tuple hq
 obtain ⟨j,h1,h2,h3,h4,h5⟩:=mz he
 obtain ⟨w,ew,rw'⟩:=r.get h2
 have hl:=r.length
 have hn:=jw
 have fin:EP X pins σ Q w s:=⟨z,H,I,rw',q⟩
 exact subscriptTail_builtinR (x:=w) pl.typeIs slot_tuple_getitem.lookup
  (getItem_tuple (j:=j) (Q:=λ r s'=>r=w/\EP X pins σ Q r s') pl (by omega) (by omega) (by rw [List.size_toArray,<-hl];exact h1) (by simpa using ew) ⟨rfl,fin⟩) hs
theorem EC:Ac X IK:=by
 intro value slice pins s σ H x y v u Q I rx ry h hs
 obtain ⟨z,i,c,rfl,rfl,hz,he,q⟩:=h
 obtain ⟨t,rfl⟩:=rx
 obtain ⟨t',rfl⟩:=ry
 obtain ⟨j,h1,h2,h3,h4,h5⟩:=mz he
 have hl:z.cps.toList.length=z.length:=by simp [Str.length]
 rw [hl] at h1 h4 h5
 have hn:=jw
 exact tail_any (typeIs_str s z t) slot_str_getitem.lookup (getItem_str (c:=c) (by
  have e1:decide (i < -(2^63:Int))=false:=decide_eq_false (by omega)
  have e2:decide (i ≥ 2^63)=false:=decide_eq_false (by omega)
  rw [e1,e2,Bool.or_false]) (by rw [h1];simpa using h2) ⟨.str ⟨#[c]⟩,H,I.tok _,⟨_,rfl⟩,q⟩) hs
noncomputable def JU (K:Frag):R2:=λ x y H Q=>Ic K x y H Q∨IE K x y H Q∨IK x y H Q
theorem EJ:Ac X (JU X.K):=Bm.or (F9.or EC)
theorem uk (its:List Value) (n j:Nat) (u:Value):Obj.mapSeq (·.setIfInBounds j u) { cls:=.type "list", data:=.seq its.toArray n }={ cls:=.type "list", data:=.seq (its.set j u).toArray n }:=by
 simp [Obj.mapSeq]
theorem aL.lst {pins:List (Addr×Obj)} {σ:St} {H:Hp} {s:Shared} {p:Addr} {xs:List V} (I:aL X pins σ H s) (h:H p=some (.lst xs)):
 ∃ (its:List Value) (n:Nat),bc xs its/\s.heap.get? p=some { cls:=.type "list", data:=.seq its.toArray n }/\xs.length<=sizeLine:=by
 obtain ⟨z,its,n,r,e⟩:=I.hok p _ h
 exact ⟨its,n,r,e,z⟩
theorem aL.lstUpd {pins:List (Addr×Obj)} {σ:St} {H:Hp} {s:Shared} {p:Addr} {xs ys:List V} {its its':List Value} {n n':Nat} {f:Obj->Obj} (I:aL X pins σ H s) (h:H p=some (.lst xs))
 (ho:s.heap.get? p=some { cls:=.type "list", data:=.seq its.toArray n }) (hf:f { cls:=.type "list", data:=.seq its.toArray n }={ cls:=.type "list", data:=.seq its'.toArray n' }) (r:bc ys its') (hz:ys.length<=sizeLine) (t:Nat):
 aL X pins σ (cp H p (.lst ys)) { s with heap:=s.heap.update p f,toks:=t }:=by
 have e:(s.heap.update p f).get? p=some { cls:=.type "list", data:=.seq its'.toArray n' }:=by
  rw [Heap.get?_update_self f ho (by rw [hf] <;> rfl),hf]
 refine I.write (x:=p) (e:=p) (by rw [h];trivial) (.inl rfl) (λ b u hb q=>(Heap.get?_update_other _ _ (Ne.symm hb)).trans q) ⟨_,e⟩ ?_
 exact ⟨hz,its',n',r,e⟩
noncomputable def vi:V->V->V->Hp->(Hp->Prop)->Prop:=λ o i v H Q=>∃ p xs k j,o=.ref p/\i=.int k/\H p=some (.lst xs)/\sQ xs.length k=some j/\Q (cp H p (.lst (xs.set j v)))
theorem yF:GZ X vi:=by
 intro pins s σ H o i v ov iv u Q I ro ri rv h
 obtain ⟨p,xs,k,j,rfl,rfl,hp,hj,q⟩:=h
 cases ro
 obtain ⟨t,rfl⟩:=ri
 obtain ⟨its,n,r,ho,hz⟩:=I.lst hp
 obtain ⟨h1,h2,h3,h4⟩:=w5 hj
 have hl:=r.length
 have hn:=jw
 have I':aL X pins σ (cp H p (.lst (xs.set j v))) { s with heap:=s.heap.update p (Obj.mapSeq (·.setIfInBounds j u)) }:=
  I.lstUpd hp ho (uk its n j u) (r.set rv j) (by rw [List.length_set];exact hz) s.toks
 by_cases h0:0<=k
 . have hk:k.toNat=j:=by
    rw [seqIndex_of h0 h4] at h1
    exact Option.some.inj h1
   exact PySem.W.ki_setAt ho h0 (by omega) (by rw [List.size_toArray,<-hl];exact h4) (by rw [hk];exact ⟨_,I',q⟩)
 . have hk:(k+(its.toArray.size:Int)).toNat=j:=by
    rw [seqIndex_neg (by omega) h3] at h1
    rw [List.size_toArray,<-hl]
    exact Option.some.inj h1
   exact PySem.W.ki_setBack ho (by omega) (by rw [List.size_toArray,<-hl];exact h3) (by omega) (by rw [hk];exact ⟨_,I',q⟩)
theorem qK (lo hi:Option Int) (n:Nat):(sliceBounds lo hi none n).1=((HT.sIx n 0 lo:Nat):Int)/\(sliceBounds lo hi none n).2.1=((HT.sIx n n hi:Nat):Int)/\(sliceBounds lo hi none n).2.2=1:=by
 refine ⟨?_,?_,rfl⟩
 . cases lo with
   | none=>simp [sliceBounds,HT.sIx]
   | some i=>
    simp only [sliceBounds,HT.sIx,Option.getD_none,show (1:Int)>0 by decide,if_true]
    by_cases h:i<0
    . simp only [h,if_true] <;> omega
    . simp only [h,if_false] <;> omega
 . cases hi with
   | none=>simp [sliceBounds,HT.sIx]
   | some i=>
    simp only [sliceBounds,HT.sIx,Option.getD_none,show (1:Int)>0 by decide,if_true]
    by_cases h:i<0
    . simp only [h,if_true] <;> omega
    . simp only [h,if_false] <;> omega
theorem oy (its:List Value) (lo hi:Option Int):slicePick its.toArray lo hi none=((its.drop (HT.sIx its.length 0 lo)).take (HT.sIx its.length its.length hi-HT.sIx its.length 0 lo)).toArray:=by
 obtain ⟨h1,h2,h3⟩:=qK lo hi its.toArray.size
 unfold slicePick
 rw [h1,h2,h3]
 simp only [sliceRange_one,pick_run,List.size_toArray] <;> rfl
noncomputable def Ju (K:Frag):V->Option Int->Option Int->Hp->VK->Prop:=λ x lo hi H Q=>∃ a xs,x=.ref a/\cC K H a xs/\∀ p,H p=none->Q (.ref p) (cp H p (.lst (oh xs lo hi)))
theorem Bw:BH X (Ju X.K):=by
 intro pins s σ H x v vl vu lo hi sl Q I rx hs pl pu h
 obtain ⟨a,xs,rfl,hx,q⟩:=h
 cases rx
 obtain ⟨its,r,ht,hz⟩:=I.list hx
 have hlen:=r.length
 refine ⟨"list", _,slot_list_getitem.lookup,ht.isList.typeIs,?_⟩
 refine wpAny_getItem_list_slice ht.isList hs pl pu .none (by simp) ?_ (by rw [List.size_toArray] <;> omega)
 rw [oy,<-hlen]
 refine ⟨.ref s.heap.objs.size,_,I.laid (t':=s.toks) (o:=.lst (oh xs lo hi)) (λ b ob q=>Heap.get?_push_of_some _ q) (Nat.le_refl _) ?_,rfl,q _ (I.hok.fresh (Nat.le_refl _))⟩
 exact ⟨Nat.le_trans (l9 xs lo hi) hz,_,0,(r.drop (HT.sIx xs.length 0 lo)).take (HT.sIx xs.length xs.length hi-HT.sIx xs.length 0 lo),Heap.get?_push_size _ rfl⟩
noncomputable def f8:V->Bool
 | .non=>true
 | .bl _=>true
 | .int _=>true
 | .str _=>true
 | _=>false
noncomputable def AO:V->V->Bool
 | .non,.non=>true
 | .bl a,.bl b=>a==b
 | .bl a,.int b=>(if a then 1 else 0)==b
 | .int a,.bl b=>a==(if b then 1 else 0)
 | .int a,.int b=>a==b
 | .str a,.str b=>a==b
 | _,_=>false
theorem EZ {A:Around} {s:Shared} {y x:V} {u v:Value} (ry:bf y u) (rx:bf x v) (fy:f8 y=true) (fx:f8 x=true):SeqAt.EqAt A s u v (AO y x):=by
 cases y with
 | non=>
  cases ry
  cases x with
  | non=>cases rx;exact SeqAt.EqAt.same _
  | bl b=>cases rx;exact SeqAt.EqAt.none_bool b
  | int b=>obtain ⟨t,rfl⟩:=rx;exact SeqAt.EqAt.none_int b t
  | str b=>obtain ⟨t,rfl⟩:=rx;exact SeqAt.EqAt.none_str b t
  | _=>exact absurd (show false=true from fx) Bool.false_ne_true
 | bl a=>
  cases ry
  cases x with
  | non=>cases rx;exact SeqAt.EqAt.bool_none a
  | bl b=>cases rx;exact SeqAt.EqAt.bool_bool a b
  | int b=>obtain ⟨t,rfl⟩:=rx;exact SeqAt.EqAt.bool_int a b t
  | str b=>obtain ⟨t,rfl⟩:=rx;exact SeqAt.EqAt.bool_str a b t
  | _=>exact absurd (show false=true from fx) Bool.false_ne_true
 | int a=>
  obtain ⟨t',rfl⟩:=ry
  cases x with
  | non=>cases rx;exact SeqAt.EqAt.int_none a t'
  | bl b=>cases rx;exact SeqAt.EqAt.int_bool a t' b
  | int b=>obtain ⟨t,rfl⟩:=rx;exact SeqAt.EqAt.int_int a t' b t
  | str b=>obtain ⟨t,rfl⟩:=rx;exact SeqAt.EqAt.int_str a t' b t
  | _=>exact absurd (show false=true from fx) Bool.false_ne_true
 | str a=>
  obtain ⟨t',rfl⟩:=ry
  cases x with
  | non=>cases rx;exact SeqAt.EqAt.str_none a t'
  | bl b=>cases rx;exact SeqAt.EqAt.str_bool a t' b
  | int b=>obtain ⟨t,rfl⟩:=rx;exact SeqAt.EqAt.str_int a t' b t
  | str b=>obtain ⟨t,rfl⟩:=rx;exact SeqAt.EqAt.str_str a t' b t
  | _=>exact absurd (show false=true from fx) Bool.false_ne_true
 | _=>exact absurd (show false=true from fy) Bool.false_ne_true
noncomputable def uq (x:V) (u:Value):Bool:=match u with
 | .none=>AO .non x
 | .bool b=>AO (.bl b) x
 | .int i _=>AO (.int i) x
 | .str z _=>AO (.str z) x
 | _=>false
theorem za {x y:V} {u:Value} (r:bf y u) (f:f8 y=true):uq x u=AO y x:=by
 cases y with
 | non=>cases r;rfl
 | bl b=>cases r;rfl
 | int i=>obtain ⟨t,rfl⟩:=r;rfl
 | str z=>obtain ⟨t,rfl⟩:=r;rfl
 | _=>exact absurd (show false=true from f) Bool.false_ne_true
theorem my {x:V} {xs:List V} {us:List Value} (h:bc xs us):xs.all f8=true->us.any (uq x)=xs.any λ y=>AO y x:=by
 induction h with
 | nil=>exact λ _=>rfl
 | cons r _ ih=>
  intro f
  rw [List.all_cons,Bool.and_eq_true] at f
  rw [List.any_cons,List.any_cons,za r f.1,ih f.2]
theorem jS {A:Around} {s:Shared} {x:V} {v:Value} (rx:bf x v) (fx:f8 x=true):∀ {xs:List V} {us:List Value},bc xs us->xs.all f8=true->∀ u∈us,SeqAt.EqAt A s u v (uq x u):=λ h f u' hu=>by
 induction h with
 | nil=>cases hu
 | cons r _ ih=>
  rw [List.all_cons,Bool.and_eq_true] at f
  rcases List.mem_cons.mp hu with rfl | hu
  . rw [za r f.1];exact EZ r rx f.1 fx
  . exact ih f.2 hu
noncomputable def EO (x:V) (xs:List V):Bool:=xs.any λ y=>AO y x
noncomputable def DZ (K:Frag) (neg:Bool):R2:=λ x y H Q=>∃ p xs,y=.ref p/\(cC K H p xs∨eK K H p xs)/\f8 x=true/\xs.all f8=true/\Q (.bl (if neg then !EO x xs else EO x xs)) H
theorem pw:fJ X (compareOp .In) (DZ X.K false):=by
 intro pins s σ H x y v u Q I rx ry h
 obtain ⟨p,xs,rfl,hq,fx,fs,q⟩:=h
 cases ry
 rcases hq with hq | hq
 . obtain ⟨its,r,pl,hz⟩:=I.list hq
   refine SeqAt.in_listAt (uq x) pl.isList (λ w hw=>jS rx fx r fs w (by simpa using hw)) ⟨.bl _,H,I,rfl,?_⟩
   rw [show its.toArray.any (uq x)=its.any (uq x) by simp,my r fs]
   exact q
 . obtain ⟨its,r,pl,hz⟩:=I.tuple hq
   refine SeqAt.in_tupleAt (uq x) pl (λ w hw=>jS rx fx r fs w (by simpa using hw)) ⟨.bl _,H,I,rfl,?_⟩
   rw [show its.toArray.any (uq x)=its.any (uq x) by simp,my r fs]
   exact q
theorem pR:fJ X (compareOp .NotIn) (DZ X.K true):=by
 intro pins s σ H x y v u Q I rx ry h
 obtain ⟨p,xs,rfl,hq,fx,fs,q⟩:=h
 cases ry
 rcases hq with hq | hq
 . obtain ⟨its,r,pl,hz⟩:=I.list hq
   refine SeqAt.notIn_listAt (uq x) pl.isList (λ w hw=>jS rx fx r fs w (by simpa using hw)) ⟨.bl _,H,I,rfl,?_⟩
   rw [show its.toArray.any (uq x)=its.any (uq x) by simp,my r fs]
   exact q
 . obtain ⟨its,r,pl,hz⟩:=I.tuple hq
   refine SeqAt.notIn_tupleAt (uq x) pl (λ w hw=>jS rx fx r fs w (by simpa using hw)) ⟨.bl _,H,I,rfl,?_⟩
   rw [show its.toArray.any (uq x)=its.any (uq x) by simp,my r fs]
   exact q
theorem qv:eI X (.builtin "len") (λ xs H Q=>∃ p ys,xs=[.ref p]/\(cC X.K H p ys∨eK X.K H p ys)/\Q (.int ys.length) H):=by
 intro pins s σ H xs us Q I r h
 obtain ⟨p,ys,rfl,hq,q⟩:=h
 obtain ⟨u,rfl,rx⟩:=wx r
 cases rx
 have hn:=jw
 rcases hq with hq | hq
 . obtain ⟨its,r',pl,hz⟩:=I.list hq
   have hlen:=r'.length
   exact Calls.call_len_list pl.isList (by simp only [List.size_toArray] <;> omega) ⟨.int ys.length,H,I.tok _,⟨s.toks+1,by rw [List.size_toArray,hlen]⟩,q⟩
 . obtain ⟨its,r',pl,hz⟩:=I.tuple hq
   have hlen:=r'.length
   exact len_tuple pl (by simp only [List.size_toArray] <;> omega) ⟨.int ys.length,H,I.tok _,⟨s.toks+1,by rw [List.size_toArray,hlen]⟩,q⟩
theorem qE:eI X (.builtin "len") (λ xs H Q=>∃ z,xs=[.str z]/\z.length<=sizeLine/\Q (.int z.length) H):=by
 intro pins s σ H xs us Q I r h
 obtain ⟨z,rfl,hz,q⟩:=h
 obtain ⟨u,rfl,t,rfl⟩:=wx r
 have hn:=jw
 exact len_str (by omega) ⟨.int z.length,H,I.tok _,⟨_,rfl⟩,q⟩
theorem eI.or {f:Value} {r r':List V->Hp->VK->Prop} (h:eI X f r) (h':eI X f r'):eI X f (λ xs H Q=>r xs H Q∨r' xs H Q):=by
 intro pins s σ H xs us Q I rs q
 rcases q with q | q
 . exact h pins s σ H xs us Q I rs q
 . exact h' pins s σ H xs us Q I rs q
theorem qH:eI X (.type "list") (λ xs H Q=>∃ p ys,xs=[.ref p]/\(cC X.K H p ys∨eK X.K H p ys)/\∀ l,H l=none->Q (.ref l) (cp H l (.lst ys))):=by
 intro pins s σ H xs us Q I r h
 obtain ⟨p,ys,rfl,hq,q⟩:=h
 obtain ⟨u,rfl,rx⟩:=wx r
 cases rx
 have fin:∀ (its:List Value),bc ys its->ys.length<=sizeLine->∀ (h':Heap) (c':Nat),(∀ b o',s.heap.get? b=some o'->h'.get? b=some o')->
  h'.get? s.heap.objs.size=some { cls:=.type "list", dict:=none,data:=.seq its.toArray c',slots:=#[] }->EP X pins σ Q (.ref s.heap.objs.size) { s with heap:=h' }:=λ its r' hz h' c' kp e=>
  ⟨.ref s.heap.objs.size,_,I.laid (t':=s.toks) kp (Nat.le_refl _) (show cR X.prog X.w _ h' _ (.lst ys) from ⟨hz,its,c',r',e⟩),rfl,q _ (I.hok.fresh (Nat.le_refl _))⟩
 rcases hq with hq | hq
 . obtain ⟨its,r',pl,hz⟩:=I.list hq
   have hlen:=r'.length
   obtain ⟨o,ho,hc,n,hd⟩:=pl.isList
   exact call_list_seq p (.inl rfl) ho hc hd (λ h' c' kp e=>fin its r' hz h' c' kp e) (by simp only [List.size_toArray] <;> omega)
 . obtain ⟨its,r',pl,hz⟩:=I.tuple hq
   have hlen:=r'.length
   obtain ⟨o,ho,hc,n,hd⟩:=pl
   exact call_list_seq p (.inr rfl) ho hc hd (λ h' c' kp e=>fin its r' hz h' c' kp e) (by simp only [List.size_toArray] <;> omega)
noncomputable def Kw (K:Frag) (T:String) (x:V) (H:Hp):Prop:=match x with
 | .str _=>T = "str"
 | .int _=>T = "int"
 | .ref p=>(T = "list" /\ ∃ xs,cC K H p xs)∨(T = "tuple" /\ ∃ o,K.lookup p=some o/\o.cls=.type "tuple" /\ o.dict=none)∨
  (T = "dict" /\ ((∃ kvs,H p=some (.dK kvs))∨∃ kvs,H p=some (.dT kvs)))∨(T = "set" /\ ∃ S n,H p=some (.set S n))
 | _=>False
theorem yM {pins:List (Addr×Obj)} {σ:St} {H:Hp} {s:Shared} {T:String} {x:V} {v:Value} (I:aL X pins σ H s) (r:bf x v) (ty:Kw X.K T x H):
 s.TypeIs v T/\∀ a,v=.ref a->∃ ob,s.heap.get? a=some ob/\ob.dict=none:=by
 cases x with
 | str z=>
  obtain ⟨t,rfl⟩:=r
  cases (show T = "str" from ty)
  exact ⟨typeIs_str s z t,λ _ e=>nomatch e⟩
 | int i=>
  obtain ⟨t,rfl⟩:=r
  cases (show T = "int" from ty)
  exact ⟨typeIs_int s i t,λ _ e=>nomatch e⟩
 | ref p=>
  cases r
  rcases ty with ⟨rfl,xs,hq⟩ | ⟨rfl,o,hk,hc,hd⟩ | ⟨rfl,hk⟩ | ⟨rfl,S,n,hk⟩
  . obtain ⟨its,_,pl,_⟩:=I.list hq
    refine ⟨pl.isList.typeIs,λ a e=>?_⟩
    cases e
    obtain ⟨o,n,e,c,hd,_⟩:=pl
    exact ⟨o,e,hd⟩
  . refine ⟨⟨o,I.kIn p o hk,hc⟩,λ a e=>?_⟩
    cases e
    exact ⟨o,I.kIn _ o hk,hd⟩
  . have z:∃ o,s.heap.get? p=some o/\o.ExactDict:=by
     rcases hk with ⟨kvs,hk⟩ | ⟨kvs,hk⟩
     . obtain ⟨_,_,_,_,o,_,_,e,ex,_⟩:=I.hok p _ hk
       exact ⟨o,e,ex⟩
     . obtain ⟨_,_,_,_,o,_,_,e,ex,_⟩:=I.hok p _ hk
       exact ⟨o,e,ex⟩
    obtain ⟨o,e,ex⟩:=z
    refine ⟨⟨o,e,ex.1⟩,λ a e2=>?_⟩
    cases e2
    exact ⟨o,e,ex.2.1⟩
  . obtain ⟨o,_,_,_,e,ex,_⟩:=I.hok p _ hk
    refine ⟨⟨o,e,ex.1⟩,λ a e2=>?_⟩
    cases e2
    exact ⟨o,e,ex.2.1⟩
 | _=>exact False.elim ty
noncomputable def AR (K:Frag) (T:String) (r:V->List V->Hp->VK->Prop) (to:TE):TE:=λ σ H Q=>to σ H λ x H1=>Kw K T x H1/\r x [] H1 Q
noncomputable def GP (K:Frag) (T:String) (r:V->List V->Hp->VK->Prop) (to:TE) (t:TA):TE:=λ σ H Q=>to σ H λ x H1=>Kw K T x H1/\t σ H1 λ xs H2=>r x xs H2 Q
variable {o e:Expr} {es:List Expr} {to:TE} {t:TA} {name:Str} {apos cpos:Pos} {T id:String} {r:V->List V->Hp->VK->Prop}
theorem Gp (pa:PlainAttrs T) (slot:Slot T name id) (hty:typeOf (.builtin id)=pure (.type "method_descriptor")) (hm:Iw X id r) (ho:PE X o to)
 (hbase:attributeBase o name X.env (eval o X.env)=eval o X.env:=by rfl) (hline:(apos.endLine==cpos.line)=true:=by rfl):PE X (.Call (.Attribute o name apos) [] [] cpos) (AR X.K T r to):=by
 intro pins s σ H Q I h
 refine wpAny_Call_method0_late hbase hline (cm (ho pins s σ H _ I h) λ v s1 hq0=>?_)
 obtain ⟨x,H1,I1,r1,ty,q1⟩:=hq0
 obtain ⟨h1,h2⟩:=yM I1 r1 ty
 exact ⟨T,id,pa,slot,hty,h1,h2,Calls.callWith_builtin rfl (PySem.evalArgs_none (hm pins s1 σ H1 x [] v [] Q I1 r1 .nil q1))⟩
theorem Ib (pa:PlainAttrs T) (slot:Slot T name id) (hty:typeOf (.builtin id)=pure (.type "method_descriptor")) (hm:Iw X id r) (ho:PE X o to) (ha:PA X (e::es) t)
 (hbase:attributeBase o name X.env (eval o X.env)=eval o X.env:=by rfl)
 (hfew:((backTo cpos (starEach (e::es) X.env)).all (λ x=>!x.1)&&(backToKw cpos (keywordEach [] X.env)).all (λ x=>x.1.isSome)
  && decide ((e::es).length+([]:List Keyword).length+(if ([]:List Keyword).isEmpty then 0 else 1)<30))=true:=by rfl)
 (hline:(apos.endLine==cpos.line)=true:=by rfl) (hs:starEach (e::es) X.env=(false,eval e X.env)::starEach es X.env:=by rfl) (hplain:(backTo cpos (starEach es X.env)).any (·.1)=false:=by rfl):
 PE X (.Call (.Attribute o name apos) (e::es) [] cpos) (GP X.K T r to t):=by
 intro pins s σ H Q I h
 refine wpAny_Call_method_late hbase hfew hline rfl (cm (ho pins s σ H _ I h) λ v s1 hq0=>?_)
 obtain ⟨x,H1,I1,r1,ty,q1⟩:=hq0
 obtain ⟨h1,h2⟩:=yM I1 r1 ty
 refine ⟨T,id,pa,slot,hty,h1,h2,?_⟩
 have hA:=ha cpos pins s1 σ H1 _ I1 q1
 rw [hs] at hA ⊢
 refine Calls.callWith_builtin (by show (false||(backTo cpos (starEach es X.env)).any (·.1))=false;rw [hplain] <;> rfl) (Calls.evalArgs_plain ?_)
 exact cm hA λ us s2 hy0=>by obtain ⟨vs,H2,I2,r2,q2⟩:=hy0;exact hm pins s2 σ H2 x vs v us Q I2 r1 r2 q2
end
end L2
namespace L2
open PySem PySem.Spec PyProof.Rows
open PySem.W (Frag)
noncomputable def K1 (X:Cx) (id:String) (r:V->List V->Hp->VK->Prop):Prop:=
 ∀ (pins:List (Addr×Obj)) (s:Shared) (σ:St) (H:Hp) (x:V) (xs:List V) (v:Value) (us:List Value) (Q:VK),aL X pins σ H s->bf x v->bc xs us->r x xs H Q->
  wpAny (model X.prog X.w) X.A (call (.builtin id) (v::us)) (EP X pins σ Q) X.xe s
theorem bc.one {x:V} {us:List Value} (h:bc [x] us):∃ u,us=[u]/\bf x u:=by
 cases h with
 | cons r t=>cases t;exact ⟨_,rfl,r⟩
theorem bc.zero:∀ {us:List Value},bc [] us->us=[]
 | _,.nil=>rfl
theorem bc.dropLast {xs:List V} {us:List Value} (h:bc xs us):bc xs.dropLast us.dropLast:=by
 induction h with
 | nil=>exact .nil
 | cons r t ih=>
  cases t with
  | nil=>exact .nil
  | cons q t'=>exact .cons r ih
theorem bc.rep {xs:List V} {us:List Value} (h:bc xs us):∀ k:Nat,bc (List.replicate k xs).flatten (List.replicate k us).flatten
 | 0=>.nil
 | k+1=>by
  rw [List.replicate_succ,List.replicate_succ,List.flatten_cons,List.flatten_cons]
  exact bc.append h (bc.rep h k)
theorem ua {α:Type} (l:List α):l.eraseIdx (l.length-1)=l.dropLast:=by
 induction l with
 | nil=>rfl
 | cons a r ih=>
  cases r with
  | nil=>rfl
  | cons b r=>
   have e:(a::b::r).length-1=((b::r).length-1)+1:=by
    have h1:(a::b::r).length=r.length+2:=rfl
    have h2:(b::r).length=r.length+1:=rfl
    omega
   rw [e,List.eraseIdx_cons_succ,ih]
   all_goals rfl
theorem pq (its:List Value):∀ (k:Nat) (acc:List Value),
 List.foldl (λ x1 x2=>x1++x2) acc.toArray (List.replicate k its.toArray)=(acc++(List.replicate k its).flatten).toArray
 | 0,acc=>by simp
 | k+1,acc=>by
  have e:acc.toArray++its.toArray=(acc++its).toArray:=by simp
  have e2:(acc++its)++(List.replicate k its).flatten=acc++(List.replicate (k+1) its).flatten:=by
   rw [List.replicate_succ,List.flatten_cons,List.append_assoc]
  rw [<-e2,<-pq its k (acc++its),<-e,List.replicate_succ,List.foldl_cons]
section
variable {X:Cx} {pins:List (Addr×Obj)} {σ:St} {H:Hp} {s:Shared} {l b:Addr} {xs ys zs:List V}
theorem aL.lset {its its':List Value} {n:Nat} {f:Array Value->Array Value} {t':Nat} (I:aL X pins σ H s) (hH:H l=some (.lst xs))
 (e:s.heap.get? l=some { cls:=.type "list", data:=.seq its.toArray n }) (hf:f its.toArray=its'.toArray) (hv:bc ys its') (hz:ys.length<=sizeLine):
 aL X pins σ (cp H l (.lst ys)) { s with heap:=s.heap.update l (Obj.mapSeq f),toks:=t' }:=by
 have q:=PySem.IsL.update e f
 rw [hf] at q
 refine I.write (x:=l) (e:=l) (by rw [hH];exact trivial) (.inl rfl) (λ b' u hb hu=>(Heap.get?_update_other s.heap (Obj.mapSeq f) (Ne.symm hb)).trans hu) ⟨_,q⟩ ?_
 exact ⟨hz,its',_,hv,q⟩
theorem aL.lnew {its:List Value} {t':Nat} (I:aL X pins σ H s) (hv:bc ys its) (hz:ys.length<=sizeLine):
 aL X pins σ (cp H s.heap.objs.size (.lst ys)) { s with heap:=s.heap.push { cls:=.type "list", data:=.seq its.toArray },toks:=t' }:=
 I.laid (λ _ _ q=>Heap.get?_push_of_some _ q) (Nat.le_refl _) ⟨hz,its,0,hv,Heap.get?_push_size _ rfl⟩
theorem aL.fresh (I:aL X pins σ H s):H s.heap.objs.size=none:=I.hok.fresh (Nat.le_refl _)
theorem aL.lstM (I:aL X pins σ H s) (hH:H l=some (.lst xs)):xs.length<=sizeLine/\∃ (its:List Value) (n:Nat),bc xs its/\xs.length=its.length/\s.heap.get? l=some { cls:=.type "list", data:=.seq its.toArray n }:=by
 obtain ⟨z,its,n,r,e⟩:=I.hok l _ hH
 exact ⟨z,its,n,r,r.length,e⟩
theorem sf {n:Nat} (h:n<=sizeLine):Builtin.List.listTooLong n=false:=by
 unfold Builtin.List.listTooLong
 exact decide_eq_false (by omega)
end
section
variable {X:Cx}
noncomputable def lZ:V->List V->Hp->VK->Prop:=λ x vs H Q=>∃ l xs y,x=.ref l/\vs=[y]/\H l=some (.lst xs)/\xs.length<sizeLine/\Q .non (cp H l (.lst (xs++[y])))
theorem xl:K1 X "list.append" lZ:=by
 intro pins s σ H x vs v us Q I rx rv h
 obtain ⟨l,xs,y,rfl,rfl,hH,hz,q⟩:=h
 cases rx
 obtain ⟨u,rfl,ru⟩:=rv.one
 obtain ⟨z,its,n,r,hl,e⟩:=I.lstM hH
 refine call_meets F.slot_list_append ⟨_,e,rfl⟩ F.entry_list_append (F.args_list_append_2 _ _) (PySem.list_append l its.toArray n u (by rw [List.size_toArray];omega)) ⟨e,?_⟩
 refine ⟨.non,_,I.lset (its':=its++[u]) hH e (by simp) (r.append (.cons ru .nil)) ?_,rfl,q⟩
 rw [List.length_append,List.length_singleton]
 omega
noncomputable def Er:V->List V->Hp->VK->Prop:=λ x vs H Q=>∃ l xs y,x=.ref l/\vs=[]/\H l=some (.lst xs)/\xs[xs.length-1]?=some y/\Q y (cp H l (.lst xs.dropLast))
theorem F0:K1 X "list.pop" Er:=by
 intro pins s σ H x vs v us Q I rx rv h
 obtain ⟨l,xs,y,rfl,rfl,hH,hy,q⟩:=h
 cases rx
 have hus:=rv.zero
 subst hus
 obtain ⟨z,its,n,r,hl,e⟩:=I.lstM hH
 obtain ⟨u,hu,ru⟩:=r.get hy
 have hy':its.toArray[its.toArray.size-1]?=some u:=by
  show its.toArray[its.length-1]?=some u
  rw [<-Array.getElem?_toList,<-hl]
  exact hu
 refine call_meets F.slot_list_pop ⟨_,e,rfl⟩ F.entry_list_pop (F.args_list_pop_1 _) (MeetsSeq.list_pop_last l its.toArray n u hy' (by rw [List.size_toArray];omega)) ⟨e,?_⟩
 refine ⟨y,_,I.lset (its':=its.dropLast) hH e ?_ r.dropLast ?_,ru,q⟩
 . show its.toArray.eraseIdxIfInBounds (its.toArray.size-1)=its.dropLast.toArray
   rw [List.size_toArray,List.eraseIdxIfInBounds_toArray,ua]
 . rw [List.length_dropLast]
   omega
noncomputable def I0:R2:=λ x y H Q=>∃ l k xs,x=.ref l/\y=.int k/\H l=some (.lst xs) /\ -(2^63)<=k/\k<2^63/\xs.length*k.toNat<=sizeLine/\
 ∀ p,H p=none->Q (.ref p) (cp H p (.lst (List.replicate k.toNat xs).flatten))
theorem BQ {α:Type} (xs:List α) (k:Nat):(List.replicate k xs).flatten.length=k*xs.length:=by
 induction k with
 | zero=>simp
 | succ k ih=>rw [List.replicate_succ,List.flatten_cons,List.length_append,ih,Nat.succ_mul,Nat.add_comm]
theorem K9:fJ X (binaryOp .Mult) I0:=by
 intro pins s σ H x y v u Q I rx ry h
 obtain ⟨l,k,xs,rfl,rfl,hH,h1,h2,hz,q⟩:=h
 cases rx
 obtain ⟨t,rfl⟩:=ry
 obtain ⟨z,its,n,r,hl,e⟩:=I.lstM hH
 have hlen:its.toArray.size*k.toNat<=sizeLine:=by rw [List.size_toArray,<-hl];exact hz
 have hcap:¬ its.toArray.size*k.toNat>(2^63-1) / 8:=by
  have:(sizeLine:Nat)<=(2^63-1) / 8:=by decide
  omega
 have hfit:¬ (!Builtin.List.listFitsIndex k)=true:=by
  rw [fitsIndex_both h1 h2]
  exact Bool.false_ne_true
 have hlong:¬ Builtin.List.listTooLong (its.toArray.size*k.toNat)=true:=by
  rw [sf hlen]
  exact Bool.false_ne_true
 have hnew:List.foldl (λ x1 x2=>x1++x2) #[] (List.replicate (if its.toArray.isEmpty=true then 0 else k.toNat) its.toArray)=(List.replicate k.toNat its).flatten.toArray:=by
  have f0:∀ m:Nat,List.foldl (λ x1 x2=>x1++x2) #[] (List.replicate m its.toArray)=(List.replicate m its).flatten.toArray:=λ m=>by
   have:=pq its m []
   rw [List.nil_append] at this
   exact this
  rw [f0]
  cases its with
  | nil=>simp
  | cons a r'=>rw [if_neg (by simp)]
 refine wpAny_binaryOp_repeat_ref (T := "list") (U := "int") (by decide) ⟨_,e,rfl⟩ (λ s'=>typeIs_int s' k t) noFill_list_mul F.fills_int_mul F.slot_int_rmul repeat_list F.slot_int_index.lookup
  (call_meets F.slot_int_rmul (typeIs_int s k t) F.entry_int_rmul (F.args_int_rmul_2 _ _) (int___rmul___int_list k t l its.toArray n)
   ⟨e,rfl,⟨_,e,rfl⟩,call_meets F.slot_list_mul ⟨_,e,rfl⟩ F.entry_list_mul (F.args_list_mul_2 _ _) (AutoListH.list___mul___list_int_3 l its.toArray n k t hfit hcap hlong) ⟨e,?_⟩⟩)
 rw [hnew]
 exact ⟨.ref _,_,I.lnew (t':=s.toks) (r.rep k.toNat) (by rw [BQ,Nat.mul_comm];exact hz),rfl,q _ I.fresh⟩
end
section
variable {prog:Program} {w:World} {A:Around} {E:Value->Shared->Prop} {s:Shared}
end
section
variable {X:Cx}
end
end L2
namespace Att
open PySem PySem.W PySem.Calls PyProof.Rows
theorem lP {P:Params} {h:Heap}:∀ (ns:List Int) (vs:List Value),WellAll P h vs (ns.map WData.int)->IntsAre vs ns:=by
 intro ns
 induction ns with
 | nil=>
  intro vs w
  rw [List.map_nil] at w
  cases w
  exact .nil
 | cons n ns ih=>
  intro vs w
  rw [List.map_cons] at w
  cases w with
  | cons a b=>
   cases a
   exact .cons _ _ (ih _ b)
theorem xK {l:OpenLaw} {n:Nat} (hn:l.most=some n) {P:Params} {h:Heap} {args:List WData} {vals:List Value}
 (hpre:l.row.toRowW.claim.pre args=true) (hwl:WellAll P h vals args):
 ∃ a vs ns,vals=[Value.ref a]/\args=[WData.list (ns.map WData.int)]/\h.get? a=some { cls:=.type "list", data:=.seq vs.toArray }/\IntsAre vs ns/\ns.length<=n:=by
 have hsh:WShape.hasAll [] args [.list .int]=true:=(pre_splitW hpre).1
 have hc:l.pre.holds [] { args:=args }=true:=(pre_splitW hpre).2
 obtain ⟨d,r,rfl,h1,h2⟩:=hasAllW_cons hsh
 obtain rfl:=hasAllW_nil h2
 obtain ⟨xs,rfl,h3⟩:=hasW_list h1
 obtain ⟨ns,rfl⟩:=items_int h3
 have hlen:ns.length<=n:=by
  unfold OpenLaw.pre at hc
  have h4:(WTm.not (.lt (.lit (.int (n:Int))) (.len (.arg 0)))).holds [] { args:=[.list (ns.map .int)] }=true:=by
   have h4:=(holds_andW hc).1
   rw [hn] at h4
   exact h4
  have h5:=condW_of h4 (w_not (w_lt w_lit (w_len_list (w_arg rfl))))
  rw [List.length_map] at h5
  refine Nat.le_of_not_lt λ q=>?_
  have q':(n:Int)<((ns.length:Nat):Int):=by omega
  first
   | (rw [decide_eq_true q'] at h5;exact absurd h5 (by decide))
   | (simp at h5;omega)
 cases hwl with
 | cons w1 w2=>
  cases w2
  cases w1 with
  | list ho hall=>exact ⟨_,_,ns,rfl,rfl,ho,lP ns _ hall,hlen⟩
theorem wV (l:OpenLaw) (args:List WData):l.row.toRowW.claim.post args (.bool true) args=true:=
 postW_of (r:=l.row.toRowW) (X:=(true==true))
  (show WShape.has [] (.bool true) .bool=true by first | rfl | decide | simp [WShape.has,WShape.arms,WShape.armsAll])
  (show (WTm.eq .res (.lit (.bool true))).value [] { args:=args,res:=some (.bool true),after:=args }=some (.bool (true==true)) from w_eq_bool (w_res rfl) w_lit) rfl
theorem attach_call {l:OpenLaw} {n:Nat} {q:Program} {loose:List Str} {XP:(Str->Option Value)->Heap->Prop} {YP:World->Heap->Prop} {d:DefRec}
 (hn:l.most=some n) (hdf:d.params.defaults=[])
 (call:∀ (w:World) (s₀ s₁:Shared) (mg mb:Str->Option Value) (fa:Addr) (o:Obj) (pm cd doc:Value) (a:Addr) (vs:List Value) (ns:List Int),
  Ground q loose [] XP w s₀ mg mb s₁.heap->YP w s₁.heap->
  s₁.heap.get? fa=some o->o.data=.func (docDef d.name d.params d.body d.scope pm cd doc)->s₁.heap.CodeRec cd d.name->mg d.name=some (.ref fa)->
  s₁.heap.get? a=some { cls:=.type "list", data:=.seq vs.toArray }->IntsAre vs ns->ns.length<=n->s₁.gens = #[]->
  codeAny (model l.prog w) callerA (.call (.ref fa) ⟨[.ref a],[]⟩) (λ r s'=>r=.ok (.ret (.bool true))/\OldK s₁.heap s'.heap/\s'.os=s₁.os/\AllBare s'.gens) s₁):
 WalkO q loose XP YP l.row.toRowW d [] (λ f vs=>PySem.call f vs):=by
 intro w s₀ s₁ mg mb G Y fa o pm cd doc dV kV ho hd hcd hD hmg hg args vals as hpre hlay hrd hwl hlo
 obtain rfl:dV=.none:=Dflts.none hD hdf
 obtain rfl:kV=.none:=Dflts.noKw hD
 obtain ⟨a,vs,ns,rfl,rfl,hobj,hints,hlen⟩:=xK hn hpre hwl
 refine enter_call (codeAny_mono (call w s₀ s₁ mg mb fa o pm cd doc a vs ns G Y ho (fd_plain hd) hcd hmg hobj hints hlen hg) λ r s' hq=>?_)
 obtain ⟨rfl,h2,h3,h4⟩:=hq
 exact ⟨.inl ⟨.bool true,.bool true,[],rfl,λ _=>rfl,.bool true,wV l _,λ _=>⟨List.Pairwise.nil,λ _ hm=>(nomatch hm)⟩⟩,h2,h3,h4⟩
section
variable {prog:Program} {w:World} {A:Around} {E:Value->Shared->Prop} {s:Shared} {K:Frag}
end
end Att
namespace L2
open PySem PySem.Spec PyProof.Rows
open PySem.W (Frag)
theorem xu {vs:List Value} {ns:List Int} (h:IntsAre vs ns):bc (ns.map V.int) vs:=by
 induction h with
 | nil=>exact .nil
 | cons n t _ ih=>exact .cons ⟨t,rfl⟩ ih
noncomputable def ED (H:Hp):Prop:=∀ b,H b=none∨∃ o xs,H b=some (.frz o (.lst xs))
theorem yh {P:Program} {w:World} {K:Frag} {mg mb:Str->Option Value} {CX:uJ} {k:Nat} {fa a:Addr} {fd:FuncData} {x:Str} {sp:Sp} {s₁:Shared} {vs:List Value} {ns:List Int}
 (KX:K.In s₁.heap) (hns:s₁.heap.Ns mainGlobals mg) (hb:s₁.heap.Ns builtinsNs mb) (hbb:∀ x:Str,x ≠ "__name__" -> mb x=bootBuiltins x) (hlim:s₁.heap.NoLimit) (hg:s₁.gens = #[])
 (ha:s₁.heap.get? a=some { cls:=.type "list", data:=.seq vs.toArray }) (hi:IntsAre vs ns) (hl:ns.length<=sizeLine) (hr:d3 k callerA)
 (F:∀ base:Heap,K.In base->base.Ns mainGlobals mg->ez P w K mg base CX k fa fd [x] sp) (hbind:∀ (s:Shared) (u:Value),BindsTo s fd ⟨[u],[]⟩ [(x,u)])
 (hsp:∀ H:Hp,ED H->cC K H a (ns.map V.int)->sp [.ref a] H (λ v _=>v=.bl true) λ _ _ _=>False)
 (hCX:∀ H e s',CX [] H s₁ (λ _ _ _=>False) e s'->False):
 codeAny (model P w) callerA (.call (.ref fa) ⟨[.ref a],[]⟩) (λ r s'=>r=.ok (.ret (.bool true))/\OldK s₁.heap s'.heap/\s'.os=s₁.os/\AllBare s'.gens) s₁:=by
 have rv:=xu hi
 have lenV:=hi.length
 have core:∀ H:Hp,ED H->cC K H a (ns.map V.int)->jp P w H s₁.heap->(∀ b,H b≠none->b=a)->(H a≠none->K.lookup a=none)->
  codeAny (model P w) callerA (.call (.ref fa) ⟨[.ref a],[]⟩) (λ r s'=>r=.ok (.ret (.bool true))/\OldK s₁.heap s'.heap/\s'.os=s₁.os/\AllBare s'.gens) s₁:=by
  intro H hO hS hok hA hK
  have base_of:∀ {b:Addr} {o:Obj},s₁.heap.get? b=some o->H b=none->(qf s₁.heap H).get? b=some o:=λ e n=>ze e n
  have noA:∀ {b:Addr} {o:Obj} {es:Array DictEntry} {ep:Nat},s₁.heap.get? b=some o->o.data=.dict es ep->H b=none:=λ {b o es ep} e d=>by
   cases q:H b with
   | none=>rfl
   | some u=>
    have e':b=a:=hA b (by rw [q];simp)
    subst e'
    rw [ha] at e;cases e
    have d':Data.seq vs.toArray _=Data.dict es ep:=d
    cases d'
  have nsK:∀ {b:Addr} {m:Str->Option Value},s₁.heap.Ns b m->(qf s₁.heap H).Ns b m:=λ {b m} hy0=>by obtain ⟨o,es,ep,e,d,r⟩:=hy0;exact ⟨o,es,ep,base_of e (noA e d),d,r⟩
  have hKb:K.In (qf s₁.heap H):=λ b o e=>base_of (KX b o e) (by
   cases q:H b with
   | none=>rfl
   | some u=>
    have e':b=a:=hA b (by rw [q];simp)
    subst e'
    rw [hK (by rw [q];simp)] at e;cases e)
  have hM:Mod K mg (qf s₁.heap H):=⟨hKb,nsK hns,⟨mb,nsK hb,hbb⟩,by obtain ⟨mc,h1,h2⟩:=hlim;exact ⟨mc,nsK h1,h2⟩⟩
  have e0:uO P w K mg (qf s₁.heap H) callerA [] s₁ H:=⟨rfl,hM,λ b o e=>Bq e,Nat.le_of_eq (wI _ _),trivial,λ b hb=>absurd (show b∈([]:List Addr) from hb) (by simp),hok,.of_eq hg⟩
  refine codeAny_mono ((F _ hKb (nsK hns)).run callerA [] s₁ H ⟨[.ref a],[]⟩ [.ref a] [.ref a] _ _ hr e0 (hbind s₁ (.ref a)) (.cons rfl .nil) (hsp H hO hS)) λ r s' h=>?_
  cases r with
  | error e=>exact (hCX H e s' h).elim
  | ok fl=>
   cases fl with
   | next=>exact False.elim h
   | brk=>exact False.elim h
   | cont=>exact False.elim h
   | ret u=>
    obtain ⟨v,H',os,bare,un,hok',r',q⟩:=h
    have q':v=.bl true:=q
    subst q'
    obtain rfl:u=Value.bool true:=r'
    refine ⟨rfl,OldK.of_keep λ b o e=>?_,os,bare⟩
    cases q:H b with
    | none=>exact un.keep b o e q (by intro z;exact absurd (show b∈([]:List Addr) from z) (by simp)) (by simp)
    | some u=>
     rcases hO b with z | ⟨ob,xs,z⟩
     . rw [q] at z;cases z
     . have z2:=un.frzs b ob _ z
       obtain ⟨e1,_⟩:=hok b _ z
       obtain ⟨e2,_⟩:=hok' b _ z2
       rw [e] at e1;cases e1
       exact e2
 cases hk:K.lookup a with
 | some o=>
  have e:=KX a o hk
  rw [ha] at e
  cases e
  refine core (λ _=>none) (λ _=>.inl rfl) (.inr ⟨_,vs.toArray,_,hk,rfl,rfl,rfl,by rw [List.size_toArray,lenV];exact hl,by simpa using rv⟩) (λ b u z=>by have z':(none:Option HO)=some u:=z;cases z') (λ b z=>absurd rfl z) λ z=>absurd rfl z
 | none=>
  refine core (λ b=>if b=a then some (.frz { cls:=.type "list", data:=.seq vs.toArray } (.lst (ns.map V.int))) else none) (λ b=>?_) (.inl (.inr ⟨{ cls:=.type "list", data:=.seq vs.toArray },if_pos rfl⟩)) (λ b u z=>?_) (λ b z=>?_) λ _=>hk
  . by_cases hb:b=a
    . exact .inr ⟨_,_,if_pos hb⟩
    . exact .inl (if_neg hb)
  . by_cases hb:b=a
    . have z':=(if_pos hb).symm.trans z
      cases z'
      subst hb
      exact ⟨ha,by rw [List.length_map];exact hl,vs,_,rv,ha⟩
    . have z':=(if_neg hb).symm.trans z
      cases z'
  . by_cases hb:b=a
    . exact hb
    . exact absurd (if_neg hb) z
end L2
namespace L2
open PySem PySem.Spec PyProof.Rows
open PySem.W (Frag)
theorem walk_of {l:PySem.W.OpenLaw} {n k:Nat} {q:Program} {loose:List Str} {XP:(Str->Option Value)->Heap->Prop} {YP:World->Heap->Prop} {d:DefRec} {K:Params->Frag} {CX:World->uJ} {sp:World->Sp} {x:Str}
 (hn:l.most=some n) (hn2:n<=sizeLine) (hdf:d.params.defaults=[]) (hr:d3 k callerA)
 (hY:∀ (w:World) (h:Heap),YP w h->(K w.params).In h)
 (F:∀ (w:World) (mg:Str->Option Value) (fa:Addr) (h:Heap),(K w.params).In h->h.Ns mainGlobals mg->mg d.name=some (.ref fa)->
  ∃ fd:FuncData,(∀ (s:Shared) (u:Value),BindsTo s fd ⟨[u],[]⟩ [(x,u)])/\
   ∀ base:Heap,(K w.params).In base->base.Ns mainGlobals mg->ez l.prog w (K w.params) mg base (CX w) k fa fd [x] (sp w))
 (hsp:∀ (w:World) (H:Hp) (a:Addr) (ns:List Int),ns.length<=n->ED H->cC (K w.params) H a (ns.map V.int)->sp w [.ref a] H (λ v _=>v=.bl true) λ _ _ _=>False)
 (hCX:∀ (w:World) (H:Hp) (s:Shared) (e:Value) (s':Shared),CX w [] H s (λ _ _ _=>False) e s'->False):
 PySem.W.WalkO q loose XP YP l.row.toRowW d [] (λ f vs=>PySem.call f vs):=by
 refine Att.attach_call hn hdf λ w s₀ s₁ mg mb fa o pm cd doc a vs ns G Y ho hd hcd hmg hobj hints hlen hg=>?_
 have KX:=hY w _ Y
 obtain ⟨fd,hb,hF⟩:=F w mg fa _ KX G.T.g hmg
 exact yh KX G.T.g G.T.b G.T.builtins G.T.nolimit hg hobj hints (Nat.le_trans hlen hn2) hr hF hb (λ H hO hS=>hsp w H a ns hlen hO hS) λ H e s'=>hCX w H s₁ e s'
end L2
namespace L2
open PySem PySem.Spec PyProof.Rows
open PySem.W (Frag)
noncomputable def vS (s:Stmt) (j:Nat):Stmt:=match s with
 | .ClassDef _ _ _ body _ _ _ _ _ _ _=>body.getD j (.Pass ⟨0,0,0,0⟩)
 | _=>.Pass ⟨0,0,0,0⟩
noncomputable def dt (s:Stmt):Arguments:=match s with
 | .FunctionDef _ a _ _ _ _ _ _ _ _=>a
 | _=>{ posonlyargs:=[],args:=[],vararg:=none,kwonlyargs:=[],kw_defaults:=[],kwarg:=none,defaults:=[] }
noncomputable def cP (s:Stmt):List Stmt:=match s with
 | .FunctionDef _ _ b _ _ _ _ _ _ _=>b
 | _=>[]
noncomputable def bn (s:Stmt):Scope:=match s with
 | .FunctionDef _ _ _ _ _ _ sc _ _ _=>sc
 | _=>{ kind:=.function,names:=[],isGenerator:=false,isCoroutine:=false }
noncomputable abbrev Dc:uJ:=λ _ _ _ _ _ _=>False
noncomputable abbrev E0:XK:=λ _ _ _=>False
theorem CV {X:Cx}:jA Dc X E0:=λ _ _ _ _ _ _ _ h=>h.elim
structure L6 (K:Frag) (x qual:Str) (st:Stmt) (f:Addr) (fd:FuncData):Prop where
 ex:∃ (oc:Value) (od:Option Addr) (kV doc pm:Value) (an:Option Addr) (cdv ct:Value) (osl:Array (Option Value)),
  fd=PySem.W.fnOf x qual (dt st) (cP st) (bn st) .none kV doc pm an cdv ct/\K.lookup f=some ⟨oc,od,.func fd,osl⟩/\PySem.W.codeIn K cdv qual=true
 kp:PySem.W.keepIn K (.ref f)=true
section
variable {P:Program} {w:World} {K:Frag} {mg:Str->Option Value} {base:Heap}
theorem L6.binds {x qual:Str} {st:Stmt} {f:Addr} {fd:FuncData} {ps:List Str} (F:L6 K x qual st f fd)
 (h:∀ (kV doc pm:Value) (an:Option Addr) (cdv ct:Value) (us:List Value),us.length=ps.length->bindArgs (PySem.W.fnOf x qual (dt st) (cP st) (bn st) .none kV doc pm an cdv ct) ⟨us,[]⟩=pure (ps.zip us)):fq K fd ps []:=by
 obtain ⟨oc,od,kV,doc,pm,an,cdv,ct,osl,rfl,lk,hcd⟩:=F.ex
 exact .all (h kV doc pm an cdv ct)
theorem tL {x qual:Str} {st:Stmt} {f:Addr} {oc:Value} {od an:Option Addr} {osl:Array (Option Value)} {kV doc pm cdv ct:Value} (l:K.lookup f=some ⟨oc,od,.func (PySem.W.fnOf x qual (dt st) (cP st) (bn st) .none kV doc pm an cdv ct),osl⟩)
 (c:PySem.W.codeIn K cdv qual=true) (k:PySem.W.keepIn K (.ref f)=true):L6 K x qual st f (PySem.W.fnOf x qual (dt st) (cP st) (bn st) .none kV doc pm an cdv ct):=⟨⟨oc,od,kV,doc,pm,an,cdv,ct,osl,rfl,l,c⟩,k⟩
end
theorem xi {n:Nat} (h:n<=1000):n<sizeLine:=Nat.lt_of_le_of_lt h (by decide)
section
variable {X:Cx}
end
noncomputable def bo (H H':Hp):Prop:=∀ b o,H b=some o->H' b=some o
theorem bo.refl (H:Hp):bo H H:=λ _ _ h=>h
theorem bo.trans {H H1 H2:Hp} (a:bo H H1) (b:bo H1 H2):bo H H2:=λ c o h=>b c o (a c o h)
theorem bo.seq {K:Frag} {H H':Hp} {a:Addr} {xs:List V} (e:bo H H') (h:cC K H a xs):cC K H' a xs:=by
 rcases h with (h | ⟨o,h⟩) | h
 . exact .inl (.inl (e _ _ h))
 . exact .inl (.inr ⟨o,e _ _ h⟩)
 . exact .inr h
noncomputable def ol (cells:List (Str×Addr)):List (Str×NameKind)->List (Str×Addr)->List (Str×Addr)
 | [],cs=>cs
 | (n,k)::r,cs=>ol cells r (if k==.free then (n,(cells.lookup n).getD 0)::cs else cs)
noncomputable def wK (scope:Scope) (env:Env):List (Str×Addr):=ol env.cells scope.names []
theorem ve {env:Env}:∀ (names:List (Str×NameKind)) (cs:List (Str×Addr)),(∀ y∈names,y.2=.free->∃ c,env.cells.lookup y.1=some c)->
 (forIn names cs λ (x:Str×NameKind) (r:List (Str×Addr))=>(match x with
  | (name,kind)=>if (kind==NameKind.free)=true then do let a <-cellOf env name;pure (ForInStep.yield ((name,a)::r)) else pure (ForInStep.yield r):Sem (ForInStep (List (Str×Addr)))))=(pure (ol env.cells names cs):Sem _)
 | [],cs,_=>rfl
 | (n,k)::r,cs,h=>by
  have hr:=λ cs'=>ve (env:=env) r cs' λ y hy=>h y (List.mem_cons_of_mem _ hy)
  rw [List.forIn_cons]
  by_cases hk:(k==NameKind.free)=true
  . obtain ⟨c,hc⟩:=h (n,k) List.mem_cons_self (by simpa using hk)
    have e1:cellOf env n=pure c:=by unfold cellOf;rw [hc]
    simp only [hk,if_true,e1,pure_bind]
    rw [hr]
    unfold ol
    rw [if_pos hk,hc]
    conv=>rhs;unfold ol
    rfl
  . simp only [hk,if_false,pure_bind,Bool.false_eq_true]
    rw [hr]
    conv=>rhs;unfold ol
    rw [if_neg hk]
theorem mR {scope:Scope} {env:Env} (h:∀ y∈scope.names,y.2=.free->∃ c,env.cells.lookup y.1=some c):closureFor scope env=pure (wK scope env):=by
 unfold closureFor wK
 rw [<-ve scope.names [] h]
 simp
theorem l7 {cells:List (Str×Addr)} {x:Str} {c:Addr}:∀ (names:List (Str×NameKind)) (cs:List (Str×Addr)),(∀ y∈names,y.2=.free->∃ d,cells.lookup y.1=some d)->(∀ d,cs.lookup x=some d->cells.lookup x=some d)->
 (ol cells names cs).lookup x=some c->cells.lookup x=some c
 | [],cs,_,hc,h=>hc c h
 | (n,k)::r,cs,hn,hc,h=>by
  unfold ol at h
  refine l7 r _ (λ y hy=>hn y (List.mem_cons_of_mem _ hy)) ?_ h
  intro d hd
  by_cases hk:(k==NameKind.free)=true
  . rw [if_pos hk] at hd
    obtain ⟨e,he⟩:=hn (n,k) List.mem_cons_self (by simpa using hk)
    simp only at he
    rw [List.lookup_cons] at hd
    cases hx:x==n with
    | true=>
     have:x=n:=by simpa using hx
     subst this
     rw [hx] at hd
     simp only [Option.some.injEq] at hd
     rw [he] at hd ⊢
     simp at hd
     rw [hd]
    | false=>
     rw [hx] at hd
     exact hc d hd
  . rw [if_neg hk] at hd
    exact hc d hd
theorem mM {cells:List (Str×Addr)} {x:Str}:∀ (names:List (Str×NameKind)) (cs:List (Str×Addr)),((x,NameKind.free)∈names∨∃ d,cs.lookup x=some d)->∃ d,(ol cells names cs).lookup x=some d
 | [],cs,h=>by
  rcases h with h | h
  . cases h
  . exact h
 | (n,k)::r,cs,h=>by
  unfold ol
  refine mM r _ ?_
  rcases h with h | ⟨d,h⟩
  . rcases List.mem_cons.mp h with e | h
    . cases e
      exact .inr ⟨_,by rw [if_pos (by rfl),List.lookup_cons,beq_self_eq_true]⟩
    . exact .inl h
  . refine .inr ?_
    split
    . rw [List.lookup_cons]
      cases hx:x==n with
      | true=>exact ⟨_,rfl⟩
      | false=>exact ⟨d,h⟩
    . exact ⟨d,h⟩
theorem fN {scope:Scope} {env:Env} {x:Str} {k:NameKind} (h:(relabel scope env).names.lookup x=some k) (hk:k=.cell∨k=.free) (hc:∀ y∈scope.names,y.2≠.cell):(x,NameKind.free)∈scope.names:=by
 have hm:=PySem.mem_of_lookup h
 unfold relabel at hm
 obtain ⟨⟨n,k'⟩,hy,e⟩:=List.mem_map.mp hm
 by_cases q:(k'==NameKind.free&&env.scope.kind==.function&&env.kindOf n==some .cell)=true
 . simp only [q,if_true] at e
   cases e
   have:k'=.free:=by
    simp only [Bool.and_eq_true,beq_iff_eq] at q
    exact q.1.1
   subst this
   exact hy
 . simp only [q,if_false,Bool.false_eq_true] at e
   cases e
   rcases hk with rfl | rfl
   . exact absurd rfl (hc _ hy)
   . exact hy
noncomputable def lift (ix:List (Option Nat)) (σ:St):St:=ix.map λ o=>match o with
 | none=>none
 | some i=>match σ[i]? with
  | some v=>v
  | none=>none
structure bH (X:Cx) (scope:Scope) (N:List Str) (ix:List (Option Nat)):Prop where
 kind:scope.kind=.function
 nocell:∀ y∈scope.names,y.2≠.cell
 locs:∀ y∈scope.names,y.2=.local->scope.names.lookup y.1=some .local
 free:∀ y∈scope.names,y.2=.free->X.env.kindOf y.1=some .cell∨X.env.kindOf y.1=some .free
 len:ix.length=N.length
 nd:N.Nodup
 from':∀ j i:Nat,ix[j]?=some (some i)->∃ x,N[j]?=some x/\X.N[i]?=some x/\(X.env.kindOf x=some .cell∨X.env.kindOf x=some .free)/\((relabel scope X.env).names.lookup x=some .cell∨(relabel scope X.env).names.lookup x=some .free)
noncomputable def bK (X:Cx) (scope:Scope) (N:List Str) (s₀:Shared) (H₀:Hp) (C:Addr) (ex:List Addr):Cx where
 prog:=X.prog
 w:=X.w
 K:=X.K
 mg:=X.mg
 base:=X.base
 A:=X.A
 N:=N
 s₀:=s₀
 H₀:=H₀
 env:=compEnvC scope (wK scope X.env) C X.env
 outer:=X.stack
 stack:=X.stack
 ex:=ex
 fn:=λ _=>false
 calm:=X.calm
 pn:=[]
 xe:=λ _ _=>False
section
variable {X:Cx} {pins:List (Addr×Obj)} {σ:St} {H:Hp} {s:Shared} {scope:Scope} {N:List Str} {ix:List (Option Nat)}
theorem bH.cells (S:bH X scope N ix) (I:aL X pins σ H s):∀ y∈scope.names,y.2=.free->∃ c,X.env.cells.lookup y.1=some c:=λ y hy hk=>I.ok.has y.1 (S.free y hy hk)
theorem bH.sub (S:bH X scope N ix) (I:aL X pins σ H s) {x:Str} {c:Addr} (h:(wK scope X.env).lookup x=some c):X.env.cells.lookup x=some c:=
 l7 scope.names [] (S.cells I) (λ d h=>by simp at h) h
theorem bH.start (S:bH X scope N ix) (I:aL X pins σ H s) {fp:List Addr} {C D:Addr} {h':Heap} {tk:Nat} (hf:∀ b∈fp,j6 X pins H b) (hfo:∀ b∈fp,∃ o,s.heap.get? b=some o) (hD:D=s.heap.objs.size) (hC:s.heap.objs.size<C)
 (k:∀ b o,s.heap.get? b=some o->h'.get? b=some o) (hn:h'.Ns C λ _=>none):aL (bK X scope N s H C (D::fp)) [] (lift ix σ) H { s with heap:=h',toks:=tk }:=by
 have ltC:∀ x c,X.env.cells.lookup x=some c->c<s.heap.objs.size:=λ x c e=>let ⟨v,q⟩:=I.cell x c e;q.lt
 refine ⟨⟨I.ok.mod,S.kind,I.ok.glob,I.ok.blt,Nat.le_of_lt hC,λ x y c h1 h2=>I.ok.inj x y c (S.sub I h1) (S.sub I h2),λ x hx=>?_,λ x c z=>?_,I.ok.hd,I.ok.frames,.inl rfl,λ b hb=>?_,I.bs,Nat.le_trans I.ok.bsz I.sz,λ b o e hb=>?_,λ b hb hb'=>?_,I.stack,I.stkFree⟩,
  rfl,I.bare,Un.kept k,⟨_,hn,λ j x v e1 e2 e3=>?_⟩,λ x c e=>?_,I.hok.fresh (Nat.le_of_lt hC),λ x c e=>I.freeC x c (S.sub I e),λ p hp=>absurd (show p∈([]:List (Addr×Obj)) from hp) (by simp),I.hok.kept k,?_⟩
 . have hx:(relabel scope X.env).names.lookup x=some .cell∨(relabel scope X.env).names.lookup x=some .free:=hx
   have hm:(x,NameKind.free)∈scope.names:=by
    rcases hx with h | h
    . exact fN h (.inl rfl) S.nocell
    . exact fN h (.inr rfl) S.nocell
   exact mM _ _ (.inl hm)
 . cases z
 . rcases List.mem_cons.mp hb with e | hb
   . subst e
     subst hD
     exact ⟨Nat.ne_of_lt hC,λ x c e z=>absurd (ltC x c (S.sub I e)) (by rw [z];exact Nat.lt_irrefl _)⟩
   . obtain ⟨o,e⟩:=hfo b hb
     exact ⟨Nat.ne_of_lt (Nat.lt_trans (Heap.lt_size e) hC),λ x c e=>(hf b hb).2.2.2.2.1 x c (S.sub I e)⟩
 . have lb:=Nat.lt_of_lt_of_le (Heap.lt_size e) I.ok.bsz
   rcases List.mem_cons.mp hb with z | hb
   . subst z
     subst hD
     exact absurd (Nat.lt_of_lt_of_le lb I.sz) (Nat.lt_irrefl _)
   . rcases (hf b hb).2.2.2.1 with z | z
     . exact I.ok.noex b o e z
     . exact absurd (Nat.lt_of_lt_of_le lb z) (Nat.lt_irrefl _)
 . have hs:=I.stkSub b hb'
   rcases List.mem_cons.mp hb with z | hb
   . subst z
     subst hD
     rcases List.mem_cons.mp hs with z | z
     . exact absurd I.lt (by rw [<-z];exact Nat.lt_irrefl _)
     . exact I.nofs (Nat.le_refl _) z
   . rcases List.mem_cons.mp hs with z | z
     . exact (hf b hb).2.1 z
     . exact (hf b hb).2.2.1 z
 . unfold lift at e2
   rw [List.getElem?_map] at e2
   cases q:ix[j]? with
   | none=>rw [q] at e2;cases e2
   | some o=>
    rw [q] at e2
    cases o with
    | none=>cases e2
    | some i=>
     obtain ⟨y,f1,f2,f3,f4⟩:=S.from' j i q
     have e1':N[j]?=some x:=e1
     rw [f1] at e1'
     cases e1'
     simp only [Option.map_some,Option.some.injEq] at e2
     cases q2:σ[i]? with
     | none=>rw [q2] at e2;cases e2
     | some w=>
      rw [q2] at e2
      simp only at e2
      subst e2
      obtain ⟨m,hm,hl⟩:=I.loc
      have vis:Ki X.env.scope x:=by
       rcases f3 with z | z
       . exact .inr (.inl z)
       . exact .inr (.inr z)
      obtain ⟨u,r,l⟩:=hl i x v f2 q2 vis
      refine ⟨u,r,.inr ⟨f4,?_⟩⟩
      rcases l with ⟨l1,_⟩ | ⟨_,c,hc,hcell⟩
      . rw [l1] at f3
        rcases f3 with z | z <;> cases z
      . have hmf:(x,NameKind.free)∈scope.names:=by
         rcases f4 with h | h
         . exact fN h (.inl rfl) S.nocell
         . exact fN h (.inr rfl) S.nocell
        obtain ⟨d,hd⟩:=mM (cells:=X.env.cells) scope.names [] (.inl hmf)
        have hd':=S.sub I hd
        rw [hc] at hd'
        cases hd'
        refine ⟨c,hd,?_⟩
        obtain ⟨o,ho,hod⟩:=hcell
        exact ⟨o,k _ _ ho,hod⟩
 . obtain ⟨v,o,ho,hod⟩:=I.cell x c (S.sub I e)
   exact ⟨v,o,k _ _ ho,hod⟩
 . show (lift ix σ).length=N.length
   unfold lift
   rw [List.length_map,S.len]
end
theorem i9 {prog:Program} {w:World} {A:Around} {R:Result->Shared->Prop} {s:Shared} {elt target iter:Expr} {ifs:List Expr} {scope:Scope} {pos:Pos} {it acc:Value} {env:Env} (I:Nat->Shared->Prop)
 (turn:∀ n s,I n s->wpAny (model prog w) A (pyNext it) (λ r s₁=>match r with
  | none=>R (.ok .next) s₁
  | some v=>wpAny (model prog w) A (letOwnedTupleGo target it v) (λ _ s₁'=>wpAny (model prog w) A (assign target env v) (λ _ s₂=>
   wpAny (model prog w) A (forIn ifs true λ c r=>if r=true then do let ok <-isTrue c env (eval c env);pure (ForInStep.yield ok) else pure (ForInStep.yield r)) (λ ok s₃=>
    if ok=true then wpAny (model prog w) A (eval elt env) (λ x s₄=>
     wpAny (model prog w) A (call (.builtin "list.append") [acc,x]) (λ _ s₅=>∃ m,m<n/\I m s₅) (λ _ _=>False) s₄) (λ _ _=>False) s₃
    else ∃ m,m<n/\I m s₃) (λ _ _=>False) s₂) (λ _ _=>False) s₁') (λ _ _=>False) s₁) (λ _ _=>False) s)
 (n:Nat) (h:I n s):
 codeAny (model prog w) A (.compLoop (.ListComp elt [⟨target,iter,ifs,0⟩] scope pos) 0 it acc env) R s:=by
 refine codeAny_loop rfl I (λ n s hI=>?_) n h
 show wpAny _ A ((compTurn (.ListComp elt [⟨target,iter,ifs,0⟩] scope pos) 0 it acc env).onRaise (λ x=>do noteFrame x env;theTreesLotGoes x)) _ _ s
 refine wpAny_noted ?_
 rw [compTurn_list]
 refine wpAny_bind (wpAny_standAt (wpAny_bind (wpAny_mono (turn n s hI) (λ r s₁ h₁=>?_) λ _ _ h'=>h'.elim)))
 cases r with
 | none=>exact wpAny_pure h₁
 | some v=>
  refine wpAny_bind (wpAny_mono h₁ (λ _ s₁' h₁'=>?_) λ _ _ h'=>h'.elim)
  refine wpAny_bind (wpAny_mono h₁' (λ _ s₂ h₂=>wpAny_bind (wpAny_mono h₂ (λ ok s₃ h₃=>?_) λ _ _ h'=>h'.elim)) λ _ _ h'=>h'.elim)
  cases ok with
  | false=>exact wpAny_pure ⟨rfl,h₃⟩
  | true=>
   exact wpAny_bind (wpAny_bind (wpAny_mono h₃ (λ x s₄ h₄=>wpAny_bind (wpAny_mono h₄ (λ _ s₅ h₅=>wpAny_pure (wpAny_pure ⟨rfl,h₅⟩)) λ _ _ h'=>h'.elim)) λ _ _ h'=>h'.elim))
noncomputable def uh (X:Cx) (ifs:List Expr) (t:TT):Prop:=
 ∀ (pins:List (Addr×Obj)) (s:Shared) (σ:St) (H:Hp) (Q:Bool->Hp->Prop),aL X pins σ H s->t σ H Q->
  wpAny (model X.prog X.w) X.A (forIn ifs true λ c r=>if r=true then do let ok <-isTrue c X.env (eval c X.env);pure (ForInStep.yield ok) else pure (ForInStep.yield r)) (TP X pins σ Q) X.xe s
noncomputable def IL:TT:=λ _ H Q=>Q true H
theorem Jb {X:Cx}:uh X [] IL:=λ _ _ _ H _ I h=>wpAny_tests_nil ⟨H,I,h⟩
theorem HF {X:Cx} {c:Expr} {t:TT} (h:PT X c t):uh X [c] t:=λ pins s σ H Q I q=>wpAny_tests_one (h pins s σ H Q I q)
noncomputable def Df (σ σ':St):Prop:=σ.length=σ'.length/\∀ (i:Nat) (v:V),σ[i]?=some (some v)->σ'[i]?=some (some v)
theorem Df.refl (σ:St):Df σ σ:=⟨rfl,λ _ _ h=>h⟩
theorem Df.set {σ σ':St} {j:Nat} {v:V} (e:Df σ σ') (h:σ[j]?=some none):Df σ (σ'.set j (some v)):=by
 refine ⟨by rw [List.length_set];exact e.1,λ i u q=>?_⟩
 have hne:j≠i:=λ z=>by subst z;rw [h] at q;cases q
 rw [List.getElem?_set_ne hne]
 exact e.2 i u q
theorem xI {ix:List (Option Nat)} {σ:St} {j:Nat} (h:ix[j]?=some none):(lift ix σ)[j]?=some none:=by
 unfold lift
 rw [List.getElem?_map,h]
 rfl
noncomputable def ng (ix:List (Option Nat)) (g:TG):Prop:=∀ (v:V) (σ:St) (H:Hp) (Q:St->Hp->Prop),g v (lift ix σ) H Q->g v (lift ix σ) H λ σ2 H2=>Q σ2 H2/\Df (lift ix σ) σ2
theorem Fn {ix:List (Option Nat)} {j:Nat} (h:ix[j]?=some none):ng ix (lI j):=λ v σ H Q q=>⟨q,(Df.refl _).set (xI h)⟩
noncomputable def mC (ix:List (Option Nat)) (wi:TI) (g:TG) (tc:TT) (te:TE):TE:=λ σ H Q=>wi σ H λ J H1=>∃ W:Nat->Nat->List V->Hp->Prop,(∃ m,W 0 m [] H1)/\∀ i m ys H,W i m ys H->
 (J.stop i H/\ys.length<=sizeLine/\∀ p,H p=none->Q (.ref p) (cp H p (.lst ys)))∨
 (J.go i H/\ys.length<sizeLine/\∃ N:List V->Hp->Prop,(∀ ys' H',N ys' H'->∃ m',m'<m/\W (i+1) m' ys' H')/\∀ x H',J.yld i H x H'->g x (lift ix σ) H' λ σ2 H2=>tc σ2 H2 λ b H3=>if b=true then te σ2 H3 λ v H4=>N (ys++[v]) H4 else N ys H3)
theorem zP {X:Cx} {pins pins':List (Addr×Obj)} {σ σ':St} {H2 H':Hp} {s2 s4:Shared} {scope:Scope} {N:List Str} {C D:Addr} {fp:List Addr} {h':Heap} {ys:List V} {its:List Value} {n:Nat}
 (I2:aL X pins σ H2 s2) (I':aL (bK X scope N s2 H2 C (D::fp)) pins' σ' H' s4) (f2:∀ b∈fp,j6 X pins H2 b) (hD:D=s2.heap.objs.size) (hC:s2.heap.objs.size<C) (hDC:D≠C)
 (hs:Heap.SameBut C s4.heap h') (eD:s4.heap.get? D=some { cls:=.type "list", data:=.seq its.toArray n }) (fD:H' D=none) (rv:bc ys its) (hz:ys.length<=sizeLine):
 aL X pins σ (cp H' D (.lst ys)) { s4 with heap:=h' }:=by
 have lt:∀ b o,s2.heap.get? b=some o->b≠D/\b≠C:=λ b o e=>
  ⟨by rw [hD];exact Nat.ne_of_lt (Heap.lt_size e),Nat.ne_of_lt (Nat.lt_trans (Heap.lt_size e) hC)⟩
 have nex:∀ b o,s2.heap.get? b=some o->b∉fp->b∉D::fp:=λ b o e hb z=>by
  rcases List.mem_cons.mp z with z | z
  . exact (lt b o e).1 z
  . exact hb z
 have nD:∀ b u,H' b=some u->b≠D:=λ b u e=>be e fD
 have nC:∀ b u,H' b=some u->b≠C:=λ b u e=>be e I'.free
 have u:=I'.base
 refine I2.call' (ch:=fp) (show s4.os=s2.os from I'.os) ⟨λ b o e n hb hx=>?_,λ b o e n hb hx=>?_,λ b o e n hx=>?_,λ b o e hx=>?_,λ b xs e=>?_,λ b o xs e=>?_,λ b ps e=>?_⟩ (λ b o e=>?_) I'.bare λ b hb=>⟨(f2 b hb).2.2.2.1,(f2 b hb).2.1,(f2 b hb).2.2.2.2.1,(f2 b hb).2.2.2.2.2⟩
 . exact (hs.2 b (lt b o e).2).trans (u.keep b o e n hb (nex b o e hx))
 . obtain ⟨sl,q⟩:=u.slot b o e n hb (nex b o e hx)
   exact ⟨sl,(hs.2 b (lt b o e).2).trans q⟩
 . rw [aJ (lt b o e).1]
   exact u.free b o e n (nex b o e hx)
 . obtain ⟨o',q⟩:=u.there b o e (nex b o e hx)
   exact ⟨o',(hs.2 b (lt b o e).2).trans q⟩
 . have q:=u.tups b xs e
   rw [aJ (nD b _ q)]
   exact q
 . have q:=u.frzs b o xs e
   rw [aJ (nD b _ q)]
   exact q
 . obtain ⟨m,q⟩:=u.tbls b ps e
   exact ⟨m,by rw [aJ (nD b _ q)];exact q⟩
 . by_cases hb:b=D
   . subst hb
     rw [aK] at e
     cases e
     exact ⟨hz,its,n,rv,(hs.2 b hDC).trans eD⟩
   . rw [aJ hb] at e
     refine (I'.hok b o e).stay (λ c v hc q=>(hs.2 c ?_).trans q) (λ c q=>by rw [aJ (nD c _ q)];exact q) λ c xs q=>by rw [aJ (nD c _ q)];exact q
     rcases hc with z | z
     . rw [z];exact nC b o e
     . exact nC c _ z
section
variable {X:Cx} {elt tg iter:Expr} {ifs:List Expr} {scope:Scope} {pos:Pos} {wi:TI} {g:TG} {tc:TT} {te:TE} {N:List Str} {ix:List (Option Nat)}
theorem oT {pins:List (Addr×Obj)} {σ:St} {Q:VK} {s2:Shared} {itv:Value} {Rr:Value->Addr->Result->Shared->Prop} (S:bH X scope N ix) (hc:X.calm=true) (hG:ng ix g)
 (hb:∀ (s₀:Shared) (H₀:Hp) (C:Addr) (ex:List Addr),PG (bK X scope N s₀ H₀ C ex) tg g/\uh (bK X scope N s₀ H₀ C ex) ifs tc/\PE (bK X scope N s₀ H₀ C ex) elt te)
 (h2:Ls X pins σ tg (λ J H1=>∃ W:Nat->Nat->List V->Hp->Prop,(∃ m,W 0 m [] H1)/\∀ i m ys H,W i m ys H->
  (J.stop i H/\ys.length<=sizeLine/\∀ p,H p=none->Q (.ref p) (cp H p (.lst ys)))∨
  (J.go i H/\ys.length<sizeLine/\∃ N:List V->Hp->Prop,(∀ ys' H',N ys' H'->∃ m',m'<m/\W (i+1) m' ys' H')/\∀ x H',J.yld i H x H'->g x (lift ix σ) H' λ σ2 H2=>tc σ2 H2 λ b H3=>if b=true then te σ2 H3 λ v H4=>N (ys++[v]) H4 else N ys H3)) itv s2)
 (hR:∀ (s4:Shared) (H':Hp) (D C:Addr) (m:Str->Option Value) (ys:List V),s4.heap.Ns C m->j6 X pins H' C->(∀ h',Heap.SameBut C s4.heap h'->aL X pins σ (cp H' D (.lst ys)) { s4 with heap:=h' })->aL X pins σ (cp H' D (.lst ys)) s4->D≠C->Q (.ref D) (cp H' D (.lst ys))->Rr (.ref D) C (.ok .next) s4):
 wpAny (model X.prog X.w) X.A (newList []) (λ acc s₃=>wpAny (model X.prog X.w) X.A (newFunctionEnv scope X.env.globals (wK scope X.env) [] X.env.qual none .none (some X.env)) (λ cenv s₄=>
  codeAny (model X.prog X.w) X.A (.compStart (.ListComp elt [⟨tg,iter,ifs,0⟩] scope pos) 0 itv acc { cenv with scope:=relabel scope X.env }) (Rr acc cenv.locals) s₄) X.xe s₃) X.xe s2:=by
 obtain ⟨it,fp,tn,J,H2,e,I2,T,st2,f2,W,⟨m0,w0⟩,turn⟩:=h2
 subst e
 have fo:∀ b∈fp,∃ o,s2.heap.get? b=some o:=λ b hb=>let ⟨o,e,_⟩:=T.obj _ _ st2 b hb;⟨o,e⟩
 refine wpAny_newObj_type (wpAny_newFunctionEnv S.nocell (by intro y hy;simp at hy) (λ h₁ hns₁ hsb₁=>?_) S.kind)
 dsimp only at hns₁ hsb₁ ⊢
 generalize hH2:s2.heap.push { cls:=.type "list", dict:=none,data:=.seq ([]:List Value).toArray }=HH at hns₁ hsb₁ ⊢
 have hC:HH.objs.size=s2.heap.objs.size+1:=by rw [<-hH2,Heap.size_push]
 generalize hCC:HH.objs.size=C at hns₁ hsb₁ hC ⊢
 generalize hDD:s2.heap.objs.size=D at hC ⊢
 have hlt:s2.heap.objs.size<C:=by rw [hDD,hC];exact Nat.lt_succ_self _
 have hDC:D≠C:=by rw [hC];exact Nat.ne_of_lt (Nat.lt_succ_self _)
 have old:∀ b o,s2.heap.get? b=some o->h₁.get? b=some o:=λ b o e=>
  hsb₁.extBut b o (Nat.ne_of_lt (Nat.lt_trans (Heap.lt_size e) hlt)) (Heap.get?_push_of_some _ (hH2▸Heap.get?_push_of_some _ e))
 have hacc:h₁.PlainList D #[]:=⟨_,hsb₁.extBut _ _ hDC (Heap.get?_push_of_some _ (hH2▸hDD▸Heap.get?_push_size _ rfl))⟩
 have hns₂:h₁.Ns C λ _=>none:=hns₁
 have I4:=S.start (tk:=s2.toks+([]:List (Str×Value)).length) I2 f2 fo hDD.symm hlt old hns₂
 obtain ⟨hg,hif,hel⟩:=hb s2 H2 C (D::fp)
 have stat:∀ {H':Hp},(∀ b∈D::fp,H' b=none)->∀ b∈D::fp,j6 (bK X scope N s2 H2 C (D::fp)) [] H' b:=λ hn b hb=>
  ⟨hn b hb,(I4.ok.exf b hb).1,I4.ok.exfs b hb,.inl hb,(I4.ok.exf b hb).2,λ p hp=>absurd (show p∈([]:List (Addr×Obj)) from hp) (by simp)⟩
 have sub:∀ b∈fp,b∈D::fp:=λ b hb=>List.mem_cons_of_mem _ hb
 have nDf:∀ b∈fp,b≠D:=λ b hb z=>by
  obtain ⟨o,e⟩:=fo b hb
  exact absurd (Heap.lt_size e) (by rw [z,hDD];exact Nat.lt_irrefl _)
 have free0:∀ b∈D::fp,H2 b=none:=λ b hb=>by
  rcases List.mem_cons.mp hb with z | hb
  . rw [z];exact I2.hok.fresh (Nat.le_of_eq hDD)
  . exact (f2 b hb).1
 have loop:∀ s₃:Shared,s₃={ s2 with heap:=h₁,toks:=s2.toks+([]:List (Str×Value)).length }->
  codeAny (model X.prog X.w) X.A (.compLoop (.ListComp elt [⟨tg,iter,ifs,0⟩] scope pos) 0 (.ref it) (.ref D) (compEnvC scope (wK scope X.env) C X.env))
   (Rr (.ref D) C) s₃:=by
  rintro s₃ rfl
  refine i9 (λ n s'=>∃ i H' ys its,aL (bK X scope N s2 H2 C (D::fp)) [] (lift ix σ) H' s'/\tn i s'.heap/\(∀ b∈D::fp,H' b=none)/\s'.heap.PlainList D (List.toArray its)/\bc ys its/\W i n ys H') ?_ m0
   ⟨0,H2,[],[],I4,T.keep _ _ _ st2 λ b _ o e=>old b o e,free0,hacc,.nil,w0⟩
  rintro n s3 ⟨i,H3,ys,its,I3,st3,fr3,pl3,rv3,w3⟩
  obtain ⟨kk,plE⟩:=pl3
  have pinD:∀ {pp:List (Addr×Obj)} {σ':St} {H':Hp} {s':Shared},aL (bK X scope N s2 H2 C (D::fp)) pp σ' H' s'->H' D=none->s'.heap.get? D=some { cls:=.type "list", data:=.seq its.toArray kk }->
   aL (bK X scope N s2 H2 C (D::fp)) [(D,{ cls:=.type "list", data:=.seq its.toArray kk })] σ' H' s':=λ {pp σ' H' s'} J f e=>J.pins_of λ p hp=>by
   have z:p=(D,{ cls:=.type "list", data:=.seq its.toArray kk }):=by simpa using hp
   subst z
   exact ⟨e,f,(J.ok.exf D List.mem_cons_self).1,J.ok.exfs D List.mem_cons_self,λ v z=>by cases z⟩
  have fpD:∀ {H':Hp},(∀ b∈D::fp,H' b=none)->∀ b∈fp,j6 (bK X scope N s2 H2 C (D::fp)) [(D,{ cls:=.type "list", data:=.seq its.toArray kk })] H' b:=λ hn b hb=>by
   obtain ⟨a1,a2,a3,a4,a5,a6⟩:=stat hn b (sub b hb)
   refine ⟨a1,a2,a3,a4,a5,λ p hp=>?_⟩
   have z:p=(D,{ cls:=.type "list", data:=.seq its.toArray kk }):=by simpa [bK] using hp
   subst z
   exact (nDf b hb).symm
  have frD:H3 D=none:=fr3 D List.mem_cons_self
  rcases turn i n ys H3 w3 with ⟨stop,hz,qn⟩ | ⟨go,hz,NN,hN,step⟩
  . refine cm (T.done (bK X scope N s2 H2 C (D::fp)) rfl rfl rfl hc i _ s3 _ H3 (λ _ _=>False) (pinD I3 frD plE) (fpD fr3) st3 stop) λ r s4 ⟨hr,I4'⟩=>?_
    subst hr
    obtain ⟨m,hm,_⟩:=I4'.loc
    have eD:=(I4'.pin (D,_) (List.mem_append_right _ List.mem_cons_self)).1
    have fin:∀ h',Heap.SameBut C s4.heap h'->aL X pins σ (cp H3 D (.lst ys)) { s4 with heap:=h' }:=λ h' hs'=>zP I2 I4' f2 hDD.symm hlt hDC hs' eD frD rv3 hz
    have hC0:s2.heap.objs.size<=C:=Nat.le_of_lt hlt
    have fC:j6 X pins H3 C:=by
     have q:=I2.fpOk (H':=H3) hC0 I4'.free
     exact q
    exact hR s4 H3 D C m ys hm fC fin (by simpa using fin s4.heap (Heap.SameBut.refl ..)) hDC (qn D frD)
  . refine cm (T.item (bK X scope N s2 H2 C (D::fp)) rfl rfl rfl hc i _ s3 _ H3 (λ _ _=>False) (pinD I3 frD plE) (fpD fr3) st3 go) λ r s4 ⟨u,hr,h4⟩=>?_
    subst hr
    refine cm h4 λ _ s5 hq0=>?_
    obtain ⟨x,H5,I5,r5,y5,st5,fr5⟩:=hq0
    have eD5:=(I5.pin (D,_) (List.mem_append_right _ List.mem_cons_self))
    have fr5':∀ b∈D::fp,H5 b=none:=λ b hb=>by
     rcases List.mem_cons.mp hb with z | hb
     . rw [z];exact eD5.2.1
     . exact fr5 b hb
    have I5':aL (bK X scope N s2 H2 C (D::fp)) ([]++kK (D::fp) s5.heap) (lift ix σ) H5 s5:=(I5.unpinned (pins:=[]) (pl:=[_])).pinned (stat fr5') λ b hb=>by
     rcases List.mem_cons.mp hb with z | hb
     . rw [z];exact ⟨_,eD5.1,λ v z=>by cases z⟩
     . exact T.obj _ _ st5 b hb
    have back:∀ {σ7:St} {H7:Hp} {s7:Shared},aL (bK X scope N s2 H2 C (D::fp)) ([]++kK (D::fp) s5.heap) σ7 H7 s7->Df (lift ix σ) σ7->
     aL (bK X scope N s2 H2 C (D::fp)) [] (lift ix σ) H7 s7/\tn (i+1) s7.heap/\(∀ b∈D::fp,H7 b=none)/\s7.heap.get? D=some { cls:=.type "list", data:=.seq its.toArray kk }:=λ {σ7 H7 s7} I7 ex=>by
     have keepAt:∀ b∈D::fp,∀ o,s5.heap.get? b=some o->s7.heap.get? b=some o/\H7 b=none:=λ b hb o e=>
      ⟨(I7.pin (b,o) (List.mem_append_right _ (List.mem_append_right _ (gM hb e)))).1,(I7.pin (b,o) (List.mem_append_right _ (List.mem_append_right _ (gM hb e)))).2.1⟩
     refine ⟨I7.unpinned.weak ex.1 ex.2,T.keep _ _ _ st5 λ b hb o e=>(keepAt b (sub b hb) o e).1,λ b hb=>?_,(keepAt D List.mem_cons_self _ eD5.1).1⟩
     rcases List.mem_cons.mp hb with z | hb'
     . rw [z];exact (keepAt D List.mem_cons_self _ eD5.1).2
     . obtain ⟨o,e,_⟩:=T.obj _ _ st5 b hb'
       exact (keepAt b hb o e).2
    refine cm (hg _ s5 _ H5 x u _ I5' r5 (hG _ _ _ _ (step x H5 y5))) λ _ s6 hq0=>?_
    obtain ⟨σ6,H6,I6,q6,ex6⟩:=hq0
    refine cm (hif _ s6 σ6 H6 _ I6 q6) λ ok s7 hq0=>?_
    obtain ⟨H7,I7,q7⟩:=hq0
    cases ok with
    | false=>
     rw [if_neg Bool.false_ne_true] at q7 ⊢
     obtain ⟨m',hm,w7⟩:=hN _ _ q7
     obtain ⟨J1,J2,J3,J4⟩:=back I7 ex6
     exact ⟨m',hm,i+1,H7,ys,its,J1,J2,J3,⟨_,J4⟩,rv3,w7⟩
    | true=>
     rw [if_pos rfl] at q7 ⊢
     refine cm (hel _ s7 σ6 H7 _ I7 q7) λ uv s8 hq0=>?_
     obtain ⟨y,H8,I8,r8,q8⟩:=hq0
     obtain ⟨m',hm,w8⟩:=hN _ _ q8
     obtain ⟨J1,J2,J3,J4⟩:=back I8 ex6
     refine wpAny_list_append_plain (hsz:=by rw [List.size_toArray,<-rv3.length];exact Nat.le_of_lt hz) ⟨_,J4⟩ λ h₉ hl₉ hs₉=>?_
     obtain ⟨a1,a2,a3,a4,a5,a6⟩:=stat J3 D List.mem_cons_self
     refine ⟨m',hm,i+1,H8,ys++[y],its++[uv],J1.turned (t':=s8.toks) (λ b o hb e=>hs₉.extBut b o hb e) a1 a2 a4 a5 a6,T.keep _ _ _ J2 λ b hb o e=>hs₉.extBut b o (nDf b hb) e,J3,by simpa using hl₉,rv3.append (.cons r8 .nil),w8⟩
 exact codeAny_compStart_list (loop _ rfl) (T.self _ 0 _ _ _ (T.keep _ _ _ st2 λ b _ o e=>old b o e) (loop _ rfl))
theorem Bj (S:bH X scope N ix) (hc:X.calm=true) (hi:PI X tg iter wi) (hG:ng ix g)
 (hb:∀ (s₀:Shared) (H₀:Hp) (C:Addr) (ex:List Addr),PG (bK X scope N s₀ H₀ C ex) tg g/\uh (bK X scope N s₀ H₀ C ex) ifs tc/\PE (bK X scope N s₀ H₀ C ex) elt te)
 (hs:∀ x,foldedSetIterable iter X.env x=pure x:=by intro _;rfl):PE X (.ListComp elt [⟨tg,iter,ifs,0⟩] scope pos) (mC ix wi g tc te):=by
 intro pins s σ H Q I h
 rw [eval_ListComp]
 refine wpAny_comprehension_free (use:=none) rfl hs (mR (S.cells I)) S.kind S.locs ?_
 refine cm (hi pins s σ H _ I h) λ v s1 h1=>cm h1 λ itv s2 h2=>?_
 refine oT (Rr:=λ acc C=>compPost (model X.prog X.w) X.A X.xe none (EP X pins σ Q) acc C) S hc hG hb h2 ?_
 intro s4 H' D C m ys hm _ fin _ _ q
 exact ⟨m,hm,λ h' hs'=>⟨.ref D,_,fin h' hs',rfl,q⟩⟩
theorem Bp {y:Str} {py spos:Pos} {i:Nat} (hN:X.N.Nodup) (hi:X.N[i]?=some y) (hy:FV X.env.scope y) (S:bH X scope N ix) (hc:X.calm=true) (hit:PI X tg iter wi) (hG:ng ix g)
 (hb:∀ (s₀:Shared) (H₀:Hp) (C:Addr) (ex:List Addr),PG (bK X scope N s₀ H₀ C ex) tg g/\uh (bK X scope N s₀ H₀ C ex) ifs tc/\PE (bK X scope N s₀ H₀ C ex) elt te)
 (hsw:swapsWith (.ListComp elt [⟨tg,iter,ifs,0⟩] scope pos) (some (.Name y py)) spos.line X.env=pure true:=by rfl) (hs:∀ x,foldedSetIterable iter X.env x=pure x:=by intro _;rfl)
 (hf:X.fn y=true∨X.env.scope.names.lookup y=some .local:=by first | exact .inl rfl | exact .inr rfl | assumption):
 PS X (.Assign [.Name y py] (.ListComp elt [⟨tg,iter,ifs,0⟩] scope pos) spos) (o0 (mC ix wi g tc te) (lI i)):=by
 intro pins s σ H D0 I h
 rw [exec_Assign_Name_used _ _ _ _ hsw]
 refine wpAny_bind (wpAny_standAt (wpAny_bind ?_))
 show wpAny _ X.A (do let _ <-comprehension (.ListComp elt [⟨tg,iter,ifs,0⟩] scope pos) scope X.env _ (newList []) false (eval iter X.env) (some (assign (.Name y py) X.env))) _ _ s
 refine wpAny_bind (wpAny_mono (wpAny_comprehension_free (use:=some (assign (.Name y py) X.env)) (Q:=λ _ s'=>SP X pins D0 .next s') rfl hs (mR (S.cells I)) S.kind S.locs ?_) (λ _ s' hq=>wpAny_pure (wpAny_pure hq)) λ _ _ e=>e)
 refine cm (hit pins s σ H _ I h) λ v s1 h1=>cm h1 λ itv s2 h2=>?_
 refine oT (Q:=λ x H1=>lI i x σ H1 D0.nx) (Rr:=λ acc C=>compPost (model X.prog X.w) X.A X.xe (some (assign (.Name y py) X.env)) (λ _ s'=>SP X pins D0 .next s') acc C) S hc hG hb h2 ?_
 intro s4 H' D C m ys hm fC _ I4 hDC q
 show wpAny _ X.A (assign (.Name y py) X.env (.ref D)) _ _ _
 obtain ⟨c0,c1,c2,c3,c4,c5⟩:=fC
 refine wpAny_assign_Name (o7 (v:=.ref D) I4 hN hi hy rfl (λ s5 I5 hsb=>?_) hf)
 obtain ⟨a,hsa,ha⟩:=hsb
 have haC:C≠a:=by
  rcases ha with z | z
  . rw [z];exact c1
  . exact λ e=>c4 y a z e.symm
 refine ⟨m,hm.sameBut hsa haC,λ h' hs'=>?_⟩
 have hCn:(cp H' D (.lst ys)) C=none:=by rw [aJ hDC.symm];exact c0
 exact ⟨_,_,I5.turned (t':=s5.toks) (λ b o hb e=>hs'.extBut b o hb e) hCn c1 c3 c4 c5,q⟩
end
noncomputable def Lc (K:Frag) (a b:Addr):It:=
 ⟨λ i H=>∃ xs ys x y,cC K H a xs/\cC K H b ys/\xs[i]?=some x/\ys[i]?=some y,
  λ i H v H'=>∃ p x y,H p=none/\v=.ref p/\H'=cp H p (.tup [x,y])/\(∀ xs,cC K H a xs->xs[i]?=some x)/\∀ ys,cC K H b ys->ys[i]?=some y,
  λ i H=>∃ xs ys,cC K H a xs/\cC K H b ys/\(xs.length<=i∨ys.length<=i)⟩
theorem aL.turnedL {X:Cx} {pins:List (Addr×Obj)} {σ:St} {H:Hp} {s:Shared} {h':Heap} {t':Nat} {ch:List Addr} (I:aL X pins σ H s) (hf:∀ b∈ch,j6 X pins H b) (k:∀ b o,b∉ch->s.heap.get? b=some o->h'.get? b=some o):
 aL X pins σ H { s with heap:=h',toks:=t' }:=by
 have wY:∀ c t,H c=some t->c∉ch:=λ c t e hc=>by rw [(hf c hc).1] at e;cases e
 refine I.step (g':=s.gens) (d':=s.drawn) (ch:=ch) (λ c hc=>⟨(hf c hc).2.2.2.1,(hf c hc).2.1,(hf c hc).2.2.2.2.1,(hf c hc).2.2.2.2.2⟩) (λ c o _ _ hc e _=>k c o hc e) (λ c o _ _ hc e _=>⟨o.slots,k c o hc e⟩) (λ _ _ _ _ n=>n) (λ c o hc e=>⟨o,k c o hc e⟩)
  (λ _ _ e=>e) (λ _ _ _ e=>e) (λ c ps e=>⟨#[],by rw [e];simp⟩) (λ m hm=>?_) (λ c t e=>?_) I.bare
 . obtain ⟨o,es,ep,ho,r⟩:=hm
   exact ⟨o,es,ep,k _ o (λ hc=>(hf _ hc).2.1 rfl) ho,r⟩
 . refine (I.hok c t e).stay (λ d o hd q=>k d o ?_ q) (λ _ q=>q) λ _ _ q=>q
   rcases hd with hd | hd
   . rw [hd];exact wY c t e
   . exact wY d _ hd
theorem oC {h:Heap} {a b z TI TO i1 i2:Addr} {u0 v0:Value} {i:Nat} {its jts:Array Value} (h12:i1≠i2) (hT:TI≠TO) (e1:IsZip h z TI TO .none) (e2:IsPair h TI (.ref i1) (.ref i2)) (e3:IsPair h TO u0 v0) (e4:h.IsListIter i1 a i) (e5:h.IsListIter i2 b i)
 (px:PlainL h a its) (py:PlainL h b jts):ZipApart z TI TO i1 i2 a b:=by
 obtain ⟨o4,g4,c4,_⟩:=id e4
 obtain ⟨o5,g5,c5,_⟩:=id e5
 obtain ⟨oa,na,ga,ca,_⟩:=id px
 obtain ⟨ob,nb,gb,cb,_⟩:=id py
 have ne:∀ {p q:Addr} {o o':Obj},h.get? p=some o->h.get? q=some o'->o.cls≠o'.cls->p≠q:=λ h h' d z=>by
  subst z;rw [h] at h';cases h';exact d rfl
 exact ⟨ne e2 e1 (by simp),ne e3 e1 (by simp),ne g4 e1 (by rw [c4];simp),ne g5 e1 (by rw [c5];simp),hT,ne e2 g4 (by rw [c4];simp),ne e2 g5 (by rw [c5];simp),ne e3 g4 (by rw [c4];simp),ne e3 g5 (by rw [c5];simp),h12,
  ne ga e1 (by rw [ca];simp),ne ga e3 (by rw [ca];simp),ne ga g4 (by rw [ca,c4];simp),ne ga g5 (by rw [ca,c5];simp),ne gb e1 (by rw [cb];simp),ne gb e3 (by rw [cb];simp),ne gb g4 (by rw [cb,c4];simp),ne gb g5 (by rw [cb,c5];simp)⟩
theorem zi {P:Program} {w:World} {K:Frag} {elts:List Expr} {x1} {pos:Pos} (a b z TI TO i1 i2:Addr) (h12:i1≠i2) (hT:TI≠TO):
 xz P w K (.Tuple elts x1 pos) (Lc K a b) [z,TI,TO,i1,i2] z (λ i h=>IsZip h z TI TO .none/\IsPair h TI (.ref i1) (.ref i2)/\(∃ u v,IsPair h TO u v)/\h.IsListIter i1 a i/\h.IsListIter i2 b i) where
 mem:=by simp
 obj:=λ i h st c hc=>by
  obtain ⟨e1,e2,⟨u,v,e3⟩,⟨o4,e4,_,d4⟩,⟨o5,e5,_,d5⟩⟩:=st
  simp only [List.mem_cons,List.not_mem_nil,or_false] at hc
  rcases hc with rfl | rfl | rfl | rfl | rfl
  . exact ⟨_,e1,λ v z=>by cases z⟩
  . exact ⟨_,e2,λ v z=>by cases z⟩
  . exact ⟨_,e3,λ v z=>by cases z⟩
  . exact ⟨o4,e4,λ v z=>by rw [d4] at z;cases z⟩
  . exact ⟨o5,e5,λ v z=>by rw [d5] at z;cases z⟩
 keep:=λ i h h' st k=>by
  obtain ⟨e1,e2,⟨u,v,e3⟩,e4,e5⟩:=st
  exact ⟨k z (by simp) _ e1,k TI (by simp) _ e2,⟨u,v,k TO (by simp) _ e3⟩,e4.at λ o e=>k i1 (by simp) o e,e5.at λ o e=>k i2 (by simp) o e⟩
 item:=by
  intro X hP hw hK hc i pins s σ H E I hf st hg
  subst hP hw hK
  obtain ⟨xs,ys,x,y,qx,qy,hx,hy⟩:=hg
  obtain ⟨its,rvx,px,_⟩:=I.list qx
  obtain ⟨jts,rvy,py,_⟩:=I.list qy
  obtain ⟨u,hu,ru⟩:=rvx.get hx
  obtain ⟨v,hv,rv⟩:=rvy.get hy
  obtain ⟨e1,e2,⟨u0,v0,e3⟩,e4,e5⟩:=st
  have D:=oC h12 hT e1 e2 e3 e4 e5 px py
  refine wpAny_pyNext_zip_item D e1 e2 e3 e4 e5 px.isList py.isList (x:=u) (y:=v) (by simpa using hu) (by simpa using hv) λ h' a1 a2 a3 a4 a5 a6 a7=>?_
  refine ⟨_,rfl,wpAny_letOwnedTupleGo_zip (s:={ s with heap:=h' }) a1 λ h'' b1 b2=>?_⟩
  have hTn:H s.heap.objs.size=none:=I.hok.fresh (Nat.le_refl _)
  have big:∀ {c:Addr} {o:Obj},s.heap.get? c=some o->c≠s.heap.objs.size:=λ e=>Nat.ne_of_lt (Heap.lt_size e)
  have hTz:s.heap.objs.size≠z:=(big e1).symm
  have k2:∀ c o,c≠z->c≠TO->c≠i1->c≠i2->s.heap.get? c=some o->h''.get? c=some o:=λ c o c1 c2 c3 c4 e=>(b2.2 c c1).trans (a7 c o c1 c2 c3 c4 e)
  have eT:IsPair h'' s.heap.objs.size u v:=(b2.2 _ hTz).trans a5
  have fpz:=hf z (by simp)
  have fpO:=hf TO (by simp)
  have fp1:=hf i1 (by simp)
  have fp2:=hf i2 (by simp)
  have nin:∀ c,c∉[z,TO,i1,i2]->c≠z/\c≠TO/\c≠i1/\c≠i2:=λ c hc=>by
   simp only [List.mem_cons,List.not_mem_nil,or_false,not_or] at hc
   exact hc
  have inn:∀ c∈[z,TO,i1,i2],j6 X pins H c:=λ c hc=>by
   simp only [List.mem_cons,List.not_mem_nil,or_false] at hc
   rcases hc with rfl | rfl | rfl | rfl
   . exact fpz
   . exact fpO
   . exact fp1
   . exact fp2
  have wY:∀ c t,H c=some t->c∉[z,TO,i1,i2]:=λ c t e hc=>by rw [(inn c hc).1] at e;cases e
  have I1:aL X pins σ (cp H s.heap.objs.size (.tup [x,y])) { s with heap:=h'',gens:=s.gens,drawn:=s.drawn,toks:=s.toks }:=by
   refine I.step (ch:=[z,TO,i1,i2]) (λ c hc=>⟨(inn c hc).2.2.2.1,(inn c hc).2.1,(inn c hc).2.2.2.2.1,(inn c hc).2.2.2.2.2⟩) (λ c o _ _ hc e _=>?_) (λ c o _ _ hc e _=>?_) (λ c o hc e n=>?_) (λ c o hc e=>?_) (λ c t e=>?_) (λ c o t e=>?_) (λ c ps e=>?_) (λ m hm=>?_) (λ c t e=>?_) I.bare
   . obtain ⟨c1,c2,c3,c4⟩:=nin c hc;exact k2 c o c1 c2 c3 c4 e
   . obtain ⟨c1,c2,c3,c4⟩:=nin c hc;exact ⟨o.slots,k2 c o c1 c2 c3 c4 e⟩
   . rw [aJ (big e)];exact n
   . obtain ⟨c1,c2,c3,c4⟩:=nin c hc;exact ⟨o,k2 c o c1 c2 c3 c4 e⟩
   . rw [aJ (be e hTn)];exact e
   . rw [aJ (be e hTn)];exact e
   . exact ⟨#[],by rw [aJ (be e hTn),e];simp⟩
   . obtain ⟨o,es,ep,ho,r⟩:=hm
     obtain ⟨c1,c2,c3,c4⟩:=nin X.env.locals (λ hc=>(inn _ hc).2.1 rfl)
     exact ⟨o,es,ep,k2 _ o c1 c2 c3 c4 ho,r⟩
   . by_cases hcT:c=s.heap.objs.size
     . subst hcT
       rw [aK] at e
       cases e
       exact ⟨by show 2<=sizeLine;decide,[u,v],.cons ru (.cons rv .nil),⟨_,eT,rfl,_,rfl⟩⟩
     . rw [aJ hcT] at e
       refine (I.hok c t e).stay (λ d o hd q=>?_) (λ d q=>by rw [aJ (be q hTn)];exact q) λ d zs q=>by rw [aJ (be q hTn)];exact q
       have hd':d∉[z,TO,i1,i2]:=by
        rcases hd with hd | hd
        . rw [hd];exact wY c t e
        . exact wY d _ hd
       obtain ⟨c1,c2,c3,c4⟩:=nin d hd'
       exact k2 d o c1 c2 c3 c4 q
  refine ⟨.ref s.heap.objs.size,_,I1,rfl,⟨s.heap.objs.size,x,y,hTn,rfl,rfl,λ zs hz=>by rw [I.list_inj hz qx];exact hx,λ zs hz=>by rw [I.list_inj hz qy];exact hy⟩,
   ⟨b1,k2 _ _ D.TIz D.TITO D.TIi1 D.TIi2 e2,⟨u,v,(b2.2 _ D.TOz).trans a2⟩,a3.at λ o e=>(b2.2 _ D.i1z).trans e,a4.at λ o e=>(b2.2 _ D.i2z).trans e⟩,λ c hc=>?_⟩
  have hcn:∀ c∈[z,TI,TO,i1,i2],c≠s.heap.objs.size:=λ c hc=>by
   obtain ⟨o4,g4,_⟩:=id e4
   obtain ⟨o5,g5,_⟩:=id e5
   simp only [List.mem_cons,List.not_mem_nil,or_false] at hc
   rcases hc with rfl | rfl | rfl | rfl | rfl
   . exact big e1
   . exact big e2
   . exact big e3
   . exact big g4
   . exact big g5
  rw [aJ (hcn c hc)]
  exact (hf c hc).1
 done:=by
  intro X hP hw hK hc i pins s σ H E I hf st hg
  subst hP hw hK
  obtain ⟨xs,ys,qx,qy,hl⟩:=hg
  obtain ⟨its,rvx,px,_⟩:=I.list qx
  obtain ⟨jts,rvy,py,_⟩:=I.list qy
  obtain ⟨e1,e2,⟨u0,v0,e3⟩,e4,e5⟩:=st
  have D:=oC h12 hT e1 e2 e3 e4 e5 px py
  have lx:=rvx.length
  have ly:=rvy.length
  refine wpAny_pyNext_zip_end (I.ok.hd hc) D e1 e2 e3 e4 e5 px.isList py.isList ?_ λ h' k=>⟨rfl,I.turnedL (t':=s.toks) (ch:=[z,TO,i1,i2]) (λ c hc=>hf c ?_) λ c o hc e=>?_⟩
  . rcases hl with hl | hl
    . exact .inl (by simp;omega)
    . exact .inr (by simp;omega)
  . simp only [List.mem_cons,List.not_mem_nil,or_false] at hc ⊢
    rcases hc with h | h | h | h
    . exact .inl h
    . exact .inr (.inr (.inl h))
    . exact .inr (.inr (.inr (.inl h)))
    . exact .inr (.inr (.inr (.inr h)))
  . simp only [List.mem_cons,List.not_mem_nil,or_false,not_or] at hc
    exact k c o hc.1 hc.2.1 hc.2.2.1 hc.2.2.2 e
 self:=λ _ _ _ _ _ st h=>wpAny_pyIter_zip st.1 h
noncomputable def Ca (K:Frag) (ta:TA):TI:=λ σ H R=>ta σ H λ vs H1=>∃ a b,vs=[.ref a,.ref b]/\(∃ xs,cC K H1 a xs)/\(∃ ys,cC K H1 b ys)/\R (Lc K a b) H1
theorem Fm {X:Cx} {elts:List Expr} {x1} {tpos:Pos} {a b:Expr} {ta:TA} {p pos:Pos} (hg:Gl X "zip") (hm:X.mg "zip" = none) (ha:PA X [a,b] ta) (hs:starEach [a,b] X.env=[(false,eval a X.env),(false,eval b X.env)]:=by rfl) (hs2:starEach [b] X.env=[(false,eval b X.env)]:=by rfl):
 PI X (.Tuple elts x1 tpos) (.Call (.Name "zip" p) [a,b] [] pos) (Ca X.K ta):=by
 intro pins s σ H R I h
 refine Call_ (kZ I hg hm boot_zip (PyProof.Rows.callWith_type1 (cm (ha pos pins s σ H _ I h) λ us s1 hq0=>?_) (by rw [hs,hs2]) (by rw [hs2];rfl)))
 obtain ⟨vs,H1,I1,r1,q1⟩:=hq0
 obtain ⟨a,b,e,⟨xs,qx⟩,⟨ys,qy⟩,q⟩:=q1
 subst e
 cases r1 with
 | cons r rr=>
  cases rr with
  | cons r' rr=>
   cases rr
   cases r
   cases r'
   obtain ⟨its,rvx,px,_⟩:=I1.list qx
   obtain ⟨jts,rvy,py,_⟩:=I1.list qy
   refine call_zip_2 px.isList py.isList λ h' g5 g3 g4 g1 g2 z5 k=>?_
   refine wpAny_pyIter_zip (s:={ s1 with heap:=h' }) g5 ?_
   refine ⟨s1.heap.objs.size+4,[s1.heap.objs.size+4,s1.heap.objs.size+2,s1.heap.objs.size+3,s1.heap.objs.size,s1.heap.objs.size+1],_,_,H1,rfl,I1.kept (t':=s1.toks) k,zi a b _ _ _ _ _ (Nat.ne_of_lt (Nat.lt_succ_self _)) (Nat.ne_of_lt (Nat.lt_succ_self _)),⟨g5,g3,⟨_,_,g4⟩,g1,g2⟩,λ c hc=>?_,q⟩
   have hc':s1.heap.objs.size<=c:=by
    simp only [List.mem_cons,List.not_mem_nil,or_false] at hc
    rcases hc with h | h | h | h | h <;> subst h <;> first
     | exact Nat.le_refl _
     | exact Nat.le_add_right _ _
   exact I1.fpOk hc' (I1.hok.fresh hc')
noncomputable def Ku (T:String):Option Bool:=if T = "int" then some true else if T = "bool" then some false else if T = "str" then some false else if T = "list" then some false else if T = "tuple" then some false else if T = "dict" then some false else none
noncomputable def Lf (T:String):Option Bool:=if T = "int" then some true else if T = "bool" then some true else if T = "str" then some false else if T = "list" then some false else if T = "tuple" then some false else if T = "dict" then some false else none
noncomputable def KO (T:String):Option Bool:=if T = "int" then some false else if T = "bool" then some false else if T = "str" then some true else if T = "list" then some false else if T = "tuple" then some false else if T = "dict" then some false else none
noncomputable def ET (v:V) (T:String):Option Bool:=match v with
 | .int _=>Ku T
 | .bl _=>Lf T
 | .str _=>KO T
 | _=>none
section
variable {X:Cx}
noncomputable def DX (i j:Int):Prop:=j≠0/\j.natAbs<2^512
theorem Jy:fJ X (binaryOp .FloorDiv) (rI DX λ i j=>.int (i.fdiv j)):=Ig λ i j _ _ _ _ _ hc q=>floordiv_int hc.1 q (.inl (PyProof.noPylong_of_log2 (by
 by_cases h0:j.natAbs=0
 . rw [h0];decide +kernel
 . have:=(Nat.log2_lt h0).mpr hc.2
   omega)))
theorem Kf:fJ X (binaryOp .Mod) (rI (λ _ j=>j≠0) λ i j=>.int (i.fmod j)):=BJ
theorem uE {scope:Scope} {N:List Str} {ix:List (Option Nat)} (kind:scope.kind=.function) (nocell:(scope.names.all λ y=>y.2 != .cell)=true) (locs:(scope.names.all λ y=>y.2 != .local||scope.names.lookup y.1==some .local)=true)
 (free:(scope.names.all λ y=>y.2 != .free||X.env.kindOf y.1==some .cell||X.env.kindOf y.1==some .free)=true) (len:ix.length=N.length) (nd:N.Nodup)
 (fr:((ix.zip N).all λ p=>match p.1 with
  | none=>true
  | some i=>X.N[i]?==some p.2&&(X.env.kindOf p.2==some .cell||X.env.kindOf p.2==some .free)&&((relabel scope X.env).names.lookup p.2==some .cell||(relabel scope X.env).names.lookup p.2==some .free))=true):bH X scope N ix:=by
 refine ⟨kind,λ y hy=>?_,λ y hy hl=>?_,λ y hy hf=>?_,len,nd,λ j i e=>?_⟩
 . have:=List.all_eq_true.mp nocell y hy
   simpa using this
 . have:=List.all_eq_true.mp locs y hy
   rw [hl] at this
   simpa using this
 . have:=List.all_eq_true.mp free y hy
   rw [hf] at this
   simpa using this
 . have hj:j<ix.length:=(oG e).1
   have hj':j<N.length:=by omega
   have hm:(ix.zip N)[j]?=some (some i,N[j]):=by
    rw [List.getElem?_zip_eq_some]
    exact ⟨e,by simp [hj']⟩
   have:=List.all_eq_true.mp fr _ (List.mem_of_getElem? hm)
   simp only [Bool.and_eq_true,Bool.or_eq_true,beq_iff_eq] at this
   exact ⟨N[j],by simp [hj'],this.1.1,this.1.2,this.2⟩
end
section
variable {K:Frag} {a b:Addr} {xs ys:List V} {wi:TI} {g:TG} {tb:TS} {D:iq} {σ:St} {H H1:Hp} {ix:List (Option Nat)} {tc:TT} {te:TE} {Q:VK}
end
theorem aL.turnedTup {X:Cx} {pins:List (Addr×Obj)} {σ:St} {H:Hp} {s:Shared} {h':Heap} {t':Nat} {ch:List Addr} {T:Addr} {xs:List V} {its:List Value} (I:aL X pins σ H s) (hf:∀ b∈ch,j6 X pins H b)
 (k:∀ b o,b∉ch->s.heap.get? b=some o->h'.get? b=some o) (hT:s.heap.objs.size<=T) (eT:IsTup h' T its.toArray) (r:bc xs its) (hz:xs.length<=sizeLine):aL X pins σ (cp H T (.tup xs)) { s with heap:=h',toks:=t' }:=by
 have hTn:H T=none:=I.hok.fresh hT
 have big:∀ {c:Addr} {o:Obj},s.heap.get? c=some o->c≠T:=λ e=>Nat.ne_of_lt (Nat.lt_of_lt_of_le (Heap.lt_size e) hT)
 have wY:∀ c t,H c=some t->c∉ch:=λ c t e hc=>by rw [(hf c hc).1] at e;cases e
 refine I.step (g':=s.gens) (d':=s.drawn) (ch:=ch) (λ c hc=>⟨(hf c hc).2.2.2.1,(hf c hc).2.1,(hf c hc).2.2.2.2.1,(hf c hc).2.2.2.2.2⟩) (λ c o _ _ hc e _=>k c o hc e) (λ c o _ _ hc e _=>⟨o.slots,k c o hc e⟩) (λ c o hc e n=>?_) (λ c o hc e=>⟨o,k c o hc e⟩) (λ c t e=>?_) (λ c o t e=>?_) (λ c ps e=>?_) (λ m hm=>?_) (λ c t e=>?_) I.bare
 . rw [aJ (big e)];exact n
 . rw [aJ (be e hTn)];exact e
 . rw [aJ (be e hTn)];exact e
 . exact ⟨#[],by rw [aJ (be e hTn),e];simp⟩
 . obtain ⟨o,es,ep,ho,r⟩:=hm
   exact ⟨o,es,ep,k _ o (λ hc=>(hf _ hc).2.1 rfl) ho,r⟩
 . by_cases hcT:c=T
   . subst hcT
     rw [aK] at e
     cases e
     exact ⟨hz,its,r,eT⟩
   . rw [aJ hcT] at e
     refine (I.hok c t e).stay (λ d o hd q=>k d o ?_ q) (λ d q=>by rw [aJ (be q hTn)];exact q) λ d zs q=>by rw [aJ (be q hTn)];exact q
     rcases hd with hd | hd
     . rw [hd];exact wY c t e
     . exact wY d _ hd
noncomputable def L1 (K:Frag) (a:Addr):It:=
 ⟨λ i H=>∃ xs x,cC K H a xs/\xs[i]?=some x,
  λ i H v H'=>∃ p x,H p=none/\v=.ref p/\H'=cp H p (.tup [.int i,x])/\∀ xs,cC K H a xs->xs[i]?=some x,
  λ i H=>∃ xs,cC K H a xs/\xs.length<=i⟩
theorem xn {P:Program} {w:World} {K:Frag} {elts:List Expr} {x1} {pos:Pos} (a e it:Addr) (hei:e≠it):
 xz P w K (.Tuple elts x1 pos) (L1 K a) [e,it] e (λ i h=>(∃ old,IsEnum h e it i old)/\h.IsListIter it a i) where
 mem:=by simp
 obj:=λ i h st c hc=>by
  obtain ⟨⟨old,e1⟩,⟨o4,e4,_,d4⟩⟩:=st
  simp only [List.mem_cons,List.not_mem_nil,or_false] at hc
  rcases hc with rfl | rfl
  . exact ⟨_,e1,λ v z=>by cases z⟩
  . exact ⟨o4,e4,λ v z=>by rw [d4] at z;cases z⟩
 keep:=λ i h h' st k=>by
  obtain ⟨⟨old,e1⟩,e4⟩:=st
  exact ⟨⟨old,k e (by simp) _ e1⟩,e4.at λ o q=>k it (by simp) o q⟩
 item:=by
  intro X hP hw hK hc i pins s σ H E I hf st hg
  subst hP hw hK
  obtain ⟨xs,x,qx,hx⟩:=hg
  obtain ⟨its,rvx,px,_⟩:=I.list qx
  obtain ⟨u,hu,ru⟩:=rvx.get hx
  obtain ⟨⟨old,e1⟩,e4⟩:=st
  have big:∀ {c:Addr} {o:Obj},s.heap.get? c=some o->c≠s.heap.objs.size:=λ e=>Nat.ne_of_lt (Heap.lt_size e)
  refine wpAny_pyNext_enum_item e1 e4 px.isList (x:=u) (by simpa using hu) hei λ h' a1 a2 a3 a4 a5=>?_
  refine ⟨_,rfl,wpAny_letOwnedTupleGo_enum (s:={ s with heap:=h',toks:=s.toks+1 }) a1 λ h'' b1 b2=>?_⟩
  have k2:∀ c o,c∉[e,it]->s.heap.get? c=some o->h''.get? c=some o:=λ c o hc q=>by
   simp only [List.mem_cons,List.not_mem_nil,or_false,not_or] at hc
   exact (b2.2 c hc.1).trans (a5 c o hc.1 hc.2 q)
  have eT:IsTup h'' s.heap.objs.size (List.toArray [.int i s.toks,u]):=⟨_,(b2.2 _ (big e1).symm).trans a3,rfl,_,rfl⟩
  have I1:=I.turnedTup (t':=s.toks+1) (xs:=[.int i,x]) hf k2 (Nat.le_refl _) eT (.cons ⟨_,rfl⟩ (.cons ru .nil)) (by show 2<=sizeLine;decide)
  refine ⟨.ref s.heap.objs.size,_,I1,rfl,⟨s.heap.objs.size,x,I.hok.fresh (Nat.le_refl _),rfl,rfl,λ zs hz=>by rw [I.list_inj hz qx];exact hx⟩,⟨⟨u,by simpa using b1⟩,a2.at λ o q=>(b2.2 _ hei.symm).trans q⟩,λ c hc=>?_⟩
  have hcn:c≠s.heap.objs.size:=by
   obtain ⟨o4,g4,_⟩:=id e4
   simp only [List.mem_cons,List.not_mem_nil,or_false] at hc
   rcases hc with rfl | rfl
   . exact big e1
   . exact big g4
  rw [aJ hcn]
  exact (hf c hc).1
 done:=by
  intro X hP hw hK hc i pins s σ H E I hf st hg
  subst hP hw hK
  obtain ⟨xs,qx,hl⟩:=hg
  obtain ⟨its,rvx,px,_⟩:=I.list qx
  obtain ⟨⟨old,e1⟩,e4⟩:=st
  have lx:=rvx.length
  obtain ⟨f0,f1,f2,f3,f4,f5⟩:=hf it (by simp)
  exact wpAny_pyNext_enum_end (I.ok.hd hc) e1 e4 px.isList (by simp;omega) λ h' k=>⟨rfl,I.turned (t':=s.toks) (λ b o hb q=>k b o hb q) f0 f1 f3 f4 f5⟩
 self:=λ _ _ _ _ _ st h=>by
  obtain ⟨⟨old,e1⟩,_⟩:=st
  exact wpAny_pyIter_enum e1 h
noncomputable def yb (K:Frag) (ta:TA):TI:=λ σ H R=>ta σ H λ vs H1=>∃ a,vs=[.ref a]/\(∃ xs,cC K H1 a xs)/\R (L1 K a) H1
theorem Cf {X:Cx} {elts:List Expr} {x1} {tpos:Pos} {a:Expr} {ta:TA} {p pos:Pos} (hg:Gl X "enumerate") (hm:X.mg "enumerate" = none) (ha:PA X [a] ta) (hs:starEach [a] X.env=[(false,eval a X.env)]:=by rfl):
 PI X (.Tuple elts x1 tpos) (.Call (.Name "enumerate" p) [a] [] pos) (yb X.K ta):=by
 intro pins s σ H R I h
 refine Call_ (kZ I hg hm boot_enumerate (PyProof.Rows.callWith_type1 (cm (ha pos pins s σ H _ I h) λ us s1 hq0=>?_) hs rfl))
 obtain ⟨vs,H1,I1,r1,q1⟩:=hq0
 obtain ⟨a,e,⟨xs,qx⟩,q⟩:=q1
 subst e
 cases r1 with
 | cons r rr=>
  cases rr
  cases r
  obtain ⟨its,rvx,px,_⟩:=I1.list qx
  refine call_enumerate_list px.isList λ h' g5 g1 z5 k=>?_
  refine wpAny_pyIter_enum (s:={ s1 with heap:=h' }) g5 ?_
  refine ⟨s1.heap.objs.size+1,[s1.heap.objs.size+1,s1.heap.objs.size],_,_,H1,rfl,I1.kept (t':=s1.toks) k,xn a _ _ (Nat.ne_of_gt (Nat.lt_succ_self _)),⟨⟨_,g5⟩,g1⟩,λ c hc=>?_,q⟩
  have hc':s1.heap.objs.size<=c:=by
   simp only [List.mem_cons,List.not_mem_nil,or_false] at hc
   rcases hc with h | h <;> subst h <;> first
    | exact Nat.le_refl _
    | exact Nat.le_add_right _ _
  exact I1.fpOk hc' (I1.hok.fresh hc')
mutual
inductive Dp (K:Frag) (H:Hp):V->PyData->Prop
 | non:Dp K H .non .none
 | bl (b:Bool):Dp K H (.bl b) (.bool b)
 | int (i:Int):Dp K H (.int i) (.int i)
 | str (x:Str):Dp K H (.str x) (.str x)
 | lst {a:Addr} {xs:List V} {ds:List PyData}:cC K H a xs->gW K H xs ds->Dp K H (.ref a) (.list ds)
 | tup {a:Addr} {xs:List V} {ds:List PyData}:eK K H a xs->gW K H xs ds->Dp K H (.ref a) (.tuple ds)
inductive gW (K:Frag) (H:Hp):List V->List PyData->Prop
 | nil:gW K H [] []
 | cons {v:V} {vs:List V} {d:PyData} {ds:List PyData}:Dp K H v d->gW K H vs ds->gW K H (v::vs) (d::ds)
end
theorem Dp.reads {X:Cx} {pins:List (Addr×Obj)} {σ:St} {H:Hp} {s:Shared} (I:aL X pins σ H s) {v:V} {d:PyData} {u:Value} (h:Dp X.K H v d):bf v u->∃ as,Reads s.heap u d as:=
 Dp.rec (motive_1:=λ v d _=>∀ u,bf v u->∃ as,Reads s.heap u d as) (motive_2:=λ vs ds _=>∀ us,bc vs us->∃ as,ReadsAll s.heap us ds as)
  (λ u r=>by cases r;exact ⟨_,.none⟩) (λ b u r=>by cases r;exact ⟨_,.bool b⟩) (λ i u r=>by obtain ⟨t,rfl⟩:=r;exact ⟨_,.int i t⟩) (λ x u r=>by obtain ⟨t,rfl⟩:=r;exact ⟨_,.str x t⟩)
  (λ q _ ih u r=>by
   cases r
   obtain ⟨its,rv,⟨o,n,e,c,_,d⟩,_⟩:=I.list q
   obtain ⟨as,ra⟩:=ih _ rv
   exact ⟨_,.list e c d (by simpa using ra)⟩)
  (λ q _ ih u r=>by
   cases r
   obtain ⟨its,rv,⟨o,e,c,n,d⟩,_⟩:=I.tuple q
   obtain ⟨as,ra⟩:=ih _ rv
   exact ⟨_,.tuple e c d (by simpa using ra)⟩)
  (λ us r=>by cases r;exact ⟨_,.nil⟩)
  (λ _ _ ih1 ih2 us r=>by
   cases r with
   | cons r rr=>
    obtain ⟨as,ra⟩:=ih1 _ r
    obtain ⟨bs,rb⟩:=ih2 _ rr
    exact ⟨_,.cons ra rb⟩) h u
noncomputable def BX (K:Frag) (neg:Bool):R2:=λ x y H Q=>∃ d e,Dp K H x d/\Dp K H y e/\d.canLay0=true/\e.canLay0=true/\d.depth<=64/\Q (.bl (if neg then !(PyData.eqv d e) else PyData.eqv d e)) H
theorem Ge {X:Cx} (hu:X.A.units+64<cLine):fJ X (compareOp .Eq) (BX X.K false):=by
 intro pins s σ H x y v u Q I rx ry h
 obtain ⟨d,e,hx,hy,cd,ce,dd,q⟩:=h
 obtain ⟨as,ra⟩:=hx.reads I rx
 obtain ⟨bs,rb⟩:=hy.reads I ry
 exact SeqAt.compareEq_reads ra rb cd ce (by omega) ⟨.bl _,H,I,rfl,by simpa using q⟩
theorem Fd {X:Cx} (hu:X.A.units+64<cLine):fJ X (compareOp .NotEq) (BX X.K true):=by
 intro pins s σ H x y v u Q I rx ry h
 obtain ⟨d,e,hx,hy,cd,ce,dd,q⟩:=h
 obtain ⟨as,ra⟩:=hx.reads I rx
 obtain ⟨bs,rb⟩:=hy.reads I ry
 exact SeqAt.compareNe_reads ra rb cd ce (by omega) ⟨.bl _,H,I,rfl,by simpa using q⟩
section
variable {P:Program} {w:World} {K:Frag} {mg:Str->Option Value} {base:Heap} {N:List Str} {qual:Str} {scope:Scope} {f:Addr} {cd:Value} {A:Around} {outer:List Env} {s:Shared} {H:Hp} {E:XK}
end
section
variable {X:Cx} {E:XK} {C:Addr} {x:Str} {np cpos pos:Pos} {e:Expr} {es:List Expr} {t:TA}
end
section
variable {K:Frag} {x D:Addr}
variable {prog:Program} {w:World} {A:Around} {E:Value->Shared->Prop} {s:Shared} {nm:Str}
end
section
variable {X:Cx}
end
section
variable {κ:Type} [DecidableEq κ]
noncomputable def eE (kvs:List (κ×V)) (k:κ):Option V:=(kvs.find? λ kv=>decide (kv.1=k)).map (·.2)
noncomputable def fX (kvs:List (κ×V)) (k:κ) (v:V):List (κ×V):=
 if (kvs.any λ kv=>decide (kv.1=k))=true then kvs.map (λ kv=>if kv.1=k then (kv.1,v) else kv) else kvs++[(k,v)]
theorem iy {p:κ×V} {r:List (κ×V)} {k:κ} (e:p.1=k):eE (p::r) k=some p.2:=by simp [eE,List.find?_cons,e]
theorem gp {p:κ×V} {r:List (κ×V)} {k:κ} (e:¬ p.1=k):eE (p::r) k=eE r k:=by simp [eE,List.find?_cons,e]
theorem mQ (k:κ):∀ kvs:List (κ×V),(kvs.any λ kv=>decide (kv.1=k))=(eE kvs k).isSome
 | []=>rfl
 | p::r=>by
  rw [List.any_cons]
  by_cases e:p.1=k
  . simp only [iy e,decide_eq_true e,Bool.true_or,Option.isSome_some]
  . rw [gp e,decide_eq_false e,Bool.false_or];exact mQ k r
theorem l6 (kvs:List (κ×V)) (k:κ) (v:V):(fX kvs k v).length<=kvs.length+1:=by
 unfold fX
 split
 . rw [List.length_map];omega
 . rw [List.length_append,List.length_cons,List.length_nil];omega
theorem zb {kvs:List (κ×V)} {k:κ} (v:V) (h:eE kvs k=none):fX kvs k v=kvs++[(k,v)]:=by
 unfold fX
 rw [mQ,h]
 exact if_neg (by decide)
theorem gK.isSome_eq {o:Option V} {u:Option Value} (r:gK o u):o.isSome=u.isSome:=by
 cases o with
 | none=>cases u with
  | none=>rfl
  | some _=>exact (show False from r).elim
 | some _=>cases u with
  | none=>exact (show False from r).elim
  | some _=>rfl
theorem gK.getD {o:Option V} {u:Option Value} {d:V} {d':Value} (r:gK o u) (rd:bf d d'):bf (o.getD d) (u.getD d'):=by
 cases o with
 | none=>cases u with
  | none=>exact rd
  | some _=>exact (show False from r).elim
 | some _=>cases u with
  | none=>exact (show False from r).elim
  | some _=>exact r
theorem KV.val {kvs:List (κ×V)} {vs:List (κ×Value)} (r:KV kvs vs) (k:κ):gK (eE kvs k) (valueAt vs k):=by
 unfold KV at r
 induction r with
 | nil=>exact True.intro
 | @cons p q ps qs h t ih=>
  obtain ⟨h1,h2⟩:=h
  by_cases e:p.1=k
  . have e':q.1=k:=h1.symm.trans e
    have b:valueAt (q::qs) k=some q.2:=by simp [valueAt,List.find?_cons,e']
    rw [iy e,b];exact h2
  . have e':¬ q.1=k:=λ z=>e (h1.trans z)
    have b:valueAt (q::qs) k=valueAt qs k:=by simp [valueAt,List.find?_cons,e']
    rw [gp e,b];exact ih
theorem KV.any {kvs:List (κ×V)} {vs:List (κ×Value)} (r:KV kvs vs) (k:κ):(kvs.any λ kv=>decide (kv.1=k))=vs.any λ kv=>decide (kv.1=k):=by
 unfold KV at r
 induction r with
 | nil=>rfl
 | cons h t ih=>rw [List.any_cons,List.any_cons,ih,h.1]
theorem KV.repl {kvs:List (κ×V)} {vs:List (κ×Value)} (r:KV kvs vs) (k:κ) {y:V} {u:Value} (ry:bf y u):
 KV (kvs.map λ kv=>if kv.1=k then (kv.1,y) else kv) (vs.map λ kv=>if kv.1=k then (kv.1,u) else kv):=by
 unfold KV at r ⊢
 induction r with
 | nil=>exact .nil
 | @cons p q ps qs h t ih=>
  rw [List.map_cons,List.map_cons]
  refine .cons ?_ ih
  obtain ⟨h1,h2⟩:=h
  by_cases e:p.1=k
  . rw [if_pos e,if_pos (h1.symm.trans e)];exact ⟨h1,ry⟩
  . rw [if_neg e,if_neg (λ z=>e (h1.trans z))];exact ⟨h1,h2⟩
theorem KV.put {kvs:List (κ×V)} {vs:List (κ×Value)} (r:KV kvs vs) (k:κ) {y:V} {u:Value} (ry:bf y u):KV (fX kvs k y) (stored vs k u):=by
 unfold fX stored
 rw [r.any k]
 by_cases e:(vs.any λ kv=>decide (kv.1=k))=true
 . rw [if_pos e,if_pos e];exact r.repl k ry
 . rw [if_neg e,if_neg e];exact Paired.snoc r ⟨rfl,ry⟩
theorem KV.length {kvs:List (κ×V)} {vs:List (κ×Value)} (r:KV kvs vs):kvs.length=vs.length:=Paired.length r
end
theorem sd {P:Program} {w:World} {k:aF} {u:Value} (r:bf (kV k) u):(b0 P w).is k u=true:=by
 cases k with
 | inl i=>obtain ⟨t,e⟩:=(show ∃ t,u=Value.int i t from r);subst e;exact sL P w i t
 | inr x=>obtain ⟨t,e⟩:=(show ∃ t,u=Value.str x t from r);subst e;exact rT P w x t
theorem oE {P:Program} {w:World}:∀ {ks:List aF} {us:List Value},bc (ks.map kV) us->ItemsAre (b0 P w) ks us
 | [],_,r=>by rw [List.map_nil] at r;cases r;exact .nil
 | k::ks,_,r=>by
  rw [List.map_cons] at r
  cases r with
  | cons h t=>exact .cons (sd h) (oE t)
noncomputable abbrev KT (H:Hp):List (List aF×V)->List (List aF×Addr×Value)->Prop:=Paired λ p q=>p.1=q.1/\H q.2.1=some (.tup (p.1.map kV))/\bf p.2 q.2.2
theorem KT.val {H:Hp} {kvs:List (List aF×V)} {xs:List (List aF×Addr×Value)} (r:KT H kvs xs) (k:List aF):gK (eE kvs k) ((atKey xs k).map (·.2)):=by
 induction r with
 | nil=>exact True.intro
 | @cons p q ps qs h t ih=>
  obtain ⟨h1,_,h2⟩:=h
  by_cases e:p.1=k
  . have e':q.1=k:=h1.symm.trans e
    have b:atKey (q::qs) k=some q.2:=by simp [atKey,List.find?_cons,e']
    rw [iy e,b];exact h2
  . have e':¬ q.1=k:=λ z=>e (h1.trans z)
    have b:atKey (q::qs) k=atKey qs k:=by simp [atKey,List.find?_cons,e']
    rw [gp e,b];exact ih
theorem KT.repl {H:Hp} {kvs:List (List aF×V)} {xs:List (List aF×Addr×Value)} (r:KT H kvs xs) (k:List aF) {y:V} {u:Value} (ry:bf y u):
 KT H (kvs.map λ kv=>if kv.1=k then (kv.1,y) else kv) (xs.map (putAt k u)):=by
 induction r with
 | nil=>exact .nil
 | @cons p q ps qs h t ih=>
  rw [List.map_cons,List.map_cons]
  refine .cons ?_ ih
  obtain ⟨h1,h2,h3⟩:=h
  unfold putAt
  by_cases e:p.1=k
  . rw [if_pos e,if_pos (h1.symm.trans e)];exact ⟨h1,h2,ry⟩
  . rw [if_neg e,if_neg (λ z=>e (h1.trans z))];exact ⟨h1,h2,h3⟩
theorem KT.put {H:Hp} {kvs:List (List aF×V)} {xs:List (List aF×Addr×Value)} (r:KT H kvs xs) (k:List aF) {b:Addr} {y:V} {u:Value} (hb:H b=some (.tup (k.map kV))) (ry:bf y u):
 KT H (fX kvs k y) (storedH xs k b u):=by
 have e:(kvs.any λ kv=>decide (kv.1=k))=(atKey xs k).isSome:=by
  rw [mQ,(r.val k).isSome_eq,Option.isSome_map]
 unfold fX storedH
 rw [e]
 by_cases q:(atKey xs k).isSome=true
 . rw [if_pos q,if_pos q];exact r.repl k ry
 . rw [if_neg q,if_neg q];exact Paired.snoc r ⟨rfl,hb,ry⟩
theorem KT.keeps {H H':Hp} {kvs:List (List aF×V)} {xs:List (List aF×Addr×Value)} (r:KT H kvs xs) (ht:∀ b ys,H b=some (.tup ys)->H' b=some (.tup ys)):KT H' kvs xs:=
 Paired.mapP r λ _ _ z=>⟨z.1,ht _ _ z.2.1,z.2.2⟩
section
variable {P:Program} {w:World} {H:Hp} {h:Heap} {a:Addr}
theorem Dj {u:HO} (ok:jp P w H h) (e:Rd H a u):cR P w H h a u:=e.ok ok
theorem rc {kvs:List (aF×V)} (ok:jp P w H h) (e:Rd H a (.dK kvs)):kvs.length<=sizeLine/\(a==sysModules)=false/\∃ vs,KV kvs vs/\h.DictOf (b0 P w) a vs:=
 show cR P w H h a (.dK kvs) from Dj ok e
theorem Ij {kvs:List (aF×V)} (ok:jp P w H h) (e:H a=some (.dK kvs)):kvs.length<=sizeLine/\(a==sysModules)=false/\∃ vs,KV kvs vs/\h.DictOf (b0 P w) a vs:=rc ok (.inl e)
theorem kX {ks:List aF} (ok:jp P w H h) (e:H a=some (.tup (ks.map kV))):(tupleKind (b0 P w)).is h ks a:=by
 obtain ⟨_,its,r,o,h1,h2,n,h3⟩:=(show cR P w H h a (.tup (ks.map kV)) from ok a _ e)
 exact ⟨o,its.toArray,n,h1,h2,h3,by simpa using oE r⟩
theorem sJ {kvs:List (List aF×V)} (ok:jp P w H h) (e:Rd H a (.dT kvs)):kvs.length<=sizeLine/\(a==sysModules)=false/\
 ∃ xs,KT H kvs xs/\h.DictOfH (tupleKind (b0 P w)) a xs:=by
 obtain ⟨z,y,xs,r,o,es,ep,h1,h2,h3,h4,h5⟩:=(show cR P w H h a (.dT kvs) from Dj ok e)
 refine ⟨z,y,xs,r,o,es,ep,h1,h2,h3,h4,λ x hx=>?_,h5⟩
 have all:∀ {l:List (List aF×V)} {m:List (List aF×Addr×Value)},KT H l m->∀ x∈m,(tupleKind (b0 P w)).is h x.1 x.2.1:=by
  intro l m q
  induction q with
  | nil=>intro x hx;exact nomatch hx
  | @cons p q ps qs hq t ih=>
   intro x hx
   rcases List.mem_cons.mp hx with e | hx
   . subst e
     exact kX ok (by rw [<-hq.1];exact hq.2.1)
   . exact ih x hx
 exact all r x hx
theorem Jk {kvs:List (List aF×V)} (ok:jp P w H h) (e:H a=some (.dT kvs)):kvs.length<=sizeLine/\(a==sysModules)=false/\
 ∃ xs,KT H kvs xs/\h.DictOfH (tupleKind (b0 P w)) a xs:=sJ ok (.inl e)
end
noncomputable def jX (H:Hp) (a:Addr) (y:V) (r:Option V):Prop:=
 (∃ kvs k,Rd H a (.dK kvs)/\y=kV k/\r=eE kvs k)∨∃ kvs k b,Rd H a (.dT kvs)/\y=.ref b/\H b=some (.tup (k.map kV))/\r=eE kvs k
noncomputable def pE (H:Hp) (a:Addr) (y v:V) (H':Hp):Prop:=
 (∃ kvs k,H a=some (.dK kvs)/\y=kV k/\kvs.length<sizeLine/\H'=cp H a (.dK (fX kvs k v)))∨
 ∃ kvs k b,H a=some (.dT kvs)/\y=.ref b/\H b=some (.tup (k.map kV))/\kvs.length<sizeLine/\H'=cp H a (.dT (fX kvs k v))
theorem jX.k {H:Hp} {a:Addr} {kvs:List (aF×V)} {k:aF} (e:H a=some (.dK kvs)):jX H a (kV k) (eE kvs k):=.inl ⟨kvs,k,.inl e,rfl,rfl⟩
theorem jX.t {H:Hp} {a b:Addr} {kvs:List (List aF×V)} {k:List aF} (e:H a=some (.dT kvs)) (eb:H b=some (.tup (k.map kV))):jX H a (.ref b) (eE kvs k):=.inr ⟨kvs,k,b,.inl e,rfl,eb,rfl⟩
theorem pE.k {H:Hp} {a:Addr} {kvs:List (aF×V)} {k:aF} {v:V} (e:H a=some (.dK kvs)) (hl:kvs.length<sizeLine):pE H a (kV k) v (cp H a (.dK (fX kvs k v))):=.inl ⟨kvs,k,e,rfl,hl,rfl⟩
theorem pE.t {H:Hp} {a b:Addr} {kvs:List (List aF×V)} {k:List aF} {v:V} (e:H a=some (.dT kvs)) (eb:H b=some (.tup (k.map kV))) (hl:kvs.length<sizeLine):
 pE H a (.ref b) v (cp H a (.dT (fX kvs k v))):=.inr ⟨kvs,k,b,e,rfl,eb,hl,rfl⟩
section
variable {X:Cx} {pins:List (Addr×Obj)} {σ:St} {H:Hp} {s:Shared} {a:Addr} {y v:V} {u r:Value} {o:Option V} {A:Around} {E:Value->Shared->Prop}
theorem aL.big (I:aL X pins σ H s):sysModules<s.heap.objs.size:=by
 have h:mainGlobals<s.heap.objs.size:=(I.mod.glob.keeps I.bk).lt
 exact Nat.lt_trans (by decide) h
theorem wZ {Q:Value->Shared->Prop} (hu:A.units+1<cLine) (I:aL X pins σ H s) (g:jX H a y (some v)) (ry:bf y u) (h:∀ w' s',aL X pins σ H s'->bf v w'->Q w' s'):
 wpAny (model X.prog X.w) A (getItem (.ref a) u) Q E s:=by
 rcases g with ⟨kvs,k,e,ey,l⟩ | ⟨kvs,k,b,e,ey,eb,l⟩
 . subst ey
   obtain ⟨z,hd,vs,rel,dd⟩:=rc I.hok e
   obtain ⟨w',hw,rw'⟩:=gK.some_of (v:=v) (o:=valueAt vs k) (by rw [l];exact rel.val k)
   exact wpAny_getItem_of (sd ry) dd.mapOf hw (h w' _ (I.tok _) rw')
 . subst ey
   cases (show u=Value.ref b from ry)
   obtain ⟨z,hd,xs,rel,dd⟩:=sJ I.hok e
   obtain ⟨w',hw,rw'⟩:=gK.some_of (v:=v) (o:=(atKey xs k).map (·.2)) (by rw [l];exact rel.val k)
   obtain ⟨p,hp,hp2⟩:=oM hw
   refine wpAny_getItem_heap (tupleKind_room_in1 hu) (kX I.hok eb) dd hp ?_
   rw [hp2]
   exact h w' _ (I.tok _) rw'
theorem Kq {Q:Value->Shared->Prop} (hu:A.units+1<cLine) (I:aL X pins σ H s) (g:jX H a y o) (ry:bf y u) (h:∀ s',aL X pins σ H s'->Q (.bool o.isSome) s'):
 wpAny (model X.prog X.w) A (compareOp .In u (.ref a)) Q E s:=by
 rcases g with ⟨kvs,k,e,ey,l⟩ | ⟨kvs,k,b,e,ey,eb,l⟩
 . subst ey
   obtain ⟨z,hd,vs,rel,dd⟩:=rc I.hok e
   refine wpAny_in_of (sd ry) hd dd.mapOf ?_
   rw [<-(rel.val k).isSome_eq,<-l]
   exact h _ (I.tok _)
 . subst ey
   cases (show u=Value.ref b from ry)
   obtain ⟨z,hd,xs,rel,dd⟩:=sJ I.hok e
   refine wpAny_in_heap (tupleKind_room_in1 hu) (kX I.hok eb) hd dd ?_
   have q:=(rel.val k).isSome_eq
   rw [Option.isSome_map] at q
   rw [<-q,<-l]
   exact h _ (I.tok _)
theorem Cq {Q:Value->Shared->Prop} (hu:A.units+1<cLine) (I:aL X pins σ H s) (g:jX H a y o) (ry:bf y u) (h:∀ s',aL X pins σ H s'->Q (.bool (!o.isSome)) s'):
 wpAny (model X.prog X.w) A (compareOp .NotIn u (.ref a)) Q E s:=by
 rcases g with ⟨kvs,k,e,ey,l⟩ | ⟨kvs,k,b,e,ey,eb,l⟩
 . subst ey
   obtain ⟨z,hd,vs,rel,dd⟩:=rc I.hok e
   refine wpAny_notIn_of (sd ry) hd dd.mapOf ?_
   rw [<-(rel.val k).isSome_eq,<-l]
   exact h _ (I.tok _)
 . subst ey
   cases (show u=Value.ref b from ry)
   obtain ⟨z,hd,xs,rel,dd⟩:=sJ I.hok e
   refine wpAny_notIn_heap (tupleKind_room_in1 hu) (kX I.hok eb) hd dd ?_
   have q:=(rel.val k).isSome_eq
   rw [Option.isSome_map] at q
   rw [<-q,<-l]
   exact h _ (I.tok _)
theorem qk {h':Heap} {t':Nat} {ob:HO} (I:aL X pins σ H s) (mu:IZ (H a)) (hs:Heap.SameBut a s.heap h') (he:∃ q,h'.get? a=some q) (new:cR X.prog X.w (cp H a ob) h' a ob):
 aL X pins σ (cp H a ob) { s with heap:=h',toks:=t' }:=
 I.write (x:=a) (e:=a) mu (.inl rfl) (λ b q hb z=>(hs.2 b hb).trans z) he new
theorem E1 {P:Program} {w:World} {H':Hp} {h':Heap} {kvs:List (aF×V)} {vs:List (aF×Value)} (z:kvs.length<=sizeLine) (hd:(a==sysModules)=false) (rel:KV kvs vs) (dd:h'.DictOf (b0 P w) a vs):
 cR P w H' h' a (.dK kvs):=⟨z,hd,vs,rel,dd⟩
theorem wW {H':Hp} {Q:Unit->Shared->Prop} (hu:A.units+1<cLine) (I:aL X pins σ H s) (g:pE H a y v H') (ry:bf y u) (rv:bf v r) (h:∀ s',aL X pins σ H' s'->Q () s'):
 wpAny (model X.prog X.w) A (setItem (.ref a) u r) Q E s:=by
 rcases g with ⟨kvs,k,e,ey,l,eH⟩ | ⟨kvs,k,b,e,ey,eb,l,eH⟩
 . subst ey eH
   obtain ⟨z,hd,vs,rel,dd⟩:=Ij I.hok e
   have hz:vs.length<=sizeLine:=by rw [<-rel.length];exact z
   have hl:(fX kvs k v).length<=sizeLine:=by have:=l6 kvs k v;omega
   refine wpAny_setItem_pairs (hsz:=hz) (sd ry) dd λ h' dd' hs=>h _ ?_
   have he:∃ q,h'.get? a=some q:=let ⟨q,_,_,hq,_⟩:=dd';⟨q,hq⟩
   exact qk I (by rw [e];exact True.intro) hs he (E1 hl hd (rel.put k rv) dd')
 . subst ey eH
   cases (show u=Value.ref b from ry)
   obtain ⟨z,hd,xs,rel,dd⟩:=Jk I.hok e
   have hz:xs.length<=sizeLine:=by rw [<-Paired.length rel];exact z
   have hl:(fX kvs k v).length<=sizeLine:=by have:=l6 kvs k v;omega
   refine wpAny_setItem_heap (hsz:=hz) (tupleKind_room_in1 hu) (kX I.hok eb) dd λ h' dd' hs=>h _ ?_
   obtain ⟨q,es,ep,hq,h2,h3,h4,_,h5⟩:=dd'
   refine qk I (by rw [e];exact True.intro) hs ⟨q,hq⟩ ⟨hl,hd,_,(rel.put k eb rv).keeps λ c ys ec=>?_,q,es,ep,hq,h2,h3,h4,h5⟩
   rw [aJ (Dv ec e (λ z=>nomatch z))]
   exact ec
end
section
variable {X:Cx} {pins:List (Addr×Obj)} {σ:St} {H:Hp} {s:Shared} {a:Addr} {kvs:List (aF×V)} {k:aF} {u:Value} {A:Around} {E:Value->Shared->Prop}
end
noncomputable def Jc (i:Expr):Prop:=∀ ov iv,subscripted i false ov iv=operate [ov,iv] (getItem ov iv)
theorem Ct {prog:Program} {w:World} {A:Around} {E:Value->Shared->Prop} {s:Shared} {env:Env} {value slice:Expr} {pos:Pos} {T id:String} {Q:Value->Shared->Prop}
 (hl:typeLookup (.type T) "__getitem__" = pure (some (.builtin id))) (hs:Jc slice)
 (h:wpAny (model prog w) A (eval value env) (λ o s₁=>wpAny (model prog w) A (eval slice env) (λ i s₂=>s₂.TypeIs o T/\wpAny (model prog w) A (getItem o i) Q E s₂) E s₁) E s):
 wpAny (model prog w) A (eval (.Subscript value slice pos) env) Q E s:=by
 refine Subscript_ (wpAny_mono h (λ o s₁ h₁=>wpAny_mono h₁ (λ i s₂ h₂=>?_) λ _ _ x=>x) λ _ _ x=>x)
 obtain ⟨hT,h₂⟩:=h₂
 unfold subscriptTail
 refine wpAny_bind ?_
 rw [getitemInPython_of_ne hT.not_modules]
 refine wpAny_bind (wpAny_specialOf hT hl ?_)
 have fin:wpAny (model prog w) A (subscripted slice false o i) (λ r s₃=>wpAny (model prog w) A (letTemporaryGo value o r >>= λ _=>pure r) Q E s₃) E s₂:=by
  rw [hs o i]
  exact wpAny_operating (wpAny_mono h₂ (λ r s₃ h₃=>wpAny_bind (wpAny_letTemporaryGo (wpAny_pure h₃))) λ _ _ x=>x)
 first
  | exact wpAny_pure (wpAny_bind fin)
  | exact wpAny_bind (wpAny_pure (wpAny_bind fin))
  | exact wpAny_bind fin
theorem sD {X:Cx} {pins:List (Addr×Obj)} {σ:St} {H:Hp} {s:Shared} {a:Addr} {y:V} {o:Option V} (I:aL X pins σ H s) (g:jX H a y o):s.TypeIs (.ref a) "dict" := by
 rcases g with ⟨kvs,k,e,_,_⟩ | ⟨kvs,k,b,e,_,_,_⟩
 . obtain ⟨_,_,vs,_,dd⟩:=rc I.hok e
   exact dd.typeIs
 . obtain ⟨_,_,xs,_,dd⟩:=sJ I.hok e
   exact dd.typeIs
noncomputable def DC (td ty:TE):TE:=λ σ H Q=>td σ H λ x H1=>ty σ H1 λ y H2=>∃ a v,x=.ref a/\jX H2 a y (some v)/\Q v H2
noncomputable def Ei (ty td:TE):TE:=λ σ H Q=>ty σ H λ y H1=>td σ H1 λ x H2=>∃ a o,x=.ref a/\jX H2 a y o/\Q (.bl o.isSome) H2
noncomputable def ww (ty td:TE):TE:=λ σ H Q=>ty σ H λ y H1=>td σ H1 λ x H2=>∃ a o,x=.ref a/\jX H2 a y o/\Q (.bl (!o.isSome)) H2
noncomputable def CZ (td ty tv:TE):TS:=λ D σ H=>tv σ H λ v H1=>td σ H1 λ x H2=>ty σ H2 λ y H3=>∃ a H4,x=.ref a/\pE H3 a y v H4/\D.nx σ H4
section
variable {X:Cx} {o i e value:Expr} {pos pos' tpos:Pos} {td ty tv:TE}
theorem JF (hu:X.A.units+1<cLine) (ho:PE X o td) (hi:PE X i ty) (hs:Jc i):PE X (.Subscript o i pos) (DC td ty):=by
 intro pins s σ H Q I h
 refine Ct PySem.F.slot_dict_getitem.lookup hs (cm (ho pins s σ H _ I h) λ u s1 hy0=>?_)
 obtain ⟨x,H1,I1,rx,q1⟩:=hy0
 refine cm (hi pins s1 σ H1 _ I1 q1) λ iv s2 hq0=>?_
 obtain ⟨y,H2,I2,ry,a,v,ex,g,q2⟩:=hq0
 subst ex
 obtain rfl:u=Value.ref a:=rx
 exact ⟨sD I2 g,wZ hu I2 g ry λ w' s3 I3 rw'=>⟨v,H2,I3,rw',q2⟩⟩
theorem KW (hu:X.A.units+1<cLine) (hi:PE X i ty) (ho:PE X o td):PC X .In i o (Ei ty td):=by
 intro pins s σ H Q I h
 refine cm (hi pins s σ H _ I h) λ iv s1 hy0=>?_
 obtain ⟨y,H1,I1,ry,q1⟩:=hy0
 refine cm (ho pins s1 σ H1 _ I1 q1) λ u s2 hq0=>?_
 obtain ⟨x,H2,I2,rx,a,ov,ex,g,q2⟩:=hq0
 subst ex
 obtain rfl:u=Value.ref a:=rx
 exact Kq hu I2 g ry λ s3 I3=>⟨.bl ov.isSome,H2,I3,rfl,q2⟩
theorem GG (hu:X.A.units+1<cLine) (hi:PE X i ty) (ho:PE X o td):PC X .NotIn i o (ww ty td):=by
 intro pins s σ H Q I h
 refine cm (hi pins s σ H _ I h) λ iv s1 hy0=>?_
 obtain ⟨y,H1,I1,ry,q1⟩:=hy0
 refine cm (ho pins s1 σ H1 _ I1 q1) λ u s2 hq0=>?_
 obtain ⟨x,H2,I2,rx,a,ov,ex,g,q2⟩:=hq0
 subst ex
 obtain rfl:u=Value.ref a:=rx
 exact Cq hu I2 g ry λ s3 I3=>⟨.bl (!ov.isSome),H2,I3,rfl,q2⟩
theorem JG (hu:X.A.units+1<cLine) (ho:PE X o td) (hi:PE X i ty) (hv:PE X value tv) (hs:swapsWith value (some (.Subscript o i pos')) pos.line X.env=pure false):
 PS X (.Assign [.Subscript o i pos'] value pos) (CZ td ty tv):=by
 intro pins s σ H D I h
 refine wpAny_Assign_Subscript (cm (hv pins s σ H _ I h) λ r s1 hy0=>?_) hs
 obtain ⟨v,H1,I1,rv,q1⟩:=hy0
 refine cm (ho pins s1 σ H1 _ I1 q1) λ u s2 hy0=>?_
 obtain ⟨x,H2,I2,rx,q2⟩:=hy0
 refine cm (hi pins s2 σ H2 _ I2 q2) λ iv s3 hq0=>?_
 obtain ⟨y,H3,I3,ry,a,H4,ex,g,q3⟩:=hq0
 subst ex
 obtain rfl:u=Value.ref a:=rx
 exact wW hu I3 g ry rv λ s4 I4=>⟨σ,H4,I4,q3⟩
end
theorem zW {P:Program} {w:World} {H:Hp} (h:Heap) (hb:sysModules<h.objs.size):cR P w H (h.push { cls:=.type "dict", data:=.dict #[] }) h.objs.size (.dK []):=
 ⟨Nat.zero_le _,beq_eq_false_iff_ne.mpr (Ne.symm (Nat.ne_of_lt hb)),[],.nil,Heap.DictOf.new h⟩
theorem Ai {P:Program} {w:World} {H:Hp} (h:Heap) (hb:sysModules<h.objs.size):cR P w H (h.push { cls:=.type "dict", data:=.dict #[] }) h.objs.size (.dT []):=
 ⟨Nat.zero_le _,beq_eq_false_iff_ne.mpr (Ne.symm (Nat.ne_of_lt hb)),[],.nil,_,#[],0,Heap.get?_push_size _ rfl,⟨rfl,rfl,rfl⟩,rfl,rfl,List.nodup_nil⟩
noncomputable def zL:TE:=λ _ H Q=>∀ p,H p=none->Q (.ref p) (cp H p (.dK []))
noncomputable def zq:TE:=λ _ H Q=>∀ p,H p=none->Q (.ref p) (cp H p (.dT []))
section
variable {X:Cx} {pos:Pos}
theorem Ik:PE X (.Dict [] [] pos) zL:=λ pins s σ H Q I h=>
 wpAny_Dict_empty ⟨.ref s.heap.objs.size,_,I.laid (a:=s.heap.objs.size) (o:=.dK []) (t':=s.toks) (λ _ _ q=>Heap.get?_push_of_some _ q) (Nat.le_refl _) (zW s.heap I.big),rfl,h _ (I.hok.fresh (Nat.le_refl _))⟩
theorem Ii:PE X (.Dict [] [] pos) zq:=λ pins s σ H Q I h=>
 wpAny_Dict_empty ⟨.ref s.heap.objs.size,_,I.laid (a:=s.heap.objs.size) (o:=.dT []) (t':=s.toks) (λ _ _ q=>Heap.get?_push_of_some _ q) (Nat.le_refl _) (Ai s.heap I.big),rfl,h _ (I.hok.fresh (Nat.le_refl _))⟩
end
structure M2 (X:Cx) (o:Expr) (m:Str) (apos:Pos) (e f:Expr) (cpos:Pos):Prop where
 base:attributeBase o m X.env (eval o X.env)=eval o X.env
 few:((backTo cpos (starEach [e,f] X.env)).all (λ x=>!x.1)&&(backToKw cpos (keywordEach [] X.env)).all (λ x=>x.1.isSome)
  && decide (([e,f]:List Expr).length+([]:List Keyword).length+(if ([]:List Keyword).isEmpty then 0 else 1)<30))=true
 line:(apos.endLine==cpos.line)=true
 trees:backTo cpos (starEach [e,f] X.env)=[(false,eval e X.env),(false,eval f X.env)]
section
variable {X:Cx} {pins:List (Addr×Obj)} {σ:St} {H:Hp} {s:Shared} {a:Addr} {y d:V} {u r:Value} {o:Option V} {A:Around} {E:Value->Shared->Prop}
end
section
variable {X:Cx} {o e f:Expr} {apos cpos:Pos} {td ty tx:TE}
end
section
variable {X:Cx} {pins:List (Addr×Obj)} {σ:St} {H:Hp} {s:Shared} {a:Addr} {kvs:List (aF×V)} {A:Around} {E:Value->Shared->Prop}
end
section
variable {X:Cx} {pins:List (Addr×Obj)} {σ:St} {H:Hp} {s:Shared} {a:Addr} {y:V} {u:Value} {A:Around} {E:Value->Shared->Prop}
end
end L2
namespace L2
open PySem PySem.Spec PyProof.Rows
open PySem.W (Frag)
section
variable {X:Cx}
end
section
variable {κ:Type} [DecidableEq κ]
end
noncomputable def fm (z:Str):Prop:=z.cps.all (· < 128)=true
section
variable {z:Str} {wi:TI} {g:TG} {tb:TS} {D:iq} {σ:St} {H H1:Hp} {ix:List (Option Nat)} {tc:TT} {te:TE} {Q:VK}
end
theorem L8 {X:Cx}:BH X (λ x lo hi H Q=>∃ z,x=.str z/\z.length<=sizeLine/\Q (.str (Txt.slice z lo hi)) H):=by
 intro pins s σ H x v vl vu lo hi sl Q I rx hs pl pu h
 obtain ⟨z,rfl,hz,q⟩:=h
 obtain ⟨t,rfl⟩:=rx
 have part:∀ {v:Value} {o:Option Int},IsPart v o->∃ p:Option (Int×Tok),v=partValue p/\o=p.map (·.1):=λ {v o} p=>by
  cases p with
  | none=>exact ⟨none,rfl,rfl⟩
  | int i t=>exact ⟨some (i,t),rfl,rfl⟩
 obtain ⟨p1,rfl,rfl⟩:=part pl
 obtain ⟨p2,rfl,rfl⟩:=part pu
 refine ⟨"str", _,F.slot_str_getitem.lookup,typeIs_str _ _ _,wpAny_getItem_str_slice (l:=p1) (u:=p2) (st:=none) hs rfl ?_⟩
 refine post_val_or_str ⟨Nat.le_trans (Txt.slice_le z _ _) hz,λ t' k=>⟨.str _,H,I.tok k,⟨t',rfl⟩,q⟩⟩
section
variable {X:Cx}
theorem sE {P:Program} {w:World} {A:Around} {its:Array Value} {bs:List Bool} (r:bc (bs.map V.bl) its.toList):TruthOf P w A (λ i v=>its[i]?=some v) λ i=>bs.getD i false:=by
 intro i v s Q E hv hQ
 have hv':its.toList[i]?=some v:=by simpa using hv
 have hlen:=r.length
 have hi:i<bs.length:=by
  have:=(oG hv').1
  rw [<-hlen,List.length_map] at this
  exact this
 have hb:(bs.map V.bl)[i]?=some (V.bl bs[i]):=by rw [List.getElem?_map,List.getElem?_eq_getElem hi];rfl
 obtain ⟨u,hu,ru⟩:=r.get hb
 rw [hv'] at hu
 cases hu
 cases ru
 refine wpAny_truthy_bool ?_
 have e:bs.getD i false=bs[i]:=by simp [hi]
 have hQ':Q (bs.getD i false) s:=hQ
 rw [e] at hQ'
 exact hQ'
theorem xj (bs:List Bool):(List.range bs.length).any (λ i=>bs.getD i false)=bs.any id:=by
 rw [Bool.eq_iff_iff,List.any_eq_true,List.any_eq_true]
 constructor
 . rintro ⟨i,hi,h⟩
   have hi':=List.mem_range.mp hi
   exact ⟨bs[i],List.getElem_mem hi',by simpa [hi'] using h⟩
 . rintro ⟨b,hb,h⟩
   obtain ⟨i,hi,rfl⟩:=List.mem_iff_getElem.mp hb
   exact ⟨i,List.mem_range.mpr hi,by simpa [hi] using h⟩
theorem call_any' (hc:X.calm=true):eI X (.builtin "any") (λ xs H Q=>∃ (a:Addr) (bs:List Bool),xs=[.ref a]/\cC X.K H a (bs.map V.bl)/\Q (.bl (bs.any id)) H):=by
 intro pins s σ H xs us Q I r h
 obtain ⟨a,bs,rfl,hq,q⟩:=h
 obtain ⟨u,rfl,ru⟩:=wx r
 cases ru
 obtain ⟨its,rv,pl,_⟩:=I.list hq
 refine call_any_walk (wpAny_pyIter_list pl.isList ?_)
 have hne:a≠s.heap.objs.size:=by
  obtain ⟨o,n,e,_⟩:=pl
  exact Nat.ne_of_lt (Heap.lt_size e)
 refine ⟨s.heap.objs.size,_,_,_,_,_,_,rfl,Walks.list (A:=X.A.in1) (show X.A.in1.handled=none from I.ok.hd hc) _ a hne its.toArray,⟨⟨_,Heap.get?_push_size _ rfl,rfl,rfl⟩,pl.isList.push _⟩,sE (bs:=bs) (by simpa using rv),λ h' tk k=>?_⟩
 have hsz:its.toArray.size=bs.length:=by rw [List.size_toArray,<-rv.length,List.length_map]
 rw [hsz,xj]
 exact ⟨.bl _,H,I.kept λ b o e=>k b o (by
  simp only [List.mem_cons,List.not_mem_nil,or_false]
  exact Nat.ne_of_lt (Heap.lt_size e)) (Heap.get?_push_of_some _ e),rfl,q⟩
end
section
variable {X:Cx}
noncomputable def De (i j:Int):Prop:=i.natAbs<2^512/\j.natAbs<2^512
theorem Bc:fJ X (binaryOp .Mult) (rI De λ i j=>.int (i*j)):=Ig λ _ _ _ _ _ _ _ hc q=>mul_int q (IntMulOk.of_le (PySem.intBits_le_iff.mpr hc.1) (PySem.intBits_le_iff.mpr hc.2) (by decide))
noncomputable def CK:R2:=λ x y H Q=>∃ z n,x=.str z/\y=.int n/\0<=n/\n<=1000/\z.length<=1000/\Q (.str (Txt.mul z n)) H
theorem JQ:fJ X (binaryOp .Mult) CK:=by
 intro pins s σ H x y v u Q I rx ry h
 obtain ⟨z,n,rfl,rfl,h0,h1,hz,q⟩:=h
 obtain ⟨t,rfl⟩:=rx
 obtain ⟨t',rfl⟩:=ry
 have hm:z.length*n.toNat<=1000*1000:=Nat.mul_le_mul hz (by omega)
 refine SB.mul ⟨?_,λ a b=>?_,λ a b=>?_⟩ (λ t2 k=>⟨.str _,H,I.tok k,⟨t2,rfl⟩,q⟩)
 . have e1:decide (n < -(2^63:Int))=false:=decide_eq_false (by omega)
   have e2:decide (n ≥ 2^63)=false:=decide_eq_false (by omega)
   rw [e1,e2];rfl
 . have hn:1<=n:=by omega
   have:(1000:Int)<=(2^63-1) / n:=by
    rw [Int.le_ediv_iff_mul_le (by omega)]
    omega
   omega
 . unfold PySem.Builtin.Str.tooLong
   exact decide_eq_false (by have:sizeLine=16777216:=sizeLine_eq;omega)
end
section
variable {X:Cx} {K:Frag}
theorem JL (h:X.K=K):Ac X (JU K):=h▸EJ
theorem Ao (h:X.K=K):BH X (Ju K):=h▸Bw
theorem BY (h:X.K=K):BH X (Hh K):=h▸Fj
theorem El (h:X.K=K):fJ X (compareOp .In) (DZ K false):=h▸pw
theorem A4 (h:X.K=K):fJ X (compareOp .NotIn) (DZ K true):=h▸pR
noncomputable def IX (K:Frag):List V->Hp->VK->Prop:=λ xs H Q=>∃ p ys,xs=[.ref p]/\(cC K H p ys∨eK K H p ys)/\Q (.int ys.length) H
theorem oq (h:X.K=K):eI X (.builtin "len") (IX K):=h▸qv
noncomputable def DH:List V->Hp->VK->Prop:=λ xs H Q=>∃ z,xs=[.str z]/\z.length<=sizeLine/\Q (.int z.length) H
theorem ot:eI X (.builtin "len") DH:=qE
noncomputable def qr (K:Frag):List V->Hp->VK->Prop:=λ xs H Q=>∃ p ys,xs=[.ref p]/\(cC K H p ys∨eK K H p ys)/\∀ l,H l=none->Q (.ref l) (cp H l (.lst ys))
theorem oo (h:X.K=K):eI X (.type "list") (qr K):=h▸qH
noncomputable def Gb (K:Frag):List V->Hp->VK->Prop:=λ xs H Q=>∃ (a:Addr) (bs:List Bool),xs=[.ref a]/\cC K H a (bs.map V.bl)/\Q (.bl (bs.any id)) H
theorem xa (h:X.K=K) (hc:X.calm=true):eI X (.builtin "any") (Gb K):=h▸call_any' hc
theorem JS {pos:Pos} {es:List Expr} {k:Nat} {t:zf} {n:Nat} (h:X.K=K) (hc:X.calm=true) (hh:GJ X es t)
 (hn:(assignEach es X.env).length=n) (hst:(assignEach es X.env).findIdx? (·.1)=none):PG X (.Tuple es k pos) (E7 K n t):=h▸EF hc hh hn hst
theorem He {elts:List Expr} {x1} {tpos:Pos} {a:Expr} {ta:TA} {p pos:Pos} (h:X.K=K) (hg:Gl X "enumerate") (hm:X.mg "enumerate" = none) (ha:PA X [a] ta) (hs:starEach [a] X.env=[(false,eval a X.env)]):
 PI X (.Tuple elts x1 tpos) (.Call (.Name "enumerate" p) [a] [] pos) (yb K ta):=h▸Cf hg hm ha hs
theorem JM {elts:List Expr} {x1} {tpos:Pos} {a b:Expr} {ta:TA} {p pos:Pos} (h:X.K=K) (hg:Gl X "zip") (hm:X.mg "zip" = none) (ha:PA X [a,b] ta) (hs:starEach [a,b] X.env=[(false,eval a X.env),(false,eval b X.env)]) (hs2:starEach [b] X.env=[(false,eval b X.env)]):
 PI X (.Tuple elts x1 tpos) (.Call (.Name "zip" p) [a,b] [] pos) (Ca K ta):=h▸Fm hg hm ha hs hs2
variable {o e:Expr} {es:List Expr} {to:TE} {t:TA} {name:Str} {apos cpos:Pos} {T id:String} {r:V->List V->Hp->VK->Prop}
theorem Ch (h:X.K=K) (pa:PlainAttrs T) (slot:Slot T name id) (hty:typeOf (.builtin id)=pure (.type "method_descriptor")) (hm:Iw X id r) (ho:PE X o to)
 (hbase:attributeBase o name X.env (eval o X.env)=eval o X.env:=by rfl) (hline:(apos.endLine==cpos.line)=true:=by rfl):PE X (.Call (.Attribute o name apos) [] [] cpos) (AR K T r to):=h▸Gp pa slot hty hm ho hbase hline
theorem FT (h:X.K=K) (pa:PlainAttrs T) (slot:Slot T name id) (hty:typeOf (.builtin id)=pure (.type "method_descriptor")) (hm:Iw X id r) (ho:PE X o to) (ha:PA X (e::es) t)
 (hbase:attributeBase o name X.env (eval o X.env)=eval o X.env:=by rfl)
 (hfew:((backTo cpos (starEach (e::es) X.env)).all (λ x=>!x.1)&&(backToKw cpos (keywordEach [] X.env)).all (λ x=>x.1.isSome)
  && decide ((e::es).length+([]:List Keyword).length+(if ([]:List Keyword).isEmpty then 0 else 1)<30))=true:=by rfl)
 (hline:(apos.endLine==cpos.line)=true:=by rfl) (hs:starEach (e::es) X.env=(false,eval e X.env)::starEach es X.env:=by rfl) (hplain:(backTo cpos (starEach es X.env)).any (·.1)=false:=by rfl):
 PE X (.Call (.Attribute o name apos) (e::es) [] cpos) (GP K T r to t):=h▸Ib pa slot hty hm ho ha hbase hfew hline hs hplain
end
theorem jJ {H:Hp} {p:Addr} (h:H p=none) (o:HO):bo H (cp H p o):=λ b u q=>by rw [aJ (be q h)];exact q
theorem bo.tup {K:Frag} {H H':Hp} {a:Addr} {xs:List V} (g:bo H H') (q:eK K H a xs):eK K H' a xs:=by
 rcases q with (h | ⟨o,h⟩) | h
 . exact .inl (.inl (g _ _ h))
 . exact .inl (.inr ⟨o,g _ _ h⟩)
 . exact .inr h
theorem jO {z:Str}:fm z↔∀ c∈z.cps.toList,c<128:=by
 unfold fm
 rw [Array.all_eq_true']
 constructor
 . intro h c hc;simpa using h c (by simpa using hc)
 . intro h c hc;simpa using h c (by simpa using hc)
theorem fm.app {a b:Str} (h:fm a) (h':fm b):fm (a++b):=by
 rw [jO] at *
 intro c hc
 have e:(a++b).cps=a.cps++b.cps:=rfl
 rw [e,Array.toList_append,List.mem_append] at hc
 exact hc.elim (h c) (h' c)
theorem qc (a b:Str):(a++b).length=a.length+b.length:=by
 show (a.cps++b.cps).size=_
 rw [Array.size_append];rfl
theorem fm.one {z:Str} (h:fm z) {i:Int} {c:Nat} (e:fK z.cps.toList i=some c):fm ⟨#[c]⟩:=by
 rw [jO] at *
 obtain ⟨j,_,hj,_⟩:=mz e
 have:=h c (List.mem_of_getElem? hj)
 intro d hd
 have:d=c:=by simpa using hd
 omega
theorem fm.slice {z:Str} (h:fm z) (lo hi:Option Int):fm (Txt.slice z lo hi):=by
 rw [jO] at *
 intro c hc
 unfold Txt.slice at hc
 split at hc
 . exact h c hc
 refine h c ?_
 simp only [List.mem_filterMap] at hc
 obtain ⟨k,_,e⟩:=hc
 exact List.mem_of_getElem? (by simpa using e)
theorem fm.ok {z:Str} (h:fm z):PyData.strOk z=true:=by
 rw [jO] at h
 unfold PyData.strOk
 rw [Array.all_eq_true']
 intro c hc
 have:=h c (by simpa using hc)
 simp only [decide_eq_true_eq]
 omega
noncomputable def Nw (H H':Hp) (p:Addr) (o:HO):Prop:=bo H H'/\H p=none/\H' p=some o
theorem Nw.of {H:Hp} {p:Addr} {o:HO} (h:H p=none):Nw H (cp H p o) p o:=⟨jJ h o,h,aK⟩
noncomputable def yg (t:TA):TE:=λ σ H Q=>t σ H λ xs H1=>xs.length<=sizeLine/\∀ p H',Nw H1 H' p (.tup xs)->Q (.ref p) H'
noncomputable def Aq (t:TA):TE:=λ σ H Q=>t σ H λ xs H1=>xs.length<=sizeLine/\∀ p H',Nw H1 H' p (.lst xs)->Q (.ref p) H'
section
variable {X:Cx} {K:Frag} {es:List Expr} {t:TA} {pos:Pos}
theorem JE {x1} (h:PA X es t):PE X (.Tuple es x1 pos) (yg t):=λ pins s σ H Q I hq=>wpAny_Tuple_spliced (cm (h pos pins s σ H _ I hq) λ us s1 ⟨xs,H1,I1,r,z,q⟩=>⟨by rw [<-r.length];exact z,
 .ref s1.heap.objs.size,_,I1.laid (t':=s1.toks) (o:=.tup xs) (λ b u e=>Heap.get?_push_of_some _ e) (Nat.le_refl _) ⟨z,us,r,⟨_,Heap.get?_push_size _ rfl,rfl,_,rfl⟩⟩,rfl,q _ _ (.of (I1.hok.fresh (Nat.le_refl _)))⟩)
theorem JN (h:PA X es t):PE X (.List es pos) (Aq t):=λ pins s σ H Q I hq=>wpAny_List_spliced (cm (h pos pins s σ H _ I hq) λ us s1 ⟨xs,H1,I1,r,z,q⟩=>⟨by rw [<-r.length];exact z,
 .ref s1.heap.objs.size,_,I1.laid (t':=s1.toks) (o:=.lst xs) (λ b u e=>Heap.get?_push_of_some _ e) (Nat.le_refl _) ⟨z,us,0,r,Heap.get?_push_size _ rfl⟩,rfl,q _ _ (.of (I1.hok.fresh (Nat.le_refl _)))⟩)
noncomputable def D4 (K:Frag):V->Option Int->Option Int->Hp->VK->Prop:=λ x lo hi H Q=>∃ a xs,x=.ref a/\cC K H a xs/\∀ p H',Nw H H' p (.lst (oh xs lo hi))->Q (.ref p) H'
theorem HD (h:X.K=K):BH X (D4 K):=λ pins s σ H x v vl vu lo hi sl Q I rx hs pl pu hy0=>by obtain ⟨a,xs,e,q,r⟩:=hy0;exact Ao h pins s σ H x v vl vu lo hi sl Q I rx hs pl pu ⟨a,xs,e,q,λ p hp=>r p _ (.of hp)⟩
noncomputable def Dz (K:Frag):V->Option Int->Option Int->Hp->VK->Prop:=λ x lo hi H Q=>∃ a xs,x=.ref a/\eK K H a xs/\
 ((HT.sIx xs.length 0 lo=0/\HT.sIx xs.length xs.length hi=xs.length/\Q (.ref a) H)∨(¬ (HT.sIx xs.length 0 lo=0/\HT.sIx xs.length xs.length hi=xs.length)/\∀ p H',Nw H H' p (.tup (oh xs lo hi))->Q (.ref p) H'))
theorem xB {prog:Program} {w:World} {A:Around} {E:Value->Shared->Prop} {s:Shared} {a sl:Addr} {its:Array Value} {vl vu:Value} {lo hi:Option Int} {Q:Value->Shared->Prop} (ht:IsTup s.heap a its) (hs:s.heap.IsSliceOf sl vl vu .none) (pl:IsPart vl lo) (pu:IsPart vu hi)
 (h1:HT.sIx its.size 0 lo=0) (h2:HT.sIx its.size its.size hi=its.size) (h:Q (.ref a) s):wpAny (model prog w) A (getItem (.ref a) (.ref sl)) Q E s:=by
 obtain ⟨os,hos,hcs,hds⟩:=id hs
 unfold getItem
 try with_reducible refine wpAny_holding ?_
 first | refine wpAny_bind (wpAny_pure ?_) | skip
 refine wpAny_bind (wpAny_sequenceKey ht.typeIs (by decide) (wpAny_bind (wpAny_callSpecial?_slot (name:=Str.ofString "__getitem__") ht.typeIs PyProof.Rows.slot_tuple_getitem (wpAny_call_entry PyProof.Rows.slot_tuple_getitem ht.typeIs entry_tuple_getitem ?_ (args_tuple_getitem _ _)))))
 show wpAny _ _ (Builtin.Tuple.tupleItemsOf (.ref a) >>= _) _ _ s
 refine wpAny_bind (PyProof.Rows.tupleItemsOf_ ht (wpAny_bind (wpAny_typeOf (show s.TypeIs (.ref sl) "slice" from ⟨os,hos,hcs⟩) ?_)))
 rw [if_pos (by decide)]
 refine wpAny_bind (HT.sliceApplied_gen hs pl pu ?_)
 have yes:(((HT.sIx its.size 0 lo:Nat):Int)==0&&(1:Int)==1&&(HT.sIx its.size its.size hi-HT.sIx its.size 0 lo)==its.size)=true:=by
  rw [h1,h2];simp
 show wpAny _ _ (if (((HT.sIx its.size 0 lo:Nat):Int)==0&&(1:Int)==1&&(HT.sIx its.size its.size hi-HT.sIx its.size 0 lo)==its.size)=true then _ else _) _ _ s
 rw [if_pos yes]
 refine wpAny_bind ?_
 unfold Builtin.Tuple.tupleIsExact
 refine wpAny_bind (wpAny_typeOf ht.typeIs (wpAny_pure ?_))
 rw [if_pos (by decide)]
 exact wpAny_bind (wpAny_rule (wpAny_pure ⟨_,rfl,wpAny_pure h⟩))
theorem JO (h:X.K=K):BH X (Dz K):=by
 intro pins s σ H x v vl vu lo hi sl Q I rx hs pl pu q
 obtain ⟨a,xs,e,hx,q | q⟩:=q
 . subst h e
   cases rx
   obtain ⟨its,r,ht,hz⟩:=I.tuple hx
   have hlen:its.toArray.size=xs.length:=by rw [List.size_toArray];exact r.length.symm
   exact ⟨"tuple", _,PyProof.Rows.slot_tuple_getitem.lookup,ht.typeIs,xB ht hs pl pu (by rw [hlen];exact q.1) (by rw [hlen];exact q.2.1) ⟨.ref a,H,I,rfl,q.2.2⟩⟩
 . exact BY h pins s σ H x v vl vu lo hi sl Q I rx hs pl pu ⟨a,xs,e,hx,q.1,λ p hp=>q.2 p _ (.of hp)⟩
end
section
variable {X:Cx} {K:Frag}
theorem J5 {o i e:Expr} {to ti te:TE} {pos tpos:Pos} (he:PE X e te) (ho:PE X o to) (hi:PE X i ti)
 (ha:∀ v,assign (.Subscript o i tpos) X.env v=(do
  let ov <-holding [v] (eval o X.env)
  let iv <-holding [v,ov] (eval i X.env)
  standAt tpos
  holding [v,ov,iv] (setItem ov iv v)
  release [v,ov,iv] [])) (hs:swapsWithSole [.Subscript o i tpos] e pos.line X.env=pure false) (hw:swappedStores [.Subscript o i tpos] e X.env=pure none):PS X (.Assign [.Subscript o i tpos] e pos) (o0 te (AT to ti vi)):=Fw he (Fb ho hi yF ha) hs hw
end
noncomputable def AC (c:Nat):Bool:=decide (97<=c)&&decide (c<=122)
noncomputable def vW:Value->Option Str
 | .str x _=>some x
 | _=>none
noncomputable def Bo (us:List Value) (ws:List Str):Bool:=decide (us.map vW=ws.map some)
theorem wH {u:Value} {y:Str} (h:vW u=some y):bf (.str y) u:=by
 unfold vW at h
 split at h
 . cases h;exact ⟨_,rfl⟩
 . cases h
theorem kj:∀ {us:List Value} {ws:List Str},us.map vW=ws.map some->bc (ws.map V.str) us
 | [],[],_=>.nil
 | u::r,y::s,h=>by
  simp only [List.map_cons,List.cons.injEq] at h
  exact .cons (wH h.1) (kj h.2)
 | [],_::_,h=>by simp at h
 | _::_,[],h=>by simp at h
noncomputable def ur (o:Obj) (ws:List Str):Bool:=match o.data with
 | .seq its _=>Bo its.toList ws&&decide (its.size<=1000)
 | _=>false
theorem xg {K:Frag} {H:Hp} {a:Addr} {o:Obj} {ws:List Str} (h:K.lookup a=some o) (hc:o.cls=.type "tuple") (ht:ur o ws=true):eK K H a (ws.map V.str):=by
 unfold ur at ht
 split at ht
 . rename_i its n e
   rw [Bool.and_eq_true] at ht
   exact .inr ⟨o,its,n,h,hc,e,Nat.le_of_lt (xi (by simpa using ht.2)),kj (of_decide_eq_true ht.1)⟩
 . cases ht
section
variable {K:Frag} {x D:Addr} {prog:Program} {w:World} {A:Around} {E:Value->Shared->Prop} {s:Shared}
end
section
variable {X:Cx} {K:Frag}
end
section
variable {P:Program} {w:World} {A:Around} {E:Value->Shared->Prop} {s:Shared}
end
section
variable {X:Cx} {K:Frag}
end
section
variable {K:Frag} {a b:Addr} {xs ys:List V} {wi:TI} {g:TG} {σ:St} {H H1:Hp} {ix:List (Option Nat)} {tc:TT} {te:TE} {Q:VK}
end
section
variable {K:Frag} {a:Addr} {xs:List V} {wi:TI} {g:TG} {σ:St} {H H1:Hp} {ix:List (Option Nat)} {tc:TT} {te:TE} {Q:VK}
end
inductive W where
 | none | bool (b:Bool) | int (i:Int) | str (x:Str) | list (ds:List W) | tuple (ds:List W) | ref (n:Nat)
mutual
inductive Dw (K:Frag) (ρ:List Addr) (H:Hp):V->W->Prop
 | non:Dw K ρ H .non .none
 | bl (b:Bool):Dw K ρ H (.bl b) (.bool b)
 | int (i:Int):Dw K ρ H (.int i) (.int i)
 | str (x:Str):Dw K ρ H (.str x) (.str x)
 | lst {a:Addr} {xs:List V} {ds:List W}:cC K H a xs->aB K ρ H xs ds->Dw K ρ H (.ref a) (.list ds)
 | tup {a:Addr} {xs:List V} {ds:List W}:H a=some (.tup xs)->aB K ρ H xs ds->Dw K ρ H (.ref a) (.tuple ds)
 | ref {a:Addr} {n:Nat}:ρ[n]?=some a->Dw K ρ H (.ref a) (.ref n)
inductive aB (K:Frag) (ρ:List Addr) (H:Hp):List V->List W->Prop
 | nil:aB K ρ H [] []
 | cons {v:V} {vs:List V} {d:W} {ds:List W}:Dw K ρ H v d->aB K ρ H vs ds->aB K ρ H (v::vs) (d::ds)
end
theorem Dw.mapG {K:Frag} {ρ ρ':List Addr} {H H':Hp} (hs:∀ a xs,cC K H a xs->cC K H' a xs) (ht:∀ a xs,H a=some (.tup xs)->H' a=some (.tup xs)) (hr:∀ (n:Nat) (a:Addr),ρ[n]?=some a->ρ'[n]?=some a) {v:V} {d:W} (h:Dw K ρ H v d):Dw K ρ' H' v d:=
 Dw.rec (motive_1:=λ v d _=>Dw K ρ' H' v d) (motive_2:=λ vs ds _=>aB K ρ' H' vs ds) .non .bl .int .str (λ q _ ih=>.lst (hs _ _ q) ih) (λ q _ ih=>.tup (ht _ _ q) ih) (λ e=>.ref (hr _ _ e)) .nil (λ _ _ a b=>.cons a b) h
theorem aB.ind {K:Frag} {ρ:List Addr} {H:Hp} {M:List V->List W->Prop} (h0:M [] []) (h1:∀ v vs d ds,Dw K ρ H v d->M vs ds->M (v::vs) (d::ds)) {vs:List V} {ds:List W} (h:aB K ρ H vs ds):M vs ds:=
 aB.rec (motive_1:=λ _ _ _=>True) (motive_2:=λ vs ds _=>M vs ds) trivial (λ _=>trivial) (λ _=>trivial) (λ _=>trivial) (λ _ _ _=>trivial) (λ _ _ _=>trivial) (λ _=>trivial) h0 (λ a _ _ ih=>h1 _ _ _ _ a ih) h
theorem Dw.same {K:Frag} {ρ:List Addr} {H H':Hp} (g:bo H H') {v:V} {d:W} (h:Dw K ρ H v d):Dw K ρ H' v d:=h.mapG (λ _ _ q=>g.seq q) (λ _ _ q=>g _ _ q) λ _ _ e=>e
theorem aB.mapA {K:Frag} {ρ ρ':List Addr} {H H':Hp} (f:∀ v d,Dw K ρ H v d->Dw K ρ' H' v d) {vs:List V} {ds:List W} (h:aB K ρ H vs ds):aB K ρ' H' vs ds:=h.ind (M:=λ vs ds=>aB K ρ' H' vs ds) .nil λ _ _ _ _ a b=>.cons (f _ _ a) b
theorem aB.same {K:Frag} {ρ:List Addr} {H H':Hp} (g:bo H H') {vs:List V} {ds:List W} (h:aB K ρ H vs ds):aB K ρ H' vs ds:=h.mapA λ _ _ a=>a.same g
mutual
noncomputable def W.py:W->Option PyData
 | .none=>some .none
 | .bool b=>some (.bool b)
 | .int i=>some (.int i)
 | .str x=>some (.str x)
 | .list ds=>(W.pys ds).map .list
 | .tuple ds=>(W.pys ds).map .tuple
 | .ref _=>Option.none
noncomputable def W.pys:List W->Option (List PyData)
 | []=>some []
 | d::ds=>(W.py d).bind λ x=>(W.pys ds).map (x::·)
end
theorem Dw.dp {K:Frag} {ρ:List Addr} {H:Hp} {v:V} {d:W} {x:PyData} (h:Dw K ρ H v d):d.py=some x->Dp K H v x:=
 Dw.rec (motive_1:=λ v d _=>∀ x,d.py=some x->Dp K H v x) (motive_2:=λ vs ds _=>∀ xs,W.pys ds=some xs->gW K H vs xs)
  (λ x e=>by cases e;exact .non) (λ b x e=>by cases e;exact .bl b) (λ i x e=>by cases e;exact .int i) (λ y x e=>by cases e;exact .str y)
  (λ q _ ih x e=>by
   obtain ⟨xs,e1,rfl⟩:=oM e
   exact .lst q (ih _ e1))
  (λ q _ ih x e=>by
   obtain ⟨xs,e1,rfl⟩:=oM e
   exact .tup (eK.of q) (ih _ e1))
  (λ _ x e=>by cases e) (λ xs e=>by cases e;exact .nil)
  (λ _ _ ih1 ih2 xs e=>by
   obtain ⟨x,e1,e⟩:=oB e
   obtain ⟨ys,e2,rfl⟩:=oM e
   exact .cons (ih1 _ e1) (ih2 _ e2)) h x
theorem aB.dp {K:Frag} {ρ:List Addr} {H:Hp} {vs:List V} {ds:List W} {xs:List PyData} (h:aB K ρ H vs ds):W.pys ds=some xs->gW K H vs xs:=
 h.ind (M:=λ vs ds=>∀ xs,W.pys ds=some xs->gW K H vs xs) (λ xs e=>by cases e;exact .nil) (λ _ _ _ _ a ih xs e=>by
  obtain ⟨x,e1,e⟩:=oB e
  obtain ⟨ys,e2,rfl⟩:=oM e
  exact .cons (a.dp e1) (ih _ e2)) xs
inductive Sl where
 | no
 | val (d:W)
 | own (ds:List W)
noncomputable abbrev DS:=List Sl
noncomputable def tU (K:Frag) (ρ:List Addr) (G H:Hp):Sl->Option V->Prop
 | .no,_=>True
 | .val d,o=>∃ v,o=some v/\Dw K ρ G v d
 | .own ds,o=>∃ p vs,o=some (.ref p)/\G p=none/\H p=some (.lst vs)/\aB K ρ G vs ds
structure Gr (G H G' H':Hp):Prop where
 g:bo G G'
 h:bo H H'
 s:bo G' H'
 n:∀ b,H b≠none->G b=none->G' b=none
theorem mq {H H':Hp} (s:bo H H') {b:Addr} (h:H b≠none):H' b≠none:=λ e=>by
 cases q:H b with
 | none=>exact h q
 | some o=>
  have:=s b o q
  rw [e] at this
  cases this
theorem cD {G H:Hp} (s:bo G H) {b:Addr} (h:H b=none):G b=none:=by
 cases q:G b with
 | none=>rfl
 | some o=>
  have:=s b o q
  rw [h] at this
  cases this
theorem Gr.refl {G H:Hp} (s:bo G H):Gr G H G H:=⟨.refl _,.refl _,s,λ _ _ h=>h⟩
theorem Gr.trans {G H G1 H1 G2 H2:Hp} (a:Gr G H G1 H1) (b:Gr G1 H1 G2 H2):Gr G H G2 H2:=
 ⟨a.g.trans b.g,a.h.trans b.h,b.s,λ c h1 h2=>b.n c (mq a.h h1) (a.n c h1 h2)⟩
theorem p5 {G H':Hp} {p:Addr} {o:HO} (s:bo G H') (h:H' p=some o):bo (cp G p o) H':=λ b u e=>by
 by_cases hb:b=p
 . subst hb
   rw [aK] at e
   cases e
   exact h
 . rw [aJ hb] at e
   exact s _ _ e
theorem Gr.new {G H G' H':Hp} {p:Addr} {o:HO} (a:Gr G H G' H') (h0:H p=none) (g0:G' p=none) (h:H' p=some o):Gr G H (cp G' p o) H':=
 ⟨a.g.trans (jJ g0 o),a.h,p5 a.s h,λ b h1 h2=>by
  rw [aJ (λ e=>h1 (by rw [e];exact h0))]
  exact a.n b h1 h2⟩
theorem Gr.nw {G H H':Hp} {p:Addr} {o:HO} (s:bo G H) (n:Nw H H' p o):Gr G H (cp G p o) H':=
 Gr.new ⟨.refl _,n.1,s.trans n.1,λ _ _ h=>h⟩ n.2.1 (cD s n.2.1) n.2.2
theorem Gr.nwO {G H H':Hp} {p:Addr} {o:HO} (s:bo G H) (n:Nw H H' p o):Gr G H G H':=⟨.refl _,n.1,s.trans n.1,λ _ _ h=>h⟩
structure Rl (K:Frag) (ρ:List Addr) (G H:Hp) (δ:DS) (σ:St):Prop where
 sub:bo G H
 len:δ.length=σ.length
 sl:∀ (i:Nat) s,δ[i]?=some s->∃ o,σ[i]?=some o/\tU K ρ G H s o
 apart:∀ (i j:Nat) p ds es,δ[i]?=some (.own ds)->δ[j]?=some (.own es)->σ[i]?=some (some (.ref p))->σ[j]?=some (some (.ref p))->i=j
theorem tU.grow {K:Frag} {ρ:List Addr} {G H G' H':Hp} (g:Gr G H G' H') {s:Sl} {o:Option V} (h:tU K ρ G H s o):tU K ρ G' H' s o:=by
 cases s with
 | no=>exact trivial
 | val d=>
  obtain ⟨v,e,h⟩:=h
  exact ⟨v,e,h.same g.g⟩
 | own ds=>
  obtain ⟨p,vs,e,h1,h2,h3⟩:=h
  exact ⟨p,vs,e,g.n p (by rw [h2];simp) h1,g.h _ _ h2,h3.same g.g⟩
theorem Rl.grow {K:Frag} {ρ:List Addr} {G H G' H':Hp} {δ:DS} {σ:St} (R:Rl K ρ G H δ σ) (g:Gr G H G' H'):Rl K ρ G' H' δ σ:=
 ⟨g.s,R.len,λ i s e=>by
  obtain ⟨o,h1,h2⟩:=R.sl i s e
  exact ⟨o,h1,h2.grow g⟩,R.apart⟩
theorem dM {α:Type} {xs:List α} {i j:Nat} {a b:α} (h:(xs.set i a)[j]?=some b):(i=j/\a=b/\j<xs.length)∨(i≠j/\xs[j]?=some b):=by
 by_cases e:i=j
 . subst e
   rw [List.getElem?_set] at h
   simp only [if_true] at h
   split at h
   . rename_i hl
     cases h
     exact .inl ⟨rfl,rfl,hl⟩
   . cases h
 . rw [List.getElem?_set_ne e] at h
   exact .inr ⟨e,h⟩
theorem jC {α:Type} {xs:List α} {i:Nat} {a:α} (h:i<xs.length):(xs.set i a)[i]?=some a:=by
 rw [List.getElem?_set]
 simp [h]
noncomputable def ft (δ':DS) (σ':St) (δ:DS) (σ:St):Prop:=∀ (i:Nat) ds p,δ'[i]?=some (.own ds)->σ'[i]?=some (some (.ref p))->∃ es,δ[i]?=some (.own es)/\σ[i]?=some (some (.ref p))
theorem ft.refl (δ:DS) (σ:St):ft δ σ δ σ:=λ i ds p h1 h2=>⟨ds,h1,h2⟩
theorem ft.trans {δ δ1 δ2:DS} {σ σ1 σ2:St} (a:ft δ2 σ2 δ1 σ1) (b:ft δ1 σ1 δ σ):ft δ2 σ2 δ σ:=λ i ds p h1 h2=>by
 obtain ⟨es,h3,h4⟩:=a i ds p h1 h2
 exact b i es p h3 h4
theorem j7 {δ:DS} {σ:St} {i:Nat} {d:W} {v:V} (h:δ.length=σ.length):ft (δ.set i (.val d)) (σ.set i (some v)) δ σ:=λ j ds p h1 h2=>by
 rcases dM h1 with ⟨_,e,_⟩ | ⟨ne,h1⟩
 . cases e
 . rw [List.getElem?_set_ne ne] at h2
   exact ⟨ds,h1,h2⟩
theorem Rl.set {K:Frag} {ρ:List Addr} {G H:Hp} {δ:DS} {σ:St} {i:Nat} {d:W} {v:V} (R:Rl K ρ G H δ σ) (h:Dw K ρ G v d):Rl K ρ G H (δ.set i (.val d)) (σ.set i (some v)):=
 ⟨R.sub,by rw [List.length_set,List.length_set];exact R.len,λ j s e=>by
  rcases dM e with ⟨rfl,rfl,hl⟩ | ⟨ne,e⟩
  . exact ⟨_,jC (by rw [<-R.len];exact hl),v,rfl,h⟩
  . rw [List.getElem?_set_ne ne]
    exact R.sl j s e,λ j k p ds es h1 h2 h3 h4=>by
  obtain ⟨ds',a1,a2⟩:=j7 (v:=v) R.len j ds p h1 h3
  obtain ⟨es',b1,b2⟩:=j7 (v:=v) R.len k es p h2 h4
  exact R.apart j k p _ _ a1 b1 a2 b2⟩
theorem Rl.setO {K:Frag} {ρ:List Addr} {G H:Hp} {δ:DS} {σ:St} {i:Nat} {ds:List W} {p:Addr} {vs:List V} (R:Rl K ρ G H δ σ) (g0:G p=none) (h:H p=some (.lst vs)) (hd:aB K ρ G vs ds)
 (hn:∀ (j:Nat) es,j≠i->δ[j]?=some (.own es)->σ[j]?≠some (some (.ref p))):Rl K ρ G H (δ.set i (.own ds)) (σ.set i (some (.ref p))):=
 ⟨R.sub,by rw [List.length_set,List.length_set];exact R.len,λ j s e=>by
  rcases dM e with ⟨rfl,rfl,hl⟩ | ⟨ne,e⟩
  . exact ⟨_,jC (by rw [<-R.len];exact hl),p,vs,rfl,g0,h,hd⟩
  . rw [List.getElem?_set_ne ne]
    exact R.sl j s e,λ j k q ds' es' h1 h2 h3 h4=>by
  rcases dM h1 with ⟨rfl,_,hl⟩ | ⟨ne,h1⟩ <;> rcases dM h2 with ⟨rfl,_,hl2⟩ | ⟨ne2,h2⟩
  . rfl
  . rw [jC (by rw [<-R.len];exact hl)] at h3
    rw [List.getElem?_set_ne ne2] at h4
    cases h3
    exact absurd h4 (hn k es' (Ne.symm ne2) h2)
  . rw [jC (by rw [<-R.len];exact hl2)] at h4
    rw [List.getElem?_set_ne ne] at h3
    cases h4
    exact absurd h3 (hn j ds' (Ne.symm ne) h1)
  . rw [List.getElem?_set_ne ne] at h3
    rw [List.getElem?_set_ne ne2] at h4
    exact R.apart j k q _ _ h1 h2 h3 h4⟩
noncomputable def DE (K:Frag) (ρ:List Addr) (t:TE) (f:DS->Option W):Prop:=
 ∀ (G:Hp) (σ:St) (H:Hp) (δ:DS) (d:W) (Q:VK),Rl K ρ G H δ σ->f δ=some d->(∀ v G' H',Gr G H G' H'->Dw K ρ G' v d->Q v H')->t σ H Q
noncomputable def DA (K:Frag) (ρ:List Addr) (t:TA) (f:DS->Option (List W)):Prop:=
 ∀ (G:Hp) (σ:St) (H:Hp) (δ:DS) (ds:List W) (Q:List V->Hp->Prop),Rl K ρ G H δ σ->f δ=some ds->(∀ vs G' H',Gr G H G' H'->aB K ρ G' vs ds->Q vs H')->t σ H Q
noncomputable def DT (K:Frag) (ρ:List Addr) (t:TT) (f:DS->Option Bool):Prop:=
 ∀ (G:Hp) (σ:St) (H:Hp) (δ:DS) (b:Bool) (Q:Bool->Hp->Prop),Rl K ρ G H δ σ->f δ=some b->(∀ G' H',Gr G H G' H'->Q b H')->t σ H Q
noncomputable def DO (K:Frag) (ρ:List Addr) (t:TE) (f:DS->Option (List W)):Prop:=
 ∀ (G:Hp) (σ:St) (H:Hp) (δ:DS) (ds:List W) (Q:VK),Rl K ρ G H δ σ->f δ=some ds->(∀ p vs G' H',Gr G H G' H'->H p=none->G' p=none->H' p=some (.lst vs)->aB K ρ G' vs ds->Q (.ref p) H')->t σ H Q
noncomputable def Pk (K:Frag) (ρ:List Addr) (G H:Hp) (v:V) (d:W):Prop:=Dw K ρ G v d∨∃ p vs ds,v=.ref p/\d=.list ds/\H p=some (.lst vs)/\aB K ρ G vs ds
noncomputable def DK (K:Frag) (ρ:List Addr) (t:TE) (f:DS->Option W):Prop:=
 ∀ (G:Hp) (σ:St) (H:Hp) (δ:DS) (d:W) (Q:VK),Rl K ρ G H δ σ->f δ=some d->(∀ v G' H',Gr G H G' H'->Pk K ρ G' H' v d->Q v H')->t σ H Q
section
variable {K:Frag} {ρ:List Addr}
theorem Pk.dp {G H:Hp} {v:V} {d:W} (s:bo G H) (h:Pk K ρ G H v d):Dw K ρ H v d:=by
 rcases h with h | ⟨p,vs,ds,rfl,rfl,h1,h2⟩
 . exact h.same s
 . exact .lst (cC.of h1) (h2.same s)
theorem Pk.grow {G H G' H':Hp} {v:V} {d:W} (g:Gr G H G' H') (h:Pk K ρ G H v d):Pk K ρ G' H' v d:=by
 rcases h with h | ⟨p,vs,ds,rfl,rfl,h1,h2⟩
 . exact .inl (h.same g.g)
 . exact .inr ⟨p,vs,ds,rfl,rfl,g.h _ _ h1,h2.same g.g⟩
theorem DE.dk {t:TE} {f:DS->Option W} (h:DE K ρ t f):DK K ρ t f:=λ G σ H δ d Q R e q=>h G σ H δ d Q R e λ v G' H' g dv=>q v G' H' g (.inl dv)
noncomputable def ba (f:DS->Option (List W)):DS->Option W:=λ δ=>(f δ).map .list
theorem DO.de {t:TE} {f:DS->Option (List W)} (h:DO K ρ t f):DE K ρ t (ba f):=λ G σ H δ d Q R e q=>by
 obtain ⟨ds,e1,rfl⟩:=oM e
 exact h G σ H δ ds Q R e1 λ p vs G' H' g h0 g0 hh da=>q _ _ H' (g.new h0 g0 hh) (.lst (cC.of aK) (da.same (jJ g0 _)))
noncomputable def ac (i:Nat):DS->Option W:=λ δ=>match δ[i]? with
 | some (.val d)=>some d
 | _=>none
theorem nt {i:Nat}:DE K ρ (xh i) (ac i):=λ G σ H δ d Q R e q=>by
 unfold ac at e
 split at e
 . rename_i d' h
   cases e
   obtain ⟨o,h1,v,h2,h3⟩:=R.sl i _ h
   exact ⟨v,by rw [h1,h2],q v G H (.refl R.sub) h3⟩
 . cases e
noncomputable def au (i:Nat):DS->Option W:=λ δ=>match δ[i]? with
 | some (.val d)=>some d
 | some (.own ds)=>some (.list ds)
 | _=>none
theorem ul {i:Nat}:DK K ρ (xh i) (au i):=λ G σ H δ d Q R e q=>by
 unfold au at e
 split at e
 . rename_i d' h
   cases e
   obtain ⟨o,h1,v,h2,h3⟩:=R.sl i _ h
   exact ⟨v,by rw [h1,h2],q v G H (.refl R.sub) (.inl h3)⟩
 . rename_i ds h
   cases e
   obtain ⟨o,h1,p,vs,h2,h3,h4,h5⟩:=R.sl i _ h
   exact ⟨.ref p,by rw [h1,h2],q _ G H (.refl R.sub) (.inr ⟨p,vs,ds,rfl,rfl,h4,h5⟩)⟩
 . cases e
noncomputable def dC (d:W):DS->Option W:=λ _=>some d
theorem B3 {v:V} {d:W} (h:∀ G,Dw K ρ G v d):DE K ρ (tC v) (dC d):=λ G σ H δ d' Q R e q=>by
 cases e
 exact q v G H (.refl R.sub) (h G)
theorem pN {i:Int}:DE K ρ (tC (.int i)) (dC (.int i)):=B3 λ _=>.int i
theorem HP {b:Bool}:DE K ρ (tC (.bl b)) (dC (.bool b)):=B3 λ _=>.bl b
theorem xU {x:Str}:DE K ρ (tC (.str x)) (dC (.str x)):=B3 λ _=>.str x
theorem E5:DE K ρ (tC .non) (dC .none):=B3 λ _=>.non
noncomputable def DR (K:Frag) (ρ:List Addr) (r:R2) (g:W->W->Option W):Prop:=
 ∀ (G H:Hp) (x y:V) (d e c:W) (Q:VK),bo G H->Pk K ρ G H x d->Dw K ρ G y e->g d e=some c->(∀ v G' H',Gr G H G' H'->Dw K ρ G' v c->Q v H')->r x y H Q
noncomputable def av (g:W->W->Option W) (fa fb:DS->Option W):DS->Option W:=λ δ=>(fa δ).bind λ x=>(fb δ).bind λ y=>g x y
theorem yA {r:R2} {ta tb:TE} {fa fb:DS->Option W} {g:W->W->Option W} (hr:DR K ρ r g) (ha:DK K ρ ta fa) (hb:DE K ρ tb fb):DE K ρ (qR r ta tb) (av g fa fb):=λ G σ H δ d Q R e q=>by
 obtain ⟨x,ex,e⟩:=oB e
 obtain ⟨y,ey,e⟩:=oB e
 exact ha G σ H δ x _ R ex λ v G1 H1 g1 dv=>hb G1 σ H1 δ y _ (R.grow g1) ey λ u G2 H2 g2 du=>hr G2 H2 v u x y d Q g2.s (dv.grow g2) du e λ w G3 H3 g3 dw=>q w G3 H3 (g1.trans (g2.trans g3)) dw
noncomputable def DB (K:Frag) (ρ:List Addr) (r:R2) (g:W->W->Option Bool):Prop:=
 ∀ (H:Hp) (x y:V) (d e:W) (b:Bool) (Q:VK),Dw K ρ H x d->Dw K ρ H y e->g d e=some b->Q (.bl b) H->r x y H Q
noncomputable def ay (g:W->W->Option Bool) (fa fb:DS->Option W):DS->Option Bool:=λ δ=>(fa δ).bind λ x=>(fb δ).bind λ y=>g x y
noncomputable def dB (f:DS->Option Bool):DS->Option W:=λ δ=>(f δ).map .bool
theorem oQ {r:R2} {ta tb:TE} {fa fb:DS->Option W} {g:W->W->Option Bool} (hr:DB K ρ r g) (ha:DK K ρ ta fa) (hb:DK K ρ tb fb) {G:Hp} {σ:St} {H:Hp} {δ:DS} {b:Bool} {Q:VK} (R:Rl K ρ G H δ σ) (e:ay g fa fb δ=some b) (q:∀ G' H',Gr G H G' H'->Q (.bl b) H'):qR r ta tb σ H Q:=by
 obtain ⟨x,ex,e⟩:=oB e
 obtain ⟨y,ey,e⟩:=oB e
 exact ha G σ H δ x _ R ex λ v G1 H1 g1 dv=>hb G1 σ H1 δ y _ (R.grow g1) ey λ u G2 H2 g2 du=>hr H2 v u x y b Q ((dv.grow g2).dp g2.s) (du.dp g2.s) e (q G2 H2 (g1.trans g2))
theorem ES {r:R2} {ta tb:TE} {fa fb:DS->Option W} {g:W->W->Option Bool} (hr:DB K ρ r g) (ha:DK K ρ ta fa) (hb:DK K ρ tb fb):DE K ρ (qR r ta tb) (dB (ay g fa fb)):=λ G σ H δ d Q R e q=>by
 obtain ⟨b,e1,rfl⟩:=oM e
 exact oQ hr ha hb R e1 λ G' H' g=>q _ G' H' g (.bl b)
theorem zJ {r:R2} {ta tb:TE} {fa fb:DS->Option W} {g:W->W->Option Bool} (hr:DB K ρ r g) (ha:DK K ρ ta fa) (hb:DK K ρ tb fb):DT K ρ (vG (qR r ta tb)) (ay g fa fb):=λ G σ H δ b Q R e q=>
 oQ hr ha hb R e λ G' H' g=>⟨b,rfl,q G' H' g⟩
noncomputable def yr:W->Option Bool
 | .bool b=>some b
 | _=>none
noncomputable def rq (f:DS->Option W):DS->Option Bool:=λ δ=>(f δ).bind yr
theorem jz {d:W} {b:Bool} (h:yr d=some b):d=.bool b:=by
 cases d <;> first | (cases h;rfl) | cases h
theorem F4 {t:TE} {f:DS->Option W} (h:DE K ρ t f):DT K ρ (tB t) (rq f):=λ G σ H δ b Q R e q=>by
 obtain ⟨x,ex,e⟩:=oB e
 cases jz e
 exact h G σ H δ _ _ R ex λ v G1 H1 g1 dv=>by
  cases dv
  exact ⟨b,rfl,q G1 H1 g1⟩
noncomputable def ja (f g:DS->Option Bool):DS->Option Bool:=λ δ=>(f δ).bind λ b=>if b=true then g δ else some false
noncomputable def lS (f g:DS->Option Bool):DS->Option Bool:=λ δ=>(f δ).bind λ b=>if b=true then some true else g δ
noncomputable def Le (f:DS->Option Bool):DS->Option Bool:=λ δ=>(f δ).map (!·)
theorem y8 {t u:TT} {f g:DS->Option Bool} (h1:DT K ρ t f) (h2:DT K ρ u g):DT K ρ (Eg t u) (ja f g):=λ G σ H δ b Q R e q=>by
 obtain ⟨x,ex,e⟩:=oB e
 refine h1 G σ H δ x _ R ex λ G1 H1 g1=>?_
 cases x with
 | true=>exact h2 G1 σ H1 δ b Q (R.grow g1) e λ G2 H2 g2=>q G2 H2 (g1.trans g2)
 | false=>cases e;exact q G1 H1 g1
theorem Hf {t u:TT} {f g:DS->Option Bool} (h1:DT K ρ t f) (h2:DT K ρ u g):DT K ρ (Ll t u) (lS f g):=λ G σ H δ b Q R e q=>by
 obtain ⟨x,ex,e⟩:=oB e
 refine h1 G σ H δ x _ R ex λ G1 H1 g1=>?_
 cases x with
 | false=>exact h2 G1 σ H1 δ b Q (R.grow g1) e λ G2 H2 g2=>q G2 H2 (g1.trans g2)
 | true=>cases e;exact q G1 H1 g1
noncomputable def Hc (f g:DS->Option W):DS->Option W:=λ δ=>(f δ).bind λ x=>(yr x).bind λ b=>if b=true then g δ else some (.bool false)
noncomputable def C3 (f g:DS->Option W):DS->Option W:=λ δ=>(f δ).bind λ x=>(yr x).bind λ b=>if b=true then some (.bool true) else g δ
theorem Jm {t u:TE} {f g:DS->Option W} (h1:DE K ρ t f) (h2:DE K ρ u g):DE K ρ (EI t u) (C3 f g):=λ G σ H δ d Q R e q=>by
 obtain ⟨x,ex,e⟩:=oB e
 obtain ⟨b,eb,e⟩:=oB e
 cases jz eb
 refine h1 G σ H δ _ _ R ex λ v G1 H1 g1 dv=>?_
 cases dv
 refine ⟨b,rfl,?_⟩
 cases b with
 | false=>exact h2 G1 σ H1 δ d Q (R.grow g1) e λ v G2 H2 g2 dv=>q v G2 H2 (g1.trans g2) dv
 | true=>cases e;exact q _ G1 H1 g1 (.bl true)
noncomputable def wC (f:DS->Option W):DS->Option W:=λ δ=>(f δ).bind λ x=>(yr x).map λ b=>.bool (!b)
theorem Gc {t:TE} {f:DS->Option W} (h:DE K ρ t f):DE K ρ (CQ t) (wC f):=λ G σ H δ d Q R e q=>by
 obtain ⟨x,ex,e⟩:=oB e
 obtain ⟨b,eb,rfl⟩:=oM e
 cases jz eb
 refine h G σ H δ _ _ R ex λ v G1 H1 g1 dv=>?_
 cases dv
 exact ⟨b,rfl,q _ G1 H1 g1 (.bl _)⟩
noncomputable def AY (c:DS->Option Bool) (f g:DS->Option W):DS->Option W:=λ δ=>(c δ).bind λ b=>if b=true then f δ else g δ
theorem IH {tc:TT} {t u:TE} {c:DS->Option Bool} {f g:DS->Option W} (hc:DT K ρ tc c) (h1:DE K ρ t f) (h2:DE K ρ u g):DE K ρ (Mg tc t u) (AY c f g):=λ G σ H δ d Q R e q=>by
 obtain ⟨b,eb,e⟩:=oB e
 refine hc G σ H δ b _ R eb λ G1 H1 g1=>?_
 cases b with
 | true=>exact h1 G1 σ H1 δ d Q (R.grow g1) e λ v G2 H2 g2 dv=>q v G2 H2 (g1.trans g2) dv
 | false=>exact h2 G1 σ H1 δ d Q (R.grow g1) e λ v G2 H2 g2 dv=>q v G2 H2 (g1.trans g2) dv
noncomputable def af:DS->Option (List W):=λ _=>some []
noncomputable def aa (f:DS->Option W) (g:DS->Option (List W)):DS->Option (List W):=λ δ=>(f δ).bind λ d=>(g δ).map (d::·)
theorem pQ:DA K ρ lM af:=λ G σ H δ ds Q R e q=>by
 cases e
 exact q [] G H (.refl R.sub) .nil
theorem pF {t:TE} {u:TA} {f:DS->Option W} {g:DS->Option (List W)} (h1:DE K ρ t f) (h2:DA K ρ u g):DA K ρ (gX t u) (aa f g):=λ G σ H δ ds Q R e q=>by
 obtain ⟨d,ed,e⟩:=oB e
 obtain ⟨es,ee,rfl⟩:=oM e
 exact h1 G σ H δ d _ R ed λ v G1 H1 g1 dv=>h2 G1 σ H1 δ es _ (R.grow g1) ee λ vs G2 H2 g2 da=>q _ G2 H2 (g1.trans g2) (.cons (dv.same g2.g) da)
theorem aB.length {G:Hp} {vs:List V} {ds:List W} (h:aB K ρ G vs ds):vs.length=ds.length:=h.ind (M:=λ vs ds=>vs.length=ds.length) rfl λ _ _ _ _ _ e=>congrArg (· + 1) e
theorem aB.get {G:Hp} {vs:List V} {ds:List W} {i:Nat} {d:W} (h:aB K ρ G vs ds):ds[i]?=some d->∃ v,vs[i]?=some v/\Dw K ρ G v d:=
 h.ind (M:=λ vs ds=>∀ (i:Nat) d,ds[i]?=some d->∃ v,vs[i]?=some v/\Dw K ρ G v d) (λ _ _ e=>by cases e) (λ v _ _ _ a ih i d e=>by
  cases i with
  | zero=>cases e;exact ⟨v,rfl,a⟩
  | succ i=>exact ih i d e) i d
theorem aB.app {G:Hp} {vs ws:List V} {ds es:List W} (h:aB K ρ G vs ds) (h':aB K ρ G ws es):aB K ρ G (vs++ws) (ds++es):=h.ind (M:=λ vs ds=>aB K ρ G (vs++ws) (ds++es)) h' λ _ _ _ _ a ih=>.cons a ih
theorem aB.drop {G:Hp} {vs:List V} {ds:List W} (n:Nat) (h:aB K ρ G vs ds):aB K ρ G (vs.drop n) (ds.drop n):=by
 induction n generalizing vs ds with
 | zero=>exact h
 | succ n ih=>
  cases h with
  | nil=>exact .nil
  | cons _ t=>exact ih t
theorem aB.take {G:Hp} {vs:List V} {ds:List W} (n:Nat) (h:aB K ρ G vs ds):aB K ρ G (vs.take n) (ds.take n):=by
 induction n generalizing vs ds with
 | zero=>exact .nil
 | succ n ih=>
  cases h with
  | nil=>exact .nil
  | cons a t=>exact .cons a (ih t)
theorem aB.set {G:Hp} {v:V} {d:W} (h:Dw K ρ G v d):∀ {vs:List V} {ds:List W} (n:Nat),aB K ρ G vs ds->aB K ρ G (vs.set n v) (ds.set n d):=λ {vs ds} n q=>by
 induction n generalizing vs ds with
 | zero=>
  cases q with
  | nil=>exact .nil
  | cons _ t=>exact .cons h t
 | succ n ih=>
  cases q with
  | nil=>exact .nil
  | cons a t=>exact .cons a (ih t)
theorem aB.ints {G:Hp}:∀ (ns:List Int),aB K ρ G (ns.map V.int) (ns.map .int)
 | []=>.nil
 | n::r=>.cons (.int n) (aB.ints r)
noncomputable def aG (f:DS->Option (List W)):DS->Option W:=λ δ=>(f δ).bind λ ds=>if ds.length<=sizeLine then some (.tuple ds) else none
theorem Gj {t:TA} {f:DS->Option (List W)} (h:DA K ρ t f):DE K ρ (yg t) (aG f):=λ G σ H δ d Q R e q=>by
 obtain ⟨ds,e1,e⟩:=oB e
 split at e
 . rename_i hz
   cases e
   refine h G σ H δ ds _ R e1 λ vs G1 H1 g1 da=>⟨by rw [da.length];exact hz,λ p H' n=>?_⟩
   have g2:=Gr.nw g1.s n
   exact q _ _ H' (g1.trans g2) (.tup aK (da.same g2.g))
 . cases e
noncomputable def bm (f:DS->Option (List W)):DS->Option (List W):=λ δ=>(f δ).bind λ ds=>if ds.length<=sizeLine then some ds else none
theorem tp {t:TA} {f:DS->Option (List W)} (h:DA K ρ t f):DO K ρ (Aq t) (bm f):=λ G σ H δ ds Q R e q=>by
 obtain ⟨ds',e1,e⟩:=oB e
 split at e
 . rename_i hz
   cases e
   refine h G σ H δ _ _ R e1 λ vs G1 H1 g1 da=>⟨by rw [da.length];exact hz,λ p H' n=>?_⟩
   exact q p vs G1 H' (g1.trans (.nwO g1.s n)) (by
    cases hp:H p with
    | none=>rfl
    | some o=>exact absurd (g1.h _ _ hp) (by rw [n.2.1];simp)) (cD g1.s n.2.1) n.2.2 da
 . cases e
end
section
variable {X:Cx} {tg:Expr}
noncomputable def wL (K:Frag) (tl:TE):TI:=λ σ H R=>tl σ H λ x H1=>∃ a,x=.ref a/\(((∃ xs,cC K H1 a xs)/\R (Ko K a) H1)∨((∃ xs,eK K H1 a xs)/\R (K3 K a) H1))
theorem EH {l:Expr} {tl:TE} (hl:PE X l tl):PI X tg l (wL X.K tl):=by
 intro pins s σ H R I h
 refine cm (hl pins s σ H _ I h) λ v s1 hq0=>?_
 obtain ⟨x,H1,I1,r1,q1⟩:=hq0
 obtain ⟨a,e,⟨⟨xs,hq⟩,q⟩ | ⟨⟨xs,hq⟩,q⟩⟩:=q1
 all_goals
  subst e
  cases r1
 . obtain ⟨its,rv,p,hz⟩:=I1.list hq
   refine wpAny_pyIter_list p.isList ?_
   refine ⟨s1.heap.objs.size,[s1.heap.objs.size],_,_,H1,rfl,I1.kept (t':=s1.toks) λ b o e=>Heap.get?_push_of_some _ e,xr a _,⟨_,Heap.get?_push_size _ rfl,rfl,rfl⟩,λ b hb=>?_,q⟩
   have e:b=s1.heap.objs.size:=by simpa using hb
   subst e
   exact I1.fpOk (Nat.le_refl _) (I1.hok.fresh (Nat.le_refl _))
 . obtain ⟨its,rv,p,hz⟩:=I1.tuple hq
   refine wpAny_pyIter_tuple (show s1.heap.IsTuple a its.toArray from p) ?_
   refine ⟨s1.heap.objs.size,[s1.heap.objs.size],_,_,H1,rfl,I1.kept (t':=s1.toks) λ b o e=>Heap.get?_push_of_some _ e,tG a _,⟨_,Heap.get?_push_size _ rfl,rfl,rfl⟩,λ b hb=>?_,q⟩
   have e:b=s1.heap.objs.size:=by simpa using hb
   subst e
   exact I1.fpOk (Nat.le_refl _) (I1.hok.fresh (Nat.le_refl _))
theorem JI {K:Frag} (h:X.K=K) {l:Expr} {tl:TE} (hl:PE X l tl):PI X tg l (wL K tl):=h▸EH hl
end
section
variable {K:Frag} {ρ:List Addr}
noncomputable def A6 (K:Frag) (ρ:List Addr) (J:It) (ds:List W) (i:Nat) (G1 H1:Hp):Prop:=
 (∀ d,ds[i]?=some d->J.go i H1/\∀ x H',J.yld i H1 x H'->∃ G',Gr G1 H1 G' H'/\Dw K ρ G' x d)/\(ds.length<=i->J.stop i H1)
noncomputable def LU (K:Frag) (ρ:List Addr) (J:It) (G H:Hp) (ds:List W):Prop:=∀ i G1 H1,Gr G H G1 H1->A6 K ρ J ds i G1 H1
noncomputable def Ja (K:Frag) (ρ:List Addr) (J:It) (G:Hp) (ds:List W):Prop:=∀ i G1 H1,bo G G1->bo G1 H1->A6 K ρ J ds i G1 H1
theorem Ja.d {J:It} {G H:Hp} {ds:List W} (h:Ja K ρ J G ds):LU K ρ J G H ds:=λ i G1 H1 g=>h i G1 H1 g.g g.s
noncomputable def DI (K:Frag) (ρ:List Addr) (wi:TI) (f:DS->Option (List W)):Prop:=
 ∀ (G:Hp) (σ:St) (H:Hp) (δ:DS) (ds:List W) (R':It->Hp->Prop),Rl K ρ G H δ σ->f δ=some ds->(∀ J G' H',Gr G H G' H'->Ja K ρ J G' ds->R' J H')->wi σ H R'
noncomputable def Kj (K:Frag) (ρ:List Addr) (wi:TI) (f:DS->Option (List W)):Prop:=
 ∀ (G:Hp) (σ:St) (H:Hp) (δ:DS) (ds:List W) (R':It->Hp->Prop),Rl K ρ G H δ σ->f δ=some ds->(∀ J G' H',Gr G H G' H'->LU K ρ J G' H' ds->R' J H')->wi σ H R'
theorem DI.k {wi:TI} {f:DS->Option (List W)} (h:DI K ρ wi f):Kj K ρ wi f:=λ G σ H δ ds R' R e q=>h G σ H δ ds R' R e λ J G' H' g i=>q J G' H' g i.d
noncomputable def qe:W->Option (List W)
 | .list ds=>some ds
 | .tuple ds=>some ds
 | _=>none
noncomputable def bz (f:DS->Option W):DS->Option (List W):=λ δ=>(f δ).bind qe
theorem nc {G1 H1:Hp} {a:Addr} {xs:List V} {ds:List W} {i:Nat} (s:bo G1 H1) (q:cC K H1 a xs) (da:aB K ρ G1 xs ds):A6 K ρ (Ko K a) ds i G1 H1:=by
 refine ⟨λ d hd=>?_,λ h=>⟨xs,q,by rw [da.length];exact h⟩⟩
 obtain ⟨v,h1,h2⟩:=da.get hd
 refine ⟨⟨xs,v,q,h1⟩,λ x H' y=>?_⟩
 obtain ⟨rfl,y⟩:=y
 have:=y xs q
 rw [h1] at this
 cases this
 exact ⟨G1,.refl s,h2⟩
theorem tP {G1 H1:Hp} {a:Addr} {xs:List V} {ds:List W} {i:Nat} (s:bo G1 H1) (q:eK K H1 a xs) (da:aB K ρ G1 xs ds):A6 K ρ (K3 K a) ds i G1 H1:=by
 refine ⟨λ d hd=>?_,λ h=>⟨xs,q,by rw [da.length];exact h⟩⟩
 obtain ⟨v,h1,h2⟩:=da.get hd
 refine ⟨⟨xs,v,q,h1⟩,λ x H' y=>?_⟩
 obtain ⟨rfl,y⟩:=y
 have:=y xs q
 rw [h1] at this
 cases this
 exact ⟨G1,.refl s,h2⟩
theorem xZ {t:TE} {f:DS->Option W} (h:DE K ρ t f):DI K ρ (wL K t) (bz f):=λ G σ H δ ds R' R e q=>by
 obtain ⟨d,ed,e⟩:=oB e
 refine h G σ H δ d _ R ed λ v G1 H1 g1 dv=>?_
 cases dv with
 | lst sq da=>
  cases e
  exact ⟨_,rfl,.inl ⟨⟨_,g1.s.seq sq⟩,q _ G1 H1 g1 λ i G2 H2 a b=>nc b ((a.trans b).seq sq) (da.same a)⟩⟩
 | tup sq da=>
  cases e
  exact ⟨_,rfl,.inr ⟨⟨_,g1.s.tup (eK.of sq)⟩,q _ G1 H1 g1 λ i G2 H2 a b=>tP b ((a.trans b).tup (eK.of sq)) (da.same a)⟩⟩
 | _=>cases e
theorem Bz {t:TE} {f:DS->Option W} (h:DK K ρ t f):Kj K ρ (wL K t) (bz f):=λ G σ H δ ds R' R e q=>by
 obtain ⟨d,ed,e⟩:=oB e
 refine h G σ H δ d _ R ed λ v G1 H1 g1 dv=>?_
 rcases dv with dv | ⟨p,vs,es,rfl,rfl,hp,da⟩
 . cases dv with
   | lst sq da=>
    cases e
    exact ⟨_,rfl,.inl ⟨⟨_,g1.s.seq sq⟩,q _ G1 H1 g1 λ i G2 H2 g=>nc g.s ((g.g.trans g.s).seq sq) (da.same g.g)⟩⟩
   | tup sq da=>
    cases e
    exact ⟨_,rfl,.inr ⟨⟨_,g1.s.tup (eK.of sq)⟩,q _ G1 H1 g1 λ i G2 H2 g=>tP g.s ((g.g.trans g.s).tup (eK.of sq)) (da.same g.g)⟩⟩
   | _=>cases e
 . cases e
   exact ⟨p,rfl,.inl ⟨⟨_,cC.of hp⟩,q _ G1 H1 g1 λ i G2 H2 g=>nc g.s (cC.of (g.h _ _ hp)) (da.same g.g)⟩⟩
noncomputable def eW (lo:Int) (n:Nat):List W:=(List.range n).map λ i=>.int (lo+(i:Nat))
theorem Ff {G:Hp} {lo:Int} {n:Nat}:Ja K ρ (JV lo n) G (eW lo n):=λ i G1 H1 _ s=>by
 refine ⟨λ d hd=>?_,λ h=>show n<=i by simpa [eW] using h⟩
 have hi:i<n:=by
  have:=(oG hd).1
  simpa [eW] using this
 refine ⟨hi,λ x H' y=>?_⟩
 obtain ⟨rfl,rfl⟩:=y
 have:d=.int (lo+i):=by
  unfold eW at hd
  rw [List.getElem?_map,List.getElem?_range hi] at hd
  cases hd
  rfl
 subst this
 exact ⟨G1,.refl s,.int _⟩
noncomputable def oP (j:Int):Bool:=decide (-(2^62)<=j)&&decide (j<2^62)
theorem wT {j:Int} (h:oP j=true) : -(2^62)<=j/\j<2^62:=by
 simp only [oP,Bool.and_eq_true,decide_eq_true_eq] at h
 exact h
theorem zt {j:Int} (h1 : -(2^62)<=j) (h2:j<2^62):oP j=true:=by
 simp only [oP,Bool.and_eq_true,decide_eq_true_eq]
 exact ⟨h1,h2⟩
theorem xF {n:Nat} (h:n<=16777216):oP (n:Int)=true:=zt (by omega) (by omega)
noncomputable def wN (j:Int):Option (List W):=if oP j=true then some (eW 0 j.toNat) else none
noncomputable def DV:List W->Option (List W)
 | [.int j]=>wN j
 | _=>none
noncomputable def je (f:DS->Option (List W)):DS->Option (List W):=λ δ=>(f δ).bind DV
theorem By {j:Int} {ds:List W} (h:wN j=some ds):(-(2^62)<=j/\j<2^62)/\ds=eW 0 j.toNat:=by
 unfold wN at h
 split at h
 . rename_i hc
   cases h
   exact ⟨wT hc,rfl⟩
 . cases h
theorem d8 {G:Hp} {v:V} {i:Int} (h:Dw K ρ G v (.int i)):v=.int i:=by cases h;rfl
theorem uz {G:Hp} {v:V} {i:Str} (h:Dw K ρ G v (.str i)):v=.str i:=by cases h;rfl
theorem vt {G:Hp} {v:V} {i:Bool} (h:Dw K ρ G v (.bool i)):v=.bl i:=by cases h;rfl
theorem tH {G:Hp} {v:V} (h:Dw K ρ G v .none):v=.non:=by cases h;rfl
theorem yv {G:Hp} {vs:List V} {d:W} (h:aB K ρ G vs [d]):∃ v,vs=[v]/\Dw K ρ G v d:=by
 cases h with
 | cons a b=>cases b;exact ⟨_,rfl,a⟩
theorem zv {G:Hp} {vs:List V} {d e:W} (h:aB K ρ G vs [d,e]):∃ v u,vs=[v,u]/\Dw K ρ G v d/\Dw K ρ G u e:=by
 cases h with
 | cons a b=>
  cases b with
  | cons b c=>cases c;exact ⟨_,_,rfl,a,b⟩
theorem yV {ds es:List W} (e:DV ds=some es):∃ j,ds=[.int j]/\wN j=some es:=by
 cases ds with
 | nil=>cases e
 | cons x r=>
  cases x with
  | int j=>
   cases r with
   | nil=>exact ⟨j,rfl,e⟩
   | cons y r=>cases e
  | _=>cases r <;> cases e
theorem Cp {t:TA} {f:DS->Option (List W)} (h:DA K ρ t f):DI K ρ (D5 t) (je f):=λ G σ H δ ds R' R e q=>by
 obtain ⟨es,ed,e⟩:=oB e
 refine h G σ H δ es _ R ed λ vs G1 H1 g1 da=>?_
 obtain ⟨j,rfl,e⟩:=yV e
 obtain ⟨hc,rfl⟩:=By e
 obtain ⟨v,rfl,dv⟩:=yv da
 cases d8 dv
 exact ⟨_,rfl,hc.1,hc.2,q _ G1 H1 g1 Ff⟩
noncomputable def k7 (ds:List W):List W:=(List.range ds.length).map λ (i:Nat)=>.tuple [.int (i:Int),ds[i]?.getD .none]
theorem x9 {ds:List W} {i:Nat} {d:W} (h:(k7 ds)[i]?=some d):∃ x,ds[i]?=some x/\d=.tuple [.int i,x]:=by
 have hi:i<ds.length:=by
  have:=(oG h).1
  simpa [k7] using this
 unfold k7 at h
 rw [List.getElem?_map,List.getElem?_range hi] at h
 cases h
 exact ⟨ds[i],List.getElem?_eq_getElem hi,by simp [List.getElem?_eq_getElem hi]⟩
theorem FM {G1 H1:Hp} {a:Addr} {xs:List V} {ds:List W} {i:Nat} (s:bo G1 H1) (q:cC K H1 a xs) (da:aB K ρ G1 xs ds):A6 K ρ (L1 K a) (k7 ds) i G1 H1:=by
 refine ⟨λ d hd=>?_,λ h=>⟨xs,q,by rw [da.length];simpa [k7] using h⟩⟩
 obtain ⟨x,hx,rfl⟩:=x9 hd
 obtain ⟨v,h1,h2⟩:=da.get hx
 refine ⟨⟨xs,v,q,h1⟩,λ y H' w=>?_⟩
 obtain ⟨p,u,hp,rfl,rfl,w⟩:=w
 have:=w xs q
 rw [h1] at this
 cases this
 have n:Nw H1 (cp H1 p (.tup [.int i,v])) p (.tup [.int i,v]):=.of hp
 have g:=Gr.nw s n
 exact ⟨_,g,.tup aK (.cons (.int i) (.cons (h2.same g.g) .nil))⟩
noncomputable def vR (f:DS->Option (List W)):DS->Option (List W):=λ δ=>(f δ).bind λ ds=>match ds with
 | [.list es]=>some (k7 es)
 | _=>none
theorem Bn {t:TA} {f:DS->Option (List W)} (h:DA K ρ t f):DI K ρ (yb K t) (vR f):=λ G σ H δ ds R' R e q=>by
 obtain ⟨es,ed,e⟩:=oB e
 refine h G σ H δ es _ R ed λ vs G1 H1 g1 da=>?_
 split at e
 . cases e
   obtain ⟨v,rfl,dv⟩:=yv da
   cases dv with
   | lst sq da=>exact ⟨_,rfl,⟨_,g1.s.seq sq⟩,q _ G1 H1 g1 λ i G2 H2 a b=>FM b ((a.trans b).seq sq) (da.same a)⟩
 . cases e
noncomputable def m8 (ds es:List W):List W:=List.zipWith (λ x y=>.tuple [x,y]) ds es
theorem yq {ds es:List W} {i:Nat} {d:W} (h:(m8 ds es)[i]?=some d):∃ x y,ds[i]?=some x/\es[i]?=some y/\d=.tuple [x,y]:=by
 unfold m8 at h
 rw [List.getElem?_zipWith] at h
 cases h1:ds[i]? with
 | none=>rw [h1] at h;cases h
 | some x=>
  cases h2:es[i]? with
  | none=>rw [h1,h2] at h;cases h
  | some y=>
   rw [h1,h2] at h
   cases h
   exact ⟨x,y,rfl,rfl,rfl⟩
theorem zg {G1 H1:Hp} {a b:Addr} {xs ys:List V} {ds es:List W} {i:Nat} (s:bo G1 H1) (q:cC K H1 a xs) (da:aB K ρ G1 xs ds) (q2:cC K H1 b ys) (db:aB K ρ G1 ys es):A6 K ρ (Lc K a b) (m8 ds es) i G1 H1:=by
 refine ⟨λ d hd=>?_,λ h=>⟨xs,ys,q,q2,?_⟩⟩
 . obtain ⟨x,y,hx,hy,rfl⟩:=yq hd
   obtain ⟨v,h1,h2⟩:=da.get hx
   obtain ⟨u,k1,k2⟩:=db.get hy
   refine ⟨⟨xs,ys,v,u,q,q2,h1,k1⟩,λ z H' w=>?_⟩
   obtain ⟨p,v',u',hp,rfl,rfl,w1,w2⟩:=w
   have:=w1 xs q
   rw [h1] at this
   cases this
   have:=w2 ys q2
   rw [k1] at this
   cases this
   have g:=Gr.nw s (Nw.of (o:=.tup [v,u]) hp)
   exact ⟨_,g,.tup aK (.cons (h2.same g.g) (.cons (k2.same g.g) .nil))⟩
 . have:(m8 ds es).length=min ds.length es.length:=by simp [m8]
   rw [da.length,db.length]
   omega
noncomputable def CA (f:DS->Option (List W)):DS->Option (List W):=λ δ=>(f δ).bind λ ds=>match ds with
 | [.list a,.list b]=>some (m8 a b)
 | _=>none
theorem Fv {t:TA} {f:DS->Option (List W)} (h:DA K ρ t f):DI K ρ (Ca K t) (CA f):=λ G σ H δ ds R' R e q=>by
 obtain ⟨es,ed,e⟩:=oB e
 refine h G σ H δ es _ R ed λ vs G1 H1 g1 da=>?_
 split at e
 . cases e
   obtain ⟨v,u,rfl,dv,du⟩:=zv da
   cases dv with
   | lst sq dA=>
    cases du with
    | lst sq2 db=>exact ⟨_,_,rfl,⟨_,g1.s.seq sq⟩,⟨_,g1.s.seq sq2⟩,q _ G1 H1 g1 λ i G2 H2 a b=>zg b ((a.trans b).seq sq) (dA.same a) ((a.trans b).seq sq2) (db.same a)⟩
 . cases e
noncomputable def DG (K:Frag) (ρ:List Addr) (g:TG) (h:W->DS->Option DS):Prop:=
 ∀ (G H:Hp) (δ:DS) (σ:St) (v:V) (d:W) (δ':DS) (Q:St->Hp->Prop),Rl K ρ G H δ σ->Dw K ρ G v d->h d δ=some δ'->(∀ σ',Rl K ρ G H δ' σ'->ft δ' σ' δ σ->Q σ' H)->g v σ H Q
noncomputable def Jn (K:Frag) (ρ:List Addr) (g:zf) (h:List W->DS->Option DS):Prop:=
 ∀ (G H:Hp) (δ:DS) (σ:St) (vs:List V) (ds:List W) (δ':DS) (Q:St->Hp->Prop),Rl K ρ G H δ σ->aB K ρ G vs ds->h ds δ=some δ'->(∀ σ',Rl K ρ G H δ' σ'->ft δ' σ' δ σ->Q σ' H)->g vs σ H Q
noncomputable def ae (i:Nat):W->DS->Option DS:=λ d δ=>some (δ.set i (.val d))
theorem vf {i:Nat}:DG K ρ (lI i) (ae i):=λ G H δ σ v d δ' Q R dv e q=>by
 cases e
 exact q _ (R.set dv) (j7 R.len)
noncomputable def bL:List W->DS->Option DS:=λ ds δ=>match ds with
 | []=>some δ
 | _=>none
noncomputable def aA (h:W->DS->Option DS) (k:List W->DS->Option DS):List W->DS->Option DS:=λ ds δ=>match ds with
 | d::r=>(h d δ).bind (k r)
 | _=>none
theorem CB:Jn K ρ Io bL:=λ G H δ σ vs ds δ' Q R dv e q=>by
 cases dv with
 | nil=>cases e;exact ⟨rfl,q _ R (.refl _ _)⟩
 | cons _ _=>cases e
theorem As {g:TG} {u:zf} {h:W->DS->Option DS} {k:List W->DS->Option DS} (h1:DG K ρ g h) (h2:Jn K ρ u k):Jn K ρ (DU g u) (aA h k):=λ G H δ σ vs ds δ' Q R dv e q=>by
 cases dv with
 | nil=>cases e
 | cons a b=>
  obtain ⟨δ1,e1,e⟩:=oB e
  exact ⟨_,_,rfl,h1 G H δ σ _ _ δ1 _ R a e1 λ σ1 R1 o1=>h2 G H δ1 σ1 _ _ δ' Q R1 b e λ σ2 R2 o2=>q σ2 R2 (o2.trans o1)⟩
noncomputable def bI (n:Nat) (k:List W->DS->Option DS):W->DS->Option DS:=λ d δ=>match d with
 | .tuple ds=>if ds.length=n then k ds δ else none
 | _=>none
theorem Gq {n:Nat} {u:zf} {k:List W->DS->Option DS} (h:Jn K ρ u k):DG K ρ (E7 K n u) (bI n k):=λ G H δ σ v d δ' Q R dv e q=>by
 cases dv with
 | tup sq da=>
  simp only [bI] at e
  split at e
  . rename_i hn
    exact ⟨_,_,rfl,R.sub.tup (eK.of sq),by rw [da.length];exact hn,h G H δ σ _ _ δ' Q R da e q⟩
  . cases e
 | _=>cases e
noncomputable def oj (δ:DS):Option Nat->Sl
 | none=>.no
 | some i=>δ[i]?.getD .no
noncomputable def Km (σ:St):Option Nat->Option V
 | none=>none
 | some i=>match σ[i]? with
  | some v=>v
  | none=>none
noncomputable def bJ (ix:List (Option Nat)) (δ:DS):DS:=ix.map (oj δ)
theorem nX {ix:List (Option Nat)} {σ:St} {j:Nat} {o:Option Nat} (h:ix[j]?=some o):(lift ix σ)[j]?=some (Km σ o):=by
 unfold lift
 rw [List.getElem?_map,h]
 cases o <;> rfl
theorem kQ {ix:List (Option Nat)} {δ:DS} {j:Nat} {s:Sl} (h:(bJ ix δ)[j]?=some s):∃ o,ix[j]?=some o/\s=oj δ o:=by
 unfold bJ at h
 rw [List.getElem?_map] at h
 obtain ⟨o,h1,h2⟩:=oM h
 exact ⟨o,h1,h2.symm⟩
noncomputable def xD (ix:List (Option Nat)):Bool:=decide ((ix.filterMap id).Nodup)
theorem F5 {ix:List (Option Nat)} (h:(ix.filterMap id).Nodup):∀ {i j k:Nat},ix[i]?=some (some k)->ix[j]?=some (some k)->i=j:=by
 induction ix with
 | nil=>intro i j k h1;simp at h1
 | cons o r ih=>
  intro i j k h1 h2
  have hr:(r.filterMap id).Nodup:=by
   cases o with
   | none=>simpa using h
   | some a=>
    have h':(a::r.filterMap id).Nodup:=h
    exact (List.nodup_cons.mp h').2
  have hm:∀ m,r[m]?=some (some k)->k∈r.filterMap id:=λ m hm=>List.mem_filterMap.mpr ⟨some k,List.mem_of_getElem? hm,rfl⟩
  cases i with
  | zero=>
   cases j with
   | zero=>rfl
   | succ j=>
    simp at h1 h2
    subst h1
    have h':(k::r.filterMap id).Nodup:=h
    exact absurd (hm j h2) (List.nodup_cons.mp h').1
  | succ i=>
   cases j with
   | zero=>
    simp at h1 h2
    subst h2
    have h':(k::r.filterMap id).Nodup:=h
    exact absurd (hm i h1) (List.nodup_cons.mp h').1
   | succ j=>
    simp at h1 h2
    rw [ih hr h1 h2]
theorem Rl.lift {G H:Hp} {δ:DS} {σ:St} {ix:List (Option Nat)} (hx:xD ix=true) (R:Rl K ρ G H δ σ):Rl K ρ G H (bJ ix δ) (lift ix σ):=by
 have hx':(ix.filterMap id).Nodup:=by simpa [xD] using hx
 have own:∀ {j:Nat} {ds:List W},(bJ ix δ)[j]?=some (.own ds)->∃ i,ix[j]?=some (some i)/\δ[i]?=some (.own ds):=λ {j ds} h=>by
  obtain ⟨o,h1,h2⟩:=kQ h
  cases o with
  | none=>cases h2
  | some i=>
   refine ⟨i,h1,?_⟩
   cases e:δ[i]? with
   | none=>simp [oj,e] at h2
   | some s=>simp [oj,e] at h2;rw [h2]
 have at':∀ {j i:Nat} {v:V},ix[j]?=some (some i)->(L2.lift ix σ)[j]?=some (some v)->σ[i]?=some (some v):=λ {j i v} h1 h2=>by
  rw [nX h1] at h2
  simp only [Km] at h2
  split at h2
  . rename_i w e
    rw [e]
    simpa using h2
  . cases h2
 refine ⟨R.sub,by simp [bJ,L2.lift],λ j s h=>?_,λ j k p ds es h1 h2 h3 h4=>?_⟩
 . obtain ⟨o,h1,rfl⟩:=kQ h
   refine ⟨_,nX h1,?_⟩
   cases o with
   | none=>trivial
   | some i=>
    cases e:δ[i]? with
    | none=>simp only [oj,e,Option.getD_none];trivial
    | some s=>
     obtain ⟨o,k1,k2⟩:=R.sl i s e
     simp only [oj,Km,e,k1,Option.getD_some]
     exact k2
 . obtain ⟨i1,a1,a2⟩:=own h1
   obtain ⟨i2,b1,b2⟩:=own h2
   have:=R.apart i1 i2 p ds es a2 b2 (at' a1 h3) (at' b1 h4)
   subst this
   exact F5 hx' a1 b1
noncomputable def gR:DS->Option Bool:=λ _=>some true
theorem FB:DT K ρ IL gR:=λ G σ H δ b Q R e q=>by
 cases e
 exact q G H (.refl R.sub)
noncomputable def b6 (h:W->DS->Option DS) (c:DS->Option Bool) (fe:DS->Option W) (δ:DS):List W->Option (List W)
 | []=>some []
 | d::ds=>(h d δ).bind λ δ2=>(c δ2).bind λ b=>if b=true then (fe δ2).bind λ e=>(b6 h c fe δ ds).map (e::·) else b6 h c fe δ ds
noncomputable def gg (ix:List (Option Nat)) (fi:DS->Option (List W)) (h:W->DS->Option DS) (c:DS->Option Bool) (fe:DS->Option W):DS->Option (List W):=λ δ=>
 (fi δ).bind λ ds=>if ds.length<=sizeLine then b6 h c fe (bJ ix δ) ds else none
theorem C8 {ix:List (Option Nat)} {wi:TI} {g:TG} {tc:TT} {te:TE} {fi:DS->Option (List W)} {h:W->DS->Option DS} {c:DS->Option Bool} {fe:DS->Option W}
 (hx:xD ix=true) (hi:Kj K ρ wi fi) (hg:DG K ρ g h) (hc:DT K ρ tc c) (he:DE K ρ te fe):DO K ρ (mC ix wi g tc te) (gg ix fi h c fe):=λ G σ H δ es Q R e q=>by
 obtain ⟨ds,ed,e⟩:=oB e
 split at e
 case isFalse=>cases e
 rename_i hz
 refine hi G σ H δ ds _ R ed λ J G1 H1 g1 it=>?_
 refine ⟨λ i m ys H2=>m=ds.length-i/\i<=ds.length/\ys.length<=i/\∃ G2 as bs,Gr G1 H1 G2 H2/\aB K ρ G2 ys as/\b6 h c fe (bJ ix δ) (ds.drop i)=some bs/\as++bs=es,⟨ds.length,by simp,Nat.zero_le _,Nat.le_refl _,G1,[],es,.refl g1.s,.nil,by simpa using e,rfl⟩,?_⟩
 rintro i m ys H2 ⟨rfl,hil,hyl,G2,as,bs,g2,da,eb,rfl⟩
 have ia:=it i G2 H2 g2
 by_cases hlt:i<ds.length
 . refine .inr ?_
   obtain ⟨go,step⟩:=ia.1 ds[i] (List.getElem?_eq_getElem hlt)
   rw [List.drop_eq_getElem_cons hlt] at eb
   obtain ⟨δ2,e2,eb⟩:=oB eb
   obtain ⟨b,e3,eb⟩:=oB eb
   refine ⟨go,by omega,λ ys' H'=>ys'.length<=i+1/\∃ G2 as' bs',Gr G1 H1 G2 H'/\aB K ρ G2 ys' as'/\b6 h c fe (bJ ix δ) (ds.drop (i+1))=some bs'/\as'++bs'=as++bs,λ ys' H' hy0=>by obtain ⟨l,z⟩:=hy0;exact ⟨ds.length-(i+1),by omega,rfl,hlt,l,z⟩,λ x H' y=>?_⟩
   obtain ⟨G3,g3,dx⟩:=step x H' y
   have R3:=((R.grow g1).grow g2).grow g3
   refine hg G3 H' (bJ ix δ) _ x _ δ2 _ (R3.lift hx) dx e2 λ σ2 R4 _=>?_
   refine hc G3 σ2 H' δ2 b _ R4 e3 λ G5 H5 g5=>?_
   have g25:=g2.trans (g3.trans g5)
   have da5:=da.same (g3.trans g5).g
   cases b with
   | false=>exact ⟨by omega,G5,as,bs,g25,da5,eb,rfl⟩
   | true=>
    obtain ⟨ev,e6,eb⟩:=oB eb
    obtain ⟨bs',e7,rfl⟩:=oM eb
    refine he G5 σ2 H5 δ2 ev _ (R4.grow g5) e6 λ v G6 H6 g6 dv=>?_
    exact ⟨by simp;omega,G6,as++[ev],bs',g25.trans g6,(da5.same g6.g).app (.cons dv .nil),e7,by simp⟩
 . have hi':i=ds.length:=by omega
   subst hi'
   refine .inl ⟨ia.2 (Nat.le_refl _),by omega,λ p hp=>?_⟩
   rw [List.drop_length] at eb
   cases eb
   rw [List.append_nil] at q
   have n:Nw H2 (cp H2 p (.lst ys)) p (.lst ys):=.of hp
   exact q p ys G2 _ (g1.trans (g2.trans (.nwO g2.s n))) (cD (g1.trans g2).h hp) (cD g2.s hp) aK da
inductive cY where
 | nx (δ:DS)
 | bk (δ:DS)
 | ct (δ:DS)
 | rt (d:W)
structure Iv (K:Frag) (ρ:List Addr) (G0 H0 G H:Hp) (δ:DS) (σ:St):Prop where
 rl:Rl K ρ G H δ σ
 gr:Gr G0 H0 G H
 ow:∀ (i:Nat) p ds,δ[i]?=some (.own ds)->σ[i]?=some (some (.ref p))->H0 p=none
noncomputable def MT (K:Frag) (ρ:List Addr) (G0 H0:Hp) (D:iq):cY->Prop
 | .nx δ=>∀ σ G H,Iv K ρ G0 H0 G H δ σ->D.nx σ H
 | .bk δ=>∀ σ G H,Iv K ρ G0 H0 G H δ σ->D.bk σ H
 | .ct δ=>∀ σ G H,Iv K ρ G0 H0 G H δ σ->D.ct σ H
 | .rt d=>∀ v G H,Gr G0 H0 G H->Dw K ρ G v d->D.rt v H
noncomputable def n9 (K:Frag) (ρ:List Addr) (t:TS) (f:DS->Option cY):Prop:=
 ∀ (G0 H0 G:Hp) (σ:St) (H:Hp) (δ:DS) (o:cY) (D:iq),Iv K ρ G0 H0 G H δ σ->f δ=some o->MT K ρ G0 H0 D o->t D σ H
theorem Iv.grow {G0 H0 G H G' H':Hp} {δ:DS} {σ:St} (I:Iv K ρ G0 H0 G H δ σ) (g:Gr G H G' H'):Iv K ρ G0 H0 G' H' δ σ:=⟨I.rl.grow g,I.gr.trans g,I.ow⟩
theorem Iv.sub {G0 H0 G H:Hp} {δ δ':DS} {σ σ':St} (I:Iv K ρ G0 H0 G H δ σ) (R:Rl K ρ G H δ' σ') (o:ft δ' σ' δ σ):Iv K ρ G0 H0 G H δ' σ':=⟨R,I.gr,λ i p ds h1 h2=>by
 obtain ⟨es,h3,h4⟩:=o i ds p h1 h2
 exact I.ow i p es h3 h4⟩
theorem Iv.base {G0 H0 G H:Hp} {δ:DS} {σ:St} (I:Iv K ρ G0 H0 G H δ σ):Iv K ρ G H0 G H δ σ:=⟨I.rl,⟨.refl _,I.gr.h,I.gr.s,λ _ _ h=>h⟩,I.ow⟩
theorem Gr.rebase {G0 H0 G H G' H':Hp} (a:Gr G0 H0 G H) (b:Gr G H0 G' H'):Gr G0 H0 G' H':=⟨a.g.trans b.g,b.h,b.s,λ c h1 h2=>b.n c h1 (a.n c h1 h2)⟩
theorem Iv.rebase {G0 H0 G H G' H':Hp} {δ:DS} {σ:St} (a:Gr G0 H0 G H) (I:Iv K ρ G H0 G' H' δ σ):Iv K ρ G0 H0 G' H' δ σ:=⟨I.rl,a.rebase I.gr,I.ow⟩
noncomputable def aw:DS->Option cY:=λ δ=>some (.nx δ)
theorem wq:n9 K ρ DQ aw:=λ G0 H0 G σ H δ o D I e p=>by
 cases e
 exact p σ G H I
noncomputable def az (f g:DS->Option cY):DS->Option cY:=λ δ=>match f δ with
 | some (.nx δ')=>g δ'
 | o=>o
theorem mI {t u:TS} {f g:DS->Option cY} (h1:n9 K ρ t f) (h2:n9 K ρ u g):n9 K ρ (E9 t u) (az f g):=λ G0 H0 G σ H δ o D I e p=>by
 unfold az at e
 cases ef:f δ with
 | none=>rw [ef] at e;cases e
 | some o1=>
  rw [ef] at e
  refine h1 G0 H0 G σ H δ o1 _ I ef ?_
  cases o1 with
  | nx δ'=>exact λ σ' G' H' I'=>h2 G0 H0 G' σ' H' δ' o D I' e p
  | bk δ'=>cases e;exact p
  | ct δ'=>cases e;exact p
  | rt d=>cases e;exact p
noncomputable def bP (c:DS->Option Bool) (f g:DS->Option cY):DS->Option cY:=λ δ=>(c δ).bind λ b=>if b=true then f δ else g δ
theorem zw {tc:TT} {t u:TS} {c:DS->Option Bool} {f g:DS->Option cY} (hc:DT K ρ tc c) (h1:n9 K ρ t f) (h2:n9 K ρ u g):n9 K ρ (FP tc t u) (bP c f g):=λ G0 H0 G σ H δ o D I e p=>by
 obtain ⟨b,eb,e⟩:=oB e
 refine hc G σ H δ b _ I.rl eb λ G1 H1 g1=>?_
 cases b with
 | true=>exact h1 G0 H0 G1 σ H1 δ o D (I.grow g1) e p
 | false=>exact h2 G0 H0 G1 σ H1 δ o D (I.grow g1) e p
noncomputable def aT (f:DS->Option W):DS->Option cY:=λ δ=>(f δ).map .rt
theorem qu {t:TE} {f:DS->Option W} (h:DE K ρ t f):n9 K ρ (FJ t) (aT f):=λ G0 H0 G σ H δ o D I e p=>by
 obtain ⟨d,ed,rfl⟩:=oM e
 exact h G σ H δ d _ I.rl ed λ v G1 H1 g1 dv=>p v G1 H1 (I.gr.trans g1) dv
noncomputable def Gi:DS->Option cY:=λ _=>some (.rt .none)
noncomputable def jr:DS->Option cY:=λ δ=>some (.ct δ)
theorem so:n9 K ρ Dx jr:=λ G0 H0 G σ H δ o D I e p=>by
 cases e
 exact p σ G H I
noncomputable def aD (f:DS->Option W) (h:W->DS->Option DS):DS->Option cY:=λ δ=>(f δ).bind λ d=>(h d δ).map .nx
theorem Av {t:TE} {g:TG} {f:DS->Option W} {h:W->DS->Option DS} (h1:DE K ρ t f) (h2:DG K ρ g h):n9 K ρ (o0 t g) (aD f h):=λ G0 H0 G σ H δ o D I e p=>by
 obtain ⟨d,ed,e⟩:=oB e
 obtain ⟨δ',e2,rfl⟩:=oM e
 exact h1 G σ H δ d _ I.rl ed λ v G1 H1 g1 dv=>h2 G1 H1 δ σ v d δ' _ (I.rl.grow g1) dv e2 λ σ' R o=>p σ' G1 H1 ((I.grow g1).sub R o)
noncomputable def fH (i:Nat) (f:DS->Option (List W)):DS->Option cY:=λ δ=>(f δ).map λ ds=>.nx (δ.set i (.own ds))
theorem ue {i:Nat} {t:TE} {f:DS->Option (List W)} (h:DO K ρ t f):n9 K ρ (o0 t (lI i)) (fH i f):=λ G0 H0 G σ H δ o D I e p=>by
 obtain ⟨ds,ed,rfl⟩:=oM e
 refine h G σ H δ ds _ I.rl ed λ q vs G1 H1 g1 h0 g0 hh da=>?_
 have I1:=I.grow g1
 refine p _ G1 H1 ⟨I1.rl.setO g0 hh da λ j es hj h1 h2=>?_,I1.gr,λ j q' ds' h1 h2=>?_⟩
 . obtain ⟨o,k1,q1,vs1,k2,k3,k4,_⟩:=I.rl.sl j _ h1
   rw [h2] at k1
   cases k1
   cases k2
   rw [h0] at k4
   cases k4
 . rcases dM h1 with ⟨rfl,_,hl⟩ | ⟨ne,h1⟩
   . rw [jC (by rw [<-I.rl.len];exact hl)] at h2
     cases h2
     exact cD I.gr.h h0
   . rw [List.getElem?_set_ne ne] at h2
     exact I.ow j q' _ h1 h2
noncomputable def frz (i:Nat) (δ:DS):DS:=match δ[i]? with
 | some (.own ds)=>δ.set i (.val (.list ds))
 | _=>δ
noncomputable def iJ (i:Nat) (f:DS->Option cY):DS->Option cY:=λ δ=>f (frz i δ)
theorem Iv.frz {G0 H0 G H:Hp} {δ:DS} {σ:St} (i:Nat) (I:Iv K ρ G0 H0 G H δ σ):∃ G',Iv K ρ G0 H0 G' H (L2.frz i δ) σ:=by
 unfold L2.frz
 split
 . rename_i ds h
   obtain ⟨o,h1,p,vs,rfl,h3,h4,h5⟩:=I.rl.sl i _ h
   have h0:=I.ow i p ds h h1
   have g:bo G (cp G p (.lst vs)):=jJ h3 _
   have set1:σ=σ.set i (some (.ref p)):=by
    apply List.ext_getElem?
    intro j
    by_cases e:i=j
    . subst e
      rw [jC (oG h1).1,h1]
    . rw [List.getElem?_set_ne e]
   refine ⟨cp G p (.lst vs),⟨⟨p5 I.gr.s h4,by rw [List.length_set];exact I.rl.len,λ j s e=>?_,λ j k q ds' es' k1 k2 k3 k4=>?_⟩,I.gr.new h0 h3 h4,λ j q ds' k1 k2=>?_⟩⟩
   . rcases dM e with ⟨rfl,rfl,hl⟩ | ⟨ne,e⟩
     . exact ⟨_,h1,.ref p,rfl,.lst (cC.of aK) (h5.same g)⟩
     . obtain ⟨o,k1,k2⟩:=I.rl.sl j s e
       refine ⟨o,k1,?_⟩
       cases s with
       | no=>trivial
       | val d=>
        obtain ⟨v,e1,e2⟩:=k2
        exact ⟨v,e1,e2.same g⟩
       | own es=>
        obtain ⟨q,ws,rfl,e2,e3,e4⟩:=k2
        refine ⟨q,ws,rfl,?_,e3,e4.same g⟩
        rw [aJ]
        . exact e2
        . rintro rfl
          exact ne (I.rl.apart i j q ds es h e h1 k1)
   all_goals
    rcases dM k1 with ⟨_,z,_⟩ | ⟨ne,k1⟩
    . cases z
   . rcases dM k2 with ⟨_,z,_⟩ | ⟨ne2,k2⟩
     . cases z
     . exact I.rl.apart j k q ds' es' k1 k2 k3 k4
   . exact I.ow j q ds' k1 k2
 . exact ⟨G,I⟩
theorem tW {i:Nat} {t:TS} {f:DS->Option cY} (h:n9 K ρ t f):n9 K ρ t (iJ i f):=λ G0 H0 G σ H δ o D I e p=>by
 obtain ⟨G',I'⟩:=I.frz i
 exact h G0 H0 G' σ H _ o D I' e p
noncomputable def bh (h:W->DS->Option DS) (fb:DS->Option cY):List W->DS->Option cY
 | [],δ=>some (.nx δ)
 | d::ds,δ=>(h d δ).bind λ δ2=>match fb δ2 with
  | some (.nx δ')=>bh h fb ds δ'
  | some (.ct δ')=>bh h fb ds δ'
  | some (.bk δ')=>some (.nx δ')
  | some (.rt d)=>some (.rt d)
  | none=>none
noncomputable def gc (fi:DS->Option (List W)) (h:W->DS->Option DS) (fb:DS->Option cY):DS->Option cY:=λ δ=>(fi δ).bind λ ds=>bh h fb ds δ
theorem tj {wi:TI} {g:TG} {tb:TS} {fi:DS->Option (List W)} {h:W->DS->Option DS} {fb:DS->Option cY} (hi:DI K ρ wi fi) (hg:DG K ρ g h) (hb:n9 K ρ tb fb):n9 K ρ (AN wi g tb) (gc fi h fb):=λ G0 H0 G σ H δ o D I e p=>by
 obtain ⟨ds,ed,e⟩:=oB e
 refine hi G σ H δ ds _ I.rl ed λ J G1 H1 g1 it=>?_
 refine ⟨λ i m σ H=>m=ds.length-i/\i<=ds.length/\∃ G δ,Iv K ρ G0 H0 G H δ σ/\bo G1 G/\bh h fb (ds.drop i) δ=some o,⟨ds.length,by simp,Nat.zero_le _,G1,δ,I.grow g1,.refl _,by simpa using e⟩,?_⟩
 rintro i m σ2 H2 ⟨rfl,hil,G2,δ2,I2,s2,e2⟩
 have ia:=it i G2 H2 s2 I2.gr.s
 by_cases hlt:i<ds.length
 . refine .inr ?_
   obtain ⟨go,step⟩:=ia.1 ds[i] (List.getElem?_eq_getElem hlt)
   rw [List.drop_eq_getElem_cons hlt] at e2
   obtain ⟨δ3,e3,e4⟩:=oB e2
   have back:∀ {G3 H3:Hp},Gr G2 H2 G3 H3->∀ {G4 H4:Hp} {σ4:St} {δ4:DS},Iv K ρ G3 H0 G4 H4 δ4 σ4->Iv K ρ G0 H0 G4 H4 δ4 σ4/\bo G1 G4:=λ {G3 H3} g3 {G4 H4 σ4 δ4} I4=>⟨I4.rebase (I2.gr.trans g3),s2.trans (g3.g.trans I4.gr.g)⟩
   have again:∀ (δ':DS),bh h fb (ds.drop (i+1)) δ'=some o->(fb δ3=some (.nx δ')∨fb δ3=some (.ct δ'))->∃ N:St->Hp->Prop,(∀ σ' H',N σ' H'->∃ m',m'<ds.length-i/\m'=ds.length-(i+1)/\i+1<=ds.length/\∃ G δ,Iv K ρ G0 H0 G H' δ σ'/\bo G1 G/\bh h fb (ds.drop (i+1)) δ=some o)/\∀ x H',J.yld i H2 x H'->g x σ2 H' λ σ2 H2=>tb { D with nx:=N,ct:=N,bk:=D.nx } σ2 H2:=λ δ' ed' ef=>by
    refine ⟨λ σ' H'=>∃ G',Iv K ρ G0 H0 G' H' δ' σ'/\bo G1 G',λ σ' H' hy0=>by obtain ⟨G',I',s'⟩:=hy0;exact ⟨ds.length-(i+1),by omega,rfl,hlt,G',δ',I',s',ed'⟩,λ x H' y=>?_⟩
    obtain ⟨G3,g3,dx⟩:=step x H' y
    have I3:=I2.grow g3
    refine hg G3 H' δ2 σ2 x _ δ3 _ I3.rl dx e3 λ σ3 R3 o3=>?_
    have I4:=(I3.sub R3 o3).base
    rcases ef with ef | ef
    . exact hb G3 H0 G3 σ3 H' δ3 _ _ I4 ef λ σ5 G5 H5 I5=>⟨G5,back g3 I5⟩
    . exact hb G3 H0 G3 σ3 H' δ3 _ _ I4 ef λ σ5 G5 H5 I5=>⟨G5,back g3 I5⟩
   cases ef:fb δ3 with
   | none=>rw [ef] at e4;cases e4
   | some o1=>
    rw [ef] at e4
    cases o1 with
    | nx δ'=>
     obtain ⟨N,n1,n2⟩:=again δ' e4 (.inl ef)
     exact ⟨go,N,n1,n2⟩
    | ct δ'=>
     obtain ⟨N,n1,n2⟩:=again δ' e4 (.inr ef)
     exact ⟨go,N,n1,n2⟩
    | bk δ'=>
     cases e4
     refine ⟨go,λ _ _=>False,λ _ _ z=>z.elim,λ x H' y=>?_⟩
     obtain ⟨G3,g3,dx⟩:=step x H' y
     have I3:=I2.grow g3
     refine hg G3 H' δ2 σ2 x _ δ3 _ I3.rl dx e3 λ σ3 R3 o3=>?_
     exact hb G3 H0 G3 σ3 H' δ3 _ _ (I3.sub R3 o3).base ef λ σ5 G5 H5 I5=>p σ5 G5 H5 (back g3 I5).1
    | rt d=>
     cases e4
     refine ⟨go,λ _ _=>False,λ _ _ z=>z.elim,λ x H' y=>?_⟩
     obtain ⟨G3,g3,dx⟩:=step x H' y
     have I3:=I2.grow g3
     refine hg G3 H' δ2 σ2 x _ δ3 _ I3.rl dx e3 λ σ3 R3 o3=>?_
     exact hb G3 H0 G3 σ3 H' δ3 _ _ (I3.sub R3 o3).base ef λ v G5 H5 g5 dv=>p v G5 H5 ((I2.gr.trans g3).rebase g5) dv
 . have hi':i=ds.length:=by omega
   subst hi'
   rw [List.drop_length] at e2
   cases e2
   exact .inl ⟨ia.2 (Nat.le_refl _),p σ2 G2 H2 I2⟩
noncomputable def jq (i:Nat) (δ:DS):Option (List W):=match δ[i]? with
 | some (.own ds)=>some ds
 | _=>none
theorem mP {i:Nat} {δ:DS} {ds:List W} (h:jq i δ=some ds):δ[i]?=some (.own ds):=by
 unfold jq at h
 split at h
 . rename_i e;cases h;exact e
 . cases h
theorem Iv.put {G0 H0 G H:Hp} {δ:DS} {σ:St} {i:Nat} {ds es:List W} {p:Addr} {vs:List V} (I:Iv K ρ G0 H0 G H δ σ) (h:δ[i]?=some (.own ds)) (hp:σ[i]?=some (some (.ref p))) (g0:G p=none) (da:aB K ρ G vs es):Iv K ρ G0 H0 G (cp H p (.lst vs)) (δ.set i (.own es)) σ:=by
 have h0:=I.ow i p ds h hp
 have sG:bo G (cp H p (.lst vs)):=λ b o e=>by
  rw [aJ (λ z=>by rw [z,g0] at e;cases e)]
  exact I.gr.s _ _ e
 refine ⟨⟨sG,by rw [List.length_set];exact I.rl.len,λ j s e=>?_,λ j k q ds' es' k1 k2 k3 k4=>?_⟩,⟨I.gr.g,λ b o e=>?_,sG,I.gr.n⟩,λ j q ds' k1 k2=>?_⟩
 . rcases dM e with ⟨rfl,rfl,hl⟩ | ⟨ne,e⟩
   . exact ⟨_,hp,p,vs,rfl,g0,aK,da⟩
   . obtain ⟨o,k1,k2⟩:=I.rl.sl j s e
     refine ⟨o,k1,?_⟩
     cases s with
     | no=>trivial
     | val d=>exact k2
     | own es2=>
      obtain ⟨q,ws,rfl,e2,e3,e4⟩:=k2
      refine ⟨q,ws,rfl,e2,?_,e4⟩
      rw [aJ]
      . exact e3
      . rintro rfl
        exact ne (I.rl.apart i j q ds es2 h e hp k1)
 . rcases dM k1 with ⟨rfl,_,_⟩ | ⟨ne,k1⟩ <;> rcases dM k2 with ⟨rfl,_,_⟩ | ⟨ne2,k2⟩
   . rfl
   . exact I.rl.apart _ _ q _ _ h k2 k3 k4
   . exact I.rl.apart _ _ q _ _ k1 h k3 k4
   . exact I.rl.apart _ _ q _ _ k1 k2 k3 k4
 . rw [aJ (λ z=>by rw [z,h0] at e;cases e)]
   exact I.gr.h _ _ e
 . rcases dM k1 with ⟨rfl,_,_⟩ | ⟨ne,k1⟩
   . exact I.ow _ q _ h k2
   . exact I.ow j q _ k1 k2
noncomputable def b7 (i:Nat) (f:DS->Option W):DS->Option cY:=λ δ=>(jq i δ).bind λ ds=>(f δ).bind λ d=>if ds.length<sizeLine then some (.nx (δ.set i (.own (ds++[d])))) else none
theorem oN {i:Nat} {t:TE} {f:DS->Option W} (h:DE K ρ t f):n9 K ρ (rK (GP K "list" lZ (xh i) (gX t lM))) (b7 i f):=λ G0 H0 G σ H δ o D I e p=>by
 obtain ⟨ds,eo,e⟩:=oB e
 obtain ⟨d,ed,e⟩:=oB e
 split at e
 case isFalse=>cases e
 rename_i hz
 cases e
 have ho:=mP eo
 obtain ⟨o,h1,q,vs,rfl,h3,h4,h5⟩:=I.rl.sl i _ ho
 refine ⟨.ref q,h1,.inl ⟨rfl,vs,cC.of h4⟩,h G σ H δ d _ I.rl ed λ v G1 H1 g1 dv=>⟨q,vs,v,rfl,rfl,g1.h _ _ h4,by rw [h5.length];exact hz,?_⟩⟩
 have I1:=I.grow g1
 exact p σ G1 _ (I1.put ho h1 (g1.n q (by rw [h4];simp) h3) ((h5.same g1.g).app (.cons dv .nil)))
noncomputable def pH (i:Nat) (fi fv:DS->Option W):DS->Option cY:=λ δ=>(fv δ).bind λ d=>(jq i δ).bind λ ds=>(fi δ).bind λ x=>match x with
 | .int k=>(sQ ds.length k).map λ j=>.nx (δ.set i (.own (ds.set j d)))
 | _=>none
end
section
variable {K:Frag} {ρ:List Addr}
noncomputable def jx (K:Frag) (f:List W->Option W):Sp:=λ vs H Q _=>∃ ρ G ds d,bo G H/\aB K ρ G vs ds/\f ds=some d/\∀ v G' H',Gr G H G' H'->Dw K ρ G' v d->Q v H'
noncomputable def aU (f:List W->Option W) (fa:DS->Option (List W)):DS->Option W:=λ δ=>(fa δ).bind f
theorem vM {f:List W->Option W} {t:TA} {fa:DS->Option (List W)} {E:XK} (h:DA K ρ t fa):DE K ρ (p4 (jx K f) [] E t) (aU f fa):=λ G σ H δ d Q R e q=>by
 obtain ⟨ds,ed,e⟩:=oB e
 exact h G σ H δ ds _ R ed λ vs G1 H1 g1 da=>by
  refine ⟨ρ,G1,ds,d,g1.s,?_,e,λ v G2 H2 g2 dv=>q v G2 H2 (g1.trans g2) dv⟩
  rw [List.append_nil]
  exact da
noncomputable def bB (n:Nat) (ds:List W):DS:=ds.map .val++List.replicate (n-ds.length) .no
noncomputable def C9:Option cY->Option W
 | some (.rt d)=>some d
 | some (.nx _)=>some .none
 | _=>none
noncomputable def bV (a n:Nat) (fb:DS->Option cY):List W->Option W:=λ ds=>if ds.length=a then C9 (fb (bB n ds)) else none
theorem oR {a n:Nat} {fb:DS->Option cY} {ds:List W} {d:W} (h:bV a n fb ds=some d):ds.length=a:=by
 unfold bV at h
 split at h
 . assumption
 . cases h
theorem Bt {f:List W->Option W} {a:Nat} {vs:List V} {H:Hp} {Q:VK} {E:XK} (hf:∀ ds d,f ds=some d->ds.length=a) (h:jx K f vs H Q E):vs.length=a:=by
 obtain ⟨ρ,G,ds,d,s,da,e,q⟩:=h
 rw [da.length]
 exact hf ds d e
theorem gG {n:Nat} {ds:List W} {i:Nat} {es:List W}:(bB n ds)[i]?≠some (.own es):=by
 unfold bB
 intro h
 rcases Nat.lt_or_ge i (ds.map Sl.val).length with hl | hl
 . rw [List.getElem?_append_left hl,List.getElem?_map] at h
   obtain ⟨d,_,e⟩:=oM h
   cases e
 . rw [List.getElem?_append_right hl,List.getElem?_replicate] at h
   split at h <;> cases h
theorem re {G H:Hp} {N:List Str} {vs:List V} {ds:List W} (s:bo G H) (h:aB K ρ G vs ds):Rl K ρ G H (bB N.length ds) (start N vs):=by
 refine ⟨s,by simp [bB,start,h.length],λ i sl e=>?_,λ i j p ds' es' h1=>absurd h1 gG⟩
 unfold bB at e
 unfold start
 rcases Nat.lt_or_ge i ds.length with hl | hl
 . rw [List.getElem?_append_left (by simpa using hl),List.getElem?_map] at e
   obtain ⟨d,e1,rfl⟩:=oM e
   obtain ⟨v,h1,h2⟩:=h.get e1
   refine ⟨some v,?_,v,rfl,h2⟩
   rw [List.getElem?_append_left (by simp [h.length];exact hl),List.getElem?_map,h1]
   rfl
 . rw [List.getElem?_append_right (by simpa using hl),List.getElem?_replicate] at e
   split at e
   . cases e
     rename_i hlt
     refine ⟨none,?_,trivial⟩
     rw [List.getElem?_append_right (by simp [h.length];exact hl),List.getElem?_replicate,if_pos]
     simp only [List.length_map] at hlt ⊢
     rw [h.length]
     exact hlt
   . cases e
theorem KM {t:TS} {fb:DS->Option cY} {N:List Str} {a n:Nat} {vs:List V} {H:Hp} {Q:VK} {E:XK} (hn:N.length=n) (h:∀ ρ,n9 K ρ t fb) (hsp:jx K (bV a n fb) vs H Q E):t { nx:=λ _ H'=>Q .non H',rt:=Q } (start N vs) H:=by
 subst hn
 obtain ⟨ρ,G,ds,d,s,da,e,q⟩:=hsp
 have R:=re (N:=N) s da
 have I:Iv K ρ G H G H (bB N.length ds) (start N vs):=⟨R,.refl s,λ i p ds' h1=>absurd h1 gG⟩
 unfold bV at e
 rw [if_pos (oR (show bV a N.length fb ds=some d from e))] at e
 cases ef:fb (bB N.length ds) with
 | none=>rw [ef] at e;cases e
 | some o=>
  rw [ef] at e
  refine h ρ G H G _ H _ o _ I ef ?_
  cases o with
  | nx δ=>cases e;exact λ σ' G' H' I'=>q _ G' H' I'.gr .non
  | rt d'=>cases e;exact λ v G' H' g dv=>q v G' H' g dv
  | bk _=>cases e
  | ct _=>cases e
end
noncomputable def Dr (K:Frag):R2:=λ x y H Q=>∃ l b xs zs,x=.ref l/\y=.ref b/\cC K H l xs/\cC K H b zs/\xs.length+zs.length<=sizeLine/\∀ p H',Nw H H' p (.lst (xs++zs))->Q (.ref p) H'
theorem Bf {X:Cx}:fJ X (binaryOp .Add) (Dr X.K):=by
 intro pins s σ H x y v u Q I rx ry h
 obtain ⟨l,b,xs,zs,rfl,rfl,hH,hB,hz,q⟩:=h
 cases rx
 cases ry
 obtain ⟨its,r,hl,_⟩:=I.list hH
 obtain ⟨its2,r2,hb,_⟩:=I.list hB
 obtain ⟨⟨cls,dd,data,sl⟩,n,ho,hc,hdd,hd⟩:=hl
 obtain ⟨⟨cls2,dd2,data2,sl2⟩,n2,ho2,hc2,hdd2,hd2⟩:=hb
 simp only at hc hd hc2 hd2
 subst hc hd hc2 hd2
 have e:its.toArray++its2.toArray=(its++its2).toArray:=by simp
 refine concat_meets ⟨_,ho,rfl⟩ ⟨_,ho2,rfl⟩ noFill_list_add seq_list_add PySem.F.slot_list_add PySem.F.entry_list_add (PySem.F.args_list_add_2 _ _) (list_addW l b its.toArray its2.toArray n n2 dd dd2 sl sl2 (by rw [List.size_toArray,List.size_toArray,<-r.length,<-r2.length];exact hz)) ⟨ho,ho2,?_⟩
 rw [e]
 exact ⟨.ref _,_,I.lnew (t':=s.toks) (r.append r2) (by rw [List.length_append];omega),rfl,q _ _ (.of I.fresh)⟩
noncomputable def Bb:R2:=λ x y H Q=>∃ i j,x=.str i/\y=.str j/\i.length+j.length<=sizeLine/\Q (.str (i++j)) H
noncomputable def rG (K:Frag):R2:=λ x y H Q=>xN (λ i j=>.int (i+j)) x y H Q∨Bb x y H Q∨Dr K x y H Q∨Dh K x y H Q
theorem B2 {X:Cx} {K:Frag} (h:X.K=K):fJ X (binaryOp .Add) (rG K):=h▸Fe.or (tE.or (Bf.or CG))
section
variable {K:Frag} {ρ:List Addr}
noncomputable def bQ:W->W->Option W
 | .int i,.int j=>some (.int (i+j))
 | .str i,.str j=>if i.length+j.length<=sizeLine then some (.str (i++j)) else none
 | .list a,.list b=>if a.length+b.length<=sizeLine then some (.list (a++b)) else none
 | .tuple a,.tuple b=>if a≠[]/\a.length+b.length<=sizeLine then some (.tuple (a++b)) else none
 | _,_=>none
theorem ux {G H:Hp} {v:V} {i:Int} (h:Pk K ρ G H v (.int i)):v=.int i:=by
 rcases h with h | ⟨_,_,_,_,e,_⟩
 . exact d8 h
 . cases e
theorem qL {G H:Hp} {v:V} {i:Str} (h:Pk K ρ G H v (.str i)):v=.str i:=by
 rcases h with h | ⟨_,_,_,_,e,_⟩
 . exact uz h
 . cases e
theorem iK {G H:Hp} {v:V} {ds:List W} (s:bo G H) (h:Pk K ρ G H v (.list ds)):∃ p vs,v=.ref p/\cC K H p vs/\aB K ρ G vs ds:=by
 rcases h with h | ⟨p,vs,es,rfl,e,h1,h2⟩
 . cases h with
   | lst sq da=>exact ⟨_,_,rfl,s.seq sq,da⟩
 . cases e
   exact ⟨p,vs,rfl,cC.of h1,h2⟩
theorem qg {G:Hp} {v:V} {ds:List W} (h:Dw K ρ G v (.list ds)):∃ p vs,v=.ref p/\cC K G p vs/\aB K ρ G vs ds:=by
 cases h with
 | lst sq da=>exact ⟨_,_,rfl,sq,da⟩
theorem pM {G:Hp} {v:V} {ds:List W} (h:Dw K ρ G v (.tuple ds)):∃ p vs,v=.ref p/\G p=some (.tup vs)/\aB K ρ G vs ds:=by
 cases h with
 | tup sq da=>exact ⟨_,_,rfl,sq,da⟩
theorem mN {G H:Hp} {v:V} {ds:List W} (h:Pk K ρ G H v (.tuple ds)):∃ p vs,v=.ref p/\G p=some (.tup vs)/\aB K ρ G vs ds:=by
 rcases h with h | ⟨_,_,_,_,e,_⟩
 . exact pM h
 . cases e
theorem zS:DR K ρ (rG K) bQ:=λ G H x y d e c Q s hx hy hg q=>by
 cases d with
 | int i=>
  cases e with
  | int j=>
   cases hg
   cases ux hx
   cases d8 hy
   exact .inl ⟨_,_,rfl,rfl,q _ G H (.refl s) (.int _)⟩
  | _=>cases hg
 | str a=>
  cases e with
  | str b=>
   by_cases hz:a.length+b.length<=sizeLine
   . cases (if_pos hz).symm.trans hg
     cases qL hx
     cases uz hy
     exact .inr (.inl ⟨_,_,rfl,rfl,hz,q _ G H (.refl s) (.str _)⟩)
   . cases (if_neg hz).symm.trans hg
  | _=>cases hg
 | list a=>
  cases e with
  | list b=>
   by_cases hz:a.length+b.length<=sizeLine
   . cases (if_pos hz).symm.trans hg
     obtain ⟨p,vs,rfl,sq,da⟩:=iK s hx
     obtain ⟨p2,vs2,rfl,sq2,da2⟩:=qg hy
     refine .inr (.inr (.inl ⟨p,p2,vs,vs2,rfl,rfl,sq,s.seq sq2,by rw [da.length,da2.length];exact hz,λ l H' n=>?_⟩))
     have g:=Gr.nw s n
     exact q _ _ H' g (.lst (cC.of aK) ((da.same g.g).app (da2.same g.g)))
   . cases (if_neg hz).symm.trans hg
  | _=>cases hg
 | tuple a=>
  cases e with
  | tuple b=>
   by_cases hz:a≠[]/\a.length+b.length<=sizeLine
   . cases (if_pos hz).symm.trans hg
     obtain ⟨p,vs,rfl,sq,da⟩:=mN hx
     obtain ⟨p2,vs2,rfl,sq2,da2⟩:=pM hy
     refine .inr (.inr (.inr ⟨p,p2,vs,vs2,rfl,rfl,s.tup (eK.of sq),s.tup (eK.of sq2),?_,by rw [da.length,da2.length];exact hz.2,λ e=>?_,λ e l hl=>?_⟩))
     . rintro rfl
       cases da
       exact hz.1 rfl
     . subst e
       cases da2
       rw [List.append_nil] at q
       exact q _ G H (.refl s) (.tup sq da)
     . have g:=Gr.nw s (Nw.of (o:=.tup (vs++vs2)) hl)
       exact q _ _ _ g (.tup aK ((da.same g.g).app (da2.same g.g)))
   . cases (if_neg hz).symm.trans hg
  | _=>cases hg
 | _=>cases hg
noncomputable def CN:W->W->Option (List W)
 | .list a,.list b=>if a.length+b.length<=sizeLine then some (a++b) else none
 | _,_=>none
noncomputable def lw (fa fb:DS->Option W):DS->Option (List W):=λ δ=>(fa δ).bind λ x=>(fb δ).bind λ y=>CN x y
theorem Fh {ta tb:TE} {fa fb:DS->Option W} (ha:DK K ρ ta fa) (hb:DK K ρ tb fb):DO K ρ (qR (rG K) ta tb) (lw fa fb):=λ G σ H δ ds Q R e q=>by
 obtain ⟨x,ex,e⟩:=oB e
 obtain ⟨y,ey,e⟩:=oB e
 refine ha G σ H δ x _ R ex λ v G1 H1 g1 dv=>hb G1 σ H1 δ y _ (R.grow g1) ey λ u G2 H2 g2 du=>?_
 unfold CN at e
 split at e
 . split at e
   . rename_i hz
     cases e
     obtain ⟨p,vs,rfl,sq,da⟩:=iK g2.s (dv.grow g2)
     obtain ⟨p2,vs2,rfl,sq2,da2⟩:=iK g2.s du
     refine .inr (.inr (.inl ⟨p,p2,vs,vs2,rfl,rfl,sq,sq2,by rw [da.length,da2.length];exact hz,λ l H' n=>?_⟩))
     have g12:=g1.trans g2
     exact q l _ G2 H' (g12.trans (.nwO g2.s n)) (cD g12.h n.2.1) (cD g2.s n.2.1) n.2.2 (da.app da2)
   . cases e
 . cases e
noncomputable def gI (f:Int->Int->Int):W->W->Option W
 | .int i,.int j=>some (.int (f i j))
 | _,_=>none
noncomputable def AW (C:Int->Int->Bool) (f:Int->Int->Int):W->W->Option W
 | .int i,.int j=>if C i j=true then some (.int (f i j)) else none
 | _,_=>none
theorem GX {f:Int->Int->Int}:DR K ρ (xN λ i j=>.int (f i j)) (gI f):=λ G H x y d e c Q s hx hy hg q=>by
 unfold gI at hg
 split at hg
 . cases hg
   cases ux hx
   cases d8 hy
   exact ⟨_,_,rfl,rfl,q _ G H (.refl s) (.int _)⟩
 . cases hg
theorem vy {C:Int->Int->Prop} {Cb:Int->Int->Bool} {f:Int->Int->Int} (hC:∀ i j,Cb i j=true->C i j):DR K ρ (rI C λ i j=>.int (f i j)) (AW Cb f):=λ G H x y d e c Q s hx hy hg q=>by
 unfold AW at hg
 split at hg
 . split at hg
   . rename_i hc
     cases hg
     cases ux hx
     cases d8 hy
     exact ⟨_,_,rfl,rfl,hC _ _ hc,q _ G H (.refl s) (.int _)⟩
   . cases hg
 . cases hg
noncomputable def gSub':W->W->Option W:=gI λ i j=>i-j
theorem E3:DR K ρ (xN λ i j=>.int (i-j)) gSub':=GX
theorem uR:2^200<2^512:=Nat.pow_lt_pow_right (by decide) (by decide)
noncomputable def kr (i j:Int):Bool:=decide (i.natAbs<2^64)||decide (j.natAbs<2^64)||(decide (i.natAbs<2^200)&&decide (j.natAbs<2^200))
noncomputable def Dl (i j:Int):Prop:=AS i j∨De i j
theorem Kk {X:Cx}:fJ X (binaryOp .Mult) (rI Dl λ i j=>.int (i*j)):=λ pins s σ H x y v u Q I rx ry h=>by
 obtain ⟨i,j,e1,e2,hc,q⟩:=h
 rcases hc with hc | hc
 . exact F3 pins s σ H x y v u Q I rx ry ⟨i,j,e1,e2,hc,q⟩
 . exact Bc pins s σ H x y v u Q I rx ry ⟨i,j,e1,e2,hc,q⟩
noncomputable def rN (i j:Int):Bool:=decide (j≠0)&&decide (j.natAbs<2^200)
noncomputable def jT (i j:Int):Bool:=decide (j≠0)
noncomputable def kf:W->W->Option W:=AW kr λ i j=>i*j
noncomputable def cj:W->W->Option W:=AW rN λ i j=>i.fdiv j
noncomputable def bE:W->W->Option W:=AW jT λ i j=>i.fmod j
theorem EU:DR K ρ (rI Dl λ i j=>.int (i*j)) kf:=vy λ i j h=>by
 simp only [kr,Bool.and_eq_true,Bool.or_eq_true,decide_eq_true_eq] at h
 rcases h with (h | h) | h
 . exact .inl (.inl ⟨by omega,by omega⟩)
 . exact .inl (.inr ⟨by omega,by omega⟩)
 . exact .inr ⟨Nat.lt_trans h.1 uR,Nat.lt_trans h.2 uR⟩
theorem Fl:DR K ρ (rI DX λ i j=>.int (i.fdiv j)) cj:=vy λ i j h=>by
 simp only [rN,Bool.and_eq_true,decide_eq_true_eq] at h
 exact ⟨h.1,Nat.lt_trans h.2 uR⟩
theorem Gk:DR K ρ (rI (λ _ j=>j≠0) λ i j=>.int (i.fmod j)) bE:=vy λ i j h=>by simpa [jT] using h
noncomputable def lU:W->Option W
 | .int i=>some (.int (-i))
 | _=>none
noncomputable def AG (g:W->Option W) (f:DS->Option W):DS->Option W:=λ δ=>(f δ).bind g
theorem F8 {t:TE} {f:DS->Option W} (h:DE K ρ t f):DE K ρ (LF (rU λ i=>.int (-i)) t) (AG lU f):=λ G σ H δ d Q R e q=>by
 obtain ⟨x,ex,e⟩:=oB e
 refine h G σ H δ x _ R ex λ v G1 H1 g1 dv=>?_
 unfold lU at e
 split at e
 . cases e
   cases d8 dv
   exact ⟨_,rfl,q _ G1 H1 g1 (.int _)⟩
 . cases e
noncomputable def cI (p:Int->Int->Bool):W->W->Option Bool
 | .int i,.int j=>some (p i j)
 | _,_=>none
theorem Hq {p:Int->Int->Bool}:DB K ρ (xN λ i j=>.bl (p i j)) (cI p):=λ H x y d e b Q hx hy hg q=>by
 unfold cI at hg
 split at hg
 . cases hg
   cases d8 hx
   cases d8 hy
   exact ⟨_,_,rfl,rfl,q⟩
 . cases hg
noncomputable def rF:W->W->Option Bool:=cI λ i j=>decide (i<j)
noncomputable def MA:W->W->Option Bool:=cI λ i j=>decide (i<=j)
noncomputable def MO:W->W->Option Bool:=cI λ i j=>decide (j<i)
noncomputable def Kc:W->W->Option Bool:=cI λ i j=>decide (j<=i)
theorem Hb:DB K ρ (xN λ i j=>.bl (decide (i<j))) rF:=Hq
theorem Jj:DB K ρ (xN λ i j=>.bl (decide (j<=i))) Kc:=Hq
noncomputable def GR:W->Bool
 | .none=>true
 | _=>false
noncomputable def ox:W->W->Option Bool
 | d,.none=>some (GR d)
 | _,_=>none
theorem wu {H:Hp} {x:V} {d:W} (h:Dw K ρ H x d):decide (x=.non)=GR d:=by
 cases h <;> simp [GR]
theorem FC:DB K ρ (λ x y H Q=>y=.non/\Q (.bl (decide (x=.non))) H) ox:=λ H x y d e b Q hx hy hg q=>by
 unfold ox at hg
 split at hg
 . cases hg
   cases tH hy
   exact ⟨rfl,by rw [wu hx];exact q⟩
 . cases hg
noncomputable def eZ:W->W->Option Bool
 | d,.none=>some (!(GR d))
 | _,_=>none
theorem Cu:DB K ρ (λ x y H Q=>y=.non/\Q (.bl (!decide (x=.non))) H) eZ:=λ H x y d e b Q hx hy hg q=>by
 unfold eZ at hg
 split at hg
 . cases hg
   cases tH hy
   exact ⟨rfl,by rw [wu hx];exact q⟩
 . cases hg
noncomputable def M3:W->Option Bool
 | .none=>some true
 | .int _=>some false
 | .bool _=>some false
 | .str _=>some false
 | _=>none
noncomputable def MB (i:Int):W->Option Bool
 | .none=>some false
 | .int j=>some (decide (i=j))
 | .str _=>some false
 | _=>none
noncomputable def ME (i:Bool):W->Option Bool
 | .none=>some false
 | .bool j=>some (decide (i=j))
 | .str _=>some false
 | _=>none
noncomputable def M8 (i:Str):W->Option Bool
 | .none=>some false
 | .int _=>some false
 | .bool _=>some false
 | .str j=>some (decide (i=j))
 | _=>none
noncomputable def HG:W->W->Option Bool
 | .none,e=>M3 e
 | .int i,e=>MB i e
 | .bool i,e=>ME i e
 | .str i,e=>M8 i e
 | _,_=>none
theorem tZ {H:Hp} {x y:V} {d e:W} {b:Bool} (hx:Dw K ρ H x d) (hy:Dw K ρ H y e) (h:HG d e=some b):Gw x y=true/\decide (x=y)=b:=by
 cases hx with
 | non=>cases hy <;> first | (cases h;exact ⟨rfl,by simp⟩) | cases h
 | int i=>cases hy <;> first | (cases h;exact ⟨rfl,by simp⟩) | cases h
 | bl i=>cases hy <;> first | (cases h;exact ⟨rfl,by simp⟩) | cases h
 | str i=>cases hy <;> first | (cases h;exact ⟨rfl,by simp⟩) | cases h
 | _=>cases h
noncomputable def b8 (d e:W):Option Bool:=match HG d e with
 | some b=>some b
 | none=>d.py.bind λ a=>e.py.bind λ b=>if (a.canLay0&&b.canLay0&&decide (a.depth<=64))=true then some (PyData.eqv a b) else none
noncomputable def Fs (K:Frag):R2:=λ x y H Q=>Mf x y H Q∨BX K false x y H Q
noncomputable def Gu (K:Frag):R2:=λ x y H Q=>LW x y H Q∨BX K true x y H Q
theorem Lu {X:Cx} {K:Frag} (h:X.K=K) (hu:X.A.units+64<cLine):fJ X (compareOp .Eq) (Fs K):=h▸HR.or (Ge hu)
theorem Kt {X:Cx} {K:Frag} (h:X.K=K) (hu:X.A.units+64<cLine):fJ X (compareOp .NotEq) (Gu K):=h▸HL.or (Fd hu)
theorem Hv:DB K ρ (Fs K) b8:=λ H x y d e b Q hx hy hg q=>by
 unfold b8 at hg
 split at hg
 . rename_i b' hb
   cases hg
   obtain ⟨h1,h2⟩:=tZ hx hy hb
   exact .inl ⟨h1,by rw [h2];exact q⟩
 . obtain ⟨a,ea,hg⟩:=oB hg
   obtain ⟨b,eb,hg⟩:=oB hg
   split at hg
   . rename_i hc
     cases hg
     simp only [Bool.and_eq_true,decide_eq_true_eq] at hc
     exact .inr ⟨a,b,hx.dp ea,hy.dp eb,hc.1.1,hc.1.2,hc.2,q⟩
   . cases hg
noncomputable def qP (d e:W):Option Bool:=(b8 d e).map (!·)
theorem D8:DB K ρ (Gu K) qP:=λ H x y d e b Q hx hy hg q=>by
 obtain ⟨c,hg',rfl⟩:=oM hg
 unfold b8 at hg'
 split at hg'
 . rename_i b' hb
   cases hg'
   obtain ⟨h1,h2⟩:=tZ hx hy hb
   exact .inl ⟨h1,by rw [h2];exact q⟩
 . obtain ⟨a,ea,hg'⟩:=oB hg'
   obtain ⟨b,eb,hg'⟩:=oB hg'
   split at hg'
   . rename_i hc
     cases hg'
     simp only [Bool.and_eq_true,decide_eq_true_eq] at hc
     exact .inr ⟨a,b,hx.dp ea,hy.dp eb,hc.1.1,hc.1.2,hc.2,q⟩
   . cases hg'
noncomputable def aP:W->W->Option W
 | .list ds,.int i=>fK ds i
 | .tuple ds,.int i=>fK ds i
 | .str z,.int i=>if z.length<=sizeLine then (fK z.cps.toList i).map λ c=>.str ⟨#[c]⟩ else none
 | _,_=>none
theorem aB.at {G:Hp} {vs:List V} {ds:List W} {i:Int} {d:W} (h:aB K ρ G vs ds) (e:fK ds i=some d):∃ v,fK vs i=some v/\Dw K ρ G v d:=by
 unfold fK at e ⊢
 rw [h.length]
 obtain ⟨j,h1,h2⟩:=oB e
 obtain ⟨v,h3,h4⟩:=h.get h2
 exact ⟨v,Option.bind_eq_some_iff.mpr ⟨j,h1,h3⟩,h4⟩
theorem uX:DR K ρ (JU K) aP:=λ G H x y d e c Q s hx hy hg q=>by
 cases e with
 | int i=>
  cases d8 hy
  cases d with
  | list ds=>
   obtain ⟨p,vs,rfl,sq,da⟩:=iK s hx
   obtain ⟨v,h1,h2⟩:=da.at hg
   exact .inl ⟨p,vs,_,v,rfl,rfl,sq,h1,q v G H (.refl s) h2⟩
  | tuple ds=>
   obtain ⟨p,vs,rfl,sq,da⟩:=mN hx
   obtain ⟨v,h1,h2⟩:=da.at hg
   exact .inr (.inl ⟨p,vs,_,v,rfl,rfl,s.tup (eK.of sq),h1,q v G H (.refl s) h2⟩)
  | str z=>
   by_cases hz:z.length<=sizeLine
   . obtain ⟨c',h1,rfl⟩:=oM ((if_pos hz).symm.trans hg)
     cases qL hx
     exact .inr (.inr ⟨_,_,c',rfl,rfl,hz,h1,q _ G H (.refl s) (.str _)⟩)
   . cases (if_neg hz).symm.trans hg
  | _=>cases hg
 | _=>cases d <;> cases hg
noncomputable def ic (xs:List W) (lo hi:Option Int):List W:=(xs.drop (HT.sIx xs.length 0 lo)).take (HT.sIx xs.length xs.length hi-HT.sIx xs.length 0 lo)
theorem aB.cut {G:Hp} {vs:List V} {ds:List W} (h:aB K ρ G vs ds) (lo hi:Option Int):aB K ρ G (oh vs lo hi) (ic ds lo hi):=by
 unfold oh ic
 rw [h.length]
 exact (h.drop _).take _
noncomputable def CC (K:Frag) (ρ:List Addr) (t:TO) (f:DS->Option (Option Int)):Prop:=
 ∀ (G:Hp) (σ:St) (H:Hp) (δ:DS) (x:Option Int) (Q:Option Int->Hp->Prop),Rl K ρ G H δ σ->f δ=some x->(∀ G' H',Gr G H G' H'->Q x H')->t σ H Q
noncomputable def cQ:DS->Option (Option Int):=λ _=>some none
noncomputable def GL:W->Option Int
 | .int i=>some i
 | _=>none
theorem qi {d:W} {i:Int} (h:GL d=some i):d=.int i:=by
 cases d <;> first | (cases h;rfl) | cases h
noncomputable def dD (f:DS->Option W):DS->Option (Option Int):=λ δ=>(f δ).bind λ d=>(GL d).map some
theorem su:CC K ρ vj cQ:=λ G σ H δ x Q R e q=>by
 cases e
 exact q G H (.refl R.sub)
theorem qW {t:TE} {f:DS->Option W} (h:DE K ρ t f):CC K ρ (CW t) (dD f):=λ G σ H δ x Q R e q=>by
 obtain ⟨d,ed,e⟩:=oB e
 obtain ⟨i,ei,rfl⟩:=oM e
 cases qi ei
 exact h G σ H δ _ _ R ed λ v G1 H1 g1 dv=>by
  cases d8 dv
  exact ⟨i,rfl,q G1 H1 g1⟩
noncomputable def hJ:W->Option (List W)
 | .list ds=>some ds
 | _=>none
theorem gx {d:W} {ds:List W} (h:hJ d=some ds):d=.list ds:=by
 cases d <;> first | (cases h;rfl) | cases h
noncomputable def BM (f:DS->Option W) (lo hi:DS->Option (Option Int)):DS->Option (List W):=λ δ=>(f δ).bind λ d=>(hJ d).bind λ ds=>(lo δ).bind λ l=>(hi δ).map λ u=>ic ds l u
theorem Eo {t:TE} {tl th:TO} {f:DS->Option W} {lo hi:DS->Option (Option Int)} (h:DK K ρ t f) (hl:CC K ρ tl lo) (hh:CC K ρ th hi):DO K ρ (JA (D4 K) t tl th) (BM f lo hi):=λ G σ H δ ds Q R e q=>by
 obtain ⟨d,ed,e⟩:=oB e
 obtain ⟨es,ee,e⟩:=oB e
 obtain ⟨l,el,e⟩:=oB e
 obtain ⟨u,eu,rfl⟩:=oM e
 cases gx ee
 refine h G σ H δ _ _ R ed λ v G1 H1 g1 dv=>hl G1 σ H1 δ l _ (R.grow g1) el λ G2 H2 g2=>hh G2 σ H2 δ u _ ((R.grow g1).grow g2) eu λ G3 H3 g3=>?_
 have g23:=g2.trans g3
 obtain ⟨p,vs,rfl,sq,da⟩:=iK g23.s (dv.grow g23)
 refine ⟨p,vs,rfl,sq,λ r H' n=>?_⟩
 have g:=g1.trans g23
 exact q r _ G3 H' (g.trans (.nwO g.s n)) (cD g.h n.2.1) (cD g.s n.2.1) n.2.2 (da.cut l u)
noncomputable def HQ (K:Frag) (ρ:List Addr) (r:List V->Hp->VK->Prop) (g:W->Option W):Prop:=
 ∀ (G H:Hp) (x:V) (d c:W) (Q:VK),bo G H->Pk K ρ G H x d->g d=some c->(∀ v G' H',Gr G H G' H'->Dw K ρ G' v c->Q v H')->r [x] H Q
noncomputable def AE (g:W->Option W) (f:DS->Option W):DS->Option W:=λ δ=>(f δ).bind g
theorem HI {r:List V->Hp->VK->Prop} {g:W->Option W} {t:TE} {f:DS->Option W} (hr:HQ K ρ r g) (h:DK K ρ t f):DE K ρ (Be r (gX t lM)) (AE g f):=λ G σ H δ d Q R e q=>by
 obtain ⟨x,ex,e⟩:=oB e
 exact h G σ H δ x _ R ex λ v G1 H1 g1 dv=>hr G1 H1 v x d Q g1.s dv e λ u G2 H2 g2 du=>q u G2 H2 (g1.trans g2) du
noncomputable def wB (K:Frag):List V->Hp->VK->Prop:=λ xs H Q=>IX K xs H Q∨DH xs H Q
theorem xJ {X:Cx} {K:Frag} (h:X.K=K):eI X (.builtin "len") (wB K):=(oq h).or ot
noncomputable def jQ:W->Option W
 | .list ds=>some (.int ds.length)
 | .tuple ds=>some (.int ds.length)
 | .str z=>if z.length<=sizeLine then some (.int z.length) else none
 | _=>none
theorem Ag:HQ K ρ (wB K) jQ:=λ G H x d c Q s hx hg q=>by
 unfold jQ at hg
 split at hg
 . cases hg
   obtain ⟨p,vs,rfl,sq,da⟩:=iK s hx
   exact .inl ⟨p,vs,rfl,.inl sq,by rw [da.length];exact q _ G H (.refl s) (.int _)⟩
 . cases hg
   obtain ⟨p,vs,rfl,sq,da⟩:=mN hx
   exact .inl ⟨p,vs,rfl,.inr (s.tup (eK.of sq)),by rw [da.length];exact q _ G H (.refl s) (.int _)⟩
 . split at hg
   . rename_i hz
     cases hg
     cases qL hx
     exact .inr ⟨_,rfl,hz,q _ G H (.refl s) (.int _)⟩
   . cases hg
 . cases hg
noncomputable def gU (f:DS->Option W):DS->Option (List W):=λ δ=>(f δ).bind qe
theorem AV {t:TE} {f:DS->Option W} (h:DK K ρ t f):DO K ρ (Be (qr K) (gX t lM)) (gU f):=λ G σ H δ ds Q R e q=>by
 obtain ⟨x,ex,e⟩:=oB e
 refine h G σ H δ x _ R ex λ v G1 H1 g1 dv=>?_
 have fin:∀ (vs:List V) (l:Addr),aB K ρ G1 vs ds->H1 l=none->Q (.ref l) (cp H1 l (.lst vs)):=λ vs l da hl=>by
  have n:Nw H1 (cp H1 l (.lst vs)) l (.lst vs):=.of hl
  exact q l vs G1 _ (g1.trans (.nwO g1.s n)) (cD g1.h hl) (cD g1.s hl) aK da
 unfold qe at e
 split at e
 . cases e
   obtain ⟨p,vs,rfl,sq,da⟩:=iK g1.s dv
   exact ⟨p,vs,rfl,.inl sq,λ l hl=>fin vs l da hl⟩
 . cases e
   obtain ⟨p,vs,rfl,sq,da⟩:=mN dv
   exact ⟨p,vs,rfl,.inr (g1.s.tup (eK.of sq)),λ l hl=>fin vs l da hl⟩
 . cases e
noncomputable def Ak (T:String):W->Option W
 | .int i=>(ET (.int i) T).map .bool
 | .bool i=>(ET (.bl i) T).map .bool
 | .str i=>(ET (.str i) T).map .bool
 | _=>none
theorem vI {i:Nat} {te ti:TE} {fv fi:DS->Option W} (hv:DE K ρ te fv) (hi:DE K ρ ti fi):n9 K ρ (o0 te (AT (xh i) ti vi)) (pH i fi fv):=λ G0 H0 G σ H δ o D I e p=>by
 obtain ⟨d,ed,e⟩:=oB e
 obtain ⟨ds,eo,e⟩:=oB e
 obtain ⟨x,ex,e⟩:=oB e
 have ho:=mP eo
 refine hv G σ H δ d _ I.rl ed λ v G1 H1 g1 dv=>?_
 have I1:=I.grow g1
 obtain ⟨o',h1,q,vs,rfl,h3,h4,h5⟩:=I1.rl.sl i _ ho
 refine ⟨.ref q,h1,hi G1 σ H1 δ x _ I1.rl ex λ u G2 H2 g2 du=>?_⟩
 have I2:=I1.grow g2
 split at e
 . obtain ⟨j,ej,rfl⟩:=oM e
   cases d8 du
   exact ⟨q,vs,_,j,rfl,rfl,g2.h _ _ h4,by rw [h5.length];exact ej,p σ G2 _ (I2.put ho h1 (g2.n q (by rw [h4];simp) h3) (aB.set (dv.same g2.g) j (h5.same g2.g)))⟩
 . cases e
end
section
variable {X:Cx} {tg:Expr}
end
section
variable {K:Frag} {ρ:List Addr}
end
section
variable {X:Cx}
end
section
variable {K:Frag} {ρ:List Addr}
end
theorem FW (i j:Int):bQ (.int i) (.int j)=some (.int (i+j)):=rfl
theorem nJ {a b:List W} (h:a.length+b.length<=sizeLine):bQ (.list a) (.list b)=some (.list (a++b)):=if_pos h
theorem tI {a b:Str} (h:a.length+b.length<=sizeLine):bQ (.str a) (.str b)=some (.str (a++b)):=if_pos h
theorem Ec (i j:Int):gSub' (.int i) (.int j)=some (.int (i-j)):=rfl
theorem nU {i j:Int} (h:kr i j=true):kf (.int i) (.int j)=some (.int (i*j)):=by simp only [kf,AW,if_pos h]
theorem uy {i j:Int} (h:rN i j=true):cj (.int i) (.int j)=some (.int (i.fdiv j)):=by simp only [cj,AW,if_pos h]
theorem nO {i j:Int} (h:jT i j=true):bE (.int i) (.int j)=some (.int (i.fmod j)):=by simp only [bE,AW,if_pos h]
theorem Fi (i:Int):lU (.int i)=some (.int (-i)):=rfl
theorem q5 {i j:Int} (h1 : -(2^64)<i) (h2:i<2^64):kr i j=true:=by
 simp only [kr,Bool.and_eq_true,Bool.or_eq_true,decide_eq_true_eq]
 exact .inl (.inl (by omega))
theorem CH {i j:Int} (h1 : -(2^64)<j) (h2:j<2^64):kr i j=true:=by
 simp only [kr,Bool.and_eq_true,Bool.or_eq_true,decide_eq_true_eq]
 exact .inl (.inr (by omega))
theorem nj {i j:Int} (h1:0<j) (h2:j<2^64):rN i j=true:=by
 have e:(2:Nat)^64<2^200:=Nat.pow_lt_pow_right (by decide) (by decide)
 simp only [rN,Bool.and_eq_true,decide_eq_true_eq]
 exact ⟨by omega,Nat.lt_trans (by omega) e⟩
theorem xV {i j:Int} (h:j≠0):jT i j=true:=by simp [jT,h]
theorem Es (i:Int) {j:Int} (h1:0<j) (h2:j<2^64):cj (.int i) (.int j)=some (.int (i.fdiv j)):=uy (nj h1 h2)
theorem yR (i:Int) {j:Int} (h1:j≠0):bE (.int i) (.int j)=some (.int (i.fmod j)):=nO (xV h1)
theorem iC (b:Bool):yr (.bool b)=some b:=rfl
theorem yf (i:Int):GL (.int i)=some i:=rfl
theorem iQ (ds:List W):hJ (.list ds)=some ds:=rfl
theorem Ez (ds:List W):qe (.list ds)=some ds:=rfl
theorem F7 (ds:List W):qe (.tuple ds)=some ds:=rfl
theorem FI (ds:List W):jQ (.list ds)=some (.int ds.length):=rfl
theorem Ga (ds:List W):jQ (.tuple ds)=some (.int ds.length):=rfl
theorem DP (ds:List W) (i:Int):aP (.list ds) (.int i)=fK ds i:=rfl
theorem oW (ds:List W) (i:Int):aP (.tuple ds) (.int i)=fK ds i:=rfl
theorem Iy (i j:Int):b8 (.int i) (.int j)=some (decide (i=j)):=rfl
theorem Jp (i j:Str):b8 (.str i) (.str j)=some (decide (i=j)):=rfl
theorem Hi (i j:Bool):b8 (.bool i) (.bool j)=some (decide (i=j)):=rfl
theorem HU (i j:Int):qP (.int i) (.int j)=some (!decide (i=j)):=rfl
theorem HY (i j:Str):qP (.str i) (.str j)=some (!decide (i=j)):=rfl
theorem HX (i j:Int):rF (.int i) (.int j)=some (decide (i<j)):=rfl
theorem Jr (i j:Int):MA (.int i) (.int j)=some (decide (i<=j)):=rfl
theorem IV (i j:Int):MO (.int i) (.int j)=some (decide (j<i)):=rfl
theorem IF (i j:Int):Kc (.int i) (.int j)=some (decide (j<=i)):=rfl
theorem BF (i:Int):eZ (.int i) .none=some true:=rfl
theorem Ba:eZ .none .none=some false:=rfl
theorem B0 (i:Str):eZ (.str i) .none=some true:=rfl
theorem Bv (i:List W):eZ (.list i) .none=some true:=rfl
theorem Bi (i:List W):eZ (.tuple i) .none=some true:=rfl
theorem Gs (i:Int):ox (.int i) .none=some false:=rfl
theorem ER:ox .none .none=some true:=rfl
theorem Em (i:Str):ox (.str i) .none=some false:=rfl
theorem Gd (i:List W):ox (.list i) .none=some false:=rfl
theorem Fx (i:List W):ox (.tuple i) .none=some false:=rfl
theorem Ci (i:Int):Ak "int" (.int i)=some (.bool true):=rfl
theorem y3 (i:Int):Ak "bool" (.int i)=some (.bool false):=rfl
theorem C2 (i:Str):Ak "str" (.str i)=some (.bool true):=rfl
theorem ak {f g:DS->Option cY} {δ δ1:DS} {o:Option cY} (h1:f δ=some (.nx δ1)) (h2:g δ1=o):az f g δ=o:=by
 unfold az
 rw [h1]
 exact h2
theorem aX {a n:Nat} {fb:DS->Option cY} {ds:List W} {d:W} (hl:ds.length=a) (h:fb (bB n ds)=some (.rt d)):bV a n fb ds=some d:=by
 unfold bV
 rw [if_pos hl,h]
 rfl
theorem fg {fi:DS->Option (List W)} {h:W->DS->Option DS} {fb:DS->Option cY} {δ:DS} {ds:List W} {o:Option cY} (h1:fi δ=some ds) (h2:bh h fb ds δ=o):gc fi h fb δ=o:=by
 unfold gc
 rw [h1]
 exact h2
theorem aO {f:DS->Option W} {h:W->DS->Option DS} {δ δ':DS} {d:W} (h1:f δ=some d) (h2:h d δ=some δ'):aD f h δ=some (.nx δ'):=by
 unfold aD
 rw [h1]
 show (h d δ).map cY.nx=_
 rw [h2]
 rfl
theorem bp {f:DS->Option W} {δ:DS} {d:W} (h1:f δ=some d):aT f δ=some (.rt d):=by
 unfold aT
 rw [h1]
 rfl
theorem aN {c:DS->Option Bool} {f g:DS->Option cY} {δ:DS} {b:Bool} {o:Option cY} (h1:c δ=some b) (h2:(if b=true then f δ else g δ)=o):bP c f g δ=o:=by
 unfold bP
 rw [h1]
 exact h2
theorem Br {n:Nat} (hn:n<=16777216):wN (n:Int)=some (eW 0 n):=by
 unfold wN
 rw [if_pos (xF hn),Int.toNat_natCast]
theorem gz {f:DS->Option (List W)} {δ:DS} {n:Nat} (h:f δ=some [.int n]) (hn:n<=16777216):je f δ=some (eW 0 n):=by
 unfold je
 rw [h,Option.bind_some]
 exact Br hn
theorem xR {K:Frag} {g:List W->Option W} {vs:List V} {H:Hp} {Q:VK} {E:XK} (hg:∀ ds,g ds=none) (h:jx K g vs H Q E):False:=by
 obtain ⟨ρ,G,ds,d,_,_,e,_⟩:=h
 rw [hg] at e
 cases e
theorem ez.no {P:Program} {w:World} {K:Frag} {mg:Str->Option Value} {base:Heap} {CX:uJ} {k:Nat} {f:Addr} {fd:FuncData} {ps:List Str} {g:List W->Option W} (hg:∀ ds,g ds=none):ez P w K mg base CX k f fd ps (jx K g):=
 ⟨λ _ _ _ _ h=>(xR hg h).elim,λ _ _ _ _ _ _ _ _ _ _ _ _ _ h=>(xR hg h).elim⟩
inductive Ob where
 | lst (ds:List W)
 | dK (kvs:List (aF×W))
 | dT (kvs:List (List aF×W))
 | dN (kvs:List (List aF×W))
 | ins (c:Str) (fs:List (Str×W))
noncomputable abbrev ag:=List Ob
inductive jf (K:Frag) (ρ:List Addr) (G:Hp) {κ:Type}:List (κ×W)->List (κ×V)->Prop
 | nil:jf K ρ G [] []
 | cons {k:κ} {d:W} {v:V} {l:List (κ×W)} {m:List (κ×V)}:Dw K ρ G v d->jf K ρ G l m->jf K ρ G ((k,d)::l) ((k,v)::m)
noncomputable def BB (K:Frag) (ρ:List Addr) (cl:Str->Addr) (G H:Hp) (a:Addr):Ob->Prop
 | .lst ds=>∃ vs,H a=some (.lst vs)/\aB K ρ G vs ds
 | .dK kvs=>∃ ws,H a=some (.dK ws)/\jf K ρ G kvs ws
 | .dT kvs=>∃ ws,H a=some (.dT ws)/\jf K ρ G kvs ws
 | .dN kvs=>∃ ws,H a=some (.dN ws)/\jf K ρ G kvs ws
 | .ins c fs=>∃ dx ws,H a=some (.ins (cl c) dx ws)/\G dx=none/\H dx=some (.own a)/\jf K ρ G fs ws
theorem BN {ρ ρ':List Addr} (h:ρ <+: ρ') (n:Nat) (a:Addr) (e:ρ[n]?=some a):ρ'[n]?=some a:=by
 obtain ⟨t,rfl⟩:=h
 rw [List.getElem?_append_left (oG e).1]
 exact e
theorem Dw.ext {K:Frag} {ρ ρ':List Addr} {G:Hp} (h:ρ <+: ρ') {v:V} {d:W} (q:Dw K ρ G v d):Dw K ρ' G v d:=q.mapG (λ _ _ q=>q) (λ _ _ q=>q) (BN h)
theorem aB.ext {K:Frag} {ρ ρ':List Addr} {G:Hp} (h:ρ <+: ρ') {vs:List V} {ds:List W} (q:aB K ρ G vs ds):aB K ρ' G vs ds:=q.mapA λ _ _ a=>a.ext h
theorem jf.ext {K:Frag} {ρ ρ':List Addr} {G G':Hp} {κ:Type} (h:ρ <+: ρ') (g:bo G G') {l:List (κ×W)} {m:List (κ×V)} (q:jf K ρ G l m):jf K ρ' G' l m:=by
 induction q with
 | nil=>exact .nil
 | cons a _ ih=>exact .cons ((a.ext h).same g) ih
theorem jf.lookup {K:Frag} {ρ:List Addr} {G:Hp} {κ:Type} [BEq κ] {k:κ} {l:List (κ×W)} {m:List (κ×V)} {d:W} (q:jf K ρ G l m):l.lookup k=some d->∃ v,m.lookup k=some v/\Dw K ρ G v d:=by
 induction q with
 | nil=>exact λ e=>by cases e
 | @cons j d v l m a _ ih=>
  intro e
  simp only [List.lookup] at e ⊢
  split at e
  . cases e;exact ⟨_,rfl,a⟩
  . exact ih e
theorem jf.lookup_none {K:Frag} {ρ:List Addr} {G:Hp} {κ:Type} [BEq κ] {k:κ} {l:List (κ×W)} {m:List (κ×V)} (q:jf K ρ G l m):l.lookup k=none->m.lookup k=none:=by
 induction q with
 | nil=>exact λ _=>rfl
 | @cons j d v l m a _ ih=>
  intro e
  simp only [List.lookup] at e ⊢
  split at e
  . cases e
  . exact ih e
theorem jf.length {K:Frag} {ρ:List Addr} {G:Hp} {κ:Type} {l:List (κ×W)} {m:List (κ×V)} (q:jf K ρ G l m):l.length=m.length:=by
 induction q with
 | nil=>rfl
 | cons _ _ ih=>exact congrArg (· + 1) ih
noncomputable def xq (f:Str) (v:W):List (Str×W)->List (Str×W)
 | []=>[(f,v)]
 | (g,x)::r=>if g=f then (g,v)::r else (g,x)::xq f v r
theorem jf.putF {K:Frag} {ρ:List Addr} {G:Hp} {f:Str} {v:V} {d:W} (h:Dw K ρ G v d) {l:List (Str×W)} {m:List (Str×V)} (q:jf K ρ G l m):jf K ρ G (xq f d l) (putF f v m):=by
 induction q with
 | nil=>exact .cons h .nil
 | cons a b ih=>
  unfold xq L2.putF
  split
  . exact .cons h b
  . exact .cons a ih
structure SR (K:Frag) (ρ:List Addr) (cl:Str->Addr) (G H:Hp) (S:ag):Prop where
 len:ρ.length=S.length
 nd:ρ.Nodup
 ob:∀ (n:Nat) o,S[n]?=some o->∃ a,ρ[n]?=some a/\G a=none/\BB K ρ cl G H a o
structure GS (ρ:List Addr) (G H:Hp) (ρ':List Addr) (G' H':Hp):Prop where
 r:ρ <+: ρ'
 g:bo G G'
 s:bo G' H'
 h:∀ b o,b∉ρ->H b=some o->H' b=some o
 k:∀ b,H b≠none->H' b≠none
 n:∀ b,H b≠none->G b=none->G' b=none
 f:∀ a,a∈ρ'->a∉ρ->H a=none
theorem GS.refl {ρ:List Addr} {G H:Hp} (s:bo G H):GS ρ G H ρ G H:=⟨List.prefix_refl _,.refl _,s,λ _ _ _ e=>e,λ _ e=>e,λ _ _ e=>e,λ a h1 h2=>absurd h1 h2⟩
theorem GS.of {ρ:List Addr} {G H G' H':Hp} (g:Gr G H G' H'):GS ρ G H ρ G' H':=⟨List.prefix_refl _,g.g,g.s,λ b o _ e=>g.h b o e,λ b e=>mq g.h e,g.n,λ a h1 h2=>absurd h1 h2⟩
theorem GS.trans {ρ ρ1 ρ2:List Addr} {G H G1 H1 G2 H2:Hp} (a:GS ρ G H ρ1 G1 H1) (b:GS ρ1 G1 H1 ρ2 G2 H2):GS ρ G H ρ2 G2 H2:=
 ⟨a.r.trans b.r,a.g.trans b.g,b.s,λ c o hc e=>b.h c o (λ h1=>by rw [a.f c h1 hc] at e;cases e) (a.h c o hc e),λ c e=>b.k c (a.k c e),λ c h1 h2=>b.n c (a.k c h1) (a.n c h1 h2),λ c h1 h2=>by
  by_cases h3:c∈ρ1
  . exact a.f c h3 h2
  . have:=b.f c h1 h3
    cases e:H c with
    | none=>rfl
    | some o=>exact absurd this (a.k c (by rw [e];simp))⟩
section
variable {K:Frag} {cl:Str->Addr}
theorem BB.move {ρ ρ':List Addr} {G H G' H':Hp} {a:Addr} (hr:ρ <+: ρ') (g:bo G G') (ha:H' a=H a) (hd:∀ dx,G dx=none->H dx=some (.own a)->H' dx=some (.own a)/\G' dx=none) {o:Ob} (h:BB K ρ cl G H a o):BB K ρ' cl G' H' a o:=by
 cases o with
 | lst ds=>
  obtain ⟨vs,h1,h2⟩:=h
  exact ⟨vs,ha.trans h1,(h2.ext hr).same g⟩
 | ins c fs=>
  obtain ⟨dx,ws,h1,h2,h3,h4⟩:=h
  exact ⟨dx,ws,ha.trans h1,(hd dx h2 h3).2,(hd dx h2 h3).1,h4.ext hr g⟩
 | _=>
  obtain ⟨ws,h1,h2⟩:=h
  exact ⟨ws,ha.trans h1,h2.ext hr g⟩
theorem BB.some {ρ:List Addr} {G H:Hp} {a:Addr} {o:Ob} (h:BB K ρ cl G H a o):∃ x,H a=some x/\∀ b,x≠.own b:=by
 cases o with
 | ins c fs=>
  obtain ⟨dx,ws,h1,_⟩:=h
  exact ⟨_,h1,λ b e=>by cases e⟩
 | _=>
  obtain ⟨ws,h1,_⟩:=h
  exact ⟨_,h1,λ b e=>by cases e⟩
theorem SR.grow {ρ:List Addr} {G H G' H':Hp} {S:ag} (s:SR K ρ cl G H S) (g:Gr G H G' H'):SR K ρ cl G' H' S:=
 ⟨s.len,s.nd,λ n o e=>by
  obtain ⟨a,h1,h2,h3⟩:=s.ob n o e
  obtain ⟨x,hx,_⟩:=h3.some
  exact ⟨a,h1,g.n a (by rw [hx];simp) h2,h3.move (List.prefix_refl _) g.g (by rw [hx];exact g.h _ _ hx) λ dx e1 e2=>⟨g.h _ _ e2,g.n dx (by rw [e2];simp) e1⟩⟩⟩
theorem SR.addr {ρ:List Addr} {G H:Hp} {S:ag} (s:SR K ρ cl G H S) {n:Nat} {o:Ob} {a:Addr} (e:S[n]?=some o) (ea:ρ[n]?=some a):G a=none/\BB K ρ cl G H a o:=by
 obtain ⟨b,h1,h2,h3⟩:=s.ob n o e
 rw [ea] at h1
 cases h1
 exact ⟨h2,h3⟩
theorem x8 {l:List Addr} (h:l.Nodup) {i j:Nat} {a:Addr} (h1:l[i]?=some a) (h2:l[j]?=some a):i=j:=by
 obtain ⟨hi,e1⟩:=oG h1
 obtain ⟨hj,e2⟩:=oG h2
 have hp:=List.pairwise_iff_getElem.mp h
 rcases Nat.lt_trichotomy i j with c | c | c
 . exact absurd (e1.trans e2.symm) (hp i j hi hj c)
 . exact c
 . exact absurd (e2.trans e1.symm) (hp j i hj hi c)
theorem SR.put {ρ:List Addr} {G H:Hp} {S:ag} {n:Nat} {o o':Ob} {a:Addr} {x:HO} (s:SR K ρ cl G H S) (sg:bo G H) (e:S[n]?=some o) (ea:ρ[n]?=some a) (hx:∀ b,x≠.own b) (ho:BB K ρ cl G (cp H a x) a o'):SR K ρ cl G (cp H a x) (S.set n o')/\GS ρ G H ρ G (cp H a x):=by
 obtain ⟨ga,ob⟩:=s.addr e ea
 obtain ⟨y,hy,hno⟩:=ob.some
 have am:a∈ρ:=List.mem_of_getElem? ea
 refine ⟨⟨by rw [List.length_set];exact s.len,s.nd,λ m q em=>?_⟩,⟨List.prefix_refl _,.refl _,λ b u eb=>?_,λ b u hb eb=>?_,λ b hb=>?_,λ _ _ e=>e,λ b h1 h2=>absurd h1 h2⟩⟩
 . rcases dM em with ⟨rfl,rfl,_⟩ | ⟨ne,em⟩
   . exact ⟨a,ea,ga,ho⟩
   . obtain ⟨b,h1,h2,h3⟩:=s.ob m q em
     have hab:b≠a:=λ z=>ne (x8 s.nd ea (z▸h1))
     exact ⟨b,h1,h2,h3.move (List.prefix_refl _) (.refl _) (aJ hab) λ dx e1 e2=>⟨by
      rw [aJ (λ z=>by rw [z,hy] at e2;cases e2;exact hno _ rfl)]
      exact e2,e1⟩⟩
 . rw [aJ (λ z=>by rw [z,ga] at eb;cases eb)]
   exact sg _ _ eb
 . rw [aJ (λ z=>hb (by rw [z];exact am))]
   exact eb
 . by_cases z:b=a
   . subst z
     rw [aK]
     simp
   . rw [aJ z]
     exact hb
theorem SR.push {ρ:List Addr} {G H H':Hp} {S:ag} {p:Addr} {o:Ob} {x:HO} (s:SR K ρ cl G H S) (sg:bo G H) (n:Nw H H' p x) (ho:∀ ρ',ρ <+: ρ'->BB K ρ' cl G H' p o):SR K (ρ++[p]) cl G H' (S++[o])/\GS ρ G H (ρ++[p]) G H':=by
 have pm:p∉ρ:=λ hp=>by
  obtain ⟨i,hi,e⟩:=List.mem_iff_getElem.mp hp
  obtain ⟨b,h1,h2,h3⟩:=s.ob i (S[i]'(by rw [<-s.len];exact hi)) (List.getElem?_eq_getElem _)
  rw [List.getElem?_eq_getElem hi,e] at h1
  cases h1
  obtain ⟨y,hy,_⟩:=h3.some
  rw [n.2.1] at hy
  cases hy
 have pre:ρ <+: ρ++[p]:=⟨[p],rfl⟩
 refine ⟨⟨by simp [s.len],List.nodup_append.mpr ⟨s.nd,by simp,λ a ha b hb=>by
  rw [List.mem_singleton.mp hb]
  exact λ z=>pm (z▸ha)⟩,λ m q em=>?_⟩,⟨pre,.refl _,sg.trans n.1,λ b u _ e=>n.1 b u e,λ b e=>mq n.1 e,λ _ _ e=>e,λ a h1 h2=>?_⟩⟩
 . rcases Nat.lt_or_ge m S.length with hm | hm
   . rw [List.getElem?_append_left hm] at em
     obtain ⟨b,h1,h2,h3⟩:=s.ob m q em
     obtain ⟨y,hy,_⟩:=h3.some
     exact ⟨b,by rw [List.getElem?_append_left (by rw [s.len];exact hm)];exact h1,h2,h3.move pre (.refl _) (by rw [hy];exact n.1 _ _ hy) λ dx e1 e2=>⟨n.1 _ _ e2,e1⟩⟩
   . rw [List.getElem?_append_right hm] at em
     have hz:m-S.length=0:=by
      have:=(oG em).1
      simp at this
      omega
     rw [hz] at em
     cases em
     refine ⟨p,?_,cD sg n.2.1,ho _ pre⟩
     rw [List.getElem?_append_right (by rw [s.len];exact hm),s.len,hz]
     rfl
 . rcases List.mem_append.mp h1 with h | h
   . exact absurd h h2
   . rw [List.mem_singleton.mp h]
     exact n.2.1
inductive Rs (α:Type) where
 | ok (a:α)
 | xc (c:Str)
noncomputable abbrev SM (α:Type):=Option (Rs α×ag)
noncomputable def ao {α β:Type} (m:SM α) (k:α->ag->SM β):SM β:=match m with
 | some (.ok a,S)=>k a S
 | some (.xc c,S)=>some (.xc c,S)
 | none=>none
theorem aR {α β:Type} {m:SM α} {k:α->ag->SM β} {r:Rs β} {S':ag} (h:ao m k=some (r,S')):(∃ c,m=some (.xc c,S')/\r=.xc c)∨∃ a S1,m=some (.ok a,S1)/\k a S1=some (r,S'):=by
 unfold ao at h
 split at h
 . exact .inr ⟨_,_,rfl,h⟩
 . cases h
   exact .inl ⟨_,rfl,rfl⟩
 . cases h
structure RS (K:Frag) (cl:Str->Addr) (ρ:List Addr) (G H:Hp) (δ:DS) (σ:St) (S:ag):Prop where
 rl:Rl K ρ G H δ σ
 st:SR K ρ cl G H S
 ap:∀ (i:Nat) ds p,δ[i]?=some (.own ds)->σ[i]?=some (some (.ref p))->p∉ρ
theorem tU.move {ρ ρ':List Addr} {G H G' H':Hp} (g:GS ρ G H ρ' G' H') {s:Sl} {o:Option V} (ha:∀ ds p,s=.own ds->o=some (.ref p)->p∉ρ) (h:tU K ρ G H s o):tU K ρ' G' H' s o:=by
 cases s with
 | no=>exact trivial
 | val d=>
  obtain ⟨v,e,h⟩:=h
  exact ⟨v,e,(h.ext g.r).same g.g⟩
 | own ds=>
  obtain ⟨p,vs,e,h1,h2,h3⟩:=h
  exact ⟨p,vs,e,g.n p (by rw [h2];simp) h1,g.h _ _ (ha ds p rfl e) h2,(h3.ext g.r).same g.g⟩
theorem RS.grow {ρ ρ':List Addr} {G H G' H':Hp} {δ:DS} {σ:St} {S S':ag} (R:RS K cl ρ G H δ σ S) (g:GS ρ G H ρ' G' H') (s:SR K ρ' cl G' H' S'):RS K cl ρ' G' H' δ σ S':=
 ⟨⟨g.s,R.rl.len,λ i sl e=>by
  obtain ⟨o,h1,h2⟩:=R.rl.sl i sl e
  exact ⟨o,h1,h2.move g λ ds p e1 e2=>R.ap i ds p (e1▸e) (e2▸h1)⟩,R.rl.apart⟩,s,λ i ds p h1 h2 hp=>by
  obtain ⟨o,k1,p',vs,rfl,k3,k4,k5⟩:=R.rl.sl i _ h1
  rw [h2] at k1
  cases k1
  rw [g.f p hp (R.ap i ds p h1 h2)] at k4
  cases k4⟩
noncomputable def SQ (K:Frag) (cl:Str->Addr) (ρ:List Addr) (G H:Hp) (E:XK) (S':ag) (Q:W->List Addr->Hp->Hp->Prop):Rs W->Prop
 | .ok d=>∀ ρ' G' H',GS ρ G H ρ' G' H'->SR K ρ' cl G' H' S'->Q d ρ' G' H'
 | .xc c=>∀ ρ' G' H',GS ρ G H ρ' G' H'->SR K ρ' cl G' H' S'->E (.ref (cl c)) none H'
noncomputable def SE (K:Frag) (cl:Str->Addr) (E:XK) (t:TE) (f:DS->ag->SM W):Prop:=
 ∀ (ρ:List Addr) (G:Hp) (σ:St) (H:Hp) (δ:DS) (S:ag) (r:Rs W) (S':ag) (Q:VK),RS K cl ρ G H δ σ S->f δ S=some (r,S')->
  (∀ d,r=.ok d->∀ v ρ' G' H',GS ρ G H ρ' G' H'->SR K ρ' cl G' H' S'->Dw K ρ' G' v d->Q v H')->
  (∀ c,r=.xc c->∀ ρ' G' H',GS ρ G H ρ' G' H'->SR K ρ' cl G' H' S'->E (.ref (cl c)) none H')->t σ H Q
noncomputable def SA (K:Frag) (cl:Str->Addr) (E:XK) (t:TA) (f:DS->ag->SM (List W)):Prop:=
 ∀ (ρ:List Addr) (G:Hp) (σ:St) (H:Hp) (δ:DS) (S:ag) (r:Rs (List W)) (S':ag) (Q:List V->Hp->Prop),RS K cl ρ G H δ σ S->f δ S=some (r,S')->
  (∀ ds,r=.ok ds->∀ vs ρ' G' H',GS ρ G H ρ' G' H'->SR K ρ' cl G' H' S'->aB K ρ' G' vs ds->Q vs H')->
  (∀ c,r=.xc c->∀ ρ' G' H',GS ρ G H ρ' G' H'->SR K ρ' cl G' H' S'->E (.ref (cl c)) none H')->t σ H Q
noncomputable def ST (K:Frag) (cl:Str->Addr) (E:XK) (t:TT) (f:DS->ag->SM Bool):Prop:=
 ∀ (ρ:List Addr) (G:Hp) (σ:St) (H:Hp) (δ:DS) (S:ag) (r:Rs Bool) (S':ag) (Q:Bool->Hp->Prop),RS K cl ρ G H δ σ S->f δ S=some (r,S')->
  (∀ b,r=.ok b->∀ ρ' G' H',GS ρ G H ρ' G' H'->SR K ρ' cl G' H' S'->Q b H')->
  (∀ c,r=.xc c->∀ ρ' G' H',GS ρ G H ρ' G' H'->SR K ρ' cl G' H' S'->E (.ref (cl c)) none H')->t σ H Q
variable {E:XK}
noncomputable def ab {α:Type} (f:DS->Option α):DS->ag->SM α:=λ δ S=>(f δ).map λ d=>(.ok d,S)
theorem gN {α:Type} {f:DS->Option α} {δ:DS} {S S':ag} {r:Rs α} (h:ab f δ S=some (r,S')):∃ d,f δ=some d/\r=.ok d/\S'=S:=by
 obtain ⟨d,e1,e2⟩:=oM h
 cases e2
 exact ⟨d,e1,rfl,rfl⟩
theorem AQ {t:TE} {f:DS->Option W} (h:∀ ρ,DE K ρ t f):SE K cl E t (ab f):=λ ρ G σ H δ S r S' Q R e q _=>by
 obtain ⟨d,e1,rfl,rfl⟩:=gN e
 exact h ρ G σ H δ d Q R.rl e1 λ v G' H' g dv=>q d rfl v ρ G' H' (.of g) (R.st.grow g) dv
theorem Ck {t:TA} {f:DS->Option (List W)} (h:∀ ρ,DA K ρ t f):SA K cl E t (ab f):=λ ρ G σ H δ S r S' Q R e q _=>by
 obtain ⟨d,e1,rfl,rfl⟩:=gN e
 exact h ρ G σ H δ d Q R.rl e1 λ v G' H' g dv=>q d rfl v ρ G' H' (.of g) (R.st.grow g) dv
theorem C4 {t:TT} {f:DS->Option Bool} (h:∀ ρ,DT K ρ t f):ST K cl E t (ab f):=λ ρ G σ H δ S r S' Q R e q _=>by
 obtain ⟨d,e1,rfl,rfl⟩:=gN e
 exact h ρ G σ H δ d Q R.rl e1 λ G' H' g=>q d rfl ρ G' H' (.of g) (R.st.grow g)
noncomputable def kU:DS->ag->SM (List W):=λ _ S=>some (.ok [],S)
noncomputable def bU (f:DS->ag->SM W) (g:DS->ag->SM (List W)):DS->ag->SM (List W):=λ δ S=>ao (f δ S) λ d S1=>ao (g δ S1) λ ds S2=>some (.ok (d::ds),S2)
theorem Ee:SA K cl E lM kU:=λ ρ G σ H δ S r S' Q R e q _=>by
 cases e
 exact q [] rfl [] ρ G H (.refl R.rl.sub) R.st .nil
theorem BL {t:TE} {u:TA} {f:DS->ag->SM W} {g:DS->ag->SM (List W)} (h1:SE K cl E t f) (h2:SA K cl E u g):SA K cl E (gX t u) (bU f g):=λ ρ G σ H δ S r S' Q R e q qx=>by
 rcases aR e with ⟨c,em,rfl⟩ | ⟨d,S1,em,e⟩
 . exact h1 ρ G σ H δ S _ _ _ R em (λ d hd=>by cases hd) (λ c' hc=>by cases hc;exact qx c rfl)
 . refine h1 ρ G σ H δ S _ _ _ R em (λ d' hd=>?_) (λ c' hc=>by cases hc)
   cases hd
   intro v ρ1 G1 H1 g1 s1 dv
   have R1:=R.grow g1 s1
   rcases aR e with ⟨c,em,rfl⟩ | ⟨ds,S2,em,e⟩
   . exact h2 ρ1 G1 σ H1 δ S1 _ _ _ R1 em (λ d hd=>by cases hd) (λ c' hc=>by cases hc;exact λ ρ2 G2 H2 g2 s2=>qx c rfl ρ2 G2 H2 (g1.trans g2) s2)
   . refine h2 ρ1 G1 σ H1 δ S1 _ _ _ R1 em (λ d' hd=>?_) (λ c' hc=>by cases hc)
     cases hd
     cases e
     intro vs ρ2 G2 H2 g2 s2 da
     exact q _ rfl _ ρ2 G2 H2 (g1.trans g2) s2 (.cons ((dv.ext g2.r).same g2.g) da)
end
section
variable {K:Frag} {cl:Str->Addr} {E:XK}
theorem c6 {α:Type} {t:TE} {f:DS->ag->SM W} (h:SE K cl E t f) {ρ:List Addr} {G:Hp} {σ:St} {H:Hp} {δ:DS} {S:ag} {r:Rs α} {S':ag} {k:W->ag->SM α} {P:V->Hp->Prop} (R:RS K cl ρ G H δ σ S) (e:ao (f δ S) k=some (r,S'))
 (q:∀ d S1,k d S1=some (r,S')->∀ v ρ' G' H',GS ρ G H ρ' G' H'->SR K ρ' cl G' H' S1->Dw K ρ' G' v d->P v H')
 (qx:∀ c,r=.xc c->∀ ρ' G' H',GS ρ G H ρ' G' H'->SR K ρ' cl G' H' S'->E (.ref (cl c)) none H'):t σ H P:=by
 rcases aR e with ⟨c,em,rfl⟩ | ⟨d,S1,em,e⟩
 . exact h ρ G σ H δ S _ _ _ R em (λ d hd=>by cases hd) (λ c' hc=>by cases hc;exact qx c rfl)
 . exact h ρ G σ H δ S _ _ _ R em (λ d' hd=>by cases hd;exact q _ _ e) (λ c' hc=>by cases hc)
theorem kR {α:Type} {t:TA} {f:DS->ag->SM (List W)} (h:SA K cl E t f) {ρ:List Addr} {G:Hp} {σ:St} {H:Hp} {δ:DS} {S:ag} {r:Rs α} {S':ag} {k:List W->ag->SM α} {P:List V->Hp->Prop} (R:RS K cl ρ G H δ σ S) (e:ao (f δ S) k=some (r,S'))
 (q:∀ d S1,k d S1=some (r,S')->∀ v ρ' G' H',GS ρ G H ρ' G' H'->SR K ρ' cl G' H' S1->aB K ρ' G' v d->P v H')
 (qx:∀ c,r=.xc c->∀ ρ' G' H',GS ρ G H ρ' G' H'->SR K ρ' cl G' H' S'->E (.ref (cl c)) none H'):t σ H P:=by
 rcases aR e with ⟨c,em,rfl⟩ | ⟨d,S1,em,e⟩
 . exact h ρ G σ H δ S _ _ _ R em (λ d hd=>by cases hd) (λ c' hc=>by cases hc;exact qx c rfl)
 . exact h ρ G σ H δ S _ _ _ R em (λ d' hd=>by cases hd;exact q _ _ e) (λ c' hc=>by cases hc)
theorem uH {α:Type} {t:TT} {f:DS->ag->SM Bool} (h:ST K cl E t f) {ρ:List Addr} {G:Hp} {σ:St} {H:Hp} {δ:DS} {S:ag} {r:Rs α} {S':ag} {k:Bool->ag->SM α} {P:Bool->Hp->Prop} (R:RS K cl ρ G H δ σ S) (e:ao (f δ S) k=some (r,S'))
 (q:∀ d S1,k d S1=some (r,S')->∀ ρ' G' H',GS ρ G H ρ' G' H'->SR K ρ' cl G' H' S1->P d H')
 (qx:∀ c,r=.xc c->∀ ρ' G' H',GS ρ G H ρ' G' H'->SR K ρ' cl G' H' S'->E (.ref (cl c)) none H'):t σ H P:=by
 rcases aR e with ⟨c,em,rfl⟩ | ⟨d,S1,em,e⟩
 . exact h ρ G σ H δ S _ _ _ R em (λ d hd=>by cases hd) (λ c' hc=>by cases hc;exact qx c rfl)
 . exact h ρ G σ H δ S _ _ _ R em (λ d' hd=>by cases hd;exact q _ _ e) (λ c' hc=>by cases hc)
theorem eP {α:Type} {ta tb:TE} {fa fb:DS->ag->SM W} (ha:SE K cl E ta fa) (hb:SE K cl E tb fb) {ρ:List Addr} {G:Hp} {σ:St} {H:Hp} {δ:DS} {S:ag} {r:Rs α} {S':ag} {k:W->W->ag->SM α} {P:V->V->Hp->Prop} (R:RS K cl ρ G H δ σ S)
 (e:ao (fa δ S) (λ x S1=>ao (fb δ S1) λ y S2=>k x y S2)=some (r,S'))
 (q:∀ x y S2,k x y S2=some (r,S')->∀ v u ρ' G' H',GS ρ G H ρ' G' H'->SR K ρ' cl G' H' S2->Dw K ρ' G' v x->Dw K ρ' G' u y->P v u H')
 (qx:∀ c,r=.xc c->∀ ρ' G' H',GS ρ G H ρ' G' H'->SR K ρ' cl G' H' S'->E (.ref (cl c)) none H'):ta σ H λ v H1=>tb σ H1 λ u H2=>P v u H2:=
 c6 ha R e (λ x S1 e1 v ρ1 G1 H1 g1 s1 dv=>c6 hb (R.grow g1 s1) e1 (λ y S2 e2 u ρ2 G2 H2 g2 s2 du=>q x y S2 e2 v u ρ2 G2 H2 (g1.trans g2) s2 ((dv.ext g2.r).same g2.g) du) λ c hc ρ2 G2 H2 g2 s2=>qx c hc ρ2 G2 H2 (g1.trans g2) s2) qx
noncomputable def hZ {α:Type} (x:Option α) (S:ag):SM α:=x.map λ d=>(.ok d,S)
theorem br {α:Type} {x:Option α} {S S':ag} {r:Rs α} (h:hZ x S=some (r,S')):∃ d,x=some d/\r=.ok d/\S'=S:=by
 obtain ⟨d,e1,e2⟩:=oM h
 cases e2
 exact ⟨d,e1,rfl,rfl⟩
noncomputable def tm (g:W->W->Option Bool) (fa fb:DS->ag->SM W):DS->ag->SM Bool:=λ δ S=>ao (fa δ S) λ x S1=>ao (fb δ S1) λ y S2=>hZ (g x y) S2
noncomputable def sB (f:DS->ag->SM Bool):DS->ag->SM W:=λ δ S=>ao (f δ S) λ b S1=>some (.ok (.bool b),S1)
theorem G7 {r:R2} {ta tb:TE} {fa fb:DS->ag->SM W} {g:W->W->Option Bool} (hr:∀ ρ,DB K ρ r g) (ha:SE K cl E ta fa) (hb:SE K cl E tb fb):SE K cl E (qR r ta tb) (sB (tm g fa fb)):=λ ρ G σ H δ S r' S' Q R e q qx=>by
 rcases aR e with ⟨c,em,rfl⟩ | ⟨b,S1,em,e⟩
 . exact eP (r:=Rs.xc c) ha hb R em (λ x y S2 e2=>by obtain ⟨_,_,z,_⟩:=br e2;cases z) (λ c' hc=>by cases hc;exact qx c rfl)
 . cases e
   exact eP ha hb R em (λ x y S2 e2 v u ρ2 G2 H2 g2 s2 dv du=>by
    obtain ⟨c,e3,z,rfl⟩:=br e2
    cases z
    exact hr ρ2 H2 v u x y _ _ (dv.same g2.s) (du.same g2.s) e3 (q _ rfl _ ρ2 G2 H2 g2 s2 (.bl _))) (λ c hc=>by cases hc)
noncomputable def k9 (f g:DS->ag->SM Bool):DS->ag->SM Bool:=λ δ S=>ao (f δ S) λ b S1=>if b=true then g δ S1 else some (.ok false,S1)
noncomputable def BP (f g:DS->ag->SM Bool):DS->ag->SM Bool:=λ δ S=>ao (f δ S) λ b S1=>if b=true then some (.ok true,S1) else g δ S1
noncomputable def pA (f:DS->ag->SM Bool):DS->ag->SM Bool:=λ δ S=>ao (f δ S) λ b S1=>some (.ok (!b),S1)
theorem Fk {t u:TT} {f g:DS->ag->SM Bool} (h1:ST K cl E t f) (h2:ST K cl E u g):ST K cl E (Eg t u) (k9 f g):=λ ρ G σ H δ S r S' Q R e q qx=>
 uH h1 R e (λ b S1 e1 ρ1 G1 H1 g1 s1=>by
  cases b with
  | true=>exact h2 ρ1 G1 σ H1 δ S1 r S' Q (R.grow g1 s1) e1 (λ b hb ρ2 G2 H2 g2 s2=>q b hb ρ2 G2 H2 (g1.trans g2) s2) λ c hc ρ2 G2 H2 g2 s2=>qx c hc ρ2 G2 H2 (g1.trans g2) s2
  | false=>cases e1;exact q false rfl ρ1 G1 H1 g1 s1) qx
theorem Il {t u:TT} {f g:DS->ag->SM Bool} (h1:ST K cl E t f) (h2:ST K cl E u g):ST K cl E (Ll t u) (BP f g):=λ ρ G σ H δ S r S' Q R e q qx=>
 uH h1 R e (λ b S1 e1 ρ1 G1 H1 g1 s1=>by
  cases b with
  | false=>exact h2 ρ1 G1 σ H1 δ S1 r S' Q (R.grow g1 s1) e1 (λ b hb ρ2 G2 H2 g2 s2=>q b hb ρ2 G2 H2 (g1.trans g2) s2) λ c hc ρ2 G2 H2 g2 s2=>qx c hc ρ2 G2 H2 (g1.trans g2) s2
  | true=>cases e1;exact q true rfl ρ1 G1 H1 g1 s1) qx
theorem Gy {t:TT} {f:DS->ag->SM Bool} (h:ST K cl E t f):ST K cl E (Ip t) (pA f):=λ ρ G σ H δ S r S' Q R e q qx=>
 uH h R e (λ b S1 e1 ρ1 G1 H1 g1 s1=>by cases e1;exact q _ rfl ρ1 G1 H1 g1 s1) qx
noncomputable def xp (f:DS->ag->SM (List W)):DS->ag->SM W:=λ δ S=>ao (f δ S) λ ds S1=>if ds.length<=sizeLine then some (.ok (.tuple ds),S1) else none
theorem E2 {t:TA} {f:DS->ag->SM (List W)} (h:SA K cl E t f):SE K cl E (yg t) (xp f):=λ ρ G σ H δ S r S' Q R e q qx=>
 kR h R e (λ ds S1 e1 vs ρ1 G1 H1 g1 s1 da=>by
  split at e1
  . rename_i hz
    cases e1
    refine ⟨by rw [da.length];exact hz,λ p H' n=>?_⟩
    have g2:=Gr.nw g1.s n
    exact q _ rfl _ ρ1 _ H' (g1.trans (.of g2)) (s1.grow g2) (.tup aK (da.same g2.g))
  . cases e1) qx
noncomputable def L7 (f:DS->ag->SM (List W)):DS->ag->SM W:=λ δ S=>ao (f δ S) λ ds S1=>if ds.length<=sizeLine then some (.ok (.list ds),S1) else none
noncomputable def dE (f:DS->ag->SM (List W)):DS->ag->SM W:=λ δ S=>ao (f δ S) λ ds S1=>if ds.length<=sizeLine then some (.ok (.ref S1.length),S1++[.lst ds]) else none
theorem BZ {t:TA} {f:DS->ag->SM (List W)} (h:SA K cl E t f):SE K cl E (Aq t) (dE f):=λ ρ G σ H δ S r S' Q R e q qx=>
 kR h R e (λ ds S1 e1 vs ρ1 G1 H1 g1 s1 da=>by
  split at e1
  . rename_i hz
    cases e1
    refine ⟨by rw [da.length];exact hz,λ p H' n=>?_⟩
    obtain ⟨s2,g2⟩:=s1.push (o:=.lst ds) g1.s n λ ρ' hr=>⟨vs,n.2.2,da.ext hr⟩
    exact q _ rfl _ _ _ H' (g1.trans g2) s2 (.ref (by rw [<-s1.len];simp))
  . cases e1) qx
noncomputable def KE:DS->ag->SM W:=λ _ S=>some (.ok (.ref S.length),S++[.dK []])
noncomputable def Mh:DS->ag->SM W:=λ _ S=>some (.ok (.ref S.length),S++[.dT []])
theorem Jx:SE K cl E zL KE:=λ ρ G σ H δ S r S' Q R e q qx=>by
 cases e
 intro p hp
 obtain ⟨s2,g2⟩:=R.st.push (o:=.dK []) R.rl.sub (Nw.of (o:=.dK []) hp) λ ρ' hr=>⟨[],aK,.nil⟩
 exact q _ rfl _ _ _ _ g2 s2 (.ref (by rw [<-R.st.len];simp))
theorem Jt:SE K cl E zq Mh:=λ ρ G σ H δ S r S' Q R e q qx=>by
 cases e
 intro p hp
 obtain ⟨s2,g2⟩:=R.st.push (o:=.dT []) R.rl.sub (Nw.of (o:=.dT []) hp) λ ρ' hr=>⟨[],aK,.nil⟩
 exact q _ rfl _ _ _ _ g2 s2 (.ref (by rw [<-R.st.len];simp))
noncomputable def eQ (x:W) (S:ag):Option (Nat×Ob):=match x with
 | .ref n=>(S[n]?).map λ o=>(n,o)
 | _=>none
theorem cZ {x:W} {S:ag} {n:Nat} {o:Ob} (h:eQ x S=some (n,o)):x=.ref n/\S[n]?=some o:=by
 unfold eQ at h
 split at h
 . obtain ⟨o',e1,e2⟩:=oM h
   cases e2
   exact ⟨rfl,e1⟩
 . cases h
noncomputable def gY (c:Str) (x:W) (S:ag):Option (Nat×List (Str×W)):=match eQ x S with
 | some (n,.ins c' fs)=>if c'=c then some (n,fs) else none
 | _=>none
theorem j4 {c:Str} {x:W} {S:ag} {n:Nat} {fs:List (Str×W)} (h:gY c x S=some (n,fs)):x=.ref n/\S[n]?=some (.ins c fs):=by
 unfold gY at h
 cases e:eQ x S with
 | none=>rw [e] at h;cases h
 | some p=>
  obtain ⟨m,o⟩:=p
  rw [e] at h
  cases o with
  | ins c' fs'=>
   by_cases hc:c'=c
   . subst hc
     cases (if_pos rfl).symm.trans h
     exact cZ e
   . cases (if_neg hc).symm.trans h
  | _=>cases h
noncomputable def nu (c f:Str) (fa:DS->ag->SM W):DS->ag->SM W:=λ δ S=>ao (fa δ S) λ x S1=>(gY c x S1).bind λ p=>hZ (p.2.lookup f) S1
theorem cy {ρ:List Addr} {G:Hp} {v:V} {n:Nat} (h:Dw K ρ G v (.ref n)):∃ a,v=.ref a/\ρ[n]?=some a:=by
 cases h with
 | ref e=>exact ⟨_,rfl,e⟩
theorem E6 {c f:Str} {ta:TE} {fa:DS->ag->SM W} (hc:qT K (cl c)) (hn:dh K (cl c) f) (ha:SE K cl E ta fa):SE K cl E (Ep K ta f) (nu c f fa):=λ ρ G σ H δ S r S' Q R e q qx=>
 c6 ha R e (λ x S1 e1 v ρ1 G1 H1 g1 s1 dv=>by
  obtain ⟨⟨n,fs⟩,e2,e3⟩:=oB e1
  obtain ⟨d,e4,rfl,rfl⟩:=br e3
  obtain ⟨rfl,e5⟩:=j4 e2
  obtain ⟨a,rfl,ea⟩:=cy dv
  obtain ⟨ga,dx,ws,k1,k2,k3,k4⟩:=s1.addr e5 ea
  obtain ⟨u,k5,k6⟩:=k4.lookup e4
  exact ⟨a,_,dx,ws,u,rfl,k1,hc,hn,k5,q d rfl u ρ1 G1 H1 g1 s1 k6⟩) qx
noncomputable def MI (K:Frag) (cl:Str->Addr) (f:List W->ag->SM W):Sp:=λ vs H Q E=>∃ ρ G S ds r S',bo G H/\SR K ρ cl G H S/\aB K ρ G vs ds/\f ds S=some (r,S')/\
 (∀ d,r=.ok d->∀ v ρ' G' H',GS ρ G H ρ' G' H'->SR K ρ' cl G' H' S'->Dw K ρ' G' v d->Q v H')/\(∀ c,r=.xc c->∀ ρ' G' H',GS ρ G H ρ' G' H'->SR K ρ' cl G' H' S'->E (.ref (cl c)) none H')
noncomputable def Ev (f:List W->Option W) (fa:DS->ag->SM (List W)):DS->ag->SM W:=λ δ S=>ao (fa δ S) λ ds S1=>hZ (f ds) S1
noncomputable def kT (K:Frag) (cl:Str->Addr) (f:List W->ag->SM W):Sp:=λ vs H Q _=>∃ ρ G S ds d S',bo G H/\SR K ρ cl G H S/\aB K ρ G vs ds/\f ds S=some (.ok d,S')/\
 ∀ v ρ' G' H',GS ρ G H ρ' G' H'->SR K ρ' cl G' H' S'->Dw K ρ' G' v d->Q v H'
noncomputable def AB (m:SM W):SM W:=match m with
 | some (.ok d,S)=>some (.ok d,S)
 | _=>none
theorem jI {m:SM W} {r:Rs W} {S':ag} (h:AB m=some (r,S')):∃ d,r=.ok d/\m=some (.ok d,S'):=by
 unfold AB at h
 split at h
 . cases h;exact ⟨_,rfl,rfl⟩
 . cases h
noncomputable def bY (f:List W->ag->SM W) (fa:DS->ag->SM (List W)):DS->ag->SM W:=λ δ S=>ao (fa δ S) λ ds S1=>AB (f ds S1)
theorem CJ {f:List W->ag->SM W} {t:TA} {fa:DS->ag->SM (List W)} {E':XK} (h:SA K cl E t fa):SE K cl E (p4 (kT K cl f) [] E' t) (bY f fa):=λ ρ G σ H δ S r S' Q R e q qx=>
 kR h R e (λ ds S1 e1 vs ρ1 G1 H1 g1 s1 da=>by
  obtain ⟨d,rfl,e2⟩:=jI e1
  exact ⟨ρ1,G1,S1,ds,d,S',g1.s,s1,by rw [List.append_nil];exact da,e2,λ v ρ2 G2 H2 g2 s2 dv=>q d rfl v ρ2 G2 H2 (g1.trans g2) s2 dv⟩) qx
noncomputable def cH (c m:Str) (f:List W->ag->SM W) (fo:DS->ag->SM W) (fa:DS->ag->SM (List W)):DS->ag->SM W:=λ δ S=>ao (fo δ S) λ x S1=>(gY c x S1).bind λ p=>if p.2.lookup m=none then ao (fa δ S1) λ ds S2=>AB (f (x::ds) S2) else none
theorem BA {c m:Str} {f:List W->ag->SM W} {to:TE} {t:TA} {fo:DS->ag->SM W} {fa:DS->ag->SM (List W)} {E':XK} (ho:SE K cl E to fo) (h:SA K cl E t fa):SE K cl E (DF (cl c) m (kT K cl f) [] E' to t) (cH c m f fo fa):=λ ρ G σ H δ S r S' Q R e q qx=>
 c6 ho R e (λ x S1 e1 v ρ1 G1 H1 g1 s1 dv=>by
  obtain ⟨⟨n,fs⟩,e2,e3⟩:=oB e1
  split at e3
  case isFalse=>cases e3
  rename_i hm
  obtain ⟨rfl,e5⟩:=j4 e2
  obtain ⟨a,rfl,ea⟩:=cy dv
  obtain ⟨ga,dx,ws,k1,k2,k3,k4⟩:=s1.addr e5 ea
  refine ⟨a,dx,ws,rfl,k1,k4.lookup_none hm,?_⟩
  exact kR h (R.grow g1 s1) e3 (λ ds S2 e6 vs ρ2 G2 H2 g2 s2 da=>by
   obtain ⟨d,rfl,e7⟩:=jI e6
   exact ⟨ρ2,G2,S2,.ref n::ds,d,S',g2.s,s2,by rw [List.append_nil];exact .cons ((dv.ext g2.r).same g2.g) da,e7,λ v ρ3 G3 H3 g3 s3 dv=>q d rfl v ρ3 G3 H3 (g1.trans (g2.trans g3)) s3 dv⟩) λ c hc ρ2 G2 H2 g2 s2=>qx c hc ρ2 G2 H2 (g1.trans g2) s2) qx
noncomputable def wm (c:Str) (f:List W->ag->SM W) (fa:DS->ag->SM (List W)):DS->ag->SM W:=λ δ S=>ao (fa δ S) λ ds S1=>ao (AB (f (.ref S1.length::ds) (S1++[.ins c []]))) λ d S2=>match d with
 | .none=>some (.ok (.ref S1.length),S2)
 | _=>none
theorem AH {c:Str} {f:List W->ag->SM W} {t:TA} {fa:DS->ag->SM (List W)} {E':XK} (h:SA K cl E t fa):SE K cl E (Dg (cl c) (kT K cl f) [] E' t) (wm c f fa):=λ ρ G σ H δ S r S' Q R e q qx=>
 kR h R e (λ ds S1 e1 vs ρ1 G1 H1 g1 s1 da=>by
  intro x dx hx hdx hne
  have na:Nw H1 (cp H1 dx (.own x)) dx (.own x):=.of hdx
  have gA:Gr G1 H1 G1 (cp H1 dx (.own x)):=.nwO g1.s na
  have hx':(cp H1 dx (.own x)) x=none:=by rw [aJ (Ne.symm hne)];exact hx
  have nb:Nw (cp H1 dx (.own x)) (cp (cp H1 dx (.own x)) x (.ins (cl c) dx [])) x (.ins (cl c) dx []):=.of hx'
  obtain ⟨s2,g2⟩:=(s1.grow gA).push (o:=.ins c []) gA.s nb λ ρ' hr=>⟨dx,[],aK,cD g1.s hdx,by rw [aJ hne];exact aK,.nil⟩
  have g12:=(GS.of (ρ:=ρ1) gA).trans g2
  have dx1:aB K (ρ1++[x]) G1 (.ref x::vs) (.ref S1.length::ds):=.cons (.ref (by rw [<-s1.len];simp)) (da.ext ⟨[x],rfl⟩)
  rcases aR e1 with ⟨c',em,rfl⟩ | ⟨d,S2,em,e2⟩
  . obtain ⟨_,z,_⟩:=jI em
    cases z
  . obtain ⟨d',z,em⟩:=jI em
    cases z
    refine ⟨_,G1,_,_,_,_,g2.s,s2,by rw [List.append_nil];exact dx1,em,λ v ρ3 G3 H3 g3 s3 dv=>?_⟩
    split at e2
    . cases e2
      exact ⟨tH dv,q _ rfl _ ρ3 G3 H3 (g1.trans (g12.trans g3)) s3 (.ref (by
       have h1:(ρ1++[x])[S1.length]?=some x:=by rw [<-s1.len];simp
       obtain ⟨t',ht⟩:=g3.r
       rw [<-ht,List.getElem?_append_left (oG h1).1]
       exact h1))⟩
    . cases e2) qx
noncomputable def GK (K:Frag) (cl:Str->Addr) (E:XK) (wi:TI) (f:DS->ag->SM (List W)):Prop:=
 ∀ (ρ:List Addr) (G:Hp) (σ:St) (H:Hp) (δ:DS) (S:ag) (r:Rs (List W)) (S':ag) (R':It->Hp->Prop),RS K cl ρ G H δ σ S->f δ S=some (r,S')->
  (∀ ds,r=.ok ds->∀ J ρ' G' H',GS ρ G H ρ' G' H'->SR K ρ' cl G' H' S'->Ja K ρ' J G' ds->R' J H')->
  (∀ c,r=.xc c->∀ ρ' G' H',GS ρ G H ρ' G' H'->SR K ρ' cl G' H' S'->E (.ref (cl c)) none H')->wi σ H R'
theorem zZ {wi:TI} {f:DS->Option (List W)} (h:∀ ρ,DI K ρ wi f):GK K cl E wi (ab f):=λ ρ G σ H δ S r S' R' R e q qx=>by
 obtain ⟨ds,e1,rfl,rfl⟩:=gN e
 exact h ρ G σ H δ ds R' R.rl e1 λ J G' H' g it=>q ds rfl J ρ G' H' (.of g) (R.st.grow g) it
noncomputable def oJ (f:DS->ag->SM W):DS->ag->SM (List W):=λ δ S=>ao (f δ S) λ x S1=>hZ (qe x) S1
theorem BW {t:TE} {f:DS->ag->SM W} (h:SE K cl E t f):GK K cl E (wL K t) (oJ f):=λ ρ G σ H δ S r S' R' R e q qx=>
 c6 h R e (λ x S1 e1 v ρ1 G1 H1 g1 s1 dv=>by
  obtain ⟨ds,e2,rfl,rfl⟩:=br e1
  cases dv with
  | lst sq da=>
   cases e2
   exact ⟨_,rfl,.inl ⟨⟨_,g1.s.seq sq⟩,q _ rfl _ ρ1 G1 H1 g1 s1 λ i G2 H2 a b=>nc b ((a.trans b).seq sq) (da.same a)⟩⟩
  | tup sq da=>
   cases e2
   exact ⟨_,rfl,.inr ⟨⟨_,g1.s.tup (eK.of sq)⟩,q _ rfl _ ρ1 G1 H1 g1 s1 λ i G2 H2 a b=>tP b ((a.trans b).tup (eK.of sq)) (da.same a)⟩⟩
  | _=>cases e2) qx
end
inductive pD where
 | nx (δ:DS)
 | bk (δ:DS)
 | ct (δ:DS)
 | rt (d:W)
 | xc (c:Str)
noncomputable abbrev SO:=Option (pD×ag)
section
variable {K:Frag} {cl:Str->Addr} {E:XK}
structure iY (K:Frag) (cl:Str->Addr) (ρ0:List Addr) (G0 H0:Hp) (ρ:List Addr) (G H:Hp) (δ:DS) (σ:St) (S:ag):Prop where
 rs:RS K cl ρ G H δ σ S
 gs:GS ρ0 G0 H0 ρ G H
 ow:∀ (i:Nat) p ds,δ[i]?=some (.own ds)->σ[i]?=some (some (.ref p))->H0 p=none
noncomputable def y0 (K:Frag) (cl:Str->Addr) (E:XK) (ρ0:List Addr) (G0 H0:Hp) (D:iq) (S:ag):pD->Prop
 | .nx δ=>∀ σ ρ G H,iY K cl ρ0 G0 H0 ρ G H δ σ S->D.nx σ H
 | .bk δ=>∀ σ ρ G H,iY K cl ρ0 G0 H0 ρ G H δ σ S->D.bk σ H
 | .ct δ=>∀ σ ρ G H,iY K cl ρ0 G0 H0 ρ G H δ σ S->D.ct σ H
 | .rt d=>∀ v ρ G H,GS ρ0 G0 H0 ρ G H->SR K ρ cl G H S->Dw K ρ G v d->D.rt v H
 | .xc c=>∀ ρ G H,GS ρ0 G0 H0 ρ G H->SR K ρ cl G H S->E (.ref (cl c)) none H
noncomputable def lR (K:Frag) (cl:Str->Addr) (E:XK) (t:TS) (f:DS->ag->SO):Prop:=
 ∀ (ρ0:List Addr) (G0 H0:Hp) (ρ:List Addr) (G:Hp) (σ:St) (H:Hp) (δ:DS) (S:ag) (o:pD) (S':ag) (D:iq),iY K cl ρ0 G0 H0 ρ G H δ σ S->f δ S=some (o,S')->y0 K cl E ρ0 G0 H0 D S' o->t D σ H
theorem iY.grow {ρ0:List Addr} {G0 H0:Hp} {ρ ρ':List Addr} {G H G' H':Hp} {δ:DS} {σ:St} {S S':ag} (I:iY K cl ρ0 G0 H0 ρ G H δ σ S) (g:GS ρ G H ρ' G' H') (s:SR K ρ' cl G' H' S'):iY K cl ρ0 G0 H0 ρ' G' H' δ σ S':=⟨I.rs.grow g s,I.gs.trans g,I.ow⟩
theorem iY.sub {ρ0:List Addr} {G0 H0:Hp} {ρ:List Addr} {G H:Hp} {δ δ':DS} {σ σ':St} {S:ag} (I:iY K cl ρ0 G0 H0 ρ G H δ σ S) (R:Rl K ρ G H δ' σ') (o:ft δ' σ' δ σ):iY K cl ρ0 G0 H0 ρ G H δ' σ' S:=
 ⟨⟨R,I.rs.st,λ i ds p h1 h2=>by
  obtain ⟨es,h3,h4⟩:=o i ds p h1 h2
  exact I.rs.ap i es p h3 h4⟩,I.gs,λ i p ds h1 h2=>by
  obtain ⟨es,h3,h4⟩:=o i ds p h1 h2
  exact I.ow i p es h3 h4⟩
theorem iY.base {ρ0:List Addr} {G0 H0:Hp} {ρ:List Addr} {G H:Hp} {δ:DS} {σ:St} {S:ag} (I:iY K cl ρ0 G0 H0 ρ G H δ σ S):iY K cl ρ G H0 ρ G H δ σ S:=
 ⟨I.rs,⟨List.prefix_refl _,.refl _,I.gs.s,λ b o hb e=>I.gs.h b o (λ h=>hb (I.gs.r.subset h)) e,I.gs.k,λ _ _ e=>e,λ a h1 h2=>absurd h1 h2⟩,I.ow⟩
theorem GS.rebase {ρ0:List Addr} {G0 H0:Hp} {ρ:List Addr} {G H:Hp} {ρ':List Addr} {G' H':Hp} (a:GS ρ0 G0 H0 ρ G H) (b:GS ρ G H0 ρ' G' H'):GS ρ0 G0 H0 ρ' G' H':=
 ⟨a.r.trans b.r,a.g.trans b.g,b.s,λ c o hc e=>b.h c o (λ h=>by rw [a.f c h hc] at e;cases e) e,b.k,λ c h1 h2=>b.n c h1 (a.n c h1 h2),λ c h1 h2=>by
  by_cases h3:c∈ρ
  . exact a.f c h3 h2
  . exact b.f c h1 h3⟩
theorem iY.rebase {ρ0:List Addr} {G0 H0:Hp} {ρ:List Addr} {G H:Hp} {ρ':List Addr} {G' H':Hp} {δ:DS} {σ:St} {S:ag} (a:GS ρ0 G0 H0 ρ G H) (I:iY K cl ρ G H0 ρ' G' H' δ σ S):iY K cl ρ0 G0 H0 ρ' G' H' δ σ S:=⟨I.rs,a.rebase I.gs,I.ow⟩
noncomputable def sk (δ:DS) (σ:St) (b:Addr):Prop:=∃ (i:Nat) (ds:List W),δ[i]?=some (.own ds)/\σ[i]?=some (some (.ref b))
noncomputable def hideO (δ:DS) (σ:St) (H:Hp):Hp:=λ b=>@ite _ (sk δ σ b) (Classical.propDecidable _) none (H b)
theorem pv {δ:DS} {σ:St} {H:Hp} {b:Addr} (h:sk δ σ b):hideO δ σ H b=none:=by
 unfold hideO
 rw [if_pos h]
theorem cX {δ:DS} {σ:St} {H:Hp} {b:Addr} (h:¬ sk δ σ b):hideO δ σ H b=H b:=by
 unfold hideO
 rw [if_neg h]
noncomputable def Ab:cY->pD
 | .nx δ=>.nx δ
 | .bk δ=>.bk δ
 | .ct δ=>.ct δ
 | .rt d=>.rt d
noncomputable def aq (f:DS->Option cY):DS->ag->SO:=λ δ S=>(f δ).map λ o=>(Ab o,S)
theorem CD {t:TS} {f:DS->Option cY} (h:∀ ρ,n9 K ρ t f):lR K cl E t (aq f):=λ ρ0 G0 H0 ρ G σ H δ S o S' D I e p=>by
 obtain ⟨o',e1,e2⟩:=oM e
 cases e2
 have same0:bo (hideO δ σ H) H:=λ b u hb=>by
  by_cases ho:sk δ σ b
  . rw [pv ho] at hb;cases hb
  . rw [cX ho] at hb;exact hb
 have sameG:bo G (hideO δ σ H):=λ b u hb=>by
  by_cases ho:sk δ σ b
  . obtain ⟨i,ds,k1,k2⟩:=ho
    obtain ⟨o,m1,q,vs,rfl,m3,m4,m5⟩:=I.rs.rl.sl i _ k1
    rw [k2] at m1
    cases m1
    rw [m3] at hb
    cases hb
  . rw [cX ho];exact I.gs.s b u hb
 have notown:∀ a,a∈ρ->¬ sk δ σ a:=λ a ha hy0=>by obtain ⟨i,ds,k1,k2⟩:=hy0;exact I.rs.ap i ds a k1 k2 ha
 have ownlst:∀ b,sk δ σ b->∃ vs,H b=some (.lst vs):=λ b hy0=>by
  obtain ⟨i,ds,k1,k2⟩:=hy0
  obtain ⟨o,m1,q,vs,rfl,m3,m4,m5⟩:=I.rs.rl.sl i _ k1
  rw [k2] at m1
  cases m1
  exact ⟨vs,m4⟩
 have sr0:SR K ρ cl G (hideO δ σ H) S:=⟨I.rs.st.len,I.rs.st.nd,λ n ob en=>by
  obtain ⟨a,k1,k2,k3⟩:=I.rs.st.ob n ob en
  refine ⟨a,k1,k2,k3.move (List.prefix_refl _) (.refl _) (cX (notown a (List.mem_of_getElem? k1))) λ dx d1 d2=>⟨?_,d1⟩⟩
  rw [cX λ ho=>by
   obtain ⟨vs,hv⟩:=ownlst dx ho
   rw [d2] at hv
   cases hv]
  exact d2⟩
 have iv:Iv K ρ G (hideO δ σ H) G H δ σ:=⟨I.rs.rl,⟨.refl _,same0,I.gs.s,λ _ _ e=>e⟩,λ i q ds k1 k2=>pv ⟨i,ds,k1,k2⟩⟩
 have h0own:∀ b,H0 b≠none->¬ sk δ σ b:=λ b hb hy0=>by obtain ⟨i,ds,k1,k2⟩:=hy0;exact hb (I.ow i b ds k1 k2)
 have gs:∀ {G' H':Hp},Gr G (hideO δ σ H) G' H'->GS ρ0 G0 H0 ρ G' H':=λ {G' H'} g=>
  ⟨I.gs.r,I.gs.g.trans g.g,g.s,λ b u hb eb=>g.h b u (by rw [cX (h0own b (by rw [eb];simp))];exact I.gs.h b u hb eb),λ b hb=>mq g.h (by rw [cX (h0own b hb)];exact I.gs.k b hb),λ b h1 h2=>g.n b (by rw [cX (h0own b h1)];exact I.gs.k b h1) (I.gs.n b h1 h2),I.gs.f⟩
 have nx:∀ {δ':DS} {σ':St} {G' H':Hp},Iv K ρ G (hideO δ σ H) G' H' δ' σ'->iY K cl ρ0 G0 H0 ρ G' H' δ' σ' S:=λ {δ' σ' G' H'} I'=>
  ⟨⟨I'.rl,sr0.grow I'.gr,λ i ds q k1 k2 hq=>by
   have:=I'.ow i q ds k1 k2
   rw [cX (notown q hq)] at this
   obtain ⟨j,hj,ej⟩:=List.mem_iff_getElem.mp hq
   obtain ⟨b,m1,m2,m3⟩:=I.rs.st.ob j (S[j]'(by rw [<-I.rs.st.len];exact hj)) (List.getElem?_eq_getElem _)
   rw [List.getElem?_eq_getElem hj,ej] at m1
   cases m1
   obtain ⟨y,hy,_⟩:=m3.some
   rw [this] at hy
   cases hy⟩,gs I'.gr,λ i q ds k1 k2=>by
   have h1:=I'.ow i q ds k1 k2
   cases h2:H0 q with
   | none=>rfl
   | some u=>
    exfalso
    have h3:=I.gs.k q (by rw [h2];simp)
    rw [cX (h0own q (by rw [h2];simp))] at h1
    exact h3 h1⟩
 refine h ρ G (hideO δ σ H) G σ H δ o' D iv e1 ?_
 cases o' with
 | nx δ'=>exact λ σ' G' H' I'=>p σ' ρ G' H' (nx I')
 | bk δ'=>exact λ σ' G' H' I'=>p σ' ρ G' H' (nx I')
 | ct δ'=>exact λ σ' G' H' I'=>p σ' ρ G' H' (nx I')
 | rt d=>exact λ v G' H' g dv=>p v ρ G' H' (gs g) (sr0.grow g) dv
noncomputable def aC (f g:DS->ag->SO):DS->ag->SO:=λ δ S=>match f δ S with
 | some (.nx δ',S')=>g δ' S'
 | o=>o
theorem ym {t u:TS} {f g:DS->ag->SO} (h1:lR K cl E t f) (h2:lR K cl E u g):lR K cl E (E9 t u) (aC f g):=λ ρ0 G0 H0 ρ G σ H δ S o S' D I e p=>by
 unfold aC at e
 cases ef:f δ S with
 | none=>rw [ef] at e;cases e
 | some r=>
  obtain ⟨o1,S1⟩:=r
  rw [ef] at e
  refine h1 ρ0 G0 H0 ρ G σ H δ S o1 S1 _ I ef ?_
  cases o1 with
  | nx δ'=>exact λ σ' ρ' G' H' I'=>h2 ρ0 G0 H0 ρ' G' σ' H' δ' S1 o S' D I' e p
  | bk δ'=>cases e;exact p
  | ct δ'=>cases e;exact p
  | rt d=>cases e;exact p
  | xc c=>cases e;exact p
noncomputable def jm {α:Type} (m:SM α) (k:α->ag->SO):SO:=match m with
 | some (.ok a,S)=>k a S
 | some (.xc c,S)=>some (.xc c,S)
 | none=>none
theorem jM {α:Type} {m:SM α} {k:α->ag->SO} {o:pD} {S':ag} (h:jm m k=some (o,S')):(∃ c,m=some (.xc c,S')/\o=.xc c)∨∃ a S1,m=some (.ok a,S1)/\k a S1=some (o,S'):=by
 unfold jm at h
 split at h
 . exact .inr ⟨_,_,rfl,h⟩
 . cases h
   exact .inl ⟨_,rfl,rfl⟩
 . cases h
theorem dQ {t:TE} {f:DS->ag->SM W} (h:SE K cl E t f) {ρ0:List Addr} {G0 H0:Hp} {ρ:List Addr} {G:Hp} {σ:St} {H:Hp} {δ:DS} {S:ag} {o:pD} {S':ag} {D:iq} {k:W->ag->SO} {P:V->Hp->Prop} (I:iY K cl ρ0 G0 H0 ρ G H δ σ S) (e:jm (f δ S) k=some (o,S')) (p:y0 K cl E ρ0 G0 H0 D S' o)
 (q:∀ d S1,k d S1=some (o,S')->∀ v ρ' G' H',GS ρ G H ρ' G' H'->SR K ρ' cl G' H' S1->Dw K ρ' G' v d->P v H'):t σ H P:=by
 rcases jM e with ⟨c,em,rfl⟩ | ⟨d,S1,em,e⟩
 . exact h ρ G σ H δ S _ _ _ I.rs em (λ d hd=>by cases hd) (λ c' hc ρ1 G1 H1 g1 s1=>by cases hc;exact p ρ1 G1 H1 (I.gs.trans g1) s1)
 . exact h ρ G σ H δ S _ _ _ I.rs em (λ d' hd=>by cases hd;exact q _ _ e) (λ c' hc=>by cases hc)
theorem vL {t:TT} {f:DS->ag->SM Bool} (h:ST K cl E t f) {ρ0:List Addr} {G0 H0:Hp} {ρ:List Addr} {G:Hp} {σ:St} {H:Hp} {δ:DS} {S:ag} {o:pD} {S':ag} {D:iq} {k:Bool->ag->SO} {P:Bool->Hp->Prop} (I:iY K cl ρ0 G0 H0 ρ G H δ σ S) (e:jm (f δ S) k=some (o,S')) (p:y0 K cl E ρ0 G0 H0 D S' o)
 (q:∀ d S1,k d S1=some (o,S')->∀ ρ' G' H',GS ρ G H ρ' G' H'->SR K ρ' cl G' H' S1->P d H'):t σ H P:=by
 rcases jM e with ⟨c,em,rfl⟩ | ⟨d,S1,em,e⟩
 . exact h ρ G σ H δ S _ _ _ I.rs em (λ d hd=>by cases hd) (λ c' hc ρ1 G1 H1 g1 s1=>by cases hc;exact p ρ1 G1 H1 (I.gs.trans g1) s1)
 . exact h ρ G σ H δ S _ _ _ I.rs em (λ d' hd=>by cases hd;exact q _ _ e) (λ c' hc=>by cases hc)
noncomputable def bX (c:DS->ag->SM Bool) (f g:DS->ag->SO):DS->ag->SO:=λ δ S=>jm (c δ S) λ b S1=>if b=true then f δ S1 else g δ S1
theorem CY {tc:TT} {t u:TS} {c:DS->ag->SM Bool} {f g:DS->ag->SO} (hc:ST K cl E tc c) (h1:lR K cl E t f) (h2:lR K cl E u g):lR K cl E (FP tc t u) (bX c f g):=λ ρ0 G0 H0 ρ G σ H δ S o S' D I e p=>
 vL hc I e p λ b S1 e1 ρ1 G1 H1 g1 s1=>by
  cases b with
  | true=>exact h1 ρ0 G0 H0 ρ1 G1 σ H1 δ S1 o S' D (I.grow g1 s1) e1 p
  | false=>exact h2 ρ0 G0 H0 ρ1 G1 σ H1 δ S1 o S' D (I.grow g1 s1) e1 p
noncomputable def fL (f:DS->ag->SM W):DS->ag->SO:=λ δ S=>jm (f δ S) λ d S1=>some (.rt d,S1)
theorem zX {t:TE} {f:DS->ag->SM W} (h:SE K cl E t f):lR K cl E (FJ t) (fL f):=λ ρ0 G0 H0 ρ G σ H δ S o S' D I e p=>
 dQ h I e p λ d S1 e1 v ρ1 G1 H1 g1 s1 dv=>by
  cases e1
  exact p v ρ1 G1 H1 (I.gs.trans g1) s1 dv
noncomputable def cG (f:DS->ag->SM W) (h:W->DS->Option DS):DS->ag->SO:=λ δ S=>jm (f δ S) λ d S1=>(h d δ).map λ δ'=>(.nx δ',S1)
theorem yd {t:TE} {g:TG} {f:DS->ag->SM W} {h:W->DS->Option DS} (h1:SE K cl E t f) (h2:∀ ρ,DG K ρ g h):lR K cl E (o0 t g) (cG f h):=λ ρ0 G0 H0 ρ G σ H δ S o S' D I e p=>
 dQ h1 I e p λ d S1 e1 v ρ1 G1 H1 g1 s1 dv=>by
  obtain ⟨δ',e2,e3⟩:=oM e1
  cases e3
  have I1:=I.grow g1 s1
  exact h2 ρ1 G1 H1 δ σ v d δ' _ I1.rs.rl dv e2 λ σ' R o=>p σ' ρ1 G1 H1 (I1.sub R o)
noncomputable def b5 (f:DS->ag->SM W):DS->ag->SO:=λ δ S=>jm (f δ S) λ _ S1=>some (.nx δ,S1)
theorem vH {t:TE} {f:DS->ag->SM W} (h:SE K cl E t f):lR K cl E (rK t) (b5 f):=λ ρ0 G0 H0 ρ G σ H δ S o S' D I e p=>
 dQ h I e p λ d S1 e1 v ρ1 G1 H1 g1 s1 dv=>by
  cases e1
  exact p σ ρ1 G1 H1 (I.grow g1 s1)
noncomputable def Hl (i:Nat) (f:DS->ag->SO):DS->ag->SO:=λ δ S=>f (frz i δ) S
noncomputable def vY (c f:Str) (fo fv:DS->ag->SM W):DS->ag->SO:=λ δ S=>jm (fv δ S) λ d S1=>jm (fo δ S1) λ x S2=>(gY c x S2).bind λ p=>if p.2.length<1000 then some (.nx δ,S2.set p.1 (.ins c (xq f d p.2))) else none
theorem yS {c f:Str} {to tv:TE} {fo fv:DS->ag->SM W} (hc:qT K (cl c)) (hn:dh K (cl c) f) (ho:SE K cl E to fo) (hv:SE K cl E tv fv):lR K cl E (IJ K to tv f) (vY c f fo fv):=λ ρ0 G0 H0 ρ G σ H δ S o S' D I e p=>
 dQ hv I e p λ d S1 e1 v ρ1 G1 H1 g1 s1 dv=>by
  have I1:=I.grow g1 s1
  refine dQ ho I1 e1 p λ x S2 e2 u ρ2 G2 H2 g2 s2 du=>?_
  obtain ⟨⟨n,fs⟩,e3,e4⟩:=oB e2
  split at e4
  case isFalse=>cases e4
  rename_i hl
  cases e4
  obtain ⟨rfl,e5⟩:=j4 e3
  obtain ⟨a,rfl,ea⟩:=cy du
  obtain ⟨ga,dx,ws,k1,k2,k3,k4⟩:=s2.addr e5 ea
  have I2:=I1.grow g2 s2
  have hda:dx≠a:=λ z=>by rw [z,k1] at k3;cases k3
  obtain ⟨s3,g3⟩:=s2.put (x:=.ins (cl c) dx (putF f v ws)) (o':=.ins c (xq f d fs)) g2.s e5 ea (λ b z=>by cases z) ⟨dx,_,aK,k2,by rw [aJ hda];exact k3,k4.putF ((dv.ext g2.r).same g2.g)⟩
  exact ⟨a,_,dx,ws,rfl,k1,hc,hn,by rw [<-k4.length];exact hl,p σ ρ2 G2 _ (I2.grow g3 s3)⟩
noncomputable def bv (h:W->DS->Option DS) (fb:DS->ag->SO):List W->DS->ag->SO
 | [],δ,S=>some (.nx δ,S)
 | d::ds,δ,S=>(h d δ).bind λ δ2=>match fb δ2 S with
  | some (.nx δ',S')=>bv h fb ds δ' S'
  | some (.ct δ',S')=>bv h fb ds δ' S'
  | some (.bk δ',S')=>some (.nx δ',S')
  | some (.rt d,S')=>some (.rt d,S')
  | some (.xc c,S')=>some (.xc c,S')
  | none=>none
noncomputable def eY (fi:DS->ag->SM (List W)) (h:W->DS->Option DS) (fb:DS->ag->SO):DS->ag->SO:=λ δ S=>jm (fi δ S) λ ds S1=>bv h fb ds δ S1
theorem yB {wi:TI} {g:TG} {tb:TS} {fi:DS->ag->SM (List W)} {h:W->DS->Option DS} {fb:DS->ag->SO} (hi:GK K cl E wi fi) (hg:∀ ρ,DG K ρ g h) (hb:lR K cl E tb fb):lR K cl E (AN wi g tb) (eY fi h fb):=λ ρ0 G0 H0 ρ G σ H δ S o S' D I e p=>by
 rcases jM e with ⟨c,em,rfl⟩ | ⟨ds,S1,em,e⟩
 . exact hi ρ G σ H δ S _ _ _ I.rs em (λ d hd=>by cases hd) (λ c' hc ρ1 G1 H1 g1 s1=>by cases hc;exact p ρ1 G1 H1 (I.gs.trans g1) s1)
 refine hi ρ G σ H δ S _ _ _ I.rs em (λ ds' hd=>?_) (λ c' hc=>by cases hc)
 cases hd
 intro J ρ1 G1 H1 g1 s1 it
 refine ⟨λ i m σ H=>m=ds.length-i/\i<=ds.length/\∃ ρ2 G2 δ2 S2,iY K cl ρ0 G0 H0 ρ2 G2 H δ2 σ S2/\ρ1 <+: ρ2/\bo G1 G2/\bv h fb (ds.drop i) δ2 S2=some (o,S'),⟨ds.length,by simp,Nat.zero_le _,ρ1,G1,δ,S1,I.grow g1 s1,List.prefix_refl _,.refl _,by simpa using e⟩,?_⟩
 rintro i m σ2 H2 ⟨rfl,hil,ρ2,G2,δ2,S2,I2,pr2,s2,e2⟩
 have ia:=it i G2 H2 s2 I2.gs.s
 by_cases hlt:i<ds.length
 . refine .inr ?_
   obtain ⟨go,step⟩:=ia.1 ds[i] (List.getElem?_eq_getElem hlt)
   rw [List.drop_eq_getElem_cons hlt] at e2
   obtain ⟨δ3,e3,e4⟩:=oB e2
   have turn:∀ (P:iq) (o1:pD) (S3:ag),fb δ3 S2=some (o1,S3)->(∀ G3 H3,Gr G2 H2 G3 H3->y0 K cl E ρ2 G3 H0 P S3 o1)->∀ x H',J.yld i H2 x H'->g x σ2 H' λ σ2 H2=>tb P σ2 H2:=λ P o1 S3 ef hp x H' y=>by
    obtain ⟨G3,g3,dx⟩:=step x H' y
    have I3:=I2.grow (.of g3) (I2.rs.st.grow g3)
    refine hg ρ2 G3 H' δ2 σ2 x _ δ3 _ I3.rs.rl (dx.ext pr2) e3 λ σ3 R3 o3=>?_
    exact hb ρ2 G3 H0 ρ2 G3 σ3 H' δ3 S2 o1 S3 P (I3.sub R3 o3).base ef (hp G3 H' g3)
   have back:∀ {G3 H3:Hp},Gr G2 H2 G3 H3->∀ {ρ4:List Addr} {G4 H4:Hp} {σ4:St} {δ4:DS} {S4:ag},iY K cl ρ2 G3 H0 ρ4 G4 H4 δ4 σ4 S4->iY K cl ρ0 G0 H0 ρ4 G4 H4 δ4 σ4 S4/\ρ1 <+: ρ4/\bo G1 G4:=λ {G3 H3} g3 {ρ4 G4 H4 σ4 δ4 S4} I4=>⟨I4.rebase (I2.gs.trans (.of g3)),pr2.trans I4.gs.r,s2.trans (g3.g.trans I4.gs.g)⟩
   cases ef:fb δ3 S2 with
   | none=>rw [ef] at e4;cases e4
   | some r=>
    obtain ⟨o1,S3⟩:=r
    rw [ef] at e4
    cases o1 with
    | nx δ'=>
     exact ⟨go,λ σ' H'=>∃ ρ' G',iY K cl ρ0 G0 H0 ρ' G' H' δ' σ' S3/\ρ1 <+: ρ'/\bo G1 G',λ σ' H' hy0=>by obtain ⟨ρ',G',I',q1,q2⟩:=hy0;exact ⟨ds.length-(i+1),by omega,rfl,hlt,ρ',G',δ',S3,I',q1,q2,e4⟩,turn _ _ _ ef λ G3 H3 g3 σ5 ρ5 G5 H5 I5=>⟨ρ5,G5,back g3 I5⟩⟩
    | ct δ'=>
     exact ⟨go,λ σ' H'=>∃ ρ' G',iY K cl ρ0 G0 H0 ρ' G' H' δ' σ' S3/\ρ1 <+: ρ'/\bo G1 G',λ σ' H' hy0=>by obtain ⟨ρ',G',I',q1,q2⟩:=hy0;exact ⟨ds.length-(i+1),by omega,rfl,hlt,ρ',G',δ',S3,I',q1,q2,e4⟩,turn _ _ _ ef λ G3 H3 g3 σ5 ρ5 G5 H5 I5=>⟨ρ5,G5,back g3 I5⟩⟩
    | bk δ'=>
     cases e4
     exact ⟨go,λ _ _=>False,λ _ _ z=>z.elim,turn _ _ _ ef λ G3 H3 g3 σ5 ρ5 G5 H5 I5=>p σ5 ρ5 G5 H5 (back g3 I5).1⟩
    | rt d=>
     cases e4
     exact ⟨go,λ _ _=>False,λ _ _ z=>z.elim,turn _ _ _ ef λ G3 H3 g3 v ρ5 G5 H5 g5 s5 dv=>p v ρ5 G5 H5 ((I2.gs.trans (.of g3)).rebase g5) s5 dv⟩
    | xc c=>
     cases e4
     exact ⟨go,λ _ _=>False,λ _ _ z=>z.elim,turn _ _ _ ef λ G3 H3 g3 ρ5 G5 H5 g5 s5=>p ρ5 G5 H5 ((I2.gs.trans (.of g3)).rebase g5) s5⟩
 . have hi':i=ds.length:=by omega
   subst hi'
   rw [List.drop_length] at e2
   cases e2
   exact .inl ⟨ia.2 (Nat.le_refl _),p σ2 ρ2 G2 H2 I2⟩
noncomputable def cW (c:DS->ag->SM Bool) (fb:DS->ag->SO):Nat->DS->ag->SO
 | 0,_,_=>none
 | n+1,δ,S=>jm (c δ S) λ b S1=>if b=true then match fb δ S1 with
  | some (.nx δ',S')=>cW c fb n δ' S'
  | some (.ct δ',S')=>cW c fb n δ' S'
  | some (.bk δ',S')=>some (.nx δ',S')
  | some (.rt d,S')=>some (.rt d,S')
  | some (.xc x,S')=>some (.xc x,S')
  | none=>none
  else some (.nx δ,S1)
theorem r6 {n:Nat} {tc:TT} {tb:TS} {c:DS->ag->SM Bool} {fb:DS->ag->SO} (hc:ST K cl E tc c) (hb:lR K cl E tb fb):lR K cl E (yI tc tb) (cW c fb n):=λ ρ0 G0 H0 ρ G σ H δ S o S' D I e p=>by
 refine ⟨λ m σ H=>∃ ρ G δ S,iY K cl ρ0 G0 H0 ρ G H δ σ S/\cW c fb m δ S=some (o,S'),⟨n,ρ,G,δ,S,I,e⟩,?_⟩
 rintro m σ2 H2 ⟨ρ2,G2,δ2,S2,I2,e2⟩
 cases m with
 | zero=>cases e2
 | succ m=>
  refine vL hc I2 e2 p λ b S3 e3 ρ3 G3 H3 g3 s3=>?_
  have I3:=I2.grow g3 s3
  cases b with
  | false=>cases e3;exact p σ2 ρ3 G3 H3 I3
  | true=>
   rw [if_pos rfl] at e3 ⊢
   cases ef:fb δ2 S3 with
   | none=>rw [ef] at e3;cases e3
   | some r=>
    obtain ⟨o1,S4⟩:=r
    rw [ef] at e3
    cases o1 with
    | nx δ'=>exact ⟨λ σ' H'=>∃ ρ' G',iY K cl ρ0 G0 H0 ρ' G' H' δ' σ' S4,λ σ' H' hy0=>by obtain ⟨ρ',G',I'⟩:=hy0;exact ⟨m,Nat.lt_succ_self _,ρ',G',δ',S4,I',e3⟩,hb ρ0 G0 H0 ρ3 G3 σ2 H3 δ2 S3 _ _ _ I3 ef λ σ5 ρ5 G5 H5 I5=>⟨ρ5,G5,I5⟩⟩
    | ct δ'=>exact ⟨λ σ' H'=>∃ ρ' G',iY K cl ρ0 G0 H0 ρ' G' H' δ' σ' S4,λ σ' H' hy0=>by obtain ⟨ρ',G',I'⟩:=hy0;exact ⟨m,Nat.lt_succ_self _,ρ',G',δ',S4,I',e3⟩,hb ρ0 G0 H0 ρ3 G3 σ2 H3 δ2 S3 _ _ _ I3 ef λ σ5 ρ5 G5 H5 I5=>⟨ρ5,G5,I5⟩⟩
    | bk δ'=>cases e3;exact ⟨λ _ _=>False,λ _ _ z=>z.elim,hb ρ0 G0 H0 ρ3 G3 σ2 H3 δ2 S3 _ _ _ I3 ef λ σ5 ρ5 G5 H5 I5=>p σ5 ρ5 G5 H5 I5⟩
    | rt d=>cases e3;exact ⟨λ _ _=>False,λ _ _ z=>z.elim,hb ρ0 G0 H0 ρ3 G3 σ2 H3 δ2 S3 _ _ _ I3 ef p⟩
    | xc x=>cases e3;exact ⟨λ _ _=>False,λ _ _ z=>z.elim,hb ρ0 G0 H0 ρ3 G3 σ2 H3 δ2 S3 _ _ _ I3 ef p⟩
noncomputable def eA:SO->SM W
 | some (.rt d,S)=>some (.ok d,S)
 | some (.nx _,S)=>some (.ok .none,S)
 | some (.xc c,S)=>some (.xc c,S)
 | _=>none
noncomputable def cB (a n:Nat) (fb:DS->ag->SO):List W->ag->SM W:=λ ds S=>if ds.length=a then eA (fb (bB n ds) S) else none
theorem oK {a n:Nat} {fb:DS->ag->SO} {ds:List W} {S:ag} {r:Rs W×ag} (h:cB a n fb ds S=some r):ds.length=a:=by
 unfold cB at h
 split at h
 . assumption
 . cases h
theorem KL {t:TS} {fb:DS->ag->SO} {N:List Str} {a n:Nat} {vs:List V} {H:Hp} {Q:VK} {E:XK} (hn:N.length=n) (h:lR K cl E t fb) (hsp:MI K cl (cB a n fb) vs H Q E):t { nx:=λ _ H'=>Q .non H',rt:=Q } (start N vs) H:=by
 subst hn
 obtain ⟨ρ,G,S,ds,r,S',s,sr,da,e,q,qx⟩:=hsp
 have R:=re (N:=N) s da
 have I:iY K cl ρ G H ρ G H (bB N.length ds) (start N vs) S:=⟨⟨R,sr,λ i ds' p h1=>absurd h1 gG⟩,.refl s,λ i p ds' h1=>absurd h1 gG⟩
 unfold cB at e
 rw [if_pos (oK (show cB a N.length fb ds S=some (r,S') from e))] at e
 cases ef:fb (bB N.length ds) S with
 | none=>rw [ef] at e;cases e
 | some o=>
  obtain ⟨o,S1⟩:=o
  rw [ef] at e
  refine h ρ G H ρ G _ H _ S o S1 _ I ef ?_
  cases o with
  | nx δ=>cases e;exact λ σ' ρ' G' H' I'=>q _ rfl _ ρ' G' H' I'.gs I'.rs.st .non
  | rt d'=>cases e;exact λ v ρ' G' H' g s dv=>q _ rfl v ρ' G' H' g s dv
  | xc c=>cases e;exact λ ρ' G' H' g s=>qx _ rfl ρ' G' H' g s
  | bk _=>cases e
  | ct _=>cases e
theorem BK {f:List W->ag->SM W} {a:Nat} {vs:List V} {H:Hp} {Q:VK} {E:XK} (hf:∀ ds S r,f ds S=some r->ds.length=a) (h:kT K cl f vs H Q E):vs.length=a:=by
 obtain ⟨ρ,G,S,ds,r,S',s,sr,da,e,q⟩:=h
 rw [da.length]
 exact hf ds S _ e
theorem Hj {t:TS} {fb:DS->ag->SO} {N:List Str} {a n:Nat} {vs:List V} {H:Hp} {Q:VK} {E:XK} (hn:N.length=n) (h:lR K cl E0 t fb) (hsp:kT K cl (cB a n fb) vs H Q E):t { nx:=λ _ H'=>Q .non H',rt:=Q } (start N vs) H:=by
 obtain ⟨ρ,G,S,ds,d,S',s,sr,da,e,q⟩:=hsp
 exact KL (E:=E0) hn h ⟨ρ,G,S,ds,.ok d,S',s,sr,da,e,(λ d' hd=>by cases hd;exact q),(λ c hc=>by cases hc)⟩
theorem xY {g:List W->ag->SM W} {vs:List V} {H:Hp} {Q:VK} {E:XK} (hg:∀ ds S,g ds S=none) (h:kT K cl g vs H Q E):False:=by
 obtain ⟨ρ,G,S,ds,r,S',s,sr,da,e,q⟩:=h
 rw [hg] at e
 cases e
theorem ez.no0 {P:Program} {w:World} {mg:Str->Option Value} {base:Heap} {CX:uJ} {k:Nat} {f:Addr} {fd:FuncData} {ps:List Str} {g:List W->ag->SM W} (hg:∀ ds S,g ds S=none):ez P w K mg base CX k f fd ps (kT K cl g):=
 ⟨λ _ _ _ _ h=>(xY hg h).elim,λ _ _ _ _ _ _ _ _ _ _ _ _ _ h=>(xY hg h).elim⟩
end
section
variable {X:Cx} {pins:List (Addr×Obj)} {σ:St} {H:Hp} {s:Shared} {a:Addr} {kvs:List (aF×V)} {k:aF} {u:Value} {A:Around} {E:Value->Shared->Prop}
end
section
variable {X:Cx} {o e f:Expr} {td ty tx:TE} {apos cpos:Pos}
end
section
variable {prog:Program} {w:World} {A:Around} {E:Value->Shared->Prop} {s:Shared}
end
section
variable {X:Cx} {pos:Pos}
end
section
variable {K:Frag} {ρ:List Addr}
noncomputable def JZ:W->Option V
 | .none=>some .non
 | .bool b=>some (.bl b)
 | .int i=>some (.int i)
 | .str x=>some (.str x)
 | _=>none
noncomputable def xt:List W->Option (List V)
 | []=>some []
 | d::ds=>(JZ d).bind λ v=>(xt ds).map (v::·)
theorem tq {H:Hp} {v u:V} {d:W} (h:Dw K ρ H v d) (e:JZ d=some u):v=u/\f8 u=true:=by
 cases h <;> first | (cases e;exact ⟨rfl,rfl⟩) | cases e
theorem qa {H:Hp} {vs us:List V} {ds:List W} (h:aB K ρ H vs ds):xt ds=some us->vs=us/\us.all f8=true:=
 h.ind (M:=λ vs ds=>∀ us,xt ds=some us->vs=us/\us.all f8=true) (λ us e=>by cases e;exact ⟨rfl,rfl⟩) (λ _ _ _ _ a ih us e=>by
  obtain ⟨u,e1,e⟩:=oB e
  obtain ⟨us,e2,rfl⟩:=oM e
  obtain ⟨h1,h2⟩:=tq a e1
  obtain ⟨h3,h4⟩:=ih _ e2
  exact ⟨by rw [h1,h3],by rw [List.all_cons,h2,h4];rfl⟩) us
noncomputable def lQ (d e:W):Option Bool:=(qe e).bind λ ds=>(JZ d).bind λ v=>(xt ds).map λ vs=>EO v vs
noncomputable def iE (d e:W):Option Bool:=(lQ d e).map (!·)
theorem yw {H:Hp} {x y:V} {d e:W} {b:Bool} (hx:Dw K ρ H x d) (hy:Dw K ρ H y e) (h:lQ d e=some b):∃ p xs,y=.ref p/\(cC K H p xs∨eK K H p xs)/\f8 x=true/\xs.all f8=true/\EO x xs=b:=by
 obtain ⟨ds,e1,h⟩:=oB h
 obtain ⟨v,e2,h⟩:=oB h
 obtain ⟨vs,e3,rfl⟩:=oM h
 obtain ⟨rfl,f1⟩:=tq hx e2
 cases hy with
 | lst sq da=>
  cases e1
  obtain ⟨rfl,f2⟩:=qa da e3
  exact ⟨_,_,rfl,.inl sq,f1,f2,rfl⟩
 | tup sq da=>
  cases e1
  obtain ⟨rfl,f2⟩:=qa da e3
  exact ⟨_,_,rfl,.inr (eK.of sq),f1,f2,rfl⟩
 | _=>cases e1
theorem DN:DB K ρ (DZ K false) lQ:=λ H x y d e b Q hx hy hg q=>by
 obtain ⟨p,xs,h1,h2,h3,h4,rfl⟩:=yw hx hy hg
 exact ⟨p,xs,h1,h2,h3,h4,q⟩
noncomputable def rB:List W->Option (List Bool)
 | []=>some []
 | d::ds=>(yr d).bind λ b=>(rB ds).map (b::·)
theorem Cw {G:Hp} {vs:List V} {ds:List W} {bs:List Bool} (h:aB K ρ G vs ds):rB ds=some bs->vs=bs.map V.bl:=
 h.ind (M:=λ vs ds=>∀ bs,rB ds=some bs->vs=bs.map V.bl) (λ bs e=>by cases e;rfl) (λ _ _ _ _ a ih bs e=>by
  obtain ⟨i,e1,e⟩:=oB e
  obtain ⟨ms,e2,rfl⟩:=oM e
  cases jz e1
  cases vt a
  rw [ih _ e2]
  rfl) bs
noncomputable def uA (d:W):Option W:=(hJ d).bind λ ds=>(rB ds).map λ bs=>.bool (bs.any id)
theorem Gt:HQ K ρ (Gb K) uA:=λ G H x d c Q s hx hg q=>by
 obtain ⟨ds,e1,hg⟩:=oB hg
 obtain ⟨bs,e2,rfl⟩:=oM hg
 cases gx e1
 obtain ⟨p,vs,rfl,sq,da⟩:=iK s hx
 rw [Cw da e2] at sq
 exact ⟨p,bs,rfl,sq,q _ G H (.refl s) (.bl _)⟩
end
section
variable {K:Frag} {cl:Str->Addr} {E:XK}
noncomputable def eX (x:W) (S:ag):Option (Nat×List W):=match eQ x S with
 | some (n,.lst ds)=>some (n,ds)
 | _=>none
theorem cn {x:W} {S:ag} {n:Nat} {ds:List W} (h:eX x S=some (n,ds)):x=.ref n/\S[n]?=some (.lst ds):=by
 unfold eX at h
 cases e:eQ x S with
 | none=>rw [e] at h;cases h
 | some p=>
  obtain ⟨m,o⟩:=p
  rw [e] at h
  cases o with
  | lst ds=>cases h;exact cZ e
  | _=>cases h
noncomputable def M1 (x:W) (S:ag):Option (List W):=match eX x S with
 | some (_,ds)=>some ds
 | none=>qe x
noncomputable def zC (x y:W) (S:ag):Option W:=match eX x S with
 | some (_,ds)=>(GL y).bind λ i=>fK ds i
 | none=>aP x y
noncomputable def sIx (fa fb:DS->ag->SM W):DS->ag->SM W:=λ δ S=>ao (fa δ S) λ x S1=>ao (fb δ S1) λ y S2=>hZ (zC x y S2) S2
theorem Ht {ta tb:TE} {fa fb:DS->ag->SM W} (ha:SE K cl E ta fa) (hb:SE K cl E tb fb):SE K cl E (qR (JU K) ta tb) (sIx fa fb):=λ ρ G σ H δ S r' S' Q R e q qx=>
 eP ha hb R e (λ x y S2 e2 v u ρ2 G2 H2 g2 s2 dv du=>by
  obtain ⟨c,e3,rfl,rfl⟩:=br e2
  unfold zC at e3
  split at e3
  . rename_i n ds e4
    obtain ⟨i,e5,e6⟩:=oB e3
    cases qi e5
    cases d8 du
    obtain ⟨rfl,e7⟩:=cn e4
    obtain ⟨a,rfl,ea⟩:=cy dv
    obtain ⟨ga,vs,k1,k2⟩:=s2.addr e7 ea
    obtain ⟨w,h1,h2⟩:=k2.at e6
    exact .inl ⟨a,vs,_,w,rfl,rfl,cC.of k1,h1,q c rfl w ρ2 G2 H2 g2 s2 h2⟩
  . exact uX G2 H2 v u x y c Q g2.s (.inl dv) du e3 λ w G3 H3 g3 dw=>q c rfl w ρ2 G3 H3 (g2.trans (.of g3)) (s2.grow g3) dw) qx
noncomputable def qV (x:W) (S:ag):Option W:=match eX x S with
 | some (_,ds)=>some (.int ds.length)
 | none=>jQ x
noncomputable def CI (fa:DS->ag->SM W):DS->ag->SM W:=λ δ S=>ao (fa δ S) λ x S1=>hZ (qV x S1) S1
theorem GA {ta:TE} {fa:DS->ag->SM W} (ha:SE K cl E ta fa):SE K cl E (Be (wB K) (gX ta lM)) (CI fa):=λ ρ G σ H δ S r' S' Q R e q qx=>
 c6 ha R e (λ x S2 e2 v ρ2 G2 H2 g2 s2 dv=>by
  obtain ⟨c,e3,rfl,rfl⟩:=br e2
  unfold qV at e3
  split at e3
  . rename_i n ds e4
    cases e3
    obtain ⟨rfl,e7⟩:=cn e4
    obtain ⟨a,rfl,ea⟩:=cy dv
    obtain ⟨ga,vs,k1,k2⟩:=s2.addr e7 ea
    exact .inl ⟨a,vs,rfl,.inl (cC.of k1),by rw [k2.length];exact q _ rfl _ ρ2 G2 H2 g2 s2 (.int _)⟩
  . exact Ag G2 H2 v x c Q g2.s (.inl dv) e3 λ w G3 H3 g3 dw=>q c rfl w ρ2 G3 H3 (g2.trans (.of g3)) (s2.grow g3) dw) qx
noncomputable def D1 (g:W->Option W) (fa:DS->ag->SM W):DS->ag->SM W:=λ δ S=>ao (fa δ S) λ x S1=>hZ (g x) S1
theorem IQ {r:List V->Hp->VK->Prop} {g:W->Option W} {ta:TE} {fa:DS->ag->SM W} (hr:∀ ρ,HQ K ρ r g) (ha:SE K cl E ta fa):SE K cl E (Be r (gX ta lM)) (D1 g fa):=λ ρ G σ H δ S r' S' Q R e q qx=>
 c6 ha R e (λ x S2 e2 v ρ2 G2 H2 g2 s2 dv=>by
  obtain ⟨c,e3,rfl,rfl⟩:=br e2
  exact hr ρ2 G2 H2 v x c Q g2.s (.inl dv) e3 λ w G3 H3 g3 dw=>q c rfl w ρ2 G3 H3 (g2.trans (.of g3)) (s2.grow g3) dw) qx
noncomputable def w9 (T:String) (x:W) (S:ag):Option W:=match eX x S with
 | some _=>if T = "list" then some (.bool true) else none
 | none=>match x with
  | .list _=>if T = "list" then some (.bool true) else none
  | .tuple _=>if T = "tuple" then some (.bool true) else none
  | _=>Ak T x
noncomputable def KB (T:String) (fa:DS->ag->SM W):DS->ag->SM W:=λ δ S=>ao (fa δ S) λ x S1=>hZ (w9 T x S1) S1
theorem rO (c:Value) (h:(c==c)=true):PySem.W.kitOne K c c=some true:=by
 unfold PySem.W.kitOne
 rw [if_pos h]
noncomputable def cJ (fo fv:DS->ag->SM W):DS->ag->SO:=λ δ S=>jm (fo δ S) λ x S1=>if (eX x S1).isSome=true then jm (fv δ S1) λ d S2=>(eX x S2).bind λ p=>if p.2.length<sizeLine then some (.nx δ,S2.set p.1 (.lst (p.2++[d]))) else none else none
theorem iI {ρ ρ':List Addr} {n:Nat} {a:Addr} (h:ρ <+: ρ') (e:ρ[n]?=some a):ρ'[n]?=some a:=by
 obtain ⟨t,rfl⟩:=h
 rw [List.getElem?_append_left (oG e).1]
 exact e
theorem oY {to tv:TE} {fo fv:DS->ag->SM W} (ho:SE K cl E to fo) (hv:SE K cl E tv fv):lR K cl E (rK (GP K "list" lZ to (gX tv lM))) (cJ fo fv):=λ ρ0 G0 H0 ρ G σ H δ S o S' D I e p=>
 dQ ho I e p λ x S1 e1 u ρ1 G1 H1 g1 s1 du=>by
  split at e1
  case isFalse=>cases e1
  rename_i hx
  obtain ⟨⟨n,ds0⟩,hx0⟩:=Option.isSome_iff_exists.mp hx
  obtain ⟨rfl,h0⟩:=cn hx0
  obtain ⟨a,rfl,ea⟩:=cy du
  obtain ⟨_,vs0,k0,_⟩:=s1.addr h0 ea
  have I1:=I.grow g1 s1
  refine ⟨.inl ⟨rfl,vs0,cC.of k0⟩,dQ hv I1 e1 p λ d S2 e2 v ρ2 G2 H2 g2 s2 dv=>?_⟩
  obtain ⟨⟨m,ds⟩,e3,e4⟩:=oB e2
  split at e4
  case isFalse=>cases e4
  rename_i hl
  cases e4
  obtain ⟨em,e5⟩:=cn e3
  cases em
  have ea2:=iI g2.r ea
  obtain ⟨ga,vs,k1,k2⟩:=s2.addr e5 ea2
  obtain ⟨s3,g3⟩:=s2.put (x:=.lst (vs++[v])) (o':=.lst (ds++[d])) g2.s e5 ea2 (λ b z=>by cases z) ⟨_,aK,k2.app (.cons dv .nil)⟩
  exact ⟨a,vs,v,rfl,rfl,k1,by rw [k2.length];exact hl,p σ ρ2 G2 _ ((I1.grow g2 s2).grow g3 s3)⟩
noncomputable def qG (fo fi fv:DS->ag->SM W):DS->ag->SO:=λ δ S=>jm (fv δ S) λ d S1=>jm (fo δ S1) λ x S2=>jm (fi δ S2) λ y S3=>(eX x S3).bind λ p=>(GL y).bind λ k=>(sQ p.2.length k).map λ j=>(.nx δ,S3.set p.1 (.lst (p.2.set j d)))
theorem vx {to ti tv:TE} {fo fi fv:DS->ag->SM W} (ho:SE K cl E to fo) (hi:SE K cl E ti fi) (hv:SE K cl E tv fv):lR K cl E (o0 tv (AT to ti vi)) (qG fo fi fv):=λ ρ0 G0 H0 ρ G σ H δ S o S' D I e p=>
 dQ hv I e p λ d S1 e1 v ρ1 G1 H1 g1 s1 dv=>by
  have I1:=I.grow g1 s1
  refine dQ ho I1 e1 p λ x S2 e2 u ρ2 G2 H2 g2 s2 du=>?_
  have I2:=I1.grow g2 s2
  refine dQ hi I2 e2 p λ y S3 e3 w ρ3 G3 H3 g3 s3 dw=>?_
  obtain ⟨⟨n,ds⟩,e4,e5⟩:=oB e3
  obtain ⟨k,e6,e7⟩:=oB e5
  obtain ⟨j,e8,e9⟩:=oM e7
  cases e9
  cases qi e6
  cases d8 dw
  obtain ⟨rfl,e10⟩:=cn e4
  obtain ⟨a,rfl,ea⟩:=cy du
  have ea3:=iI g3.r ea
  obtain ⟨ga,vs,k1,k2⟩:=s3.addr e10 ea3
  have g23:=g2.trans g3
  obtain ⟨s4,g4⟩:=s3.put (x:=.lst (vs.set j v)) (o':=.lst (ds.set j d)) g3.s e10 ea3 (λ b z=>by cases z) ⟨_,aK,aB.set ((dv.ext g23.r).same g23.g) j k2⟩
  exact ⟨a,vs,k,j,rfl,rfl,k1,by rw [k2.length];exact e8,p σ ρ3 G3 _ ((I2.grow g3 s3).grow g4 s4)⟩
noncomputable def nQ:W->Option aF
 | .int i=>some (Sum.inl i)
 | .str x=>some (Sum.inr x)
 | _=>none
theorem ni {ρ:List Addr} {G:Hp} {v:V} {d:W} {k:aF} (h:Dw K ρ G v d) (e:nQ d=some k):v=kV k:=by
 cases h <;> first | (cases e;rfl) | cases e
noncomputable def bg {κ:Type} [DecidableEq κ] (kvs:List (κ×W)) (k:κ):Option W:=(kvs.find? λ kv=>decide (kv.1=k)).map (·.2)
noncomputable def cV {κ:Type} [DecidableEq κ] (kvs:List (κ×W)) (k:κ) (v:W):List (κ×W):=if (kvs.any λ kv=>decide (kv.1=k))=true then kvs.map λ kv=>if kv.1=k then (kv.1,v) else kv else kvs++[(k,v)]
theorem jf.val {κ:Type} [DecidableEq κ] {ρ:List Addr} {G:Hp} {k:κ}:∀ {l:List (κ×W)} {m:List (κ×V)},jf K ρ G l m->(∀ d,bg l k=some d->∃ v,eE m k=some v/\Dw K ρ G v d)/\(bg l k=none->eE m k=none):=λ q=>by
 induction q with
 | nil=>exact ⟨(λ d e=>by cases e),λ _=>rfl⟩
 | @cons j x0 v0 l m a b ih=>
  obtain ⟨h1,h2⟩:=ih
  by_cases hj:j=k
  . subst hj
    refine ⟨λ d e=>?_,λ e=>?_⟩
    . have e':bg ((j,x0)::l) j=some x0:=by simp [bg,List.find?_cons]
      rw [e'] at e
      cases e
      exact ⟨_,iy rfl,a⟩
    . simp [bg,List.find?_cons] at e
  . refine ⟨λ d e=>?_,λ e=>?_⟩
    . rw [gp hj]
      exact h1 d (by simpa [bg,List.find?_cons,hj] using e)
    . rw [gp hj]
      exact h2 (by simpa [bg,List.find?_cons,hj] using e)
theorem jf.any {κ:Type} [DecidableEq κ] {ρ:List Addr} {G:Hp} {k:κ}:∀ {l:List (κ×W)} {m:List (κ×V)},jf K ρ G l m->(l.any λ kv=>decide (kv.1=k))=m.any λ kv=>decide (kv.1=k):=λ q=>by
 induction q with
 | nil=>rfl
 | cons a b ih=>rw [List.any_cons,List.any_cons,ih]
theorem jf.repl {κ:Type} [DecidableEq κ] {ρ:List Addr} {G:Hp} {k:κ} {v:V} {d:W} (h:Dw K ρ G v d):∀ {l:List (κ×W)} {m:List (κ×V)},jf K ρ G l m->jf K ρ G (l.map λ kv=>if kv.1=k then (kv.1,d) else kv) (m.map λ kv=>if kv.1=k then (kv.1,v) else kv):=λ q=>by
 induction q with
 | nil=>exact .nil
 | @cons j d0 v0 l m a b ih=>
  rw [List.map_cons,List.map_cons]
  by_cases hj:j=k
  . simp only [if_pos hj]
    exact .cons h ih
  . simp only [if_neg hj]
    exact .cons a ih
theorem jf.snoc {κ:Type} {ρ:List Addr} {G:Hp} {k:κ} {v:V} {d:W} (h:Dw K ρ G v d):∀ {l:List (κ×W)} {m:List (κ×V)},jf K ρ G l m->jf K ρ G (l++[(k,d)]) (m++[(k,v)]):=λ q=>by
 induction q with
 | nil=>exact .cons h .nil
 | cons a _ ih=>exact .cons a ih
theorem jf.put {κ:Type} [DecidableEq κ] {ρ:List Addr} {G:Hp} {k:κ} {v:V} {d:W} (h:Dw K ρ G v d) {l:List (κ×W)} {m:List (κ×V)} (r:jf K ρ G l m):jf K ρ G (cV l k d) (fX m k v):=by
 unfold cV fX
 rw [r.any]
 split
 . exact r.repl h
 . exact r.snoc h
noncomputable def oI (S:ag) (n:Nat):Option (List W):=match S[n]? with
 | some (.lst ds)=>some ds
 | _=>none
noncomputable def wG (f:W->Option PyData):List W->Option (List PyData)
 | []=>some []
 | d::ds=>(f d).bind λ x=>(wG f ds).map (x::·)
noncomputable def GM (S:ag):Nat->W->Option PyData
 | 0,_=>none
 | n+1,d=>match d with
  | .list ds=>(wG (GM S n) ds).map .list
  | .tuple ds=>(wG (GM S n) ds).map .tuple
  | .ref m=>(oI S m).bind λ ds=>(wG (GM S n) ds).map .list
  | d=>d.py
theorem pI {H:Hp} {ρ:List Addr} {G:Hp} {f:W->Option PyData} (hf:∀ v d x,Dw K ρ G v d->f d=some x->Dp K H v x) {vs:List V} {ds:List W} {xs:List PyData} (h:aB K ρ G vs ds):wG f ds=some xs->gW K H vs xs:=
 h.ind (M:=λ vs ds=>∀ xs,wG f ds=some xs->gW K H vs xs) (λ xs e=>by cases e;exact .nil) (λ _ _ _ _ a ih xs e=>by
  obtain ⟨x,e1,e⟩:=oB e
  obtain ⟨ys,e2,rfl⟩:=oM e
  exact .cons (hf _ _ _ a e1) (ih _ e2)) xs
theorem j0 {ρ:List Addr} {G H:Hp} {S:ag} (sg:bo G H) (s:SR K ρ cl G H S):∀ (n:Nat) (v:V) (d:W) (x:PyData),Dw K ρ G v d->GM S n d=some x->Dp K H v x
 | 0,_,_,_,_,e=>by cases e
 | n+1,v,d,x,h,e=>by
  cases h with
  | lst sq da=>
   obtain ⟨xs,e1,rfl⟩:=oM e
   exact .lst (sg.seq sq) (pI (λ v d x=>j0 sg s n v d x) da e1)
  | tup sq da=>
   obtain ⟨xs,e1,rfl⟩:=oM e
   exact .tup (sg.tup (eK.of sq)) (pI (λ v d x=>j0 sg s n v d x) da e1)
  | ref ea=>
   obtain ⟨ds,e1,e2⟩:=oB e
   obtain ⟨xs,e3,rfl⟩:=oM e2
   unfold oI at e1
   split at e1
   . rename_i ds' h1
     cases e1
     obtain ⟨ga,vs,k1,k2⟩:=s.addr h1 ea
     exact .lst (cC.of k1) (pI (λ v d x=>j0 sg s n v d x) k2 e3)
   . cases e1
  | non=>exact Dw.dp (ρ:=ρ) .non e
  | bl b=>exact Dw.dp (ρ:=ρ) (.bl b) e
  | int i=>exact Dw.dp (ρ:=ρ) (.int i) e
  | str y=>exact Dw.dp (ρ:=ρ) (.str y) e
noncomputable def Cv (neg:Bool) (d e:W) (S:ag):Option Bool:=match HG d e with
 | some b=>some (if neg then !b else b)
 | none=>(GM S 24 d).bind λ a=>(GM S 24 e).bind λ b=>if (a.canLay0&&b.canLay0&&decide (a.depth<=64))=true then some (if neg then !(PyData.eqv a b) else PyData.eqv a b) else none
noncomputable def FQ (K:Frag) (neg:Bool):R2:=if neg then Gu K else Fs K
noncomputable def B7 (neg:Bool) (fa fb:DS->ag->SM W):DS->ag->SM Bool:=λ δ S=>ao (fa δ S) λ x S1=>ao (fb δ S1) λ y S2=>hZ (Cv neg x y S2) S2
theorem sw {ρ:List Addr} {G H:Hp} {S:ag} {neg:Bool} {v u:V} {x y:W} {b:Bool} {Q:VK} (sg:bo G H) (s:SR K ρ cl G H S) (dv:Dw K ρ G v x) (du:Dw K ρ G u y) (h:Cv neg x y S=some b) (q:Q (.bl b) H):FQ K neg v u H Q:=by
 unfold Cv at h
 split at h
 . rename_i b' hb
   cases h
   obtain ⟨h1,h2⟩:=tZ (dv.same sg) (du.same sg) hb
   cases neg with
   | false=>exact .inl ⟨h1,by rw [h2];exact q⟩
   | true=>exact .inl ⟨h1,by rw [h2];exact q⟩
 . obtain ⟨a,ea,h⟩:=oB h
   obtain ⟨c,ec,h⟩:=oB h
   split at h
   . rename_i hc
     cases h
     simp only [Bool.and_eq_true,decide_eq_true_eq] at hc
     cases neg with
     | false=>exact .inr ⟨a,c,j0 sg s 24 _ _ _ dv ea,j0 sg s 24 _ _ _ du ec,hc.1.1,hc.1.2,hc.2,q⟩
     | true=>exact .inr ⟨a,c,j0 sg s 24 _ _ _ dv ea,j0 sg s 24 _ _ _ du ec,hc.1.1,hc.1.2,hc.2,q⟩
   . cases h
theorem HB {neg:Bool} {ta tb:TE} {fa fb:DS->ag->SM W} (ha:SE K cl E ta fa) (hb:SE K cl E tb fb):ST K cl E (vG (qR (FQ K neg) ta tb)) (B7 neg fa fb):=λ ρ G σ H δ S r' S' Q R e q qx=>
 eP ha hb R e (λ x y S2 e2 v u ρ2 G2 H2 g2 s2 dv du=>by
  obtain ⟨c,e3,rfl,rfl⟩:=br e2
  exact sw g2.s s2 dv du e3 ⟨c,rfl,q c rfl ρ2 G2 H2 g2 s2⟩) qx
theorem Ie {neg:Bool} {ta tb:TE} {fa fb:DS->ag->SM W} (ha:SE K cl E ta fa) (hb:SE K cl E tb fb):SE K cl E (qR (FQ K neg) ta tb) (sB (B7 neg fa fb)):=λ ρ G σ H δ S r' S' Q R e q qx=>by
 rcases aR e with ⟨c,em,rfl⟩ | ⟨b,S1,em,e⟩
 . exact eP (r:=Rs.xc c) ha hb R em (λ x y S2 e2=>by obtain ⟨_,_,z,_⟩:=br e2;cases z) (λ c' hc=>by cases hc;exact qx c rfl)
 . cases e
   exact eP ha hb R em (λ x y S2 e2 v u ρ2 G2 H2 g2 s2 dv du=>by
    obtain ⟨c,e3,z,rfl⟩:=br e2
    cases z
    exact sw g2.s s2 dv du e3 (q _ rfl _ ρ2 G2 H2 g2 s2 (.bl _))) (λ c hc=>by cases hc)
end
section
variable {K:Frag} {cl:Str->Addr} {E:XK}
noncomputable def iB (f:DS->ag->SM W):DS->ag->SM Bool:=λ δ S=>ao (f δ S) λ x S1=>hZ (yr x) S1
theorem Gf {t:TE} {f:DS->ag->SM W} (h:SE K cl E t f):ST K cl E (tB t) (iB f):=λ ρ G σ H δ S r S' Q R e q qx=>
 c6 h R e (λ x S1 e1 v ρ1 G1 H1 g1 s1 dv=>by
  obtain ⟨b,e2,rfl,rfl⟩:=br e1
  cases jz e2
  cases vt dv
  exact ⟨b,rfl,q b rfl ρ1 G1 H1 g1 s1⟩) qx
noncomputable def i6 (f g:DS->ag->SM W):DS->ag->SM W:=λ δ S=>ao (f δ S) λ x S1=>(yr x).bind λ b=>if b=true then g δ S1 else some (.ok (.bool false),S1)
noncomputable def wP (f g:DS->ag->SM W):DS->ag->SM W:=λ δ S=>ao (f δ S) λ x S1=>(yr x).bind λ b=>if b=true then some (.ok (.bool true),S1) else g δ S1
noncomputable def Ho (f:DS->ag->SM W):DS->ag->SM W:=λ δ S=>ao (f δ S) λ x S1=>(yr x).map λ b=>(.ok (.bool (!b)),S1)
theorem Fz {t u:TE} {f g:DS->ag->SM W} (h1:SE K cl E t f) (h2:SE K cl E u g):SE K cl E (D3 t u) (i6 f g):=λ ρ G σ H δ S r S' Q R e q qx=>
 c6 h1 R e (λ x S1 e1 v ρ1 G1 H1 g1 s1 dv=>by
  obtain ⟨b,e2,e3⟩:=oB e1
  cases jz e2
  cases vt dv
  refine ⟨b,rfl,?_⟩
  cases b with
  | true=>exact h2 ρ1 G1 σ H1 δ S1 r S' Q (R.grow g1 s1) e3 (λ d hd v ρ2 G2 H2 g2 s2 dv=>q d hd v ρ2 G2 H2 (g1.trans g2) s2 dv) λ c hc ρ2 G2 H2 g2 s2=>qx c hc ρ2 G2 H2 (g1.trans g2) s2
  | false=>cases e3;exact q _ rfl _ ρ1 G1 H1 g1 s1 (.bl _)) qx
theorem Jl {t u:TE} {f g:DS->ag->SM W} (h1:SE K cl E t f) (h2:SE K cl E u g):SE K cl E (EI t u) (wP f g):=λ ρ G σ H δ S r S' Q R e q qx=>
 c6 h1 R e (λ x S1 e1 v ρ1 G1 H1 g1 s1 dv=>by
  obtain ⟨b,e2,e3⟩:=oB e1
  cases jz e2
  cases vt dv
  refine ⟨b,rfl,?_⟩
  cases b with
  | false=>exact h2 ρ1 G1 σ H1 δ S1 r S' Q (R.grow g1 s1) e3 (λ d hd v ρ2 G2 H2 g2 s2 dv=>q d hd v ρ2 G2 H2 (g1.trans g2) s2 dv) λ c hc ρ2 G2 H2 g2 s2=>qx c hc ρ2 G2 H2 (g1.trans g2) s2
  | true=>cases e3;exact q _ rfl _ ρ1 G1 H1 g1 s1 (.bl _)) qx
theorem A6.ext {ρ ρ1:List Addr} {J:It} {ds:List W} {i:Nat} {G H:Hp} (h:ρ <+: ρ1) (a:A6 K ρ J ds i G H):A6 K ρ1 J ds i G H:=⟨λ d hd=>⟨(a.1 d hd).1,λ x H' y=>by
 obtain ⟨G',g,dx⟩:=(a.1 d hd).2 x H' y
 exact ⟨G',g,dx.ext h⟩⟩,a.2⟩
theorem tQ {S:ag} {n:Nat} {ds:List W} (h:oI S n=some ds):S[n]?=some (.lst ds):=by
 unfold oI at h
 split at h
 . rename_i e;cases h;exact e
 . cases h
noncomputable def fU (S:ag) (n:Nat×Bool):Option (List W):=(oI S n.1).map λ es=>if n.2 then k7 es else es
noncomputable def K2 (K:Frag) (cl:Str->Addr) (ρ:List Addr) (J:It) (n:Nat×Bool):Prop:=
 ∀ (i:Nat) (ρ1:List Addr) (G1 H1:Hp) (S1:ag) (es:List W),ρ <+: ρ1->bo G1 H1->SR K ρ1 cl G1 H1 S1->fU S1 n=some es->A6 K ρ1 J es i G1 H1
noncomputable def JK (K:Frag) (cl:Str->Addr) (E:XK) (wi:TI) (f:DS->ag->SM (Nat×Bool)):Prop:=
 ∀ (ρ:List Addr) (G:Hp) (σ:St) (H:Hp) (δ:DS) (S:ag) (r:Rs (Nat×Bool)) (S':ag) (R':It->Hp->Prop),RS K cl ρ G H δ σ S->f δ S=some (r,S')->
  (∀ n,r=.ok n->∀ J ρ' G' H',GS ρ G H ρ' G' H'->SR K ρ' cl G' H' S'->K2 K cl ρ' J n->R' J H')->
  (∀ c,r=.xc c->∀ ρ' G' H',GS ρ G H ρ' G' H'->SR K ρ' cl G' H' S'->E (.ref (cl c)) none H')->wi σ H R'
noncomputable def iw (f:DS->ag->SM W):DS->ag->SM (Nat×Bool):=λ δ S=>ao (f δ S) λ x S1=>(eX x S1).map λ p=>(.ok (p.1,false),S1)
theorem Cn {t:TE} {f:DS->ag->SM W} (h:SE K cl E t f):JK K cl E (wL K t) (iw f):=λ ρ G σ H δ S r S' R' R e q qx=>
 c6 h R e (λ x S1 e1 v ρ1 G1 H1 g1 s1 dv=>by
  obtain ⟨⟨n,ds⟩,e2,e3⟩:=oM e1
  cases e3
  obtain ⟨rfl,e4⟩:=cn e2
  obtain ⟨a,rfl,ea⟩:=cy dv
  obtain ⟨ga,vs,k1,k2⟩:=s1.addr e4 ea
  refine ⟨a,rfl,.inl ⟨⟨vs,cC.of k1⟩,q (n,false) rfl _ ρ1 G1 H1 g1 s1 λ i ρ2 G2 H2 S2 es pr s2 sr he=>?_⟩⟩
  obtain ⟨es',hf,rfl⟩:=oM he
  obtain ⟨ga2,vs2,m1,m2⟩:=sr.addr (tQ hf) (iI pr ea)
  exact nc s2 (cC.of m1) m2) qx
noncomputable def fY (n:Nat×Bool) (h:W->DS->Option DS) (fb:DS->ag->SO):Nat->Nat->DS->ag->SO
 | 0,_,_,_=>none
 | f+1,i,δ,S=>(fU S n).bind λ es=>match es[i]? with
  | none=>some (.nx δ,S)
  | some d=>(h d δ).bind λ δ2=>match fb δ2 S with
   | some (.nx δ',S')=>fY n h fb f (i+1) δ' S'
   | some (.ct δ',S')=>fY n h fb f (i+1) δ' S'
   | some (.bk δ',S')=>some (.nx δ',S')
   | some (.rt d,S')=>some (.rt d,S')
   | some (.xc c,S')=>some (.xc c,S')
   | none=>none
noncomputable def tJ (m:Nat) (fi:DS->ag->SM (Nat×Bool)) (h:W->DS->Option DS) (fb:DS->ag->SO):DS->ag->SO:=λ δ S=>jm (fi δ S) λ n S1=>fY n h fb m 0 δ S1
theorem vd {m:Nat} {wi:TI} {g:TG} {tb:TS} {fi:DS->ag->SM (Nat×Bool)} {h:W->DS->Option DS} {fb:DS->ag->SO} (hi:JK K cl E wi fi) (hg:∀ ρ,DG K ρ g h) (hb:lR K cl E tb fb):lR K cl E (AN wi g tb) (tJ m fi h fb):=λ ρ0 G0 H0 ρ G σ H δ S o S' D I e p=>by
 rcases jM e with ⟨c,em,rfl⟩ | ⟨n,S1,em,e⟩
 . exact hi ρ G σ H δ S _ _ _ I.rs em (λ d hd=>by cases hd) (λ c' hc ρ1 G1 H1 g1 s1=>by cases hc;exact p ρ1 G1 H1 (I.gs.trans g1) s1)
 refine hi ρ G σ H δ S _ _ _ I.rs em (λ n' hn=>?_) (λ c' hc=>by cases hc)
 cases hn
 intro J ρ1 G1 H1 g1 s1 it
 refine ⟨λ i k σ H=>∃ ρ2 G2 δ2 S2,iY K cl ρ0 G0 H0 ρ2 G2 H δ2 σ S2/\ρ1 <+: ρ2/\fY n h fb k i δ2 S2=some (o,S'),⟨m,ρ1,G1,δ,S1,I.grow g1 s1,List.prefix_refl _,e⟩,?_⟩
 rintro i k σ2 H2 ⟨ρ2,G2,δ2,S2,I2,pr2,e2⟩
 cases k with
 | zero=>cases e2
 | succ k=>
  obtain ⟨es,e3,e4⟩:=oB e2
  have ia:=it i ρ2 G2 H2 S2 es pr2 I2.gs.s I2.rs.st e3
  split at e4
  . rename_i hn
    cases e4
    exact .inl ⟨ia.2 (List.getElem?_eq_none_iff.mp hn),p σ2 ρ2 G2 H2 I2⟩
  . rename_i d hd
    refine .inr ?_
    obtain ⟨go,step⟩:=ia.1 d hd
    obtain ⟨δ3,e5,e6⟩:=oB e4
    have turn:∀ (P:iq) (o1:pD) (S3:ag),fb δ3 S2=some (o1,S3)->(∀ G3 H3,Gr G2 H2 G3 H3->y0 K cl E ρ2 G3 H0 P S3 o1)->∀ x H',J.yld i H2 x H'->g x σ2 H' λ σ2 H2=>tb P σ2 H2:=λ P o1 S3 ef hp x H' y=>by
     obtain ⟨G3,g3,dx⟩:=step x H' y
     have I3:=I2.grow (.of g3) (I2.rs.st.grow g3)
     refine hg ρ2 G3 H' δ2 σ2 x _ δ3 _ I3.rs.rl dx e5 λ σ3 R3 o3=>?_
     exact hb ρ2 G3 H0 ρ2 G3 σ3 H' δ3 S2 o1 S3 P (I3.sub R3 o3).base ef (hp G3 H' g3)
    have back:∀ {G3 H3:Hp},Gr G2 H2 G3 H3->∀ {ρ4:List Addr} {G4 H4:Hp} {σ4:St} {δ4:DS} {S4:ag},iY K cl ρ2 G3 H0 ρ4 G4 H4 δ4 σ4 S4->iY K cl ρ0 G0 H0 ρ4 G4 H4 δ4 σ4 S4/\ρ1 <+: ρ4:=λ {G3 H3} g3 {ρ4 G4 H4 σ4 δ4 S4} I4=>⟨I4.rebase (I2.gs.trans (.of g3)),pr2.trans I4.gs.r⟩
    cases ef:fb δ3 S2 with
    | none=>rw [ef] at e6;cases e6
    | some r=>
     obtain ⟨o1,S3⟩:=r
     rw [ef] at e6
     cases o1 with
     | nx δ'=>exact ⟨go,λ σ' H'=>∃ ρ' G',iY K cl ρ0 G0 H0 ρ' G' H' δ' σ' S3/\ρ1 <+: ρ',λ σ' H' hy0=>by obtain ⟨ρ',G',I',q1⟩:=hy0;exact ⟨k,Nat.lt_succ_self _,ρ',G',δ',S3,I',q1,e6⟩,turn _ _ _ ef λ G3 H3 g3 σ5 ρ5 G5 H5 I5=>⟨ρ5,G5,back g3 I5⟩⟩
     | ct δ'=>exact ⟨go,λ σ' H'=>∃ ρ' G',iY K cl ρ0 G0 H0 ρ' G' H' δ' σ' S3/\ρ1 <+: ρ',λ σ' H' hy0=>by obtain ⟨ρ',G',I',q1⟩:=hy0;exact ⟨k,Nat.lt_succ_self _,ρ',G',δ',S3,I',q1,e6⟩,turn _ _ _ ef λ G3 H3 g3 σ5 ρ5 G5 H5 I5=>⟨ρ5,G5,back g3 I5⟩⟩
     | bk δ'=>
      cases e6
      exact ⟨go,λ _ _=>False,λ _ _ z=>z.elim,turn _ _ _ ef λ G3 H3 g3 σ5 ρ5 G5 H5 I5=>p σ5 ρ5 G5 H5 (back g3 I5).1⟩
     | rt d=>
      cases e6
      exact ⟨go,λ _ _=>False,λ _ _ z=>z.elim,turn _ _ _ ef λ G3 H3 g3 v ρ5 G5 H5 g5 s5 dv=>p v ρ5 G5 H5 ((I2.gs.trans (.of g3)).rebase g5) s5 dv⟩
     | xc c=>
      cases e6
      exact ⟨go,λ _ _=>False,λ _ _ z=>z.elim,turn _ _ _ ef λ G3 H3 g3 ρ5 G5 H5 g5 s5=>p ρ5 G5 H5 ((I2.gs.trans (.of g3)).rebase g5) s5⟩
theorem RS.lift {ρ:List Addr} {G H:Hp} {δ:DS} {σ:St} {S:ag} {ix:List (Option Nat)} (hx:xD ix=true) (R:RS K cl ρ G H δ σ S):RS K cl ρ G H (bJ ix δ) (lift ix σ) S:=
 ⟨R.rl.lift hx,R.st,λ j ds p h1 h2=>by
  obtain ⟨o,k1,k2⟩:=kQ h1
  cases o with
  | none=>cases k2
  | some i=>
   have k3:δ[i]?=some (.own ds):=by
    cases e:δ[i]? with
    | none=>simp [oj,e] at k2
    | some s=>simp [oj,e] at k2;rw [k2]
   rw [nX k1] at h2
   simp only [Km] at h2
   split at h2
   . rename_i w e
     exact R.ap i ds p k3 (by rw [e];simpa using h2)
   . cases h2⟩
noncomputable def bR (h:W->DS->Option DS) (c:DS->ag->SM Bool) (fe:DS->ag->SM W) (δ:DS):List W->ag->SM (List W)
 | [],S=>some (.ok [],S)
 | d::ds,S=>(h d δ).bind λ δ2=>ao (c δ2 S) λ b S1=>if b=true then ao (fe δ2 S1) λ e S2=>ao (bR h c fe δ ds S2) λ es S3=>some (.ok (e::es),S3) else bR h c fe δ ds S1
noncomputable def oO (ix:List (Option Nat)) (fi:DS->ag->SM (List W)) (h:W->DS->Option DS) (c:DS->ag->SM Bool) (fe:DS->ag->SM W):DS->ag->SM W:=λ δ S=>
 ao (fi δ S) λ ds S0=>if ds.length<=sizeLine then ao (bR h c fe (bJ ix δ) ds S0) λ es S1=>some (.ok (.list es),S1) else none
theorem C1 {ix:List (Option Nat)} {wi:TI} {g:TG} {tc:TT} {te:TE} {fi:DS->ag->SM (List W)} {h:W->DS->Option DS} {c:DS->ag->SM Bool} {fe:DS->ag->SM W}
 (hx:xD ix=true) (hi:GK K cl E wi fi) (hg:∀ ρ,DG K ρ g h) (hc:ST K cl E tc c) (he:SE K cl E te fe):SE K cl E (mC ix wi g tc te) (oO ix fi h c fe):=λ ρ G σ H δ S r S' Q R e q qx=>by
 rcases aR e with ⟨c0,em,rfl⟩ | ⟨ds,S0,em,e⟩
 . exact hi ρ G σ H δ S _ _ _ R em (λ d hd=>by cases hd) (λ c' hc=>by cases hc;exact qx c0 rfl)
 split at e
 case isFalse=>cases e
 rename_i hz
 refine hi ρ G σ H δ S _ _ _ R em (λ ds' hd=>?_) (λ c' hc=>by cases hc)
 cases hd
 intro J ρ1 G1 H1 gs1 sr1 it
 have R1:=R.grow gs1 sr1
 refine ⟨λ i m ys H2=>m=ds.length-i/\i<=ds.length/\ys.length<=i/\∃ ρ2 G2 as S2,GS ρ1 G1 H1 ρ2 G2 H2/\SR K ρ2 cl G2 H2 S2/\aB K ρ2 G2 ys as/\ao (bR h c fe (bJ ix δ) (ds.drop i) S2) (λ es S1=>some (.ok (.list (as++es)),S1))=some (r,S'),⟨ds.length,by simp,Nat.zero_le _,Nat.le_refl _,ρ1,G1,[],S0,.refl gs1.s,R1.st,.nil,by simpa using e⟩,?_⟩
 rintro i m ys H2 ⟨rfl,hil,hyl,ρ2,G2,as,S2,g2,s2,da,eb⟩
 have ia:=(it i G2 H2 g2.g g2.s).ext g2.r
 have R2:=R1.grow g2 s2
 have g12:=gs1.trans g2
 by_cases hlt:i<ds.length
 . refine .inr ?_
   obtain ⟨go,step⟩:=ia.1 ds[i] (List.getElem?_eq_getElem hlt)
   rw [List.drop_eq_getElem_cons hlt] at eb
   have eb':∃ δ2,h ds[i] (bJ ix δ)=some δ2/\ao (ao (c δ2 S2) λ b S1=>if b=true then ao (fe δ2 S1) λ e S2=>ao (bR h c fe (bJ ix δ) (ds.drop (i+1)) S2) λ es S3=>some (.ok (e::es),S3) else bR h c fe (bJ ix δ) (ds.drop (i+1)) S1) (λ es S1=>some (.ok (.list (as++es)),S1))=some (r,S'):=by
    simp only [bR] at eb
    cases e2:h ds[i] (bJ ix δ) with
    | none=>rw [e2] at eb;cases eb
    | some δ2=>rw [e2] at eb;exact ⟨δ2,rfl,eb⟩
   obtain ⟨δ2,e2,e3⟩:=eb'
   refine ⟨go,by omega,λ ys' H'=>ys'.length<=i+1/\∃ ρ3 G3 as' S3,GS ρ1 G1 H1 ρ3 G3 H'/\SR K ρ3 cl G3 H' S3/\aB K ρ3 G3 ys' as'/\ao (bR h c fe (bJ ix δ) (ds.drop (i+1)) S3) (λ es S1=>some (.ok (.list (as'++es)),S1))=some (r,S'),λ ys' H' hy0=>by obtain ⟨l,z⟩:=hy0;exact ⟨ds.length-(i+1),by omega,rfl,hlt,l,z⟩,λ x H' y=>?_⟩
   obtain ⟨G3,g3,dx⟩:=step x H' y
   have gs3:GS ρ2 G2 H2 ρ2 G3 H':=.of g3
   have s3:=s2.grow g3
   have R3:=R2.grow gs3 s3
   refine hg ρ2 G3 H' (bJ ix δ) _ x _ δ2 _ (R3.lift hx).rl dx e2 λ σ2 R4 o4=>?_
   have RS4:RS K cl ρ2 G3 H' δ2 σ2 S2:=⟨R4,s3,λ j ds' p h1 h2=>by
    obtain ⟨es',m1,m2⟩:=o4 j ds' p h1 h2
    exact (R3.lift hx).ap j es' p m1 m2⟩
   rcases aR e3 with ⟨c',em,rfl⟩ | ⟨es,S5,em,e4⟩
   . -- an exception on the way
     rcases aR em with ⟨c2,en,z⟩ | ⟨b,S4,en,e5⟩
     . cases z
       exact hc ρ2 G3 σ2 H' δ2 S2 _ _ _ RS4 en (λ d hd=>by cases hd) (λ c3 h3 ρ5 G5 H5 g5 s5=>by cases h3;exact qx c' rfl ρ5 G5 H5 (g12.trans (gs3.trans g5)) s5)
     . refine hc ρ2 G3 σ2 H' δ2 S2 _ _ _ RS4 en (λ d hd=>?_) (λ c3 h3=>by cases h3)
       cases hd
       intro ρ5 G5 H5 g5 s5
       have g15:=g2.trans (gs3.trans g5)
       have da5:=((da.ext (gs3.trans g5).r).same (gs3.trans g5).g)
       cases b with
       | false=>exact ⟨by omega,ρ5,G5,as,S4,g15,s5,da5,by rw [show bR h c fe (bJ ix δ) (ds.drop (i+1)) S4=some (.xc c',S') from e5];rfl⟩
       | true=>
        rw [if_pos rfl] at e5 ⊢
        rcases aR e5 with ⟨c2,en2,z⟩ | ⟨ev,S6,en2,e6⟩
        . cases z
          exact he ρ5 G5 σ2 H5 δ2 S4 _ _ _ (RS4.grow g5 s5) en2 (λ d hd=>by cases hd) (λ c3 h3 ρ6 G6 H6 g6 s6=>by cases h3;exact qx c' rfl ρ6 G6 H6 (g12.trans (gs3.trans (g5.trans g6))) s6)
        . refine he ρ5 G5 σ2 H5 δ2 S4 _ _ _ (RS4.grow g5 s5) en2 (λ d hd=>?_) (λ c3 h3=>by cases h3)
          cases hd
          intro v ρ6 G6 H6 g6 s6 dv
          rcases aR e6 with ⟨c2,en3,z⟩ | ⟨es2,S7,en3,e7⟩
          . cases z
            exact ⟨by simp;omega,ρ6,G6,as++[ev],S6,g15.trans g6,s6,((da5.ext g6.r).same g6.g).app (.cons dv .nil),by rw [en3];rfl⟩
          . cases e7
   . cases e4
     rcases aR em with ⟨c2,en,z⟩ | ⟨b,S4,en,e5⟩
     . cases z
     . refine hc ρ2 G3 σ2 H' δ2 S2 _ _ _ RS4 en (λ d hd=>?_) (λ c3 h3=>by cases h3)
       cases hd
       intro ρ5 G5 H5 g5 s5
       have g15:=g2.trans (gs3.trans g5)
       have da5:=((da.ext (gs3.trans g5).r).same (gs3.trans g5).g)
       cases b with
       | false=>exact ⟨by omega,ρ5,G5,as,S4,g15,s5,da5,by rw [show bR h c fe (bJ ix δ) (ds.drop (i+1)) S4=some (.ok es,S') from e5];rfl⟩
       | true=>
        rw [if_pos rfl] at e5 ⊢
        rcases aR e5 with ⟨c2,en2,z⟩ | ⟨ev,S6,en2,e6⟩
        . cases z
        . refine he ρ5 G5 σ2 H5 δ2 S4 _ _ _ (RS4.grow g5 s5) en2 (λ d hd=>?_) (λ c3 h3=>by cases h3)
          cases hd
          intro v ρ6 G6 H6 g6 s6 dv
          rcases aR e6 with ⟨c2,en3,z⟩ | ⟨es2,S7,en3,e7⟩
          . cases z
          . cases e7
            exact ⟨by simp;omega,ρ6,G6,as++[ev],S6,g15.trans g6,s6,((da5.ext g6.r).same g6.g).app (.cons dv .nil),by rw [en3];simp [ao]⟩
 . have hi':i=ds.length:=by omega
   subst hi'
   refine .inl ⟨ia.2 (Nat.le_refl _),by omega,λ p hp=>?_⟩
   rw [List.drop_length] at eb
   simp only [bR,ao,List.append_nil] at eb
   cases eb
   have n:Nw H2 (cp H2 p (.lst ys)) p (.lst ys):=.of hp
   have g3:=Gr.nw g2.s n
   exact q _ rfl _ ρ2 _ _ (g12.trans (.of g3)) (s2.grow g3) (.lst (cC.of aK) (da.same g3.g))
end
section
variable {K:Frag} {cl:Str->Addr} {E:XK}
noncomputable def bT (n:Nat×Bool) (h:W->DS->Option DS) (c:DS->ag->SM Bool) (fe:DS->ag->SM W) (δ:DS):Nat->Nat->ag->SM (List W)
 | 0,_,_=>none
 | f+1,i,S=>(fU S n).bind λ es=>match es[i]? with
  | none=>some (.ok [],S)
  | some d=>(h d δ).bind λ δ2=>ao (c δ2 S) λ b S1=>if b=true then ao (fe δ2 S1) λ e S2=>ao (bT n h c fe δ f (i+1) S2) λ es S3=>some (.ok (e::es),S3) else bT n h c fe δ f (i+1) S1
noncomputable def nI (m:Nat) (ix:List (Option Nat)) (fi:DS->ag->SM (Nat×Bool)) (h:W->DS->Option DS) (c:DS->ag->SM Bool) (fe:DS->ag->SM W):DS->ag->SM W:=λ δ S=>
 ao (fi δ S) λ n S0=>if m<=sizeLine then ao (bT n h c fe (bJ ix δ) m 0 S0) λ es S1=>some (.ok (.list es),S1) else none
theorem y7 {m:Nat} {ix:List (Option Nat)} {wi:TI} {g:TG} {tc:TT} {te:TE} {fi:DS->ag->SM (Nat×Bool)} {h:W->DS->Option DS} {c:DS->ag->SM Bool} {fe:DS->ag->SM W}
 (hx:xD ix=true) (hi:JK K cl E wi fi) (hg:∀ ρ,DG K ρ g h) (hc:ST K cl E tc c) (he:SE K cl E te fe):SE K cl E (mC ix wi g tc te) (nI m ix fi h c fe):=λ ρ G σ H δ S r S' Q R e q qx=>by
 rcases aR e with ⟨c0,em,rfl⟩ | ⟨n,S0,em,e⟩
 . exact hi ρ G σ H δ S _ _ _ R em (λ d hd=>by cases hd) (λ c' hc=>by cases hc;exact qx c0 rfl)
 split at e
 case isFalse=>cases e
 rename_i hz
 refine hi ρ G σ H δ S _ _ _ R em (λ n' hn=>?_) (λ c' hc=>by cases hc)
 cases hn
 intro J ρ1 G1 H1 gs1 sr1 it
 have R1:=R.grow gs1 sr1
 refine ⟨λ i k ys H2=>k+i=m/\ys.length<=i/\∃ ρ2 G2 as S2,GS ρ1 G1 H1 ρ2 G2 H2/\SR K ρ2 cl G2 H2 S2/\aB K ρ2 G2 ys as/\ao (bT n h c fe (bJ ix δ) k i S2) (λ es S1=>some (.ok (.list (as++es)),S1))=some (r,S'),⟨m,by simp,Nat.le_refl _,ρ1,G1,[],S0,.refl gs1.s,R1.st,.nil,by simpa using e⟩,?_⟩
 rintro i k ys H2 ⟨hk,hyl,ρ2,G2,as,S2,g2,s2,da,eb⟩
 have R2:=R1.grow g2 s2
 have g12:=gs1.trans g2
 cases k with
 | zero=>cases eb
 | succ k=>
  have eb0:∃ es0,fU S2 n=some es0:=by
   cases hl:fU S2 n with
   | none=>simp only [bT,hl] at eb;cases eb
   | some es0=>exact ⟨es0,rfl⟩
  obtain ⟨es0,hl⟩:=eb0
  have ia:=it i ρ2 G2 H2 S2 es0 g2.r g2.s s2 hl
  cases hd:es0[i]? with
  | none=>
   refine .inl ⟨ia.2 (List.getElem?_eq_none_iff.mp hd),by omega,λ p hp=>?_⟩
   simp only [bT,hl,Option.bind_some,hd,ao,List.append_nil] at eb
   cases eb
   have nn:Nw H2 (cp H2 p (.lst ys)) p (.lst ys):=.of hp
   have g3:=Gr.nw g2.s nn
   exact q _ rfl _ ρ2 _ _ (g12.trans (.of g3)) (s2.grow g3) (.lst (cC.of aK) (da.same g3.g))
  | some d0=>
   refine .inr ?_
   obtain ⟨go,step⟩:=ia.1 d0 hd
   have eb':∃ δ2,h d0 (bJ ix δ)=some δ2/\ao (ao (c δ2 S2) λ b S1=>if b=true then ao (fe δ2 S1) λ e S2=>ao (bT n h c fe (bJ ix δ) k (i+1) S2) λ es S3=>some (.ok (e::es),S3) else bT n h c fe (bJ ix δ) k (i+1) S1) (λ es S1=>some (.ok (.list (as++es)),S1))=some (r,S'):=by
    simp only [bT,hl,Option.bind_some,hd] at eb
    cases e2:h d0 (bJ ix δ) with
    | none=>rw [e2] at eb;cases eb
    | some δ2=>rw [e2] at eb;exact ⟨δ2,rfl,eb⟩
   obtain ⟨δ2,e2,e3⟩:=eb'
   refine ⟨go,by omega,λ ys' H'=>ys'.length<=i+1/\∃ ρ3 G3 as' S3,GS ρ1 G1 H1 ρ3 G3 H'/\SR K ρ3 cl G3 H' S3/\aB K ρ3 G3 ys' as'/\ao (bT n h c fe (bJ ix δ) k (i+1) S3) (λ es S1=>some (.ok (.list (as'++es)),S1))=some (r,S'),λ ys' H' hy0=>by obtain ⟨l,z⟩:=hy0;exact ⟨k,Nat.lt_succ_self _,by omega,l,z⟩,λ x H' y=>?_⟩
   obtain ⟨G3,g3,dx⟩:=step x H' y
   have gs3:GS ρ2 G2 H2 ρ2 G3 H':=.of g3
   have s3:=s2.grow g3
   have R3:=R2.grow gs3 s3
   refine hg ρ2 G3 H' (bJ ix δ) _ x _ δ2 _ (R3.lift hx).rl dx e2 λ σ2 R4 o4=>?_
   have RS4:RS K cl ρ2 G3 H' δ2 σ2 S2:=⟨R4,s3,λ j ds' p h1 h2=>by
    obtain ⟨es',m1,m2⟩:=o4 j ds' p h1 h2
    exact (R3.lift hx).ap j es' p m1 m2⟩
   rcases aR e3 with ⟨c',em,rfl⟩ | ⟨es,S5,em,e4⟩
   . -- an exception on the way
     rcases aR em with ⟨c2,en,z⟩ | ⟨b,S4,en,e5⟩
     . cases z
       exact hc ρ2 G3 σ2 H' δ2 S2 _ _ _ RS4 en (λ d hd=>by cases hd) (λ c3 h3 ρ5 G5 H5 g5 s5=>by cases h3;exact qx c' rfl ρ5 G5 H5 (g12.trans (gs3.trans g5)) s5)
     . refine hc ρ2 G3 σ2 H' δ2 S2 _ _ _ RS4 en (λ d hd=>?_) (λ c3 h3=>by cases h3)
       cases hd
       intro ρ5 G5 H5 g5 s5
       have g15:=g2.trans (gs3.trans g5)
       have da5:=((da.ext (gs3.trans g5).r).same (gs3.trans g5).g)
       cases b with
       | false=>exact ⟨by omega,ρ5,G5,as,S4,g15,s5,da5,by rw [show bT n h c fe (bJ ix δ) k (i+1) S4=some (.xc c',S') from e5];rfl⟩
       | true=>
        rw [if_pos rfl] at e5 ⊢
        rcases aR e5 with ⟨c2,en2,z⟩ | ⟨ev,S6,en2,e6⟩
        . cases z
          exact he ρ5 G5 σ2 H5 δ2 S4 _ _ _ (RS4.grow g5 s5) en2 (λ d hd=>by cases hd) (λ c3 h3 ρ6 G6 H6 g6 s6=>by cases h3;exact qx c' rfl ρ6 G6 H6 (g12.trans (gs3.trans (g5.trans g6))) s6)
        . refine he ρ5 G5 σ2 H5 δ2 S4 _ _ _ (RS4.grow g5 s5) en2 (λ d hd=>?_) (λ c3 h3=>by cases h3)
          cases hd
          intro v ρ6 G6 H6 g6 s6 dv
          rcases aR e6 with ⟨c2,en3,z⟩ | ⟨es2,S7,en3,e7⟩
          . cases z
            exact ⟨by simp;omega,ρ6,G6,as++[ev],S6,g15.trans g6,s6,((da5.ext g6.r).same g6.g).app (.cons dv .nil),by rw [en3];rfl⟩
          . cases e7
   . cases e4
     rcases aR em with ⟨c2,en,z⟩ | ⟨b,S4,en,e5⟩
     . cases z
     . refine hc ρ2 G3 σ2 H' δ2 S2 _ _ _ RS4 en (λ d hd=>?_) (λ c3 h3=>by cases h3)
       cases hd
       intro ρ5 G5 H5 g5 s5
       have g15:=g2.trans (gs3.trans g5)
       have da5:=((da.ext (gs3.trans g5).r).same (gs3.trans g5).g)
       cases b with
       | false=>exact ⟨by omega,ρ5,G5,as,S4,g15,s5,da5,by rw [show bT n h c fe (bJ ix δ) k (i+1) S4=some (.ok es,S') from e5];rfl⟩
       | true=>
        rw [if_pos rfl] at e5 ⊢
        rcases aR e5 with ⟨c2,en2,z⟩ | ⟨ev,S6,en2,e6⟩
        . cases z
        . refine he ρ5 G5 σ2 H5 δ2 S4 _ _ _ (RS4.grow g5 s5) en2 (λ d hd=>?_) (λ c3 h3=>by cases h3)
          cases hd
          intro v ρ6 G6 H6 g6 s6 dv
          rcases aR e6 with ⟨c2,en3,z⟩ | ⟨es2,S7,en3,e7⟩
          . cases z
          . cases e7
            exact ⟨by simp;omega,ρ6,G6,as++[ev],S6,g15.trans g6,s6,((da5.ext g6.r).same g6.g).app (.cons dv .nil),by rw [en3];simp [ao]⟩
end
theorem zN {K:Frag} {cl:Str->Addr} {G H:Hp}:SR K [] cl G H []:=⟨rfl,List.nodup_nil,λ n o e=>by simp at e⟩
end L2
set_option Elab.async false
set_option linter.all false
set_option maxRecDepth 100000
namespace L2
open PySem PySem.Spec PyProof.Rows PySem.AutoSeq1
open PySem.W (Frag)
theorem Cy (l b:Addr) (xs ys:Array Value) (n k:Nat) (sl:Array (Option Value)) (h1:¬(!xs.isEmpty&&Builtin.List.listTooLong (xs.size+ys.size))=true) (h2:xs.size<=sizeLine) (h3:xs.size+ys.size<=sizeLine+1):
 Meets (Builtin.«list.extend» ⟨[.ref l,.ref b],[]⟩) (λ _ R s=>s.heap.get? l=some { cls:=.type "list", data:=.seq xs n }/\s.heap.get? b=some { cls:=.type "list", dict:=none,data:=.seq ys k,slots:=sl }/\R (.ok (.ret .none)) { s with heap:=s.heap.update l (Obj.mapSeq (·++ys)),toks:=s.toks }):=
 .of_wp λ prog w A R s h=>by
  obtain ⟨hp,g,d,tk,os⟩:=s
  obtain ⟨hl,hb,h⟩:=h
  have e1:=idx_int
  have e2:=AutoSeq1.sub_tuple_tuple
  have e3:=AutoSeq1.sub_list_list
  have e4:=AutoSeq1.sub_tuple_list
  have e5:=AutoSeq1.sub_list_tuple
  have hz:(xs++ys).size<=sizeLine+1:=by
   rw [Array.size_append]
   exact h3
  wp_walk using (wpAny_updateSeq hl rfl (hz:=h2) (_hz':=hz)),wpAny_loadPart' hl,wpAny_loadPart' hb
  exact ⟨_,rfl,h⟩
section
variable {X:Cx}
noncomputable def mJ (K:Frag):V->List V->Hp->VK->Prop:=λ x vs H Q=>∃ l b xs ys,x=.ref l/\vs=[.ref b]/\H l=some (.lst xs)/\cC K H b ys/\xs.length+ys.length<=sizeLine/\Q .non (cp H l (.lst (xs++ys)))
theorem uF:K1 X "list.extend" (mJ X.K):=by
 intro pins s σ H x vs v us Q I rx rv h
 obtain ⟨l,b,xs,ys,rfl,rfl,h1,h2,h3,q⟩:=h
 cases rx
 obtain ⟨u,rfl,ru⟩:=rv.one
 cases ru
 obtain ⟨z,its,n,r,hl,e⟩:=I.lstM h1
 obtain ⟨jts,r2,⟨⟨oc,od,da,sl⟩,k,e2,c1,c2,c3⟩,z2⟩:=I.list h2
 simp only at c1 c2 c3
 subst c1 c2 c3
 have l2:=r2.length
 have hn:¬ (!its.toArray.isEmpty&&Builtin.List.listTooLong (its.toArray.size+jts.toArray.size))=true:=by
  rw [List.size_toArray,List.size_toArray,sf (by omega),Bool.and_false]
  exact Bool.false_ne_true
 refine call_meets F.slot_list_extend ⟨_,e,rfl⟩ F.entry_list_extend (F.args_list_extend_2 _ _) (Cy l b its.toArray jts.toArray n k sl hn (by rw [List.size_toArray];omega) (by rw [List.size_toArray,List.size_toArray];omega)) ⟨e,e2,?_⟩
 refine ⟨.non,_,I.lset (its':=its++jts) h1 e (by simp) (r.append r2) ?_,rfl,q⟩
 rw [List.length_append]
 omega
end
section
variable {K:Frag} {ρ:List Addr}
theorem m9 {G:Hp}:∀ ws:List Str,aB K ρ G (ws.map V.str) (ws.map W.str)
 | []=>.nil
 | w::ws=>.cons (.str w) (m9 ws)
theorem rY {H:Hp} {x:V} {d:W} {a:Addr} {ws:List Str} {b:Bool} (h:eK K H a (ws.map V.str)) (hx:Dw K ρ H x d) (e:lQ d (.tuple (ws.map W.str))=some b):f8 x=true/\(ws.map V.str).all f8=true/\EO x (ws.map V.str)=b:=by
 obtain ⟨ds,e1,e⟩:=oB e
 obtain ⟨v,e2,e⟩:=oB e
 obtain ⟨vs,e3,rfl⟩:=oM e
 cases e1
 obtain ⟨rfl,f1⟩:=tq hx e2
 obtain ⟨rfl,f2⟩:=qa (K:=K) (ρ:=ρ) (H:=H) (m9 ws) e3
 exact ⟨f1,f2,rfl⟩
theorem z7 {neg:Bool} {ta:TE} {fa:DS->Option W} {a:Addr} {ws:List Str} (hs:∀ G,eK K G a (ws.map V.str)) (ha:DK K ρ ta fa) {G:Hp} {σ:St} {H:Hp} {δ:DS} {b:Bool} {Q:VK} (R:Rl K ρ G H δ σ) (e:ay (if neg then iE else lQ) fa (dC (.tuple (ws.map W.str))) δ=some b) (q:∀ G' H',Gr G H G' H'->Q (.bl b) H'):qR (DZ K neg) ta (tC (.ref a)) σ H Q:=by
 obtain ⟨x,ex,e⟩:=oB e
 have e:(if neg then iE else lQ) x (.tuple (ws.map W.str))=some b:=e
 refine ha G σ H δ x _ R ex λ v G1 H1 g1 dv=>?_
 have dv:=dv.dp g1.s
 cases neg with
 | false=>
  obtain ⟨f1,f2,rfl⟩:=rY (hs H1) dv e
  exact ⟨a,_,rfl,.inr (hs H1),f1,f2,q G1 H1 g1⟩
 | true=>
  obtain ⟨b',e',rfl⟩:=oM e
  obtain ⟨f1,f2,rfl⟩:=rY (hs H1) dv e'
  exact ⟨a,_,rfl,.inr (hs H1),f1,f2,q G1 H1 g1⟩
theorem xx {ta:TE} {fa:DS->Option W} {a:Addr} {ws:List Str} (hs:∀ G,eK K G a (ws.map V.str)) (ha:DK K ρ ta fa):DT K ρ (vG (qR (DZ K true) ta (tC (.ref a)))) (ay iE fa (dC (.tuple (ws.map W.str)))):=λ G σ H δ b Q R e q=>
 z7 (neg:=true) hs ha R e λ G' H' g=>⟨b,rfl,q G' H' g⟩
noncomputable def gE (i:Nat) (f:DS->Option W):DS->Option cY:=λ δ=>(jq i δ).bind λ ds=>(f δ).bind λ d=>(hJ d).bind λ es=>if ds.length+es.length<=sizeLine then some (.nx (δ.set i (.own (ds++es)))) else none
theorem j8 {i:Nat} {t:TE} {f:DS->Option W} (h:DE K ρ t f):n9 K ρ (rK (GP K "list" (mJ K) (xh i) (gX t lM))) (gE i f):=λ G0 H0 G σ H δ o D I e p=>by
 obtain ⟨ds,eo,e⟩:=oB e
 obtain ⟨d,ed,e⟩:=oB e
 obtain ⟨es,ee,e⟩:=oB e
 split at e
 case isFalse=>cases e
 rename_i hz
 cases e
 cases gx ee
 have ho:=mP eo
 obtain ⟨o,h1,q,vs,rfl,h3,h4,h5⟩:=I.rl.sl i _ ho
 refine ⟨.ref q,h1,.inl ⟨rfl,vs,cC.of h4⟩,h G σ H δ _ _ I.rl ed λ v G1 H1 g1 dv=>?_⟩
 have I1:=I.grow g1
 cases dv with
 | lst sq da=>
  refine ⟨q,_,vs,_,rfl,rfl,g1.h _ _ h4,g1.s.seq sq,by rw [h5.length,da.length];exact hz,?_⟩
  exact p σ G1 _ (I1.put ho h1 (g1.n q (by rw [h4];simp) h3) ((h5.same g1.g).app da))
end
structure AK (K:Frag) (x q:Str) (st:Stmt) (f:Addr) (fd:FuncData):Prop where
 ex:∃ (dV oc kV dc pm cd ct:Value) (od an:Option Addr) (sl:Array (Option Value)),fd=PySem.W.fnOf x q (dt st) (cP st) (bn st) dV kV dc pm an cd ct/\K.lookup f=some ⟨oc,od,.func fd,sl⟩/\PySem.W.codeIn K cd q=true
 kp:PySem.W.keepIn K (.ref f)=true
theorem AK.ok {P:Program} {w:World} {K:Frag} {mg:Str->Option Value} {base:Heap} {x q:Str} {st:Stmt} {f:Addr} {fd:FuncData} {N ps:List Str} {k:Nat} {sp:Sp} (F:AK K x q st f fd) (S:fP N ps (bn st)) (hl:∀ vs H Q E,sp vs H Q E->vs.length=ps.length)
 (hb:∀ (cd:Value) (A:Around) (outer:List Env) (s:Shared) (H:Hp) (vs:List V) (Q:VK) (E:XK),d3 k (A.deeper (envOfC q (bn st) s.heap.objs.size f cd))->sp vs H Q E->
  ∃ t,sP (uG Dc P w K mg base N q (bn st) f cd A outer s H E).nox (cP st) t/\t ({ nx:=λ _ H'=>Q V.non H',rt:=Q }:iq) (start N vs) H):ez P w K mg base Dc (k+1) f fd ps sp:=by
 obtain ⟨dV,oc,kV,dc,pm,cd,ct,od,an,sl,rfl,lk,hc⟩:=F.ex
 refine ID lk hc S hl λ A outer s H vs Q E hr hs=>?_
 obtain ⟨t,h,r⟩:=hb cd A outer s H vs Q E hr hs
 exact ⟨t,h.nox,r⟩
theorem jW {K:Frag} {x q:Str} {st:Stmt} {f:Addr} {dV oc kV dc pm cd ct:Value} {od an:Option Addr} {sl:Array (Option Value)} (l:K.lookup f=some ⟨oc,od,.func (PySem.W.fnOf x q (dt st) (cP st) (bn st) dV kV dc pm an cd ct),sl⟩) (c:PySem.W.codeIn K cd q=true) (k:PySem.W.keepIn K (.ref f)=true):AK K x q st f (PySem.W.fnOf x q (dt st) (cP st) (bn st) dV kV dc pm an cd ct):=⟨⟨dV,oc,kV,dc,pm,cd,ct,od,an,sl,rfl,l,c⟩,k⟩
section
variable {K:Frag} {ρ:List Addr}
noncomputable def tf (f:List W->Option W) (fa:DS->Option (List W)):DS->Option W:=λ δ=>(fa δ).bind λ ds=>f (ds++[.none])
theorem yu {f:List W->Option W} {t:TA} {fa:DS->Option (List W)} {E:XK} (h:DA K ρ t fa):DE K ρ (p4 (jx K f) [.non] E t) (tf f fa):=λ G σ H δ d Q R e q=>by
 obtain ⟨ds,ed,e⟩:=oB e
 exact h G σ H δ ds _ R ed λ vs G1 H1 g1 da=>⟨ρ,G1,ds++[.none],d,g1.s,da.app (.cons .non .nil),e,λ v G2 H2 g2 dv=>q v G2 H2 (g1.trans g2) dv⟩
end
noncomputable def m6 (i j:Int):Bool:=decide (0<=j)&&decide (j<=1000)&&decide (i.natAbs<2^64)
noncomputable def km:W->W->Option W:=AW m6 λ i j=>i^j.toNat
theorem Gg {K:Frag} {ρ:List Addr}:DR K ρ (rI Jf λ i j=>.int (i^j.toNat)) km:=vy λ i j h=>by
 simp only [m6,Bool.and_eq_true,decide_eq_true_eq] at h
 exact ⟨h.1.1,by omega,h.2⟩
theorem yy:bc [V.non] [Value.none]:=.cons rfl .nil
section
variable {K:Frag} {cl:Str->Addr} {E:XK}
noncomputable def sC:List W->Option (List aF)
 | []=>some []
 | d::ds=>(nQ d).bind λ k=>(sC ds).map (k::·)
noncomputable def di:W->Option (List aF)
 | .tuple ds=>sC ds
 | _=>none
theorem rC {ρ:List Addr} {G:Hp} {vs:List V} {ds:List W} {ks:List aF} (h:aB K ρ G vs ds):sC ds=some ks->vs=ks.map kV:=
 h.ind (M:=λ vs ds=>∀ ks,sC ds=some ks->vs=ks.map kV) (λ ks e=>by cases e;rfl) (λ _ _ _ _ a ih ks e=>by
  obtain ⟨k,e1,e⟩:=oB e
  obtain ⟨ks,e2,rfl⟩:=oM e
  rw [ni a e1,ih _ e2]
  rfl) ks
theorem oH {ρ:List Addr} {G:Hp} {v:V} {d:W} {ks:List aF} (h:Dw K ρ G v d) (e:di d=some ks):∃ b,v=.ref b/\G b=some (.tup (ks.map kV)):=by
 cases h with
 | tup sq da=>exact ⟨_,rfl,by rw [<-rC da e];exact sq⟩
 | _=>cases e
noncomputable def oz (x y:W) (S:ag):Option (Option W):=match eQ x S with
 | some (_,.dK kvs)=>(nQ y).map λ k=>bg kvs k
 | some (_,.dT kvs)=>(di y).map λ k=>bg kvs k
 | _=>none
theorem mh {ρ:List Addr} {G H:Hp} {S:ag} {v u:V} {x y:W} {o:Option W} (sg:bo G H) (s:SR K ρ cl G H S) (dv:Dw K ρ G v x) (du:Dw K ρ G u y) (h:oz x y S=some o):∃ a r,v=.ref a/\jX H a u r/\(match o with | some d=>∃ z,r=some z/\Dw K ρ G z d | none=>r=none):=by
 unfold oz at h
 split at h
 . rename_i n kvs e1
   obtain ⟨k,e3,e4⟩:=oM h
   obtain ⟨rfl,e5⟩:=cZ e1
   obtain ⟨a,rfl,ea⟩:=cy dv
   obtain ⟨ga,ws,k1,k2⟩:=s.addr e5 ea
   obtain ⟨v1,v2⟩:=k2.val (k:=k)
   refine ⟨a,eE ws k,rfl,?_,?_⟩
   . rw [ni du e3]
     exact jX.k k1
   . cases o with
     | some d=>exact v1 d e4
     | none=>exact v2 e4
 . rename_i n kvs e1
   obtain ⟨k,e3,e4⟩:=oM h
   obtain ⟨rfl,e5⟩:=cZ e1
   obtain ⟨a,rfl,ea⟩:=cy dv
   obtain ⟨ga,ws,k1,k2⟩:=s.addr e5 ea
   obtain ⟨v1,v2⟩:=k2.val (k:=k)
   obtain ⟨b,rfl,hb⟩:=oH du e3
   refine ⟨a,eE ws k,rfl,jX.t k1 (sg _ _ hb),?_⟩
   . cases o with
     | some d=>exact v1 d e4
     | none=>exact v2 e4
 . cases h
noncomputable def kt (fo fk:DS->ag->SM W):DS->ag->SM W:=λ δ S=>ao (fo δ S) λ x S1=>ao (fk δ S1) λ y S2=>(oz x y S2).bind λ o=>hZ o S2
theorem BI {to tk:TE} {fo fk:DS->ag->SM W} (ho:SE K cl E to fo) (hk:SE K cl E tk fk):SE K cl E (DC to tk) (kt fo fk):=λ ρ G σ H δ S r S' Q R e q qx=>
 eP ho hk R e (λ x y S2 e2 v u ρ2 G2 H2 g2 s2 dv du=>by
  obtain ⟨o,e3,e4⟩:=oB e2
  obtain ⟨d,rfl,rfl,rfl⟩:=br e4
  obtain ⟨a,r,rfl,h1,z,rfl,h2⟩:=mh g2.s s2 dv du e3
  exact ⟨a,z,rfl,h1,q d rfl z ρ2 G2 H2 g2 s2 h2⟩) qx
noncomputable def ig (neg:Bool) (fk fo:DS->ag->SM W):DS->ag->SM Bool:=λ δ S=>ao (fk δ S) λ y S1=>ao (fo δ S1) λ x S2=>hZ ((oz x y S2).map λ o=>if neg then !o.isSome else o.isSome) S2
theorem E4 {to tk:TE} {fo fk:DS->ag->SM W} (hk:SE K cl E tk fk) (ho:SE K cl E to fo):ST K cl E (tB (Ei tk to)) (ig false fk fo):=λ ρ G σ H δ S r S' Q R e q qx=>
 eP hk ho R e (λ y x S2 e2 u v ρ2 G2 H2 g2 s2 du dv=>by
  obtain ⟨b,e3,rfl,rfl⟩:=br e2
  obtain ⟨o,e4,rfl⟩:=oM e3
  obtain ⟨a,r,rfl,h1,h2⟩:=mh g2.s s2 dv du e4
  have hb:r.isSome=o.isSome:=by
   cases o with
   | some d=>obtain ⟨z,rfl,_⟩:=h2;rfl
   | none=>rw [show r=none from h2];rfl
  refine ⟨a,r,rfl,h1,?_⟩
  rw [hb]
  exact ⟨o.isSome,rfl,q _ rfl ρ2 G2 H2 g2 s2⟩) qx
theorem wX {to tk:TE} {fo fk:DS->ag->SM W} (hk:SE K cl E tk fk) (ho:SE K cl E to fo):ST K cl E (tB (ww tk to)) (ig true fk fo):=λ ρ G σ H δ S r S' Q R e q qx=>
 eP hk ho R e (λ y x S2 e2 u v ρ2 G2 H2 g2 s2 du dv=>by
  obtain ⟨b,e3,rfl,rfl⟩:=br e2
  obtain ⟨o,e4,rfl⟩:=oM e3
  obtain ⟨a,r,rfl,h1,h2⟩:=mh g2.s s2 dv du e4
  have hb:r.isSome=o.isSome:=by
   cases o with
   | some d=>obtain ⟨z,rfl,_⟩:=h2;rfl
   | none=>rw [show r=none from h2];rfl
  refine ⟨a,r,rfl,h1,?_⟩
  rw [hb]
  exact ⟨!o.isSome,rfl,q _ rfl ρ2 G2 H2 g2 s2⟩) qx
noncomputable def pT (x y d:W) (S:ag):Option ag:=match eQ x S with
 | some (n,.dK kvs)=>(nQ y).bind λ k=>if kvs.length<sizeLine then some (S.set n (.dK (cV kvs k d))) else none
 | some (n,.dT kvs)=>(di y).bind λ k=>if kvs.length<sizeLine then some (S.set n (.dT (cV kvs k d))) else none
 | _=>none
theorem Co {ρ:List Addr} {G H:Hp} {S S':ag} {v u w:V} {x y d:W} (sg:bo G H) (s:SR K ρ cl G H S) (dv:Dw K ρ G v x) (du:Dw K ρ G u y) (dw:Dw K ρ G w d) (h:pT x y d S=some S'):∃ a H',v=.ref a/\pE H a u w H'/\SR K ρ cl G H' S'/\GS ρ G H ρ G H':=by
 unfold pT at h
 split at h
 . rename_i n kvs e1
   obtain ⟨k,e3,e4⟩:=oB h
   split at e4
   case isFalse=>cases e4
   rename_i hl
   cases e4
   obtain ⟨rfl,e5⟩:=cZ e1
   obtain ⟨a,rfl,ea⟩:=cy dv
   obtain ⟨ga,ws,k1,k2⟩:=s.addr e5 ea
   obtain ⟨s4,g4⟩:=s.put (x:=.dK (fX ws k w)) (o':=.dK (cV kvs k d)) sg e5 ea (λ b z=>by cases z) ⟨_,aK,k2.put dw⟩
   refine ⟨a,_,rfl,?_,s4,g4⟩
   rw [ni du e3]
   exact pE.k k1 (by rw [<-k2.length];exact hl)
 . rename_i n kvs e1
   obtain ⟨k,e3,e4⟩:=oB h
   split at e4
   case isFalse=>cases e4
   rename_i hl
   cases e4
   obtain ⟨rfl,e5⟩:=cZ e1
   obtain ⟨a,rfl,ea⟩:=cy dv
   obtain ⟨ga,ws,k1,k2⟩:=s.addr e5 ea
   obtain ⟨s4,g4⟩:=s.put (x:=.dT (fX ws k w)) (o':=.dT (cV kvs k d)) sg e5 ea (λ b z=>by cases z) ⟨_,aK,k2.put dw⟩
   obtain ⟨b,rfl,hb⟩:=oH du e3
   exact ⟨a,_,rfl,pE.t k1 (sg _ _ hb) (by rw [<-k2.length];exact hl),s4,g4⟩
 . cases h
noncomputable def jB (fo fk fv:DS->ag->SM W):DS->ag->SO:=λ δ S=>jm (fv δ S) λ d S1=>jm (fo δ S1) λ x S2=>jm (fk δ S2) λ y S3=>(pT x y d S3).map λ S4=>(.nx δ,S4)
theorem uU {to tk tv:TE} {fo fk fv:DS->ag->SM W} (ho:SE K cl E to fo) (hk:SE K cl E tk fk) (hv:SE K cl E tv fv):lR K cl E (CZ to tk tv) (jB fo fk fv):=λ ρ0 G0 H0 ρ G σ H δ S o S' D I e p=>
 dQ hv I e p λ d S1 e1 v ρ1 G1 H1 g1 s1 dv=>by
  have I1:=I.grow g1 s1
  refine dQ ho I1 e1 p λ x S2 e2 u ρ2 G2 H2 g2 s2 du=>?_
  have I2:=I1.grow g2 s2
  refine dQ hk I2 e2 p λ y S3 e3 w ρ3 G3 H3 g3 s3 dw=>?_
  obtain ⟨S4,e4,e5⟩:=oM e3
  cases e5
  have g23:=g2.trans g3
  obtain ⟨a,H4,rfl,h1,s4,g4⟩:=Co g3.s s3 ((du.ext g3.r).same g3.g) dw ((dv.ext g23.r).same g23.g) e4
  exact ⟨a,_,rfl,h1,p σ ρ3 G3 _ ((I2.grow g3 s3).grow g4 s4)⟩
end
theorem d3.units1 {k:Nat} {A:Around} (r:d3 k A):A.units+1<cLine:=Nat.lt_of_le_of_lt (by omega) r.units
section
variable {K:Frag} {cl:Str->Addr} {E:XK}
noncomputable def yH (fo:DS->ag->SM W):DS->ag->SM W:=λ δ S=>ao (fo δ S) λ x S1=>(eX x S1).bind λ p=>(p.2[p.2.length-1]?).map λ d=>(.ok d,S1.set p.1 (.lst p.2.dropLast))
theorem aB.dropL {ρ:List Addr} {G:Hp} {vs:List V} {ds:List W} (h:aB K ρ G vs ds):aB K ρ G vs.dropLast ds.dropLast:=by rw [List.dropLast_eq_take,List.dropLast_eq_take,h.length];exact h.take _
theorem FY {to:TE} {fo:DS->ag->SM W} (ho:SE K cl E to fo):SE K cl E (AR K "list" Er to) (yH fo):=λ ρ G σ H δ S r' S' Q R e q qx=>
 c6 ho R e (λ x S2 e2 v ρ2 G2 H2 g2 s2 dv=>by
  obtain ⟨⟨n,ds⟩,e3,e4⟩:=oB e2
  obtain ⟨d,e5,e6⟩:=oM e4
  cases e6
  obtain ⟨rfl,e7⟩:=cn e3
  obtain ⟨a,rfl,ea⟩:=cy dv
  obtain ⟨ga,vs,k1,k2⟩:=s2.addr e7 ea
  obtain ⟨z,h1,h2⟩:=k2.get e5
  obtain ⟨s4,g4⟩:=s2.put (x:=.lst vs.dropLast) (o':=.lst ds.dropLast) g2.s e7 ea (λ b z=>by cases z) ⟨_,aK,k2.dropL⟩
  exact ⟨.inl ⟨rfl,vs,cC.of k1⟩,a,vs,z,rfl,rfl,k1,by rw [k2.length];exact h1,q d rfl z ρ2 G2 _ (g2.trans g4) s4 h2⟩) qx
end
noncomputable def AF (g:List W->Option W) (fa:DS->Option (List W)):DS->Option W:=λ δ=>(fa δ).bind g
section
variable {K:Frag} {ρ:List Addr}
end
section
variable {K:Frag} {cl:Str->Addr} {E:XK}
end
open PySem.AutoSeq1 (wpAny_loadPart')
section
variable {prog:Program} {w:World} {A:Around} {E:Value->Shared->Prop} {s:Shared}
end
open PySem.AutoSeq1 (wpAny_loadPart')
section
variable {prog:Program} {w:World} {A:Around} {E:Value->Shared->Prop} {s:Shared}
end
section
variable {M:Model} {A:Around} {E:Value->Shared->Prop} {s:Shared} {env:Env}
end
noncomputable def sU (k:Nat) (ds:List W):List W:=(List.range ds.length).map λ (i:Nat)=>.tuple [.int ((k+i:Nat):Int),ds[i]?.getD .none]
section
variable {K:Frag} {ρ:List Addr}
noncomputable def EB:W->Option (List W)
 | .tuple ds=>some ds
 | _=>none
theorem Cm {d:W} {ds:List W} (h:EB d=some ds):d=.tuple ds:=by
 cases d <;> first | (cases h;rfl) | cases h
theorem Et (ds:List W):EB (.tuple ds)=some ds:=rfl
noncomputable def kH (f:DS->Option W) (lo hi:DS->Option (Option Int)):DS->Option W:=λ δ=>(f δ).bind λ d=>(EB d).bind λ ds=>(lo δ).bind λ l=>(hi δ).map λ u=>.tuple (ic ds l u)
theorem yG {t:TE} {tl th:TO} {f:DS->Option W} {lo hi:DS->Option (Option Int)} (h:DE K ρ t f) (hl:CC K ρ tl lo) (hh:CC K ρ th hi):DE K ρ (JA (Dz K) t tl th) (kH f lo hi):=λ G σ H δ d Q R e q=>by
 obtain ⟨x,ed,e⟩:=oB e
 obtain ⟨es,ee,e⟩:=oB e
 obtain ⟨l,el,e⟩:=oB e
 obtain ⟨u,eu,rfl⟩:=oM e
 cases Cm ee
 refine h G σ H δ _ _ R ed λ v G1 H1 g1 dv=>hl G1 σ H1 δ l _ (R.grow g1) el λ G2 H2 g2=>hh G2 σ H2 δ u _ ((R.grow g1).grow g2) eu λ G3 H3 g3=>?_
 have g23:=g2.trans g3
 have g:=g1.trans g23
 obtain ⟨p,vs,rfl,sq,da⟩:=pM (dv.same g23.g)
 refine ⟨p,vs,rfl,eK.of (g.s _ _ sq),?_⟩
 by_cases hw:HT.sIx vs.length 0 l=0/\HT.sIx vs.length vs.length u=vs.length
 . refine .inl ⟨hw.1,hw.2,q _ G3 H3 g ?_⟩
   have e1:ic es l u=es:=by
    unfold ic
    rw [<-da.length,hw.1,hw.2,da.length]
    simp
   rw [e1]
   exact .tup sq da
 . refine .inr ⟨hw,λ r H' n=>?_⟩
   have g4:=Gr.nw g.s n
   exact q _ _ H' (g.trans g4) (.tup aK ((da.cut l u).same g4.g))
noncomputable def vw (T:String):W->Option W
 | .list _=>if T = "list" then some (.bool true) else none
 | .tuple _=>if T = "tuple" then some (.bool true) else none
 | d=>Ak T d
theorem Ft (ds:List W):vw "list" (.list ds)=some (.bool true):=by simp [vw]
theorem Eh (ds:List W):vw "tuple" (.tuple ds)=some (.bool true):=by simp [vw]
end
section
variable {K:Frag} {cl:Str->Addr} {E:XK}
end
theorem JX {X:Cx} {K:Frag} {e:Expr} {f:Str} {pos:Pos} {ta:TE} (hK:X.K=K) (he:PE X e ta) (hb:attributeBase e f X.env (eval e X.env)=eval e X.env):PE X (.Attribute e f pos) (Ep K ta f):=hK▸EW he hb
theorem Di {α:Type} (x y:α) (r:List α):fK (x::y::r) 1=some y:=by
 unfold fK sQ
 rw [if_pos (by decide),if_pos (by simp;omega)]
 rfl
theorem qO {α:Type} (x:α) (r:List α):fK (x::r) 0=some x:=by
 unfold fK sQ
 rw [if_pos (by decide),if_pos (by simp)]
 rfl
theorem sz (n:Nat) (h:n<=9000):n<=sizeLine:=Nat.le_trans h (by decide)
theorem eS {S:ag} {l:Nat} {es:List W} (h:S[l]?=some (.lst es)):eX (.ref l) S=some (l,es):=by simp [eX,eQ,h]
theorem dj {κ:Type} [DecidableEq κ]:∀ (kvs:List (κ×W)) (k q:κ) (x:W),bg kvs k=none->bg (kvs++[(k,x)]) q=if q=k then some x else bg kvs q:=λ kvs k q x h=>by
 induction kvs with
 | nil=>
  by_cases e:q=k
  . subst e;simp [bg]
  . have e':¬ k=q:=λ z=>e z.symm
    simp [bg,e,e']
 | cons p r ih=>
  obtain ⟨j,y⟩:=p
  by_cases hj:j=k
  . subst hj
    simp [bg,List.find?_cons] at h
  . have h':bg r k=none:=by simpa [bg,List.find?_cons,hj] using h
    have ih':=ih h'
    by_cases hq:j=q
    . subst hq
      simp [bg,List.find?_cons,hj]
    . simp only [bg,List.cons_append,List.find?_cons,hq,decide_false] at ih' ⊢
      exact ih'
theorem kY {κ:Type} [DecidableEq κ] {kvs:List (κ×W)} {k:κ} (x:W) (h:bg kvs k=none):cV kvs k x=kvs++[(k,x)]:=by
 unfold cV
 rw [if_neg]
 intro ha
 obtain ⟨kv,h1,h2⟩:=List.any_eq_true.mp ha
 unfold bg at h
 have h3:kvs.find? (λ kv=>decide (kv.1=k))=none:=by
  cases hf:kvs.find? (λ kv=>decide (kv.1=k)) with
  | none=>rfl
  | some z=>rw [hf] at h;cases h
 exact absurd h2 (by simpa using List.find?_eq_none.mp h3 kv h1)
theorem aW {S:ag} {m:Nat} {o x:Ob} (h:S[m]?=some o):(S++[x])[m]?=some o:=by
 rw [List.getElem?_append_left (oG h).1]
 exact h
theorem gF (B:List Int) (i:Int) (h0:0<=i) (h1:i<B.length):fK (B.map W.int) i=some (.int (B[i.toNat]?.getD 0)):=by
 unfold fK sQ
 rw [if_pos h0,if_pos (by simpa using h1)]
 have h2:i.toNat<B.length:=by omega
 simp [List.getElem?_eq_getElem h2]
theorem fj (lo:Int) (n:Nat):eW lo (n+1)=.int lo::eW (lo+1) n:=by
 unfold eW
 rw [List.range_succ_eq_map,List.map_cons,List.map_map]
 congr 1
 . simp
 . apply List.map_congr_left
   intro a _
   show W.int (lo+((a+1:Nat):Int))=W.int (lo+1+(a:Int))
   congr 1
   omega
theorem dJ (h:W->DS->Option DS) (fe:DS->ag->SM W) (δ δ2:DS) (d e:W) (ds es:List W) (S S1 S2:ag) (h1:h d δ=some δ2) (h2:fe δ2 S=some (.ok e,S1)) (h3:bR h (ab gR) fe δ ds S1=some (.ok es,S2)):bR h (ab gR) fe δ (d::ds) S=some (.ok (e::es),S2):=by
 show (h d δ).bind _=_
 rw [h1]
 show ao (fe δ2 S) _=_
 rw [h2]
 show ao (bR h (ab gR) fe δ ds S1) _=_
 rw [h3]
 rfl
theorem bi {a n:Nat} {fb:DS->ag->SO} {ds:List W} {S:ag} (h:ds.length=a):cB a n fb ds S=eA (fb (bB n ds) S):=if_pos h
theorem ah {f g:DS->ag->SO} {δ δ':DS} {S S':ag} (h:f δ S=some (.nx δ',S')):aC f g δ S=g δ' S':=by unfold aC;rw [h]
theorem cU {c:DS->ag->SM Bool} {f g:DS->ag->SO} {δ:DS} {S S1:ag} (h:c δ S=some (.ok true,S1)):bX c f g δ S=f δ S1:=by unfold bX;rw [h];rfl
theorem bw {c:DS->ag->SM Bool} {f g:DS->ag->SO} {δ:DS} {S S1:ag} (h:c δ S=some (.ok false,S1)):bX c f g δ S=g δ S1:=by unfold bX;rw [h];rfl
theorem bt {f:DS->ag->SM W} {h:W->DS->Option DS} {δ δ':DS} {S S1:ag} {d:W} (h1:f δ S=some (.ok d,S1)) (h2:h d δ=some δ'):cG f h δ S=some (.nx δ',S1):=by
 unfold cG
 rw [h1]
 show (h d δ).map _=_
 rw [h2]
 rfl
theorem cv {fi:DS->ag->SM (List W)} {h:W->DS->Option DS} {fb:DS->ag->SO} {δ:DS} {S S1:ag} {ds:List W} (h1:fi δ S=some (.ok ds,S1)):eY fi h fb δ S=bv h fb ds δ S1:=by unfold eY;rw [h1];rfl
theorem bx {h:W->DS->Option DS} {fb:DS->ag->SO} {d:W} {ds:List W} {δ δ2 δ':DS} {S S':ag} (h1:h d δ=some δ2) (h2:fb δ2 S=some (.nx δ',S')):bv h fb (d::ds) δ S=bv h fb ds δ' S':=by
 show (h d δ).bind _=_
 rw [h1]
 show (match fb δ2 S with | some (.nx δ',S')=>_ | some (.ct δ',S')=>_ | some (.bk δ',S')=>_ | some (.rt d,S')=>_ | some (.xc c,S')=>_ | none=>_)=_
 rw [h2]
theorem mL {ix:List (Option Nat)} {fi:DS->ag->SM (List W)} {h:W->DS->Option DS} {c:DS->ag->SM Bool} {fe:DS->ag->SM W} {δ:DS} {S S0 S1:ag} {ds es:List W} (h1:fi δ S=some (.ok ds,S0)) (h2:ds.length<=sizeLine) (h3:bR h c fe (bJ ix δ) ds S0=some (.ok es,S1)):oO ix fi h c fe δ S=some (.ok (.list es),S1):=by
 unfold oO
 rw [h1]
 show (if ds.length<=sizeLine then _ else _)=_
 rw [if_pos h2,h3]
 rfl
theorem wM {m:Nat} {n:Nat×Bool} {ix:List (Option Nat)} {fi:DS->ag->SM (Nat×Bool)} {h:W->DS->Option DS} {c:DS->ag->SM Bool} {fe:DS->ag->SM W} {δ:DS} {S S0 S1:ag} {es:List W} (h1:fi δ S=some (.ok n,S0)) (h2:m<=sizeLine) (h3:bT n h c fe (bJ ix δ) m 0 S0=some (.ok es,S1)):nI m ix fi h c fe δ S=some (.ok (.list es),S1):=by
 unfold nI
 rw [h1]
 show (if m<=sizeLine then _ else _)=_
 rw [if_pos h2,h3]
 rfl
theorem cE (i:Int) {j:Int} (h:0<j):0<=i.fmod j/\i.fmod j<j:=⟨Int.fmod_nonneg_of_pos i h,Int.fmod_lt_of_pos i h⟩
theorem vF {S:ag} {l:Nat} {es:List W} (h:S[l]?=some (.lst es)):fU S (l,false)=some es:=by simp [fU,oI,h]
mutual
noncomputable def gv:W->Bool
 | .none | .bool _ | .int _=>true
 | .str x=>PyData.strOk x
 | .list ds | .tuple ds=>bZ ds
 | .ref _=>false
noncomputable def bZ:List W->Bool
 | []=>true
 | d::ds=>gv d&&bZ ds
end
mutual
noncomputable def cA:W->Nat
 | .list ds | .tuple ds=>bC ds+1
 | _=>0
noncomputable def bC:List W->Nat
 | []=>0
 | d::ds=>max (cA d) (bC ds)
end
mutual
theorem uC:∀ (d:W),gv d=true->∃ a,d.py=some a/\a.canLay0=true/\a.depth=cA d/\PyData.eqv a a=true
 | .none,_=>⟨.none,rfl,by simp [PyData.canLay0],by simp [PyData.depth,cA],by simp [PyData.eqv]⟩
 | .bool b,_=>⟨.bool b,rfl,by simp [PyData.canLay0],by simp [PyData.depth,cA],by simp [PyData.eqv]⟩
 | .int i,_=>⟨.int i,rfl,by simp [PyData.canLay0],by simp [PyData.depth,cA],by simp [PyData.eqv]⟩
 | .str x,h=>⟨.str x,rfl,by simpa [PyData.canLay0,gv] using h,by simp [PyData.depth,cA],by simp [PyData.eqv]⟩
 | .list ds,h=>by
  obtain ⟨xs,e1,e2,e3,e4⟩:=qh ds (by simpa [gv] using h)
  exact ⟨.list xs,by simp [W.py,e1],by simpa [PyData.canLay0] using e2,by simp [PyData.depth,cA,e3],by simpa [PyData.eqv] using e4⟩
 | .tuple ds,h=>by
  obtain ⟨xs,e1,e2,e3,e4⟩:=qh ds (by simpa [gv] using h)
  exact ⟨.tuple xs,by simp [W.py,e1],by simpa [PyData.canLay0] using e2,by simp [PyData.depth,cA,e3],by simpa [PyData.eqv] using e4⟩
 | .ref _,h=>by simp [gv] at h
theorem qh:∀ (ds:List W),bZ ds=true->∃ xs,W.pys ds=some xs/\PyData.canLayAll0 xs=true/\PyData.depthAll xs=bC ds/\PyData.eqvAll xs xs=true
 | [],_=>⟨[],rfl,by simp [PyData.canLayAll0],by simp [PyData.depthAll,bC],by simp [PyData.eqvAll]⟩
 | d::ds,h=>by
  have h':gv d=true/\bZ ds=true:=by simpa [bZ] using h
  obtain ⟨a,a1,a2,a3,a4⟩:=uC d h'.1
  obtain ⟨xs,e1,e2,e3,e4⟩:=qh ds h'.2
  exact ⟨a::xs,by simp [W.pys,a1,e1],by simp [PyData.canLayAll0,a2,e2],by simp [PyData.depthAll,bC,a3,e3],by simp [PyData.eqvAll,a4,e4]⟩
end
theorem i8 {ds:List W} (h:∀ d∈ds,gv d=true):bZ ds=true:=by
 induction ds with
 | nil=>rfl
 | cons d ds ih=>simp [bZ,h d (by simp),ih λ e he=>h e (by simp [he])]
theorem iS {ds:List W} {n:Nat} (h:∀ d∈ds,cA d<=n):bC ds<=n:=by
 induction ds with
 | nil=>simp [bC]
 | cons d ds ih=>
  have:=h d (by simp)
  have:=ih λ e he=>h e (by simp [he])
  simp [bC]
  omega
theorem Au {d:W} (h:gv d=true) (b:Bool) (e:HG d d=some b):b=true:=by
 cases d with
 | none=>exact (Option.some.inj e).symm
 | int i=>exact (Option.some.inj e).symm.trans (by simp)
 | bool i=>exact (Option.some.inj e).symm.trans (by simp)
 | str i=>exact (Option.some.inj e).symm.trans (by simp)
 | _=>cases e
theorem yL {d:W} (h:gv d=true) (hd:cA d<=64):b8 d d=some true:=by
 obtain ⟨a,a1,a2,a3,a4⟩:=uC d h
 unfold b8
 split
 . rename_i b e
   rw [Au h b e]
 . simp [a1,a2,a3,a4,hd]
theorem yY {d:W} (h:gv d=true) (hd:cA d<=64):qP d d=some false:=by
 unfold qP
 rw [yL h hd]
 rfl
theorem Cd {α:Type} (l:List α) (k:Nat) (h:k<l.length):fK l (k:Int)=l[k]?:=by
 unfold fK sQ
 rw [if_pos (by omega),if_pos (by omega)]
 simp
theorem Mt {α:Type} (a b c:α) (r:List α):fK (a::b::c::r) 2=some c:=(Cd _ 2 (by simp)).trans rfl
theorem Md {α:Type} (a b c d:α) (r:List α):fK (a::b::c::d::r) 3=some d:=(Cd _ 3 (by simp)).trans rfl
theorem KA {α:Type} (a b c d e:α) (r:List α):fK (a::b::c::d::e::r) 4=some e:=(Cd _ 4 (by simp)).trans rfl
theorem LA {α:Type} (a b c d e f:α) (r:List α):fK (a::b::c::d::e::f::r) 5=some f:=(Cd _ 5 (by simp)).trans rfl
theorem MN {α:Type} (l:List α) (k:Nat) (h0:0<k) (h:k<=l.length):fK l (-(k:Int))=l[l.length-k]?:=by
 unfold fK sQ
 rw [if_neg (by omega),if_pos (by omega)]
 have e2:(-(k:Int)+(l.length:Int)).toNat=l.length-k:=by omega
 simp [e2]
theorem uY (x:W) (r:List W):ic (x::r) (some 1) none=r:=by
 unfold ic
 rw [HT.sIx_none,show (some (1:Int))=some ((1:Nat):Int) from rfl,HT.sIx_nat]
 rw [show min 1 (x::r).length=1 by simp]
 simp
theorem Gm (l:List W) (a b:Nat):ic l (some (a:Int)) (some (b:Int))=(l.drop a).take (b-a):=by
 unfold ic
 rw [HT.sIx_nat,HT.sIx_nat]
 rcases Nat.lt_or_ge l.length a with h | h
 . rw [List.drop_of_length_le (Nat.le_of_lt h),show min a l.length=l.length by omega,List.drop_length]
   simp
 . rw [show min a l.length=a by omega]
   rcases Nat.lt_or_ge l.length b with h2 | h2
   . rw [show min b l.length=l.length by omega,List.take_of_length_le (by simp),List.take_of_length_le (by simp;omega)]
   . rw [show min b l.length=b by omega]
theorem Ir (l:List W) (a:Nat):ic l (some (a:Int)) none=l.drop a:=by
 unfold ic
 rw [HT.sIx_nat,HT.sIx_none]
 rcases Nat.lt_or_ge l.length a with h | h
 . rw [List.drop_of_length_le (Nat.le_of_lt h),show min a l.length=l.length by omega,List.drop_length]
   simp
 . rw [show min a l.length=a by omega,List.take_of_length_le (by simp)]
theorem iO {f:DS->ag->SM W} {δ:DS} {S S1:ag} {d:W} (h:f δ S=some (.ok d,S1)):b5 f δ S=some (.nx δ,S1):=by unfold b5;rw [h];rfl
theorem bM {f:List W->ag->SM W} {fa:DS->ag->SM (List W)} {δ:DS} {S S1 S2:ag} {ds:List W} {d:W} (h1:fa δ S=some (.ok ds,S1)) (h2:f ds S1=some (.ok d,S2)):bY f fa δ S=some (.ok d,S2):=by
 unfold bY
 rw [h1]
 show AB (f ds S1)=_
 rw [h2]
 rfl
theorem zA {c m:Str} {f:List W->ag->SM W} {fo:DS->Option W} {fa:DS->ag->SM (List W)} {δ:DS} {S S1 S2:ag} {I:Nat} {fs:List (Str×W)} {ds:List W} {d:W} (h1:fo δ=some (.ref I)) (h2:S[I]?=some (.ins c fs)) (h3:fs.lookup m=none) (h4:fa δ S=some (.ok ds,S1)) (h5:f (.ref I::ds) S1=some (.ok d,S2)):cH c m f (ab fo) fa δ S=some (.ok d,S2):=by
 unfold cH ab
 rw [h1]
 show (gY c (.ref I) S).bind _=_
 rw [show gY c (.ref I) S=some (I,fs) by simp [gY,eQ,h2]]
 show (if fs.lookup m=none then _ else _)=_
 rw [if_pos h3,h4]
 show AB (f (.ref I::ds) S1)=_
 rw [h5]
 rfl
theorem ai {α:Type} {f:DS->Option α} {δ:DS} {S:ag} {d:α} (h:f δ=some d):ab f δ S=some (.ok d,S):=by unfold ab;rw [h];rfl
theorem aM {f:DS->Option cY} {δ δ':DS} {S:ag} (h:f δ=some (.nx δ')):aq f δ S=some (.nx δ',S):=by unfold aq;rw [h];rfl
theorem dW {f:DS->Option cY} {δ:DS} {S:ag} {d:W} (h:f δ=some (.rt d)):aq f δ S=some (.rt d,S):=by unfold aq;rw [h];rfl
theorem dq {f g:DS->ag->SO} {δ:DS} {S S':ag} {d:W} (h:f δ S=some (.rt d,S')):aC f g δ S=some (.rt d,S'):=by unfold aC;rw [h]
theorem cT {f:DS->ag->SM W} {δ:DS} {S S1:ag} {d:W} (h:f δ S=some (.ok d,S1)):fL f δ S=some (.rt d,S1):=by unfold fL;rw [h];rfl
theorem set_ne' {S:ag} {m k:Nat} {o x:Ob} (h:S[k]?=some o) (hne:m≠k):(S.set m x)[k]?=some o:=by rw [List.getElem?_set_ne hne];exact h
theorem set_eq' {S:ag} {m:Nat} {o x:Ob} (h:S[m]?=some o):(S.set m x)[m]?=some x:=jC (oG h).1
theorem bN {S:ag} {m k:Nat} {o x:Ob} (h:S[m]?=some o) (h2:S[k]?=some x) (hne:o≠x):m≠k:=λ e=>hne (by rw [e,h2] at h;exact (Option.some.inj h).symm)
theorem oU {κ:Type} [DecidableEq κ] (kvs:List (κ×W)) (k:κ) (x:W):(cV kvs k x).length<=kvs.length+1:=by
 unfold cV
 split <;> simp
theorem bO (S:ag) (o:Ob):(S++[o])[S.length]?=some o:=by simp
theorem bq {f:DS->ag->SM W} {g:DS->ag->SM (List W)} {δ:DS} {S S1 S2:ag} {d:W} {ds:List W} (h1:f δ S=some (.ok d,S1)) (h2:g δ S1=some (.ok ds,S2)):bU f g δ S=some (.ok (d::ds),S2):=by
 unfold bU
 rw [h1]
 show ao (g δ S1) _=_
 rw [h2]
 rfl
theorem Ax {c f:Str} {fo:DS->Option W} {fv:DS->ag->SM W} {δ:DS} {S S1:ag} {d:W} {n:Nat} {fs:List (Str×W)} (h1:fv δ S=some (.ok d,S1)) (h2:fo δ=some (.ref n)) (h3:S1[n]?=some (.ins c fs)) (h4:fs.length<1000):vY c f (ab fo) fv δ S=some (.nx δ,S1.set n (.ins c (xq f d fs))):=by
 have h5:gY c (.ref n) S1=some (n,fs):=by simp [gY,eQ,h3]
 simp only [vY,h1,jm,ab,h2,Option.map_some,h5,Option.bind_some,if_pos h4]
theorem yZ {c:Str} {f:List W->ag->SM W} {fa:DS->ag->SM (List W)} {δ:DS} {S S1 S2:ag} {ds:List W} (h1:fa δ S=some (.ok ds,S1)) (h2:f (.ref S1.length::ds) (S1++[.ins c []])=some (.ok .none,S2)):wm c f fa δ S=some (.ok (.ref S1.length),S2):=by
 simp only [wm,h1,ao,h2,AB]
theorem dF {fo:DS->Option W} {fv:DS->ag->SM W} {δ:DS} {S:ag} {l:Nat} {q:List W} {d:W} (h1:fo δ=some (.ref l)) (h2:S[l]?=some (.lst q)) (h3:fv δ S=some (.ok d,S)) (h4:q.length<9000):cJ (ab fo) fv δ S=some (.nx δ,S.set l (.lst (q++[d]))):=by
 have hz:q.length<sizeLine:=Nat.lt_of_lt_of_le h4 (sz 9000 (by decide))
 simp only [cJ,ab,h1,jm,eS h2,Option.isSome_some,if_true,h3,Option.bind_some,if_pos hz,Option.map_some]
theorem zm {f g:DS->ag->SM Bool} {δ:DS} {S S1:ag} (h1:f δ S=some (.ok false,S1)):k9 f g δ S=some (.ok false,S1):=by simp only [k9,h1,ao,Bool.false_eq_true,if_false]
theorem pS {f g:DS->ag->SM Bool} {δ:DS} {S S1 S2:ag} {b:Bool} (h1:f δ S=some (.ok true,S1)) (h2:g δ S1=some (.ok b,S2)):k9 f g δ S=some (.ok b,S2):=by simp only [k9,h1,ao,if_true,h2]
theorem Ia {α:Type} (q:List α) (b:α):fK (q++[b]) (-1)=some b:=by
 have:=MN (q++[b]) 1 (by decide) (by simp)
 simpa using this
theorem DM {S:ag} {l:Nat} {es:List W} (h:S[l]?=some (.lst es)) (i:Int):zC (.ref l) (.int i) S=fK es i:=by simp only [zC,eS h,yf,Option.bind_some]
theorem yO:∀ (bs:List Bool),rB (bs.map .bool)=some bs
 | []=>rfl
 | b::bs=>by
  show ((some b).bind λ b=>(rB (bs.map .bool)).map (b::·))=_
  rw [yO bs]
  rfl
theorem wA {κ:Type} [DecidableEq κ] (kvs:List (κ×W)) (k q:κ) (x:W):bg (cV kvs k x) q=if q=k then some x else bg kvs q:=by
 by_cases h:bg kvs k=none
 . rw [kY x h,dj kvs k q x h]
 . have ha:(kvs.any λ kv=>decide (kv.1=k))=true:=by
    cases e:kvs.any λ kv=>decide (kv.1=k) with
    | true=>rfl
    | false=>
     exact absurd (by
      unfold bg
      rw [List.find?_eq_none.mpr λ z hz=>by simpa using List.any_eq_false.mp e z hz]
      rfl) h
   unfold cV
   rw [if_pos ha]
   clear ha
   induction kvs with
   | nil=>simp [bg] at h
   | cons p r ih=>
    obtain ⟨j,y⟩:=p
    by_cases hj:j=k
    . subst hj
      by_cases hq:q=j
      . subst hq;simp [bg,List.find?_cons]
      . have hq':¬ j=q:=λ z=>hq z.symm
        rw [if_neg hq]
        clear ih h
        simp only [bg,List.map_cons,if_true,List.find?_cons,hq',decide_false]
        induction r with
        | nil=>rfl
        | cons p r ih=>
         obtain ⟨i,z⟩:=p
         by_cases hi:i=j
         . subst hi;simpa [List.find?_cons,hq'] using ih
         . by_cases hiq:i=q
           . subst hiq;simp [List.find?_cons,hi]
           . simpa [List.find?_cons,hi,hiq] using ih
    . have h':¬ bg r k=none:=by simpa [bg,List.find?_cons,hj] using h
      have ih':=ih h'
      by_cases hjq:j=q
      . subst hjq;simp [bg,List.find?_cons,hj]
      . simpa [bg,List.find?_cons,hj,hjq] using ih'
inductive Al (R:W->W->Prop):List W->List W->Prop
 | nil:Al R [] []
 | cons {x y:W} {a b:List W}:R x y->Al R a b->Al R (x::a) (y::b)
theorem yK {n:Nat×Bool} {h:W->DS->Option DS} {fe:DS->ag->SM W} {S:ag} {es:List W} {δ:DS} {R:W->W->Prop} (hl:fU S n=some es) (hh:∀ x y,R x y->∃ δ2,h x δ=some δ2/\fe δ2 S=some (.ok y,S)) {a b:List W} (A:Al R a b):∀ (m i:Nat),es.drop i=a->a.length<m->bT n h (ab gR) fe δ m i S=some (.ok b,S):=by
 induction A with
 | nil=>
  intro m i e hm
  obtain ⟨m,rfl⟩:∃ k,m=k+1:=⟨m-1,by omega⟩
  show (fU S n).bind _=_
  rw [hl]
  show (match es[i]? with | none=>_ | some d=>_)=_
  rw [List.getElem?_eq_none (by simpa using e)]
 | cons r _ ih=>
  rename_i x y a b _
  intro m i e hm
  obtain ⟨m,rfl⟩:∃ k,m=k+1:=⟨m-1,by simp at hm;omega⟩
  have hi:i<es.length:=Nat.lt_of_not_le λ hc=>by rw [List.drop_of_length_le hc] at e;cases e
  rw [List.drop_eq_getElem_cons hi] at e
  obtain ⟨e1,e2⟩:=List.cons.inj e
  obtain ⟨δ2,h1,h2⟩:=hh x y r
  show (fU S n).bind _=_
  rw [hl]
  show (match es[i]? with | none=>_ | some d=>_)=_
  rw [List.getElem?_eq_getElem hi,e1]
  show (h x δ).bind _=_
  rw [h1]
  show ao (fe δ2 S) _=_
  rw [h2]
  show ao (bT n h (ab gR) fe δ m (i+1) S) _=_
  rw [ih m (i+1) e2 (by simp at hm;omega)]
  rfl
noncomputable def yi:Nat->List W->List W
 | _,[]=>[]
 | k,x::r=>.tuple [.int (k:Int),x]::yi (k+1) r
theorem wj:∀ (l:List W) (k i:Nat),(yi k l)[i]?=(l[i]?).map λ x=>.tuple [.int ((k+i:Nat):Int),x]
 | [],k,i=>by simp [yi]
 | x::l,k,0=>by simp [yi]
 | x::l,k,i+1=>by
  simp only [yi,List.getElem?_cons_succ,wj l (k+1) i]
  rw [show k+1+i=k+(i+1) by omega]
theorem B9 (l:List W) (k:Nat):sU k l=yi k l:=by
 apply List.ext_getElem?
 intro i
 rw [wj]
 unfold sU
 rw [List.getElem?_map]
 by_cases h:i<l.length
 . rw [List.getElem?_range h]
   simp [List.getElem?_eq_getElem h]
 . rw [List.getElem?_eq_none (by simpa using h),List.getElem?_eq_none (by omega)]
   rfl
theorem rR (l:List W):k7 l=yi 0 l:=by
 rw [<-B9]
 unfold k7 sU
 simp
noncomputable def uD:=And.intro @bV.eq_1 <| And.intro @C9.eq_1 <| And.intro @C9.eq_2 <| And.intro @C9.eq_3 <| And.intro @bB.eq_1 <| And.intro @aw.eq_1 <| And.intro @az.eq_1 <| And.intro @bP.eq_1 <| And.intro @aT.eq_1 <| And.intro @Gi.eq_1 <| And.intro @aD.eq_1 <| And.intro @fH.eq_1 <| And.intro @iJ.eq_1 <| And.intro @frz.eq_1 <| And.intro @gc.eq_1 <| And.intro @b7.eq_1 <| And.intro @pH.eq_1 <| And.intro @jq.eq_1 <| And.intro @ac.eq_1 <| And.intro @au.eq_1 <| And.intro @dC.eq_1 <| And.intro @av.eq_1 <| And.intro @ay.eq_1 <| And.intro @dB.eq_1 <| And.intro @rq.eq_1 <| And.intro @Le.eq_1 <| And.intro @wC.eq_1 <| And.intro @Hc.eq_1 <| And.intro @C3.eq_1 <| And.intro @ja.eq_1 <| And.intro @lS.eq_1 <| And.intro @aU.eq_1 <| And.intro @aa.eq_1 <| And.intro @af.eq_1 <| And.intro @aG.eq_1 <| And.intro @bm.eq_1 <| And.intro @ba.eq_1 <| And.intro @gg.eq_1 <| And.intro @AE.eq_1 <| And.intro @bz.eq_1 <| And.intro @ae.eq_1 <| And.intro @bI.eq_1 <| And.intro @bI.eq_2 <| And.intro @aA.eq_1 <| And.intro @aA.eq_2 <| And.intro @bL.eq_1 <| And.intro @bL.eq_2 <| And.intro @BM.eq_1 <| And.intro @dD.eq_1 <| And.intro @cQ.eq_1 <| And.intro @vR.eq_1 <| And.intro @CA.eq_1 <| And.intro @gU.eq_1 <| And.intro @lw.eq_1 <| And.intro @bJ.eq_1 <| And.intro @oj.eq_1 <| And.intro @oj.eq_2 <| And.intro @gR.eq_1 <| And.intro @AY.eq_1 <| And.intro @kH.eq_1 <| And.intro @Et <| And.intro @FW <| And.intro @Ec <| And.intro @Es <| And.intro @yR <| And.intro @Fi <| And.intro @iC <| And.intro @yf <| And.intro @iQ <| And.intro @Ez <| And.intro @F7 <| And.intro @FI <| And.intro @Ga <| And.intro @DP <| And.intro @oW <| And.intro @Iy <| And.intro @Jp <| And.intro @Hi <| And.intro @HU <| And.intro @HY <| And.intro @HX <| And.intro @Jr <| And.intro @IV <| And.intro @IF <| And.intro @BF <| And.intro @Ba <| And.intro @B0 <| And.intro @Bv <| And.intro @Bi <| And.intro @Gs <| And.intro @ER <| And.intro @Em <| And.intro @Gd <| And.intro @Fx <| And.intro @Ci <| And.intro @y3 <| And.intro @C2 <| And.intro @Ft <| And.intro @Eh <| And.intro @List.length_cons.{0} <| And.intro @List.length_nil.{0} <| And.intro @List.map_cons.{0,0} <| And.intro @List.map_nil.{0,0} <| And.intro @List.nil_append.{0} <| And.intro @List.cons_append.{0} <| And.intro @List.getElem?_cons_zero.{0} <| And.intro @List.getElem?_cons_succ.{0} <| And.intro @List.set_cons_zero.{0} <| And.intro @List.set_cons_succ.{0} <| And.intro @Option.bind_some.{0,0} <| And.intro @Option.map_some.{0,0} <| And.intro @Option.bind_none.{0,0} <| And.intro @Option.map_none.{0,0} <| And.intro @Option.getD_some.{0} <| And.intro @Option.getD_none.{0} <| And.intro @if_true.{1} <| And.intro @decide_true <| And.intro @decide_false <| And.intro @Bool.not_true <| And.intro @Bool.not_false <| And.intro @Bool.false_eq_true <| And.intro @ne_eq.{1} <| @not_false_eq_true
noncomputable def uS:=And.intro @cB.eq_1 <| And.intro @eA.eq_1 <| And.intro @eA.eq_2 <| And.intro @eA.eq_3 <| And.intro @eA.eq_4 <| And.intro @aC.eq_1 <| And.intro @bX.eq_1 <| And.intro @fL.eq_1 <| And.intro @cG.eq_1 <| And.intro @b5.eq_1 <| And.intro @aq.eq_1 <| And.intro @jm.eq_1 <| And.intro @jm.eq_2 <| And.intro @jm.eq_3 <| And.intro @ao.eq_1 <| And.intro @ao.eq_2 <| And.intro @ao.eq_3 <| And.intro @hZ.eq_1 <| And.intro @ab.eq_1 <| And.intro @nu.eq_1 <| And.intro @cH.eq_1 <| And.intro @bY.eq_1 <| And.intro @Ev.eq_1 <| And.intro @AB.eq_1 <| And.intro @AB.eq_2 <| And.intro @Ab.eq_1 <| And.intro @Ab.eq_2 <| And.intro @Ab.eq_3 <| And.intro @Ab.eq_4 <| And.intro @kU.eq_1 <| And.intro @bU.eq_1 <| And.intro @iB.eq_1 <| And.intro @pA.eq_1 <| And.intro @k9.eq_1 <| And.intro @BP.eq_1 <| And.intro @i6.eq_1 <| And.intro @wP.eq_1 <| And.intro @Ho.eq_1 <| And.intro @sB.eq_1 <| And.intro @tm.eq_1 <| And.intro @D1.eq_1 <| And.intro @xp.eq_1 <| And.intro @L7.eq_1 <| And.intro @dE.eq_1 <| And.intro @CI.eq_1 <| And.intro @qV.eq_1 <| And.intro @sIx.eq_1 <| And.intro @zC.eq_1 <| And.intro @KB.eq_1 <| And.intro @w9.eq_1 <| And.intro @w9.eq_2 <| And.intro @w9.eq_3 <| And.intro @B7.eq_1 <| And.intro @Hl.eq_1 <| And.intro @iw.eq_1 <| And.intro @tJ.eq_1 <| And.intro @nI.eq_1 <| @Option.map_eq_map.{0}
section
variable {X:Cx}
end
section
variable {K:Frag} {cl:Str->Addr} {E:XK}
end
section
variable {prog:Program} {w:World} {A:Around} {E:Value->Shared->Prop} {s:Shared}
noncomputable def A5 (es:Array DictEntry) (h:Int):List Nat:=placesWithHash es.size (λ i=>es[i]?.map (·.hash)) h
theorem zR (es:Array DictEntry) (h:Int):A5 es h=(List.range es.size).filter λ i=>(es[i]?.map (·.hash))==some h:=rfl
theorem me {es:Array DictEntry} {h:Int} {x:Nat}:x∈A5 es h↔∃ e,es[x]?=some e/\e.hash=h:=by
 rw [zR,List.mem_filter,List.mem_range]
 constructor
 . rintro ⟨h1,h2⟩
   rw [Array.getElem?_eq_getElem h1] at h2 ⊢
   exact ⟨_,rfl,by simpa using h2⟩
 . rintro ⟨e,h1,h2⟩
   refine ⟨?_,by simp [h1,h2]⟩
   rcases Nat.lt_or_ge x es.size with g | g
   . exact g
   . rw [Array.getElem?_eq_none g] at h1;cases h1
theorem wO (es:Array DictEntry) (h:Int):(A5 es h).Nodup:=by rw [zR];exact List.Pairwise.filter _ List.nodup_range
theorem qm {α:Type} {M:Model} {c:Prop} [Decidable c] {a b:Sem α} {Q:α->Shared->Prop} (h1:wpAny M A a Q E s) (h2:wpAny M A b Q E s):wpAny M A (if c then a else b) Q E s:=by
 by_cases h:c
 . rw [if_pos h];exact h1
 . rw [if_neg h];exact h2
structure CO (prog:Program) (w:World) (A:Around) (E:Value->Shared->Prop) (s:Shared) (es:Array DictEntry) (key:Value) (h:Int) (m:Nat->Bool):Prop where
 kind:key=.none∨∃ a,key=.ref a
 same:∀ e∈es,e.key=key->e.hash=h
 quiet:∀ v,v=key∨(∃ e∈es,e.key=v)->∀ Q':Bool->Shared->Prop,Q' true s->wpAny (model prog w) A (eqIsQuiet 8 v) Q' E s
 eq:∀ i e,es[i]?=some e->e.hash=h->∀ Q':Bool->Shared->Prop,Q' (m i) s->wpAny (model prog w) A (eqBool e.key key) Q' E s
 hash:∀ i,m i=true->∃ e,es[i]?=some e/\e.hash=h
 one:∀ i j,m i=true->m j=true->i=j
variable {es:Array DictEntry} {ep:Nat} {key:Value} {h:Int} {m:Nat->Bool} {d:Addr} {o:Obj}
theorem CO.plain (L:CO prog w A E s es key h m) (ho:s.heap.get? d=some o) (hd:o.data=.dict es ep) {Q:Option Nat->Shared->Prop} (h0:(∀ i,m i=false)->Q none s) (h1:∀ i,m i=true->Q (some i) s):wpAny (model prog w) A (dictWalkPlain d key h es (A5 es h)) Q E s:=by
 refine wpAny_bind ?_
 refine wpAny_forIn_list _ (λ aI b s'=>s'=s/\b=(none,())/\∃ pre,A5 es h=pre++aI/\∀ i∈pre,m i=false) _ ?_ ?_ _ _ ⟨rfl,rfl,[],rfl,by simp⟩
 . rintro x aI b s' ⟨rfl,rfl,pre,hp,hn⟩
   obtain ⟨e,e1,e2⟩:=me.mp (show x∈A5 es h by rw [hp];simp)
   rw [e1]
   dsimp only
   rw [if_pos (by simp [e2])]
   refine wpAny_bind (wpAny_dictEpoch ho hd (wpAny_bind (L.eq x e e1 e2 _ (wpAny_bind (wpAny_dictEpoch ho hd ?_)))))
   rw [if_neg (by simp)]
   cases hx:m x with
   | true=>rw [if_pos rfl];exact wpAny_bind (wpAny_rule (wpAny_pure (wpAny_pure (h1 x hx))))
   | false=>
    rw [if_neg (by simp)]
    refine wpAny_bind (wpAny_rule (wpAny_pure ⟨rfl,rfl,pre++[x],by rw [hp];simp,λ i hi=>?_⟩))
    rcases List.mem_append.mp hi with hi | hi
    . exact hn i hi
    . rw [List.mem_singleton.mp hi];exact hx
 . rintro b s' ⟨rfl,rfl,pre,hp,hn⟩
   refine wpAny_pure (h0 λ i=>?_)
   cases hi:m i with
   | false=>rfl
   | true=>exact absurd hi (by rw [hn i (by have:=me.mpr (L.hash i hi);rw [hp,List.append_nil] at this;exact this)];simp)
theorem CO.tells (L:CO prog w A E s es key h m) {Q:Bool->Shared->Prop} (hQ:Q false s):wpAny (model prog w) A (tableMayTell key ((A5 es h).filterMap λ i=>es[i]?.map (·.key))) Q E s:=by
 unfold tableMayTell
 split
 . exact wpAny_pure hQ
 . refine wpAny_bind (L.quiet key (.inl rfl) _ ?_)
   simp only [Bool.not_true,Bool.false_eq_true,if_false]
   refine wpAny_bind (wpAny_forIn_list _ (λ aI r s'=>s'=s/\r=(none,())/\∀ v∈aI,∃ e∈es,e.key=v) _ ?_ ?_ _ _ ⟨rfl,rfl,λ v hv=>?_⟩)
   . rintro x aI r s' ⟨rfl,rfl,hr⟩
     refine wpAny_bind (L.quiet x (.inr (hr x (by simp))) _ ?_)
     simp only [Bool.not_true,Bool.false_eq_true,if_false]
     exact wpAny_pure ⟨rfl,rfl,λ v hv=>hr v (by simp [hv])⟩
   . rintro r s' ⟨rfl,rfl,_⟩
     exact wpAny_pure hQ
   . obtain ⟨i,_,hi⟩:=List.mem_filterMap.mp hv
     obtain ⟨e,e1,e2⟩:=oM hi
     exact ⟨e,Array.mem_of_getElem? e1,e2⟩
theorem CO.find (L:CO prog w A E s es key h m) (ho:s.heap.get? d=some o) (hd:o.data=.dict es ep) {Q:Option Nat->Shared->Prop} (h0:(∀ i,m i=false)->Q none s) (h1:∀ i,m i=true->Q (some i) s):wpAny (model prog w) A (dictFind d key h) Q E s:=by
 have hany:¬ (es.any λ e=>e.key==key&&e.hash != h)=true:=by
  rw [<-Array.any_toList,List.any_eq_true]
  rintro ⟨e,hin,hc⟩
  simp only [Bool.and_eq_true,beq_iff_eq,bne_iff_ne,ne_eq] at hc
  exact hc.2 (L.same e (Array.mem_toList_iff.mp hin) hc.1)
 have walk:∀ {sv:List Value},wpAny (model prog w) A (do
  let mut g:Option Nat:=none
  for i in A5 es h do
   if let some q:=es[i]? then
    if q.hash==h then
     let b4 <-dictEpoch d (keyPart key);let sm <-eqBool q.key key
     if (<-dictEpoch d (keyPart key)) != b4 then unsupported "dict.changed-during-lookup"
     if sm then
      if g.isSome then unsupported "dict.find:order-among-keys-of-one-hash"
      rule "dict.find.hit"; if sv.length<2 then return some i
      g:=some i
     else
      rule "dict.find.same-hash-other-key"; if false && !(0<=h&&h<32) then unsupported "dict.find:asked-again-or-not-hangs-on-the-table"
  return g) Q E s:=by
  intro stored
  refine wpAny_bind ?_
  refine wpAny_forIn_list _ (λ aI b s'=>s'=s/\∃ hit,b=(none,hit)/\∃ pre,A5 es h=pre++aI/\((hit=none/\∀ i∈pre,m i=false)∨∃ i∈pre,hit=some i/\m i=true)) _ ?_ ?_ _ _ ⟨rfl,none,rfl,[],rfl,.inl ⟨rfl,by simp⟩⟩
  . rintro x aI b s' ⟨rfl,hit,rfl,pre,hp,hH⟩
    obtain ⟨e,e1,e2⟩:=me.mp (show x∈A5 es h by rw [hp];simp)
    rw [e1]
    dsimp only
    rw [if_pos (by simp [e2])]
    refine wpAny_bind (wpAny_dictEpoch ho hd (wpAny_bind (L.eq x e e1 e2 _ (wpAny_bind (wpAny_dictEpoch ho hd ?_)))))
    rw [if_neg (by simp)]
    have nd:=wO es h
    rw [hp] at nd
    have hx0:x∉pre:=λ hx=>(List.nodup_append.mp nd).2.2 x hx x (by simp) rfl
    cases hx:m x with
    | true=>
     rw [if_pos rfl]
     rcases hH with ⟨rfl,hn⟩ | ⟨i,hi,rfl,hm⟩
     . rw [if_neg (by simp)]
       refine wpAny_bind (wpAny_rule ?_)
       split
       . exact wpAny_pure (wpAny_pure (h1 x hx))
       . exact wpAny_pure ⟨rfl,some x,rfl,pre++[x],by rw [hp];simp,.inr ⟨x,by simp,rfl,hx⟩⟩
     . exact absurd (L.one i x hm hx▸hi) hx0
    | false=>
     rw [if_neg (by simp)]
     refine wpAny_bind (wpAny_rule ?_)
     rw [if_neg (by simp)]
     refine wpAny_pure ⟨rfl,hit,rfl,pre++[x],by rw [hp];simp,?_⟩
     rcases hH with ⟨rfl,hn⟩ | ⟨i,hi,rfl,hm⟩
     . refine .inl ⟨rfl,λ i hi=>?_⟩
       rcases List.mem_append.mp hi with hi | hi
       . exact hn i hi
       . rw [List.mem_singleton.mp hi];exact hx
     . exact .inr ⟨i,by simp [hi],rfl,hm⟩
  . rintro b s' ⟨rfl,hit,rfl,pre,hp,hH⟩
    rw [List.append_nil] at hp
    rcases hH with ⟨rfl,hn⟩ | ⟨i,hi,rfl,hm⟩
    . refine wpAny_pure (h0 λ i=>?_)
      cases hi:m i with
      | false=>rfl
      | true=>exact absurd hi (by rw [hn i (by have:=me.mpr (L.hash i hi);rw [hp] at this;exact this)];simp)
    . exact wpAny_pure (h1 i hm)
 have pl:=L.plain ho hd h0 h1
 have tl:=@CO.tells prog w A E s es key h m L
 rcases L.kind with rfl | ⟨a,rfl⟩
 . unfold dictFind
   try with_reducible refine wpAny_holding ?_
   refine wpAny_bind (wpAny_dictEntries ho hd ?_)
   refine qm pl (qm (wpAny_bind (wpAny_pure ?_)) (wpAny_bind (tl ?_)))
   . dsimp only
     rw [if_neg (by simp)]
     exact walk
   . dsimp only
     rw [if_neg (by simp)]
     exact walk
 . unfold dictFind
   try with_reducible refine wpAny_holding ?_
   refine wpAny_bind (wpAny_dictEntries ho hd ?_)
   refine qm pl ?_
   dsimp only
   rw [if_neg hany]
   refine qm (wpAny_bind (wpAny_pure ?_)) (wpAny_bind (tl ?_))
   . rw [if_neg (by simp)]
     exact walk
   . rw [if_neg (by simp)]
     exact walk
end
section
variable {P:Program} {w:World} {A:Around} {E:Value->Shared->Prop} {s:Shared}
theorem wF {Q:Int->Shared->Prop} (h:Q 4238894112 { s with toks:=s.toks+1 }):wpAny (model P w) A (pyHash .none) Q E s:=by
 have hT:s.TypeIs .none "NoneType" := rfl
 have hv:[Value.none].any Value.onHeap=false:=rfl
 unfold pyHash
 refine wpAny_bind ?_
 rw [cRoomFor,if_neg (by rw [hv];exact Bool.false_ne_true)];refine wpAny_pure ?_
 refine wpAny_bind (wpAny_specialOf hT F.slot_NoneType_hash.lookup ?_)
 rw [if_neg (by rw [beq_builtin_none];exact Bool.false_ne_true)]
 refine wpAny_bind (wpAny_specialOf hT F.slot_NoneType_hash.lookup ?_)
 rw [if_neg (by simp)]
 refine wpAny_bind (wpAny_callSpecialIfBoundUnlessNone?_slot hT F.slot_NoneType_hash (wpAny_call_entry F.slot_NoneType_hash hT F.entry_NoneType_hash (show wpAny _ _ (do ret (<-mkInt 4238894112)) _ _ s from wpAny_ret_mkInt ?_) (F.args_NoneType_hash_1 _)))
 show wpAny _ _ (if (decide (-(2:Int)^63<=4238894112)&&decide ((4238894112:Int)<2^63))=true then _ else _) Q E _
 rw [if_pos (by decide)]
 exact wpAny_pure h
noncomputable def nR (P:Program) (w:World) (h:Heap) (ks:List aF) (v:Value):Prop:=(ks=[]/\v=.none)∨(ks≠[]/\∃ b,v=.ref b/\(tupleKind (b0 P w)).is h ks b)
noncomputable def nD (ks:List aF):Nat:=ks.length+1
theorem nR.hash {ks:List aF} {v:Value} {Q:Int->Shared->Prop} (hu:A.units<cLine) (r:nR P w s.heap ks v) (h:Q (nH P w ks) { s with toks:=s.toks+nD ks }):wpAny (model P w) A (pyHash v) Q E s:=by
 rcases r with ⟨rfl,rfl⟩ | ⟨n,b,rfl,hb⟩
 . exact wF h
 . refine (tupleKind (b0 P w)).pyHash hu hb ?_
   rw [nH,if_neg n] at h
   exact h
theorem nR.inj {h:Heap} {x y:List aF} {v:Value} (a:nR P w h x v) (b:nR P w h y v):x=y:=by
 rcases a with ⟨rfl,rfl⟩ | ⟨n,c,rfl,hc⟩ <;> rcases b with ⟨rfl,e⟩ | ⟨n',c',e,hc'⟩
 . rfl
 . cases e
 . cases e
 . cases e;exact (tupleKind (b0 P w)).inj hc hc'
theorem nR.eq {x y:List aF} {u v:Value} {Q:Bool->Shared->Prop} (hu:A.units<cLine) (a:nR P w s.heap x u) (b:nR P w s.heap y v) (h:Q (decide (x=y)) s):wpAny (model P w) A (eqBool u v) Q E s:=by
 rcases a with ⟨rfl,rfl⟩ | ⟨n,c,rfl,hc⟩ <;> rcases b with ⟨rfl,rfl⟩ | ⟨n',c',rfl,hc'⟩
 . unfold eqBool
   try with_reducible refine wpAny_holding ?_
   rw [if_pos (by rfl)]
   exact wpAny_bind (wpAny_rule (wpAny_pure (by simpa using h)))
 . obtain ⟨o,its,k,h1,h2,h3,_⟩:=hc'
   exact SeqAt.EqAt.none_tuple (items:=its) ⟨o,h1,h2,k,h3⟩ hu P w E Q (by rw [decide_eq_false (λ z=>n' z.symm)] at h;exact h)
 . obtain ⟨o,its,k,h1,h2,h3,_⟩:=hc
   exact SeqAt.EqAt.tuple_none (items:=its) ⟨o,h1,h2,k,h3⟩ hu P w E Q (by rw [decide_eq_false n] at h;exact h)
 . exact (tupleKind (b0 P w)).eqBool hu hc hc' h
theorem nR.quiet {x:List aF} {u:Value} {Q:Bool->Shared->Prop} (a:nR P w s.heap x u) (h:Q true s):wpAny (model P w) A (eqIsQuiet 8 u) Q E s:=by
 rcases a with ⟨rfl,rfl⟩ | ⟨n,c,rfl,hc⟩
 . exact wpAny_pure h
 . exact (tupleKind (b0 P w)).quiet hc h
noncomputable def Dn (P:Program) (w:World) (h:Heap) (d:Addr) (xs:List (List aF×Value×Value)):Prop:=
 ∃ o es ep,h.get? d=some o/\o.ExactDict/\o.data=.dict es ep/\es.toList=xs.map (nE P w)/\(∀ x∈xs,nR P w h x.1 x.2.1)/\(xs.map (·.1)).Nodup
noncomputable def pP (xs:List (List aF×Value×Value)) (k:List aF):Option (Value×Value):=(xs.find? λ x=>decide (x.1=k)).map (·.2)
noncomputable def nM (xs:List (List aF×Value×Value)) (k:List aF) (i:Nat):Bool:=(xs[i]?.map λ x=>decide (x.1=k)).getD false
theorem kz {xs:List (List aF×Value×Value)} {k:List aF} {i:Nat} (h:nM xs k i=true):∃ p,xs[i]?=some (k,p):=by
 unfold nM at h
 cases e:xs[i]? with
 | none=>rw [e] at h;cases h
 | some x=>
  rw [e] at h
  simp at h
  subst h
  exact ⟨x.2,rfl⟩
theorem Du {xs:List (List aF×Value×Value)} {k:List aF} (hn:(xs.map (·.1)).Nodup) {i:Nat} {p:Value×Value} (h:xs[i]?=some (k,p)):pP xs k=some p:=by
 unfold pP
 cases e:xs.find? λ x=>decide (x.1=k) with
 | none=>exact absurd (List.find?_eq_none.mp e (k,p) (List.mem_of_getElem? h)) (by simp)
 | some y=>
  have y1:y.1=k:=by simpa using List.find?_some e
  obtain ⟨j,hj⟩:=List.getElem?_of_mem (List.mem_of_find?_eq_some e)
  have l1:(xs.map (·.1))[i]?=some k:=by simp [h]
  have l2:(xs.map (·.1))[j]?=some k:=by simp [hj,y1]
  have ij:i=j:=(List.getElem?_inj (by have:=(oG l1).1;exact this) hn).mp (l1.trans l2.symm)
  subst ij
  rw [h] at hj
  cases hj
  rfl
theorem vb {xs:List (List aF×Value×Value)} {k:List aF} (h:∀ i,nM xs k i=false):pP xs k=none:=by
 unfold pP
 rw [List.find?_eq_none.mpr]
 . rfl
 . intro x hx
   obtain ⟨i,hi⟩:=List.getElem?_of_mem hx
   have:=h i
   simp [nM,hi] at this
   simpa using this
theorem Dn.fnd {h:Heap} {xs:List (List aF×Value×Value)} {es:Array DictEntry} {k:List aF} {key:Value} (hu:A.units<cLine) (hh:s.heap=h) (hk:nR P w h k key) (he:es.toList=xs.map (nE P w)) (his:∀ x∈xs,nR P w h x.1 x.2.1) (hn:(xs.map (·.1)).Nodup):CO P w A E s es key (nH P w k) (nM xs k):=by
 subst hh
 have at':∀ i:Nat,es[i]?=(xs[i]?).map (nE P w):=λ i=>by rw [<-Array.getElem?_toList,he,List.getElem?_map]
 have mem:∀ e∈es,∃ x∈xs,e=nE P w x:=λ e hin=>by
  have:e∈xs.map (nE P w):=he▸Array.mem_toList_iff.mpr hin
  obtain ⟨x,hx,rfl⟩:=List.mem_map.mp this
  exact ⟨x,hx,rfl⟩
 refine ⟨?_,λ e hin e1=>?_,λ v hv Q' hq=>?_,λ i e e1 e2 Q' hq=>?_,λ i hi=>?_,λ i j hi hj=>?_⟩
 . rcases hk with ⟨_,rfl⟩ | ⟨_,b,rfl,_⟩
   . exact .inl rfl
   . exact .inr ⟨b,rfl⟩
 . obtain ⟨x,hx,rfl⟩:=mem e hin
   have e1:x.2.1=key:=e1
   have:=his x hx
   rw [e1] at this
   show nH P w x.1=nH P w k
   rw [this.inj hk]
 . rcases hv with rfl | ⟨e,hin,rfl⟩
   . exact hk.quiet hq
   . obtain ⟨x,hx,rfl⟩:=mem e hin
     exact (his x hx).quiet hq
 . rw [at' i] at e1
   obtain ⟨x,hx,rfl⟩:=oM e1
   refine (his x (List.mem_of_getElem? hx)).eq hu hk ?_
   simpa [nM,hx] using hq
 . obtain ⟨p,hp⟩:=kz hi
   exact ⟨_,by rw [at' i,hp];rfl,rfl⟩
 . obtain ⟨p,hp⟩:=kz hi
   obtain ⟨q,hq⟩:=kz hj
   have l1:(xs.map (·.1))[i]?=some k:=by simp [hp]
   have l2:(xs.map (·.1))[j]?=some k:=by simp [hq]
   exact (List.getElem?_inj (oG l1).1 hn).mp (l1.trans l2.symm)
theorem Dn.get {d:Addr} {xs:List (List aF×Value×Value)} {k:List aF} {key:Value} {Q:Option Value->Shared->Prop} (hu:A.units<cLine) (hk:nR P w s.heap k key) (D:Dn P w s.heap d xs) (h:Q ((pP xs k).map (·.2)) { s with toks:=s.toks+nD k }):wpAny (model P w) A (dictGet d key) Q E s:=by
 obtain ⟨o,es,ep,ho,_,hd,he,his,hn⟩:=D
 unfold dictGet
 try with_reducible refine wpAny_holding ?_
 refine wpAny_bind (hk.hash hu (wpAny_bind ((Dn.fnd (s:={ s with toks:=s.toks+nD k }) hu rfl hk he his hn).find ho hd (λ h0=>?_) λ i hi=>?_)))
 . rw [vb h0] at h
   exact wpAny_pure h
 . obtain ⟨p,hp⟩:=kz hi
   rw [Du hn hp] at h
   refine wpAny_bind (wpAny_dictEntries (s:={ s with toks:=s.toks+nD k }) ho hd ?_)
   rw [show es[i]?=some (nE P w (k,p)) by rw [<-Array.getElem?_toList,he,List.getElem?_map,hp];rfl]
   exact wpAny_pure h
theorem nR.keeps {h h':Heap} {x:List aF} {v:Value} {d:Addr} {o:Obj} {es:Array DictEntry} {ep:Nat} (a:nR P w h x v) (ho:h.get? d=some o) (hd:o.data=.dict es ep) (hs:Heap.SameBut d h h'):nR P w h' x v:=by
 rcases a with ⟨rfl,rfl⟩ | ⟨n,c,rfl,hc⟩
 . exact .inl ⟨rfl,rfl⟩
 . exact .inr ⟨n,c,rfl,(tupleKind (b0 P w)).keeps hc ho hd hs⟩
theorem Dn.push {d:Addr} {o:Obj} {es:Array DictEntry} {ep:Nat} {xs:List (List aF×Value×Value)} {k:List aF} {key v:Value} (hk:nR P w s.heap k key) (ho:s.heap.get? d=some o) (hc:o.ExactDict) (hd:o.data=.dict es ep) (he:es.toList=xs.map (nE P w)) (his:∀ x∈xs,nR P w s.heap x.1 x.2.1) (hn:(xs.map (·.1)).Nodup) (hno:pP xs k=none):
 Dn P w (s.heap.update d (Obj.mapDictKeys (·.push ⟨nH P w k,key,v⟩))) d (xs++[(k,key,v)]):=by
 refine ⟨_,_,ep+1,Heap.get?_update_self _ ho (Obj.isFreed_of_dict (Obj.data_mapDictKeys hd _)),hc.mapDictKeys _,Obj.data_mapDictKeys hd _,?_,?_,?_⟩
 . simp [he,nE]
 . intro x hx
   rcases List.mem_append.mp hx with hx | hx
   . exact (his x hx).keeps ho hd (Heap.SameBut.update ..)
   . rw [List.mem_singleton.mp hx]
     exact hk.keeps ho hd (Heap.SameBut.update ..)
 . rw [List.map_append,List.nodup_append]
   refine ⟨hn,by simp,λ a ha b hb hab=>?_⟩
   simp at hb
   subst hab
   obtain ⟨x,hx,e⟩:=List.mem_map.mp ha
   unfold pP at hno
   cases f:xs.find? λ x=>decide (x.1=k) with
   | none=>exact absurd (List.find?_eq_none.mp f x hx) (by simp [e,hb])
   | some y=>rw [f] at hno;cases hno
theorem Dn.setdefault {d:Addr} {xs:List (List aF×Value×Value)} {k:List aF} {key dv:Value} {Q:Value->Shared->Prop} (hu:A.units<cLine) (hk:nR P w s.heap k key) (D:Dn P w s.heap d xs) (hz:xs.length<sizeLine)
 (h0:pP xs k=none->∀ h',Dn P w h' d (xs++[(k,key,dv)])->Heap.SameBut d s.heap h'->Q dv { s with heap:=h',toks:=s.toks+nD k }) (h1:∀ p,pP xs k=some p->Q p.2 { s with toks:=s.toks+nD k }):wpAny (model P w) A (dictSetDefault d key dv) Q E s:=by
 obtain ⟨o,es,ep,ho,hc,hd,he,his,hn⟩:=D
 have hsz:es.size=xs.length:=by rw [<-Array.length_toList,he,List.length_map]
 unfold dictSetDefault
 try with_reducible refine wpAny_holding ?_
 refine wpAny_bind (hk.hash hu (wpAny_bind ((Dn.fnd (s:={ s with toks:=s.toks+nD k }) hu rfl hk he his hn).find ho hd (λ hno=>?_) λ i hi=>?_)))
 . have hno:=vb hno
   refine wpAny_bind (wpAny_rule (wpAny_bind (wpAny_updateDictKeys (hz:=by omega) (s:={ s with toks:=s.toks+nD k }) ho hd (wpAny_pure (h0 hno _ (Dn.push hk ho hc hd he his hn hno) (Heap.SameBut.update ..))))))
 . obtain ⟨p,hp⟩:=kz hi
   refine wpAny_bind (wpAny_dictEntries (s:={ s with toks:=s.toks+nD k }) ho hd ?_)
   rw [show es[i]?=some (nE P w (k,p)) by rw [<-Array.getElem?_toList,he,List.getElem?_map,hp];rfl]
   exact wpAny_bind (wpAny_rule (wpAny_pure (h1 p (Du hn hp))))
theorem sZ {d:Addr} {key:Value} (hd:(d==sysModules)=false) (r:Value):
 MeetsIn P w (Builtin.«dict.get» ⟨[.ref d,key,r],[]⟩) (λ A R s=>A.in1.units<cLine/\∃ k xs,nR P w s.heap k key/\Dn P w s.heap d xs/\R (.ok (.ret (((pP xs k).map (·.2)).getD r))) { s with toks:=s.toks+nD k }):=
 .of_wp λ A R s ⟨hu,k,xs,hk,hm,h⟩=>by
  show wpAny _ _ (dictGet d key >>= _) _ _ s
  refine wpAny_bind (Dn.get hu hk hm ?_)
  cases hf:(pP xs k).map (·.2) with
  | some v=>rw [hf] at h;exact wpAny_pure ⟨v,rfl,h⟩
  | none=>
   rw [hf] at h
   show wpAny _ _ (Builtin.Dict.missed d key >>= _) _ _ _
   exact wpAny_bind (wpAny_missed_other hd (wpAny_pure ⟨r,rfl,h⟩))
theorem Dn.typeIs {d:Addr} {xs:List (List aF×Value×Value)} (D:Dn P w s.heap d xs):s.TypeIs (.ref d) "dict" := let ⟨o,_,_,ho,hc,_⟩:=D;⟨o,ho,hc.1⟩
theorem sY {d:Addr} {key:Value} (hd:(d==sysModules)=false) (r:Value):
 MeetsIn P w (Builtin.«dict.setdefault» ⟨[.ref d,key,r],[]⟩) (λ A R s=>A.in1.units<cLine/\∃ k xs,nR P w s.heap k key/\Dn P w s.heap d xs/\xs.length<sizeLine/\
  (∀ p,pP xs k=some p->R (.ok (.ret p.2)) { s with toks:=s.toks+nD k })/\
  (pP xs k=none->∀ h',Dn P w h' d (xs++[(k,key,r)])->Heap.SameBut d s.heap h'->R (.ok (.ret r)) { s with heap:=h',toks:=s.toks+nD k })):=
 .of_wp λ A R s ⟨hu,k,xs,hk,hm,hz,h1,h0⟩=>by
  unfold Builtin.«dict.setdefault»
  refine wpAny_bind ?_
  unfold Builtin.Dict.keyAndDefault
  refine wpAny_bind (wpAny_notOrdered_dict hm.typeIs ?_)
  show wpAny _ _ (pure (d,key,some r)) _ _ s
  refine wpAny_pure ?_
  show wpAny _ _ (if (d==sysModules)=true then _ else (dictSetDefault d key r >>= _)) _ _ s
  rw [if_neg (by rw [hd];exact Bool.false_ne_true)]
  exact wpAny_bind (Dn.setdefault hu hk hm hz (λ hn h' hm' hs=>wpAny_pure ⟨r,rfl,h0 hn h' hm' hs⟩) λ p hp=>wpAny_pure ⟨p.2,rfl,h1 p hp⟩)
end
section
noncomputable abbrev KN (H:Hp):List (List aF×V)->List (List aF×Value×Value)->Prop:=Paired λ p q=>p.1=q.1/\nV H p.1 q.2.1/\bf p.2 q.2.2
theorem KN.val {H:Hp} {kvs:List (List aF×V)} {xs:List (List aF×Value×Value)} (r:KN H kvs xs) (k:List aF):gK (eE kvs k) ((pP xs k).map (·.2)):=by
 induction r with
 | nil=>exact True.intro
 | @cons p q ps qs h t ih=>
  obtain ⟨h1,_,h2⟩:=h
  by_cases e:p.1=k
  . have e':q.1=k:=h1.symm.trans e
    rw [iy e,show pP (q::qs) k=some q.2 by simp [pP,List.find?_cons,e']]
    exact h2
  . have e':¬ q.1=k:=λ z=>e (h1.trans z)
    rw [gp e,show pP (q::qs) k=pP qs k by simp [pP,List.find?_cons,e']]
    exact ih
variable {P:Program} {w:World} {H:Hp} {h:Heap} {a:Addr}
theorem yD {ks:List aF} {v:Value} (ok:jp P w H h) (n:nV H ks v):nR P w h ks v:=n.imp id λ hy0=>by obtain ⟨n,b,e,q⟩:=hy0;exact ⟨n,b,e,kX ok q⟩
theorem Ah {kvs:List (List aF×V)} (ok:jp P w H h) (e:H a=some (.dN kvs)):kvs.length<=sizeLine/\(a==sysModules)=false/\∃ xs,KN H kvs xs/\Dn P w h a xs:=by
 obtain ⟨z,y,xs,r,o,es,ep,h1,h2,h3,h4,h5⟩:=(show cR P w H h a (.dN kvs) from ok a _ e)
 refine ⟨z,y,xs,r,o,es,ep,h1,h2,h3,h4,?_,h5⟩
 clear h4 h5 e z
 induction r with
 | nil=>intro x hx;cases hx
 | @cons p q ps qs hq t ih=>
  intro x hx
  rcases List.mem_cons.mp hx with rfl | hx
  . exact yD ok (by rw [<-hq.1];exact hq.2.1)
  . exact ih x hx
noncomputable def kN (H:Hp) (y:V) (ks:List aF):Prop:=(ks=[]/\y=.non)∨(ks≠[]/\∃ b,y=.ref b/\H b=some (.tup (ks.map kV)))
theorem kN.nv {y:V} {ks:List aF} {u:Value} (k:kN H y ks) (r:bf y u):nV H ks u:=by
 rcases k with ⟨rfl,rfl⟩ | ⟨n,b,rfl,q⟩
 . exact .inl ⟨rfl,by cases r;rfl⟩
 . exact .inr ⟨n,b,r,q⟩
end
section
variable {X:Cx} {pins:List (Addr×Obj)} {σ:St} {H:Hp} {s:Shared} {a:Addr} {kvs:List (List aF×V)} {ks:List aF} {y z:V} {u dv:Value} {A:Around} {E:Value->Shared->Prop}
theorem EN {Q:Value->Shared->Prop} (hu:A.units+1<cLine) (I:aL X pins σ H s) (e:H a=some (.dN kvs)) (k:kN H y ks) (ry:bf y u) (rz:bf z dv) (h:∀ w' s',aL X pins σ H s'->bf ((eE kvs ks).getD z) w'->Q w' s'):
 wpAny (model X.prog X.w) A (call (.builtin "dict.get") [.ref a,u,dv]) Q E s:=by
 obtain ⟨zz,hd,xs,rel,dd⟩:=Ah I.hok e
 exact call_meetsIn PySem.F.slot_dict_get dd.typeIs PySem.F.entry_dict_get (PySem.F.args_dict_get_3 _ _ _) (sZ hd dv) ⟨tupleKind_room_in1 (knd:=b0 X.prog X.w) hu,ks,xs,yD I.hok (k.nv ry),dd,h _ _ (I.tok _) ((rel.val ks).getD rz)⟩
theorem FD {Q:Value->Shared->Prop} (hu:A.units+1<cLine) (I:aL X pins σ H s) (e:H a=some (.dN kvs)) (k:kN H y ks) (ry:bf y u) (rz:bf z dv) (hl:kvs.length<sizeLine)
 (h1:∀ v w' s',eE kvs ks=some v->aL X pins σ H s'->bf v w'->Q w' s') (h2:eE kvs ks=none->∀ s',aL X pins σ (cp H a (.dN (fX kvs ks z))) s'->Q dv s'):
 wpAny (model X.prog X.w) A (call (.builtin "dict.setdefault") [.ref a,u,dv]) Q E s:=by
 obtain ⟨zz,hd,xs,rel,dd⟩:=Ah I.hok e
 have hn:=k.nv ry
 refine call_meetsIn PySem.F.slot_dict_setdefault dd.typeIs PySem.F.entry_dict_setdefault (PySem.F.args_dict_setdefault_3 _ _ _) (sY hd dv)
  ⟨tupleKind_room_in1 (knd:=b0 X.prog X.w) hu,ks,xs,yD I.hok hn,dd,by rw [<-Paired.length rel];exact hl,λ p hp=>?_,λ hno h' dd' hs=>?_⟩
 . have r:=rel.val ks
   rw [hp] at r
   cases q:eE kvs ks with
   | none=>rw [q] at r;exact r.elim
   | some v=>rw [q] at r;exact h1 v _ _ q (I.tok _) r
 . have r:=rel.val ks
   rw [hno] at r
   cases q:eE kvs ks with
   | some v=>rw [q] at r;exact r.elim
   | none=>
    have he:∃ q,h'.get? a=some q:=let ⟨q,_,_,hq,_⟩:=dd';⟨q,hq⟩
    obtain ⟨o',es',ep',g1,g2,g3,g4,_,g5⟩:=dd'
    refine h2 q _ (qk I (by rw [e];exact True.intro) hs he ?_)
    rw [zb z q]
    refine ⟨by simp;omega,hd,xs++[(ks,u,dv)],?_,o',es',ep',g1,g2,g3,g4,g5⟩
    have keep:∀ b ys,H b=some (.tup ys)->cp H a (.dN (kvs++[(ks,z)])) b=some (.tup ys):=λ b ys hb=>by rw [aJ (Dv hb e (by simp))];exact hb
    have mv:∀ {k v},nV H k v->nV (cp H a (.dN (kvs++[(ks,z)]))) k v:=λ n=>n.imp id λ hy0=>by obtain ⟨n,b,e1,e2⟩:=hy0;exact ⟨n,b,e1,keep _ _ e2⟩
    exact Paired.snoc (Paired.mapP rel λ p q z=>⟨z.1,mv z.2.1,z.2.2⟩) ⟨rfl,mv hn,rz⟩
end
theorem yU {P:Program} {w:World} {H:Hp} (h:Heap) (hb:sysModules<h.objs.size):cR P w H (h.push { cls:=.type "dict", data:=.dict #[] }) h.objs.size (.dN []):=
 ⟨Nat.zero_le _,beq_eq_false_iff_ne.mpr (Ne.symm (Nat.ne_of_lt hb)),[],.nil,_,#[],0,Heap.get?_push_size _ rfl,⟨rfl,rfl,rfl⟩,rfl,rfl,List.nodup_nil⟩
noncomputable def zO:TE:=λ _ H Q=>∀ p,H p=none->Q (.ref p) (cp H p (.dN []))
noncomputable def zh (td ty tx:TE):TE:=λ σ H Q=>td σ H λ x H1=>∃ a,x=.ref a/\(∃ kvs,H1 a=some (.dN kvs))/\ty σ H1 λ y H2=>tx σ H2 λ z H3=>∃ kvs ks,H3 a=some (.dN kvs)/\kN H3 y ks/\Q ((eE kvs ks).getD z) H3
noncomputable def zY (td ty tx:TE):TE:=λ σ H Q=>td σ H λ x H1=>∃ a,x=.ref a/\(∃ kvs,H1 a=some (.dN kvs))/\ty σ H1 λ y H2=>tx σ H2 λ z H3=>∃ kvs ks,H3 a=some (.dN kvs)/\kN H3 y ks/\kvs.length<sizeLine/\
 (∀ v,eE kvs ks=some v->Q v H3)/\(eE kvs ks=none->Q z (cp H3 a (.dN (fX kvs ks z))))
theorem zo {X:Cx} {pins:List (Addr×Obj)} {σ:St} {H:Hp} {s:Shared} {a:Addr} (I:aL X pins σ H s) (d:∃ kvs,H a=some (.dN kvs)):
 s.TypeIs (.ref a) "dict" /\ (∀ b,Value.ref a=.ref b->∃ ob,s.heap.get? b=some ob/\ob.dict=none):=by
 obtain ⟨kvs,e⟩:=d
 obtain ⟨_,hd,xs,_,dd⟩:=Ah I.hok e
 refine ⟨dd.typeIs,λ b q=>?_⟩
 cases q
 obtain ⟨ob,_,_,h1,h2,_⟩:=dd
 exact ⟨ob,h1,h2.2.1⟩
section
variable {X:Cx} {o e f:Expr} {td ty tx:TE} {apos cpos pos:Pos}
theorem GU:PE X (.Dict [] [] pos) zO:=λ pins s σ H Q I h=>
 wpAny_Dict_empty ⟨.ref s.heap.objs.size,_,I.laid (a:=s.heap.objs.size) (o:=.dN []) (t':=s.toks) (λ _ _ q=>Heap.get?_push_of_some _ q) (Nat.le_refl _) (yU s.heap I.big),rfl,h _ (I.hok.fresh (Nat.le_refl _))⟩
theorem IN (hu:X.A.units+1<cLine) (ho:PE X o td) (he:PE X e ty) (hf:PE X f tx) (m:M2 X o "get" apos e f cpos):PE X (.Call (.Attribute o "get" apos) [e,f] [] cpos) (zh td ty tx):=by
 intro pins s σ H Q I h
 refine wpAny_Call_method m.base m.few m.line PySem.F.plainAttrs_dict PySem.F.slot_dict_get PySem.F.type_dict_get (cm (ho pins s σ H _ I h) λ u s1 hq=>?_)
 obtain ⟨x,H1,I1,rx,a,rfl,d,q1⟩:=hq
 obtain rfl:u=Value.ref a:=rx
 obtain ⟨t1,t2⟩:=zo I1 d
 refine ⟨t1,t2,?_⟩
 rw [m.trees]
 refine Calls.callWith_builtin rfl (Calls.evalArgs_plain (Calls.spliced_cons (cm (he pins s1 σ H1 _ I1 q1) λ iv s2 hq=>?_)))
 obtain ⟨y,H2,I2,ry,q2⟩:=hq
 refine Calls.spliced_cons (cm (hf pins s2 σ H2 _ I2 q2) λ fv s3 hq=>Calls.spliced_nil ?_)
 obtain ⟨z,H3,I3,rz,kvs,ks,ea,kn,q3⟩:=hq
 exact EN hu I3 ea kn ry rz λ w' s4 I4 rw'=>⟨_,H3,I4,rw',q3⟩
theorem GT (hu:X.A.units+1<cLine) (ho:PE X o td) (he:PE X e ty) (hf:PE X f tx) (m:M2 X o "setdefault" apos e f cpos):PE X (.Call (.Attribute o "setdefault" apos) [e,f] [] cpos) (zY td ty tx):=by
 intro pins s σ H Q I h
 refine wpAny_Call_method m.base m.few m.line PySem.F.plainAttrs_dict PySem.F.slot_dict_setdefault PySem.F.type_dict_setdefault (cm (ho pins s σ H _ I h) λ u s1 hq=>?_)
 obtain ⟨x,H1,I1,rx,a,rfl,d,q1⟩:=hq
 obtain rfl:u=Value.ref a:=rx
 obtain ⟨t1,t2⟩:=zo I1 d
 refine ⟨t1,t2,?_⟩
 rw [m.trees]
 refine Calls.callWith_builtin rfl (Calls.evalArgs_plain (Calls.spliced_cons (cm (he pins s1 σ H1 _ I1 q1) λ iv s2 hq=>?_)))
 obtain ⟨y,H2,I2,ry,q2⟩:=hq
 refine Calls.spliced_cons (cm (hf pins s2 σ H2 _ I2 q2) λ fv s3 hq=>Calls.spliced_nil ?_)
 obtain ⟨z,H3,I3,rz,kvs,ks,ea,kn,hl,q3,q4⟩:=hq
 exact FD hu I3 ea kn ry rz hl (λ v w' s4 hv I4 rw'=>⟨v,_,I4,rw',q3 v hv⟩) λ hn s4 I4=>⟨z,_,I4,rz,q4 hn⟩
end
section
variable {K:Frag} {cl:Str->Addr} {E:XK}
noncomputable def Ke:DS->ag->SM W:=λ _ S=>some (.ok (.ref S.length),S++[.dN []])
theorem Js:SE K cl E zO Ke:=λ ρ G σ H δ S r S' Q R e q qx=>by
 cases e
 intro p hp
 obtain ⟨s2,g2⟩:=R.st.push (o:=.dN []) R.rl.sub (Nw.of (o:=.dN []) hp) λ ρ' hr=>⟨[],aK,.nil⟩
 exact q _ rfl _ _ _ _ g2 s2 (.ref (by rw [<-R.st.len];simp))
noncomputable def eU:W->Option (List aF)
 | .none=>some []
 | .tuple ds=>(sC ds).bind λ ks=>if ks=[] then none else some ks
 | _=>none
theorem vD {ρ:List Addr} {G H:Hp} {v:V} {d:W} {ks:List aF} (sg:bo G H) (h:Dw K ρ G v d) (e:eU d=some ks):kN H v ks:=by
 cases h with
 | non=>cases e;exact .inl ⟨rfl,rfl⟩
 | tup sq da=>
  obtain ⟨ks',e1,e2⟩:=oB e
  split at e2
  . cases e2
  . rename_i hn
    cases e2
    exact .inr ⟨hn,_,rfl,sg _ _ (by rw [<-rC da e1];exact sq)⟩
 | _=>cases e
noncomputable def kD (x:W) (S:ag):Option (Nat×List (List aF×W)):=match eQ x S with
 | some (n,.dN kvs)=>some (n,kvs)
 | _=>none
theorem iU {x:W} {S:ag} {n:Nat} {kvs:List (List aF×W)} (h:kD x S=some (n,kvs)):x=.ref n/\S[n]?=some (.dN kvs):=by
 unfold kD at h
 cases e:eQ x S with
 | none=>rw [e] at h;cases h
 | some p=>
  obtain ⟨m,o⟩:=p
  rw [e] at h
  cases o with
  | dN ds=>cases h;exact cZ e
  | _=>cases h
noncomputable def pY (fo fk fx:DS->ag->SM W):DS->ag->SM W:=λ δ S=>ao (fo δ S) λ x S1=>if (kD x S1).isSome=true then ao (fk δ S1) λ y S2=>ao (fx δ S2) λ z S3=>(kD x S3).bind λ p=>(eU y).bind λ k=>if p.2.length<sizeLine then match bg p.2 k with
 | some d=>some (.ok d,S3)
 | none=>some (.ok z,S3.set p.1 (.dN (cV p.2 k z)))
 else none else none
theorem yj {to tk tx:TE} {fo fk fx:DS->ag->SM W} (ho:SE K cl E to fo) (hk:SE K cl E tk fk) (hx:SE K cl E tx fx):SE K cl E (zY to tk tx) (pY fo fk fx):=λ ρ G σ H δ S r S' Q R e q qx=>
 c6 ho R e (λ x S1 e1 v ρ1 G1 H1 g1 s1 dv=>by
  split at e1
  case isFalse=>cases e1
  rename_i hx1
  obtain ⟨⟨n,kvs0⟩,hx0⟩:=Option.isSome_iff_exists.mp hx1
  obtain ⟨rfl,h0⟩:=iU hx0
  obtain ⟨a,rfl,ea⟩:=cy dv
  obtain ⟨_,B6,k0,_⟩:=s1.addr h0 ea
  have R1:=R.grow g1 s1
  refine ⟨a,rfl,⟨B6,k0⟩,?_⟩
  refine c6 hk R1 e1 (λ y S2 e2 u ρ2 G2 H2 g2 s2 du=>?_) λ c hc ρ2 G2 H2 g2 s2=>qx c hc ρ2 G2 H2 (g1.trans g2) s2
  refine c6 hx (R1.grow g2 s2) e2 (λ z S3 e3 w ρ3 G3 H3 g3 s3 dw=>?_) λ c hc ρ3 G3 H3 g3 s3=>qx c hc ρ3 G3 H3 (g1.trans (g2.trans g3)) s3
  obtain ⟨⟨m,kvs⟩,e4,e5⟩:=oB e3
  obtain ⟨k,e6,e7⟩:=oB e5
  split at e7
  case isFalse=>cases e7
  rename_i hl
  obtain ⟨em,e8⟩:=iU e4
  cases em
  have g13:=g1.trans (g2.trans g3)
  have ea3:=iI (g2.trans g3).r ea
  obtain ⟨ga,ws,k1,k2⟩:=s3.addr e8 ea3
  obtain ⟨v1,v2⟩:=k2.val (k:=k)
  refine ⟨ws,k,k1,vD g13.s ((du.ext g3.r).same g3.g) e6,by rw [<-k2.length];exact hl,λ v hv=>?_,λ hv=>?_⟩
  . split at e7
    . rename_i d hd
      cases e7
      obtain ⟨v',h1,h2⟩:=v1 d hd
      rw [hv] at h1
      cases h1
      exact q d rfl v ρ3 G3 H3 g13 s3 h2
    . rename_i hd
      rw [v2 hd] at hv
      cases hv
  . split at e7
    . rename_i d hd
      obtain ⟨v',h1,h2⟩:=v1 d hd
      rw [hv] at h1
      cases h1
    . rename_i hd
      cases e7
      obtain ⟨s4,g4⟩:=s3.put (x:=.dN (fX ws k w)) (o':=.dN (cV kvs k z)) g13.s e8 ea3 (λ b zz=>by cases zz) ⟨_,aK,k2.put dw⟩
      exact q z rfl w ρ3 G3 _ (g13.trans g4) s4 dw) qx
noncomputable def n4 (fo fk fx:DS->ag->SM W):DS->ag->SM W:=λ δ S=>ao (fo δ S) λ x S1=>if (kD x S1).isSome=true then ao (fk δ S1) λ y S2=>ao (fx δ S2) λ z S3=>(kD x S3).bind λ p=>(eU y).bind λ k=>some (.ok ((bg p.2 k).getD z),S3) else none
theorem yo {to tk tx:TE} {fo fk fx:DS->ag->SM W} (ho:SE K cl E to fo) (hk:SE K cl E tk fk) (hx:SE K cl E tx fx):SE K cl E (zh to tk tx) (n4 fo fk fx):=λ ρ G σ H δ S r S' Q R e q qx=>
 c6 ho R e (λ x S1 e1 v ρ1 G1 H1 g1 s1 dv=>by
  split at e1
  case isFalse=>cases e1
  rename_i hx1
  obtain ⟨⟨n,kvs0⟩,hx0⟩:=Option.isSome_iff_exists.mp hx1
  obtain ⟨rfl,h0⟩:=iU hx0
  obtain ⟨a,rfl,ea⟩:=cy dv
  obtain ⟨_,B6,k0,_⟩:=s1.addr h0 ea
  have R1:=R.grow g1 s1
  refine ⟨a,rfl,⟨B6,k0⟩,?_⟩
  refine c6 hk R1 e1 (λ y S2 e2 u ρ2 G2 H2 g2 s2 du=>?_) λ c hc ρ2 G2 H2 g2 s2=>qx c hc ρ2 G2 H2 (g1.trans g2) s2
  refine c6 hx (R1.grow g2 s2) e2 (λ z S3 e3 w ρ3 G3 H3 g3 s3 dw=>?_) λ c hc ρ3 G3 H3 g3 s3=>qx c hc ρ3 G3 H3 (g1.trans (g2.trans g3)) s3
  obtain ⟨⟨m,kvs⟩,e4,e5⟩:=oB e3
  obtain ⟨k,e6,e7⟩:=oB e5
  cases e7
  obtain ⟨em,e8⟩:=iU e4
  cases em
  have g13:=g1.trans (g2.trans g3)
  have ea3:=iI (g2.trans g3).r ea
  obtain ⟨ga,ws,k1,k2⟩:=s3.addr e8 ea3
  obtain ⟨v1,v2⟩:=k2.val (k:=k)
  refine ⟨ws,k,k1,vD g13.s ((du.ext g3.r).same g3.g) e6,?_⟩
  cases hv:bg kvs k with
  | some d=>
   obtain ⟨v',h1,h2⟩:=v1 d hv
   rw [h1]
   exact q d (by rw [hv];rfl) v' ρ3 G3 H3 g13 s3 h2
  | none=>
   rw [v2 hv]
   exact q z (by rw [hv];rfl) w ρ3 G3 H3 g13 s3 dw) qx
noncomputable def Dt (K:Frag) (t:TE):TT:=λ σ H Q=>t σ H λ x H'=>∃ k,FU K x H' k/\Q k H'
theorem JD {X:Cx} {a:Expr} {ta:TE} (hK:X.K=K) (ha:PE X a ta) (he:∀ whole,isTrue a X.env whole=(do let v <-whole;standAt a.pos;holding [v] (truthy v))):PT X a (Dt K ta):=hK▸yE ha he
noncomputable def r9 (f:DS->ag->SM W):DS->ag->SM Bool:=λ δ S=>ao (f δ S) λ x S1=>hZ ((eX x S1).map λ p=>!p.2.isEmpty) S1
theorem BG {t:TE} {f:DS->ag->SM W} (h:SE K cl E t f):ST K cl E (Dt K t) (r9 f):=λ ρ G σ H δ S r S' Q R e q qx=>
 c6 h R e (λ x S1 e1 v ρ1 G1 H1 g1 s1 dv=>by
  obtain ⟨b,e2,rfl,rfl⟩:=br e1
  obtain ⟨⟨n,ds⟩,e3,rfl⟩:=oM e2
  obtain ⟨rfl,e4⟩:=cn e3
  obtain ⟨a,rfl,ea⟩:=cy dv
  obtain ⟨ga,vs,k1,k2⟩:=s1.addr e4 ea
  have hl:vs.isEmpty=ds.isEmpty:=by
   have:=k2.length
   cases vs <;> cases ds <;> simp_all
  exact ⟨!ds.isEmpty,.inl ⟨vs,cC.of k1,by rw [hl]⟩,q _ rfl ρ1 G1 H1 g1 s1⟩) qx
noncomputable def wd (K:Frag):List V->Hp->VK->Prop:=λ xs H Q=>∃ (a:Addr) (T:String) (k:Bool),xs=[.ref a,.ty T]/\((∃ kvs,H a=some (.dK kvs))∨∃ kvs,H a=some (.dT kvs))/\PySem.W.kitOne K (.type "dict") (.type T)=some k/\Q (.bl k) H
theorem xm {X:Cx} (hK:X.K=K):eI X (.builtin "isinstance") (wd K):=by
 subst hK
 intro pins s σ H xs us Q I r h
 obtain ⟨a,T,k,rfl,ha,hk,q⟩:=h
 cases r with
 | cons r rr=>
  cases rr with
  | cons r' rr=>
   cases rr
   cases r
   cases r'
   have z:∃ o,s.heap.get? a=some o/\o.cls=.type "dict" := by
    rcases ha with ⟨kvs,ha⟩ | ⟨kvs,ha⟩
    . obtain ⟨_,_,_,_,o,_,_,e,ex,_⟩:=I.hok a _ ha
      exact ⟨o,e,ex.1⟩
    . obtain ⟨_,_,_,_,o,_,_,e,ex,_⟩:=I.hok a _ ha
      exact ⟨o,e,ex.1⟩
   obtain ⟨o,e,c⟩:=z
   exact PySem.W.kia_one (PySem.W.kitx_dict) I.kIn ⟨o,e,c⟩ hk (by intro z;cases z) λ tk=>⟨.bl k,H,I.tok tk,rfl,q⟩
noncomputable def JC (x:W) (S:ag):Option Bool:=match eQ x S with
 | some (_,.dK _)=>some true
 | some (_,.dT _)=>some true
 | _=>none
noncomputable def y2 (fa:DS->ag->SM W):DS->ag->SM W:=λ δ S=>ao (fa δ S) λ x S1=>hZ ((JC x S1).map .bool) S1
theorem AL {ta:TE} {fa:DS->ag->SM W} (ha:SE K cl E ta fa):SE K cl E (Be (wd K) (gX ta (gX (tC (.ty "dict")) lM))) (y2 fa):=λ ρ G σ H δ S r' S' Q R e q qx=>
 c6 ha R e (λ x S2 e2 v ρ2 G2 H2 g2 s2 dv=>by
  obtain ⟨c,e3,rfl,rfl⟩:=br e2
  obtain ⟨b,e4,rfl⟩:=oM e3
  show wd K [v,.ty "dict"] H2 Q
  unfold JC at e4
  split at e4
  . rename_i n kvs e5
    cases e4
    obtain ⟨rfl,e7⟩:=cZ e5
    obtain ⟨a,rfl,ea⟩:=cy dv
    obtain ⟨ga,vs,k1,k2⟩:=s2.addr e7 ea
    exact ⟨a, "dict", true,rfl,.inl ⟨vs,k1⟩,rO _ (by decide),q _ rfl _ ρ2 G2 H2 g2 s2 (.bl _)⟩
  . rename_i n kvs e5
    cases e4
    obtain ⟨rfl,e7⟩:=cZ e5
    obtain ⟨a,rfl,ea⟩:=cy dv
    obtain ⟨ga,vs,k1,k2⟩:=s2.addr e7 ea
    exact ⟨a, "dict", true,rfl,.inr ⟨vs,k1⟩,rO _ (by decide),q _ rfl _ ρ2 G2 H2 g2 s2 (.bl _)⟩
  . cases e4) qx
noncomputable def ls (fk fo:DS->ag->SM W):DS->ag->SM W:=λ δ S=>ao (fk δ S) λ y S1=>ao (fo δ S1) λ x S2=>hZ ((oz x y S2).map λ o=>.bool o.isSome) S2
theorem Bu {to tk:TE} {fo fk:DS->ag->SM W} (hk:SE K cl E tk fk) (ho:SE K cl E to fo):SE K cl E (Ei tk to) (ls fk fo):=λ ρ G σ H δ S r S' Q R e q qx=>
 eP hk ho R e (λ y x S2 e2 u v ρ2 G2 H2 g2 s2 du dv=>by
  obtain ⟨b,e3,rfl,rfl⟩:=br e2
  obtain ⟨o,e4,rfl⟩:=oM e3
  obtain ⟨a,r,rfl,h1,h2⟩:=mh g2.s s2 dv du e4
  have hb:r.isSome=o.isSome:=by
   cases o with
   | some d=>obtain ⟨z,rfl,_⟩:=h2;rfl
   | none=>rw [show r=none from h2];rfl
  refine ⟨a,r,rfl,h1,?_⟩
  rw [hb]
  exact q _ rfl _ ρ2 G2 H2 g2 s2 (.bl _)) qx
end
section
variable {P:Program} {w:World} {A:Around} {E:Value->Shared->Prop} {s:Shared} {d:Addr} {o:Obj} {es:Array DictEntry} {ep:Nat}
end
section
variable {K:Frag} {cl:Str->Addr} {E:XK}
end
section
open Classical in
noncomputable def eRd (h:Heap) (dx:PyData) (u:Value):Bool:=decide (∃ d as,Reads h u d as/\d.canLay0=true/\PyData.eqv d dx=true)
theorem zc {h:Heap} {dx d:PyData} {u:Value} {as:List Addr} (r:Reads h u d as) (c:d.canLay0=true):eRd h dx u=PyData.eqv d dx:=by
 unfold eRd
 cases e:PyData.eqv d dx with
 | true=>exact @decide_eq_true _ (Classical.propDecidable _) ⟨d,as,r,c,e⟩
 | false=>
  refine @decide_eq_false _ (Classical.propDecidable _) ?_
  rintro ⟨d',as',r',c',e'⟩
  rw [SeqAt.Reads.unique d' d u as' as c' r' r] at e'
  rw [e] at e'
  cases e'
noncomputable def GY (K:Frag):R2:=λ x y H Q=>∃ p xs dx ds,y=.ref p/\cC K H p xs/\Dp K H x dx/\gW K H xs ds/\dx.canLay0=true/\PyData.canLayAll0 ds=true/\dx.depth<=60/\Q (.bl (ds.any λ d=>PyData.eqv d dx)) H
variable {X:Cx} {K:Frag}
theorem yn {pins:List (Addr×Obj)} {σ:St} {H:Hp} {s:Shared} {dx:PyData} (I:aL X pins σ H s):∀ {xs:List V} {its:List Value} {ds:List PyData},bc xs its->gW X.K H xs ds->PyData.canLayAll0 ds=true->(∀ u∈its,∃ d as,Reads s.heap u d as/\d.canLay0=true)/\its.any (eRd s.heap dx)=ds.any λ d=>PyData.eqv d dx:=λ {xs its ds} q w c=>by
 induction q generalizing ds with
 | nil=>
  cases w
  exact ⟨(λ u hu=>absurd hu List.not_mem_nil),rfl⟩
 | cons r t ih=>
  cases w with
  | cons a b=>
  simp only [PyData.canLayAll0,Bool.and_eq_true] at c
  obtain ⟨as,rd⟩:=Dp.reads I a r
  obtain ⟨h1,h2⟩:=ih b c.2
  refine ⟨λ u hu=>?_,by rw [List.any_cons,List.any_cons,zc rd c.1,h2]⟩
  rcases List.mem_cons.mp hu with rfl | hu
  . exact ⟨_,as,rd,c.1⟩
  . exact h1 u hu
theorem tY (hu:X.A.units+64<cLine):fJ X (compareOp .In) (GY X.K):=by
 intro pins s σ H x y v u Q I rx ry h
 obtain ⟨p,xs,dx,ds,rfl,hq,hx,hs,cx,cs,hd,q⟩:=h
 cases ry
 obtain ⟨its,r,pl,hz⟩:=I.list hq
 obtain ⟨ax,rdx⟩:=Dp.reads I hx rx
 obtain ⟨h1,h2⟩:=yn (dx:=dx) I r hs cs
 refine SeqAt.in_listAt (eRd s.heap dx) pl.isList (λ w hw=>?_) ⟨.bl _,H,I,rfl,?_⟩
 . obtain ⟨d,as,rd,c⟩:=h1 w (by simpa using hw)
   rw [zc rd c]
   exact SeqAt.eqAt_reads d dx _ s w v as ax rd rdx c cx (by show X.A.units+1+_<_;omega)
 . rw [show its.toArray.any (eRd s.heap dx)=its.any (eRd s.heap dx) by simp,h2]
   exact q
noncomputable def Hw (K:Frag):R2:=λ x y H Q=>DZ K false x y H Q∨GY K x y H Q
theorem Lb (h:X.K=K) (hu:X.A.units+64<cLine):fJ X (compareOp .In) (Hw K):=h▸pw.or (tY hu)
noncomputable def ou (d e:W):Option Bool:=match lQ d e with
 | some b=>some b
 | none=>(hJ e).bind λ ds=>d.py.bind λ x=>(W.pys ds).bind λ ys=>if (x.canLay0&&PyData.canLayAll0 ys&&decide (x.depth<=60))=true then some (ys.any λ y=>PyData.eqv y x) else none
theorem G8 {ρ:List Addr}:DB K ρ (Hw K) ou:=λ H x y d e b Q hx hy hg q=>by
 unfold ou at hg
 split at hg
 . rename_i b' hb
   cases hg
   exact .inl (DN H x y d e b Q hx hy hb q)
 . obtain ⟨ds,e1,hg⟩:=oB hg
   obtain ⟨dx,e2,hg⟩:=oB hg
   obtain ⟨ys,e3,hg⟩:=oB hg
   split at hg
   case isFalse=>cases hg
   rename_i hc
   cases hg
   simp only [Bool.and_eq_true,decide_eq_true_eq] at hc
   cases gx e1
   obtain ⟨p,vs,rfl,sq,da⟩:=qg hy
   exact .inr ⟨p,vs,dx,ys,rfl,sq,hx.dp e2,da.dp e3,hc.1.1,hc.1.2,hc.2,q⟩
end
section
variable {K:Frag} {ρ:List Addr}
noncomputable def E8:W->Option Str
 | .str z=>some z
 | _=>none
theorem AM {d:W} {z:Str} (h:E8 d=some z):d=.str z:=by
 cases d <;> first | (cases h;rfl) | cases h
noncomputable def pK (f:DS->Option W) (lo hi:DS->Option (Option Int)):DS->Option W:=λ δ=>(f δ).bind λ d=>(E8 d).bind λ z=>(lo δ).bind λ l=>(hi δ).bind λ u=>if z.length<=1000 then some (.str (Txt.slice z l u)) else none
theorem FL {t:TE} {tl th:TO} {f:DS->Option W} {lo hi:DS->Option (Option Int)} (h:DE K ρ t f) (hl:CC K ρ tl lo) (hh:CC K ρ th hi):DE K ρ (JA (λ x lo hi H Q=>∃ z,x=.str z/\z.length<=sizeLine/\Q (.str (Txt.slice z lo hi)) H) t tl th) (pK f lo hi):=λ G σ H δ d Q R e q=>by
 obtain ⟨x,ed,e⟩:=oB e
 obtain ⟨z,ee,e⟩:=oB e
 obtain ⟨l,el,e⟩:=oB e
 obtain ⟨u,eu,e4⟩:=oB e
 cases AM ee
 by_cases hz:z.length<=1000
 . rw [if_pos hz] at e4
   cases e4
   refine h G σ H δ _ _ R ed λ v G1 H1 g1 dv=>hl G1 σ H1 δ l _ (R.grow g1) el λ G2 H2 g2=>hh G2 σ H2 δ u _ ((R.grow g1).grow g2) eu λ G3 H3 g3=>?_
   cases uz dv
   exact ⟨z,rfl,Nat.le_trans hz (by decide),q _ G3 H3 (g1.trans (g2.trans g3)) (.str _)⟩
 . rw [if_neg hz] at e4
   cases e4
noncomputable def rQ:W->W->Option W
 | .str z,.int n=>if (decide (0<=n)&&decide (n<=1000)&&decide (z.length<=1000))=true then some (.str (Txt.mul z n)) else none
 | _,_=>none
theorem BO:DR K ρ CK rQ:=λ G H x y d e c Q s hx hy hg q=>by
 unfold rQ at hg
 split at hg
 . rename_i z n
   split at hg
   . rename_i hc
     cases hg
     simp only [Bool.and_eq_true,decide_eq_true_eq] at hc
     cases qL hx
     cases d8 hy
     exact ⟨z,n,rfl,rfl,hc.1.1,hc.1.2,hc.2,q _ G H (.refl s) (.str _)⟩
   . cases hg
 . cases hg
theorem rV (x:Array Nat):∀ (n:Nat) (a:Array Nat) (c:Nat),c∈((List.replicate n x).foldl (·++·) a).toList->c∈a.toList∨c∈x.toList
 | 0,a,c,h=>.inl h
 | n+1,a,c,h=>by
  rw [List.replicate_succ,List.foldl_cons] at h
  rcases rV x n (a++x) c h with h | h
  . rw [Array.toList_append,List.mem_append] at h
    exact h
  . exact .inr h
theorem fm.mul {z:Str} (h:fm z) (n:Int):fm (Txt.mul z n):=by
 rw [jO] at *
 intro c hc
 unfold Txt.mul at hc
 split at hc
 . exact absurd hc (by simp [Str.empty])
 . split at hc
   . exact h c hc
   . rcases rV z.cps n.toNat #[] c hc with h' | h'
     . exact absurd h' (by simp)
     . exact h c h'
end
section
variable {K:Frag} {ρ:List Addr}
noncomputable def B1 (f:DS->Option (List W)) (g:DS->Option W):DS->Option (List W):=λ δ=>(f δ).bind λ ds=>(g δ).bind λ y=>(GL y).bind λ k=>if (decide (0<=k)&&decide (k<=1000)&&decide (ds.length<=1000))=true then some (List.replicate k.toNat ds).flatten else none
theorem aB.rep {G:Hp} {vs:List V} {ds:List W} (h:aB K ρ G vs ds):∀ n,aB K ρ G (List.replicate n vs).flatten (List.replicate n ds).flatten
 | 0=>.nil
 | n+1=>by
  rw [List.replicate_succ,List.replicate_succ,List.flatten_cons,List.flatten_cons]
  exact h.app (aB.rep h n)
theorem F6 {t u:TE} {f:DS->Option (List W)} {g:DS->Option W} (h:DO K ρ t f) (hg:DE K ρ u g):DO K ρ (qR I0 t u) (B1 f g):=λ G σ H δ ds Q R e q=>by
 obtain ⟨es,e1,e⟩:=oB e
 obtain ⟨y,e2,e⟩:=oB e
 obtain ⟨k,e3,e4⟩:=oB e
 split at e4
 . rename_i hc
   cases e4
   cases qi e3
   simp only [Bool.and_eq_true,decide_eq_true_eq] at hc
   refine h G σ H δ es _ R e1 λ p vs G1 H1 g1 h0 h1 h2 da=>hg G1 σ H1 δ _ _ (R.grow g1) e2 λ v G2 H2 g2 dv=>?_
   cases d8 dv
   have hm:vs.length*k.toNat<=1000*1000:=Nat.mul_le_mul (by rw [da.length];exact hc.2) (by omega)
   refine ⟨p,k,vs,rfl,rfl,g2.h _ _ h2,by omega,by omega,Nat.le_trans hm (by decide),λ r hr=>?_⟩
   have n:Nw H2 (cp H2 r (.lst (List.replicate k.toNat vs).flatten)) r (.lst (List.replicate k.toNat vs).flatten):=.of hr
   have g12:=g1.trans g2
   exact q r _ G2 _ (g12.trans (.nwO g2.s n)) (cD g12.h hr) (cD g2.s hr) n.2.2 ((da.same g2.g).rep k.toNat)
 . cases e4
end
section
variable {X:Cx} {K:Frag}
noncomputable def Ha (K:Frag) (neg:Bool):R2:=λ x y H Q=>∃ p b xs,x=.ref p/\y=.ref b/\cC K H p xs/\cC K H b []/\Q (.bl (xs.isEmpty != neg)) H
theorem Jz (hK:X.K=K) (hu:X.A.units+64<cLine):fJ X (compareOp .NotEq) (Ha K true):=by
 subst hK
 intro pins s σ H x y v u Q I rx ry h
 obtain ⟨p,b,xs,rfl,rfl,hx,hy,q⟩:=h
 cases rx
 cases ry
 obtain ⟨its,r,pl,hz⟩:=I.list hx
 obtain ⟨its2,r2,pl2,hz2⟩:=I.list hy
 have l1:=r.length
 have l2:=r2.length
 cases xs with
 | nil=>
  exact SeqAt.RcNeAt.lists (e:=λ _=>true) pl.isList pl2.isList (by simp only [List.size_toArray];omega) (by omega) (λ j h1 h2=>by simp only [List.size_toArray,<-l1,List.length_nil] at h1;omega) X.prog X.w _ _ (by
   have:its.toArray.size=0:=by simp only [List.size_toArray];simpa using l1.symm
   rw [this]
   exact bj I q rfl)
 | cons z zs=>
  exact SeqAt.RcNeAt.lists_lengths pl.isList pl2.isList (by simp only [List.size_toArray,<-l1,<-l2];simp) (by omega) X.prog X.w _ _ (bj I q rfl)
theorem yz {prog:Program} {w:World} {A:Around} {E:Value->Shared->Prop} {s:Shared} {t b:Addr} {ws:List Value} {Q:Value->Shared->Prop} (ht:IsTup s.heap t ([]:List Value).toArray) (hb:IsTup s.heap b ws.toArray) (h0:Q (.ref b) s):wpAny (model prog w) A (binaryOp .Add (.ref t) (.ref b)) Q E s:=by
 obtain ⟨⟨cls,dd,data,sl⟩,ho,hc,n,hd⟩:=id ht
 obtain ⟨⟨cls2,dd2,data2,sl2⟩,ho2,hc2,n2,hd2⟩:=id hb
 simp only at hc hd hc2 hd2
 subst hc hd hc2 hd2
 exact concat_meets ⟨_,ho,rfl⟩ ⟨_,ho2,rfl⟩ noFill_tuple_add seq_tuple_add PySem.F.slot_tuple_add PySem.F.entry_tuple_add (PySem.F.args_tuple_add_2 _ _) (tuple_addW0 t b _ ws.toArray n n2 dd dd2 sl sl2 (by simp)) ⟨ho,ho2,h0⟩
noncomputable def Ea (K:Frag):R2:=λ x y H Q=>∃ a b ys,x=.ref a/\y=.ref b/\eK K H a []/\eK K H b ys/\Q (.ref b) H
theorem BU:fJ X (binaryOp .Add) (Ea X.K):=by
 intro pins s σ H x y v u Q I rx ry h
 obtain ⟨a,b,ys,rfl,rfl,ha,hb,q⟩:=h
 cases rx
 cases ry
 obtain ⟨its,r1,p1,_⟩:=I.tuple ha
 obtain ⟨its2,r2,p2,_⟩:=I.tuple hb
 cases r1
 exact yz p1 p2 ⟨.ref b,H,I,rfl,q⟩
noncomputable def CT (K:Frag):R2:=λ x y H Q=>rG K x y H Q∨Ea K x y H Q
theorem JP (h:X.K=K):fJ X (binaryOp .Add) (CT K):=by
 subst h
 exact (B2 rfl).or BU
noncomputable def va:W->W->Option W
 | .tuple [],.tuple b=>some (.tuple b)
 | x,y=>bQ x y
theorem BV {ρ:List Addr}:DR K ρ (CT K) va:=λ G H x y d e c Q s hx hy hg q=>by
 unfold va at hg
 split at hg
 . cases hg
   obtain ⟨p,vs,rfl,sq,da⟩:=mN hx
   obtain ⟨p2,vs2,rfl,sq2,da2⟩:=pM hy
   cases da
   exact .inr ⟨p,p2,vs2,rfl,rfl,s.tup (eK.of sq),s.tup (eK.of sq2),q _ G H (.refl s) (.tup sq2 da2)⟩
 . exact .inl (zS G H x y d e c Q s hx hy hg q)
end
section
variable {K:Frag} {cl:Str->Addr} {E:XK}
noncomputable def xT (x y:W) (S:ag):Option W:=(eX x S).bind λ p=>(hJ y).bind λ es=>if p.2.length+es.length<=9000 then some (.list (p.2++es)) else none
noncomputable def vz (fa fb:DS->ag->SM W):DS->ag->SM W:=λ δ S=>ao (fa δ S) λ x S1=>ao (fb δ S1) λ y S2=>hZ (xT x y S2) S2
theorem B4 {ta tb:TE} {fa fb:DS->ag->SM W} (ha:SE K cl E ta fa) (hb:SE K cl E tb fb):SE K cl E (qR (rG K) ta tb) (vz fa fb):=λ ρ G σ H δ S r' S' Q R e q qx=>
 eP ha hb R e (λ x y S2 e2 v u ρ2 G2 H2 g2 s2 dv du=>by
  obtain ⟨c,e3,rfl,rfl⟩:=br e2
  obtain ⟨⟨n,ds⟩,e4,e3⟩:=oB e3
  obtain ⟨es,e5,e7⟩:=oB e3
  obtain ⟨rfl,e6⟩:=cn e4
  cases gx e5
  obtain ⟨a,rfl,ea⟩:=cy dv
  obtain ⟨ga,vs,k1,k2⟩:=s2.addr e6 ea
  obtain ⟨b,ws,rfl,sq,da⟩:=qg du
  split at e7
  case isFalse=>cases e7
  rename_i hz
  cases e7
  refine .inr (.inr (.inl ⟨a,b,vs,ws,rfl,rfl,cC.of k1,g2.s.seq sq,by rw [k2.length,da.length];exact Nat.le_trans hz (by decide),λ p H' n=>?_⟩))
  have g3:=Gr.nw g2.s n
  exact q _ rfl _ ρ2 _ H' (g2.trans (.of g3)) (s2.grow g3) (.lst (cC.of aK) ((k2.app da).same g3.g))) qx
noncomputable def Je (neg:Bool) (x y:W) (S:ag):Option W:=(eX x S).bind λ p=>(hJ y).bind λ es=>if es=[] then some (.bool (p.2.isEmpty != neg)) else none
noncomputable def rP (neg:Bool) (fa fb:DS->ag->SM W):DS->ag->SM W:=λ δ S=>ao (fa δ S) λ x S1=>ao (fb δ S1) λ y S2=>hZ (Je neg x y S2) S2
theorem Gx {neg:Bool} {ta tb:TE} {fa fb:DS->ag->SM W} (ha:SE K cl E ta fa) (hb:SE K cl E tb fb):SE K cl E (qR (Ha K neg) ta tb) (rP neg fa fb):=λ ρ G σ H δ S r' S' Q R e q qx=>
 eP ha hb R e (λ x y S2 e2 v u ρ2 G2 H2 g2 s2 dv du=>by
  obtain ⟨c,e3,rfl,rfl⟩:=br e2
  obtain ⟨⟨n,ds⟩,e4,e3⟩:=oB e3
  obtain ⟨es,e5,e7⟩:=oB e3
  obtain ⟨rfl,e6⟩:=cn e4
  cases gx e5
  obtain ⟨a,rfl,ea⟩:=cy dv
  obtain ⟨ga,vs,k1,k2⟩:=s2.addr e6 ea
  obtain ⟨b,ws,rfl,sq,da⟩:=qg du
  split at e7
  case isFalse=>cases e7
  rename_i hz
  cases e7
  subst hz
  cases da
  have hl:vs.isEmpty=ds.isEmpty:=by
   have:=k2.length
   cases vs <;> cases ds <;> simp_all
  exact ⟨a,b,vs,rfl,rfl,cC.of k1,g2.s.seq sq,by rw [hl];exact q _ rfl _ ρ2 G2 H2 g2 s2 (.bl _)⟩) qx
noncomputable def dr (f:W->Option W):List W->Option (List W)
 | []=>some []
 | d::ds=>(f d).bind λ x=>(dr f ds).map (x::·)
noncomputable def GF (S:ag) (k:Nat):Option (List W):=match S[k]? with
 | some (.lst ds)=>some ds
 | _=>none
noncomputable def rW (F:Nat->Option (List W)):Nat->W->Option W
 | 0,_=>none
 | n+1,d=>match d with
  | .ref k=>(F k).bind λ ds=>(dr (rW F n) ds).map .list
  | .list ds=>(dr (rW F n) ds).map .list
  | .tuple ds=>(dr (rW F n) ds).map .tuple
  | d=>some d
noncomputable def y9 (f:List W->ag->SM W) (ds:List W):Option W:=if bZ ds=true then (match f ds [] with | some (.ok d,S)=>rW (GF S) 40 d | _=>none) else none
theorem Dw.free {ρ ρ':List Addr} {G:Hp} {v:V} {d:W} (h:gv d=true) (q:Dw K ρ G v d):Dw K ρ' G v d:=
 Dw.rec (motive_1:=λ v d _=>gv d=true->Dw K ρ' G v d) (motive_2:=λ vs ds _=>bZ ds=true->aB K ρ' G vs ds) (λ _=>.non) (λ b _=>.bl b) (λ i _=>.int i) (λ x _=>.str x) (λ q _ ih h=>.lst q (ih h)) (λ q _ ih h=>.tup q (ih h)) (λ _ h=>by cases h)
  (λ _=>.nil) (λ _ _ ih1 ih2 h=>by simp [bZ] at h;exact .cons (ih1 h.1) (ih2 h.2)) q h
theorem aB.free {ρ ρ':List Addr} {G:Hp} {vs:List V} {ds:List W} (h:bZ ds=true) (q:aB K ρ G vs ds):aB K ρ' G vs ds:=
 q.ind (M:=λ vs ds=>bZ ds=true->aB K ρ' G vs ds) (λ _=>.nil) (λ _ _ _ _ a ih h=>by simp [bZ] at h;exact .cons (a.free h.1) (ih h.2)) h
theorem pG {ρ ρ':List Addr} {G G2:Hp} {f:W->Option W} (hf:∀ v d d',f d=some d'->Dw K ρ' G v d->Dw K ρ G2 v d') {vs:List V} {ds es:List W} (e:dr f ds=some es) (q:aB K ρ' G vs ds):aB K ρ G2 vs es:=
 q.ind (M:=λ vs ds=>∀ es,dr f ds=some es->aB K ρ G2 vs es) (λ es e=>by cases e;exact .nil) (λ _ _ _ _ a ih es e=>by
  obtain ⟨x,e1,e⟩:=oB e
  obtain ⟨xs,e2,rfl⟩:=oM e
  exact .cons (hf _ _ _ e1 a) (ih _ e2)) es e
theorem p9 {ρ ρ':List Addr} {G G2 H:Hp} {S:ag} (s:SR K ρ' cl G H S) (hg:bo G G2) (hn:∀ a vs,a∈ρ'->H a=some (.lst vs)->G2 a=some (.lst vs)):∀ (n:Nat) (v:V) (d d':W),rW (GF S) n d=some d'->Dw K ρ' G v d->Dw K ρ G2 v d'
 | 0,_,_,_,e,_=>by cases e
 | n+1,v,d,d',e,h=>by
  cases h with
  | non=>cases e;exact .non
  | bl b=>cases e;exact .bl b
  | int i=>cases e;exact .int i
  | str x=>cases e;exact .str x
  | lst q a=>
   obtain ⟨es,e1,rfl⟩:=oM e
   exact .lst (hg.seq q) (pG (p9 s hg hn n) e1 a)
  | tup q a=>
   obtain ⟨es,e1,rfl⟩:=oM e
   exact .tup (hg _ _ q) (pG (p9 s hg hn n) e1 a)
  | @ref a k ea=>
   obtain ⟨ds,hF,e⟩:=oB e
   obtain ⟨es,e1,rfl⟩:=oM e
   have hS:S[k]?=some (.lst ds):=by
    unfold GF at hF
    split at hF
    . rename_i h;cases hF;exact h
    . cases hF
   obtain ⟨ga,vs,k1,k2⟩:=s.addr hS ea
   exact .lst (cC.of (hn a vs (List.mem_of_getElem? ea) k1)) (pG (p9 s hg hn n) e1 k2)
open Classical in
noncomputable def frzG (ρ:List Addr) (G H:Hp):Hp:=λ a=>if a∈ρ/\∃ vs,H a=some (.lst vs) then H a else G a
theorem Gv {f:List W->ag->SM W} {vs:List V} {H:Hp} {Q:VK} {E:XK} (h:jx K (y9 f) vs H Q E):kT K cl f vs H Q E:=by
 obtain ⟨ρ,G,ds,d',sg,da,e,q⟩:=h
 unfold y9 at e
 split at e
 case isFalse=>cases e
 rename_i ok
 split at e
 . rename_i d S' ef
   refine ⟨[],G,[],ds,d,S',sg,zN,da.free ok,ef,λ v ρ' G' H' g s dv=>?_⟩
   have out:∀ a,a∈ρ'->G' a=none:=λ a ha=>by
    obtain ⟨n,hn⟩:=List.getElem?_of_mem ha
    have hl:n<S'.length:=by rw [<-s.len];exact (oG hn).1
    exact (s.addr (List.getElem?_eq_getElem hl) hn).1
   have g1:bo G' (frzG ρ' G' H'):=λ b o eb=>by
    unfold frzG
    rw [if_neg]
    . exact eb
    . rintro ⟨hb,_⟩
      rw [out b hb] at eb
      cases eb
   have g2:bo (frzG ρ' G' H') H':=λ b o eb=>by
    unfold frzG at eb
    split at eb
    . exact eb
    . exact g.s b o eb
   have gr:Gr G H (frzG ρ' G' H') H':=⟨g.g.trans g1,λ b o eb=>g.h b o (by simp) eb,g2,λ b h1 h2=>by
    unfold frzG
    rw [if_neg]
    . exact g.n b h1 h2
    . rintro ⟨hb,_⟩
      exact h1 (g.f b hb (by simp))⟩
   exact q v (frzG ρ' G' H') H' gr (p9 s g1 (λ a vs ha hv=>by unfold frzG;rw [if_pos ⟨ha,vs,hv⟩];exact hv) 40 v d d' e dv)
 . cases e
end
noncomputable def Eb (K:Frag) (mg:Str->Option Value) (x:Str) (ps:List Str) (us:List Value) (f:Addr) (fd:FuncData):Prop:=mg x=some (.ref f)/\PySem.W.keepIn K (.ref f)=true/\fq K fd ps []/\fq K fd ps us
noncomputable def Ce (R:Addr->FuncData->Prop) (P:Program) (w:World) (K:Frag) (mg:Str->Option Value) (base:Heap) (k:Nat) (ps:List Str) (sp:Sp):Prop:=∃ f fd,R f fd/\ez P w K mg base Dc k f fd ps sp
noncomputable def zQ (R:Addr->FuncData->Prop) (K:Frag) (x q:Str) (st:Stmt):Prop:=∃ f fd,AK K x q st f fd/\R f fd
noncomputable abbrev j9 (K:Frag) (mg:Str->Option Value) (x:Str) (ps:List Str) (us:List Value) (st:Stmt):Prop:=zQ (Eb K mg x ps us) K x x st
noncomputable abbrev j1 (P:Program) (w:World) (K:Frag) (mg:Str->Option Value) (base:Heap) (x:Str) (ps:List Str) (us:List Value) (k:Nat) (sp:Sp):Prop:=Ce (Eb K mg x ps us) P w K mg base k ps sp
section
variable {X:Cx} {x:Str} {o e:Expr} {es:List Expr} {t:TA} {ps:List Str} {us:List Value} {sp:Sp} {p pos:Pos} {K:Frag} {T:String} {name:Str} {r:V->List V->Hp->VK->Prop} {q:List V->Hp->VK->Prop} {to:TE} {apos:Pos}
noncomputable def Hs (X:Cx) (x:Str) (us:List Value) (sp:Sp):Prop:=∃ j k ps,Ce (Eb X.K X.mg x ps us) X.prog X.w X.K X.mg X.base j ps sp/\d3 k X.A/\j<=k
theorem Mo (h:∃ us,Hs X x us sp) (hg:Gl X x) (ha:PA X (e::es) t) (hd:(x==("__debug__" : Str))=false)
 (he:starEach (e::es) X.env=(false,eval e X.env)::starEach es X.env) (hp:(backTo pos (starEach es X.env)).any (·.1)=false):PE X (.Call (.Name x p) (e::es) [] pos) (p4 sp [] E0 t):=by
 obtain ⟨us,j,k,ps,⟨f,fd,⟨m,kp,b,_⟩,F⟩,hr,hl⟩:=h
 exact vp (F.mono hl) hr hg m kp b .nil CV ha hd he hp
theorem Mb (h:Hs X x [.none] sp) (hg:Gl X x) (ha:PA X (e::es) t) (hd:(x==("__debug__" : Str))=false)
 (he:starEach (e::es) X.env=(false,eval e X.env)::starEach es X.env) (hp:(backTo pos (starEach es X.env)).any (·.1)=false):PE X (.Call (.Name x p) (e::es) [] pos) (p4 sp [.non] E0 t):=by
 obtain ⟨j,k,ps,⟨f,fd,⟨m,kp,_,b⟩,F⟩,hr,hl⟩:=h
 exact vp (F.mono hl) hr hg m kp b yy CV ha hd he hp
noncomputable def QM (X:Cx) (T:String) (name:Str) (r:V->List V->Hp->VK->Prop):Prop:=∃ id,PlainAttrs T/\Slot T name id/\typeOf (.builtin id)=pure (.type "method_descriptor")/\Iw X id r
noncomputable def QB (X:Cx) (x:Str) (q:List V->Hp->VK->Prop):Prop:=∃ id,eI X (.builtin id) q/\bootBuiltins x=some (.builtin id)
theorem LS:QM X "list" "append" lZ:=⟨_,PySem.F.plainAttrs_list,PySem.F.slot_list_append,PySem.F.type_list_append,xl⟩
theorem Ml:QM X "list" "extend" (mJ X.K):=⟨_,PySem.F.plainAttrs_list,PySem.F.slot_list_extend,PySem.F.type_list_extend,uF⟩
theorem LP:QM X "list" "pop" Er:=⟨_,PySem.F.plainAttrs_list,PySem.F.slot_list_pop,PySem.F.type_list_pop,F0⟩
theorem Mw (h:X.K=K):QB X "len" (wB K):=⟨_,xJ h,PySem.boot_len⟩
theorem LX (h:X.K=K) (hc:X.calm=true):QB X "any" (Gb K):=⟨_,xa h hc,boot_any⟩
theorem Lg (h:X.K=K):QB X "isinstance" (wd K):=⟨_,xm h,boot_isinstance⟩
theorem Mc (h:X.K=K) (hm:QM X T name r) (ho:PE X o to) (hb:attributeBase o name X.env (eval o X.env)=eval o X.env) (hl:(apos.endLine==pos.line)=true):PE X (.Call (.Attribute o name apos) [] [] pos) (AR K T r to):=by
 obtain ⟨_,a,b,c,d⟩:=hm
 exact Ch h a b c d ho hb hl
theorem Mm (h:X.K=K) (hm:QM X T name r) (ho:PE X o to) (ha:PA X (e::es) t) (hb:attributeBase o name X.env (eval o X.env)=eval o X.env)
 (hf:((backTo pos (starEach (e::es) X.env)).all (λ x=>!x.1)&&(backToKw pos (keywordEach [] X.env)).all (λ x=>x.1.isSome)
  && decide ((e::es).length+([]:List Keyword).length+(if ([]:List Keyword).isEmpty then 0 else 1)<30))=true)
 (hl:(apos.endLine==pos.line)=true) (hs:starEach (e::es) X.env=(false,eval e X.env)::starEach es X.env) (hp:(backTo pos (starEach es X.env)).any (·.1)=false):
 PE X (.Call (.Attribute o name apos) (e::es) [] pos) (GP K T r to t):=by
 obtain ⟨_,a,b,c,d⟩:=hm
 exact FT h a b c d ho ha hb hf hl hs hp
theorem Mu (hq:QB X x q) (hg:Gl X x) (hm:X.mg x=none) (ha:PA X (e::es) t) (hn:x ≠ "__name__") (hd:(x==("__debug__" : Str))=false)
 (he:starEach (e::es) X.env=(false,eval e X.env)::starEach es X.env) (hp:(backTo pos (starEach es X.env)).any (·.1)=false):PE X (.Call (.Name x p) (e::es) [] pos) (Be q t):=by
 obtain ⟨_,a,b⟩:=hq
 exact zD a hg hm b ha hn hd he hp
theorem LD (h:X.K=K) (hg:Gl X "list") (hm:X.mg "list" = none) (ha:PA X (e::es) t)
 (he:starEach (e::es) X.env=(false,eval e X.env)::starEach es X.env) (hp:(backTo pos (starEach es X.env)).any (·.1)=false):PE X (.Call (.Name "list" p) (e::es) [] pos) (Be (qr K) t):=wQ (oo h) hg hm boot_list ha (by decide) (by decide) he hp
end
section
variable {X:Cx} {x:Str} {us:List Value} {sp:Sp} {j k:Nat} {ps:List Str} {pos:Pos}
theorem KI (h:Ce (Eb X.K X.mg x ps us) X.prog X.w X.K X.mg X.base j ps sp) (hr:d3 k X.A) (hl:j<=k):Hs X x us sp:=⟨j,k,ps,h,hr,hl⟩
theorem L4 (h:Ce (Eb X.K X.mg x ps us) X.prog X.w X.K X.mg X.base j ps sp) (hr:d3 k X.A) (hl:j<=k):∃ us,Hs X x us sp:=⟨us,j,k,ps,h,hr,hl⟩
theorem MG (hg:Gl X "dict") (hm:X.mg "dict" = none):PE X (.Name "dict" pos) (tC (.ty "dict")):=BD hg hm boot_dict rfl (by decide) (by decide)
theorem Iu {a b c:Prop} (h:b):a∨b∨c:=.inr (.inl h)
end
noncomputable def cN (N:List Str):List (Option Nat)->List Str->List Str
 | some i::r,u=>N.getD i "" :: cN N r u
 | _,u=>u
section
variable {X:Cx} {scope:Scope} {ix:List (Option Nat)} {z:Str} {zp:Pos} {iter elt:Expr} {ifs:List Expr} {wi:TI} {g:TG} {tc:TT} {te:TE} {pos py spos:Pos} {y:Str} {i:Nat}
theorem Dy {N:List Str} (kind:scope.kind=.function) (nocell:(scope.names.all λ y=>y.2 != .cell)=true) (locs:(scope.names.all λ y=>y.2 != .local||scope.names.lookup y.1==some .local)=true)
 (free:(scope.names.all λ y=>y.2 != .free||X.env.kindOf y.1==some .cell||X.env.kindOf y.1==some .free)=true) (len:ix.length=N.length) (nd:decide N.Nodup=true)
 (fr:((ix.zip N).all λ p=>match p.1 with
  | none=>true
  | some i=>X.N[i]?==some p.2&&(X.env.kindOf p.2==some .cell||X.env.kindOf p.2==some .free)&&((relabel scope X.env).names.lookup p.2==some .cell||(relabel scope X.env).names.lookup p.2==some .free))=true):bH X scope N ix:=uE kind nocell locs free len (of_decide_eq_true nd) fr
noncomputable abbrev LO (X:Cx) (scope:Scope) (ix:List (Option Nat)) (z:Str) (zp:Pos) (elt:Expr) (ifs:List Expr) (g:TG) (tc:TT) (te:TE):Prop:=∀ (s₀:Shared) (H₀:Hp) (C:Addr) (ex:List Addr),(cN X.N ix [z]).Nodup->PG (bK X scope (cN X.N ix [z]) s₀ H₀ C ex) (.Name z zp) g/\uh (bK X scope (cN X.N ix [z]) s₀ H₀ C ex) ifs tc/\PE (bK X scope (cN X.N ix [z]) s₀ H₀ C ex) elt te
theorem IS (S:bH X scope (cN X.N ix [z]) ix) (hn:decide (cN X.N ix [z]).Nodup=true) (hc:X.calm=true) (hi:PI X (.Name z zp) iter wi) (hG:ng ix g) (hb:LO X scope ix z zp elt ifs g tc te)
 (hs:∀ x,foldedSetIterable iter X.env x=pure x):PE X (.ListComp elt [⟨.Name z zp,iter,ifs,0⟩] scope pos) (mC ix wi g tc te):=Bj S hc hi hG (λ a b c d=>hb a b c d (of_decide_eq_true hn)) hs
theorem Ad (hN:X.N.Nodup) (hi:X.N[i]?=some y) (hy:FV X.env.scope y) (S:bH X scope (cN X.N ix [z]) ix) (hn:decide (cN X.N ix [z]).Nodup=true) (hc:X.calm=true) (hit:PI X (.Name z zp) iter wi) (hG:ng ix g) (hb:LO X scope ix z zp elt ifs g tc te)
 (hsw:swapsWith (.ListComp elt [⟨.Name z zp,iter,ifs,0⟩] scope pos) (some (.Name y py)) spos.line X.env=pure true) (hs:∀ x,foldedSetIterable iter X.env x=pure x) (hf:X.fn y=true∨X.env.scope.names.lookup y=some .local):
 PS X (.Assign [.Name y py] (.ListComp elt [⟨.Name z zp,iter,ifs,0⟩] scope pos) spos) (o0 (mC ix wi g tc te) (lI i)):=Bp hN hi hy S hc hit hG (λ a b c d=>hb a b c d (of_decide_eq_true hn)) hsw hs hf
end
noncomputable abbrev Lh (P:Program) (w:World) (K:Frag) (mg:Str->Option Value) (base:Heap) (N:List Str) (q:Str) (st:Stmt) (k:Nat) (t:TS):Prop:=∀ (f:Addr) (cd:Value) (A:Around) (outer:List Env) (s:Shared) (H:Hp) (E:XK),N.Nodup->d3 k (A.deeper (envOfC q (bn st) s.heap.objs.size f cd))->(A.deeper (envOfC q (bn st) s.heap.objs.size f cd)).units+64<cLine->(A.deeper (envOfC q (bn st) s.heap.objs.size f cd)).units+1<cLine->
 sP (uG Dc P w K mg base N q (bn st) f cd A outer s H E).nox (cP st) t
section
variable {P:Program} {w:World} {K:Frag} {mg:Str->Option Value} {base:Heap} {cl:Str->Addr} {R:Addr->FuncData->Prop} {x q:Str} {st:Stmt} {N ps:List Str} {a n k:Nat} {t:TS} {sp:Sp}
theorem IR (D:zQ R K x q st) (S:fP N ps (bn st)) (hl:∀ vs H Q E,sp vs H Q E->vs.length=ps.length) (rd:∀ vs H Q E,sp vs H Q E->t ({ nx:=λ _ H'=>Q V.non H',rt:=Q }:iq) (start N vs) H)
 (pe:Lh P w K mg base N q st k t):Ce R P w K mg base (k+1) ps sp:=by
 obtain ⟨f,fd,F,r⟩:=D
 exact ⟨f,fd,r,F.ok S hl λ cd A outer s H vs Q E hr h=>⟨t,pe f cd A outer s H E S.nd hr hr.units hr.units1,rd vs H Q E h⟩⟩
theorem ii {fb:DS->Option cY} {g:List W->Option W} (D:zQ R K x q st) (hg:g=bV a n fb) (de:∀ ρ,n9 K ρ t fb)
 (pe:Lh P w K mg base N q st k t) (hN:N.length=n) (ha:ps.length=a) (S:fP N ps (bn st)):Ce R P w K mg base (k+1) ps (jx K g):=by
 subst hg ha
 exact IR D S (λ vs H Q E h=>Bt (λ ds d e=>oR e) h) (λ vs H Q E h=>KM hN de h) pe
theorem iX {fb:DS->ag->SO} {g:List W->ag->SM W} (D:zQ R K x q st) (hg:g=cB a n fb) (de:lR K cl E0 t fb)
 (pe:Lh P w K mg base N q st k t) (hN:N.length=n) (ha:ps.length=a) (S:fP N ps (bn st)):Ce R P w K mg base (k+1) ps (kT K cl g):=by
 subst hg ha
 exact IR D S (λ vs H Q E h=>BK (λ ds S r e=>oK e) h) (λ vs H Q E h=>Hj hN de h) pe
theorem Ce.imp {sq:Sp} (h:Ce R P w K mg base k ps sp) (i:∀ vs H Q E,sq vs H Q E->sp vs H Q E):Ce R P w K mg base k ps sq:=by
 obtain ⟨f,fd,r,F⟩:=h
 exact ⟨f,fd,r,F.imp i⟩
theorem zd {g:List W->Option W} (D:zQ R K x q st) (h:∀ ds,g ds=none):Ce R P w K mg base k ps (jx K g):=by
 obtain ⟨f,fd,_,r⟩:=D
 exact ⟨f,fd,r,ez.no h⟩
theorem nB {F:Nat->Sp} (h0:Ce R P w K mg base (k+0) ps (F 0)) (hs:∀ n,Ce R P w K mg base (k+n) ps (F n)->Ce R P w K mg base (k+n+1) ps (F (n+1))):∀ n,Ce R P w K mg base (k+n) ps (F n)
 | 0=>h0
 | n+1=>hs n (nB h0 hs n)
noncomputable def An (K:Frag) (x:Str) (st:Stmt) (dV:Value):Prop:=∃ (f:Addr) (oc:Value) (od:Option Addr) (kV dc pm:Value) (an:Option Addr) (cd ct:Value) (sl:Array (Option Value)),
 PySem.W.nsIn K mainGlobals x=some (some (.ref f))/\K.lookup f=some ⟨oc,od,.func (PySem.W.fnOf x x (dt st) (cP st) (bn st) dV kV dc pm an cd ct),sl⟩/\PySem.W.codeIn K cd x=true/\PySem.W.keepIn K (.ref f)=true
theorem An.dn {h:Heap} (X:K.In h) (G:h.Ns mainGlobals mg) (z:An K x st .none) (hb:∀ (kV dc pm:Value) (an:Option Addr) (cd ct:Value) (us:List Value),us.length=ps.length->bindArgs (PySem.W.fnOf x x (dt st) (cP st) (bn st) .none kV dc pm an cd ct) ⟨us,[]⟩=pure (ps.zip us)):
 zQ (Eb K mg x ps []) K x x st:=by
 obtain ⟨f,oc,od,kV,dc,pm,an,cd,ct,sl,m,l,c,kp⟩:=z
 have b:fq K _ ps []:=(tL l c kp).binds hb
 exact ⟨f,_,jW l c kp,PySem.W.mg_of X G m,kp,b,b⟩
end
section
variable {K:Frag} {cl:Str->Addr} {E:XK}
noncomputable def Ey:List W->Option (List W)
 | [.list a,.list b]=>some (m8 a b)
 | _=>none
noncomputable def uT (f:DS->ag->SM (List W)):DS->ag->SM (List W):=λ δ S=>ao (f δ S) λ ds S1=>hZ (Ey ds) S1
theorem Cj {t:TA} {f:DS->ag->SM (List W)} (h:SA K cl E t f):GK K cl E (Ca K t) (uT f):=λ ρ G σ H δ S r S' R' R e q qx=>
 kR h R e (λ es S1 e1 vs ρ1 G1 H1 g1 s1 da=>by
  obtain ⟨ds,e2,rfl,rfl⟩:=br e1
  unfold Ey at e2
  split at e2
  . cases e2
    obtain ⟨v,u,rfl,dv,du⟩:=zv da
    cases dv with
    | lst sq dA=>
     cases du with
     | lst sq2 db=>exact ⟨_,_,rfl,⟨_,g1.s.seq sq⟩,⟨_,g1.s.seq sq2⟩,q _ rfl _ ρ1 G1 H1 g1 s1 λ i G2 H2 a b=>zg b ((a.trans b).seq sq) (dA.same a) ((a.trans b).seq sq2) (db.same a)⟩
  . cases e2) qx
theorem EK {R:Addr->FuncData->Prop} {P:Program} {w:World} {mg:Str->Option Value} {base:Heap} {k:Nat} {ps:List Str} {x q:Str} {st:Stmt} {g:List W->ag->SM W} (D:zQ R K x q st) (h:∀ ds S,g ds S=none):Ce R P w K mg base k ps (kT K cl g):=by
 obtain ⟨f,fd,_,r⟩:=D
 exact ⟨f,fd,r,ez.no0 h⟩
end
end L2
set_option Elab.async false
set_option linter.all false
set_option maxRecDepth 100000
namespace My
open PySem PySem.Spec PyProof.Rows L2
open PySem.W (Frag)
local macro_rules | `(tactic| omega) => `(tactic| first | lia | omega +splitNatSub)
local macro_rules | `(tactic| simp! [$a,*] $[$l]?)=>`(tactic| simp only [Nat.reduceAdd,Nat.reduceSub,reduceIte,Nat.reduceEqDiff,List.replicate,$a,*] $[$l]?)
noncomputable def iR (i:Nat):Stmt:=PySem.Challenge.pw_widelanes_k12_marks_are_closed.main.body.getD i (.Pass ⟨0,0,0,0⟩)
noncomputable abbrev lh:Stmt:=iR 1
noncomputable abbrev nW:Stmt:=iR 2
noncomputable abbrev mZ:Stmt:=iR 3
noncomputable abbrev lA:Stmt:=iR 6
noncomputable abbrev cz:Stmt:=vS (iR 8) 0
noncomputable abbrev eJ:Stmt:=vS (iR 8) 1
noncomputable abbrev sI:Stmt:=iR 11
noncomputable abbrev lc:Stmt:=iR 12
noncomputable abbrev nA:Stmt:=iR 13
noncomputable abbrev iD:Stmt:=iR 14
noncomputable abbrev lD:Stmt:=iR 15
noncomputable abbrev mU:Stmt:=iR 10
noncomputable abbrev vX:Stmt:=iR 9
noncomputable abbrev iF:Stmt:=iR 17
noncomputable abbrev jk:Stmt:=iR 18
noncomputable abbrev jL:Stmt:=iR 19
noncomputable abbrev lF:Stmt:=iR 20
noncomputable abbrev ji:Stmt:=iR 21
noncomputable abbrev fR:Stmt:=iR 22
noncomputable abbrev lL:Stmt:=iR 23
noncomputable abbrev pz:Stmt:=iR 24
noncomputable abbrev fZ:Stmt:=iR 25
noncomputable abbrev gD:Stmt:=iR 26
noncomputable abbrev lr:Stmt:=iR 27
noncomputable abbrev jU:Stmt:=iR 28
noncomputable abbrev gf:Stmt:=iR 29
noncomputable abbrev iu:Stmt:=iR 30
noncomputable abbrev kG:Stmt:=iR 31
noncomputable abbrev jn:Stmt:=iR 32
noncomputable abbrev fQ:Stmt:=iR 33
noncomputable abbrev jP:Stmt:=iR 34
noncomputable abbrev fz:Stmt:=iR 35
noncomputable abbrev jd:Stmt:=iR 36
noncomputable abbrev sA:Stmt:=iR 37
noncomputable def mT (c_Links:Addr):Str->Addr:=λ s=>if s = "Links" then c_Links else 0
theorem g7 (c_Links:Addr):mT c_Links "Links" = c_Links:=by
 unfold mT
 rw [if_pos rfl]
noncomputable def ip:List W->Option W:=bV 1 1
 (az (bP (ay b8 (av aP (au 0) (dC (.int (0)))) (dC (.str "while")))
  (aT (ba (bm (aa (av aP (au 0) (dC (.int (3)))) af))))
  aw)
 (az (bP (ay b8 (av aP (au 0) (dC (.int (0)))) (dC (.str "if")))
  (aT (ba (gg [none] (bz (kH (ac 0) (dD (dC (.int (3)))) cQ)) (ae 0) (ay eZ (au 0) (dC .none)) (ac 0))))
  aw)
 (aT (ba (bm af)))))
noncomputable def gL (pf:List W->Option W):DS->Option cY:=(gE 3 (aU pf (aa (ac 5) (aa (av va (au 2) (aG (aa (ac 4) af))) af))))
noncomputable def dz (pf:List W->Option W):DS->Option cY:=(az (b7 3 (aG (aa (ac 4) (aa (ac 2) af))))
 (gc (bz (aU ip (aa (ac 4) af))) (ae 5) (gL pf)))
noncomputable def b9:Nat->List W->Option W
 | 0,_=>none
 | n+1,ds=>bV 2 6
  (az (aD (AY (ay ox (au 1) (dC .none)) (aG af) (ac 1)) (ae 2))
  (az (fH 3 (bm af))
  (az (gc (bz (ac 0)) (ae 4) (dz (b9 n)))
  (iJ 3 (aT (ac 3)))))) ds
noncomputable def j5:List W->Option W:=bV 1 1
 (aT (AY (ay lQ (av aP (au 0) (dC (.int (0)))) (aG (aa (dC (.str "set")) (aa (dC (.str "call")) (aa (dC (.str "join")) af))))) (av aP (au 0) (dC (.int (2)))) (dC .none)))
noncomputable def cM (pf:List W->Option W):DS->Option cY:=(gE 1 (aU pf (aa (ac 2) af)))
noncomputable def bu:Nat->List W->Option W
 | 0,_=>none
 | n+1,ds=>bV 1 3
  (az (bP (ja (ay qP (av aP (au 0) (dC (.int (0)))) (dC (.str "box"))) (ay iE (av aP (au 0) (dC (.int (0)))) (dC (.tuple [.str "+", .str "-", .str "*", .str "div", .str "rem", .str "<", .str "="]))))
   (aT (ba (bm (aa (ac 0) af))))
   aw)
  (az (fH 1 (bm af))
  (az (gc (bz (kH (ac 0) (dD (dC (.int (1)))) cQ)) (ae 2) (cM (bu n)))
  (iJ 1 (aT (ac 1)))))) ds
noncomputable def dS:List W->ag->SM W:=cB 1 1
 (vY "Links" "behind" (ab (ac 0)) Ke)
noncomputable def fW:DS->ag->SO:=(cJ (pY (nu "Links" "behind" (ab (ac 0))) (ab (ac 4)) (dE (ab af))) (ab (aG (aa (ac 2) (aa (ac 3) af)))))
noncomputable def aQ:List W->ag->SM W:=cB 4 5
 (eY (ab (bz (ac 1))) (ae 4) fW)
noncomputable def nF:List W->Option W:=bV 2 2
 (aT (av bQ (ba (bm (aa (aG (aa (dC (.str "def")) (aa (ac 0) af))) af))) (ba (gg [none] (bz (au 1)) (ae 0) gR (aG (aa (dC (.str "row")) (aa (av aP (au 0) (dC (.int (1)))) af)))))))
noncomputable def bG:List W->Option W:=bV 2 4
 (az (aD (aU (bu 9) (aa (ac 1) af)) (ae 2))
 (az (aD (ba (gg [some 0,none] (bz (au 2)) (ae 1) (ay b8 (av aP (au 1) (dC (.int (0)))) (dC (.str "name"))) (aG (aa (dC (.str "name")) (aa (ac 0) (aa (av aP (au 1) (dC (.int (1)))) af)))))) (ae 3))
 (aT (AY (lS (ay ou (aG (aa (dC (.str "lane")) af)) (au 2)) (ay ou (aG (aa (dC (.str "mine")) af)) (au 2))) (ba (bm (aa (dC .none) af))) (ac 3)))))
noncomputable def jv:List W->ag->SM W:=cB 4 8
 (aC (aq (aD (aU nF (aa (ac 1) (aa (ac 3) af))) (ae 4)))
 (aC (aq (aD (av aP (au 2) (dC (.int (1)))) (ae 5)))
 (aC (aq (aD (aU j5 (aa (ac 2) af)) (ae 6)))
 (aC (bX (ab (ay eZ (au 6) (dC .none)))
  (b5 (cH "Links" "add" aQ (ab (ac 0)) (ab (aa (ac 4) (aa (aG (aa (dC (.str "name")) (aa (ac 1) (aa (ac 6) af)))) (aa (ac 5) af))))))
  (aq aw))
 (aC (bX (ab (ay lQ (av aP (au 2) (dC (.int (0)))) (aG (aa (dC (.str "break")) (aa (dC (.str "again")) af)))))
  (aC (aq (aD (ba (gg [none] (bz (au 3)) (ae 0) (ay b8 (av aP (au 0) (dC (.int (0)))) (dC (.str "while"))) (av aP (au 0) (dC (.int (1)))))) (ae 7)))
 (b5 (cH "Links" "add" aQ (ab (ac 0)) (ab (aa (ac 4) (aa (aG (aa (dC (.str "row")) (aa (av aP (au 7) (AG lU (dC (.int (1))))) af))) (aa (ac 5) af)))))))
  (aq aw))
 (aC (bX (ab (ay b8 (av aP (au 2) (dC (.int (0)))) (dC (.str "return"))))
  (b5 (cH "Links" "add" aQ (ab (ac 0)) (ab (aa (ac 4) (aa (aG (aa (dC (.str "def")) (aa (ac 1) af))) (aa (ac 5) af))))))
  (aq aw))
 (bX (ab (ay b8 (av aP (au 2) (dC (.int (0)))) (dC (.str "call"))))
  (b5 (cH "Links" "add" aQ (ab (ac 0)) (ab (aa (ac 4) (aa (aG (aa (dC (.str "def")) (aa (av aP (au 2) (dC (.int (3)))) af))) (aa (ac 5) af))))))
  (aq aw))))))))
noncomputable def f6:List W->ag->SM W:=cB 3 5
 (aC (aq (aD (av aP (au 2) (dC (.int (0)))) (ae 3)))
 (aC (aq (aD (av aP (au 2) (dC (.int (1)))) (ae 4)))
 (aC (bX (ab (ay lQ (au 3) (aG (aa (dC (.str "if")) (aa (dC (.str "while")) af)))))
  (b5 (cH "Links" "add" aQ (ab (ac 0)) (ab (aa (aU bG (aa (ac 1) (aa (av aP (au 2) (dC (.int (2)))) af))) (aa (aG (aa (dC (.str "row")) (aa (ac 4) af))) (aa (ac 4) af))))))
  (aq aw))
 (aC (bX (ab (ay b8 (au 3) (dC (.str "return"))))
  (b5 (cH "Links" "add" aQ (ab (ac 0)) (ab (aa (aU bG (aa (ac 1) (aa (av aP (au 2) (dC (.int (2)))) af))) (aa (aG (aa (dC (.str "back")) (aa (ac 1) af))) (aa (ac 4) af))))))
  (aq aw))
 (aC (bX (ab (ay b8 (au 3) (dC (.str "set"))))
  (b5 (cH "Links" "add" aQ (ab (ac 0)) (ab (aa (aU bG (aa (ac 1) (aa (av aP (au 2) (dC (.int (3)))) af))) (aa (aG (aa (dC (.str "name")) (aa (ac 1) (aa (av aP (au 2) (dC (.int (2)))) af)))) (aa (ac 4) af))))))
  (aq aw))
 (bX (ab (ja (ay b8 (au 3) (dC (.str "join"))) (ay b8 (av aP (au 2) (dC (.int (3)))) (dC (.str "ahead")))))
  (b5 (cH "Links" "add" aQ (ab (ac 0)) (ab (aa (ba (bm (aa (dC .none) af))) (aa (aG (aa (dC (.str "name")) (aa (ac 1) (aa (av aP (au 2) (dC (.int (2)))) af)))) (aa (ac 4) af))))))
  (aq aw)))))))
noncomputable def jc:DS->ag->SO:=(b5 (cH "Links" "add" aQ (ab (ac 0)) (ab (aa (aU bG (aa (ac 1) (aa (ac 7) af))) (aa (aG (aa (dC (.str "name")) (aa (ac 5) (aa (ac 6) af)))) (aa (ac 4) af))))))
noncomputable def fS:List W->ag->SM W:=cB 4 8
 (aC (aq (aD (av aP (au 2) (dC (.int (1)))) (ae 4)))
 (aC (aq (aD (av aP (au 2) (dC (.int (3)))) (ae 5)))
 (aC (b5 (cH "Links" "add" aQ (ab (ac 0)) (ab (aa (ba (bm (aa (aG (aa (dC (.str "back")) (aa (ac 5) af))) af))) (aa (aG (aa (dC (.str "name")) (aa (ac 1) (aa (av aP (au 2) (dC (.int (2)))) af)))) (aa (ac 4) af))))))
 (eY (ab (CA (aa (ac 3) (aa (av aP (au 2) (dC (.int (4)))) af)))) (bI 2 (aA (ae 6) (aA (ae 7) bL))) jc))))
noncomputable def gQ:DS->ag->SO:=(jB (ab (ac 2)) (ab (ac 3)) (ab (ac 4)))
noncomputable def jH:DS->ag->SO:=(aC (b5 (bY jv (ab (aa (ac 1) (aa (ac 3) (aa (ac 8) (aa (ac 9) af)))))))
 (aC (b5 (bY f6 (ab (aa (ac 1) (aa (ac 3) (aa (ac 8) af))))))
 (bX (ab (ay b8 (av aP (au 8) (dC (.int (0)))) (dC (.str "call"))))
  (b5 (bY fS (bU (ab (ac 1)) (bU (ab (ac 3)) (bU (ab (ac 8)) (bU (kt (ab (ac 2)) (ab (av aP (au 8) (dC (.int (3)))))) kU))))))
  (aq aw))))
noncomputable def ku:DS->ag->SO:=(aC (b5 (cH "Links" "add" aQ (ab (ac 1)) (ab (aa (ba (bm (aa (aG (aa (dC (.str "def")) (aa (ac 3) af))) af))) (aa (aG (aa (dC (.str "back")) (aa (ac 3) af))) (aa (ac 6) af))))))
 (eY (ab (bz (tf (b9 8) (aa (ac 5) af)))) (bI 2 (aA (ae 8) (aA (ae 9) bL))) jH))
noncomputable def jE:List W->ag->SM W:=cB 1 10
 (aC (cG (wm "Links" dS (ab af)) (ae 1))
 (aC (cG KE (ae 2))
 (aC (eY (ab (bz (ac 0))) (bI 5 (aA (ae 3) (aA (ae 4) (aA (ae 5) (aA (ae 6) (aA (ae 7) bL)))))) gQ)
 (aC (eY (ab (bz (ac 0))) (bI 5 (aA (ae 3) (aA (ae 4) (aA (ae 5) (aA (ae 6) (aA (ae 7) bL)))))) ku)
 (aq (aT (ac 1)))))))
noncomputable def iN:DS->ag->SO:=(bX (ig true (ab (ac 5)) (ab (ac 2)))
 (aC (jB (ab (ac 2)) (ab (ac 5)) (ab (aG (aa (ac 6) (aa (ac 4) af)))))
 (cJ (ab (ac 3)) (ab (ac 5))))
  (aq aw))
noncomputable def kM:DS->ag->SO:=(aC (cG (yH (ab (ac 3))) (ae 4))
 (tJ 9000 (iw (n4 (nu "Links" "behind" (ab (ac 1))) (ab (ac 4)) (dE (ab af)))) (bI 2 (aA (ae 5) (aA (ae 6) bL))) iN))
noncomputable def qN:List W->ag->SM W:=cB 1 7
 (aC (cG (bY jE (ab (aa (ac 0) af))) (ae 1))
 (aC (cG Mh (ae 2))
 (aC (cG (dE (ab (aa (dC .none) af))) (ae 3))
 (aC (cW (r9 (ab (ac 3))) kM 1000000)
 (aq (aT (ac 2)))))))
noncomputable def bS:List W->Option W:=bV 2 2
 (az (bP (ay rF (au 1) (AE jQ (au 0)))
  (aT (av aP (au 0) (ac 1)))
  aw)
 (aT (dC (.int (0)))))
noncomputable def bD:List W->Option W:=bV 2 4
 (az (aD (av bQ (av km (dC (.int (10))) (dC (.int (30)))) (dC (.int (57)))) (ae 2))
 (az (aD (av kf (av bE (au 0) (ac 2)) (dC (.int (271828182845904523536028747135)))) (ae 3))
 (az (aD (av bQ (au 3) (av kf (av kf (au 1) (ac 1)) (dC (.int (314159265358979323846264338327))))) (ae 3))
 (aT (av bE (av bQ (au 3) (dC (.int (577215664901532860606512090082)))) (ac 2))))))
noncomputable def fF:DS->Option cY:=(az (aD (av bQ (au 6) (av aP (au 1) (av bE (au 5) (dC (.int (26)))))) (ae 6))
 (aD (av cj (au 5) (dC (.int (26)))) (ae 5)))
noncomputable def fu:DS->Option cY:=(az (aD (av aP (au 1) (av bE (av bQ (au 5) (av kf (dC (.int (5))) (ac 7))) (dC (.int (26))))) (ae 9))
 (az (aD (av bQ (av bQ (pK (ac 6) cQ (dD (ac 4))) (ac 9)) (pK (ac 6) (dD (av bQ (au 4) (dC (.int (1))))) (dD (ac 3)))) (ae 10))
 (az (bP (ay b8 (av bE (av cj (au 5) (dC (.int (26)))) (dC (.int (4)))) (dC (.int (1))))
  (aD (pK (ac 6) cQ (dD (av gSub' (dC (.int (8))) (ac 7)))) (ae 10))
  aw)
 (az (bP (lS (ay lQ (au 10) (au 2)) (ay b8 (au 10) (dC (.str "main"))))
  (aD (av rQ (dC (.str "q")) (AE jQ (au 10))) (ae 10))
  aw)
 (b7 8 (ac 10))))))
noncomputable def gT:List W->Option W:=bV 1 11
 (az (aD (dC (.str "abcdefghijklmnopqrstuvwxyz")) (ae 1))
 (az (aD (ba (bm (aa (dC (.str "def")) (aa (dC (.str "set")) (aa (dC (.str "put")) (aa (dC (.str "tell")) (aa (dC (.str "if")) (aa (dC (.str "else")) (aa (dC (.str "while")) (aa (dC (.str "end")) (aa (dC (.str "break")) (aa (dC (.str "again")) (aa (dC (.str "call")) (aa (dC (.str "return")) af)))))))))))))) (ae 2))
 (az (aD (av bQ (au 2) (ba (bm (aa (dC (.str "stop")) (aa (dC (.str "join")) (aa (dC (.str "meet")) (aa (dC (.str "lane")) (aa (dC (.str "lanes")) (aa (dC (.str "mine")) (aa (dC (.str "box")) (aa (dC (.str "div")) (aa (dC (.str "rem")) (aa (dC (.str "sum")) (aa (dC (.str "most")) af)))))))))))))) (ae 2))
 (az (aD (av bQ (au 2) (ba (bm (aa (dC (.str "least")) (aa (dC (.str "ahead")) af))))) (ae 2))
 (az (aD (av bQ (dC (.int (1))) (av bE (au 0) (dC (.int (8))))) (ae 3))
 (az (aD (av bE (av cj (au 0) (dC (.int (8)))) (ac 3)) (ae 4))
 (az (aD (av cj (au 0) (dC (.int (64)))) (ae 5))
 (az (aD (dC (.str "")) (ae 6))
 (az (gc (je (aa (dC (.int (8))) af)) (ae 7) fF)
 (az (fH 8 (bm af))
 (az (gc (je (aa (dC (.int (6))) af)) (ae 7) fu)
 (iJ 8 (aT (ac 8))))))))))))))
noncomputable def ck:List W->Option W:=bV 3 5
 (az (aD (av bE (au 0) (dC (.int (24)))) (ae 3))
 (az (aD (av cj (au 0) (dC (.int (24)))) (ae 4))
 (az (bP (ay Kc (au 3) (av gSub' (dC (.int (24))) (ac 2)))
  (aT (aG (aa (av aP (ba (bm (aa (aG (aa (dC (.str "lane")) af)) (aa (aG (aa (dC (.str "mine")) af)) af)))) (av bE (au 4) (dC (.int (2))))) (aa (av cj (au 4) (dC (.int (2)))) af))))
  aw)
 (az (bP (ay rF (au 3) (dC (.int (11))))
  (aT (aG (aa (aG (aa (dC (.str "name")) (aa (av aP (au 1) (av bE (au 4) (dC (.int (6))))) af))) (aa (av cj (au 4) (dC (.int (6)))) af))))
  aw)
 (az (bP (ay b8 (au 3) (dC (.int (11))))
  (aT (aG (aa (aG (aa (dC (.str "lanes")) af)) (aa (ac 4) af))))
  aw)
 (aT (aG (aa (aG (aa (dC (.str "num")) (aa (av gSub' (av bE (au 4) (dC (.int (1999999999)))) (dC (.int (999999999)))) af))) (aa (av cj (au 4) (dC (.int (199)))) af)))))))))
noncomputable def eg:List W->Option W:=bV 3 6
 (az (aD (aU ck (aa (av cj (au 0) (dC (.int (5)))) (aa (ac 1) (aa (ac 2) af)))) (bI 2 (aA (ae 3) (aA (ae 4) bL))))
 (az (bP (ay b8 (av bE (au 0) (dC (.int (5)))) (dC (.int (1))))
  (aT (aG (aa (aG (aa (dC (.str "box")) (aa (ac 3) af))) (aa (ac 4) af))))
  aw)
 (az (bP (ay b8 (av bE (au 0) (dC (.int (5)))) (dC (.int (2))))
  (az (aD (aU ck (aa (ac 4) (aa (ac 1) (aa (ac 2) af)))) (bI 2 (aA (ae 5) (aA (ae 4) bL))))
 (aT (aG (aa (aG (aa (av aP (ba (bm (aa (dC (.str "+")) (aa (dC (.str "*")) (aa (dC (.str "<")) af))))) (av bE (au 4) (dC (.int (3))))) (aa (ac 3) (aa (ac 5) af)))) (aa (av cj (au 4) (dC (.int (3)))) af)))))
  aw)
 (aT (aG (aa (ac 3) (aa (ac 4) af)))))))
noncomputable def cq:DS->Option cY:=(az (bP (ay rF (au 5) (av km (dC (.int (10))) (dC (.int (11)))))
 (aD (aU bD (aa (av bQ (au 0) (ac 6)) (aa (av bQ (au 6) (dC (.int (5)))) af))) (ae 5))
 aw)
 (az (aD (av bE (au 5) (dC (.int (4)))) (ae 7))
 (az (aD (av cj (au 5) (dC (.int (4)))) (ae 5))
 (az (bP (ay b8 (au 7) (dC (.int (0))))
  (az (aD (aG (aa (dC (.str "box")) (aa (ac 4) af))) (ae 4))
 jr)
  aw)
 (az (bP (ja (ay b8 (au 3) (dC (.int (6)))) (ay b8 (au 6) (dC (.int (0)))))
  (aD (aU ck (aa (ac 5) (aa (ac 1) (aa (ac 2) af)))) (bI 2 (aA (ae 8) (aA (ae 5) bL))))
  (aD (aU eg (aa (ac 5) (aa (ac 1) (aa (ac 2) af)))) (bI 2 (aA (ae 8) (aA (ae 5) bL)))))
 (az (aD (av aP (ba (bm (aa (dC (.str "+")) (aa (dC (.str "-")) (aa (dC (.str "*")) (aa (dC (.str "div")) (aa (dC (.str "rem")) (aa (dC (.str "<")) (aa (dC (.str "=")) af))))))))) (av bE (au 5) (dC (.int (7))))) (ae 9))
 (az (aD (av cj (au 5) (dC (.int (7)))) (ae 5))
 (bP (ay b8 (au 7) (dC (.int (1))))
  (aD (aG (aa (ac 9) (aa (ac 4) (aa (ac 8) af)))) (ae 4))
  (aD (aG (aa (ac 9) (aa (ac 8) (aa (ac 4) af)))) (ae 4))))))))))
noncomputable def aY:List W->Option W:=bV 3 10
 (az (aD (av aP (ba (bm (aa (dC (.int (0))) (aa (dC (.int (0))) (aa (dC (.int (0))) (aa (dC (.int (1))) (aa (dC (.int (1))) (aa (dC (.int (2))) (aa (dC (.int (6))) af))))))))) (av bE (au 0) (dC (.int (7))))) (ae 3))
 (az (aD (aU ck (aa (av cj (au 0) (dC (.int (7)))) (aa (ac 1) (aa (ac 2) af)))) (bI 2 (aA (ae 4) (aA (ae 5) bL))))
 (az (gc (je (aa (ac 3) af)) (ae 6) cq)
 (aT (ac 4)))))
noncomputable def jj:DS->Option cY:=(az (b7 8 (aU aY (aa (av bQ (av kf (av bE (au 0) (dC (.int (1000)))) (dC (.int (7)))) (av bE (av cj (au 0) (dC (.int (1000)))) (dC (.int (5))))) (aa (ac 2) (aa (ac 4) af)))))
 (aD (av cj (au 0) (av km (dC (.int (10))) (dC (.int (4))))) (ae 0)))
noncomputable def io:List W->Option W:=bV 5 10
 (az (aD (ba (gg [none] (bz (au 3)) (ae 0) (ay qP (av aP (au 0) (dC (.int (0)))) (dC (.str "main"))) (ac 0))) (ae 5))
 (az (bP (ay b8 (au 5) (ba (bm af)))
  (aT (aG (aa (dC (.str "tell")) (aa (aU aY (aa (ac 0) (aa (ac 2) (aa (ac 4) af)))) af))))
  aw)
 (az (aD (av aP (au 5) (av bE (au 0) (AE jQ (au 5)))) (bI 2 (aA (ae 6) (aA (ae 7) bL))))
 (az (aD (av cj (au 0) (dC (.int (3)))) (ae 0))
 (az (fH 8 (bm af))
 (az (gc (je (aa (AE jQ (au 7)) af)) (ae 9) jj)
 (iJ 8 (aT (aG (aa (dC (.str "call")) (aa (ac 1) (aa (ac 6) (aa (ac 8) af)))))))))))))
noncomputable def kI:List W->Option W:=bV 5 8
 (az (aD (av bE (au 0) (dC (.int (24)))) (ae 5))
 (az (aD (av aP (au 1) (av bE (av cj (au 0) (dC (.int (24)))) (dC (.int (6))))) (ae 6))
 (az (aD (av cj (au 0) (dC (.int (144)))) (ae 7))
 (az (bP (ay rF (au 5) (dC (.int (5))))
  (aT (aG (aa (dC (.str "set")) (aa (ac 6) (aa (aU aY (aa (ac 7) (aa (ac 1) (aa (ac 3) af)))) af)))))
  aw)
 (az (bP (ay rF (au 5) (dC (.int (9))))
  (aT (aG (aa (av aP (ba (bm (aa (dC (.str "if")) (aa (dC (.str "if")) (aa (dC (.str "while")) (aa (dC (.str "while")) af)))))) (av gSub' (au 5) (dC (.int (5))))) (aa (aU aY (aa (ac 7) (aa (ac 1) (aa (ac 3) af)))) af))))
  aw)
 (az (bP (ay rF (au 5) (dC (.int (13))))
  (aT (aG (aa (av aP (ba (bm (aa (dC (.str "end")) (aa (dC (.str "end")) (aa (dC (.str "end")) (aa (dC (.str "else")) af)))))) (av gSub' (au 5) (dC (.int (9))))) af)))
  aw)
 (az (bP (ay rF (au 5) (dC (.int (17))))
  (aT (aG (aa (av aP (ba (bm (aa (dC (.str "break")) (aa (dC (.str "again")) (aa (dC (.str "meet")) (aa (dC (.str "stop")) af)))))) (av gSub' (au 5) (dC (.int (13))))) af)))
  aw)
 (az (bP (ay rF (au 5) (dC (.int (19))))
  (aT (aG (aa (av aP (ba (bm (aa (dC (.str "tell")) (aa (dC (.str "return")) af)))) (av gSub' (au 5) (dC (.int (17))))) (aa (aU aY (aa (ac 7) (aa (ac 1) (aa (ac 3) af)))) af))))
  aw)
 (az (bP (ay b8 (au 5) (dC (.int (19))))
  (az (aD (aU aY (aa (av cj (au 7) (av km (dC (.int (10))) (dC (.int (12))))) (aa (ac 1) (aa (ac 3) af)))) (ae 0))
 (aT (aG (aa (dC (.str "put")) (aa (aU aY (aa (av bE (au 7) (av km (dC (.int (10))) (dC (.int (12))))) (aa (ac 1) (aa (ac 3) af)))) (aa (ac 0) af))))))
  aw)
 (az (bP (ay b8 (au 5) (dC (.int (20))))
  (aT (aG (aa (dC (.str "join")) (aa (ac 6) (aa (av aP (au 4) (av bE (au 7) (AE jQ (au 4)))) (aa (aU aY (aa (av cj (au 7) (dC (.int (4)))) (aa (ac 1) (aa (ac 3) af)))) af))))))
  aw)
 (aT (aU io (aa (ac 7) (aa (ac 6) (aa (ac 1) (aa (ac 2) (aa (ac 3) af)))))))))))))))))
noncomputable def dU:List W->ag->SM W:=cB 1 1
 (aC (bX (B7 false (sIx (ab (ac 0)) (ab (dC (.int (0))))) (ab (dC (.str "if"))))
  (fL (xp (bU (ab (dC (.str "if"))) (bU (sIx (ab (ac 0)) (ab (dC (.int (1))))) (bU (sIx (ab (ac 0)) (ab (dC (.int (2))))) (bU (sIx (ab (ac 0)) (ab (dC (.int (4))))) (bU (sIx (ab (ac 0)) (ab (dC (.int (5))))) kU)))))))
  (aq aw))
 (fL (xp (bU (ab (dC (.str "while"))) (bU (sIx (ab (ac 0)) (ab (dC (.int (1))))) (bU (sIx (ab (ac 0)) (ab (dC (.int (2))))) (bU (sIx (ab (ac 0)) (ab (dC (.int (4))))) kU)))))))
noncomputable def bA:List W->ag->SM W:=cB 3 3
 (aC (bX (ab (lS (ay b8 (av aP (au 0) (dC (.int (0)))) (dC (.str "break"))) (ay b8 (av aP (au 0) (dC (.int (0)))) (dC (.str "again")))))
  (fL (D1 uA (nI 9000 [none] (iw (ab (ac 1))) (ae 0) (ab gR) (sB (B7 false (sIx (ab (ac 0)) (ab (dC (.int (0))))) (ab (dC (.str "while"))))))))
  (aq aw))
 (aC (bX (ab (ay b8 (av aP (au 0) (dC (.int (0)))) (dC (.str "else"))))
  (fL (i6 (rP true (ab (ac 1)) (ab (ba (bm af)))) (i6 (sB (B7 false (sIx (sIx (ab (ac 1)) (ab (AG lU (dC (.int (1)))))) (ab (dC (.int (0))))) (ab (dC (.str "if"))))) (sB (tm ox (sIx (sIx (ab (ac 1)) (ab (AG lU (dC (.int (1)))))) (ab (dC (.int (5))))) (ab (dC .none)))))))
  (aq aw))
 (aC (bX (ab (ay b8 (av aP (au 0) (dC (.int (0)))) (dC (.str "end"))))
  (fL (rP true (ab (ac 1)) (ab (ba (bm af)))))
  (aq aw))
 (aC (bX (ab (lS (ay b8 (av aP (au 0) (dC (.int (0)))) (dC (.str "if"))) (ay b8 (av aP (au 0) (dC (.int (0)))) (dC (.str "while")))))
  (fL (sB (tm rF (CI (ab (ac 1))) (ab (dC (.int (5)))))))
  (aq aw))
 (aq (aT (C3 (dB (ay qP (av aP (au 0) (dC (.int (0)))) (dC (.str "return")))) (wC (ac 2)))))))))
noncomputable def cK:DS->ag->SO:=(aC (bX (pA (iB (bY bA (ab (aa (ac 6) (aa (ac 5) (aa (ac 2) af)))))))
 (aq jr)
 (aq aw))
 (aC (aq (aD (av bQ (au 1) (dC (.int (1)))) (ae 1)))
 (bX (ab (ay b8 (av aP (au 6) (dC (.int (0)))) (dC (.str "end"))))
  (aC (cG (yH (ab (ac 5))) (ae 7))
 (aC (cG (sIx (ab (ac 7)) (ab (dC (.int (3))))) (ae 4))
 (cJ (ab (ac 4)) (bY dU (ab (aa (ac 7) af))))))
  (bX (ab (ay b8 (av aP (au 6) (dC (.int (0)))) (dC (.str "else"))))
  (aC (cG (sIx (ab (ac 5)) (ab (AG lU (dC (.int (1)))))) (ae 7))
 (aC (qG (ab (ac 7)) (ab (dC (.int (5)))) (dE (ab af)))
 (cG (sIx (ab (ac 7)) (ab (dC (.int (5))))) (ae 4))))
  (bX (ab (lS (ay b8 (av aP (au 6) (dC (.int (0)))) (dC (.str "if"))) (ay b8 (av aP (au 6) (dC (.int (0)))) (dC (.str "while")))))
  (aC (cG (dE (bU (ab (av aP (au 6) (dC (.int (0))))) (bU (ab (ac 1)) (bU (ab (av aP (au 6) (dC (.int (1))))) (bU (ab (ac 4)) (bU (dE (ab af)) (bU (ab (dC .none)) kU))))))) (ae 7))
 (aC (cJ (ab (ac 5)) (ab (ac 7)))
 (cG (sIx (ab (ac 7)) (ab (dC (.int (4))))) (ae 4))))
  (cJ (ab (ac 4)) (ab (av bQ (aG (aa (av aP (au 6) (dC (.int (0)))) (aa (ac 1) af))) (kH (ac 6) (dD (dC (.int (1)))) cQ)))))))))
noncomputable def iL:List W->ag->SM W:=cB 3 8
 (aC (cG (dE (ab af)) (ae 3))
 (aC (aq (aD (ac 3) (ae 4)))
 (aC (cG (dE (ab af)) (ae 5))
 (aC (eY (oJ (vz (ab (ac 0)) (ab (ba (B1 (bm (aa (aG (aa (dC (.str "end")) af)) af)) (dC (.int (5)))))))) (ae 6) cK)
 (aq (aT (aG (aa (ac 3) (aa (av bQ (au 1) (dC (.int (1)))) af)))))))))
noncomputable def iM:DS->Option cY:=(az (aD (av cj (av cj (au 0) (dC (.int (64)))) (av aP (ba (bm (aa (dC (.int (1))) (aa (dC (.int (42))) (aa (dC (.int (1764))) (aa (dC (.int (74088))) af)))))) (ac 5))) (ae 6))
 (az (aD (av aP (ba (bm (aa (dC (.int (0))) (aa (dC (.int (0))) (aa (dC (.int (1))) (aa (dC (.int (1))) (aa (dC (.int (2))) (aa (dC (.int (3))) (aa (dC (.int (6))) af))))))))) (av bE (au 6) (dC (.int (7))))) (ae 7))
 (b7 4 (aG (aa (av aP (au 1) (ac 5)) (aa (ba (gg [some 2,some 6,none] (je (aa (ac 7) af)) (ae 2) gR (av aP (au 0) (av bE (av bQ (av cj (au 1) (dC (.int (7)))) (ac 2)) (dC (.int (6))))))) af))))))
noncomputable def gO:List W->Option W:=bV 3 8
 (az (aD (av bQ (dC (.int (1))) (av bE (au 0) (dC (.int (4))))) (ae 3))
 (az (fH 4 (bm af))
 (az (gc (je (aa (ac 3) af)) (ae 5) iM)
 (az (pH 4 (av bE (av cj (au 0) (dC (.int (4)))) (ac 3)) (aG (aa (dC (.str "main")) (aa (ba (bm af)) af))))
 (iJ 4 (aT (ac 4)))))))
noncomputable def c8:List W->Option W:=bV 2 2
 (az (bP (ay b8 (av bE (av cj (au 0) (av km (dC (.int (10))) (dC (.int (9))))) (dC (.int (4)))) (dC (.int (1))))
  (aT (av bQ (ba (BM (au 1) cQ (dD (dC (.int (5)))))) (ba (bm (aa (dC (.str "main")) af)))))
  aw)
 (aT (ba (gU (au 1)))))
noncomputable def gC:DS->ag->SO:=(aC (aq (aD (aU bD (aa (ac 10) (aa (av bQ (au 9) (dC (.int (2)))) af))) (ae 11)))
 (cJ (ab (av aP (au 8) (av bE (au 11) (AE jQ (au 7))))) (ab (aU kI (aa (av cj (au 11) (AE jQ (au 7))) (aa (ac 6) (aa (ac 7) (aa (ac 2) (aa (ac 3) af)))))))))
noncomputable def gh:DS->ag->SO:=(aC (cG (bY iL (ab (aa (av aP (au 8) (ac 9)) (aa (av bQ (au 13) (dC (.int (1)))) (aa (dB (ay b8 (av aP (au 14) (dC (.int (0)))) (dC (.str "main")))) af))))) (bI 2 (aA (ae 15) (aA (ae 16) bL))))
 (aC (cJ (ab (ac 12)) (ab (aG (aa (av aP (au 14) (dC (.int (0)))) (aa (ba (gU (av aP (au 14) (dC (.int (1)))))) (aa (ac 15) (aa (av bQ (au 13) (dC (.int (1)))) (aa (ac 16) af))))))))
 (aq (aD (ac 16) (ae 13)))))
noncomputable def fB:List W->ag->SM W:=cB 5 17
 (aC (aq (aD (aU bD (aa (aU bS (aa (ac 0) (aa (dC (.int (0))) af))) (aa (dC (.int (0))) af))) (ae 5)))
 (aC (aq (aD (aU c8 (aa (ac 5) (aa (ac 1) af))) (ae 6)))
 (aC (aq (aD (aU gO (aa (ac 5) (aa (ac 1) (aa (ac 6) af)))) (ae 7)))
 (aC (cG (oO [none] (ab (bz (ac 7))) (ae 0) (ab gR) (dE (ab af))) (ae 8))
 (aC (eY (ab (vR (aa (ba (BM (au 0) (dD (dC (.int (2)))) (dD (ac 4)))) af))) (bI 2 (aA (ae 9) (aA (ae 10) bL))) gC)
 (aC (cG (dE (ab af)) (ae 12))
 (aC (aq (aD (dC (.int (0))) (ae 13)))
 (aC (eY (ab (vR (aa (ac 7) af))) (bI 2 (aA (ae 9) (aA (ae 14) bL))) gh)
 (aq (aT (ac 12)))))))))))
noncomputable def fA:List W->Option W:=y9 fB
noncomputable def bF (pf:List W->Option W):DS->Option cY:=(az (b7 3 (aG (aa (ac 4) (aa (ac 1) (aa (ac 2) af)))))
 (az (bP (ay b8 (av aP (au 4) (dC (.int (0)))) (dC (.str "if")))
  (az (fH 3 (lw (au 3) (aU pf (aa (av aP (au 4) (dC (.int (3)))) (aa (av bQ (au 1) (ba (bm (aa (av aP (au 4) (dC (.int (1)))) af)))) (aa (ac 2) af))))))
 (bP (ay eZ (av aP (au 4) (dC (.int (4)))) (dC .none))
  (fH 3 (lw (au 3) (aU pf (aa (av aP (au 4) (dC (.int (4)))) (aa (av bQ (au 1) (ba (bm (aa (av aP (au 4) (dC (.int (1)))) af)))) (aa (ac 2) af))))))
  aw))
  aw)
 (bP (ay b8 (av aP (au 4) (dC (.int (0)))) (dC (.str "while")))
  (fH 3 (lw (au 3) (aU pf (aa (av aP (au 4) (dC (.int (3)))) (aa (av bQ (au 1) (ba (bm (aa (av aP (au 4) (dC (.int (1)))) af)))) (aa (av aP (au 4) (dC (.int (1)))) af))))))
  aw)))
noncomputable def aH:Nat->List W->Option W
 | 0,_=>none
 | n+1,ds=>bV 3 5
  (az (fH 3 (bm af))
  (az (gc (bz (ac 0)) (ae 4) (bF (aH n)))
  (iJ 3 (aT (ac 3))))) ds
noncomputable def aS:Nat->List W->ag->SM W
 | 0,_,_=>none
 | n+1,ds,S=>cB 3 3
  (aC (aq (bP (lS (ay b8 (av aP (au 2) (dC (.int (0)))) (dC (.str "lane"))) (ay b8 (av aP (au 2) (dC (.int (0)))) (dC (.str "mine"))))
   (aT (dC (.bool true)))
   aw))
  (aC (bX (ab (ay b8 (av aP (au 2) (dC (.int (0)))) (dC (.str "name"))))
   (fL (ls (ab (aG (aa (dC (.str "name")) (aa (ac 1) (aa (av aP (au 2) (dC (.int (1)))) af))))) (ab (ac 0))))
   (aq aw))
  (fL (i6 (ab (dB (ay qP (av aP (au 2) (dC (.int (0)))) (dC (.str "num"))))) (D1 uA (oO [some 0,some 1,none] (ab (bz (kH (ac 2) (dD (dC (.int (1)))) cQ))) (ae 2) (ab gR) (bY (aS n) (ab (aa (ac 0) (aa (ac 1) (aa (ac 2) af))))))))))) ds S
noncomputable def cg:List W->ag->SM W:=cB 3 3
 (fL (wP (ls (ab (aG (aa (dC (.str "def")) (aa (ac 1) af)))) (ab (ac 0))) (D1 uA (oO [some 0,none] (ab (bz (ac 2))) (ae 1) (ab gR) (ls (ab (aG (aa (dC (.str "row")) (aa (ac 1) af)))) (ab (ac 0)))))))
noncomputable def df:List W->Option W:=bV 1 3
 (az (aD (aU bD (aa (aU bS (aa (ac 0) (aa (dC (.int (0))) af))) (aa (dC (.int (77))) af))) (ae 1))
 (az (aD (aU gT (aa (aU bD (aa (aU bS (aa (ac 0) (aa (dC (.int (1))) af))) (aa (dC (.int (1))) af))) af)) (ae 2))
 (aT (aU fA (aa (ac 0) (aa (ac 2) (aa (av aP (ba (bm (aa (dC (.int (0))) (aa (dC (.int (1))) (aa (dC (.int (3))) (aa (dC (.int (12))) af)))))) (av bE (au 1) (dC (.int (4))))) (aa (ba (bm (aa (dC (.str "sum")) (aa (dC (.str "most")) (aa (dC (.str "least")) (aa (dC (.str "ahead")) af)))))) (aa (dC (.int (56))) af)))))))))
noncomputable def eF:DS->ag->SO:=(bX (iB (bY (aS 9) (ab (aa (ac 0) (aa (ac 2) (aa (ac 7) af))))))
 (aq (b7 5 (aG (aa (dC (.str "name")) (aa (av aP (au 3) (dC (.int (3)))) (aa (ac 6) af))))))
 (aq aw))
noncomputable def d7:List W->ag->SM W:=cB 5 8
 (aC (aq (fH 5 (bm af)))
 (aC (aq (bP (rq (ac 4))
  (b7 5 (aG (aa (dC (.str "def")) (aa (av aP (au 3) (dC (.int (3)))) af))))
  aw))
 (aC (bX (BP (ab (rq (ac 4))) (ig false (ab (aG (aa (dC (.str "back")) (aa (av aP (au 3) (dC (.int (3)))) af)))) (ab (ac 0))))
  (aq (b7 5 (aG (aa (dC (.str "name")) (aa (ac 2) (aa (av aP (au 3) (dC (.int (2)))) af))))))
  (aq aw))
 (aC (eY (uT (bU (kt (ab (ac 1)) (ab (av aP (au 3) (dC (.int (3)))))) (bU (ab (av aP (au 3) (dC (.int (4))))) kU))) (bI 2 (aA (ae 6) (aA (ae 7) bL))) eF)
 (aq (iJ 5 (aT (ac 5))))))))
noncomputable def dZ:List W->ag->SM W:=cB 4 9
 (aC (aq (aD (ac 3) (bI 3 (aA (ae 4) (aA (ae 5) (aA (ae 6) bL))))))
 (aC (cG (bY cg (ab (aa (ac 0) (aa (ac 2) (aa (ac 5) af))))) (ae 7))
 (aC (bX (k9 (ab (ay b8 (av aP (au 4) (dC (.int (0)))) (dC (.str "set")))) (BP (ab (rq (ac 7))) (iB (bY (aS 9) (ab (aa (ac 0) (aa (ac 2) (aa (av aP (au 4) (dC (.int (3)))) af))))))))
  (aq (aT (ba (bm (aa (aG (aa (dC (.str "name")) (aa (ac 2) (aa (av aP (au 4) (dC (.int (2)))) af)))) af)))))
  (aq aw))
 (aC (aq (bP (ja (ay b8 (av aP (au 4) (dC (.int (0)))) (dC (.str "join"))) (lS (rq (ac 7)) (ay b8 (av aP (au 4) (dC (.int (3)))) (dC (.str "ahead")))))
  (aT (ba (bm (aa (aG (aa (dC (.str "name")) (aa (ac 2) (aa (av aP (au 4) (dC (.int (2)))) af)))) af))))
  aw))
 (aC (bX (ab (ay b8 (av aP (au 4) (dC (.int (0)))) (dC (.str "call"))))
  (fL (bY d7 (ab (aa (ac 0) (aa (ac 1) (aa (ac 2) (aa (ac 4) (aa (ac 7) af))))))))
  (aq aw))
 (aC (bX (k9 (ab (lS (ay b8 (av aP (au 4) (dC (.int (0)))) (dC (.str "if"))) (ay b8 (av aP (au 4) (dC (.int (0)))) (dC (.str "while"))))) (iB (bY (aS 9) (ab (aa (ac 0) (aa (ac 2) (aa (av aP (au 4) (dC (.int (2)))) af)))))))
  (aq (aT (ba (bm (aa (aG (aa (dC (.str "row")) (aa (av aP (au 4) (dC (.int (1)))) af))) af)))))
  (aq aw))
 (aC (aq (bP (ja (lS (ay b8 (av aP (au 4) (dC (.int (0)))) (dC (.str "break"))) (ay b8 (av aP (au 4) (dC (.int (0)))) (dC (.str "again")))) (rq (ac 7)))
  (aT (ba (bm (aa (aG (aa (dC (.str "row")) (aa (ac 6) af))) af))))
  aw))
 (aC (aq (fH 8 (bm af)))
 (aC (aq (bP (ja (ay b8 (av aP (au 4) (dC (.int (0)))) (dC (.str "return"))) (rq (ac 7)))
  (b7 8 (aG (aa (dC (.str "def")) (aa (ac 2) af))))
  aw))
 (aC (bX (k9 (ab (ay b8 (av aP (au 4) (dC (.int (0)))) (dC (.str "return")))) (iB (bY (aS 9) (ab (aa (ac 0) (aa (ac 2) (aa (av aP (au 4) (dC (.int (2)))) af)))))))
  (aq (b7 8 (aG (aa (dC (.str "back")) (aa (ac 2) af)))))
  (aq aw))
 (aq (iJ 8 (aT (ac 8))))))))))))))
noncomputable def pU:DS->ag->SO:=(jB (ab (ac 3)) (ab (av aP (au 4) (dC (.int (0))))) (ab (av aP (au 4) (dC (.int (1))))))
noncomputable def vB:DS->ag->SO:=(bX (ig true (ab (ac 6)) (ab (ac 2)))
 (aq (aT (dC (.bool false))))
 (aq aw))
noncomputable def wb:DS->ag->SO:=(eY (oJ (bY dZ (ab (aa (ac 2) (aa (ac 3) (aa (av aP (au 4) (dC (.int (0)))) (aa (ac 5) af))))))) (ae 6) vB)
noncomputable def vQ:DS->ag->SO:=(aC (bX (k9 (ig false (ab (aG (aa (dC (.str "def")) (aa (av aP (au 4) (dC (.int (0)))) af)))) (ab (ac 2))) (ig true (ab (aG (aa (dC (.str "back")) (aa (av aP (au 4) (dC (.int (0)))) af)))) (ab (ac 2))))
 (aq (aT (dC (.bool false))))
 (aq aw))
 (eY (ab (bz (aU (aH 7) (aa (av aP (au 4) (dC (.int (2)))) (aa (ba (bm af)) (aa (dC .none) af)))))) (ae 5) wb))
noncomputable def w6:List W->ag->SM W:=cB 1 7
 (aC (aq (aD (aU df (aa (ac 0) af)) (ae 1)))
 (aC (cG (bY qN (ab (aa (ac 1) af))) (ae 2))
 (aC (bX (BP (pA (iB (y2 (ab (ac 2))))) (ab (ay qP (au 1) (aU df (aa (ac 0) af)))))
  (aq (aT (dC (.bool false))))
  (aq aw))
 (aC (cG KE (ae 3))
 (aC (eY (ab (bz (ac 1))) (ae 4) pU)
 (aC (eY (ab (bz (ac 1))) (ae 4) vQ)
 (aq (aT (dC (.bool true))))))))))
noncomputable def p8 (K:Frag):Sp:=λ vs H Q _=>∃ (a:Addr) (ns:List Int),vs=[.ref a]/\cC K H a (ns.map V.int)/\ns.length<=63/\∀ H',Q (.bl true) H'
section
variable (P:Program) (w:World) (K:Frag) (mg:Str->Option Value) (base:Heap) (cl:Str->Addr)
noncomputable abbrev lJ:Prop:=j1 P w K mg base "bodies_of" ["statement"] [] 1 (jx K ip)
noncomputable abbrev si:Prop:=j1 P w K mg base "placed" ["body", "around"] [.none] 9 (jx K (b9 8))
noncomputable abbrev m7:Prop:=j1 P w K mg base "given_by" ["statement"] [] 1 (jx K j5)
noncomputable abbrev lg:Prop:=j1 P w K mg base "leaves_of" ["expression"] [] 9 (jx K (bu 9))
noncomputable abbrev gB:Prop:=Ce (λ f fd=>Mk K (cl "Links") f/\fq K fd ["self"] []) P w K mg base 1 ["self"] (kT K cl dS)
noncomputable abbrev eG:Prop:=Ce (λ f fd=>yC K (cl "Links") "add" f/\fq K fd ["self", "causes", "key", "line"] []) P w K mg base 1 ["self", "causes", "key", "line"] (kT K cl aQ)
noncomputable abbrev rg:Prop:=j1 P w K mg base "way_of" ["name", "around"] [] 1 (jx K nF)
noncomputable abbrev iz:Prop:=j1 P w K mg base "causes_of" ["name", "expression"] [] 10 (jx K bG)
noncomputable abbrev mF:Prop:=j1 P w K mg base "link_way" ["links", "name", "statement", "around"] [] 2 (kT K cl jv)
noncomputable abbrev iA:Prop:=j1 P w K mg base "link_numbers" ["links", "name", "statement"] [] 11 (kT K cl f6)
noncomputable abbrev lG:Prop:=j1 P w K mg base "link_call" ["links", "name", "statement", "params"] [] 11 (kT K cl fS)
noncomputable abbrev mK:Prop:=j1 P w K mg base "links_of" ["program"] [] 12 (kT K cl jE)
noncomputable abbrev vh:Prop:=j1 P w K mg base "marks" ["program"] [] 13 (kT K cl qN)
noncomputable abbrev f7:Prop:=j1 P w K mg base "_law_cell_at" ["_law_script", "_law_k"] [] 1 (jx K bS)
noncomputable abbrev dY:Prop:=j1 P w K mg base "_law_spread" ["_law_cell", "_law_k"] [] 1 (jx K bD)
noncomputable abbrev jK:Prop:=j1 P w K mg base "_law_names" ["_law_number"] [] 1 (jx K gT)
noncomputable abbrev ir:Prop:=j1 P w K mg base "_law_leaf" ["_law_number", "_law_names_here", "_law_own"] [] 1 (jx K ck)
noncomputable abbrev jh:Prop:=j1 P w K mg base "_law_beside" ["_law_number", "_law_names_here", "_law_own"] [] 2 (jx K eg)
noncomputable abbrev dI:Prop:=j1 P w K mg base "_law_expression" ["_law_number", "_law_names_here", "_law_own"] [] 3 (jx K aY)
noncomputable abbrev l8:Prop:=j1 P w K mg base "_law_call" ["_law_rest", "_law_x", "_law_names_here", "_law_rooms_here", "_law_own"] [] 4 (jx K io)
noncomputable abbrev oA:Prop:=j1 P w K mg base "_law_op" ["_law_number", "_law_names_here", "_law_rooms_here", "_law_own", "_law_words"] [] 5 (jx K kI)
noncomputable abbrev g8:Prop:=j1 P w K mg base "_law_closed_up" ["_law_frame"] [] 1 (kT K cl dU)
noncomputable abbrev g9:Prop:=j1 P w K mg base "_law_may_stand" ["_law_op_here", "_law_pile", "_law_main"] [] 1 (kT K cl bA)
noncomputable abbrev lH:Prop:=j1 P w K mg base "_law_laid" ["_law_ops", "_law_line", "_law_main"] [] 2 (kT K cl iL)
noncomputable abbrev jY:Prop:=j1 P w K mg base "_law_rooms" ["_law_head", "_law_names_here", "_law_variables_here"] [] 1 (jx K gO)
noncomputable abbrev gq:Prop:=j1 P w K mg base "_law_variables" ["_law_head", "_law_names_here"] [] 1 (jx K c8)
noncomputable abbrev i7:Prop:=j1 P w K mg base "_law_program" ["_law_script", "_law_names_here", "_law_own", "_law_words", "_law_most"] [] 6 (jx K fA)
noncomputable abbrev kx:Prop:=j1 P w K mg base "_law_spots" ["_law_body", "_law_rounds", "_law_loop"] [] 7 (jx K (aH 7))
noncomputable abbrev fV:Prop:=j1 P w K mg base "_law_is_own" ["_law_found", "_law_name", "_law_told"] [] 9 (kT K cl (aS 9))
noncomputable abbrev fM:Prop:=j1 P w K mg base "_law_on_own_way" ["_law_found", "_law_name", "_law_rounds"] [] 1 (kT K cl cg)
noncomputable abbrev kg:Prop:=j1 P w K mg base "_law_drawn" ["_law_script"] [] 7 (jx K df)
noncomputable abbrev fG:Prop:=j1 P w K mg base "_law_due_of_call" ["_law_found", "_law_rooms_here", "_law_name", "_law_deed", "_law_own"] [] 10 (kT K cl d7)
noncomputable abbrev jg:Prop:=j1 P w K mg base "_law_due_by" ["_law_found", "_law_rooms_here", "_law_name", "_law_spot"] [] 11 (kT K cl dZ)
end
def rlX (s:String) (t:Lean.TSyntax `tactic):Lean.MacroM (Lean.TSyntax `tactic):=(s.splitOn ";").foldlM (λ t g=>do
 let l:=g.splitOn " "
 let u <-l.tail.foldlM (λ u n=>do
  let q:=n.splitOn ":"
  let i:=Lean.mkIdent ((if n.front.isDigit||n.front=='<' then n.drop 1 else q.head!).toName)
  let a <-if n.front.isDigit||n.front=='<' then pure (Array.replicate (n.front.toNat-48) (<- `(?_))) else (q.getLast!.toList.toArray.mapM λ c=>if c=='r' then `(rfl) else if c=='a' then `(by assumption) else if c=='d' then `(by first | decide | exact Nat.le_refl _ | exact Nat.le_add_right _ _) else if c=='k' then `(by decide +kernel) else `(?_))
  let v <-if q.tail.isEmpty && !n.front.isDigit&&n.front != '<' then `(tactic| apply $i) else `(tactic| refine $(Lean.Syntax.mkApp i a))
  `(tactic| first | $v:tactic | $u:tactic)) (<- `(tactic| fail))
 `(tactic| first | (show $(Lean.mkIdent l.head!.toName) ..;$u:tactic) | $t:tactic)) t
local macro_rules | `(tactic| left)=>do
 let t <-rlX "GK zZ Cj BW;ST C4 Il Fk HB E4 wX BG Gf Gy;JK Cn;Kj DI.k Bz;CC su qW;DI Fv Bn Cp xZ;DT F4 FB y8 Hf zJ;DR BO BV EU Gg E3 zS Fl Gk uX;DG Gq vf;DB Jj G8 FC Cu D8 DN Hb Hv;HQ Ag Gt;SA Ck BL Ee;Jn As CB;n9 vI j8 oN tW ue tj zw qu Av mI so wq;DA pF pQ;DK DE.dk ul;lR CD yS vx vd r6 uU oY zX yB vH CY yd ym;DO F6 AV Eo C8 tp Fh;SE AQ yj B4 Jl Bu GA y7 IQ yo Jt BI Jx AH Gx E2 C1 E6 FY G7 Ie Fz BZ BA CJ Ht Js AL;DE DO.de Gc Jm yu ES FL IH yG F8 HI E5 vM Gj xU yA pN HP nt" (<- `(tactic| first | assumption | decide))
 let u <-rlX "lR yS vx vd r6 uU oY zX yB vH CY yd ym;n9 vI j8 oN tW ue tj zw qu Av mI" (<- `(tactic| first | exact E0 | decide))
 `(tactic| repeat' first | with_reducible (show (_:Prop);first | intro _ | $t:tactic) | $u:tactic)
local macro_rules | `(tactic| right)=>do
 let t <-rlX "And 2And.intro;ng 1Fn;jA 0CV;PassesOwn 0PassesOwn.never;PC 3KW 3GG;BH 1HD 0L8 1JO;JJ 0K7;uh 0Jb 1HF;PW 1Kn 2L5 1Kp 2LH;bH 7Dy;PO 0Kb 1JW;PI 6JM 5He 4GB 2JI;fJ 0K9 0Mv 0JQ 1A4 1JP 2Jz 2Lb 0KF 0J9 2Kt 0Kk 1El 0KS 0KG 0M0 1B2 0Jy 0Kf 2Lu;GJ 0JY 3IW;PT 1PW.pt 3JD 2Ln 2Kr 1Lw 4JB;PG 5JS 4Ka;PS 5Fw 3Hr 6J5 0DJ 5JG 6K4 2J7 3LL 1KY 6La <Ad;Ac 1JL;sP 0JT 1JR 2Jd;PE 2MG 6Mb 5Mc 8Mu 6LD 9Mm 6Mo 1K6 2Mi 5IN 0Ii 4JF 0Ik 5GT 0GU 0LR 2Kz 3JX 1K5 3Ih 2L0 2LG 7IS 4HZ 0Lr 4J6 1JN 1JE 4LY 3LM 0Lj 4LB 0L9;PA 0KD 3Kg" (<- `(tactic| intro _))
 let u <-rlX "Or Iu:r Or.inr:r Or.inl:r;FV Or.inr:r Or.inl:r;Ki Iu:r Or.inl:r;Hs KI:aad;Exists L4:aad;M2 M2.mk:rrrr;PE zH AI AJ:rard;ez ez.mono:a?;d3 d3.mono:ad;Paired Paired.nil:;fP fP.mk:rrrkrkk;QB 1Lg 2LX 1Mw;QM 0LP 0Ml 0LS;fJ 2Kt 2Lu;PS 3KZ;sP 2Jd 1JR" (<- `(tactic| first | assumption | rfl | exact λ _ _=>rfl | exact λ _=>rfl | decide +kernel))
 `(tactic| ((repeat' first | with_reducible $t:tactic | $u:tactic);all_goals try decide))
section
variable {P:Program} {w:World} {K:Frag} {mg:Str->Option Value} {base:Heap} {cl:Str->Addr}
set_option maxHeartbeats 4000000
theorem qI (D:j9 K mg "bodies_of" ["statement"] [] lh):lJ P w K mg base:=
 ii (N:=["statement"]) D rfl (λ ρ=>by left) (by right) rfl rfl (by right)
theorem xC (D:j9 K mg "placed" ["body", "around"] [.none] nW) (_:lJ P w K mg base):si P w K mg base:=
 nB (k:=1) (F:=λ n=>jx K (b9 n)) (zd D λ _=>rfl) (λ n _=>ii (N:=["body", "around", "outer", "found", "statement", "inner"]) D rfl (λ ρ=>by left) (by right) rfl rfl (by right)) 8
theorem rX (D:j9 K mg "given_by" ["statement"] [] mZ):m7 P w K mg base:=
 ii (N:=["statement"]) D rfl (λ ρ=>by left) (by right) rfl rfl (by right)
theorem qo (D:j9 K mg "leaves_of" ["expression"] [] lA) {a_WORKINGS:Addr} (m_WORKINGS:mg "WORKINGS" = some (.ref a_WORKINGS)) (g_WORKINGS:∀ G,eK K G a_WORKINGS (([(Str.ofString "+"),(Str.ofString "-"),(Str.ofString "*"),(Str.ofString "div"),(Str.ofString "rem"),(Str.ofString "<"),(Str.ofString "=")]).map V.str)):lg P w K mg base:=
 nB (k:=0) (F:=λ n=>jx K (bu n)) (zd D λ _=>rfl) (λ n _=>ii (N:=["expression", "found", "part"]) D rfl (λ ρ=>(mI (zw (y8 (zJ D8 (DE.dk (yA uX (ul (i:=0)) pN)) (DE.dk xU)) (xx (ws:=[(Str.ofString "+"),(Str.ofString "-"),(Str.ofString "*"),(Str.ofString "div"),(Str.ofString "rem"),(Str.ofString "<"),(Str.ofString "=")]) g_WORKINGS (DE.dk (yA uX (ul (i:=0)) pN))))
  (qu (DO.de (tp (pF (nt (i:=0)) pQ))))
  wq)
  (mI (ue (tp pQ))
  (mI (tj (xZ (yG (nt (i:=0)) (qW pN) su)) vf
   (j8 (vM (pF (nt (i:=2)) pQ))))
  (tW (i:=1) (qu (nt (i:=1)))))))) (by right) rfl rfl (by right)) 9
theorem ka (D:zQ (λ f fd=>Mk K (cl "Links") f/\fq K fd ["self"] []) K "__init__" "Links.__init__" cz) (_:mg "Links" = some (.ref (cl "Links"))) (_:qT K (cl "Links")) (_:dh K (cl "Links") "behind"):gB P w K mg base cl:=
 iX (N:=["self"]) D rfl (by left) (by right) rfl rfl (by right)
theorem pB (D:zQ (λ f fd=>yC K (cl "Links") "add" f/\fq K fd ["self", "causes", "key", "line"] []) K "add" "Links.add" eJ) (_:mg "Links" = some (.ref (cl "Links"))) (_:qT K (cl "Links")) (_:dh K (cl "Links") "behind"):eG P w K mg base cl:=
 iX (N:=["self", "causes", "key", "line", "cause"]) D rfl (by left) (by right) rfl rfl (by right)
theorem xv (D:j9 K mg "way_of" ["name", "around"] [] sI):rg P w K mg base:=
 ii (N:=["name", "around"]) D rfl (λ ρ=>by left) (by right) rfl rfl (by right)
theorem pJ (D:j9 K mg "causes_of" ["name", "expression"] [] lc) (_:lg P w K mg base):iz P w K mg base:=
 ii (N:=["name", "expression", "leaves", "causes"]) D rfl (λ ρ=>by left) (by right) rfl rfl (by right)
theorem sn (D:j9 K mg "link_way" ["links", "name", "statement", "around"] [] nA) (_:rg P w K mg base) (_:m7 P w K mg base) (h_Links_add:eG P w K mg base cl) (_:mg "Links" = some (.ref (cl "Links"))) (_:qT K (cl "Links")) (_:dh K (cl "Links") "behind"):mF P w K mg base cl:=
 iX (N:=["links", "name", "statement", "around", "way", "line", "given", "whiles"]) D rfl (by left) (by obtain ⟨_,_,⟨_,_⟩,_⟩:=h_Links_add;right) rfl rfl (by right)
theorem lW (D:j9 K mg "link_numbers" ["links", "name", "statement"] [] iD) (h_Links_add:eG P w K mg base cl) (_:iz P w K mg base) (_:mg "Links" = some (.ref (cl "Links"))) (_:qT K (cl "Links")) (_:dh K (cl "Links") "behind"):iA P w K mg base cl:=
 iX (N:=["links", "name", "statement", "kind", "line"]) D rfl (by left) (by obtain ⟨_,_,⟨_,_⟩,_⟩:=h_Links_add;right) rfl rfl (by right)
theorem pC (D:j9 K mg "link_call" ["links", "name", "statement", "params"] [] lD) (h_Links_add:eG P w K mg base cl) (_:iz P w K mg base) (_:mg "Links" = some (.ref (cl "Links"))) (_:qT K (cl "Links")) (_:dh K (cl "Links") "behind") (_:mg "zip" = none):lG P w K mg base cl:=
 iX (N:=["links", "name", "statement", "params", "line", "called", "param", "expression"]) D rfl (by left) (by obtain ⟨_,_,⟨_,_⟩,_⟩:=h_Links_add;right) rfl rfl (by right)
theorem rJ (D:j9 K mg "links_of" ["program"] [] mU) (h_Links___init__:gB P w K mg base cl) (h_Links_add:eG P w K mg base cl) (_:mF P w K mg base cl) (_:iA P w K mg base cl) (_:lG P w K mg base cl) (_:si P w K mg base) (_:mg "Links" = some (.ref (cl "Links"))) (_:qT K (cl "Links")) (_:dh K (cl "Links") "behind"):mK P w K mg base cl:=
 iX (N:=["program", "links", "params_of", "name", "params", "body", "line", "last", "statement", "around"]) D rfl (by left) (by obtain ⟨_,_,⟨_,_⟩,_⟩:=h_Links___init__;obtain ⟨_,_,⟨_,_⟩,_⟩:=h_Links_add;right) rfl rfl (by right)
theorem y4 (D:j9 K mg "marks" ["program"] [] vX) (_:mK P w K mg base cl) (_:mg "Links" = some (.ref (cl "Links"))) (_:qT K (cl "Links")) (_:dh K (cl "Links") "behind"):vh P w K mg base cl:=
 iX (N:=["program", "links", "found", "due", "cause", "key", "line"]) D rfl (by left) (by right) rfl rfl (by right)
theorem lY (D:j9 K mg "_law_cell_at" ["_law_script", "_law_k"] [] iF) (_:mg "len" = none):f7 P w K mg base:=
 ii (N:=["_law_script", "_law_k"]) D rfl (λ ρ=>by left) (by right) rfl rfl (by right)
theorem n6 (D:j9 K mg "_law_spread" ["_law_cell", "_law_k"] [] jk):dY P w K mg base:=
 ii (N:=["_law_cell", "_law_k", "_law_big", "_law_number"]) D rfl (λ ρ=>by left) (by right) rfl rfl (by right)
theorem nZ (D:j9 K mg "_law_names" ["_law_number"] [] jL) (_:mg "range" = none) (_:mg "len" = none):jK P w K mg base:=
 ii (N:=["_law_number", "_law_letters", "_law_kept", "_law_long", "_law_place", "_law_rest", "_law_base", "_law_k", "_law_found", "_law_sign", "_law_word"]) D rfl (λ ρ=>by left) (by right) rfl rfl (by right)
theorem qC (D:j9 K mg "_law_leaf" ["_law_number", "_law_names_here", "_law_own"] [] lF):ir P w K mg base:=
 ii (N:=["_law_number", "_law_names_here", "_law_own", "_law_kind", "_law_rest"]) D rfl (λ ρ=>by left) (by right) rfl rfl (by right)
theorem mV (D:j9 K mg "_law_beside" ["_law_number", "_law_names_here", "_law_own"] [] ji) (_:ir P w K mg base):jh P w K mg base:=
 ii (N:=["_law_number", "_law_names_here", "_law_own", "_law_told", "_law_rest", "_law_other"]) D rfl (λ ρ=>by left) (by right) rfl rfl (by right)
theorem ju (D:j9 K mg "_law_expression" ["_law_number", "_law_names_here", "_law_own"] [] fR) (_:ir P w K mg base) (_:dY P w K mg base) (_:jh P w K mg base) (_:mg "range" = none):dI P w K mg base:=
 ii (N:=["_law_number", "_law_names_here", "_law_own", "_law_deep", "_law_told", "_law_rest", "_law_k", "_law_kind", "_law_other", "_law_word"]) D rfl (λ ρ=>by left) (by right) rfl rfl (by right)
theorem qw (D:j9 K mg "_law_call" ["_law_rest", "_law_x", "_law_names_here", "_law_rooms_here", "_law_own"] [] lL) (_:dI P w K mg base) (_:mg "len" = none) (_:mg "range" = none):l8 P w K mg base:=
 ii (N:=["_law_rest", "_law_x", "_law_names_here", "_law_rooms_here", "_law_own", "_law_others", "_law_name", "_law_params", "_law_handed", "_law_k"]) D rfl (λ ρ=>by left) (by right) rfl rfl (by right)
theorem uB (D:j9 K mg "_law_op" ["_law_number", "_law_names_here", "_law_rooms_here", "_law_own", "_law_words"] [] pz) (_:dI P w K mg base) (_:l8 P w K mg base) (_:mg "len" = none):oA P w K mg base:=
 ii (N:=["_law_number", "_law_names_here", "_law_rooms_here", "_law_own", "_law_words", "_law_kind", "_law_x", "_law_rest"]) D rfl (λ ρ=>by left) (by right) rfl rfl (by right)
theorem k8 (D:j9 K mg "_law_closed_up" ["_law_frame"] [] fZ):g8 P w K mg base cl:=
 iX (N:=["_law_frame"]) D rfl (by left) (by right) rfl rfl (by right)
theorem ke (D:j9 K mg "_law_may_stand" ["_law_op_here", "_law_pile", "_law_main"] [] gD) (_:mg "any" = none) (_:mg "len" = none):g9 P w K mg base cl:=
 iX (N:=["_law_op_here", "_law_pile", "_law_main"]) D rfl (by left) (by right) rfl rfl (by right)
theorem qJ (D:j9 K mg "_law_laid" ["_law_ops", "_law_line", "_law_main"] [] lr) (_:g9 P w K mg base cl) (_:g8 P w K mg base cl):lH P w K mg base cl:=
 iX (N:=["_law_ops", "_law_line", "_law_main", "_law_body", "_law_here", "_law_pile", "_law_op_here", "_law_frame"]) D rfl (by left) (by right) rfl rfl (by right)
theorem oi (D:j9 K mg "_law_rooms" ["_law_head", "_law_names_here", "_law_variables_here"] [] jU) (_:mg "range" = none):jY P w K mg base:=
 ii (N:=["_law_head", "_law_names_here", "_law_variables_here", "_law_many", "_law_rooms_here", "_law_k", "_law_digits", "_law_count"]) D rfl (λ ρ=>by left) (by right) rfl rfl (by right)
theorem kF (D:j9 K mg "_law_variables" ["_law_head", "_law_names_here"] [] gf) (_:mg "list" = none):gq P w K mg base:=
 ii (N:=["_law_head", "_law_names_here"]) D rfl (λ ρ=>by left) (by right) rfl rfl (by right)
theorem lX (D:j9 K mg "_law_program" ["_law_script", "_law_names_here", "_law_own", "_law_words", "_law_most"] [] iu) (_:dY P w K mg base) (_:f7 P w K mg base) (_:gq P w K mg base) (_:jY P w K mg base) (_:oA P w K mg base) (_:lH P w K mg base cl) (_:mg "len" = none) (_:mg "enumerate" = none) (_:mg "list" = none):i7 P w K mg base:=
 Ce.imp (sp:=kT K cl fB) (iX (N:=["_law_script", "_law_names_here", "_law_own", "_law_words", "_law_most", "_law_head", "_law_variables_here", "_law_rooms_here", "_law_ops", "_law_k", "_law_cell", "_law_number", "_law_program_here", "_law_line", "_law_room", "_law_body", "_law_last"]) D rfl (by left) (by right) rfl rfl (by right)) λ _ _ _ _ h=>Gv h
theorem og (D:j9 K mg "_law_spots" ["_law_body", "_law_rounds", "_law_loop"] [] kG):kx P w K mg base:=
 nB (k:=0) (F:=λ n=>jx K (aH n)) (zd D λ _=>rfl) (λ n _=>ii (N:=["_law_body", "_law_rounds", "_law_loop", "_law_spots_here", "_law_deed"]) D rfl (λ ρ=>by left) (by right) rfl rfl (by right)) 7
theorem nG (D:j9 K mg "_law_is_own" ["_law_found", "_law_name", "_law_told"] [] jn) (_:mg "any" = none):fV P w K mg base cl:=
 nB (k:=0) (F:=λ n=>kT K cl (aS n)) (EK D λ _ _=>rfl) (λ n _=>iX (N:=["_law_found", "_law_name", "_law_told"]) D rfl (by left) (by right) rfl rfl (by right)) 9
theorem jy (D:j9 K mg "_law_on_own_way" ["_law_found", "_law_name", "_law_rounds"] [] fQ) (_:mg "any" = none):fM P w K mg base cl:=
 iX (N:=["_law_found", "_law_name", "_law_rounds"]) D rfl (by left) (by right) rfl rfl (by right)
theorem oe (D:j9 K mg "_law_drawn" ["_law_script"] [] jP) (_:dY P w K mg base) (_:f7 P w K mg base) (_:jK P w K mg base) (_:i7 P w K mg base):kg P w K mg base:=
 ii (N:=["_law_script", "_law_head", "_law_names_here"]) D rfl (λ ρ=>by left) (by right) rfl rfl (by right)
theorem jb (D:j9 K mg "_law_due_of_call" ["_law_found", "_law_rooms_here", "_law_name", "_law_deed", "_law_own"] [] fz) (_:fV P w K mg base cl) (_:mg "zip" = none):fG P w K mg base cl:=
 iX (N:=["_law_found", "_law_rooms_here", "_law_name", "_law_deed", "_law_own", "_law_due", "_law_param", "_law_told"]) D rfl (by left) (by right) rfl rfl (by right)
theorem nY (D:j9 K mg "_law_due_by" ["_law_found", "_law_rooms_here", "_law_name", "_law_spot"] [] jd) (_:fM P w K mg base cl) (_:fV P w K mg base cl) (_:fG P w K mg base cl):jg P w K mg base cl:=
 iX (N:=["_law_found", "_law_rooms_here", "_law_name", "_law_spot", "_law_deed", "_law_rounds", "_law_loop", "_law_own", "_law_due"]) D rfl (by left) (by right) rfl rfl (by right)
theorem Fo {R:Addr->FuncData->Prop} (hlaw:∀ ns:List Int,ns.length<=63->∃ S,w6 [.list (ns.map .int)] []=some (.ok (.bool true),S)) (D:zQ R K "law" "law" sA) (_:kg P w K mg base) (_:vh P w K mg base cl) (_:jg P w K mg base cl) (_:kx P w K mg base) (_:mg "isinstance" = none) (_:mg "dict" = none):Ce R P w K mg base 14 ["_law_script"] (p8 K):=
 Ce.imp (sp:=kT K cl w6) (iX (N:=["_law_script", "_law_handed", "_law_found", "_law_rooms_here", "_law_one", "_law_spot", "_law_key"]) D rfl (by left) (by right) rfl rfl (by right)) λ vs H Q E h=>by
  obtain ⟨a,ns,rfl,hS,h63,q⟩:=h
  obtain ⟨Sf,hl⟩:=hlaw ns h63
  exact ⟨[],H,[],[.list (ns.map .int)],.bool true,Sf,.refl _,zN,.cons (.lst hS (.ints ns)) .nil,hl,λ v ρ' G' H' g s dv=>by cases dv;exact q H'⟩
end
inductive Tr where
 | num (v:Int) | sig (k:Fin 3) | nam (x:Str) | box (t:Tr) | op (k:Fin 7) (a b:Tr)
noncomputable def oV (i:Fin 3):Str:=[Str.ofString "lane", Str.ofString "lanes", Str.ofString "mine"].getD i.1 ""
noncomputable def qZ (i:Fin 7):Str:=[Str.ofString "+", Str.ofString "-", Str.ofString "*", Str.ofString "div", Str.ofString "rem", Str.ofString "<", Str.ofString "="].getD i.1 ""
noncomputable def tw:Tr->W
 | .num v=>.tuple [.str "num", .int v]
 | .sig k=>.tuple [.str (oV k)]
 | .nam x=>.tuple [.str "name", .str x]
 | .box t=>.tuple [.str "box", tw t]
 | .op k a b=>.tuple [.str (qZ k),tw a,tw b]
noncomputable def om:Tr->Nat
 | .num _=>0 | .sig _=>0 | .nam _=>0
 | .box t=>om t+1
 | .op _ a b=>max (om a) (om b)+1
noncomputable def mm:Tr->Nat
 | .num _=>1 | .sig _=>1 | .nam _=>1
 | .box t=>mm t+1
 | .op _ a b=>mm a+mm b+1
noncomputable def eM:Tr->List Tr
 | .num v=>[.num v] | .sig k=>[.sig k] | .nam x=>[.nam x]
 | .box t=>eM t
 | .op _ a b=>eM a++eM b
theorem fO:∀ t,(eM t).length<=mm t
 | .num _=>by simp [eM,mm]
 | .sig _=>by simp [eM,mm]
 | .nam _=>by simp [eM,mm]
 | .box t=>by have:=fO t;simp [eM,mm];omega
 | .op _ a b=>by have:=fO a;have:=fO b;simp [eM,mm];omega
theorem M5:∀ k,decide (oV k=Str.ofString "num")=false:=by decide +kernel
theorem Mx:∀ k,decide (oV k=Str.ofString "name")=false:=by decide +kernel
theorem MM:∀ k,decide (oV k=Str.ofString "box")=false:=by decide +kernel
theorem MV:∀ k,iE (.str (oV k)) (.tuple [.str "+", .str "-", .str "*", .str "div", .str "rem", .str "<", .str "="])=some true:=by decide +kernel
theorem MF:∀ k,decide (qZ k=Str.ofString "num")=false:=by decide +kernel
theorem Mq:∀ k,decide (qZ k=Str.ofString "name")=false:=by decide +kernel
theorem MU:∀ k,decide (qZ k=Str.ofString "box")=false:=by decide +kernel
theorem MP:∀ k,iE (.str (qZ k)) (.tuple [.str "+", .str "-", .str "*", .str "div", .str "rem", .str "<", .str "="])=some false:=by decide +kernel
theorem MQ:decide (Str.ofString "num" = Str.ofString "box")=false:=by decide +kernel
theorem Mj:decide (Str.ofString "num" = Str.ofString "name")=false:=by decide +kernel
theorem MS:iE (.str "num") (.tuple [.str "+", .str "-", .str "*", .str "div", .str "rem", .str "<", .str "="])=some true:=by decide +kernel
theorem M6:decide (Str.ofString "name" = Str.ofString "box")=false:=by decide +kernel
theorem M9:iE (.str "name") (.tuple [.str "+", .str "-", .str "*", .str "div", .str "rem", .str "<", .str "="])=some true:=by decide +kernel
theorem M7:decide (Str.ofString "box" = Str.ofString "num")=false:=by decide +kernel
theorem Mp:decide (Str.ofString "box" = Str.ofString "name")=false:=by decide +kernel
theorem qb {pf:List W->Option W} {e x:W} {ds es:List W} (h:pf [x]=some (.list es)) (hz:ds.length+es.length<=9000):cM pf [.val e,.own ds,.val x]=some (.nx [.val e,.own (ds++es),.val x]):=by
 have hz:=sz _ hz
 first | rfl | simp! [cM,gE,uD,h,if_pos hz]
theorem gS:∀ (t:Tr) (n:Nat),om t<n->mm t<=500->bu n [tw t]=some (.list ((eM t).map tw))
 | _,0,h,_=>absurd h (Nat.not_lt_zero _)
 | .num v,n+1,_,_=>by
  have z1:=sz 1 (by decide)
  first | rfl | simp! [bu,tw,eM,uD,qO,MQ,MS,if_pos z1]
 | .sig k,n+1,_,_=>by
  have z1:=sz 1 (by decide)
  first | rfl | simp! [bu,tw,eM,uD,qO,MM,MV,if_pos z1]
 | .nam x,n+1,_,_=>by
  have z1:=sz 1 (by decide)
  first | rfl | simp! [bu,tw,eM,uD,qO,M6,M9,if_pos z1]
 | .box t,n+1,h,hc=>by
  have z0:=sz 0 (by decide)
  have ih:=gS t n (by simp only [om] at h;omega) (by simp only [mm] at hc;omega)
  have l:=fO t
  have st:∀ e,cM (bu n) [.val e,.own [],.val (tw t)]=some (.nx [.val e,.own ([]++(eM t).map tw),.val (tw t)]):=λ e=>qb ih (by simp only [mm] at hc;simp;omega)
  first | rfl | simp! [bu,tw,eM,uD,qO,decide_true,Bool.not_true,kH,uY,if_pos z0,bh,st]
 | .op k a b,n+1,h,hc=>by
  have z0:=sz 0 (by decide)
  have iha:=gS a n (by simp only [om] at h;omega) (by simp only [mm] at hc;omega)
  have ihb:=gS b n (by simp only [om] at h;omega) (by simp only [mm] at hc;omega)
  have la:=fO a
  have lb:=fO b
  have s1:∀ e,cM (bu n) [.val e,.own [],.val (tw a)]=some (.nx [.val e,.own ([]++(eM a).map tw),.val (tw a)]):=λ e=>qb iha (by simp only [mm] at hc;simp;omega)
  have s2:∀ e,cM (bu n) [.val e,.own ((eM a).map tw),.val (tw b)]=some (.nx [.val e,.own ((eM a).map tw++(eM b).map tw),.val (tw b)]):=λ e=>qb ihb (by simp only [mm] at hc;simp;omega)
  first | rfl | simp! [bu,tw,eM,uD,qO,MU,MP,kH,uY,if_pos z0,bh,s1,s2,List.map_append]
noncomputable def xQ (l:List Tr):List Str:=l.filterMap λ t=>match t with | .nam x=>some x | _=>none
noncomputable def pZ (t:Tr):List Str:=xQ (eM t)
theorem tF {f:DS->Option W} {δ:DS} {a b:Str} (h1:f δ=some (.str a)) (h2:decide (a=b)=false):ay b8 f (dC (.str b)) δ=some false:=by first | rfl | simp! [uD,h1,h2]
theorem tT {f:DS->Option W} {δ:DS} {a:Str} (h1:f δ=some (.str a)):ay b8 f (dC (.str a)) δ=some true:=by first | rfl | simp! [uD,h1]
theorem sF {f:DS->Option W} {δ:DS} {a b:Str} {S:ag} (h1:f δ=some (.str a)) (h2:decide (a=b)=false):ab (ay b8 f (dC (.str b))) δ S=some (.ok false,S):=ai (tF h1 h2)
theorem sT {f:DS->Option W} {δ:DS} {a:Str} {S:ag} (h1:f δ=some (.str a)):ab (ay b8 f (dC (.str a))) δ S=some (.ok true,S):=ai (tT h1)
theorem x0 {f:DS->Option W} {δ:DS} {w:W} {l:List W} (h:f δ=some (.tuple (w::l))):av aP f (dC (.int (0))) δ=some w:=by simp only [av,h,dC,Option.bind_some,oW,qO]
theorem x1 {f:DS->Option W} {δ:DS} {v w:W} {l:List W} (h:f δ=some (.tuple (v::w::l))):av aP f (dC (.int (1))) δ=some w:=by simp only [av,h,dC,Option.bind_some,oW,Di]
theorem x2 {f:DS->Option W} {δ:DS} {u v w:W} {l:List W} (h:f δ=some (.tuple (u::v::w::l))):av aP f (dC (.int (2))) δ=some w:=by simp only [av,h,dC,Option.bind_some,oW,Mt]
theorem x3 {f:DS->Option W} {δ:DS} {t u v w:W} {l:List W} (h:f δ=some (.tuple (t::u::v::w::l))):av aP f (dC (.int (3))) δ=some w:=by simp only [av,h,dC,Option.bind_some,oW,Md]
theorem x4 {f:DS->Option W} {δ:DS} {s t u v w:W} {l:List W} (h:f δ=some (.tuple (s::t::u::v::w::l))):av aP f (dC (.int (4))) δ=some w:=by simp only [av,h,dC,Option.bind_some,oW,KA]
theorem fw {f g:DS->Option cY} {δ:DS} {d:W} (h:f δ=some (.rt d)):az f g δ=some (.rt d):=by unfold az;rw [h]
theorem cF {f:DS->Option W} {δ:DS} {a b:Str} {S:ag} {g k:DS->ag->SO} (h1:f δ=some (.str a)) (h2:decide (a=b)=false):aC (bX (ab (ay b8 f (dC (.str b)))) g (aq aw)) k δ S=k δ S:=ah ((bw (sF h1 h2)).trans rfl)
theorem fT {f:DS->Option W} {δ:DS} {a:Str} {S:ag} {g k:DS->ag->SO} (h1:f δ=some (.str a)):bX (ab (ay b8 f (dC (.str a)))) g k δ S=g δ S:=cU (sT h1)
theorem iT {f:DS->Option W} {g:DS->Option (List W)} {δ:DS} {a:W} {l:List W} (h1:f δ=some a) (h2:g δ=some l):aa f g δ=some (a::l):=by simp only [aa,h1,h2,Option.bind_some,Option.map_some]
theorem HV {g:DS->Option (List W)} {δ:DS} {l:List W} (h:g δ=some l) (hl:l.length<=9000):aG g δ=some (.tuple l):=by
 have z:=sz _ hl
 simp only [aG,h,Option.bind_some,if_pos z]
theorem GO {f:DS->Option W} {δ:DS} {a:W} (h:f δ=some a):aG (aa f af) δ=some (.tuple [a]):=HV (iT h rfl) (by simp)
theorem ie {f g:DS->Option W} {δ:DS} {a b:W} (h:f δ=some a) (h':g δ=some b):aG (aa f (aa g af)) δ=some (.tuple [a,b]):=HV (iT h (iT h' rfl)) (by simp)
theorem qd {f g k:DS->Option W} {δ:DS} {a b c:W} (h:f δ=some a) (h':g δ=some b) (h2:k δ=some c):aG (aa f (aa g (aa k af))) δ=some (.tuple [a,b,c]):=HV (iT h (iT h' (iT h2 rfl))) (by simp)
theorem Mn {f g k m:DS->Option W} {δ:DS} {a b c d:W} (h:f δ=some a) (h':g δ=some b) (h2:k δ=some c) (h3:m δ=some d):aG (aa f (aa g (aa k (aa m af)))) δ=some (.tuple [a,b,c,d]):=HV (iT h (iT h' (iT h2 (iT h3 rfl)))) (by simp)
theorem qA {f g:DS->Option W} {δ:DS} {l:List W} {i:Int} {x:W} (h1:f δ=some (.list l)) (h2:g δ=some (.int i)) (h3:fK l i=some x):av aP f g δ=some x:=by simp only [av,h1,h2,Option.bind_some,DP,h3]
theorem hU {f:List W->Option W} {fa:DS->Option (List W)} {δ:DS} {ds:List W} {d:W} (h1:fa δ=some ds) (h2:f ds=some d):aU f fa δ=some d:=by simp only [aU,h1,Option.bind_some,h2]
theorem A8 {c:W->W->Option Bool} {f g:DS->Option W} {δ:DS} {a b:W} {r:Bool} (h1:f δ=some a) (h2:g δ=some b) (h3:c a b=some r):ay c f g δ=some r:=by simp only [ay,h1,h2,Option.bind_some,h3]
theorem dO {c:W->W->Option W} {f g:DS->Option W} {δ:DS} {a b r:W} (h1:f δ=some a) (h2:g δ=some b) (h3:c a b=some r):av c f g δ=some r:=by simp only [av,h1,h2,Option.bind_some,h3]
theorem dA {f g:DS->Option Bool} {δ:DS} {r:Bool} (h1:f δ=some true) (h2:g δ=some r):ja f g δ=some r:=by first | rfl | simp! [uD,h1,h2]
theorem Ld {f g:DS->Option Bool} {δ:DS} (h1:f δ=some false):ja f g δ=some false:=by first | rfl | simp! [uD,h1]
theorem AF {f g:DS->Option W} {δ:DS} {a b:W} (h:f δ=some a) (h':g δ=some b):aa f (aa g af) δ=some [a,b]:=iT h (iT h' rfl)
theorem sM {f g k:DS->Option W} {δ:DS} {a b c:W} (h:f δ=some a) (h':g δ=some b) (h2:k δ=some c):aa f (aa g (aa k af)) δ=some [a,b,c]:=iT h (iT h' (iT h2 rfl))
theorem HC {ix:List (Option Nat)} {fi:DS->Option (List W)} {h:W->DS->Option DS} {c:DS->Option Bool} {fe:DS->Option W} {δ:DS} {ds r:List W} (h1:fi δ=some ds) (h2:ds.length<=9000) (h3:b6 h c fe (bJ ix δ) ds=some r):ba (gg ix fi h c fe) δ=some (.list r):=by
 have z:=sz _ h2
 simp only [ba,gg,h1,Option.bind_some,if_pos z,h3,Option.map_some]
theorem A9 {i:Nat} {f:DS->Option W} {δ:DS} {ds:List W} {d:W} (h1:jq i δ=some ds) (h2:f δ=some d) (h3:ds.length<9000):b7 i f δ=some (.nx (δ.set i (.own (ds++[d])))):=by
 have z:=Nat.lt_of_lt_of_le h3 (sz 9000 (Nat.le_refl _))
 simp only [b7,h1,h2,Option.bind_some,if_pos z]
inductive Hd where
 | set (x:Str) (t:Tr) | put (a b:Tr) | tell (t:Tr) | ret (t:Tr) | brk | agn | mt | stp
 | join (x j:Str) (t:Tr) | call (x f:Str) (ts:List Tr) | ifs (t:Tr) (bs:List W) | whl (t:Tr) (bs:List W)
noncomputable def dP (i:Fin 12):Str:=[Str.ofString "set", Str.ofString "put", Str.ofString "tell", Str.ofString "return", Str.ofString "break", Str.ofString "again", Str.ofString "meet", Str.ofString "stop", Str.ofString "join", Str.ofString "call", Str.ofString "if", Str.ofString "while"].getD i.1 ""
noncomputable def aE:Hd->Fin 12
 | .set _ _=>0 | .put _ _=>1 | .tell _=>2 | .ret _=>3 | .brk=>4 | .agn=>5 | .mt=>6 | .stp=>7 | .join _ _ _=>8 | .call _ _ _=>9 | .ifs _ _=>10 | .whl _ _=>11
noncomputable def rs:Hd->List W
 | .set x t=>[.str x,tw t] | .put a b=>[tw a,tw b] | .tell t=>[tw t] | .ret t=>[tw t] | .brk=>[] | .agn=>[] | .mt=>[] | .stp=>[]
 | .join x j t=>[.str x,.str j,tw t] | .call x f ts=>[.str x,.str f,.list (ts.map tw)] | .ifs t bs=>tw t::bs | .whl t bs=>tw t::bs
noncomputable def ci (k:Int) (h:Hd):W:=.tuple (.str (dP (aE h))::.int k::rs h)
theorem kq:∀ i:Fin 12,decide (dP i=Str.ofString "while")=decide (i=11)/\decide (dP i=Str.ofString "if")=decide (i=10)/\decide (dP i=Str.ofString "return")=decide (i=3)/\decide (dP i=Str.ofString "call")=decide (i=9)/\decide (dP i=Str.ofString "set")=decide (i=0)/\decide (dP i=Str.ofString "join")=decide (i=8):=by decide +kernel
theorem ki:∀ i:Fin 12,lQ (.str (dP i)) (.tuple [.str "set", .str "call", .str "join"])=some (decide (i=0∨i=9∨i=8))/\lQ (.str (dP i)) (.tuple [.str "break", .str "again"])=some (decide (i=4∨i=5))/\lQ (.str (dP i)) (.tuple [.str "if", .str "while"])=some (decide (i=10∨i=11))/\lQ (.str (dP i)) (.tuple [.str "meet", .str "join"])=some (decide (i=6∨i=8)):=by decide +kernel
theorem tD {f:DS->Option W} {δ:DS} {a b:Str} (h1:f δ=some (.str a)):ay b8 f (dC (.str b)) δ=some (decide (a=b)):=by first | rfl | simp! [uD,h1]
noncomputable def Mr:List W->Option (List (List W))
 | [x]=>(hJ x).map λ a=>[a]
 | _=>none
noncomputable def LQ:List W->Option (List (List W))
 | [x,y]=>(hJ x).bind λ a=>if GR y=true then some [a] else (hJ y).map λ b=>[a,b]
 | _=>none
noncomputable def jt:Hd->Option (List (List W))
 | .ifs _ l=>LQ l
 | .whl _ l=>Mr l
 | _=>some []
theorem yc {x:W} {a:List W} (h:hJ x=some a):x=.list a:=by
 cases x with
 | list b=>cases h;rfl
 | _=>cases h
theorem y6 {l:List W} {bs:List (List W)} (h:Mr l=some bs):∃ a,l=[.list a]/\bs=[a]:=by
 cases l with
 | nil=>cases h
 | cons x r=>
  cases r with
  | nil=>
   obtain ⟨a,e,rfl⟩:=oM h
   exact ⟨a,by rw [yc e],rfl⟩
  | cons y r=>cases h
theorem zI {l:List W} {bs:List (List W)} (h:LQ l=some bs):∃ a,(∃ b,l=[.list a,.list b]/\bs=[a,b])∨(l=[.list a,.none]/\bs=[a]):=by
 cases l with
 | nil=>cases h
 | cons x r=>
  cases r with
  | nil=>cases h
  | cons y r=>
   cases r with
   | nil=>
    obtain ⟨a,e,h⟩:=oB h
    have e':=yc e
    by_cases z:GR y=true
    . rw [if_pos z] at h
      cases h
      cases y with
      | none=>exact ⟨a,.inr ⟨by rw [e'],rfl⟩⟩
      | _=>cases z
    . rw [if_neg z] at h
      obtain ⟨b,e2,rfl⟩:=oM h
      exact ⟨a,.inl ⟨b,by rw [e',yc e2],rfl⟩⟩
   | cons z r=>cases h
theorem rH (t:Tr) (l:List W):jt (.ifs t l)≠some []/\jt (.whl t l)≠some []:=by
 constructor
 . intro z
   obtain ⟨a,⟨b,_,e⟩ | ⟨_,e⟩⟩:=zI z <;> cases e
 . intro z
   obtain ⟨a,_,e⟩:=y6 z
   cases e
theorem Kv {h:Hd} {bs:List (List W)} (hb:jt h=some bs) (e:aE h=11):∃ t a,rs h=[tw t,.list a]/\bs=[a]:=by
 cases h with
 | whl t l=>
  obtain ⟨a,rfl,rfl⟩:=y6 hb
  exact ⟨t,a,rfl,rfl⟩
 | _=>exact nomatch (show false=true from decide_eq_true e)
theorem L3 {h:Hd} {bs:List (List W)} (hb:jt h=some bs) (e:aE h=10):∃ t a,(∃ b,rs h=[tw t,.list a,.list b]/\bs=[a,b])∨(rs h=[tw t,.list a,.none]/\bs=[a]):=by
 cases h with
 | ifs t l=>
  obtain ⟨a,⟨b,rfl,rfl⟩ | ⟨rfl,rfl⟩⟩:=zI hb
  . exact ⟨t,a,.inl ⟨b,rfl,rfl⟩⟩
  . exact ⟨t,a,.inr ⟨rfl,rfl⟩⟩
 | _=>exact nomatch (show false=true from decide_eq_true e)
theorem Mz {f:DS->Option W} {δ:DS} {a:W} (h:f δ=some a):ba (bm (aa f af)) δ=some (.list [a]):=by
 unfold ba bm
 rw [iT h rfl]
 rfl
theorem uP (k:Int) (h:Hd) (bs:List (List W)) (hb:jt h=some bs):ip [ci k h]=some (.list (bs.map .list)):=by
 let δ:DS:=[.val (ci k h)]
 have a0:av aP (au 0) (dC (.int (0))) δ=some (.str (dP (aE h))):=x0 rfl
 have t1:=tD (b:=Str.ofString "while") a0
 have t2:=tD (b:=Str.ofString "if") a0
 rw [(kq _).1] at t1
 rw [(kq _).2.1] at t2
 have p0:∀ {r},rs h=r->au 0 δ=some (.tuple (.str (dP (aE h))::.int k::r)):=λ e=>by rw [<-e];rfl
 refine aX rfl ?_
 by_cases h11:aE h=11
 . rw [decide_eq_true h11] at t1
   obtain ⟨t,a,er,rfl⟩:=Kv hb h11
   exact fw (aN (b:=true) t1 (bp (Mz (x3 (p0 er)))))
 rw [decide_eq_false h11] at t1
 refine ak (aN (b:=false) t1 rfl) ?_
 by_cases h10:aE h=10
 . rw [decide_eq_true h10] at t2
   have sl:∀ {t r},rs h=t::r->bz (kH (ac 0) (dD (dC (.int (3)))) cQ) δ=some r:=λ {t r} e=>by
    have c:ic (.str (dP (aE h))::.int k::rs h) (some ((3:Nat):Int)) none=r:=(Ir _ 3).trans (by rw [e];rfl)
    exact congrArg some c
   obtain ⟨t,a,⟨b,er,rfl⟩ | ⟨er,rfl⟩⟩:=L3 hb h10
   . exact fw (aN (b:=true) t2 (bp (HC (sl er) (by simp) rfl)))
   . exact fw (aN (b:=true) t2 (bp (HC (sl er) (by simp) rfl)))
 . rw [decide_eq_false h10] at t2
   refine ak (aN (b:=false) t2 rfl) (bp ?_)
   have:bs=[]:=by cases h <;> first | (cases hb;rfl) | exact absurd rfl h10 | exact absurd rfl h11
   subst this
   rfl
noncomputable def uc:Hd->Option Str
 | .set x _=>some x | .join x _ _=>some x | .call x _ _=>some x | _=>none
noncomputable def ud (h:Hd):W:=match uc h with | some x=>.str x | none=>.none
theorem xf (k:Int) (h:Hd):j5 [ci k h]=some (ud h):=by
 have z3:=sz 3 (by decide)
 let δ:DS:=[.val (ci k h)]
 have a0:av aP (au 0) (dC (.int (0))) δ=some (.str (dP (aE h))):=x0 rfl
 have e:aG (aa (dC (.str "set")) (aa (dC (.str "call")) (aa (dC (.str "join")) af))) δ=some (.tuple [.str "set", .str "call", .str "join"]):=by first | rfl | simp! [uD,if_pos z3]
 have t:ay lQ (av aP (au 0) (dC (.int (0)))) (aG (aa (dC (.str "set")) (aa (dC (.str "call")) (aa (dC (.str "join")) af)))) δ=some (decide (aE h=0∨aE h=9∨aE h=8)):=by
  simp only [ay,a0,e,Option.bind_some]
  exact (ki (aE h)).1
 refine aX rfl (bp ?_)
 show AY _ _ _ δ=_
 unfold AY
 rw [t]
 cases h with
 | set x u=>exact (x2 rfl:av aP (au 0) (dC (.int (2))) [.val (ci k (.set x u))]=some (.str x))
 | join x j u=>exact (x2 rfl:av aP (au 0) (dC (.int (2))) [.val (ci k (.join x j u))]=some (.str x))
 | call x f ts=>exact (x2 rfl:av aP (au 0) (dC (.int (2))) [.val (ci k (.call x f ts))]=some (.str x))
 | _=>rfl
noncomputable abbrev Bk:=Int×Hd
noncomputable def eL (b:Bk):W:=ci b.1 b.2
noncomputable def cS (l:List Bk):List W:=l.map eL
noncomputable def eC (b:Bk):Bool:=decide (aE b.2=11)
noncomputable abbrev It:=Int×Hd×List Bk
noncomputable def oS (i:It):W:=.tuple [ci i.1 i.2.1,.tuple (i.2.2.map eL)]
mutual
inductive xP (P:Bool->Hd->Prop):Nat->Bool->Hd->Nat->Prop
 | lf {n:Nat} {wh:Bool} {h:Hd}:P wh h->jt h=some []->xP P n wh h 1
 | whl {n:Nat} {wh:Bool} {t:Tr} {a:List Bk} {c:Nat}:P wh (.whl t [.list (cS a)])->jF P n true a c->xP P (n+1) wh (.whl t [.list (cS a)]) (c+1)
 | if1 {n:Nat} {wh:Bool} {t:Tr} {a:List Bk} {c:Nat}:P wh (.ifs t [.list (cS a),.none])->jF P n wh a c->xP P (n+1) wh (.ifs t [.list (cS a),.none]) (c+1)
 | if2 {n:Nat} {wh:Bool} {t:Tr} {a b:List Bk} {c c':Nat}:P wh (.ifs t [.list (cS a),.list (cS b)])->jF P n wh a c->jF P n wh b c'->xP P (n+1) wh (.ifs t [.list (cS a),.list (cS b)]) (c+c'+1)
inductive jF (P:Bool->Hd->Prop):Nat->Bool->List Bk->Nat->Prop
 | nil {n:Nat} {wh:Bool}:jF P n wh [] 0
 | cons {n:Nat} {wh:Bool} {k:Int} {h:Hd} {l:List Bk} {c c':Nat}:xP P n wh h c->jF P n wh l c'->jF P n wh ((k,h)::l) (c+c')
end
structure GI (P:Bool->Hd->Prop) (m:Nat) (i:It):Prop where
 p:∃ wh,P wh i.2.1/\(wh=true->∃ b∈i.2.2,eC b=true)
 l:i.2.2.length<=m
theorem FG (ar:List W) (x:W) (h:ar.length<9000):va (.tuple ar) (.tuple [x])=some (.tuple (ar++[x])):=by
 cases ar with
 | nil=>rfl
 | cons y r=>
  have hz:(y::r).length+[x].length<=sizeLine:=sz _ (by simp at h ⊢;omega)
  show bQ (.tuple (y::r)) (.tuple [x])=_
  exact if_pos ⟨by simp,hz⟩
section
variable {P:Bool->Hd->Prop}
theorem sX {pf:List W->Option W} {s0 s1:Sl} {ar acc es:List W} {st a:W} (h:pf [a,.tuple (ar++[st])]=some (.list es)) (hz:acc.length+es.length<=9000) (hr:ar.length<9000):gL pf [s0,s1,.val (.tuple ar),.own acc,.val st,.val a]=some (.nx [s0,s1,.val (.tuple ar),.own (acc++es),.val st,.val a]):=by
 have z:=sz _ hz
 have z1:=sz 1 (by decide)
 first | rfl | simp! [gL,gE,uD,if_pos z1,FG ar st hr,h,if_pos z]
theorem jo {h:W->DS->Option DS} {f:DS->Option cY} {d:W} {ds:List W} {δ δ2 δ':DS} {o:Option cY} (h1:h d δ=some δ2) (h2:f δ2=some (.nx δ')) (h3:bh h f ds δ'=o):bh h f (d::ds) δ=o:=by
 rw [<-h3]
 show (h d δ).bind _=_
 rw [h1]
 show (match f δ2 with | some (.nx δ')=>_ | some (.ct δ')=>_ | some (.bk δ')=>_ | some (.rt d)=>_ | none=>_)=_
 rw [h2]
theorem AZ {m:Nat} {l:List Bk} {ar:List Bk} {is:List It} (e:∃ s4 s5,bh (ae 4) (dz (b9 m)) (cS l) [.val (.list (cS l)),.val (.tuple (ar.map eL)),.val (.tuple (ar.map eL)),.own [],.no,.no]=some (.nx [.val (.list (cS l)),.val (.tuple (ar.map eL)),.val (.tuple (ar.map eL)),.own (is.map oS),s4,s5])):b9 (m+1) [.list (cS l),.tuple (ar.map eL)]=some (.list (is.map oS)):=by
 have z0:=sz 0 (by decide)
 obtain ⟨s4,s5,e⟩:=e
 show bV 2 6 _ _=_
 refine aX rfl ?_
 refine ak (δ1:=[.val (.list (cS l)),.val (.tuple (ar.map eL)),.val (.tuple (ar.map eL)),.no,.no,.no]) (by first | rfl | simp! [bB,uD,if_pos z0]) ?_
 refine ak (δ1:=[.val (.list (cS l)),.val (.tuple (ar.map eL)),.val (.tuple (ar.map eL)),.own [],.no,.no]) (by first | rfl | simp! [uD,if_pos z0]) ?_
 refine ak (fg (ds:=cS l) (by first | rfl | simp! [uD]) e) ?_
 first | rfl | simp! [uD]
theorem mH {m:Nat} {s0 s1 s5:Sl} {ar acc:List W} {k:Int} {h:Hd} {bs:List (List W)} (hb:jt h=some bs) (hl:acc.length<900) {o:Option cY} (e:bh (ae 5) (gL (b9 m)) (bs.map .list) [s0,s1,.val (.tuple ar),.own (acc++[.tuple [ci k h,.tuple ar]]),.val (ci k h),s5]=o):dz (b9 m) [s0,s1,.val (.tuple ar),.own acc,.val (ci k h),s5]=o:=by
 have z2:=sz 2 (by decide)
 have zl:acc.length<sizeLine:=Nat.lt_of_lt_of_le hl (sz 900 (by decide))
 refine ak (δ1:=[s0,s1,.val (.tuple ar),.own (acc++[.tuple [ci k h,.tuple ar]]),.val (ci k h),s5]) (by first | rfl | simp! [uD,if_pos z2,if_pos zl]) ?_
 exact fg (ds:=bs.map .list) (by first | rfl | simp! [uD,uP k h bs hb]) e
noncomputable def fI (ar:List Bk):W:=.list (ar.map λ b=>.int b.1)
noncomputable def nT (ar:List Bk):W:=match ((ar.filter eC).map (·.1)).getLast? with
 | some k=>.int k
 | none=>.none
theorem IG (ar:List Bk) (k:Int) (t:Tr) (l:List W):nT (ar++[(k,.whl t l)])=.int k:=by simp [nT,List.filter_append,eC,aE]
theorem Da (ar:List Bk) (k:Int) (t:Tr) (l:List W):nT (ar++[(k,.ifs t l)])=nT ar:=by simp [nT,List.filter_append,eC,aE]
noncomputable abbrev uu:List It->List W->Prop:=Paired λ i w=>w=.tuple [ci i.1 i.2.1,fI i.2.2,nT i.2.2]
theorem uu.app {a b:List It} {x y:List W} (h:uu a x) (h':uu b y):uu (a++b) (x++y):=by
 induction h with
 | nil=>exact h'
 | cons r _ ih=>exact .cons r ih
theorem uu.len {a:List It} {x:List W} (h:uu a x):a.length=x.length:=by
 induction h with
 | nil=>rfl
 | cons _ _ ih=>exact congrArg (· + 1) ih
theorem qt {s0 s1 s2 s4:Sl} {acc sp:List W} {fb:DS->Option W} (h:fb [s0,s1,s2,.own acc,s4]=some (.list sp)) (hz:acc.length+sp.length<=9000):fH 3 (lw (au 3) fb) [s0,s1,s2,.own acc,s4]=some (.nx [s0,s1,s2,.own (acc++sp),s4]):=by
 have a:lw (au 3) fb [s0,s1,s2,.own acc,s4]=some (acc++sp):=by
  show (fb _).bind _=_
  rw [h]
  exact if_pos (sz _ hz)
 show (lw (au 3) fb _).map _=_
 rw [a]
 rfl
theorem vq {pf:List W->Option W} {fa fl fp:DS->Option W} {δ:DS} {ar:List Bk} {x:Bk} {b sp:List W} {lp:W} (h1:au 1 δ=some (fI ar)) (ha:fa δ=some (.list b)) (hl:fl δ=some (.int x.1)) (hp:fp δ=some lp) (hr:ar.length<100) (h:pf [.list b,fI (ar++[x]),lp]=some (.list sp)):aU pf (aa fa (aa (av bQ (au 1) (ba (bm (aa fl af)))) (aa fp af))) δ=some (.list sp):=by
 have e:av bQ (au 1) (ba (bm (aa fl af))) δ=some (fI (ar++[x])):=by
  refine (dO h1 (Mz hl) (nJ (sz _ (by simp;omega)))).trans ?_
  simp [fI]
 exact hU (sM ha e hp) h
theorem Bl {h:Hd} (hb:jt h=some []):aE h≠10/\aE h≠11:=by
 cases h with
 | ifs t l=>exact absurd hb (rH t l).1
 | whl t l=>exact absurd hb (rH t l).2
 | _=>exact ⟨λ z=>Bool.noConfusion (show false=true from decide_eq_true z),λ z=>Bool.noConfusion (show false=true from decide_eq_true z)⟩
section
variable {m:Nat} {s0:Sl} {ar:List Bk} {lp:W} {acc:List W} {k:Int}
theorem sK (h:Hd) {s1 s2 s3:Sl}:ay b8 (av aP (au 4) (dC (.int (0)))) (dC (.str "if")) [s0,s1,s2,s3,.val (ci k h)]=some (decide (aE h=10))/\ay b8 (av aP (au 4) (dC (.int (0)))) (dC (.str "while")) [s0,s1,s2,s3,.val (ci k h)]=some (decide (aE h=11)):=by
 have a:av aP (au 4) (dC (.int (0))) [s0,s1,s2,s3,.val (ci k h)]=some (.str (dP (aE h))):=x0 rfl
 exact ⟨(tD a).trans (congrArg some (kq _).2.1),(tD a).trans (congrArg some (kq _).1)⟩
theorem HK {h:Hd} (hb:jt h=some []) (ha:acc.length<899):bF (aH m) [s0,.val (fI ar),.val lp,.own acc,.val (ci k h)]=some (.nx [s0,.val (fI ar),.val lp,.own (acc++[.tuple [ci k h,fI ar,lp]]),.val (ci k h)]):=by
 have c:=Bl hb
 refine ak (A9 (ds:=acc) rfl (qd rfl rfl rfl) (by omega)) ?_
 refine ak (aN (b:=false) ((sK h).1.trans (by rw [decide_eq_false c.1])) rfl) ?_
 exact aN (b:=false) ((sK h).2.trans (by rw [decide_eq_false c.2])) rfl
theorem Hz {t:Tr} {a sp:List W} (hs:aH m [.list a,fI (ar++[(k,.whl t [.list a])]),.int k]=some (.list sp)) (hz:acc.length+sp.length<899) (hr:ar.length<100):bF (aH m) [s0,.val (fI ar),.val lp,.own acc,.val (ci k (.whl t [.list a]))]=some (.nx [s0,.val (fI ar),.val lp,.own (acc++.tuple [ci k (.whl t [.list a]),fI ar,lp]::sp),.val (ci k (.whl t [.list a]))]):=by
 refine ak (A9 (ds:=acc) rfl (qd rfl rfl rfl) (by omega)) ?_
 refine ak (aN (b:=false) (sK (.whl t [.list a])).1 rfl) ?_
 refine aN (b:=true) (sK (.whl t [.list a])).2 ((qt (vq (x:=(k,.whl t [.list a])) rfl (x3 rfl) (x1 rfl) (x1 rfl) hr hs) (by simp;omega)).trans ?_)
 simp
theorem Hm {t:Tr} {a sp:List W} (hs:aH m [.list a,fI (ar++[(k,.ifs t [.list a,.none])]),lp]=some (.list sp)) (hz:acc.length+sp.length<899) (hr:ar.length<100):bF (aH m) [s0,.val (fI ar),.val lp,.own acc,.val (ci k (.ifs t [.list a,.none]))]=some (.nx [s0,.val (fI ar),.val lp,.own (acc++.tuple [ci k (.ifs t [.list a,.none]),fI ar,lp]::sp),.val (ci k (.ifs t [.list a,.none]))]):=by
 refine ak (A9 (ds:=acc) rfl (qd rfl rfl rfl) (by omega)) ?_
 refine ak (aN (b:=true) (sK (.ifs t [.list a,.none])).1 (ak (qt (vq (x:=(k,.ifs t [.list a,.none])) rfl (x3 rfl) (x1 rfl) rfl hr hs) (by simp;omega)) (aN (b:=false) (A8 (x4 rfl) rfl rfl) rfl))) ?_
 refine aN (b:=false) (sK (.ifs t [.list a,.none])).2 ?_
 simp [aw]
theorem IA {t:Tr} {a b sp sq:List W} (hs:aH m [.list a,fI (ar++[(k,.ifs t [.list a,.list b])]),lp]=some (.list sp)) (hs':aH m [.list b,fI (ar++[(k,.ifs t [.list a,.list b])]),lp]=some (.list sq)) (hz:acc.length+sp.length+sq.length<899) (hr:ar.length<100):bF (aH m) [s0,.val (fI ar),.val lp,.own acc,.val (ci k (.ifs t [.list a,.list b]))]=some (.nx [s0,.val (fI ar),.val lp,.own (acc++.tuple [ci k (.ifs t [.list a,.list b]),fI ar,lp]::(sp++sq)),.val (ci k (.ifs t [.list a,.list b]))]):=by
 refine ak (A9 (ds:=acc) rfl (qd rfl rfl rfl) (by omega)) ?_
 refine ak (aN (b:=true) (sK (.ifs t [.list a,.list b])).1 (ak (qt (vq (x:=(k,.ifs t [.list a,.list b])) rfl (x3 rfl) (x1 rfl) rfl hr hs) (by simp;omega)) (aN (b:=true) (A8 (x4 rfl) rfl rfl) (qt (vq (x:=(k,.ifs t [.list a,.list b])) rfl (x4 rfl) (x1 rfl) rfl hr hs') (by simp;omega))))) ?_
 refine aN (b:=false) (sK (.ifs t [.list a,.list b])).2 ?_
 simp [aw]
theorem wf {l:List Bk} {sp:List W} (e:∃ s4,bh (ae 4) (bF (aH m)) (cS l) [.val (.list (cS l)),.val (fI ar),.val lp,.own [],.no]=some (.nx [.val (.list (cS l)),.val (fI ar),.val lp,.own sp,s4])):aH (m+1) [.list (cS l),fI ar,lp]=some (.list sp):=by
 have z0:=sz 0 (by decide)
 obtain ⟨s4,e⟩:=e
 show bV 3 5 _ _=_
 refine aX rfl ?_
 refine ak (δ1:=[.val (.list (cS l)),.val (fI ar),.val lp,.own [],.no]) (by first | rfl | simp! [bB,uD,if_pos z0]) ?_
 refine ak (fg (ds:=cS l) (by first | rfl | simp! [uD]) e) ?_
 first | rfl | simp! [uD]
end
noncomputable def SQ (n:Nat) (l ar:List Bk) (is:List It):Prop:=∀ (m:Nat) (acc:List W) (s0 s4:Sl),n<=m->acc.length+is.length<899->∃ (sp:List W) (s4':Sl),uu is sp/\bh (ae 4) (bF (aH m)) (cS l) [s0,.val (fI ar),.val (nT ar),.own acc,s4]=some (.nx [s0,.val (fI ar),.val (nT ar),.own (acc++sp),s4'])
noncomputable def SV (n:Nat) (k:Int) (h:Hd) (ar:List Bk) (is:List It):Prop:=∀ (m:Nat) (acc:List W) (s0:Sl),n<=m->acc.length+is.length<899->∃ sp:List W,uu is sp/\bF (aH m) [s0,.val (fI ar),.val (nT ar),.own acc,.val (ci k h)]=some (.nx [s0,.val (fI ar),.val (nT ar),.own (acc++sp),.val (ci k h)])
noncomputable def SI (n:Nat) (a ar:List Bk) (is:List It):Prop:=∀ (m:Nat),n<=m->∃ sp:List W,uu is sp/\aH (m+1) [.list (cS a),fI ar,nT ar]=some (.list sp)
noncomputable def PB (P:Bool->Hd->Prop) (n:Nat):Prop:=∀ (wh:Bool) (l:List Bk) (c:Nat),jF P n wh l c->∀ (m M:Nat) (ar:List Bk) (acc:List W) (s0 s1 s4 s5:Sl),n<=m->ar.length+n<=M->M<100->(wh=true->∃ b∈ar,eC b=true)->acc.length+c<899->∃ (is:List It) (s4' s5':Sl),is.length=c/\(∀ i∈is,GI P M i)/\bh (ae 4) (dz (b9 m)) (cS l) [s0,s1,.val (.tuple (ar.map eL)),.own acc,s4,s5]=some (.nx [s0,s1,.val (.tuple (ar.map eL)),.own (acc++is.map oS),s4',s5'])/\SQ n l ar is
theorem wz {n:Nat} (ih:PB P n) {wh:Bool} {a:List Bk} {c:Nat} (g:jF P n wh a c) {m M:Nat} {ar:List Bk} (x:Bk) (hm:n<=m) (hM:ar.length+(n+1)<=M) (h100:M<100) (hw:wh=true->∃ b∈ar++[x],eC b=true) (hc:c<899):∃ is:List It,is.length=c/\(∀ i∈is,GI P M i)/\b9 (m+1) [.list (cS a),.tuple (ar.map eL++[eL x])]=some (.list (is.map oS))/\SI n a (ar++[x]) is:=by
 obtain ⟨is,s4,s5',l1,i1,e1,q1⟩:=ih wh a c g m M (ar++[x]) [] (.val (.list (cS a))) (.val (.tuple ((ar++[x]).map eL))) .no .no hm (by simp;omega) h100 hw (by simpa using hc)
 have ec:=AZ (is:=is) ⟨s4,s5',e1⟩
 rw [List.map_append] at ec
 refine ⟨is,l1,i1,ec,λ m hm=>?_⟩
 obtain ⟨sp,u4,r1,r2⟩:=q1 m [] (.val (.list (cS a))) .no hm (by simp;omega)
 exact ⟨sp,r1,wf ⟨u4,r2⟩⟩
theorem vg {n M:Nat} {wh:Bool} {k:Int} {h:Hd} {ar:List Bk} (p:P wh h) (hM:ar.length+n<=M) (hw:wh=true->∃ b∈ar,eC b=true):GI P M (k,h,ar):=⟨⟨wh,p,hw⟩,by show ar.length<=M;omega⟩
theorem yp {m:Nat} {s0 s1 s5:Sl} {ar:List Bk} {acc:List W} {k:Int} {h:Hd} {a:List W} {is:List It} (hb:jt h=some [a]) (hl:acc.length+is.length<899) (hr:ar.length<100) (ec:b9 m [.list a,.tuple (ar.map eL++[eL (k,h)])]=some (.list (is.map oS))):dz (b9 m) [s0,s1,.val (.tuple (ar.map eL)),.own acc,.val (ci k h),s5]=some (.nx [s0,s1,.val (.tuple (ar.map eL)),.own (acc++((k,h,ar)::is:List It).map oS),.val (ci k h),.val (.list a)]):=by
 refine mH hb (by omega) ((jo (ds:=[]) rfl (sX (es:=is.map oS) ec (by simp;omega) (by simp;omega)) rfl).trans ?_)
 simp [oS,bh,eL]
theorem Fp {m:Nat} {s0 s1 s5:Sl} {ar:List Bk} {acc:List W} {k:Int} {h:Hd} {a b:List W} {is js:List It} (hb:jt h=some [a,b]) (hl:acc.length+is.length+js.length<899) (hr:ar.length<100) (ec:b9 m [.list a,.tuple (ar.map eL++[eL (k,h)])]=some (.list (is.map oS))) (ed:b9 m [.list b,.tuple (ar.map eL++[eL (k,h)])]=some (.list (js.map oS))):dz (b9 m) [s0,s1,.val (.tuple (ar.map eL)),.own acc,.val (ci k h),s5]=some (.nx [s0,s1,.val (.tuple (ar.map eL)),.own (acc++((k,h,ar)::(is++js):List It).map oS),.val (ci k h),.val (.list b)]):=by
 refine mH hb (by omega) ((jo (ds:=[.list b]) rfl (sX (es:=is.map oS) ec (by simp;omega) (by simp;omega)) (jo (ds:=[]) rfl (sX (es:=js.map oS) ed (by simp;omega) (by simp;omega)) rfl)).trans ?_)
 simp [oS,bh,eL]
theorem IB {n:Nat} (ih:∀ k,n=k+1->PB P k) {wh:Bool} {h:Hd} {c:Nat} (g:xP P n wh h c) (m M:Nat) (ar:List Bk) (acc:List W) (s0 s1 s5:Sl) (k:Int) (hm:n<=m) (hM:ar.length+n<=M) (h100:M<100) (hw:wh=true->∃ b∈ar,eC b=true) (hl:acc.length+c<899):∃ (is:List It) (s5':Sl),is.length=c/\(∀ i∈is,GI P M i)/\dz (b9 m) [s0,s1,.val (.tuple (ar.map eL)),.own acc,.val (ci k h),s5]=some (.nx [s0,s1,.val (.tuple (ar.map eL)),   .own (acc++is.map oS),.val (ci k h),s5'])/\SV n k h ar is:=by
 have al:∀ {x:It} {l:List It},GI P M x->(∀ i∈l,GI P M i)->∀ i∈x::l,GI P M i:=λ {x l} h1 h2 i hi=>(List.mem_cons.mp hi).elim (λ e=>e▸h1) (h2 i)
 have up:∀ x:Bk,wh=true->∃ b∈ar++[x],eC b=true:=λ x z=>by obtain ⟨b,hb,q⟩:=hw z;exact ⟨b,by simp [hb],q⟩
 cases g with
 | lf p hb=>exact ⟨[(k,h,ar)],s5,rfl,al (vg p hM hw) (λ i hi=>absurd hi List.not_mem_nil),mH hb (by omega) rfl,λ m acc s0 _ ha=>⟨_,.cons rfl .nil,HK hb (by simp at ha;omega)⟩⟩
 | @whl _ _ t a c p g=>
  obtain ⟨m,rfl⟩:∃ j,m=j+1:=⟨m-1,by omega⟩
  obtain ⟨is,l1,i1,ec,q1⟩:=wz (m:=m) (ih _ rfl) g (k,.whl t [.list (cS a)]) (by omega) hM h100 (λ _=>⟨_,List.mem_append.mpr (.inr (List.mem_singleton.mpr rfl)),rfl⟩) (by omega)
  exact ⟨_,_,by simp [l1],al (vg p hM hw) i1,yp rfl (by omega) (by omega) ec,λ m acc s0 hm ha=>by
   obtain ⟨m,rfl⟩:∃ j,m=j+1:=⟨m-1,by omega⟩
   obtain ⟨sp,r1,r2⟩:=q1 m (by omega)
   rw [IG] at r2
   exact ⟨_,.cons rfl r1,Hz r2 (by have:=r1.len;simp at ha;omega) (by omega)⟩⟩
 | @if1 _ _ t a c p g=>
  obtain ⟨m,rfl⟩:∃ j,m=j+1:=⟨m-1,by omega⟩
  obtain ⟨is,l1,i1,ec,q1⟩:=wz (m:=m) (ih _ rfl) g (k,.ifs t [.list (cS a),.none]) (by omega) hM h100 (up _) (by omega)
  exact ⟨_,_,by simp [l1],al (vg p hM hw) i1,yp rfl (by omega) (by omega) ec,λ m acc s0 hm ha=>by
   obtain ⟨m,rfl⟩:∃ j,m=j+1:=⟨m-1,by omega⟩
   obtain ⟨sp,r1,r2⟩:=q1 m (by omega)
   rw [Da] at r2
   exact ⟨_,.cons rfl r1,Hm r2 (by have:=r1.len;simp at ha;omega) (by omega)⟩⟩
 | @if2 _ _ t a b c c' p g g'=>
  obtain ⟨m,rfl⟩:∃ j,m=j+1:=⟨m-1,by omega⟩
  obtain ⟨is,l1,i1,ec,q1⟩:=wz (m:=m) (ih _ rfl) g (k,.ifs t [.list (cS a),.list (cS b)]) (by omega) hM h100 (up _) (by omega)
  obtain ⟨js,l2,i2,ed,q2⟩:=wz (m:=m) (ih _ rfl) g' (k,.ifs t [.list (cS a),.list (cS b)]) (by omega) hM h100 (up _) (by omega)
  exact ⟨_,_,by simp [l1,l2],al (vg p hM hw) (λ i hi=>(List.mem_append.mp hi).elim (i1 i) (i2 i)),Fp rfl (by omega) (by omega) ec ed,λ m acc s0 hm ha=>by
   obtain ⟨m,rfl⟩:∃ j,m=j+1:=⟨m-1,by omega⟩
   obtain ⟨sp,r1,r2⟩:=q1 m (by omega)
   obtain ⟨sq,r3,r4⟩:=q2 m (by omega)
   rw [Da] at r2 r4
   exact ⟨_,.cons rfl (r1.app r3),IA r2 r4 (by have:=r1.len;have:=r3.len;simp at ha;omega) (by omega)⟩⟩
theorem zE {n:Nat} (ih:∀ k,n=k+1->PB P k):PB P n:=λ wh l=>by
 induction l with
 | nil=>
  intro c g m M ar acc s0 s1 s4 s5 _ _ _ _ _
  cases g
  exact ⟨[],s4,s5,rfl,(λ i hi=>absurd hi List.not_mem_nil),by simp [cS,bh],λ m acc s0 s4 _ _=>⟨[],s4,.nil,by simp [cS,bh]⟩⟩
 | cons b l il=>
  intro c g m M ar acc s0 s1 s4 s5 hm hM h100 hw hl
  cases g with
  | cons g1 g2=>
   have p2:=Nat.zero_le 0
   obtain ⟨is,t5,l1,i1,e1,q1⟩:=IB ih g1 m M ar acc s0 s1 s5 _ hm hM h100 hw (by omega)
   obtain ⟨js,u4,u5,l2,i2,e2,q2⟩:=il _ g2 m M ar (acc++is.map oS) s0 s1 (.val (ci _ _)) t5 hm hM h100 hw (by simp;omega)
   refine ⟨is++js,u4,u5,by simp [l1,l2],λ i hi=>(List.mem_append.mp hi).elim (i1 i) (i2 i),?_,λ m acc s0 s4 hm ha=>?_⟩
   . refine (jo (δ2:=[s0,s1,.val (.tuple (ar.map eL)),.own acc,.val (ci _ _),s5]) rfl e1 e2).trans ?_
     simp
   . simp only [List.length_append] at ha
     obtain ⟨sp,r1,r2⟩:=q1 m acc s0 hm (by omega)
     have:=r1.len
     obtain ⟨sq,v4,r3,r4⟩:=q2 m (acc++sp) s0 (.val (ci _ _)) hm (by simp;omega)
     refine ⟨sp++sq,v4,r1.app r3,(jo (δ2:=[s0,.val (fI ar),.val (nT ar),.own acc,.val (ci _ _)]) rfl r2 r4).trans ?_⟩
     simp
theorem IC:∀ n,PB P n:=λ n=>by
 induction n with
 | zero=>exact zE λ k z=>by cases z
 | succ n ih=>exact zE λ k z=>by cases z;exact ih
theorem uQ {wh:Bool} {n:Nat} {l:List Bk} {c:Nat} (g:jF P n false l c) (hn:n<=6) (hc:c<899):∃ is:List It,is.length=c/\(∀ i∈is,GI P 6 i)/\b9 8 [.list (cS l),.none]=some (.list (is.map oS))/\∃ sp,uu is sp/\aH 7 [.list (cS l),fI [],.none]=some (.list sp):=by
 have z0:=sz 0 (by decide)
 obtain ⟨is,s4,s5,l1,i1,e,q⟩:=IC _ _ _ _ g 7 6 [] [] (.val (.list (cS l))) (.val .none) .no .no (by omega) (by simpa using hn) (by decide) (λ z=>by cases z) (by simpa using hc)
 refine ⟨is,l1,i1,?_,by obtain ⟨sp,u4,r1,r2⟩:=q 6 [] (.val (.list (cS l))) .no hn (by simp;omega);exact ⟨sp,r1,wf ⟨u4,r2⟩⟩⟩
 show bV 2 6 _ _=_
 refine aX rfl ?_
 refine ak (δ1:=[.val (.list (cS l)),.val .none,.val (.tuple []),.no,.no,.no]) (by first | rfl | simp! [bB,uD,if_pos z0]) ?_
 refine ak (δ1:=[.val (.list (cS l)),.val .none,.val (.tuple []),.own [],.no,.no]) (by first | rfl | simp! [uD,if_pos z0]) ?_
 refine ak (fg (ds:=cS l) (by first | rfl | simp! [uD]) e) ?_
 first | rfl | simp! [uD,List.nil_append]
end
noncomputable def xM:Tr->PyData
 | .num v=>.tuple [.str "num", .int v]
 | .sig k=>.tuple [.str (oV k)]
 | .nam x=>.tuple [.str "name", .str x]
 | .box _=>.none | .op _ _ _=>.none
noncomputable def AC:Tr->Bool
 | .num _=>true
 | .sig _=>true
 | .nam _=>true
 | _=>false
noncomputable def iV (j:Fin 3):Tr->Bool
 | .sig k=>k==j
 | .num _=>false | .nam _=>false | .box _=>false | .op _ _ _=>false
theorem jN:∀ (t:Tr),∀ l∈eM t,AC l=true
 | .num _,l,h=>by rw [List.mem_singleton.mp h];rfl
 | .sig _,l,h=>by rw [List.mem_singleton.mp h];rfl
 | .nam _,l,h=>by rw [List.mem_singleton.mp h];rfl
 | .box t,l,h=>jN t l h
 | .op _ a b,l,h=>by
  rcases List.mem_append.mp h with h | h
  . exact jN a l h
  . exact jN b l h
theorem Lp {t:Tr} (h:AC t=true):(tw t).py=some (xM t):=by
 cases t with
 | num v=>rfl
 | sig k=>rfl
 | nam x=>rfl
 | _=>cases h
theorem D9:∀ (l:List Tr),(∀ t∈l,AC t=true)->W.pys (l.map tw)=some (l.map xM)
 | [],_=>rfl
 | t::l,h=>by
  have ih:=D9 l λ u hu=>h u (by simp [hu])
  simp only [List.map_cons,W.pys,Lp (h t (by simp)),ih,Option.bind_some,Option.map_some]
noncomputable def J8 (t:Tr):Prop:=∀ x,t=.nam x->PyData.strOk x=true
theorem EX:∀ k:Fin 3,PyData.strOk (oV k)=true:=by decide +kernel
theorem Jv:PyData.strOk (Str.ofString "num")=true/\PyData.strOk (Str.ofString "name")=true:=by decide +kernel
theorem Hx {t:Tr} (h:AC t=true) (o:J8 t):(xM t).canLay0=true:=by
 cases t with
 | num v=>simp [xM,PyData.canLay0,PyData.canLayAll0,Jv]
 | sig k=>simp [xM,PyData.canLay0,PyData.canLayAll0,EX]
 | nam x=>simp [xM,PyData.canLay0,PyData.canLayAll0,Jv,o x rfl]
 | _=>cases h
theorem Aw:∀ (l:List Tr),(∀ t∈l,AC t=true/\J8 t)->PyData.canLayAll0 (l.map xM)=true
 | [],_=>rfl
 | t::l,h=>by
  have ih:=Aw l λ u hu=>h u (by simp [hu])
  have:=Hx (h t (by simp)).1 (h t (by simp)).2
  simp [PyData.canLayAll0,ih,this]
theorem MR:∀ j k:Fin 3,(oV k==oV j)=(k==j):=by decide +kernel
theorem Lv {t:Tr} (h:AC t=true) (j:Fin 3):PyData.eqv (xM t) (.tuple [.str (oV j)])=iV j t:=by
 cases t with
 | num v=>simp [xM,iV,PyData.eqv,PyData.eqvAll]
 | sig k=>simpa [xM,iV,PyData.eqv,PyData.eqvAll] using MR j k
 | nam x=>simp [xM,iV,PyData.eqv,PyData.eqvAll]
 | _=>cases h
theorem Dm (j:Fin 3):∀ (l:List Tr),(∀ t∈l,AC t=true)->((l.map xM).any λ y=>PyData.eqv y (.tuple [.str (oV j)]))=l.any (iV j)
 | [],_=>rfl
 | t::l,h=>by
  rw [List.map_cons,List.any_cons,List.any_cons,Lv (h t (by simp)),Dm j l λ u hu=>h u (by simp [hu])]
theorem CM (j:Fin 3) (l:List Tr) (h:∀ t∈l,AC t=true/\J8 t):ou (.tuple [.str (oV j)]) (.list (l.map tw))=some (l.any (iV j)):=by
 have c1:lQ (.tuple [.str (oV j)]) (.list (l.map tw))=none:=rfl
 have c2:(PyData.tuple [.str (oV j)]).canLay0=true:=by simp [PyData.canLay0,PyData.canLayAll0,EX]
 have c3:(PyData.tuple [.str (oV j)]).depth<=60:=by simp [PyData.depth,PyData.depthAll]
 have p1:(W.tuple [.str (oV j)]).py=some (.tuple [.str (oV j)]):=rfl
 simp only [ou,c1,iQ,Option.bind_some,p1,D9 l λ t ht=>(h t ht).1,c2,Aw l h,c3,decide_true,Bool.and_self,if_true,Dm j l λ t ht=>(h t ht).1]
noncomputable def own (t:Tr):Bool:=(eM t).any (iV 0)||(eM t).any (iV 2)
noncomputable def jD (nm y:Str):W:=.tuple [.str "name", .str nm,.str y]
noncomputable def cs (nm:Str) (t:Tr):List W:=if own t=true then [.none] else (pZ t).map (jD nm)
noncomputable def CL (t:Tr):Prop:=∀ x∈pZ t,PyData.strOk x=true
theorem zx {t:Tr} (h:CL t):∀ l∈eM t,AC l=true/\J8 l:=λ l hl=>⟨jN t l hl,λ x e=>h x (by subst e;exact List.mem_filterMap.mpr ⟨_,hl,rfl⟩)⟩
theorem Aa (nm:Str):∀ (l:List Tr),b6 (ae 1) (ay b8 (av aP (au 1) (dC (.int (0)))) (dC (.str "name"))) (aG (aa (dC (.str "name")) (aa (ac 0) (aa (av aP (au 1) (dC (.int (1)))) af)))) [.val (.str nm),.no] (l.map tw)=some ((xQ l).map (jD nm))
 | []=>rfl
 | t::l=>by
  have ih:=Aa nm l
  have z3:=sz 3 (by decide)
  cases t with
  | num v=>simp! [List.map_cons,b6,tw,uD,qO,Mj,ih];simp [xQ]
  | sig k=>simp! [List.map_cons,b6,tw,uD,qO,Mx,ih];simp [xQ]
  | nam x=>simp! [List.map_cons,b6,tw,uD,qO,Di,decide_true,if_pos z3,ih];simp [xQ,jD]
  | box t=>simp! [List.map_cons,b6,tw,uD,qO,Mp,ih];simp [xQ]
  | op k a b=>simp! [List.map_cons,b6,tw,uD,qO,Mq,ih];simp [xQ]
theorem mD (nm:Str) (t:Tr) (hd:om t<9) (hc:mm t<=300) (ho:CL t):bG [.str nm,tw t]=some (.list (cs nm t)):=by
 have z1:=sz 1 (by decide)
 have lv:=gS t 9 hd (by omega)
 have zl:((eM t).map tw).length<=sizeLine:=sz _ (by have:=fO t;simp;omega)
 have i0:ou (.tuple [.str "lane"]) (.list ((eM t).map tw))=some ((eM t).any (iV 0)):=CM 0 (eM t) (zx ho)
 have i2:ou (.tuple [.str "mine"]) (.list ((eM t).map tw))=some ((eM t).any (iV 2)):=CM 2 (eM t) (zx ho)
 have nk:=Aa nm (eM t)
 refine aX rfl ?_
 refine ak (δ1:=[.val (.str nm),.val (tw t),.val (.list ((eM t).map tw)),.no]) (by first | rfl | simp! [uD,bB,lv]) ?_
 refine ak (δ1:=[.val (.str nm),.val (tw t),.val (.list ((eM t).map tw)),.val (.list ((pZ t).map (jD nm)))]) (aO (d:=.list ((pZ t).map (jD nm))) ?_ rfl) (bp ?_)
 . simp! [uD,if_pos zl]
   rw [nk]
   rfl
 . have t1:lS (ay ou (aG (aa (dC (.str "lane")) af)) (au 2)) (ay ou (aG (aa (dC (.str "mine")) af)) (au 2)) [.val (.str nm),.val (tw t),.val (.list ((eM t).map tw)),.val (.list ((pZ t).map (jD nm)))]=some (own t):=by
    unfold own
    cases h0:(eM t).any (iV 0) with
    | true=>simp! [uD,if_pos z1,i0,h0,Bool.true_or]
    | false=>simp! [uD,if_pos z1,i0,i2,h0,Bool.false_or]
   unfold cs
   cases hw:own t with
   | true=>rw [hw] at t1;simp only [AY,t1];simp! [uD,if_pos z1]
   | false=>rw [hw] at t1;simp only [AY,t1];simp! [uD]
theorem z9 {fo fk fx:DS->ag->SM W} {δ:DS} {S S3:ag} {d:Nat} {kvs:List (List aF×W)} {y z:W} {k:List aF} (h1:fo δ S=some (.ok (.ref d),S)) (hd:S[d]?=some (.dN kvs)) (h2:fk δ S=some (.ok y,S)) (h3:fx δ S=some (.ok z,S3)) (hd3:S3[d]?=some (.dN kvs)) (hk:eU y=some k) (hl:kvs.length<9000):
 pY fo fk fx δ S=match bg kvs k with
  | some v=>some (.ok v,S3)
  | none=>some (.ok z,S3.set d (.dN (cV kvs k z))):=by
 have a1:kD (.ref d) S=some (d,kvs):=by simp [kD,eQ,hd]
 have a3:kD (.ref d) S3=some (d,kvs):=by simp [kD,eQ,hd3]
 have hz:kvs.length<sizeLine:=Nat.lt_of_lt_of_le hl (sz 9000 (by decide))
 simp only [pY,h1,ao,a1,Option.isSome_some,if_true,h2,h3,a3,Option.bind_some,hk,if_pos hz]
 all_goals (cases bg kvs k <;> rfl)
theorem oF {fo:DS->ag->SM W} {fv:DS->ag->SM W} {δ:DS} {S S1:ag} {l:Nat} {q:List W} {d:W} (h1:fo δ S=some (.ok (.ref l),S1)) (h2:S1[l]?=some (.lst q)) (h3:fv δ S1=some (.ok d,S1)) (h4:q.length<9000):cJ fo fv δ S=some (.nx δ,S1.set l (.lst (q++[d]))):=by
 have hz:q.length<sizeLine:=Nat.lt_of_lt_of_le h4 (sz 9000 (by decide))
 simp only [cJ,h1,jm,eS h2,Option.isSome_some,if_true,h3,Option.bind_some,if_pos hz,Option.map_some]
noncomputable def mX (E:List (List aF×W)) (k:List aF):List W:=(E.filter λ e=>decide (e.1=k)).map (·.2)
theorem gj (E:List (List aF×W)) (k q:List aF) (x:W):mX (E++[(k,x)]) q=if q=k then mX E q++[x] else mX E q:=by
 unfold mX
 rw [List.filter_append,List.map_append]
 by_cases h:q=k
 . subst h;simp
 . have h':¬ k=q:=λ z=>h z.symm
   simp [h,h']
theorem Af (E:List (List aF×W)) (k:List aF):(mX E k).length<=E.length:=by
 unfold mX
 rw [List.length_map]
 exact List.length_filter_le _ _
noncomputable def Ks:Ob->Bool
 | .dK _=>true
 | .dT _=>true
 | _=>false
structure LK (D:Nat->Option Ob) (S:ag) (I d:Nat) (kvs:List (List aF×W)) (E:List (List aF×W)):Prop where
 hI:S[I]?=some (.ins (Str.ofString "Links") [(Str.ofString "behind", .ref d)])
 hd:S[d]?=some (.dN kvs)
 hl:kvs.length<=E.length
 nn:∀ k,bg kvs k=none->mX E k=[]
 ss:∀ k v,bg kvs k=some v->∃ l,v=.ref l/\S[l]?=some (.lst (mX E k))
 one:∀ k k' l,bg kvs k=some (.ref l)->bg kvs k'=some (.ref l)->k=k'
 kp:∀ m o,D m=some o->S[m]?=some o/\Ks o=true
section
variable {D:Nat->Option Ob}
theorem Im {S:ag} {I:Nat} {fs:List (Str×W)} (h:S[I]?=some (.ins (Str.ofString "Links") fs)):gY (Str.ofString "Links") (.ref I) S=some (I,fs):=by simp [gY,eQ,h]
theorem DY (d:Nat):List.lookup (Str.ofString "behind") [(Str.ofString "behind", W.ref d)]=some (.ref d):=by simp [List.lookup]
theorem yt {S:ag} {I d:Nat} {kvs E:List (List aF×W)} (h:LK D S I d kvs E) (s1:Sl) (key line c:W) (k:List aF) (hk:eU c=some k) (hE:E.length<8000):∃ S' kvs',fW [.val (.ref I),s1,.val key,.val line,.val c] S=some (.nx [.val (.ref I),s1,.val key,.val line,.val c],S')/\LK D S' I d kvs' (E++[(k,.tuple [key,line])]):=by
 have z0:=sz 0 (by decide)
 have z2:=sz 2 (by decide)
 let δ:DS:=[.val (.ref I),s1,.val key,.val line,.val c]
 have hlt:d<S.length:=(oG h.hd).1
 have f1:nu "Links" "behind" (ab (ac 0)) δ S=some (.ok (.ref d),S):=by first | rfl | simp! [δ,uS,uD,Im h.hI,DY]
 have f3:dE (ab af) δ S=some (.ok (.ref S.length),S++[.lst []]):=by first | rfl | simp! [δ,uS,uD,if_pos z0]
 have dd:=z9 (fk:=ab (ac 4)) f1 h.hd rfl f3 (aW h.hd) hk (by have:=h.hl;omega)
 have tv:∀ S1,ab (aG (aa (ac 2) (aa (ac 3) af))) δ S1=some (.ok (.tuple [key,line]),S1):=λ S1=>by simp! [δ,uS,uD,if_pos z2]
 have el:=Af E k
 cases hv:bg kvs k with
 | some v=>
  obtain ⟨l,rfl,hl⟩:=h.ss k v hv
  rw [hv] at dd
  refine ⟨_,kvs,oF dd (aW hl) (tv _) (by omega),?_⟩
  have hne:∀ {m o},S[m]?=some o->o≠.lst (mX E k)->l≠m:=λ hm ho=>bN hl hm λ z=>ho z.symm
  refine ⟨set_ne' (aW h.hI) (hne h.hI (by simp)),set_ne' (aW h.hd) (hne h.hd (by simp)),by have:=h.hl;simp;omega,λ q hq=>?_,λ q w hq=>?_,h.one,λ m o hm=>⟨set_ne' (aW (h.kp m o hm).1) (hne (h.kp m o hm).1 (λ z=>by have:=(h.kp m o hm).2;rw [z] at this;cases this)),(h.kp m o hm).2⟩⟩
  . have:q≠k:=λ z=>by subst z;rw [hv] at hq;cases hq
    rw [gj,if_neg this]
    exact h.nn q hq
  . obtain ⟨l',rfl,hl'⟩:=h.ss q w hq
    refine ⟨l',rfl,?_⟩
    rw [gj]
    by_cases e:q=k
    . subst e
      rw [hv] at hq
      cases hq
      rw [if_pos rfl]
      exact set_eq' (aW hl)
    . rw [if_neg e]
      exact set_ne' (aW hl') λ z=>e (h.one q k l' hq (by rw [hv,z]))
 | none=>
  rw [hv] at dd
  have pk:=kY (W.ref S.length) hv
  rw [pk] at dd
  have e0:=h.nn k hv
  have n1:((S++[Ob.lst []]:ag).set d (Ob.dN (kvs++[(k,W.ref S.length)])))[S.length]?=some (Ob.lst []):=set_ne' (bO _ _) (by omega)
  have hIl:I<S.length:=(oG h.hI).1
  have hId:d≠I:=bN h.hd h.hI (by simp)
  refine ⟨_,kvs++[(k,.ref S.length)],oF dd n1 (tv _) (by simp),?_⟩
  refine ⟨set_ne' (set_ne' (aW h.hI) hId) (by omega),set_ne' (set_eq' (aW h.hd)) (by omega),by have:=h.hl;simp;omega,λ q hq=>?_,λ q w hq=>?_,λ q q' l hq hq'=>?_,λ m a hm=>?_⟩
  . rw [dj kvs k q _ hv] at hq
    by_cases e:q=k
    . rw [if_pos e] at hq;cases hq
    . rw [if_neg e] at hq
      rw [gj,if_neg e]
      exact h.nn q hq
  . rw [dj kvs k q _ hv] at hq
    by_cases e:q=k
    . subst e
      rw [if_pos rfl] at hq
      cases hq
      refine ⟨S.length,rfl,?_⟩
      rw [gj,if_pos rfl,e0]
      exact set_eq' n1
    . rw [if_neg e] at hq
      obtain ⟨l',rfl,hl'⟩:=h.ss q w hq
      have:l'<S.length:=(oG hl').1
      refine ⟨l',rfl,?_⟩
      rw [gj,if_neg e]
      exact set_ne' (set_ne' (aW hl') (bN h.hd hl' (by simp))) (by omega)
  . have lo:∀ q,bg kvs q=some (.ref l)->l<S.length:=λ q hq=>by
     obtain ⟨l',e,hl'⟩:=h.ss q _ hq
     cases e
     exact (oG hl').1
    rw [dj kvs k q _ hv] at hq
    rw [dj kvs k q' _ hv] at hq'
    by_cases e:q=k <;> by_cases e':q'=k
    . rw [e,e']
    . rw [if_pos e] at hq;rw [if_neg e'] at hq';cases hq;exact absurd (lo q' hq') (by omega)
    . rw [if_neg e] at hq;rw [if_pos e'] at hq';cases hq';exact absurd (lo q hq) (by omega)
    . rw [if_neg e] at hq;rw [if_neg e'] at hq';exact h.one q q' l hq hq'
  . have g:=(h.kp m a hm).1
    have q:=(h.kp m a hm).2
    have:m<S.length:=(oG g).1
    exact ⟨set_ne' (set_ne' (aW g) (bN h.hd g (λ z=>by rw [<-z] at q;cases q))) (by omega),q⟩
theorem rn {I d:Nat} (s1:Sl) (key line:W):∀ (kc:List (W×List aF)) (S:ag) (kvs E:List (List aF×W)) (s4:Sl),(∀ p∈kc,eU p.1=some p.2)->E.length+kc.length<=8000->LK D S I d kvs E->∃ S' kvs' s4',bv (ae 4) fW (kc.map (·.1)) [.val (.ref I),s1,.val key,.val line,s4] S=some (.nx [.val (.ref I),s1,.val key,.val line,s4'],S')/\LK D S' I d kvs' (E++kc.map λ p=>(p.2,.tuple [key,line]))
 | [],S,kvs,E,s4,_,_,h=>⟨S,kvs,s4,rfl,by simpa using h⟩
 | p::kc,S,kvs,E,s4,hk,hl,h=>by
  simp only [List.length_cons] at hl
  obtain ⟨S1,kvs1,e1,h1⟩:=yt h s1 key line p.1 p.2 (hk p (by simp)) (by omega)
  obtain ⟨S',kvs',s4',e2,h2⟩:=rn s1 key line kc S1 kvs1 _ (.val p.1) (λ q hq=>hk q (by simp [hq])) (by simp;omega) h1
  exact ⟨S',kvs',s4',(bx rfl e1).trans e2,by simpa using h2⟩
theorem K8:(Str.ofString "add" == Str.ofString "behind")=false:=by decide +kernel
theorem Ky {I d:Nat} {S:ag} {kvs E:List (List aF×W)} (h:LK D S I d kvs E) (kc:List (W×List aF)) (hk:∀ p∈kc,eU p.1=some p.2) (hl:E.length+kc.length<=8000) (key line:W) {fo:DS->Option W} {fa:DS->ag->SM (List W)} {δ:DS} (h1:fo δ=some (.ref I)) (h2:fa δ S=some (.ok [.list (kc.map (·.1)),key,line],S)):
 ∃ S' kvs',b5 (cH "Links" "add" aQ (ab fo) fa) δ S=some (.nx δ,S')/\LK D S' I d kvs' (E++kc.map λ p=>(p.2,.tuple [key,line])):=by
 obtain ⟨S',kvs',s4',e,g⟩:=rn (.val (.list (kc.map (·.1)))) key line kc S kvs E .no hk hl h
 refine ⟨S',kvs',iO (d:=.none) (zA h1 h.hI (by simp [List.lookup,K8]) h2 ?_),g⟩
 refine (bi rfl).trans ((congrArg eA (?_:_=some (.nx [.val (.ref I),.val (.list (kc.map (·.1))),.val key,.val line,s4'],S'))).trans rfl)
 exact (cv (S1:=S) (ds:=kc.map (·.1)) (by first | rfl | simp! [uS,uD,bB])).trans e
end
noncomputable def mW (nm:Str):W:=.tuple [.str "def", .str nm]
noncomputable def o6 (nm:Str):List aF:=[Sum.inr (Str.ofString "def"),Sum.inr nm]
noncomputable def vE (nm:Str):W:=.tuple [.str "back", .str nm]
noncomputable def uw (nm:Str):List aF:=[Sum.inr (Str.ofString "back"),Sum.inr nm]
noncomputable def rS (k:Int):W:=.tuple [.str "row", .int k]
noncomputable def qQ (k:Int):List aF:=[Sum.inr (Str.ofString "row"),Sum.inl k]
noncomputable def mj (nm y:Str):List aF:=[Sum.inr (Str.ofString "name"),Sum.inr nm,Sum.inr y]
noncomputable abbrev En:=W×List aF×W
noncomputable def CS (e:En):W:=.tuple [e.1,e.2.2]
noncomputable def iH (EE:List (List aF×En)):List (List aF×W):=EE.map λ e=>(e.1,CS e.2)
theorem B8 (a b:List (List aF×En)):iH (a++b)=iH a++iH b:=by simp [iH]
noncomputable def gJ (kc:List (W×List aF)) (kw:W) (kk:List aF) (ln:Int):List (List aF×En):=kc.map λ c=>(c.2,(kw,kk,.int ln))
noncomputable def dH (nm:Str) (ar:List Bk):List (W×List aF):=(mW nm,o6 nm)::ar.map λ b=>(rS b.1,qQ b.1)
noncomputable def lC (nm:Str) (t:Tr):List (W×List aF):=if own t=true then [(.none,[])] else (pZ t).map λ y=>(jD nm y,mj nm y)
theorem mf (nm:Str) (t:Tr):∀ p∈lC nm t,eU p.1=some p.2:=λ p hp=>by
 unfold lC at hp
 split at hp
 . rw [List.mem_singleton.mp hp];rfl
 . obtain ⟨y,_,rfl⟩:=List.mem_map.mp hp
   rfl
theorem Dd (nm:Str) (t:Tr):(lC nm t).map (·.1)=cs nm t:=by
 unfold lC cs
 split <;> simp [List.map_map]
theorem mw (nm:Str) (t:Tr):(lC nm t).length<=mm t:=by
 have h1:(pZ t).length<=mm t:=Nat.le_trans (List.length_filterMap_le _ _) (fO t)
 have h2:1<=mm t:=by cases t <;> simp [mm]
 unfold lC
 split <;> simp <;> omega
theorem zT (nm:Str) (ar:List Bk):∀ p∈dH nm ar,eU p.1=some p.2:=λ p hp=>by
 rcases List.mem_cons.mp hp with rfl | hp
 . rfl
 . obtain ⟨b,_,rfl⟩:=List.mem_map.mp hp
   rfl
theorem qU:∀ (ar:List Bk),b6 (ae 0) gR (aG (aa (dC (.str "row")) (aa (av aP (au 0) (dC (.int (1)))) af))) [.no] (ar.map eL)=some (ar.map λ b=>rS b.1)
 | []=>rfl
 | b::ar=>by
  have z2:=sz 2 (by decide)
  have ih:=qU ar
  simp! [List.map_cons,b6,eL,ci,uD,Di,if_pos z2] at ih ⊢
  rw [ih]
  rfl
theorem BS (nm:Str) (ar:List Bk) (hl:ar.length<=100):nF [.str nm,.tuple (ar.map eL)]=some (.list ((dH nm ar).map (·.1))):=by
 have z1:=sz 1 (by decide)
 have z2:=sz 2 (by decide)
 have zl:(ar.map eL).length<=sizeLine:=sz _ (by simp;omega)
 have ga:bQ (.list [mW nm]) (.list (ar.map λ b=>rS b.1))=some (.list ((dH nm ar).map (·.1))):=by
  rw [nJ (sz _ (by simp;omega))]
  simp [dH,List.map_map,Function.comp_def]
 refine aX rfl (bp ?_)
 have c1:ba (gg [none] (bz (au 1)) (ae 0) gR (aG (aa (dC (.str "row")) (aa (av aP (au 0) (dC (.int (1)))) af)))) (bB 2 [.str nm,.tuple (ar.map eL)])=some (.list (ar.map λ b=>rS b.1)):=by
  simp! [bB,uD,if_pos zl]
  rw [qU ar]
  rfl
 have c2:ba (bm (aa (aG (aa (dC (.str "def")) (aa (ac 0) af))) af)) (bB 2 [.str nm,.tuple (ar.map eL)])=some (.list [mW nm]):=by
  first | rfl | (simp! [bB,uD,if_pos z1,if_pos z2];rfl)
 simp only [av,c1,c2,Option.bind_some,ga]
noncomputable def cO (ar:List Bk):Int:=((ar.filter eC).map (·.1)).getLast?.getD 0
theorem we:∀ (ar:List Bk),b6 (ae 0) (ay b8 (av aP (au 0) (dC (.int (0)))) (dC (.str "while"))) (av aP (au 0) (dC (.int (1)))) [.no] (ar.map eL)=some ((ar.filter eC).map λ b=>.int b.1)
 | []=>rfl
 | b::ar=>by
  have ih:=we ar
  have q:=(kq (aE b.2)).1
  by_cases h:aE b.2=11
  . rw [decide_eq_true h] at q
    have:eC b=true:=by simp [eC,h]
    simp! [List.map_cons,b6,eL,ci,uD,qO,Di,q] at ih ⊢
    rw [ih]
    simp [this]
  . rw [decide_eq_false h] at q
    have:eC b=false:=by simp [eC,h]
    simp! [List.map_cons,b6,eL,ci,uD,qO,Di,q] at ih ⊢
    rw [ih]
    simp [this]
theorem CF (ar:List Bk) (h:∃ b∈ar,eC b=true):fK ((ar.filter eC).map λ b=>W.int b.1) (-1)=some (.int (cO ar)):=by
 obtain ⟨b,hb,hw⟩:=h
 have hm:b∈ar.filter eC:=List.mem_filter.mpr ⟨hb,hw⟩
 rcases List.eq_nil_or_concat (ar.filter eC) with e | ⟨l,c,e⟩
 . rw [e] at hm;cases hm
 . unfold cO
   rw [e,List.concat_eq_append,List.map_append,List.map_append]
   simp only [List.map_cons,List.map_nil]
   rw [Ia]
   simp
noncomputable def gd (t:Tr) (d c:Nat):Prop:=om t<=d/\mm t<=c/\CL t
noncomputable def tX (nm:Str) (k:Int) (ar:List Bk):Option Str->List (List aF×En)
 | some x=>gJ (dH nm ar) (jD nm x) (mj nm x) k
 | none=>[]
noncomputable def HN (nm:Str) (k:Int) (ar:List Bk):Hd->List (List aF×En)
 | .call _ f _=>gJ (dH nm ar) (mW f) (o6 f) k
 | _=>[]
noncomputable def pW (nm:Str) (k:Int) (h:Hd) (ar:List Bk):List (List aF×En):=
 tX nm k ar (uc h)++((if aE h=4∨aE h=5 then gJ (dH nm ar) (rS (cO ar)) (qQ (cO ar)) k else [])++((if aE h=3 then gJ (dH nm ar) (mW nm) (o6 nm) k else [])++HN nm k ar h))
noncomputable def eB (nm:Str) (k:Int):Hd->List (List aF×En)
 | .ifs t _=>gJ (lC nm t) (rS k) (qQ k) k
 | .whl t _=>gJ (lC nm t) (rS k) (qQ k) k
 | .ret t=>gJ (lC nm t) (vE nm) (uw nm) k
 | .set x t=>gJ (lC nm t) (jD nm x) (mj nm x) k
 | .join x j _=>if j=Str.ofString "ahead" then gJ [(.none,[])] (jD nm x) (mj nm x) k else []
 | _=>[]
noncomputable def Hy (nm:Str) (k:Int) (f:Str) (ps:List Str) (ts:List Tr):List (List aF×En):=(ps.zip ts).flatMap λ p=>gJ (lC nm p.2) (jD f p.1) (mj f p.1) k
noncomputable def vK (nm:Str) (k:Int) (ps:List Str):Hd->List (List aF×En)
 | .call x f ts=>gJ [(vE f,uw f)] (jD nm x) (mj nm x) k++Hy nm k f ps ts
 | _=>[]
section
variable {D:Nat->Option Ob} {I d:Nat} {S:ag} {kvs:List (List aF×W)} {EE:List (List aF×En)}
theorem mE (h:LK D S I d kvs (iH EE)) (kc:List (W×List aF)) (hk:∀ p∈kc,eU p.1=some p.2) (hl:EE.length+kc.length<=8000) (kw:W) (kk:List aF) (ln:Int) {fo:DS->Option W} {fa:DS->ag->SM (List W)} {δ:DS} (h1:fo δ=some (.ref I)) (h2:fa δ S=some (.ok [.list (kc.map (·.1)),kw,.int ln],S)):
 ∃ S' kvs',b5 (cH "Links" "add" aQ (ab fo) fa) δ S=some (.nx δ,S')/\LK D S' I d kvs' (iH (EE++gJ kc kw kk ln)):=by
 obtain ⟨S',kvs',e,g⟩:=Ky h kc hk (by simpa [iH] using hl) kw (.int ln) h1 h2
 refine ⟨S',kvs',e,?_⟩
 rw [B8]
 simpa [iH,gJ,CS,List.map_map,Function.comp_def] using g
theorem lE {c:DS->ag->SM Bool} {act:DS->ag->SO} {δ:DS} {b:Bool} (hc:c δ S=some (.ok b,S)) (h:LK D S I d kvs (iH EE)) {X:List (List aF×En)} (ha:b=true->∃ S' kvs',act δ S=some (.nx δ,S')/\LK D S' I d kvs' (iH (EE++X))) (hx:b=false->X=[]):∃ S' kvs',bX c act (aq aw) δ S=some (.nx δ,S')/\LK D S' I d kvs' (iH (EE++X)):=by
 cases b with
 | true=>
  obtain ⟨S',kvs',e,g⟩:=ha rfl
  exact ⟨S',kvs',(cU hc).trans e,g⟩
 | false=>exact ⟨S,kvs,(bw hc).trans rfl,by rw [hx rfl,List.append_nil];exact h⟩
end
theorem Hn (x:Str):eZ (.str x) .none=some true:=by first | rfl | simp [eZ]
theorem I9:eZ .none .none=some false:=by first | rfl | simp [eZ]
theorem MH (h:Hd):eZ (ud h) .none=some (uc h).isSome:=by
 unfold ud
 cases uc h with
 | some x=>exact Hn x
 | none=>exact I9
theorem LC {h:Hd} (nm:Str) (k:Int) (ar:List Bk) (e:aE h=9):∃ f x l,rs h=x::W.str f::l/\HN nm k ar h=gJ (dH nm ar) (mW f) (o6 f) k:=by
 cases h with
 | call x f ts=>exact ⟨f,_,_,rfl,rfl⟩
 | _=>exact nomatch (show false=true from decide_eq_true e)
theorem IY {h:Hd} (nm:Str) (k:Int) (ar:List Bk) (e:aE h≠9):HN nm k ar h=[]:=by
 cases h with
 | call x f ts=>exact absurd rfl e
 | _=>rfl
theorem dy (kc:List (W×List aF)) (kw:W) (kk:List aF) (ln:Int):(gJ kc kw kk ln).length=kc.length:=by simp [gJ]
theorem rA (nm:Str) (ar:List Bk):(dH nm ar).length=ar.length+1:=by simp [dH]
section
variable {D:Nat->Option Ob} {I d:Nat} {S:ag} {kvs:List (List aF×W)} {EE:List (List aF×En)}
noncomputable def xL (I:Nat) (nm:Str) (k:Int) (h:Hd) (ar:List Bk) (s7:Sl):DS:=[.val (.ref I),.val (.str nm),.val (ci k h),.val (.tuple (ar.map eL)),.val (.list ((dH nm ar).map (·.1))),.val (.int k),.val (ud h),s7]
theorem yP (h:LK D S I d kvs (iH EE)) (hl:EE.length+50<=8000) (nm:Str) (k:Int) (hd:Hd) (ar:List Bk) (ha:ar.length<=6) (hb:aE hd=4∨aE hd=5->∃ b∈ar,eC b=true):∃ S' kvs',jv [.ref I,.str nm,ci k hd,.tuple (ar.map eL)] S=some (.ok .none,S')/\LK D S' I d kvs' (iH (EE++pW nm k hd ar)):=by
 have wl:=rA nm ar
 have wk:=zT nm ar
 have wr:=BS nm ar (by omega)
 have gr:=xf k hd
 let W4:W:=.list ((dH nm ar).map (·.1))
 have a0:∀ s7,av aP (au 2) (dC (.int (0))) (xL I nm k hd ar s7)=some (.str (dP (aE hd))):=λ s7=>x0 rfl
 obtain ⟨S1,kvs1,e1,h1⟩:=lE (c:=ab (ay eZ (au 6) (dC .none))) (act:=b5 (cH "Links" "add" aQ (ab (ac 0)) (ab (aa (ac 4) (aa (aG (aa (dC (.str "name")) (aa (ac 1) (aa (ac 6) af)))) (aa (ac 5) af)))))) (δ:=xL I nm k hd ar .no) (b:=(uc hd).isSome) (X:=tX nm k ar (uc hd)) (ai (A8 rfl rfl (MH hd))) h (λ hb=>by
  cases hg:uc hd with
  | none=>rw [hg] at hb;cases hb
  | some x=>
   have gw:ud hd=.str x:=by simp [ud,hg]
   exact mE h (dH nm ar) wk (by omega) (jD nm x) (mj nm x) k rfl (ai (sM rfl (qd rfl rfl (congrArg some gw)) rfl))) (λ hb=>by cases hg:uc hd with | none=>rfl | some x=>rw [hg] at hb;cases hb)
 have l1:(tX nm k ar (uc hd)).length<=7:=by
  cases uc hd with
  | some x=>simp only [tX,dy];omega
  | none=>simp [tX]
 generalize hX:(tX nm k ar (uc hd))=X1 at h1 l1
 have st2:∃ s7 S2 kvs2,bX (ab (ay lQ (av aP (au 2) (dC (.int (0)))) (aG (aa (dC (.str "break")) (aa (dC (.str "again")) af))))) (aC (aq (aD (ba (gg [none] (bz (au 3)) (ae 0) (ay b8 (av aP (au 0) (dC (.int (0)))) (dC (.str "while"))) (av aP (au 0) (dC (.int (1)))))) (ae 7))) (b5 (cH "Links" "add" aQ (ab (ac 0)) (ab (aa (ac 4) (aa (aG (aa (dC (.str "row")) (aa (av aP (au 7) (AG lU (dC (.int (1))))) af))) (aa (ac 5) af))))))) (aq aw) (xL I nm k hd ar .no) S1=some (.nx (xL I nm k hd ar s7),S2)/\LK D S2 I d kvs2 (iH (EE++X1++if aE hd=4∨aE hd=5 then gJ (dH nm ar) (rS (cO ar)) (qQ (cO ar)) k else [])):=by
  have t:ay lQ (av aP (au 2) (dC (.int (0)))) (aG (aa (dC (.str "break")) (aa (dC (.str "again")) af))) (xL I nm k hd ar .no)=some (decide (aE hd=4∨aE hd=5)):=A8 (a0 _) (ie rfl rfl) (ki (aE hd)).2.1
  by_cases hc:aE hd=4∨aE hd=5
  . rw [decide_eq_true hc] at t
    have la:=CF ar (hb hc)
    let wh:W:=.list ((ar.filter eC).map λ b=>.int b.1)
    obtain ⟨S2,kvs2,e2,h2⟩:=mE h1 (dH nm ar) wk (by rw [List.length_append];omega) (rS (cO ar)) (qQ (cO ar)) k (fo:=ac 0) (fa:=(ab (aa (ac 4) (aa (aG (aa (dC (.str "row")) (aa (av aP (au 7) (AG lU (dC (.int (1))))) af))) (aa (ac 5) af))))) (δ:=xL I nm k hd ar (.val wh)) rfl (ai (sM rfl (ie rfl (qA rfl rfl la)) rfl))
    exact ⟨.val wh,S2,kvs2,(cU (ai t)).trans ((ah (δ':=xL I nm k hd ar (.val wh)) (S':=S1) (aM (aO (d:=wh) (HC rfl (by rw [List.length_map];omega) (we ar)) rfl))).trans e2),by rw [if_pos hc];exact h2⟩
  . rw [decide_eq_false hc] at t
    exact ⟨.no,S1,kvs1,(bw (ai t)).trans rfl,by rw [if_neg hc,List.append_nil];exact h1⟩
 obtain ⟨s7,S2,kvs2,e2,h2⟩:=st2
 have l2:(if aE hd=4∨aE hd=5 then gJ (dH nm ar) (rS (cO ar)) (qQ (cO ar)) k else []).length<=7:=by
  split
  . simp only [dy];omega
  . simp
 generalize hX2:(if aE hd=4∨aE hd=5 then gJ (dH nm ar) (rS (cO ar)) (qQ (cO ar)) k else [])=X2 at h2 l2
 obtain ⟨S3,kvs3,e3,h3⟩:=lE (c:=ab (ay b8 (av aP (au 2) (dC (.int (0)))) (dC (.str "return")))) (act:=b5 (cH "Links" "add" aQ (ab (ac 0)) (ab (aa (ac 4) (aa (aG (aa (dC (.str "def")) (aa (ac 1) af))) (aa (ac 5) af)))))) (δ:=xL I nm k hd ar s7) (b:=decide (aE hd=3)) (X:=if aE hd=3 then gJ (dH nm ar) (mW nm) (o6 nm) k else []) (ai (by rw [tD (a0 s7),(kq _).2.2.1])) h2 (λ hb=>by
  rw [if_pos (of_decide_eq_true hb)]
  exact mE h2 (dH nm ar) wk (by simp only [List.length_append];omega) (mW nm) (o6 nm) k rfl (ai (sM rfl (ie rfl rfl) rfl))) (λ hb=>if_neg (of_decide_eq_false hb))
 have l3:(if aE hd=3 then gJ (dH nm ar) (mW nm) (o6 nm) k else []).length<=7:=by
  split
  . simp only [dy];omega
  . simp
 generalize hX3:(if aE hd=3 then gJ (dH nm ar) (mW nm) (o6 nm) k else [])=X3 at h3 l3
 obtain ⟨S4,kvs4,e4,h4⟩:=lE (c:=ab (ay b8 (av aP (au 2) (dC (.int (0)))) (dC (.str "call")))) (act:=b5 (cH "Links" "add" aQ (ab (ac 0)) (ab (aa (ac 4) (aa (aG (aa (dC (.str "def")) (aa (av aP (au 2) (dC (.int (3)))) af))) (aa (ac 5) af)))))) (δ:=xL I nm k hd ar s7) (b:=decide (aE hd=9)) (X:=HN nm k ar hd) (ai (by rw [tD (a0 s7),(kq _).2.2.2.1])) h3 (λ hb=>by
  obtain ⟨f,x,l,er,et⟩:=LC nm k ar (of_decide_eq_true hb)
  rw [et]
  have p2:au 2 (xL I nm k hd ar s7)=some (.tuple (.str (dP (aE hd))::.int k::x::.str f::l)):=by rw [<-er];rfl
  exact mE h3 (dH nm ar) wk (by simp only [List.length_append];omega) (mW f) (o6 f) k rfl (ai (sM rfl (ie rfl (x3 p2)) rfl))) (λ hb=>IY nm k ar (of_decide_eq_false hb))
 refine ⟨S4,kvs4,?_,?_⟩
 . refine (bi rfl).trans ((congrArg eA (?_:_=some (.nx (xL I nm k hd ar s7),S4))).trans rfl)
   refine (ah (δ':=[.val (.ref I),.val (.str nm),.val (ci k hd),.val (.tuple (ar.map eL)),.val W4,.no,.no,.no]) (S':=S) (aM (aO (hU rfl wr) rfl))).trans ?_
   refine (ah (δ':=[.val (.ref I),.val (.str nm),.val (ci k hd),.val (.tuple (ar.map eL)),.val W4,.val (.int k),.no,.no]) (S':=S) (aM (aO (x1 rfl) rfl))).trans ?_
   refine (ah (δ':=xL I nm k hd ar .no) (S':=S) (aM (aO (d:=ud hd) (hU rfl gr) rfl))).trans ?_
   exact (ah e1).trans ((ah e2).trans ((ah e3).trans e4))
 . unfold pW
   rw [hX,hX2,hX3]
   simpa only [List.append_assoc] using h4
end
noncomputable def Gz:Hd->List Tr
 | .set _ t=>[t] | .ret t=>[t] | .ifs t _=>[t] | .whl t _=>[t] | _=>[]
noncomputable def EG:Hd->Bool
 | .join _ j _=>decide (j=Str.ofString "ahead")
 | _=>false
theorem pL {nm:Str} {t:Tr} {w:W} {ks:List aF} {k:Int} (h:gd t 7 30):(gJ (lC nm t) w ks k).length<=30:=by
 have:=mw nm t
 have:=h.2.1
 rw [dy]
 omega
theorem sh (nm:Str) (k:Int) (hd:Hd) (ht:∀ t∈Gz hd,gd t 7 30):(eB nm k hd).length<=30:=by
 cases hd with
 | join x j t=>
  show (if j=Str.ofString "ahead" then gJ [(.none,[])] (jD nm x) (mj nm x) k else []).length<=30
  split
  . rw [dy]
    decide
  . exact Nat.zero_le _
 | set x t=>exact pL (ht t (List.mem_singleton.mpr rfl))
 | ret t=>exact pL (ht t (List.mem_singleton.mpr rfl))
 | ifs t l=>exact pL (ht t (List.mem_singleton.mpr rfl))
 | whl t l=>exact pL (ht t (List.mem_singleton.mpr rfl))
 | _=>exact Nat.zero_le _
theorem Ef (nm:Str) (k:Int) (hd:Hd):(if aE hd=10∨aE hd=11 then eB nm k hd else [])++(if aE hd=3 then eB nm k hd else [])++(if aE hd=0 then eB nm k hd else [])++(if EG hd=true then eB nm k hd else [])=eB nm k hd:=by
 cases hd with
 | set x t=>exact List.append_nil _
 | ret t=>exact (List.append_nil _).trans (List.append_nil _)
 | ifs t l=>exact (List.append_nil _).trans ((List.append_nil _).trans (List.append_nil _))
 | whl t l=>exact (List.append_nil _).trans ((List.append_nil _).trans (List.append_nil _))
 | join x j t=>
  by_cases hj:j=Str.ofString "ahead"
  . have:EG (.join x j t)=true:=decide_eq_true hj
    rw [if_pos this]
    rfl
  . have:EG (.join x j t)≠true:=λ z=>hj (of_decide_eq_true z)
    rw [if_neg this]
    exact (List.append_nil _).trans (if_neg hj).symm
 | _=>rfl
theorem Ji {h:Hd} (nm:Str) (k:Int) (e:aE h=10∨aE h=11):∃ t l,rs h=tw t::l/\t∈Gz h/\eB nm k h=gJ (lC nm t) (rS k) (qQ k) k:=by
 cases h with
 | ifs t l=>exact ⟨t,_,rfl,.head _,rfl⟩
 | whl t l=>exact ⟨t,_,rfl,.head _,rfl⟩
 | _=>exact nomatch (show false=true from decide_eq_true e)
theorem Jo {h:Hd} (nm:Str) (k:Int) (e:aE h=3):∃ t l,rs h=tw t::l/\t∈Gz h/\eB nm k h=gJ (lC nm t) (vE nm) (uw nm) k:=by
 cases h with
 | ret t=>exact ⟨t,_,rfl,.head _,rfl⟩
 | _=>exact nomatch (show false=true from decide_eq_true e)
theorem Hu {h:Hd} (nm:Str) (k:Int) (e:aE h=0):∃ x t l,rs h=.str x::tw t::l/\t∈Gz h/\eB nm k h=gJ (lC nm t) (jD nm x) (mj nm x) k:=by
 cases h with
 | set x t=>exact ⟨x,t,_,rfl,.head _,rfl⟩
 | _=>exact nomatch (show false=true from decide_eq_true e)
theorem CU {h:Hd} (nm:Str) (k:Int) (e:aE h=8):∃ x j l,rs h=.str x::.str j::l/\EG h=decide (j=Str.ofString "ahead")/\(j=Str.ofString "ahead" -> eB nm k h=gJ [(.none,[])] (jD nm x) (mj nm x) k):=by
 cases h with
 | join x j t=>exact ⟨x,j,_,rfl,rfl,λ e=>if_pos e⟩
 | _=>exact nomatch (show false=true from decide_eq_true e)
theorem CP {h:Hd} (e:aE h≠8):EG h=false:=by
 cases h with
 | join x j t=>exact absurd rfl e
 | _=>rfl
section
variable {D:Nat->Option Ob} {I d:Nat} {S:ag} {kvs:List (List aF×W)} {EE:List (List aF×En)}
noncomputable def DW (I:Nat) (nm:Str) (k:Int) (h:Hd):DS:=[.val (.ref I),.val (.str nm),.val (ci k h),.val (.str (dP (aE h))),.val (.int k)]
theorem xS (h:LK D S I d kvs (iH EE)) (hl:EE.length+200<=8000) (nm:Str) (k:Int) (hd:Hd) (ht:∀ t∈Gz hd,gd t 7 30):∃ S' kvs',f6 [.ref I,.str nm,ci k hd] S=some (.ok .none,S')/\LK D S' I d kvs' (iH (EE++eB nm k hd)):=by
 have nl:=sh nm k hd ht
 have cr:∀ t∈Gz hd,bG [.str nm,tw t]=some (.list ((lC nm t).map (·.1)))/\(lC nm t).length<=30:=λ t q=>by
  have g:=ht t q
  rw [Dd]
  exact ⟨mD nm t (by have:=g.1;omega) (by have:=g.2.1;omega) g.2.2,Nat.le_trans (mw nm t) g.2.1⟩
 have p3:au 3 (DW I nm k hd)=some (.str (dP (aE hd))):=rfl
 have p2:∀ {r},rs hd=r->au 2 (DW I nm k hd)=some (.tuple (.str (dP (aE hd))::.int k::r)):=λ e=>by rw [<-e];rfl
 have sub:∀ c:Prop,[Decidable c]->(if c then eB nm k hd else []).length<=30:=λ c _=>by
  split
  . exact nl
  . simp
 obtain ⟨S1,kvs1,e1,h1⟩:=lE (c:=ab (ay lQ (au 3) (aG (aa (dC (.str "if")) (aa (dC (.str "while")) af))))) (act:=b5 (cH "Links" "add" aQ (ab (ac 0)) (ab (aa (aU bG (aa (ac 1) (aa (av aP (au 2) (dC (.int (2)))) af))) (aa (aG (aa (dC (.str "row")) (aa (ac 4) af))) (aa (ac 4) af)))))) (δ:=DW I nm k hd) (b:=decide (aE hd=10∨aE hd=11)) (X:=if aE hd=10∨aE hd=11 then eB nm k hd else []) (ai (A8 p3 (ie rfl rfl) (ki (aE hd)).2.2.1)) h (λ hb=>by
  have hc:=of_decide_eq_true hb
  obtain ⟨t,l,er,ht,en⟩:=Ji nm k hc
  have c:=cr t ht
  rw [if_pos hc,en]
  exact mE h (lC nm t) (mf nm t) (by omega) (rS k) (qQ k) k rfl (ai (sM (hU (AF rfl (x2 (p2 er))) c.1) (ie rfl rfl) rfl))) (λ hb=>if_neg (of_decide_eq_false hb))
 have l1:=sub (aE hd=10∨aE hd=11)
 generalize hX1:(if aE hd=10∨aE hd=11 then eB nm k hd else [])=X1 at h1 l1
 obtain ⟨S2,kvs2,e2,h2⟩:=lE (c:=ab (ay b8 (au 3) (dC (.str "return")))) (act:=b5 (cH "Links" "add" aQ (ab (ac 0)) (ab (aa (aU bG (aa (ac 1) (aa (av aP (au 2) (dC (.int (2)))) af))) (aa (aG (aa (dC (.str "back")) (aa (ac 1) af))) (aa (ac 4) af)))))) (δ:=DW I nm k hd) (b:=decide (aE hd=3)) (X:=if aE hd=3 then eB nm k hd else []) (ai (by rw [tD p3,(kq _).2.2.1])) h1 (λ hb=>by
  have hc:=of_decide_eq_true hb
  obtain ⟨t,l,er,ht,en⟩:=Jo nm k hc
  have c:=cr t ht
  rw [if_pos hc,en]
  exact mE h1 (lC nm t) (mf nm t) (by rw [List.length_append];omega) (vE nm) (uw nm) k rfl (ai (sM (hU (AF rfl (x2 (p2 er))) c.1) (ie rfl rfl) rfl))) (λ hb=>if_neg (of_decide_eq_false hb))
 have l2:=sub (aE hd=3)
 generalize hX2:(if aE hd=3 then eB nm k hd else [])=X2 at h2 l2
 obtain ⟨S3,kvs3,e3,h3⟩:=lE (c:=ab (ay b8 (au 3) (dC (.str "set")))) (act:=b5 (cH "Links" "add" aQ (ab (ac 0)) (ab (aa (aU bG (aa (ac 1) (aa (av aP (au 2) (dC (.int (3)))) af))) (aa (aG (aa (dC (.str "name")) (aa (ac 1) (aa (av aP (au 2) (dC (.int (2)))) af)))) (aa (ac 4) af)))))) (δ:=DW I nm k hd) (b:=decide (aE hd=0)) (X:=if aE hd=0 then eB nm k hd else []) (ai (by rw [tD p3,(kq _).2.2.2.2.1])) h2 (λ hb=>by
  have hc:=of_decide_eq_true hb
  obtain ⟨x,t,l,er,ht,en⟩:=Hu nm k hc
  have c:=cr t ht
  rw [if_pos hc,en]
  exact mE h2 (lC nm t) (mf nm t) (by simp only [List.length_append];omega) (jD nm x) (mj nm x) k rfl (ai (sM (hU (AF rfl (x3 (p2 er))) c.1) (qd rfl rfl (x2 (p2 er))) rfl))) (λ hb=>if_neg (of_decide_eq_false hb))
 have l3:=sub (aE hd=0)
 generalize hX3:(if aE hd=0 then eB nm k hd else [])=X3 at h3 l3
 obtain ⟨S4,kvs4,e4,h4⟩:=lE (c:=ab (ja (ay b8 (au 3) (dC (.str "join"))) (ay b8 (av aP (au 2) (dC (.int (3)))) (dC (.str "ahead"))))) (act:=b5 (cH "Links" "add" aQ (ab (ac 0)) (ab (aa (ba (bm (aa (dC .none) af))) (aa (aG (aa (dC (.str "name")) (aa (ac 1) (aa (av aP (au 2) (dC (.int (2)))) af)))) (aa (ac 4) af)))))) (δ:=DW I nm k hd) (b:=EG hd) (X:=if EG hd=true then eB nm k hd else []) (ai (by
  have t:=tD (b:=Str.ofString "join") p3
  rw [(kq _).2.2.2.2.2] at t
  by_cases h8:aE hd=8
  . rw [decide_eq_true h8] at t
    obtain ⟨x,j,l,er,ea,_⟩:=CU nm k h8
    rw [ea]
    exact dA t (tD (x3 (p2 er)))
  . rw [decide_eq_false h8] at t
    rw [CP h8]
    exact Ld t)) h3 (λ hb=>by
  by_cases h8:aE hd=8
  . obtain ⟨x,j,l,er,ea,en⟩:=CU nm k h8
    rw [if_pos hb,en (of_decide_eq_true (ea.symm.trans hb))]
    exact mE h3 [(.none,[])] (λ p hp=>by rw [List.mem_singleton.mp hp];rfl) (by simp only [List.length_append,List.length_singleton];omega) (jD nm x) (mj nm x) k rfl (ai (sM rfl (qd rfl rfl (x2 (p2 er))) rfl))
  . rw [CP h8] at hb
    cases hb) (λ hb=>if_neg (by rw [hb];exact Bool.false_ne_true))
 refine ⟨S4,kvs4,?_,?_⟩
 . refine (bi rfl).trans ((congrArg eA (?_:_=some (.nx (DW I nm k hd),S4))).trans rfl)
   refine (ah (δ':=[.val (.ref I),.val (.str nm),.val (ci k hd),.val (.str (dP (aE hd))),.no]) (S':=S) (aM (aO (x0 rfl) rfl))).trans ?_
   refine (ah (δ':=DW I nm k hd) (S':=S) (aM (aO (x1 rfl) rfl))).trans ?_
   exact (ah e1).trans ((ah e2).trans ((ah e3).trans e4))
 . have e:=Ef nm k hd
   rw [hX1,hX2,hX3] at e
   rw [List.append_assoc,List.append_assoc,List.append_assoc,<-List.append_assoc X2,<-List.append_assoc X1,<-List.append_assoc X1,e] at h4
   exact h4
theorem pX:∀ (ps:List Str) (ts:List Tr),m8 (ps.map .str) (ts.map tw)=(ps.zip ts).map λ p=>.tuple [.str p.1,tw p.2]
 | [],_=>by simp [m8]
 | _::_,[]=>by simp [m8]
 | p::ps,t::ts=>by
  have:=pX ps ts
  simp [m8] at this ⊢
  exact this
theorem rD (nm:Str) (k:Int) (f:Str) (s2 s3:Sl):∀ (l:List (Str×Tr)) (S:ag) (kvs:List (List aF×W)) (EE:List (List aF×En)) (s6 s7:Sl),(∀ p∈l,gd p.2 7 5)->EE.length+5*l.length<=7900->LK D S I d kvs (iH EE)->∃ S' kvs' s6' s7',bv (bI 2 (aA (ae 6) (aA (ae 7) bL))) jc (l.map λ p=>.tuple [.str p.1,tw p.2]) [.val (.ref I),.val (.str nm),s2,s3,.val (.int k),.val (.str f),s6,s7] S=some (.nx [.val (.ref I),.val (.str nm),s2,s3,.val (.int k),.val (.str f),s6',s7'],S')/\LK D S' I d kvs' (iH (EE++l.flatMap λ p=>gJ (lC nm p.2) (jD f p.1) (mj f p.1) k))
 | [],S,kvs,EE,s6,s7,_,_,h=>⟨S,kvs,s6,s7,rfl,by simpa using h⟩
 | p::l,S,kvs,EE,s6,s7,hp,hl,h=>by
  simp only [List.length_cons] at hl
  have g:=hp p (by simp)
  have c1:=mD nm p.2 (by have:=g.1;omega) (by have:=g.2.1;omega) g.2.2
  rw [<-Dd] at c1
  have c2:=Nat.le_trans (mw nm p.2) g.2.1
  let δ:DS:=[.val (.ref I),.val (.str nm),s2,s3,.val (.int k),.val (.str f),.val (.str p.1),.val (tw p.2)]
  obtain ⟨S1,kvs1,e1,h1⟩:=mE h (lC nm p.2) (mf nm p.2) (by omega) (jD f p.1) (mj f p.1) k (fo:=ac 0) (fa:=(ab (aa (aU bG (aa (ac 1) (aa (ac 7) af))) (aa (aG (aa (dC (.str "name")) (aa (ac 5) (aa (ac 6) af)))) (aa (ac 4) af))))) (δ:=δ) rfl (ai (sM (hU rfl c1) (qd rfl rfl rfl) rfl))
  obtain ⟨S',kvs',s6',s7',e2,h2⟩:=rD nm k f s2 s3 l S1 kvs1 _ (.val (.str p.1)) (.val (tw p.2)) (λ q hq=>hp q (by simp [hq])) (by rw [List.length_append,dy];omega) h1
  exact ⟨S',kvs',s6',s7',(bx (δ2:=δ) rfl e1).trans e2,by simpa using h2⟩
theorem xw (h:LK D S I d kvs (iH EE)) (hl:EE.length+200<=7900) (nm:Str) (k:Int) (x f:Str) (ts:List Tr) (ps:List Str) (hp:ps.length<=6) (ht:∀ t∈ts,gd t 7 5):∃ S' kvs',fS [.ref I,.str nm,ci k (.call x f ts),.list (ps.map .str)] S=some (.ok .none,S')/\LK D S' I d kvs' (iH (EE++vK nm k ps (.call x f ts))):=by
 let δ:DS:=[.val (.ref I),.val (.str nm),.val (ci k (.call x f ts)),.val (.list (ps.map .str)),.val (.int k),.val (.str f),.no,.no]
 obtain ⟨S1,kvs1,e1,h1⟩:=mE h [(vE f,uw f)] (λ p hp=>by rw [List.mem_singleton.mp hp];rfl) (by simp only [List.length_singleton];omega) (jD nm x) (mj nm x) k (fo:=ac 0) (fa:=(ab (aa (ba (bm (aa (aG (aa (dC (.str "back")) (aa (ac 5) af))) af))) (aa (aG (aa (dC (.str "name")) (aa (ac 1) (aa (av aP (au 2) (dC (.int (2)))) af)))) (aa (ac 4) af))))) (δ:=δ) rfl (ai (sM rfl (qd rfl rfl (x2 rfl)) rfl))
 have zl:(ps.zip ts).length<=6:=by rw [List.length_zip];omega
 obtain ⟨S2,kvs2,s6,s7,e2,h2⟩:=rD nm k f (.val (ci k (.call x f ts))) (.val (.list (ps.map .str))) (ps.zip ts) S1 kvs1 _ .no .no (λ p hp=>ht p.2 (List.of_mem_zip hp).2) (by rw [List.length_append,dy,List.length_singleton];omega) h1
 refine ⟨S2,kvs2,?_,by simpa [vK,Hy] using h2⟩
 refine (bi rfl).trans ((congrArg eA (?_:_=some (.nx [.val (.ref I),.val (.str nm),.val (ci k (.call x f ts)),.val (.list (ps.map .str)),.val (.int k),.val (.str f),s6,s7],S2))).trans rfl)
 refine (ah (δ':=[.val (.ref I),.val (.str nm),.val (ci k (.call x f ts)),.val (.list (ps.map .str)),.val (.int k),.no,.no,.no]) (S':=S) (aM (aO (x1 rfl) rfl))).trans ?_
 refine (ah (δ':=δ) (S':=S) (aM (aO (x3 rfl) rfl))).trans ?_
 refine (ah e1).trans ((cv (S1:=S1) (ds:=(ps.zip ts).map λ p=>.tuple [.str p.1,tw p.2]) (ai ?_)).trans e2)
 have a4:av aP (au 2) (dC (.int (4))) δ=some (.list (ts.map tw)):=x4 rfl
 have v3:ac 3 δ=some (.list (ps.map .str)):=rfl
 unfold CA
 rw [AF v3 a4]
 exact congrArg some (pX ps ts)
end
structure uL where
 nm:Str
 ps:List Str
 bd:List Bk
 ln:Int
 la:Int
noncomputable def d6 (q:uL):W:=.tuple [.str q.nm,.list (q.ps.map .str),.list (cS q.bd),.int q.ln,.int q.la]
noncomputable def qS:List uL->(Str->List Str)->Str->List Str
 | [],g=>g
 | q::qs,g=>qS qs λ f=>if f=q.nm then q.ps else g f
theorem jV:∀ (qs:List uL) (g:Str->List Str),(∀ q∈qs,q.ps.length<=6)->(∀ f,(g f).length<=6)->∀ f,(qS qs g f).length<=6
 | [],g,_,hg,f=>hg f
 | q::qs,g,hq,hg,f=>jV qs _ (λ r hr=>hq r (by simp [hr])) (λ f=>by split;exact hq q (by simp);exact hg f) f
noncomputable abbrev Dq:=uL×List It
noncomputable def D2 (nm:Str) (k:Int) (pO:Str->List Str):Hd->List (List aF×En)
 | .call x f ts=>vK nm k (pO f) (.call x f ts)
 | _=>[]
noncomputable def im (nm:Str) (pO:Str->List Str) (i:It):List (List aF×En):=pW nm i.1 i.2.1 i.2.2++(eB nm i.1 i.2.1++D2 nm i.1 pO i.2.1)
noncomputable def uf (pO:Str->List Str) (q:Dq):List (List aF×En):=gJ [(mW q.1.nm,o6 q.1.nm)] (vE q.1.nm) (uw q.1.nm) q.1.ln++q.2.flatMap (im q.1.nm pO)
noncomputable def jZ (pO:Str->List Str) (qs:List Dq):List (List aF×En):=qs.flatMap (uf pO)
noncomputable def Hg (FN:List Str) (wh:Bool) (h:Hd):Prop:=(∀ t∈Gz h,gd t 7 30)/\(aE h=4∨aE h=5->wh=true)/\∀ x f ts,h=.call x f ts->f∈FN/\∀ t∈ts,gd t 7 5
theorem rZ (nm:Str) (k:Int) (f:Str):∀ (l:List (Str×Tr)),(∀ p∈l,gd p.2 7 5)->(l.flatMap λ p=>gJ (lC nm p.2) (jD f p.1) (mj f p.1) k).length<=5*l.length
 | [],_=>by simp
 | p::l,h=>by
  have:=rZ nm k f l λ q hq=>h q (by simp [hq])
  have c:=Nat.le_trans (mw nm p.2) (h p (by simp)).2.1
  rw [List.flatMap_cons,List.length_append,dy,List.length_cons]
  omega
theorem HA {h:Hd} (e:aE h=9):∃ x f ts,h=.call x f ts:=by
 cases h with
 | call x f ts=>exact ⟨_,_,_,rfl⟩
 | _=>exact nomatch (show false=true from decide_eq_true e)
theorem IU {h:Hd} {pO:Str->List Str} (nm:Str) (k:Int) (e:aE h≠9):D2 nm k pO h=[]:=by
 cases h with
 | call x f ts=>exact absurd rfl e
 | _=>rfl
theorem o9 {FN:List Str} {wh:Bool} (nm:Str) (pO:Str->List Str) (hp:∀ f,(pO f).length<=6) (i:It) (hg:Hg FN wh i.2.1) (ha:i.2.2.length<=6):(im nm pO i).length<=50:=by
 have n:=sh nm i.1 i.2.1 hg.1
 have T:∀ kw kk,(gJ (dH nm i.2.2) kw kk i.1).length<=7:=λ _ _=>by
  rw [dy,rA]
  omega
 have g:(tX nm i.1 i.2.2 (uc i.2.1)).length<=7:=by
  cases uc i.2.1 with
  | some x=>exact T _ _
  | none=>exact Nat.zero_le _
 have a:(if aE i.2.1=4∨aE i.2.1=5 then gJ (dH nm i.2.2) (rS (cO i.2.2)) (qQ (cO i.2.2)) i.1 else []).length+(if aE i.2.1=3 then gJ (dH nm i.2.2) (mW nm) (o6 nm) i.1 else []).length<=7:=by
  by_cases c3:aE i.2.1=3
  . rw [if_pos c3,if_neg (by rw [c3];decide)]
    exact Nat.le_trans (Nat.le_of_eq (Nat.zero_add _)) (T _ _)
  . rw [if_neg c3]
    split
    . exact T _ _
    . exact Nat.zero_le _
 unfold im pW
 simp only [List.length_append]
 by_cases c9:aE i.2.1=9
 . obtain ⟨x,f,ts,eh⟩:=HA c9
   have c:=rZ nm i.1 f ((pO f).zip ts) λ p hp=>(hg.2.2 x f ts eh).2 p.2 (List.of_mem_zip hp).2
   have l:((pO f).zip ts).length<=6:=by rw [List.length_zip];have:=hp f;omega
   have e1:(HN nm i.1 i.2.2 i.2.1).length<=7:=by rw [eh];exact T _ _
   have e2:(eB nm i.1 i.2.1).length=0:=by rw [eh];rfl
   have e3:(D2 nm i.1 pO i.2.1).length=1+((((pO f).zip ts).flatMap λ p=>gJ (lC nm p.2) (jD f p.1) (mj f p.1) i.1)).length:=by
    rw [eh]
    exact List.length_append
   rw [if_neg (by rw [c9];decide:¬(aE i.2.1=4∨aE i.2.1=5)),if_neg (by rw [c9];decide:¬aE i.2.1=3)]
   simp only [List.length_nil]
   omega
 . rw [IY nm i.1 i.2.2 c9,IU nm i.1 c9]
   simp only [List.length_nil]
   omega
section
variable {D:Nat->Option Ob}
theorem LK.push {S:ag} {I d:Nat} {kvs E:List (List aF×W)} (h:LK D S I d kvs E) (o:Ob):LK D (S++[o]) I d kvs E:=
 ⟨aW h.hI,aW h.hd,h.hl,h.nn,(λ k v hv=>by obtain ⟨l,e,hl⟩:=h.ss k v hv;exact ⟨l,e,aW hl⟩),h.one,λ m o hm=>⟨aW (h.kp m o hm).1,(h.kp m o hm).2⟩⟩
theorem LK.setK {S:ag} {I d m:Nat} {kvs E:List (List aF×W)} {a b:List (aF×W)} (h:LK D S I d kvs E) (hm:S[m]?=some (.dK a)) (hD:D m=none):LK D (S.set m (.dK b)) I d kvs E:=
 ⟨set_ne' h.hI (bN hm h.hI (by simp)),set_ne' h.hd (bN hm h.hd (by simp)),h.hl,h.nn,(λ k v hv=>by obtain ⟨l,e,hl⟩:=h.ss k v hv;exact ⟨l,e,set_ne' hl (bN hm hl (by simp))⟩),h.one,λ k o hk=>⟨set_ne' (h.kp k o hk).1 (λ z=>by rw [z,hk] at hD;cases hD),(h.kp k o hk).2⟩⟩
theorem vU {I d pd:Nat} {kvs E:List (List aF×W)} (hD:D pd=none) (s0 s8 s9:Sl):∀ (qs:List uL) (S:ag) (kv:List (aF×W)) (g:Str->List Str) (seen:List Str) (s3 s4 s5 s6 s7:Sl),LK D S I d kvs E->S[pd]?=some (.dK kv)->(∀ f∈seen,bg kv (Sum.inr f)=some (.list ((g f).map .str)))->kv.length+qs.length<900->
 ∃ S' kv' s3' s4' s5' s6' s7',bv (bI 5 (aA (ae 3) (aA (ae 4) (aA (ae 5) (aA (ae 6) (aA (ae 7) bL)))))) gQ (qs.map d6) [s0,.val (.ref I),.val (.ref pd),s3,s4,s5,s6,s7,s8,s9] S=some (.nx [s0,.val (.ref I),.val (.ref pd),s3',s4',s5',s6',s7',s8,s9],S')/\LK D S' I d kvs E/\S'[pd]?=some (.dK kv')/\∀ f,f∈seen∨f∈qs.map (·.nm)->bg kv' (Sum.inr f)=some (.list ((qS qs g f).map .str))
 | [],S,kv,g,seen,s3,s4,s5,s6,s7,h,hp,hs,_=>⟨S,kv,s3,s4,s5,s6,s7,rfl,h,hp,λ f hf=>hs f (hf.resolve_right (by simp))⟩
 | q::qs,S,kv,g,seen,s3,s4,s5,s6,s7,h,hp,hs,hl=>by
  simp only [List.length_cons] at hl
  have hz:kv.length<sizeLine:=Nat.lt_of_lt_of_le (by omega) (sz 900 (by decide))
  have pa:pT (.ref pd) (.str q.nm) (.list (q.ps.map .str)) S=some (S.set pd (.dK (cV kv (Sum.inr q.nm) (.list (q.ps.map .str))))):=by simp [pT,eQ,hp,nQ,hz]
  have pl:=oU kv (Sum.inr q.nm) (W.list (q.ps.map .str))
  obtain ⟨S',kv',t3,t4,t5,t6,t7,e,h1,h2,h3⟩:=vU hD s0 s8 s9 qs (S.set pd (.dK (cV kv (Sum.inr q.nm) (.list (q.ps.map .str))))) (cV kv (Sum.inr q.nm) (.list (q.ps.map .str))) (λ f=>if f=q.nm then q.ps else g f) (q.nm::seen) (.val (.str q.nm)) (.val (.list (q.ps.map .str))) (.val (.list (cS q.bd))) (.val (.int q.ln)) (.val (.int q.la)) (h.setK hp hD) (set_eq' hp) (λ f hf=>by
   rw [wA]
   by_cases hq:f=q.nm
   . simp [hq]
   . have:f∈seen:=(List.mem_cons.mp hf).resolve_left hq
     simp [hq,hs f this]) (by omega)
  refine ⟨S',kv',t3,t4,t5,t6,t7,(bx (δ2:=[s0,.val (.ref I),.val (.ref pd),.val (.str q.nm),.val (.list (q.ps.map .str)),.val (.list (cS q.bd)),.val (.int q.ln),.val (.int q.la),s8,s9]) (δ':=[s0,.val (.ref I),.val (.ref pd),.val (.str q.nm),.val (.list (q.ps.map .str)),.val (.list (cS q.bd)),.val (.int q.ln),.val (.int q.la),s8,s9]) (S':=S.set pd (.dK (cV kv (Sum.inr q.nm) (.list (q.ps.map .str))))) rfl ?_).trans e,h1,h2,λ f hf=>h3 f ?_⟩
  . first | rfl | simp! [gQ,jB,uS,uD,pa]
  . rcases hf with hf | hf
    . exact .inl (by simp [hf])
    . rw [List.map_cons] at hf
      rcases List.mem_cons.mp hf with rfl | hf
      . exact .inl (by simp)
      . exact .inr hf
end
theorem zU {S:ag} {d:Nat} {kvs:List (aF×W)} {x:Str} (h:S[d]?=some (.dK kvs)):oz (.ref d) (.str x) S=some (bg kvs (Sum.inr x)):=by simp [oz,eQ,h,nQ]
structure GQ (FN:List Str) (i:It):Prop where
 p:∃ wh,Hg FN wh i.2.1/\(wh=true->∃ b∈i.2.2,eC b=true)
 l:i.2.2.length<=6
section
variable {D:Nat->Option Ob} {I d pd:Nat} {kv:List (aF×W)} {FN:List Str} {pO:Str->List Str}
theorem vk (hD:D pd=some (.dK kv)) (hv:∀ f∈FN,bg kv (Sum.inr f)=some (.list ((pO f).map .str))) (hp:∀ f,(pO f).length<=6) (nm:Str) (s0 s4 s5 s6 s7:Sl):∀ (is:List It) (S:ag) (kvs:List (List aF×W)) (EE:List (List aF×En)) (s8 s9:Sl),(∀ i∈is,GQ FN i)->EE.length+50*is.length<=7500->LK D S I d kvs (iH EE)->
 ∃ S' kvs' s8' s9',bv (bI 2 (aA (ae 8) (aA (ae 9) bL))) jH (is.map oS) [s0,.val (.ref I),.val (.ref pd),.val (.str nm),s4,s5,s6,s7,s8,s9] S=some (.nx [s0,.val (.ref I),.val (.ref pd),.val (.str nm),s4,s5,s6,s7,s8',s9'],S')/\LK D S' I d kvs' (iH (EE++is.flatMap (im nm pO)))
 | [],S,kvs,EE,s8,s9,_,_,h=>⟨S,kvs,s8,s9,rfl,by simpa using h⟩
 | i::is,S,kvs,EE,s8,s9,hi,hl,h=>by
  simp only [List.length_cons] at hl
  obtain ⟨⟨wh,hg,hw⟩,ha⟩:=hi i (by simp)
  have el:=o9 nm pO hp i hg ha
  have el':(pW nm i.1 i.2.1 i.2.2).length+((eB nm i.1 i.2.1).length+(D2 nm i.1 pO i.2.1).length)<=50:=by simpa only [im,List.length_append] using el
  obtain ⟨S1,kvs1,e1,h1⟩:=yP h (by omega) nm i.1 i.2.1 i.2.2 ha λ hc=>hw (hg.2.1 hc)
  obtain ⟨S2,kvs2,e2,h2⟩:=xS h1 (by rw [List.length_append];omega) nm i.1 i.2.1 hg.1
  have hb2:(EE++pW nm i.1 i.2.1 i.2.2++eB nm i.1 i.2.1).length+200<=7900:=by simp only [List.length_append];omega
  let δ:DS:=[s0,.val (.ref I),.val (.ref pd),.val (.str nm),s4,s5,s6,s7,.val (ci i.1 i.2.1),.val (.tuple (i.2.2.map eL))]
  have a0:av aP (au 8) (dC (.int (0))) δ=some (.str (dP (aE i.2.1))):=x0 rfl
  obtain ⟨S3,kvs3,e3,h3⟩:=lE (c:=ab (ay b8 (av aP (au 8) (dC (.int (0)))) (dC (.str "call")))) (act:=b5 (bY fS (bU (ab (ac 1)) (bU (ab (ac 3)) (bU (ab (ac 8)) (bU (kt (ab (ac 2)) (ab (av aP (au 8) (dC (.int (3)))))) kU)))))) (δ:=δ) (b:=decide (aE i.2.1=9)) (X:=D2 nm i.1 pO i.2.1) (ai (by rw [tD a0,(kq _).2.2.2.1])) h2 (λ hb=>by
   obtain ⟨x,f,ts,eh⟩:=HA (of_decide_eq_true hb)
   obtain ⟨hf,ht⟩:=hg.2.2 x f ts eh
   obtain ⟨S3,kvs3,e3,h3⟩:=xw h2 hb2 nm i.1 x f ts (pO f) (hp f) ht
   have a3:av aP (au 8) (dC (.int (3))) δ=some (.str f):=x3 (congrArg (λ h=>some (ci i.1 h)) eh)
   have gk:=zU (x:=f) (h2.kp pd _ hD).1
   rw [hv f hf] at gk
   rw [<-eh] at e3
   have ec:D2 nm i.1 pO i.2.1=vK nm i.1 (pO f) (.call x f ts):=by rw [eh];rfl
   have g:kt (ab (ac 2)) (ab (av aP (au 8) (dC (.int (3))))) δ S2=some (.ok (.list ((pO f).map .str)),S2):=by
    have v2:ab (ac 2) δ S2=some (.ok (.ref pd),S2):=rfl
    simp only [kt,v2,ai a3,ao,gk,Option.bind_some,hZ,Option.map_some]
   exact ⟨S3,kvs3,iO (bM (S1:=S2) (ds:=[.ref I,.str nm,ci i.1 i.2.1,.list ((pO f).map .str)]) (bq (S1:=S2) rfl (bq (S1:=S2) rfl (bq (S1:=S2) rfl (bq (S1:=S2) g rfl)))) e3),by rw [ec];exact h3⟩) (λ hb=>IU nm i.1 (of_decide_eq_false hb))
  have hE:EE++pW nm i.1 i.2.1 i.2.2++eB nm i.1 i.2.1++D2 nm i.1 pO i.2.1=EE++im nm pO i:=by simp [im]
  rw [hE] at h3
  obtain ⟨S',kvs',s8',s9',e4,h4⟩:=vk hD hv hp nm s0 s4 s5 s6 s7 is S3 kvs3 _ (.val (ci i.1 i.2.1)) (.val (.tuple (i.2.2.map eL))) (λ j hj=>hi j (by simp [hj])) (by rw [List.length_append];omega) h3
  refine ⟨S',kvs',s8',s9',?_,by simpa using h4⟩
  refine (bx (δ2:=δ) (δ':=δ) (S':=S3) rfl ?_).trans e4
  refine (ah (δ':=δ) (iO (bM (S1:=S) (ds:=[.ref I,.str nm,ci i.1 i.2.1,.tuple (i.2.2.map eL)]) rfl e1))).trans ?_
  exact (ah (δ':=δ) (iO (bM (S1:=S1) (ds:=[.ref I,.str nm,ci i.1 i.2.1]) rfl e2))).trans e3
structure GD (FN:List Str) (q:Dq):Prop where
 pl:b9 8 [.list (cS q.1.bd),.none]=some (.list (q.2.map oS))
 it:∀ i∈q.2,GQ FN i
 ps:q.1.ps.length<=6
noncomputable def iZ (qs:List Dq):Nat:=(qs.map λ q=>q.2.length+1).sum
theorem nS (hp:∀ f,(pO f).length<=6) (nm:Str):∀ (is:List It),(∀ i∈is,GQ FN i)->(is.flatMap (im nm pO)).length<=50*is.length
 | [],_=>by simp
 | i::is,h=>by
  obtain ⟨⟨wh,hg,_⟩,ha⟩:=h i (by simp)
  have:=o9 nm pO hp i hg ha
  have:=nS hp nm is λ j hj=>h j (by simp [hj])
  rw [List.flatMap_cons,List.length_append,List.length_cons]
  omega
theorem rE (hD:D pd=some (.dK kv)) (hv:∀ f∈FN,bg kv (Sum.inr f)=some (.list ((pO f).map .str))) (hp:∀ f,(pO f).length<=6) (s0:Sl):∀ (qs:List Dq) (S:ag) (kvs:List (List aF×W)) (EE:List (List aF×En)) (s3 s4 s5 s6 s7 s8 s9:Sl),(∀ q∈qs,GD FN q)->EE.length+50*iZ qs<=7000->LK D S I d kvs (iH EE)->
 ∃ S' kvs' s3' s4' s5' s6' s7' s8' s9',bv (bI 5 (aA (ae 3) (aA (ae 4) (aA (ae 5) (aA (ae 6) (aA (ae 7) bL)))))) ku (qs.map λ q=>d6 q.1) [s0,.val (.ref I),.val (.ref pd),s3,s4,s5,s6,s7,s8,s9] S=some (.nx [s0,.val (.ref I),.val (.ref pd),s3',s4',s5',s6',s7',s8',s9'],S')/\LK D S' I d kvs' (iH (EE++jZ pO qs))
 | [],S,kvs,EE,s3,s4,s5,s6,s7,s8,s9,_,_,h=>⟨S,kvs,s3,s4,s5,s6,s7,s8,s9,rfl,by simpa [jZ] using h⟩
 | q::qs,S,kvs,EE,s3,s4,s5,s6,s7,s8,s9,hq,hl,h=>by
  have g:=hq q (by simp)
  have hc:iZ (q::qs)=q.2.length+1+iZ qs:=by simp [iZ]
  rw [hc] at hl
  have dl:=nS (FN:=FN) hp q.1.nm q.2 g.it
  let δ (s8 s9:Sl):DS:=[s0,.val (.ref I),.val (.ref pd),.val (.str q.1.nm),.val (.list (q.1.ps.map .str)),.val (.list (cS q.1.bd)),.val (.int q.1.ln),.val (.int q.1.la),s8,s9]
  obtain ⟨S1,kvs1,e1,h1⟩:=mE h [(mW q.1.nm,o6 q.1.nm)] (λ p hp=>by rw [List.mem_singleton.mp hp];rfl) (by simp only [List.length_singleton];omega) (vE q.1.nm) (uw q.1.nm) q.1.ln (fo:=ac 1) (fa:=(ab (aa (ba (bm (aa (aG (aa (dC (.str "def")) (aa (ac 3) af))) af))) (aa (aG (aa (dC (.str "back")) (aa (ac 3) af))) (aa (ac 6) af))))) (δ:=δ s8 s9) rfl (ai (sM rfl rfl rfl))
  obtain ⟨S2,kvs2,t8,t9,e2,h2⟩:=vk hD hv hp q.1.nm s0 (.val (.list (q.1.ps.map .str))) (.val (.list (cS q.1.bd))) (.val (.int q.1.ln)) (.val (.int q.1.la)) q.2 S1 kvs1 _ s8 s9 g.it (by rw [List.length_append,dy,List.length_singleton];omega) h1
  have hE:EE++gJ [(mW q.1.nm,o6 q.1.nm)] (vE q.1.nm) (uw q.1.nm) q.1.ln++q.2.flatMap (im q.1.nm pO)=EE++uf pO q:=by simp [uf]
  rw [hE] at h2
  obtain ⟨S',kvs',u3,u4,u5,u6,u7,u8,u9,e3,h3⟩:=rE hD hv hp s0 qs S2 kvs2 _ (.val (.str q.1.nm)) (.val (.list (q.1.ps.map .str))) (.val (.list (cS q.1.bd))) (.val (.int q.1.ln)) (.val (.int q.1.la)) t8 t9 (λ r hr=>hq r (by simp [hr])) (by rw [List.length_append,uf,List.length_append,dy,List.length_singleton];omega) h2
  refine ⟨S',kvs',u3,u4,u5,u6,u7,u8,u9,?_,by simpa [jZ] using h3⟩
  rw [List.map_cons]
  refine (bx (δ2:=δ s8 s9) (δ':=δ t8 t9) (S':=S2) rfl ?_).trans e3
  refine (ah e1).trans ((cv (S1:=S1) (ds:=q.2.map oS) (ai ?_)).trans e2)
  have pl:=g.pl
  first | rfl | simp! [δ,tf,uD,pl]
end
theorem xE {FN:List Str} (qs:List Dq) (S:ag) (hq:∀ q∈qs,GD FN q) (hf:∀ f∈FN,f∈qs.map (·.1.nm)) (hc:iZ qs<=70) (hl:qs.length<=10) {D0:Nat->Option Ob} (hD0:∀ m o,D0 m=some o->S[m]?=some o/\Ks o=true):∃ S' d kvs,jE [.list (qs.map λ q=>d6 q.1)] S=some (.ok (.ref S.length),S')/\LK D0 S' S.length d kvs (iH (jZ (qS (qs.map (·.1)) λ _=>[]) qs)):=by
 let pr:W:=.list (qs.map λ q=>d6 q.1)
 have i0:dS [.ref S.length] (S++[.ins (Str.ofString "Links") []])=some (.ok .none,(S++[Ob.ins (Str.ofString "Links") []]++[Ob.dN []]:ag).set S.length (.ins (Str.ofString "Links") [(Str.ofString "behind", .ref (S.length+1))])):=by
  refine (bi rfl).trans ((congrArg eA (?_:_=some (.nx [.val (.ref S.length)],_))).trans rfl)
  exact Ax (c:=Str.ofString "Links") (f:=Str.ofString "behind") (fo:=ac 0) (fv:=Ke) (δ:=[.val (.ref S.length)]) (S:=S++[.ins (Str.ofString "Links") []]) (S1:=S++[Ob.ins (Str.ofString "Links") []]++[Ob.dN []]) (d:=.ref (S.length+1)) (n:=S.length) (fs:=[]) (by simp [Ke]) rfl (aW (bO _ _)) (by simp)
 let S0:ag:=(S++[Ob.ins (Str.ofString "Links") []]++[Ob.dN []]:ag).set S.length (.ins (Str.ofString "Links") [(Str.ofString "behind", .ref (S.length+1))])
 have h0:LK D0 S0 S.length (S.length+1) [] (iH []):=by
  have g1:(S++[Ob.ins (Str.ofString "Links") []]++[Ob.dN []]:ag)[S.length+1]?=some (.dN []):=by
   have:=bO (S++[Ob.ins (Str.ofString "Links") []]) (Ob.dN [])
   simpa using this
  exact ⟨set_eq' (aW (bO _ _)),set_ne' g1 (by omega),by simp,λ k _=>rfl,(λ k v hv=>by cases hv),(λ k k' l hv=>by cases hv),λ m o hm=>⟨set_ne' (aW (aW (hD0 m o hm).1)) (by have:=(oG (hD0 m o hm).1).1;omega),(hD0 m o hm).2⟩⟩
 obtain ⟨S2,kv,t3,t4,t5,t6,t7,e2,h2,hpd,hv⟩:=vU (pd:=S0.length) (D:=D0) (by cases hq:D0 S0.length with | none=>rfl | some o=>have:=(oG (hD0 _ o hq).1).1;simp [S0] at this;omega) (.val pr) .no .no (qs.map (·.1)) (S0++[.dK []]) [] (λ _=>[]) [] .no .no .no .no .no (h0.push (.dK [])) (bO _ _) (λ f hf=>absurd hf List.not_mem_nil) (by simp;omega)
 rw [List.map_map] at e2
 let pO:=qS (qs.map (·.1)) λ _=>[]
 have hp:∀ f,(pO f).length<=6:=jV _ _ (λ q hm=>by obtain ⟨r,hr,rfl⟩:=List.mem_map.mp hm;exact (hq r hr).ps) (λ f=>by simp)
 let D:Nat->Option Ob:=λ m=>if m=S0.length then some (.dK kv) else D0 m
 have h3:LK D S2 S.length (S.length+1) [] (iH []):=⟨h2.hI,h2.hd,h2.hl,h2.nn,h2.ss,h2.one,λ m o hm=>by
  by_cases e:m=S0.length
  . subst e
    simp [D] at hm
    rw [<-hm]
    exact ⟨hpd,rfl⟩
  . simp [D,e] at hm
    exact h2.kp m o hm⟩
 obtain ⟨S4,kvs4,u3,u4,u5,u6,u7,u8,u9,e4,h4⟩:=rE (pd:=S0.length) (kv:=kv) (FN:=FN) (pO:=pO) (by simp [D]) (λ f hf'=>hv f (.inr (by simpa [List.map_map,Function.comp_def] using hf f hf'))) hp (.val pr) qs S2 [] [] t3 t4 t5 t6 t7 .no .no hq (by simp;omega) h3
 have h5:LK D0 S4 S.length (S.length+1) kvs4 (iH (jZ pO qs)):=by
  have h4:LK D S4 S.length (S.length+1) kvs4 (iH (jZ pO qs)):=by simpa using h4
  exact ⟨h4.hI,h4.hd,h4.hl,h4.nn,h4.ss,h4.one,λ m o hm=>h4.kp m o (by
   have:m≠S0.length:=λ z=>by have:=(oG (hD0 m o hm).1).1;simp [S0] at z;omega
   simp [D,this,hm])⟩
 refine ⟨S4,S.length+1,kvs4,?_,h5⟩
 refine (bi rfl).trans ((congrArg eA (?_:_=some (.rt (.ref S.length),S4))).trans rfl)
 refine (ah (δ':=[.val pr,.val (.ref S.length),.no,.no,.no,.no,.no,.no,.no,.no]) (S':=S0) (bt (yZ (S1:=S) (ds:=[]) rfl i0) rfl)).trans ?_
 refine (ah (δ':=[.val pr,.val (.ref S.length),.val (.ref S0.length),.no,.no,.no,.no,.no,.no,.no]) (S':=S0++[.dK []]) (bt rfl rfl)).trans ?_
 refine (ah ((cv (S1:=S0++[.dK []]) (ds:=qs.map λ q=>d6 q.1) (by first | rfl | simp! [pr,uS,uD])).trans e2)).trans ?_
 refine (ah ((cv (S1:=S2) (ds:=qs.map λ q=>d6 q.1) (by first | rfl | simp! [pr,uS,uD])).trans e4)).trans ?_
 first | rfl | simp! [uS,uD]
theorem uV {fo:DS->Option W} {δ:DS} {S:ag} {l:Nat} {q:List W} {y:W} (h1:fo δ=some (.ref l)) (h2:S[l]?=some (.lst (q++[y]))):yH (ab fo) δ S=some (.ok y,S.set l (.lst q)):=by
 simp [yH,ab,h1,ao,eS h2]
theorem Cz {fo fk fx:DS->ag->SM W} {δ:DS} {S S3:ag} {d:Nat} {kvs:List (List aF×W)} {y z:W} {k:List aF} (h1:fo δ S=some (.ok (.ref d),S)) (hd:S[d]?=some (.dN kvs)) (h2:fk δ S=some (.ok y,S)) (h3:fx δ S=some (.ok z,S3)) (hd3:S3[d]?=some (.dN kvs)) (hk:eU y=some k):n4 fo fk fx δ S=some (.ok ((bg kvs k).getD z),S3):=by
 have a1:kD (.ref d) S=some (d,kvs):=by simp [kD,eQ,hd]
 have a3:kD (.ref d) S3=some (d,kvs):=by simp [kD,eQ,hd3]
 simp only [n4,h1,ao,a1,Option.isSome_some,if_true,h2,h3,a3,Option.bind_some,hk]
theorem KJ {c:DS->ag->SM Bool} {b:DS->ag->SO} {n:Nat} {δ δ':DS} {S S1 S2:ag} (h1:c δ S=some (.ok true,S1)) (h2:b δ S1=some (.nx δ',S2)):cW c b (n+1) δ S=cW c b n δ' S2:=by
 show jm _ _=_
 rw [h1]
 show (match b δ S1 with | some (.nx δ',S')=>_ | some (.ct δ',S')=>_ | some (.bk δ',S')=>_ | some (.rt d,S')=>_ | some (.xc x,S')=>_ | none=>_)=_
 rw [h2]
theorem Lk {c:DS->ag->SM Bool} {b:DS->ag->SO} {n:Nat} {δ:DS} {S S1:ag} (h1:c δ S=some (.ok false,S1)):cW c b (n+1) δ S=some (.nx δ,S1):=by
 show jm _ _=_
 rw [h1]
 rfl
theorem nL {n:Nat×Bool} {h:W->DS->Option DS} {fb:DS->ag->SO} {es:List W} {J:Nat->DS->ag->Prop} (look:∀ i δ S,J i δ S->fU S n=some es)
 (step:∀ i x δ S,es[i]?=some x->J i δ S->∃ δ2 δ' S',h x δ=some δ2/\fb δ2 S=some (.nx δ',S')/\J (i+1) δ' S'):∀ (m i:Nat) (δ:DS) (S:ag),es.length-i<m->i<=es.length->J i δ S->∃ δ' S',fY n h fb m i δ S=some (.nx δ',S')/\J es.length δ' S'
 | 0,i,δ,S,hm,_,_=>by omega
 | m+1,i,δ,S,hm,hi,hj=>by
  have hl:=look i δ S hj
  by_cases hlt:i<es.length
  . obtain ⟨δ2,δ',S',e1,e2,j2⟩:=step i es[i] δ S (List.getElem?_eq_getElem hlt) hj
    obtain ⟨δ3,S3,e3,j3⟩:=nL look step m (i+1) δ' S' (by omega) (by omega) j2
    refine ⟨δ3,S3,?_,j3⟩
    show (fU S n).bind _=_
    rw [hl]
    show (match es[i]? with | none=>_ | some d=>_)=_
    rw [List.getElem?_eq_getElem hlt]
    show (h es[i] δ).bind _=_
    rw [e1]
    show (match fb δ2 S with | some (.nx δ',S')=>_ | some (.ct δ',S')=>_ | some (.bk δ',S')=>_ | some (.rt d,S')=>_ | some (.xc c,S')=>_ | none=>_)=_
    rw [e2]
    exact e3
  . have:i=es.length:=by omega
    subst this
    refine ⟨δ,S,?_,hj⟩
    show (fU S n).bind _=_
    rw [hl]
    show (match es[es.length]? with | none=>_ | some d=>_)=_
    rw [List.getElem?_eq_none (Nat.le_refl _)]
structure MK (D0:Nat->Option Ob) (S:ag) (I d f q:Nat) (kvs E:List (List aF×W)) (F:List (List aF×W)) (D:List W):Prop where
 lk:LK D0 S I d kvs E
 hf:S[f]?=some (.dT F)
 nf:D0 f=none
 hq:S[q]?=some (.lst D)
 nq:∀ k l,bg kvs k=some (.ref l)->l≠q
section
variable {D0:Nat->Option Ob} {S:ag} {I d f q:Nat} {kvs E F:List (List aF×W)} {D:List W}
theorem MK.put (h:MK D0 S I d f q kvs E F D) (F':List (List aF×W)):MK D0 (S.set f (.dT F')) I d f q kvs E F' D:=
 ⟨⟨set_ne' h.lk.hI (bN h.hf h.lk.hI (by simp)),set_ne' h.lk.hd (bN h.hf h.lk.hd (by simp)),h.lk.hl,h.lk.nn,(λ k v hv=>by obtain ⟨l,e,hl⟩:=h.lk.ss k v hv;exact ⟨l,e,set_ne' hl (bN h.hf hl (by simp))⟩),h.lk.one,λ m o hm=>⟨set_ne' (h.lk.kp m o hm).1 (λ z=>by have:=h.nf;rw [z,hm] at this;cases this),(h.lk.kp m o hm).2⟩⟩,set_eq' h.hf,h.nf,set_ne' h.hq (bN h.hf h.hq (by simp)),h.nq⟩
theorem MK.due (h:MK D0 S I d f q kvs E F D) (D':List W):MK D0 (S.set q (.lst D')) I d f q kvs E F D':=
 ⟨⟨set_ne' h.lk.hI (bN h.hq h.lk.hI (by simp)),set_ne' h.lk.hd (bN h.hq h.lk.hd (by simp)),h.lk.hl,h.lk.nn,(λ k v hv=>by obtain ⟨l,rfl,hl⟩:=h.lk.ss k v hv;exact ⟨l,rfl,set_ne' hl (Ne.symm (h.nq k l hv))⟩),h.lk.one,λ m o hm=>⟨set_ne' (h.lk.kp m o hm).1 (bN h.hq (h.lk.kp m o hm).1 (λ z=>by have:=(h.lk.kp m o hm).2;rw [<-z] at this;cases this)),(h.lk.kp m o hm).2⟩⟩,set_ne' h.hf (bN h.hq h.hf (by simp)),h.nf,set_eq' h.hq,h.nq⟩
theorem MK.push (h:MK D0 S I d f q kvs E F D) (o:Ob):MK D0 (S++[o]) I d f q kvs E F D:=⟨h.lk.push o,aW h.hf,h.nf,aW h.hq,h.nq⟩
theorem qF {S:ag} {d:Nat} {kvs:List (List aF×W)} {x:W} {ks:List aF} (h:S[d]?=some (.dT kvs)) (hk:di x=some ks):oz (.ref d) x S=some (bg kvs ks):=by simp [oz,eQ,h,hk]
theorem Cs (h:MK D0 S I d f q kvs E F D) (s0:Sl) (c kw ln:W) (kk:List aF) (hk:di kw=some kk) (hF:F.length<8000) (hD:D.length<8000):
 ∃ S',iN [s0,.val (.ref I),.val (.ref f),.val (.ref q),.val c,.val kw,.val ln] S=some (.nx [s0,.val (.ref I),.val (.ref f),.val (.ref q),.val c,.val kw,.val ln],S')/\MK D0 S' I d f q kvs E (if bg F kk=none then F++[(kk,.tuple [ln,c])] else F) (if bg F kk=none then D++[kw] else D)/\∀ m x,m≠q->S[m]?=some (.lst x)->S'[m]?=some (.lst x):=by
 have z2:=sz 2 (by decide)
 have gk:oz (.ref f) kw S=some (bg F kk):=qF h.hf hk
 cases hv:bg F kk with
 | some v=>
  refine ⟨S,?_,by simpa using h,λ _ _ _ hm=>hm⟩
  refine (bw (S1:=S) ?_).trans rfl
  first | rfl | simp! [ig,uS,uD,gk,hv,Option.isSome_some]
 | none=>
  have hz:F.length<sizeLine:=Nat.lt_of_lt_of_le hF (sz 8000 (by decide))
  have pa:pT (.ref f) kw (.tuple [ln,c]) S=some (S.set f (.dT (F++[(kk,.tuple [ln,c])]))):=by
   rw [<-kY (.tuple [ln,c]) hv]
   simp [pT,eQ,h.hf,hk,hz]
  have h1:=h.put (F++[(kk,.tuple [ln,c])])
  refine ⟨(S.set f (.dT (F++[(kk,.tuple [ln,c])]))).set q (.lst (D++[kw])),?_,by simpa using h1.due (D++[kw]),λ m x hmq hm=>set_ne' (set_ne' hm (bN h.hf hm (by simp))) (Ne.symm hmq)⟩
  refine (cU (S1:=S) (by first | rfl | simp! [ig,uS,uD,gk,hv,Option.isSome_none])).trans ?_
  refine (ah (δ':=[s0,.val (.ref I),.val (.ref f),.val (.ref q),.val c,.val kw,.val ln]) (S':=S.set f (.dT (F++[(kk,.tuple [ln,c])]))) ?_).trans ?_
  . first | rfl | simp! [jB,uS,uD,if_pos z2,pa]
  . exact dF rfl h1.hq rfl (by omega)
end
noncomputable def dR (c:W) (st:List (List aF×W)×List W) (e:En):List (List aF×W)×List W:=(if bg st.1 e.2.1=none then st.1++[(e.2.1,.tuple [e.2.2,c])] else st.1,if bg st.1 e.2.1=none then st.2++[e.1] else st.2)
theorem B5 (c:W) (st:List (List aF×W)×List W) (e:En):(dR c st e).1.length<=st.1.length+1/\(dR c st e).2.length<=st.2.length+1:=by
 unfold dR
 by_cases h:bg st.1 e.2.1=none <;> simp [h]
theorem rL (c:W):∀ (es:List En) (st:List (List aF×W)×List W),(es.foldl (dR c) st).1.length<=st.1.length+es.length/\(es.foldl (dR c) st).2.length<=st.2.length+es.length
 | [],st=>by simp
 | e::es,st=>by
  have h1:=B5 c st e
  have h2:=rL c es (dR c st e)
  simp only [List.foldl_cons,List.length_cons]
  omega
section
variable {D0:Nat->Option Ob} {I d f q:Nat} {kvs E:List (List aF×W)} {c:W} {s0:Sl}
theorem BE (l:Nat) (es:List En) (hk:∀ e∈es,di e.1=some e.2.1) {S:ag} {F:List (List aF×W)} {D:List W} (h:MK D0 S I d f q kvs E F D) (hlq:l≠q) (hl:S[l]?=some (.lst (es.map CS))) (hF:F.length+es.length<8000) (hD:D.length+es.length<8000) (s5 s6:Sl):
 ∃ S' s5' s6',fY (l,false) (bI 2 (aA (ae 5) (aA (ae 6) bL))) iN 9000 0 [s0,.val (.ref I),.val (.ref f),.val (.ref q),.val c,s5,s6] S=some (.nx [s0,.val (.ref I),.val (.ref f),.val (.ref q),.val c,s5',s6'],S')/\MK D0 S' I d f q kvs E (es.foldl (dR c) (F,D)).1 (es.foldl (dR c) (F,D)).2:=by
 let J:Nat->DS->ag->Prop:=λ i δ S=>∃ s5 s6,δ=[s0,.val (.ref I),.val (.ref f),.val (.ref q),.val c,s5,s6]/\MK D0 S I d f q kvs E ((es.take i).foldl (dR c) (F,D)).1 ((es.take i).foldl (dR c) (F,D)).2/\S[l]?=some (.lst (es.map CS))
 have look:∀ i δ S,J i δ S->fU S (l,false)=some (es.map CS):=λ i δ S hj=>by
  obtain ⟨_,_,_,_,h3⟩:=hj
  exact vF h3
 have step:∀ i x δ S,(es.map CS)[i]?=some x->J i δ S->∃ δ2 δ' S',(bI 2 (aA (ae 5) (aA (ae 6) bL))) x δ=some δ2/\iN δ2 S=some (.nx δ',S')/\J (i+1) δ' S':=by
  rintro i x δ S hx ⟨t5,t6,rfl,hm,h3⟩
  rw [List.getElem?_map] at hx
  obtain ⟨e,he,rfl⟩:=oM hx
  have hi:i<es.length:=(oG he).1
  have fl:=rL c (es.take i) (F,D)
  have tl:(es.take i).length<=i:=by simp;omega
  obtain ⟨S',e1,m1,keep⟩:=Cs hm s0 c e.1 e.2.2 e.2.1 (hk e (List.mem_of_getElem? he)) (by simp at fl;omega) (by simp at fl;omega)
  have tk:(es.take (i+1)).foldl (dR c) (F,D)=dR c ((es.take i).foldl (dR c) (F,D)) e:=by
   rw [List.take_succ,he]
   simp
  refine ⟨[s0,.val (.ref I),.val (.ref f),.val (.ref q),.val c,.val e.1,.val e.2.2],_,S',rfl,e1,_,_,rfl,by rw [tk];exact m1,keep l _ hlq h3⟩
 obtain ⟨δ',S',e,t5,t6,rfl,hm,_⟩:=nL look step 9000 0 _ S (by simp;omega) (by simp) ⟨s5,s6,rfl,by simpa using h,hl⟩
 exact ⟨S',t5,t6,e,by simpa using hm⟩
end
noncomputable def iW (EE:List (List aF×En)) (k:List aF):List En:=(EE.filter λ e=>decide (e.1=k)).map (·.2)
theorem qj:∀ (EE:List (List aF×En)) (k:List aF),mX (iH EE) k=(iW EE k).map CS
 | [],k=>rfl
 | e::EE,k=>by
  have ih:=qj EE k
  unfold mX iH iW at ih ⊢
  by_cases h:e.1=k
  . simp [h] at ih ⊢
    exact ih
  . simp [h] at ih ⊢
    exact ih
theorem jG {EE:List (List aF×En)} {k:List aF} {e:En} (h:e∈iW EE k):(k,e)∈EE:=by
 obtain ⟨x,hx,rfl⟩:=List.mem_map.mp h
 obtain ⟨h1,h2⟩:=List.mem_filter.mp hx
 have:x.1=k:=by simpa using h2
 rw [<-this]
 exact h1
theorem zu (EE:List (List aF×En)) (k:List aF):(iW EE k).length<=EE.length:=by
 unfold iW
 rw [List.length_map]
 exact List.length_filter_le _ _
noncomputable def rem (EE:List (List aF×En)) (F:List (List aF×W)):Nat:=(EE.filter λ e=>(bg F e.2.2.1).isNone).length
theorem wJ {α:Type} (p q:α->Bool) (l:List α) (h:∀ x,q x=true->p x=true):(l.filter q).length<=(l.filter p).length:=by
 induction l with
 | nil=>simp
 | cons x l ih=>
  by_cases hq:q x=true
  . simp [hq,h x hq];exact ih
  . by_cases hp:p x=true <;> simp [hq,hp] <;> omega
theorem filter_lt' {α:Type} (p q:α->Bool) (l:List α) (y:α) (h:∀ x,q x=true->p x=true) (hy:y∈l) (h1:p y=true) (h2:q y=false):(l.filter q).length+1<=(l.filter p).length:=by
 induction l with
 | nil=>exact absurd hy List.not_mem_nil
 | cons x l ih=>
  rcases List.mem_cons.mp hy with rfl | hy
  . have:=wJ p q l h
    simp [h1,h2];omega
  . have ih:=ih hy
    by_cases hq:q x=true
    . simp [hq,h x hq];omega
    . by_cases hp:p x=true <;> simp [hq,hp] <;> omega
theorem zF {EE:List (List aF×En)} {F:List (List aF×W)} {D:List W} {c:W} {k:List aF} (e:En) (he:(k,e)∈EE):2*rem EE (dR c (F,D) e).1+(dR c (F,D) e).2.length<=2*rem EE F+D.length/\(dR c (F,D) e).1.length+rem EE (dR c (F,D) e).1<=F.length+rem EE F/\(D.length<=F.length+1->(dR c (F,D) e).2.length<=(dR c (F,D) e).1.length+1):=by
 unfold dR
 by_cases hv:bg F e.2.1=none
 . simp only [hv,if_true]
   have:rem EE (F++[(e.2.1,W.tuple [e.2.2,c])])+1<=rem EE F:=by
    refine filter_lt' _ _ EE (k,e) (λ x hx=>?_) he (by simp [hv]) (by simp [dj F e.2.1 e.2.1 _ hv])
    rw [dj F e.2.1 x.2.2.1 _ hv] at hx
    by_cases hq:x.2.2.1=e.2.1
    . simp [hq] at hx
    . simpa [hq] using hx
   simp
   omega
 . simp only [hv,if_false]
   exact ⟨Nat.le_refl _,Nat.le_refl _,id⟩
theorem nz {EE:List (List aF×En)} {c:W} {k:List aF}:∀ (es:List En) (F:List (List aF×W)) (D:List W),(∀ e∈es,(k,e)∈EE)->2*rem EE (es.foldl (dR c) (F,D)).1+(es.foldl (dR c) (F,D)).2.length<=2*rem EE F+D.length/\(es.foldl (dR c) (F,D)).1.length+rem EE (es.foldl (dR c) (F,D)).1<=F.length+rem EE F/\(D.length<=F.length+1->(es.foldl (dR c) (F,D)).2.length<=(es.foldl (dR c) (F,D)).1.length+1)
 | [],F,D,_=>⟨Nat.le_refl _,Nat.le_refl _,id⟩
 | e::es,F,D,he=>by
  obtain ⟨a1,a2,a3⟩:=zF (c:=c) (F:=F) (D:=D) e (he e (by simp))
  obtain ⟨b1,b2,b3⟩:=nz (c:=c) es (dR c (F,D) e).1 (dR c (F,D) e).2 λ x hx=>he x (by simp [hx])
  exact ⟨Nat.le_trans b1 a1,Nat.le_trans b2 a2,λ h=>b3 (a3 h)⟩
noncomputable def DK (D:List W):Prop:=∀ c∈D,∃ k,eU c=some k
theorem vT {EE:List (List aF×En)} (hw:∀ e∈EE,eU e.2.1=some e.2.2.1) {c:W} {k:List aF}:∀ (es:List En) (F:List (List aF×W)) (D:List W),(∀ e∈es,(k,e)∈EE)->DK D->DK (es.foldl (dR c) (F,D)).2
 | [],F,D,_,h=>h
 | e::es,F,D,he,h=>by
  refine vT hw es (dR c (F,D) e).1 (dR c (F,D) e).2 (λ x hx=>he x (by simp [hx])) ?_
  unfold dR
  by_cases hv:bg F e.2.1=none
  . simp only [hv,if_true]
    intro x hx
    rcases List.mem_append.mp hx with hx | hx
    . exact h x hx
    . rw [List.mem_singleton.mp hx]
      exact ⟨_,hw _ (he e (by simp))⟩
  . simp only [hv,if_false]
    exact h
noncomputable def GN (EE:List (List aF×En)):Nat->List (List aF×W)->List W->List (List aF×W)
 | 0,F,_=>F
 | n+1,F,D=>match D.getLast? with
  | none=>F
  | some c=>GN EE n ((iW EE ((eU c).getD [])).foldl (dR c) (F,D.dropLast)).1 ((iW EE ((eU c).getD [])).foldl (dR c) (F,D.dropLast)).2
section
variable {D0:Nat->Option Ob} {I d f q:Nat} {kvs:List (List aF×W)} {EE:List (List aF×En)} {s0:Sl}
theorem yx (hk:∀ e∈EE,di e.2.1=some e.2.2.1) (c:W) (k:List aF) (hc:eU c=some k) {S:ag} {F:List (List aF×W)} {D:List W} (h:MK D0 S I d f q kvs (iH EE) F (D++[c])) (hF:F.length+EE.length<8000) (hD:D.length+EE.length<8000) (s4 s5 s6:Sl):
 ∃ S' s5' s6',kM [s0,.val (.ref I),.val (.ref f),.val (.ref q),s4,s5,s6] S=some (.nx [s0,.val (.ref I),.val (.ref f),.val (.ref q),.val c,s5',s6'],S')/\MK D0 S' I d f q kvs (iH EE) ((iW EE k).foldl (dR c) (F,D)).1 ((iW EE k).foldl (dR c) (F,D)).2:=by
 have z0:=sz 0 (by decide)
 have h1:=h.due D
 let S1:ag:=S.set q (.lst D)
 have h2:=h1.push (.lst [])
 have el:=zu EE k
 let δ:DS:=[s0,.val (.ref I),.val (.ref f),.val (.ref q),.val c,s5,s6]
 have hI1:S1[I]?=some (.ins (Str.ofString "Links") [(Str.ofString "behind", .ref d)]):=h1.lk.hI
 have f1:nu "Links" "behind" (ab (ac 1)) δ S1=some (.ok (.ref d),S1):=by first | rfl | simp! [δ,uS,uD,Im hI1,DY]
 have f3:dE (ab af) δ S1=some (.ok (.ref S1.length),S1++[.lst []]):=by first | rfl | simp! [δ,uS,uD,if_pos z0]
 have gn:=Cz (fk:=ab (ac 4)) f1 h1.lk.hd rfl f3 h2.lk.hd hc
 have hq1:q<S1.length:=(oG h1.hq).1
 have key:∃ l,(bg kvs k).getD (.ref S1.length)=.ref l/\l≠q/\(S1++[Ob.lst []]:ag)[l]?=some (.lst ((iW EE k).map CS)):=by
  cases hv:bg kvs k with
  | some v=>
   obtain ⟨l,rfl,hl⟩:=h2.lk.ss k v hv
   exact ⟨l,rfl,h.nq k l hv,by rw [<-qj];exact hl⟩
  | none=>
   have e0:=h.lk.nn k hv
   rw [qj] at e0
   exact ⟨S1.length,rfl,by omega,by rw [e0];exact bO _ _⟩
 obtain ⟨l,el1,hlq,hll⟩:=key
 rw [el1] at gn
 obtain ⟨S',t5,t6,e1,m1⟩:=BE (c:=c) (s0:=s0) l (iW EE k) (λ e he=>hk _ (jG he)) h2 hlq hll (by omega) (by omega) s5 s6
 refine ⟨S',t5,t6,?_,m1⟩
 refine (ah (δ':=δ) (S':=S1) (bt (uV rfl h.hq) rfl)).trans ?_
 have li:iw (n4 (nu "Links" "behind" (ab (ac 1))) (ab (ac 4)) (dE (ab af))) δ S1=some (.ok (l,false),S1++[.lst []]):=by
  simp only [iw,gn,ao,eS hll,Option.map_some]
 show jm _ _=_
 rw [li]
 exact e1
theorem pc (hk:∀ e∈EE,di e.2.1=some e.2.2.1) (hw:∀ e∈EE,eU e.2.1=some e.2.2.1) (hE:EE.length<3900):∀ (n:Nat) (F:List (List aF×W)) (D:List W) (S:ag) (s4 s5 s6:Sl),2*rem EE F+D.length<n->F.length+rem EE F<=EE.length->D.length<=F.length+1->MK D0 S I d f q kvs (iH EE) F D->DK D->
 ∃ S' s4' s5' s6',cW (r9 (ab (ac 3))) kM n [s0,.val (.ref I),.val (.ref f),.val (.ref q),s4,s5,s6] S=some (.nx [s0,.val (.ref I),.val (.ref f),.val (.ref q),s4',s5',s6'],S')/\S'[f]?=some (.dT (GN EE n F D))/\∀ m o,D0 m=some o->S'[m]?=some o
 | 0,F,D,S,s4,s5,s6,hn,_,_,_,_=>absurd hn (Nat.not_lt_zero _)
 | n+1,F,D,S,s4,s5,s6,hn,h1,h2,hm,hp=>by
  rcases List.eq_nil_or_concat D with rfl | ⟨D,c,rfl⟩
  . exact ⟨S,s4,s5,s6,Lk (by simp! [r9,uS,uD,eS hm.hq];rfl),hm.hf,λ m o z=>(hm.lk.kp m o z).1⟩
  . rw [List.concat_eq_append] at hn h2 hm hp ⊢
    obtain ⟨k,hck⟩:=hp c (by simp)
    have hd:D.length<=F.length:=by simp at h2;omega
    obtain ⟨S1,t5,t6,e1,m1⟩:=yx (s0:=s0) hk c k hck hm (by omega) (by omega) s4 s5 s6
    obtain ⟨r1,r2,r3⟩:=nz (EE:=EE) (c:=c) (k:=k) (iW EE k) F D λ e he=>jG he
    obtain ⟨S',u4,u5,u6,e2,z1,z2⟩:=pc hk hw hE n _ _ S1 (.val c) t5 t6 (by simp at hn;omega) (by omega) (r3 (by omega)) m1 (vT hw _ F D (λ e he=>jG he) λ x hx=>hp x (by simp [hx]))
    refine ⟨S',u4,u5,u6,?_,?_,z2⟩
    . refine (KJ ?_ e1).trans e2
      have hq:=hm.hq
      simp! [r9,uS,uD,eS hq]
      cases D <;> rfl
    . rw [z1]
      show _=some (Ob.dT (match (D++[c]).getLast? with | none=>_ | some c=>_))
      rw [List.getLast?_concat]
      simp only [hck,Option.getD_some,List.dropLast_concat]
end
noncomputable def Ek (L:List (List aF×En)):Prop:=∀ e∈L,di e.2.1=some e.2.2.1/\eU e.2.1=some e.2.2.1
theorem Ek.nil:Ek []:=λ e h=>absurd h List.not_mem_nil
theorem Ek.app {a b:List (List aF×En)} (h:Ek a) (h':Ek b):Ek (a++b):=λ e he=>(List.mem_append.mp he).elim (h e) (h' e)
theorem Ek.to {kc:List (W×List aF)} {kw:W} {kk:List aF} {ln:Int} (h:di kw=some kk) (h':eU kw=some kk):Ek (gJ kc kw kk ln):=λ e he=>by
 obtain ⟨c,_,rfl⟩:=List.mem_map.mp he
 exact ⟨h,h'⟩
theorem Ek.flat {α:Type} {f:α->List (List aF×En)} {l:List α} (h:∀ x∈l,Ek (f x)):Ek (l.flatMap f):=λ e he=>by
 obtain ⟨x,hx,hm⟩:=List.mem_flatMap.mp he
 exact h x hx e hm
theorem Ek.ite {p:Prop} [Decidable p] {a:List (List aF×En)} (h:Ek a):Ek (if p then a else []):=by
 split
 . exact h
 . exact .nil
theorem G9 (nm:Str) (k:Int) (h:Hd) (ar:List Bk):Ek (pW nm k h ar):=by
 refine .app ?_ (.app (.ite (.to rfl rfl)) (.app (.ite (.to rfl rfl)) ?_))
 . cases uc h with
   | none=>exact .nil
   | some x=>exact .to rfl rfl
 . cases h with
   | call x f ts=>exact .to rfl rfl
   | _=>exact .nil
theorem Ew (nm:Str) (k:Int) (h:Hd):Ek (eB nm k h):=by
 cases h with
 | ifs t l=>exact .to rfl rfl
 | whl t l=>exact .to rfl rfl
 | ret t=>exact .to rfl rfl
 | set x t=>exact .to rfl rfl
 | join x j t=>exact .ite (.to rfl rfl)
 | _=>exact .nil
theorem zB (pO:Str->List Str) (qs:List Dq):Ek (jZ pO qs):=.flat λ q _=>.app (.to rfl rfl) (.flat λ i _=>.app (G9 _ _ _ _) (.app (Ew _ _ _) (by
 cases i.2.1 with
 | call x f ts=>exact .app (.to rfl rfl) (.flat λ p _=>.to rfl rfl)
 | _=>exact .nil)))
theorem sx {FN:List Str} {pO:Str->List Str} (hp:∀ f,(pO f).length<=6) (qs:List Dq) (h:∀ q∈qs,GD FN q):(jZ pO qs).length<=50*iZ qs:=by
 induction qs with
 | nil=>simp [jZ]
 | cons q qs ih=>
  have i1:=ih λ r hr=>h r (by simp [hr])
  have i2:=nS hp q.1.nm q.2 (h q (by simp)).it
  have hc:iZ (q::qs)=q.2.length+1+iZ qs:=by simp [iZ]
  rw [hc]
  show ((uf pO q)++jZ pO qs).length<=_
  rw [List.length_append]
  show (gJ [(mW q.1.nm,o6 q.1.nm)] (vE q.1.nm) (uw q.1.nm) q.1.ln++q.2.flatMap (im q.1.nm pO)).length+_<=_
  rw [List.length_append,dy]
  simp only [List.length_cons,List.length_nil]
  omega
noncomputable def FF (qs:List Dq):List (List aF×W):=GN (jZ (qS (qs.map (·.1)) λ _=>[]) qs) 1000000 [] [.none]
theorem A1 (EE:List (List aF×En)) (F:List (List aF×W)):rem EE F<=EE.length:=List.length_filter_le _ _
theorem xy {FN:List Str} (qs:List Dq) (S:ag) (hq:∀ q∈qs,GD FN q) (hf:∀ f∈FN,f∈qs.map (·.1.nm)) (hc:iZ qs<=70) (hl:qs.length<=10) {D0:Nat->Option Ob} (hD0:∀ m o,D0 m=some o->S[m]?=some o/\Ks o=true):∃ S' f,qN [.list (qs.map λ q=>d6 q.1)] S=some (.ok (.ref f),S')/\S'[f]?=some (.dT (FF qs))/\S.length<=f/\∀ m o,D0 m=some o->S'[m]?=some o:=by
 have z1:=sz 1 (by decide)
 obtain ⟨S1,d,kvs,e1,lk⟩:=xE qs S hq hf hc hl hD0
 let pr:W:=.list (qs.map λ q=>d6 q.1)
 let EE:=jZ (qS (qs.map (·.1)) λ _=>[]) qs
 have hp:∀ f,(qS (qs.map (·.1)) (λ _=>[]) f).length<=6:=jV _ _ (λ q hm=>by obtain ⟨r,hr,rfl⟩:=List.mem_map.mp hm;exact (hq r hr).ps) (λ f=>by simp)
 have hE:EE.length<=3500:=Nat.le_trans (sx hp qs hq) (by omega)
 have ek:=zB (qS (qs.map (·.1)) λ _=>[]) qs
 have sl:S.length<S1.length:=(oG lk.hI).1
 let S2:ag:=S1++[.dT []]
 let S3:ag:=S2++[.lst [.none]]
 have nf:D0 S1.length=none:=by
  cases hz:D0 S1.length with
  | none=>rfl
  | some o=>exact absurd (oG (lk.kp _ o hz).1).1 (Nat.lt_irrefl _)
 have mk:MK D0 S3 S.length d S1.length S2.length kvs (iH EE) [] [.none]:=⟨(lk.push (.dT [])).push (.lst [.none]),aW (bO _ _),nf,bO _ _,λ k l hv=>by
  obtain ⟨l',e,hl'⟩:=lk.ss k _ hv
  cases e
  have:=(oG hl').1
  simp [S2]
  omega⟩
 have rl:=A1 EE []
 obtain ⟨S',s4,s5,s6,e2,h1,h2⟩:=pc (EE:=EE) (s0:=.val pr) (λ e he=>(ek e he).1) (λ e he=>(ek e he).2) (by omega) 1000000 [] [.none] S3 .no .no .no (by simp only [List.length_cons,List.length_nil];omega) (by simpa using rl) (by simp) mk (λ c hc=>by rw [List.mem_singleton.mp hc];exact ⟨_,rfl⟩)
 refine ⟨S',S1.length,?_,h1,Nat.le_of_lt sl,h2⟩
 refine (bi rfl).trans ((congrArg eA (?_:_=some (.rt (.ref S1.length),S'))).trans rfl)
 refine (ah (δ':=[.val pr,.val (.ref S.length),.no,.no,.no,.no,.no]) (S':=S1) (bt (bM (S1:=S) (ds:=[pr]) rfl e1) rfl)).trans ?_
 refine (ah (δ':=[.val pr,.val (.ref S.length),.val (.ref S1.length),.no,.no,.no,.no]) (S':=S2) (bt rfl rfl)).trans ?_
 refine (ah (δ':=[.val pr,.val (.ref S.length),.val (.ref S1.length),.val (.ref S2.length),.no,.no,.no]) (S':=S3) (bt (d:=.ref S2.length) (by simp! [uS,uD,if_pos z1];rfl) rfl)).trans ?_
 exact (ah e2).trans rfl
noncomputable def fE (F:List (List aF×W)) (k:List aF):Bool:=(bg F k).isSome
noncomputable def sN (F:List (List aF×W)) (k:List aF):Prop:=k=[]∨fE F k=true
noncomputable def GE (EE:List (List aF×En)) (F:List (List aF×W)) (D:List W) (k:Option (List aF)):Prop:=∀ x∈EE,sN F x.1->fE F x.2.2.1=true∨k=some x.1∨∃ c∈D,eU c=some x.1
theorem Db (c:W) (F:List (List aF×W)) (D:List W) (e:En):fE (dR c (F,D) e).1 e.2.1=true/\∀ k,fE F k=true->fE (dR c (F,D) e).1 k=true:=by
 unfold dR fE
 by_cases h:bg F e.2.1=none
 . simp only [h,if_true]
   refine ⟨by rw [dj F e.2.1 e.2.1 _ h,if_pos rfl];rfl,λ k hk=>?_⟩
   rw [dj F e.2.1 k _ h]
   by_cases hq:k=e.2.1
   . rw [if_pos hq];rfl
   . rw [if_neg hq];exact hk
 . simp only [h,if_false]
   exact ⟨Option.isSome_iff_ne_none.mpr h,λ _ hk=>hk⟩
theorem Ex {EE:List (List aF×En)} {c:W} {F:List (List aF×W)} {D:List W} {k:Option (List aF)} (e:En) (he:eU e.1=some e.2.1) (h:GE EE F D k):GE EE (dR c (F,D) e).1 (dR c (F,D) e).2 k:=λ x hx hc=>by
 have m:=Db c F D e
 by_cases hv:bg F e.2.1=none
 . have hD:(dR c (F,D) e).2=D++[e.1]:=if_pos hv
   have hF:(dR c (F,D) e).1=F++[(e.2.1,.tuple [e.2.2,c])]:=if_pos hv
   have old:sN F x.1->fE (dR c (F,D) e).1 x.2.2.1=true∨k=some x.1∨∃ c'∈(dR c (F,D) e).2,eU c'=some x.1:=λ z=>by
    rcases h x hx z with z | z | ⟨d,hd,q⟩
    . exact .inl (m.2 _ z)
    . exact .inr (.inl z)
    . exact .inr (.inr ⟨d,by rw [hD];exact List.mem_append.mpr (.inl hd),q⟩)
   rcases hc with z | z
   . exact old (.inl z)
   . by_cases hq:x.1=e.2.1
     . exact .inr (.inr ⟨e.1,by rw [hD];exact List.mem_append.mpr (.inr (List.mem_singleton.mpr rfl)),by rw [he,hq]⟩)
     . rw [hF] at z
       unfold fE at z
       rw [dj F e.2.1 x.1 _ hv,if_neg hq] at z
       exact old (.inr z)
 . have e1:dR c (F,D) e=(F,D):=by unfold dR;rw [if_neg hv,if_neg hv]
   rw [e1] at hc ⊢
   exact h x hx hc
theorem uW {c:W}:∀ (es:List En) (F:List (List aF×W)) (D:List W),(∀ k,fE F k=true->fE (es.foldl (dR c) (F,D)).1 k=true)/\∀ e∈es,fE (es.foldl (dR c) (F,D)).1 e.2.1=true
 | [],F,D=>⟨λ _ h=>h,λ _ h=>absurd h List.not_mem_nil⟩
 | e::es,F,D=>by
  have m:=Db c F D e
  have ih:=uW (c:=c) es (dR c (F,D) e).1 (dR c (F,D) e).2
  refine ⟨λ k h=>ih.1 k (m.2 k h),λ x hx=>?_⟩
  rcases List.mem_cons.mp hx with rfl | hx
  . exact ih.1 _ m.1
  . exact ih.2 x hx
theorem qX {EE:List (List aF×En)} {c:W} {k:Option (List aF)}:∀ (es:List En) (F:List (List aF×W)) (D:List W),(∀ e∈es,eU e.1=some e.2.1)->GE EE F D k->GE EE (es.foldl (dR c) (F,D)).1 (es.foldl (dR c) (F,D)).2 k
 | [],_,_,_,h=>h
 | e::es,F,D,he,h=>qX es (dR c (F,D) e).1 (dR c (F,D) e).2 (λ x hx=>he x (by simp [hx])) (Ex e (he e (by simp)) h)
theorem zk {EE:List (List aF×En)} (hw:∀ e∈EE,eU e.2.1=some e.2.2.1):∀ (n:Nat) (F:List (List aF×W)) (D:List W),2*rem EE F+D.length<n->GE EE F D none->∀ x∈EE,sN (GN EE n F D) x.1->fE (GN EE n F D) x.2.2.1=true
 | 0,F,D,h,_=>by omega
 | n+1,F,D,h,hi=>by
  unfold GN
  cases hl:D.getLast? with
  | none=>
   have:D=[]:=List.getLast?_eq_none_iff.mp hl
   subst this
   intro x hx hc
   rcases hi x hx hc with z | z | ⟨_,z,_⟩
   . exact z
   . cases z
   . cases z
  | some c=>
   obtain ⟨D,rfl⟩:=List.getLast?_eq_some_iff.mp hl
   simp only [List.dropLast_concat]
   generalize hk:(eU c).getD []=k
   have es:∀ e∈iW EE k,(k,e)∈EE:=λ e he=>jG he
   have r:=(nz (c:=c) (iW EE k) F D es).1
   have h1:GE EE F D (some k):=λ x hx hc=>by
    rcases hi x hx hc with z | z | ⟨d,hd,q⟩
    . exact .inl z
    . cases z
    . rcases List.mem_append.mp hd with hd | hd
      . exact .inr (.inr ⟨d,hd,q⟩)
      . rw [List.mem_singleton.mp hd] at q
        rw [q] at hk
        exact .inr (.inl (congrArg some hk.symm))
   have h2:=qX (c:=c) (iW EE k) F D (λ e he=>hw _ (es e he)) h1
   have h3:=(uW (c:=c) (iW EE k) F D).2
   rw [List.length_append,List.length_singleton] at h
   refine zk hw n _ _ (by omega) λ x hx hc=>?_
   rcases h2 x hx hc with z | z | z
   . exact .inl z
   . have z:k=x.1:=Option.some.inj z
     exact .inl (h3 x.2 (List.mem_map.mpr ⟨x,List.mem_filter.mpr ⟨hx,decide_eq_true z.symm⟩,rfl⟩))
   . exact .inr (.inr z)
theorem Iq {FN:List Str} (qs:List Dq) (h:∀ q∈qs,GD FN q) (hc:iZ qs<=70):∀ x∈jZ (qS (qs.map (·.1)) λ _=>[]) qs,sN (FF qs) x.1->fE (FF qs) x.2.2.1=true:=by
 have hp:∀ f,(qS (qs.map (·.1)) (λ _=>[]) f).length<=6:=jV _ _ (λ q hm=>by obtain ⟨r,hr,rfl⟩:=List.mem_map.mp hm;exact (h r hr).ps) (λ f=>by simp)
 have hE:=sx hp qs h
 have ek:=zB (qS (qs.map (·.1)) λ _=>[]) qs
 have rl:=A1 (jZ (qS (qs.map (·.1)) λ _=>[]) qs) []
 refine zk (λ e he=>(ek e he).2) 1000000 [] [.none] (by simp only [List.length_singleton];omega) λ x hx hc=>?_
 rcases hc with z | z
 . exact .inr (.inr ⟨.none,List.mem_singleton.mpr rfl,by rw [z];rfl⟩)
 . cases z
theorem dG {F:List (List aF×W)} {EE:List (List aF×En)} (h:∀ x∈EE,sN F x.1->fE F x.2.2.1=true) {kc:List (W×List aF)} {kw:W} {kk:List aF} {ln:Int} (hs:∀ x∈gJ kc kw kk ln,x∈EE) (hp:∃ p∈kc,sN F p.2):fE F kk=true:=by
 obtain ⟨p,hp,hc⟩:=hp
 exact h _ (hs _ (List.mem_map.mpr ⟨p,hp,rfl⟩)) hc
theorem A2:∀ (acc:List Str),xt (acc.map .str)=some (acc.map V.str)
 | []=>rfl
 | x::acc=>by
  show ((some (V.str x)).bind λ v=>(xt (acc.map .str)).map (v::·))=_
  rw [A2 acc]
  rfl
theorem Aj (x:Str):∀ (acc:List Str),EO (.str x) (acc.map V.str)=decide (x∈acc)
 | []=>rfl
 | y::acc=>by
  have ih:=Aj x acc
  unfold EO at ih ⊢
  rw [List.map_cons,List.any_cons,ih]
  have:AO (V.str y) (V.str x)=decide (y=x):=by
   show (y==x)=_
   by_cases h:y=x <;> simp [h]
  rw [this]
  by_cases h:y=x
  . subst h;simp
  . have h':¬ x=y:=λ z=>h z.symm
    simp [h,h']
theorem FH {f g:DS->Option Bool} {δ:DS} (h1:f δ=some false) (h2:g δ=some false):lS f g δ=some false:=by simp only [lS,h1,h2,Option.bind_some];rfl
theorem FO {f g:DS->Option Bool} {δ:DS} (h1:f δ=some true):lS f g δ=some true:=by simp only [lS,h1,Option.bind_some];rfl
theorem EQ {f g:DS->Option Bool} {δ:DS} (h1:f δ=some false) (h2:g δ=some true):lS f g δ=some true:=by simp only [lS,h1,h2,Option.bind_some];rfl
theorem uM (k:Fin 7) (a b:Tr):pZ (.op k a b)=pZ a++pZ b:=by simp [pZ,xQ,eM,List.filterMap_append]
theorem Fa (k:Fin 7) (a b:Tr):own (.op k a b)=(own a||own b):=by
 simp only [own,eM,List.any_append]
 cases (eM a).any (iV 0) <;> cases (eM a).any (iV 2) <;> cases (eM b).any (iV 0) <;> cases (eM b).any (iV 2) <;> rfl
theorem H9:km (.int 10) (.int 30)=some (.int 1000000000000000000000000000000):=by
 show (if m6 10 30=true then some (W.int ((10:Int)^(30:Int).toNat)) else none)=_
 rw [if_pos (by decide +kernel)]
 rfl
theorem HJ:km (.int 10) (.int 11)=some (.int 100000000000):=by
 show (if m6 10 11=true then some (W.int ((10:Int)^(11:Int).toNat)) else none)=_
 rw [if_pos (by decide +kernel)]
 rfl
theorem BR {i j:Int} (h1:0<=i) (h2:i<2^190) (h3:0<=j) (h4:j<2^190):kr i j=true:=by
 have e:(2:Nat)^190<2^200:=Nat.pow_lt_pow_right (by decide) (by decide)
 simp only [kr,Bool.and_eq_true,Bool.or_eq_true,decide_eq_true_eq]
 exact .inr ⟨Nat.lt_trans (by omega) e,Nat.lt_trans (by omega) e⟩
theorem f9 (c:Int) (k:Nat) (hk:k<9000):∃ m:Int,bD [.int c,.int (k:Int)]=some (.int m)/\0<=m:=by
 have hm:=cE c (j:=1000000000000000000000000000057) (by decide)
 generalize hx:c.fmod 1000000000000000000000000000057=x at hm
 have g1:kf (.int x) (.int 271828182845904523536028747135)=some (.int (x*271828182845904523536028747135)):=nU (BR hm.1 (Int.lt_trans hm.2 (by decide)) (by decide) (by decide))
 have g2:kf (.int (k:Int)) (.int (k:Int))=some (.int ((k:Int)*k)):=nU (q5 (by omega) (by omega))
 have kk:(k:Int)*k<=9000*9000:=Int.mul_le_mul (by omega) (by omega) (by omega) (by omega)
 have k0:0<=(k:Int)*k:=Int.mul_nonneg (by omega) (by omega)
 have g3:kf (.int ((k:Int)*k)) (.int 314159265358979323846264338327)=some (.int ((k:Int)*k*314159265358979323846264338327)):=nU (q5 (by omega) (by omega))
 have ga:(1000000000000000000000000000000:Int)+57=1000000000000000000000000000057:=by decide
 refine ⟨(x*271828182845904523536028747135+(k:Int)*k*314159265358979323846264338327+577215664901532860606512090082).fmod 1000000000000000000000000000057,?_,(cE _ (by decide)).1⟩
 have md:∀ i:Int,bE (.int i) (.int 1000000000000000000000000000057)=some (.int (i.fmod 1000000000000000000000000000057)):=λ i=>nO (by simp only [jT];decide)
 have mx:=md c
 rw [hx] at mx
 first | rfl | simp! [bD,uD,H9,ga,md,mx,hx,g1,g2,g3]
theorem mS (ns:List Int) (k:Nat):∃ c:Int,bS [.list (ns.map .int),.int (k:Int)]=some (.int c):=by
 by_cases h:(k:Int)<ns.length
 . have e1:decide ((k:Int)<((ns.map W.int).length:Nat))=true:=by simpa using h
   refine ⟨ns[k]?.getD 0,?_⟩
   have Di:=gF ns (k:Int) (by omega) h
   first | rfl | (simp! [bS,uD,e1,Di];rfl)
 . have e1:decide ((k:Int)<((ns.map W.int).length:Nat))=false:=by simpa using h
   refine ⟨0,?_⟩
   first | rfl | simp! [bS,uD,e1]
noncomputable def gH:Str:=Str.ofString "abcdefghijklmnopqrstuvwxyz"
theorem Bd:gH.cps.toList.length=26:=by decide +kernel
theorem Bh:fm gH:=by unfold fm;decide +kernel
theorem zG (i:Int) (h0:0<=i) (h1:i<26):∃ c:Nat,aP (.str gH) (.int i)=some (.str ⟨#[c]⟩)/\fm ⟨#[c]⟩:=by
 have hz:gH.length<=sizeLine:=sz _ (by decide +kernel)
 obtain ⟨k,rfl⟩:∃ k:Nat,i=k:=⟨i.toNat,by omega⟩
 have hk:k<gH.cps.toList.length:=by rw [Bd];omega
 refine ⟨gH.cps.toList[k],?_,?_⟩
 . show (if gH.length<=sizeLine then (fK gH.cps.toList (k:Int)).map λ c=>W.str ⟨#[c]⟩ else none)=_
   rw [if_pos hz,Cd _ k hk,List.getElem?_eq_getElem hk]
   rfl
 . exact fm.one Bh (i:=(k:Int)) (by rw [Cd _ k hk,List.getElem?_eq_getElem hk])
noncomputable def KP:List Str:=[Str.ofString "def", Str.ofString "set", Str.ofString "put", Str.ofString "tell", Str.ofString "if", Str.ofString "else", Str.ofString "while", Str.ofString "end", Str.ofString "break", Str.ofString "again", Str.ofString "call", Str.ofString "return", Str.ofString "stop", Str.ofString "join", Str.ofString "meet", Str.ofString "lane", Str.ofString "lanes", Str.ofString "mine", Str.ofString "box", Str.ofString "div", Str.ofString "rem", Str.ofString "sum", Str.ofString "most", Str.ofString "least", Str.ofString "ahead"]
theorem HW (x:Str) (acc:List Str):lQ (.str x) (.list (acc.map .str))=some (decide (x∈acc)):=by
 have e1:qe (.list (acc.map .str))=some (acc.map .str):=rfl
 have e2:JZ (.str x)=some (.str x):=rfl
 simp only [lQ,e1,e2,Option.bind_some,A2,Option.map_some,Aj]
theorem p7 (c:Nat):(⟨#[c]⟩:Str).length=1:=rfl
theorem Ms (s0 s2 s3 s4 s8 s9 s10:Sl):∀ (n:Nat) (lo aI:Int) (b:Str) (s7:Sl),fm b->b.length+n<=100->∃ (rest':Int) (b':Str) (s7':Sl),bh (ae 7) fF (eW lo n) [s0,.val (.str gH),s2,s3,s4,.val (.int aI),.val (.str b),s7,s8,s9,s10]=some (.nx [s0,.val (.str gH),s2,s3,s4,.val (.int rest'),.val (.str b'),s7',s8,s9,s10])/\fm b'/\b'.length=b.length+n
 | 0,lo,aI,b,s7,hb,_=>⟨aI,b,s7,rfl,hb,rfl⟩
 | n+1,lo,aI,b,s7,hb,hn=>by
  have h1:=cE aI (j:=26) (by decide)
  obtain ⟨c,ec,hc⟩:=zG _ h1.1 h1.2
  have ga:bQ (.str b) (.str ⟨#[c]⟩)=some (.str (b++⟨#[c]⟩)):=tI (sz _ (by rw [p7];omega))
  have ln:(b++⟨#[c]⟩:Str).length=b.length+1:=by rw [qc,p7]
  obtain ⟨r',b',s7',e,a,l⟩:=Ms s0 s2 s3 s4 s8 s9 s10 n (lo+1) (aI.fdiv 26) (b++⟨#[c]⟩) (.val (.int lo)) (hb.app hc) (by omega)
  refine ⟨r',b',s7',?_,a,by omega⟩
  rw [fj]
  refine jo rfl ?_ e
  first | rfl | simp +decide only [fF,uD,Nat.reduceAdd,Nat.reduceSub,reduceIte,Nat.reduceEqDiff,List.replicate,ec,ga]
theorem tN (z:Str) (lo hi:Option Int):(Txt.slice z lo hi).length<=z.length:=Txt.slice_le z _ _
theorem Lm {f:DS->Option W} {p q:DS->Option (Option Int)} {δ:DS} {b:Str} {lo hi:Option Int} (h:f δ=some (.str b)) (h1:p δ=some lo) (h2:q δ=some hi) (hz:b.length<=1000):pK f p q δ=some (.str (Txt.slice b lo hi)):=by simp only [pK,E8,h,h1,h2,Option.bind_some,if_pos hz]
section
variable {s0:Sl} {L P aI:Int} {b:Str}
noncomputable def dN (s0:Sl) (L P aI:Int) (b:Str) (s7 s8 s9 s10:Sl):DS:=[s0,.val (.str gH),.val (.list (KP.map .str)),.val (.int L),.val (.int P),.val (.int aI),.val (.str b),s7,s8,s9,s10]
theorem zV (hb:fm b) (hl:b.length<=100) (k:Int) (h0:0<=k) (h1:k<=6) (acc:List W) (ha:acc.length<100) (s9 s10:Sl):∃ (w:Str) (t9:Sl),fm w/\fu (dN s0 L P aI b (.val (.int k)) (.own acc) s9 s10)=some (.nx (dN s0 L P aI b (.val (.int k)) (.own (acc++[.str w])) t9 (.val (.str w)))):=by
 have hz:b.length<=1000:=by omega
 have h2:=cE (aI+5*k) (j:=26) (by decide)
 obtain ⟨c,ec,hc⟩:=zG _ h2.1 h2.2
 have gm:kf (.int 5) (.int k)=some (.int (5*k)):=nU (q5 (by decide) (by decide))
 let a1:=Txt.slice b none (some P)
 let a2:=Txt.slice b (some (P+1)) (some L)
 have l1:a1.length<=b.length:=tN _ _ _
 have l2:a2.length<=b.length:=tN _ _ _
 have g1:bQ (.str a1) (.str ⟨#[c]⟩)=some (.str (a1++⟨#[c]⟩)):=tI (sz _ (by rw [p7];omega))
 have l3:(a1++⟨#[c]⟩:Str).length=a1.length+1:=by rw [qc,p7]
 have g2:bQ (.str (a1++⟨#[c]⟩)) (.str a2)=some (.str (a1++⟨#[c]⟩++a2)):=tI (sz _ (by omega))
 have l4:(a1++⟨#[c]⟩++a2:Str).length=(a1++⟨#[c]⟩:Str).length+a2.length:=qc _ _
 have k1:fm (a1++⟨#[c]⟩++a2:Str):=((hb.slice _ _).app hc).app (hb.slice _ _)
 let sg:W:=.str ⟨#[c]⟩
 let w1:Str:=a1++⟨#[c]⟩++a2
 have e1:aD (av aP (au 1) (av bE (av bQ (au 5) (av kf (dC (.int (5))) (ac 7))) (dC (.int (26))))) (ae 9) (dN s0 L P aI b (.val (.int k)) (.own acc) s9 s10)=some (.nx (dN s0 L P aI b (.val (.int k)) (.own acc) (.val sg) s10)):=aO (dO rfl (dO (dO rfl (dO rfl rfl gm) rfl) rfl rfl) ec) rfl
 have e2:aD (av bQ (av bQ (pK (ac 6) cQ (dD (ac 4))) (ac 9)) (pK (ac 6) (dD (av bQ (au 4) (dC (.int (1))))) (dD (ac 3)))) (ae 10) (dN s0 L P aI b (.val (.int k)) (.own acc) (.val sg) s10)=some (.nx (dN s0 L P aI b (.val (.int k)) (.own acc) (.val sg) (.val (.str w1)))):=aO (dO (dO (Lm rfl rfl rfl hz) rfl g1) (Lm rfl rfl rfl hz) g2) rfl
 have e3:∃ w2:Str,fm w2/\w2.length<=300/\bP (ay b8 (av bE (av cj (au 5) (dC (.int (26)))) (dC (.int (4)))) (dC (.int (1)))) (aD (pK (ac 6) cQ (dD (av gSub' (dC (.int (8))) (ac 7)))) (ae 10)) aw (dN s0 L P aI b (.val (.int k)) (.own acc) (.val sg) (.val (.str w1)))=some (.nx (dN s0 L P aI b (.val (.int k)) (.own acc) (.val sg) (.val (.str w2)))):=by
  have t:ay b8 (av bE (av cj (au 5) (dC (.int (26)))) (dC (.int (4)))) (dC (.int (1))) (dN s0 L P aI b (.val (.int k)) (.own acc) (.val sg) (.val (.str w1)))=some (decide ((aI.fdiv 26).fmod 4=1)):=rfl
  by_cases h:(aI.fdiv 26).fmod 4=1
  . rw [decide_eq_true h] at t
    exact ⟨Txt.slice b none (some (8-k)),hb.slice _ _,Nat.le_trans (tN _ _ _) (by omega),aN (b:=true) t (aO (Lm rfl rfl rfl hz) rfl)⟩
  . rw [decide_eq_false h] at t
    exact ⟨w1,k1,(by show (a1++⟨#[c]⟩++a2:Str).length<=300;omega),aN (b:=false) t rfl⟩
 obtain ⟨w2,k2,l5,e3⟩:=e3
 have e4:∃ w3:Str,fm w3/\bP (lS (ay lQ (au 10) (au 2)) (ay b8 (au 10) (dC (.str "main")))) (aD (av rQ (dC (.str "q")) (AE jQ (au 10))) (ae 10)) aw (dN s0 L P aI b (.val (.int k)) (.own acc) (.val sg) (.val (.str w2)))=some (.nx (dN s0 L P aI b (.val (.int k)) (.own acc) (.val sg) (.val (.str w3)))):=by
  have t:∃ bb,lS (ay lQ (au 10) (au 2)) (ay b8 (au 10) (dC (.str "main"))) (dN s0 L P aI b (.val (.int k)) (.own acc) (.val sg) (.val (.str w2)))=some bb:=by
   have i1:ay lQ (au 10) (au 2) (dN s0 L P aI b (.val (.int k)) (.own acc) (.val sg) (.val (.str w2)))=some (decide (w2∈KP)):=HW w2 KP
   have i2:ay b8 (au 10) (dC (.str "main")) (dN s0 L P aI b (.val (.int k)) (.own acc) (.val sg) (.val (.str w2)))=some (decide (w2=Str.ofString "main")):=tD rfl
   cases h:decide (w2∈KP) with
   | true=>rw [h] at i1;exact ⟨true,FO i1⟩
   | false=>
    rw [h] at i1
    cases h':decide (w2=Str.ofString "main") with
    | true=>rw [h'] at i2;exact ⟨true,EQ i1 i2⟩
    | false=>rw [h'] at i2;exact ⟨false,FH i1 i2⟩
  obtain ⟨bb,t⟩:=t
  cases bb with
  | false=>exact ⟨w2,k2,aN (b:=false) t rfl⟩
  | true=>
   have q1:fm (Str.ofString "q"):=by unfold fm;decide +kernel
   have gl:jQ (.str w2)=some (.int w2.length):=if_pos (sz _ (by omega))
   have gs:rQ (.str "q") (.int (w2.length:Nat))=some (.str (Txt.mul (Str.ofString "q") (w2.length:Nat))):=by
    have ql:(Str.ofString "q").length<=1000:=by decide +kernel
    refine if_pos ?_
    simp only [Bool.and_eq_true,decide_eq_true_eq]
    exact ⟨⟨by omega,by omega⟩,ql⟩
   exact ⟨Txt.mul (Str.ofString "q") (w2.length:Nat),q1.mul _,aN (b:=true) t (aO (d:=.str (Txt.mul (Str.ofString "q") (w2.length:Nat))) (dO rfl gl gs) rfl)⟩
 obtain ⟨w3,k3,e4⟩:=e4
 exact ⟨w3,.val sg,k3,ak e1 (ak e2 (ak e3 (ak e4 (A9 rfl rfl (by omega)))))⟩
theorem LN (hb:fm b) (hl:b.length<=100):∀ (n:Nat) (lo:Int) (acc:List W) (s7 s9 s10:Sl),0<=lo->lo+n<=6->acc.length+n<100->∃ (N:List Str) (t7 t9 t10:Sl),N.length=n/\(∀ x∈N,fm x)/\bh (ae 7) fu (eW lo n) (dN s0 L P aI b s7 (.own acc) s9 s10)=some (.nx (dN s0 L P aI b t7 (.own (acc++N.map .str)) t9 t10))
 | 0,lo,acc,s7,s9,s10,_,_,_=>⟨[],s7,s9,s10,rfl,(λ x hx=>absurd hx List.not_mem_nil),by simp [eW,bh]⟩
 | n+1,lo,acc,s7,s9,s10,h0,h1,ha=>by
  obtain ⟨w,t9,hw,e⟩:=zV (s0:=s0) (L:=L) (P:=P) (aI:=aI) hb hl lo h0 (by omega) acc (by omega) s9 s10
  obtain ⟨N,u7,u9,u10,l,k,e2⟩:=LN hb hl n (lo+1) (acc++[.str w]) (.val (.int lo)) t9 (.val (.str w)) (by omega) (by omega) (by simp;omega)
  refine ⟨w::N,u7,u9,u10,by simp [l],λ x hx=>?_,?_⟩
  . rcases List.mem_cons.mp hx with rfl | hx
    . exact hw
    . exact k x hx
  . rw [fj]
    refine jo (δ2:=dN s0 L P aI b (.val (.int lo)) (.own acc) s9 s10) rfl e (e2.trans ?_)
    simp
end
theorem tV (m:Int):∃ N:List Str,gT [.int m]=some (.list (N.map .str))/\N.length=6/\∀ x∈N,fm x:=by
 have h8:=cE m (j:=8) (by decide)
 let L:Int:=1+m.fmod 8
 let P:Int:=(m.fdiv 8).fmod L
 obtain ⟨r1,b1,s7,e1,a1,l1⟩:=Ms (.val (.int m)) (.val (.list (KP.map .str))) (.val (.int L)) (.val (.int P)) .no .no .no 8 0 (m.fdiv 64) (Str.ofString "") .no (by unfold fm;decide +kernel) (by decide +kernel)
 have l0:(Str.ofString "").length=0:=by decide +kernel
 obtain ⟨N,t7,t9,t10,l2,k2,e2⟩:=LN (s0:=.val (.int m)) (L:=L) (P:=P) (aI:=r1) a1 (by omega) 6 0 [] s7 .no .no (by decide) (by decide) (by decide)
 refine ⟨N,?_,l2,k2⟩
 show bV 1 11 _ _=_
 refine aX rfl ?_
 refine ak (δ1:=[.val (.int m),.val (.str gH),.no,.no,.no,.no,.no,.no,.no,.no,.no]) rfl ?_
 refine ak (δ1:=[.val (.int m),.val (.str gH),.val (.list ((KP.take 12).map .str)),.no,.no,.no,.no,.no,.no,.no,.no]) rfl ?_
 refine ak (δ1:=[.val (.int m),.val (.str gH),.val (.list ((KP.take 23).map .str)),.no,.no,.no,.no,.no,.no,.no,.no]) (aO (d:=.list ((KP.take 23).map .str)) (dO (a:=.list ((KP.take 12).map .str)) (b:=.list (((KP.drop 12).take 11).map .str)) rfl rfl ((nJ (sz _ (by decide))).trans rfl)) rfl) ?_
 refine ak (δ1:=[.val (.int m),.val (.str gH),.val (.list (KP.map .str)),.no,.no,.no,.no,.no,.no,.no,.no]) (aO (d:=.list (KP.map .str)) (dO (a:=.list ((KP.take 23).map .str)) (b:=.list ((KP.drop 23).map .str)) rfl rfl ((nJ (sz _ (by decide))).trans rfl)) rfl) ?_
 refine ak (δ1:=[.val (.int m),.val (.str gH),.val (.list (KP.map .str)),.val (.int L),.no,.no,.no,.no,.no,.no,.no]) rfl ?_
 refine ak (δ1:=[.val (.int m),.val (.str gH),.val (.list (KP.map .str)),.val (.int L),.val (.int P),.no,.no,.no,.no,.no,.no]) (aO (d:=.int P) ?_ rfl) ?_
 . have hL:bE (.int (m.fdiv 8)) (.int L)=some (.int P):=nO (by simp only [jT,decide_eq_true_eq];omega)
   exact dO rfl rfl hL
 refine ak (δ1:=[.val (.int m),.val (.str gH),.val (.list (KP.map .str)),.val (.int L),.val (.int P),.val (.int (m.fdiv 64)),.no,.no,.no,.no,.no]) rfl ?_
 refine ak (δ1:=[.val (.int m),.val (.str gH),.val (.list (KP.map .str)),.val (.int L),.val (.int P),.val (.int (m.fdiv 64)),.val (.str ""),.no,.no,.no,.no]) rfl ?_
 refine ak (fg (ds:=eW 0 8) (gz (n:=8) rfl (by decide)) e1) ?_
 refine ak (δ1:=dN (.val (.int m)) L P r1 b1 s7 (.own []) .no .no) rfl ?_
 refine ak (fg (ds:=eW 0 6) (gz (n:=6) rfl (by decide)) e2) rfl
theorem D6 {α:Type} (g:α->W) (a:List α) {i:Int} (h0:0<=i) (h1:i<a.length):∃ k:Fin a.length,i=(k.val:Int)/\fK (a.map g) i=some (g a[k]):=by
 obtain ⟨k,rfl⟩:=Int.eq_ofNat_of_zero_le h0
 have hl:=Int.ofNat_lt.mp h1
 refine ⟨⟨k,hl⟩,rfl,?_⟩
 rw [Cd _ k (by rw [List.length_map];exact hl),List.getElem?_map,List.getElem?_eq_getElem hl]
 rfl
theorem gF {α:Type} (g:α->W) (a:List α) {i:Int} (h0:0<=i) (h1:i<a.length):∃ x∈a,fK (a.map g) i=some (g x):=by
 obtain ⟨k,_,e⟩:=D6 g a h0 h1
 exact ⟨_,List.getElem_mem k.2,e⟩
theorem o8 {α:Type} (g:α->W) (a:List α) (c:Int) (h:0<a.length):∃ x∈a,fK (a.map g) (c.fmod a.length)=some (g x):=
 have h:=cE c (Int.ofNat_lt.mpr h)
 gF g a h.1 h.2
theorem IT (i:Int) (h0:0<=i) (h1:i<7):∃ n:Nat,fK [W.int 0,.int 0,.int 0,.int 1,.int 1,.int 2,.int 6] i=some (.int (n:Int))/\n<=6/\(i<5->n<=1):=by
 obtain ⟨k,rfl,e⟩:=D6 (λ n:Nat=>W.int n) [0,0,0,1,1,2,6] h0 h1
 have:∀ k:Fin 7,[0,0,0,1,1,2,6][k]<=6/\((k.val:Int)<5->[0,0,0,1,1,2,6][k]<=1):=by decide
 exact ⟨_,e,this k⟩
theorem yQ (N:List Str) (hN:N.length=6) (c:Int):∃ x∈N,fK (N.map W.str) (c.fmod 6)=some (.str x):=by
 have h:=o8 W.str N c (by rw [hN];decide)
 rw [hN] at h
 exact h
theorem tK {α:Type} (g:α->W) (a:List α) (c:Int) (h:0<a.length):bE (.int c) (.int ((a.map g).length:Nat))=some (.int (c.fmod a.length)):=by
 rw [List.length_map]
 exact nO (by simp only [jT,decide_eq_true_eq];omega)
noncomputable def ik (o:Int) (t:Tr) (d c:Nat):Prop:=gd t d c/\(o=0->own t=false)
section
variable {N:List Str} {o:Int}
theorem ky (hN:N.length=6) (hk:∀ x∈N,fm x) (c:Int):∃ (t:Tr) (r:Int),ck [.int c,.list (N.map .str),.int o]=some (.tuple [tw t,.int r])/\ik o t 0 1:=by
 have h24:=cE c (j:=24) (by decide)
 let δ:DS:=[.val (.int c),.val (.list (N.map .str)),.val (.int o),.val (.int (c.fmod 24)),.val (.int (c.fdiv 24))]
 have pre:∀ {f:DS->Option cY} {d:W},f δ=some (.rt d)->az (aD (av bE (au 0) (dC (.int (24)))) (ae 3)) (az (aD (av cj (au 0) (dC (.int (24)))) (ae 4)) f) (bB 5 [.int c,.list (N.map .str),.int o])=some (.rt d):=λ {f d} h=>ak (δ1:=[.val (.int c),.val (.list (N.map .str)),.val (.int o),.val (.int (c.fmod 24)),.no]) rfl (ak (δ1:=δ) rfl h)
 have t1:ay Kc (au 3) (av gSub' (dC (.int (24))) (ac 2)) δ=some (decide (24-o<=c.fmod 24)):=rfl
 have t2:ay rF (au 3) (dC (.int (11))) δ=some (decide (c.fmod 24<11)):=rfl
 have t3:ay b8 (au 3) (dC (.int (11))) δ=some (decide (c.fmod 24=11)):=rfl
 have no:∀ t:Tr,pZ t=[]->CL t:=λ t h x hx=>by rw [h] at hx;cases hx
 by_cases h1:24-o<=c.fmod 24
 . obtain ⟨k,_,ek⟩:=o8 (λ k:Fin 3=>tw (.sig k)) [0,2] (c.fdiv 24) (by decide)
   rw [decide_eq_true h1] at t1
   exact ⟨.sig k,(c.fdiv 24).fdiv 2,aX rfl (pre (fw (aN (b:=true) t1 (bp (ie (qA (l:=[.tuple [.str "lane"],.tuple [.str "mine"]]) rfl rfl ek) rfl))))),⟨Nat.le_refl _,Nat.le_refl _,no _ rfl⟩,λ z=>by omega⟩
 rw [decide_eq_false h1] at t1
 have s1:=aN (f:=aT (aG (aa (av aP (ba (bm (aa (aG (aa (dC (.str "lane")) af)) (aa (aG (aa (dC (.str "mine")) af)) af)))) (av bE (au 4) (dC (.int (2))))) (aa (av cj (au 4) (dC (.int (2)))) af)))) (g:=aw) (b:=false) t1 rfl
 by_cases h2:c.fmod 24<11
 . obtain ⟨x,hx,ex⟩:=yQ N hN (c.fdiv 24)
   rw [decide_eq_true h2] at t2
   exact ⟨.nam x,(c.fdiv 24).fdiv 6,aX rfl (pre (ak s1 (fw (aN (b:=true) t2 (bp (ie (ie rfl (qA rfl rfl ex)) rfl)))))),⟨Nat.le_refl _,Nat.le_refl _,λ y hy=>by rw [List.mem_singleton.mp hy];exact (hk x hx).ok⟩,λ _=>rfl⟩
 rw [decide_eq_false h2] at t2
 have s2:=aN (f:=aT (aG (aa (aG (aa (dC (.str "name")) (aa (av aP (au 1) (av bE (au 4) (dC (.int (6))))) af))) (aa (av cj (au 4) (dC (.int (6)))) af)))) (g:=aw) (b:=false) t2 rfl
 by_cases h3:c.fmod 24=11
 . rw [decide_eq_true h3] at t3
   exact ⟨.sig 1,c.fdiv 24,aX rfl (pre (ak s1 (ak s2 (fw (aN (b:=true) t3 (bp (ie (GO rfl) rfl))))))),⟨Nat.le_refl _,Nat.le_refl _,no _ rfl⟩,λ _=>rfl⟩
 . rw [decide_eq_false h3] at t3
   exact ⟨.num ((c.fdiv 24).fmod 1999999999-999999999),(c.fdiv 24).fdiv 199,aX rfl (pre (ak s1 (ak s2 (ak (aN (b:=false) t3 rfl) (bp (ie (ie rfl rfl) rfl)))))),⟨Nat.le_refl _,Nat.le_refl _,no _ rfl⟩,λ _=>rfl⟩
theorem A0 {t:Tr} {d c:Nat} (h:ik o t d c):ik o (.box t) (d+1) (c+1):=⟨⟨by have:=h.1.1;simp only [om];omega,by have:=h.1.2.1;simp only [mm];omega,λ x hx=>h.1.2.2 x (by simpa [pZ,eM] using hx)⟩,λ z=>h.2 z⟩
theorem Ar {a b:Tr} {d c d' c':Nat} (k:Fin 7) (h:ik o a d c) (h':ik o b d' c'):ik o (.op k a b) (max d d'+1) (c+c'+1):=⟨⟨by have:=h.1.1;have:=h'.1.1;simp only [om];omega,by have:=h.1.2.1;have:=h'.1.2.1;simp only [mm];omega,λ x hx=>by
 rw [uM] at hx
 rcases List.mem_append.mp hx with hx | hx
 . exact h.1.2.2 x hx
 . exact h'.1.2.2 x hx⟩,λ z=>by rw [Fa,h.2 z,h'.2 z];rfl⟩
theorem gZ {t:Tr} {d c d' c':Nat} (h:ik o t d c) (h1:d<=d') (h2:c<=c'):ik o t d' c':=⟨⟨Nat.le_trans h.1.1 h1,Nat.le_trans h.1.2.1 h2,h.1.2.2⟩,h.2⟩
theorem sW (hN:N.length=6) (hk:∀ x∈N,fm x) (c:Int):∃ (t:Tr) (r:Int),eg [.int c,.list (N.map .str),.int o]=some (.tuple [tw t,.int r])/\ik o t 1 3:=by
 obtain ⟨a,r,ea,ga⟩:=ky (o:=o) hN hk (c.fdiv 5)
 let δ (r:Int) (s5:Sl):DS:=[.val (.int c),.val (.list (N.map .str)),.val (.int o),.val (tw a),.val (.int r),s5]
 have t1:ay b8 (av bE (au 0) (dC (.int (5)))) (dC (.int (1))) (δ r .no)=some (decide (c.fmod 5=1)):=rfl
 have t2:ay b8 (av bE (au 0) (dC (.int (5)))) (dC (.int (2))) (δ r .no)=some (decide (c.fmod 5=2)):=rfl
 have s0:aD (aU ck (aa (av cj (au 0) (dC (.int (5)))) (aa (ac 1) (aa (ac 2) af)))) (bI 2 (aA (ae 3) (aA (ae 4) bL))) (bB 6 [.int c,.list (N.map .str),.int o])=some (.nx (δ r .no)):=aO (hU rfl ea) rfl
 by_cases h1:c.fmod 5=1
 . rw [decide_eq_true h1] at t1
   exact ⟨.box a,r,aX rfl (ak s0 (fw (aN (b:=true) t1 (bp (ie (ie rfl rfl) rfl))))),gZ (A0 ga) (by decide) (by decide)⟩
 rw [decide_eq_false h1] at t1
 by_cases h2:c.fmod 5=2
 . obtain ⟨b,r2,eb,gb⟩:=ky (o:=o) hN hk r
   obtain ⟨k,_,ek⟩:=o8 (λ k:Fin 7=>W.str (qZ k)) [0,2,5] r2 (by decide)
   rw [decide_eq_true h2] at t2
   exact ⟨.op k a b,r2.fdiv 3,aX rfl (ak s0 (ak (aN (b:=false) t1 rfl) (fw (aN (b:=true) t2 (ak (f:=aD (aU ck (aa (ac 4) (aa (ac 1) (aa (ac 2) af)))) (bI 2 (aA (ae 5) (aA (ae 4) bL)))) (δ1:=δ r2 (.val (tw b))) (aO (hU rfl eb) rfl) (bp (ie (qd (qA (l:=[.str "+", .str "*", .str "<"]) rfl rfl ek) rfl rfl) rfl))))))),gZ (Ar k ga gb) (by decide) (by decide)⟩
 . rw [decide_eq_false h2] at t2
   exact ⟨a,r,aX rfl (ak s0 (ak (aN (b:=false) t1 rfl) (ak (aN (b:=false) t2 rfl) (bp (ie rfl rfl))))),gZ ga (by decide) (by decide)⟩
end
theorem FK {f g:DS->Option cY} {δ δ':DS} (h:f δ=some (.ct δ')):az f g δ=some (.ct δ'):=by unfold az;rw [h]
section
variable {N:List Str} {o num:Int}
noncomputable def dX (N:List Str) (o num:Int) (D:Nat) (t:Tr) (aI:Int) (s6 s7 s8 s9:Sl):DS:=[.val (.int num),.val (.list (N.map .str)),.val (.int o),.val (.int (D:Int)),.val (tw t),.val (.int aI),s6,s7,s8,s9]
theorem C0 (hN:N.length=6) (hk:∀ x∈N,fm x) (D k:Nat) (hkk:k<100) (t:Tr) (d c:Nat) (g:ik o t d c) (aI:Int) (s7 s8 s9:Sl):∃ (t':Tr) (r':Int) (s7' s8' s9':Sl),ik o t' (max d 1+1) (c+4)/\(cq (dX N o num D t aI (.val (.int (k:Int))) s7 s8 s9)=some (.nx (dX N o num D t' r' (.val (.int (k:Int))) s7' s8' s9'))∨cq (dX N o num D t aI (.val (.int (k:Int))) s7 s8 s9)=some (.ct (dX N o num D t' r' (.val (.int (k:Int))) s7' s8' s9'))):=by
 obtain ⟨m,em,_⟩:=f9 (num+(k:Int)) (k+5) (by omega)
 have e5:((k+5:Nat):Int)=(k:Int)+5:=by omega
 rw [e5] at em
 have s1:∃ r1,bP (ay rF (au 5) (av km (dC (.int (10))) (dC (.int (11))))) (aD (aU bD (aa (av bQ (au 0) (ac 6)) (aa (av bQ (au 6) (dC (.int (5)))) af))) (ae 5)) aw (dX N o num D t aI (.val (.int (k:Int))) s7 s8 s9)=some (.nx (dX N o num D t r1 (.val (.int (k:Int))) s7 s8 s9)):=by
  have tt:ay rF (au 5) (av km (dC (.int (10))) (dC (.int (11)))) (dX N o num D t aI (.val (.int (k:Int))) s7 s8 s9)=some (decide (aI<100000000000)):=A8 rfl (dO rfl rfl HJ) rfl
  by_cases h:aI<100000000000
  . rw [decide_eq_true h] at tt
    exact ⟨m,aN (b:=true) tt (aO (d:=.int m) (hU rfl em) rfl)⟩
  . rw [decide_eq_false h] at tt
    exact ⟨aI,aN (b:=false) tt rfl⟩
 obtain ⟨r1,s1⟩:=s1
 let kd:Int:=r1.fmod 4
 let r2:Int:=r1.fdiv 4
 have s2:aD (av bE (au 5) (dC (.int (4)))) (ae 7) (dX N o num D t r1 (.val (.int (k:Int))) s7 s8 s9)=some (.nx (dX N o num D t r1 (.val (.int (k:Int))) (.val (.int kd)) s8 s9)):=rfl
 have s3:aD (av cj (au 5) (dC (.int (4)))) (ae 5) (dX N o num D t r1 (.val (.int (k:Int))) (.val (.int kd)) s8 s9)=some (.nx (dX N o num D t r2 (.val (.int (k:Int))) (.val (.int kd)) s8 s9)):=rfl
 have t4:ay b8 (au 7) (dC (.int (0))) (dX N o num D t r2 (.val (.int (k:Int))) (.val (.int kd)) s8 s9)=some (decide (kd=0)):=rfl
 by_cases h0:kd=0
 . rw [decide_eq_true h0] at t4
   refine ⟨.box t,r2,.val (.int kd),s8,s9,gZ (A0 g) (by omega) (by omega),.inr ?_⟩
   refine ak s1 (ak s2 (ak s3 ?_))
   have:bP (ay b8 (au 7) (dC (.int (0)))) (az (aD (aG (aa (dC (.str "box")) (aa (ac 4) af))) (ae 4)) jr) aw (dX N o num D t r2 (.val (.int (k:Int))) (.val (.int kd)) s8 s9)=some (.ct (dX N o num D (.box t) r2 (.val (.int (k:Int))) (.val (.int kd)) s8 s9)):=by
    refine aN (b:=true) t4 (if_pos rfl |>.trans ?_)
    exact ak (δ1:=dX N o num D (.box t) r2 (.val (.int (k:Int))) (.val (.int kd)) s8 s9) (aO (ie rfl rfl) rfl) rfl
   exact FK this
 . rw [decide_eq_false h0] at t4
   have s4:∃ (u:Tr) (r3:Int),ik o u 1 3/\bP (ja (ay b8 (au 3) (dC (.int (6)))) (ay b8 (au 6) (dC (.int (0))))) (aD (aU ck (aa (ac 5) (aa (ac 1) (aa (ac 2) af)))) (bI 2 (aA (ae 8) (aA (ae 5) bL)))) (aD (aU eg (aa (ac 5) (aa (ac 1) (aa (ac 2) af)))) (bI 2 (aA (ae 8) (aA (ae 5) bL)))) (dX N o num D t r2 (.val (.int (k:Int))) (.val (.int kd)) s8 s9)=some (.nx (dX N o num D t r3 (.val (.int (k:Int))) (.val (.int kd)) (.val (tw u)) s9)):=by
    have tt:∃ b,ja (ay b8 (au 3) (dC (.int (6)))) (ay b8 (au 6) (dC (.int (0)))) (dX N o num D t r2 (.val (.int (k:Int))) (.val (.int kd)) s8 s9)=some b:=by
     have tD6:ay b8 (au 3) (dC (.int (6))) (dX N o num D t r2 (.val (.int (k:Int))) (.val (.int kd)) s8 s9)=some (decide ((D:Int)=6)):=rfl
     by_cases h6:(D:Int)=6
     . exact ⟨decide ((k:Int)=0),dA (decide_eq_true h6▸tD6) rfl⟩
     . exact ⟨false,Ld (decide_eq_false h6▸tD6)⟩
    obtain ⟨b,tt⟩:=tt
    cases b with
    | true=>
     obtain ⟨u,r3,eu,gu⟩:=ky (o:=o) hN hk r2
     exact ⟨u,r3,gZ gu (by decide) (by decide),aN (b:=true) tt (aO (d:=.tuple [tw u,.int r3]) (hU rfl eu) rfl)⟩
    | false=>
     obtain ⟨u,r3,eu,gu⟩:=sW (o:=o) hN hk r2
     exact ⟨u,r3,gu,aN (b:=false) tt (aO (d:=.tuple [tw u,.int r3]) (hU rfl eu) rfl)⟩
   obtain ⟨u,r3,gu,s4⟩:=s4
   obtain ⟨q,_,eq⟩:=o8 (λ k:Fin 7=>W.str (qZ k)) [0,1,2,3,4,5,6] r3 (by decide)
   have s5:aD (av aP (ba (bm (aa (dC (.str "+")) (aa (dC (.str "-")) (aa (dC (.str "*")) (aa (dC (.str "div")) (aa (dC (.str "rem")) (aa (dC (.str "<")) (aa (dC (.str "=")) af))))))))) (av bE (au 5) (dC (.int (7))))) (ae 9) (dX N o num D t r3 (.val (.int (k:Int))) (.val (.int kd)) (.val (tw u)) s9)=some (.nx (dX N o num D t r3 (.val (.int (k:Int))) (.val (.int kd)) (.val (tw u)) (.val (.str (qZ q))))):=aO (qA (l:=[W.str "+", .str "-", .str "*", .str "div", .str "rem", .str "<", .str "="]) rfl rfl eq) rfl
   have s6:aD (av cj (au 5) (dC (.int (7)))) (ae 5) (dX N o num D t r3 (.val (.int (k:Int))) (.val (.int kd)) (.val (tw u)) (.val (.str (qZ q))))=some (.nx (dX N o num D t (r3.fdiv 7) (.val (.int (k:Int))) (.val (.int kd)) (.val (tw u)) (.val (.str (qZ q))))):=rfl
   have t7:ay b8 (au 7) (dC (.int (1))) (dX N o num D t (r3.fdiv 7) (.val (.int (k:Int))) (.val (.int kd)) (.val (tw u)) (.val (.str (qZ q))))=some (decide (kd=1)):=rfl
   have s40:=aN (f:=az (aD (aG (aa (dC (.str "box")) (aa (ac 4) af))) (ae 4)) jr) (g:=aw) (b:=false) t4 rfl
   by_cases h1:kd=1
   . rw [decide_eq_true h1] at t7
     refine ⟨.op q t u,r3.fdiv 7,.val (.int kd),.val (tw u),.val (.str (qZ q)),gZ (Ar q g gu) (by omega) (by omega),.inl ?_⟩
     exact ak s1 (ak s2 (ak s3 (ak s40 (ak s4 (ak s5 (ak s6 (aN (b:=true) t7 (aO (d:=tw (.op q t u)) (qd rfl rfl rfl) rfl))))))))
   . rw [decide_eq_false h1] at t7
     refine ⟨.op q u t,r3.fdiv 7,.val (.int kd),.val (tw u),.val (.str (qZ q)),gZ (Ar q gu g) (by omega) (by omega),.inl ?_⟩
     exact ak s1 (ak s2 (ak s3 (ak s40 (ak s4 (ak s5 (ak s6 (aN (b:=false) t7 (aO (d:=tw (.op q u t)) (qd rfl rfl rfl) rfl))))))))
theorem Iz {h:W->DS->Option DS} {f:DS->Option cY} {d:W} {ds:List W} {δ δ2 δ':DS} {o:Option cY} (h1:h d δ=some δ2) (h2:f δ2=some (.ct δ')) (h3:bh h f ds δ'=o):bh h f (d::ds) δ=o:=by
 rw [<-h3]
 show (h d δ).bind _=_
 rw [h1]
 show (match f δ2 with | some (.nx δ')=>_ | some (.ct δ')=>_ | some (.bk δ')=>_ | some (.rt d)=>_ | none=>_)=_
 rw [h2]
theorem vC (hN:N.length=6) (hk:∀ x∈N,fm x) (D:Nat):∀ (n lo d c:Nat) (t:Tr) (aI:Int) (s6 s7 s8 s9:Sl),lo+n<100->ik o t d c->1<=d->∃ (t':Tr) (r':Int) (s6' s7' s8' s9':Sl),ik o t' (d+n) (c+4*n)/\bh (ae 6) cq (eW (lo:Int) n) (dX N o num D t aI s6 s7 s8 s9)=some (.nx (dX N o num D t' r' s6' s7' s8' s9'))
 | 0,lo,d,c,t,aI,s6,s7,s8,s9,_,g,_=>⟨t,aI,s6,s7,s8,s9,g,rfl⟩
 | n+1,lo,d,c,t,aI,s6,s7,s8,s9,hl,g,hd=>by
  obtain ⟨t1,r1,u7,u8,u9,g1,e1⟩:=C0 (o:=o) (num:=num) hN hk D lo (by omega) t d c g aI s7 s8 s9
  obtain ⟨t2,r2,v6,v7,v8,v9,g2,e2⟩:=vC hN hk D n (lo+1) (d+1) (c+4) t1 r1 (.val (.int (lo:Int))) u7 u8 u9 (by omega) (gZ g1 (by omega) (Nat.le_refl _)) (by omega)
  refine ⟨t2,r2,v6,v7,v8,v9,gZ g2 (by omega) (by omega),?_⟩
  rw [fj]
  rcases e1 with e1 | e1
  . exact jo (δ2:=dX N o num D t aI (.val (.int (lo:Int))) s7 s8 s9) rfl e1 e2
  . exact Iz (δ2:=dX N o num D t aI (.val (.int (lo:Int))) s7 s8 s9) rfl e1 e2
theorem ge (hN:N.length=6) (hk:∀ x∈N,fm x):∃ t:Tr,aY [.int num,.list (N.map .str),.int o]=some (tw t)/\ik o t 7 30/\(num.fmod 7<5->ik o t 7 5):=by
 have hm:=cE num (j:=7) (by decide)
 obtain ⟨D,eD,hD,hD1⟩:=IT _ hm.1 hm.2
 obtain ⟨a,r,ea,ga⟩:=ky (o:=o) hN hk (num.fdiv 7)
 obtain ⟨t,r',s6,s7,s8,s9,g,e⟩:=vC (o:=o) (num:=num) hN hk D D 0 1 1 a r .no .no .no .no (by omega) (gZ ga (by decide) (by decide)) (by decide)
 refine ⟨t,?_,gZ g (by omega) (by omega),λ z=>gZ g (by omega) (by have:=hD1 z;omega)⟩
 refine aX rfl ?_
 refine ak (δ1:=[.val (.int num),.val (.list (N.map .str)),.val (.int o),.val (.int (D:Int)),.no,.no,.no,.no,.no,.no]) (aO (qA (l:=[W.int 0,.int 0,.int 0,.int 1,.int 1,.int 2,.int 6]) rfl rfl eD) rfl) ?_
 refine ak (δ1:=dX N o num D a r .no .no .no .no) (aO (d:=.tuple [tw a,.int r]) (hU rfl ea) rfl) ?_
 refine ak (fg (ds:=eW 0 D) (gz (n:=D) rfl (by omega)) e) rfl
end
inductive Op where
 | st (h:Hd) | opn (wh:Bool) (t:Tr) | fin | els
noncomputable def lT (wh:Bool):Fin 12:=if wh=true then 11 else 10
noncomputable def dm:Op->W
 | .st h=>.tuple (.str (dP (aE h))::rs h)
 | .opn wh t=>.tuple [.str (dP (lT wh)),tw t]
 | .fin=>.tuple [.str "end"]
 | .els=>.tuple [.str "else"]
noncomputable def PP (o:Int) (FN WD:List Str) (wh:Bool):Hd->Prop
 | .set x t=>PyData.strOk x=true/\ik o t 7 30
 | .put a b=>ik o a 7 30/\ik o b 7 30
 | .tell t=>ik o t 7 30
 | .ret t=>ik o t 7 30
 | .brk=>wh=true
 | .agn=>wh=true
 | .mt=>True
 | .stp=>True
 | .join x j t=>PyData.strOk x=true/\j∈WD/\ik o t 7 30
 | .call x f ts=>PyData.strOk x=true/\f∈FN/\ts.length<=6/\∀ t∈ts,ik o t 7 5
 | .ifs t _=>ik o t 7 30
 | .whl t _=>ik o t 7 30
noncomputable def AD (o:Int) (FN WD:List Str):Op->Prop
 | .st h=>jt h=some []/\PP o FN WD true h
 | .opn _ t=>ik o t 7 30
 | _=>True
noncomputable abbrev Rm:=Str×List Str
noncomputable def d9 (r:Rm):W:=.tuple [.str r.1,.list (r.2.map .str)]
theorem iP {l:List Str} (h:∀ x∈l,PyData.strOk x=true):bZ (l.map .str)=true/\bC (l.map .str)<=0:=
 ⟨i8 λ d hd=>by obtain ⟨x,h1,rfl⟩:=List.mem_map.mp hd;exact h x h1,iS λ d hd=>by obtain ⟨x,h1,rfl⟩:=List.mem_map.mp hd;simp [cA]⟩
structure GC (FN:List Str) (r:Rm):Prop where
 n:PyData.strOk r.1=true
 p:∀ x∈r.2,PyData.strOk x=true
 l:r.2.length<=6
 f:r.1≠Str.ofString "main" -> r.1∈FN
theorem Gh {ds:List W} (h:bZ ds=true) (hd:bC ds<=60):b8 (.list ds) (.list [])=some ds.isEmpty:=by
 obtain ⟨a,a1,a2,a3,_⟩:=uC (.list ds) (by simpa [gv] using h)
 obtain ⟨xs,b1,rfl⟩:=oM a1
 have p1:(W.list []).py=some (.list []):=rfl
 have c1:(PyData.list []).canLay0=true:=by simp [PyData.canLay0,PyData.canLayAll0]
 have s1:HG (.list ds) (.list [])=none:=rfl
 have d1:(PyData.list xs).depth<=64:=by rw [a3];simp [cA];omega
 have e:PyData.eqv (.list xs) (.list [])=ds.isEmpty:=by
  cases ds with
  | nil=>cases b1;simp [PyData.eqv,PyData.eqvAll]
  | cons y ys=>
   simp only [W.pys] at b1
   obtain ⟨u,_,b2⟩:=oB b1
   obtain ⟨v,_,rfl⟩:=oM b2
   simp [PyData.eqv,PyData.eqvAll]
 simp only [b8,s1,a1,p1,Option.bind_some,a2,c1,d1,decide_true,Bool.and_self,if_true,e]
theorem Lo:km (.int 10) (.int 4)=some (.int 10000):=by
 show (if m6 10 4=true then some (W.int ((10:Int)^(4:Int).toNat)) else none)=_
 rw [if_pos (by decide +kernel)]
 rfl
theorem DL:km (.int 10) (.int 12)=some (.int 1000000000000):=by
 show (if m6 10 12=true then some (W.int ((10:Int)^(12:Int).toNat)) else none)=_
 rw [if_pos (by decide +kernel)]
 rfl
theorem HE:km (.int 10) (.int 9)=some (.int 1000000000):=by
 show (if m6 10 9=true then some (W.int ((10:Int)^(9:Int).toNat)) else none)=_
 rw [if_pos (by decide +kernel)]
 rfl
theorem sH:∀ (R:List Rm),b6 (ae 0) (ay qP (av aP (au 0) (dC (.int (0)))) (dC (.str "main"))) (ac 0) [.no] (R.map d9)=some ((R.filter λ r=>!decide (r.1=Str.ofString "main")).map d9)
 | []=>rfl
 | r::R=>by
  have ih:=sH R
  by_cases h:r.1=Str.ofString "main"
  . have e:=decide_eq_true h
    simp! [List.map_cons,b6,d9,uD,qO,e,Bool.not_true] at ih ⊢
    rw [ih]
    simp [e]
  . have e:=decide_eq_false h
    simp! [List.map_cons,b6,d9,uD,qO,e,Bool.not_false] at ih ⊢
    rw [ih]
    simp [e,d9]
section
variable {V:List Str} {o:Int} {FN WD:List Str}
theorem vO (hV:V.length=6) (hk:∀ x∈V,fm x) (s1 s3 s5 s6 s7:Sl):∀ (n:Nat) (lo aI:Int) (acc:List Tr) (s9:Sl),acc.length+n<100->(∀ t∈acc,ik o t 7 5)->∃ (ts:List Tr) (rest':Int) (s9':Sl),ts.length=acc.length+n/\(∀ t∈ts,ik o t 7 5)/\bh (ae 9) jj (eW lo n) [.val (.int aI),s1,.val (.list (V.map .str)),s3,.val (.int o),s5,s6,s7,.own (acc.map tw),s9]=some (.nx [.val (.int rest'),s1,.val (.list (V.map .str)),s3,.val (.int o),s5,s6,s7,.own (ts.map tw),s9'])
 | 0,lo,aI,acc,s9,_,ha=>⟨acc,aI,s9,rfl,ha,rfl⟩
 | n+1,lo,aI,acc,s9,hl,ha=>by
  let num:Int:=aI.fmod 1000*7+(aI.fdiv 1000).fmod 5
  have h5:=cE (aI.fdiv 1000) (j:=5) (by decide)
  have hn:num.fmod 7<5:=by
   have e:num.fmod 7=(aI.fdiv 1000).fmod 5:=by
    rw [Int.fmod_eq_emod_of_nonneg _ (by decide)]
    show (aI.fmod 1000*7+(aI.fdiv 1000).fmod 5)%7=_
    omega
   omega
  obtain ⟨t,et,_,gt⟩:=ge (num:=num) (o:=o) hV hk
  have gm:kf (.int (aI.fmod 1000)) (.int 7)=some (.int (aI.fmod 1000*7)):=nU (CH (by decide) (by decide))
  obtain ⟨ts,r',s9',l,g,e⟩:=vO hV hk s1 s3 s5 s6 s7 n (lo+1) (aI.fdiv 10000) (acc++[t]) (.val (.int lo)) (by simp;omega) (λ u hu=>by
   rcases List.mem_append.mp hu with hu | hu
   . exact ha u hu
   . rw [List.mem_singleton.mp hu];exact gt hn)
  refine ⟨ts,r',s9',by simp at l;omega,g,?_⟩
  rw [fj]
  exact jo (δ2:=[.val (.int aI),s1,.val (.list (V.map .str)),s3,.val (.int o),s5,s6,s7,.own (acc.map tw),.val (.int lo)]) rfl (ak (δ1:=[.val (.int aI),s1,.val (.list (V.map .str)),s3,.val (.int o),s5,s6,s7,.own ((acc++[t]).map tw),.val (.int lo)]) ((A9 rfl (hU (sM (dO (dO rfl rfl gm) rfl rfl) rfl rfl) et) (by rw [List.length_map];omega)).trans (by rw [List.map_append];rfl)) (aO (dO rfl (dO rfl rfl Lo) rfl) rfl)) e
theorem xH (hV:V.length=6) (hk:∀ x∈V,fm x) (R:List Rm) (hR:∀ r∈R,GC FN r) (hl:R.length<=10) (aI:Int) (x:Str) (hx:PyData.strOk x=true):∃ op,io [.int aI,.str x,.list (V.map .str),.list (R.map d9),.int o]=some (dm op)/\AD o FN WD op:=by
 let T:=R.filter λ r=>!decide (r.1=Str.ofString "main")
 have tl:T.length<=R.length:=List.length_filter_le _ _
 have tR:∀ r∈T,GC FN r/\r.1≠Str.ofString "main" := λ r hr=>by
  obtain ⟨h1,h2⟩:=List.mem_filter.mp hr
  exact ⟨hR r h1,by simpa using h2⟩
 have ok:bZ (T.map d9)=true/\bC (T.map d9)<=2:=⟨i8 λ d hd=>by
  obtain ⟨r,h1,rfl⟩:=List.mem_map.mp hd
  have a:=iP (tR r h1).1.p
  have b:=(tR r h1).1.n
  simp [d9,gv,bZ,a.1,b],iS λ d hd=>by
  obtain ⟨r,h1,rfl⟩:=List.mem_map.mp hd
  have a:=iP (tR r h1).1.p
  simp [d9,cA,bC]
  omega⟩
 have en:=Gh ok.1 (by omega)
 let δ (s5 s6 s7 s8 s9:Sl) (r:Int):DS:=[.val (.int r),.val (.str x),.val (.list (V.map .str)),.val (.list (R.map d9)),.val (.int o),s5,s6,s7,s8,s9]
 have st1:aD (ba (gg [none] (bz (au 3)) (ae 0) (ay qP (av aP (au 0) (dC (.int (0)))) (dC (.str "main"))) (ac 0))) (ae 5) (δ .no .no .no .no .no aI)=some (.nx (δ (.val (.list (T.map d9))) .no .no .no .no aI)):=aO (HC rfl (by rw [List.length_map];omega) (sH R)) rfl
 have t1:ay b8 (au 5) (ba (bm af)) (δ (.val (.list (T.map d9))) .no .no .no .no aI)=some (T.map d9).isEmpty:=A8 rfl rfl en
 by_cases hT:T=[]
 . obtain ⟨t,et,gt,_⟩:=ge (num:=aI) (o:=o) hV hk
   exact ⟨.st (.tell t),aX rfl (ak st1 (fw (aN (b:=true) (by rw [t1,hT];rfl) (bp (ie rfl (hU rfl et)))))),rfl,gt⟩
 . have hp:0<T.length:=List.length_pos_iff.mpr hT
   obtain ⟨q,hq,ea⟩:=o8 d9 T aI hp
   have hr:=tR q hq
   have md:=tK d9 T aI hp
   obtain ⟨ts,r',s9',l,g,e⟩:=vO (o:=o) hV hk (.val (.str x)) (.val (.list (R.map d9))) (.val (.list (T.map d9))) (.val (.str q.1)) (.val (.list (q.2.map .str))) q.2.length 0 (aI.fdiv 3) [] .no (by have:=hr.1.l;simp;omega) (λ t ht=>absurd ht List.not_mem_nil)
   refine ⟨.st (.call x q.1 ts),aX rfl (ak st1 (ak (aN (b:=false) ?_ rfl) ?_)),rfl,hx,hr.1.f hr.2,by have:=hr.1.l;simp at l;omega,g⟩
   . rw [t1]
     cases hq:T.map d9 with
     | nil=>exact absurd (List.map_eq_nil_iff.mp hq) hT
     | cons a b=>rfl
   refine ak (δ1:=δ (.val (.list (T.map d9))) (.val (.str q.1)) (.val (.list (q.2.map .str))) .no .no aI) (aO (d:=d9 q) (qA rfl (dO rfl rfl md) ea) rfl) ?_
   refine ak (δ1:=δ (.val (.list (T.map d9))) (.val (.str q.1)) (.val (.list (q.2.map .str))) .no .no (aI.fdiv 3)) rfl ?_
   refine ak (δ1:=δ (.val (.list (T.map d9))) (.val (.str q.1)) (.val (.list (q.2.map .str))) (.own (([]:List Tr).map tw)) .no (aI.fdiv 3)) rfl ?_
   exact ak (fg (ds:=eW 0 q.2.length) (gz (n:=q.2.length) (by first | rfl | simp! [δ,uD,List.length_map]) (by have:=hr.1.l;omega)) e) (bp (Mn rfl rfl rfl rfl))
end
section
variable {V:List Str} {o:Int} {FN WD:List Str}
theorem FR (hV:V.length=6) (hk:∀ x∈V,fm x) (R:List Rm) (hR:∀ r∈R,GC FN r) (hl:R.length<=10) (hW:0<WD.length) (num:Int):∃ op,kI [.int num,.list (V.map .str),.list (R.map d9),.int o,.list (WD.map .str)]=some (dm op)/\AD o FN WD op:=by
 have h24:=cE num (j:=24) (by decide)
 obtain ⟨x,hx,ex⟩:=yQ V hV (num.fdiv 24)
 have xo:=(hk x hx).ok
 let kd:=num.fmod 24
 let aI:=num.fdiv 144
 let δ (s0:Sl):DS:=[s0,.val (.list (V.map .str)),.val (.list (R.map d9)),.val (.int o),.val (.list (WD.map .str)),.val (.int kd),.val (.str x),.val (.int aI)]
 obtain ⟨t,et,gt,_⟩:=ge (num:=aI) (o:=o) hV hk
 have tl:∀ m:Int,ay rF (au 5) (dC (.int m)) (δ (.val (.int num)))=some (decide (kd<m)):=λ m=>rfl
 have te:∀ m:Int,ay b8 (au 5) (dC (.int m)) (δ (.val (.int num)))=some (decide (kd=m)):=λ m=>rfl
 have pre:∀ {f:DS->Option cY} {d:W},f (δ (.val (.int num)))=some (.rt d)->az (aD (av bE (au 0) (dC (.int (24)))) (ae 5)) (az (aD (av aP (au 1) (av bE (av cj (au 0) (dC (.int (24)))) (dC (.int (6))))) (ae 6)) (az (aD (av cj (au 0) (dC (.int (144)))) (ae 7)) f)) (bB 8 [.int num,.list (V.map .str),.list (R.map d9),.int o,.list (WD.map .str)])=some (.rt d):=λ {f d} h=>by
  refine ak (δ1:=[.val (.int num),.val (.list (V.map .str)),.val (.list (R.map d9)),.val (.int o),.val (.list (WD.map .str)),.val (.int kd),.no,.no]) rfl ?_
  refine ak (δ1:=[.val (.int num),.val (.list (V.map .str)),.val (.list (R.map d9)),.val (.int o),.val (.list (WD.map .str)),.val (.int kd),.val (.str x),.no]) (aO (qA rfl rfl ex) rfl) ?_
  exact ak (δ1:=δ (.val (.int num))) rfl h
 have F:∀ {m:Int} {g k:DS->Option cY},¬ kd<m->az (bP (ay rF (au 5) (dC (.int m))) g aw) k (δ (.val (.int num)))=k (δ (.val (.int num))):=λ {m g k} h=>ak (aN (b:=false) (by rw [tl,decide_eq_false h]) rfl) rfl
 have FE:∀ {m:Int} {g k:DS->Option cY},¬ kd=m->az (bP (ay b8 (au 5) (dC (.int m))) g aw) k (δ (.val (.int num)))=k (δ (.val (.int num))):=λ {m g k} h=>ak (aN (b:=false) (by rw [te,decide_eq_false h]) rfl) rfl
 have T:∀ {m:Int} {g k:DS->Option cY} {d:W},kd<m->g (δ (.val (.int num)))=some (.rt d)->az (bP (ay rF (au 5) (dC (.int m))) g aw) k (δ (.val (.int num)))=some (.rt d):=λ {m g k d} h e=>fw (aN (b:=true) (by rw [tl,decide_eq_true h]) e)
 have TE:∀ {m:Int} {g k:DS->Option cY} {d:W},kd=m->g (δ (.val (.int num)))=some (.rt d)->az (bP (ay b8 (au 5) (dC (.int m))) g aw) k (δ (.val (.int num)))=some (.rt d):=λ {m g k d} h e=>fw (aN (b:=true) (by rw [te,decide_eq_true h]) e)
 by_cases h5:kd<5
 . exact ⟨.st (.set x t),aX rfl (pre (T h5 (bp (qd rfl rfl (hU rfl et))))),rfl,xo,gt⟩
 by_cases h9:kd<9
 . obtain ⟨wh,_,ew⟩:=gF (λ wh=>W.str (dP (lT wh))) [false,false,true,true] (i:=kd-5) (by omega) (by show _<(4:Int);omega)
   exact ⟨.opn wh t,aX rfl (pre ((F h5).trans (T h9 (bp (ie (qA (l:=[W.str "if", .str "if", .str "while", .str "while"]) rfl rfl ew) (hU rfl et)))))),gt⟩
 by_cases h13:kd<13
 . obtain ⟨w,_,ew⟩:=gF (λ w:Bool=>W.str (bif w then Str.ofString "else" else Str.ofString "end")) [false,false,false,true] (i:=kd-9) (by omega) (by show _<(4:Int);omega)
   exact ⟨bif w then .els else .fin,Eq.trans (aX rfl (pre ((F h5).trans ((F h9).trans (T h13 (bp (GO (qA (l:=[W.str "end", .str "end", .str "end", .str "else"]) rfl rfl ew)))))))) (by cases w <;> rfl),by cases w <;> trivial⟩
 by_cases h17:kd<17
 . obtain ⟨h,m,ew⟩:=gF (λ h=>W.str (dP (aE h))) [.brk,.agn,.mt,.stp] (i:=kd-13) (by omega) (by show _<(4:Int);omega)
   have all:∀ h∈[Hd.brk,.agn,.mt,.stp],rs h=[]/\AD o FN WD (.st h):=List.forall_mem_cons.mpr ⟨⟨rfl,rfl,rfl⟩,List.forall_mem_cons.mpr ⟨⟨rfl,rfl,rfl⟩,List.forall_mem_cons.mpr ⟨⟨rfl,rfl,trivial⟩,List.forall_mem_cons.mpr ⟨⟨rfl,rfl,trivial⟩,λ _ h=>nomatch h⟩⟩⟩⟩
   exact ⟨.st h,Eq.trans (aX rfl (pre ((F h5).trans ((F h9).trans ((F h13).trans (T h17 (bp (GO (qA (l:=[W.str "break", .str "again", .str "meet", .str "stop"]) rfl rfl ew))))))))) (by rw [dm,(all h m).1]),(all h m).2⟩
 by_cases h19:kd<19
 . obtain ⟨h,m,ew⟩:=gF (λ h=>W.str (dP (aE h))) [.tell t,.ret t] (i:=kd-17) (by omega) (by show _<(2:Int);omega)
   have all:∀ h∈[Hd.tell t,.ret t],rs h=[tw t]/\AD o FN WD (.st h):=List.forall_mem_cons.mpr ⟨⟨rfl,rfl,gt⟩,List.forall_mem_cons.mpr ⟨⟨rfl,rfl,gt⟩,λ _ h=>nomatch h⟩⟩
   exact ⟨.st h,Eq.trans (aX rfl (pre ((F h5).trans ((F h9).trans ((F h13).trans ((F h17).trans (T h19 (bp (ie (qA (l:=[W.str "tell", .str "return"]) rfl rfl ew) (hU rfl et)))))))))) (by rw [dm,(all h m).1]),(all h m).2⟩
 by_cases e19:kd=19
 . obtain ⟨a,ea,ga,_⟩:=ge (num:=aI.fdiv 1000000000000) (o:=o) hV hk
   obtain ⟨b,eb,gb,_⟩:=ge (num:=aI.fmod 1000000000000) (o:=o) hV hk
   exact ⟨.st (.put b a),aX rfl (pre ((F h5).trans ((F h9).trans ((F h13).trans ((F h17).trans ((F h19).trans (TE e19 (ak (δ1:=δ (.val (tw a))) (aO (hU (iT (dO rfl (dO rfl rfl DL) rfl) rfl) ea) rfl) (bp (qd rfl (hU (iT (dO rfl (dO rfl rfl DL) rfl) rfl) eb) rfl)))))))))),rfl,gb,ga⟩
 by_cases e20:kd=20
 . obtain ⟨j,hj,aj⟩:=o8 W.str WD aI hW
   obtain ⟨b,eb,gb,_⟩:=ge (num:=aI.fdiv 4) (o:=o) hV hk
   exact ⟨.st (.join x j b),aX rfl (pre ((F h5).trans ((F h9).trans ((F h13).trans ((F h17).trans ((F h19).trans ((FE e19).trans (TE e20 (bp (Mn rfl rfl (qA rfl (dO rfl rfl (tK W.str WD aI hW)) aj) (hU rfl eb))))))))))),rfl,xo,hj,gb⟩
 . obtain ⟨op,eo,ho⟩:=xH (WD:=WD) (o:=o) hV hk R hR hl aI x xo
   exact ⟨op,aX rfl (pre ((F h5).trans ((F h9).trans ((F h13).trans ((F h17).trans ((F h19).trans ((FE e19).trans ((FE e20).trans (bp (hU rfl eo)))))))))),ho⟩
end
structure Fr where
 id:Nat
 wh:Bool
 ln:Int
 t:Tr
 up:Nat
 a:Nat
 b:Option Nat
noncomputable def bW:Option Nat->W
 | none=>.none
 | some b=>.ref b
noncomputable def mG (f:Fr):List W:=[.str (dP (lT f.wh)),.int f.ln,tw f.t,.ref f.up,.ref f.a,bW f.b]
noncomputable def kh (f:Fr):Nat:=f.b.getD f.a
noncomputable def c7 (fs:List Fr):List W:=fs.reverse.map λ f=>.ref f.id
theorem k2:∀ i:Fin 12,decide (dP i=Str.ofString "break")=decide (i=4)/\decide (dP i=Str.ofString "again")=decide (i=5)/\decide (dP i=Str.ofString "else")=false/\decide (dP i=Str.ofString "end")=false:=by decide +kernel
theorem kE:decide (Str.ofString "else" = Str.ofString "break")=false/\decide (Str.ofString "else" = Str.ofString "again")=false/\decide (Str.ofString "end" = Str.ofString "break")=false/\decide (Str.ofString "end" = Str.ofString "again")=false/\decide (Str.ofString "end" = Str.ofString "else")=false/\decide (Str.ofString "else" = Str.ofString "end")=false:=by decide +kernel
theorem kO:∀ wh:Bool,decide (dP (lT wh)=Str.ofString "while")=wh/\decide (dP (lT wh)=Str.ofString "if") = !wh:=by decide +kernel
theorem Az {fo:DS->ag->SM W} {δ:DS} {S:ag} {l:Nat} {es:List W} {i:Int} {x:W} (h1:fo δ S=some (.ok (.ref l),S)) (h2:S[l]?=some (.lst es)) (h3:fK es i=some x):sIx fo (ab (dC (.int i))) δ S=some (.ok x,S):=by
 have v:ab (dC (.int i)) δ S=some (.ok (.int i),S):=rfl
 simp only [sIx,h1,v,ao,DM h2,h3,hZ,Option.map_some]
theorem KC {fo:DS->ag->SM W} {δ:DS} {S:ag} {l:Nat} {es:List W} {x:W} (h1:fo δ S=some (.ok (.ref l),S)) (h2:S[l]?=some (.lst (es++[x]))):sIx fo (ab (AG lU (dC (.int (1))))) δ S=some (.ok x,S):=by
 have v:ab (AG lU (dC (.int (1)))) δ S=some (.ok (.int (-1)),S):=rfl
 simp only [sIx,h1,v,ao,DM h2,Ia,hZ,Option.map_some]
theorem Ly {fa:DS->ag->SM W} {δ:DS} {S:ag} {a b:Str} (h:fa δ S=some (.ok (.str a),S)):B7 false fa (ab (dC (.str b))) δ S=some (.ok (decide (a=b)),S):=by
 have v:ab (dC (.str b)) δ S=some (.ok (.str b),S):=rfl
 have e:Cv false (.str a) (.str b) S=some (decide (a=b)):=rfl
 simp only [B7,h,v,ao,e,hZ,Option.map_some]
theorem Kd {f:DS->ag->SM Bool} {δ:DS} {S:ag} {b:Bool} (h:f δ S=some (.ok b,S)):sB f δ S=some (.ok (.bool b),S):=by simp only [sB,h,ao]
theorem Jq {fa fb:DS->ag->SM W} {δ:DS} {S:ag} {l:Nat} {es:List W} (h1:fa δ S=some (.ok (.ref l),S)) (h2:S[l]?=some (.lst es)) (h3:fb δ S=some (.ok (.list []),S)):rP true fa fb δ S=some (.ok (.bool (!es.isEmpty)),S):=by
 simp only [rP,h1,h3,ao,Je,eS h2,iQ,Option.bind_some,if_true,hZ,Option.map_some]
 cases es <;> rfl
section
variable {S:ag} {p:Nat} {fs:List Fr}
noncomputable def sO (main:Bool) (fs:List Fr):Op->Bool
 | .st h=>if aE h=4∨aE h=5 then fs.any (·.wh) else (decide (aE h≠3) || !main)
 | .els=>match fs with | []=>false | f::_=>!f.wh&&f.b.isNone
 | .fin=>!fs.isEmpty
 | .opn _ _=>decide (fs.length<5)
theorem EY (fs:List Fr):Al (λ x y=>∃ f∈fs,x=.ref f.id/\y=.bool f.wh) (c7 fs) ((fs.reverse.map (·.wh)).map .bool):=by
 have:∀ l:List Fr,(∀ f∈l,f∈fs)->Al (λ x y=>∃ f∈fs,x=W.ref f.id/\y=.bool f.wh) (l.map λ f=>.ref f.id) ((l.map (·.wh)).map .bool):=λ l=>by
  induction l with
  | nil=>intro _;exact .nil
  | cons f l ih=>intro h;exact .cons ⟨f,h f (by simp),rfl,rfl⟩ (ih λ g hg=>h g (by simp [hg]))
 exact this fs.reverse λ f hf=>List.mem_reverse.mp hf
theorem C7 (hp:S[p]?=some (.lst (c7 fs))) (hf:∀ f∈fs,S[f.id]?=some (.lst (mG f))) (hl:fs.length<=10) (main:Bool) (op:Op) (ho:∀ h,op=.st h->aE h≠10/\aE h≠11):bA [dm op,.ref p,.bool main] S=some (.ok (.bool (sO main fs op)),S):=by
 have z0:=sz 0 (by decide)
 let δ:DS:=[.val (dm op),.val (.ref p),.val (.bool main)]
 have v1:ab (ac 1) δ S=some (.ok (.ref p),S):=rfl
 have vn:ab (ba (bm af)) δ S=some (.ok (.list []),S):=ai (by first | rfl | simp! [uD,if_pos z0])
 refine (bi rfl).trans ((congrArg eA (?_:_=some (.rt (.bool (sO main fs op)),S))).trans rfl)
 have run:∀ (w:Str) (c1 c2 c3 c4:Bool),av aP (au 0) (dC (.int (0))) δ=some (.str w)->(decide (w=Str.ofString "break")||decide (w=Str.ofString "again"))=c1->decide (w=Str.ofString "else")=c2->decide (w=Str.ofString "end")=c3->(decide (w=Str.ofString "if")||decide (w=Str.ofString "while"))=c4->
  lS (ay b8 (av aP (au 0) (dC (.int (0)))) (dC (.str "break"))) (ay b8 (av aP (au 0) (dC (.int (0)))) (dC (.str "again"))) δ=some c1/\ay b8 (av aP (au 0) (dC (.int (0)))) (dC (.str "else")) δ=some c2/\ay b8 (av aP (au 0) (dC (.int (0)))) (dC (.str "end")) δ=some c3/\lS (ay b8 (av aP (au 0) (dC (.int (0)))) (dC (.str "if"))) (ay b8 (av aP (au 0) (dC (.int (0)))) (dC (.str "while"))) δ=some c4:=λ w c1 c2 c3 c4 h0 h1 h2 h3 h4=>by
  have orr:∀ {f g:DS->Option Bool} {a b:Bool},f δ=some a->g δ=some b->lS f g δ=some (a||b):=λ {f g a b} h h'=>by
   cases a with
   | true=>exact FO h
   | false=>cases b with
    | true=>exact EQ h h'
    | false=>exact FH h h'
  exact ⟨by rw [orr (tD h0) (tD h0),h1],by rw [tD h0,h2],by rw [tD h0,h3],by rw [orr (tD h0) (tD h0),h4]⟩
 cases op with
 | st h=>
  obtain ⟨n10,n11⟩:=ho h rfl
  have q:=k2 (aE h)
  have q':=kq (aE h)
  have a0:av aP (au 0) (dC (.int (0))) δ=some (.str (dP (aE h))):=x0 rfl
  obtain ⟨t1,t2,t3,t4⟩:=run (dP (aE h)) (decide (aE h=4)||decide (aE h=5)) false false false a0 (by rw [q.1,q.2.1]) q.2.2.1 q.2.2.2 (by rw [q'.1,q'.2.1,decide_eq_false n10,decide_eq_false n11];rfl)
  by_cases hb:aE h=4∨aE h=5
  . have e1:(decide (aE h=4)||decide (aE h=5))=true:=by simpa using hb
    rw [e1] at t1
    refine dq ((cU (ai t1)).trans (cT ?_))
    have lk:=vF hp
    have cl:=yK (h:=ae 0) (fe:=sB (B7 false (sIx (ab (ac 0)) (ab (dC (.int (0))))) (ab (dC (.str "while"))))) (δ:=[.no]) lk (λ x y r=>by
     obtain ⟨f,hm,rfl,rfl⟩:=r
     refine ⟨[.val (.ref f.id)],rfl,?_⟩
     have:=Kd (Ly (b:=Str.ofString "while") (Az (fo:=ab (ac 0)) (δ:=[.val (.ref f.id)]) rfl (hf f hm) (qO _ _)))
     rw [(kO f.wh).1] at this
     exact this) (EY fs) 9000 0 rfl (by simp [c7];omega)
    have c:=wM (S:=S) (ix:=[none]) (fi:=iw (ab (ac 1))) (δ:=δ) (n:=(p,false)) (S0:=S) (m:=9000) (by simp only [iw,v1,ao,eS hp,Option.map_some]) (sz 9000 (by decide)) cl
    have an:(fs.reverse.map (·.wh)).any id=fs.any (·.wh):=by rw [List.any_map,List.any_reverse];rfl
    have ms:sO main (fs) (.st h)=fs.any (·.wh):=by simp only [sO,if_pos hb]
    simp only [D1,c,ao,uA,iQ,Option.bind_some,yO,Option.map_some,hZ,an,ms]
  . have e1:(decide (aE h=4)||decide (aE h=5))=false:=by simpa using hb
    rw [e1] at t1
    refine (ah (δ':=δ) (S':=S) ((bw (ai t1)).trans rfl)).trans ?_
    refine (ah (δ':=δ) (S':=S) ((bw (ai t2)).trans rfl)).trans ?_
    refine (ah (δ':=δ) (S':=S) ((bw (ai t3)).trans rfl)).trans ?_
    refine (ah (δ':=δ) (S':=S) ((bw (ai t4)).trans rfl)).trans ?_
    refine dW (bp ?_)
    have nr:dB (ay qP (av aP (au 0) (dC (.int (0)))) (dC (.str "return"))) δ=some (.bool (!decide (aE h=3))):=by
     have c:qP (.str (dP (aE h))) (.str "return")=some (!decide (dP (aE h)=Str.ofString "return")):=rfl
     rw [q'.2.2.1] at c
     simp only [dB,ay,a0,dC,Option.bind_some,c,Option.map_some]
    have nv:wC (ac 2) δ=some (.bool (!main)):=rfl
    simp only [C3,nr,nv,Option.bind_some,iC,sO,if_neg hb]
    by_cases h3:aE h=3 <;> simp [h3]
 | opn wh t=>
  have a0:av aP (au 0) (dC (.int (0))) δ=some (.str (dP (lT wh))):=x0 rfl
  have q:=k2 (lT wh)
  have w4:decide (lT wh=4)=false/\decide (lT wh=5)=false:=by cases wh <;> decide
  obtain ⟨t1,t2,t3,t4⟩:=run (dP (lT wh)) false false false true a0 (by rw [q.1,q.2.1,w4.1,w4.2];rfl) q.2.2.1 q.2.2.2 (by rw [(kO wh).1,(kO wh).2];cases wh <;> rfl)
  refine (ah (δ':=δ) (S':=S) ((bw (ai t1)).trans rfl)).trans ?_
  refine (ah (δ':=δ) (S':=S) ((bw (ai t2)).trans rfl)).trans ?_
  refine (ah (δ':=δ) (S':=S) ((bw (ai t3)).trans rfl)).trans ?_
  refine dq ((cU (ai t4)).trans (cT (Kd ?_)))
  have v5:ab (dC (.int (5))) δ S=some (.ok (.int 5),S):=rfl
  have ll:qV (.ref p) S=some (.int (fs.length:Nat)):=by simp [qV,eS hp,c7]
  simp only [tm,CI,v1,v5,ao,ll,hZ,Option.map_some]
  show some (Rs.ok (decide ((fs.length:Int)<5)),S)=some (Rs.ok (decide (fs.length<5)),S)
  by_cases h5:fs.length<5
  . rw [decide_eq_true h5,decide_eq_true (by omega)]
  . rw [decide_eq_false h5,decide_eq_false (by omega)]
 | fin=>
  have a0:av aP (au 0) (dC (.int (0))) δ=some (.str "end"):=x0 rfl
  obtain ⟨t1,t2,t3,t4⟩:=run (Str.ofString "end") false false true _ a0 (by rw [kE.2.2.1,kE.2.2.2.1];rfl) kE.2.2.2.2.1 (decide_eq_true rfl) rfl
  refine (ah (δ':=δ) (S':=S) ((bw (ai t1)).trans rfl)).trans ?_
  refine (ah (δ':=δ) (S':=S) ((bw (ai t2)).trans rfl)).trans ?_
  refine dq ((cU (ai t3)).trans (cT ?_))
  rw [Jq v1 hp vn]
  simp [sO,c7]
 | els=>
  have a0:av aP (au 0) (dC (.int (0))) δ=some (.str "else"):=x0 rfl
  obtain ⟨t1,t2,t3,t4⟩:=run (Str.ofString "else") false true _ _ a0 (by rw [kE.1,kE.2.1];rfl) (decide_eq_true rfl) rfl rfl
  refine (ah (δ':=δ) (S':=S) ((bw (ai t1)).trans rfl)).trans ?_
  refine dq ((cU (ai t2)).trans (cT ?_))
  have n1:=Jq v1 hp vn
  cases fs with
  | nil=>
   simp only [i6,n1,ao,iC,Option.bind_some]
   rfl
  | cons f fs=>
   have hp':S[p]?=some (.lst ((fs.reverse.map λ f=>W.ref f.id)++[.ref f.id])):=by rw [hp];simp [c7]
   have hff:=hf f (by simp)
   have i0:=Az (i:=0) (KC v1 hp') hff (qO _ _)
   have i5:=Az (i:=5) (KC v1 hp') hff (LA _ _ _ _ _ _ _)
   have e1:=Kd (Ly (b:=Str.ofString "if") i0)
   rw [(kO f.wh).2] at e1
   have e2:sB (tm ox (sIx (sIx (ab (ac 1)) (ab (AG lU (dC (.int (1)))))) (ab (dC (.int (5))))) (ab (dC .none))) δ S=some (.ok (.bool f.b.isNone),S):=by
    refine Kd ?_
    have vN:ab (dC .none) δ S=some (.ok .none,S):=rfl
    simp only [tm,i5,vN,ao]
    cases f.b <;> rfl
   have n2:(!(c7 (f::fs)).isEmpty)=true:=by simp [c7]
   rw [n2] at n1
   simp only [i6,n1,ao,iC,Option.bind_some,if_true,e1,e2,sO]
   cases f.wh <;> rfl
theorem Bx {f:Fr} (hf:S[f.id]?=some (.lst (mG f))):dU [.ref f.id] S=some (.ok (if f.wh=true then .tuple [.str (dP 11),.int f.ln,tw f.t,.ref f.a] else .tuple [.str (dP 10),.int f.ln,tw f.t,.ref f.a,bW f.b]),S):=by
 have z4:=sz 4 (by decide)
 have z5:=sz 5 (by decide)
 let δ:DS:=[.val (.ref f.id)]
 have v0:ab (ac 0) δ S=some (.ok (.ref f.id),S):=rfl
 have i0:=Az (i:=0) v0 hf (qO _ _)
 have i1:=Az (i:=1) v0 hf (Di _ _ _)
 have i2:=Az (i:=2) v0 hf (Mt _ _ _ _)
 have i4:=Az (i:=4) v0 hf (KA _ _ _ _ _ _)
 have i5:=Az (i:=5) v0 hf (LA _ _ _ _ _ _ _)
 have e1:=Ly (b:=Str.ofString "if") i0
 rw [(kO f.wh).2] at e1
 refine (bi rfl).trans ?_
 cases hw:f.wh with
 | true=>
  rw [hw] at e1
  refine (congrArg eA (?_:_=some (.rt (.tuple [.str (dP 11),.int f.ln,tw f.t,.ref f.a]),S))).trans rfl
  refine (ah (δ':=δ) (S':=S) ((bw e1).trans rfl)).trans (cT ?_)
  have c:=bq (f:=ab (dC (.str "while"))) (δ:=δ) (S:=S) rfl (bq i1 (bq i2 (bq (g:=kU) i4 rfl)))
  simp only [xp,c,ao,List.length_cons,List.length_nil]
  rw [if_pos z4]
  rfl
 | false=>
  rw [hw] at e1
  refine (congrArg eA (?_:_=some (.rt (.tuple [.str (dP 10),.int f.ln,tw f.t,.ref f.a,bW f.b]),S))).trans rfl
  refine dq ((cU e1).trans (cT ?_))
  have c:=bq (f:=ab (dC (.str "if"))) (δ:=δ) (S:=S) rfl (bq i1 (bq i2 (bq i4 (bq (g:=kU) i5 rfl))))
  simp only [xp,c,ao,List.length_cons,List.length_nil]
  rw [if_pos z5]
  rfl
end
theorem Lz:∀ k:Fin 7,PyData.strOk (qZ k)=true:=by decide +kernel
theorem At {k:Fin 7} {a b:Tr} (h:CL (.op k a b)):CL a/\CL b:=⟨λ x hx=>h x (by rw [uM];simp [hx]),λ x hx=>h x (by rw [uM];simp [hx])⟩
theorem rM:∀ (t:Tr),CL t->gv (tw t)=true
 | .num v,_=>by simp only [tw,gv,bZ,Bool.and_true];decide +kernel
 | .sig k,_=>by simp only [tw,gv,bZ,Bool.and_true];exact EX k
 | .nam x,h=>by
  have:=h x (by simp [pZ,xQ,eM])
  simp only [tw,gv,bZ,Bool.and_true,this]
  decide +kernel
 | .box t,h=>by
  have:=rM t (λ x hx=>h x (by simpa [pZ,eM] using hx))
  simp only [tw,gv,bZ,Bool.and_true,this]
  decide +kernel
 | .op k t u,h=>by
  have h1:=rM t (At h).1
  have h2:=rM u (At h).2
  simp only [tw,gv,bZ,Bool.and_true,h1,h2]
  exact Lz k
theorem nP:∀ (t:Tr),cA (tw t)<=om t+1
 | .num v=>by simp [tw,cA,bC,om]
 | .sig k=>by simp [tw,cA,bC,om]
 | .nam x=>by simp [tw,cA,bC,om]
 | .box t=>by have:=nP t;simp [tw,cA,bC,om];omega
 | .op k t u=>by have:=nP t;have:=nP u;simp [tw,cA,bC,om];omega
theorem fh {f g:W->Option W} (h:∀ d e,f d=some e->g d=some e):∀ (ds es:List W),dr f ds=some es->dr g ds=some es
 | [],es,e=>e
 | d::ds,es,e=>by
  obtain ⟨x,e1,e⟩:=oB e
  obtain ⟨xs,e2,rfl⟩:=oM e
  show (g d).bind _=_
  rw [h d x e1]
  show (dr g ds).map _=_
  rw [fh h ds xs e2]
  rfl
theorem gP {F G:Nat->Option (List W)} (h:∀ k ds,F k=some ds->G k=some ds):∀ (n m:Nat) (d e:W),n<=m->rW F n d=some e->rW G m d=some e
 | 0,_,_,_,_,e=>by cases e
 | n+1,0,_,_,hm,_=>by omega
 | n+1,m+1,d,e,hm,q=>by
  have ih:=fh λ d e=>gP h n m d e (by omega)
  cases d with
  | ref k=>
   obtain ⟨ds,hF,q⟩:=oB q
   obtain ⟨es,q1,rfl⟩:=oM q
   show (G k).bind _=_
   rw [h k ds hF]
   show (dr (rW G m) ds).map _=_
   rw [ih ds es q1]
   rfl
  | list ds=>
   obtain ⟨es,q1,rfl⟩:=oM q
   show (dr (rW G m) ds).map _=_
   rw [ih ds es q1]
   rfl
  | tuple ds=>
   obtain ⟨es,q1,rfl⟩:=oM q
   show (dr (rW G m) ds).map _=_
   rw [ih ds es q1]
   rfl
  | _=>exact q
mutual
theorem sy (F:Nat->Option (List W)):∀ (n:Nat) (d:W),gv d=true->cA d<n->rW F n d=some d
 | 0,_,_,h=>absurd h (Nat.not_lt_zero _)
 | n+1,.none,_,_=>rfl
 | n+1,.bool _,_,_=>rfl
 | n+1,.int _,_,_=>rfl
 | n+1,.str _,_,_=>rfl
 | n+1,.list ds,h,hd=>by
  show (dr (rW F n) ds).map _=_
  rw [yJ F n ds (by simpa [gv] using h) (by simp only [cA] at hd;omega)]
  rfl
 | n+1,.tuple ds,h,hd=>by
  show (dr (rW F n) ds).map _=_
  rw [yJ F n ds (by simpa [gv] using h) (by simp only [cA] at hd;omega)]
  rfl
 | n+1,.ref _,h,_=>by simp [gv] at h
theorem yJ (F:Nat->Option (List W)):∀ (n:Nat) (ds:List W),bZ ds=true->bC ds<n->dr (rW F n) ds=some ds
 | n,[],_,_=>rfl
 | n,d::ds,h,hd=>by
  simp only [bZ,Bool.and_eq_true] at h
  simp only [bC] at hd
  show (rW F n d).bind _=_
  rw [sy F n d h.1 (by omega)]
  show (dr (rW F n) ds).map _=_
  rw [yJ F n ds h.2 (by omega)]
  rfl
end
theorem mB {f:W->Option W}:∀ {a b x y:List W},dr f a=some x->dr f b=some y->dr f (a++b)=some (x++y)
 | [],b,x,y,ha,hb=>by cases ha;exact hb
 | d::a,b,x,y,ha,hb=>by
  obtain ⟨u,e1,e⟩:=oB ha
  obtain ⟨us,e2,rfl⟩:=oM e
  show (f d).bind _=_
  rw [e1]
  show (dr f (a++b)).map _=_
  rw [mB e2 hb]
  rfl
theorem aZ {f:W->Option W} {d x:W} {ds xs:List W} (h1:f d=some x) (h2:dr f ds=some xs):dr f (d::ds)=some (x::xs):=by
 show (f d).bind _=_
 rw [h1]
 show (dr f ds).map _=_
 rw [h2]
 rfl
theorem jF.snoc {P:Bool->Hd->Prop} {n:Nat} {wh:Bool} {k:Int} {h:Hd} {c':Nat} (g:xP P n wh h c'):∀ (cs:List Bk) (c:Nat),jF P n wh cs c->jF P n wh (cs++[(k,h)]) (c+c')
 | [],c,q=>by
  cases q
  have:=jF.cons (k:=k) g .nil
  simpa using this
 | b::cs,c,q=>by
  cases q with
  | cons g1 g2=>
   rw [Nat.add_assoc]
   exact jF.cons g1 (jF.snoc g cs _ g2)
section
variable {P:Bool->Hd->Prop} {o:Int} {body p K0:Nat}
noncomputable def vc (fs:List Fr):Bool:=fs.any (·.wh)
noncomputable def Eu (P:Bool->Hd->Prop) (F:Nat->Option (List W)) (i:Nat) (wh:Bool) (ws:List W) (c:Nat):Prop:=∃ cs,dr (rW F (27-3*i)) ws=some (cS cs)/\jF P (5-i) wh cs c
theorem Eu.mono {F G:Nat->Option (List W)} (h:∀ k ds,F k=some ds->G k=some ds) {i:Nat} {wh:Bool} {ws:List W} {c:Nat} (l:Eu P F i wh ws c):Eu P G i wh ws c:=by
 obtain ⟨cs,e,g⟩:=l
 exact ⟨cs,fh (λ d e=>gP h _ _ d e (Nat.le_refl _)) _ _ e,g⟩
noncomputable def DD (P:Bool->Hd->Prop) (F:Nat->Option (List W)) (i:Nat) (wh:Bool) (f:Fr) (n:Nat):Prop:=match f.b with
 | none=>n=0
 | some _=>f.wh=false/\∃ wa,F f.a=some wa/\Eu P F i wh wa n
theorem DD.mono {F G:Nat->Option (List W)} (h:∀ k ds,F k=some ds->G k=some ds) {i:Nat} {wh:Bool} {f:Fr} {n:Nat} (l:DD P F i wh f n):DD P G i wh f n:=by
 unfold DD at l ⊢
 cases hb:f.b with
 | none=>rw [hb] at l;exact l
 | some b=>rw [hb] at l;obtain ⟨a,wa,e,q⟩:=l;exact ⟨a,wa,h _ _ e,q.mono h⟩
noncomputable def LI (P:Bool->Hd->Prop) (o:Int) (S:ag) (F:Nat->Option (List W)) (body:Nat):List Fr->Nat->Nat->Prop
 | [],h,n=>h=body/\∃ ws,S[body]?=some (.lst ws)/\Eu P F 0 false ws n
 | f::fs,h,n=>∃ n1 n2 n3 ws,h=kh f/\S[f.id]?=some (.lst (mG f))/\ik o f.t 7 30/\S[h]?=some (.lst ws)/\Eu P F (fs.length+1) (vc (f::fs)) ws n1/\DD P F (fs.length+1) (vc (f::fs)) f n2/\LI P o S F body fs f.up n3/\n=n1+n2+n3+1
noncomputable def kJ:List Fr->List Nat
 | []=>[]
 | f::fs=>f.id::kh f::kJ fs
theorem LI.move {S S':ag} {F G:Nat->Option (List W)} (hF:∀ k ds,F k=some ds->G k=some ds):∀ (fs:List Fr) (h n:Nat),(∀ k∈body::kJ fs,S'[k]?=S[k]?)->LI P o S F body fs h n->LI P o S' G body fs h n
 | [],h,n,hs,q=>by
  obtain ⟨e,ws,h1,h2⟩:=q
  exact ⟨e,ws,by rw [hs body (by simp)];exact h1,h2.mono hF⟩
 | f::fs,h,n,hs,q=>by
  obtain ⟨n1,n2,n3,ws,e,h1,h2,h3,h4,h5,h6,h7⟩:=q
  exact ⟨n1,n2,n3,ws,e,by rw [hs f.id (by simp [kJ])];exact h1,h2,by rw [e,hs (kh f) (by simp [kJ]),<-e];exact h3,h4.mono hF,h5.mono hF,LI.move hF fs f.up n3 (λ k hk=>hs k (by simp only [kJ,List.mem_cons] at hk ⊢;rcases hk with hk | hk <;> simp [hk])) h6,h7⟩
theorem LI.here {S:ag} {F:Nat->Option (List W)}:∀ (fs:List Fr) (h n:Nat),LI P o S F body fs h n->h∈body::kJ fs
 | [],h,n,q=>by simp [q.1]
 | f::fs,h,n,q=>by
  obtain ⟨_,_,_,_,e,_⟩:=q
  simp [kJ,e]
theorem LI.app {S:ag} {F:Nat->Option (List W)}:∀ (fs:List Fr) (h n:Nat),(body::kJ fs).Nodup->LI P o S F body fs h n->∃ ws,S[h]?=some (.lst ws)/\∀ (w:W) (k:Int) (hd:Hd) (c:Nat),rW F (27-3*fs.length) w=some (ci k hd)->xP P (5-fs.length) (vc fs) hd c->LI P o (S.set h (.lst (ws++[w]))) F body fs h (n+c)
 | [],h,n,_,q=>by
  obtain ⟨e,ws,h1,cs,h2,h3⟩:=q
  subst e
  exact ⟨ws,h1,λ w k hd c hw hg=>⟨rfl,ws++[w],set_eq' h1,cs++[(k,hd)],by
   have:=mB h2 (aZ (ds:=[]) hw rfl)
   simpa [cS,eL] using this,jF.snoc hg _ _ h3⟩⟩
 | f::fs,h,n,hn,q=>by
  obtain ⟨n1,n2,n3,ws,e,h1,h2,h3,⟨cs,h4,h4'⟩,h5,h6,h7⟩:=q
  subst e
  simp only [kJ] at hn
  have d1:kh f≠f.id:=λ z=>by rw [List.nodup_cons,List.nodup_cons] at hn;exact hn.2.1 (by simp [z])
  have d2:∀ k∈body::kJ fs,kh f≠k:=λ k hk z=>by
   rw [List.nodup_cons,List.nodup_cons,List.nodup_cons] at hn
   rcases List.mem_cons.mp hk with rfl | hk
   . exact hn.1 (by simp [z])
   . exact hn.2.2.1 (z▸hk)
  refine ⟨ws,h3,λ w k hd c hw hg=>⟨n1+c,n2,n3,ws++[w],rfl,set_ne' h1 d1,h2,set_eq' h3,⟨cs++[(k,hd)],?_,jF.snoc hg _ _ h4'⟩,h5,LI.move (λ _ _ z=>z) fs f.up n3 (λ k hk=>List.getElem?_set_ne (d2 k hk)) h6,by omega⟩⟩
  have:=mB h4 (aZ (ds:=[]) hw rfl)
  simpa [cS,eL] using this
end
theorem n8 {f:W->Option W}:∀ {ds es:List W},dr f ds=some es->ds.length=es.length
 | [],es,e=>by cases e;rfl
 | d::ds,es,e=>by
  obtain ⟨x,_,e⟩:=oB e
  obtain ⟨xs,e2,rfl⟩:=oM e
  simp [n8 e2]
theorem xP.pos {P:Bool->Hd->Prop} {n:Nat} {wh:Bool} {h:Hd} {c:Nat} (g:xP P n wh h c):1<=c:=by cases g <;> omega
theorem jF.len {P:Bool->Hd->Prop} {n:Nat} {wh:Bool}:∀ (cs:List Bk) (c:Nat),jF P n wh cs c->cs.length<=c
 | [],c,_=>Nat.zero_le _
 | b::cs,c,q=>by
  cases q with
  | cons g1 g2=>
   have:=g1.pos
   have:=jF.len cs _ g2
   simp only [List.length_cons]
   omega
section
variable {P:Bool->Hd->Prop} {o:Int} {body p K0:Nat} {S:ag} {F:Nat->Option (List W)} {fs:List Fr} {h n:Nat}
theorem LI.len:∀ (fs:List Fr) (h n:Nat) {ws:List W},LI P o S F body fs h n->S[h]?=some (.lst ws)->ws.length<=n
 | [],h,n,ws,q,hw=>by
  obtain ⟨e,ws',h1,cs,h2,h3⟩:=q
  subst e
  rw [h1] at hw
  cases hw
  have:=n8 h2
  have:=jF.len _ _ h3
  simp [cS] at *
  omega
 | f::fs,h,n,ws,q,hw=>by
  obtain ⟨n1,n2,n3,ws',e,h1,h2,h3,⟨cs,h4,h4'⟩,h5,h6,h7⟩:=q
  rw [h3] at hw
  cases hw
  have:=n8 h4
  have:=jF.len _ _ h4'
  simp [cS] at *
  omega
theorem LI.frames:∀ (fs:List Fr) (h n:Nat),LI P o S F body fs h n->∀ f∈fs,S[f.id]?=some (.lst (mG f))
 | [],_,_,_,f,hf=>absurd hf List.not_mem_nil
 | f::fs,h,n,q,g,hg=>by
  obtain ⟨_,_,n3,_,_,h1,_,_,_,_,h6,_⟩:=q
  rcases List.mem_cons.mp hg with rfl | hg
  . exact h1
  . exact LI.frames fs f.up n3 h6 g hg
theorem LI.inS:∀ (fs:List Fr) (h n:Nat),LI P o S F body fs h n->∀ k∈body::kJ fs,∃ ws,S[k]?=some (.lst ws)
 | [],_,_,q,k,hk=>by
  obtain ⟨_,ws,h1,_⟩:=q
  simp [kJ] at hk
  subst hk
  exact ⟨ws,h1⟩
 | f::fs,h,n,q,k,hk=>by
  obtain ⟨_,_,n3,ws,e,h1,_,h3,_,_,h6,_⟩:=q
  simp only [kJ,List.mem_cons] at hk
  rcases hk with hk | hk | hk | hk
  . exact LI.inS fs f.up n3 h6 k (by simp [hk])
  . exact ⟨_,hk▸h1⟩
  . exact ⟨ws,by rw [hk,<-e];exact h3⟩
  . exact LI.inS fs f.up n3 h6 k (by simp [hk])
theorem Kh {p b x y:Nat} {r:List Nat}:(p::b::x::y::r).Nodup↔(¬p=b/\¬p=x/\¬p=y/\p∉r)/\(¬b=x/\¬b=y/\b∉r)/\(¬x=y/\x∉r)/\y∉r/\r.Nodup:=by simp only [List.nodup_cons,List.mem_cons,not_or]
theorem Me {p b:Nat} {r:List Nat}:(p::b::r).Nodup↔(¬p=b/\p∉r)/\b∉r/\r.Nodup:=by simp only [List.nodup_cons,List.mem_cons,not_or]
theorem kP {k p b x y:Nat} {r:List Nat}:k∈p::b::x::y::r↔k=p∨k=b∨k=x∨k=y∨k∈r:=by simp only [List.mem_cons]
theorem A7 {k p b:Nat} {r:List Nat}:k∈p::b::r↔k=p∨k=b∨k∈r:=by simp only [List.mem_cons]
theorem MD {k p b x y:Nat} {r:List Nat} (h:k∉p::b::x::y::r):¬k=p/\¬k=b/\¬k=x/\¬k=y/\k∉r:=by simpa only [List.mem_cons,not_or] using h
theorem LJ {k p b:Nat} {r:List Nat} (h:k∉p::b::r):¬k=p/\¬k=b/\k∉r:=by simpa only [List.mem_cons,not_or] using h
structure LV (P:Bool->Hd->Prop) (o:Int) (S:ag) (F:Nat->Option (List W)) (body p K0:Nat) (fs:List Fr) (h n:Nat):Prop where
 li:LI P o S F body fs h n
 hp:S[p]?=some (.lst (c7 fs))
 nd:(p::body::kJ fs).Nodup
 nf:∀ k∈p::body::kJ fs,F k=none
 hF:∀ k ds,F k=some ds->S[k]?=some (.lst ds)
 lo:∀ k∈p::body::kJ fs,K0<=k
 fl:fs.length<=5
 lf:∀ k ds,F k=some ds->K0<=k
theorem LV.bnd (v:LV P o S F body p K0 fs h n):∀ k∈p::body::kJ fs,k<S.length:=λ k hk=>by
 rcases List.mem_cons.mp hk with rfl | hk
 . exact (oG v.hp).1
 . obtain ⟨ws,e⟩:=LI.inS fs h n v.li k hk
   exact (oG e).1
theorem LV.hm (v:LV P o S F body p K0 fs h n):h∈p::body::kJ fs:=List.mem_cons.mpr (.inr (LI.here fs h n v.li))
theorem LV.ph (v:LV P o S F body p K0 fs h n):p≠h:=λ z=>by
 have:=v.nd
 rw [List.nodup_cons] at this
 exact this.1 (z▸LI.here fs h n v.li)
theorem LV.add (v:LV P o S F body p K0 fs h n):∃ ws,S[h]?=some (.lst ws)/\ws.length<=n/\∀ (w:W) (k:Int) (hd:Hd) (c:Nat),rW F (27-3*fs.length) w=some (ci k hd)->xP P (5-fs.length) (vc fs) hd c->LV P o (S.set h (.lst (ws++[w]))) F body p K0 fs h (n+c)/\∀ k,k<K0->(S.set h (.lst (ws++[w])))[k]?=S[k]?:=by
 have nd':=v.nd
 rw [List.nodup_cons] at nd'
 obtain ⟨ws,h1,h2⟩:=LI.app fs h n nd'.2 v.li
 refine ⟨ws,h1,LI.len fs h n v.li h1,λ w k hd c hw hg=>⟨⟨h2 w k hd c hw hg,set_ne' v.hp (Ne.symm v.ph),v.nd,v.nf,λ k ds hk=>set_ne' (v.hF k ds hk) (λ z=>?_),v.lo,v.fl,v.lf⟩,λ k hk=>List.getElem?_set_ne (λ z=>?_)⟩⟩
 . have:=v.nf h v.hm
   rw [z,hk] at this
   cases this
 . have:=v.lo h v.hm
   omega
theorem LV.opn (v:LV P o S F body p K0 fs h n) (hK:K0<=S.length) (h5:fs.length<5) (wh:Bool) (ln:Int) (t:Tr) (ht:ik o t 7 30):LV P o ((S++[Ob.lst []]++[Ob.lst (mG ⟨S.length+1,wh,ln,t,h,S.length,none⟩)]:ag).set p (.lst (c7 (⟨S.length+1,wh,ln,t,h,S.length,none⟩::fs)))) F body p K0 (⟨S.length+1,wh,ln,t,h,S.length,none⟩::fs) S.length (n+1):=by
 let f:Fr:=⟨S.length+1,wh,ln,t,h,S.length,none⟩
 have bd:=v.bnd
 have pb:=bd p (A7.mpr (.inl rfl))
 have old:∀ k,k<S.length->k≠p->((S++[Ob.lst []]++[Ob.lst (mG f)]:ag).set p (.lst (c7 (f::fs))))[k]?=S[k]?:=λ k hk hp=>by
  rw [List.getElem?_set_ne (Ne.symm hp),List.getElem?_append_left (by simp;omega),List.getElem?_append_left hk]
 have g1:((S++[Ob.lst []]++[Ob.lst (mG f)]:ag).set p (.lst (c7 (f::fs))))[S.length+1]?=some (.lst (mG f)):=set_ne' (by have:=bO (S++[Ob.lst []]) (Ob.lst (mG f));simpa using this) (by omega)
 have g0:((S++[Ob.lst []]++[Ob.lst (mG f)]:ag).set p (.lst (c7 (f::fs))))[S.length]?=some (.lst []):=set_ne' (aW (bO _ _)) (by omega)
 have pne:∀ k∈body::kJ fs,k≠p:=λ k hk z=>by
  have:=v.nd
  rw [List.nodup_cons] at this
  exact this.1 (z▸hk)
 refine ⟨⟨0,0,n,[],rfl,g1,ht,g0,⟨[],rfl,.nil⟩,rfl,LI.move (λ _ _ z=>z) fs h n (λ k hk=>old k (bd k (List.mem_cons_of_mem _ hk)) (pne k hk)) v.li,by omega⟩,set_eq' (aW (aW v.hp)),?_,λ k hk=>?_,λ k ds hk=>?_,λ k hk=>?_,by simp;omega,v.lf⟩
 . have nd:=v.nd
   have q1:S.length+1∉p::body::kJ fs:=λ z=>absurd (bd _ z) (by omega)
   have q0:S.length∉p::body::kJ fs:=λ z=>absurd (bd _ z) (by omega)
   have nd:=Me.mp nd
   have q1:=LJ q1
   have q0:=LJ q0
   exact Kh.mpr ⟨⟨nd.1.1,Ne.symm q1.1,Ne.symm q0.1,nd.1.2⟩,⟨Ne.symm q1.2.1,Ne.symm q0.2.1,nd.2.1⟩,⟨Nat.succ_ne_self _,q1.2.2⟩,q0.2.2,nd.2.2⟩
 . have ff:∀ m,S.length<=m->F m=none:=λ m hm=>by
    cases hq:F m with
    | none=>rfl
    | some ds=>
     have:=(oG (v.hF m ds hq)).1
     omega
   rcases kP.mp hk with hk | hk | hk | hk | hk
   . exact v.nf k (A7.mpr (.inl hk))
   . exact v.nf k (A7.mpr (.inr (.inl hk)))
   . exact ff k (hk▸Nat.le_succ _)
   . exact ff k (Nat.le_of_eq hk.symm)
   . exact v.nf k (A7.mpr (.inr (.inr hk)))
 . have hs:=v.hF k ds hk
   have kl:=(oG hs).1
   rw [old k kl (λ z=>by have:=v.nf p (A7.mpr (.inl rfl));rw [z,this] at hk;cases hk)]
   exact hs
 . rcases kP.mp hk with hk | hk | hk | hk | hk
   . exact v.lo k (A7.mpr (.inl hk))
   . exact v.lo k (A7.mpr (.inr (.inl hk)))
   . exact hk▸Nat.le_succ_of_le hK
   . exact hk▸hK
   . exact v.lo k (A7.mpr (.inr (.inr hk)))
noncomputable def lq (F:Nat->Option (List W)) (a:Nat) (ws:List W):Nat->Option (List W):=λ k=>if k=a then some ws else F k
theorem ut {a:Nat} {ws:List W} (h:F a=none):∀ k ds,F k=some ds->lq F a ws k=some ds:=λ k ds hk=>by
 unfold lq
 rw [if_neg (λ z=>by rw [z,h] at hk;cases hk)]
 exact hk
theorem LV.els {f:Fr} (v:LV P o S F body p K0 (f::fs) h n) (hK:K0<=S.length) (hb:f.b=none) (hw:f.wh=false):∃ F',LV P o ((S++[Ob.lst []]:ag).set f.id (.lst (mG { f with b:=some S.length }))) F' body p K0 ({ f with b:=some S.length }::fs) S.length n:=by
 obtain ⟨n1,n2,n3,ws,e,h1,h2,h3,h4,h5,h6,h7⟩:=v.li
 have bd:=v.bnd
 have ca:kh f=f.a:=by simp [kh,hb]
 have hF0:F f.a=none:=v.nf f.a (kP.mpr (.inr (.inr (.inr (.inl ca.symm)))))
 have le:=ut (ws:=ws) hF0
 have fb:=bd f.id (kP.mpr (.inr (.inr (.inl rfl))))
 have old:∀ k,k<S.length->k≠f.id->((S++[Ob.lst []]:ag).set f.id (.lst (mG { f with b:=some S.length })))[k]?=S[k]?:=λ k hk hp=>by
  rw [List.getElem?_set_ne (Ne.symm hp),List.getElem?_append_left hk]
 have nd:=v.nd
 have q0:S.length∉p::body::kJ (f::fs):=λ z=>absurd (bd _ z) (by omega)
 have nd:=Kh.mp nd
 have q0:=MD q0
 have n2':n2=0:=by unfold DD at h5;rw [hb] at h5;exact h5
 have g0:((S++[Ob.lst []]:ag).set f.id (.lst (mG { f with b:=some S.length })))[S.length]?=some (.lst []):=set_ne' (bO _ _) (by omega)
 refine ⟨lq F f.a ws,⟨0,n1,n3,[],rfl,set_eq' (aW h1),h2,g0,⟨[],rfl,.nil⟩,⟨hw,ws,by simp [lq],h4.mono le⟩,LI.move le fs f.up n3 (λ k hk=>old k (bd k (by rcases List.mem_cons.mp hk with hk | hk;exact kP.mpr (.inr (.inl hk));exact kP.mpr (.inr (.inr (.inr (.inr hk)))))) (λ z=>by
  rcases List.mem_cons.mp hk with hk | hk
  . exact nd.2.1.1 (hk▸z)
  . exact nd.2.2.1.2 (z▸hk))) h6,by omega⟩,?_,?_,λ k hk=>?_,λ k ds hk=>?_,λ k hk=>?_,v.fl,λ k ds hk=>?_⟩
 . rw [old p (bd p (kP.mpr (.inl rfl))) (λ z=>nd.1.2.1 z),v.hp]
   simp [c7]
 . exact Kh.mpr ⟨⟨nd.1.1,nd.1.2.1,Ne.symm q0.1,nd.1.2.2.2⟩,⟨nd.2.1.1,Ne.symm q0.2.1,nd.2.1.2.2⟩,⟨Ne.symm q0.2.2.1,nd.2.2.1.2⟩,q0.2.2.2.2,nd.2.2.2.2⟩
 . have ne:k≠f.a:=λ z=>by
    rw [<-ca] at z
    have cu:kh f<S.length:=bd (kh f) (kP.mpr (.inr (.inr (.inr (.inl rfl)))))
    rcases kP.mp hk with hk | hk | hk | hk | hk
    . exact nd.1.2.2.1 (by rw [<-hk,z])
    . exact nd.2.1.2.1 (by rw [<-hk,z])
    . exact nd.2.2.1.1 (by rw [<-hk,z])
    . have hk:k=S.length:=hk
      omega
    . exact nd.2.2.2.1 (z▸hk)
   unfold lq
   rw [if_neg ne]
   rcases kP.mp hk with hk | hk | hk | hk | hk
   . exact v.nf k (kP.mpr (.inl hk))
   . exact v.nf k (kP.mpr (.inr (.inl hk)))
   . exact v.nf k (kP.mpr (.inr (.inr (.inl hk))))
   . have hk:k=S.length:=hk
     cases hq:F k with
     | none=>rfl
     | some ds=>
      have:=(oG (v.hF k ds hq)).1
      omega
   . exact v.nf k (kP.mpr (.inr (.inr (.inr (.inr hk)))))
 . unfold lq at hk
   split at hk
   . rename_i z
     cases hk
     rw [z,old f.a (by rw [<-ca];exact bd _ (kP.mpr (.inr (.inr (.inr (.inl rfl)))))) (λ z=>nd.2.2.1.1 (by rw [ca,z])),<-ca,<-e]
     exact h3
   . have hs:=v.hF k ds hk
     rw [old k (oG hs).1 (λ z=>by have:=v.nf f.id (kP.mpr (.inr (.inr (.inl rfl))));rw [z,this] at hk;cases hk)]
     exact hs
 . rcases kP.mp hk with hk | hk | hk | hk | hk
   . exact v.lo k (kP.mpr (.inl hk))
   . exact v.lo k (kP.mpr (.inr (.inl hk)))
   . exact v.lo k (kP.mpr (.inr (.inr (.inl hk))))
   . exact hk▸hK
   . exact v.lo k (kP.mpr (.inr (.inr (.inr (.inr hk)))))
 . unfold lq at hk
   split at hk
   . rename_i z
     rw [z,<-ca]
     exact v.lo _ (kP.mpr (.inr (.inr (.inr (.inl rfl)))))
   . exact v.lf k ds hk
end
noncomputable def IP (f:Fr):W:=if f.wh=true then .tuple [.str (dP 11),.int f.ln,tw f.t,.ref f.a] else .tuple [.str (dP 10),.int f.ln,tw f.t,.ref f.a,bW f.b]
section
variable {P:Bool->Hd->Prop} {o:Int} {body p K0:Nat} {S:ag} {F:Nat->Option (List W)} {fs:List Fr} {h n:Nat}
theorem nN {G:Nat->Option (List W)} {a m:Nat} {ws es:List W} (h1:G a=some ws) (h2:dr (rW G m) ws=some es):rW G (m+1) (.ref a)=some (.list es):=by
 show (G a).bind _=_
 rw [h1]
 show (dr (rW G m) ws).map _=_
 rw [h2]
 rfl
theorem qq {G:Nat->Option (List W)} {m:Nat} {ws es:List W} (h2:dr (rW G m) ws=some es):rW G (m+1) (.tuple ws)=some (.tuple es):=by
 show (dr (rW G m) ws).map _=_
 rw [h2]
 rfl
theorem LV.fin (hP:∀ wh t bs,ik o t 7 30->P wh (.whl t bs)/\P wh (.ifs t bs)) {f:Fr} (v:LV P o S F body p K0 (f::fs) h n):∃ F' n3 c k hd,LV P o (S.set p (.lst (c7 fs))) F' body p K0 fs f.up n3/\rW F' (27-3*fs.length) (IP f)=some (ci k hd)/\xP P (5-fs.length) (vc fs) hd c/\n=n3+c/\S[f.id]?=some (.lst (mG f)):=by
 obtain ⟨n1,n2,n3,ws,e,h1,h2,h3,h4,h5,h6,h7⟩:=v.li
 have bd:=v.bnd
 have fl:=v.fl
 simp only [List.length_cons] at fl
 have hF0:F (kh f)=none:=v.nf (kh f) (kP.mpr (.inr (.inr (.inr (.inl rfl)))))
 have le:=ut (ws:=ws) hF0
 have nd:=Kh.mp v.nd
 have nv:LV P o (S.set p (.lst (c7 fs))) (lq F (kh f) ws) body p K0 fs f.up n3:=by
  refine ⟨LI.move le fs f.up n3 (λ k hk=>List.getElem?_set_ne (λ z=>?_)) h6,set_eq' v.hp,?_,λ k hk=>?_,λ k ds hk=>?_,λ k hk=>v.lo k ?_,by omega,λ k ds hk=>?_⟩
  . rcases List.mem_cons.mp hk with hk | hk
    . exact nd.1.1 (z.trans hk)
    . exact nd.1.2.2.2 (z▸hk)
  . exact Me.mpr ⟨⟨nd.1.1,nd.1.2.2.2⟩,nd.2.1.2.2,nd.2.2.2.2⟩
  . have hk:=A7.mp hk
    have ne:k≠kh f:=λ z=>by
     rcases hk with hk | hk | hk
     . exact nd.1.2.2.1 (by rw [<-hk,z])
     . exact nd.2.1.2.1 (by rw [<-hk,z])
     . exact nd.2.2.2.1 (z▸hk)
    unfold lq
    rw [if_neg ne]
    exact v.nf k (kP.mpr (hk.imp id (.imp id λ z=>.inr (.inr z))))
  . unfold lq at hk
    split at hk
    . rename_i z
      cases hk
      rw [z]
      exact set_ne' (by rw [<-e];exact h3) (λ q=>nd.1.2.2.1 q)
    . exact set_ne' (v.hF k ds hk) (λ q=>by have:=v.nf p (kP.mpr (.inl rfl));rw [q,hk] at this;cases this)
  . exact kP.mpr ((A7.mp hk).imp id (.imp id λ z=>.inr (.inr z)))
  . unfold lq at hk
    split at hk
    . rename_i z
      rw [z]
      exact v.lo _ (kP.mpr (.inr (.inr (.inr (.inl rfl)))))
    . exact v.lf k ds hk
 have g:=h2.1
 have tok:=rM f.t g.2.2
 have tdp:=nP f.t
 have tdd:cA (tw f.t)<=8:=by have:=g.1;omega
 have e1:27-3*fs.length=24-3*fs.length+1+1+1:=by omega
 have e2:27-3*(fs.length+1)=24-3*fs.length:=by omega
 have e3:5-fs.length=5-(fs.length+1)+1:=by omega
 have tr:rW (lq F (kh f) ws) (24-3*fs.length+1+1) (tw f.t)=some (tw f.t):=sy _ _ _ tok (by omega)
 have cw:lq F (kh f) ws (kh f)=some ws:=by simp [lq]
 obtain ⟨cs,q1,q2⟩:=h4
 rw [e2] at q1
 have q1':dr (rW (lq F (kh f) ws) (24-3*fs.length+1)) ws=some (cS cs):=fh (λ d e=>gP le _ _ d e (by omega)) _ _ q1
 have lit:∀ d:W,(∀ k,d≠.ref k)->gv d=true->cA d=0->rW (lq F (kh f) ws) (24-3*fs.length+1+1) d=some d:=λ d _ hd hz=>sy _ _ _ hd (by omega)
 rw [e1,e3]
 cases hb:f.b with
 | none=>
  have ca:kh f=f.a:=by simp [kh,hb]
  have n0:n2=0:=by unfold DD at h5;rw [hb] at h5;exact h5
  have ra:=nN (G:=lq F (kh f) ws) (a:=f.a) (by rw [<-ca];exact cw) q1'
  cases hw:f.wh with
  | true=>
   refine ⟨lq F (kh f) ws,n3,n1+1,f.ln,.whl f.t [.list (cS cs)],nv,?_,.whl (hP _ _ _ h2).1 ?_,by omega,h1⟩
   . unfold IP
     rw [if_pos hw]
     exact qq (aZ (d:=.str (dP 11)) rfl (aZ (d:=.int f.ln) rfl (aZ tr (aZ (ds:=[]) ra rfl))))
   . have:vc (f::fs)=true:=by simp [vc,hw]
     rw [this] at q2
     exact q2
  | false=>
   refine ⟨lq F (kh f) ws,n3,n1+1,f.ln,.ifs f.t [.list (cS cs),.none],nv,?_,.if1 (hP _ _ _ h2).2 ?_,by omega,h1⟩
   . unfold IP
     rw [hw,if_neg (by simp),hb]
     exact qq (aZ (d:=.str (dP 10)) rfl (aZ (d:=.int f.ln) rfl (aZ tr (aZ ra (aZ (d:=.none) (ds:=[]) rfl rfl)))))
   . have:vc (f::fs)=vc fs:=by simp [vc,hw]
     rw [this] at q2
     exact q2
 | some b=>
  have cb:kh f=b:=by simp [kh,hb]
  obtain ⟨hw,wa,ha,ca,u1,u2⟩:f.wh=false/\∃ wa,F f.a=some wa/\Eu P F (fs.length+1) (vc (f::fs)) wa n2:=by unfold DD at h5;rw [hb] at h5;exact h5
  rw [e2] at u1
  have u1':dr (rW (lq F (kh f) ws) (24-3*fs.length+1)) wa=some (cS ca):=fh (λ d e=>gP le _ _ d e (by omega)) _ _ u1
  have ra:=nN (G:=lq F (kh f) ws) (a:=f.a) (le _ _ ha) u1'
  have rb:=nN (G:=lq F (kh f) ws) (a:=b) (by rw [<-cb];exact cw) q1'
  have:vc (f::fs)=vc fs:=by simp [vc,hw]
  rw [this] at q2 u2
  refine ⟨lq F (kh f) ws,n3,n2+n1+1,f.ln,.ifs f.t [.list (cS ca),.list (cS cs)],nv,?_,.if2 (hP _ _ _ h2).2 u2 q2,by omega,h1⟩
  unfold IP
  rw [hw,if_neg (by simp),hb]
  exact qq (aZ (d:=.str (dP 10)) rfl (aZ (d:=.int f.ln) rfl (aZ tr (aZ ra (aZ (d:=bW (some b)) (ds:=[]) rb rfl)))))
end
theorem Fu:∀ i:Fin 12,PyData.strOk (dP i)=true:=by decide +kernel
theorem iG {o:Int} {t:Tr} {d c:Nat} (h:ik o t d c):gv (tw t)=true/\cA (tw t)<=d+1:=⟨rM t h.1.2.2,Nat.le_trans (nP t) (by have:=h.1.1;omega)⟩
theorem D7 {o:Int} {FN WD:List Str} (hF:∀ f∈FN,PyData.strOk f=true) (hW:∀ f∈WD,PyData.strOk f=true) (k:Int) {h:Hd} (hb:jt h=some []) (hp:PP o FN WD true h):gv (ci k h)=true/\cA (ci k h)<=10:=by
 have q:=Fu (aE h)
 have r:bZ (rs h)=true/\bC (rs h)<=9:=by
  cases h with
  | set x t=>obtain ⟨a,b⟩:=iG hp.2;have:=hp.1;simp [rs,bZ,gv,bC,cA,a,this];omega
  | put a b=>obtain ⟨a1,b1⟩:=iG hp.1;obtain ⟨a2,b2⟩:=iG hp.2;simp [rs,bZ,bC,a1,a2];omega
  | tell t=>obtain ⟨a,b⟩:=iG hp;simp [rs,bZ,bC,a];omega
  | ret t=>obtain ⟨a,b⟩:=iG hp;simp [rs,bZ,bC,a];omega
  | join x j t=>obtain ⟨a,b⟩:=iG hp.2.2;have:=hp.1;have:=hW j hp.2.1;simp [rs,bZ,gv,bC,cA, *];omega
  | call x f ts=>
   have a:bZ (ts.map tw)=true:=i8 λ d hd=>by obtain ⟨t,h1,rfl⟩:=List.mem_map.mp hd;exact (iG (hp.2.2.2 t h1)).1
   have b:bC (ts.map tw)<=8:=iS λ d hd=>by obtain ⟨t,h1,rfl⟩:=List.mem_map.mp hd;exact (iG (hp.2.2.2 t h1)).2
   have:=hp.1
   have:=hF f hp.2.1
   simp [rs,bZ,gv,bC,cA, *] <;> omega
  | ifs t l=>exact absurd hb (rH t l).1
  | whl t l=>exact absurd hb (rH t l).2
  | _=>exact ⟨rfl,Nat.zero_le _⟩
 refine ⟨by simp [ci,gv,bZ,q,r.1],?_⟩
 have:=r.2
 simp [ci,cA,bC]
 omega
noncomputable def sS (ops:W) (line:Int) (main:Bool) (body h p:Nat) (s6 s7:Sl):DS:=[.val ops,.val (.int line),.val (.bool main),.val (.ref body),.val (.ref h),.val (.ref p),s6,s7]
theorem FZ (a:W) (l:Int) (r:List W) (h:r.length<=100):bQ (.tuple [a,.int l]) (.tuple r)=some (.tuple (a::.int l::r)):=if_pos ⟨by simp,sz _ (by simp;omega)⟩
theorem Bg {fo fi fv:DS->ag->SM W} {δ:DS} {S S1:ag} {l:Nat} {es:List W} {d:W} {k:Nat} (h1:fv δ S=some (.ok d,S1)) (h2:fo δ S1=some (.ok (.ref l),S1)) (h3:fi δ S1=some (.ok (.int (k:Int)),S1)) (h4:S1[l]?=some (.lst es)) (h5:k<es.length):qG fo fi fv δ S=some (.nx δ,S1.set l (.lst (es.set k d))):=by
 have i:sQ es.length (k:Int)=some k:=by
  unfold sQ
  rw [if_pos (by omega),if_pos (by omega)]
  simp
 simp only [qG,h1,jm,h2,h3,eS h4,Option.bind_some,yf,i,Option.map_some]
section
variable {o:Int} {FN WD:List Str} {body p K0:Nat} {S:ag} {F:Nat->Option (List W)} {fs:List Fr} {h n:Nat} {ops:W} {main:Bool}
theorem Fg:∀ (wh:Bool) (t:Tr) (bs:List W),ik o t 7 30->PP o FN WD wh (.whl t bs)/\PP o FN WD wh (.ifs t bs):=λ _ _ _ g=>⟨g,g⟩
theorem J0 {h:Hd} {wh:Bool} (hp:PP o FN WD true h) (hb:aE h=4∨aE h=5->wh=true):PP o FN WD wh h:=by
 cases h with
 | brk=>exact hb (.inl rfl)
 | agn=>exact hb (.inr rfl)
 | _=>exact hp
theorem wt {h:Hd} (hb:jt h=some []):aE h≠10/\aE h≠11:=by
 cases h with
 | ifs t l=>exact absurd hb (rH t l).1
 | whl t l=>exact absurd hb (rH t l).2
 | _=>exact ⟨λ z=>Bool.noConfusion (show false=true from decide_eq_true z),λ z=>Bool.noConfusion (show false=true from decide_eq_true z)⟩
theorem Fy {h:Hd} (hb:jt h=some []):(rs h).length<=100:=by
 cases h with
 | ifs t l=>exact absurd hb (rH t l).1
 | whl t l=>exact absurd hb (rH t l).2
 | _=>exact of_decide_eq_true rfl
theorem A3 (hFN:∀ f∈FN,PyData.strOk f=true) (hWD:∀ f∈WD,PyData.strOk f=true) (v:LV (PP o FN WD) o S F body p K0 fs h n) (hK:K0<=S.length) (hn:n<800) (line:Int) (op:Op) (ho:AD o FN WD op) (s7:Sl):
 ∃ S' F' fs' h' line' s7' n',(cK (sS ops line main body h p (.val (dm op)) s7) S=some (.nx (sS ops line' main body h' p (.val (dm op)) s7'),S')∨cK (sS ops line main body h p (.val (dm op)) s7) S=some (.ct (sS ops line' main body h' p (.val (dm op)) s7'),S'))/\LV (PP o FN WD) o S' F' body p K0 fs' h' n'/\n'<=n+1/\K0<=S'.length/\(∀ k,k<K0->S'[k]?=S[k]?)/\(op=.fin->fs'=fs.tail/\n'=n):=by
 have z6:=sz 6 (by decide)
 have fl:=v.fl
 have ho':∀ h,op=.st h->aE h≠10/\aE h≠11:=λ h e=>by subst e;exact wt ho.1
 have mr:=C7 v.hp (LI.frames fs h n v.li) (by omega) main op ho'
 let δ (ln:Int) (h:Nat) (s7:Sl):DS:=sS ops ln main body h p (.val (dm op)) s7
 have c0:pA (iB (bY bA (ab (aa (ac 6) (aa (ac 5) (aa (ac 2) af)))))) (δ line h s7) S=some (.ok (!sO main fs op),S):=by
  have c:bY bA (ab (aa (ac 6) (aa (ac 5) (aa (ac 2) af)))) (δ line h s7) S=some (.ok (.bool (sO main fs op)),S):=bM (S1:=S) (ds:=[dm op,.ref p,.bool main]) rfl mr
  simp only [pA,iB,c,ao,hZ,iC,Option.map_some]
 by_cases hm:sO main fs op=true
 case neg=>
  have hm:sO main fs op=false:=by simpa using hm
  rw [hm] at c0
  refine ⟨S,F,fs,h,line,s7,n,.inr ?_,v,by omega,hK,λ _ _=>rfl,λ e=>?_⟩
  . have:bX (pA (iB (bY bA (ab (aa (ac 6) (aa (ac 5) (aa (ac 2) af))))))) (aq jr) (aq aw) (δ line h s7) S=some (.ct (δ line h s7),S):=(cU c0).trans rfl
    show aC _ _ _ _=_
    unfold aC
    rw [this]
  . subst e
    cases fs with
    | nil=>exact ⟨rfl,rfl⟩
    | cons f fs=>simp [sO] at hm
 rw [hm] at c0
 have pre:∀ {g:DS->ag->SO} {r:SO},g (δ (line+1) h s7) S=r->aC (bX (pA (iB (bY bA (ab (aa (ac 6) (aa (ac 5) (aa (ac 2) af))))))) (aq jr) (aq aw)) (aC (aq (aD (av bQ (au 1) (dC (.int (1)))) (ae 1))) g) (δ line h s7) S=r:=λ {g r} e=>
  (ah (δ':=δ line h s7) (S':=S) ((bw c0).trans rfl)).trans ((ah (δ':=δ (line+1) h s7) (S':=S) (aM rfl)).trans e)
 cases op with
 | st hd=>
  obtain ⟨hb,hp⟩:=ho
  have a0:av aP (au 6) (dC (.int (0))) (δ (line+1) h s7)=some (.str (dP (aE hd))):=x0 rfl
  have q:=k2 (aE hd)
  have q':=kq (aE hd)
  have cl:=wt hb
  obtain ⟨ok1,ok2⟩:=D7 hFN hWD (line+1) hb hp
  obtain ⟨ws,w1,w2,w3⟩:=v.add
  obtain ⟨v',k'⟩:=w3 (ci (line+1) hd) (line+1) hd 1 (sy _ _ _ ok1 (by omega)) (.lf (J0 hp λ z=>by
   have:=hm
   simp only [sO,if_pos z] at this
   exact this) hb)
  refine ⟨_,F,fs,h,line+1,s7,n+1,.inl (pre ?_),v',Nat.le_refl _,by simpa using hK,k',λ e=>by cases e⟩
  refine (bw (S1:=S) (ai (by rw [tD a0,q.2.2.2]))).trans ?_
  refine (bw (S1:=S) (ai (by rw [tD a0,q.2.2.1]))).trans ?_
  refine (bw (S1:=S) (ai (FH (by rw [tD a0,q'.2.1,decide_eq_false cl.1]) (by rw [tD a0,q'.1,decide_eq_false cl.2])))).trans ?_
  refine dF rfl w1 (ai ?_) (by omega)
  have t1:aG (aa (av aP (au 6) (dC (.int (0)))) (aa (ac 1) af)) (δ (line+1) h s7)=some (.tuple [.str (dP (aE hd)),.int (line+1)]):=ie a0 rfl
  have t2:kH (ac 6) (dD (dC (.int (1)))) cQ (δ (line+1) h s7)=some (.tuple (rs hd)):=by
   first | rfl | simp! [δ,sS,dm,kH,uD,uY]
  exact dO t1 t2 (FZ _ _ _ (Fy hb))
 | opn wh t=>
  have a0:av aP (au 6) (dC (.int (0))) (δ (line+1) h s7)=some (.str (dP (lT wh))):=x0 rfl
  have a1:av aP (au 6) (dC (.int (1))) (δ (line+1) h s7)=some (tw t):=x1 rfl
  have q:=k2 (lT wh)
  have h5:fs.length<5:=of_decide_eq_true hm
  have v':=v.opn hK h5 wh (line+1) t ho
  let f:Fr:=⟨S.length+1,wh,line+1,t,h,S.length,none⟩
  let S1:ag:=S++[Ob.lst []]
  let S2:ag:=S1++[Ob.lst (mG f)]
  refine ⟨S2.set p (.lst (c7 (f::fs))),F,f::fs,S.length,line+1,.val (.ref (S.length+1)),n+1,.inl (pre ?_),v',Nat.le_refl _,by simp [S2,S1];omega,λ k hk=>?_,λ e=>by cases e⟩
  . refine (bw (S1:=S) (ai (by rw [tD a0,q.2.2.2]))).trans ?_
    refine (bw (S1:=S) (ai (by rw [tD a0,q.2.2.1]))).trans ?_
    have tt:lS (ay b8 (av aP (au 6) (dC (.int (0)))) (dC (.str "if"))) (ay b8 (av aP (au 6) (dC (.int (0)))) (dC (.str "while"))) (δ (line+1) h s7)=some true:=by
     have i1:=tD (b:=Str.ofString "if") a0
     have i2:=tD (b:=Str.ofString "while") a0
     rw [(kO wh).2] at i1
     rw [(kO wh).1] at i2
     cases wh with
     | true=>exact EQ i1 i2
     | false=>exact FO i1
    refine (cU (S1:=S) (ai tt)).trans ?_
    have le:dE (ab af) (δ (line+1) h s7) S=some (.ok (.ref S.length),S1):=rfl
    have ar:=bq (S:=S) (ai a0) (bq (f:=ab (ac 1)) (δ:=δ (line+1) h s7) (d:=.int (line+1)) rfl (bq (S:=S) (ai a1) (bq (f:=ab (ac 4)) (d:=.ref h) rfl (bq le (bq (f:=ab (dC .none)) (g:=kU) (d:=.none) rfl rfl)))))
    refine (ah (δ':=δ (line+1) h (.val (.ref (S.length+1)))) (S':=S2) (bt (d:=.ref (S.length+1)) ?_ rfl)).trans ?_
    . simp only [dE] at ar ⊢
      rw [ar]
      simp only [ao,List.length_cons,List.length_nil,if_pos z6]
      simp [S1,S2,mG,f,bW]
    have hp2:S2[p]?=some (.lst (c7 fs)):=aW (aW v.hp)
    have g1:S2[S.length+1]?=some (.lst (mG f)):=by have:=bO S1 (Ob.lst (mG f));simpa [S1,S2] using this
    have pb:=v.bnd p (by simp)
    refine (ah (dF rfl hp2 rfl (by simp [c7];omega))).trans ?_
    have pe:c7 fs++[.ref (S.length+1)]=c7 (f::fs):=by simp [c7,f]
    rw [pe]
    exact bt (Az (i:=4) (fo:=ab (ac 7)) rfl (set_ne' g1 (by omega)) (KA _ _ _ _ _ _)) rfl
  . have pb:=v.lo p (by simp)
    rw [List.getElem?_set_ne (by omega),List.getElem?_append_left (by simp [S1];omega),List.getElem?_append_left (by omega)]
 | fin=>
  have a0:av aP (au 6) (dC (.int (0))) (δ (line+1) h s7)=some (.str "end"):=x0 rfl
  cases fs with
  | nil=>simp [sO] at hm
  | cons f fs=>
   obtain ⟨F',n3,c,k,hd,v1,r1,g1,e1,hf⟩:=v.fin Fg
   let S1:ag:=S.set p (.lst (c7 fs))
   obtain ⟨ws,w1,w2,w3⟩:=v1.add
   obtain ⟨v2,k2'⟩:=w3 (IP f) k hd c r1 g1
   have pf:p≠f.id:=λ z=>by have:=v.nd;simp only [kJ,List.nodup_cons,List.mem_cons,not_or] at this;exact this.1.2.1 z
   have hf1:S1[f.id]?=some (.lst (mG f)):=set_ne' hf pf
   have pl:=v.lo p (by simp)
   refine ⟨_,F',fs,f.up,line+1,.val (.ref f.id),n3+c,.inl (pre ?_),v2,by omega,by simpa using hK,λ k hk=>(k2' k hk).trans (List.getElem?_set_ne (by omega)),λ _=>⟨rfl,e1.symm⟩⟩
   refine (cU (S1:=S) (ai (by rw [tD a0];simp))).trans ?_
   have hp':S[p]?=some (.lst (c7 fs++[.ref f.id])):=by rw [v.hp];simp [c7]
   refine (ah (δ':=δ (line+1) h (.val (.ref f.id))) (S':=S1) (bt (uV rfl hp') rfl)).trans ?_
   refine (ah (δ':=δ (line+1) f.up (.val (.ref f.id))) (S':=S1) (bt (Az (i:=3) (fo:=ab (ac 7)) rfl hf1 (Md _ _ _ _ _)) rfl)).trans ?_
   exact dF rfl w1 (bM (S1:=S1) (ds:=[.ref f.id]) rfl (Bx hf1)) (by omega)
 | els=>
  have a0:av aP (au 6) (dC (.int (0))) (δ (line+1) h s7)=some (.str "else"):=x0 rfl
  cases fs with
  | nil=>simp [sO] at hm
  | cons f fs=>
   have hm':f.wh=false/\f.b=none:=by simpa [sO] using hm
   obtain ⟨F',v'⟩:=v.els hK hm'.2 hm'.1
   have hf:=LI.frames _ h n v.li f (by simp)
   let S1:ag:=S++[Ob.lst []]
   have fb:=v.bnd f.id (by simp [kJ])
   have fo:=v.lo f.id (by simp [kJ])
   refine ⟨_,F',{ f with b:=some S.length }::fs,S.length,line+1,.val (.ref f.id),n,.inl (pre ?_),v',by omega,by simp;omega,λ k hk=>?_,λ e=>by cases e⟩
   . refine (bw (S1:=S) (ai (by rw [tD a0,kE.2.2.2.2.2]))).trans ?_
     refine (cU (S1:=S) (ai (by rw [tD a0];simp))).trans ?_
     have hp':S[p]?=some (.lst (c7 fs++[.ref f.id])):=by rw [v.hp];simp [c7]
     refine (ah (δ':=δ (line+1) h (.val (.ref f.id))) (S':=S) (bt (KC (fo:=ab (ac 5)) rfl hp') rfl)).trans ?_
     have le:dE (ab af) (δ (line+1) h (.val (.ref f.id))) S=some (.ok (.ref S.length),S1):=rfl
     have st:=Bg (fo:=ab (ac 7)) (fi:=ab (dC (.int (5)))) (k:=5) le rfl rfl (aW hf) (by simp [mG])
     have fe:(mG f).set 5 (.ref S.length)=mG { f with b:=some S.length }:=by simp [mG,bW]
     rw [fe] at st
     refine (ah st).trans ?_
     exact bt (Az (i:=5) (fo:=ab (ac 7)) rfl (set_eq' (aW hf)) (LA _ _ _ _ _ _ _)) rfl
   . rw [List.getElem?_set_ne (by omega),List.getElem?_append_left (by omega)]
end
theorem uK {h:W->DS->Option DS} {fb:DS->ag->SO} {d:W} {ds:List W} {δ δ2 δ':DS} {S S':ag} (h1:h d δ=some δ2) (h2:fb δ2 S=some (.ct δ',S')):bv h fb (d::ds) δ S=bv h fb ds δ' S':=by
 show (h d δ).bind _=_
 rw [h1]
 show (match fb δ2 S with | some (.nx δ',S')=>_ | some (.ct δ',S')=>_ | some (.bk δ',S')=>_ | some (.rt d,S')=>_ | some (.xc c,S')=>_ | none=>_)=_
 rw [h2]
section
variable {o:Int} {FN WD:List Str} {body p K0:Nat} {ops:W} {main:Bool}
theorem n5 (hFN:∀ f∈FN,PyData.strOk f=true) (hWD:∀ f∈WD,PyData.strOk f=true):∀ (l:List Op) (S:ag) (F:Nat->Option (List W)) (fs:List Fr) (h n:Nat) (line:Int) (s6 s7:Sl),LV (PP o FN WD) o S F body p K0 fs h n->K0<=S.length->(∀ op∈l,AD o FN WD op)->n+l.length<800->
 ∃ S' F' fs' h' line' s6' s7' n',(∀ aI,bv (ae 6) cK (l.map dm++aI) (sS ops line main body h p s6 s7) S=bv (ae 6) cK aI (sS ops line' main body h' p s6' s7') S')/\LV (PP o FN WD) o S' F' body p K0 fs' h' n'/\n'<=n+l.length/\K0<=S'.length/\(∀ k,k<K0->S'[k]?=S[k]?)/\((∀ op∈l,op=.fin)->fs'.length=fs.length-l.length/\n'=n)
 | [],S,F,fs,h,n,line,s6,s7,v,hK,_,_=>⟨S,F,fs,h,line,s6,s7,n,λ _=>rfl,v,Nat.le_refl _,hK,λ _ _=>rfl,λ _=>⟨rfl,rfl⟩⟩
 | op::l,S,F,fs,h,n,line,s6,s7,v,hK,ho,hl=>by
  simp only [List.length_cons] at hl
  obtain ⟨S1,F1,fs1,h1,line1,t7,n1,e1,v1,b1,k1,f1,q1⟩:=A3 (ops:=ops) (main:=main) hFN hWD v hK (by omega) line op (ho op (by simp)) s7
  obtain ⟨S',F',fs',h',line',u6,u7,n',e2,v2,b2,k2,f2,q2⟩:=n5 hFN hWD l S1 F1 fs1 h1 n1 line1 (.val (dm op)) t7 v1 k1 (λ o ho'=>ho o (by simp [ho'])) (by omega)
  refine ⟨S',F',fs',h',line',u6,u7,n',?_,v2,by simp only [List.length_cons];omega,k2,λ k hk=>(f2 k hk).trans (f1 k hk),λ hf=>?_⟩
  . intro aI
    rw [List.map_cons,List.cons_append]
    rcases e1 with e1 | e1
    . exact (bx (δ2:=sS ops line main body h p (.val (dm op)) s7) rfl e1).trans (e2 aI)
    . exact (uK (δ2:=sS ops line main body h p (.val (dm op)) s7) rfl e1).trans (e2 aI)
  . obtain ⟨a,b⟩:=q2 λ o ho'=>hf o (by simp [ho'])
    obtain ⟨c,d⟩:=q1 (hf op (by simp))
    rw [a,c,List.length_tail,List.length_cons]
    omega
end
theorem Do {S:ag} {k:Nat} {ds:List W} (h:S[k]?=some (.lst ds)):GF S k=some ds:=by unfold GF;rw [h]
theorem Am {o:Int} {FN WD:List Str} (hFN:∀ f∈FN,PyData.strOk f=true) (hWD:∀ f∈WD,PyData.strOk f=true) (S:ag) (lo:Nat) (l:List Op) (hlo:S[lo]?=some (.lst (l.map dm))) (ho:∀ op∈l,AD o FN WD op) (hl:l.length<=70) (line:Int) (main:Bool):∃ S' b cs c la,iL [.ref lo,.int line,.bool main] S=some (.ok (.tuple [.ref b,.int la]),S')/\(∃ G:Nat->Option (List W),(∀ k ds,G k=some ds->S.length<=k/\S'[k]?=some (.lst ds))/\rW G 28 (.ref b)=some (.list (cS cs)))/\jF (PP o FN WD) 5 false cs c/\c<=l.length/\S.length<=S'.length/\∀ k,k<S.length->S'[k]?=S[k]?:=by
 let S0:ag:=S++[Ob.lst []]++[Ob.lst []]
 have g0:S0[S.length]?=some (.lst []):=aW (bO _ _)
 have g1:S0[S.length+1]?=some (.lst []):=by have:=bO (S++[Ob.lst []]) (Ob.lst []);simpa [S0] using this
 have v0:LV (PP o FN WD) o S0 (λ _=>none) S.length (S.length+1) S.length [] S.length 0:=
  ⟨⟨rfl,[],g0,[],rfl,.nil⟩,g1,by simp [kJ],λ _ _=>rfl,(λ k ds hk=>by cases hk),(λ k hk=>by simp [kJ] at hk;omega),by simp,(λ k ds hk=>by cases hk)⟩
 let fin5:List Op:=[.fin,.fin,.fin,.fin,.fin]
 obtain ⟨S1,F1,fs1,h1,line1,t6,t7,n1,e1,v1,b1,k1,f1,_⟩:=n5 (ops:=.ref lo) (main:=main) hFN hWD l S0 _ [] S.length 0 line .no .no v0 (by simp [S0]) ho (by omega)
 obtain ⟨S2,F2,fs2,h2,line2,u6,u7,n2,e2,v2,b2,k2,f2,q2⟩:=n5 (ops:=.ref lo) (main:=main) hFN hWD fin5 S1 F1 fs1 h1 n1 line1 t6 t7 v1 k1 (λ op hop=>by simp [fin5] at hop;subst hop;trivial) (by simp [fin5];omega)
 obtain ⟨q3,q4⟩:=q2 (λ op hop=>by simpa [fin5] using hop)
 have fl:=v1.fl
 have e0:fs2=[]:=List.eq_nil_of_length_eq_zero (by rw [q3];simp [fin5];omega)
 subst e0
 obtain ⟨eb,ws,w1,cs,w2,w3⟩:=v2.li
 subst eb
 refine ⟨S2,S.length,cs,n2,line2+1,?_,?_,w3,by omega,k2,λ k hk=>?_⟩
 . refine (bi rfl).trans ((congrArg eA (?_:_=some (.rt (.tuple [.ref S.length,.int (line2+1)]),S2))).trans rfl)
   refine (ah (δ':=[.val (.ref lo),.val (.int line),.val (.bool main),.val (.ref S.length),.no,.no,.no,.no]) (S':=S++[Ob.lst []]) (bt (d:=.ref S.length) rfl rfl)).trans ?_
   refine (ah (δ':=[.val (.ref lo),.val (.int line),.val (.bool main),.val (.ref S.length),.val (.ref S.length),.no,.no,.no]) (S':=S++[Ob.lst []]) (aM rfl)).trans ?_
   refine (ah (δ':=sS (.ref lo) line main S.length S.length (S.length+1) .no .no) (S':=S0) (bt (d:=.ref (S.length+1)) (by show some (Rs.ok (W.ref (S++[Ob.lst []]).length),_)=_;rw [List.length_append];rfl) rfl)).trans ?_
   have hlo0:S0[lo]?=some (.lst (l.map dm)):=aW (aW hlo)
   have it:oJ (vz (ab (ac 0)) (ab (ba (B1 (bm (aa (aG (aa (dC (.str "end")) af)) af)) (dC (.int (5))))))) (sS (.ref lo) line main S.length S.length (S.length+1) .no .no) S0=some (.ok (l.map dm++fin5.map dm),S0):=by
    have r:ba (B1 (bm (aa (aG (aa (dC (.str "end")) af)) af)) (dC (.int (5)))) (sS (.ref lo) line main S.length S.length (S.length+1) .no .no)=some (.list (fin5.map dm)):=rfl
    have v0:ab (ac 0) (sS (.ref lo) line main S.length S.length (S.length+1) .no .no) S0=some (.ok (.ref lo),S0):=rfl
    have ga:xT (.ref lo) (.list (fin5.map dm)) S0=some (.list (l.map dm++fin5.map dm)):=by
     simp only [xT,eS hlo0,Option.bind_some,iQ]
     exact if_pos (by simp [fin5];omega)
    simp only [oJ,vz,v0,ai r,ao,ga,hZ,Option.map_some]
    rfl
   have both:bv (ae 6) cK (l.map dm++fin5.map dm) (sS (.ref lo) line main S.length S.length (S.length+1) .no .no) S0=some (.nx (sS (.ref lo) line2 main S.length S.length (S.length+1) u6 u7),S2):=by
    have e3:=e2 []
    rw [List.append_nil] at e3
    exact (e1 _).trans e3
   refine (ah ((cv it).trans both)).trans ?_
   exact dW (bp (ie rfl rfl))
 . have n0:=v2.nf S.length (by simp)
   refine ⟨lq F2 S.length ws,λ k ds hk=>?_,nN (by simp [lq]) (fh (λ d e=>gP (ut n0) _ _ d e (by omega)) _ _ w2)⟩
   unfold lq at hk
   split at hk
   . rename_i z
     cases hk
     subst z
     exact ⟨Nat.le_refl _,w1⟩
   . exact ⟨v2.lf k ds hk,v2.hF k ds hk⟩
 . rw [f2 k hk,f1 k hk,List.getElem?_append_left (by simp;omega),List.getElem?_append_left hk]
theorem Hk (k:Nat) (h:k<4):∃ m:Int,fK [W.int 1,.int 42,.int 1764,.int 74088] (k:Int)=some (.int m)/\0<m/\m<2^64:=by
 obtain ⟨m,hm,e⟩:=gF W.int [1,42,1764,74088] (Int.natCast_nonneg k) (Int.ofNat_lt.mpr h)
 exact ⟨m,e,(show ∀ m∈[(1:Int),42,1764,74088],0<m/\m<2^64 by decide) m hm⟩
theorem IM (i:Int) (h0:0<=i) (h1:i<7):∃ n:Nat,fK [W.int 0,.int 0,.int 1,.int 1,.int 2,.int 3,.int 6] i=some (.int (n:Int))/\n<=6:=by
 obtain ⟨n,hn,e⟩:=gF (λ n:Nat=>W.int n) [0,0,1,1,2,3,6] h0 h1
 exact ⟨n,e,(show ∀ n∈[0,0,1,1,2,3,6],n<=6 by decide) n hn⟩
section
variable {N V:List Str}
theorem vo (hV:V.length=6) (dg:Int):∀ (n:Nat) (lo:Int),∃ xs:List Str,xs.length=n/\(∀ x∈xs,x∈V)/\b6 (ae 2) gR (av aP (au 0) (av bE (av bQ (av cj (au 1) (dC (.int (7)))) (ac 2)) (dC (.int (6))))) [.val (.list (V.map .str)),.val (.int dg),.no] (eW lo n)=some (xs.map .str)
 | 0,lo=>⟨[],rfl,(λ x hx=>absurd hx List.not_mem_nil),rfl⟩
 | n+1,lo=>by
  obtain ⟨xs,l,h,e⟩:=vo hV dg n (lo+1)
  obtain ⟨x,hx,ex⟩:=yQ V hV (dg.fdiv 7+lo)
  refine ⟨x::xs,by simp [l],λ y hy=>?_,?_⟩
  . rcases List.mem_cons.mp hy with rfl | hy
    . exact hx
    . exact h y hy
  . rw [fj]
    first | rfl | simp +decide only [b6,uD,Nat.reduceAdd,Nat.reduceSub,reduceIte,Nat.reduceEqDiff,List.replicate,ex,e,List.map_cons]
theorem vV (hN:N.length=6) (hV:V.length=6) (hn:∀ x∈N,PyData.strOk x=true) (hv:∀ x∈V,PyData.strOk x=true) (head:Int) (s3:Sl):∀ (n lo:Nat) (R:List Rm) (s5 s6 s7:Sl),lo+n<=4->R.length=lo->(∀ r∈R,PyData.strOk r.1=true/\(∀ x∈r.2,PyData.strOk x=true)/\r.2.length<=6)->∃ (R':List Rm) (t5 t6 t7:Sl),R'.length=lo+n/\(∀ r∈R',PyData.strOk r.1=true/\(∀ x∈r.2,PyData.strOk x=true)/\r.2.length<=6)/\bh (ae 5) iM (eW (lo:Int) n) [.val (.int head),.val (.list (N.map .str)),.val (.list (V.map .str)),s3,.own (R.map d9),s5,s6,s7]=some (.nx [.val (.int head),.val (.list (N.map .str)),.val (.list (V.map .str)),s3,.own (R'.map d9),t5,t6,t7])
 | 0,lo,R,s5,s6,s7,_,hl,hR=>⟨R,s5,s6,s7,hl,hR,rfl⟩
 | n+1,lo,R,s5,s6,s7,h4,hl,hR=>by
  obtain ⟨m,em,m0,m1⟩:=Hk lo (by omega)
  let dg:Int:=(head.fdiv 64).fdiv m
  have gd1:cj (.int (head.fdiv 64)) (.int m)=some (.int dg):=uy (nj m0 m1)
  have hm:=cE dg (j:=7) (by decide)
  obtain ⟨c,ec,hc⟩:=IM _ hm.1 hm.2
  obtain ⟨xs,lx,hx,ex⟩:=vo hV dg c 0
  have ln:lo<N.length:=by omega
  have en:fK (N.map W.str) (lo:Int)=some (.str N[lo]):=by
   rw [Cd _ lo (by simpa using ln),List.getElem?_map,List.getElem?_eq_getElem ln]
   rfl
  let r:Rm:=(N[lo],xs)
  obtain ⟨R',t5,t6,t7,l',h',e'⟩:=vV hN hV hn hv head s3 n (lo+1) (R++[r]) (.val (.int (lo:Int))) (.val (.int dg)) (.val (.int (c:Int))) (by omega) (by simp [hl]) (λ q hq=>by
   rcases List.mem_append.mp hq with hq | hq
   . exact hR q hq
   . rw [List.mem_singleton.mp hq];exact ⟨hn _ (List.getElem_mem ln),λ x h=>hv x (hx x h),by show xs.length<=6;omega⟩)
  refine ⟨R',t5,t6,t7,by omega,h',?_⟩
  rw [fj]
  let δ (s6 s7:Sl) (l:List W):DS:=[.val (.int head),.val (.list (N.map .str)),.val (.list (V.map .str)),s3,.own l,.val (.int (lo:Int)),s6,s7]
  refine jo (δ2:=δ s6 s7 (R.map d9)) rfl ?_ e'
  refine ak (δ1:=δ (.val (.int dg)) s7 (R.map d9)) (aO (dO rfl (qA (l:=[W.int 1,.int 42,.int 1764,.int 74088]) rfl rfl em) gd1) rfl) ?_
  refine ak (δ1:=δ (.val (.int dg)) (.val (.int (c:Int))) (R.map d9)) (aO (qA (l:=[W.int 0,.int 0,.int 1,.int 1,.int 2,.int 3,.int 6]) rfl rfl ec) rfl) ?_
  have r1:je (aa (ac 7) af) (δ (.val (.int dg)) (.val (.int (c:Int))) (R.map d9))=some (eW 0 c):=gz (n:=c) rfl (by omega)
  exact (A9 rfl (ie (qA rfl rfl en) (HC r1 (by simp [eW];omega) ex)) (by rw [List.length_map];omega)).trans (by rw [List.map_append];rfl)
theorem xG (hN:N.length=6) (hV:V.length=6) (hn:∀ x∈N,PyData.strOk x=true) (hv:∀ x∈V,PyData.strOk x=true) (head:Int):∃ R:List Rm,gO [.int head,.list (N.map .str),.list (V.map .str)]=some (.list (R.map d9))/\0<R.length/\R.length<=4/\∀ r∈R,GC (R.map (·.1)) r:=by
 have h4:=cE head (j:=4) (by decide)
 obtain ⟨m,hm⟩:∃ m:Nat,1+head.fmod 4=(m:Int):=⟨(1+head.fmod 4).toNat,by omega⟩
 obtain ⟨R,t5,t6,t7,l,h,e⟩:=vV hN hV hn hv head (.val (.int (m:Int))) m 0 [] .no .no .no (by omega) rfl (λ r hr=>absurd hr List.not_mem_nil)
 have hj:=cE (head.fdiv 4) (j:=(m:Int)) (by omega)
 obtain ⟨j,ej⟩:∃ j:Nat,(head.fdiv 4).fmod (m:Int)=(j:Int):=⟨((head.fdiv 4).fmod (m:Int)).toNat,by omega⟩
 let mn:Rm:=(Str.ofString "main", [])
 have md:bE (.int (head.fdiv 4)) (.int (m:Int))=some (.int (j:Int)):=by rw [<-ej];exact nO (by simp only [jT,decide_eq_true_eq];omega)
 have ix:sQ (R.map d9).length (j:Int)=some j:=by
  unfold sQ
  rw [if_pos (by omega),if_pos (by simp;omega)]
  simp
 have es:(R.map d9).set j (d9 mn)=(R.set j mn).map d9:=by rw [List.map_set]
 have mo:PyData.strOk (Str.ofString "main")=true:=by decide +kernel
 refine ⟨R.set j mn,?_,by simp;omega,by simp;omega,λ r hr=>?_⟩
 . refine aX rfl ?_
   refine ak (δ1:=[.val (.int head),.val (.list (N.map .str)),.val (.list (V.map .str)),.val (.int (m:Int)),.no,.no,.no,.no]) (aO ((rfl:_=some (W.int (1+head.fmod 4))).trans (by rw [hm])) rfl) ?_
   refine ak (δ1:=[.val (.int head),.val (.list (N.map .str)),.val (.list (V.map .str)),.val (.int (m:Int)),.own (([]:List Rm).map d9),.no,.no,.no]) rfl ?_
   refine ak (fg (ds:=eW 0 m) (gz (n:=m) rfl (by omega)) e) ?_
   refine ak (δ1:=[.val (.int head),.val (.list (N.map .str)),.val (.list (V.map .str)),.val (.int (m:Int)),.own ((R.set j mn).map d9),t5,t6,t7]) ?_ rfl
   have tv:aG (aa (dC (.str "main")) (aa (ba (bm af)) af)) [.val (.int head),.val (.list (N.map .str)),.val (.list (V.map .str)),.val (.int (m:Int)),.own (R.map d9),t5,t6,t7]=some (d9 mn):=ie rfl rfl
   have ow:jq 4 [.val (.int head),.val (.list (N.map .str)),.val (.list (V.map .str)),.val (.int (m:Int)),.own (R.map d9),t5,t6,t7]=some (R.map d9):=rfl
   have iv:av bE (av cj (au 0) (dC (.int (4)))) (ac 3) [.val (.int head),.val (.list (N.map .str)),.val (.list (V.map .str)),.val (.int (m:Int)),.own (R.map d9),t5,t6,t7]=some (.int (j:Int)):=dO rfl rfl md
   simp only [pH,tv,ow,iv,Option.bind_some,ix,Option.map_some,es]
   rfl
 . have hr':r∈R∨r=mn:=(List.mem_or_eq_of_mem_set hr).imp id id
   have q:PyData.strOk r.1=true/\(∀ x∈r.2,PyData.strOk x=true)/\r.2.length<=6:=by
    rcases hr' with hr' | rfl
    . exact h r hr'
    . exact ⟨mo,(λ x hx=>absurd hx List.not_mem_nil),by simp [mn]⟩
   exact ⟨q.1,q.2.1,q.2.2,λ _=>List.mem_map.mpr ⟨r,hr,rfl⟩⟩
theorem zy (hN:N.length=6) (hn:∀ x∈N,fm x) (head:Int):∃ V:List Str,c8 [.int head,.list (N.map .str)]=some (.list (V.map .str))/\V.length=6/\∀ x∈V,fm x:=by
 have z1:=sz 1 (by decide)
 by_cases h:(head.fdiv 1000000000).fmod 4=1
 . have e:=decide_eq_true h
   have cu:ic (N.map W.str) none (some 5)=(N.take 5).map .str:=by
    have:ic (N.map W.str) none (some 5)=ic (N.map W.str) (some ((0:Nat):Int)) (some ((5:Nat):Int)):=rfl
    rw [this,Gm]
    simp [List.map_take]
   have ma:fm (Str.ofString "main"):=by unfold fm;decide +kernel
   have ga:bQ (.list ((N.take 5).map W.str)) (.list [.str "main"])=some (.list ((N.take 5++[Str.ofString "main"]).map .str)):=by
    rw [nJ (sz _ (by simp;omega))]
    simp
   refine ⟨N.take 5++[Str.ofString "main"],?_,by simp;omega,λ x hx=>?_⟩
   . first | rfl | simp +decide only [c8,uD,Nat.reduceAdd,Nat.reduceSub,reduceIte,Nat.reduceEqDiff,List.replicate,HE,e,cu,if_pos z1,ga]
   . rcases List.mem_append.mp hx with hx | hx
     . exact hn x (List.mem_of_mem_take hx)
     . rw [List.mem_singleton.mp hx];exact ma
 . have e:=decide_eq_false h
   have zn:(N.map W.str).length<=sizeLine:=sz _ (by simp;omega)
   refine ⟨N,?_,hN,hn⟩
   first | rfl | simp +decide only [c8,uD,Nat.reduceAdd,Nat.reduceSub,reduceIte,Nat.reduceEqDiff,List.replicate,gU,HE,e,if_pos zn]
end
noncomputable def pV (OL:List (List Op)):ag:=OL.map λ l=>.lst (l.map dm)
theorem wg:∀ (R:List Rm) (S:ag),bR (ae 0) (ab gR) (dE (ab af)) [.no] (R.map d9) S=some (.ok ((List.range' S.length R.length).map .ref),S++List.replicate R.length (.lst []))
 | [],S=>by simp [bR]
 | r::R,S=>by
  have z0:=sz 0 (by decide)
  have ih:=wg R (S++[Ob.lst []])
  have:=dJ (ae 0) (dE (ab af)) [.no] [.val (d9 r)] (d9 r) (.ref S.length) (R.map d9) _ S (S++[Ob.lst []]) _ rfl (by first | rfl | simp! [uS,uD,if_pos z0]) ih
  rw [List.map_cons,this]
  simp [List.range'_succ,List.replicate_succ]
theorem yT {k n:Nat} (h:k<n):fK ((List.range' 0 n).map W.ref) (k:Int)=some (.ref k):=by
 rw [Cd _ k (by simp;omega),List.getElem?_map,List.getElem?_range' h]
 simp
theorem ub:∀ (L:List (List Op)),∀ l∈L,l.length<=(L.map List.length).sum
 | a::L,l,h=>by
  rw [List.map_cons,List.sum_cons]
  rcases List.mem_cons.mp h with rfl | h
  . omega
  . have:=ub L l h
    omega
theorem MJ {f:DS->Option W} {δ:DS} {l:List W} (h:f δ=some (.list l)):ba (gU f) δ=some (.list l):=by
 unfold ba gU
 rw [h]
 rfl
noncomputable def xO (OL:List (List Op)):Nat:=(OL.map List.length).sum
theorem qz:∀ (OL:List (List Op)) (j:Nat) (op:Op) (h:j<OL.length),xO (OL.set j (OL[j]++[op]))=xO OL+1
 | l::OL,0,op,_=>by simp [xO];omega
 | l::OL,j+1,op,h=>by
  have:=qz OL j op (by simpa using h)
  simp [xO] at this ⊢
  omega
section
variable {V:List Str} {o:Int} {WD:List Str} {R:List Rm}
noncomputable def GH (s0 s1:Sl) (o:Int) (WD:List Str) (s4 s5:Sl) (V:List Str) (R:List Rm) (s9 s10 s11:Sl):DS:=[s0,s1,.val (.int o),.val (.list (WD.map .str)),s4,s5,.val (.list (V.map .str)),.val (.list (R.map d9)),.val (.list ((List.range' 0 R.length).map .ref)),s9,s10,s11,.no,.no,.no,.no,.no]
theorem vJ (hV:V.length=6) (hk:∀ x∈V,fm x) (hR:∀ r∈R,GC (R.map (·.1)) r) (h0:0<R.length) (h4:R.length<=4) (hW:0<WD.length) (s0 s1 s4 s5:Sl):∀ (cells:List Int) (k:Nat) (OL:List (List Op)) (s9 s10 s11:Sl),k+cells.length<900->OL.length=R.length->xO OL+cells.length<900->(∀ l∈OL,∀ op∈l,AD o (R.map (·.1)) WD op)->∃ (OL':List (List Op)) (t9 t10 t11:Sl),OL'.length=R.length/\xO OL'=xO OL+cells.length/\(∀ l∈OL',∀ op∈l,AD o (R.map (·.1)) WD op)/\bv (bI 2 (aA (ae 9) (aA (ae 10) bL))) gC (yi k (cells.map .int)) (GH s0 s1 o WD s4 s5 V R s9 s10 s11) (pV OL)=some (.nx (GH s0 s1 o WD s4 s5 V R t9 t10 t11),pV OL')
 | [],k,OL,s9,s10,s11,_,hl,_,ho=>⟨OL,s9,s10,s11,hl,rfl,ho,rfl⟩
 | c::cells,k,OL,s9,s10,s11,hk9,hl,ht,ho=>by
  simp only [List.length_cons] at hk9 ht
  obtain ⟨m,em,_⟩:=f9 c (k+2) (by omega)
  have e2:(((k+2:Nat)):Int)=(k:Int)+2:=by omega
  rw [e2] at em
  have hm:=cE m (j:=R.length) (by omega)
  obtain ⟨j,ej⟩:∃ j:Nat,m.fmod R.length=j:=⟨(m.fmod R.length).toNat,by omega⟩
  have jl:j<OL.length:=by omega
  have md:=tK d9 R m h0
  rw [ej] at md
  have dv:cj (.int m) (.int ((R.map d9).length:Nat))=some (.int (m.fdiv R.length)):=by
   rw [List.length_map]
   exact uy (nj (by omega) (by omega))
  obtain ⟨op,eo,hop⟩:=FR (o:=o) (FN:=R.map (·.1)) (WD:=WD) hV hk R hR (by omega) hW (m.fdiv R.length)
  have er:=yT (show j<R.length by omega)
  have sj:(pV OL)[j]?=some (.lst (OL[j].map dm)):=by simp [pV,List.getElem?_eq_getElem jl]
  have lj:OL[j].length<=xO OL:=ub OL _ (List.getElem_mem jl)
  obtain ⟨OL',t9,t10,t11,l',q',o',e'⟩:=vJ hV hk hR h0 h4 hW s0 s1 s4 s5 cells (k+1) (OL.set j (OL[j]++[op])) (.val (.int (k:Int))) (.val (.int c)) (.val (.int m)) (by omega) (by simpa using hl) (by rw [qz OL j op jl];omega) (λ l hm' p hp=>by
   rcases List.mem_or_eq_of_mem_set hm' with h | rfl
   . exact ho l h p hp
   . rcases List.mem_append.mp hp with hp | hp
     . exact ho _ (List.getElem_mem jl) p hp
     . rw [List.mem_singleton.mp hp];exact hop)
  refine ⟨OL',t9,t10,t11,l',by rw [q',qz OL j op jl];simp only [List.length_cons];omega,o',?_⟩
  have ss:(pV OL).set j (.lst (OL[j].map dm++[dm op]))=pV (OL.set j (OL[j]++[op])):=by simp [pV,List.map_set]
  rw [List.map_cons]
  refine (bx (δ2:=GH s0 s1 o WD s4 s5 V R (.val (.int (k:Int))) (.val (.int c)) s11) (δ':=GH s0 s1 o WD s4 s5 V R (.val (.int (k:Int))) (.val (.int c)) (.val (.int m))) (S':=pV (OL.set j (OL[j]++[op]))) rfl ?_).trans e'
  refine (ah (δ':=GH s0 s1 o WD s4 s5 V R (.val (.int (k:Int))) (.val (.int c)) (.val (.int m))) (S':=pV OL) (aM (aO (d:=.int m) (hU rfl em) rfl))).trans ?_
  rw [<-ss]
  exact dF (qA rfl (dO rfl rfl md) er) sj (ai (hU (iT (dO rfl rfl dv) rfl) eo)) (by simp;omega)
noncomputable def vm (S:ag) (q:Nat) (w:W) (d:uL):Prop:=∀ G:Nat->Option (List W),(∀ k ds,q<k->S[k]?=some (.lst ds)->G k=some ds)->rW G 30 w=some (d6 d)
theorem vm.move {S S':ag} {q:Nat} {w:W} {d:uL} (h:vm S q w d) (hs:∀ k,q<k->k<S.length->S'[k]?=S[k]?):vm S' q w d:=λ G hG=>h G λ k ds hk hS=>hG k ds hk (by rw [hs k hk (oG hS).1];exact hS)
noncomputable def Kl (s0 s1 s2 s3 s4 s5 s6:Sl) (R:List Rm) (R8:List W) (s9 s10 s11:Sl) (q:Nat) (line:Int) (s14 s15 s16:Sl):DS:=[s0,s1,s2,s3,s4,s5,s6,.val (.list (R.map d9)),.val (.list R8),s9,s10,s11,.val (.ref q),.val (.int line),s14,s15,s16]
structure EL (P:Bool->Hd->Prop) (S:ag) (q:Nat) (ws:List W) (ds:List (uL×Nat)):Prop where
 hq:S[q]?=some (.lst ws)
 al:ws.length=ds.length
 en:∀ (i:Nat) (w:W) (d:uL×Nat),ws[i]?=some w->ds[i]?=some d->vm S q w d.1
 gb:∀ d∈ds,jF P 5 false d.1.bd d.2/\d.1.ps.length<=6/\PyData.strOk d.1.nm=true/\∀ x∈d.1.ps,PyData.strOk x=true
theorem vv (hFN:∀ r∈R,GC (R.map (·.1)) r) (hWD:∀ f∈WD,PyData.strOk f=true) (R8:List W) (h8:R8=(List.range' 0 R.length).map .ref) (OL:List (List Op)) (hOL:OL.length=R.length) (ho:∀ l∈OL,∀ op∈l,AD o (R.map (·.1)) WD op) (hl:∀ l∈OL,l.length<=70) (s0 s1 s2 s3 s4 s5 s6 s10 s11:Sl):∀ (n k:Nat) (rs:List Rm) (S:ag) (ws:List W) (ds:List (uL×Nat)) (line:Int) (s9 s14 s15 s16:Sl),rs=R.drop k->rs.length=n->(∀ i,i<R.length->S[i]?=(pV OL)[i]?)->EL (PP o (R.map (·.1)) WD) S R.length ws ds->ds.length+n<=100->
 ∃ (S':ag) (ws':List W) (ds':List (uL×Nat)) (line':Int) (t9 t14 t15 t16:Sl),bv (bI 2 (aA (ae 9) (aA (ae 14) bL))) gh (yi k (rs.map d9)) (Kl s0 s1 s2 s3 s4 s5 s6 R R8 s9 s10 s11 R.length line s14 s15 s16) S=some (.nx (Kl s0 s1 s2 s3 s4 s5 s6 R R8 t9 s10 s11 R.length line' t14 t15 t16),S')/\EL (PP o (R.map (·.1)) WD) S' R.length ws' ds'/\ds'.map (·.1.nm)=ds.map (·.1.nm)++rs.map (·.1)/\(ds'.map (·.2)).sum<=(ds.map (·.2)).sum+((OL.drop k).map List.length).sum
 | 0,k,rs,S,ws,ds,line,s9,s14,s15,s16,hr,hn,hS,el,_=>by
  have:rs=[]:=List.eq_nil_of_length_eq_zero hn
  subst this
  exact ⟨S,ws,ds,line,s9,s14,s15,s16,rfl,el,by simp,by omega⟩
 | n+1,k,rs,S,ws,ds,line,s9,s14,s15,s16,hr,hn,hS,el,h100=>by
  have kl:k<R.length:=by rw [hr,List.length_drop] at hn;omega
  have rk:rs=R[k]::R.drop (k+1):=by rw [hr];exact List.drop_eq_getElem_cons kl
  have ok:=hFN R[k] (List.getElem_mem kl)
  have ko:k<OL.length:=by omega
  have hlo:S[k]?=some (.lst (OL[k].map dm)):=by rw [hS k kl];simp [pV,List.getElem?_eq_getElem ko]
  let main:Bool:=decide (R[k].1=Str.ofString "main")
  have fnOk:∀ f∈R.map (·.1),PyData.strOk f=true:=λ f hf=>by obtain ⟨r,h1,rfl⟩:=List.mem_map.mp hf;exact (hFN r h1).n
  obtain ⟨S1,b,cs,c,la,e1,⟨G1,g1,g2⟩,gb,cc,sl,fr⟩:=Am fnOk hWD S k OL[k] hlo (λ op hop=>ho _ (List.getElem_mem ko) op hop) (hl _ (List.getElem_mem ko)) (line+1) main
  have ql:=(oG el.hq).1
  have hq1:S1[R.length]?=some (.lst ws):=by rw [fr _ ql];exact el.hq
  let d:uL:=⟨R[k].1,R[k].2,cs,line+1,la⟩
  let w:W:=.tuple [.str R[k].1,.list (R[k].2.map .str),.ref b,.int (line+1),.int la]
  let S2:ag:=S1.set R.length (.lst (ws++[w]))
  have el2:EL (PP o (R.map (·.1)) WD) S2 R.length (ws++[w]) (ds++[(d,c)]):=by
   refine ⟨set_eq' hq1,by simp [el.al],λ i w' d' hw hd=>?_,λ x hx=>?_⟩
   . rcases Nat.lt_or_ge i ws.length with hi | hi
     . rw [List.getElem?_append_left hi] at hw
       rw [List.getElem?_append_left (by rw [<-el.al];exact hi)] at hd
       exact (el.en i w' d' hw hd).move λ k hk hk2=>by rw [List.getElem?_set_ne (by omega),fr k hk2]
     . have il:i=ws.length:=by have:=(oG hw).1;simp at this;omega
       subst il
       rw [List.getElem?_append_right (Nat.le_refl _),Nat.sub_self] at hw
       rw [el.al,List.getElem?_append_right (Nat.le_refl _),Nat.sub_self] at hd
       simp at hw hd
       subst hw hd
       intro G hG
       have rb:rW G 29 (.ref b)=some (.list (cS cs)):=gP (λ k ds hk=>by
        obtain ⟨a1,a2⟩:=g1 k ds hk
        exact hG k ds (by omega) (set_ne' a2 (by omega))) 28 29 _ _ (by omega) g2
       have st:=iP ok.p
       have rp:rW G 29 (.list (R[k].2.map .str))=some (.list (R[k].2.map .str)):=sy G 29 _ (by simpa [gv] using st.1) (by simp only [cA];omega)
       exact qq (aZ (d:=.str R[k].1) rfl (aZ rp (aZ rb (aZ (d:=.int (line+1)) rfl (aZ (d:=.int la) (ds:=[]) rfl rfl)))))
   . rcases List.mem_append.mp hx with hx | hx
     . exact el.gb x hx
     . rw [List.mem_singleton.mp hx];exact ⟨gb,ok.l,ok.n,ok.p⟩
  obtain ⟨S',ws',ds',line',t9,t14,t15,t16,e2,el3,nm3,sm3⟩:=vv hFN hWD R8 h8 OL hOL ho hl s0 s1 s2 s3 s4 s5 s6 s10 s11 n (k+1) (R.drop (k+1)) S2 (ws++[w]) (ds++[(d,c)]) la (.val (.int (k:Int))) (.val (d9 R[k])) (.val (.ref b)) (.val (.int la)) rfl (by rw [hr,List.length_drop] at hn;rw [List.length_drop];omega) (λ i hi=>by rw [List.getElem?_set_ne (by omega),fr i (by omega),hS i hi]) el2 (by simp;omega)
  refine ⟨S',ws',ds',line',t9,t14,t15,t16,?_,el3,by rw [nm3,rk,List.map_append,List.map_cons,List.append_assoc];rfl,?_⟩
  . rw [rk,List.map_cons]
    let δ (s15 s16:Sl) (ln:Int):DS:=Kl s0 s1 s2 s3 s4 s5 s6 R R8 (.val (.int (k:Int))) s10 s11 R.length ln (.val (d9 R[k])) s15 s16
    have er:=yT kl
    rw [<-h8] at er
    refine (bx (δ2:=δ s15 s16 line) (δ':=δ (.val (.ref b)) (.val (.int la)) la) (S':=S2) rfl ?_).trans e2
    refine (ah (δ':=δ (.val (.ref b)) (.val (.int la)) line) (S':=S1) (bt (bM (S1:=S) (ds:=[.ref k,.int (line+1),.bool main]) (ai (sM (qA rfl rfl er) rfl (congrArg (Option.map W.bool) (tD (x0 rfl))))) e1) rfl)).trans ?_
    exact (ah (δ':=δ (.val (.ref b)) (.val (.int la)) line) (S':=S2) (dF rfl hq1 (ai (HV (l:=[.str R[k].1,.list (R[k].2.map .str),.ref b,.int (line+1),.int la]) (iT (x0 rfl) (iT (MJ (x1 rfl)) rfl)) (by simp))) (by have:=el.al;omega))).trans (aM rfl)
  . have:(OL.drop k).map List.length=OL[k].length::(OL.drop (k+1)).map List.length:=by rw [List.drop_eq_getElem_cons ko];rfl
    rw [this,List.sum_cons]
    rw [List.map_append,List.sum_append] at sm3
    simp only [List.map_cons,List.map_nil,List.sum_cons,List.sum_nil] at sm3
    omega
end
theorem C5 (ns:List Int) (lo hi:Option Int):∃ ms:List Int,ms.length<=ns.length/\ic (ns.map .int) lo hi=ms.map .int:=by
 refine ⟨(ns.drop (HT.sIx (ns.map W.int).length 0 lo)).take (HT.sIx (ns.map W.int).length (ns.map W.int).length hi-HT.sIx (ns.map W.int).length 0 lo),?_,?_⟩
 . rw [List.length_take,List.length_drop]
   omega
 . unfold ic
   rw [List.map_take,List.map_drop]
theorem vZ {f:W->Option W}:∀ (ws:List W) (xs:List W),ws.length=xs.length->(∀ (i:Nat) (w x:W),ws[i]?=some w->xs[i]?=some x->f w=some x)->dr f ws=some xs
 | [],[],_,_=>rfl
 | w::ws,x::xs,hl,h=>aZ (h 0 w x rfl rfl) (vZ ws xs (by simpa using hl) λ i a b ha hb=>h (i+1) a b (by simpa using ha) (by simpa using hb))
 | [],_::_,hl,_=>by simp at hl
 | _::_,[],hl,_=>by simp at hl
theorem yk (ns:List Int) (hns:ns.length<=63) {N:List Str} (hN:N.length=6) (hA:∀ x∈N,fm x) (o:Int) {WD:List Str} (hW:0<WD.length) (hWD:∀ f∈WD,PyData.strOk f=true):∃ (ds:List (uL×Nat)),fA [.list (ns.map .int),.list (N.map .str),.int o,.list (WD.map .str),.int 56]=some (.list (ds.map λ d=>d6 d.1))/\ds.length<=4/\(∀ d∈ds,jF (PP o (ds.map (·.1.nm)) WD) 5 false d.1.bd d.2/\d.1.ps.length<=6/\PyData.strOk d.1.nm=true/\∀ x∈d.1.ps,PyData.strOk x=true)/\(ds.map (·.2)).sum<=63:=by
 have hn:∀ x∈N,PyData.strOk x=true:=λ x hx=>(hA x hx).ok
 obtain ⟨c0,ec0⟩:=mS ns 0
 obtain ⟨head,eh,_⟩:=f9 c0 0 (by decide)
 obtain ⟨V,eV,lV,aV⟩:=zy hN hA head
 obtain ⟨R,eR,r0,r4,hR⟩:=xG hN lV hn (λ x hx=>(aV x hx).ok) head
 obtain ⟨ms,lm,em⟩:=C5 ns (some 2) (some 56)
 let scr:Sl:=.val (.list (ns.map .int))
 let nl:Sl:=.val (.list (N.map .str))
 obtain ⟨OL,t9,t10,t11,lO,tO,kO,eO⟩:=vJ (o:=o) (WD:=WD) lV aV hR r0 r4 hW scr nl (.val (.int 56)) (.val (.int head)) ms 0 (List.replicate R.length []) .no .no .no (by omega) (by simp) (by simp [xO];omega) (λ l hl op hop=>by rw [List.eq_of_mem_replicate hl] at hop;cases hop)
 have t0:xO (List.replicate R.length ([]:List Op))=0:=by simp [xO]
 rw [t0,Nat.zero_add] at tO
 have st0:pV (List.replicate R.length [])=([]:ag)++List.replicate R.length (Ob.lst []):=by simp [pV]
 have sl:(pV OL).length=R.length:=by simp [pV,lO]
 let S1:ag:=pV OL++[Ob.lst []]
 have hq:S1[R.length]?=some (.lst []):=by rw [<-sl];exact bO _ _
 have lb:∀ l∈OL,l.length<=70:=λ l hl=>by
  have:l.length<=xO OL:=ub OL l hl
  omega
 obtain ⟨S2,ws,ds,line',u9,u14,u15,u16,e2,el,nm,sm⟩:=vv (o:=o) (WD:=WD) hR hWD ((List.range' 0 R.length).map .ref) rfl OL lO kO lb scr nl (.val (.int o)) (.val (.list (WD.map .str))) (.val (.int 56)) (.val (.int head)) (.val (.list (V.map .str))) t10 t11 R.length 0 R S1 [] [] 0 t9 .no .no .no rfl rfl (λ i hi=>by simp only [S1];rw [List.getElem?_append_left (by omega)]) ⟨hq,rfl,(λ i w d hw=>by simp at hw),λ d hd=>absurd hd List.not_mem_nil⟩ (by simp;omega)
 have nm':ds.map (·.1.nm)=R.map (·.1):=by simpa using nm
 refine ⟨ds,?_,?_,λ d hd=>by rw [nm'];exact el.gb d hd,?_⟩
 . have ok:bZ [.list (ns.map .int),.list (N.map .str),.int o,.list (WD.map .str),.int 56]=true:=by
    have a:=(iP hn).1
    have b:=(iP hWD).1
    have c:bZ (ns.map .int)=true:=i8 λ d hd=>by obtain ⟨x,_,rfl⟩:=List.mem_map.mp hd;rfl
    simp [bZ,gv,a,b,c]
   have run:fB [.list (ns.map .int),.list (N.map .str),.int o,.list (WD.map .str),.int 56] []=some (.ok (.ref R.length),S2):=by
    let δ (s5 s6 s7 s8 s9 s10 s11 s12 s13:Sl):DS:=[scr,nl,.val (.int o),.val (.list (WD.map .str)),.val (.int 56),s5,s6,s7,s8,s9,s10,s11,s12,s13,.no,.no,.no]
    let sV:Sl:=.val (.list (V.map .str))
    let sR:Sl:=.val (.list (R.map d9))
    let s8:Sl:=.val (.list ((List.range' 0 R.length).map .ref))
    have zr:(R.map d9).length<=sizeLine:=sz _ (by simp;omega)
    refine (bi rfl).trans ((congrArg eA (?_:_=some (.rt (.ref R.length),S2))).trans rfl)
    refine (ah (δ':=δ (.val (.int head)) .no .no .no .no .no .no .no .no) (S':=[]) (aM (aO (d:=.int head) (hU (AF (hU rfl ec0) rfl) eh) rfl))).trans ?_
    refine (ah (δ':=δ (.val (.int head)) sV .no .no .no .no .no .no .no) (S':=[]) (aM (aO (d:=.list (V.map .str)) (hU rfl eV) rfl))).trans ?_
    refine (ah (δ':=δ (.val (.int head)) sV sR .no .no .no .no .no .no) (S':=[]) (aM (aO (d:=.list (R.map d9)) (hU rfl eR) rfl))).trans ?_
    have oc:=wg R []
    refine (ah (δ':=δ (.val (.int head)) sV sR s8 .no .no .no .no .no) (S':=pV (List.replicate R.length [])) (bt (mL (S0:=[]) (ds:=R.map d9) rfl zr (by rw [st0];exact oc)) rfl)).trans ?_
    refine (ah (δ':=δ (.val (.int head)) sV sR s8 t9 t10 t11 .no .no) (S':=pV OL) ((cv (S1:=pV (List.replicate R.length [])) (ds:=yi 0 (ms.map .int)) (ai ?_)).trans eO)).trans ?_
    . first | rfl | simp! [δ,GH,scr,uD,em,rR]
    refine (ah (δ':=δ (.val (.int head)) sV sR s8 t9 t10 t11 (.val (.ref R.length)) .no) (S':=S1) (bt (d:=.ref R.length) (by rw [<-sl];rfl) rfl)).trans ?_
    refine (ah (δ':=δ (.val (.int head)) sV sR s8 t9 t10 t11 (.val (.ref R.length)) (.val (.int 0))) (S':=S1) (aM rfl)).trans ?_
    refine (ah ((cv (S1:=S1) (ds:=yi 0 (R.map d9)) (ai ?_)).trans e2)).trans rfl
    first | rfl | simp! [δ,Kl,sR,uD,rR]
   show y9 _ _=_
   unfold y9
   rw [if_pos ok,run]
   refine nN (Do el.hq) (vZ ws _ (by simp [el.al]) λ i w x hw hx=>?_)
   rw [List.getElem?_map] at hx
   obtain ⟨d,hd,rfl⟩:=oM hx
   exact gP (λ _ _ z=>z) 30 39 _ _ (by omega) (el.en i w d hw hd (GF S2) λ k dd _ hk=>Do hk)
 . have:=congrArg List.length nm'
   simp at this
   omega
 . have:(OL.map List.length).sum=ms.length:=tO
   simp only [List.drop_zero,List.map_nil,List.sum_nil] at sm
   omega
theorem Jw {o:Int} {FN WD:List Str} {wh:Bool} {h:Hd} (hp:PP o FN WD wh h):Hg FN wh h:=by
 refine ⟨λ t ht=>?_,λ hc=>?_,λ x f ts e=>?_⟩
 . cases h with
   | set x u=>rw [List.mem_singleton.mp ht];exact hp.2.1
   | ret u=>rw [List.mem_singleton.mp ht];exact hp.1
   | ifs u l=>rw [List.mem_singleton.mp ht];exact hp.1
   | whl u l=>rw [List.mem_singleton.mp ht];exact hp.1
   | _=>cases ht
 . cases h with
   | brk=>exact hp
   | agn=>exact hp
   | _=>exact nomatch (show false=true from decide_eq_true hc)
 . subst e
   exact ⟨hp.2.1,λ t ht=>(hp.2.2.2 t ht).1⟩
theorem Ds {o:Int} {FN WD:List Str}:∀ (ds:List (uL×Nat)),(∀ d∈ds,jF (PP o FN WD) 5 false d.1.bd d.2/\d.1.ps.length<=6/\PyData.strOk d.1.nm=true/\∀ x∈d.1.ps,PyData.strOk x=true)->(ds.map (·.2)).sum<=63->∃ qs:List Dq,qs.map (·.1)=ds.map (·.1)/\(∀ q∈qs,GD FN q/\(∀ i∈q.2,∃ wh,PP o FN WD wh i.2.1)/\∃ sp,uu q.2 sp/\aH 7 [.list (cS q.1.bd),fI [],.none]=some (.list sp))/\iZ qs=(ds.map (·.2)).sum+ds.length
 | [],_,_=>⟨[],rfl,(λ q hq=>absurd hq List.not_mem_nil),rfl⟩
 | d::ds,h,hs=>by
  simp only [List.map_cons,List.sum_cons] at hs
  obtain ⟨g,hp,_⟩:=h d (by simp)
  obtain ⟨is,l,gi,e,es⟩:=uQ (wh:=false) g (by omega) (by omega)
  obtain ⟨qs,h1,h2,h3⟩:=Ds ds (λ x hx=>h x (by simp [hx])) (by omega)
  refine ⟨(d.1,is)::qs,by simp [h1],λ q hq=>?_,?_⟩
  . rcases List.mem_cons.mp hq with rfl | hq
    . exact ⟨⟨e,λ i hi=>⟨by obtain ⟨wh,a,b⟩:=(gi i hi).p;exact ⟨wh,Jw a,b⟩,(gi i hi).l⟩,hp⟩,(λ i hi=>by obtain ⟨wh,a,_⟩:=(gi i hi).p;exact ⟨wh,a⟩),es⟩
    . exact h2 q hq
  . have:iZ ((d.1,is)::qs)=is.length+1+iZ qs:=by simp [iZ]
    rw [this,h3,l]
    simp only [List.map_cons,List.sum_cons,List.length_cons]
    omega
section
variable {S:ag} {f:Nat} {F:List (List aF×W)} {δ:DS} {fk fo:DS->Option W} {w:W} {kk:List aF}
theorem qD (hf:S[f]?=some (.dT F)) (h1:fk δ=some w) (h2:fo δ=some (.ref f)) (hk:di w=some kk):ls (ab fk) (ab fo) δ S=some (.ok (.bool (fE F kk)),S):=by
 simp only [ls,ai h1,ai h2,ao,qF hf hk,Option.map_some,hZ,fE]
theorem zK (hf:S[f]?=some (.dT F)) (h1:fk δ=some w) (h2:fo δ=some (.ref f)) (hk:di w=some kk):ig false (ab fk) (ab fo) δ S=some (.ok (fE F kk),S):=by
 simp only [ig,ai h1,ai h2,ao,qF hf hk,Option.map_some,hZ,fE]
 rfl
theorem zj (hf:S[f]?=some (.dT F)) (h1:fk δ=some w) (h2:fo δ=some (.ref f)) (hk:di w=some kk):ig true (ab fk) (ab fo) δ S=some (.ok (!fE F kk),S):=by
 simp only [ig,ai h1,ai h2,ao,qF hf hk,Option.map_some,hZ,fE]
 rfl
theorem FA (bs:List Bool):rB (bs.map .bool)=some bs:=by
 induction bs with
 | nil=>rfl
 | cons b bs ih=>
  show (rB (bs.map .bool)).map _=_
  rw [ih]
  rfl
theorem yW {g:DS->ag->SM W} {bs:List Bool} (h:g δ S=some (.ok (.list (bs.map .bool)),S)):D1 uA g δ S=some (.ok (.bool (bs.any id)),S):=by
 simp only [D1,h,ao,uA,iQ,Option.bind_some,FA,Option.map_some,hZ]
theorem uj {p q:DS->Option Bool} {a b:Bool} (h1:p δ=some a) (h2:q δ=some b):lS p q δ=some (a||b):=by
 cases a with
 | true=>simp! [uD,h1,Bool.true_or]
 | false=>simp! [uD,h1,h2,Bool.false_or]
theorem II {p q:DS->ag->SM Bool} {a b:Bool} (h1:p δ S=some (.ok a,S)) (h2:q δ S=some (.ok b,S)):BP p q δ S=some (.ok (a||b),S):=by
 cases a with
 | true=>simp only [BP,h1,ao,if_true,Bool.true_or]
 | false=>simp only [BP,h1,ao,h2,Bool.false_eq_true,if_false,Bool.false_or]
theorem LZ {g:DS->ag->SM W} {b:Bool} (h:g δ S=some (.ok (.bool b),S)):iB g δ S=some (.ok b,S):=by
 simp only [iB,h,ao,iC,hZ,Option.map_some]
noncomputable def lB (F:List (List aF×W)) (nm:Str):Tr->Bool
 | .num _=>false
 | .sig k=>k==0||k==2
 | .nam x=>fE F (mj nm x)
 | .box t=>lB F nm t
 | .op _ a b=>lB F nm a||lB F nm b
theorem mi {nm:Str}:∀ (t:Tr),lB F nm t=true->own t=true∨∃ y∈pZ t,fE F (mj nm y)=true
 | .num _,h=>by cases h
 | .sig k,h=>.inl (by simpa [own,eM,iV,lB] using h)
 | .nam x,h=>.inr ⟨x,by simp [pZ,xQ,eM],h⟩
 | .box t,h=>mi t h
 | .op k a b,h=>by
  rcases (Bool.or_eq_true _ _).mp h with h | h
  . rcases mi a h with z | ⟨y,hy,z⟩
    . exact .inl (by rcases (Bool.or_eq_true _ _).mp z with z | z <;> simp [own,eM,z])
    . exact .inr ⟨y,by simp only [pZ,xQ] at hy ⊢;simp only [eM,List.filterMap_append];exact List.mem_append.mpr (.inl hy),z⟩
  . rcases mi b h with z | ⟨y,hy,z⟩
    . exact .inl (by rcases (Bool.or_eq_true _ _).mp z with z | z <;> simp [own,eM,z])
    . exact .inr ⟨y,by simp only [pZ,xQ] at hy ⊢;simp only [eM,List.filterMap_append];exact List.mem_append.mpr (.inr hy),z⟩
theorem nh {nm:Str} {t:Tr} (h:lB F nm t=true):∃ p∈lC nm t,sN F p.2:=by
 unfold lC
 by_cases ho:own t=true
 . rw [if_pos ho]
   exact ⟨_,List.mem_singleton.mpr rfl,.inl rfl⟩
 . rw [if_neg ho]
   rcases mi t h with z | ⟨y,hy,z⟩
   . exact absurd z ho
   . exact ⟨_,List.mem_map.mpr ⟨y,hy,rfl⟩,.inr z⟩
theorem Ma:∀ k:Fin 3,(decide (oV k=Str.ofString "lane")||decide (oV k=Str.ofString "mine"))=(k==0||k==2):=by decide +kernel
theorem M4:∀ k:Fin 7,(decide (qZ k=Str.ofString "lane")||decide (qZ k=Str.ofString "mine"))=false:=by decide +kernel
theorem Li:(decide (Str.ofString "num" = Str.ofString "lane")||decide (Str.ofString "num" = Str.ofString "mine"))=false/\(decide (Str.ofString "name" = Str.ofString "lane")||decide (Str.ofString "name" = Str.ofString "mine"))=false/\(decide (Str.ofString "box" = Str.ofString "lane")||decide (Str.ofString "box" = Str.ofString "mine"))=false:=by decide +kernel
theorem ny {n:Nat} {nm w:Str} {ps:List W} {bs:List Bool} (h1:(decide (w=Str.ofString "lane")||decide (w=Str.ofString "mine"))=false) (h2:decide (w=Str.ofString "name")=false) (h3:decide (w=Str.ofString "num")=false) (hl:ps.length<=9000) (h:bR (ae 2) (ab gR) (bY (aS n) (ab (aa (ac 0) (aa (ac 1) (aa (ac 2) af))))) [.val (.ref f),.val (.str nm),.no] ps S=some (.ok (bs.map .bool),S)):aS (n+1) [.ref f,.str nm,.tuple (.str w::ps)] S=some (.ok (.bool (bs.any id)),S):=by
 let δ:DS:=[.val (.ref f),.val (.str nm),.val (.tuple (.str w::ps))]
 have a0:av aP (au 2) (dC (.int (0))) δ=some (.str w):=x0 rfl
 unfold aS
 refine (bi rfl).trans ((congrArg eA (?_:_=some (.rt (.bool (bs.any id)),S))).trans rfl)
 refine (ah (δ':=δ) (S':=S) (aM (aN (b:=false) ((uj (tD a0) (tD a0)).trans (congrArg some h1)) rfl))).trans ?_
 refine (cF a0 h2).trans (cT ?_)
 have q:b8 (.str w) (.str "num")=some (decide (w=Str.ofString "num")):=tD (f:=dC (.str w)) (δ:=δ) rfl
 rw [h3] at q
 have c1:ab (dB (ay qP (av aP (au 2) (dC (.int (0)))) (dC (.str "num")))) δ S=some (.ok (.bool true),S):=ai (congrArg (Option.map W.bool) (A8 (r:=true) a0 rfl (by rw [qP,q];rfl)))
 have c2:=yW (mL (ix:=[some 0,some 1,none]) (fi:=ab (bz (kH (ac 2) (dD (dC (.int (1)))) cQ))) (δ:=δ) (S:=S) (ds:=ps) (ai (by first | rfl | simp! [δ,uD,kH,uY])) (sz _ hl) h)
 show i6 _ _ δ S=_
 simp only [i6,c1,ao,iC,Option.bind_some,if_true]
 exact c2
theorem jR (hf:S[f]?=some (.dT F)) (nm:Str):∀ (t:Tr) (n:Nat),om t<n->aS n [.ref f,.str nm,tw t] S=some (.ok (.bool (lB F nm t)),S)
 | _,0,h=>absurd h (Nat.not_lt_zero _)
 | .num v,n+1,_=>by
  let δ:DS:=[.val (.ref f),.val (.str nm),.val (tw (.num v))]
  have a0:av aP (au 2) (dC (.int (0))) δ=some (.str "num"):=x0 rfl
  unfold aS
  refine (bi rfl).trans ((congrArg eA (?_:_=some (.rt (.bool false),S))).trans rfl)
  refine (ah (δ':=δ) (S':=S) (aM (aN (b:=false) ((uj (tD a0) (tD a0)).trans (congrArg some Li.1)) rfl))).trans ?_
  refine (cF a0 Mj).trans (cT ?_)
  have c1:ab (dB (ay qP (av aP (au 2) (dC (.int (0)))) (dC (.str "num")))) δ S=some (.ok (.bool false),S):=ai (congrArg (Option.map W.bool) (A8 (r:=false) a0 rfl rfl))
  show i6 _ _ δ S=_
  simp only [i6,c1,ao,iC,Option.bind_some,Bool.false_eq_true,if_false]
 | .sig k,n+1,_=>by
  cases hk:(k==0||k==2) with
  | true=>
   let δ:DS:=[.val (.ref f),.val (.str nm),.val (tw (.sig k))]
   have a0:av aP (au 2) (dC (.int (0))) δ=some (.str (oV k)):=x0 rfl
   unfold aS
   refine (bi rfl).trans ((congrArg eA (?_:_=some (.rt (.bool true),S))).trans (by rw [show lB F nm (.sig k)=true from hk];rfl))
   exact dq (δ:=δ) (dW (aN (b:=true) ((uj (tD a0) (tD a0)).trans (congrArg some ((Ma k).trans hk))) rfl))
  | false=>
   rw [show lB F nm (.sig k)=false from hk]
   exact ny (bs:=[]) ((Ma k).trans hk) (Mx k) (M5 k) (by simp) rfl
 | .nam x,n+1,_=>by
  let δ:DS:=[.val (.ref f),.val (.str nm),.val (tw (.nam x))]
  have a0:av aP (au 2) (dC (.int (0))) δ=some (.str "name"):=x0 rfl
  unfold aS
  refine (bi rfl).trans ((congrArg eA (?_:_=some (.rt (.bool (fE F (mj nm x))),S))).trans rfl)
  refine (ah (δ':=δ) (S':=S) (aM (aN (b:=false) ((uj (tD a0) (tD a0)).trans (congrArg some Li.2.1)) rfl))).trans ?_
  exact dq ((fT a0).trans (cT (qD hf (w:=jD nm x) (qd rfl rfl (x1 rfl)) rfl rfl)))
 | .box t,n+1,h=>by
  have ih:=jR hf nm t n (by simp only [om] at h;omega)
  have:=ny (S:=S) (f:=f) (nm:=nm) (n:=n) (w:=Str.ofString "box") (ps:=[tw t]) (bs:=[lB F nm t]) Li.2.2 Mp M7 (by simp) (dJ _ _ _ [.val (.ref f),.val (.str nm),.val (tw t)] _ (.bool (lB F nm t)) _ _ _ S _ rfl (bM (S1:=S) (ds:=[.ref f,.str nm,tw t]) rfl ih) rfl)
  simpa [lB,tw] using this
 | .op k a b,n+1,h=>by
  have ia:=jR hf nm a n (by simp only [om] at h;omega)
  have ib:=jR hf nm b n (by simp only [om] at h;omega)
  have:=ny (S:=S) (f:=f) (nm:=nm) (n:=n) (w:=qZ k) (ps:=[tw a,tw b]) (bs:=[lB F nm a,lB F nm b]) (M4 k) (Mq k) (MF k) (by simp) (dJ _ _ _ [.val (.ref f),.val (.str nm),.val (tw a)] _ (.bool (lB F nm a)) _ _ _ S _ rfl (bM (S1:=S) (ds:=[.ref f,.str nm,tw a]) rfl ia) (dJ _ _ _ [.val (.ref f),.val (.str nm),.val (tw b)] _ (.bool (lB F nm b)) _ _ _ S _ rfl (bM (S1:=S) (ds:=[.ref f,.str nm,tw b]) rfl ib) rfl))
  simpa [lB,tw] using this
noncomputable def wy (F:List (List aF×W)) (nm:Str) (ar:List Bk):Bool:=fE F (o6 nm)||(ar.map λ b=>fE F (qQ b.1)).any id
theorem FS {nm:Str} {ar:List Bk} (h:wy F nm ar=true):∃ p∈dH nm ar,sN F p.2:=by
 rcases (Bool.or_eq_true _ _).mp h with z | z
 . exact ⟨_,List.mem_cons_self,.inr z⟩
 . obtain ⟨x,hx,z⟩:=List.any_eq_true.mp z
   obtain ⟨b,hb,rfl⟩:=List.mem_map.mp hx
   exact ⟨_,List.mem_cons_of_mem _ (List.mem_map.mpr ⟨b,hb,rfl⟩),.inr z⟩
theorem wv (hf:S[f]?=some (.dT F)):∀ (ar:List Bk),bR (ae 1) (ab gR) (ls (ab (aG (aa (dC (.str "row")) (aa (ac 1) af)))) (ab (ac 0))) [.val (.ref f),.no] (ar.map λ b=>.int b.1) S=some (.ok ((ar.map λ b=>fE F (qQ b.1)).map .bool),S)
 | []=>rfl
 | b::ar=>dJ _ _ _ [.val (.ref f),.val (.int b.1)] _ (.bool (fE F (qQ b.1))) _ _ _ S _ rfl (qD hf (w:=rS b.1) (ie rfl rfl) rfl rfl) (wv hf ar)
theorem Ej (hf:S[f]?=some (.dT F)) (nm:Str) (ar:List Bk) (hl:ar.length<=9000):cg [.ref f,.str nm,fI ar] S=some (.ok (.bool (wy F nm ar)),S):=by
 let δ:DS:=[.val (.ref f),.val (.str nm),.val (fI ar)]
 refine (bi rfl).trans ((congrArg eA (?_:_=some (.rt (.bool (wy F nm ar)),S))).trans rfl)
 refine cT ?_
 have c1:ls (ab (aG (aa (dC (.str "def")) (aa (ac 1) af)))) (ab (ac 0)) δ S=some (.ok (.bool (fE F (o6 nm))),S):=qD hf (w:=mW nm) (ie rfl rfl) rfl rfl
 have c2:=yW (mL (ix:=[some 0,none]) (fi:=ab (bz (ac 2))) (δ:=δ) (S:=S) (ds:=ar.map λ b=>.int b.1) rfl (sz _ (by simpa using hl)) (wv hf ar))
 show wP _ _ δ S=_
 unfold wy
 cases hb:fE F (o6 nm) with
 | true=>rw [hb] at c1;simp only [wP,c1,ao,iC,Option.bind_some,if_true,Bool.true_or]
 | false=>
  rw [hb] at c1
  simp only [wP,c1,ao,iC,Option.bind_some,Bool.false_eq_true,if_false,Bool.false_or]
  exact c2
end
section
variable {S:ag} {f rm:Nat} {F:List (List aF×W)}
noncomputable def HM (f:Nat) (s1:Sl) (nm:Str) (w:W) (b:Bool) (acc:List W) (s6 s7:Sl):DS:=[.val (.ref f),s1,.val (.str nm),.val w,.val (.bool b),.own acc,s6,s7]
noncomputable def AA (F:List (List aF×W)) (nm g:Str) (l:List (Str×Tr)):List W:=(l.filter λ p=>lB F nm p.2).map λ p=>jD g p.1
theorem qB (hf:S[f]?=some (.dT F)) (s1:Sl) (nm x g:Str) (ts:List Tr) (k:Int) (b:Bool):∀ (l:List (Str×Tr)) (acc:List W) (s6 s7:Sl),(∀ p∈l,gd p.2 7 5)->acc.length+l.length<9000->∃ t6 t7,bv (bI 2 (aA (ae 6) (aA (ae 7) bL))) eF (l.map λ p=>.tuple [.str p.1,tw p.2]) (HM f s1 nm (ci k (.call x g ts)) b acc s6 s7) S=some (.nx (HM f s1 nm (ci k (.call x g ts)) b (acc++AA F nm g l) t6 t7),S)
 | [],acc,s6,s7,_,_=>⟨s6,s7,by rw [show AA F nm g []=[] from rfl,List.append_nil];rfl⟩
 | p::l,acc,s6,s7,h,hl=>by
  simp only [List.length_cons] at hl
  have i:=jR hf nm p.2 9 (by have:=(h p (by simp)).1;omega)
  let δ:DS:=HM f s1 nm (ci k (.call x g ts)) b acc (.val (.str p.1)) (.val (tw p.2))
  have c:iB (bY (aS 9) (ab (aa (ac 0) (aa (ac 2) (aa (ac 7) af))))) δ S=some (.ok (lB F nm p.2),S):=LZ (bM (S1:=S) (ds:=[.ref f,.str nm,tw p.2]) rfl i)
  cases hb:lB F nm p.2 with
  | true=>
   obtain ⟨t6,t7,e⟩:=qB hf s1 nm x g ts k b l (acc++[jD g p.1]) (.val (.str p.1)) (.val (tw p.2)) (λ q hq=>h q (by simp [hq])) (by rw [List.length_append,List.length_singleton];omega)
   rw [hb] at c
   have hL:AA F nm g (p::l)=jD g p.1::AA F nm g l:=by simp [AA,hb]
   rw [hL]
   rw [List.append_assoc] at e
   refine ⟨t6,t7,(bx (δ2:=δ) rfl ((cU c).trans (aM (A9 (ds:=acc) rfl (qd rfl (x3 rfl) rfl) (by omega))))).trans e⟩
  | false=>
   obtain ⟨t6,t7,e⟩:=qB hf s1 nm x g ts k b l acc (.val (.str p.1)) (.val (tw p.2)) (λ q hq=>h q (by simp [hq])) (by omega)
   rw [hb] at c
   have hL:AA F nm g (p::l)=AA F nm g l:=by simp [AA,hb]
   rw [hL]
   exact ⟨t6,t7,(bx (δ2:=δ) (δ':=δ) rfl ((bw c).trans rfl)).trans e⟩
noncomputable def gy (F:List (List aF×W)) (ws:List W):Prop:=∀ w∈ws,∃ kk,di w=some kk/\fE F kk=true
theorem gy.nil:gy F []:=λ _ h=>absurd h List.not_mem_nil
theorem gy.one {w:W} {kk:List aF} (hk:di w=some kk) (h:fE F kk=true):gy F [w]:=λ x hx=>by rw [List.mem_singleton.mp hx];exact ⟨kk,hk,h⟩
theorem gy.app {a b:List W} (h:gy F a) (h':gy F b):gy F (a++b):=λ x hx=>(List.mem_append.mp hx).elim (h x) (h' x)
theorem gy.ite {b:Bool} {w:W} {kk:List aF} (hk:di w=some kk) (h:b=true->fE F kk=true):gy F (if b=true then [w] else []):=by
 cases b with
 | true=>exact .one hk (h rfl)
 | false=>exact .nil
theorem Jh {c:DS->Option Bool} {g:DS->Option W} {δ:DS} {b:Bool} {acc:List W} {w:W} {i:Nat} (hc:c δ=some b) (h1:jq i δ=some acc) (h2:g δ=some w) (h3:acc.length<9000) (h4:δ.set i (.own acc)=δ):bP c (b7 i g) aw δ=some (.nx (δ.set i (.own (acc++if b=true then [w] else [])))):=by
 cases b with
 | true=>exact aN hc (A9 h1 h2 h3)
 | false=>
  refine aN hc ?_
  simp only [Bool.false_eq_true,if_false,List.append_nil,h4]
  rfl
theorem Dk {c:DS->ag->SM Bool} {g:DS->Option W} {δ:DS} {b:Bool} {acc:List W} {w:W} {i:Nat} (hc:c δ S=some (.ok b,S)) (h1:jq i δ=some acc) (h2:g δ=some w) (h3:acc.length<9000) (h4:δ.set i (.own acc)=δ):bX c (aq (b7 i g)) (aq aw) δ S=some (.nx (δ.set i (.own (acc++if b=true then [w] else []))),S):=by
 cases b with
 | true=>exact (cU hc).trans (aM (A9 h1 h2 h3))
 | false=>
  refine (bw hc).trans ?_
  simp only [Bool.false_eq_true,if_false,List.append_nil,h4]
  rfl
theorem qM {b:Bool} {w:W}:(if b=true then [w] else []).length<=1:=by cases b <;> simp
noncomputable def AU (F:List (List aF×W)) (nm:Str) (pO:Str->List Str) (i:It):Prop:=∀ x∈im nm pO i,sN F x.1->fE F x.2.2.1=true
variable {nm:Str} {pO:Str->List Str} {k:Int} {ar:List Bk} {kv:List (aF×W)}
theorem AU.way {h:Hd} (c:AU F nm pO (k,h,ar)):∀ x∈pW nm k h ar,sN F x.1->fE F x.2.2.1=true:=λ x hx=>c x (List.mem_append.mpr (.inl hx))
theorem AU.num {h:Hd} (c:AU F nm pO (k,h,ar)):∀ x∈eB nm k h,sN F x.1->fE F x.2.2.1=true:=λ x hx=>c x (List.mem_append.mpr (.inr (List.mem_append.mpr (.inl hx))))
theorem AU.cl {h:Hd} (c:AU F nm pO (k,h,ar)):∀ x∈D2 nm k pO h,sN F x.1->fE F x.2.2.1=true:=λ x hx=>c x (List.mem_append.mpr (.inr (List.mem_append.mpr (.inr hx))))
theorem xk (hf:S[f]?=some (.dT F)) (hr:S[rm]?=some (.dK kv)) {x g:Str} {ts:List Tr} (hv:bg kv (Sum.inr g)=some (.list ((pO g).map .str))) (hp:(pO g).length<=6) (ht:∀ t∈ts,gd t 7 5) (b:Bool) (hb:b=true->∃ p∈dH nm ar,sN F p.2) (c:AU F nm pO (k,.call x g ts,ar)):∃ ws,gy F ws/\d7 [.ref f,.ref rm,.str nm,ci k (.call x g ts),.bool b] S=some (.ok (.list ws),S):=by
 have z0:=sz 0 (by decide)
 let w0:W:=ci k (.call x g ts)
 let A:List W:=if b=true then [mW g] else []
 let B:List W:=if (b||fE F (uw g))=true then [jD nm x] else []
 have la:A.length<=1:=qM
 have lb:B.length<=1:=qM
 have lz:((pO g).zip ts).length<=6:=by rw [List.length_zip];omega
 obtain ⟨t6,t7,e⟩:=qB hf (.val (.ref rm)) nm x g ts k b ((pO g).zip ts) (A++B) .no .no (λ p hp=>ht _ (List.of_mem_zip hp).2) (by rw [List.length_append];omega)
 refine ⟨A++B++AA F nm g ((pO g).zip ts),.app (.app (.ite rfl λ z=>?_) (.ite rfl λ z=>?_)) λ w hw=>?_,?_⟩
 . exact dG c.way (λ y hy=>List.mem_append.mpr (.inr (List.mem_append.mpr (.inr (List.mem_append.mpr (.inr hy)))))) (hb z)
 . rcases (Bool.or_eq_true _ _).mp z with z | z
   . exact dG c.way (λ y hy=>List.mem_append.mpr (.inl hy)) (hb z)
   . exact dG c.cl (kc:=[(vE g,uw g)]) (λ y hy=>List.mem_append.mpr (.inl hy)) ⟨_,List.mem_singleton.mpr rfl,.inr z⟩
 . obtain ⟨p,hp,rfl⟩:=List.mem_map.mp hw
   obtain ⟨h1,h2⟩:=List.mem_filter.mp hp
   exact ⟨mj g p.1,rfl,dG c.cl (λ y hy=>List.mem_append.mpr (.inr (List.mem_flatMap.mpr ⟨p,h1,hy⟩))) (nh h2)⟩
 refine (bi rfl).trans ((congrArg eA (?_:_=some (.rt (.list (A++B++AA F nm g ((pO g).zip ts))),S))).trans rfl)
 let δ (acc:List W) (s6 s7:Sl):DS:=HM f (.val (.ref rm)) nm w0 b acc s6 s7
 refine (ah (δ':=δ [] .no .no) (S':=S) (aM (by first | rfl | simp! [δ,HM,bB,uD,if_pos z0]))).trans ?_
 refine (ah (δ':=δ A .no .no) (S':=S) (aM (Jh (δ:=δ [] .no .no) (b:=b) (acc:=[]) (w:=mW g) rfl rfl (ie rfl (x3 rfl)) (by simp) rfl))).trans ?_
 refine (ah (δ':=δ (A++B) .no .no) (S':=S) (Dk (δ:=δ A .no .no) (b:=b||fE F (uw g)) (acc:=A) (w:=jD nm x) (II (ai rfl) (zK hf (w:=vE g) (ie rfl (x3 rfl)) rfl rfl)) rfl (qd rfl rfl (x2 rfl)) (by omega) rfl)).trans ?_
 have gk:=zU (x:=g) hr
 rw [hv] at gk
 have g1:kt (ab (ac 1)) (ab (av aP (au 3) (dC (.int (3))))) (δ (A++B) .no .no) S=some (.ok (.list ((pO g).map .str)),S):=by
  have v2:ab (ac 1) (δ (A++B) .no .no) S=some (.ok (.ref rm),S):=rfl
  have a3:av aP (au 3) (dC (.int (3))) (δ (A++B) .no .no)=some (.str g):=x3 rfl
  simp only [kt,v2,ai a3,ao,gk,Option.bind_some,hZ,Option.map_some]
 have g2:uT (bU (kt (ab (ac 1)) (ab (av aP (au 3) (dC (.int (3)))))) (bU (ab (av aP (au 3) (dC (.int (4))))) kU)) (δ (A++B) .no .no) S=some (.ok (((pO g).zip ts).map λ p=>.tuple [.str p.1,tw p.2]),S):=by
  have q:=bq g1 (bq (g:=kU) (S1:=S) (S2:=S) (ds:=[]) (ai (x4 (f:=au 3) rfl)) rfl)
  simp only [uT,q,ao,Ey,pX,hZ,Option.map_some]
 exact (ah ((cv g2).trans e)).trans rfl
end
theorem kb:∀ i:Fin 12,decide (dP i=Str.ofString "break")=decide (i=4)/\decide (dP i=Str.ofString "again")=decide (i=5):=by decide +kernel
section
variable {S:ag} {f rm:Nat} {F:List (List aF×W)} {δ:DS}
theorem kA {c:DS->Option Bool} {X:DS->ag->SM Bool} {g k:DS->ag->SO} (h:c δ=some false):aC (bX (k9 (ab c) X) g (aq aw)) k δ S=k δ S:=ah ((bw (zm (ai h))).trans rfl)
theorem kB {c X:DS->Option Bool} {g:DS->Option cY} {k:DS->ag->SO} (h:c δ=some false):aC (aq (bP (ja c X) g aw)) k δ S=k δ S:=ah (aM (aN (b:=false) (Ld h) rfl))
theorem kC {c:DS->Option Bool} {g k:DS->ag->SO} (h:c δ=some false):aC (bX (ab c) g (aq aw)) k δ S=k δ S:=ah ((bw (ai h)).trans rfl)
theorem KU {c:DS->Option Bool} {X:DS->ag->SM Bool} {g k:DS->ag->SO} {b:Bool} {w:W} (h:c δ=some true) (hx:X δ S=some (.ok b,S)) (hg:g δ S=some (.rt (.list [w]),S)) (hk:k δ S=some (.rt (.list []),S)):aC (bX (k9 (ab c) X) g (aq aw)) k δ S=some (.rt (.list (if b=true then [w] else [])),S):=by
 cases b with
 | true=>exact dq ((cU (pS (ai h) hx)).trans hg)
 | false=>exact (ah ((bw (pS (ai h) hx)).trans rfl)).trans hk
theorem Lq {c X:DS->Option Bool} {g:DS->Option cY} {k:DS->ag->SO} {b:Bool} {w:W} (h:c δ=some true) (hx:X δ=some b) (hg:g δ=some (.rt (.list [w]))) (hk:k δ S=some (.rt (.list []),S)):aC (aq (bP (ja c X) g aw)) k δ S=some (.rt (.list (if b=true then [w] else [])),S):=by
 cases b with
 | true=>exact dq (dW (aN (b:=true) (dA h hx) hg))
 | false=>exact (ah (aM (aN (b:=false) (dA h hx) rfl))).trans hk
theorem kW {g:DS->Option W} {w:W} (h:g δ=some w):aT (ba (bm (aa g af))) δ=some (.rt (.list [w])):=by
 have z1:=sz 1 (by decide)
 simp only [aT,ba,bm,iT h (g:=af) (l:=[]) rfl,Option.bind_some,List.length_singleton,if_pos z1,Option.map_some]
noncomputable abbrev B6:DS->Option W:=av aP (au 4) (dC (.int (0)))
noncomputable def Cr (f rm:Nat) (nm:Str) (k:Int) (h:Hd) (ar:List Bk) (b:Bool) (s8:Sl):DS:=[.val (.ref f),.val (.ref rm),.val (.str nm),.val (.tuple [ci k h,fI ar,nT ar]),.val (ci k h),.val (fI ar),.val (nT ar),.val (.bool b),s8]
variable {nm:Str} {pO:Str->List Str} {k:Int} {ar:List Bk} {kv:List (aF×W)} {b:Bool}
theorem w0 {h:Hd} {s8:Sl}:B6 (Cr f rm nm k h ar b s8)=some (.str (dP (aE h))):=x0 rfl
theorem mY {h:Hd} {X:DS->Option Bool} {Z:DS->ag->SM Bool} {g g':DS->Option W} (z:∀ (s8:Sl),ay b8 B6 (dC (.str "return")) (Cr f rm nm k h ar b s8)=some false):aC (aq (fH 8 (bm af))) (aC (aq (bP (ja (ay b8 B6 (dC (.str "return"))) X) (b7 8 g) aw)) (aC (bX (k9 (ab (ay b8 B6 (dC (.str "return")))) Z) (aq (b7 8 g')) (aq aw)) (aq (iJ 8 (aT (ac 8)))))) (Cr f rm nm k h ar b .no) S=some (.rt (.list []),S):=by
 have z0:=sz 0 (by decide)
 refine (ah (δ':=Cr f rm nm k h ar b (.own [])) (S':=S) (aM (by first | rfl | simp! [Cr,uD,if_pos z0]))).trans ?_
 exact (kB (z _)).trans ((kA (z _)).trans rfl)
theorem se (h:∃ b∈ar,eC b=true):nT ar=.int (cO ar):=by
 obtain ⟨b,hb,q⟩:=h
 have:((ar.filter eC).map (·.1))≠[]:=λ z=>by
  have:b∈ar.filter eC:=List.mem_filter.mpr ⟨hb,q⟩
  rw [List.map_eq_nil_iff.mp z] at this
  cases this
 unfold nT cO
 cases hq:((ar.filter eC).map (·.1)).getLast? with
 | none=>exact absurd (List.getLast?_eq_none_iff.mp hq) this
 | some k=>rfl
theorem fc {h:Hd} {fb:DS->ag->SO} {ws:List W} (wr:cg [.ref f,.str nm,fI ar] S=some (.ok (.bool b),S)) (e:fb (Cr f rm nm k h ar b .no) S=some (.rt (.list ws),S)):cB 4 9 (aC (aq (aD (ac 3) (bI 3 (aA (ae 4) (aA (ae 5) (aA (ae 6) bL)))))) (aC (cG (bY cg (ab (aa (ac 0) (aa (ac 2) (aa (ac 5) af))))) (ae 7)) fb)) [.ref f,.ref rm,.str nm,.tuple [ci k h,fI ar,nT ar]] S=some (.ok (.list ws),S):=by
 refine (bi rfl).trans ((congrArg eA (?_:_=some (.rt (.list ws),S))).trans rfl)
 refine (ah (δ':=[.val (.ref f),.val (.ref rm),.val (.str nm),.val (.tuple [ci k h,fI ar,nT ar]),.val (ci k h),.val (fI ar),.val (nT ar),.no,.no]) (S':=S) (aM rfl)).trans ?_
 exact (ah (δ':=Cr f rm nm k h ar b .no) (S':=S) (bt (bM (S1:=S) (ds:=[.ref f,.str nm,fI ar]) rfl wr) rfl)).trans e
theorem BC (hf:S[f]?=some (.dT F)) (hr:S[rm]?=some (.dK kv)) {FN:List Str} (hv:∀ g∈FN,bg kv (Sum.inr g)=some (.list ((pO g).map .str))) (hp:∀ g,(pO g).length<=6) {h:Hd} (hi:GQ FN (k,h,ar)) (c:AU F nm pO (k,h,ar)):∃ ws,gy F ws/\dZ [.ref f,.ref rm,.str nm,.tuple [ci k h,fI ar,nT ar]] S=some (.ok (.list ws),S):=by
 have z0:=sz 0 (by decide)
 obtain ⟨⟨wh,⟨hg1,hg2,hg3⟩,hw⟩,hl⟩:=hi
 have hl:ar.length<=6:=hl
 have wr:=Ej hf nm ar (by omega)
 have wc:wy F nm ar=true->∃ p∈dH nm ar,sN F p.2:=FS
 generalize wy F nm ar=b at wr wc
 let δ (s8:Sl):DS:=Cr f rm nm k h ar b s8
 have te (w:String) {i:Fin 12} (q:decide (dP (aE h)=Str.ofString w)=decide (aE h=i)) (s8:Sl):ay b8 B6 (dC (.str (Str.ofString w))) (δ s8)=some (decide (aE h=i)):=(tD w0).trans (congrArg some q)
 have tset:=te "set" (kq _).2.2.2.2.1
 have tjoin:=te "join" (kq _).2.2.2.2.2
 have tcall:=te "call" (kq _).2.2.2.1
 have tif:=te "if" (kq _).2.1
 have twh:=te "while" (kq _).1
 have tret:=te "return" (kq _).2.2.1
 have tbr:=te "break" (kb _).1
 have tag:=te "again" (kb _).2
 have tiw (s8:Sl):=uj (tif s8) (twh s8)
 have tba (s8:Sl):=uj (tbr s8) (tag s8)
 have own {t:Tr} (ht:gd t 7 30) {g:DS->Option W} {s8:Sl} (hg:g (δ s8)=some (tw t)):iB (bY (aS 9) (ab (aa (ac 0) (aa (ac 2) (aa g af))))) (δ s8) S=some (.ok (lB F nm t),S):=LZ (bM (S1:=S) (ds:=[.ref f,.str nm,tw t]) (ai (sM rfl rfl hg)) (jR hf nm t 9 (by have:=ht.1;omega)))
 have giv' {x:Str} (e:uc h=some x) (z:b=true):fE F (mj nm x)=true:=dG c.way (λ y hy=>List.mem_append.mpr (.inl (by rw [e];exact hy))) (wc z)
 cases h with
 | set x t=>
  refine ⟨_,.ite (kk:=mj nm x) rfl λ z=>?_,fc wr (KU (b:=b||lB F nm t) (w:=jD nm x) (tset _) (II (ai rfl) (own (hg1 t (List.mem_singleton.mpr rfl)) (x3 rfl))) (dW (kW (qd rfl rfl (x2 rfl)))) ((kB (tjoin _)).trans ((kC (tcall _)).trans ((kA (tiw _)).trans ((kB (tba _)).trans (mY tret))))))⟩
  rcases (Bool.or_eq_true _ _).mp z with z | z
  . exact giv' rfl z
  . exact dG c.num (λ y hy=>hy) (nh z)
 | join x j t=>
  refine ⟨_,.ite (kk:=mj nm x) rfl λ z=>?_,fc wr ((kA (tset _)).trans (Lq (b:=b||decide (j=Str.ofString "ahead")) (w:=jD nm x) (tjoin _) (uj rfl (tD (x3 rfl))) (kW (qd rfl rfl (x2 rfl))) ((kC (tcall _)).trans ((kA (tiw _)).trans ((kB (tba _)).trans (mY tret))))))⟩
  rcases (Bool.or_eq_true _ _).mp z with z | z
  . exact giv' rfl z
  . exact dG c.num (kc:=[(.none,[])]) (λ y hy=>by
     show y∈(if _ then _ else _)
     rw [if_pos (of_decide_eq_true z)]
     exact hy) ⟨_,List.mem_singleton.mpr rfl,.inl rfl⟩
 | call x g ts=>
  obtain ⟨hgf,ht⟩:=hg3 x g ts rfl
  obtain ⟨ws,h1,e⟩:=xk hf hr (hv g hgf) (hp g) ht b wc c
  exact ⟨ws,h1,fc wr ((kA (tset _)).trans ((kB (tjoin _)).trans (dq ((cU (ai (tcall _))).trans (cT (bM (S1:=S) (ds:=[.ref f,.ref rm,.str nm,ci k (.call x g ts),.bool b]) rfl e))))))⟩
 | ifs t l=>
  exact ⟨_,.ite (kk:=qQ k) rfl λ z=>dG c.num (λ y hy=>hy) (nh z),fc wr ((kA (tset _)).trans ((kB (tjoin _)).trans ((kC (tcall _)).trans (KU (b:=lB F nm t) (w:=rS k) (tiw _) (own (hg1 t (List.mem_singleton.mpr rfl)) (x2 rfl)) (dW (kW (ie rfl (x1 rfl)))) ((kB (tba _)).trans (mY tret))))))⟩
 | whl t l=>
  exact ⟨_,.ite (kk:=qQ k) rfl λ z=>dG c.num (λ y hy=>hy) (nh z),fc wr ((kA (tset _)).trans ((kB (tjoin _)).trans ((kC (tcall _)).trans (KU (b:=lB F nm t) (w:=rS k) (tiw _) (own (hg1 t (List.mem_singleton.mpr rfl)) (x2 rfl)) (dW (kW (ie rfl (x1 rfl)))) ((kB (tba _)).trans (mY tret))))))⟩
 | brk=>
  have e:=se (hw (hg2 (.inl rfl)))
  exact ⟨_,.ite (w:=.tuple [.str "row", nT ar]) (kk:=qQ (cO ar)) (by rw [e];rfl) λ z=>dG c.way (λ y hy=>List.mem_append.mpr (.inr (List.mem_append.mpr (.inl (by rw [if_pos (.inl rfl)];exact hy))))) (wc z),fc wr ((kA (tset _)).trans ((kB (tjoin _)).trans ((kC (tcall _)).trans ((kA (tiw _)).trans (Lq (b:=b) (tba _) rfl (kW (ie rfl rfl)) (mY tret))))))⟩
 | agn=>
  have e:=se (hw (hg2 (.inr rfl)))
  exact ⟨_,.ite (w:=.tuple [.str "row", nT ar]) (kk:=qQ (cO ar)) (by rw [e];rfl) λ z=>dG c.way (λ y hy=>List.mem_append.mpr (.inr (List.mem_append.mpr (.inl (by rw [if_pos (.inr rfl)];exact hy))))) (wc z),fc wr ((kA (tset _)).trans ((kB (tjoin _)).trans ((kC (tcall _)).trans ((kA (tiw _)).trans (Lq (b:=b) (tba _) rfl (kW (ie rfl rfl)) (mY tret))))))⟩
 | ret t=>
  let A:List W:=if b=true then [mW nm] else []
  let B:List W:=if lB F nm t=true then [vE nm] else []
  have la:A.length<=1:=qM
  refine ⟨A++B,.app (.ite (kk:=o6 nm) rfl λ z=>dG c.way (λ y hy=>List.mem_append.mpr (.inr (List.mem_append.mpr (.inr (List.mem_append.mpr (.inl (by rw [if_pos (show aE (Hd.ret t)=3 from rfl)];exact hy))))))) (wc z)) (.ite (kk:=uw nm) rfl λ z=>dG c.num (λ y hy=>hy) (nh z)),fc wr ((kA (tset _)).trans ((kB (tjoin _)).trans ((kC (tcall _)).trans ((kA (tiw _)).trans ((kB (tba _)).trans ?_)))))⟩
  refine (ah (δ':=δ (.own [])) (S':=S) (aM (by first | rfl | simp! [Cr,δ,uD,if_pos z0]))).trans ?_
  refine (ah (δ':=δ (.own A)) (S':=S) (aM (Jh (δ:=δ (.own [])) (b:=b) (acc:=[]) (w:=mW nm) (dA (tret _) rfl) rfl (ie rfl rfl) (by simp) rfl))).trans ?_
  exact (ah (δ':=δ (.own (A++B))) (S':=S) (Dk (δ:=δ (.own A)) (b:=lB F nm t) (acc:=A) (w:=vE nm) (pS (ai (tret _)) (own (hg1 t (List.mem_singleton.mpr rfl)) (x2 rfl))) rfl (ie rfl rfl) (by omega) rfl)).trans rfl
 | _=>exact ⟨[],.nil,fc wr ((kA (tset _)).trans ((kB (tjoin _)).trans ((kC (tcall _)).trans ((kA (tiw _)).trans ((kB (tba _)).trans (mY tret))))))⟩
end
theorem KH {o:Int} {FN WD:List Str} {wh:Bool} {h:Hd} (hp:PP o FN WD wh h):PP o FN WD true h:=by
 cases h with
 | brk=>rfl
 | agn=>rfl
 | _=>exact hp
theorem GW {o:Int} {FN WD:List Str} (hF:∀ f∈FN,PyData.strOk f=true) (hW:∀ f∈WD,PyData.strOk f=true) {n:Nat} {wh:Bool} {l:List Bk} {c:Nat} (g:jF (PP o FN WD) n wh l c):bZ (cS l)=true/\bC (cS l)<=10+2*n:=by
 have k1:=Fu 10
 have k2:=Fu 11
 refine jF.rec (motive_1:=λ n _ h _ _=>∀ k,gv (ci k h)=true/\cA (ci k h)<=10+2*n) (motive_2:=λ n _ l _ _=>bZ (cS l)=true/\bC (cS l)<=10+2*n) ?_ ?_ ?_ ?_ ?_ ?_ g
 . intro n wh h hp hb k
   have:=D7 hF hW k hb (KH hp)
   exact ⟨this.1,by omega⟩
 . intro n wh t a c hp _ ih k
   have:=iG (show ik o t 7 30 from hp)
   simp [ci,rs,aE,gv,bZ,cA,bC,ih.1,this.1,k2]
   omega
 . intro n wh t a c hp _ ih k
   have:=iG (show ik o t 7 30 from hp)
   simp [ci,rs,aE,gv,bZ,cA,bC,ih.1,this.1,k1]
   omega
 . intro n wh t a b c c' hp _ _ ih ih' k
   have:=iG (show ik o t 7 30 from hp)
   simp [ci,rs,aE,gv,bZ,cA,bC,ih.1,ih'.1,this.1,k1]
   omega
 . exact λ {n wh}=>⟨rfl,Nat.zero_le _⟩
 . intro n wh k h l c c' _ _ i1 i2
   have:=i1 k
   simp [cS,eL,bZ,bC,this.1]
   have i3:bZ (l.map eL)=true/\bC (l.map eL)<=10+2*n:=i2
   exact ⟨i3.1,by omega⟩
theorem xb (ns:List Int) (h:ns.length<=63):∃ (FN:List Str) (qs:List Dq),df [.list (ns.map .int)]=some (.list (qs.map λ q=>d6 q.1))/\(∀ q∈qs,GD FN q/\(∃ sp,uu q.2 sp/\aH 7 [.list (cS q.1.bd),fI [],.none]=some (.list sp))/\PyData.strOk q.1.nm=true)/\(∀ f∈FN,f∈qs.map (·.1.nm))/\iZ qs<=70/\qs.length<=10/\gv (.list (qs.map λ q=>d6 q.1))=true/\cA (.list (qs.map λ q=>d6 q.1))<=64:=by
 have z4:=sz 4 (by decide)
 obtain ⟨c0,ec0⟩:=mS ns 0
 obtain ⟨m0,em0,_⟩:=f9 c0 77 (by decide)
 obtain ⟨c1,ec1⟩:=mS ns 1
 obtain ⟨m1,em1,_⟩:=f9 c1 1 (by decide)
 obtain ⟨N,eN,lN,kN⟩:=tV m1
 let WD:List Str:=[Str.ofString "sum", Str.ofString "most", Str.ofString "least", Str.ofString "ahead"]
 have wo:∀ f∈WD,PyData.strOk f=true:=by decide +kernel
 obtain ⟨o,eo⟩:∃ o:Int,fK [W.int 0,.int 1,.int 3,.int 12] (m0.fmod 4)=some (.int o):=by
  have:=cE m0 (j:=4) (by decide)
  have:m0.fmod 4=0∨m0.fmod 4=1∨m0.fmod 4=2∨m0.fmod 4=3:=by omega
  rcases this with e | e | e | e <;> rw [e] <;> exact ⟨_,rfl⟩
 obtain ⟨ds,ep,dl,dg,dsum⟩:=yk ns h lN kN o (WD:=WD) (by simp [WD]) wo
 obtain ⟨qs,q1,q2,q3⟩:=Ds ds dg dsum
 have ql:qs.length=ds.length:=by have:=congrArg List.length q1;simpa using this
 have pe:(ds.map λ d=>d6 d.1)=qs.map λ q=>d6 q.1:=by
  have:(ds.map λ d=>d6 d.1)=(ds.map (·.1)).map d6:=by simp [List.map_map,Function.comp_def]
  rw [this,<-q1]
  simp [List.map_map,Function.comp_def]
 have fo:∀ f∈ds.map (·.1.nm),PyData.strOk f=true:=λ f hf=>by
  obtain ⟨d,hd,rfl⟩:=List.mem_map.mp hf
  exact (dg d hd).2.2.1
 have each:∀ d∈ds.map λ d=>d6 d.1,gv d=true/\cA d<=60:=λ w hw=>by
  obtain ⟨d,hd,rfl⟩:=List.mem_map.mp hw
  obtain ⟨g,_,n1,p1⟩:=dg d hd
  have b:=GW fo wo g
  have p:=iP p1
  simp [d6,gv,bZ,cA,bC,b.1,p.1,n1]
  omega
 have hn:∀ q∈qs,PyData.strOk q.1.nm=true:=λ q hq=>by
  have:q.1∈ds.map (·.1):=by rw [<-q1];exact List.mem_map_of_mem hq
  obtain ⟨d,hd,e⟩:=List.mem_map.mp this
  rw [<-e]
  exact (dg d hd).2.2.1
 rw [pe] at ep each
 refine ⟨ds.map (·.1.nm),qs,?_,λ q hq=>⟨(q2 q hq).1,(q2 q hq).2.2,hn q hq⟩,λ f hf=>?_,by omega,by omega,i8 λ d hd=>(each d hd).1,?_⟩
 . let scr:W:=.list (ns.map .int)
   have md:=yR m0 (j:=4) (by decide)
   refine aX rfl ?_
   refine ak (δ1:=[.val scr,.val (.int m0),.no]) (aO (hU (AF (hU (AF rfl rfl) ec0) rfl) em0) rfl) ?_
   refine ak (δ1:=[.val scr,.val (.int m0),.val (.list (N.map .str))]) (aO (hU (iT (hU (AF (hU (AF rfl rfl) ec1) rfl) em1) rfl) eN) rfl) ?_
   have l1:ba (bm (aa (dC (.int (0))) (aa (dC (.int (1))) (aa (dC (.int (3))) (aa (dC (.int (12))) af))))) [.val scr,.val (.int m0),.val (.list (N.map .str))]=some (.list [.int 0,.int 1,.int 3,.int 12]):=by first | rfl | simp! [uD,if_pos z4]
   have l2:ba (bm (aa (dC (.str "sum")) (aa (dC (.str "most")) (aa (dC (.str "least")) (aa (dC (.str "ahead")) af))))) [.val scr,.val (.int m0),.val (.list (N.map .str))]=some (.list (WD.map .str)):=by simp! [uD,if_pos z4];rfl
   exact congrArg (Option.map cY.rt) (hU (iT rfl (iT rfl (iT (qA l1 (dO rfl rfl md) eo) (iT l2 (iT rfl rfl))))) ep)
 . have e:ds.map (·.1.nm)=(ds.map (·.1)).map (·.nm):=by simp [List.map_map,Function.comp_def]
   rw [e,<-q1] at hf
   simpa [List.map_map,Function.comp_def] using hf
 . have:=iS λ d hd=>(each d hd).2
   simp only [cA]
   omega
section
variable {S:ag} {f rm:Nat} {F:List (List aF×W)} {kv:List (aF×W)} {FN:List Str} {pO:Str->List Str}
noncomputable def dL (s0 s1:Sl) (f rm:Nat) (s4 s5 s6:Sl):DS:=[s0,s1,.val (.ref f),.val (.ref rm),s4,s5,s6]
theorem rh (hf:S[f]?=some (.dT F)) (s0 s1 s4 s5:Sl):∀ (ws:List W) (s6:Sl),gy F ws->∃ t6,bv (ae 6) vB ws (dL s0 s1 f rm s4 s5 s6) S=some (.nx (dL s0 s1 f rm s4 s5 t6),S)
 | [],s6,_=>⟨s6,rfl⟩
 | w::ws,s6,h=>by
  obtain ⟨kk,hk,hi⟩:=h w (by simp)
  obtain ⟨t6,e⟩:=rh hf s0 s1 s4 s5 ws (.val w) λ x hx=>h x (by simp [hx])
  have c:ig true (ab (ac 6)) (ab (ac 2)) (dL s0 s1 f rm s4 s5 (.val w)) S=some (.ok (!fE F kk),S):=zj hf rfl rfl hk
  rw [hi] at c
  exact ⟨t6,(bx (δ2:=dL s0 s1 f rm s4 s5 (.val w)) (δ':=dL s0 s1 f rm s4 s5 (.val w)) rfl ((bw c).trans rfl)).trans e⟩
theorem wS (hf:S[f]?=some (.dT F)) (hr:S[rm]?=some (.dK kv)) (hv:∀ g∈FN,bg kv (Sum.inr g)=some (.list ((pO g).map .str))) (hp:∀ g,(pO g).length<=6) (s0 s1:Sl) (nm:Str) (aI:List W) {is:List It} {sp:List W} (h:uu is sp):∀ (s5 s6:Sl),(∀ i∈is,GQ FN i/\AU F nm pO i)->∃ t5 t6,bv (ae 5) wb sp (dL s0 s1 f rm (.val (.tuple (.str nm::aI))) s5 s6) S=some (.nx (dL s0 s1 f rm (.val (.tuple (.str nm::aI))) t5 t6),S):=by
 induction h with
 | nil=>exact λ s5 s6 _=>⟨s5,s6,rfl⟩
 | @cons i w is sp hw _ ih=>
  intro s5 s6 ha
  subst hw
  obtain ⟨g,c⟩:=ha i (by simp)
  obtain ⟨ws,h1,e1⟩:=BC hf hr hv hp g c
  let d:W:=.tuple [ci i.1 i.2.1,fI i.2.2,nT i.2.2]
  let s4:Sl:=.val (.tuple (.str nm::aI))
  obtain ⟨u6,e2⟩:=rh (rm:=rm) hf s0 s1 s4 (.val d) ws s6 h1
  obtain ⟨t5,t6,e⟩:=ih (.val d) u6 λ j hj=>ha j (by simp [hj])
  refine ⟨t5,t6,(bx (δ2:=dL s0 s1 f rm s4 (.val d) s6) rfl ((cv (S1:=S) (ds:=ws) ?_).trans e2)).trans e⟩
  have q:bY dZ (ab (aa (ac 2) (aa (ac 3) (aa (av aP (au 4) (dC (.int (0)))) (aa (ac 5) af))))) (dL s0 s1 f rm s4 (.val d) s6) S=some (.ok (.list ws),S):=bM (S1:=S) (ds:=[.ref f,.ref rm,.str nm,d]) (ai (iT rfl (iT rfl (iT (x0 rfl) (iT rfl rfl))))) e1
  simp only [oJ,q,ao]
  rfl
theorem vA (hf:S[f]?=some (.dT F)) (hr:S[rm]?=some (.dK kv)) (hv:∀ g∈FN,bg kv (Sum.inr g)=some (.list ((pO g).map .str))) (hp:∀ g,(pO g).length<=6) (s0 s1:Sl):∀ (qs:List Dq) (s4 s5 s6:Sl),(∀ q∈qs,GD FN q/\(∃ sp,uu q.2 sp/\aH 7 [.list (cS q.1.bd),fI [],.none]=some (.list sp))/\∀ x∈uf pO q,sN F x.1->fE F x.2.2.1=true)->∃ t4 t5 t6,bv (ae 4) vQ (qs.map λ q=>d6 q.1) (dL s0 s1 f rm s4 s5 s6) S=some (.nx (dL s0 s1 f rm t4 t5 t6),S)
 | [],s4,s5,s6,_=>⟨s4,s5,s6,rfl⟩
 | q::qs,s4,s5,s6,h=>by
  obtain ⟨g,⟨sp,hs,es⟩,c⟩:=h q (by simp)
  let d:Sl:=.val (d6 q.1)
  obtain ⟨u5,u6,e1⟩:=wS hf hr hv hp s0 s1 q.1.nm [.list (q.1.ps.map .str),.list (cS q.1.bd),.int q.1.ln,.int q.1.la] hs s5 s6 λ i hi=>⟨g.it i hi,λ x hx=>c x (List.mem_append.mpr (.inr (List.mem_flatMap.mpr ⟨i,hi,hx⟩)))⟩
  obtain ⟨t4,t5,t6,e2⟩:=vA hf hr hv hp s0 s1 qs d u5 u6 λ r hr=>h r (by simp [hr])
  have c1:ig false (ab (aG (aa (dC (.str "def")) (aa (av aP (au 4) (dC (.int (0)))) af)))) (ab (ac 2)) (dL s0 s1 f rm d s5 s6) S=some (.ok (fE F (o6 q.1.nm)),S):=zK hf (w:=mW q.1.nm) (ie rfl (x0 rfl)) rfl rfl
  have c2:ig true (ab (aG (aa (dC (.str "back")) (aa (av aP (au 4) (dC (.int (0)))) af)))) (ab (ac 2)) (dL s0 s1 f rm d s5 s6) S=some (.ok (!fE F (uw q.1.nm)),S):=zj hf (w:=vE q.1.nm) (ie rfl (x0 rfl)) rfl rfl
  have c3:k9 (ig false (ab (aG (aa (dC (.str "def")) (aa (av aP (au 4) (dC (.int (0)))) af)))) (ab (ac 2))) (ig true (ab (aG (aa (dC (.str "back")) (aa (av aP (au 4) (dC (.int (0)))) af)))) (ab (ac 2))) (dL s0 s1 f rm d s5 s6) S=some (.ok false,S):=by
   cases hb:fE F (o6 q.1.nm) with
   | false=>rw [hb] at c1;exact zm c1
   | true=>
    rw [hb] at c1
    have:fE F (uw q.1.nm)=true:=dG c (kc:=[(mW q.1.nm,o6 q.1.nm)]) (λ y hy=>List.mem_append.mpr (.inl hy)) ⟨_,List.mem_singleton.mpr rfl,.inr hb⟩
    rw [this] at c2
    exact pS c1 c2
  refine ⟨t4,t5,t6,(bx (δ2:=dL s0 s1 f rm d s5 s6) rfl ((ah (δ':=dL s0 s1 f rm d s5 s6) (S':=S) ((bw c3).trans rfl)).trans ((cv (S1:=S) (ds:=sp) (ai ?_)).trans e1))).trans e2⟩
  have c:aU (aH 7) (aa (av aP (au 4) (dC (.int (2)))) (aa (ba (bm af)) (aa (dC .none) af))) (dL s0 s1 f rm d s5 s6)=some (.list sp):=hU (sM (x2 rfl) rfl rfl) es
  unfold bz
  rw [c]
  rfl
theorem wp (s0 s1 s5 s6:Sl):∀ (qs:List uL) (S:ag) (kv:List (aF×W)) (g:Str->List Str) (seen:List Str) (s4:Sl),S[rm]?=some (.dK kv)->(∀ x∈seen,bg kv (Sum.inr x)=some (.list ((g x).map .str)))->kv.length+qs.length<900->∃ S' kv' t4,bv (ae 4) pU (qs.map d6) (dL s0 s1 f rm s4 s5 s6) S=some (.nx (dL s0 s1 f rm t4 s5 s6),S')/\S'[rm]?=some (.dK kv')/\(∀ m o,m≠rm->S[m]?=some o->S'[m]?=some o)/\∀ x,x∈seen∨x∈qs.map (·.nm)->bg kv' (Sum.inr x)=some (.list ((qS qs g x).map .str))
 | [],S,kv,g,seen,s4,hr,hs,_=>⟨S,kv,s4,rfl,hr,λ _ _ _ z=>z,λ x hx=>hs x (hx.resolve_right (by simp))⟩
 | q::qs,S,kv,g,seen,s4,hr,hs,hl=>by
  simp only [List.length_cons] at hl
  have hz:kv.length<sizeLine:=Nat.lt_of_lt_of_le (by omega) (sz 900 (by decide))
  have pl:=oU kv (Sum.inr q.nm) (W.list (q.ps.map .str))
  have pa:pT (.ref rm) (.str q.nm) (.list (q.ps.map .str)) S=some (S.set rm (.dK (cV kv (Sum.inr q.nm) (.list (q.ps.map .str))))):=by simp [pT,eQ,hr,nQ,hz]
  obtain ⟨S',kv',t4,e,h1,h2,h3⟩:=wp s0 s1 s5 s6 qs (S.set rm (.dK (cV kv (Sum.inr q.nm) (.list (q.ps.map .str))))) (cV kv (Sum.inr q.nm) (.list (q.ps.map .str))) (λ x=>if x=q.nm then q.ps else g x) (q.nm::seen) (.val (d6 q)) (set_eq' hr) (λ x hx=>by
   rw [wA]
   by_cases hq:x=q.nm
   . simp [hq]
   . have:x∈seen:=(List.mem_cons.mp hx).resolve_left hq
     simp [hq,hs x this]) (by omega)
  refine ⟨S',kv',t4,(bx (δ2:=dL s0 s1 f rm (.val (d6 q)) s5 s6) (δ':=dL s0 s1 f rm (.val (d6 q)) s5 s6) (S':=S.set rm (.dK (cV kv (Sum.inr q.nm) (.list (q.ps.map .str))))) rfl ?_).trans e,h1,λ m o hm ho=>h2 m o hm (set_ne' ho (Ne.symm hm)),λ x hx=>h3 x ?_⟩
  . have a0:ab (av aP (au 4) (dC (.int (0)))) (dL s0 s1 f rm (.val (d6 q)) s5 s6) S=some (.ok (.str q.nm),S):=ai (x0 rfl)
    have a1:ab (av aP (au 4) (dC (.int (1)))) (dL s0 s1 f rm (.val (d6 q)) s5 s6) S=some (.ok (.list (q.ps.map .str)),S):=ai (x1 rfl)
    have a2:ab (ac 3) (dL s0 s1 f rm (.val (d6 q)) s5 s6) S=some (.ok (.ref rm),S):=rfl
    simp only [pU,jB,a0,a1,a2,jm,ao,pa,Option.map_some]
  . rcases hx with hx | hx
    . exact .inl (by simp [hx])
    . rw [List.map_cons] at hx
      rcases List.mem_cons.mp hx with rfl | hx
      . exact .inl (by simp)
      . exact .inr hx
end
theorem Ay (ns:List Int) (h:ns.length<=63):∃ S,w6 [.list (ns.map .int)] []=some (.ok (.bool true),S):=by
 obtain ⟨FN,qs,ep,hq,hf,hc,hl,po,pd⟩:=xb ns h
 have hg:∀ q∈qs,GD FN q:=λ q h=>(hq q h).1
 obtain ⟨S1,f,e1,h1,_⟩:=xy (D0:=λ _=>none) qs [] hg hf hc hl (λ _ _ z=>by cases z)
 have cl:=Iq qs hg hc
 generalize FF qs=F at h1 cl
 have hp:∀ f,(qS (qs.map (·.1)) (λ _=>[]) f).length<=6:=jV _ _ (λ q hm=>by obtain ⟨r,hr,rfl⟩:=List.mem_map.mp hm;exact (hg r hr).ps) (λ f=>by simp)
 let scr:Sl:=.val (.list (ns.map .int))
 let pr:W:=.list (qs.map λ q=>d6 q.1)
 let sp:Sl:=.val pr
 let S2:ag:=S1++[.dK []]
 have fl:f<S1.length:=(oG h1).1
 obtain ⟨S3,kv,u4,e3,r3,k3,v3⟩:=wp (f:=f) (rm:=S1.length) scr sp .no .no (qs.map (·.1)) S2 [] (λ _=>[]) [] .no (bO _ _) (λ x hx=>absurd hx List.not_mem_nil) (by simp;omega)
 have h3:=k3 f _ (by omega) (aW h1)
 rw [List.map_map] at e3
 have hv:∀ g∈FN,bg kv (Sum.inr g)=some (.list ((qS (qs.map (·.1)) (λ _=>[]) g).map .str)):=λ g hg=>v3 g (.inr (by
  have:=hf g hg
  rw [List.map_map]
  exact this))
 have hd:∀ q∈qs,GD FN q/\(∃ sp,uu q.2 sp/\aH 7 [.list (cS q.1.bd),fI [],.none]=some (.list sp))/\∀ x∈uf (qS (qs.map (·.1)) λ _=>[]) q,sN F x.1->fE F x.2.2.1=true:=λ q h=>⟨hg q h,(hq q h).2.1,λ x hx=>cl x (List.mem_flatMap.mpr ⟨q,h,hx⟩)⟩
 generalize qS (qs.map (·.1)) (λ _=>[])=pO at hv hd hp
 obtain ⟨t4,t5,t6,e4⟩:=vA h3 r3 hv hp scr sp qs u4 .no .no hd
 refine ⟨S3,?_⟩
 unfold w6
 refine (bi rfl).trans ((congrArg eA (?_:_=some (.rt (.bool true),S3))).trans rfl)
 refine (ah (δ':=[scr,sp,.no,.no,.no,.no,.no]) (S':=[]) (aM (aO (hU (iT rfl rfl) ep) rfl))).trans ?_
 refine (ah (δ':=[scr,sp,.val (.ref f),.no,.no,.no,.no]) (S':=S1) (bt (bM (S1:=[]) (ds:=[pr]) rfl e1) rfl)).trans ?_
 refine (ah (δ':=[scr,sp,.val (.ref f),.no,.no,.no,.no]) (S':=S1) ((bw (S1:=S1) ?_).trans rfl)).trans ?_
 . have i1:JC (.ref f) S1=some true:=by simp [JC,eQ,h1]
   have v3:ab (ac 2) [scr,sp,.val (.ref f),.no,.no,.no,.no] S1=some (.ok (.ref f),S1):=rfl
   have d1:aU df (aa (ac 0) af) [scr,sp,.val (.ref f),.no,.no,.no,.no]=some pr:=hU (iT rfl rfl) ep
   have c1:ab (ay qP (au 1) (aU df (aa (ac 0) af))) [scr,sp,.val (.ref f),.no,.no,.no,.no] S1=some (.ok false,S1):=ai (A8 rfl d1 (yY po pd))
   simp only [BP,pA,iB,y2,v3,ao,i1,Option.map_some,hZ,iC]
   exact c1
 refine (ah (δ':=dL scr sp f S1.length .no .no .no) (S':=S2) (bt rfl rfl)).trans ?_
 refine (ah ((cv (S1:=S2) (ds:=qs.map λ q=>d6 q.1) rfl).trans e3)).trans ?_
 exact (ah ((cv (S1:=S3) (ds:=qs.map λ q=>d6 q.1) rfl).trans e4)).trans rfl
theorem GV {α:Type} {P:List α->Prop} {n:Nat} (h:∀ a us,us.length=n->P (a::us)):∀ us:List α,us.length=n+1->P us:=λ us hl=>by
 cases us with
 | nil=>cases hl
 | cons a us=>exact h a us (Nat.succ.inj hl)
theorem ML {α:Type} {P:List α->Prop} (h:P []):∀ us:List α,us.length=0->P us:=λ us hl=>by
 cases us with
 | nil=>exact h
 | cons a us=>cases hl
theorem Ap {α:Type} {P:List α->Prop} (h:∀ a0,P [a0]):∀ us:List α,us.length=1->P us:=GV λ a us hl=>ML (P:=λ l=>P (a::l)) (h a) us hl
theorem Gn {α:Type} {P:List α->Prop} (h:∀ a0 a1,P [a0,a1]):∀ us:List α,us.length=2->P us:=GV λ a us hl=>Ap (P:=λ l=>P (a::l)) (h a) us hl
theorem xX {α:Type} {P:List α->Prop} (h:∀ a0 a1 a2,P [a0,a1,a2]):∀ us:List α,us.length=3->P us:=GV λ a us hl=>Gn (P:=λ l=>P (a::l)) (h a) us hl
theorem HS {α:Type} {P:List α->Prop} (h:∀ a0 a1 a2 a3,P [a0,a1,a2,a3]):∀ us:List α,us.length=4->P us:=GV λ a us hl=>xX (P:=λ l=>P (a::l)) (h a) us hl
theorem JH {α:Type} {P:List α->Prop} (h:∀ a0 a1 a2 a3 a4,P [a0,a1,a2,a3,a4]):∀ us:List α,us.length=5->P us:=GV λ a us hl=>HS (P:=λ l=>P (a::l)) (h a) us hl
set_option maxHeartbeats 0 in
theorem all_mk {l:PySem.W.OpenLaw} {w:World} {K:Frag} {h:Heap} {mg:Str->Option Value} {fa:Addr} (X:K.In h) (G:h.Ns mainGlobals mg) (hfa:mg "law" = some (.ref fa)) {c_Links:Addr} {GO:Addr} {oT1:Obj} {nT1:Nat} {f4:Addr} {od4 an4:Option Addr} {sl4:Array (Option Value)} {oc4 kV4 dc4 pm4 cd4 ct4:Value} {f5:Addr} {od5 an5:Option Addr} {sl5:Array (Option Value)} {oc5 kV5 dc5 pm5 cd5 ct5:Value} {a_WORKINGS:Addr} {o_WORKINGS:Obj}
 (mm_Links:PySem.W.nsIn K mainGlobals "Links" = some (some (.ref c_Links)))
 (a0:An K "bodies_of" lh .none)
 (a1:An K "placed" nW (.ref GO))
 (lT1:K.lookup GO=some oT1)
 (hT1:oT1.data=.seq #[.none] nT1)
 (a2:An K "given_by" mZ .none)
 (a3:An K "leaves_of" lA .none)
 (a4:PySem.W.findIn K (.ref c_Links) "__init__" = some (some (.ref f4)))
 (ifn4:PySem.W.isFn K (.ref f4)=true)
 (l4:K.lookup f4=some ⟨oc4,od4,.func (PySem.W.fnOf "__init__" "Links.__init__" (dt cz) (cP cz) (bn cz) .none kV4 dc4 pm4 an4 cd4 ct4),sl4⟩)
 (c4:PySem.W.codeIn K cd4 "Links.__init__" = true)
 (k4:PySem.W.keepIn K (.ref f4)=true)
 (a5:PySem.W.findIn K (.ref c_Links) "add" = some (some (.ref f5)))
 (ifn5:PySem.W.isFn K (.ref f5)=true)
 (l5:K.lookup f5=some ⟨oc5,od5,.func (PySem.W.fnOf "add" "Links.add" (dt eJ) (cP eJ) (bn eJ) .none kV5 dc5 pm5 an5 cd5 ct5),sl5⟩)
 (c5:PySem.W.codeIn K cd5 "Links.add" = true)
 (k5:PySem.W.keepIn K (.ref f5)=true)
 (a6:An K "way_of" sI .none)
 (a7:An K "causes_of" lc .none)
 (a8:An K "link_way" nA .none)
 (a9:An K "link_numbers" iD .none)
 (a10:An K "link_call" lD .none)
 (a11:An K "links_of" mU .none)
 (a12:An K "marks" vX .none)
 (a13:An K "_law_cell_at" iF .none)
 (a14:An K "_law_spread" jk .none)
 (a15:An K "_law_names" jL .none)
 (a16:An K "_law_leaf" lF .none)
 (a17:An K "_law_beside" ji .none)
 (a18:An K "_law_expression" fR .none)
 (a19:An K "_law_call" lL .none)
 (a20:An K "_law_op" pz .none)
 (a21:An K "_law_closed_up" fZ .none)
 (a22:An K "_law_may_stand" gD .none)
 (a23:An K "_law_laid" lr .none)
 (a24:An K "_law_rooms" jU .none)
 (a25:An K "_law_variables" gf .none)
 (a26:An K "_law_program" iu .none)
 (a27:An K "_law_spots" kG .none)
 (a28:An K "_law_is_own" jn .none)
 (a29:An K "_law_on_own_way" fQ .none)
 (a30:An K "_law_drawn" jP .none)
 (a31:An K "_law_due_of_call" fz .none)
 (a32:An K "_law_due_by" jd .none)
 (a33:An K "law" sA .none)
 (pg_Links:PySem.W.plainGet K c_Links Str.empty=true)
 (hd_Links:PySem.W.hasDictIn K c_Links=true)
 (po_Links:PySem.W.plainOver K c_Links=true)
 (sa_Links:PySem.W.findIn K (.ref c_Links) "__setattr__" = some (some (.builtin "object.__setattr__")))
 (mk_Links:PySem.W.makesIn K c_Links=true)
 (kc_Links:PySem.W.keepIn K (.ref c_Links)=true)
 (nn_Links_behind:PySem.W.findIn K (.ref c_Links) "behind" = some none)
 (zz_any:PySem.W.nsIn K mainGlobals "any" = some none)
 (zz_dict:PySem.W.nsIn K mainGlobals "dict" = some none)
 (zz_enumerate:PySem.W.nsIn K mainGlobals "enumerate" = some none)
 (zz_isinstance:PySem.W.nsIn K mainGlobals "isinstance" = some none)
 (zz_len:PySem.W.nsIn K mainGlobals "len" = some none)
 (zz_list:PySem.W.nsIn K mainGlobals "list" = some none)
 (zz_range:PySem.W.nsIn K mainGlobals "range" = some none)
 (zz_zip:PySem.W.nsIn K mainGlobals "zip" = some none)
 (mm_WORKINGS:PySem.W.nsIn K mainGlobals "WORKINGS" = some (some (.ref a_WORKINGS)))
 (lk_WORKINGS:K.lookup a_WORKINGS=some o_WORKINGS)
 (lc_WORKINGS:o_WORKINGS.cls=.type "tuple")
 (lt_WORKINGS:ur o_WORKINGS [(Str.ofString "+"),(Str.ofString "-"),(Str.ofString "*"),(Str.ofString "div"),(Str.ofString "rem"),(Str.ofString "<"),(Str.ofString "=")]=true):
 ∃ fd:FuncData,(∀ (s:Shared) (v:Value),BindsTo s fd ⟨[v],[]⟩ [("_law_script", v)])/\∀ base:Heap,K.In base->base.Ns mainGlobals mg->ez l.prog w K mg base Dc 14 fa fd ["_law_script"] (p8 K):=by
 have m_Links:mg "Links" = some (.ref ((mT c_Links) "Links")):=by rw [g7];exact PySem.W.mg_of X G mm_Links
 obtain ⟨f1,_,_,_,_,_,_,_,_,_,m1,l1,c1,k1⟩:=a1
 have D_placed:zQ (Eb K mg "placed" ["body", "around"] [.none]) K "placed" "placed" nW:=⟨_,_,jW l1 c1 k1,PySem.W.mg_of X G m1,k1,(λ s us Xs hl=>Gn (P:=λ us=>BindsTo s _ ⟨us,[]⟩ (List.zip _ (us++_))) (λ _ _=>PySem.W.binds_K Xs rfl lT1 hT1 rfl rfl) us (by simpa using hl)),(λ s us Xs hl=>Ap (P:=λ us=>BindsTo s _ ⟨us,[]⟩ (List.zip _ (us++_))) (λ _=>PySem.W.binds_K Xs rfl lT1 hT1 rfl rfl) us (by simpa using hl))⟩
 have b_Links___init__:=(tL (st:=cz) l4 c4 k4).binds (ps:=["self"]) (λ _ _ _ _ _ _=>Ap λ _=>rfl)
 have b_Links_add:=(tL (st:=eJ) l5 c5 k5).binds (ps:=["self", "causes", "key", "line"]) (λ _ _ _ _ _ _=>HS λ _ _ _ _=>rfl)
 have mt_Links_add:yC K ((mT c_Links) "Links") "add" f5:=by rw [g7];exact ⟨a5,ifn5,k5⟩
 have cl_Links:qT K ((mT c_Links) "Links"):=by rw [g7];exact ⟨pg_Links,hd_Links,po_Links,sa_Links⟩
 have n_Links_behind:dh K ((mT c_Links) "Links") "behind" := by rw [g7];exact nn_Links_behind
 have M_Links:Mk K ((mT c_Links) "Links") f4:=by rw [g7];exact ⟨mk_Links,a4,ifn4,kc_Links⟩
 have z_any:=PySem.W.mg_none_of X G zz_any
 have z_dict:=PySem.W.mg_none_of X G zz_dict
 have z_enumerate:=PySem.W.mg_none_of X G zz_enumerate
 have z_isinstance:=PySem.W.mg_none_of X G zz_isinstance
 have z_len:=PySem.W.mg_none_of X G zz_len
 have z_list:=PySem.W.mg_none_of X G zz_list
 have z_range:=PySem.W.mg_none_of X G zz_range
 have z_zip:=PySem.W.mg_none_of X G zz_zip
 have m_WORKINGS:=PySem.W.mg_of X G mm_WORKINGS
 have g_WORKINGS:∀ G,eK K G a_WORKINGS (([(Str.ofString "+"),(Str.ofString "-"),(Str.ofString "*"),(Str.ofString "div"),(Str.ofString "rem"),(Str.ofString "<"),(Str.ofString "=")]).map V.str):=λ _=>xg lk_WORKINGS lc_WORKINGS lt_WORKINGS
 obtain ⟨_,_,_,kV,dc,pm,an,cd,ct,_,ml,ll,cL,kL⟩:=a33
 cases hfa.symm.trans (PySem.W.mg_of X G ml)
 refine ⟨PySem.W.fnOf "law" "law" (dt sA) (cP sA) (bn sA) .none kV dc pm an cd ct,λ s v=>.of_eq rfl,λ base _ _=>?_⟩
 have C_bodies_of:=qI (P:=l.prog) (w:=w) (base:=base) (a0.dn X G (λ _ _ _ _ _ _=>Ap λ _=>rfl))
 have C_placed:=xC D_placed C_bodies_of
 have C_given_by:=rX (P:=l.prog) (w:=w) (base:=base) (a2.dn X G (λ _ _ _ _ _ _=>Ap λ _=>rfl))
 have C_leaves_of:=qo (P:=l.prog) (w:=w) (base:=base) (a3.dn X G (λ _ _ _ _ _ _=>Ap λ _=>rfl)) m_WORKINGS g_WORKINGS
 have C_Links___init__:=ka (P:=l.prog) (w:=w) (base:=base) (cl:=(mT c_Links)) ⟨_,_,jW l4 c4 k4,M_Links,b_Links___init__⟩ m_Links cl_Links n_Links_behind
 have C_Links_add:=pB (P:=l.prog) (w:=w) (base:=base) (cl:=(mT c_Links)) ⟨_,_,jW l5 c5 k5,mt_Links_add,b_Links_add⟩ m_Links cl_Links n_Links_behind
 have C_way_of:=xv (P:=l.prog) (w:=w) (base:=base) (a6.dn X G (λ _ _ _ _ _ _=>Gn λ _ _=>rfl))
 have C_causes_of:=pJ (a7.dn X G (λ _ _ _ _ _ _=>Gn λ _ _=>rfl)) C_leaves_of
 have C_link_way:=sn (cl:=(mT c_Links)) (a8.dn X G (λ _ _ _ _ _ _=>HS λ _ _ _ _=>rfl)) C_way_of C_given_by C_Links_add m_Links cl_Links n_Links_behind
 have C_link_numbers:=lW (cl:=(mT c_Links)) (a9.dn X G (λ _ _ _ _ _ _=>xX λ _ _ _=>rfl)) C_Links_add C_causes_of m_Links cl_Links n_Links_behind
 have C_link_call:=pC (cl:=(mT c_Links)) (a10.dn X G (λ _ _ _ _ _ _=>HS λ _ _ _ _=>rfl)) C_Links_add C_causes_of m_Links cl_Links n_Links_behind z_zip
 have C_links_of:=rJ (cl:=(mT c_Links)) (a11.dn X G (λ _ _ _ _ _ _=>Ap λ _=>rfl)) C_Links___init__ C_Links_add C_link_way C_link_numbers C_link_call C_placed m_Links cl_Links n_Links_behind
 have C_marks:=y4 (cl:=(mT c_Links)) (a12.dn X G (λ _ _ _ _ _ _=>Ap λ _=>rfl)) C_links_of m_Links cl_Links n_Links_behind
 have C__law_cell_at:=lY (P:=l.prog) (w:=w) (base:=base) (a13.dn X G (λ _ _ _ _ _ _=>Gn λ _ _=>rfl)) z_len
 have C__law_spread:=n6 (P:=l.prog) (w:=w) (base:=base) (a14.dn X G (λ _ _ _ _ _ _=>Gn λ _ _=>rfl))
 have C__law_names:=nZ (P:=l.prog) (w:=w) (base:=base) (a15.dn X G (λ _ _ _ _ _ _=>Ap λ _=>rfl)) z_range z_len
 have C__law_leaf:=qC (P:=l.prog) (w:=w) (base:=base) (a16.dn X G (λ _ _ _ _ _ _=>xX λ _ _ _=>rfl))
 have C__law_beside:=mV (a17.dn X G (λ _ _ _ _ _ _=>xX λ _ _ _=>rfl)) C__law_leaf
 have C__law_expression:=ju (a18.dn X G (λ _ _ _ _ _ _=>xX λ _ _ _=>rfl)) C__law_leaf C__law_spread C__law_beside z_range
 have C__law_call:=qw (a19.dn X G (λ _ _ _ _ _ _=>JH λ _ _ _ _ _=>rfl)) C__law_expression z_len z_range
 have C__law_op:=uB (a20.dn X G (λ _ _ _ _ _ _=>JH λ _ _ _ _ _=>rfl)) C__law_expression C__law_call z_len
 have C__law_closed_up:=k8 (P:=l.prog) (w:=w) (base:=base) (cl:=(mT c_Links)) (a21.dn X G (λ _ _ _ _ _ _=>Ap λ _=>rfl))
 have C__law_may_stand:=ke (P:=l.prog) (w:=w) (base:=base) (cl:=(mT c_Links)) (a22.dn X G (λ _ _ _ _ _ _=>xX λ _ _ _=>rfl)) z_any z_len
 have C__law_laid:=qJ (cl:=(mT c_Links)) (a23.dn X G (λ _ _ _ _ _ _=>xX λ _ _ _=>rfl)) C__law_may_stand C__law_closed_up
 have C__law_rooms:=oi (P:=l.prog) (w:=w) (base:=base) (a24.dn X G (λ _ _ _ _ _ _=>xX λ _ _ _=>rfl)) z_range
 have C__law_variables:=kF (P:=l.prog) (w:=w) (base:=base) (a25.dn X G (λ _ _ _ _ _ _=>Gn λ _ _=>rfl)) z_list
 have C__law_program:=lX (cl:=(mT c_Links)) (a26.dn X G (λ _ _ _ _ _ _=>JH λ _ _ _ _ _=>rfl)) C__law_spread C__law_cell_at C__law_variables C__law_rooms C__law_op C__law_laid z_len z_enumerate z_list
 have C__law_spots:=og (P:=l.prog) (w:=w) (base:=base) (a27.dn X G (λ _ _ _ _ _ _=>xX λ _ _ _=>rfl))
 have C__law_is_own:=nG (P:=l.prog) (w:=w) (base:=base) (cl:=(mT c_Links)) (a28.dn X G (λ _ _ _ _ _ _=>xX λ _ _ _=>rfl)) z_any
 have C__law_on_own_way:=jy (P:=l.prog) (w:=w) (base:=base) (cl:=(mT c_Links)) (a29.dn X G (λ _ _ _ _ _ _=>xX λ _ _ _=>rfl)) z_any
 have C__law_drawn:=oe (a30.dn X G (λ _ _ _ _ _ _=>Ap λ _=>rfl)) C__law_spread C__law_cell_at C__law_names C__law_program
 have C__law_due_of_call:=jb (cl:=(mT c_Links)) (a31.dn X G (λ _ _ _ _ _ _=>JH λ _ _ _ _ _=>rfl)) C__law_is_own z_zip
 have C__law_due_by:=nY (cl:=(mT c_Links)) (a32.dn X G (λ _ _ _ _ _ _=>HS λ _ _ _ _=>rfl)) C__law_on_own_way C__law_is_own C__law_due_of_call
 obtain ⟨_,_,⟨rfl,rfl⟩,F⟩:=Fo (cl:=(mT c_Links)) (R:=λ g gd=>g=fa/\gd=_) Ay ⟨_,_,jW ll cL kL,rfl,rfl⟩ C__law_drawn C_marks C__law_due_by C__law_spots z_isinstance z_dict
 exact F
theorem walk {l:PySem.W.OpenLaw} {q:Program} {loose:List Str} {XP:(Str->Option Value)->Heap->Prop} {YP:World->Heap->Prop} {d:DefRec} {K:Params->Frag} (hn:l.most=some 63) (hdf:d.params.defaults=[])
 (hY:∀ (w:World) (h:Heap),YP w h->(K w.params).In h)
 (F:∀ (w:World) (mg:Str->Option Value) (fa:Addr) (h:Heap),(K w.params).In h->h.Ns mainGlobals mg->mg d.name=some (.ref fa)->
  ∃ fd:FuncData,(∀ (s:Shared) (u:Value),BindsTo s fd ⟨[u],[]⟩ [("_law_script", u)])/\∀ base:Heap,(K w.params).In base->base.Ns mainGlobals mg->ez l.prog w (K w.params) mg base Dc 14 fa fd ["_law_script"] (p8 (K w.params))):
 PySem.W.WalkO q loose XP YP l.row.toRowW d [] (λ f vs=>PySem.call f vs):=
 L2.walk_of (n:=63) (k:=14) (x := "_law_script") (CX:=λ _=>Dc) (sp:=λ w=>(p8 (K w.params))) hn (by decide) hdf ⟨rfl,by decide,by decide⟩ hY F (λ _ _ a ns hl _ hS=>⟨a,ns,rfl,hS,hl,λ _=>rfl⟩) λ _ _ _ _ _ z=>z
theorem toX {q:Program} {loose:List Str} {XP:(Str->Option Value)->Heap->Prop} {r:PySem.W.RowW} {d:DefRec} {kwd:List (Str×Expr)} {run:Value->List Value->Sem Value} {K:Params->Frag} {as:List Addr} {n t:Nat} (e:∀ P,as=(K P).map (·.1))
 (h:PySem.W.WalkO q loose XP (λ w h=>(K w.params).In h) r d kwd run):PySem.W.WalkX q loose XP (PySem.W.X.obsZ as) (PySem.W.X.valZ K n t) r d kwd run:=
 λ w s0 s1 mg mb G y a o pm cd doc dV kV h1 h2 h3 h4 h5 h6 args vals as' L hp hl hr hw ho=>h w s0 s1 mg mb G (PySem.W.InK.keeps w s0.heap s1.heap (PySem.W.X.z_facts e y).2.1 L.keeps) a o pm cd doc dV kV h1 h2 h3 h4 h5 h6 args vals as' hp hl hr hw ho
end My
open PySem PySem.W PyProof.Rows
def Sp.k {α : Type} (x : α) (t : True) : α := x
local macro_rules
 | `(command| universe $z) => do
  let F (s : String) (n : Lean.Name) := Lean.mkIdent (`PySem.W.Fast ++ .mkSimple s!"{s}{n.hash}")
  let mut a := #[]
  let mut u := #[]
  let mut b := #[]
  let mut d := #[]
  let p := Lean.mkIdent `PySem.Challenge.pw_widelanes_k12_marks_are_closed
  for k in [0:39] do
   let c := .mkStr2 "Sp" s!"c{k}"
   let l := .mkStr2 "Sp" s!"l{k}"
   let C := Lean.mkIdent c
   let M := Lean.mkIdent l
   let (T, e) <- if k < 38 then pure (<- `(Stmt), <- `(($p).main.body.getD $(Lean.quote k) (.Pass ⟨0, 0, 0, 0⟩))) else pure (<- `(Scope), <- `(($p).main.scope))
   a := (a.push (<- `(command| def $C : $T := $e))).push (<- `(command| noncomputable def $M : $T := by
    refine Sp.k ?x ?t
    case t =>
     have h : $C = ?x := by conv => lhs; whnf
     exact trivial))
   u := u.push M
   b := b.push C
   d := (d.push (<- `(command| noncomputable def $(F "tw" c) : $T := $(F "tw" l)))).push (<- `(command| theorem $(F "te" c) : $C = $(F "tw" c) := $(F "te" l)))
  let q := b.pop
  let s := b.back!
  return Lean.mkNullNode (((a.push (<- `(command| lay_quick $u*))) ++ d).push (<- `(command| def $(Lean.mkIdent `Sp.p) : Program := { main := { body := [$q,*], scope := $s, futureAnnotations := false, file := "/claim/cut.py", more := [] }, modules := [], parses := [], absent := [], harvested := [], given := { argv := [], stdin := [], environ := (some [([76, 67, 95, 65, 76, 76], [67, 46, 85, 84, 70, 45, 56])]) } })))
universe u
set_option maxRecDepth 100000 in
set_option maxHeartbeats 0 in
theorem PySem.Challenge.cw_widelanes_k12_marks_are_closed_holds : PySem.Challenge.rw_widelanes_k12_marks_are_closed.Holds := by
 show OpenLaw.Holds { prog := Sp.p, name := "law", about := ["marks"], foot := 21, most := some 63, bound := none, writes := false }
 w_on; o_law;z_head;(case hw=>w_witness2)
 refine My.toX (λ _=>rfl) (My.walk (l:={ prog := Sp.p, name := "law", about := ["marks"], foot := 21, most := some 63, bound := none, writes := false }) rfl rfl (λ w h Y=>Y) ?F)
 case F=>
  intro w mg fa h KX G hmg
  refine' My.all_mk KX G hmg ?mm_Links ?a0 ?a1 ?lT1 ?hT1 ?a2 ?a3 ?a4 ?ifn4 ?l4 ?c4 ?k4 ?a5 ?ifn5 ?l5 ?c5 ?k5 ?a6 ?a7 ?a8 ?a9 ?a10 ?a11 ?a12 ?a13 ?a14 ?a15 ?a16 ?a17 ?a18 ?a19 ?a20 ?a21 ?a22 ?a23 ?a24 ?a25 ?a26 ?a27 ?a28 ?a29 ?a30 ?a31 ?a32 ?a33 ?pg_Links ?hd_Links ?po_Links ?sa_Links ?mk_Links ?kc_Links ?nn_Links_behind ?zz_any ?zz_dict ?zz_enumerate ?zz_isinstance ?zz_len ?zz_list ?zz_range ?zz_zip ?mm_WORKINGS ?lk_WORKINGS ?lc_WORKINGS ?lt_WORKINGS
  (case mm_Links=>k_is)
  (case a0 | a1=>exact ⟨_,_,_,_,_,_,_,_,_,_,by k_is,by k_is,by k_is,by k_is⟩)
  (case lT1=>k_is)
  (case hT1=>rfl)
  (case a2 | a3=>exact ⟨_,_,_,_,_,_,_,_,_,_,by k_is,by k_is,by k_is,by k_is⟩)
  (case a4 | ifn4 | l4 | c4 | k4 | a5 | ifn5 | l5 | c5 | k5=>k_is)
  (case a6 | a7 | a8 | a9 | a10 | a11 | a12 | a13 | a14 | a15 | a16 | a17 | a18 | a19 | a20 | a21 | a22 | a23 | a24 | a25 | a26 | a27 | a28 | a29 | a30 | a31 | a32 | a33=>exact ⟨_,_,_,_,_,_,_,_,_,_,by k_is,by k_is,by k_is,by k_is⟩)
  (case pg_Links | hd_Links | po_Links | sa_Links | mk_Links | kc_Links | nn_Links_behind | zz_any | zz_dict | zz_enumerate | zz_isinstance | zz_len | zz_list | zz_range | zz_zip | mm_WORKINGS | lk_WORKINGS=>k_is)
  (case lc_WORKINGS=>rfl)
  (case lt_WORKINGS=>kernel_rfl)
