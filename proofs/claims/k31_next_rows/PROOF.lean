import PyProof.Rows.All
import Wide.All
import OpenK.AllK
import Wide.FinOn
import Lean
import PyProof.EqAt
import PyProof.EqKinds
import PyProof.TupleCall
import PySem.Challenge.RW_widelanes_k31_next_rows
set_option Elab.async false
set_option genSizeOf false
set_option genSizeOfSpec false
set_option genInjectivity false
set_option compiler.extract_closed false
set_option linter.all false
set_option maxRecDepth 100000
namespace L2
open PySem PySem.Spec PyProof.Rows
open PySem.W (Frag)
theorem oB {α β:Type} {x:Option α} {f:α->Option β} {b:β} (h:x.bind f=some b):∃ a,x=some a/\f a=some b:=Option.bind_eq_some_iff.mp h
theorem oM {α β:Type} {x:Option α} {f:α->β} {b:β} (h:x.map f=some b):∃ a,x=some a/\f a=b:=Option.map_eq_some_iff.mp h
theorem oG {α:Type} {l:List α} {i:Nat} {a:α} (h:l[i]?=some a):∃ h:i<l.length,l[i]=a:=List.getElem?_eq_some_iff.mp h
noncomputable abbrev bg:=Sum Int Str
noncomputable def pV:bg->Value->Bool
 | .inl k,v=>Value.isInt k v
 | .inr x,v=>Value.isStrOf x v
noncomputable def Kb (w:World):bg->Int
 | .inl k=>hashInt k
 | .inr x=>hashStr w x
theorem cg:∀ {k:bg} {v:Value},pV k v=true->(∃ i t,k=Sum.inl i/\v=Value.int i t)∨(∃ x t,k=Sum.inr x/\v=Value.str x t)
 | .inl i,v,h=>by
  obtain ⟨t,e⟩:=Value.isInt_shape (k:=i) (v:=v) h;exact .inl ⟨i,t,rfl,e⟩
 | .inr x,v,h=>by
  obtain ⟨t,e⟩:=Value.isStrOf_shape (x:=x) (v:=v) h;exact .inr ⟨x,t,rfl,e⟩
theorem wM (i:Int) (t:Tok):pV (.inl i) (.int i t)=true:=by simp [pV,Value.isInt]
theorem wZ (x:Str) (t:Tok):pV (.inr x) (.str x t)=true:=by simp [pV,Value.isStrOf]
theorem Gc (a b:Int):decide ((Sum.inl a:bg)=Sum.inl b)=(a==b):=by
 by_cases e:a=b
 . subst e;simp
 . have h:¬ (Sum.inl a:bg)=Sum.inl b:=λ q=>e (Sum.inl.inj q);rw [decide_eq_false h];exact (beq_eq_false_iff_ne.mpr e).symm
theorem EX (a b:Str):decide ((Sum.inr a:bg)=Sum.inr b)=decide (a=b):=by
 by_cases e:a=b
 . subst e;simp
 . have h:¬ (Sum.inr a:bg)=Sum.inr b:=λ q=>e (Sum.inr.inj q);rw [decide_eq_false h,decide_eq_false e]
theorem Fk (a:Int) (b:Str):decide ((Sum.inl a:bg)=Sum.inr b)=false:=decide_eq_false (λ q=>nomatch q)
theorem FH (a:Str) (b:Int):decide ((Sum.inr a:bg)=Sum.inl b)=false:=decide_eq_false (λ q=>nomatch q)
noncomputable def bD (prog:Program) (w:World):PySem.KeyKind prog w bg where
 is:=pV
 hash:=Kb w
 inj:=λ v a b ha hb=>by
  rcases cg ha with ⟨i,t,rfl,rfl⟩ | ⟨x,t,rfl,rfl⟩
  . rcases cg hb with ⟨j,u,rfl,e⟩ | ⟨y,u,rfl,e⟩
    . injection e with e1 _;rw [e1]
    . exact nomatch e
  . rcases cg hb with ⟨j,u,rfl,e⟩ | ⟨y,u,rfl,e⟩
    . exact nomatch e
    . injection e with e1 _;rw [e1]
 byValue:=λ k v h=>by
  rcases cg h with ⟨i,t,rfl,rfl⟩ | ⟨x,t,rfl,rfl⟩ <;> rfl
 pyHash:=λ hv h=>by
  rcases cg hv with ⟨i,t,rfl,rfl⟩ | ⟨x,t,rfl,rfl⟩
  . exact wpAny_pyHash_int h
  . exact wpAny_pyHash_str h
 eqBool:=λ hu hv h=>by
  rcases cg hu with ⟨i,t,rfl,rfl⟩ | ⟨x,t,rfl,rfl⟩
  . rcases cg hv with ⟨j,u,rfl,rfl⟩ | ⟨y,u,rfl,rfl⟩
    . rw [Gc] at h;exact wpAny_eqBool_int h
    . rw [Fk] at h;exact SeqAt.EqAt.int_str i t y u _ _ _ _ h
  . rcases cg hv with ⟨j,u,rfl,rfl⟩ | ⟨y,u,rfl,rfl⟩
    . rw [FH] at h;exact SeqAt.EqAt.str_int x t j u _ _ _ _ h
    . rw [EX] at h;exact wpAny_eqBool_str h
 «strs»:=λ k x t v h=>by
  rcases cg h with ⟨i,u,rfl,e⟩ | ⟨y,u,rfl,e⟩
  . exact nomatch e
  . injection e with e1 _
    subst e1;cases v <;> rfl
theorem sY (prog:Program) (w:World) (i:Int) (t:Tok):(bD prog w).is (.inl i) (.int i t)=true:=wM i t
theorem tQ (prog:Program) (w:World) (x:Str) (t:Tok):(bD prog w).is (.inr x) (.str x t)=true:=wZ x t
noncomputable def nH (P:Program) (w:World) (ks:List bg):Int:=if ks=[] then 4238894112 else (tupleKind (bD P w)).hash ks
noncomputable def nE (P:Program) (w:World) (x:List bg×Value×Value):DictEntry:=⟨nH P w x.1,x.2.1,x.2.2⟩
end L2
namespace L2
open PySem PySem.Spec PyProof.Rows
open PySem.W (Frag)
set_option genInjectivity true in
inductive V where
 | non | bl (b:Bool) | int (i:Int) | str (x:Str) | byt (b:Array UInt8) | flt (b:UInt64) | ref (a:Addr) | ty (n:String)
 deriving DecidableEq
noncomputable def bq:V->Value->Prop
 | .non,u=>u=Value.none
 | .bl b,u=>u=Value.bool b
 | .int i,u=>∃ t,u=Value.int i t
 | .str x,u=>∃ t,u=Value.str x t
 | .byt b,u=>∃ t,u=Value.bytes b t
 | .flt b,u=>∃ t,u=Value.float b t
 | .ref a,u=>u=Value.ref a
 | .ty n,u=>u=Value.type n
noncomputable abbrev ba:List V->List Value->Prop:=Paired bq
theorem ba.length {xs:List V} {us:List Value} (r:ba xs us):xs.length=us.length:=Paired.length r
theorem ba.get {xs:List V} {us:List Value} {i:Nat} {x:V} (h:ba xs us) (e:xs[i]?=some x):∃ u,us[i]?=some u/\bq x u:=by
 induction h generalizing i with
 | nil=>cases e
 | cons r _ ih=>
  cases i with
  | zero=>cases e;exact ⟨_,rfl,r⟩
  | succ i=>exact ih (i:=i) e
theorem ba.set {x:V} {u:Value} (r:bq x u) {xs:List V} {us:List Value} (i:Nat) (h:ba xs us):ba (xs.set i x) (us.set i u):=by
 induction h generalizing i with
 | nil=>exact .nil
 | cons q t ih=>
  cases i with
  | zero=>exact .cons r t
  | succ i=>exact .cons q (ih i)
theorem ba.append {xs ys:List V} {us ws:List Value} (h:ba xs us) (s:ba ys ws):ba (xs++ys) (us++ws):=by
 induction h with
 | nil=>exact s
 | cons r _ ih=>exact .cons r ih
theorem ba.take {xs:List V} {us:List Value} (n:Nat) (h:ba xs us):ba (xs.take n) (us.take n):=by
 induction h generalizing n with
 | nil=>cases n <;> exact .nil
 | cons r _ ih=>
  cases n with
  | zero=>exact .nil
  | succ n=>exact .cons r (ih n)
theorem ba.drop {xs:List V} {us:List Value} (n:Nat) (h:ba xs us):ba (xs.drop n) (us.drop n):=by
 induction h generalizing n with
 | nil=>cases n <;> exact .nil
 | cons r t ih=>
  cases n with
  | zero=>exact .cons r t
  | succ n=>exact ih n
noncomputable def jw:Option V->Option Value->Prop
 | some v,some u=>bq v u
 | none,none=>True
 | _,_=>False
noncomputable def KV {κ:Type}:List (κ×V)->List (κ×Value)->Prop:=Paired λ (p:κ×V) (q:κ×Value)=>p.1=q.1/\bq p.2 q.2
noncomputable def oz (P:Program) (w:World) (h:Heap) (a:Addr) (kvs:List (bg×Value)):Prop:=
 ∃ o es ep,h.get? a=some o/\o.ExactDict/\o.data=.dict es ep/\ep=es.size/\KeysOf (bD P w) es/\Pairs (bD P w) es.toList kvs/\(kvs.map (·.1)).Nodup
theorem oz.of {P:Program} {w:World} {h:Heap} {a:Addr} {kvs:List (bg×Value)} (x:oz P w h a kvs):h.DictOf (bD P w) a kvs:=by
 obtain ⟨o,es,ep,h1,h2,h3,_,h5⟩:=x;exact ⟨o,es,ep,h1,h2,h3,h5⟩
noncomputable def kV:bg->V
 | .inl i=>.int i
 | .inr x=>.str x
inductive HO where
 | lst (xs:List V)
 | tup (xs:List V)
 | dK (kvs:List (bg×V)) | dT (kvs:List (List bg×V)) | dN (kvs:List (List bg×V))
 | set (S:Int->Bool) (n:Nat)
 | ins (C dx:Addr) (fs:List (Str×V))
 | own (x:Addr)
 | xd (fs:List (Str×V))
 | met (f x:Addr)
 | rng (lo hi:Int)
 | frz (o:Obj) (u:HO)
 | tbl (ps:Array Value)
 | ext (φ:Heap->Prop)
noncomputable abbrev Hp:=Addr->Option HO
noncomputable def nV (H:Hp) (ks:List bg) (v:Value):Prop:=(ks=[]/\v=.none)∨(ks≠[]/\∃ b,v=.ref b/\H b=some (.tup (ks.map kV)))
noncomputable def cn (H:Hp) (a:Addr) (o:HO):Hp:=λ b=>if b=a then some o else H b
theorem aH {H:Hp} {a:Addr} {o:HO}:cn H a o a=some o:=by unfold cn;rw [if_pos rfl]
theorem aM {H:Hp} {a b:Addr} {o:HO} (h:b≠a):cn H a o b=H b:=by unfold cn;rw [if_neg h]
theorem Hs {H:Hp} {a b:Addr} {o u:HO} (h:H a=some o) (h':H b=some u) (d:o≠u):a≠b:=by
 intro e;subst e;rw [h] at h';exact d (Option.some.inj h')
theorem bA {H:Hp} {a b:Addr} {o:HO} (h:H a=some o) (h':H b=none):a≠b:=by
 intro e;subst e;rw [h] at h';cases h'
section
variable (P:Program) (w:World)
noncomputable def cQ (H:Hp) (h:Heap) (a:Addr):HO->Prop
 | .lst xs=>xs.length<=sizeLine/\∃ (its:List Value) (n:Nat),ba xs its/\h.get? a=some { cls:=.type "list", data:=.seq its.toArray n }
 | .tup xs=>xs.length<=sizeLine/\∃ its:List Value,ba xs its/\IsTup h a its.toArray
 | .dK kvs=>kvs.length<=sizeLine/\(a==sysModules)=false/\∃ vs,KV kvs vs/\oz P w h a vs
 | .dT kvs=>kvs.length<=sizeLine/\(a==sysModules)=false/\∃ xs:List (List bg×Addr×Value),
  Paired (λ (p:List bg×V) (q:List bg×Addr×Value)=>p.1=q.1/\H q.2.1=some (.tup (p.1.map kV))/\bq p.2 q.2.2) kvs xs/\
  ∃ o es ep,h.get? a=some o/\o.ExactDict/\o.data=.dict es ep/\es.toList=xs.map (entryOfKey (tupleKind (bD P w)))/\(xs.map (·.1)).Nodup
 | .dN kvs=>kvs.length<=sizeLine/\(a==sysModules)=false/\∃ xs:List (List bg×Value×Value),
  Paired (λ (p:List bg×V) (q:List bg×Value×Value)=>p.1=q.1/\nV H p.1 q.2.1/\bq p.2 q.2.2) kvs xs/\
  ∃ o es ep,h.get? a=some o/\o.ExactDict/\o.data=.dict es ep/\es.toList=xs.map (nE P w)/\(xs.map (·.1)).Nodup
 | .set S n=>h.SetOf (intKind P w) a S n
 | .ins C dx fs=>H dx=some (.own a)/\fs.length<=1000/\dx≠a/\h.get? a=some (PySem.W.instObj C dx)/\
  ∃ mA,h.Ns1 dx mA/\(∀ f,jw (fs.lookup f) (mA f))/\PySem.Within mA (fs.map (·.1))
 | .own _=>∃ o,h.get? a=some o
 | .xd fs=>∃ mA,h.Ns1 a mA/\∀ f,jw (fs.lookup f) (mA f)
 | .rng lo hi=>∃ t u v,h.get? a=some { cls:=.type "range", data:=.fields #[.int lo t,.int hi u,.int 1 v] }
 | .frz o u=>h.get? a=some o/\cQ H h a u
 | .tbl ps=>h.get? a=some { cls:=.none,data:=.fields ps }
 | .met f x=>h.get? a=some (PySem.W.methodObj (.ref f) (.ref x))
 | .ext φ=>φ h/\(∃ o,h.get? a=some o)/\∀ h1 h2:Heap,φ h1->(∀ o,h1.get? a=some o->h2.get? a=some o)->φ h2
noncomputable def jP (H:Hp) (h:Heap):Prop:=∀ a o,H a=some o->cQ P w H h a o
end
section
variable {P:Program} {w:World} {H H':Hp} {h h':Heap} {a:Addr} {o:HO}
theorem cQ.lt (x:cQ P w H h a o):a<h.objs.size:=by
 cases o with
 | lst xs=>obtain ⟨_,_,_,_,e⟩:=x;exact Heap.lt_size e
 | tup xs=>obtain ⟨_,_,_,p⟩:=x;exact p.lt
 | dK kvs=>obtain ⟨_,_,_,_,o,_,_,e,_⟩:=x;exact Heap.lt_size e
 | dT kvs=>obtain ⟨_,_,_,_,o,_,_,e,_⟩:=x;exact Heap.lt_size e
 | dN kvs=>obtain ⟨_,_,_,_,o,_,_,e,_⟩:=x;exact Heap.lt_size e
 | set S n=>obtain ⟨o,_,_,_,e,_⟩:=x;exact Heap.lt_size e
 | ins C dx fs=>obtain ⟨_,_,_,e,_⟩:=x;exact Heap.lt_size e
 | own y=>obtain ⟨_,e⟩:=x;exact Heap.lt_size e
 | xd fs=>obtain ⟨_,⟨_,_,_,e,_⟩,_⟩:=x;exact Heap.lt_size e
 | rng lo hi=>obtain ⟨_,_,_,e⟩:=x;exact Heap.lt_size e
 | frz ob u=>obtain ⟨e,_⟩:=x;exact Heap.lt_size e
 | tbl ps=>exact Heap.lt_size (show h.get? a=some _ from x)
 | met f y=>exact Heap.lt_size (show h.get? a=some _ from x)
 | ext φ=>obtain ⟨_,⟨_,e⟩,_⟩:=x;exact Heap.lt_size e
theorem Paired.mapP {α β:Type} {F G:α->β->Prop} {l₁:List α} {l₂:List β} (h:Paired F l₁ l₂) (f:∀ a b,F a b->G a b):Paired G l₁ l₂:=by
 induction h with
 | nil=>exact .nil
 | cons r _ ih=>exact .cons (f _ _ r) ih
theorem cQ.stay (x:cQ P w H h a o) (k:∀ b u,(b=a∨H b=some (.own a))->h.get? b=some u->h'.get? b=some u)
 (ho:∀ b,H b=some (.own a)->H' b=some (.own a)) (ht:∀ b xs,H b=some (.tup xs)->H' b=some (.tup xs)):cQ P w H' h' a o:=by
 induction o with
 | lst xs=>obtain ⟨z,its,n,r,e⟩:=x;exact ⟨z,its,n,r,k _ _ (.inl rfl) e⟩
 | tup xs=>obtain ⟨z,its,r,ob,e,c⟩:=x;exact ⟨z,its,r,ob,k _ _ (.inl rfl) e,c⟩
 | dK kvs=>obtain ⟨z,y,vs,r,ob,es,ep,e,c⟩:=x;exact ⟨z,y,vs,r,ob,es,ep,k _ _ (.inl rfl) e,c⟩
 | dT kvs=>
  obtain ⟨z,y,xs,r,ob,es,ep,e,c⟩:=x;exact ⟨z,y,xs,Paired.mapP r λ p q z=>⟨z.1,ht _ _ z.2.1,z.2.2⟩,ob,es,ep,k _ _ (.inl rfl) e,c⟩
 | dN kvs=>
  obtain ⟨z,y,xs,r,ob,es,ep,e,c⟩:=x;exact ⟨z,y,xs,Paired.mapP r λ p q z=>⟨z.1,z.2.1.imp id λ hy0=>by obtain ⟨n,b,e1,e2⟩:=hy0;exact ⟨n,b,e1,ht _ _ e2⟩,z.2.2⟩,ob,es,ep,k _ _ (.inl rfl) e,c⟩
 | set S n=>obtain ⟨ob,es,ep,t,e,c⟩:=x;exact ⟨ob,es,ep,t,k _ _ (.inl rfl) e,c⟩
 | ins C dx fs=>
  obtain ⟨d,z,ne,e,mA,⟨od,es,ep,e2,c⟩,r⟩:=x;exact ⟨ho _ d,z,ne,k _ _ (.inl rfl) e,mA,⟨od,es,ep,k _ _ (.inr d) e2,c⟩,r⟩
 | own y=>obtain ⟨ob,e⟩:=x;exact ⟨ob,k _ _ (.inl rfl) e⟩
 | xd fs=>obtain ⟨mA,⟨od,es,ep,e,c⟩,r⟩:=x;exact ⟨mA,⟨od,es,ep,k _ _ (.inl rfl) e,c⟩,r⟩
 | rng lo hi=>obtain ⟨t,u,v,e⟩:=x;exact ⟨t,u,v,k _ _ (.inl rfl) e⟩
 | frz ob u ih=>obtain ⟨e,q⟩:=x;exact ⟨k _ _ (.inl rfl) e,ih q⟩
 | tbl ps=>
  have e:h.get? a=some { cls:=.none,data:=.fields ps }:=x;show h'.get? a=some { cls:=.none,data:=.fields ps };exact k a _ (.inl rfl) e
 | met f y=>
  have e:h.get? a=some (PySem.W.methodObj (.ref f) (.ref y)):=x;show h'.get? a=some (PySem.W.methodObj (.ref f) (.ref y));exact k a _ (.inl rfl) e
 | ext φ=>obtain ⟨p,⟨o,e⟩,st⟩:=x;exact ⟨st _ _ p λ o q=>k _ _ (.inl rfl) q,⟨o,k _ _ (.inl rfl) e⟩,st⟩
theorem jP.lt (x:jP P w H h) (e:H a=some o):a<h.objs.size:=(x a o e).lt
theorem jP.fresh (x:jP P w H h) (e:h.objs.size<=a):H a=none:=by
 cases q:H a with
 | none=>rfl
 | some u=>exact absurd (Nat.lt_of_lt_of_le (x.lt q) e) (Nat.lt_irrefl _)
theorem jP.kept (x:jP P w H h) (k:∀ b u,h.get? b=some u->h'.get? b=some u):jP P w H h':=λ a o e=>
 (x a o e).stay (λ b u _ q=>k b u q) (λ _ q=>q) λ _ _ q=>q
theorem jP.laid (x:jP P w H h) (k:∀ b u,h.get? b=some u->h'.get? b=some u) (hp:h.objs.size<=a) (new:cQ P w (cn H a o) h' a o):jP P w (cn H a o) h':=λ b u e=>by
 have hn:=x.fresh hp;by_cases hb:b=a
 . subst hb;rw [aH] at e;cases e;exact new
 . rw [aM hb] at e;exact (x b u e).stay (λ c v _ q=>k c v q) (λ c q=>by rw [aM (bA q hn)];exact q) λ c xs q=>by rw [aM (bA q hn)];exact q
end
noncomputable def Rd (H:Hp) (a:Addr) (u:HO):Prop:=H a=some u∨∃ o,H a=some (.frz o u)
theorem Rd.ok {P:Program} {w:World} {H:Hp} {h:Heap} {a:Addr} {u:HO} (r:Rd H a u) (x:jP P w H h):cQ P w H h a u:=by
 rcases r with r | ⟨o,r⟩
 . exact x a u r
 . obtain ⟨_,q⟩:=x a _ r;exact q
noncomputable def HF:Option HO->Prop
 | some (.lst _)=>True
 | some (.dK _)=>True
 | some (.dT _)=>True
 | some (.dN _)=>True
 | some (.set _ _)=>True
 | some (.ins _ _ _)=>True
 | some (.ext _)=>True
 | _=>False
section
variable {P:Program} {w:World} {H:Hp} {h h':Heap} {x e:Addr} {o':HO}
theorem jP.write (ok:jP P w H h) (mu:HF (H x)) (he:e=x∨H e=some (.own x)) (k:∀ b u,b≠e->h.get? b=some u->h'.get? b=some u) (heo:∃ u,h'.get? e=some u)
 (new:cQ P w (cn H x o') h' x o'):jP P w (cn H x o') h':=λ b u q=>by
 have nown:∀ c y,H c=some (.own y)->c≠x:=λ c y r z=>by subst z;rw [r] at mu;exact mu
 have ntup:∀ c xs,H c=some (.tup xs)->c≠x:=λ c xs r z=>by subst z;rw [r] at mu;exact mu
 by_cases hb:b=x
 . subst hb;rw [aH] at q;cases q;exact new
 . rw [aM hb] at q;by_cases hbe:b=e
   . have q':H b=some (.own x):=by
      rcases he with z | z
      . exact absurd (hbe.trans z) hb
      . rw [hbe];exact z
     rw [q] at q';cases q';obtain ⟨v,hv⟩:=heo;exact ⟨v,by rw [hbe];exact hv⟩
   . refine (ok b u q).stay (λ c v hc r=>k c v ?_ r) (λ c r=>by rw [aM (nown c b r)];exact r) λ c xs r=>by rw [aM (ntup c xs r)];exact r
     rcases hc with rfl | hc
     . exact hbe
     . rintro rfl;rcases he with z | z
       . exact nown c b hc z
       . rw [hc] at z;cases z;exact hb rfl
end
structure Un (fs ex:List Addr) (H H':Hp) (h h':Heap):Prop where
 keep:∀ b o,h.get? b=some o->H b=none->b∉fs->b∉ex->h'.get? b=some o
 slot:∀ b o,h.get? b=some o->H b=none->b∈fs->b∉ex->∃ sl,h'.get? b=some { o with slots:=sl }
 free:∀ b o,h.get? b=some o->H b=none->b∉ex->H' b=none
 there:∀ b o,h.get? b=some o->b∉ex->∃ o',h'.get? b=some o'
 tups:∀ b xs,H b=some (.tup xs)->H' b=some (.tup xs)
 frzs:∀ b o u,H b=some (.frz o u)->H' b=some (.frz o u)
 tbls:∀ b ps,H b=some (.tbl ps)->∃ more,H' b=some (.tbl (ps++more))
section
variable {fs fs' ex ex':List Addr} {H H1 H2:Hp} {h h1 h2 h':Heap} {a x e:Addr} {o:HO}
theorem Un.any (u:Un fs ex H H1 h h1) {b:Addr} {ob:Obj} (q:h.get? b=some ob) (n:H b=none) (hx:b∉ex):∃ sl,h1.get? b=some { ob with slots:=sl }:=by
 by_cases hb:b∈fs
 . exact u.slot b ob q n hb hx
 . exact ⟨ob.slots,u.keep b ob q n hb hx⟩
theorem Un.kept (k:∀ b u,h.get? b=some u->h'.get? b=some u):Un fs ex H H h h':=
 ⟨λ b ob q _ _ _=>k b ob q,λ b ob q _ _ _=>⟨ob.slots,k b ob q⟩,λ _ _ _ n _=>n,λ b ob q _=>⟨ob,k b ob q⟩,λ _ _ q=>q,λ _ _ _ q=>q,λ _ ps q=>⟨#[],by rw [q];simp⟩⟩
theorem Un.refl:Un fs ex H H h h:=Un.kept λ _ _ q=>q
theorem Un.laid (k:∀ b u,h.get? b=some u->h'.get? b=some u) (hp:h.objs.size<=a) (hn:H a=none):Un fs ex H (cn H a o) h h' where
 keep:=λ b u q _ _ _=>k b u q
 slot:=λ b u q _ _ _=>⟨u.slots,k b u q⟩
 free:=λ b u q n _=>by rw [aM (Nat.ne_of_lt (Nat.lt_of_lt_of_le (Heap.lt_size q) hp))];exact n
 there:=λ b u q _=>⟨u,k b u q⟩
 tups:=λ b xs q=>by rw [aM (bA q hn)];exact q
 frzs:=λ b u xs q=>by rw [aM (bA q hn)];exact q
 tbls:=λ b ps q=>⟨#[],by rw [aM (bA q hn),q];simp⟩
theorem Un.write (mu:HF (H x)) (he:e=x∨H e=some (.own x)) (k:∀ b u,b≠e->h.get? b=some u->h'.get? b=some u) (heo:∃ u,h'.get? e=some u):Un fs ex H (cn H x o) h h':=by
 have hx:∀ b,H b=none->b≠x:=λ b n z=>by subst z;rw [n] at mu;exact mu
 have hb:∀ b,H b=none->b≠e:=λ b n z=>by
  subst z;rcases he with r | r
  . exact hx b n r
  . rw [n] at r;cases r
 have hm:∀ b u,H b=some u->¬ HF (some u)->b≠x:=λ b u q nm z=>by subst z;rw [q] at mu;exact nm mu
 refine ⟨λ b u q n _ _=>k b u (hb b n) q,λ b u q n _ _=>⟨u.slots,k b u (hb b n) q⟩,λ b u q n _=>by rw [aM (hx b n)];exact n,λ b u q _=>?_,
  λ b xs q=>by rw [aM (hm b _ q λ z=>z)];exact q,λ b u xs q=>by rw [aM (hm b _ q λ z=>z)];exact q,λ b ps q=>⟨#[],by rw [aM (hm b _ q λ z=>z),q];simp⟩⟩
 by_cases hbe:b=e
 . subst hbe;exact heo
 . exact ⟨u,k b u hbe q⟩
end
noncomputable def FV (h:Heap) (H:Hp):List Addr:=(List.range h.objs.size).filter λ a=>(H a).isSome
noncomputable def re (h:Heap) (H:Hp):Heap:=PySem.W.hideAll h (FV h H)
theorem xv (h:Heap) (H:Hp):(re h H).objs.size=h.objs.size:=PySem.W.hideAll_size _ _
theorem zA {h:Heap} {H:Hp} {b:Addr} {o:Obj} (e:h.get? b=some o) (n:H b=none):(re h H).get? b=some o:=
 PySem.W.hideAll_get _ e λ hm=>by
  have q:(H b).isSome=true:=(List.mem_filter.mp hm).2;rw [n] at q;simp at q
theorem B3 {h:Heap} {H:Hp} {b:Addr} {o:Obj} (e:(re h H).get? b=some o):h.get? b=some o/\H b=none:=by
 have e':h.get? b=some o:=PySem.W.of_hideAll (FV h H) e;refine ⟨e',?_⟩;cases q:H b with
 | none=>rfl
 | some x=>
  have hm:b∈FV h H:=List.mem_filter.mpr ⟨List.mem_range.mpr (Heap.lt_size e'),by simp [q]⟩;have z:(re h H).get? b=none:=PySem.W.hideAll_none (FV h H) hm;rw [z] at e;cases e
noncomputable def BF (g h:Heap) (L:Addr):List (Addr×Obj):=(List.range h.objs.size).filterMap λ a=>if a=L∨(g.get? a).isSome=true then none else (h.get? a).map λ o=>(a,o)
noncomputable def aW (g h:Heap) (L d:Addr):List (Addr×Obj):=(BF g h L).filter λ p=>decide (p.1≠d)
end L2
namespace L2
open PySem PySem.Spec PyProof.Rows
open PySem.W (Frag)
structure Mod (K:Frag) (mg:Str->Option Value) (base:Heap):Prop where
 kin:K.In base
 glob:base.Ns mainGlobals mg
 blt:∃ mb,base.Ns builtinsNs mb/\∀ x:Str,x ≠ "__name__" -> mb x=bootBuiltins x
 nolimit:base.NoLimit
structure Cx where
 prog:Program
 w:World
 K:Frag
 mg:Str->Option Value
 base:Heap
 A:Around
 N:List Str
 s₀:Shared
 H₀:Hp
 env:Env
 outer:List Env
 stack:List Env
 ex:List Addr
 fn:Str->Bool
 calm:Bool
 pn:List (Addr×Obj)
 xe:Value->Shared->Prop
noncomputable def zO (l:List Env):List Addr:=l.filterMap (·.frame)
noncomputable abbrev Cx.fs (X:Cx):List Addr:=zO X.outer
noncomputable def JE (sc:Scope) (x:Str):Prop:=sc.names.lookup x=some .local∨sc.names.lookup x=some .cell∨sc.names.lookup x=some .free
noncomputable def Fu (sc:Scope) (x:Str):Prop:=sc.names.lookup x=some .local∨sc.names.lookup x=some .cell
noncomputable def K9 (env:Env) (h:Heap) (m:Str->Option Value) (x:Str) (u:Value):Prop:=
 (env.kindOf x=some .local/\m x=some u)∨((env.kindOf x=some .cell∨env.kindOf x=some .free)/\∃ c,env.cells.lookup x=some c/\h.IsCell c (some u))
structure Cx.Ok (X:Cx):Prop where
 mod:Mod X.K X.mg X.base
 kind:X.env.scope.kind=.function
 glob:X.env.globals=mainGlobals
 blt:X.env.builtins=builtinsNs
 above:X.s₀.heap.objs.size<=X.env.locals
 inj:∀ x y c,X.env.cells.lookup x=some c->X.env.cells.lookup y=some c->x=y
 has:∀ x,(X.env.kindOf x=some .cell∨X.env.kindOf x=some .free)->∃ c,X.env.cells.lookup x=some c
 cab:∀ x c,X.fn x=true->X.env.cells.lookup x=some c->X.s₀.heap.objs.size<=c
 hd:X.calm=true->X.A.handled=none
 frames:X.A.frames=some X.stack
 stk:X.stack=X.outer∨(X.stack=X.env::X.outer/\X.env.frame=some X.env.locals)
 exf:∀ b∈X.ex,b≠X.env.locals/\∀ x c,X.env.cells.lookup x=some c->c≠b
 bs:∀ b o,X.base.get? b=some o->X.s₀.heap.get? b=some o/\X.H₀ b=none
 bsz:X.base.objs.size<=X.s₀.heap.objs.size
 noex:∀ b o,X.base.get? b=some o->b∉X.ex
 exfs:∀ b∈X.ex,b∉X.fs
 funs:X.s₀.heap.FunFrames X.base X.outer
 frf:∀ b∈X.fs,X.H₀ b=none
structure aL (X:Cx) (pins:List (Addr×Obj)) (σ:List (Option V)) (H:Hp) (s:Shared):Prop where
 ok:X.Ok
 os:s.os=X.s₀.os
 bare:AllBare s.gens
 base:Un X.fs X.ex X.H₀ H X.s₀.heap s.heap
 loc:∃ m,s.heap.Ns X.env.locals m/\∀ (i:Nat) (x:Str) (v:V),X.N[i]?=some x->σ[i]?=some (some v)->JE X.env.scope x->∃ u,bq v u/\K9 X.env s.heap m x u
 cell:∀ x c,X.env.cells.lookup x=some c->∃ v,s.heap.IsCell c v
 free:H X.env.locals=none
 freeC:∀ x c,X.env.cells.lookup x=some c->H c=none
 pin:∀ p∈X.pn++pins,s.heap.get? p.1=some p.2/\H p.1=none/\p.1≠X.env.locals/\p.1∉X.fs/\∀ v,p.2.data≠.cell v
 hok:jP X.prog X.w H s.heap
 len:σ.length=X.N.length
section
variable {X:Cx} {pins:List (Addr×Obj)} {σ:List (Option V)} {H H':Hp} {s:Shared} {h':Heap}
theorem Cx.Ok.nofr (ok:X.Ok) {b:Addr} {o:Obj} (e:X.base.get? b=some o):b∉X.fs:=λ hb=>by
 have:=(ok.funs.mem hb).1;rw [e] at this;cases this
theorem aL.bs (I:aL X pins σ H s):∀ b o,X.base.get? b=some o->s.heap.get? b=some o/\H b=none:=λ b o e=>
 ⟨I.base.keep b o (I.ok.bs b o e).1 (I.ok.bs b o e).2 (I.ok.nofr e) (I.ok.noex b o e),I.base.free b o (I.ok.bs b o e).1 (I.ok.bs b o e).2 (I.ok.noex b o e)⟩
theorem aL.bk (I:aL X pins σ H s):∀ b o,X.base.get? b=some o->s.heap.get? b=some o:=λ b o e=>(I.bs b o e).1
theorem aL.mod (I:aL X pins σ H s):Mod X.K X.mg X.base:=I.ok.mod
theorem aL.kIn (I:aL X pins σ H s):X.K.In s.heap:=I.ok.mod.kin.keeps I.bk
theorem aL.lt (I:aL X pins σ H s):X.env.locals<s.heap.objs.size:=by obtain ⟨_,hn,_⟩:=I.loc;exact hn.lt
theorem aL.sz (I:aL X pins σ H s):X.s₀.heap.objs.size<=s.heap.objs.size:=Nat.le_trans I.ok.above (Nat.le_of_lt I.lt)
theorem aL.nofs (I:aL X pins σ H s) {a:Addr} (h:s.heap.objs.size<=a):a∉X.fs:=λ hb=>by
 obtain ⟨_,o,ho,_⟩:=I.ok.funs.mem hb;exact absurd (Nat.lt_of_lt_of_le (Heap.lt_size ho) (Nat.le_trans I.sz h)) (Nat.lt_irrefl _)
theorem aL.cne (I:aL X pins σ H s):∀ x c,X.env.cells.lookup x=some c->c≠X.env.locals:=λ x c e z=>by
 obtain ⟨v,o,ho,hd⟩:=I.cell x c e;obtain ⟨m,⟨o',es,ep,ho',hd',_⟩,_⟩:=I.loc;rw [z,ho'] at ho;cases ho;rw [hd'] at hd;cases hd
theorem aL.funs (I:aL X pins σ H s):s.heap.FunFrames X.base X.outer:=by
 have all:∀ (l:List Env),(∀ b∈zO l,b∈X.fs)->X.s₀.heap.FunFrames X.base l->s.heap.FunFrames X.base l:=by
  intro l;induction l with
  | nil=>intro _ _;trivial
  | cons env r ih=>
   intro hs hl;obtain ⟨hk,⟨L,o,hf,hn,ho,hd⟩,hr⟩:=hl;have hL:L∈X.fs:=hs L (by unfold zO;rw [List.filterMap_cons,hf];exact List.mem_cons_self);obtain ⟨sl,e⟩:=I.base.slot L o ho (I.ok.frf L hL) hL λ z=>I.ok.exfs L z hL;exact ⟨hk,⟨L,_,hf,hn,e,hd⟩,ih (λ b hb=>hs b (by unfold zO;rw [List.filterMap_cons,hf];exact List.mem_cons_of_mem _ hb)) hr⟩
 exact all X.outer (λ _ hb=>hb) I.ok.funs
theorem aL.stack (I:aL X pins σ H s):s.heap.FunFrames X.base X.stack:=by
 rcases I.ok.stk with e | ⟨e,hf⟩
 . rw [e];exact I.funs
 . rw [e];obtain ⟨m,hn,_⟩:=I.loc;refine .cons (by rw [I.ok.kind];decide) hf hn ?_ I.funs;exact Heap.get?_none_of_le (Nat.le_trans I.ok.bsz I.ok.above)
theorem aL.stkSub (I:aL X pins σ H s):∀ b∈zO X.stack,b∈X.env.locals::X.fs:=λ b hb=>by
 rcases I.ok.stk with e | ⟨e,hf⟩
 . rw [e] at hb;exact List.mem_cons_of_mem _ hb
 . rw [e] at hb;unfold zO at hb;rw [List.filterMap_cons,hf] at hb;exact hb
theorem aL.stkFree (I:aL X pins σ H s):∀ b∈zO X.stack,H b=none:=λ b hb=>by
 rcases List.mem_cons.mp (I.stkSub b hb) with e | hb
 . rw [e];exact I.free
 . obtain ⟨_,o,ho,_⟩:=I.ok.funs.mem hb;exact I.base.free b o ho (I.ok.frf b hb) λ z=>I.ok.exfs b z hb
theorem aL.step {g':Array GenState} {t':Nat} {d':Drawn} {ch:List Addr} (I:aL X pins σ H s)
 (hch:∀ b∈ch,(b∈X.ex∨X.s₀.heap.objs.size<=b)/\b≠X.env.locals/\(∀ x c,X.env.cells.lookup x=some c->c≠b)/\∀ p∈X.pn++pins,p.1≠b)
 (keep:∀ b o,b≠X.env.locals->b∉X.fs->b∉ch->s.heap.get? b=some o->H b=none->h'.get? b=some o)
 (slot:∀ b o,b≠X.env.locals->b∈X.fs->b∉ch->s.heap.get? b=some o->H b=none->∃ sl,h'.get? b=some { o with slots:=sl }) (free:∀ b o,b∉ch->s.heap.get? b=some o->H b=none->H' b=none)
 (there:∀ b o,b∉ch->s.heap.get? b=some o->∃ o',h'.get? b=some o')
 (tups:∀ b xs,H b=some (.tup xs)->H' b=some (.tup xs)) (frzs:∀ b o u,H b=some (.frz o u)->H' b=some (.frz o u)) (tbls:∀ b ps,H b=some (.tbl ps)->∃ more,H' b=some (.tbl (ps++more)))
 (ns:∀ m,s.heap.Ns X.env.locals m->h'.Ns X.env.locals m) (hok:jP X.prog X.w H' h') (hg:AllBare g'):
 aL X pins σ H' { s with heap:=h',gens:=g',drawn:=d',toks:=t' }:=by
 have neL:∀ b o,X.s₀.heap.get? b=some o->b≠X.env.locals:=λ b o e=>Nat.ne_of_lt (Nat.lt_of_lt_of_le (Heap.lt_size e) I.ok.above);have neC:∀ b o,X.s₀.heap.get? b=some o->b∉X.ex->b∉ch:=λ b o e hx hb=>by
  rcases (hch b hb).1 with z | z
  . exact hx z
  . exact absurd (Nat.lt_of_lt_of_le (Heap.lt_size e) z) (Nat.lt_irrefl _)
 have cellK:∀ x c,X.env.cells.lookup x=some c->∀ v,s.heap.IsCell c v->h'.IsCell c v:=λ x c e v hy0=>by
  obtain ⟨o,ho,hd⟩:=hy0;have nch:c∉ch:=λ z=>(hch c z).2.2.1 x c e rfl;by_cases hc:c∈X.fs
  . obtain ⟨sl,q⟩:=slot c o (I.cne x c e) hc nch ho (I.freeC x c e);exact ⟨_,q,hd⟩
  . exact ⟨o,keep c o (I.cne x c e) hc nch ho (I.freeC x c e),hd⟩
 refine ⟨I.ok,I.os,hg,⟨λ b o e n hb hx=>?_,λ b o e n hb hx=>?_,λ b o e n hx=>?_,λ b o e hx=>?_,λ b xs e=>tups b xs (I.base.tups b xs e),λ b o xs e=>frzs b o xs (I.base.frzs b o xs e),λ b ps e=>?_⟩,?_,λ x c e=>?_,?_,λ x c e=>?_,λ p hp=>?_,hok,I.len⟩
 . exact keep b o (neL b o e) hb (neC b o e hx) (I.base.keep b o e n hb hx) (I.base.free b o e n hx)
 . obtain ⟨sl,e1⟩:=I.base.slot b o e n hb hx;obtain ⟨sl',e2⟩:=slot b _ (neL b o e) hb (neC b o e hx) e1 (I.base.free b o e n hx);exact ⟨sl',e2⟩
 . obtain ⟨o',e1⟩:=I.base.there b o e hx;exact free b o' (neC b o e hx) e1 (I.base.free b o e n hx)
 . obtain ⟨o',e1⟩:=I.base.there b o e hx;exact there b o' (neC b o e hx) e1
 . obtain ⟨m1,e1⟩:=I.base.tbls b ps e;obtain ⟨m2,e2⟩:=tbls b _ e1;exact ⟨m1++m2,by rw [e2,Array.append_assoc]⟩
 . obtain ⟨m,hn,hl⟩:=I.loc;refine ⟨m,ns m hn,λ i x v e1 e2 e3=>?_⟩;obtain ⟨u,r,l⟩:=hl i x v e1 e2 e3;refine ⟨u,r,?_⟩;rcases l with l | ⟨k,c,e,z⟩
   . exact .inl l
   . exact .inr ⟨k,c,e,cellK x c e _ z⟩
 . obtain ⟨v,z⟩:=I.cell x c e;exact ⟨v,cellK x c e v z⟩
 . obtain ⟨m,⟨o,_,_,ho,_⟩,_⟩:=I.loc;exact free _ o (λ z=>(hch _ z).2.1 rfl) ho I.free
 . obtain ⟨v,o,ho,hd⟩:=I.cell x c e;exact free c o (λ z=>(hch c z).2.2.1 x c e rfl) ho (I.freeC x c e)
 . obtain ⟨e,n,ne,nf,d⟩:=I.pin p hp;have nch:p.1∉ch:=λ z=>(hch p.1 z).2.2.2 p hp rfl;exact ⟨keep p.1 p.2 ne nf nch e n,free p.1 p.2 nch e n,ne,nf,d⟩
theorem aL.un {t':Nat} (I:aL X pins σ H s) (u:Un X.fs [] H H' s.heap h') (hok:jP X.prog X.w H' h'):aL X pins σ H' { s with heap:=h',toks:=t' }:=by
 obtain ⟨m,⟨o,es,ep,ho,r⟩,_⟩:=id I.loc;obtain ⟨sl,hL⟩:=u.any ho I.free (by simp);exact I.step (g':=s.gens) (d':=s.drawn) (ch:=[]) (λ _ z=>nomatch z) (λ b o _ hb _ e n=>u.keep b o e n hb (by simp)) (λ b o _ hb _ e n=>u.slot b o e n hb (by simp)) (λ b o _ e n=>u.free b o e n (by simp)) (λ b o _ e=>u.there b o e (by simp)) u.tups u.frzs u.tbls (λ m' hm=>by
  obtain ⟨o',es',ep',ho',r'⟩:=hm;rw [ho] at ho';cases ho';exact ⟨_,es',ep',hL,r'⟩) hok I.bare
theorem aL.call {g':Array GenState} {t':Nat} {d':Drawn} {ch:List Addr} (I:aL X pins σ H s) (u:Un (zO X.stack) ch H H' s.heap h') (hok:jP X.prog X.w H' h') (hg:AllBare g')
 (hch:∀ b∈ch,(b∈X.ex∨X.s₀.heap.objs.size<=b)/\b≠X.env.locals/\(∀ x c,X.env.cells.lookup x=some c->c≠b)/\∀ p∈X.pn++pins,p.1≠b):
 aL X pins σ H' { s with heap:=h',gens:=g',drawn:=d',toks:=t' }:=by
 obtain ⟨m,⟨o,es,ep,ho,r⟩,_⟩:=id I.loc;obtain ⟨sl,hL⟩:=u.any ho I.free λ z=>(hch _ z).2.1 rfl;exact I.step (ch:=ch) hch (λ b o hL hb hc e n=>u.keep b o e n (λ z=>(List.mem_cons.mp (I.stkSub b z)).elim hL hb) hc) (λ b o _ _ hc e n=>u.any e n hc) (λ b o hc e n=>u.free b o e n hc) (λ b o hc e=>u.there b o e hc) u.tups u.frzs u.tbls (λ m' hm=>by
  obtain ⟨o',es',ep',ho',r'⟩:=hm;rw [ho] at ho';cases ho';exact ⟨_,es',ep',hL,r'⟩) hok hg
theorem aL.turned {t':Nat} {it:Addr} (I:aL X pins σ H s) (k:∀ b o,b≠it->s.heap.get? b=some o->h'.get? b=some o) (hn:H it=none) (hL:it≠X.env.locals)
 (h1:it∈X.ex∨X.s₀.heap.objs.size<=it) (h2:∀ x c,X.env.cells.lookup x=some c->c≠it) (h3:∀ p∈X.pn++pins,p.1≠it):aL X pins σ H { s with heap:=h',toks:=t' }:=by
 have nit:∀ b u,H b=some u->b≠it:=λ b u e z=>by rw [z,hn] at e;cases e
 refine I.step (g':=s.gens) (d':=s.drawn) (ch:=[it]) (λ b hb=>?_) (λ b o _ _ hc e _=>k b o (λ z=>hc (by simp [z])) e) (λ b o _ _ hc e _=>⟨o.slots,k b o (λ z=>hc (by simp [z])) e⟩) (λ _ _ _ _ n=>n)
  (λ b o hc e=>⟨o,k b o (λ z=>hc (by simp [z])) e⟩) (λ _ _ e=>e) (λ _ _ _ e=>e) (λ b ps e=>⟨#[],by rw [e];simp⟩) (λ m hm=>?_) (λ b u e=>?_) I.bare
 . have e:b=it:=by simpa using hb
   subst e;exact ⟨h1,hL,h2,h3⟩
 . obtain ⟨o,es,ep,ho,r⟩:=hm;exact ⟨o,es,ep,k _ o (Ne.symm hL) ho,r⟩
 . refine (I.hok b u e).stay (λ c v hc q=>k c v ?_ q) (λ _ q=>q) λ _ _ q=>q;rcases hc with z | z
   . rw [z];exact nit b u e
   . exact nit c _ z
theorem aL.tok (I:aL X pins σ H s) (t:Nat):aL X pins σ H { s with toks:=t }:=I.un (h':=s.heap) (t':=t) Un.refl I.hok
theorem aL.kept {t':Nat} (I:aL X pins σ H s) (k:∀ b u,s.heap.get? b=some u->h'.get? b=some u):aL X pins σ H { s with heap:=h',toks:=t' }:=I.un (Un.kept k) (I.hok.kept k)
theorem aL.laid {a:Addr} {o:HO} {t':Nat} (I:aL X pins σ H s) (k:∀ b u,s.heap.get? b=some u->h'.get? b=some u) (hp:s.heap.objs.size<=a) (new:cQ X.prog X.w (cn H a o) h' a o):
 aL X pins σ (cn H a o) { s with heap:=h',toks:=t' }:=I.un (Un.laid k hp (I.hok.fresh hp)) (I.hok.laid k hp new)
theorem aL.write {x e:Addr} {o:HO} {t':Nat} (I:aL X pins σ H s) (mu:HF (H x)) (he:e=x∨H e=some (.own x)) (k:∀ b u,b≠e->s.heap.get? b=some u->h'.get? b=some u) (heo:∃ u,h'.get? e=some u)
 (new:cQ X.prog X.w (cn H x o) h' x o):aL X pins σ (cn H x o) { s with heap:=h',toks:=t' }:=I.un (Un.write mu he k heo) (I.hok.write mu he k heo new)
theorem aL.weak {σ':List (Option V)} (I:aL X pins σ H s) (hl:σ'.length=σ.length) (w:∀ (i:Nat) v,σ'[i]?=some (some v)->σ[i]?=some (some v)):aL X pins σ' H s:=
 ⟨I.ok,I.os,I.bare,I.base,by obtain ⟨m,hn,hl'⟩:=I.loc;exact ⟨m,hn,λ i x v e1 e2 e3=>hl' i x v e1 (w i v e2) e3⟩,I.cell,I.free,I.freeC,I.pin,I.hok,hl.trans I.len⟩
theorem aL.pins_of {pins':List (Addr×Obj)} (I:aL X pins σ H s) (h:∀ p∈pins',s.heap.get? p.1=some p.2/\H p.1=none/\p.1≠X.env.locals/\p.1∉X.fs/\∀ v,p.2.data≠.cell v):aL X pins' σ H s:=
 ⟨I.ok,I.os,I.bare,I.base,I.loc,I.cell,I.free,I.freeC,λ p hp=>(List.mem_append.mp hp).elim (λ z=>I.pin p (List.mem_append_left _ z)) (h p),I.hok,I.len⟩
theorem sy {N:List Str} (hN:N.Nodup) {i j:Nat} {x:Str} (a:N[i]?=some x) (b:N[j]?=some x):i=j:=by
 obtain ⟨h1,e1⟩:=oG a
 obtain ⟨h2,e2⟩:=oG b
 exact (List.getElem_inj hN).mp (e1.trans e2.symm)
theorem pU {M:Model} {A:Around} {E:Value->Shared->Prop} {i:Nat} {x:Str} {v:V} {u:Value} {Q:Unit->Shared->Prop} (I:aL X pins σ H s) (hN:X.N.Nodup) (hi:X.N[i]?=some x) (hx:Fu X.env.scope x) (r:bq v u)
 (h:∀ s',aL X pins (σ.set i (some v)) H s'->(∃ a,Heap.SameBut a s.heap s'.heap/\(a=X.env.locals∨X.env.cells.lookup x=some a))->Q () s') (hf:X.fn x=true∨X.env.scope.names.lookup x=some .local:=by first | exact .inl rfl | exact .inr rfl | assumption):wpAny M A (storeName X.env x u) Q E s:=by
 obtain ⟨m,hn,hl⟩:=id I.loc;have hcls:(X.env.scope.kind==.class||(X.env.scope.kind==.module&&X.env.locals != X.env.globals))=false:=by rw [I.ok.kind];rfl
 have hiσ:i<σ.length:=by rw [I.len];exact (oG hi).1
 have cne:=I.cne;have tracked:∀ {a:Addr} {h':Heap},(∃ o,s.heap.get? a=some o/\H a=none)->Heap.SameBut a s.heap h'->jP X.prog X.w H h':=λ {a h'} ha hs b ob e=>by
  obtain ⟨_,_,hfree⟩:=ha;refine (I.hok b ob e).stay (λ c w' hc q=>(hs.2 c ?_).trans q) (λ _ q=>q) λ _ _ q=>q;rintro rfl;rcases hc with rfl | hc
  . rw [hfree] at e;cases e
  . rw [hfree] at hc;cases hc
 rcases hx with hk | hk
 . refine wpAny_storeName_local hk hn (λ h' hn' hs=>?_) hcls;obtain ⟨oL,_,_,hoL,_⟩:=id hn;refine h _ ⟨I.ok,I.os,I.bare,⟨λ b o e n hb hx=>?_,λ b o e n hb hx=>?_,I.base.free,λ b o e hx=>?_,I.base.tups,I.base.frzs,I.base.tbls⟩,⟨_,hn',λ j y v' e1 e2 e3=>?_⟩,λ y c e=>?_,I.free,I.freeC,λ p hp=>?_,tracked ⟨oL,hoL,I.free⟩ hs,by simpa using I.len⟩ ⟨_,hs,.inl rfl⟩
   . exact (hs.2 b (Nat.ne_of_lt (Nat.lt_of_lt_of_le (Heap.lt_size e) I.ok.above))).trans (I.base.keep b o e n hb hx)
   . obtain ⟨sl,e1⟩:=I.base.slot b o e n hb hx;exact ⟨sl,(hs.2 b (Nat.ne_of_lt (Nat.lt_of_lt_of_le (Heap.lt_size e) I.ok.above))).trans e1⟩
   . obtain ⟨o',e1⟩:=I.base.there b o e hx;exact ⟨o',(hs.2 b (Nat.ne_of_lt (Nat.lt_of_lt_of_le (Heap.lt_size e) I.ok.above))).trans e1⟩
   . by_cases hj:j=i
     . subst hj;rw [hi] at e1;cases e1;rw [List.getElem?_set_self hiσ] at e2;cases e2;exact ⟨u,r,.inl ⟨hk,by simp⟩⟩
     . rw [List.getElem?_set_ne (Ne.symm hj)] at e2;obtain ⟨u',r',q⟩:=hl j y v' e1 e2 e3;refine ⟨u',r',?_⟩;rcases q with ⟨k,e⟩ | ⟨k,c,e,z⟩
       . refine .inl ⟨k,?_⟩;have:y≠x:=λ e=>hj (sy hN e1 (e▸hi));simp [this,e]
       . exact .inr ⟨k,c,e,z.sameBut hs (cne y c e)⟩
   . obtain ⟨w',z⟩:=I.cell y c e;exact ⟨w',z.sameBut hs (cne y c e)⟩
   . obtain ⟨e,n,ne,nf,d⟩:=I.pin p hp;exact ⟨(hs.2 p.1 ne).trans e,n,ne,nf,d⟩
 . have hfn:X.fn x=true:=by
    rcases hf with z | z
    . exact z
    . rw [z] at hk;cases hk
   obtain ⟨c,hc⟩:=I.ok.has x (.inl hk);obtain ⟨w',z⟩:=I.cell x c hc;refine wpAny_storeName_cell I.ok.kind hk hc z (λ h' hc' hs=>?_);obtain ⟨oc,hoc,hocd⟩:=id z;refine h { s with heap:=h' } ⟨I.ok,I.os,I.bare,⟨λ b o e n hb hx=>?_,λ b o e n hb hx=>?_,I.base.free,λ b o e hx=>?_,I.base.tups,I.base.frzs,I.base.tbls⟩,⟨m,hn.sameBut hs (Ne.symm (cne x c hc)),λ j y v' e1 e2 e3=>?_⟩,λ y c' e=>?_,I.free,I.freeC,λ p hp=>?_,tracked ⟨oc,hoc,I.freeC x c hc⟩ hs,by simpa using I.len⟩ ⟨c,hs,.inr hc⟩
   . exact (hs.2 b (Nat.ne_of_lt (Nat.lt_of_lt_of_le (Heap.lt_size e) (I.ok.cab x c hfn hc)))).trans (I.base.keep b o e n hb hx)
   . obtain ⟨sl,e1⟩:=I.base.slot b o e n hb hx;exact ⟨sl,(hs.2 b (Nat.ne_of_lt (Nat.lt_of_lt_of_le (Heap.lt_size e) (I.ok.cab x c hfn hc)))).trans e1⟩
   . obtain ⟨o',e1⟩:=I.base.there b o e hx;exact ⟨o',(hs.2 b (Nat.ne_of_lt (Nat.lt_of_lt_of_le (Heap.lt_size e) (I.ok.cab x c hfn hc)))).trans e1⟩
   . by_cases hj:j=i
     . subst hj;rw [hi] at e1;cases e1;rw [List.getElem?_set_self hiσ] at e2;cases e2;exact ⟨u,r,.inr ⟨.inl hk,c,hc,hc'⟩⟩
     . rw [List.getElem?_set_ne (Ne.symm hj)] at e2;obtain ⟨u',r',q⟩:=hl j y v' e1 e2 e3;refine ⟨u',r',?_⟩;rcases q with q | ⟨k,c',e,z'⟩
       . exact .inl q
       . refine .inr ⟨k,c',e,z'.sameBut hs ?_⟩;rintro rfl;exact hj (sy hN e1 (I.ok.inj _ _ _ e hc▸hi))
   . by_cases hcc:c'=c
     . subst hcc;exact ⟨_,hc'⟩
     . obtain ⟨w2,z2⟩:=I.cell y c' e;exact ⟨w2,z2.sameBut hs hcc⟩
   . obtain ⟨e,n,ne,nf,d⟩:=I.pin p hp;refine ⟨(hs.2 p.1 ?_).trans e,n,ne,nf,d⟩;intro q;rw [q,hoc] at e;have q':oc=p.2:=Option.some.inj e;exact d w' (by rw [<-q'];exact hocd)
theorem tN {M:Model} {A:Around} {E:Value->Shared->Prop} {i:Nat} {x:Str} {v:V} {u:Value} {Q:Unit->Shared->Prop} (I:aL X pins σ H s) (hN:X.N.Nodup) (hi:X.N[i]?=some x) (hx:Fu X.env.scope x) (r:bq v u)
 (h:∀ s',aL X pins (σ.set i (some v)) H s'->Q () s') (hf:X.fn x=true∨X.env.scope.names.lookup x=some .local:=by first | exact .inl rfl | exact .inr rfl | assumption):wpAny M A (storeName X.env x u) Q E s:=
 pU I hN hi hx r (λ s' I' _=>h s' I') hf
theorem aL.call' {s':Shared} {ch:List Addr} (I:aL X pins σ H s) (ho:s'.os=s.os) (u:Un (zO X.stack) ch H H' s.heap s'.heap) (hok:jP X.prog X.w H' s'.heap) (hg:AllBare s'.gens)
 (hch:∀ b∈ch,(b∈X.ex∨X.s₀.heap.objs.size<=b)/\b≠X.env.locals/\(∀ x c,X.env.cells.lookup x=some c->c≠b)/\∀ p∈X.pn++pins,p.1≠b):aL X pins σ H' s':=by
 obtain ⟨h',g',d',t',o'⟩:=s';have e:o'=s.os:=ho;subst e;exact I.call (g':=g') (t':=t') (d':=d') u hok hg hch
end
noncomputable abbrev XK:=Value->Option Addr->Hp->Prop
noncomputable abbrev St:=List (Option V)
noncomputable abbrev VK:=V->Hp->Prop
noncomputable abbrev TE:=St->Hp->VK->Prop
noncomputable abbrev TT:=St->Hp->(Bool->Hp->Prop)->Prop
noncomputable abbrev TA:=St->Hp->(List V->Hp->Prop)->Prop
structure jx where
 nx:St->Hp->Prop
 rt:VK
 bk:St->Hp->Prop:=λ _ _=>False
 ct:St->Hp->Prop:=λ _ _=>False
noncomputable abbrev TS:=jx->St->Hp->Prop
noncomputable def EP (X:Cx) (pins:List (Addr×Obj)) (σ:St) (Q:VK) (u:Value) (s':Shared):Prop:=∃ v H',aL X pins σ H' s'/\bq v u/\Q v H'
noncomputable def TP (X:Cx) (pins:List (Addr×Obj)) (σ:St) (Q:Bool->Hp->Prop) (b:Bool) (s':Shared):Prop:=∃ H',aL X pins σ H' s'/\Q b H'
noncomputable def AP (X:Cx) (pins:List (Addr×Obj)) (σ:St) (Q:List V->Hp->Prop) (us:List Value) (s':Shared):Prop:=∃ vs H',aL X pins σ H' s'/\ba vs us/\Q vs H'
noncomputable def SP (X:Cx) (pins:List (Addr×Obj)) (D:jx) (f:Flow) (s':Shared):Prop:=
 match f with
 | .next=>∃ σ' H',aL X pins σ' H' s'/\D.nx σ' H'
 | .brk=>∃ σ' H',aL X pins σ' H' s'/\D.bk σ' H'
 | .cont=>∃ σ' H',aL X pins σ' H' s'/\D.ct σ' H'
 | .ret u=>∃ v σ' H',aL X pins σ' H' s'/\bq v u/\D.rt v H'
noncomputable def PE (X:Cx) (e:Expr) (t:TE):Prop:=
 ∀ (pins:List (Addr×Obj)) (s:Shared) (σ:St) (H:Hp) (Q:VK),aL X pins σ H s->t σ H Q->wpAny (model X.prog X.w) X.A (eval e X.env) (EP X pins σ Q) X.xe s
noncomputable def PT (X:Cx) (e:Expr) (t:TT):Prop:=
 ∀ (pins:List (Addr×Obj)) (s:Shared) (σ:St) (H:Hp) (Q:Bool->Hp->Prop),aL X pins σ H s->t σ H Q->wpAny (model X.prog X.w) X.A (isTrue e X.env (eval e X.env)) (TP X pins σ Q) X.xe s
noncomputable def PW (X:Cx) (e:Expr) (t:TT):Prop:=
 ∀ (whole:Sem Value) (pins:List (Addr×Obj)) (s:Shared) (σ:St) (H:Hp) (Q:Bool->Hp->Prop),aL X pins σ H s->t σ H Q->wpAny (model X.prog X.w) X.A (isTrue e X.env whole) (TP X pins σ Q) X.xe s
theorem PW.pt {X:Cx} {e:Expr} {t:TT} (h:PW X e t):PT X e t:=h _
noncomputable def PA (X:Cx) (es:List Expr) (t:TA):Prop:=
 ∀ (pos:Pos) (pins:List (Addr×Obj)) (s:Shared) (σ:St) (H:Hp) (Q:List V->Hp->Prop),aL X pins σ H s->t σ H Q->wpAny (model X.prog X.w) X.A (spliced (backTo pos (starEach es X.env))) (AP X pins σ Q) X.xe s
noncomputable def PS (X:Cx) (st:Stmt) (t:TS):Prop:=
 ∀ (pins:List (Addr×Obj)) (s:Shared) (σ:St) (H:Hp) (D:jx),aL X pins σ H s->t D σ H->wpAny (model X.prog X.w) X.A (exec st X.env) (SP X pins D) X.xe s
noncomputable def u3 (X:Cx) (st:List Stmt) (t:TS):Prop:=
 ∀ (pins:List (Addr×Obj)) (s:Shared) (σ:St) (H:Hp) (D:jx),aL X pins σ H s->t D σ H->wpAny (model X.prog X.w) X.A (execs st X.env) (SP X pins D) X.xe s
theorem cE {α:Type} {t:Sem α} {Q Q':α->Shared->Prop} {M:Model} {A:Around} {E:Value->Shared->Prop} {s:Shared} (h:wpAny M A t Q E s) (hQ:∀ a s,Q a s->Q' a s):wpAny M A t Q' E s:=wpAny_mono h hQ λ _ _ x=>x
end L2
namespace L2
open PySem PySem.Spec PyProof.Rows
open PySem.W (Frag)
section
variable {X:Cx}
noncomputable def uB (i:Nat):TE:=λ σ H Q=>∃ v,σ[i]?=some (some v)/\Q v H
noncomputable def tC (v:V):TE:=λ _ H Q=>Q v H
theorem Kt {i:Nat} {x:Str} {pos:Pos} (hN:X.N[i]?=some x) (hv:JE X.env.scope x) (hd:(x==("__debug__" : Str))=false) (hcd:(x==("__classdict__" : Str))=false):PE X (.Name x pos) (uB i):=by
 intro pins s σ H Q I h;obtain ⟨v,e,h⟩:=h;obtain ⟨m,hn,hl⟩:=I.loc;obtain ⟨u,r,l⟩:=hl i x v hN e hv;have fin:EP X pins σ Q u s:=⟨v,H,I,r,h⟩
 rcases l with ⟨hk,hm⟩ | ⟨hk,c,hc,hcell⟩
 . exact wpAny_Name (wpAny_loadName_local I.ok.kind hk hn hm fin) hd
 . rcases hk with hk | hk
   . exact wpAny_Name (wpAny_loadName_cell I.ok.kind hk hc hcell fin) hd
   . exact wpAny_Name (wpAny_loadName_free I.ok.kind hk hc hcell fin hcd) hd
theorem Kf {i j pos}:PE X (.Constant (.int i) j pos) (tC (.int i)):=λ _ _ _ H _ I h=>wpAny_Constant_int ⟨.int i,H,I.tok _,⟨_,rfl⟩,h⟩
theorem Ll {b j pos}:PE X (.Constant (.bool b) j pos) (tC (.bl b)):=λ _ _ _ H _ I h=>Constant_bool ⟨.bl b,H,I,rfl,h⟩
theorem JY {j pos}:PE X (.Constant .none j pos) (tC .non):=λ _ _ _ H _ I h=>Constant_none ⟨.non,H,I,rfl,h⟩
theorem K5 {x j pos}:PE X (.Constant (.str x) j pos) (tC (.str x)):=λ _ _ _ H _ I h=>Calls.Constant_str ⟨.str x,H,I.tok _,⟨_,rfl⟩,h⟩
noncomputable def Gl (X:Cx) (x:Str):Prop:=X.env.kindOf x=some .globalImplicit
theorem qo {E:Value->Shared->Prop} {pins:List (Addr×Obj)} {s:Shared} {σ:St} {H:Hp} {x:Str} {u:Value} {pos:Pos} {Q:Value->Shared->Prop} (I:aL X pins σ H s) (hg:Gl X x) (hm:X.mg x=some u) (h:Q u s)
 (hd:(x==("__debug__" : Str))=false:=by decide):wpAny (model X.prog X.w) X.A (eval (.Name x pos) X.env) Q E s:=
 Calls.Name_function_global I.ok.kind hg (Calls.loadGlobal_global (by rw [I.ok.glob];exact I.mod.glob.keeps I.bk) hm h) hd
theorem lr {E:Value->Shared->Prop} {pins:List (Addr×Obj)} {s:Shared} {σ:St} {H:Hp} {x:Str} {u:Value} {pos:Pos} {Q:Value->Shared->Prop} (I:aL X pins σ H s) (hg:Gl X x) (hm:X.mg x=none) (hv:bootBuiltins x=some u) (h:Q u s)
 (hn:x ≠ "__name__" := by decide) (hd:(x==("__debug__" : Str))=false:=by decide):wpAny (model X.prog X.w) X.A (eval (.Name x pos) X.env) Q E s:=by
 obtain ⟨mb,h1,h2⟩:=I.mod.blt;exact Calls.Name_function_global I.ok.kind hg (Calls.loadGlobal_builtin (by rw [I.ok.glob];exact I.mod.glob.keeps I.bk) hm (by rw [I.ok.blt];exact h1.keeps I.bk) ((h2 x hn).trans hv) h) hd
theorem AD {x:Str} {v:V} {u:Value} {pos:Pos} (hg:Gl X x) (hm:X.mg x=some u) (r:bq v u) (hd:(x==("__debug__" : Str))=false:=by decide):PE X (.Name x pos) (tC v):=
 λ _ _ _ H _ I h=>qo I hg hm ⟨v,H,I,r,h⟩ hd
theorem rL {x:Str} {v:V} {u:Value} {pos:Pos} (hg:Gl X x) (hm:X.mg x=none) (hv:bootBuiltins x=some u) (r:bq v u) (hn:x ≠ "__name__" := by decide) (hd:(x==("__debug__" : Str))=false:=by decide):PE X (.Name x pos) (tC v):=
 λ _ _ _ H _ I h=>lr I hg hm hv ⟨v,H,I,r,h⟩ hn hd
variable {a b:Expr} {ta tb:TE} {pos:Pos}
noncomputable def PC (X:Cx) (op:CmpOp) (a b:Expr) (t:TE):Prop:=
 ∀ (pins:List (Addr×Obj)) (s:Shared) (σ:St) (H:Hp) (Q:VK),aL X pins σ H s->t σ H Q->
  wpAny (model X.prog X.w) X.A (eval a X.env) (λ v s₁=>wpAny (model X.prog X.w) X.A (eval b X.env) (λ u s₂=>wpAny (model X.prog X.w) X.A (compareOp op v u) (EP X pins σ Q) X.xe s₂) X.xe s₁) X.xe s
noncomputable def tB (t:TE):TT:=λ σ H Q=>t σ H λ x H1=>∃ c,x=.bl c/\Q c H1
theorem JM {op:CmpOp} {t:TE} (h:PC X op a b t) (h1:behindInMarks op b=false):PT X (.Compare a [op] [b] pos) (tB t):=by
 intro pins s σ H Q I hw;refine wpAny_isTrue_Compare1 (cE (h pins s σ H _ I hw) λ v s1 h1=>cE h1 λ u s2 h2=>cE h2 λ c s3 hq0=>?_) h1;obtain ⟨x,H1,I1,r1,q1⟩:=hq0;obtain ⟨d,rfl,q⟩:=q1;cases r1;exact wpAny_truthy_bool ⟨H1,I1,q⟩
theorem KM {e:Expr} {t:TE} (h:PE X e t) (he:∀ whole,isTrue e X.env whole=(do let v <-whole;standAt e.pos;holding [v] (truthy v))):PT X e (tB t):=by
 intro pins s σ H Q I hw;refine isTrue_plain (cE (h pins s σ H _ I hw) λ v s1 hq0=>?_) (he _);obtain ⟨x,H1,I1,r1,q1⟩:=hq0;obtain ⟨d,rfl,q⟩:=q1;cases r1;exact wpAny_truthy_bool ⟨H1,I1,q⟩
variable {tA tB':TT} {aW:List Expr}
noncomputable def Ip (t u:TT):TT:=λ σ H Q=>t σ H λ c H1=>if c=true then u σ H1 Q else Q false H1
noncomputable def L5 (t u:TT):TT:=λ σ H Q=>t σ H λ c H1=>if c=true then Q true H1 else u σ H1 Q
noncomputable def F0 (t:TT):TT:=λ σ H Q=>t σ H λ c H1=>Q (!c) H1
theorem IY (ha:PT X a tA):PW X (.BoolOp .And [a] pos) tA:=by
 intro wh pins s σ H Q I h;refine isTrue_and (cE (ha pins s σ H Q I h) λ c s1 e=>?_);cases c with
 | true=>exact isTrue_and_nil e
 | false=>exact e
theorem Kp (ha:PT X a tA):PW X (.BoolOp .Or [a] pos) tA:=by
 intro wh pins s σ H Q I h;refine isTrue_or (cE (ha pins s σ H Q I h) λ c s1 e=>?_);cases c with
 | false=>exact isTrue_or_nil e
 | true=>exact e
theorem JN (ha:PT X a tA) (hb:PW X (.BoolOp .And (b::aW) pos) tB'):PW X (.BoolOp .And (a::b::aW) pos) (Ip tA tB'):=by
 intro wh pins s σ H Q I h;refine isTrue_and (cE (ha pins s σ H _ I h) λ c s1 hq0=>?_);obtain ⟨H1,I1,q1⟩:=hq0;cases c with
 | true=>exact hb wh pins s1 σ H1 Q I1 q1
 | false=>exact ⟨H1,I1,q1⟩
theorem LG (ha:PT X a tA) (hb:PW X (.BoolOp .Or (b::aW) pos) tB'):PW X (.BoolOp .Or (a::b::aW) pos) (L5 tA tB'):=by
 intro wh pins s σ H Q I h;refine isTrue_or (cE (ha pins s σ H _ I h) λ c s1 hq0=>?_);obtain ⟨H1,I1,q1⟩:=hq0;cases c with
 | true=>exact ⟨H1,I1,q1⟩
 | false=>exact hb wh pins s1 σ H1 Q I1 q1
theorem Kc (ha:PT X a tA):PT X (.UnaryOp .Not a pos) (F0 tA):=by
 intro pins s σ H Q I h;exact isTrue_not (ha pins s σ H (λ c H1=>Q (!c) H1) I h)
noncomputable def yx (ta tb:TE):TE:=λ σ H Q=>ta σ H λ x H1=>∃ c,x=.bl c/\if c=true then tb σ H1 Q else Q (.bl false) H1
noncomputable def Hb (ta tb:TE):TE:=λ σ H Q=>ta σ H λ x H1=>∃ c,x=.bl c/\if c=true then Q (.bl true) H1 else tb σ H1 Q
noncomputable def Dv (ta:TE):TE:=λ σ H Q=>ta σ H λ x H1=>∃ c,x=.bl c/\Q (.bl (!c)) H1
theorem JR {op} {t:TE} (h:PE X a t):PE X (.BoolOp op [a] pos) t:=λ pins s σ H Q I hw=>BoolOp_one (h pins s σ H Q I hw)
theorem JZ (ha:PE X a ta) (hb:PE X (.BoolOp .And (b::aW) pos) tb):PE X (.BoolOp .And (a::b::aW) pos) (yx ta tb):=by
 intro pins s σ H Q I h;refine BoolOp_and (cE (ha pins s σ H _ I h) λ v s1 hq0=>?_);obtain ⟨x,H1,I1,r1,q1⟩:=hq0;obtain ⟨c,rfl,q1⟩:=q1;cases r1;refine wpAny_truthy_bool ?_;cases c with
 | true=>exact hb pins s1 σ H1 Q I1 q1
 | false=>exact ⟨.bl false,H1,I1,rfl,q1⟩
theorem Lc (ha:PE X a ta) (hb:PE X (.BoolOp .Or (b::aW) pos) tb):PE X (.BoolOp .Or (a::b::aW) pos) (Hb ta tb):=by
 intro pins s σ H Q I h;refine BoolOp_or (cE (ha pins s σ H _ I h) λ v s1 hq0=>?_);obtain ⟨x,H1,I1,r1,q1⟩:=hq0;obtain ⟨c,rfl,q1⟩:=q1;cases r1;refine wpAny_truthy_bool ?_;cases c with
 | false=>exact hb pins s1 σ H1 Q I1 q1
 | true=>exact ⟨.bl true,H1,I1,rfl,q1⟩
theorem Ky (ha:PE X a ta):PE X (.UnaryOp .Not a pos) (Dv ta):=by
 intro pins s σ H Q I h;refine UnaryOp_ (cE (ha pins s σ H _ I h) λ v s1 hq0=>?_);obtain ⟨x,H1,I1,r1,q1⟩:=hq0;obtain ⟨c,rfl,q1⟩:=q1;cases r1;exact not_of (wpAny_truthy_bool ⟨.bl (!c),H1,I1,rfl,q1⟩)
noncomputable def LD (t:TT) (ta tb:TE):TE:=λ σ H Q=>t σ H λ c H1=>if c=true then ta σ H1 Q else tb σ H1 Q
theorem Hj {c:Expr} (hc:PT X c tA) (ha:PE X a ta) (hb:PE X b tb):PE X (.IfExp c a b pos) (LD tA ta tb):=by
 intro pins s σ H Q I h;refine wpAny_IfExp (cE (hc pins s σ H _ I h) λ d s1 hq0=>?_);obtain ⟨H1,I1,q1⟩:=hq0;cases d with
 | true=>exact ha pins s1 σ H1 Q I1 q1
 | false=>exact hb pins s1 σ H1 Q I1 q1
end
end L2
namespace L2
open PySem PySem.Spec PyProof.Rows
open PySem.W (Frag)
noncomputable def cR (K:Frag) (H:Hp) (a:Addr) (xs:List V):Prop:=
 Rd H a (.lst xs)∨
  ∃ (o:Obj) (its:Array Value) (n:Nat),K.lookup a=some o/\o.cls=.type "list" /\ o.dict=none/\o.data=.seq its n/\its.size<=sizeLine/\ba xs its.toList
noncomputable def ez (K:Frag) (H:Hp) (a:Addr) (xs:List V):Prop:=
 Rd H a (.tup xs)∨
  ∃ (o:Obj) (its:Array Value) (n:Nat),K.lookup a=some o/\o.cls=.type "tuple" /\ o.data=.seq its n/\its.size<=sizeLine/\ba xs its.toList
noncomputable def La:Value->Option V
 | .none=>some .non
 | .bool b=>some (.bl b)
 | .int i _=>some (.int i)
 | .str x _=>some (.str x)
 | .bytes b _=>some (.byt b)
 | .float b _=>some (.flt b)
 | .ref a=>some (.ref a)
 | .type n=>some (.ty n)
 | _=>none
theorem bq.abs {x:V} {u:Value} (r:bq x u):La u=some x:=by
 cases x with
 | non=>cases r;rfl
 | bl _=>cases r;rfl
 | int _=>obtain ⟨t,rfl⟩:=r;rfl
 | str _=>obtain ⟨t,rfl⟩:=r;rfl
 | byt _=>obtain ⟨t,rfl⟩:=r;rfl
 | flt _=>obtain ⟨t,rfl⟩:=r;rfl
 | ref _=>cases r;rfl
 | ty _=>cases r;rfl
theorem bq.inj {x y:V} {u:Value} (r:bq x u) (q:bq y u):x=y:=Option.some.inj (r.abs.symm.trans q.abs)
theorem ba.inj {xs ys:List V} {us:List Value} (h:ba xs us) (h':ba ys us):xs=ys:=by
 induction h generalizing ys with
 | nil=>cases h';rfl
 | cons r _ ih=>
  cases h' with
  | cons r' t'=>rw [r.inj r',ih t']
section
variable {X:Cx} {pins:List (Addr×Obj)} {σ:St} {H:Hp} {s:Shared} {a:Addr} {xs ys:List V}
theorem cR.of {K:Frag} (h:H a=some (.lst xs)):cR K H a xs:=.inl (.inl h)
theorem ez.of {K:Frag} (h:H a=some (.tup xs)):ez K H a xs:=.inl (.inl h)
theorem aL.list (I:aL X pins σ H s) (h:cR X.K H a xs):∃ its:List Value,ba xs its/\PlainL s.heap a its.toArray/\xs.length<=sizeLine:=by
 rcases h with h | ⟨o,its,n,hk,hc,hd,hs,hz,r⟩
 . obtain ⟨z,its,n,r,e⟩:=h.ok I.hok;exact ⟨its,r,⟨_,n,e,rfl,rfl,rfl⟩,z⟩
 . refine ⟨its.toList,r,⟨o,n,I.kIn a o hk,hc,hd,by simpa using hs⟩,?_⟩;have e:=r.length;simp only [Array.length_toList] at e;omega
theorem aL.tuple (I:aL X pins σ H s) (h:ez X.K H a xs):∃ its:List Value,ba xs its/\IsTup s.heap a its.toArray/\xs.length<=sizeLine:=by
 rcases h with h | ⟨o,its,n,hk,hc,hs,hz,r⟩
 . obtain ⟨z,its,r,p⟩:=h.ok I.hok;exact ⟨its,r,p,z⟩
 . refine ⟨its.toList,r,⟨o,I.kIn a o hk,hc,n,by simpa using hs⟩,?_⟩;have e:=r.length;simp only [Array.length_toList] at e;omega
theorem aL.list_inj (I:aL X pins σ H s) (h:cR X.K H a xs) (h':cR X.K H a ys):xs=ys:=by
 obtain ⟨its,r,⟨o,n,e,_,_,d⟩,_⟩:=I.list h;obtain ⟨its',r',⟨o',n',e',_,_,d'⟩,_⟩:=I.list h';rw [e] at e';cases e';rw [d] at d';injection d' with d1 _
 have:its=its':=by simpa using congrArg Array.toList d1
 subst this;exact r.inj r'
theorem aL.tuple_inj (I:aL X pins σ H s) (h:ez X.K H a xs) (h':ez X.K H a ys):xs=ys:=by
 obtain ⟨its,r,⟨o,e,_,n,d⟩,_⟩:=I.tuple h;obtain ⟨its',r',⟨o',e',_,n',d'⟩,_⟩:=I.tuple h';rw [e] at e';cases e';rw [d] at d';injection d' with d1 _
 have:its=its':=by simpa using congrArg Array.toList d1
 subst this;exact r.inj r'
end
noncomputable abbrev Cx.wish (X:Cx) (E:Value->Shared->Prop):Cx:={ X with xe:=E }
noncomputable abbrev Cx.nox (X:Cx):Cx:=X.wish λ _ _=>False
theorem Cx.Ok.wish {X:Cx} (ok:X.Ok) (E:Value->Shared->Prop):(X.wish E).Ok:=
 ⟨ok.mod,ok.kind,ok.glob,ok.blt,ok.above,ok.inj,ok.has,ok.cab,ok.hd,ok.frames,ok.stk,ok.exf,ok.bs,ok.bsz,ok.noex,ok.exfs,ok.funs,ok.frf⟩
theorem Cx.Ok.unwish {X:Cx} {E:Value->Shared->Prop} (ok:(X.wish E).Ok):X.Ok:=
 ⟨ok.mod,ok.kind,ok.glob,ok.blt,ok.above,ok.inj,ok.has,ok.cab,ok.hd,ok.frames,ok.stk,ok.exf,ok.bs,ok.bsz,ok.noex,ok.exfs,ok.funs,ok.frf⟩
section
variable {X:Cx} {pins:List (Addr×Obj)} {σ:St} {H:Hp} {s:Shared} {E:Value->Shared->Prop}
theorem aL.wish (I:aL X pins σ H s) (E:Value->Shared->Prop):aL (X.wish E) pins σ H s:=⟨I.ok.wish E,I.os,I.bare,I.base,I.loc,I.cell,I.free,I.freeC,I.pin,I.hok,I.len⟩
theorem aL.unwish (I:aL (X.wish E) pins σ H s):aL X pins σ H s:=⟨I.ok.unwish,I.os,I.bare,I.base,I.loc,I.cell,I.free,I.freeC,I.pin,I.hok,I.len⟩
theorem SP.unwish {D:jx} {f:Flow} {s':Shared} (h:SP (X.wish E) pins D f s'):SP X pins D f s':=by
 cases f with
 | next=>obtain ⟨σ',H',I,q⟩:=h;exact ⟨σ',H',I.unwish,q⟩
 | brk=>obtain ⟨σ',H',I,q⟩:=h;exact ⟨σ',H',I.unwish,q⟩
 | cont=>obtain ⟨σ',H',I,q⟩:=h;exact ⟨σ',H',I.unwish,q⟩
 | ret u=>obtain ⟨v,σ',H',I,r,q⟩:=h;exact ⟨v,σ',H',I.unwish,r,q⟩
theorem u3.nox {st:List Stmt} {t:TS} (h:u3 X.nox st t):u3 X st t:=λ pins s σ H D I hw=>
 wpAny_mono (h pins s σ H D (I.wish _) hw) (λ _ _ q=>q.unwish) λ _ _ z=>False.elim z
end
section
variable {X:Cx} {st:Stmt} {aW:List Stmt} {t u:TS} {e:Expr} {te:TE} {pos:Pos}
noncomputable def CN:TS:=λ D σ H=>D.nx σ H
noncomputable def EE (t u:TS):TS:=λ D σ H=>t { D with nx:=u D } σ H
theorem Jj:u3 X [] CN:=λ _ _ σ H _ I h=>wpAny_execs_nil ⟨σ,H,I,h⟩
theorem I0 (h1:PS X st t) (h2:u3 X aW u):u3 X (st::aW) (EE t u):=by
 intro pins s σ H D I h;refine wpAny_execs_cons (cE (h1 pins s σ H { D with nx:=u D } I h) λ f s1 q=>?_);cases f with
 | next=>
  obtain ⟨σ',H',I',q⟩:=q;exact h2 pins s1 σ' H' D I' q
 | ret v=>exact q
 | brk=>exact q
 | cont=>exact q
theorem JG (h1:PS X st t):u3 X [st] t:=by
 intro pins s σ H D I h;refine wpAny_execs_cons (cE (h1 pins s σ H D I h) λ f s1 q=>?_);cases f with
 | next=>exact wpAny_execs_nil q
 | ret v=>exact q
 | brk=>exact q
 | cont=>exact q
noncomputable def Dy:TS:=λ D σ H=>D.ct σ H
theorem CO:PS X (.Continue pos) Dy:=λ _ _ σ H _ I h=>wpAny_Continue ⟨σ,H,I,h⟩
theorem aL.quiet {pins:List (Addr×Obj)} {σ:St} {H:Hp} {s:Shared} (I:aL X pins σ H s):interactive X.env=false:=by simp [interactive,I.ok.kind]
noncomputable def pZ (te:TE):TS:=λ D σ H=>te σ H λ _ H1=>D.nx σ H1
theorem IT (he:PE X e te) (hs:swapsWith e none pos.line X.env=pure false):PS X (.Expr e pos) (pZ te):=by
 intro pins s σ H D I h;exact wpAny_Expr_any (cE (he pins s σ H _ I h) λ v s1 hy0=>by obtain ⟨x,H1,I1,r1,q1⟩:=hy0;exact ⟨σ,H1,I1,q1⟩) I.quiet hs
noncomputable def F5 (te:TE):TS:=λ D σ H=>te σ H D.rt
theorem KO (he:PE X e te):PS X (.Return (some e) pos) (F5 te):=by
 intro pins s σ H D I h;exact wpAny_Return_some (cE (he pins s σ H _ I h) λ v s1 hy0=>by obtain ⟨x,H1,I1,r1,q1⟩:=hy0;exact ⟨x,σ,H1,I1,r1,q1⟩)
noncomputable def Gg (c:TT) (t u:TS):TS:=λ D σ H=>c σ H λ b H1=>if b=true then t D σ H1 else u D σ H1
theorem L8 {c:Expr} {a b:List Stmt} {tc:TT} (hc:PT X c tc) (ha:u3 X a t) (hb:u3 X b u):PS X (.If c a b pos) (Gg tc t u):=by
 intro pins s σ H D I h;refine wpAny_If (cE (hc pins s σ H _ I h) λ d s1 hq0=>?_);obtain ⟨H1,I1,q1⟩:=hq0;cases d with
 | true=>exact ha pins s1 σ H1 D I1 q1
 | false=>exact hb pins s1 σ H1 D I1 q1
end
noncomputable abbrev TG:=V->St->Hp->(St->Hp->Prop)->Prop
noncomputable abbrev zI:=List V->St->Hp->(St->Hp->Prop)->Prop
noncomputable def PG (X:Cx) (target:Expr) (t:TG):Prop:=
 ∀ (pins:List (Addr×Obj)) (s:Shared) (σ:St) (H:Hp) (v:V) (u:Value) (Q:St->Hp->Prop),aL X pins σ H s->bq v u->t v σ H Q->
  wpAny (model X.prog X.w) X.A (assign target X.env u) (λ _ s'=>∃ σ' H',aL X pins σ' H' s'/\Q σ' H') X.xe s
noncomputable def Gw (X:Cx) (ts:List Expr) (t:zI):Prop:=
 ∀ (pins:List (Addr×Obj)) (s:Shared) (σ:St) (H:Hp) (vs:List V) (us:List Value) (Q:St->Hp->Prop),aL X pins σ H s->ba vs us->t vs σ H Q->
  wpAny (model X.prog X.w) X.A (assignInOrder ((assignEach ts X.env).map (·.2)) us) (λ _ s'=>∃ σ' H',aL X pins σ' H' s'/\Q σ' H') X.xe s
noncomputable abbrev FD:=V->V->V->Hp->(Hp->Prop)->Prop
noncomputable def GE (X:Cx) (t:FD):Prop:=
 ∀ (pins:List (Addr×Obj)) (s:Shared) (σ:St) (H:Hp) (o i v:V) (ov iv u:Value) (Q:Hp->Prop),aL X pins σ H s->bq o ov->bq i iv->bq v u->t o i v H Q->
  wpAny (model X.prog X.w) X.A (setItem ov iv u) (λ _ s'=>∃ H',aL X pins σ H' s'/\Q H') X.xe s
section
variable {X:Cx} {pos:Pos}
noncomputable def m8 (i:Nat):TG:=λ v σ H Q=>Q (σ.set i (some v)) H
theorem IX {i:Nat} {x:Str} (hN:X.N.Nodup) (hi:X.N[i]?=some x) (hx:Fu X.env.scope x) (hf:X.fn x=true∨X.env.scope.names.lookup x=some .local):PG X (.Name x pos) (m8 i):=by
 intro pins s σ H v u Q I r h;exact wpAny_assign_Name (tN I hN hi hx r (λ s' I'=>⟨_,H,I',h⟩) hf)
noncomputable def IM:zI:=λ vs σ H Q=>vs=[]/\Q σ H
noncomputable def CK (t:TG) (u:zI):zI:=λ vs σ H Q=>∃ v r,vs=v::r/\t v σ H λ σ' H'=>u r σ' H' Q
theorem Jo:Gw X [] IM:=by
 intro pins s σ H vs us Q I r h;obtain ⟨e,h⟩:=h;subst e;cases r;exact assignInOrder_nil ⟨σ,H,I,h⟩
theorem IP {e:Expr} {es:List Expr} {t:TG} {u:zI} (h1:PG X e t) (h2:Gw X es u)
 (hs:(assignEach (e::es) X.env).map (·.2)=assign e X.env::(assignEach es X.env).map (·.2)):Gw X (e::es) (CK t u):=by
 intro pins s σ H vs us Q I r h;obtain ⟨v,vr,e1,h⟩:=h;subst e1;cases r with
 | cons r rr=>
  rw [hs];refine assignInOrder_cons (cE (h1 pins s σ H _ _ _ I r h) λ _ s1 hq0=>?_);obtain ⟨σ1,H1,I1,q1⟩:=hq0;exact h2 pins s1 σ1 H1 _ _ Q I1 rr q1
noncomputable def Ef (K:Frag) (n:Nat) (t:zI):TG:=λ v σ H Q=>∃ a xs,v=.ref a/\ez K H a xs/\xs.length=n/\t xs σ H Q
theorem E9 {es:List Expr} {k:Nat} {t:zI} {n:Nat} (hc:X.calm=true) (h:Gw X es t)
 (hn:(assignEach es X.env).length=n:=by rfl) (hst:(assignEach es X.env).findIdx? (·.1)=none:=by rfl):PG X (.Tuple es k pos) (Ef X.K n t):=by
 intro pins s σ H v u Q I r hw;obtain ⟨a,xs,e1,hq,hl,hw⟩:=hw;subst e1;cases r;obtain ⟨its,rv,ht,hz⟩:=I.tuple hq;refine assign_Tuple_tuple (I.ok.hd hc) ht (by simp [hn,<-hl,rv.length]) hst λ h' hx=>?_;have I1:aL X pins σ H { s with heap:=h' }:=I.kept (t':=s.toks) λ b o e=>hx b o (Nat.ne_of_lt (Heap.lt_size e)) e;exact h pins _ σ H xs _ Q I1 (by simpa using rv) hw
noncomputable def B1 (to ti:TE) (t:FD):TG:=λ v σ H Q=>to σ H λ o H1=>ti σ H1 λ i H2=>t o i v H2 λ H3=>Q σ H3
theorem EW {o i:Expr} {to ti:TE} {t:FD} (ho:PE X o to) (hi:PE X i ti) (hs:GE X t)
 (ha:∀ v,assign (.Subscript o i pos) X.env v=(do
  let ov <-holding [v] (eval o X.env);let iv <-holding [v,ov] (eval i X.env)
  standAt pos
  holding [v,ov,iv] (setItem ov iv v)
  release [v,ov,iv] []):=by intro _;rfl):PG X (.Subscript o i pos) (B1 to ti t):=by
 intro pins s σ H v u Q I r h;rw [ha];refine wpAny_bind (wpAny_holding (cE (ho pins s σ H _ I h) λ ov s1 hq0=>?_));obtain ⟨x,H1,I1,r1,q1⟩:=hq0;refine wpAny_bind (wpAny_holding (cE (hi pins s1 σ H1 _ I1 q1) λ iv s2 hq0=>?_));obtain ⟨y,H2,I2,r2,q2⟩:=hq0;refine wpAny_bind (wpAny_standAt (wpAny_bind (wpAny_holding (cE (hs pins s2 σ H2 x y v ov iv u _ I2 r1 r2 r q2) λ _ s3 hq0=>?_))));obtain ⟨H3,I3,q3⟩:=hq0;exact wpAny_release ⟨σ,H3,I3,q3⟩
noncomputable def oZ (te:TE) (g:TG):TS:=λ D σ H=>te σ H λ x H1=>g x σ H1 D.nx
theorem Gi {tg e:Expr} {te:TE} {g:TG} (he:PE X e te) (hg:PG X tg g) (hs:swapsWithSole [tg] e pos.line X.env=pure false:=by rfl) (hw:swappedStores [tg] e X.env=pure none:=by rfl)
 (h1:(assignEach [tg] X.env).map (·.2)=[assign tg X.env]:=by rfl):PS X (.Assign [tg] e pos) (oZ te g):=by
 intro pins s σ H D I h;refine wpAny_Assign_stores (cE (he pins s σ H _ I h) λ v s1 hq0=>?_) hs hw;obtain ⟨x,H1,I1,r1,q1⟩:=hq0;rw [h1];exact cE (hg pins s1 σ H1 x v _ I1 r1 q1) λ _ s2 q=>q
theorem KF {i:Nat} {x:Str} {e:Expr} {te:TE} {pos':Pos} (hN:X.N.Nodup) (hi:X.N[i]?=some x) (hx:Fu X.env.scope x) (he:PE X e te) (hs:swapsWith e (some (.Name x pos')) pos.line X.env=pure false) (hf:X.fn x=true∨X.env.scope.names.lookup x=some .local):
 PS X (.Assign [.Name x pos'] e pos) (oZ te (m8 i)):=by
 intro pins s σ H D I h;refine wpAny_Assign_Name (cE (he pins s σ H _ I h) λ v s1 hq0=>?_) hs;obtain ⟨y,H1,I1,r1,q1⟩:=hq0;exact tN I1 hN hi hx r1 (λ s2 I2=>⟨_,H1,I2,q1⟩) hf
end
section
variable {X:Cx} {pos:Pos}
end
structure It where
 go:Nat->Hp->Prop
 yld:Nat->Hp->V->Hp->Prop
 stop:Nat->Hp->Prop
noncomputable def lI (X:Cx) (pins:List (Addr×Obj)) (H:Hp) (b:Addr):Prop:=
 H b=none/\b≠X.env.locals/\b∉X.fs/\(b∈X.ex∨X.s₀.heap.objs.size<=b)/\(∀ x c,X.env.cells.lookup x=some c->c≠b)/\∀ p∈X.pn++pins,p.1≠b
theorem aL.fpOk {X:Cx} {pins:List (Addr×Obj)} {σ:St} {H H':Hp} {s:Shared} {b:Addr} (I:aL X pins σ H s) (hb:s.heap.objs.size<=b) (hn:H' b=none):lI X pins H' b:=by
 refine ⟨hn,Nat.ne_of_gt (Nat.lt_of_lt_of_le I.lt hb),I.nofs hb,.inr (Nat.le_trans I.sz hb),λ x c e z=>?_,λ p hp z=>?_⟩
 . obtain ⟨v,q⟩:=I.cell x c e;exact absurd (Nat.lt_of_lt_of_le q.lt (by rw [z];exact hb)) (Nat.lt_irrefl _)
 . exact absurd (Nat.lt_of_lt_of_le (Heap.lt_size (I.pin p hp).1) (by rw [z];exact hb)) (Nat.lt_irrefl _)
structure xa (P:Program) (w:World) (K:Frag) (tg:Expr) (J:It) (fp:List Addr) (it:Addr) (tn:Nat->Heap->Prop):Prop where
 mem:it∈fp
 obj:∀ i h,tn i h->∀ b∈fp,∃ o,h.get? b=some o/\∀ v,o.data≠.cell v
 keep:∀ i h h',tn i h->(∀ b∈fp,∀ o,h.get? b=some o->h'.get? b=some o)->tn i h'
 item:∀ (X:Cx),X.prog=P->X.w=w->X.K=K->X.calm=true->∀ (i:Nat) (pins:List (Addr×Obj)) (s:Shared) (σ:St) (H:Hp) (E:Value->Shared->Prop),aL X pins σ H s->(∀ b∈fp,lI X pins H b)->tn i s.heap->J.go i H->
  wpAny (model P w) X.A (pyNext (.ref it)) (λ r s1=>∃ u,r=some u/\
   wpAny (model P w) X.A (letOwnedTupleGo tg (.ref it) u) (λ _ s2=>∃ x H',aL X pins σ H' s2/\bq x u/\J.yld i H x H'/\tn (i+1) s2.heap/\∀ b∈fp,H' b=none) E s1) E s
 done:∀ (X:Cx),X.prog=P->X.w=w->X.K=K->X.calm=true->∀ (i:Nat) (pins:List (Addr×Obj)) (s:Shared) (σ:St) (H:Hp) (E:Value->Shared->Prop),aL X pins σ H s->(∀ b∈fp,lI X pins H b)->tn i s.heap->J.stop i H->
  wpAny (model P w) X.A (pyNext (.ref it)) (λ r s1=>r=none/\aL X pins σ H s1) E s
 self:∀ (A:Around) (i:Nat) (s:Shared) (Q:Value->Shared->Prop) (E:Value->Shared->Prop),tn i s.heap->Q (.ref it) s->wpAny (model P w) A (pyIter (.ref it)) Q E s
noncomputable abbrev TI:=St->Hp->(It->Hp->Prop)->Prop
noncomputable def K8 (X:Cx) (pins:List (Addr×Obj)) (σ:St) (tg:Expr) (R:It->Hp->Prop) (itv:Value) (s2:Shared):Prop:=
 ∃ (it:Addr) (fp:List Addr) (tn:Nat->Heap->Prop) (J:It) (H':Hp),itv=.ref it/\aL X pins σ H' s2/\xa X.prog X.w X.K tg J fp it tn/\tn 0 s2.heap/\(∀ b∈fp,lI X pins H' b)/\R J H'
noncomputable def PI (X:Cx) (tg iter:Expr) (wi:TI):Prop:=
 ∀ (pins:List (Addr×Obj)) (s:Shared) (σ:St) (H:Hp) (R:It->Hp->Prop),aL X pins σ H s->wi σ H R->
  wpAny (model X.prog X.w) X.A (eval iter X.env) (λ v s1=>wpAny (model X.prog X.w) X.A (pyIter v) (K8 X pins σ tg R) X.xe s1) X.xe s
theorem yS {M:Model} {A:Around} {E:Value->Shared->Prop} {s:Shared} {tg:Expr} {it:Addr} {u:Value} {o:Obj} {n:String} {vs:Array Value} {Q:Unit->Shared->Prop} (ho:s.heap.get? it=some o) (hc:o.cls=.type n) (hd:o.data=.fields vs)
 (hn:["enumerate", "zip", "dict_itemiterator", "dict_reverseitemiterator", "odict_iterator", "itertools.zip_longest", "itertools.pairwise"].contains n=false) (hQ:Q () s):wpAny M A (letOwnedTupleGo tg (.ref it) u) Q E s:=by
 unfold letOwnedTupleGo;cases tg <;> first
  | exact wpAny_pure hQ
  | (cases u <;> first
   | exact wpAny_pure hQ
   | (refine wpAny_bind (wpAny_load ho ?_)
      rw [hc,hd];show wpAny M A (if (["enumerate", "zip", "dict_itemiterator", "dict_reverseitemiterator", "odict_iterator", "itertools.zip_longest", "itertools.pairwise"].contains n&&vs[0]?==some (rawInt _))=true then _ else _) Q E s;rw [if_neg (by intro h;rw [hn,Bool.false_and] at h;cases h)];exact wpAny_pure hQ))
noncomputable def Kv (K:Frag) (a:Addr):It:=
 ⟨λ i H=>∃ xs x,cR K H a xs/\xs[i]?=some x,λ i H x H'=>H'=H/\∀ xs,cR K H a xs->xs[i]?=some x,λ i H=>∃ xs,cR K H a xs/\xs.length<=i⟩
noncomputable def KD (K:Frag) (a:Addr):It:=
 ⟨λ i H=>∃ xs x,ez K H a xs/\xs[i]?=some x,λ i H x H'=>H'=H/\∀ xs,ez K H a xs->xs[i]?=some x,λ i H=>∃ xs,ez K H a xs/\xs.length<=i⟩
noncomputable def JH (lo:Int) (n:Nat):It:=⟨λ i _=>i<n,λ i H x H'=>H'=H/\x=.int (lo+i),λ i _=>n<=i⟩
theorem xr {P:Program} {w:World} {K:Frag} {tg:Expr} (a it:Addr):xa P w K tg (Kv K a) [it] it (λ i h=>h.IsListIter it a i) where
 mem:=by simp
 obj:=λ i h st b hb=>by
  have e:b=it:=by simpa using hb
  subst e;obtain ⟨o,e,c,d⟩:=st;exact ⟨o,e,λ v z=>by rw [d] at z;cases z⟩
 keep:=λ i h h' st k=>st.at λ o e=>k it (by simp) o e
 item:=by
  intro X hP hw hK hc i pins s σ H E I hf st hg;subst hP hw hK;obtain ⟨xs,x,hq,hx⟩:=hg;obtain ⟨its,rv,p,hz⟩:=I.list hq;obtain ⟨u,hu,ru⟩:=rv.get hx;obtain ⟨f0,f1,f2,f3,f4,f5⟩:=hf it (by simp);refine wpAny_pyNext_list_item st p.isList (x:=u) (by simpa using hu) λ h' st' sb=>?_;have I1:aL X pins σ H { s with heap:=h' }:=I.turned (t':=s.toks) (λ b o hb e=>(sb.2 b hb).trans e) f0 f1 f3 f4 f5;obtain ⟨o,e,c,d⟩:=id st';exact ⟨u,rfl,yS (s:={ s with heap:=h' }) e c d (by decide) ⟨x,H,I1,ru,⟨rfl,λ ys hy=>by rw [I.list_inj hy hq];exact hx⟩,st',λ b hb=>(hf b hb).1⟩⟩
 done:=by
  intro X hP hw hK hc i pins s σ H E I hf st hg;subst hP hw hK;obtain ⟨xs,hq,hx⟩:=hg;obtain ⟨its,rv,p,hz⟩:=I.list hq;obtain ⟨f0,f1,f2,f3,f4,f5⟩:=hf it (by simp);have hl:=rv.length;exact wpAny_pyNext_list_end (I.ok.hd hc) st p.isList (by simp;omega) λ h' eb=>⟨rfl,I.turned (t':=s.toks) (λ b o hb e=>eb b o hb e) f0 f1 f3 f4 f5⟩
 self:=λ _ _ _ _ _ st h=>wpAny_pyIter_listiter st h
theorem vm {P:Program} {w:World} {K:Frag} {tg:Expr} (a it:Addr):xa P w K tg (KD K a) [it] it (λ i h=>h.IsTupleIter it a i) where
 mem:=by simp
 obj:=λ i h st b hb=>by
  have e:b=it:=by simpa using hb
  subst e;obtain ⟨o,e,c,d⟩:=st;exact ⟨o,e,λ v z=>by rw [d] at z;cases z⟩
 keep:=λ i h h' st k=>st.at λ o e=>k it (by simp) o e
 item:=by
  intro X hP hw hK hc i pins s σ H E I hf st hg;subst hP hw hK;obtain ⟨xs,x,hq,hx⟩:=hg;obtain ⟨its,rv,p,hz⟩:=I.tuple hq;obtain ⟨u,hu,ru⟩:=rv.get hx;obtain ⟨f0,f1,f2,f3,f4,f5⟩:=hf it (by simp);refine wpAny_pyNext_tuple_item st (show s.heap.IsTuple a its.toArray from p) (x:=u) (by simpa using hu) λ h' st' sb=>?_;have I1:aL X pins σ H { s with heap:=h' }:=I.turned (t':=s.toks) (λ b o hb e=>(sb.2 b hb).trans e) f0 f1 f3 f4 f5;obtain ⟨o,e,c,d⟩:=id st';exact ⟨u,rfl,yS (s:={ s with heap:=h' }) e c d (by decide) ⟨x,H,I1,ru,⟨rfl,λ ys hy=>by rw [I.tuple_inj hy hq];exact hx⟩,st',λ b hb=>(hf b hb).1⟩⟩
 done:=by
  intro X hP hw hK hc i pins s σ H E I hf st hg;subst hP hw hK;obtain ⟨xs,hq,hx⟩:=hg;obtain ⟨its,rv,p,hz⟩:=I.tuple hq;obtain ⟨f0,f1,f2,f3,f4,f5⟩:=hf it (by simp);have hl:=rv.length;exact wpAny_pyNext_tuple_end (I.ok.hd hc) st (show s.heap.IsTuple a its.toArray from p) (by simp;omega) λ h' eb=>⟨rfl,I.turned (t':=s.toks) (λ b o hb e=>eb b o hb e) f0 f1 f3 f4 f5⟩
 self:=λ _ _ _ _ _ st h=>wpAny_pyIter_tupleiter st h
theorem uf {P:Program} {w:World} {K:Frag} {tg:Expr} (it:Addr) (lo:Int) (n:Nat):xa P w K tg (JH lo n) [it] it (λ i h=>IsRangeIter h it (lo+(i:Nat)*1) ((n:Int)-(i:Nat)) 1) where
 mem:=by simp
 obj:=λ i h st b hb=>by
  have e:b=it:=by simpa using hb
  subst e;exact ⟨_,st,λ v z=>by
   have z':Data.fields _=Data.cell v:=z;cases z'⟩
 keep:=λ i h h' st k=>k it (by simp) _ st
 item:=by
  intro X hP hw hK hc i pins s σ H E I hf st hg;subst hP hw hK;obtain ⟨f0,f1,f2,f3,f4,f5⟩:=hf it (by simp);have W:=Walks.range (prog:=X.prog) (w:=X.w) (I.ok.hd hc) it lo 1 n;refine W.item i s _ _ hg st λ v h' tk hv st' kk=>?_;obtain ⟨t,rfl⟩:=hv;have I1:aL X pins σ H { s with heap:=h',toks:=tk }:=I.turned (λ b o hb e=>kk b o (by simpa using hb) e) f0 f1 f3 f4 f5;refine ⟨_,rfl,yS (s:={ s with heap:=h',toks:=tk }) (n := "range_iterator") st' rfl rfl (by decide) ⟨.int (lo+i),H,I1,⟨t,?_⟩,⟨rfl,rfl⟩,st',λ b hb=>(hf b hb).1⟩⟩;rw [Int.mul_one]
 done:=by
  intro X hP hw hK hc i pins s σ H E I hf st hg;subst hP hw hK;obtain ⟨f0,f1,f2,f3,f4,f5⟩:=hf it (by simp);exact wpAny_pyNext_range_end (I.ok.hd hc) st (by have:n<=i:=hg;omega) λ h' eb=>⟨rfl,I.turned (t':=s.toks) (λ b o hb e=>eb b o hb e) f0 f1 f3 f4 f5⟩
 self:=λ _ _ _ _ _ st h=>wpAny_pyIter_rangeiter st h
end L2
namespace L2
open PySem PySem.Spec PyProof.Rows
open PySem.W (Frag)
section
variable {X:Cx} {tg:Expr}
theorem yu {pins:List (Addr×Obj)} {σ:St} {H:Hp} {s:Shared} {R:It->Hp->Prop} {E:Value->Shared->Prop} {lo hi:Int} {t u v:Tok} {tk:Nat} (I:aL X pins σ H s) (h1 : -(2^62)<=lo) (h2:lo<2^62) (h3 : -(2^62)<=hi) (h4:hi<2^62)
 (q:R (JH lo (hi-lo).toNat) H):wpAny (model X.prog X.w) X.A (pyIter (.ref s.heap.objs.size)) (K8 X pins σ tg R) E { s with heap:=s.heap.push { cls:=.type "range", data:=.fields #[.int lo t,.int hi u,.int 1 v] },toks:=tk }:=by
 refine wpAny_pyIter_range (IsRange.new ..) (small_one h1 h2 h3 h4) ?_;have I1:aL X pins σ H { s with heap:=s.heap.push { cls:=.type "range", data:=.fields #[.int lo t,.int hi u,.int 1 v] },toks:=tk }:=I.kept λ b o e=>Heap.get?_push_of_some _ e;refine ⟨(s.heap.push { cls:=.type "range", data:=.fields #[.int lo t,.int hi u,.int 1 v] }).objs.size,[(s.heap.push { cls:=.type "range", data:=.fields #[.int lo t,.int hi u,.int 1 v] }).objs.size],_,_,H,rfl,
  I1.kept (t':=tk) λ b o e=>Heap.get?_push_of_some _ e,uf _ lo (hi-lo).toNat,?_,λ b hb=>?_,q⟩
 . have e1:lo+((0:Nat):Int)*1=lo:=by simp
   have e2:(((hi-lo).toNat:Nat):Int)-((0:Nat):Int)=Builtin.Range.rangeSize lo hi 1:=by rw [rangeSize_one];split <;> omega
   show IsRangeIter _ _ (lo+((0:Nat):Int)*1) ((((hi-lo).toNat:Nat):Int)-((0:Nat):Int)) 1;rw [e1,e2];exact Heap.get?_push_size _ rfl
 . have e:b=(s.heap.push { cls:=.type "range", data:=.fields #[.int lo t,.int hi u,.int 1 v] }).objs.size:=by simpa using hb
   subst e;exact I1.fpOk (Nat.le_refl _) (I1.hok.fresh (Nat.le_refl _))
noncomputable def CH (ta:TA):TI:=λ σ H R=>ta σ H λ vs H1=>∃ j:Int,vs=[.int j] /\ -(2^62)<=j/\j<2^62/\R (JH 0 j.toNat) H1
theorem Gp {a:Expr} {ta:TA} {p pos:Pos} (hg:Gl X "range") (hm:X.mg "range" = none) (ha:PA X [a] ta) (hs:starEach [a] X.env=[(false,eval a X.env)]):PI X tg (.Call (.Name "range" p) [a] [] pos) (CH ta):=by
 intro pins s σ H R I h;refine Call_ (lr I hg hm boot_range (PyProof.Rows.callWith_type1 (cE (ha pos pins s σ H _ I h) λ us s1 hq0=>?_) hs rfl));obtain ⟨vs,H1,I1,r1,q1⟩:=hq0;obtain ⟨j,e,q1,q2,q⟩:=q1;subst e;cases r1 with
 | cons r rr=>
  cases rr;obtain ⟨t,rfl⟩:=r;exact call_range_1 (yu I1 (by omega) (by omega) q1 q2 (by simpa using q))
noncomputable def Ea (wi:TI) (g:TG) (tb:TS):TS:=λ D σ H=>wi σ H λ J H1=>∃ W:Nat->Nat->St->Hp->Prop,(∃ m,W 0 m σ H1)/\∀ i m σ H,W i m σ H->
 (J.stop i H/\D.nx σ H)∨(J.go i H/\∃ N:St->Hp->Prop,(∀ σ' H',N σ' H'->∃ m',m'<m/\W (i+1) m' σ' H')/\∀ x H',J.yld i H x H'->g x σ H' λ σ2 H2=>tb { D with nx:=N,ct:=N,bk:=D.nx } σ2 H2)
noncomputable def lQ (fp:List Addr) (h:Heap):List (Addr×Obj):=fp.filterMap λ b=>(h.get? b).map λ o=>(b,o)
theorem i9 {fp:List Addr} {h:Heap} {b:Addr} {o:Obj} (hb:b∈fp) (e:h.get? b=some o):(b,o)∈lQ fp h:=List.mem_filterMap.mpr ⟨b,hb,by rw [e];rfl⟩
theorem xi {fp:List Addr} {h:Heap} {p:Addr×Obj} (hp:p∈lQ fp h):p.1∈fp/\h.get? p.1=some p.2:=by
 obtain ⟨b,hb,e⟩:=List.mem_filterMap.mp hp;cases q:h.get? b with
 | none=>rw [q] at e;cases e
 | some o=>
  rw [q] at e;have e':(b,o)=p:=Option.some.inj e;subst e';exact ⟨hb,q⟩
theorem aL.pinned {pins:List (Addr×Obj)} {σ:St} {H:Hp} {s:Shared} {fp:List Addr} (I:aL X pins σ H s) (hf:∀ b∈fp,lI X pins H b) (ho:∀ b∈fp,∃ o,s.heap.get? b=some o/\∀ v,o.data≠.cell v):aL X (pins++lQ fp s.heap) σ H s:=
 I.pins_of λ p hp=>(List.mem_append.mp hp).elim (λ z=>I.pin p (List.mem_append_right _ z)) λ z=>by
  obtain ⟨hb,e⟩:=xi z;obtain ⟨f0,f1,f2,_⟩:=hf p.1 hb;obtain ⟨o,e',d⟩:=ho p.1 hb;rw [e] at e';cases e';exact ⟨e,f0,f1,f2,d⟩
theorem aL.unpinned {pins pl:List (Addr×Obj)} {σ:St} {H:Hp} {s:Shared} (I:aL X (pins++pl) σ H s):aL X pins σ H s:=I.pins_of λ p hp=>I.pin p (List.mem_append_right _ (List.mem_append_left _ hp))
theorem Kk {iter:Expr} {body:List Stmt} {wi:TI} {g:TG} {tb:TS} {pos:Pos} (hp:PassesOwn (model X.prog X.w) X.A X.env X.xe) (hc:X.calm=true) (hi:PI X tg iter wi) (hg:PG X tg g) (hb:u3 X body tb)
 (hs:∀ x,foldedSetIterable iter X.env x=pure x):PS X (.For tg iter body [] pos) (Ea wi g tb):=by
 intro pins s σ H D I h;refine wpAny_For (cE (hi pins s σ H _ I h) λ v s1 h1=>cE h1 λ itv s2 h2=>?_) hs;obtain ⟨it,fp,tn,J,H2,e,I2,T,st2,f2,W,⟨m0,w0⟩,turn⟩:=h2;subst e;have stat:∀ {H':Hp},(∀ b∈fp,H' b=none)->∀ b∈fp,lI X pins H' b:=λ hn b hb=>⟨hn b hb,(f2 b hb).2⟩
 refine codeAny_forLoop_any (λ n s'=>∃ i σ' H',aL X pins σ' H' s'/\tn i s'.heap/\(∀ b∈fp,H' b=none)/\W i n σ' H') ?_ m0 ⟨0,σ,H2,I2,st2,λ b hb=>(f2 b hb).1,w0⟩;rintro n s3 ⟨i,σ3,H3,I3,st3,fr3,w3⟩;rcases turn i n σ3 H3 w3 with ⟨stop,qn⟩ | ⟨go,N,hN,step⟩
 . refine wpAny_passesOwn hp (cE (T.done X rfl rfl rfl hc i pins s3 σ3 H3 X.xe I3 (stat fr3) st3 stop) λ r s4 ⟨hr,I4⟩=>?_);subst hr;exact wpAny_execs_nil ⟨σ3,H3,I4,qn⟩
 . refine wpAny_passesOwn hp (cE (T.item X rfl rfl rfl hc i pins s3 σ3 H3 X.xe I3 (stat fr3) st3 go) λ r s4 ⟨u,hr,h4⟩=>?_);subst hr;refine wpAny_passesOwn hp (cE h4 λ _ s5 hq0=>?_);obtain ⟨x,H5,I5,r5,y5,st5,fr5⟩:=hq0;have I5':=I5.pinned (stat fr5) (T.obj _ _ st5);refine wpAny_passesOwn hp (cE (hg _ s5 σ3 H5 x u _ I5' r5 (step x H5 y5)) λ _ s6 hq0=>?_);obtain ⟨σ6,H6,I6,q6⟩:=hq0;refine wpAny_passesOwn hp (cE (hb _ s6 σ6 H6 _ I6 q6) λ f s7 q7=>?_);have again:∀ {σ7:St} {H7:Hp},aL X (pins++lQ fp s5.heap) σ7 H7 s7->N σ7 H7->∃ m,m<n/\∃ i σ' H',aL X pins σ' H' s7/\tn i s7.heap/\(∀ b∈fp,H' b=none)/\W i m σ' H':=λ {σ7 H7} I7 n7=>by
    obtain ⟨m',hm,w7⟩:=hN σ7 H7 n7;refine ⟨m',hm,i+1,σ7,H7,I7.unpinned,T.keep _ _ _ st5 λ b hb o e=>(I7.pin (b,o) (List.mem_append_right _ (List.mem_append_right _ (i9 hb e)))).1,λ b hb=>?_,w7⟩;obtain ⟨o,e,d⟩:=T.obj _ _ st5 b hb;exact (I7.pin (b,o) (List.mem_append_right _ (List.mem_append_right _ (i9 hb e)))).2.1
   cases f with
   | next=>obtain ⟨σ7,H7,I7,n7⟩:=q7;exact again I7 n7
   | cont=>obtain ⟨σ7,H7,I7,n7⟩:=q7;exact again I7 n7
   | brk=>obtain ⟨σ7,H7,I7,q7⟩:=q7;exact ⟨σ7,H7,I7.unpinned,q7⟩
   | ret v=>obtain ⟨x7,σ7,H7,I7,r7,q7⟩:=q7;exact ⟨x7,σ7,H7,I7.unpinned,r7,q7⟩
end
end L2
namespace L2
open PySem PySem.Spec PyProof.Rows
open PySem.W (Frag)
noncomputable abbrev R2:=V->V->Hp->VK->Prop
noncomputable def gp (X:Cx) (f:Value->Value->Sem Value) (r:R2):Prop:=
 ∀ (pins:List (Addr×Obj)) (s:Shared) (σ:St) (H:Hp) (x y:V) (v u:Value) (Q:VK),aL X pins σ H s->bq x v->bq y u->r x y H Q->
  wpAny (model X.prog X.w) X.A (f v u) (EP X pins σ Q) X.xe s
noncomputable def J6 (X:Cx) (f:Value->Sem Value) (r:V->Hp->VK->Prop):Prop:=
 ∀ (pins:List (Addr×Obj)) (s:Shared) (σ:St) (H:Hp) (x:V) (v:Value) (Q:VK),aL X pins σ H s->bq x v->r x H Q->
  wpAny (model X.prog X.w) X.A (f v) (EP X pins σ Q) X.xe s
noncomputable def cm (X:Cx) (f:Value) (r:List V->Hp->VK->Prop):Prop:=
 ∀ (pins:List (Addr×Obj)) (s:Shared) (σ:St) (H:Hp) (xs:List V) (us:List Value) (Q:VK),aL X pins σ H s->ba xs us->r xs H Q->
  wpAny (model X.prog X.w) X.A (call f us) (EP X pins σ Q) X.xe s
noncomputable def qp (r:R2) (ta tb:TE):TE:=λ σ H Q=>ta σ H λ x H1=>tb σ H1 λ y H2=>r x y H2 Q
noncomputable def Lx (r:V->Hp->VK->Prop) (ta:TE):TE:=λ σ H Q=>ta σ H λ x H1=>r x H1 Q
noncomputable def rI (C:Int->Int->Prop) (g:Int->Int->V):R2:=λ x y H Q=>∃ i j,x=.int i/\y=.int j/\C i j/\Q (g i j) H
noncomputable def yd (g:Int->Int->V):R2:=λ x y H Q=>∃ i j,x=.int i/\y=.int j/\Q (g i j) H
noncomputable def rU (g:Int->V):V->Hp->VK->Prop:=λ x H Q=>∃ i,x=.int i/\Q (g i) H
section
variable {X:Cx} {a b c:Expr} {ta tb tc:TE} {pos:Pos}
theorem Fs (ha:PE X a ta) (hb:PE X b tb) {pins:List (Addr×Obj)} {s:Shared} {σ:St} {H:Hp} {R:V->V->Hp->Prop} (I:aL X pins σ H s)
 (h:ta σ H λ x H1=>tb σ H1 λ y H2=>R x y H2) {Q:Value->Shared->Prop} {f:Value->Value->Sem Value}
 (hf:∀ v u s2 x y H2,aL X pins σ H2 s2->bq x v->bq y u->R x y H2->wpAny (model X.prog X.w) X.A (f v u) Q X.xe s2):
 wpAny (model X.prog X.w) X.A (eval a X.env) (λ v s₁=>wpAny (model X.prog X.w) X.A (eval b X.env) (λ u s₂=>wpAny (model X.prog X.w) X.A (f v u) Q X.xe s₂) X.xe s₁) X.xe s:=by
 refine cE (ha pins s σ H _ I h) λ v s1 hq0=>?_;obtain ⟨x,H1,I1,r1,q1⟩:=hq0;refine cE (hb pins s1 σ H1 _ I1 q1) λ u s2 hq0=>?_;obtain ⟨y,H2,I2,r2,q2⟩:=hq0;exact hf v u s2 x y H2 I2 r1 r2 q2
theorem L3 {op:Operator} {r:R2} (ho:gp X (binaryOp op) r) (ha:PE X a ta) (hb:PE X b tb):PE X (.BinOp a op b pos) (qp r ta tb):=by
 intro pins s σ H Q I h;exact wpAny_BinOp (Fs ha hb I h λ v u s2 x y H2 I2 rx ry q=>ho pins s2 σ H2 x y v u Q I2 rx ry q)
theorem L6 {op:UnaryOp} {r:V->Hp->VK->Prop} (ho:J6 X (unaryOp op) r) (ha:PE X a ta):PE X (.UnaryOp op a pos) (Lx r ta):=by
 intro pins s σ H Q I h;exact UnaryOp_ (cE (ha pins s σ H _ I h) λ v s1 hy0=>by obtain ⟨x,H1,I1,r1,q1⟩:=hy0;exact ho pins s1 σ H1 x v Q I1 r1 q1)
theorem GO {f:Value->Value->Sem Value} {C:Int->Int->Prop} {g:Int->Int->Int}
 (rule:∀ (i j:Int) (t u:Tok) (s:Shared) (Q:Value->Shared->Prop) (E:Value->Shared->Prop),C i j->Q (.int (g i j) s.toks) { s with toks:=s.toks+1 }->wpAny (model X.prog X.w) X.A (f (.int i t) (.int j u)) Q E s):
 gp X f (rI C λ i j=>.int (g i j)):=by
 intro pins s σ H x y v u Q I rx ry h;obtain ⟨i,j,rfl,rfl,hc,q⟩:=h;obtain ⟨t,rfl⟩:=rx;obtain ⟨t',rfl⟩:=ry;exact rule i j t t' s _ _ hc ⟨.int (g i j),H,I.tok _,⟨_,rfl⟩,q⟩
theorem H9 {f:Value->Value->Sem Value} {g:Int->Int->Int}
 (rule:∀ (i j:Int) (t u:Tok) (s:Shared) (Q:Value->Shared->Prop) (E:Value->Shared->Prop),Q (.int (g i j) s.toks) { s with toks:=s.toks+1 }->wpAny (model X.prog X.w) X.A (f (.int i t) (.int j u)) Q E s):
 gp X f (yd λ i j=>.int (g i j)):=by
 intro pins s σ H x y v u Q I rx ry h;obtain ⟨i,j,rfl,rfl,q⟩:=h;obtain ⟨t,rfl⟩:=rx;obtain ⟨t',rfl⟩:=ry;exact rule i j t t' s _ _ ⟨.int (g i j),H,I.tok _,⟨_,rfl⟩,q⟩
theorem HN {f:Value->Value->Sem Value} {g:Int->Int->Bool}
 (rule:∀ (i j:Int) (t u:Tok) (s:Shared) (Q:Value->Shared->Prop) (E:Value->Shared->Prop),Q (.bool (g i j)) s->wpAny (model X.prog X.w) X.A (f (.int i t) (.int j u)) Q E s):
 gp X f (yd λ i j=>.bl (g i j)):=by
 intro pins s σ H x y v u Q I rx ry h;obtain ⟨i,j,rfl,rfl,q⟩:=h;obtain ⟨t,rfl⟩:=rx;obtain ⟨t',rfl⟩:=ry;exact rule i j t t' s _ _ ⟨.bl (g i j),H,I,rfl,q⟩
noncomputable def HI (i j:Int):Prop:=0<=j/\j<=1000000/\i.natAbs<2^64
noncomputable def AI (i j:Int):Prop:=(-(2^64)<i/\i<2^64)∨(-(2^64)<j/\j<2^64)
theorem AI.ok {i j:Int} (h:AI i j):IntMulOk i j:=by
 rcases h with ⟨h1,h2⟩ | ⟨h1,h2⟩
 . exact .of_left (intBits_le_64 h1 h2)
 . exact .of_right (intBits_le_64 h1 h2)
theorem E1:gp X (binaryOp .Add) (yd λ i j=>.int (i+j)):=H9 λ _ _ _ _ _ _ _ q=>add_int q
theorem KH:gp X (binaryOp .Sub) (yd λ i j=>.int (i-j)):=H9 λ _ _ _ _ _ _ _ q=>sub_int q
theorem EY:gp X (binaryOp .Mult) (rI AI λ i j=>.int (i*j)):=GO λ _ _ _ _ _ _ _ hc q=>mul_int q hc.ok
theorem BJ:gp X (binaryOp .Mod) (rI (λ _ j=>j≠0) λ i j=>.int (i.fmod j)):=GO λ _ _ _ _ _ _ _ hc q=>mod_int' hc q
theorem Ka:gp X (binaryOp .Pow) (rI HI λ i j=>.int (i^j.toNat)):=GO λ _ _ _ _ _ _ _ hc q=>pow_int_small hc.1 hc.2.1 hc.2.2 q
theorem LR {f:Value->Sem Value} {g:Int->Int}
 (rule:∀ (i:Int) (t:Tok) (s:Shared) (Q:Value->Shared->Prop) (E:Value->Shared->Prop),Q (.int (g i) s.toks) { s with toks:=s.toks+1 }->wpAny (model X.prog X.w) X.A (f (.int i t)) Q E s):
 J6 X f (rU λ i=>.int (g i)):=by
 intro pins s σ H x v Q I rx h;obtain ⟨i,rfl,q⟩:=h;obtain ⟨t,rfl⟩:=rx;exact rule i t s _ _ ⟨.int (g i),H,I.tok _,⟨_,rfl⟩,q⟩
theorem Ki:J6 X (unaryOp .USub) (rU λ i=>.int (-i)):=LR λ _ _ _ _ _ q=>neg_int q
end
noncomputable def Eh:V->V->Bool
 | .non,.non=>true | .non,.int _=>true | .int _,.non=>true | .non,.bl _=>true | .bl _,.non=>true | .non,.str _=>true | .str _,.non=>true
 | .int _,.int _=>true | .bl _,.bl _=>true | .str _,.str _=>true | .byt _,.byt _=>true
 | .int _,.str _=>true | .str _,.int _=>true | .bl _,.str _=>true | .str _,.bl _=>true
 | _,_=>false
noncomputable def Lu:R2:=λ x y H Q=>Eh x y=true/\Q (.bl (decide (x=y))) H
noncomputable def L0:R2:=λ x y H Q=>Eh x y=true/\Q (.bl (!decide (x=y))) H
theorem vF {i j:Int}:decide (V.int i=V.int j)=(i==j):=by
 rw [Bool.eq_iff_iff];simp
theorem yQ {i j:Bool}:decide (V.bl i=V.bl j)=(i==j):=by
 rw [Bool.eq_iff_iff];simp
theorem vQ {i j:Str}:decide (V.str i=V.str j)=(i==j):=by
 rw [Bool.eq_iff_iff];simp
theorem vD {i j:Array UInt8}:decide (V.byt i=V.byt j)=(i.toList==j.toList):=by
 rw [Bool.eq_iff_iff];cases i;cases j;simp
section
variable {X:Cx} {a b c:Expr} {ta tb tc:TE} {pos:Pos}
theorem bj {pins:List (Addr×Obj)} {σ:St} {H:Hp} {s:Shared} {Q:VK} {k k':Bool} (I:aL X pins σ H s) (q:Q (.bl k) H) (e:k=k'):EP X pins σ Q (.bool k') s:=by
 subst e;exact ⟨.bl k,H,I,rfl,q⟩
theorem Hh:gp X (compareOp .Eq) Lu:=by
 intro pins s σ H x y v u Q I rx ry h;obtain ⟨hs,q⟩:=h;cases x with
 | non=>
  cases rx;cases y with
  | non=>cases ry;exact PySem.EqNone.eq_none_none (bj I q (by simp))
  | bl j=>cases ry;exact PySem.EqNone.eq_none_bool (bj I q (by simp))
  | int j=>obtain ⟨t',rfl⟩:=ry;exact PySem.EqNone.eq_none_int (bj I q (by simp))
  | str j=>obtain ⟨t',rfl⟩:=ry;exact PySem.EqNone.eq_none_str (bj I q (by simp))
  | _=>exact absurd (show false=true from hs) Bool.false_ne_true
 | bl i=>
  cases rx;cases y with
  | non=>cases ry;exact PySem.EqNone.eq_bool_none (bj I q (by simp))
  | bl j=>cases ry;exact eq_bool (bj I q yQ)
  | str j=>obtain ⟨t',rfl⟩:=ry;exact PySem.EqMixed.eq_bool_str (bj I q (by simp))
  | _=>exact absurd (show false=true from hs) Bool.false_ne_true
 | int i=>
  obtain ⟨t,rfl⟩:=rx;cases y with
  | non=>cases ry;exact PySem.EqNone.eq_int_none (bj I q (by simp))
  | int j=>obtain ⟨t',rfl⟩:=ry;exact eq_int (bj I q vF)
  | str j=>obtain ⟨t',rfl⟩:=ry;exact PySem.EqMixed.eq_int_str (bj I q (by simp))
  | _=>exact absurd (show false=true from hs) Bool.false_ne_true
 | str i=>
  obtain ⟨t,rfl⟩:=rx;cases y with
  | non=>cases ry;exact PySem.EqNone.eq_str_none (bj I q (by simp))
  | bl j=>cases ry;exact PySem.EqMixed.eq_str_bool (bj I q (by simp))
  | int j=>obtain ⟨t',rfl⟩:=ry;exact PySem.EqMixed.eq_str_int (bj I q (by simp))
  | str j=>obtain ⟨t',rfl⟩:=ry;exact eq_str (bj I q vQ)
  | _=>exact absurd (show false=true from hs) Bool.false_ne_true
 | byt i=>
  obtain ⟨t,rfl⟩:=rx;cases y with
  | byt j=>obtain ⟨t',rfl⟩:=ry;exact PySem.W.eq_bytes (bj I q vD)
  | _=>exact absurd (show false=true from hs) Bool.false_ne_true
 | _=>cases y <;> exact absurd (show false=true from hs) Bool.false_ne_true
theorem GD:gp X (compareOp .NotEq) L0:=by
 intro pins s σ H x y v u Q I rx ry h;obtain ⟨hs,q⟩:=h;cases x with
 | non=>
  cases rx;cases y with
  | non=>cases ry;exact PySem.EqNone.ne_none_none (bj I q (by simp))
  | bl j=>cases ry;exact PySem.EqNone.ne_none_bool (bj I q (by simp))
  | int j=>obtain ⟨t',rfl⟩:=ry;exact PySem.EqNone.ne_none_int (bj I q (by simp))
  | str j=>obtain ⟨t',rfl⟩:=ry;exact PySem.EqNone.ne_none_str (bj I q (by simp))
  | _=>exact absurd (show false=true from hs) Bool.false_ne_true
 | bl i=>
  cases rx;cases y with
  | non=>cases ry;exact PySem.EqNone.ne_bool_none (bj I q (by simp))
  | bl j=>cases ry;exact ne_bool (bj I q (congrArg not yQ))
  | str j=>obtain ⟨t',rfl⟩:=ry;exact PySem.EqMixed.ne_bool_str (bj I q (by simp))
  | _=>exact absurd (show false=true from hs) Bool.false_ne_true
 | int i=>
  obtain ⟨t,rfl⟩:=rx;cases y with
  | non=>cases ry;exact PySem.EqNone.ne_int_none (bj I q (by simp))
  | int j=>obtain ⟨t',rfl⟩:=ry;exact ne_int (bj I q (congrArg not vF))
  | str j=>obtain ⟨t',rfl⟩:=ry;exact PySem.EqMixed.ne_int_str (bj I q (by simp))
  | _=>exact absurd (show false=true from hs) Bool.false_ne_true
 | str i=>
  obtain ⟨t,rfl⟩:=rx;cases y with
  | non=>cases ry;exact PySem.EqNone.ne_str_none (bj I q (by simp))
  | bl j=>cases ry;exact PySem.EqMixed.ne_str_bool (bj I q (by simp))
  | int j=>obtain ⟨t',rfl⟩:=ry;exact PySem.EqMixed.ne_str_int (bj I q (by simp))
  | str j=>obtain ⟨t',rfl⟩:=ry;exact ne_str (bj I q (congrArg not vQ))
  | _=>exact absurd (show false=true from hs) Bool.false_ne_true
 | byt i=>
  obtain ⟨t,rfl⟩:=rx;cases y with
  | byt j=>obtain ⟨t',rfl⟩:=ry;exact PySem.W.ne_bytes (bj I q (congrArg not vD))
  | _=>exact absurd (show false=true from hs) Bool.false_ne_true
 | _=>cases y <;> exact absurd (show false=true from hs) Bool.false_ne_true
theorem L7:gp X (compareOp .Lt) (yd λ i j=>.bl (decide (i<j))):=HN λ _ _ _ _ _ _ _ q=>lt_int q
theorem L1:gp X (compareOp .Gt) (yd λ i j=>.bl (decide (j<i))):=HN λ _ _ _ _ _ _ _ q=>gt_int q
theorem KA:gp X (compareOp .Is) (λ x y H Q=>y=.non/\Q (.bl (decide (x=.non))) H):=by
 intro pins s σ H x y v u Q I rx ry h;obtain ⟨rfl,q⟩:=h;cases ry;refine is_none_gen (bj I q ?_);cases x <;> first
  | (cases rx;rfl)
  | (obtain ⟨t,rfl⟩:=rx;rfl)
theorem Je:gp X (compareOp .IsNot) (λ x y H Q=>y=.non/\Q (.bl (!decide (x=.non))) H):=by
 intro pins s σ H x y v u Q I rx ry h;obtain ⟨rfl,q⟩:=h;cases ry;refine isnot_none_gen (bj I q ?_);cases x <;> first
  | (cases rx;rfl)
  | (obtain ⟨t,rfl⟩:=rx;rfl)
theorem gp.or {f:Value->Value->Sem Value} {r r':R2} (h:gp X f r) (h':gp X f r'):gp X f (λ x y H Q=>r x y H Q∨r' x y H Q):=by
 intro pins s σ H x y v u Q I rx ry q;rcases q with q | q
 . exact h pins s σ H x y v u Q I rx ry q
 . exact h' pins s σ H x y v u Q I rx ry q
theorem Jb {op:CmpOp} {r:R2} (ho:gp X (compareOp op) r) (ha:PE X a ta) (hb:PE X b tb) (hm:behindInMarks op b=false):PE X (.Compare a [op] [b] pos) (qp r ta tb):=by
 intro pins s σ H Q I h;exact wpAny_Compare1 (Fs ha hb I h λ v u s2 x y H2 I2 rx ry q=>ho pins s2 σ H2 x y v u Q I2 rx ry q) hm
noncomputable def tI (t:TE):TT:=λ σ H Q=>t σ H λ x H'=>∃ k,x=.bl k/\Q k H'
theorem Jx {op:CmpOp} {r:R2} (ho:gp X (compareOp op) r) (ha:PE X a ta) (hb:PE X b tb) (hm:behindInMarks op b=false):PT X (.Compare a [op] [b] pos) (tI (qp r ta tb)):=by
 intro pins s σ H Q I h;refine wpAny_isTrue_Compare1 (cE (ha pins s σ H _ I h) λ v s1 hy0=>?_) hm;obtain ⟨x,H1,I1,r1,q1⟩:=hy0;refine cE (hb pins s1 σ H1 _ I1 q1) λ u s2 hy0=>?_;obtain ⟨y,H2,I2,r2,q2⟩:=hy0;refine
  cE (ho pins s2 σ H2 x y v u _ I2 r1 r2 q2) λ c s3 ⟨z,H3,I3,r3,k,e,q3⟩=>?_
 subst e;cases r3;exact wpAny_truthy_bool ⟨H3,I3,q3⟩
theorem ls:(sizeLine:Nat)<2^63:=by rw [sizeLine_eq];decide
theorem uX:gp X (binaryOp .Add) (λ x y H Q=>∃ i j,x=.str i/\y=.str j/\i.length+j.length<=sizeLine/\Q (.str (i++j)) H):=by
 intro pins s σ H x y v u Q I rx ry h;obtain ⟨i,j,rfl,rfl,hz,q⟩:=h;obtain ⟨t,rfl⟩:=rx;obtain ⟨t',rfl⟩:=ry;exact add_str (λ t' tk=>⟨.str (i++j),H,I.tok _,⟨_,rfl⟩,q⟩) hz
theorem mz {x:V} {us:List Value} (r:ba [x] us):∃ u,us=[u]/\bq x u:=by
 cases r with
 | cons r1 r2=>cases r2;exact ⟨_,rfl,r1⟩
theorem GP {x y:V} {us:List Value} (r:ba [x,y] us):∃ u w',us=[u,w']/\bq x u/\bq y w':=by
 cases r with
 | cons r1 r2=>
  cases r2 with
  | cons r3 r4=>cases r4;exact ⟨_,_,rfl,r1,r3⟩
end
end L2
namespace L2
open PySem PySem.Spec PyProof.Rows
open PySem.W (Frag)
structure tY (h:Heap) (x dx C:Addr) (mA:Str->Option Value):Prop where
 obj:h.get? x=some (PySem.W.instObj C dx)
 ns:h.Ns1 dx mA
 ne:dx≠x
theorem wT {h:Heap} {dx:Addr} {mA:Str->Option Value} (n:h.Ns1 dx mA):∃ od,h.get? dx=some od/\∀ name,PySem.W.lookIn name od=some (mA name):=by
 obtain ⟨o,es,ep,ho,hd,hk,_,hm⟩:=n;refine ⟨o,ho,λ name=>?_⟩;have e:=hm name;unfold nsFind findBy at e;rw [<-Array.find?_toList] at e;unfold PySem.W.lookIn;rw [hd];dsimp only;split
 . rename_i y q;rw [q] at e;exact congrArg some e
 . rename_i q;rw [q] at e;have a:es.toList.any (·.refKey)=false:=by
    rw [List.any_eq_false];intro y hy;obtain ⟨z,t,hkey⟩:=hk y (Array.mem_toList_iff.mp hy);simp [DictEntry.refKey,hkey]
   have a':¬ es.toList.any (·.refKey)=true:=by rw [a];exact Bool.false_ne_true
   rw [if_neg a'];exact congrArg some e
theorem tY.look {h:Heap} {x dx C:Addr} {mA:Str->Option Value} (I:tY h x dx C mA):∃ od,PySem.W.InstAt h x (PySem.W.instObj C dx) C (some od)/\∀ name,PySem.W.lookIn name od=some (mA name):=
 let ⟨od,ho,hl⟩:=wT I.ns
 ⟨od,⟨I.obj,rfl,rfl,ho⟩,hl⟩
section
variable {prog:Program} {w:World} {A:Around} {E:Value->Shared->Prop} {s:Shared} {K:Frag} {x dx C f:Addr} {mA:Str->Option Value} {name:Str} {v:Value}
theorem AG {expr:Bool} {Q:Value->Shared->Prop} (X:K.In s.heap) (I:tY s.heap x dx C mA) (hg:PySem.W.plainGet K C name=true) (hh:PySem.W.hasDictIn K C=true)
 (ha:PySem.W.findIn K (.ref C) name=some none) (hv:mA name=some v) (hv':PySem.W.handedIn v=true) (h:Q v { s with toks:=s.toks+1 }):
 wpAny (model prog w) A (getAttr (.ref x) name expr) Q E s:=by
 obtain ⟨od,J,hl⟩:=I.look;exact PySem.W.get_value X J (PySem.W.plainGet_of hg).1 (PySem.W.findObj_own hh ha rfl (by rw [hl,hv])) hv' h
theorem Ae {pl:Sem Bool} {Q:Value×List Value->Shared->Prop} (X:K.In s.heap) (I:tY s.heap x dx C mA) (hg:PySem.W.plainGet K C name=true)
 (hf:PySem.W.findIn K (.ref C) name=some (some (.ref f))) (ht:PySem.W.isFn K (.ref f)=true) (hv:mA name=none) (h:Q (.ref f,[.ref x]) s):
 wpAny (model prog w) A (getMethod (.ref x) name pl) Q E s:=by
 obtain ⟨od,J,hl⟩:=I.look;exact PySem.W.method_fn X J (PySem.W.plainGet_of hg).1 (PySem.W.plainGet_of hg).2 hf (beq_iff_eq.mp ht) (by show (PySem.W.lookIn name od).map (·.isSome)=some false;rw [hl,hv];rfl) h
theorem Bs {ns:List Str} {Q:Unit->Shared->Prop} (X:K.In s.heap) (I:tY s.heap x dx C mA)
 (hs:PySem.W.findIn K (.ref C) "__setattr__" = some (some (.builtin "object.__setattr__"))) (hp:PySem.W.plainOver K C=true) (ht:PySem.W.takerIn K C name=some none) (hh:PySem.W.hasDictIn K C=true)
 (hw:PySem.Within mA ns) (hsz:ns.length<=sizeLine)
 (h:∀ h',tY h' x dx C (λ y=>if y=name then some v else mA y)->Heap.SameBut dx s.heap h'->Q () { s with heap:=h',toks:=s.toks+2 }):
 wpAny (model prog w) A (setAttr (.ref x) name v) Q E s:=by
 obtain ⟨od,J,hl⟩:=I.look;refine PySem.W.set_plain X J hs (PySem.W.osa_open (s:={ s with toks:=s.toks+1 }) (r:=none) X J hp ht λ b=>?_);obtain ⟨cd,hc,hd'⟩:=PySem.W.any_some hh;have hx:s.heap.get? x=some ⟨.ref C,some dx,.plain,#[]⟩:=I.obj;refine wpAny_bind (wpAny_pure (wpAny_bind (wpAny_bind (wpAny_loadPart hx (wpAny_bind (PySem.W.Looks.here (s:={ s with toks:=s.toks+1 }) (PySem.W.looks_clsIn X hc) ?_))))));rw [hd'];refine wpAny_pure (a:=some dx) (wpAny_bind (wpAny_pure (wpAny_bind ?_)));refine wpAny_nsSet1 (s:={ s with toks:=s.toks+1 }) I.ns λ h' hn2 hs2=>?_;obtain ⟨oD,esD,epD,hoD,hdD,hcD⟩:=hn2.count (PySem.Within.cons name v hw);refine wpAny_bind (wpAny_lookBehind hoD (by rw [hdD];exact pastItsLine_dict (Nat.le_trans hcD (by rw [List.length_cons];omega))) ?_);exact wpAny_pure (h _ ⟨(hs2.2 _ (Ne.symm I.ne)).trans I.obj,hn2,I.ne⟩ hs2)
theorem A1 {R:Result->Shared->Prop} {vs:List Value} {kw:List (Str×Value)} (X:K.In s.heap) (hm:PySem.W.makesIn K C=true)
 (hi:PySem.W.findIn K (.ref C) "__init__" = some (some (.ref f))) (hf:PySem.W.typeIn K (.ref f)=some (.type "function"))
 (h:codeAny (model prog w) (A.under (.builtin "type.__call__" ⟨.ref C::vs,kw⟩)) (.call (.ref f) ⟨.ref (s.heap.objs.size+1)::vs,kw⟩) (PySem.W.InitBack (s.heap.objs.size+1) R)
  { s with heap:=(s.heap.push PySem.W.emptyDict).push (PySem.W.instObj C s.heap.objs.size) }):
 codeAny (model prog w) A (.call (.ref C) ⟨vs,kw⟩) R s:=by
 obtain ⟨hh,g,d,t,os⟩:=s;exact PySem.W.make_core (PySem.W.makes_of X hm) (PySem.W.looks_findIn X hi) (λ self=>PySem.W.bind_fn X self hf) (.inl rfl) h
end
noncomputable def putF (f:Str) (v:V):List (Str×V)->List (Str×V)
 | []=>[(f,v)]
 | (g,x)::r=>if g=f then (g,v)::r else (g,x)::putF f v r
theorem mv (f g:Str) (v:V):∀ fs:List (Str×V),(putF f v fs).lookup g=if g=f then some v else fs.lookup g
 | []=>by
  show List.lookup g [(f,v)]=_;by_cases h:g=f
  . have hb:(g==f)=true:=beq_iff_eq.mpr h;simp only [List.lookup,hb,if_pos h]
  . have hb:(g==f)=false:=beq_eq_false_iff_ne.mpr h;simp only [List.lookup,hb,if_neg h]
 | (k,x)::r=>by
  have ih:=mv f g v r;rw [show putF f v ((k,x)::r)=(if k=f then (k,v)::r else (k,x)::putF f v r) from rfl];by_cases hk:k=f
  . rw [if_pos hk];by_cases h:g=k
    . have hb:(g==k)=true:=beq_iff_eq.mpr h;simp only [List.lookup,hb,if_pos (h.trans hk)]
    . have hb:(g==k)=false:=beq_eq_false_iff_ne.mpr h;simp only [List.lookup,hb,if_neg (λ e:g=f=>h (e.trans hk.symm))]
  . rw [if_neg hk];by_cases h:g=k
    . have hb:(g==k)=true:=beq_iff_eq.mpr h;simp only [List.lookup,hb,if_neg (λ e:g=f=>hk (h.symm.trans e))]
    . have hb:(g==k)=false:=beq_eq_false_iff_ne.mpr h;simp only [List.lookup,hb];exact ih
theorem lL (f:Str) (v:V):∀ fs:List (Str×V),f∈(putF f v fs).map (·.1)/\∀ g,g∈fs.map (·.1)->g∈(putF f v fs).map (·.1)
 | []=>⟨by simp [putF],λ g h=>by simp at h⟩
 | (k,x)::r=>by
  obtain ⟨i1,i2⟩:=lL f v r;rw [show putF f v ((k,x)::r)=(if k=f then (k,v)::r else (k,x)::putF f v r) from rfl];by_cases hk:k=f
  . rw [if_pos hk];subst hk;exact ⟨by simp,λ g h=>by simpa using h⟩
  . rw [if_neg hk];refine ⟨?_,λ g h=>?_⟩
    . rw [List.map_cons];exact List.mem_cons_of_mem _ i1
    . rw [List.map_cons] at h ⊢;rcases List.mem_cons.mp h with e | e
      . exact List.mem_cons.mpr (.inl e)
      . exact List.mem_cons_of_mem _ (i2 g e)
theorem mB (f:Str) (v:V):∀ fs:List (Str×V),(putF f v fs).length<=fs.length+1
 | []=>by simp [putF]
 | (k,x)::r=>by
  have ih:=mB f v r;rw [show putF f v ((k,x)::r)=(if k=f then (k,v)::r else (k,x)::putF f v r) from rfl];by_cases hk:k=f
  . rw [if_pos hk,List.length_cons,List.length_cons];omega
  . rw [if_neg hk,List.length_cons,List.length_cons];omega
theorem jw.some_of {v:V} {o:Option Value} (r:jw (some v) o):∃ u,o=some u/\bq v u:=by
 cases o with
 | none=>exact (show False from r).elim
 | some u=>exact ⟨u,rfl,r⟩
theorem jw.none_of {o:Option Value} (r:jw none o):o=none:=by
 cases o with
 | none=>rfl
 | some u=>exact (show False from r).elim
theorem xP {v:V} {u:Value} (r:bq v u):PySem.W.handedIn u=true:=by
 cases v with
 | non=>cases (show u=Value.none from r);rfl
 | bl b=>cases (show u=Value.bool b from r);rfl
 | int i=>obtain ⟨t,e⟩:=(show ∃ t,u=Value.int i t from r);cases e;rfl
 | str x=>obtain ⟨t,e⟩:=(show ∃ t,u=Value.str x t from r);cases e;rfl
 | byt b=>obtain ⟨t,e⟩:=(show ∃ t,u=Value.bytes b t from r);cases e;rfl
 | flt b=>obtain ⟨t,e⟩:=(show ∃ t,u=Value.float b t from r);cases e;rfl
 | ref a=>cases (show u=Value.ref a from r);rfl
 | ty n=>cases (show u=Value.type n from r);rfl
section
variable {P:Program} {w:World} {H H':Hp} {h h':Heap} {a C dx:Addr} {fs fs':List (Str×V)}
theorem qU (hok:jP P w H h) (e:H a=some (.ins C dx fs)):∃ mA,tY h a dx C mA/\(∀ f,jw (fs.lookup f) (mA f))/\PySem.Within mA (fs.map (·.1))/\fs.length<=1000/\H dx=some (.own a):=by
 obtain ⟨d,z,ne,ob,mA,n,r,q⟩:=(show cQ P w H h a (.ins C dx fs) from hok a _ e)
 exact ⟨mA,⟨ob,n,ne⟩,r,q,z,d⟩
end
structure oo (K:Frag) (C:Addr):Prop where
 pg:PySem.W.plainGet K C Str.empty=true
 hd:PySem.W.hasDictIn K C=true
 po:PySem.W.plainOver K C=true
 sa:PySem.W.findIn K (.ref C) "__setattr__" = some (some (.builtin "object.__setattr__"))
theorem oo.get {K:Frag} {C:Addr} (c:oo K C) (f:Str):PySem.W.plainGet K C f=true:=c.pg
noncomputable def aE (K:Frag) (C:Addr) (f:Str):Prop:=PySem.W.findIn K (.ref C) f=some none
theorem aE.taker {K:Frag} {C:Addr} {f:Str} (n:aE K C f):PySem.W.takerIn K C f=some none:=by
 unfold PySem.W.takerIn;rw [show PySem.W.findIn K (.ref C) f=some none from n];rfl
structure jV (K:Frag) (C:Addr) (m:Str) (f:Addr):Prop where
 at_:PySem.W.findIn K (.ref C) m=some (some (.ref f))
 fn:PySem.W.isFn K (.ref f)=true
 kp:PySem.W.keepIn K (.ref f)=true
section
variable {X:Cx} {pins:List (Addr×Obj)} {σ:St} {H:Hp} {s:Shared} {a C dx:Addr} {fs:List (Str×V)} {f:Str} {v:V} {A:Around} {E:Value->Shared->Prop}
theorem vi {b:Bool} {Q:Value->Shared->Prop} (I:aL X pins σ H s) (e:H a=some (.ins C dx fs)) (c:oo X.K C) (n:aE X.K C f) (l:fs.lookup f=some v)
 (h:∀ u s',aL X pins σ H s'->bq v u->Q u s'):wpAny (model X.prog X.w) A (getAttr (.ref a) f b) Q E s:=by
 obtain ⟨mA,O,r,_,_,_⟩:=qU I.hok e;obtain ⟨u,hu,ru⟩:=jw.some_of (v:=v) (o:=mA f) (by rw [<-l];exact r f);exact AG I.kIn O (c.get f) c.hd n hu (xP ru) (h u _ (I.tok _) ru)
theorem nP {m:Str} {g:Addr} {pl:Sem Bool} {Q:Value×List Value->Shared->Prop} (I:aL X pins σ H s) (e:H a=some (.ins C dx fs)) (c:oo X.K C) (k:jV X.K C m g) (l:fs.lookup m=none)
 (h:Q (.ref g,[.ref a]) s):wpAny (model X.prog X.w) A (getMethod (.ref a) m pl) Q E s:=by
 obtain ⟨mA,O,r,_,_,_⟩:=qU I.hok e;have hn:mA m=none:=jw.none_of (by rw [<-l];exact r m);exact Ae I.kIn O (c.get m) k.at_ k.fn hn h
theorem uu {y:V} {u:Value} {Q:Unit->Shared->Prop} (I:aL X pins σ H s) (e:H a=some (.ins C dx fs)) (c:oo X.K C) (n:aE X.K C f) (hl:fs.length<1000) (ry:bq y u)
 (h:∀ s',aL X pins σ (cn H a (.ins C dx (putF f y fs))) s'->Q () s'):wpAny (model X.prog X.w) A (setAttr (.ref a) f u) Q E s:=by
 obtain ⟨mA,O,r,wi,_,ho⟩:=qU I.hok e;have hz:(fs.map (·.1)).length<=sizeLine:=by rw [List.length_map,sizeLine_eq];omega
 refine Bs I.kIn O c.sa c.po n.taker c.hd wi hz λ h' O' sb=>h _ ?_;have hd:∃ o,h'.get? dx=some o:=by obtain ⟨o,_,_,e',_⟩:=O'.ns;exact ⟨o,e'⟩
 refine I.write (x:=a) (e:=dx) (by rw [e];exact True.intro) (.inr ho) (λ b q hb z=>(sb.2 b hb).trans z) hd ?_;refine ⟨by rw [aM O.ne];exact ho,?_,O.ne,O'.obj,_,O'.ns,λ g=>?_,λ g hg=>?_⟩
 . have:=mB f y fs;omega
 . show jw ((putF f y fs).lookup g) (if g=f then some u else mA g);rw [mv];by_cases q:g=f
   . rw [if_pos q,if_pos q];exact ry
   . rw [if_neg q,if_neg q];exact r g
 . by_cases q:g=f
   . rw [q];exact (lL f y fs).1
   . refine (lL f y fs).2 g (wi g λ z=>hg ?_);show (if g=f then some u else mA g)=none;rw [if_neg q];exact z
theorem aL.made (I:aL X pins σ H s):aL X pins σ (cn (cn H s.heap.objs.size (.own (s.heap.objs.size+1))) (s.heap.objs.size+1) (.ins C s.heap.objs.size []))
 { s with heap:=(s.heap.push PySem.W.emptyDict).push (PySem.W.instObj C s.heap.objs.size) }:=by
 have e1:(s.heap.push PySem.W.emptyDict).get? s.heap.objs.size=some PySem.W.emptyDict:=Heap.get?_push_size s.heap rfl;have e2:((s.heap.push PySem.W.emptyDict).push (PySem.W.instObj C s.heap.objs.size)).get? (s.heap.objs.size+1)=some (PySem.W.instObj C s.heap.objs.size):=by
  have:=Heap.get?_push_size (s.heap.push PySem.W.emptyDict) (o:=PySem.W.instObj C s.heap.objs.size) rfl
  rwa [Heap.size_push] at this
 have e3:(s.heap.push PySem.W.emptyDict).Ns s.heap.objs.size (λ _=>none):=⟨PySem.W.emptyDict,#[],_,e1,rfl,(λ e he=>absurd he (by simp)),λ _=>rfl⟩
 have I1:=I.laid (a:=s.heap.objs.size) (o:=.own (s.heap.objs.size+1)) (h':=s.heap.push PySem.W.emptyDict) (t':=s.toks) (λ b u q=>Heap.get?_push_of_some _ q) (Nat.le_refl _) ⟨_,e1⟩;refine I1.laid (a:=s.heap.objs.size+1) (o:=.ins C s.heap.objs.size []) (t':=s.toks) (λ b u q=>Heap.get?_push_of_some _ q) (Nat.le_of_eq (Heap.size_push _ _)) ?_;have ne:s.heap.objs.size≠s.heap.objs.size+1:=Nat.ne_of_lt (Nat.lt_succ_self _);refine ⟨by rw [aM ne,aH],Nat.zero_le _,ne,e2,λ _=>none,(Heap.Ns1.of_empty e3).at λ o q=>Heap.get?_push_of_some _ q,λ _=>True.intro,λ y hy=>absurd rfl hy⟩
theorem Cp {prog:Program} {w:World} {env:Env} {e:Expr} {f:Str} {pos:Pos} {s:Shared} {Q:Value->Shared->Prop} (hb:attributeBase e f env (eval e env)=eval e env)
 (h:wpAny (model prog w) A (eval e env) (λ o s₁=>wpAny (model prog w) A (getAttr o f true) Q E s₁) E s):wpAny (model prog w) A (eval (.Attribute e f pos) env) Q E s:=
 Attribute_any_ h (by rw [arm_eval_Attribute,hb])
end
noncomputable def Fh (K:Frag) (ta:TE) (f:Str):TE:=λ σ H Q=>ta σ H λ x H1=>∃ a C dx fs v,x=.ref a/\H1 a=some (.ins C dx fs)/\oo K C/\aE K C f/\fs.lookup f=some v/\Q v H1
noncomputable def HE (K:Frag) (ta tv:TE) (f:Str):TS:=λ D σ H=>tv σ H λ y H1=>ta σ H1 λ x H2=>∃ a C dx fs,x=.ref a/\H2 a=some (.ins C dx fs)/\oo K C/\aE K C f/\fs.length<1000/\
 D.nx σ (cn H2 a (.ins C dx (putF f y fs)))
section
variable {X:Cx} {o e value:Expr} {f:Str} {pos pos' tpos:Pos} {ta tv:TE}
theorem FL (he:PE X e ta) (hb:attributeBase e f X.env (eval e X.env)=eval e X.env):PE X (.Attribute e f pos) (Fh X.K ta f):=by
 intro pins s σ H Q I h;refine Cp hb (cE (he pins s σ H _ I h) λ u s1 hq0=>?_);obtain ⟨x,H1,I1,rx,a,C,dx,fs,v,ex,ea,c,n,l,q⟩:=hq0;subst ex;obtain rfl:u=Value.ref a:=rx;exact vi I1 ea c n l λ u' s2 I2 ru=>⟨v,H1,I2,ru,q⟩
theorem Kr (ha:PE X o ta) (hv:PE X value tv) (hs:swapsWith value (some (.Attribute o f pos')) pos.line X.env=pure false):PS X (.Assign [.Attribute o f pos'] value pos) (HE X.K ta tv f):=by
 intro pins s σ H D I h;refine plainObj_wpAny_Assign_Attribute (cE (hv pins s σ H _ I h) λ u s1 hy0=>?_) hs;obtain ⟨y,H1,I1,ry,q⟩:=hy0;refine cE (ha pins s1 σ H1 _ I1 q) λ ov s2 hq0=>?_;obtain ⟨x,H2,I2,rx,a,C,dx,fs,ex,ea,c,n,l,q2⟩:=hq0;subst ex;obtain rfl:ov=Value.ref a:=rx;exact uu I2 ea c n l ry λ s3 I3=>⟨σ,_,I3,q2⟩
end
section
variable {X:Cx} {pins:List (Addr×Obj)} {σ:St} {H:Hp} {s:Shared} {A:Around} {E:Value->Shared->Prop} {Q:Value->Shared->Prop} {c:Value} {b:Bool}
end
end L2
namespace L2
open PySem PySem.Spec PyProof.Rows
open PySem.W (Frag)
structure dF (k:Nat) (A:Around):Prop where
 hd:A.handled=none
 dp:A.depth+3*k+5<recursionLimit
 un:A.units+16*k+200<cLine
theorem dF.mono {j k:Nat} {A:Around} (r:dF k A) (h:j<=k):dF j A:=⟨r.hd,by have:=r.dp;omega,by have:=r.un;omega⟩
theorem dF.deeper {k:Nat} {A:Around} (r:dF (k+1) A) (env:Env):dF k (A.deeper env):=
 ⟨r.hd,by have:=r.dp;show A.depth+1+3*k+5<_;omega,by have:=r.un;show A.units+3+16*k+200<_;omega⟩
theorem vb {A:Around} {C:Addr} {us:List Value} {kw:List (Str×Value)}:(A.under (.builtin "type.__call__" ⟨.ref C::us,kw⟩)).depth=A.depth+1:=by
 first | rfl | simp [Around.under,Code.weight,Code.isCreation,Code.isGuard,Code.isCaller,Code.frames,Code.isFrame,guardIds]
theorem uC {A:Around} {C:Addr} {us:List Value} {kw:List (Str×Value)}:(A.under (.builtin "type.__call__" ⟨.ref C::us,kw⟩)).units=A.units+1:=by
 first | rfl | simp [Around.under,Code.cUnits,Code.frames,Code.isFrame]
theorem dF.make {k:Nat} {A:Around} (r:dF (k+1) A) (C:Addr) (us:List Value) (kw:List (Str×Value)):dF k (A.under (.builtin "type.__call__" ⟨.ref C::us,kw⟩)):=
 ⟨r.hd,by have:=r.dp;rw [vb];omega,by have:=r.un;rw [uC];omega⟩
theorem dF.depth {k:Nat} {A:Around} (r:dF k A):A.depth<recursionLimit:=by have:=r.dp;omega
theorem dF.units {k:Nat} {A:Around} (r:dF k A):A.units+64<cLine:=by have:=r.un;omega
noncomputable def iH:TA:=λ _ H Q=>Q [] H
noncomputable def eC (ta:TE) (tr:TA):TA:=λ σ H Q=>ta σ H λ x H1=>tr σ H1 λ xs H2=>Q (x::xs) H2
section
variable {X:Cx} {e:Expr} {es:List Expr} {te:TE} {t:TA} {pos:Pos}
theorem KN:PA X [] iH:=λ _ _ _ _ H Q I h=>Calls.spliced_nil ⟨[],H,I,.nil,h⟩
theorem IU (ha:PE X e te) (hr:PA X es t) (hs:starEach (e::es) X.env=(false,eval e X.env)::starEach es X.env):PA X (e::es) (eC te t):=by
 intro pos pins s σ H Q I h;rw [hs];show wpAny _ _ (spliced ((false,eval e X.env)::backTo pos (starEach es X.env))) _ _ s;refine Calls.spliced_cons (cE (ha pins s σ H _ I h) λ u s1 hq0=>?_);obtain ⟨x,H1,I1,r1,q1⟩:=hq0;exact cE (hr pos pins s1 σ H1 _ I1 q1) λ us s2 hy0=>by obtain ⟨xs,H2,I2,r2,q2⟩:=hy0;exact ⟨x::xs,H2,I2,.cons r1 r2,q2⟩
end
noncomputable abbrev Sp:=List V->Hp->VK->XK->Prop
noncomputable abbrev vv:=List Env->Hp->Shared->XK->Value->Shared->Prop
structure ub (P:Program) (w:World) (K:Frag) (mg:Str->Option Value) (base:Heap) (A:Around) (outer:List Env) (s:Shared) (H:Hp):Prop where
 frames:A.frames=some outer
 mod:Mod K mg base
 bs:∀ b o,base.get? b=some o->s.heap.get? b=some o/\H b=none
 bsz:base.objs.size<=s.heap.objs.size
 funs:s.heap.FunFrames base outer
 frf:∀ b∈zO outer,H b=none
 hok:jP P w H s.heap
 bare:AllBare s.gens
noncomputable def CE (outer:List Env) (P:Program) (w:World) (H:Hp) (s:Shared) (Q:VK) (u:Value) (s':Shared):Prop:=
 ∃ v H',s'.os=s.os/\AllBare s'.gens/\Un (zO outer) [] H H' s.heap s'.heap/\jP P w H' s'.heap/\bq v u/\Q v H'
noncomputable def CR (CX:vv) (outer:List Env) (P:Program) (w:World) (H:Hp) (s:Shared) (Q:VK) (E:XK) (r:Result) (s':Shared):Prop:=
 match r with
 | .ok (.ret u)=>CE outer P w H s Q u s'
 | .ok _=>False
 | .error e=>CX outer H s E e s'
structure eF (P:Program) (w:World) (K:Frag) (mg:Str->Option Value) (base:Heap) (CX:vv) (k:Nat) (f:Addr) (fd:FuncData) (ps:List Str) (sp:Sp):Prop where
 len:∀ vs H Q E,sp vs H Q E->vs.length=ps.length
 run:∀ (A:Around) (outer:List Env) (s:Shared) (H:Hp) (args:Args) (us:List Value) (vs:List V) (Q:VK) (E:XK),dF k A->ub P w K mg base A outer s H->BindsTo s fd args (ps.zip us)->ba vs us->sp vs H Q E->
  codeAny (model P w) A (.call (.ref f) args) (CR CX outer P w H s Q E) s
theorem eF.mono {P:Program} {w:World} {K:Frag} {mg:Str->Option Value} {base:Heap} {CX:vv} {j k:Nat} {f:Addr} {fd:FuncData} {ps:List Str} {sp:Sp} (F:eF P w K mg base CX j f fd ps sp) (h:j<=k):
 eF P w K mg base CX k f fd ps sp:=⟨F.len,λ A outer s H args us vs Q E hr=>F.run A outer s H args us vs Q E (hr.mono h)⟩
theorem eF.imp {P:Program} {w:World} {K:Frag} {mg:Str->Option Value} {base:Heap} {CX:vv} {k:Nat} {f:Addr} {fd:FuncData} {ps:List Str} {sp sp':Sp} (F:eF P w K mg base CX k f fd ps sp)
 (h:∀ vs H Q E,sp' vs H Q E->sp vs H Q E):eF P w K mg base CX k f fd ps sp':=
 ⟨λ vs H Q E q=>F.len vs H Q E (h _ _ _ _ q),λ A outer s H args us vs Q E hr he hb hv hs=>F.run A outer s H args us vs Q E hr he hb hv (h _ _ _ _ hs)⟩
theorem ub.make {P:Program} {w:World} {K:Frag} {mg:Str->Option Value} {base:Heap} {A:Around} {outer:List Env} {s:Shared} {H:Hp} (e:ub P w K mg base A outer s H) (C:Addr) (us:List Value) (kw:List (Str×Value)):
 ub P w K mg base (A.under (.builtin "type.__call__" ⟨.ref C::us,kw⟩)) outer s H:=⟨by first | exact e.frames | (simpa [Around.under,Code.envs,Code.isFrame,pushEnvs] using e.frames),e.mod,e.bs,e.bsz,e.funs,e.frf,e.hok,e.bare⟩
section
variable {X:Cx} {pins:List (Addr×Obj)} {σ:St} {H:Hp} {s s':Shared}
theorem aL.env0 (I:aL X pins σ H s):ub X.prog X.w X.K X.mg X.base X.A X.stack s H:=
 ⟨I.ok.frames,I.ok.mod,I.bs,Nat.le_trans I.ok.bsz I.sz,I.stack,I.stkFree,I.hok,I.bare⟩
theorem aL.after {Q:VK} {u:Value} (I:aL X pins σ H s) (h:CE X.stack X.prog X.w H s Q u s'):EP X pins σ Q u s':=by
 obtain ⟨v,H',os,bare,un,hok,r,q⟩:=h;obtain ⟨hh,g,d,t,os'⟩:=s';obtain rfl:os'=s.os:=os;exact ⟨v,H',I.call (h':=hh) (g':=g) (d':=d) (t':=t) (ch:=[]) un hok bare (λ b z=>absurd z (by simp)),r,q⟩
end
noncomputable def pv (sp:Sp) (dvs:List V) (E:XK) (t:TA):TE:=λ σ H Q=>t σ H λ vs H1=>sp (vs++dvs) H1 Q E
noncomputable def zG (C:Addr) (m:Str) (sp:Sp) (dvs:List V) (E:XK) (ta:TE) (t:TA):TE:=λ σ H Q=>ta σ H λ x H1=>∃ a dx fs,x=.ref a/\H1 a=some (.ins C dx fs)/\fs.lookup m=none/\
 t σ H1 λ vs H2=>sp (x::(vs++dvs)) H2 Q E
noncomputable def CM (C:Addr) (sp:Sp) (dvs:List V) (E:XK) (t:TA):TE:=λ σ H Q=>t σ H λ vs H1=>∀ x dx,H1 x=none->H1 dx=none->dx≠x->
 sp (.ref x::(vs++dvs)) (cn (cn H1 dx (.own x)) x (.ins C dx [])) (λ v H2=>v=.non/\Q (.ref x) H2) E
noncomputable def df (K:Frag) (fd:FuncData) (ps:List Str) (ds:List Value):Prop:=
 ∀ (s:Shared) (us:List Value),K.In s.heap->(us++ds).length=ps.length->BindsTo s fd ⟨us,[]⟩ (ps.zip (us++ds))
theorem df.all {K:Frag} {fd:FuncData} {ps:List Str} (h:∀ us:List Value,us.length=ps.length->bindArgs fd ⟨us,[]⟩=pure (ps.zip us)):df K fd ps []:=λ s us _ hl=>by
 rw [List.append_nil] at hl ⊢;exact .of_eq (h us hl)
noncomputable def jh (CX:vv) (X:Cx) (E:XK):Prop:=∀ (pins:List (Addr×Obj)) (σ:St) (H:Hp) (s:Shared) (e:Value) (s':Shared),aL X pins σ H s->CX X.stack H s E e s'->X.xe e s'
section
variable {X:Cx} {CX:vv} {k:Nat} {f C:Addr} {fd:FuncData} {ps:List Str} {sp:Sp} {dvs:List V} {ds:List Value} {E:XK} {x m:Str} {p pos apos:Pos} {e o:Expr} {es:List Expr} {ta:TE} {t:TA}
theorem uw {pins:List (Addr×Obj)} {σ:St} {H:Hp} {s:Shared} {Q:VK} {us:List Value} {vs:List V} (F:eF X.prog X.w X.K X.mg X.base CX k f fd ps sp) (hr:dF k X.A) (hb:df X.K fd ps ds) (hd:ba dvs ds) (hx:jh CX X E)
 (I:aL X pins σ H s) (r:ba vs us) (h:sp (vs++dvs) H Q E):wpAny (model X.prog X.w) X.A (call (.ref f) us) (EP X pins σ Q) X.xe s:=by
 have r2:ba (vs++dvs) (us++ds):=r.append hd;have hl:(us++ds).length=ps.length:=by rw [<-r2.length];exact F.len _ _ _ _ h
 refine wpAny_call (codeAny_mono (F.run X.A X.stack s H ⟨us,[]⟩ (us++ds) (vs++dvs) Q E hr I.env0 (hb s us I.kIn hl) r2 h) λ r s' hq=>?_);cases r with
 | error e=>exact hx pins σ H s e s' I hq
 | ok fl=>
  cases fl with
  | ret u=>exact I.after hq
  | next=>exact False.elim hq
  | brk=>exact False.elim hq
  | cont=>exact False.elim hq
theorem vV (F:eF X.prog X.w X.K X.mg X.base CX k f fd ps sp) (hr:dF k X.A) (hg:Gl X x) (hm:X.mg x=some (.ref f)) (hk:PySem.W.keepIn X.K (.ref f)=true) (hb:df X.K fd ps ds) (hd:ba dvs ds) (hx:jh CX X E)
 (ha:PA X (e::es) t) (hdb:(x==("__debug__" : Str))=false:=by decide) (he:starEach (e::es) X.env=(false,eval e X.env)::starEach es X.env:=by rfl) (hpl:(backTo pos (starEach es X.env)).any (·.1)=false:=by rfl):
 PE X (.Call (.Name x p) (e::es) [] pos) (pv sp dvs E t):=by
 intro pins s σ H Q I h;refine wpAny_Call_Name_kw (qo I hg hm ?_ hdb);refine PySem.W.callWith_K (h₀:=X.base) I.ok.mod.kin hk (cE (ha pos pins s σ H _ I h) λ us s1 hy0=>?_) he hpl;obtain ⟨vs,H1,I1,r,q⟩:=hy0;refine ⟨I1.kIn,?_⟩;exact uw F hr hb hd hx I1 r q
theorem Bq {pl:Sem Bool} (he:PE X o ta) (c:oo X.K C) (hm:jV X.K C m f) (F:eF X.prog X.w X.K X.mg X.base CX k f fd ps sp) (hr:dF k X.A) (hb:df X.K fd ps ds) (hd:ba dvs ds) (hx:jh CX X E) (ha:PA X (e::es) t)
 (hst:starEach (e::es) X.env=(false,eval e X.env)::starEach es X.env:=by rfl) (hpl:(backTo pos (starEach es X.env)).any (·.1)=false:=by rfl)
 (ht:eval (.Call (.Attribute o m apos) (e::es) [] pos) X.env=(do
  let ov <-eval o X.env
  standAt apos.atName
  let (f,first) <-holding [ov] (getMethod ov m pl)
  callWith pos f first (backTo pos (starEach (e::es) X.env)) (backToKw pos (keywordEach [] X.env))):=by rfl):
 PE X (.Call (.Attribute o m apos) (e::es) [] pos) (zG C m sp dvs E ta t):=by
 intro pins s σ H Q I h;refine PySem.W.methodCall_KW (pl:=pl) (cE (he pins s σ H _ I h) λ u s1 hq0=>?_) ht;obtain ⟨x,H1,I1,rx,a,dx,fs,ex,ea,l,q⟩:=hq0;subst ex;obtain rfl:u=Value.ref a:=rx;refine nP I1 ea c hm l ?_;refine PySem.W.callWith_K (first:=[.ref a]) (h₀:=X.base) I.ok.mod.kin hm.kp (cE (ha pos pins s1 σ H1 _ I1 q) λ us s2 hy0=>?_) hst hpl;obtain ⟨vs,H2,I2,r,q2⟩:=hy0;refine ⟨I2.kIn,?_⟩;exact uw (us:=.ref a::us) (vs:=.ref a::vs) F hr hb hd hx I2 (.cons rfl r) q2
theorem yl {pl:Sem Bool} (he:PE X o ta) (c:oo X.K C) (hm:jV X.K C m f) (F:eF X.prog X.w X.K X.mg X.base CX k f fd ps sp) (hr:dF k X.A) (hb:df X.K fd ps ds) (hd:ba dvs ds) (hx:jh CX X E)
 (ht:eval (.Call (.Attribute o m apos) [] [] pos) X.env=(do
  let ov <-eval o X.env
  standAt apos.atName
  let (f,first) <-holding [ov] (getMethod ov m pl)
  callWith pos f first (backTo pos (starEach [] X.env)) (backToKw pos (keywordEach [] X.env))):=by rfl):
 PE X (.Call (.Attribute o m apos) [] [] pos) (zG C m sp dvs E ta iH):=by
 intro pins s σ H Q I h;refine PySem.W.methodCall_KW (pl:=pl) (cE (he pins s σ H _ I h) λ u s1 hq0=>?_) ht;obtain ⟨x,H1,I1,rx,a,dx,fs,ex,ea,l,q⟩:=hq0;subst ex;obtain rfl:u=Value.ref a:=rx;refine nP I1 ea c hm l ?_;exact PySem.W.callWith_K0 (first:=[.ref a]) I1.kIn hm.kp (uw (us:=[.ref a]) (vs:=[.ref a]) F hr hb hd hx I1 (.cons rfl .nil) q)
structure Mk (K:Frag) (C f:Addr):Prop where
 makes:PySem.W.makesIn K C=true
 init:PySem.W.findIn K (.ref C) "__init__" = some (some (.ref f))
 fn:PySem.W.isFn K (.ref f)=true
 kp:PySem.W.keepIn K (.ref C)=true
theorem yq {pins:List (Addr×Obj)} {σ:St} {H:Hp} {s:Shared} {Q:VK} {us:List Value} {vs:List V} (M:Mk X.K C f) (F:eF X.prog X.w X.K X.mg X.base CX k f fd ps sp) (hr:dF (k+1) X.A) (hb:df X.K fd ps ds) (hd:ba dvs ds)
 (hx:jh CX X E) (I:aL X pins σ H s) (r:ba vs us)
 (h:∀ x dx,H x=none->H dx=none->dx≠x->sp (.ref x::(vs++dvs)) (cn (cn H dx (.own x)) x (.ins C dx [])) (λ v H2=>v=.non/\Q (.ref x) H2) E):
 wpAny (model X.prog X.w) X.A (call (.ref C) us) (EP X pins σ Q) X.xe s:=by
 have hq:=h (s.heap.objs.size+1) s.heap.objs.size (I.hok.fresh (Nat.le_succ _)) (I.hok.fresh (Nat.le_refl _)) (Nat.ne_of_lt (Nat.lt_succ_self _));have I2:=aL.made (C:=C) I;have r2:ba (V.ref (s.heap.objs.size+1)::(vs++dvs)) (Value.ref (s.heap.objs.size+1)::(us++ds)):=.cons rfl (r.append hd);have hl:(Value.ref (s.heap.objs.size+1)::us++ds).length=ps.length:=by
  have e:=r2.length;rw [F.len _ _ _ _ hq] at e;exact e.symm
 refine wpAny_call (A1 (f:=f) I.kIn M.makes M.init (beq_iff_eq.mp M.fn) (codeAny_mono (F.run _ X.stack _ _ ⟨Value.ref (s.heap.objs.size+1)::us,[]⟩ (Value.ref (s.heap.objs.size+1)::(us++ds)) _ _ E (hr.make C us [])
  (I2.env0.make C us []) (hb _ (Value.ref (s.heap.objs.size+1)::us) I2.kIn hl) r2 hq) λ r s' hq'=>?_))
 cases r with
 | error e=>exact hx pins σ _ _ e s' I2 hq'
 | ok fl=>
  cases fl with
  | ret u=>
   obtain ⟨v,H',I3,rv,ev,q3⟩:=I2.after hq';subst ev;exact ⟨rv,⟨V.ref (s.heap.objs.size+1),H',I3,rfl,q3⟩⟩
  | next=>exact False.elim hq'
  | brk=>exact False.elim hq'
  | cont=>exact False.elim hq'
theorem zk (M:Mk X.K C f) (F:eF X.prog X.w X.K X.mg X.base CX k f fd ps sp) (hr:dF (k+1) X.A) (hg:Gl X x) (hm:X.mg x=some (.ref C)) (hb:df X.K fd ps ds) (hd:ba dvs ds) (hx:jh CX X E)
 (hdb:(x==("__debug__" : Str))=false:=by decide):PE X (.Call (.Name x p) [] [] pos) (CM C sp dvs E iH):=by
 intro pins s σ H Q I h;refine wpAny_Call_Name_kw (qo I hg hm ?_ hdb);exact PySem.W.callWith_K0 I.kIn M.kp (yq (us:=[]) M F hr hb hd hx I .nil h)
end
noncomputable def PK (X:Cx) (kws:List Keyword) (t:TA):Prop:=
 ∀ (pos:Pos) (pins:List (Addr×Obj)) (s:Shared) (σ:St) (H:Hp) (Q:List V->Hp->Prop),aL X pins σ H s->t σ H Q->wpAny (model X.prog X.w) X.A (evalAll ((backToKw pos (keywordEach kws X.env)).map (·.2))) (AP X pins σ Q) X.xe s
section
variable {X:Cx} {CX:vv} {k:Nat} {f C:Addr} {fd:FuncData} {ps ks:List Str} {sp:Sp} {E:XK} {x m:Str} {p pos apos kpos:Pos} {e o:Expr} {es:List Expr} {kws:List Keyword} {te ta:TE} {t tk:TA} {nm:Option Str}
variable {g:List Value->List Value->List Value} {gV:List V->List V->List V}
end
structure g7 (N P:List Str) (sc:Scope):Prop where
 kind:sc.kind=.function
 co:sc.isCoroutine=false
 gen:sc.isGenerator=false
 nd:N.Nodup
 pre:N.take P.length=P
 par:∀ x∈P,sc.names.lookup x=some .local∨sc.names.lookup x=some .cell
 nofree:∀ y∈sc.names,y.2≠.free
theorem pk {kindOf:Str->Option NameKind} {x:Str}:∀ {binds:List (Str×Value)} {m:Str->Option Value},(∀ v,(x,v)∉binds)->bindL kindOf binds m x=m x
 | [],_,_=>rfl
 | (n,v)::r,m,h=>by
  unfold bindL;rw [pk λ w hw=>h w (List.mem_cons_of_mem _ hw)];split
  . have:x≠n:=by rintro rfl;exact h v List.mem_cons_self
    simp [this]
  . rfl
theorem pI {kindOf:Str->Option NameKind} {x:Str}:∀ {binds:List (Str×Value)} {m:Str->Option Value},(∀ v,(x,v)∉binds)->bindC kindOf binds m x=m x
 | [],_,_=>rfl
 | (n,v)::r,m,h=>by
  unfold bindC;rw [pI λ w hw=>h w (List.mem_cons_of_mem _ hw)];split
  . rfl
  . have:x≠n:=by rintro rfl;exact h v List.mem_cons_self
    simp [this]
theorem pX {kindOf:Str->Option NameKind} {x:Str} {v:Value}:∀ {P:List Str} {vs:List Value} {i:Nat} {m:Str->Option Value},P.Nodup->P[i]?=some x->vs[i]?=some v->kindOf x=some .local->
 bindL kindOf (P.zip vs) m x=some v
 | [],_,_,_,_,h,_,_=>by simp at h
 | _::_,[],_,_,_,_,h,_=>by simp at h
 | p::P,w::vs,0,m,nd,h1,h2,hk=>by
  simp at h1 h2;subst h1;subst h2;show bindL kindOf ((p,w)::P.zip vs) m p=_;unfold bindL;rw [pk λ v hv=>(List.nodup_cons.mp nd).1 (List.of_mem_zip hv).1,if_pos hk];simp
 | p::P,w::vs,i+1,m,nd,h1,h2,hk=>by
  show bindL kindOf ((p,w)::P.zip vs) m x=_;unfold bindL;exact pX (i:=i) (List.nodup_cons.mp nd).2 (by simpa using h1) (by simpa using h2) hk
theorem pA {kindOf:Str->Option NameKind} {x:Str} {v:Value}:∀ {P:List Str} {vs:List Value} {i:Nat} {m:Str->Option Value},P.Nodup->P[i]?=some x->vs[i]?=some v->kindOf x≠some .local->
 bindC kindOf (P.zip vs) m x=some v
 | [],_,_,_,_,h,_,_=>by simp at h
 | _::_,[],_,_,_,_,h,_=>by simp at h
 | p::P,w::vs,0,m,nd,h1,h2,hk=>by
  simp at h1 h2;subst h1;subst h2;show bindC kindOf ((p,w)::P.zip vs) m p=_;unfold bindC;rw [pI λ v hv=>(List.nodup_cons.mp nd).1 (List.of_mem_zip hv).1,if_neg hk];simp
 | p::P,w::vs,i+1,m,nd,h1,h2,hk=>by
  show bindC kindOf ((p,w)::P.zip vs) m x=_;unfold bindC;exact pA (i:=i) (List.nodup_cons.mp nd).2 (by simpa using h1) (by simpa using h2) hk
noncomputable def start (N:List Str) (vs:List V):St:=vs.map some++List.replicate (N.length-vs.length) none
noncomputable def uY (CX:vv) (P:Program) (w:World) (K:Frag) (mg:Str->Option Value) (base:Heap) (N:List Str) (qual:Str) (scope:Scope) (f:Addr) (cd:Value) (A:Around) (outer:List Env) (s:Shared) (H:Hp) (E:XK):Cx where
 prog:=P
 w:=w
 K:=K
 mg:=mg
 base:=base
 A:=A.deeper (envOfC qual scope s.heap.objs.size f cd)
 N:=N
 s₀:=s
 H₀:=H
 env:=envOfC qual scope s.heap.objs.size f cd
 outer:=outer
 stack:=envOfC qual scope s.heap.objs.size f cd::outer
 ex:=[]
 calm:=true
 fn:=λ _=>true
 pn:=[]
 xe:=λ e s'=>wpAny (model P w) (A.deeper (envOfC qual scope s.heap.objs.size f cd)) (leaving (envOfC qual scope s.heap.objs.size f cd) e) (λ _ s''=>CX outer H s E e s'') (λ e' s''=>CX outer H s E e' s'') s'
theorem tK {sc:Scope} {n:Nat} {x:Str} (h:sc.names.lookup x=some .cell):∃ c,(cellsFrom n sc.names []).lookup x=some c:=by
 have q:=PySem.W.cellsFrom_some sc.names n [] (.inl h);exact Option.isSome_iff_exists.mp q
theorem yc {CX:vv} {P:Program} {w:World} {K:Frag} {mg:Str->Option Value} {base:Heap} {N ps:List Str} {qual:Str} {scope:Scope} {f:Addr} {cd:Value} {A:Around} {outer:List Env} {s s1:Shared} {H:Hp} {E:XK} {us:List Value} {vs:List V}
 (S:g7 N ps scope) (hd:A.handled=none) (e0:ub P w K mg base A outer s H) (hl:vs.length=ps.length) (r:ba vs us)
 (x:InCallC s s.heap.objs.size (bindL (envOfC qual scope s.heap.objs.size f cd).kindOf (ps.zip us) λ _=>none) (cellsFrom (s.heap.objs.size+1) scope.names []) (bindC (envOfC qual scope s.heap.objs.size f cd).kindOf (ps.zip us) λ _=>none) s1):
 aL (uY CX P w K mg base N qual scope f cd A outer s H E) [] (start N vs) H s1:=by
 have hpl:ps.length<=N.length:=by have:=congrArg List.length S.pre;rw [List.length_take] at this;omega
 obtain ⟨h1,tk,rfl,hk⟩:=x.done;have noA:∀ b:Addr,b∉(uY CX P w K mg base N qual scope f cd A outer s H E).ex:=λ b z=>absurd (show b∈([]:List Addr) from z) (by simp);refine ⟨⟨e0.mod,S.kind,rfl,rfl,Nat.le_refl _,λ y z c h1 h2=>?_,λ y hy=>?_,λ y c _ h=>?_,λ _=>hd,Around.frames_deeper e0.frames,.inr ⟨rfl,rfl⟩,λ b z=>absurd z (noA b),e0.bs,e0.bsz,λ b _ _=>noA b,λ b z=>absurd z (noA b),e0.funs,e0.frf⟩,
  rfl,e0.bare,Un.kept hk,⟨_,x.toInCall.ns,λ i y v h1 h2 h3=>?_⟩,λ y c h=>⟨_,x.cell y c h⟩,e0.hok.fresh (Nat.le_refl _),λ y c h=>?_,λ p hp=>absurd (show p∈([]:List (Addr×Obj)) from hp) (by simp),e0.hok.kept hk,?_⟩
 . exact name_of_addr x.apart (PySem.mem_of_lookup h1) (PySem.mem_of_lookup h2)
 . have hy:scope.names.lookup y=some .cell∨scope.names.lookup y=some .free:=hy;rcases hy with hy | hy
   . exact tK hy
   . exact absurd rfl (S.nofree _ (PySem.mem_of_lookup hy))
 . exact Nat.le_of_lt (x.above y c (PySem.mem_of_lookup h))
 . have hi:i<vs.length:=by
    unfold start at h2;by_cases hi:i<vs.length
    . exact hi
    . rw [List.getElem?_append_right (by simpa using hi)] at h2;rw [List.getElem?_replicate] at h2;split at h2 <;> cases h2
   have ha:vs[i]?=some v:=by
    unfold start at h2;rw [List.getElem?_append_left (by simpa using hi),List.getElem?_map] at h2;cases e:vs[i]? with
    | none=>rw [e] at h2;cases h2
    | some a=>rw [e] at h2;cases h2;rfl
   obtain ⟨u,hu,rv⟩:=r.get ha;have hp:ps[i]?=some y:=by
    rw [<-S.pre,List.getElem?_take_of_lt (by omega)];exact h1
   have ndP:ps.Nodup:=by rw [<-S.pre];exact S.nd.sublist (List.take_sublist _ _)
   refine ⟨u,rv,?_⟩;rcases S.par y (List.mem_of_getElem? hp) with k | k
   . exact .inl ⟨k,pX ndP hp hu k⟩
   . obtain ⟨c,e⟩:=tK (n:=s.heap.objs.size+1) k;refine .inr ⟨.inl k,c,e,?_⟩;have q:=x.cell y c e;rw [pA ndP hp hu (by show scope.names.lookup y≠_;rw [k];decide)] at q;exact q
 . exact e0.hok.fresh (Nat.le_of_lt (x.above y c (PySem.mem_of_lookup h)))
 . unfold start;show _=N.length;rw [List.length_append,List.length_map,List.length_replicate];omega
theorem ID {CX:vv} {P:Program} {w:World} {K:Frag} {mg:Str->Option Value} {base:Heap} {k:Nat} {f:Addr} {name qual:Str} {params:Arguments} {body:List Stmt} {scope:Scope} {dV kV doc pm cdv ct oc:Value} {an od:Option Addr}
 {osl:Array (Option Value)} {N ps:List Str} {sp:Sp} (lk:K.lookup f=some ⟨oc,od,.func (PySem.W.fnOf name qual params body scope dV kV doc pm an cdv ct),osl⟩) (hcd:PySem.W.codeIn K cdv qual=true) (S:g7 N ps scope)
 (len:∀ vs H Q E,sp vs H Q E->vs.length=ps.length)
 (hbody:∀ (A:Around) (outer:List Env) (s:Shared) (H:Hp) (vs:List V) (Q:VK) (E:XK),dF k (A.deeper (envOfC qual scope s.heap.objs.size f cdv))->sp vs H Q E->
  ∃ t,u3 (uY CX P w K mg base N qual scope f cdv A outer s H E) body t/\t { nx:=λ _ H'=>Q .non H',rt:=Q } (start N vs) H):
 eF P w K mg base CX (k+1) f (PySem.W.fnOf name qual params body scope dV kV doc pm an cdv ct) ps sp:=by
 refine ⟨len,λ A outer s H args us vs Q E hr e0 hb r hsp=>?_⟩;have hl:=len _ _ _ _ hsp;have KX:K.In s.heap:=e0.mod.kin.keeps λ b o e=>(e0.bs b o e).1;have lim:s.heap.NoLimit:=e0.mod.nolimit.keeps λ b o e=>(e0.bs b o e).1;have hkind:∀ y∈ps.zip us,scope.names.lookup y.1=some .local∨(scope.names.lookup y.1=some .cell/\((cellsFrom (s.heap.objs.size+1) scope.names []).lookup y.1).isSome=true):=λ ⟨n,v⟩ hy=>by
  rcases S.par n (List.of_mem_zip hy).1 with q | q
  . exact .inl q
  . exact .inr ⟨q,PySem.W.cellsFrom_some _ _ _ (.inl q)⟩
 refine codeAny_call_function hr.depth (KX _ _ lk) rfl S.co S.gen rfl (PySem.W.codeRec_of KX hcd) (hb _ _ _ _ ?_);refine wpAny_newFunctionEnv_cells S.kind hkind λ env he s1 x=>?_;subst he;refine ⟨lim.keeps x.toInCall.keep,codeAny_func ?_⟩;obtain ⟨t,ht,hq⟩:=hbody A outer s H vs Q E (hr.deeper _) hsp;have I:aL (uY CX P w K mg base N qual scope f cdv A outer s H E) [] (start N vs) H s1:=yc S hr.hd e0 hl r x;refine wpAny_mono (ht [] s1 (start N vs) H _ I hq) (λ fl s' hs=>?_) λ e s' hs=>hs;have fin:∀ {σ':St} {H':Hp} {v:V} {u:Value},aL (uY CX P w K mg base N qual scope f cdv A outer s H E) [] σ' H' s'->bq v u->Q v H'->CE outer P w H s Q u s':=
  λ {σ' H' v u} J rv q=>⟨v,H',J.os,J.bare,J.base,J.hok,rv,q⟩
 cases fl with
 | ret u=>
  obtain ⟨v,σ',H',J,rv,q⟩:=hs;exact fin J rv q
 | next=>
  obtain ⟨σ',H',J,q⟩:=hs;exact fin (v:=V.non) (u:=Value.none) J rfl q
 | brk=>
  obtain ⟨_,_,_,q⟩:=hs;exact False.elim q
 | cont=>
  obtain ⟨_,_,_,q⟩:=hs;exact False.elim q
end L2
namespace L2
open PySem PySem.Spec PyProof.Rows
open PySem.W (Frag)
section
variable {X:Cx} {x:Str} {p pos:Pos} {e:Expr} {es:List Expr} {t:TA} {id T:String} {r:List V->Hp->VK->Prop}
noncomputable def v6 (r:List V->Hp->VK->Prop) (t:TA):TE:=λ σ H Q=>t σ H λ vs H1=>r vs H1 Q
theorem ym (hc:cm X (.builtin id) r) (hg:Gl X x) (hm:X.mg x=none) (hv:bootBuiltins x=some (.builtin id)) (ha:PA X (e::es) t) (hn:x ≠ "__name__" := by decide) (hdb:(x==("__debug__" : Str))=false:=by decide)
 (he:starEach (e::es) X.env=(false,eval e X.env)::starEach es X.env:=by rfl) (hpl:(backTo pos (starEach es X.env)).any (·.1)=false:=by rfl):PE X (.Call (.Name x p) (e::es) [] pos) (v6 r t):=by
 intro pins s σ H Q I h;refine wpAny_Call_Name_kw (lr I hg hm hv ?_ hn hdb);exact PyProof.Rows.callWith_builtin1 (cE (ha pos pins s σ H _ I h) λ us s1 hy0=>by obtain ⟨vs,H1,I1,r1,q1⟩:=hy0;exact hc pins s1 σ H1 vs us Q I1 r1 q1) he hpl
theorem pS (hc:cm X (.type T) r) (hg:Gl X x) (hm:X.mg x=none) (hv:bootBuiltins x=some (.type T)) (ha:PA X (e::es) t) (hn:x ≠ "__name__" := by decide) (hdb:(x==("__debug__" : Str))=false:=by decide)
 (he:starEach (e::es) X.env=(false,eval e X.env)::starEach es X.env:=by rfl) (hpl:(backTo pos (starEach es X.env)).any (·.1)=false:=by rfl):PE X (.Call (.Name x p) (e::es) [] pos) (v6 r t):=by
 intro pins s σ H Q I h;refine wpAny_Call_Name_kw (lr I hg hm hv ?_ hn hdb);exact PyProof.Rows.callWith_type1 (cE (ha pos pins s σ H _ I h) λ us s1 hy0=>by obtain ⟨vs,H1,I1,r1,q1⟩:=hy0;exact hc pins s1 σ H1 vs us Q I1 r1 q1) he hpl
end
end L2
namespace HT
open PySem PyProof.Rows
section
open PySem.SeqAt
open PySem.AutoSeq1 (wpAny_loadPart')
open PySem.MeetsSeq PySem.MeetsSeq2 PySem.MeetsSeq3
end
section
variable {prog:Program} {w:World} {A:Around} {E:Value->Shared->Prop} {s:Shared}
theorem cat_tup {t b:Addr} {vs ws:List Value} {Q:Value->Shared->Prop} (ht:IsTup s.heap t vs.toArray) (hb:IsTup s.heap b ws.toArray) (hv:vs≠[])
 (h1:ws=[]->Q (.ref t) s) (h2:ws≠[]->Q (.ref s.heap.objs.size) { s with heap:=s.heap.push { cls:=.type "tuple", data:=.seq (vs++ws).toArray } })
 (hsz:vs.length+ws.length<=sizeLine):wpAny (model prog w) A (binaryOp .Add (.ref t) (.ref b)) Q E s:=by
 obtain ⟨⟨cls,dd,data,sl⟩,ho,hc,n,hd⟩:=id ht;obtain ⟨⟨cls2,dd2,data2,sl2⟩,ho2,hc2,n2,hd2⟩:=id hb;simp only at hc hd hc2 hd2;subst hc hd hc2 hd2;have e:vs.toArray++ws.toArray=(vs++ws).toArray:=by simp
 by_cases hw:ws=[]
 . exact concat_meets ⟨_,ho,rfl⟩ ⟨_,ho2,rfl⟩ noFill_tuple_add seq_tuple_add PySem.F.slot_tuple_add PySem.F.entry_tuple_add (PySem.F.args_tuple_add_2 _ _)
    (tuple_addW1 t b vs.toArray ws.toArray n n2 dd dd2 sl sl2 (by simpa using hv) (by simp [hw])) ⟨ho,ho2,h1 hw⟩
 . refine concat_meets ⟨_,ho,rfl⟩ ⟨_,ho2,rfl⟩ noFill_tuple_add seq_tuple_add PySem.F.slot_tuple_add PySem.F.entry_tuple_add (PySem.F.args_tuple_add_2 _ _)
    (tuple_addW2 t b vs.toArray ws.toArray n n2 dd dd2 sl sl2 (by simpa using hv) (by simpa using hw) (by rw [List.size_toArray,List.size_toArray];exact hsz)) ⟨ho,ho2,?_⟩
   rw [e];exact h2 hw
noncomputable def sIx (n d:Nat):Option Int->Nat
 | none=>d
 | some v=>if v<0 then (v+(n:Int)).toNat else min v.toNat n
theorem sIx_none (n d:Nat):sIx n d none=d:=rfl
theorem sIx_nat (n d k:Nat):sIx n d (some (k:Int))=min k n:=by
 show (if (k:Int)<0 then ((k:Int)+(n:Int)).toNat else min (k:Int).toNat n)=min k n;rw [if_neg (by omega),Int.toNat_natCast]
theorem Ff (n d:Nat) (hd:d<=n) (o:Option Int):sIx n d o<=n:=by
 cases o with
 | none=>exact hd
 | some v=>
  show (if v<0 then (v+(n:Int)).toNat else min v.toNat n)<=n;by_cases hv:v<0
  . rw [if_pos hv];omega
  . rw [if_neg hv];exact Nat.min_le_right _ _
theorem wG (v:Int) (n d:Nat):(if v<0 then max (v+(n:Int)) 0 else min v (n:Int))=((sIx n d (some v):Nat):Int):=by
 show (if v<0 then max (v+(n:Int)) 0 else min v (n:Int))=(((if v<0 then (v+(n:Int)).toNat else min v.toNat n):Nat):Int)
 by_cases hv:v<0
 . simp only [if_pos hv];omega
 . simp only [if_neg hv];omega
theorem vx (lo hi:Option Int) (n:Nat):Builtin.Slice.sliceAdjust lo hi 1 (n:Int)=(((sIx n 0 lo:Nat):Int),((sIx n n hi:Nat):Int)):=by
 have h1:¬ ((1:Int)<0):=by omega
 unfold Builtin.Slice.sliceAdjust;simp only [h1,if_false];refine Prod.ext ?_ ?_
 . cases lo with
   | none=>rfl
   | some v=>exact wG v n 0
 . cases hi with
   | none=>rfl
   | some v=>exact wG v n n
theorem uF (i j:Nat):Builtin.Slice.slicePlaces (i:Int) (j:Int) 1=j-i:=by
 unfold Builtin.Slice.slicePlaces;have h1:(1:Int)>0:=by omega
 simp only [h1,if_true,Int.ediv_one];split <;> omega
theorem nY {v:Value} {o:Option Int} {Q:Option Int->Shared->Prop} (p:IsPart v o) (h:Q o s):wpAny (model prog w) A (Builtin.Slice.slicePartIndex v) Q E s:=by
 cases p with
 | none=>exact slicePart_none h
 | int i t=>exact slicePart_int h
theorem sliceApplied_gen {sl:Addr} {vl vu:Value} {lo hi:Option Int} {n:Nat} {Q:Int×Int×Nat->Shared->Prop} (hs:s.heap.IsSliceOf sl vl vu .none) (pl:IsPart vl lo) (pu:IsPart vu hi)
 (h:Q (((sIx n 0 lo:Nat):Int),1,sIx n n hi-sIx n 0 lo) s):wpAny (model prog w) A (Builtin.Slice.sliceApplied (.ref sl) (pure (n:Int))) Q E s:=by
 obtain ⟨os,hos,hcs,hds⟩:=id hs;unfold Builtin.Slice.sliceApplied Builtin.Slice.sliceFields;refine wpAny_bind (wpAny_bind (wpAny_field hos hds (x:=vl) rfl (wpAny_bind (wpAny_field hos hds (x:=vu) rfl (wpAny_bind (wpAny_field hos hds (x:=.none) rfl (wpAny_pure ?_)))))));refine wpAny_bind (slicePart_none ?_);show wpAny _ _ (if ((1:Int)==0)=true then _ else _) _ _ s;rw [if_neg (by decide)];refine wpAny_bind (nY pl (wpAny_bind (nY pu (wpAny_bind (wpAny_pure ?_)))));show wpAny _ _ (match Builtin.Slice.sliceAdjust lo hi 1 (n:Int) with | (lo,hi)=>pure (lo,(1:Int),Builtin.Slice.slicePlaces lo hi 1)) _ _ s;rw [vx lo hi n];show wpAny _ _ (pure (((sIx n 0 lo:Nat):Int),(1:Int),Builtin.Slice.slicePlaces ((sIx n 0 lo:Nat):Int) ((sIx n n hi:Nat):Int) 1)) _ _ s;rw [uF];exact wpAny_pure h
theorem zD (xs:Array Value) (i k:Nat):((List.range k).filterMap λ (m:Nat)=>xs[((i:Int)+(m:Int)*1).toNat]?).toArray=((xs.toList.drop i).take k).toArray:=by
 have e:(λ (m:Nat)=>xs[((i:Int)+(m:Int)*1).toNat]?)=λ m=>xs[i+m]?:=by
  funext m;have:((i:Int)+(m:Int)*1).toNat=i+m:=by omega
  rw [this]
 rw [e];have:=pick_run xs i k;rw [List.filterMap_map] at this;have e2:((λ x=>xs[x]?) ∘ λ x=>i+x)=λ m=>xs[i+m]?:=rfl;rw [e2] at this;rw [this]
theorem getItem_tuple_cut {t sl:Addr} {items:Array Value} {vl vu:Value} {lo hi:Option Int} {Q:Value->Shared->Prop} (ht:IsTup s.heap t items) (hs:s.heap.IsSliceOf sl vl vu .none) (pl:IsPart vl lo) (pu:IsPart vu hi)
 (hw:¬ (sIx items.size 0 lo=0/\sIx items.size items.size hi=items.size))
 (h:Q (.ref s.heap.objs.size) { s with heap:=s.heap.push { cls:=.type "tuple", data:=.seq ((items.toList.drop (sIx items.size 0 lo)).take (sIx items.size items.size hi-sIx items.size 0 lo)).toArray } })
 (hsz:items.size<=sizeLine):wpAny (model prog w) A (getItem (.ref t) (.ref sl)) Q E s:=by
 have htake:sizeOk (.seq ((items.toList.drop (sIx items.size 0 lo)).take (sIx items.size items.size hi-sIx items.size 0 lo)).toArray):=by
  show ((items.toList.drop (sIx items.size 0 lo)).take (sIx items.size items.size hi-sIx items.size 0 lo)).toArray.size<=sizeLine;rw [List.size_toArray,List.length_take,List.length_drop,Array.length_toList];omega
 have hj:sIx items.size items.size hi<=items.size:=Ff _ _ (Nat.le_refl _) hi;obtain ⟨os,hos,hcs,hds⟩:=id hs;have hTs:s.TypeIs (.ref sl) "slice" := ⟨os,hos,hcs⟩
 unfold getItem;try with_reducible refine wpAny_holding ?_
 first | refine wpAny_bind (wpAny_pure ?_) | skip
 refine wpAny_bind (wpAny_sequenceKey ht.typeIs (by decide) ?_);refine wpAny_bind (wpAny_callSpecial?_slot (name:=Str.ofString "__getitem__") ht.typeIs PyProof.Rows.slot_tuple_getitem
  (wpAny_call_entry PyProof.Rows.slot_tuple_getitem ht.typeIs entry_tuple_getitem ?_ (args_tuple_getitem _ _)))
 show wpAny _ _ (Builtin.Tuple.tupleItemsOf (.ref t) >>= _) _ _ s;refine wpAny_bind (tupleItemsOf_ ht ?_);refine wpAny_bind (wpAny_typeOf hTs ?_);rw [if_pos (by decide)];refine wpAny_bind (sliceApplied_gen hs pl pu ?_);have hno:¬ ((((sIx items.size 0 lo:Nat):Int)==0&&(1:Int)==1&&(sIx items.size items.size hi-sIx items.size 0 lo)==items.size)=true):=by
  intro q;rw [Bool.and_eq_true,Bool.and_eq_true] at q;have q1:((sIx items.size 0 lo:Nat):Int)=0:=eq_of_beq q.1.1;have q2:sIx items.size items.size hi-sIx items.size 0 lo=items.size:=eq_of_beq q.2;exact hw ⟨by omega,by omega⟩
 show wpAny _ _ (if (((sIx items.size 0 lo:Nat):Int)==0&&(1:Int)==1&&(sIx items.size items.size hi-sIx items.size 0 lo)==items.size)=true then _ else _) _ _ s;rw [if_neg hno,zD];first
  | exact wpAny_bind (m:=Builtin.Tuple.tupleExact _) (wpAny_newObj_type (wpAny_pure ⟨_,rfl,wpAny_pure h⟩) htake)
  | exact wpAny_bind (m:=Builtin.Tuple.tupleExact _) (wpAny_newObj_type (wpAny_bind (wpAny_pure (wpAny_pure ⟨_,rfl,wpAny_pure h⟩))) htake)
  | exact wpAny_bind (wpAny_bind (m:=Builtin.Tuple.tupleExact _) (wpAny_newObj_type (wpAny_pure (wpAny_pure ⟨_,rfl,wpAny_pure h⟩)) htake))
  | exact wpAny_bind (wpAny_bind (m:=Builtin.Tuple.tupleExact _) (wpAny_newObj_type (wpAny_pure ⟨_,rfl,wpAny_pure h⟩) htake))
end
end HT
namespace L2
open PySem PySem.Spec PyProof.Rows
open PySem.W (Frag)
noncomputable abbrev TO:=St->Hp->(Option Int->Hp->Prop)->Prop
noncomputable def PO (X:Cx) (e:Option Expr) (t:TO):Prop:=
 ∀ (pins:List (Addr×Obj)) (s:Shared) (σ:St) (H:Hp) (Q:Option Int->Hp->Prop),aL X pins σ H s->t σ H Q->
  wpAny (model X.prog X.w) X.A (evalPart e X.env) (λ u s'=>∃ o H',aL X pins σ H' s'/\IsPart u o/\Q o H') X.xe s
noncomputable def wn:TO:=λ _ H Q=>Q none H
noncomputable def Dl (t:TE):TO:=λ σ H Q=>t σ H λ x H1=>∃ i,x=.int i/\Q (some i) H1
section
variable {X:Cx} {e:Expr} {te:TE} {lo hi:Option Expr} {tl th:TO} {pos p2:Pos}
theorem J8:PO X none wn:=by
 intro pins s σ H Q I h;rw [evalPart_none];exact wpAny_pure ⟨none,H,I,.none,h⟩
theorem Jc (h:PE X e te):PO X (some e) (Dl te):=by
 intro pins s σ H Q I hw;rw [evalPart_some];refine cE (h pins s σ H _ I hw) λ u s1 hq0=>?_;obtain ⟨x,H1,I1,r1,q1⟩:=hq0;obtain ⟨i,rfl,q⟩:=q1;obtain ⟨t,rfl⟩:=r1;exact ⟨some i,H1,I1,.int i t,q⟩
noncomputable def BI (X:Cx) (r:V->Option Int->Option Int->Hp->VK->Prop):Prop:=
 ∀ (pins:List (Addr×Obj)) (s:Shared) (σ:St) (H:Hp) (x:V) (v vl vu:Value) (lo hi:Option Int) (sl:Addr) (Q:VK),aL X pins σ H s->bq x v->s.heap.IsSliceOf sl vl vu .none->IsPart vl lo->IsPart vu hi->r x lo hi H Q->
  ∃ T id,typeLookup (.type T) "__getitem__" = pure (some (.builtin id))/\s.TypeIs v T/\wpAny (model X.prog X.w) X.A (getItem v (.ref sl)) (EP X pins σ Q) X.xe s
noncomputable def IS (r:V->Option Int->Option Int->Hp->VK->Prop) (te:TE) (tl th:TO):TE:=λ σ H Q=>te σ H λ x H1=>tl σ H1 λ l H2=>th σ H2 λ u H3=>r x l u H3 Q
theorem GY {r:V->Option Int->Option Int->Hp->VK->Prop} (hr:BI X r) (he:PE X e te) (hl:PO X lo tl) (hu:PO X hi th):PE X (.Subscript e (.Slice lo hi none p2) pos) (IS r te tl th):=by
 intro pins s σ H Q I h;refine Subscript_ (cE (he pins s σ H _ I h) λ v s1 hq0=>?_);obtain ⟨x,H1,I1,r1,q1⟩:=hq0;refine wpAny_Slice (cE (hl pins s1 σ H1 _ I1 q1) λ vl s2 hy0=>?_);obtain ⟨l,H2,I2,pl,q2⟩:=hy0;refine cE (hu pins s2 σ H2 _ I2 q2) λ vu s3 hq0=>?_;obtain ⟨u,H3,I3,pu,q3⟩:=hq0;rw [evalPart_none];refine wpAny_pure ?_;have I4:aL X pins σ H3 { s3 with heap:=s3.heap.push { cls:=.type "slice", data:=.fields #[vl,vu,.none] } }:=I3.kept (t':=s3.toks) λ b ob q=>Heap.get?_push_of_some _ q;obtain ⟨T,id,hT,ht,hg⟩:=hr pins { s3 with heap:=s3.heap.push { cls:=.type "slice", data:=.fields #[vl,vu,.none] } } σ H3 x v vl vu l u s3.heap.objs.size Q I4 r1 (Heap.IsSliceOf.new ..) pl pu q3;show wpAny (model X.prog X.w) X.A (subscriptTail e (.Slice lo hi none p2) v (.ref s3.heap.objs.size)) (EP X pins σ Q) X.xe { s3 with heap:=s3.heap.push { cls:=.type "slice", data:=.fields #[vl,vu,.none] } };exact tail_any (ops:=[.ref s3.heap.objs.size,v]) ht hT hg (by with_unfolding_all rfl)
noncomputable def oY (xs:List V) (lo hi:Option Int):List V:=(xs.drop (HT.sIx xs.length 0 lo)).take (HT.sIx xs.length xs.length hi-HT.sIx xs.length 0 lo)
theorem mw (xs:List V) (lo hi:Option Int):(oY xs lo hi).length<=xs.length:=by
 unfold oY;rw [List.length_take,List.length_drop];omega
noncomputable def G7 (K:Frag):V->Option Int->Option Int->Hp->VK->Prop:=λ x lo hi H Q=>∃ a xs,x=.ref a/\ez K H a xs/\
 ¬ (HT.sIx xs.length 0 lo=0/\HT.sIx xs.length xs.length hi=xs.length)/\∀ p,H p=none->Q (.ref p) (cn H p (.tup (oY xs lo hi)))
theorem FC:BI X (G7 X.K):=by
 intro pins s σ H x v vl vu lo hi sl Q I rx hs pl pu h;obtain ⟨a,xs,rfl,hx,hw,q⟩:=h;cases rx;obtain ⟨its,r,ht,hz⟩:=I.tuple hx;have hlen:its.toArray.size=xs.length:=by rw [List.size_toArray];exact r.length.symm
 refine ⟨"tuple", _,PyProof.Rows.slot_tuple_getitem.lookup,ht.typeIs,?_⟩;refine HT.getItem_tuple_cut ht hs pl pu (by rw [hlen];exact hw) ?_ (by rw [hlen];exact hz);rw [hlen];refine ⟨.ref s.heap.objs.size,_,I.laid (t':=s.toks) (o:=.tup (oY xs lo hi)) (λ b ob q=>Heap.get?_push_of_some _ q) (Nat.le_refl _) ?_,rfl,q _ (I.hok.fresh (Nat.le_refl _))⟩;exact ⟨Nat.le_trans (mw xs lo hi) hz,_,(r.drop (HT.sIx xs.length 0 lo)).take (HT.sIx xs.length xs.length hi-HT.sIx xs.length 0 lo),IsTup.new _ _⟩
noncomputable def Dc (K:Frag):R2:=λ x y H Q=>∃ a b xs ys,x=.ref a/\y=.ref b/\ez K H a xs/\ez K H b ys/\xs≠[]/\xs.length+ys.length<=sizeLine/\
 (ys=[]->Q (.ref a) H)/\(ys≠[]->∀ p,H p=none->Q (.ref p) (cn H p (.tup (xs++ys))))
theorem ba.nil_iff {xs:List V} {us:List Value} (r:ba xs us):us=[]↔xs=[]:=by
 cases r with
 | nil=>simp
 | cons _ _=>simp
theorem AH:gp X (binaryOp .Add) (Dc X.K):=by
 intro pins s σ H x y v u Q I rx ry h;obtain ⟨a,b,xs,ys,rfl,rfl,ha,hb,hx,hz,q1,q2⟩:=h;cases rx;cases ry;obtain ⟨its,r1,p1,_⟩:=I.tuple ha;obtain ⟨its2,r2,p2,_⟩:=I.tuple hb;refine HT.cat_tup p1 p2 (λ z=>hx (r1.nil_iff.mp z)) (λ z=>⟨.ref a,H,I,rfl,q1 (r2.nil_iff.mp z)⟩) (λ z=>?_) (by rw [<-r1.length,<-r2.length];exact hz);refine ⟨.ref s.heap.objs.size,_,I.laid (t':=s.toks) (o:=.tup (xs++ys)) (λ b ob q=>Heap.get?_push_of_some _ q) (Nat.le_refl _) ?_,rfl,q2 (λ w=>z (r2.nil_iff.mpr w)) _ (I.hok.fresh (Nat.le_refl _))⟩;exact ⟨by rw [List.length_append];exact hz,_,r1.append r2,IsTup.new _ _⟩
end
end L2
namespace L2
open PySem PySem.Spec PyProof.Rows
open PySem.W (Frag)
noncomputable def rO (n:Nat) (i:Int):Option Nat:=if 0<=i then (if i<n then some i.toNat else none) else if -(n:Int)<=i then some (i+n).toNat else none
noncomputable def fG {α:Type} (xs:List α) (i:Int):Option α:=(rO xs.length i).bind λ j=>xs[j]?
theorem vP {n:Nat} {i:Int} {j:Nat} (h:rO n i=some j):seqIndex? i n=some j/\j<n /\ -(n:Int)<=i/\i<n:=by
 unfold rO at h;by_cases h0:0<=i
 . rw [if_pos h0] at h;by_cases h1:i<n
   . rw [if_pos h1] at h;have e:i.toNat=j:=Option.some.inj h;exact ⟨by rw [seqIndex_of h0 h1,e],by omega,by omega,h1⟩
   . rw [if_neg h1] at h;cases h
 . rw [if_neg h0] at h;by_cases h1 : -(n:Int)<=i
   . rw [if_pos h1] at h;have e:(i+n).toNat=j:=Option.some.inj h;exact ⟨by rw [seqIndex_neg (by omega) h1,e],by omega,h1,by omega⟩
   . rw [if_neg h1] at h;cases h
theorem mU {α:Type} {xs:List α} {i:Int} {v:α} (h:fG xs i=some v):∃ j,seqIndex? i xs.length=some j/\xs[j]?=some v/\j<xs.length /\ -(xs.length:Int)<=i/\i<xs.length:=by
 unfold fG at h;cases e:rO xs.length i with
 | none=>rw [e] at h;cases h
 | some j=>
  rw [e] at h;obtain ⟨h1,h2,h3,h4⟩:=vP e;exact ⟨j,h1,h,h2,h3,h4⟩
theorem Cs {α:Type} {xs:List α} {j:Nat} {v:α} (h:xs[j]?=some v):fG xs (j:Int)=some v:=by
 have hj:j<xs.length:=(oG h).1;have e:rO xs.length (j:Int)=some j:=by
  unfold rO;rw [if_pos (by omega),if_pos (by omega)];simp
 unfold fG;rw [e];exact h
noncomputable def BP (b:Expr):Prop:=∀ o i,subscripted b false o i=operate [o,i] (getItem o i)
noncomputable def yR (X:Cx) (r:R2):Prop:=
 ∀ (value slice:Expr) (pins:List (Addr×Obj)) (s:Shared) (σ:St) (H:Hp) (x y:V) (v u:Value) (Q:VK),aL X pins σ H s->bq x v->bq y u->r x y H Q->
  subscripted slice false v u=operate [v,u] (getItem v u)->wpAny (model X.prog X.w) X.A (subscriptTail value slice v u) (EP X pins σ Q) X.xe s
noncomputable def GM (X:Cx) (id:String) (r:V->List V->Hp->VK->Prop):Prop:=
 ∀ (pins:List (Addr×Obj)) (s:Shared) (σ:St) (H:Hp) (x:V) (xs:List V) (v:Value) (us:List Value) (Q:VK),aL X pins σ H s->bq x v->ba xs us->r x xs H Q->
  wpAny (model X.prog X.w) X.A (call (.builtin id) (v::us)) (EP X pins σ Q) X.xe s
section
variable {X:Cx} {a b:Expr} {ta tb:TE} {pos:Pos}
theorem yR.or {r r':R2} (h:yR X r) (h':yR X r'):yR X (λ x y H Q=>r x y H Q∨r' x y H Q):=by
 intro value slice pins s σ H x y v u Q I rx ry q hs;rcases q with q | q
 . exact h value slice pins s σ H x y v u Q I rx ry q hs
 . exact h' value slice pins s σ H x y v u Q I rx ry q hs
theorem Lv {r:R2} (hr:yR X r) (ha:PE X a ta) (hb:PE X b tb) (hs:BP b):PE X (.Subscript a b pos) (qp r ta tb):=by
 intro pins s σ H Q I h;exact Subscript_ (Fs ha hb I h λ v u s2 x y H2 I2 rx ry q=>hr a b pins s2 σ H2 x y v u Q I2 rx ry q (hs _ _))
noncomputable def HC (K:Frag):R2:=λ x y H Q=>∃ p xs i v,x=.ref p/\y=.int i/\cR K H p xs/\fG xs i=some v/\Q v H
noncomputable def Hu (K:Frag):R2:=λ x y H Q=>∃ p xs i v,x=.ref p/\y=.int i/\ez K H p xs/\fG xs i=some v/\Q v H
noncomputable def Im:R2:=λ x y H Q=>∃ z i c,x=.str z/\y=.int i/\z.length<=sizeLine/\fG z.cps.toList i=some c/\Q (.str ⟨#[c]⟩) H
theorem BO:yR X (HC X.K):=by
 intro value slice pins s σ H x y v u Q I rx ry h hs;obtain ⟨p,xs,i,z,rfl,rfl,hq,he,q⟩:=h;cases rx;obtain ⟨t,rfl⟩:=ry;obtain ⟨its,r,pl,hz⟩:=I.list hq;obtain ⟨j,h1,h2,h3,h4,h5⟩:=mU he;obtain ⟨w,ew,rw'⟩:=r.get h2;have hl:=r.length;have hn:=ls;have fin:EP X pins σ Q w s:=⟨z,H,I,rw',q⟩
 by_cases h0:0<=i
 . have hj:i.toNat=j:=by
    rw [seqIndex_of h0 h5] at h1;exact Option.some.inj h1
   exact item_listR pl.isList h0 (by omega) (by rw [hj];simpa using ew) fin hs
 . have hj:(i+(its.toArray.size:Int)).toNat=j:=by
    rw [seqIndex_neg (by omega) h4] at h1;rw [List.size_toArray,<-hl];exact Option.some.inj h1
   exact subscriptTail_builtinR (x:=w) pl.isList.typeIs slot_list_getitem.lookup
    (wpAny_getItem_list_neg (Q:=λ r s'=>r=w/\EP X pins σ Q r s') pl.isList (by omega) (by rw [List.size_toArray] <;> omega) (by omega) (by rw [hj];simpa using ew) ⟨rfl,fin⟩) hs
theorem E7:yR X (Hu X.K):=by
 intro value slice pins s σ H x y v u Q I rx ry h hs;obtain ⟨p,xs,i,z,rfl,rfl,hq,he,q⟩:=h;cases rx;obtain ⟨t,rfl⟩:=ry;obtain ⟨its,r,pl,hz⟩:=I.tuple hq;obtain ⟨j,h1,h2,h3,h4,h5⟩:=mU he;obtain ⟨w,ew,rw'⟩:=r.get h2;have hl:=r.length;have hn:=ls;have fin:EP X pins σ Q w s:=⟨z,H,I,rw',q⟩
 exact subscriptTail_builtinR (x:=w) pl.typeIs slot_tuple_getitem.lookup
  (getItem_tuple (j:=j) (Q:=λ r s'=>r=w/\EP X pins σ Q r s') pl (by omega) (by omega) (by rw [List.size_toArray,<-hl];exact h1) (by simpa using ew) ⟨rfl,fin⟩) hs
theorem FR:yR X Im:=by
 intro value slice pins s σ H x y v u Q I rx ry h hs;obtain ⟨z,i,c,rfl,rfl,hz,he,q⟩:=h;obtain ⟨t,rfl⟩:=rx;obtain ⟨t',rfl⟩:=ry;obtain ⟨j,h1,h2,h3,h4,h5⟩:=mU he;have hl:z.cps.toList.length=z.length:=by simp [Str.length]
 rw [hl] at h1 h4 h5;have hn:=ls;exact tail_any (typeIs_str s z t) slot_str_getitem.lookup (getItem_str (c:=c) (by
  have e1:decide (i < -(2^63:Int))=false:=decide_eq_false (by omega);have e2:decide (i ≥ 2^63)=false:=decide_eq_false (by omega);rw [e1,e2,Bool.or_false]) (by rw [h1];simpa using h2) ⟨.str ⟨#[c]⟩,H,I.tok _,⟨_,rfl⟩,q⟩) hs
noncomputable def JI (K:Frag):R2:=λ x y H Q=>HC K x y H Q∨Hu K x y H Q∨Im x y H Q
theorem DV:yR X (JI X.K):=BO.or (E7.or FR)
theorem vt (its:List Value) (n j:Nat) (u:Value):Obj.mapSeq (·.setIfInBounds j u) { cls:=.type "list", data:=.seq its.toArray n }={ cls:=.type "list", data:=.seq (its.set j u).toArray n }:=by
 simp [Obj.mapSeq]
theorem aL.lst {pins:List (Addr×Obj)} {σ:St} {H:Hp} {s:Shared} {p:Addr} {xs:List V} (I:aL X pins σ H s) (h:H p=some (.lst xs)):
 ∃ (its:List Value) (n:Nat),ba xs its/\s.heap.get? p=some { cls:=.type "list", data:=.seq its.toArray n }/\xs.length<=sizeLine:=by
 obtain ⟨z,its,n,r,e⟩:=I.hok p _ h;exact ⟨its,n,r,e,z⟩
theorem aL.lstUpd {pins:List (Addr×Obj)} {σ:St} {H:Hp} {s:Shared} {p:Addr} {xs ys:List V} {its its':List Value} {n n':Nat} {f:Obj->Obj} (I:aL X pins σ H s) (h:H p=some (.lst xs))
 (ho:s.heap.get? p=some { cls:=.type "list", data:=.seq its.toArray n }) (hf:f { cls:=.type "list", data:=.seq its.toArray n }={ cls:=.type "list", data:=.seq its'.toArray n' }) (r:ba ys its') (hz:ys.length<=sizeLine) (t:Nat):
 aL X pins σ (cn H p (.lst ys)) { s with heap:=s.heap.update p f,toks:=t }:=by
 have e:(s.heap.update p f).get? p=some { cls:=.type "list", data:=.seq its'.toArray n' }:=by
  rw [Heap.get?_update_self f ho (by rw [hf] <;> rfl),hf]
 refine I.write (x:=p) (e:=p) (by rw [h];trivial) (.inl rfl) (λ b u hb q=>(Heap.get?_update_other _ _ (Ne.symm hb)).trans q) ⟨_,e⟩ ?_;exact ⟨hz,its',n',r,e⟩
noncomputable def vG:V->V->V->Hp->(Hp->Prop)->Prop:=λ o i v H Q=>∃ p xs k j,o=.ref p/\i=.int k/\H p=some (.lst xs)/\rO xs.length k=some j/\Q (cn H p (.lst (xs.set j v)))
theorem yM:GE X vG:=by
 intro pins s σ H o i v ov iv u Q I ro ri rv h;obtain ⟨p,xs,k,j,rfl,rfl,hp,hj,q⟩:=h;cases ro;obtain ⟨t,rfl⟩:=ri;obtain ⟨its,n,r,ho,hz⟩:=I.lst hp;obtain ⟨h1,h2,h3,h4⟩:=vP hj;have hl:=r.length;have hn:=ls;have I':aL X pins σ (cn H p (.lst (xs.set j v))) { s with heap:=s.heap.update p (Obj.mapSeq (·.setIfInBounds j u)) }:=
  I.lstUpd hp ho (vt its n j u) (r.set rv j) (by rw [List.length_set];exact hz) s.toks
 by_cases h0:0<=k
 . have hk:k.toNat=j:=by
    rw [seqIndex_of h0 h4] at h1;exact Option.some.inj h1
   exact PySem.W.ki_setAt ho h0 (by omega) (by rw [List.size_toArray,<-hl];exact h4) (by rw [hk];exact ⟨_,I',q⟩)
 . have hk:(k+(its.toArray.size:Int)).toNat=j:=by
    rw [seqIndex_neg (by omega) h3] at h1;rw [List.size_toArray,<-hl];exact Option.some.inj h1
   exact PySem.W.ki_setBack ho (by omega) (by rw [List.size_toArray,<-hl];exact h3) (by omega) (by rw [hk];exact ⟨_,I',q⟩)
theorem rm (lo hi:Option Int) (n:Nat):(sliceBounds lo hi none n).1=((HT.sIx n 0 lo:Nat):Int)/\(sliceBounds lo hi none n).2.1=((HT.sIx n n hi:Nat):Int)/\(sliceBounds lo hi none n).2.2=1:=by
 refine ⟨?_,?_,rfl⟩
 . cases lo with
   | none=>simp [sliceBounds,HT.sIx]
   | some i=>
    simp only [sliceBounds,HT.sIx,Option.getD_none,show (1:Int)>0 by decide,if_true];by_cases h:i<0
    . simp only [h,if_true] <;> omega
    . simp only [h,if_false] <;> omega
 . cases hi with
   | none=>simp [sliceBounds,HT.sIx]
   | some i=>
    simp only [sliceBounds,HT.sIx,Option.getD_none,show (1:Int)>0 by decide,if_true];by_cases h:i<0
    . simp only [h,if_true] <;> omega
    . simp only [h,if_false] <;> omega
theorem oP (its:List Value) (lo hi:Option Int):slicePick its.toArray lo hi none=((its.drop (HT.sIx its.length 0 lo)).take (HT.sIx its.length its.length hi-HT.sIx its.length 0 lo)).toArray:=by
 obtain ⟨h1,h2,h3⟩:=rm lo hi its.toArray.size;unfold slicePick;rw [h1,h2,h3];simp only [sliceRange_one,pick_run,List.size_toArray] <;> rfl
noncomputable def GJ (K:Frag):V->Option Int->Option Int->Hp->VK->Prop:=λ x lo hi H Q=>∃ a xs,x=.ref a/\cR K H a xs/\∀ p,H p=none->Q (.ref p) (cn H p (.lst (oY xs lo hi)))
theorem AT:BI X (GJ X.K):=by
 intro pins s σ H x v vl vu lo hi sl Q I rx hs pl pu h;obtain ⟨a,xs,rfl,hx,q⟩:=h;cases rx;obtain ⟨its,r,ht,hz⟩:=I.list hx;have hlen:=r.length;refine ⟨"list", _,slot_list_getitem.lookup,ht.isList.typeIs,?_⟩;refine wpAny_getItem_list_slice ht.isList hs pl pu .none (by simp) ?_ (by rw [List.size_toArray] <;> omega);rw [oP,<-hlen];refine ⟨.ref s.heap.objs.size,_,I.laid (t':=s.toks) (o:=.lst (oY xs lo hi)) (λ b ob q=>Heap.get?_push_of_some _ q) (Nat.le_refl _) ?_,rfl,q _ (I.hok.fresh (Nat.le_refl _))⟩;exact ⟨Nat.le_trans (mw xs lo hi) hz,_,0,(r.drop (HT.sIx xs.length 0 lo)).take (HT.sIx xs.length xs.length hi-HT.sIx xs.length 0 lo),Heap.get?_push_size _ rfl⟩
noncomputable def fR:V->Bool
 | .non=>true
 | .bl _=>true
 | .int _=>true
 | .str _=>true
 | _=>false
noncomputable def Bo:V->V->Bool
 | .non,.non=>true
 | .bl a,.bl b=>a==b
 | .bl a,.int b=>(if a then 1 else 0)==b
 | .int a,.bl b=>a==(if b then 1 else 0)
 | .int a,.int b=>a==b
 | .str a,.str b=>a==b
 | _,_=>false
theorem FU {A:Around} {s:Shared} {y x:V} {u v:Value} (ry:bq y u) (rx:bq x v) (fy:fR y=true) (fx:fR x=true):SeqAt.EqAt A s u v (Bo y x):=by
 cases y with
 | non=>
  cases ry;cases x with
  | non=>cases rx;exact SeqAt.EqAt.same _
  | bl b=>cases rx;exact SeqAt.EqAt.none_bool b
  | int b=>obtain ⟨t,rfl⟩:=rx;exact SeqAt.EqAt.none_int b t
  | str b=>obtain ⟨t,rfl⟩:=rx;exact SeqAt.EqAt.none_str b t
  | _=>exact absurd (show false=true from fx) Bool.false_ne_true
 | bl a=>
  cases ry;cases x with
  | non=>cases rx;exact SeqAt.EqAt.bool_none a
  | bl b=>cases rx;exact SeqAt.EqAt.bool_bool a b
  | int b=>obtain ⟨t,rfl⟩:=rx;exact SeqAt.EqAt.bool_int a b t
  | str b=>obtain ⟨t,rfl⟩:=rx;exact SeqAt.EqAt.bool_str a b t
  | _=>exact absurd (show false=true from fx) Bool.false_ne_true
 | int a=>
  obtain ⟨t',rfl⟩:=ry;cases x with
  | non=>cases rx;exact SeqAt.EqAt.int_none a t'
  | bl b=>cases rx;exact SeqAt.EqAt.int_bool a t' b
  | int b=>obtain ⟨t,rfl⟩:=rx;exact SeqAt.EqAt.int_int a t' b t
  | str b=>obtain ⟨t,rfl⟩:=rx;exact SeqAt.EqAt.int_str a t' b t
  | _=>exact absurd (show false=true from fx) Bool.false_ne_true
 | str a=>
  obtain ⟨t',rfl⟩:=ry;cases x with
  | non=>cases rx;exact SeqAt.EqAt.str_none a t'
  | bl b=>cases rx;exact SeqAt.EqAt.str_bool a t' b
  | int b=>obtain ⟨t,rfl⟩:=rx;exact SeqAt.EqAt.str_int a t' b t
  | str b=>obtain ⟨t,rfl⟩:=rx;exact SeqAt.EqAt.str_str a t' b t
  | _=>exact absurd (show false=true from fx) Bool.false_ne_true
 | _=>exact absurd (show false=true from fy) Bool.false_ne_true
noncomputable def uc (x:V) (u:Value):Bool:=match u with
 | .none=>Bo .non x
 | .bool b=>Bo (.bl b) x
 | .int i _=>Bo (.int i) x
 | .str z _=>Bo (.str z) x
 | _=>false
theorem yT {x y:V} {u:Value} (r:bq y u) (f:fR y=true):uc x u=Bo y x:=by
 cases y with
 | non=>cases r;rfl
 | bl b=>cases r;rfl
 | int i=>obtain ⟨t,rfl⟩:=r;rfl
 | str z=>obtain ⟨t,rfl⟩:=r;rfl
 | _=>exact absurd (show false=true from f) Bool.false_ne_true
theorem mZ {x:V} {xs:List V} {us:List Value} (h:ba xs us):xs.all fR=true->us.any (uc x)=xs.any λ y=>Bo y x:=by
 induction h with
 | nil=>exact λ _=>rfl
 | cons r _ ih=>
  intro f;rw [List.all_cons,Bool.and_eq_true] at f;rw [List.any_cons,List.any_cons,yT r f.1,ih f.2]
theorem kh {A:Around} {s:Shared} {x:V} {v:Value} (rx:bq x v) (fx:fR x=true):∀ {xs:List V} {us:List Value},ba xs us->xs.all fR=true->∀ u∈us,SeqAt.EqAt A s u v (uc x u):=λ h f u' hu=>by
 induction h with
 | nil=>cases hu
 | cons r _ ih=>
  rw [List.all_cons,Bool.and_eq_true] at f;rcases List.mem_cons.mp hu with rfl | hu
  . rw [yT r f.1];exact FU r rx f.1 fx
  . exact ih f.2 hu
noncomputable def Er (x:V) (xs:List V):Bool:=xs.any λ y=>Bo y x
noncomputable def Da (K:Frag) (neg:Bool):R2:=λ x y H Q=>∃ p xs,y=.ref p/\(cR K H p xs∨ez K H p xs)/\fR x=true/\xs.all fR=true/\Q (.bl (if neg then !Er x xs else Er x xs)) H
theorem xq:gp X (compareOp .In) (Da X.K false):=by
 intro pins s σ H x y v u Q I rx ry h;obtain ⟨p,xs,rfl,hq,fx,fs,q⟩:=h;cases ry;rcases hq with hq | hq
 . obtain ⟨its,r,pl,hz⟩:=I.list hq;refine SeqAt.in_listAt (uc x) pl.isList (λ w hw=>kh rx fx r fs w (by simpa using hw)) ⟨.bl _,H,I,rfl,?_⟩;rw [show its.toArray.any (uc x)=its.any (uc x) by simp,mZ r fs];exact q
 . obtain ⟨its,r,pl,hz⟩:=I.tuple hq;refine SeqAt.in_tupleAt (uc x) pl (λ w hw=>kh rx fx r fs w (by simpa using hw)) ⟨.bl _,H,I,rfl,?_⟩;rw [show its.toArray.any (uc x)=its.any (uc x) by simp,mZ r fs];exact q
theorem qq:gp X (compareOp .NotIn) (Da X.K true):=by
 intro pins s σ H x y v u Q I rx ry h;obtain ⟨p,xs,rfl,hq,fx,fs,q⟩:=h;cases ry;rcases hq with hq | hq
 . obtain ⟨its,r,pl,hz⟩:=I.list hq;refine SeqAt.notIn_listAt (uc x) pl.isList (λ w hw=>kh rx fx r fs w (by simpa using hw)) ⟨.bl _,H,I,rfl,?_⟩;rw [show its.toArray.any (uc x)=its.any (uc x) by simp,mZ r fs];exact q
 . obtain ⟨its,r,pl,hz⟩:=I.tuple hq;refine SeqAt.notIn_tupleAt (uc x) pl (λ w hw=>kh rx fx r fs w (by simpa using hw)) ⟨.bl _,H,I,rfl,?_⟩;rw [show its.toArray.any (uc x)=its.any (uc x) by simp,mZ r fs];exact q
theorem qy:cm X (.builtin "len") (λ xs H Q=>∃ p ys,xs=[.ref p]/\(cR X.K H p ys∨ez X.K H p ys)/\Q (.int ys.length) H):=by
 intro pins s σ H xs us Q I r h;obtain ⟨p,ys,rfl,hq,q⟩:=h;obtain ⟨u,rfl,rx⟩:=mz r;cases rx;have hn:=ls;rcases hq with hq | hq
 . obtain ⟨its,r',pl,hz⟩:=I.list hq;have hlen:=r'.length;exact Calls.call_len_list pl.isList (by simp only [List.size_toArray] <;> omega) ⟨.int ys.length,H,I.tok _,⟨s.toks+1,by rw [List.size_toArray,hlen]⟩,q⟩
 . obtain ⟨its,r',pl,hz⟩:=I.tuple hq;have hlen:=r'.length;exact len_tuple pl (by simp only [List.size_toArray] <;> omega) ⟨.int ys.length,H,I.tok _,⟨s.toks+1,by rw [List.size_toArray,hlen]⟩,q⟩
theorem rC:cm X (.builtin "len") (λ xs H Q=>∃ z,xs=[.str z]/\z.length<=sizeLine/\Q (.int z.length) H):=by
 intro pins s σ H xs us Q I r h;obtain ⟨z,rfl,hz,q⟩:=h;obtain ⟨u,rfl,t,rfl⟩:=mz r;have hn:=ls;exact len_str (by omega) ⟨.int z.length,H,I.tok _,⟨_,rfl⟩,q⟩
theorem cm.or {f:Value} {r r':List V->Hp->VK->Prop} (h:cm X f r) (h':cm X f r'):cm X f (λ xs H Q=>r xs H Q∨r' xs H Q):=by
 intro pins s σ H xs us Q I rs q;rcases q with q | q
 . exact h pins s σ H xs us Q I rs q
 . exact h' pins s σ H xs us Q I rs q
theorem qW:cm X (.type "list") (λ xs H Q=>∃ p ys,xs=[.ref p]/\(cR X.K H p ys∨ez X.K H p ys)/\∀ l,H l=none->Q (.ref l) (cn H l (.lst ys))):=by
 intro pins s σ H xs us Q I r h;obtain ⟨p,ys,rfl,hq,q⟩:=h;obtain ⟨u,rfl,rx⟩:=mz r;cases rx;have fin:∀ (its:List Value),ba ys its->ys.length<=sizeLine->∀ (h':Heap) (c':Nat),(∀ b o',s.heap.get? b=some o'->h'.get? b=some o')->
  h'.get? s.heap.objs.size=some { cls:=.type "list", dict:=none,data:=.seq its.toArray c',slots:=#[] }->EP X pins σ Q (.ref s.heap.objs.size) { s with heap:=h' }:=λ its r' hz h' c' kp e=>
  ⟨.ref s.heap.objs.size,_,I.laid (t':=s.toks) kp (Nat.le_refl _) (show cQ X.prog X.w _ h' _ (.lst ys) from ⟨hz,its,c',r',e⟩),rfl,q _ (I.hok.fresh (Nat.le_refl _))⟩
 rcases hq with hq | hq
 . obtain ⟨its,r',pl,hz⟩:=I.list hq;have hlen:=r'.length;obtain ⟨o,ho,hc,n,hd⟩:=pl.isList;exact call_list_seq p (.inl rfl) ho hc hd (λ h' c' kp e=>fin its r' hz h' c' kp e) (by simp only [List.size_toArray] <;> omega)
 . obtain ⟨its,r',pl,hz⟩:=I.tuple hq;have hlen:=r'.length;obtain ⟨o,ho,hc,n,hd⟩:=pl;exact call_list_seq p (.inr rfl) ho hc hd (λ h' c' kp e=>fin its r' hz h' c' kp e) (by simp only [List.size_toArray] <;> omega)
noncomputable def KS (K:Frag) (T:String) (x:V) (H:Hp):Prop:=match x with
 | .str _=>T = "str"
 | .int _=>T = "int"
 | .ref p=>(T = "list" /\ ∃ xs,cR K H p xs)∨(T = "tuple" /\ ∃ o,K.lookup p=some o/\o.cls=.type "tuple" /\ o.dict=none)∨
  (T = "dict" /\ ((∃ kvs,H p=some (.dK kvs))∨∃ kvs,H p=some (.dT kvs)))∨(T = "set" /\ ∃ S n,H p=some (.set S n))
 | _=>False
theorem yZ {pins:List (Addr×Obj)} {σ:St} {H:Hp} {s:Shared} {T:String} {x:V} {v:Value} (I:aL X pins σ H s) (r:bq x v) (ty:KS X.K T x H):
 s.TypeIs v T/\∀ a,v=.ref a->∃ ob,s.heap.get? a=some ob/\ob.dict=none:=by
 cases x with
 | str z=>
  obtain ⟨t,rfl⟩:=r;cases (show T = "str" from ty);exact ⟨typeIs_str s z t,λ _ e=>nomatch e⟩
 | int i=>
  obtain ⟨t,rfl⟩:=r;cases (show T = "int" from ty);exact ⟨typeIs_int s i t,λ _ e=>nomatch e⟩
 | ref p=>
  cases r;rcases ty with ⟨rfl,xs,hq⟩ | ⟨rfl,o,hk,hc,hd⟩ | ⟨rfl,hk⟩ | ⟨rfl,S,n,hk⟩
  . obtain ⟨its,_,pl,_⟩:=I.list hq;refine ⟨pl.isList.typeIs,λ a e=>?_⟩;cases e;obtain ⟨o,n,e,c,hd,_⟩:=pl;exact ⟨o,e,hd⟩
  . refine ⟨⟨o,I.kIn p o hk,hc⟩,λ a e=>?_⟩;cases e;exact ⟨o,I.kIn _ o hk,hd⟩
  . have z:∃ o,s.heap.get? p=some o/\o.ExactDict:=by
     rcases hk with ⟨kvs,hk⟩ | ⟨kvs,hk⟩
     . obtain ⟨_,_,_,_,o,_,_,e,ex,_⟩:=I.hok p _ hk;exact ⟨o,e,ex⟩
     . obtain ⟨_,_,_,_,o,_,_,e,ex,_⟩:=I.hok p _ hk;exact ⟨o,e,ex⟩
    obtain ⟨o,e,ex⟩:=z;refine ⟨⟨o,e,ex.1⟩,λ a e2=>?_⟩;cases e2;exact ⟨o,e,ex.2.1⟩
  . obtain ⟨o,_,_,_,e,ex,_⟩:=I.hok p _ hk;refine ⟨⟨o,e,ex.1⟩,λ a e2=>?_⟩;cases e2;exact ⟨o,e,ex.2.1⟩
 | _=>exact False.elim ty
noncomputable def Bi (K:Frag) (T:String) (r:V->List V->Hp->VK->Prop) (to:TE):TE:=λ σ H Q=>to σ H λ x H1=>KS K T x H1/\r x [] H1 Q
noncomputable def EH (K:Frag) (T:String) (r:V->List V->Hp->VK->Prop) (to:TE) (t:TA):TE:=λ σ H Q=>to σ H λ x H1=>KS K T x H1/\t σ H1 λ xs H2=>r x xs H2 Q
variable {o e:Expr} {es:List Expr} {to:TE} {t:TA} {name:Str} {apos cpos:Pos} {T id:String} {r:V->List V->Hp->VK->Prop}
theorem DD (pa:PlainAttrs T) (slot:Slot T name id) (hty:typeOf (.builtin id)=pure (.type "method_descriptor")) (hm:GM X id r) (ho:PE X o to)
 (hbase:attributeBase o name X.env (eval o X.env)=eval o X.env:=by rfl) (hline:(apos.endLine==cpos.line)=true:=by rfl):PE X (.Call (.Attribute o name apos) [] [] cpos) (Bi X.K T r to):=by
 intro pins s σ H Q I h;refine wpAny_Call_method0_late hbase hline (cE (ho pins s σ H _ I h) λ v s1 hq0=>?_);obtain ⟨x,H1,I1,r1,ty,q1⟩:=hq0;obtain ⟨h1,h2⟩:=yZ I1 r1 ty;exact ⟨T,id,pa,slot,hty,h1,h2,Calls.callWith_builtin rfl (PySem.evalArgs_none (hm pins s1 σ H1 x [] v [] Q I1 r1 .nil q1))⟩
theorem Ht (pa:PlainAttrs T) (slot:Slot T name id) (hty:typeOf (.builtin id)=pure (.type "method_descriptor")) (hm:GM X id r) (ho:PE X o to) (ha:PA X (e::es) t)
 (hbase:attributeBase o name X.env (eval o X.env)=eval o X.env:=by rfl)
 (hfew:((backTo cpos (starEach (e::es) X.env)).all (λ x=>!x.1)&&(backToKw cpos (keywordEach [] X.env)).all (λ x=>x.1.isSome)
  && decide ((e::es).length+([]:List Keyword).length+(if ([]:List Keyword).isEmpty then 0 else 1)<30))=true:=by rfl)
 (hline:(apos.endLine==cpos.line)=true:=by rfl) (hs:starEach (e::es) X.env=(false,eval e X.env)::starEach es X.env:=by rfl) (hplain:(backTo cpos (starEach es X.env)).any (·.1)=false:=by rfl):
 PE X (.Call (.Attribute o name apos) (e::es) [] cpos) (EH X.K T r to t):=by
 intro pins s σ H Q I h;refine wpAny_Call_method_late hbase hfew hline rfl (cE (ho pins s σ H _ I h) λ v s1 hq0=>?_);obtain ⟨x,H1,I1,r1,ty,q1⟩:=hq0;obtain ⟨h1,h2⟩:=yZ I1 r1 ty;refine ⟨T,id,pa,slot,hty,h1,h2,?_⟩;have hA:=ha cpos pins s1 σ H1 _ I1 q1;rw [hs] at hA ⊢;refine Calls.callWith_builtin (by show (false||(backTo cpos (starEach es X.env)).any (·.1))=false;rw [hplain] <;> rfl) (Calls.evalArgs_plain ?_);exact cE hA λ us s2 hy0=>by obtain ⟨vs,H2,I2,r2,q2⟩:=hy0;exact hm pins s2 σ H2 x vs v us Q I2 r1 r2 q2
end
end L2
namespace L2
open PySem PySem.Spec PyProof.Rows
open PySem.W (Frag)
noncomputable def J0 (X:Cx) (id:String) (r:V->List V->Hp->VK->Prop):Prop:=
 ∀ (pins:List (Addr×Obj)) (s:Shared) (σ:St) (H:Hp) (x:V) (xs:List V) (v:Value) (us:List Value) (Q:VK),aL X pins σ H s->bq x v->ba xs us->r x xs H Q->
  wpAny (model X.prog X.w) X.A (call (.builtin id) (v::us)) (EP X pins σ Q) X.xe s
theorem ba.one {x:V} {us:List Value} (h:ba [x] us):∃ u,us=[u]/\bq x u:=by
 cases h with
 | cons r t=>cases t;exact ⟨_,rfl,r⟩
theorem ba.zero:∀ {us:List Value},ba [] us->us=[]
 | _,.nil=>rfl
theorem ba.dropLast {xs:List V} {us:List Value} (h:ba xs us):ba xs.dropLast us.dropLast:=by
 induction h with
 | nil=>exact .nil
 | cons r t ih=>
  cases t with
  | nil=>exact .nil
  | cons q t'=>exact .cons r ih
theorem ba.rep {xs:List V} {us:List Value} (h:ba xs us):∀ k:Nat,ba (List.replicate k xs).flatten (List.replicate k us).flatten
 | 0=>.nil
 | k+1=>by
  rw [List.replicate_succ,List.replicate_succ,List.flatten_cons,List.flatten_cons];exact ba.append h (ba.rep h k)
theorem vd {α:Type} (l:List α):l.eraseIdx (l.length-1)=l.dropLast:=by
 induction l with
 | nil=>rfl
 | cons a r ih=>
  cases r with
  | nil=>rfl
  | cons b r=>
   have e:(a::b::r).length-1=((b::r).length-1)+1:=by
    have h1:(a::b::r).length=r.length+2:=rfl;have h2:(b::r).length=r.length+1:=rfl;omega
   rw [e,List.eraseIdx_cons_succ,ih];all_goals rfl
theorem pj (its:List Value):∀ (k:Nat) (acc:List Value),
 List.foldl (λ x1 x2=>x1++x2) acc.toArray (List.replicate k its.toArray)=(acc++(List.replicate k its).flatten).toArray
 | 0,acc=>by simp
 | k+1,acc=>by
  have e:acc.toArray++its.toArray=(acc++its).toArray:=by simp
  have e2:(acc++its)++(List.replicate k its).flatten=acc++(List.replicate (k+1) its).flatten:=by
   rw [List.replicate_succ,List.flatten_cons,List.append_assoc]
  rw [<-e2,<-pj its k (acc++its),<-e,List.replicate_succ,List.foldl_cons]
section
variable {X:Cx} {pins:List (Addr×Obj)} {σ:St} {H:Hp} {s:Shared} {l b:Addr} {xs ys zs:List V}
theorem aL.lset {its its':List Value} {n:Nat} {f:Array Value->Array Value} {t':Nat} (I:aL X pins σ H s) (hH:H l=some (.lst xs))
 (e:s.heap.get? l=some { cls:=.type "list", data:=.seq its.toArray n }) (hf:f its.toArray=its'.toArray) (hv:ba ys its') (hz:ys.length<=sizeLine):
 aL X pins σ (cn H l (.lst ys)) { s with heap:=s.heap.update l (Obj.mapSeq f),toks:=t' }:=by
 have q:=PySem.IsL.update e f;rw [hf] at q;refine I.write (x:=l) (e:=l) (by rw [hH];exact trivial) (.inl rfl) (λ b' u hb hu=>(Heap.get?_update_other s.heap (Obj.mapSeq f) (Ne.symm hb)).trans hu) ⟨_,q⟩ ?_;exact ⟨hz,its',_,hv,q⟩
theorem aL.lnew {its:List Value} {t':Nat} (I:aL X pins σ H s) (hv:ba ys its) (hz:ys.length<=sizeLine):
 aL X pins σ (cn H s.heap.objs.size (.lst ys)) { s with heap:=s.heap.push { cls:=.type "list", data:=.seq its.toArray },toks:=t' }:=
 I.laid (λ _ _ q=>Heap.get?_push_of_some _ q) (Nat.le_refl _) ⟨hz,its,0,hv,Heap.get?_push_size _ rfl⟩
theorem aL.fresh (I:aL X pins σ H s):H s.heap.objs.size=none:=I.hok.fresh (Nat.le_refl _)
theorem aL.lstM (I:aL X pins σ H s) (hH:H l=some (.lst xs)):xs.length<=sizeLine/\∃ (its:List Value) (n:Nat),ba xs its/\xs.length=its.length/\s.heap.get? l=some { cls:=.type "list", data:=.seq its.toArray n }:=by
 obtain ⟨z,its,n,r,e⟩:=I.hok l _ hH;exact ⟨z,its,n,r,r.length,e⟩
theorem n9 {n:Nat} (h:n<=sizeLine):Builtin.List.listTooLong n=false:=by
 unfold Builtin.List.listTooLong;exact decide_eq_false (by omega)
end
section
variable {X:Cx}
noncomputable def mV:V->List V->Hp->VK->Prop:=λ x vs H Q=>∃ l xs y,x=.ref l/\vs=[y]/\H l=some (.lst xs)/\xs.length<sizeLine/\Q .non (cn H l (.lst (xs++[y])))
theorem xR:J0 X "list.append" mV:=by
 intro pins s σ H x vs v us Q I rx rv h;obtain ⟨l,xs,y,rfl,rfl,hH,hz,q⟩:=h;cases rx;obtain ⟨u,rfl,ru⟩:=rv.one;obtain ⟨z,its,n,r,hl,e⟩:=I.lstM hH;refine call_meets F.slot_list_append ⟨_,e,rfl⟩ F.entry_list_append (F.args_list_append_2 _ _) (PySem.list_append l its.toArray n u (by rw [List.size_toArray];omega)) ⟨e,?_⟩;refine ⟨.non,_,I.lset (its':=its++[u]) hH e (by simp) (r.append (.cons ru .nil)) ?_,rfl,q⟩;rw [List.length_append,List.length_singleton];omega
noncomputable def qQ:V->List V->Hp->VK->Prop:=λ x vs H Q=>∃ l b xs zs,x=.ref l/\vs=[.ref b]/\H l=some (.lst xs)/\H b=some (.lst zs)/\xs.length+zs.length<=sizeLine/\Q .non (cn H l (.lst (xs++zs)))
theorem xJ:J0 X "list.extend" qQ:=by
 intro pins s σ H x vs v us Q I rx rv h;obtain ⟨l,b,xs,zs,rfl,rfl,hH,hB,hz,q⟩:=h;cases rx;obtain ⟨u,rfl,ru⟩:=rv.one;cases ru;obtain ⟨z,its,n,r,hl,e⟩:=I.lstM hH;obtain ⟨z2,its2,n2,r2,hl2,e2⟩:=I.lstM hB;have hsz:its.toArray.size+its2.toArray.size<=sizeLine:=by rw [List.size_toArray,List.size_toArray];omega
 have hlong:¬ (!its.toArray.isEmpty&&Builtin.List.listTooLong (its.toArray.size+its2.toArray.size))=true:=by
  rw [n9 hsz,Bool.and_false];exact Bool.false_ne_true
 refine call_meets F.slot_list_extend ⟨_,e,rfl⟩ F.entry_list_extend (F.args_list_extend_2 _ _)
  (AutoSeq1.list_extend_list_list_0 l its.toArray n b its2.toArray n2 hlong (by rw [List.size_toArray];omega) (by omega)) ⟨e,e2,?_⟩
 refine ⟨.non,_,I.lset (its':=its++its2) hH e (by simp) (r.append r2) ?_,rfl,q⟩;rw [List.length_append];omega
noncomputable def Ei:V->List V->Hp->VK->Prop:=λ x vs H Q=>∃ l xs y,x=.ref l/\vs=[]/\H l=some (.lst xs)/\xs[xs.length-1]?=some y/\Q y (cn H l (.lst xs.dropLast))
theorem FA:J0 X "list.pop" Ei:=by
 intro pins s σ H x vs v us Q I rx rv h;obtain ⟨l,xs,y,rfl,rfl,hH,hy,q⟩:=h;cases rx;have hus:=rv.zero;subst hus;obtain ⟨z,its,n,r,hl,e⟩:=I.lstM hH;obtain ⟨u,hu,ru⟩:=r.get hy;have hy':its.toArray[its.toArray.size-1]?=some u:=by
  show its.toArray[its.length-1]?=some u;rw [<-Array.getElem?_toList,<-hl];exact hu
 refine call_meets F.slot_list_pop ⟨_,e,rfl⟩ F.entry_list_pop (F.args_list_pop_1 _) (MeetsSeq.list_pop_last l its.toArray n u hy' (by rw [List.size_toArray];omega)) ⟨e,?_⟩;refine ⟨y,_,I.lset (its':=its.dropLast) hH e ?_ r.dropLast ?_,ru,q⟩
 . show its.toArray.eraseIdxIfInBounds (its.toArray.size-1)=its.dropLast.toArray;rw [List.size_toArray,List.eraseIdxIfInBounds_toArray,vd]
 . rw [List.length_dropLast];omega
noncomputable def Ik:R2:=λ x y H Q=>∃ l k xs,x=.ref l/\y=.int k/\H l=some (.lst xs) /\ -(2^63)<=k/\k<2^63/\xs.length*k.toNat<=sizeLine/\
 ∀ p,H p=none->Q (.ref p) (cn H p (.lst (List.replicate k.toNat xs).flatten))
theorem BA {α:Type} (xs:List α) (k:Nat):(List.replicate k xs).flatten.length=k*xs.length:=by
 induction k with
 | zero=>simp
 | succ k ih=>rw [List.replicate_succ,List.flatten_cons,List.length_append,ih,Nat.succ_mul,Nat.add_comm]
theorem Ku:gp X (binaryOp .Mult) Ik:=by
 intro pins s σ H x y v u Q I rx ry h;obtain ⟨l,k,xs,rfl,rfl,hH,h1,h2,hz,q⟩:=h;cases rx;obtain ⟨t,rfl⟩:=ry;obtain ⟨z,its,n,r,hl,e⟩:=I.lstM hH;have hlen:its.toArray.size*k.toNat<=sizeLine:=by rw [List.size_toArray,<-hl];exact hz
 have hcap:¬ its.toArray.size*k.toNat>(2^63-1) / 8:=by
  have:(sizeLine:Nat)<=(2^63-1) / 8:=by decide
  omega
 have hfit:¬ (!Builtin.List.listFitsIndex k)=true:=by
  rw [fitsIndex_both h1 h2];exact Bool.false_ne_true
 have hlong:¬ Builtin.List.listTooLong (its.toArray.size*k.toNat)=true:=by
  rw [n9 hlen];exact Bool.false_ne_true
 have hnew:List.foldl (λ x1 x2=>x1++x2) #[] (List.replicate (if its.toArray.isEmpty=true then 0 else k.toNat) its.toArray)=(List.replicate k.toNat its).flatten.toArray:=by
  have f0:∀ m:Nat,List.foldl (λ x1 x2=>x1++x2) #[] (List.replicate m its.toArray)=(List.replicate m its).flatten.toArray:=λ m=>by
   have:=pj its m [];rw [List.nil_append] at this;exact this
  rw [f0];cases its with
  | nil=>simp
  | cons a r'=>rw [if_neg (by simp)]
 refine wpAny_binaryOp_repeat_ref (T := "list") (U := "int") (by decide) ⟨_,e,rfl⟩ (λ s'=>typeIs_int s' k t) noFill_list_mul F.fills_int_mul F.slot_int_rmul repeat_list F.slot_int_index.lookup
  (call_meets F.slot_int_rmul (typeIs_int s k t) F.entry_int_rmul (F.args_int_rmul_2 _ _) (int___rmul___int_list k t l its.toArray n)
   ⟨e,rfl,⟨_,e,rfl⟩,call_meets F.slot_list_mul ⟨_,e,rfl⟩ F.entry_list_mul (F.args_list_mul_2 _ _) (AutoListH.list___mul___list_int_3 l its.toArray n k t hfit hcap hlong) ⟨e,?_⟩⟩)
 rw [hnew];exact ⟨.ref _,_,I.lnew (t':=s.toks) (r.rep k.toNat) (by rw [BA,Nat.mul_comm];exact hz),rfl,q _ I.fresh⟩
end
section
variable {prog:Program} {w:World} {A:Around} {E:Value->Shared->Prop} {s:Shared}
end
section
variable {X:Cx}
end
end L2
namespace Att
open PySem PySem.W PySem.Calls PyProof.Rows
theorem mI {P:Params} {h:Heap}:∀ (ns:List Int) (vs:List Value),WellAll P h vs (ns.map WData.int)->IntsAre vs ns:=by
 intro ns;induction ns with
 | nil=>
  intro vs w;rw [List.map_nil] at w;cases w;exact .nil
 | cons n ns ih=>
  intro vs w;rw [List.map_cons] at w;cases w with
  | cons a b=>
   cases a;exact .cons _ _ (ih _ b)
theorem xl {l:OpenLaw} {n:Nat} (hn:l.most=some n) {P:Params} {h:Heap} {args:List WData} {vals:List Value}
 (hpre:l.row.toRowW.claim.pre args=true) (hwl:WellAll P h vals args):
 ∃ a vs ns,vals=[Value.ref a]/\args=[WData.list (ns.map WData.int)]/\h.get? a=some { cls:=.type "list", data:=.seq vs.toArray }/\IntsAre vs ns/\ns.length<=n:=by
 have hsh:WShape.hasAll [] args [.list .int]=true:=(pre_splitW hpre).1;have hc:l.pre.holds [] { args:=args }=true:=(pre_splitW hpre).2;obtain ⟨d,r,rfl,h1,h2⟩:=hasAllW_cons hsh;obtain rfl:=hasAllW_nil h2;obtain ⟨xs,rfl,h3⟩:=hasW_list h1;obtain ⟨ns,rfl⟩:=items_int h3;have hlen:ns.length<=n:=by
  unfold OpenLaw.pre at hc;have h4:(WTm.not (.lt (.lit (.int (n:Int))) (.len (.arg 0)))).holds [] { args:=[.list (ns.map .int)] }=true:=by
   have h4:=(holds_andW hc).1;rw [hn] at h4;exact h4
  have h5:=condW_of h4 (w_not (w_lt w_lit (w_len_list (w_arg rfl))));rw [List.length_map] at h5;refine Nat.le_of_not_lt λ q=>?_;have q':(n:Int)<((ns.length:Nat):Int):=by omega
  first
   | (rw [decide_eq_true q'] at h5;exact absurd h5 (by decide))
   | (simp at h5;omega)
 cases hwl with
 | cons w1 w2=>
  cases w2;cases w1 with
  | list ho hall=>exact ⟨_,_,ns,rfl,rfl,ho,mI ns _ hall,hlen⟩
theorem xE (l:OpenLaw) (args:List WData):l.row.toRowW.claim.post args (.bool true) args=true:=
 postW_of (r:=l.row.toRowW) (X:=(true==true))
  (show WShape.has [] (.bool true) .bool=true by first | rfl | decide | simp [WShape.has,WShape.arms,WShape.armsAll])
  (show (WTm.eq .res (.lit (.bool true))).value [] { args:=args,res:=some (.bool true),after:=args }=some (.bool (true==true)) from w_eq_bool (w_res rfl) w_lit) rfl
theorem attach_call {l:OpenLaw} {n:Nat} {q:Program} {loose:List Str} {XP:(Str->Option Value)->Heap->Prop} {YP:World->Heap->Prop} {d:DefRec}
 (hn:l.most=some n) (hdf:d.params.defaults=[])
 (call:∀ (w:World) (s₀ s₁:Shared) (mg mb:Str->Option Value) (fa:Addr) (o:Obj) (pm cd doc:Value) (a:Addr) (vs:List Value) (ns:List Int),
  Ground q loose [] XP w s₀ mg mb s₁.heap->YP w s₁.heap->
  s₁.heap.get? fa=some o->o.data=.func (docDef d.name d.params d.body d.scope pm cd doc)->s₁.heap.CodeRec cd d.name->mg d.name=some (.ref fa)->
  s₁.heap.get? a=some { cls:=.type "list", data:=.seq vs.toArray }->IntsAre vs ns->ns.length<=n->s₁.gens = #[]->
  codeAny (model l.prog w) callerA (.call (.ref fa) ⟨[.ref a],[]⟩) (λ r s'=>r=.ok (.ret (.bool true))/\OldK s₁.heap s'.heap/\s'.os=s₁.os/\AllBare s'.gens) s₁):
 WalkO q loose XP YP l.row.toRowW d [] (λ f vs=>PySem.call f vs):=by
 intro w s₀ s₁ mg mb G Y fa o pm cd doc dV kV ho hd hcd hD hmg hg args vals as hpre hlay hrd hwl hlo;obtain rfl:dV=.none:=Dflts.none hD hdf;obtain rfl:kV=.none:=Dflts.noKw hD;obtain ⟨a,vs,ns,rfl,rfl,hobj,hints,hlen⟩:=xl hn hpre hwl;refine enter_call (codeAny_mono (call w s₀ s₁ mg mb fa o pm cd doc a vs ns G Y ho (fd_plain hd) hcd hmg hobj hints hlen hg) λ r s' hq=>?_);obtain ⟨rfl,h2,h3,h4⟩:=hq;exact ⟨.inl ⟨.bool true,.bool true,[],rfl,λ _=>rfl,.bool true,xE l _,λ _=>⟨List.Pairwise.nil,λ _ hm=>(nomatch hm)⟩⟩,h2,h3,h4⟩
section
variable {prog:Program} {w:World} {A:Around} {E:Value->Shared->Prop} {s:Shared} {K:Frag}
end
end Att
namespace L2
open PySem PySem.Spec PyProof.Rows
open PySem.W (Frag)
theorem xM {vs:List Value} {ns:List Int} (h:IntsAre vs ns):ba (ns.map V.int) vs:=by
 induction h with
 | nil=>exact .nil
 | cons n t _ ih=>exact .cons ⟨t,rfl⟩ ih
noncomputable def Ep (H:Hp):Prop:=∀ b,H b=none∨∃ o xs,H b=some (.frz o (.lst xs))
theorem z9 {P:Program} {w:World} {K:Frag} {mg mb:Str->Option Value} {CX:vv} {k:Nat} {fa a:Addr} {fd:FuncData} {x:Str} {sp:Sp} {s₁:Shared} {vs:List Value} {ns:List Int}
 (KX:K.In s₁.heap) (hns:s₁.heap.Ns mainGlobals mg) (hb:s₁.heap.Ns builtinsNs mb) (hbb:∀ x:Str,x ≠ "__name__" -> mb x=bootBuiltins x) (hlim:s₁.heap.NoLimit) (hg:s₁.gens = #[])
 (ha:s₁.heap.get? a=some { cls:=.type "list", data:=.seq vs.toArray }) (hi:IntsAre vs ns) (hl:ns.length<=sizeLine) (hr:dF k callerA)
 (F:∀ base:Heap,K.In base->base.Ns mainGlobals mg->eF P w K mg base CX k fa fd [x] sp) (hbind:∀ (s:Shared) (u:Value),BindsTo s fd ⟨[u],[]⟩ [(x,u)])
 (hsp:∀ H:Hp,Ep H->cR K H a (ns.map V.int)->sp [.ref a] H (λ v _=>v=.bl true) λ _ _ _=>False)
 (hCX:∀ H e s',CX [] H s₁ (λ _ _ _=>False) e s'->False):
 codeAny (model P w) callerA (.call (.ref fa) ⟨[.ref a],[]⟩) (λ r s'=>r=.ok (.ret (.bool true))/\OldK s₁.heap s'.heap/\s'.os=s₁.os/\AllBare s'.gens) s₁:=by
 have rv:=xM hi;have lenV:=hi.length;have core:∀ H:Hp,Ep H->cR K H a (ns.map V.int)->jP P w H s₁.heap->(∀ b,H b≠none->b=a)->(H a≠none->K.lookup a=none)->
  codeAny (model P w) callerA (.call (.ref fa) ⟨[.ref a],[]⟩) (λ r s'=>r=.ok (.ret (.bool true))/\OldK s₁.heap s'.heap/\s'.os=s₁.os/\AllBare s'.gens) s₁:=by
  intro H hO hS hok hA hK;have base_of:∀ {b:Addr} {o:Obj},s₁.heap.get? b=some o->H b=none->(re s₁.heap H).get? b=some o:=λ e n=>zA e n;have noA:∀ {b:Addr} {o:Obj} {es:Array DictEntry} {ep:Nat},s₁.heap.get? b=some o->o.data=.dict es ep->H b=none:=λ {b o es ep} e d=>by
   cases q:H b with
   | none=>rfl
   | some u=>
    have e':b=a:=hA b (by rw [q];simp);subst e';rw [ha] at e;cases e;have d':Data.seq vs.toArray _=Data.dict es ep:=d;cases d'
  have nsK:∀ {b:Addr} {m:Str->Option Value},s₁.heap.Ns b m->(re s₁.heap H).Ns b m:=λ {b m} hy0=>by obtain ⟨o,es,ep,e,d,r⟩:=hy0;exact ⟨o,es,ep,base_of e (noA e d),d,r⟩
  have hKb:K.In (re s₁.heap H):=λ b o e=>base_of (KX b o e) (by
   cases q:H b with
   | none=>rfl
   | some u=>
    have e':b=a:=hA b (by rw [q];simp);subst e';rw [hK (by rw [q];simp)] at e;cases e)
  have hM:Mod K mg (re s₁.heap H):=⟨hKb,nsK hns,⟨mb,nsK hb,hbb⟩,by obtain ⟨mc,h1,h2⟩:=hlim;exact ⟨mc,nsK h1,h2⟩⟩
  have e0:ub P w K mg (re s₁.heap H) callerA [] s₁ H:=⟨rfl,hM,λ b o e=>B3 e,Nat.le_of_eq (xv _ _),trivial,λ b hb=>absurd (show b∈([]:List Addr) from hb) (by simp),hok,.of_eq hg⟩
  refine codeAny_mono ((F _ hKb (nsK hns)).run callerA [] s₁ H ⟨[.ref a],[]⟩ [.ref a] [.ref a] _ _ hr e0 (hbind s₁ (.ref a)) (.cons rfl .nil) (hsp H hO hS)) λ r s' h=>?_;cases r with
  | error e=>exact (hCX H e s' h).elim
  | ok fl=>
   cases fl with
   | next=>exact False.elim h
   | brk=>exact False.elim h
   | cont=>exact False.elim h
   | ret u=>
    obtain ⟨v,H',os,bare,un,hok',r',q⟩:=h;have q':v=.bl true:=q;subst q';obtain rfl:u=Value.bool true:=r';refine ⟨rfl,OldK.of_keep λ b o e=>?_,os,bare⟩;cases q:H b with
    | none=>exact un.keep b o e q (by intro z;exact absurd (show b∈([]:List Addr) from z) (by simp)) (by simp)
    | some u=>
     rcases hO b with z | ⟨ob,xs,z⟩
     . rw [q] at z;cases z
     . have z2:=un.frzs b ob _ z;obtain ⟨e1,_⟩:=hok b _ z;obtain ⟨e2,_⟩:=hok' b _ z2;rw [e] at e1;cases e1;exact e2
 cases hk:K.lookup a with
 | some o=>
  have e:=KX a o hk;rw [ha] at e;cases e;refine core (λ _=>none) (λ _=>.inl rfl) (.inr ⟨_,vs.toArray,_,hk,rfl,rfl,rfl,by rw [List.size_toArray,lenV];exact hl,by simpa using rv⟩) (λ b u z=>by have z':(none:Option HO)=some u:=z;cases z') (λ b z=>absurd rfl z) λ z=>absurd rfl z
 | none=>
  refine core (λ b=>if b=a then some (.frz { cls:=.type "list", data:=.seq vs.toArray } (.lst (ns.map V.int))) else none) (λ b=>?_) (.inl (.inr ⟨{ cls:=.type "list", data:=.seq vs.toArray },if_pos rfl⟩)) (λ b u z=>?_) (λ b z=>?_) λ _=>hk
  . by_cases hb:b=a
    . exact .inr ⟨_,_,if_pos hb⟩
    . exact .inl (if_neg hb)
  . by_cases hb:b=a
    . have z':=(if_pos hb).symm.trans z;cases z';subst hb;exact ⟨ha,by rw [List.length_map];exact hl,vs,_,rv,ha⟩
    . have z':=(if_neg hb).symm.trans z;cases z'
  . by_cases hb:b=a
    . exact hb
    . exact absurd (if_neg hb) z
end L2
namespace L2
open PySem PySem.Spec PyProof.Rows
open PySem.W (Frag)
theorem walk_of {l:PySem.W.OpenLaw} {n k:Nat} {q:Program} {loose:List Str} {XP:(Str->Option Value)->Heap->Prop} {YP:World->Heap->Prop} {d:DefRec} {K:Params->Frag} {CX:World->vv} {sp:World->Sp} {x:Str}
 (hn:l.most=some n) (hn2:n<=sizeLine) (hdf:d.params.defaults=[]) (hr:dF k callerA)
 (hY:∀ (w:World) (h:Heap),YP w h->(K w.params).In h)
 (F:∀ (w:World) (mg:Str->Option Value) (fa:Addr) (h:Heap),(K w.params).In h->h.Ns mainGlobals mg->mg d.name=some (.ref fa)->
  ∃ fd:FuncData,(∀ (s:Shared) (u:Value),BindsTo s fd ⟨[u],[]⟩ [(x,u)])/\
   ∀ base:Heap,(K w.params).In base->base.Ns mainGlobals mg->eF l.prog w (K w.params) mg base (CX w) k fa fd [x] (sp w))
 (hsp:∀ (w:World) (H:Hp) (a:Addr) (ns:List Int),ns.length<=n->Ep H->cR (K w.params) H a (ns.map V.int)->sp w [.ref a] H (λ v _=>v=.bl true) λ _ _ _=>False)
 (hCX:∀ (w:World) (H:Hp) (s:Shared) (e:Value) (s':Shared),CX w [] H s (λ _ _ _=>False) e s'->False):
 PySem.W.WalkO q loose XP YP l.row.toRowW d [] (λ f vs=>PySem.call f vs):=by
 refine Att.attach_call hn hdf λ w s₀ s₁ mg mb fa o pm cd doc a vs ns G Y ho hd hcd hmg hobj hints hlen hg=>?_;have KX:=hY w _ Y;obtain ⟨fd,hb,hF⟩:=F w mg fa _ KX G.T.g hmg;exact z9 KX G.T.g G.T.b G.T.builtins G.T.nolimit hg hobj hints (Nat.le_trans hlen hn2) hr hF hb (λ H hO hS=>hsp w H a ns hlen hO hS) λ H e s'=>hCX w H s₁ e s'
end L2
namespace L2
open PySem PySem.Spec PyProof.Rows
open PySem.W (Frag)
noncomputable def ku (s:Stmt) (j:Nat):Stmt:=match s with
 | .ClassDef _ _ _ body _ _ _ _ _ _ _=>body.getD j (.Pass ⟨0,0,0,0⟩)
 | _=>.Pass ⟨0,0,0,0⟩
noncomputable def cJ (s:Stmt):Arguments:=match s with
 | .FunctionDef _ a _ _ _ _ _ _ _ _=>a
 | _=>{ posonlyargs:=[],args:=[],vararg:=none,kwonlyargs:=[],kw_defaults:=[],kwarg:=none,defaults:=[] }
noncomputable def ck (s:Stmt):List Stmt:=match s with
 | .FunctionDef _ _ b _ _ _ _ _ _ _=>b
 | _=>[]
noncomputable def aZ (s:Stmt):Scope:=match s with
 | .FunctionDef _ _ _ _ _ _ sc _ _ _=>sc
 | _=>{ kind:=.function,names:=[],isGenerator:=false,isCoroutine:=false }
noncomputable abbrev CQ:vv:=λ _ _ _ _ _ _=>False
noncomputable abbrev E0:XK:=λ _ _ _=>False
theorem Dx {X:Cx}:jh CQ X E0:=λ _ _ _ _ _ _ _ h=>h.elim
structure J7 (K:Frag) (x qual:Str) (st:Stmt) (f:Addr) (fd:FuncData):Prop where
 ex:∃ (oc:Value) (od:Option Addr) (kV doc pm:Value) (an:Option Addr) (cdv ct:Value) (osl:Array (Option Value)),
  fd=PySem.W.fnOf x qual (cJ st) (ck st) (aZ st) .none kV doc pm an cdv ct/\K.lookup f=some ⟨oc,od,.func fd,osl⟩/\PySem.W.codeIn K cdv qual=true
 kp:PySem.W.keepIn K (.ref f)=true
section
variable {P:Program} {w:World} {K:Frag} {mg:Str->Option Value} {base:Heap}
theorem J7.binds {x qual:Str} {st:Stmt} {f:Addr} {fd:FuncData} {ps:List Str} (F:J7 K x qual st f fd)
 (h:∀ (kV doc pm:Value) (an:Option Addr) (cdv ct:Value) (us:List Value),us.length=ps.length->bindArgs (PySem.W.fnOf x qual (cJ st) (ck st) (aZ st) .none kV doc pm an cdv ct) ⟨us,[]⟩=pure (ps.zip us)):df K fd ps []:=by
 obtain ⟨oc,od,kV,doc,pm,an,cdv,ct,osl,rfl,lk,hcd⟩:=F.ex;exact .all (h kV doc pm an cdv ct)
theorem lK {x qual:Str} {st:Stmt} {f:Addr} {oc:Value} {od an:Option Addr} {osl:Array (Option Value)} {kV doc pm cdv ct:Value} (l:K.lookup f=some ⟨oc,od,.func (PySem.W.fnOf x qual (cJ st) (ck st) (aZ st) .none kV doc pm an cdv ct),osl⟩)
 (c:PySem.W.codeIn K cdv qual=true) (k:PySem.W.keepIn K (.ref f)=true):J7 K x qual st f (PySem.W.fnOf x qual (cJ st) (ck st) (aZ st) .none kV doc pm an cdv ct):=⟨⟨oc,od,kV,doc,pm,an,cdv,ct,osl,rfl,l,c⟩,k⟩
end
theorem wS {n:Nat} (h:n<=1000):n<sizeLine:=Nat.lt_of_le_of_lt h (by decide)
section
variable {X:Cx}
end
noncomputable def bm (H H':Hp):Prop:=∀ b o,H b=some o->H' b=some o
theorem bm.refl (H:Hp):bm H H:=λ _ _ h=>h
theorem bm.trans {H H1 H2:Hp} (a:bm H H1) (b:bm H1 H2):bm H H2:=λ c o h=>b c o (a c o h)
theorem bm.seq {K:Frag} {H H':Hp} {a:Addr} {xs:List V} (e:bm H H') (h:cR K H a xs):cR K H' a xs:=by
 rcases h with (h | ⟨o,h⟩) | h
 . exact .inl (.inl (e _ _ h))
 . exact .inl (.inr ⟨o,e _ _ h⟩)
 . exact .inr h
noncomputable def oV (cells:List (Str×Addr)):List (Str×NameKind)->List (Str×Addr)->List (Str×Addr)
 | [],cs=>cs
 | (n,k)::r,cs=>oV cells r (if k==.free then (n,(cells.lookup n).getD 0)::cs else cs)
noncomputable def xn (scope:Scope) (env:Env):List (Str×Addr):=oV env.cells scope.names []
theorem v7 {env:Env}:∀ (names:List (Str×NameKind)) (cs:List (Str×Addr)),(∀ y∈names,y.2=.free->∃ c,env.cells.lookup y.1=some c)->
 (forIn names cs λ (x:Str×NameKind) (r:List (Str×Addr))=>(match x with
  | (name,kind)=>if (kind==NameKind.free)=true then do let a <-cellOf env name;pure (ForInStep.yield ((name,a)::r)) else pure (ForInStep.yield r):Sem (ForInStep (List (Str×Addr)))))=(pure (oV env.cells names cs):Sem _)
 | [],cs,_=>rfl
 | (n,k)::r,cs,h=>by
  have hr:=λ cs'=>v7 (env:=env) r cs' λ y hy=>h y (List.mem_cons_of_mem _ hy);rw [List.forIn_cons];by_cases hk:(k==NameKind.free)=true
  . obtain ⟨c,hc⟩:=h (n,k) List.mem_cons_self (by simpa using hk);have e1:cellOf env n=pure c:=by unfold cellOf;rw [hc]
    simp only [hk,if_true,e1,pure_bind];rw [hr];unfold oV;rw [if_pos hk,hc]
    conv=>rhs;unfold oV
    rfl
  . simp only [hk,if_false,pure_bind,Bool.false_eq_true];rw [hr]
    conv=>rhs;unfold oV
    rw [if_neg hk]
theorem n8 {scope:Scope} {env:Env} (h:∀ y∈scope.names,y.2=.free->∃ c,env.cells.lookup y.1=some c):closureFor scope env=pure (xn scope env):=by
 unfold closureFor xn;rw [<-v7 scope.names [] h];simp
theorem lT {cells:List (Str×Addr)} {x:Str} {c:Addr}:∀ (names:List (Str×NameKind)) (cs:List (Str×Addr)),(∀ y∈names,y.2=.free->∃ d,cells.lookup y.1=some d)->(∀ d,cs.lookup x=some d->cells.lookup x=some d)->
 (oV cells names cs).lookup x=some c->cells.lookup x=some c
 | [],cs,_,hc,h=>hc c h
 | (n,k)::r,cs,hn,hc,h=>by
  unfold oV at h;refine lT r _ (λ y hy=>hn y (List.mem_cons_of_mem _ hy)) ?_ h;intro d hd;by_cases hk:(k==NameKind.free)=true
  . rw [if_pos hk] at hd;obtain ⟨e,he⟩:=hn (n,k) List.mem_cons_self (by simpa using hk);simp only at he;rw [List.lookup_cons] at hd;cases hx:x==n with
    | true=>
     have:x=n:=by simpa using hx
     subst this;rw [hx] at hd;simp only [Option.some.injEq] at hd;rw [he] at hd ⊢;simp at hd;rw [hd]
    | false=>
     rw [hx] at hd;exact hc d hd
  . rw [if_neg hk] at hd;exact hc d hd
theorem oj {cells:List (Str×Addr)} {x:Str}:∀ (names:List (Str×NameKind)) (cs:List (Str×Addr)),((x,NameKind.free)∈names∨∃ d,cs.lookup x=some d)->∃ d,(oV cells names cs).lookup x=some d
 | [],cs,h=>by
  rcases h with h | h
  . cases h
  . exact h
 | (n,k)::r,cs,h=>by
  unfold oV;refine oj r _ ?_;rcases h with h | ⟨d,h⟩
  . rcases List.mem_cons.mp h with e | h
    . cases e;exact .inr ⟨_,by rw [if_pos (by rfl),List.lookup_cons,beq_self_eq_true]⟩
    . exact .inl h
  . refine .inr ?_;split
    . rw [List.lookup_cons];cases hx:x==n with
      | true=>exact ⟨_,rfl⟩
      | false=>exact ⟨d,h⟩
    . exact ⟨d,h⟩
theorem gy {scope:Scope} {env:Env} {x:Str} {k:NameKind} (h:(relabel scope env).names.lookup x=some k) (hk:k=.cell∨k=.free) (hc:∀ y∈scope.names,y.2≠.cell):(x,NameKind.free)∈scope.names:=by
 have hm:=PySem.mem_of_lookup h;unfold relabel at hm;obtain ⟨⟨n,k'⟩,hy,e⟩:=List.mem_map.mp hm;by_cases q:(k'==NameKind.free&&env.scope.kind==.function&&env.kindOf n==some .cell)=true
 . simp only [q,if_true] at e;cases e;have:k'=.free:=by
    simp only [Bool.and_eq_true,beq_iff_eq] at q;exact q.1.1
   subst this;exact hy
 . simp only [q,if_false,Bool.false_eq_true] at e;cases e;rcases hk with rfl | rfl
   . exact absurd rfl (hc _ hy)
   . exact hy
noncomputable def lift (ix:List (Option Nat)) (σ:St):St:=ix.map λ o=>match o with
 | none=>none
 | some i=>match σ[i]? with
  | some v=>v
  | none=>none
structure bK (X:Cx) (scope:Scope) (N:List Str) (ix:List (Option Nat)):Prop where
 kind:scope.kind=.function
 nocell:∀ y∈scope.names,y.2≠.cell
 locs:∀ y∈scope.names,y.2=.local->scope.names.lookup y.1=some .local
 free:∀ y∈scope.names,y.2=.free->X.env.kindOf y.1=some .cell∨X.env.kindOf y.1=some .free
 len:ix.length=N.length
 nd:N.Nodup
 from':∀ j i:Nat,ix[j]?=some (some i)->∃ x,N[j]?=some x/\X.N[i]?=some x/\(X.env.kindOf x=some .cell∨X.env.kindOf x=some .free)/\((relabel scope X.env).names.lookup x=some .cell∨(relabel scope X.env).names.lookup x=some .free)
noncomputable def bL (X:Cx) (scope:Scope) (N:List Str) (s₀:Shared) (H₀:Hp) (C:Addr) (ex:List Addr):Cx where
 prog:=X.prog
 w:=X.w
 K:=X.K
 mg:=X.mg
 base:=X.base
 A:=X.A
 N:=N
 s₀:=s₀
 H₀:=H₀
 env:=compEnvC scope (xn scope X.env) C X.env
 outer:=X.stack
 stack:=X.stack
 ex:=ex
 fn:=λ _=>false
 calm:=X.calm
 pn:=[]
 xe:=λ _ _=>False
section
variable {X:Cx} {pins:List (Addr×Obj)} {σ:St} {H:Hp} {s:Shared} {scope:Scope} {N:List Str} {ix:List (Option Nat)}
theorem bK.cells (S:bK X scope N ix) (I:aL X pins σ H s):∀ y∈scope.names,y.2=.free->∃ c,X.env.cells.lookup y.1=some c:=λ y hy hk=>I.ok.has y.1 (S.free y hy hk)
theorem bK.sub (S:bK X scope N ix) (I:aL X pins σ H s) {x:Str} {c:Addr} (h:(xn scope X.env).lookup x=some c):X.env.cells.lookup x=some c:=
 lT scope.names [] (S.cells I) (λ d h=>by simp at h) h
theorem bK.start (S:bK X scope N ix) (I:aL X pins σ H s) {fp:List Addr} {C D:Addr} {h':Heap} {tk:Nat} (hf:∀ b∈fp,lI X pins H b) (hfo:∀ b∈fp,∃ o,s.heap.get? b=some o) (hD:D=s.heap.objs.size) (hC:s.heap.objs.size<C)
 (k:∀ b o,s.heap.get? b=some o->h'.get? b=some o) (hn:h'.Ns C λ _=>none):aL (bL X scope N s H C (D::fp)) [] (lift ix σ) H { s with heap:=h',toks:=tk }:=by
 have ltC:∀ x c,X.env.cells.lookup x=some c->c<s.heap.objs.size:=λ x c e=>let ⟨v,q⟩:=I.cell x c e;q.lt;refine ⟨⟨I.ok.mod,S.kind,I.ok.glob,I.ok.blt,Nat.le_of_lt hC,λ x y c h1 h2=>I.ok.inj x y c (S.sub I h1) (S.sub I h2),λ x hx=>?_,λ x c z=>?_,I.ok.hd,I.ok.frames,.inl rfl,λ b hb=>?_,I.bs,Nat.le_trans I.ok.bsz I.sz,λ b o e hb=>?_,λ b hb hb'=>?_,I.stack,I.stkFree⟩,
  rfl,I.bare,Un.kept k,⟨_,hn,λ j x v e1 e2 e3=>?_⟩,λ x c e=>?_,I.hok.fresh (Nat.le_of_lt hC),λ x c e=>I.freeC x c (S.sub I e),λ p hp=>absurd (show p∈([]:List (Addr×Obj)) from hp) (by simp),I.hok.kept k,?_⟩
 . have hx:(relabel scope X.env).names.lookup x=some .cell∨(relabel scope X.env).names.lookup x=some .free:=hx;have hm:(x,NameKind.free)∈scope.names:=by
    rcases hx with h | h
    . exact gy h (.inl rfl) S.nocell
    . exact gy h (.inr rfl) S.nocell
   exact oj _ _ (.inl hm)
 . cases z
 . rcases List.mem_cons.mp hb with e | hb
   . subst e;subst hD;exact ⟨Nat.ne_of_lt hC,λ x c e z=>absurd (ltC x c (S.sub I e)) (by rw [z];exact Nat.lt_irrefl _)⟩
   . obtain ⟨o,e⟩:=hfo b hb;exact ⟨Nat.ne_of_lt (Nat.lt_trans (Heap.lt_size e) hC),λ x c e=>(hf b hb).2.2.2.2.1 x c (S.sub I e)⟩
 . have lb:=Nat.lt_of_lt_of_le (Heap.lt_size e) I.ok.bsz;rcases List.mem_cons.mp hb with z | hb
   . subst z;subst hD;exact absurd (Nat.lt_of_lt_of_le lb I.sz) (Nat.lt_irrefl _)
   . rcases (hf b hb).2.2.2.1 with z | z
     . exact I.ok.noex b o e z
     . exact absurd (Nat.lt_of_lt_of_le lb z) (Nat.lt_irrefl _)
 . have hs:=I.stkSub b hb';rcases List.mem_cons.mp hb with z | hb
   . subst z;subst hD;rcases List.mem_cons.mp hs with z | z
     . exact absurd I.lt (by rw [<-z];exact Nat.lt_irrefl _)
     . exact I.nofs (Nat.le_refl _) z
   . rcases List.mem_cons.mp hs with z | z
     . exact (hf b hb).2.1 z
     . exact (hf b hb).2.2.1 z
 . unfold lift at e2;rw [List.getElem?_map] at e2;cases q:ix[j]? with
   | none=>rw [q] at e2;cases e2
   | some o=>
    rw [q] at e2;cases o with
    | none=>cases e2
    | some i=>
     obtain ⟨y,f1,f2,f3,f4⟩:=S.from' j i q;have e1':N[j]?=some x:=e1;rw [f1] at e1';cases e1';simp only [Option.map_some,Option.some.injEq] at e2;cases q2:σ[i]? with
     | none=>rw [q2] at e2;cases e2
     | some w=>
      rw [q2] at e2;simp only at e2;subst e2;obtain ⟨m,hm,hl⟩:=I.loc;have vis:JE X.env.scope x:=by
       rcases f3 with z | z
       . exact .inr (.inl z)
       . exact .inr (.inr z)
      obtain ⟨u,r,l⟩:=hl i x v f2 q2 vis;refine ⟨u,r,.inr ⟨f4,?_⟩⟩;rcases l with ⟨l1,_⟩ | ⟨_,c,hc,hcell⟩
      . rw [l1] at f3;rcases f3 with z | z <;> cases z
      . have hmf:(x,NameKind.free)∈scope.names:=by
         rcases f4 with h | h
         . exact gy h (.inl rfl) S.nocell
         . exact gy h (.inr rfl) S.nocell
        obtain ⟨d,hd⟩:=oj (cells:=X.env.cells) scope.names [] (.inl hmf);have hd':=S.sub I hd;rw [hc] at hd';cases hd';refine ⟨c,hd,?_⟩;obtain ⟨o,ho,hod⟩:=hcell;exact ⟨o,k _ _ ho,hod⟩
 . obtain ⟨v,o,ho,hod⟩:=I.cell x c (S.sub I e);exact ⟨v,o,k _ _ ho,hod⟩
 . show (lift ix σ).length=N.length;unfold lift;rw [List.length_map,S.len]
end
theorem iR {prog:Program} {w:World} {A:Around} {R:Result->Shared->Prop} {s:Shared} {elt target iter:Expr} {ifs:List Expr} {scope:Scope} {pos:Pos} {it acc:Value} {env:Env} (I:Nat->Shared->Prop)
 (turn:∀ n s,I n s->wpAny (model prog w) A (pyNext it) (λ r s₁=>match r with
  | none=>R (.ok .next) s₁
  | some v=>wpAny (model prog w) A (letOwnedTupleGo target it v) (λ _ s₁'=>wpAny (model prog w) A (assign target env v) (λ _ s₂=>
   wpAny (model prog w) A (forIn ifs true λ c r=>if r=true then do let ok <-isTrue c env (eval c env);pure (ForInStep.yield ok) else pure (ForInStep.yield r)) (λ ok s₃=>
    if ok=true then wpAny (model prog w) A (eval elt env) (λ x s₄=>
     wpAny (model prog w) A (call (.builtin "list.append") [acc,x]) (λ _ s₅=>∃ m,m<n/\I m s₅) (λ _ _=>False) s₄) (λ _ _=>False) s₃
    else ∃ m,m<n/\I m s₃) (λ _ _=>False) s₂) (λ _ _=>False) s₁') (λ _ _=>False) s₁) (λ _ _=>False) s)
 (n:Nat) (h:I n s):
 codeAny (model prog w) A (.compLoop (.ListComp elt [⟨target,iter,ifs,0⟩] scope pos) 0 it acc env) R s:=by
 refine codeAny_loop rfl I (λ n s hI=>?_) n h;show wpAny _ A ((compTurn (.ListComp elt [⟨target,iter,ifs,0⟩] scope pos) 0 it acc env).onRaise (λ x=>do noteFrame x env;theTreesLotGoes x)) _ _ s;refine wpAny_noted ?_;rw [compTurn_list];refine wpAny_bind (wpAny_standAt (wpAny_bind (wpAny_mono (turn n s hI) (λ r s₁ h₁=>?_) λ _ _ h'=>h'.elim)));cases r with
 | none=>exact wpAny_pure h₁
 | some v=>
  refine wpAny_bind (wpAny_mono h₁ (λ _ s₁' h₁'=>?_) λ _ _ h'=>h'.elim);refine wpAny_bind (wpAny_mono h₁' (λ _ s₂ h₂=>wpAny_bind (wpAny_mono h₂ (λ ok s₃ h₃=>?_) λ _ _ h'=>h'.elim)) λ _ _ h'=>h'.elim);cases ok with
  | false=>exact wpAny_pure ⟨rfl,h₃⟩
  | true=>
   exact wpAny_bind (wpAny_bind (wpAny_mono h₃ (λ x s₄ h₄=>wpAny_bind (wpAny_mono h₄ (λ _ s₅ h₅=>wpAny_pure (wpAny_pure ⟨rfl,h₅⟩)) λ _ _ h'=>h'.elim)) λ _ _ h'=>h'.elim))
noncomputable def uZ (X:Cx) (ifs:List Expr) (t:TT):Prop:=
 ∀ (pins:List (Addr×Obj)) (s:Shared) (σ:St) (H:Hp) (Q:Bool->Hp->Prop),aL X pins σ H s->t σ H Q->
  wpAny (model X.prog X.w) X.A (forIn ifs true λ c r=>if r=true then do let ok <-isTrue c X.env (eval c X.env);pure (ForInStep.yield ok) else pure (ForInStep.yield r)) (TP X pins σ Q) X.xe s
noncomputable def II:TT:=λ _ H Q=>Q true H
theorem Ib {X:Cx}:uZ X [] II:=λ _ _ _ H _ I h=>wpAny_tests_nil ⟨H,I,h⟩
theorem HK {X:Cx} {c:Expr} {t:TT} (h:PT X c t):uZ X [c] t:=λ pins s σ H Q I q=>wpAny_tests_one (h pins s σ H Q I q)
noncomputable def Db (σ σ':St):Prop:=σ.length=σ'.length/\∀ (i:Nat) (v:V),σ[i]?=some (some v)->σ'[i]?=some (some v)
theorem Db.refl (σ:St):Db σ σ:=⟨rfl,λ _ _ h=>h⟩
theorem Db.set {σ σ':St} {j:Nat} {v:V} (e:Db σ σ') (h:σ[j]?=some none):Db σ (σ'.set j (some v)):=by
 refine ⟨by rw [List.length_set];exact e.1,λ i u q=>?_⟩;have hne:j≠i:=λ z=>by subst z;rw [h] at q;cases q
 rw [List.getElem?_set_ne hne];exact e.2 i u q
theorem xK {ix:List (Option Nat)} {σ:St} {j:Nat} (h:ix[j]?=some none):(lift ix σ)[j]?=some none:=by
 unfold lift;rw [List.getElem?_map,h];rfl
noncomputable def n6 (ix:List (Option Nat)) (g:TG):Prop:=∀ (v:V) (σ:St) (H:Hp) (Q:St->Hp->Prop),g v (lift ix σ) H Q->g v (lift ix σ) H λ σ2 H2=>Q σ2 H2/\Db (lift ix σ) σ2
theorem Et {ix:List (Option Nat)} {j:Nat} (h:ix[j]?=some none):n6 ix (m8 j):=λ v σ H Q q=>⟨q,(Db.refl _).set (xK h)⟩
noncomputable def nJ (ix:List (Option Nat)) (wi:TI) (g:TG) (tc:TT) (te:TE):TE:=λ σ H Q=>wi σ H λ J H1=>∃ W:Nat->Nat->List V->Hp->Prop,(∃ m,W 0 m [] H1)/\∀ i m ys H,W i m ys H->
 (J.stop i H/\ys.length<=sizeLine/\∀ p,H p=none->Q (.ref p) (cn H p (.lst ys)))∨
 (J.go i H/\ys.length<sizeLine/\∃ N:List V->Hp->Prop,(∀ ys' H',N ys' H'->∃ m',m'<m/\W (i+1) m' ys' H')/\∀ x H',J.yld i H x H'->g x (lift ix σ) H' λ σ2 H2=>tc σ2 H2 λ b H3=>if b=true then te σ2 H3 λ v H4=>N (ys++[v]) H4 else N ys H3)
theorem yn {X:Cx} {pins pins':List (Addr×Obj)} {σ σ':St} {H2 H':Hp} {s2 s4:Shared} {scope:Scope} {N:List Str} {C D:Addr} {fp:List Addr} {h':Heap} {ys:List V} {its:List Value} {n:Nat}
 (I2:aL X pins σ H2 s2) (I':aL (bL X scope N s2 H2 C (D::fp)) pins' σ' H' s4) (f2:∀ b∈fp,lI X pins H2 b) (hD:D=s2.heap.objs.size) (hC:s2.heap.objs.size<C) (hDC:D≠C)
 (hs:Heap.SameBut C s4.heap h') (eD:s4.heap.get? D=some { cls:=.type "list", data:=.seq its.toArray n }) (fD:H' D=none) (rv:ba ys its) (hz:ys.length<=sizeLine):
 aL X pins σ (cn H' D (.lst ys)) { s4 with heap:=h' }:=by
 have lt:∀ b o,s2.heap.get? b=some o->b≠D/\b≠C:=λ b o e=>
  ⟨by rw [hD];exact Nat.ne_of_lt (Heap.lt_size e),Nat.ne_of_lt (Nat.lt_trans (Heap.lt_size e) hC)⟩
 have nex:∀ b o,s2.heap.get? b=some o->b∉fp->b∉D::fp:=λ b o e hb z=>by
  rcases List.mem_cons.mp z with z | z
  . exact (lt b o e).1 z
  . exact hb z
 have nD:∀ b u,H' b=some u->b≠D:=λ b u e=>bA e fD;have nC:∀ b u,H' b=some u->b≠C:=λ b u e=>bA e I'.free;have u:=I'.base;refine I2.call' (ch:=fp) (show s4.os=s2.os from I'.os) ⟨λ b o e n hb hx=>?_,λ b o e n hb hx=>?_,λ b o e n hx=>?_,λ b o e hx=>?_,λ b xs e=>?_,λ b o xs e=>?_,λ b ps e=>?_⟩ (λ b o e=>?_) I'.bare λ b hb=>⟨(f2 b hb).2.2.2.1,(f2 b hb).2.1,(f2 b hb).2.2.2.2.1,(f2 b hb).2.2.2.2.2⟩
 . exact (hs.2 b (lt b o e).2).trans (u.keep b o e n hb (nex b o e hx))
 . obtain ⟨sl,q⟩:=u.slot b o e n hb (nex b o e hx);exact ⟨sl,(hs.2 b (lt b o e).2).trans q⟩
 . rw [aM (lt b o e).1];exact u.free b o e n (nex b o e hx)
 . obtain ⟨o',q⟩:=u.there b o e (nex b o e hx);exact ⟨o',(hs.2 b (lt b o e).2).trans q⟩
 . have q:=u.tups b xs e;rw [aM (nD b _ q)];exact q
 . have q:=u.frzs b o xs e;rw [aM (nD b _ q)];exact q
 . obtain ⟨m,q⟩:=u.tbls b ps e;exact ⟨m,by rw [aM (nD b _ q)];exact q⟩
 . by_cases hb:b=D
   . subst hb;rw [aH] at e;cases e;exact ⟨hz,its,n,rv,(hs.2 b hDC).trans eD⟩
   . rw [aM hb] at e;refine (I'.hok b o e).stay (λ c v hc q=>(hs.2 c ?_).trans q) (λ c q=>by rw [aM (nD c _ q)];exact q) λ c xs q=>by rw [aM (nD c _ q)];exact q
     rcases hc with z | z
     . rw [z];exact nC b o e
     . exact nC c _ z
section
variable {X:Cx} {elt tg iter:Expr} {ifs:List Expr} {scope:Scope} {pos:Pos} {wi:TI} {g:TG} {tc:TT} {te:TE} {N:List Str} {ix:List (Option Nat)}
theorem qj {pins:List (Addr×Obj)} {σ:St} {Q:VK} {s2:Shared} {itv:Value} {Rr:Value->Addr->Result->Shared->Prop} (S:bK X scope N ix) (hc:X.calm=true) (hG:n6 ix g)
 (hb:∀ (s₀:Shared) (H₀:Hp) (C:Addr) (ex:List Addr),PG (bL X scope N s₀ H₀ C ex) tg g/\uZ (bL X scope N s₀ H₀ C ex) ifs tc/\PE (bL X scope N s₀ H₀ C ex) elt te)
 (h2:K8 X pins σ tg (λ J H1=>∃ W:Nat->Nat->List V->Hp->Prop,(∃ m,W 0 m [] H1)/\∀ i m ys H,W i m ys H->
  (J.stop i H/\ys.length<=sizeLine/\∀ p,H p=none->Q (.ref p) (cn H p (.lst ys)))∨
  (J.go i H/\ys.length<sizeLine/\∃ N:List V->Hp->Prop,(∀ ys' H',N ys' H'->∃ m',m'<m/\W (i+1) m' ys' H')/\∀ x H',J.yld i H x H'->g x (lift ix σ) H' λ σ2 H2=>tc σ2 H2 λ b H3=>if b=true then te σ2 H3 λ v H4=>N (ys++[v]) H4 else N ys H3)) itv s2)
 (hR:∀ (s4:Shared) (H':Hp) (D C:Addr) (m:Str->Option Value) (ys:List V),s4.heap.Ns C m->lI X pins H' C->(∀ h',Heap.SameBut C s4.heap h'->aL X pins σ (cn H' D (.lst ys)) { s4 with heap:=h' })->aL X pins σ (cn H' D (.lst ys)) s4->D≠C->Q (.ref D) (cn H' D (.lst ys))->Rr (.ref D) C (.ok .next) s4):
 wpAny (model X.prog X.w) X.A (newList []) (λ acc s₃=>wpAny (model X.prog X.w) X.A (newFunctionEnv scope X.env.globals (xn scope X.env) [] X.env.qual none .none (some X.env)) (λ cenv s₄=>
  codeAny (model X.prog X.w) X.A (.compStart (.ListComp elt [⟨tg,iter,ifs,0⟩] scope pos) 0 itv acc { cenv with scope:=relabel scope X.env }) (Rr acc cenv.locals) s₄) X.xe s₃) X.xe s2:=by
 obtain ⟨it,fp,tn,J,H2,e,I2,T,st2,f2,W,⟨m0,w0⟩,turn⟩:=h2;subst e;have fo:∀ b∈fp,∃ o,s2.heap.get? b=some o:=λ b hb=>let ⟨o,e,_⟩:=T.obj _ _ st2 b hb;⟨o,e⟩;refine wpAny_newObj_type (wpAny_newFunctionEnv S.nocell (by intro y hy;simp at hy) (λ h₁ hns₁ hsb₁=>?_) S.kind);dsimp only at hns₁ hsb₁ ⊢;generalize hH2:s2.heap.push { cls:=.type "list", dict:=none,data:=.seq ([]:List Value).toArray }=HH at hns₁ hsb₁ ⊢;have hC:HH.objs.size=s2.heap.objs.size+1:=by rw [<-hH2,Heap.size_push]
 generalize hCC:HH.objs.size=C at hns₁ hsb₁ hC ⊢;generalize hDD:s2.heap.objs.size=D at hC ⊢;have hlt:s2.heap.objs.size<C:=by rw [hDD,hC];exact Nat.lt_succ_self _
 have hDC:D≠C:=by rw [hC];exact Nat.ne_of_lt (Nat.lt_succ_self _)
 have old:∀ b o,s2.heap.get? b=some o->h₁.get? b=some o:=λ b o e=>
  hsb₁.extBut b o (Nat.ne_of_lt (Nat.lt_trans (Heap.lt_size e) hlt)) (Heap.get?_push_of_some _ (hH2▸Heap.get?_push_of_some _ e))
 have hacc:h₁.PlainList D #[]:=⟨_,hsb₁.extBut _ _ hDC (Heap.get?_push_of_some _ (hH2▸hDD▸Heap.get?_push_size _ rfl))⟩
 have hns₂:h₁.Ns C λ _=>none:=hns₁;have I4:=S.start (tk:=s2.toks+([]:List (Str×Value)).length) I2 f2 fo hDD.symm hlt old hns₂;obtain ⟨hg,hif,hel⟩:=hb s2 H2 C (D::fp);have stat:∀ {H':Hp},(∀ b∈D::fp,H' b=none)->∀ b∈D::fp,lI (bL X scope N s2 H2 C (D::fp)) [] H' b:=λ hn b hb=>
  ⟨hn b hb,(I4.ok.exf b hb).1,I4.ok.exfs b hb,.inl hb,(I4.ok.exf b hb).2,λ p hp=>absurd (show p∈([]:List (Addr×Obj)) from hp) (by simp)⟩
 have sub:∀ b∈fp,b∈D::fp:=λ b hb=>List.mem_cons_of_mem _ hb;have nDf:∀ b∈fp,b≠D:=λ b hb z=>by
  obtain ⟨o,e⟩:=fo b hb;exact absurd (Heap.lt_size e) (by rw [z,hDD];exact Nat.lt_irrefl _)
 have free0:∀ b∈D::fp,H2 b=none:=λ b hb=>by
  rcases List.mem_cons.mp hb with z | hb
  . rw [z];exact I2.hok.fresh (Nat.le_of_eq hDD)
  . exact (f2 b hb).1
 have loop:∀ s₃:Shared,s₃={ s2 with heap:=h₁,toks:=s2.toks+([]:List (Str×Value)).length }->
  codeAny (model X.prog X.w) X.A (.compLoop (.ListComp elt [⟨tg,iter,ifs,0⟩] scope pos) 0 (.ref it) (.ref D) (compEnvC scope (xn scope X.env) C X.env))
   (Rr (.ref D) C) s₃:=by
  rintro s₃ rfl;refine iR (λ n s'=>∃ i H' ys its,aL (bL X scope N s2 H2 C (D::fp)) [] (lift ix σ) H' s'/\tn i s'.heap/\(∀ b∈D::fp,H' b=none)/\s'.heap.PlainList D (List.toArray its)/\ba ys its/\W i n ys H') ?_ m0
   ⟨0,H2,[],[],I4,T.keep _ _ _ st2 λ b _ o e=>old b o e,free0,hacc,.nil,w0⟩
  rintro n s3 ⟨i,H3,ys,its,I3,st3,fr3,pl3,rv3,w3⟩;obtain ⟨kk,plE⟩:=pl3;have pinD:∀ {pp:List (Addr×Obj)} {σ':St} {H':Hp} {s':Shared},aL (bL X scope N s2 H2 C (D::fp)) pp σ' H' s'->H' D=none->s'.heap.get? D=some { cls:=.type "list", data:=.seq its.toArray kk }->
   aL (bL X scope N s2 H2 C (D::fp)) [(D,{ cls:=.type "list", data:=.seq its.toArray kk })] σ' H' s':=λ {pp σ' H' s'} J f e=>J.pins_of λ p hp=>by
   have z:p=(D,{ cls:=.type "list", data:=.seq its.toArray kk }):=by simpa using hp
   subst z;exact ⟨e,f,(J.ok.exf D List.mem_cons_self).1,J.ok.exfs D List.mem_cons_self,λ v z=>by cases z⟩
  have fpD:∀ {H':Hp},(∀ b∈D::fp,H' b=none)->∀ b∈fp,lI (bL X scope N s2 H2 C (D::fp)) [(D,{ cls:=.type "list", data:=.seq its.toArray kk })] H' b:=λ hn b hb=>by
   obtain ⟨a1,a2,a3,a4,a5,a6⟩:=stat hn b (sub b hb);refine ⟨a1,a2,a3,a4,a5,λ p hp=>?_⟩;have z:p=(D,{ cls:=.type "list", data:=.seq its.toArray kk }):=by simpa [bL] using hp
   subst z;exact (nDf b hb).symm
  have frD:H3 D=none:=fr3 D List.mem_cons_self;rcases turn i n ys H3 w3 with ⟨stop,hz,qn⟩ | ⟨go,hz,NN,hN,step⟩
  . refine cE (T.done (bL X scope N s2 H2 C (D::fp)) rfl rfl rfl hc i _ s3 _ H3 (λ _ _=>False) (pinD I3 frD plE) (fpD fr3) st3 stop) λ r s4 ⟨hr,I4'⟩=>?_;subst hr;obtain ⟨m,hm,_⟩:=I4'.loc;have eD:=(I4'.pin (D,_) (List.mem_append_right _ List.mem_cons_self)).1;have fin:∀ h',Heap.SameBut C s4.heap h'->aL X pins σ (cn H3 D (.lst ys)) { s4 with heap:=h' }:=λ h' hs'=>yn I2 I4' f2 hDD.symm hlt hDC hs' eD frD rv3 hz;have hC0:s2.heap.objs.size<=C:=Nat.le_of_lt hlt;have fC:lI X pins H3 C:=by
     have q:=I2.fpOk (H':=H3) hC0 I4'.free;exact q
    exact hR s4 H3 D C m ys hm fC fin (by simpa using fin s4.heap (Heap.SameBut.refl ..)) hDC (qn D frD)
  . refine cE (T.item (bL X scope N s2 H2 C (D::fp)) rfl rfl rfl hc i _ s3 _ H3 (λ _ _=>False) (pinD I3 frD plE) (fpD fr3) st3 go) λ r s4 ⟨u,hr,h4⟩=>?_;subst hr;refine cE h4 λ _ s5 hq0=>?_;obtain ⟨x,H5,I5,r5,y5,st5,fr5⟩:=hq0;have eD5:=(I5.pin (D,_) (List.mem_append_right _ List.mem_cons_self))
    have fr5':∀ b∈D::fp,H5 b=none:=λ b hb=>by
     rcases List.mem_cons.mp hb with z | hb
     . rw [z];exact eD5.2.1
     . exact fr5 b hb
    have I5':aL (bL X scope N s2 H2 C (D::fp)) ([]++lQ (D::fp) s5.heap) (lift ix σ) H5 s5:=(I5.unpinned (pins:=[]) (pl:=[_])).pinned (stat fr5') λ b hb=>by
     rcases List.mem_cons.mp hb with z | hb
     . rw [z];exact ⟨_,eD5.1,λ v z=>by cases z⟩
     . exact T.obj _ _ st5 b hb
    have back:∀ {σ7:St} {H7:Hp} {s7:Shared},aL (bL X scope N s2 H2 C (D::fp)) ([]++lQ (D::fp) s5.heap) σ7 H7 s7->Db (lift ix σ) σ7->
     aL (bL X scope N s2 H2 C (D::fp)) [] (lift ix σ) H7 s7/\tn (i+1) s7.heap/\(∀ b∈D::fp,H7 b=none)/\s7.heap.get? D=some { cls:=.type "list", data:=.seq its.toArray kk }:=λ {σ7 H7 s7} I7 ex=>by
     have keepAt:∀ b∈D::fp,∀ o,s5.heap.get? b=some o->s7.heap.get? b=some o/\H7 b=none:=λ b hb o e=>
      ⟨(I7.pin (b,o) (List.mem_append_right _ (List.mem_append_right _ (i9 hb e)))).1,(I7.pin (b,o) (List.mem_append_right _ (List.mem_append_right _ (i9 hb e)))).2.1⟩
     refine ⟨I7.unpinned.weak ex.1 ex.2,T.keep _ _ _ st5 λ b hb o e=>(keepAt b (sub b hb) o e).1,λ b hb=>?_,(keepAt D List.mem_cons_self _ eD5.1).1⟩;rcases List.mem_cons.mp hb with z | hb'
     . rw [z];exact (keepAt D List.mem_cons_self _ eD5.1).2
     . obtain ⟨o,e,_⟩:=T.obj _ _ st5 b hb';exact (keepAt b hb o e).2
    refine cE (hg _ s5 _ H5 x u _ I5' r5 (hG _ _ _ _ (step x H5 y5))) λ _ s6 hq0=>?_;obtain ⟨σ6,H6,I6,q6,ex6⟩:=hq0;refine cE (hif _ s6 σ6 H6 _ I6 q6) λ ok s7 hq0=>?_;obtain ⟨H7,I7,q7⟩:=hq0;cases ok with
    | false=>
     rw [if_neg Bool.false_ne_true] at q7 ⊢;obtain ⟨m',hm,w7⟩:=hN _ _ q7;obtain ⟨J1,J2,J3,J4⟩:=back I7 ex6;exact ⟨m',hm,i+1,H7,ys,its,J1,J2,J3,⟨_,J4⟩,rv3,w7⟩
    | true=>
     rw [if_pos rfl] at q7 ⊢;refine cE (hel _ s7 σ6 H7 _ I7 q7) λ uv s8 hq0=>?_;obtain ⟨y,H8,I8,r8,q8⟩:=hq0;obtain ⟨m',hm,w8⟩:=hN _ _ q8;obtain ⟨J1,J2,J3,J4⟩:=back I8 ex6;refine wpAny_list_append_plain (hsz:=by rw [List.size_toArray,<-rv3.length];exact Nat.le_of_lt hz) ⟨_,J4⟩ λ h₉ hl₉ hs₉=>?_;obtain ⟨a1,a2,a3,a4,a5,a6⟩:=stat J3 D List.mem_cons_self;refine ⟨m',hm,i+1,H8,ys++[y],its++[uv],J1.turned (t':=s8.toks) (λ b o hb e=>hs₉.extBut b o hb e) a1 a2 a4 a5 a6,T.keep _ _ _ J2 λ b hb o e=>hs₉.extBut b o (nDf b hb) e,J3,by simpa using hl₉,rv3.append (.cons r8 .nil),w8⟩
 exact codeAny_compStart_list (loop _ rfl) (T.self _ 0 _ _ _ (T.keep _ _ _ st2 λ b _ o e=>old b o e) (loop _ rfl))
theorem Cy (S:bK X scope N ix) (hc:X.calm=true) (hi:PI X tg iter wi) (hG:n6 ix g)
 (hb:∀ (s₀:Shared) (H₀:Hp) (C:Addr) (ex:List Addr),PG (bL X scope N s₀ H₀ C ex) tg g/\uZ (bL X scope N s₀ H₀ C ex) ifs tc/\PE (bL X scope N s₀ H₀ C ex) elt te)
 (hs:∀ x,foldedSetIterable iter X.env x=pure x:=by intro _;rfl):PE X (.ListComp elt [⟨tg,iter,ifs,0⟩] scope pos) (nJ ix wi g tc te):=by
 intro pins s σ H Q I h;rw [eval_ListComp];refine wpAny_comprehension_free (use:=none) rfl hs (n8 (S.cells I)) S.kind S.locs ?_;refine cE (hi pins s σ H _ I h) λ v s1 h1=>cE h1 λ itv s2 h2=>?_;refine qj (Rr:=λ acc C=>compPost (model X.prog X.w) X.A X.xe none (EP X pins σ Q) acc C) S hc hG hb h2 ?_;intro s4 H' D C m ys hm _ fin _ _ q;exact ⟨m,hm,λ h' hs'=>⟨.ref D,_,fin h' hs',rfl,q⟩⟩
theorem Bj {y:Str} {py spos:Pos} {i:Nat} (hN:X.N.Nodup) (hi:X.N[i]?=some y) (hy:Fu X.env.scope y) (S:bK X scope N ix) (hc:X.calm=true) (hit:PI X tg iter wi) (hG:n6 ix g)
 (hb:∀ (s₀:Shared) (H₀:Hp) (C:Addr) (ex:List Addr),PG (bL X scope N s₀ H₀ C ex) tg g/\uZ (bL X scope N s₀ H₀ C ex) ifs tc/\PE (bL X scope N s₀ H₀ C ex) elt te)
 (hsw:swapsWith (.ListComp elt [⟨tg,iter,ifs,0⟩] scope pos) (some (.Name y py)) spos.line X.env=pure true:=by rfl) (hs:∀ x,foldedSetIterable iter X.env x=pure x:=by intro _;rfl)
 (hf:X.fn y=true∨X.env.scope.names.lookup y=some .local:=by first | exact .inl rfl | exact .inr rfl | assumption):
 PS X (.Assign [.Name y py] (.ListComp elt [⟨tg,iter,ifs,0⟩] scope pos) spos) (oZ (nJ ix wi g tc te) (m8 i)):=by
 intro pins s σ H D0 I h;rw [exec_Assign_Name_used _ _ _ _ hsw];refine wpAny_bind (wpAny_standAt (wpAny_bind ?_));show wpAny _ X.A (do let _ <-comprehension (.ListComp elt [⟨tg,iter,ifs,0⟩] scope pos) scope X.env _ (newList []) false (eval iter X.env) (some (assign (.Name y py) X.env))) _ _ s;refine wpAny_bind (wpAny_mono (wpAny_comprehension_free (use:=some (assign (.Name y py) X.env)) (Q:=λ _ s'=>SP X pins D0 .next s') rfl hs (n8 (S.cells I)) S.kind S.locs ?_) (λ _ s' hq=>wpAny_pure (wpAny_pure hq)) λ _ _ e=>e);refine cE (hit pins s σ H _ I h) λ v s1 h1=>cE h1 λ itv s2 h2=>?_;refine qj (Q:=λ x H1=>m8 i x σ H1 D0.nx) (Rr:=λ acc C=>compPost (model X.prog X.w) X.A X.xe (some (assign (.Name y py) X.env)) (λ _ s'=>SP X pins D0 .next s') acc C) S hc hG hb h2 ?_;intro s4 H' D C m ys hm fC _ I4 hDC q;show wpAny _ X.A (assign (.Name y py) X.env (.ref D)) _ _ _;obtain ⟨c0,c1,c2,c3,c4,c5⟩:=fC;refine wpAny_assign_Name (pU (v:=.ref D) I4 hN hi hy rfl (λ s5 I5 hsb=>?_) hf);obtain ⟨a,hsa,ha⟩:=hsb;have haC:C≠a:=by
  rcases ha with z | z
  . rw [z];exact c1
  . exact λ e=>c4 y a z e.symm
 refine ⟨m,hm.sameBut hsa haC,λ h' hs'=>?_⟩;have hCn:(cn H' D (.lst ys)) C=none:=by rw [aM hDC.symm];exact c0
 exact ⟨_,_,I5.turned (t':=s5.toks) (λ b o hb e=>hs'.extBut b o hb e) hCn c1 c3 c4 c5,q⟩
end
noncomputable def Eo (T:String):Option Bool:=if T = "int" then some true else if T = "bool" then some false else if T = "str" then some false else if T = "list" then some false else if T = "tuple" then some false else if T = "dict" then some false else none
noncomputable def Fg (T:String):Option Bool:=if T = "int" then some true else if T = "bool" then some true else if T = "str" then some false else if T = "list" then some false else if T = "tuple" then some false else if T = "dict" then some false else none
noncomputable def FS (T:String):Option Bool:=if T = "int" then some false else if T = "bool" then some false else if T = "str" then some true else if T = "list" then some false else if T = "tuple" then some false else if T = "dict" then some false else none
noncomputable def Am (v:V) (T:String):Option Bool:=match v with
 | .int _=>Eo T
 | .bl _=>Fg T
 | .str _=>FS T
 | _=>none
theorem zt {X:Cx}:cm X (.builtin "isinstance") (λ xs H Q=>∃ v T k,xs=[v,.ty T]/\Am v T=some k/\Q (.bl k) H):=by
 intro pins s σ H xs us Q I r h;obtain ⟨v,T,k,rfl,hk,q⟩:=h;cases r with
 | cons r rr=>
  cases rr with
  | cons r' rr=>
   cases rr;cases r';have fin:∀ {n:Option Bool} {T':String} {b:Bool},(if T=T' then some b else n)=some k->(T=T'/\b=k)∨n=some k:=λ {n T' b} h=>by
    by_cases e:T=T'
    . rw [if_pos e] at h;cases h;exact .inl ⟨e,rfl⟩
    . rw [if_neg e] at h;exact .inr h
   cases v with
   | int i=>
    obtain ⟨t,rfl⟩:=r;replace hk:Eo T=some k:=hk;unfold Eo at hk;rcases fin hk with ⟨rfl,rfl⟩ | hk
    . exact IsiPair.int_int ⟨.bl _,H,I,rfl,q⟩
    rcases fin hk with ⟨rfl,rfl⟩ | hk
    . exact IsiPair.int_bool ⟨.bl _,H,I.tok _,rfl,q⟩
    rcases fin hk with ⟨rfl,rfl⟩ | hk
    . exact IsiPair.int_str ⟨.bl _,H,I.tok _,rfl,q⟩
    rcases fin hk with ⟨rfl,rfl⟩ | hk
    . exact IsiPair.int_list ⟨.bl _,H,I.tok _,rfl,q⟩
    rcases fin hk with ⟨rfl,rfl⟩ | hk
    . exact IsiPair.int_tuple ⟨.bl _,H,I.tok _,rfl,q⟩
    rcases fin hk with ⟨rfl,rfl⟩ | hk
    . exact IsiPair.int_dict ⟨.bl _,H,I.tok _,rfl,q⟩
    cases hk
   | bl i=>
    cases r;replace hk:Fg T=some k:=hk;unfold Fg at hk;rcases fin hk with ⟨rfl,rfl⟩ | hk
    . first | exact IsiPair.bool_int ⟨.bl _,H,I,rfl,q⟩ | exact IsiPair.bool_int ⟨.bl _,H,I.tok _,rfl,q⟩
    rcases fin hk with ⟨rfl,rfl⟩ | hk
    . first | exact IsiPair.bool_bool ⟨.bl _,H,I,rfl,q⟩ | exact IsiPair.bool_bool ⟨.bl _,H,I.tok _,rfl,q⟩
    rcases fin hk with ⟨rfl,rfl⟩ | hk
    . first | exact IsiPair.bool_str ⟨.bl _,H,I,rfl,q⟩ | exact IsiPair.bool_str ⟨.bl _,H,I.tok _,rfl,q⟩
    rcases fin hk with ⟨rfl,rfl⟩ | hk
    . first | exact IsiPair.bool_list ⟨.bl _,H,I,rfl,q⟩ | exact IsiPair.bool_list ⟨.bl _,H,I.tok _,rfl,q⟩
    rcases fin hk with ⟨rfl,rfl⟩ | hk
    . first | exact IsiPair.bool_tuple ⟨.bl _,H,I,rfl,q⟩ | exact IsiPair.bool_tuple ⟨.bl _,H,I.tok _,rfl,q⟩
    rcases fin hk with ⟨rfl,rfl⟩ | hk
    . first | exact IsiPair.bool_dict ⟨.bl _,H,I,rfl,q⟩ | exact IsiPair.bool_dict ⟨.bl _,H,I.tok _,rfl,q⟩
    cases hk
   | str i=>
    obtain ⟨t,rfl⟩:=r;replace hk:FS T=some k:=hk;unfold FS at hk;rcases fin hk with ⟨rfl,rfl⟩ | hk
    . first | exact IsiPair.str_int ⟨.bl _,H,I,rfl,q⟩ | exact IsiPair.str_int ⟨.bl _,H,I.tok _,rfl,q⟩
    rcases fin hk with ⟨rfl,rfl⟩ | hk
    . first | exact IsiPair.str_bool ⟨.bl _,H,I,rfl,q⟩ | exact IsiPair.str_bool ⟨.bl _,H,I.tok _,rfl,q⟩
    rcases fin hk with ⟨rfl,rfl⟩ | hk
    . first | exact IsiPair.str_str ⟨.bl _,H,I,rfl,q⟩ | exact IsiPair.str_str ⟨.bl _,H,I.tok _,rfl,q⟩
    rcases fin hk with ⟨rfl,rfl⟩ | hk
    . first | exact IsiPair.str_list ⟨.bl _,H,I,rfl,q⟩ | exact IsiPair.str_list ⟨.bl _,H,I.tok _,rfl,q⟩
    rcases fin hk with ⟨rfl,rfl⟩ | hk
    . first | exact IsiPair.str_tuple ⟨.bl _,H,I,rfl,q⟩ | exact IsiPair.str_tuple ⟨.bl _,H,I.tok _,rfl,q⟩
    rcases fin hk with ⟨rfl,rfl⟩ | hk
    . first | exact IsiPair.str_dict ⟨.bl _,H,I,rfl,q⟩ | exact IsiPair.str_dict ⟨.bl _,H,I.tok _,rfl,q⟩
    cases hk
   | _=>cases hk
section
variable {X:Cx}
noncomputable def D1 (i j:Int):Prop:=j≠0/\j.natAbs<2^512
theorem GB:gp X (binaryOp .FloorDiv) (rI D1 λ i j=>.int (i.fdiv j)):=GO λ i j _ _ _ _ _ hc q=>floordiv_int hc.1 q (.inl (PyProof.noPylong_of_log2 (by
 by_cases h0:j.natAbs=0
 . rw [h0];decide +kernel
 . have:=(Nat.log2_lt h0).mpr hc.2;omega)))
theorem Jp:gp X (binaryOp .Mod) (rI (λ _ j=>j≠0) λ i j=>.int (i.fmod j)):=BJ
theorem boot_bool':bootBuiltins "bool" = some (.type "bool"):=by decide +kernel
theorem uQ {scope:Scope} {N:List Str} {ix:List (Option Nat)} (kind:scope.kind=.function) (nocell:(scope.names.all λ y=>y.2 != .cell)=true) (locs:(scope.names.all λ y=>y.2 != .local||scope.names.lookup y.1==some .local)=true)
 (free:(scope.names.all λ y=>y.2 != .free||X.env.kindOf y.1==some .cell||X.env.kindOf y.1==some .free)=true) (len:ix.length=N.length) (nd:N.Nodup)
 (fr:((ix.zip N).all λ p=>match p.1 with
  | none=>true
  | some i=>X.N[i]?==some p.2&&(X.env.kindOf p.2==some .cell||X.env.kindOf p.2==some .free)&&((relabel scope X.env).names.lookup p.2==some .cell||(relabel scope X.env).names.lookup p.2==some .free))=true):bK X scope N ix:=by
 refine ⟨kind,λ y hy=>?_,λ y hy hl=>?_,λ y hy hf=>?_,len,nd,λ j i e=>?_⟩
 . have:=List.all_eq_true.mp nocell y hy;simpa using this
 . have:=List.all_eq_true.mp locs y hy;rw [hl] at this;simpa using this
 . have:=List.all_eq_true.mp free y hy;rw [hf] at this;simpa using this
 . have hj:j<ix.length:=(oG e).1;have hj':j<N.length:=by omega
   have hm:(ix.zip N)[j]?=some (some i,N[j]):=by
    rw [List.getElem?_zip_eq_some];exact ⟨e,by simp [hj']⟩
   have:=List.all_eq_true.mp fr _ (List.mem_of_getElem? hm);simp only [Bool.and_eq_true,Bool.or_eq_true,beq_iff_eq] at this;exact ⟨N[j],by simp [hj'],this.1.1,this.1.2,this.2⟩
end
structure Df (K:Frag) (mg:Str->Option Value) (x:Str) (st:Stmt) (ps:List Str) (f:Addr) (fd:FuncData):Prop where
 fn:J7 K x x st f fd
 b:df K fd ps []
 m:mg x=some (.ref f)
section
variable {K:Frag} {a b:Addr} {xs ys:List V} {wi:TI} {g:TG} {tb:TS} {D:jx} {σ:St} {H H1:Hp} {ix:List (Option Nat)} {tc:TT} {te:TE} {Q:VK}
end
theorem aL.turnedTup {X:Cx} {pins:List (Addr×Obj)} {σ:St} {H:Hp} {s:Shared} {h':Heap} {t':Nat} {ch:List Addr} {T:Addr} {xs:List V} {its:List Value} (I:aL X pins σ H s) (hf:∀ b∈ch,lI X pins H b)
 (k:∀ b o,b∉ch->s.heap.get? b=some o->h'.get? b=some o) (hT:s.heap.objs.size<=T) (eT:IsTup h' T its.toArray) (r:ba xs its) (hz:xs.length<=sizeLine):aL X pins σ (cn H T (.tup xs)) { s with heap:=h',toks:=t' }:=by
 have hTn:H T=none:=I.hok.fresh hT;have big:∀ {c:Addr} {o:Obj},s.heap.get? c=some o->c≠T:=λ e=>Nat.ne_of_lt (Nat.lt_of_lt_of_le (Heap.lt_size e) hT);have FV:∀ c t,H c=some t->c∉ch:=λ c t e hc=>by rw [(hf c hc).1] at e;cases e
 refine I.step (g':=s.gens) (d':=s.drawn) (ch:=ch) (λ c hc=>⟨(hf c hc).2.2.2.1,(hf c hc).2.1,(hf c hc).2.2.2.2.1,(hf c hc).2.2.2.2.2⟩) (λ c o _ _ hc e _=>k c o hc e) (λ c o _ _ hc e _=>⟨o.slots,k c o hc e⟩) (λ c o hc e n=>?_) (λ c o hc e=>⟨o,k c o hc e⟩) (λ c t e=>?_) (λ c o t e=>?_) (λ c ps e=>?_) (λ m hm=>?_) (λ c t e=>?_) I.bare
 . rw [aM (big e)];exact n
 . rw [aM (bA e hTn)];exact e
 . rw [aM (bA e hTn)];exact e
 . exact ⟨#[],by rw [aM (bA e hTn),e];simp⟩
 . obtain ⟨o,es,ep,ho,r⟩:=hm;exact ⟨o,es,ep,k _ o (λ hc=>(hf _ hc).2.1 rfl) ho,r⟩
 . by_cases hcT:c=T
   . subst hcT;rw [aH] at e;cases e;exact ⟨hz,its,r,eT⟩
   . rw [aM hcT] at e;refine (I.hok c t e).stay (λ d o hd q=>k d o ?_ q) (λ d q=>by rw [aM (bA q hTn)];exact q) λ d zs q=>by rw [aM (bA q hTn)];exact q
     rcases hd with hd | hd
     . rw [hd];exact FV c t e
     . exact FV d _ hd
noncomputable def JS (K:Frag) (a:Addr):It:=
 ⟨λ i H=>∃ xs x,cR K H a xs/\xs[i]?=some x,
  λ i H v H'=>∃ p x,H p=none/\v=.ref p/\H'=cn H p (.tup [.int i,x])/\∀ xs,cR K H a xs->xs[i]?=some x,
  λ i H=>∃ xs,cR K H a xs/\xs.length<=i⟩
theorem xC {P:Program} {w:World} {K:Frag} {elts:List Expr} {x1} {pos:Pos} (a e it:Addr) (hei:e≠it):
 xa P w K (.Tuple elts x1 pos) (JS K a) [e,it] e (λ i h=>(∃ old,IsEnum h e it i old)/\h.IsListIter it a i) where
 mem:=by simp
 obj:=λ i h st c hc=>by
  obtain ⟨⟨old,e1⟩,⟨o4,e4,_,d4⟩⟩:=st;simp only [List.mem_cons,List.not_mem_nil,or_false] at hc;rcases hc with rfl | rfl
  . exact ⟨_,e1,λ v z=>by cases z⟩
  . exact ⟨o4,e4,λ v z=>by rw [d4] at z;cases z⟩
 keep:=λ i h h' st k=>by
  obtain ⟨⟨old,e1⟩,e4⟩:=st;exact ⟨⟨old,k e (by simp) _ e1⟩,e4.at λ o q=>k it (by simp) o q⟩
 item:=by
  intro X hP hw hK hc i pins s σ H E I hf st hg;subst hP hw hK;obtain ⟨xs,x,qx,hx⟩:=hg;obtain ⟨its,rvx,px,_⟩:=I.list qx;obtain ⟨u,hu,ru⟩:=rvx.get hx;obtain ⟨⟨old,e1⟩,e4⟩:=st;have big:∀ {c:Addr} {o:Obj},s.heap.get? c=some o->c≠s.heap.objs.size:=λ e=>Nat.ne_of_lt (Heap.lt_size e);refine wpAny_pyNext_enum_item e1 e4 px.isList (x:=u) (by simpa using hu) hei λ h' a1 a2 a3 a4 a5=>?_;refine ⟨_,rfl,wpAny_letOwnedTupleGo_enum (s:={ s with heap:=h',toks:=s.toks+1 }) a1 λ h'' b1 b2=>?_⟩;have k2:∀ c o,c∉[e,it]->s.heap.get? c=some o->h''.get? c=some o:=λ c o hc q=>by
   simp only [List.mem_cons,List.not_mem_nil,or_false,not_or] at hc;exact (b2.2 c hc.1).trans (a5 c o hc.1 hc.2 q)
  have eT:IsTup h'' s.heap.objs.size (List.toArray [.int i s.toks,u]):=⟨_,(b2.2 _ (big e1).symm).trans a3,rfl,_,rfl⟩
  have I1:=I.turnedTup (t':=s.toks+1) (xs:=[.int i,x]) hf k2 (Nat.le_refl _) eT (.cons ⟨_,rfl⟩ (.cons ru .nil)) (by show 2<=sizeLine;decide);refine ⟨.ref s.heap.objs.size,_,I1,rfl,⟨s.heap.objs.size,x,I.hok.fresh (Nat.le_refl _),rfl,rfl,λ zs hz=>by rw [I.list_inj hz qx];exact hx⟩,⟨⟨u,by simpa using b1⟩,a2.at λ o q=>(b2.2 _ hei.symm).trans q⟩,λ c hc=>?_⟩;have hcn:c≠s.heap.objs.size:=by
   obtain ⟨o4,g4,_⟩:=id e4;simp only [List.mem_cons,List.not_mem_nil,or_false] at hc;rcases hc with rfl | rfl
   . exact big e1
   . exact big g4
  rw [aM hcn];exact (hf c hc).1
 done:=by
  intro X hP hw hK hc i pins s σ H E I hf st hg;subst hP hw hK;obtain ⟨xs,qx,hl⟩:=hg;obtain ⟨its,rvx,px,_⟩:=I.list qx;obtain ⟨⟨old,e1⟩,e4⟩:=st;have lx:=rvx.length;obtain ⟨f0,f1,f2,f3,f4,f5⟩:=hf it (by simp);exact wpAny_pyNext_enum_end (I.ok.hd hc) e1 e4 px.isList (by simp;omega) λ h' k=>⟨rfl,I.turned (t':=s.toks) (λ b o hb q=>k b o hb q) f0 f1 f3 f4 f5⟩
 self:=λ _ _ _ _ _ st h=>by
  obtain ⟨⟨old,e1⟩,_⟩:=st;exact wpAny_pyIter_enum e1 h
noncomputable def A3 (K:Frag) (ta:TA):TI:=λ σ H R=>ta σ H λ vs H1=>∃ a,vs=[.ref a]/\(∃ xs,cR K H1 a xs)/\R (JS K a) H1
theorem Bh {X:Cx} {elts:List Expr} {x1} {tpos:Pos} {a:Expr} {ta:TA} {p pos:Pos} (hg:Gl X "enumerate") (hm:X.mg "enumerate" = none) (ha:PA X [a] ta) (hs:starEach [a] X.env=[(false,eval a X.env)]:=by rfl):
 PI X (.Tuple elts x1 tpos) (.Call (.Name "enumerate" p) [a] [] pos) (A3 X.K ta):=by
 intro pins s σ H R I h;refine Call_ (lr I hg hm boot_enumerate (PyProof.Rows.callWith_type1 (cE (ha pos pins s σ H _ I h) λ us s1 hq0=>?_) hs rfl));obtain ⟨vs,H1,I1,r1,q1⟩:=hq0;obtain ⟨a,e,⟨xs,qx⟩,q⟩:=q1;subst e;cases r1 with
 | cons r rr=>
  cases rr;cases r;obtain ⟨its,rvx,px,_⟩:=I1.list qx;refine call_enumerate_list px.isList λ h' g5 g1 z5 k=>?_;refine wpAny_pyIter_enum (s:={ s1 with heap:=h' }) g5 ?_;refine ⟨s1.heap.objs.size+1,[s1.heap.objs.size+1,s1.heap.objs.size],_,_,H1,rfl,I1.kept (t':=s1.toks) k,xC a _ _ (Nat.ne_of_gt (Nat.lt_succ_self _)),⟨⟨_,g5⟩,g1⟩,λ c hc=>?_,q⟩;have hc':s1.heap.objs.size<=c:=by
   simp only [List.mem_cons,List.not_mem_nil,or_false] at hc;rcases hc with h | h <;> subst h <;> first
    | exact Nat.le_refl _
    | exact Nat.le_add_right _ _
  exact I1.fpOk hc' (I1.hok.fresh hc')
mutual
inductive Dp (K:Frag) (H:Hp):V->PyData->Prop
 | non:Dp K H .non .none
 | bl (b:Bool):Dp K H (.bl b) (.bool b)
 | int (i:Int):Dp K H (.int i) (.int i)
 | str (x:Str):Dp K H (.str x) (.str x)
 | lst {a:Addr} {xs:List V} {ds:List PyData}:cR K H a xs->mm K H xs ds->Dp K H (.ref a) (.list ds)
 | tup {a:Addr} {xs:List V} {ds:List PyData}:ez K H a xs->mm K H xs ds->Dp K H (.ref a) (.tuple ds)
inductive mm (K:Frag) (H:Hp):List V->List PyData->Prop
 | nil:mm K H [] []
 | cons {v:V} {vs:List V} {d:PyData} {ds:List PyData}:Dp K H v d->mm K H vs ds->mm K H (v::vs) (d::ds)
end
theorem Dp.reads {X:Cx} {pins:List (Addr×Obj)} {σ:St} {H:Hp} {s:Shared} (I:aL X pins σ H s) {v:V} {d:PyData} {u:Value} (h:Dp X.K H v d):bq v u->∃ as,Reads s.heap u d as:=
 Dp.rec (motive_1:=λ v d _=>∀ u,bq v u->∃ as,Reads s.heap u d as) (motive_2:=λ vs ds _=>∀ us,ba vs us->∃ as,ReadsAll s.heap us ds as)
  (λ u r=>by cases r;exact ⟨_,.none⟩) (λ b u r=>by cases r;exact ⟨_,.bool b⟩) (λ i u r=>by obtain ⟨t,rfl⟩:=r;exact ⟨_,.int i t⟩) (λ x u r=>by obtain ⟨t,rfl⟩:=r;exact ⟨_,.str x t⟩)
  (λ q _ ih u r=>by
   cases r;obtain ⟨its,rv,⟨o,n,e,c,_,d⟩,_⟩:=I.list q;obtain ⟨as,ra⟩:=ih _ rv;exact ⟨_,.list e c d (by simpa using ra)⟩)
  (λ q _ ih u r=>by
   cases r;obtain ⟨its,rv,⟨o,e,c,n,d⟩,_⟩:=I.tuple q;obtain ⟨as,ra⟩:=ih _ rv;exact ⟨_,.tuple e c d (by simpa using ra)⟩)
  (λ us r=>by cases r;exact ⟨_,.nil⟩)
  (λ _ _ ih1 ih2 us r=>by
   cases r with
   | cons r rr=>
    obtain ⟨as,ra⟩:=ih1 _ r;obtain ⟨bs,rb⟩:=ih2 _ rr;exact ⟨_,.cons ra rb⟩) h u
noncomputable def B0 (K:Frag) (neg:Bool):R2:=λ x y H Q=>∃ d e,Dp K H x d/\Dp K H y e/\d.canLay0=true/\e.canLay0=true/\d.depth<=64/\Q (.bl (if neg then !(PyData.eqv d e) else PyData.eqv d e)) H
theorem DL {X:Cx} (hu:X.A.units+64<cLine):gp X (compareOp .Eq) (B0 X.K false):=by
 intro pins s σ H x y v u Q I rx ry h;obtain ⟨d,e,hx,hy,cd,ce,dd,q⟩:=h;obtain ⟨as,ra⟩:=hx.reads I rx;obtain ⟨bs,rb⟩:=hy.reads I ry;exact SeqAt.compareEq_reads ra rb cd ce (by omega) ⟨.bl _,H,I,rfl,by simpa using q⟩
theorem EN {X:Cx} (hu:X.A.units+64<cLine):gp X (compareOp .NotEq) (B0 X.K true):=by
 intro pins s σ H x y v u Q I rx ry h;obtain ⟨d,e,hx,hy,cd,ce,dd,q⟩:=h;obtain ⟨as,ra⟩:=hx.reads I rx;obtain ⟨bs,rb⟩:=hy.reads I ry;exact SeqAt.compareNe_reads ra rb cd ce (by omega) ⟨.bl _,H,I,rfl,by simpa using q⟩
section
variable {P:Program} {w:World} {K:Frag} {mg:Str->Option Value} {base:Heap} {N:List Str} {qual:Str} {scope:Scope} {f:Addr} {cd:Value} {A:Around} {outer:List Env} {s:Shared} {H:Hp} {E:XK}
end
section
variable {X:Cx} {E:XK} {C:Addr} {x:Str} {np cpos pos:Pos} {e:Expr} {es:List Expr} {t:TA}
end
section
variable {K:Frag} {x D:Addr}
variable {prog:Program} {w:World} {A:Around} {E:Value->Shared->Prop} {s:Shared} {nm:Str}
end
section
variable {X:Cx}
end
section
variable {κ:Type} [DecidableEq κ]
noncomputable def j3 (kvs:List (κ×V)) (k:κ):Option V:=(kvs.find? λ kv=>decide (kv.1=k)).map (·.2)
noncomputable def jy (kvs:List (κ×V)) (k:κ) (v:V):List (κ×V):=
 if (kvs.any λ kv=>decide (kv.1=k))=true then kvs.map (λ kv=>if kv.1=k then (kv.1,v) else kv) else kvs++[(k,v)]
theorem kQ {p:κ×V} {r:List (κ×V)} {k:κ} (e:p.1=k):j3 (p::r) k=some p.2:=by simp [j3,List.find?_cons,e]
theorem iY {p:κ×V} {r:List (κ×V)} {k:κ} (e:¬ p.1=k):j3 (p::r) k=j3 r k:=by simp [j3,List.find?_cons,e]
theorem sf (k:κ):∀ kvs:List (κ×V),(kvs.any λ kv=>decide (kv.1=k))=(j3 kvs k).isSome
 | []=>rfl
 | p::r=>by
  rw [List.any_cons];by_cases e:p.1=k
  . simp only [kQ e,decide_eq_true e,Bool.true_or,Option.isSome_some]
  . rw [iY e,decide_eq_false e,Bool.false_or];exact sf k r
theorem my (kvs:List (κ×V)) (k:κ) (v:V):(jy kvs k v).length<=kvs.length+1:=by
 unfold jy;split
 . rw [List.length_map];omega
 . rw [List.length_append,List.length_cons,List.length_nil];omega
theorem jw.isSome_eq {o:Option V} {u:Option Value} (r:jw o u):o.isSome=u.isSome:=by
 cases o with
 | none=>cases u with
  | none=>rfl
  | some _=>exact (show False from r).elim
 | some _=>cases u with
  | none=>exact (show False from r).elim
  | some _=>rfl
theorem KV.val {kvs:List (κ×V)} {vs:List (κ×Value)} (r:KV kvs vs) (k:κ):jw (j3 kvs k) (valueAt vs k):=by
 unfold KV at r;induction r with
 | nil=>exact True.intro
 | @cons p q ps qs h t ih=>
  obtain ⟨h1,h2⟩:=h;by_cases e:p.1=k
  . have e':q.1=k:=h1.symm.trans e;have b:valueAt (q::qs) k=some q.2:=by simp [valueAt,List.find?_cons,e']
    rw [kQ e,b];exact h2
  . have e':¬ q.1=k:=λ z=>e (h1.trans z);have b:valueAt (q::qs) k=valueAt qs k:=by simp [valueAt,List.find?_cons,e']
    rw [iY e,b];exact ih
theorem KV.any {kvs:List (κ×V)} {vs:List (κ×Value)} (r:KV kvs vs) (k:κ):(kvs.any λ kv=>decide (kv.1=k))=vs.any λ kv=>decide (kv.1=k):=by
 unfold KV at r;induction r with
 | nil=>rfl
 | cons h t ih=>rw [List.any_cons,List.any_cons,ih,h.1]
theorem KV.repl {kvs:List (κ×V)} {vs:List (κ×Value)} (r:KV kvs vs) (k:κ) {y:V} {u:Value} (ry:bq y u):
 KV (kvs.map λ kv=>if kv.1=k then (kv.1,y) else kv) (vs.map λ kv=>if kv.1=k then (kv.1,u) else kv):=by
 unfold KV at r ⊢;induction r with
 | nil=>exact .nil
 | @cons p q ps qs h t ih=>
  rw [List.map_cons,List.map_cons];refine .cons ?_ ih;obtain ⟨h1,h2⟩:=h;by_cases e:p.1=k
  . rw [if_pos e,if_pos (h1.symm.trans e)];exact ⟨h1,ry⟩
  . rw [if_neg e,if_neg (λ z=>e (h1.trans z))];exact ⟨h1,h2⟩
theorem KV.put {kvs:List (κ×V)} {vs:List (κ×Value)} (r:KV kvs vs) (k:κ) {y:V} {u:Value} (ry:bq y u):KV (jy kvs k y) (stored vs k u):=by
 unfold jy stored;rw [r.any k];by_cases e:(vs.any λ kv=>decide (kv.1=k))=true
 . rw [if_pos e,if_pos e];exact r.repl k ry
 . rw [if_neg e,if_neg e];exact Paired.snoc r ⟨rfl,ry⟩
theorem KV.length {kvs:List (κ×V)} {vs:List (κ×Value)} (r:KV kvs vs):kvs.length=vs.length:=Paired.length r
end
theorem w6 {P:Program} {w:World} {k:bg} {u:Value} (r:bq (kV k) u):(bD P w).is k u=true:=by
 cases k with
 | inl i=>obtain ⟨t,e⟩:=(show ∃ t,u=Value.int i t from r);subst e;exact sY P w i t
 | inr x=>obtain ⟨t,e⟩:=(show ∃ t,u=Value.str x t from r);subst e;exact tQ P w x t
theorem qg {P:Program} {w:World}:∀ {ks:List bg} {us:List Value},ba (ks.map kV) us->ItemsAre (bD P w) ks us
 | [],_,r=>by rw [List.map_nil] at r;cases r;exact .nil
 | k::ks,_,r=>by
  rw [List.map_cons] at r;cases r with
  | cons h t=>exact .cons (w6 h) (qg t)
noncomputable abbrev KT (H:Hp):List (List bg×V)->List (List bg×Addr×Value)->Prop:=Paired λ p q=>p.1=q.1/\H q.2.1=some (.tup (p.1.map kV))/\bq p.2 q.2.2
theorem KT.val {H:Hp} {kvs:List (List bg×V)} {xs:List (List bg×Addr×Value)} (r:KT H kvs xs) (k:List bg):jw (j3 kvs k) ((atKey xs k).map (·.2)):=by
 induction r with
 | nil=>exact True.intro
 | @cons p q ps qs h t ih=>
  obtain ⟨h1,_,h2⟩:=h;by_cases e:p.1=k
  . have e':q.1=k:=h1.symm.trans e;have b:atKey (q::qs) k=some q.2:=by simp [atKey,List.find?_cons,e']
    rw [kQ e,b];exact h2
  . have e':¬ q.1=k:=λ z=>e (h1.trans z);have b:atKey (q::qs) k=atKey qs k:=by simp [atKey,List.find?_cons,e']
    rw [iY e,b];exact ih
theorem KT.repl {H:Hp} {kvs:List (List bg×V)} {xs:List (List bg×Addr×Value)} (r:KT H kvs xs) (k:List bg) {y:V} {u:Value} (ry:bq y u):
 KT H (kvs.map λ kv=>if kv.1=k then (kv.1,y) else kv) (xs.map (putAt k u)):=by
 induction r with
 | nil=>exact .nil
 | @cons p q ps qs h t ih=>
  rw [List.map_cons,List.map_cons];refine .cons ?_ ih;obtain ⟨h1,h2,h3⟩:=h;unfold putAt;by_cases e:p.1=k
  . rw [if_pos e,if_pos (h1.symm.trans e)];exact ⟨h1,h2,ry⟩
  . rw [if_neg e,if_neg (λ z=>e (h1.trans z))];exact ⟨h1,h2,h3⟩
theorem KT.put {H:Hp} {kvs:List (List bg×V)} {xs:List (List bg×Addr×Value)} (r:KT H kvs xs) (k:List bg) {b:Addr} {y:V} {u:Value} (hb:H b=some (.tup (k.map kV))) (ry:bq y u):
 KT H (jy kvs k y) (storedH xs k b u):=by
 have e:(kvs.any λ kv=>decide (kv.1=k))=(atKey xs k).isSome:=by
  rw [sf,(r.val k).isSome_eq,Option.isSome_map]
 unfold jy storedH;rw [e];by_cases q:(atKey xs k).isSome=true
 . rw [if_pos q,if_pos q];exact r.repl k ry
 . rw [if_neg q,if_neg q];exact Paired.snoc r ⟨rfl,hb,ry⟩
theorem KT.keeps {H H':Hp} {kvs:List (List bg×V)} {xs:List (List bg×Addr×Value)} (r:KT H kvs xs) (ht:∀ b ys,H b=some (.tup ys)->H' b=some (.tup ys)):KT H' kvs xs:=
 Paired.mapP r λ _ _ z=>⟨z.1,ht _ _ z.2.1,z.2.2⟩
section
variable {P:Program} {w:World} {H:Hp} {h:Heap} {a:Addr}
theorem Dq {u:HO} (ok:jP P w H h) (e:Rd H a u):cQ P w H h a u:=e.ok ok
theorem se {kvs:List (bg×V)} (ok:jP P w H h) (e:Rd H a (.dK kvs)):kvs.length<=sizeLine/\(a==sysModules)=false/\∃ vs,KV kvs vs/\h.DictOf (bD P w) a vs:=
 by obtain ⟨z,y,vs,r,x⟩:=(show cQ P w H h a (.dK kvs) from Dq ok e);exact ⟨z,y,vs,r,x.of⟩
theorem KQ {kvs:List (bg×V)} (ok:jP P w H h) (e:H a=some (.dK kvs)):∃ vs,KV kvs vs/\oz P w h a vs:=by
 obtain ⟨_,_,vs,r,x⟩:=(show cQ P w H h a (.dK kvs) from ok a _ e);exact ⟨vs,r,x⟩
theorem Hv {kvs:List (bg×V)} (ok:jP P w H h) (e:H a=some (.dK kvs)):kvs.length<=sizeLine/\(a==sysModules)=false/\∃ vs,KV kvs vs/\h.DictOf (bD P w) a vs:=se ok (.inl e)
theorem rN {ks:List bg} (ok:jP P w H h) (e:H a=some (.tup (ks.map kV))):(tupleKind (bD P w)).is h ks a:=by
 obtain ⟨_,its,r,o,h1,h2,n,h3⟩:=(show cQ P w H h a (.tup (ks.map kV)) from ok a _ e)
 exact ⟨o,its.toArray,n,h1,h2,h3,by simpa using qg r⟩
theorem vA {kvs:List (List bg×V)} (ok:jP P w H h) (e:Rd H a (.dT kvs)):kvs.length<=sizeLine/\(a==sysModules)=false/\
 ∃ xs,KT H kvs xs/\h.DictOfH (tupleKind (bD P w)) a xs:=by
 obtain ⟨z,y,xs,r,o,es,ep,h1,h2,h3,h4,h5⟩:=(show cQ P w H h a (.dT kvs) from Dq ok e)
 refine ⟨z,y,xs,r,o,es,ep,h1,h2,h3,h4,λ x hx=>?_,h5⟩;have all:∀ {l:List (List bg×V)} {m:List (List bg×Addr×Value)},KT H l m->∀ x∈m,(tupleKind (bD P w)).is h x.1 x.2.1:=by
  intro l m q;induction q with
  | nil=>intro x hx;exact nomatch hx
  | @cons p q ps qs hq t ih=>
   intro x hx;rcases List.mem_cons.mp hx with e | hx
   . subst e;exact rN ok (by rw [<-hq.1];exact hq.2.1)
   . exact ih x hx
 exact all r x hx
theorem GG {kvs:List (List bg×V)} (ok:jP P w H h) (e:H a=some (.dT kvs)):kvs.length<=sizeLine/\(a==sysModules)=false/\
 ∃ xs,KT H kvs xs/\h.DictOfH (tupleKind (bD P w)) a xs:=vA ok (.inl e)
end
noncomputable def mQ (H:Hp) (a:Addr) (y:V) (r:Option V):Prop:=
 (∃ kvs k,Rd H a (.dK kvs)/\y=kV k/\r=j3 kvs k)∨∃ kvs k b,Rd H a (.dT kvs)/\y=.ref b/\H b=some (.tup (k.map kV))/\r=j3 kvs k
noncomputable def qX (H:Hp) (a:Addr) (y v:V) (H':Hp):Prop:=
 (∃ kvs k,H a=some (.dK kvs)/\y=kV k/\kvs.length<sizeLine/\H'=cn H a (.dK (jy kvs k v)))∨
 ∃ kvs k b,H a=some (.dT kvs)/\y=.ref b/\H b=some (.tup (k.map kV))/\kvs.length<sizeLine/\H'=cn H a (.dT (jy kvs k v))
theorem mQ.k {H:Hp} {a:Addr} {kvs:List (bg×V)} {k:bg} (e:H a=some (.dK kvs)):mQ H a (kV k) (j3 kvs k):=.inl ⟨kvs,k,.inl e,rfl,rfl⟩
theorem mQ.t {H:Hp} {a b:Addr} {kvs:List (List bg×V)} {k:List bg} (e:H a=some (.dT kvs)) (eb:H b=some (.tup (k.map kV))):mQ H a (.ref b) (j3 kvs k):=.inr ⟨kvs,k,b,.inl e,rfl,eb,rfl⟩
theorem qX.k {H:Hp} {a:Addr} {kvs:List (bg×V)} {k:bg} {v:V} (e:H a=some (.dK kvs)) (hl:kvs.length<sizeLine):qX H a (kV k) v (cn H a (.dK (jy kvs k v))):=.inl ⟨kvs,k,e,rfl,hl,rfl⟩
theorem qX.t {H:Hp} {a b:Addr} {kvs:List (List bg×V)} {k:List bg} {v:V} (e:H a=some (.dT kvs)) (eb:H b=some (.tup (k.map kV))) (hl:kvs.length<sizeLine):
 qX H a (.ref b) v (cn H a (.dT (jy kvs k v))):=.inr ⟨kvs,k,b,e,rfl,eb,hl,rfl⟩
section
variable {X:Cx} {pins:List (Addr×Obj)} {σ:St} {H:Hp} {s:Shared} {a:Addr} {y v:V} {u r:Value} {o:Option V} {A:Around} {E:Value->Shared->Prop}
theorem aL.big (I:aL X pins σ H s):sysModules<s.heap.objs.size:=by
 have h:mainGlobals<s.heap.objs.size:=(I.mod.glob.keeps I.bk).lt;exact Nat.lt_trans (by decide) h
theorem xZ {Q:Value->Shared->Prop} (hu:A.units+1<cLine) (I:aL X pins σ H s) (g:mQ H a y (some v)) (ry:bq y u) (h:∀ w' s',aL X pins σ H s'->bq v w'->Q w' s'):
 wpAny (model X.prog X.w) A (getItem (.ref a) u) Q E s:=by
 rcases g with ⟨kvs,k,e,ey,l⟩ | ⟨kvs,k,b,e,ey,eb,l⟩
 . subst ey;obtain ⟨z,hd,vs,rel,dd⟩:=se I.hok e;obtain ⟨w',hw,rw'⟩:=jw.some_of (v:=v) (o:=valueAt vs k) (by rw [l];exact rel.val k);exact wpAny_getItem_of (w6 ry) dd.mapOf hw (h w' _ (I.tok _) rw')
 . subst ey;cases (show u=Value.ref b from ry);obtain ⟨z,hd,xs,rel,dd⟩:=vA I.hok e;obtain ⟨w',hw,rw'⟩:=jw.some_of (v:=v) (o:=(atKey xs k).map (·.2)) (by rw [l];exact rel.val k);obtain ⟨p,hp,hp2⟩:=oM hw
   refine wpAny_getItem_heap (tupleKind_room_in1 hu) (rN I.hok eb) dd hp ?_;rw [hp2];exact h w' _ (I.tok _) rw'
theorem Bm {Q:Value->Shared->Prop} (hu:A.units+1<cLine) (I:aL X pins σ H s) (g:mQ H a y o) (ry:bq y u) (h:∀ s',aL X pins σ H s'->Q (.bool (!o.isSome)) s'):
 wpAny (model X.prog X.w) A (compareOp .NotIn u (.ref a)) Q E s:=by
 rcases g with ⟨kvs,k,e,ey,l⟩ | ⟨kvs,k,b,e,ey,eb,l⟩
 . subst ey;obtain ⟨z,hd,vs,rel,dd⟩:=se I.hok e;refine wpAny_notIn_of (w6 ry) hd dd.mapOf ?_;rw [<-(rel.val k).isSome_eq,<-l];exact h _ (I.tok _)
 . subst ey;cases (show u=Value.ref b from ry);obtain ⟨z,hd,xs,rel,dd⟩:=vA I.hok e;refine wpAny_notIn_heap (tupleKind_room_in1 hu) (rN I.hok eb) hd dd ?_;have q:=(rel.val k).isSome_eq;rw [Option.isSome_map] at q;rw [<-q,<-l];exact h _ (I.tok _)
theorem wH {h':Heap} {t':Nat} {ob:HO} (I:aL X pins σ H s) (mu:HF (H a)) (hs:Heap.SameBut a s.heap h') (he:∃ q,h'.get? a=some q) (new:cQ X.prog X.w (cn H a ob) h' a ob):
 aL X pins σ (cn H a ob) { s with heap:=h',toks:=t' }:=
 I.write (x:=a) (e:=a) mu (.inl rfl) (λ b q hb z=>(hs.2 b hb).trans z) he new
theorem E4 {P:Program} {w:World} {H':Hp} {h':Heap} {kvs:List (bg×V)} {vs:List (bg×Value)} (z:kvs.length<=sizeLine) (hd:(a==sysModules)=false) (rel:KV kvs vs) (dd:oz P w h' a vs):
 cQ P w H' h' a (.dK kvs):=⟨z,hd,vs,rel,dd⟩
theorem HX {P:Program} {w:World} {d:Addr} {kvs:List (bg×Value)} {k:bg} {key v:Value} {Q:Unit->Shared->Prop} (hkey:(bD P w).is k key=true) (hm:oz P w s.heap d kvs) (hsz:kvs.length<=sizeLine)
 (hQ:∀ h',oz P w h' d (stored kvs k v)->Heap.SameBut d s.heap h'->Q () { s with heap:=h',toks:=s.toks+1 }):wpAny (model P w) A (setItem (.ref d) key v) Q E s:=by
 have T:=hm.of.typeIs;obtain ⟨o,es,ep,ho,hc,hd,he,hk,hp,hn⟩:=hm;have hes:es.size<=sizeLine:=by have e1:=hp.length;rw [Array.length_toList] at e1;omega
 unfold setItem;try with_reducible refine wpAny_holding ?_
 refine wpAny_bind (wpAny_sequenceKey T (by decide) (wpAny_bind (wpAny_callSpecial?_slot (name:=Str.ofString "__setitem__") T F.slot_dict_setitem (wpAny_call_entry F.slot_dict_setitem T F.entry_dict_setitem (wpAny_bind (wpAny_notOrdered_dict T (show wpAny _ _ (dictSet d key v >>= _) _ _ s from wpAny_bind ?_))) (args_dict_setitem _ _ _)))));unfold dictSet;try with_reducible refine wpAny_holding ?_
 refine wpAny_bind ((bD P w).pyHash hkey ?_);unfold dictSetHashed;try with_reducible refine wpAny_holding ?_
 refine wpAny_bind (wpAny_dictFind_of (s:={ s with toks:=s.toks+1 }) hkey ho hd hk ?_);have ix:(es.findIdx? λ e=>(bD P w).is k e.key)=kvs.findIdx? λ kv=>decide (kv.1=k):=by
  rw [<-hp.findIdx k];obtain ⟨l⟩:=es;simp
 cases hi:es.findIdx? λ e=>(bD P w).is k e.key with
 | some i=>
  have an:=any_of_findIdx_some (ix▸hi);have hl:(es.toList.findIdx? λ e=>(bD P w).is k e.key)=some i:=by rw [<-hi];obtain ⟨l⟩:=es;simp
  have hm:=hp.modify hn hl v;refine wpAny_bind (wpAny_rule (wpAny_bind (wpAny_updateDict (s:={ s with toks:=s.toks+1 }) ho hd (wpAny_point (wpAny_pure ⟨.none,rfl,wpAny_pure (hQ _ ?_ (Heap.SameBut.update ..))⟩)))));refine ⟨_,_,ep,Heap.get?_update_self _ ho (Obj.isFreed_of_dict (Obj.data_mapDict hd _)),hc.mapDict _,Obj.data_mapDict hd _,by simpa using he,hk.modify _ _,?_,?_⟩
  . rw [stored,if_pos an];obtain ⟨l⟩:=es;simpa using hm
  . rw [stored,if_pos an,keys_map_store];exact hn
 | none=>
  have nm:k∉kvs.map (·.1):=not_mem_of_findIdx_none (ix▸hi);have na:¬ (kvs.any λ kv=>decide (kv.1=k))=true:=λ z=>by
   obtain ⟨kv,h1,h2⟩:=List.any_eq_true.mp z;exact nm (List.mem_map.mpr ⟨kv,h1,of_decide_eq_true h2⟩)
  have ha:=hp.append hkey ((bD P w).hash k) v;refine wpAny_bind (wpAny_rule (wpAny_updateDictKeys (hz:=hes) (s:={ s with toks:=s.toks+1 }) ho hd (wpAny_pure ⟨.none,rfl,wpAny_pure (hQ _ ?_ (Heap.SameBut.update ..))⟩)));refine ⟨_,_,ep+1,Heap.get?_update_self _ ho (Obj.isFreed_of_dict (Obj.data_mapDictKeys hd _)),hc.mapDictKeys _,Obj.data_mapDictKeys hd _,by simp [he],hk.push hkey _,?_,?_⟩
  . rw [stored,if_neg na];obtain ⟨l⟩:=es;simpa using ha
  . rw [stored,if_neg na,List.map_append,List.nodup_append];exact ⟨hn,by simp,λ x hx y hy z=>nm (by simp at hy;rw [<-hy,<-z];exact hx)⟩
theorem wY {H':Hp} {Q:Unit->Shared->Prop} (hu:A.units+1<cLine) (I:aL X pins σ H s) (g:qX H a y v H') (ry:bq y u) (rv:bq v r) (h:∀ s',aL X pins σ H' s'->Q () s'):
 wpAny (model X.prog X.w) A (setItem (.ref a) u r) Q E s:=by
 rcases g with ⟨kvs,k,e,ey,l,eH⟩ | ⟨kvs,k,b,e,ey,eb,l,eH⟩
 . subst ey eH;obtain ⟨z,hd,_⟩:=Hv I.hok e;obtain ⟨vs,rel,dd⟩:=KQ I.hok e;have hz:vs.length<=sizeLine:=by rw [<-rel.length];exact z
   have hl:(jy kvs k v).length<=sizeLine:=by have:=my kvs k v;omega
   refine HX (w6 ry) dd hz λ h' dd' hs=>h _ ?_;have he:∃ q,h'.get? a=some q:=let ⟨q,_,_,hq,_⟩:=dd';⟨q,hq⟩;exact wH I (by rw [e];exact True.intro) hs he (E4 hl hd (rel.put k rv) dd')
 . subst ey eH;cases (show u=Value.ref b from ry);obtain ⟨z,hd,xs,rel,dd⟩:=GG I.hok e;have hz:xs.length<=sizeLine:=by rw [<-Paired.length rel];exact z
   have hl:(jy kvs k v).length<=sizeLine:=by have:=my kvs k v;omega
   refine wpAny_setItem_heap (hsz:=hz) (tupleKind_room_in1 hu) (rN I.hok eb) dd λ h' dd' hs=>h _ ?_;obtain ⟨q,es,ep,hq,h2,h3,h4,_,h5⟩:=dd';refine wH I (by rw [e];exact True.intro) hs ⟨q,hq⟩ ⟨hl,hd,_,(rel.put k eb rv).keeps λ c ys ec=>?_,q,es,ep,hq,h2,h3,h4,h5⟩;rw [aM (Hs ec e (λ z=>nomatch z))];exact ec
end
section
variable {X:Cx} {pins:List (Addr×Obj)} {σ:St} {H:Hp} {s:Shared} {a:Addr} {kvs:List (bg×V)} {k:bg} {u:Value} {A:Around} {E:Value->Shared->Prop}
theorem HD {Q:Value->Shared->Prop} (I:aL X pins σ H s) (e:Rd H a (.dK kvs)) (h:∀ t s',aL X pins σ H s'->Q (.int kvs.length t) s'):wpAny (model X.prog X.w) A (call (.builtin "len") [.ref a]) Q E s:=by
 obtain ⟨z,hd,vs,rel,dd⟩:=se I.hok e;refine call_len_dict hd dd (by rw [<-rel.length];rw [sizeLine_eq] at z;omega) ?_;rw [<-rel.length];exact h _ _ (I.tok _)
end
noncomputable def GT (i:Expr):Prop:=∀ ov iv,subscripted i false ov iv=operate [ov,iv] (getItem ov iv)
theorem Bt {prog:Program} {w:World} {A:Around} {E:Value->Shared->Prop} {s:Shared} {env:Env} {value slice:Expr} {pos:Pos} {T id:String} {Q:Value->Shared->Prop}
 (hl:typeLookup (.type T) "__getitem__" = pure (some (.builtin id))) (hs:GT slice)
 (h:wpAny (model prog w) A (eval value env) (λ o s₁=>wpAny (model prog w) A (eval slice env) (λ i s₂=>s₂.TypeIs o T/\wpAny (model prog w) A (getItem o i) Q E s₂) E s₁) E s):
 wpAny (model prog w) A (eval (.Subscript value slice pos) env) Q E s:=by
 refine Subscript_ (wpAny_mono h (λ o s₁ h₁=>wpAny_mono h₁ (λ i s₂ h₂=>?_) λ _ _ x=>x) λ _ _ x=>x);obtain ⟨hT,h₂⟩:=h₂;unfold subscriptTail;refine wpAny_bind ?_;rw [getitemInPython_of_ne hT.not_modules];refine wpAny_bind (wpAny_specialOf hT hl ?_);have fin:wpAny (model prog w) A (subscripted slice false o i) (λ r s₃=>wpAny (model prog w) A (letTemporaryGo value o r >>= λ _=>pure r) Q E s₃) E s₂:=by
  rw [hs o i];exact wpAny_operating (wpAny_mono h₂ (λ r s₃ h₃=>wpAny_bind (wpAny_letTemporaryGo (wpAny_pure h₃))) λ _ _ x=>x)
 first
  | exact wpAny_pure (wpAny_bind fin)
  | exact wpAny_bind (wpAny_pure (wpAny_bind fin))
  | exact wpAny_bind fin
theorem sM {X:Cx} {pins:List (Addr×Obj)} {σ:St} {H:Hp} {s:Shared} {a:Addr} {y:V} {o:Option V} (I:aL X pins σ H s) (g:mQ H a y o):s.TypeIs (.ref a) "dict" := by
 rcases g with ⟨kvs,k,e,_,_⟩ | ⟨kvs,k,b,e,_,_,_⟩
 . obtain ⟨_,_,vs,_,dd⟩:=se I.hok e;exact dd.typeIs
 . obtain ⟨_,_,xs,_,dd⟩:=vA I.hok e;exact dd.typeIs
noncomputable def Dr (td ty:TE):TE:=λ σ H Q=>td σ H λ x H1=>ty σ H1 λ y H2=>∃ a v,x=.ref a/\mQ H2 a y (some v)/\Q v H2
noncomputable def wb (ty td:TE):TE:=λ σ H Q=>ty σ H λ y H1=>td σ H1 λ x H2=>∃ a o,x=.ref a/\mQ H2 a y o/\Q (.bl (!o.isSome)) H2
noncomputable def CP (td ty tv:TE):TS:=λ D σ H=>tv σ H λ v H1=>td σ H1 λ x H2=>ty σ H2 λ y H3=>∃ a H4,x=.ref a/\qX H3 a y v H4/\D.nx σ H4
section
variable {X:Cx} {o i e value:Expr} {pos pos' tpos:Pos} {td ty tv:TE}
theorem J5 (hu:X.A.units+1<cLine) (ho:PE X o td) (hi:PE X i ty) (hs:GT i):PE X (.Subscript o i pos) (Dr td ty):=by
 intro pins s σ H Q I h;refine Bt PySem.F.slot_dict_getitem.lookup hs (cE (ho pins s σ H _ I h) λ u s1 hy0=>?_);obtain ⟨x,H1,I1,rx,q1⟩:=hy0;refine cE (hi pins s1 σ H1 _ I1 q1) λ iv s2 hq0=>?_;obtain ⟨y,H2,I2,ry,a,v,ex,g,q2⟩:=hq0;subst ex;obtain rfl:u=Value.ref a:=rx;exact ⟨sM I2 g,xZ hu I2 g ry λ w' s3 I3 rw'=>⟨v,H2,I3,rw',q2⟩⟩
theorem Gq (hu:X.A.units+1<cLine) (hi:PE X i ty) (ho:PE X o td):PC X .NotIn i o (wb ty td):=by
 intro pins s σ H Q I h;refine cE (hi pins s σ H _ I h) λ iv s1 hy0=>?_;obtain ⟨y,H1,I1,ry,q1⟩:=hy0;refine cE (ho pins s1 σ H1 _ I1 q1) λ u s2 hq0=>?_;obtain ⟨x,H2,I2,rx,a,ov,ex,g,q2⟩:=hq0;subst ex;obtain rfl:u=Value.ref a:=rx;exact Bm hu I2 g ry λ s3 I3=>⟨.bl (!ov.isSome),H2,I3,rfl,q2⟩
theorem JD (hu:X.A.units+1<cLine) (ho:PE X o td) (hi:PE X i ty) (hv:PE X value tv) (hs:swapsWith value (some (.Subscript o i pos')) pos.line X.env=pure false):
 PS X (.Assign [.Subscript o i pos'] value pos) (CP td ty tv):=by
 intro pins s σ H D I h;refine wpAny_Assign_Subscript (cE (hv pins s σ H _ I h) λ r s1 hy0=>?_) hs;obtain ⟨v,H1,I1,rv,q1⟩:=hy0;refine cE (ho pins s1 σ H1 _ I1 q1) λ u s2 hy0=>?_;obtain ⟨x,H2,I2,rx,q2⟩:=hy0;refine cE (hi pins s2 σ H2 _ I2 q2) λ iv s3 hq0=>?_;obtain ⟨y,H3,I3,ry,a,H4,ex,g,q3⟩:=hq0;subst ex;obtain rfl:u=Value.ref a:=rx;exact wY hu I3 g ry rv λ s4 I4=>⟨σ,H4,I4,q3⟩
end
theorem z7 {P:Program} {w:World} {H:Hp} (h:Heap) (hb:sysModules<h.objs.size):cQ P w H (h.push { cls:=.type "dict", data:=.dict #[] }) h.objs.size (.dK []):=
 ⟨Nat.zero_le _,beq_eq_false_iff_ne.mpr (Ne.symm (Nat.ne_of_lt hb)),[],.nil,_,#[],0,Heap.get?_push_size _ rfl,⟨rfl,rfl,rfl⟩,rfl,rfl,λ _ he=>by simp at he,.nil,List.nodup_nil⟩
theorem yJ {P:Program} {w:World} {H:Hp} (h:Heap) (hb:sysModules<h.objs.size):cQ P w H (h.push { cls:=.type "dict", data:=.dict #[] }) h.objs.size (.dT []):=
 ⟨Nat.zero_le _,beq_eq_false_iff_ne.mpr (Ne.symm (Nat.ne_of_lt hb)),[],.nil,_,#[],0,Heap.get?_push_size _ rfl,⟨rfl,rfl,rfl⟩,rfl,rfl,List.nodup_nil⟩
noncomputable def zg:TE:=λ _ H Q=>∀ p,H p=none->Q (.ref p) (cn H p (.dK []))
noncomputable def zb:TE:=λ _ H Q=>∀ p,H p=none->Q (.ref p) (cn H p (.dT []))
section
variable {X:Cx} {pos:Pos}
theorem HY:PE X (.Dict [] [] pos) zg:=λ pins s σ H Q I h=>
 wpAny_Dict_empty ⟨.ref s.heap.objs.size,_,I.laid (a:=s.heap.objs.size) (o:=.dK []) (t':=s.toks) (λ _ _ q=>Heap.get?_push_of_some _ q) (Nat.le_refl _) (z7 s.heap I.big),rfl,h _ (I.hok.fresh (Nat.le_refl _))⟩
theorem Hn:PE X (.Dict [] [] pos) zb:=λ pins s σ H Q I h=>
 wpAny_Dict_empty ⟨.ref s.heap.objs.size,_,I.laid (a:=s.heap.objs.size) (o:=.dT []) (t':=s.toks) (λ _ _ q=>Heap.get?_push_of_some _ q) (Nat.le_refl _) (yJ s.heap I.big),rfl,h _ (I.hok.fresh (Nat.le_refl _))⟩
end
structure M2 (X:Cx) (o:Expr) (m:Str) (apos:Pos) (e f:Expr) (cpos:Pos):Prop where
 base:attributeBase o m X.env (eval o X.env)=eval o X.env
 few:((backTo cpos (starEach [e,f] X.env)).all (λ x=>!x.1)&&(backToKw cpos (keywordEach [] X.env)).all (λ x=>x.1.isSome)
  && decide (([e,f]:List Expr).length+([]:List Keyword).length+(if ([]:List Keyword).isEmpty then 0 else 1)<30))=true
 line:(apos.endLine==cpos.line)=true
 trees:backTo cpos (starEach [e,f] X.env)=[(false,eval e X.env),(false,eval f X.env)]
section
variable {X:Cx} {pins:List (Addr×Obj)} {σ:St} {H:Hp} {s:Shared} {a:Addr} {y d:V} {u r:Value} {o:Option V} {A:Around} {E:Value->Shared->Prop}
end
section
variable {X:Cx} {o e f:Expr} {apos cpos:Pos} {td ty tx:TE}
end
section
variable {X:Cx} {pins:List (Addr×Obj)} {σ:St} {H:Hp} {s:Shared} {a:Addr} {kvs:List (bg×V)} {A:Around} {E:Value->Shared->Prop}
end
section
variable {X:Cx} {pins:List (Addr×Obj)} {σ:St} {H:Hp} {s:Shared} {a:Addr} {y:V} {u:Value} {A:Around} {E:Value->Shared->Prop}
end
end L2
namespace L2
open PySem PySem.Spec PyProof.Rows
open PySem.W (Frag)
section
variable {X:Cx}
theorem xf:cm X (.builtin "len") (λ xs H Q=>∃ a kvs,xs=[V.ref a]/\H a=some (.dK kvs)/\Q (.int kvs.length) H):=by
 intro pins s σ H xs us Q I r h;obtain ⟨a,kvs,rfl,ha,q⟩:=h;obtain ⟨u,rfl,ru⟩:=mz r;cases ru;exact HD I (.inl ha) λ t s' I'=>⟨.int kvs.length,H,I',⟨t,rfl⟩,q⟩
end
section
variable {κ:Type} [DecidableEq κ]
end
noncomputable def gi (z:Str):Prop:=z.cps.all (· < 128)=true
section
variable {z:Str} {wi:TI} {g:TG} {tb:TS} {D:jx} {σ:St} {H H1:Hp} {ix:List (Option Nat)} {tc:TT} {te:TE} {Q:VK}
end
theorem K3 {X:Cx}:BI X (λ x lo hi H Q=>∃ z,x=.str z/\z.length<=sizeLine/\Q (.str (Txt.slice z lo hi)) H):=by
 intro pins s σ H x v vl vu lo hi sl Q I rx hs pl pu h;obtain ⟨z,rfl,hz,q⟩:=h;obtain ⟨t,rfl⟩:=rx;have part:∀ {v:Value} {o:Option Int},IsPart v o->∃ p:Option (Int×Tok),v=partValue p/\o=p.map (·.1):=λ {v o} p=>by
  cases p with
  | none=>exact ⟨none,rfl,rfl⟩
  | int i t=>exact ⟨some (i,t),rfl,rfl⟩
 obtain ⟨p1,rfl,rfl⟩:=part pl;obtain ⟨p2,rfl,rfl⟩:=part pu;refine ⟨"str", _,F.slot_str_getitem.lookup,typeIs_str _ _ _,wpAny_getItem_str_slice (l:=p1) (u:=p2) (st:=none) hs rfl ?_⟩;refine post_val_or_str ⟨Nat.le_trans (Txt.slice_le z _ _) hz,λ t' k=>⟨.str _,H,I.tok k,⟨t',rfl⟩,q⟩⟩
section
variable {X:Cx}
theorem mD {P:Program} {w:World} {A:Around} {its:Array Value} {bs:List Bool} (r:ba (bs.map V.bl) its.toList):TruthOf P w A (λ i v=>its[i]?=some v) λ i=>bs.getD i false:=by
 intro i v s Q E hv hQ;have hv':its.toList[i]?=some v:=by simpa using hv
 have hlen:=r.length;have hi:i<bs.length:=by
  have:=(oG hv').1;rw [<-hlen,List.length_map] at this;exact this
 have hb:(bs.map V.bl)[i]?=some (V.bl bs[i]):=by rw [List.getElem?_map,List.getElem?_eq_getElem hi];rfl
 obtain ⟨u,hu,ru⟩:=r.get hb;rw [hv'] at hu;cases hu;cases ru;refine wpAny_truthy_bool ?_;have e:bs.getD i false=bs[i]:=by simp [hi]
 have hQ':Q (bs.getD i false) s:=hQ;rw [e] at hQ';exact hQ'
theorem wO (bs:List Bool):(List.range bs.length).all (λ i=>bs.getD i false)=bs.all id:=by
 rw [Bool.eq_iff_iff,List.all_eq_true,List.all_eq_true];constructor
 . intro h b hb;obtain ⟨i,hi,rfl⟩:=List.mem_iff_getElem.mp hb;have:=h i (List.mem_range.mpr hi);simpa [hi] using this
 . intro h i hi;have hi':=List.mem_range.mp hi;have:=h bs[i] (List.getElem_mem hi');simpa [hi'] using this
theorem wX (bs:List Bool):(List.range bs.length).any (λ i=>bs.getD i false)=bs.any id:=by
 rw [Bool.eq_iff_iff,List.any_eq_true,List.any_eq_true];constructor
 . rintro ⟨i,hi,h⟩;have hi':=List.mem_range.mp hi;exact ⟨bs[i],List.getElem_mem hi',by simpa [hi'] using h⟩
 . rintro ⟨b,hb,h⟩;obtain ⟨i,hi,rfl⟩:=List.mem_iff_getElem.mp hb;exact ⟨i,List.mem_range.mpr hi,by simpa [hi] using h⟩
theorem call_all' (hc:X.calm=true):cm X (.builtin "all") (λ xs H Q=>∃ (a:Addr) (bs:List Bool),xs=[.ref a]/\cR X.K H a (bs.map V.bl)/\Q (.bl (bs.all id)) H):=by
 intro pins s σ H xs us Q I r h;obtain ⟨a,bs,rfl,hq,q⟩:=h;obtain ⟨u,rfl,ru⟩:=mz r;cases ru;obtain ⟨its,rv,pl,_⟩:=I.list hq;refine call_all_walk (wpAny_pyIter_list pl.isList ?_);have hne:a≠s.heap.objs.size:=by
  obtain ⟨o,n,e,_⟩:=pl;exact Nat.ne_of_lt (Heap.lt_size e)
 refine ⟨s.heap.objs.size,_,_,_,_,_,_,rfl,Walks.list (A:=X.A.in1) (show X.A.in1.handled=none from I.ok.hd hc) _ a hne its.toArray,⟨⟨_,Heap.get?_push_size _ rfl,rfl,rfl⟩,pl.isList.push _⟩,mD (bs:=bs) (by simpa using rv),λ h' tk k=>?_⟩;have hsz:its.toArray.size=bs.length:=by rw [List.size_toArray,<-rv.length,List.length_map]
 rw [hsz,wO];exact ⟨.bl _,H,I.kept λ b o e=>k b o (by
  simp only [List.mem_cons,List.not_mem_nil,or_false];exact Nat.ne_of_lt (Heap.lt_size e)) (Heap.get?_push_of_some _ e),rfl,q⟩
theorem call_any' (hc:X.calm=true):cm X (.builtin "any") (λ xs H Q=>∃ (a:Addr) (bs:List Bool),xs=[.ref a]/\cR X.K H a (bs.map V.bl)/\Q (.bl (bs.any id)) H):=by
 intro pins s σ H xs us Q I r h;obtain ⟨a,bs,rfl,hq,q⟩:=h;obtain ⟨u,rfl,ru⟩:=mz r;cases ru;obtain ⟨its,rv,pl,_⟩:=I.list hq;refine call_any_walk (wpAny_pyIter_list pl.isList ?_);have hne:a≠s.heap.objs.size:=by
  obtain ⟨o,n,e,_⟩:=pl;exact Nat.ne_of_lt (Heap.lt_size e)
 refine ⟨s.heap.objs.size,_,_,_,_,_,_,rfl,Walks.list (A:=X.A.in1) (show X.A.in1.handled=none from I.ok.hd hc) _ a hne its.toArray,⟨⟨_,Heap.get?_push_size _ rfl,rfl,rfl⟩,pl.isList.push _⟩,mD (bs:=bs) (by simpa using rv),λ h' tk k=>?_⟩;have hsz:its.toArray.size=bs.length:=by rw [List.size_toArray,<-rv.length,List.length_map]
 rw [hsz,wX];exact ⟨.bl _,H,I.kept λ b o e=>k b o (by
  simp only [List.mem_cons,List.not_mem_nil,or_false];exact Nat.ne_of_lt (Heap.lt_size e)) (Heap.get?_push_of_some _ e),rfl,q⟩
end
section
variable {X:Cx}
noncomputable def CG (i j:Int):Prop:=i.natAbs<2^512/\j.natAbs<2^512
theorem BE:gp X (binaryOp .Mult) (rI CG λ i j=>.int (i*j)):=GO λ _ _ _ _ _ _ _ hc q=>mul_int q (IntMulOk.of_le (PySem.intBits_le_iff.mpr hc.1) (PySem.intBits_le_iff.mpr hc.2) (by decide))
noncomputable def Dm:R2:=λ x y H Q=>∃ z n,x=.str z/\y=.int n/\0<=n/\n<=1000/\z.length<=1000/\Q (.str (Txt.mul z n)) H
theorem Jt:gp X (binaryOp .Mult) Dm:=by
 intro pins s σ H x y v u Q I rx ry h;obtain ⟨z,n,rfl,rfl,h0,h1,hz,q⟩:=h;obtain ⟨t,rfl⟩:=rx;obtain ⟨t',rfl⟩:=ry;have hm:z.length*n.toNat<=1000*1000:=Nat.mul_le_mul hz (by omega);refine SB.mul ⟨?_,λ a b=>?_,λ a b=>?_⟩ (λ t2 k=>⟨.str _,H,I.tok k,⟨t2,rfl⟩,q⟩)
 . have e1:decide (n < -(2^63:Int))=false:=decide_eq_false (by omega);have e2:decide (n ≥ 2^63)=false:=decide_eq_false (by omega);rw [e1,e2];rfl
 . have hn:1<=n:=by omega
   have:(1000:Int)<=(2^63-1) / n:=by
    rw [Int.le_ediv_iff_mul_le (by omega)];omega
   omega
 . unfold PySem.Builtin.Str.tooLong;exact decide_eq_false (by have:sizeLine=16777216:=sizeLine_eq;omega)
theorem xH:cm X (.builtin "isinstance") (λ xs H Q=>∃ (a:Addr) (ys:List V) (T:String) (k:Bool),xs=[.ref a,.ty T]/\ez X.K H a ys/\PySem.W.kitOne X.K (.type "tuple") (.type T)=some k/\Q (.bl k) H):=by
 intro pins s σ H xs us Q I r h;obtain ⟨a,ys,T,k,rfl,ha,hk,q⟩:=h;cases r with
 | cons r rr=>
  cases rr with
  | cons r' rr=>
   cases rr;cases r;cases r';obtain ⟨its,_,⟨o,e,c,_⟩,_⟩:=I.tuple ha;exact PySem.W.kia_one (PySem.W.kitx_tuple) I.kIn ⟨o,e,c⟩ hk (by intro z;cases z) λ tk=>⟨.bl k,H,I.tok tk,rfl,q⟩
theorem xb:cm X (.builtin "isinstance") (λ xs H Q=>∃ (a:Addr) (ys:List V) (T:String) (k:Bool),xs=[.ref a,.ty T]/\cR X.K H a ys/\PySem.W.kitOne X.K (.type "list") (.type T)=some k/\Q (.bl k) H):=by
 intro pins s σ H xs us Q I r h;obtain ⟨a,ys,T,k,rfl,ha,hk,q⟩:=h;cases r with
 | cons r rr=>
  cases rr with
  | cons r' rr=>
   cases rr;cases r;cases r';obtain ⟨its,_,⟨o,n,e,c,_⟩,_⟩:=I.list ha;exact PySem.W.kia_one (PySem.W.kitx_list) I.kIn ⟨o,e,c⟩ hk (by intro z;cases z) λ tk=>⟨.bl k,H,I.tok tk,rfl,q⟩
end
section
variable {X:Cx} {K:Frag}
theorem IZ (h:X.K=K):yR X (JI K):=h▸DV
theorem yv (h:X.K=K):BI X (GJ K):=h▸AT
theorem AK (h:X.K=K):BI X (G7 K):=h▸FC
theorem E2 (h:X.K=K):gp X (compareOp .In) (Da K false):=h▸xq
theorem AA (h:X.K=K):gp X (compareOp .NotIn) (Da K true):=h▸qq
noncomputable def Ie (K:Frag):List V->Hp->VK->Prop:=λ xs H Q=>∃ p ys,xs=[.ref p]/\(cR K H p ys∨ez K H p ys)/\Q (.int ys.length) H
theorem oR (h:X.K=K):cm X (.builtin "len") (Ie K):=h▸qy
noncomputable def CY:List V->Hp->VK->Prop:=λ xs H Q=>∃ z,xs=[.str z]/\z.length<=sizeLine/\Q (.int z.length) H
theorem oX:cm X (.builtin "len") CY:=rC
noncomputable def CI (K:Frag):List V->Hp->VK->Prop:=λ xs H Q=>∃ (a:Addr) (ys:List V) (T:String) (k:Bool),xs=[.ref a,.ty T]/\ez K H a ys/\PySem.W.kitOne K (.type "tuple") (.type T)=some k/\Q (.bl k) H
theorem uK (h:X.K=K):cm X (.builtin "isinstance") (CI K):=h▸xH
noncomputable def De (K:Frag):List V->Hp->VK->Prop:=λ xs H Q=>∃ (a:Addr) (ys:List V) (T:String) (k:Bool),xs=[.ref a,.ty T]/\cR K H a ys/\PySem.W.kitOne K (.type "list") (.type T)=some k/\Q (.bl k) H
theorem uT (h:X.K=K):cm X (.builtin "isinstance") (De K):=h▸xb
noncomputable def Ca:List V->Hp->VK->Prop:=λ xs H Q=>∃ v T k,xs=[v,.ty T]/\Am v T=some k/\Q (.bl k) H
theorem pG:cm X (.builtin "isinstance") Ca:=zt
noncomputable def rq (K:Frag):List V->Hp->VK->Prop:=λ xs H Q=>∃ p ys,xs=[.ref p]/\(cR K H p ys∨ez K H p ys)/\∀ l,H l=none->Q (.ref l) (cn H l (.lst ys))
theorem oS (h:X.K=K):cm X (.type "list") (rq K):=h▸qW
noncomputable def EZ (K:Frag):List V->Hp->VK->Prop:=λ xs H Q=>∃ (a:Addr) (bs:List Bool),xs=[.ref a]/\cR K H a (bs.map V.bl)/\Q (.bl (bs.all id)) H
theorem wQ (h:X.K=K) (hc:X.calm=true):cm X (.builtin "all") (EZ K):=h▸call_all' hc
noncomputable def Gf (K:Frag):List V->Hp->VK->Prop:=λ xs H Q=>∃ (a:Addr) (bs:List Bool),xs=[.ref a]/\cR K H a (bs.map V.bl)/\Q (.bl (bs.any id)) H
theorem xx (h:X.K=K) (hc:X.calm=true):cm X (.builtin "any") (Gf K):=h▸call_any' hc
theorem Js {pos:Pos} {es:List Expr} {k:Nat} {t:zI} {n:Nat} (h:X.K=K) (hc:X.calm=true) (hh:Gw X es t)
 (hn:(assignEach es X.env).length=n) (hst:(assignEach es X.env).findIdx? (·.1)=none):PG X (.Tuple es k pos) (Ef K n t):=h▸E9 hc hh hn hst
theorem Hq {elts:List Expr} {x1} {tpos:Pos} {a:Expr} {ta:TA} {p pos:Pos} (h:X.K=K) (hg:Gl X "enumerate") (hm:X.mg "enumerate" = none) (ha:PA X [a] ta) (hs:starEach [a] X.env=[(false,eval a X.env)]):
 PI X (.Tuple elts x1 tpos) (.Call (.Name "enumerate" p) [a] [] pos) (A3 K ta):=h▸Bh hg hm ha hs
variable {o e:Expr} {es:List Expr} {to:TE} {t:TA} {name:Str} {apos cpos:Pos} {T id:String} {r:V->List V->Hp->VK->Prop}
theorem By (h:X.K=K) (pa:PlainAttrs T) (slot:Slot T name id) (hty:typeOf (.builtin id)=pure (.type "method_descriptor")) (hm:GM X id r) (ho:PE X o to)
 (hbase:attributeBase o name X.env (eval o X.env)=eval o X.env:=by rfl) (hline:(apos.endLine==cpos.line)=true:=by rfl):PE X (.Call (.Attribute o name apos) [] [] cpos) (Bi K T r to):=h▸DD pa slot hty hm ho hbase hline
theorem Ge (h:X.K=K) (pa:PlainAttrs T) (slot:Slot T name id) (hty:typeOf (.builtin id)=pure (.type "method_descriptor")) (hm:GM X id r) (ho:PE X o to) (ha:PA X (e::es) t)
 (hbase:attributeBase o name X.env (eval o X.env)=eval o X.env:=by rfl)
 (hfew:((backTo cpos (starEach (e::es) X.env)).all (λ x=>!x.1)&&(backToKw cpos (keywordEach [] X.env)).all (λ x=>x.1.isSome)
  && decide ((e::es).length+([]:List Keyword).length+(if ([]:List Keyword).isEmpty then 0 else 1)<30))=true:=by rfl)
 (hline:(apos.endLine==cpos.line)=true:=by rfl) (hs:starEach (e::es) X.env=(false,eval e X.env)::starEach es X.env:=by rfl) (hplain:(backTo cpos (starEach es X.env)).any (·.1)=false:=by rfl):
 PE X (.Call (.Attribute o name apos) (e::es) [] cpos) (EH K T r to t):=h▸Ht pa slot hty hm ho ha hbase hfew hline hs hplain
end
theorem kN {H:Hp} {p:Addr} (h:H p=none) (o:HO):bm H (cn H p o):=λ b u q=>by rw [aM (bA q h)];exact q
theorem bm.tup {K:Frag} {H H':Hp} {a:Addr} {xs:List V} (g:bm H H') (q:ez K H a xs):ez K H' a xs:=by
 rcases q with (h | ⟨o,h⟩) | h
 . exact .inl (.inl (g _ _ h))
 . exact .inl (.inr ⟨o,g _ _ h⟩)
 . exact .inr h
theorem kC {z:Str}:gi z↔∀ c∈z.cps.toList,c<128:=by
 unfold gi;rw [Array.all_eq_true'];constructor
 . intro h c hc;simpa using h c (by simpa using hc)
 . intro h c hc;simpa using h c (by simpa using hc)
theorem gi.app {a b:Str} (h:gi a) (h':gi b):gi (a++b):=by
 rw [kC] at *;intro c hc;have e:(a++b).cps=a.cps++b.cps:=rfl;rw [e,Array.toList_append,List.mem_append] at hc;exact hc.elim (h c) (h' c)
theorem qV (a b:Str):(a++b).length=a.length+b.length:=by
 show (a.cps++b.cps).size=_;rw [Array.size_append];rfl
theorem gi.one {z:Str} (h:gi z) {i:Int} {c:Nat} (e:fG z.cps.toList i=some c):gi ⟨#[c]⟩:=by
 rw [kC] at *;obtain ⟨j,_,hj,_⟩:=mU e;have:=h c (List.mem_of_getElem? hj);intro d hd;have:d=c:=by simpa using hd
 omega
theorem gi.slice {z:Str} (h:gi z) (lo hi:Option Int):gi (Txt.slice z lo hi):=by
 rw [kC] at *;intro c hc;unfold Txt.slice at hc;split at hc
 . exact h c hc
 refine h c ?_;simp only [List.mem_filterMap] at hc;obtain ⟨k,_,e⟩:=hc;exact List.mem_of_getElem? (by simpa using e)
theorem gi.ok {z:Str} (h:gi z):PyData.strOk z=true:=by
 rw [kC] at h;unfold PyData.strOk;rw [Array.all_eq_true'];intro c hc;have:=h c (by simpa using hc);simp only [decide_eq_true_eq];omega
noncomputable def Nw (H H':Hp) (p:Addr) (o:HO):Prop:=bm H H'/\H p=none/\H' p=some o
theorem Nw.of {H:Hp} {p:Addr} {o:HO} (h:H p=none):Nw H (cn H p o) p o:=⟨kN h o,h,aH⟩
noncomputable def zf (t:TA):TE:=λ σ H Q=>t σ H λ xs H1=>xs.length<=sizeLine/\∀ p H',Nw H1 H' p (.tup xs)->Q (.ref p) H'
noncomputable def yU (t:TA):TE:=λ σ H Q=>t σ H λ xs H1=>xs.length<=sizeLine/\∀ p H',Nw H1 H' p (.lst xs)->Q (.ref p) H'
section
variable {X:Cx} {K:Frag} {es:List Expr} {t:TA} {pos:Pos}
theorem Jh {x1} (h:PA X es t):PE X (.Tuple es x1 pos) (zf t):=λ pins s σ H Q I hq=>wpAny_Tuple_spliced (cE (h pos pins s σ H _ I hq) λ us s1 ⟨xs,H1,I1,r,z,q⟩=>⟨by rw [<-r.length];exact z,
 .ref s1.heap.objs.size,_,I1.laid (t':=s1.toks) (o:=.tup xs) (λ b u e=>Heap.get?_push_of_some _ e) (Nat.le_refl _) ⟨z,us,r,⟨_,Heap.get?_push_size _ rfl,rfl,_,rfl⟩⟩,rfl,q _ _ (.of (I1.hok.fresh (Nat.le_refl _)))⟩)
theorem JB (h:PA X es t):PE X (.List es pos) (yU t):=λ pins s σ H Q I hq=>wpAny_List_spliced (cE (h pos pins s σ H _ I hq) λ us s1 ⟨xs,H1,I1,r,z,q⟩=>⟨by rw [<-r.length];exact z,
 .ref s1.heap.objs.size,_,I1.laid (t':=s1.toks) (o:=.lst xs) (λ b u e=>Heap.get?_push_of_some _ e) (Nat.le_refl _) ⟨z,us,0,r,Heap.get?_push_size _ rfl⟩,rfl,q _ _ (.of (I1.hok.fresh (Nat.le_refl _)))⟩)
noncomputable def Du (K:Frag):V->Option Int->Option Int->Hp->VK->Prop:=λ x lo hi H Q=>∃ a xs,x=.ref a/\cR K H a xs/\∀ p H',Nw H H' p (.lst (oY xs lo hi))->Q (.ref p) H'
theorem GQ (h:X.K=K):BI X (Du K):=λ pins s σ H x v vl vu lo hi sl Q I rx hs pl pu hy0=>by obtain ⟨a,xs,e,q,r⟩:=hy0;exact yv h pins s σ H x v vl vu lo hi sl Q I rx hs pl pu ⟨a,xs,e,q,λ p hp=>r p _ (.of hp)⟩
noncomputable def Dg (K:Frag):V->Option Int->Option Int->Hp->VK->Prop:=λ x lo hi H Q=>∃ a xs,x=.ref a/\ez K H a xs/\
 ((HT.sIx xs.length 0 lo=0/\HT.sIx xs.length xs.length hi=xs.length/\Q (.ref a) H)∨(¬ (HT.sIx xs.length 0 lo=0/\HT.sIx xs.length xs.length hi=xs.length)/\∀ p H',Nw H H' p (.tup (oY xs lo hi))->Q (.ref p) H'))
theorem xX {prog:Program} {w:World} {A:Around} {E:Value->Shared->Prop} {s:Shared} {a sl:Addr} {its:Array Value} {vl vu:Value} {lo hi:Option Int} {Q:Value->Shared->Prop} (ht:IsTup s.heap a its) (hs:s.heap.IsSliceOf sl vl vu .none) (pl:IsPart vl lo) (pu:IsPart vu hi)
 (h1:HT.sIx its.size 0 lo=0) (h2:HT.sIx its.size its.size hi=its.size) (h:Q (.ref a) s):wpAny (model prog w) A (getItem (.ref a) (.ref sl)) Q E s:=by
 obtain ⟨os,hos,hcs,hds⟩:=id hs;unfold getItem;try with_reducible refine wpAny_holding ?_
 first | refine wpAny_bind (wpAny_pure ?_) | skip
 refine wpAny_bind (wpAny_sequenceKey ht.typeIs (by decide) (wpAny_bind (wpAny_callSpecial?_slot (name:=Str.ofString "__getitem__") ht.typeIs PyProof.Rows.slot_tuple_getitem (wpAny_call_entry PyProof.Rows.slot_tuple_getitem ht.typeIs entry_tuple_getitem ?_ (args_tuple_getitem _ _)))));show wpAny _ _ (Builtin.Tuple.tupleItemsOf (.ref a) >>= _) _ _ s;refine wpAny_bind (PyProof.Rows.tupleItemsOf_ ht (wpAny_bind (wpAny_typeOf (show s.TypeIs (.ref sl) "slice" from ⟨os,hos,hcs⟩) ?_)));rw [if_pos (by decide)];refine wpAny_bind (HT.sliceApplied_gen hs pl pu ?_);have yes:(((HT.sIx its.size 0 lo:Nat):Int)==0&&(1:Int)==1&&(HT.sIx its.size its.size hi-HT.sIx its.size 0 lo)==its.size)=true:=by
  rw [h1,h2];simp
 show wpAny _ _ (if (((HT.sIx its.size 0 lo:Nat):Int)==0&&(1:Int)==1&&(HT.sIx its.size its.size hi-HT.sIx its.size 0 lo)==its.size)=true then _ else _) _ _ s;rw [if_pos yes];refine wpAny_bind ?_;unfold Builtin.Tuple.tupleIsExact;refine wpAny_bind (wpAny_typeOf ht.typeIs (wpAny_pure ?_));rw [if_pos (by decide)];exact wpAny_bind (wpAny_rule (wpAny_pure ⟨_,rfl,wpAny_pure h⟩))
theorem J9 (h:X.K=K):BI X (Dg K):=by
 intro pins s σ H x v vl vu lo hi sl Q I rx hs pl pu q;obtain ⟨a,xs,e,hx,q | q⟩:=q
 . subst h e;cases rx;obtain ⟨its,r,ht,hz⟩:=I.tuple hx;have hlen:its.toArray.size=xs.length:=by rw [List.size_toArray];exact r.length.symm
   exact ⟨"tuple", _,PyProof.Rows.slot_tuple_getitem.lookup,ht.typeIs,xX ht hs pl pu (by rw [hlen];exact q.1) (by rw [hlen];exact q.2.1) ⟨.ref a,H,I,rfl,q.2.2⟩⟩
 . exact AK h pins s σ H x v vl vu lo hi sl Q I rx hs pl pu ⟨a,xs,e,hx,q.1,λ p hp=>q.2 p _ (.of hp)⟩
end
section
variable {X:Cx} {K:Frag}
theorem Ju {o i e:Expr} {to ti te:TE} {pos tpos:Pos} (he:PE X e te) (ho:PE X o to) (hi:PE X i ti)
 (ha:∀ v,assign (.Subscript o i tpos) X.env v=(do
  let ov <-holding [v] (eval o X.env);let iv <-holding [v,ov] (eval i X.env)
  standAt tpos
  holding [v,ov,iv] (setItem ov iv v)
  release [v,ov,iv] [])) (hs:swapsWithSole [.Subscript o i tpos] e pos.line X.env=pure false) (hw:swappedStores [.Subscript o i tpos] e X.env=pure none):PS X (.Assign [.Subscript o i tpos] e pos) (oZ te (B1 to ti vG)):=Gi he (EW ho hi yM ha) hs hw
end
noncomputable def wc:Value->Option Str
 | .str x _=>some x
 | _=>none
noncomputable def BH (us:List Value) (ws:List Str):Bool:=decide (us.map wc=ws.map some)
theorem x9 {u:Value} {y:Str} (h:wc u=some y):bq (.str y) u:=by
 unfold wc at h;split at h
 . cases h;exact ⟨_,rfl⟩
 . cases h
theorem kr:∀ {us:List Value} {ws:List Str},us.map wc=ws.map some->ba (ws.map V.str) us
 | [],[],_=>.nil
 | u::r,y::s,h=>by
  simp only [List.map_cons,List.cons.injEq] at h;exact .cons (x9 h.1) (kr h.2)
 | [],_::_,h=>by simp at h
 | _::_,[],h=>by simp at h
noncomputable def qw (o:Obj) (ws:List Str):Bool:=match o.data with
 | .seq its _=>BH its.toList ws&&decide (its.size<=1000)
 | _=>false
theorem pE {K:Frag} {H:Hp} {a:Addr} {o:Obj} {ws:List Str} (h:K.lookup a=some o) (hc:o.cls=.type "tuple") (ht:qw o ws=true):ez K H a (ws.map V.str):=by
 unfold qw at ht;split at ht
 . rename_i its n e;rw [Bool.and_eq_true] at ht;exact .inr ⟨o,its,n,h,hc,e,Nat.le_of_lt (wS (by simpa using ht.2)),kr (of_decide_eq_true ht.1)⟩
 . cases ht
section
variable {K:Frag} {x D:Addr} {prog:Program} {w:World} {A:Around} {E:Value->Shared->Prop} {s:Shared}
end
section
variable {X:Cx} {K:Frag}
end
section
variable {P:Program} {w:World} {A:Around} {E:Value->Shared->Prop} {s:Shared}
end
section
variable {X:Cx} {K:Frag}
end
section
variable {K:Frag} {a b:Addr} {xs ys:List V} {wi:TI} {g:TG} {σ:St} {H H1:Hp} {ix:List (Option Nat)} {tc:TT} {te:TE} {Q:VK}
end
section
variable {K:Frag} {a:Addr} {xs:List V} {wi:TI} {g:TG} {σ:St} {H H1:Hp} {ix:List (Option Nat)} {tc:TT} {te:TE} {Q:VK}
end
inductive W where
 | none | bool (b:Bool) | int (i:Int) | str (x:Str) | list (ds:List W) | tuple (ds:List W) | ref (n:Nat)
mutual
inductive Dw (K:Frag) (ρ:List Addr) (H:Hp):V->W->Prop
 | non:Dw K ρ H .non .none
 | bl (b:Bool):Dw K ρ H (.bl b) (.bool b)
 | int (i:Int):Dw K ρ H (.int i) (.int i)
 | str (x:Str):Dw K ρ H (.str x) (.str x)
 | lst {a:Addr} {xs:List V} {ds:List W}:cR K H a xs->aw K ρ H xs ds->Dw K ρ H (.ref a) (.list ds)
 | tup {a:Addr} {xs:List V} {ds:List W}:H a=some (.tup xs)->aw K ρ H xs ds->Dw K ρ H (.ref a) (.tuple ds)
 | ref {a:Addr} {n:Nat}:ρ[n]?=some a->Dw K ρ H (.ref a) (.ref n)
inductive aw (K:Frag) (ρ:List Addr) (H:Hp):List V->List W->Prop
 | nil:aw K ρ H [] []
 | cons {v:V} {vs:List V} {d:W} {ds:List W}:Dw K ρ H v d->aw K ρ H vs ds->aw K ρ H (v::vs) (d::ds)
end
theorem Dw.mapG {K:Frag} {ρ ρ':List Addr} {H H':Hp} (hs:∀ a xs,cR K H a xs->cR K H' a xs) (ht:∀ a xs,H a=some (.tup xs)->H' a=some (.tup xs)) (hr:∀ (n:Nat) (a:Addr),ρ[n]?=some a->ρ'[n]?=some a) {v:V} {d:W} (h:Dw K ρ H v d):Dw K ρ' H' v d:=
 Dw.rec (motive_1:=λ v d _=>Dw K ρ' H' v d) (motive_2:=λ vs ds _=>aw K ρ' H' vs ds) .non .bl .int .str (λ q _ ih=>.lst (hs _ _ q) ih) (λ q _ ih=>.tup (ht _ _ q) ih) (λ e=>.ref (hr _ _ e)) .nil (λ _ _ a b=>.cons a b) h
theorem aw.ind {K:Frag} {ρ:List Addr} {H:Hp} {M:List V->List W->Prop} (h0:M [] []) (h1:∀ v vs d ds,Dw K ρ H v d->M vs ds->M (v::vs) (d::ds)) {vs:List V} {ds:List W} (h:aw K ρ H vs ds):M vs ds:=
 aw.rec (motive_1:=λ _ _ _=>True) (motive_2:=λ vs ds _=>M vs ds) trivial (λ _=>trivial) (λ _=>trivial) (λ _=>trivial) (λ _ _ _=>trivial) (λ _ _ _=>trivial) (λ _=>trivial) h0 (λ a _ _ ih=>h1 _ _ _ _ a ih) h
theorem Dw.same {K:Frag} {ρ:List Addr} {H H':Hp} (g:bm H H') {v:V} {d:W} (h:Dw K ρ H v d):Dw K ρ H' v d:=h.mapG (λ _ _ q=>g.seq q) (λ _ _ q=>g _ _ q) λ _ _ e=>e
theorem aw.mapA {K:Frag} {ρ ρ':List Addr} {H H':Hp} (f:∀ v d,Dw K ρ H v d->Dw K ρ' H' v d) {vs:List V} {ds:List W} (h:aw K ρ H vs ds):aw K ρ' H' vs ds:=h.ind (M:=λ vs ds=>aw K ρ' H' vs ds) .nil λ _ _ _ _ a b=>.cons (f _ _ a) b
theorem aw.same {K:Frag} {ρ:List Addr} {H H':Hp} (g:bm H H') {vs:List V} {ds:List W} (h:aw K ρ H vs ds):aw K ρ H' vs ds:=h.mapA λ _ _ a=>a.same g
mutual
noncomputable def W.py:W->Option PyData
 | .none=>some .none
 | .bool b=>some (.bool b)
 | .int i=>some (.int i)
 | .str x=>some (.str x)
 | .list ds=>(W.pys ds).map .list
 | .tuple ds=>(W.pys ds).map .tuple
 | .ref _=>Option.none
noncomputable def W.pys:List W->Option (List PyData)
 | []=>some []
 | d::ds=>(W.py d).bind λ x=>(W.pys ds).map (x::·)
end
theorem Dw.dp {K:Frag} {ρ:List Addr} {H:Hp} {v:V} {d:W} {x:PyData} (h:Dw K ρ H v d):d.py=some x->Dp K H v x:=
 Dw.rec (motive_1:=λ v d _=>∀ x,d.py=some x->Dp K H v x) (motive_2:=λ vs ds _=>∀ xs,W.pys ds=some xs->mm K H vs xs)
  (λ x e=>by cases e;exact .non) (λ b x e=>by cases e;exact .bl b) (λ i x e=>by cases e;exact .int i) (λ y x e=>by cases e;exact .str y)
  (λ q _ ih x e=>by
   obtain ⟨xs,e1,rfl⟩:=oM e
   exact .lst q (ih _ e1))
  (λ q _ ih x e=>by
   obtain ⟨xs,e1,rfl⟩:=oM e
   exact .tup (ez.of q) (ih _ e1))
  (λ _ x e=>by cases e) (λ xs e=>by cases e;exact .nil)
  (λ _ _ ih1 ih2 xs e=>by
   obtain ⟨x,e1,e⟩:=oB e
   obtain ⟨ys,e2,rfl⟩:=oM e
   exact .cons (ih1 _ e1) (ih2 _ e2)) h x
inductive Sl where
 | no
 | val (d:W)
 | own (ds:List W)
noncomputable abbrev DS:=List Sl
noncomputable def va (K:Frag) (ρ:List Addr) (G H:Hp):Sl->Option V->Prop
 | .no,_=>True
 | .val d,o=>∃ v,o=some v/\Dw K ρ G v d
 | .own ds,o=>∃ p vs,o=some (.ref p)/\G p=none/\H p=some (.lst vs)/\aw K ρ G vs ds
noncomputable def nT (H:Hp) (b:Addr):Prop:=H b≠none/\∀ xs,H b≠some (.tup xs)
theorem nT.of {H:Hp} {b:Addr} {o:HO} (h:H b=some o) (n:∀ xs,o≠.tup xs):nT H b:=⟨by rw [h];exact nofun,λ xs z=>n xs (by rw [h] at z;cases z;rfl)⟩
theorem nT.l {H:Hp} {b:Addr} {vs:List V} (h:H b=some (.lst vs)):nT H b:=.of h λ _ z=>by cases z
theorem nT.same {H H':Hp} {b:Addr} (x:nT H b) (s:bm H H'):nT H' b:=by
 cases q:H b with
 | none=>exact absurd q x.1
 | some o=>exact .of (s b o q) λ xs z=>x.2 xs (by rw [q,z])
structure Gr (G H G' H':Hp):Prop where
 g:bm G G'
 h:bm H H'
 s:bm G' H'
 n:∀ b,nT H b->G b=none->G' b=none
theorem qE {H H':Hp} (s:bm H H') {b:Addr} (h:H b≠none):H' b≠none:=λ e=>by
 cases q:H b with
 | none=>exact h q
 | some o=>
  have:=s b o q;rw [e] at this;cases this
theorem cF {G H:Hp} (s:bm G H) {b:Addr} (h:H b=none):G b=none:=by
 cases q:G b with
 | none=>rfl
 | some o=>
  have:=s b o q;rw [h] at this;cases this
theorem Gr.refl {G H:Hp} (s:bm G H):Gr G H G H:=⟨.refl _,.refl _,s,λ _ _ h=>h⟩
theorem Gr.trans {G H G1 H1 G2 H2:Hp} (a:Gr G H G1 H1) (b:Gr G1 H1 G2 H2):Gr G H G2 H2:=
 ⟨a.g.trans b.g,a.h.trans b.h,b.s,λ c h1 h2=>b.n c (h1.same a.h) (a.n c h1 h2)⟩
theorem pL {G H':Hp} {p:Addr} {o:HO} (s:bm G H') (h:H' p=some o):bm (cn G p o) H':=λ b u e=>by
 by_cases hb:b=p
 . subst hb;rw [aH] at e;cases e;exact h
 . rw [aM hb] at e;exact s _ _ e
theorem Gr.new {G H G' H':Hp} {p:Addr} {o:HO} (a:Gr G H G' H') (h0:H p=none) (g0:G' p=none) (h:H' p=some o):Gr G H (cn G' p o) H':=
 ⟨a.g.trans (kN g0 o),a.h,pL a.s h,λ b h1 h2=>by
  rw [aM (λ e=>h1.1 (by rw [e];exact h0))];exact a.n b h1 h2⟩
theorem Gr.nw {G H H':Hp} {p:Addr} {o:HO} (s:bm G H) (n:Nw H H' p o):Gr G H (cn G p o) H':=
 Gr.new ⟨.refl _,n.1,s.trans n.1,λ _ _ h=>h⟩ n.2.1 (cF s n.2.1) n.2.2
theorem Gr.nwO {G H H':Hp} {p:Addr} {o:HO} (s:bm G H) (n:Nw H H' p o):Gr G H G H':=⟨.refl _,n.1,s.trans n.1,λ _ _ h=>h⟩
structure Rl (K:Frag) (ρ:List Addr) (G H:Hp) (δ:DS) (σ:St):Prop where
 sub:bm G H
 len:δ.length=σ.length
 sl:∀ (i:Nat) s,δ[i]?=some s->∃ o,σ[i]?=some o/\va K ρ G H s o
 apart:∀ (i j:Nat) p ds es,δ[i]?=some (.own ds)->δ[j]?=some (.own es)->σ[i]?=some (some (.ref p))->σ[j]?=some (some (.ref p))->i=j
theorem va.grow {K:Frag} {ρ:List Addr} {G H G' H':Hp} (g:Gr G H G' H') {s:Sl} {o:Option V} (h:va K ρ G H s o):va K ρ G' H' s o:=by
 cases s with
 | no=>exact trivial
 | val d=>
  obtain ⟨v,e,h⟩:=h;exact ⟨v,e,h.same g.g⟩
 | own ds=>
  obtain ⟨p,vs,e,h1,h2,h3⟩:=h;exact ⟨p,vs,e,g.n p (.l h2) h1,g.h _ _ h2,h3.same g.g⟩
theorem Rl.grow {K:Frag} {ρ:List Addr} {G H G' H':Hp} {δ:DS} {σ:St} (R:Rl K ρ G H δ σ) (g:Gr G H G' H'):Rl K ρ G' H' δ σ:=
 ⟨g.s,R.len,λ i s e=>by
  obtain ⟨o,h1,h2⟩:=R.sl i s e;exact ⟨o,h1,h2.grow g⟩,R.apart⟩
theorem dM {α:Type} {xs:List α} {i j:Nat} {a b:α} (h:(xs.set i a)[j]?=some b):(i=j/\a=b/\j<xs.length)∨(i≠j/\xs[j]?=some b):=by
 by_cases e:i=j
 . subst e;rw [List.getElem?_set] at h;simp only [if_true] at h;split at h
   . rename_i hl;cases h;exact .inl ⟨rfl,rfl,hl⟩
   . cases h
 . rw [List.getElem?_set_ne e] at h;exact .inr ⟨e,h⟩
theorem jO {α:Type} {xs:List α} {i:Nat} {a:α} (h:i<xs.length):(xs.set i a)[i]?=some a:=by
 rw [List.getElem?_set];simp [h]
noncomputable def fY (δ':DS) (σ':St) (δ:DS) (σ:St):Prop:=∀ (i:Nat) ds p,δ'[i]?=some (.own ds)->σ'[i]?=some (some (.ref p))->∃ es,δ[i]?=some (.own es)/\σ[i]?=some (some (.ref p))
theorem fY.refl (δ:DS) (σ:St):fY δ σ δ σ:=λ i ds p h1 h2=>⟨ds,h1,h2⟩
theorem fY.trans {δ δ1 δ2:DS} {σ σ1 σ2:St} (a:fY δ2 σ2 δ1 σ1) (b:fY δ1 σ1 δ σ):fY δ2 σ2 δ σ:=λ i ds p h1 h2=>by
 obtain ⟨es,h3,h4⟩:=a i ds p h1 h2;exact b i es p h3 h4
theorem jI {δ:DS} {σ:St} {i:Nat} {d:W} {v:V} (h:δ.length=σ.length):fY (δ.set i (.val d)) (σ.set i (some v)) δ σ:=λ j ds p h1 h2=>by
 rcases dM h1 with ⟨_,e,_⟩ | ⟨ne,h1⟩
 . cases e
 . rw [List.getElem?_set_ne ne] at h2;exact ⟨ds,h1,h2⟩
theorem Rl.set {K:Frag} {ρ:List Addr} {G H:Hp} {δ:DS} {σ:St} {i:Nat} {d:W} {v:V} (R:Rl K ρ G H δ σ) (h:Dw K ρ G v d):Rl K ρ G H (δ.set i (.val d)) (σ.set i (some v)):=
 ⟨R.sub,by rw [List.length_set,List.length_set];exact R.len,λ j s e=>by
  rcases dM e with ⟨rfl,rfl,hl⟩ | ⟨ne,e⟩
  . exact ⟨_,jO (by rw [<-R.len];exact hl),v,rfl,h⟩
  . rw [List.getElem?_set_ne ne];exact R.sl j s e,λ j k p ds es h1 h2 h3 h4=>by
  obtain ⟨ds',a1,a2⟩:=jI (v:=v) R.len j ds p h1 h3;obtain ⟨es',b1,b2⟩:=jI (v:=v) R.len k es p h2 h4;exact R.apart j k p _ _ a1 b1 a2 b2⟩
theorem Rl.setO {K:Frag} {ρ:List Addr} {G H:Hp} {δ:DS} {σ:St} {i:Nat} {ds:List W} {p:Addr} {vs:List V} (R:Rl K ρ G H δ σ) (g0:G p=none) (h:H p=some (.lst vs)) (hd:aw K ρ G vs ds)
 (hn:∀ (j:Nat) es,j≠i->δ[j]?=some (.own es)->σ[j]?≠some (some (.ref p))):Rl K ρ G H (δ.set i (.own ds)) (σ.set i (some (.ref p))):=
 ⟨R.sub,by rw [List.length_set,List.length_set];exact R.len,λ j s e=>by
  rcases dM e with ⟨rfl,rfl,hl⟩ | ⟨ne,e⟩
  . exact ⟨_,jO (by rw [<-R.len];exact hl),p,vs,rfl,g0,h,hd⟩
  . rw [List.getElem?_set_ne ne];exact R.sl j s e,λ j k q ds' es' h1 h2 h3 h4=>by
  rcases dM h1 with ⟨rfl,_,hl⟩ | ⟨ne,h1⟩ <;> rcases dM h2 with ⟨rfl,_,hl2⟩ | ⟨ne2,h2⟩
  . rfl
  . rw [jO (by rw [<-R.len];exact hl)] at h3;rw [List.getElem?_set_ne ne2] at h4;cases h3;exact absurd h4 (hn k es' (Ne.symm ne2) h2)
  . rw [jO (by rw [<-R.len];exact hl2)] at h4;rw [List.getElem?_set_ne ne] at h3;cases h4;exact absurd h3 (hn j ds' (Ne.symm ne) h1)
  . rw [List.getElem?_set_ne ne] at h3;rw [List.getElem?_set_ne ne2] at h4;exact R.apart j k q _ _ h1 h2 h3 h4⟩
noncomputable def DE (K:Frag) (ρ:List Addr) (t:TE) (f:DS->Option W):Prop:=
 ∀ (G:Hp) (σ:St) (H:Hp) (δ:DS) (d:W) (Q:VK),Rl K ρ G H δ σ->f δ=some d->(∀ v G' H',Gr G H G' H'->Dw K ρ G' v d->Q v H')->t σ H Q
noncomputable def DA (K:Frag) (ρ:List Addr) (t:TA) (f:DS->Option (List W)):Prop:=
 ∀ (G:Hp) (σ:St) (H:Hp) (δ:DS) (ds:List W) (Q:List V->Hp->Prop),Rl K ρ G H δ σ->f δ=some ds->(∀ vs G' H',Gr G H G' H'->aw K ρ G' vs ds->Q vs H')->t σ H Q
noncomputable def DT (K:Frag) (ρ:List Addr) (t:TT) (f:DS->Option Bool):Prop:=
 ∀ (G:Hp) (σ:St) (H:Hp) (δ:DS) (b:Bool) (Q:Bool->Hp->Prop),Rl K ρ G H δ σ->f δ=some b->(∀ G' H',Gr G H G' H'->Q b H')->t σ H Q
noncomputable def DO (K:Frag) (ρ:List Addr) (t:TE) (f:DS->Option (List W)):Prop:=
 ∀ (G:Hp) (σ:St) (H:Hp) (δ:DS) (ds:List W) (Q:VK),Rl K ρ G H δ σ->f δ=some ds->(∀ p vs G' H',Gr G H G' H'->H p=none->G' p=none->H' p=some (.lst vs)->aw K ρ G' vs ds->Q (.ref p) H')->t σ H Q
noncomputable def Pk (K:Frag) (ρ:List Addr) (G H:Hp) (v:V) (d:W):Prop:=Dw K ρ G v d∨∃ p vs ds,v=.ref p/\d=.list ds/\H p=some (.lst vs)/\aw K ρ G vs ds
noncomputable def DK (K:Frag) (ρ:List Addr) (t:TE) (f:DS->Option W):Prop:=
 ∀ (G:Hp) (σ:St) (H:Hp) (δ:DS) (d:W) (Q:VK),Rl K ρ G H δ σ->f δ=some d->(∀ v G' H',Gr G H G' H'->Pk K ρ G' H' v d->Q v H')->t σ H Q
section
variable {K:Frag} {ρ:List Addr}
theorem Pk.dp {G H:Hp} {v:V} {d:W} (s:bm G H) (h:Pk K ρ G H v d):Dw K ρ H v d:=by
 rcases h with h | ⟨p,vs,ds,rfl,rfl,h1,h2⟩
 . exact h.same s
 . exact .lst (cR.of h1) (h2.same s)
theorem Pk.grow {G H G' H':Hp} {v:V} {d:W} (g:Gr G H G' H') (h:Pk K ρ G H v d):Pk K ρ G' H' v d:=by
 rcases h with h | ⟨p,vs,ds,rfl,rfl,h1,h2⟩
 . exact .inl (h.same g.g)
 . exact .inr ⟨p,vs,ds,rfl,rfl,g.h _ _ h1,h2.same g.g⟩
theorem DE.dk {t:TE} {f:DS->Option W} (h:DE K ρ t f):DK K ρ t f:=λ G σ H δ d Q R e q=>h G σ H δ d Q R e λ v G' H' g dv=>q v G' H' g (.inl dv)
noncomputable def aT (f:DS->Option (List W)):DS->Option W:=λ δ=>(f δ).map .list
theorem DO.de {t:TE} {f:DS->Option (List W)} (h:DO K ρ t f):DE K ρ t (aT f):=λ G σ H δ d Q R e q=>by
 obtain ⟨ds,e1,rfl⟩:=oM e
 exact h G σ H δ ds Q R e1 λ p vs G' H' g h0 g0 hh da=>q _ _ H' (g.new h0 g0 hh) (.lst (cR.of aH) (da.same (kN g0 _)))
noncomputable def ac (i:Nat):DS->Option W:=λ δ=>match δ[i]? with
 | some (.val d)=>some d
 | _=>none
theorem bi {i:Nat}:DE K ρ (uB i) (ac i):=λ G σ H δ d Q R e q=>by
 unfold ac at e;split at e
 . rename_i d' h;cases e;obtain ⟨o,h1,v,h2,h3⟩:=R.sl i _ h;exact ⟨v,by rw [h1,h2],q v G H (.refl R.sub) h3⟩
 . cases e
noncomputable def ak (i:Nat):DS->Option W:=λ δ=>match δ[i]? with
 | some (.val d)=>some d
 | some (.own ds)=>some (.list ds)
 | _=>none
theorem bT {i:Nat}:DK K ρ (uB i) (ak i):=λ G σ H δ d Q R e q=>by
 unfold ak at e;split at e
 . rename_i d' h;cases e;obtain ⟨o,h1,v,h2,h3⟩:=R.sl i _ h;exact ⟨v,by rw [h1,h2],q v G H (.refl R.sub) (.inl h3)⟩
 . rename_i ds h;cases e;obtain ⟨o,h1,p,vs,h2,h3,h4,h5⟩:=R.sl i _ h;exact ⟨.ref p,by rw [h1,h2],q _ G H (.refl R.sub) (.inr ⟨p,vs,ds,rfl,rfl,h4,h5⟩)⟩
 . cases e
noncomputable def dC (d:W):DS->Option W:=λ _=>some d
theorem BN {v:V} {d:W} (h:∀ G,Dw K ρ G v d):DE K ρ (tC v) (dC d):=λ G σ H δ d' Q R e q=>by
 cases e;exact q v G H (.refl R.sub) (h G)
theorem cH {i:Int}:DE K ρ (tC (.int i)) (dC (.int i)):=BN λ _=>.int i
theorem Hf {b:Bool}:DE K ρ (tC (.bl b)) (dC (.bool b)):=BN λ _=>.bl b
theorem eK {x:Str}:DE K ρ (tC (.str x)) (dC (.str x)):=BN λ _=>.str x
theorem FB:DE K ρ (tC .non) (dC .none):=BN λ _=>.non
noncomputable def DR (K:Frag) (ρ:List Addr) (r:R2) (g:W->W->Option W):Prop:=
 ∀ (G H:Hp) (x y:V) (d e c:W) (Q:VK),bm G H->Pk K ρ G H x d->Dw K ρ G y e->g d e=some c->(∀ v G' H',Gr G H G' H'->Dw K ρ G' v c->Q v H')->r x y H Q
noncomputable def ao (g:W->W->Option W) (fa fb:DS->Option W):DS->Option W:=λ δ=>(fa δ).bind λ x=>(fb δ).bind λ y=>g x y
theorem dU {r:R2} {ta tb:TE} {fa fb:DS->Option W} {g:W->W->Option W} (hr:DR K ρ r g) (ha:DK K ρ ta fa) (hb:DE K ρ tb fb):DE K ρ (qp r ta tb) (ao g fa fb):=λ G σ H δ d Q R e q=>by
 obtain ⟨x,ex,e⟩:=oB e
 obtain ⟨y,ey,e⟩:=oB e
 exact ha G σ H δ x _ R ex λ v G1 H1 g1 dv=>hb G1 σ H1 δ y _ (R.grow g1) ey λ u G2 H2 g2 du=>hr G2 H2 v u x y d Q g2.s (dv.grow g2) du e λ w G3 H3 g3 dw=>q w G3 H3 (g1.trans (g2.trans g3)) dw
noncomputable def DB (K:Frag) (ρ:List Addr) (r:R2) (g:W->W->Option Bool):Prop:=
 ∀ (H:Hp) (x y:V) (d e:W) (b:Bool) (Q:VK),Dw K ρ H x d->Dw K ρ H y e->g d e=some b->Q (.bl b) H->r x y H Q
noncomputable def av (g:W->W->Option Bool) (fa fb:DS->Option W):DS->Option Bool:=λ δ=>(fa δ).bind λ x=>(fb δ).bind λ y=>g x y
noncomputable def dB (f:DS->Option Bool):DS->Option W:=λ δ=>(f δ).map .bool
theorem pJ {r:R2} {ta tb:TE} {fa fb:DS->Option W} {g:W->W->Option Bool} (hr:DB K ρ r g) (ha:DK K ρ ta fa) (hb:DK K ρ tb fb) {G:Hp} {σ:St} {H:Hp} {δ:DS} {b:Bool} {Q:VK} (R:Rl K ρ G H δ σ) (e:av g fa fb δ=some b) (q:∀ G' H',Gr G H G' H'->Q (.bl b) H'):qp r ta tb σ H Q:=by
 obtain ⟨x,ex,e⟩:=oB e
 obtain ⟨y,ey,e⟩:=oB e
 exact ha G σ H δ x _ R ex λ v G1 H1 g1 dv=>hb G1 σ H1 δ y _ (R.grow g1) ey λ u G2 H2 g2 du=>hr H2 v u x y b Q ((dv.grow g2).dp g2.s) (du.dp g2.s) e (q G2 H2 (g1.trans g2))
theorem E8 {r:R2} {ta tb:TE} {fa fb:DS->Option W} {g:W->W->Option Bool} (hr:DB K ρ r g) (ha:DK K ρ ta fa) (hb:DK K ρ tb fb):DE K ρ (qp r ta tb) (dB (av g fa fb)):=λ G σ H δ d Q R e q=>by
 obtain ⟨b,e1,rfl⟩:=oM e
 exact pJ hr ha hb R e1 λ G' H' g=>q _ G' H' g (.bl b)
theorem iX {r:R2} {ta tb:TE} {fa fb:DS->Option W} {g:W->W->Option Bool} (hr:DB K ρ r g) (ha:DK K ρ ta fa) (hb:DK K ρ tb fb):DT K ρ (tI (qp r ta tb)) (av g fa fb):=λ G σ H δ b Q R e q=>
 pJ hr ha hb R e λ G' H' g=>⟨b,rfl,q G' H' g⟩
noncomputable def yf:W->Option Bool
 | .bool b=>some b
 | _=>none
noncomputable def xN (f:DS->Option W):DS->Option Bool:=λ δ=>(f δ).bind yf
theorem jT {d:W} {b:Bool} (h:yf d=some b):d=.bool b:=by
 cases d <;> first | (cases h;rfl) | cases h
theorem FP {t:TE} {f:DS->Option W} (h:DE K ρ t f):DT K ρ (tB t) (xN f):=λ G σ H δ b Q R e q=>by
 obtain ⟨x,ex,e⟩:=oB e
 cases jT e;exact h G σ H δ _ _ R ex λ v G1 H1 g1 dv=>by
  cases dv;exact ⟨b,rfl,q G1 H1 g1⟩
noncomputable def um (f g:DS->Option Bool):DS->Option Bool:=λ δ=>(f δ).bind λ b=>if b=true then g δ else some false
noncomputable def pC (f g:DS->Option Bool):DS->Option Bool:=λ δ=>(f δ).bind λ b=>if b=true then some true else g δ
noncomputable def xB (f:DS->Option Bool):DS->Option Bool:=λ δ=>(f δ).map (!·)
theorem yX {t u:TT} {f g:DS->Option Bool} (h1:DT K ρ t f) (h2:DT K ρ u g):DT K ρ (Ip t u) (um f g):=λ G σ H δ b Q R e q=>by
 obtain ⟨x,ex,e⟩:=oB e
 refine h1 G σ H δ x _ R ex λ G1 H1 g1=>?_;cases x with
 | true=>exact h2 G1 σ H1 δ b Q (R.grow g1) e λ G2 H2 g2=>q G2 H2 (g1.trans g2)
 | false=>cases e;exact q G1 H1 g1
theorem IH {t u:TT} {f g:DS->Option Bool} (h1:DT K ρ t f) (h2:DT K ρ u g):DT K ρ (L5 t u) (pC f g):=λ G σ H δ b Q R e q=>by
 obtain ⟨x,ex,e⟩:=oB e
 refine h1 G σ H δ x _ R ex λ G1 H1 g1=>?_;cases x with
 | false=>exact h2 G1 σ H1 δ b Q (R.grow g1) e λ G2 H2 g2=>q G2 H2 (g1.trans g2)
 | true=>cases e;exact q G1 H1 g1
theorem DJ {t:TT} {f:DS->Option Bool} (h:DT K ρ t f):DT K ρ (F0 t) (xB f):=λ G σ H δ b Q R e q=>by
 obtain ⟨x,ex,rfl⟩:=oM e
 exact h G σ H δ x _ R ex q
noncomputable def zM (f g:DS->Option W):DS->Option W:=λ δ=>(f δ).bind λ x=>(yf x).bind λ b=>if b=true then g δ else some (.bool false)
noncomputable def AZ (f g:DS->Option W):DS->Option W:=λ δ=>(f δ).bind λ x=>(yf x).bind λ b=>if b=true then some (.bool true) else g δ
theorem Ev {t u:TE} {f g:DS->Option W} (h1:DE K ρ t f) (h2:DE K ρ u g):DE K ρ (yx t u) (zM f g):=λ G σ H δ d Q R e q=>by
 obtain ⟨x,ex,e⟩:=oB e
 obtain ⟨b,eb,e⟩:=oB e
 cases jT eb;refine h1 G σ H δ _ _ R ex λ v G1 H1 g1 dv=>?_;cases dv;refine ⟨b,rfl,?_⟩;cases b with
 | true=>exact h2 G1 σ H1 δ d Q (R.grow g1) e λ v G2 H2 g2 dv=>q v G2 H2 (g1.trans g2) dv
 | false=>cases e;exact q _ G1 H1 g1 (.bl false)
theorem Ho {t u:TE} {f g:DS->Option W} (h1:DE K ρ t f) (h2:DE K ρ u g):DE K ρ (Hb t u) (AZ f g):=λ G σ H δ d Q R e q=>by
 obtain ⟨x,ex,e⟩:=oB e
 obtain ⟨b,eb,e⟩:=oB e
 cases jT eb;refine h1 G σ H δ _ _ R ex λ v G1 H1 g1 dv=>?_;cases dv;refine ⟨b,rfl,?_⟩;cases b with
 | false=>exact h2 G1 σ H1 δ d Q (R.grow g1) e λ v G2 H2 g2 dv=>q v G2 H2 (g1.trans g2) dv
 | true=>cases e;exact q _ G1 H1 g1 (.bl true)
noncomputable def sZ (f:DS->Option W):DS->Option W:=λ δ=>(f δ).bind λ x=>(yf x).map λ b=>.bool (!b)
theorem Ek {t:TE} {f:DS->Option W} (h:DE K ρ t f):DE K ρ (Dv t) (sZ f):=λ G σ H δ d Q R e q=>by
 obtain ⟨x,ex,e⟩:=oB e
 obtain ⟨b,eb,rfl⟩:=oM e
 cases jT eb;refine h G σ H δ _ _ R ex λ v G1 H1 g1 dv=>?_;cases dv;exact ⟨b,rfl,q _ G1 H1 g1 (.bl _)⟩
noncomputable def D9 (c:DS->Option Bool) (f g:DS->Option W):DS->Option W:=λ δ=>(c δ).bind λ b=>if b=true then f δ else g δ
theorem Hg {tc:TT} {t u:TE} {c:DS->Option Bool} {f g:DS->Option W} (hc:DT K ρ tc c) (h1:DE K ρ t f) (h2:DE K ρ u g):DE K ρ (LD tc t u) (D9 c f g):=λ G σ H δ d Q R e q=>by
 obtain ⟨b,eb,e⟩:=oB e
 refine hc G σ H δ b _ R eb λ G1 H1 g1=>?_;cases b with
 | true=>exact h1 G1 σ H1 δ d Q (R.grow g1) e λ v G2 H2 g2 dv=>q v G2 H2 (g1.trans g2) dv
 | false=>exact h2 G1 σ H1 δ d Q (R.grow g1) e λ v G2 H2 g2 dv=>q v G2 H2 (g1.trans g2) dv
noncomputable def af:DS->Option (List W):=λ _=>some []
noncomputable def aa (f:DS->Option W) (g:DS->Option (List W)):DS->Option (List W):=λ δ=>(f δ).bind λ d=>(g δ).map (d::·)
theorem cG:DA K ρ iH af:=λ G σ H δ ds Q R e q=>by
 cases e;exact q [] G H (.refl R.sub) .nil
theorem aJ {t:TE} {u:TA} {f:DS->Option W} {g:DS->Option (List W)} (h1:DE K ρ t f) (h2:DA K ρ u g):DA K ρ (eC t u) (aa f g):=λ G σ H δ ds Q R e q=>by
 obtain ⟨d,ed,e⟩:=oB e
 obtain ⟨es,ee,rfl⟩:=oM e
 exact h1 G σ H δ d _ R ed λ v G1 H1 g1 dv=>h2 G1 σ H1 δ es _ (R.grow g1) ee λ vs G2 H2 g2 da=>q _ G2 H2 (g1.trans g2) (.cons (dv.same g2.g) da)
theorem aw.length {G:Hp} {vs:List V} {ds:List W} (h:aw K ρ G vs ds):vs.length=ds.length:=h.ind (M:=λ vs ds=>vs.length=ds.length) rfl λ _ _ _ _ _ e=>congrArg (· + 1) e
theorem aw.get {G:Hp} {vs:List V} {ds:List W} {i:Nat} {d:W} (h:aw K ρ G vs ds):ds[i]?=some d->∃ v,vs[i]?=some v/\Dw K ρ G v d:=
 h.ind (M:=λ vs ds=>∀ (i:Nat) d,ds[i]?=some d->∃ v,vs[i]?=some v/\Dw K ρ G v d) (λ _ _ e=>by cases e) (λ v _ _ _ a ih i d e=>by
  cases i with
  | zero=>cases e;exact ⟨v,rfl,a⟩
  | succ i=>exact ih i d e) i d
theorem aw.app {G:Hp} {vs ws:List V} {ds es:List W} (h:aw K ρ G vs ds) (h':aw K ρ G ws es):aw K ρ G (vs++ws) (ds++es):=h.ind (M:=λ vs ds=>aw K ρ G (vs++ws) (ds++es)) h' λ _ _ _ _ a ih=>.cons a ih
theorem aw.drop {G:Hp} {vs:List V} {ds:List W} (n:Nat) (h:aw K ρ G vs ds):aw K ρ G (vs.drop n) (ds.drop n):=by
 induction n generalizing vs ds with
 | zero=>exact h
 | succ n ih=>
  cases h with
  | nil=>exact .nil
  | cons _ t=>exact ih t
theorem aw.take {G:Hp} {vs:List V} {ds:List W} (n:Nat) (h:aw K ρ G vs ds):aw K ρ G (vs.take n) (ds.take n):=by
 induction n generalizing vs ds with
 | zero=>exact .nil
 | succ n ih=>
  cases h with
  | nil=>exact .nil
  | cons a t=>exact .cons a (ih t)
theorem aw.set {G:Hp} {v:V} {d:W} (h:Dw K ρ G v d):∀ {vs:List V} {ds:List W} (n:Nat),aw K ρ G vs ds->aw K ρ G (vs.set n v) (ds.set n d):=λ {vs ds} n q=>by
 induction n generalizing vs ds with
 | zero=>
  cases q with
  | nil=>exact .nil
  | cons _ t=>exact .cons h t
 | succ n ih=>
  cases q with
  | nil=>exact .nil
  | cons a t=>exact .cons a (ih t)
theorem aw.ints {G:Hp}:∀ (ns:List Int),aw K ρ G (ns.map V.int) (ns.map .int)
 | []=>.nil
 | n::r=>.cons (.int n) (aw.ints r)
noncomputable def aF (f:DS->Option (List W)):DS->Option W:=λ δ=>(f δ).bind λ ds=>if ds.length<=sizeLine then some (.tuple ds) else none
theorem ou {t:TA} {f:DS->Option (List W)} (h:DA K ρ t f):DE K ρ (zf t) (aF f):=λ G σ H δ d Q R e q=>by
 obtain ⟨ds,e1,e⟩:=oB e
 split at e
 . rename_i hz;cases e;refine h G σ H δ ds _ R e1 λ vs G1 H1 g1 da=>⟨by rw [da.length];exact hz,λ p H' n=>?_⟩
   have g2:=Gr.nw g1.s n;exact q _ _ H' (g1.trans g2) (.tup aH (da.same g2.g))
 . cases e
noncomputable def bn (f:DS->Option (List W)):DS->Option (List W):=λ δ=>(f δ).bind λ ds=>if ds.length<=sizeLine then some ds else none
theorem jK {t:TA} {f:DS->Option (List W)} (h:DA K ρ t f):DO K ρ (yU t) (bn f):=λ G σ H δ ds Q R e q=>by
 obtain ⟨ds',e1,e⟩:=oB e
 split at e
 . rename_i hz;cases e;refine h G σ H δ _ _ R e1 λ vs G1 H1 g1 da=>⟨by rw [da.length];exact hz,λ p H' n=>?_⟩
   exact q p vs G1 H' (g1.trans (.nwO g1.s n)) (by
    cases hp:H p with
    | none=>rfl
    | some o=>exact absurd (g1.h _ _ hp) (by rw [n.2.1];simp)) (cF g1.s n.2.1) n.2.2 da
 . cases e
end
section
variable {X:Cx} {tg:Expr}
noncomputable def xG (K:Frag) (tl:TE):TI:=λ σ H R=>tl σ H λ x H1=>∃ a,x=.ref a/\(((∃ xs,cR K H1 a xs)/\R (Kv K a) H1)∨((∃ xs,ez K H1 a xs)/\R (KD K a) H1))
theorem DN {l:Expr} {tl:TE} (hl:PE X l tl):PI X tg l (xG X.K tl):=by
 intro pins s σ H R I h;refine cE (hl pins s σ H _ I h) λ v s1 hq0=>?_;obtain ⟨x,H1,I1,r1,q1⟩:=hq0;obtain ⟨a,e,⟨⟨xs,hq⟩,q⟩ | ⟨⟨xs,hq⟩,q⟩⟩:=q1;all_goals
  subst e;cases r1
 . obtain ⟨its,rv,p,hz⟩:=I1.list hq;refine wpAny_pyIter_list p.isList ?_;refine ⟨s1.heap.objs.size,[s1.heap.objs.size],_,_,H1,rfl,I1.kept (t':=s1.toks) λ b o e=>Heap.get?_push_of_some _ e,xr a _,⟨_,Heap.get?_push_size _ rfl,rfl,rfl⟩,λ b hb=>?_,q⟩;have e:b=s1.heap.objs.size:=by simpa using hb
   subst e;exact I1.fpOk (Nat.le_refl _) (I1.hok.fresh (Nat.le_refl _))
 . obtain ⟨its,rv,p,hz⟩:=I1.tuple hq;refine wpAny_pyIter_tuple (show s1.heap.IsTuple a its.toArray from p) ?_;refine ⟨s1.heap.objs.size,[s1.heap.objs.size],_,_,H1,rfl,I1.kept (t':=s1.toks) λ b o e=>Heap.get?_push_of_some _ e,vm a _,⟨_,Heap.get?_push_size _ rfl,rfl,rfl⟩,λ b hb=>?_,q⟩;have e:b=s1.heap.objs.size:=by simpa using hb
   subst e;exact I1.fpOk (Nat.le_refl _) (I1.hok.fresh (Nat.le_refl _))
theorem Jw {K:Frag} (h:X.K=K) {l:Expr} {tl:TE} (hl:PE X l tl):PI X tg l (xG K tl):=h▸DN hl
end
section
variable {K:Frag} {ρ:List Addr}
noncomputable def AB (K:Frag) (ρ:List Addr) (J:It) (ds:List W) (i:Nat) (G1 H1:Hp):Prop:=
 (∀ d,ds[i]?=some d->J.go i H1/\∀ x H',J.yld i H1 x H'->∃ G',Gr G1 H1 G' H'/\Dw K ρ G' x d)/\(ds.length<=i->J.stop i H1)
noncomputable def Li (K:Frag) (ρ:List Addr) (J:It) (G H:Hp) (ds:List W):Prop:=∀ i G1 H1,Gr G H G1 H1->AB K ρ J ds i G1 H1
noncomputable def HG (K:Frag) (ρ:List Addr) (J:It) (G:Hp) (ds:List W):Prop:=∀ i G1 H1,bm G G1->bm G1 H1->AB K ρ J ds i G1 H1
theorem HG.d {J:It} {G H:Hp} {ds:List W} (h:HG K ρ J G ds):Li K ρ J G H ds:=λ i G1 H1 g=>h i G1 H1 g.g g.s
noncomputable def DI (K:Frag) (ρ:List Addr) (wi:TI) (f:DS->Option (List W)):Prop:=
 ∀ (G:Hp) (σ:St) (H:Hp) (δ:DS) (ds:List W) (R':It->Hp->Prop),Rl K ρ G H δ σ->f δ=some ds->(∀ J G' H',Gr G H G' H'->HG K ρ J G' ds->R' J H')->wi σ H R'
noncomputable def Jv (K:Frag) (ρ:List Addr) (wi:TI) (f:DS->Option (List W)):Prop:=
 ∀ (G:Hp) (σ:St) (H:Hp) (δ:DS) (ds:List W) (R':It->Hp->Prop),Rl K ρ G H δ σ->f δ=some ds->(∀ J G' H',Gr G H G' H'->Li K ρ J G' H' ds->R' J H')->wi σ H R'
theorem DI.k {wi:TI} {f:DS->Option (List W)} (h:DI K ρ wi f):Jv K ρ wi f:=λ G σ H δ ds R' R e q=>h G σ H δ ds R' R e λ J G' H' g i=>q J G' H' g i.d
noncomputable def qD:W->Option (List W)
 | .list ds=>some ds
 | .tuple ds=>some ds
 | _=>none
noncomputable def cq (f:DS->Option W):DS->Option (List W):=λ δ=>(f δ).bind qD
theorem oy {G1 H1:Hp} {a:Addr} {xs:List V} {ds:List W} {i:Nat} (s:bm G1 H1) (q:cR K H1 a xs) (da:aw K ρ G1 xs ds):AB K ρ (Kv K a) ds i G1 H1:=by
 refine ⟨λ d hd=>?_,λ h=>⟨xs,q,by rw [da.length];exact h⟩⟩;obtain ⟨v,h1,h2⟩:=da.get hd;refine ⟨⟨xs,v,q,h1⟩,λ x H' y=>?_⟩;obtain ⟨rfl,y⟩:=y;have:=y xs q;rw [h1] at this;cases this;exact ⟨G1,.refl s,h2⟩
theorem uM {G1 H1:Hp} {a:Addr} {xs:List V} {ds:List W} {i:Nat} (s:bm G1 H1) (q:ez K H1 a xs) (da:aw K ρ G1 xs ds):AB K ρ (KD K a) ds i G1 H1:=by
 refine ⟨λ d hd=>?_,λ h=>⟨xs,q,by rw [da.length];exact h⟩⟩;obtain ⟨v,h1,h2⟩:=da.get hd;refine ⟨⟨xs,v,q,h1⟩,λ x H' y=>?_⟩;obtain ⟨rfl,y⟩:=y;have:=y xs q;rw [h1] at this;cases this;exact ⟨G1,.refl s,h2⟩
theorem yC {t:TE} {f:DS->Option W} (h:DE K ρ t f):DI K ρ (xG K t) (cq f):=λ G σ H δ ds R' R e q=>by
 obtain ⟨d,ed,e⟩:=oB e
 refine h G σ H δ d _ R ed λ v G1 H1 g1 dv=>?_;cases dv with
 | lst sq da=>
  cases e;exact ⟨_,rfl,.inl ⟨⟨_,g1.s.seq sq⟩,q _ G1 H1 g1 λ i G2 H2 a b=>oy b ((a.trans b).seq sq) (da.same a)⟩⟩
 | tup sq da=>
  cases e;exact ⟨_,rfl,.inr ⟨⟨_,g1.s.tup (ez.of sq)⟩,q _ G1 H1 g1 λ i G2 H2 a b=>uM b ((a.trans b).tup (ez.of sq)) (da.same a)⟩⟩
 | _=>cases e
theorem AM {t:TE} {f:DS->Option W} (h:DK K ρ t f):Jv K ρ (xG K t) (cq f):=λ G σ H δ ds R' R e q=>by
 obtain ⟨d,ed,e⟩:=oB e
 refine h G σ H δ d _ R ed λ v G1 H1 g1 dv=>?_;rcases dv with dv | ⟨p,vs,es,rfl,rfl,hp,da⟩
 . cases dv with
   | lst sq da=>
    cases e;exact ⟨_,rfl,.inl ⟨⟨_,g1.s.seq sq⟩,q _ G1 H1 g1 λ i G2 H2 g=>oy g.s ((g.g.trans g.s).seq sq) (da.same g.g)⟩⟩
   | tup sq da=>
    cases e;exact ⟨_,rfl,.inr ⟨⟨_,g1.s.tup (ez.of sq)⟩,q _ G1 H1 g1 λ i G2 H2 g=>uM g.s ((g.g.trans g.s).tup (ez.of sq)) (da.same g.g)⟩⟩
   | _=>cases e
 . cases e;exact ⟨p,rfl,.inl ⟨⟨_,cR.of hp⟩,q _ G1 H1 g1 λ i G2 H2 g=>oy g.s (cR.of (g.h _ _ hp)) (da.same g.g)⟩⟩
noncomputable def gf (lo:Int) (n:Nat):List W:=(List.range n).map λ i=>.int (lo+(i:Nat))
theorem Fi {G:Hp} {lo:Int} {n:Nat}:HG K ρ (JH lo n) G (gf lo n):=λ i G1 H1 _ s=>by
 refine ⟨λ d hd=>?_,λ h=>show n<=i by simpa [gf] using h⟩;have hi:i<n:=by
  have:=(oG hd).1;simpa [gf] using this
 refine ⟨hi,λ x H' y=>?_⟩;obtain ⟨rfl,rfl⟩:=y;have:d=.int (lo+i):=by
  unfold gf at hd;rw [List.getElem?_map,List.getElem?_range hi] at hd;cases hd;rfl
 subst this;exact ⟨G1,.refl s,.int _⟩
noncomputable def pi (j:Int):Bool:=decide (-(2^62)<=j)&&decide (j<2^62)
theorem x6 {j:Int} (h:pi j=true) : -(2^62)<=j/\j<2^62:=by
 simp only [pi,Bool.and_eq_true,decide_eq_true_eq] at h;exact h
theorem yt {j:Int} (h1 : -(2^62)<=j) (h2:j<2^62):pi j=true:=by
 simp only [pi,Bool.and_eq_true,decide_eq_true_eq];exact ⟨h1,h2⟩
theorem xW {n:Nat} (h:n<=16777216):pi (n:Int)=true:=yt (by omega) (by omega)
noncomputable def xw (j:Int):Option (List W):=if pi j=true then some (gf 0 j.toNat) else none
noncomputable def Dj:List W->Option (List W)
 | [.int j]=>xw j
 | _=>none
noncomputable def kT (f:DS->Option (List W)):DS->Option (List W):=λ δ=>(f δ).bind Dj
theorem Cf {j:Int} {ds:List W} (h:xw j=some ds):(-(2^62)<=j/\j<2^62)/\ds=gf 0 j.toNat:=by
 unfold xw at h;split at h
 . rename_i hc;cases h;exact ⟨x6 hc,rfl⟩
 . cases h
theorem d7 {G:Hp} {v:V} {i:Int} (h:Dw K ρ G v (.int i)):v=.int i:=by cases h;rfl
theorem uR {G:Hp} {v:V} {i:Str} (h:Dw K ρ G v (.str i)):v=.str i:=by cases h;rfl
theorem yL {G:Hp} {v:V} {i:Bool} (h:Dw K ρ G v (.bool i)):v=.bl i:=by cases h;rfl
theorem uh {G:Hp} {v:V} (h:Dw K ρ G v .none):v=.non:=by cases h;rfl
theorem vc {G:Hp} {vs:List V} {d:W} (h:aw K ρ G vs [d]):∃ v,vs=[v]/\Dw K ρ G v d:=by
 cases h with
 | cons a b=>cases b;exact ⟨_,rfl,a⟩
theorem y6 {ds es:List W} (e:Dj ds=some es):∃ j,ds=[.int j]/\xw j=some es:=by
 cases ds with
 | nil=>cases e
 | cons x r=>
  cases x with
  | int j=>
   cases r with
   | nil=>exact ⟨j,rfl,e⟩
   | cons y r=>cases e
  | _=>cases r <;> cases e
theorem BD {t:TA} {f:DS->Option (List W)} (h:DA K ρ t f):DI K ρ (CH t) (kT f):=λ G σ H δ ds R' R e q=>by
 obtain ⟨es,ed,e⟩:=oB e
 refine h G σ H δ es _ R ed λ vs G1 H1 g1 da=>?_;obtain ⟨j,rfl,e⟩:=y6 e;obtain ⟨hc,rfl⟩:=Cf e;obtain ⟨v,rfl,dv⟩:=vc da;cases d7 dv;exact ⟨_,rfl,hc.1,hc.2,q _ G1 H1 g1 Fi⟩
noncomputable def kS (ds:List W):List W:=(List.range ds.length).map λ (i:Nat)=>.tuple [.int (i:Int),ds[i]?.getD .none]
theorem xI {ds:List W} {i:Nat} {d:W} (h:(kS ds)[i]?=some d):∃ x,ds[i]?=some x/\d=.tuple [.int i,x]:=by
 have hi:i<ds.length:=by
  have:=(oG h).1;simpa [kS] using this
 unfold kS at h;rw [List.getElem?_map,List.getElem?_range hi] at h;cases h;exact ⟨ds[i],List.getElem?_eq_getElem hi,by simp [List.getElem?_eq_getElem hi]⟩
theorem ED {G1 H1:Hp} {a:Addr} {xs:List V} {ds:List W} {i:Nat} (s:bm G1 H1) (q:cR K H1 a xs) (da:aw K ρ G1 xs ds):AB K ρ (JS K a) (kS ds) i G1 H1:=by
 refine ⟨λ d hd=>?_,λ h=>⟨xs,q,by rw [da.length];simpa [kS] using h⟩⟩;obtain ⟨x,hx,rfl⟩:=xI hd;obtain ⟨v,h1,h2⟩:=da.get hx;refine ⟨⟨xs,v,q,h1⟩,λ y H' w=>?_⟩;obtain ⟨p,u,hp,rfl,rfl,w⟩:=w;have:=w xs q;rw [h1] at this;cases this;have n:Nw H1 (cn H1 p (.tup [.int i,v])) p (.tup [.int i,v]):=.of hp;have g:=Gr.nw s n;exact ⟨_,g,.tup aH (.cons (.int i) (.cons (h2.same g.g) .nil))⟩
noncomputable def tM (f:DS->Option (List W)):DS->Option (List W):=λ δ=>(f δ).bind λ ds=>match ds with
 | [.list es]=>some (kS es)
 | _=>none
theorem C3 {t:TA} {f:DS->Option (List W)} (h:DA K ρ t f):DI K ρ (A3 K t) (tM f):=λ G σ H δ ds R' R e q=>by
 obtain ⟨es,ed,e⟩:=oB e
 refine h G σ H δ es _ R ed λ vs G1 H1 g1 da=>?_;split at e
 . cases e;obtain ⟨v,rfl,dv⟩:=vc da;cases dv with
   | lst sq da=>exact ⟨_,rfl,⟨_,g1.s.seq sq⟩,q _ G1 H1 g1 λ i G2 H2 a b=>ED b ((a.trans b).seq sq) (da.same a)⟩
 . cases e
noncomputable def JU (ds es:List W):List W:=List.zipWith (λ x y=>.tuple [x,y]) ds es
noncomputable def KI (f:DS->Option (List W)):DS->Option (List W):=λ δ=>(f δ).bind λ ds=>match ds with
 | [.list a,.list b]=>some (JU a b)
 | _=>none
noncomputable def DG (K:Frag) (ρ:List Addr) (g:TG) (h:W->DS->Option DS):Prop:=
 ∀ (G H:Hp) (δ:DS) (σ:St) (v:V) (d:W) (δ':DS) (Q:St->Hp->Prop),Rl K ρ G H δ σ->Dw K ρ G v d->h d δ=some δ'->(∀ σ',Rl K ρ G H δ' σ'->fY δ' σ' δ σ->Q σ' H)->g v σ H Q
noncomputable def IN (K:Frag) (ρ:List Addr) (g:zI) (h:List W->DS->Option DS):Prop:=
 ∀ (G H:Hp) (δ:DS) (σ:St) (vs:List V) (ds:List W) (δ':DS) (Q:St->Hp->Prop),Rl K ρ G H δ σ->aw K ρ G vs ds->h ds δ=some δ'->(∀ σ',Rl K ρ G H δ' σ'->fY δ' σ' δ σ->Q σ' H)->g vs σ H Q
noncomputable def ae (i:Nat):W->DS->Option DS:=λ d δ=>some (δ.set i (.val d))
theorem mR {i:Nat}:DG K ρ (m8 i) (ae i):=λ G H δ σ v d δ' Q R dv e q=>by
 cases e;exact q _ (R.set dv) (jI R.len)
noncomputable def eZ:List W->DS->Option DS:=λ ds δ=>match ds with
 | []=>some δ
 | _=>none
noncomputable def bc (h:W->DS->Option DS) (k:List W->DS->Option DS):List W->DS->Option DS:=λ ds δ=>match ds with
 | d::r=>(h d δ).bind (k r)
 | _=>none
theorem Cz:IN K ρ IM eZ:=λ G H δ σ vs ds δ' Q R dv e q=>by
 cases dv with
 | nil=>cases e;exact ⟨rfl,q _ R (.refl _ _)⟩
 | cons _ _=>cases e
theorem y1 {g:TG} {u:zI} {h:W->DS->Option DS} {k:List W->DS->Option DS} (h1:DG K ρ g h) (h2:IN K ρ u k):IN K ρ (CK g u) (bc h k):=λ G H δ σ vs ds δ' Q R dv e q=>by
 cases dv with
 | nil=>cases e
 | cons a b=>
  obtain ⟨δ1,e1,e⟩:=oB e
  exact ⟨_,_,rfl,h1 G H δ σ _ _ δ1 _ R a e1 λ σ1 R1 o1=>h2 G H δ1 σ1 _ _ δ' Q R1 b e λ σ2 R2 o2=>q σ2 R2 (o2.trans o1)⟩
noncomputable def eA (n:Nat) (k:List W->DS->Option DS):W->DS->Option DS:=λ d δ=>match d with
 | .tuple ds=>if ds.length=n then k ds δ else none
 | _=>none
theorem EF {n:Nat} {u:zI} {k:List W->DS->Option DS} (h:IN K ρ u k):DG K ρ (Ef K n u) (eA n k):=λ G H δ σ v d δ' Q R dv e q=>by
 cases dv with
 | tup sq da=>
  simp only [eA] at e;split at e
  . rename_i hn;exact ⟨_,_,rfl,R.sub.tup (ez.of sq),by rw [da.length];exact hn,h G H δ σ _ _ δ' Q R da e q⟩
  . cases e
 | _=>cases e
noncomputable def oI (δ:DS):Option Nat->Sl
 | none=>.no
 | some i=>δ[i]?.getD .no
noncomputable def Jl (σ:St):Option Nat->Option V
 | none=>none
 | some i=>match σ[i]? with
  | some v=>v
  | none=>none
noncomputable def bI (ix:List (Option Nat)) (δ:DS):DS:=ix.map (oI δ)
theorem nL {ix:List (Option Nat)} {σ:St} {j:Nat} {o:Option Nat} (h:ix[j]?=some o):(lift ix σ)[j]?=some (Jl σ o):=by
 unfold lift;rw [List.getElem?_map,h];cases o <;> rfl
theorem lR {ix:List (Option Nat)} {δ:DS} {j:Nat} {s:Sl} (h:(bI ix δ)[j]?=some s):∃ o,ix[j]?=some o/\s=oI δ o:=by
 unfold bI at h;rw [List.getElem?_map] at h;obtain ⟨o,h1,h2⟩:=oM h
 exact ⟨o,h1,h2.symm⟩
noncomputable def xT (ix:List (Option Nat)):Bool:=decide ((ix.filterMap id).Nodup)
theorem DW {ix:List (Option Nat)} (h:(ix.filterMap id).Nodup):∀ {i j k:Nat},ix[i]?=some (some k)->ix[j]?=some (some k)->i=j:=by
 induction ix with
 | nil=>intro i j k h1;simp at h1
 | cons o r ih=>
  intro i j k h1 h2;have hr:(r.filterMap id).Nodup:=by
   cases o with
   | none=>simpa using h
   | some a=>
    have h':(a::r.filterMap id).Nodup:=h;exact (List.nodup_cons.mp h').2
  have hm:∀ m,r[m]?=some (some k)->k∈r.filterMap id:=λ m hm=>List.mem_filterMap.mpr ⟨some k,List.mem_of_getElem? hm,rfl⟩;cases i with
  | zero=>
   cases j with
   | zero=>rfl
   | succ j=>
    simp at h1 h2;subst h1;have h':(k::r.filterMap id).Nodup:=h;exact absurd (hm j h2) (List.nodup_cons.mp h').1
  | succ i=>
   cases j with
   | zero=>
    simp at h1 h2;subst h2;have h':(k::r.filterMap id).Nodup:=h;exact absurd (hm i h1) (List.nodup_cons.mp h').1
   | succ j=>
    simp at h1 h2;rw [ih hr h1 h2]
theorem Rl.lift {G H:Hp} {δ:DS} {σ:St} {ix:List (Option Nat)} (hx:xT ix=true) (R:Rl K ρ G H δ σ):Rl K ρ G H (bI ix δ) (lift ix σ):=by
 have hx':(ix.filterMap id).Nodup:=by simpa [xT] using hx
 have own:∀ {j:Nat} {ds:List W},(bI ix δ)[j]?=some (.own ds)->∃ i,ix[j]?=some (some i)/\δ[i]?=some (.own ds):=λ {j ds} h=>by
  obtain ⟨o,h1,h2⟩:=lR h;cases o with
  | none=>cases h2
  | some i=>
   refine ⟨i,h1,?_⟩;cases e:δ[i]? with
   | none=>simp [oI,e] at h2
   | some s=>simp [oI,e] at h2;rw [h2]
 have at':∀ {j i:Nat} {v:V},ix[j]?=some (some i)->(L2.lift ix σ)[j]?=some (some v)->σ[i]?=some (some v):=λ {j i v} h1 h2=>by
  rw [nL h1] at h2;simp only [Jl] at h2;split at h2
  . rename_i w e;rw [e];simpa using h2
  . cases h2
 refine ⟨R.sub,by simp [bI,L2.lift],λ j s h=>?_,λ j k p ds es h1 h2 h3 h4=>?_⟩
 . obtain ⟨o,h1,rfl⟩:=lR h;refine ⟨_,nL h1,?_⟩;cases o with
   | none=>trivial
   | some i=>
    cases e:δ[i]? with
    | none=>simp only [oI,e,Option.getD_none];trivial
    | some s=>
     obtain ⟨o,k1,k2⟩:=R.sl i s e;simp only [oI,Jl,e,k1,Option.getD_some];exact k2
 . obtain ⟨i1,a1,a2⟩:=own h1;obtain ⟨i2,b1,b2⟩:=own h2;have:=R.apart i1 i2 p ds es a2 b2 (at' a1 h3) (at' b1 h4);subst this;exact DW hx' a1 b1
noncomputable def jv:DS->Option Bool:=λ _=>some true
theorem F4:DT K ρ II jv:=λ G σ H δ b Q R e q=>by
 cases e;exact q G H (.refl R.sub)
noncomputable def b0 (h:W->DS->Option DS) (c:DS->Option Bool) (fe:DS->Option W) (δ:DS):List W->Option (List W)
 | []=>some []
 | d::ds=>(h d δ).bind λ δ2=>(c δ2).bind λ b=>if b=true then (fe δ2).bind λ e=>(b0 h c fe δ ds).map (e::·) else b0 h c fe δ ds
noncomputable def gx (ix:List (Option Nat)) (fi:DS->Option (List W)) (h:W->DS->Option DS) (c:DS->Option Bool) (fe:DS->Option W):DS->Option (List W):=λ δ=>
 (fi δ).bind λ ds=>if ds.length<=sizeLine then b0 h c fe (bI ix δ) ds else none
theorem BL {ix:List (Option Nat)} {wi:TI} {g:TG} {tc:TT} {te:TE} {fi:DS->Option (List W)} {h:W->DS->Option DS} {c:DS->Option Bool} {fe:DS->Option W}
 (hx:xT ix=true) (hi:Jv K ρ wi fi) (hg:DG K ρ g h) (hc:DT K ρ tc c) (he:DE K ρ te fe):DO K ρ (nJ ix wi g tc te) (gx ix fi h c fe):=λ G σ H δ es Q R e q=>by
 obtain ⟨ds,ed,e⟩:=oB e
 split at e
 case isFalse=>cases e
 rename_i hz;refine hi G σ H δ ds _ R ed λ J G1 H1 g1 it=>?_;refine ⟨λ i m ys H2=>m=ds.length-i/\i<=ds.length/\ys.length<=i/\∃ G2 as bs,Gr G1 H1 G2 H2/\aw K ρ G2 ys as/\b0 h c fe (bI ix δ) (ds.drop i)=some bs/\as++bs=es,⟨ds.length,by simp,Nat.zero_le _,Nat.le_refl _,G1,[],es,.refl g1.s,.nil,by simpa using e,rfl⟩,?_⟩;rintro i m ys H2 ⟨rfl,hil,hyl,G2,as,bs,g2,da,eb,rfl⟩;have ia:=it i G2 H2 g2;by_cases hlt:i<ds.length
 . refine .inr ?_;obtain ⟨go,step⟩:=ia.1 ds[i] (List.getElem?_eq_getElem hlt);rw [List.drop_eq_getElem_cons hlt] at eb;obtain ⟨δ2,e2,eb⟩:=oB eb
   obtain ⟨b,e3,eb⟩:=oB eb
   refine ⟨go,by omega,λ ys' H'=>ys'.length<=i+1/\∃ G2 as' bs',Gr G1 H1 G2 H'/\aw K ρ G2 ys' as'/\b0 h c fe (bI ix δ) (ds.drop (i+1))=some bs'/\as'++bs'=as++bs,λ ys' H' hy0=>by obtain ⟨l,z⟩:=hy0;exact ⟨ds.length-(i+1),by omega,rfl,hlt,l,z⟩,λ x H' y=>?_⟩;obtain ⟨G3,g3,dx⟩:=step x H' y;have R3:=((R.grow g1).grow g2).grow g3;refine hg G3 H' (bI ix δ) _ x _ δ2 _ (R3.lift hx) dx e2 λ σ2 R4 _=>?_;refine hc G3 σ2 H' δ2 b _ R4 e3 λ G5 H5 g5=>?_;have g25:=g2.trans (g3.trans g5);have da5:=da.same (g3.trans g5).g;cases b with
   | false=>exact ⟨by omega,G5,as,bs,g25,da5,eb,rfl⟩
   | true=>
    obtain ⟨ev,e6,eb⟩:=oB eb
    obtain ⟨bs',e7,rfl⟩:=oM eb
    refine he G5 σ2 H5 δ2 ev _ (R4.grow g5) e6 λ v G6 H6 g6 dv=>?_;exact ⟨by simp;omega,G6,as++[ev],bs',g25.trans g6,(da5.same g6.g).app (.cons dv .nil),e7,by simp⟩
 . have hi':i=ds.length:=by omega
   subst hi';refine .inl ⟨ia.2 (Nat.le_refl _),by omega,λ p hp=>?_⟩;rw [List.drop_length] at eb;cases eb;rw [List.append_nil] at q;have n:Nw H2 (cn H2 p (.lst ys)) p (.lst ys):=.of hp;exact q p ys G2 _ (g1.trans (g2.trans (.nwO g2.s n))) (cF (g1.trans g2).h hp) (cF g2.s hp) aH da
inductive dm where
 | nx (δ:DS)
 | bk (δ:DS)
 | ct (δ:DS)
 | rt (d:W)
structure Iv (K:Frag) (ρ:List Addr) (G0 H0 G H:Hp) (δ:DS) (σ:St):Prop where
 rl:Rl K ρ G H δ σ
 gr:Gr G0 H0 G H
 ow:∀ (i:Nat) p ds,δ[i]?=some (.own ds)->σ[i]?=some (some (.ref p))->H0 p=none
noncomputable def Ms (K:Frag) (ρ:List Addr) (G0 H0:Hp) (D:jx):dm->Prop
 | .nx δ=>∀ σ G H,Iv K ρ G0 H0 G H δ σ->D.nx σ H
 | .bk δ=>∀ σ G H,Iv K ρ G0 H0 G H δ σ->D.bk σ H
 | .ct δ=>∀ σ G H,Iv K ρ G0 H0 G H δ σ->D.ct σ H
 | .rt d=>∀ v G H,Gr G0 H0 G H->Dw K ρ G v d->D.rt v H
noncomputable def mT (K:Frag) (ρ:List Addr) (t:TS) (f:DS->Option dm):Prop:=
 ∀ (G0 H0 G:Hp) (σ:St) (H:Hp) (δ:DS) (o:dm) (D:jx),Iv K ρ G0 H0 G H δ σ->f δ=some o->Ms K ρ G0 H0 D o->t D σ H
theorem Iv.grow {G0 H0 G H G' H':Hp} {δ:DS} {σ:St} (I:Iv K ρ G0 H0 G H δ σ) (g:Gr G H G' H'):Iv K ρ G0 H0 G' H' δ σ:=⟨I.rl.grow g,I.gr.trans g,I.ow⟩
theorem Iv.sub {G0 H0 G H:Hp} {δ δ':DS} {σ σ':St} (I:Iv K ρ G0 H0 G H δ σ) (R:Rl K ρ G H δ' σ') (o:fY δ' σ' δ σ):Iv K ρ G0 H0 G H δ' σ':=⟨R,I.gr,λ i p ds h1 h2=>by
 obtain ⟨es,h3,h4⟩:=o i ds p h1 h2;exact I.ow i p es h3 h4⟩
theorem Iv.base {G0 H0 G H:Hp} {δ:DS} {σ:St} (I:Iv K ρ G0 H0 G H δ σ):Iv K ρ G H0 G H δ σ:=⟨I.rl,⟨.refl _,I.gr.h,I.gr.s,λ _ _ h=>h⟩,I.ow⟩
theorem Gr.rebase {G0 H0 G H G' H':Hp} (a:Gr G0 H0 G H) (b:Gr G H0 G' H'):Gr G0 H0 G' H':=⟨a.g.trans b.g,b.h,b.s,λ c h1 h2=>b.n c h1 (a.n c h1 h2)⟩
theorem Iv.rebase {G0 H0 G H G' H':Hp} {δ:DS} {σ:St} (a:Gr G0 H0 G H) (I:Iv K ρ G H0 G' H' δ σ):Iv K ρ G0 H0 G' H' δ σ:=⟨I.rl,a.rebase I.gr,I.ow⟩
noncomputable def aC:DS->Option dm:=λ δ=>some (.nx δ)
theorem ka:mT K ρ CN aC:=λ G0 H0 G σ H δ o D I e p=>by
 cases e;exact p σ G H I
noncomputable def aq (f g:DS->Option dm):DS->Option dm:=λ δ=>match f δ with
 | some (.nx δ')=>g δ'
 | o=>o
theorem ie {t u:TS} {f g:DS->Option dm} (h1:mT K ρ t f) (h2:mT K ρ u g):mT K ρ (EE t u) (aq f g):=λ G0 H0 G σ H δ o D I e p=>by
 unfold aq at e;cases ef:f δ with
 | none=>rw [ef] at e;cases e
 | some o1=>
  rw [ef] at e;refine h1 G0 H0 G σ H δ o1 _ I ef ?_;cases o1 with
  | nx δ'=>exact λ σ' G' H' I'=>h2 G0 H0 G' σ' H' δ' o D I' e p
  | bk δ'=>cases e;exact p
  | ct δ'=>cases e;exact p
  | rt d=>cases e;exact p
noncomputable def bP (c:DS->Option Bool) (f g:DS->Option dm):DS->Option dm:=λ δ=>(c δ).bind λ b=>if b=true then f δ else g δ
theorem pH {tc:TT} {t u:TS} {c:DS->Option Bool} {f g:DS->Option dm} (hc:DT K ρ tc c) (h1:mT K ρ t f) (h2:mT K ρ u g):mT K ρ (Gg tc t u) (bP c f g):=λ G0 H0 G σ H δ o D I e p=>by
 obtain ⟨b,eb,e⟩:=oB e
 refine hc G σ H δ b _ I.rl eb λ G1 H1 g1=>?_;cases b with
 | true=>exact h1 G0 H0 G1 σ H1 δ o D (I.grow g1) e p
 | false=>exact h2 G0 H0 G1 σ H1 δ o D (I.grow g1) e p
noncomputable def aP (f:DS->Option W):DS->Option dm:=λ δ=>(f δ).map .rt
theorem iS {t:TE} {f:DS->Option W} (h:DE K ρ t f):mT K ρ (F5 t) (aP f):=λ G0 H0 G σ H δ o D I e p=>by
 obtain ⟨d,ed,rfl⟩:=oM e
 exact h G σ H δ d _ I.rl ed λ v G1 H1 g1 dv=>p v G1 H1 (I.gr.trans g1) dv
noncomputable def Gj:DS->Option dm:=λ _=>some (.rt .none)
noncomputable def qk:DS->Option dm:=λ δ=>some (.ct δ)
theorem sX:mT K ρ Dy qk:=λ G0 H0 G σ H δ o D I e p=>by
 cases e;exact p σ G H I
noncomputable def aB (f:DS->Option W) (h:W->DS->Option DS):DS->Option dm:=λ δ=>(f δ).bind λ d=>(h d δ).map .nx
theorem rB {t:TE} {g:TG} {f:DS->Option W} {h:W->DS->Option DS} (h1:DE K ρ t f) (h2:DG K ρ g h):mT K ρ (oZ t g) (aB f h):=λ G0 H0 G σ H δ o D I e p=>by
 obtain ⟨d,ed,e⟩:=oB e
 obtain ⟨δ',e2,rfl⟩:=oM e
 exact h1 G σ H δ d _ I.rl ed λ v G1 H1 g1 dv=>h2 G1 H1 δ σ v d δ' _ (I.rl.grow g1) dv e2 λ σ' R o=>p σ' G1 H1 ((I.grow g1).sub R o)
noncomputable def mE (i:Nat) (f:DS->Option (List W)):DS->Option dm:=λ δ=>(f δ).map λ ds=>.nx (δ.set i (.own ds))
theorem uW {i:Nat} {t:TE} {f:DS->Option (List W)} (h:DO K ρ t f):mT K ρ (oZ t (m8 i)) (mE i f):=λ G0 H0 G σ H δ o D I e p=>by
 obtain ⟨ds,ed,rfl⟩:=oM e
 refine h G σ H δ ds _ I.rl ed λ q vs G1 H1 g1 h0 g0 hh da=>?_;have I1:=I.grow g1;refine p _ G1 H1 ⟨I1.rl.setO g0 hh da λ j es hj h1 h2=>?_,I1.gr,λ j q' ds' h1 h2=>?_⟩
 . obtain ⟨o,k1,q1,vs1,k2,k3,k4,_⟩:=I.rl.sl j _ h1;rw [h2] at k1;cases k1;cases k2;rw [h0] at k4;cases k4
 . rcases dM h1 with ⟨rfl,_,hl⟩ | ⟨ne,h1⟩
   . rw [jO (by rw [<-I.rl.len];exact hl)] at h2;cases h2;exact cF I.gr.h h0
   . rw [List.getElem?_set_ne ne] at h2;exact I.ow j q' _ h1 h2
noncomputable def frz (i:Nat) (δ:DS):DS:=match δ[i]? with
 | some (.own ds)=>δ.set i (.val (.list ds))
 | _=>δ
noncomputable def mj (i:Nat) (f:DS->Option dm):DS->Option dm:=λ δ=>f (frz i δ)
theorem Iv.frz {G0 H0 G H:Hp} {δ:DS} {σ:St} (i:Nat) (I:Iv K ρ G0 H0 G H δ σ):∃ G',Iv K ρ G0 H0 G' H (L2.frz i δ) σ:=by
 unfold L2.frz;split
 . rename_i ds h;obtain ⟨o,h1,p,vs,rfl,h3,h4,h5⟩:=I.rl.sl i _ h;have h0:=I.ow i p ds h h1;have g:bm G (cn G p (.lst vs)):=kN h3 _;have set1:σ=σ.set i (some (.ref p)):=by
    apply List.ext_getElem?;intro j;by_cases e:i=j
    . subst e;rw [jO (oG h1).1,h1]
    . rw [List.getElem?_set_ne e]
   refine ⟨cn G p (.lst vs),⟨⟨pL I.gr.s h4,by rw [List.length_set];exact I.rl.len,λ j s e=>?_,λ j k q ds' es' k1 k2 k3 k4=>?_⟩,I.gr.new h0 h3 h4,λ j q ds' k1 k2=>?_⟩⟩
   . rcases dM e with ⟨rfl,rfl,hl⟩ | ⟨ne,e⟩
     . exact ⟨_,h1,.ref p,rfl,.lst (cR.of aH) (h5.same g)⟩
     . obtain ⟨o,k1,k2⟩:=I.rl.sl j s e;refine ⟨o,k1,?_⟩;cases s with
       | no=>trivial
       | val d=>
        obtain ⟨v,e1,e2⟩:=k2;exact ⟨v,e1,e2.same g⟩
       | own es=>
        obtain ⟨q,ws,rfl,e2,e3,e4⟩:=k2;refine ⟨q,ws,rfl,?_,e3,e4.same g⟩;rw [aM]
        . exact e2
        . rintro rfl;exact ne (I.rl.apart i j q ds es h e h1 k1)
   all_goals
    rcases dM k1 with ⟨_,z,_⟩ | ⟨ne,k1⟩
    . cases z
   . rcases dM k2 with ⟨_,z,_⟩ | ⟨ne2,k2⟩
     . cases z
     . exact I.rl.apart j k q ds' es' k1 k2 k3 k4
   . exact I.ow j q ds' k1 k2
 . exact ⟨G,I⟩
theorem vk {i:Nat} {t:TS} {f:DS->Option dm} (h:mT K ρ t f):mT K ρ t (mj i f):=λ G0 H0 G σ H δ o D I e p=>by
 obtain ⟨G',I'⟩:=I.frz i;exact h G0 H0 G' σ H _ o D I' e p
noncomputable def be (h:W->DS->Option DS) (fb:DS->Option dm):List W->DS->Option dm
 | [],δ=>some (.nx δ)
 | d::ds,δ=>(h d δ).bind λ δ2=>match fb δ2 with
  | some (.nx δ')=>be h fb ds δ'
  | some (.ct δ')=>be h fb ds δ'
  | some (.bk δ')=>some (.nx δ')
  | some (.rt d)=>some (.rt d)
  | none=>none
noncomputable def g9 (fi:DS->Option (List W)) (h:W->DS->Option DS) (fb:DS->Option dm):DS->Option dm:=λ δ=>(fi δ).bind λ ds=>be h fb ds δ
theorem ve {wi:TI} {g:TG} {tb:TS} {fi:DS->Option (List W)} {h:W->DS->Option DS} {fb:DS->Option dm} (hi:DI K ρ wi fi) (hg:DG K ρ g h) (hb:mT K ρ tb fb):mT K ρ (Ea wi g tb) (g9 fi h fb):=λ G0 H0 G σ H δ o D I e p=>by
 obtain ⟨ds,ed,e⟩:=oB e
 refine hi G σ H δ ds _ I.rl ed λ J G1 H1 g1 it=>?_;refine ⟨λ i m σ H=>m=ds.length-i/\i<=ds.length/\∃ G δ,Iv K ρ G0 H0 G H δ σ/\bm G1 G/\be h fb (ds.drop i) δ=some o,⟨ds.length,by simp,Nat.zero_le _,G1,δ,I.grow g1,.refl _,by simpa using e⟩,?_⟩;rintro i m σ2 H2 ⟨rfl,hil,G2,δ2,I2,s2,e2⟩;have ia:=it i G2 H2 s2 I2.gr.s;by_cases hlt:i<ds.length
 . refine .inr ?_;obtain ⟨go,step⟩:=ia.1 ds[i] (List.getElem?_eq_getElem hlt);rw [List.drop_eq_getElem_cons hlt] at e2;obtain ⟨δ3,e3,e4⟩:=oB e2
   have back:∀ {G3 H3:Hp},Gr G2 H2 G3 H3->∀ {G4 H4:Hp} {σ4:St} {δ4:DS},Iv K ρ G3 H0 G4 H4 δ4 σ4->Iv K ρ G0 H0 G4 H4 δ4 σ4/\bm G1 G4:=λ {G3 H3} g3 {G4 H4 σ4 δ4} I4=>⟨I4.rebase (I2.gr.trans g3),s2.trans (g3.g.trans I4.gr.g)⟩
   have again:∀ (δ':DS),be h fb (ds.drop (i+1)) δ'=some o->(fb δ3=some (.nx δ')∨fb δ3=some (.ct δ'))->∃ N:St->Hp->Prop,(∀ σ' H',N σ' H'->∃ m',m'<ds.length-i/\m'=ds.length-(i+1)/\i+1<=ds.length/\∃ G δ,Iv K ρ G0 H0 G H' δ σ'/\bm G1 G/\be h fb (ds.drop (i+1)) δ=some o)/\∀ x H',J.yld i H2 x H'->g x σ2 H' λ σ2 H2=>tb { D with nx:=N,ct:=N,bk:=D.nx } σ2 H2:=λ δ' ed' ef=>by
    refine ⟨λ σ' H'=>∃ G',Iv K ρ G0 H0 G' H' δ' σ'/\bm G1 G',λ σ' H' hy0=>by obtain ⟨G',I',s'⟩:=hy0;exact ⟨ds.length-(i+1),by omega,rfl,hlt,G',δ',I',s',ed'⟩,λ x H' y=>?_⟩;obtain ⟨G3,g3,dx⟩:=step x H' y;have I3:=I2.grow g3;refine hg G3 H' δ2 σ2 x _ δ3 _ I3.rl dx e3 λ σ3 R3 o3=>?_;have I4:=(I3.sub R3 o3).base;rcases ef with ef | ef
    . exact hb G3 H0 G3 σ3 H' δ3 _ _ I4 ef λ σ5 G5 H5 I5=>⟨G5,back g3 I5⟩
    . exact hb G3 H0 G3 σ3 H' δ3 _ _ I4 ef λ σ5 G5 H5 I5=>⟨G5,back g3 I5⟩
   cases ef:fb δ3 with
   | none=>rw [ef] at e4;cases e4
   | some o1=>
    rw [ef] at e4;cases o1 with
    | nx δ'=>
     obtain ⟨N,n1,n2⟩:=again δ' e4 (.inl ef);exact ⟨go,N,n1,n2⟩
    | ct δ'=>
     obtain ⟨N,n1,n2⟩:=again δ' e4 (.inr ef);exact ⟨go,N,n1,n2⟩
    | bk δ'=>
     cases e4;refine ⟨go,λ _ _=>False,λ _ _ z=>z.elim,λ x H' y=>?_⟩;obtain ⟨G3,g3,dx⟩:=step x H' y;have I3:=I2.grow g3;refine hg G3 H' δ2 σ2 x _ δ3 _ I3.rl dx e3 λ σ3 R3 o3=>?_;exact hb G3 H0 G3 σ3 H' δ3 _ _ (I3.sub R3 o3).base ef λ σ5 G5 H5 I5=>p σ5 G5 H5 (back g3 I5).1
    | rt d=>
     cases e4;refine ⟨go,λ _ _=>False,λ _ _ z=>z.elim,λ x H' y=>?_⟩;obtain ⟨G3,g3,dx⟩:=step x H' y;have I3:=I2.grow g3;refine hg G3 H' δ2 σ2 x _ δ3 _ I3.rl dx e3 λ σ3 R3 o3=>?_;exact hb G3 H0 G3 σ3 H' δ3 _ _ (I3.sub R3 o3).base ef λ v G5 H5 g5 dv=>p v G5 H5 ((I2.gr.trans g3).rebase g5) dv
 . have hi':i=ds.length:=by omega
   subst hi';rw [List.drop_length] at e2;cases e2;exact .inl ⟨ia.2 (Nat.le_refl _),p σ2 G2 H2 I2⟩
noncomputable def kB (i:Nat) (δ:DS):Option (List W):=match δ[i]? with
 | some (.own ds)=>some ds
 | _=>none
theorem kJ {i:Nat} {δ:DS} {ds:List W} (h:kB i δ=some ds):δ[i]?=some (.own ds):=by
 unfold kB at h;split at h
 . rename_i e;cases h;exact e
 . cases h
theorem Iv.put {G0 H0 G H:Hp} {δ:DS} {σ:St} {i:Nat} {ds es:List W} {p:Addr} {vs:List V} (I:Iv K ρ G0 H0 G H δ σ) (h:δ[i]?=some (.own ds)) (hp:σ[i]?=some (some (.ref p))) (g0:G p=none) (da:aw K ρ G vs es):Iv K ρ G0 H0 G (cn H p (.lst vs)) (δ.set i (.own es)) σ:=by
 have h0:=I.ow i p ds h hp;have sG:bm G (cn H p (.lst vs)):=λ b o e=>by
  rw [aM (λ z=>by rw [z,g0] at e;cases e)];exact I.gr.s _ _ e
 refine ⟨⟨sG,by rw [List.length_set];exact I.rl.len,λ j s e=>?_,λ j k q ds' es' k1 k2 k3 k4=>?_⟩,⟨I.gr.g,λ b o e=>?_,sG,I.gr.n⟩,λ j q ds' k1 k2=>?_⟩
 . rcases dM e with ⟨rfl,rfl,hl⟩ | ⟨ne,e⟩
   . exact ⟨_,hp,p,vs,rfl,g0,aH,da⟩
   . obtain ⟨o,k1,k2⟩:=I.rl.sl j s e;refine ⟨o,k1,?_⟩;cases s with
     | no=>trivial
     | val d=>exact k2
     | own es2=>
      obtain ⟨q,ws,rfl,e2,e3,e4⟩:=k2;refine ⟨q,ws,rfl,e2,?_,e4⟩;rw [aM]
      . exact e3
      . rintro rfl;exact ne (I.rl.apart i j q ds es2 h e hp k1)
 . rcases dM k1 with ⟨rfl,_,_⟩ | ⟨ne,k1⟩ <;> rcases dM k2 with ⟨rfl,_,_⟩ | ⟨ne2,k2⟩
   . rfl
   . exact I.rl.apart _ _ q _ _ h k2 k3 k4
   . exact I.rl.apart _ _ q _ _ k1 h k3 k4
   . exact I.rl.apart _ _ q _ _ k1 k2 k3 k4
 . rw [aM (λ z=>by rw [z,h0] at e;cases e)];exact I.gr.h _ _ e
 . rcases dM k1 with ⟨rfl,_,_⟩ | ⟨ne,k1⟩
   . exact I.ow _ q _ h k2
   . exact I.ow j q _ k1 k2
noncomputable def d8 (i:Nat) (f:DS->Option W):DS->Option dm:=λ δ=>(kB i δ).bind λ ds=>(f δ).bind λ d=>if ds.length<sizeLine then some (.nx (δ.set i (.own (ds++[d])))) else none
theorem pO {i:Nat} {t:TE} {f:DS->Option W} (h:DE K ρ t f):mT K ρ (pZ (EH K "list" mV (uB i) (eC t iH))) (d8 i f):=λ G0 H0 G σ H δ o D I e p=>by
 obtain ⟨ds,eo,e⟩:=oB e
 obtain ⟨d,ed,e⟩:=oB e
 split at e
 case isFalse=>cases e
 rename_i hz;cases e;have ho:=kJ eo;obtain ⟨o,h1,q,vs,rfl,h3,h4,h5⟩:=I.rl.sl i _ ho;refine ⟨.ref q,h1,.inl ⟨rfl,vs,cR.of h4⟩,h G σ H δ d _ I.rl ed λ v G1 H1 g1 dv=>⟨q,vs,v,rfl,rfl,g1.h _ _ h4,by rw [h5.length];exact hz,?_⟩⟩;have I1:=I.grow g1;exact p σ G1 _ (I1.put ho h1 (g1.n q (.l h4) h3) ((h5.same g1.g).app (.cons dv .nil)))
noncomputable def ny (i:Nat) (f:DS->Option (List W)):DS->Option dm:=λ δ=>(kB i δ).bind λ ds=>(f δ).bind λ es=>if ds.length+es.length<=sizeLine then some (.nx (δ.set i (.own (ds++es)))) else none
theorem qi {i:Nat} {t:TE} {f:DS->Option (List W)} (h:DO K ρ t f):mT K ρ (pZ (EH K "list" qQ (uB i) (eC t iH))) (ny i f):=λ G0 H0 G σ H δ o D I e p=>by
 obtain ⟨ds,eo,e⟩:=oB e
 obtain ⟨es,ed,e⟩:=oB e
 split at e
 case isFalse=>cases e
 rename_i hz;cases e;have ho:=kJ eo;obtain ⟨o,h1,q,vs,rfl,h3,h4,h5⟩:=I.rl.sl i _ ho;refine ⟨.ref q,h1,.inl ⟨rfl,vs,cR.of h4⟩,h G σ H δ es _ I.rl ed λ r ws G1 H1 g1 r0 gr0 hr da=>⟨q,r,vs,ws,rfl,rfl,g1.h _ _ h4,hr,by rw [h5.length,da.length];exact hz,?_⟩⟩;have I1:=I.grow g1;exact p σ G1 _ (I1.put ho h1 (g1.n q (.l h4) h3) ((h5.same g1.g).app da))
noncomputable def rh (i:Nat) (fi fv:DS->Option W):DS->Option dm:=λ δ=>(fv δ).bind λ d=>(kB i δ).bind λ ds=>(fi δ).bind λ x=>match x with
 | .int k=>(rO ds.length k).map λ j=>.nx (δ.set i (.own (ds.set j d)))
 | _=>none
end
section
variable {K:Frag} {ρ:List Addr}
noncomputable def jZ (K:Frag) (f:List W->Option W):Sp:=λ vs H Q _=>∃ ρ G ds d,bm G H/\aw K ρ G vs ds/\f ds=some d/\∀ v G' H',Gr G H G' H'->Dw K ρ G' v d->Q v H'
noncomputable def bt (f:List W->Option W) (fa:DS->Option (List W)):DS->Option W:=λ δ=>(fa δ).bind f
theorem w5 {f:List W->Option W} {t:TA} {fa:DS->Option (List W)} {E:XK} (h:DA K ρ t fa):DE K ρ (pv (jZ K f) [] E t) (bt f fa):=λ G σ H δ d Q R e q=>by
 obtain ⟨ds,ed,e⟩:=oB e
 exact h G σ H δ ds _ R ed λ vs G1 H1 g1 da=>by
  refine ⟨ρ,G1,ds,d,g1.s,?_,e,λ v G2 H2 g2 dv=>q v G2 H2 (g1.trans g2) dv⟩;rw [List.append_nil];exact da
noncomputable def b8 (n:Nat) (ds:List W):DS:=ds.map .val++List.replicate (n-ds.length) .no
noncomputable def AW:Option dm->Option W
 | some (.rt d)=>some d
 | some (.nx _)=>some .none
 | _=>none
noncomputable def bO (a n:Nat) (fb:DS->Option dm):List W->Option W:=λ ds=>if ds.length=a then AW (fb (b8 n ds)) else none
theorem pw {a n:Nat} {fb:DS->Option dm} {ds:List W} {d:W} (h:bO a n fb ds=some d):ds.length=a:=by
 unfold bO at h;split at h
 . assumption
 . cases h
theorem BC {f:List W->Option W} {a:Nat} {vs:List V} {H:Hp} {Q:VK} {E:XK} (hf:∀ ds d,f ds=some d->ds.length=a) (h:jZ K f vs H Q E):vs.length=a:=by
 obtain ⟨ρ,G,ds,d,s,da,e,q⟩:=h;rw [da.length];exact hf ds d e
theorem im {n:Nat} {ds:List W} {i:Nat} {es:List W}:(b8 n ds)[i]?≠some (.own es):=by
 unfold b8;intro h;rcases Nat.lt_or_ge i (ds.map Sl.val).length with hl | hl
 . rw [List.getElem?_append_left hl,List.getElem?_map] at h;obtain ⟨d,_,e⟩:=oM h
   cases e
 . rw [List.getElem?_append_right hl,List.getElem?_replicate] at h;split at h <;> cases h
theorem sL {G H:Hp} {N:List Str} {vs:List V} {ds:List W} (s:bm G H) (h:aw K ρ G vs ds):Rl K ρ G H (b8 N.length ds) (start N vs):=by
 refine ⟨s,by simp [b8,start,h.length],λ i sl e=>?_,λ i j p ds' es' h1=>absurd h1 im⟩;unfold b8 at e;unfold start;rcases Nat.lt_or_ge i ds.length with hl | hl
 . rw [List.getElem?_append_left (by simpa using hl),List.getElem?_map] at e;obtain ⟨d,e1,rfl⟩:=oM e
   obtain ⟨v,h1,h2⟩:=h.get e1;refine ⟨some v,?_,v,rfl,h2⟩;rw [List.getElem?_append_left (by simp [h.length];exact hl),List.getElem?_map,h1];rfl
 . rw [List.getElem?_append_right (by simpa using hl),List.getElem?_replicate] at e;split at e
   . cases e;rename_i hlt;refine ⟨none,?_,trivial⟩;rw [List.getElem?_append_right (by simp [h.length];exact hl),List.getElem?_replicate,if_pos];simp only [List.length_map] at hlt ⊢;rw [h.length];exact hlt
   . cases e
theorem KE {t:TS} {fb:DS->Option dm} {N:List Str} {a n:Nat} {vs:List V} {H:Hp} {Q:VK} {E:XK} (hn:N.length=n) (h:∀ ρ,mT K ρ t fb) (hsp:jZ K (bO a n fb) vs H Q E):t { nx:=λ _ H'=>Q .non H',rt:=Q } (start N vs) H:=by
 subst hn;obtain ⟨ρ,G,ds,d,s,da,e,q⟩:=hsp;have R:=sL (N:=N) s da;have I:Iv K ρ G H G H (b8 N.length ds) (start N vs):=⟨R,.refl s,λ i p ds' h1=>absurd h1 im⟩
 unfold bO at e;rw [if_pos (pw (show bO a N.length fb ds=some d from e))] at e;cases ef:fb (b8 N.length ds) with
 | none=>rw [ef] at e;cases e
 | some o=>
  rw [ef] at e;refine h ρ G H G _ H _ o _ I ef ?_;cases o with
  | nx δ=>cases e;exact λ σ' G' H' I'=>q _ G' H' I'.gr .non
  | rt d'=>cases e;exact λ v G' H' g dv=>q v G' H' g dv
  | bk _=>cases e
  | ct _=>cases e
end
noncomputable def Dn (K:Frag):R2:=λ x y H Q=>∃ l b xs zs,x=.ref l/\y=.ref b/\cR K H l xs/\cR K H b zs/\xs.length+zs.length<=sizeLine/\∀ p H',Nw H H' p (.lst (xs++zs))->Q (.ref p) H'
theorem BR {X:Cx}:gp X (binaryOp .Add) (Dn X.K):=by
 intro pins s σ H x y v u Q I rx ry h;obtain ⟨l,b,xs,zs,rfl,rfl,hH,hB,hz,q⟩:=h;cases rx;cases ry;obtain ⟨its,r,hl,_⟩:=I.list hH;obtain ⟨its2,r2,hb,_⟩:=I.list hB;obtain ⟨⟨cls,dd,data,sl⟩,n,ho,hc,hdd,hd⟩:=hl;obtain ⟨⟨cls2,dd2,data2,sl2⟩,n2,ho2,hc2,hdd2,hd2⟩:=hb;simp only at hc hd hc2 hd2;subst hc hd hc2 hd2;have e:its.toArray++its2.toArray=(its++its2).toArray:=by simp
 refine concat_meets ⟨_,ho,rfl⟩ ⟨_,ho2,rfl⟩ noFill_list_add seq_list_add PySem.F.slot_list_add PySem.F.entry_list_add (PySem.F.args_list_add_2 _ _) (list_addW l b its.toArray its2.toArray n n2 dd dd2 sl sl2 (by rw [List.size_toArray,List.size_toArray,<-r.length,<-r2.length];exact hz)) ⟨ho,ho2,?_⟩;rw [e];exact ⟨.ref _,_,I.lnew (t':=s.toks) (r.append r2) (by rw [List.length_append];omega),rfl,q _ _ (.of I.fresh)⟩
noncomputable def Cd:R2:=λ x y H Q=>∃ i j,x=.str i/\y=.str j/\i.length+j.length<=sizeLine/\Q (.str (i++j)) H
noncomputable def vE (K:Frag):R2:=λ x y H Q=>yd (λ i j=>.int (i+j)) x y H Q∨Cd x y H Q∨Dn K x y H Q∨Dc K x y H Q
theorem B6 {X:Cx} {K:Frag} (h:X.K=K):gp X (binaryOp .Add) (vE K):=h▸E1.or (uX.or (BR.or AH))
section
variable {K:Frag} {ρ:List Addr}
noncomputable def bw:W->W->Option W
 | .int i,.int j=>some (.int (i+j))
 | .str i,.str j=>if i.length+j.length<=sizeLine then some (.str (i++j)) else none
 | .list a,.list b=>if a.length+b.length<=sizeLine then some (.list (a++b)) else none
 | .tuple a,.tuple b=>if a≠[]/\a.length+b.length<=sizeLine then some (.tuple (a++b)) else none
 | _,_=>none
theorem ux {G H:Hp} {v:V} {i:Int} (h:Pk K ρ G H v (.int i)):v=.int i:=by
 rcases h with h | ⟨_,_,_,_,e,_⟩
 . exact d7 h
 . cases e
theorem qM {G H:Hp} {v:V} {i:Str} (h:Pk K ρ G H v (.str i)):v=.str i:=by
 rcases h with h | ⟨_,_,_,_,e,_⟩
 . exact uR h
 . cases e
theorem ja {G H:Hp} {v:V} {ds:List W} (s:bm G H) (h:Pk K ρ G H v (.list ds)):∃ p vs,v=.ref p/\cR K H p vs/\aw K ρ G vs ds:=by
 rcases h with h | ⟨p,vs,es,rfl,e,h1,h2⟩
 . cases h with
   | lst sq da=>exact ⟨_,_,rfl,s.seq sq,da⟩
 . cases e;exact ⟨p,vs,rfl,cR.of h1,h2⟩
theorem r6 {G:Hp} {v:V} {ds:List W} (h:Dw K ρ G v (.list ds)):∃ p vs,v=.ref p/\cR K G p vs/\aw K ρ G vs ds:=by
 cases h with
 | lst sq da=>exact ⟨_,_,rfl,sq,da⟩
theorem nh {G:Hp} {v:V} {ds:List W} (h:Dw K ρ G v (.tuple ds)):∃ p vs,v=.ref p/\G p=some (.tup vs)/\aw K ρ G vs ds:=by
 cases h with
 | tup sq da=>exact ⟨_,_,rfl,sq,da⟩
theorem nG {G H:Hp} {v:V} {ds:List W} (h:Pk K ρ G H v (.tuple ds)):∃ p vs,v=.ref p/\G p=some (.tup vs)/\aw K ρ G vs ds:=by
 rcases h with h | ⟨_,_,_,_,e,_⟩
 . exact nh h
 . cases e
theorem lG:DR K ρ (vE K) bw:=λ G H x y d e c Q s hx hy hg q=>by
 cases d with
 | int i=>
  cases e with
  | int j=>
   cases hg;cases ux hx;cases d7 hy;exact .inl ⟨_,_,rfl,rfl,q _ G H (.refl s) (.int _)⟩
  | _=>cases hg
 | str a=>
  cases e with
  | str b=>
   by_cases hz:a.length+b.length<=sizeLine
   . cases (if_pos hz).symm.trans hg;cases qM hx;cases uR hy;exact .inr (.inl ⟨_,_,rfl,rfl,hz,q _ G H (.refl s) (.str _)⟩)
   . cases (if_neg hz).symm.trans hg
  | _=>cases hg
 | list a=>
  cases e with
  | list b=>
   by_cases hz:a.length+b.length<=sizeLine
   . cases (if_pos hz).symm.trans hg;obtain ⟨p,vs,rfl,sq,da⟩:=ja s hx;obtain ⟨p2,vs2,rfl,sq2,da2⟩:=r6 hy;refine .inr (.inr (.inl ⟨p,p2,vs,vs2,rfl,rfl,sq,s.seq sq2,by rw [da.length,da2.length];exact hz,λ l H' n=>?_⟩));have g:=Gr.nw s n;exact q _ _ H' g (.lst (cR.of aH) ((da.same g.g).app (da2.same g.g)))
   . cases (if_neg hz).symm.trans hg
  | _=>cases hg
 | tuple a=>
  cases e with
  | tuple b=>
   by_cases hz:a≠[]/\a.length+b.length<=sizeLine
   . cases (if_pos hz).symm.trans hg;obtain ⟨p,vs,rfl,sq,da⟩:=nG hx;obtain ⟨p2,vs2,rfl,sq2,da2⟩:=nh hy;refine .inr (.inr (.inr ⟨p,p2,vs,vs2,rfl,rfl,s.tup (ez.of sq),s.tup (ez.of sq2),?_,by rw [da.length,da2.length];exact hz.2,λ e=>?_,λ e l hl=>?_⟩))
     . rintro rfl;cases da;exact hz.1 rfl
     . subst e;cases da2;rw [List.append_nil] at q;exact q _ G H (.refl s) (.tup sq da)
     . have g:=Gr.nw s (Nw.of (o:=.tup (vs++vs2)) hl);exact q _ _ _ g (.tup aH ((da.same g.g).app (da2.same g.g)))
   . cases (if_neg hz).symm.trans hg
  | _=>cases hg
 | _=>cases hg
noncomputable def Ii:W->W->Option (List W)
 | .list a,.list b=>if a.length+b.length<=sizeLine then some (a++b) else none
 | _,_=>none
noncomputable def IF (fa fb:DS->Option W):DS->Option (List W):=λ δ=>(fa δ).bind λ x=>(fb δ).bind λ y=>Ii x y
noncomputable def gI (f:Int->Int->Int):W->W->Option W
 | .int i,.int j=>some (.int (f i j))
 | _,_=>none
noncomputable def C4 (C:Int->Int->Bool) (f:Int->Int->Int):W->W->Option W
 | .int i,.int j=>if C i j=true then some (.int (f i j)) else none
 | _,_=>none
theorem Iy {f:Int->Int->Int}:DR K ρ (yd λ i j=>.int (f i j)) (gI f):=λ G H x y d e c Q s hx hy hg q=>by
 unfold gI at hg;split at hg
 . cases hg;cases ux hx;cases d7 hy;exact ⟨_,_,rfl,rfl,q _ G H (.refl s) (.int _)⟩
 . cases hg
theorem vH {C:Int->Int->Prop} {Cb:Int->Int->Bool} {f:Int->Int->Int} (hC:∀ i j,Cb i j=true->C i j):DR K ρ (rI C λ i j=>.int (f i j)) (C4 Cb f):=λ G H x y d e c Q s hx hy hg q=>by
 unfold C4 at hg;split at hg
 . split at hg
   . rename_i hc;cases hg;cases ux hx;cases d7 hy;exact ⟨_,_,rfl,rfl,hC _ _ hc,q _ G H (.refl s) (.int _)⟩
   . cases hg
 . cases hg
noncomputable def gSub':W->W->Option W:=gI λ i j=>i-j
theorem FG:DR K ρ (yd λ i j=>.int (i-j)) gSub':=Iy
theorem vj:2^200<2^512:=Nat.pow_lt_pow_right (by decide) (by decide)
noncomputable def ox (i j:Int):Bool:=decide (i.natAbs<2^64)||decide (j.natAbs<2^64)||(decide (i.natAbs<2^200)&&decide (j.natAbs<2^200))
noncomputable def Do (i j:Int):Prop:=AI i j∨CG i j
theorem Jm {X:Cx}:gp X (binaryOp .Mult) (rI Do λ i j=>.int (i*j)):=λ pins s σ H x y v u Q I rx ry h=>by
 obtain ⟨i,j,e1,e2,hc,q⟩:=h;rcases hc with hc | hc
 . exact EY pins s σ H x y v u Q I rx ry ⟨i,j,e1,e2,hc,q⟩
 . exact BE pins s σ H x y v u Q I rx ry ⟨i,j,e1,e2,hc,q⟩
noncomputable def sN (i j:Int):Bool:=decide (j≠0)&&decide (j.natAbs<2^200)
noncomputable def ke (i j:Int):Bool:=decide (j≠0)
noncomputable def mK:W->W->Option W:=C4 ox λ i j=>i*j
noncomputable def bC:W->W->Option W:=C4 sN λ i j=>i.fdiv j
noncomputable def bf:W->W->Option W:=C4 ke λ i j=>i.fmod j
theorem Fx:DR K ρ (rI Do λ i j=>.int (i*j)) mK:=vH λ i j h=>by
 simp only [ox,Bool.and_eq_true,Bool.or_eq_true,decide_eq_true_eq] at h;rcases h with (h | h) | h
 . exact .inl (.inl ⟨by omega,by omega⟩)
 . exact .inl (.inr ⟨by omega,by omega⟩)
 . exact .inr ⟨Nat.lt_trans h.1 vj,Nat.lt_trans h.2 vj⟩
theorem F9:DR K ρ (rI D1 λ i j=>.int (i.fdiv j)) bC:=vH λ i j h=>by
 simp only [sN,Bool.and_eq_true,decide_eq_true_eq] at h;exact ⟨h.1,Nat.lt_trans h.2 vj⟩
theorem DP:DR K ρ (rI (λ _ j=>j≠0) λ i j=>.int (i.fmod j)) bf:=vH λ i j h=>by simpa [ke] using h
noncomputable def nz:W->Option W
 | .int i=>some (.int (-i))
 | _=>none
noncomputable def A8 (g:W->Option W) (f:DS->Option W):DS->Option W:=λ δ=>(f δ).bind g
theorem FM {t:TE} {f:DS->Option W} (h:DE K ρ t f):DE K ρ (Lx (rU λ i=>.int (-i)) t) (A8 nz f):=λ G σ H δ d Q R e q=>by
 obtain ⟨x,ex,e⟩:=oB e
 refine h G σ H δ x _ R ex λ v G1 H1 g1 dv=>?_;unfold nz at e;split at e
 . cases e;cases d7 dv;exact ⟨_,rfl,q _ G1 H1 g1 (.int _)⟩
 . cases e
noncomputable def cI (p:Int->Int->Bool):W->W->Option Bool
 | .int i,.int j=>some (p i j)
 | _,_=>none
theorem GW {p:Int->Int->Bool}:DB K ρ (yd λ i j=>.bl (p i j)) (cI p):=λ H x y d e b Q hx hy hg q=>by
 unfold cI at hg;split at hg
 . cases hg;cases d7 hx;cases d7 hy;exact ⟨_,_,rfl,rfl,q⟩
 . cases hg
noncomputable def lA:W->W->Option Bool:=cI λ i j=>decide (i<j)
noncomputable def LU:W->W->Option Bool:=cI λ i j=>decide (i<=j)
noncomputable def Ja:W->W->Option Bool:=cI λ i j=>decide (j<i)
noncomputable def Mp:W->W->Option Bool:=cI λ i j=>decide (j<=i)
theorem IC:DB K ρ (yd λ i j=>.bl (decide (i<j))) lA:=GW
theorem Hr:DB K ρ (yd λ i j=>.bl (decide (j<i))) Ja:=GW
noncomputable def Gn:W->Bool
 | .none=>true
 | _=>false
noncomputable def oN:W->W->Option Bool
 | d,.none=>some (Gn d)
 | _,_=>none
theorem wm {H:Hp} {x:V} {d:W} (h:Dw K ρ H x d):decide (x=.non)=Gn d:=by
 cases h <;> simp [Gn]
theorem En:DB K ρ (λ x y H Q=>y=.non/\Q (.bl (decide (x=.non))) H) oN:=λ H x y d e b Q hx hy hg q=>by
 unfold oN at hg;split at hg
 . cases hg;cases uh hy;exact ⟨rfl,by rw [wm hx];exact q⟩
 . cases hg
noncomputable def gn:W->W->Option Bool
 | d,.none=>some (!(Gn d))
 | _,_=>none
theorem AU:DB K ρ (λ x y H Q=>y=.non/\Q (.bl (!decide (x=.non))) H) gn:=λ H x y d e b Q hx hy hg q=>by
 unfold gn at hg;split at hg
 . cases hg;cases uh hy;exact ⟨rfl,by rw [wm hx];exact q⟩
 . cases hg
noncomputable def Mu:W->Option Bool
 | .none=>some true
 | .int _=>some false
 | .bool _=>some false
 | .str _=>some false
 | _=>none
noncomputable def Mb (i:Int):W->Option Bool
 | .none=>some false
 | .int j=>some (decide (i=j))
 | .str _=>some false
 | _=>none
noncomputable def Mq (i:Bool):W->Option Bool
 | .none=>some false
 | .bool j=>some (decide (i=j))
 | .str _=>some false
 | _=>none
noncomputable def Ml (i:Str):W->Option Bool
 | .none=>some false
 | .int _=>some false
 | .bool _=>some false
 | .str j=>some (decide (i=j))
 | _=>none
noncomputable def GA:W->W->Option Bool
 | .none,e=>Mu e
 | .int i,e=>Mb i e
 | .bool i,e=>Mq i e
 | .str i,e=>Ml i e
 | _,_=>none
theorem uA {H:Hp} {x y:V} {d e:W} {b:Bool} (hx:Dw K ρ H x d) (hy:Dw K ρ H y e) (h:GA d e=some b):Eh x y=true/\decide (x=y)=b:=by
 cases hx with
 | non=>cases hy <;> first | (cases h;exact ⟨rfl,by simp⟩) | cases h
 | int i=>cases hy <;> first | (cases h;exact ⟨rfl,by simp⟩) | cases h
 | bl i=>cases hy <;> first | (cases h;exact ⟨rfl,by simp⟩) | cases h
 | str i=>cases hy <;> first | (cases h;exact ⟨rfl,by simp⟩) | cases h
 | _=>cases h
noncomputable def bZ (d e:W):Option Bool:=match GA d e with
 | some b=>some b
 | none=>d.py.bind λ a=>e.py.bind λ b=>if (a.canLay0&&b.canLay0&&decide (a.depth<=64))=true then some (PyData.eqv a b) else none
noncomputable def D7 (K:Frag):R2:=λ x y H Q=>Lu x y H Q∨B0 K false x y H Q
noncomputable def Fz (K:Frag):R2:=λ x y H Q=>L0 x y H Q∨B0 K true x y H Q
theorem JK {X:Cx} {K:Frag} (h:X.K=K) (hu:X.A.units+64<cLine):gp X (compareOp .Eq) (D7 K):=h▸Hh.or (DL hu)
theorem JT {X:Cx} {K:Frag} (h:X.K=K) (hu:X.A.units+64<cLine):gp X (compareOp .NotEq) (Fz K):=h▸GD.or (EN hu)
theorem nR:DB K ρ (D7 K) bZ:=λ H x y d e b Q hx hy hg q=>by
 unfold bZ at hg;split at hg
 . rename_i b' hb;cases hg;obtain ⟨h1,h2⟩:=uA hx hy hb;exact .inl ⟨h1,by rw [h2];exact q⟩
 . obtain ⟨a,ea,hg⟩:=oB hg
   obtain ⟨b,eb,hg⟩:=oB hg
   split at hg
   . rename_i hc;cases hg;simp only [Bool.and_eq_true,decide_eq_true_eq] at hc;exact .inr ⟨a,b,hx.dp ea,hy.dp eb,hc.1.1,hc.1.2,hc.2,q⟩
   . cases hg
noncomputable def tS (d e:W):Option Bool:=(bZ d e).map (!·)
theorem CU:DB K ρ (Fz K) tS:=λ H x y d e b Q hx hy hg q=>by
 obtain ⟨c,hg',rfl⟩:=oM hg
 unfold bZ at hg';split at hg'
 . rename_i b' hb;cases hg';obtain ⟨h1,h2⟩:=uA hx hy hb;exact .inl ⟨h1,by rw [h2];exact q⟩
 . obtain ⟨a,ea,hg'⟩:=oB hg'
   obtain ⟨b,eb,hg'⟩:=oB hg'
   split at hg'
   . rename_i hc;cases hg';simp only [Bool.and_eq_true,decide_eq_true_eq] at hc;exact .inr ⟨a,b,hx.dp ea,hy.dp eb,hc.1.1,hc.1.2,hc.2,q⟩
   . cases hg'
noncomputable def aR:W->W->Option W
 | .list ds,.int i=>fG ds i
 | .tuple ds,.int i=>fG ds i
 | .str z,.int i=>if z.length<=sizeLine then (fG z.cps.toList i).map λ c=>.str ⟨#[c]⟩ else none
 | _,_=>none
theorem aw.at {G:Hp} {vs:List V} {ds:List W} {i:Int} {d:W} (h:aw K ρ G vs ds) (e:fG ds i=some d):∃ v,fG vs i=some v/\Dw K ρ G v d:=by
 unfold fG at e ⊢;rw [h.length];obtain ⟨j,h1,h2⟩:=oB e
 obtain ⟨v,h3,h4⟩:=h.get h2;exact ⟨v,Option.bind_eq_some_iff.mpr ⟨j,h1,h3⟩,h4⟩
theorem fw:DR K ρ (JI K) aR:=λ G H x y d e c Q s hx hy hg q=>by
 cases e with
 | int i=>
  cases d7 hy;cases d with
  | list ds=>
   obtain ⟨p,vs,rfl,sq,da⟩:=ja s hx;obtain ⟨v,h1,h2⟩:=da.at hg;exact .inl ⟨p,vs,_,v,rfl,rfl,sq,h1,q v G H (.refl s) h2⟩
  | tuple ds=>
   obtain ⟨p,vs,rfl,sq,da⟩:=nG hx;obtain ⟨v,h1,h2⟩:=da.at hg;exact .inr (.inl ⟨p,vs,_,v,rfl,rfl,s.tup (ez.of sq),h1,q v G H (.refl s) h2⟩)
  | str z=>
   by_cases hz:z.length<=sizeLine
   . obtain ⟨c',h1,rfl⟩:=oM ((if_pos hz).symm.trans hg)
     cases qM hx;exact .inr (.inr ⟨_,_,c',rfl,rfl,hz,h1,q _ G H (.refl s) (.str _)⟩)
   . cases (if_neg hz).symm.trans hg
  | _=>cases hg
 | _=>cases d <;> cases hg
noncomputable def i7 (xs:List W) (lo hi:Option Int):List W:=(xs.drop (HT.sIx xs.length 0 lo)).take (HT.sIx xs.length xs.length hi-HT.sIx xs.length 0 lo)
theorem aw.cut {G:Hp} {vs:List V} {ds:List W} (h:aw K ρ G vs ds) (lo hi:Option Int):aw K ρ G (oY vs lo hi) (i7 ds lo hi):=by
 unfold oY i7;rw [h.length];exact (h.drop _).take _
noncomputable def BG (K:Frag) (ρ:List Addr) (t:TO) (f:DS->Option (Option Int)):Prop:=
 ∀ (G:Hp) (σ:St) (H:Hp) (δ:DS) (x:Option Int) (Q:Option Int->Hp->Prop),Rl K ρ G H δ σ->f δ=some x->(∀ G' H',Gr G H G' H'->Q x H')->t σ H Q
noncomputable def dr:DS->Option (Option Int):=λ _=>some none
noncomputable def Gm:W->Option Int
 | .int i=>some i
 | _=>none
theorem qS {d:W} {i:Int} (h:Gm d=some i):d=.int i:=by
 cases d <;> first | (cases h;rfl) | cases h
noncomputable def dP (f:DS->Option W):DS->Option (Option Int):=λ δ=>(f δ).bind λ d=>(Gm d).map some
theorem su:BG K ρ wn dr:=λ G σ H δ x Q R e q=>by
 cases e;exact q G H (.refl R.sub)
theorem tz {t:TE} {f:DS->Option W} (h:DE K ρ t f):BG K ρ (Dl t) (dP f):=λ G σ H δ x Q R e q=>by
 obtain ⟨d,ed,e⟩:=oB e
 obtain ⟨i,ei,rfl⟩:=oM e
 cases qS ei;exact h G σ H δ _ _ R ed λ v G1 H1 g1 dv=>by
  cases d7 dv;exact ⟨i,rfl,q G1 H1 g1⟩
noncomputable def iE:W->Option (List W)
 | .list ds=>some ds
 | _=>none
theorem h9 {d:W} {ds:List W} (h:iE d=some ds):d=.list ds:=by
 cases d <;> first | (cases h;rfl) | cases h
noncomputable def CC (f:DS->Option W) (lo hi:DS->Option (Option Int)):DS->Option (List W):=λ δ=>(f δ).bind λ d=>(iE d).bind λ ds=>(lo δ).bind λ l=>(hi δ).map λ u=>i7 ds l u
theorem EB {t:TE} {tl th:TO} {f:DS->Option W} {lo hi:DS->Option (Option Int)} (h:DK K ρ t f) (hl:BG K ρ tl lo) (hh:BG K ρ th hi):DO K ρ (IS (Du K) t tl th) (CC f lo hi):=λ G σ H δ ds Q R e q=>by
 obtain ⟨d,ed,e⟩:=oB e
 obtain ⟨es,ee,e⟩:=oB e
 obtain ⟨l,el,e⟩:=oB e
 obtain ⟨u,eu,rfl⟩:=oM e
 cases h9 ee;refine h G σ H δ _ _ R ed λ v G1 H1 g1 dv=>hl G1 σ H1 δ l _ (R.grow g1) el λ G2 H2 g2=>hh G2 σ H2 δ u _ ((R.grow g1).grow g2) eu λ G3 H3 g3=>?_;have g23:=g2.trans g3;obtain ⟨p,vs,rfl,sq,da⟩:=ja g23.s (dv.grow g23);refine ⟨p,vs,rfl,sq,λ r H' n=>?_⟩;have g:=g1.trans g23;exact q r _ G3 H' (g.trans (.nwO g.s n)) (cF g.h n.2.1) (cF g.s n.2.1) n.2.2 (da.cut l u)
noncomputable def Gy (K:Frag) (ρ:List Addr) (r:List V->Hp->VK->Prop) (g:W->Option W):Prop:=
 ∀ (G H:Hp) (x:V) (d c:W) (Q:VK),bm G H->Pk K ρ G H x d->g d=some c->(∀ v G' H',Gr G H G' H'->Dw K ρ G' v c->Q v H')->r [x] H Q
noncomputable def rR (g:W->Option W) (f:DS->Option W):DS->Option W:=λ δ=>(f δ).bind g
theorem GR {r:List V->Hp->VK->Prop} {g:W->Option W} {t:TE} {f:DS->Option W} (hr:Gy K ρ r g) (h:DK K ρ t f):DE K ρ (v6 r (eC t iH)) (rR g f):=λ G σ H δ d Q R e q=>by
 obtain ⟨x,ex,e⟩:=oB e
 exact h G σ H δ x _ R ex λ v G1 H1 g1 dv=>hr G1 H1 v x d Q g1.s dv e λ u G2 H2 g2 du=>q u G2 H2 (g1.trans g2) du
noncomputable def vJ (K:Frag):List V->Hp->VK->Prop:=λ xs H Q=>Ie K xs H Q∨CY xs H Q
theorem xQ {X:Cx} {K:Frag} (h:X.K=K):cm X (.builtin "len") (vJ K):=(oR h).or oX
noncomputable def kA:W->Option W
 | .list ds=>some (.int ds.length)
 | .tuple ds=>some (.int ds.length)
 | .str z=>if z.length<=sizeLine then some (.int z.length) else none
 | _=>none
theorem A0:Gy K ρ (vJ K) kA:=λ G H x d c Q s hx hg q=>by
 unfold kA at hg;split at hg
 . cases hg;obtain ⟨p,vs,rfl,sq,da⟩:=ja s hx;exact .inl ⟨p,vs,rfl,.inl sq,by rw [da.length];exact q _ G H (.refl s) (.int _)⟩
 . cases hg;obtain ⟨p,vs,rfl,sq,da⟩:=nG hx;exact .inl ⟨p,vs,rfl,.inr (s.tup (ez.of sq)),by rw [da.length];exact q _ G H (.refl s) (.int _)⟩
 . split at hg
   . rename_i hz;cases hg;cases qM hx;exact .inr ⟨_,rfl,hz,q _ G H (.refl s) (.int _)⟩
   . cases hg
 . cases hg
noncomputable def fB (f:DS->Option W):DS->Option (List W):=λ δ=>(f δ).bind qD
theorem BW {t:TE} {f:DS->Option W} (h:DK K ρ t f):DO K ρ (v6 (rq K) (eC t iH)) (fB f):=λ G σ H δ ds Q R e q=>by
 obtain ⟨x,ex,e⟩:=oB e
 refine h G σ H δ x _ R ex λ v G1 H1 g1 dv=>?_;have fin:∀ (vs:List V) (l:Addr),aw K ρ G1 vs ds->H1 l=none->Q (.ref l) (cn H1 l (.lst vs)):=λ vs l da hl=>by
  have n:Nw H1 (cn H1 l (.lst vs)) l (.lst vs):=.of hl;exact q l vs G1 _ (g1.trans (.nwO g1.s n)) (cF g1.h hl) (cF g1.s hl) aH da
 unfold qD at e;split at e
 . cases e;obtain ⟨p,vs,rfl,sq,da⟩:=ja g1.s dv;exact ⟨p,vs,rfl,.inl sq,λ l hl=>fin vs l da hl⟩
 . cases e;obtain ⟨p,vs,rfl,sq,da⟩:=nG dv;exact ⟨p,vs,rfl,.inr (g1.s.tup (ez.of sq)),λ l hl=>fin vs l da hl⟩
 . cases e
noncomputable def oJ (T:String):W->Option W
 | .int i=>(Am (.int i) T).map .bool
 | .bool i=>(Am (.bl i) T).map .bool
 | .str i=>(Am (.str i) T).map .bool
 | _=>none
theorem EK {T:String} {t:TE} {f:DS->Option W} (h:DE K ρ t f):DE K ρ (v6 Ca (eC t (eC (tC (.ty T)) iH))) (rR (oJ T) f):=λ G σ H δ d Q R e q=>by
 obtain ⟨x,ex,e⟩:=oB e
 refine h G σ H δ x _ R ex λ v G1 H1 g1 dv=>?_;unfold oJ at e;split at e;all_goals first
  | cases e
  | (obtain ⟨k,ek,rfl⟩:=oM e
     cases dv;exact ⟨_,T,k,rfl,ek,q _ G1 H1 g1 (.bl k)⟩)
theorem wq {i:Nat} {te ti:TE} {fv fi:DS->Option W} (hv:DE K ρ te fv) (hi:DE K ρ ti fi):mT K ρ (oZ te (B1 (uB i) ti vG)) (rh i fi fv):=λ G0 H0 G σ H δ o D I e p=>by
 obtain ⟨d,ed,e⟩:=oB e
 obtain ⟨ds,eo,e⟩:=oB e
 obtain ⟨x,ex,e⟩:=oB e
 have ho:=kJ eo;refine hv G σ H δ d _ I.rl ed λ v G1 H1 g1 dv=>?_;have I1:=I.grow g1;obtain ⟨o',h1,q,vs,rfl,h3,h4,h5⟩:=I1.rl.sl i _ ho;refine ⟨.ref q,h1,hi G1 σ H1 δ x _ I1.rl ex λ u G2 H2 g2 du=>?_⟩;have I2:=I1.grow g2;split at e
 . obtain ⟨j,ej,rfl⟩:=oM e
   cases d7 du;exact ⟨q,vs,_,j,rfl,rfl,g2.h _ _ h4,by rw [h5.length];exact ej,p σ G2 _ (I2.put ho h1 (g2.n q (.l h4) h3) (aw.set (dv.same g2.g) j (h5.same g2.g)))⟩
 . cases e
end
section
variable {X:Cx} {tg:Expr}
end
section
variable {K:Frag} {ρ:List Addr}
end
section
variable {X:Cx}
end
section
variable {K:Frag} {ρ:List Addr}
end
theorem EI (i j:Int):bw (.int i) (.int j)=some (.int (i+j)):=rfl
theorem o7 {a b:List W} (h:a.length+b.length<=sizeLine):bw (.list a) (.list b)=some (.list (a++b)):=if_pos h
theorem Em {a b:List W} (h0:a≠[]) (h:a.length+b.length<=sizeLine):bw (.tuple a) (.tuple b)=some (.tuple (a++b)):=if_pos ⟨h0,h⟩
theorem uU {a b:Str} (h:a.length+b.length<=sizeLine):bw (.str a) (.str b)=some (.str (a++b)):=if_pos h
theorem EQ (i j:Int):gSub' (.int i) (.int j)=some (.int (i-j)):=rfl
theorem rg {i j:Int} (h:ox i j=true):mK (.int i) (.int j)=some (.int (i*j)):=by simp only [mK,C4,if_pos h]
theorem uI {i j:Int} (h:sN i j=true):bC (.int i) (.int j)=some (.int (i.fdiv j)):=by simp only [bC,C4,if_pos h]
theorem nB {i j:Int} (h:ke i j=true):bf (.int i) (.int j)=some (.int (i.fmod j)):=by simp only [bf,C4,if_pos h]
theorem Ec (i:Int):nz (.int i)=some (.int (-i)):=rfl
theorem rF {i j:Int} (h1 : -(2^64)<i) (h2:i<2^64):ox i j=true:=by
 simp only [ox,Bool.and_eq_true,Bool.or_eq_true,decide_eq_true_eq];exact .inl (.inl (by omega))
theorem ni {i j:Int} (h1:0<j) (h2:j<2^64):sN i j=true:=by
 have e:(2:Nat)^64<2^200:=Nat.pow_lt_pow_right (by decide) (by decide);simp only [sN,Bool.and_eq_true,decide_eq_true_eq];exact ⟨by omega,Nat.lt_trans (by omega) e⟩
theorem Av {i j:Int} (h:j≠0):ke i j=true:=by simp [ke,h]
theorem FT (i:Int) {j:Int} (h1:0<j) (h2:j<2^64):bC (.int i) (.int j)=some (.int (i.fdiv j)):=uI (ni h1 h2)
theorem Ft (i:Int) {j:Int} (h1:j≠0):bf (.int i) (.int j)=some (.int (i.fmod j)):=nB (Av h1)
theorem rX (b:Bool):yf (.bool b)=some b:=rfl
theorem z8 (i:Int):Gm (.int i)=some i:=rfl
theorem ju (ds:List W):iE (.list ds)=some ds:=rfl
theorem FI (ds:List W):qD (.list ds)=some ds:=rfl
theorem Ez (ds:List W):qD (.tuple ds)=some ds:=rfl
theorem DU (ds:List W):kA (.list ds)=some (.int ds.length):=rfl
theorem E6 (ds:List W):kA (.tuple ds)=some (.int ds.length):=rfl
theorem Di (ds:List W) (i:Int):aR (.list ds) (.int i)=fG ds i:=rfl
theorem rZ (ds:List W) (i:Int):aR (.tuple ds) (.int i)=fG ds i:=rfl
theorem Hm (i j:Int):bZ (.int i) (.int j)=some (decide (i=j)):=rfl
theorem HW (i j:Str):bZ (.str i) (.str j)=some (decide (i=j)):=rfl
theorem IB (i j:Bool):bZ (.bool i) (.bool j)=some (decide (i=j)):=rfl
theorem Io (i j:Int):tS (.int i) (.int j)=some (!decide (i=j)):=rfl
theorem Ij (i j:Str):tS (.str i) (.str j)=some (!decide (i=j)):=rfl
theorem He (i j:Int):lA (.int i) (.int j)=some (decide (i<j)):=rfl
theorem Ia (i j:Int):LU (.int i) (.int j)=some (decide (i<=j)):=rfl
theorem Ig (i j:Int):Ja (.int i) (.int j)=some (decide (j<i)):=rfl
theorem Iq (i j:Int):Mp (.int i) (.int j)=some (decide (j<=i)):=rfl
theorem AO (i:Int):gn (.int i) .none=some true:=rfl
theorem Bb:gn .none .none=some false:=rfl
theorem B9 (i:Str):gn (.str i) .none=some true:=rfl
theorem AS (i:List W):gn (.list i) .none=some true:=rfl
theorem BM (i:List W):gn (.tuple i) .none=some true:=rfl
theorem FO (i:Int):oN (.int i) .none=some false:=rfl
theorem FK:oN .none .none=some true:=rfl
theorem DF (i:Str):oN (.str i) .none=some false:=rfl
theorem Fm (i:List W):oN (.list i) .none=some false:=rfl
theorem Fq (i:List W):oN (.tuple i) .none=some false:=rfl
theorem Bg (i:Int):oJ "int" (.int i)=some (.bool true):=rfl
theorem Ah (i:Int):oJ "bool" (.int i)=some (.bool false):=rfl
theorem C2 (i:Str):oJ "str" (.str i)=some (.bool true):=rfl
theorem ah {f g:DS->Option dm} {δ δ1:DS} {o:Option dm} (h1:f δ=some (.nx δ1)) (h2:g δ1=o):aq f g δ=o:=by
 unfold aq;rw [h1];exact h2
theorem aU {a n:Nat} {fb:DS->Option dm} {ds:List W} {d:W} (hl:ds.length=a) (h:fb (b8 n ds)=some (.rt d)):bO a n fb ds=some d:=by
 unfold bO;rw [if_pos hl,h];rfl
theorem fA {fi:DS->Option (List W)} {h:W->DS->Option DS} {fb:DS->Option dm} {δ:DS} {ds:List W} {o:Option dm} (h1:fi δ=some ds) (h2:be h fb ds δ=o):g9 fi h fb δ=o:=by
 unfold g9;rw [h1];exact h2
theorem aS {f:DS->Option W} {h:W->DS->Option DS} {δ δ':DS} {d:W} (h1:f δ=some d) (h2:h d δ=some δ'):aB f h δ=some (.nx δ'):=by
 unfold aB;rw [h1];show (h d δ).map dm.nx=_;rw [h2];rfl
theorem ay {f:DS->Option W} {δ:DS} {d:W} (h1:f δ=some d):aP f δ=some (.rt d):=by
 unfold aP;rw [h1];rfl
theorem ax {c:DS->Option Bool} {f g:DS->Option dm} {δ:DS} {b:Bool} {o:Option dm} (h1:c δ=some b) (h2:(if b=true then f δ else g δ)=o):bP c f g δ=o:=by
 unfold bP;rw [h1];exact h2
theorem C5 {n:Nat} (hn:n<=16777216):xw (n:Int)=some (gf 0 n):=by
 unfold xw;rw [if_pos (xW hn),Int.toNat_natCast]
theorem iQ {f:DS->Option (List W)} {δ:DS} {n:Nat} (h:f δ=some [.int n]) (hn:n<=16777216):kT f δ=some (gf 0 n):=by
 unfold kT;rw [h,Option.bind_some];exact C5 hn
theorem yI {K:Frag} {g:List W->Option W} {vs:List V} {H:Hp} {Q:VK} {E:XK} (hg:∀ ds,g ds=none) (h:jZ K g vs H Q E):False:=by
 obtain ⟨ρ,G,ds,d,_,_,e,_⟩:=h;rw [hg] at e;cases e
theorem eF.no {P:Program} {w:World} {K:Frag} {mg:Str->Option Value} {base:Heap} {CX:vv} {k:Nat} {f:Addr} {fd:FuncData} {ps:List Str} {g:List W->Option W} (hg:∀ ds,g ds=none):eF P w K mg base CX k f fd ps (jZ K g):=
 ⟨λ _ _ _ _ h=>(yI hg h).elim,λ _ _ _ _ _ _ _ _ _ _ _ _ _ h=>(yI hg h).elim⟩
inductive Ob where
 | lst (ds:List W)
 | dK (kvs:List (bg×W))
 | dT (kvs:List (List bg×W))
 | dN (kvs:List (List bg×W))
 | ins (c:Str) (fs:List (Str×W))
noncomputable abbrev ai:=List Ob
inductive j6 (K:Frag) (ρ:List Addr) (G:Hp) {κ:Type}:List (κ×W)->List (κ×V)->Prop
 | nil:j6 K ρ G [] []
 | cons {k:κ} {d:W} {v:V} {l:List (κ×W)} {m:List (κ×V)}:Dw K ρ G v d->j6 K ρ G l m->j6 K ρ G ((k,d)::l) ((k,v)::m)
noncomputable def zP (K:Frag) (ρ:List Addr) (cl:Str->Addr) (G H:Hp) (a:Addr):Ob->Prop
 | .lst ds=>∃ vs,H a=some (.lst vs)/\aw K ρ G vs ds
 | .dK kvs=>∃ ws,H a=some (.dK ws)/\j6 K ρ G kvs ws
 | .dT kvs=>∃ ws,H a=some (.dT ws)/\j6 K ρ G kvs ws
 | .dN kvs=>∃ ws,H a=some (.dN ws)/\j6 K ρ G kvs ws
 | .ins c fs=>∃ dx ws,H a=some (.ins (cl c) dx ws)/\G dx=none/\H dx=some (.own a)/\j6 K ρ G fs ws
theorem Bx {ρ ρ':List Addr} (h:ρ <+: ρ') (n:Nat) (a:Addr) (e:ρ[n]?=some a):ρ'[n]?=some a:=by
 obtain ⟨t,rfl⟩:=h;rw [List.getElem?_append_left (oG e).1];exact e
theorem Dw.ext {K:Frag} {ρ ρ':List Addr} {G:Hp} (h:ρ <+: ρ') {v:V} {d:W} (q:Dw K ρ G v d):Dw K ρ' G v d:=q.mapG (λ _ _ q=>q) (λ _ _ q=>q) (Bx h)
theorem aw.ext {K:Frag} {ρ ρ':List Addr} {G:Hp} (h:ρ <+: ρ') {vs:List V} {ds:List W} (q:aw K ρ G vs ds):aw K ρ' G vs ds:=q.mapA λ _ _ a=>a.ext h
theorem j6.ext {K:Frag} {ρ ρ':List Addr} {G G':Hp} {κ:Type} (h:ρ <+: ρ') (g:bm G G') {l:List (κ×W)} {m:List (κ×V)} (q:j6 K ρ G l m):j6 K ρ' G' l m:=by
 induction q with
 | nil=>exact .nil
 | cons a _ ih=>exact .cons ((a.ext h).same g) ih
theorem j6.lookup {K:Frag} {ρ:List Addr} {G:Hp} {κ:Type} [BEq κ] {k:κ} {l:List (κ×W)} {m:List (κ×V)} {d:W} (q:j6 K ρ G l m):l.lookup k=some d->∃ v,m.lookup k=some v/\Dw K ρ G v d:=by
 induction q with
 | nil=>exact λ e=>by cases e
 | @cons j d v l m a _ ih=>
  intro e;simp only [List.lookup] at e ⊢;split at e
  . cases e;exact ⟨_,rfl,a⟩
  . exact ih e
theorem j6.lookup_none {K:Frag} {ρ:List Addr} {G:Hp} {κ:Type} [BEq κ] {k:κ} {l:List (κ×W)} {m:List (κ×V)} (q:j6 K ρ G l m):l.lookup k=none->m.lookup k=none:=by
 induction q with
 | nil=>exact λ _=>rfl
 | @cons j d v l m a _ ih=>
  intro e;simp only [List.lookup] at e ⊢;split at e
  . cases e
  . exact ih e
theorem j6.length {K:Frag} {ρ:List Addr} {G:Hp} {κ:Type} {l:List (κ×W)} {m:List (κ×V)} (q:j6 K ρ G l m):l.length=m.length:=by
 induction q with
 | nil=>rfl
 | cons _ _ ih=>exact congrArg (· + 1) ih
noncomputable def fq (f:Str) (v:W):List (Str×W)->List (Str×W)
 | []=>[(f,v)]
 | (g,x)::r=>if g=f then (g,v)::r else (g,x)::fq f v r
theorem j6.putF {K:Frag} {ρ:List Addr} {G:Hp} {f:Str} {v:V} {d:W} (h:Dw K ρ G v d) {l:List (Str×W)} {m:List (Str×V)} (q:j6 K ρ G l m):j6 K ρ G (fq f d l) (putF f v m):=by
 induction q with
 | nil=>exact .cons h .nil
 | cons a b ih=>
  unfold fq L2.putF;split
  . exact .cons h b
  . exact .cons a ih
structure SR (K:Frag) (ρ:List Addr) (cl:Str->Addr) (G H:Hp) (S:ai):Prop where
 len:ρ.length=S.length
 nd:ρ.Nodup
 ob:∀ (n:Nat) o,S[n]?=some o->∃ a,ρ[n]?=some a/\G a=none/\zP K ρ cl G H a o
structure GS (ρ:List Addr) (G H:Hp) (ρ':List Addr) (G' H':Hp):Prop where
 r:ρ <+: ρ'
 g:bm G G'
 s:bm G' H'
 h:∀ b o,b∉ρ->H b=some o->H' b=some o
 k:∀ b,H b≠none->H' b≠none
 n:∀ b,nT H b->G b=none->G' b=none
 f:∀ a,a∈ρ'->a∉ρ->H a=none
 t:∀ b,nT H b->nT H' b
theorem GS.refl {ρ:List Addr} {G H:Hp} (s:bm G H):GS ρ G H ρ G H:=⟨List.prefix_refl _,.refl _,s,λ _ _ _ e=>e,λ _ e=>e,λ _ _ e=>e,λ a h1 h2=>absurd h1 h2,λ _ e=>e⟩
theorem GS.of {ρ:List Addr} {G H G' H':Hp} (g:Gr G H G' H'):GS ρ G H ρ G' H':=⟨List.prefix_refl _,g.g,g.s,λ b o _ e=>g.h b o e,λ b e=>qE g.h e,g.n,λ a h1 h2=>absurd h1 h2,λ _ e=>e.same g.h⟩
theorem GS.trans {ρ ρ1 ρ2:List Addr} {G H G1 H1 G2 H2:Hp} (a:GS ρ G H ρ1 G1 H1) (b:GS ρ1 G1 H1 ρ2 G2 H2):GS ρ G H ρ2 G2 H2:=
 ⟨a.r.trans b.r,a.g.trans b.g,b.s,λ c o hc e=>b.h c o (λ h1=>by rw [a.f c h1 hc] at e;cases e) (a.h c o hc e),λ c e=>b.k c (a.k c e),λ c h1 h2=>b.n c (a.t c h1) (a.n c h1 h2),(λ c h1 h2=>by
  by_cases h3:c∈ρ1
  . exact a.f c h3 h2
  . have:=b.f c h1 h3;cases e:H c with
    | none=>rfl
    | some o=>exact absurd this (a.k c (by rw [e];simp))),λ c e=>b.t c (a.t c e)⟩
section
variable {K:Frag} {cl:Str->Addr}
theorem zP.move {ρ ρ':List Addr} {G H G' H':Hp} {a:Addr} (hr:ρ <+: ρ') (g:bm G G') (ha:H' a=H a) (hd:∀ dx,G dx=none->H dx=some (.own a)->H' dx=some (.own a)/\G' dx=none) {o:Ob} (h:zP K ρ cl G H a o):zP K ρ' cl G' H' a o:=by
 cases o with
 | lst ds=>
  obtain ⟨vs,h1,h2⟩:=h;exact ⟨vs,ha.trans h1,(h2.ext hr).same g⟩
 | ins c fs=>
  obtain ⟨dx,ws,h1,h2,h3,h4⟩:=h;exact ⟨dx,ws,ha.trans h1,(hd dx h2 h3).2,(hd dx h2 h3).1,h4.ext hr g⟩
 | _=>
  obtain ⟨ws,h1,h2⟩:=h;exact ⟨ws,ha.trans h1,h2.ext hr g⟩
theorem zP.some {ρ:List Addr} {G H:Hp} {a:Addr} {o:Ob} (h:zP K ρ cl G H a o):∃ x,H a=some x/\∀ b,x≠.own b:=by
 cases o with
 | ins c fs=>
  obtain ⟨dx,ws,h1,_⟩:=h;exact ⟨_,h1,λ b e=>by cases e⟩
 | _=>
  obtain ⟨ws,h1,_⟩:=h;exact ⟨_,h1,λ b e=>by cases e⟩
theorem zP.nt {ρ:List Addr} {G H:Hp} {a:Addr} {o:Ob} (h:zP K ρ cl G H a o):nT H a:=by
 cases o with
 | ins c fs=>
  obtain ⟨_,_,h1,_⟩:=h;exact .of h1 λ _ z=>by cases z
 | _=>
  obtain ⟨_,h1,_⟩:=h;exact .of h1 λ _ z=>by cases z
theorem SR.grow {ρ:List Addr} {G H G' H':Hp} {S:ai} (s:SR K ρ cl G H S) (g:Gr G H G' H'):SR K ρ cl G' H' S:=
 ⟨s.len,s.nd,λ n o e=>by
  obtain ⟨a,h1,h2,h3⟩:=s.ob n o e;obtain ⟨x,hx,_⟩:=h3.some;exact ⟨a,h1,g.n a h3.nt h2,h3.move (List.prefix_refl _) g.g (by rw [hx];exact g.h _ _ hx) λ dx e1 e2=>⟨g.h _ _ e2,g.n dx (.of e2 λ _ z=>by cases z) e1⟩⟩⟩
theorem SR.addr {ρ:List Addr} {G H:Hp} {S:ai} (s:SR K ρ cl G H S) {n:Nat} {o:Ob} {a:Addr} (e:S[n]?=some o) (ea:ρ[n]?=some a):G a=none/\zP K ρ cl G H a o:=by
 obtain ⟨b,h1,h2,h3⟩:=s.ob n o e;rw [ea] at h1;cases h1;exact ⟨h2,h3⟩
theorem xz {l:List Addr} (h:l.Nodup) {i j:Nat} {a:Addr} (h1:l[i]?=some a) (h2:l[j]?=some a):i=j:=by
 obtain ⟨hi,e1⟩:=oG h1
 obtain ⟨hj,e2⟩:=oG h2
 have hp:=List.pairwise_iff_getElem.mp h;rcases Nat.lt_trichotomy i j with c | c | c
 . exact absurd (e1.trans e2.symm) (hp i j hi hj c)
 . exact c
 . exact absurd (e2.trans e1.symm) (hp j i hj hi c)
theorem SR.put {ρ:List Addr} {G H:Hp} {S:ai} {n:Nat} {o o':Ob} {a:Addr} {x:HO} (s:SR K ρ cl G H S) (sg:bm G H) (e:S[n]?=some o) (ea:ρ[n]?=some a) (hx:∀ b,x≠.own b) (ho:zP K ρ cl G (cn H a x) a o'):SR K ρ cl G (cn H a x) (S.set n o')/\GS ρ G H ρ G (cn H a x):=by
 obtain ⟨ga,ob⟩:=s.addr e ea;obtain ⟨y,hy,hno⟩:=ob.some;have am:a∈ρ:=List.mem_of_getElem? ea;refine ⟨⟨by rw [List.length_set];exact s.len,s.nd,λ m q em=>?_⟩,⟨List.prefix_refl _,.refl _,λ b u eb=>?_,λ b u hb eb=>?_,λ b hb=>?_,λ _ _ e=>e,λ b h1 h2=>absurd h1 h2,λ b hb=>by
  by_cases z:b=a
  . exact z▸ho.nt
  . unfold nT;rw [aM z];exact hb⟩⟩
 . rcases dM em with ⟨rfl,rfl,_⟩ | ⟨ne,em⟩
   . exact ⟨a,ea,ga,ho⟩
   . obtain ⟨b,h1,h2,h3⟩:=s.ob m q em;have hab:b≠a:=λ z=>ne (xz s.nd ea (z▸h1));exact ⟨b,h1,h2,h3.move (List.prefix_refl _) (.refl _) (aM hab) λ dx e1 e2=>⟨by
      rw [aM (λ z=>by rw [z,hy] at e2;cases e2;exact hno _ rfl)];exact e2,e1⟩⟩
 . rw [aM (λ z=>by rw [z,ga] at eb;cases eb)];exact sg _ _ eb
 . rw [aM (λ z=>hb (by rw [z];exact am))];exact eb
 . by_cases z:b=a
   . subst z;rw [aH];simp
   . rw [aM z];exact hb
theorem SR.push {ρ:List Addr} {G H H':Hp} {S:ai} {p:Addr} {o:Ob} {x:HO} (s:SR K ρ cl G H S) (sg:bm G H) (n:Nw H H' p x) (ho:∀ ρ',ρ <+: ρ'->zP K ρ' cl G H' p o):SR K (ρ++[p]) cl G H' (S++[o])/\GS ρ G H (ρ++[p]) G H':=by
 have pm:p∉ρ:=λ hp=>by
  obtain ⟨i,hi,e⟩:=List.mem_iff_getElem.mp hp;obtain ⟨b,h1,h2,h3⟩:=s.ob i (S[i]'(by rw [<-s.len];exact hi)) (List.getElem?_eq_getElem _);rw [List.getElem?_eq_getElem hi,e] at h1;cases h1;obtain ⟨y,hy,_⟩:=h3.some;rw [n.2.1] at hy;cases hy
 have pre:ρ <+: ρ++[p]:=⟨[p],rfl⟩
 refine ⟨⟨by simp [s.len],List.nodup_append.mpr ⟨s.nd,by simp,λ a ha b hb=>by
  rw [List.mem_singleton.mp hb];exact λ z=>pm (z▸ha)⟩,λ m q em=>?_⟩,⟨pre,.refl _,sg.trans n.1,λ b u _ e=>n.1 b u e,λ b e=>qE n.1 e,λ _ _ e=>e,λ a h1 h2=>?_,λ _ e=>e.same n.1⟩⟩
 . rcases Nat.lt_or_ge m S.length with hm | hm
   . rw [List.getElem?_append_left hm] at em;obtain ⟨b,h1,h2,h3⟩:=s.ob m q em;obtain ⟨y,hy,_⟩:=h3.some;exact ⟨b,by rw [List.getElem?_append_left (by rw [s.len];exact hm)];exact h1,h2,h3.move pre (.refl _) (by rw [hy];exact n.1 _ _ hy) λ dx e1 e2=>⟨n.1 _ _ e2,e1⟩⟩
   . rw [List.getElem?_append_right hm] at em;have hz:m-S.length=0:=by
      have:=(oG em).1;simp at this;omega
     rw [hz] at em;cases em;refine ⟨p,?_,cF sg n.2.1,ho _ pre⟩;rw [List.getElem?_append_right (by rw [s.len];exact hm),s.len,hz];rfl
 . rcases List.mem_append.mp h1 with h | h
   . exact absurd h h2
   . rw [List.mem_singleton.mp h];exact n.2.1
inductive Rs (α:Type) where
 | ok (a:α)
 | xc (c:Str)
noncomputable abbrev SM (α:Type):=Option (Rs α×ai)
noncomputable def au {α β:Type} (m:SM α) (k:α->ai->SM β):SM β:=match m with
 | some (.ok a,S)=>k a S
 | some (.xc c,S)=>some (.xc c,S)
 | none=>none
theorem aO {α β:Type} {m:SM α} {k:α->ai->SM β} {r:Rs β} {S':ai} (h:au m k=some (r,S')):(∃ c,m=some (.xc c,S')/\r=.xc c)∨∃ a S1,m=some (.ok a,S1)/\k a S1=some (r,S'):=by
 unfold au at h;split at h
 . exact .inr ⟨_,_,rfl,h⟩
 . cases h;exact .inl ⟨_,rfl,rfl⟩
 . cases h
structure RS (K:Frag) (cl:Str->Addr) (ρ:List Addr) (G H:Hp) (δ:DS) (σ:St) (S:ai):Prop where
 rl:Rl K ρ G H δ σ
 st:SR K ρ cl G H S
 ap:∀ (i:Nat) ds p,δ[i]?=some (.own ds)->σ[i]?=some (some (.ref p))->p∉ρ
theorem va.move {ρ ρ':List Addr} {G H G' H':Hp} (g:GS ρ G H ρ' G' H') {s:Sl} {o:Option V} (ha:∀ ds p,s=.own ds->o=some (.ref p)->p∉ρ) (h:va K ρ G H s o):va K ρ' G' H' s o:=by
 cases s with
 | no=>exact trivial
 | val d=>
  obtain ⟨v,e,h⟩:=h;exact ⟨v,e,(h.ext g.r).same g.g⟩
 | own ds=>
  obtain ⟨p,vs,e,h1,h2,h3⟩:=h;exact ⟨p,vs,e,g.n p (.l h2) h1,g.h _ _ (ha ds p rfl e) h2,(h3.ext g.r).same g.g⟩
theorem RS.grow {ρ ρ':List Addr} {G H G' H':Hp} {δ:DS} {σ:St} {S S':ai} (R:RS K cl ρ G H δ σ S) (g:GS ρ G H ρ' G' H') (s:SR K ρ' cl G' H' S'):RS K cl ρ' G' H' δ σ S':=
 ⟨⟨g.s,R.rl.len,λ i sl e=>by
  obtain ⟨o,h1,h2⟩:=R.rl.sl i sl e;exact ⟨o,h1,h2.move g λ ds p e1 e2=>R.ap i ds p (e1▸e) (e2▸h1)⟩,R.rl.apart⟩,s,λ i ds p h1 h2 hp=>by
  obtain ⟨o,k1,p',vs,rfl,k3,k4,k5⟩:=R.rl.sl i _ h1;rw [h2] at k1;cases k1;rw [g.f p hp (R.ap i ds p h1 h2)] at k4;cases k4⟩
noncomputable def SE (K:Frag) (cl:Str->Addr) (E:XK) (t:TE) (f:DS->ai->SM W):Prop:=
 ∀ (ρ:List Addr) (G:Hp) (σ:St) (H:Hp) (δ:DS) (S:ai) (r:Rs W) (S':ai) (Q:VK),RS K cl ρ G H δ σ S->f δ S=some (r,S')->
  (∀ d,r=.ok d->∀ v ρ' G' H',GS ρ G H ρ' G' H'->SR K ρ' cl G' H' S'->Dw K ρ' G' v d->Q v H')->
  (∀ c,r=.xc c->∀ ρ' G' H',GS ρ G H ρ' G' H'->SR K ρ' cl G' H' S'->E (.ref (cl c)) none H')->t σ H Q
noncomputable def SA (K:Frag) (cl:Str->Addr) (E:XK) (t:TA) (f:DS->ai->SM (List W)):Prop:=
 ∀ (ρ:List Addr) (G:Hp) (σ:St) (H:Hp) (δ:DS) (S:ai) (r:Rs (List W)) (S':ai) (Q:List V->Hp->Prop),RS K cl ρ G H δ σ S->f δ S=some (r,S')->
  (∀ ds,r=.ok ds->∀ vs ρ' G' H',GS ρ G H ρ' G' H'->SR K ρ' cl G' H' S'->aw K ρ' G' vs ds->Q vs H')->
  (∀ c,r=.xc c->∀ ρ' G' H',GS ρ G H ρ' G' H'->SR K ρ' cl G' H' S'->E (.ref (cl c)) none H')->t σ H Q
noncomputable def ST (K:Frag) (cl:Str->Addr) (E:XK) (t:TT) (f:DS->ai->SM Bool):Prop:=
 ∀ (ρ:List Addr) (G:Hp) (σ:St) (H:Hp) (δ:DS) (S:ai) (r:Rs Bool) (S':ai) (Q:Bool->Hp->Prop),RS K cl ρ G H δ σ S->f δ S=some (r,S')->
  (∀ b,r=.ok b->∀ ρ' G' H',GS ρ G H ρ' G' H'->SR K ρ' cl G' H' S'->Q b H')->
  (∀ c,r=.xc c->∀ ρ' G' H',GS ρ G H ρ' G' H'->SR K ρ' cl G' H' S'->E (.ref (cl c)) none H')->t σ H Q
variable {E:XK}
noncomputable def ab {α:Type} (f:DS->Option α):DS->ai->SM α:=λ δ S=>(f δ).map λ d=>(.ok d,S)
theorem ij {α:Type} {f:DS->Option α} {δ:DS} {S S':ai} {r:Rs α} (h:ab f δ S=some (r,S')):∃ d,f δ=some d/\r=.ok d/\S'=S:=by
 obtain ⟨d,e1,e2⟩:=oM h
 cases e2;exact ⟨d,e1,rfl,rfl⟩
theorem dR {t:TE} {f:DS->Option W} (h:∀ ρ,DE K ρ t f):SE K cl E t (ab f):=λ ρ G σ H δ S r S' Q R e q _=>by
 obtain ⟨d,e1,rfl,rfl⟩:=ij e;exact h ρ G σ H δ d Q R.rl e1 λ v G' H' g dv=>q d rfl v ρ G' H' (.of g) (R.st.grow g) dv
theorem gw {t:TA} {f:DS->Option (List W)} (h:∀ ρ,DA K ρ t f):SA K cl E t (ab f):=λ ρ G σ H δ S r S' Q R e q _=>by
 obtain ⟨d,e1,rfl,rfl⟩:=ij e;exact h ρ G σ H δ d Q R.rl e1 λ v G' H' g dv=>q d rfl v ρ G' H' (.of g) (R.st.grow g) dv
theorem kG {t:TT} {f:DS->Option Bool} (h:∀ ρ,DT K ρ t f):ST K cl E t (ab f):=λ ρ G σ H δ S r S' Q R e q _=>by
 obtain ⟨d,e1,rfl,rfl⟩:=ij e;exact h ρ G σ H δ d Q R.rl e1 λ G' H' g=>q d rfl ρ G' H' (.of g) (R.st.grow g)
noncomputable def dL:DS->ai->SM (List W):=λ _ S=>some (.ok [],S)
noncomputable def aI (f:DS->ai->SM W) (g:DS->ai->SM (List W)):DS->ai->SM (List W):=λ δ S=>au (f δ S) λ d S1=>au (g δ S1) λ ds S2=>some (.ok (d::ds),S2)
theorem vf:SA K cl E iH dL:=λ ρ G σ H δ S r S' Q R e q _=>by
 cases e;exact q [] rfl [] ρ G H (.refl R.rl.sub) R.st .nil
theorem jo {t:TE} {u:TA} {f:DS->ai->SM W} {g:DS->ai->SM (List W)} (h1:SE K cl E t f) (h2:SA K cl E u g):SA K cl E (eC t u) (aI f g):=λ ρ G σ H δ S r S' Q R e q qx=>by
 rcases aO e with ⟨c,em,rfl⟩ | ⟨d,S1,em,e⟩
 . exact h1 ρ G σ H δ S _ _ _ R em (λ d hd=>by cases hd) (λ c' hc=>by cases hc;exact qx c rfl)
 . refine h1 ρ G σ H δ S _ _ _ R em (λ d' hd=>?_) (λ c' hc=>by cases hc);cases hd;intro v ρ1 G1 H1 g1 s1 dv;have R1:=R.grow g1 s1;rcases aO e with ⟨c,em,rfl⟩ | ⟨ds,S2,em,e⟩
   . exact h2 ρ1 G1 σ H1 δ S1 _ _ _ R1 em (λ d hd=>by cases hd) (λ c' hc=>by cases hc;exact λ ρ2 G2 H2 g2 s2=>qx c rfl ρ2 G2 H2 (g1.trans g2) s2)
   . refine h2 ρ1 G1 σ H1 δ S1 _ _ _ R1 em (λ d' hd=>?_) (λ c' hc=>by cases hc);cases hd;cases e;intro vs ρ2 G2 H2 g2 s2 da;exact q _ rfl _ ρ2 G2 H2 (g1.trans g2) s2 (.cons ((dv.ext g2.r).same g2.g) da)
end
section
variable {K:Frag} {cl:Str->Addr} {E:XK}
theorem eQ {α:Type} {t:TE} {f:DS->ai->SM W} (h:SE K cl E t f) {ρ:List Addr} {G:Hp} {σ:St} {H:Hp} {δ:DS} {S:ai} {r:Rs α} {S':ai} {k:W->ai->SM α} {P:V->Hp->Prop} (R:RS K cl ρ G H δ σ S) (e:au (f δ S) k=some (r,S'))
 (q:∀ d S1,k d S1=some (r,S')->∀ v ρ' G' H',GS ρ G H ρ' G' H'->SR K ρ' cl G' H' S1->Dw K ρ' G' v d->P v H')
 (qx:∀ c,r=.xc c->∀ ρ' G' H',GS ρ G H ρ' G' H'->SR K ρ' cl G' H' S'->E (.ref (cl c)) none H'):t σ H P:=by
 rcases aO e with ⟨c,em,rfl⟩ | ⟨d,S1,em,e⟩
 . exact h ρ G σ H δ S _ _ _ R em (λ d hd=>by cases hd) (λ c' hc=>by cases hc;exact qx c rfl)
 . exact h ρ G σ H δ S _ _ _ R em (λ d' hd=>by cases hd;exact q _ _ e) (λ c' hc=>by cases hc)
theorem lF {α:Type} {t:TA} {f:DS->ai->SM (List W)} (h:SA K cl E t f) {ρ:List Addr} {G:Hp} {σ:St} {H:Hp} {δ:DS} {S:ai} {r:Rs α} {S':ai} {k:List W->ai->SM α} {P:List V->Hp->Prop} (R:RS K cl ρ G H δ σ S) (e:au (f δ S) k=some (r,S'))
 (q:∀ d S1,k d S1=some (r,S')->∀ v ρ' G' H',GS ρ G H ρ' G' H'->SR K ρ' cl G' H' S1->aw K ρ' G' v d->P v H')
 (qx:∀ c,r=.xc c->∀ ρ' G' H',GS ρ G H ρ' G' H'->SR K ρ' cl G' H' S'->E (.ref (cl c)) none H'):t σ H P:=by
 rcases aO e with ⟨c,em,rfl⟩ | ⟨d,S1,em,e⟩
 . exact h ρ G σ H δ S _ _ _ R em (λ d hd=>by cases hd) (λ c' hc=>by cases hc;exact qx c rfl)
 . exact h ρ G σ H δ S _ _ _ R em (λ d' hd=>by cases hd;exact q _ _ e) (λ c' hc=>by cases hc)
theorem Fb {α:Type} {t:TT} {f:DS->ai->SM Bool} (h:ST K cl E t f) {ρ:List Addr} {G:Hp} {σ:St} {H:Hp} {δ:DS} {S:ai} {r:Rs α} {S':ai} {k:Bool->ai->SM α} {P:Bool->Hp->Prop} (R:RS K cl ρ G H δ σ S) (e:au (f δ S) k=some (r,S'))
 (q:∀ d S1,k d S1=some (r,S')->∀ ρ' G' H',GS ρ G H ρ' G' H'->SR K ρ' cl G' H' S1->P d H')
 (qx:∀ c,r=.xc c->∀ ρ' G' H',GS ρ G H ρ' G' H'->SR K ρ' cl G' H' S'->E (.ref (cl c)) none H'):t σ H P:=by
 rcases aO e with ⟨c,em,rfl⟩ | ⟨d,S1,em,e⟩
 . exact h ρ G σ H δ S _ _ _ R em (λ d hd=>by cases hd) (λ c' hc=>by cases hc;exact qx c rfl)
 . exact h ρ G σ H δ S _ _ _ R em (λ d' hd=>by cases hd;exact q _ _ e) (λ c' hc=>by cases hc)
theorem fU {α:Type} {ta tb:TE} {fa fb:DS->ai->SM W} (ha:SE K cl E ta fa) (hb:SE K cl E tb fb) {ρ:List Addr} {G:Hp} {σ:St} {H:Hp} {δ:DS} {S:ai} {r:Rs α} {S':ai} {k:W->W->ai->SM α} {P:V->V->Hp->Prop} (R:RS K cl ρ G H δ σ S)
 (e:au (fa δ S) (λ x S1=>au (fb δ S1) λ y S2=>k x y S2)=some (r,S'))
 (q:∀ x y S2,k x y S2=some (r,S')->∀ v u ρ' G' H',GS ρ G H ρ' G' H'->SR K ρ' cl G' H' S2->Dw K ρ' G' v x->Dw K ρ' G' u y->P v u H')
 (qx:∀ c,r=.xc c->∀ ρ' G' H',GS ρ G H ρ' G' H'->SR K ρ' cl G' H' S'->E (.ref (cl c)) none H'):ta σ H λ v H1=>tb σ H1 λ u H2=>P v u H2:=
 eQ ha R e (λ x S1 e1 v ρ1 G1 H1 g1 s1 dv=>eQ hb (R.grow g1 s1) e1 (λ y S2 e2 u ρ2 G2 H2 g2 s2 du=>q x y S2 e2 v u ρ2 G2 H2 (g1.trans g2) s2 ((dv.ext g2.r).same g2.g) du) λ c hc ρ2 G2 H2 g2 s2=>qx c hc ρ2 G2 H2 (g1.trans g2) s2) qx
noncomputable def lq {α:Type} (x:Option α) (S:ai):SM α:=x.map λ d=>(.ok d,S)
theorem b9 {α:Type} {x:Option α} {S S':ai} {r:Rs α} (h:lq x S=some (r,S')):∃ d,x=some d/\r=.ok d/\S'=S:=by
 obtain ⟨d,e1,e2⟩:=oM h
 cases e2;exact ⟨d,e1,rfl,rfl⟩
noncomputable def F7 (g:W->W->Option W) (fa fb:DS->ai->SM W):DS->ai->SM W:=λ δ S=>au (fa δ S) λ x S1=>au (fb δ S1) λ y S2=>lq (g x y) S2
theorem GL {r:R2} {ta tb:TE} {fa fb:DS->ai->SM W} {g:W->W->Option W} (hr:∀ ρ,DR K ρ r g) (ha:SE K cl E ta fa) (hb:SE K cl E tb fb):SE K cl E (qp r ta tb) (F7 g fa fb):=λ ρ G σ H δ S r' S' Q R e q qx=>
 fU ha hb R e (λ x y S2 e2 v u ρ2 G2 H2 g2 s2 dv du=>by
  obtain ⟨c,e3,rfl,rfl⟩:=b9 e2;exact hr ρ2 G2 H2 v u x y c Q g2.s (.inl dv) du e3 λ w G3 H3 g3 dw=>q c rfl w ρ2 G3 H3 (g2.trans (.of g3)) (s2.grow g3) dw) qx
noncomputable def uP (g:W->W->Option Bool) (fa fb:DS->ai->SM W):DS->ai->SM Bool:=λ δ S=>au (fa δ S) λ x S1=>au (fb δ S1) λ y S2=>lq (g x y) S2
noncomputable def sB (f:DS->ai->SM Bool):DS->ai->SM W:=λ δ S=>au (f δ S) λ b S1=>some (.ok (.bool b),S1)
theorem DH {r:R2} {ta tb:TE} {fa fb:DS->ai->SM W} {g:W->W->Option Bool} (hr:∀ ρ,DB K ρ r g) (ha:SE K cl E ta fa) (hb:SE K cl E tb fb):SE K cl E (qp r ta tb) (sB (uP g fa fb)):=λ ρ G σ H δ S r' S' Q R e q qx=>by
 rcases aO e with ⟨c,em,rfl⟩ | ⟨b,S1,em,e⟩
 . exact fU (r:=Rs.xc c) ha hb R em (λ x y S2 e2=>by obtain ⟨_,_,z,_⟩:=b9 e2;cases z) (λ c' hc=>by cases hc;exact qx c rfl)
 . cases e;exact fU ha hb R em (λ x y S2 e2 v u ρ2 G2 H2 g2 s2 dv du=>by
    obtain ⟨c,e3,z,rfl⟩:=b9 e2;cases z;exact hr ρ2 H2 v u x y _ _ (dv.same g2.s) (du.same g2.s) e3 (q _ rfl _ ρ2 G2 H2 g2 s2 (.bl _))) (λ c hc=>by cases hc)
noncomputable def KY (f g:DS->ai->SM Bool):DS->ai->SM Bool:=λ δ S=>au (f δ S) λ b S1=>if b=true then g δ S1 else some (.ok false,S1)
noncomputable def LP (f g:DS->ai->SM Bool):DS->ai->SM Bool:=λ δ S=>au (f δ S) λ b S1=>if b=true then some (.ok true,S1) else g δ S1
noncomputable def uE (f:DS->ai->SM Bool):DS->ai->SM Bool:=λ δ S=>au (f δ S) λ b S1=>some (.ok (!b),S1)
theorem Fw {t:TT} {f:DS->ai->SM Bool} (h:ST K cl E t f):ST K cl E (F0 t) (uE f):=λ ρ G σ H δ S r S' Q R e q qx=>
 Fb h R e (λ b S1 e1 ρ1 G1 H1 g1 s1=>by cases e1;exact q _ rfl ρ1 G1 H1 g1 s1) qx
noncomputable def iL (f:DS->ai->SM (List W)):DS->ai->SM W:=λ δ S=>au (f δ S) λ ds S1=>if ds.length<=sizeLine then some (.ok (.tuple ds),S1) else none
theorem yp {t:TA} {f:DS->ai->SM (List W)} (h:SA K cl E t f):SE K cl E (zf t) (iL f):=λ ρ G σ H δ S r S' Q R e q qx=>
 lF h R e (λ ds S1 e1 vs ρ1 G1 H1 g1 s1 da=>by
  split at e1
  . rename_i hz;cases e1;refine ⟨by rw [da.length];exact hz,λ p H' n=>?_⟩;have g2:=Gr.nw g1.s n;exact q _ rfl _ ρ1 _ H' (g1.trans (.of g2)) (s1.grow g2) (.tup aH (da.same g2.g))
  . cases e1) qx
noncomputable def Kh (f:DS->ai->SM (List W)):DS->ai->SM W:=λ δ S=>au (f δ S) λ ds S1=>if ds.length<=sizeLine then some (.ok (.list ds),S1) else none
noncomputable def fz (f:DS->ai->SM (List W)):DS->ai->SM W:=λ δ S=>au (f δ S) λ ds S1=>if ds.length<=sizeLine then some (.ok (.ref S1.length),S1++[.lst ds]) else none
theorem AV {t:TA} {f:DS->ai->SM (List W)} (h:SA K cl E t f):SE K cl E (yU t) (fz f):=λ ρ G σ H δ S r S' Q R e q qx=>
 lF h R e (λ ds S1 e1 vs ρ1 G1 H1 g1 s1 da=>by
  split at e1
  . rename_i hz;cases e1;refine ⟨by rw [da.length];exact hz,λ p H' n=>?_⟩;obtain ⟨s2,g2⟩:=s1.push (o:=.lst ds) g1.s n λ ρ' hr=>⟨vs,n.2.2,da.ext hr⟩
    exact q _ rfl _ _ _ H' (g1.trans g2) s2 (.ref (by rw [<-s1.len];simp))
  . cases e1) qx
noncomputable def Jf:DS->ai->SM W:=λ _ S=>some (.ok (.ref S.length),S++[.dK []])
noncomputable def K1:DS->ai->SM W:=λ _ S=>some (.ok (.ref S.length),S++[.dT []])
theorem G8:SE K cl E zg Jf:=λ ρ G σ H δ S r S' Q R e q qx=>by
 cases e;intro p hp;obtain ⟨s2,g2⟩:=R.st.push (o:=.dK []) R.rl.sub (Nw.of (o:=.dK []) hp) λ ρ' hr=>⟨[],aH,.nil⟩
 exact q _ rfl _ _ _ _ g2 s2 (.ref (by rw [<-R.st.len];simp))
theorem Ha:SE K cl E zb K1:=λ ρ G σ H δ S r S' Q R e q qx=>by
 cases e;intro p hp;obtain ⟨s2,g2⟩:=R.st.push (o:=.dT []) R.rl.sub (Nw.of (o:=.dT []) hp) λ ρ' hr=>⟨[],aH,.nil⟩
 exact q _ rfl _ _ _ _ g2 s2 (.ref (by rw [<-R.st.len];simp))
noncomputable def iJ (x:W) (S:ai):Option (Nat×Ob):=match x with
 | .ref n=>(S[n]?).map λ o=>(n,o)
 | _=>none
theorem eP {x:W} {S:ai} {n:Nat} {o:Ob} (h:iJ x S=some (n,o)):x=.ref n/\S[n]?=some o:=by
 unfold iJ at h;split at h
 . obtain ⟨o',e1,e2⟩:=oM h
   cases e2;exact ⟨rfl,e1⟩
 . cases h
noncomputable def iD (c:Str) (x:W) (S:ai):Option (Nat×List (Str×W)):=match iJ x S with
 | some (n,.ins c' fs)=>if c'=c then some (n,fs) else none
 | _=>none
theorem jF {c:Str} {x:W} {S:ai} {n:Nat} {fs:List (Str×W)} (h:iD c x S=some (n,fs)):x=.ref n/\S[n]?=some (.ins c fs):=by
 unfold iD at h;cases e:iJ x S with
 | none=>rw [e] at h;cases h
 | some p=>
  obtain ⟨m,o⟩:=p;rw [e] at h;cases o with
  | ins c' fs'=>
   by_cases hc:c'=c
   . subst hc;cases (if_pos rfl).symm.trans h;exact eP e
   . cases (if_neg hc).symm.trans h
  | _=>cases h
noncomputable def gC (c f:Str) (fa:DS->ai->SM W):DS->ai->SM W:=λ δ S=>au (fa δ S) λ x S1=>(iD c x S1).bind λ p=>lq (p.2.lookup f) S1
theorem dz {ρ:List Addr} {G:Hp} {v:V} {n:Nat} (h:Dw K ρ G v (.ref n)):∃ a,v=.ref a/\ρ[n]?=some a:=by
 cases h with
 | ref e=>exact ⟨_,rfl,e⟩
theorem yD {c f:Str} {ta:TE} {fa:DS->ai->SM W} (hc:oo K (cl c)) (hn:aE K (cl c) f) (ha:SE K cl E ta fa):SE K cl E (Fh K ta f) (gC c f fa):=λ ρ G σ H δ S r S' Q R e q qx=>
 eQ ha R e (λ x S1 e1 v ρ1 G1 H1 g1 s1 dv=>by
  obtain ⟨⟨n,fs⟩,e2,e3⟩:=oB e1
  obtain ⟨d,e4,rfl,rfl⟩:=b9 e3;obtain ⟨rfl,e5⟩:=jF e2;obtain ⟨a,rfl,ea⟩:=dz dv;obtain ⟨ga,dx,ws,k1,k2,k3,k4⟩:=s1.addr e5 ea;obtain ⟨u,k5,k6⟩:=k4.lookup e4;exact ⟨a,_,dx,ws,u,rfl,k1,hc,hn,k5,q d rfl u ρ1 G1 H1 g1 s1 k6⟩) qx
noncomputable def Mw (K:Frag) (cl:Str->Addr) (f:List W->ai->SM W):Sp:=λ vs H Q E=>∃ ρ G S ds r S',bm G H/\SR K ρ cl G H S/\aw K ρ G vs ds/\f ds S=some (r,S')/\
 (∀ d,r=.ok d->∀ v ρ' G' H',GS ρ G H ρ' G' H'->SR K ρ' cl G' H' S'->Dw K ρ' G' v d->Q v H')/\(∀ c,r=.xc c->∀ ρ' G' H',GS ρ G H ρ' G' H'->SR K ρ' cl G' H' S'->E (.ref (cl c)) none H')
noncomputable def Fn (f:List W->Option W) (fa:DS->ai->SM (List W)):DS->ai->SM W:=λ δ S=>au (fa δ S) λ ds S1=>lq (f ds) S1
noncomputable def jY (K:Frag) (cl:Str->Addr) (f:List W->ai->SM W):Sp:=λ vs H Q _=>∃ ρ G S ds d S',bm G H/\SR K ρ cl G H S/\aw K ρ G vs ds/\f ds S=some (.ok d,S')/\
 ∀ v ρ' G' H',GS ρ G H ρ' G' H'->SR K ρ' cl G' H' S'->Dw K ρ' G' v d->Q v H'
noncomputable def AC (m:SM W):SM W:=match m with
 | some (.ok d,S)=>some (.ok d,S)
 | _=>none
theorem kF {m:SM W} {r:Rs W} {S':ai} (h:AC m=some (r,S')):∃ d,r=.ok d/\m=some (.ok d,S'):=by
 unfold AC at h;split at h
 . cases h;exact ⟨_,rfl,rfl⟩
 . cases h
noncomputable def cf (f:List W->ai->SM W) (fa:DS->ai->SM (List W)):DS->ai->SM W:=λ δ S=>au (fa δ S) λ ds S1=>AC (f ds S1)
theorem mW {f:List W->ai->SM W} {t:TA} {fa:DS->ai->SM (List W)} {E':XK} (h:SA K cl E t fa):SE K cl E (pv (jY K cl f) [] E' t) (cf f fa):=λ ρ G σ H δ S r S' Q R e q qx=>
 lF h R e (λ ds S1 e1 vs ρ1 G1 H1 g1 s1 da=>by
  obtain ⟨d,rfl,e2⟩:=kF e1;exact ⟨ρ1,G1,S1,ds,d,S',g1.s,s1,by rw [List.append_nil];exact da,e2,λ v ρ2 G2 H2 g2 s2 dv=>q d rfl v ρ2 G2 H2 (g1.trans g2) s2 dv⟩) qx
noncomputable def bo (c m:Str) (f:List W->ai->SM W) (fo:DS->ai->SM W) (fa:DS->ai->SM (List W)):DS->ai->SM W:=λ δ S=>au (fo δ S) λ x S1=>(iD c x S1).bind λ p=>if p.2.lookup m=none then au (fa δ S1) λ ds S2=>AC (f (x::ds) S2) else none
theorem jr {c m:Str} {f:List W->ai->SM W} {to:TE} {t:TA} {fo:DS->ai->SM W} {fa:DS->ai->SM (List W)} {E':XK} (ho:SE K cl E to fo) (h:SA K cl E t fa):SE K cl E (zG (cl c) m (jY K cl f) [] E' to t) (bo c m f fo fa):=λ ρ G σ H δ S r S' Q R e q qx=>
 eQ ho R e (λ x S1 e1 v ρ1 G1 H1 g1 s1 dv=>by
  obtain ⟨⟨n,fs⟩,e2,e3⟩:=oB e1
  split at e3
  case isFalse=>cases e3
  rename_i hm;obtain ⟨rfl,e5⟩:=jF e2;obtain ⟨a,rfl,ea⟩:=dz dv;obtain ⟨ga,dx,ws,k1,k2,k3,k4⟩:=s1.addr e5 ea;refine ⟨a,dx,ws,rfl,k1,k4.lookup_none hm,?_⟩;exact lF h (R.grow g1 s1) e3 (λ ds S2 e6 vs ρ2 G2 H2 g2 s2 da=>by
   obtain ⟨d,rfl,e7⟩:=kF e6;exact ⟨ρ2,G2,S2,.ref n::ds,d,S',g2.s,s2,by rw [List.append_nil];exact .cons ((dv.ext g2.r).same g2.g) da,e7,λ v ρ3 G3 H3 g3 s3 dv=>q d rfl v ρ3 G3 H3 (g1.trans (g2.trans g3)) s3 dv⟩) λ c hc ρ2 G2 H2 g2 s2=>qx c hc ρ2 G2 H2 (g1.trans g2) s2) qx
noncomputable def vO (c:Str) (f:List W->ai->SM W) (fa:DS->ai->SM (List W)):DS->ai->SM W:=λ δ S=>au (fa δ S) λ ds S1=>au (AC (f (.ref S1.length::ds) (S1++[.ins c []]))) λ d S2=>match d with
 | .none=>some (.ok (.ref S1.length),S2)
 | _=>none
theorem AE {c:Str} {f:List W->ai->SM W} {t:TA} {fa:DS->ai->SM (List W)} {E':XK} (h:SA K cl E t fa):SE K cl E (CM (cl c) (jY K cl f) [] E' t) (vO c f fa):=λ ρ G σ H δ S r S' Q R e q qx=>
 lF h R e (λ ds S1 e1 vs ρ1 G1 H1 g1 s1 da=>by
  intro x dx hx hdx hne;have na:Nw H1 (cn H1 dx (.own x)) dx (.own x):=.of hdx;have gA:Gr G1 H1 G1 (cn H1 dx (.own x)):=.nwO g1.s na;have hx':(cn H1 dx (.own x)) x=none:=by rw [aM (Ne.symm hne)];exact hx
  have nb:Nw (cn H1 dx (.own x)) (cn (cn H1 dx (.own x)) x (.ins (cl c) dx [])) x (.ins (cl c) dx []):=.of hx';obtain ⟨s2,g2⟩:=(s1.grow gA).push (o:=.ins c []) gA.s nb λ ρ' hr=>⟨dx,[],aH,cF g1.s hdx,by rw [aM hne];exact aH,.nil⟩
  have g12:=(GS.of (ρ:=ρ1) gA).trans g2;have dx1:aw K (ρ1++[x]) G1 (.ref x::vs) (.ref S1.length::ds):=.cons (.ref (by rw [<-s1.len];simp)) (da.ext ⟨[x],rfl⟩);rcases aO e1 with ⟨c',em,rfl⟩ | ⟨d,S2,em,e2⟩
  . obtain ⟨_,z,_⟩:=kF em;cases z
  . obtain ⟨d',z,em⟩:=kF em;cases z;refine ⟨_,G1,_,_,_,_,g2.s,s2,by rw [List.append_nil];exact dx1,em,λ v ρ3 G3 H3 g3 s3 dv=>?_⟩;split at e2
    . cases e2;exact ⟨uh dv,q _ rfl _ ρ3 G3 H3 (g1.trans (g12.trans g3)) s3 (.ref (by
       have h1:(ρ1++[x])[S1.length]?=some x:=by rw [<-s1.len];simp
       obtain ⟨t',ht⟩:=g3.r;rw [<-ht,List.getElem?_append_left (oG h1).1];exact h1))⟩
    . cases e2) qx
noncomputable def Gz (K:Frag) (cl:Str->Addr) (E:XK) (wi:TI) (f:DS->ai->SM (List W)):Prop:=
 ∀ (ρ:List Addr) (G:Hp) (σ:St) (H:Hp) (δ:DS) (S:ai) (r:Rs (List W)) (S':ai) (R':It->Hp->Prop),RS K cl ρ G H δ σ S->f δ S=some (r,S')->
  (∀ ds,r=.ok ds->∀ J ρ' G' H',GS ρ G H ρ' G' H'->SR K ρ' cl G' H' S'->HG K ρ' J G' ds->R' J H')->
  (∀ c,r=.xc c->∀ ρ' G' H',GS ρ G H ρ' G' H'->SR K ρ' cl G' H' S'->E (.ref (cl c)) none H')->wi σ H R'
theorem yW {wi:TI} {f:DS->Option (List W)} (h:∀ ρ,DI K ρ wi f):Gz K cl E wi (ab f):=λ ρ G σ H δ S r S' R' R e q qx=>by
 obtain ⟨ds,e1,rfl,rfl⟩:=ij e;exact h ρ G σ H δ ds R' R.rl e1 λ J G' H' g it=>q ds rfl J ρ G' H' (.of g) (R.st.grow g) it
noncomputable def wz (f:DS->ai->SM W):DS->ai->SM (List W):=λ δ S=>au (f δ S) λ x S1=>lq (qD x) S1
theorem BZ {t:TE} {f:DS->ai->SM W} (h:SE K cl E t f):Gz K cl E (xG K t) (wz f):=λ ρ G σ H δ S r S' R' R e q qx=>
 eQ h R e (λ x S1 e1 v ρ1 G1 H1 g1 s1 dv=>by
  obtain ⟨ds,e2,rfl,rfl⟩:=b9 e1;cases dv with
  | lst sq da=>
   cases e2;exact ⟨_,rfl,.inl ⟨⟨_,g1.s.seq sq⟩,q _ rfl _ ρ1 G1 H1 g1 s1 λ i G2 H2 a b=>oy b ((a.trans b).seq sq) (da.same a)⟩⟩
  | tup sq da=>
   cases e2;exact ⟨_,rfl,.inr ⟨⟨_,g1.s.tup (ez.of sq)⟩,q _ rfl _ ρ1 G1 H1 g1 s1 λ i G2 H2 a b=>uM b ((a.trans b).tup (ez.of sq)) (da.same a)⟩⟩
  | _=>cases e2) qx
end
inductive sS where
 | nx (δ:DS)
 | bk (δ:DS)
 | ct (δ:DS)
 | rt (d:W)
 | xc (c:Str)
noncomputable abbrev SO:=Option (sS×ai)
section
variable {K:Frag} {cl:Str->Addr} {E:XK}
structure mM (K:Frag) (cl:Str->Addr) (ρ0:List Addr) (G0 H0:Hp) (ρ:List Addr) (G H:Hp) (δ:DS) (σ:St) (S:ai):Prop where
 rs:RS K cl ρ G H δ σ S
 gs:GS ρ0 G0 H0 ρ G H
 ow:∀ (i:Nat) p ds,δ[i]?=some (.own ds)->σ[i]?=some (some (.ref p))->H0 p=none
noncomputable def B5 (K:Frag) (cl:Str->Addr) (E:XK) (ρ0:List Addr) (G0 H0:Hp) (D:jx) (S:ai):sS->Prop
 | .nx δ=>∀ σ ρ G H,mM K cl ρ0 G0 H0 ρ G H δ σ S->D.nx σ H
 | .bk δ=>∀ σ ρ G H,mM K cl ρ0 G0 H0 ρ G H δ σ S->D.bk σ H
 | .ct δ=>∀ σ ρ G H,mM K cl ρ0 G0 H0 ρ G H δ σ S->D.ct σ H
 | .rt d=>∀ v ρ G H,GS ρ0 G0 H0 ρ G H->SR K ρ cl G H S->Dw K ρ G v d->D.rt v H
 | .xc c=>∀ ρ G H,GS ρ0 G0 H0 ρ G H->SR K ρ cl G H S->E (.ref (cl c)) none H
noncomputable def oO (K:Frag) (cl:Str->Addr) (E:XK) (t:TS) (f:DS->ai->SO):Prop:=
 ∀ (ρ0:List Addr) (G0 H0:Hp) (ρ:List Addr) (G:Hp) (σ:St) (H:Hp) (δ:DS) (S:ai) (o:sS) (S':ai) (D:jx),mM K cl ρ0 G0 H0 ρ G H δ σ S->f δ S=some (o,S')->B5 K cl E ρ0 G0 H0 D S' o->t D σ H
theorem mM.grow {ρ0:List Addr} {G0 H0:Hp} {ρ ρ':List Addr} {G H G' H':Hp} {δ:DS} {σ:St} {S S':ai} (I:mM K cl ρ0 G0 H0 ρ G H δ σ S) (g:GS ρ G H ρ' G' H') (s:SR K ρ' cl G' H' S'):mM K cl ρ0 G0 H0 ρ' G' H' δ σ S':=⟨I.rs.grow g s,I.gs.trans g,I.ow⟩
theorem mM.sub {ρ0:List Addr} {G0 H0:Hp} {ρ:List Addr} {G H:Hp} {δ δ':DS} {σ σ':St} {S:ai} (I:mM K cl ρ0 G0 H0 ρ G H δ σ S) (R:Rl K ρ G H δ' σ') (o:fY δ' σ' δ σ):mM K cl ρ0 G0 H0 ρ G H δ' σ' S:=
 ⟨⟨R,I.rs.st,λ i ds p h1 h2=>by
  obtain ⟨es,h3,h4⟩:=o i ds p h1 h2;exact I.rs.ap i es p h3 h4⟩,I.gs,λ i p ds h1 h2=>by
  obtain ⟨es,h3,h4⟩:=o i ds p h1 h2;exact I.ow i p es h3 h4⟩
theorem mM.base {ρ0:List Addr} {G0 H0:Hp} {ρ:List Addr} {G H:Hp} {δ:DS} {σ:St} {S:ai} (I:mM K cl ρ0 G0 H0 ρ G H δ σ S):mM K cl ρ G H0 ρ G H δ σ S:=
 ⟨I.rs,⟨List.prefix_refl _,.refl _,I.gs.s,λ b o hb e=>I.gs.h b o (λ h=>hb (I.gs.r.subset h)) e,I.gs.k,λ _ _ e=>e,λ a h1 h2=>absurd h1 h2,I.gs.t⟩,I.ow⟩
theorem GS.rebase {ρ0:List Addr} {G0 H0:Hp} {ρ:List Addr} {G H:Hp} {ρ':List Addr} {G' H':Hp} (a:GS ρ0 G0 H0 ρ G H) (b:GS ρ G H0 ρ' G' H'):GS ρ0 G0 H0 ρ' G' H':=
 ⟨a.r.trans b.r,a.g.trans b.g,b.s,λ c o hc e=>b.h c o (λ h=>by rw [a.f c h hc] at e;cases e) e,b.k,λ c h1 h2=>b.n c h1 (a.n c h1 h2),(λ c h1 h2=>by
  by_cases h3:c∈ρ
  . exact a.f c h3 h2
  . exact b.f c h1 h3),b.t⟩
theorem mM.rebase {ρ0:List Addr} {G0 H0:Hp} {ρ:List Addr} {G H:Hp} {ρ':List Addr} {G' H':Hp} {δ:DS} {σ:St} {S:ai} (a:GS ρ0 G0 H0 ρ G H) (I:mM K cl ρ G H0 ρ' G' H' δ σ S):mM K cl ρ0 G0 H0 ρ' G' H' δ σ S:=⟨I.rs,a.rebase I.gs,I.ow⟩
noncomputable def sW (δ:DS) (σ:St) (b:Addr):Prop:=∃ (i:Nat) (ds:List W),δ[i]?=some (.own ds)/\σ[i]?=some (some (.ref b))
noncomputable def hideO (δ:DS) (σ:St) (H:Hp):Hp:=λ b=>@ite _ (sW δ σ b) (Classical.propDecidable _) none (H b)
theorem pD {δ:DS} {σ:St} {H:Hp} {b:Addr} (h:sW δ σ b):hideO δ σ H b=none:=by
 unfold hideO;rw [if_pos h]
theorem cU {δ:DS} {σ:St} {H:Hp} {b:Addr} (h:¬ sW δ σ b):hideO δ σ H b=H b:=by
 unfold hideO;rw [if_neg h]
noncomputable def zv:dm->sS
 | .nx δ=>.nx δ
 | .bk δ=>.bk δ
 | .ct δ=>.ct δ
 | .rt d=>.rt d
noncomputable def aQ (f:DS->Option dm):DS->ai->SO:=λ δ S=>(f δ).map λ o=>(zv o,S)
theorem wg {t:TS} {f:DS->Option dm} (h:∀ ρ,mT K ρ t f):oO K cl E t (aQ f):=λ ρ0 G0 H0 ρ G σ H δ S o S' D I e p=>by
 obtain ⟨o',e1,e2⟩:=oM e
 cases e2;have same0:bm (hideO δ σ H) H:=λ b u hb=>by
  by_cases ho:sW δ σ b
  . rw [pD ho] at hb;cases hb
  . rw [cU ho] at hb;exact hb
 have sameG:bm G (hideO δ σ H):=λ b u hb=>by
  by_cases ho:sW δ σ b
  . obtain ⟨i,ds,k1,k2⟩:=ho;obtain ⟨o,m1,q,vs,rfl,m3,m4,m5⟩:=I.rs.rl.sl i _ k1;rw [k2] at m1;cases m1;rw [m3] at hb;cases hb
  . rw [cU ho];exact I.gs.s b u hb
 have notown:∀ a,a∈ρ->¬ sW δ σ a:=λ a ha hy0=>by obtain ⟨i,ds,k1,k2⟩:=hy0;exact I.rs.ap i ds a k1 k2 ha
 have ownlst:∀ b,sW δ σ b->∃ vs,H b=some (.lst vs):=λ b hy0=>by
  obtain ⟨i,ds,k1,k2⟩:=hy0;obtain ⟨o,m1,q,vs,rfl,m3,m4,m5⟩:=I.rs.rl.sl i _ k1;rw [k2] at m1;cases m1;exact ⟨vs,m4⟩
 have sr0:SR K ρ cl G (hideO δ σ H) S:=⟨I.rs.st.len,I.rs.st.nd,λ n ob en=>by
  obtain ⟨a,k1,k2,k3⟩:=I.rs.st.ob n ob en;refine ⟨a,k1,k2,k3.move (List.prefix_refl _) (.refl _) (cU (notown a (List.mem_of_getElem? k1))) λ dx d1 d2=>⟨?_,d1⟩⟩;rw [cU λ ho=>by
   obtain ⟨vs,hv⟩:=ownlst dx ho;rw [d2] at hv;cases hv]
  exact d2⟩
 have iv:Iv K ρ G (hideO δ σ H) G H δ σ:=⟨I.rs.rl,⟨.refl _,same0,I.gs.s,λ _ _ e=>e⟩,λ i q ds k1 k2=>pD ⟨i,ds,k1,k2⟩⟩
 have h0own:∀ b,H0 b≠none->¬ sW δ σ b:=λ b hb hy0=>by obtain ⟨i,ds,k1,k2⟩:=hy0;exact hb (I.ow i b ds k1 k2)
 have gs:∀ {G' H':Hp},Gr G (hideO δ σ H) G' H'->GS ρ0 G0 H0 ρ G' H':=λ {G' H'} g=>
  ⟨I.gs.r,I.gs.g.trans g.g,g.s,λ b u hb eb=>g.h b u (by rw [cU (h0own b (by rw [eb];simp))];exact I.gs.h b u hb eb),λ b hb=>qE g.h (by rw [cU (h0own b hb)];exact I.gs.k b hb),λ b h1 h2=>g.n b (by unfold nT;rw [cU (h0own b h1.1)];exact I.gs.t b h1) (I.gs.n b h1 h2),I.gs.f,λ b h1=>nT.same (by unfold nT;rw [cU (h0own b h1.1)];exact I.gs.t b h1) g.h⟩
 have nx:∀ {δ':DS} {σ':St} {G' H':Hp},Iv K ρ G (hideO δ σ H) G' H' δ' σ'->mM K cl ρ0 G0 H0 ρ G' H' δ' σ' S:=λ {δ' σ' G' H'} I'=>
  ⟨⟨I'.rl,sr0.grow I'.gr,λ i ds q k1 k2 hq=>by
   have:=I'.ow i q ds k1 k2;rw [cU (notown q hq)] at this;obtain ⟨j,hj,ej⟩:=List.mem_iff_getElem.mp hq;obtain ⟨b,m1,m2,m3⟩:=I.rs.st.ob j (S[j]'(by rw [<-I.rs.st.len];exact hj)) (List.getElem?_eq_getElem _);rw [List.getElem?_eq_getElem hj,ej] at m1;cases m1;obtain ⟨y,hy,_⟩:=m3.some;rw [this] at hy;cases hy⟩,gs I'.gr,λ i q ds k1 k2=>by
   have h1:=I'.ow i q ds k1 k2;cases h2:H0 q with
   | none=>rfl
   | some u=>
    exfalso;have h3:=I.gs.k q (by rw [h2];simp);rw [cU (h0own q (by rw [h2];simp))] at h1;exact h3 h1⟩
 refine h ρ G (hideO δ σ H) G σ H δ o' D iv e1 ?_;cases o' with
 | nx δ'=>exact λ σ' G' H' I'=>p σ' ρ G' H' (nx I')
 | bk δ'=>exact λ σ' G' H' I'=>p σ' ρ G' H' (nx I')
 | ct δ'=>exact λ σ' G' H' I'=>p σ' ρ G' H' (nx I')
 | rt d=>exact λ v G' H' g dv=>p v ρ G' H' (gs g) (sr0.grow g) dv
noncomputable def aD (f g:DS->ai->SO):DS->ai->SO:=λ δ S=>match f δ S with
 | some (.nx δ',S')=>g δ' S'
 | o=>o
theorem lM {t u:TS} {f g:DS->ai->SO} (h1:oO K cl E t f) (h2:oO K cl E u g):oO K cl E (EE t u) (aD f g):=λ ρ0 G0 H0 ρ G σ H δ S o S' D I e p=>by
 unfold aD at e;cases ef:f δ S with
 | none=>rw [ef] at e;cases e
 | some r=>
  obtain ⟨o1,S1⟩:=r;rw [ef] at e;refine h1 ρ0 G0 H0 ρ G σ H δ S o1 S1 _ I ef ?_;cases o1 with
  | nx δ'=>exact λ σ' ρ' G' H' I'=>h2 ρ0 G0 H0 ρ' G' σ' H' δ' S1 o S' D I' e p
  | bk δ'=>cases e;exact p
  | ct δ'=>cases e;exact p
  | rt d=>cases e;exact p
  | xc c=>cases e;exact p
noncomputable def m9 {α:Type} (m:SM α) (k:α->ai->SO):SO:=match m with
 | some (.ok a,S)=>k a S
 | some (.xc c,S)=>some (.xc c,S)
 | none=>none
theorem oq {α:Type} {m:SM α} {k:α->ai->SO} {o:sS} {S':ai} (h:m9 m k=some (o,S')):(∃ c,m=some (.xc c,S')/\o=.xc c)∨∃ a S1,m=some (.ok a,S1)/\k a S1=some (o,S'):=by
 unfold m9 at h;split at h
 . exact .inr ⟨_,_,rfl,h⟩
 . cases h;exact .inl ⟨_,rfl,rfl⟩
 . cases h
theorem eJ {t:TE} {f:DS->ai->SM W} (h:SE K cl E t f) {ρ0:List Addr} {G0 H0:Hp} {ρ:List Addr} {G:Hp} {σ:St} {H:Hp} {δ:DS} {S:ai} {o:sS} {S':ai} {D:jx} {k:W->ai->SO} {P:V->Hp->Prop} (I:mM K cl ρ0 G0 H0 ρ G H δ σ S) (e:m9 (f δ S) k=some (o,S')) (p:B5 K cl E ρ0 G0 H0 D S' o)
 (q:∀ d S1,k d S1=some (o,S')->∀ v ρ' G' H',GS ρ G H ρ' G' H'->SR K ρ' cl G' H' S1->Dw K ρ' G' v d->P v H'):t σ H P:=by
 rcases oq e with ⟨c,em,rfl⟩ | ⟨d,S1,em,e⟩
 . exact h ρ G σ H δ S _ _ _ I.rs em (λ d hd=>by cases hd) (λ c' hc ρ1 G1 H1 g1 s1=>by cases hc;exact p ρ1 G1 H1 (I.gs.trans g1) s1)
 . exact h ρ G σ H δ S _ _ _ I.rs em (λ d' hd=>by cases hd;exact q _ _ e) (λ c' hc=>by cases hc)
theorem C9 {t:TT} {f:DS->ai->SM Bool} (h:ST K cl E t f) {ρ0:List Addr} {G0 H0:Hp} {ρ:List Addr} {G:Hp} {σ:St} {H:Hp} {δ:DS} {S:ai} {o:sS} {S':ai} {D:jx} {k:Bool->ai->SO} {P:Bool->Hp->Prop} (I:mM K cl ρ0 G0 H0 ρ G H δ σ S) (e:m9 (f δ S) k=some (o,S')) (p:B5 K cl E ρ0 G0 H0 D S' o)
 (q:∀ d S1,k d S1=some (o,S')->∀ ρ' G' H',GS ρ G H ρ' G' H'->SR K ρ' cl G' H' S1->P d H'):t σ H P:=by
 rcases oq e with ⟨c,em,rfl⟩ | ⟨d,S1,em,e⟩
 . exact h ρ G σ H δ S _ _ _ I.rs em (λ d hd=>by cases hd) (λ c' hc ρ1 G1 H1 g1 s1=>by cases hc;exact p ρ1 G1 H1 (I.gs.trans g1) s1)
 . exact h ρ G σ H δ S _ _ _ I.rs em (λ d' hd=>by cases hd;exact q _ _ e) (λ c' hc=>by cases hc)
noncomputable def cv (c:DS->ai->SM Bool) (f g:DS->ai->SO):DS->ai->SO:=λ δ S=>m9 (c δ S) λ b S1=>if b=true then f δ S1 else g δ S1
theorem pN {tc:TT} {t u:TS} {c:DS->ai->SM Bool} {f g:DS->ai->SO} (hc:ST K cl E tc c) (h1:oO K cl E t f) (h2:oO K cl E u g):oO K cl E (Gg tc t u) (cv c f g):=λ ρ0 G0 H0 ρ G σ H δ S o S' D I e p=>
 C9 hc I e p λ b S1 e1 ρ1 G1 H1 g1 s1=>by
  cases b with
  | true=>exact h1 ρ0 G0 H0 ρ1 G1 σ H1 δ S1 o S' D (I.grow g1 s1) e1 p
  | false=>exact h2 ρ0 G0 H0 ρ1 G1 σ H1 δ S1 o S' D (I.grow g1 s1) e1 p
noncomputable def hU (f:DS->ai->SM W):DS->ai->SO:=λ δ S=>m9 (f δ S) λ d S1=>some (.rt d,S1)
theorem Aw {t:TE} {f:DS->ai->SM W} (h:SE K cl E t f):oO K cl E (F5 t) (hU f):=λ ρ0 G0 H0 ρ G σ H δ S o S' D I e p=>
 eJ h I e p λ d S1 e1 v ρ1 G1 H1 g1 s1 dv=>by
  cases e1;exact p v ρ1 G1 H1 (I.gs.trans g1) s1 dv
noncomputable def dX (f:DS->ai->SM W) (h:W->DS->Option DS):DS->ai->SO:=λ δ S=>m9 (f δ S) λ d S1=>(h d δ).map λ δ'=>(.nx δ',S1)
theorem zu {t:TE} {g:TG} {f:DS->ai->SM W} {h:W->DS->Option DS} (h1:SE K cl E t f) (h2:∀ ρ,DG K ρ g h):oO K cl E (oZ t g) (dX f h):=λ ρ0 G0 H0 ρ G σ H δ S o S' D I e p=>
 eJ h1 I e p λ d S1 e1 v ρ1 G1 H1 g1 s1 dv=>by
  obtain ⟨δ',e2,e3⟩:=oM e1
  cases e3;have I1:=I.grow g1 s1;exact h2 ρ1 G1 H1 δ σ v d δ' _ I1.rs.rl dv e2 λ σ' R o=>p σ' ρ1 G1 H1 (I1.sub R o)
noncomputable def aK (f:DS->ai->SM W):DS->ai->SO:=λ δ S=>m9 (f δ S) λ _ S1=>some (.nx δ,S1)
theorem eU {t:TE} {f:DS->ai->SM W} (h:SE K cl E t f):oO K cl E (pZ t) (aK f):=λ ρ0 G0 H0 ρ G σ H δ S o S' D I e p=>
 eJ h I e p λ d S1 e1 v ρ1 G1 H1 g1 s1 dv=>by
  cases e1;exact p σ ρ1 G1 H1 (I.grow g1 s1)
noncomputable def Hi (i:Nat) (f:DS->ai->SO):DS->ai->SO:=λ δ S=>f (frz i δ) S
noncomputable def fS (c f:Str) (fo fv:DS->ai->SM W):DS->ai->SO:=λ δ S=>m9 (fv δ S) λ d S1=>m9 (fo δ S1) λ x S2=>(iD c x S2).bind λ p=>if p.2.length<1000 then some (.nx δ,S2.set p.1 (.ins c (fq f d p.2))) else none
theorem yA {c f:Str} {to tv:TE} {fo fv:DS->ai->SM W} (hc:oo K (cl c)) (hn:aE K (cl c) f) (ho:SE K cl E to fo) (hv:SE K cl E tv fv):oO K cl E (HE K to tv f) (fS c f fo fv):=λ ρ0 G0 H0 ρ G σ H δ S o S' D I e p=>
 eJ hv I e p λ d S1 e1 v ρ1 G1 H1 g1 s1 dv=>by
  have I1:=I.grow g1 s1;refine eJ ho I1 e1 p λ x S2 e2 u ρ2 G2 H2 g2 s2 du=>?_;obtain ⟨⟨n,fs⟩,e3,e4⟩:=oB e2
  split at e4
  case isFalse=>cases e4
  rename_i hl;cases e4;obtain ⟨rfl,e5⟩:=jF e3;obtain ⟨a,rfl,ea⟩:=dz du;obtain ⟨ga,dx,ws,k1,k2,k3,k4⟩:=s2.addr e5 ea;have I2:=I1.grow g2 s2;have hda:dx≠a:=λ z=>by rw [z,k1] at k3;cases k3
  obtain ⟨s3,g3⟩:=s2.put (x:=.ins (cl c) dx (putF f v ws)) (o':=.ins c (fq f d fs)) g2.s e5 ea (λ b z=>by cases z) ⟨dx,_,aH,k2,by rw [aM hda];exact k3,k4.putF ((dv.ext g2.r).same g2.g)⟩;exact ⟨a,_,dx,ws,rfl,k1,hc,hn,by rw [<-k4.length];exact hl,p σ ρ2 G2 _ (I2.grow g3 s3)⟩
noncomputable def bY (h:W->DS->Option DS) (fb:DS->ai->SO):List W->DS->ai->SO
 | [],δ,S=>some (.nx δ,S)
 | d::ds,δ,S=>(h d δ).bind λ δ2=>match fb δ2 S with
  | some (.nx δ',S')=>bY h fb ds δ' S'
  | some (.ct δ',S')=>bY h fb ds δ' S'
  | some (.bk δ',S')=>some (.nx δ',S')
  | some (.rt d,S')=>some (.rt d,S')
  | some (.xc c,S')=>some (.xc c,S')
  | none=>none
noncomputable def jC (fi:DS->ai->SM (List W)) (h:W->DS->Option DS) (fb:DS->ai->SO):DS->ai->SO:=λ δ S=>m9 (fi δ S) λ ds S1=>bY h fb ds δ S1
theorem Ak {wi:TI} {g:TG} {tb:TS} {fi:DS->ai->SM (List W)} {h:W->DS->Option DS} {fb:DS->ai->SO} (hi:Gz K cl E wi fi) (hg:∀ ρ,DG K ρ g h) (hb:oO K cl E tb fb):oO K cl E (Ea wi g tb) (jC fi h fb):=λ ρ0 G0 H0 ρ G σ H δ S o S' D I e p=>by
 rcases oq e with ⟨c,em,rfl⟩ | ⟨ds,S1,em,e⟩
 . exact hi ρ G σ H δ S _ _ _ I.rs em (λ d hd=>by cases hd) (λ c' hc ρ1 G1 H1 g1 s1=>by cases hc;exact p ρ1 G1 H1 (I.gs.trans g1) s1)
 refine hi ρ G σ H δ S _ _ _ I.rs em (λ ds' hd=>?_) (λ c' hc=>by cases hc);cases hd;intro J ρ1 G1 H1 g1 s1 it;refine ⟨λ i m σ H=>m=ds.length-i/\i<=ds.length/\∃ ρ2 G2 δ2 S2,mM K cl ρ0 G0 H0 ρ2 G2 H δ2 σ S2/\ρ1 <+: ρ2/\bm G1 G2/\bY h fb (ds.drop i) δ2 S2=some (o,S'),⟨ds.length,by simp,Nat.zero_le _,ρ1,G1,δ,S1,I.grow g1 s1,List.prefix_refl _,.refl _,by simpa using e⟩,?_⟩;rintro i m σ2 H2 ⟨rfl,hil,ρ2,G2,δ2,S2,I2,pr2,s2,e2⟩;have ia:=it i G2 H2 s2 I2.gs.s;by_cases hlt:i<ds.length
 . refine .inr ?_;obtain ⟨go,step⟩:=ia.1 ds[i] (List.getElem?_eq_getElem hlt);rw [List.drop_eq_getElem_cons hlt] at e2;obtain ⟨δ3,e3,e4⟩:=oB e2
   have turn:∀ (P:jx) (o1:sS) (S3:ai),fb δ3 S2=some (o1,S3)->(∀ G3 H3,Gr G2 H2 G3 H3->B5 K cl E ρ2 G3 H0 P S3 o1)->∀ x H',J.yld i H2 x H'->g x σ2 H' λ σ2 H2=>tb P σ2 H2:=λ P o1 S3 ef hp x H' y=>by
    obtain ⟨G3,g3,dx⟩:=step x H' y;have I3:=I2.grow (.of g3) (I2.rs.st.grow g3);refine hg ρ2 G3 H' δ2 σ2 x _ δ3 _ I3.rs.rl (dx.ext pr2) e3 λ σ3 R3 o3=>?_;exact hb ρ2 G3 H0 ρ2 G3 σ3 H' δ3 S2 o1 S3 P (I3.sub R3 o3).base ef (hp G3 H' g3)
   have back:∀ {G3 H3:Hp},Gr G2 H2 G3 H3->∀ {ρ4:List Addr} {G4 H4:Hp} {σ4:St} {δ4:DS} {S4:ai},mM K cl ρ2 G3 H0 ρ4 G4 H4 δ4 σ4 S4->mM K cl ρ0 G0 H0 ρ4 G4 H4 δ4 σ4 S4/\ρ1 <+: ρ4/\bm G1 G4:=λ {G3 H3} g3 {ρ4 G4 H4 σ4 δ4 S4} I4=>⟨I4.rebase (I2.gs.trans (.of g3)),pr2.trans I4.gs.r,s2.trans (g3.g.trans I4.gs.g)⟩
   cases ef:fb δ3 S2 with
   | none=>rw [ef] at e4;cases e4
   | some r=>
    obtain ⟨o1,S3⟩:=r;rw [ef] at e4;cases o1 with
    | nx δ'=>
     exact ⟨go,λ σ' H'=>∃ ρ' G',mM K cl ρ0 G0 H0 ρ' G' H' δ' σ' S3/\ρ1 <+: ρ'/\bm G1 G',λ σ' H' hy0=>by obtain ⟨ρ',G',I',q1,q2⟩:=hy0;exact ⟨ds.length-(i+1),by omega,rfl,hlt,ρ',G',δ',S3,I',q1,q2,e4⟩,turn _ _ _ ef λ G3 H3 g3 σ5 ρ5 G5 H5 I5=>⟨ρ5,G5,back g3 I5⟩⟩
    | ct δ'=>
     exact ⟨go,λ σ' H'=>∃ ρ' G',mM K cl ρ0 G0 H0 ρ' G' H' δ' σ' S3/\ρ1 <+: ρ'/\bm G1 G',λ σ' H' hy0=>by obtain ⟨ρ',G',I',q1,q2⟩:=hy0;exact ⟨ds.length-(i+1),by omega,rfl,hlt,ρ',G',δ',S3,I',q1,q2,e4⟩,turn _ _ _ ef λ G3 H3 g3 σ5 ρ5 G5 H5 I5=>⟨ρ5,G5,back g3 I5⟩⟩
    | bk δ'=>
     cases e4;exact ⟨go,λ _ _=>False,λ _ _ z=>z.elim,turn _ _ _ ef λ G3 H3 g3 σ5 ρ5 G5 H5 I5=>p σ5 ρ5 G5 H5 (back g3 I5).1⟩
    | rt d=>
     cases e4;exact ⟨go,λ _ _=>False,λ _ _ z=>z.elim,turn _ _ _ ef λ G3 H3 g3 v ρ5 G5 H5 g5 s5 dv=>p v ρ5 G5 H5 ((I2.gs.trans (.of g3)).rebase g5) s5 dv⟩
    | xc c=>
     cases e4;exact ⟨go,λ _ _=>False,λ _ _ z=>z.elim,turn _ _ _ ef λ G3 H3 g3 ρ5 G5 H5 g5 s5=>p ρ5 G5 H5 ((I2.gs.trans (.of g3)).rebase g5) s5⟩
 . have hi':i=ds.length:=by omega
   subst hi';rw [List.drop_length] at e2;cases e2;exact .inl ⟨ia.2 (Nat.le_refl _),p σ2 ρ2 G2 H2 I2⟩
noncomputable def dY:SO->SM W
 | some (.rt d,S)=>some (.ok d,S)
 | some (.nx _,S)=>some (.ok .none,S)
 | some (.xc c,S)=>some (.xc c,S)
 | _=>none
noncomputable def bN (a n:Nat) (fb:DS->ai->SO):List W->ai->SM W:=λ ds S=>if ds.length=a then dY (fb (b8 n ds) S) else none
theorem pK {a n:Nat} {fb:DS->ai->SO} {ds:List W} {S:ai} {r:Rs W×ai} (h:bN a n fb ds S=some r):ds.length=a:=by
 unfold bN at h;split at h
 . assumption
 . cases h
theorem Kl {t:TS} {fb:DS->ai->SO} {N:List Str} {a n:Nat} {vs:List V} {H:Hp} {Q:VK} {E:XK} (hn:N.length=n) (h:oO K cl E t fb) (hsp:Mw K cl (bN a n fb) vs H Q E):t { nx:=λ _ H'=>Q .non H',rt:=Q } (start N vs) H:=by
 subst hn;obtain ⟨ρ,G,S,ds,r,S',s,sr,da,e,q,qx⟩:=hsp;have R:=sL (N:=N) s da;have I:mM K cl ρ G H ρ G H (b8 N.length ds) (start N vs) S:=⟨⟨R,sr,λ i ds' p h1=>absurd h1 im⟩,.refl s,λ i p ds' h1=>absurd h1 im⟩
 unfold bN at e;rw [if_pos (pK (show bN a N.length fb ds S=some (r,S') from e))] at e;cases ef:fb (b8 N.length ds) S with
 | none=>rw [ef] at e;cases e
 | some o=>
  obtain ⟨o,S1⟩:=o;rw [ef] at e;refine h ρ G H ρ G _ H _ S o S1 _ I ef ?_;cases o with
  | nx δ=>cases e;exact λ σ' ρ' G' H' I'=>q _ rfl _ ρ' G' H' I'.gs I'.rs.st .non
  | rt d'=>cases e;exact λ v ρ' G' H' g s dv=>q _ rfl v ρ' G' H' g s dv
  | xc c=>cases e;exact λ ρ' G' H' g s=>qx _ rfl ρ' G' H' g s
  | bk _=>cases e
  | ct _=>cases e
theorem Cc {f:List W->ai->SM W} {a:Nat} {vs:List V} {H:Hp} {Q:VK} {E:XK} (hf:∀ ds S r,f ds S=some r->ds.length=a) (h:jY K cl f vs H Q E):vs.length=a:=by
 obtain ⟨ρ,G,S,ds,r,S',s,sr,da,e,q⟩:=h;rw [da.length];exact hf ds S _ e
theorem HQ {t:TS} {fb:DS->ai->SO} {N:List Str} {a n:Nat} {vs:List V} {H:Hp} {Q:VK} {E:XK} (hn:N.length=n) (h:oO K cl E0 t fb) (hsp:jY K cl (bN a n fb) vs H Q E):t { nx:=λ _ H'=>Q .non H',rt:=Q } (start N vs) H:=by
 obtain ⟨ρ,G,S,ds,d,S',s,sr,da,e,q⟩:=hsp;exact Kl (E:=E0) hn h ⟨ρ,G,S,ds,.ok d,S',s,sr,da,e,(λ d' hd=>by cases hd;exact q),(λ c hc=>by cases hc)⟩
theorem Az {g:List W->ai->SM W} {vs:List V} {H:Hp} {Q:VK} {E:XK} (hg:∀ ds S,g ds S=none) (h:jY K cl g vs H Q E):False:=by
 obtain ⟨ρ,G,S,ds,r,S',s,sr,da,e,q⟩:=h;rw [hg] at e;cases e
theorem eF.no0 {P:Program} {w:World} {mg:Str->Option Value} {base:Heap} {CX:vv} {k:Nat} {f:Addr} {fd:FuncData} {ps:List Str} {g:List W->ai->SM W} (hg:∀ ds S,g ds S=none):eF P w K mg base CX k f fd ps (jY K cl g):=
 ⟨λ _ _ _ _ h=>(Az hg h).elim,λ _ _ _ _ _ _ _ _ _ _ _ _ _ h=>(Az hg h).elim⟩
end
section
variable {X:Cx} {pins:List (Addr×Obj)} {σ:St} {H:Hp} {s:Shared} {a:Addr} {kvs:List (bg×V)} {k:bg} {u:Value} {A:Around} {E:Value->Shared->Prop}
end
section
variable {X:Cx} {o e f:Expr} {td ty tx:TE} {apos cpos:Pos}
end
section
variable {prog:Program} {w:World} {A:Around} {E:Value->Shared->Prop} {s:Shared}
end
section
variable {X:Cx} {pos:Pos}
end
section
variable {K:Frag} {ρ:List Addr}
noncomputable def IW:W->Option V
 | .none=>some .non
 | .bool b=>some (.bl b)
 | .int i=>some (.int i)
 | .str x=>some (.str x)
 | _=>none
noncomputable def wV:List W->Option (List V)
 | []=>some []
 | d::ds=>(IW d).bind λ v=>(wV ds).map (v::·)
theorem vq {H:Hp} {v u:V} {d:W} (h:Dw K ρ H v d) (e:IW d=some u):v=u/\fR u=true:=by
 cases h <;> first | (cases e;exact ⟨rfl,rfl⟩) | cases e
theorem r9 {H:Hp} {vs us:List V} {ds:List W} (h:aw K ρ H vs ds):wV ds=some us->vs=us/\us.all fR=true:=
 h.ind (M:=λ vs ds=>∀ us,wV ds=some us->vs=us/\us.all fR=true) (λ us e=>by cases e;exact ⟨rfl,rfl⟩) (λ _ _ _ _ a ih us e=>by
  obtain ⟨u,e1,e⟩:=oB e
  obtain ⟨us,e2,rfl⟩:=oM e
  obtain ⟨h1,h2⟩:=vq a e1;obtain ⟨h3,h4⟩:=ih _ e2;exact ⟨by rw [h1,h3],by rw [List.all_cons,h2,h4];rfl⟩) us
noncomputable def gF (d e:W):Option Bool:=(qD e).bind λ ds=>(IW d).bind λ v=>(wV ds).map λ vs=>Er v vs
noncomputable def iZ (d e:W):Option Bool:=(gF d e).map (!·)
theorem Ac {H:Hp} {x y:V} {d e:W} {b:Bool} (hx:Dw K ρ H x d) (hy:Dw K ρ H y e) (h:gF d e=some b):∃ p xs,y=.ref p/\(cR K H p xs∨ez K H p xs)/\fR x=true/\xs.all fR=true/\Er x xs=b:=by
 obtain ⟨ds,e1,h⟩:=oB h
 obtain ⟨v,e2,h⟩:=oB h
 obtain ⟨vs,e3,rfl⟩:=oM h
 obtain ⟨rfl,f1⟩:=vq hx e2;cases hy with
 | lst sq da=>
  cases e1;obtain ⟨rfl,f2⟩:=r9 da e3;exact ⟨_,_,rfl,.inl sq,f1,f2,rfl⟩
 | tup sq da=>
  cases e1;obtain ⟨rfl,f2⟩:=r9 da e3;exact ⟨_,_,rfl,.inr (ez.of sq),f1,f2,rfl⟩
 | _=>cases e1
theorem GH:DB K ρ (Da K false) gF:=λ H x y d e b Q hx hy hg q=>by
 obtain ⟨p,xs,h1,h2,h3,h4,rfl⟩:=Ac hx hy hg;exact ⟨p,xs,h1,h2,h3,h4,q⟩
noncomputable def qR:List W->Option (List Bool)
 | []=>some []
 | d::ds=>(yf d).bind λ b=>(qR ds).map (b::·)
theorem vY {G:Hp} {vs:List V} {ds:List W} {bs:List Bool} (h:aw K ρ G vs ds):qR ds=some bs->vs=bs.map V.bl:=
 h.ind (M:=λ vs ds=>∀ bs,qR ds=some bs->vs=bs.map V.bl) (λ bs e=>by cases e;rfl) (λ _ _ _ _ a ih bs e=>by
  obtain ⟨i,e1,e⟩:=oB e
  obtain ⟨ms,e2,rfl⟩:=oM e
  cases jT e1;cases yL a;rw [ih _ e2];rfl) bs
noncomputable def uk (d:W):Option W:=(iE d).bind λ ds=>(qR ds).map λ bs=>.bool (bs.all id)
noncomputable def FQ (d:W):Option W:=(iE d).bind λ ds=>(qR ds).map λ bs=>.bool (bs.any id)
theorem Fy:Gy K ρ (EZ K) uk:=λ G H x d c Q s hx hg q=>by
 obtain ⟨ds,e1,hg⟩:=oB hg
 obtain ⟨bs,e2,rfl⟩:=oM hg
 cases h9 e1;obtain ⟨p,vs,rfl,sq,da⟩:=ja s hx;rw [vY da e2] at sq;exact ⟨p,bs,rfl,sq,q _ G H (.refl s) (.bl _)⟩
theorem FF:Gy K ρ (Gf K) FQ:=λ G H x d c Q s hx hg q=>by
 obtain ⟨ds,e1,hg⟩:=oB hg
 obtain ⟨bs,e2,rfl⟩:=oM hg
 cases h9 e1;obtain ⟨p,vs,rfl,sq,da⟩:=ja s hx;rw [vY da e2] at sq;exact ⟨p,bs,rfl,sq,q _ G H (.refl s) (.bl _)⟩
end
section
variable {K:Frag} {cl:Str->Addr} {E:XK}
noncomputable def fQ (x:W) (S:ai):Option (Nat×List W):=match iJ x S with
 | some (n,.lst ds)=>some (n,ds)
 | _=>none
theorem cM {x:W} {S:ai} {n:Nat} {ds:List W} (h:fQ x S=some (n,ds)):x=.ref n/\S[n]?=some (.lst ds):=by
 unfold fQ at h;cases e:iJ x S with
 | none=>rw [e] at h;cases h
 | some p=>
  obtain ⟨m,o⟩:=p;rw [e] at h;cases o with
  | lst ds=>cases h;exact eP e
  | _=>cases h
noncomputable def Mn (x:W) (S:ai):Option (List W):=match fQ x S with
 | some (_,ds)=>some ds
 | none=>qD x
noncomputable def zo (x y:W) (S:ai):Option W:=match fQ x S with
 | some (_,ds)=>(Gm y).bind λ i=>fG ds i
 | none=>aR x y
noncomputable def sIx (fa fb:DS->ai->SM W):DS->ai->SM W:=λ δ S=>au (fa δ S) λ x S1=>au (fb δ S1) λ y S2=>lq (zo x y S2) S2
theorem I9 {ta tb:TE} {fa fb:DS->ai->SM W} (ha:SE K cl E ta fa) (hb:SE K cl E tb fb):SE K cl E (qp (JI K) ta tb) (sIx fa fb):=λ ρ G σ H δ S r' S' Q R e q qx=>
 fU ha hb R e (λ x y S2 e2 v u ρ2 G2 H2 g2 s2 dv du=>by
  obtain ⟨c,e3,rfl,rfl⟩:=b9 e2;unfold zo at e3;split at e3
  . rename_i n ds e4;obtain ⟨i,e5,e6⟩:=oB e3
    cases qS e5;cases d7 du;obtain ⟨rfl,e7⟩:=cM e4;obtain ⟨a,rfl,ea⟩:=dz dv;obtain ⟨ga,vs,k1,k2⟩:=s2.addr e7 ea;obtain ⟨w,h1,h2⟩:=k2.at e6;exact .inl ⟨a,vs,_,w,rfl,rfl,cR.of k1,h1,q c rfl w ρ2 G2 H2 g2 s2 h2⟩
  . exact fw G2 H2 v u x y c Q g2.s (.inl dv) du e3 λ w G3 H3 g3 dw=>q c rfl w ρ2 G3 H3 (g2.trans (.of g3)) (s2.grow g3) dw) qx
noncomputable def sI (x:W) (S:ai):Option W:=match fQ x S with
 | some (_,ds)=>some (.int ds.length)
 | none=>kA x
noncomputable def Ao (fa:DS->ai->SM W):DS->ai->SM W:=λ δ S=>au (fa δ S) λ x S1=>lq (sI x S1) S1
theorem FW {ta:TE} {fa:DS->ai->SM W} (ha:SE K cl E ta fa):SE K cl E (v6 (vJ K) (eC ta iH)) (Ao fa):=λ ρ G σ H δ S r' S' Q R e q qx=>
 eQ ha R e (λ x S2 e2 v ρ2 G2 H2 g2 s2 dv=>by
  obtain ⟨c,e3,rfl,rfl⟩:=b9 e2;unfold sI at e3;split at e3
  . rename_i n ds e4;cases e3;obtain ⟨rfl,e7⟩:=cM e4;obtain ⟨a,rfl,ea⟩:=dz dv;obtain ⟨ga,vs,k1,k2⟩:=s2.addr e7 ea;exact .inl ⟨a,vs,rfl,.inl (cR.of k1),by rw [k2.length];exact q _ rfl _ ρ2 G2 H2 g2 s2 (.int _)⟩
  . exact A0 G2 H2 v x c Q g2.s (.inl dv) e3 λ w G3 H3 g3 dw=>q c rfl w ρ2 G3 H3 (g2.trans (.of g3)) (s2.grow g3) dw) qx
noncomputable def JC (g:W->Option W) (fa:DS->ai->SM W):DS->ai->SM W:=λ δ S=>au (fa δ S) λ x S1=>lq (g x) S1
theorem GC {r:List V->Hp->VK->Prop} {g:W->Option W} {ta:TE} {fa:DS->ai->SM W} (hr:∀ ρ,Gy K ρ r g) (ha:SE K cl E ta fa):SE K cl E (v6 r (eC ta iH)) (JC g fa):=λ ρ G σ H δ S r' S' Q R e q qx=>
 eQ ha R e (λ x S2 e2 v ρ2 G2 H2 g2 s2 dv=>by
  obtain ⟨c,e3,rfl,rfl⟩:=b9 e2;exact hr ρ2 G2 H2 v x c Q g2.s (.inl dv) e3 λ w G3 H3 g3 dw=>q c rfl w ρ2 G3 H3 (g2.trans (.of g3)) (s2.grow g3) dw) qx
noncomputable def vL (T:String) (x:W) (S:ai):Option W:=match fQ x S with
 | some _=>if T = "list" then some (.bool true) else none
 | none=>match x with
  | .list _=>if T = "list" then some (.bool true) else none
  | .tuple _=>if T = "tuple" then some (.bool true) else none
  | _=>oJ T x
noncomputable def wB (K:Frag):List V->Hp->VK->Prop:=λ xs H Q=>Ca xs H Q∨CI K xs H Q∨De K xs H Q
theorem xh {X:Cx} {K:Frag} (h:X.K=K):cm X (.builtin "isinstance") (wB K):=pG.or ((uK h).or (uT h))
noncomputable def JL (T:String) (fa:DS->ai->SM W):DS->ai->SM W:=λ δ S=>au (fa δ S) λ x S1=>lq (vL T x S1) S1
theorem si (c:Value) (h:(c==c)=true):PySem.W.kitOne K c c=some true:=by
 unfold PySem.W.kitOne;rw [if_pos h]
noncomputable def d9 (fo fv:DS->ai->SM W):DS->ai->SO:=λ δ S=>m9 (fo δ S) λ x S1=>if (fQ x S1).isSome=true then m9 (fv δ S1) λ d S2=>(fQ x S2).bind λ p=>if p.2.length<sizeLine then some (.nx δ,S2.set p.1 (.lst (p.2++[d]))) else none else none
theorem oC {ρ ρ':List Addr} {n:Nat} {a:Addr} (h:ρ <+: ρ') (e:ρ[n]?=some a):ρ'[n]?=some a:=by
 obtain ⟨t,rfl⟩:=h;rw [List.getElem?_append_left (oG e).1];exact e
theorem qb {to tv:TE} {fo fv:DS->ai->SM W} (ho:SE K cl E to fo) (hv:SE K cl E tv fv):oO K cl E (pZ (EH K "list" mV to (eC tv iH))) (d9 fo fv):=λ ρ0 G0 H0 ρ G σ H δ S o S' D I e p=>
 eJ ho I e p λ x S1 e1 u ρ1 G1 H1 g1 s1 du=>by
  split at e1
  case isFalse=>cases e1
  rename_i hx;obtain ⟨⟨n,ds0⟩,hx0⟩:=Option.isSome_iff_exists.mp hx;obtain ⟨rfl,h0⟩:=cM hx0;obtain ⟨a,rfl,ea⟩:=dz du;obtain ⟨_,vs0,k0,_⟩:=s1.addr h0 ea;have I1:=I.grow g1 s1;refine ⟨.inl ⟨rfl,vs0,cR.of k0⟩,eJ hv I1 e1 p λ d S2 e2 v ρ2 G2 H2 g2 s2 dv=>?_⟩;obtain ⟨⟨m,ds⟩,e3,e4⟩:=oB e2
  split at e4
  case isFalse=>cases e4
  rename_i hl;cases e4;obtain ⟨em,e5⟩:=cM e3;cases em;have ea2:=oC g2.r ea;obtain ⟨ga,vs,k1,k2⟩:=s2.addr e5 ea2;obtain ⟨s3,g3⟩:=s2.put (x:=.lst (vs++[v])) (o':=.lst (ds++[d])) g2.s e5 ea2 (λ b z=>by cases z) ⟨_,aH,k2.app (.cons dv .nil)⟩;exact ⟨a,vs,v,rfl,rfl,k1,by rw [k2.length];exact hl,p σ ρ2 G2 _ ((I1.grow g2 s2).grow g3 s3)⟩
noncomputable def rc (fo fi fv:DS->ai->SM W):DS->ai->SO:=λ δ S=>m9 (fv δ S) λ d S1=>m9 (fo δ S1) λ x S2=>m9 (fi δ S2) λ y S3=>(fQ x S3).bind λ p=>(Gm y).bind λ k=>(rO p.2.length k).map λ j=>(.nx δ,S3.set p.1 (.lst (p.2.set j d)))
theorem vR {to ti tv:TE} {fo fi fv:DS->ai->SM W} (ho:SE K cl E to fo) (hi:SE K cl E ti fi) (hv:SE K cl E tv fv):oO K cl E (oZ tv (B1 to ti vG)) (rc fo fi fv):=λ ρ0 G0 H0 ρ G σ H δ S o S' D I e p=>
 eJ hv I e p λ d S1 e1 v ρ1 G1 H1 g1 s1 dv=>by
  have I1:=I.grow g1 s1;refine eJ ho I1 e1 p λ x S2 e2 u ρ2 G2 H2 g2 s2 du=>?_;have I2:=I1.grow g2 s2;refine eJ hi I2 e2 p λ y S3 e3 w ρ3 G3 H3 g3 s3 dw=>?_;obtain ⟨⟨n,ds⟩,e4,e5⟩:=oB e3
  obtain ⟨k,e6,e7⟩:=oB e5
  obtain ⟨j,e8,e9⟩:=oM e7
  cases e9;cases qS e6;cases d7 dw;obtain ⟨rfl,e10⟩:=cM e4;obtain ⟨a,rfl,ea⟩:=dz du;have ea3:=oC g3.r ea;obtain ⟨ga,vs,k1,k2⟩:=s3.addr e10 ea3;have g23:=g2.trans g3;obtain ⟨s4,g4⟩:=s3.put (x:=.lst (vs.set j v)) (o':=.lst (ds.set j d)) g3.s e10 ea3 (λ b z=>by cases z) ⟨_,aH,aw.set ((dv.ext g23.r).same g23.g) j k2⟩;exact ⟨a,vs,k,j,rfl,rfl,k1,by rw [k2.length];exact e8,p σ ρ3 G3 _ ((I2.grow g3 s3).grow g4 s4)⟩
noncomputable def p9:W->Option bg
 | .int i=>some (Sum.inl i)
 | .str x=>some (Sum.inr x)
 | _=>none
theorem ng {ρ:List Addr} {G:Hp} {v:V} {d:W} {k:bg} (h:Dw K ρ G v d) (e:p9 d=some k):v=kV k:=by
 cases h <;> first | (cases e;rfl) | cases e
noncomputable def wP (x:W) (S:ai):Option (Nat×List (bg×W)):=match iJ x S with
 | some (n,.dK kvs)=>some (n,kvs)
 | _=>none
theorem xD {x:W} {S:ai} {n:Nat} {kvs:List (bg×W)} (h:wP x S=some (n,kvs)):x=.ref n/\S[n]?=some (.dK kvs):=by
 unfold wP at h;split at h
 . rename_i n' ds' e;cases h;exact eP e
 . cases h
noncomputable def cr {κ:Type} [DecidableEq κ] (kvs:List (κ×W)) (k:κ):Option W:=(kvs.find? λ kv=>decide (kv.1=k)).map (·.2)
noncomputable def bV {κ:Type} [DecidableEq κ] (kvs:List (κ×W)) (k:κ) (v:W):List (κ×W):=if (kvs.any λ kv=>decide (kv.1=k))=true then kvs.map λ kv=>if kv.1=k then (kv.1,v) else kv else kvs++[(k,v)]
theorem j6.val {κ:Type} [DecidableEq κ] {ρ:List Addr} {G:Hp} {k:κ}:∀ {l:List (κ×W)} {m:List (κ×V)},j6 K ρ G l m->(∀ d,cr l k=some d->∃ v,j3 m k=some v/\Dw K ρ G v d)/\(cr l k=none->j3 m k=none):=λ q=>by
 induction q with
 | nil=>exact ⟨(λ d e=>by cases e),λ _=>rfl⟩
 | @cons j x0 v0 l m a b ih=>
  obtain ⟨h1,h2⟩:=ih;by_cases hj:j=k
  . subst hj;refine ⟨λ d e=>?_,λ e=>?_⟩
    . have e':cr ((j,x0)::l) j=some x0:=by simp [cr,List.find?_cons]
      rw [e'] at e;cases e;exact ⟨_,kQ rfl,a⟩
    . simp [cr,List.find?_cons] at e
  . refine ⟨λ d e=>?_,λ e=>?_⟩
    . rw [iY hj];exact h1 d (by simpa [cr,List.find?_cons,hj] using e)
    . rw [iY hj];exact h2 (by simpa [cr,List.find?_cons,hj] using e)
theorem j6.any {κ:Type} [DecidableEq κ] {ρ:List Addr} {G:Hp} {k:κ}:∀ {l:List (κ×W)} {m:List (κ×V)},j6 K ρ G l m->(l.any λ kv=>decide (kv.1=k))=m.any λ kv=>decide (kv.1=k):=λ q=>by
 induction q with
 | nil=>rfl
 | cons a b ih=>rw [List.any_cons,List.any_cons,ih]
theorem j6.repl {κ:Type} [DecidableEq κ] {ρ:List Addr} {G:Hp} {k:κ} {v:V} {d:W} (h:Dw K ρ G v d):∀ {l:List (κ×W)} {m:List (κ×V)},j6 K ρ G l m->j6 K ρ G (l.map λ kv=>if kv.1=k then (kv.1,d) else kv) (m.map λ kv=>if kv.1=k then (kv.1,v) else kv):=λ q=>by
 induction q with
 | nil=>exact .nil
 | @cons j d0 v0 l m a b ih=>
  rw [List.map_cons,List.map_cons];by_cases hj:j=k
  . simp only [if_pos hj];exact .cons h ih
  . simp only [if_neg hj];exact .cons a ih
theorem j6.snoc {κ:Type} {ρ:List Addr} {G:Hp} {k:κ} {v:V} {d:W} (h:Dw K ρ G v d):∀ {l:List (κ×W)} {m:List (κ×V)},j6 K ρ G l m->j6 K ρ G (l++[(k,d)]) (m++[(k,v)]):=λ q=>by
 induction q with
 | nil=>exact .cons h .nil
 | cons a _ ih=>exact .cons a ih
theorem j6.put {κ:Type} [DecidableEq κ] {ρ:List Addr} {G:Hp} {k:κ} {v:V} {d:W} (h:Dw K ρ G v d) {l:List (κ×W)} {m:List (κ×V)} (r:j6 K ρ G l m):j6 K ρ G (bV l k d) (jy m k v):=by
 unfold bV jy;rw [r.any];split
 . exact r.repl h
 . exact r.snoc h
noncomputable def nj (S:ai) (n:Nat):Option (List W):=match S[n]? with
 | some (.lst ds)=>some ds
 | _=>none
noncomputable def xF (f:W->Option PyData):List W->Option (List PyData)
 | []=>some []
 | d::ds=>(f d).bind λ x=>(xF f ds).map (x::·)
noncomputable def Gs (S:ai):Nat->W->Option PyData
 | 0,_=>none
 | n+1,d=>match d with
  | .list ds=>(xF (Gs S n) ds).map .list
  | .tuple ds=>(xF (Gs S n) ds).map .tuple
  | .ref m=>(nj S m).bind λ ds=>(xF (Gs S n) ds).map .list
  | d=>d.py
theorem rK {H:Hp} {ρ:List Addr} {G:Hp} {f:W->Option PyData} (hf:∀ v d x,Dw K ρ G v d->f d=some x->Dp K H v x) {vs:List V} {ds:List W} {xs:List PyData} (h:aw K ρ G vs ds):xF f ds=some xs->mm K H vs xs:=
 h.ind (M:=λ vs ds=>∀ xs,xF f ds=some xs->mm K H vs xs) (λ xs e=>by cases e;exact .nil) (λ _ _ _ _ a ih xs e=>by
  obtain ⟨x,e1,e⟩:=oB e
  obtain ⟨ys,e2,rfl⟩:=oM e
  exact .cons (hf _ _ _ a e1) (ih _ e2)) xs
theorem jS {ρ:List Addr} {G H:Hp} {S:ai} (sg:bm G H) (s:SR K ρ cl G H S):∀ (n:Nat) (v:V) (d:W) (x:PyData),Dw K ρ G v d->Gs S n d=some x->Dp K H v x
 | 0,_,_,_,_,e=>by cases e
 | n+1,v,d,x,h,e=>by
  cases h with
  | lst sq da=>
   obtain ⟨xs,e1,rfl⟩:=oM e
   exact .lst (sg.seq sq) (rK (λ v d x=>jS sg s n v d x) da e1)
  | tup sq da=>
   obtain ⟨xs,e1,rfl⟩:=oM e
   exact .tup (sg.tup (ez.of sq)) (rK (λ v d x=>jS sg s n v d x) da e1)
  | ref ea=>
   obtain ⟨ds,e1,e2⟩:=oB e
   obtain ⟨xs,e3,rfl⟩:=oM e2
   unfold nj at e1;split at e1
   . rename_i ds' h1;cases e1;obtain ⟨ga,vs,k1,k2⟩:=s.addr h1 ea;exact .lst (cR.of k1) (rK (λ v d x=>jS sg s n v d x) k2 e3)
   . cases e1
  | non=>exact Dw.dp (ρ:=ρ) .non e
  | bl b=>exact Dw.dp (ρ:=ρ) (.bl b) e
  | int i=>exact Dw.dp (ρ:=ρ) (.int i) e
  | str y=>exact Dw.dp (ρ:=ρ) (.str y) e
noncomputable def Ch (neg:Bool) (d e:W) (S:ai):Option Bool:=match GA d e with
 | some b=>some (if neg then !b else b)
 | none=>(Gs S 24 d).bind λ a=>(Gs S 24 e).bind λ b=>if (a.canLay0&&b.canLay0&&decide (a.depth<=64))=true then some (if neg then !(PyData.eqv a b) else PyData.eqv a b) else none
noncomputable def El (K:Frag) (neg:Bool):R2:=if neg then Fz K else D7 K
noncomputable def Cr (neg:Bool) (fa fb:DS->ai->SM W):DS->ai->SM Bool:=λ δ S=>au (fa δ S) λ x S1=>au (fb δ S1) λ y S2=>lq (Ch neg x y S2) S2
theorem tG {ρ:List Addr} {G H:Hp} {S:ai} {neg:Bool} {v u:V} {x y:W} {b:Bool} {Q:VK} (sg:bm G H) (s:SR K ρ cl G H S) (dv:Dw K ρ G v x) (du:Dw K ρ G u y) (h:Ch neg x y S=some b) (q:Q (.bl b) H):El K neg v u H Q:=by
 unfold Ch at h;split at h
 . rename_i b' hb;cases h;obtain ⟨h1,h2⟩:=uA (dv.same sg) (du.same sg) hb;cases neg with
   | false=>exact .inl ⟨h1,by rw [h2];exact q⟩
   | true=>exact .inl ⟨h1,by rw [h2];exact q⟩
 . obtain ⟨a,ea,h⟩:=oB h
   obtain ⟨c,ec,h⟩:=oB h
   split at h
   . rename_i hc;cases h;simp only [Bool.and_eq_true,decide_eq_true_eq] at hc;cases neg with
     | false=>exact .inr ⟨a,c,jS sg s 24 _ _ _ dv ea,jS sg s 24 _ _ _ du ec,hc.1.1,hc.1.2,hc.2,q⟩
     | true=>exact .inr ⟨a,c,jS sg s 24 _ _ _ dv ea,jS sg s 24 _ _ _ du ec,hc.1.1,hc.1.2,hc.2,q⟩
   . cases h
theorem Hx {neg:Bool} {ta tb:TE} {fa fb:DS->ai->SM W} (ha:SE K cl E ta fa) (hb:SE K cl E tb fb):ST K cl E (tI (qp (El K neg) ta tb)) (Cr neg fa fb):=λ ρ G σ H δ S r' S' Q R e q qx=>
 fU ha hb R e (λ x y S2 e2 v u ρ2 G2 H2 g2 s2 dv du=>by
  obtain ⟨c,e3,rfl,rfl⟩:=b9 e2;exact tG g2.s s2 dv du e3 ⟨c,rfl,q c rfl ρ2 G2 H2 g2 s2⟩) qx
theorem HS {neg:Bool} {ta tb:TE} {fa fb:DS->ai->SM W} (ha:SE K cl E ta fa) (hb:SE K cl E tb fb):SE K cl E (qp (El K neg) ta tb) (sB (Cr neg fa fb)):=λ ρ G σ H δ S r' S' Q R e q qx=>by
 rcases aO e with ⟨c,em,rfl⟩ | ⟨b,S1,em,e⟩
 . exact fU (r:=Rs.xc c) ha hb R em (λ x y S2 e2=>by obtain ⟨_,_,z,_⟩:=b9 e2;cases z) (λ c' hc=>by cases hc;exact qx c rfl)
 . cases e;exact fU ha hb R em (λ x y S2 e2 v u ρ2 G2 H2 g2 s2 dv du=>by
    obtain ⟨c,e3,z,rfl⟩:=b9 e2;cases z;exact tG g2.s s2 dv du e3 (q _ rfl _ ρ2 G2 H2 g2 s2 (.bl _))) (λ c hc=>by cases hc)
end
section
variable {K:Frag} {cl:Str->Addr} {E:XK}
noncomputable def uN (f:DS->ai->SM W):DS->ai->SM Bool:=λ δ S=>au (f δ S) λ x S1=>lq (yf x) S1
theorem EU {t:TE} {f:DS->ai->SM W} (h:SE K cl E t f):ST K cl E (tB t) (uN f):=λ ρ G σ H δ S r S' Q R e q qx=>
 eQ h R e (λ x S1 e1 v ρ1 G1 H1 g1 s1 dv=>by
  obtain ⟨b,e2,rfl,rfl⟩:=b9 e1;cases jT e2;cases yL dv;exact ⟨b,rfl,q b rfl ρ1 G1 H1 g1 s1⟩) qx
noncomputable def p7 (f g:DS->ai->SM W):DS->ai->SM W:=λ δ S=>au (f δ S) λ x S1=>(yf x).bind λ b=>if b=true then g δ S1 else some (.ok (.bool false),S1)
noncomputable def KZ (f g:DS->ai->SM W):DS->ai->SM W:=λ δ S=>au (f δ S) λ x S1=>(yf x).bind λ b=>if b=true then some (.ok (.bool true),S1) else g δ S1
noncomputable def Iz (f:DS->ai->SM W):DS->ai->SM W:=λ δ S=>au (f δ S) λ x S1=>(yf x).map λ b=>(.ok (.bool (!b)),S1)
theorem Eu {t u:TE} {f g:DS->ai->SM W} (h1:SE K cl E t f) (h2:SE K cl E u g):SE K cl E (yx t u) (p7 f g):=λ ρ G σ H δ S r S' Q R e q qx=>
 eQ h1 R e (λ x S1 e1 v ρ1 G1 H1 g1 s1 dv=>by
  obtain ⟨b,e2,e3⟩:=oB e1
  cases jT e2;cases yL dv;refine ⟨b,rfl,?_⟩;cases b with
  | true=>exact h2 ρ1 G1 σ H1 δ S1 r S' Q (R.grow g1 s1) e3 (λ d hd v ρ2 G2 H2 g2 s2 dv=>q d hd v ρ2 G2 H2 (g1.trans g2) s2 dv) λ c hc ρ2 G2 H2 g2 s2=>qx c hc ρ2 G2 H2 (g1.trans g2) s2
  | false=>cases e3;exact q _ rfl _ ρ1 G1 H1 g1 s1 (.bl _)) qx
theorem AB.ext {ρ ρ1:List Addr} {J:It} {ds:List W} {i:Nat} {G H:Hp} (h:ρ <+: ρ1) (a:AB K ρ J ds i G H):AB K ρ1 J ds i G H:=⟨λ d hd=>⟨(a.1 d hd).1,λ x H' y=>by
 obtain ⟨G',g,dx⟩:=(a.1 d hd).2 x H' y;exact ⟨G',g,dx.ext h⟩⟩,a.2⟩
theorem uO {S:ai} {n:Nat} {ds:List W} (h:nj S n=some ds):S[n]?=some (.lst ds):=by
 unfold nj at h;split at h
 . rename_i e;cases h;exact e
 . cases h
inductive Kd where
 | l
 | e
 | d (m:Nat)
noncomputable def KB:bg->W
 | .inl i=>.int i
 | .inr x=>.str x
noncomputable def j7 (S:ai) (n:Nat×Kd):Option (List W):=match n.2 with
 | .l=>nj S n.1
 | .e=>(nj S n.1).map kS
 | .d m=>(wP (.ref n.1) S).bind λ p=>if p.2.length=m then some (p.2.map λ e=>KB e.1) else none
noncomputable def KU (K:Frag) (cl:Str->Addr) (ρ:List Addr) (J:It) (n:Nat×Kd):Prop:=
 ∀ (i:Nat) (ρ1:List Addr) (G1 H1:Hp) (S1:ai) (es:List W),ρ <+: ρ1->bm G1 H1->SR K ρ1 cl G1 H1 S1->j7 S1 n=some es->AB K ρ1 J es i G1 H1
noncomputable def Kq (K:Frag) (cl:Str->Addr) (E:XK) (wi:TI) (f:DS->ai->SM (Nat×Kd)):Prop:=
 ∀ (ρ:List Addr) (G:Hp) (σ:St) (H:Hp) (δ:DS) (S:ai) (r:Rs (Nat×Kd)) (S':ai) (R':It->Hp->Prop),RS K cl ρ G H δ σ S->f δ S=some (r,S')->
  (∀ n,r=.ok n->∀ J ρ' G' H',GS ρ G H ρ' G' H'->SR K ρ' cl G' H' S'->KU K cl ρ' J n->R' J H')->
  (∀ c,r=.xc c->∀ ρ' G' H',GS ρ G H ρ' G' H'->SR K ρ' cl G' H' S'->E (.ref (cl c)) none H')->wi σ H R'
noncomputable def lz (f:DS->ai->SM W):DS->ai->SM (Nat×Kd):=λ δ S=>au (f δ S) λ x S1=>(fQ x S1).map λ p=>(.ok (p.1,.l),S1)
theorem AN {t:TE} {f:DS->ai->SM W} (h:SE K cl E t f):Kq K cl E (xG K t) (lz f):=λ ρ G σ H δ S r S' R' R e q qx=>
 eQ h R e (λ x S1 e1 v ρ1 G1 H1 g1 s1 dv=>by
  obtain ⟨⟨n,ds⟩,e2,e3⟩:=oM e1
  cases e3;obtain ⟨rfl,e4⟩:=cM e2;obtain ⟨a,rfl,ea⟩:=dz dv;obtain ⟨ga,vs,k1,k2⟩:=s1.addr e4 ea;refine ⟨a,rfl,.inl ⟨⟨vs,cR.of k1⟩,q (n,.l) rfl _ ρ1 G1 H1 g1 s1 λ i ρ2 G2 H2 S2 es pr s2 sr he=>?_⟩⟩;obtain ⟨ga2,vs2,m1,m2⟩:=sr.addr (uO he) (oC pr ea);exact oy s2 (cR.of m1) m2) qx
noncomputable def nc (n:Nat×Kd) (h:W->DS->Option DS) (fb:DS->ai->SO):Nat->Nat->DS->ai->SO
 | 0,_,_,_=>none
 | f+1,i,δ,S=>(j7 S n).bind λ es=>match es[i]? with
  | none=>some (.nx δ,S)
  | some d=>(h d δ).bind λ δ2=>match fb δ2 S with
   | some (.nx δ',S')=>nc n h fb f (i+1) δ' S'
   | some (.ct δ',S')=>nc n h fb f (i+1) δ' S'
   | some (.bk δ',S')=>some (.nx δ',S')
   | some (.rt d,S')=>some (.rt d,S')
   | some (.xc c,S')=>some (.xc c,S')
   | none=>none
noncomputable def Eb (m:Nat) (fi:DS->ai->SM (Nat×Kd)) (h:W->DS->Option DS) (fb:DS->ai->SO):DS->ai->SO:=λ δ S=>m9 (fi δ S) λ n S1=>nc n h fb m 0 δ S1
theorem RS.lift {ρ:List Addr} {G H:Hp} {δ:DS} {σ:St} {S:ai} {ix:List (Option Nat)} (hx:xT ix=true) (R:RS K cl ρ G H δ σ S):RS K cl ρ G H (bI ix δ) (lift ix σ) S:=
 ⟨R.rl.lift hx,R.st,λ j ds p h1 h2=>by
  obtain ⟨o,k1,k2⟩:=lR h1;cases o with
  | none=>cases k2
  | some i=>
   have k3:δ[i]?=some (.own ds):=by
    cases e:δ[i]? with
    | none=>simp [oI,e] at k2
    | some s=>simp [oI,e] at k2;rw [k2]
   rw [nL k1] at h2;simp only [Jl] at h2;split at h2
   . rename_i w e;exact R.ap i ds p k3 (by rw [e];simpa using h2)
   . cases h2⟩
noncomputable def cj (h:W->DS->Option DS) (c:DS->ai->SM Bool) (fe:DS->ai->SM W) (δ:DS):List W->ai->SM (List W)
 | [],S=>some (.ok [],S)
 | d::ds,S=>(h d δ).bind λ δ2=>au (c δ2 S) λ b S1=>if b=true then au (fe δ2 S1) λ e S2=>au (cj h c fe δ ds S2) λ es S3=>some (.ok (e::es),S3) else cj h c fe δ ds S1
noncomputable def vW (ix:List (Option Nat)) (fi:DS->ai->SM (List W)) (h:W->DS->Option DS) (c:DS->ai->SM Bool) (fe:DS->ai->SM W):DS->ai->SM W:=λ δ S=>
 au (fi δ S) λ ds S0=>if ds.length<=sizeLine then au (cj h c fe (bI ix δ) ds S0) λ es S1=>some (.ok (.list es),S1) else none
theorem Bc {ix:List (Option Nat)} {wi:TI} {g:TG} {tc:TT} {te:TE} {fi:DS->ai->SM (List W)} {h:W->DS->Option DS} {c:DS->ai->SM Bool} {fe:DS->ai->SM W}
 (hx:xT ix=true) (hi:Gz K cl E wi fi) (hg:∀ ρ,DG K ρ g h) (hc:ST K cl E tc c) (he:SE K cl E te fe):SE K cl E (nJ ix wi g tc te) (vW ix fi h c fe):=λ ρ G σ H δ S r S' Q R e q qx=>by
 rcases aO e with ⟨c0,em,rfl⟩ | ⟨ds,S0,em,e⟩
 . exact hi ρ G σ H δ S _ _ _ R em (λ d hd=>by cases hd) (λ c' hc=>by cases hc;exact qx c0 rfl)
 split at e
 case isFalse=>cases e
 rename_i hz;refine hi ρ G σ H δ S _ _ _ R em (λ ds' hd=>?_) (λ c' hc=>by cases hc);cases hd;intro J ρ1 G1 H1 gs1 sr1 it;have R1:=R.grow gs1 sr1;refine ⟨λ i m ys H2=>m=ds.length-i/\i<=ds.length/\ys.length<=i/\∃ ρ2 G2 as S2,GS ρ1 G1 H1 ρ2 G2 H2/\SR K ρ2 cl G2 H2 S2/\aw K ρ2 G2 ys as/\au (cj h c fe (bI ix δ) (ds.drop i) S2) (λ es S1=>some (.ok (.list (as++es)),S1))=some (r,S'),⟨ds.length,by simp,Nat.zero_le _,Nat.le_refl _,ρ1,G1,[],S0,.refl gs1.s,R1.st,.nil,by simpa using e⟩,?_⟩;rintro i m ys H2 ⟨rfl,hil,hyl,ρ2,G2,as,S2,g2,s2,da,eb⟩;have ia:=(it i G2 H2 g2.g g2.s).ext g2.r;have R2:=R1.grow g2 s2;have g12:=gs1.trans g2;by_cases hlt:i<ds.length
 . refine .inr ?_;obtain ⟨go,step⟩:=ia.1 ds[i] (List.getElem?_eq_getElem hlt);rw [List.drop_eq_getElem_cons hlt] at eb;have eb':∃ δ2,h ds[i] (bI ix δ)=some δ2/\au (au (c δ2 S2) λ b S1=>if b=true then au (fe δ2 S1) λ e S2=>au (cj h c fe (bI ix δ) (ds.drop (i+1)) S2) λ es S3=>some (.ok (e::es),S3) else cj h c fe (bI ix δ) (ds.drop (i+1)) S1) (λ es S1=>some (.ok (.list (as++es)),S1))=some (r,S'):=by
    simp only [cj] at eb;cases e2:h ds[i] (bI ix δ) with
    | none=>rw [e2] at eb;cases eb
    | some δ2=>rw [e2] at eb;exact ⟨δ2,rfl,eb⟩
   obtain ⟨δ2,e2,e3⟩:=eb';refine ⟨go,by omega,λ ys' H'=>ys'.length<=i+1/\∃ ρ3 G3 as' S3,GS ρ1 G1 H1 ρ3 G3 H'/\SR K ρ3 cl G3 H' S3/\aw K ρ3 G3 ys' as'/\au (cj h c fe (bI ix δ) (ds.drop (i+1)) S3) (λ es S1=>some (.ok (.list (as'++es)),S1))=some (r,S'),λ ys' H' hy0=>by obtain ⟨l,z⟩:=hy0;exact ⟨ds.length-(i+1),by omega,rfl,hlt,l,z⟩,λ x H' y=>?_⟩;obtain ⟨G3,g3,dx⟩:=step x H' y;have gs3:GS ρ2 G2 H2 ρ2 G3 H':=.of g3;have s3:=s2.grow g3;have R3:=R2.grow gs3 s3;refine hg ρ2 G3 H' (bI ix δ) _ x _ δ2 _ (R3.lift hx).rl dx e2 λ σ2 R4 o4=>?_;have RS4:RS K cl ρ2 G3 H' δ2 σ2 S2:=⟨R4,s3,λ j ds' p h1 h2=>by
    obtain ⟨es',m1,m2⟩:=o4 j ds' p h1 h2;exact (R3.lift hx).ap j es' p m1 m2⟩
   rcases aO e3 with ⟨c',em,rfl⟩ | ⟨es,S5,em,e4⟩
   . -- an exception on the way
     rcases aO em with ⟨c2,en,z⟩ | ⟨b,S4,en,e5⟩
     . cases z;exact hc ρ2 G3 σ2 H' δ2 S2 _ _ _ RS4 en (λ d hd=>by cases hd) (λ c3 h3 ρ5 G5 H5 g5 s5=>by cases h3;exact qx c' rfl ρ5 G5 H5 (g12.trans (gs3.trans g5)) s5)
     . refine hc ρ2 G3 σ2 H' δ2 S2 _ _ _ RS4 en (λ d hd=>?_) (λ c3 h3=>by cases h3);cases hd;intro ρ5 G5 H5 g5 s5;have g15:=g2.trans (gs3.trans g5);have da5:=((da.ext (gs3.trans g5).r).same (gs3.trans g5).g)
       cases b with
       | false=>exact ⟨by omega,ρ5,G5,as,S4,g15,s5,da5,by rw [show cj h c fe (bI ix δ) (ds.drop (i+1)) S4=some (.xc c',S') from e5];rfl⟩
       | true=>
        rw [if_pos rfl] at e5 ⊢;rcases aO e5 with ⟨c2,en2,z⟩ | ⟨ev,S6,en2,e6⟩
        . cases z;exact he ρ5 G5 σ2 H5 δ2 S4 _ _ _ (RS4.grow g5 s5) en2 (λ d hd=>by cases hd) (λ c3 h3 ρ6 G6 H6 g6 s6=>by cases h3;exact qx c' rfl ρ6 G6 H6 (g12.trans (gs3.trans (g5.trans g6))) s6)
        . refine he ρ5 G5 σ2 H5 δ2 S4 _ _ _ (RS4.grow g5 s5) en2 (λ d hd=>?_) (λ c3 h3=>by cases h3);cases hd;intro v ρ6 G6 H6 g6 s6 dv;rcases aO e6 with ⟨c2,en3,z⟩ | ⟨es2,S7,en3,e7⟩
          . cases z;exact ⟨by simp;omega,ρ6,G6,as++[ev],S6,g15.trans g6,s6,((da5.ext g6.r).same g6.g).app (.cons dv .nil),by rw [en3];rfl⟩
          . cases e7
   . cases e4;rcases aO em with ⟨c2,en,z⟩ | ⟨b,S4,en,e5⟩
     . cases z
     . refine hc ρ2 G3 σ2 H' δ2 S2 _ _ _ RS4 en (λ d hd=>?_) (λ c3 h3=>by cases h3);cases hd;intro ρ5 G5 H5 g5 s5;have g15:=g2.trans (gs3.trans g5);have da5:=((da.ext (gs3.trans g5).r).same (gs3.trans g5).g)
       cases b with
       | false=>exact ⟨by omega,ρ5,G5,as,S4,g15,s5,da5,by rw [show cj h c fe (bI ix δ) (ds.drop (i+1)) S4=some (.ok es,S') from e5];rfl⟩
       | true=>
        rw [if_pos rfl] at e5 ⊢;rcases aO e5 with ⟨c2,en2,z⟩ | ⟨ev,S6,en2,e6⟩
        . cases z
        . refine he ρ5 G5 σ2 H5 δ2 S4 _ _ _ (RS4.grow g5 s5) en2 (λ d hd=>?_) (λ c3 h3=>by cases h3);cases hd;intro v ρ6 G6 H6 g6 s6 dv;rcases aO e6 with ⟨c2,en3,z⟩ | ⟨es2,S7,en3,e7⟩
          . cases z
          . cases e7;exact ⟨by simp;omega,ρ6,G6,as++[ev],S6,g15.trans g6,s6,((da5.ext g6.r).same g6.g).app (.cons dv .nil),by rw [en3];simp [au]⟩
 . have hi':i=ds.length:=by omega
   subst hi';refine .inl ⟨ia.2 (Nat.le_refl _),by omega,λ p hp=>?_⟩;rw [List.drop_length] at eb;simp only [cj,au,List.append_nil] at eb;cases eb;have n:Nw H2 (cn H2 p (.lst ys)) p (.lst ys):=.of hp;have g3:=Gr.nw g2.s n;exact q _ rfl _ ρ2 _ _ (g12.trans (.of g3)) (s2.grow g3) (.lst (cR.of aH) (da.same g3.g))
end
section
variable {K:Frag} {cl:Str->Addr} {E:XK}
noncomputable def bX (n:Nat×Kd) (h:W->DS->Option DS) (c:DS->ai->SM Bool) (fe:DS->ai->SM W) (δ:DS):Nat->Nat->ai->SM (List W)
 | 0,_,_=>none
 | f+1,i,S=>(j7 S n).bind λ es=>match es[i]? with
  | none=>some (.ok [],S)
  | some d=>(h d δ).bind λ δ2=>au (c δ2 S) λ b S1=>if b=true then au (fe δ2 S1) λ e S2=>au (bX n h c fe δ f (i+1) S2) λ es S3=>some (.ok (e::es),S3) else bX n h c fe δ f (i+1) S1
noncomputable def lD (m:Nat) (ix:List (Option Nat)) (fi:DS->ai->SM (Nat×Kd)) (h:W->DS->Option DS) (c:DS->ai->SM Bool) (fe:DS->ai->SM W):DS->ai->SM W:=λ δ S=>
 au (fi δ S) λ n S0=>if m<=sizeLine then au (bX n h c fe (bI ix δ) m 0 S0) λ es S1=>some (.ok (.list es),S1) else none
theorem Ab {m:Nat} {ix:List (Option Nat)} {wi:TI} {g:TG} {tc:TT} {te:TE} {fi:DS->ai->SM (Nat×Kd)} {h:W->DS->Option DS} {c:DS->ai->SM Bool} {fe:DS->ai->SM W}
 (hx:xT ix=true) (hi:Kq K cl E wi fi) (hg:∀ ρ,DG K ρ g h) (hc:ST K cl E tc c) (he:SE K cl E te fe):SE K cl E (nJ ix wi g tc te) (lD m ix fi h c fe):=λ ρ G σ H δ S r S' Q R e q qx=>by
 rcases aO e with ⟨c0,em,rfl⟩ | ⟨n,S0,em,e⟩
 . exact hi ρ G σ H δ S _ _ _ R em (λ d hd=>by cases hd) (λ c' hc=>by cases hc;exact qx c0 rfl)
 split at e
 case isFalse=>cases e
 rename_i hz;refine hi ρ G σ H δ S _ _ _ R em (λ n' hn=>?_) (λ c' hc=>by cases hc);cases hn;intro J ρ1 G1 H1 gs1 sr1 it;have R1:=R.grow gs1 sr1;refine ⟨λ i k ys H2=>k+i=m/\ys.length<=i/\∃ ρ2 G2 as S2,GS ρ1 G1 H1 ρ2 G2 H2/\SR K ρ2 cl G2 H2 S2/\aw K ρ2 G2 ys as/\au (bX n h c fe (bI ix δ) k i S2) (λ es S1=>some (.ok (.list (as++es)),S1))=some (r,S'),⟨m,by simp,Nat.le_refl _,ρ1,G1,[],S0,.refl gs1.s,R1.st,.nil,by simpa using e⟩,?_⟩;rintro i k ys H2 ⟨hk,hyl,ρ2,G2,as,S2,g2,s2,da,eb⟩;have R2:=R1.grow g2 s2;have g12:=gs1.trans g2;cases k with
 | zero=>cases eb
 | succ k=>
  have eb0:∃ es0,j7 S2 n=some es0:=by
   cases hl:j7 S2 n with
   | none=>simp only [bX,hl] at eb;cases eb
   | some es0=>exact ⟨es0,rfl⟩
  obtain ⟨es0,hl⟩:=eb0;have ia:=it i ρ2 G2 H2 S2 es0 g2.r g2.s s2 hl;cases hd:es0[i]? with
  | none=>
   refine .inl ⟨ia.2 (List.getElem?_eq_none_iff.mp hd),by omega,λ p hp=>?_⟩;simp only [bX,hl,Option.bind_some,hd,au,List.append_nil] at eb;cases eb;have nn:Nw H2 (cn H2 p (.lst ys)) p (.lst ys):=.of hp;have g3:=Gr.nw g2.s nn;exact q _ rfl _ ρ2 _ _ (g12.trans (.of g3)) (s2.grow g3) (.lst (cR.of aH) (da.same g3.g))
  | some d0=>
   refine .inr ?_;obtain ⟨go,step⟩:=ia.1 d0 hd;have eb':∃ δ2,h d0 (bI ix δ)=some δ2/\au (au (c δ2 S2) λ b S1=>if b=true then au (fe δ2 S1) λ e S2=>au (bX n h c fe (bI ix δ) k (i+1) S2) λ es S3=>some (.ok (e::es),S3) else bX n h c fe (bI ix δ) k (i+1) S1) (λ es S1=>some (.ok (.list (as++es)),S1))=some (r,S'):=by
    simp only [bX,hl,Option.bind_some,hd] at eb;cases e2:h d0 (bI ix δ) with
    | none=>rw [e2] at eb;cases eb
    | some δ2=>rw [e2] at eb;exact ⟨δ2,rfl,eb⟩
   obtain ⟨δ2,e2,e3⟩:=eb';refine ⟨go,by omega,λ ys' H'=>ys'.length<=i+1/\∃ ρ3 G3 as' S3,GS ρ1 G1 H1 ρ3 G3 H'/\SR K ρ3 cl G3 H' S3/\aw K ρ3 G3 ys' as'/\au (bX n h c fe (bI ix δ) k (i+1) S3) (λ es S1=>some (.ok (.list (as'++es)),S1))=some (r,S'),λ ys' H' hy0=>by obtain ⟨l,z⟩:=hy0;exact ⟨k,Nat.lt_succ_self _,by omega,l,z⟩,λ x H' y=>?_⟩;obtain ⟨G3,g3,dx⟩:=step x H' y;have gs3:GS ρ2 G2 H2 ρ2 G3 H':=.of g3;have s3:=s2.grow g3;have R3:=R2.grow gs3 s3;refine hg ρ2 G3 H' (bI ix δ) _ x _ δ2 _ (R3.lift hx).rl dx e2 λ σ2 R4 o4=>?_;have RS4:RS K cl ρ2 G3 H' δ2 σ2 S2:=⟨R4,s3,λ j ds' p h1 h2=>by
    obtain ⟨es',m1,m2⟩:=o4 j ds' p h1 h2;exact (R3.lift hx).ap j es' p m1 m2⟩
   rcases aO e3 with ⟨c',em,rfl⟩ | ⟨es,S5,em,e4⟩
   . -- an exception on the way
     rcases aO em with ⟨c2,en,z⟩ | ⟨b,S4,en,e5⟩
     . cases z;exact hc ρ2 G3 σ2 H' δ2 S2 _ _ _ RS4 en (λ d hd=>by cases hd) (λ c3 h3 ρ5 G5 H5 g5 s5=>by cases h3;exact qx c' rfl ρ5 G5 H5 (g12.trans (gs3.trans g5)) s5)
     . refine hc ρ2 G3 σ2 H' δ2 S2 _ _ _ RS4 en (λ d hd=>?_) (λ c3 h3=>by cases h3);cases hd;intro ρ5 G5 H5 g5 s5;have g15:=g2.trans (gs3.trans g5);have da5:=((da.ext (gs3.trans g5).r).same (gs3.trans g5).g)
       cases b with
       | false=>exact ⟨by omega,ρ5,G5,as,S4,g15,s5,da5,by rw [show bX n h c fe (bI ix δ) k (i+1) S4=some (.xc c',S') from e5];rfl⟩
       | true=>
        rw [if_pos rfl] at e5 ⊢;rcases aO e5 with ⟨c2,en2,z⟩ | ⟨ev,S6,en2,e6⟩
        . cases z;exact he ρ5 G5 σ2 H5 δ2 S4 _ _ _ (RS4.grow g5 s5) en2 (λ d hd=>by cases hd) (λ c3 h3 ρ6 G6 H6 g6 s6=>by cases h3;exact qx c' rfl ρ6 G6 H6 (g12.trans (gs3.trans (g5.trans g6))) s6)
        . refine he ρ5 G5 σ2 H5 δ2 S4 _ _ _ (RS4.grow g5 s5) en2 (λ d hd=>?_) (λ c3 h3=>by cases h3);cases hd;intro v ρ6 G6 H6 g6 s6 dv;rcases aO e6 with ⟨c2,en3,z⟩ | ⟨es2,S7,en3,e7⟩
          . cases z;exact ⟨by simp;omega,ρ6,G6,as++[ev],S6,g15.trans g6,s6,((da5.ext g6.r).same g6.g).app (.cons dv .nil),by rw [en3];rfl⟩
          . cases e7
   . cases e4;rcases aO em with ⟨c2,en,z⟩ | ⟨b,S4,en,e5⟩
     . cases z
     . refine hc ρ2 G3 σ2 H' δ2 S2 _ _ _ RS4 en (λ d hd=>?_) (λ c3 h3=>by cases h3);cases hd;intro ρ5 G5 H5 g5 s5;have g15:=g2.trans (gs3.trans g5);have da5:=((da.ext (gs3.trans g5).r).same (gs3.trans g5).g)
       cases b with
       | false=>exact ⟨by omega,ρ5,G5,as,S4,g15,s5,da5,by rw [show bX n h c fe (bI ix δ) k (i+1) S4=some (.ok es,S') from e5];rfl⟩
       | true=>
        rw [if_pos rfl] at e5 ⊢;rcases aO e5 with ⟨c2,en2,z⟩ | ⟨ev,S6,en2,e6⟩
        . cases z
        . refine he ρ5 G5 σ2 H5 δ2 S4 _ _ _ (RS4.grow g5 s5) en2 (λ d hd=>?_) (λ c3 h3=>by cases h3);cases hd;intro v ρ6 G6 H6 g6 s6 dv;rcases aO e6 with ⟨c2,en3,z⟩ | ⟨es2,S7,en3,e7⟩
          . cases z
          . cases e7;exact ⟨by simp;omega,ρ6,G6,as++[ev],S6,g15.trans g6,s6,((da5.ext g6.r).same g6.g).app (.cons dv .nil),by rw [en3];simp [au]⟩
end
theorem zX {K:Frag} {cl:Str->Addr} {G H:Hp}:SR K [] cl G H []:=⟨rfl,List.nodup_nil,λ n o e=>by simp at e⟩
end L2
set_option Elab.async false
set_option linter.all false
set_option maxRecDepth 100000
namespace L2
open PySem PySem.Spec PyProof.Rows PySem.AutoSeq1
open PySem.W (Frag)
theorem C7 (l b:Addr) (xs ys:Array Value) (n k:Nat) (sl:Array (Option Value)) (h1:¬(!xs.isEmpty&&Builtin.List.listTooLong (xs.size+ys.size))=true) (h2:xs.size<=sizeLine) (h3:xs.size+ys.size<=sizeLine+1):
 Meets (Builtin.«list.extend» ⟨[.ref l,.ref b],[]⟩) (λ _ R s=>s.heap.get? l=some { cls:=.type "list", data:=.seq xs n }/\s.heap.get? b=some { cls:=.type "list", dict:=none,data:=.seq ys k,slots:=sl }/\R (.ok (.ret .none)) { s with heap:=s.heap.update l (Obj.mapSeq (·++ys)),toks:=s.toks }):=
 .of_wp λ prog w A R s h=>by
  obtain ⟨hp,g,d,tk,os⟩:=s;obtain ⟨hl,hb,h⟩:=h;have e1:=idx_int;have e2:=AutoSeq1.sub_tuple_tuple;have e3:=AutoSeq1.sub_list_list;have e4:=AutoSeq1.sub_tuple_list;have e5:=AutoSeq1.sub_list_tuple;have hz:(xs++ys).size<=sizeLine+1:=by
   rw [Array.size_append];exact h3
  wp_walk using (wpAny_updateSeq hl rfl (hz:=h2) (_hz':=hz)),wpAny_loadPart' hl,wpAny_loadPart' hb
  exact ⟨_,rfl,h⟩
section
variable {X:Cx}
noncomputable def nM (K:Frag):V->List V->Hp->VK->Prop:=λ x vs H Q=>∃ l b xs ys,x=.ref l/\vs=[.ref b]/\H l=some (.lst xs)/\cR K H b ys/\xs.length+ys.length<=sizeLine/\Q .non (cn H l (.lst (xs++ys)))
theorem u0:J0 X "list.extend" (nM X.K):=by
 intro pins s σ H x vs v us Q I rx rv h;obtain ⟨l,b,xs,ys,rfl,rfl,h1,h2,h3,q⟩:=h;cases rx;obtain ⟨u,rfl,ru⟩:=rv.one;cases ru;obtain ⟨z,its,n,r,hl,e⟩:=I.lstM h1;obtain ⟨jts,r2,⟨⟨oc,od,da,sl⟩,k,e2,c1,c2,c3⟩,z2⟩:=I.list h2;simp only at c1 c2 c3;subst c1 c2 c3;have l2:=r2.length;have hn:¬ (!its.toArray.isEmpty&&Builtin.List.listTooLong (its.toArray.size+jts.toArray.size))=true:=by
  rw [List.size_toArray,List.size_toArray,n9 (by omega),Bool.and_false];exact Bool.false_ne_true
 refine call_meets F.slot_list_extend ⟨_,e,rfl⟩ F.entry_list_extend (F.args_list_extend_2 _ _) (C7 l b its.toArray jts.toArray n k sl hn (by rw [List.size_toArray];omega) (by rw [List.size_toArray,List.size_toArray];omega)) ⟨e,e2,?_⟩;refine ⟨.non,_,I.lset (its':=its++jts) h1 e (by simp) (r.append r2) ?_,rfl,q⟩;rw [List.length_append];omega
end
section
variable {K:Frag} {ρ:List Addr}
theorem nu {G:Hp}:∀ ws:List Str,aw K ρ G (ws.map V.str) (ws.map W.str)
 | []=>.nil
 | w::ws=>.cons (.str w) (nu ws)
theorem sE {H:Hp} {x:V} {d:W} {a:Addr} {ws:List Str} {b:Bool} (h:ez K H a (ws.map V.str)) (hx:Dw K ρ H x d) (e:gF d (.tuple (ws.map W.str))=some b):fR x=true/\(ws.map V.str).all fR=true/\Er x (ws.map V.str)=b:=by
 obtain ⟨ds,e1,e⟩:=oB e
 obtain ⟨v,e2,e⟩:=oB e
 obtain ⟨vs,e3,rfl⟩:=oM e
 cases e1;obtain ⟨rfl,f1⟩:=vq hx e2;obtain ⟨rfl,f2⟩:=r9 (K:=K) (ρ:=ρ) (H:=H) (nu ws) e3;exact ⟨f1,f2,rfl⟩
theorem tu {neg:Bool} {ta:TE} {fa:DS->Option W} {a:Addr} {ws:List Str} (hs:∀ G,ez K G a (ws.map V.str)) (ha:DK K ρ ta fa) {G:Hp} {σ:St} {H:Hp} {δ:DS} {b:Bool} {Q:VK} (R:Rl K ρ G H δ σ) (e:av (if neg then iZ else gF) fa (dC (.tuple (ws.map W.str))) δ=some b) (q:∀ G' H',Gr G H G' H'->Q (.bl b) H'):qp (Da K neg) ta (tC (.ref a)) σ H Q:=by
 obtain ⟨x,ex,e⟩:=oB e
 have e:(if neg then iZ else gF) x (.tuple (ws.map W.str))=some b:=e;refine ha G σ H δ x _ R ex λ v G1 H1 g1 dv=>?_;have dv:=dv.dp g1.s;cases neg with
 | false=>
  obtain ⟨f1,f2,rfl⟩:=sE (hs H1) dv e;exact ⟨a,_,rfl,.inr (hs H1),f1,f2,q G1 H1 g1⟩
 | true=>
  obtain ⟨b',e',rfl⟩:=oM e
  obtain ⟨f1,f2,rfl⟩:=sE (hs H1) dv e';exact ⟨a,_,rfl,.inr (hs H1),f1,f2,q G1 H1 g1⟩
theorem Fc {ta:TE} {fa:DS->Option W} {a:Addr} {ws:List Str} (hs:∀ G,ez K G a (ws.map V.str)) (ha:DK K ρ ta fa):DT K ρ (tI (qp (Da K false) ta (tC (.ref a)))) (av gF fa (dC (.tuple (ws.map W.str)))):=λ G σ H δ b Q R e q=>
 tu (neg:=false) hs ha R e λ G' H' g=>⟨b,rfl,q G' H' g⟩
theorem xt {ta:TE} {fa:DS->Option W} {a:Addr} {ws:List Str} (hs:∀ G,ez K G a (ws.map V.str)) (ha:DK K ρ ta fa):DT K ρ (tI (qp (Da K true) ta (tC (.ref a)))) (av iZ fa (dC (.tuple (ws.map W.str)))):=λ G σ H δ b Q R e q=>
 tu (neg:=true) hs ha R e λ G' H' g=>⟨b,rfl,q G' H' g⟩
noncomputable def gU (i:Nat) (f:DS->Option W):DS->Option dm:=λ δ=>(kB i δ).bind λ ds=>(f δ).bind λ d=>(iE d).bind λ es=>if ds.length+es.length<=sizeLine then some (.nx (δ.set i (.own (ds++es)))) else none
theorem jQ {i:Nat} {t:TE} {f:DS->Option W} (h:DE K ρ t f):mT K ρ (pZ (EH K "list" (nM K) (uB i) (eC t iH))) (gU i f):=λ G0 H0 G σ H δ o D I e p=>by
 obtain ⟨ds,eo,e⟩:=oB e
 obtain ⟨d,ed,e⟩:=oB e
 obtain ⟨es,ee,e⟩:=oB e
 split at e
 case isFalse=>cases e
 rename_i hz;cases e;cases h9 ee;have ho:=kJ eo;obtain ⟨o,h1,q,vs,rfl,h3,h4,h5⟩:=I.rl.sl i _ ho;refine ⟨.ref q,h1,.inl ⟨rfl,vs,cR.of h4⟩,h G σ H δ _ _ I.rl ed λ v G1 H1 g1 dv=>?_⟩;have I1:=I.grow g1;cases dv with
 | lst sq da=>
  refine ⟨q,_,vs,_,rfl,rfl,g1.h _ _ h4,g1.s.seq sq,by rw [h5.length,da.length];exact hz,?_⟩;exact p σ G1 _ (I1.put ho h1 (g1.n q (.l h4) h3) ((h5.same g1.g).app da))
end
structure Bw (K:Frag) (x q:Str) (st:Stmt) (f:Addr) (fd:FuncData):Prop where
 ex:∃ (dV oc kV dc pm cd ct:Value) (od an:Option Addr) (sl:Array (Option Value)),fd=PySem.W.fnOf x q (cJ st) (ck st) (aZ st) dV kV dc pm an cd ct/\K.lookup f=some ⟨oc,od,.func fd,sl⟩/\PySem.W.codeIn K cd q=true
 kp:PySem.W.keepIn K (.ref f)=true
theorem Bw.ok {P:Program} {w:World} {K:Frag} {mg:Str->Option Value} {base:Heap} {x q:Str} {st:Stmt} {f:Addr} {fd:FuncData} {N ps:List Str} {k:Nat} {sp:Sp} (F:Bw K x q st f fd) (S:g7 N ps (aZ st)) (hl:∀ vs H Q E,sp vs H Q E->vs.length=ps.length)
 (hb:∀ (cd:Value) (A:Around) (outer:List Env) (s:Shared) (H:Hp) (vs:List V) (Q:VK) (E:XK),dF k (A.deeper (envOfC q (aZ st) s.heap.objs.size f cd))->sp vs H Q E->
  ∃ t,u3 (uY CQ P w K mg base N q (aZ st) f cd A outer s H E).nox (ck st) t/\t ({ nx:=λ _ H'=>Q V.non H',rt:=Q }:jx) (start N vs) H):eF P w K mg base CQ (k+1) f fd ps sp:=by
 obtain ⟨dV,oc,kV,dc,pm,cd,ct,od,an,sl,rfl,lk,hc⟩:=F.ex;refine ID lk hc S hl λ A outer s H vs Q E hr hs=>?_;obtain ⟨t,h,r⟩:=hb cd A outer s H vs Q E hr hs;exact ⟨t,h.nox,r⟩
theorem g8 {K:Frag} {x q:Str} {st:Stmt} {f:Addr} {dV oc kV dc pm cd ct:Value} {od an:Option Addr} {sl:Array (Option Value)} (l:K.lookup f=some ⟨oc,od,.func (PySem.W.fnOf x q (cJ st) (ck st) (aZ st) dV kV dc pm an cd ct),sl⟩) (c:PySem.W.codeIn K cd q=true) (k:PySem.W.keepIn K (.ref f)=true):Bw K x q st f (PySem.W.fnOf x q (cJ st) (ck st) (aZ st) dV kV dc pm an cd ct):=⟨⟨dV,oc,kV,dc,pm,cd,ct,od,an,sl,rfl,l,c⟩,k⟩
section
variable {K:Frag} {ρ:List Addr}
noncomputable def ug (f:List W->Option W) (fa:DS->Option (List W)):DS->Option W:=λ δ=>(fa δ).bind λ ds=>f (ds++[.none])
theorem yr {f:List W->Option W} {t:TA} {fa:DS->Option (List W)} {E:XK} (h:DA K ρ t fa):DE K ρ (pv (jZ K f) [.non] E t) (ug f fa):=λ G σ H δ d Q R e q=>by
 obtain ⟨ds,ed,e⟩:=oB e
 exact h G σ H δ ds _ R ed λ vs G1 H1 g1 da=>⟨ρ,G1,ds++[.none],d,g1.s,da.app (.cons .non .nil),e,λ v G2 H2 g2 dv=>q v G2 H2 (g1.trans g2) dv⟩
end
noncomputable def pz (i j:Int):Bool:=decide (0<=j)&&decide (j<=1000)&&decide (i.natAbs<2^64)
noncomputable def o5:W->W->Option W:=C4 pz λ i j=>i^j.toNat
theorem E5 {K:Frag} {ρ:List Addr}:DR K ρ (rI HI λ i j=>.int (i^j.toNat)) o5:=vH λ i j h=>by
 simp only [pz,Bool.and_eq_true,decide_eq_true_eq] at h;exact ⟨h.1.1,by omega,h.2⟩
theorem At:ba [V.non] [Value.none]:=.cons rfl .nil
section
variable {K:Frag} {cl:Str->Addr} {E:XK}
noncomputable def jb:List W->Option (List bg)
 | []=>some []
 | d::ds=>(p9 d).bind λ k=>(jb ds).map (k::·)
noncomputable def oE:W->Option (List bg)
 | .tuple ds=>jb ds
 | _=>none
theorem yG {ρ:List Addr} {G:Hp} {vs:List V} {ds:List W} {ks:List bg} (h:aw K ρ G vs ds):jb ds=some ks->vs=ks.map kV:=
 h.ind (M:=λ vs ds=>∀ ks,jb ds=some ks->vs=ks.map kV) (λ ks e=>by cases e;rfl) (λ _ _ _ _ a ih ks e=>by
  obtain ⟨k,e1,e⟩:=oB e
  obtain ⟨ks,e2,rfl⟩:=oM e
  rw [ng a e1,ih _ e2];rfl) ks
theorem pP {ρ:List Addr} {G:Hp} {v:V} {d:W} {ks:List bg} (h:Dw K ρ G v d) (e:oE d=some ks):∃ b,v=.ref b/\G b=some (.tup (ks.map kV)):=by
 cases h with
 | tup sq da=>exact ⟨_,rfl,by rw [<-yG da e];exact sq⟩
 | _=>cases e
noncomputable def sJ (x y:W) (S:ai):Option (Option W):=match iJ x S with
 | some (_,.dK kvs)=>(p9 y).map λ k=>cr kvs k
 | some (_,.dT kvs)=>(oE y).map λ k=>cr kvs k
 | _=>none
theorem wy {ρ:List Addr} {G H:Hp} {S:ai} {v u:V} {x y:W} {o:Option W} (sg:bm G H) (s:SR K ρ cl G H S) (dv:Dw K ρ G v x) (du:Dw K ρ G u y) (h:sJ x y S=some o):∃ a r,v=.ref a/\mQ H a u r/\(match o with | some d=>∃ z,r=some z/\Dw K ρ G z d | none=>r=none):=by
 unfold sJ at h;split at h
 . rename_i n kvs e1;obtain ⟨k,e3,e4⟩:=oM h
   obtain ⟨rfl,e5⟩:=eP e1;obtain ⟨a,rfl,ea⟩:=dz dv;obtain ⟨ga,ws,k1,k2⟩:=s.addr e5 ea;obtain ⟨v1,v2⟩:=k2.val (k:=k);refine ⟨a,j3 ws k,rfl,?_,?_⟩
   . rw [ng du e3];exact mQ.k k1
   . cases o with
     | some d=>exact v1 d e4
     | none=>exact v2 e4
 . rename_i n kvs e1;obtain ⟨k,e3,e4⟩:=oM h
   obtain ⟨rfl,e5⟩:=eP e1;obtain ⟨a,rfl,ea⟩:=dz dv;obtain ⟨ga,ws,k1,k2⟩:=s.addr e5 ea;obtain ⟨v1,v2⟩:=k2.val (k:=k);obtain ⟨b,rfl,hb⟩:=pP du e3;refine ⟨a,j3 ws k,rfl,mQ.t k1 (sg _ _ hb),?_⟩
   . cases o with
     | some d=>exact v1 d e4
     | none=>exact v2 e4
 . cases h
noncomputable def iU (fo fk:DS->ai->SM W):DS->ai->SM W:=λ δ S=>au (fo δ S) λ x S1=>au (fk δ S1) λ y S2=>(sJ x y S2).bind λ o=>lq o S2
theorem wv {to tk:TE} {fo fk:DS->ai->SM W} (ho:SE K cl E to fo) (hk:SE K cl E tk fk):SE K cl E (Dr to tk) (iU fo fk):=λ ρ G σ H δ S r S' Q R e q qx=>
 fU ho hk R e (λ x y S2 e2 v u ρ2 G2 H2 g2 s2 dv du=>by
  obtain ⟨o,e3,e4⟩:=oB e2
  obtain ⟨d,rfl,rfl,rfl⟩:=b9 e4;obtain ⟨a,r,rfl,h1,z,rfl,h2⟩:=wy g2.s s2 dv du e3;exact ⟨a,z,rfl,h1,q d rfl z ρ2 G2 H2 g2 s2 h2⟩) qx
noncomputable def Bv (neg:Bool) (fk fo:DS->ai->SM W):DS->ai->SM Bool:=λ δ S=>au (fk δ S) λ y S1=>au (fo δ S1) λ x S2=>lq ((sJ x y S2).map λ o=>if neg then !o.isSome else o.isSome) S2
theorem xm {to tk:TE} {fo fk:DS->ai->SM W} (hk:SE K cl E tk fk) (ho:SE K cl E to fo):ST K cl E (tB (wb tk to)) (Bv true fk fo):=λ ρ G σ H δ S r S' Q R e q qx=>
 fU hk ho R e (λ y x S2 e2 u v ρ2 G2 H2 g2 s2 du dv=>by
  obtain ⟨b,e3,rfl,rfl⟩:=b9 e2;obtain ⟨o,e4,rfl⟩:=oM e3
  obtain ⟨a,r,rfl,h1,h2⟩:=wy g2.s s2 dv du e4;have hb:r.isSome=o.isSome:=by
   cases o with
   | some d=>obtain ⟨z,rfl,_⟩:=h2;rfl
   | none=>rw [show r=none from h2];rfl
  refine ⟨a,r,rfl,h1,?_⟩;rw [hb];exact ⟨!o.isSome,rfl,q _ rfl ρ2 G2 H2 g2 s2⟩) qx
noncomputable def ue (x y d:W) (S:ai):Option ai:=match iJ x S with
 | some (n,.dK kvs)=>(p9 y).bind λ k=>if kvs.length<sizeLine then some (S.set n (.dK (bV kvs k d))) else none
 | some (n,.dT kvs)=>(oE y).bind λ k=>if kvs.length<sizeLine then some (S.set n (.dT (bV kvs k d))) else none
 | _=>none
theorem Cq {ρ:List Addr} {G H:Hp} {S S':ai} {v u w:V} {x y d:W} (sg:bm G H) (s:SR K ρ cl G H S) (dv:Dw K ρ G v x) (du:Dw K ρ G u y) (dw:Dw K ρ G w d) (h:ue x y d S=some S'):∃ a H',v=.ref a/\qX H a u w H'/\SR K ρ cl G H' S'/\GS ρ G H ρ G H':=by
 unfold ue at h;split at h
 . rename_i n kvs e1;obtain ⟨k,e3,e4⟩:=oB h
   split at e4
   case isFalse=>cases e4
   rename_i hl;cases e4;obtain ⟨rfl,e5⟩:=eP e1;obtain ⟨a,rfl,ea⟩:=dz dv;obtain ⟨ga,ws,k1,k2⟩:=s.addr e5 ea;obtain ⟨s4,g4⟩:=s.put (x:=.dK (jy ws k w)) (o':=.dK (bV kvs k d)) sg e5 ea (λ b z=>by cases z) ⟨_,aH,k2.put dw⟩;refine ⟨a,_,rfl,?_,s4,g4⟩;rw [ng du e3];exact qX.k k1 (by rw [<-k2.length];exact hl)
 . rename_i n kvs e1;obtain ⟨k,e3,e4⟩:=oB h
   split at e4
   case isFalse=>cases e4
   rename_i hl;cases e4;obtain ⟨rfl,e5⟩:=eP e1;obtain ⟨a,rfl,ea⟩:=dz dv;obtain ⟨ga,ws,k1,k2⟩:=s.addr e5 ea;obtain ⟨s4,g4⟩:=s.put (x:=.dT (jy ws k w)) (o':=.dT (bV kvs k d)) sg e5 ea (λ b z=>by cases z) ⟨_,aH,k2.put dw⟩;obtain ⟨b,rfl,hb⟩:=pP du e3;exact ⟨a,_,rfl,qX.t k1 (sg _ _ hb) (by rw [<-k2.length];exact hl),s4,g4⟩
 . cases h
noncomputable def oA (fo fk fv:DS->ai->SM W):DS->ai->SO:=λ δ S=>m9 (fv δ S) λ d S1=>m9 (fo δ S1) λ x S2=>m9 (fk δ S2) λ y S3=>(ue x y d S3).map λ S4=>(.nx δ,S4)
theorem wj {to tk tv:TE} {fo fk fv:DS->ai->SM W} (ho:SE K cl E to fo) (hk:SE K cl E tk fk) (hv:SE K cl E tv fv):oO K cl E (CP to tk tv) (oA fo fk fv):=λ ρ0 G0 H0 ρ G σ H δ S o S' D I e p=>
 eJ hv I e p λ d S1 e1 v ρ1 G1 H1 g1 s1 dv=>by
  have I1:=I.grow g1 s1;refine eJ ho I1 e1 p λ x S2 e2 u ρ2 G2 H2 g2 s2 du=>?_;have I2:=I1.grow g2 s2;refine eJ hk I2 e2 p λ y S3 e3 w ρ3 G3 H3 g3 s3 dw=>?_;obtain ⟨S4,e4,e5⟩:=oM e3
  cases e5;have g23:=g2.trans g3;obtain ⟨a,H4,rfl,h1,s4,g4⟩:=Cq g3.s s3 ((du.ext g3.r).same g3.g) dw ((dv.ext g23.r).same g23.g) e4;exact ⟨a,_,rfl,h1,p σ ρ3 G3 _ ((I2.grow g3 s3).grow g4 s4)⟩
end
theorem dF.units1 {k:Nat} {A:Around} (r:dF k A):A.units+1<cLine:=Nat.lt_of_le_of_lt (by omega) r.units
section
variable {K:Frag} {cl:Str->Addr} {E:XK}
noncomputable def zS:List V->Hp->VK->Prop:=λ xs H Q=>∃ a kvs,xs=[V.ref a]/\H a=some (.dK kvs)/\Q (.int kvs.length) H
theorem uL {X:Cx}:cm X (.builtin "len") zS:=xf
noncomputable def sd (fa:DS->ai->SM W):DS->ai->SM W:=λ δ S=>au (fa δ S) λ x S1=>lq ((wP x S1).map λ p=>.int p.2.length) S1
theorem CA {ta:TE} {fa:DS->ai->SM W} (ha:SE K cl E ta fa):SE K cl E (v6 zS (eC ta iH)) (sd fa):=λ ρ G σ H δ S r' S' Q R e q qx=>
 eQ ha R e (λ x S2 e2 v ρ2 G2 H2 g2 s2 dv=>by
  obtain ⟨c,e3,rfl,rfl⟩:=b9 e2;obtain ⟨⟨n,kvs⟩,e4,rfl⟩:=oM e3
  obtain ⟨rfl,e5⟩:=xD e4;obtain ⟨a,rfl,ea⟩:=dz dv;obtain ⟨ga,ws,k1,k2⟩:=s2.addr e5 ea;refine ⟨a,ws,rfl,k1,?_⟩;rw [<-k2.length];exact q _ rfl _ ρ2 G2 H2 g2 s2 (.int _)) qx
noncomputable def Bp (fo:DS->ai->SM W):DS->ai->SM W:=λ δ S=>au (fo δ S) λ x S1=>(fQ x S1).bind λ p=>(p.2[p.2.length-1]?).map λ d=>(.ok d,S1.set p.1 (.lst p.2.dropLast))
theorem aw.dropL {ρ:List Addr} {G:Hp} {vs:List V} {ds:List W} (h:aw K ρ G vs ds):aw K ρ G vs.dropLast ds.dropLast:=by rw [List.dropLast_eq_take,List.dropLast_eq_take,h.length];exact h.take _
theorem Es {to:TE} {fo:DS->ai->SM W} (ho:SE K cl E to fo):SE K cl E (Bi K "list" Ei to) (Bp fo):=λ ρ G σ H δ S r' S' Q R e q qx=>
 eQ ho R e (λ x S2 e2 v ρ2 G2 H2 g2 s2 dv=>by
  obtain ⟨⟨n,ds⟩,e3,e4⟩:=oB e2
  obtain ⟨d,e5,e6⟩:=oM e4
  cases e6;obtain ⟨rfl,e7⟩:=cM e3;obtain ⟨a,rfl,ea⟩:=dz dv;obtain ⟨ga,vs,k1,k2⟩:=s2.addr e7 ea;obtain ⟨z,h1,h2⟩:=k2.get e5;obtain ⟨s4,g4⟩:=s2.put (x:=.lst vs.dropLast) (o':=.lst ds.dropLast) g2.s e7 ea (λ b z=>by cases z) ⟨_,aH,k2.dropL⟩;exact ⟨.inl ⟨rfl,vs,cR.of k1⟩,a,vs,z,rfl,rfl,k1,by rw [k2.length];exact h1,q d rfl z ρ2 G2 _ (g2.trans g4) s4 h2⟩) qx
end
noncomputable def HA (g:List W->Option W) (fa:DS->Option (List W)):DS->Option W:=λ δ=>(fa δ).bind g
section
variable {K:Frag} {ρ:List Addr}
end
section
variable {K:Frag} {cl:Str->Addr} {E:XK}
end
open PySem.AutoSeq1 (wpAny_loadPart')
section
variable {prog:Program} {w:World} {A:Around} {E:Value->Shared->Prop} {s:Shared}
theorem EO {T mk:String} {me:Value} {more:List Value} {kw:List (Str×Value)} (h1:typeLookup (.type T) "__init__" = pure (some (.builtin "object.__init__")))
 (h2:Bind.madeBy (.type T)=pure (some mk)) (h3:(some mk != some "object.__new__")=true):Meets (Builtin.«object.__init__» ⟨me::more,kw⟩) (λ _ R s=>s.TypeIs me T/\R (.ok (.ret .none)) s):=by
 refine .of_wp λ pr wo B R z hz=>?_;obtain ⟨t1,t2⟩:=hz;cases more with
 | nil=>
  cases kw with
  | nil=>exact wpAny_pure ⟨_,rfl,t2⟩
  | cons k ks=>
   repeat (any_goals (first | assumption | wp_step))
   exact ⟨_,rfl,t2⟩
 | cons a as=>
  repeat (any_goals (first | assumption | wp_step))
  exact ⟨_,rfl,t2⟩
theorem Aj {T mk:String} {B:Builtin} {vs:List Value} {kw:List (Str×Value)} {S:PySem.Spec} {Q:Value->Shared->Prop} (ft:TypeCalled T mk "object.__init__") (hne:(some mk != some "object.__new__")=true)
 (c1:checkTypeCall T ⟨vs,kw⟩=pure ()) (c2:checkBuiltinCall mk ⟨.type T::vs,kw⟩=pure ()) (c3:∀ o,argsOk "object.__init__" ⟨o::vs,kw⟩) (eB:entryFor table mk=some B) (g:Meets (B ⟨.type T::vs,kw⟩) S)
 (h:S A.in1 (wants (λ o z=>z.TypeIs o T/\Q o z) E) s):wpAny (model prog w) A (call (.type T) vs kw) Q E s:=by
 obtain ⟨c,tl,m1⟩:=ft.mro;have m2:=ft.made;have m3:=ft.sub;refine wpAny_call (codeAny_of_tree ?_);show wpAny _ _ (callAny (.type T) _) _ _ _;refine wpAny_pure ⟨Code.quiet_builtin _ (by decide +kernel),codeAny_builtin F.entry_type_call ?_⟩;rw [Around.under_plain (weight_type_call_type T vs kw) (units_type_call_type T vs kw)];have m4:=ft.notType;have m5:=ft.canCreate;repeat (any_goals (first | assumption | wp_step))
 refine codeAny_mono (codeAny_call_builtin ft.plain eB (wpAny_of_eq c2 (g prog w A.in1 _ s h))) λ r z hr=>?_;cases r with
 | error e=>exact hr
 | ok fl=>
  cases fl with
  | ret o=>
   obtain ⟨t1,t2⟩:=hr;have l1:=ft.init.lookup;have l2:=ft.init.bind o;repeat (any_goals (first | assumption | wp_step))
   refine codeAny_mono (codeAny_call_builtin ft.init.plain F.entry_object_init (ft.init.check _ _ _ _ _ _ _ _ t1 (c3 o) (EO ft.init.lookup ft.made hne prog w A.in1 (wants (λ r y=>r=.none/\Q o y) E) z ⟨t1,rfl,t2⟩))) λ r2 z2 hr2=>?_;cases r2 with
   | error e=>exact hr2
   | ok f2=>
    cases f2 with
    | ret r=>
     obtain ⟨rfl,q⟩:=hr2;repeat (any_goals (first | assumption | wp_step))
    | _=>exact hr2.elim
  | _=>exact hr.elim
theorem Fj (a b:Value):checkTypeCall "enumerate" ⟨[a],[("start", b)]⟩=pure ():=by kernel_rfl
theorem Bn (a b:Value):checkBuiltinCall "enumerate.__new__" ⟨[.type "enumerate", a],[("start", b)]⟩=pure ():=by kernel_rfl
end
open PySem.AutoSeq1 (wpAny_loadPart')
noncomputable abbrev sx (l:Addr):Obj:={ cls:=.type "list_iterator", data:=.fields #[.ref l,.int 0 0] }
noncomputable abbrev Ad (it:Addr) (z:Int):Obj:={ cls:=.type "enumerate", data:=.fields #[.none,.bool false,.ref it,rawInt z,.none,.none] }
theorem zL (l:Addr) (items:Array Value) (n:Nat) (dct:Option Addr) (sl:Array (Option Value)) (z:Int) (t:Tok) (hf:Builtin.SmallTypes.fitsIndex z=true):
 Meets (Builtin.«enumerate.__new__» ⟨[.type "enumerate", .ref l],[("start", .int z t)]⟩) (λ _ R s=>s.heap.get? l=some { cls:=.type "list", dict:=dct,data:=.seq items n,slots:=sl }/\
  R (.ok (.ret (.ref (s.heap.push (sx l)).objs.size))) { s with heap:=(s.heap.push (sx l)).push (Ad s.heap.objs.size z) }):=
 .of_wp λ prog w A R s h=>by
  obtain ⟨hp,g,d,tk,os⟩:=s;obtain ⟨hl,h⟩:=h;have e0:=sub_enumerate;have hL:Heap.IsList (Shared.heap ⟨hp,g,d,tk,os⟩) l items:=⟨_,hl,rfl,n,rfl⟩
  wp_walk using wpAny_loadPart' hl
  refine wpAny_stack_any λ st=>wpAny_pure ?_;have hf':(!Builtin.SmallTypes.fitsIndex z)=false:=by rw [hf];rfl
  have f1:¬ (!Builtin.SmallTypes.fitsIndex z)=true:=by rw [hf'];exact Bool.false_ne_true
  split
  . rename_i c _ _ _ _ _;cases (c==Value.type "enumerate")
    . wp_walk using wpAny_loadPart' hl,wpAny_pyIter_list hL
      exact ⟨_,rfl,h⟩
    . wp_walk using wpAny_loadPart' hl,wpAny_pyIter_list hL
      exact ⟨_,rfl,h⟩
  . wp_walk using wpAny_loadPart' hl,wpAny_pyIter_list hL
    exact ⟨_,rfl,h⟩
section
variable {prog:Program} {w:World} {A:Around} {E:Value->Shared->Prop} {s:Shared}
theorem xj (o a b:Value):argsOk "object.__init__" ⟨[o,a],[("start", b)]⟩:=by
 unfold argsOk;rw [signature?_of (id := "object.__init__") (n := "__tini__".toList) (o := "tcejbo".toList) (by kernel_rfl) F.owner_object];kernel_rfl
theorem wN {l:Addr} {items:Array Value} {z:Int} {t:Tok} {Q:Value->Shared->Prop} (hf:Builtin.SmallTypes.fitsIndex z=true) (hL:s.heap.IsList l items)
 (h:∀ h',IsEnum h' (s.heap.objs.size+1) s.heap.objs.size z .none->h'.IsListIter s.heap.objs.size l 0->(∀ b o,s.heap.get? b=some o->h'.get? b=some o)->Q (.ref (s.heap.objs.size+1)) { s with heap:=h' }):
 wpAny (model prog w) A (call (.type "enumerate") [.ref l] [("start", .int z t)]) Q E s:=by
 obtain ⟨⟨c,dct,dt,sl⟩,hl,hc,n,hd⟩:=hL;replace hc:c=.type "list" := hc;replace hd:dt=.seq items n:=hd;subst hc hd;refine Aj F.called_enumerate (by decide) (Fj _ _) (Bn _ _) (λ o=>xj o _ _) F.entry_enumerate_new (zL l items n dct sl z t hf) ⟨hl,?_⟩;have e1:(s.heap.push (sx l)).objs.size=s.heap.objs.size+1:=Heap.size_push ..;have e2:IsEnum ((s.heap.push (sx l)).push (Ad s.heap.objs.size z)) (s.heap.objs.size+1) s.heap.objs.size z .none:=by
  have e3:=Heap.get?_push_size (s.heap.push (sx l)) (o:=Ad s.heap.objs.size z) rfl;rw [e1] at e3;exact e3
 show _/\_;rw [e1];exact ⟨⟨_,e2,rfl⟩,h _ e2 ⟨_,Heap.get?_push_of_some _ (Heap.get?_push_size _ rfl),rfl,rfl⟩ λ b o x=>Heap.get?_push_of_some _ (Heap.get?_push_of_some _ x)⟩
theorem qa {it l:Addr} {items:Array Value} (k m i0:Nat) (hh:A.handled=none) (hil:l≠it) (h1:∀ i,i0<=i->i<m->i<items.size) (h2:items[m]?=none):
 Draws prog w A it [it,l] (k+m) (λ j y=>∃ i,j=k+i/\items[i]?=some y) (λ j h=>∃ i,j=k+i/\i0<=i/\h.IsListIter it l i/\h.IsList l items) where
 live:=λ j h hy0=>by obtain ⟨i,_,_,⟨o,ho,_⟩,_⟩:=hy0;exact ⟨o,ho⟩
 frame:=λ j h h' hy0 hk=>by obtain ⟨i,e,hi,a,b⟩:=hy0;exact ⟨i,e,hi,a.at λ o q=>hk it (by simp) o q,b.at λ o q=>hk l (by simp) o q⟩
 item:=λ j s Q E hj hy0 hQ=>by
  obtain ⟨i,e,hi,a,b⟩:=hy0;have hlt:=h1 i hi (by omega);exact wpAny_nextOf_list_item a b (x:=items[i]) (by simp [hlt]) λ h' a' s'=>hQ _ h' s.toks ⟨i,e,by simp [hlt]⟩ ⟨i+1,by omega,by omega,a',b.extBut s'.extBut hil⟩ s'
 done:=λ s Q E hy0 hE=>by
  obtain ⟨i,e,hi,a,b⟩:=hy0;have e':i=m:=by omega
  subst e';exact wpAny_nextOf_list_end hh a b h2 hE
theorem v8 {h:Heap} {it l:Addr} {i:Nat} {items:Array Value} (a:h.IsListIter it l i) (b:h.IsList l items):l≠it:=λ z=>by
 obtain ⟨o,e1,c1,_⟩:=a;obtain ⟨o',e2,c2,_⟩:=b;rw [z,e1] at e2;cases e2;rw [c1] at c2;simp at c2
theorem AF {h:Heap} {e it l:Addr} {z:Int} {old:Value} {items:Array Value} (a:IsEnum h e it z old) (b:h.IsList l items):e≠l:=λ z=>by
 obtain ⟨o',e2,c2,_⟩:=b;rw [<-z,a] at e2;cases e2;simp at c2
theorem yj {e it l:Addr} {k i:Nat} {items:Array Value} {x old:Value} {Q:Option Value->Shared->Prop} (hh:A.handled=none) (he:IsEnum s.heap e it ((k+i:Nat):Int) old) (hit:s.heap.IsListIter it l i) (hl:s.heap.IsList l items) (hx:items[i]?=some x) (hne:e≠it)
 (hQ:∀ h' tk,IsEnumOut h' e it (((k+i:Nat):Int)+1) x s.heap.objs.size->h'.IsListIter it l (i+1)->h'.get? s.heap.objs.size=some { cls:=.type "tuple", data:=.seq #[.int ((k+i:Nat):Int) tk,x] }->
  (∀ b o,b≠e->b≠it->s.heap.get? b=some o->h'.get? b=some o)->Q (some (.ref s.heap.objs.size)) { s with heap:=h',toks:=tk+1 }):wpAny (model prog w) A (pyNext (.ref e)) Q E s:=by
 have hlt:i<items.size:=(Array.getElem?_eq_some_iff.mp hx).1;have D:=qa (prog:=prog) (w:=w) (A:=A.in1) (items:=items) k items.size 0 hh (v8 hit hl) (λ _ _ h=>h) (by simp);refine wpAny_pyNext_enum_itemD D he ⟨i,rfl,Nat.zero_le _,hit,hl⟩ (by omega) hne (by simp [hne,AF he hl]) λ y h' tk p1 p2 p3 p4 p5 p6=>?_;obtain ⟨j,q1,q2⟩:=p1;obtain ⟨j',q3,_,q4,_⟩:=p3;have z1:j=i:=by omega
 have z2:j'=i+1:=by omega
 subst z1 z2;rw [hx] at q2;cases q2;exact hQ h' tk p2 q4 p4 p6
theorem B4 {e it l:Addr} {k i:Nat} {items:Array Value} {old:Value} {Q:Option Value->Shared->Prop} (hh:A.handled=none) (he:IsEnum s.heap e it ((k+i:Nat):Int) old) (hit:s.heap.IsListIter it l i) (hl:s.heap.IsList l items) (hx:items[i]?=none)
 (hQ:∀ h',Heap.ExtBut it s.heap h'->Q none { s with heap:=h' }):wpAny (model prog w) A (pyNext (.ref e)) Q E s:=by
 have D:=qa (prog:=prog) (w:=w) (A:=A.in1) (items:=items) k i i hh (v8 hit hl) (λ j h1 h2=>by omega) hx;exact wpAny_pyNext_enum_endD D he ⟨i,rfl,Nat.le_refl _,hit,hl⟩ hQ
end
noncomputable def K4 (K:Frag) (a:Addr) (k:Nat):It:=
 ⟨λ i H=>∃ xs x,cR K H a xs/\xs[i]?=some x,λ i H v H'=>∃ p x,H p=none/\v=.ref p/\H'=cn H p (.tup [.int ((k+i:Nat):Int),x])/\∀ xs,cR K H a xs->xs[i]?=some x,λ i H=>∃ xs,cR K H a xs/\xs.length<=i⟩
theorem IJ {P:Program} {w:World} {K:Frag} {elts:List Expr} {x1} {pos:Pos} (a e it:Addr) (k:Nat) (hei:e≠it):
 xa P w K (.Tuple elts x1 pos) (K4 K a k) [e,it] e (λ i h=>(∃ old,IsEnum h e it ((k+i:Nat):Int) old)/\h.IsListIter it a i) where
 mem:=by simp
 obj:=λ i h st c hc=>by
  obtain ⟨⟨old,e1⟩,⟨o4,e4,_,d4⟩⟩:=st;simp only [List.mem_cons,List.not_mem_nil,or_false] at hc;rcases hc with rfl | rfl
  . exact ⟨_,e1,λ v z=>by cases z⟩
  . exact ⟨o4,e4,λ v z=>by rw [d4] at z;cases z⟩
 keep:=λ i h h' st kp=>by
  obtain ⟨⟨old,e1⟩,e4⟩:=st;exact ⟨⟨old,kp e (by simp) _ e1⟩,e4.at λ o q=>kp it (by simp) o q⟩
 item:=by
  intro X hP hw hK hc i pins s σ H E I hf st hg;subst hP hw hK;obtain ⟨xs,x,qx,hx⟩:=hg;obtain ⟨its,rvx,px,_⟩:=I.list qx;obtain ⟨u,hu,ru⟩:=rvx.get hx;obtain ⟨⟨old,e1⟩,e4⟩:=st;have big:∀ {c:Addr} {o:Obj},s.heap.get? c=some o->c≠s.heap.objs.size:=λ e=>Nat.ne_of_lt (Heap.lt_size e);refine yj (I.ok.hd hc) e1 e4 px.isList (x:=u) (by simpa using hu) hei λ h' tk a1 a2 a3 a5=>?_;refine ⟨_,rfl,wpAny_letOwnedTupleGo_enum (s:={ s with heap:=h',toks:=tk+1 }) a1 λ h'' b1 b2=>?_⟩;have k2:∀ c o,c∉[e,it]->s.heap.get? c=some o->h''.get? c=some o:=λ c o hc q=>by
   simp only [List.mem_cons,List.not_mem_nil,or_false,not_or] at hc;exact (b2.2 c hc.1).trans (a5 c o hc.1 hc.2 q)
  have eT:IsTup h'' s.heap.objs.size (List.toArray [.int ((k+i:Nat):Int) tk,u]):=⟨_,(b2.2 _ (big e1).symm).trans a3,rfl,_,rfl⟩
  have I1:=I.turnedTup (t':=tk+1) (xs:=[.int ((k+i:Nat):Int),x]) hf k2 (Nat.le_refl _) eT (.cons ⟨_,rfl⟩ (.cons ru .nil)) (by show 2<=sizeLine;decide);refine ⟨.ref s.heap.objs.size,_,I1,rfl,⟨s.heap.objs.size,x,I.hok.fresh (Nat.le_refl _),rfl,rfl,λ zs hz=>by rw [I.list_inj hz qx];exact hx⟩,⟨⟨u,by simpa [Int.add_assoc] using b1⟩,a2.at λ o q=>(b2.2 _ hei.symm).trans q⟩,λ c hc=>?_⟩;have hcn:c≠s.heap.objs.size:=by
   obtain ⟨o4,g4,_⟩:=id e4;simp only [List.mem_cons,List.not_mem_nil,or_false] at hc;rcases hc with rfl | rfl
   . exact big e1
   . exact big g4
  rw [aM hcn];exact (hf c hc).1
 done:=by
  intro X hP hw hK hc i pins s σ H E I hf st hg;subst hP hw hK;obtain ⟨xs,qx,hl⟩:=hg;obtain ⟨its,rvx,px,_⟩:=I.list qx;obtain ⟨⟨old,e1⟩,e4⟩:=st;have lx:=rvx.length;obtain ⟨f0,f1,f2,f3,f4,f5⟩:=hf it (by simp);exact B4 (I.ok.hd hc) e1 e4 px.isList (by simp;omega) λ h' kp=>⟨rfl,I.turned (t':=s.toks) (λ b o hb q=>kp b o hb q) f0 f1 f3 f4 f5⟩
 self:=λ _ _ _ _ _ st h=>by
  obtain ⟨⟨old,e1⟩,_⟩:=st;exact wpAny_pyIter_enum e1 h
noncomputable def zY (K:Frag) (ta:TA) (tx:TE):TI:=λ σ H R=>ta σ H λ vs H1=>tx σ H1 λ y H2=>∃ (a:Addr) (k:Nat),vs=[.ref a]/\y=.int k/\k<2^62/\(∃ xs,cR K H2 a xs)/\R (K4 K a k) H2
section
variable {M:Model} {A:Around} {E:Value->Shared->Prop} {s:Shared} {env:Env}
theorem Ee {pos:Pos} {T:String} {e:Expr} {n:Str} {x:Expr} {kp:Pos} {Q:Value->Shared->Prop}
 (h:wpAny M A (spliced (backTo pos (starEach [e] env))) (λ vs s1=>wpAny M A (eval x env) (λ v s2=>wpAny M A (call (.type T) vs [(n,v)]) Q E s2) E s1) E s)
 (he:starEach [e] env=[(false,eval e env)]:=by rfl):
 wpAny M A (callWith pos (.type T) [] (backTo pos (starEach [e] env)) (backToKw pos (keywordEach [⟨some n,x,kp⟩] env))) Q E s:=by
 rw [he] at h ⊢;unfold callWith;refine wpAny_bind (wpAny_holding (wpAny_mono (evalArgs_kwB (Q:=λ a s1=>wpAny M A (call (.type T) ([]++a.pos) a.kw) Q E s1) rfl (wpAny_mono h (λ vs s1 h1=>?_) λ _ _ z=>z)) (λ a s1 h1=>wpAny_bind (wpAny_standAt ?_)) λ _ _ z=>z))
 . exact kws_cons (wpAny_mono h1 (λ v s2 h2=>kws_nil h2) λ _ _ z=>z)
 . refine wpAny_bind (wpAny_pure ?_);exact wpAny_bind (wpAny_mono h1 (λ r s2 hr=>wpAny_bind (wpAny_holding (wpAny_point (wpAny_pure hr)))) λ _ _ z=>z)
end
theorem IQ {X:Cx} {K:Frag} {elts:List Expr} {x1} {tpos:Pos} {a x:Expr} {ta:TA} {tx:TE} {p pos kp:Pos} (hK:X.K=K) (hg:Gl X "enumerate") (hm:X.mg "enumerate" = none) (ha:PA X [a] ta) (hx:PE X x tx) (hs:starEach [a] X.env=[(false,eval a X.env)])
 (he:eval (.Call (.Name "enumerate" p) [a] [⟨some "start", x,kp⟩] pos) X.env=(do callWith pos (<-eval (.Name "enumerate" p) X.env) [] (backTo pos (starEach [a] X.env)) (backToKw pos (keywordEach [⟨some "start", x,kp⟩] X.env)))):
 PI X (.Tuple elts x1 tpos) (.Call (.Name "enumerate" p) [a] [⟨some "start", x,kp⟩] pos) (zY K ta tx):=by
 subst hK;intro pins s σ H R I h;rw [he];refine wpAny_bind (lr I hg hm boot_enumerate (Ee (cE (ha pos pins s σ H _ I h) λ us s1 hy0=>?_) hs));obtain ⟨vs,H1,I1,r1,q1⟩:=hy0;refine cE (hx pins s1 σ H1 _ I1 q1) λ u s2 hq0=>?_;obtain ⟨y,H2,I2,ry,q2⟩:=hq0;obtain ⟨b,k,e1,e2,hk,⟨xs,qx⟩,q⟩:=q2;subst e1 e2;obtain ⟨t,rfl⟩:∃ t,u=.int k t:=ry;cases r1 with
 | cons r rr=>
  cases rr;cases r;obtain ⟨its,rvx,px,_⟩:=I2.list qx;refine wN (by simp only [Builtin.SmallTypes.fitsIndex,Bool.and_eq_true,decide_eq_true_eq];omega) px.isList λ h' g5 g1 kp=>?_;refine wpAny_pyIter_enum (s:={ s2 with heap:=h' }) g5 ?_;refine ⟨s2.heap.objs.size+1,[s2.heap.objs.size+1,s2.heap.objs.size],_,_,H2,rfl,I2.kept (t':=s2.toks) kp,IJ b _ _ k (Nat.ne_of_gt (Nat.lt_succ_self _)),⟨⟨_,g5⟩,g1⟩,λ c hc=>?_,q⟩;have hc':s2.heap.objs.size<=c:=by
   simp only [List.mem_cons,List.not_mem_nil,or_false] at hc;rcases hc with h | h <;> subst h <;> first
    | exact Nat.le_refl _
    | exact Nat.le_add_right _ _
  exact I2.fpOk hc' (I2.hok.fresh hc')
noncomputable def i6 (k:Nat) (ds:List W):List W:=(List.range ds.length).map λ (i:Nat)=>.tuple [.int ((k+i:Nat):Int),ds[i]?.getD .none]
section
variable {K:Frag} {ρ:List Addr}
theorem tZ {k:Nat} {ds:List W} {i:Nat} {d:W} (h:(i6 k ds)[i]?=some d):∃ x,ds[i]?=some x/\d=.tuple [.int ((k+i:Nat):Int),x]:=by
 have hi:i<ds.length:=by
  have:=(oG h).1;simpa [i6] using this
 unfold i6 at h;rw [List.getElem?_map,List.getElem?_range hi] at h;cases h;exact ⟨ds[i],List.getElem?_eq_getElem hi,by simp [List.getElem?_eq_getElem hi]⟩
theorem Fl {G1 H1:Hp} {a:Addr} {k:Nat} {xs:List V} {ds:List W} {i:Nat} (s:bm G1 H1) (q:cR K H1 a xs) (da:aw K ρ G1 xs ds):AB K ρ (K4 K a k) (i6 k ds) i G1 H1:=by
 refine ⟨λ d hd=>?_,λ h=>⟨xs,q,by rw [da.length];simpa [i6] using h⟩⟩;obtain ⟨x,hx,rfl⟩:=tZ hd;obtain ⟨v,h1,h2⟩:=da.get hx;refine ⟨⟨xs,v,q,h1⟩,λ y H' w=>?_⟩;obtain ⟨p,u,hp,rfl,rfl,w⟩:=w;have:=w xs q;rw [h1] at this;cases this;have n:Nw H1 (cn H1 p (.tup [.int ((k+i:Nat):Int),v])) p (.tup [.int ((k+i:Nat):Int),v]):=.of hp;have g:=Gr.nw s n;exact ⟨_,g,.tup aH (.cons (.int _) (.cons (h2.same g.g) .nil))⟩
noncomputable def EA:W->Option (List W)
 | .tuple ds=>some ds
 | _=>none
theorem Cv {d:W} {ds:List W} (h:EA d=some ds):d=.tuple ds:=by
 cases d <;> first | (cases h;rfl) | cases h
theorem Fp (ds:List W):EA (.tuple ds)=some ds:=rfl
noncomputable def oa (f:DS->Option W) (lo hi:DS->Option (Option Int)):DS->Option W:=λ δ=>(f δ).bind λ d=>(EA d).bind λ ds=>(lo δ).bind λ l=>(hi δ).map λ u=>.tuple (i7 ds l u)
theorem zH {t:TE} {tl th:TO} {f:DS->Option W} {lo hi:DS->Option (Option Int)} (h:DE K ρ t f) (hl:BG K ρ tl lo) (hh:BG K ρ th hi):DE K ρ (IS (Dg K) t tl th) (oa f lo hi):=λ G σ H δ d Q R e q=>by
 obtain ⟨x,ed,e⟩:=oB e
 obtain ⟨es,ee,e⟩:=oB e
 obtain ⟨l,el,e⟩:=oB e
 obtain ⟨u,eu,rfl⟩:=oM e
 cases Cv ee;refine h G σ H δ _ _ R ed λ v G1 H1 g1 dv=>hl G1 σ H1 δ l _ (R.grow g1) el λ G2 H2 g2=>hh G2 σ H2 δ u _ ((R.grow g1).grow g2) eu λ G3 H3 g3=>?_;have g23:=g2.trans g3;have g:=g1.trans g23;obtain ⟨p,vs,rfl,sq,da⟩:=nh (dv.same g23.g);refine ⟨p,vs,rfl,ez.of (g.s _ _ sq),?_⟩;by_cases hw:HT.sIx vs.length 0 l=0/\HT.sIx vs.length vs.length u=vs.length
 . refine .inl ⟨hw.1,hw.2,q _ G3 H3 g ?_⟩;have e1:i7 es l u=es:=by
    unfold i7;rw [<-da.length,hw.1,hw.2,da.length];simp
   rw [e1];exact .tup sq da
 . refine .inr ⟨hw,λ r H' n=>?_⟩;have g4:=Gr.nw g.s n;exact q _ _ H' (g.trans g4) (.tup aH ((da.cut l u).same g4.g))
noncomputable def kW (T:String):W->Option W
 | .list _=>if T = "list" then some (.bool true) else none
 | .tuple _=>if T = "tuple" then some (.bool true) else none
 | d=>oJ T d
theorem AQ {T:String} {t:TE} {f:DS->Option W} (h:DE K ρ t f):DE K ρ (v6 (wB K) (eC t (eC (tC (.ty T)) iH))) (rR (kW T) f):=λ G σ H δ d Q R e q=>by
 obtain ⟨x,ex,e2⟩:=oB e
 clear e;refine h G σ H δ x _ R ex λ v G1 H1 g1 dv=>?_;show wB K [v,.ty T] H1 Q;unfold kW at e2;split at e2
 . split at e2
   . rename_i hT;subst hT;cases e2;obtain ⟨a,vs,rfl,sq,da⟩:=r6 dv;exact .inr (.inr ⟨a,vs, "list", true,rfl,g1.s.seq sq,si _ (by decide),q _ G1 H1 g1 (.bl _)⟩)
   . cases e2
 . split at e2
   . rename_i hT;subst hT;cases e2;obtain ⟨a,vs,rfl,sq,da⟩:=nh dv;exact .inr (.inl ⟨a,vs, "tuple", true,rfl,g1.s.tup (ez.of sq),si _ (by decide),q _ G1 H1 g1 (.bl _)⟩)
   . cases e2
 . unfold oJ at e2;split at e2;all_goals first
    | cases e2
    | (obtain ⟨k,ek,rfl⟩:=oM e2
       cases dv;exact .inl ⟨_,T,k,rfl,ek,q _ G1 H1 g1 (.bl k)⟩)
theorem DQ (ds:List W):kW "list" (.list ds)=some (.bool true):=by simp [kW]
theorem Ed (ds:List W):kW "tuple" (.tuple ds)=some (.bool true):=by simp [kW]
end
section
variable {K:Frag} {cl:Str->Addr} {E:XK}
noncomputable def G9 (x y:W):Option (List W):=match x,y with
 | .list es,.int z=>if 0<=z/\z<2^62 then some (i6 z.toNat es) else none
 | _,_=>none
noncomputable def mX (fa:DS->ai->SM (List W)) (fx:DS->ai->SM W):DS->ai->SM (List W):=λ δ S=>au (fa δ S) λ ds S1=>au (fx δ S1) λ y S2=>match ds with
 | [x]=>lq (G9 x y) S2
 | _=>none
theorem x5 {ta:TA} {tx:TE} {fa:DS->ai->SM (List W)} {fx:DS->ai->SM W} (ha:SA K cl E ta fa) (hx:SE K cl E tx fx):Gz K cl E (zY K ta tx) (mX fa fx):=λ ρ G σ H δ S r S' R' R e q qx=>
 lF ha R e (λ ds S1 e1 vs ρ1 G1 H1 g1 s1 da=>eQ hx (R.grow g1 s1) e1 (λ y S2 e2 u ρ2 G2 H2 g2 s2 du=>by
  split at e2
  case h_2=>cases e2
  rename_i x;obtain ⟨es,e3,rfl,rfl⟩:=b9 e2;unfold G9 at e3;split at e3
  case h_2=>cases e3
  rename_i xs z;split at e3
  case isFalse=>cases e3
  rename_i hz;cases e3;obtain ⟨v,rfl,dv⟩:=vc da;cases d7 du;have g12:=g1.trans g2;cases dv with
  | lst sq da'=>
   have sq2:=(g2.g.trans g2.s).seq sq;have da2:=(da'.ext g2.r).same g2.g;exact ⟨_,z.toNat,rfl,by rw [Int.toNat_of_nonneg hz.1],by omega,⟨_,sq2⟩,q _ rfl _ ρ2 G2 H2 g12 s2 λ i G3 H3 a b=>Fl b ((a.trans b).seq (g2.g.seq sq)) (da2.same a)⟩) λ c hc ρ2 G2 H2 g2 s2=>qx c hc ρ2 G2 H2 (g1.trans g2) s2) qx
end
theorem Jq {X:Cx} {K:Frag} {e:Expr} {f:Str} {pos:Pos} {ta:TE} (hK:X.K=K) (he:PE X e ta) (hb:attributeBase e f X.env (eval e X.env)=eval e X.env):PE X (.Attribute e f pos) (Fh K ta f):=hK▸FL he hb
theorem wD {α:Type} (x y:α) (r:List α):fG (x::y::r) 1=some y:=by
 unfold fG rO;rw [if_pos (by decide),if_pos (by simp;omega)];rfl
theorem oH {α:Type} (x:α) (r:List α):fG (x::r) 0=some x:=by
 unfold fG rO;rw [if_pos (by decide),if_pos (by simp)];rfl
theorem sz (n:Nat) (h:n<=9000):n<=sizeLine:=Nat.le_trans h (by decide)
theorem fX {S:ai} {l:Nat} {es:List W} (h:S[l]?=some (.lst es)):fQ (.ref l) S=some (l,es):=by simp [fQ,iJ,h]
theorem Dh {S:ai} {l:Nat} {es:List (bg×W)} (h:S[l]?=some (.dK es)):wP (.ref l) S=some (l,es):=by simp [wP,iJ,h]
theorem zw {κ:Type} [DecidableEq κ]:∀ (kvs:List (κ×W)) (k q:κ) (x:W),cr kvs k=none->cr (kvs++[(k,x)]) q=if q=k then some x else cr kvs q:=λ kvs k q x h=>by
 induction kvs with
 | nil=>
  by_cases e:q=k
  . subst e;simp [cr]
  . have e':¬ k=q:=λ z=>e z.symm;simp [cr,e,e']
 | cons p r ih=>
  obtain ⟨j,y⟩:=p;by_cases hj:j=k
  . subst hj;simp [cr,List.find?_cons] at h
  . have h':cr r k=none:=by simpa [cr,List.find?_cons,hj] using h
    have ih':=ih h';by_cases hq:j=q
    . subst hq;simp [cr,List.find?_cons,hj]
    . simp only [cr,List.cons_append,List.find?_cons,hq,decide_false] at ih' ⊢;exact ih'
theorem p8 {κ:Type} [DecidableEq κ] {kvs:List (κ×W)} {k:κ} (x:W) (h:cr kvs k=none):bV kvs k x=kvs++[(k,x)]:=by
 unfold bV;rw [if_neg];intro ha;obtain ⟨kv,h1,h2⟩:=List.any_eq_true.mp ha;unfold cr at h;have h3:kvs.find? (λ kv=>decide (kv.1=k))=none:=by
  cases hf:kvs.find? (λ kv=>decide (kv.1=k)) with
  | none=>rfl
  | some z=>rw [hf] at h;cases h
 exact absurd h2 (by simpa using List.find?_eq_none.mp h3 kv h1)
theorem bF {S:ai} {m:Nat} {o x:Ob} (h:S[m]?=some o):(S++[x])[m]?=some o:=by
 rw [List.getElem?_append_left (oG h).1];exact h
theorem gc (B:List Int) (i:Int) (h0:0<=i) (h1:i<B.length):fG (B.map W.int) i=some (.int (B[i.toNat]?.getD 0)):=by
 unfold fG rO;rw [if_pos h0,if_pos (by simpa using h1)];have h2:i.toNat<B.length:=by omega
 simp [List.getElem?_eq_getElem h2]
theorem gO (lo:Int) (n:Nat):gf lo (n+1)=.int lo::gf (lo+1) n:=by
 unfold gf;rw [List.range_succ_eq_map,List.map_cons,List.map_map];congr 1
 . simp
 . apply List.map_congr_left;intro a _;show W.int (lo+((a+1:Nat):Int))=W.int (lo+1+(a:Int));congr 1;omega
theorem qC (h:W->DS->Option DS) (fe:DS->ai->SM W) (δ δ2:DS) (d e:W) (ds es:List W) (S S1 S2:ai) (h1:h d δ=some δ2) (h2:fe δ2 S=some (.ok e,S1)) (h3:cj h (ab jv) fe δ ds S1=some (.ok es,S2)):cj h (ab jv) fe δ (d::ds) S=some (.ok (e::es),S2):=by
 show (h d δ).bind _=_;rw [h1];show au (fe δ2 S) _=_;rw [h2];show au (cj h (ab jv) fe δ ds S1) _=_;rw [h3];rfl
theorem aY {a n:Nat} {fb:DS->ai->SO} {ds:List W} {S:ai} (h:ds.length=a):bN a n fb ds S=dY (fb (b8 n ds) S):=if_pos h
theorem ag {f g:DS->ai->SO} {δ δ':DS} {S S':ai} (h:f δ S=some (.nx δ',S')):aD f g δ S=g δ' S':=by unfold aD;rw [h]
theorem d5 {c:DS->ai->SM Bool} {f g:DS->ai->SO} {δ:DS} {S S1:ai} (h:c δ S=some (.ok true,S1)):cv c f g δ S=f δ S1:=by unfold cv;rw [h];rfl
theorem bR {c:DS->ai->SM Bool} {f g:DS->ai->SO} {δ:DS} {S S1:ai} (h:c δ S=some (.ok false,S1)):cv c f g δ S=g δ S1:=by unfold cv;rw [h];rfl
theorem bU {f:DS->ai->SM W} {h:W->DS->Option DS} {δ δ':DS} {S S1:ai} {d:W} (h1:f δ S=some (.ok d,S1)) (h2:h d δ=some δ'):dX f h δ S=some (.nx δ',S1):=by
 unfold dX;rw [h1];show (h d δ).map _=_;rw [h2];rfl
theorem gg {fi:DS->ai->SM (List W)} {h:W->DS->Option DS} {fb:DS->ai->SO} {δ:DS} {S S1:ai} {ds:List W} (h1:fi δ S=some (.ok ds,S1)):jC fi h fb δ S=bY h fb ds δ S1:=by unfold jC;rw [h1];rfl
theorem db {h:W->DS->Option DS} {fb:DS->ai->SO} {d:W} {ds:List W} {δ δ2 δ':DS} {S S':ai} (h1:h d δ=some δ2) (h2:fb δ2 S=some (.nx δ',S')):bY h fb (d::ds) δ S=bY h fb ds δ' S':=by
 show (h d δ).bind _=_;rw [h1];show (match fb δ2 S with | some (.nx δ',S')=>_ | some (.ct δ',S')=>_ | some (.bk δ',S')=>_ | some (.rt d,S')=>_ | some (.xc c,S')=>_ | none=>_)=_;rw [h2]
theorem zW {ix:List (Option Nat)} {fi:DS->ai->SM (List W)} {h:W->DS->Option DS} {c:DS->ai->SM Bool} {fe:DS->ai->SM W} {δ:DS} {S S0 S1:ai} {ds es:List W} (h1:fi δ S=some (.ok ds,S0)) (h2:ds.length<=sizeLine) (h3:cj h c fe (bI ix δ) ds S0=some (.ok es,S1)):vW ix fi h c fe δ S=some (.ok (.list es),S1):=by
 unfold vW;rw [h1];show (if ds.length<=sizeLine then _ else _)=_;rw [if_pos h2,h3];rfl
theorem pR {m:Nat} {n:Nat×Kd} {ix:List (Option Nat)} {fi:DS->ai->SM (Nat×Kd)} {h:W->DS->Option DS} {c:DS->ai->SM Bool} {fe:DS->ai->SM W} {δ:DS} {S S0 S1:ai} {es:List W} (h1:fi δ S=some (.ok n,S0)) (h2:m<=sizeLine) (h3:bX n h c fe (bI ix δ) m 0 S0=some (.ok es,S1)):lD m ix fi h c fe δ S=some (.ok (.list es),S1):=by
 unfold lD;rw [h1];show (if m<=sizeLine then _ else _)=_;rw [if_pos h2,h3];rfl
theorem di (i:Int) {j:Int} (h:0<j):0<=i.fmod j/\i.fmod j<j:=⟨Int.fmod_nonneg_of_pos i h,Int.fmod_lt_of_pos i h⟩
theorem wC {S:ai} {l:Nat} {es:List W} (h:S[l]?=some (.lst es)):j7 S (l,.l)=some es:=by simp [j7,nj,h]
mutual
noncomputable def eS:W->Bool
 | .none | .bool _ | .int _=>true
 | .str x=>PyData.strOk x
 | .list ds | .tuple ds=>bM ds
 | .ref _=>false
noncomputable def bM:List W->Bool
 | []=>true
 | d::ds=>eS d&&bM ds
end
mutual
noncomputable def bJ:W->Nat
 | .list ds | .tuple ds=>bp ds+1
 | _=>0
noncomputable def bp:List W->Nat
 | []=>0
 | d::ds=>max (bJ d) (bp ds)
end
mutual
theorem vp:∀ (d:W),eS d=true->∃ a,d.py=some a/\a.canLay0=true/\a.depth=bJ d/\PyData.eqv a a=true
 | .none,_=>⟨.none,rfl,by simp [PyData.canLay0],by simp [PyData.depth,bJ],by simp [PyData.eqv]⟩
 | .bool b,_=>⟨.bool b,rfl,by simp [PyData.canLay0],by simp [PyData.depth,bJ],by simp [PyData.eqv]⟩
 | .int i,_=>⟨.int i,rfl,by simp [PyData.canLay0],by simp [PyData.depth,bJ],by simp [PyData.eqv]⟩
 | .str x,h=>⟨.str x,rfl,by simpa [PyData.canLay0,eS] using h,by simp [PyData.depth,bJ],by simp [PyData.eqv]⟩
 | .list ds,h=>by
  obtain ⟨xs,e1,e2,e3,e4⟩:=qt ds (by simpa [eS] using h);exact ⟨.list xs,by simp [W.py,e1],by simpa [PyData.canLay0] using e2,by simp [PyData.depth,bJ,e3],by simpa [PyData.eqv] using e4⟩
 | .tuple ds,h=>by
  obtain ⟨xs,e1,e2,e3,e4⟩:=qt ds (by simpa [eS] using h);exact ⟨.tuple xs,by simp [W.py,e1],by simpa [PyData.canLay0] using e2,by simp [PyData.depth,bJ,e3],by simpa [PyData.eqv] using e4⟩
 | .ref _,h=>by simp [eS] at h
theorem qt:∀ (ds:List W),bM ds=true->∃ xs,W.pys ds=some xs/\PyData.canLayAll0 xs=true/\PyData.depthAll xs=bp ds/\PyData.eqvAll xs xs=true
 | [],_=>⟨[],rfl,by simp [PyData.canLayAll0],by simp [PyData.depthAll,bp],by simp [PyData.eqvAll]⟩
 | d::ds,h=>by
  have h':eS d=true/\bM ds=true:=by simpa [bM] using h
  obtain ⟨a,a1,a2,a3,a4⟩:=vp d h'.1;obtain ⟨xs,e1,e2,e3,e4⟩:=qt ds h'.2;exact ⟨a::xs,by simp [W.pys,a1,e1],by simp [PyData.canLayAll0,a2,e2],by simp [PyData.depthAll,bp,a3,e3],by simp [PyData.eqvAll,a4,e4]⟩
end
theorem gN {ds:List W} (h:∀ d∈ds,eS d=true):bM ds=true:=by
 induction ds with
 | nil=>rfl
 | cons d ds ih=>simp [bM,h d (by simp),ih λ e he=>h e (by simp [he])]
theorem gX {ds:List W} {n:Nat} (h:∀ d∈ds,bJ d<=n):bp ds<=n:=by
 induction ds with
 | nil=>simp [bp]
 | cons d ds ih=>
  have:=h d (by simp);have:=ih λ e he=>h e (by simp [he]);simp [bp];omega
theorem Af {d:W} (h:eS d=true) (b:Bool) (e:GA d d=some b):b=true:=by
 cases d with
 | none=>exact (Option.some.inj e).symm
 | int i=>exact (Option.some.inj e).symm.trans (by simp)
 | bool i=>exact (Option.some.inj e).symm.trans (by simp)
 | str i=>exact (Option.some.inj e).symm.trans (by simp)
 | _=>cases e
theorem sO {d:W} (h:eS d=true) (hd:bJ d<=64):bZ d d=some true:=by
 obtain ⟨a,a1,a2,a3,a4⟩:=vp d h;unfold bZ;split
 . rename_i b e;rw [Af h b e]
 . simp [a1,a2,a3,a4,hd]
theorem y7 {d:W} (h:eS d=true) (hd:bJ d<=64):tS d d=some false:=by
 unfold tS;rw [sO h hd];rfl
theorem BU {α:Type} (l:List α) (k:Nat) (h:k<l.length):fG l (k:Int)=l[k]?:=by
 unfold fG rO;rw [if_pos (by omega),if_pos (by omega)];simp
theorem xu {α:Type} (a b c:α) (r:List α):fG (a::b::c::r) 2=some c:=(BU _ 2 (by simp)).trans rfl
theorem A7 {α:Type} (a b c d:α) (r:List α):fG (a::b::c::d::r) 3=some d:=(BU _ 3 (by simp)).trans rfl
theorem vU {α:Type} (a b c d e:α) (r:List α):fG (a::b::c::d::e::r) 4=some e:=(BU _ 4 (by simp)).trans rfl
theorem Kw {α:Type} (a b c d e f:α) (r:List α):fG (a::b::c::d::e::f::r) 5=some f:=(BU _ 5 (by simp)).trans rfl
theorem Md {α:Type} (l:List α) (k:Nat) (h0:0<k) (h:k<=l.length):fG l (-(k:Int))=l[l.length-k]?:=by
 unfold fG rO;rw [if_neg (by omega),if_pos (by omega)];have e2:(-(k:Int)+(l.length:Int)).toNat=l.length-k:=by omega
 simp [e2]
theorem zm (x:W) (r:List W):i7 (x::r) (some 1) none=r:=by
 unfold i7;rw [HT.sIx_none,show (some (1:Int))=some ((1:Nat):Int) from rfl,HT.sIx_nat];rw [show min 1 (x::r).length=1 by simp];simp
theorem Ex (l:List W) (a b:Nat):i7 l (some (a:Int)) (some (b:Int))=(l.drop a).take (b-a):=by
 unfold i7;rw [HT.sIx_nat,HT.sIx_nat];rcases Nat.lt_or_ge l.length a with h | h
 . rw [List.drop_of_length_le (Nat.le_of_lt h),show min a l.length=l.length by omega,List.drop_length];simp
 . rw [show min a l.length=a by omega];rcases Nat.lt_or_ge l.length b with h2 | h2
   . rw [show min b l.length=l.length by omega,List.take_of_length_le (by simp),List.take_of_length_le (by simp;omega)]
   . rw [show min b l.length=b by omega]
theorem Iw (l:List W) (a:Nat):i7 l (some (a:Int)) none=l.drop a:=by
 unfold i7;rw [HT.sIx_nat,HT.sIx_none];rcases Nat.lt_or_ge l.length a with h | h
 . rw [List.drop_of_length_le (Nat.le_of_lt h),show min a l.length=l.length by omega,List.drop_length];simp
 . rw [show min a l.length=a by omega,List.take_of_length_le (by simp)]
theorem bu {f:DS->ai->SM W} {δ:DS} {S S1:ai} {d:W} (h:f δ S=some (.ok d,S1)):aK f δ S=some (.nx δ,S1):=by unfold aK;rw [h];rfl
theorem br {f:List W->ai->SM W} {fa:DS->ai->SM (List W)} {δ:DS} {S S1 S2:ai} {ds:List W} {d:W} (h1:fa δ S=some (.ok ds,S1)) (h2:f ds S1=some (.ok d,S2)):cf f fa δ S=some (.ok d,S2):=by
 unfold cf;rw [h1];show AC (f ds S1)=_;rw [h2];rfl
theorem kb {c m:Str} {f:List W->ai->SM W} {fo:DS->Option W} {fa:DS->ai->SM (List W)} {δ:DS} {S S1 S2:ai} {I:Nat} {fs:List (Str×W)} {ds:List W} {d:W} (h1:fo δ=some (.ref I)) (h2:S[I]?=some (.ins c fs)) (h3:fs.lookup m=none) (h4:fa δ S=some (.ok ds,S1)) (h5:f (.ref I::ds) S1=some (.ok d,S2)):bo c m f (ab fo) fa δ S=some (.ok d,S2):=by
 unfold bo ab;rw [h1];show (iD c (.ref I) S).bind _=_;rw [show iD c (.ref I) S=some (I,fs) by simp [iD,iJ,h2]];show (if fs.lookup m=none then _ else _)=_;rw [if_pos h3,h4];show AC (f (.ref I::ds) S1)=_;rw [h5];rfl
theorem az {α:Type} {f:DS->Option α} {δ:DS} {S:ai} {d:α} (h:f δ=some d):ab f δ S=some (.ok d,S):=by unfold ab;rw [h];rfl
theorem b6 {f:DS->Option dm} {δ δ':DS} {S:ai} (h:f δ=some (.nx δ')):aQ f δ S=some (.nx δ',S):=by unfold aQ;rw [h];rfl
theorem pQ {f:DS->Option dm} {δ:DS} {S:ai} {d:W} (h:f δ=some (.rt d)):aQ f δ S=some (.rt d,S):=by unfold aQ;rw [h];rfl
theorem gM {f g:DS->ai->SO} {δ:DS} {S S':ai} {d:W} (h:f δ S=some (.rt d,S')):aD f g δ S=some (.rt d,S'):=by unfold aD;rw [h]
theorem eY {f:DS->ai->SM W} {δ:DS} {S S1:ai} {d:W} (h:f δ S=some (.ok d,S1)):hU f δ S=some (.rt d,S1):=by unfold hU;rw [h];rfl
theorem set_ne' {S:ai} {m k:Nat} {o x:Ob} (h:S[k]?=some o) (hne:m≠k):(S.set m x)[k]?=some o:=by rw [List.getElem?_set_ne hne];exact h
theorem set_eq' {S:ai} {m:Nat} {o x:Ob} (h:S[m]?=some o):(S.set m x)[m]?=some x:=jO (oG h).1
theorem cP {S:ai} {m k:Nat} {o x:Ob} (h:S[m]?=some o) (h2:S[k]?=some x) (hne:o≠x):m≠k:=λ e=>hne (by rw [e,h2] at h;exact (Option.some.inj h).symm)
theorem dj {κ:Type} [DecidableEq κ] (kvs:List (κ×W)) (k:κ) (x:W):(bV kvs k x).length<=kvs.length+1:=by
 unfold bV;split <;> simp
theorem cZ (S:ai) (o:Ob):(S++[o])[S.length]?=some o:=by simp
theorem bH {f:DS->ai->SM W} {g:DS->ai->SM (List W)} {δ:DS} {S S1 S2:ai} {d:W} {ds:List W} (h1:f δ S=some (.ok d,S1)) (h2:g δ S1=some (.ok ds,S2)):aI f g δ S=some (.ok (d::ds),S2):=by
 unfold aI;rw [h1];show au (g δ S1) _=_;rw [h2];rfl
theorem uj {fa:DS->ai->SM (List W)} {fx:DS->ai->SM W} {δ:DS} {S S1 S2:ai} {x y:W} {ds:List W} (h1:fa δ S=some (.ok [x],S1)) (h2:fx δ S1=some (.ok y,S2)) (h3:G9 x y=some ds):mX fa fx δ S=some (.ok ds,S2):=by
 simp only [mX,h1,au,h2,lq,h3,Option.map_some]
theorem ic {c f:Str} {fo:DS->Option W} {fv:DS->ai->SM W} {δ:DS} {S S1:ai} {d:W} {n:Nat} {fs:List (Str×W)} (h1:fv δ S=some (.ok d,S1)) (h2:fo δ=some (.ref n)) (h3:S1[n]?=some (.ins c fs)) (h4:fs.length<1000):fS c f (ab fo) fv δ S=some (.nx δ,S1.set n (.ins c (fq f d fs))):=by
 have h5:iD c (.ref n) S1=some (n,fs):=by simp [iD,iJ,h3]
 simp only [fS,h1,m9,ab,h2,Option.map_some,h5,Option.bind_some,if_pos h4]
theorem yH {c:Str} {f:List W->ai->SM W} {fa:DS->ai->SM (List W)} {δ:DS} {S S1 S2:ai} {ds:List W} (h1:fa δ S=some (.ok ds,S1)) (h2:f (.ref S1.length::ds) (S1++[.ins c []])=some (.ok .none,S2)):vO c f fa δ S=some (.ok (.ref S1.length),S2):=by
 simp only [vO,h1,au,h2,AC]
theorem kt {S S':ai} {n m:Nat} {o:Ob} {x:Ob} (hk:∀ k,k≠n->S'[k]?=(S++[x])[k]?) (hn:n=S.length) (h:S[m]?=some o):S'[m]?=some o:=by
 have hm:m<S.length:=(oG h).1;rw [hk m (by omega)];exact bF h
theorem fg {fo:DS->Option W} {fv:DS->ai->SM W} {δ:DS} {S:ai} {l:Nat} {q:List W} {d:W} (h1:fo δ=some (.ref l)) (h2:S[l]?=some (.lst q)) (h3:fv δ S=some (.ok d,S)) (h4:q.length<9000):d9 (ab fo) fv δ S=some (.nx δ,S.set l (.lst (q++[d]))):=by
 have hz:q.length<sizeLine:=Nat.lt_of_lt_of_le h4 (sz 9000 (by decide));simp only [d9,ab,h1,m9,fX h2,Option.isSome_some,if_true,h3,Option.bind_some,if_pos hz,Option.map_some]
theorem Iu {α:Type} (q:List α) (b:α):fG (q++[b]) (-1)=some b:=by
 have:=Md (q++[b]) 1 (by decide) (by simp);simpa using this
theorem D4 {S:ai} {l:Nat} {es:List W} (h:S[l]?=some (.lst es)) (i:Int):zo (.ref l) (.int i) S=fG es i:=by simp only [zo,fX h,z8,Option.bind_some]
theorem lH:∀ (bs:List Bool),qR (bs.map .bool)=some bs
 | []=>rfl
 | b::bs=>by
  show ((some b).bind λ b=>(qR (bs.map .bool)).map (b::·))=_;rw [lH bs];rfl
theorem yy (xs:List W):uk (.list ((xs.map λ _=>true).map .bool))=some (.bool true):=by
 have:(xs.map λ _=>true).all id=true:=by simp
 simp only [uk,ju,Option.bind_some,lH,Option.map_some,this]
theorem qO {κ:Type} [DecidableEq κ] (kvs:List (κ×W)) (k q:κ) (x:W):cr (bV kvs k x) q=if q=k then some x else cr kvs q:=by
 by_cases h:cr kvs k=none
 . rw [p8 x h,zw kvs k q x h]
 . have ha:(kvs.any λ kv=>decide (kv.1=k))=true:=by
    cases e:kvs.any λ kv=>decide (kv.1=k) with
    | true=>rfl
    | false=>
     exact absurd (by
      unfold cr;rw [List.find?_eq_none.mpr λ z hz=>by simpa using List.any_eq_false.mp e z hz];rfl) h
   unfold bV;rw [if_pos ha];clear ha;induction kvs with
   | nil=>simp [cr] at h
   | cons p r ih=>
    obtain ⟨j,y⟩:=p;by_cases hj:j=k
    . subst hj;by_cases hq:q=j
      . subst hq;simp [cr,List.find?_cons]
      . have hq':¬ j=q:=λ z=>hq z.symm;rw [if_neg hq];clear ih h;simp only [cr,List.map_cons,if_true,List.find?_cons,hq',decide_false];induction r with
        | nil=>rfl
        | cons p r ih=>
         obtain ⟨i,z⟩:=p;by_cases hi:i=j
         . subst hi;simpa [List.find?_cons,hq'] using ih
         . by_cases hiq:i=q
           . subst hiq;simp [List.find?_cons,hi]
           . simpa [List.find?_cons,hi,hiq] using ih
    . have h':¬ cr r k=none:=by simpa [cr,List.find?_cons,hj] using h
      have ih':=ih h';by_cases hjq:j=q
      . subst hjq;simp [cr,List.find?_cons,hj]
      . simpa [cr,List.find?_cons,hj,hjq] using ih'
inductive Al (R:W->W->Prop):List W->List W->Prop
 | nil:Al R [] []
 | cons {x y:W} {a b:List W}:R x y->Al R a b->Al R (x::a) (y::b)
theorem sD {n:Nat×Kd} {h:W->DS->Option DS} {fe:DS->ai->SM W} {S:ai} {es:List W} {δ:DS} {R:W->W->Prop} (hl:j7 S n=some es) (hh:∀ x y,R x y->∃ δ2,h x δ=some δ2/\fe δ2 S=some (.ok y,S)) {a b:List W} (A:Al R a b):∀ (m i:Nat),es.drop i=a->a.length<m->bX n h (ab jv) fe δ m i S=some (.ok b,S):=by
 induction A with
 | nil=>
  intro m i e hm;obtain ⟨m,rfl⟩:∃ k,m=k+1:=⟨m-1,by omega⟩
  show (j7 S n).bind _=_;rw [hl];show (match es[i]? with | none=>_ | some d=>_)=_;rw [List.getElem?_eq_none (by simpa using e)]
 | cons r _ ih=>
  rename_i x y a b _;intro m i e hm;obtain ⟨m,rfl⟩:∃ k,m=k+1:=⟨m-1,by simp at hm;omega⟩
  have hi:i<es.length:=Nat.lt_of_not_le λ hc=>by rw [List.drop_of_length_le hc] at e;cases e
  rw [List.drop_eq_getElem_cons hi] at e;obtain ⟨e1,e2⟩:=List.cons.inj e;obtain ⟨δ2,h1,h2⟩:=hh x y r;show (j7 S n).bind _=_;rw [hl];show (match es[i]? with | none=>_ | some d=>_)=_;rw [List.getElem?_eq_getElem hi,e1];show (h x δ).bind _=_;rw [h1];show au (fe δ2 S) _=_;rw [h2];show au (bX n h (ab jv) fe δ m (i+1) S) _=_;rw [ih m (i+1) e2 (by simp at hm;omega)];rfl
noncomputable def tX:Nat->List W->List W
 | _,[]=>[]
 | k,x::r=>.tuple [.int (k:Int),x]::tX (k+1) r
theorem wf:∀ (l:List W) (k i:Nat),(tX k l)[i]?=(l[i]?).map λ x=>.tuple [.int ((k+i:Nat):Int),x]
 | [],k,i=>by simp [tX]
 | x::l,k,0=>by simp [tX]
 | x::l,k,i+1=>by
  simp only [tX,List.getElem?_cons_succ,wf l (k+1) i];rw [show k+1+i=k+(i+1) by omega]
theorem w9 (l:List W) (k:Nat):i6 k l=tX k l:=by
 apply List.ext_getElem?;intro i;rw [wf];unfold i6;rw [List.getElem?_map];by_cases h:i<l.length
 . rw [List.getElem?_range h];simp [List.getElem?_eq_getElem h]
 . rw [List.getElem?_eq_none (by simpa using h),List.getElem?_eq_none (by omega)];rfl
theorem og (l:List W):kS l=tX 0 l:=by
 rw [<-w9];unfold kS i6;simp
theorem KR (l:List W) (n:Nat) (h:n<=9000):G9 (.list l) (.int ((n:Int)+1))=some (tX (n+1) l):=by
 have hz:0<=(n:Int)+1/\(n:Int)+1<2^62:=by omega
 simp only [G9,if_pos hz,<-w9];rw [show ((n:Int)+1).toNat=n+1 by omega]
noncomputable def uD:=And.intro @bO.eq_1 <| And.intro @AW.eq_1 <| And.intro @AW.eq_2 <| And.intro @AW.eq_3 <| And.intro @b8.eq_1 <| And.intro @aC.eq_1 <| And.intro @aq.eq_1 <| And.intro @bP.eq_1 <| And.intro @aP.eq_1 <| And.intro @Gj.eq_1 <| And.intro @aB.eq_1 <| And.intro @mE.eq_1 <| And.intro @mj.eq_1 <| And.intro @frz.eq_1 <| And.intro @g9.eq_1 <| And.intro @d8.eq_1 <| And.intro @rh.eq_1 <| And.intro @kB.eq_1 <| And.intro @ac.eq_1 <| And.intro @ak.eq_1 <| And.intro @dC.eq_1 <| And.intro @ao.eq_1 <| And.intro @av.eq_1 <| And.intro @dB.eq_1 <| And.intro @xN.eq_1 <| And.intro @xB.eq_1 <| And.intro @sZ.eq_1 <| And.intro @zM.eq_1 <| And.intro @AZ.eq_1 <| And.intro @um.eq_1 <| And.intro @pC.eq_1 <| And.intro @bt.eq_1 <| And.intro @aa.eq_1 <| And.intro @af.eq_1 <| And.intro @aF.eq_1 <| And.intro @bn.eq_1 <| And.intro @aT.eq_1 <| And.intro @gx.eq_1 <| And.intro @rR.eq_1 <| And.intro @cq.eq_1 <| And.intro @ae.eq_1 <| And.intro @eA.eq_1 <| And.intro @eA.eq_2 <| And.intro @bc.eq_1 <| And.intro @bc.eq_2 <| And.intro @eZ.eq_1 <| And.intro @eZ.eq_2 <| And.intro @CC.eq_1 <| And.intro @dP.eq_1 <| And.intro @dr.eq_1 <| And.intro @tM.eq_1 <| And.intro @KI.eq_1 <| And.intro @fB.eq_1 <| And.intro @IF.eq_1 <| And.intro @bI.eq_1 <| And.intro @oI.eq_1 <| And.intro @oI.eq_2 <| And.intro @jv.eq_1 <| And.intro @D9.eq_1 <| And.intro @oa.eq_1 <| And.intro @Fp <| And.intro @EI <| And.intro @EQ <| And.intro @FT <| And.intro @Ft <| And.intro @Ec <| And.intro @rX <| And.intro @z8 <| And.intro @ju <| And.intro @FI <| And.intro @Ez <| And.intro @DU <| And.intro @E6 <| And.intro @Di <| And.intro @rZ <| And.intro @Hm <| And.intro @HW <| And.intro @IB <| And.intro @Io <| And.intro @Ij <| And.intro @He <| And.intro @Ia <| And.intro @Ig <| And.intro @Iq <| And.intro @AO <| And.intro @Bb <| And.intro @B9 <| And.intro @AS <| And.intro @BM <| And.intro @FO <| And.intro @FK <| And.intro @DF <| And.intro @Fm <| And.intro @Fq <| And.intro @Bg <| And.intro @Ah <| And.intro @C2 <| And.intro @DQ <| And.intro @Ed <| And.intro @List.length_cons.{0} <| And.intro @List.length_nil.{0} <| And.intro @List.map_cons.{0,0} <| And.intro @List.map_nil.{0,0} <| And.intro @List.nil_append.{0} <| And.intro @List.cons_append.{0} <| And.intro @List.getElem?_cons_zero.{0} <| And.intro @List.getElem?_cons_succ.{0} <| And.intro @List.set_cons_zero.{0} <| And.intro @List.set_cons_succ.{0} <| And.intro @Option.bind_some.{0,0} <| And.intro @Option.map_some.{0,0} <| And.intro @Option.bind_none.{0,0} <| And.intro @Option.map_none.{0,0} <| And.intro @Option.getD_some.{0} <| And.intro @Option.getD_none.{0} <| And.intro @if_true.{1} <| And.intro @decide_true <| And.intro @decide_false <| And.intro @Bool.not_true <| And.intro @Bool.not_false <| And.intro @Bool.false_eq_true <| And.intro @ne_eq.{1} <| @not_false_eq_true
noncomputable def uS:=And.intro @bN.eq_1 <| And.intro @dY.eq_1 <| And.intro @dY.eq_2 <| And.intro @dY.eq_3 <| And.intro @dY.eq_4 <| And.intro @aD.eq_1 <| And.intro @cv.eq_1 <| And.intro @hU.eq_1 <| And.intro @dX.eq_1 <| And.intro @aK.eq_1 <| And.intro @aQ.eq_1 <| And.intro @m9.eq_1 <| And.intro @m9.eq_2 <| And.intro @m9.eq_3 <| And.intro @au.eq_1 <| And.intro @au.eq_2 <| And.intro @au.eq_3 <| And.intro @lq.eq_1 <| And.intro @ab.eq_1 <| And.intro @gC.eq_1 <| And.intro @bo.eq_1 <| And.intro @cf.eq_1 <| And.intro @Fn.eq_1 <| And.intro @AC.eq_1 <| And.intro @AC.eq_2 <| And.intro @zv.eq_1 <| And.intro @zv.eq_2 <| And.intro @zv.eq_3 <| And.intro @zv.eq_4 <| And.intro @dL.eq_1 <| And.intro @aI.eq_1 <| And.intro @uN.eq_1 <| And.intro @uE.eq_1 <| And.intro @KY.eq_1 <| And.intro @LP.eq_1 <| And.intro @p7.eq_1 <| And.intro @KZ.eq_1 <| And.intro @Iz.eq_1 <| And.intro @sB.eq_1 <| And.intro @uP.eq_1 <| And.intro @JC.eq_1 <| And.intro @iL.eq_1 <| And.intro @Kh.eq_1 <| And.intro @fz.eq_1 <| And.intro @Ao.eq_1 <| And.intro @sI.eq_1 <| And.intro @sIx.eq_1 <| And.intro @zo.eq_1 <| And.intro @JL.eq_1 <| And.intro @vL.eq_1 <| And.intro @vL.eq_2 <| And.intro @vL.eq_3 <| And.intro @Cr.eq_1 <| And.intro @Hi.eq_1 <| And.intro @lz.eq_1 <| And.intro @Eb.eq_1 <| And.intro @lD.eq_1 <| @Option.map_eq_map.{0}
section
variable {X:Cx}
end
section
variable {K:Frag} {cl:Str->Addr} {E:XK}
end
section
variable {prog:Program} {w:World} {A:Around} {E:Value->Shared->Prop} {s:Shared}
variable {es:Array DictEntry} {ep:Nat} {key:Value} {h:Int} {m:Nat->Bool} {d:Addr} {o:Obj}
end
section
variable {P:Program} {w:World} {A:Around} {E:Value->Shared->Prop} {s:Shared}
noncomputable def nD (ks:List bg):Nat:=ks.length+1
end
section
variable {P:Program} {w:World} {H:Hp} {h:Heap} {a:Addr}
end
section
variable {X:Cx} {pins:List (Addr×Obj)} {σ:St} {H:Hp} {s:Shared} {a:Addr} {kvs:List (List bg×V)} {ks:List bg} {y z:V} {u dv:Value} {A:Around} {E:Value->Shared->Prop}
end
section
variable {X:Cx} {o e f:Expr} {td ty tx:TE} {apos cpos pos:Pos}
end
section
variable {K:Frag} {cl:Str->Addr} {E:XK}
end
section
variable {P:Program} {w:World} {A:Around} {E:Value->Shared->Prop} {s:Shared} {d:Addr} {o:Obj} {es:Array DictEntry} {ep:Nat}
end
section
variable {K:Frag} {cl:Str->Addr} {E:XK}
end
section
variable {X:Cx} {K:Frag}
end
section
variable {K:Frag} {ρ:List Addr}
noncomputable def DM:W->Option Str
 | .str z=>some z
 | _=>none
theorem AL {d:W} {z:Str} (h:DM d=some z):d=.str z:=by
 cases d <;> first | (cases h;rfl) | cases h
noncomputable def rJ (f:DS->Option W) (lo hi:DS->Option (Option Int)):DS->Option W:=λ δ=>(f δ).bind λ d=>(DM d).bind λ z=>(lo δ).bind λ l=>(hi δ).bind λ u=>if z.length<=1000 then some (.str (Txt.slice z l u)) else none
theorem FJ {t:TE} {tl th:TO} {f:DS->Option W} {lo hi:DS->Option (Option Int)} (h:DE K ρ t f) (hl:BG K ρ tl lo) (hh:BG K ρ th hi):DE K ρ (IS (λ x lo hi H Q=>∃ z,x=.str z/\z.length<=sizeLine/\Q (.str (Txt.slice z lo hi)) H) t tl th) (rJ f lo hi):=λ G σ H δ d Q R e q=>by
 obtain ⟨x,ed,e⟩:=oB e
 obtain ⟨z,ee,e⟩:=oB e
 obtain ⟨l,el,e⟩:=oB e
 obtain ⟨u,eu,e4⟩:=oB e
 cases AL ee;by_cases hz:z.length<=1000
 . rw [if_pos hz] at e4;cases e4;refine h G σ H δ _ _ R ed λ v G1 H1 g1 dv=>hl G1 σ H1 δ l _ (R.grow g1) el λ G2 H2 g2=>hh G2 σ H2 δ u _ ((R.grow g1).grow g2) eu λ G3 H3 g3=>?_;cases uR dv;exact ⟨z,rfl,Nat.le_trans hz (by decide),q _ G3 H3 (g1.trans (g2.trans g3)) (.str _)⟩
 . rw [if_neg hz] at e4;cases e4
noncomputable def tH:W->W->Option W
 | .str z,.int n=>if (decide (0<=n)&&decide (n<=1000)&&decide (z.length<=1000))=true then some (.str (Txt.mul z n)) else none
 | _,_=>none
theorem Bl:DR K ρ Dm tH:=λ G H x y d e c Q s hx hy hg q=>by
 unfold tH at hg;split at hg
 . rename_i z n;split at hg
   . rename_i hc;cases hg;simp only [Bool.and_eq_true,decide_eq_true_eq] at hc;cases qM hx;cases d7 hy;exact ⟨z,n,rfl,rfl,hc.1.1,hc.1.2,hc.2,q _ G H (.refl s) (.str _)⟩
   . cases hg
 . cases hg
theorem sC (x:Array Nat):∀ (n:Nat) (a:Array Nat) (c:Nat),c∈((List.replicate n x).foldl (·++·) a).toList->c∈a.toList∨c∈x.toList
 | 0,a,c,h=>.inl h
 | n+1,a,c,h=>by
  rw [List.replicate_succ,List.foldl_cons] at h;rcases sC x n (a++x) c h with h | h
  . rw [Array.toList_append,List.mem_append] at h;exact h
  . exact .inr h
theorem gi.mul {z:Str} (h:gi z) (n:Int):gi (Txt.mul z n):=by
 rw [kC] at *;intro c hc;unfold Txt.mul at hc;split at hc
 . exact absurd hc (by simp [Str.empty])
 . split at hc
   . exact h c hc
   . rcases sC z.cps n.toNat #[] c hc with h' | h'
     . exact absurd h' (by simp)
     . exact h c h'
end
section
variable {K:Frag} {ρ:List Addr}
noncomputable def B2 (f:DS->Option (List W)) (g:DS->Option W):DS->Option (List W):=λ δ=>(f δ).bind λ ds=>(g δ).bind λ y=>(Gm y).bind λ k=>if (decide (0<=k)&&decide (k<=1000)&&decide (ds.length<=1000))=true then some (List.replicate k.toNat ds).flatten else none
theorem aw.rep {G:Hp} {vs:List V} {ds:List W} (h:aw K ρ G vs ds):∀ n,aw K ρ G (List.replicate n vs).flatten (List.replicate n ds).flatten
 | 0=>.nil
 | n+1=>by
  rw [List.replicate_succ,List.replicate_succ,List.flatten_cons,List.flatten_cons];exact h.app (aw.rep h n)
theorem Ga {t u:TE} {f:DS->Option (List W)} {g:DS->Option W} (h:DO K ρ t f) (hg:DE K ρ u g):DO K ρ (qp Ik t u) (B2 f g):=λ G σ H δ ds Q R e q=>by
 obtain ⟨es,e1,e⟩:=oB e
 obtain ⟨y,e2,e⟩:=oB e
 obtain ⟨k,e3,e4⟩:=oB e
 split at e4
 . rename_i hc;cases e4;cases qS e3;simp only [Bool.and_eq_true,decide_eq_true_eq] at hc;refine h G σ H δ es _ R e1 λ p vs G1 H1 g1 h0 h1 h2 da=>hg G1 σ H1 δ _ _ (R.grow g1) e2 λ v G2 H2 g2 dv=>?_;cases d7 dv;have hm:vs.length*k.toNat<=1000*1000:=Nat.mul_le_mul (by rw [da.length];exact hc.2) (by omega);refine ⟨p,k,vs,rfl,rfl,g2.h _ _ h2,by omega,by omega,Nat.le_trans hm (by decide),λ r hr=>?_⟩;have n:Nw H2 (cn H2 r (.lst (List.replicate k.toNat vs).flatten)) r (.lst (List.replicate k.toNat vs).flatten):=.of hr;have g12:=g1.trans g2;exact q r _ G2 _ (g12.trans (.nwO g2.s n)) (cF g12.h hr) (cF g2.s hr) n.2.2 ((da.same g2.g).rep k.toNat)
 . cases e4
end
section
variable {X:Cx} {K:Frag}
noncomputable def HR (K:Frag) (neg:Bool):R2:=λ x y H Q=>∃ p b xs,x=.ref p/\y=.ref b/\cR K H p xs/\cR K H b []/\Q (.bl (xs.isEmpty != neg)) H
theorem Ix (hK:X.K=K) (hu:X.A.units+64<cLine):gp X (compareOp .NotEq) (HR K true):=by
 subst hK;intro pins s σ H x y v u Q I rx ry h;obtain ⟨p,b,xs,rfl,rfl,hx,hy,q⟩:=h;cases rx;cases ry;obtain ⟨its,r,pl,hz⟩:=I.list hx;obtain ⟨its2,r2,pl2,hz2⟩:=I.list hy;have l1:=r.length;have l2:=r2.length;cases xs with
 | nil=>
  exact SeqAt.RcNeAt.lists (e:=λ _=>true) pl.isList pl2.isList (by simp only [List.size_toArray];omega) (by omega) (λ j h1 h2=>by simp only [List.size_toArray,<-l1,List.length_nil] at h1;omega) X.prog X.w _ _ (by
   have:its.toArray.size=0:=by simp only [List.size_toArray];simpa using l1.symm
   rw [this];exact bj I q rfl)
 | cons z zs=>
  exact SeqAt.RcNeAt.lists_lengths pl.isList pl2.isList (by simp only [List.size_toArray,<-l1,<-l2];simp) (by omega) X.prog X.w _ _ (bj I q rfl)
theorem zz {prog:Program} {w:World} {A:Around} {E:Value->Shared->Prop} {s:Shared} {t b:Addr} {ws:List Value} {Q:Value->Shared->Prop} (ht:IsTup s.heap t ([]:List Value).toArray) (hb:IsTup s.heap b ws.toArray) (h0:Q (.ref b) s):wpAny (model prog w) A (binaryOp .Add (.ref t) (.ref b)) Q E s:=by
 obtain ⟨⟨cls,dd,data,sl⟩,ho,hc,n,hd⟩:=id ht;obtain ⟨⟨cls2,dd2,data2,sl2⟩,ho2,hc2,n2,hd2⟩:=id hb;simp only at hc hd hc2 hd2;subst hc hd hc2 hd2;exact concat_meets ⟨_,ho,rfl⟩ ⟨_,ho2,rfl⟩ noFill_tuple_add seq_tuple_add PySem.F.slot_tuple_add PySem.F.entry_tuple_add (PySem.F.args_tuple_add_2 _ _) (tuple_addW0 t b _ ws.toArray n n2 dd dd2 sl sl2 (by simp)) ⟨ho,ho2,h0⟩
noncomputable def Dz (K:Frag):R2:=λ x y H Q=>∃ a b ys,x=.ref a/\y=.ref b/\ez K H a []/\ez K H b ys/\Q (.ref b) H
theorem AJ:gp X (binaryOp .Add) (Dz X.K):=by
 intro pins s σ H x y v u Q I rx ry h;obtain ⟨a,b,ys,rfl,rfl,ha,hb,q⟩:=h;cases rx;cases ry;obtain ⟨its,r1,p1,_⟩:=I.tuple ha;obtain ⟨its2,r2,p2,_⟩:=I.tuple hb;cases r1;exact zz p1 p2 ⟨.ref b,H,I,rfl,q⟩
noncomputable def CJ (K:Frag):R2:=λ x y H Q=>vE K x y H Q∨Dz K x y H Q
theorem Jk (h:X.K=K):gp X (binaryOp .Add) (CJ K):=by
 subst h;exact (B6 rfl).or AJ
noncomputable def vX:W->W->Option W
 | .tuple [],.tuple b=>some (.tuple b)
 | x,y=>bw x y
theorem C0 {ρ:List Addr}:DR K ρ (CJ K) vX:=λ G H x y d e c Q s hx hy hg q=>by
 unfold vX at hg;split at hg
 . cases hg;obtain ⟨p,vs,rfl,sq,da⟩:=nG hx;obtain ⟨p2,vs2,rfl,sq2,da2⟩:=nh hy;cases da;exact .inr ⟨p,p2,vs2,rfl,rfl,s.tup (ez.of sq),s.tup (ez.of sq2),q _ G H (.refl s) (.tup sq2 da2)⟩
 . exact .inl (lG G H x y d e c Q s hx hy hg q)
end
section
variable {K:Frag} {cl:Str->Addr} {E:XK}
noncomputable def zE (x y:W) (S:ai):Option W:=(fQ x S).bind λ p=>(iE y).bind λ es=>if p.2.length+es.length<=9000 then some (.list (p.2++es)) else none
noncomputable def vT (fa fb:DS->ai->SM W):DS->ai->SM W:=λ δ S=>au (fa δ S) λ x S1=>au (fb δ S1) λ y S2=>lq (zE x y S2) S2
theorem Ci {ta tb:TE} {fa fb:DS->ai->SM W} (ha:SE K cl E ta fa) (hb:SE K cl E tb fb):SE K cl E (qp (vE K) ta tb) (vT fa fb):=λ ρ G σ H δ S r' S' Q R e q qx=>
 fU ha hb R e (λ x y S2 e2 v u ρ2 G2 H2 g2 s2 dv du=>by
  obtain ⟨c,e3,rfl,rfl⟩:=b9 e2;obtain ⟨⟨n,ds⟩,e4,e3⟩:=oB e3
  obtain ⟨es,e5,e7⟩:=oB e3
  obtain ⟨rfl,e6⟩:=cM e4;cases h9 e5;obtain ⟨a,rfl,ea⟩:=dz dv;obtain ⟨ga,vs,k1,k2⟩:=s2.addr e6 ea;obtain ⟨b,ws,rfl,sq,da⟩:=r6 du;split at e7
  case isFalse=>cases e7
  rename_i hz;cases e7;refine .inr (.inr (.inl ⟨a,b,vs,ws,rfl,rfl,cR.of k1,g2.s.seq sq,by rw [k2.length,da.length];exact Nat.le_trans hz (by decide),λ p H' n=>?_⟩));have g3:=Gr.nw g2.s n;exact q _ rfl _ ρ2 _ H' (g2.trans (.of g3)) (s2.grow g3) (.lst (cR.of aH) ((k2.app da).same g3.g))) qx
noncomputable def IK (neg:Bool) (x y:W) (S:ai):Option W:=(fQ x S).bind λ p=>(iE y).bind λ es=>if es=[] then some (.bool (p.2.isEmpty != neg)) else none
noncomputable def sK (neg:Bool) (fa fb:DS->ai->SM W):DS->ai->SM W:=λ δ S=>au (fa δ S) λ x S1=>au (fb δ S1) λ y S2=>lq (IK neg x y S2) S2
theorem Fo {neg:Bool} {ta tb:TE} {fa fb:DS->ai->SM W} (ha:SE K cl E ta fa) (hb:SE K cl E tb fb):SE K cl E (qp (HR K neg) ta tb) (sK neg fa fb):=λ ρ G σ H δ S r' S' Q R e q qx=>
 fU ha hb R e (λ x y S2 e2 v u ρ2 G2 H2 g2 s2 dv du=>by
  obtain ⟨c,e3,rfl,rfl⟩:=b9 e2;obtain ⟨⟨n,ds⟩,e4,e3⟩:=oB e3
  obtain ⟨es,e5,e7⟩:=oB e3
  obtain ⟨rfl,e6⟩:=cM e4;cases h9 e5;obtain ⟨a,rfl,ea⟩:=dz dv;obtain ⟨ga,vs,k1,k2⟩:=s2.addr e6 ea;obtain ⟨b,ws,rfl,sq,da⟩:=r6 du;split at e7
  case isFalse=>cases e7
  rename_i hz;cases e7;subst hz;cases da;have hl:vs.isEmpty=ds.isEmpty:=by
   have:=k2.length;cases vs <;> cases ds <;> simp_all
  exact ⟨a,b,vs,rfl,rfl,cR.of k1,g2.s.seq sq,by rw [hl];exact q _ rfl _ ρ2 G2 H2 g2 s2 (.bl _)⟩) qx
noncomputable def dG (f:W->Option W):List W->Option (List W)
 | []=>some []
 | d::ds=>(f d).bind λ x=>(dG f ds).map (x::·)
noncomputable def Gk (S:ai) (k:Nat):Option (List W):=match S[k]? with
 | some (.lst ds)=>some ds
 | _=>none
noncomputable def rW (F:Nat->Option (List W)):Nat->W->Option W
 | 0,_=>none
 | n+1,d=>match d with
  | .ref k=>(F k).bind λ ds=>(dG (rW F n) ds).map .list
  | .list ds=>(dG (rW F n) ds).map .list
  | .tuple ds=>(dG (rW F n) ds).map .tuple
  | d=>some d
noncomputable def A2 (f:List W->ai->SM W) (ds:List W):Option W:=if bM ds=true then (match f ds [] with | some (.ok d,S)=>rW (Gk S) 40 d | _=>none) else none
theorem Dw.free {ρ ρ':List Addr} {G:Hp} {v:V} {d:W} (h:eS d=true) (q:Dw K ρ G v d):Dw K ρ' G v d:=
 Dw.rec (motive_1:=λ v d _=>eS d=true->Dw K ρ' G v d) (motive_2:=λ vs ds _=>bM ds=true->aw K ρ' G vs ds) (λ _=>.non) (λ b _=>.bl b) (λ i _=>.int i) (λ x _=>.str x) (λ q _ ih h=>.lst q (ih h)) (λ q _ ih h=>.tup q (ih h)) (λ _ h=>by cases h)
  (λ _=>.nil) (λ _ _ ih1 ih2 h=>by simp [bM] at h;exact .cons (ih1 h.1) (ih2 h.2)) q h
theorem aw.free {ρ ρ':List Addr} {G:Hp} {vs:List V} {ds:List W} (h:bM ds=true) (q:aw K ρ G vs ds):aw K ρ' G vs ds:=
 q.ind (M:=λ vs ds=>bM ds=true->aw K ρ' G vs ds) (λ _=>.nil) (λ _ _ _ _ a ih h=>by simp [bM] at h;exact .cons (a.free h.1) (ih h.2)) h
theorem qY {ρ ρ':List Addr} {G G2:Hp} {f:W->Option W} (hf:∀ v d d',f d=some d'->Dw K ρ' G v d->Dw K ρ G2 v d') {vs:List V} {ds es:List W} (e:dG f ds=some es) (q:aw K ρ' G vs ds):aw K ρ G2 vs es:=
 q.ind (M:=λ vs ds=>∀ es,dG f ds=some es->aw K ρ G2 vs es) (λ es e=>by cases e;exact .nil) (λ _ _ _ _ a ih es e=>by
  obtain ⟨x,e1,e⟩:=oB e
  obtain ⟨xs,e2,rfl⟩:=oM e
  exact .cons (hf _ _ _ e1 a) (ih _ e2)) es e
theorem qH {ρ ρ':List Addr} {G G2 H:Hp} {S:ai} (s:SR K ρ' cl G H S) (hg:bm G G2) (hn:∀ a vs,a∈ρ'->H a=some (.lst vs)->G2 a=some (.lst vs)):∀ (n:Nat) (v:V) (d d':W),rW (Gk S) n d=some d'->Dw K ρ' G v d->Dw K ρ G2 v d'
 | 0,_,_,_,e,_=>by cases e
 | n+1,v,d,d',e,h=>by
  cases h with
  | non=>cases e;exact .non
  | bl b=>cases e;exact .bl b
  | int i=>cases e;exact .int i
  | str x=>cases e;exact .str x
  | lst q a=>
   obtain ⟨es,e1,rfl⟩:=oM e
   exact .lst (hg.seq q) (qY (qH s hg hn n) e1 a)
  | tup q a=>
   obtain ⟨es,e1,rfl⟩:=oM e
   exact .tup (hg _ _ q) (qY (qH s hg hn n) e1 a)
  | @ref a k ea=>
   obtain ⟨ds,hF,e⟩:=oB e
   obtain ⟨es,e1,rfl⟩:=oM e
   have hS:S[k]?=some (.lst ds):=by
    unfold Gk at hF;split at hF
    . rename_i h;cases hF;exact h
    . cases hF
   obtain ⟨ga,vs,k1,k2⟩:=s.addr hS ea;exact .lst (cR.of (hn a vs (List.mem_of_getElem? ea) k1)) (qY (qH s hg hn n) e1 k2)
open Classical in
noncomputable def frzG (ρ:List Addr) (G H:Hp):Hp:=λ a=>if a∈ρ/\∃ vs,H a=some (.lst vs) then H a else G a
theorem EV {f:List W->ai->SM W} {vs:List V} {H:Hp} {Q:VK} {E:XK} (h:jZ K (A2 f) vs H Q E):jY K cl f vs H Q E:=by
 obtain ⟨ρ,G,ds,d',sg,da,e,q⟩:=h;unfold A2 at e;split at e
 case isFalse=>cases e
 rename_i ok;split at e
 . rename_i d S' ef;refine ⟨[],G,[],ds,d,S',sg,zX,da.free ok,ef,λ v ρ' G' H' g s dv=>?_⟩;have out:∀ a,a∈ρ'->G' a=none:=λ a ha=>by
    obtain ⟨n,hn⟩:=List.getElem?_of_mem ha;have hl:n<S'.length:=by rw [<-s.len];exact (oG hn).1
    exact (s.addr (List.getElem?_eq_getElem hl) hn).1
   have g1:bm G' (frzG ρ' G' H'):=λ b o eb=>by
    unfold frzG;rw [if_neg]
    . exact eb
    . rintro ⟨hb,_⟩;rw [out b hb] at eb;cases eb
   have g2:bm (frzG ρ' G' H') H':=λ b o eb=>by
    unfold frzG at eb;split at eb
    . exact eb
    . exact g.s b o eb
   have gr:Gr G H (frzG ρ' G' H') H':=⟨g.g.trans g1,λ b o eb=>g.h b o (by simp) eb,g2,λ b h1 h2=>by
    unfold frzG;rw [if_neg]
    . exact g.n b h1 h2
    . rintro ⟨hb,_⟩;exact h1.1 (g.f b hb (by simp))⟩
   exact q v (frzG ρ' G' H') H' gr (qH s g1 (λ a vs ha hv=>by unfold frzG;rw [if_pos ⟨ha,vs,hv⟩];exact hv) 40 v d d' e dv)
 . cases e
end
noncomputable def Gh (K:Frag) (mg:Str->Option Value) (x:Str) (ps:List Str) (us:List Value) (f:Addr) (fd:FuncData):Prop:=mg x=some (.ref f)/\PySem.W.keepIn K (.ref f)=true/\df K fd ps []/\df K fd ps us
noncomputable def Ce (R:Addr->FuncData->Prop) (P:Program) (w:World) (K:Frag) (mg:Str->Option Value) (base:Heap) (k:Nat) (ps:List Str) (sp:Sp):Prop:=∃ f fd,R f fd/\eF P w K mg base CQ k f fd ps sp
noncomputable def wt (R:Addr->FuncData->Prop) (K:Frag) (x q:Str) (st:Stmt):Prop:=∃ f fd,Bw K x q st f fd/\R f fd
noncomputable abbrev jg (K:Frag) (mg:Str->Option Value) (x:Str) (ps:List Str) (us:List Value) (st:Stmt):Prop:=wt (Gh K mg x ps us) K x x st
noncomputable abbrev jG (P:Program) (w:World) (K:Frag) (mg:Str->Option Value) (base:Heap) (x:Str) (ps:List Str) (us:List Value) (k:Nat) (sp:Sp):Prop:=Ce (Gh K mg x ps us) P w K mg base k ps sp
section
variable {X:Cx} {x:Str} {o e:Expr} {es:List Expr} {t:TA} {ps:List Str} {us:List Value} {sp:Sp} {p pos:Pos} {K:Frag} {T:String} {name:Str} {r:V->List V->Hp->VK->Prop} {q:List V->Hp->VK->Prop} {to:TE} {apos:Pos}
noncomputable def HP (X:Cx) (x:Str) (us:List Value) (sp:Sp):Prop:=∃ j k ps,Ce (Gh X.K X.mg x ps us) X.prog X.w X.K X.mg X.base j ps sp/\dF k X.A/\j<=k
theorem Ly (h:∃ us,HP X x us sp) (hg:Gl X x) (ha:PA X (e::es) t) (hd:(x==("__debug__" : Str))=false)
 (he:starEach (e::es) X.env=(false,eval e X.env)::starEach es X.env) (hp:(backTo pos (starEach es X.env)).any (·.1)=false):PE X (.Call (.Name x p) (e::es) [] pos) (pv sp [] E0 t):=by
 obtain ⟨us,j,k,ps,⟨f,fd,⟨m,kp,b,_⟩,F⟩,hr,hl⟩:=h;exact vV (F.mono hl) hr hg m kp b .nil Dx ha hd he hp
theorem Lk (h:HP X x [.none] sp) (hg:Gl X x) (ha:PA X (e::es) t) (hd:(x==("__debug__" : Str))=false)
 (he:starEach (e::es) X.env=(false,eval e X.env)::starEach es X.env) (hp:(backTo pos (starEach es X.env)).any (·.1)=false):PE X (.Call (.Name x p) (e::es) [] pos) (pv sp [.non] E0 t):=by
 obtain ⟨j,k,ps,⟨f,fd,⟨m,kp,_,b⟩,F⟩,hr,hl⟩:=h;exact vV (F.mono hl) hr hg m kp b At Dx ha hd he hp
noncomputable def QM (X:Cx) (T:String) (name:Str) (r:V->List V->Hp->VK->Prop):Prop:=∃ id,PlainAttrs T/\Slot T name id/\typeOf (.builtin id)=pure (.type "method_descriptor")/\GM X id r
noncomputable def QB (X:Cx) (x:Str) (q:List V->Hp->VK->Prop):Prop:=∃ id,cm X (.builtin id) q/\bootBuiltins x=some (.builtin id)
theorem L9:QM X "list" "append" mV:=⟨_,PySem.F.plainAttrs_list,PySem.F.slot_list_append,PySem.F.type_list_append,xR⟩
theorem Lm:QM X "list" "extend" (nM X.K):=⟨_,PySem.F.plainAttrs_list,PySem.F.slot_list_extend,PySem.F.type_list_extend,u0⟩
theorem Lw:QM X "list" "pop" Ei:=⟨_,PySem.F.plainAttrs_list,PySem.F.slot_list_pop,PySem.F.type_list_pop,FA⟩
theorem LF (h:X.K=K):QB X "len" (vJ K):=⟨_,xQ h,PySem.boot_len⟩
theorem Ln (h:X.K=K) (hc:X.calm=true):QB X "any" (Gf K):=⟨_,xx h hc,boot_any⟩
theorem Lf:QB X "isinstance" Ca:=⟨_,pG,boot_isinstance⟩
theorem JO (h:X.K=K):QB X "isinstance" (wB K):=⟨_,xh h,boot_isinstance⟩
theorem Ls (h:X.K=K) (hm:QM X T name r) (ho:PE X o to) (hb:attributeBase o name X.env (eval o X.env)=eval o X.env) (hl:(apos.endLine==pos.line)=true):PE X (.Call (.Attribute o name apos) [] [] pos) (Bi K T r to):=by
 obtain ⟨_,a,b,c,d⟩:=hm;exact By h a b c d ho hb hl
theorem Ld (h:X.K=K) (hm:QM X T name r) (ho:PE X o to) (ha:PA X (e::es) t) (hb:attributeBase o name X.env (eval o X.env)=eval o X.env)
 (hf:((backTo pos (starEach (e::es) X.env)).all (λ x=>!x.1)&&(backToKw pos (keywordEach [] X.env)).all (λ x=>x.1.isSome)
  && decide ((e::es).length+([]:List Keyword).length+(if ([]:List Keyword).isEmpty then 0 else 1)<30))=true)
 (hl:(apos.endLine==pos.line)=true) (hs:starEach (e::es) X.env=(false,eval e X.env)::starEach es X.env) (hp:(backTo pos (starEach es X.env)).any (·.1)=false):
 PE X (.Call (.Attribute o name apos) (e::es) [] pos) (EH K T r to t):=by
 obtain ⟨_,a,b,c,d⟩:=hm;exact Ge h a b c d ho ha hb hf hl hs hp
theorem LL (hq:QB X x q) (hg:Gl X x) (hm:X.mg x=none) (ha:PA X (e::es) t) (hn:x ≠ "__name__") (hd:(x==("__debug__" : Str))=false)
 (he:starEach (e::es) X.env=(false,eval e X.env)::starEach es X.env) (hp:(backTo pos (starEach es X.env)).any (·.1)=false):PE X (.Call (.Name x p) (e::es) [] pos) (v6 q t):=by
 obtain ⟨_,a,b⟩:=hq;exact ym a hg hm b ha hn hd he hp
theorem LB (h:X.K=K) (hg:Gl X "list") (hm:X.mg "list" = none) (ha:PA X (e::es) t)
 (he:starEach (e::es) X.env=(false,eval e X.env)::starEach es X.env) (hp:(backTo pos (starEach es X.env)).any (·.1)=false):PE X (.Call (.Name "list" p) (e::es) [] pos) (v6 (rq K) t):=pS (oS h) hg hm boot_list ha (by decide) (by decide) he hp
end
section
variable {X:Cx} {x:Str} {us:List Value} {sp:Sp} {j k:Nat} {ps:List Str} {pos:Pos}
theorem JQ (h:Ce (Gh X.K X.mg x ps us) X.prog X.w X.K X.mg X.base j ps sp) (hr:dF k X.A) (hl:j<=k):HP X x us sp:=⟨j,k,ps,h,hr,hl⟩
theorem JX (h:Ce (Gh X.K X.mg x ps us) X.prog X.w X.K X.mg X.base j ps sp) (hr:dF k X.A) (hl:j<=k):∃ us,HP X x us sp:=⟨us,j,k,ps,h,hr,hl⟩
theorem Ma (hg:Gl X "list") (hm:X.mg "list" = none):PE X (.Name "list" pos) (tC (.ty "list")):=rL hg hm boot_list rfl (by decide) (by decide)
theorem LO (hg:Gl X "int") (hm:X.mg "int" = none):PE X (.Name "int" pos) (tC (.ty "int")):=rL hg hm (by decide +kernel:bootBuiltins "int" = some (.type "int")) rfl (by decide) (by decide)
theorem Mr (hg:Gl X "bool") (hm:X.mg "bool" = none):PE X (.Name "bool" pos) (tC (.ty "bool")):=rL hg hm boot_bool' rfl (by decide) (by decide)
theorem Ic {a b c:Prop} (h:b):a∨b∨c:=.inr (.inl h)
end
noncomputable def cN (N:List Str):List (Option Nat)->List Str->List Str
 | some i::r,u=>N.getD i "" :: cN N r u
 | _,u=>u
section
variable {X:Cx} {scope:Scope} {ix:List (Option Nat)} {z:Str} {zp:Pos} {iter elt:Expr} {ifs:List Expr} {wi:TI} {g:TG} {tc:TT} {te:TE} {pos py spos:Pos} {y:Str} {i:Nat}
theorem CD {N:List Str} (kind:scope.kind=.function) (nocell:(scope.names.all λ y=>y.2 != .cell)=true) (locs:(scope.names.all λ y=>y.2 != .local||scope.names.lookup y.1==some .local)=true)
 (free:(scope.names.all λ y=>y.2 != .free||X.env.kindOf y.1==some .cell||X.env.kindOf y.1==some .free)=true) (len:ix.length=N.length) (nd:decide N.Nodup=true)
 (fr:((ix.zip N).all λ p=>match p.1 with
  | none=>true
  | some i=>X.N[i]?==some p.2&&(X.env.kindOf p.2==some .cell||X.env.kindOf p.2==some .free)&&((relabel scope X.env).names.lookup p.2==some .cell||(relabel scope X.env).names.lookup p.2==some .free))=true):bK X scope N ix:=uQ kind nocell locs free len (of_decide_eq_true nd) fr
noncomputable abbrev Lq (X:Cx) (scope:Scope) (ix:List (Option Nat)) (z:Str) (zp:Pos) (elt:Expr) (ifs:List Expr) (g:TG) (tc:TT) (te:TE):Prop:=∀ (s₀:Shared) (H₀:Hp) (C:Addr) (ex:List Addr),(cN X.N ix [z]).Nodup->PG (bL X scope (cN X.N ix [z]) s₀ H₀ C ex) (.Name z zp) g/\uZ (bL X scope (cN X.N ix [z]) s₀ H₀ C ex) ifs tc/\PE (bL X scope (cN X.N ix [z]) s₀ H₀ C ex) elt te
theorem HZ (S:bK X scope (cN X.N ix [z]) ix) (hn:decide (cN X.N ix [z]).Nodup=true) (hc:X.calm=true) (hi:PI X (.Name z zp) iter wi) (hG:n6 ix g) (hb:Lq X scope ix z zp elt ifs g tc te)
 (hs:∀ x,foldedSetIterable iter X.env x=pure x):PE X (.ListComp elt [⟨.Name z zp,iter,ifs,0⟩] scope pos) (nJ ix wi g tc te):=Cy S hc hi hG (λ a b c d=>hb a b c d (of_decide_eq_true hn)) hs
theorem yK (hN:X.N.Nodup) (hi:X.N[i]?=some y) (hy:Fu X.env.scope y) (S:bK X scope (cN X.N ix [z]) ix) (hn:decide (cN X.N ix [z]).Nodup=true) (hc:X.calm=true) (hit:PI X (.Name z zp) iter wi) (hG:n6 ix g) (hb:Lq X scope ix z zp elt ifs g tc te)
 (hsw:swapsWith (.ListComp elt [⟨.Name z zp,iter,ifs,0⟩] scope pos) (some (.Name y py)) spos.line X.env=pure true) (hs:∀ x,foldedSetIterable iter X.env x=pure x) (hf:X.fn y=true∨X.env.scope.names.lookup y=some .local):
 PS X (.Assign [.Name y py] (.ListComp elt [⟨.Name z zp,iter,ifs,0⟩] scope pos) spos) (oZ (nJ ix wi g tc te) (m8 i)):=Bj hN hi hy S hc hit hG (λ a b c d=>hb a b c d (of_decide_eq_true hn)) hsw hs hf
end
noncomputable abbrev Kn (P:Program) (w:World) (K:Frag) (mg:Str->Option Value) (base:Heap) (N:List Str) (q:Str) (st:Stmt) (k:Nat) (t:TS):Prop:=∀ (f:Addr) (cd:Value) (A:Around) (outer:List Env) (s:Shared) (H:Hp) (E:XK),N.Nodup->dF k (A.deeper (envOfC q (aZ st) s.heap.objs.size f cd))->(A.deeper (envOfC q (aZ st) s.heap.objs.size f cd)).units+64<cLine->(A.deeper (envOfC q (aZ st) s.heap.objs.size f cd)).units+1<cLine->
 u3 (uY CQ P w K mg base N q (aZ st) f cd A outer s H E).nox (ck st) t
section
variable {P:Program} {w:World} {K:Frag} {mg:Str->Option Value} {base:Heap} {cl:Str->Addr} {R:Addr->FuncData->Prop} {x q:Str} {st:Stmt} {N ps:List Str} {a n k:Nat} {t:TS} {sp:Sp}
theorem Ih (D:wt R K x q st) (S:g7 N ps (aZ st)) (hl:∀ vs H Q E,sp vs H Q E->vs.length=ps.length) (rd:∀ vs H Q E,sp vs H Q E->t ({ nx:=λ _ H'=>Q V.non H',rt:=Q }:jx) (start N vs) H)
 (pe:Kn P w K mg base N q st k t):Ce R P w K mg base (k+1) ps sp:=by
 obtain ⟨f,fd,F,r⟩:=D;exact ⟨f,fd,r,F.ok S hl λ cd A outer s H vs Q E hr h=>⟨t,pe f cd A outer s H E S.nd hr hr.units hr.units1,rd vs H Q E h⟩⟩
theorem iI {fb:DS->Option dm} {g:List W->Option W} (D:wt R K x q st) (hg:g=bO a n fb) (de:∀ ρ,mT K ρ t fb)
 (pe:Kn P w K mg base N q st k t) (hN:N.length=n) (ha:ps.length=a) (S:g7 N ps (aZ st)):Ce R P w K mg base (k+1) ps (jZ K g):=by
 subst hg ha;exact Ih D S (λ vs H Q E h=>BC (λ ds d e=>pw e) h) (λ vs H Q E h=>KE hN de h) pe
theorem iq {fb:DS->ai->SO} {g:List W->ai->SM W} (D:wt R K x q st) (hg:g=bN a n fb) (de:oO K cl E0 t fb)
 (pe:Kn P w K mg base N q st k t) (hN:N.length=n) (ha:ps.length=a) (S:g7 N ps (aZ st)):Ce R P w K mg base (k+1) ps (jY K cl g):=by
 subst hg ha;exact Ih D S (λ vs H Q E h=>Cc (λ ds S r e=>pK e) h) (λ vs H Q E h=>HQ hN de h) pe
theorem Ce.imp {sq:Sp} (h:Ce R P w K mg base k ps sp) (i:∀ vs H Q E,sq vs H Q E->sp vs H Q E):Ce R P w K mg base k ps sq:=by
 obtain ⟨f,fd,r,F⟩:=h;exact ⟨f,fd,r,F.imp i⟩
theorem Dd {g:List W->Option W} (D:wt R K x q st) (h:∀ ds,g ds=none):Ce R P w K mg base k ps (jZ K g):=by
 obtain ⟨f,fd,_,r⟩:=D;exact ⟨f,fd,r,eF.no h⟩
theorem rj {F:Nat->Sp} (h0:Ce R P w K mg base (k+0) ps (F 0)) (hs:∀ n,Ce R P w K mg base (k+n) ps (F n)->Ce R P w K mg base (k+n+1) ps (F (n+1))):∀ n,Ce R P w K mg base (k+n) ps (F n)
 | 0=>h0
 | n+1=>hs n (rj h0 hs n)
noncomputable def An (K:Frag) (x:Str) (st:Stmt) (dV:Value):Prop:=∃ (f:Addr) (oc:Value) (od:Option Addr) (kV dc pm:Value) (an:Option Addr) (cd ct:Value) (sl:Array (Option Value)),
 PySem.W.nsIn K mainGlobals x=some (some (.ref f))/\K.lookup f=some ⟨oc,od,.func (PySem.W.fnOf x x (cJ st) (ck st) (aZ st) dV kV dc pm an cd ct),sl⟩/\PySem.W.codeIn K cd x=true/\PySem.W.keepIn K (.ref f)=true
theorem An.dn {h:Heap} (X:K.In h) (G:h.Ns mainGlobals mg) (z:An K x st .none) (hb:∀ (kV dc pm:Value) (an:Option Addr) (cd ct:Value) (us:List Value),us.length=ps.length->bindArgs (PySem.W.fnOf x x (cJ st) (ck st) (aZ st) .none kV dc pm an cd ct) ⟨us,[]⟩=pure (ps.zip us)):
 wt (Gh K mg x ps []) K x x st:=by
 obtain ⟨f,oc,od,kV,dc,pm,an,cd,ct,sl,m,l,c,kp⟩:=z;have b:df K _ ps []:=(lK l c kp).binds hb;exact ⟨f,_,g8 l c kp,PySem.W.mg_of X G m,kp,b,b⟩
end
section
variable {K:Frag} {cl:Str->Addr} {E:XK}
theorem zJ {R:Addr->FuncData->Prop} {P:Program} {w:World} {mg:Str->Option Value} {base:Heap} {k:Nat} {ps:List Str} {x q:Str} {st:Stmt} {g:List W->ai->SM W} (D:wt R K x q st) (h:∀ ds S,g ds S=none):Ce R P w K mg base k ps (jY K cl g):=by
 obtain ⟨f,fd,_,r⟩:=D;exact ⟨f,fd,r,eF.no0 h⟩
end
section
variable {prog:Program} {w:World} {A:Around} {E:Value->Shared->Prop} {s:Shared} {d it:Addr} {es:Array DictEntry} {ep i:Nat}
end
section
variable {K:Frag} {cl:Str->Addr} {E:XK} {ρ:List Addr}
end
section
variable {K:Frag} {cl:Str->Addr} {E:XK}
end
section
variable {X:Cx} {e:Expr} {es:List Expr} {t:TA} {p pos:Pos}
end
section
variable {X:Cx} {pos:Pos}
end
section
variable {K:Frag} {cl:Str->Addr} {E:XK}
end
section
variable {X:Cx}
theorem Kx:QB X "len" zS:=⟨_,uL,PySem.boot_len⟩
theorem Ke:QM X "list" "extend" qQ:=⟨_,PySem.F.plainAttrs_list,PySem.F.slot_list_extend,PySem.F.type_list_extend,xJ⟩
theorem Lo {K:Frag} (h:X.K=K) (hc:X.calm=true):QB X "all" (EZ K):=⟨_,wQ h hc,boot_all⟩
end
noncomputable def tb (led:Bool) (ps:Array Nat):SetTable:={ mask:=7,place:=ps,dummies:=#[],finger:=0,led:=led,moves:=0,plain:=true }
theorem jt (p j:Nat):SetTable.below #[p] j=if p<j then 1 else 0:=by
 show SetTable.below.go #[p] j 1 0 1=_;unfold SetTable.below.go;simp [SetTable.below.go]
theorem wU (p q j:Nat):SetTable.below #[p,q] j=if q<j then 2 else if p<j then 1 else 0:=by
 show SetTable.below.go #[p,q] j 2 0 2=_;unfold SetTable.below.go;simp;split
 . simp [SetTable.below.go]
 . simp [SetTable.below.go]
theorem nI {led:Bool} {p j:Nat}:(tb led #[p]).slot j=if p=j then .live 0 else .empty:=by
 unfold SetTable.slot tb;simp only [jt];by_cases h:p=j
 . subst h;simp
 . rw [if_neg h];by_cases h1:p<j
   . simp [h1,SetTable.has]
   . simp [h1,h,SetTable.has]
theorem xk {led:Bool} {p:Nat} {h:Int} (hp:p<8):∀ (m fuel:Nat) (pr:SetTable.Probe),pr.more=0->pr.dummy=none->pr.i=pr.j->pr.perturb<32^m->m+2<=fuel->
 ∃ q,SetTable.probe.go (tb led #[p]) (λ _=>h+1) h fuel pr=some (.empty q none)/\q≠p:=by
 have hh:((h+1)==h)=false:=by simp;omega
 have nx:∀ pr:SetTable.Probe,pr.more=0->(tb led #[p]).advance pr={ pr with j:=(pr.i*5+1+pr.perturb / 32)%8,more:=0,i:=(pr.i*5+1+pr.perturb / 32)%8,perturb:=pr.perturb / 32 }:=λ pr e=>by
  unfold SetTable.advance;rw [e];have:∀ i,i<8->SetTable.runEnd 7 i-i=0:=λ i hi=>by unfold SetTable.runEnd;rw [if_neg (by omega)];omega
  simp [SetTable.leap,tb,this _ (Nat.mod_lt _ (by decide:0<8))]
 intro m;induction m with
 | zero=>
  intro fuel pr e1 e2 e3 e4 e5;obtain ⟨fuel,rfl⟩:∃ f,fuel=f+2:=⟨fuel-2,by omega⟩
  unfold SetTable.probe.go;rw [nI];by_cases hj:p=pr.j
  . rw [if_pos hj];simp only [hh,Bool.false_eq_true,if_false];rw [nx pr e1];unfold SetTable.probe.go;rw [nI];have e0:pr.perturb=0:=by omega
    have:¬ p=(pr.i*5+1+pr.perturb / 32)%8:=by rw [e3,<-hj,e0];omega
    simp only [if_neg this];exact ⟨_,by rw [e2],λ z=>this z.symm⟩
  . rw [if_neg hj];exact ⟨_,by rw [e2],λ z=>hj z.symm⟩
 | succ m ih=>
  intro fuel pr e1 e2 e3 e4 e5;obtain ⟨fuel,rfl⟩:∃ f,fuel=f+1:=⟨fuel-1,by omega⟩
  unfold SetTable.probe.go;rw [nI];by_cases hj:p=pr.j
  . rw [if_pos hj];simp only [hh,Bool.false_eq_true,if_false];rw [nx pr e1];exact ih fuel _ rfl e2 rfl (by show pr.perturb / 32<_;rw [Nat.pow_succ] at e4;omega) (by omega)
  . rw [if_neg hj];exact ⟨_,by rw [e2],λ z=>hj z.symm⟩
theorem Br (h:Int):SetTable.bits h<2^64:=by
 unfold SetTable.bits;have:=Int.emod_lt_of_pos h (b:=(2^64:Int)) (by decide);have:=Int.emod_nonneg h (b:=(2^64:Int)) (by decide);omega
theorem zB {led:Bool} {p:Nat} {h:Int} (hp:p<8):∃ q,(tb led #[p]).freeSlot h=some (q,false)/\q≠p:=by
 have run:∀ i,i<8->SetTable.runEnd 7 i-i=0:=λ i hi=>by unfold SetTable.runEnd;rw [if_neg (by omega)];omega
 obtain ⟨q,e,n⟩:=xk (led:=led) (h:=h) hp 13 220 ((tb led #[p]).probeStart h) (run _ (show _%8<8 from Nat.mod_lt _ (by decide))) rfl rfl (Nat.lt_of_lt_of_le (Br h) (by decide)) (by decide);refine ⟨q,?_,n⟩;unfold SetTable.freeSlot SetTable.probe;rw [show 10*SetTable.turns (tb led #[p]).mask=220 from rfl,e];rfl
theorem y3 (led:Bool) (h:Int) (x:Value):layNew (.fresh 0 0 led) #[] h x=(#[(h,x)],tb led #[SetTable.bits h%8],false,false):=rfl
theorem BX {led:Bool} {p:Nat} {h h1:Int} {x x1:Value} (hp:p<8):∃ q,(layNew (tb led #[p]) #[(h1,x1)] h x=(#[(h1,x1),(h,x)],tb led #[p,q],false,false)/\p<q)∨
 (layNew (tb led #[p]) #[(h1,x1)] h x=(#[(h,x),(h1,x1)],tb led #[q,p],false,false)/\q<p):=by
 obtain ⟨q,e,n⟩:=zB (led:=led) (h:=h) hp;refine ⟨q,?_⟩;unfold layNew;rw [e];rcases Nat.lt_or_ge p q with l | l
 . refine .inl ⟨?_,l⟩;simp only [SetTable.put];rw [show (tb led #[p]).place = #[p] from rfl,jt,if_pos l];rfl
 . refine .inr ⟨?_,by omega⟩;simp only [SetTable.put];rw [show (tb led #[p]).place = #[p] from rfl,jt,if_neg (by omega)];rfl
section
variable {prog:Program} {w:World} {A:Around} {E:Value->Shared->Prop} {s:Shared}
noncomputable def iC (prog:Program) (w:World) (a:Addr) (vs:List Value) (h:Heap):Prop:=∃ (o:Obj) (es:Array (Int×Value)) (ep:Nat) (t:SetTable) (sl:Nat->Nat),
 h.get? a=some o/\o.ExactSet/\o.data=.set es ep t/\t.fits es.size=true/\es.size=vs.length/\t.plain=true/\sl 0=0/\
 ∀ (i:Nat) (A:Around) (E:Value->Shared->Prop) (s:Shared) (Q:Option (Value×Nat)->Shared->Prop),i<=vs.length->s.heap.get? a=some o->Q (vs[i]?.map λ v=>(v,sl (i+1))) s->wpAny (model prog w) A (setNext a (sl i) i ep) Q E s
theorem qL {a:Addr} {o:Obj} {es:Array (Int×Value)} {ep:Nat} {t:SetTable} {Q:Array (Int×Value)->Shared->Prop} (hw:w.params.followText "set-order" = true) (ho:s.heap.get? a=some o) (hd:o.data=.set es ep t) (hf:t.fits es.size=true)
 (h:Q (pickOrder (w.params.setOrder a ep) es) s):wpAny (model prog w) A (setWalk a) Q E s:=by
 unfold setWalk;refine wpAny_bind (wpAny_setState_of ho hd hf ?_);dsimp only;unfold setsByText;refine wpAny_bind (wpAny_bind (wpAny_askSetting (wpAny_pure ?_)));show wpAny _ _ (if w.params.followText "set-order" = true then _ else _) _ _ _;rw [if_pos hw];exact wpAny_bind (wpAny_askSetting (wpAny_pure h))
theorem ir {a:Addr} {o:Obj} {es:Array (Int×Value)} {ep sl i:Nat} {t:SetTable} {Q:Option (Value×Nat)->Shared->Prop} (hw:w.params.followText "set-order" = true) (ho:s.heap.get? a=some o) (hd:o.data=.set es ep t) (hf:t.fits es.size=true)
 (h:Q (((pickOrder (w.params.setOrder a ep) es)[i]?).map λ e=>(e.2,sl)) s):wpAny (model prog w) A (setNext a sl i ep) Q E s:=by
 unfold setNext;refine wpAny_bind (wpAny_setState_of ho hd hf ?_);dsimp only;unfold setsByText;refine wpAny_bind (wpAny_bind (wpAny_askSetting (wpAny_pure ?_)));show wpAny _ _ (if w.params.followText "set-order" = true then _ else _) _ _ _;rw [if_pos hw,if_neg (by simp)];exact wpAny_bind (qL hw ho hd hf (wpAny_pure h))
theorem lX {a:Addr} {o:Obj} {es:Array (Int×Value)} {ep sl i:Nat} {t:SetTable} {Q:Option (Value×Nat)->Shared->Prop} (hw:w.params.followText "set-order" = false) (ho:s.heap.get? a=some o) (hd:o.data=.set es ep t) (hf:t.fits es.size=true)
 (hp:t.plain=true) (hl:t.led=true)
 (h:Q (match es[SetTable.below t.place sl]?,t.place[SetTable.below t.place sl]? with
 | some (_,x),some j=>some (x,j+1)
 | _,_=>none) s):wpAny (model prog w) A (setNext a sl i ep) Q E s:=by
 unfold setNext;refine wpAny_bind (wpAny_setState_of ho hd hf ?_);dsimp only;unfold setsByText;refine wpAny_bind (wpAny_bind (wpAny_askSetting (wpAny_pure ?_)));show wpAny _ _ (if w.params.followText "set-order" = true then _ else _) _ _ _;rw [if_neg (by rw [hw];exact Bool.false_ne_true)];show wpAny _ _ (if (!t.plain&&decide (es.size>1))=true then _ else _) _ _ _;rw [if_neg (by rw [hp];exact Bool.false_ne_true)];show wpAny _ _ ((if (!t.led && !es.isEmpty)=true then _ else _) >>= _) _ _ _;rw [if_neg (by rw [hl];exact Bool.false_ne_true)];exact wpAny_bind (wpAny_pure (wpAny_pure h))
theorem Ay {α:Type} (f:Nat->Nat) (a b:α):pickOrder f #[a,b] = #[a,b]∨pickOrder f #[a,b] = #[b,a]:=by
 show pickOrder.go f 2 0 [a,b] #[]=_∨pickOrder.go f 2 0 [a,b] #[]=_;unfold pickOrder.go;have h2:f 0% [a,b].length=0∨f 0% [a,b].length=1:=by show f 0%2=0∨f 0%2=1;omega
 rcases h2 with e | e <;> rw [e] <;> simp [pickOrder.go,Nat.mod_one]
theorem zx {α:Type} (f:Nat->Nat) (a:α):pickOrder f #[a] = #[a]:=by
 show pickOrder.go f 1 0 [a] #[]=_;unfold pickOrder.go;simp [pickOrder.go,Nat.mod_one]
theorem xL {h:Heap} {a:Addr} {o:Obj} {h1:Int} {x:Value} {ep p:Nat} {led:Bool} (hl:led = !w.params.followText "set-order") (ho:h.get? a=some o) (hx:o.ExactSet) (hd:o.data=.set #[(h1,x)] ep (tb led #[p])):iC prog w a [x] h:=by
 have hf:(tb led #[p]).fits 1=true:=rfl;cases hw:w.params.followText "set-order" with
 | true=>
  refine ⟨o,_,ep,_,λ _=>0,ho,hx,hd,hf,rfl,rfl,rfl,λ i A E s Q hi g q=>ir hw g hd hf ?_⟩;rw [zx]
  match i,hi with
  | 0,_=>exact q
  | 1,_=>exact q
 | false=>
  have hL:led=true:=by rw [hl,hw];rfl
  refine ⟨o,_,ep,_,λ i=>if i=0 then 0 else p+1,ho,hx,hd,hf,rfl,rfl,rfl,λ i A E s Q hi g q=>lX hw g hd hf rfl hL ?_⟩;rw [show (tb led #[p]).place = #[p] from rfl,jt]
  match i,hi with
  | 0,_=>exact q
  | 1,_=>
   rw [if_pos (by show p<p+1;omega)];exact q
theorem xY {h:Heap} {a:Addr} {o:Obj} {h1 h2:Int} {x y:Value} {ep p r:Nat} {led:Bool} (hl:led = !w.params.followText "set-order") (ho:h.get? a=some o) (hx:o.ExactSet) (hd:o.data=.set #[(h1,x),(h2,y)] ep (tb led #[p,r])) (hpr:p<r):
 iC prog w a [x,y] h∨iC prog w a [y,x] h:=by
 have hf:(tb led #[p,r]).fits 2=true:=rfl;cases hw:w.params.followText "set-order" with
 | true=>
  rcases Ay (w.params.setOrder a ep) (h1,x) (h2,y) with e | e
  . refine .inl ⟨o,_,ep,_,λ _=>0,ho,hx,hd,hf,rfl,rfl,rfl,λ i A E s Q hi g q=>ir hw g hd hf ?_⟩;rw [e]
    match i,hi with
    | 0,_=>exact q
    | 1,_=>exact q
    | 2,_=>exact q
  . refine .inr ⟨o,_,ep,_,λ _=>0,ho,hx,hd,hf,rfl,rfl,rfl,λ i A E s Q hi g q=>ir hw g hd hf ?_⟩;rw [e]
    match i,hi with
    | 0,_=>exact q
    | 1,_=>exact q
    | 2,_=>exact q
 | false=>
  have hL:led=true:=by rw [hl,hw];rfl
  refine .inl ⟨o,_,ep,_,λ i=>if i=0 then 0 else if i=1 then p+1 else r+1,ho,hx,hd,hf,rfl,rfl,rfl,λ i A E s Q hi g q=>lX hw g hd hf rfl hL ?_⟩;rw [show (tb led #[p,r]).place = #[p,r] from rfl,wU]
  match i,hi with
  | 0,_=>exact q
  | 1,_=>
   rw [if_neg (by show ¬ r<p+1;omega),if_pos (by show p<p+1;omega)];exact q
  | 2,_=>
   rw [if_pos (by show r<r+1;omega)];exact q
theorem iC.keep {h h':Heap} {a:Addr} {vs:List Value} (x:iC prog w a vs h) (k:∀ o,h.get? a=some o->h'.get? a=some o):iC prog w a vs h':=by
 obtain ⟨o,es,ep,t,sl,ho,r⟩:=x;exact ⟨o,es,ep,t,sl,k _ ho,r⟩
end
theorem dS:Slot "set_iterator" "__next__" "set_iterator.__next__" :=
 .of (owner := "set_iterator") (n := "__next__") (by rw [typeLookup_type,builtinLookup_eq_fast];kernel_rfl) (by decide +kernel) (by decide +kernel) (by decide +kernel)
  (by first | exact .inl (by decide +kernel) | exact .inr (by decide +kernel)) (by rw [isSubtype_type];kernel_rfl)
theorem jJ:entryFor table "set_iterator.__next__" = some Builtin.«set_iterator.__next__»:=entryFor_of_fast (by kernel_rfl)
theorem kU (a:Value):argsOk "set_iterator.__next__" ⟨[a],[]⟩:=by unfold argsOk;kernel_rfl
theorem entry_set_iter':entryFor table "set.__iter__" = some Builtin.«frozenset.__iter__»:=entryFor_alias (id' := "frozenset.__iter__") (by kernel_rfl) rfl (by decide +kernel) (by kernel_rfl)
noncomputable def pY (h:Heap) (it a:Addr) (sl i n ep:Nat):Prop:=∃ o,h.get? it=some o/\o.cls=.type "set_iterator" /\ o.data=.fields #[.int sl 0,.int i 0,.ref a,.int n 0,.int ep 0]
section
variable {prog:Program} {w:World} {A:Around} {E:Value->Shared->Prop} {s:Shared} {a it:Addr} {o:Obj} {es:Array (Int×Value)} {ep sl i:Nat} {t:SetTable}
theorem j9 {Q:Array (Int×Value)->Shared->Prop} (ho:s.heap.get? a=some o) (hd:o.data=.set es ep t) (hf:t.fits es.size=true) (h:Q es s):wpAny (model prog w) A (setEntries a) Q E s:=by
 unfold setEntries;exact wpAny_bind (wpAny_setState_of ho hd hf (wpAny_pure h))
theorem vo {Q:Value->Shared->Prop} (ho:s.heap.get? a=some o) (hx:o.ExactSet) (hd:o.data=.set es ep t) (hf:t.fits es.size=true) (hp:t.plain=true)
 (hQ:Q (.ref s.heap.objs.size) { s with heap:=s.heap.push { cls:=.type "set_iterator", data:=.fields #[.int 0 0,.int 0 0,.ref a,.int es.size 0,.int ep 0] } }):wpAny (model prog w) A (pyIter (.ref a)) Q E s:=by
 have hT:s.TypeIs (.ref a) "set" := ⟨o,ho,hx.1⟩
 refine wpAny_pyIter_slot hT PySem.F.slot_set_iter (wpAny_call_entry PySem.F.slot_set_iter hT entry_set_iter' ?_ (PySem.F.args_set_iter_1 _));unfold Builtin.«frozenset.__iter__»;refine wpAny_bind (m:=Builtin.Frozenset.slot0 _ _) (wpAny_of_eq (a:=a) rfl ?_);unfold Builtin.Frozenset.sizeOf;refine wpAny_bind (wpAny_bind (j9 ho hd hf (wpAny_pure ?_)));unfold setDrawn;refine wpAny_bind (wpAny_bind (wpAny_setState_of ho hd hf ?_));dsimp only;unfold setsByText;refine wpAny_bind (wpAny_bind (wpAny_askSetting (wpAny_pure (wpAny_pure ?_))));have e:∀ b:Bool,(!b&&(!t.plain&&decide (es.size>1)))=false:=λ b=>by rw [hp];cases b <;> rfl
 show wpAny _ _ (if (!w.params.followText "set-order" && (!t.plain&&decide (es.size>1)))=true then _ else _) _ _ _;rw [if_neg (by rw [e];exact Bool.false_ne_true)];refine wpAny_bind (wpAny_pure ?_);refine wpAny_bind (wpAny_setEpoch_of ho hd hf ?_);exact wpAny_bind (wpAny_newObj_type (wpAny_pure ⟨_,rfl, "set_iterator", _,⟨_,Heap.get?_push_size _ rfl,rfl⟩,dS.lookup,hQ⟩))
theorem pY.typeIs {n:Nat} (x:pY s.heap it a sl i n ep):s.TypeIs (.ref it) "set_iterator" := let ⟨o,ho,hc,_⟩:=x;⟨o,ho,hc⟩
theorem pM {h:Heap} {o':Obj} {vs:Array Value} {k:Nat} {x:Value} (ho:h.get? it=some o') (hd:o'.data=.fields vs) (hc:o'.cls=.type "set_iterator"):
 ∃ o2,(h.update it (Obj.mapFields (·.setIfInBounds k x))).get? it=some o2/\o2.cls=.type "set_iterator" /\ o2.data=.fields (vs.setIfInBounds k x):=
 ⟨_,Heap.get?_update_self _ ho (Obj.isFreed_of_fields (Obj.data_mapFields hd _)),(Obj.cls_mapFields ..).trans hc,Obj.data_mapFields hd _⟩
theorem nA {n:Nat} {Q:Option Value->Shared->Prop} (hh:A.handled=none) (hit:pY s.heap it a sl i es.size ep) (ho:s.heap.get? a=some o) (hd:o.data=.set es ep t) (hf:t.fits es.size=true) {r:Option (Value×Nat)}
 (hn:∀ (A:Around) (E:Value->Shared->Prop) (s:Shared) (Q:Option (Value×Nat)->Shared->Prop),s.heap.get? a=some o->Q r s->wpAny (model prog w) A (setNext a sl i ep) Q E s)
 (hQ:∀ h',(∀ x j,r=some (x,j)->pY h' it a j (i+1) es.size ep)->Heap.ExtBut it s.heap h'->Q (r.map (·.1)) { s with heap:=h' }):wpAny (model prog w) A (pyNext (.ref it)) Q E s:=by
 obtain ⟨oi,hoi,hci,hdi⟩:=id hit;unfold pyNext;refine wpAny_bind (wpAny_attempt (wpAny_callSpecial?_slot (name:=Str.ofString "__next__") hit.typeIs dS
  (wpAny_call_entry dS hit.typeIs jJ ?_ (kU _))))
 unfold Builtin.«set_iterator.__next__»;refine wpAny_bind (m:=slotArgs _ _ _) (wpAny_of_eq (a:=(Value.ref it,[])) rfl ?_);refine wpAny_bind (wpAny_fieldsOf hoi hdi ?_);show wpAny _ _ (setEntries a >>= _) _ _ _;refine wpAny_bind (j9 ho hd hf ?_);rw [if_neg (by simp)];show wpAny _ _ (setNext a (Int.toNat (sl:Int)) (Int.toNat (i:Int)) (Int.toNat (ep:Int)) >>= _) _ _ _;simp only [Int.toNat_natCast];refine wpAny_bind (hn _ _ _ _ ho ?_);cases r with
 | some p=>
  obtain ⟨x,j⟩:=p;dsimp only;refine wpAny_bind (wpAny_setField hoi hdi (by simp) ?_);obtain ⟨o2,g2,c2,d2⟩:=pM (k:=0) (x:=rawInt (j:Int)) hoi hdi hci;refine wpAny_bind (wpAny_setField g2 d2 (by simp) ?_);obtain ⟨o3,g3,c3,d3⟩:=pM (k:=1) (x:=rawInt ((i:Int)+1)) g2 d2 c2;refine wpAny_pure ⟨x,rfl,wpAny_pure (hQ _ (λ x' j' e=>?_) ?_)⟩
  . cases e;exact ⟨o3,g3,c3,by rw [d3];rfl⟩
  . exact ((Heap.SameBut.update ..).trans (Heap.SameBut.update ..)).extBut
 | none=>
  dsimp only;refine wpAny_bind (wpAny_setField hoi hdi (by simp) ?_);show wpAny _ _ (newExc (.type "StopIteration") [] >>= _) _ _ _;refine wpAny_bind ?_;simp only [newExc,newTuple];refine wpAny_bind (wpAny_newObj_type ?_ (by size_fits));refine wpAny_bind (m:=firstArgMember _ _) (wpAny_of_eq (a:=Value.none) (by first | rfl | (simp only [firstArgMember];rfl)) ?_);refine wpAny_newObj_type ?_ (by size_fits);simp only [raiseNew];refine wpAny_bind (wpAny_handled ?_);rw [show A.in1.handled=none from hh];refine wpAny_bind (wpAny_pure (wpAny_throw ?_));refine wpAny_bind (wpAny_isInstance (T := "StopIteration") (b:=true) ⟨_,Heap.get?_push_size _ rfl,rfl⟩ isSubtype_stop ?_);exact wpAny_pure (hQ _ (λ _ _ e=>nomatch e) (((Heap.SameBut.update ..).extBut.push _).push _))
theorem jc:entryFor table "list.extend.loop" = some Builtin.«list.extend.loop»:=entryFor_of_fast (by kernel_rfl)
theorem dW:plainId "list.extend.loop" = true:=by decide +kernel
theorem Fd {n:Nat} (h:n<=9000):n<=sizeLine:=Nat.le_trans h (by decide)
theorem zU {R:Result->Shared->Prop} {I L:Addr} {vs:List Value} {sl:Nat->Nat} (hh:A.handled=none) (hd:o.data=.set es ep t) (hf:t.fits es.size=true) (hv:vs.length<=100) (hIL:I≠L) (haL:a≠L) (haI:a≠I)
 (hn:∀ (i:Nat) (A:Around) (E:Value->Shared->Prop) (s:Shared) (Q:Option (Value×Nat)->Shared->Prop),i<=vs.length->s.heap.get? a=some o->Q (vs[i]?.map λ v=>(v,sl (i+1))) s->wpAny (model prog w) A (setNext a (sl i) i ep) Q E s):
 ∀ (k i:Nat) (s:Shared),vs.length-i=k->i<=vs.length->pY s.heap I a (sl i) i es.size ep->(∃ n,s.heap.get? L=some (seqObj "list" (vs.take i).toArray n))->s.heap.get? a=some o->
  (∀ h',(∃ n,h'.get? L=some (seqObj "list" vs.toArray n))->(∀ b o,b≠I->b≠L->s.heap.get? b=some o->h'.get? b=some o)->R (.ok (.ret (.ref L))) { s with heap:=h' })->
  codeAny (model prog w) A (.builtin "list.extend.loop" ⟨[.ref L,.ref I,.ref L],[]⟩) R s:=by
 intro k;induction k with
 | zero=>
  intro i s hk hi hit hL ho hR;have e0:vs[i]?=none:=List.getElem?_eq_none (by omega);refine codeAny_builtin jc ?_;rw [Around.under_plainId dW _];show wpAny _ A.in1 (pyNext (.ref I) >>= _) _ _ s;refine wpAny_bind (nA (n:=0) (by simp [hh]) hit ho hd hf (hn i · · · · hi) λ h' _ hE=>?_);rw [e0];refine wpAny_pure (hR h' ?_ λ b o h1 h2 g=>hE b o h1 g);obtain ⟨n,g⟩:=hL;rw [List.take_of_length_le (by omega)] at g;exact ⟨n,hE _ _ hIL.symm g⟩
 | succ k ih=>
  intro i s hk hi hit hL ho hR;have hl:i<vs.length:=by omega
  have e0:vs[i]?=some vs[i]:=List.getElem?_eq_getElem hl;refine codeAny_builtin jc ?_;rw [Around.under_plainId dW _];show wpAny _ A.in1 (pyNext (.ref I) >>= _) _ _ s;refine wpAny_bind (nA (n:=0) (by simp [hh]) hit ho hd hf (hn i · · · · hi) λ h' hI hE=>?_);obtain ⟨n,g⟩:=hL;have g':h'.get? L=some (seqObj "list" (vs.take i).toArray n):=hE _ _ hIL.symm g;have hI':=hI vs[i] (sl (i+1)) (by rw [e0];rfl);rw [e0];have z1:(vs.take i).toArray.size<=sizeLine:=Fd (by simp;omega);have z2:((vs.take i).toArray.push vs[i]).size<=sizeLine+1:=Nat.le_succ_of_le (Fd (by simp;omega));refine wpAny_bind (listUpdate_at (f:=(·.push vs[i])) g' rfl ?_ z1 z2);have sb:=Heap.SameBut.update h' L (Obj.mapSeq (·.push vs[i]));have kp:∀ b o,b≠L->h'.get? b=some o->(h'.update L (Obj.mapSeq (·.push vs[i]))).get? b=some o:=λ b o hb e=>by rw [Heap.get?_update_ne _ _ _ _ hb];exact e
  refine wpAny_pure ⟨plainId_quiet dW _,ih (i+1) _ (by omega) hl ?_ ⟨_,by rw [get?_update_seq g'];rw [show (vs.take i).toArray.push vs[i]=(vs.take (i+1)).toArray by rw [List.take_succ_eq_append_getElem hl];simp]⟩ (kp _ _ haL (hE _ _ haI ho)) λ h'' e1 e2=>hR h'' e1 λ b o h1 h2 g3=>e2 b o h1 h2 (kp _ _ h2 (hE b o h1 g3))⟩;obtain ⟨oi,q1,q2⟩:=hI';exact ⟨oi,kp _ _ hIL q1,q2⟩
end
section
variable {prog:Program} {w:World} {A:Around} {E:Value->Shared->Prop} {s:Shared} {a:Addr}
theorem Ai {v:Value} {Q:Bool->Shared->Prop} (hT:s.TypeIs v "set") (h:Q false s):wpAny (model prog w) A (Builtin.List.listLengthHint v) Q E s:=by
 unfold Builtin.List.listLengthHint;refine wpAny_bind (wpAny_specialOf hT PySem.F.slot_set_len.lookup ?_);have e:splitId "set.__len__" = some ("set", "__len__"):=by decide +kernel
 dsimp only;rw [e];dsimp only;refine wpAny_bind (wpAny_isInstance hT sub_set_self ?_);rw [if_neg (by decide),if_pos (by decide +kernel)];refine wpAny_bind (wpAny_typeOf hT ?_);exact wpAny_pure h
theorem sA {vs:List Value} {Q:List Value->Shared->Prop} (hh:A.handled=none) (hS:iC prog w a vs s.heap) (hv:vs.length<=100)
 (h:∀ h',(∀ b o,s.heap.get? b=some o->h'.get? b=some o)->s.heap.objs.size<=h'.objs.size->Q vs { s with heap:=h' }):wpAny (model prog w) A (collect (.ref a)) Q E s:=by
 obtain ⟨o,es,ep,t,sl,ho,hx,hd,hf,hz,hp,h0,hn⟩:=hS;have ha:a<s.heap.objs.size:=Heap.lt_size ho;unfold collect;refine wpAny_bind (wpAny_runValue (codeAny_builtin entry_proto_collect' ?_));show wpAny _ _ (do again (.builtin "list.__iadd__" ⟨[<-newList [],.ref a],[]⟩)) _ _ s;refine wpAny_bind (wpAny_newList (wpAny_pure ⟨Code.quiet_builtin _ (by decide +kernel),codeAny_builtin entry_list_iadd' ?_⟩));show wpAny _ _ (Builtin.List.listExtendWith (.ref s.heap.objs.size) (.ref a) (.ref s.heap.objs.size)) _ _ { s with heap:=s.heap.push (seqObj "list" #[] 0) };unfold Builtin.List.listExtendWith;have ho':(s.heap.push (seqObj "list" #[] 0)).get? a=some o:=Heap.get?_push_of_some _ ho;have hT:Shared.TypeIs { s with heap:=s.heap.push (seqObj "list" #[] 0) } (.ref a) "set" := ⟨o,ho',hx.1⟩
 refine wpAny_bind (wpAny_typeOf hT ?_);have hne:(s.heap.objs.size==a)=false:=beq_eq_false_iff_ne.mpr (Nat.ne_of_gt ha);have hs:(Builtin.List.listSameRef (.ref s.heap.objs.size) (.ref a)||Value.type "set" == Value.type "list" || Value.type "set" == Value.type "tuple")=false:=by
  show ((s.heap.objs.size==a)||_||_)=false;rw [hne];decide
 rw [if_neg (by rw [hs];exact Bool.false_ne_true)];refine wpAny_bind (vo ho' hx hd hf hp ?_);have hT2:Shared.TypeIs { s with heap:=(s.heap.push (seqObj "list" #[] 0)).push { cls:=.type "set_iterator", data:=.fields #[.int 0 0,.int 0 0,.ref a,.int es.size 0,.int ep 0] } } (.ref a) "set" := ⟨o,Heap.get?_push_of_some _ ho',hx.1⟩
 refine wpAny_bind (wpAny_holding (Ai hT2 ?_));rw [if_pos (by decide +kernel)];refine wpAny_bind (wpAny_rule ?_);have hI0:(s.heap.push (seqObj "list" #[] 0)).objs.size=s.heap.objs.size+1:=size_push' _ _;have gL:((s.heap.push (seqObj "list" #[] 0)).push { cls:=.type "set_iterator", data:=.fields #[.int 0 0,.int 0 0,.ref a,.int es.size 0,.int ep 0] }).get? s.heap.objs.size=some (seqObj "list" #[] 0):=Heap.get?_push_of_some _ (Heap.get?_push_size _ rfl);have gI:pY ((s.heap.push (seqObj "list" #[] 0)).push { cls:=.type "set_iterator", data:=.fields #[.int 0 0,.int 0 0,.ref a,.int es.size 0,.int ep 0] }) (s.heap.push (seqObj "list" #[] 0)).objs.size a 0 0 es.size ep:=⟨_,Heap.get?_push_size _ rfl,rfl,rfl⟩
 have ga:=Heap.get?_push_of_some { cls:=.type "set_iterator", data:=.fields #[.int 0 0,.int 0 0,.ref a,.int es.size 0,.int ep 0] } ho';have kp:∀ b o,s.heap.get? b=some o->((s.heap.push (seqObj "list" #[] 0)).push { cls:=.type "set_iterator", data:=.fields #[.int 0 0,.int 0 0,.ref a,.int es.size 0,.int ep 0] }).get? b=some o:=λ b o e=>Heap.get?_push_of_some _ (Heap.get?_push_of_some _ e);generalize hH:(s.heap.push (seqObj "list" #[] 0)).push { cls:=.type "set_iterator", data:=.fields #[.int 0 0,.int 0 0,.ref a,.int es.size 0,.int ep 0] }=H2 at gL gI ga kp ⊢;rw [hI0] at gI ⊢;have up:∀ {H:Heap} {f:Array Value->Array Value} {b:Addr} {o:Obj},b≠s.heap.objs.size->H.get? b=some o->(H.update s.heap.objs.size (Obj.mapSeq f)).get? b=some o:=λ hb e=>by rw [Heap.get?_update_ne _ _ _ _ hb];exact e
 unfold Builtin.List.listTouch;refine wpAny_bind (wpAny_bind (listUpdate_at gL rfl ?_ (Fd (by decide)) (Nat.le_succ_of_le (Fd (by decide)))));have gL2:=get?_update_seq gL (·.push .none);refine listUpdate_at gL2 rfl ?_ (Fd (by decide)) (Nat.le_succ_of_le (Fd (by decide)));have gL3:=get?_update_seq gL2 (·.pop);have hI:s.heap.objs.size+1≠s.heap.objs.size:=Nat.succ_ne_self _;have ha1:a≠s.heap.objs.size:=Nat.ne_of_lt ha;have ha2:a≠s.heap.objs.size+1:=Nat.ne_of_lt (Nat.lt_succ_of_lt ha);refine wpAny_pure ⟨plainId_quiet dW _,zU (by simp [hh]) hd hf hv hI ha1 ha2 hn _ 0 _ rfl (Nat.zero_le _) (by rw [h0];obtain ⟨oi,q1,q2⟩:=gI;exact ⟨oi,up hI (up hI q1),q2⟩) ⟨_,gL3⟩ (up ha1 (up ha1 ga)) λ h' hL hk=>?_⟩;obtain ⟨n,hL⟩:=hL;show wpAny (model prog w) A (do
  let o <-load s.heap.objs.size
  match o.data with
  | .seq xs _=>pure xs.toList
  | _=>unsupported "internal:collect") Q E { s with heap:=h' }
 refine wpAny_bind (wpAny_load hL ?_);show wpAny _ _ (pure vs.toArray.toList) Q E _;rw [List.toList_toArray];refine wpAny_pure (h h' (λ b o e=>?_) (Nat.le_of_lt (Heap.lt_size hL)));have hb:=Heap.lt_size e;exact hk b o (Nat.ne_of_lt (Nat.lt_succ_of_lt hb)) (Nat.ne_of_lt hb) (up (Nat.ne_of_lt hb) (up (Nat.ne_of_lt hb) (kp b o e)))
theorem ui {vs:List Value} {ns:List Int} {Q:Value->Shared->Prop} (hh:A.handled=none) (hS:iC prog w a vs s.heap) (hI:IntsAre vs ns) (hv:vs.length<64)
 (h:∀ (h':Heap) (p n:Nat) (out:Array Value) (ns':List Int),IntsAre out.toList ns'->ns'.Perm ns->ns'.Pairwise (·<=·)->(∀ b o,s.heap.get? b=some o->h'.get? b=some o)->s.heap.objs.size<=p->h'.get? p=some (seqObj "list" out n)->Q (.ref p) { s with heap:=h' }):
 wpAny (model prog w) A (call (.builtin "sorted") [.ref a]) Q E s:=by
 refine Calls.call_function_entry kind_sorted plain_sorted entry_sorted (args_sorted1 _) ?_;unfold Builtin.«sorted»;refine wpAny_bind (m:=checkCount "sorted" 1 1 _) (wpAny_pure ?_);refine wpAny_bind (sA (by simp [hh]) hS (by omega) λ h1 k1 z1=>?_);refine wpAny_bind (wpAny_newList ?_);have hoL:(h1.push (seqObj "list" vs.toArray 0)).get? h1.objs.size=some (seqObj "list" vs.toArray 0):=Heap.get?_push_size _ rfl;refine wpAny_bind (wpAny_holding (wpAny_call_entry slot_list_sort ⟨_,hoL,rfl⟩ entry_list_sort (list_sort_tree hoL hI hv λ out ns' a1 a2 a3=>⟨_,rfl,?_⟩) (args_list_sort _)));obtain ⟨e,he⟩:=sortedHeap_at (out:=out) hoL;exact wpAny_pure ⟨_,rfl,h _ h1.objs.size e out ns' a1 a2 a3 (λ b o g=>by
  have g1:=k1 b o g;rw [sortedHeap_old (Nat.ne_of_lt (Heap.lt_size g1)) (by rw [size_push'];exact Nat.lt_succ_of_lt (Heap.lt_size g1))];exact Heap.get?_push_of_some _ g1) z1 he⟩
end
section
variable {prog:Program} {w:World} {A:Around} {E:Value->Shared->Prop} {s:Shared} {a:Addr}
theorem uo {o:Obj} {es es1:Array (Int×Value)} {ep:Nat} {t t1:SetTable} {k:Int} {x:Value} {Q:Bool->Shared->Prop} (hkey:(intKind prog w).is k x=true) (hsc:x.scannable=true) (hpk:plainKind x=true)
 (ho:s.heap.get? a=some o) (hd:o.data=.set es ep t) (hf:t.fits es.size=true) (hel:ElemsOf (intKind prog w) es.toList) (hb:es.size<scanBound) (hb1:es1.size<scanBound)
 (hL:layNew t es ((intKind prog w).hash k) x=(es1,t1,false,false)) (hp:t1.plain=true) (hf1:t1.tooFull=false)
 (h1:∀ e∈es.toList,(intKind prog w).is k e.2=true->Q false s) (h2:(∀ e∈es.toList,(intKind prog w).is k e.2=false)->Q true { s with heap:=s.heap.update a (Obj.putSet es1 t1) }):
 wpAny (model prog w) A (setAddHashed a x ((intKind prog w).hash k)) Q E s:=by
 unfold setAddHashed setAddHashedIn;refine wpAny_holding (wpAny_bind (wpAny_setState_of ho hd hf ?_));dsimp only;rw [byScan_of hsc hb hel,if_pos rfl];unfold setAddByScan;refine wpAny_bind (wpAny_bind (wpAny_rule (wpAny_bind (wpAny_setScan_of hkey ho hd hf hel ?_))));cases hr:List.findIdx? (λ e=>(intKind prog w).is k e.2) es.toList with
 | some j=>
  dsimp only;obtain ⟨hj,hpj,_⟩:=List.findIdx?_eq_some_iff_getElem.mp hr;exact wpAny_pure (wpAny_pure (h1 _ (List.getElem_mem hj) hpj))
 | none=>
  dsimp only;have hn:=List.findIdx?_eq_none_iff.mp hr;rw [hL];dsimp only;refine wpAny_bind (wpAny_pure ?_);rw [if_pos hp];refine wpAny_bind ?_;rw [hashByValue_scannable 8 hsc];refine wpAny_pure ?_;simp only [hpk,if_true,hf1,Bool.and_false,Bool.false_eq_true,if_false];refine wpAny_bind (wpAny_storeSet_of ho hd ?_ (fits_of_scanBound hb1));exact wpAny_pure (wpAny_pure (h2 hn))
theorem yF (x:Value) {Q:Value->Shared->Prop} (h:Q (.ref s.heap.objs.size) { s with heap:=s.heap.push { cls:=.type "set", dict:=none,data:=.set #[] 0 (.fresh 0 0 (!w.params.followText "set-order")) } }):
 codeAny (model prog w) A (.call (.builtin "set.__new__") ⟨[.type "set", x],[]⟩) (wants Q E) s:=by
 refine codeAny_of_tree ?_;show wpAny _ A.in1 (checkBuiltinCall "set.__new__" ⟨[.type "set", x],[]⟩ >>= λ _=>again (.builtin "set.__new__" ⟨[.type "set", x],[]⟩)) _ _ s;refine wpAny_bind (wpAny_of_eq (PySem.F.newCall_set_1 x) (wpAny_pure ⟨plainId_quiet PySem.F.plain_set_new _,codeAny_builtin PySem.F.entry_set_new ?_⟩));rw [Around.under_plainId PySem.F.plain_set_new _];unfold Builtin.«set.__new__» Builtin.Frozenset.newClass;have hsub:=sub_set_self;obtain ⟨hp,g,d,tk,os⟩:=s;dsimp only
 wp_walk
 refine wpAny_askSetting (wpAny_pure ?_);dsimp only;simp only [newObj];refine wpAny_bind (wpAny_alloc (wpAny_pure (wpAny_pure ?_)));exact h
end
section
variable {prog:Program} {w:World} {A:Around} {E:Value->Shared->Prop} {s:Shared} {S I l:Addr}
theorem nO {R:Result->Shared->Prop} {items:Array Value} {o:Obj} {es es1:Array (Int×Value)} {ep n:Nat} {t t1:SetTable} {k:Int} {tk:Tok} (hSI:S≠I)
 (hit:s.heap.IsListIter I l n) (hl:s.heap.IsList l items) (hx:items[n]?=some (.int k tk))
 (ho:s.heap.get? S=some o) (hd:o.data=.set es ep t) (hf:t.fits es.size=true) (hel:ElemsOf (intKind prog w) es.toList) (hb:es.size<scanBound) (hb1:es1.size<scanBound)
 (hL:layNew t es ((intKind prog w).hash k) (.int k tk)=(es1,t1,false,false)) (hp:t1.plain=true) (hf1:t1.tooFull=false)
 (h1:(∃ e∈es.toList,(intKind prog w).is k e.2=true)->∀ h' u,h'.IsListIter I l (n+1)->Heap.SameBut I s.heap h'->codeAny (model prog w) A (.builtin "set.update.loop" ⟨[.ref S,.ref I],[]⟩) R { s with heap:=h',toks:=u })
 (h2:(∀ e∈es.toList,(intKind prog w).is k e.2=false)->∀ h' u,h'.IsListIter I l (n+1)->Heap.SameBut I s.heap h'->codeAny (model prog w) A (.builtin "set.update.loop" ⟨[.ref S,.ref I],[]⟩) R { s with heap:=h'.update S (Obj.putSet es1 t1),toks:=u }):
 codeAny (model prog w) A (.builtin "set.update.loop" ⟨[.ref S,.ref I],[]⟩) R s:=by
 refine codeAny_builtin PyProof.Rows.F.entry_set_update_loop ?_;rw [Around.under_plainId PyProof.Rows.F.plain_set_update_loop _];show wpAny _ A.in1 (pyNext (.ref I) >>= _) _ _ s;refine wpAny_bind (wpAny_pyNext_list_item hit hl hx λ h' hit' hsb=>?_);show wpAny _ A.in1 (holding [Value.int k tk] (setAdd S (.int k tk)) >>= _) _ _ _;refine wpAny_bind (wpAny_holding ?_);unfold setAdd;refine wpAny_holding (wpAny_bind ((intKind prog w).pyHash (k:=k) (intKind_is _ _ _ _) ?_));have go:h'.get? S=some o:=by rw [hsb.2 S hSI];exact ho
 refine uo (intKind_is _ _ _ _) rfl rfl go hd hf hel hb hb1 hL hp hf1 (λ e he hk=>?_) (λ hk=>?_)
 . exact wpAny_pure ⟨plainId_quiet PyProof.Rows.F.plain_set_update_loop _,h1 ⟨e,he,hk⟩ _ _ hit' hsb⟩
 . exact wpAny_pure ⟨plainId_quiet PyProof.Rows.F.plain_set_update_loop _,h2 hk _ _ hit' hsb⟩
theorem wk {R:Result->Shared->Prop} {items:Array Value} {n:Nat} (hh:A.handled=none) (hit:s.heap.IsListIter I l n) (hl:s.heap.IsList l items) (hx:items[n]?=none)
 (h:∀ h',Heap.ExtBut I s.heap h'->R (.ok (.ret .none)) { s with heap:=h' }):codeAny (model prog w) A (.builtin "set.update.loop" ⟨[.ref S,.ref I],[]⟩) R s:=by
 refine codeAny_builtin PyProof.Rows.F.entry_set_update_loop ?_;rw [Around.under_plainId PyProof.Rows.F.plain_set_update_loop _];show wpAny _ A.in1 (pyNext (.ref I) >>= _) _ _ s;refine wpAny_bind (wpAny_pyNext_list_end (by simp [hh]) hit hl hx λ h' he=>?_);exact wpAny_pure (h h' he)
theorem wr {h:Heap} {o:Obj} {es es1:Array (Int×Value)} {ep:Nat} {t t1:SetTable} (ho:h.get? S=some o) (hx:o.ExactSet) (hd:o.data=.set es ep t):
 ∃ o1,(h.update S (Obj.putSet es1 t1)).get? S=some o1/\o1.ExactSet/\o1.data=.set es1 (ep+1) t1:=by
 have:=Heap.get?_update_self (Obj.putSet es1 t1) ho (by rw [putSet_of es1 t1 hd];rfl);rw [putSet_of es1 t1 hd] at this;exact ⟨_,this,hx,rfl⟩
theorem pd {h1 i:Int} {x:Value} (e:h1=(intKind prog w).hash i) (k:(intKind prog w).is i x=true) (z:x.scannable=true):ElemsOf (intKind prog w) #[(h1,x)].toList:=λ p hp=>by
 rcases List.mem_singleton.mp hp with rfl;exact ⟨⟨i,k,e⟩,z⟩
theorem Co {R:Result->Shared->Prop} {i j:Int} {ti tj:Tok} {o:Obj} {ep:Nat} (hh:A.handled=none) (hSI:S≠I) (hlI:l≠I) (hlS:l≠S)
 (hit:s.heap.IsListIter I l 0) (hl:s.heap.IsList l #[.int i ti,.int j tj]) (ho:s.heap.get? S=some o) (hx:o.ExactSet) (hd:o.data=.set #[] ep (.fresh 0 0 (!w.params.followText "set-order")))
 (h:∀ h' u vs ns,iC prog w S vs h'->IntsAre vs ns->ns.Perm (if i=j then [i] else [i,j])->(∀ b o,b≠S->b≠I->s.heap.get? b=some o->h'.get? b=some o)->R (.ok (.ret .none)) { s with heap:=h',toks:=u }):
 codeAny (model prog w) A (.builtin "set.update.loop" ⟨[.ref S,.ref I],[]⟩) R s:=by
 have up:∀ {H:Heap} {f:Obj->Obj} {b:Addr} {o:Obj},b≠S->H.get? b=some o->(H.update S f).get? b=some o:=λ hb e=>by rw [Heap.get?_update_ne _ _ _ _ hb];exact e
 refine nO (es1:=#[((intKind prog w).hash i,.int i ti)]) (t1:=tb (!w.params.followText "set-order") #[SetTable.bits ((intKind prog w).hash i)%8]) hSI hit hl rfl ho hd rfl (λ _ he=>nomatch he) (show 0<scanBound by decide) (show 1<scanBound by decide) (y3 _ _ _) rfl rfl (λ ⟨_,he,_⟩=>nomatch he) λ _ h1 u1 it1 sb1=>?_;have l1:h1.IsList l #[.int i ti,.int j tj]:=hl.extBut sb1.extBut hlI;obtain ⟨o1,g1,x1,d1⟩:=wr (es1:=#[((intKind prog w).hash i,.int i ti)]) (t1:=tb (!w.params.followText "set-order") #[SetTable.bits ((intKind prog w).hash i)%8]) (show h1.get? S=some o by rw [sb1.2 S hSI];exact ho) hx hd;have it2:(h1.update S (Obj.putSet #[((intKind prog w).hash i,.int i ti)] (tb (!w.params.followText "set-order") #[SetTable.bits ((intKind prog w).hash i)%8]))).IsListIter I l 1:=by
  obtain ⟨oi,q1,q2⟩:=it1;exact ⟨oi,up hSI.symm q1,q2⟩
 have l2:(h1.update S (Obj.putSet #[((intKind prog w).hash i,.int i ti)] (tb (!w.params.followText "set-order") #[SetTable.bits ((intKind prog w).hash i)%8]))).IsList l #[.int i ti,.int j tj]:=by
  obtain ⟨oi,q1,q2⟩:=l1;exact ⟨oi,up hlS q1,q2⟩
 have k1:∀ b o,b≠S->b≠I->s.heap.get? b=some o->(h1.update S (Obj.putSet #[((intKind prog w).hash i,.int i ti)] (tb (!w.params.followText "set-order") #[SetTable.bits ((intKind prog w).hash i)%8]))).get? b=some o:=λ b o hb hb' e=>up hb (by rw [sb1.2 b hb'];exact e);generalize h1.update S (Obj.putSet #[((intKind prog w).hash i,.int i ti)] (tb (!w.params.followText "set-order") #[SetTable.bits ((intKind prog w).hash i)%8]))=H1 at g1 it2 l2 k1 ⊢;obtain ⟨q,hlay⟩:=BX (led:=!w.params.followText "set-order") (p:=SetTable.bits ((intKind prog w).hash i)%8) (h:=(intKind prog w).hash j) (h1:=(intKind prog w).hash i) (x:=.int j tj) (x1:=.int i ti) (Nat.mod_lt _ (by decide));have dup:∀ (es1:Array (Int×Value)) (t1:SetTable),(∃ e∈#[((intKind prog w).hash i,Value.int i ti)].toList,(intKind prog w).is j e.2=true)->∀ h' u,h'.IsListIter I l 2->Heap.SameBut I H1 h'->
  codeAny (model prog w) A (.builtin "set.update.loop" ⟨[.ref S,.ref I],[]⟩) R { s with heap:=h',toks:=u }:=λ es1 t1 ⟨e,he,hk⟩ h' u it' sb'=>by
  rcases List.mem_singleton.mp he with rfl;have eij:j=i:=(intKind prog w).inj (.int i ti) j i hk (intKind_is _ _ _ _);refine wk hh it' (l2.extBut sb'.extBut hlI) rfl λ h2 e2=>?_;refine h h2 u [.int i ti] [i] (xL rfl (e2 _ _ hSI (by rw [sb'.2 S hSI];exact g1)) x1 d1) (.cons i ti .nil) (by rw [if_pos eij.symm]) λ b o hb hb' g=>e2 b o hb' (by rw [sb'.2 b hb'];exact k1 b o hb hb' g)
 have new:∀ {es1:Array (Int×Value)} {t1:SetTable} {a b:Int×Value} {p r:Nat},es1 = #[a,b]->t1=tb (!w.params.followText "set-order") #[p,r]->p<r->(a.2=.int i ti/\b.2=.int j tj∨a.2=.int j tj/\b.2=.int i ti)->
  (∀ e∈#[((intKind prog w).hash i,Value.int i ti)].toList,(intKind prog w).is j e.2=false)->∀ h' u,h'.IsListIter I l 2->Heap.SameBut I H1 h'->
  codeAny (model prog w) A (.builtin "set.update.loop" ⟨[.ref S,.ref I],[]⟩) R { s with heap:=h'.update S (Obj.putSet es1 t1),toks:=u }:=λ {es1 t1 a b p r} e1 e2 hpr hab hk h' u it' sb'=>by
  have nij:¬ i=j:=λ z=>by
   have:=hk _ (List.mem_singleton.mpr rfl);subst z;rw [intKind_is] at this;exact Bool.noConfusion this
  obtain ⟨o2,g2,x2,d2⟩:=wr (es1:=es1) (t1:=t1) (show h'.get? S=some o1 by rw [sb'.2 S hSI];exact g1) x1 d1;refine wk (n:=2) hh (by obtain ⟨oi,q1,q2⟩:=it';exact ⟨oi,up hSI.symm q1,q2⟩) (by obtain ⟨oi,q1,q2⟩:=l2.extBut sb'.extBut hlI;exact ⟨oi,up hlS q1,q2⟩) rfl λ h2 ex=>?_;subst e1 e2;have kp:∀ b o,b≠S->b≠I->s.heap.get? b=some o->h2.get? b=some o:=λ b o hb hb' g=>ex b o hb' (up hb (by rw [sb'.2 b hb'];exact k1 b o hb hb' g));have IA:∀ {x y:Value},(x=.int i ti/\y=.int j tj∨x=.int j tj/\y=.int i ti)->∃ ns,IntsAre [x,y] ns/\ns.Perm (if i=j then [i] else [i,j]):=λ hxy=>by
   rw [if_neg nij];rcases hxy with ⟨rfl,rfl⟩ | ⟨rfl,rfl⟩
   . exact ⟨[i,j],.cons i ti (.cons j tj .nil),.refl _⟩
   . exact ⟨[j,i],.cons j tj (.cons i ti .nil),.swap ..⟩
  rcases xY (prog:=prog) (x:=a.2) (y:=b.2) rfl (ex _ _ hSI g2) x2 d2 hpr with z | z
  . obtain ⟨ns,i1,i2⟩:=IA hab;exact h h2 u _ ns z i1 i2 kp
  . obtain ⟨ns,i1,i2⟩:=IA (x:=b.2) (y:=a.2) (by rcases hab with ⟨e1,e2⟩ | ⟨e1,e2⟩;exact .inr ⟨e2,e1⟩;exact .inl ⟨e2,e1⟩);exact h h2 u _ ns z i1 i2 kp
 rcases hlay with ⟨e,hpq⟩ | ⟨e,hpq⟩
 . exact nO hSI it2 l2 rfl g1 d1 rfl (pd rfl (intKind_is _ _ _ _) rfl) (show 1<scanBound by decide) (by show 2<scanBound;decide) e rfl rfl (dup #[] default) (new rfl rfl hpq (.inl ⟨rfl,rfl⟩))
 . exact nO hSI it2 l2 rfl g1 d1 rfl (pd rfl (intKind_is _ _ _ _) rfl) (show 1<scanBound by decide) (by show 2<scanBound;decide) e rfl rfl (dup #[] default) (new rfl rfl hpq (.inr ⟨rfl,rfl⟩))
set_option maxHeartbeats 3200000 in
theorem xS {i j:Int} {ti tj:Tok} {Q:Value->Shared->Prop} (hh:A.handled=none) (hl:s.heap.IsList l #[.int i ti,.int j tj])
 (h:∀ (h':Heap) (u:Nat) (vs:List Value) (ns:List Int),iC prog w s.heap.objs.size vs h'->IntsAre vs ns->ns.Perm (if i=j then [i] else [i,j])->
  (∀ b o,s.heap.get? b=some o->h'.get? b=some o)->Q (.ref s.heap.objs.size) { s with heap:=h',toks:=u }):
 wpAny (model prog w) A (call (.type "set") [.ref l]) Q E s:=by
 obtain ⟨c,tl,hmro⟩:=PySem.F.called_set.mro;have hmade:=PySem.F.called_set.made;have hsub:=PySem.F.called_set.sub;refine wpAny_call (codeAny_of_tree ?_);show wpAny _ _ (callAny (.type "set") _) _ _ _;refine wpAny_pure ⟨Code.quiet_builtin _ (by decide +kernel),codeAny_builtin PySem.F.entry_type_call ?_⟩;rw [Around.under_plain (weight_type_call_type "set" [.ref l] []) rfl];have h1:=PySem.F.called_set.notType;have h2:=PySem.F.called_set.canCreate;have hct:=PySem.F.typeCall_set_1 (.ref l);repeat (any_goals (first | assumption | wp_step))
 refine codeAny_mono (yF (.ref l) (E:=E) (Q:=λ obj s₁=>obj=.ref s.heap.objs.size/\s₁={ s with heap:=s.heap.push { cls:=.type "set", dict:=none,data:=.set #[] 0 (.fresh 0 0 (!w.params.followText "set-order")) } }) ⟨rfl,rfl⟩) λ r s₁ hr=>?_;cases r with
 | error e=>exact hr
 | ok fl=>
  cases fl with
  | ret obj=>
   obtain ⟨rfl,rfl⟩:=hr;have hS:(s.heap.push { cls:=.type "set", dict:=none,data:=.set #[] 0 (.fresh 0 0 (!w.params.followText "set-order")) }).get? s.heap.objs.size=some { cls:=.type "set", dict:=none,data:=.set #[] 0 (.fresh 0 0 (!w.params.followText "set-order")) }:=Heap.get?_push_size _ rfl;have hT:Shared.TypeIs { s with heap:=s.heap.push { cls:=.type "set", dict:=none,data:=.set #[] 0 (.fresh 0 0 (!w.params.followText "set-order")) } } (.ref s.heap.objs.size) "set" := ⟨_,hS,rfl⟩
   have hli:=PySem.F.called_set.init.lookup;have hbi:=PySem.F.called_set.init.bind (.ref s.heap.objs.size);repeat (any_goals (first | assumption | wp_step))
   refine codeAny_mono (codeAny_call_builtin (R:=wants (λ r s₂=>r=.none/\∃ h' u vs ns,s₂={ s with heap:=h',toks:=u }/\iC prog w s.heap.objs.size vs h'/\IntsAre vs ns/\ns.Perm (if i=j then [i] else [i,j])/\
    (∀ b o,s.heap.get? b=some o->h'.get? b=some o)) E) PySem.F.called_set.init.plain PySem.F.entry_set_init (check_set_init_1 hT ?_)) λ r₂ s₂ hr₂=>?_
   . obtain ⟨ol,hol,hcl,nl,hdl⟩:=hl;obtain ⟨ocls,odict,odata,oslots⟩:=ol;simp only at hcl hdl;subst hcl hdl;have hol':=Heap.get?_push_of_some { cls:=.type "set", dict:=none,data:=.set #[] 0 (.fresh 0 0 (!w.params.followText "set-order")) } hol;have hsls:=PySem.F.sub_list_set;have hslf:=PySem.F.sub_list_frozenset;have hne:(Value.type "list" == Value.type "dict")=false:=by decide
     have hl1:(s.heap.push { cls:=.type "set", dict:=none,data:=.set #[] 0 (.fresh 0 0 (!w.params.followText "set-order")) }).IsList l #[.int i ti,.int j tj]:=⟨_,hol',rfl,nl,rfl⟩
     unfold Builtin.«set.__init__» noKeywords Builtin.Frozenset.updateFrom;generalize hPI:pyIter=PI
     wp_walk
     subst hPI;refine wpAny_pyIter_list hl1 (wpAny_bind (wpAny_runValue ?_));have hlS:l<s.heap.objs.size:=Heap.lt_size hol;rw [Heap.size_push];refine Co (o:={ cls:=.type "set", dict:=none,data:=.set #[] 0 (.fresh 0 0 (!w.params.followText "set-order")) }) (i:=i) (j:=j) (ti:=ti) (tj:=tj) (l:=l) (by simp [hh]) (Nat.ne_of_lt (Nat.lt_succ_self _)) (Nat.ne_of_lt (Nat.lt_succ_of_lt hlS)) (Nat.ne_of_lt hlS) ?_ (hl1.push _) (Heap.get?_push_of_some _ hS) ⟨rfl,rfl,rfl⟩ rfl λ h' u vs ns z1 z2 z3 z4=>?_
     . exact ⟨_,by rw [<-Heap.size_push];exact Heap.get?_push_size _ rfl,rfl,rfl⟩
     . refine wpAny_pure ?_;show wpAny _ _ (ret Value.none) _ _ _;refine wpAny_pure ⟨rfl,h',u,vs,ns,rfl,z1,z2,z3,λ b o e=>?_⟩;have hb:=Heap.lt_size e;exact z4 b o (Nat.ne_of_lt hb) (Nat.ne_of_lt (Nat.lt_succ_of_lt hb)) (Heap.get?_push_of_some _ (Heap.get?_push_of_some _ e))
   . cases r₂ with
     | error e=>exact hr₂
     | ok fl₂=>
      cases fl₂ with
      | ret r=>
       obtain ⟨rfl,h',u,vs,ns,rfl,z1,z2,z3,z4⟩:=hr₂;repeat (any_goals (first | assumption | wp_step))
       exact h _ _ _ _ z1 z2 z3 z4
      | _=>exact hr₂.elim
  | _=>exact hr.elim
end
noncomputable def uq (i j:Int):List Int:=if i<j then [i,j] else if j<i then [j,i] else [i]
theorem Gb {i j:Int} {ns:List Int} (h:ns.Perm (if i=j then [i] else [i,j])) (hs:ns.Pairwise (·<=·)):ns=uq i j:=by
 unfold uq;by_cases e:i=j
 . subst e;rw [if_pos rfl] at h;rw [if_neg (by omega),if_neg (by omega)];exact List.perm_singleton.mp h
 . rw [if_neg e] at h;have hl:=h.length_eq
   match ns,hl with
   | [x,y],_=>
    have hi:i∈[x,y]:=h.mem_iff.mpr (.head _);have hj:j∈[x,y]:=h.mem_iff.mpr (.tail _ (.head _));have hxy:x<=y:=(List.pairwise_cons.mp hs).1 y (.head _);simp only [List.mem_cons,List.not_mem_nil,or_false] at hi hj;rcases hi with rfl | rfl <;> rcases hj with rfl | rfl
    . exact absurd rfl e
    . rw [if_pos (by omega)]
    . rw [if_neg (by omega),if_pos (by omega)]
    . exact absurd rfl e
theorem boot_set':bootBuiltins "set" = some (.type "set"):=by decide +kernel
theorem boot_sorted':bootBuiltins "sorted" = some (.builtin "sorted"):=by decide +kernel
noncomputable def uz (P:Program) (w:World) (l:Addr) (i j:Int):Heap->Prop:=λ h=>∃ vs ns,iC P w l vs h/\IntsAre vs ns/\ns.Perm (if i=j then [i] else [i,j])
noncomputable def yB (P:Program) (w:World) (K:Frag):List V->Hp->VK->Prop:=λ xs H Q=>∃ a i j,xs=[.ref a]/\cR K H a [.int i,.int j]/\∀ l,H l=none->Q (.ref l) (cn H l (.ext (uz P w l i j)))
noncomputable def uG (P:Program) (w:World):List V->Hp->VK->Prop:=λ xs H Q=>∃ a i j,xs=[.ref a]/\H a=some (.ext (uz P w a i j))/\∀ l,H l=none->Q (.ref l) (cn H l (.lst ((uq i j).map V.int)))
theorem yP {vs:List Value} {ns:List Int} (h:IntsAre vs ns):vs.length=ns.length:=by
 induction h with
 | nil=>rfl
 | cons n t _ ih=>exact congrArg (· + 1) ih
theorem xA {vs:List Value} {ns:List Int} (h:IntsAre vs ns):ba (ns.map V.int) vs:=by
 induction h with
 | nil=>exact .nil
 | cons n t _ ih=>exact .cons ⟨t,rfl⟩ ih
section
variable {X:Cx} {K:Frag} {P:Program} {w:World}
theorem xO (hP:X.prog=P) (hw:X.w=w) (hK:X.K=K) (hc:X.calm=true):cm X (.type "set") (yB P w K):=by
 subst hP hw hK;intro pins s σ H xs us Q I r h;obtain ⟨a,i,j,rfl,hq,q⟩:=h;obtain ⟨u,rfl,ru⟩:=mz r;cases ru;obtain ⟨its,rv,pl,_⟩:=I.list hq;obtain ⟨ti,tj,rfl⟩:∃ ti tj,its=[.int i ti,.int j tj]:=by
  obtain ⟨x,y,rfl,⟨ti,rfl⟩,⟨tj,rfl⟩⟩:=GP rv;exact ⟨ti,tj,rfl⟩
 refine xS (show X.A.handled=none from I.ok.hd hc) pl.isList λ h' u vs ns z1 z2 z3 kp=>?_;have ho:∃ o,h'.get? s.heap.objs.size=some o:=by obtain ⟨o,_,_,_,_,e,_⟩:=z1;exact ⟨o,e⟩
 exact ⟨.ref s.heap.objs.size,_,I.laid (t':=u) kp (Nat.le_refl _) (show cQ X.prog X.w _ h' _ (.ext (uz X.prog X.w s.heap.objs.size i j)) from ⟨⟨vs,ns,z1,z2,z3⟩,ho,λ h1 h2 ⟨vs,ns,z,y⟩ k=>⟨vs,ns,z.keep k,y⟩⟩),rfl,q _ (I.hok.fresh (Nat.le_refl _))⟩
theorem vh (hP:X.prog=P) (hw:X.w=w) (hc:X.calm=true):cm X (.builtin "sorted") (uG P w):=by
 subst hP hw;intro pins s σ H xs us Q I r h;obtain ⟨a,i,j,rfl,hq,q⟩:=h;obtain ⟨u,rfl,ru⟩:=mz r;cases ru;obtain ⟨⟨vs,ns,z1,z2,z3⟩,_⟩:=I.hok a _ hq;have hl:ns.length<=2:=by rw [z3.length_eq];split <;> simp
 have hl2:=yP z2;refine ui (show X.A.handled=none from I.ok.hd hc) z1 z2 (by omega) λ h' p n out ns' a1 a2 a3 kp hp g=>?_;have e:=Gb (a2.trans z3) a3;subst e;refine ⟨.ref p,_,I.laid (t':=s.toks) kp hp (show cQ X.prog X.w _ h' _ (.lst ((uq i j).map V.int)) from ⟨Fd ?_,out.toList,n,xA a1,by simpa using g⟩),rfl,q _ (I.hok.fresh hp)⟩;rw [List.length_map,(a2.trans z3).length_eq];split <;> simp
theorem Kz (hP:X.prog=P) (hw:X.w=w) (hc:X.calm=true):QB X "sorted" (uG P w):=⟨_,vh hP hw hc,boot_sorted'⟩
theorem Ji {e:Expr} {es:List Expr} {t:TA} {p pos:Pos} (hP:X.prog=P) (hw:X.w=w) (h:X.K=K) (hc:X.calm=true) (hg:Gl X "set") (hm:X.mg "set" = none) (ha:PA X (e::es) t)
 (he:starEach (e::es) X.env=(false,eval e X.env)::starEach es X.env) (hp:(backTo pos (starEach es X.env)).any (·.1)=false):PE X (.Call (.Name "set" p) (e::es) [] pos) (v6 (yB P w K) t):=pS (xO hP hw h hc) hg hm boot_set' ha (by decide) (by decide) he hp
end
noncomputable def Lp:W->Option (List W)
 | .list [.int i,.int j]=>some ((uq i j).map W.int)
 | _=>none
noncomputable def K7 (f:DS->Option W):DS->Option (List W):=λ δ=>(f δ).bind Lp
theorem IR {K:Frag} {ρ:List Addr} {P:Program} {w:World} {t:TE} {f:DS->Option W} (h:DK K ρ t f):DO K ρ (v6 (uG P w) (eC (v6 (yB P w K) (eC t iH)) iH)) (K7 f):=λ G σ H δ ds Q R e q=>by
 obtain ⟨x,ex,e⟩:=oB e
 refine h G σ H δ x _ R ex λ v G1 H1 g1 dv=>?_;unfold Lp at e;split at e
 . rename_i i j;cases e;obtain ⟨p,vs,rfl,sq,da⟩:=ja g1.s dv;obtain rfl:vs=[V.int i,V.int j]:=by
    cases da with
    | cons h1 r1=>
     cases h1;cases r1 with
     | cons h2 r2=>cases h2;cases r2;rfl
   refine ⟨p,i,j,rfl,sq,λ l hl=>⟨l,i,j,rfl,aH,λ l2 hl2=>?_⟩⟩;have n1:Nw H1 (cn H1 l (.ext (uz P w l i j))) l (.ext (uz P w l i j)):=.of hl;have n2:Nw (cn H1 l (.ext (uz P w l i j))) (cn (cn H1 l (.ext (uz P w l i j))) l2 (.lst ((uq i j).map V.int))) l2 (.lst ((uq i j).map V.int)):=.of hl2;have g2:=g1.trans (.nwO g1.s n1);refine q l2 _ G1 _ (g2.trans (.nwO g2.s n2)) (cF g2.h hl2) (cF g2.s hl2) aH ?_;exact .ints _
 . cases e
end L2
set_option Elab.async false
set_option linter.all false
set_option maxRecDepth 100000
namespace My
open PySem PySem.Spec PyProof.Rows L2
open PySem.W (Frag)
local macro_rules | `(tactic| simp! [$a,*] $[$l]?)=>`(tactic| simp only [Nat.reduceAdd,Nat.reduceSub,reduceIte,Nat.reduceEqDiff,List.replicate,$a,*] $[$l]?)
noncomputable def iG (i:Nat):Stmt:=PySem.Challenge.pw_widelanes_k31_next_rows.main.body.getD i (.Pass ⟨0,0,0,0⟩)
noncomputable abbrev mh:Stmt:=iG 1
noncomputable abbrev m7:Stmt:=iG 3
noncomputable abbrev nU:Stmt:=iG 4
noncomputable abbrev gR:Stmt:=iG 5
noncomputable abbrev o0:Stmt:=iG 6
noncomputable abbrev mC:Stmt:=iG 10
noncomputable abbrev cA:Stmt:=ku (iG 12) 0
noncomputable abbrev fh:Stmt:=ku (iG 12) 2
noncomputable abbrev dD:Stmt:=ku (iG 12) 1
noncomputable abbrev fj:Stmt:=ku (iG 12) 3
noncomputable abbrev dZ:Stmt:=ku (iG 12) 4
noncomputable abbrev pW:Stmt:=iG 14
noncomputable abbrev ji:Stmt:=iG 16
noncomputable abbrev nX:Stmt:=iG 15
noncomputable abbrev gz:Stmt:=iG 19
noncomputable abbrev lY:Stmt:=iG 22
noncomputable abbrev lJ:Stmt:=iG 20
noncomputable abbrev io:Stmt:=iG 21
noncomputable abbrev eM:Stmt:=iG 18
noncomputable abbrev jj:Stmt:=iG 17
noncomputable abbrev y9:Stmt:=iG 13
noncomputable abbrev kX:Stmt:=iG 24
noncomputable abbrev je:Stmt:=iG 25
noncomputable abbrev jB:Stmt:=iG 26
noncomputable abbrev lh:Stmt:=iG 27
noncomputable abbrev lc:Stmt:=iG 28
noncomputable abbrev jA:Stmt:=iG 29
noncomputable abbrev lU:Stmt:=iG 30
noncomputable abbrev pB:Stmt:=iG 31
noncomputable abbrev gZ:Stmt:=iG 32
noncomputable abbrev gS:Stmt:=iG 33
noncomputable abbrev m6:Stmt:=iG 34
noncomputable abbrev kK:Stmt:=iG 35
noncomputable abbrev hJ:Stmt:=iG 36
noncomputable abbrev iM:Stmt:=iG 37
noncomputable abbrev nk:Stmt:=iG 38
noncomputable abbrev sv:Stmt:=iG 39
noncomputable def jz (c_Sheet:Addr):Str->Addr:=λ s=>if s = "Sheet" then c_Sheet else 0
theorem cB (c_Sheet:Addr):jz c_Sheet "Sheet" = c_Sheet:=by
 unfold jz;rw [if_pos rfl]
noncomputable def iW:List W->Option W:=bO 2 3
 (aq (aB (ao aR (ak 0) (ac 1)) (ae 2))
 (aq (bP (av bZ (ao aR (ak 2) (dC (.int (0)))) (dC (.str "back")))
  (aP (aT (bn af)))
  aC)
 (aq (bP (av bZ (ao aR (ak 2) (dC (.int (0)))) (dC (.str "jump")))
  (aP (aT (bn (aa (ao aR (ak 2) (dC (.int (2)))) af))))
  aC)
 (aq (bP (av bZ (ao aR (ak 2) (dC (.int (0)))) (dC (.str "split")))
  (aP (aT (K7 (aT (bn (aa (ao bw (ak 1) (dC (.int (1)))) (aa (ao aR (ak 2) (dC (.int (3)))) af)))))))
  aC)
 (aP (aT (bn (aa (ao bw (ak 1) (dC (.int (1)))) af))))))))
noncomputable def iN:List W->Option W:=bO 1 1
 (aq (bP (av bZ (ao aR (ak 0) (dC (.int (0)))) (dC (.str "while")))
  (aP (aT (bn (aa (ao aR (ak 0) (dC (.int (3)))) af))))
  aC)
 (aq (bP (av bZ (ao aR (ak 0) (dC (.int (0)))) (dC (.str "if")))
  (aP (aT (gx [none] (cq (oa (ac 0) (dP (dC (.int (3)))) dr)) (ae 0) (av gn (ak 0) (dC .none)) (ac 0))))
  aC)
 (aP (aT (bn af)))))
noncomputable def i8 (pf:List W->Option W):DS->Option dm:=(gU 3 (bt pf (aa (ac 5) (aa (ao vX (ak 2) (aF (aa (ac 4) af))) af))))
noncomputable def dH (pf:List W->Option W):DS->Option dm:=(aq (d8 3 (aF (aa (ac 4) (aa (ac 2) af))))
 (g9 (cq (bt iN (aa (ac 4) af))) (ae 5) (i8 pf)))
noncomputable def bG:Nat->List W->Option W
 | 0,_=>none
 | n+1,ds=>bO 2 6
  (aq (aB (D9 (av oN (ak 1) (dC .none)) (aF af) (ac 1)) (ae 2))
  (aq (mE 3 (bn af))
  (aq (g9 (cq (ac 0)) (ae 4) (dH (bG n)))
  (mj 3 (aP (ac 3)))))) ds
noncomputable def dy:List W->Option W:=bO 1 2
 (aq (aB (ao aR (ak 0) (dC (.int (0)))) (ae 1))
 (aq (bP (av gF (ak 1) (aF (aa (dC (.str "tell")) (aa (dC (.str "if")) (aa (dC (.str "while")) (aa (dC (.str "return")) af))))))
  (aP (aT (bn (aa (ao aR (ak 0) (dC (.int (2)))) af))))
  aC)
 (aq (bP (av bZ (ak 1) (dC (.str "put")))
  (aP (aT (bn (aa (ao aR (ak 0) (dC (.int (2)))) (aa (ao aR (ak 0) (dC (.int (3)))) af)))))
  aC)
 (aq (bP (av bZ (ak 1) (dC (.str "set")))
  (aP (aT (bn (aa (ao aR (ak 0) (dC (.int (3)))) af))))
  aC)
 (aq (bP (av bZ (ak 1) (dC (.str "call")))
  (aP (aT (fB (ao aR (ak 0) (dC (.int (4)))))))
  aC)
 (aP (D9 (av bZ (ak 1) (dC (.str "join"))) (aT (bn (aa (ao aR (ak 0) (dC (.int (4)))) af))) (aT (bn af)))))))))
noncomputable def jM:List W->Option W:=bO 1 1
 (aP (D9 (av gF (ao aR (ak 0) (dC (.int (0)))) (aF (aa (dC (.str "set")) (aa (dC (.str "call")) (aa (dC (.str "join")) af))))) (ao aR (ak 0) (dC (.int (2)))) (dC .none)))
noncomputable def cV (pf:List W->Option W):DS->Option dm:=(gU 1 (bt pf (aa (ac 2) af)))
noncomputable def bv:Nat->List W->Option W
 | 0,_=>none
 | n+1,ds=>bO 1 3
  (aq (bP (um (av tS (ao aR (ak 0) (dC (.int (0)))) (dC (.str "box"))) (av iZ (ao aR (ak 0) (dC (.int (0)))) (dC (.tuple [.str "+", .str "-", .str "*", .str "div", .str "rem", .str "<", .str "="]))))
   (aP (aT (bn (aa (ac 0) af))))
   aC)
  (aq (mE 1 (bn af))
  (aq (g9 (cq (oa (ac 0) (dP (dC (.int (1)))) dr)) (ae 2) (cV (bv n)))
  (mj 1 (aP (ac 1)))))) ds
noncomputable def eG:List W->ai->SM W:=bN 1 1
 (aD (fS "Sheet" "rows" (ab (ac 0)) (fz (ab af)))
 (aD (fS "Sheet" "spots" (ab (ac 0)) K1)
 (aD (fS "Sheet" "name" (ab (ac 0)) (ab (dC .none)))
 (fS "Sheet" "slots" (ab (ac 0)) Jf))))
noncomputable def bS:List W->ai->SM W:=bN 2 2
 (oA (gC "Sheet" "spots" (ab (ac 0))) (ab (ac 1)) (Ao (gC "Sheet" "rows" (ab (ac 0)))))
noncomputable def gG:List W->ai->SM W:=bN 3 3
 (aD (fS "Sheet" "name" (ab (ac 0)) (ab (ac 1)))
 (aD (fS "Sheet" "slots" (ab (ac 0)) (ab (ac 2)))
 (aK (bo "Sheet" "lay" bS (ab (ac 0)) (ab (aa (aF (aa (dC (.str "def")) (aa (ac 1) af))) af))))))
noncomputable def aA:List W->ai->SM W:=bN 2 2
 (d9 (gC "Sheet" "rows" (ab (ac 0))) (ab (ac 1)))
noncomputable def b3:List W->ai->SM W:=bN 1 1
 (hU (F7 bw (sd (gC "Sheet" "slots" (ab (ac 0)))) (ab (dC (.int (1))))))
noncomputable def fI:List W->ai->SM W:=bN 2 2
 (aD (cv (ab (av gF (ao aR (ak 0) (dC (.int (0)))) (aF (aa (dC (.str "split")) (aa (dC (.str "jump")) (aa (dC (.str "call")) af))))))
  (hU (F7 bw (ab (oa (ac 0) dr (dP (A8 nz (dC (.int (1))))))) (iL (aI (iU (ab (ac 1)) (ab (ao aR (ak 0) (A8 nz (dC (.int (1))))))) dL))))
  (aQ aC))
 (aQ (aP (ac 0))))
noncomputable def dq:DS->Option dm:=(ny 1 (gx [none] (cq (bt (bv 9) (aa (ac 5) af))) (ae 0) (av bZ (ao aR (ak 0) (dC (.int (0)))) (dC (.str "name"))) (ao aR (ak 0) (dC (.int (1))))))
noncomputable def eL:DS->Option dm:=(aq (aB (bt jM (aa (ac 2) af)) (ae 4))
 (aq (bP (av gn (ak 4) (dC .none))
  (d8 1 (ac 4))
  aC)
 (g9 (cq (bt dy (aa (ac 2) af))) (ae 5) dq)))
noncomputable def cX:List W->Option W:=bO 1 6
 (aq (mE 1 (bn af))
 (aq (g9 (cq (ug (bG 8) (aa (ac 0) af))) (eA 2 (bc (ae 2) (bc (ae 3) eZ))) eL)
 (mj 1 (aP (ac 1)))))
noncomputable def dh:DS->ai->SO:=(cv (Bv true (ab (ac 3)) (ab (ac 2)))
 (oA (ab (ac 2)) (ab (ac 3)) (F7 bw (sd (ab (ac 2))) (ab (dC (.int (1))))))
 (aQ aC))
noncomputable def jR:List W->ai->SM W:=bN 2 4
 (aD (dX Jf (ae 2))
 (aD (jC (ab (cq (ao bw (ak 0) (bt cX (aa (ac 1) af))))) (ae 3) dh)
 (aQ (aP (ac 2)))))
noncomputable def bz:Nat->List W->ai->SM W
 | 0,_,_=>none
 | n+1,ds,S=>bN 4 5
  (aD (aQ (aB (ao aR (ak 2) (dC (.int (0)))) (ae 4)))
  (cv (ab (av bZ (ak 4) (dC (.str "num"))))
   (aK (bo "Sheet" "add" aA (ab (ac 0)) (ab (aa (aF (aa (dC (.str "num")) (aa (ac 1) (aa (ac 3) (aa (ao aR (ak 2) (dC (.int (1)))) af))))) af))))
   (cv (ab (av bZ (ak 4) (dC (.str "name"))))
   (aK (bo "Sheet" "add" aA (ab (ac 0)) (aI (iL (aI (ab (dC (.str "copy"))) (aI (ab (ac 1)) (aI (ab (ac 3)) (aI (iU (gC "Sheet" "slots" (ab (ac 0))) (ab (ao aR (ak 2) (dC (.int (1)))))) dL))))) dL)))
   (cv (ab (av gF (ak 4) (dC (.tuple [.str "lane", .str "lanes", .str "mine"]))))
   (aK (bo "Sheet" "add" aA (ab (ac 0)) (ab (aa (aF (aa (dC (.str "sign")) (aa (ac 1) (aa (ac 3) (aa (ac 4) af))))) af))))
   (cv (ab (av bZ (ak 4) (dC (.str "box"))))
   (aD (aK (cf (bz n) (ab (aa (ac 0) (aa (ac 1) (aa (ao aR (ak 2) (dC (.int (1)))) (aa (ac 3) af)))))))
  (aK (bo "Sheet" "add" aA (ab (ac 0)) (ab (aa (aF (aa (dC (.str "get")) (aa (ac 1) (aa (ac 3) (aa (ac 3) af))))) af)))))
   (aD (aK (cf (bz n) (ab (aa (ac 0) (aa (ac 1) (aa (ao aR (ak 2) (dC (.int (1)))) (aa (ac 3) af)))))))
  (aD (aK (cf (bz n) (ab (aa (ac 0) (aa (ac 1) (aa (ao aR (ak 2) (dC (.int (2)))) (aa (ao bw (ak 3) (dC (.int (1)))) af)))))))
  (aK (bo "Sheet" "add" aA (ab (ac 0)) (ab (aa (aF (aa (dC (.str "op")) (aa (ac 1) (aa (ac 3) (aa (ac 4) (aa (ac 3) (aa (ao bw (ak 3) (dC (.int (1)))) af))))))) af))))))))))) ds S
noncomputable def eX:List W->ai->SM W:=bN 2 5
 (aD (aQ (aB (ao aR (ak 1) (dC (.int (0)))) (ae 2)))
 (aD (aQ (aB (ao aR (ak 1) (dC (.int (1)))) (ae 3)))
 (aD (dX (bo "Sheet" "free" b3 (ab (ac 0)) (ab af)) (ae 4))
 (cv (ab (av bZ (ak 2) (dC (.str "set"))))
  (aK (bo "Sheet" "add" aA (ab (ac 0)) (aI (iL (aI (ab (dC (.str "copy"))) (aI (ab (ac 3)) (aI (iU (gC "Sheet" "slots" (ab (ac 0))) (ab (ao aR (ak 1) (dC (.int (2)))))) (aI (ab (ac 4)) dL))))) dL)))
  (cv (ab (av bZ (ak 2) (dC (.str "put"))))
  (aK (bo "Sheet" "add" aA (ab (ac 0)) (ab (aa (aF (aa (dC (.str "put")) (aa (ac 3) (aa (ac 4) (aa (ao bw (ak 4) (dC (.int (1)))) af))))) af))))
  (cv (ab (av bZ (ak 2) (dC (.str "tell"))))
  (aK (bo "Sheet" "add" aA (ab (ac 0)) (ab (aa (aF (aa (dC (.str "tell")) (aa (ac 3) (aa (ac 4) af)))) af))))
  (cv (ab (av bZ (ak 2) (dC (.str "call"))))
  (aK (bo "Sheet" "add" aA (ab (ac 0)) (aI (iL (aI (ab (dC (.str "call"))) (aI (ab (ac 3)) (aI (iU (gC "Sheet" "slots" (ab (ac 0))) (ab (ao aR (ak 1) (dC (.int (2)))))) (aI (ab (ac 4)) (aI (ab (rR kA (ao aR (ak 1) (dC (.int (4)))))) (aI (ab (aF (aa (dC (.str "def")) (aa (ao aR (ak 1) (dC (.int (3)))) af)))) dL))))))) dL)))
  (cv (ab (av bZ (ak 2) (dC (.str "return"))))
  (aD (aK (bo "Sheet" "add" aA (ab (ac 0)) (ab (aa (aF (aa (dC (.str "copy")) (aa (ac 3) (aa (dC (.int (0))) (aa (ac 4) af))))) af))))
 (aK (bo "Sheet" "add" aA (ab (ac 0)) (aI (iL (aI (ab (dC (.str "jump"))) (aI (ab (ac 3)) (aI (iL (aI (ab (dC (.str "last"))) (aI (gC "Sheet" "name" (ab (ac 0))) dL))) dL)))) dL))))
  (cv (ab (av bZ (ak 2) (dC (.str "join"))))
  (aK (bo "Sheet" "add" aA (ab (ac 0)) (aI (iL (aI (ab (dC (.str "join"))) (aI (ab (ac 3)) (aI (iU (gC "Sheet" "slots" (ab (ac 0))) (ab (ao aR (ak 1) (dC (.int (2)))))) (aI (ab (ao aR (ak 1) (dC (.int (3))))) (aI (ab (ac 4)) dL)))))) dL)))
  (aK (bo "Sheet" "add" aA (ab (ac 0)) (ab (aa (aF (aa (ac 2) (aa (ac 3) af))) af)))))))))))))
noncomputable def hX (pf:List W->ai->SM W):List W->ai->SM W:=bN 3 4
 (aD (aQ (aB (ao aR (ak 1) (dC (.int (1)))) (ae 3)))
 (aD (aK (bo "Sheet" "add" aA (ab (ac 0)) (aI (iL (aI (ab (dC (.str "split"))) (aI (ab (ac 3)) (aI (bo "Sheet" "free" b3 (ab (ac 0)) (ab af)) (aI (ab (aF (aa (dC (.str "else")) (aa (ac 3) af)))) dL))))) dL)))
 (aD (aK (cf pf (ab (aa (ac 0) (aa (ao aR (ak 1) (dC (.int (3)))) (aa (ac 2) af))))))
 (aD (cv (ab (av gn (ao aR (ak 1) (dC (.int (4)))) (dC .none)))
  (aK (bo "Sheet" "add" aA (ab (ac 0)) (ab (aa (aF (aa (dC (.str "jump")) (aa (ac 3) (aa (aF (aa (dC (.str "behind")) (aa (ac 3) af))) af)))) af))))
  (aQ aC))
 (aD (aK (bo "Sheet" "lay" bS (ab (ac 0)) (ab (aa (aF (aa (dC (.str "else")) (aa (ac 3) af))) af))))
 (aD (cv (ab (av gn (ao aR (ak 1) (dC (.int (4)))) (dC .none)))
  (aK (cf pf (ab (aa (ac 0) (aa (ao aR (ak 1) (dC (.int (4)))) (aa (ac 2) af))))))
  (aQ aC))
 (aK (bo "Sheet" "lay" bS (ab (ac 0)) (ab (aa (aF (aa (dC (.str "behind")) (aa (ac 3) af))) af))))))))))
noncomputable def fH (pf:List W->ai->SM W):List W->ai->SM W:=bN 2 3
 (aD (aQ (aB (ao aR (ak 1) (dC (.int (1)))) (ae 2)))
 (aD (aK (bo "Sheet" "add" aA (ab (ac 0)) (aI (iL (aI (ab (dC (.str "split"))) (aI (ab (ac 2)) (aI (bo "Sheet" "free" b3 (ab (ac 0)) (ab af)) (aI (ab (aF (aa (dC (.str "behind")) (aa (ac 2) af)))) dL))))) dL)))
 (aD (aK (cf pf (ab (aa (ac 0) (aa (ao aR (ak 1) (dC (.int (3)))) (aa (ac 2) af))))))
 (aD (aK (bo "Sheet" "add" aA (ab (ac 0)) (ab (aa (aF (aa (dC (.str "jump")) (aa (ac 2) (aa (aF (aa (dC (.str "tick")) (aa (ac 2) af))) af)))) af))))
 (aK (bo "Sheet" "lay" bS (ab (ac 0)) (ab (aa (aF (aa (dC (.str "behind")) (aa (ac 2) af))) af))))))))
noncomputable def fM (pf:List W->ai->SM W):DS->ai->SO:=(aK (cf (bz 9) (ab (aa (ac 0) (aa (ac 4) (aa (ac 6) (aa (ac 5) af)))))))
noncomputable def cy (pf:List W->ai->SM W):List W->ai->SM W:=bN 3 7
 (aD (aQ (aB (ao aR (ak 1) (dC (.int (0)))) (ae 3)))
 (aD (aQ (aB (ao aR (ak 1) (dC (.int (1)))) (ae 4)))
 (aD (aK (bo "Sheet" "lay" bS (ab (ac 0)) (ab (aa (aF (aa (dC (.str "tick")) (aa (ac 4) af))) af))))
 (aD (aK (bo "Sheet" "add" aA (ab (ac 0)) (ab (aa (aF (aa (dC (.str "tick")) (aa (ac 4) af))) af))))
 (aD (jC (mX (ab (aa (bt dy (aa (ac 1) af)) af)) (bo "Sheet" "free" b3 (ab (ac 0)) (ab af))) (eA 2 (bc (ae 5) (bc (ae 6) eZ))) (fM pf))
 (cv (ab (av bZ (ak 3) (dC (.str "if"))))
  (aK (cf (hX pf) (ab (aa (ac 0) (aa (ac 1) (aa (ac 2) af))))))
  (cv (ab (av bZ (ak 3) (dC (.str "while"))))
  (aK (cf (fH pf) (ab (aa (ac 0) (aa (ac 1) af)))))
  (cv (ab (av bZ (ak 3) (dC (.str "break"))))
  (aK (bo "Sheet" "add" aA (ab (ac 0)) (ab (aa (aF (aa (dC (.str "jump")) (aa (ac 4) (aa (aF (aa (dC (.str "behind")) (aa (ac 2) af))) af)))) af))))
  (cv (ab (av bZ (ak 3) (dC (.str "again"))))
  (aK (bo "Sheet" "add" aA (ab (ac 0)) (ab (aa (aF (aa (dC (.str "jump")) (aa (ac 4) (aa (aF (aa (dC (.str "tick")) (aa (ac 2) af))) af)))) af))))
  (aK (cf eX (ab (aa (ac 0) (aa (ac 1) af))))))))))))))
noncomputable def jD (pf:List W->ai->SM W):DS->ai->SO:=(aK (cf (cy pf) (ab (aa (ac 0) (aa (ac 3) (aa (ac 2) af))))))
noncomputable def b7:Nat->List W->ai->SM W
 | 0,_,_=>none
 | n+1,ds,S=>bN 3 4
  (jC (ab (cq (ac 1))) (ae 3) (jD (b7 n))) ds S
noncomputable def o9:DS->ai->SO:=(aD (aK (bo "Sheet" "begin" gG (ab (ac 1)) (aI (ab (ac 3)) (aI (cf jR (ab (aa (ac 4) (aa (ac 5) af)))) dL))))
 (aD (aK (cf (b7 7) (ab (aa (ac 1) (aa (ac 5) (aa (dC .none) af))))))
 (aD (aK (bo "Sheet" "lay" bS (ab (ac 1)) (ab (aa (aF (aa (dC (.str "last")) (aa (ac 3) af))) af))))
 (aK (bo "Sheet" "add" aA (ab (ac 1)) (ab (aa (aF (aa (dC (.str "back")) (aa (ac 7) af))) af)))))))
noncomputable def vy:List W->ai->SM W:=bN 1 8
 (aD (dX (vO "Sheet" eG (ab af)) (ae 1))
 (aD (aQ (aB (ao bw (aT (gx [none] (cq (ak 0)) (ae 0) (av bZ (ao aR (ak 0) (dC (.int (0)))) (dC (.str "main"))) (ac 0))) (aT (gx [none] (cq (ak 0)) (ae 0) (av tS (ao aR (ak 0) (dC (.int (0)))) (dC (.str "main"))) (ac 0)))) (ae 2)))
 (aD (jC (ab (cq (ac 2))) (eA 5 (bc (ae 3) (bc (ae 4) (bc (ae 5) (bc (ae 6) (bc (ae 7) eZ)))))) o9)
 (hU (lD 9000 [some 1,none] (lz (gC "Sheet" "rows" (ab (ac 1)))) (ae 1) (ab jv) (cf fI (aI (ab (ac 1)) (aI (gC "Sheet" "spots" (ab (ac 0))) dL))))))))
noncomputable def eg:List W->Option W:=bO 1 1
 (aP (zM (rR (oJ "int") (ac 0)) (sZ (rR (oJ "bool") (ac 0)))))
noncomputable def cz:List W->Option W:=bO 2 2
 (aq (bP (av lA (ak 1) (rR kA (ak 0)))
  (aP (ao aR (ak 0) (ac 1)))
  aC)
 (aP (dC (.int (0)))))
noncomputable def cT:List W->Option W:=bO 2 4
 (aq (aB (ao bw (ao o5 (dC (.int (10))) (dC (.int (30)))) (dC (.int (57)))) (ae 2))
 (aq (aB (ao mK (ao bf (ak 0) (ac 2)) (dC (.int (271828182845904523536028747135)))) (ae 3))
 (aq (aB (ao bw (ak 3) (ao mK (ao mK (ak 1) (ac 1)) (dC (.int (314159265358979323846264338327))))) (ae 3))
 (aP (ao bf (ao bw (ak 3) (dC (.int (577215664901532860606512090082)))) (ac 2))))))
noncomputable def gh:DS->Option dm:=(aq (aB (ao bw (ak 6) (ao aR (ak 1) (ao bf (ak 5) (dC (.int (26)))))) (ae 6))
 (aB (ao bC (ak 5) (dC (.int (26)))) (ae 5)))
noncomputable def fK:DS->Option dm:=(aq (aB (ao aR (ak 1) (ao bf (ao bw (ak 5) (ao mK (dC (.int (5))) (ac 7))) (dC (.int (26))))) (ae 9))
 (aq (aB (ao bw (ao bw (rJ (ac 6) dr (dP (ac 4))) (ac 9)) (rJ (ac 6) (dP (ao bw (ak 4) (dC (.int (1))))) (dP (ac 3)))) (ae 10))
 (aq (bP (av bZ (ao bf (ao bC (ak 5) (dC (.int (26)))) (dC (.int (4)))) (dC (.int (1))))
  (aB (rJ (ac 6) dr (dP (ao gSub' (dC (.int (8))) (ac 7)))) (ae 10))
  aC)
 (aq (bP (pC (av gF (ak 10) (ak 2)) (av bZ (ak 10) (dC (.str "main"))))
  (aB (ao tH (dC (.str "q")) (rR kA (ak 10))) (ae 10))
  aC)
 (d8 8 (ac 10))))))
noncomputable def ip:List W->Option W:=bO 1 11
 (aq (aB (dC (.str "abcdefghijklmnopqrstuvwxyz")) (ae 1))
 (aq (aB (aT (bn (aa (dC (.str "def")) (aa (dC (.str "set")) (aa (dC (.str "put")) (aa (dC (.str "tell")) (aa (dC (.str "if")) (aa (dC (.str "else")) (aa (dC (.str "while")) (aa (dC (.str "end")) (aa (dC (.str "break")) (aa (dC (.str "again")) (aa (dC (.str "call")) (aa (dC (.str "return")) af)))))))))))))) (ae 2))
 (aq (aB (ao bw (ak 2) (aT (bn (aa (dC (.str "stop")) (aa (dC (.str "join")) (aa (dC (.str "meet")) (aa (dC (.str "lane")) (aa (dC (.str "lanes")) (aa (dC (.str "mine")) (aa (dC (.str "box")) (aa (dC (.str "div")) (aa (dC (.str "rem")) (aa (dC (.str "sum")) (aa (dC (.str "most")) af)))))))))))))) (ae 2))
 (aq (aB (ao bw (ak 2) (aT (bn (aa (dC (.str "least")) (aa (dC (.str "ahead")) af))))) (ae 2))
 (aq (aB (ao bw (dC (.int (1))) (ao bf (ak 0) (dC (.int (8))))) (ae 3))
 (aq (aB (ao bf (ao bC (ak 0) (dC (.int (8)))) (ac 3)) (ae 4))
 (aq (aB (ao bC (ak 0) (dC (.int (64)))) (ae 5))
 (aq (aB (dC (.str "")) (ae 6))
 (aq (g9 (kT (aa (dC (.int (8))) af)) (ae 7) gh)
 (aq (mE 8 (bn af))
 (aq (g9 (kT (aa (dC (.int (6))) af)) (ae 7) fK)
 (mj 8 (aP (ac 8))))))))))))))
noncomputable def cK:List W->Option W:=bO 2 7
 (aq (aB (ao bf (ak 0) (dC (.int (10)))) (ae 2))
 (aq (aB (ao bC (ak 0) (dC (.int (10)))) (ae 3))
 (aq (aB (aF (aa (dC (.str "num")) (aa (ao aR (aT (bn (aa (ao bf (ao bC (ak 3) (dC (.int (3)))) (dC (.int (5)))) (aa (ao gSub' (ao bf (ao bC (ak 3) (dC (.int (3)))) (dC (.int (5)))) (dC (.int (2)))) (aa (ao gSub' (ao bf (ao bC (ak 3) (dC (.int (3)))) (dC (.int (1999999999)))) (dC (.int (999999999)))) af))))) (ao bf (ak 3) (dC (.int (3))))) af))) (ae 4))
 (aq (aB (aF (aa (dC (.str "lane")) af)) (ae 5))
 (aq (bP (av lA (ak 2) (dC (.int (2))))
  (aP (ac 4))
  aC)
 (aq (aB (ao aR (aT (bn (aa (ac 4) (aa (ac 5) (aa (aF (aa (dC (.str "name")) (aa (ao aR (ak 1) (ao bf (ak 3) (dC (.int (6))))) af))) (aa (aF (aa (dC (.str "mine")) af)) af)))))) (ao bf (ao bC (ak 3) (dC (.int (15)))) (dC (.int (4))))) (ae 6))
 (aq (bP (av lA (ak 2) (dC (.int (4))))
  (aP (ac 5))
  aC)
 (aq (bP (av lA (ak 2) (dC (.int (6))))
  (aP (ao aR (aT (bn (aa (aF (aa (dC (.str "+")) (aa (ac 5) (aa (ac 4) af)))) (aa (aF (aa (dC (.str "+")) (aa (ac 4) (aa (ac 5) af)))) af)))) (ao gSub' (ak 2) (dC (.int (4))))))
  aC)
 (aq (bP (av bZ (ak 2) (dC (.int (6))))
  (aP (aF (aa (ao aR (aT (bn (aa (dC (.str "-")) (aa (dC (.str "*")) (aa (dC (.str "div")) (aa (dC (.str "rem")) (aa (dC (.str "<")) (aa (dC (.str "=")) af)))))))) (ao bf (ao bC (ak 3) (dC (.int (60)))) (dC (.int (6))))) (aa (ac 5) (aa (ac 4) af)))))
  aC)
 (aP (ao aR (aT (bn (aa (aF (aa (dC (.str "name")) (aa (ao aR (ak 1) (ao bf (ak 3) (dC (.int (6))))) af))) (aa (aF (aa (dC (.str "+")) (aa (ac 5) (aa (ac 6) af)))) (aa (aF (aa (dC (.str "box")) (aa (ac 5) af))) af))))) (ao gSub' (ak 2) (dC (.int (7)))))))))))))))
noncomputable def bE:List W->Option W:=bO 2 6
 (aq (aB (ao bf (ak 0) (dC (.int (8)))) (ae 2))
 (aq (aB (ao bC (ak 0) (dC (.int (8)))) (ae 3))
 (aq (bP (av lA (ak 2) (dC (.int (2))))
  (aP (aF (aa (dC (.str "num")) (aa (ao gSub' (ao bf (ak 3) (dC (.int (1999999999)))) (dC (.int (999999999)))) af))))
  aC)
 (aq (bP (av lA (ak 2) (dC (.int (4))))
  (aP (ao aR (aT (bn (aa (aF (aa (dC (.str "lane")) af)) (aa (aF (aa (dC (.str "mine")) af)) (aa (aF (aa (dC (.str "lanes")) af)) (aa (aF (aa (dC (.str "name")) (aa (ao aR (ak 1) (ao bf (ao bC (ak 3) (dC (.int (4)))) (dC (.int (6))))) af))) af)))))) (ao bf (ak 3) (dC (.int (4))))))
  aC)
 (aq (bP (av lA (ak 2) (dC (.int (6))))
  (aP (aF (aa (dC (.str "box")) (aa (bt cK (aa (ac 3) (aa (ac 1) af))) af))))
  aC)
 (aq (aB (ao aR (aT (bn (aa (dC (.str "+")) (aa (dC (.str "-")) (aa (dC (.str "*")) (aa (dC (.str "div")) (aa (dC (.str "rem")) (aa (dC (.str "<")) (aa (dC (.str "=")) af))))))))) (ao bf (ak 3) (dC (.int (7))))) (ae 4))
 (aq (aB (ao aR (aT (bn (aa (aF (aa (dC (.str "num")) (aa (ao gSub' (ao bf (ao bC (ak 3) (dC (.int (14)))) (dC (.int (9)))) (dC (.int (4)))) af))) (aa (aF (aa (dC (.str "name")) (aa (ao aR (ak 1) (ao bf (ao bC (ak 3) (dC (.int (14)))) (dC (.int (6))))) af))) af)))) (ao bf (ao bC (ak 3) (dC (.int (7)))) (dC (.int (2))))) (ae 5))
 (aq (bP (av bZ (ak 2) (dC (.int (6))))
  (aP (aF (aa (ac 4) (aa (ac 5) (aa (aF (aa (dC (.str "box")) (aa (bt cK (aa (ao bC (ak 3) (dC (.int (126)))) (aa (ac 1) af))) af))) af)))))
  aC)
 (aP (aF (aa (ac 4) (aa (aF (aa (dC (.str "box")) (aa (bt cK (aa (ao bC (ak 3) (dC (.int (126)))) (aa (ac 1) af))) af))) (aa (ac 5) af)))))))))))))
noncomputable def j5:DS->Option dm:=(aq (d8 7 (bt bE (aa (ao bf (ak 0) (ao o5 (dC (.int (10))) (dC (.int (4))))) (aa (ac 2) af))))
 (aB (ao bC (ak 0) (ao o5 (dC (.int (10))) (dC (.int (4))))) (ae 0)))
noncomputable def iV:List W->Option W:=bO 4 9
 (aq (aB (aT (gx [none] (cq (ak 3)) (ae 0) (av tS (ao aR (ak 0) (dC (.int (0)))) (dC (.str "main"))) (ac 0))) (ae 4))
 (aq (bP (av bZ (ak 4) (aT (bn af)))
  (aP (aF (aa (dC (.str "tell")) (aa (bt bE (aa (ac 0) (aa (ac 2) af))) af))))
  aC)
 (aq (aB (ao aR (ak 4) (ao bf (ak 0) (rR kA (ak 4)))) (eA 2 (bc (ae 5) (bc (ae 6) eZ))))
 (aq (aB (ao bC (ak 0) (dC (.int (3)))) (ae 0))
 (aq (mE 7 (bn af))
 (aq (g9 (kT (aa (rR kA (ak 6)) af)) (ae 8) j5)
 (mj 7 (aP (aF (aa (dC (.str "call")) (aa (ac 1) (aa (ac 5) (aa (ac 7) af)))))))))))))
noncomputable def lE:List W->Option W:=bO 3 6
 (aq (aB (ao bf (ak 0) (dC (.int (24)))) (ae 3))
 (aq (aB (ao aR (ak 1) (ao bf (ao bC (ak 0) (dC (.int (24)))) (dC (.int (6))))) (ae 4))
 (aq (aB (ao bC (ak 0) (dC (.int (144)))) (ae 5))
 (aq (bP (av lA (ak 3) (dC (.int (3))))
  (aP (aF (aa (dC (.str "set")) (aa (ac 4) (aa (bt bE (aa (ac 5) (aa (ac 1) af))) af)))))
  aC)
 (aq (bP (av lA (ak 3) (dC (.int (7))))
  (aP (aF (aa (dC (.str "put")) (aa (bt cK (aa (ao bf (ak 5) (ao o5 (dC (.int (10))) (dC (.int (12))))) (aa (ac 1) af))) (aa (bt bE (aa (ao bC (ak 5) (ao o5 (dC (.int (10))) (dC (.int (12))))) (aa (ac 1) af))) af)))))
  aC)
 (aq (bP (av lA (ak 3) (dC (.int (10))))
  (aP (aF (aa (ao aR (aT (bn (aa (dC (.str "if")) (aa (dC (.str "if")) (aa (dC (.str "while")) af))))) (ao gSub' (ak 3) (dC (.int (7))))) (aa (bt bE (aa (ac 5) (aa (ac 1) af))) af))))
  aC)
 (aq (bP (av lA (ak 3) (dC (.int (14))))
  (aP (aF (aa (ao aR (aT (bn (aa (dC (.str "end")) (aa (dC (.str "end")) (aa (dC (.str "end")) (aa (dC (.str "else")) af)))))) (ao gSub' (ak 3) (dC (.int (10))))) af)))
  aC)
 (aq (bP (av lA (ak 3) (dC (.int (19))))
  (aP (aF (aa (ao aR (aT (bn (aa (dC (.str "break")) (aa (dC (.str "again")) (aa (dC (.str "meet")) (aa (dC (.str "meet")) (aa (dC (.str "stop")) af))))))) (ao gSub' (ak 3) (dC (.int (14))))) af)))
  aC)
 (aq (bP (av lA (ak 3) (dC (.int (21))))
  (aP (aF (aa (ao aR (aT (bn (aa (dC (.str "tell")) (aa (dC (.str "return")) af)))) (ao gSub' (ak 3) (dC (.int (19))))) (aa (bt bE (aa (ac 5) (aa (ac 1) af))) af))))
  aC)
 (aq (bP (av bZ (ak 3) (dC (.int (21))))
  (aP (aF (aa (dC (.str "join")) (aa (ac 4) (aa (ao aR (aT (bn (aa (dC (.str "sum")) (aa (dC (.str "most")) (aa (dC (.str "least")) (aa (dC (.str "ahead")) af)))))) (ao bf (ak 5) (dC (.int (4))))) (aa (bt bE (aa (ao bC (ak 5) (dC (.int (4)))) (aa (ac 1) af))) af))))))
  aC)
 (aP (bt iV (aa (ac 5) (aa (ac 4) (aa (ac 1) (aa (ac 2) af))))))))))))))))
noncomputable def eE:List W->ai->SM W:=bN 1 1
 (aD (cv (Cr false (sIx (ab (ac 0)) (ab (dC (.int (0))))) (ab (dC (.str "if"))))
  (hU (iL (aI (ab (dC (.str "if"))) (aI (sIx (ab (ac 0)) (ab (dC (.int (1))))) (aI (sIx (ab (ac 0)) (ab (dC (.int (2))))) (aI (sIx (ab (ac 0)) (ab (dC (.int (4))))) (aI (sIx (ab (ac 0)) (ab (dC (.int (5))))) dL)))))))
  (aQ aC))
 (hU (iL (aI (ab (dC (.str "while"))) (aI (sIx (ab (ac 0)) (ab (dC (.int (1))))) (aI (sIx (ab (ac 0)) (ab (dC (.int (2))))) (aI (sIx (ab (ac 0)) (ab (dC (.int (4))))) dL)))))))
noncomputable def bB:List W->ai->SM W:=bN 3 3
 (aD (cv (ab (pC (av bZ (ao aR (ak 0) (dC (.int (0)))) (dC (.str "break"))) (av bZ (ao aR (ak 0) (dC (.int (0)))) (dC (.str "again")))))
  (hU (JC FQ (lD 9000 [none] (lz (ab (ac 1))) (ae 0) (ab jv) (sB (Cr false (sIx (ab (ac 0)) (ab (dC (.int (0))))) (ab (dC (.str "while"))))))))
  (aQ aC))
 (aD (cv (ab (av bZ (ao aR (ak 0) (dC (.int (0)))) (dC (.str "else"))))
  (hU (p7 (sK true (ab (ac 1)) (ab (aT (bn af)))) (p7 (sB (Cr false (sIx (sIx (ab (ac 1)) (ab (A8 nz (dC (.int (1)))))) (ab (dC (.int (0))))) (ab (dC (.str "if"))))) (sB (uP oN (sIx (sIx (ab (ac 1)) (ab (A8 nz (dC (.int (1)))))) (ab (dC (.int (5))))) (ab (dC .none)))))))
  (aQ aC))
 (aD (cv (ab (av bZ (ao aR (ak 0) (dC (.int (0)))) (dC (.str "end"))))
  (hU (sK true (ab (ac 1)) (ab (aT (bn af)))))
  (aQ aC))
 (aD (cv (ab (pC (av bZ (ao aR (ak 0) (dC (.int (0)))) (dC (.str "if"))) (av bZ (ao aR (ak 0) (dC (.int (0)))) (dC (.str "while")))))
  (hU (sB (uP lA (Ao (ab (ac 1))) (ab (dC (.int (5)))))))
  (aQ aC))
 (aQ (aP (AZ (dB (av tS (ao aR (ak 0) (dC (.int (0)))) (dC (.str "return")))) (sZ (ac 2)))))))))
noncomputable def cW:DS->ai->SO:=(aD (cv (uE (uN (cf bB (ab (aa (ac 6) (aa (ac 5) (aa (ac 2) af)))))))
 (aQ qk)
 (aQ aC))
 (aD (aQ (aB (ao bw (ak 1) (dC (.int (1)))) (ae 1)))
 (cv (ab (av bZ (ao aR (ak 6) (dC (.int (0)))) (dC (.str "end"))))
  (aD (dX (Bp (ab (ac 5))) (ae 7))
 (aD (dX (sIx (ab (ac 7)) (ab (dC (.int (3))))) (ae 4))
 (d9 (ab (ac 4)) (cf eE (ab (aa (ac 7) af))))))
  (cv (ab (av bZ (ao aR (ak 6) (dC (.int (0)))) (dC (.str "else"))))
  (aD (dX (sIx (ab (ac 5)) (ab (A8 nz (dC (.int (1)))))) (ae 7))
 (aD (rc (ab (ac 7)) (ab (dC (.int (5)))) (fz (ab af)))
 (dX (sIx (ab (ac 7)) (ab (dC (.int (5))))) (ae 4))))
  (cv (ab (pC (av bZ (ao aR (ak 6) (dC (.int (0)))) (dC (.str "if"))) (av bZ (ao aR (ak 6) (dC (.int (0)))) (dC (.str "while")))))
  (aD (dX (fz (aI (ab (ao aR (ak 6) (dC (.int (0))))) (aI (ab (ac 1)) (aI (ab (ao aR (ak 6) (dC (.int (1))))) (aI (ab (ac 4)) (aI (fz (ab af)) (aI (ab (dC .none)) dL))))))) (ae 7))
 (aD (d9 (ab (ac 5)) (ab (ac 7)))
 (dX (sIx (ab (ac 7)) (ab (dC (.int (4))))) (ae 4))))
  (d9 (ab (ac 4)) (ab (ao bw (aF (aa (ao aR (ak 6) (dC (.int (0)))) (aa (ac 1) af))) (oa (ac 6) (dP (dC (.int (1)))) dr)))))))))
noncomputable def jk:List W->ai->SM W:=bN 3 8
 (aD (dX (fz (ab af)) (ae 3))
 (aD (aQ (aB (ac 3) (ae 4)))
 (aD (dX (fz (ab af)) (ae 5))
 (aD (jC (wz (vT (ab (ac 0)) (ab (aT (B2 (bn (aa (aF (aa (dC (.str "end")) af)) af)) (dC (.int (5)))))))) (ae 6) cW)
 (aQ (aP (aF (aa (ac 3) (aa (ao bw (ak 1) (dC (.int (1)))) af)))))))))
noncomputable def jm:DS->Option dm:=(aq (aB (ao bC (ao bC (ak 0) (dC (.int (64)))) (ao aR (aT (bn (aa (dC (.int (1))) (aa (dC (.int (42))) (aa (dC (.int (1764))) (aa (dC (.int (74088))) af)))))) (ac 5))) (ae 6))
 (aq (aB (ao aR (aT (bn (aa (dC (.int (0))) (aa (dC (.int (0))) (aa (dC (.int (1))) (aa (dC (.int (1))) (aa (dC (.int (2))) (aa (dC (.int (3))) (aa (dC (.int (6))) af))))))))) (ao bf (ak 6) (dC (.int (7))))) (ae 7))
 (d8 4 (aF (aa (ao aR (ak 1) (ac 5)) (aa (aT (gx [some 2,some 6,none] (kT (aa (ac 7) af)) (ae 2) jv (ao aR (ak 0) (ao bf (ao bw (ao bC (ak 1) (dC (.int (7)))) (ac 2)) (dC (.int (6))))))) af))))))
noncomputable def i3:List W->Option W:=bO 3 8
 (aq (aB (ao bw (dC (.int (1))) (ao bf (ak 0) (dC (.int (4))))) (ae 3))
 (aq (mE 4 (bn af))
 (aq (g9 (kT (aa (ac 3) af)) (ae 5) jm)
 (aq (rh 4 (ao bf (ao bC (ak 0) (dC (.int (4)))) (ac 3)) (aF (aa (dC (.str "main")) (aa (aT (bn af)) af))))
 (mj 4 (aP (ac 4)))))))
noncomputable def cx:List W->Option W:=bO 2 2
 (aq (bP (av bZ (ao bf (ao bC (ak 0) (ao o5 (dC (.int (10))) (dC (.int (9))))) (dC (.int (4)))) (dC (.int (1))))
  (aP (ao bw (aT (CC (ak 1) dr (dP (dC (.int (5)))))) (aT (bn (aa (dC (.str "main")) af)))))
  aC)
 (aP (aT (fB (ak 1)))))
noncomputable def gT:DS->ai->SO:=(aD (aQ (aB (bt cT (aa (ac 8) (aa (ao bw (ak 7) (dC (.int (2)))) af))) (ae 9)))
 (d9 (ab (ao aR (ak 6) (ao bf (ak 9) (rR kA (ak 5))))) (ab (bt lE (aa (ao bC (ak 9) (rR kA (ak 5))) (aa (ac 4) (aa (ac 5) af)))))))
noncomputable def hZ:DS->ai->SO:=(aD (dX (cf jk (ab (aa (ao aR (ak 6) (ac 7)) (aa (ao bw (ak 11) (dC (.int (1)))) (aa (dB (av bZ (ao aR (ak 12) (dC (.int (0)))) (dC (.str "main")))) af))))) (eA 2 (bc (ae 13) (bc (ae 14) eZ))))
 (aD (d9 (ab (ac 10)) (ab (aF (aa (ao aR (ak 12) (dC (.int (0)))) (aa (aT (fB (ao aR (ak 12) (dC (.int (1)))))) (aa (ac 13) (aa (ao bw (ak 11) (dC (.int (1)))) (aa (ac 14) af))))))))
 (aQ (aB (ac 14) (ae 11)))))
noncomputable def ge:List W->ai->SM W:=bN 3 15
 (aD (aQ (aB (bt cT (aa (bt cz (aa (ac 0) (aa (dC (.int (0))) af))) (aa (dC (.int (0))) af))) (ae 3)))
 (aD (aQ (aB (bt cx (aa (ac 3) (aa (ac 1) af))) (ae 4)))
 (aD (aQ (aB (bt i3 (aa (ac 3) (aa (ac 1) (aa (ac 4) af)))) (ae 5)))
 (aD (dX (vW [none] (ab (cq (ac 5))) (ae 0) (ab jv) (fz (ab af))) (ae 6))
 (aD (jC (ab (tM (aa (aT (CC (ak 0) (dP (dC (.int (2)))) (dP (ac 2)))) af))) (eA 2 (bc (ae 7) (bc (ae 8) eZ))) gT)
 (aD (dX (fz (ab af)) (ae 10))
 (aD (aQ (aB (dC (.int (0))) (ae 11)))
 (aD (jC (ab (tM (aa (ac 5) af))) (eA 2 (bc (ae 7) (bc (ae 12) eZ))) hZ)
 (aQ (aP (ac 10)))))))))))
noncomputable def fO:List W->Option W:=A2 ge
noncomputable def ii:List W->Option W:=bO 2 2
 (aq (bP (av bZ (ao aR (ak 0) (dC (.int (0)))) (dC (.str "back")))
  (aP (aT (bn af)))
  aC)
 (aq (bP (av bZ (ao aR (ak 0) (dC (.int (0)))) (dC (.str "jump")))
  (aP (aT (bn (aa (ao aR (ak 0) (dC (.int (2)))) af))))
  aC)
 (aq (bP (um (av bZ (ao aR (ak 0) (dC (.int (0)))) (dC (.str "split"))) (av lA (ao aR (ak 0) (dC (.int (3)))) (ao bw (ak 1) (dC (.int (1))))))
  (aP (aT (bn (aa (ao aR (ak 0) (dC (.int (3)))) (aa (ao bw (ak 1) (dC (.int (1)))) af)))))
  aC)
 (aq (bP (um (av bZ (ao aR (ak 0) (dC (.int (0)))) (dC (.str "split"))) (av Ja (ao aR (ak 0) (dC (.int (3)))) (ao bw (ak 1) (dC (.int (1))))))
  (aP (aT (bn (aa (ao bw (ak 1) (dC (.int (1)))) (aa (ao aR (ak 0) (dC (.int (3)))) af)))))
  aC)
 (aP (aT (bn (aa (ao bw (ak 1) (dC (.int (1)))) af))))))))
noncomputable def qI:DS->Option dm:=(aq (aB (bt iW (aa (ac 1) (aa (ac 3) af))) (ae 5))
 (aq (bP (pC (xB (xN (rR (kW "list") (ac 5)))) (av tS (ak 5) (bt ii (aa (ac 4) (aa (ac 3) af)))))
  (aP (dC (.bool false)))
  aC)
 (bP (xB (xN (rR uk (aT (gx [none] (cq (ak 5)) (ae 0) jv (bt eg (aa (ac 0) af)))))))
  (aP (dC (.bool false)))
  aC)))
noncomputable def y4:List W->ai->SM W:=bN 1 6
 (aD (dX (cf vy (ab (aa (bt fO (aa (ac 0) (aa (bt ip (aa (bt cT (aa (bt cz (aa (ac 0) (aa (dC (.int (1))) af))) (aa (dC (.int (1))) af))) af)) (aa (dC (.int (40))) af)))) af))) (ae 1))
 (aD (aQ (aB (aT (fB (ak 1))) (ae 2)))
 (aD (aQ (g9 (tM (aa (ac 2) af)) (eA 2 (bc (ae 3) (bc (ae 4) eZ))) qI))
 (aQ (aP (dB (av bZ (ak 1) (ak 2))))))))
noncomputable def qN (K:Frag):Sp:=λ vs H Q _=>∃ (a:Addr) (ns:List Int),vs=[.ref a]/\cR K H a (ns.map V.int)/\ns.length<=63/\∀ H',Q (.bl true) H'
section
variable (P:Program) (w:World) (K:Frag) (mg:Str->Option Value) (base:Heap) (cl:Str->Addr)
noncomputable abbrev lZ:Prop:=jG P w K mg base "next_rows" ["rows", "k"] [] 1 (jZ K iW)
noncomputable abbrev mf:Prop:=jG P w K mg base "bodies_of" ["statement"] [] 1 (jZ K iN)
noncomputable abbrev tm:Prop:=jG P w K mg base "placed" ["body", "around"] [.none] 9 (jZ K (bG 8))
noncomputable abbrev eI:Prop:=jG P w K mg base "expressions_of" ["statement"] [] 1 (jZ K dy)
noncomputable abbrev nK:Prop:=jG P w K mg base "given_by" ["statement"] [] 1 (jZ K jM)
noncomputable abbrev mq:Prop:=jG P w K mg base "leaves_of" ["expression"] [] 9 (jZ K (bv 9))
noncomputable abbrev gQ:Prop:=Ce (λ f fd=>Mk K (cl "Sheet") f/\df K fd ["self"] []) P w K mg base 1 ["self"] (jY K cl eG)
noncomputable abbrev dI:Prop:=Ce (λ f fd=>jV K (cl "Sheet") "lay" f/\df K fd ["self", "key"] []) P w K mg base 1 ["self", "key"] (jY K cl bS)
noncomputable abbrev j8:Prop:=Ce (λ f fd=>jV K (cl "Sheet") "begin" f/\df K fd ["self", "name", "slots"] []) P w K mg base 2 ["self", "name", "slots"] (jY K cl gG)
noncomputable abbrev cY:Prop:=Ce (λ f fd=>jV K (cl "Sheet") "add" f/\df K fd ["self", "row"] []) P w K mg base 1 ["self", "row"] (jY K cl aA)
noncomputable abbrev dQ:Prop:=Ce (λ f fd=>jV K (cl "Sheet") "free" f/\df K fd ["self"] []) P w K mg base 1 ["self"] (jY K cl b3)
noncomputable abbrev qc:Prop:=jG P w K mg base "settled" ["row", "spots"] [] 1 (jY K cl fI)
noncomputable abbrev iK:Prop:=jG P w K mg base "names_within" ["body"] [] 10 (jZ K cX)
noncomputable abbrev nF:Prop:=jG P w K mg base "slots_of" ["params", "body"] [] 11 (jY K cl jR)
noncomputable abbrev gq:Prop:=jG P w K mg base "make_expression" ["sheet", "line", "expression", "at"] [] 10 (jY K cl (bz 9))
noncomputable abbrev mF:Prop:=jG P w K mg base "make_rest" ["sheet", "statement"] [] 2 (jY K cl eX)
noncomputable abbrev pT (n k:Nat):Prop:=jG P w K mg base "make_if" ["sheet", "statement", "loop"] [] k (jY K cl (hX (b7 n)))
noncomputable abbrev kD (n k:Nat):Prop:=jG P w K mg base "make_while" ["sheet", "statement"] [] k (jY K cl (fH (b7 n)))
noncomputable abbrev gY (n k:Nat):Prop:=jG P w K mg base "make_statement" ["sheet", "statement", "loop"] [] k (jY K cl (cy (b7 n)))
noncomputable abbrev fc (n k:Nat):Prop:=jG P w K mg base "make_body" ["sheet", "body", "loop"] [] k (jY K cl (b7 n))
noncomputable abbrev tE:Prop:=fc P w K mg base cl 7 31
noncomputable abbrev zh:Prop:=jG P w K mg base "made" ["program"] [] 32 (jY K cl vy)
noncomputable abbrev kZ:Prop:=jG P w K mg base "_law_whole" ["_law_found"] [] 1 (jZ K eg)
noncomputable abbrev fZ:Prop:=jG P w K mg base "_law_cell_at" ["_law_script", "_law_k"] [] 1 (jZ K cz)
noncomputable abbrev gJ:Prop:=jG P w K mg base "_law_spread" ["_law_cell", "_law_k"] [] 1 (jZ K cT)
noncomputable abbrev kI:Prop:=jG P w K mg base "_law_names" ["_law_number"] [] 1 (jZ K ip)
noncomputable abbrev iz:Prop:=jG P w K mg base "_law_place" ["_law_number", "_law_names_here"] [] 1 (jZ K cK)
noncomputable abbrev gE:Prop:=jG P w K mg base "_law_simple" ["_law_number", "_law_names_here"] [] 2 (jZ K bE)
noncomputable abbrev mi:Prop:=jG P w K mg base "_law_call" ["_law_rest", "_law_x", "_law_names_here", "_law_rooms_here"] [] 3 (jZ K iV)
noncomputable abbrev qd:Prop:=jG P w K mg base "_law_op" ["_law_number", "_law_names_here", "_law_rooms_here"] [] 4 (jZ K lE)
noncomputable abbrev gW:Prop:=jG P w K mg base "_law_closed_up" ["_law_frame"] [] 1 (jY K cl eE)
noncomputable abbrev gP:Prop:=jG P w K mg base "_law_may_stand" ["_law_op_here", "_law_pile", "_law_main"] [] 1 (jY K cl bB)
noncomputable abbrev lS:Prop:=jG P w K mg base "_law_laid" ["_law_ops", "_law_line", "_law_main"] [] 2 (jY K cl jk)
noncomputable abbrev kR:Prop:=jG P w K mg base "_law_rooms" ["_law_head", "_law_names_here", "_law_variables_here"] [] 1 (jZ K i3)
noncomputable abbrev ib:Prop:=jG P w K mg base "_law_variables" ["_law_head", "_law_names_here"] [] 1 (jZ K cx)
noncomputable abbrev iO:Prop:=jG P w K mg base "_law_program" ["_law_script", "_law_names_here", "_law_most"] [] 5 (jZ K fO)
noncomputable abbrev o6:Prop:=jG P w K mg base "_law_due" ["_law_row", "_law_k"] [] 1 (jZ K ii)
end
def rlX (s:String) (t:Lean.TSyntax `tactic):Lean.MacroM (Lean.TSyntax `tactic):=(s.splitOn ";").foldlM (λ t g=>do
 let l:=g.splitOn " ";let u <-l.tail.foldlM (λ u n=>do
  let q:=n.splitOn ":";let i:=Lean.mkIdent ((if n.front.isDigit||n.front=='<' then n.drop 1 else q.head!).toName);let a <-if n.front.isDigit||n.front=='<' then pure (Array.replicate (n.front.toNat-48) (<- `(?_))) else (q.getLast!.toList.toArray.mapM λ c=>if c=='r' then `(rfl) else if c=='a' then `(by assumption) else if c=='d' then `(by first | decide | exact Nat.le_refl _ | exact Nat.le_add_right _ _ | omega) else if c=='k' then `(by decide +kernel) else `(?_))
  let v <-if q.tail.isEmpty && !n.front.isDigit&&n.front != '<' then `(tactic| apply $i) else `(tactic| refine $(Lean.Syntax.mkApp i a))
  `(tactic| first | $v:tactic | $u:tactic)) (<- `(tactic| fail))
 `(tactic| first | (show $(Lean.mkIdent l.head!.toName) ..;$u:tactic) | $t:tactic)) t
local macro_rules | `(tactic| left)=>do
 let t <-rlX "Gz x5 yW BZ;ST kG Hx xm EU Fw;Kq AN;Jv DI.k AM;BG su tz;DI C3 BD yC;DT FP DJ F4 yX IH iX;DR Bl C0 Fx E5 FG lG F9 DP fw;DG EF mR;DB Hr En AU CU GH IC nR;Gy Fy A0 FF;SA gw jo vf;IN y1 Cz;mT qi wq jQ pO vk uW ve pH iS rB ie sX ka;DA aJ cG;DK DE.dk bT;oO wg yA vR wj qb Aw Ak eU pN zu lM;DO Ga BW EB BL jK;SE CA dR Ci GL FW Ab GC Ha wv G8 AE Fo yp Bc yD Es DH HS Eu AV jr mW I9;DE DO.de Ek Ho yr E8 FJ Hg zH FM GR FB w5 ou eK dU cH Hf bi Ev EK AQ" (<- `(tactic| first | assumption | decide));let u <-rlX "oO yA vR wj qb Aw Ak eU pN zu lM;mT qi wq jQ pO vk uW ve pH iS rB ie" (<- `(tactic| first | exact E0 | decide))
 `(tactic| repeat' first | with_reducible (show (_:Prop);first | intro _ | $t:tactic) | $u:tactic)
local macro_rules | `(tactic| right)=>do
 let t <-rlX "And 2And.intro;n6 1Et;jh 0Dx;PassesOwn 0PassesOwn.never;PC 3Gq;BI 1GQ 0K3 1J9;J6 0Ki;uZ 0Ib 1HK;PW 1IY 2JN 1Kp 2LG;bK 7CD;PO 0J8 1Jc;PI 7IQ 5Hq 4Gp 2Jw;gp 0L1 0Ku 0Jt 1AA 1Jk 2Ix 0KA 0Je 2JT 0Jm 1E2 0Ka 0KH 0L7 1B6 0GB 0Jp 2JK;Gw 0Jo 3IP;PT 1PW.pt 2KM 2JM 1Kc 4Jx;PG 5Js 4IX;PS 5Gi 6Ju 0CO 5JD 6Kk 2IT 3L8 1KO 6KF <yK;yR 1IZ;u3 0Jj 1JG 2I0;PA 0KN 3IU;PE 2Mr 2LO 2Ma 6Lk 5Ls 8LL 6LB 9Ld 6Ly 1Ky 2Lc 0Hn 4J5 0HY 0Ll 3Jq 1JR 3Hj 2JZ 2L6 7HZ 4GY 0JY 4Jb 1JB 1Jh 4Lv 3L3 0K5 4Kt 0Kf 9Ji" (<- `(tactic| intro _));let u <-rlX "Or Ic:r Or.inr:r Or.inl:r;Fu Or.inr:r Or.inl:r;JE Ic:r Or.inl:r;HP JQ:aad;Exists JX:aad;M2 M2.mk:rrrr;PE zk Bq yl AD:rard;eF eF.mono:a?;dF dF.mono:ad;Paired Paired.nil:;g7 g7.mk:rrrkrkk;QB 3Kz 2Lo 0Kx 0Lf 1JO 2Ln 1LF;QM 0Ke 0Lw 0Lm 0L9;gp 2JT 2JK;PS 3Kr;u3 2I0 1JG" (<- `(tactic| first | assumption | rfl | exact λ _ _=>rfl | exact λ _=>rfl | decide +kernel))
 `(tactic| ((repeat' first | with_reducible $t:tactic | $u:tactic);all_goals try decide))
section
variable {P:Program} {w:World} {K:Frag} {mg:Str->Option Value} {base:Heap} {cl:Str->Addr}
set_option maxHeartbeats 4000000
theorem qJ (D:jg K mg "next_rows" ["rows", "k"] [] mh) (z_sorted:mg "sorted" = none) (z_set:mg "set" = none):lZ P w K mg base:=
 iI (N:=["rows", "k", "row"]) D rfl (λ ρ=>(ie (rB (dU fw (bT (i:=0)) (bi (i:=1))) mR)
  (ie (pH (iX nR (DE.dk (dU fw (bT (i:=2)) cH)) (DE.dk eK))
   (iS (DO.de (jK cG)))
   ka)
  (ie (pH (iX nR (DE.dk (dU fw (bT (i:=2)) cH)) (DE.dk eK))
   (iS (DO.de (jK (aJ (dU fw (bT (i:=2)) cH) cG))))
   ka)
  (ie (pH (iX nR (DE.dk (dU fw (bT (i:=2)) cH)) (DE.dk eK))
   (iS (DO.de (IR (P:=P) (w:=w) (DE.dk (DO.de (jK (aJ (dU lG (bT (i:=1)) cH) (aJ (dU fw (bT (i:=2)) cH) cG))))))))
   ka)
  (iS (DO.de (jK (aJ (dU lG (bT (i:=1)) cH) cG))))))))) (by right) rfl rfl (by right)
theorem qF (D:jg K mg "bodies_of" ["statement"] [] m7):mf P w K mg base:=
 iI (N:=["statement"]) D rfl (λ ρ=>by left) (by right) rfl rfl (by right)
theorem xU (D:jg K mg "placed" ["body", "around"] [.none] nU) (_:mf P w K mg base):tm P w K mg base:=
 rj (k:=1) (F:=λ n=>jZ K (bG n)) (Dd D λ _=>rfl) (λ n _=>iI (N:=["body", "around", "outer", "found", "statement", "inner"]) D rfl (λ ρ=>by left) (by right) rfl rfl (by right)) 8
theorem kM (D:jg K mg "expressions_of" ["statement"] [] gR) (_:mg "list" = none):eI P w K mg base:=
 iI (N:=["statement", "kind"]) D rfl (λ ρ=>by left) (by right) rfl rfl (by right)
theorem tq (D:jg K mg "given_by" ["statement"] [] o0):nK P w K mg base:=
 iI (N:=["statement"]) D rfl (λ ρ=>by left) (by right) rfl rfl (by right)
theorem qA (D:jg K mg "leaves_of" ["expression"] [] mC) {a_WORKINGS:Addr} (m_WORKINGS:mg "WORKINGS" = some (.ref a_WORKINGS)) (g_WORKINGS:∀ G,ez K G a_WORKINGS (([(Str.ofString "+"),(Str.ofString "-"),(Str.ofString "*"),(Str.ofString "div"),(Str.ofString "rem"),(Str.ofString "<"),(Str.ofString "=")]).map V.str)):mq P w K mg base:=
 rj (k:=0) (F:=λ n=>jZ K (bv n)) (Dd D λ _=>rfl) (λ n _=>iI (N:=["expression", "found", "part"]) D rfl (λ ρ=>(ie (pH (yX (iX CU (DE.dk (dU fw (bT (i:=0)) cH)) (DE.dk eK)) (xt (ws:=[(Str.ofString "+"),(Str.ofString "-"),(Str.ofString "*"),(Str.ofString "div"),(Str.ofString "rem"),(Str.ofString "<"),(Str.ofString "=")]) g_WORKINGS (DE.dk (dU fw (bT (i:=0)) cH))))
  (iS (DO.de (jK (aJ (bi (i:=0)) cG))))
  ka)
  (ie (uW (jK cG))
  (ie (ve (yC (zH (bi (i:=0)) (tz cH) su)) mR
   (jQ (w5 (aJ (bi (i:=2)) cG))))
  (vk (i:=1) (iS (bi (i:=1)))))))) (by right) rfl rfl (by right)) 9
theorem kP (D:wt (λ f fd=>Mk K (cl "Sheet") f/\df K fd ["self"] []) K "__init__" "Sheet.__init__" cA) (_:mg "Sheet" = some (.ref (cl "Sheet"))) (_:oo K (cl "Sheet")) (_:aE K (cl "Sheet") "rows") (_:aE K (cl "Sheet") "spots") (_:aE K (cl "Sheet") "name") (_:aE K (cl "Sheet") "slots"):gQ P w K mg base cl:=
 iq (N:=["self"]) D rfl (by left) (by right) rfl rfl (by right)
theorem qG (D:wt (λ f fd=>jV K (cl "Sheet") "lay" f/\df K fd ["self", "key"] []) K "lay" "Sheet.lay" fh) (_:mg "Sheet" = some (.ref (cl "Sheet"))) (_:oo K (cl "Sheet")) (_:aE K (cl "Sheet") "rows") (_:aE K (cl "Sheet") "spots") (_:aE K (cl "Sheet") "name") (_:aE K (cl "Sheet") "slots") (_:mg "len" = none):dI P w K mg base cl:=
 iq (N:=["self", "key"]) D rfl (by left) (by right) rfl rfl (by right)
theorem oh (D:wt (λ f fd=>jV K (cl "Sheet") "begin" f/\df K fd ["self", "name", "slots"] []) K "begin" "Sheet.begin" dD) (h_Sheet_lay:dI P w K mg base cl) (_:mg "Sheet" = some (.ref (cl "Sheet"))) (_:oo K (cl "Sheet")) (_:aE K (cl "Sheet") "rows") (_:aE K (cl "Sheet") "spots") (_:aE K (cl "Sheet") "name") (_:aE K (cl "Sheet") "slots"):j8 P w K mg base cl:=
 iq (N:=["self", "name", "slots"]) D rfl (by left) (by obtain ⟨_,_,⟨_,_⟩,_⟩:=h_Sheet_lay;right) rfl rfl (by right)
theorem rM (D:wt (λ f fd=>jV K (cl "Sheet") "add" f/\df K fd ["self", "row"] []) K "add" "Sheet.add" fj) (_:mg "Sheet" = some (.ref (cl "Sheet"))) (_:oo K (cl "Sheet")) (_:aE K (cl "Sheet") "rows") (_:aE K (cl "Sheet") "spots") (_:aE K (cl "Sheet") "name") (_:aE K (cl "Sheet") "slots"):cY P w K mg base cl:=
 iq (N:=["self", "row"]) D rfl (by left) (by right) rfl rfl (by right)
theorem oK (D:wt (λ f fd=>jV K (cl "Sheet") "free" f/\df K fd ["self"] []) K "free" "Sheet.free" dZ) (_:mg "Sheet" = some (.ref (cl "Sheet"))) (_:oo K (cl "Sheet")) (_:aE K (cl "Sheet") "rows") (_:aE K (cl "Sheet") "spots") (_:aE K (cl "Sheet") "name") (_:aE K (cl "Sheet") "slots") (_:mg "len" = none):dQ P w K mg base cl:=
 iq (N:=["self"]) D rfl (by left) (by right) rfl rfl (by right)
theorem ur (D:jg K mg "settled" ["row", "spots"] [] pW):qc P w K mg base cl:=
 iq (N:=["row", "spots"]) D rfl (by left) (by right) rfl rfl (by right)
theorem mH (D:jg K mg "names_within" ["body"] [] ji) (_:tm P w K mg base) (_:nK P w K mg base) (_:eI P w K mg base) (_:mq P w K mg base):iK P w K mg base:=
 iI (N:=["body", "names", "statement", "around", "given", "expression"]) D rfl (λ ρ=>by left) (by right) rfl rfl (by right)
theorem tp (D:jg K mg "slots_of" ["params", "body"] [] nX) (_:iK P w K mg base) (_:mg "len" = none):nF P w K mg base cl:=
 iq (N:=["params", "body", "slots", "name"]) D rfl (by left) (by right) rfl rfl (by right)
theorem jL (D:jg K mg "make_expression" ["sheet", "line", "expression", "at"] [] gz) (h_Sheet_add:cY P w K mg base cl) (m_Sheet:mg "Sheet" = some (.ref (cl "Sheet"))) (cl_Sheet:oo K (cl "Sheet")) (n_Sheet_rows:aE K (cl "Sheet") "rows") (n_Sheet_spots:aE K (cl "Sheet") "spots") (n_Sheet_name:aE K (cl "Sheet") "name") (n_Sheet_slots:aE K (cl "Sheet") "slots") {a_SIGNS:Addr} (m_SIGNS:mg "SIGNS" = some (.ref a_SIGNS)) (g_SIGNS:∀ G,ez K G a_SIGNS (([(Str.ofString "lane"),(Str.ofString "lanes"),(Str.ofString "mine")]).map V.str)):gq P w K mg base cl:=
 rj (k:=1) (F:=λ n=>jY K cl (bz n)) (zJ D λ _ _=>rfl) (λ n _=>iq (N:=["sheet", "line", "expression", "at", "kind"]) D rfl ((lM (wg λ ρ=>(rB (dU fw (bT (i:=2)) cH) mR))
  (pN (kG λ ρ=>(iX nR (bT (i:=4)) (DE.dk eK)))
   (eU (jr (c := "Sheet") (dR λ ρ=>(bi (i:=0))) (gw λ ρ=>(aJ (ou (aJ eK (aJ (bi (i:=1)) (aJ (bi (i:=3)) (aJ (dU fw (bT (i:=2)) cH) cG))))) cG))))
   (pN (kG λ ρ=>(iX nR (bT (i:=4)) (DE.dk eK)))
   (eU (jr (c := "Sheet") (dR λ ρ=>(bi (i:=0))) (jo (yp (jo (dR λ ρ=>eK) (jo (dR λ ρ=>(bi (i:=1))) (jo (dR λ ρ=>(bi (i:=3))) (jo (wv (yD (c := "Sheet") cl_Sheet n_Sheet_slots (dR λ ρ=>(bi (i:=0)))) (dR λ ρ=>(dU fw (bT (i:=2)) cH))) vf))))) vf)))
   (pN (kG λ ρ=>(Fc (ws:=[(Str.ofString "lane"),(Str.ofString "lanes"),(Str.ofString "mine")]) g_SIGNS (bT (i:=4))))
   (eU (jr (c := "Sheet") (dR λ ρ=>(bi (i:=0))) (gw λ ρ=>(aJ (ou (aJ eK (aJ (bi (i:=1)) (aJ (bi (i:=3)) (aJ (bi (i:=4)) cG))))) cG))))
   (pN (kG λ ρ=>(iX nR (bT (i:=4)) (DE.dk eK)))
   (lM (eU (mW (gw λ ρ=>(aJ (bi (i:=0)) (aJ (bi (i:=1)) (aJ (dU fw (bT (i:=2)) cH) (aJ (bi (i:=3)) cG)))))))
  (eU (jr (c := "Sheet") (dR λ ρ=>(bi (i:=0))) (gw λ ρ=>(aJ (ou (aJ eK (aJ (bi (i:=1)) (aJ (bi (i:=3)) (aJ (bi (i:=3)) cG))))) cG)))))
   (lM (eU (mW (gw λ ρ=>(aJ (bi (i:=0)) (aJ (bi (i:=1)) (aJ (dU fw (bT (i:=2)) cH) (aJ (bi (i:=3)) cG)))))))
  (lM (eU (mW (gw λ ρ=>(aJ (bi (i:=0)) (aJ (bi (i:=1)) (aJ (dU fw (bT (i:=2)) cH) (aJ (dU lG (bT (i:=3)) cH) cG)))))))
  (eU (jr (c := "Sheet") (dR λ ρ=>(bi (i:=0))) (gw λ ρ=>(aJ (ou (aJ eK (aJ (bi (i:=1)) (aJ (bi (i:=3)) (aJ (bi (i:=4)) (aJ (bi (i:=3)) (aJ (dU lG (bT (i:=3)) cH) cG))))))) cG)))))))))))) (by obtain ⟨_,_,⟨_,_⟩,_⟩:=h_Sheet_add;right) rfl rfl (by right)) 9
theorem rG (D:jg K mg "make_rest" ["sheet", "statement"] [] lY) (h_Sheet_free:dQ P w K mg base cl) (h_Sheet_add:cY P w K mg base cl) (_:mg "Sheet" = some (.ref (cl "Sheet"))) (_:oo K (cl "Sheet")) (_:aE K (cl "Sheet") "rows") (_:aE K (cl "Sheet") "spots") (_:aE K (cl "Sheet") "name") (_:aE K (cl "Sheet") "slots") (_:mg "len" = none):mF P w K mg base cl:=
 iq (N:=["sheet", "statement", "kind", "line", "first"]) D rfl (by left) (by obtain ⟨_,_,⟨_,_⟩,_⟩:=h_Sheet_free;obtain ⟨_,_,⟨_,_⟩,_⟩:=h_Sheet_add;right) rfl rfl (by right)
theorem ud {n k:Nat} (hk:10<=k) (D:jg K mg "make_if" ["sheet", "statement", "loop"] [] lJ) (h_Sheet_add:cY P w K mg base cl) (h_Sheet_free:dQ P w K mg base cl) (_:fc P w K mg base cl n (k+0)) (h_Sheet_lay:dI P w K mg base cl) (_:mg "Sheet" = some (.ref (cl "Sheet"))) (_:oo K (cl "Sheet")) (_:aE K (cl "Sheet") "rows") (_:aE K (cl "Sheet") "spots") (_:aE K (cl "Sheet") "name") (_:aE K (cl "Sheet") "slots"):pT P w K mg base cl n (k+1):=
 iq (N:=["sheet", "statement", "loop", "line"]) D rfl (by left) (by obtain ⟨_,_,⟨_,_⟩,_⟩:=h_Sheet_add;obtain ⟨_,_,⟨_,_⟩,_⟩:=h_Sheet_free;obtain ⟨_,_,⟨_,_⟩,_⟩:=h_Sheet_lay;right) rfl rfl (by right)
theorem oW {n k:Nat} (hk:10<=k) (D:jg K mg "make_while" ["sheet", "statement"] [] io) (h_Sheet_add:cY P w K mg base cl) (h_Sheet_free:dQ P w K mg base cl) (_:fc P w K mg base cl n (k+0)) (h_Sheet_lay:dI P w K mg base cl) (_:mg "Sheet" = some (.ref (cl "Sheet"))) (_:oo K (cl "Sheet")) (_:aE K (cl "Sheet") "rows") (_:aE K (cl "Sheet") "spots") (_:aE K (cl "Sheet") "name") (_:aE K (cl "Sheet") "slots"):kD P w K mg base cl n (k+1):=
 iq (N:=["sheet", "statement", "line"]) D rfl (by left) (by obtain ⟨_,_,⟨_,_⟩,_⟩:=h_Sheet_add;obtain ⟨_,_,⟨_,_⟩,_⟩:=h_Sheet_free;obtain ⟨_,_,⟨_,_⟩,_⟩:=h_Sheet_lay;right) rfl rfl (by right)
theorem kc {n k:Nat} (hk:10<=k) (D:jg K mg "make_statement" ["sheet", "statement", "loop"] [] eM) (h_Sheet_lay:dI P w K mg base cl) (h_Sheet_add:cY P w K mg base cl) (_:gq P w K mg base cl) (_:eI P w K mg base) (h_Sheet_free:dQ P w K mg base cl) (_:pT P w K mg base cl n (k+1)) (_:kD P w K mg base cl n (k+1)) (_:mF P w K mg base cl) (_:mg "Sheet" = some (.ref (cl "Sheet"))) (_:oo K (cl "Sheet")) (_:aE K (cl "Sheet") "rows") (_:aE K (cl "Sheet") "spots") (_:aE K (cl "Sheet") "name") (_:aE K (cl "Sheet") "slots") (_:mg "enumerate" = none):gY P w K mg base cl n (k+2):=
 iq (N:=["sheet", "statement", "loop", "kind", "line", "at", "expression"]) D rfl (by left) (by obtain ⟨_,_,⟨_,_⟩,_⟩:=h_Sheet_lay;obtain ⟨_,_,⟨_,_⟩,_⟩:=h_Sheet_add;obtain ⟨_,_,⟨_,_⟩,_⟩:=h_Sheet_free;right) rfl rfl (by right)
theorem rA {n k:Nat} (hk:10<=k) (D:jg K mg "make_body" ["sheet", "body", "loop"] [] jj) (_:gY P w K mg base cl n (k+2)):fc P w K mg base cl (n+1) (k+3):=
 iq (N:=["sheet", "body", "loop", "statement"]) D rfl (by left) (by right) rfl rfl (by right)
theorem C6 (D:jg K mg "made" ["program"] [] y9) (h_Sheet___init__:gQ P w K mg base cl) (h_Sheet_begin:j8 P w K mg base cl) (_:nF P w K mg base cl) (_:tE P w K mg base cl) (h_Sheet_lay:dI P w K mg base cl) (h_Sheet_add:cY P w K mg base cl) (_:qc P w K mg base cl) (_:mg "Sheet" = some (.ref (cl "Sheet"))) (_:oo K (cl "Sheet")) (_:aE K (cl "Sheet") "rows") (_:aE K (cl "Sheet") "spots") (_:aE K (cl "Sheet") "name") (_:aE K (cl "Sheet") "slots"):zh P w K mg base cl:=
 iq (N:=["program", "sheet", "ordered", "name", "params", "body", "line", "last"]) D rfl (by left) (by obtain ⟨_,_,⟨_,_⟩,_⟩:=h_Sheet___init__;obtain ⟨_,_,⟨_,_⟩,_⟩:=h_Sheet_begin;obtain ⟨_,_,⟨_,_⟩,_⟩:=h_Sheet_lay;obtain ⟨_,_,⟨_,_⟩,_⟩:=h_Sheet_add;right) rfl rfl (by right)
theorem oU (D:jg K mg "_law_whole" ["_law_found"] [] kX) (_:mg "isinstance" = none) (_:mg "bool" = none) (_:mg "int" = none):kZ P w K mg base:=
 iI (N:=["_law_found"]) D rfl (λ ρ=>by left) (by right) rfl rfl (by right)
theorem mP (D:jg K mg "_law_cell_at" ["_law_script", "_law_k"] [] je) (_:mg "len" = none):fZ P w K mg base:=
 iI (N:=["_law_script", "_law_k"]) D rfl (λ ρ=>by left) (by right) rfl rfl (by right)
theorem nZ (D:jg K mg "_law_spread" ["_law_cell", "_law_k"] [] jB):gJ P w K mg base:=
 iI (N:=["_law_cell", "_law_k", "_law_big", "_law_number"]) D rfl (λ ρ=>by left) (by right) rfl rfl (by right)
theorem pc (D:jg K mg "_law_names" ["_law_number"] [] lh) (_:mg "range" = none) (_:mg "len" = none):kI P w K mg base:=
 iI (N:=["_law_number", "_law_letters", "_law_kept", "_law_long", "_law_place_here", "_law_rest", "_law_base", "_law_k", "_law_found", "_law_sign", "_law_word"]) D rfl (λ ρ=>by left) (by right) rfl rfl (by right)
theorem oQ (D:jg K mg "_law_place" ["_law_number", "_law_names_here"] [] lc):iz P w K mg base:=
 iI (N:=["_law_number", "_law_names_here", "_law_kind", "_law_rest", "_law_near", "_law_lane", "_law_other"]) D rfl (λ ρ=>by left) (by right) rfl rfl (by right)
theorem nW (D:jg K mg "_law_simple" ["_law_number", "_law_names_here"] [] jA) (_:iz P w K mg base):gE P w K mg base:=
 iI (N:=["_law_number", "_law_names_here", "_law_kind", "_law_rest", "_law_word", "_law_leaf"]) D rfl (λ ρ=>by left) (by right) rfl rfl (by right)
theorem rH (D:jg K mg "_law_call" ["_law_rest", "_law_x", "_law_names_here", "_law_rooms_here"] [] lU) (_:gE P w K mg base) (_:mg "len" = none) (_:mg "range" = none):mi P w K mg base:=
 iI (N:=["_law_rest", "_law_x", "_law_names_here", "_law_rooms_here", "_law_others", "_law_name", "_law_params", "_law_handed", "_law_k"]) D rfl (λ ρ=>by left) (by right) rfl rfl (by right)
theorem uJ (D:jg K mg "_law_op" ["_law_number", "_law_names_here", "_law_rooms_here"] [] pB) (_:gE P w K mg base) (_:iz P w K mg base) (_:mi P w K mg base):qd P w K mg base:=
 iI (N:=["_law_number", "_law_names_here", "_law_rooms_here", "_law_kind", "_law_x", "_law_rest"]) D rfl (λ ρ=>by left) (by right) rfl rfl (by right)
theorem km (D:jg K mg "_law_closed_up" ["_law_frame"] [] gZ):gW P w K mg base cl:=
 iq (N:=["_law_frame"]) D rfl (by left) (by right) rfl rfl (by right)
theorem lg (D:jg K mg "_law_may_stand" ["_law_op_here", "_law_pile", "_law_main"] [] gS) (_:mg "any" = none) (_:mg "len" = none):gP P w K mg base cl:=
 iq (N:=["_law_op_here", "_law_pile", "_law_main"]) D rfl (by left) (by right) rfl rfl (by right)
theorem qu (D:jg K mg "_law_laid" ["_law_ops", "_law_line", "_law_main"] [] m6) (_:gP P w K mg base cl) (_:gW P w K mg base cl):lS P w K mg base cl:=
 iq (N:=["_law_ops", "_law_line", "_law_main", "_law_body", "_law_here", "_law_pile", "_law_op_here", "_law_frame"]) D rfl (by left) (by right) rfl rfl (by right)
theorem oT (D:jg K mg "_law_rooms" ["_law_head", "_law_names_here", "_law_variables_here"] [] kK) (_:mg "range" = none):kR P w K mg base:=
 iI (N:=["_law_head", "_law_names_here", "_law_variables_here", "_law_many", "_law_rooms_here", "_law_k", "_law_digits", "_law_count"]) D rfl (λ ρ=>by left) (by right) rfl rfl (by right)
theorem kY (D:jg K mg "_law_variables" ["_law_head", "_law_names_here"] [] hJ) (_:mg "list" = none):ib P w K mg base:=
 iI (N:=["_law_head", "_law_names_here"]) D rfl (λ ρ=>by left) (by right) rfl rfl (by right)
theorem mO (D:jg K mg "_law_program" ["_law_script", "_law_names_here", "_law_most"] [] iM) (_:gJ P w K mg base) (_:fZ P w K mg base) (_:ib P w K mg base) (_:kR P w K mg base) (_:qd P w K mg base) (_:lS P w K mg base cl) (_:mg "len" = none) (_:mg "enumerate" = none) (_:mg "list" = none):iO P w K mg base:=
 Ce.imp (sp:=jY K cl ge) (iq (N:=["_law_script", "_law_names_here", "_law_most", "_law_head", "_law_variables_here", "_law_rooms_here", "_law_ops", "_law_k", "_law_cell", "_law_number", "_law_program_here", "_law_line", "_law_room", "_law_body", "_law_last"]) D rfl (by left) (by right) rfl rfl (by right)) λ _ _ _ _ h=>EV h
theorem t8 (D:jg K mg "_law_due" ["_law_row", "_law_k"] [] nk):o6 P w K mg base:=
 iI (N:=["_law_row", "_law_k"]) D rfl (λ ρ=>by left) (by right) rfl rfl (by right)
theorem ER {R:Addr->FuncData->Prop} (hlaw:∀ ns:List Int,ns.length<=63->∃ S,y4 [.list (ns.map .int)] []=some (.ok (.bool true),S)) (D:wt R K "law" "law" sv) (_:zh P w K mg base cl) (_:iO P w K mg base) (_:kI P w K mg base) (_:gJ P w K mg base) (_:fZ P w K mg base) (_:lZ P w K mg base) (_:o6 P w K mg base) (_:kZ P w K mg base) (_:mg "list" = none) (_:mg "enumerate" = none) (_:mg "isinstance" = none) (_:mg "all" = none):Ce R P w K mg base 33 ["_law_script"] (qN K):=
 Ce.imp (sp:=jY K cl y4) (iq (N:=["_law_script", "_law_handed", "_law_kept", "_law_k", "_law_row", "_law_found"]) D rfl (by left) (by right) rfl rfl (by right)) λ vs H Q E h=>by
  obtain ⟨a,ns,rfl,hS,h63,q⟩:=h;obtain ⟨Sf,hl⟩:=hlaw ns h63;exact ⟨[],H,[],[.list (ns.map .int)],.bool true,Sf,.refl _,zX,.cons (.lst hS (.ints ns)) .nil,hl,λ v ρ' G' H' g s dv=>by cases dv;exact q H'⟩
end
inductive Tr where
 | num (v:Int) | sig (k:Fin 3) | nam (x:Str) | box (t:Tr) | op (k:Fin 7) (a b:Tr)
noncomputable def Cn (i:Fin 3):Str:=[Str.ofString "lane", Str.ofString "lanes", Str.ofString "mine"].getD i.1 ""
noncomputable def sh (i:Fin 7):Str:=[Str.ofString "+", Str.ofString "-", Str.ofString "*", Str.ofString "div", Str.ofString "rem", Str.ofString "<", Str.ofString "="].getD i.1 ""
noncomputable def tw:Tr->W
 | .num v=>.tuple [.str "num", .int v]
 | .sig k=>.tuple [.str (Cn k)]
 | .nam x=>.tuple [.str "name", .str x]
 | .box t=>.tuple [.str "box", tw t]
 | .op k a b=>.tuple [.str (sh k),tw a,tw b]
noncomputable def qe:Tr->Nat
 | .num _=>0 | .sig _=>0 | .nam _=>0
 | .box t=>qe t+1
 | .op _ a b=>max (qe a) (qe b)+1
noncomputable def j4:Tr->Nat
 | .num _=>1 | .sig _=>1 | .nam _=>1
 | .box t=>j4 t+1
 | .op _ a b=>j4 a+j4 b+1
noncomputable def jW:Tr->List Tr
 | .num v=>[.num v] | .sig k=>[.sig k] | .nam x=>[.nam x]
 | .box t=>jW t
 | .op _ a b=>jW a++jW b
theorem gj:∀ t,(jW t).length<=j4 t
 | .num _=>by simp [jW,j4]
 | .sig _=>by simp [jW,j4]
 | .nam _=>by simp [jW,j4]
 | .box t=>by have:=gj t;simp [jW,j4];omega
 | .op _ a b=>by have:=gj a;have:=gj b;simp [jW,j4];omega
theorem Mo:∀ k,decide (Cn k=Str.ofString "num")=false:=by decide +kernel
theorem Le:∀ k,decide (Cn k=Str.ofString "name")=false:=by decide +kernel
theorem Mm:∀ k,decide (Cn k=Str.ofString "box")=false:=by decide +kernel
theorem LX:∀ k,iZ (.str (Cn k)) (.tuple [.str "+", .str "-", .str "*", .str "div", .str "rem", .str "<", .str "="])=some true:=by decide +kernel
theorem Me:∀ k,gF (.str (Cn k)) (.tuple [.str "lane", .str "lanes", .str "mine"])=some true:=by decide +kernel
theorem LS:∀ k,decide (sh k=Str.ofString "num")=false:=by decide +kernel
theorem L4:∀ k,decide (sh k=Str.ofString "name")=false:=by decide +kernel
theorem LC:∀ k,decide (sh k=Str.ofString "box")=false:=by decide +kernel
theorem Mj:∀ k,iZ (.str (sh k)) (.tuple [.str "+", .str "-", .str "*", .str "div", .str "rem", .str "<", .str "="])=some false:=by decide +kernel
theorem LQ:∀ k,gF (.str (sh k)) (.tuple [.str "lane", .str "lanes", .str "mine"])=some false:=by decide +kernel
theorem Mh:decide (Str.ofString "num" = Str.ofString "box")=false:=by decide +kernel
theorem LZ:decide (Str.ofString "num" = Str.ofString "name")=false:=by decide +kernel
theorem Mg:iZ (.str "num") (.tuple [.str "+", .str "-", .str "*", .str "div", .str "rem", .str "<", .str "="])=some true:=by decide +kernel
theorem Mf:decide (Str.ofString "name" = Str.ofString "box")=false:=by decide +kernel
theorem Mv:decide (Str.ofString "name" = Str.ofString "num")=false:=by decide +kernel
theorem Mi:iZ (.str "name") (.tuple [.str "+", .str "-", .str "*", .str "div", .str "rem", .str "<", .str "="])=some true:=by decide +kernel
theorem Mt:decide (Str.ofString "box" = Str.ofString "num")=false:=by decide +kernel
theorem Lg:decide (Str.ofString "box" = Str.ofString "name")=false:=by decide +kernel
theorem LN:gF (.str "box") (.tuple [.str "lane", .str "lanes", .str "mine"])=some false:=by decide +kernel
theorem qB {pf:List W->Option W} {e x:W} {ds es:List W} (h:pf [x]=some (.list es)) (hz:ds.length+es.length<=9000):cV pf [.val e,.own ds,.val x]=some (.nx [.val e,.own (ds++es),.val x]):=by
 have hz:=sz _ hz;first | rfl | simp! [cV,gU,uD,h,if_pos hz]
theorem ig:∀ (t:Tr) (n:Nat),qe t<n->j4 t<=500->bv n [tw t]=some (.list ((jW t).map tw))
 | _,0,h,_=>absurd h (Nat.not_lt_zero _)
 | .num v,n+1,_,_=>by
  have z1:=sz 1 (by decide);first | rfl | simp! [bv,tw,jW,uD,oH,Mh,Mg,if_pos z1]
 | .sig k,n+1,_,_=>by
  have z1:=sz 1 (by decide);first | rfl | simp! [bv,tw,jW,uD,oH,Mm,LX,if_pos z1]
 | .nam x,n+1,_,_=>by
  have z1:=sz 1 (by decide);first | rfl | simp! [bv,tw,jW,uD,oH,Mf,Mi,if_pos z1]
 | .box t,n+1,h,hc=>by
  have z0:=sz 0 (by decide);have ih:=ig t n (by simp only [qe] at h;omega) (by simp only [j4] at hc;omega);have l:=gj t;have st:∀ e,cV (bv n) [.val e,.own [],.val (tw t)]=some (.nx [.val e,.own ([]++(jW t).map tw),.val (tw t)]):=λ e=>qB ih (by simp only [j4] at hc;simp;omega);first | rfl | simp! [bv,tw,jW,uD,oH,decide_true,Bool.not_true,oa,zm,if_pos z0,be,st]
 | .op k a b,n+1,h,hc=>by
  have z0:=sz 0 (by decide);have iha:=ig a n (by simp only [qe] at h;omega) (by simp only [j4] at hc;omega);have ihb:=ig b n (by simp only [qe] at h;omega) (by simp only [j4] at hc;omega);have la:=gj a;have lb:=gj b;have s1:∀ e,cV (bv n) [.val e,.own [],.val (tw a)]=some (.nx [.val e,.own ([]++(jW a).map tw),.val (tw a)]):=λ e=>qB iha (by simp only [j4] at hc;simp;omega);have s2:∀ e,cV (bv n) [.val e,.own ((jW a).map tw),.val (tw b)]=some (.nx [.val e,.own ((jW a).map tw++(jW b).map tw),.val (tw b)]):=λ e=>qB ihb (by simp only [j4] at hc;simp;omega);first | rfl | simp! [bv,tw,jW,uD,oH,LC,Mj,oa,zm,if_pos z0,be,s1,s2,List.map_append]
noncomputable def ye (l:List Tr):List Str:=l.filterMap λ t=>match t with | .nam x=>some x | _=>none
noncomputable def tV (t:Tr):List Str:=ye (jW t)
theorem wx:∀ (l:List Tr),b0 (ae 0) (av bZ (ao aR (ak 0) (dC (.int (0)))) (dC (.str "name"))) (ao aR (ak 0) (dC (.int (1)))) [.no] (l.map tw)=some ((ye l).map .str)
 | []=>rfl
 | t::l=>by
  have ih:=wx l;cases t with
  | num v=>simp! [List.map_cons,b0,tw,uD,oH,LZ,ih];simp [ye]
  | sig k=>simp! [List.map_cons,b0,tw,uD,oH,Le,ih];simp [ye]
  | nam x=>simp! [List.map_cons,b0,tw,uD,oH,wD,decide_true,ih];simp [ye]
  | box t=>simp! [List.map_cons,b0,tw,uD,oH,Lg,ih];simp [ye]
  | op k a b=>simp! [List.map_cons,b0,tw,uD,oH,L4,ih];simp [ye]
theorem tF {f:DS->Option W} {δ:DS} {a b:Str} (h1:f δ=some (.str a)) (h2:decide (a=b)=false):av bZ f (dC (.str b)) δ=some false:=by first | rfl | simp! [uD,h1,h2]
theorem tT {f:DS->Option W} {δ:DS} {a:Str} (h1:f δ=some (.str a)):av bZ f (dC (.str a)) δ=some true:=by first | rfl | simp! [uD,h1]
theorem sF {f:DS->Option W} {δ:DS} {a b:Str} {S:ai} (h1:f δ=some (.str a)) (h2:decide (a=b)=false):ab (av bZ f (dC (.str b))) δ S=some (.ok false,S):=az (tF h1 h2)
theorem sT {f:DS->Option W} {δ:DS} {a:Str} {S:ai} (h1:f δ=some (.str a)):ab (av bZ f (dC (.str a))) δ S=some (.ok true,S):=az (tT h1)
theorem x0 {f:DS->Option W} {δ:DS} {w:W} {l:List W} (h:f δ=some (.tuple (w::l))):ao aR f (dC (.int (0))) δ=some w:=by simp only [ao,h,dC,Option.bind_some,rZ,oH]
theorem x1 {f:DS->Option W} {δ:DS} {v w:W} {l:List W} (h:f δ=some (.tuple (v::w::l))):ao aR f (dC (.int (1))) δ=some w:=by simp only [ao,h,dC,Option.bind_some,rZ,wD]
theorem x2 {f:DS->Option W} {δ:DS} {u v w:W} {l:List W} (h:f δ=some (.tuple (u::v::w::l))):ao aR f (dC (.int (2))) δ=some w:=by simp only [ao,h,dC,Option.bind_some,rZ,xu]
theorem x3 {f:DS->Option W} {δ:DS} {t u v w:W} {l:List W} (h:f δ=some (.tuple (t::u::v::w::l))):ao aR f (dC (.int (3))) δ=some w:=by simp only [ao,h,dC,Option.bind_some,rZ,A7]
theorem cp {f g:DS->Option dm} {δ:DS} {d:W} (h:f δ=some (.rt d)):aq f g δ=some (.rt d):=by unfold aq;rw [h]
theorem iF {f:DS->Option W} {δ:DS} {a b:Str} {g k:DS->Option dm} (h1:f δ=some (.str a)) (h2:decide (a=b)=false):aq (bP (av bZ f (dC (.str b))) g aC) k δ=k δ:=ah (ax (b:=false) (tF h1 h2) rfl) rfl
theorem iT {f:DS->Option W} {δ:DS} {a:Str} {d:W} {g k:DS->Option dm} (h1:f δ=some (.str a)) (h2:g δ=some (.rt d)):aq (bP (av bZ f (dC (.str a))) g aC) k δ=some (.rt d):=cp (ax (b:=true) (tT h1) h2)
theorem fF {f:DS->Option W} {δ:DS} {a b:Str} {S:ai} {g k:DS->ai->SO} (h1:f δ=some (.str a)) (h2:decide (a=b)=false):cv (ab (av bZ f (dC (.str b)))) g k δ S=k δ S:=bR (sF h1 h2)
theorem fT {f:DS->Option W} {δ:DS} {a:Str} {S:ai} {g k:DS->ai->SO} (h1:f δ=some (.str a)):cv (ab (av bZ f (dC (.str a)))) g k δ S=g δ S:=d5 (sT h1)
theorem iA {f:DS->Option W} {g:DS->Option (List W)} {δ:DS} {a:W} {l:List W} (h1:f δ=some a) (h2:g δ=some l):aa f g δ=some (a::l):=by simp only [aa,h1,h2,Option.bind_some,Option.map_some]
theorem Hk {g:DS->Option (List W)} {δ:DS} {l:List W} (h:g δ=some l) (hl:l.length<=9000):aF g δ=some (.tuple l):=by
 have z:=sz _ hl;simp only [aF,h,Option.bind_some,if_pos z]
theorem Ej {f:DS->Option W} {δ:DS} {a:W} (h:f δ=some a):aF (aa f af) δ=some (.tuple [a]):=Hk (iA h rfl) (by simp)
theorem qf {f g:DS->Option W} {δ:DS} {a b:W} (h:f δ=some a) (h':g δ=some b):aF (aa f (aa g af)) δ=some (.tuple [a,b]):=Hk (iA h (iA h' rfl)) (by simp)
theorem CT {f g k:DS->Option W} {δ:DS} {a b c:W} (h:f δ=some a) (h':g δ=some b) (h2:k δ=some c):aF (aa f (aa g (aa k af))) δ=some (.tuple [a,b,c]):=Hk (iA h (iA h' (iA h2 rfl))) (by simp)
theorem LM {f g k m:DS->Option W} {δ:DS} {a b c d:W} (h:f δ=some a) (h':g δ=some b) (h2:k δ=some c) (h3:m δ=some d):aF (aa f (aa g (aa k (aa m af)))) δ=some (.tuple [a,b,c,d]):=Hk (iA h (iA h' (iA h2 (iA h3 rfl)))) (by simp)
theorem mN {f g:DS->Option W} {δ:DS} {l:List W} {i:Int} {x:W} (h1:f δ=some (.list l)) (h2:g δ=some (.int i)) (h3:fG l i=some x):ao aR f g δ=some x:=by simp only [ao,h1,h2,Option.bind_some,Di,h3]
theorem oF {f:List W->Option W} {fa:DS->Option (List W)} {δ:DS} {ds:List W} {d:W} (h1:fa δ=some ds) (h2:f ds=some d):bt f fa δ=some d:=by simp only [bt,h1,Option.bind_some,h2]
theorem Jr {c:W->W->Option Bool} {f g:DS->Option W} {δ:DS} {a b:W} {r:Bool} (h1:f δ=some a) (h2:g δ=some b) (h3:c a b=some r):av c f g δ=some r:=by simp only [av,h1,h2,Option.bind_some,h3]
theorem dO {c:W->W->Option W} {f g:DS->Option W} {δ:DS} {a b r:W} (h1:f δ=some a) (h2:g δ=some b) (h3:c a b=some r):ao c f g δ=some r:=by simp only [ao,h1,h2,Option.bind_some,h3]
theorem dA {f g:DS->Option Bool} {δ:DS} {r:Bool} (h1:f δ=some true) (h2:g δ=some r):um f g δ=some r:=by first | rfl | simp! [uD,h1,h2]
theorem IV {f g:DS->Option Bool} {δ:DS} (h1:f δ=some false):um f g δ=some false:=by first | rfl | simp! [uD,h1]
theorem HA {f g:DS->Option W} {δ:DS} {a b:W} (h:f δ=some a) (h':g δ=some b):aa f (aa g af) δ=some [a,b]:=iA h (iA h' rfl)
theorem Lz {f g k:DS->Option W} {δ:DS} {a b c:W} (h:f δ=some a) (h':g δ=some b) (h2:k δ=some c):aa f (aa g (aa k af)) δ=some [a,b,c]:=iA h (iA h' (iA h2 rfl))
theorem IG {ix:List (Option Nat)} {fi:DS->Option (List W)} {h:W->DS->Option DS} {c:DS->Option Bool} {fe:DS->Option W} {δ:DS} {ds r:List W} (h1:fi δ=some ds) (h2:ds.length<=9000) (h3:b0 h c fe (bI ix δ) ds=some r):aT (gx ix fi h c fe) δ=some (.list r):=by
 have z:=sz _ h2;simp only [aT,gx,h1,Option.bind_some,if_pos z,h3,Option.map_some]
theorem Ko {i:Nat} {f:DS->Option W} {δ:DS} {ds:List W} {d:W} (h1:kB i δ=some ds) (h2:f δ=some d) (h3:ds.length<9000):d8 i f δ=some (.nx (δ.set i (.own (ds++[d])))):=by
 have z:=Nat.lt_of_lt_of_le h3 (sz 9000 (Nat.le_refl _));simp only [d8,h1,h2,Option.bind_some,if_pos z]
inductive Hd where
 | set (x:Str) (t:Tr) | put (a b:Tr) | tell (t:Tr) | ret (t:Tr) | brk | agn | mt | stp
 | join (x j:Str) (t:Tr) | call (x f:Str) (ts:List Tr) | ifs (t:Tr) (bs:List W) | whl (t:Tr) (bs:List W)
noncomputable def cS (i:Fin 12):Str:=[Str.ofString "set", Str.ofString "put", Str.ofString "tell", Str.ofString "return", Str.ofString "break", Str.ofString "again", Str.ofString "meet", Str.ofString "stop", Str.ofString "join", Str.ofString "call", Str.ofString "if", Str.ofString "while"].getD i.1 ""
noncomputable def aG:Hd->Fin 12
 | .set _ _=>0 | .put _ _=>1 | .tell _=>2 | .ret _=>3 | .brk=>4 | .agn=>5 | .mt=>6 | .stp=>7 | .join _ _ _=>8 | .call _ _ _=>9 | .ifs _ _=>10 | .whl _ _=>11
noncomputable def rs:Hd->List W
 | .set x t=>[.str x,tw t] | .put a b=>[tw a,tw b] | .tell t=>[tw t] | .ret t=>[tw t] | .brk=>[] | .agn=>[] | .mt=>[] | .stp=>[]
 | .join x j t=>[.str x,.str j,tw t] | .call x f ts=>[.str x,.str f,.list (ts.map tw)] | .ifs t bs=>tw t::bs | .whl t bs=>tw t::bs
noncomputable def bQ (k:Int) (h:Hd):W:=.tuple (.str (cS (aG h))::.int k::rs h)
theorem kq:∀ i:Fin 12,decide (cS i=Str.ofString "while")=decide (i=11)/\decide (cS i=Str.ofString "if")=decide (i=10)/\decide (cS i=Str.ofString "return")=decide (i=3)/\decide (cS i=Str.ofString "call")=decide (i=9)/\decide (cS i=Str.ofString "set")=decide (i=0)/\decide (cS i=Str.ofString "join")=decide (i=8):=by decide +kernel
theorem ki:∀ i:Fin 12,gF (.str (cS i)) (.tuple [.str "set", .str "call", .str "join"])=some (decide (i=0∨i=9∨i=8))/\gF (.str (cS i)) (.tuple [.str "break", .str "again"])=some (decide (i=4∨i=5))/\gF (.str (cS i)) (.tuple [.str "if", .str "while"])=some (decide (i=10∨i=11))/\gF (.str (cS i)) (.tuple [.str "meet", .str "join"])=some (decide (i=6∨i=8)):=by decide +kernel
theorem tD {f:DS->Option W} {δ:DS} {a b:Str} (h1:f δ=some (.str a)):av bZ f (dC (.str b)) δ=some (decide (a=b)):=by first | rfl | simp! [uD,h1]
noncomputable def Lr:List W->Option (List (List W))
 | [x]=>(iE x).map λ a=>[a]
 | _=>none
noncomputable def LK:List W->Option (List (List W))
 | [x,y]=>(iE x).bind λ a=>if Gn y=true then some [a] else (iE y).map λ b=>[a,b]
 | _=>none
noncomputable def jH:Hd->Option (List (List W))
 | .ifs _ l=>LK l
 | .whl _ l=>Lr l
 | _=>some []
theorem Aq {x:W} {a:List W} (h:iE x=some a):x=.list a:=by
 cases x with
 | list b=>cases h;rfl
 | _=>cases h
theorem yh {l:List W} {bs:List (List W)} (h:Lr l=some bs):∃ a,l=[.list a]/\bs=[a]:=by
 cases l with
 | nil=>cases h
 | cons x r=>
  cases r with
  | nil=>
   obtain ⟨a,e,rfl⟩:=oM h
   exact ⟨a,by rw [Aq e],rfl⟩
  | cons y r=>cases h
theorem yz {l:List W} {bs:List (List W)} (h:LK l=some bs):∃ a,(∃ b,l=[.list a,.list b]/\bs=[a,b])∨(l=[.list a,.none]/\bs=[a]):=by
 cases l with
 | nil=>cases h
 | cons x r=>
  cases r with
  | nil=>cases h
  | cons y r=>
   cases r with
   | nil=>
    obtain ⟨a,e,h⟩:=oB h
    have e':=Aq e;by_cases z:Gn y=true
    . rw [if_pos z] at h;cases h;cases y with
      | none=>exact ⟨a,.inr ⟨by rw [e'],rfl⟩⟩
      | _=>cases z
    . rw [if_neg z] at h;obtain ⟨b,e2,rfl⟩:=oM h
      exact ⟨a,.inl ⟨b,by rw [e',Aq e2],rfl⟩⟩
   | cons z r=>cases h
theorem sQ (t:Tr) (l:List W):jH (.ifs t l)≠some []/\jH (.whl t l)≠some []:=by
 constructor
 . intro z;obtain ⟨a,⟨b,_,e⟩ | ⟨_,e⟩⟩:=yz z <;> cases e
 . intro z;obtain ⟨a,_,e⟩:=yh z;cases e
theorem Kj {h:Hd} {bs:List (List W)} (hb:jH h=some bs) (e:aG h=11):∃ t a,rs h=[tw t,.list a]/\bs=[a]:=by
 cases h with
 | whl t l=>
  obtain ⟨a,rfl,rfl⟩:=yh hb;exact ⟨t,a,rfl,rfl⟩
 | _=>exact nomatch (show false=true from decide_eq_true e)
theorem KJ {h:Hd} {bs:List (List W)} (hb:jH h=some bs) (e:aG h=10):∃ t a,(∃ b,rs h=[tw t,.list a,.list b]/\bs=[a,b])∨(rs h=[tw t,.list a,.none]/\bs=[a]):=by
 cases h with
 | ifs t l=>
  obtain ⟨a,⟨b,rfl,rfl⟩ | ⟨rfl,rfl⟩⟩:=yz hb
  . exact ⟨t,a,.inl ⟨b,rfl,rfl⟩⟩
  . exact ⟨t,a,.inr ⟨rfl,rfl⟩⟩
 | _=>exact nomatch (show false=true from decide_eq_true e)
theorem CL {f:DS->Option W} {δ:DS} {a:W} (h:f δ=some a):aT (bn (aa f af)) δ=some (.list [a]):=by
 unfold aT bn;rw [iA h rfl];rfl
theorem uy (k:Int) (h:Hd) (bs:List (List W)) (hb:jH h=some bs):iN [bQ k h]=some (.list (bs.map .list)):=by
 let δ:DS:=[.val (bQ k h)]
 have a0:ao aR (ak 0) (dC (.int (0))) δ=some (.str (cS (aG h))):=x0 rfl;have t1:=tD (b:=Str.ofString "while") a0;have t2:=tD (b:=Str.ofString "if") a0;rw [(kq _).1] at t1;rw [(kq _).2.1] at t2;have p0:∀ {r},rs h=r->ak 0 δ=some (.tuple (.str (cS (aG h))::.int k::r)):=λ e=>by rw [<-e];rfl
 refine aU rfl ?_;by_cases h11:aG h=11
 . rw [decide_eq_true h11] at t1;obtain ⟨t,a,er,rfl⟩:=Kj hb h11;exact cp (ax (b:=true) t1 (ay (CL (x3 (p0 er)))))
 rw [decide_eq_false h11] at t1;refine ah (ax (b:=false) t1 rfl) ?_;by_cases h10:aG h=10
 . rw [decide_eq_true h10] at t2;have sl:∀ {t r},rs h=t::r->cq (oa (ac 0) (dP (dC (.int (3)))) dr) δ=some r:=λ {t r} e=>by
    have c:i7 (.str (cS (aG h))::.int k::rs h) (some ((3:Nat):Int)) none=r:=(Iw _ 3).trans (by rw [e];rfl);exact congrArg some c
   obtain ⟨t,a,⟨b,er,rfl⟩ | ⟨er,rfl⟩⟩:=KJ hb h10
   . exact cp (ax (b:=true) t2 (ay (IG (sl er) (by simp) rfl)))
   . exact cp (ax (b:=true) t2 (ay (IG (sl er) (by simp) rfl)))
 . rw [decide_eq_false h10] at t2;refine ah (ax (b:=false) t2 rfl) (ay ?_);have:bs=[]:=by cases h <;> first | (cases hb;rfl) | exact absurd rfl h10 | exact absurd rfl h11
   subst this;rfl
noncomputable def zd:Hd->Option Str
 | .set x _=>some x | .join x _ _=>some x | .call x _ _=>some x | _=>none
noncomputable def sP (h:Hd):W:=match zd h with | some x=>.str x | none=>.none
theorem xp (k:Int) (h:Hd):jM [bQ k h]=some (sP h):=by
 have z3:=sz 3 (by decide);let δ:DS:=[.val (bQ k h)]
 have a0:ao aR (ak 0) (dC (.int (0))) δ=some (.str (cS (aG h))):=x0 rfl;have e:aF (aa (dC (.str "set")) (aa (dC (.str "call")) (aa (dC (.str "join")) af))) δ=some (.tuple [.str "set", .str "call", .str "join"]):=by first | rfl | simp! [uD,if_pos z3]
 have t:av gF (ao aR (ak 0) (dC (.int (0)))) (aF (aa (dC (.str "set")) (aa (dC (.str "call")) (aa (dC (.str "join")) af)))) δ=some (decide (aG h=0∨aG h=9∨aG h=8)):=by
  simp only [av,a0,e,Option.bind_some];exact (ki (aG h)).1
 refine aU rfl (ay ?_);show D9 _ _ _ δ=_;unfold D9;rw [t];cases h with
 | set x u=>exact (x2 rfl:ao aR (ak 0) (dC (.int (2))) [.val (bQ k (.set x u))]=some (.str x))
 | join x j u=>exact (x2 rfl:ao aR (ak 0) (dC (.int (2))) [.val (bQ k (.join x j u))]=some (.str x))
 | call x f ts=>exact (x2 rfl:ao aR (ak 0) (dC (.int (2))) [.val (bQ k (.call x f ts))]=some (.str x))
 | _=>rfl
noncomputable abbrev Bk:=Int×Hd
noncomputable def iu (b:Bk):W:=bQ b.1 b.2
noncomputable def cO (l:List Bk):List W:=l.map iu
noncomputable def yb (b:Bk):Bool:=decide (aG b.2=11)
noncomputable abbrev It:=Int×Hd×List Bk
noncomputable def rQ (i:It):W:=.tuple [bQ i.1 i.2.1,.tuple (i.2.2.map iu)]
mutual
inductive rP (P:Bool->Hd->Prop):Nat->Bool->Hd->Nat->Prop
 | lf {n:Nat} {wh:Bool} {h:Hd}:P wh h->jH h=some []->rP P n wh h 1
 | whl {n:Nat} {wh:Bool} {t:Tr} {a:List Bk} {c:Nat}:P wh (.whl t [.list (cO a)])->gK P n true a c->rP P (n+1) wh (.whl t [.list (cO a)]) (c+1)
 | if1 {n:Nat} {wh:Bool} {t:Tr} {a:List Bk} {c:Nat}:P wh (.ifs t [.list (cO a),.none])->gK P n wh a c->rP P (n+1) wh (.ifs t [.list (cO a),.none]) (c+1)
 | if2 {n:Nat} {wh:Bool} {t:Tr} {a b:List Bk} {c c':Nat}:P wh (.ifs t [.list (cO a),.list (cO b)])->gK P n wh a c->gK P n wh b c'->rP P (n+1) wh (.ifs t [.list (cO a),.list (cO b)]) (c+c'+1)
inductive gK (P:Bool->Hd->Prop):Nat->Bool->List Bk->Nat->Prop
 | nil {n:Nat} {wh:Bool}:gK P n wh [] 0
 | cons {n:Nat} {wh:Bool} {k:Int} {h:Hd} {l:List Bk} {c c':Nat}:rP P n wh h c->gK P n wh l c'->gK P n wh ((k,h)::l) (c+c')
end
structure GI (P:Bool->Hd->Prop) (m:Nat) (i:It):Prop where
 p:∃ wh,P wh i.2.1/\(wh=true->∃ b∈i.2.2,yb b=true)
 l:i.2.2.length<=m
theorem D8 (ar:List W) (x:W) (h:ar.length<9000):vX (.tuple ar) (.tuple [x])=some (.tuple (ar++[x])):=by
 cases ar with
 | nil=>rfl
 | cons y r=>
  have hz:(y::r).length+[x].length<=sizeLine:=sz _ (by simp at h ⊢;omega);show bw (.tuple (y::r)) (.tuple [x])=_;exact if_pos ⟨by simp,hz⟩
noncomputable def CB (P:Bool->Hd->Prop) (n:Nat) (wh:Bool) (l:List Bk) (c:Nat) (is:List It):Prop:=∀ Q:Hd->Prop,(∀ i∈is,Q i.2.1)->gK (λ wh h=>P wh h/\Q h) n wh l c
noncomputable def CS (P:Bool->Hd->Prop) (n:Nat) (wh:Bool) (h:Hd) (c:Nat) (is:List It):Prop:=∀ Q:Hd->Prop,(∀ i∈is,Q i.2.1)->rP (λ wh h=>P wh h/\Q h) n wh h c
section
variable {P:Bool->Hd->Prop}
theorem ua {pf:List W->Option W} {s0 s1:Sl} {ar acc es:List W} {st a:W} (h:pf [a,.tuple (ar++[st])]=some (.list es)) (hz:acc.length+es.length<=9000) (hr:ar.length<9000):i8 pf [s0,s1,.val (.tuple ar),.own acc,.val st,.val a]=some (.nx [s0,s1,.val (.tuple ar),.own (acc++es),.val st,.val a]):=by
 have z:=sz _ hz;have z1:=sz 1 (by decide);first | rfl | simp! [i8,gU,uD,if_pos z1,D8 ar st hr,h,if_pos z]
theorem jE {h:W->DS->Option DS} {f:DS->Option dm} {d:W} {ds:List W} {δ δ2 δ':DS} {o:Option dm} (h1:h d δ=some δ2) (h2:f δ2=some (.nx δ')) (h3:be h f ds δ'=o):be h f (d::ds) δ=o:=by
 rw [<-h3];show (h d δ).bind _=_;rw [h1];show (match f δ2 with | some (.nx δ')=>_ | some (.ct δ')=>_ | some (.bk δ')=>_ | some (.rt d)=>_ | none=>_)=_;rw [h2]
theorem Bu {m:Nat} {l:List Bk} {ar:List Bk} {is:List It} (e:∃ s4 s5,be (ae 4) (dH (bG m)) (cO l) [.val (.list (cO l)),.val (.tuple (ar.map iu)),.val (.tuple (ar.map iu)),.own [],.no,.no]=some (.nx [.val (.list (cO l)),.val (.tuple (ar.map iu)),.val (.tuple (ar.map iu)),.own (is.map rQ),s4,s5])):bG (m+1) [.list (cO l),.tuple (ar.map iu)]=some (.list (is.map rQ)):=by
 have z0:=sz 0 (by decide);obtain ⟨s4,s5,e⟩:=e;show bO 2 6 _ _=_;refine aU rfl ?_;refine ah (δ1:=[.val (.list (cO l)),.val (.tuple (ar.map iu)),.val (.tuple (ar.map iu)),.no,.no,.no]) (by first | rfl | simp! [b8,uD,if_pos z0]) ?_;refine ah (δ1:=[.val (.list (cO l)),.val (.tuple (ar.map iu)),.val (.tuple (ar.map iu)),.own [],.no,.no]) (by first | rfl | simp! [uD,if_pos z0]) ?_;refine ah (fA (ds:=cO l) (by first | rfl | simp! [uD]) e) ?_;first | rfl | simp! [uD]
theorem oe {m:Nat} {s0 s1 s5:Sl} {ar acc:List W} {k:Int} {h:Hd} {bs:List (List W)} (hb:jH h=some bs) (hl:acc.length<900) {o:Option dm} (e:be (ae 5) (i8 (bG m)) (bs.map .list) [s0,s1,.val (.tuple ar),.own (acc++[.tuple [bQ k h,.tuple ar]]),.val (bQ k h),s5]=o):dH (bG m) [s0,s1,.val (.tuple ar),.own acc,.val (bQ k h),s5]=o:=by
 have z2:=sz 2 (by decide);have zl:acc.length<sizeLine:=Nat.lt_of_lt_of_le hl (sz 900 (by decide));refine ah (δ1:=[s0,s1,.val (.tuple ar),.own (acc++[.tuple [bQ k h,.tuple ar]]),.val (bQ k h),s5]) (by first | rfl | simp! [uD,if_pos z2,if_pos zl]) ?_;exact fA (ds:=bs.map .list) (by first | rfl | simp! [uD,uy k h bs hb]) e
noncomputable def PB (P:Bool->Hd->Prop) (n:Nat):Prop:=∀ (wh:Bool) (l:List Bk) (c:Nat),gK P n wh l c->∀ (m M:Nat) (ar:List Bk) (acc:List W) (s0 s1 s4 s5:Sl),n<=m->ar.length+n<=M->M<100->(wh=true->∃ b∈ar,yb b=true)->acc.length+c<899->∃ (is:List It) (s4' s5':Sl),is.length=c/\(∀ i∈is,GI P M i)/\CB P n wh l c is/\be (ae 4) (dH (bG m)) (cO l) [s0,s1,.val (.tuple (ar.map iu)),.own acc,s4,s5]=some (.nx [s0,s1,.val (.tuple (ar.map iu)),.own (acc++is.map rQ),s4',s5'])
theorem v4 {n:Nat} (ih:PB P n) {wh:Bool} {a:List Bk} {c:Nat} (g:gK P n wh a c) {m M:Nat} {ar:List Bk} (x:Bk) (hm:n<=m) (hM:ar.length+(n+1)<=M) (h100:M<100) (hw:wh=true->∃ b∈ar++[x],yb b=true) (hc:c<899):∃ is:List It,is.length=c/\(∀ i∈is,GI P M i)/\CB P n wh a c is/\bG (m+1) [.list (cO a),.tuple (ar.map iu++[iu x])]=some (.list (is.map rQ)):=by
 obtain ⟨is,s4,s5',l1,i1,q1,e1⟩:=ih wh a c g m M (ar++[x]) [] (.val (.list (cO a))) (.val (.tuple ((ar++[x]).map iu))) .no .no hm (by simp;omega) h100 hw (by simpa using hc);have ec:=Bu (is:=is) ⟨s4,s5',e1⟩;rw [List.map_append] at ec;exact ⟨is,l1,i1,q1,ec⟩
theorem wl {n M:Nat} {wh:Bool} {k:Int} {h:Hd} {ar:List Bk} (p:P wh h) (hM:ar.length+n<=M) (hw:wh=true->∃ b∈ar,yb b=true):GI P M (k,h,ar):=⟨⟨wh,p,hw⟩,by show ar.length<=M;omega⟩
theorem yV {m:Nat} {s0 s1 s5:Sl} {ar:List Bk} {acc:List W} {k:Int} {h:Hd} {a:List W} {is:List It} (hb:jH h=some [a]) (hl:acc.length+is.length<899) (hr:ar.length<100) (ec:bG m [.list a,.tuple (ar.map iu++[iu (k,h)])]=some (.list (is.map rQ))):dH (bG m) [s0,s1,.val (.tuple (ar.map iu)),.own acc,.val (bQ k h),s5]=some (.nx [s0,s1,.val (.tuple (ar.map iu)),.own (acc++((k,h,ar)::is:List It).map rQ),.val (bQ k h),.val (.list a)]):=by
 refine oe hb (by omega) ((jE (ds:=[]) rfl (ua (es:=is.map rQ) ec (by simp;omega) (by simp;omega)) rfl).trans ?_);simp [rQ,be,iu]
theorem EG {m:Nat} {s0 s1 s5:Sl} {ar:List Bk} {acc:List W} {k:Int} {h:Hd} {a b:List W} {is js:List It} (hb:jH h=some [a,b]) (hl:acc.length+is.length+js.length<899) (hr:ar.length<100) (ec:bG m [.list a,.tuple (ar.map iu++[iu (k,h)])]=some (.list (is.map rQ))) (ed:bG m [.list b,.tuple (ar.map iu++[iu (k,h)])]=some (.list (js.map rQ))):dH (bG m) [s0,s1,.val (.tuple (ar.map iu)),.own acc,.val (bQ k h),s5]=some (.nx [s0,s1,.val (.tuple (ar.map iu)),.own (acc++((k,h,ar)::(is++js):List It).map rQ),.val (bQ k h),.val (.list b)]):=by
 refine oe hb (by omega) ((jE (ds:=[.list b]) rfl (ua (es:=is.map rQ) ec (by simp;omega) (by simp;omega)) (jE (ds:=[]) rfl (ua (es:=js.map rQ) ed (by simp;omega) (by simp;omega)) rfl)).trans ?_);simp [rQ,be,iu]
theorem GU {n:Nat} (ih:∀ k,n=k+1->PB P k) {wh:Bool} {h:Hd} {c:Nat} (g:rP P n wh h c) (m M:Nat) (ar:List Bk) (acc:List W) (s0 s1 s5:Sl) (k:Int) (hm:n<=m) (hM:ar.length+n<=M) (h100:M<100) (hw:wh=true->∃ b∈ar,yb b=true) (hl:acc.length+c<899):∃ (is:List It) (s5':Sl),is.length=c/\(∀ i∈is,GI P M i)/\CS P n wh h c is/\dH (bG m) [s0,s1,.val (.tuple (ar.map iu)),.own acc,.val (bQ k h),s5]=some (.nx [s0,s1,.val (.tuple (ar.map iu)),.own (acc++is.map rQ),.val (bQ k h),s5']):=by
 have al:∀ {x:It} {l:List It},GI P M x->(∀ i∈l,GI P M i)->∀ i∈x::l,GI P M i:=λ {x l} h1 h2 i hi=>(List.mem_cons.mp hi).elim (λ e=>e▸h1) (h2 i);have up:∀ x:Bk,wh=true->∃ b∈ar++[x],yb b=true:=λ x z=>by obtain ⟨b,hb,q⟩:=hw z;exact ⟨b,by simp [hb],q⟩
 cases g with
 | lf p hb=>exact ⟨[(k,h,ar)],s5,rfl,al (wl p hM hw) (λ i hi=>absurd hi List.not_mem_nil),λ Q hq=>.lf ⟨p,hq _ (.head _)⟩ hb,oe hb (by omega) rfl⟩
 | @whl _ _ t a c p g=>
  obtain ⟨m,rfl⟩:∃ j,m=j+1:=⟨m-1,by omega⟩
  obtain ⟨is,l1,i1,q1,ec⟩:=v4 (m:=m) (ih _ rfl) g (k,.whl t [.list (cO a)]) (by omega) hM h100 (λ _=>⟨_,List.mem_append.mpr (.inr (List.mem_singleton.mpr rfl)),rfl⟩) (by omega);exact ⟨_,_,by simp [l1],al (wl p hM hw) i1,λ Q hq=>.whl ⟨p,hq _ (.head _)⟩ (q1 Q λ i hi=>hq i (.tail _ hi)),yV rfl (by omega) (by omega) ec⟩
 | @if1 _ _ t a c p g=>
  obtain ⟨m,rfl⟩:∃ j,m=j+1:=⟨m-1,by omega⟩
  obtain ⟨is,l1,i1,q1,ec⟩:=v4 (m:=m) (ih _ rfl) g (k,.ifs t [.list (cO a),.none]) (by omega) hM h100 (up _) (by omega);exact ⟨_,_,by simp [l1],al (wl p hM hw) i1,λ Q hq=>.if1 ⟨p,hq _ (.head _)⟩ (q1 Q λ i hi=>hq i (.tail _ hi)),yV rfl (by omega) (by omega) ec⟩
 | @if2 _ _ t a b c c' p g g'=>
  obtain ⟨m,rfl⟩:∃ j,m=j+1:=⟨m-1,by omega⟩
  obtain ⟨is,l1,i1,q1,ec⟩:=v4 (m:=m) (ih _ rfl) g (k,.ifs t [.list (cO a),.list (cO b)]) (by omega) hM h100 (up _) (by omega);obtain ⟨js,l2,i2,q2,ed⟩:=v4 (m:=m) (ih _ rfl) g' (k,.ifs t [.list (cO a),.list (cO b)]) (by omega) hM h100 (up _) (by omega);exact ⟨_,_,by simp [l1,l2],al (wl p hM hw) (λ i hi=>(List.mem_append.mp hi).elim (i1 i) (i2 i)),λ Q hq=>.if2 ⟨p,hq _ (.head _)⟩ (q1 Q λ i hi=>hq i (.tail _ (List.mem_append.mpr (.inl hi)))) (q2 Q λ i hi=>hq i (.tail _ (List.mem_append.mpr (.inr hi)))),EG rfl (by omega) (by omega) ec ed⟩
theorem yi {n:Nat} (ih:∀ k,n=k+1->PB P k):PB P n:=λ wh l=>by
 induction l with
 | nil=>
  intro c g m M ar acc s0 s1 s4 s5 _ _ _ _ _;cases g;exact ⟨[],s4,s5,rfl,(λ i hi=>absurd hi List.not_mem_nil),λ _ _=>.nil,by simp [cO,be]⟩
 | cons b l il=>
  intro c g m M ar acc s0 s1 s4 s5 hm hM h100 hw hl;cases g with
  | cons g1 g2=>
   have p2:=Nat.zero_le 0;obtain ⟨is,t5,l1,i1,q1,e1⟩:=GU ih g1 m M ar acc s0 s1 s5 _ hm hM h100 hw (by omega);obtain ⟨js,u4,u5,l2,i2,q2,e2⟩:=il _ g2 m M ar (acc++is.map rQ) s0 s1 (.val (bQ _ _)) t5 hm hM h100 hw (by simp;omega);refine ⟨is++js,u4,u5,by simp [l1,l2],λ i hi=>(List.mem_append.mp hi).elim (i1 i) (i2 i),λ Q hq=>.cons (q1 Q λ i hi=>hq i (List.mem_append.mpr (.inl hi))) (q2 Q λ i hi=>hq i (List.mem_append.mpr (.inr hi))),?_⟩;refine (jE (δ2:=[s0,s1,.val (.tuple (ar.map iu)),.own acc,.val (bQ _ _),s5]) rfl e1 e2).trans ?_;simp
theorem HV:∀ n,PB P n:=λ n=>by
 induction n with
 | zero=>exact yi λ k z=>by cases z
 | succ n ih=>exact yi λ k z=>by cases z;exact ih
theorem ul {wh:Bool} {n:Nat} {l:List Bk} {c:Nat} (g:gK P n false l c) (hn:n<=6) (hc:c<899):∃ is:List It,is.length=c/\(∀ i∈is,GI P 6 i)/\CB P n false l c is/\bG 8 [.list (cO l),.none]=some (.list (is.map rQ)):=by
 have z0:=sz 0 (by decide);obtain ⟨is,s4,s5,l1,i1,q1,e⟩:=HV _ _ _ _ g 7 6 [] [] (.val (.list (cO l))) (.val .none) .no .no (by omega) (by simpa using hn) (by decide) (λ z=>by cases z) (by simpa using hc);refine ⟨is,l1,i1,q1,?_⟩;show bO 2 6 _ _=_;refine aU rfl ?_;refine ah (δ1:=[.val (.list (cO l)),.val .none,.val (.tuple []),.no,.no,.no]) (by first | rfl | simp! [b8,uD,if_pos z0]) ?_;refine ah (δ1:=[.val (.list (cO l)),.val .none,.val (.tuple []),.own [],.no,.no]) (by first | rfl | simp! [uD,if_pos z0]) ?_;refine ah (fA (ds:=cO l) (by first | rfl | simp! [uD]) e) ?_;first | rfl | simp! [uD,List.nil_append]
end
noncomputable def ci:Hd->List Tr
 | .set _ t=>[t] | .put a b=>[a,b] | .tell t=>[t] | .ret t=>[t] | .brk=>[] | .agn=>[] | .mt=>[] | .stp=>[]
 | .join _ _ t=>[t] | .call _ _ ts=>ts | .ifs t _=>[t] | .whl t _=>[t]
theorem kz:∀ i:Fin 12,decide (cS i=Str.ofString "put")=decide (i=1)/\decide (cS i=Str.ofString "set")=decide (i=0)/\decide (cS i=Str.ofString "call")=decide (i=9)/\decide (cS i=Str.ofString "join")=decide (i=8):=by decide +kernel
theorem kj:∀ i:Fin 12,gF (.str (cS i)) (.tuple [.str "tell", .str "if", .str "while", .str "return"])=some (decide (i=2∨i=10∨i=11∨i=3)):=by decide +kernel
theorem qh (k:Int) (h:Hd) (hc:(ci h).length<=900):dy [bQ k h]=some (.list ((ci h).map tw)):=by
 have z4:=sz 4 (by decide);have z0:=sz 0 (by decide);have z1:=sz 1 (by decide);have z2:=sz 2 (by decide);refine aU rfl (ah (δ1:=[.val (bQ k h),.val (.str (cS (aG h)))]) (aS (x0 rfl) rfl) ?_);have hin:av gF (ak 1) (aF (aa (dC (.str "tell")) (aa (dC (.str "if")) (aa (dC (.str "while")) (aa (dC (.str "return")) af))))) [.val (bQ k h),.val (.str (cS (aG h)))]=some (decide (aG h=2∨aG h=10∨aG h=11∨aG h=3)):=by first | rfl | simp! [uD,if_pos z4,kj]
 have jn:decide (cS 8=Str.ofString "join")=true:=(kz 8).2.2.2;have jf:∀ i:Fin 12,i≠8->decide (cS i=Str.ofString "join")=false:=λ i hi=>(kz i).2.2.2.trans (decide_eq_false hi);cases h with
 | set x t=>
  refine ah (ax (b:=false) hin rfl) ?_;refine (iF rfl (kz 0).1).trans ?_;exact iT rfl (ay (by first | rfl | simp! [bQ,rs,ci,uD,xu,A7,vU,if_pos z1,if_pos z2]))
 | put a b=>
  refine ah (ax (b:=false) hin rfl) ?_;exact iT rfl (ay (by first | rfl | simp! [bQ,rs,ci,uD,xu,A7,vU,if_pos z1,if_pos z2]))
 | tell t=>exact cp (ax (b:=true) hin (ay (by first | rfl | simp! [bQ,rs,ci,uD,xu,if_pos z1])))
 | ret t=>exact cp (ax (b:=true) hin (ay (by first | rfl | simp! [bQ,rs,ci,uD,xu,if_pos z1])))
 | ifs t bs=>exact cp (ax (b:=true) hin (ay (by first | rfl | simp! [bQ,rs,ci,uD,xu,if_pos z1])))
 | whl t bs=>exact cp (ax (b:=true) hin (ay (by first | rfl | simp! [bQ,rs,ci,uD,xu,if_pos z1])))
 | join x j t=>
  refine ah (ax (b:=false) hin rfl) ?_;refine (iF rfl (kz 8).1).trans ?_;refine (iF rfl (kz 8).2.1).trans ?_;refine (iF rfl (kz 8).2.2.1).trans ?_;exact ay (by first | rfl | simp! [bQ,aG,rs,ci,uD,vU,jn,if_pos z1,if_pos z0])
 | call x f ts=>
  refine ah (ax (b:=false) hin rfl) ?_;refine (iF rfl (kz 9).1).trans ?_;refine (iF rfl (kz 9).2.1).trans ?_;have zl:(ts.map tw).length<=sizeLine:=sz _ (by simp only [ci] at hc;simp;omega);exact iT rfl (ay (by first | rfl | simp! [bQ,rs,ci,uD,xu,A7,vU,if_pos z1,if_pos z2,if_pos zl]))
 | brk=>
  refine ah (ax (b:=false) hin rfl) ?_;refine (iF rfl (kz 4).1).trans ?_;refine (iF rfl (kz 4).2.1).trans ?_;refine (iF rfl (kz 4).2.2.1).trans ?_;exact ay (by first | rfl | simp! [bQ,aG,rs,ci,uD,vU,jf 4 (by decide),if_pos z1,if_pos z0])
 | agn=>
  refine ah (ax (b:=false) hin rfl) ?_;refine (iF rfl (kz 5).1).trans ?_;refine (iF rfl (kz 5).2.1).trans ?_;refine (iF rfl (kz 5).2.2.1).trans ?_;exact ay (by first | rfl | simp! [bQ,aG,rs,ci,uD,vU,jf 5 (by decide),if_pos z1,if_pos z0])
 | mt=>
  refine ah (ax (b:=false) hin rfl) ?_;refine (iF rfl (kz 6).1).trans ?_;refine (iF rfl (kz 6).2.1).trans ?_;refine (iF rfl (kz 6).2.2.1).trans ?_;exact ay (by first | rfl | simp! [bQ,aG,rs,ci,uD,vU,jf 6 (by decide),if_pos z1,if_pos z0])
 | stp=>
  refine ah (ax (b:=false) hin rfl) ?_;refine (iF rfl (kz 7).1).trans ?_;refine (iF rfl (kz 7).2.1).trans ?_;refine (iF rfl (kz 7).2.2.1).trans ?_;exact ay (by first | rfl | simp! [bQ,aG,rs,ci,uD,vU,jf 7 (by decide),if_pos z1,if_pos z0])
noncomputable def j0 (ts:List Tr):Nat:=(ts.map j4).sum
noncomputable def eN (ts:List Tr):List Str:=ts.flatMap tV
noncomputable def B8 (h:Hd):List Str:=(zd h).toList++eN (ci h)
noncomputable def sU (is:List It):List Str:=is.flatMap λ i=>B8 i.2.1
noncomputable def Jz (t:Tr):Prop:=qe t<9/\j4 t<=300
structure BY (h:Hd):Prop where
 t:∀ t∈ci h,Jz t
 c:j0 (ci h)<=40
 l:(ci h).length<=40
theorem Cj (l:List Tr):(ye l).length<=l.length:=List.length_filterMap_le _ _
theorem v3 (t:Tr):(tV t).length<=j4 t:=Nat.le_trans (Cj _) (gj t)
theorem zQ:∀ (ts:List Tr),(eN ts).length<=j0 ts
 | []=>by simp [eN]
 | t::ts=>by
  have:=zQ ts;have:=v3 t;simp [eN,j0] at *;omega
theorem vS (h:Hd):(zd h).toList.length<=1:=by cases zd h <;> simp
theorem wp {h:Hd} (o:BY h):(B8 h).length<=41:=by
 have:=zQ (ci h);have:=vS h;have:=o.c;simp only [B8,List.length_append];omega
theorem rV:∀ {is:List It},(∀ i∈is,BY i.2.1)->(sU is).length<=41*is.length
 | [],_=>by simp [sU]
 | d::ds,h=>by
  have:=rV λ e he=>h e (List.mem_cons_of_mem _ he);have:=wp (h d (by simp));simp [sU] at *;omega
theorem vZ:∀ (ts:List Tr) (acc:List W) (s0 s2 s3 s4 s5:Sl),(∀ t∈ts,Jz t)->acc.length+j0 ts<=8000->∃ s5',be (ae 5) dq (ts.map tw) [s0,.own acc,s2,s3,s4,s5]=some (.nx [s0,.own (acc++(eN ts).map .str),s2,s3,s4,s5'])
 | [],acc,s0,s2,s3,s4,s5,_,_=>⟨s5,by simp [be,eN]⟩
 | t::ts,acc,s0,s2,s3,s4,s5,ht,h=>by
  have hc:j0 (t::ts)=j4 t+j0 ts:=by simp [j0]
  have hn:=v3 t;have hk:=ht t (by simp);have zl:((jW t).map tw).length<=sizeLine:=sz _ (by have:=gj t;have:=hk.2;simp;omega);have ze:acc.length+((tV t).map W.str).length<=sizeLine:=sz _ (by simp;omega);obtain ⟨s5',e⟩:=vZ ts (acc++(tV t).map .str) s0 s2 s3 s4 (.val (tw t)) (λ u hu=>ht u (by simp [hu])) (by simp;omega);have lv:=ig t 9 hk.1 (by have:=hk.2;omega);have nr:=wx (jW t);have st1:dq [s0,.own acc,s2,s3,s4,.val (tw t)]=some (.nx [s0,.own (acc++(tV t).map .str),s2,s3,s4,.val (tw t)]):=by
   first | rfl | simp! [dq,ny,gx,uD,lv,if_pos zl]
   rw [nr];first | rfl | simp only [Option.bind_some]
   rw [if_pos (show acc.length+((ye (jW t)).map W.str).length<=sizeLine from ze)];rfl
  refine ⟨s5',?_⟩;first | rfl | simp! [List.map_cons,be,uD,st1,e]
  simp [eN]
theorem AX (s0 s2 s3 s5:Sl) (acc:List W) (h:Hd) (hl:acc.length<9000):bP (av gn (ak 4) (dC .none)) (d8 1 (ac 4)) aC [s0,.own acc,s2,s3,.val (sP h),s5]=some (.nx [s0,.own (acc++(zd h).toList.map .str),s2,s3,.val (sP h),s5]):=by
 have hl:acc.length<sizeLine:=Nat.lt_of_lt_of_le hl (sz 9000 (by decide));cases h <;> simp! [zd,sP,uD,if_pos hl,List.append_nil,Option.toList,List.map_cons,List.map_nil]
theorem wu:∀ (is:List It) (s0:Sl) (acc:List W) (s2 s3 s4 s5:Sl),(∀ i∈is,BY i.2.1)->acc.length+41*is.length<=8000->∃ s2' s3' s4' s5',be (eA 2 (bc (ae 2) (bc (ae 3) eZ))) eL (is.map rQ) [s0,.own acc,s2,s3,s4,s5]=some (.nx [s0,.own (acc++(sU is).map .str),s2',s3',s4',s5'])
 | [],s0,acc,s2,s3,s4,s5,_,_=>⟨s2,s3,s4,s5,by simp [be,sU]⟩
 | (k,d,ar)::ds,s0,acc,s2,s3,s4,s5,ht,h=>by
  have hd:BY d:=ht _ (.head _);have h1:=vS d;have h2:=wp hd;have h3:=hd.c;simp only [List.length_cons] at h;obtain ⟨s5a,e1⟩:=vZ (ci d) (acc++(zd d).toList.map .str) s0 (.val (bQ k d)) (.val (.tuple (ar.map iu))) (.val (sP d)) s5 hd.t (by rw [List.length_append,List.length_map];omega);obtain ⟨s2',s3',s4',s5',e⟩:=wu ds s0 (acc++(B8 d).map .str) (.val (bQ k d)) (.val (.tuple (ar.map iu))) (.val (sP d)) s5a (λ u hu=>ht u (.tail _ hu)) (by rw [List.length_append,List.length_map];omega);have st:eL [s0,.own acc,.val (bQ k d),.val (.tuple (ar.map iu)),s4,s5]=some (.nx [s0,.own (acc++(B8 d).map .str),.val (bQ k d),.val (.tuple (ar.map iu)),.val (sP d),s5a]):=by
   refine ah (δ1:=[s0,.own acc,.val (bQ k d),.val (.tuple (ar.map iu)),.val (sP d),s5]) (by first | rfl | simp! [uD,xp]) ?_;refine ah (AX _ _ _ _ _ d (by omega)) ?_;have er:=qh k d (by have:=hd.l;omega);refine (fA (ds:=(ci d).map tw) (by first | rfl | simp! [uD,er]) e1).trans ?_;simp [B8]
  refine ⟨s2',s3',s4',s5',?_⟩;refine (jE (δ2:=[s0,.own acc,.val (bQ k d),.val (.tuple (ar.map iu)),s4,s5]) rfl st e).trans ?_;simp [sU]
theorem x4 {P:Bool->Hd->Prop} {n c:Nat} {l:List Bk} (g:gK P n false l c) (hP:∀ wh h,P wh h->BY h) (hn:n<=6) (hc:c<190):∃ N:List Str,cX [.list (cO l)]=some (.list (N.map .str))/\N.length<=41*c/\gK (λ wh h=>P wh h/\∀ x∈B8 h,x∈N) n false l c:=by
 have z0:=sz 0 (by decide);obtain ⟨is,l1,i1,q1,pr⟩:=ul (wh:=false) g hn (by omega);have ok:∀ i∈is,BY i.2.1:=λ i hi=>by obtain ⟨⟨wh,p,_⟩,_⟩:=i1 i hi;exact hP _ _ p
 obtain ⟨s2',s3',s4',s5',e⟩:=wu is (.val (.list (cO l))) [] .no .no .no .no ok (by simp;omega);refine ⟨sU is,?_,by rw [<-l1];exact rV ok,q1 (λ h=>∀ x∈B8 h,x∈sU is) λ i hi x hx=>List.mem_flatMap.mpr ⟨i,hi,hx⟩⟩;first | rfl | simp! [cX,ug,uD,if_pos z0,pr,e,List.nil_append]
noncomputable def dd:List Str->List Str->List Str
 | acc,[]=>acc
 | acc,x::r=>dd (if x∈acc then acc else acc++[x]) r
noncomputable def fL:Nat->List Str->List (bg×W)
 | _,[]=>[]
 | i,x::r=>(Sum.inr x,.int ((i+1:Nat):Int))::fL (i+1) r
theorem vM:∀ (N:List Str) (i:Nat) (x:Str),fL i (N++[x])=fL i N++[(Sum.inr x,.int ((i+N.length+1:Nat):Int))]
 | [],i,x=>by simp [fL]
 | y::N,i,x=>by
  first | rfl | simp only [List.cons_append,fL,vM N (i+1) x,List.length_cons]
  rw [show i+1+N.length+1=i+(N.length+1)+1 by omega]
theorem qr:∀ (N:List Str) (i:Nat),(fL i N).length=N.length
 | [],_=>rfl
 | y::N,i=>by simp [fL,qr N]
theorem rn:∀ (N:List Str) (i:Nat) (x:Str),x∉N->cr (fL i N) (Sum.inr x)=none
 | [],i,x,_=>rfl
 | y::N,i,x,h=>by
  have h':¬ y=x/\x∉N:=⟨λ e=>h (by simp [e]),λ e=>h (by simp [e])⟩
  have ih:=rn N (i+1) x h'.2;simp only [cr,fL,List.find?_cons,Sum.inr.injEq,h'.1,decide_false] at ih ⊢;exact ih
theorem ik:∀ (N:List Str) (i:Nat) (x:Str),x∈N->∃ j,N[j]?=some x/\cr (fL i N) (Sum.inr x)=some (.int ((i+j+1:Nat):Int))
 | y::N,i,x,h=>by
  by_cases e:y=x
  . subst e;exact ⟨0,rfl,by simp [cr,fL,List.find?_cons]⟩
  . obtain ⟨j,h1,h2⟩:=ik N (i+1) x ((List.mem_cons.mp h).resolve_left λ z=>e z.symm);refine ⟨j+1,by simpa using h1,?_⟩;have h3:cr (fL i (y::N)) (Sum.inr x)=cr (fL (i+1) N) (Sum.inr x):=by simp [cr,fL,List.find?_cons,e]
    rw [h3,h2,show i+1+j+1=i+(j+1)+1 by omega]
theorem lw {S:ai} {d:Nat} {kvs:List (bg×W)} {x:Str} (h:S[d]?=some (.dK kvs)):sJ (.ref d) (.str x) S=some (cr kvs (Sum.inr x)):=by simp [sJ,iJ,h,p9]
theorem Ew {S:ai} {d:Nat} {kvs:List (bg×W)} {x:Str} {v:W} (h:S[d]?=some (.dK kvs)) (hl:kvs.length<9000):ue (.ref d) (.str x) v S=some (S.set d (.dK (bV kvs (Sum.inr x) v))):=by
 have hl':kvs.length<sizeLine:=Nat.lt_of_lt_of_le hl (sz 9000 (by decide));simp [ue,iJ,h,p9,hl']
theorem Ar:∀ (l acc:List Str),(dd acc l).length<=acc.length+l.length
 | [],acc=>by simp [dd]
 | x::l,acc=>by
  unfold dd;have:=Ar l (if x∈acc then acc else acc++[x]);split at this <;> split <;> simp_all <;> omega
theorem jN:∀ (l acc:List Str) (S:ai) (d:Nat) (s0 s1 s3:Sl),S[d]?=some (.dK (fL 0 acc))->acc.length+l.length<=8000->∃ S' s3',bY (ae 3) dh (l.map .str) [s0,s1,.val (.ref d),s3] S=some (.nx [s0,s1,.val (.ref d),s3'],S')/\S'[d]?=some (.dK (fL 0 (dd acc l)))/\∀ m,m≠d->S'[m]?=S[m]?
 | [],acc,S,d,s0,s1,s3,hd,_=>⟨S,s3,rfl,hd,λ _ _=>rfl⟩
 | x::l,acc,S,d,s0,s1,s3,hd,hl=>by
  simp only [List.length_cons] at hl;have kl:=qr acc 0;by_cases hx:x∈acc
  . obtain ⟨j,j1,j2⟩:=ik acc 0 x hx;obtain ⟨S',s3',e1,e2,e3⟩:=jN l acc S d s0 s1 (.val (.str x)) hd (by omega);refine ⟨S',s3',?_,by simpa [dd,hx] using e2,e3⟩;have st:dh [s0,s1,.val (.ref d),.val (.str x)] S=some (.nx [s0,s1,.val (.ref d),.val (.str x)],S):=by
     first | rfl | simp! [dh,Bv,uS,uD,lw hd,j2,Option.isSome_some]
    exact (db rfl st).trans e1
  . have n0:=rn acc 0 x hx;have h1:(S.set d (.dK (fL 0 (acc++[x]))))[d]?=some (.dK (fL 0 (acc++[x]))):=set_eq' hd;obtain ⟨S',s3',e1,e2,e3⟩:=jN l (acc++[x]) _ d s0 s1 (.val (.str x)) h1 (by simp;omega);refine ⟨S',s3',?_,by simpa [dd,hx] using e2,λ m hm=>(e3 m hm).trans (List.getElem?_set_ne (λ z=>hm z.symm))⟩;have st:dh [s0,s1,.val (.ref d),.val (.str x)] S=some (.nx [s0,s1,.val (.ref d),.val (.str x)],S.set d (.dK (fL 0 (acc++[x])))):=by
     have pa:=Ew (x:=x) (v:=.int ((fL 0 acc).length+1)) hd (by omega);rw [p8 _ n0] at pa;have ev:fL 0 acc++[(Sum.inr x,W.int ((fL 0 acc).length+1))]=fL 0 (acc++[x]):=by
      rw [vM,kl];simp
     rw [ev] at pa;first | rfl | simp! [dh,Bv,oA,sd,F7,uS,uD,lw hd,n0,Option.isSome_none,Dh hd,pa]
    exact (db rfl st).trans e1
theorem wW (ps N:List Str) (b:W) (S:ai) (hn:cX [b]=some (.list (N.map .str))) (h:N.length<=7900) (hp:ps.length<=10):∃ S',jR [.list (ps.map .str),b] S=some (.ok (.ref S.length),S')/\S'[S.length]?=some (.dK (fL 0 (dd [] (ps++N))))/\∀ m,m≠S.length->S'[m]?=(S++[.dK []])[m]?:=by
 obtain ⟨S',s3',e1,e2,e3⟩:=jN (ps++N) [] (S++[.dK []]) S.length (.val (.list (ps.map .str))) (.val b) .no (by simp [fL]) (by simp;omega);refine ⟨S',?_,e2,e3⟩;have za:(ps.map W.str).length+(N.map W.str).length<=sizeLine:=sz _ (by simp;omega);have ga:bw (.list (ps.map W.str)) (.list (N.map W.str))=some (.list ((ps++N).map W.str)):=by rw [o7 za,List.map_append]
 refine (aY rfl).trans ?_;refine (congrArg dY (?_:_=some (.rt (.ref S.length),S'))).trans rfl;refine (ag (bU (d:=.ref S.length) (S1:=S++[.dK []]) rfl rfl)).trans ?_;refine (ag ((gg (S1:=S++[.dK []]) (ds:=(ps++N).map W.str) ?_).trans e1)).trans ?_
 . first | rfl | simp! [uS,uD,b8,hn,ga]
 . first | rfl | simp! [uS,uD]
noncomputable def jX (r p d:Nat) (nm:W):List (Str×W):=[(Str.ofString "rows", .ref r),(Str.ofString "spots", .ref p),(Str.ofString "name", nm),(Str.ofString "slots", .ref d)]
theorem Go:(Str.ofString "spots" == Str.ofString "rows")=false/\(Str.ofString "name" == Str.ofString "rows")=false/\(Str.ofString "name" == Str.ofString "spots")=false/\(Str.ofString "slots" == Str.ofString "rows")=false/\(Str.ofString "slots" == Str.ofString "spots")=false/\(Str.ofString "slots" == Str.ofString "name")=false:=by decide +kernel
theorem F3 (r p d:Nat) (nm:W):(jX r p d nm).lookup (Str.ofString "rows")=some (.ref r):=by simp [jX,List.lookup]
theorem GZ (r p d:Nat) (nm:W):(jX r p d nm).lookup (Str.ofString "spots")=some (.ref p):=by simp [jX,List.lookup,Go.1]
theorem KW (r p d:Nat) (nm:W):(jX r p d nm).lookup (Str.ofString "name")=some nm:=by simp [jX,List.lookup,Go.2.1,Go.2.2.1]
theorem As (r p d:Nat) (nm:W):(jX r p d nm).lookup (Str.ofString "slots")=some (.ref d):=by simp [jX,List.lookup,Go.2.2.2.1,Go.2.2.2.2.1,Go.2.2.2.2.2]
theorem Ck (m:Str) (h:(m==Str.ofString "rows")=false/\(m==Str.ofString "spots")=false/\(m==Str.ofString "name")=false/\(m==Str.ofString "slots")=false) (r p d:Nat) (nm:W):(jX r p d nm).lookup m=none:=by simp [jX,List.lookup,h.1,h.2.1,h.2.2.1,h.2.2.2]
theorem Hc:(Str.ofString "add" == Str.ofString "rows")=false/\(Str.ofString "add" == Str.ofString "spots")=false/\(Str.ofString "add" == Str.ofString "name")=false/\(Str.ofString "add" == Str.ofString "slots")=false:=by decide +kernel
theorem GX:(Str.ofString "lay" == Str.ofString "rows")=false/\(Str.ofString "lay" == Str.ofString "spots")=false/\(Str.ofString "lay" == Str.ofString "name")=false/\(Str.ofString "lay" == Str.ofString "slots")=false:=by decide +kernel
theorem EM:(Str.ofString "free" == Str.ofString "rows")=false/\(Str.ofString "free" == Str.ofString "spots")=false/\(Str.ofString "free" == Str.ofString "name")=false/\(Str.ofString "free" == Str.ofString "slots")=false:=by decide +kernel
theorem C1:(Str.ofString "begin" == Str.ofString "rows")=false/\(Str.ofString "begin" == Str.ofString "spots")=false/\(Str.ofString "begin" == Str.ofString "name")=false/\(Str.ofString "begin" == Str.ofString "slots")=false:=by decide +kernel
structure SH (S:ai) (I r p d:Nat) (nm:W) (rows:List W) (kv:List (List bg×W)) (sl:List (bg×W)):Prop where
 hI:S[I]?=some (.ins (Str.ofString "Sheet") (jX r p d nm))
 hr:S[r]?=some (.lst rows)
 hp:S[p]?=some (.dT kv)
 hd:S[d]?=some (.dK sl)
theorem gH {S:ai} {I:Nat} {fs:List (Str×W)} (h:S[I]?=some (.ins (Str.ofString "Sheet") fs)):iD (Str.ofString "Sheet") (.ref I) S=some (I,fs):=by simp [iD,iJ,h]
section
variable {S:ai} {I r p d:Nat} {nm:W} {rows:List W} {kv:List (List bg×W)} {sl:List (bg×W)} {N:List Str}
theorem SH.row (h:SH S I r p d nm rows kv sl) (x:List W):SH (S.set r (.lst x)) I r p d nm x kv sl:=
 ⟨set_ne' h.hI (cP h.hr h.hI (by simp)),set_eq' h.hr,set_ne' h.hp (cP h.hr h.hp (by simp)),set_ne' h.hd (cP h.hr h.hd (by simp))⟩
theorem SH.spot (h:SH S I r p d nm rows kv sl) (x:List (List bg×W)):SH (S.set p (.dT x)) I r p d nm rows x sl:=
 ⟨set_ne' h.hI (cP h.hp h.hI (by simp)),set_ne' h.hr (cP h.hp h.hr (by simp)),set_eq' h.hp,set_ne' h.hd (cP h.hp h.hd (by simp))⟩
theorem Be (h:SH S I r p d nm rows kv sl) (row:W) (hl:rows.length<9000):aA [.ref I,row] S=some (.ok .none,S.set r (.lst (rows++[row]))):=by
 have hl':rows.length<sizeLine:=Nat.lt_of_lt_of_le hl (sz 9000 (by decide));first | rfl | simp! [aA,d9,uS,uD,gH h.hI,F3,fX h.hr,Option.isSome_some,if_pos hl']
theorem ET {x:List W} {ks:List bg} {v:W} (hk:jb x=some ks) (h:S[p]?=some (.dT kv)) (hl:kv.length<9000):ue (.ref p) (.tuple x) v S=some (S.set p (.dT (bV kv ks v))):=by
 have hl':kv.length<sizeLine:=Nat.lt_of_lt_of_le hl (sz 9000 (by decide));simp [ue,iJ,h,oE,hk,hl']
theorem Cg (h:SH S I r p d nm rows kv sl) {x:List W} {ks:List bg} (hk:jb x=some ks) (hl:kv.length<9000):bS [.ref I,.tuple x] S=some (.ok .none,S.set p (.dT (bV kv ks (.int rows.length)))):=by
 first | rfl | simp! [bS,oA,uS,uD,gH h.hI,F3,GZ,fX h.hr,ET hk h.hp hl]
theorem Au (h:SH S I r p d nm rows kv sl):b3 [.ref I] S=some (.ok (.int (sl.length+1)),S):=by
 first | rfl | simp! [b3,F7,sd,uS,uD,gH h.hI,As,Dh h.hd]
theorem fP (h:SH S I r p d nm rows kv sl) (row:W) (hl:rows.length<9000) {fo:DS->Option W} {fa:DS->ai->SM (List W)} {δ:DS} (h1:fo δ=some (.ref I)) (h2:fa δ S=some (.ok [row],S)):aK (bo "Sheet" "add" aA (ab fo) fa) δ S=some (.nx δ,S.set r (.lst (rows++[row]))):=
 bu (kb h1 h.hI (Ck _ Hc _ _ _ _) h2 (Be h row hl))
theorem sk (h:SH S I r p d nm rows kv sl) {x:List W} {ks:List bg} (hk:jb x=some ks) (hl:kv.length<9000) {fo:DS->Option W} {fa:DS->ai->SM (List W)} {δ:DS} (h1:fo δ=some (.ref I)) (h2:fa δ S=some (.ok [.tuple x],S)):aK (bo "Sheet" "lay" bS (ab fo) fa) δ S=some (.nx δ,S.set p (.dT (bV kv ks (.int rows.length)))):=
 bu (kb h1 h.hI (Ck _ GX _ _ _ _) h2 (Cg h hk hl))
theorem tf (h:SH S I r p d nm rows kv (fL 0 N)) {fo:DS->Option W} {δ:DS} (h1:fo δ=some (.ref I)):bo "Sheet" "free" b3 (ab fo) (ab af) δ S=some (.ok (.int ((N.length:Int)+1)),S):=by
 have fr:=Au h;rw [qr] at fr;exact kb (ds:=[]) (S1:=S) h1 h.hI (Ck _ EM _ _ _ _) rfl fr
end
noncomputable def qZ (ln:Int) (f:Str->W):Tr->Int->List W
 | .num v,a=>[.tuple [.str "num", .int ln,.int a,.int v]]
 | .sig k,a=>[.tuple [.str "sign", .int ln,.int a,.str (Cn k)]]
 | .nam x,a=>[.tuple [.str "copy", .int ln,.int a,f x]]
 | .box t,a=>qZ ln f t a++[.tuple [.str "get", .int ln,.int a,.int a]]
 | .op k t u,a=>qZ ln f t a++(qZ ln f u (a+1)++[.tuple [.str "op", .int ln,.int a,.str (sh k),.int a,.int (a+1)]])
theorem fE (ln:Int) (f:Str->W):∀ (t:Tr) (a:Int),(qZ ln f t a).length=j4 t
 | .num _,_=>rfl
 | .sig _,_=>rfl
 | .nam _,_=>rfl
 | .box t,a=>by simp [qZ,j4,fE ln f t]
 | .op _ t u,a=>by simp [qZ,j4,fE ln f t,fE ln f u];omega
noncomputable def fN (N:List Str) (x:Str):W:=(cr (fL 0 N) (Sum.inr x)).getD .none
noncomputable def Km (N:List Str) (t:Tr):Prop:=∀ x∈tV t,x∈N
theorem n5 (k:Fin 7) (a b:Tr):tV (.op k a b)=tV a++tV b:=by simp [tV,ye,jW,List.filterMap_append]
section
variable {I r p d:Nat} {nm:W} {kv:List (List bg×W)} {N:List Str}
theorem kH (ln:Int):∀ (t:Tr) (n:Nat) (a:Int) (S:ai) (rows:List W),qe t<n->Km N t->rows.length+j4 t<=8000->SH S I r p d nm rows kv (fL 0 N)->bz n [.ref I,.int ln,tw t,.int a] S=some (.ok .none,S.set r (.lst (rows++qZ ln (fN N) t a)))
 | _,0,_,_,_,h,_,_,_=>absurd h (Nat.not_lt_zero _)
 | .num v,n+1,a,S,rows,hd,hi,hl,h=>by
  simp only [j4] at hl;have z4:=sz 4 (by decide);show bN 4 5 _ _ _=_;let δ:DS:=[.val (.ref I),.val (.int ln),.val (tw (.num v)),.val (.int a),.val (.str "num")]
  refine (aY rfl).trans ((congrArg dY (?_:_=some (.nx δ,_))).trans rfl);refine (ag (δ':=δ) (S':=S) (b6 (aS (x0 rfl) rfl))).trans ?_;exact (fT rfl).trans (fP h _ (by omega) rfl (by first | rfl | simp! [δ,tw,uS,uD,wD,if_pos z4]))
 | .sig k,n+1,a,S,rows,hd,hi,hl,h=>by
  simp only [j4] at hl;have z4:=sz 4 (by decide);show bN 4 5 _ _ _=_;let δ:DS:=[.val (.ref I),.val (.int ln),.val (tw (.sig k)),.val (.int a),.val (.str (Cn k))]
  refine (aY rfl).trans ((congrArg dY (?_:_=some (.nx δ,_))).trans rfl);refine (ag (δ':=δ) (S':=S) (b6 (aS (x0 rfl) rfl))).trans ?_;refine (fF rfl (Mo k)).trans ?_;refine (fF rfl (Le k)).trans ?_;exact (d5 (S1:=S) (by first | rfl | simp! [δ,uS,uD,Me])).trans (fP h _ (by omega) rfl (by first | rfl | simp! [δ,tw,uS,uD,if_pos z4]))
 | .nam x,n+1,a,S,rows,hd,hi,hl,h=>by
  simp only [j4] at hl;have z4:=sz 4 (by decide);obtain ⟨j,j1,j2⟩:=ik N 0 x (hi x (by simp [tV,ye,jW]));have hf:fN N x=.int ((0+j+1:Nat):Int):=by simp [fN,j2]
  show bN 4 5 _ _ _=_;let δ:DS:=[.val (.ref I),.val (.int ln),.val (tw (.nam x)),.val (.int a),.val (.str "name")]
  refine (aY rfl).trans ((congrArg dY (?_:_=some (.nx δ,_))).trans rfl);refine (ag (δ':=δ) (S':=S) (b6 (aS (x0 rfl) rfl))).trans ?_;refine (fF rfl (Mv)).trans ?_;exact (fT rfl).trans (fP h (.tuple [.str "copy", .int ln,.int a,fN N x]) (by omega) rfl (by rw [hf];simp! [δ,tw,iU,uS,uD,wD,gH h.hI,As,lw h.hd,j2,if_pos z4]))
 | .box t,n+1,a,S,rows,hd,hi,hl,h=>by
  simp only [j4] at hl;simp only [qe] at hd;have z4:=sz 4 (by decide);let δ:DS:=[.val (.ref I),.val (.int ln),.val (tw (.box t)),.val (.int a),.val (.str "box")]
  have e1:=kH ln t n a S rows (by omega) (λ x hx=>hi x (by simpa [tV,jW] using hx)) (by omega) h;show bN 4 5 _ _ _=_;refine (aY rfl).trans ((congrArg dY (?_:_=some (.nx δ,_))).trans rfl);refine (ag (δ':=δ) (S':=S) (b6 (aS (x0 rfl) rfl))).trans ?_;refine (fF rfl (Mt)).trans ?_;refine (fF rfl (Lg)).trans ?_;refine (bR (S1:=S) (by first | rfl | simp! [δ,uS,uD,LN])).trans ?_;refine (fT rfl).trans ?_;refine (ag (bu (br (S1:=S) (by first | rfl | simp! [δ,tw,uS,uD,wD]) e1))).trans ?_;refine (fP (h.row _) (.tuple [.str "get", .int ln,.int a,.int a]) (by rw [List.length_append,fE];omega) rfl (by first | rfl | simp! [δ,tw,uS,uD,if_pos z4])).trans ?_;simp [qZ]
 | .op k t u,n+1,a,S,rows,hd,hi,hl,h=>by
  simp only [j4] at hl;simp only [qe] at hd;have z6:=sz 6 (by decide);let δ:DS:=[.val (.ref I),.val (.int ln),.val (tw (.op k t u)),.val (.int a),.val (.str (sh k))]
  have e1:=kH ln t n a S rows (by omega) (λ x hx=>hi x (by rw [n5];simp [hx])) (by omega) h;have g1:=h.row (rows++qZ ln (fN N) t a);have e2:=kH ln u n (a+1) _ _ (by omega) (λ x hx=>hi x (by rw [n5];simp [hx])) (by rw [List.length_append,fE];omega) g1;show bN 4 5 _ _ _=_;refine (aY rfl).trans ((congrArg dY (?_:_=some (.nx δ,_))).trans rfl);refine (ag (δ':=δ) (S':=S) (b6 (aS (x0 rfl) rfl))).trans ?_;refine (fF rfl (LS k)).trans ?_;refine (fF rfl (L4 k)).trans ?_;refine (bR (S1:=S) (by first | rfl | simp! [δ,uS,uD,LQ])).trans ?_;refine (fF rfl (LC k)).trans ?_;refine (ag (bu (br (S1:=S) (by first | rfl | simp! [δ,tw,uS,uD,wD]) e1))).trans ?_;refine (ag (bu (br (S1:=S.set r (.lst (rows++qZ ln (fN N) t a))) (by first | rfl | simp! [δ,tw,uS,uD,xu]) e2))).trans ?_;refine (fP (g1.row _) (.tuple [.str "op", .int ln,.int a,.str (sh k),.int a,.int (a+1)]) (by rw [List.length_append,List.length_append,fE,fE];omega) rfl (by first | rfl | simp! [δ,tw,uS,uD,if_pos z6])).trans ?_;simp [qZ]
end
theorem ky:∀ i:Fin 12,decide (cS i=Str.ofString "tell")=decide (i=2)/\decide (cS i=Str.ofString "return")=decide (i=3)/\decide (cS i=Str.ofString "break")=decide (i=4)/\decide (cS i=Str.ofString "again")=decide (i=5)/\decide (cS i=Str.ofString "if")=decide (i=10)/\decide (cS i=Str.ofString "while")=decide (i=11):=by decide +kernel
noncomputable def Gd (F:List bg->Prop) (r:W):Prop:=(∃ w xs,r=.tuple (.str w::xs)/\gF (.str w) (.tuple [.str "split", .str "jump", .str "call"])=some false/\eS r=true/\bJ r<=4)
 ∨ (∃ (ln a:Int) (x:List W) (ks:List bg),r=.tuple [.str "split", .int ln,.int a,.tuple x]/\jb x=some ks/\F ks)
 ∨ (∃ (ln:Int) (x:List W) (ks:List bg),r=.tuple [.str "jump", .int ln,.tuple x]/\jb x=some ks/\F ks)
 ∨ (∃ (a b c d:Int) (x:List W) (ks:List bg),r=.tuple [.str "call", .int a,.int b,.int c,.int d,.tuple x]/\jb x=some ks/\F ks)
theorem Gd.pl {F:List bg->Prop} {w:Str} {xs:List W} (h:gF (.str w) (.tuple [.str "split", .str "jump", .str "call"])=some false/\PyData.strOk w=true) (hx:bM xs=true/\bp xs=0):Gd F (.tuple (.str w::xs)):=.inl ⟨w,xs,rfl,h.1,by simp [eS,bM,h.2,hx.1],by simp [bJ,bp,hx.2]⟩
theorem JJ (N:List Str) (x:Str):eS (fN N x)=true/\bJ (fN N x)=0:=by
 by_cases h:x∈N
 . obtain ⟨j,_,e⟩:=ik N 0 x h;unfold fN;rw [e];exact ⟨rfl,rfl⟩
 . unfold fN;rw [rn N 0 x h];exact ⟨rfl,rfl⟩
structure sw (F:List bg->Prop) (FN:List Str) (x:Str):Prop where
 l:F [Sum.inr (Str.ofString "last"),Sum.inr x]
 d:∀ f∈FN,F [Sum.inr (Str.ofString "def"),Sum.inr f]
theorem D3:(gF (.str "copy") (.tuple [.str "split", .str "jump", .str "call"])=some false/\PyData.strOk (Str.ofString "copy")=true)/\(gF (.str "put") (.tuple [.str "split", .str "jump", .str "call"])=some false/\PyData.strOk (Str.ofString "put")=true)/\(gF (.str "tell") (.tuple [.str "split", .str "jump", .str "call"])=some false/\PyData.strOk (Str.ofString "tell")=true)/\(gF (.str "join") (.tuple [.str "split", .str "jump", .str "call"])=some false/\PyData.strOk (Str.ofString "join")=true)/\(gF (.str "meet") (.tuple [.str "split", .str "jump", .str "call"])=some false/\PyData.strOk (Str.ofString "meet")=true)/\(gF (.str "stop") (.tuple [.str "split", .str "jump", .str "call"])=some false/\PyData.strOk (Str.ofString "stop")=true)/\(gF (.str "tick") (.tuple [.str "split", .str "jump", .str "call"])=some false/\PyData.strOk (Str.ofString "tick")=true):=by decide +kernel
section
variable {S:ai} {I r p d:Nat} {nm:W} {rows:List W} {kv:List (List bg×W)} {N FN:List Str} {x0:Str}
theorem zV (h:SH S I r p d (.str x0) rows kv (fL 0 N)) (ln:Int) (e:Hd) (hc:aG e≠4/\aG e≠5/\aG e≠10/\aG e≠11) (hi:∀ x∈(zd e).toList,x∈N) (hf:∀ x f ts,e=.call x f ts->f∈FN) (hj:∀ x j t,e=.join x j t->PyData.strOk j=true) (ho:(ci e).length<=40) (hl:rows.length<8990):
 ∃ S' rs,eX [.ref I,bQ ln e] S=some (.ok .none,S')/\SH S' I r p d (.str x0) (rows++rs) kv (fL 0 N)/\rs.length<=2/\∀ F,sw F FN x0->∀ y∈rs,Gd F y:=by
 have z2:=sz 2 (by decide);have z3:=sz 3 (by decide);have z4:=sz 4 (by decide);have z5:=sz 5 (by decide);have z6:=sz 6 (by decide);have ll:∀ ts:List Tr,(ts.map tw).length=ts.length:=λ ts=>by simp
 let δ:DS:=[.val (.ref I),.val (bQ ln e),.val (.str (cS (aG e))),.val (.int ln),.val (.int ((N.length:Int)+1))]
 have go:∀ {S':ai},cv (ab (av bZ (ak 2) (dC (.str "set")))) _ _ δ S=some (.nx δ,S')->eX [.ref I,bQ ln e] S=some (.ok .none,S'):=λ {S'} q=>by
  refine (aY rfl).trans ((congrArg dY (?_:_=some (.nx δ,S'))).trans rfl);refine (ag (δ':=[.val (.ref I),.val (bQ ln e),.val (.str (cS (aG e))),.no,.no]) (S':=S) (by first | rfl | simp! [bQ,uS,uD,b8,oH])).trans ?_;refine (ag (δ':=[.val (.ref I),.val (bQ ln e),.val (.str (cS (aG e))),.val (.int ln),.no]) (S':=S) (by first | rfl | simp! [bQ,uS,uD,wD])).trans ?_;exact (ag (δ':=δ) (S':=S) (bU (tf h rfl) rfl)).trans q
 have one:∀ {y:W},(∀ F,sw F FN x0->Gd F y)->∀ F,sw F FN x0->∀ z∈[y],Gd F z:=λ g F c z hz=>by rcases List.mem_singleton.mp hz with rfl;exact g F c
 cases e with
 | set x t=>
  obtain ⟨j',j1,j2⟩:=ik N 0 x (hi x (by simp [zd]));have hf':fN N x=.int ((0+j'+1:Nat):Int):=by simp [fN,j2]
  refine ⟨_,[.tuple [.str "copy", .int ln,fN N x,.int ((N.length:Int)+1)]],go ((fT rfl).trans (fP h _ (by omega) rfl ?_)),h.row _,by simp,one λ F c=>.pl D3.1 (by simp [bM,bp,eS,bJ,JJ])⟩;rw [hf'];first | rfl | simp! [δ,bQ,rs,iU,uS,uD,xu,gH h.hI,As,lw h.hd,j2,if_pos z4]
 | put a b=>
  refine ⟨_,[.tuple [.str "put", .int ln,.int ((N.length:Int)+1),.int ((N.length:Int)+1+1)]],go ((fF rfl (kz 1).2.1).trans ((fT rfl).trans (fP h _ (by omega) rfl ?_))),h.row _,by simp,one λ F c=>.pl D3.2.1 ⟨rfl,rfl⟩⟩;first | rfl | simp! [δ,bQ,rs,uS,uD,if_pos z4]
 | tell t=>
  refine ⟨_,[.tuple [.str "tell", .int ln,.int ((N.length:Int)+1)]],go ((fF rfl (kz 2).2.1).trans ((fF rfl (kz 2).1).trans ((fT rfl).trans (fP h _ (by omega) rfl ?_)))),h.row _,by simp,one λ F c=>.pl D3.2.2.1 ⟨rfl,rfl⟩⟩;first | rfl | simp! [δ,bQ,rs,uS,uD,if_pos z3]
 | call x f ts=>
  obtain ⟨j',j1,j2⟩:=ik N 0 x (hi x (by simp [zd]));have hf':fN N x=.int ((0+j'+1:Nat):Int):=by simp [fN,j2]
  have zl:(ts.map tw).length<=sizeLine:=sz _ (by simp only [ci] at ho;simp;omega);refine ⟨_,[.tuple [.str "call", .int ln,fN N x,.int ((N.length:Int)+1),.int (ts.length:Nat),.tuple [.str "def", .str f]]],go ((fF rfl (kz 9).2.1).trans ((fF rfl (kz 9).1).trans ((fF rfl (ky 9).1).trans ((fT rfl).trans (fP h _ (by omega) rfl ?_))))),h.row _,by simp,one λ F c=>by rw [hf'];exact .inr (.inr (.inr ⟨_,_,_,_,_,[Sum.inr (Str.ofString "def"),Sum.inr f],rfl,rfl,c.d f (hf x f ts rfl)⟩))⟩;rw [hf'];first | rfl | simp! [δ,bQ,rs,iU,uS,uD,xu,A7,vU,ll,if_pos z2,gH h.hI,As,lw h.hd,j2,if_pos z6,if_pos zl]
 | ret t=>
  have h2:=h.row (rows++[.tuple [.str "copy", .int ln,.int 0,.int ((N.length:Int)+1)]]);refine ⟨_,[.tuple [.str "copy", .int ln,.int 0,.int ((N.length:Int)+1)],.tuple [.str "jump", .int ln,.tuple [.str "last", .str x0]]],go ((fF rfl (kz 3).2.1).trans ((fF rfl (kz 3).1).trans ((fF rfl (ky 3).1).trans ((fF rfl (kz 3).2.2.1).trans ((fT rfl).trans ((ag (fP h (.tuple [.str "copy", .int ln,.int 0,.int ((N.length:Int)+1)]) (by omega) rfl ?_)).trans (fP h2 (.tuple [.str "jump", .int ln,.tuple [.str "last", .str x0]]) (by simp;omega) rfl ?_))))))),by have:=h2.row (rows++[.tuple [.str "copy", .int ln,.int 0,.int ((N.length:Int)+1)]]++[.tuple [.str "jump", .int ln,.tuple [.str "last", .str x0]]]);simp only [List.append_assoc,List.cons_append,List.nil_append] at this ⊢;exact this,by simp,λ F c z hz=>?_⟩
  . first | rfl | simp! [δ,bQ,rs,uS,uD,if_pos z4]
  . first | rfl | simp! [δ,bQ,rs,uS,uD,gH h2.hI,KW,if_pos z2,if_pos z3]
  . rcases List.mem_cons.mp hz with rfl | hz
    . exact .pl D3.1 ⟨rfl,rfl⟩
    . rcases List.mem_singleton.mp hz with rfl;exact .inr (.inr (.inl ⟨_,_,[Sum.inr (Str.ofString "last"),Sum.inr x0],rfl,rfl,c.l⟩))
 | join x j t=>
  obtain ⟨j',j1,j2⟩:=ik N 0 x (hi x (by simp [zd]));have hf':fN N x=.int ((0+j'+1:Nat):Int):=by simp [fN,j2]
  refine ⟨_,[.tuple [.str "join", .int ln,fN N x,.str j,.int ((N.length:Int)+1)]],go ((fF rfl (kz 8).2.1).trans ((fF rfl (kz 8).1).trans ((fF rfl (ky 8).1).trans ((fF rfl (kz 8).2.2.1).trans ((fF rfl (ky 8).2.1).trans ((fT rfl).trans (fP h _ (by omega) rfl ?_))))))),h.row _,by simp,one λ F c=>.pl D3.2.2.2.1 (by simp [bM,bp,eS,bJ,JJ,hj x j t rfl])⟩;rw [hf'];first | rfl | simp! [δ,bQ,rs,iU,uS,uD,xu,A7,gH h.hI,As,lw h.hd,j2,if_pos z5]
 | mt=>
  refine ⟨_,[.tuple [.str "meet", .int ln]],go ((fF rfl (kz 6).2.1).trans ((fF rfl (kz 6).1).trans ((fF rfl (ky 6).1).trans ((fF rfl (kz 6).2.2.1).trans ((fF rfl (ky 6).2.1).trans ((fF rfl (kz 6).2.2.2).trans (fP h _ (by omega) rfl ?_))))))),h.row _,by simp,one λ F c=>.pl D3.2.2.2.2.1 ⟨rfl,rfl⟩⟩;first | rfl | simp! [δ,bQ,rs,uS,uD,if_pos z2]
 | stp=>
  refine ⟨_,[.tuple [.str "stop", .int ln]],go ((fF rfl (kz 7).2.1).trans ((fF rfl (kz 7).1).trans ((fF rfl (ky 7).1).trans ((fF rfl (kz 7).2.2.1).trans ((fF rfl (ky 7).2.1).trans ((fF rfl (kz 7).2.2.2).trans (fP h _ (by omega) rfl ?_))))))),h.row _,by simp,one λ F c=>.pl D3.2.2.2.2.2.1 ⟨rfl,rfl⟩⟩;first | rfl | simp! [δ,bQ,rs,uS,uD,if_pos z2]
 | brk=>exact absurd rfl hc.1
 | agn=>exact absurd rfl hc.2.1
 | ifs t bs=>exact absurd rfl hc.2.2.1
 | whl t bs=>exact absurd rfl hc.2.2.2
end
noncomputable def rE (N:List Str) (ln:Int):Nat->List Tr->List W
 | _,[]=>[]
 | a,t::ts=>qZ ln (fN N) t (a:Int)++rE N ln (a+1) ts
theorem qK (N:List Str) (ln:Int):∀ (ts:List Tr) (a:Nat),(rE N ln a ts).length=j0 ts
 | [],_=>rfl
 | t::ts,a=>by simp [rE,fE,qK N ln ts,j0]
theorem Gx:∀ k,PyData.strOk (Cn k)=true:=by decide +kernel
theorem Hw:∀ k,PyData.strOk (sh k)=true:=by decide +kernel
theorem qm {F:List bg->Prop} (ln:Int) (f:Str->W) (hf:∀ x,eS (f x)=true/\bJ (f x)=0):∀ (t:Tr) (a:Int),∀ x∈qZ ln f t a,Gd F x
 | .num _,_,x,h=>by simp only [qZ,List.mem_singleton] at h;subst h;exact .pl (by decide +kernel) (by simp [bM,bp,eS,bJ,Gx,Hw,hf])
 | .sig _,_,x,h=>by simp only [qZ,List.mem_singleton] at h;subst h;exact .pl (by decide +kernel) (by simp [bM,bp,eS,bJ,Gx,Hw,hf])
 | .nam _,_,x,h=>by simp only [qZ,List.mem_singleton] at h;subst h;exact .pl (by decide +kernel) (by simp [bM,bp,eS,bJ,Gx,Hw,hf])
 | .box t,a,x,h=>by
  simp only [qZ,List.mem_append,List.mem_singleton] at h;rcases h with h | h
  . exact qm ln f hf t a x h
  . subst h;exact .pl (by decide +kernel) (by simp [bM,bp,eS,bJ,Gx,Hw,hf])
 | .op _ t u,a,x,h=>by
  simp only [qZ,List.mem_append,List.mem_singleton] at h;rcases h with h | h | h
  . exact qm ln f hf t a x h
  . exact qm ln f hf u (a+1) x h
  . subst h;exact .pl (by decide +kernel) (by simp [bM,bp,eS,bJ,Gx,Hw,hf])
theorem D5 {F:List bg->Prop} (N:List Str) (ln:Int):∀ (ts:List Tr) (a:Nat),∀ x∈rE N ln a ts,Gd F x
 | [],_,x,h=>by simp [rE] at h
 | t::ts,a,x,h=>by
  simp only [rE,List.mem_append] at h;rcases h with h | h
  . exact qm _ _ (JJ N) _ _ x h
  . exact D5 N ln ts (a+1) x h
noncomputable def jd (kv:List (List bg×W)) (ks:List bg):Prop:=∃ v:Int,cr kv ks=some (.int v)
noncomputable def KG (kv kv':List (List bg×W)):Prop:=∀ ks,jd kv ks->jd kv' ks
theorem KG.put (kv:List (List bg×W)) (ks:List bg) (v:Int):KG kv (bV kv ks (.int v)):=λ q ⟨x,e⟩=>by
 by_cases h:q=ks
 . exact ⟨v,by rw [qO,if_pos h]⟩
 . exact ⟨x,by rw [qO,if_neg h];exact e⟩
theorem fW (kv:List (List bg×W)) (ks:List bg) (v:Int):jd (bV kv ks (.int v)) ks:=⟨v,by rw [qO,if_pos rfl]⟩
theorem KG.trans {a b c:List (List bg×W)} (h:KG a b) (h':KG b c):KG a c:=λ k z=>h' k (h k z)
section
variable {S:ai} {I r p d:Nat} {nm:W} {rows:List W} {kv:List (List bg×W)} {N FN:List Str} {x0:Str}
theorem we {pf:List W->ai->SM W} {ln:Int} {s1 s2 s3:Sl}:∀ (ts:List Tr) (a:Nat) (S:ai) (rows:List W) (s5 s6:Sl),(∀ t∈ts,Jz t/\Km N t)->rows.length+j0 ts<=8000->SH S I r p d nm rows kv (fL 0 N)->
 ∃ S' s5' s6',bY (eA 2 (bc (ae 5) (bc (ae 6) eZ))) (fM pf) (tX a (ts.map tw)) [.val (.ref I),s1,s2,s3,.val (.int ln),s5,s6] S=some (.nx [.val (.ref I),s1,s2,s3,.val (.int ln),s5',s6'],S')/\SH S' I r p d nm (rows++rE N ln a ts) kv (fL 0 N)
 | [],a,S,rows,s5,s6,_,_,h=>⟨S,s5,s6,rfl,by simpa [rE] using h⟩
 | t::ts,a,S,rows,s5,s6,ht,hl,h=>by
  have hc:j0 (t::ts)=j4 t+j0 ts:=by simp [j0]
  have h1:=ht t (by simp);have e1:=kH ln t 9 (a:Int) S rows h1.1.1 h1.2 (by omega) h;obtain ⟨S',s5',s6',e2,g⟩:=we (pf:=pf) ts (a+1) _ _ (.val (.int (a:Int))) (.val (tw t)) (λ u hu=>ht u (by simp [hu])) (by rw [List.length_append,fE];omega) (h.row (rows++qZ ln (fN N) t (a:Int)));refine ⟨S',s5',s6',?_,by simpa [rE] using g⟩;exact (db (δ2:=[.val (.ref I),s1,s2,s3,.val (.int ln),.val (.int (a:Int)),.val (tw t)]) rfl (bu (br (S1:=S) (by first | rfl | simp! [uS,uD]) e1))).trans e2
noncomputable def Rn (I r p d:Nat) (x0:Str) (N FN:List Str) (wh:Bool) (lp:W) (rows:List W) (kv:List (List bg×W)) (a:Nat) (S':ai):Prop:=∃ rs kv',SH S' I r p d (.str x0) (rows++rs) kv' (fL 0 N)/\rs.length<=46*a/\kv'.length<=kv.length+3*a/\KG kv kv'/\
 ∀ F:List bg->Prop,(∀ ks,jd kv' ks->F ks)->sw F FN x0->(wh=true->∃ l:Int,lp=.int l/\F [Sum.inr (Str.ofString "behind"),Sum.inl l]/\F [Sum.inr (Str.ofString "tick"),Sum.inl l])->∀ y∈rs,Gd F y
structure PK (N FN:List Str) (wh:Bool) (h:Hd):Prop where
 o:BY h
 n:∀ x∈B8 h,x∈N
 b:wh=false->aG h≠4/\aG h≠5
 f:∀ x f ts,h=.call x f ts->f∈FN
 j:∀ x j t,h=.join x j t->PyData.strOk j=true
theorem jq {pf:List W->ai->SM W} {wh:Bool} (h:SH S I r p d nm rows kv (fL 0 N)) (ln:Int) (e:Hd) (lp:W) (q:PK N FN wh e) (hl:rows.length+46<=8000) (hk:kv.length<900) (hN:N.length<=8000):
 ∃ S3 s5 s6,SH S3 I r p d nm (rows++.tuple [.str "tick", .int ln]::rE N ln (N.length+1) (ci e)) (bV kv [Sum.inr (Str.ofString "tick"),Sum.inl ln] (.int rows.length)) (fL 0 N)/\
  ∀ S4,cv (ab (av bZ (ak 3) (dC (.str "if"))))
  (aK (cf (hX pf) (ab (aa (ac 0) (aa (ac 1) (aa (ac 2) af))))))
  (cv (ab (av bZ (ak 3) (dC (.str "while"))))
  (aK (cf (fH pf) (ab (aa (ac 0) (aa (ac 1) af)))))
  (cv (ab (av bZ (ak 3) (dC (.str "break"))))
  (aK (bo "Sheet" "add" aA (ab (ac 0)) (ab (aa (aF (aa (dC (.str "jump")) (aa (ac 4) (aa (aF (aa (dC (.str "behind")) (aa (ac 2) af))) af)))) af))))
  (cv (ab (av bZ (ak 3) (dC (.str "again"))))
  (aK (bo "Sheet" "add" aA (ab (ac 0)) (ab (aa (aF (aa (dC (.str "jump")) (aa (ac 4) (aa (aF (aa (dC (.str "tick")) (aa (ac 2) af))) af)))) af))))
  (aK (cf eX (ab (aa (ac 0) (aa (ac 1) af)))))))) [.val (.ref I),.val (bQ ln e),.val lp,.val (.str (cS (aG e))),.val (.int ln),s5,s6] S3=some (.nx [.val (.ref I),.val (bQ ln e),.val lp,.val (.str (cS (aG e))),.val (.int ln),s5,s6],S4)->
  cy pf [.ref I,bQ ln e,lp] S=some (.ok .none,S4):=by
 have z2:=sz 2 (by decide);have hc:=q.o.c;let δ:DS:=[.val (.ref I),.val (bQ ln e),.val lp,.val (.str (cS (aG e))),.val (.int ln),.no,.no]
 have g1:=h.spot (bV kv [Sum.inr (Str.ofString "tick"),Sum.inl ln] (.int rows.length));have g2:=g1.row (rows++[.tuple [.str "tick", .int ln]]);have er:=qh ln e (by have:=q.o.l;omega);have inE:∀ t∈ci e,Km N t:=λ t ht x hx=>q.n x (List.mem_append.mpr (.inr (List.mem_flatMap.mpr ⟨t,ht,hx⟩)));obtain ⟨S3,s5,s6,e3,g3⟩:=we (pf:=pf) (ln:=ln) (s1:=.val (bQ ln e)) (s2:=.val lp) (s3:=.val (.str (cS (aG e)))) (ci e) (N.length+1) _ _ .no .no (λ t ht=>⟨q.o.t t ht,inE t ht⟩) (by simp;omega) g2;rw [List.append_assoc] at g3;refine ⟨S3,s5,s6,g3,λ S4 e4=>?_⟩;refine (aY rfl).trans ((congrArg dY (?_:_=some (.nx [.val (.ref I),.val (bQ ln e),.val lp,.val (.str (cS (aG e))),.val (.int ln),s5,s6],S4))).trans rfl);refine (ag (δ':=[.val (.ref I),.val (bQ ln e),.val lp,.val (.str (cS (aG e))),.no,.no,.no]) (S':=S) (by first | rfl | simp! [bQ,uS,uD,b8,oH])).trans ?_;refine (ag (δ':=δ) (S':=S) (by first | rfl | simp! [δ,bQ,uS,uD,wD])).trans ?_;refine (ag (sk h (x:=[.str "tick", .int ln]) (ks:=[Sum.inr (Str.ofString "tick"),Sum.inl ln]) rfl (by omega) rfl (by first | rfl | simp! [δ,uS,uD,if_pos z2]))).trans ?_;refine (ag (fP g1 (.tuple [.str "tick", .int ln]) (by omega) rfl (by first | rfl | simp! [δ,uS,uD,if_pos z2]))).trans ?_;refine (ag ((gg (ds:=tX (N.length+1) ((ci e).map tw)) (uj (az (by first | rfl | simp! [δ,uD,er])) (tf g2 rfl) (KR _ _ (by omega)))).trans e3)).trans ?_;exact e4
end
theorem SH.cast {S:ai} {I r p d:Nat} {nm:W} {rows rows':List W} {kv:List (List bg×W)} {sl:List (bg×W)} (h:SH S I r p d nm rows kv sl) (e:rows=rows'):SH S I r p d nm rows' kv sl:=e▸h
theorem Ax {f1 f2 f4:DS->Option W} {m:DS->ai->SM W} {δ:DS} {S:ai} {a b c e:W} (h1:f1 δ=some a) (h2:f2 δ=some b) (h3:m δ S=some (.ok c,S)) (h4:f4 δ=some e):aI (iL (aI (ab f1) (aI (ab f2) (aI m (aI (ab f4) dL))))) dL δ S=some (.ok [.tuple [a,b,c,e]],S):=by
 have z4:=sz 4 (by decide);have a1:=az (S:=S) h1;have a2:=az (S:=S) h2;have a4:=az (S:=S) h4;simp only [aI,iL,dL,au,a1,a2,h3,a4,List.length_cons,List.length_nil,Nat.reduceAdd,if_pos z4]
section
variable {S:ai} {I r p d:Nat} {rows:List W} {kv:List (List bg×W)} {N FN:List Str} {x0:Str} {wh:Bool} {lp:W} {pf:List W->ai->SM W}
noncomputable def Bd (I r p d:Nat) (x0:Str) (N FN:List Str) (pf:List W->ai->SM W) (wh:Bool) (b:W) (lp:W) (c:Nat):Prop:=∀ (S:ai) (rows:List W) (kv:List (List bg×W)),SH S I r p d (.str x0) rows kv (fL 0 N)->rows.length+46*c<=7700->kv.length+3*c<=780->
 ∃ S',pf [.ref I,b,lp] S=some (.ok .none,S')/\Rn I r p d x0 N FN wh lp rows kv c S'
noncomputable abbrev Eg (F:List bg->Prop) (wh:Bool) (lp:W):Prop:=wh=true->∃ l:Int,lp=.int l/\F [Sum.inr (Str.ofString "behind"),Sum.inl l]/\F [Sum.inr (Str.ofString "tick"),Sum.inl l]
theorem ot {F:List bg->Prop} {ln a:Int} {w:Str} (h:F [Sum.inr w,Sum.inl ln]):Gd F (.tuple [.str "split", .int ln,.int a,.tuple [.str w,.int ln]]):=.inr (.inl ⟨ln,a,_,[Sum.inr w,Sum.inl ln],rfl,rfl,h⟩)
theorem mS {F:List bg->Prop} {ln l:Int} {w:Str} (h:F [Sum.inr w,Sum.inl l]):Gd F (.tuple [.str "jump", .int ln,.tuple [.str w,.int l]]):=.inr (.inr (.inl ⟨ln,_,[Sum.inr w,Sum.inl l],rfl,rfl,h⟩))
theorem xV {t:Tr} {b:List Bk} {c:Nat} {ln:Int} (hb:Bd I r p d x0 N FN pf true (.list (cO b)) (.int ln) c) (h:SH S I r p d (.str x0) rows kv (fL 0 N)) (ht:jd kv [Sum.inr (Str.ofString "tick"),Sum.inl ln]) (hl:rows.length+46*c<=7698) (hk:kv.length+3*c<=778):
 ∃ S' rs kv',fH pf [.ref I,bQ ln (.whl t [.list (cO b)])] S=some (.ok .none,S')/\SH S' I r p d (.str x0) (rows++rs) kv' (fL 0 N)/\rs.length<=46*c+2/\kv'.length<=kv.length+3*c+1/\KG kv kv'/\∀ F:List bg->Prop,(∀ ks,jd kv' ks->F ks)->sw F FN x0->∀ y∈rs,Gd F y:=by
 have z2:=sz 2 (by decide);have z3:=sz 3 (by decide);have z4:=sz 4 (by decide);let st:=bQ ln (.whl t [.list (cO b)]);let δ:DS:=[.val (.ref I),.val st,.val (.int ln)]
 let sp:W:=.tuple [.str "split", .int ln,.int ((N.length:Int)+1),.tuple [.str "behind", .int ln]];let jp:W:=.tuple [.str "jump", .int ln,.tuple [.str "tick", .int ln]];have fm:bo "Sheet" "free" b3 (ab (ac 0)) (ab af) δ S=some (.ok (.int ((N.length:Int)+1)),S):=tf h rfl;have g1:=h.row (rows++[sp]);obtain ⟨S2,e2,rs,kv2,g2,l2,k2,kg2,f2⟩:=hb _ _ _ g1 (by simp;omega) (by omega);have g3:=g2.row (rows++[sp]++rs++[jp]);have g4:=g3.spot (bV kv2 [Sum.inr (Str.ofString "behind"),Sum.inl ln] (.int (rows++[sp]++rs++[jp]).length));have pl:=dj kv2 [Sum.inr (Str.ofString "behind"),Sum.inl ln] (.int ((rows++[sp]++rs++[jp]).length:Int));refine ⟨_,[sp]++rs++[jp],_,?_,g4.cast (by simp only [List.append_assoc]),by simp;omega,by omega,kg2.trans (.put _ _ _),λ F hF hc y hy=>?_⟩
 . refine (aY rfl).trans ((congrArg dY (?_:_=some (.nx δ,_))).trans rfl);refine (ag (δ':=δ) (S':=S) (by first | rfl | simp! [δ,st,bQ,uS,uD,b8,wD])).trans ?_;refine (ag (fP h sp (by omega) rfl (Ax rfl rfl fm (by first | rfl | simp! [δ,uD,if_pos z2])))).trans ?_;refine (ag (bu (br (S1:=S.set r (.lst (rows++[sp]))) (ds:=[.ref I,.list (cO b),.int ln]) (by first | rfl | simp! [δ,st,bQ,rs,uS,uD,A7]) e2))).trans ?_;refine (ag (fP g2 jp (by simp;omega) rfl (by first | rfl | simp! [uS,uD,δ,jp,if_pos z2,if_pos z3]))).trans ?_;exact sk g3 (x:=[.str "behind", .int ln]) (ks:=[Sum.inr (Str.ofString "behind"),Sum.inl ln]) rfl (by omega) rfl (by first | rfl | simp! [δ,uS,uD,if_pos z2])
 . have bh:F [Sum.inr (Str.ofString "behind"),Sum.inl ln]:=hF _ (fW _ _ _);have tk:F [Sum.inr (Str.ofString "tick"),Sum.inl ln]:=hF _ (KG.put _ _ _ _ (kg2 _ ht));simp only [List.mem_append,List.mem_singleton] at hy;rcases hy with (rfl | hy) | rfl
   . exact ot bh
   . exact f2 F (λ ks hks=>hF ks (KG.put _ _ _ _ hks)) hc (λ _=>⟨ln,rfl,bh,tk⟩) y hy
   . exact mS tk
theorem Bz {t:Tr} {b:List Bk} {c:Nat} {ln:Int} (hb:Bd I r p d x0 N FN pf wh (.list (cO b)) lp c) (h:SH S I r p d (.str x0) rows kv (fL 0 N)) (hl:rows.length+46*c<=7698) (hk:kv.length+3*c<=778):
 ∃ S' rs kv',hX pf [.ref I,bQ ln (.ifs t [.list (cO b),.none]),lp] S=some (.ok .none,S')/\SH S' I r p d (.str x0) (rows++rs) kv' (fL 0 N)/\rs.length<=46*c+2/\kv'.length<=kv.length+3*c+2/\KG kv kv'/\∀ F:List bg->Prop,(∀ ks,jd kv' ks->F ks)->sw F FN x0->Eg F wh lp->∀ y∈rs,Gd F y:=by
 have z2:=sz 2 (by decide);have z3:=sz 3 (by decide);have z4:=sz 4 (by decide);let st:=bQ ln (.ifs t [.list (cO b),.none]);let δ:DS:=[.val (.ref I),.val st,.val lp,.val (.int ln)]
 let sp:W:=.tuple [.str "split", .int ln,.int ((N.length:Int)+1),.tuple [.str "else", .int ln]];have fm:bo "Sheet" "free" b3 (ab (ac 0)) (ab af) δ S=some (.ok (.int ((N.length:Int)+1)),S):=tf h rfl;have g1:=h.row (rows++[sp]);obtain ⟨S2,e2,rs,kv2,g2,l2,k2,kg2,f2⟩:=hb _ _ _ g1 (by simp;omega) (by omega);have nt:∀ S,ab (av gn (ao aR (ak 1) (dC (.int (4)))) (dC .none)) δ S=some (.ok false,S):=λ S=>by first | rfl | simp! [δ,st,bQ,rs,uS,uD,vU]
 have g3:=g2.spot (bV kv2 [Sum.inr (Str.ofString "else"),Sum.inl ln] (.int (rows++[sp]++rs).length));have p3:=dj kv2 [Sum.inr (Str.ofString "else"),Sum.inl ln] (.int ((rows++[sp]++rs).length:Int));have g4:=g3.spot (bV (bV kv2 [Sum.inr (Str.ofString "else"),Sum.inl ln] (.int (rows++[sp]++rs).length)) [Sum.inr (Str.ofString "behind"),Sum.inl ln] (.int (rows++[sp]++rs).length));have p4:=dj (bV kv2 [Sum.inr (Str.ofString "else"),Sum.inl ln] (.int (rows++[sp]++rs).length)) [Sum.inr (Str.ofString "behind"),Sum.inl ln] (.int ((rows++[sp]++rs).length:Int));refine ⟨_,[sp]++rs,_,?_,g4.cast (by simp only [List.append_assoc]),by simp;omega,by omega,(kg2.trans (.put _ _ _)).trans (.put _ _ _),λ F hF hc lo y hy=>?_⟩
 . refine (aY rfl).trans ((congrArg dY (?_:_=some (.nx δ,_))).trans rfl);refine (ag (δ':=δ) (S':=S) (by first | rfl | simp! [δ,st,bQ,uS,uD,b8,wD])).trans ?_;refine (ag (fP h sp (by omega) rfl (Ax rfl rfl fm (by first | rfl | simp! [δ,uD,if_pos z2])))).trans ?_;refine (ag (bu (br (S1:=S.set r (.lst (rows++[sp]))) (ds:=[.ref I,.list (cO b),lp]) (by first | rfl | simp! [δ,st,bQ,rs,uS,uD,A7]) e2))).trans ?_;refine (ag (δ':=δ) (S':=S2) ((bR (nt _)).trans rfl)).trans ?_;refine (ag (sk g2 (x:=[.str "else", .int ln]) (ks:=[Sum.inr (Str.ofString "else"),Sum.inl ln]) rfl (by omega) rfl (by first | rfl | simp! [δ,uS,uD,if_pos z2]))).trans ?_;refine (ag (δ':=δ) ((bR (nt _)).trans rfl)).trans ?_;exact sk g3 (x:=[.str "behind", .int ln]) (ks:=[Sum.inr (Str.ofString "behind"),Sum.inl ln]) rfl (by omega) rfl (by first | rfl | simp! [δ,uS,uD,if_pos z2])
 . simp only [List.mem_append,List.mem_singleton] at hy;rcases hy with rfl | hy
   . exact ot (hF _ (KG.put _ _ _ _ (fW _ _ _)))
   . exact f2 F (λ ks hks=>hF ks (KG.put _ _ _ _ (KG.put _ _ _ _ hks))) hc lo y hy
end
section
variable {S:ai} {I r p d:Nat} {rows:List W} {kv:List (List bg×W)} {N FN:List Str} {x0:Str} {wh:Bool} {lp:W} {pf:List W->ai->SM W}
theorem C8 {t:Tr} {b b':List Bk} {c c':Nat} {ln:Int} (hb:Bd I r p d x0 N FN pf wh (.list (cO b)) lp c) (hb':Bd I r p d x0 N FN pf wh (.list (cO b')) lp c') (h:SH S I r p d (.str x0) rows kv (fL 0 N)) (hl:rows.length+46*(c+c')<=7698) (hk:kv.length+3*(c+c')<=778):
 ∃ S' rs kv',hX pf [.ref I,bQ ln (.ifs t [.list (cO b),.list (cO b')]),lp] S=some (.ok .none,S')/\SH S' I r p d (.str x0) (rows++rs) kv' (fL 0 N)/\rs.length<=46*(c+c')+2/\kv'.length<=kv.length+3*(c+c')+2/\KG kv kv'/\∀ F:List bg->Prop,(∀ ks,jd kv' ks->F ks)->sw F FN x0->Eg F wh lp->∀ y∈rs,Gd F y:=by
 have z2:=sz 2 (by decide);have z3:=sz 3 (by decide);have z4:=sz 4 (by decide);let st:=bQ ln (.ifs t [.list (cO b),.list (cO b')]);let δ:DS:=[.val (.ref I),.val st,.val lp,.val (.int ln)]
 let sp:W:=.tuple [.str "split", .int ln,.int ((N.length:Int)+1),.tuple [.str "else", .int ln]];let jp:W:=.tuple [.str "jump", .int ln,.tuple [.str "behind", .int ln]];have fm:bo "Sheet" "free" b3 (ab (ac 0)) (ab af) δ S=some (.ok (.int ((N.length:Int)+1)),S):=tf h rfl;have g1:=h.row (rows++[sp]);obtain ⟨S2,e2,rs,kv2,g2,l2,k2,kg2,f2⟩:=hb _ _ _ g1 (by simp;omega) (by omega);have nt:∀ S,ab (av gn (ao aR (ak 1) (dC (.int (4)))) (dC .none)) δ S=some (.ok true,S):=λ S=>by first | rfl | simp! [δ,st,bQ,rs,uS,uD,vU]
 have g3:=g2.row (rows++[sp]++rs++[jp]);have p3:=dj kv2 [Sum.inr (Str.ofString "else"),Sum.inl ln] (.int ((rows++[sp]++rs++[jp]).length:Int));have g4:=g3.spot (bV kv2 [Sum.inr (Str.ofString "else"),Sum.inl ln] (.int (rows++[sp]++rs++[jp]).length));obtain ⟨S5,e5,qs,kv5,g5,l5,k5,kg5,f5⟩:=hb' _ _ _ g4 (by simp;omega) (by omega);have g6:=g5.spot (bV kv5 [Sum.inr (Str.ofString "behind"),Sum.inl ln] (.int (rows++[sp]++rs++[jp]++qs).length));have p6:=dj kv5 [Sum.inr (Str.ofString "behind"),Sum.inl ln] (.int ((rows++[sp]++rs++[jp]++qs).length:Int));refine ⟨_,[sp]++rs++[jp]++qs,_,?_,g6.cast (by simp only [List.append_assoc]),by simp;omega,by omega,((kg2.trans (.put _ _ _)).trans kg5).trans (.put _ _ _),λ F hF hc lo y hy=>?_⟩
 . refine (aY rfl).trans ((congrArg dY (?_:_=some (.nx δ,_))).trans rfl);refine (ag (δ':=δ) (S':=S) (by first | rfl | simp! [δ,st,bQ,uS,uD,b8,wD])).trans ?_;refine (ag (fP h sp (by omega) rfl (Ax rfl rfl fm (by first | rfl | simp! [δ,uD,if_pos z2])))).trans ?_;refine (ag (bu (br (S1:=S.set r (.lst (rows++[sp]))) (ds:=[.ref I,.list (cO b),lp]) (by first | rfl | simp! [δ,st,bQ,rs,uS,uD,A7]) e2))).trans ?_;refine (ag (δ':=δ) ((d5 (nt _)).trans (fP g2 jp (by simp;omega) rfl (by first | rfl | simp! [uS,uD,δ,jp,if_pos z2,if_pos z3])))).trans ?_;refine (ag (sk g3 (x:=[.str "else", .int ln]) (ks:=[Sum.inr (Str.ofString "else"),Sum.inl ln]) rfl (by omega) rfl (by first | rfl | simp! [δ,uS,uD,if_pos z2]))).trans ?_;refine (ag (δ':=δ) ((d5 (nt _)).trans (bu (br (ds:=[.ref I,.list (cO b'),lp]) (by first | rfl | simp! [δ,st,bQ,rs,uS,uD,vU]) e5)))).trans ?_;exact sk g5 (x:=[.str "behind", .int ln]) (ks:=[Sum.inr (Str.ofString "behind"),Sum.inl ln]) rfl (by omega) rfl (by first | rfl | simp! [δ,uS,uD,if_pos z2])
 . have bh:F [Sum.inr (Str.ofString "behind"),Sum.inl ln]:=hF _ (fW _ _ _);have q5:∀ ks,jd kv5 ks->F ks:=λ ks hks=>hF ks (KG.put _ _ _ _ hks);simp only [List.mem_append,List.mem_singleton] at hy;rcases hy with ((rfl | hy) | rfl) | hy
   . exact ot (q5 _ (kg5 _ (fW _ _ _)))
   . exact f2 F (λ ks hks=>q5 ks (kg5 _ (KG.put _ _ _ _ hks))) hc lo y hy
   . exact mS bh
   . exact f5 F q5 hc lo y hy
theorem pF {S4:ai} {ln:Int} {e:Hd} {a:Nat} {B:List W} {kv4:List (List bg×W)} (q:PK N FN wh e) (g:SH S4 I r p d (.str x0) (rows++.tuple [.str "tick", .int ln]::rE N ln (N.length+1) (ci e)++B) kv4 (fL 0 N)) (hl:B.length<=46*a+2)
 (hk:kv4.length<=(bV kv [Sum.inr (Str.ofString "tick"),Sum.inl ln] (.int rows.length)).length+3*a+2) (kg:KG (bV kv [Sum.inr (Str.ofString "tick"),Sum.inl ln] (.int rows.length)) kv4)
 (gB:∀ F:List bg->Prop,(∀ ks,jd kv4 ks->F ks)->sw F FN x0->Eg F wh lp->∀ y∈B,Gd F y):Rn I r p d x0 N FN wh lp rows kv (a+1) S4:=by
 have hc:=q.o.c;have pl:=dj kv [Sum.inr (Str.ofString "tick"),Sum.inl ln] (.int (rows.length:Int));refine ⟨_,kv4,g.cast (List.append_assoc _ _ _),by rw [List.length_append,List.length_cons,qK];omega,by omega,(KG.put _ _ _).trans kg,λ F hF hc lo y hy=>?_⟩;rcases List.mem_append.mp hy with hy | hy
 . rcases List.mem_cons.mp hy with rfl | hy
   . exact .pl D3.2.2.2.2.2.2 ⟨rfl,rfl⟩
   . exact D5 _ _ _ _ y hy
 . exact gB F hF hc lo y hy
theorem Ba {h:Hd} (hb:jH h=some []):aG h≠10/\aG h≠11:=by
 cases h with
 | ifs t l=>exact absurd hb (sQ t l).1
 | whl t l=>exact absurd hb (sQ t l).2
 | _=>exact ⟨by simp only [aG];decide,by simp only [aG];decide⟩
theorem DY {ln:Int} {e:Hd} (q:PK N FN wh e) (hb:jH e=some []) (h:SH S I r p d (.str x0) rows kv (fL 0 N)) (hw:wh=true->∃ l:Int,lp=.int l) (hl:rows.length+46<=7900) (hk:kv.length+3<=800) (hN:N.length<=8000):
 ∃ S',cy pf [.ref I,bQ ln e,lp] S=some (.ok .none,S')/\Rn I r p d x0 N FN wh lp rows kv 1 S':=by
 have z2:=sz 2 (by decide);have z3:=sz 3 (by decide);obtain ⟨c10,c11⟩:=Ba hb;obtain ⟨S3,s5,s6,g3,fin⟩:=jq (pf:=pf) h ln e lp q (by omega) (by omega) hN;have hc:=q.o.c;have hl3:(rows++.tuple [.str "tick", .int ln]::rE N ln (N.length+1) (ci e)).length<8990:=by rw [List.length_append,List.length_cons,qK];omega
 have f10:decide (cS (aG e)=Str.ofString "if")=false:=(ky _).2.2.2.2.1.trans (decide_eq_false c10);have f11:decide (cS (aG e)=Str.ofString "while")=false:=(ky _).2.2.2.2.2.trans (decide_eq_false c11);by_cases h4:aG e=4
 . have hwt:wh=true:=by cases wh with | true=>rfl | false=>exact absurd h4 (q.b rfl).1
   obtain ⟨l,rfl⟩:=hw hwt;have ek:cS (aG e)=Str.ofString "break" := of_decide_eq_true ((ky _).2.2.1.trans (decide_eq_true h4));refine ⟨_,fin _ ((fF rfl f10).trans ((fF rfl f11).trans ((d5 (az ?_)).trans (fP g3 (.tuple [.str "jump", .int ln,.tuple [.str "behind", .int l]]) (by omega) rfl (by first | rfl | simp! [uS,uD,if_pos z2,if_pos z3]))))),pF q (g3.row _) (by simp) (by omega) (λ _ z=>z) λ F hF hc lo y hy=>?_⟩
   . rw [ek];exact tT rfl
   . rcases List.mem_singleton.mp hy with rfl;obtain ⟨l',e',b1,b2⟩:=lo hwt;cases e';exact mS b1
 . have f4:decide (cS (aG e)=Str.ofString "break")=false:=(ky _).2.2.1.trans (decide_eq_false h4);by_cases h5:aG e=5
   . have hwt:wh=true:=by cases wh with | true=>rfl | false=>exact absurd h5 (q.b rfl).2
     obtain ⟨l,rfl⟩:=hw hwt;have ek:cS (aG e)=Str.ofString "again" := of_decide_eq_true ((ky _).2.2.2.1.trans (decide_eq_true h5));refine ⟨_,fin _ ((fF rfl f10).trans ((fF rfl f11).trans ((fF rfl f4).trans ((d5 (az ?_)).trans (fP g3 (.tuple [.str "jump", .int ln,.tuple [.str "tick", .int l]]) (by omega) rfl (by first | rfl | simp! [uS,uD,if_pos z2,if_pos z3])))))),pF q (g3.row _) (by simp) (by omega) (λ _ z=>z) λ F hF hc lo y hy=>?_⟩
     . rw [ek];exact tT rfl
     . rcases List.mem_singleton.mp hy with rfl;obtain ⟨l',e',b1,b2⟩:=lo hwt;cases e';exact mS b2
   . have f5:decide (cS (aG e)=Str.ofString "again")=false:=(ky _).2.2.2.1.trans (decide_eq_false h5);obtain ⟨S4,rs,e4,g4,l4,f4'⟩:=zV (FN:=FN) g3 ln e ⟨h4,h5,c10,c11⟩ (λ x hx=>q.n x (List.mem_append.mpr (.inl hx))) q.f q.j q.o.l hl3;refine ⟨S4,fin _ ((fF rfl f10).trans ((fF rfl f11).trans ((fF rfl f4).trans ((fF rfl f5).trans (bu (br (S1:=S3) (ds:=[.ref I,bQ ln e]) (by first | rfl | simp! [uS,uD]) e4)))))),pF q g4 (by omega) (by omega) (λ _ z=>z) λ F hF hc lo y hy=>f4' F hc y hy⟩
end
section
variable {I r p d:Nat} {N FN:List Str} {x0:Str}
noncomputable def BB (I r p d:Nat) (x0:Str) (N FN:List Str) (n:Nat):Prop:=∀ (wh:Bool) (l:List Bk) (c:Nat),gK (PK N FN) n wh l c->∀ (m:Nat) (lp:W),n<m->(wh=true->∃ l:Int,lp=.int l)->Bd I r p d x0 N FN (b7 m) wh (.list (cO l)) lp c
theorem FZ (hN:N.length<=8000) {n:Nat} (ih:∀ k,n=k+1->BB I r p d x0 N FN k) {wh:Bool} {h:Hd} {c:Nat} (g:rP (PK N FN) n wh h c) {m:Nat} (hm:n<=m) {lp:W} (hw:wh=true->∃ l:Int,lp=.int l) {S:ai} {rows:List W} {kv:List (List bg×W)} (hs:SH S I r p d (.str x0) rows kv (fL 0 N)) (hl:rows.length+46*c<=7700) (hk:kv.length+3*c<=780) (ln:Int):
 ∃ S',cy (b7 m) [.ref I,bQ ln h,lp] S=some (.ok .none,S')/\Rn I r p d x0 N FN wh lp rows kv c S':=by
 have len:∀ e:Hd,PK N FN wh e->(rows++.tuple [.str "tick", .int ln]::rE N ln (N.length+1) (ci e)).length<=rows.length+41:=λ e q=>by
  have:=q.o.c;rw [List.length_append,List.length_cons,qK];omega
 have pl:=dj kv [Sum.inr (Str.ofString "tick"),Sum.inl ln] (.int (rows.length:Int));cases g with
 | lf q hb=>exact DY q hb hs hw (by omega) (by omega) hN
 | @whl n _ t a c q g=>
  obtain ⟨S3,s5,s6,g3,fin⟩:=jq (pf:=b7 m) hs ln _ lp q (by omega) (by omega) hN;have l3:=len _ q;obtain ⟨S4,rs,kv4,e4,g4,l4,k4,kg,f⟩:=xV (t:=t) (ih n rfl true a c g m (.int ln) (by omega) λ _=>⟨ln,rfl⟩) g3 (fW _ _ _) (by omega) (by omega);exact ⟨S4,fin _ ((fF rfl (ky 11).2.2.2.2.1).trans ((fT rfl).trans (bu (br (S1:=S3) (ds:=[.ref I,bQ ln (.whl t [.list (cO a)])]) (by first | rfl | simp! [uS,uD]) e4)))),pF q g4 l4 (by omega) kg λ F hF hc _ y hy=>f F hF hc y hy⟩
 | @if1 n _ t a c q g=>
  obtain ⟨S3,s5,s6,g3,fin⟩:=jq (pf:=b7 m) hs ln _ lp q (by omega) (by omega) hN;have l3:=len _ q;obtain ⟨S4,rs,kv4,e4,g4,l4,k4,kg,f⟩:=Bz (t:=t) (ln:=ln) (ih n rfl wh a c g m lp (by omega) hw) g3 (by omega) (by omega);exact ⟨S4,fin _ ((fT rfl).trans (bu (br (S1:=S3) (ds:=[.ref I,bQ ln (.ifs t [.list (cO a),.none]),lp]) (by first | rfl | simp! [uS,uD]) e4))),pF q g4 l4 k4 kg f⟩
 | @if2 n _ t a b c c' q g g'=>
  obtain ⟨S3,s5,s6,g3,fin⟩:=jq (pf:=b7 m) hs ln _ lp q (by omega) (by omega) hN;have l3:=len _ q;obtain ⟨S4,rs,kv4,e4,g4,l4,k4,kg,f⟩:=C8 (t:=t) (ln:=ln) (ih n rfl wh a c g m lp (by omega) hw) (ih n rfl wh b c' g' m lp (by omega) hw) g3 (by omega) (by omega);exact ⟨S4,fin _ ((fT rfl).trans (bu (br (S1:=S3) (ds:=[.ref I,bQ ln (.ifs t [.list (cO a),.list (cO b)]),lp]) (by first | rfl | simp! [uS,uD]) e4))),pF q g4 l4 k4 kg f⟩
theorem AY (hN:N.length<=8000) {n:Nat} (ih:∀ k,n=k+1->BB I r p d x0 N FN k) {wh:Bool} {m:Nat} (hm:n<=m) {lp b:W} (hw:wh=true->∃ l:Int,lp=.int l):∀ (l:List Bk) (c:Nat),gK (PK N FN) n wh l c->∀ (S:ai) (rows:List W) (kv:List (List bg×W)) (s3:Sl),SH S I r p d (.str x0) rows kv (fL 0 N)->rows.length+46*c<=7700->kv.length+3*c<=780->
 ∃ S' s3',bY (ae 3) (jD (b7 m)) (cO l) [.val (.ref I),.val b,.val lp,s3] S=some (.nx [.val (.ref I),.val b,.val lp,s3'],S')/\Rn I r p d x0 N FN wh lp rows kv c S':=λ l=>by
 induction l with
 | nil=>
  intro c g S rows kv s3 hs _ _;cases g;exact ⟨S,s3,rfl,[],kv,by simpa using hs,by simp,by omega,λ _ z=>z,λ _ _ _ _ _ hy=>absurd hy List.not_mem_nil⟩
 | cons x l il=>
  intro c g S rows kv s3 hs hl hk;cases g with
  | @cons _ _ k h _ c c' g1 g2=>
   obtain ⟨S1,e1,rs1,kv1,h1,l1,k1,kg1,f1⟩:=FZ hN ih g1 hm hw hs (by omega) (by omega) k;obtain ⟨S2,s3',e2,rs2,kv2,h2,l2,k2,kg2,f2⟩:=il c' g2 S1 (rows++rs1) kv1 (.val (bQ k h)) h1 (by rw [List.length_append];omega) (by omega);refine ⟨S2,s3',?_,rs1++rs2,kv2,h2.cast (List.append_assoc _ _ _),by rw [List.length_append];omega,by omega,kg1.trans kg2,λ F hF hc lo y hy=>?_⟩
   . exact (db (δ2:=[.val (.ref I),.val b,.val lp,.val (bQ k h)]) rfl (bu (br (S1:=S) (ds:=[.ref I,bQ k h,lp]) (by first | rfl | simp! [uS,uD]) e1))).trans e2
   . rcases List.mem_append.mp hy with hy | hy
     . exact f1 F (λ ks z=>hF ks (kg2 ks z)) hc lo y hy
     . exact f2 F hF hc lo y hy
theorem yN (hN:N.length<=8000) {n:Nat} (ih:∀ k,n=k+1->BB I r p d x0 N FN k):BB I r p d x0 N FN n:=λ wh l c g m lp hm hw S rows kv hs hl hk=>by
 obtain ⟨m,rfl⟩:∃ j,m=j+1:=⟨m-1,by omega⟩
 obtain ⟨S',s3',e,R⟩:=AY hN ih (m:=m) (by omega) (b:=.list (cO l)) hw l c g S rows kv .no hs hl hk;refine ⟨S',?_,R⟩;refine (aY rfl).trans ((congrArg dY (?_:_=some (.nx [.val (.ref I),.val (.list (cO l)),.val lp,s3'],S'))).trans rfl);exact (gg (S1:=S) (ds:=cO l) (by first | rfl | simp! [uS,uD,b8])).trans e
theorem D6 (hN:N.length<=8000):∀ n,BB I r p d x0 N FN n:=λ n=>by
 induction n with
 | zero=>exact yN hN λ k z=>by cases z
 | succ n ih=>exact yN hN λ k z=>by cases z;exact ih
end
theorem nq:Str.ofString "rows" ≠ Str.ofString "spots" /\ Str.ofString "rows" ≠ Str.ofString "name" /\ Str.ofString "spots" ≠ Str.ofString "name" /\ Str.ofString "rows" ≠ Str.ofString "slots" /\ Str.ofString "spots" ≠ Str.ofString "slots" /\ Str.ofString "name" ≠ Str.ofString "slots" := by decide +kernel
theorem KL (r p d:Nat) (nm x:W):fq (Str.ofString "name") x (jX r p d nm)=jX r p d x:=by simp [jX,fq,nq.2.1,nq.2.2.1]
theorem JP (r p d e:Nat) (nm:W):fq (Str.ofString "slots") (.ref e) (jX r p d nm)=jX r p e nm:=by simp [jX,fq,nq.2.2.2.1,nq.2.2.2.2.1,nq.2.2.2.2.2]
theorem zN (S:ai):∃ S',eG [.ref S.length] (S++[.ins (Str.ofString "Sheet") []])=some (.ok .none,S')/\SH S' S.length (S.length+1) (S.length+2) (S.length+3) .none [] [] []:=by
 have z0:=sz 0 (by decide);let δ:DS:=[.val (.ref S.length)]
 let c:Str:=Str.ofString "Sheet";let S0:ai:=S++[.ins c []];have l0:S0.length=S.length+1:=by simp [S0]
 have a0:S0[S.length]?=some (.ins c []):=cZ _ _;let S1:ai:=S0++[.lst []];have b1:S1[S.length+1]?=some (.lst []):=by rw [<-l0];exact cZ _ _
 have e1:fS "Sheet" "rows" (ab (ac 0)) (fz (ab af)) δ S0=some (.nx δ,S1.set S.length (.ins c (fq (Str.ofString "rows") (.ref (S.length+1)) []))):=ic (by rw [<-l0];simp! [S1,uS,uD,if_pos z0]) rfl (bF a0) (by simp);let S2:ai:=S1.set S.length (.ins c (fq (Str.ofString "rows") (.ref (S.length+1)) []));have l2:S2.length=S.length+2:=by simp [S2,S1,l0]
 have a2:S2[S.length]?=some (.ins c [(Str.ofString "rows", .ref (S.length+1))]):=set_eq' (bF a0);have b2:S2[S.length+1]?=some (.lst []):=set_ne' b1 (by omega);let S3:ai:=S2++[.dT []];have c3:S3[S.length+2]?=some (.dT []):=by rw [<-l2];exact cZ _ _
 have e2:fS "Sheet" "spots" (ab (ac 0)) K1 δ S2=some (.nx δ,S3.set S.length (.ins c (fq (Str.ofString "spots") (.ref (S.length+2)) [(Str.ofString "rows", .ref (S.length+1))]))):=ic (by rw [<-l2];rfl) rfl (bF a2) (by simp);let S4:ai:=S3.set S.length (.ins c (fq (Str.ofString "spots") (.ref (S.length+2)) [(Str.ofString "rows", .ref (S.length+1))]));have p4:fq (Str.ofString "spots") (.ref (S.length+2)) [(Str.ofString "rows", .ref (S.length+1))]=[(Str.ofString "rows", .ref (S.length+1)),(Str.ofString "spots", .ref (S.length+2))]:=by simp [fq,nq.1]
 have l4:S4.length=S.length+3:=by simp [S4,S3,l2]
 have a4:S4[S.length]?=some (.ins c [(Str.ofString "rows", .ref (S.length+1)),(Str.ofString "spots", .ref (S.length+2))]):=by rw [<-p4];exact set_eq' (bF a2)
 have b4:S4[S.length+1]?=some (.lst []):=set_ne' (bF b2) (by omega);have c4:S4[S.length+2]?=some (.dT []):=set_ne' c3 (by omega);have e3:fS "Sheet" "name" (ab (ac 0)) (ab (dC .none)) δ S4=some (.nx δ,S4.set S.length (.ins c (fq (Str.ofString "name") .none [(Str.ofString "rows", .ref (S.length+1)),(Str.ofString "spots", .ref (S.length+2))]))):=ic rfl rfl a4 (by simp);let S5:ai:=S4.set S.length (.ins c (fq (Str.ofString "name") .none [(Str.ofString "rows", .ref (S.length+1)),(Str.ofString "spots", .ref (S.length+2))]));have p5:fq (Str.ofString "name") .none [(Str.ofString "rows", .ref (S.length+1)),(Str.ofString "spots", .ref (S.length+2))]=[(Str.ofString "rows", .ref (S.length+1)),(Str.ofString "spots", .ref (S.length+2)),(Str.ofString "name", .none)]:=by simp [fq,nq.2.1,nq.2.2.1]
 have l5:S5.length=S.length+3:=by simp [S5,l4]
 have a5:S5[S.length]?=some (.ins c [(Str.ofString "rows", .ref (S.length+1)),(Str.ofString "spots", .ref (S.length+2)),(Str.ofString "name", .none)]):=by rw [<-p5];exact set_eq' a4
 have b5:S5[S.length+1]?=some (.lst []):=set_ne' b4 (by omega);have c5:S5[S.length+2]?=some (.dT []):=set_ne' c4 (by omega);let S6:ai:=S5++[.dK []];have d6:S6[S.length+3]?=some (.dK []):=by rw [<-l5];exact cZ _ _
 have e4:fS "Sheet" "slots" (ab (ac 0)) Jf δ S5=some (.nx δ,S6.set S.length (.ins c (fq (Str.ofString "slots") (.ref (S.length+3)) [(Str.ofString "rows", .ref (S.length+1)),(Str.ofString "spots", .ref (S.length+2)),(Str.ofString "name", .none)]))):=ic (by rw [<-l5];rfl) rfl (bF a5) (by simp);have p6:fq (Str.ofString "slots") (.ref (S.length+3)) [(Str.ofString "rows", .ref (S.length+1)),(Str.ofString "spots", .ref (S.length+2)),(Str.ofString "name", .none)]=jX (S.length+1) (S.length+2) (S.length+3) .none:=by simp [jX,fq,nq.2.2.2.1,nq.2.2.2.2.1,nq.2.2.2.2.2]
 rw [p6] at e4;refine ⟨_,?_,⟨set_eq' (bF a5),set_ne' (bF b5) (by omega),set_ne' (bF c5) (by omega),set_ne' d6 (by omega)⟩⟩;refine (aY rfl).trans ((congrArg dY (?_:_=some (.nx δ,_))).trans rfl);exact (ag e1).trans ((ag e2).trans ((ag e3).trans e4))
theorem y2:∀ (l acc:List Str) (x:Str),x∈acc∨x∈l->x∈dd acc l
 | [],acc,x,h=>by simpa [dd] using h
 | y::l,acc,x,h=>by
  unfold dd;refine y2 l _ x ?_;rcases h with h | h
  . refine .inl ?_;split
    . exact h
    . simp [h]
  . rcases List.mem_cons.mp h with rfl | h
    . refine .inl ?_;split
      . assumption
      . simp
    . exact .inr h
theorem x8 {S:ai} {I r p d e:Nat} {nm:W} {rows:List W} {kv:List (List bg×W)} {sl sl':List (bg×W)} (h:SH S I r p d nm rows kv sl) (he:S[e]?=some (.dK sl')) (x:Str) (hk:kv.length<9000):∃ S',gG [.ref I,.str x,.ref e] S=some (.ok .none,S')/\SH S' I r p e (.str x) rows (bV kv [Sum.inr (Str.ofString "def"),Sum.inr x] (.int rows.length)) sl':=by
 have z2:=sz 2 (by decide);let δ:DS:=[.val (.ref I),.val (.str x),.val (.ref e)]
 have e1:fS "Sheet" "name" (ab (ac 0)) (ab (ac 1)) δ S=some (.nx δ,S.set I (.ins (Str.ofString "Sheet") (fq (Str.ofString "name") (.str x) (jX r p d nm)))):=ic rfl rfl h.hI (by simp [jX]);rw [KL] at e1;have i1:(S.set I (.ins (Str.ofString "Sheet") (jX r p d (.str x))))[I]?=some (.ins (Str.ofString "Sheet") (jX r p d (.str x))):=set_eq' h.hI;have e2:fS "Sheet" "slots" (ab (ac 0)) (ab (ac 2)) δ (S.set I (.ins (Str.ofString "Sheet") (jX r p d (.str x))))=some (.nx δ,(S.set I (.ins (Str.ofString "Sheet") (jX r p d (.str x)))).set I (.ins (Str.ofString "Sheet") (fq (Str.ofString "slots") (.ref e) (jX r p d (.str x))))):=ic rfl rfl i1 (by simp [jX]);rw [JP] at e2;have g:SH ((S.set I (.ins (Str.ofString "Sheet") (jX r p d (.str x)))).set I (.ins (Str.ofString "Sheet") (jX r p e (.str x)))) I r p e (.str x) rows kv sl':=
  ⟨set_eq' i1,set_ne' (set_ne' h.hr (cP h.hI h.hr (by simp))) (cP h.hI h.hr (by simp)),set_ne' (set_ne' h.hp (cP h.hI h.hp (by simp))) (cP h.hI h.hp (by simp)),set_ne' (set_ne' he (cP h.hI he (by simp))) (cP h.hI he (by simp))⟩
 refine ⟨_,?_,g.spot _⟩;refine (aY rfl).trans ((congrArg dY (?_:_=some (.nx δ,_))).trans rfl);exact (ag e1).trans ((ag e2).trans (sk g (x:=[.str "def", .str x]) rfl hk rfl (by first | rfl | simp! [δ,uS,uD,if_pos z2])))
mutual
theorem rP.imp {P Q:Bool->Hd->Prop} (i:∀ wh h,P wh h->Q wh h):∀ {n:Nat} {wh:Bool} {h:Hd} {c:Nat},rP P n wh h c->rP Q n wh h c
 | _,_,_,_,.lf p b=>.lf (i _ _ p) b
 | _,_,_,_,.whl p g=>.whl (i _ _ p) (gK.imp i g)
 | _,_,_,_,.if1 p g=>.if1 (i _ _ p) (gK.imp i g)
 | _,_,_,_,.if2 p g g'=>.if2 (i _ _ p) (gK.imp i g) (gK.imp i g')
theorem gK.imp {P Q:Bool->Hd->Prop} (i:∀ wh h,P wh h->Q wh h):∀ {n:Nat} {wh:Bool} {l:List Bk} {c:Nat},gK P n wh l c->gK Q n wh l c
 | _,_,_,_,.nil=>.nil
 | _,_,_,_,.cons g1 g2=>.cons (rP.imp i g1) (gK.imp i g2)
end
noncomputable def Sd (r:W):Prop:=(∃ w xs,r=.tuple (.str w::xs)/\gF (.str w) (.tuple [.str "split", .str "jump", .str "call"])=some false/\eS r=true/\bJ r<=4)
 ∨ (∃ ln a v:Int,r=.tuple [.str "split", .int ln,.int a,.int v])
 ∨ (∃ ln v:Int,r=.tuple [.str "jump", .int ln,.int v])
 ∨ (∃ a b c d v:Int,r=.tuple [.str "call", .int a,.int b,.int c,.int d,.int v])
theorem zj:gF (.str "call") (.tuple [.str "split", .str "jump", .str "call"])=some true/\gF (.str "split") (.tuple [.str "split", .str "jump", .str "call"])=some true/\gF (.str "jump") (.tuple [.str "split", .str "jump", .str "call"])=some true:=by decide +kernel
theorem iP {S:ai} {p:Nat} {kv:List (List bg×W)} {w:Str} {q x:List W} {ks:List bg} {v:W} (hp:S[p]?=some (.dT kv)) (hw:gF (.str w) (.tuple [.str "split", .str "jump", .str "call"])=some true) (hx:jb x=some ks) (hv:cr kv ks=some v) (hq:q.length<=100) (c1:i7 (.str w::(q++[.tuple x])) none (some (-1))=.str w::q):
 fI [.tuple (.str w::(q++[.tuple x])),.ref p] S=some (.ok (.tuple (.str w::(q++[v]))),S):=by
 have z3:=sz 3 (by decide);have z1:=sz 1 (by decide);have a0:fG (.str w::(q++[.tuple x])) 0=some (.str w):=oH _ _;have a1:fG (.str w::(q++[.tuple x])) (-1)=some (.tuple x):=Iu (W.str w::q) (W.tuple x);have gk:sJ (.ref p) (.tuple x) S=some (some v):=by simp [sJ,iJ,hp,oE,hx,hv]
 have ga:bw (.tuple (.str w::q)) (.tuple [v])=some (.tuple (.str w::(q++[v]))):=Em (a:=.str w::q) (b:=[v]) (by simp) (sz _ (by simp;omega));refine (aY rfl).trans ((congrArg dY (?_:_=some (.rt (.tuple (.str w::(q++[v]))),S))).trans rfl);refine gM ((d5 (S1:=S) (by first | rfl | simp! [uS,uD,b8,a0,hw,if_pos z3])).trans (eY ?_));first | rfl | simp! [F7,iU,A8,uS,uD,b8,a1,c1,gk,ga,if_pos z1]
theorem tL {S:ai} {p:Nat} {kv:List (List bg×W)} (hp:S[p]?=some (.dT kv)) {y:W} (h:Gd (jd kv) y):∃ y',fI [y,.ref p] S=some (.ok y',S)/\Sd y':=by
 have z3:=sz 3 (by decide);rcases h with ⟨w,xs,rfl,hw,ho⟩ | ⟨ln,a,x,ks,rfl,hx,v,hv⟩ | ⟨ln,x,ks,rfl,hx,v,hv⟩ | ⟨a,b,c,d,x,ks,rfl,hx,v,hv⟩
 . refine ⟨_,?_,.inl ⟨w,xs,rfl,hw,ho⟩⟩;refine (aY rfl).trans ((congrArg dY (?_:_=some (.rt (.tuple (.str w::xs)),S))).trans rfl);refine (ag (δ':=[.val (.tuple (.str w::xs)),.val (.ref p)]) (S':=S) ?_).trans (by first | rfl | simp! [uS,uD]);refine (bR (S1:=S) (by first | rfl | simp! [uS,uD,b8,oH,hw,if_pos z3])).trans ?_;first | rfl | simp! [uS,uD,b8]
 . exact ⟨_,iP (q:=[.int ln,.int a]) hp zj.2.1 hx hv (by simp) rfl,.inr (.inl ⟨ln,a,v,rfl⟩)⟩
 . exact ⟨_,iP (q:=[.int ln]) hp zj.2.2 hx hv (by simp) rfl,.inr (.inr (.inl ⟨ln,v,rfl⟩))⟩
 . exact ⟨_,iP (q:=[.int a,.int b,.int c,.int d]) hp zj.1 hx hv (by simp) rfl,.inr (.inr (.inr ⟨a,b,c,d,v,rfl⟩))⟩
structure PG (FN:List Str) (wh:Bool) (h:Hd):Prop where
 o:BY h
 b:wh=false->aG h≠4/\aG h≠5
 f:∀ x f ts,h=.call x f ts->f∈FN
 j:∀ x j t,h=.join x j t->PyData.strOk j=true
structure Df where
 x:Str
 ps:List Str
 b:List Bk
 n:Nat
 c:Nat
 k:Int
 e:Int
noncomputable def qP (D:Df):W:=.tuple [.str D.x,.list (D.ps.map .str),.list (cO D.b),.int D.k,.int D.e]
structure JF (FN:List Str) (D:Df):Prop where
 g:gK (PG FN) D.n false D.b D.c
 n:D.n<=6
 p:D.ps.length<=10
noncomputable def Jy (l:Int):W:=.tuple [.str "back", .int l]
theorem GV:gF (.str "back") (.tuple [.str "split", .str "jump", .str "call"])=some false/\PyData.strOk (Str.ofString "back")=true:=by decide +kernel
theorem dd_len' (l:List Str):(dd [] l).length<=l.length:=by have:=Ar l [];simpa using this
theorem Cw {S:ai} {I r p d:Nat} {nm:W} {rows:List W} {kv:List (List bg×W)} {sl:List (bg×W)} {FN:List Str} (h:SH S I r p d nm rows kv sl) {D:Df} (g:JF FN D) (s0 s2:Sl) (hc:D.c<100) (hr:rows.length+46*D.c<=7600) (hk:kv.length+3*D.c<=770):
 ∃ S' d' N' rs kv',o9 [s0,.val (.ref I),s2,.val (.str D.x),.val (.list (D.ps.map .str)),.val (.list (cO D.b)),.val (.int D.k),.val (.int D.e)] S=some (.nx [s0,.val (.ref I),s2,.val (.str D.x),.val (.list (D.ps.map .str)),.val (.list (cO D.b)),.val (.int D.k),.val (.int D.e)],S')/\SH S' I r p d' (.str D.x) (rows++rs) kv' (fL 0 N')/\rs.length<=46*D.c+1/\kv'.length<=kv.length+3*D.c+2/\KG kv kv'/\jd kv' [Sum.inr (Str.ofString "def"),Sum.inr D.x]/\
  ∀ F:List bg->Prop,(∀ ks,jd kv' ks->F ks)->(∀ f∈FN,F [Sum.inr (Str.ofString "def"),Sum.inr f])->∀ y∈rs,Gd F y:=by
 have z2:=sz 2 (by decide);obtain ⟨N,n1,n2,n3⟩:=x4 g.g (λ _ _ q=>q.o) g.n (by omega);have hp:=g.p;obtain ⟨S1,e1,h1,k1⟩:=wW D.ps N (.list (cO D.b)) S n1 (by omega) hp;have hN:(dd [] (D.ps++N)).length<=8000:=Nat.le_trans (dd_len' _) (by simp;omega);have g1:SH S1 I r p d nm rows kv sl:=⟨kt k1 rfl h.hI,kt k1 rfl h.hr,kt k1 rfl h.hp,kt k1 rfl h.hd⟩
 obtain ⟨S2,e2,g2⟩:=x8 g1 h1 D.x (by omega);have l2:=dj kv [Sum.inr (Str.ofString "def"),Sum.inr D.x] (.int (rows.length:Int));have gk:gK (PK (dd [] (D.ps++N)) FN) D.n false D.b D.c:=n3.imp λ wh h q=>⟨q.1.o,λ x hx=>y2 _ _ x (.inr (List.mem_append.mpr (.inr (q.2 x hx)))),q.1.b,q.1.f,q.1.j⟩
 obtain ⟨S3,e3,rs,kv3,g3,l3,k3,kg3,f3⟩:=D6 hN D.n false D.b D.c gk 7 .none (by have:=g.n;omega) (λ z=>by cases z) S2 rows _ g2 (by omega) (by omega);have l4:=dj kv3 [Sum.inr (Str.ofString "last"),Sum.inr D.x] (.int ((rows++rs).length:Int));have g4:=g3.spot (bV kv3 [Sum.inr (Str.ofString "last"),Sum.inr D.x] (.int (rows++rs).length));have g5:=g4.row (rows++rs++[Jy D.e]);refine ⟨_,S.length,_,rs++[Jy D.e],_,?_,g5.cast (List.append_assoc _ _ _),by simp;omega,by omega,((KG.put _ _ _).trans kg3).trans (.put _ _ _),KG.put _ _ _ _ (kg3 _ (fW _ _ _)),λ F hF hf y hy=>?_⟩
 . refine (ag (bu (kb (S1:=S1) (fs:=jX r p d nm) (I:=I) (ds:=[.str D.x,.ref S.length]) rfl h.hI (Ck _ C1 _ _ _ _) (bH (S1:=S) rfl (bH (S1:=S1) (br (S1:=S) (by first | rfl | simp! [uS,uD]) e1) rfl)) e2))).trans ?_;refine (ag (bu (br (S1:=S2) (ds:=[.ref I,.list (cO D.b),.none]) (by first | rfl | simp! [uS,uD]) e3))).trans ?_;refine (ag (sk g3 (x:=[.str "last", .str D.x]) rfl (by omega) rfl (by first | rfl | simp! [uS,uD,if_pos z2]))).trans ?_;exact fP g4 (Jy D.e) (by simp;omega) rfl (by first | rfl | simp! [Jy,uS,uD,if_pos z2])
 . rcases List.mem_append.mp hy with hy | hy
   . exact f3 F (λ ks z=>hF ks (KG.put _ _ _ _ z)) ⟨hF _ (fW _ _ _),hf⟩ (λ z=>by cases z) y hy
   . rcases List.mem_singleton.mp hy with rfl;exact .pl GV ⟨rfl,rfl⟩
noncomputable def cD:List Df->Nat
 | []=>0
 | D::l=>D.c+1+cD l
theorem AR {I r p:Nat} {FN:List Str} {s0 s2:Sl}:∀ (l:List Df) {S:ai} {d:Nat} {nm:W} {rows:List W} {kv:List (List bg×W)} {sl:List (bg×W)} (s3 s4 s5 s6 s7:Sl),SH S I r p d nm rows kv sl->(∀ D∈l,JF FN D/\D.c<100)->rows.length+46*cD l<=7600->kv.length+3*cD l<=770->
 ∃ S' d' nm' sl' rs kv' t3 t4 t5 t6 t7,bY (eA 5 (bc (ae 3) (bc (ae 4) (bc (ae 5) (bc (ae 6) (bc (ae 7) eZ)))))) o9 (l.map qP) [s0,.val (.ref I),s2,s3,s4,s5,s6,s7] S=some (.nx [s0,.val (.ref I),s2,t3,t4,t5,t6,t7],S')/\SH S' I r p d' nm' (rows++rs) kv' sl'/\rs.length<=46*cD l/\KG kv kv'/\(∀ D∈l,jd kv' [Sum.inr (Str.ofString "def"),Sum.inr D.x])/\
  ∀ F:List bg->Prop,(∀ ks,jd kv' ks->F ks)->(∀ f∈FN,F [Sum.inr (Str.ofString "def"),Sum.inr f])->∀ y∈rs,Gd F y:=λ l=>by
 induction l with
 | nil=>
  intro S d nm rows kv sl s3 s4 s5 s6 s7 h _ _ _;exact ⟨S,d,nm,sl,[],kv,s3,s4,s5,s6,s7,rfl,by simpa using h,by simp,λ _ z=>z,λ D hD=>absurd hD List.not_mem_nil,λ _ _ _ _ hy=>absurd hy List.not_mem_nil⟩
 | cons D l il=>
  intro S d nm rows kv sl s3 s4 s5 s6 s7 h hD hr hk;obtain ⟨gD,cD'⟩:=hD D (.head _);simp only [cD] at hr hk ⊢;obtain ⟨S1,d1,N1,rs1,kv1,e1,h1,l1,k1,kg1,df1,f1⟩:=Cw h gD s0 s2 cD' (by omega) (by omega);obtain ⟨S2,d2,GK,sl2,rs2,kv2,t3,t4,t5,t6,t7,e2,h2,l2,kg2,df2,f2⟩:=il (.val (.str D.x)) (.val (.list (D.ps.map .str))) (.val (.list (cO D.b))) (.val (.int D.k)) (.val (.int D.e)) h1 (λ E hE=>hD E (.tail _ hE)) (by rw [List.length_append];omega) (by omega);refine ⟨S2,d2,GK,sl2,rs1++rs2,kv2,t3,t4,t5,t6,t7,(db rfl e1).trans e2,h2.cast (List.append_assoc _ _ _),by rw [List.length_append];omega,kg1.trans kg2,λ E hE=>?_,λ F hF hf y hy=>?_⟩
  . rcases List.mem_cons.mp hE with rfl | hE
    . exact kg2 _ df1
    . exact df2 E hE
  . rcases List.mem_append.mp hy with hy | hy
    . exact f1 F (λ ks z=>hF ks (kg2 ks z)) hf y hy
    . exact f2 F hF hf y hy
noncomputable def rS (D:Df):Bool:=decide (D.x=Str.ofString "main")
theorem zK:∀ a b:List Df,cD (a++b)=cD a+cD b
 | [],b=>by simp [cD]
 | D::a,b=>by simp only [List.cons_append,cD,zK a b];omega
theorem yo:∀ l:List Df,cD (l.filter rS)+cD (l.filter λ D=>!rS D)=cD l
 | []=>rfl
 | D::l=>by
  have:=yo l;cases h:rS D <;> simp [h,cD] <;> omega
theorem yY:∀ l:List Df,b0 (ae 0) (av bZ (ao aR (ak 0) (dC (.int (0)))) (dC (.str "main"))) (ac 0) [.no] (l.map qP)=some ((l.filter rS).map qP)
 | []=>rfl
 | D::l=>by
  have ih:=yY l;have e:(decide (D.x=Str.ofString "main"))=rS D:=rfl;cases h:rS D <;> simp! [List.map_cons,b0,qP,uD,oH,e,h,ih] <;> simp [h,qP]
theorem vI:∀ l:List Df,b0 (ae 0) (av tS (ao aR (ak 0) (dC (.int (0)))) (dC (.str "main"))) (ac 0) [.no] (l.map qP)=some ((l.filter λ D=>!rS D).map qP)
 | []=>rfl
 | D::l=>by
  have ih:=vI l;have e:(decide (D.x=Str.ofString "main"))=rS D:=rfl;cases h:rS D <;> simp! [List.map_cons,b0,qP,uD,oH,e,h,ih] <;> simp [h,qP]
noncomputable def HM (S:ai) (p:Nat) (x y:W):Prop:=fI [x,.ref p] S=some (.ok y,S)
theorem wE {S:ai} {p:Nat} {kv:List (List bg×W)} (hp:S[p]?=some (.dT kv)):∀ rows:List W,(∀ y∈rows,Gd (jd kv) y)->∃ ys,Al (HM S p) rows ys/\(∀ y∈ys,Sd y)/\ys.length=rows.length
 | [],_=>⟨[],.nil,λ _ h=>absurd h List.not_mem_nil,rfl⟩
 | x::l,h=>by
  obtain ⟨y,e,q⟩:=tL hp (h x (.head _));obtain ⟨ys,A,Q,L⟩:=wE hp l λ z hz=>h z (.tail _ hz);exact ⟨y::ys,.cons e A,λ z hz=>(List.mem_cons.mp hz).elim (λ e=>e▸q) (Q z),by simp [L]⟩
theorem yk (Ds:List Df) (FN:List Str) (hD:∀ D∈Ds,JF FN D/\D.c<100) (hF:∀ f∈FN,∃ D∈Ds,D.x=f) (hc:cD Ds<=160) (hl:Ds.length<=100) (S:ai):∃ S' ys,vy [.list (Ds.map qP)] S=some (.ok (.list ys),S')/\(∀ y∈ys,Sd y)/\ys.length<=46*cD Ds:=by
 have z2:=sz 2 (by decide);obtain ⟨S0,e0,g0⟩:=zN S;let pr:W:=.list (Ds.map qP);let L:List Df:=Ds.filter rS++Ds.filter λ D=>!rS D;let od:W:=.list (L.map qP);have cL:cD L=cD Ds:=(zK _ _).trans (yo Ds);have mL:∀ D,D∈Ds->D∈L:=λ D h=>by
  cases e:rS D
  . exact List.mem_append.mpr (.inr (List.mem_filter.mpr ⟨h,by simp [e]⟩))
  . exact List.mem_append.mpr (.inl (List.mem_filter.mpr ⟨h,e⟩))
 have mL':∀ D,D∈L->D∈Ds:=λ D h=>(List.mem_append.mp h).elim (λ h=>(List.mem_filter.mp h).1) (λ h=>(List.mem_filter.mp h).1);have lf1:(Ds.filter rS).length<=Ds.length:=List.length_filter_le _ _;have lf2:(Ds.filter λ D=>!rS D).length<=Ds.length:=List.length_filter_le _ _;obtain ⟨S2,d2,GK,sl2,rs,kv2,t3,t4,t5,t6,t7,e2,g5,l2,kg2,df2,f2⟩:=AR (s0:=.val pr) (s2:=.val od) L .no .no .no .no .no g0 (λ D h=>hD D (mL' D h)) (by rw [cL];simp;omega) (by rw [cL];simp;omega);obtain ⟨ys,A,Q,LY⟩:=wE g5.hp ([]++rs) λ y hy=>f2 (jd kv2) (λ _ z=>z) (λ f hf=>by obtain ⟨D,h1,rfl⟩:=hF f hf;exact df2 D (mL D h1)) y (by simpa using hy);refine ⟨S2,ys,?_,Q,by rw [LY,<-cL];simpa using l2⟩;refine (aY rfl).trans ((congrArg dY (?_:_=some (.rt (.list ys),S2))).trans rfl);refine (ag (δ':=[.val pr,.val (.ref S.length),.no,.no,.no,.no,.no,.no]) (S':=S0) (bU (yH (S1:=S) (ds:=[]) rfl e0) rfl)).trans ?_;refine (ag (δ':=[.val pr,.val (.ref S.length),.val od,.no,.no,.no,.no,.no]) (S':=S0) ?_).trans ?_
 . have zp:(Ds.map qP).length<=sizeLine:=sz _ (by simp;omega);have za:((Ds.filter rS).map qP).length+((Ds.filter λ D=>!rS D).map qP).length<=sizeLine:=sz _ (by simp only [List.length_map];omega);have ga:bw (.list ((Ds.filter rS).map qP)) (.list ((Ds.filter λ D=>!rS D).map qP))=some od:=by rw [o7 za,<-List.map_append]
   refine b6 (aS (d:=od) ?_ rfl);first | rfl | simp! [pr,uD,if_pos zp]
   rw [yY,vI];first | rfl | simp only [Option.bind_some,Option.map_some,ga]
 refine (ag ((gg (S1:=S0) (ds:=L.map qP) (by first | rfl | simp! [od,uS,uD])).trans e2)).trans ?_;refine eY (pR (n:=(S.length+1,.l)) (S0:=S2) ?_ (by decide) ?_)
 . first | rfl | simp! [uS,uD,gH g5.hI,F3,fX g5.hr]
 . have hs:∀ x y,HM S2 (S.length+2) x y->∃ δ2,ae 1 x [.val (.ref S.length),.no]=some δ2/\cf fI (aI (ab (ac 1)) (aI (gC "Sheet" "spots" (ab (ac 0))) dL)) δ2 S2=some (.ok y,S2):=λ x y hxy=>by
    refine ⟨_,rfl,br (S1:=S2) (ds:=[x,.ref (S.length+2)]) ?_ hxy⟩;first | rfl | simp! [uS,uD,gH g5.hI,GZ]
   have:=sD (wC g5.hr) hs A 9000 0 rfl (by simp;rw [cL] at l2;omega);rw [show bI [some 1,none] [.val pr,.val (.ref S.length),.val od,t3,t4,t5,t6,t7]=[.val (.ref S.length),.no] from rfl];exact this
theorem xy (i:Int):eg [.int i]=some (.bool true):=by
 refine aU rfl (ay ?_);first | rfl | simp! [uD]
theorem K6 {w:Str} (h:gF (.str w) (.tuple [.str "split", .str "jump", .str "call"])=some false):decide (w=Str.ofString "split")=false/\decide (w=Str.ofString "jump")=false:=by
 constructor
 . refine decide_eq_false λ e=>?_;subst e;rw [zj.2.1] at h;cases h
 . refine decide_eq_false λ e=>?_;subst e;rw [zj.2.2] at h;cases h
theorem kn:decide (Str.ofString "split" = Str.ofString "back")=false/\decide (Str.ofString "split" = Str.ofString "jump")=false/\decide (Str.ofString "jump" = Str.ofString "back")=false/\decide (Str.ofString "call" = Str.ofString "back")=false/\decide (Str.ofString "call" = Str.ofString "jump")=false/\decide (Str.ofString "call" = Str.ofString "split")=false:=by decide +kernel
structure LJ (ys:List W) (y:W) (k:Int) (L:List Int):Prop where
 n:iW [.list ys,.int k]=some (.list (L.map .int))
 d:ii [y,.int k]=some (.list (L.map .int))
theorem FX {ys:List W} {y:W} {k:Int} (hk:fG ys k=some y) (h:Sd y):∃ L:List Int,LJ ys y k L/\L.length<=2:=by
 have z0:=sz 0 (by decide);have z1:=sz 1 (by decide);have z2:=sz 2 (by decide);let δ:DS:=[.val (.list ys),.val (.int k),.val y]
 let ε:DS:=[.val y,.val (.int k)]
 have go:∀ {f:DS->Option dm} {d:W},f δ=some (.rt d)->bO 2 3 (aq (aB (ao aR (ak 0) (ac 1)) (ae 2)) f) [.list ys,.int k]=some d:=λ {f d} e=>aU rfl (ah (δ1:=δ) (aS (d:=y) (mN rfl rfl hk) rfl) e);have kp:∀ {γ:DS} {i:Nat},ak i γ=some (.int k)->ao bw (ak i) (dC (.int (1))) γ=some (.int (k+1)):=λ {γ i} e=>by simp only [ao,e,dC,Option.bind_some,bw]
 rcases h with ⟨w,xs,rfl,hw,_⟩ | ⟨ln,a,v,rfl⟩ | ⟨ln,v,rfl⟩ | ⟨a,b,c,d,v,rfl⟩
 . obtain ⟨n1,n2⟩:=K6 hw;have a0:∀ {γ:DS} {i:Nat},ak i γ=some (.tuple (.str w::xs))->ao aR (ak i) (dC (.int (0))) γ=some (.str w):=λ e=>x0 e;by_cases hb:w=Str.ofString "back"
   . subst hb;refine ⟨[],⟨go (iT (a0 rfl) (ay (by first | rfl | simp! [uD,if_pos z0]))),aU rfl (iT (a0 rfl) (ay (by first | rfl | simp! [uD,if_pos z0])))⟩,by simp⟩
   . have nb:=decide_eq_false hb;refine ⟨[k+1],⟨go ((iF (a0 rfl) nb).trans ((iF (a0 rfl) n2).trans ((iF (a0 rfl) n1).trans (ay (CL (kp rfl)))))),aU rfl ((iF (a0 rfl) nb).trans ((iF (a0 rfl) n2).trans (ah (ax (b:=false) (IV (tF (a0 rfl) n1)) rfl) (ah (ax (b:=false) (IV (tF (a0 rfl) n1)) rfl) (ay (CL (kp rfl)))))))⟩,by simp⟩
 . let Y:W:=.tuple [.str "split", .int ln,.int a,.int v];have a0:∀ {γ:DS} {i:Nat},ak i γ=some Y->ao aR (ak i) (dC (.int (0))) γ=some (.str "split"):=λ e=>x0 e;have a3:∀ {γ:DS} {i:Nat},ak i γ=some Y->ao aR (ak i) (dC (.int (3))) γ=some (.int v):=λ e=>x3 e;have L2:∀ {γ:DS} {f g:DS->Option W} {x y:W},f γ=some x->g γ=some y->aT (bn (aa f (aa g af))) γ=some (.list [x,y]):=λ e1 e2=>by simp only [aT,bn,HA e1 e2,Option.bind_some,Option.map_some,List.length_cons,List.length_nil,Nat.reduceAdd,if_pos z2]
   refine ⟨uq (k+1) v,⟨go ((iF (a0 rfl) kn.1).trans ((iF (a0 rfl) kn.2.1).trans (iT (a0 rfl) (ay ?_)))),aU rfl ((iF (a0 rfl) kn.1).trans ((iF (a0 rfl) kn.2.1).trans ?_))⟩,by unfold uq;split <;> (try split) <;> simp⟩
   . simp only [aT,K7];have:=L2 (γ:=δ) (kp (i:=1) rfl) (a3 (i:=2) rfl);simp only [aT] at this;rw [this];rfl
   . have tl:av lA (ao aR (ak 0) (dC (.int (3)))) (ao bw (ak 1) (dC (.int (1)))) ε=some (decide (v<k+1)):=Jr (a3 rfl) (kp rfl) rfl;have tg:av Ja (ao aR (ak 0) (dC (.int (3)))) (ao bw (ak 1) (dC (.int (1)))) ε=some (decide (k+1<v)):=Jr (a3 rfl) (kp rfl) rfl;by_cases h1:v<k+1
     . rw [decide_eq_true h1] at tl;rw [show uq (k+1) v=[v,k+1] by unfold uq;rw [if_neg (by omega),if_pos h1]];exact cp (ax (b:=true) (dA (tT (a0 rfl)) tl) (ay (L2 (a3 rfl) (kp rfl))))
     . rw [decide_eq_false h1] at tl;refine ah (ax (b:=false) (dA (tT (a0 rfl)) tl) rfl) ?_;by_cases h2:k+1<v
       . rw [decide_eq_true h2] at tg;rw [show uq (k+1) v=[k+1,v] by unfold uq;rw [if_pos h2]];exact cp (ax (b:=true) (dA (tT (a0 rfl)) tg) (ay (L2 (kp rfl) (a3 rfl))))
       . rw [decide_eq_false h2] at tg;rw [show uq (k+1) v=[k+1] by unfold uq;rw [if_neg h2,if_neg h1]];exact ah (ax (b:=false) (dA (tT (a0 rfl)) tg) rfl) (ay (CL (kp rfl)))
 . let Y:W:=.tuple [.str "jump", .int ln,.int v];have a0:∀ {γ:DS} {i:Nat},ak i γ=some Y->ao aR (ak i) (dC (.int (0))) γ=some (.str "jump"):=λ e=>x0 e;have a2:∀ {γ:DS} {i:Nat},ak i γ=some Y->ao aR (ak i) (dC (.int (2))) γ=some (.int v):=λ e=>x2 e;exact ⟨[v],⟨go ((iF (a0 rfl) kn.2.2.1).trans (iT (a0 rfl) (ay (CL (a2 rfl))))),aU rfl ((iF (a0 rfl) kn.2.2.1).trans (iT (a0 rfl) (ay (CL (a2 rfl)))))⟩,by simp⟩
 . let Y:W:=.tuple [.str "call", .int a,.int b,.int c,.int d,.int v];have a0:∀ {γ:DS} {i:Nat},ak i γ=some Y->ao aR (ak i) (dC (.int (0))) γ=some (.str "call"):=λ e=>x0 e;exact ⟨[k+1],⟨go ((iF (a0 rfl) kn.2.2.2.1).trans ((iF (a0 rfl) kn.2.2.2.2.1).trans ((iF (a0 rfl) kn.2.2.2.2.2).trans (ay (CL (kp rfl)))))),aU rfl ((iF (a0 rfl) kn.2.2.2.1).trans ((iF (a0 rfl) kn.2.2.2.2.1).trans (ah (ax (b:=false) (IV (tF (a0 rfl) kn.2.2.2.2.2)) rfl) (ah (ax (b:=false) (IV (tF (a0 rfl) kn.2.2.2.2.2)) rfl) (ay (CL (kp rfl)))))))⟩,by simp⟩
theorem lH:∀ (bs:List Bool),qR (bs.map .bool)=some bs
 | []=>rfl
 | b::bs=>by
  show ((some b).bind λ b=>(qR (bs.map .bool)).map (b::·))=_;rw [lH bs];rfl
theorem yy (xs:List Int):uk (.list (xs.map λ _=>.bool true))=some (.bool true):=by
 have e:(xs.map λ _=>W.bool true)=(xs.map λ _=>true).map .bool:=by simp
 have:(xs.map λ _=>true).all id=true:=by simp
 rw [e];simp only [uk,ju,Option.bind_some,lH,Option.map_some,this]
theorem zq:∀ L:List Int,b0 (ae 0) jv (bt eg (aa (ac 0) af)) [.no] (L.map .int)=some (L.map λ _=>.bool true)
 | []=>rfl
 | i::L=>by
  have ih:=zq L;first | rfl | simp! [List.map_cons,b0,uD,xy,ih]
theorem wd (L:List Int):eS (.list (L.map .int))=true/\bJ (.list (L.map .int))<=64:=by
 have h1:bM (L.map W.int)=true:=gN λ d hd=>by obtain ⟨i,_,rfl⟩:=List.mem_map.mp hd;rfl
 have h2:bp (L.map W.int)<=0:=gX λ d hd=>by obtain ⟨i,_,rfl⟩:=List.mem_map.mp hd;exact Nat.le_refl _
 exact ⟨by simpa only [eS] using h1,by simp only [bJ];omega⟩
theorem zc {ys:List W} {y:W} {k:Int} {L:List Int} (h:LJ ys y k L) (hl:L.length<=2) (s0 s2 s5:Sl):∃ s5',qI [s0,.val (.list ys),s2,.val (.int k),.val y,s5]=some (.nx [s0,.val (.list ys),s2,.val (.int k),.val y,s5']):=by
 have z:(L.map W.int).length<=sizeLine:=sz _ (by simp;omega);have ne:=y7 (wd L).1 (wd L).2;have e1:=h.n;have e2:=h.d;have ga:=yy L;have wa:=zq L;refine ⟨.val (.list (L.map .int)),?_⟩;refine ah (δ1:=[s0,.val (.list ys),s2,.val (.int k),.val y,.val (.list (L.map .int))]) (aS (d:=.list (L.map .int)) (by first | rfl | simp! [uD,e1]) rfl) ?_;refine ah (ax (b:=false) ?_ rfl) ?_
 . have t:xB (xN (rR (kW "list") (ac 5))) [s0,.val (.list ys),s2,.val (.int k),.val y,.val (.list (L.map .int))]=some false:=by first | rfl | simp! [uD,kW,if_true]
   unfold pC;rw [t];show av tS (ak 5) (bt ii (aa (ac 4) (aa (ac 3) af))) [s0,.val (.list ys),s2,.val (.int k),.val y,.val (.list (L.map .int))]=some false;exact Jr (a:=.list (L.map .int)) (b:=.list (L.map .int)) rfl (oF (ds:=[y,.int k]) rfl e2) ne
 . refine (ax (b:=false) ?_ rfl);have c:aT (gx [none] (cq (ak 5)) (ae 0) jv (bt eg (aa (ac 0) af))) [s0,.val (.list ys),s2,.val (.int k),.val y,.val (.list (L.map .int))]=some (.list (L.map λ _=>.bool true)):=IG (ds:=L.map .int) rfl (by simp;omega) wa;unfold xB xN rR;rw [c];show ((uk (.list (L.map λ _=>.bool true))).bind yf).map (!·)=some false;rw [ga];rfl
theorem Fa:∀ (a:List W) (y:W) (b:List W),fG (a++y::b) (a.length:Int)=some y:=λ a y b=>Cs (by simp)
theorem sH {ys:List W} (hq:∀ y∈ys,Sd y) (s0 s2:Sl):∀ (b a:List W) (s3 s4 s5:Sl),ys=a++b->∃ t3 t4 t5,be (eA 2 (bc (ae 3) (bc (ae 4) eZ))) qI (tX a.length b) [s0,.val (.list ys),s2,s3,s4,s5]=some (.nx [s0,.val (.list ys),s2,t3,t4,t5])
 | [],a,s3,s4,s5,_=>⟨s3,s4,s5,rfl⟩
 | y::b,a,s3,s4,s5,e=>by
  have hk:fG ys (a.length:Int)=some y:=by rw [e];exact Fa a y b
  obtain ⟨L,hL,hl⟩:=FX hk (hq y (by rw [e];simp));obtain ⟨t,et⟩:=zc hL hl s0 s2 s5;obtain ⟨t3,t4,t5,er⟩:=sH hq s0 s2 b (a++[y]) (.val (.int (a.length:Int))) (.val y) t (by rw [e];simp);refine ⟨t3,t4,t5,?_⟩;rw [List.length_append] at er;exact jE (δ2:=[s0,.val (.list ys),s2,.val (.int (a.length:Int)),.val y,s5]) rfl et er
theorem CF {y:W} (h:Sd y):eS y=true/\bJ y<=4:=by
 rcases h with ⟨w,xs,rfl,_,h1,h2⟩ | ⟨ln,a,v,rfl⟩ | ⟨ln,v,rfl⟩ | ⟨a,b,c,d,v,rfl⟩
 . exact ⟨h1,h2⟩
 . exact ⟨by simp only [eS,bM];decide +kernel,by simp [bJ,bp]⟩
 . exact ⟨by simp only [eS,bM];decide +kernel,by simp [bJ,bp]⟩
 . exact ⟨by simp only [eS,bM];decide +kernel,by simp [bJ,bp]⟩
theorem Dk {ys:List W} (hq:∀ y∈ys,Sd y):eS (.list ys)=true/\bJ (.list ys)<=64:=by
 have h1:bM ys=true:=gN λ d hd=>(CF (hq d hd)).1;have h2:bp ys<=4:=gX λ d hd=>(CF (hq d hd)).2;exact ⟨by simpa only [eS] using h1,by simp only [bJ];omega⟩
noncomputable def own (_:Tr):Bool:=false
noncomputable def GN (t:Tr):Prop:=∀ x∈tV t,PyData.strOk x=true
noncomputable def gd (t:Tr) (d c:Nat):Prop:=qe t<=d/\j4 t<=c/\GN t
theorem Ag:∀ (acc:List Str),wV (acc.map .str)=some (acc.map V.str)
 | []=>rfl
 | x::acc=>by
  show ((some (V.str x)).bind λ v=>(wV (acc.map .str)).map (v::·))=_;rw [Ag acc];rfl
theorem zT (x:Str):∀ (acc:List Str),Er (.str x) (acc.map V.str)=decide (x∈acc)
 | []=>rfl
 | y::acc=>by
  have ih:=zT x acc;unfold Er at ih ⊢;rw [List.map_cons,List.any_cons,ih];have:Bo (V.str y) (V.str x)=decide (y=x):=by
   show (y==x)=_;by_cases h:y=x <;> simp [h]
  rw [this];by_cases h:y=x
  . subst h;simp
  . have h':¬ x=y:=λ z=>h z.symm;simp [h,h']
theorem F8 {f g:DS->Option Bool} {δ:DS} (h1:f δ=some false) (h2:g δ=some false):pC f g δ=some false:=by simp only [pC,h1,h2,Option.bind_some];rfl
theorem Fv {f g:DS->Option Bool} {δ:DS} (h1:f δ=some true):pC f g δ=some true:=by simp only [pC,h1,Option.bind_some];rfl
theorem Ey {f g:DS->Option Bool} {δ:DS} (h1:f δ=some false) (h2:g δ=some true):pC f g δ=some true:=by simp only [pC,h1,h2,Option.bind_some];rfl
theorem GF:o5 (.int 10) (.int 30)=some (.int 1000000000000000000000000000000):=by
 show (if pz 10 30=true then some (W.int ((10:Int)^(30:Int).toNat)) else none)=_;rw [if_pos (by decide +kernel)];rfl
theorem BK {i j:Int} (h1:0<=i) (h2:i<2^190) (h3:0<=j) (h4:j<2^190):ox i j=true:=by
 have e:(2:Nat)^190<2^200:=Nat.pow_lt_pow_right (by decide) (by decide);simp only [ox,Bool.and_eq_true,Bool.or_eq_true,decide_eq_true_eq];exact .inr ⟨Nat.lt_trans (by omega) e,Nat.lt_trans (by omega) e⟩
theorem jU (c:Int) (k:Nat) (hk:k<9000):∃ m:Int,cT [.int c,.int (k:Int)]=some (.int m)/\0<=m:=by
 have hm:=di c (j:=1000000000000000000000000000057) (by decide);generalize hx:c.fmod 1000000000000000000000000000057=x at hm;have g1:mK (.int x) (.int 271828182845904523536028747135)=some (.int (x*271828182845904523536028747135)):=rg (BK hm.1 (Int.lt_trans hm.2 (by decide)) (by decide) (by decide));have g2:mK (.int (k:Int)) (.int (k:Int))=some (.int ((k:Int)*k)):=rg (rF (by omega) (by omega));have kk:(k:Int)*k<=9000*9000:=Int.mul_le_mul (by omega) (by omega) (by omega) (by omega);have k0:0<=(k:Int)*k:=Int.mul_nonneg (by omega) (by omega);have g3:mK (.int ((k:Int)*k)) (.int 314159265358979323846264338327)=some (.int ((k:Int)*k*314159265358979323846264338327)):=rg (rF (by omega) (by omega));have ga:(1000000000000000000000000000000:Int)+57=1000000000000000000000000000057:=by decide
 refine ⟨(x*271828182845904523536028747135+(k:Int)*k*314159265358979323846264338327+577215664901532860606512090082).fmod 1000000000000000000000000000057,?_,(di _ (by decide)).1⟩;have md:∀ i:Int,bf (.int i) (.int 1000000000000000000000000000057)=some (.int (i.fmod 1000000000000000000000000000057)):=λ i=>nB (by simp only [ke];decide);have mx:=md c;rw [hx] at mx;first | rfl | simp! [cT,uD,GF,ga,md,mx,hx,g1,g2,g3]
theorem tJ (ns:List Int) (k:Nat):∃ c:Int,cz [.list (ns.map .int),.int (k:Int)]=some (.int c):=by
 by_cases h:(k:Int)<ns.length
 . have e1:decide ((k:Int)<((ns.map W.int).length:Nat))=true:=by simpa using h
   refine ⟨ns[k]?.getD 0,?_⟩;have wD:=gc ns (k:Int) (by omega) h;first | rfl | (simp! [cz,uD,e1,wD];rfl)
 . have e1:decide ((k:Int)<((ns.map W.int).length:Nat))=false:=by simpa using h
   refine ⟨0,?_⟩;first | rfl | simp! [cz,uD,e1]
noncomputable def iw:Str:=Str.ofString "abcdefghijklmnopqrstuvwxyz"
theorem Bf:iw.cps.toList.length=26:=by decide +kernel
theorem BS:gi iw:=by unfold gi;decide +kernel
theorem zi (i:Int) (h0:0<=i) (h1:i<26):∃ c:Nat,aR (.str iw) (.int i)=some (.str ⟨#[c]⟩)/\gi ⟨#[c]⟩:=by
 have hz:iw.length<=sizeLine:=sz _ (by decide +kernel);obtain ⟨k,rfl⟩:∃ k:Nat,i=k:=⟨i.toNat,by omega⟩
 have hk:k<iw.cps.toList.length:=by rw [Bf];omega
 refine ⟨iw.cps.toList[k],?_,?_⟩
 . show (if iw.length<=sizeLine then (fG iw.cps.toList (k:Int)).map λ c=>W.str ⟨#[c]⟩ else none)=_;rw [if_pos hz,BU _ k hk,List.getElem?_eq_getElem hk];rfl
 . exact gi.one BS (i:=(k:Int)) (by rw [BU _ k hk,List.getElem?_eq_getElem hk])
noncomputable def KP:List Str:=[Str.ofString "def", Str.ofString "set", Str.ofString "put", Str.ofString "tell", Str.ofString "if", Str.ofString "else", Str.ofString "while", Str.ofString "end", Str.ofString "break", Str.ofString "again", Str.ofString "call", Str.ofString "return", Str.ofString "stop", Str.ofString "join", Str.ofString "meet", Str.ofString "lane", Str.ofString "lanes", Str.ofString "mine", Str.ofString "box", Str.ofString "div", Str.ofString "rem", Str.ofString "sum", Str.ofString "most", Str.ofString "least", Str.ofString "ahead"]
theorem HL (x:Str) (acc:List Str):gF (.str x) (.list (acc.map .str))=some (decide (x∈acc)):=by
 have e1:qD (.list (acc.map .str))=some (acc.map .str):=rfl;have e2:IW (.str x)=some (.str x):=rfl;simp only [gF,e1,e2,Option.bind_some,Ag,Option.map_some,zT]
theorem rD (c:Nat):(⟨#[c]⟩:Str).length=1:=rfl
theorem Lh (s0 s2 s3 s4 s8 s9 s10:Sl):∀ (n:Nat) (lo aW:Int) (b:Str) (s7:Sl),gi b->b.length+n<=100->∃ (rest':Int) (b':Str) (s7':Sl),be (ae 7) gh (gf lo n) [s0,.val (.str iw),s2,s3,s4,.val (.int aW),.val (.str b),s7,s8,s9,s10]=some (.nx [s0,.val (.str iw),s2,s3,s4,.val (.int rest'),.val (.str b'),s7',s8,s9,s10])/\gi b'/\b'.length=b.length+n
 | 0,lo,aW,b,s7,hb,_=>⟨aW,b,s7,rfl,hb,rfl⟩
 | n+1,lo,aW,b,s7,hb,hn=>by
  have h1:=di aW (j:=26) (by decide);obtain ⟨c,ec,hc⟩:=zi _ h1.1 h1.2;have ga:bw (.str b) (.str ⟨#[c]⟩)=some (.str (b++⟨#[c]⟩)):=uU (sz _ (by rw [rD];omega));have ln:(b++⟨#[c]⟩:Str).length=b.length+1:=by rw [qV,rD]
  obtain ⟨r',b',s7',e,a,l⟩:=Lh s0 s2 s3 s4 s8 s9 s10 n (lo+1) (aW.fdiv 26) (b++⟨#[c]⟩) (.val (.int lo)) (hb.app hc) (by omega);refine ⟨r',b',s7',?_,a,by omega⟩;rw [gO];refine jE rfl ?_ e;first | rfl | simp +decide only [gh,uD,Nat.reduceAdd,Nat.reduceSub,reduceIte,Nat.reduceEqDiff,List.replicate,ec,ga]
theorem vg (z:Str) (lo hi:Option Int):(Txt.slice z lo hi).length<=z.length:=Txt.slice_le z _ _
theorem JV {f:DS->Option W} {p q:DS->Option (Option Int)} {δ:DS} {b:Str} {lo hi:Option Int} (h:f δ=some (.str b)) (h1:p δ=some lo) (h2:q δ=some hi) (hz:b.length<=1000):rJ f p q δ=some (.str (Txt.slice b lo hi)):=by simp only [rJ,DM,h,h1,h2,Option.bind_some,if_pos hz]
section
variable {s0:Sl} {L P aW:Int} {b:Str}
noncomputable def dN (s0:Sl) (L P aW:Int) (b:Str) (s7 s8 s9 s10:Sl):DS:=[s0,.val (.str iw),.val (.list (KP.map .str)),.val (.int L),.val (.int P),.val (.int aW),.val (.str b),s7,s8,s9,s10]
theorem Ap (hb:gi b) (hl:b.length<=100) (k:Int) (h0:0<=k) (h1:k<=6) (acc:List W) (ha:acc.length<100) (s9 s10:Sl):∃ (w:Str) (t9:Sl),gi w/\fK (dN s0 L P aW b (.val (.int k)) (.own acc) s9 s10)=some (.nx (dN s0 L P aW b (.val (.int k)) (.own (acc++[.str w])) t9 (.val (.str w)))):=by
 have hz:b.length<=1000:=by omega
 have h2:=di (aW+5*k) (j:=26) (by decide);obtain ⟨c,ec,hc⟩:=zi _ h2.1 h2.2;have gm:mK (.int 5) (.int k)=some (.int (5*k)):=rg (rF (by decide) (by decide));let a1:=Txt.slice b none (some P);let a2:=Txt.slice b (some (P+1)) (some L);have l1:a1.length<=b.length:=vg _ _ _;have l2:a2.length<=b.length:=vg _ _ _;have g1:bw (.str a1) (.str ⟨#[c]⟩)=some (.str (a1++⟨#[c]⟩)):=uU (sz _ (by rw [rD];omega));have l3:(a1++⟨#[c]⟩:Str).length=a1.length+1:=by rw [qV,rD]
 have g2:bw (.str (a1++⟨#[c]⟩)) (.str a2)=some (.str (a1++⟨#[c]⟩++a2)):=uU (sz _ (by omega));have l4:(a1++⟨#[c]⟩++a2:Str).length=(a1++⟨#[c]⟩:Str).length+a2.length:=qV _ _;have k1:gi (a1++⟨#[c]⟩++a2:Str):=((hb.slice _ _).app hc).app (hb.slice _ _);let sg:W:=.str ⟨#[c]⟩;let w1:Str:=a1++⟨#[c]⟩++a2;have e1:aB (ao aR (ak 1) (ao bf (ao bw (ak 5) (ao mK (dC (.int (5))) (ac 7))) (dC (.int (26))))) (ae 9) (dN s0 L P aW b (.val (.int k)) (.own acc) s9 s10)=some (.nx (dN s0 L P aW b (.val (.int k)) (.own acc) (.val sg) s10)):=aS (dO rfl (dO (dO rfl (dO rfl rfl gm) rfl) rfl rfl) ec) rfl;have e2:aB (ao bw (ao bw (rJ (ac 6) dr (dP (ac 4))) (ac 9)) (rJ (ac 6) (dP (ao bw (ak 4) (dC (.int (1))))) (dP (ac 3)))) (ae 10) (dN s0 L P aW b (.val (.int k)) (.own acc) (.val sg) s10)=some (.nx (dN s0 L P aW b (.val (.int k)) (.own acc) (.val sg) (.val (.str w1)))):=aS (dO (dO (JV rfl rfl rfl hz) rfl g1) (JV rfl rfl rfl hz) g2) rfl;have e3:∃ w2:Str,gi w2/\w2.length<=300/\bP (av bZ (ao bf (ao bC (ak 5) (dC (.int (26)))) (dC (.int (4)))) (dC (.int (1)))) (aB (rJ (ac 6) dr (dP (ao gSub' (dC (.int (8))) (ac 7)))) (ae 10)) aC (dN s0 L P aW b (.val (.int k)) (.own acc) (.val sg) (.val (.str w1)))=some (.nx (dN s0 L P aW b (.val (.int k)) (.own acc) (.val sg) (.val (.str w2)))):=by
  have t:av bZ (ao bf (ao bC (ak 5) (dC (.int (26)))) (dC (.int (4)))) (dC (.int (1))) (dN s0 L P aW b (.val (.int k)) (.own acc) (.val sg) (.val (.str w1)))=some (decide ((aW.fdiv 26).fmod 4=1)):=rfl;by_cases h:(aW.fdiv 26).fmod 4=1
  . rw [decide_eq_true h] at t;exact ⟨Txt.slice b none (some (8-k)),hb.slice _ _,Nat.le_trans (vg _ _ _) (by omega),ax (b:=true) t (aS (JV rfl rfl rfl hz) rfl)⟩
  . rw [decide_eq_false h] at t;exact ⟨w1,k1,(by show (a1++⟨#[c]⟩++a2:Str).length<=300;omega),ax (b:=false) t rfl⟩
 obtain ⟨w2,k2,l5,e3⟩:=e3;have e4:∃ w3:Str,gi w3/\bP (pC (av gF (ak 10) (ak 2)) (av bZ (ak 10) (dC (.str "main")))) (aB (ao tH (dC (.str "q")) (rR kA (ak 10))) (ae 10)) aC (dN s0 L P aW b (.val (.int k)) (.own acc) (.val sg) (.val (.str w2)))=some (.nx (dN s0 L P aW b (.val (.int k)) (.own acc) (.val sg) (.val (.str w3)))):=by
  have t:∃ bb,pC (av gF (ak 10) (ak 2)) (av bZ (ak 10) (dC (.str "main"))) (dN s0 L P aW b (.val (.int k)) (.own acc) (.val sg) (.val (.str w2)))=some bb:=by
   have i1:av gF (ak 10) (ak 2) (dN s0 L P aW b (.val (.int k)) (.own acc) (.val sg) (.val (.str w2)))=some (decide (w2∈KP)):=HL w2 KP;have i2:av bZ (ak 10) (dC (.str "main")) (dN s0 L P aW b (.val (.int k)) (.own acc) (.val sg) (.val (.str w2)))=some (decide (w2=Str.ofString "main")):=tD rfl;cases h:decide (w2∈KP) with
   | true=>rw [h] at i1;exact ⟨true,Fv i1⟩
   | false=>
    rw [h] at i1;cases h':decide (w2=Str.ofString "main") with
    | true=>rw [h'] at i2;exact ⟨true,Ey i1 i2⟩
    | false=>rw [h'] at i2;exact ⟨false,F8 i1 i2⟩
  obtain ⟨bb,t⟩:=t;cases bb with
  | false=>exact ⟨w2,k2,ax (b:=false) t rfl⟩
  | true=>
   have q1:gi (Str.ofString "q"):=by unfold gi;decide +kernel
   have gl:kA (.str w2)=some (.int w2.length):=if_pos (sz _ (by omega));have gs:tH (.str "q") (.int (w2.length:Nat))=some (.str (Txt.mul (Str.ofString "q") (w2.length:Nat))):=by
    have ql:(Str.ofString "q").length<=1000:=by decide +kernel
    refine if_pos ?_;simp only [Bool.and_eq_true,decide_eq_true_eq];exact ⟨⟨by omega,by omega⟩,ql⟩
   exact ⟨Txt.mul (Str.ofString "q") (w2.length:Nat),q1.mul _,ax (b:=true) t (aS (d:=.str (Txt.mul (Str.ofString "q") (w2.length:Nat))) (dO rfl gl gs) rfl)⟩
 obtain ⟨w3,k3,e4⟩:=e4;exact ⟨w3,.val sg,k3,ah e1 (ah e2 (ah e3 (ah e4 (Ko rfl rfl (by omega)))))⟩
theorem GK (hb:gi b) (hl:b.length<=100):∀ (n:Nat) (lo:Int) (acc:List W) (s7 s9 s10:Sl),0<=lo->lo+n<=6->acc.length+n<100->∃ (N:List Str) (t7 t9 t10:Sl),N.length=n/\(∀ x∈N,gi x)/\be (ae 7) fK (gf lo n) (dN s0 L P aW b s7 (.own acc) s9 s10)=some (.nx (dN s0 L P aW b t7 (.own (acc++N.map .str)) t9 t10))
 | 0,lo,acc,s7,s9,s10,_,_,_=>⟨[],s7,s9,s10,rfl,(λ x hx=>absurd hx List.not_mem_nil),by simp [gf,be]⟩
 | n+1,lo,acc,s7,s9,s10,h0,h1,ha=>by
  obtain ⟨w,t9,hw,e⟩:=Ap (s0:=s0) (L:=L) (P:=P) (aW:=aW) hb hl lo h0 (by omega) acc (by omega) s9 s10;obtain ⟨N,u7,u9,u10,l,k,e2⟩:=GK hb hl n (lo+1) (acc++[.str w]) (.val (.int lo)) t9 (.val (.str w)) (by omega) (by omega) (by simp;omega);refine ⟨w::N,u7,u9,u10,by simp [l],λ x hx=>?_,?_⟩
  . rcases List.mem_cons.mp hx with rfl | hx
    . exact hw
    . exact k x hx
  . rw [gO];refine jE (δ2:=dN s0 L P aW b (.val (.int lo)) (.own acc) s9 s10) rfl e (e2.trans ?_);simp
end
theorem ut (m:Int):∃ N:List Str,ip [.int m]=some (.list (N.map .str))/\N.length=6/\∀ x∈N,gi x:=by
 have h8:=di m (j:=8) (by decide);let L:Int:=1+m.fmod 8;let P:Int:=(m.fdiv 8).fmod L;obtain ⟨r1,b1,s7,e1,a1,l1⟩:=Lh (.val (.int m)) (.val (.list (KP.map .str))) (.val (.int L)) (.val (.int P)) .no .no .no 8 0 (m.fdiv 64) (Str.ofString "") .no (by unfold gi;decide +kernel) (by decide +kernel);have l0:(Str.ofString "").length=0:=by decide +kernel
 obtain ⟨N,t7,t9,t10,l2,k2,e2⟩:=GK (s0:=.val (.int m)) (L:=L) (P:=P) (aW:=r1) a1 (by omega) 6 0 [] s7 .no .no (by decide) (by decide) (by decide);refine ⟨N,?_,l2,k2⟩;show bO 1 11 _ _=_;refine aU rfl ?_;refine ah (δ1:=[.val (.int m),.val (.str iw),.no,.no,.no,.no,.no,.no,.no,.no,.no]) rfl ?_;refine ah (δ1:=[.val (.int m),.val (.str iw),.val (.list ((KP.take 12).map .str)),.no,.no,.no,.no,.no,.no,.no,.no]) rfl ?_;refine ah (δ1:=[.val (.int m),.val (.str iw),.val (.list ((KP.take 23).map .str)),.no,.no,.no,.no,.no,.no,.no,.no]) (aS (d:=.list ((KP.take 23).map .str)) (dO (a:=.list ((KP.take 12).map .str)) (b:=.list (((KP.drop 12).take 11).map .str)) rfl rfl ((o7 (sz _ (by decide))).trans rfl)) rfl) ?_;refine ah (δ1:=[.val (.int m),.val (.str iw),.val (.list (KP.map .str)),.no,.no,.no,.no,.no,.no,.no,.no]) (aS (d:=.list (KP.map .str)) (dO (a:=.list ((KP.take 23).map .str)) (b:=.list ((KP.drop 23).map .str)) rfl rfl ((o7 (sz _ (by decide))).trans rfl)) rfl) ?_;refine ah (δ1:=[.val (.int m),.val (.str iw),.val (.list (KP.map .str)),.val (.int L),.no,.no,.no,.no,.no,.no,.no]) rfl ?_;refine ah (δ1:=[.val (.int m),.val (.str iw),.val (.list (KP.map .str)),.val (.int L),.val (.int P),.no,.no,.no,.no,.no,.no]) (aS (d:=.int P) ?_ rfl) ?_
 . have hL:bf (.int (m.fdiv 8)) (.int L)=some (.int P):=nB (by simp only [ke,decide_eq_true_eq];omega);exact dO rfl rfl hL
 refine ah (δ1:=[.val (.int m),.val (.str iw),.val (.list (KP.map .str)),.val (.int L),.val (.int P),.val (.int (m.fdiv 64)),.no,.no,.no,.no,.no]) rfl ?_;refine ah (δ1:=[.val (.int m),.val (.str iw),.val (.list (KP.map .str)),.val (.int L),.val (.int P),.val (.int (m.fdiv 64)),.val (.str ""),.no,.no,.no,.no]) rfl ?_;refine ah (fA (ds:=gf 0 8) (iQ (n:=8) rfl (by decide)) e1) ?_;refine ah (δ1:=dN (.val (.int m)) L P r1 b1 s7 (.own []) .no .no) rfl ?_;refine ah (fA (ds:=gf 0 6) (iQ (n:=6) rfl (by decide)) e2) rfl
theorem Hl {α:Type} (g:α->W) (a:List α) {i:Int} (h0:0<=i) (h1:i<a.length):∃ k:Fin a.length,i=(k.val:Int)/\fG (a.map g) i=some (g a[k]):=by
 obtain ⟨k,rfl⟩:=Int.eq_ofNat_of_zero_le h0;have hl:=Int.ofNat_lt.mp h1;refine ⟨⟨k,hl⟩,rfl,?_⟩;rw [BU _ k (by rw [List.length_map];exact hl),List.getElem?_map,List.getElem?_eq_getElem hl];rfl
theorem gc {α:Type} (g:α->W) (a:List α) {i:Int} (h0:0<=i) (h1:i<a.length):∃ x∈a,fG (a.map g) i=some (g x):=by
 obtain ⟨k,_,e⟩:=Hl g a h0 h1;exact ⟨_,List.getElem_mem k.2,e⟩
theorem kf {α:Type} (g:α->W) (a:List α) (c:Int) (h:0<a.length):∃ x∈a,fG (a.map g) (c.fmod a.length)=some (g x):=
 have h:=di c (Int.ofNat_lt.mpr h)
 gc g a h.1 h.2
theorem sn (N:List Str) (hN:N.length=6) (c:Int):∃ x∈N,fG (N.map W.str) (c.fmod 6)=some (.str x):=by
 have h:=kf W.str N c (by rw [hN];decide);rw [hN] at h;exact h
theorem Aa {α:Type} (g:α->W) (a:List α) (c:Int) (h:0<a.length):bf (.int c) (.int ((a.map g).length:Nat))=some (.int (c.fmod a.length)):=by
 rw [List.length_map];exact nB (by simp only [ke,decide_eq_true_eq];omega)
noncomputable def iB (o:Int) (t:Tr) (d c:Nat):Prop:=gd t d c/\(o=0->own t=false)
section
variable {N:List Str} {o:Int}
theorem EC (k:Fin 7) (a b:Tr):own (.op k a b)=(own a||own b):=rfl
theorem qz {t:Tr} {d c:Nat} (h:iB o t d c):iB o (.box t) (d+1) (c+1):=⟨⟨by have:=h.1.1;simp only [qe];omega,by have:=h.1.2.1;simp only [j4];omega,λ x hx=>h.1.2.2 x (by simpa [tV,jW] using hx)⟩,λ z=>h.2 z⟩
theorem pq {a b:Tr} {d c d' c':Nat} (k:Fin 7) (h:iB o a d c) (h':iB o b d' c'):iB o (.op k a b) (max d d'+1) (c+c'+1):=⟨⟨by have:=h.1.1;have:=h'.1.1;simp only [qe];omega,by have:=h.1.2.1;have:=h'.1.2.1;simp only [j4];omega,λ x hx=>by
 rw [n5] at hx;rcases List.mem_append.mp hx with hx | hx
 . exact h.1.2.2 x hx
 . exact h'.1.2.2 x hx⟩,λ z=>by rw [EC,h.2 z,h'.2 z];rfl⟩
theorem eW {t:Tr} {d c d' c':Nat} (h:iB o t d c) (h1:d<=d') (h2:c<=c'):iB o t d' c':=⟨⟨Nat.le_trans h.1.1 h1,Nat.le_trans h.1.2.1 h2,h.1.2.2⟩,h.2⟩
theorem qv (v:Int):iB o (.num v) 0 1:=⟨⟨Nat.le_refl _,Nat.le_refl _,λ x hx=>absurd hx List.not_mem_nil⟩,λ _=>rfl⟩
theorem lC (k:Fin 3):iB o (.sig k) 0 1:=⟨⟨Nat.le_refl _,Nat.le_refl _,λ x hx=>absurd hx List.not_mem_nil⟩,λ _=>rfl⟩
theorem q9 {x:Str} (h:gi x):iB o (.nam x) 0 1:=⟨⟨Nat.le_refl _,Nat.le_refl _,λ y hy=>by rw [List.mem_singleton.mp hy];exact h.ok⟩,λ _=>rfl⟩
theorem lu (hN:N.length=6) (hk:∀ x∈N,gi x) (c:Int):∃ t:Tr,cK [.int c,.list (N.map .str)]=some (tw t)/\iB o t 1 3:=by
 have h10:=di c (j:=10) (by decide);generalize hkd:c.fmod 10=k at h10;let r:=c.fdiv 10;obtain ⟨v,_,ev⟩:=kf W.int [(r.fdiv 3).fmod 5,(r.fdiv 3).fmod 5-2,(r.fdiv 3).fmod 1999999999-999999999] r (Nat.succ_pos _);obtain ⟨x,hx,ex⟩:=sn N hN r;let δ (s4 s5 s6:Sl):DS:=[.val (.int c),.val (.list (N.map .str)),.val (.int k),.val (.int r),s4,s5,s6]
 obtain ⟨u,hu,eu⟩:=kf tw [.num v,.sig 0,.nam x,.sig 2] (r.fdiv 15) (Nat.succ_pos _);have gu:iB o u 0 1:=by
  simp only [List.mem_cons,List.not_mem_nil,or_false] at hu;rcases hu with rfl | rfl | rfl | rfl
  . exact qv v
  . exact lC 0
  . exact q9 (hk x hx)
  . exact lC 2
 have gl:iB o (.sig 0) 0 1:=lC 0;have gv:iB o (.num v) 0 1:=qv v;let ε:DS:=δ (.val (tw (.num v))) (.val (tw (.sig 0))) .no;let η:DS:=δ (.val (tw (.num v))) (.val (tw (.sig 0))) (.val (tw u));have nx:aF (aa (dC (.str "name")) (aa (ao aR (ak 1) (ao bf (ak 3) (dC (.int (6))))) af)) ε=some (tw (.nam x)):=qf rfl (mN rfl rfl ex);have nx':aF (aa (dC (.str "name")) (aa (ao aR (ak 1) (ao bf (ak 3) (dC (.int (6))))) af)) η=some (tw (.nam x)):=qf rfl (mN rfl rfl ex);have z4:=sz 4 (by decide);have z3:=sz 3 (by decide);have z2:=sz 2 (by decide);have go:∀ {f:DS->Option dm} {t:Tr},f ε=some (.rt (tw t))->bO 2 7 (aq (aB (ao bf (ak 0) (dC (.int (10)))) (ae 2))
  (aq (aB (ao bC (ak 0) (dC (.int (10)))) (ae 3))
  (aq (aB (aF (aa (dC (.str "num")) (aa (ao aR (aT (bn (aa (ao bf (ao bC (ak 3) (dC (.int (3)))) (dC (.int (5)))) (aa (ao gSub' (ao bf (ao bC (ak 3) (dC (.int (3)))) (dC (.int (5)))) (dC (.int (2)))) (aa (ao gSub' (ao bf (ao bC (ak 3) (dC (.int (3)))) (dC (.int (1999999999)))) (dC (.int (999999999)))) af))))) (ao bf (ak 3) (dC (.int (3))))) af))) (ae 4))
  (aq (aB (aF (aa (dC (.str "lane")) af)) (ae 5)) f)))) [.int c,.list (N.map .str)]=some (tw t):=λ {f t} h=>by
  subst hkd;exact aU rfl (ah (δ1:=[.val (.int c),.val (.list (N.map .str)),.val (.int (c.fmod 10)),.no,.no,.no,.no]) rfl (ah (δ1:=δ .no .no .no) rfl (ah (δ1:=δ (.val (tw (.num v))) .no .no) (aS (qf rfl (mN (l:=[(r.fdiv 3).fmod 5,(r.fdiv 3).fmod 5-2,(r.fdiv 3).fmod 1999999999-999999999].map W.int) rfl rfl ev)) rfl) (ah (δ1:=ε) (aS (Ej rfl) rfl) h))))
 have t1:av lA (ak 2) (dC (.int (2))) ε=some (decide (k<2)):=rfl;have t2:av lA (ak 2) (dC (.int (4))) η=some (decide (k<4)):=rfl;have t3:av lA (ak 2) (dC (.int (6))) η=some (decide (k<6)):=rfl;have t4:av bZ (ak 2) (dC (.int (6))) η=some (decide (k=6)):=rfl;have so:aB (ao aR (aT (bn (aa (ac 4) (aa (ac 5) (aa (aF (aa (dC (.str "name")) (aa (ao aR (ak 1) (ao bf (ak 3) (dC (.int (6))))) af))) (aa (aF (aa (dC (.str "mine")) af)) af)))))) (ao bf (ao bC (ak 3) (dC (.int (15)))) (dC (.int (4))))) (ae 6) ε=some (.nx η):=by
  refine aS (mN (l:=[.num v,.sig 0,.nam x,.sig 2].map tw) ?_ rfl eu) rfl;have c4:aa (ac 4) (aa (ac 5) (aa (aF (aa (dC (.str "name")) (aa (ao aR (ak 1) (ao bf (ak 3) (dC (.int (6))))) af))) (aa (aF (aa (dC (.str "mine")) af)) af))) ε=some ([.num v,.sig 0,.nam x,.sig 2].map tw):=iA rfl (iA rfl (iA nx (iA (Ej rfl) rfl)));unfold aT bn;rw [c4];rfl
 by_cases h1:k<2
 . rw [decide_eq_true h1] at t1;exact ⟨.num v,go (cp (ax (b:=true) t1 (ay rfl))),eW gv (by decide) (by decide)⟩
 rw [decide_eq_false h1] at t1;by_cases h2:k<4
 . rw [decide_eq_true h2] at t2;exact ⟨.sig 0,go (ah (ax (b:=false) t1 rfl) (ah so (cp (ax (b:=true) t2 (ay rfl))))),eW gl (by decide) (by decide)⟩
 rw [decide_eq_false h2] at t2;by_cases h3:k<6
 . rw [decide_eq_true h3] at t3;obtain ⟨q,hq,eq⟩:=gc tw [.op 0 (.sig 0) (.num v),.op 0 (.num v) (.sig 0)] (i:=k-4) (by omega) (by show k-4<2;omega);refine ⟨q,go (ah (ax (b:=false) t1 rfl) (ah so (ah (ax (b:=false) t2 rfl) (cp (ax (b:=true) t3 (ay (mN (l:=[.op 0 (.sig 0) (.num v),.op 0 (.num v) (.sig 0)].map tw) ?_ rfl eq))))))),?_⟩
   . have c4:aa (aF (aa (dC (.str "+")) (aa (ac 5) (aa (ac 4) af)))) (aa (aF (aa (dC (.str "+")) (aa (ac 4) (aa (ac 5) af)))) af) η=some ([.op 0 (.sig 0) (.num v),.op 0 (.num v) (.sig 0)].map tw):=iA (CT rfl rfl rfl) (iA (CT rfl rfl rfl) rfl);unfold aT bn;rw [c4];rfl
   . simp only [List.mem_cons,List.not_mem_nil,or_false] at hq;rcases hq with rfl | rfl
     . exact eW (pq 0 gl gv) (by decide) (by decide)
     . exact eW (pq 0 gv gl) (by decide) (by decide)
 rw [decide_eq_false h3] at t3;by_cases h4:k=6
 . rw [decide_eq_true h4] at t4;obtain ⟨w,_,ew⟩:=kf (λ k:Fin 7=>W.str (sh k)) [1,2,3,4,5,6] (r.fdiv 60) (by decide);exact ⟨.op w (.sig 0) (.num v),go (ah (ax (b:=false) t1 rfl) (ah so (ah (ax (b:=false) t2 rfl) (ah (ax (b:=false) t3 rfl) (cp (ax (b:=true) t4 (ay (CT (mN (l:=[.str "-", .str "*", .str "div", .str "rem", .str "<", .str "="]) rfl rfl ew) rfl rfl)))))))),eW (pq w gl gv) (by decide) (by decide)⟩
 rw [decide_eq_false h4] at t4;obtain ⟨q,hq,eq⟩:=gc tw [.nam x,.op 0 (.sig 0) u,.box (.sig 0)] (i:=k-7) (by omega) (by show k-7<3;omega);refine ⟨q,go (ah (ax (b:=false) t1 rfl) (ah so (ah (ax (b:=false) t2 rfl) (ah (ax (b:=false) t3 rfl) (ah (ax (b:=false) t4 rfl) (ay (mN (l:=[.nam x,.op 0 (.sig 0) u,.box (.sig 0)].map tw) ?_ rfl eq))))))),?_⟩
 . have c4:aa (aF (aa (dC (.str "name")) (aa (ao aR (ak 1) (ao bf (ak 3) (dC (.int (6))))) af))) (aa (aF (aa (dC (.str "+")) (aa (ac 5) (aa (ac 6) af)))) (aa (aF (aa (dC (.str "box")) (aa (ac 5) af))) af)) η=some ([.nam x,.op 0 (.sig 0) u,.box (.sig 0)].map tw):=iA nx' (iA (CT rfl rfl rfl) (iA (qf rfl rfl) rfl));unfold aT bn;rw [c4];rfl
 . simp only [List.mem_cons,List.not_mem_nil,or_false] at hq;rcases hq with rfl | rfl | rfl
   . exact eW (q9 (hk x hx)) (by decide) (by decide)
   . exact eW (pq 0 gl gu) (by decide) (by decide)
   . exact eW (qz gl) (by decide) (by decide)
end
section
variable {N:List Str} {o:Int}
theorem fV (hN:N.length=6) (hk:∀ x∈N,gi x) (c:Int):∃ t:Tr,bE [.int c,.list (N.map .str)]=some (tw t)/\iB o t 7 6:=by
 have h8:=di c (j:=8) (by decide);let k:=c.fmod 8;let r:=c.fdiv 8;let δ (s4 s5:Sl):DS:=[.val (.int c),.val (.list (N.map .str)),.val (.int k),.val (.int r),s4,s5]
 have go:∀ {f:DS->Option dm} {t:Tr},f (δ .no .no)=some (.rt (tw t))->bO 2 6 (aq (aB (ao bf (ak 0) (dC (.int (8)))) (ae 2)) (aq (aB (ao bC (ak 0) (dC (.int (8)))) (ae 3)) f)) [.int c,.list (N.map .str)]=some (tw t):=λ {f t} h=>
  aU rfl (ah (δ1:=[.val (.int c),.val (.list (N.map .str)),.val (.int (c.fmod 8)),.no,.no,.no]) rfl (ah (δ1:=δ .no .no) rfl h))
 have t1:av lA (ak 2) (dC (.int (2))) (δ .no .no)=some (decide (k<2)):=rfl;have t2:av lA (ak 2) (dC (.int (4))) (δ .no .no)=some (decide (k<4)):=rfl;have t3:av lA (ak 2) (dC (.int (6))) (δ .no .no)=some (decide (k<6)):=rfl;by_cases h1:k<2
 . rw [decide_eq_true h1] at t1;exact ⟨.num (r.fmod 1999999999-999999999),go (cp (ax (b:=true) t1 (ay (qf rfl rfl)))),eW (qv _) (by decide) (by decide)⟩
 rw [decide_eq_false h1] at t1;by_cases h2:k<4
 . rw [decide_eq_true h2] at t2;obtain ⟨x,hx,ex⟩:=sn N hN (r.fdiv 4);obtain ⟨u,hu,eu⟩:=kf tw [.sig 0,.sig 2,.sig 1,.nam x] r (Nat.succ_pos _);refine ⟨u,go (ah (ax (b:=false) t1 rfl) (cp (ax (b:=true) t2 (ay (mN (l:=[.sig 0,.sig 2,.sig 1,.nam x].map tw) ?_ rfl eu))))),?_⟩
   . have c4:aa (aF (aa (dC (.str "lane")) af)) (aa (aF (aa (dC (.str "mine")) af)) (aa (aF (aa (dC (.str "lanes")) af)) (aa (aF (aa (dC (.str "name")) (aa (ao aR (ak 1) (ao bf (ao bC (ak 3) (dC (.int (4)))) (dC (.int (6))))) af))) af))) (δ .no .no)=some ([.sig 0,.sig 2,.sig 1,.nam x].map tw):=iA (Ej rfl) (iA (Ej rfl) (iA (Ej rfl) (iA (qf rfl (mN rfl rfl ex)) rfl)));unfold aT bn;rw [c4];rfl
   . simp only [List.mem_cons,List.not_mem_nil,or_false] at hu;rcases hu with rfl | rfl | rfl | rfl
     . exact eW (lC 0) (by decide) (by decide)
     . exact eW (lC 2) (by decide) (by decide)
     . exact eW (lC 1) (by decide) (by decide)
     . exact eW (q9 (hk x hx)) (by decide) (by decide)
 rw [decide_eq_false h2] at t2;by_cases h3:k<6
 . rw [decide_eq_true h3] at t3;obtain ⟨a,ea,ga⟩:=lu (o:=o) hN hk r;exact ⟨.box a,go (ah (ax (b:=false) t1 rfl) (ah (ax (b:=false) t2 rfl) (cp (ax (b:=true) t3 (ay (qf rfl (oF rfl ea))))))),eW (qz ga) (by decide) (by decide)⟩
 rw [decide_eq_false h3] at t3;obtain ⟨w,_,ew⟩:=kf (λ k:Fin 7=>W.str (sh k)) [0,1,2,3,4,5,6] r (by decide);obtain ⟨x,hx,ex⟩:=sn N hN (r.fdiv 14);obtain ⟨u,hu,eu⟩:=kf tw [.num ((r.fdiv 14).fmod 9-4),.nam x] (r.fdiv 7) (Nat.succ_pos _);have gu:iB o u 0 1:=by
  simp only [List.mem_cons,List.not_mem_nil,or_false] at hu;rcases hu with rfl | rfl
  . exact qv _
  . exact q9 (hk x hx)
 obtain ⟨a,ea,ga⟩:=lu (o:=o) hN hk (r.fdiv 126);let η:DS:=δ (.val (.str (sh w))) (.val (tw u));have t4:av bZ (ak 2) (dC (.int (6))) η=some (decide (k=6)):=rfl;have s4:aB (ao aR (aT (bn (aa (dC (.str "+")) (aa (dC (.str "-")) (aa (dC (.str "*")) (aa (dC (.str "div")) (aa (dC (.str "rem")) (aa (dC (.str "<")) (aa (dC (.str "=")) af))))))))) (ao bf (ak 3) (dC (.int (7))))) (ae 4) (δ .no .no)=some (.nx (δ (.val (.str (sh w))) .no)):=aS (mN (l:=[.str "+", .str "-", .str "*", .str "div", .str "rem", .str "<", .str "="]) rfl rfl ew) rfl;have s5:aB (ao aR (aT (bn (aa (aF (aa (dC (.str "num")) (aa (ao gSub' (ao bf (ao bC (ak 3) (dC (.int (14)))) (dC (.int (9)))) (dC (.int (4)))) af))) (aa (aF (aa (dC (.str "name")) (aa (ao aR (ak 1) (ao bf (ao bC (ak 3) (dC (.int (14)))) (dC (.int (6))))) af))) af)))) (ao bf (ao bC (ak 3) (dC (.int (7)))) (dC (.int (2))))) (ae 5) (δ (.val (.str (sh w))) .no)=some (.nx η):=by
  refine aS (mN (l:=[.num ((r.fdiv 14).fmod 9-4),.nam x].map tw) ?_ rfl eu) rfl;have c4:aa (aF (aa (dC (.str "num")) (aa (ao gSub' (ao bf (ao bC (ak 3) (dC (.int (14)))) (dC (.int (9)))) (dC (.int (4)))) af))) (aa (aF (aa (dC (.str "name")) (aa (ao aR (ak 1) (ao bf (ao bC (ak 3) (dC (.int (14)))) (dC (.int (6))))) af))) af) (δ (.val (.str (sh w))) .no)=some ([.num ((r.fdiv 14).fmod 9-4),.nam x].map tw):=iA (qf rfl rfl) (iA (qf rfl (mN rfl rfl ex)) rfl);unfold aT bn;rw [c4];rfl
 have bx:aF (aa (dC (.str "box")) (aa (bt cK (aa (ao bC (ak 3) (dC (.int (126)))) (aa (ac 1) af))) af)) η=some (tw (.box a)):=qf rfl (oF rfl ea);by_cases h4:k=6
 . rw [decide_eq_true h4] at t4;exact ⟨.op w u (.box a),go (ah (ax (b:=false) t1 rfl) (ah (ax (b:=false) t2 rfl) (ah (ax (b:=false) t3 rfl) (ah s4 (ah s5 (cp (ax (b:=true) t4 (ay (CT rfl rfl bx))))))))),eW (pq w gu (qz ga)) (by decide) (by decide)⟩
 . rw [decide_eq_false h4] at t4;exact ⟨.op w (.box a) u,go (ah (ax (b:=false) t1 rfl) (ah (ax (b:=false) t2 rfl) (ah (ax (b:=false) t3 rfl) (ah s4 (ah s5 (ah (ax (b:=false) t4 rfl) (ay (CT rfl bx rfl)))))))),eW (pq w (qz ga) gu) (by decide) (by decide)⟩
end
inductive Op where
 | st (h:Hd) | opn (wh:Bool) (t:Tr) | fin | els
noncomputable def mJ (wh:Bool):Fin 12:=if wh=true then 11 else 10
noncomputable def dE:Op->W
 | .st h=>.tuple (.str (cS (aG h))::rs h)
 | .opn wh t=>.tuple [.str (cS (mJ wh)),tw t]
 | .fin=>.tuple [.str "end"]
 | .els=>.tuple [.str "else"]
noncomputable def PP (o:Int) (FN WD:List Str) (wh:Bool):Hd->Prop
 | .set x t=>PyData.strOk x=true/\iB o t 7 6
 | .put a b=>iB o a 7 6/\iB o b 7 6
 | .tell t=>iB o t 7 6
 | .ret t=>iB o t 7 6
 | .brk=>wh=true
 | .agn=>wh=true
 | .mt=>True
 | .stp=>True
 | .join x j t=>PyData.strOk x=true/\j∈WD/\iB o t 7 6
 | .call x f ts=>PyData.strOk x=true/\f∈FN/\ts.length<=6/\∀ t∈ts,iB o t 7 6
 | .ifs t _=>iB o t 7 6
 | .whl t _=>iB o t 7 6
noncomputable def A5 (o:Int) (FN WD:List Str):Op->Prop
 | .st h=>jH h=some []/\PP o FN WD true h
 | .opn _ t=>iB o t 7 6
 | _=>True
noncomputable abbrev Rm:=Str×List Str
noncomputable def dJ (r:Rm):W:=.tuple [.str r.1,.list (r.2.map .str)]
theorem mY {l:List Str} (h:∀ x∈l,PyData.strOk x=true):bM (l.map .str)=true/\bp (l.map .str)<=0:=
 ⟨gN λ d hd=>by obtain ⟨x,h1,rfl⟩:=List.mem_map.mp hd;exact h x h1,gX λ d hd=>by obtain ⟨x,h1,rfl⟩:=List.mem_map.mp hd;simp [bJ]⟩
structure Gu (FN:List Str) (r:Rm):Prop where
 n:PyData.strOk r.1=true
 p:∀ x∈r.2,PyData.strOk x=true
 l:r.2.length<=6
 f:r.1≠Str.ofString "main" -> r.1∈FN
theorem DX {ds:List W} (h:bM ds=true) (hd:bp ds<=60):bZ (.list ds) (.list [])=some ds.isEmpty:=by
 obtain ⟨a,a1,a2,a3,_⟩:=vp (.list ds) (by simpa [eS] using h);obtain ⟨xs,b1,rfl⟩:=oM a1
 have p1:(W.list []).py=some (.list []):=rfl;have c1:(PyData.list []).canLay0=true:=by simp [PyData.canLay0,PyData.canLayAll0]
 have s1:GA (.list ds) (.list [])=none:=rfl;have d1:(PyData.list xs).depth<=64:=by rw [a3];simp [bJ];omega
 have e:PyData.eqv (.list xs) (.list [])=ds.isEmpty:=by
  cases ds with
  | nil=>cases b1;simp [PyData.eqv,PyData.eqvAll]
  | cons y ys=>
   simp only [W.pys] at b1;obtain ⟨u,_,b2⟩:=oB b1
   obtain ⟨v,_,rfl⟩:=oM b2
   simp [PyData.eqv,PyData.eqvAll]
 simp only [bZ,s1,a1,p1,Option.bind_some,a2,c1,d1,decide_true,Bool.and_self,if_true,e]
theorem IL:o5 (.int 10) (.int 4)=some (.int 10000):=by
 show (if pz 10 4=true then some (W.int ((10:Int)^(4:Int).toNat)) else none)=_;rw [if_pos (by decide +kernel)];rfl
theorem CZ:o5 (.int 10) (.int 12)=some (.int 1000000000000):=by
 show (if pz 10 12=true then some (W.int ((10:Int)^(12:Int).toNat)) else none)=_;rw [if_pos (by decide +kernel)];rfl
theorem HU:o5 (.int 10) (.int 9)=some (.int 1000000000):=by
 show (if pz 10 9=true then some (W.int ((10:Int)^(9:Int).toNat)) else none)=_;rw [if_pos (by decide +kernel)];rfl
theorem tP:∀ (R:List Rm),b0 (ae 0) (av tS (ao aR (ak 0) (dC (.int (0)))) (dC (.str "main"))) (ac 0) [.no] (R.map dJ)=some ((R.filter λ r=>!decide (r.1=Str.ofString "main")).map dJ)
 | []=>rfl
 | r::R=>by
  have ih:=tP R;by_cases h:r.1=Str.ofString "main"
  . have e:=decide_eq_true h;simp! [List.map_cons,b0,dJ,uD,oH,e,Bool.not_true] at ih ⊢;rw [ih];simp [e]
  . have e:=decide_eq_false h;simp! [List.map_cons,b0,dJ,uD,oH,e,Bool.not_false] at ih ⊢;rw [ih];simp [e,dJ]
section
variable {V:List Str} {o:Int} {FN WD:List Str}
theorem wL (hV:V.length=6) (hk:∀ x∈V,gi x) (s1 s3 s4 s5 s6:Sl):∀ (n:Nat) (lo aW:Int) (acc:List Tr) (s8:Sl),acc.length+n<100->(∀ t∈acc,iB o t 7 6)->∃ (ts:List Tr) (rest':Int) (s8':Sl),ts.length=acc.length+n/\(∀ t∈ts,iB o t 7 6)/\be (ae 8) j5 (gf lo n) [.val (.int aW),s1,.val (.list (V.map .str)),s3,s4,s5,s6,.own (acc.map tw),s8]=some (.nx [.val (.int rest'),s1,.val (.list (V.map .str)),s3,s4,s5,s6,.own (ts.map tw),s8'])
 | 0,lo,aW,acc,s8,_,ha=>⟨acc,aW,s8,rfl,ha,rfl⟩
 | n+1,lo,aW,acc,s8,hl,ha=>by
  obtain ⟨t,et,gt⟩:=fV (o:=o) hV hk (aW.fmod 10000);obtain ⟨ts,r',s8',l,g,e⟩:=wL hV hk s1 s3 s4 s5 s6 n (lo+1) (aW.fdiv 10000) (acc++[t]) (.val (.int lo)) (by simp;omega) (λ u hu=>by
   rcases List.mem_append.mp hu with hu | hu
   . exact ha u hu
   . rw [List.mem_singleton.mp hu];exact gt)
  refine ⟨ts,r',s8',by simp at l;omega,g,?_⟩;rw [gO];exact jE (δ2:=[.val (.int aW),s1,.val (.list (V.map .str)),s3,s4,s5,s6,.own (acc.map tw),.val (.int lo)]) rfl (ah (δ1:=[.val (.int aW),s1,.val (.list (V.map .str)),s3,s4,s5,s6,.own ((acc++[t]).map tw),.val (.int lo)]) ((Ko rfl (oF (HA (dO rfl (dO rfl rfl IL) rfl) rfl) et) (by rw [List.length_map];omega)).trans (by rw [List.map_append];rfl)) (aS (dO rfl (dO rfl rfl IL) rfl) rfl)) e
theorem wR (hV:V.length=6) (hk:∀ x∈V,gi x) (R:List Rm) (hR:∀ r∈R,Gu FN r) (hl:R.length<=10) (aW:Int) (x:Str) (hx:PyData.strOk x=true):∃ op,iV [.int aW,.str x,.list (V.map .str),.list (R.map dJ)]=some (dE op)/\A5 o FN WD op:=by
 let T:=R.filter λ r=>!decide (r.1=Str.ofString "main");have tl:T.length<=R.length:=List.length_filter_le _ _;have tR:∀ r∈T,Gu FN r/\r.1≠Str.ofString "main" := λ r hr=>by
  obtain ⟨h1,h2⟩:=List.mem_filter.mp hr;exact ⟨hR r h1,by simpa using h2⟩
 have ok:bM (T.map dJ)=true/\bp (T.map dJ)<=2:=⟨gN λ d hd=>by
  obtain ⟨r,h1,rfl⟩:=List.mem_map.mp hd;have a:=mY (tR r h1).1.p;have b:=(tR r h1).1.n;simp [dJ,eS,bM,a.1,b],gX λ d hd=>by
  obtain ⟨r,h1,rfl⟩:=List.mem_map.mp hd;have a:=mY (tR r h1).1.p;simp [dJ,bJ,bp];omega⟩
 have en:=DX ok.1 (by omega);let δ (s5 s6 s7 s8 s9:Sl) (r:Int):DS:=[.val (.int r),.val (.str x),.val (.list (V.map .str)),.val (.list (R.map dJ)),s5,s6,s7,s8,s9]
 have st1:aB (aT (gx [none] (cq (ak 3)) (ae 0) (av tS (ao aR (ak 0) (dC (.int (0)))) (dC (.str "main"))) (ac 0))) (ae 4) (δ .no .no .no .no .no aW)=some (.nx (δ (.val (.list (T.map dJ))) .no .no .no .no aW)):=aS (IG rfl (by rw [List.length_map];omega) (tP R)) rfl;have t1:av bZ (ak 4) (aT (bn af)) (δ (.val (.list (T.map dJ))) .no .no .no .no aW)=some (T.map dJ).isEmpty:=Jr rfl rfl en;by_cases hT:T=[]
 . obtain ⟨t,et,gt⟩:=fV (o:=o) hV hk aW;exact ⟨.st (.tell t),aU rfl (ah st1 (cp (ax (b:=true) (by rw [t1,hT];rfl) (ay (qf rfl (oF rfl et)))))),rfl,gt⟩
 . have hp:0<T.length:=List.length_pos_iff.mpr hT;obtain ⟨q,hq,ea⟩:=kf dJ T aW hp;have hr:=tR q hq;have md:=Aa dJ T aW hp;obtain ⟨ts,r',s9',l,g,e⟩:=wL (o:=o) hV hk (.val (.str x)) (.val (.list (R.map dJ))) (.val (.list (T.map dJ))) (.val (.str q.1)) (.val (.list (q.2.map .str))) q.2.length 0 (aW.fdiv 3) [] .no (by have:=hr.1.l;simp;omega) (λ t ht=>absurd ht List.not_mem_nil);refine ⟨.st (.call x q.1 ts),aU rfl (ah st1 (ah (ax (b:=false) ?_ rfl) ?_)),rfl,hx,hr.1.f hr.2,by have:=hr.1.l;simp at l;omega,g⟩
   . rw [t1];cases hq:T.map dJ with
     | nil=>exact absurd (List.map_eq_nil_iff.mp hq) hT
     | cons a b=>rfl
   refine ah (δ1:=δ (.val (.list (T.map dJ))) (.val (.str q.1)) (.val (.list (q.2.map .str))) .no .no aW) (aS (d:=dJ q) (mN rfl (dO rfl rfl md) ea) rfl) ?_;refine ah (δ1:=δ (.val (.list (T.map dJ))) (.val (.str q.1)) (.val (.list (q.2.map .str))) .no .no (aW.fdiv 3)) rfl ?_;refine ah (δ1:=δ (.val (.list (T.map dJ))) (.val (.str q.1)) (.val (.list (q.2.map .str))) (.own (([]:List Tr).map tw)) .no (aW.fdiv 3)) rfl ?_;exact ah (fA (ds:=gf 0 q.2.length) (iQ (n:=q.2.length) (by first | rfl | simp! [δ,uD,List.length_map]) (by have:=hr.1.l;omega)) e) (ay (LM rfl rfl rfl rfl))
end
noncomputable def JW:List Str:=[Str.ofString "sum", Str.ofString "most", Str.ofString "least", Str.ofString "ahead"]
theorem CV:∀ f∈JW,PyData.strOk f=true:=by decide +kernel
section
variable {V:List Str} {o:Int} {FN:List Str}
theorem E3 (hV:V.length=6) (hk:∀ x∈V,gi x) (R:List Rm) (hR:∀ r∈R,Gu FN r) (hl:R.length<=10) (num:Int):∃ op,lE [.int num,.list (V.map .str),.list (R.map dJ)]=some (dE op)/\A5 o FN JW op:=by
 have h24:=di num (j:=24) (by decide);obtain ⟨x,hx,ex⟩:=sn V hV (num.fdiv 24);have xo:=(hk x hx).ok;let kd:=num.fmod 24;let aW:=num.fdiv 144;let δ:DS:=[.val (.int num),.val (.list (V.map .str)),.val (.list (R.map dJ)),.val (.int kd),.val (.str x),.val (.int aW)]
 obtain ⟨t,et,gt⟩:=fV (o:=o) hV hk aW;have tl:∀ m:Int,av lA (ak 3) (dC (.int m)) δ=some (decide (kd<m)):=λ m=>rfl;have te:∀ m:Int,av bZ (ak 3) (dC (.int m)) δ=some (decide (kd=m)):=λ m=>rfl;have pre:∀ {f:DS->Option dm} {d:W},f δ=some (.rt d)->aq (aB (ao bf (ak 0) (dC (.int (24)))) (ae 3)) (aq (aB (ao aR (ak 1) (ao bf (ao bC (ak 0) (dC (.int (24)))) (dC (.int (6))))) (ae 4)) (aq (aB (ao bC (ak 0) (dC (.int (144)))) (ae 5)) f)) (b8 6 [.int num,.list (V.map .str),.list (R.map dJ)])=some (.rt d):=λ {f d} h=>by
  refine ah (δ1:=[.val (.int num),.val (.list (V.map .str)),.val (.list (R.map dJ)),.val (.int kd),.no,.no]) rfl ?_;refine ah (δ1:=[.val (.int num),.val (.list (V.map .str)),.val (.list (R.map dJ)),.val (.int kd),.val (.str x),.no]) (aS (mN rfl rfl ex) rfl) ?_;exact ah (δ1:=δ) rfl h
 have F:∀ {m:Int} {g k:DS->Option dm},¬ kd<m->aq (bP (av lA (ak 3) (dC (.int m))) g aC) k δ=k δ:=λ {m g k} h=>ah (ax (b:=false) (by rw [tl,decide_eq_false h]) rfl) rfl;have FE:∀ {m:Int} {g k:DS->Option dm},¬ kd=m->aq (bP (av bZ (ak 3) (dC (.int m))) g aC) k δ=k δ:=λ {m g k} h=>ah (ax (b:=false) (by rw [te,decide_eq_false h]) rfl) rfl;have T:∀ {m:Int} {g k:DS->Option dm} {d:W},kd<m->g δ=some (.rt d)->aq (bP (av lA (ak 3) (dC (.int m))) g aC) k δ=some (.rt d):=λ {m g k d} h e=>cp (ax (b:=true) (by rw [tl,decide_eq_true h]) e);have TE:∀ {m:Int} {g k:DS->Option dm} {d:W},kd=m->g δ=some (.rt d)->aq (bP (av bZ (ak 3) (dC (.int m))) g aC) k δ=some (.rt d):=λ {m g k d} h e=>cp (ax (b:=true) (by rw [te,decide_eq_true h]) e);by_cases h3:kd<3
 . exact ⟨.st (.set x t),aU rfl (pre (T h3 (ay (CT rfl rfl (oF rfl et))))),rfl,xo,gt⟩
 by_cases h7:kd<7
 . obtain ⟨a,ea,ga⟩:=fV (o:=o) hV hk (aW.fdiv 1000000000000);obtain ⟨b,eb,gb⟩:=lu (o:=o) hV hk (aW.fmod 1000000000000);exact ⟨.st (.put b a),aU rfl (pre ((F h3).trans (T h7 (ay (CT rfl (oF (iA (dO rfl (dO rfl rfl CZ) rfl) rfl) eb) (oF (iA (dO rfl (dO rfl rfl CZ) rfl) rfl) ea)))))),rfl,eW gb (by decide) (by decide),ga⟩
 by_cases h10:kd<10
 . obtain ⟨wh,_,ew⟩:=gc (λ wh=>W.str (cS (mJ wh))) [false,false,true] (i:=kd-7) (by omega) (by show _<(3:Int);omega);exact ⟨.opn wh t,aU rfl (pre ((F h3).trans ((F h7).trans (T h10 (ay (qf (mN (l:=[W.str "if", .str "if", .str "while"]) rfl rfl ew) (oF rfl et))))))),gt⟩
 by_cases h14:kd<14
 . obtain ⟨w,_,ew⟩:=gc (λ w:Bool=>W.str (bif w then Str.ofString "else" else Str.ofString "end")) [false,false,false,true] (i:=kd-10) (by omega) (by show _<(4:Int);omega);exact ⟨bif w then .els else .fin,Eq.trans (aU rfl (pre ((F h3).trans ((F h7).trans ((F h10).trans (T h14 (ay (Ej (mN (l:=[W.str "end", .str "end", .str "end", .str "else"]) rfl rfl ew))))))))) (by cases w <;> rfl),by cases w <;> trivial⟩
 by_cases h19:kd<19
 . obtain ⟨h,m,ew⟩:=gc (λ h=>W.str (cS (aG h))) [.brk,.agn,.mt,.mt,.stp] (i:=kd-14) (by omega) (by show _<(5:Int);omega);have all:∀ h∈[Hd.brk,.agn,.mt,.mt,.stp],rs h=[]/\A5 o FN JW (.st h):=List.forall_mem_cons.mpr ⟨⟨rfl,rfl,rfl⟩,List.forall_mem_cons.mpr ⟨⟨rfl,rfl,rfl⟩,List.forall_mem_cons.mpr ⟨⟨rfl,rfl,trivial⟩,List.forall_mem_cons.mpr ⟨⟨rfl,rfl,trivial⟩,List.forall_mem_cons.mpr ⟨⟨rfl,rfl,trivial⟩,λ _ h=>nomatch h⟩⟩⟩⟩⟩;exact ⟨.st h,Eq.trans (aU rfl (pre ((F h3).trans ((F h7).trans ((F h10).trans ((F h14).trans (T h19 (ay (Ej (mN (l:=[W.str "break", .str "again", .str "meet", .str "meet", .str "stop"]) rfl rfl ew)))))))))) (by rw [dE,(all h m).1]),(all h m).2⟩
 by_cases h21:kd<21
 . obtain ⟨h,m,ew⟩:=gc (λ h=>W.str (cS (aG h))) [.tell t,.ret t] (i:=kd-19) (by omega) (by show _<(2:Int);omega);have all:∀ h∈[Hd.tell t,.ret t],rs h=[tw t]/\A5 o FN JW (.st h):=List.forall_mem_cons.mpr ⟨⟨rfl,rfl,gt⟩,List.forall_mem_cons.mpr ⟨⟨rfl,rfl,gt⟩,λ _ h=>nomatch h⟩⟩;exact ⟨.st h,Eq.trans (aU rfl (pre ((F h3).trans ((F h7).trans ((F h10).trans ((F h14).trans ((F h19).trans (T h21 (ay (qf (mN (l:=[W.str "tell", .str "return"]) rfl rfl ew) (oF rfl et))))))))))) (by rw [dE,(all h m).1]),(all h m).2⟩
 by_cases e21:kd=21
 . obtain ⟨j,hj,aj⟩:=kf W.str JW aW (by decide);obtain ⟨b,eb,gb⟩:=fV (o:=o) hV hk (aW.fdiv 4);exact ⟨.st (.join x j b),aU rfl (pre ((F h3).trans ((F h7).trans ((F h10).trans ((F h14).trans ((F h19).trans ((F h21).trans (TE e21 (ay (LM rfl rfl (mN (l:=[W.str "sum", .str "most", .str "least", .str "ahead"]) rfl rfl aj) (oF rfl eb))))))))))),rfl,xo,hj,gb⟩
 . obtain ⟨op,eo,ho⟩:=wR (WD:=JW) (o:=o) hV hk R hR hl aW x xo;exact ⟨op,aU rfl (pre ((F h3).trans ((F h7).trans ((F h10).trans ((F h14).trans ((F h19).trans ((F h21).trans ((FE e21).trans (ay (oF rfl eo)))))))))),ho⟩
end
structure Fr where
 id:Nat
 wh:Bool
 ln:Int
 t:Tr
 up:Nat
 a:Nat
 b:Option Nat
noncomputable def bW:Option Nat->W
 | none=>.none
 | some b=>.ref b
noncomputable def n4 (f:Fr):List W:=[.str (cS (mJ f.wh)),.int f.ln,tw f.t,.ref f.up,.ref f.a,bW f.b]
noncomputable def kx (f:Fr):Nat:=f.b.getD f.a
noncomputable def cC (fs:List Fr):List W:=fs.reverse.map λ f=>.ref f.id
theorem k2:∀ i:Fin 12,decide (cS i=Str.ofString "break")=decide (i=4)/\decide (cS i=Str.ofString "again")=decide (i=5)/\decide (cS i=Str.ofString "else")=false/\decide (cS i=Str.ofString "end")=false:=by decide +kernel
theorem kE:decide (Str.ofString "else" = Str.ofString "break")=false/\decide (Str.ofString "else" = Str.ofString "again")=false/\decide (Str.ofString "end" = Str.ofString "break")=false/\decide (Str.ofString "end" = Str.ofString "again")=false/\decide (Str.ofString "end" = Str.ofString "else")=false/\decide (Str.ofString "else" = Str.ofString "end")=false:=by decide +kernel
theorem kO:∀ wh:Bool,decide (cS (mJ wh)=Str.ofString "while")=wh/\decide (cS (mJ wh)=Str.ofString "if") = !wh:=by decide +kernel
theorem y8 {fo:DS->ai->SM W} {δ:DS} {S:ai} {l:Nat} {es:List W} {i:Int} {x:W} (h1:fo δ S=some (.ok (.ref l),S)) (h2:S[l]?=some (.lst es)) (h3:fG es i=some x):sIx fo (ab (dC (.int i))) δ S=some (.ok x,S):=by
 have v:ab (dC (.int i)) δ S=some (.ok (.int i),S):=rfl;simp only [sIx,h1,v,au,D4 h2,h3,lq,Option.map_some]
theorem KC {fo:DS->ai->SM W} {δ:DS} {S:ai} {l:Nat} {es:List W} {x:W} (h1:fo δ S=some (.ok (.ref l),S)) (h2:S[l]?=some (.lst (es++[x]))):sIx fo (ab (A8 nz (dC (.int (1))))) δ S=some (.ok x,S):=by
 have v:ab (A8 nz (dC (.int (1)))) δ S=some (.ok (.int (-1)),S):=rfl;simp only [sIx,h1,v,au,D4 h2,Iu,lq,Option.map_some]
theorem Kg {fa:DS->ai->SM W} {δ:DS} {S:ai} {a b:Str} (h:fa δ S=some (.ok (.str a),S)):Cr false fa (ab (dC (.str b))) δ S=some (.ok (decide (a=b)),S):=by
 have v:ab (dC (.str b)) δ S=some (.ok (.str b),S):=rfl;have e:Ch false (.str a) (.str b) S=some (decide (a=b)):=rfl;simp only [Cr,h,v,au,e,lq,Option.map_some]
theorem Jn {f:DS->ai->SM Bool} {δ:DS} {S:ai} {b:Bool} (h:f δ S=some (.ok b,S)):sB f δ S=some (.ok (.bool b),S):=by simp only [sB,h,au]
theorem Ir {fa fb:DS->ai->SM W} {δ:DS} {S:ai} {l:Nat} {es:List W} (h1:fa δ S=some (.ok (.ref l),S)) (h2:S[l]?=some (.lst es)) (h3:fb δ S=some (.ok (.list []),S)):sK true fa fb δ S=some (.ok (.bool (!es.isEmpty)),S):=by
 simp only [sK,h1,h3,au,IK,fX h2,ju,Option.bind_some,if_true,lq,Option.map_some];cases es <;> rfl
section
variable {S:ai} {p:Nat} {fs:List Fr}
noncomputable def tU (main:Bool) (fs:List Fr):Op->Bool
 | .st h=>if aG h=4∨aG h=5 then fs.any (·.wh) else (decide (aG h≠3) || !main)
 | .els=>match fs with | []=>false | f::_=>!f.wh&&f.b.isNone
 | .fin=>!fs.isEmpty
 | .opn _ _=>decide (fs.length<5)
theorem DZ (fs:List Fr):Al (λ x y=>∃ f∈fs,x=.ref f.id/\y=.bool f.wh) (cC fs) ((fs.reverse.map (·.wh)).map .bool):=by
 have:∀ l:List Fr,(∀ f∈l,f∈fs)->Al (λ x y=>∃ f∈fs,x=W.ref f.id/\y=.bool f.wh) (l.map λ f=>.ref f.id) ((l.map (·.wh)).map .bool):=λ l=>by
  induction l with
  | nil=>intro _;exact .nil
  | cons f l ih=>intro h;exact .cons ⟨f,h f (by simp),rfl,rfl⟩ (ih λ g hg=>h g (by simp [hg]))
 exact this fs.reverse λ f hf=>List.mem_reverse.mp hf
theorem Cm (hp:S[p]?=some (.lst (cC fs))) (hf:∀ f∈fs,S[f.id]?=some (.lst (n4 f))) (hl:fs.length<=10) (main:Bool) (op:Op) (ho:∀ h,op=.st h->aG h≠10/\aG h≠11):bB [dE op,.ref p,.bool main] S=some (.ok (.bool (tU main fs op)),S):=by
 have z0:=sz 0 (by decide);let δ:DS:=[.val (dE op),.val (.ref p),.val (.bool main)]
 have v1:ab (ac 1) δ S=some (.ok (.ref p),S):=rfl;have vn:ab (aT (bn af)) δ S=some (.ok (.list []),S):=az (by first | rfl | simp! [uD,if_pos z0]);refine (aY rfl).trans ((congrArg dY (?_:_=some (.rt (.bool (tU main fs op)),S))).trans rfl);have run:∀ (w:Str) (c1 c2 c3 c4:Bool),ao aR (ak 0) (dC (.int (0))) δ=some (.str w)->(decide (w=Str.ofString "break")||decide (w=Str.ofString "again"))=c1->decide (w=Str.ofString "else")=c2->decide (w=Str.ofString "end")=c3->(decide (w=Str.ofString "if")||decide (w=Str.ofString "while"))=c4->
  pC (av bZ (ao aR (ak 0) (dC (.int (0)))) (dC (.str "break"))) (av bZ (ao aR (ak 0) (dC (.int (0)))) (dC (.str "again"))) δ=some c1/\av bZ (ao aR (ak 0) (dC (.int (0)))) (dC (.str "else")) δ=some c2/\av bZ (ao aR (ak 0) (dC (.int (0)))) (dC (.str "end")) δ=some c3/\pC (av bZ (ao aR (ak 0) (dC (.int (0)))) (dC (.str "if"))) (av bZ (ao aR (ak 0) (dC (.int (0)))) (dC (.str "while"))) δ=some c4:=λ w c1 c2 c3 c4 h0 h1 h2 h3 h4=>by
  have orr:∀ {f g:DS->Option Bool} {a b:Bool},f δ=some a->g δ=some b->pC f g δ=some (a||b):=λ {f g a b} h h'=>by
   cases a with
   | true=>exact Fv h
   | false=>cases b with
    | true=>exact Ey h h'
    | false=>exact F8 h h'
  exact ⟨by rw [orr (tD h0) (tD h0),h1],by rw [tD h0,h2],by rw [tD h0,h3],by rw [orr (tD h0) (tD h0),h4]⟩
 cases op with
 | st h=>
  obtain ⟨n10,n11⟩:=ho h rfl;have q:=k2 (aG h);have q':=kq (aG h);have a0:ao aR (ak 0) (dC (.int (0))) δ=some (.str (cS (aG h))):=x0 rfl;obtain ⟨t1,t2,t3,t4⟩:=run (cS (aG h)) (decide (aG h=4)||decide (aG h=5)) false false false a0 (by rw [q.1,q.2.1]) q.2.2.1 q.2.2.2 (by rw [q'.1,q'.2.1,decide_eq_false n10,decide_eq_false n11];rfl);by_cases hb:aG h=4∨aG h=5
  . have e1:(decide (aG h=4)||decide (aG h=5))=true:=by simpa using hb
    rw [e1] at t1;refine gM ((d5 (az t1)).trans (eY ?_));have lk:=wC hp;have cl:=sD (h:=ae 0) (fe:=sB (Cr false (sIx (ab (ac 0)) (ab (dC (.int (0))))) (ab (dC (.str "while"))))) (δ:=[.no]) lk (λ x y r=>by
     obtain ⟨f,hm,rfl,rfl⟩:=r;refine ⟨[.val (.ref f.id)],rfl,?_⟩;have:=Jn (Kg (b:=Str.ofString "while") (y8 (fo:=ab (ac 0)) (δ:=[.val (.ref f.id)]) rfl (hf f hm) (oH _ _)));rw [(kO f.wh).1] at this;exact this) (DZ fs) 9000 0 rfl (by simp [cC];omega)
    have c:=pR (S:=S) (ix:=[none]) (fi:=lz (ab (ac 1))) (δ:=δ) (n:=(p,.l)) (S0:=S) (m:=9000) (by simp only [lz,v1,au,fX hp,Option.map_some]) (sz 9000 (by decide)) cl;have an:(fs.reverse.map (·.wh)).any id=fs.any (·.wh):=by rw [List.any_map,List.any_reverse];rfl
    have ms:tU main (fs) (.st h)=fs.any (·.wh):=by simp only [tU,if_pos hb]
    simp only [JC,c,au,FQ,ju,Option.bind_some,lH,Option.map_some,lq,an,ms]
  . have e1:(decide (aG h=4)||decide (aG h=5))=false:=by simpa using hb
    rw [e1] at t1;refine (ag (δ':=δ) (S':=S) ((bR (az t1)).trans rfl)).trans ?_;refine (ag (δ':=δ) (S':=S) ((bR (az t2)).trans rfl)).trans ?_;refine (ag (δ':=δ) (S':=S) ((bR (az t3)).trans rfl)).trans ?_;refine (ag (δ':=δ) (S':=S) ((bR (az t4)).trans rfl)).trans ?_;refine pQ (ay ?_);have nr:dB (av tS (ao aR (ak 0) (dC (.int (0)))) (dC (.str "return"))) δ=some (.bool (!decide (aG h=3))):=by
     have c:tS (.str (cS (aG h))) (.str "return")=some (!decide (cS (aG h)=Str.ofString "return")):=rfl;rw [q'.2.2.1] at c;simp only [dB,av,a0,dC,Option.bind_some,c,Option.map_some]
    have nv:sZ (ac 2) δ=some (.bool (!main)):=rfl;simp only [AZ,nr,nv,Option.bind_some,rX,tU,if_neg hb];by_cases h3:aG h=3 <;> simp [h3]
 | opn wh t=>
  have a0:ao aR (ak 0) (dC (.int (0))) δ=some (.str (cS (mJ wh))):=x0 rfl;have q:=k2 (mJ wh);have w4:decide (mJ wh=4)=false/\decide (mJ wh=5)=false:=by cases wh <;> decide
  obtain ⟨t1,t2,t3,t4⟩:=run (cS (mJ wh)) false false false true a0 (by rw [q.1,q.2.1,w4.1,w4.2];rfl) q.2.2.1 q.2.2.2 (by rw [(kO wh).1,(kO wh).2];cases wh <;> rfl);refine (ag (δ':=δ) (S':=S) ((bR (az t1)).trans rfl)).trans ?_;refine (ag (δ':=δ) (S':=S) ((bR (az t2)).trans rfl)).trans ?_;refine (ag (δ':=δ) (S':=S) ((bR (az t3)).trans rfl)).trans ?_;refine gM ((d5 (az t4)).trans (eY (Jn ?_)));have v5:ab (dC (.int (5))) δ S=some (.ok (.int 5),S):=rfl;have ll:sI (.ref p) S=some (.int (fs.length:Nat)):=by simp [sI,fX hp,cC]
  simp only [uP,Ao,v1,v5,au,ll,lq,Option.map_some];show some (Rs.ok (decide ((fs.length:Int)<5)),S)=some (Rs.ok (decide (fs.length<5)),S);by_cases h5:fs.length<5
  . rw [decide_eq_true h5,decide_eq_true (by omega)]
  . rw [decide_eq_false h5,decide_eq_false (by omega)]
 | fin=>
  have a0:ao aR (ak 0) (dC (.int (0))) δ=some (.str "end"):=x0 rfl;obtain ⟨t1,t2,t3,t4⟩:=run (Str.ofString "end") false false true _ a0 (by rw [kE.2.2.1,kE.2.2.2.1];rfl) kE.2.2.2.2.1 (decide_eq_true rfl) rfl;refine (ag (δ':=δ) (S':=S) ((bR (az t1)).trans rfl)).trans ?_;refine (ag (δ':=δ) (S':=S) ((bR (az t2)).trans rfl)).trans ?_;refine gM ((d5 (az t3)).trans (eY ?_));rw [Ir v1 hp vn];simp [tU,cC]
 | els=>
  have a0:ao aR (ak 0) (dC (.int (0))) δ=some (.str "else"):=x0 rfl;obtain ⟨t1,t2,t3,t4⟩:=run (Str.ofString "else") false true _ _ a0 (by rw [kE.1,kE.2.1];rfl) (decide_eq_true rfl) rfl rfl;refine (ag (δ':=δ) (S':=S) ((bR (az t1)).trans rfl)).trans ?_;refine gM ((d5 (az t2)).trans (eY ?_));have n1:=Ir v1 hp vn;cases fs with
  | nil=>
   simp only [p7,n1,au,rX,Option.bind_some];rfl
  | cons f fs=>
   have hp':S[p]?=some (.lst ((fs.reverse.map λ f=>W.ref f.id)++[.ref f.id])):=by rw [hp];simp [cC]
   have hff:=hf f (by simp);have i0:=y8 (i:=0) (KC v1 hp') hff (oH _ _);have i5:=y8 (i:=5) (KC v1 hp') hff (Kw _ _ _ _ _ _ _);have e1:=Jn (Kg (b:=Str.ofString "if") i0);rw [(kO f.wh).2] at e1;have e2:sB (uP oN (sIx (sIx (ab (ac 1)) (ab (A8 nz (dC (.int (1)))))) (ab (dC (.int (5))))) (ab (dC .none))) δ S=some (.ok (.bool f.b.isNone),S):=by
    refine Jn ?_;have vN:ab (dC .none) δ S=some (.ok .none,S):=rfl;simp only [uP,i5,vN,au];cases f.b <;> rfl
   have n2:(!(cC (f::fs)).isEmpty)=true:=by simp [cC]
   rw [n2] at n1;simp only [p7,n1,au,rX,Option.bind_some,if_true,e1,e2,tU];cases f.wh <;> rfl
theorem Cu {f:Fr} (hf:S[f.id]?=some (.lst (n4 f))):eE [.ref f.id] S=some (.ok (if f.wh=true then .tuple [.str (cS 11),.int f.ln,tw f.t,.ref f.a] else .tuple [.str (cS 10),.int f.ln,tw f.t,.ref f.a,bW f.b]),S):=by
 have z4:=sz 4 (by decide);have z5:=sz 5 (by decide);let δ:DS:=[.val (.ref f.id)]
 have v0:ab (ac 0) δ S=some (.ok (.ref f.id),S):=rfl;have i0:=y8 (i:=0) v0 hf (oH _ _);have i1:=y8 (i:=1) v0 hf (wD _ _ _);have i2:=y8 (i:=2) v0 hf (xu _ _ _ _);have i4:=y8 (i:=4) v0 hf (vU _ _ _ _ _ _);have i5:=y8 (i:=5) v0 hf (Kw _ _ _ _ _ _ _);have e1:=Kg (b:=Str.ofString "if") i0;rw [(kO f.wh).2] at e1;refine (aY rfl).trans ?_;cases hw:f.wh with
 | true=>
  rw [hw] at e1;refine (congrArg dY (?_:_=some (.rt (.tuple [.str (cS 11),.int f.ln,tw f.t,.ref f.a]),S))).trans rfl;refine (ag (δ':=δ) (S':=S) ((bR e1).trans rfl)).trans (eY ?_);have c:=bH (f:=ab (dC (.str "while"))) (δ:=δ) (S:=S) rfl (bH i1 (bH i2 (bH (g:=dL) i4 rfl)));simp only [iL,c,au,List.length_cons,List.length_nil];rw [if_pos z4];rfl
 | false=>
  rw [hw] at e1;refine (congrArg dY (?_:_=some (.rt (.tuple [.str (cS 10),.int f.ln,tw f.t,.ref f.a,bW f.b]),S))).trans rfl;refine gM ((d5 e1).trans (eY ?_));have c:=bH (f:=ab (dC (.str "if"))) (δ:=δ) (S:=S) rfl (bH i1 (bH i2 (bH i4 (bH (g:=dL) i5 rfl))));simp only [iL,c,au,List.length_cons,List.length_nil];rw [if_pos z5];rfl
end
theorem K2:∀ k:Fin 7,PyData.strOk (sh k)=true:=by decide +kernel
theorem zC {k:Fin 7} {a b:Tr} (h:GN (.op k a b)):GN a/\GN b:=⟨λ x hx=>h x (by rw [n5];simp [hx]),λ x hx=>h x (by rw [n5];simp [hx])⟩
theorem rT:∀ (t:Tr),GN t->eS (tw t)=true
 | .num v,_=>by simp only [tw,eS,bM,Bool.and_true];decide +kernel
 | .sig k,_=>by simp only [tw,eS,bM,Bool.and_true];exact Gx k
 | .nam x,h=>by
  have:=h x (by simp [tV,ye,jW]);simp only [tw,eS,bM,Bool.and_true,this];decide +kernel
 | .box t,h=>by
  have:=rT t (λ x hx=>h x (by simpa [tV,jW] using hx));simp only [tw,eS,bM,Bool.and_true,this];decide +kernel
 | .op k t u,h=>by
  have h1:=rT t (zC h).1;have h2:=rT u (zC h).2;simp only [tw,eS,bM,Bool.and_true,h1,h2];exact K2 k
theorem nS:∀ (t:Tr),bJ (tw t)<=qe t+1
 | .num v=>by simp [tw,bJ,bp,qe]
 | .sig k=>by simp [tw,bJ,bp,qe]
 | .nam x=>by simp [tw,bJ,bp,qe]
 | .box t=>by have:=nS t;simp [tw,bJ,bp,qe];omega
 | .op k t u=>by have:=nS t;have:=nS u;simp [tw,bJ,bp,qe];omega
theorem fJ {f g:W->Option W} (h:∀ d e,f d=some e->g d=some e):∀ (ds es:List W),dG f ds=some es->dG g ds=some es
 | [],es,e=>e
 | d::ds,es,e=>by
  obtain ⟨x,e1,e⟩:=oB e
  obtain ⟨xs,e2,rfl⟩:=oM e
  show (g d).bind _=_;rw [h d x e1];show (dG g ds).map _=_;rw [fJ h ds xs e2];rfl
theorem iy {F G:Nat->Option (List W)} (h:∀ k ds,F k=some ds->G k=some ds):∀ (n m:Nat) (d e:W),n<=m->rW F n d=some e->rW G m d=some e
 | 0,_,_,_,_,e=>by cases e
 | n+1,0,_,_,hm,_=>by omega
 | n+1,m+1,d,e,hm,q=>by
  have ih:=fJ λ d e=>iy h n m d e (by omega);cases d with
  | ref k=>
   obtain ⟨ds,hF,q⟩:=oB q
   obtain ⟨es,q1,rfl⟩:=oM q
   show (G k).bind _=_;rw [h k ds hF];show (dG (rW G m) ds).map _=_;rw [ih ds es q1];rfl
  | list ds=>
   obtain ⟨es,q1,rfl⟩:=oM q
   show (dG (rW G m) ds).map _=_;rw [ih ds es q1];rfl
  | tuple ds=>
   obtain ⟨es,q1,rfl⟩:=oM q
   show (dG (rW G m) ds).map _=_;rw [ih ds es q1];rfl
  | _=>exact q
mutual
theorem rY (F:Nat->Option (List W)):∀ (n:Nat) (d:W),eS d=true->bJ d<n->rW F n d=some d
 | 0,_,_,h=>absurd h (Nat.not_lt_zero _)
 | n+1,.none,_,_=>rfl
 | n+1,.bool _,_,_=>rfl
 | n+1,.int _,_,_=>rfl
 | n+1,.str _,_,_=>rfl
 | n+1,.list ds,h,hd=>by
  show (dG (rW F n) ds).map _=_;rw [zF F n ds (by simpa [eS] using h) (by simp only [bJ] at hd;omega)];rfl
 | n+1,.tuple ds,h,hd=>by
  show (dG (rW F n) ds).map _=_;rw [zF F n ds (by simpa [eS] using h) (by simp only [bJ] at hd;omega)];rfl
 | n+1,.ref _,h,_=>by simp [eS] at h
theorem zF (F:Nat->Option (List W)):∀ (n:Nat) (ds:List W),bM ds=true->bp ds<n->dG (rW F n) ds=some ds
 | n,[],_,_=>rfl
 | n,d::ds,h,hd=>by
  simp only [bM,Bool.and_eq_true] at h;simp only [bp] at hd;show (rW F n d).bind _=_;rw [rY F n d h.1 (by omega)];show (dG (rW F n) ds).map _=_;rw [zF F n ds h.2 (by omega)];rfl
end
theorem o8 {f:W->Option W}:∀ {a b x y:List W},dG f a=some x->dG f b=some y->dG f (a++b)=some (x++y)
 | [],b,x,y,ha,hb=>by cases ha;exact hb
 | d::a,b,x,y,ha,hb=>by
  obtain ⟨u,e1,e⟩:=oB ha
  obtain ⟨us,e2,rfl⟩:=oM e
  show (f d).bind _=_;rw [e1];show (dG f (a++b)).map _=_;rw [o8 e2 hb];rfl
theorem aX {f:W->Option W} {d x:W} {ds xs:List W} (h1:f d=some x) (h2:dG f ds=some xs):dG f (d::ds)=some (x::xs):=by
 show (f d).bind _=_;rw [h1];show (dG f ds).map _=_;rw [h2];rfl
theorem gK.snoc {P:Bool->Hd->Prop} {n:Nat} {wh:Bool} {k:Int} {h:Hd} {c':Nat} (g:rP P n wh h c'):∀ (cs:List Bk) (c:Nat),gK P n wh cs c->gK P n wh (cs++[(k,h)]) (c+c')
 | [],c,q=>by
  cases q;have:=gK.cons (k:=k) g .nil;simpa using this
 | b::cs,c,q=>by
  cases q with
  | cons g1 g2=>
   rw [Nat.add_assoc];exact gK.cons g1 (gK.snoc g cs _ g2)
section
variable {P:Bool->Hd->Prop} {o:Int} {body p K0:Nat}
noncomputable def v9 (fs:List Fr):Bool:=fs.any (·.wh)
noncomputable def EJ (P:Bool->Hd->Prop) (F:Nat->Option (List W)) (i:Nat) (wh:Bool) (ws:List W) (c:Nat):Prop:=∃ cs,dG (rW F (27-3*i)) ws=some (cO cs)/\gK P (5-i) wh cs c
theorem EJ.mono {F G:Nat->Option (List W)} (h:∀ k ds,F k=some ds->G k=some ds) {i:Nat} {wh:Bool} {ws:List W} {c:Nat} (l:EJ P F i wh ws c):EJ P G i wh ws c:=by
 obtain ⟨cs,e,g⟩:=l;exact ⟨cs,fJ (λ d e=>iy h _ _ d e (Nat.le_refl _)) _ _ e,g⟩
noncomputable def D2 (P:Bool->Hd->Prop) (F:Nat->Option (List W)) (i:Nat) (wh:Bool) (f:Fr) (n:Nat):Prop:=match f.b with
 | none=>n=0
 | some _=>f.wh=false/\∃ wa,F f.a=some wa/\EJ P F i wh wa n
theorem D2.mono {F G:Nat->Option (List W)} (h:∀ k ds,F k=some ds->G k=some ds) {i:Nat} {wh:Bool} {f:Fr} {n:Nat} (l:D2 P F i wh f n):D2 P G i wh f n:=by
 unfold D2 at l ⊢;cases hb:f.b with
 | none=>rw [hb] at l;exact l
 | some b=>rw [hb] at l;obtain ⟨a,wa,e,q⟩:=l;exact ⟨a,wa,h _ _ e,q.mono h⟩
noncomputable def LI (P:Bool->Hd->Prop) (o:Int) (S:ai) (F:Nat->Option (List W)) (body:Nat):List Fr->Nat->Nat->Prop
 | [],h,n=>h=body/\∃ ws,S[body]?=some (.lst ws)/\EJ P F 0 false ws n
 | f::fs,h,n=>∃ n1 n2 n3 ws,h=kx f/\S[f.id]?=some (.lst (n4 f))/\iB o f.t 7 6/\S[h]?=some (.lst ws)/\EJ P F (fs.length+1) (v9 (f::fs)) ws n1/\D2 P F (fs.length+1) (v9 (f::fs)) f n2/\LI P o S F body fs f.up n3/\n=n1+n2+n3+1
noncomputable def lB:List Fr->List Nat
 | []=>[]
 | f::fs=>f.id::kx f::lB fs
theorem LI.move {S S':ai} {F G:Nat->Option (List W)} (hF:∀ k ds,F k=some ds->G k=some ds):∀ (fs:List Fr) (h n:Nat),(∀ k∈body::lB fs,S'[k]?=S[k]?)->LI P o S F body fs h n->LI P o S' G body fs h n
 | [],h,n,hs,q=>by
  obtain ⟨e,ws,h1,h2⟩:=q;exact ⟨e,ws,by rw [hs body (by simp)];exact h1,h2.mono hF⟩
 | f::fs,h,n,hs,q=>by
  obtain ⟨n1,n2,n3,ws,e,h1,h2,h3,h4,h5,h6,h7⟩:=q;exact ⟨n1,n2,n3,ws,e,by rw [hs f.id (by simp [lB])];exact h1,h2,by rw [e,hs (kx f) (by simp [lB]),<-e];exact h3,h4.mono hF,h5.mono hF,LI.move hF fs f.up n3 (λ k hk=>hs k (by simp only [lB,List.mem_cons] at hk ⊢;rcases hk with hk | hk <;> simp [hk])) h6,h7⟩
theorem LI.here {S:ai} {F:Nat->Option (List W)}:∀ (fs:List Fr) (h n:Nat),LI P o S F body fs h n->h∈body::lB fs
 | [],h,n,q=>by simp [q.1]
 | f::fs,h,n,q=>by
  obtain ⟨_,_,_,_,e,_⟩:=q;simp [lB,e]
theorem LI.app {S:ai} {F:Nat->Option (List W)}:∀ (fs:List Fr) (h n:Nat),(body::lB fs).Nodup->LI P o S F body fs h n->∃ ws,S[h]?=some (.lst ws)/\∀ (w:W) (k:Int) (hd:Hd) (c:Nat),rW F (27-3*fs.length) w=some (bQ k hd)->rP P (5-fs.length) (v9 fs) hd c->LI P o (S.set h (.lst (ws++[w]))) F body fs h (n+c)
 | [],h,n,_,q=>by
  obtain ⟨e,ws,h1,cs,h2,h3⟩:=q;subst e;exact ⟨ws,h1,λ w k hd c hw hg=>⟨rfl,ws++[w],set_eq' h1,cs++[(k,hd)],by
   have:=o8 h2 (aX (ds:=[]) hw rfl);simpa [cO,iu] using this,gK.snoc hg _ _ h3⟩⟩
 | f::fs,h,n,hn,q=>by
  obtain ⟨n1,n2,n3,ws,e,h1,h2,h3,⟨cs,h4,h4'⟩,h5,h6,h7⟩:=q;subst e;simp only [lB] at hn;have d1:kx f≠f.id:=λ z=>by rw [List.nodup_cons,List.nodup_cons] at hn;exact hn.2.1 (by simp [z])
  have d2:∀ k∈body::lB fs,kx f≠k:=λ k hk z=>by
   rw [List.nodup_cons,List.nodup_cons,List.nodup_cons] at hn;rcases List.mem_cons.mp hk with rfl | hk
   . exact hn.1 (by simp [z])
   . exact hn.2.2.1 (z▸hk)
  refine ⟨ws,h3,λ w k hd c hw hg=>⟨n1+c,n2,n3,ws++[w],rfl,set_ne' h1 d1,h2,set_eq' h3,⟨cs++[(k,hd)],?_,gK.snoc hg _ _ h4'⟩,h5,LI.move (λ _ _ z=>z) fs f.up n3 (λ k hk=>List.getElem?_set_ne (d2 k hk)) h6,by omega⟩⟩;have:=o8 h4 (aX (ds:=[]) hw rfl);simpa [cO,iu] using this
end
theorem nQ {f:W->Option W}:∀ {ds es:List W},dG f ds=some es->ds.length=es.length
 | [],es,e=>by cases e;rfl
 | d::ds,es,e=>by
  obtain ⟨x,_,e⟩:=oB e
  obtain ⟨xs,e2,rfl⟩:=oM e
  simp [nQ e2]
theorem rP.pos {P:Bool->Hd->Prop} {n:Nat} {wh:Bool} {h:Hd} {c:Nat} (g:rP P n wh h c):1<=c:=by cases g <;> omega
theorem gK.len {P:Bool->Hd->Prop} {n:Nat} {wh:Bool}:∀ (cs:List Bk) (c:Nat),gK P n wh cs c->cs.length<=c
 | [],c,_=>Nat.zero_le _
 | b::cs,c,q=>by
  cases q with
  | cons g1 g2=>
   have:=g1.pos;have:=gK.len cs _ g2;simp only [List.length_cons];omega
section
variable {P:Bool->Hd->Prop} {o:Int} {body p K0:Nat} {S:ai} {F:Nat->Option (List W)} {fs:List Fr} {h n:Nat}
theorem LI.len:∀ (fs:List Fr) (h n:Nat) {ws:List W},LI P o S F body fs h n->S[h]?=some (.lst ws)->ws.length<=n
 | [],h,n,ws,q,hw=>by
  obtain ⟨e,ws',h1,cs,h2,h3⟩:=q;subst e;rw [h1] at hw;cases hw;have:=nQ h2;have:=gK.len _ _ h3;simp [cO] at *;omega
 | f::fs,h,n,ws,q,hw=>by
  obtain ⟨n1,n2,n3,ws',e,h1,h2,h3,⟨cs,h4,h4'⟩,h5,h6,h7⟩:=q;rw [h3] at hw;cases hw;have:=nQ h4;have:=gK.len _ _ h4';simp [cO] at *;omega
theorem LI.frames:∀ (fs:List Fr) (h n:Nat),LI P o S F body fs h n->∀ f∈fs,S[f.id]?=some (.lst (n4 f))
 | [],_,_,_,f,hf=>absurd hf List.not_mem_nil
 | f::fs,h,n,q,g,hg=>by
  obtain ⟨_,_,n3,_,_,h1,_,_,_,_,h6,_⟩:=q;rcases List.mem_cons.mp hg with rfl | hg
  . exact h1
  . exact LI.frames fs f.up n3 h6 g hg
theorem LI.inS:∀ (fs:List Fr) (h n:Nat),LI P o S F body fs h n->∀ k∈body::lB fs,∃ ws,S[k]?=some (.lst ws)
 | [],_,_,q,k,hk=>by
  obtain ⟨_,ws,h1,_⟩:=q;simp [lB] at hk;subst hk;exact ⟨ws,h1⟩
 | f::fs,h,n,q,k,hk=>by
  obtain ⟨_,_,n3,ws,e,h1,_,h3,_,_,h6,_⟩:=q;simp only [lB,List.mem_cons] at hk;rcases hk with hk | hk | hk | hk
  . exact LI.inS fs f.up n3 h6 k (by simp [hk])
  . exact ⟨_,hk▸h1⟩
  . exact ⟨ws,by rw [hk,<-e];exact h3⟩
  . exact LI.inS fs f.up n3 h6 k (by simp [hk])
theorem Jg {p b x y:Nat} {r:List Nat}:(p::b::x::y::r).Nodup↔(¬p=b/\¬p=x/\¬p=y/\p∉r)/\(¬b=x/\¬b=y/\b∉r)/\(¬x=y/\x∉r)/\y∉r/\r.Nodup:=by simp only [List.nodup_cons,List.mem_cons,not_or]
theorem LA {p b:Nat} {r:List Nat}:(p::b::r).Nodup↔(¬p=b/\p∉r)/\b∉r/\r.Nodup:=by simp only [List.nodup_cons,List.mem_cons,not_or]
theorem lP {k p b x y:Nat} {r:List Nat}:k∈p::b::x::y::r↔k=p∨k=b∨k=x∨k=y∨k∈r:=by simp only [List.mem_cons]
theorem A9 {k p b:Nat} {r:List Nat}:k∈p::b::r↔k=p∨k=b∨k∈r:=by simp only [List.mem_cons]
theorem Mc {k p b x y:Nat} {r:List Nat} (h:k∉p::b::x::y::r):¬k=p/\¬k=b/\¬k=x/\¬k=y/\k∉r:=by simpa only [List.mem_cons,not_or] using h
theorem Lj {k p b:Nat} {r:List Nat} (h:k∉p::b::r):¬k=p/\¬k=b/\k∉r:=by simpa only [List.mem_cons,not_or] using h
structure LV (P:Bool->Hd->Prop) (o:Int) (S:ai) (F:Nat->Option (List W)) (body p K0:Nat) (fs:List Fr) (h n:Nat):Prop where
 li:LI P o S F body fs h n
 hp:S[p]?=some (.lst (cC fs))
 nd:(p::body::lB fs).Nodup
 nf:∀ k∈p::body::lB fs,F k=none
 hF:∀ k ds,F k=some ds->S[k]?=some (.lst ds)
 lo:∀ k∈p::body::lB fs,K0<=k
 fl:fs.length<=5
 lf:∀ k ds,F k=some ds->K0<=k
theorem LV.bnd (v:LV P o S F body p K0 fs h n):∀ k∈p::body::lB fs,k<S.length:=λ k hk=>by
 rcases List.mem_cons.mp hk with rfl | hk
 . exact (oG v.hp).1
 . obtain ⟨ws,e⟩:=LI.inS fs h n v.li k hk;exact (oG e).1
theorem LV.hm (v:LV P o S F body p K0 fs h n):h∈p::body::lB fs:=List.mem_cons.mpr (.inr (LI.here fs h n v.li))
theorem LV.ph (v:LV P o S F body p K0 fs h n):p≠h:=λ z=>by
 have:=v.nd;rw [List.nodup_cons] at this;exact this.1 (z▸LI.here fs h n v.li)
theorem LV.add (v:LV P o S F body p K0 fs h n):∃ ws,S[h]?=some (.lst ws)/\ws.length<=n/\∀ (w:W) (k:Int) (hd:Hd) (c:Nat),rW F (27-3*fs.length) w=some (bQ k hd)->rP P (5-fs.length) (v9 fs) hd c->LV P o (S.set h (.lst (ws++[w]))) F body p K0 fs h (n+c)/\∀ k,k<K0->(S.set h (.lst (ws++[w])))[k]?=S[k]?:=by
 have nd':=v.nd;rw [List.nodup_cons] at nd';obtain ⟨ws,h1,h2⟩:=LI.app fs h n nd'.2 v.li;refine ⟨ws,h1,LI.len fs h n v.li h1,λ w k hd c hw hg=>⟨⟨h2 w k hd c hw hg,set_ne' v.hp (Ne.symm v.ph),v.nd,v.nf,λ k ds hk=>set_ne' (v.hF k ds hk) (λ z=>?_),v.lo,v.fl,v.lf⟩,λ k hk=>List.getElem?_set_ne (λ z=>?_)⟩⟩
 . have:=v.nf h v.hm;rw [z,hk] at this;cases this
 . have:=v.lo h v.hm;omega
theorem LV.opn (v:LV P o S F body p K0 fs h n) (hK:K0<=S.length) (h5:fs.length<5) (wh:Bool) (ln:Int) (t:Tr) (ht:iB o t 7 6):LV P o ((S++[Ob.lst []]++[Ob.lst (n4 ⟨S.length+1,wh,ln,t,h,S.length,none⟩)]:ai).set p (.lst (cC (⟨S.length+1,wh,ln,t,h,S.length,none⟩::fs)))) F body p K0 (⟨S.length+1,wh,ln,t,h,S.length,none⟩::fs) S.length (n+1):=by
 let f:Fr:=⟨S.length+1,wh,ln,t,h,S.length,none⟩
 have bd:=v.bnd;have pb:=bd p (A9.mpr (.inl rfl));have old:∀ k,k<S.length->k≠p->((S++[Ob.lst []]++[Ob.lst (n4 f)]:ai).set p (.lst (cC (f::fs))))[k]?=S[k]?:=λ k hk hp=>by
  rw [List.getElem?_set_ne (Ne.symm hp),List.getElem?_append_left (by simp;omega),List.getElem?_append_left hk]
 have g1:((S++[Ob.lst []]++[Ob.lst (n4 f)]:ai).set p (.lst (cC (f::fs))))[S.length+1]?=some (.lst (n4 f)):=set_ne' (by have:=cZ (S++[Ob.lst []]) (Ob.lst (n4 f));simpa using this) (by omega);have g0:((S++[Ob.lst []]++[Ob.lst (n4 f)]:ai).set p (.lst (cC (f::fs))))[S.length]?=some (.lst []):=set_ne' (bF (cZ _ _)) (by omega);have pne:∀ k∈body::lB fs,k≠p:=λ k hk z=>by
  have:=v.nd;rw [List.nodup_cons] at this;exact this.1 (z▸hk)
 refine ⟨⟨0,0,n,[],rfl,g1,ht,g0,⟨[],rfl,.nil⟩,rfl,LI.move (λ _ _ z=>z) fs h n (λ k hk=>old k (bd k (List.mem_cons_of_mem _ hk)) (pne k hk)) v.li,by omega⟩,set_eq' (bF (bF v.hp)),?_,λ k hk=>?_,λ k ds hk=>?_,λ k hk=>?_,by simp;omega,v.lf⟩
 . have nd:=v.nd;have q1:S.length+1∉p::body::lB fs:=λ z=>absurd (bd _ z) (by omega);have q0:S.length∉p::body::lB fs:=λ z=>absurd (bd _ z) (by omega);have nd:=LA.mp nd;have q1:=Lj q1;have q0:=Lj q0;exact Jg.mpr ⟨⟨nd.1.1,Ne.symm q1.1,Ne.symm q0.1,nd.1.2⟩,⟨Ne.symm q1.2.1,Ne.symm q0.2.1,nd.2.1⟩,⟨Nat.succ_ne_self _,q1.2.2⟩,q0.2.2,nd.2.2⟩
 . have ff:∀ m,S.length<=m->F m=none:=λ m hm=>by
    cases hq:F m with
    | none=>rfl
    | some ds=>
     have:=(oG (v.hF m ds hq)).1;omega
   rcases lP.mp hk with hk | hk | hk | hk | hk
   . exact v.nf k (A9.mpr (.inl hk))
   . exact v.nf k (A9.mpr (.inr (.inl hk)))
   . exact ff k (hk▸Nat.le_succ _)
   . exact ff k (Nat.le_of_eq hk.symm)
   . exact v.nf k (A9.mpr (.inr (.inr hk)))
 . have hs:=v.hF k ds hk;have kl:=(oG hs).1;rw [old k kl (λ z=>by have:=v.nf p (A9.mpr (.inl rfl));rw [z,this] at hk;cases hk)];exact hs
 . rcases lP.mp hk with hk | hk | hk | hk | hk
   . exact v.lo k (A9.mpr (.inl hk))
   . exact v.lo k (A9.mpr (.inr (.inl hk)))
   . exact hk▸Nat.le_succ_of_le hK
   . exact hk▸hK
   . exact v.lo k (A9.mpr (.inr (.inr hk)))
noncomputable def mG (F:Nat->Option (List W)) (a:Nat) (ws:List W):Nat->Option (List W):=λ k=>if k=a then some ws else F k
theorem uH {a:Nat} {ws:List W} (h:F a=none):∀ k ds,F k=some ds->mG F a ws k=some ds:=λ k ds hk=>by
 unfold mG;rw [if_neg (λ z=>by rw [z,h] at hk;cases hk)];exact hk
theorem LV.els {f:Fr} (v:LV P o S F body p K0 (f::fs) h n) (hK:K0<=S.length) (hb:f.b=none) (hw:f.wh=false):∃ F',LV P o ((S++[Ob.lst []]:ai).set f.id (.lst (n4 { f with b:=some S.length }))) F' body p K0 ({ f with b:=some S.length }::fs) S.length n:=by
 obtain ⟨n1,n2,n3,ws,e,h1,h2,h3,h4,h5,h6,h7⟩:=v.li;have bd:=v.bnd;have ca:kx f=f.a:=by simp [kx,hb]
 have hF0:F f.a=none:=v.nf f.a (lP.mpr (.inr (.inr (.inr (.inl ca.symm)))));have le:=uH (ws:=ws) hF0;have fb:=bd f.id (lP.mpr (.inr (.inr (.inl rfl))));have old:∀ k,k<S.length->k≠f.id->((S++[Ob.lst []]:ai).set f.id (.lst (n4 { f with b:=some S.length })))[k]?=S[k]?:=λ k hk hp=>by
  rw [List.getElem?_set_ne (Ne.symm hp),List.getElem?_append_left hk]
 have nd:=v.nd;have q0:S.length∉p::body::lB (f::fs):=λ z=>absurd (bd _ z) (by omega);have nd:=Jg.mp nd;have q0:=Mc q0;have n2':n2=0:=by unfold D2 at h5;rw [hb] at h5;exact h5
 have g0:((S++[Ob.lst []]:ai).set f.id (.lst (n4 { f with b:=some S.length })))[S.length]?=some (.lst []):=set_ne' (cZ _ _) (by omega);refine ⟨mG F f.a ws,⟨0,n1,n3,[],rfl,set_eq' (bF h1),h2,g0,⟨[],rfl,.nil⟩,⟨hw,ws,by simp [mG],h4.mono le⟩,LI.move le fs f.up n3 (λ k hk=>old k (bd k (by rcases List.mem_cons.mp hk with hk | hk;exact lP.mpr (.inr (.inl hk));exact lP.mpr (.inr (.inr (.inr (.inr hk)))))) (λ z=>by
  rcases List.mem_cons.mp hk with hk | hk
  . exact nd.2.1.1 (hk▸z)
  . exact nd.2.2.1.2 (z▸hk))) h6,by omega⟩,?_,?_,λ k hk=>?_,λ k ds hk=>?_,λ k hk=>?_,v.fl,λ k ds hk=>?_⟩
 . rw [old p (bd p (lP.mpr (.inl rfl))) (λ z=>nd.1.2.1 z),v.hp];simp [cC]
 . exact Jg.mpr ⟨⟨nd.1.1,nd.1.2.1,Ne.symm q0.1,nd.1.2.2.2⟩,⟨nd.2.1.1,Ne.symm q0.2.1,nd.2.1.2.2⟩,⟨Ne.symm q0.2.2.1,nd.2.2.1.2⟩,q0.2.2.2.2,nd.2.2.2.2⟩
 . have ne:k≠f.a:=λ z=>by
    rw [<-ca] at z;have cu:kx f<S.length:=bd (kx f) (lP.mpr (.inr (.inr (.inr (.inl rfl)))));rcases lP.mp hk with hk | hk | hk | hk | hk
    . exact nd.1.2.2.1 (by rw [<-hk,z])
    . exact nd.2.1.2.1 (by rw [<-hk,z])
    . exact nd.2.2.1.1 (by rw [<-hk,z])
    . have hk:k=S.length:=hk;omega
    . exact nd.2.2.2.1 (z▸hk)
   unfold mG;rw [if_neg ne];rcases lP.mp hk with hk | hk | hk | hk | hk
   . exact v.nf k (lP.mpr (.inl hk))
   . exact v.nf k (lP.mpr (.inr (.inl hk)))
   . exact v.nf k (lP.mpr (.inr (.inr (.inl hk))))
   . have hk:k=S.length:=hk;cases hq:F k with
     | none=>rfl
     | some ds=>
      have:=(oG (v.hF k ds hq)).1;omega
   . exact v.nf k (lP.mpr (.inr (.inr (.inr (.inr hk)))))
 . unfold mG at hk;split at hk
   . rename_i z;cases hk;rw [z,old f.a (by rw [<-ca];exact bd _ (lP.mpr (.inr (.inr (.inr (.inl rfl)))))) (λ z=>nd.2.2.1.1 (by rw [ca,z])),<-ca,<-e];exact h3
   . have hs:=v.hF k ds hk;rw [old k (oG hs).1 (λ z=>by have:=v.nf f.id (lP.mpr (.inr (.inr (.inl rfl))));rw [z,this] at hk;cases hk)];exact hs
 . rcases lP.mp hk with hk | hk | hk | hk | hk
   . exact v.lo k (lP.mpr (.inl hk))
   . exact v.lo k (lP.mpr (.inr (.inl hk)))
   . exact v.lo k (lP.mpr (.inr (.inr (.inl hk))))
   . exact hk▸hK
   . exact v.lo k (lP.mpr (.inr (.inr (.inr (.inr hk)))))
 . unfold mG at hk;split at hk
   . rename_i z;rw [z,<-ca];exact v.lo _ (lP.mpr (.inr (.inr (.inr (.inl rfl)))))
   . exact v.lf k ds hk
end
noncomputable def HB (f:Fr):W:=if f.wh=true then .tuple [.str (cS 11),.int f.ln,tw f.t,.ref f.a] else .tuple [.str (cS 10),.int f.ln,tw f.t,.ref f.a,bW f.b]
section
variable {P:Bool->Hd->Prop} {o:Int} {body p K0:Nat} {S:ai} {F:Nat->Option (List W)} {fs:List Fr} {h n:Nat}
theorem om {G:Nat->Option (List W)} {a m:Nat} {ws es:List W} (h1:G a=some ws) (h2:dG (rW G m) ws=some es):rW G (m+1) (.ref a)=some (.list es):=by
 show (G a).bind _=_;rw [h1];show (dG (rW G m) ws).map _=_;rw [h2];rfl
theorem rz {G:Nat->Option (List W)} {m:Nat} {ws es:List W} (h2:dG (rW G m) ws=some es):rW G (m+1) (.tuple ws)=some (.tuple es):=by
 show (dG (rW G m) ws).map _=_;rw [h2];rfl
theorem LV.fin (hP:∀ wh t bs,iB o t 7 6->P wh (.whl t bs)/\P wh (.ifs t bs)) {f:Fr} (v:LV P o S F body p K0 (f::fs) h n):∃ F' n3 c k hd,LV P o (S.set p (.lst (cC fs))) F' body p K0 fs f.up n3/\rW F' (27-3*fs.length) (HB f)=some (bQ k hd)/\rP P (5-fs.length) (v9 fs) hd c/\n=n3+c/\S[f.id]?=some (.lst (n4 f)):=by
 obtain ⟨n1,n2,n3,ws,e,h1,h2,h3,h4,h5,h6,h7⟩:=v.li;have bd:=v.bnd;have fl:=v.fl;simp only [List.length_cons] at fl;have hF0:F (kx f)=none:=v.nf (kx f) (lP.mpr (.inr (.inr (.inr (.inl rfl)))));have le:=uH (ws:=ws) hF0;have nd:=Jg.mp v.nd;have nv:LV P o (S.set p (.lst (cC fs))) (mG F (kx f) ws) body p K0 fs f.up n3:=by
  refine ⟨LI.move le fs f.up n3 (λ k hk=>List.getElem?_set_ne (λ z=>?_)) h6,set_eq' v.hp,?_,λ k hk=>?_,λ k ds hk=>?_,λ k hk=>v.lo k ?_,by omega,λ k ds hk=>?_⟩
  . rcases List.mem_cons.mp hk with hk | hk
    . exact nd.1.1 (z.trans hk)
    . exact nd.1.2.2.2 (z▸hk)
  . exact LA.mpr ⟨⟨nd.1.1,nd.1.2.2.2⟩,nd.2.1.2.2,nd.2.2.2.2⟩
  . have hk:=A9.mp hk;have ne:k≠kx f:=λ z=>by
     rcases hk with hk | hk | hk
     . exact nd.1.2.2.1 (by rw [<-hk,z])
     . exact nd.2.1.2.1 (by rw [<-hk,z])
     . exact nd.2.2.2.1 (z▸hk)
    unfold mG;rw [if_neg ne];exact v.nf k (lP.mpr (hk.imp id (.imp id λ z=>.inr (.inr z))))
  . unfold mG at hk;split at hk
    . rename_i z;cases hk;rw [z];exact set_ne' (by rw [<-e];exact h3) (λ q=>nd.1.2.2.1 q)
    . exact set_ne' (v.hF k ds hk) (λ q=>by have:=v.nf p (lP.mpr (.inl rfl));rw [q,hk] at this;cases this)
  . exact lP.mpr ((A9.mp hk).imp id (.imp id λ z=>.inr (.inr z)))
  . unfold mG at hk;split at hk
    . rename_i z;rw [z];exact v.lo _ (lP.mpr (.inr (.inr (.inr (.inl rfl)))))
    . exact v.lf k ds hk
 have g:=h2.1;have tok:=rT f.t g.2.2;have tdp:=nS f.t;have tdd:bJ (tw f.t)<=8:=by have:=g.1;omega
 have e1:27-3*fs.length=24-3*fs.length+1+1+1:=by omega
 have e2:27-3*(fs.length+1)=24-3*fs.length:=by omega
 have e3:5-fs.length=5-(fs.length+1)+1:=by omega
 have tr:rW (mG F (kx f) ws) (24-3*fs.length+1+1) (tw f.t)=some (tw f.t):=rY _ _ _ tok (by omega);have cw:mG F (kx f) ws (kx f)=some ws:=by simp [mG]
 obtain ⟨cs,q1,q2⟩:=h4;rw [e2] at q1;have q1':dG (rW (mG F (kx f) ws) (24-3*fs.length+1)) ws=some (cO cs):=fJ (λ d e=>iy le _ _ d e (by omega)) _ _ q1;have lit:∀ d:W,(∀ k,d≠.ref k)->eS d=true->bJ d=0->rW (mG F (kx f) ws) (24-3*fs.length+1+1) d=some d:=λ d _ hd hz=>rY _ _ _ hd (by omega);rw [e1,e3];cases hb:f.b with
 | none=>
  have ca:kx f=f.a:=by simp [kx,hb]
  have n0:n2=0:=by unfold D2 at h5;rw [hb] at h5;exact h5
  have ra:=om (G:=mG F (kx f) ws) (a:=f.a) (by rw [<-ca];exact cw) q1';cases hw:f.wh with
  | true=>
   refine ⟨mG F (kx f) ws,n3,n1+1,f.ln,.whl f.t [.list (cO cs)],nv,?_,.whl (hP _ _ _ h2).1 ?_,by omega,h1⟩
   . unfold HB;rw [if_pos hw];exact rz (aX (d:=.str (cS 11)) rfl (aX (d:=.int f.ln) rfl (aX tr (aX (ds:=[]) ra rfl))))
   . have:v9 (f::fs)=true:=by simp [v9,hw]
     rw [this] at q2;exact q2
  | false=>
   refine ⟨mG F (kx f) ws,n3,n1+1,f.ln,.ifs f.t [.list (cO cs),.none],nv,?_,.if1 (hP _ _ _ h2).2 ?_,by omega,h1⟩
   . unfold HB;rw [hw,if_neg (by simp),hb];exact rz (aX (d:=.str (cS 10)) rfl (aX (d:=.int f.ln) rfl (aX tr (aX ra (aX (d:=.none) (ds:=[]) rfl rfl)))))
   . have:v9 (f::fs)=v9 fs:=by simp [v9,hw]
     rw [this] at q2;exact q2
 | some b=>
  have cb:kx f=b:=by simp [kx,hb]
  obtain ⟨hw,wa,ha,ca,u1,u2⟩:f.wh=false/\∃ wa,F f.a=some wa/\EJ P F (fs.length+1) (v9 (f::fs)) wa n2:=by unfold D2 at h5;rw [hb] at h5;exact h5
  rw [e2] at u1;have u1':dG (rW (mG F (kx f) ws) (24-3*fs.length+1)) wa=some (cO ca):=fJ (λ d e=>iy le _ _ d e (by omega)) _ _ u1;have ra:=om (G:=mG F (kx f) ws) (a:=f.a) (le _ _ ha) u1';have rb:=om (G:=mG F (kx f) ws) (a:=b) (by rw [<-cb];exact cw) q1';have:v9 (f::fs)=v9 fs:=by simp [v9,hw]
  rw [this] at q2 u2;refine ⟨mG F (kx f) ws,n3,n2+n1+1,f.ln,.ifs f.t [.list (cO ca),.list (cO cs)],nv,?_,.if2 (hP _ _ _ h2).2 u2 q2,by omega,h1⟩;unfold HB;rw [hw,if_neg (by simp),hb];exact rz (aX (d:=.str (cS 10)) rfl (aX (d:=.int f.ln) rfl (aX tr (aX ra (aX (d:=bW (some b)) (ds:=[]) rb rfl)))))
end
theorem Ks:∀ i:Fin 12,PyData.strOk (cS i)=true:=by decide +kernel
theorem lW {o:Int} {t:Tr} {d c:Nat} (h:iB o t d c):eS (tw t)=true/\bJ (tw t)<=d+1:=⟨rT t h.1.2.2,Nat.le_trans (nS t) (by have:=h.1.1;omega)⟩
theorem Hz {o:Int} {FN WD:List Str} (hF:∀ f∈FN,PyData.strOk f=true) (hW:∀ f∈WD,PyData.strOk f=true) (k:Int) {h:Hd} (hb:jH h=some []) (hp:PP o FN WD true h):eS (bQ k h)=true/\bJ (bQ k h)<=10:=by
 have q:=Ks (aG h);have r:bM (rs h)=true/\bp (rs h)<=9:=by
  cases h with
  | set x t=>obtain ⟨a,b⟩:=lW hp.2;have:=hp.1;simp [rs,bM,eS,bp,bJ,a,this];omega
  | put a b=>obtain ⟨a1,b1⟩:=lW hp.1;obtain ⟨a2,b2⟩:=lW hp.2;simp [rs,bM,bp,a1,a2];omega
  | tell t=>obtain ⟨a,b⟩:=lW hp;simp [rs,bM,bp,a];omega
  | ret t=>obtain ⟨a,b⟩:=lW hp;simp [rs,bM,bp,a];omega
  | join x j t=>obtain ⟨a,b⟩:=lW hp.2.2;have:=hp.1;have:=hW j hp.2.1;simp [rs,bM,eS,bp,bJ, *];omega
  | call x f ts=>
   have a:bM (ts.map tw)=true:=gN λ d hd=>by obtain ⟨t,h1,rfl⟩:=List.mem_map.mp hd;exact (lW (hp.2.2.2 t h1)).1
   have b:bp (ts.map tw)<=8:=gX λ d hd=>by obtain ⟨t,h1,rfl⟩:=List.mem_map.mp hd;exact (lW (hp.2.2.2 t h1)).2
   have:=hp.1;have:=hF f hp.2.1;simp [rs,bM,eS,bp,bJ, *] <;> omega
  | ifs t l=>exact absurd hb (sQ t l).1
  | whl t l=>exact absurd hb (sQ t l).2
  | _=>exact ⟨rfl,Nat.zero_le _⟩
 refine ⟨by simp [bQ,eS,bM,q,r.1],?_⟩;have:=r.2;simp [bQ,bJ,bp];omega
theorem B7 {fo:DS->Option W} {δ:DS} {S:ai} {l:Nat} {q:List W} {y:W} (h1:fo δ=some (.ref l)) (h2:S[l]?=some (.lst (q++[y]))):Bp (ab fo) δ S=some (.ok y,S.set l (.lst q)):=by
 simp [Bp,ab,h1,au,fX h2]
noncomputable def tW (ops:W) (line:Int) (main:Bool) (body h p:Nat) (s6 s7:Sl):DS:=[.val ops,.val (.int line),.val (.bool main),.val (.ref body),.val (.ref h),.val (.ref p),s6,s7]
theorem FY (a:W) (l:Int) (r:List W) (h:r.length<=100):bw (.tuple [a,.int l]) (.tuple r)=some (.tuple (a::.int l::r)):=if_pos ⟨by simp,sz _ (by simp;omega)⟩
theorem BV {fo fi fv:DS->ai->SM W} {δ:DS} {S S1:ai} {l:Nat} {es:List W} {d:W} {k:Nat} (h1:fv δ S=some (.ok d,S1)) (h2:fo δ S1=some (.ok (.ref l),S1)) (h3:fi δ S1=some (.ok (.int (k:Int)),S1)) (h4:S1[l]?=some (.lst es)) (h5:k<es.length):rc fo fi fv δ S=some (.nx δ,S1.set l (.lst (es.set k d))):=by
 have i:rO es.length (k:Int)=some k:=by
  unfold rO;rw [if_pos (by omega),if_pos (by omega)];simp
 simp only [rc,h1,m9,h2,h3,fX h4,Option.bind_some,z8,i,Option.map_some]
section
variable {o:Int} {FN WD:List Str} {body p K0:Nat} {S:ai} {F:Nat->Option (List W)} {fs:List Fr} {h n:Nat} {ops:W} {main:Bool}
theorem DC:∀ (wh:Bool) (t:Tr) (bs:List W),iB o t 7 6->PP o FN WD wh (.whl t bs)/\PP o FN WD wh (.ifs t bs):=λ _ _ _ g=>⟨g,g⟩
theorem IE {h:Hd} {wh:Bool} (hp:PP o FN WD true h) (hb:aG h=4∨aG h=5->wh=true):PP o FN WD wh h:=by
 cases h with
 | brk=>exact hb (.inl rfl)
 | agn=>exact hb (.inr rfl)
 | _=>exact hp
theorem wK {h:Hd} (hb:jH h=some []):aG h≠10/\aG h≠11:=by
 cases h with
 | ifs t l=>exact absurd hb (sQ t l).1
 | whl t l=>exact absurd hb (sQ t l).2
 | _=>exact ⟨λ z=>Bool.noConfusion (show false=true from decide_eq_true z),λ z=>Bool.noConfusion (show false=true from decide_eq_true z)⟩
theorem ES {h:Hd} (hb:jH h=some []):(rs h).length<=100:=by
 cases h with
 | ifs t l=>exact absurd hb (sQ t l).1
 | whl t l=>exact absurd hb (sQ t l).2
 | _=>exact of_decide_eq_true rfl
theorem A4 (hFN:∀ f∈FN,PyData.strOk f=true) (hWD:∀ f∈WD,PyData.strOk f=true) (v:LV (PP o FN WD) o S F body p K0 fs h n) (hK:K0<=S.length) (hn:n<800) (line:Int) (op:Op) (ho:A5 o FN WD op) (s7:Sl):
 ∃ S' F' fs' h' line' s7' n',(cW (tW ops line main body h p (.val (dE op)) s7) S=some (.nx (tW ops line' main body h' p (.val (dE op)) s7'),S')∨cW (tW ops line main body h p (.val (dE op)) s7) S=some (.ct (tW ops line' main body h' p (.val (dE op)) s7'),S'))/\LV (PP o FN WD) o S' F' body p K0 fs' h' n'/\n'<=n+1/\K0<=S'.length/\(∀ k,k<K0->S'[k]?=S[k]?)/\(op=.fin->fs'=fs.tail/\n'=n):=by
 have z6:=sz 6 (by decide);have fl:=v.fl;have ho':∀ h,op=.st h->aG h≠10/\aG h≠11:=λ h e=>by subst e;exact wK ho.1
 have mr:=Cm v.hp (LI.frames fs h n v.li) (by omega) main op ho';let δ (ln:Int) (h:Nat) (s7:Sl):DS:=tW ops ln main body h p (.val (dE op)) s7;have c0:uE (uN (cf bB (ab (aa (ac 6) (aa (ac 5) (aa (ac 2) af)))))) (δ line h s7) S=some (.ok (!tU main fs op),S):=by
  have c:cf bB (ab (aa (ac 6) (aa (ac 5) (aa (ac 2) af)))) (δ line h s7) S=some (.ok (.bool (tU main fs op)),S):=br (S1:=S) (ds:=[dE op,.ref p,.bool main]) rfl mr;simp only [uE,uN,c,au,lq,rX,Option.map_some]
 by_cases hm:tU main fs op=true
 case neg=>
  have hm:tU main fs op=false:=by simpa using hm
  rw [hm] at c0;refine ⟨S,F,fs,h,line,s7,n,.inr ?_,v,by omega,hK,λ _ _=>rfl,λ e=>?_⟩
  . have:cv (uE (uN (cf bB (ab (aa (ac 6) (aa (ac 5) (aa (ac 2) af))))))) (aQ qk) (aQ aC) (δ line h s7) S=some (.ct (δ line h s7),S):=(d5 c0).trans rfl;show aD _ _ _ _=_;unfold aD;rw [this]
  . subst e;cases fs with
    | nil=>exact ⟨rfl,rfl⟩
    | cons f fs=>simp [tU] at hm
 rw [hm] at c0;have pre:∀ {g:DS->ai->SO} {r:SO},g (δ (line+1) h s7) S=r->aD (cv (uE (uN (cf bB (ab (aa (ac 6) (aa (ac 5) (aa (ac 2) af))))))) (aQ qk) (aQ aC)) (aD (aQ (aB (ao bw (ak 1) (dC (.int (1)))) (ae 1))) g) (δ line h s7) S=r:=λ {g r} e=>
  (ag (δ':=δ line h s7) (S':=S) ((bR c0).trans rfl)).trans ((ag (δ':=δ (line+1) h s7) (S':=S) (b6 rfl)).trans e)
 cases op with
 | st hd=>
  obtain ⟨hb,hp⟩:=ho;have a0:ao aR (ak 6) (dC (.int (0))) (δ (line+1) h s7)=some (.str (cS (aG hd))):=x0 rfl;have q:=k2 (aG hd);have q':=kq (aG hd);have cl:=wK hb;obtain ⟨ok1,ok2⟩:=Hz hFN hWD (line+1) hb hp;obtain ⟨ws,w1,w2,w3⟩:=v.add;obtain ⟨v',k'⟩:=w3 (bQ (line+1) hd) (line+1) hd 1 (rY _ _ _ ok1 (by omega)) (.lf (IE hp λ z=>by
   have:=hm;simp only [tU,if_pos z] at this;exact this) hb)
  refine ⟨_,F,fs,h,line+1,s7,n+1,.inl (pre ?_),v',Nat.le_refl _,by simpa using hK,k',λ e=>by cases e⟩;refine (bR (S1:=S) (az (by rw [tD a0,q.2.2.2]))).trans ?_;refine (bR (S1:=S) (az (by rw [tD a0,q.2.2.1]))).trans ?_;refine (bR (S1:=S) (az (F8 (by rw [tD a0,q'.2.1,decide_eq_false cl.1]) (by rw [tD a0,q'.1,decide_eq_false cl.2])))).trans ?_;refine fg rfl w1 (az ?_) (by omega);have t1:aF (aa (ao aR (ak 6) (dC (.int (0)))) (aa (ac 1) af)) (δ (line+1) h s7)=some (.tuple [.str (cS (aG hd)),.int (line+1)]):=qf a0 rfl;have t2:oa (ac 6) (dP (dC (.int (1)))) dr (δ (line+1) h s7)=some (.tuple (rs hd)):=by
   first | rfl | simp! [δ,tW,dE,oa,uD,zm]
  exact dO t1 t2 (FY _ _ _ (ES hb))
 | opn wh t=>
  have a0:ao aR (ak 6) (dC (.int (0))) (δ (line+1) h s7)=some (.str (cS (mJ wh))):=x0 rfl;have a1:ao aR (ak 6) (dC (.int (1))) (δ (line+1) h s7)=some (tw t):=x1 rfl;have q:=k2 (mJ wh);have h5:fs.length<5:=of_decide_eq_true hm;have v':=v.opn hK h5 wh (line+1) t ho;let f:Fr:=⟨S.length+1,wh,line+1,t,h,S.length,none⟩
  let S1:ai:=S++[Ob.lst []];let S2:ai:=S1++[Ob.lst (n4 f)];refine ⟨S2.set p (.lst (cC (f::fs))),F,f::fs,S.length,line+1,.val (.ref (S.length+1)),n+1,.inl (pre ?_),v',Nat.le_refl _,by simp [S2,S1];omega,λ k hk=>?_,λ e=>by cases e⟩
  . refine (bR (S1:=S) (az (by rw [tD a0,q.2.2.2]))).trans ?_;refine (bR (S1:=S) (az (by rw [tD a0,q.2.2.1]))).trans ?_;have tt:pC (av bZ (ao aR (ak 6) (dC (.int (0)))) (dC (.str "if"))) (av bZ (ao aR (ak 6) (dC (.int (0)))) (dC (.str "while"))) (δ (line+1) h s7)=some true:=by
     have i1:=tD (b:=Str.ofString "if") a0;have i2:=tD (b:=Str.ofString "while") a0;rw [(kO wh).2] at i1;rw [(kO wh).1] at i2;cases wh with
     | true=>exact Ey i1 i2
     | false=>exact Fv i1
    refine (d5 (S1:=S) (az tt)).trans ?_;have le:fz (ab af) (δ (line+1) h s7) S=some (.ok (.ref S.length),S1):=rfl;have ar:=bH (S:=S) (az a0) (bH (f:=ab (ac 1)) (δ:=δ (line+1) h s7) (d:=.int (line+1)) rfl (bH (S:=S) (az a1) (bH (f:=ab (ac 4)) (d:=.ref h) rfl (bH le (bH (f:=ab (dC .none)) (g:=dL) (d:=.none) rfl rfl)))));refine (ag (δ':=δ (line+1) h (.val (.ref (S.length+1)))) (S':=S2) (bU (d:=.ref (S.length+1)) ?_ rfl)).trans ?_
    . simp only [fz] at ar ⊢;rw [ar];simp only [au,List.length_cons,List.length_nil,if_pos z6];simp [S1,S2,n4,f,bW]
    have hp2:S2[p]?=some (.lst (cC fs)):=bF (bF v.hp);have g1:S2[S.length+1]?=some (.lst (n4 f)):=by have:=cZ S1 (Ob.lst (n4 f));simpa [S1,S2] using this
    have pb:=v.bnd p (by simp);refine (ag (fg rfl hp2 rfl (by simp [cC];omega))).trans ?_;have pe:cC fs++[.ref (S.length+1)]=cC (f::fs):=by simp [cC,f]
    rw [pe];exact bU (y8 (i:=4) (fo:=ab (ac 7)) rfl (set_ne' g1 (by omega)) (vU _ _ _ _ _ _)) rfl
  . have pb:=v.lo p (by simp);rw [List.getElem?_set_ne (by omega),List.getElem?_append_left (by simp [S1];omega),List.getElem?_append_left (by omega)]
 | fin=>
  have a0:ao aR (ak 6) (dC (.int (0))) (δ (line+1) h s7)=some (.str "end"):=x0 rfl;cases fs with
  | nil=>simp [tU] at hm
  | cons f fs=>
   obtain ⟨F',n3,c,k,hd,v1,r1,g1,e1,hf⟩:=v.fin DC;let S1:ai:=S.set p (.lst (cC fs));obtain ⟨ws,w1,w2,w3⟩:=v1.add;obtain ⟨v2,k2'⟩:=w3 (HB f) k hd c r1 g1;have pf:p≠f.id:=λ z=>by have:=v.nd;simp only [lB,List.nodup_cons,List.mem_cons,not_or] at this;exact this.1.2.1 z
   have hf1:S1[f.id]?=some (.lst (n4 f)):=set_ne' hf pf;have pl:=v.lo p (by simp);refine ⟨_,F',fs,f.up,line+1,.val (.ref f.id),n3+c,.inl (pre ?_),v2,by omega,by simpa using hK,λ k hk=>(k2' k hk).trans (List.getElem?_set_ne (by omega)),λ _=>⟨rfl,e1.symm⟩⟩;refine (d5 (S1:=S) (az (by rw [tD a0];simp))).trans ?_;have hp':S[p]?=some (.lst (cC fs++[.ref f.id])):=by rw [v.hp];simp [cC]
   refine (ag (δ':=δ (line+1) h (.val (.ref f.id))) (S':=S1) (bU (B7 rfl hp') rfl)).trans ?_;refine (ag (δ':=δ (line+1) f.up (.val (.ref f.id))) (S':=S1) (bU (y8 (i:=3) (fo:=ab (ac 7)) rfl hf1 (A7 _ _ _ _ _)) rfl)).trans ?_;exact fg rfl w1 (br (S1:=S1) (ds:=[.ref f.id]) rfl (Cu hf1)) (by omega)
 | els=>
  have a0:ao aR (ak 6) (dC (.int (0))) (δ (line+1) h s7)=some (.str "else"):=x0 rfl;cases fs with
  | nil=>simp [tU] at hm
  | cons f fs=>
   have hm':f.wh=false/\f.b=none:=by simpa [tU] using hm
   obtain ⟨F',v'⟩:=v.els hK hm'.2 hm'.1;have hf:=LI.frames _ h n v.li f (by simp);let S1:ai:=S++[Ob.lst []];have fb:=v.bnd f.id (by simp [lB]);have fo:=v.lo f.id (by simp [lB]);refine ⟨_,F',{ f with b:=some S.length }::fs,S.length,line+1,.val (.ref f.id),n,.inl (pre ?_),v',by omega,by simp;omega,λ k hk=>?_,λ e=>by cases e⟩
   . refine (bR (S1:=S) (az (by rw [tD a0,kE.2.2.2.2.2]))).trans ?_;refine (d5 (S1:=S) (az (by rw [tD a0];simp))).trans ?_;have hp':S[p]?=some (.lst (cC fs++[.ref f.id])):=by rw [v.hp];simp [cC]
     refine (ag (δ':=δ (line+1) h (.val (.ref f.id))) (S':=S) (bU (KC (fo:=ab (ac 5)) rfl hp') rfl)).trans ?_;have le:fz (ab af) (δ (line+1) h (.val (.ref f.id))) S=some (.ok (.ref S.length),S1):=rfl;have st:=BV (fo:=ab (ac 7)) (fi:=ab (dC (.int (5)))) (k:=5) le rfl rfl (bF hf) (by simp [n4]);have fe:(n4 f).set 5 (.ref S.length)=n4 { f with b:=some S.length }:=by simp [n4,bW]
     rw [fe] at st;refine (ag st).trans ?_;exact bU (y8 (i:=5) (fo:=ab (ac 7)) rfl (set_eq' (bF hf)) (Kw _ _ _ _ _ _ _)) rfl
   . rw [List.getElem?_set_ne (by omega),List.getElem?_append_left (by omega)]
end
theorem vw {h:W->DS->Option DS} {fb:DS->ai->SO} {d:W} {ds:List W} {δ δ2 δ':DS} {S S':ai} (h1:h d δ=some δ2) (h2:fb δ2 S=some (.ct δ',S')):bY h fb (d::ds) δ S=bY h fb ds δ' S':=by
 show (h d δ).bind _=_;rw [h1];show (match fb δ2 S with | some (.nx δ',S')=>_ | some (.ct δ',S')=>_ | some (.bk δ',S')=>_ | some (.rt d,S')=>_ | some (.xc c,S')=>_ | none=>_)=_;rw [h2]
section
variable {o:Int} {FN WD:List Str} {body p K0:Nat} {ops:W} {main:Bool}
theorem nN (hFN:∀ f∈FN,PyData.strOk f=true) (hWD:∀ f∈WD,PyData.strOk f=true):∀ (l:List Op) (S:ai) (F:Nat->Option (List W)) (fs:List Fr) (h n:Nat) (line:Int) (s6 s7:Sl),LV (PP o FN WD) o S F body p K0 fs h n->K0<=S.length->(∀ op∈l,A5 o FN WD op)->n+l.length<800->
 ∃ S' F' fs' h' line' s6' s7' n',(∀ aW,bY (ae 6) cW (l.map dE++aW) (tW ops line main body h p s6 s7) S=bY (ae 6) cW aW (tW ops line' main body h' p s6' s7') S')/\LV (PP o FN WD) o S' F' body p K0 fs' h' n'/\n'<=n+l.length/\K0<=S'.length/\(∀ k,k<K0->S'[k]?=S[k]?)/\((∀ op∈l,op=.fin)->fs'.length=fs.length-l.length/\n'=n)
 | [],S,F,fs,h,n,line,s6,s7,v,hK,_,_=>⟨S,F,fs,h,line,s6,s7,n,λ _=>rfl,v,Nat.le_refl _,hK,λ _ _=>rfl,λ _=>⟨rfl,rfl⟩⟩
 | op::l,S,F,fs,h,n,line,s6,s7,v,hK,ho,hl=>by
  simp only [List.length_cons] at hl;obtain ⟨S1,F1,fs1,h1,line1,t7,n1,e1,v1,b1,k1,f1,q1⟩:=A4 (ops:=ops) (main:=main) hFN hWD v hK (by omega) line op (ho op (by simp)) s7;obtain ⟨S',F',fs',h',line',u6,u7,n',e2,v2,b2,k2,f2,q2⟩:=nN hFN hWD l S1 F1 fs1 h1 n1 line1 (.val (dE op)) t7 v1 k1 (λ o ho'=>ho o (by simp [ho'])) (by omega);refine ⟨S',F',fs',h',line',u6,u7,n',?_,v2,by simp only [List.length_cons];omega,k2,λ k hk=>(f2 k hk).trans (f1 k hk),λ hf=>?_⟩
  . intro aW;rw [List.map_cons,List.cons_append];rcases e1 with e1 | e1
    . exact (db (δ2:=tW ops line main body h p (.val (dE op)) s7) rfl e1).trans (e2 aW)
    . exact (vw (δ2:=tW ops line main body h p (.val (dE op)) s7) rfl e1).trans (e2 aW)
  . obtain ⟨a,b⟩:=q2 λ o ho'=>hf o (by simp [ho']);obtain ⟨c,d⟩:=q1 (hf op (by simp));rw [a,c,List.length_tail,List.length_cons];omega
end
theorem Dt {S:ai} {k:Nat} {ds:List W} (h:S[k]?=some (.lst ds)):Gk S k=some ds:=by unfold Gk;rw [h]
theorem yE {o:Int} {FN WD:List Str} (hFN:∀ f∈FN,PyData.strOk f=true) (hWD:∀ f∈WD,PyData.strOk f=true) (S:ai) (lo:Nat) (l:List Op) (hlo:S[lo]?=some (.lst (l.map dE))) (ho:∀ op∈l,A5 o FN WD op) (hl:l.length<=70) (line:Int) (main:Bool):∃ S' b cs c la,jk [.ref lo,.int line,.bool main] S=some (.ok (.tuple [.ref b,.int la]),S')/\(∃ G:Nat->Option (List W),(∀ k ds,G k=some ds->S.length<=k/\S'[k]?=some (.lst ds))/\rW G 28 (.ref b)=some (.list (cO cs)))/\gK (PP o FN WD) 5 false cs c/\c<=l.length/\S.length<=S'.length/\∀ k,k<S.length->S'[k]?=S[k]?:=by
 let S0:ai:=S++[Ob.lst []]++[Ob.lst []];have g0:S0[S.length]?=some (.lst []):=bF (cZ _ _);have g1:S0[S.length+1]?=some (.lst []):=by have:=cZ (S++[Ob.lst []]) (Ob.lst []);simpa [S0] using this
 have v0:LV (PP o FN WD) o S0 (λ _=>none) S.length (S.length+1) S.length [] S.length 0:=
  ⟨⟨rfl,[],g0,[],rfl,.nil⟩,g1,by simp [lB],λ _ _=>rfl,(λ k ds hk=>by cases hk),(λ k hk=>by simp [lB] at hk;omega),by simp,(λ k ds hk=>by cases hk)⟩
 let fin5:List Op:=[.fin,.fin,.fin,.fin,.fin]
 obtain ⟨S1,F1,fs1,h1,line1,t6,t7,n1,e1,v1,b1,k1,f1,_⟩:=nN (ops:=.ref lo) (main:=main) hFN hWD l S0 _ [] S.length 0 line .no .no v0 (by simp [S0]) ho (by omega);obtain ⟨S2,F2,fs2,h2,line2,u6,u7,n2,e2,v2,b2,k2,f2,q2⟩:=nN (ops:=.ref lo) (main:=main) hFN hWD fin5 S1 F1 fs1 h1 n1 line1 t6 t7 v1 k1 (λ op hop=>by simp [fin5] at hop;subst hop;trivial) (by simp [fin5];omega);obtain ⟨q3,q4⟩:=q2 (λ op hop=>by simpa [fin5] using hop);have fl:=v1.fl;have e0:fs2=[]:=List.eq_nil_of_length_eq_zero (by rw [q3];simp [fin5];omega);subst e0;obtain ⟨eb,ws,w1,cs,w2,w3⟩:=v2.li;subst eb;refine ⟨S2,S.length,cs,n2,line2+1,?_,?_,w3,by omega,k2,λ k hk=>?_⟩
 . refine (aY rfl).trans ((congrArg dY (?_:_=some (.rt (.tuple [.ref S.length,.int (line2+1)]),S2))).trans rfl);refine (ag (δ':=[.val (.ref lo),.val (.int line),.val (.bool main),.val (.ref S.length),.no,.no,.no,.no]) (S':=S++[Ob.lst []]) (bU (d:=.ref S.length) rfl rfl)).trans ?_;refine (ag (δ':=[.val (.ref lo),.val (.int line),.val (.bool main),.val (.ref S.length),.val (.ref S.length),.no,.no,.no]) (S':=S++[Ob.lst []]) (b6 rfl)).trans ?_;refine (ag (δ':=tW (.ref lo) line main S.length S.length (S.length+1) .no .no) (S':=S0) (bU (d:=.ref (S.length+1)) (by show some (Rs.ok (W.ref (S++[Ob.lst []]).length),_)=_;rw [List.length_append];rfl) rfl)).trans ?_;have hlo0:S0[lo]?=some (.lst (l.map dE)):=bF (bF hlo);have it:wz (vT (ab (ac 0)) (ab (aT (B2 (bn (aa (aF (aa (dC (.str "end")) af)) af)) (dC (.int (5))))))) (tW (.ref lo) line main S.length S.length (S.length+1) .no .no) S0=some (.ok (l.map dE++fin5.map dE),S0):=by
    have r:aT (B2 (bn (aa (aF (aa (dC (.str "end")) af)) af)) (dC (.int (5)))) (tW (.ref lo) line main S.length S.length (S.length+1) .no .no)=some (.list (fin5.map dE)):=rfl;have v0:ab (ac 0) (tW (.ref lo) line main S.length S.length (S.length+1) .no .no) S0=some (.ok (.ref lo),S0):=rfl;have ga:zE (.ref lo) (.list (fin5.map dE)) S0=some (.list (l.map dE++fin5.map dE)):=by
     simp only [zE,fX hlo0,Option.bind_some,ju];exact if_pos (by simp [fin5];omega)
    simp only [wz,vT,v0,az r,au,ga,lq,Option.map_some];rfl
   have both:bY (ae 6) cW (l.map dE++fin5.map dE) (tW (.ref lo) line main S.length S.length (S.length+1) .no .no) S0=some (.nx (tW (.ref lo) line2 main S.length S.length (S.length+1) u6 u7),S2):=by
    have e3:=e2 [];rw [List.append_nil] at e3;exact (e1 _).trans e3
   refine (ag ((gg it).trans both)).trans ?_;exact pQ (ay (qf rfl rfl))
 . have n0:=v2.nf S.length (by simp);refine ⟨mG F2 S.length ws,λ k ds hk=>?_,om (by simp [mG]) (fJ (λ d e=>iy (uH n0) _ _ d e (by omega)) _ _ w2)⟩;unfold mG at hk;split at hk
   . rename_i z;cases hk;subst z;exact ⟨Nat.le_refl _,w1⟩
   . exact ⟨v2.lf k ds hk,v2.hF k ds hk⟩
 . rw [f2 k hk,f1 k hk,List.getElem?_append_left (by simp;omega),List.getElem?_append_left hk]
theorem Hy (k:Nat) (h:k<4):∃ m:Int,fG [W.int 1,.int 42,.int 1764,.int 74088] (k:Int)=some (.int m)/\0<m/\m<2^64:=by
 obtain ⟨m,hm,e⟩:=gc W.int [1,42,1764,74088] (Int.natCast_nonneg k) (Int.ofNat_lt.mpr h);exact ⟨m,e,(show ∀ m∈[(1:Int),42,1764,74088],0<m/\m<2^64 by decide) m hm⟩
theorem HJ (i:Int) (h0:0<=i) (h1:i<7):∃ n:Nat,fG [W.int 0,.int 0,.int 1,.int 1,.int 2,.int 3,.int 6] i=some (.int (n:Int))/\n<=6:=by
 obtain ⟨n,hn,e⟩:=gc (λ n:Nat=>W.int n) [0,0,1,1,2,3,6] h0 h1;exact ⟨n,e,(show ∀ n∈[0,0,1,1,2,3,6],n<=6 by decide) n hn⟩
section
variable {N V:List Str}
theorem ww (hV:V.length=6) (dg:Int):∀ (n:Nat) (lo:Int),∃ xs:List Str,xs.length=n/\(∀ x∈xs,x∈V)/\b0 (ae 2) jv (ao aR (ak 0) (ao bf (ao bw (ao bC (ak 1) (dC (.int (7)))) (ac 2)) (dC (.int (6))))) [.val (.list (V.map .str)),.val (.int dg),.no] (gf lo n)=some (xs.map .str)
 | 0,lo=>⟨[],rfl,(λ x hx=>absurd hx List.not_mem_nil),rfl⟩
 | n+1,lo=>by
  obtain ⟨xs,l,h,e⟩:=ww hV dg n (lo+1);obtain ⟨x,hx,ex⟩:=sn V hV (dg.fdiv 7+lo);refine ⟨x::xs,by simp [l],λ y hy=>?_,?_⟩
  . rcases List.mem_cons.mp hy with rfl | hy
    . exact hx
    . exact h y hy
  . rw [gO];first | rfl | simp +decide only [b0,uD,Nat.reduceAdd,Nat.reduceSub,reduceIte,Nat.reduceEqDiff,List.replicate,ex,e,List.map_cons]
theorem wJ (hN:N.length=6) (hV:V.length=6) (hn:∀ x∈N,PyData.strOk x=true) (hv:∀ x∈V,PyData.strOk x=true) (head:Int) (s3:Sl):∀ (n lo:Nat) (R:List Rm) (s5 s6 s7:Sl),lo+n<=4->R.length=lo->(∀ r∈R,PyData.strOk r.1=true/\(∀ x∈r.2,PyData.strOk x=true)/\r.2.length<=6)->∃ (R':List Rm) (t5 t6 t7:Sl),R'.length=lo+n/\(∀ r∈R',PyData.strOk r.1=true/\(∀ x∈r.2,PyData.strOk x=true)/\r.2.length<=6)/\be (ae 5) jm (gf (lo:Int) n) [.val (.int head),.val (.list (N.map .str)),.val (.list (V.map .str)),s3,.own (R.map dJ),s5,s6,s7]=some (.nx [.val (.int head),.val (.list (N.map .str)),.val (.list (V.map .str)),s3,.own (R'.map dJ),t5,t6,t7])
 | 0,lo,R,s5,s6,s7,_,hl,hR=>⟨R,s5,s6,s7,hl,hR,rfl⟩
 | n+1,lo,R,s5,s6,s7,h4,hl,hR=>by
  obtain ⟨m,em,m0,m1⟩:=Hy lo (by omega);let dg:Int:=(head.fdiv 64).fdiv m;have gd1:bC (.int (head.fdiv 64)) (.int m)=some (.int dg):=uI (ni m0 m1);have hm:=di dg (j:=7) (by decide);obtain ⟨c,ec,hc⟩:=HJ _ hm.1 hm.2;obtain ⟨xs,lx,hx,ex⟩:=ww hV dg c 0;have ln:lo<N.length:=by omega
  have en:fG (N.map W.str) (lo:Int)=some (.str N[lo]):=by
   rw [BU _ lo (by simpa using ln),List.getElem?_map,List.getElem?_eq_getElem ln];rfl
  let r:Rm:=(N[lo],xs)
  obtain ⟨R',t5,t6,t7,l',h',e'⟩:=wJ hN hV hn hv head s3 n (lo+1) (R++[r]) (.val (.int (lo:Int))) (.val (.int dg)) (.val (.int (c:Int))) (by omega) (by simp [hl]) (λ q hq=>by
   rcases List.mem_append.mp hq with hq | hq
   . exact hR q hq
   . rw [List.mem_singleton.mp hq];exact ⟨hn _ (List.getElem_mem ln),λ x h=>hv x (hx x h),by show xs.length<=6;omega⟩)
  refine ⟨R',t5,t6,t7,by omega,h',?_⟩;rw [gO];let δ (s6 s7:Sl) (l:List W):DS:=[.val (.int head),.val (.list (N.map .str)),.val (.list (V.map .str)),s3,.own l,.val (.int (lo:Int)),s6,s7]
  refine jE (δ2:=δ s6 s7 (R.map dJ)) rfl ?_ e';refine ah (δ1:=δ (.val (.int dg)) s7 (R.map dJ)) (aS (dO rfl (mN (l:=[W.int 1,.int 42,.int 1764,.int 74088]) rfl rfl em) gd1) rfl) ?_;refine ah (δ1:=δ (.val (.int dg)) (.val (.int (c:Int))) (R.map dJ)) (aS (mN (l:=[W.int 0,.int 0,.int 1,.int 1,.int 2,.int 3,.int 6]) rfl rfl ec) rfl) ?_;have r1:kT (aa (ac 7) af) (δ (.val (.int dg)) (.val (.int (c:Int))) (R.map dJ))=some (gf 0 c):=iQ (n:=c) rfl (by omega);exact (Ko rfl (qf (mN rfl rfl en) (IG r1 (by simp [gf];omega) ex)) (by rw [List.length_map];omega)).trans (by rw [List.map_append];rfl)
theorem xg (hN:N.length=6) (hV:V.length=6) (hn:∀ x∈N,PyData.strOk x=true) (hv:∀ x∈V,PyData.strOk x=true) (head:Int):∃ R:List Rm,i3 [.int head,.list (N.map .str),.list (V.map .str)]=some (.list (R.map dJ))/\0<R.length/\R.length<=4/\∀ r∈R,Gu (R.map (·.1)) r:=by
 have h4:=di head (j:=4) (by decide);obtain ⟨m,hm⟩:∃ m:Nat,1+head.fmod 4=(m:Int):=⟨(1+head.fmod 4).toNat,by omega⟩
 obtain ⟨R,t5,t6,t7,l,h,e⟩:=wJ hN hV hn hv head (.val (.int (m:Int))) m 0 [] .no .no .no (by omega) rfl (λ r hr=>absurd hr List.not_mem_nil);have hj:=di (head.fdiv 4) (j:=(m:Int)) (by omega);obtain ⟨j,ej⟩:∃ j:Nat,(head.fdiv 4).fmod (m:Int)=(j:Int):=⟨((head.fdiv 4).fmod (m:Int)).toNat,by omega⟩
 let mn:Rm:=(Str.ofString "main", [])
 have md:bf (.int (head.fdiv 4)) (.int (m:Int))=some (.int (j:Int)):=by rw [<-ej];exact nB (by simp only [ke,decide_eq_true_eq];omega)
 have ix:rO (R.map dJ).length (j:Int)=some j:=by
  unfold rO;rw [if_pos (by omega),if_pos (by simp;omega)];simp
 have es:(R.map dJ).set j (dJ mn)=(R.set j mn).map dJ:=by rw [List.map_set]
 have mo:PyData.strOk (Str.ofString "main")=true:=by decide +kernel
 refine ⟨R.set j mn,?_,by simp;omega,by simp;omega,λ r hr=>?_⟩
 . refine aU rfl ?_;refine ah (δ1:=[.val (.int head),.val (.list (N.map .str)),.val (.list (V.map .str)),.val (.int (m:Int)),.no,.no,.no,.no]) (aS ((rfl:_=some (W.int (1+head.fmod 4))).trans (by rw [hm])) rfl) ?_;refine ah (δ1:=[.val (.int head),.val (.list (N.map .str)),.val (.list (V.map .str)),.val (.int (m:Int)),.own (([]:List Rm).map dJ),.no,.no,.no]) rfl ?_;refine ah (fA (ds:=gf 0 m) (iQ (n:=m) rfl (by omega)) e) ?_;refine ah (δ1:=[.val (.int head),.val (.list (N.map .str)),.val (.list (V.map .str)),.val (.int (m:Int)),.own ((R.set j mn).map dJ),t5,t6,t7]) ?_ rfl;have tv:aF (aa (dC (.str "main")) (aa (aT (bn af)) af)) [.val (.int head),.val (.list (N.map .str)),.val (.list (V.map .str)),.val (.int (m:Int)),.own (R.map dJ),t5,t6,t7]=some (dJ mn):=qf rfl rfl;have ow:kB 4 [.val (.int head),.val (.list (N.map .str)),.val (.list (V.map .str)),.val (.int (m:Int)),.own (R.map dJ),t5,t6,t7]=some (R.map dJ):=rfl;have iv:ao bf (ao bC (ak 0) (dC (.int (4)))) (ac 3) [.val (.int head),.val (.list (N.map .str)),.val (.list (V.map .str)),.val (.int (m:Int)),.own (R.map dJ),t5,t6,t7]=some (.int (j:Int)):=dO rfl rfl md;simp only [rh,tv,ow,iv,Option.bind_some,ix,Option.map_some,es];rfl
 . have hr':r∈R∨r=mn:=(List.mem_or_eq_of_mem_set hr).imp id id;have q:PyData.strOk r.1=true/\(∀ x∈r.2,PyData.strOk x=true)/\r.2.length<=6:=by
    rcases hr' with hr' | rfl
    . exact h r hr'
    . exact ⟨mo,(λ x hx=>absurd hx List.not_mem_nil),by simp [mn]⟩
   exact ⟨q.1,q.2.1,q.2.2,λ _=>List.mem_map.mpr ⟨r,hr,rfl⟩⟩
theorem yw (hN:N.length=6) (hn:∀ x∈N,gi x) (head:Int):∃ V:List Str,cx [.int head,.list (N.map .str)]=some (.list (V.map .str))/\V.length=6/\∀ x∈V,gi x:=by
 have z1:=sz 1 (by decide);by_cases h:(head.fdiv 1000000000).fmod 4=1
 . have e:=decide_eq_true h;have cu:i7 (N.map W.str) none (some 5)=(N.take 5).map .str:=by
    have:i7 (N.map W.str) none (some 5)=i7 (N.map W.str) (some ((0:Nat):Int)) (some ((5:Nat):Int)):=rfl;rw [this,Ex];simp [List.map_take]
   have ma:gi (Str.ofString "main"):=by unfold gi;decide +kernel
   have ga:bw (.list ((N.take 5).map W.str)) (.list [.str "main"])=some (.list ((N.take 5++[Str.ofString "main"]).map .str)):=by
    rw [o7 (sz _ (by simp;omega))];simp
   refine ⟨N.take 5++[Str.ofString "main"],?_,by simp;omega,λ x hx=>?_⟩
   . first | rfl | simp +decide only [cx,uD,Nat.reduceAdd,Nat.reduceSub,reduceIte,Nat.reduceEqDiff,List.replicate,HU,e,cu,if_pos z1,ga]
   . rcases List.mem_append.mp hx with hx | hx
     . exact hn x (List.mem_of_mem_take hx)
     . rw [List.mem_singleton.mp hx];exact ma
 . have e:=decide_eq_false h;have zn:(N.map W.str).length<=sizeLine:=sz _ (by simp;omega);refine ⟨N,?_,hN,hn⟩;first | rfl | simp +decide only [cx,uD,Nat.reduceAdd,Nat.reduceSub,reduceIte,Nat.reduceEqDiff,List.replicate,fB,HU,e,if_pos zn]
end
structure yO where
 nm:Str
 ps:List Str
 bd:List Bk
 ln:Int
 la:Int
noncomputable def BQ (q:yO):W:=.tuple [.str q.nm,.list (q.ps.map .str),.list (cO q.bd),.int q.ln,.int q.la]
noncomputable def rf (OL:List (List Op)):ai:=OL.map λ l=>.lst (l.map dE)
theorem vz:∀ (R:List Rm) (S:ai),cj (ae 0) (ab jv) (fz (ab af)) [.no] (R.map dJ) S=some (.ok ((List.range' S.length R.length).map .ref),S++List.replicate R.length (.lst []))
 | [],S=>by simp [cj]
 | r::R,S=>by
  have z0:=sz 0 (by decide);have ih:=vz R (S++[Ob.lst []]);have:=qC (ae 0) (fz (ab af)) [.no] [.val (dJ r)] (dJ r) (.ref S.length) (R.map dJ) _ S (S++[Ob.lst []]) _ rfl (by first | rfl | simp! [uS,uD,if_pos z0]) ih;rw [List.map_cons,this];simp [List.range'_succ,List.replicate_succ]
theorem zZ {k n:Nat} (h:k<n):fG ((List.range' 0 n).map W.ref) (k:Int)=some (.ref k):=by
 rw [BU _ k (by simp;omega),List.getElem?_map,List.getElem?_range' h];simp
theorem u8:∀ (L:List (List Op)),∀ l∈L,l.length<=(L.map List.length).sum
 | a::L,l,h=>by
  rw [List.map_cons,List.sum_cons];rcases List.mem_cons.mp h with rfl | h
  . omega
  . have:=u8 L l h;omega
theorem Lb {f:DS->Option W} {δ:DS} {l:List W} (h:f δ=some (.list l)):aT (fB f) δ=some (.list l):=by
 unfold aT fB;rw [h];rfl
noncomputable def yg (OL:List (List Op)):Nat:=(OL.map List.length).sum
theorem qT:∀ (OL:List (List Op)) (j:Nat) (op:Op) (h:j<OL.length),yg (OL.set j (OL[j]++[op]))=yg OL+1
 | l::OL,0,op,_=>by simp [yg];omega
 | l::OL,j+1,op,h=>by
  have:=qT OL j op (by simpa using h);simp [yg] at this ⊢;omega
section
variable {V:List Str} {o:Int} {R:List Rm}
noncomputable def Gv (s0 s1:Sl) (o:Int) (J:List Str) (s4 s5:Sl) (V:List Str) (R:List Rm) (s9 s10 s11:Sl):DS:=[s0,s1,s4,s5,.val (.list (V.map .str)),.val (.list (R.map dJ)),.val (.list ((List.range' 0 R.length).map .ref)),s9,s10,s11,.no,.no,.no,.no,.no]
theorem wI (hV:V.length=6) (hk:∀ x∈V,gi x) (hR:∀ r∈R,Gu (R.map (·.1)) r) (h0:0<R.length) (h4:R.length<=4) (s0 s1 s4 s5:Sl):∀ (cells:List Int) (k:Nat) (OL:List (List Op)) (s9 s10 s11:Sl),k+cells.length<900->OL.length=R.length->yg OL+cells.length<900->(∀ l∈OL,∀ op∈l,A5 o (R.map (·.1)) JW op)->∃ (OL':List (List Op)) (t9 t10 t11:Sl),OL'.length=R.length/\yg OL'=yg OL+cells.length/\(∀ l∈OL',∀ op∈l,A5 o (R.map (·.1)) JW op)/\bY (eA 2 (bc (ae 7) (bc (ae 8) eZ))) gT (tX k (cells.map .int)) (Gv s0 s1 o JW s4 s5 V R s9 s10 s11) (rf OL)=some (.nx (Gv s0 s1 o JW s4 s5 V R t9 t10 t11),rf OL')
 | [],k,OL,s9,s10,s11,_,hl,_,ho=>⟨OL,s9,s10,s11,hl,rfl,ho,rfl⟩
 | c::cells,k,OL,s9,s10,s11,hk9,hl,ht,ho=>by
  simp only [List.length_cons] at hk9 ht;obtain ⟨m,em,_⟩:=jU c (k+2) (by omega);have e2:(((k+2:Nat)):Int)=(k:Int)+2:=by omega
  rw [e2] at em;have hm:=di m (j:=R.length) (by omega);obtain ⟨j,ej⟩:∃ j:Nat,m.fmod R.length=j:=⟨(m.fmod R.length).toNat,by omega⟩
  have jl:j<OL.length:=by omega
  have md:=Aa dJ R m h0;rw [ej] at md;have dv:bC (.int m) (.int ((R.map dJ).length:Nat))=some (.int (m.fdiv R.length)):=by
   rw [List.length_map];exact uI (ni (by omega) (by omega))
  obtain ⟨op,eo,hop⟩:=E3 (o:=o) (FN:=R.map (·.1)) hV hk R hR (by omega) (m.fdiv R.length);have er:=zZ (show j<R.length by omega);have sj:(rf OL)[j]?=some (.lst (OL[j].map dE)):=by simp [rf,List.getElem?_eq_getElem jl]
  have lj:OL[j].length<=yg OL:=u8 OL _ (List.getElem_mem jl);obtain ⟨OL',t9,t10,t11,l',q',o',e'⟩:=wI hV hk hR h0 h4 s0 s1 s4 s5 cells (k+1) (OL.set j (OL[j]++[op])) (.val (.int (k:Int))) (.val (.int c)) (.val (.int m)) (by omega) (by simpa using hl) (by rw [qT OL j op jl];omega) (λ l hm' p hp=>by
   rcases List.mem_or_eq_of_mem_set hm' with h | rfl
   . exact ho l h p hp
   . rcases List.mem_append.mp hp with hp | hp
     . exact ho _ (List.getElem_mem jl) p hp
     . rw [List.mem_singleton.mp hp];exact hop)
  refine ⟨OL',t9,t10,t11,l',by rw [q',qT OL j op jl];simp only [List.length_cons];omega,o',?_⟩;have ss:(rf OL).set j (.lst (OL[j].map dE++[dE op]))=rf (OL.set j (OL[j]++[op])):=by simp [rf,List.map_set]
  rw [List.map_cons];refine (db (δ2:=Gv s0 s1 o JW s4 s5 V R (.val (.int (k:Int))) (.val (.int c)) s11) (δ':=Gv s0 s1 o JW s4 s5 V R (.val (.int (k:Int))) (.val (.int c)) (.val (.int m))) (S':=rf (OL.set j (OL[j]++[op]))) rfl ?_).trans e';refine (ag (δ':=Gv s0 s1 o JW s4 s5 V R (.val (.int (k:Int))) (.val (.int c)) (.val (.int m))) (S':=rf OL) (b6 (aS (d:=.int m) (oF rfl em) rfl))).trans ?_;rw [<-ss];exact fg (mN rfl (dO rfl rfl md) er) sj (az (oF (iA (dO rfl rfl dv) rfl) eo)) (by simp;omega)
noncomputable def vK (S:ai) (q:Nat) (w:W) (d:yO):Prop:=∀ G:Nat->Option (List W),(∀ k ds,q<k->S[k]?=some (.lst ds)->G k=some ds)->rW G 30 w=some (BQ d)
theorem vK.move {S S':ai} {q:Nat} {w:W} {d:yO} (h:vK S q w d) (hs:∀ k,q<k->k<S.length->S'[k]?=S[k]?):vK S' q w d:=λ G hG=>h G λ k ds hk hS=>hG k ds hk (by rw [hs k hk (oG hS).1];exact hS)
noncomputable def JA (s0 s1 s2 s3 s4 s5 s6:Sl) (R:List Rm) (R8:List W) (s9 s10 s11:Sl) (q:Nat) (line:Int) (s14 s15 s16:Sl):DS:=[s0,s1,s4,s5,s6,.val (.list (R.map dJ)),.val (.list R8),s9,s10,s11,.val (.ref q),.val (.int line),s14,s15,s16]
structure EL (P:Bool->Hd->Prop) (S:ai) (q:Nat) (ws:List W) (ds:List (yO×Nat)):Prop where
 hq:S[q]?=some (.lst ws)
 al:ws.length=ds.length
 en:∀ (i:Nat) (w:W) (d:yO×Nat),ws[i]?=some w->ds[i]?=some d->vK S q w d.1
 gb:∀ d∈ds,gK P 5 false d.1.bd d.2/\d.1.ps.length<=6
theorem vC (hFN:∀ r∈R,Gu (R.map (·.1)) r) (hWD:∀ f∈JW,PyData.strOk f=true) (R8:List W) (h8:R8=(List.range' 0 R.length).map .ref) (OL:List (List Op)) (hOL:OL.length=R.length) (ho:∀ l∈OL,∀ op∈l,A5 o (R.map (·.1)) JW op) (hl:∀ l∈OL,l.length<=70) (s0 s1 s2 s3 s4 s5 s6 s10 s11:Sl):∀ (n k:Nat) (rs:List Rm) (S:ai) (ws:List W) (ds:List (yO×Nat)) (line:Int) (s9 s14 s15 s16:Sl),rs=R.drop k->rs.length=n->(∀ i,i<R.length->S[i]?=(rf OL)[i]?)->EL (PP o (R.map (·.1)) JW) S R.length ws ds->ds.length+n<=100->
 ∃ (S':ai) (ws':List W) (ds':List (yO×Nat)) (line':Int) (t9 t14 t15 t16:Sl),bY (eA 2 (bc (ae 7) (bc (ae 12) eZ))) hZ (tX k (rs.map dJ)) (JA s0 s1 s2 s3 s4 s5 s6 R R8 s9 s10 s11 R.length line s14 s15 s16) S=some (.nx (JA s0 s1 s2 s3 s4 s5 s6 R R8 t9 s10 s11 R.length line' t14 t15 t16),S')/\EL (PP o (R.map (·.1)) JW) S' R.length ws' ds'/\ds'.map (·.1.nm)=ds.map (·.1.nm)++rs.map (·.1)/\(ds'.map (·.2)).sum<=(ds.map (·.2)).sum+((OL.drop k).map List.length).sum
 | 0,k,rs,S,ws,ds,line,s9,s14,s15,s16,hr,hn,hS,el,_=>by
  have:rs=[]:=List.eq_nil_of_length_eq_zero hn;subst this;exact ⟨S,ws,ds,line,s9,s14,s15,s16,rfl,el,by simp,by omega⟩
 | n+1,k,rs,S,ws,ds,line,s9,s14,s15,s16,hr,hn,hS,el,h100=>by
  have kl:k<R.length:=by rw [hr,List.length_drop] at hn;omega
  have rk:rs=R[k]::R.drop (k+1):=by rw [hr];exact List.drop_eq_getElem_cons kl
  have ok:=hFN R[k] (List.getElem_mem kl);have ko:k<OL.length:=by omega
  have hlo:S[k]?=some (.lst (OL[k].map dE)):=by rw [hS k kl];simp [rf,List.getElem?_eq_getElem ko]
  let main:Bool:=decide (R[k].1=Str.ofString "main");have fnOk:∀ f∈R.map (·.1),PyData.strOk f=true:=λ f hf=>by obtain ⟨r,h1,rfl⟩:=List.mem_map.mp hf;exact (hFN r h1).n
  obtain ⟨S1,b,cs,c,la,e1,⟨G1,g1,g2⟩,gb,cc,sl,fr⟩:=yE fnOk hWD S k OL[k] hlo (λ op hop=>ho _ (List.getElem_mem ko) op hop) (hl _ (List.getElem_mem ko)) (line+1) main;have ql:=(oG el.hq).1;have hq1:S1[R.length]?=some (.lst ws):=by rw [fr _ ql];exact el.hq
  let d:yO:=⟨R[k].1,R[k].2,cs,line+1,la⟩
  let w:W:=.tuple [.str R[k].1,.list (R[k].2.map .str),.ref b,.int (line+1),.int la];let S2:ai:=S1.set R.length (.lst (ws++[w]));have el2:EL (PP o (R.map (·.1)) JW) S2 R.length (ws++[w]) (ds++[(d,c)]):=by
   refine ⟨set_eq' hq1,by simp [el.al],λ i w' d' hw hd=>?_,λ x hx=>?_⟩
   . rcases Nat.lt_or_ge i ws.length with hi | hi
     . rw [List.getElem?_append_left hi] at hw;rw [List.getElem?_append_left (by rw [<-el.al];exact hi)] at hd;exact (el.en i w' d' hw hd).move λ k hk hk2=>by rw [List.getElem?_set_ne (by omega),fr k hk2]
     . have il:i=ws.length:=by have:=(oG hw).1;simp at this;omega
       subst il;rw [List.getElem?_append_right (Nat.le_refl _),Nat.sub_self] at hw;rw [el.al,List.getElem?_append_right (Nat.le_refl _),Nat.sub_self] at hd;simp at hw hd;subst hw hd;intro G hG;have rb:rW G 29 (.ref b)=some (.list (cO cs)):=iy (λ k ds hk=>by
        obtain ⟨a1,a2⟩:=g1 k ds hk;exact hG k ds (by omega) (set_ne' a2 (by omega))) 28 29 _ _ (by omega) g2
       have st:=mY ok.p;have rp:rW G 29 (.list (R[k].2.map .str))=some (.list (R[k].2.map .str)):=rY G 29 _ (by simpa [eS] using st.1) (by simp only [bJ];omega);exact rz (aX (d:=.str R[k].1) rfl (aX rp (aX rb (aX (d:=.int (line+1)) rfl (aX (d:=.int la) (ds:=[]) rfl rfl)))))
   . rcases List.mem_append.mp hx with hx | hx
     . exact el.gb x hx
     . rw [List.mem_singleton.mp hx];exact ⟨gb,ok.l⟩
  obtain ⟨S',ws',ds',line',t9,t14,t15,t16,e2,el3,nm3,sm3⟩:=vC hFN hWD R8 h8 OL hOL ho hl s0 s1 s2 s3 s4 s5 s6 s10 s11 n (k+1) (R.drop (k+1)) S2 (ws++[w]) (ds++[(d,c)]) la (.val (.int (k:Int))) (.val (dJ R[k])) (.val (.ref b)) (.val (.int la)) rfl (by rw [hr,List.length_drop] at hn;rw [List.length_drop];omega) (λ i hi=>by rw [List.getElem?_set_ne (by omega),fr i (by omega),hS i hi]) el2 (by simp;omega);refine ⟨S',ws',ds',line',t9,t14,t15,t16,?_,el3,by rw [nm3,rk,List.map_append,List.map_cons,List.append_assoc];rfl,?_⟩
  . rw [rk,List.map_cons];let δ (s15 s16:Sl) (ln:Int):DS:=JA s0 s1 s2 s3 s4 s5 s6 R R8 (.val (.int (k:Int))) s10 s11 R.length ln (.val (dJ R[k])) s15 s16;have er:=zZ kl;rw [<-h8] at er;refine (db (δ2:=δ s15 s16 line) (δ':=δ (.val (.ref b)) (.val (.int la)) la) (S':=S2) rfl ?_).trans e2;refine (ag (δ':=δ (.val (.ref b)) (.val (.int la)) line) (S':=S1) (bU (br (S1:=S) (ds:=[.ref k,.int (line+1),.bool main]) (az (Lz (mN rfl rfl er) rfl (congrArg (Option.map W.bool) (tD (x0 rfl))))) e1) rfl)).trans ?_;exact (ag (δ':=δ (.val (.ref b)) (.val (.int la)) line) (S':=S2) (fg rfl hq1 (az (Hk (l:=[.str R[k].1,.list (R[k].2.map .str),.ref b,.int (line+1),.int la]) (iA (x0 rfl) (iA (Lb (x1 rfl)) rfl)) (by simp))) (by have:=el.al;omega))).trans (b6 rfl)
  . have:(OL.drop k).map List.length=OL[k].length::(OL.drop (k+1)).map List.length:=by rw [List.drop_eq_getElem_cons ko];rfl
    rw [this,List.sum_cons];rw [List.map_append,List.sum_append] at sm3;simp only [List.map_cons,List.map_nil,List.sum_cons,List.sum_nil] at sm3;omega
end
theorem Ct (ns:List Int) (lo hi:Option Int):∃ ms:List Int,ms.length<=ns.length/\i7 (ns.map .int) lo hi=ms.map .int:=by
 refine ⟨(ns.drop (HT.sIx (ns.map W.int).length 0 lo)).take (HT.sIx (ns.map W.int).length (ns.map W.int).length hi-HT.sIx (ns.map W.int).length 0 lo),?_,?_⟩
 . rw [List.length_take,List.length_drop];omega
 . unfold i7;rw [List.map_take,List.map_drop]
theorem wF {f:W->Option W}:∀ (ws:List W) (xs:List W),ws.length=xs.length->(∀ (i:Nat) (w x:W),ws[i]?=some w->xs[i]?=some x->f w=some x)->dG f ws=some xs
 | [],[],_,_=>rfl
 | w::ws,x::xs,hl,h=>aX (h 0 w x rfl rfl) (wF ws xs (by simpa using hl) λ i a b ha hb=>h (i+1) a b (by simpa using ha) (by simpa using hb))
 | [],_::_,hl,_=>by simp at hl
 | _::_,[],hl,_=>by simp at hl
theorem zR (ns:List Int) (hns:ns.length<=63) {N:List Str} (hN:N.length=6) (hA:∀ x∈N,gi x):∃ (ds:List (yO×Nat)),fO [.list (ns.map .int),.list (N.map .str),.int 40]=some (.list (ds.map λ d=>BQ d.1))/\ds.length<=4/\(∀ d∈ds,gK (PP 0 (ds.map (·.1.nm)) JW) 5 false d.1.bd d.2/\d.1.ps.length<=6)/\(ds.map (·.2)).sum<=63:=by
 have hn:∀ x∈N,PyData.strOk x=true:=λ x hx=>(hA x hx).ok;obtain ⟨c0,ec0⟩:=tJ ns 0;obtain ⟨head,eh,_⟩:=jU c0 0 (by decide);obtain ⟨V,eV,lV,aV⟩:=yw hN hA head;obtain ⟨R,eR,r0,r4,hR⟩:=xg hN lV hn (λ x hx=>(aV x hx).ok) head;obtain ⟨ms,lm,em⟩:=Ct ns (some 2) (some 40);let scr:Sl:=.val (.list (ns.map .int));let nl:Sl:=.val (.list (N.map .str));obtain ⟨OL,t9,t10,t11,lO,tO,kO,eO⟩:=wI (o:=0) lV aV hR r0 r4 scr nl (.val (.int 40)) (.val (.int head)) ms 0 (List.replicate R.length []) .no .no .no (by omega) (by simp) (by simp [yg];omega) (λ l hl op hop=>by rw [List.eq_of_mem_replicate hl] at hop;cases hop);have t0:yg (List.replicate R.length ([]:List Op))=0:=by simp [yg]
 rw [t0,Nat.zero_add] at tO;have st0:rf (List.replicate R.length [])=([]:ai)++List.replicate R.length (Ob.lst []):=by simp [rf]
 have sl:(rf OL).length=R.length:=by simp [rf,lO]
 let S1:ai:=rf OL++[Ob.lst []];have hq:S1[R.length]?=some (.lst []):=by rw [<-sl];exact cZ _ _
 have lb:∀ l∈OL,l.length<=70:=λ l hl=>by
  have:l.length<=yg OL:=u8 OL l hl;omega
 obtain ⟨S2,ws,ds,line',u9,u14,u15,u16,e2,el,nm,sm⟩:=vC (o:=0) hR CV ((List.range' 0 R.length).map .ref) rfl OL lO kO lb scr nl .no .no (.val (.int 40)) (.val (.int head)) (.val (.list (V.map .str))) t10 t11 R.length 0 R S1 [] [] 0 t9 .no .no .no rfl rfl (λ i hi=>by simp only [S1];rw [List.getElem?_append_left (by omega)]) ⟨hq,rfl,(λ i w d hw=>by simp at hw),λ d hd=>absurd hd List.not_mem_nil⟩ (by simp;omega);have nm':ds.map (·.1.nm)=R.map (·.1):=by simpa using nm
 refine ⟨ds,?_,?_,λ d hd=>by rw [nm'];exact el.gb d hd,?_⟩
 . have ok:bM [.list (ns.map .int),.list (N.map .str),.int 40]=true:=by
    have a:=(mY hn).1;have c:bM (ns.map .int)=true:=gN λ d hd=>by obtain ⟨x,_,rfl⟩:=List.mem_map.mp hd;rfl
    simp [bM,eS,a,c]
   have run:ge [.list (ns.map .int),.list (N.map .str),.int 40] []=some (.ok (.ref R.length),S2):=by
    let δ (s5 s6 s7 s8 s9 s10 s11 s12 s13:Sl):DS:=[scr,nl,.val (.int 40),s5,s6,s7,s8,s9,s10,s11,s12,s13,.no,.no,.no]
    let sV:Sl:=.val (.list (V.map .str));let sR:Sl:=.val (.list (R.map dJ));let s8:Sl:=.val (.list ((List.range' 0 R.length).map .ref));have zr:(R.map dJ).length<=sizeLine:=sz _ (by simp;omega);refine (aY rfl).trans ((congrArg dY (?_:_=some (.rt (.ref R.length),S2))).trans rfl);refine (ag (δ':=δ (.val (.int head)) .no .no .no .no .no .no .no .no) (S':=[]) (b6 (aS (d:=.int head) (oF (HA (oF rfl ec0) rfl) eh) rfl))).trans ?_;refine (ag (δ':=δ (.val (.int head)) sV .no .no .no .no .no .no .no) (S':=[]) (b6 (aS (d:=.list (V.map .str)) (oF rfl eV) rfl))).trans ?_;refine (ag (δ':=δ (.val (.int head)) sV sR .no .no .no .no .no .no) (S':=[]) (b6 (aS (d:=.list (R.map dJ)) (oF rfl eR) rfl))).trans ?_;have oc:=vz R [];refine (ag (δ':=δ (.val (.int head)) sV sR s8 .no .no .no .no .no) (S':=rf (List.replicate R.length [])) (bU (zW (S0:=[]) (ds:=R.map dJ) rfl zr (by rw [st0];exact oc)) rfl)).trans ?_;refine (ag (δ':=δ (.val (.int head)) sV sR s8 t9 t10 t11 .no .no) (S':=rf OL) ((gg (S1:=rf (List.replicate R.length [])) (ds:=tX 0 (ms.map .int)) (az ?_)).trans eO)).trans ?_
    . first | rfl | simp! [δ,Gv,scr,uD,em,og]
    refine (ag (δ':=δ (.val (.int head)) sV sR s8 t9 t10 t11 (.val (.ref R.length)) .no) (S':=S1) (bU (d:=.ref R.length) (by rw [<-sl];rfl) rfl)).trans ?_;refine (ag (δ':=δ (.val (.int head)) sV sR s8 t9 t10 t11 (.val (.ref R.length)) (.val (.int 0))) (S':=S1) (b6 rfl)).trans ?_;refine (ag ((gg (S1:=S1) (ds:=tX 0 (R.map dJ)) (az ?_)).trans e2)).trans rfl;first | rfl | simp! [δ,JA,sR,uD,og]
   show A2 _ _=_;unfold A2;rw [if_pos ok,run];refine om (Dt el.hq) (wF ws _ (by simp [el.al]) λ i w x hw hx=>?_);rw [List.getElem?_map] at hx;obtain ⟨d,hd,rfl⟩:=oM hx
   exact iy (λ _ _ z=>z) 30 39 _ _ (by omega) (el.en i w d hw hd (Gk S2) λ k dd _ hk=>Dt hk)
 . have:=congrArg List.length nm';simp at this;omega
 . have:(OL.map List.length).sum=ms.length:=tO;simp only [List.drop_zero,List.map_nil,List.sum_nil] at sm;omega
theorem F6 {t:Tr} (h:iB 0 t 7 6):Jz t:=⟨by have:=h.1.1;omega,by have:=h.1.2.1;omega⟩
theorem wA:∀ (ts:List Tr),(∀ t∈ts,iB 0 t 7 6)->j0 ts<=6*ts.length
 | [],_=>by simp [j0]
 | t::ts,h=>by
  have:=wA ts λ u hu=>h u (.tail _ hu);have:=(h t (.head _)).1.2.1;simp [j0] at *;omega
theorem fu {h:Hd} (ht:∀ t∈ci h,iB 0 t 7 6) (hl:(ci h).length<=6):BY h:=⟨λ t m=>F6 (ht t m),by have:=wA _ ht;omega,by omega⟩
theorem Il {FN:List Str} {wh:Bool} {h:Hd} (q:PP 0 FN JW wh h):PG FN wh h:=by
 have one:∀ {t:Tr},iB 0 t 7 6->∀ u∈[t],iB 0 u 7 6:=λ g u hu=>by rw [List.mem_singleton.mp hu];exact g
 cases h with
 | set x t=>exact ⟨fu (one q.2) (by simp [ci]),λ _=>⟨by simp [aG],by simp [aG]⟩,(λ _ _ _ e=>nomatch e),λ _ _ _ e=>nomatch e⟩
 | put a b=>exact ⟨fu (λ u hu=>by rcases List.mem_cons.mp hu with rfl | hu;exact q.1;exact one q.2 u hu) (by simp [ci]),λ _=>⟨by simp [aG],by simp [aG]⟩,(λ _ _ _ e=>nomatch e),λ _ _ _ e=>nomatch e⟩
 | tell t=>exact ⟨fu (one q) (by simp [ci]),λ _=>⟨by simp [aG],by simp [aG]⟩,(λ _ _ _ e=>nomatch e),λ _ _ _ e=>nomatch e⟩
 | ret t=>exact ⟨fu (one q) (by simp [ci]),λ _=>⟨by simp [aG],by simp [aG]⟩,(λ _ _ _ e=>nomatch e),λ _ _ _ e=>nomatch e⟩
 | brk=>exact ⟨fu (λ _ hu=>absurd hu List.not_mem_nil) (by simp [ci]),λ e=>absurd (q.symm.trans e) (by decide),(λ _ _ _ e=>nomatch e),λ _ _ _ e=>nomatch e⟩
 | agn=>exact ⟨fu (λ _ hu=>absurd hu List.not_mem_nil) (by simp [ci]),λ e=>absurd (q.symm.trans e) (by decide),(λ _ _ _ e=>nomatch e),λ _ _ _ e=>nomatch e⟩
 | mt=>exact ⟨fu (λ _ hu=>absurd hu List.not_mem_nil) (by simp [ci]),λ _=>⟨by simp [aG],by simp [aG]⟩,(λ _ _ _ e=>nomatch e),λ _ _ _ e=>nomatch e⟩
 | stp=>exact ⟨fu (λ _ hu=>absurd hu List.not_mem_nil) (by simp [ci]),λ _=>⟨by simp [aG],by simp [aG]⟩,(λ _ _ _ e=>nomatch e),λ _ _ _ e=>nomatch e⟩
 | join x j t=>exact ⟨fu (one q.2.2) (by simp [ci]),λ _=>⟨by simp [aG],by simp [aG]⟩,(λ _ _ _ e=>nomatch e),λ _ _ _ e=>by cases e;exact CV j q.2.1⟩
 | call x f ts=>exact ⟨fu q.2.2.2 q.2.2.1,λ _=>⟨by simp [aG],by simp [aG]⟩,(λ _ _ _ e=>by cases e;exact q.2.1),λ _ _ _ e=>nomatch e⟩
 | ifs t bs=>exact ⟨fu (one q) (by simp [ci]),λ _=>⟨by simp [aG],by simp [aG]⟩,(λ _ _ _ e=>nomatch e),λ _ _ _ e=>nomatch e⟩
 | whl t bs=>exact ⟨fu (one q) (by simp [ci]),λ _=>⟨by simp [aG],by simp [aG]⟩,(λ _ _ _ e=>nomatch e),λ _ _ _ e=>nomatch e⟩
theorem vB:∀ (l:List Nat) (x:Nat),x∈l->x<=l.sum
 | y::l,x,h=>by
  rw [List.sum_cons];rcases List.mem_cons.mp h with rfl | h
  . omega
  . have:=vB l x h;omega
noncomputable def Fe (d:yO×Nat):Df:=⟨d.1.nm,d.1.ps,d.1.bd,5,d.2,d.1.ln,d.1.la⟩
theorem CW:∀ ds:List (yO×Nat),cD (ds.map Fe)=(ds.map (·.2)).sum+ds.length
 | []=>rfl
 | d::ds=>by
  have:=CW ds;simp only [List.map_cons,cD,this,List.sum_cons,List.length_cons,Fe];omega
theorem y0 (ns:List Int) (h:ns.length<=63):∃ S,y4 [.list (ns.map .int)] []=some (.ok (.bool true),S):=by
 obtain ⟨c1,ec1⟩:=tJ ns 1;obtain ⟨m1,em1,_⟩:=jU c1 1 (by decide);obtain ⟨N,eN,lN,aN⟩:=ut m1;obtain ⟨ds,ep,l4,g,sm⟩:=zR ns h lN aN;have gD:∀ D∈ds.map Fe,JF (ds.map (·.1.nm)) D/\D.c<100:=λ D hD=>by
  obtain ⟨d,hd,rfl⟩:=List.mem_map.mp hD;have hs:d.2<=(ds.map (·.2)).sum:=vB _ _ (List.mem_map.mpr ⟨d,hd,rfl⟩);exact ⟨⟨(g d hd).1.imp λ _ _ q=>Il q,by show 5<=6;decide,Nat.le_trans (g d hd).2 (by decide)⟩,by show d.2<100;omega⟩
 have hF:∀ f∈ds.map (·.1.nm),∃ D∈ds.map Fe,D.x=f:=λ f hf=>by
  obtain ⟨d,hd,rfl⟩:=List.mem_map.mp hf;exact ⟨Fe d,List.mem_map.mpr ⟨d,hd,rfl⟩,rfl⟩
 have cb:=CW ds;obtain ⟨S',ys,em,hq,ly⟩:=yk (ds.map Fe) _ gD hF (by omega) (by simp;omega) [];have ed:(ds.map Fe).map qP=ds.map λ d=>BQ d.1:=by rw [List.map_map];rfl
 rw [ed] at em;obtain ⟨t3,t4,t5,el⟩:=sH hq (.val (.list (ns.map .int))) (.val (.list ys)) ys [] .no .no .no rfl;have eq:=sO (Dk hq).1 (Dk hq).2;have zy:ys.length<=sizeLine:=sz _ (by omega);refine ⟨S',?_⟩;let δ (s1 s2 s3 s4 s5:Sl):DS:=[.val (.list (ns.map .int)),s1,s2,s3,s4,s5]
 refine (aY rfl).trans ((congrArg dY (?_:_=some (.rt (.bool true),S'))).trans rfl);refine (ag (δ':=δ (.val (.list ys)) .no .no .no .no) (S':=S') (bU (br (S1:=[]) (ds:=[.list (ds.map λ d=>BQ d.1)]) (az (iA (oF (Lz rfl (oF (iA (oF (HA (oF rfl ec1) rfl) em1) rfl) eN) rfl) ep) rfl)) em) rfl)).trans ?_;refine (ag (δ':=δ (.val (.list ys)) (.val (.list ys)) .no .no .no) (S':=S') (b6 (aS (d:=.list ys) (Lb rfl) rfl))).trans ?_;refine (ag (δ':=δ (.val (.list ys)) (.val (.list ys)) t3 t4 t5) (S':=S') (b6 (fA (ds:=tX 0 ys) (by first | rfl | simp! [δ,uD,og]) el))).trans ?_;first | rfl | simp! [δ,uS,uD,eq]
theorem Jd {α:Type} {P:List α->Prop} {n:Nat} (h:∀ a us,us.length=n->P (a::us)):∀ us:List α,us.length=n+1->P us:=λ us hl=>by
 cases us with
 | nil=>cases hl
 | cons a us=>exact h a us (Nat.succ.inj hl)
theorem LW {α:Type} {P:List α->Prop} (h:P []):∀ us:List α,us.length=0->P us:=λ us hl=>by
 cases us with
 | nil=>exact h
 | cons a us=>cases hl
theorem ya {α:Type} {P:List α->Prop} (h:∀ a0,P [a0]):∀ us:List α,us.length=1->P us:=Jd λ a us hl=>LW (P:=λ l=>P (a::l)) (h a) us hl
theorem uV {α:Type} {P:List α->Prop} (h:∀ a0 a1,P [a0,a1]):∀ us:List α,us.length=2->P us:=Jd λ a us hl=>ya (P:=λ l=>P (a::l)) (h a) us hl
theorem A6 {α:Type} {P:List α->Prop} (h:∀ a0 a1 a2,P [a0,a1,a2]):∀ us:List α,us.length=3->P us:=Jd λ a us hl=>uV (P:=λ l=>P (a::l)) (h a) us hl
theorem LH {α:Type} {P:List α->Prop} (h:∀ a0 a1 a2 a3,P [a0,a1,a2,a3]):∀ us:List α,us.length=4->P us:=Jd λ a us hl=>A6 (P:=λ l=>P (a::l)) (h a) us hl
set_option maxHeartbeats 0 in
theorem all_mk {l:PySem.W.OpenLaw} {w:World} {K:Frag} {h:Heap} {mg:Str->Option Value} {fa:Addr} (X:K.In h) (G:h.Ns mainGlobals mg) (hfa:mg "law" = some (.ref fa)) {c_Sheet:Addr} {qf:Addr} {oT2:Obj} {nT2:Nat} {f6:Addr} {od6 an6:Option Addr} {sl6:Array (Option Value)} {oc6 kV6 dc6 pm6 cd6 ct6:Value} {f7:Addr} {od7 an7:Option Addr} {sl7:Array (Option Value)} {oc7 kV7 dc7 pm7 cd7 ct7:Value} {f8:Addr} {od8 an8:Option Addr} {sl8:Array (Option Value)} {oc8 kV8 dc8 pm8 cd8 ct8:Value} {f9:Addr} {od9 an9:Option Addr} {sl9:Array (Option Value)} {oc9 kV9 dc9 pm9 cd9 ct9:Value} {f10:Addr} {od10 an10:Option Addr} {sl10:Array (Option Value)} {oc10 kV10 dc10 pm10 cd10 ct10:Value} {a_SIGNS:Addr} {o_SIGNS:Obj} {a_WORKINGS:Addr} {o_WORKINGS:Obj}
 (mm_Sheet:PySem.W.nsIn K mainGlobals "Sheet" = some (some (.ref c_Sheet)))
 (a0:An K "next_rows" mh .none)
 (a1:An K "bodies_of" m7 .none)
 (a2:An K "placed" nU (.ref qf))
 (lT2:K.lookup qf=some oT2)
 (hT2:oT2.data=.seq #[.none] nT2)
 (a3:An K "expressions_of" gR .none)
 (a4:An K "given_by" o0 .none)
 (a5:An K "leaves_of" mC .none)
 (a6:PySem.W.findIn K (.ref c_Sheet) "__init__" = some (some (.ref f6)))
 (ifn6:PySem.W.isFn K (.ref f6)=true)
 (l6:K.lookup f6=some ⟨oc6,od6,.func (PySem.W.fnOf "__init__" "Sheet.__init__" (cJ cA) (ck cA) (aZ cA) .none kV6 dc6 pm6 an6 cd6 ct6),sl6⟩)
 (c6:PySem.W.codeIn K cd6 "Sheet.__init__" = true)
 (k6:PySem.W.keepIn K (.ref f6)=true)
 (a7:PySem.W.findIn K (.ref c_Sheet) "lay" = some (some (.ref f7)))
 (ifn7:PySem.W.isFn K (.ref f7)=true)
 (l7:K.lookup f7=some ⟨oc7,od7,.func (PySem.W.fnOf "lay" "Sheet.lay" (cJ fh) (ck fh) (aZ fh) .none kV7 dc7 pm7 an7 cd7 ct7),sl7⟩)
 (c7:PySem.W.codeIn K cd7 "Sheet.lay" = true)
 (k7:PySem.W.keepIn K (.ref f7)=true)
 (a8:PySem.W.findIn K (.ref c_Sheet) "begin" = some (some (.ref f8)))
 (ifn8:PySem.W.isFn K (.ref f8)=true)
 (l8:K.lookup f8=some ⟨oc8,od8,.func (PySem.W.fnOf "begin" "Sheet.begin" (cJ dD) (ck dD) (aZ dD) .none kV8 dc8 pm8 an8 cd8 ct8),sl8⟩)
 (c8:PySem.W.codeIn K cd8 "Sheet.begin" = true)
 (k8:PySem.W.keepIn K (.ref f8)=true)
 (a9:PySem.W.findIn K (.ref c_Sheet) "add" = some (some (.ref f9)))
 (ifn9:PySem.W.isFn K (.ref f9)=true)
 (l9:K.lookup f9=some ⟨oc9,od9,.func (PySem.W.fnOf "add" "Sheet.add" (cJ fj) (ck fj) (aZ fj) .none kV9 dc9 pm9 an9 cd9 ct9),sl9⟩)
 (c9:PySem.W.codeIn K cd9 "Sheet.add" = true)
 (k9:PySem.W.keepIn K (.ref f9)=true)
 (a10:PySem.W.findIn K (.ref c_Sheet) "free" = some (some (.ref f10)))
 (ifn10:PySem.W.isFn K (.ref f10)=true)
 (l10:K.lookup f10=some ⟨oc10,od10,.func (PySem.W.fnOf "free" "Sheet.free" (cJ dZ) (ck dZ) (aZ dZ) .none kV10 dc10 pm10 an10 cd10 ct10),sl10⟩)
 (c10:PySem.W.codeIn K cd10 "Sheet.free" = true)
 (k10:PySem.W.keepIn K (.ref f10)=true)
 (a11:An K "settled" pW .none)
 (a12:An K "names_within" ji .none)
 (a13:An K "slots_of" nX .none)
 (a14:An K "make_expression" gz .none)
 (a15:An K "make_rest" lY .none)
 (a16:An K "make_if" lJ .none)
 (a17:An K "make_while" io .none)
 (a18:An K "make_statement" eM .none)
 (a19:An K "make_body" jj .none)
 (a20:An K "made" y9 .none)
 (a21:An K "_law_whole" kX .none)
 (a22:An K "_law_cell_at" je .none)
 (a23:An K "_law_spread" jB .none)
 (a24:An K "_law_names" lh .none)
 (a25:An K "_law_place" lc .none)
 (a26:An K "_law_simple" jA .none)
 (a27:An K "_law_call" lU .none)
 (a28:An K "_law_op" pB .none)
 (a29:An K "_law_closed_up" gZ .none)
 (a30:An K "_law_may_stand" gS .none)
 (a31:An K "_law_laid" m6 .none)
 (a32:An K "_law_rooms" kK .none)
 (a33:An K "_law_variables" hJ .none)
 (a34:An K "_law_program" iM .none)
 (a35:An K "_law_due" nk .none)
 (a36:An K "law" sv .none)
 (pg_Sheet:PySem.W.plainGet K c_Sheet Str.empty=true)
 (hd_Sheet:PySem.W.hasDictIn K c_Sheet=true)
 (po_Sheet:PySem.W.plainOver K c_Sheet=true)
 (sa_Sheet:PySem.W.findIn K (.ref c_Sheet) "__setattr__" = some (some (.builtin "object.__setattr__")))
 (mk_Sheet:PySem.W.makesIn K c_Sheet=true)
 (kc_Sheet:PySem.W.keepIn K (.ref c_Sheet)=true)
 (nn_Sheet_rows:PySem.W.findIn K (.ref c_Sheet) "rows" = some none)
 (nn_Sheet_spots:PySem.W.findIn K (.ref c_Sheet) "spots" = some none)
 (nn_Sheet_name:PySem.W.findIn K (.ref c_Sheet) "name" = some none)
 (nn_Sheet_slots:PySem.W.findIn K (.ref c_Sheet) "slots" = some none)
 (zz_all:PySem.W.nsIn K mainGlobals "all" = some none)
 (zz_any:PySem.W.nsIn K mainGlobals "any" = some none)
 (zz_bool:PySem.W.nsIn K mainGlobals "bool" = some none)
 (zz_enumerate:PySem.W.nsIn K mainGlobals "enumerate" = some none)
 (zz_int:PySem.W.nsIn K mainGlobals "int" = some none)
 (zz_isinstance:PySem.W.nsIn K mainGlobals "isinstance" = some none)
 (zz_len:PySem.W.nsIn K mainGlobals "len" = some none)
 (zz_list:PySem.W.nsIn K mainGlobals "list" = some none)
 (zz_range:PySem.W.nsIn K mainGlobals "range" = some none)
 (zz_set:PySem.W.nsIn K mainGlobals "set" = some none)
 (zz_sorted:PySem.W.nsIn K mainGlobals "sorted" = some none)
 (mm_SIGNS:PySem.W.nsIn K mainGlobals "SIGNS" = some (some (.ref a_SIGNS)))
 (lk_SIGNS:K.lookup a_SIGNS=some o_SIGNS)
 (lc_SIGNS:o_SIGNS.cls=.type "tuple")
 (lt_SIGNS:qw o_SIGNS [(Str.ofString "lane"),(Str.ofString "lanes"),(Str.ofString "mine")]=true)
 (mm_WORKINGS:PySem.W.nsIn K mainGlobals "WORKINGS" = some (some (.ref a_WORKINGS)))
 (lk_WORKINGS:K.lookup a_WORKINGS=some o_WORKINGS)
 (lc_WORKINGS:o_WORKINGS.cls=.type "tuple")
 (lt_WORKINGS:qw o_WORKINGS [(Str.ofString "+"),(Str.ofString "-"),(Str.ofString "*"),(Str.ofString "div"),(Str.ofString "rem"),(Str.ofString "<"),(Str.ofString "=")]=true):
 ∃ fd:FuncData,(∀ (s:Shared) (v:Value),BindsTo s fd ⟨[v],[]⟩ [("_law_script", v)])/\∀ base:Heap,K.In base->base.Ns mainGlobals mg->eF l.prog w K mg base CQ 33 fa fd ["_law_script"] (qN K):=by
 have m_Sheet:mg "Sheet" = some (.ref ((jz c_Sheet) "Sheet")):=by rw [cB];exact PySem.W.mg_of X G mm_Sheet
 obtain ⟨f2,_,_,_,_,_,_,_,_,_,m2,l2,c2,k2⟩:=a2;have D_placed:wt (Gh K mg "placed" ["body", "around"] [.none]) K "placed" "placed" nU:=⟨_,_,g8 l2 c2 k2,PySem.W.mg_of X G m2,k2,(λ s us Xs hl=>uV (P:=λ us=>BindsTo s _ ⟨us,[]⟩ (List.zip _ (us++_))) (λ _ _=>PySem.W.binds_K Xs rfl lT2 hT2 rfl rfl) us (by simpa using hl)),(λ s us Xs hl=>ya (P:=λ us=>BindsTo s _ ⟨us,[]⟩ (List.zip _ (us++_))) (λ _=>PySem.W.binds_K Xs rfl lT2 hT2 rfl rfl) us (by simpa using hl))⟩
 have b_Sheet___init__:=(lK (st:=cA) l6 c6 k6).binds (ps:=["self"]) (λ _ _ _ _ _ _=>ya λ _=>rfl);have b_Sheet_lay:=(lK (st:=fh) l7 c7 k7).binds (ps:=["self", "key"]) (λ _ _ _ _ _ _=>uV λ _ _=>rfl);have mt_Sheet_lay:jV K ((jz c_Sheet) "Sheet") "lay" f7:=by rw [cB];exact ⟨a7,ifn7,k7⟩
 have b_Sheet_begin:=(lK (st:=dD) l8 c8 k8).binds (ps:=["self", "name", "slots"]) (λ _ _ _ _ _ _=>A6 λ _ _ _=>rfl);have mt_Sheet_begin:jV K ((jz c_Sheet) "Sheet") "begin" f8:=by rw [cB];exact ⟨a8,ifn8,k8⟩
 have b_Sheet_add:=(lK (st:=fj) l9 c9 k9).binds (ps:=["self", "row"]) (λ _ _ _ _ _ _=>uV λ _ _=>rfl);have mt_Sheet_add:jV K ((jz c_Sheet) "Sheet") "add" f9:=by rw [cB];exact ⟨a9,ifn9,k9⟩
 have b_Sheet_free:=(lK (st:=dZ) l10 c10 k10).binds (ps:=["self"]) (λ _ _ _ _ _ _=>ya λ _=>rfl);have mt_Sheet_free:jV K ((jz c_Sheet) "Sheet") "free" f10:=by rw [cB];exact ⟨a10,ifn10,k10⟩
 have cl_Sheet:oo K ((jz c_Sheet) "Sheet"):=by rw [cB];exact ⟨pg_Sheet,hd_Sheet,po_Sheet,sa_Sheet⟩
 have n_Sheet_rows:aE K ((jz c_Sheet) "Sheet") "rows" := by rw [cB];exact nn_Sheet_rows
 have n_Sheet_spots:aE K ((jz c_Sheet) "Sheet") "spots" := by rw [cB];exact nn_Sheet_spots
 have n_Sheet_name:aE K ((jz c_Sheet) "Sheet") "name" := by rw [cB];exact nn_Sheet_name
 have n_Sheet_slots:aE K ((jz c_Sheet) "Sheet") "slots" := by rw [cB];exact nn_Sheet_slots
 have M_Sheet:Mk K ((jz c_Sheet) "Sheet") f6:=by rw [cB];exact ⟨mk_Sheet,a6,ifn6,kc_Sheet⟩
 have z_all:=PySem.W.mg_none_of X G zz_all;have z_any:=PySem.W.mg_none_of X G zz_any;have z_bool:=PySem.W.mg_none_of X G zz_bool;have z_enumerate:=PySem.W.mg_none_of X G zz_enumerate;have z_int:=PySem.W.mg_none_of X G zz_int;have z_isinstance:=PySem.W.mg_none_of X G zz_isinstance;have z_len:=PySem.W.mg_none_of X G zz_len;have z_list:=PySem.W.mg_none_of X G zz_list;have z_range:=PySem.W.mg_none_of X G zz_range;have z_set:=PySem.W.mg_none_of X G zz_set;have z_sorted:=PySem.W.mg_none_of X G zz_sorted;have m_SIGNS:=PySem.W.mg_of X G mm_SIGNS;have g_SIGNS:∀ G,ez K G a_SIGNS (([(Str.ofString "lane"),(Str.ofString "lanes"),(Str.ofString "mine")]).map V.str):=λ _=>pE lk_SIGNS lc_SIGNS lt_SIGNS;have m_WORKINGS:=PySem.W.mg_of X G mm_WORKINGS;have g_WORKINGS:∀ G,ez K G a_WORKINGS (([(Str.ofString "+"),(Str.ofString "-"),(Str.ofString "*"),(Str.ofString "div"),(Str.ofString "rem"),(Str.ofString "<"),(Str.ofString "=")]).map V.str):=λ _=>pE lk_WORKINGS lc_WORKINGS lt_WORKINGS;obtain ⟨_,_,_,kV,dc,pm,an,cd,ct,_,ml,ll,cL,kL⟩:=a36;cases hfa.symm.trans (PySem.W.mg_of X G ml);refine ⟨PySem.W.fnOf "law" "law" (cJ sv) (ck sv) (aZ sv) .none kV dc pm an cd ct,λ s v=>.of_eq rfl,λ base _ _=>?_⟩;have C_next_rows:=qJ (P:=l.prog) (w:=w) (base:=base) (a0.dn X G (λ _ _ _ _ _ _=>uV λ _ _=>rfl)) z_sorted z_set;have C_bodies_of:=qF (P:=l.prog) (w:=w) (base:=base) (a1.dn X G (λ _ _ _ _ _ _=>ya λ _=>rfl));have C_placed:=xU D_placed C_bodies_of;have C_expressions_of:=kM (P:=l.prog) (w:=w) (base:=base) (a3.dn X G (λ _ _ _ _ _ _=>ya λ _=>rfl)) z_list;have C_given_by:=tq (P:=l.prog) (w:=w) (base:=base) (a4.dn X G (λ _ _ _ _ _ _=>ya λ _=>rfl));have C_leaves_of:=qA (P:=l.prog) (w:=w) (base:=base) (a5.dn X G (λ _ _ _ _ _ _=>ya λ _=>rfl)) m_WORKINGS g_WORKINGS;have C_Sheet___init__:=kP (P:=l.prog) (w:=w) (base:=base) (cl:=(jz c_Sheet)) ⟨_,_,g8 l6 c6 k6,M_Sheet,b_Sheet___init__⟩ m_Sheet cl_Sheet n_Sheet_rows n_Sheet_spots n_Sheet_name n_Sheet_slots;have C_Sheet_lay:=qG (P:=l.prog) (w:=w) (base:=base) (cl:=(jz c_Sheet)) ⟨_,_,g8 l7 c7 k7,mt_Sheet_lay,b_Sheet_lay⟩ m_Sheet cl_Sheet n_Sheet_rows n_Sheet_spots n_Sheet_name n_Sheet_slots z_len;have C_Sheet_begin:=oh (cl:=(jz c_Sheet)) ⟨_,_,g8 l8 c8 k8,mt_Sheet_begin,b_Sheet_begin⟩ C_Sheet_lay m_Sheet cl_Sheet n_Sheet_rows n_Sheet_spots n_Sheet_name n_Sheet_slots;have C_Sheet_add:=rM (P:=l.prog) (w:=w) (base:=base) (cl:=(jz c_Sheet)) ⟨_,_,g8 l9 c9 k9,mt_Sheet_add,b_Sheet_add⟩ m_Sheet cl_Sheet n_Sheet_rows n_Sheet_spots n_Sheet_name n_Sheet_slots;have C_Sheet_free:=oK (P:=l.prog) (w:=w) (base:=base) (cl:=(jz c_Sheet)) ⟨_,_,g8 l10 c10 k10,mt_Sheet_free,b_Sheet_free⟩ m_Sheet cl_Sheet n_Sheet_rows n_Sheet_spots n_Sheet_name n_Sheet_slots z_len;have C_settled:=ur (P:=l.prog) (w:=w) (base:=base) (cl:=(jz c_Sheet)) (a11.dn X G (λ _ _ _ _ _ _=>uV λ _ _=>rfl));have C_names_within:=mH (a12.dn X G (λ _ _ _ _ _ _=>ya λ _=>rfl)) C_placed C_given_by C_expressions_of C_leaves_of;have C_slots_of:=tp (cl:=(jz c_Sheet)) (a13.dn X G (λ _ _ _ _ _ _=>uV λ _ _=>rfl)) C_names_within z_len;have C_make_expression:=jL (cl:=(jz c_Sheet)) (a14.dn X G (λ _ _ _ _ _ _=>LH λ _ _ _ _=>rfl)) C_Sheet_add m_Sheet cl_Sheet n_Sheet_rows n_Sheet_spots n_Sheet_name n_Sheet_slots m_SIGNS g_SIGNS;have C_make_rest:=rG (cl:=(jz c_Sheet)) (a15.dn X G (λ _ _ _ _ _ _=>uV λ _ _=>rfl)) C_Sheet_free C_Sheet_add m_Sheet cl_Sheet n_Sheet_rows n_Sheet_spots n_Sheet_name n_Sheet_slots z_len;have D_make_if:jg K mg "make_if" ["sheet", "statement", "loop"] [] lJ:=a16.dn X G (λ _ _ _ _ _ _=>A6 λ _ _ _=>rfl);have D_make_while:jg K mg "make_while" ["sheet", "statement"] [] io:=a17.dn X G (λ _ _ _ _ _ _=>uV λ _ _=>rfl);have D_make_statement:jg K mg "make_statement" ["sheet", "statement", "loop"] [] eM:=a18.dn X G (λ _ _ _ _ _ _=>A6 λ _ _ _=>rfl);have D_make_body:jg K mg "make_body" ["sheet", "body", "loop"] [] jj:=a19.dn X G (λ _ _ _ _ _ _=>A6 λ _ _ _=>rfl);have R_make_body:∀ n,fc l.prog w K mg base (jz c_Sheet) n (10+3*n):=by
  intro n;induction n with
  | zero=>exact zJ D_make_body λ _ _=>rfl
  | succ n ih=>
   have C_make_if:=ud (cl:=(jz c_Sheet)) (n:=n) (k:=10+3*n) (by omega) D_make_if C_Sheet_add C_Sheet_free ih C_Sheet_lay m_Sheet cl_Sheet n_Sheet_rows n_Sheet_spots n_Sheet_name n_Sheet_slots;have C_make_while:=oW (cl:=(jz c_Sheet)) (n:=n) (k:=10+3*n) (by omega) D_make_while C_Sheet_add C_Sheet_free ih C_Sheet_lay m_Sheet cl_Sheet n_Sheet_rows n_Sheet_spots n_Sheet_name n_Sheet_slots;have C_make_statement:=kc (cl:=(jz c_Sheet)) (n:=n) (k:=10+3*n) (by omega) D_make_statement C_Sheet_lay C_Sheet_add C_make_expression C_expressions_of C_Sheet_free C_make_if C_make_while C_make_rest m_Sheet cl_Sheet n_Sheet_rows n_Sheet_spots n_Sheet_name n_Sheet_slots z_enumerate;exact rA (cl:=(jz c_Sheet)) (n:=n) (k:=10+3*n) (by omega) D_make_body C_make_statement
 have C_make_body:=R_make_body 7;have C_made:=C6 (cl:=(jz c_Sheet)) (a20.dn X G (λ _ _ _ _ _ _=>ya λ _=>rfl)) C_Sheet___init__ C_Sheet_begin C_slots_of C_make_body C_Sheet_lay C_Sheet_add C_settled m_Sheet cl_Sheet n_Sheet_rows n_Sheet_spots n_Sheet_name n_Sheet_slots;have C__law_whole:=oU (P:=l.prog) (w:=w) (base:=base) (a21.dn X G (λ _ _ _ _ _ _=>ya λ _=>rfl)) z_isinstance z_bool z_int;have C__law_cell_at:=mP (P:=l.prog) (w:=w) (base:=base) (a22.dn X G (λ _ _ _ _ _ _=>uV λ _ _=>rfl)) z_len;have C__law_spread:=nZ (P:=l.prog) (w:=w) (base:=base) (a23.dn X G (λ _ _ _ _ _ _=>uV λ _ _=>rfl));have C__law_names:=pc (P:=l.prog) (w:=w) (base:=base) (a24.dn X G (λ _ _ _ _ _ _=>ya λ _=>rfl)) z_range z_len;have C__law_place:=oQ (P:=l.prog) (w:=w) (base:=base) (a25.dn X G (λ _ _ _ _ _ _=>uV λ _ _=>rfl));have C__law_simple:=nW (a26.dn X G (λ _ _ _ _ _ _=>uV λ _ _=>rfl)) C__law_place;have C__law_call:=rH (a27.dn X G (λ _ _ _ _ _ _=>LH λ _ _ _ _=>rfl)) C__law_simple z_len z_range;have C__law_op:=uJ (a28.dn X G (λ _ _ _ _ _ _=>A6 λ _ _ _=>rfl)) C__law_simple C__law_place C__law_call;have C__law_closed_up:=km (P:=l.prog) (w:=w) (base:=base) (cl:=(jz c_Sheet)) (a29.dn X G (λ _ _ _ _ _ _=>ya λ _=>rfl));have C__law_may_stand:=lg (P:=l.prog) (w:=w) (base:=base) (cl:=(jz c_Sheet)) (a30.dn X G (λ _ _ _ _ _ _=>A6 λ _ _ _=>rfl)) z_any z_len;have C__law_laid:=qu (cl:=(jz c_Sheet)) (a31.dn X G (λ _ _ _ _ _ _=>A6 λ _ _ _=>rfl)) C__law_may_stand C__law_closed_up;have C__law_rooms:=oT (P:=l.prog) (w:=w) (base:=base) (a32.dn X G (λ _ _ _ _ _ _=>A6 λ _ _ _=>rfl)) z_range;have C__law_variables:=kY (P:=l.prog) (w:=w) (base:=base) (a33.dn X G (λ _ _ _ _ _ _=>uV λ _ _=>rfl)) z_list;have C__law_program:=mO (cl:=(jz c_Sheet)) (a34.dn X G (λ _ _ _ _ _ _=>A6 λ _ _ _=>rfl)) C__law_spread C__law_cell_at C__law_variables C__law_rooms C__law_op C__law_laid z_len z_enumerate z_list;have C__law_due:=t8 (P:=l.prog) (w:=w) (base:=base) (a35.dn X G (λ _ _ _ _ _ _=>uV λ _ _=>rfl));obtain ⟨_,_,⟨rfl,rfl⟩,F⟩:=ER (cl:=(jz c_Sheet)) (R:=λ g gd=>g=fa/\gd=_) y0 ⟨_,_,g8 ll cL kL,rfl,rfl⟩ C_made C__law_program C__law_names C__law_spread C__law_cell_at C_next_rows C__law_due C__law_whole z_list z_enumerate z_isinstance z_all;exact F
theorem walk {l:PySem.W.OpenLaw} {q:Program} {loose:List Str} {XP:(Str->Option Value)->Heap->Prop} {YP:World->Heap->Prop} {d:DefRec} {K:Params->Frag} (hn:l.most=some 63) (hdf:d.params.defaults=[])
 (hY:∀ (w:World) (h:Heap),YP w h->(K w.params).In h)
 (F:∀ (w:World) (mg:Str->Option Value) (fa:Addr) (h:Heap),(K w.params).In h->h.Ns mainGlobals mg->mg d.name=some (.ref fa)->
  ∃ fd:FuncData,(∀ (s:Shared) (u:Value),BindsTo s fd ⟨[u],[]⟩ [("_law_script", u)])/\∀ base:Heap,(K w.params).In base->base.Ns mainGlobals mg->eF l.prog w (K w.params) mg base CQ 33 fa fd ["_law_script"] (qN (K w.params))):
 PySem.W.WalkO q loose XP YP l.row.toRowW d [] (λ f vs=>PySem.call f vs):=
 L2.walk_of (n:=63) (k:=33) (x := "_law_script") (CX:=λ _=>CQ) (sp:=λ w=>(qN (K w.params))) hn (by decide) hdf ⟨rfl,by decide,by decide⟩ hY F (λ _ _ a ns hl _ hS=>⟨a,ns,rfl,hS,hl,λ _=>rfl⟩) λ _ _ _ _ _ z=>z
theorem toX {q:Program} {loose:List Str} {XP:(Str->Option Value)->Heap->Prop} {r:PySem.W.RowW} {d:DefRec} {kwd:List (Str×Expr)} {run:Value->List Value->Sem Value} {K:Params->Frag} {as:List Addr} {n t:Nat} (e:∀ P,as=(K P).map (·.1))
 (h:PySem.W.WalkO q loose XP (λ w h=>(K w.params).In h) r d kwd run):PySem.W.WalkX q loose XP (PySem.W.X.obsZ as) (PySem.W.X.valZ K n t) r d kwd run:=
 λ w s0 s1 mg mb G y a o pm cd doc dV kV h1 h2 h3 h4 h5 h6 args vals as' L hp hl hr hw ho=>h w s0 s1 mg mb G (PySem.W.InK.keeps w s0.heap s1.heap (PySem.W.X.z_facts e y).2.1 L.keeps) a o pm cd doc dV kV h1 h2 h3 h4 h5 h6 args vals as' hp hl hr hw ho
end My
open PySem PySem.W PyProof.Rows
def Sp.k {α : Type} (x : α) (t : True) : α := x
local macro_rules
 | `(command| universe $z) => do
  let F (s : String) (n : Lean.Name) := Lean.mkIdent (`PySem.W.Fast ++ .mkSimple s!"{s}{n.hash}")
  let mut a := #[]
  let mut b := #[]
  let p := Lean.mkIdent `PySem.Challenge.pw_widelanes_k31_next_rows
  for k in [0:41] do
   let c := .mkStr2 "Sp" s!"c{k}"
   let C := Lean.mkIdent c
   let (T, e) <- if k < 40 then pure (<- `(Stmt), <- `(($p).main.body.getD $(Lean.quote k) (.Pass ⟨0, 0, 0, 0⟩))) else pure (<- `(Scope), <- `(($p).main.scope))
   a := ((a.push (<- `(command| def $C : $T := $e))).push (<- `(command| noncomputable def $(F "tw" c) : $T := by
    refine Sp.k ?x ?t
    case t =>
     have h : $C = ?x := by conv => lhs; whnf
     exact trivial))).push (<- `(command| theorem $(F "te" c) : $C = $(F "tw" c) := by kernel_rfl))
   b := b.push C
  for (i, j) in ([(583,857)] : List (Nat × Nat)) do
   for k in [i:j] do
    a := a.push (<- `(command| def $(F "tw" (`PySem.Challenge.cw_widelanes_k31_next_rows_holds ++ .mkSimple s!"o_{k}")) := ()))
  let q := b.pop
  let s := b.back!
  return Lean.mkNullNode (a.push (<- `(command| def $(Lean.mkIdent `Sp.p) : Program := { main := { body := [$q,*], scope := $s, futureAnnotations := false, file := "/claim/cut.py", more := [] }, modules := [], parses := [], absent := [], harvested := [], given := { argv := [], stdin := [], environ := (some [([76, 67, 95, 65, 76, 76], [67, 46, 85, 84, 70, 45, 56])]) } })))
universe u
set_option maxRecDepth 100000 in
set_option maxHeartbeats 0 in
theorem PySem.Challenge.cw_widelanes_k31_next_rows_holds : PySem.Challenge.rw_widelanes_k31_next_rows.Holds := by
 show OpenLaw.Holds { prog := Sp.p, name := "law", about := ["next_rows"], foot := 16, most := some 63, bound := none, writes := false }
 w_on; o_law;z_head;(case hw=>w_witness2)
 refine My.toX (λ _=>rfl) (My.walk (l:={ prog := Sp.p, name := "law", about := ["next_rows"], foot := 16, most := some 63, bound := none, writes := false }) rfl rfl (λ w h Y=>Y) ?F)
 case F=>
  intro w mg fa h KX G hmg;refine' My.all_mk KX G hmg ?mm_Sheet ?a0 ?a1 ?a2 ?lT2 ?hT2 ?a3 ?a4 ?a5 ?a6 ?ifn6 ?l6 ?c6 ?k6 ?a7 ?ifn7 ?l7 ?c7 ?k7 ?a8 ?ifn8 ?l8 ?c8 ?k8 ?a9 ?ifn9 ?l9 ?c9 ?k9 ?a10 ?ifn10 ?l10 ?c10 ?k10 ?a11 ?a12 ?a13 ?a14 ?a15 ?a16 ?a17 ?a18 ?a19 ?a20 ?a21 ?a22 ?a23 ?a24 ?a25 ?a26 ?a27 ?a28 ?a29 ?a30 ?a31 ?a32 ?a33 ?a34 ?a35 ?a36 ?pg_Sheet ?hd_Sheet ?po_Sheet ?sa_Sheet ?mk_Sheet ?kc_Sheet ?nn_Sheet_rows ?nn_Sheet_spots ?nn_Sheet_name ?nn_Sheet_slots ?zz_all ?zz_any ?zz_bool ?zz_enumerate ?zz_int ?zz_isinstance ?zz_len ?zz_list ?zz_range ?zz_set ?zz_sorted ?mm_SIGNS ?lk_SIGNS ?lc_SIGNS ?lt_SIGNS ?mm_WORKINGS ?lk_WORKINGS ?lc_WORKINGS ?lt_WORKINGS
  (case mm_Sheet=>k_is)
  (case a0 | a1 | a2=>exact ⟨_,_,_,_,_,_,_,_,_,_,by k_is,by k_is,by k_is,by k_is⟩)
  (case lT2=>k_is)
  (case hT2=>rfl)
  (case a3 | a4 | a5=>exact ⟨_,_,_,_,_,_,_,_,_,_,by k_is,by k_is,by k_is,by k_is⟩)
  (case a6 | ifn6 | l6 | c6 | k6 | a7 | ifn7 | l7 | c7 | k7 | a8 | ifn8 | l8 | c8 | k8 | a9 | ifn9 | l9 | c9 | k9 | a10 | ifn10 | l10 | c10 | k10=>k_is)
  (case a11 | a12 | a13 | a14 | a15 | a16 | a17 | a18 | a19 | a20 | a21 | a22 | a23 | a24 | a25 | a26 | a27 | a28 | a29 | a30 | a31 | a32 | a33 | a34 | a35 | a36=>exact ⟨_,_,_,_,_,_,_,_,_,_,by k_is,by k_is,by k_is,by k_is⟩)
  (case pg_Sheet | hd_Sheet | po_Sheet | sa_Sheet | mk_Sheet | kc_Sheet | nn_Sheet_rows | nn_Sheet_spots | nn_Sheet_name | nn_Sheet_slots | zz_all | zz_any | zz_bool | zz_enumerate | zz_int | zz_isinstance | zz_len | zz_list | zz_range | zz_set | zz_sorted | mm_SIGNS | lk_SIGNS=>k_is)
  (case lc_SIGNS=>rfl)
  (case lt_SIGNS=>kernel_rfl)
  (case mm_WORKINGS | lk_WORKINGS=>k_is)
  (case lc_WORKINGS=>rfl)
  (case lt_WORKINGS=>kernel_rfl)
