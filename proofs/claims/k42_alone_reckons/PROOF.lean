import PyProof.Rows.All
import Wide.All
import OpenK.AllK
import Wide.FinOn
import Lean
import PyProof.EqAt
import PyProof.EqKinds
import PyProof.TupleCall
import PySem.Challenge.RW_widelanes_k42_alone_reckons
set_option Elab.async false
set_option genSizeOf false
set_option genSizeOfSpec false
set_option genInjectivity false
set_option compiler.extract_closed false
set_option linter.all false
set_option maxRecDepth 100000
namespace L2
open PySem PySem.Spec PyProof.Rows
open PySem.W (Frag)
theorem oB {α β:Type} {x:Option α} {f:α->Option β} {b:β} (h:x.bind f=some b):∃ a,x=some a/\f a=some b:=Option.bind_eq_some_iff.mp h
theorem oM {α β:Type} {x:Option α} {f:α->β} {b:β} (h:x.map f=some b):∃ a,x=some a/\f a=b:=Option.map_eq_some_iff.mp h
theorem oG {α:Type} {l:List α} {i:Nat} {a:α} (h:l[i]?=some a):∃ h:i<l.length,l[i]=a:=List.getElem?_eq_some_iff.mp h
noncomputable abbrev bz:=Sum Int Str
noncomputable def nc:bz->Value->Bool
 | .inl k,v=>Value.isInt k v
 | .inr x,v=>Value.isStrOf x v
noncomputable def GT (w:World):bz->Int
 | .inl k=>hashInt k
 | .inr x=>hashStr w x
theorem bS:∀ {k:bz} {v:Value},nc k v=true->(∃ i t,k=Sum.inl i/\v=Value.int i t)∨(∃ x t,k=Sum.inr x/\v=Value.str x t)
 | .inl i,v,h=>by
  obtain ⟨t,e⟩:=Value.isInt_shape (k:=i) (v:=v) h
  exact .inl ⟨i,t,rfl,e⟩
 | .inr x,v,h=>by
  obtain ⟨t,e⟩:=Value.isStrOf_shape (x:=x) (v:=v) h
  exact .inr ⟨x,t,rfl,e⟩
theorem tE (i:Int) (t:Tok):nc (.inl i) (.int i t)=true:=by simp [nc,Value.isInt]
theorem sM (x:Str) (t:Tok):nc (.inr x) (.str x t)=true:=by simp [nc,Value.isStrOf]
theorem BQ (a b:Int):decide ((Sum.inl a:bz)=Sum.inl b)=(a==b):=by
 by_cases e:a=b
 . subst e;simp
 . have h:¬ (Sum.inl a:bz)=Sum.inl b:=λ q=>e (Sum.inl.inj q)
   rw [decide_eq_false h]
   exact (beq_eq_false_iff_ne.mpr e).symm
theorem AK (a b:Str):decide ((Sum.inr a:bz)=Sum.inr b)=decide (a=b):=by
 by_cases e:a=b
 . subst e;simp
 . have h:¬ (Sum.inr a:bz)=Sum.inr b:=λ q=>e (Sum.inr.inj q)
   rw [decide_eq_false h,decide_eq_false e]
theorem BB (a:Int) (b:Str):decide ((Sum.inl a:bz)=Sum.inr b)=false:=decide_eq_false (λ q=>nomatch q)
theorem Bt (a:Str) (b:Int):decide ((Sum.inr a:bz)=Sum.inl b)=false:=decide_eq_false (λ q=>nomatch q)
noncomputable def aT (prog:Program) (w:World):PySem.KeyKind prog w bz where
 is:=nc
 hash:=GT w
 inj:=λ v a b ha hb=>by
  rcases bS ha with ⟨i,t,rfl,rfl⟩ | ⟨x,t,rfl,rfl⟩
  . rcases bS hb with ⟨j,u,rfl,e⟩ | ⟨y,u,rfl,e⟩
    . injection e with e1 _;rw [e1]
    . exact nomatch e
  . rcases bS hb with ⟨j,u,rfl,e⟩ | ⟨y,u,rfl,e⟩
    . exact nomatch e
    . injection e with e1 _;rw [e1]
 byValue:=λ k v h=>by
  rcases bS h with ⟨i,t,rfl,rfl⟩ | ⟨x,t,rfl,rfl⟩ <;> rfl
 pyHash:=λ hv h=>by
  rcases bS hv with ⟨i,t,rfl,rfl⟩ | ⟨x,t,rfl,rfl⟩
  . exact wpAny_pyHash_int h
  . exact wpAny_pyHash_str h
 eqBool:=λ hu hv h=>by
  rcases bS hu with ⟨i,t,rfl,rfl⟩ | ⟨x,t,rfl,rfl⟩
  . rcases bS hv with ⟨j,u,rfl,rfl⟩ | ⟨y,u,rfl,rfl⟩
    . rw [BQ] at h;exact wpAny_eqBool_int h
    . rw [BB] at h;exact SeqAt.EqAt.int_str i t y u _ _ _ _ h
  . rcases bS hv with ⟨j,u,rfl,rfl⟩ | ⟨y,u,rfl,rfl⟩
    . rw [Bt] at h;exact SeqAt.EqAt.str_int x t j u _ _ _ _ h
    . rw [AK] at h;exact wpAny_eqBool_str h
 «strs»:=λ k x t v h=>by
  rcases bS h with ⟨i,u,rfl,e⟩ | ⟨y,u,rfl,e⟩
  . exact nomatch e
  . injection e with e1 _
    subst e1
    cases v <;> rfl
theorem ph (prog:Program) (w:World) (i:Int) (t:Tok):(aT prog w).is (.inl i) (.int i t)=true:=tE i t
theorem pD (prog:Program) (w:World) (x:Str) (t:Tok):(aT prog w).is (.inr x) (.str x t)=true:=sM x t
noncomputable def nH (P:Program) (w:World) (ks:List bz):Int:=if ks=[] then 4238894112 else (tupleKind (aT P w)).hash ks
noncomputable def nE (P:Program) (w:World) (x:List bz×Value×Value):DictEntry:=⟨nH P w x.1,x.2.1,x.2.2⟩
end L2
namespace L2
open PySem PySem.Spec PyProof.Rows
open PySem.W (Frag)
set_option genInjectivity true in
inductive V where
 | non | bl (b:Bool) | int (i:Int) | str (x:Str) | byt (b:Array UInt8) | flt (b:UInt64) | ref (a:Addr) | ty (n:String)
 deriving DecidableEq
noncomputable def be:V->Value->Prop
 | .non,u=>u=Value.none
 | .bl b,u=>u=Value.bool b
 | .int i,u=>∃ t,u=Value.int i t
 | .str x,u=>∃ t,u=Value.str x t
 | .byt b,u=>∃ t,u=Value.bytes b t
 | .flt b,u=>∃ t,u=Value.float b t
 | .ref a,u=>u=Value.ref a
 | .ty n,u=>u=Value.type n
noncomputable abbrev bf:List V->List Value->Prop:=Paired be
theorem bf.length {xs:List V} {us:List Value} (r:bf xs us):xs.length=us.length:=Paired.length r
theorem bf.get {xs:List V} {us:List Value} {i:Nat} {x:V} (h:bf xs us) (e:xs[i]?=some x):∃ u,us[i]?=some u/\be x u:=by
 induction h generalizing i with
 | nil=>cases e
 | cons r _ ih=>
  cases i with
  | zero=>cases e;exact ⟨_,rfl,r⟩
  | succ i=>exact ih (i:=i) e
theorem bf.append {xs ys:List V} {us ws:List Value} (h:bf xs us) (s:bf ys ws):bf (xs++ys) (us++ws):=by
 induction h with
 | nil=>exact s
 | cons r _ ih=>exact .cons r ih
theorem bf.take {xs:List V} {us:List Value} (n:Nat) (h:bf xs us):bf (xs.take n) (us.take n):=by
 induction h generalizing n with
 | nil=>cases n <;> exact .nil
 | cons r _ ih=>
  cases n with
  | zero=>exact .nil
  | succ n=>exact .cons r (ih n)
theorem bf.drop {xs:List V} {us:List Value} (n:Nat) (h:bf xs us):bf (xs.drop n) (us.drop n):=by
 induction h generalizing n with
 | nil=>cases n <;> exact .nil
 | cons r t ih=>
  cases n with
  | zero=>exact .cons r t
  | succ n=>exact ih n
noncomputable def gZ:Option V->Option Value->Prop
 | some v,some u=>be v u
 | none,none=>True
 | _,_=>False
noncomputable def KV {κ:Type}:List (κ×V)->List (κ×Value)->Prop:=Paired λ (p:κ×V) (q:κ×Value)=>p.1=q.1/\be p.2 q.2
noncomputable def gP (P:Program) (w:World) (h:Heap) (a:Addr) (kvs:List (bz×Value)):Prop:=
 ∃ o es ep,h.get? a=some o/\o.ExactDict/\o.data=.dict es ep/\ep=es.size/\KeysOf (aT P w) es/\Pairs (aT P w) es.toList kvs/\(kvs.map (·.1)).Nodup
theorem gP.of {P:Program} {w:World} {h:Heap} {a:Addr} {kvs:List (bz×Value)} (x:gP P w h a kvs):h.DictOf (aT P w) a kvs:=by
 obtain ⟨o,es,ep,h1,h2,h3,_,h5⟩:=x
 exact ⟨o,es,ep,h1,h2,h3,h5⟩
noncomputable def kV:bz->V
 | .inl i=>.int i
 | .inr x=>.str x
inductive HO where
 | lst (xs:List V)
 | tup (xs:List V)
 | dK (kvs:List (bz×V)) | dT (kvs:List (List bz×V)) | dN (kvs:List (List bz×V))
 | set (S:Int->Bool) (n:Nat)
 | ins (C dx:Addr) (fs:List (Str×V))
 | own (x:Addr)
 | xd (fs:List (Str×V))
 | met (f x:Addr)
 | rng (lo hi:Int)
 | frz (o:Obj) (u:HO)
 | tbl (ps:Array Value)
 | ext (φ:Heap->Prop)
noncomputable abbrev Hp:=Addr->Option HO
noncomputable def nV (H:Hp) (ks:List bz) (v:Value):Prop:=(ks=[]/\v=.none)∨(ks≠[]/\∃ b,v=.ref b/\H b=some (.tup (ks.map kV)))
noncomputable def cq (H:Hp) (a:Addr) (o:HO):Hp:=λ b=>if b=a then some o else H b
theorem aJ {H:Hp} {a:Addr} {o:HO}:cq H a o a=some o:=by unfold cq;rw [if_pos rfl]
theorem aD {H:Hp} {a b:Addr} {o:HO} (h:b≠a):cq H a o b=H b:=by unfold cq;rw [if_neg h]
theorem Fd {H:Hp} {a b:Addr} {o u:HO} (h:H a=some o) (h':H b=some u) (d:o≠u):a≠b:=by
 intro e;subst e;rw [h] at h';exact d (Option.some.inj h')
theorem bv {H:Hp} {a b:Addr} {o:HO} (h:H a=some o) (h':H b=none):a≠b:=by
 intro e;subst e;rw [h] at h';cases h'
section
variable (P:Program) (w:World)
noncomputable def cn (H:Hp) (h:Heap) (a:Addr):HO->Prop
 | .lst xs=>xs.length<=sizeLine/\∃ (its:List Value) (n:Nat),bf xs its/\h.get? a=some { cls:=.type "list", data:=.seq its.toArray n }
 | .tup xs=>xs.length<=sizeLine/\∃ its:List Value,bf xs its/\IsTup h a its.toArray
 | .dK kvs=>kvs.length<=sizeLine/\(a==sysModules)=false/\∃ vs,KV kvs vs/\gP P w h a vs
 | .dT kvs=>kvs.length<=sizeLine/\(a==sysModules)=false/\∃ xs:List (List bz×Addr×Value),
  Paired (λ (p:List bz×V) (q:List bz×Addr×Value)=>p.1=q.1/\H q.2.1=some (.tup (p.1.map kV))/\be p.2 q.2.2) kvs xs/\
  ∃ o es ep,h.get? a=some o/\o.ExactDict/\o.data=.dict es ep/\es.toList=xs.map (entryOfKey (tupleKind (aT P w)))/\(xs.map (·.1)).Nodup
 | .dN kvs=>kvs.length<=sizeLine/\(a==sysModules)=false/\∃ xs:List (List bz×Value×Value),
  Paired (λ (p:List bz×V) (q:List bz×Value×Value)=>p.1=q.1/\nV H p.1 q.2.1/\be p.2 q.2.2) kvs xs/\
  ∃ o es ep,h.get? a=some o/\o.ExactDict/\o.data=.dict es ep/\es.toList=xs.map (nE P w)/\(xs.map (·.1)).Nodup
 | .set S n=>h.SetOf (intKind P w) a S n
 | .ins C dx fs=>H dx=some (.own a)/\fs.length<=1000/\dx≠a/\h.get? a=some (PySem.W.instObj C dx)/\
  ∃ mA,h.Ns1 dx mA/\(∀ f,gZ (fs.lookup f) (mA f))/\PySem.Within mA (fs.map (·.1))
 | .own _=>∃ o,h.get? a=some o
 | .xd fs=>∃ mA,h.Ns1 a mA/\∀ f,gZ (fs.lookup f) (mA f)
 | .rng lo hi=>∃ t u v,h.get? a=some { cls:=.type "range", data:=.fields #[.int lo t,.int hi u,.int 1 v] }
 | .frz o u=>h.get? a=some o/\cn H h a u
 | .tbl ps=>h.get? a=some { cls:=.none,data:=.fields ps }
 | .met f x=>h.get? a=some (PySem.W.methodObj (.ref f) (.ref x))
 | .ext φ=>φ h/\(∃ o,h.get? a=some o)/\∀ h1 h2:Heap,φ h1->(∀ o,h1.get? a=some o->h2.get? a=some o)->φ h2
noncomputable def gE (H:Hp) (h:Heap):Prop:=∀ a o,H a=some o->cn P w H h a o
end
section
variable {P:Program} {w:World} {H H':Hp} {h h':Heap} {a:Addr} {o:HO}
theorem cn.lt (x:cn P w H h a o):a<h.objs.size:=by
 cases o with
 | lst xs=>obtain ⟨_,_,_,_,e⟩:=x;exact Heap.lt_size e
 | tup xs=>obtain ⟨_,_,_,p⟩:=x;exact p.lt
 | dK kvs=>obtain ⟨_,_,_,_,o,_,_,e,_⟩:=x;exact Heap.lt_size e
 | dT kvs=>obtain ⟨_,_,_,_,o,_,_,e,_⟩:=x;exact Heap.lt_size e
 | dN kvs=>obtain ⟨_,_,_,_,o,_,_,e,_⟩:=x;exact Heap.lt_size e
 | set S n=>obtain ⟨o,_,_,_,e,_⟩:=x;exact Heap.lt_size e
 | ins C dx fs=>obtain ⟨_,_,_,e,_⟩:=x;exact Heap.lt_size e
 | own y=>obtain ⟨_,e⟩:=x;exact Heap.lt_size e
 | xd fs=>obtain ⟨_,⟨_,_,_,e,_⟩,_⟩:=x;exact Heap.lt_size e
 | rng lo hi=>obtain ⟨_,_,_,e⟩:=x;exact Heap.lt_size e
 | frz ob u=>obtain ⟨e,_⟩:=x;exact Heap.lt_size e
 | tbl ps=>exact Heap.lt_size (show h.get? a=some _ from x)
 | met f y=>exact Heap.lt_size (show h.get? a=some _ from x)
 | ext φ=>obtain ⟨_,⟨_,e⟩,_⟩:=x;exact Heap.lt_size e
theorem Paired.mapP {α β:Type} {F G:α->β->Prop} {l₁:List α} {l₂:List β} (h:Paired F l₁ l₂) (f:∀ a b,F a b->G a b):Paired G l₁ l₂:=by
 induction h with
 | nil=>exact .nil
 | cons r _ ih=>exact .cons (f _ _ r) ih
theorem cn.stay (x:cn P w H h a o) (k:∀ b u,(b=a∨H b=some (.own a))->h.get? b=some u->h'.get? b=some u)
 (ho:∀ b,H b=some (.own a)->H' b=some (.own a)) (ht:∀ b xs,H b=some (.tup xs)->H' b=some (.tup xs)):cn P w H' h' a o:=by
 induction o with
 | lst xs=>obtain ⟨z,its,n,r,e⟩:=x;exact ⟨z,its,n,r,k _ _ (.inl rfl) e⟩
 | tup xs=>obtain ⟨z,its,r,ob,e,c⟩:=x;exact ⟨z,its,r,ob,k _ _ (.inl rfl) e,c⟩
 | dK kvs=>obtain ⟨z,y,vs,r,ob,es,ep,e,c⟩:=x;exact ⟨z,y,vs,r,ob,es,ep,k _ _ (.inl rfl) e,c⟩
 | dT kvs=>
  obtain ⟨z,y,xs,r,ob,es,ep,e,c⟩:=x
  exact ⟨z,y,xs,Paired.mapP r λ p q z=>⟨z.1,ht _ _ z.2.1,z.2.2⟩,ob,es,ep,k _ _ (.inl rfl) e,c⟩
 | dN kvs=>
  obtain ⟨z,y,xs,r,ob,es,ep,e,c⟩:=x
  exact ⟨z,y,xs,Paired.mapP r λ p q z=>⟨z.1,z.2.1.imp id λ hy0=>by obtain ⟨n,b,e1,e2⟩:=hy0;exact ⟨n,b,e1,ht _ _ e2⟩,z.2.2⟩,ob,es,ep,k _ _ (.inl rfl) e,c⟩
 | set S n=>obtain ⟨ob,es,ep,t,e,c⟩:=x;exact ⟨ob,es,ep,t,k _ _ (.inl rfl) e,c⟩
 | ins C dx fs=>
  obtain ⟨d,z,ne,e,mA,⟨od,es,ep,e2,c⟩,r⟩:=x
  exact ⟨ho _ d,z,ne,k _ _ (.inl rfl) e,mA,⟨od,es,ep,k _ _ (.inr d) e2,c⟩,r⟩
 | own y=>obtain ⟨ob,e⟩:=x;exact ⟨ob,k _ _ (.inl rfl) e⟩
 | xd fs=>obtain ⟨mA,⟨od,es,ep,e,c⟩,r⟩:=x;exact ⟨mA,⟨od,es,ep,k _ _ (.inl rfl) e,c⟩,r⟩
 | rng lo hi=>obtain ⟨t,u,v,e⟩:=x;exact ⟨t,u,v,k _ _ (.inl rfl) e⟩
 | frz ob u ih=>obtain ⟨e,q⟩:=x;exact ⟨k _ _ (.inl rfl) e,ih q⟩
 | tbl ps=>
  have e:h.get? a=some { cls:=.none,data:=.fields ps }:=x
  show h'.get? a=some { cls:=.none,data:=.fields ps }
  exact k a _ (.inl rfl) e
 | met f y=>
  have e:h.get? a=some (PySem.W.methodObj (.ref f) (.ref y)):=x
  show h'.get? a=some (PySem.W.methodObj (.ref f) (.ref y))
  exact k a _ (.inl rfl) e
 | ext φ=>obtain ⟨p,⟨o,e⟩,st⟩:=x;exact ⟨st _ _ p λ o q=>k _ _ (.inl rfl) q,⟨o,k _ _ (.inl rfl) e⟩,st⟩
theorem gE.lt (x:gE P w H h) (e:H a=some o):a<h.objs.size:=(x a o e).lt
theorem gE.fresh (x:gE P w H h) (e:h.objs.size<=a):H a=none:=by
 cases q:H a with
 | none=>rfl
 | some u=>exact absurd (Nat.lt_of_lt_of_le (x.lt q) e) (Nat.lt_irrefl _)
theorem gE.kept (x:gE P w H h) (k:∀ b u,h.get? b=some u->h'.get? b=some u):gE P w H h':=λ a o e=>
 (x a o e).stay (λ b u _ q=>k b u q) (λ _ q=>q) λ _ _ q=>q
theorem gE.laid (x:gE P w H h) (k:∀ b u,h.get? b=some u->h'.get? b=some u) (hp:h.objs.size<=a) (new:cn P w (cq H a o) h' a o):gE P w (cq H a o) h':=λ b u e=>by
 have hn:=x.fresh hp
 by_cases hb:b=a
 . subst hb;rw [aJ] at e;cases e;exact new
 . rw [aD hb] at e
   exact (x b u e).stay (λ c v _ q=>k c v q) (λ c q=>by rw [aD (bv q hn)];exact q) λ c xs q=>by rw [aD (bv q hn)];exact q
end
noncomputable def Rd (H:Hp) (a:Addr) (u:HO):Prop:=H a=some u∨∃ o,H a=some (.frz o u)
theorem Rd.ok {P:Program} {w:World} {H:Hp} {h:Heap} {a:Addr} {u:HO} (r:Rd H a u) (x:gE P w H h):cn P w H h a u:=by
 rcases r with r | ⟨o,r⟩
 . exact x a u r
 . obtain ⟨_,q⟩:=x a _ r
   exact q
noncomputable def DC:Option HO->Prop
 | some (.lst _)=>True
 | some (.dK _)=>True
 | some (.dT _)=>True
 | some (.dN _)=>True
 | some (.set _ _)=>True
 | some (.ins _ _ _)=>True
 | some (.ext _)=>True
 | _=>False
section
variable {P:Program} {w:World} {H:Hp} {h h':Heap} {x e:Addr} {o':HO}
theorem gE.write (ok:gE P w H h) (mu:DC (H x)) (he:e=x∨H e=some (.own x)) (k:∀ b u,b≠e->h.get? b=some u->h'.get? b=some u) (heo:∃ u,h'.get? e=some u)
 (new:cn P w (cq H x o') h' x o'):gE P w (cq H x o') h':=λ b u q=>by
 have nown:∀ c y,H c=some (.own y)->c≠x:=λ c y r z=>by subst z;rw [r] at mu;exact mu
 have ntup:∀ c xs,H c=some (.tup xs)->c≠x:=λ c xs r z=>by subst z;rw [r] at mu;exact mu
 by_cases hb:b=x
 . subst hb;rw [aJ] at q;cases q;exact new
 . rw [aD hb] at q
   by_cases hbe:b=e
   . have q':H b=some (.own x):=by
      rcases he with z | z
      . exact absurd (hbe.trans z) hb
      . rw [hbe];exact z
     rw [q] at q';cases q'
     obtain ⟨v,hv⟩:=heo
     exact ⟨v,by rw [hbe];exact hv⟩
   . refine (ok b u q).stay (λ c v hc r=>k c v ?_ r) (λ c r=>by rw [aD (nown c b r)];exact r) λ c xs r=>by rw [aD (ntup c xs r)];exact r
     rcases hc with rfl | hc
     . exact hbe
     . rintro rfl
       rcases he with z | z
       . exact nown c b hc z
       . rw [hc] at z;cases z;exact hb rfl
end
structure Un (fs ex:List Addr) (H H':Hp) (h h':Heap):Prop where
 keep:∀ b o,h.get? b=some o->H b=none->b∉fs->b∉ex->h'.get? b=some o
 slot:∀ b o,h.get? b=some o->H b=none->b∈fs->b∉ex->∃ sl,h'.get? b=some { o with slots:=sl }
 free:∀ b o,h.get? b=some o->H b=none->b∉ex->H' b=none
 there:∀ b o,h.get? b=some o->b∉ex->∃ o',h'.get? b=some o'
 tups:∀ b xs,H b=some (.tup xs)->H' b=some (.tup xs)
 frzs:∀ b o u,H b=some (.frz o u)->H' b=some (.frz o u)
 tbls:∀ b ps,H b=some (.tbl ps)->∃ more,H' b=some (.tbl (ps++more))
section
variable {fs fs' ex ex':List Addr} {H H1 H2:Hp} {h h1 h2 h':Heap} {a x e:Addr} {o:HO}
theorem Un.any (u:Un fs ex H H1 h h1) {b:Addr} {ob:Obj} (q:h.get? b=some ob) (n:H b=none) (hx:b∉ex):∃ sl,h1.get? b=some { ob with slots:=sl }:=by
 by_cases hb:b∈fs
 . exact u.slot b ob q n hb hx
 . exact ⟨ob.slots,u.keep b ob q n hb hx⟩
theorem Un.kept (k:∀ b u,h.get? b=some u->h'.get? b=some u):Un fs ex H H h h':=
 ⟨λ b ob q _ _ _=>k b ob q,λ b ob q _ _ _=>⟨ob.slots,k b ob q⟩,λ _ _ _ n _=>n,λ b ob q _=>⟨ob,k b ob q⟩,λ _ _ q=>q,λ _ _ _ q=>q,λ _ ps q=>⟨#[],by rw [q];simp⟩⟩
theorem Un.refl:Un fs ex H H h h:=Un.kept λ _ _ q=>q
theorem Un.laid (k:∀ b u,h.get? b=some u->h'.get? b=some u) (hp:h.objs.size<=a) (hn:H a=none):Un fs ex H (cq H a o) h h' where
 keep:=λ b u q _ _ _=>k b u q
 slot:=λ b u q _ _ _=>⟨u.slots,k b u q⟩
 free:=λ b u q n _=>by rw [aD (Nat.ne_of_lt (Nat.lt_of_lt_of_le (Heap.lt_size q) hp))];exact n
 there:=λ b u q _=>⟨u,k b u q⟩
 tups:=λ b xs q=>by rw [aD (bv q hn)];exact q
 frzs:=λ b u xs q=>by rw [aD (bv q hn)];exact q
 tbls:=λ b ps q=>⟨#[],by rw [aD (bv q hn),q];simp⟩
theorem Un.write (mu:DC (H x)) (he:e=x∨H e=some (.own x)) (k:∀ b u,b≠e->h.get? b=some u->h'.get? b=some u) (heo:∃ u,h'.get? e=some u):Un fs ex H (cq H x o) h h':=by
 have hx:∀ b,H b=none->b≠x:=λ b n z=>by subst z;rw [n] at mu;exact mu
 have hb:∀ b,H b=none->b≠e:=λ b n z=>by
  subst z
  rcases he with r | r
  . exact hx b n r
  . rw [n] at r;cases r
 have hm:∀ b u,H b=some u->¬ DC (some u)->b≠x:=λ b u q nm z=>by subst z;rw [q] at mu;exact nm mu
 refine ⟨λ b u q n _ _=>k b u (hb b n) q,λ b u q n _ _=>⟨u.slots,k b u (hb b n) q⟩,λ b u q n _=>by rw [aD (hx b n)];exact n,λ b u q _=>?_,
  λ b xs q=>by rw [aD (hm b _ q λ z=>z)];exact q,λ b u xs q=>by rw [aD (hm b _ q λ z=>z)];exact q,λ b ps q=>⟨#[],by rw [aD (hm b _ q λ z=>z),q];simp⟩⟩
 by_cases hbe:b=e
 . subst hbe;exact heo
 . exact ⟨u,k b u hbe q⟩
end
noncomputable def wZ (h:Heap) (H:Hp):List Addr:=(List.range h.objs.size).filter λ a=>(H a).isSome
noncomputable def oj (h:Heap) (H:Hp):Heap:=PySem.W.hideAll h (wZ h H)
theorem sX (h:Heap) (H:Hp):(oj h H).objs.size=h.objs.size:=PySem.W.hideAll_size _ _
theorem wR {h:Heap} {H:Hp} {b:Addr} {o:Obj} (e:h.get? b=some o) (n:H b=none):(oj h H).get? b=some o:=
 PySem.W.hideAll_get _ e λ hm=>by
  have q:(H b).isSome=true:=(List.mem_filter.mp hm).2
  rw [n] at q;simp at q
theorem xq {h:Heap} {H:Hp} {b:Addr} {o:Obj} (e:(oj h H).get? b=some o):h.get? b=some o/\H b=none:=by
 have e':h.get? b=some o:=PySem.W.of_hideAll (wZ h H) e
 refine ⟨e',?_⟩
 cases q:H b with
 | none=>rfl
 | some x=>
  have hm:b∈wZ h H:=List.mem_filter.mpr ⟨List.mem_range.mpr (Heap.lt_size e'),by simp [q]⟩
  have z:(oj h H).get? b=none:=PySem.W.hideAll_none (wZ h H) hm
  rw [z] at e;cases e
noncomputable def xx (g h:Heap) (L:Addr):List (Addr×Obj):=(List.range h.objs.size).filterMap λ a=>if a=L∨(g.get? a).isSome=true then none else (h.get? a).map λ o=>(a,o)
noncomputable def m8 (g h:Heap) (L d:Addr):List (Addr×Obj):=(xx g h L).filter λ p=>decide (p.1≠d)
end L2
namespace L2
open PySem PySem.Spec PyProof.Rows
open PySem.W (Frag)
structure Mod (K:Frag) (mg:Str->Option Value) (base:Heap):Prop where
 kin:K.In base
 glob:base.Ns mainGlobals mg
 blt:∃ mb,base.Ns builtinsNs mb/\∀ x:Str,x ≠ "__name__" -> mb x=bootBuiltins x
 nolimit:base.NoLimit
structure Cx where
 prog:Program
 w:World
 K:Frag
 mg:Str->Option Value
 base:Heap
 A:Around
 N:List Str
 s₀:Shared
 H₀:Hp
 env:Env
 outer:List Env
 stack:List Env
 ex:List Addr
 fn:Str->Bool
 calm:Bool
 pn:List (Addr×Obj)
 xe:Value->Shared->Prop
noncomputable def hZ (l:List Env):List Addr:=l.filterMap (·.frame)
noncomputable abbrev Cx.fs (X:Cx):List Addr:=hZ X.outer
noncomputable def FX (sc:Scope) (x:Str):Prop:=sc.names.lookup x=some .local∨sc.names.lookup x=some .cell∨sc.names.lookup x=some .free
noncomputable def At (sc:Scope) (x:Str):Prop:=sc.names.lookup x=some .local∨sc.names.lookup x=some .cell
noncomputable def Hg (env:Env) (h:Heap) (m:Str->Option Value) (x:Str) (u:Value):Prop:=
 (env.kindOf x=some .local/\m x=some u)∨((env.kindOf x=some .cell∨env.kindOf x=some .free)/\∃ c,env.cells.lookup x=some c/\h.IsCell c (some u))
structure Cx.Ok (X:Cx):Prop where
 mod:Mod X.K X.mg X.base
 kind:X.env.scope.kind=.function
 glob:X.env.globals=mainGlobals
 blt:X.env.builtins=builtinsNs
 above:X.s₀.heap.objs.size<=X.env.locals
 inj:∀ x y c,X.env.cells.lookup x=some c->X.env.cells.lookup y=some c->x=y
 has:∀ x,(X.env.kindOf x=some .cell∨X.env.kindOf x=some .free)->∃ c,X.env.cells.lookup x=some c
 cab:∀ x c,X.fn x=true->X.env.cells.lookup x=some c->X.s₀.heap.objs.size<=c
 hd:X.calm=true->X.A.handled=none
 frames:X.A.frames=some X.stack
 stk:X.stack=X.outer∨(X.stack=X.env::X.outer/\X.env.frame=some X.env.locals)
 exf:∀ b∈X.ex,b≠X.env.locals/\∀ x c,X.env.cells.lookup x=some c->c≠b
 bs:∀ b o,X.base.get? b=some o->X.s₀.heap.get? b=some o/\X.H₀ b=none
 bsz:X.base.objs.size<=X.s₀.heap.objs.size
 noex:∀ b o,X.base.get? b=some o->b∉X.ex
 exfs:∀ b∈X.ex,b∉X.fs
 funs:X.s₀.heap.FunFrames X.base X.outer
 frf:∀ b∈X.fs,X.H₀ b=none
structure aI (X:Cx) (pins:List (Addr×Obj)) (σ:List (Option V)) (H:Hp) (s:Shared):Prop where
 ok:X.Ok
 os:s.os=X.s₀.os
 bare:AllBare s.gens
 base:Un X.fs X.ex X.H₀ H X.s₀.heap s.heap
 loc:∃ m,s.heap.Ns X.env.locals m/\∀ (i:Nat) (x:Str) (v:V),X.N[i]?=some x->σ[i]?=some (some v)->FX X.env.scope x->∃ u,be v u/\Hg X.env s.heap m x u
 cell:∀ x c,X.env.cells.lookup x=some c->∃ v,s.heap.IsCell c v
 free:H X.env.locals=none
 freeC:∀ x c,X.env.cells.lookup x=some c->H c=none
 pin:∀ p∈X.pn++pins,s.heap.get? p.1=some p.2/\H p.1=none/\p.1≠X.env.locals/\p.1∉X.fs/\∀ v,p.2.data≠.cell v
 hok:gE X.prog X.w H s.heap
 len:σ.length=X.N.length
section
variable {X:Cx} {pins:List (Addr×Obj)} {σ:List (Option V)} {H H':Hp} {s:Shared} {h':Heap}
theorem Cx.Ok.nofr (ok:X.Ok) {b:Addr} {o:Obj} (e:X.base.get? b=some o):b∉X.fs:=λ hb=>by
 have:=(ok.funs.mem hb).1
 rw [e] at this;cases this
theorem aI.bs (I:aI X pins σ H s):∀ b o,X.base.get? b=some o->s.heap.get? b=some o/\H b=none:=λ b o e=>
 ⟨I.base.keep b o (I.ok.bs b o e).1 (I.ok.bs b o e).2 (I.ok.nofr e) (I.ok.noex b o e),I.base.free b o (I.ok.bs b o e).1 (I.ok.bs b o e).2 (I.ok.noex b o e)⟩
theorem aI.bk (I:aI X pins σ H s):∀ b o,X.base.get? b=some o->s.heap.get? b=some o:=λ b o e=>(I.bs b o e).1
theorem aI.mod (I:aI X pins σ H s):Mod X.K X.mg X.base:=I.ok.mod
theorem aI.kIn (I:aI X pins σ H s):X.K.In s.heap:=I.ok.mod.kin.keeps I.bk
theorem aI.lt (I:aI X pins σ H s):X.env.locals<s.heap.objs.size:=by obtain ⟨_,hn,_⟩:=I.loc;exact hn.lt
theorem aI.sz (I:aI X pins σ H s):X.s₀.heap.objs.size<=s.heap.objs.size:=Nat.le_trans I.ok.above (Nat.le_of_lt I.lt)
theorem aI.nofs (I:aI X pins σ H s) {a:Addr} (h:s.heap.objs.size<=a):a∉X.fs:=λ hb=>by
 obtain ⟨_,o,ho,_⟩:=I.ok.funs.mem hb
 exact absurd (Nat.lt_of_lt_of_le (Heap.lt_size ho) (Nat.le_trans I.sz h)) (Nat.lt_irrefl _)
theorem aI.cne (I:aI X pins σ H s):∀ x c,X.env.cells.lookup x=some c->c≠X.env.locals:=λ x c e z=>by
 obtain ⟨v,o,ho,hd⟩:=I.cell x c e
 obtain ⟨m,⟨o',es,ep,ho',hd',_⟩,_⟩:=I.loc
 rw [z,ho'] at ho;cases ho;rw [hd'] at hd;cases hd
theorem aI.funs (I:aI X pins σ H s):s.heap.FunFrames X.base X.outer:=by
 have all:∀ (l:List Env),(∀ b∈hZ l,b∈X.fs)->X.s₀.heap.FunFrames X.base l->s.heap.FunFrames X.base l:=by
  intro l
  induction l with
  | nil=>intro _ _;trivial
  | cons env r ih=>
   intro hs hl
   obtain ⟨hk,⟨L,o,hf,hn,ho,hd⟩,hr⟩:=hl
   have hL:L∈X.fs:=hs L (by unfold hZ;rw [List.filterMap_cons,hf];exact List.mem_cons_self)
   obtain ⟨sl,e⟩:=I.base.slot L o ho (I.ok.frf L hL) hL λ z=>I.ok.exfs L z hL
   exact ⟨hk,⟨L,_,hf,hn,e,hd⟩,ih (λ b hb=>hs b (by unfold hZ;rw [List.filterMap_cons,hf];exact List.mem_cons_of_mem _ hb)) hr⟩
 exact all X.outer (λ _ hb=>hb) I.ok.funs
theorem aI.stack (I:aI X pins σ H s):s.heap.FunFrames X.base X.stack:=by
 rcases I.ok.stk with e | ⟨e,hf⟩
 . rw [e];exact I.funs
 . rw [e]
   obtain ⟨m,hn,_⟩:=I.loc
   refine .cons (by rw [I.ok.kind];decide) hf hn ?_ I.funs
   exact Heap.get?_none_of_le (Nat.le_trans I.ok.bsz I.ok.above)
theorem aI.stkSub (I:aI X pins σ H s):∀ b∈hZ X.stack,b∈X.env.locals::X.fs:=λ b hb=>by
 rcases I.ok.stk with e | ⟨e,hf⟩
 . rw [e] at hb;exact List.mem_cons_of_mem _ hb
 . rw [e] at hb
   unfold hZ at hb
   rw [List.filterMap_cons,hf] at hb
   exact hb
theorem aI.stkFree (I:aI X pins σ H s):∀ b∈hZ X.stack,H b=none:=λ b hb=>by
 rcases List.mem_cons.mp (I.stkSub b hb) with e | hb
 . rw [e];exact I.free
 . obtain ⟨_,o,ho,_⟩:=I.ok.funs.mem hb
   exact I.base.free b o ho (I.ok.frf b hb) λ z=>I.ok.exfs b z hb
theorem aI.step {g':Array GenState} {t':Nat} {d':Drawn} {ch:List Addr} (I:aI X pins σ H s)
 (hch:∀ b∈ch,(b∈X.ex∨X.s₀.heap.objs.size<=b)/\b≠X.env.locals/\(∀ x c,X.env.cells.lookup x=some c->c≠b)/\∀ p∈X.pn++pins,p.1≠b)
 (keep:∀ b o,b≠X.env.locals->b∉X.fs->b∉ch->s.heap.get? b=some o->H b=none->h'.get? b=some o)
 (slot:∀ b o,b≠X.env.locals->b∈X.fs->b∉ch->s.heap.get? b=some o->H b=none->∃ sl,h'.get? b=some { o with slots:=sl }) (free:∀ b o,b∉ch->s.heap.get? b=some o->H b=none->H' b=none)
 (there:∀ b o,b∉ch->s.heap.get? b=some o->∃ o',h'.get? b=some o')
 (tups:∀ b xs,H b=some (.tup xs)->H' b=some (.tup xs)) (frzs:∀ b o u,H b=some (.frz o u)->H' b=some (.frz o u)) (tbls:∀ b ps,H b=some (.tbl ps)->∃ more,H' b=some (.tbl (ps++more)))
 (ns:∀ m,s.heap.Ns X.env.locals m->h'.Ns X.env.locals m) (hok:gE X.prog X.w H' h') (hg:AllBare g'):
 aI X pins σ H' { s with heap:=h',gens:=g',drawn:=d',toks:=t' }:=by
 have neL:∀ b o,X.s₀.heap.get? b=some o->b≠X.env.locals:=λ b o e=>Nat.ne_of_lt (Nat.lt_of_lt_of_le (Heap.lt_size e) I.ok.above)
 have neC:∀ b o,X.s₀.heap.get? b=some o->b∉X.ex->b∉ch:=λ b o e hx hb=>by
  rcases (hch b hb).1 with z | z
  . exact hx z
  . exact absurd (Nat.lt_of_lt_of_le (Heap.lt_size e) z) (Nat.lt_irrefl _)
 have cellK:∀ x c,X.env.cells.lookup x=some c->∀ v,s.heap.IsCell c v->h'.IsCell c v:=λ x c e v hy0=>by
  obtain ⟨o,ho,hd⟩:=hy0
  have nch:c∉ch:=λ z=>(hch c z).2.2.1 x c e rfl
  by_cases hc:c∈X.fs
  . obtain ⟨sl,q⟩:=slot c o (I.cne x c e) hc nch ho (I.freeC x c e)
    exact ⟨_,q,hd⟩
  . exact ⟨o,keep c o (I.cne x c e) hc nch ho (I.freeC x c e),hd⟩
 refine ⟨I.ok,I.os,hg,⟨λ b o e n hb hx=>?_,λ b o e n hb hx=>?_,λ b o e n hx=>?_,λ b o e hx=>?_,λ b xs e=>tups b xs (I.base.tups b xs e),λ b o xs e=>frzs b o xs (I.base.frzs b o xs e),λ b ps e=>?_⟩,?_,λ x c e=>?_,?_,λ x c e=>?_,λ p hp=>?_,hok,I.len⟩
 . exact keep b o (neL b o e) hb (neC b o e hx) (I.base.keep b o e n hb hx) (I.base.free b o e n hx)
 . obtain ⟨sl,e1⟩:=I.base.slot b o e n hb hx
   obtain ⟨sl',e2⟩:=slot b _ (neL b o e) hb (neC b o e hx) e1 (I.base.free b o e n hx)
   exact ⟨sl',e2⟩
 . obtain ⟨o',e1⟩:=I.base.there b o e hx
   exact free b o' (neC b o e hx) e1 (I.base.free b o e n hx)
 . obtain ⟨o',e1⟩:=I.base.there b o e hx
   exact there b o' (neC b o e hx) e1
 . obtain ⟨m1,e1⟩:=I.base.tbls b ps e
   obtain ⟨m2,e2⟩:=tbls b _ e1
   exact ⟨m1++m2,by rw [e2,Array.append_assoc]⟩
 . obtain ⟨m,hn,hl⟩:=I.loc
   refine ⟨m,ns m hn,λ i x v e1 e2 e3=>?_⟩
   obtain ⟨u,r,l⟩:=hl i x v e1 e2 e3
   refine ⟨u,r,?_⟩
   rcases l with l | ⟨k,c,e,z⟩
   . exact .inl l
   . exact .inr ⟨k,c,e,cellK x c e _ z⟩
 . obtain ⟨v,z⟩:=I.cell x c e
   exact ⟨v,cellK x c e v z⟩
 . obtain ⟨m,⟨o,_,_,ho,_⟩,_⟩:=I.loc
   exact free _ o (λ z=>(hch _ z).2.1 rfl) ho I.free
 . obtain ⟨v,o,ho,hd⟩:=I.cell x c e
   exact free c o (λ z=>(hch c z).2.2.1 x c e rfl) ho (I.freeC x c e)
 . obtain ⟨e,n,ne,nf,d⟩:=I.pin p hp
   have nch:p.1∉ch:=λ z=>(hch p.1 z).2.2.2 p hp rfl
   exact ⟨keep p.1 p.2 ne nf nch e n,free p.1 p.2 nch e n,ne,nf,d⟩
theorem aI.un {t':Nat} (I:aI X pins σ H s) (u:Un X.fs [] H H' s.heap h') (hok:gE X.prog X.w H' h'):aI X pins σ H' { s with heap:=h',toks:=t' }:=by
 obtain ⟨m,⟨o,es,ep,ho,r⟩,_⟩:=id I.loc
 obtain ⟨sl,hL⟩:=u.any ho I.free (by simp)
 exact I.step (g':=s.gens) (d':=s.drawn) (ch:=[]) (λ _ z=>nomatch z) (λ b o _ hb _ e n=>u.keep b o e n hb (by simp)) (λ b o _ hb _ e n=>u.slot b o e n hb (by simp)) (λ b o _ e n=>u.free b o e n (by simp)) (λ b o _ e=>u.there b o e (by simp)) u.tups u.frzs u.tbls (λ m' hm=>by
  obtain ⟨o',es',ep',ho',r'⟩:=hm
  rw [ho] at ho';cases ho'
  exact ⟨_,es',ep',hL,r'⟩) hok I.bare
theorem aI.call {g':Array GenState} {t':Nat} {d':Drawn} {ch:List Addr} (I:aI X pins σ H s) (u:Un (hZ X.stack) ch H H' s.heap h') (hok:gE X.prog X.w H' h') (hg:AllBare g')
 (hch:∀ b∈ch,(b∈X.ex∨X.s₀.heap.objs.size<=b)/\b≠X.env.locals/\(∀ x c,X.env.cells.lookup x=some c->c≠b)/\∀ p∈X.pn++pins,p.1≠b):
 aI X pins σ H' { s with heap:=h',gens:=g',drawn:=d',toks:=t' }:=by
 obtain ⟨m,⟨o,es,ep,ho,r⟩,_⟩:=id I.loc
 obtain ⟨sl,hL⟩:=u.any ho I.free λ z=>(hch _ z).2.1 rfl
 exact I.step (ch:=ch) hch (λ b o hL hb hc e n=>u.keep b o e n (λ z=>(List.mem_cons.mp (I.stkSub b z)).elim hL hb) hc) (λ b o _ _ hc e n=>u.any e n hc) (λ b o hc e n=>u.free b o e n hc) (λ b o hc e=>u.there b o e hc) u.tups u.frzs u.tbls (λ m' hm=>by
  obtain ⟨o',es',ep',ho',r'⟩:=hm
  rw [ho] at ho';cases ho'
  exact ⟨_,es',ep',hL,r'⟩) hok hg
theorem aI.turned {t':Nat} {it:Addr} (I:aI X pins σ H s) (k:∀ b o,b≠it->s.heap.get? b=some o->h'.get? b=some o) (hn:H it=none) (hL:it≠X.env.locals)
 (h1:it∈X.ex∨X.s₀.heap.objs.size<=it) (h2:∀ x c,X.env.cells.lookup x=some c->c≠it) (h3:∀ p∈X.pn++pins,p.1≠it):aI X pins σ H { s with heap:=h',toks:=t' }:=by
 have nit:∀ b u,H b=some u->b≠it:=λ b u e z=>by rw [z,hn] at e;cases e
 refine I.step (g':=s.gens) (d':=s.drawn) (ch:=[it]) (λ b hb=>?_) (λ b o _ _ hc e _=>k b o (λ z=>hc (by simp [z])) e) (λ b o _ _ hc e _=>⟨o.slots,k b o (λ z=>hc (by simp [z])) e⟩) (λ _ _ _ _ n=>n)
  (λ b o hc e=>⟨o,k b o (λ z=>hc (by simp [z])) e⟩) (λ _ _ e=>e) (λ _ _ _ e=>e) (λ b ps e=>⟨#[],by rw [e];simp⟩) (λ m hm=>?_) (λ b u e=>?_) I.bare
 . have e:b=it:=by simpa using hb
   subst e
   exact ⟨h1,hL,h2,h3⟩
 . obtain ⟨o,es,ep,ho,r⟩:=hm
   exact ⟨o,es,ep,k _ o (Ne.symm hL) ho,r⟩
 . refine (I.hok b u e).stay (λ c v hc q=>k c v ?_ q) (λ _ q=>q) λ _ _ q=>q
   rcases hc with z | z
   . rw [z];exact nit b u e
   . exact nit c _ z
theorem aI.tok (I:aI X pins σ H s) (t:Nat):aI X pins σ H { s with toks:=t }:=I.un (h':=s.heap) (t':=t) Un.refl I.hok
theorem aI.kept {t':Nat} (I:aI X pins σ H s) (k:∀ b u,s.heap.get? b=some u->h'.get? b=some u):aI X pins σ H { s with heap:=h',toks:=t' }:=I.un (Un.kept k) (I.hok.kept k)
theorem aI.laid {a:Addr} {o:HO} {t':Nat} (I:aI X pins σ H s) (k:∀ b u,s.heap.get? b=some u->h'.get? b=some u) (hp:s.heap.objs.size<=a) (new:cn X.prog X.w (cq H a o) h' a o):
 aI X pins σ (cq H a o) { s with heap:=h',toks:=t' }:=I.un (Un.laid k hp (I.hok.fresh hp)) (I.hok.laid k hp new)
theorem aI.write {x e:Addr} {o:HO} {t':Nat} (I:aI X pins σ H s) (mu:DC (H x)) (he:e=x∨H e=some (.own x)) (k:∀ b u,b≠e->s.heap.get? b=some u->h'.get? b=some u) (heo:∃ u,h'.get? e=some u)
 (new:cn X.prog X.w (cq H x o) h' x o):aI X pins σ (cq H x o) { s with heap:=h',toks:=t' }:=I.un (Un.write mu he k heo) (I.hok.write mu he k heo new)
theorem aI.weak {σ':List (Option V)} (I:aI X pins σ H s) (hl:σ'.length=σ.length) (w:∀ (i:Nat) v,σ'[i]?=some (some v)->σ[i]?=some (some v)):aI X pins σ' H s:=
 ⟨I.ok,I.os,I.bare,I.base,by obtain ⟨m,hn,hl'⟩:=I.loc;exact ⟨m,hn,λ i x v e1 e2 e3=>hl' i x v e1 (w i v e2) e3⟩,I.cell,I.free,I.freeC,I.pin,I.hok,hl.trans I.len⟩
theorem aI.pins_of {pins':List (Addr×Obj)} (I:aI X pins σ H s) (h:∀ p∈pins',s.heap.get? p.1=some p.2/\H p.1=none/\p.1≠X.env.locals/\p.1∉X.fs/\∀ v,p.2.data≠.cell v):aI X pins' σ H s:=
 ⟨I.ok,I.os,I.bare,I.base,I.loc,I.cell,I.free,I.freeC,λ p hp=>(List.mem_append.mp hp).elim (λ z=>I.pin p (List.mem_append_left _ z)) (h p),I.hok,I.len⟩
theorem oX {N:List Str} (hN:N.Nodup) {i j:Nat} {x:Str} (a:N[i]?=some x) (b:N[j]?=some x):i=j:=by
 obtain ⟨h1,e1⟩:=oG a
 obtain ⟨h2,e2⟩:=oG b
 exact (List.getElem_inj hN).mp (e1.trans e2.symm)
theorem nu {M:Model} {A:Around} {E:Value->Shared->Prop} {i:Nat} {x:Str} {v:V} {u:Value} {Q:Unit->Shared->Prop} (I:aI X pins σ H s) (hN:X.N.Nodup) (hi:X.N[i]?=some x) (hx:At X.env.scope x) (r:be v u)
 (h:∀ s',aI X pins (σ.set i (some v)) H s'->(∃ a,Heap.SameBut a s.heap s'.heap/\(a=X.env.locals∨X.env.cells.lookup x=some a))->Q () s') (hf:X.fn x=true∨X.env.scope.names.lookup x=some .local:=by first | exact .inl rfl | exact .inr rfl | assumption):wpAny M A (storeName X.env x u) Q E s:=by
 obtain ⟨m,hn,hl⟩:=id I.loc
 have hcls:(X.env.scope.kind==.class||(X.env.scope.kind==.module&&X.env.locals != X.env.globals))=false:=by rw [I.ok.kind];rfl
 have hiσ:i<σ.length:=by rw [I.len];exact (oG hi).1
 have cne:=I.cne
 have tracked:∀ {a:Addr} {h':Heap},(∃ o,s.heap.get? a=some o/\H a=none)->Heap.SameBut a s.heap h'->gE X.prog X.w H h':=λ {a h'} ha hs b ob e=>by
  obtain ⟨_,_,hfree⟩:=ha
  refine (I.hok b ob e).stay (λ c w' hc q=>(hs.2 c ?_).trans q) (λ _ q=>q) λ _ _ q=>q
  rintro rfl
  rcases hc with rfl | hc
  . rw [hfree] at e;cases e
  . rw [hfree] at hc;cases hc
 rcases hx with hk | hk
 . refine wpAny_storeName_local hk hn (λ h' hn' hs=>?_) hcls
   obtain ⟨oL,_,_,hoL,_⟩:=id hn
   refine h _ ⟨I.ok,I.os,I.bare,⟨λ b o e n hb hx=>?_,λ b o e n hb hx=>?_,I.base.free,λ b o e hx=>?_,I.base.tups,I.base.frzs,I.base.tbls⟩,⟨_,hn',λ j y v' e1 e2 e3=>?_⟩,λ y c e=>?_,I.free,I.freeC,λ p hp=>?_,tracked ⟨oL,hoL,I.free⟩ hs,by simpa using I.len⟩ ⟨_,hs,.inl rfl⟩
   . exact (hs.2 b (Nat.ne_of_lt (Nat.lt_of_lt_of_le (Heap.lt_size e) I.ok.above))).trans (I.base.keep b o e n hb hx)
   . obtain ⟨sl,e1⟩:=I.base.slot b o e n hb hx
     exact ⟨sl,(hs.2 b (Nat.ne_of_lt (Nat.lt_of_lt_of_le (Heap.lt_size e) I.ok.above))).trans e1⟩
   . obtain ⟨o',e1⟩:=I.base.there b o e hx
     exact ⟨o',(hs.2 b (Nat.ne_of_lt (Nat.lt_of_lt_of_le (Heap.lt_size e) I.ok.above))).trans e1⟩
   . by_cases hj:j=i
     . subst hj
       rw [hi] at e1;cases e1
       rw [List.getElem?_set_self hiσ] at e2
       cases e2
       exact ⟨u,r,.inl ⟨hk,by simp⟩⟩
     . rw [List.getElem?_set_ne (Ne.symm hj)] at e2
       obtain ⟨u',r',q⟩:=hl j y v' e1 e2 e3
       refine ⟨u',r',?_⟩
       rcases q with ⟨k,e⟩ | ⟨k,c,e,z⟩
       . refine .inl ⟨k,?_⟩
         have:y≠x:=λ e=>hj (oX hN e1 (e▸hi))
         simp [this,e]
       . exact .inr ⟨k,c,e,z.sameBut hs (cne y c e)⟩
   . obtain ⟨w',z⟩:=I.cell y c e
     exact ⟨w',z.sameBut hs (cne y c e)⟩
   . obtain ⟨e,n,ne,nf,d⟩:=I.pin p hp
     exact ⟨(hs.2 p.1 ne).trans e,n,ne,nf,d⟩
 . have hfn:X.fn x=true:=by
    rcases hf with z | z
    . exact z
    . rw [z] at hk;cases hk
   obtain ⟨c,hc⟩:=I.ok.has x (.inl hk)
   obtain ⟨w',z⟩:=I.cell x c hc
   refine wpAny_storeName_cell I.ok.kind hk hc z (λ h' hc' hs=>?_)
   obtain ⟨oc,hoc,hocd⟩:=id z
   refine h { s with heap:=h' } ⟨I.ok,I.os,I.bare,⟨λ b o e n hb hx=>?_,λ b o e n hb hx=>?_,I.base.free,λ b o e hx=>?_,I.base.tups,I.base.frzs,I.base.tbls⟩,⟨m,hn.sameBut hs (Ne.symm (cne x c hc)),λ j y v' e1 e2 e3=>?_⟩,λ y c' e=>?_,I.free,I.freeC,λ p hp=>?_,tracked ⟨oc,hoc,I.freeC x c hc⟩ hs,by simpa using I.len⟩ ⟨c,hs,.inr hc⟩
   . exact (hs.2 b (Nat.ne_of_lt (Nat.lt_of_lt_of_le (Heap.lt_size e) (I.ok.cab x c hfn hc)))).trans (I.base.keep b o e n hb hx)
   . obtain ⟨sl,e1⟩:=I.base.slot b o e n hb hx
     exact ⟨sl,(hs.2 b (Nat.ne_of_lt (Nat.lt_of_lt_of_le (Heap.lt_size e) (I.ok.cab x c hfn hc)))).trans e1⟩
   . obtain ⟨o',e1⟩:=I.base.there b o e hx
     exact ⟨o',(hs.2 b (Nat.ne_of_lt (Nat.lt_of_lt_of_le (Heap.lt_size e) (I.ok.cab x c hfn hc)))).trans e1⟩
   . by_cases hj:j=i
     . subst hj
       rw [hi] at e1;cases e1
       rw [List.getElem?_set_self hiσ] at e2
       cases e2
       exact ⟨u,r,.inr ⟨.inl hk,c,hc,hc'⟩⟩
     . rw [List.getElem?_set_ne (Ne.symm hj)] at e2
       obtain ⟨u',r',q⟩:=hl j y v' e1 e2 e3
       refine ⟨u',r',?_⟩
       rcases q with q | ⟨k,c',e,z'⟩
       . exact .inl q
       . refine .inr ⟨k,c',e,z'.sameBut hs ?_⟩
         rintro rfl
         exact hj (oX hN e1 (I.ok.inj _ _ _ e hc▸hi))
   . by_cases hcc:c'=c
     . subst hcc;exact ⟨_,hc'⟩
     . obtain ⟨w2,z2⟩:=I.cell y c' e
       exact ⟨w2,z2.sameBut hs hcc⟩
   . obtain ⟨e,n,ne,nf,d⟩:=I.pin p hp
     refine ⟨(hs.2 p.1 ?_).trans e,n,ne,nf,d⟩
     intro q
     rw [q,hoc] at e
     have q':oc=p.2:=Option.some.inj e
     exact d w' (by rw [<-q'];exact hocd)
theorem pM {M:Model} {A:Around} {E:Value->Shared->Prop} {i:Nat} {x:Str} {v:V} {u:Value} {Q:Unit->Shared->Prop} (I:aI X pins σ H s) (hN:X.N.Nodup) (hi:X.N[i]?=some x) (hx:At X.env.scope x) (r:be v u)
 (h:∀ s',aI X pins (σ.set i (some v)) H s'->Q () s') (hf:X.fn x=true∨X.env.scope.names.lookup x=some .local:=by first | exact .inl rfl | exact .inr rfl | assumption):wpAny M A (storeName X.env x u) Q E s:=
 nu I hN hi hx r (λ s' I' _=>h s' I') hf
theorem aI.call' {s':Shared} {ch:List Addr} (I:aI X pins σ H s) (ho:s'.os=s.os) (u:Un (hZ X.stack) ch H H' s.heap s'.heap) (hok:gE X.prog X.w H' s'.heap) (hg:AllBare s'.gens)
 (hch:∀ b∈ch,(b∈X.ex∨X.s₀.heap.objs.size<=b)/\b≠X.env.locals/\(∀ x c,X.env.cells.lookup x=some c->c≠b)/\∀ p∈X.pn++pins,p.1≠b):aI X pins σ H' s':=by
 obtain ⟨h',g',d',t',o'⟩:=s'
 have e:o'=s.os:=ho
 subst e
 exact I.call (g':=g') (t':=t') (d':=d') u hok hg hch
end
noncomputable abbrev XK:=Value->Option Addr->Hp->Prop
noncomputable abbrev St:=List (Option V)
noncomputable abbrev VK:=V->Hp->Prop
noncomputable abbrev TE:=St->Hp->VK->Prop
noncomputable abbrev TT:=St->Hp->(Bool->Hp->Prop)->Prop
noncomputable abbrev TA:=St->Hp->(List V->Hp->Prop)->Prop
structure gY where
 nx:St->Hp->Prop
 rt:VK
 bk:St->Hp->Prop:=λ _ _=>False
 ct:St->Hp->Prop:=λ _ _=>False
noncomputable abbrev TS:=gY->St->Hp->Prop
noncomputable def EP (X:Cx) (pins:List (Addr×Obj)) (σ:St) (Q:VK) (u:Value) (s':Shared):Prop:=∃ v H',aI X pins σ H' s'/\be v u/\Q v H'
noncomputable def TP (X:Cx) (pins:List (Addr×Obj)) (σ:St) (Q:Bool->Hp->Prop) (b:Bool) (s':Shared):Prop:=∃ H',aI X pins σ H' s'/\Q b H'
noncomputable def AP (X:Cx) (pins:List (Addr×Obj)) (σ:St) (Q:List V->Hp->Prop) (us:List Value) (s':Shared):Prop:=∃ vs H',aI X pins σ H' s'/\bf vs us/\Q vs H'
noncomputable def SP (X:Cx) (pins:List (Addr×Obj)) (D:gY) (f:Flow) (s':Shared):Prop:=
 match f with
 | .next=>∃ σ' H',aI X pins σ' H' s'/\D.nx σ' H'
 | .brk=>∃ σ' H',aI X pins σ' H' s'/\D.bk σ' H'
 | .cont=>∃ σ' H',aI X pins σ' H' s'/\D.ct σ' H'
 | .ret u=>∃ v σ' H',aI X pins σ' H' s'/\be v u/\D.rt v H'
noncomputable def PE (X:Cx) (e:Expr) (t:TE):Prop:=
 ∀ (pins:List (Addr×Obj)) (s:Shared) (σ:St) (H:Hp) (Q:VK),aI X pins σ H s->t σ H Q->wpAny (model X.prog X.w) X.A (eval e X.env) (EP X pins σ Q) X.xe s
noncomputable def PT (X:Cx) (e:Expr) (t:TT):Prop:=
 ∀ (pins:List (Addr×Obj)) (s:Shared) (σ:St) (H:Hp) (Q:Bool->Hp->Prop),aI X pins σ H s->t σ H Q->wpAny (model X.prog X.w) X.A (isTrue e X.env (eval e X.env)) (TP X pins σ Q) X.xe s
noncomputable def PW (X:Cx) (e:Expr) (t:TT):Prop:=
 ∀ (whole:Sem Value) (pins:List (Addr×Obj)) (s:Shared) (σ:St) (H:Hp) (Q:Bool->Hp->Prop),aI X pins σ H s->t σ H Q->wpAny (model X.prog X.w) X.A (isTrue e X.env whole) (TP X pins σ Q) X.xe s
theorem PW.pt {X:Cx} {e:Expr} {t:TT} (h:PW X e t):PT X e t:=h _
noncomputable def PA (X:Cx) (es:List Expr) (t:TA):Prop:=
 ∀ (pos:Pos) (pins:List (Addr×Obj)) (s:Shared) (σ:St) (H:Hp) (Q:List V->Hp->Prop),aI X pins σ H s->t σ H Q->wpAny (model X.prog X.w) X.A (spliced (backTo pos (starEach es X.env))) (AP X pins σ Q) X.xe s
noncomputable def PS (X:Cx) (st:Stmt) (t:TS):Prop:=
 ∀ (pins:List (Addr×Obj)) (s:Shared) (σ:St) (H:Hp) (D:gY),aI X pins σ H s->t D σ H->wpAny (model X.prog X.w) X.A (exec st X.env) (SP X pins D) X.xe s
noncomputable def kN (X:Cx) (st:List Stmt) (t:TS):Prop:=
 ∀ (pins:List (Addr×Obj)) (s:Shared) (σ:St) (H:Hp) (D:gY),aI X pins σ H s->t D σ H->wpAny (model X.prog X.w) X.A (execs st X.env) (SP X pins D) X.xe s
theorem bK {α:Type} {t:Sem α} {Q Q':α->Shared->Prop} {M:Model} {A:Around} {E:Value->Shared->Prop} {s:Shared} (h:wpAny M A t Q E s) (hQ:∀ a s,Q a s->Q' a s):wpAny M A t Q' E s:=wpAny_mono h hQ λ _ _ x=>x
end L2
namespace L2
open PySem PySem.Spec PyProof.Rows
open PySem.W (Frag)
section
variable {X:Cx}
noncomputable def yz (i:Nat):TE:=λ σ H Q=>∃ v,σ[i]?=some (some v)/\Q v H
noncomputable def tC (v:V):TE:=λ _ H Q=>Q v H
theorem Gx {i:Nat} {x:Str} {pos:Pos} (hN:X.N[i]?=some x) (hv:FX X.env.scope x) (hd:(x==("__debug__" : Str))=false) (hcd:(x==("__classdict__" : Str))=false):PE X (.Name x pos) (yz i):=by
 intro pins s σ H Q I h
 obtain ⟨v,e,h⟩:=h
 obtain ⟨m,hn,hl⟩:=I.loc
 obtain ⟨u,r,l⟩:=hl i x v hN e hv
 have fin:EP X pins σ Q u s:=⟨v,H,I,r,h⟩
 rcases l with ⟨hk,hm⟩ | ⟨hk,c,hc,hcell⟩
 . exact wpAny_Name (wpAny_loadName_local I.ok.kind hk hn hm fin) hd
 . rcases hk with hk | hk
   . exact wpAny_Name (wpAny_loadName_cell I.ok.kind hk hc hcell fin) hd
   . exact wpAny_Name (wpAny_loadName_free I.ok.kind hk hc hcell fin hcd) hd
theorem Gv {i j pos}:PE X (.Constant (.int i) j pos) (tC (.int i)):=λ _ _ _ H _ I h=>wpAny_Constant_int ⟨.int i,H,I.tok _,⟨_,rfl⟩,h⟩
theorem HD {b j pos}:PE X (.Constant (.bool b) j pos) (tC (.bl b)):=λ _ _ _ H _ I h=>Constant_bool ⟨.bl b,H,I,rfl,h⟩
theorem Gz {j pos}:PE X (.Constant .none j pos) (tC .non):=λ _ _ _ H _ I h=>Constant_none ⟨.non,H,I,rfl,h⟩
theorem Hl {x j pos}:PE X (.Constant (.str x) j pos) (tC (.str x)):=λ _ _ _ H _ I h=>Calls.Constant_str ⟨.str x,H,I.tok _,⟨_,rfl⟩,h⟩
noncomputable def Gl (X:Cx) (x:Str):Prop:=X.env.kindOf x=some .globalImplicit
theorem fI {E:Value->Shared->Prop} {pins:List (Addr×Obj)} {s:Shared} {σ:St} {H:Hp} {x:Str} {u:Value} {pos:Pos} {Q:Value->Shared->Prop} (I:aI X pins σ H s) (hg:Gl X x) (hm:X.mg x=some u) (h:Q u s)
 (hd:(x==("__debug__" : Str))=false:=by decide):wpAny (model X.prog X.w) X.A (eval (.Name x pos) X.env) Q E s:=
 Calls.Name_function_global I.ok.kind hg (Calls.loadGlobal_global (by rw [I.ok.glob];exact I.mod.glob.keeps I.bk) hm h) hd
theorem lc {E:Value->Shared->Prop} {pins:List (Addr×Obj)} {s:Shared} {σ:St} {H:Hp} {x:Str} {u:Value} {pos:Pos} {Q:Value->Shared->Prop} (I:aI X pins σ H s) (hg:Gl X x) (hm:X.mg x=none) (hv:bootBuiltins x=some u) (h:Q u s)
 (hn:x ≠ "__name__" := by decide) (hd:(x==("__debug__" : Str))=false:=by decide):wpAny (model X.prog X.w) X.A (eval (.Name x pos) X.env) Q E s:=by
 obtain ⟨mb,h1,h2⟩:=I.mod.blt
 exact Calls.Name_function_global I.ok.kind hg (Calls.loadGlobal_builtin (by rw [I.ok.glob];exact I.mod.glob.keeps I.bk) hm (by rw [I.ok.blt];exact h1.keeps I.bk) ((h2 x hn).trans hv) h) hd
theorem rT {x:Str} {v:V} {u:Value} {pos:Pos} (hg:Gl X x) (hm:X.mg x=some u) (r:be v u) (hd:(x==("__debug__" : Str))=false:=by decide):PE X (.Name x pos) (tC v):=
 λ _ _ _ H _ I h=>fI I hg hm ⟨v,H,I,r,h⟩ hd
theorem sk {x:Str} {v:V} {u:Value} {pos:Pos} (hg:Gl X x) (hm:X.mg x=none) (hv:bootBuiltins x=some u) (r:be v u) (hn:x ≠ "__name__" := by decide) (hd:(x==("__debug__" : Str))=false:=by decide):PE X (.Name x pos) (tC v):=
 λ _ _ _ H _ I h=>lc I hg hm hv ⟨v,H,I,r,h⟩ hn hd
variable {a b:Expr} {ta tb:TE} {pos:Pos}
noncomputable def PC (X:Cx) (op:CmpOp) (a b:Expr) (t:TE):Prop:=
 ∀ (pins:List (Addr×Obj)) (s:Shared) (σ:St) (H:Hp) (Q:VK),aI X pins σ H s->t σ H Q->
  wpAny (model X.prog X.w) X.A (eval a X.env) (λ v s₁=>wpAny (model X.prog X.w) X.A (eval b X.env) (λ u s₂=>wpAny (model X.prog X.w) X.A (compareOp op v u) (EP X pins σ Q) X.xe s₂) X.xe s₁) X.xe s
noncomputable def tB (t:TE):TT:=λ σ H Q=>t σ H λ x H1=>∃ c,x=.bl c/\Q c H1
theorem Ha {op:CmpOp} {t:TE} (h:PC X op a b t) (h1:behindInMarks op b=false):PT X (.Compare a [op] [b] pos) (tB t):=by
 intro pins s σ H Q I hw
 refine wpAny_isTrue_Compare1 (bK (h pins s σ H _ I hw) λ v s1 h1=>bK h1 λ u s2 h2=>bK h2 λ c s3 hq0=>?_) h1
 obtain ⟨x,H1,I1,r1,q1⟩:=hq0
 obtain ⟨d,rfl,q⟩:=q1
 cases r1
 exact wpAny_truthy_bool ⟨H1,I1,q⟩
theorem GU {e:Expr} {t:TE} (h:PE X e t) (he:∀ whole,isTrue e X.env whole=(do let v <-whole;standAt e.pos;holding [v] (truthy v))):PT X e (tB t):=by
 intro pins s σ H Q I hw
 refine isTrue_plain (bK (h pins s σ H _ I hw) λ v s1 hq0=>?_) (he _)
 obtain ⟨x,H1,I1,r1,q1⟩:=hq0
 obtain ⟨d,rfl,q⟩:=q1
 cases r1
 exact wpAny_truthy_bool ⟨H1,I1,q⟩
variable {tA tB':TT} {m8:List Expr}
noncomputable def Cp (t u:TT):TT:=λ σ H Q=>t σ H λ c H1=>if c=true then u σ H1 Q else Q false H1
noncomputable def Hq (t u:TT):TT:=λ σ H Q=>t σ H λ c H1=>if c=true then Q true H1 else u σ H1 Q
noncomputable def AL (t:TT):TT:=λ σ H Q=>t σ H λ c H1=>Q (!c) H1
theorem Fu (ha:PT X a tA):PW X (.BoolOp .And [a] pos) tA:=by
 intro wh pins s σ H Q I h
 refine isTrue_and (bK (ha pins s σ H Q I h) λ c s1 e=>?_)
 cases c with
 | true=>exact isTrue_and_nil e
 | false=>exact e
theorem GE (ha:PT X a tA):PW X (.BoolOp .Or [a] pos) tA:=by
 intro wh pins s σ H Q I h
 refine isTrue_or (bK (ha pins s σ H Q I h) λ c s1 e=>?_)
 cases c with
 | false=>exact isTrue_or_nil e
 | true=>exact e
theorem Hh (ha:PT X a tA) (hb:PW X (.BoolOp .And (b::m8) pos) tB'):PW X (.BoolOp .And (a::b::m8) pos) (Cp tA tB'):=by
 intro wh pins s σ H Q I h
 refine isTrue_and (bK (ha pins s σ H _ I h) λ c s1 hq0=>?_)
 obtain ⟨H1,I1,q1⟩:=hq0
 cases c with
 | true=>exact hb wh pins s1 σ H1 Q I1 q1
 | false=>exact ⟨H1,I1,q1⟩
theorem HC (ha:PT X a tA) (hb:PW X (.BoolOp .Or (b::m8) pos) tB'):PW X (.BoolOp .Or (a::b::m8) pos) (Hq tA tB'):=by
 intro wh pins s σ H Q I h
 refine isTrue_or (bK (ha pins s σ H _ I h) λ c s1 hq0=>?_)
 obtain ⟨H1,I1,q1⟩:=hq0
 cases c with
 | true=>exact ⟨H1,I1,q1⟩
 | false=>exact hb wh pins s1 σ H1 Q I1 q1
theorem Gs (ha:PT X a tA):PT X (.UnaryOp .Not a pos) (AL tA):=by
 intro pins s σ H Q I h
 exact isTrue_not (ha pins s σ H (λ c H1=>Q (!c) H1) I h)
noncomputable def zj (ta tb:TE):TE:=λ σ H Q=>ta σ H λ x H1=>∃ c,x=.bl c/\if c=true then tb σ H1 Q else Q (.bl false) H1
theorem Hz {op} {t:TE} (h:PE X a t):PE X (.BoolOp op [a] pos) t:=λ pins s σ H Q I hw=>BoolOp_one (h pins s σ H Q I hw)
theorem GV (ha:PE X a ta) (hb:PE X (.BoolOp .And (b::m8) pos) tb):PE X (.BoolOp .And (a::b::m8) pos) (zj ta tb):=by
 intro pins s σ H Q I h
 refine BoolOp_and (bK (ha pins s σ H _ I h) λ v s1 hq0=>?_)
 obtain ⟨x,H1,I1,r1,q1⟩:=hq0
 obtain ⟨c,rfl,q1⟩:=q1
 cases r1
 refine wpAny_truthy_bool ?_
 cases c with
 | true=>exact hb pins s1 σ H1 Q I1 q1
 | false=>exact ⟨.bl false,H1,I1,rfl,q1⟩
noncomputable def GO (t:TT) (ta tb:TE):TE:=λ σ H Q=>t σ H λ c H1=>if c=true then ta σ H1 Q else tb σ H1 Q
theorem E4 {c:Expr} (hc:PT X c tA) (ha:PE X a ta) (hb:PE X b tb):PE X (.IfExp c a b pos) (GO tA ta tb):=by
 intro pins s σ H Q I h
 refine wpAny_IfExp (bK (hc pins s σ H _ I h) λ d s1 hq0=>?_)
 obtain ⟨H1,I1,q1⟩:=hq0
 cases d with
 | true=>exact ha pins s1 σ H1 Q I1 q1
 | false=>exact hb pins s1 σ H1 Q I1 q1
end
end L2
namespace L2
open PySem PySem.Spec PyProof.Rows
open PySem.W (Frag)
noncomputable def cY (K:Frag) (H:Hp) (a:Addr) (xs:List V):Prop:=
 Rd H a (.lst xs)∨
  ∃ (o:Obj) (its:Array Value) (n:Nat),K.lookup a=some o/\o.cls=.type "list" /\ o.dict=none/\o.data=.seq its n/\its.size<=sizeLine/\bf xs its.toList
noncomputable def fS (K:Frag) (H:Hp) (a:Addr) (xs:List V):Prop:=
 Rd H a (.tup xs)∨
  ∃ (o:Obj) (its:Array Value) (n:Nat),K.lookup a=some o/\o.cls=.type "tuple" /\ o.data=.seq its n/\its.size<=sizeLine/\bf xs its.toList
noncomputable def GN:Value->Option V
 | .none=>some .non
 | .bool b=>some (.bl b)
 | .int i _=>some (.int i)
 | .str x _=>some (.str x)
 | .bytes b _=>some (.byt b)
 | .float b _=>some (.flt b)
 | .ref a=>some (.ref a)
 | .type n=>some (.ty n)
 | _=>none
theorem be.abs {x:V} {u:Value} (r:be x u):GN u=some x:=by
 cases x with
 | non=>cases r;rfl
 | bl _=>cases r;rfl
 | int _=>obtain ⟨t,rfl⟩:=r;rfl
 | str _=>obtain ⟨t,rfl⟩:=r;rfl
 | byt _=>obtain ⟨t,rfl⟩:=r;rfl
 | flt _=>obtain ⟨t,rfl⟩:=r;rfl
 | ref _=>cases r;rfl
 | ty _=>cases r;rfl
theorem be.inj {x y:V} {u:Value} (r:be x u) (q:be y u):x=y:=Option.some.inj (r.abs.symm.trans q.abs)
theorem bf.inj {xs ys:List V} {us:List Value} (h:bf xs us) (h':bf ys us):xs=ys:=by
 induction h generalizing ys with
 | nil=>cases h';rfl
 | cons r _ ih=>
  cases h' with
  | cons r' t'=>rw [r.inj r',ih t']
section
variable {X:Cx} {pins:List (Addr×Obj)} {σ:St} {H:Hp} {s:Shared} {a:Addr} {xs ys:List V}
theorem cY.of {K:Frag} (h:H a=some (.lst xs)):cY K H a xs:=.inl (.inl h)
theorem fS.of {K:Frag} (h:H a=some (.tup xs)):fS K H a xs:=.inl (.inl h)
theorem aI.list (I:aI X pins σ H s) (h:cY X.K H a xs):∃ its:List Value,bf xs its/\PlainL s.heap a its.toArray/\xs.length<=sizeLine:=by
 rcases h with h | ⟨o,its,n,hk,hc,hd,hs,hz,r⟩
 . obtain ⟨z,its,n,r,e⟩:=h.ok I.hok
   exact ⟨its,r,⟨_,n,e,rfl,rfl,rfl⟩,z⟩
 . refine ⟨its.toList,r,⟨o,n,I.kIn a o hk,hc,hd,by simpa using hs⟩,?_⟩
   have e:=r.length
   simp only [Array.length_toList] at e
   omega
theorem aI.tuple (I:aI X pins σ H s) (h:fS X.K H a xs):∃ its:List Value,bf xs its/\IsTup s.heap a its.toArray/\xs.length<=sizeLine:=by
 rcases h with h | ⟨o,its,n,hk,hc,hs,hz,r⟩
 . obtain ⟨z,its,r,p⟩:=h.ok I.hok
   exact ⟨its,r,p,z⟩
 . refine ⟨its.toList,r,⟨o,I.kIn a o hk,hc,n,by simpa using hs⟩,?_⟩
   have e:=r.length
   simp only [Array.length_toList] at e
   omega
theorem aI.list_inj (I:aI X pins σ H s) (h:cY X.K H a xs) (h':cY X.K H a ys):xs=ys:=by
 obtain ⟨its,r,⟨o,n,e,_,_,d⟩,_⟩:=I.list h
 obtain ⟨its',r',⟨o',n',e',_,_,d'⟩,_⟩:=I.list h'
 rw [e] at e';cases e'
 rw [d] at d'
 injection d' with d1 _
 have:its=its':=by simpa using congrArg Array.toList d1
 subst this
 exact r.inj r'
theorem aI.tuple_inj (I:aI X pins σ H s) (h:fS X.K H a xs) (h':fS X.K H a ys):xs=ys:=by
 obtain ⟨its,r,⟨o,e,_,n,d⟩,_⟩:=I.tuple h
 obtain ⟨its',r',⟨o',e',_,n',d'⟩,_⟩:=I.tuple h'
 rw [e] at e';cases e'
 rw [d] at d'
 injection d' with d1 _
 have:its=its':=by simpa using congrArg Array.toList d1
 subst this
 exact r.inj r'
end
noncomputable abbrev Cx.wish (X:Cx) (E:Value->Shared->Prop):Cx:={ X with xe:=E }
noncomputable abbrev Cx.nox (X:Cx):Cx:=X.wish λ _ _=>False
theorem Cx.Ok.wish {X:Cx} (ok:X.Ok) (E:Value->Shared->Prop):(X.wish E).Ok:=
 ⟨ok.mod,ok.kind,ok.glob,ok.blt,ok.above,ok.inj,ok.has,ok.cab,ok.hd,ok.frames,ok.stk,ok.exf,ok.bs,ok.bsz,ok.noex,ok.exfs,ok.funs,ok.frf⟩
theorem Cx.Ok.unwish {X:Cx} {E:Value->Shared->Prop} (ok:(X.wish E).Ok):X.Ok:=
 ⟨ok.mod,ok.kind,ok.glob,ok.blt,ok.above,ok.inj,ok.has,ok.cab,ok.hd,ok.frames,ok.stk,ok.exf,ok.bs,ok.bsz,ok.noex,ok.exfs,ok.funs,ok.frf⟩
section
variable {X:Cx} {pins:List (Addr×Obj)} {σ:St} {H:Hp} {s:Shared} {E:Value->Shared->Prop}
theorem aI.wish (I:aI X pins σ H s) (E:Value->Shared->Prop):aI (X.wish E) pins σ H s:=⟨I.ok.wish E,I.os,I.bare,I.base,I.loc,I.cell,I.free,I.freeC,I.pin,I.hok,I.len⟩
theorem aI.unwish (I:aI (X.wish E) pins σ H s):aI X pins σ H s:=⟨I.ok.unwish,I.os,I.bare,I.base,I.loc,I.cell,I.free,I.freeC,I.pin,I.hok,I.len⟩
theorem SP.unwish {D:gY} {f:Flow} {s':Shared} (h:SP (X.wish E) pins D f s'):SP X pins D f s':=by
 cases f with
 | next=>obtain ⟨σ',H',I,q⟩:=h;exact ⟨σ',H',I.unwish,q⟩
 | brk=>obtain ⟨σ',H',I,q⟩:=h;exact ⟨σ',H',I.unwish,q⟩
 | cont=>obtain ⟨σ',H',I,q⟩:=h;exact ⟨σ',H',I.unwish,q⟩
 | ret u=>obtain ⟨v,σ',H',I,r,q⟩:=h;exact ⟨v,σ',H',I.unwish,r,q⟩
theorem kN.nox {st:List Stmt} {t:TS} (h:kN X.nox st t):kN X st t:=λ pins s σ H D I hw=>
 wpAny_mono (h pins s σ H D (I.wish _) hw) (λ _ _ q=>q.unwish) λ _ _ z=>False.elim z
end
section
variable {X:Cx} {st:Stmt} {m8:List Stmt} {t u:TS} {e:Expr} {te:TE} {pos:Pos}
noncomputable def zq:TS:=λ D σ H=>D.nx σ H
noncomputable def Bn (t u:TS):TS:=λ D σ H=>t { D with nx:=u D } σ H
theorem Fm:kN X [] zq:=λ _ _ σ H _ I h=>wpAny_execs_nil ⟨σ,H,I,h⟩
theorem Ee (h1:PS X st t) (h2:kN X m8 u):kN X (st::m8) (Bn t u):=by
 intro pins s σ H D I h
 refine wpAny_execs_cons (bK (h1 pins s σ H { D with nx:=u D } I h) λ f s1 q=>?_)
 cases f with
 | next=>
  obtain ⟨σ',H',I',q⟩:=q
  exact h2 pins s1 σ' H' D I' q
 | ret v=>exact q
 | brk=>exact q
 | cont=>exact q
theorem FZ (h1:PS X st t):kN X [st] t:=by
 intro pins s σ H D I h
 refine wpAny_execs_cons (bK (h1 pins s σ H D I h) λ f s1 q=>?_)
 cases f with
 | next=>exact wpAny_execs_nil q
 | ret v=>exact q
 | brk=>exact q
 | cont=>exact q
noncomputable def vn:TS:=λ D σ H=>D.bk σ H
theorem D7:PS X (.Break pos) vn:=λ _ _ σ H _ I h=>wpAny_Break ⟨σ,H,I,h⟩
theorem aI.quiet {pins:List (Addr×Obj)} {σ:St} {H:Hp} {s:Shared} (I:aI X pins σ H s):interactive X.env=false:=by simp [interactive,I.ok.kind]
noncomputable def rX (te:TE):TS:=λ D σ H=>te σ H λ _ H1=>D.nx σ H1
theorem FB (he:PE X e te) (hs:swapsWith e none pos.line X.env=pure false):PS X (.Expr e pos) (rX te):=by
 intro pins s σ H D I h
 exact wpAny_Expr_any (bK (he pins s σ H _ I h) λ v s1 hy0=>by obtain ⟨x,H1,I1,r1,q1⟩:=hy0;exact ⟨σ,H1,I1,q1⟩) I.quiet hs
noncomputable def AU (te:TE):TS:=λ D σ H=>te σ H D.rt
theorem GQ (he:PE X e te):PS X (.Return (some e) pos) (AU te):=by
 intro pins s σ H D I h
 exact wpAny_Return_some (bK (he pins s σ H _ I h) λ v s1 hy0=>by obtain ⟨x,H1,I1,r1,q1⟩:=hy0;exact ⟨x,σ,H1,I1,r1,q1⟩)
noncomputable def zB:TS:=λ D _ H=>D.rt .non H
theorem FC:PS X (.Return none pos) zB:=λ _ _ σ H _ I h=>wpAny_Return_none ⟨.non,σ,H,I,rfl,h⟩
noncomputable def Cc (c:TT) (t u:TS):TS:=λ D σ H=>c σ H λ b H1=>if b=true then t D σ H1 else u D σ H1
theorem Ij {c:Expr} {a b:List Stmt} {tc:TT} (hc:PT X c tc) (ha:kN X a t) (hb:kN X b u):PS X (.If c a b pos) (Cc tc t u):=by
 intro pins s σ H D I h
 refine wpAny_If (bK (hc pins s σ H _ I h) λ d s1 hq0=>?_)
 obtain ⟨H1,I1,q1⟩:=hq0
 cases d with
 | true=>exact ha pins s1 σ H1 D I1 q1
 | false=>exact hb pins s1 σ H1 D I1 q1
noncomputable def uO:TS:=λ _ _ _=>False
theorem DU:PS X st uO:=λ _ _ _ _ _ _ h=>h.elim
end
noncomputable abbrev TG:=V->St->Hp->(St->Hp->Prop)->Prop
noncomputable abbrev uy:=List V->St->Hp->(St->Hp->Prop)->Prop
noncomputable def PG (X:Cx) (target:Expr) (t:TG):Prop:=
 ∀ (pins:List (Addr×Obj)) (s:Shared) (σ:St) (H:Hp) (v:V) (u:Value) (Q:St->Hp->Prop),aI X pins σ H s->be v u->t v σ H Q->
  wpAny (model X.prog X.w) X.A (assign target X.env u) (λ _ s'=>∃ σ' H',aI X pins σ' H' s'/\Q σ' H') X.xe s
noncomputable def CY (X:Cx) (ts:List Expr) (t:uy):Prop:=
 ∀ (pins:List (Addr×Obj)) (s:Shared) (σ:St) (H:Hp) (vs:List V) (us:List Value) (Q:St->Hp->Prop),aI X pins σ H s->bf vs us->t vs σ H Q->
  wpAny (model X.prog X.w) X.A (assignInOrder ((assignEach ts X.env).map (·.2)) us) (λ _ s'=>∃ σ' H',aI X pins σ' H' s'/\Q σ' H') X.xe s
section
variable {X:Cx} {pos:Pos}
noncomputable def jU (i:Nat):TG:=λ v σ H Q=>Q (σ.set i (some v)) H
theorem FQ {i:Nat} {x:Str} (hN:X.N.Nodup) (hi:X.N[i]?=some x) (hx:At X.env.scope x) (hf:X.fn x=true∨X.env.scope.names.lookup x=some .local):PG X (.Name x pos) (jU i):=by
 intro pins s σ H v u Q I r h
 exact wpAny_assign_Name (pM I hN hi hx r (λ s' I'=>⟨_,H,I',h⟩) hf)
noncomputable def EZ:uy:=λ vs σ H Q=>vs=[]/\Q σ H
noncomputable def zR (t:TG) (u:uy):uy:=λ vs σ H Q=>∃ v r,vs=v::r/\t v σ H λ σ' H'=>u r σ' H' Q
theorem Fn:CY X [] EZ:=by
 intro pins s σ H vs us Q I r h
 obtain ⟨e,h⟩:=h
 subst e
 cases r
 exact assignInOrder_nil ⟨σ,H,I,h⟩
theorem Fa {e:Expr} {es:List Expr} {t:TG} {u:uy} (h1:PG X e t) (h2:CY X es u)
 (hs:(assignEach (e::es) X.env).map (·.2)=assign e X.env::(assignEach es X.env).map (·.2)):CY X (e::es) (zR t u):=by
 intro pins s σ H vs us Q I r h
 obtain ⟨v,vr,e1,h⟩:=h
 subst e1
 cases r with
 | cons r rr=>
  rw [hs]
  refine assignInOrder_cons (bK (h1 pins s σ H _ _ _ I r h) λ _ s1 hq0=>?_)
  obtain ⟨σ1,H1,I1,q1⟩:=hq0
  exact h2 pins s1 σ1 H1 _ _ Q I1 rr q1
noncomputable def Bl (K:Frag) (n:Nat) (t:uy):TG:=λ v σ H Q=>∃ a xs,v=.ref a/\fS K H a xs/\xs.length=n/\t xs σ H Q
theorem BX {es:List Expr} {k:Nat} {t:uy} {n:Nat} (hc:X.calm=true) (h:CY X es t)
 (hn:(assignEach es X.env).length=n:=by rfl) (hst:(assignEach es X.env).findIdx? (·.1)=none:=by rfl):PG X (.Tuple es k pos) (Bl X.K n t):=by
 intro pins s σ H v u Q I r hw
 obtain ⟨a,xs,e1,hq,hl,hw⟩:=hw
 subst e1
 cases r
 obtain ⟨its,rv,ht,hz⟩:=I.tuple hq
 refine assign_Tuple_tuple (I.ok.hd hc) ht (by simp [hn,<-hl,rv.length]) hst λ h' hx=>?_
 have I1:aI X pins σ H { s with heap:=h' }:=I.kept (t':=s.toks) λ b o e=>hx b o (Nat.ne_of_lt (Heap.lt_size e)) e
 exact h pins _ σ H xs _ Q I1 (by simpa using rv) hw
noncomputable def rp (te:TE) (g:TG):TS:=λ D σ H=>te σ H λ x H1=>g x σ H1 D.nx
theorem GL {tg e:Expr} {te:TE} {g:TG} (he:PE X e te) (hg:PG X tg g) (hs:swapsWithSole [tg] e pos.line X.env=pure false) (hw:swappedStores [tg] e X.env=pure none)
 (h1:(assignEach [tg] X.env).map (·.2)=[assign tg X.env]):PS X (.Assign [tg] e pos) (rp te g):=by
 intro pins s σ H D I h
 refine wpAny_Assign_stores (bK (he pins s σ H _ I h) λ v s1 hq0=>?_) hs hw
 obtain ⟨x,H1,I1,r1,q1⟩:=hq0
 rw [h1]
 exact bK (hg pins s1 σ H1 x v _ I1 r1 q1) λ _ s2 q=>q
theorem Ht {i:Nat} {x:Str} {e:Expr} {te:TE} {pos':Pos} (hN:X.N.Nodup) (hi:X.N[i]?=some x) (hx:At X.env.scope x) (he:PE X e te) (hs:swapsWith e (some (.Name x pos')) pos.line X.env=pure false) (hf:X.fn x=true∨X.env.scope.names.lookup x=some .local):
 PS X (.Assign [.Name x pos'] e pos) (rp te (jU i)):=by
 intro pins s σ H D I h
 refine wpAny_Assign_Name (bK (he pins s σ H _ I h) λ v s1 hq0=>?_) hs
 obtain ⟨y,H1,I1,r1,q1⟩:=hq0
 exact pM I1 hN hi hx r1 (λ s2 I2=>⟨_,H1,I2,q1⟩) hf
end
section
variable {X:Cx} {pos:Pos}
noncomputable def vD (c:TT) (tb:TS):TS:=λ D σ H=>∃ W:Nat->St->Hp->Prop,(∃ m,W m σ H)/\∀ m σ H,W m σ H->
 c σ H λ b H1=>if b=true then ∃ N:St->Hp->Prop,(∀ σ' H',N σ' H'->∃ m',m'<m/\W m' σ' H')/\tb { D with nx:=N,ct:=N,bk:=D.nx } σ H1 else D.nx σ H1
theorem Dh {c:Expr} {body:List Stmt} {tc:TT} {tb:TS} (hp:PassesOwn (model X.prog X.w) X.A X.env X.xe) (hc:PT X c tc) (hb:kN X body tb):PS X (.While c body [] pos) (vD tc tb):=by
 intro pins s σ H D I h
 obtain ⟨W,⟨m0,w0⟩,turn⟩:=h
 refine wpAny_While (codeAny_whileLoop (λ n s'=>∃ σ' H',aI X pins σ' H' s'/\W n σ' H') ?_ m0 ⟨σ,H,I,w0⟩)
 rintro n s1 ⟨σ1,H1,I1,w1⟩
 refine wpAny_passesOwn hp (bK (hc pins s1 σ1 H1 _ I1 (turn n σ1 H1 w1)) λ b s2 hq0=>?_)
 obtain ⟨H2,I2,q2⟩:=hq0
 cases b with
 | true=>
  obtain ⟨N,hN,q2⟩:=q2
  rw [if_pos rfl]
  refine wpAny_passesOwn hp (bK (hb pins s2 σ1 H2 _ I2 q2) λ f s3 q3=>?_)
  cases f with
  | next=>
   obtain ⟨σ3,H3,I3,n3⟩:=q3
   obtain ⟨m',hm,w3⟩:=hN σ3 H3 n3
   exact ⟨m',hm,σ3,H3,I3,w3⟩
  | cont=>
   obtain ⟨σ3,H3,I3,n3⟩:=q3
   obtain ⟨m',hm,w3⟩:=hN σ3 H3 n3
   exact ⟨m',hm,σ3,H3,I3,w3⟩
  | brk=>exact q3
  | ret v=>exact q3
 | false=>
  rw [if_neg Bool.false_ne_true]
  exact wpAny_execs_nil ⟨σ1,H2,I2,q2⟩
end
structure It where
 go:Nat->Hp->Prop
 yld:Nat->Hp->V->Hp->Prop
 stop:Nat->Hp->Prop
noncomputable def j2 (X:Cx) (pins:List (Addr×Obj)) (H:Hp) (b:Addr):Prop:=
 H b=none/\b≠X.env.locals/\b∉X.fs/\(b∈X.ex∨X.s₀.heap.objs.size<=b)/\(∀ x c,X.env.cells.lookup x=some c->c≠b)/\∀ p∈X.pn++pins,p.1≠b
theorem aI.fpOk {X:Cx} {pins:List (Addr×Obj)} {σ:St} {H H':Hp} {s:Shared} {b:Addr} (I:aI X pins σ H s) (hb:s.heap.objs.size<=b) (hn:H' b=none):j2 X pins H' b:=by
 refine ⟨hn,Nat.ne_of_gt (Nat.lt_of_lt_of_le I.lt hb),I.nofs hb,.inr (Nat.le_trans I.sz hb),λ x c e z=>?_,λ p hp z=>?_⟩
 . obtain ⟨v,q⟩:=I.cell x c e
   exact absurd (Nat.lt_of_lt_of_le q.lt (by rw [z];exact hb)) (Nat.lt_irrefl _)
 . exact absurd (Nat.lt_of_lt_of_le (Heap.lt_size (I.pin p hp).1) (by rw [z];exact hb)) (Nat.lt_irrefl _)
structure uo (P:Program) (w:World) (K:Frag) (tg:Expr) (J:It) (fp:List Addr) (it:Addr) (tn:Nat->Heap->Prop):Prop where
 mem:it∈fp
 obj:∀ i h,tn i h->∀ b∈fp,∃ o,h.get? b=some o/\∀ v,o.data≠.cell v
 keep:∀ i h h',tn i h->(∀ b∈fp,∀ o,h.get? b=some o->h'.get? b=some o)->tn i h'
 item:∀ (X:Cx),X.prog=P->X.w=w->X.K=K->X.calm=true->∀ (i:Nat) (pins:List (Addr×Obj)) (s:Shared) (σ:St) (H:Hp) (E:Value->Shared->Prop),aI X pins σ H s->(∀ b∈fp,j2 X pins H b)->tn i s.heap->J.go i H->
  wpAny (model P w) X.A (pyNext (.ref it)) (λ r s1=>∃ u,r=some u/\
   wpAny (model P w) X.A (letOwnedTupleGo tg (.ref it) u) (λ _ s2=>∃ x H',aI X pins σ H' s2/\be x u/\J.yld i H x H'/\tn (i+1) s2.heap/\∀ b∈fp,H' b=none) E s1) E s
 done:∀ (X:Cx),X.prog=P->X.w=w->X.K=K->X.calm=true->∀ (i:Nat) (pins:List (Addr×Obj)) (s:Shared) (σ:St) (H:Hp) (E:Value->Shared->Prop),aI X pins σ H s->(∀ b∈fp,j2 X pins H b)->tn i s.heap->J.stop i H->
  wpAny (model P w) X.A (pyNext (.ref it)) (λ r s1=>r=none/\aI X pins σ H s1) E s
 self:∀ (A:Around) (i:Nat) (s:Shared) (Q:Value->Shared->Prop) (E:Value->Shared->Prop),tn i s.heap->Q (.ref it) s->wpAny (model P w) A (pyIter (.ref it)) Q E s
noncomputable abbrev TI:=St->Hp->(It->Hp->Prop)->Prop
noncomputable def GZ (X:Cx) (pins:List (Addr×Obj)) (σ:St) (tg:Expr) (R:It->Hp->Prop) (itv:Value) (s2:Shared):Prop:=
 ∃ (it:Addr) (fp:List Addr) (tn:Nat->Heap->Prop) (J:It) (H':Hp),itv=.ref it/\aI X pins σ H' s2/\uo X.prog X.w X.K tg J fp it tn/\tn 0 s2.heap/\(∀ b∈fp,j2 X pins H' b)/\R J H'
noncomputable def PI (X:Cx) (tg iter:Expr) (wi:TI):Prop:=
 ∀ (pins:List (Addr×Obj)) (s:Shared) (σ:St) (H:Hp) (R:It->Hp->Prop),aI X pins σ H s->wi σ H R->
  wpAny (model X.prog X.w) X.A (eval iter X.env) (λ v s1=>wpAny (model X.prog X.w) X.A (pyIter v) (GZ X pins σ tg R) X.xe s1) X.xe s
theorem wC {M:Model} {A:Around} {E:Value->Shared->Prop} {s:Shared} {tg:Expr} {it:Addr} {u:Value} {o:Obj} {n:String} {vs:Array Value} {Q:Unit->Shared->Prop} (ho:s.heap.get? it=some o) (hc:o.cls=.type n) (hd:o.data=.fields vs)
 (hn:["enumerate", "zip", "dict_itemiterator", "dict_reverseitemiterator", "odict_iterator", "itertools.zip_longest", "itertools.pairwise"].contains n=false) (hQ:Q () s):wpAny M A (letOwnedTupleGo tg (.ref it) u) Q E s:=by
 unfold letOwnedTupleGo
 cases tg <;> first
  | exact wpAny_pure hQ
  | (cases u <;> first
   | exact wpAny_pure hQ
   | (refine wpAny_bind (wpAny_load ho ?_)
      rw [hc,hd]
      show wpAny M A (if (["enumerate", "zip", "dict_itemiterator", "dict_reverseitemiterator", "odict_iterator", "itertools.zip_longest", "itertools.pairwise"].contains n&&vs[0]?==some (rawInt _))=true then _ else _) Q E s
      rw [if_neg (by intro h;rw [hn,Bool.false_and] at h;cases h)]
      exact wpAny_pure hQ))
noncomputable def GB (K:Frag) (a:Addr):It:=
 ⟨λ i H=>∃ xs x,cY K H a xs/\xs[i]?=some x,λ i H x H'=>H'=H/\∀ xs,cY K H a xs->xs[i]?=some x,λ i H=>∃ xs,cY K H a xs/\xs.length<=i⟩
noncomputable def Hi (K:Frag) (a:Addr):It:=
 ⟨λ i H=>∃ xs x,fS K H a xs/\xs[i]?=some x,λ i H x H'=>H'=H/\∀ xs,fS K H a xs->xs[i]?=some x,λ i H=>∃ xs,fS K H a xs/\xs.length<=i⟩
noncomputable def FR (lo:Int) (n:Nat):It:=⟨λ i _=>i<n,λ i H x H'=>H'=H/\x=.int (lo+i),λ i _=>n<=i⟩
theorem tZ {P:Program} {w:World} {K:Frag} {tg:Expr} (a it:Addr):uo P w K tg (GB K a) [it] it (λ i h=>h.IsListIter it a i) where
 mem:=by simp
 obj:=λ i h st b hb=>by
  have e:b=it:=by simpa using hb
  subst e
  obtain ⟨o,e,c,d⟩:=st
  exact ⟨o,e,λ v z=>by rw [d] at z;cases z⟩
 keep:=λ i h h' st k=>st.at λ o e=>k it (by simp) o e
 item:=by
  intro X hP hw hK hc i pins s σ H E I hf st hg
  subst hP hw hK
  obtain ⟨xs,x,hq,hx⟩:=hg
  obtain ⟨its,rv,p,hz⟩:=I.list hq
  obtain ⟨u,hu,ru⟩:=rv.get hx
  obtain ⟨f0,f1,f2,f3,f4,f5⟩:=hf it (by simp)
  refine wpAny_pyNext_list_item st p.isList (x:=u) (by simpa using hu) λ h' st' sb=>?_
  have I1:aI X pins σ H { s with heap:=h' }:=I.turned (t':=s.toks) (λ b o hb e=>(sb.2 b hb).trans e) f0 f1 f3 f4 f5
  obtain ⟨o,e,c,d⟩:=id st'
  exact ⟨u,rfl,wC (s:={ s with heap:=h' }) e c d (by decide) ⟨x,H,I1,ru,⟨rfl,λ ys hy=>by rw [I.list_inj hy hq];exact hx⟩,st',λ b hb=>(hf b hb).1⟩⟩
 done:=by
  intro X hP hw hK hc i pins s σ H E I hf st hg
  subst hP hw hK
  obtain ⟨xs,hq,hx⟩:=hg
  obtain ⟨its,rv,p,hz⟩:=I.list hq
  obtain ⟨f0,f1,f2,f3,f4,f5⟩:=hf it (by simp)
  have hl:=rv.length
  exact wpAny_pyNext_list_end (I.ok.hd hc) st p.isList (by simp;omega) λ h' eb=>⟨rfl,I.turned (t':=s.toks) (λ b o hb e=>eb b o hb e) f0 f1 f3 f4 f5⟩
 self:=λ _ _ _ _ _ st h=>wpAny_pyIter_listiter st h
theorem qD {P:Program} {w:World} {K:Frag} {tg:Expr} (a it:Addr):uo P w K tg (Hi K a) [it] it (λ i h=>h.IsTupleIter it a i) where
 mem:=by simp
 obj:=λ i h st b hb=>by
  have e:b=it:=by simpa using hb
  subst e
  obtain ⟨o,e,c,d⟩:=st
  exact ⟨o,e,λ v z=>by rw [d] at z;cases z⟩
 keep:=λ i h h' st k=>st.at λ o e=>k it (by simp) o e
 item:=by
  intro X hP hw hK hc i pins s σ H E I hf st hg
  subst hP hw hK
  obtain ⟨xs,x,hq,hx⟩:=hg
  obtain ⟨its,rv,p,hz⟩:=I.tuple hq
  obtain ⟨u,hu,ru⟩:=rv.get hx
  obtain ⟨f0,f1,f2,f3,f4,f5⟩:=hf it (by simp)
  refine wpAny_pyNext_tuple_item st (show s.heap.IsTuple a its.toArray from p) (x:=u) (by simpa using hu) λ h' st' sb=>?_
  have I1:aI X pins σ H { s with heap:=h' }:=I.turned (t':=s.toks) (λ b o hb e=>(sb.2 b hb).trans e) f0 f1 f3 f4 f5
  obtain ⟨o,e,c,d⟩:=id st'
  exact ⟨u,rfl,wC (s:={ s with heap:=h' }) e c d (by decide) ⟨x,H,I1,ru,⟨rfl,λ ys hy=>by rw [I.tuple_inj hy hq];exact hx⟩,st',λ b hb=>(hf b hb).1⟩⟩
 done:=by
  intro X hP hw hK hc i pins s σ H E I hf st hg
  subst hP hw hK
  obtain ⟨xs,hq,hx⟩:=hg
  obtain ⟨its,rv,p,hz⟩:=I.tuple hq
  obtain ⟨f0,f1,f2,f3,f4,f5⟩:=hf it (by simp)
  have hl:=rv.length
  exact wpAny_pyNext_tuple_end (I.ok.hd hc) st (show s.heap.IsTuple a its.toArray from p) (by simp;omega) λ h' eb=>⟨rfl,I.turned (t':=s.toks) (λ b o hb e=>eb b o hb e) f0 f1 f3 f4 f5⟩
 self:=λ _ _ _ _ _ st h=>wpAny_pyIter_tupleiter st h
theorem re {P:Program} {w:World} {K:Frag} {tg:Expr} (it:Addr) (lo:Int) (n:Nat):uo P w K tg (FR lo n) [it] it (λ i h=>IsRangeIter h it (lo+(i:Nat)*1) ((n:Int)-(i:Nat)) 1) where
 mem:=by simp
 obj:=λ i h st b hb=>by
  have e:b=it:=by simpa using hb
  subst e
  exact ⟨_,st,λ v z=>by
   have z':Data.fields _=Data.cell v:=z
   cases z'⟩
 keep:=λ i h h' st k=>k it (by simp) _ st
 item:=by
  intro X hP hw hK hc i pins s σ H E I hf st hg
  subst hP hw hK
  obtain ⟨f0,f1,f2,f3,f4,f5⟩:=hf it (by simp)
  have W:=Walks.range (prog:=X.prog) (w:=X.w) (I.ok.hd hc) it lo 1 n
  refine W.item i s _ _ hg st λ v h' tk hv st' kk=>?_
  obtain ⟨t,rfl⟩:=hv
  have I1:aI X pins σ H { s with heap:=h',toks:=tk }:=I.turned (λ b o hb e=>kk b o (by simpa using hb) e) f0 f1 f3 f4 f5
  refine ⟨_,rfl,wC (s:={ s with heap:=h',toks:=tk }) (n := "range_iterator") st' rfl rfl (by decide) ⟨.int (lo+i),H,I1,⟨t,?_⟩,⟨rfl,rfl⟩,st',λ b hb=>(hf b hb).1⟩⟩
  rw [Int.mul_one]
 done:=by
  intro X hP hw hK hc i pins s σ H E I hf st hg
  subst hP hw hK
  obtain ⟨f0,f1,f2,f3,f4,f5⟩:=hf it (by simp)
  exact wpAny_pyNext_range_end (I.ok.hd hc) st (by have:n<=i:=hg;omega) λ h' eb=>⟨rfl,I.turned (t':=s.toks) (λ b o hb e=>eb b o hb e) f0 f1 f3 f4 f5⟩
 self:=λ _ _ _ _ _ st h=>wpAny_pyIter_rangeiter st h
end L2
namespace L2
open PySem PySem.Spec PyProof.Rows
open PySem.W (Frag)
section
variable {X:Cx} {tg:Expr}
theorem vH {pins:List (Addr×Obj)} {σ:St} {H:Hp} {s:Shared} {R:It->Hp->Prop} {E:Value->Shared->Prop} {lo hi:Int} {t u v:Tok} {tk:Nat} (I:aI X pins σ H s) (h1 : -(2^62)<=lo) (h2:lo<2^62) (h3 : -(2^62)<=hi) (h4:hi<2^62)
 (q:R (FR lo (hi-lo).toNat) H):wpAny (model X.prog X.w) X.A (pyIter (.ref s.heap.objs.size)) (GZ X pins σ tg R) E { s with heap:=s.heap.push { cls:=.type "range", data:=.fields #[.int lo t,.int hi u,.int 1 v] },toks:=tk }:=by
 refine wpAny_pyIter_range (IsRange.new ..) (small_one h1 h2 h3 h4) ?_
 have I1:aI X pins σ H { s with heap:=s.heap.push { cls:=.type "range", data:=.fields #[.int lo t,.int hi u,.int 1 v] },toks:=tk }:=I.kept λ b o e=>Heap.get?_push_of_some _ e
 refine ⟨(s.heap.push { cls:=.type "range", data:=.fields #[.int lo t,.int hi u,.int 1 v] }).objs.size,[(s.heap.push { cls:=.type "range", data:=.fields #[.int lo t,.int hi u,.int 1 v] }).objs.size],_,_,H,rfl,
  I1.kept (t':=tk) λ b o e=>Heap.get?_push_of_some _ e,re _ lo (hi-lo).toNat,?_,λ b hb=>?_,q⟩
 . have e1:lo+((0:Nat):Int)*1=lo:=by simp
   have e2:(((hi-lo).toNat:Nat):Int)-((0:Nat):Int)=Builtin.Range.rangeSize lo hi 1:=by rw [rangeSize_one];split <;> omega
   show IsRangeIter _ _ (lo+((0:Nat):Int)*1) ((((hi-lo).toNat:Nat):Int)-((0:Nat):Int)) 1
   rw [e1,e2]
   exact Heap.get?_push_size _ rfl
 . have e:b=(s.heap.push { cls:=.type "range", data:=.fields #[.int lo t,.int hi u,.int 1 v] }).objs.size:=by simpa using hb
   subst e
   exact I1.fpOk (Nat.le_refl _) (I1.hok.fresh (Nat.le_refl _))
noncomputable def Ab (ta:TA):TI:=λ σ H R=>ta σ H λ vs H1=>∃ j:Int,vs=[.int j] /\ -(2^62)<=j/\j<2^62/\R (FR 0 j.toNat) H1
theorem CO {a:Expr} {ta:TA} {p pos:Pos} (hg:Gl X "range") (hm:X.mg "range" = none) (ha:PA X [a] ta) (hs:starEach [a] X.env=[(false,eval a X.env)]):PI X tg (.Call (.Name "range" p) [a] [] pos) (Ab ta):=by
 intro pins s σ H R I h
 refine Call_ (lc I hg hm boot_range (PyProof.Rows.callWith_type1 (bK (ha pos pins s σ H _ I h) λ us s1 hq0=>?_) hs rfl))
 obtain ⟨vs,H1,I1,r1,q1⟩:=hq0
 obtain ⟨j,e,q1,q2,q⟩:=q1
 subst e
 cases r1 with
 | cons r rr=>
  cases rr
  obtain ⟨t,rfl⟩:=r
  exact call_range_1 (vH I1 (by omega) (by omega) q1 q2 (by simpa using q))
noncomputable def AZ (wi:TI) (g:TG) (tb:TS):TS:=λ D σ H=>wi σ H λ J H1=>∃ W:Nat->Nat->St->Hp->Prop,(∃ m,W 0 m σ H1)/\∀ i m σ H,W i m σ H->
 (J.stop i H/\D.nx σ H)∨(J.go i H/\∃ N:St->Hp->Prop,(∀ σ' H',N σ' H'->∃ m',m'<m/\W (i+1) m' σ' H')/\∀ x H',J.yld i H x H'->g x σ H' λ σ2 H2=>tb { D with nx:=N,ct:=N,bk:=D.nx } σ2 H2)
noncomputable def jK (fp:List Addr) (h:Heap):List (Addr×Obj):=fp.filterMap λ b=>(h.get? b).map λ o=>(b,o)
theorem gD {fp:List Addr} {h:Heap} {b:Addr} {o:Obj} (hb:b∈fp) (e:h.get? b=some o):(b,o)∈jK fp h:=List.mem_filterMap.mpr ⟨b,hb,by rw [e];rfl⟩
theorem ui {fp:List Addr} {h:Heap} {p:Addr×Obj} (hp:p∈jK fp h):p.1∈fp/\h.get? p.1=some p.2:=by
 obtain ⟨b,hb,e⟩:=List.mem_filterMap.mp hp
 cases q:h.get? b with
 | none=>rw [q] at e;cases e
 | some o=>
  rw [q] at e
  have e':(b,o)=p:=Option.some.inj e
  subst e'
  exact ⟨hb,q⟩
theorem aI.pinned {pins:List (Addr×Obj)} {σ:St} {H:Hp} {s:Shared} {fp:List Addr} (I:aI X pins σ H s) (hf:∀ b∈fp,j2 X pins H b) (ho:∀ b∈fp,∃ o,s.heap.get? b=some o/\∀ v,o.data≠.cell v):aI X (pins++jK fp s.heap) σ H s:=
 I.pins_of λ p hp=>(List.mem_append.mp hp).elim (λ z=>I.pin p (List.mem_append_right _ z)) λ z=>by
  obtain ⟨hb,e⟩:=ui z
  obtain ⟨f0,f1,f2,_⟩:=hf p.1 hb
  obtain ⟨o,e',d⟩:=ho p.1 hb
  rw [e] at e';cases e'
  exact ⟨e,f0,f1,f2,d⟩
theorem aI.unpinned {pins pl:List (Addr×Obj)} {σ:St} {H:Hp} {s:Shared} (I:aI X (pins++pl) σ H s):aI X pins σ H s:=I.pins_of λ p hp=>I.pin p (List.mem_append_right _ (List.mem_append_left _ hp))
theorem GF {iter:Expr} {body:List Stmt} {wi:TI} {g:TG} {tb:TS} {pos:Pos} (hp:PassesOwn (model X.prog X.w) X.A X.env X.xe) (hc:X.calm=true) (hi:PI X tg iter wi) (hg:PG X tg g) (hb:kN X body tb)
 (hs:∀ x,foldedSetIterable iter X.env x=pure x):PS X (.For tg iter body [] pos) (AZ wi g tb):=by
 intro pins s σ H D I h
 refine wpAny_For (bK (hi pins s σ H _ I h) λ v s1 h1=>bK h1 λ itv s2 h2=>?_) hs
 obtain ⟨it,fp,tn,J,H2,e,I2,T,st2,f2,W,⟨m0,w0⟩,turn⟩:=h2
 subst e
 have stat:∀ {H':Hp},(∀ b∈fp,H' b=none)->∀ b∈fp,j2 X pins H' b:=λ hn b hb=>⟨hn b hb,(f2 b hb).2⟩
 refine codeAny_forLoop_any (λ n s'=>∃ i σ' H',aI X pins σ' H' s'/\tn i s'.heap/\(∀ b∈fp,H' b=none)/\W i n σ' H') ?_ m0 ⟨0,σ,H2,I2,st2,λ b hb=>(f2 b hb).1,w0⟩
 rintro n s3 ⟨i,σ3,H3,I3,st3,fr3,w3⟩
 rcases turn i n σ3 H3 w3 with ⟨stop,qn⟩ | ⟨go,N,hN,step⟩
 . refine wpAny_passesOwn hp (bK (T.done X rfl rfl rfl hc i pins s3 σ3 H3 X.xe I3 (stat fr3) st3 stop) λ r s4 ⟨hr,I4⟩=>?_)
   subst hr
   exact wpAny_execs_nil ⟨σ3,H3,I4,qn⟩
 . refine wpAny_passesOwn hp (bK (T.item X rfl rfl rfl hc i pins s3 σ3 H3 X.xe I3 (stat fr3) st3 go) λ r s4 ⟨u,hr,h4⟩=>?_)
   subst hr
   refine wpAny_passesOwn hp (bK h4 λ _ s5 hq0=>?_)
   obtain ⟨x,H5,I5,r5,y5,st5,fr5⟩:=hq0
   have I5':=I5.pinned (stat fr5) (T.obj _ _ st5)
   refine wpAny_passesOwn hp (bK (hg _ s5 σ3 H5 x u _ I5' r5 (step x H5 y5)) λ _ s6 hq0=>?_)
   obtain ⟨σ6,H6,I6,q6⟩:=hq0
   refine wpAny_passesOwn hp (bK (hb _ s6 σ6 H6 _ I6 q6) λ f s7 q7=>?_)
   have again:∀ {σ7:St} {H7:Hp},aI X (pins++jK fp s5.heap) σ7 H7 s7->N σ7 H7->∃ m,m<n/\∃ i σ' H',aI X pins σ' H' s7/\tn i s7.heap/\(∀ b∈fp,H' b=none)/\W i m σ' H':=λ {σ7 H7} I7 n7=>by
    obtain ⟨m',hm,w7⟩:=hN σ7 H7 n7
    refine ⟨m',hm,i+1,σ7,H7,I7.unpinned,T.keep _ _ _ st5 λ b hb o e=>(I7.pin (b,o) (List.mem_append_right _ (List.mem_append_right _ (gD hb e)))).1,λ b hb=>?_,w7⟩
    obtain ⟨o,e,d⟩:=T.obj _ _ st5 b hb
    exact (I7.pin (b,o) (List.mem_append_right _ (List.mem_append_right _ (gD hb e)))).2.1
   cases f with
   | next=>obtain ⟨σ7,H7,I7,n7⟩:=q7;exact again I7 n7
   | cont=>obtain ⟨σ7,H7,I7,n7⟩:=q7;exact again I7 n7
   | brk=>obtain ⟨σ7,H7,I7,q7⟩:=q7;exact ⟨σ7,H7,I7.unpinned,q7⟩
   | ret v=>obtain ⟨x7,σ7,H7,I7,r7,q7⟩:=q7;exact ⟨x7,σ7,H7,I7.unpinned,r7,q7⟩
end
end L2
namespace L2
open PySem PySem.Spec PyProof.Rows
open PySem.W (Frag)
noncomputable abbrev R2:=V->V->Hp->VK->Prop
noncomputable def gh (X:Cx) (f:Value->Value->Sem Value) (r:R2):Prop:=
 ∀ (pins:List (Addr×Obj)) (s:Shared) (σ:St) (H:Hp) (x y:V) (v u:Value) (Q:VK),aI X pins σ H s->be x v->be y u->r x y H Q->
  wpAny (model X.prog X.w) X.A (f v u) (EP X pins σ Q) X.xe s
noncomputable def F4 (X:Cx) (f:Value->Sem Value) (r:V->Hp->VK->Prop):Prop:=
 ∀ (pins:List (Addr×Obj)) (s:Shared) (σ:St) (H:Hp) (x:V) (v:Value) (Q:VK),aI X pins σ H s->be x v->r x H Q->
  wpAny (model X.prog X.w) X.A (f v) (EP X pins σ Q) X.xe s
noncomputable def dJ (X:Cx) (f:Value) (r:List V->Hp->VK->Prop):Prop:=
 ∀ (pins:List (Addr×Obj)) (s:Shared) (σ:St) (H:Hp) (xs:List V) (us:List Value) (Q:VK),aI X pins σ H s->bf xs us->r xs H Q->
  wpAny (model X.prog X.w) X.A (call f us) (EP X pins σ Q) X.xe s
noncomputable def HA (X:Cx) (r:V->Hp->(Bool->Hp->Prop)->Prop):Prop:=
 ∀ (pins:List (Addr×Obj)) (s:Shared) (σ:St) (H:Hp) (x:V) (v:Value) (Q:Bool->Hp->Prop),aI X pins σ H s->be x v->r x H Q->
  wpAny (model X.prog X.w) X.A (truthy v) (TP X pins σ Q) X.xe s
noncomputable def oW (r:R2) (ta tb:TE):TE:=λ σ H Q=>ta σ H λ x H1=>tb σ H1 λ y H2=>r x y H2 Q
noncomputable def HJ (r:V->Hp->VK->Prop) (ta:TE):TE:=λ σ H Q=>ta σ H λ x H1=>r x H1 Q
noncomputable def rI (C:Int->Int->Prop) (g:Int->Int->V):R2:=λ x y H Q=>∃ i j,x=.int i/\y=.int j/\C i j/\Q (g i j) H
noncomputable def qk (g:Int->Int->V):R2:=λ x y H Q=>∃ i j,x=.int i/\y=.int j/\Q (g i j) H
noncomputable def rU (g:Int->V):V->Hp->VK->Prop:=λ x H Q=>∃ i,x=.int i/\Q (g i) H
section
variable {X:Cx} {a b c:Expr} {ta tb tc:TE} {pos:Pos}
theorem CF (ha:PE X a ta) (hb:PE X b tb) {pins:List (Addr×Obj)} {s:Shared} {σ:St} {H:Hp} {R:V->V->Hp->Prop} (I:aI X pins σ H s)
 (h:ta σ H λ x H1=>tb σ H1 λ y H2=>R x y H2) {Q:Value->Shared->Prop} {f:Value->Value->Sem Value}
 (hf:∀ v u s2 x y H2,aI X pins σ H2 s2->be x v->be y u->R x y H2->wpAny (model X.prog X.w) X.A (f v u) Q X.xe s2):
 wpAny (model X.prog X.w) X.A (eval a X.env) (λ v s₁=>wpAny (model X.prog X.w) X.A (eval b X.env) (λ u s₂=>wpAny (model X.prog X.w) X.A (f v u) Q X.xe s₂) X.xe s₁) X.xe s:=by
 refine bK (ha pins s σ H _ I h) λ v s1 hq0=>?_
 obtain ⟨x,H1,I1,r1,q1⟩:=hq0
 refine bK (hb pins s1 σ H1 _ I1 q1) λ u s2 hq0=>?_
 obtain ⟨y,H2,I2,r2,q2⟩:=hq0
 exact hf v u s2 x y H2 I2 r1 r2 q2
theorem Ix {op:Operator} {r:R2} (ho:gh X (binaryOp op) r) (ha:PE X a ta) (hb:PE X b tb):PE X (.BinOp a op b pos) (oW r ta tb):=by
 intro pins s σ H Q I h
 exact wpAny_BinOp (CF ha hb I h λ v u s2 x y H2 I2 rx ry q=>ho pins s2 σ H2 x y v u Q I2 rx ry q)
theorem Ih {op:UnaryOp} {r:V->Hp->VK->Prop} (ho:F4 X (unaryOp op) r) (ha:PE X a ta):PE X (.UnaryOp op a pos) (HJ r ta):=by
 intro pins s σ H Q I h
 exact UnaryOp_ (bK (ha pins s σ H _ I h) λ v s1 hy0=>by obtain ⟨x,H1,I1,r1,q1⟩:=hy0;exact ho pins s1 σ H1 x v Q I1 r1 q1)
theorem DN {f:Value->Value->Sem Value} {C:Int->Int->Prop} {g:Int->Int->Int}
 (rule:∀ (i j:Int) (t u:Tok) (s:Shared) (Q:Value->Shared->Prop) (E:Value->Shared->Prop),C i j->Q (.int (g i j) s.toks) { s with toks:=s.toks+1 }->wpAny (model X.prog X.w) X.A (f (.int i t) (.int j u)) Q E s):
 gh X f (rI C λ i j=>.int (g i j)):=by
 intro pins s σ H x y v u Q I rx ry h
 obtain ⟨i,j,rfl,rfl,hc,q⟩:=h
 obtain ⟨t,rfl⟩:=rx
 obtain ⟨t',rfl⟩:=ry
 exact rule i j t t' s _ _ hc ⟨.int (g i j),H,I.tok _,⟨_,rfl⟩,q⟩
theorem D1 {f:Value->Value->Sem Value} {g:Int->Int->Int}
 (rule:∀ (i j:Int) (t u:Tok) (s:Shared) (Q:Value->Shared->Prop) (E:Value->Shared->Prop),Q (.int (g i j) s.toks) { s with toks:=s.toks+1 }->wpAny (model X.prog X.w) X.A (f (.int i t) (.int j u)) Q E s):
 gh X f (qk λ i j=>.int (g i j)):=by
 intro pins s σ H x y v u Q I rx ry h
 obtain ⟨i,j,rfl,rfl,q⟩:=h
 obtain ⟨t,rfl⟩:=rx
 obtain ⟨t',rfl⟩:=ry
 exact rule i j t t' s _ _ ⟨.int (g i j),H,I.tok _,⟨_,rfl⟩,q⟩
theorem y2 {f:Value->Value->Sem Value} {g:Int->Int->Bool}
 (rule:∀ (i j:Int) (t u:Tok) (s:Shared) (Q:Value->Shared->Prop) (E:Value->Shared->Prop),Q (.bool (g i j)) s->wpAny (model X.prog X.w) X.A (f (.int i t) (.int j u)) Q E s):
 gh X f (qk λ i j=>.bl (g i j)):=by
 intro pins s σ H x y v u Q I rx ry h
 obtain ⟨i,j,rfl,rfl,q⟩:=h
 obtain ⟨t,rfl⟩:=rx
 obtain ⟨t',rfl⟩:=ry
 exact rule i j t t' s _ _ ⟨.bl (g i j),H,I,rfl,q⟩
noncomputable def E9 (i j:Int):Prop:=0<=j/\j<=1000000/\i.natAbs<2^64
noncomputable def xR (i j:Int):Prop:=(-(2^64)<i/\i<2^64)∨(-(2^64)<j/\j<2^64)
theorem xR.ok {i j:Int} (h:xR i j):IntMulOk i j:=by
 rcases h with ⟨h1,h2⟩ | ⟨h1,h2⟩
 . exact .of_left (intBits_le_64 h1 h2)
 . exact .of_right (intBits_le_64 h1 h2)
theorem B8:gh X (binaryOp .Add) (qk λ i j=>.int (i+j)):=D1 λ _ _ _ _ _ _ _ q=>add_int q
theorem Hc:gh X (binaryOp .Sub) (qk λ i j=>.int (i-j)):=D1 λ _ _ _ _ _ _ _ q=>sub_int q
theorem Bf:gh X (binaryOp .Mult) (rI xR λ i j=>.int (i*j)):=DN λ _ _ _ _ _ _ _ hc q=>mul_int q hc.ok
theorem yG:gh X (binaryOp .Mod) (rI (λ _ j=>j≠0) λ i j=>.int (i.fmod j)):=DN λ _ _ _ _ _ _ _ hc q=>mod_int' hc q
theorem GM:gh X (binaryOp .Pow) (rI E9 λ i j=>.int (i^j.toNat)):=DN λ _ _ _ _ _ _ _ hc q=>pow_int_small hc.1 hc.2.1 hc.2.2 q
theorem J5 {f:Value->Sem Value} {g:Int->Int}
 (rule:∀ (i:Int) (t:Tok) (s:Shared) (Q:Value->Shared->Prop) (E:Value->Shared->Prop),Q (.int (g i) s.toks) { s with toks:=s.toks+1 }->wpAny (model X.prog X.w) X.A (f (.int i t)) Q E s):
 F4 X f (rU λ i=>.int (g i)):=by
 intro pins s σ H x v Q I rx h
 obtain ⟨i,rfl,q⟩:=h
 obtain ⟨t,rfl⟩:=rx
 exact rule i t s _ _ ⟨.int (g i),H,I.tok _,⟨_,rfl⟩,q⟩
theorem GW:F4 X (unaryOp .USub) (rU λ i=>.int (-i)):=J5 λ _ _ _ _ _ q=>neg_int q
end
noncomputable def Af:V->V->Bool
 | .non,.non=>true | .non,.int _=>true | .int _,.non=>true | .non,.bl _=>true | .bl _,.non=>true | .non,.str _=>true | .str _,.non=>true
 | .int _,.int _=>true | .bl _,.bl _=>true | .str _,.str _=>true | .byt _,.byt _=>true
 | .int _,.str _=>true | .str _,.int _=>true | .bl _,.str _=>true | .str _,.bl _=>true
 | _,_=>false
noncomputable def Ip:R2:=λ x y H Q=>Af x y=true/\Q (.bl (decide (x=y))) H
noncomputable def Io:R2:=λ x y H Q=>Af x y=true/\Q (.bl (!decide (x=y))) H
theorem se {i j:Int}:decide (V.int i=V.int j)=(i==j):=by
 rw [Bool.eq_iff_iff]
 simp
theorem uX {i j:Bool}:decide (V.bl i=V.bl j)=(i==j):=by
 rw [Bool.eq_iff_iff]
 simp
theorem rR {i j:Str}:decide (V.str i=V.str j)=(i==j):=by
 rw [Bool.eq_iff_iff]
 simp
theorem su {i j:Array UInt8}:decide (V.byt i=V.byt j)=(i.toList==j.toList):=by
 rw [Bool.eq_iff_iff]
 cases i
 cases j
 simp
section
variable {X:Cx} {a b c:Expr} {ta tb tc:TE} {pos:Pos}
theorem bh {pins:List (Addr×Obj)} {σ:St} {H:Hp} {s:Shared} {Q:VK} {k k':Bool} (I:aI X pins σ H s) (q:Q (.bl k) H) (e:k=k'):EP X pins σ Q (.bool k') s:=by
 subst e
 exact ⟨.bl k,H,I,rfl,q⟩
theorem ET:gh X (compareOp .Eq) Ip:=by
 intro pins s σ H x y v u Q I rx ry h
 obtain ⟨hs,q⟩:=h
 cases x with
 | non=>
  cases rx
  cases y with
  | non=>cases ry;exact PySem.EqNone.eq_none_none (bh I q (by simp))
  | bl j=>cases ry;exact PySem.EqNone.eq_none_bool (bh I q (by simp))
  | int j=>obtain ⟨t',rfl⟩:=ry;exact PySem.EqNone.eq_none_int (bh I q (by simp))
  | str j=>obtain ⟨t',rfl⟩:=ry;exact PySem.EqNone.eq_none_str (bh I q (by simp))
  | _=>exact absurd (show false=true from hs) Bool.false_ne_true
 | bl i=>
  cases rx
  cases y with
  | non=>cases ry;exact PySem.EqNone.eq_bool_none (bh I q (by simp))
  | bl j=>cases ry;exact eq_bool (bh I q uX)
  | str j=>obtain ⟨t',rfl⟩:=ry;exact PySem.EqMixed.eq_bool_str (bh I q (by simp))
  | _=>exact absurd (show false=true from hs) Bool.false_ne_true
 | int i=>
  obtain ⟨t,rfl⟩:=rx
  cases y with
  | non=>cases ry;exact PySem.EqNone.eq_int_none (bh I q (by simp))
  | int j=>obtain ⟨t',rfl⟩:=ry;exact eq_int (bh I q se)
  | str j=>obtain ⟨t',rfl⟩:=ry;exact PySem.EqMixed.eq_int_str (bh I q (by simp))
  | _=>exact absurd (show false=true from hs) Bool.false_ne_true
 | str i=>
  obtain ⟨t,rfl⟩:=rx
  cases y with
  | non=>cases ry;exact PySem.EqNone.eq_str_none (bh I q (by simp))
  | bl j=>cases ry;exact PySem.EqMixed.eq_str_bool (bh I q (by simp))
  | int j=>obtain ⟨t',rfl⟩:=ry;exact PySem.EqMixed.eq_str_int (bh I q (by simp))
  | str j=>obtain ⟨t',rfl⟩:=ry;exact eq_str (bh I q rR)
  | _=>exact absurd (show false=true from hs) Bool.false_ne_true
 | byt i=>
  obtain ⟨t,rfl⟩:=rx
  cases y with
  | byt j=>obtain ⟨t',rfl⟩:=ry;exact PySem.W.eq_bytes (bh I q su)
  | _=>exact absurd (show false=true from hs) Bool.false_ne_true
 | _=>cases y <;> exact absurd (show false=true from hs) Bool.false_ne_true
theorem EL:gh X (compareOp .NotEq) Io:=by
 intro pins s σ H x y v u Q I rx ry h
 obtain ⟨hs,q⟩:=h
 cases x with
 | non=>
  cases rx
  cases y with
  | non=>cases ry;exact PySem.EqNone.ne_none_none (bh I q (by simp))
  | bl j=>cases ry;exact PySem.EqNone.ne_none_bool (bh I q (by simp))
  | int j=>obtain ⟨t',rfl⟩:=ry;exact PySem.EqNone.ne_none_int (bh I q (by simp))
  | str j=>obtain ⟨t',rfl⟩:=ry;exact PySem.EqNone.ne_none_str (bh I q (by simp))
  | _=>exact absurd (show false=true from hs) Bool.false_ne_true
 | bl i=>
  cases rx
  cases y with
  | non=>cases ry;exact PySem.EqNone.ne_bool_none (bh I q (by simp))
  | bl j=>cases ry;exact ne_bool (bh I q (congrArg not uX))
  | str j=>obtain ⟨t',rfl⟩:=ry;exact PySem.EqMixed.ne_bool_str (bh I q (by simp))
  | _=>exact absurd (show false=true from hs) Bool.false_ne_true
 | int i=>
  obtain ⟨t,rfl⟩:=rx
  cases y with
  | non=>cases ry;exact PySem.EqNone.ne_int_none (bh I q (by simp))
  | int j=>obtain ⟨t',rfl⟩:=ry;exact ne_int (bh I q (congrArg not se))
  | str j=>obtain ⟨t',rfl⟩:=ry;exact PySem.EqMixed.ne_int_str (bh I q (by simp))
  | _=>exact absurd (show false=true from hs) Bool.false_ne_true
 | str i=>
  obtain ⟨t,rfl⟩:=rx
  cases y with
  | non=>cases ry;exact PySem.EqNone.ne_str_none (bh I q (by simp))
  | bl j=>cases ry;exact PySem.EqMixed.ne_str_bool (bh I q (by simp))
  | int j=>obtain ⟨t',rfl⟩:=ry;exact PySem.EqMixed.ne_str_int (bh I q (by simp))
  | str j=>obtain ⟨t',rfl⟩:=ry;exact ne_str (bh I q (congrArg not rR))
  | _=>exact absurd (show false=true from hs) Bool.false_ne_true
 | byt i=>
  obtain ⟨t,rfl⟩:=rx
  cases y with
  | byt j=>obtain ⟨t',rfl⟩:=ry;exact PySem.W.ne_bytes (bh I q (congrArg not su))
  | _=>exact absurd (show false=true from hs) Bool.false_ne_true
 | _=>cases y <;> exact absurd (show false=true from hs) Bool.false_ne_true
theorem HZ:gh X (compareOp .Lt) (qk λ i j=>.bl (decide (i<j))):=y2 λ _ _ _ _ _ _ _ q=>lt_int q
theorem HP:gh X (compareOp .LtE) (qk λ i j=>.bl (decide (i<=j))):=y2 λ _ _ _ _ _ _ _ q=>le_int q
theorem HW:gh X (compareOp .Gt) (qk λ i j=>.bl (decide (j<i))):=y2 λ _ _ _ _ _ _ _ q=>gt_int q
theorem HF:gh X (compareOp .GtE) (qk λ i j=>.bl (decide (j<=i))):=y2 λ _ _ _ _ _ _ _ q=>ge_int q
theorem GH:gh X (compareOp .Is) (λ x y H Q=>y=.non/\Q (.bl (decide (x=.non))) H):=by
 intro pins s σ H x y v u Q I rx ry h
 obtain ⟨rfl,q⟩:=h
 cases ry
 refine is_none_gen (bh I q ?_)
 cases x <;> first
  | (cases rx;rfl)
  | (obtain ⟨t,rfl⟩:=rx;rfl)
theorem Ft:gh X (compareOp .IsNot) (λ x y H Q=>y=.non/\Q (.bl (!decide (x=.non))) H):=by
 intro pins s σ H x y v u Q I rx ry h
 obtain ⟨rfl,q⟩:=h
 cases ry
 refine isnot_none_gen (bh I q ?_)
 cases x <;> first
  | (cases rx;rfl)
  | (obtain ⟨t,rfl⟩:=rx;rfl)
theorem gh.or {f:Value->Value->Sem Value} {r r':R2} (h:gh X f r) (h':gh X f r'):gh X f (λ x y H Q=>r x y H Q∨r' x y H Q):=by
 intro pins s σ H x y v u Q I rx ry q
 rcases q with q | q
 . exact h pins s σ H x y v u Q I rx ry q
 . exact h' pins s σ H x y v u Q I rx ry q
theorem Fh {op:CmpOp} {r:R2} (ho:gh X (compareOp op) r) (ha:PE X a ta) (hb:PE X b tb) (hm:behindInMarks op b=false):PE X (.Compare a [op] [b] pos) (oW r ta tb):=by
 intro pins s σ H Q I h
 exact wpAny_Compare1 (CF ha hb I h λ v u s2 x y H2 I2 rx ry q=>ho pins s2 σ H2 x y v u Q I2 rx ry q) hm
noncomputable def kr (t:TE):TT:=λ σ H Q=>t σ H λ x H'=>∃ k,x=.bl k/\Q k H'
theorem Gb {op:CmpOp} {r:R2} (ho:gh X (compareOp op) r) (ha:PE X a ta) (hb:PE X b tb) (hm:behindInMarks op b=false):PT X (.Compare a [op] [b] pos) (kr (oW r ta tb)):=by
 intro pins s σ H Q I h
 refine wpAny_isTrue_Compare1 (bK (ha pins s σ H _ I h) λ v s1 hy0=>?_) hm
 obtain ⟨x,H1,I1,r1,q1⟩:=hy0
 refine bK (hb pins s1 σ H1 _ I1 q1) λ u s2 hy0=>?_
 obtain ⟨y,H2,I2,r2,q2⟩:=hy0
 refine
  bK (ho pins s2 σ H2 x y v u _ I2 r1 r2 q2) λ c s3 ⟨z,H3,I3,r3,k,e,q3⟩=>?_
 subst e
 cases r3
 exact wpAny_truthy_bool ⟨H3,I3,q3⟩
noncomputable def uL (r r':R2) (ta tb tc:TE):TE:=λ σ H Q=>ta σ H λ x H1=>tb σ H1 λ y H2=>r x y H2 λ z H3=>∃ k,z=.bl k/\
 (if k=true then tc σ H3 λ w' H4=>r' y w' H4 Q else Q (.bl false) H3)
theorem Di {op op':CmpOp} {r r':R2} (ho:gh X (compareOp op) r) (ho':gh X (compareOp op') r') (ha:PE X a ta) (hb:PE X b tb) (hc:PE X c tc)
 (hm:lastMarks [op,op'] [b,c]=false):PT X (.Compare a [op,op'] [b,c] pos) (kr (uL r r' ta tb tc)):=by
 intro pins s σ H Q I h
 refine isTrue_chain (bK (ha pins s σ H _ I h) λ v s1 hy0=>?_) hm
 obtain ⟨x,H1,I1,r1,q1⟩:=hy0
 refine test_link (bK (hb pins s1 σ H1 _ I1 q1) λ u s2 hy0=>?_)
 obtain ⟨y,H2,I2,r2,q2⟩:=hy0
 refine
  bK (ho pins s2 σ H2 x y v u _ I2 r1 r2 q2) λ d s3 ⟨z,H3,I3,r3,k,e,q3⟩=>?_
 subst e
 cases r3
 refine wpAny_truthy_bool ?_
 cases k with
 | false=>
  obtain ⟨k',e',q'⟩:=q3
  cases e'
  exact ite_ff ⟨H3,I3,q'⟩
 | true=>
  refine ite_tt (test_last (bK (hc pins s3 σ H3 _ I3 q3) λ w' s4 hy0=>?_))
  obtain ⟨z',H4,I4,r4,q4⟩:=hy0
  refine bK (ho' pins s4 σ H4 y z' u w' _ I4 r2 r4 q4) λ d' s5 hq0=>?_
  obtain ⟨z2,H5,I5,r5,k2,e2,q5⟩:=hq0
  subst e2
  cases r5
  exact wpAny_truthy_bool ⟨H5,I5,q5⟩
noncomputable def BZ (K:Frag) (x:V) (H:Hp) (k:Bool):Prop:=
 match x with
 | .non=>k=false
 | .bl b=>k=b
 | .int i=>k=(i != 0)
 | .str y=>y.length<=sizeLine/\k=((y.length:Int) != 0)
 | .byt y=>y.size<=sizeLine/\k=((y.size:Int) != 0)
 | .ref p=>(∃ xs,cY K H p xs/\k = !xs.isEmpty)∨(∃ xs,fS K H p xs/\k = !xs.isEmpty)∨∃ kvs,H p=some (.dK kvs)/\k = !kvs.isEmpty
 | _=>False
theorem qW {κ:Type} {kvs:List (κ×V)} {vs:List (κ×Value)} (r:KV kvs vs):(!vs.isEmpty) = !kvs.isEmpty:=by
 cases r <;> rfl
theorem lg {xs:List V} {its:List Value} (r:bf xs its):(!its.toArray.isEmpty) = !xs.isEmpty:=by
 cases r <;> simp
theorem jP:(sizeLine:Nat)<2^63:=by rw [sizeLine_eq];decide
theorem Bx:HA X (λ x H Q=>∃ k,BZ X.K x H k/\Q k H):=by
 intro pins s σ H x v Q I rx h
 obtain ⟨k,e,q⟩:=h
 have hl:=jP
 have hs:sizeLine=16777216:=sizeLine_eq
 cases x with
 | non=>
  cases rx
  have e':k=false:=e
  subst e'
  exact truthy_none ⟨H,I,q⟩
 | bl b=>
  cases rx
  have e':k=b:=e
  subst e'
  exact wpAny_truthy_bool ⟨H,I,q⟩
 | int i=>
  obtain ⟨t,rfl⟩:=rx
  have e':k=(i != 0):=e
  subst e'
  exact PySem.P.truthy_int ⟨H,I,q⟩
 | str y=>
  obtain ⟨t,rfl⟩:=rx
  obtain ⟨hy,e'⟩:y.length<=sizeLine/\k=((y.length:Int) != 0):=e
  subst e'
  exact PySem.P.truthy_str (by omega) ⟨H,I.tok _,q⟩
 | byt y=>
  obtain ⟨t,rfl⟩:=rx
  obtain ⟨hy,e'⟩:y.size<=sizeLine/\k=((y.size:Int) != 0):=e
  subst e'
  exact PySem.W.truthy_bytes (by omega) ⟨H,I.tok _,q⟩
 | ref p=>
  cases rx
  have e':(∃ xs,cY X.K H p xs/\k = !xs.isEmpty)∨(∃ xs,fS X.K H p xs/\k = !xs.isEmpty)∨∃ kvs,H p=some (.dK kvs)/\k = !kvs.isEmpty:=e
  rcases e' with ⟨xs,hx,e'⟩ | ⟨xs,hx,e'⟩ | ⟨kvs,hx,e'⟩
  . subst e'
    obtain ⟨its,r,pl,hz⟩:=I.list hx
    have hlen:=r.length
    exact wpAny_truthy_list pl.isList (by simp only [List.size_toArray];omega) ⟨H,I.tok _,by rw [lg r];exact q⟩
  . subst e'
    obtain ⟨its,r,pl,hz⟩:=I.tuple hx
    have hlen:=r.length
    exact truthy_tuple pl (by simp only [List.size_toArray];omega) ⟨H,I.tok _,by rw [lg r];exact q⟩
  . subst e'
    obtain ⟨hz,hS,vs,r,m'⟩:kvs.length<=sizeLine/\(p==sysModules)=false/\∃ vs,KV kvs vs/\gP X.prog X.w s.heap p vs:=I.hok p _ hx
    have m:=m'.of
    have hlen:kvs.length=vs.length:=Paired.length r
    exact wpAny_truthy_dict hS m (by omega) ⟨H,I.tok _,by rw [qW r];exact q⟩
 | _=>exact (show False from e).elim
theorem vI (ha:PE X a ta) (he:∀ whole,isTrue a X.env whole=(do let v <-whole;standAt a.pos;holding [v] (truthy v))):
 PT X a (λ σ H Q=>ta σ H λ x H'=>∃ k,BZ X.K x H' k/\Q k H'):=by
 intro pins s σ H Q I h
 exact isTrue_plain (bK (ha pins s σ H _ I h) λ v s1 hy0=>by obtain ⟨x,H1,I1,r1,q1⟩:=hy0;exact Bx pins s1 σ H1 x v Q I1 r1 q1) (he _)
theorem qQ:gh X (binaryOp .Add) (λ x y H Q=>∃ i j,x=.str i/\y=.str j/\i.length+j.length<=sizeLine/\Q (.str (i++j)) H):=by
 intro pins s σ H x y v u Q I rx ry h
 obtain ⟨i,j,rfl,rfl,hz,q⟩:=h
 obtain ⟨t,rfl⟩:=rx
 obtain ⟨t',rfl⟩:=ry
 exact add_str (λ t' tk=>⟨.str (i++j),H,I.tok _,⟨_,rfl⟩,q⟩) hz
theorem pj {x:V} {us:List Value} (r:bf [x] us):∃ u,us=[u]/\be x u:=by
 cases r with
 | cons r1 r2=>cases r2;exact ⟨_,rfl,r1⟩
theorem EJ {x y:V} {us:List Value} (r:bf [x,y] us):∃ u w',us=[u,w']/\be x u/\be y w':=by
 cases r with
 | cons r1 r2=>
  cases r2 with
  | cons r3 r4=>cases r4;exact ⟨_,_,rfl,r1,r3⟩
theorem tu (hc:X.calm=true):dJ X (.builtin "max") (λ xs H Q=>∃ i j,xs=[.int i,.int j]/\Q (.int (if j>i then j else i)) H):=by
 intro pins s σ H xs us Q I r h
 obtain ⟨i,j,rfl,q⟩:=h
 obtain ⟨u,w',rfl,⟨t,rfl⟩,⟨t',rfl⟩⟩:=EJ r
 refine max_two_ints (I.ok.hd hc) λ h' tk k=>⟨_,H,I.kept k,?_,q⟩
 by_cases hj:j>i
 . rw [if_pos hj,if_pos hj];exact ⟨_,rfl⟩
 . rw [if_neg hj,if_neg hj];exact ⟨_,rfl⟩
end
end L2
namespace L2
open PySem PySem.Spec PyProof.Rows
open PySem.W (Frag)
structure qK (h:Heap) (x dx C:Addr) (mA:Str->Option Value):Prop where
 obj:h.get? x=some (PySem.W.instObj C dx)
 ns:h.Ns1 dx mA
 ne:dx≠x
theorem tU {h:Heap} {dx:Addr} {mA:Str->Option Value} (n:h.Ns1 dx mA):∃ od,h.get? dx=some od/\∀ name,PySem.W.lookIn name od=some (mA name):=by
 obtain ⟨o,es,ep,ho,hd,hk,_,hm⟩:=n
 refine ⟨o,ho,λ name=>?_⟩
 have e:=hm name
 unfold nsFind findBy at e
 rw [<-Array.find?_toList] at e
 unfold PySem.W.lookIn
 rw [hd]
 dsimp only
 split
 . rename_i y q
   rw [q] at e
   exact congrArg some e
 . rename_i q
   rw [q] at e
   have a:es.toList.any (·.refKey)=false:=by
    rw [List.any_eq_false]
    intro y hy
    obtain ⟨z,t,hkey⟩:=hk y (Array.mem_toList_iff.mp hy)
    simp [DictEntry.refKey,hkey]
   have a':¬ es.toList.any (·.refKey)=true:=by rw [a];exact Bool.false_ne_true
   rw [if_neg a']
   exact congrArg some e
theorem qK.look {h:Heap} {x dx C:Addr} {mA:Str->Option Value} (I:qK h x dx C mA):∃ od,PySem.W.InstAt h x (PySem.W.instObj C dx) C (some od)/\∀ name,PySem.W.lookIn name od=some (mA name):=
 let ⟨od,ho,hl⟩:=tU I.ns
 ⟨od,⟨I.obj,rfl,rfl,ho⟩,hl⟩
section
variable {prog:Program} {w:World} {A:Around} {E:Value->Shared->Prop} {s:Shared} {K:Frag} {x dx C f:Addr} {mA:Str->Option Value} {name:Str} {v:Value}
theorem yC {expr:Bool} {Q:Value->Shared->Prop} (X:K.In s.heap) (I:qK s.heap x dx C mA) (hg:PySem.W.plainGet K C name=true) (hh:PySem.W.hasDictIn K C=true)
 (ha:PySem.W.findIn K (.ref C) name=some none) (hv:mA name=some v) (hv':PySem.W.handedIn v=true) (h:Q v { s with toks:=s.toks+1 }):
 wpAny (model prog w) A (getAttr (.ref x) name expr) Q E s:=by
 obtain ⟨od,J,hl⟩:=I.look
 exact PySem.W.get_value X J (PySem.W.plainGet_of hg).1 (PySem.W.findObj_own hh ha rfl (by rw [hl,hv])) hv' h
theorem uW {pl:Sem Bool} {Q:Value×List Value->Shared->Prop} (X:K.In s.heap) (I:qK s.heap x dx C mA) (hg:PySem.W.plainGet K C name=true)
 (hf:PySem.W.findIn K (.ref C) name=some (some (.ref f))) (ht:PySem.W.isFn K (.ref f)=true) (hv:mA name=none) (h:Q (.ref f,[.ref x]) s):
 wpAny (model prog w) A (getMethod (.ref x) name pl) Q E s:=by
 obtain ⟨od,J,hl⟩:=I.look
 exact PySem.W.method_fn X J (PySem.W.plainGet_of hg).1 (PySem.W.plainGet_of hg).2 hf (beq_iff_eq.mp ht) (by show (PySem.W.lookIn name od).map (·.isSome)=some false;rw [hl,hv];rfl) h
theorem yi {ns:List Str} {Q:Unit->Shared->Prop} (X:K.In s.heap) (I:qK s.heap x dx C mA)
 (hs:PySem.W.findIn K (.ref C) "__setattr__" = some (some (.builtin "object.__setattr__"))) (hp:PySem.W.plainOver K C=true) (ht:PySem.W.takerIn K C name=some none) (hh:PySem.W.hasDictIn K C=true)
 (hw:PySem.Within mA ns) (hsz:ns.length<=sizeLine)
 (h:∀ h',qK h' x dx C (λ y=>if y=name then some v else mA y)->Heap.SameBut dx s.heap h'->Q () { s with heap:=h',toks:=s.toks+2 }):
 wpAny (model prog w) A (setAttr (.ref x) name v) Q E s:=by
 obtain ⟨od,J,hl⟩:=I.look
 refine PySem.W.set_plain X J hs (PySem.W.osa_open (s:={ s with toks:=s.toks+1 }) (r:=none) X J hp ht λ b=>?_)
 obtain ⟨cd,hc,hd'⟩:=PySem.W.any_some hh
 have hx:s.heap.get? x=some ⟨.ref C,some dx,.plain,#[]⟩:=I.obj
 refine wpAny_bind (wpAny_pure (wpAny_bind (wpAny_bind (wpAny_loadPart hx (wpAny_bind (PySem.W.Looks.here (s:={ s with toks:=s.toks+1 }) (PySem.W.looks_clsIn X hc) ?_))))))
 rw [hd']
 refine wpAny_pure (a:=some dx) (wpAny_bind (wpAny_pure (wpAny_bind ?_)))
 refine wpAny_nsSet1 (s:={ s with toks:=s.toks+1 }) I.ns λ h' hn2 hs2=>?_
 obtain ⟨oD,esD,epD,hoD,hdD,hcD⟩:=hn2.count (PySem.Within.cons name v hw)
 refine wpAny_bind (wpAny_lookBehind hoD (by rw [hdD];exact pastItsLine_dict (Nat.le_trans hcD (by rw [List.length_cons];omega))) ?_)
 exact wpAny_pure (h _ ⟨(hs2.2 _ (Ne.symm I.ne)).trans I.obj,hn2,I.ne⟩ hs2)
theorem v7 {R:Result->Shared->Prop} {vs:List Value} {kw:List (Str×Value)} (X:K.In s.heap) (hm:PySem.W.makesIn K C=true)
 (hi:PySem.W.findIn K (.ref C) "__init__" = some (some (.ref f))) (hf:PySem.W.typeIn K (.ref f)=some (.type "function"))
 (h:codeAny (model prog w) (A.under (.builtin "type.__call__" ⟨.ref C::vs,kw⟩)) (.call (.ref f) ⟨.ref (s.heap.objs.size+1)::vs,kw⟩) (PySem.W.InitBack (s.heap.objs.size+1) R)
  { s with heap:=(s.heap.push PySem.W.emptyDict).push (PySem.W.instObj C s.heap.objs.size) }):
 codeAny (model prog w) A (.call (.ref C) ⟨vs,kw⟩) R s:=by
 obtain ⟨hh,g,d,t,os⟩:=s
 exact PySem.W.make_core (PySem.W.makes_of X hm) (PySem.W.looks_findIn X hi) (λ self=>PySem.W.bind_fn X self hf) (.inl rfl) h
end
noncomputable def putF (f:Str) (v:V):List (Str×V)->List (Str×V)
 | []=>[(f,v)]
 | (g,x)::r=>if g=f then (g,v)::r else (g,x)::putF f v r
theorem jY (f g:Str) (v:V):∀ fs:List (Str×V),(putF f v fs).lookup g=if g=f then some v else fs.lookup g
 | []=>by
  show List.lookup g [(f,v)]=_
  by_cases h:g=f
  . have hb:(g==f)=true:=beq_iff_eq.mpr h
    simp only [List.lookup,hb,if_pos h]
  . have hb:(g==f)=false:=beq_eq_false_iff_ne.mpr h
    simp only [List.lookup,hb,if_neg h]
 | (k,x)::r=>by
  have ih:=jY f g v r
  rw [show putF f v ((k,x)::r)=(if k=f then (k,v)::r else (k,x)::putF f v r) from rfl]
  by_cases hk:k=f
  . rw [if_pos hk]
    by_cases h:g=k
    . have hb:(g==k)=true:=beq_iff_eq.mpr h
      simp only [List.lookup,hb,if_pos (h.trans hk)]
    . have hb:(g==k)=false:=beq_eq_false_iff_ne.mpr h
      simp only [List.lookup,hb,if_neg (λ e:g=f=>h (e.trans hk.symm))]
  . rw [if_neg hk]
    by_cases h:g=k
    . have hb:(g==k)=true:=beq_iff_eq.mpr h
      simp only [List.lookup,hb,if_neg (λ e:g=f=>hk (h.symm.trans e))]
    . have hb:(g==k)=false:=beq_eq_false_iff_ne.mpr h
      simp only [List.lookup,hb]
      exact ih
theorem jR (f:Str) (v:V):∀ fs:List (Str×V),f∈(putF f v fs).map (·.1)/\∀ g,g∈fs.map (·.1)->g∈(putF f v fs).map (·.1)
 | []=>⟨by simp [putF],λ g h=>by simp at h⟩
 | (k,x)::r=>by
  obtain ⟨i1,i2⟩:=jR f v r
  rw [show putF f v ((k,x)::r)=(if k=f then (k,v)::r else (k,x)::putF f v r) from rfl]
  by_cases hk:k=f
  . rw [if_pos hk]
    subst hk
    exact ⟨by simp,λ g h=>by simpa using h⟩
  . rw [if_neg hk]
    refine ⟨?_,λ g h=>?_⟩
    . rw [List.map_cons]
      exact List.mem_cons_of_mem _ i1
    . rw [List.map_cons] at h ⊢
      rcases List.mem_cons.mp h with e | e
      . exact List.mem_cons.mpr (.inl e)
      . exact List.mem_cons_of_mem _ (i2 g e)
theorem kn (f:Str) (v:V):∀ fs:List (Str×V),(putF f v fs).length<=fs.length+1
 | []=>by simp [putF]
 | (k,x)::r=>by
  have ih:=kn f v r
  rw [show putF f v ((k,x)::r)=(if k=f then (k,v)::r else (k,x)::putF f v r) from rfl]
  by_cases hk:k=f
  . rw [if_pos hk,List.length_cons,List.length_cons];omega
  . rw [if_neg hk,List.length_cons,List.length_cons];omega
theorem gZ.some_of {v:V} {o:Option Value} (r:gZ (some v) o):∃ u,o=some u/\be v u:=by
 cases o with
 | none=>exact (show False from r).elim
 | some u=>exact ⟨u,rfl,r⟩
theorem gZ.none_of {o:Option Value} (r:gZ none o):o=none:=by
 cases o with
 | none=>rfl
 | some u=>exact (show False from r).elim
theorem sW {v:V} {u:Value} (r:be v u):PySem.W.handedIn u=true:=by
 cases v with
 | non=>cases (show u=Value.none from r);rfl
 | bl b=>cases (show u=Value.bool b from r);rfl
 | int i=>obtain ⟨t,e⟩:=(show ∃ t,u=Value.int i t from r);cases e;rfl
 | str x=>obtain ⟨t,e⟩:=(show ∃ t,u=Value.str x t from r);cases e;rfl
 | byt b=>obtain ⟨t,e⟩:=(show ∃ t,u=Value.bytes b t from r);cases e;rfl
 | flt b=>obtain ⟨t,e⟩:=(show ∃ t,u=Value.float b t from r);cases e;rfl
 | ref a=>cases (show u=Value.ref a from r);rfl
 | ty n=>cases (show u=Value.type n from r);rfl
section
variable {P:Program} {w:World} {H H':Hp} {h h':Heap} {a C dx:Addr} {fs fs':List (Str×V)}
theorem oE (hok:gE P w H h) (e:H a=some (.ins C dx fs)):∃ mA,qK h a dx C mA/\(∀ f,gZ (fs.lookup f) (mA f))/\PySem.Within mA (fs.map (·.1))/\fs.length<=1000/\H dx=some (.own a):=by
 obtain ⟨d,z,ne,ob,mA,n,r,q⟩:=(show cn P w H h a (.ins C dx fs) from hok a _ e)
 exact ⟨mA,⟨ob,n,ne⟩,r,q,z,d⟩
end
structure dY (K:Frag) (C:Addr):Prop where
 pg:PySem.W.plainGet K C Str.empty=true
 hd:PySem.W.hasDictIn K C=true
 po:PySem.W.plainOver K C=true
 sa:PySem.W.findIn K (.ref C) "__setattr__" = some (some (.builtin "object.__setattr__"))
theorem dY.get {K:Frag} {C:Addr} (c:dY K C) (f:Str):PySem.W.plainGet K C f=true:=c.pg
noncomputable def ae (K:Frag) (C:Addr) (f:Str):Prop:=PySem.W.findIn K (.ref C) f=some none
theorem ae.taker {K:Frag} {C:Addr} {f:Str} (n:ae K C f):PySem.W.takerIn K C f=some none:=by
 unfold PySem.W.takerIn
 rw [show PySem.W.findIn K (.ref C) f=some none from n]
 rfl
structure bt (K:Frag) (C:Addr) (m:Str) (f:Addr):Prop where
 at_:PySem.W.findIn K (.ref C) m=some (some (.ref f))
 fn:PySem.W.isFn K (.ref f)=true
 kp:PySem.W.keepIn K (.ref f)=true
section
variable {X:Cx} {pins:List (Addr×Obj)} {σ:St} {H:Hp} {s:Shared} {a C dx:Addr} {fs:List (Str×V)} {f:Str} {v:V} {A:Around} {E:Value->Shared->Prop}
theorem lP {b:Bool} {Q:Value->Shared->Prop} (I:aI X pins σ H s) (e:H a=some (.ins C dx fs)) (c:dY X.K C) (n:ae X.K C f) (l:fs.lookup f=some v)
 (h:∀ u s',aI X pins σ H s'->be v u->Q u s'):wpAny (model X.prog X.w) A (getAttr (.ref a) f b) Q E s:=by
 obtain ⟨mA,O,r,_,_,_⟩:=oE I.hok e
 obtain ⟨u,hu,ru⟩:=gZ.some_of (v:=v) (o:=mA f) (by rw [<-l];exact r f)
 exact yC I.kIn O (c.get f) c.hd n hu (sW ru) (h u _ (I.tok _) ru)
theorem gM {m:Str} {g:Addr} {pl:Sem Bool} {Q:Value×List Value->Shared->Prop} (I:aI X pins σ H s) (e:H a=some (.ins C dx fs)) (c:dY X.K C) (k:bt X.K C m g) (l:fs.lookup m=none)
 (h:Q (.ref g,[.ref a]) s):wpAny (model X.prog X.w) A (getMethod (.ref a) m pl) Q E s:=by
 obtain ⟨mA,O,r,_,_,_⟩:=oE I.hok e
 have hn:mA m=none:=gZ.none_of (by rw [<-l];exact r m)
 exact uW I.kIn O (c.get m) k.at_ k.fn hn h
theorem lz {y:V} {u:Value} {Q:Unit->Shared->Prop} (I:aI X pins σ H s) (e:H a=some (.ins C dx fs)) (c:dY X.K C) (n:ae X.K C f) (hl:fs.length<1000) (ry:be y u)
 (h:∀ s',aI X pins σ (cq H a (.ins C dx (putF f y fs))) s'->Q () s'):wpAny (model X.prog X.w) A (setAttr (.ref a) f u) Q E s:=by
 obtain ⟨mA,O,r,wi,_,ho⟩:=oE I.hok e
 have hz:(fs.map (·.1)).length<=sizeLine:=by rw [List.length_map,sizeLine_eq];omega
 refine yi I.kIn O c.sa c.po n.taker c.hd wi hz λ h' O' sb=>h _ ?_
 have hd:∃ o,h'.get? dx=some o:=by obtain ⟨o,_,_,e',_⟩:=O'.ns;exact ⟨o,e'⟩
 refine I.write (x:=a) (e:=dx) (by rw [e];exact True.intro) (.inr ho) (λ b q hb z=>(sb.2 b hb).trans z) hd ?_
 refine ⟨by rw [aD O.ne];exact ho,?_,O.ne,O'.obj,_,O'.ns,λ g=>?_,λ g hg=>?_⟩
 . have:=kn f y fs;omega
 . show gZ ((putF f y fs).lookup g) (if g=f then some u else mA g)
   rw [jY]
   by_cases q:g=f
   . rw [if_pos q,if_pos q];exact ry
   . rw [if_neg q,if_neg q];exact r g
 . by_cases q:g=f
   . rw [q];exact (jR f y fs).1
   . refine (jR f y fs).2 g (wi g λ z=>hg ?_)
     show (if g=f then some u else mA g)=none
     rw [if_neg q];exact z
theorem aI.made (I:aI X pins σ H s):aI X pins σ (cq (cq H s.heap.objs.size (.own (s.heap.objs.size+1))) (s.heap.objs.size+1) (.ins C s.heap.objs.size []))
 { s with heap:=(s.heap.push PySem.W.emptyDict).push (PySem.W.instObj C s.heap.objs.size) }:=by
 have e1:(s.heap.push PySem.W.emptyDict).get? s.heap.objs.size=some PySem.W.emptyDict:=Heap.get?_push_size s.heap rfl
 have e2:((s.heap.push PySem.W.emptyDict).push (PySem.W.instObj C s.heap.objs.size)).get? (s.heap.objs.size+1)=some (PySem.W.instObj C s.heap.objs.size):=by
  have:=Heap.get?_push_size (s.heap.push PySem.W.emptyDict) (o:=PySem.W.instObj C s.heap.objs.size) rfl
  rwa [Heap.size_push] at this
 have e3:(s.heap.push PySem.W.emptyDict).Ns s.heap.objs.size (λ _=>none):=⟨PySem.W.emptyDict,#[],_,e1,rfl,(λ e he=>absurd he (by simp)),λ _=>rfl⟩
 have I1:=I.laid (a:=s.heap.objs.size) (o:=.own (s.heap.objs.size+1)) (h':=s.heap.push PySem.W.emptyDict) (t':=s.toks) (λ b u q=>Heap.get?_push_of_some _ q) (Nat.le_refl _) ⟨_,e1⟩
 refine I1.laid (a:=s.heap.objs.size+1) (o:=.ins C s.heap.objs.size []) (t':=s.toks) (λ b u q=>Heap.get?_push_of_some _ q) (Nat.le_of_eq (Heap.size_push _ _)) ?_
 have ne:s.heap.objs.size≠s.heap.objs.size+1:=Nat.ne_of_lt (Nat.lt_succ_self _)
 refine ⟨by rw [aD ne,aJ],Nat.zero_le _,ne,e2,λ _=>none,(Heap.Ns1.of_empty e3).at λ o q=>Heap.get?_push_of_some _ q,λ _=>True.intro,λ y hy=>absurd rfl hy⟩
theorem yX {prog:Program} {w:World} {env:Env} {e:Expr} {f:Str} {pos:Pos} {s:Shared} {Q:Value->Shared->Prop} (hb:attributeBase e f env (eval e env)=eval e env)
 (h:wpAny (model prog w) A (eval e env) (λ o s₁=>wpAny (model prog w) A (getAttr o f true) Q E s₁) E s):wpAny (model prog w) A (eval (.Attribute e f pos) env) Q E s:=
 Attribute_any_ h (by rw [arm_eval_Attribute,hb])
end
noncomputable def BP (K:Frag) (ta:TE) (f:Str):TE:=λ σ H Q=>ta σ H λ x H1=>∃ a C dx fs v,x=.ref a/\H1 a=some (.ins C dx fs)/\dY K C/\ae K C f/\fs.lookup f=some v/\Q v H1
noncomputable def ER (K:Frag) (ta tv:TE) (f:Str):TS:=λ D σ H=>tv σ H λ y H1=>ta σ H1 λ x H2=>∃ a C dx fs,x=.ref a/\H2 a=some (.ins C dx fs)/\dY K C/\ae K C f/\fs.length<1000/\
 D.nx σ (cq H2 a (.ins C dx (putF f y fs)))
noncomputable def yE (X:Cx) (op:Operator) (rd:V->V->Hp->VK->Prop):Prop:=
 ∀ (pins:List (Addr×Obj)) (s:Shared) (σ:St) (H:Hp) (x y:V) (u v:Value) (Q:VK),aI X pins σ H s->be x u->be y v->rd x y H Q->wpAny (model X.prog X.w) X.A (inplaceOp op u v) (EP X pins σ Q) X.xe s
noncomputable def ou (K:Frag) (ta tv:TE) (rd:V->V->Hp->VK->Prop) (f:Str):TS:=λ D σ H=>ta σ H λ x H1=>∃ a C dx fs v,x=.ref a/\H1 a=some (.ins C dx fs)/\dY K C/\ae K C f/\fs.lookup f=some v/\
 tv σ H1 λ y H2=>rd v y H2 λ z H3=>∃ dx' fs',H3 a=some (.ins C dx' fs')/\fs'.length<1000/\D.nx σ (cq H3 a (.ins C dx' (putF f z fs')))
section
variable {X:Cx} {o e value:Expr} {f:Str} {pos pos' tpos:Pos} {ta tv:TE}
theorem Bp (he:PE X e ta) (hb:attributeBase e f X.env (eval e X.env)=eval e X.env):PE X (.Attribute e f pos) (BP X.K ta f):=by
 intro pins s σ H Q I h
 refine yX hb (bK (he pins s σ H _ I h) λ u s1 hq0=>?_)
 obtain ⟨x,H1,I1,rx,a,C,dx,fs,v,ex,ea,c,n,l,q⟩:=hq0
 subst ex
 obtain rfl:u=Value.ref a:=rx
 exact lP I1 ea c n l λ u' s2 I2 ru=>⟨v,H1,I2,ru,q⟩
theorem Hr (ha:PE X o ta) (hv:PE X value tv) (hs:swapsWith value (some (.Attribute o f pos')) pos.line X.env=pure false):PS X (.Assign [.Attribute o f pos'] value pos) (ER X.K ta tv f):=by
 intro pins s σ H D I h
 refine plainObj_wpAny_Assign_Attribute (bK (hv pins s σ H _ I h) λ u s1 hy0=>?_) hs
 obtain ⟨y,H1,I1,ry,q⟩:=hy0
 refine bK (ha pins s1 σ H1 _ I1 q) λ ov s2 hq0=>?_
 obtain ⟨x,H2,I2,rx,a,C,dx,fs,ex,ea,c,n,l,q2⟩:=hq0
 subst ex
 obtain rfl:ov=Value.ref a:=rx
 exact lz I2 ea c n l ry λ s3 I3=>⟨σ,_,I3,q2⟩
theorem sY {op:Operator} {rd:V->V->Hp->VK->Prop} (ha:PE X o ta) (hv:PE X value tv) (hop:yE X op rd):PS X (.AugAssign (.Attribute o f tpos) op value pos) (ou X.K ta tv rd f):=by
 intro pins s σ H D I h
 refine wpAny_AugAssign_AttributeAny (bK (ha pins s σ H _ I h) λ ov s1 hq0=>?_)
 obtain ⟨x,H1,I1,rx,a,C,dx,fs,v,ex,ea,c,n,l,q⟩:=hq0
 subst ex
 obtain rfl:ov=Value.ref a:=rx
 refine lP I1 ea c n l λ u s2 I2 ru=>bK (hv pins s2 σ H1 _ I2 q) λ w3 s3 hy0=>?_
 obtain ⟨y,H2,I3,ry,q3⟩:=hy0
 refine bK (hop pins s3 σ H2 v y u w3 _ I3 ru ry q3) λ w4 s4 hq0=>?_
 obtain ⟨z,H3,I4,rz,dx',fs',ea',l',q4⟩:=hq0
 exact lz I4 ea' c n l' rz λ s5 I5=>⟨σ,_,I5,q4⟩
noncomputable def Ea:V->V->Hp->VK->Prop:=λ x y H Q=>∃ i j,x=.int i/\y=.int j/\Q (.int (i+j)) H
theorem Hk:yE X .Add Ea:=by
 rintro pins s σ H x y u v Q I rx ry ⟨i,j,rfl,rfl,q⟩
 obtain ⟨t,rfl⟩:=(show ∃ t,u=Value.int i t from rx)
 obtain ⟨t',rfl⟩:=(show ∃ t',v=Value.int j t' from ry)
 exact PyProof.Rows.iadd_int ⟨.int (i+j),H,I.tok _,⟨_,rfl⟩,q⟩
end
section
variable {X:Cx} {pins:List (Addr×Obj)} {σ:St} {H:Hp} {s:Shared} {A:Around} {E:Value->Shared->Prop} {Q:Value->Shared->Prop} {c:Value} {b:Bool}
end
end L2
namespace L2
open PySem PySem.Spec PyProof.Rows
open PySem.W (Frag)
structure bR (k:Nat) (A:Around):Prop where
 hd:A.handled=none
 dp:A.depth+3*k+5<recursionLimit
 un:A.units+16*k+200<cLine
 gd:A.guards=some []
theorem bR.mono {j k:Nat} {A:Around} (r:bR k A) (h:j<=k):bR j A:=⟨r.hd,by have:=r.dp;omega,by have:=r.un;omega,r.gd⟩
theorem bR.deeper {k:Nat} {A:Around} (r:bR (k+1) A) (env:Env):bR k (A.deeper env):=
 ⟨r.hd,by have:=r.dp;show A.depth+1+3*k+5<_;omega,by have:=r.un;show A.units+3+16*k+200<_;omega,r.gd⟩
theorem qF {A:Around} {C:Addr} {us:List Value} {kw:List (Str×Value)}:(A.under (.builtin "type.__call__" ⟨.ref C::us,kw⟩)).depth=A.depth+1:=by
 first | rfl | simp [Around.under,Code.weight,Code.isCreation,Code.isGuard,Code.isCaller,Code.frames,Code.isFrame,guardIds]
theorem rA {A:Around} {C:Addr} {us:List Value} {kw:List (Str×Value)}:(A.under (.builtin "type.__call__" ⟨.ref C::us,kw⟩)).units=A.units+1:=by
 first | rfl | simp [Around.under,Code.cUnits,Code.frames,Code.isFrame]
theorem pI {A:Around} {C:Addr} {us:List Value} {kw:List (Str×Value)}:(A.under (.builtin "type.__call__" ⟨.ref C::us,kw⟩)).guards=A.guards:=by
 first | rfl | (cases hg:A.guards <;> simp [Around.under,Code.guards,Code.isGuard,guardIds,pushGuards,hg])
theorem bR.make {k:Nat} {A:Around} (r:bR (k+1) A) (C:Addr) (us:List Value) (kw:List (Str×Value)):bR k (A.under (.builtin "type.__call__" ⟨.ref C::us,kw⟩)):=
 ⟨r.hd,by have:=r.dp;rw [qF];omega,by have:=r.un;rw [rA];omega,pI.trans r.gd⟩
theorem bR.depth {k:Nat} {A:Around} (r:bR k A):A.depth<recursionLimit:=by have:=r.dp;omega
theorem bR.units {k:Nat} {A:Around} (r:bR k A):A.units+64<cLine:=by have:=r.un;omega
noncomputable def jJ:TA:=λ _ H Q=>Q [] H
noncomputable def gR (ta:TE) (tr:TA):TA:=λ σ H Q=>ta σ H λ x H1=>tr σ H1 λ xs H2=>Q (x::xs) H2
section
variable {X:Cx} {e:Expr} {es:List Expr} {te:TE} {t:TA} {pos:Pos}
theorem Gy:PA X [] jJ:=λ _ _ _ _ H Q I h=>Calls.spliced_nil ⟨[],H,I,.nil,h⟩
theorem FD (ha:PE X e te) (hr:PA X es t) (hs:starEach (e::es) X.env=(false,eval e X.env)::starEach es X.env):PA X (e::es) (gR te t):=by
 intro pos pins s σ H Q I h
 rw [hs]
 show wpAny _ _ (spliced ((false,eval e X.env)::backTo pos (starEach es X.env))) _ _ s
 refine Calls.spliced_cons (bK (ha pins s σ H _ I h) λ u s1 hq0=>?_)
 obtain ⟨x,H1,I1,r1,q1⟩:=hq0
 exact bK (hr pos pins s1 σ H1 _ I1 q1) λ us s2 hy0=>by obtain ⟨xs,H2,I2,r2,q2⟩:=hy0;exact ⟨x::xs,H2,I2,.cons r1 r2,q2⟩
end
noncomputable abbrev Sp:=List V->Hp->VK->XK->Prop
noncomputable abbrev oV:=List Env->Hp->Shared->XK->Value->Shared->Prop
structure pA (P:Program) (w:World) (K:Frag) (mg:Str->Option Value) (base:Heap) (A:Around) (outer:List Env) (s:Shared) (H:Hp):Prop where
 frames:A.frames=some outer
 mod:Mod K mg base
 bs:∀ b o,base.get? b=some o->s.heap.get? b=some o/\H b=none
 bsz:base.objs.size<=s.heap.objs.size
 funs:s.heap.FunFrames base outer
 frf:∀ b∈hZ outer,H b=none
 hok:gE P w H s.heap
 bare:AllBare s.gens
noncomputable def CE (outer:List Env) (P:Program) (w:World) (H:Hp) (s:Shared) (Q:VK) (u:Value) (s':Shared):Prop:=
 ∃ v H',s'.os=s.os/\AllBare s'.gens/\Un (hZ outer) [] H H' s.heap s'.heap/\gE P w H' s'.heap/\be v u/\Q v H'
noncomputable def CR (CX:oV) (outer:List Env) (P:Program) (w:World) (H:Hp) (s:Shared) (Q:VK) (E:XK) (r:Result) (s':Shared):Prop:=
 match r with
 | .ok (.ret u)=>CE outer P w H s Q u s'
 | .ok _=>False
 | .error e=>CX outer H s E e s'
structure dU (P:Program) (w:World) (K:Frag) (mg:Str->Option Value) (base:Heap) (CX:oV) (k:Nat) (f:Addr) (fd:FuncData) (ps:List Str) (sp:Sp):Prop where
 len:∀ vs H Q E,sp vs H Q E->vs.length=ps.length
 run:∀ (A:Around) (outer:List Env) (s:Shared) (H:Hp) (args:Args) (us:List Value) (vs:List V) (Q:VK) (E:XK),bR k A->pA P w K mg base A outer s H->BindsTo s fd args (ps.zip us)->bf vs us->sp vs H Q E->
  codeAny (model P w) A (.call (.ref f) args) (CR CX outer P w H s Q E) s
theorem dU.mono {P:Program} {w:World} {K:Frag} {mg:Str->Option Value} {base:Heap} {CX:oV} {j k:Nat} {f:Addr} {fd:FuncData} {ps:List Str} {sp:Sp} (F:dU P w K mg base CX j f fd ps sp) (h:j<=k):
 dU P w K mg base CX k f fd ps sp:=⟨F.len,λ A outer s H args us vs Q E hr=>F.run A outer s H args us vs Q E (hr.mono h)⟩
theorem dU.imp {P:Program} {w:World} {K:Frag} {mg:Str->Option Value} {base:Heap} {CX:oV} {k:Nat} {f:Addr} {fd:FuncData} {ps:List Str} {sp sp':Sp} (F:dU P w K mg base CX k f fd ps sp)
 (h:∀ vs H Q E,sp' vs H Q E->sp vs H Q E):dU P w K mg base CX k f fd ps sp':=
 ⟨λ vs H Q E q=>F.len vs H Q E (h _ _ _ _ q),λ A outer s H args us vs Q E hr he hb hv hs=>F.run A outer s H args us vs Q E hr he hb hv (h _ _ _ _ hs)⟩
theorem pA.make {P:Program} {w:World} {K:Frag} {mg:Str->Option Value} {base:Heap} {A:Around} {outer:List Env} {s:Shared} {H:Hp} (e:pA P w K mg base A outer s H) (C:Addr) (us:List Value) (kw:List (Str×Value)):
 pA P w K mg base (A.under (.builtin "type.__call__" ⟨.ref C::us,kw⟩)) outer s H:=⟨by first | exact e.frames | (simpa [Around.under,Code.envs,Code.isFrame,pushEnvs] using e.frames),e.mod,e.bs,e.bsz,e.funs,e.frf,e.hok,e.bare⟩
section
variable {X:Cx} {pins:List (Addr×Obj)} {σ:St} {H:Hp} {s s':Shared}
theorem aI.env0 (I:aI X pins σ H s):pA X.prog X.w X.K X.mg X.base X.A X.stack s H:=
 ⟨I.ok.frames,I.ok.mod,I.bs,Nat.le_trans I.ok.bsz I.sz,I.stack,I.stkFree,I.hok,I.bare⟩
theorem aI.after {Q:VK} {u:Value} (I:aI X pins σ H s) (h:CE X.stack X.prog X.w H s Q u s'):EP X pins σ Q u s':=by
 obtain ⟨v,H',os,bare,un,hok,r,q⟩:=h
 obtain ⟨hh,g,d,t,os'⟩:=s'
 obtain rfl:os'=s.os:=os
 exact ⟨v,H',I.call (h':=hh) (g':=g) (d':=d) (t':=t) (ch:=[]) un hok bare (λ b z=>absurd z (by simp)),r,q⟩
end
noncomputable def qe (sp:Sp) (dvs:List V) (E:XK) (t:TA):TE:=λ σ H Q=>t σ H λ vs H1=>sp (vs++dvs) H1 Q E
noncomputable def nv (C:Addr) (m:Str) (sp:Sp) (dvs:List V) (E:XK) (ta:TE) (t:TA):TE:=λ σ H Q=>ta σ H λ x H1=>∃ a dx fs,x=.ref a/\H1 a=some (.ins C dx fs)/\fs.lookup m=none/\
 t σ H1 λ vs H2=>sp (x::(vs++dvs)) H2 Q E
noncomputable def vE (C:Addr) (sp:Sp) (dvs:List V) (E:XK) (t:TA):TE:=λ σ H Q=>t σ H λ vs H1=>∀ x dx,H1 x=none->H1 dx=none->dx≠x->
 sp (.ref x::(vs++dvs)) (cq (cq H1 dx (.own x)) x (.ins C dx [])) (λ v H2=>v=.non/\Q (.ref x) H2) E
noncomputable def aR (K:Frag) (fd:FuncData) (ps:List Str) (ds:List Value):Prop:=
 ∀ (s:Shared) (us:List Value),K.In s.heap->(us++ds).length=ps.length->BindsTo s fd ⟨us,[]⟩ (ps.zip (us++ds))
theorem aR.all {K:Frag} {fd:FuncData} {ps:List Str} (h:∀ us:List Value,us.length=ps.length->bindArgs fd ⟨us,[]⟩=pure (ps.zip us)):aR K fd ps []:=λ s us _ hl=>by
 rw [List.append_nil] at hl ⊢
 exact .of_eq (h us hl)
noncomputable def fZ (CX:oV) (X:Cx) (E:XK):Prop:=∀ (pins:List (Addr×Obj)) (σ:St) (H:Hp) (s:Shared) (e:Value) (s':Shared),aI X pins σ H s->CX X.stack H s E e s'->X.xe e s'
section
variable {X:Cx} {CX:oV} {k:Nat} {f C:Addr} {fd:FuncData} {ps:List Str} {sp:Sp} {dvs:List V} {ds:List Value} {E:XK} {x m:Str} {p pos apos:Pos} {e o:Expr} {es:List Expr} {ta:TE} {t:TA}
theorem qP {pins:List (Addr×Obj)} {σ:St} {H:Hp} {s:Shared} {Q:VK} {us:List Value} {vs:List V} (F:dU X.prog X.w X.K X.mg X.base CX k f fd ps sp) (hr:bR k X.A) (hb:aR X.K fd ps ds) (hd:bf dvs ds) (hx:fZ CX X E)
 (I:aI X pins σ H s) (r:bf vs us) (h:sp (vs++dvs) H Q E):wpAny (model X.prog X.w) X.A (call (.ref f) us) (EP X pins σ Q) X.xe s:=by
 have r2:bf (vs++dvs) (us++ds):=r.append hd
 have hl:(us++ds).length=ps.length:=by rw [<-r2.length];exact F.len _ _ _ _ h
 refine wpAny_call (codeAny_mono (F.run X.A X.stack s H ⟨us,[]⟩ (us++ds) (vs++dvs) Q E hr I.env0 (hb s us I.kIn hl) r2 h) λ r s' hq=>?_)
 cases r with
 | error e=>exact hx pins σ H s e s' I hq
 | ok fl=>
  cases fl with
  | ret u=>exact I.after hq
  | next=>exact False.elim hq
  | brk=>exact False.elim hq
  | cont=>exact False.elim hq
theorem yb (F:dU X.prog X.w X.K X.mg X.base CX k f fd ps sp) (hr:bR k X.A) (hg:Gl X x) (hm:X.mg x=some (.ref f)) (hk:PySem.W.keepIn X.K (.ref f)=true) (hb:aR X.K fd ps ds) (hd:bf dvs ds) (hx:fZ CX X E)
 (ha:PA X (e::es) t) (hdb:(x==("__debug__" : Str))=false:=by decide) (he:starEach (e::es) X.env=(false,eval e X.env)::starEach es X.env:=by rfl) (hpl:(backTo pos (starEach es X.env)).any (·.1)=false:=by rfl):
 PE X (.Call (.Name x p) (e::es) [] pos) (qe sp dvs E t):=by
 intro pins s σ H Q I h
 refine wpAny_Call_Name_kw (fI I hg hm ?_ hdb)
 refine PySem.W.callWith_K (h₀:=X.base) I.ok.mod.kin hk (bK (ha pos pins s σ H _ I h) λ us s1 hy0=>?_) he hpl
 obtain ⟨vs,H1,I1,r,q⟩:=hy0
 refine ⟨I1.kIn,?_⟩
 exact qP F hr hb hd hx I1 r q
theorem xw {pl:Sem Bool} (he:PE X o ta) (c:dY X.K C) (hm:bt X.K C m f) (F:dU X.prog X.w X.K X.mg X.base CX k f fd ps sp) (hr:bR k X.A) (hb:aR X.K fd ps ds) (hd:bf dvs ds) (hx:fZ CX X E) (ha:PA X (e::es) t)
 (hst:starEach (e::es) X.env=(false,eval e X.env)::starEach es X.env:=by rfl) (hpl:(backTo pos (starEach es X.env)).any (·.1)=false:=by rfl)
 (ht:eval (.Call (.Attribute o m apos) (e::es) [] pos) X.env=(do
  let ov <-eval o X.env
  standAt apos.atName
  let (f,first) <-holding [ov] (getMethod ov m pl)
  callWith pos f first (backTo pos (starEach (e::es) X.env)) (backToKw pos (keywordEach [] X.env))):=by rfl):
 PE X (.Call (.Attribute o m apos) (e::es) [] pos) (nv C m sp dvs E ta t):=by
 intro pins s σ H Q I h
 refine PySem.W.methodCall_KW (pl:=pl) (bK (he pins s σ H _ I h) λ u s1 hq0=>?_) ht
 obtain ⟨x,H1,I1,rx,a,dx,fs,ex,ea,l,q⟩:=hq0
 subst ex
 obtain rfl:u=Value.ref a:=rx
 refine gM I1 ea c hm l ?_
 refine PySem.W.callWith_K (first:=[.ref a]) (h₀:=X.base) I.ok.mod.kin hm.kp (bK (ha pos pins s1 σ H1 _ I1 q) λ us s2 hy0=>?_) hst hpl
 obtain ⟨vs,H2,I2,r,q2⟩:=hy0
 refine ⟨I2.kIn,?_⟩
 exact qP (us:=.ref a::us) (vs:=.ref a::vs) F hr hb hd hx I2 (.cons rfl r) q2
theorem uR {pl:Sem Bool} (he:PE X o ta) (c:dY X.K C) (hm:bt X.K C m f) (F:dU X.prog X.w X.K X.mg X.base CX k f fd ps sp) (hr:bR k X.A) (hb:aR X.K fd ps ds) (hd:bf dvs ds) (hx:fZ CX X E)
 (ht:eval (.Call (.Attribute o m apos) [] [] pos) X.env=(do
  let ov <-eval o X.env
  standAt apos.atName
  let (f,first) <-holding [ov] (getMethod ov m pl)
  callWith pos f first (backTo pos (starEach [] X.env)) (backToKw pos (keywordEach [] X.env))):=by rfl):
 PE X (.Call (.Attribute o m apos) [] [] pos) (nv C m sp dvs E ta jJ):=by
 intro pins s σ H Q I h
 refine PySem.W.methodCall_KW (pl:=pl) (bK (he pins s σ H _ I h) λ u s1 hq0=>?_) ht
 obtain ⟨x,H1,I1,rx,a,dx,fs,ex,ea,l,q⟩:=hq0
 subst ex
 obtain rfl:u=Value.ref a:=rx
 refine gM I1 ea c hm l ?_
 exact PySem.W.callWith_K0 (first:=[.ref a]) I1.kIn hm.kp (qP (us:=[.ref a]) (vs:=[.ref a]) F hr hb hd hx I1 (.cons rfl .nil) q)
structure Mk (K:Frag) (C f:Addr):Prop where
 makes:PySem.W.makesIn K C=true
 init:PySem.W.findIn K (.ref C) "__init__" = some (some (.ref f))
 fn:PySem.W.isFn K (.ref f)=true
 kp:PySem.W.keepIn K (.ref C)=true
theorem pq {pins:List (Addr×Obj)} {σ:St} {H:Hp} {s:Shared} {Q:VK} {us:List Value} {vs:List V} (M:Mk X.K C f) (F:dU X.prog X.w X.K X.mg X.base CX k f fd ps sp) (hr:bR (k+1) X.A) (hb:aR X.K fd ps ds) (hd:bf dvs ds)
 (hx:fZ CX X E) (I:aI X pins σ H s) (r:bf vs us)
 (h:∀ x dx,H x=none->H dx=none->dx≠x->sp (.ref x::(vs++dvs)) (cq (cq H dx (.own x)) x (.ins C dx [])) (λ v H2=>v=.non/\Q (.ref x) H2) E):
 wpAny (model X.prog X.w) X.A (call (.ref C) us) (EP X pins σ Q) X.xe s:=by
 have hq:=h (s.heap.objs.size+1) s.heap.objs.size (I.hok.fresh (Nat.le_succ _)) (I.hok.fresh (Nat.le_refl _)) (Nat.ne_of_lt (Nat.lt_succ_self _))
 have I2:=aI.made (C:=C) I
 have r2:bf (V.ref (s.heap.objs.size+1)::(vs++dvs)) (Value.ref (s.heap.objs.size+1)::(us++ds)):=.cons rfl (r.append hd)
 have hl:(Value.ref (s.heap.objs.size+1)::us++ds).length=ps.length:=by
  have e:=r2.length
  rw [F.len _ _ _ _ hq] at e
  exact e.symm
 refine wpAny_call (v7 (f:=f) I.kIn M.makes M.init (beq_iff_eq.mp M.fn) (codeAny_mono (F.run _ X.stack _ _ ⟨Value.ref (s.heap.objs.size+1)::us,[]⟩ (Value.ref (s.heap.objs.size+1)::(us++ds)) _ _ E (hr.make C us [])
  (I2.env0.make C us []) (hb _ (Value.ref (s.heap.objs.size+1)::us) I2.kIn hl) r2 hq) λ r s' hq'=>?_))
 cases r with
 | error e=>exact hx pins σ _ _ e s' I2 hq'
 | ok fl=>
  cases fl with
  | ret u=>
   obtain ⟨v,H',I3,rv,ev,q3⟩:=I2.after hq'
   subst ev
   exact ⟨rv,⟨V.ref (s.heap.objs.size+1),H',I3,rfl,q3⟩⟩
  | next=>exact False.elim hq'
  | brk=>exact False.elim hq'
  | cont=>exact False.elim hq'
theorem xr (M:Mk X.K C f) (F:dU X.prog X.w X.K X.mg X.base CX k f fd ps sp) (hr:bR (k+1) X.A) (hg:Gl X x) (hm:X.mg x=some (.ref C)) (hb:aR X.K fd ps ds) (hd:bf dvs ds) (hx:fZ CX X E)
 (ha:PA X (e::es) t) (hdb:(x==("__debug__" : Str))=false:=by decide) (he:starEach (e::es) X.env=(false,eval e X.env)::starEach es X.env:=by rfl) (hpl:(backTo pos (starEach es X.env)).any (·.1)=false:=by rfl):
 PE X (.Call (.Name x p) (e::es) [] pos) (vE C sp dvs E t):=by
 intro pins s σ H Q I h
 refine wpAny_Call_Name_kw (fI I hg hm ?_ hdb)
 refine PySem.W.callWith_K (h₀:=X.base) I.ok.mod.kin M.kp (bK (ha pos pins s σ H _ I h) λ us s1 hy0=>?_) he hpl
 obtain ⟨vs,H1,I1,r,q⟩:=hy0
 refine ⟨I1.kIn,?_⟩
 exact pq M F hr hb hd hx I1 r q
theorem vO (M:Mk X.K C f) (F:dU X.prog X.w X.K X.mg X.base CX k f fd ps sp) (hr:bR (k+1) X.A) (hg:Gl X x) (hm:X.mg x=some (.ref C)) (hb:aR X.K fd ps ds) (hd:bf dvs ds) (hx:fZ CX X E)
 (hdb:(x==("__debug__" : Str))=false:=by decide):PE X (.Call (.Name x p) [] [] pos) (vE C sp dvs E jJ):=by
 intro pins s σ H Q I h
 refine wpAny_Call_Name_kw (fI I hg hm ?_ hdb)
 exact PySem.W.callWith_K0 I.kIn M.kp (pq (us:=[]) M F hr hb hd hx I .nil h)
end
section
variable {X:Cx} {CX:oV} {k:Nat} {f C:Addr} {fd:FuncData} {ps ks:List Str} {sp:Sp} {E:XK} {x m:Str} {p pos apos kpos:Pos} {e o:Expr} {es:List Expr} {kws:List Keyword} {te ta:TE} {t tk:TA} {nm:Option Str}
variable {g:List Value->List Value->List Value} {gV:List V->List V->List V}
end
structure cZ (N P:List Str) (sc:Scope):Prop where
 kind:sc.kind=.function
 co:sc.isCoroutine=false
 gen:sc.isGenerator=false
 nd:N.Nodup
 pre:N.take P.length=P
 par:∀ x∈P,sc.names.lookup x=some .local∨sc.names.lookup x=some .cell
 nofree:∀ y∈sc.names,y.2≠.free
theorem mM {kindOf:Str->Option NameKind} {x:Str}:∀ {binds:List (Str×Value)} {m:Str->Option Value},(∀ v,(x,v)∉binds)->bindL kindOf binds m x=m x
 | [],_,_=>rfl
 | (n,v)::r,m,h=>by
  unfold bindL
  rw [mM λ w hw=>h w (List.mem_cons_of_mem _ hw)]
  split
  . have:x≠n:=by rintro rfl;exact h v List.mem_cons_self
    simp [this]
  . rfl
theorem ny {kindOf:Str->Option NameKind} {x:Str}:∀ {binds:List (Str×Value)} {m:Str->Option Value},(∀ v,(x,v)∉binds)->bindC kindOf binds m x=m x
 | [],_,_=>rfl
 | (n,v)::r,m,h=>by
  unfold bindC
  rw [ny λ w hw=>h w (List.mem_cons_of_mem _ hw)]
  split
  . rfl
  . have:x≠n:=by rintro rfl;exact h v List.mem_cons_self
    simp [this]
theorem nh {kindOf:Str->Option NameKind} {x:Str} {v:Value}:∀ {P:List Str} {vs:List Value} {i:Nat} {m:Str->Option Value},P.Nodup->P[i]?=some x->vs[i]?=some v->kindOf x=some .local->
 bindL kindOf (P.zip vs) m x=some v
 | [],_,_,_,_,h,_,_=>by simp at h
 | _::_,[],_,_,_,_,h,_=>by simp at h
 | p::P,w::vs,0,m,nd,h1,h2,hk=>by
  simp at h1 h2;subst h1;subst h2
  show bindL kindOf ((p,w)::P.zip vs) m p=_
  unfold bindL
  rw [mM λ v hv=>(List.nodup_cons.mp nd).1 (List.of_mem_zip hv).1,if_pos hk]
  simp
 | p::P,w::vs,i+1,m,nd,h1,h2,hk=>by
  show bindL kindOf ((p,w)::P.zip vs) m x=_
  unfold bindL
  exact nh (i:=i) (List.nodup_cons.mp nd).2 (by simpa using h1) (by simpa using h2) hk
theorem mR {kindOf:Str->Option NameKind} {x:Str} {v:Value}:∀ {P:List Str} {vs:List Value} {i:Nat} {m:Str->Option Value},P.Nodup->P[i]?=some x->vs[i]?=some v->kindOf x≠some .local->
 bindC kindOf (P.zip vs) m x=some v
 | [],_,_,_,_,h,_,_=>by simp at h
 | _::_,[],_,_,_,_,h,_=>by simp at h
 | p::P,w::vs,0,m,nd,h1,h2,hk=>by
  simp at h1 h2;subst h1;subst h2
  show bindC kindOf ((p,w)::P.zip vs) m p=_
  unfold bindC
  rw [ny λ v hv=>(List.nodup_cons.mp nd).1 (List.of_mem_zip hv).1,if_neg hk]
  simp
 | p::P,w::vs,i+1,m,nd,h1,h2,hk=>by
  show bindC kindOf ((p,w)::P.zip vs) m x=_
  unfold bindC
  exact mR (i:=i) (List.nodup_cons.mp nd).2 (by simpa using h1) (by simpa using h2) hk
noncomputable def start (N:List Str) (vs:List V):St:=vs.map some++List.replicate (N.length-vs.length) none
noncomputable def fw (CX:oV) (P:Program) (w:World) (K:Frag) (mg:Str->Option Value) (base:Heap) (N:List Str) (qual:Str) (scope:Scope) (f:Addr) (cd:Value) (A:Around) (outer:List Env) (s:Shared) (H:Hp) (E:XK):Cx where
 prog:=P
 w:=w
 K:=K
 mg:=mg
 base:=base
 A:=A.deeper (envOfC qual scope s.heap.objs.size f cd)
 N:=N
 s₀:=s
 H₀:=H
 env:=envOfC qual scope s.heap.objs.size f cd
 outer:=outer
 stack:=envOfC qual scope s.heap.objs.size f cd::outer
 ex:=[]
 calm:=true
 fn:=λ _=>true
 pn:=[]
 xe:=λ e s'=>wpAny (model P w) (A.deeper (envOfC qual scope s.heap.objs.size f cd)) (leaving (envOfC qual scope s.heap.objs.size f cd) e) (λ _ s''=>CX outer H s E e s'') (λ e' s''=>CX outer H s E e' s'') s'
theorem qc {sc:Scope} {n:Nat} {x:Str} (h:sc.names.lookup x=some .cell):∃ c,(cellsFrom n sc.names []).lookup x=some c:=by
 have q:=PySem.W.cellsFrom_some sc.names n [] (.inl h)
 exact Option.isSome_iff_exists.mp q
theorem mI {CX:oV} {P:Program} {w:World} {K:Frag} {mg:Str->Option Value} {base:Heap} {N ps:List Str} {qual:Str} {scope:Scope} {f:Addr} {cd:Value} {A:Around} {outer:List Env} {s s1:Shared} {H:Hp} {E:XK} {us:List Value} {vs:List V}
 (S:cZ N ps scope) (hd:A.handled=none) (e0:pA P w K mg base A outer s H) (hl:vs.length=ps.length) (r:bf vs us)
 (x:InCallC s s.heap.objs.size (bindL (envOfC qual scope s.heap.objs.size f cd).kindOf (ps.zip us) λ _=>none) (cellsFrom (s.heap.objs.size+1) scope.names []) (bindC (envOfC qual scope s.heap.objs.size f cd).kindOf (ps.zip us) λ _=>none) s1):
 aI (fw CX P w K mg base N qual scope f cd A outer s H E) [] (start N vs) H s1:=by
 have hpl:ps.length<=N.length:=by have:=congrArg List.length S.pre;rw [List.length_take] at this;omega
 obtain ⟨h1,tk,rfl,hk⟩:=x.done
 have noA:∀ b:Addr,b∉(fw CX P w K mg base N qual scope f cd A outer s H E).ex:=λ b z=>absurd (show b∈([]:List Addr) from z) (by simp)
 refine ⟨⟨e0.mod,S.kind,rfl,rfl,Nat.le_refl _,λ y z c h1 h2=>?_,λ y hy=>?_,λ y c _ h=>?_,λ _=>hd,Around.frames_deeper e0.frames,.inr ⟨rfl,rfl⟩,λ b z=>absurd z (noA b),e0.bs,e0.bsz,λ b _ _=>noA b,λ b z=>absurd z (noA b),e0.funs,e0.frf⟩,
  rfl,e0.bare,Un.kept hk,⟨_,x.toInCall.ns,λ i y v h1 h2 h3=>?_⟩,λ y c h=>⟨_,x.cell y c h⟩,e0.hok.fresh (Nat.le_refl _),λ y c h=>?_,λ p hp=>absurd (show p∈([]:List (Addr×Obj)) from hp) (by simp),e0.hok.kept hk,?_⟩
 . exact name_of_addr x.apart (PySem.mem_of_lookup h1) (PySem.mem_of_lookup h2)
 . have hy:scope.names.lookup y=some .cell∨scope.names.lookup y=some .free:=hy
   rcases hy with hy | hy
   . exact qc hy
   . exact absurd rfl (S.nofree _ (PySem.mem_of_lookup hy))
 . exact Nat.le_of_lt (x.above y c (PySem.mem_of_lookup h))
 . have hi:i<vs.length:=by
    unfold start at h2
    by_cases hi:i<vs.length
    . exact hi
    . rw [List.getElem?_append_right (by simpa using hi)] at h2
      rw [List.getElem?_replicate] at h2
      split at h2 <;> cases h2
   have ha:vs[i]?=some v:=by
    unfold start at h2
    rw [List.getElem?_append_left (by simpa using hi),List.getElem?_map] at h2
    cases e:vs[i]? with
    | none=>rw [e] at h2;cases h2
    | some a=>rw [e] at h2;cases h2;rfl
   obtain ⟨u,hu,rv⟩:=r.get ha
   have hp:ps[i]?=some y:=by
    rw [<-S.pre,List.getElem?_take_of_lt (by omega)];exact h1
   have ndP:ps.Nodup:=by rw [<-S.pre];exact S.nd.sublist (List.take_sublist _ _)
   refine ⟨u,rv,?_⟩
   rcases S.par y (List.mem_of_getElem? hp) with k | k
   . exact .inl ⟨k,nh ndP hp hu k⟩
   . obtain ⟨c,e⟩:=qc (n:=s.heap.objs.size+1) k
     refine .inr ⟨.inl k,c,e,?_⟩
     have q:=x.cell y c e
     rw [mR ndP hp hu (by show scope.names.lookup y≠_;rw [k];decide)] at q
     exact q
 . exact e0.hok.fresh (Nat.le_of_lt (x.above y c (PySem.mem_of_lookup h)))
 . unfold start
   show _=N.length
   rw [List.length_append,List.length_map,List.length_replicate]
   omega
theorem zl {CX:oV} {P:Program} {w:World} {K:Frag} {mg:Str->Option Value} {base:Heap} {k:Nat} {f:Addr} {name qual:Str} {params:Arguments} {body:List Stmt} {scope:Scope} {dV kV doc pm cdv ct oc:Value} {an od:Option Addr}
 {osl:Array (Option Value)} {N ps:List Str} {sp:Sp} (lk:K.lookup f=some ⟨oc,od,.func (PySem.W.fnOf name qual params body scope dV kV doc pm an cdv ct),osl⟩) (hcd:PySem.W.codeIn K cdv qual=true) (S:cZ N ps scope)
 (len:∀ vs H Q E,sp vs H Q E->vs.length=ps.length)
 (hbody:∀ (A:Around) (outer:List Env) (s:Shared) (H:Hp) (vs:List V) (Q:VK) (E:XK),bR k (A.deeper (envOfC qual scope s.heap.objs.size f cdv))->sp vs H Q E->
  ∃ t,kN (fw CX P w K mg base N qual scope f cdv A outer s H E) body t/\t { nx:=λ _ H'=>Q .non H',rt:=Q } (start N vs) H):
 dU P w K mg base CX (k+1) f (PySem.W.fnOf name qual params body scope dV kV doc pm an cdv ct) ps sp:=by
 refine ⟨len,λ A outer s H args us vs Q E hr e0 hb r hsp=>?_⟩
 have hl:=len _ _ _ _ hsp
 have KX:K.In s.heap:=e0.mod.kin.keeps λ b o e=>(e0.bs b o e).1
 have lim:s.heap.NoLimit:=e0.mod.nolimit.keeps λ b o e=>(e0.bs b o e).1
 have hkind:∀ y∈ps.zip us,scope.names.lookup y.1=some .local∨(scope.names.lookup y.1=some .cell/\((cellsFrom (s.heap.objs.size+1) scope.names []).lookup y.1).isSome=true):=λ ⟨n,v⟩ hy=>by
  rcases S.par n (List.of_mem_zip hy).1 with q | q
  . exact .inl q
  . exact .inr ⟨q,PySem.W.cellsFrom_some _ _ _ (.inl q)⟩
 refine codeAny_call_function hr.depth (KX _ _ lk) rfl S.co S.gen rfl (PySem.W.codeRec_of KX hcd) (hb _ _ _ _ ?_)
 refine wpAny_newFunctionEnv_cells S.kind hkind λ env he s1 x=>?_
 subst he
 refine ⟨lim.keeps x.toInCall.keep,codeAny_func ?_⟩
 obtain ⟨t,ht,hq⟩:=hbody A outer s H vs Q E (hr.deeper _) hsp
 have I:aI (fw CX P w K mg base N qual scope f cdv A outer s H E) [] (start N vs) H s1:=mI S hr.hd e0 hl r x
 refine wpAny_mono (ht [] s1 (start N vs) H _ I hq) (λ fl s' hs=>?_) λ e s' hs=>hs
 have fin:∀ {σ':St} {H':Hp} {v:V} {u:Value},aI (fw CX P w K mg base N qual scope f cdv A outer s H E) [] σ' H' s'->be v u->Q v H'->CE outer P w H s Q u s':=
  λ {σ' H' v u} J rv q=>⟨v,H',J.os,J.bare,J.base,J.hok,rv,q⟩
 cases fl with
 | ret u=>
  obtain ⟨v,σ',H',J,rv,q⟩:=hs
  exact fin J rv q
 | next=>
  obtain ⟨σ',H',J,q⟩:=hs
  exact fin (v:=V.non) (u:=Value.none) J rfl q
 | brk=>
  obtain ⟨_,_,_,q⟩:=hs
  exact False.elim q
 | cont=>
  obtain ⟨_,_,_,q⟩:=hs
  exact False.elim q
end L2
namespace L2
open PySem PySem.Spec PyProof.Rows
open PySem.W (Frag)
section
variable {X:Cx} {x:Str} {p pos:Pos} {e:Expr} {es:List Expr} {t:TA} {id T:String} {r:List V->Hp->VK->Prop}
noncomputable def uj (r:List V->Hp->VK->Prop) (t:TA):TE:=λ σ H Q=>t σ H λ vs H1=>r vs H1 Q
theorem wu (hc:dJ X (.builtin id) r) (hg:Gl X x) (hm:X.mg x=none) (hv:bootBuiltins x=some (.builtin id)) (ha:PA X (e::es) t) (hn:x ≠ "__name__" := by decide) (hdb:(x==("__debug__" : Str))=false:=by decide)
 (he:starEach (e::es) X.env=(false,eval e X.env)::starEach es X.env:=by rfl) (hpl:(backTo pos (starEach es X.env)).any (·.1)=false:=by rfl):PE X (.Call (.Name x p) (e::es) [] pos) (uj r t):=by
 intro pins s σ H Q I h
 refine wpAny_Call_Name_kw (lc I hg hm hv ?_ hn hdb)
 exact PyProof.Rows.callWith_builtin1 (bK (ha pos pins s σ H _ I h) λ us s1 hy0=>by obtain ⟨vs,H1,I1,r1,q1⟩:=hy0;exact hc pins s1 σ H1 vs us Q I1 r1 q1) he hpl
theorem nq (hc:dJ X (.type T) r) (hg:Gl X x) (hm:X.mg x=none) (hv:bootBuiltins x=some (.type T)) (ha:PA X (e::es) t) (hn:x ≠ "__name__" := by decide) (hdb:(x==("__debug__" : Str))=false:=by decide)
 (he:starEach (e::es) X.env=(false,eval e X.env)::starEach es X.env:=by rfl) (hpl:(backTo pos (starEach es X.env)).any (·.1)=false:=by rfl):PE X (.Call (.Name x p) (e::es) [] pos) (uj r t):=by
 intro pins s σ H Q I h
 refine wpAny_Call_Name_kw (lc I hg hm hv ?_ hn hdb)
 exact PyProof.Rows.callWith_type1 (bK (ha pos pins s σ H _ I h) λ us s1 hy0=>by obtain ⟨vs,H1,I1,r1,q1⟩:=hy0;exact hc pins s1 σ H1 vs us Q I1 r1 q1) he hpl
end
end L2
namespace HT
open PySem PyProof.Rows
section
open PySem.SeqAt
open PySem.AutoSeq1 (wpAny_loadPart')
open PySem.MeetsSeq PySem.MeetsSeq2 PySem.MeetsSeq3
end
section
variable {prog:Program} {w:World} {A:Around} {E:Value->Shared->Prop} {s:Shared}
theorem cat_tup {t b:Addr} {vs ws:List Value} {Q:Value->Shared->Prop} (ht:IsTup s.heap t vs.toArray) (hb:IsTup s.heap b ws.toArray) (hv:vs≠[])
 (h1:ws=[]->Q (.ref t) s) (h2:ws≠[]->Q (.ref s.heap.objs.size) { s with heap:=s.heap.push { cls:=.type "tuple", data:=.seq (vs++ws).toArray } })
 (hsz:vs.length+ws.length<=sizeLine):wpAny (model prog w) A (binaryOp .Add (.ref t) (.ref b)) Q E s:=by
 obtain ⟨⟨cls,dd,data,sl⟩,ho,hc,n,hd⟩:=id ht
 obtain ⟨⟨cls2,dd2,data2,sl2⟩,ho2,hc2,n2,hd2⟩:=id hb
 simp only at hc hd hc2 hd2
 subst hc hd hc2 hd2
 have e:vs.toArray++ws.toArray=(vs++ws).toArray:=by simp
 by_cases hw:ws=[]
 . exact concat_meets ⟨_,ho,rfl⟩ ⟨_,ho2,rfl⟩ noFill_tuple_add seq_tuple_add PySem.F.slot_tuple_add PySem.F.entry_tuple_add (PySem.F.args_tuple_add_2 _ _)
    (tuple_addW1 t b vs.toArray ws.toArray n n2 dd dd2 sl sl2 (by simpa using hv) (by simp [hw])) ⟨ho,ho2,h1 hw⟩
 . refine concat_meets ⟨_,ho,rfl⟩ ⟨_,ho2,rfl⟩ noFill_tuple_add seq_tuple_add PySem.F.slot_tuple_add PySem.F.entry_tuple_add (PySem.F.args_tuple_add_2 _ _)
    (tuple_addW2 t b vs.toArray ws.toArray n n2 dd dd2 sl sl2 (by simpa using hv) (by simpa using hw) (by rw [List.size_toArray,List.size_toArray];exact hsz)) ⟨ho,ho2,?_⟩
   rw [e]
   exact h2 hw
noncomputable def sIx (n d:Nat):Option Int->Nat
 | none=>d
 | some v=>if v<0 then (v+(n:Int)).toNat else min v.toNat n
theorem sIx_nat (n d k:Nat):sIx n d (some (k:Int))=min k n:=by
 show (if (k:Int)<0 then ((k:Int)+(n:Int)).toNat else min (k:Int).toNat n)=min k n
 rw [if_neg (by omega),Int.toNat_natCast]
end
end HT
namespace L2
open PySem PySem.Spec PyProof.Rows
open PySem.W (Frag)
noncomputable abbrev TO:=St->Hp->(Option Int->Hp->Prop)->Prop
noncomputable def PO (X:Cx) (e:Option Expr) (t:TO):Prop:=
 ∀ (pins:List (Addr×Obj)) (s:Shared) (σ:St) (H:Hp) (Q:Option Int->Hp->Prop),aI X pins σ H s->t σ H Q->
  wpAny (model X.prog X.w) X.A (evalPart e X.env) (λ u s'=>∃ o H',aI X pins σ H' s'/\IsPart u o/\Q o H') X.xe s
noncomputable def zA (t:TE):TO:=λ σ H Q=>t σ H λ x H1=>∃ i,x=.int i/\Q (some i) H1
section
variable {X:Cx} {e:Expr} {te:TE} {lo hi:Option Expr} {tl th:TO} {pos p2:Pos}
theorem FN (h:PE X e te):PO X (some e) (zA te):=by
 intro pins s σ H Q I hw
 rw [evalPart_some]
 refine bK (h pins s σ H _ I hw) λ u s1 hq0=>?_
 obtain ⟨x,H1,I1,r1,q1⟩:=hq0
 obtain ⟨i,rfl,q⟩:=q1
 obtain ⟨t,rfl⟩:=r1
 exact ⟨some i,H1,I1,.int i t,q⟩
noncomputable def Do (X:Cx) (r:V->Option Int->Option Int->Hp->VK->Prop):Prop:=
 ∀ (pins:List (Addr×Obj)) (s:Shared) (σ:St) (H:Hp) (x:V) (v vl vu:Value) (lo hi:Option Int) (sl:Addr) (Q:VK),aI X pins σ H s->be x v->s.heap.IsSliceOf sl vl vu .none->IsPart vl lo->IsPart vu hi->r x lo hi H Q->
  ∃ T id,typeLookup (.type T) "__getitem__" = pure (some (.builtin id))/\s.TypeIs v T/\wpAny (model X.prog X.w) X.A (getItem v (.ref sl)) (EP X pins σ Q) X.xe s
noncomputable def Iz (r:V->Option Int->Option Int->Hp->VK->Prop) (te:TE) (tl th:TO):TE:=λ σ H Q=>te σ H λ x H1=>tl σ H1 λ l H2=>th σ H2 λ u H3=>r x l u H3 Q
theorem EU {r:V->Option Int->Option Int->Hp->VK->Prop} (hr:Do X r) (he:PE X e te) (hl:PO X lo tl) (hu:PO X hi th):PE X (.Subscript e (.Slice lo hi none p2) pos) (Iz r te tl th):=by
 intro pins s σ H Q I h
 refine Subscript_ (bK (he pins s σ H _ I h) λ v s1 hq0=>?_)
 obtain ⟨x,H1,I1,r1,q1⟩:=hq0
 refine wpAny_Slice (bK (hl pins s1 σ H1 _ I1 q1) λ vl s2 hy0=>?_)
 obtain ⟨l,H2,I2,pl,q2⟩:=hy0
 refine bK (hu pins s2 σ H2 _ I2 q2) λ vu s3 hq0=>?_
 obtain ⟨u,H3,I3,pu,q3⟩:=hq0
 rw [evalPart_none]
 refine wpAny_pure ?_
 have I4:aI X pins σ H3 { s3 with heap:=s3.heap.push { cls:=.type "slice", data:=.fields #[vl,vu,.none] } }:=I3.kept (t':=s3.toks) λ b ob q=>Heap.get?_push_of_some _ q
 obtain ⟨T,id,hT,ht,hg⟩:=hr pins { s3 with heap:=s3.heap.push { cls:=.type "slice", data:=.fields #[vl,vu,.none] } } σ H3 x v vl vu l u s3.heap.objs.size Q I4 r1 (Heap.IsSliceOf.new ..) pl pu q3
 show wpAny (model X.prog X.w) X.A (subscriptTail e (.Slice lo hi none p2) v (.ref s3.heap.objs.size)) (EP X pins σ Q) X.xe { s3 with heap:=s3.heap.push { cls:=.type "slice", data:=.fields #[vl,vu,.none] } }
 exact tail_any (ops:=[.ref s3.heap.objs.size,v]) ht hT hg (by with_unfolding_all rfl)
noncomputable def qr (xs:List V) (lo hi:Option Int):List V:=(xs.drop (HT.sIx xs.length 0 lo)).take (HT.sIx xs.length xs.length hi-HT.sIx xs.length 0 lo)
theorem p4 (xs:List V) (lo hi:Option Int):(qr xs lo hi).length<=xs.length:=by
 unfold qr
 rw [List.length_take,List.length_drop]
 omega
noncomputable def zf (K:Frag):R2:=λ x y H Q=>∃ a b xs ys,x=.ref a/\y=.ref b/\fS K H a xs/\fS K H b ys/\xs≠[]/\xs.length+ys.length<=sizeLine/\
 (ys=[]->Q (.ref a) H)/\(ys≠[]->∀ p,H p=none->Q (.ref p) (cq H p (.tup (xs++ys))))
theorem bf.nil_iff {xs:List V} {us:List Value} (r:bf xs us):us=[]↔xs=[]:=by
 cases r with
 | nil=>simp
 | cons _ _=>simp
theorem xQ:gh X (binaryOp .Add) (zf X.K):=by
 intro pins s σ H x y v u Q I rx ry h
 obtain ⟨a,b,xs,ys,rfl,rfl,ha,hb,hx,hz,q1,q2⟩:=h
 cases rx
 cases ry
 obtain ⟨its,r1,p1,_⟩:=I.tuple ha
 obtain ⟨its2,r2,p2,_⟩:=I.tuple hb
 refine HT.cat_tup p1 p2 (λ z=>hx (r1.nil_iff.mp z)) (λ z=>⟨.ref a,H,I,rfl,q1 (r2.nil_iff.mp z)⟩) (λ z=>?_) (by rw [<-r1.length,<-r2.length];exact hz)
 refine ⟨.ref s.heap.objs.size,_,I.laid (t':=s.toks) (o:=.tup (xs++ys)) (λ b ob q=>Heap.get?_push_of_some _ q) (Nat.le_refl _) ?_,rfl,q2 (λ w=>z (r2.nil_iff.mpr w)) _ (I.hok.fresh (Nat.le_refl _))⟩
 exact ⟨by rw [List.length_append];exact hz,_,r1.append r2,IsTup.new _ _⟩
end
end L2
namespace L2
open PySem PySem.Spec PyProof.Rows
open PySem.W (Frag)
noncomputable def wW (n:Nat) (i:Int):Option Nat:=if 0<=i then (if i<n then some i.toNat else none) else if -(n:Int)<=i then some (i+n).toNat else none
noncomputable def gW {α:Type} (xs:List α) (i:Int):Option α:=(wW xs.length i).bind λ j=>xs[j]?
theorem yY {n:Nat} {i:Int} {j:Nat} (h:wW n i=some j):seqIndex? i n=some j/\j<n /\ -(n:Int)<=i/\i<n:=by
 unfold wW at h
 by_cases h0:0<=i
 . rw [if_pos h0] at h
   by_cases h1:i<n
   . rw [if_pos h1] at h
     have e:i.toNat=j:=Option.some.inj h
     exact ⟨by rw [seqIndex_of h0 h1,e],by omega,by omega,h1⟩
   . rw [if_neg h1] at h;cases h
 . rw [if_neg h0] at h
   by_cases h1 : -(n:Int)<=i
   . rw [if_pos h1] at h
     have e:(i+n).toNat=j:=Option.some.inj h
     exact ⟨by rw [seqIndex_neg (by omega) h1,e],by omega,h1,by omega⟩
   . rw [if_neg h1] at h;cases h
theorem nB {α:Type} {xs:List α} {i:Int} {v:α} (h:gW xs i=some v):∃ j,seqIndex? i xs.length=some j/\xs[j]?=some v/\j<xs.length /\ -(xs.length:Int)<=i/\i<xs.length:=by
 unfold gW at h
 cases e:wW xs.length i with
 | none=>rw [e] at h;cases h
 | some j=>
  rw [e] at h
  obtain ⟨h1,h2,h3,h4⟩:=yY e
  exact ⟨j,h1,h,h2,h3,h4⟩
noncomputable def yU (b:Expr):Prop:=∀ o i,subscripted b false o i=operate [o,i] (getItem o i)
noncomputable def vi (X:Cx) (r:R2):Prop:=
 ∀ (value slice:Expr) (pins:List (Addr×Obj)) (s:Shared) (σ:St) (H:Hp) (x y:V) (v u:Value) (Q:VK),aI X pins σ H s->be x v->be y u->r x y H Q->
  subscripted slice false v u=operate [v,u] (getItem v u)->wpAny (model X.prog X.w) X.A (subscriptTail value slice v u) (EP X pins σ Q) X.xe s
noncomputable def Df (X:Cx) (id:String) (r:V->List V->Hp->VK->Prop):Prop:=
 ∀ (pins:List (Addr×Obj)) (s:Shared) (σ:St) (H:Hp) (x:V) (xs:List V) (v:Value) (us:List Value) (Q:VK),aI X pins σ H s->be x v->bf xs us->r x xs H Q->
  wpAny (model X.prog X.w) X.A (call (.builtin id) (v::us)) (EP X pins σ Q) X.xe s
section
variable {X:Cx} {a b:Expr} {ta tb:TE} {pos:Pos}
theorem vi.or {r r':R2} (h:vi X r) (h':vi X r'):vi X (λ x y H Q=>r x y H Q∨r' x y H Q):=by
 intro value slice pins s σ H x y v u Q I rx ry q hs
 rcases q with q | q
 . exact h value slice pins s σ H x y v u Q I rx ry q hs
 . exact h' value slice pins s σ H x y v u Q I rx ry q hs
theorem Ik {r:R2} (hr:vi X r) (ha:PE X a ta) (hb:PE X b tb) (hs:yU b):PE X (.Subscript a b pos) (oW r ta tb):=by
 intro pins s σ H Q I h
 exact Subscript_ (CF ha hb I h λ v u s2 x y H2 I2 rx ry q=>hr a b pins s2 σ H2 x y v u Q I2 rx ry q (hs _ _))
noncomputable def D2 (K:Frag):R2:=λ x y H Q=>∃ p xs i v,x=.ref p/\y=.int i/\cY K H p xs/\gW xs i=some v/\Q v H
noncomputable def Dn (K:Frag):R2:=λ x y H Q=>∃ p xs i v,x=.ref p/\y=.int i/\fS K H p xs/\gW xs i=some v/\Q v H
noncomputable def Ep:R2:=λ x y H Q=>∃ z i c,x=.str z/\y=.int i/\z.length<=sizeLine/\gW z.cps.toList i=some c/\Q (.str ⟨#[c]⟩) H
theorem ya:vi X (D2 X.K):=by
 intro value slice pins s σ H x y v u Q I rx ry h hs
 obtain ⟨p,xs,i,z,rfl,rfl,hq,he,q⟩:=h
 cases rx
 obtain ⟨t,rfl⟩:=ry
 obtain ⟨its,r,pl,hz⟩:=I.list hq
 obtain ⟨j,h1,h2,h3,h4,h5⟩:=nB he
 obtain ⟨w,ew,rw'⟩:=r.get h2
 have hl:=r.length
 have hn:=jP
 have fin:EP X pins σ Q w s:=⟨z,H,I,rw',q⟩
 by_cases h0:0<=i
 . have hj:i.toNat=j:=by
    rw [seqIndex_of h0 h5] at h1
    exact Option.some.inj h1
   exact item_listR pl.isList h0 (by omega) (by rw [hj];simpa using ew) fin hs
 . have hj:(i+(its.toArray.size:Int)).toNat=j:=by
    rw [seqIndex_neg (by omega) h4] at h1
    rw [List.size_toArray,<-hl]
    exact Option.some.inj h1
   exact subscriptTail_builtinR (x:=w) pl.isList.typeIs slot_list_getitem.lookup
    (wpAny_getItem_list_neg (Q:=λ r s'=>r=w/\EP X pins σ Q r s') pl.isList (by omega) (by rw [List.size_toArray] <;> omega) (by omega) (by rw [hj];simpa using ew) ⟨rfl,fin⟩) hs
theorem Cu:vi X (Dn X.K):=by
 intro value slice pins s σ H x y v u Q I rx ry h hs
 obtain ⟨p,xs,i,z,rfl,rfl,hq,he,q⟩:=h
 cases rx
 obtain ⟨t,rfl⟩:=ry
 obtain ⟨its,r,pl,hz⟩:=I.tuple hq
 obtain ⟨j,h1,h2,h3,h4,h5⟩:=nB he
 obtain ⟨w,ew,rw'⟩:=r.get h2
 have hl:=r.length
 have hn:=jP
 have fin:EP X pins σ Q w s:=⟨z,H,I,rw',q⟩
 exact subscriptTail_builtinR (x:=w) pl.typeIs slot_tuple_getitem.lookup
  (getItem_tuple (j:=j) (Q:=λ r s'=>r=w/\EP X pins σ Q r s') pl (by omega) (by omega) (by rw [List.size_toArray,<-hl];exact h1) (by simpa using ew) ⟨rfl,fin⟩) hs
theorem AA:vi X Ep:=by
 intro value slice pins s σ H x y v u Q I rx ry h hs
 obtain ⟨z,i,c,rfl,rfl,hz,he,q⟩:=h
 obtain ⟨t,rfl⟩:=rx
 obtain ⟨t',rfl⟩:=ry
 obtain ⟨j,h1,h2,h3,h4,h5⟩:=nB he
 have hl:z.cps.toList.length=z.length:=by simp [Str.length]
 rw [hl] at h1 h4 h5
 have hn:=jP
 exact tail_any (typeIs_str s z t) slot_str_getitem.lookup (getItem_str (c:=c) (by
  have e1:decide (i < -(2^63:Int))=false:=decide_eq_false (by omega)
  have e2:decide (i ≥ 2^63)=false:=decide_eq_false (by omega)
  rw [e1,e2,Bool.or_false]) (by rw [h1];simpa using h2) ⟨.str ⟨#[c]⟩,H,I.tok _,⟨_,rfl⟩,q⟩) hs
noncomputable def Fp (K:Frag):R2:=λ x y H Q=>D2 K x y H Q∨Dn K x y H Q∨Ep x y H Q
theorem Ah:vi X (Fp X.K):=ya.or (Cu.or AA)
theorem oA (lo hi:Option Int) (n:Nat):(sliceBounds lo hi none n).1=((HT.sIx n 0 lo:Nat):Int)/\(sliceBounds lo hi none n).2.1=((HT.sIx n n hi:Nat):Int)/\(sliceBounds lo hi none n).2.2=1:=by
 refine ⟨?_,?_,rfl⟩
 . cases lo with
   | none=>simp [sliceBounds,HT.sIx]
   | some i=>
    simp only [sliceBounds,HT.sIx,Option.getD_none,show (1:Int)>0 by decide,if_true]
    by_cases h:i<0
    . simp only [h,if_true] <;> omega
    . simp only [h,if_false] <;> omega
 . cases hi with
   | none=>simp [sliceBounds,HT.sIx]
   | some i=>
    simp only [sliceBounds,HT.sIx,Option.getD_none,show (1:Int)>0 by decide,if_true]
    by_cases h:i<0
    . simp only [h,if_true] <;> omega
    . simp only [h,if_false] <;> omega
theorem mx (its:List Value) (lo hi:Option Int):slicePick its.toArray lo hi none=((its.drop (HT.sIx its.length 0 lo)).take (HT.sIx its.length its.length hi-HT.sIx its.length 0 lo)).toArray:=by
 obtain ⟨h1,h2,h3⟩:=oA lo hi its.toArray.size
 unfold slicePick
 rw [h1,h2,h3]
 simp only [sliceRange_one,pick_run,List.size_toArray] <;> rfl
noncomputable def Ds (K:Frag):V->Option Int->Option Int->Hp->VK->Prop:=λ x lo hi H Q=>∃ a xs,x=.ref a/\cY K H a xs/\∀ p,H p=none->Q (.ref p) (cq H p (.lst (qr xs lo hi)))
theorem yv:Do X (Ds X.K):=by
 intro pins s σ H x v vl vu lo hi sl Q I rx hs pl pu h
 obtain ⟨a,xs,rfl,hx,q⟩:=h
 cases rx
 obtain ⟨its,r,ht,hz⟩:=I.list hx
 have hlen:=r.length
 refine ⟨"list", _,slot_list_getitem.lookup,ht.isList.typeIs,?_⟩
 refine wpAny_getItem_list_slice ht.isList hs pl pu .none (by simp) ?_ (by rw [List.size_toArray] <;> omega)
 rw [mx,<-hlen]
 refine ⟨.ref s.heap.objs.size,_,I.laid (t':=s.toks) (o:=.lst (qr xs lo hi)) (λ b ob q=>Heap.get?_push_of_some _ q) (Nat.le_refl _) ?_,rfl,q _ (I.hok.fresh (Nat.le_refl _))⟩
 exact ⟨Nat.le_trans (p4 xs lo hi) hz,_,0,(r.drop (HT.sIx xs.length 0 lo)).take (HT.sIx xs.length xs.length hi-HT.sIx xs.length 0 lo),Heap.get?_push_size _ rfl⟩
noncomputable def fu:V->Bool
 | .non=>true
 | .bl _=>true
 | .int _=>true
 | .str _=>true
 | _=>false
noncomputable def zM:V->V->Bool
 | .non,.non=>true
 | .bl a,.bl b=>a==b
 | .bl a,.int b=>(if a then 1 else 0)==b
 | .int a,.bl b=>a==(if b then 1 else 0)
 | .int a,.int b=>a==b
 | .str a,.str b=>a==b
 | _,_=>false
theorem AX {A:Around} {s:Shared} {y x:V} {u v:Value} (ry:be y u) (rx:be x v) (fy:fu y=true) (fx:fu x=true):SeqAt.EqAt A s u v (zM y x):=by
 cases y with
 | non=>
  cases ry
  cases x with
  | non=>cases rx;exact SeqAt.EqAt.same _
  | bl b=>cases rx;exact SeqAt.EqAt.none_bool b
  | int b=>obtain ⟨t,rfl⟩:=rx;exact SeqAt.EqAt.none_int b t
  | str b=>obtain ⟨t,rfl⟩:=rx;exact SeqAt.EqAt.none_str b t
  | _=>exact absurd (show false=true from fx) Bool.false_ne_true
 | bl a=>
  cases ry
  cases x with
  | non=>cases rx;exact SeqAt.EqAt.bool_none a
  | bl b=>cases rx;exact SeqAt.EqAt.bool_bool a b
  | int b=>obtain ⟨t,rfl⟩:=rx;exact SeqAt.EqAt.bool_int a b t
  | str b=>obtain ⟨t,rfl⟩:=rx;exact SeqAt.EqAt.bool_str a b t
  | _=>exact absurd (show false=true from fx) Bool.false_ne_true
 | int a=>
  obtain ⟨t',rfl⟩:=ry
  cases x with
  | non=>cases rx;exact SeqAt.EqAt.int_none a t'
  | bl b=>cases rx;exact SeqAt.EqAt.int_bool a t' b
  | int b=>obtain ⟨t,rfl⟩:=rx;exact SeqAt.EqAt.int_int a t' b t
  | str b=>obtain ⟨t,rfl⟩:=rx;exact SeqAt.EqAt.int_str a t' b t
  | _=>exact absurd (show false=true from fx) Bool.false_ne_true
 | str a=>
  obtain ⟨t',rfl⟩:=ry
  cases x with
  | non=>cases rx;exact SeqAt.EqAt.str_none a t'
  | bl b=>cases rx;exact SeqAt.EqAt.str_bool a t' b
  | int b=>obtain ⟨t,rfl⟩:=rx;exact SeqAt.EqAt.str_int a t' b t
  | str b=>obtain ⟨t,rfl⟩:=rx;exact SeqAt.EqAt.str_str a t' b t
  | _=>exact absurd (show false=true from fx) Bool.false_ne_true
 | _=>exact absurd (show false=true from fy) Bool.false_ne_true
noncomputable def yu (x:V) (u:Value):Bool:=match u with
 | .none=>zM .non x
 | .bool b=>zM (.bl b) x
 | .int i _=>zM (.int i) x
 | .str z _=>zM (.str z) x
 | _=>false
theorem vf {x y:V} {u:Value} (r:be y u) (f:fu y=true):yu x u=zM y x:=by
 cases y with
 | non=>cases r;rfl
 | bl b=>cases r;rfl
 | int i=>obtain ⟨t,rfl⟩:=r;rfl
 | str z=>obtain ⟨t,rfl⟩:=r;rfl
 | _=>exact absurd (show false=true from f) Bool.false_ne_true
theorem rP {x:V} {xs:List V} {us:List Value} (h:bf xs us):xs.all fu=true->us.any (yu x)=xs.any λ y=>zM y x:=by
 induction h with
 | nil=>exact λ _=>rfl
 | cons r _ ih=>
  intro f
  rw [List.all_cons,Bool.and_eq_true] at f
  rw [List.any_cons,List.any_cons,vf r f.1,ih f.2]
theorem pO {A:Around} {s:Shared} {x:V} {v:Value} (rx:be x v) (fx:fu x=true):∀ {xs:List V} {us:List Value},bf xs us->xs.all fu=true->∀ u∈us,SeqAt.EqAt A s u v (yu x u):=λ h f u' hu=>by
 induction h with
 | nil=>cases hu
 | cons r _ ih=>
  rw [List.all_cons,Bool.and_eq_true] at f
  rcases List.mem_cons.mp hu with rfl | hu
  . rw [vf r f.1];exact AX r rx f.1 fx
  . exact ih f.2 hu
noncomputable def DH (x:V) (xs:List V):Bool:=xs.any λ y=>zM y x
noncomputable def CM (K:Frag) (neg:Bool):R2:=λ x y H Q=>∃ p xs,y=.ref p/\(cY K H p xs∨fS K H p xs)/\fu x=true/\xs.all fu=true/\Q (.bl (if neg then !DH x xs else DH x xs)) H
theorem tI:gh X (compareOp .In) (CM X.K false):=by
 intro pins s σ H x y v u Q I rx ry h
 obtain ⟨p,xs,rfl,hq,fx,fs,q⟩:=h
 cases ry
 rcases hq with hq | hq
 . obtain ⟨its,r,pl,hz⟩:=I.list hq
   refine SeqAt.in_listAt (yu x) pl.isList (λ w hw=>pO rx fx r fs w (by simpa using hw)) ⟨.bl _,H,I,rfl,?_⟩
   rw [show its.toArray.any (yu x)=its.any (yu x) by simp,rP r fs]
   exact q
 . obtain ⟨its,r,pl,hz⟩:=I.tuple hq
   refine SeqAt.in_tupleAt (yu x) pl (λ w hw=>pO rx fx r fs w (by simpa using hw)) ⟨.bl _,H,I,rfl,?_⟩
   rw [show its.toArray.any (yu x)=its.any (yu x) by simp,rP r fs]
   exact q
theorem nN:dJ X (.builtin "len") (λ xs H Q=>∃ p ys,xs=[.ref p]/\(cY X.K H p ys∨fS X.K H p ys)/\Q (.int ys.length) H):=by
 intro pins s σ H xs us Q I r h
 obtain ⟨p,ys,rfl,hq,q⟩:=h
 obtain ⟨u,rfl,rx⟩:=pj r
 cases rx
 have hn:=jP
 rcases hq with hq | hq
 . obtain ⟨its,r',pl,hz⟩:=I.list hq
   have hlen:=r'.length
   exact Calls.call_len_list pl.isList (by simp only [List.size_toArray] <;> omega) ⟨.int ys.length,H,I.tok _,⟨s.toks+1,by rw [List.size_toArray,hlen]⟩,q⟩
 . obtain ⟨its,r',pl,hz⟩:=I.tuple hq
   have hlen:=r'.length
   exact len_tuple pl (by simp only [List.size_toArray] <;> omega) ⟨.int ys.length,H,I.tok _,⟨s.toks+1,by rw [List.size_toArray,hlen]⟩,q⟩
theorem nW:dJ X (.builtin "len") (λ xs H Q=>∃ z,xs=[.str z]/\z.length<=sizeLine/\Q (.int z.length) H):=by
 intro pins s σ H xs us Q I r h
 obtain ⟨z,rfl,hz,q⟩:=h
 obtain ⟨u,rfl,t,rfl⟩:=pj r
 have hn:=jP
 exact len_str (by omega) ⟨.int z.length,H,I.tok _,⟨_,rfl⟩,q⟩
theorem dJ.or {f:Value} {r r':List V->Hp->VK->Prop} (h:dJ X f r) (h':dJ X f r'):dJ X f (λ xs H Q=>r xs H Q∨r' xs H Q):=by
 intro pins s σ H xs us Q I rs q
 rcases q with q | q
 . exact h pins s σ H xs us Q I rs q
 . exact h' pins s σ H xs us Q I rs q
theorem oF:dJ X (.type "list") (λ xs H Q=>∃ p ys,xs=[.ref p]/\(cY X.K H p ys∨fS X.K H p ys)/\∀ l,H l=none->Q (.ref l) (cq H l (.lst ys))):=by
 intro pins s σ H xs us Q I r h
 obtain ⟨p,ys,rfl,hq,q⟩:=h
 obtain ⟨u,rfl,rx⟩:=pj r
 cases rx
 have fin:∀ (its:List Value),bf ys its->ys.length<=sizeLine->∀ (h':Heap) (c':Nat),(∀ b o',s.heap.get? b=some o'->h'.get? b=some o')->
  h'.get? s.heap.objs.size=some { cls:=.type "list", dict:=none,data:=.seq its.toArray c',slots:=#[] }->EP X pins σ Q (.ref s.heap.objs.size) { s with heap:=h' }:=λ its r' hz h' c' kp e=>
  ⟨.ref s.heap.objs.size,_,I.laid (t':=s.toks) kp (Nat.le_refl _) (show cn X.prog X.w _ h' _ (.lst ys) from ⟨hz,its,c',r',e⟩),rfl,q _ (I.hok.fresh (Nat.le_refl _))⟩
 rcases hq with hq | hq
 . obtain ⟨its,r',pl,hz⟩:=I.list hq
   have hlen:=r'.length
   obtain ⟨o,ho,hc,n,hd⟩:=pl.isList
   exact call_list_seq p (.inl rfl) ho hc hd (λ h' c' kp e=>fin its r' hz h' c' kp e) (by simp only [List.size_toArray] <;> omega)
 . obtain ⟨its,r',pl,hz⟩:=I.tuple hq
   have hlen:=r'.length
   obtain ⟨o,ho,hc,n,hd⟩:=pl
   exact call_list_seq p (.inr rfl) ho hc hd (λ h' c' kp e=>fin its r' hz h' c' kp e) (by simp only [List.size_toArray] <;> omega)
noncomputable def Gj (K:Frag) (T:String) (x:V) (H:Hp):Prop:=match x with
 | .str _=>T = "str"
 | .int _=>T = "int"
 | .ref p=>(T = "list" /\ ∃ xs,cY K H p xs)∨(T = "tuple" /\ ∃ o,K.lookup p=some o/\o.cls=.type "tuple" /\ o.dict=none)∨
  (T = "dict" /\ ((∃ kvs,H p=some (.dK kvs))∨∃ kvs,H p=some (.dT kvs)))∨(T = "set" /\ ∃ S n,H p=some (.set S n))
 | _=>False
theorem wH {pins:List (Addr×Obj)} {σ:St} {H:Hp} {s:Shared} {T:String} {x:V} {v:Value} (I:aI X pins σ H s) (r:be x v) (ty:Gj X.K T x H):
 s.TypeIs v T/\∀ a,v=.ref a->∃ ob,s.heap.get? a=some ob/\ob.dict=none:=by
 cases x with
 | str z=>
  obtain ⟨t,rfl⟩:=r
  cases (show T = "str" from ty)
  exact ⟨typeIs_str s z t,λ _ e=>nomatch e⟩
 | int i=>
  obtain ⟨t,rfl⟩:=r
  cases (show T = "int" from ty)
  exact ⟨typeIs_int s i t,λ _ e=>nomatch e⟩
 | ref p=>
  cases r
  rcases ty with ⟨rfl,xs,hq⟩ | ⟨rfl,o,hk,hc,hd⟩ | ⟨rfl,hk⟩ | ⟨rfl,S,n,hk⟩
  . obtain ⟨its,_,pl,_⟩:=I.list hq
    refine ⟨pl.isList.typeIs,λ a e=>?_⟩
    cases e
    obtain ⟨o,n,e,c,hd,_⟩:=pl
    exact ⟨o,e,hd⟩
  . refine ⟨⟨o,I.kIn p o hk,hc⟩,λ a e=>?_⟩
    cases e
    exact ⟨o,I.kIn _ o hk,hd⟩
  . have z:∃ o,s.heap.get? p=some o/\o.ExactDict:=by
     rcases hk with ⟨kvs,hk⟩ | ⟨kvs,hk⟩
     . obtain ⟨_,_,_,_,o,_,_,e,ex,_⟩:=I.hok p _ hk
       exact ⟨o,e,ex⟩
     . obtain ⟨_,_,_,_,o,_,_,e,ex,_⟩:=I.hok p _ hk
       exact ⟨o,e,ex⟩
    obtain ⟨o,e,ex⟩:=z
    refine ⟨⟨o,e,ex.1⟩,λ a e2=>?_⟩
    cases e2
    exact ⟨o,e,ex.2.1⟩
  . obtain ⟨o,_,_,_,e,ex,_⟩:=I.hok p _ hk
    refine ⟨⟨o,e,ex.1⟩,λ a e2=>?_⟩
    cases e2
    exact ⟨o,e,ex.2.1⟩
 | _=>exact False.elim ty
noncomputable def xj (K:Frag) (T:String) (r:V->List V->Hp->VK->Prop) (to:TE):TE:=λ σ H Q=>to σ H λ x H1=>Gj K T x H1/\r x [] H1 Q
noncomputable def E2 (K:Frag) (T:String) (r:V->List V->Hp->VK->Prop) (to:TE) (t:TA):TE:=λ σ H Q=>to σ H λ x H1=>Gj K T x H1/\t σ H1 λ xs H2=>r x xs H2 Q
variable {o e:Expr} {es:List Expr} {to:TE} {t:TA} {name:Str} {apos cpos:Pos} {T id:String} {r:V->List V->Hp->VK->Prop}
theorem C5 (pa:PlainAttrs T) (slot:Slot T name id) (hty:typeOf (.builtin id)=pure (.type "method_descriptor")) (hm:Df X id r) (ho:PE X o to)
 (hbase:attributeBase o name X.env (eval o X.env)=eval o X.env:=by rfl) (hline:(apos.endLine==cpos.line)=true:=by rfl):PE X (.Call (.Attribute o name apos) [] [] cpos) (xj X.K T r to):=by
 intro pins s σ H Q I h
 refine wpAny_Call_method0_late hbase hline (bK (ho pins s σ H _ I h) λ v s1 hq0=>?_)
 obtain ⟨x,H1,I1,r1,ty,q1⟩:=hq0
 obtain ⟨h1,h2⟩:=wH I1 r1 ty
 exact ⟨T,id,pa,slot,hty,h1,h2,Calls.callWith_builtin rfl (PySem.evalArgs_none (hm pins s1 σ H1 x [] v [] Q I1 r1 .nil q1))⟩
theorem E8 (pa:PlainAttrs T) (slot:Slot T name id) (hty:typeOf (.builtin id)=pure (.type "method_descriptor")) (hm:Df X id r) (ho:PE X o to) (ha:PA X (e::es) t)
 (hbase:attributeBase o name X.env (eval o X.env)=eval o X.env:=by rfl)
 (hfew:((backTo cpos (starEach (e::es) X.env)).all (λ x=>!x.1)&&(backToKw cpos (keywordEach [] X.env)).all (λ x=>x.1.isSome)
  && decide ((e::es).length+([]:List Keyword).length+(if ([]:List Keyword).isEmpty then 0 else 1)<30))=true:=by rfl)
 (hline:(apos.endLine==cpos.line)=true:=by rfl) (hs:starEach (e::es) X.env=(false,eval e X.env)::starEach es X.env:=by rfl) (hplain:(backTo cpos (starEach es X.env)).any (·.1)=false:=by rfl):
 PE X (.Call (.Attribute o name apos) (e::es) [] cpos) (E2 X.K T r to t):=by
 intro pins s σ H Q I h
 refine wpAny_Call_method_late hbase hfew hline rfl (bK (ho pins s σ H _ I h) λ v s1 hq0=>?_)
 obtain ⟨x,H1,I1,r1,ty,q1⟩:=hq0
 obtain ⟨h1,h2⟩:=wH I1 r1 ty
 refine ⟨T,id,pa,slot,hty,h1,h2,?_⟩
 have hA:=ha cpos pins s1 σ H1 _ I1 q1
 rw [hs] at hA ⊢
 refine Calls.callWith_builtin (by show (false||(backTo cpos (starEach es X.env)).any (·.1))=false;rw [hplain] <;> rfl) (Calls.evalArgs_plain ?_)
 exact bK hA λ us s2 hy0=>by obtain ⟨vs,H2,I2,r2,q2⟩:=hy0;exact hm pins s2 σ H2 x vs v us Q I2 r1 r2 q2
end
end L2
namespace L2
open PySem PySem.Spec PyProof.Rows
open PySem.W (Frag)
noncomputable def HX (X:Cx) (id:String) (r:V->List V->Hp->VK->Prop):Prop:=
 ∀ (pins:List (Addr×Obj)) (s:Shared) (σ:St) (H:Hp) (x:V) (xs:List V) (v:Value) (us:List Value) (Q:VK),aI X pins σ H s->be x v->bf xs us->r x xs H Q->
  wpAny (model X.prog X.w) X.A (call (.builtin id) (v::us)) (EP X pins σ Q) X.xe s
theorem bf.one {x:V} {us:List Value} (h:bf [x] us):∃ u,us=[u]/\be x u:=by
 cases h with
 | cons r t=>cases t;exact ⟨_,rfl,r⟩
theorem bf.zero:∀ {us:List Value},bf [] us->us=[]
 | _,.nil=>rfl
theorem bf.dropLast {xs:List V} {us:List Value} (h:bf xs us):bf xs.dropLast us.dropLast:=by
 induction h with
 | nil=>exact .nil
 | cons r t ih=>
  cases t with
  | nil=>exact .nil
  | cons q t'=>exact .cons r ih
theorem qS {α:Type} (l:List α):l.eraseIdx (l.length-1)=l.dropLast:=by
 induction l with
 | nil=>rfl
 | cons a r ih=>
  cases r with
  | nil=>rfl
  | cons b r=>
   have e:(a::b::r).length-1=((b::r).length-1)+1:=by
    have h1:(a::b::r).length=r.length+2:=rfl
    have h2:(b::r).length=r.length+1:=rfl
    omega
   rw [e,List.eraseIdx_cons_succ,ih]
   all_goals rfl
section
variable {X:Cx} {pins:List (Addr×Obj)} {σ:St} {H:Hp} {s:Shared} {l b:Addr} {xs ys zs:List V}
theorem aI.lset {its its':List Value} {n:Nat} {f:Array Value->Array Value} {t':Nat} (I:aI X pins σ H s) (hH:H l=some (.lst xs))
 (e:s.heap.get? l=some { cls:=.type "list", data:=.seq its.toArray n }) (hf:f its.toArray=its'.toArray) (hv:bf ys its') (hz:ys.length<=sizeLine):
 aI X pins σ (cq H l (.lst ys)) { s with heap:=s.heap.update l (Obj.mapSeq f),toks:=t' }:=by
 have q:=PySem.IsL.update e f
 rw [hf] at q
 refine I.write (x:=l) (e:=l) (by rw [hH];exact trivial) (.inl rfl) (λ b' u hb hu=>(Heap.get?_update_other s.heap (Obj.mapSeq f) (Ne.symm hb)).trans hu) ⟨_,q⟩ ?_
 exact ⟨hz,its',_,hv,q⟩
theorem aI.lnew {its:List Value} {t':Nat} (I:aI X pins σ H s) (hv:bf ys its) (hz:ys.length<=sizeLine):
 aI X pins σ (cq H s.heap.objs.size (.lst ys)) { s with heap:=s.heap.push { cls:=.type "list", data:=.seq its.toArray },toks:=t' }:=
 I.laid (λ _ _ q=>Heap.get?_push_of_some _ q) (Nat.le_refl _) ⟨hz,its,0,hv,Heap.get?_push_size _ rfl⟩
theorem aI.fresh (I:aI X pins σ H s):H s.heap.objs.size=none:=I.hok.fresh (Nat.le_refl _)
theorem aI.lstM (I:aI X pins σ H s) (hH:H l=some (.lst xs)):xs.length<=sizeLine/\∃ (its:List Value) (n:Nat),bf xs its/\xs.length=its.length/\s.heap.get? l=some { cls:=.type "list", data:=.seq its.toArray n }:=by
 obtain ⟨z,its,n,r,e⟩:=I.hok l _ hH
 exact ⟨z,its,n,r,r.length,e⟩
end
section
variable {X:Cx}
noncomputable def kH:V->List V->Hp->VK->Prop:=λ x vs H Q=>∃ l xs y,x=.ref l/\vs=[y]/\H l=some (.lst xs)/\xs.length<sizeLine/\Q .non (cq H l (.lst (xs++[y])))
theorem ug:HX X "list.append" kH:=by
 intro pins s σ H x vs v us Q I rx rv h
 obtain ⟨l,xs,y,rfl,rfl,hH,hz,q⟩:=h
 cases rx
 obtain ⟨u,rfl,ru⟩:=rv.one
 obtain ⟨z,its,n,r,hl,e⟩:=I.lstM hH
 refine call_meets F.slot_list_append ⟨_,e,rfl⟩ F.entry_list_append (F.args_list_append_2 _ _) (PySem.list_append l its.toArray n u (by rw [List.size_toArray];omega)) ⟨e,?_⟩
 refine ⟨.non,_,I.lset (its':=its++[u]) hH e (by simp) (r.append (.cons ru .nil)) ?_,rfl,q⟩
 rw [List.length_append,List.length_singleton]
 omega
noncomputable def Ct:V->List V->Hp->VK->Prop:=λ x vs H Q=>∃ l xs y,x=.ref l/\vs=[]/\H l=some (.lst xs)/\xs[xs.length-1]?=some y/\Q y (cq H l (.lst xs.dropLast))
theorem B3:HX X "list.pop" Ct:=by
 intro pins s σ H x vs v us Q I rx rv h
 obtain ⟨l,xs,y,rfl,rfl,hH,hy,q⟩:=h
 cases rx
 have hus:=rv.zero
 subst hus
 obtain ⟨z,its,n,r,hl,e⟩:=I.lstM hH
 obtain ⟨u,hu,ru⟩:=r.get hy
 have hy':its.toArray[its.toArray.size-1]?=some u:=by
  show its.toArray[its.length-1]?=some u
  rw [<-Array.getElem?_toList,<-hl]
  exact hu
 refine call_meets F.slot_list_pop ⟨_,e,rfl⟩ F.entry_list_pop (F.args_list_pop_1 _) (MeetsSeq.list_pop_last l its.toArray n u hy' (by rw [List.size_toArray];omega)) ⟨e,?_⟩
 refine ⟨y,_,I.lset (its':=its.dropLast) hH e ?_ r.dropLast ?_,ru,q⟩
 . show its.toArray.eraseIdxIfInBounds (its.toArray.size-1)=its.dropLast.toArray
   rw [List.size_toArray,List.eraseIdxIfInBounds_toArray,qS]
 . rw [List.length_dropLast]
   omega
end
section
variable {prog:Program} {w:World} {A:Around} {E:Value->Shared->Prop} {s:Shared}
end
section
variable {X:Cx}
end
end L2
namespace Att
open PySem PySem.W PySem.Calls PyProof.Rows
theorem kE {P:Params} {h:Heap}:∀ (ns:List Int) (vs:List Value),WellAll P h vs (ns.map WData.int)->IntsAre vs ns:=by
 intro ns
 induction ns with
 | nil=>
  intro vs w
  rw [List.map_nil] at w
  cases w
  exact .nil
 | cons n ns ih=>
  intro vs w
  rw [List.map_cons] at w
  cases w with
  | cons a b=>
   cases a
   exact .cons _ _ (ih _ b)
theorem sQ {l:OpenLaw} {n:Nat} (hn:l.most=some n) {P:Params} {h:Heap} {args:List WData} {vals:List Value}
 (hpre:l.row.toRowW.claim.pre args=true) (hwl:WellAll P h vals args):
 ∃ a vs ns,vals=[Value.ref a]/\args=[WData.list (ns.map WData.int)]/\h.get? a=some { cls:=.type "list", data:=.seq vs.toArray }/\IntsAre vs ns/\ns.length<=n:=by
 have hsh:WShape.hasAll [] args [.list .int]=true:=(pre_splitW hpre).1
 have hc:l.pre.holds [] { args:=args }=true:=(pre_splitW hpre).2
 obtain ⟨d,r,rfl,h1,h2⟩:=hasAllW_cons hsh
 obtain rfl:=hasAllW_nil h2
 obtain ⟨xs,rfl,h3⟩:=hasW_list h1
 obtain ⟨ns,rfl⟩:=items_int h3
 have hlen:ns.length<=n:=by
  unfold OpenLaw.pre at hc
  have h4:(WTm.not (.lt (.lit (.int (n:Int))) (.len (.arg 0)))).holds [] { args:=[.list (ns.map .int)] }=true:=by
   have h4:=(holds_andW hc).1
   rw [hn] at h4
   exact h4
  have h5:=condW_of h4 (w_not (w_lt w_lit (w_len_list (w_arg rfl))))
  rw [List.length_map] at h5
  refine Nat.le_of_not_lt λ q=>?_
  have q':(n:Int)<((ns.length:Nat):Int):=by omega
  first
   | (rw [decide_eq_true q'] at h5;exact absurd h5 (by decide))
   | (simp at h5;omega)
 cases hwl with
 | cons w1 w2=>
  cases w2
  cases w1 with
  | list ho hall=>exact ⟨_,_,ns,rfl,rfl,ho,kE ns _ hall,hlen⟩
theorem ud (l:OpenLaw) (args:List WData):l.row.toRowW.claim.post args (.bool true) args=true:=
 postW_of (r:=l.row.toRowW) (X:=(true==true))
  (show WShape.has [] (.bool true) .bool=true by first | rfl | decide | simp [WShape.has,WShape.arms,WShape.armsAll])
  (show (WTm.eq .res (.lit (.bool true))).value [] { args:=args,res:=some (.bool true),after:=args }=some (.bool (true==true)) from w_eq_bool (w_res rfl) w_lit) rfl
theorem attach_call {l:OpenLaw} {n:Nat} {q:Program} {loose:List Str} {XP:(Str->Option Value)->Heap->Prop} {YP:World->Heap->Prop} {d:DefRec}
 (hn:l.most=some n) (hdf:d.params.defaults=[])
 (call:∀ (w:World) (s₀ s₁:Shared) (mg mb:Str->Option Value) (fa:Addr) (o:Obj) (pm cd doc:Value) (a:Addr) (vs:List Value) (ns:List Int),
  Ground q loose [] XP w s₀ mg mb s₁.heap->YP w s₁.heap->
  s₁.heap.get? fa=some o->o.data=.func (docDef d.name d.params d.body d.scope pm cd doc)->s₁.heap.CodeRec cd d.name->mg d.name=some (.ref fa)->
  s₁.heap.get? a=some { cls:=.type "list", data:=.seq vs.toArray }->IntsAre vs ns->ns.length<=n->s₁.gens = #[]->
  codeAny (model l.prog w) callerA (.call (.ref fa) ⟨[.ref a],[]⟩) (λ r s'=>r=.ok (.ret (.bool true))/\OldK s₁.heap s'.heap/\s'.os=s₁.os/\AllBare s'.gens) s₁):
 WalkO q loose XP YP l.row.toRowW d [] (λ f vs=>PySem.call f vs):=by
 intro w s₀ s₁ mg mb G Y fa o pm cd doc dV kV ho hd hcd hD hmg hg args vals as hpre hlay hrd hwl hlo
 obtain rfl:dV=.none:=Dflts.none hD hdf
 obtain rfl:kV=.none:=Dflts.noKw hD
 obtain ⟨a,vs,ns,rfl,rfl,hobj,hints,hlen⟩:=sQ hn hpre hwl
 refine enter_call (codeAny_mono (call w s₀ s₁ mg mb fa o pm cd doc a vs ns G Y ho (fd_plain hd) hcd hmg hobj hints hlen hg) λ r s' hq=>?_)
 obtain ⟨rfl,h2,h3,h4⟩:=hq
 exact ⟨.inl ⟨.bool true,.bool true,[],rfl,λ _=>rfl,.bool true,ud l _,λ _=>⟨List.Pairwise.nil,λ _ hm=>(nomatch hm)⟩⟩,h2,h3,h4⟩
section
variable {prog:Program} {w:World} {A:Around} {E:Value->Shared->Prop} {s:Shared} {K:Frag}
end
end Att
namespace L2
open PySem PySem.Spec PyProof.Rows
open PySem.W (Frag)
theorem sR {vs:List Value} {ns:List Int} (h:IntsAre vs ns):bf (ns.map V.int) vs:=by
 induction h with
 | nil=>exact .nil
 | cons n t _ ih=>exact .cons ⟨t,rfl⟩ ih
noncomputable def Ak (H:Hp):Prop:=∀ b,H b=none∨∃ o xs,H b=some (.frz o (.lst xs))
theorem vw {P:Program} {w:World} {K:Frag} {mg mb:Str->Option Value} {CX:oV} {k:Nat} {fa a:Addr} {fd:FuncData} {x:Str} {sp:Sp} {s₁:Shared} {vs:List Value} {ns:List Int}
 (KX:K.In s₁.heap) (hns:s₁.heap.Ns mainGlobals mg) (hb:s₁.heap.Ns builtinsNs mb) (hbb:∀ x:Str,x ≠ "__name__" -> mb x=bootBuiltins x) (hlim:s₁.heap.NoLimit) (hg:s₁.gens = #[])
 (ha:s₁.heap.get? a=some { cls:=.type "list", data:=.seq vs.toArray }) (hi:IntsAre vs ns) (hl:ns.length<=sizeLine) (hr:bR k callerA)
 (F:∀ base:Heap,K.In base->base.Ns mainGlobals mg->dU P w K mg base CX k fa fd [x] sp) (hbind:∀ (s:Shared) (u:Value),BindsTo s fd ⟨[u],[]⟩ [(x,u)])
 (hsp:∀ H:Hp,Ak H->cY K H a (ns.map V.int)->sp [.ref a] H (λ v _=>v=.bl true) λ _ _ _=>False)
 (hCX:∀ H e s',CX [] H s₁ (λ _ _ _=>False) e s'->False):
 codeAny (model P w) callerA (.call (.ref fa) ⟨[.ref a],[]⟩) (λ r s'=>r=.ok (.ret (.bool true))/\OldK s₁.heap s'.heap/\s'.os=s₁.os/\AllBare s'.gens) s₁:=by
 have rv:=sR hi
 have lenV:=hi.length
 have core:∀ H:Hp,Ak H->cY K H a (ns.map V.int)->gE P w H s₁.heap->(∀ b,H b≠none->b=a)->(H a≠none->K.lookup a=none)->
  codeAny (model P w) callerA (.call (.ref fa) ⟨[.ref a],[]⟩) (λ r s'=>r=.ok (.ret (.bool true))/\OldK s₁.heap s'.heap/\s'.os=s₁.os/\AllBare s'.gens) s₁:=by
  intro H hO hS hok hA hK
  have base_of:∀ {b:Addr} {o:Obj},s₁.heap.get? b=some o->H b=none->(oj s₁.heap H).get? b=some o:=λ e n=>wR e n
  have noA:∀ {b:Addr} {o:Obj} {es:Array DictEntry} {ep:Nat},s₁.heap.get? b=some o->o.data=.dict es ep->H b=none:=λ {b o es ep} e d=>by
   cases q:H b with
   | none=>rfl
   | some u=>
    have e':b=a:=hA b (by rw [q];simp)
    subst e'
    rw [ha] at e;cases e
    have d':Data.seq vs.toArray _=Data.dict es ep:=d
    cases d'
  have nsK:∀ {b:Addr} {m:Str->Option Value},s₁.heap.Ns b m->(oj s₁.heap H).Ns b m:=λ {b m} hy0=>by obtain ⟨o,es,ep,e,d,r⟩:=hy0;exact ⟨o,es,ep,base_of e (noA e d),d,r⟩
  have hKb:K.In (oj s₁.heap H):=λ b o e=>base_of (KX b o e) (by
   cases q:H b with
   | none=>rfl
   | some u=>
    have e':b=a:=hA b (by rw [q];simp)
    subst e'
    rw [hK (by rw [q];simp)] at e;cases e)
  have hM:Mod K mg (oj s₁.heap H):=⟨hKb,nsK hns,⟨mb,nsK hb,hbb⟩,by obtain ⟨mc,h1,h2⟩:=hlim;exact ⟨mc,nsK h1,h2⟩⟩
  have e0:pA P w K mg (oj s₁.heap H) callerA [] s₁ H:=⟨rfl,hM,λ b o e=>xq e,Nat.le_of_eq (sX _ _),trivial,λ b hb=>absurd (show b∈([]:List Addr) from hb) (by simp),hok,.of_eq hg⟩
  refine codeAny_mono ((F _ hKb (nsK hns)).run callerA [] s₁ H ⟨[.ref a],[]⟩ [.ref a] [.ref a] _ _ hr e0 (hbind s₁ (.ref a)) (.cons rfl .nil) (hsp H hO hS)) λ r s' h=>?_
  cases r with
  | error e=>exact (hCX H e s' h).elim
  | ok fl=>
   cases fl with
   | next=>exact False.elim h
   | brk=>exact False.elim h
   | cont=>exact False.elim h
   | ret u=>
    obtain ⟨v,H',os,bare,un,hok',r',q⟩:=h
    have q':v=.bl true:=q
    subst q'
    obtain rfl:u=Value.bool true:=r'
    refine ⟨rfl,OldK.of_keep λ b o e=>?_,os,bare⟩
    cases q:H b with
    | none=>exact un.keep b o e q (by intro z;exact absurd (show b∈([]:List Addr) from z) (by simp)) (by simp)
    | some u=>
     rcases hO b with z | ⟨ob,xs,z⟩
     . rw [q] at z;cases z
     . have z2:=un.frzs b ob _ z
       obtain ⟨e1,_⟩:=hok b _ z
       obtain ⟨e2,_⟩:=hok' b _ z2
       rw [e] at e1;cases e1
       exact e2
 cases hk:K.lookup a with
 | some o=>
  have e:=KX a o hk
  rw [ha] at e
  cases e
  refine core (λ _=>none) (λ _=>.inl rfl) (.inr ⟨_,vs.toArray,_,hk,rfl,rfl,rfl,by rw [List.size_toArray,lenV];exact hl,by simpa using rv⟩) (λ b u z=>by have z':(none:Option HO)=some u:=z;cases z') (λ b z=>absurd rfl z) λ z=>absurd rfl z
 | none=>
  refine core (λ b=>if b=a then some (.frz { cls:=.type "list", data:=.seq vs.toArray } (.lst (ns.map V.int))) else none) (λ b=>?_) (.inl (.inr ⟨{ cls:=.type "list", data:=.seq vs.toArray },if_pos rfl⟩)) (λ b u z=>?_) (λ b z=>?_) λ _=>hk
  . by_cases hb:b=a
    . exact .inr ⟨_,_,if_pos hb⟩
    . exact .inl (if_neg hb)
  . by_cases hb:b=a
    . have z':=(if_pos hb).symm.trans z
      cases z'
      subst hb
      exact ⟨ha,by rw [List.length_map];exact hl,vs,_,rv,ha⟩
    . have z':=(if_neg hb).symm.trans z
      cases z'
  . by_cases hb:b=a
    . exact hb
    . exact absurd (if_neg hb) z
end L2
namespace L2
open PySem PySem.Spec PyProof.Rows
open PySem.W (Frag)
theorem walk_of {l:PySem.W.OpenLaw} {n k:Nat} {q:Program} {loose:List Str} {XP:(Str->Option Value)->Heap->Prop} {YP:World->Heap->Prop} {d:DefRec} {K:Params->Frag} {CX:World->oV} {sp:World->Sp} {x:Str}
 (hn:l.most=some n) (hn2:n<=sizeLine) (hdf:d.params.defaults=[]) (hr:bR k callerA)
 (hY:∀ (w:World) (h:Heap),YP w h->(K w.params).In h)
 (F:∀ (w:World) (mg:Str->Option Value) (fa:Addr) (h:Heap),(K w.params).In h->h.Ns mainGlobals mg->mg d.name=some (.ref fa)->
  ∃ fd:FuncData,(∀ (s:Shared) (u:Value),BindsTo s fd ⟨[u],[]⟩ [(x,u)])/\
   ∀ base:Heap,(K w.params).In base->base.Ns mainGlobals mg->dU l.prog w (K w.params) mg base (CX w) k fa fd [x] (sp w))
 (hsp:∀ (w:World) (H:Hp) (a:Addr) (ns:List Int),ns.length<=n->Ak H->cY (K w.params) H a (ns.map V.int)->sp w [.ref a] H (λ v _=>v=.bl true) λ _ _ _=>False)
 (hCX:∀ (w:World) (H:Hp) (s:Shared) (e:Value) (s':Shared),CX w [] H s (λ _ _ _=>False) e s'->False):
 PySem.W.WalkO q loose XP YP l.row.toRowW d [] (λ f vs=>PySem.call f vs):=by
 refine Att.attach_call hn hdf λ w s₀ s₁ mg mb fa o pm cd doc a vs ns G Y ho hd hcd hmg hobj hints hlen hg=>?_
 have KX:=hY w _ Y
 obtain ⟨fd,hb,hF⟩:=F w mg fa _ KX G.T.g hmg
 exact vw KX G.T.g G.T.b G.T.builtins G.T.nolimit hg hobj hints (Nat.le_trans hlen hn2) hr hF hb (λ H hO hS=>hsp w H a ns hlen hO hS) λ H e s'=>hCX w H s₁ e s'
end L2
namespace L2
open PySem PySem.Spec PyProof.Rows
open PySem.W (Frag)
noncomputable def b5 (s:Stmt) (j:Nat):Stmt:=match s with
 | .ClassDef _ _ _ body _ _ _ _ _ _ _=>body.getD j (.Pass ⟨0,0,0,0⟩)
 | _=>.Pass ⟨0,0,0,0⟩
noncomputable def aX (s:Stmt):Arguments:=match s with
 | .FunctionDef _ a _ _ _ _ _ _ _ _=>a
 | _=>{ posonlyargs:=[],args:=[],vararg:=none,kwonlyargs:=[],kw_defaults:=[],kwarg:=none,defaults:=[] }
noncomputable def aM (s:Stmt):List Stmt:=match s with
 | .FunctionDef _ _ b _ _ _ _ _ _ _=>b
 | _=>[]
noncomputable def au (s:Stmt):Scope:=match s with
 | .FunctionDef _ _ _ _ _ _ sc _ _ _=>sc
 | _=>{ kind:=.function,names:=[],isGenerator:=false,isCoroutine:=false }
noncomputable abbrev rG:oV:=λ _ _ _ _ _ _=>False
noncomputable abbrev E0:XK:=λ _ _ _=>False
theorem Dx {X:Cx}:fZ rG X E0:=λ _ _ _ _ _ _ _ h=>h.elim
structure GG (K:Frag) (x qual:Str) (st:Stmt) (f:Addr) (fd:FuncData):Prop where
 ex:∃ (oc:Value) (od:Option Addr) (kV doc pm:Value) (an:Option Addr) (cdv ct:Value) (osl:Array (Option Value)),
  fd=PySem.W.fnOf x qual (aX st) (aM st) (au st) .none kV doc pm an cdv ct/\K.lookup f=some ⟨oc,od,.func fd,osl⟩/\PySem.W.codeIn K cdv qual=true
 kp:PySem.W.keepIn K (.ref f)=true
section
variable {P:Program} {w:World} {K:Frag} {mg:Str->Option Value} {base:Heap}
theorem GG.binds {x qual:Str} {st:Stmt} {f:Addr} {fd:FuncData} {ps:List Str} (F:GG K x qual st f fd)
 (h:∀ (kV doc pm:Value) (an:Option Addr) (cdv ct:Value) (us:List Value),us.length=ps.length->bindArgs (PySem.W.fnOf x qual (aX st) (aM st) (au st) .none kV doc pm an cdv ct) ⟨us,[]⟩=pure (ps.zip us)):aR K fd ps []:=by
 obtain ⟨oc,od,kV,doc,pm,an,cdv,ct,osl,rfl,lk,hcd⟩:=F.ex
 exact .all (h kV doc pm an cdv ct)
theorem bN {x qual:Str} {st:Stmt} {f:Addr} {oc:Value} {od an:Option Addr} {osl:Array (Option Value)} {kV doc pm cdv ct:Value} (l:K.lookup f=some ⟨oc,od,.func (PySem.W.fnOf x qual (aX st) (aM st) (au st) .none kV doc pm an cdv ct),osl⟩)
 (c:PySem.W.codeIn K cdv qual=true) (k:PySem.W.keepIn K (.ref f)=true):GG K x qual st f (PySem.W.fnOf x qual (aX st) (aM st) (au st) .none kV doc pm an cdv ct):=⟨⟨oc,od,kV,doc,pm,an,cdv,ct,osl,rfl,l,c⟩,k⟩
end
theorem tW {n:Nat} (h:n<=1000):n<sizeLine:=Nat.lt_of_le_of_lt h (by decide)
section
variable {X:Cx}
end
noncomputable def bg (H H':Hp):Prop:=∀ b o,H b=some o->H' b=some o
theorem bg.refl (H:Hp):bg H H:=λ _ _ h=>h
theorem bg.trans {H H1 H2:Hp} (a:bg H H1) (b:bg H1 H2):bg H H2:=λ c o h=>b c o (a c o h)
theorem bg.seq {K:Frag} {H H':Hp} {a:Addr} {xs:List V} (e:bg H H') (h:cY K H a xs):cY K H' a xs:=by
 rcases h with (h | ⟨o,h⟩) | h
 . exact .inl (.inl (e _ _ h))
 . exact .inl (.inr ⟨o,e _ _ h⟩)
 . exact .inr h
noncomputable def mf (cells:List (Str×Addr)):List (Str×NameKind)->List (Str×Addr)->List (Str×Addr)
 | [],cs=>cs
 | (n,k)::r,cs=>mf cells r (if k==.free then (n,(cells.lookup n).getD 0)::cs else cs)
noncomputable def tH (scope:Scope) (env:Env):List (Str×Addr):=mf env.cells scope.names []
theorem rQ {env:Env}:∀ (names:List (Str×NameKind)) (cs:List (Str×Addr)),(∀ y∈names,y.2=.free->∃ c,env.cells.lookup y.1=some c)->
 (forIn names cs λ (x:Str×NameKind) (r:List (Str×Addr))=>(match x with
  | (name,kind)=>if (kind==NameKind.free)=true then do let a <-cellOf env name;pure (ForInStep.yield ((name,a)::r)) else pure (ForInStep.yield r):Sem (ForInStep (List (Str×Addr)))))=(pure (mf env.cells names cs):Sem _)
 | [],cs,_=>rfl
 | (n,k)::r,cs,h=>by
  have hr:=λ cs'=>rQ (env:=env) r cs' λ y hy=>h y (List.mem_cons_of_mem _ hy)
  rw [List.forIn_cons]
  by_cases hk:(k==NameKind.free)=true
  . obtain ⟨c,hc⟩:=h (n,k) List.mem_cons_self (by simpa using hk)
    have e1:cellOf env n=pure c:=by unfold cellOf;rw [hc]
    simp only [hk,if_true,e1,pure_bind]
    rw [hr]
    unfold mf
    rw [if_pos hk,hc]
    conv=>rhs;unfold mf
    rfl
  . simp only [hk,if_false,pure_bind,Bool.false_eq_true]
    rw [hr]
    conv=>rhs;unfold mf
    rw [if_neg hk]
theorem lW {scope:Scope} {env:Env} (h:∀ y∈scope.names,y.2=.free->∃ c,env.cells.lookup y.1=some c):closureFor scope env=pure (tH scope env):=by
 unfold closureFor tH
 rw [<-rQ scope.names [] h]
 simp
theorem ka {cells:List (Str×Addr)} {x:Str} {c:Addr}:∀ (names:List (Str×NameKind)) (cs:List (Str×Addr)),(∀ y∈names,y.2=.free->∃ d,cells.lookup y.1=some d)->(∀ d,cs.lookup x=some d->cells.lookup x=some d)->
 (mf cells names cs).lookup x=some c->cells.lookup x=some c
 | [],cs,_,hc,h=>hc c h
 | (n,k)::r,cs,hn,hc,h=>by
  unfold mf at h
  refine ka r _ (λ y hy=>hn y (List.mem_cons_of_mem _ hy)) ?_ h
  intro d hd
  by_cases hk:(k==NameKind.free)=true
  . rw [if_pos hk] at hd
    obtain ⟨e,he⟩:=hn (n,k) List.mem_cons_self (by simpa using hk)
    simp only at he
    rw [List.lookup_cons] at hd
    cases hx:x==n with
    | true=>
     have:x=n:=by simpa using hx
     subst this
     rw [hx] at hd
     simp only [Option.some.injEq] at hd
     rw [he] at hd ⊢
     simp at hd
     rw [hd]
    | false=>
     rw [hx] at hd
     exact hc d hd
  . rw [if_neg hk] at hd
    exact hc d hd
theorem lV {cells:List (Str×Addr)} {x:Str}:∀ (names:List (Str×NameKind)) (cs:List (Str×Addr)),((x,NameKind.free)∈names∨∃ d,cs.lookup x=some d)->∃ d,(mf cells names cs).lookup x=some d
 | [],cs,h=>by
  rcases h with h | h
  . cases h
  . exact h
 | (n,k)::r,cs,h=>by
  unfold mf
  refine lV r _ ?_
  rcases h with h | ⟨d,h⟩
  . rcases List.mem_cons.mp h with e | h
    . cases e
      exact .inr ⟨_,by rw [if_pos (by rfl),List.lookup_cons,beq_self_eq_true]⟩
    . exact .inl h
  . refine .inr ?_
    split
    . rw [List.lookup_cons]
      cases hx:x==n with
      | true=>exact ⟨_,rfl⟩
      | false=>exact ⟨d,h⟩
    . exact ⟨d,h⟩
theorem fN {scope:Scope} {env:Env} {x:Str} {k:NameKind} (h:(relabel scope env).names.lookup x=some k) (hk:k=.cell∨k=.free) (hc:∀ y∈scope.names,y.2≠.cell):(x,NameKind.free)∈scope.names:=by
 have hm:=PySem.mem_of_lookup h
 unfold relabel at hm
 obtain ⟨⟨n,k'⟩,hy,e⟩:=List.mem_map.mp hm
 by_cases q:(k'==NameKind.free&&env.scope.kind==.function&&env.kindOf n==some .cell)=true
 . simp only [q,if_true] at e
   cases e
   have:k'=.free:=by
    simp only [Bool.and_eq_true,beq_iff_eq] at q
    exact q.1.1
   subst this
   exact hy
 . simp only [q,if_false,Bool.false_eq_true] at e
   cases e
   rcases hk with rfl | rfl
   . exact absurd rfl (hc _ hy)
   . exact hy
noncomputable def lift (ix:List (Option Nat)) (σ:St):St:=ix.map λ o=>match o with
 | none=>none
 | some i=>match σ[i]? with
  | some v=>v
  | none=>none
structure bD (X:Cx) (scope:Scope) (N:List Str) (ix:List (Option Nat)):Prop where
 kind:scope.kind=.function
 nocell:∀ y∈scope.names,y.2≠.cell
 locs:∀ y∈scope.names,y.2=.local->scope.names.lookup y.1=some .local
 free:∀ y∈scope.names,y.2=.free->X.env.kindOf y.1=some .cell∨X.env.kindOf y.1=some .free
 len:ix.length=N.length
 nd:N.Nodup
 from':∀ j i:Nat,ix[j]?=some (some i)->∃ x,N[j]?=some x/\X.N[i]?=some x/\(X.env.kindOf x=some .cell∨X.env.kindOf x=some .free)/\((relabel scope X.env).names.lookup x=some .cell∨(relabel scope X.env).names.lookup x=some .free)
noncomputable def bE (X:Cx) (scope:Scope) (N:List Str) (s₀:Shared) (H₀:Hp) (C:Addr) (ex:List Addr):Cx where
 prog:=X.prog
 w:=X.w
 K:=X.K
 mg:=X.mg
 base:=X.base
 A:=X.A
 N:=N
 s₀:=s₀
 H₀:=H₀
 env:=compEnvC scope (tH scope X.env) C X.env
 outer:=X.stack
 stack:=X.stack
 ex:=ex
 fn:=λ _=>false
 calm:=X.calm
 pn:=[]
 xe:=λ _ _=>False
section
variable {X:Cx} {pins:List (Addr×Obj)} {σ:St} {H:Hp} {s:Shared} {scope:Scope} {N:List Str} {ix:List (Option Nat)}
theorem bD.cells (S:bD X scope N ix) (I:aI X pins σ H s):∀ y∈scope.names,y.2=.free->∃ c,X.env.cells.lookup y.1=some c:=λ y hy hk=>I.ok.has y.1 (S.free y hy hk)
theorem bD.sub (S:bD X scope N ix) (I:aI X pins σ H s) {x:Str} {c:Addr} (h:(tH scope X.env).lookup x=some c):X.env.cells.lookup x=some c:=
 ka scope.names [] (S.cells I) (λ d h=>by simp at h) h
theorem bD.start (S:bD X scope N ix) (I:aI X pins σ H s) {fp:List Addr} {C D:Addr} {h':Heap} {tk:Nat} (hf:∀ b∈fp,j2 X pins H b) (hfo:∀ b∈fp,∃ o,s.heap.get? b=some o) (hD:D=s.heap.objs.size) (hC:s.heap.objs.size<C)
 (k:∀ b o,s.heap.get? b=some o->h'.get? b=some o) (hn:h'.Ns C λ _=>none):aI (bE X scope N s H C (D::fp)) [] (lift ix σ) H { s with heap:=h',toks:=tk }:=by
 have ltC:∀ x c,X.env.cells.lookup x=some c->c<s.heap.objs.size:=λ x c e=>let ⟨v,q⟩:=I.cell x c e;q.lt
 refine ⟨⟨I.ok.mod,S.kind,I.ok.glob,I.ok.blt,Nat.le_of_lt hC,λ x y c h1 h2=>I.ok.inj x y c (S.sub I h1) (S.sub I h2),λ x hx=>?_,λ x c z=>?_,I.ok.hd,I.ok.frames,.inl rfl,λ b hb=>?_,I.bs,Nat.le_trans I.ok.bsz I.sz,λ b o e hb=>?_,λ b hb hb'=>?_,I.stack,I.stkFree⟩,
  rfl,I.bare,Un.kept k,⟨_,hn,λ j x v e1 e2 e3=>?_⟩,λ x c e=>?_,I.hok.fresh (Nat.le_of_lt hC),λ x c e=>I.freeC x c (S.sub I e),λ p hp=>absurd (show p∈([]:List (Addr×Obj)) from hp) (by simp),I.hok.kept k,?_⟩
 . have hx:(relabel scope X.env).names.lookup x=some .cell∨(relabel scope X.env).names.lookup x=some .free:=hx
   have hm:(x,NameKind.free)∈scope.names:=by
    rcases hx with h | h
    . exact fN h (.inl rfl) S.nocell
    . exact fN h (.inr rfl) S.nocell
   exact lV _ _ (.inl hm)
 . cases z
 . rcases List.mem_cons.mp hb with e | hb
   . subst e
     subst hD
     exact ⟨Nat.ne_of_lt hC,λ x c e z=>absurd (ltC x c (S.sub I e)) (by rw [z];exact Nat.lt_irrefl _)⟩
   . obtain ⟨o,e⟩:=hfo b hb
     exact ⟨Nat.ne_of_lt (Nat.lt_trans (Heap.lt_size e) hC),λ x c e=>(hf b hb).2.2.2.2.1 x c (S.sub I e)⟩
 . have lb:=Nat.lt_of_lt_of_le (Heap.lt_size e) I.ok.bsz
   rcases List.mem_cons.mp hb with z | hb
   . subst z
     subst hD
     exact absurd (Nat.lt_of_lt_of_le lb I.sz) (Nat.lt_irrefl _)
   . rcases (hf b hb).2.2.2.1 with z | z
     . exact I.ok.noex b o e z
     . exact absurd (Nat.lt_of_lt_of_le lb z) (Nat.lt_irrefl _)
 . have hs:=I.stkSub b hb'
   rcases List.mem_cons.mp hb with z | hb
   . subst z
     subst hD
     rcases List.mem_cons.mp hs with z | z
     . exact absurd I.lt (by rw [<-z];exact Nat.lt_irrefl _)
     . exact I.nofs (Nat.le_refl _) z
   . rcases List.mem_cons.mp hs with z | z
     . exact (hf b hb).2.1 z
     . exact (hf b hb).2.2.1 z
 . unfold lift at e2
   rw [List.getElem?_map] at e2
   cases q:ix[j]? with
   | none=>rw [q] at e2;cases e2
   | some o=>
    rw [q] at e2
    cases o with
    | none=>cases e2
    | some i=>
     obtain ⟨y,f1,f2,f3,f4⟩:=S.from' j i q
     have e1':N[j]?=some x:=e1
     rw [f1] at e1'
     cases e1'
     simp only [Option.map_some,Option.some.injEq] at e2
     cases q2:σ[i]? with
     | none=>rw [q2] at e2;cases e2
     | some w=>
      rw [q2] at e2
      simp only at e2
      subst e2
      obtain ⟨m,hm,hl⟩:=I.loc
      have vis:FX X.env.scope x:=by
       rcases f3 with z | z
       . exact .inr (.inl z)
       . exact .inr (.inr z)
      obtain ⟨u,r,l⟩:=hl i x v f2 q2 vis
      refine ⟨u,r,.inr ⟨f4,?_⟩⟩
      rcases l with ⟨l1,_⟩ | ⟨_,c,hc,hcell⟩
      . rw [l1] at f3
        rcases f3 with z | z <;> cases z
      . have hmf:(x,NameKind.free)∈scope.names:=by
         rcases f4 with h | h
         . exact fN h (.inl rfl) S.nocell
         . exact fN h (.inr rfl) S.nocell
        obtain ⟨d,hd⟩:=lV (cells:=X.env.cells) scope.names [] (.inl hmf)
        have hd':=S.sub I hd
        rw [hc] at hd'
        cases hd'
        refine ⟨c,hd,?_⟩
        obtain ⟨o,ho,hod⟩:=hcell
        exact ⟨o,k _ _ ho,hod⟩
 . obtain ⟨v,o,ho,hod⟩:=I.cell x c (S.sub I e)
   exact ⟨v,o,k _ _ ho,hod⟩
 . show (lift ix σ).length=N.length
   unfold lift
   rw [List.length_map,S.len]
end
theorem iz {prog:Program} {w:World} {A:Around} {R:Result->Shared->Prop} {s:Shared} {elt target iter:Expr} {ifs:List Expr} {scope:Scope} {pos:Pos} {it acc:Value} {env:Env} (I:Nat->Shared->Prop)
 (turn:∀ n s,I n s->wpAny (model prog w) A (pyNext it) (λ r s₁=>match r with
  | none=>R (.ok .next) s₁
  | some v=>wpAny (model prog w) A (letOwnedTupleGo target it v) (λ _ s₁'=>wpAny (model prog w) A (assign target env v) (λ _ s₂=>
   wpAny (model prog w) A (forIn ifs true λ c r=>if r=true then do let ok <-isTrue c env (eval c env);pure (ForInStep.yield ok) else pure (ForInStep.yield r)) (λ ok s₃=>
    if ok=true then wpAny (model prog w) A (eval elt env) (λ x s₄=>
     wpAny (model prog w) A (call (.builtin "list.append") [acc,x]) (λ _ s₅=>∃ m,m<n/\I m s₅) (λ _ _=>False) s₄) (λ _ _=>False) s₃
    else ∃ m,m<n/\I m s₃) (λ _ _=>False) s₂) (λ _ _=>False) s₁') (λ _ _=>False) s₁) (λ _ _=>False) s)
 (n:Nat) (h:I n s):
 codeAny (model prog w) A (.compLoop (.ListComp elt [⟨target,iter,ifs,0⟩] scope pos) 0 it acc env) R s:=by
 refine codeAny_loop rfl I (λ n s hI=>?_) n h
 show wpAny _ A ((compTurn (.ListComp elt [⟨target,iter,ifs,0⟩] scope pos) 0 it acc env).onRaise (λ x=>do noteFrame x env;theTreesLotGoes x)) _ _ s
 refine wpAny_noted ?_
 rw [compTurn_list]
 refine wpAny_bind (wpAny_standAt (wpAny_bind (wpAny_mono (turn n s hI) (λ r s₁ h₁=>?_) λ _ _ h'=>h'.elim)))
 cases r with
 | none=>exact wpAny_pure h₁
 | some v=>
  refine wpAny_bind (wpAny_mono h₁ (λ _ s₁' h₁'=>?_) λ _ _ h'=>h'.elim)
  refine wpAny_bind (wpAny_mono h₁' (λ _ s₂ h₂=>wpAny_bind (wpAny_mono h₂ (λ ok s₃ h₃=>?_) λ _ _ h'=>h'.elim)) λ _ _ h'=>h'.elim)
  cases ok with
  | false=>exact wpAny_pure ⟨rfl,h₃⟩
  | true=>
   exact wpAny_bind (wpAny_bind (wpAny_mono h₃ (λ x s₄ h₄=>wpAny_bind (wpAny_mono h₄ (λ _ s₅ h₅=>wpAny_pure (wpAny_pure ⟨rfl,h₅⟩)) λ _ _ h'=>h'.elim)) λ _ _ h'=>h'.elim))
noncomputable def qR (X:Cx) (ifs:List Expr) (t:TT):Prop:=
 ∀ (pins:List (Addr×Obj)) (s:Shared) (σ:St) (H:Hp) (Q:Bool->Hp->Prop),aI X pins σ H s->t σ H Q->
  wpAny (model X.prog X.w) X.A (forIn ifs true λ c r=>if r=true then do let ok <-isTrue c X.env (eval c X.env);pure (ForInStep.yield ok) else pure (ForInStep.yield r)) (TP X pins σ Q) X.xe s
noncomputable def Eh:TT:=λ _ H Q=>Q true H
theorem Dt {X:Cx}:qR X [] Eh:=λ _ _ _ H _ I h=>wpAny_tests_nil ⟨H,I,h⟩
theorem DJ {X:Cx} {c:Expr} {t:TT} (h:PT X c t):qR X [c] t:=λ pins s σ H Q I q=>wpAny_tests_one (h pins s σ H Q I q)
noncomputable def zL (σ σ':St):Prop:=σ.length=σ'.length/\∀ (i:Nat) (v:V),σ[i]?=some (some v)->σ'[i]?=some (some v)
theorem zL.refl (σ:St):zL σ σ:=⟨rfl,λ _ _ h=>h⟩
theorem zL.set {σ σ':St} {j:Nat} {v:V} (e:zL σ σ') (h:σ[j]?=some none):zL σ (σ'.set j (some v)):=by
 refine ⟨by rw [List.length_set];exact e.1,λ i u q=>?_⟩
 have hne:j≠i:=λ z=>by subst z;rw [h] at q;cases q
 rw [List.getElem?_set_ne hne]
 exact e.2 i u q
theorem tm {ix:List (Option Nat)} {σ:St} {j:Nat} (h:ix[j]?=some none):(lift ix σ)[j]?=some none:=by
 unfold lift
 rw [List.getElem?_map,h]
 rfl
noncomputable def lq (ix:List (Option Nat)) (g:TG):Prop:=∀ (v:V) (σ:St) (H:Hp) (Q:St->Hp->Prop),g v (lift ix σ) H Q->g v (lift ix σ) H λ σ2 H2=>Q σ2 H2/\zL (lift ix σ) σ2
theorem AD {ix:List (Option Nat)} {j:Nat} (h:ix[j]?=some none):lq ix (jU j):=λ v σ H Q q=>⟨q,(zL.refl _).set (tm h)⟩
noncomputable def lr (ix:List (Option Nat)) (wi:TI) (g:TG) (tc:TT) (te:TE):TE:=λ σ H Q=>wi σ H λ J H1=>∃ W:Nat->Nat->List V->Hp->Prop,(∃ m,W 0 m [] H1)/\∀ i m ys H,W i m ys H->
 (J.stop i H/\ys.length<=sizeLine/\∀ p,H p=none->Q (.ref p) (cq H p (.lst ys)))∨
 (J.go i H/\ys.length<sizeLine/\∃ N:List V->Hp->Prop,(∀ ys' H',N ys' H'->∃ m',m'<m/\W (i+1) m' ys' H')/\∀ x H',J.yld i H x H'->g x (lift ix σ) H' λ σ2 H2=>tc σ2 H2 λ b H3=>if b=true then te σ2 H3 λ v H4=>N (ys++[v]) H4 else N ys H3)
theorem wI {X:Cx} {pins pins':List (Addr×Obj)} {σ σ':St} {H2 H':Hp} {s2 s4:Shared} {scope:Scope} {N:List Str} {C D:Addr} {fp:List Addr} {h':Heap} {ys:List V} {its:List Value} {n:Nat}
 (I2:aI X pins σ H2 s2) (I':aI (bE X scope N s2 H2 C (D::fp)) pins' σ' H' s4) (f2:∀ b∈fp,j2 X pins H2 b) (hD:D=s2.heap.objs.size) (hC:s2.heap.objs.size<C) (hDC:D≠C)
 (hs:Heap.SameBut C s4.heap h') (eD:s4.heap.get? D=some { cls:=.type "list", data:=.seq its.toArray n }) (fD:H' D=none) (rv:bf ys its) (hz:ys.length<=sizeLine):
 aI X pins σ (cq H' D (.lst ys)) { s4 with heap:=h' }:=by
 have lt:∀ b o,s2.heap.get? b=some o->b≠D/\b≠C:=λ b o e=>
  ⟨by rw [hD];exact Nat.ne_of_lt (Heap.lt_size e),Nat.ne_of_lt (Nat.lt_trans (Heap.lt_size e) hC)⟩
 have nex:∀ b o,s2.heap.get? b=some o->b∉fp->b∉D::fp:=λ b o e hb z=>by
  rcases List.mem_cons.mp z with z | z
  . exact (lt b o e).1 z
  . exact hb z
 have nD:∀ b u,H' b=some u->b≠D:=λ b u e=>bv e fD
 have nC:∀ b u,H' b=some u->b≠C:=λ b u e=>bv e I'.free
 have u:=I'.base
 refine I2.call' (ch:=fp) (show s4.os=s2.os from I'.os) ⟨λ b o e n hb hx=>?_,λ b o e n hb hx=>?_,λ b o e n hx=>?_,λ b o e hx=>?_,λ b xs e=>?_,λ b o xs e=>?_,λ b ps e=>?_⟩ (λ b o e=>?_) I'.bare λ b hb=>⟨(f2 b hb).2.2.2.1,(f2 b hb).2.1,(f2 b hb).2.2.2.2.1,(f2 b hb).2.2.2.2.2⟩
 . exact (hs.2 b (lt b o e).2).trans (u.keep b o e n hb (nex b o e hx))
 . obtain ⟨sl,q⟩:=u.slot b o e n hb (nex b o e hx)
   exact ⟨sl,(hs.2 b (lt b o e).2).trans q⟩
 . rw [aD (lt b o e).1]
   exact u.free b o e n (nex b o e hx)
 . obtain ⟨o',q⟩:=u.there b o e (nex b o e hx)
   exact ⟨o',(hs.2 b (lt b o e).2).trans q⟩
 . have q:=u.tups b xs e
   rw [aD (nD b _ q)]
   exact q
 . have q:=u.frzs b o xs e
   rw [aD (nD b _ q)]
   exact q
 . obtain ⟨m,q⟩:=u.tbls b ps e
   exact ⟨m,by rw [aD (nD b _ q)];exact q⟩
 . by_cases hb:b=D
   . subst hb
     rw [aJ] at e
     cases e
     exact ⟨hz,its,n,rv,(hs.2 b hDC).trans eD⟩
   . rw [aD hb] at e
     refine (I'.hok b o e).stay (λ c v hc q=>(hs.2 c ?_).trans q) (λ c q=>by rw [aD (nD c _ q)];exact q) λ c xs q=>by rw [aD (nD c _ q)];exact q
     rcases hc with z | z
     . rw [z];exact nC b o e
     . exact nC c _ z
section
variable {X:Cx} {elt tg iter:Expr} {ifs:List Expr} {scope:Scope} {pos:Pos} {wi:TI} {g:TG} {tc:TT} {te:TE} {N:List Str} {ix:List (Option Nat)}
theorem mV {pins:List (Addr×Obj)} {σ:St} {Q:VK} {s2:Shared} {itv:Value} {Rr:Value->Addr->Result->Shared->Prop} (S:bD X scope N ix) (hc:X.calm=true) (hG:lq ix g)
 (hb:∀ (s₀:Shared) (H₀:Hp) (C:Addr) (ex:List Addr),PG (bE X scope N s₀ H₀ C ex) tg g/\qR (bE X scope N s₀ H₀ C ex) ifs tc/\PE (bE X scope N s₀ H₀ C ex) elt te)
 (h2:GZ X pins σ tg (λ J H1=>∃ W:Nat->Nat->List V->Hp->Prop,(∃ m,W 0 m [] H1)/\∀ i m ys H,W i m ys H->
  (J.stop i H/\ys.length<=sizeLine/\∀ p,H p=none->Q (.ref p) (cq H p (.lst ys)))∨
  (J.go i H/\ys.length<sizeLine/\∃ N:List V->Hp->Prop,(∀ ys' H',N ys' H'->∃ m',m'<m/\W (i+1) m' ys' H')/\∀ x H',J.yld i H x H'->g x (lift ix σ) H' λ σ2 H2=>tc σ2 H2 λ b H3=>if b=true then te σ2 H3 λ v H4=>N (ys++[v]) H4 else N ys H3)) itv s2)
 (hR:∀ (s4:Shared) (H':Hp) (D C:Addr) (m:Str->Option Value) (ys:List V),s4.heap.Ns C m->j2 X pins H' C->(∀ h',Heap.SameBut C s4.heap h'->aI X pins σ (cq H' D (.lst ys)) { s4 with heap:=h' })->aI X pins σ (cq H' D (.lst ys)) s4->D≠C->Q (.ref D) (cq H' D (.lst ys))->Rr (.ref D) C (.ok .next) s4):
 wpAny (model X.prog X.w) X.A (newList []) (λ acc s₃=>wpAny (model X.prog X.w) X.A (newFunctionEnv scope X.env.globals (tH scope X.env) [] X.env.qual none .none (some X.env)) (λ cenv s₄=>
  codeAny (model X.prog X.w) X.A (.compStart (.ListComp elt [⟨tg,iter,ifs,0⟩] scope pos) 0 itv acc { cenv with scope:=relabel scope X.env }) (Rr acc cenv.locals) s₄) X.xe s₃) X.xe s2:=by
 obtain ⟨it,fp,tn,J,H2,e,I2,T,st2,f2,W,⟨m0,w0⟩,turn⟩:=h2
 subst e
 have fo:∀ b∈fp,∃ o,s2.heap.get? b=some o:=λ b hb=>let ⟨o,e,_⟩:=T.obj _ _ st2 b hb;⟨o,e⟩
 refine wpAny_newObj_type (wpAny_newFunctionEnv S.nocell (by intro y hy;simp at hy) (λ h₁ hns₁ hsb₁=>?_) S.kind)
 dsimp only at hns₁ hsb₁ ⊢
 generalize hH2:s2.heap.push { cls:=.type "list", dict:=none,data:=.seq ([]:List Value).toArray }=HH at hns₁ hsb₁ ⊢
 have hC:HH.objs.size=s2.heap.objs.size+1:=by rw [<-hH2,Heap.size_push]
 generalize hCC:HH.objs.size=C at hns₁ hsb₁ hC ⊢
 generalize hDD:s2.heap.objs.size=D at hC ⊢
 have hlt:s2.heap.objs.size<C:=by rw [hDD,hC];exact Nat.lt_succ_self _
 have hDC:D≠C:=by rw [hC];exact Nat.ne_of_lt (Nat.lt_succ_self _)
 have old:∀ b o,s2.heap.get? b=some o->h₁.get? b=some o:=λ b o e=>
  hsb₁.extBut b o (Nat.ne_of_lt (Nat.lt_trans (Heap.lt_size e) hlt)) (Heap.get?_push_of_some _ (hH2▸Heap.get?_push_of_some _ e))
 have hacc:h₁.PlainList D #[]:=⟨_,hsb₁.extBut _ _ hDC (Heap.get?_push_of_some _ (hH2▸hDD▸Heap.get?_push_size _ rfl))⟩
 have hns₂:h₁.Ns C λ _=>none:=hns₁
 have I4:=S.start (tk:=s2.toks+([]:List (Str×Value)).length) I2 f2 fo hDD.symm hlt old hns₂
 obtain ⟨hg,hif,hel⟩:=hb s2 H2 C (D::fp)
 have stat:∀ {H':Hp},(∀ b∈D::fp,H' b=none)->∀ b∈D::fp,j2 (bE X scope N s2 H2 C (D::fp)) [] H' b:=λ hn b hb=>
  ⟨hn b hb,(I4.ok.exf b hb).1,I4.ok.exfs b hb,.inl hb,(I4.ok.exf b hb).2,λ p hp=>absurd (show p∈([]:List (Addr×Obj)) from hp) (by simp)⟩
 have sub:∀ b∈fp,b∈D::fp:=λ b hb=>List.mem_cons_of_mem _ hb
 have nDf:∀ b∈fp,b≠D:=λ b hb z=>by
  obtain ⟨o,e⟩:=fo b hb
  exact absurd (Heap.lt_size e) (by rw [z,hDD];exact Nat.lt_irrefl _)
 have free0:∀ b∈D::fp,H2 b=none:=λ b hb=>by
  rcases List.mem_cons.mp hb with z | hb
  . rw [z];exact I2.hok.fresh (Nat.le_of_eq hDD)
  . exact (f2 b hb).1
 have loop:∀ s₃:Shared,s₃={ s2 with heap:=h₁,toks:=s2.toks+([]:List (Str×Value)).length }->
  codeAny (model X.prog X.w) X.A (.compLoop (.ListComp elt [⟨tg,iter,ifs,0⟩] scope pos) 0 (.ref it) (.ref D) (compEnvC scope (tH scope X.env) C X.env))
   (Rr (.ref D) C) s₃:=by
  rintro s₃ rfl
  refine iz (λ n s'=>∃ i H' ys its,aI (bE X scope N s2 H2 C (D::fp)) [] (lift ix σ) H' s'/\tn i s'.heap/\(∀ b∈D::fp,H' b=none)/\s'.heap.PlainList D (List.toArray its)/\bf ys its/\W i n ys H') ?_ m0
   ⟨0,H2,[],[],I4,T.keep _ _ _ st2 λ b _ o e=>old b o e,free0,hacc,.nil,w0⟩
  rintro n s3 ⟨i,H3,ys,its,I3,st3,fr3,pl3,rv3,w3⟩
  obtain ⟨kk,plE⟩:=pl3
  have pinD:∀ {pp:List (Addr×Obj)} {σ':St} {H':Hp} {s':Shared},aI (bE X scope N s2 H2 C (D::fp)) pp σ' H' s'->H' D=none->s'.heap.get? D=some { cls:=.type "list", data:=.seq its.toArray kk }->
   aI (bE X scope N s2 H2 C (D::fp)) [(D,{ cls:=.type "list", data:=.seq its.toArray kk })] σ' H' s':=λ {pp σ' H' s'} J f e=>J.pins_of λ p hp=>by
   have z:p=(D,{ cls:=.type "list", data:=.seq its.toArray kk }):=by simpa using hp
   subst z
   exact ⟨e,f,(J.ok.exf D List.mem_cons_self).1,J.ok.exfs D List.mem_cons_self,λ v z=>by cases z⟩
  have fpD:∀ {H':Hp},(∀ b∈D::fp,H' b=none)->∀ b∈fp,j2 (bE X scope N s2 H2 C (D::fp)) [(D,{ cls:=.type "list", data:=.seq its.toArray kk })] H' b:=λ hn b hb=>by
   obtain ⟨a1,a2,a3,a4,a5,a6⟩:=stat hn b (sub b hb)
   refine ⟨a1,a2,a3,a4,a5,λ p hp=>?_⟩
   have z:p=(D,{ cls:=.type "list", data:=.seq its.toArray kk }):=by simpa [bE] using hp
   subst z
   exact (nDf b hb).symm
  have frD:H3 D=none:=fr3 D List.mem_cons_self
  rcases turn i n ys H3 w3 with ⟨stop,hz,qn⟩ | ⟨go,hz,NN,hN,step⟩
  . refine bK (T.done (bE X scope N s2 H2 C (D::fp)) rfl rfl rfl hc i _ s3 _ H3 (λ _ _=>False) (pinD I3 frD plE) (fpD fr3) st3 stop) λ r s4 ⟨hr,I4'⟩=>?_
    subst hr
    obtain ⟨m,hm,_⟩:=I4'.loc
    have eD:=(I4'.pin (D,_) (List.mem_append_right _ List.mem_cons_self)).1
    have fin:∀ h',Heap.SameBut C s4.heap h'->aI X pins σ (cq H3 D (.lst ys)) { s4 with heap:=h' }:=λ h' hs'=>wI I2 I4' f2 hDD.symm hlt hDC hs' eD frD rv3 hz
    have hC0:s2.heap.objs.size<=C:=Nat.le_of_lt hlt
    have fC:j2 X pins H3 C:=by
     have q:=I2.fpOk (H':=H3) hC0 I4'.free
     exact q
    exact hR s4 H3 D C m ys hm fC fin (by simpa using fin s4.heap (Heap.SameBut.refl ..)) hDC (qn D frD)
  . refine bK (T.item (bE X scope N s2 H2 C (D::fp)) rfl rfl rfl hc i _ s3 _ H3 (λ _ _=>False) (pinD I3 frD plE) (fpD fr3) st3 go) λ r s4 ⟨u,hr,h4⟩=>?_
    subst hr
    refine bK h4 λ _ s5 hq0=>?_
    obtain ⟨x,H5,I5,r5,y5,st5,fr5⟩:=hq0
    have eD5:=(I5.pin (D,_) (List.mem_append_right _ List.mem_cons_self))
    have fr5':∀ b∈D::fp,H5 b=none:=λ b hb=>by
     rcases List.mem_cons.mp hb with z | hb
     . rw [z];exact eD5.2.1
     . exact fr5 b hb
    have I5':aI (bE X scope N s2 H2 C (D::fp)) ([]++jK (D::fp) s5.heap) (lift ix σ) H5 s5:=(I5.unpinned (pins:=[]) (pl:=[_])).pinned (stat fr5') λ b hb=>by
     rcases List.mem_cons.mp hb with z | hb
     . rw [z];exact ⟨_,eD5.1,λ v z=>by cases z⟩
     . exact T.obj _ _ st5 b hb
    have back:∀ {σ7:St} {H7:Hp} {s7:Shared},aI (bE X scope N s2 H2 C (D::fp)) ([]++jK (D::fp) s5.heap) σ7 H7 s7->zL (lift ix σ) σ7->
     aI (bE X scope N s2 H2 C (D::fp)) [] (lift ix σ) H7 s7/\tn (i+1) s7.heap/\(∀ b∈D::fp,H7 b=none)/\s7.heap.get? D=some { cls:=.type "list", data:=.seq its.toArray kk }:=λ {σ7 H7 s7} I7 ex=>by
     have keepAt:∀ b∈D::fp,∀ o,s5.heap.get? b=some o->s7.heap.get? b=some o/\H7 b=none:=λ b hb o e=>
      ⟨(I7.pin (b,o) (List.mem_append_right _ (List.mem_append_right _ (gD hb e)))).1,(I7.pin (b,o) (List.mem_append_right _ (List.mem_append_right _ (gD hb e)))).2.1⟩
     refine ⟨I7.unpinned.weak ex.1 ex.2,T.keep _ _ _ st5 λ b hb o e=>(keepAt b (sub b hb) o e).1,λ b hb=>?_,(keepAt D List.mem_cons_self _ eD5.1).1⟩
     rcases List.mem_cons.mp hb with z | hb'
     . rw [z];exact (keepAt D List.mem_cons_self _ eD5.1).2
     . obtain ⟨o,e,_⟩:=T.obj _ _ st5 b hb'
       exact (keepAt b hb o e).2
    refine bK (hg _ s5 _ H5 x u _ I5' r5 (hG _ _ _ _ (step x H5 y5))) λ _ s6 hq0=>?_
    obtain ⟨σ6,H6,I6,q6,ex6⟩:=hq0
    refine bK (hif _ s6 σ6 H6 _ I6 q6) λ ok s7 hq0=>?_
    obtain ⟨H7,I7,q7⟩:=hq0
    cases ok with
    | false=>
     rw [if_neg Bool.false_ne_true] at q7 ⊢
     obtain ⟨m',hm,w7⟩:=hN _ _ q7
     obtain ⟨J1,J2,J3,J4⟩:=back I7 ex6
     exact ⟨m',hm,i+1,H7,ys,its,J1,J2,J3,⟨_,J4⟩,rv3,w7⟩
    | true=>
     rw [if_pos rfl] at q7 ⊢
     refine bK (hel _ s7 σ6 H7 _ I7 q7) λ uv s8 hq0=>?_
     obtain ⟨y,H8,I8,r8,q8⟩:=hq0
     obtain ⟨m',hm,w8⟩:=hN _ _ q8
     obtain ⟨J1,J2,J3,J4⟩:=back I8 ex6
     refine wpAny_list_append_plain (hsz:=by rw [List.size_toArray,<-rv3.length];exact Nat.le_of_lt hz) ⟨_,J4⟩ λ h₉ hl₉ hs₉=>?_
     obtain ⟨a1,a2,a3,a4,a5,a6⟩:=stat J3 D List.mem_cons_self
     refine ⟨m',hm,i+1,H8,ys++[y],its++[uv],J1.turned (t':=s8.toks) (λ b o hb e=>hs₉.extBut b o hb e) a1 a2 a4 a5 a6,T.keep _ _ _ J2 λ b hb o e=>hs₉.extBut b o (nDf b hb) e,J3,by simpa using hl₉,rv3.append (.cons r8 .nil),w8⟩
 exact codeAny_compStart_list (loop _ rfl) (T.self _ 0 _ _ _ (T.keep _ _ _ st2 λ b _ o e=>old b o e) (loop _ rfl))
theorem yP (S:bD X scope N ix) (hc:X.calm=true) (hi:PI X tg iter wi) (hG:lq ix g)
 (hb:∀ (s₀:Shared) (H₀:Hp) (C:Addr) (ex:List Addr),PG (bE X scope N s₀ H₀ C ex) tg g/\qR (bE X scope N s₀ H₀ C ex) ifs tc/\PE (bE X scope N s₀ H₀ C ex) elt te)
 (hs:∀ x,foldedSetIterable iter X.env x=pure x:=by intro _;rfl):PE X (.ListComp elt [⟨tg,iter,ifs,0⟩] scope pos) (lr ix wi g tc te):=by
 intro pins s σ H Q I h
 rw [eval_ListComp]
 refine wpAny_comprehension_free (use:=none) rfl hs (lW (S.cells I)) S.kind S.locs ?_
 refine bK (hi pins s σ H _ I h) λ v s1 h1=>bK h1 λ itv s2 h2=>?_
 refine mV (Rr:=λ acc C=>compPost (model X.prog X.w) X.A X.xe none (EP X pins σ Q) acc C) S hc hG hb h2 ?_
 intro s4 H' D C m ys hm _ fin _ _ q
 exact ⟨m,hm,λ h' hs'=>⟨.ref D,_,fin h' hs',rfl,q⟩⟩
theorem xT {y:Str} {py spos:Pos} {i:Nat} (hN:X.N.Nodup) (hi:X.N[i]?=some y) (hy:At X.env.scope y) (S:bD X scope N ix) (hc:X.calm=true) (hit:PI X tg iter wi) (hG:lq ix g)
 (hb:∀ (s₀:Shared) (H₀:Hp) (C:Addr) (ex:List Addr),PG (bE X scope N s₀ H₀ C ex) tg g/\qR (bE X scope N s₀ H₀ C ex) ifs tc/\PE (bE X scope N s₀ H₀ C ex) elt te)
 (hsw:swapsWith (.ListComp elt [⟨tg,iter,ifs,0⟩] scope pos) (some (.Name y py)) spos.line X.env=pure true:=by rfl) (hs:∀ x,foldedSetIterable iter X.env x=pure x:=by intro _;rfl)
 (hf:X.fn y=true∨X.env.scope.names.lookup y=some .local:=by first | exact .inl rfl | exact .inr rfl | assumption):
 PS X (.Assign [.Name y py] (.ListComp elt [⟨tg,iter,ifs,0⟩] scope pos) spos) (rp (lr ix wi g tc te) (jU i)):=by
 intro pins s σ H D0 I h
 rw [exec_Assign_Name_used _ _ _ _ hsw]
 refine wpAny_bind (wpAny_standAt (wpAny_bind ?_))
 show wpAny _ X.A (do let _ <-comprehension (.ListComp elt [⟨tg,iter,ifs,0⟩] scope pos) scope X.env _ (newList []) false (eval iter X.env) (some (assign (.Name y py) X.env))) _ _ s
 refine wpAny_bind (wpAny_mono (wpAny_comprehension_free (use:=some (assign (.Name y py) X.env)) (Q:=λ _ s'=>SP X pins D0 .next s') rfl hs (lW (S.cells I)) S.kind S.locs ?_) (λ _ s' hq=>wpAny_pure (wpAny_pure hq)) λ _ _ e=>e)
 refine bK (hit pins s σ H _ I h) λ v s1 h1=>bK h1 λ itv s2 h2=>?_
 refine mV (Q:=λ x H1=>jU i x σ H1 D0.nx) (Rr:=λ acc C=>compPost (model X.prog X.w) X.A X.xe (some (assign (.Name y py) X.env)) (λ _ s'=>SP X pins D0 .next s') acc C) S hc hG hb h2 ?_
 intro s4 H' D C m ys hm fC _ I4 hDC q
 show wpAny _ X.A (assign (.Name y py) X.env (.ref D)) _ _ _
 obtain ⟨c0,c1,c2,c3,c4,c5⟩:=fC
 refine wpAny_assign_Name (nu (v:=.ref D) I4 hN hi hy rfl (λ s5 I5 hsb=>?_) hf)
 obtain ⟨a,hsa,ha⟩:=hsb
 have haC:C≠a:=by
  rcases ha with z | z
  . rw [z];exact c1
  . exact λ e=>c4 y a z e.symm
 refine ⟨m,hm.sameBut hsa haC,λ h' hs'=>?_⟩
 have hCn:(cq H' D (.lst ys)) C=none:=by rw [aD hDC.symm];exact c0
 exact ⟨_,_,I5.turned (t':=s5.toks) (λ b o hb e=>hs'.extBut b o hb e) hCn c1 c3 c4 c5,q⟩
end
noncomputable def Gq (K:Frag) (a b:Addr):It:=
 ⟨λ i H=>∃ xs ys x y,cY K H a xs/\cY K H b ys/\xs[i]?=some x/\ys[i]?=some y,
  λ i H v H'=>∃ p x y,H p=none/\v=.ref p/\H'=cq H p (.tup [x,y])/\(∀ xs,cY K H a xs->xs[i]?=some x)/\∀ ys,cY K H b ys->ys[i]?=some y,
  λ i H=>∃ xs ys,cY K H a xs/\cY K H b ys/\(xs.length<=i∨ys.length<=i)⟩
theorem aI.turnedL {X:Cx} {pins:List (Addr×Obj)} {σ:St} {H:Hp} {s:Shared} {h':Heap} {t':Nat} {ch:List Addr} (I:aI X pins σ H s) (hf:∀ b∈ch,j2 X pins H b) (k:∀ b o,b∉ch->s.heap.get? b=some o->h'.get? b=some o):
 aI X pins σ H { s with heap:=h',toks:=t' }:=by
 have wZ:∀ c t,H c=some t->c∉ch:=λ c t e hc=>by rw [(hf c hc).1] at e;cases e
 refine I.step (g':=s.gens) (d':=s.drawn) (ch:=ch) (λ c hc=>⟨(hf c hc).2.2.2.1,(hf c hc).2.1,(hf c hc).2.2.2.2.1,(hf c hc).2.2.2.2.2⟩) (λ c o _ _ hc e _=>k c o hc e) (λ c o _ _ hc e _=>⟨o.slots,k c o hc e⟩) (λ _ _ _ _ n=>n) (λ c o hc e=>⟨o,k c o hc e⟩)
  (λ _ _ e=>e) (λ _ _ _ e=>e) (λ c ps e=>⟨#[],by rw [e];simp⟩) (λ m hm=>?_) (λ c t e=>?_) I.bare
 . obtain ⟨o,es,ep,ho,r⟩:=hm
   exact ⟨o,es,ep,k _ o (λ hc=>(hf _ hc).2.1 rfl) ho,r⟩
 . refine (I.hok c t e).stay (λ d o hd q=>k d o ?_ q) (λ _ q=>q) λ _ _ q=>q
   rcases hd with hd | hd
   . rw [hd];exact wZ c t e
   . exact wZ d _ hd
theorem mE {h:Heap} {a b z TI TO i1 i2:Addr} {u0 v0:Value} {i:Nat} {its jts:Array Value} (h12:i1≠i2) (hT:TI≠TO) (e1:IsZip h z TI TO .none) (e2:IsPair h TI (.ref i1) (.ref i2)) (e3:IsPair h TO u0 v0) (e4:h.IsListIter i1 a i) (e5:h.IsListIter i2 b i)
 (px:PlainL h a its) (py:PlainL h b jts):ZipApart z TI TO i1 i2 a b:=by
 obtain ⟨o4,g4,c4,_⟩:=id e4
 obtain ⟨o5,g5,c5,_⟩:=id e5
 obtain ⟨oa,na,ga,ca,_⟩:=id px
 obtain ⟨ob,nb,gb,cb,_⟩:=id py
 have ne:∀ {p q:Addr} {o o':Obj},h.get? p=some o->h.get? q=some o'->o.cls≠o'.cls->p≠q:=λ h h' d z=>by
  subst z;rw [h] at h';cases h';exact d rfl
 exact ⟨ne e2 e1 (by simp),ne e3 e1 (by simp),ne g4 e1 (by rw [c4];simp),ne g5 e1 (by rw [c5];simp),hT,ne e2 g4 (by rw [c4];simp),ne e2 g5 (by rw [c5];simp),ne e3 g4 (by rw [c4];simp),ne e3 g5 (by rw [c5];simp),h12,
  ne ga e1 (by rw [ca];simp),ne ga e3 (by rw [ca];simp),ne ga g4 (by rw [ca,c4];simp),ne ga g5 (by rw [ca,c5];simp),ne gb e1 (by rw [cb];simp),ne gb e3 (by rw [cb];simp),ne gb g4 (by rw [cb,c4];simp),ne gb g5 (by rw [cb,c5];simp)⟩
theorem uV {P:Program} {w:World} {K:Frag} {elts:List Expr} {x1} {pos:Pos} (a b z TI TO i1 i2:Addr) (h12:i1≠i2) (hT:TI≠TO):
 uo P w K (.Tuple elts x1 pos) (Gq K a b) [z,TI,TO,i1,i2] z (λ i h=>IsZip h z TI TO .none/\IsPair h TI (.ref i1) (.ref i2)/\(∃ u v,IsPair h TO u v)/\h.IsListIter i1 a i/\h.IsListIter i2 b i) where
 mem:=by simp
 obj:=λ i h st c hc=>by
  obtain ⟨e1,e2,⟨u,v,e3⟩,⟨o4,e4,_,d4⟩,⟨o5,e5,_,d5⟩⟩:=st
  simp only [List.mem_cons,List.not_mem_nil,or_false] at hc
  rcases hc with rfl | rfl | rfl | rfl | rfl
  . exact ⟨_,e1,λ v z=>by cases z⟩
  . exact ⟨_,e2,λ v z=>by cases z⟩
  . exact ⟨_,e3,λ v z=>by cases z⟩
  . exact ⟨o4,e4,λ v z=>by rw [d4] at z;cases z⟩
  . exact ⟨o5,e5,λ v z=>by rw [d5] at z;cases z⟩
 keep:=λ i h h' st k=>by
  obtain ⟨e1,e2,⟨u,v,e3⟩,e4,e5⟩:=st
  exact ⟨k z (by simp) _ e1,k TI (by simp) _ e2,⟨u,v,k TO (by simp) _ e3⟩,e4.at λ o e=>k i1 (by simp) o e,e5.at λ o e=>k i2 (by simp) o e⟩
 item:=by
  intro X hP hw hK hc i pins s σ H E I hf st hg
  subst hP hw hK
  obtain ⟨xs,ys,x,y,qx,qy,hx,hy⟩:=hg
  obtain ⟨its,rvx,px,_⟩:=I.list qx
  obtain ⟨jts,rvy,py,_⟩:=I.list qy
  obtain ⟨u,hu,ru⟩:=rvx.get hx
  obtain ⟨v,hv,rv⟩:=rvy.get hy
  obtain ⟨e1,e2,⟨u0,v0,e3⟩,e4,e5⟩:=st
  have D:=mE h12 hT e1 e2 e3 e4 e5 px py
  refine wpAny_pyNext_zip_item D e1 e2 e3 e4 e5 px.isList py.isList (x:=u) (y:=v) (by simpa using hu) (by simpa using hv) λ h' a1 a2 a3 a4 a5 a6 a7=>?_
  refine ⟨_,rfl,wpAny_letOwnedTupleGo_zip (s:={ s with heap:=h' }) a1 λ h'' b1 b2=>?_⟩
  have hTn:H s.heap.objs.size=none:=I.hok.fresh (Nat.le_refl _)
  have big:∀ {c:Addr} {o:Obj},s.heap.get? c=some o->c≠s.heap.objs.size:=λ e=>Nat.ne_of_lt (Heap.lt_size e)
  have hTz:s.heap.objs.size≠z:=(big e1).symm
  have k2:∀ c o,c≠z->c≠TO->c≠i1->c≠i2->s.heap.get? c=some o->h''.get? c=some o:=λ c o c1 c2 c3 c4 e=>(b2.2 c c1).trans (a7 c o c1 c2 c3 c4 e)
  have eT:IsPair h'' s.heap.objs.size u v:=(b2.2 _ hTz).trans a5
  have fpz:=hf z (by simp)
  have fpO:=hf TO (by simp)
  have fp1:=hf i1 (by simp)
  have fp2:=hf i2 (by simp)
  have nin:∀ c,c∉[z,TO,i1,i2]->c≠z/\c≠TO/\c≠i1/\c≠i2:=λ c hc=>by
   simp only [List.mem_cons,List.not_mem_nil,or_false,not_or] at hc
   exact hc
  have inn:∀ c∈[z,TO,i1,i2],j2 X pins H c:=λ c hc=>by
   simp only [List.mem_cons,List.not_mem_nil,or_false] at hc
   rcases hc with rfl | rfl | rfl | rfl
   . exact fpz
   . exact fpO
   . exact fp1
   . exact fp2
  have wZ:∀ c t,H c=some t->c∉[z,TO,i1,i2]:=λ c t e hc=>by rw [(inn c hc).1] at e;cases e
  have I1:aI X pins σ (cq H s.heap.objs.size (.tup [x,y])) { s with heap:=h'',gens:=s.gens,drawn:=s.drawn,toks:=s.toks }:=by
   refine I.step (ch:=[z,TO,i1,i2]) (λ c hc=>⟨(inn c hc).2.2.2.1,(inn c hc).2.1,(inn c hc).2.2.2.2.1,(inn c hc).2.2.2.2.2⟩) (λ c o _ _ hc e _=>?_) (λ c o _ _ hc e _=>?_) (λ c o hc e n=>?_) (λ c o hc e=>?_) (λ c t e=>?_) (λ c o t e=>?_) (λ c ps e=>?_) (λ m hm=>?_) (λ c t e=>?_) I.bare
   . obtain ⟨c1,c2,c3,c4⟩:=nin c hc;exact k2 c o c1 c2 c3 c4 e
   . obtain ⟨c1,c2,c3,c4⟩:=nin c hc;exact ⟨o.slots,k2 c o c1 c2 c3 c4 e⟩
   . rw [aD (big e)];exact n
   . obtain ⟨c1,c2,c3,c4⟩:=nin c hc;exact ⟨o,k2 c o c1 c2 c3 c4 e⟩
   . rw [aD (bv e hTn)];exact e
   . rw [aD (bv e hTn)];exact e
   . exact ⟨#[],by rw [aD (bv e hTn),e];simp⟩
   . obtain ⟨o,es,ep,ho,r⟩:=hm
     obtain ⟨c1,c2,c3,c4⟩:=nin X.env.locals (λ hc=>(inn _ hc).2.1 rfl)
     exact ⟨o,es,ep,k2 _ o c1 c2 c3 c4 ho,r⟩
   . by_cases hcT:c=s.heap.objs.size
     . subst hcT
       rw [aJ] at e
       cases e
       exact ⟨by show 2<=sizeLine;decide,[u,v],.cons ru (.cons rv .nil),⟨_,eT,rfl,_,rfl⟩⟩
     . rw [aD hcT] at e
       refine (I.hok c t e).stay (λ d o hd q=>?_) (λ d q=>by rw [aD (bv q hTn)];exact q) λ d zs q=>by rw [aD (bv q hTn)];exact q
       have hd':d∉[z,TO,i1,i2]:=by
        rcases hd with hd | hd
        . rw [hd];exact wZ c t e
        . exact wZ d _ hd
       obtain ⟨c1,c2,c3,c4⟩:=nin d hd'
       exact k2 d o c1 c2 c3 c4 q
  refine ⟨.ref s.heap.objs.size,_,I1,rfl,⟨s.heap.objs.size,x,y,hTn,rfl,rfl,λ zs hz=>by rw [I.list_inj hz qx];exact hx,λ zs hz=>by rw [I.list_inj hz qy];exact hy⟩,
   ⟨b1,k2 _ _ D.TIz D.TITO D.TIi1 D.TIi2 e2,⟨u,v,(b2.2 _ D.TOz).trans a2⟩,a3.at λ o e=>(b2.2 _ D.i1z).trans e,a4.at λ o e=>(b2.2 _ D.i2z).trans e⟩,λ c hc=>?_⟩
  have hcn:∀ c∈[z,TI,TO,i1,i2],c≠s.heap.objs.size:=λ c hc=>by
   obtain ⟨o4,g4,_⟩:=id e4
   obtain ⟨o5,g5,_⟩:=id e5
   simp only [List.mem_cons,List.not_mem_nil,or_false] at hc
   rcases hc with rfl | rfl | rfl | rfl | rfl
   . exact big e1
   . exact big e2
   . exact big e3
   . exact big g4
   . exact big g5
  rw [aD (hcn c hc)]
  exact (hf c hc).1
 done:=by
  intro X hP hw hK hc i pins s σ H E I hf st hg
  subst hP hw hK
  obtain ⟨xs,ys,qx,qy,hl⟩:=hg
  obtain ⟨its,rvx,px,_⟩:=I.list qx
  obtain ⟨jts,rvy,py,_⟩:=I.list qy
  obtain ⟨e1,e2,⟨u0,v0,e3⟩,e4,e5⟩:=st
  have D:=mE h12 hT e1 e2 e3 e4 e5 px py
  have lx:=rvx.length
  have ly:=rvy.length
  refine wpAny_pyNext_zip_end (I.ok.hd hc) D e1 e2 e3 e4 e5 px.isList py.isList ?_ λ h' k=>⟨rfl,I.turnedL (t':=s.toks) (ch:=[z,TO,i1,i2]) (λ c hc=>hf c ?_) λ c o hc e=>?_⟩
  . rcases hl with hl | hl
    . exact .inl (by simp;omega)
    . exact .inr (by simp;omega)
  . simp only [List.mem_cons,List.not_mem_nil,or_false] at hc ⊢
    rcases hc with h | h | h | h
    . exact .inl h
    . exact .inr (.inr (.inl h))
    . exact .inr (.inr (.inr (.inl h)))
    . exact .inr (.inr (.inr (.inr h)))
  . simp only [List.mem_cons,List.not_mem_nil,or_false,not_or] at hc
    exact k c o hc.1 hc.2.1 hc.2.2.1 hc.2.2.2 e
 self:=λ _ _ _ _ _ st h=>wpAny_pyIter_zip st.1 h
noncomputable def Bh (K:Frag) (ta:TA):TI:=λ σ H R=>ta σ H λ vs H1=>∃ a b,vs=[.ref a,.ref b]/\(∃ xs,cY K H1 a xs)/\(∃ ys,cY K H1 b ys)/\R (Gq K a b) H1
theorem Cy {X:Cx} {elts:List Expr} {x1} {tpos:Pos} {a b:Expr} {ta:TA} {p pos:Pos} (hg:Gl X "zip") (hm:X.mg "zip" = none) (ha:PA X [a,b] ta) (hs:starEach [a,b] X.env=[(false,eval a X.env),(false,eval b X.env)]:=by rfl) (hs2:starEach [b] X.env=[(false,eval b X.env)]:=by rfl):
 PI X (.Tuple elts x1 tpos) (.Call (.Name "zip" p) [a,b] [] pos) (Bh X.K ta):=by
 intro pins s σ H R I h
 refine Call_ (lc I hg hm boot_zip (PyProof.Rows.callWith_type1 (bK (ha pos pins s σ H _ I h) λ us s1 hq0=>?_) (by rw [hs,hs2]) (by rw [hs2];rfl)))
 obtain ⟨vs,H1,I1,r1,q1⟩:=hq0
 obtain ⟨a,b,e,⟨xs,qx⟩,⟨ys,qy⟩,q⟩:=q1
 subst e
 cases r1 with
 | cons r rr=>
  cases rr with
  | cons r' rr=>
   cases rr
   cases r
   cases r'
   obtain ⟨its,rvx,px,_⟩:=I1.list qx
   obtain ⟨jts,rvy,py,_⟩:=I1.list qy
   refine call_zip_2 px.isList py.isList λ h' g5 g3 g4 g1 g2 z5 k=>?_
   refine wpAny_pyIter_zip (s:={ s1 with heap:=h' }) g5 ?_
   refine ⟨s1.heap.objs.size+4,[s1.heap.objs.size+4,s1.heap.objs.size+2,s1.heap.objs.size+3,s1.heap.objs.size,s1.heap.objs.size+1],_,_,H1,rfl,I1.kept (t':=s1.toks) k,uV a b _ _ _ _ _ (Nat.ne_of_lt (Nat.lt_succ_self _)) (Nat.ne_of_lt (Nat.lt_succ_self _)),⟨g5,g3,⟨_,_,g4⟩,g1,g2⟩,λ c hc=>?_,q⟩
   have hc':s1.heap.objs.size<=c:=by
    simp only [List.mem_cons,List.not_mem_nil,or_false] at hc
    rcases hc with h | h | h | h | h <;> subst h <;> first
     | exact Nat.le_refl _
     | exact Nat.le_add_right _ _
   exact I1.fpOk hc' (I1.hok.fresh hc')
noncomputable def Bb (T:String):Option Bool:=if T = "int" then some true else if T = "bool" then some false else if T = "str" then some false else if T = "list" then some false else if T = "tuple" then some false else if T = "dict" then some false else none
noncomputable def C3 (T:String):Option Bool:=if T = "int" then some true else if T = "bool" then some true else if T = "str" then some false else if T = "list" then some false else if T = "tuple" then some false else if T = "dict" then some false else none
noncomputable def CA (T:String):Option Bool:=if T = "int" then some false else if T = "bool" then some false else if T = "str" then some true else if T = "list" then some false else if T = "tuple" then some false else if T = "dict" then some false else none
noncomputable def wJ (v:V) (T:String):Option Bool:=match v with
 | .int _=>Bb T
 | .bl _=>C3 T
 | .str _=>CA T
 | _=>none
theorem w5 {X:Cx}:dJ X (.builtin "isinstance") (λ xs H Q=>∃ v T k,xs=[v,.ty T]/\wJ v T=some k/\Q (.bl k) H):=by
 intro pins s σ H xs us Q I r h
 obtain ⟨v,T,k,rfl,hk,q⟩:=h
 cases r with
 | cons r rr=>
  cases rr with
  | cons r' rr=>
   cases rr
   cases r'
   have fin:∀ {n:Option Bool} {T':String} {b:Bool},(if T=T' then some b else n)=some k->(T=T'/\b=k)∨n=some k:=λ {n T' b} h=>by
    by_cases e:T=T'
    . rw [if_pos e] at h
      cases h
      exact .inl ⟨e,rfl⟩
    . rw [if_neg e] at h
      exact .inr h
   cases v with
   | int i=>
    obtain ⟨t,rfl⟩:=r
    replace hk:Bb T=some k:=hk
    unfold Bb at hk
    rcases fin hk with ⟨rfl,rfl⟩ | hk
    . exact IsiPair.int_int ⟨.bl _,H,I,rfl,q⟩
    rcases fin hk with ⟨rfl,rfl⟩ | hk
    . exact IsiPair.int_bool ⟨.bl _,H,I.tok _,rfl,q⟩
    rcases fin hk with ⟨rfl,rfl⟩ | hk
    . exact IsiPair.int_str ⟨.bl _,H,I.tok _,rfl,q⟩
    rcases fin hk with ⟨rfl,rfl⟩ | hk
    . exact IsiPair.int_list ⟨.bl _,H,I.tok _,rfl,q⟩
    rcases fin hk with ⟨rfl,rfl⟩ | hk
    . exact IsiPair.int_tuple ⟨.bl _,H,I.tok _,rfl,q⟩
    rcases fin hk with ⟨rfl,rfl⟩ | hk
    . exact IsiPair.int_dict ⟨.bl _,H,I.tok _,rfl,q⟩
    cases hk
   | bl i=>
    cases r
    replace hk:C3 T=some k:=hk
    unfold C3 at hk
    rcases fin hk with ⟨rfl,rfl⟩ | hk
    . first | exact IsiPair.bool_int ⟨.bl _,H,I,rfl,q⟩ | exact IsiPair.bool_int ⟨.bl _,H,I.tok _,rfl,q⟩
    rcases fin hk with ⟨rfl,rfl⟩ | hk
    . first | exact IsiPair.bool_bool ⟨.bl _,H,I,rfl,q⟩ | exact IsiPair.bool_bool ⟨.bl _,H,I.tok _,rfl,q⟩
    rcases fin hk with ⟨rfl,rfl⟩ | hk
    . first | exact IsiPair.bool_str ⟨.bl _,H,I,rfl,q⟩ | exact IsiPair.bool_str ⟨.bl _,H,I.tok _,rfl,q⟩
    rcases fin hk with ⟨rfl,rfl⟩ | hk
    . first | exact IsiPair.bool_list ⟨.bl _,H,I,rfl,q⟩ | exact IsiPair.bool_list ⟨.bl _,H,I.tok _,rfl,q⟩
    rcases fin hk with ⟨rfl,rfl⟩ | hk
    . first | exact IsiPair.bool_tuple ⟨.bl _,H,I,rfl,q⟩ | exact IsiPair.bool_tuple ⟨.bl _,H,I.tok _,rfl,q⟩
    rcases fin hk with ⟨rfl,rfl⟩ | hk
    . first | exact IsiPair.bool_dict ⟨.bl _,H,I,rfl,q⟩ | exact IsiPair.bool_dict ⟨.bl _,H,I.tok _,rfl,q⟩
    cases hk
   | str i=>
    obtain ⟨t,rfl⟩:=r
    replace hk:CA T=some k:=hk
    unfold CA at hk
    rcases fin hk with ⟨rfl,rfl⟩ | hk
    . first | exact IsiPair.str_int ⟨.bl _,H,I,rfl,q⟩ | exact IsiPair.str_int ⟨.bl _,H,I.tok _,rfl,q⟩
    rcases fin hk with ⟨rfl,rfl⟩ | hk
    . first | exact IsiPair.str_bool ⟨.bl _,H,I,rfl,q⟩ | exact IsiPair.str_bool ⟨.bl _,H,I.tok _,rfl,q⟩
    rcases fin hk with ⟨rfl,rfl⟩ | hk
    . first | exact IsiPair.str_str ⟨.bl _,H,I,rfl,q⟩ | exact IsiPair.str_str ⟨.bl _,H,I.tok _,rfl,q⟩
    rcases fin hk with ⟨rfl,rfl⟩ | hk
    . first | exact IsiPair.str_list ⟨.bl _,H,I,rfl,q⟩ | exact IsiPair.str_list ⟨.bl _,H,I.tok _,rfl,q⟩
    rcases fin hk with ⟨rfl,rfl⟩ | hk
    . first | exact IsiPair.str_tuple ⟨.bl _,H,I,rfl,q⟩ | exact IsiPair.str_tuple ⟨.bl _,H,I.tok _,rfl,q⟩
    rcases fin hk with ⟨rfl,rfl⟩ | hk
    . first | exact IsiPair.str_dict ⟨.bl _,H,I,rfl,q⟩ | exact IsiPair.str_dict ⟨.bl _,H,I.tok _,rfl,q⟩
    cases hk
   | _=>cases hk
section
variable {X:Cx}
noncomputable def zD (i j:Int):Prop:=j≠0/\j.natAbs<2^512
theorem E7:gh X (binaryOp .FloorDiv) (rI zD λ i j=>.int (i.fdiv j)):=DN λ i j _ _ _ _ _ hc q=>floordiv_int hc.1 q (.inl (PyProof.noPylong_of_log2 (by
 by_cases h0:j.natAbs=0
 . rw [h0];decide +kernel
 . have:=(Nat.log2_lt h0).mpr hc.2
   omega)))
theorem Gc:gh X (binaryOp .Mod) (rI (λ _ j=>j≠0) λ i j=>.int (i.fmod j)):=yG
theorem boot_bool':bootBuiltins "bool" = some (.type "bool"):=by decide +kernel
theorem qE {scope:Scope} {N:List Str} {ix:List (Option Nat)} (kind:scope.kind=.function) (nocell:(scope.names.all λ y=>y.2 != .cell)=true) (locs:(scope.names.all λ y=>y.2 != .local||scope.names.lookup y.1==some .local)=true)
 (free:(scope.names.all λ y=>y.2 != .free||X.env.kindOf y.1==some .cell||X.env.kindOf y.1==some .free)=true) (len:ix.length=N.length) (nd:N.Nodup)
 (fr:((ix.zip N).all λ p=>match p.1 with
  | none=>true
  | some i=>X.N[i]?==some p.2&&(X.env.kindOf p.2==some .cell||X.env.kindOf p.2==some .free)&&((relabel scope X.env).names.lookup p.2==some .cell||(relabel scope X.env).names.lookup p.2==some .free))=true):bD X scope N ix:=by
 refine ⟨kind,λ y hy=>?_,λ y hy hl=>?_,λ y hy hf=>?_,len,nd,λ j i e=>?_⟩
 . have:=List.all_eq_true.mp nocell y hy
   simpa using this
 . have:=List.all_eq_true.mp locs y hy
   rw [hl] at this
   simpa using this
 . have:=List.all_eq_true.mp free y hy
   rw [hf] at this
   simpa using this
 . have hj:j<ix.length:=(oG e).1
   have hj':j<N.length:=by omega
   have hm:(ix.zip N)[j]?=some (some i,N[j]):=by
    rw [List.getElem?_zip_eq_some]
    exact ⟨e,by simp [hj']⟩
   have:=List.all_eq_true.mp fr _ (List.mem_of_getElem? hm)
   simp only [Bool.and_eq_true,Bool.or_eq_true,beq_iff_eq] at this
   exact ⟨N[j],by simp [hj'],this.1.1,this.1.2,this.2⟩
end
section
variable {K:Frag} {a b:Addr} {xs ys:List V} {wi:TI} {g:TG} {tb:TS} {D:gY} {σ:St} {H H1:Hp} {ix:List (Option Nat)} {tc:TT} {te:TE} {Q:VK}
end
mutual
inductive Dp (K:Frag) (H:Hp):V->PyData->Prop
 | non:Dp K H .non .none
 | bl (b:Bool):Dp K H (.bl b) (.bool b)
 | int (i:Int):Dp K H (.int i) (.int i)
 | str (x:Str):Dp K H (.str x) (.str x)
 | lst {a:Addr} {xs:List V} {ds:List PyData}:cY K H a xs->ki K H xs ds->Dp K H (.ref a) (.list ds)
 | tup {a:Addr} {xs:List V} {ds:List PyData}:fS K H a xs->ki K H xs ds->Dp K H (.ref a) (.tuple ds)
inductive ki (K:Frag) (H:Hp):List V->List PyData->Prop
 | nil:ki K H [] []
 | cons {v:V} {vs:List V} {d:PyData} {ds:List PyData}:Dp K H v d->ki K H vs ds->ki K H (v::vs) (d::ds)
end
theorem Dp.reads {X:Cx} {pins:List (Addr×Obj)} {σ:St} {H:Hp} {s:Shared} (I:aI X pins σ H s) {v:V} {d:PyData} {u:Value} (h:Dp X.K H v d):be v u->∃ as,Reads s.heap u d as:=
 Dp.rec (motive_1:=λ v d _=>∀ u,be v u->∃ as,Reads s.heap u d as) (motive_2:=λ vs ds _=>∀ us,bf vs us->∃ as,ReadsAll s.heap us ds as)
  (λ u r=>by cases r;exact ⟨_,.none⟩) (λ b u r=>by cases r;exact ⟨_,.bool b⟩) (λ i u r=>by obtain ⟨t,rfl⟩:=r;exact ⟨_,.int i t⟩) (λ x u r=>by obtain ⟨t,rfl⟩:=r;exact ⟨_,.str x t⟩)
  (λ q _ ih u r=>by
   cases r
   obtain ⟨its,rv,⟨o,n,e,c,_,d⟩,_⟩:=I.list q
   obtain ⟨as,ra⟩:=ih _ rv
   exact ⟨_,.list e c d (by simpa using ra)⟩)
  (λ q _ ih u r=>by
   cases r
   obtain ⟨its,rv,⟨o,e,c,n,d⟩,_⟩:=I.tuple q
   obtain ⟨as,ra⟩:=ih _ rv
   exact ⟨_,.tuple e c d (by simpa using ra)⟩)
  (λ us r=>by cases r;exact ⟨_,.nil⟩)
  (λ _ _ ih1 ih2 us r=>by
   cases r with
   | cons r rr=>
    obtain ⟨as,ra⟩:=ih1 _ r
    obtain ⟨bs,rb⟩:=ih2 _ rr
    exact ⟨_,.cons ra rb⟩) h u
noncomputable def yd (K:Frag) (neg:Bool):R2:=λ x y H Q=>∃ d e,Dp K H x d/\Dp K H y e/\d.canLay0=true/\e.canLay0=true/\d.depth<=64/\Q (.bl (if neg then !(PyData.eqv d e) else PyData.eqv d e)) H
theorem Br {X:Cx} (hu:X.A.units+64<cLine):gh X (compareOp .Eq) (yd X.K false):=by
 intro pins s σ H x y v u Q I rx ry h
 obtain ⟨d,e,hx,hy,cd,ce,dd,q⟩:=h
 obtain ⟨as,ra⟩:=hx.reads I rx
 obtain ⟨bs,rb⟩:=hy.reads I ry
 exact SeqAt.compareEq_reads ra rb cd ce (by omega) ⟨.bl _,H,I,rfl,by simpa using q⟩
theorem B5 {X:Cx} (hu:X.A.units+64<cLine):gh X (compareOp .NotEq) (yd X.K true):=by
 intro pins s σ H x y v u Q I rx ry h
 obtain ⟨d,e,hx,hy,cd,ce,dd,q⟩:=h
 obtain ⟨as,ra⟩:=hx.reads I rx
 obtain ⟨bs,rb⟩:=hy.reads I ry
 exact SeqAt.compareNe_reads ra rb cd ce (by omega) ⟨.bl _,H,I,rfl,by simpa using q⟩
theorem cn.there {P:Program} {w:World} {H:Hp} {h:Heap} {a:Addr} {o:HO} (x:cn P w H h a o):∃ ob,h.get? a=some ob:=by
 cases o with
 | lst xs=>obtain ⟨_,_,_,_,e⟩:=x;exact ⟨_,e⟩
 | tup xs=>obtain ⟨_,_,_,ob,e,_⟩:=x;exact ⟨_,e⟩
 | dK kvs=>obtain ⟨_,_,_,_,o,_,_,e,_⟩:=x;exact ⟨_,e⟩
 | dT kvs=>obtain ⟨_,_,_,_,o,_,_,e,_⟩:=x;exact ⟨_,e⟩
 | dN kvs=>obtain ⟨_,_,_,_,o,_,_,e,_⟩:=x;exact ⟨_,e⟩
 | set S n=>obtain ⟨o,_,_,_,e,_⟩:=x;exact ⟨_,e⟩
 | ins C dx fs=>obtain ⟨_,_,_,e,_⟩:=x;exact ⟨_,e⟩
 | own y=>exact x
 | xd fs=>obtain ⟨_,⟨_,_,_,e,_⟩,_⟩:=x;exact ⟨_,e⟩
 | rng lo hi=>obtain ⟨_,_,_,e⟩:=x;exact ⟨_,e⟩
 | frz ob u=>obtain ⟨e,_⟩:=x;exact ⟨_,e⟩
 | tbl ps=>exact ⟨_,(show h.get? a=some _ from x)⟩
 | met f y=>exact ⟨_,(show h.get? a=some _ from x)⟩
 | ext φ=>obtain ⟨_,e,_⟩:=x;exact e
theorem gE.none_of {P:Program} {w:World} {H:Hp} {h:Heap} {a:Addr} (x:gE P w H h) (e:h.get? a=none):H a=none:=by
 cases q:H a with
 | none=>rfl
 | some o=>
  obtain ⟨ob,z⟩:=(x a o q).there
  rw [e] at z;cases z
theorem gE.hide {P:Program} {w:World} {H:Hp} {h:Heap} {as:List Addr} (x:gE P w H h) (n:∀ b∈as,H b=none):gE P w H (PySem.W.hideAll h as):=λ a o e=>
 (x a o e).stay (λ b u hb q=>PySem.W.hideAll_get _ q λ hm=>by
  have z:=n b hm
  rcases hb with hb | hb
  . rw [hb,e] at z;cases z
  . rw [hb] at z;cases z) (λ _ q=>q) λ _ _ q=>q
noncomputable def oy (P:Program) (w:World):oV:=λ outer H s E e s'=>
 ∃ (ea:Addr) (cls a0:Value) (H':Hp) (B:Heap),e=.ref ea/\s'.os=s.os/\AllBare s'.gens/\Heap.FlyingW B outer ea cls a0 s'.heap/\gE P w H' B/\Un (hZ outer) [] H H' s.heap s'.heap/\
  (∀ b o,s.heap.get? b=some o->H b=none->b∉hZ outer->B.get? b=some o)/\(∀ b o,s.heap.get? b=some o->b∉hZ outer->∃ o',B.get? b=some o')/\H' ea=none/\E cls none H'
noncomputable def qo (X:Cx) (E:XK):Prop:=∀ (pins:List (Addr×Obj)) (σ:St) (H:Hp) (s:Shared) (h':Heap) (e:Addr) (cls:Value) (vs:List Value),aI X pins σ H s->Heap.MadeExcOf s.heap h' e cls vs->E cls none H->X.xe (.ref e) { s with heap:=h' }
section
variable {P:Program} {w:World} {K:Frag} {mg:Str->Option Value} {base:Heap} {N:List Str} {qual:Str} {scope:Scope} {f:Addr} {cd:Value} {A:Around} {outer:List Env} {s:Shared} {H:Hp} {E:XK}
theorem oN {l:List Env} {env:Env} {b:Addr} (he:env∈l) (hb:env.frame=some b):b∈hZ l:=List.mem_filterMap.mpr ⟨env,he,hb⟩
theorem CU:qo (fw (oy P w) P w K mg base N qual scope f cd A outer s H E) E:=by
 intro pins σ H1 s1 h' e cls vs I hx hE
 have stk:(fw (oy P w) P w K mg base N qual scope f cd A outer s H E).stack=(fw (oy P w) P w K mg base N qual scope f cd A outer s H E).env::outer:=rfl
 have FF:=I.stack
 have fr:=I.stkFree
 have keepFr:∀ b o,s.heap.get? b=some o->b∉hZ outer->b∉hZ (fw (oy P w) P w K mg base N qual scope f cd A outer s H E).stack:=λ b o q hb hm=>by
  rcases List.mem_cons.mp (I.stkSub b hm) with z | z
  . have l1:=Heap.lt_size q
    have l2:b=s.heap.objs.size:=z
    rw [l2] at l1
    exact absurd l1 (Nat.lt_irrefl _)
  . exact hb z
 refine wpAny_leaves_madeW (base:=PySem.W.hideAll s1.heap (hZ (fw (oy P w) P w K mg base N qual scope f cd A outer s H E).stack)) I.ok.frames rfl (λ b o q=>PySem.W.of_hideAll _ q) (PySem.W.funFrames_hide FF λ env he a ha=>oN he ha) hx λ h'' t x1 x2 x3 x4=>?_
 have keep:∀ b o,s1.heap.get? b=some o->b∉hZ (fw (oy P w) P w K mg base N qual scope f cd A outer s H E).stack->(PySem.W.hideAll s1.heap (hZ (fw (oy P w) P w K mg base N qual scope f cd A outer s H E).stack)).get? b=some o:=λ b o q hb=>PySem.W.hideAll_get _ q hb
 have slot:∀ b∈hZ outer,∀ o,s.heap.get? b=some o->∃ sl,h''.get? b=some { o with slots:=sl }:=λ b hb o q=>by
  obtain ⟨sl,e1⟩:=I.base.slot b o q (I.ok.frf b hb) hb (show b∉([]:List Addr) by simp)
  obtain ⟨_,o2,e2,nf⟩:=FF.mem (show b∈hZ (fw (oy P w) P w K mg base N qual scope f cd A outer s H E).stack from by
   obtain ⟨env,he,hf⟩:=List.mem_filterMap.mp hb
   exact oN (List.mem_cons_of_mem _ he) hf)
  rw [e1] at e2
  cases e2
  obtain ⟨sl',e3⟩:=x4 b _ (hx.keeps _ _ e1) nf
  exact ⟨sl',e3⟩
 refine ⟨e,cls,.ref t,H1,_,rfl,I.os,I.bare,x1,I.hok.hide fr,⟨λ b o q n hb _=>?_,λ b o q n hb _=>slot b hb o q,λ b o q n _=>I.base.free b o q n (show b∉([]:List Addr) by simp),λ b o q _=>?_,I.base.tups,I.base.frzs,I.base.tbls⟩,λ b o q n hb=>?_,λ b o q hb=>?_,I.hok.none_of hx.new,hE⟩
 . exact x1.1 _ _ (keep b o (I.base.keep b o q n hb (show b∉([]:List Addr) by simp)) (keepFr b o q hb))
 . by_cases hb:b∈hZ outer
   . obtain ⟨sl,e1⟩:=slot b hb o q
     exact ⟨_,e1⟩
   . obtain ⟨o',e1⟩:=I.base.there b o q (show b∉([]:List Addr) by simp)
     exact ⟨o',x1.1 _ _ (keep b o' e1 (keepFr b o q hb))⟩
 . exact keep b o (I.base.keep b o q n hb (show b∉([]:List Addr) by simp)) (keepFr b o q hb)
 . obtain ⟨o',e1⟩:=I.base.there b o q (show b∉([]:List Addr) by simp)
   exact ⟨o',keep b o' e1 (keepFr b o q hb)⟩
theorem HB:fZ (oy P w) (fw (oy P w) P w K mg base N qual scope f cd A outer s H E) E:=by
 intro pins σ H1 s1 e s2 I hq
 obtain ⟨ea,cls,a0,H2,B,rfl,os,bare,fl,hokB,un,keepB,thereB,f1,q⟩:=hq
 have keepFr:∀ b o,s.heap.get? b=some o->b∉hZ outer->b∉hZ (fw (oy P w) P w K mg base N qual scope f cd A outer s H E).stack:=λ b o q hb hm=>by
  rcases List.mem_cons.mp (I.stkSub b hm) with z | z
  . have l1:=Heap.lt_size q
    have l2:b=s.heap.objs.size:=z
    rw [l2] at l1
    exact absurd l1 (Nat.lt_irrefl _)
  . exact hb z
 have upFr:∀ b∈hZ outer,b∈hZ (fw (oy P w) P w K mg base N qual scope f cd A outer s H E).stack:=λ b hb=>by
  obtain ⟨env,he,hf⟩:=List.mem_filterMap.mp hb
  exact oN (List.mem_cons_of_mem _ he) hf
 refine wpAny_leaves_onW I.ok.frames rfl fl λ h' x1 x2=>?_
 have no:∀ b:Addr,b∉([]:List Addr):=λ b=>by simp
 have slot:∀ b∈hZ outer,∀ o,s.heap.get? b=some o->∃ sl,h'.get? b=some { o with slots:=sl }:=λ b hb o q=>by
  obtain ⟨sl,e1⟩:=I.base.slot b o q (I.ok.frf b hb) hb (no b)
  obtain ⟨sl2,e2⟩:=un.slot b _ e1 (I.stkFree b (upFr b hb)) (upFr b hb) (no b)
  obtain ⟨_,o3,e3,nf⟩:=fl.2.2.1.mem (show b∈hZ (fw (oy P w) P w K mg base N qual scope f cd A outer s H E).stack from upFr b hb)
  rw [e2] at e3
  cases e3
  obtain ⟨sl',e4⟩:=x2 b _ e2 nf
  exact ⟨sl',e4⟩
 refine ⟨ea,cls,a0,H2,B,rfl,os.trans I.os,bare,x1,hokB,⟨λ b o q n hb _=>?_,λ b o q n hb _=>slot b hb o q,λ b o q n _=>?_,λ b o q _=>?_,λ b xs e=>un.tups b xs (I.base.tups b xs e),λ b o xs e=>un.frzs b o xs (I.base.frzs b o xs e),λ b ps e=>?_⟩,λ b o q n hb=>?_,λ b o q hb=>?_,f1,q⟩
 . exact x1.1 _ _ (keepB b o (I.base.keep b o q n hb (no b)) (I.base.free b o q n (no b)) (keepFr b o q hb))
 . obtain ⟨o',e1⟩:=I.base.there b o q (no b)
   exact un.free b o' e1 (I.base.free b o q n (no b)) (no b)
 . by_cases hb:b∈hZ outer
   . obtain ⟨sl,e1⟩:=slot b hb o q
     exact ⟨_,e1⟩
   . obtain ⟨o',e1⟩:=I.base.there b o q (no b)
     obtain ⟨o2,e2⟩:=thereB b o' e1 (keepFr b o q hb)
     exact ⟨o2,x1.1 _ _ e2⟩
 . obtain ⟨m1,e1⟩:=I.base.tbls b ps e
   obtain ⟨m2,e2⟩:=un.tbls b _ e1
   exact ⟨m1++m2,by rw [e2,Array.append_assoc]⟩
 . exact keepB b o (I.base.keep b o q n hb (no b)) (I.base.free b o q n (no b)) (keepFr b o q hb)
 . obtain ⟨o',e1⟩:=I.base.there b o q (no b)
   exact thereB b o' e1 (keepFr b o q hb)
end
section
variable {X:Cx} {E:XK} {C:Addr} {x:Str} {np cpos pos:Pos} {e:Expr} {es:List Expr} {t:TA}
noncomputable def wD (C:Addr) (E:XK) (t:TA):TS:=λ _ σ H=>t σ H λ vs H1=>vs.length<=sizeLine/\E (.ref C) none H1
end
theorem aI.flown {X:Cx} {pins:List (Addr×Obj)} {σ:St} {H H2:Hp} {s s2:Shared} {h5 B:Heap} {ea:Addr} {cls a0:Value} (I:aI X pins σ H s) (os:s2.os=s.os) (bare:AllBare s2.gens) (un:Un (hZ X.stack) [] H H2 s.heap s2.heap) (hokB:gE X.prog X.w H2 B)
 (keepB:∀ b o,s.heap.get? b=some o->H b=none->b∉hZ X.stack->B.get? b=some o) (thereB:∀ b o,s.heap.get? b=some o->b∉hZ X.stack->∃ o',B.get? b=some o')
 (fl0:s2.heap.FunFrames B X.stack) (fl:Heap.FlyingW B X.stack ea cls a0 h5) (up:s2.heap.UpToSlots h5):aI X pins σ H2 { s2 with heap:=h5 }:=by
 have no:∀ b:Addr,b∉([]:List Addr):=λ b=>by simp
 have slot:∀ b∈hZ X.stack,∀ o,s.heap.get? b=some o->∃ sl,h5.get? b=some { o with slots:=sl }:=λ b hb o q=>by
  obtain ⟨sl,e1⟩:=un.slot b o q (I.stkFree b hb) hb (no b)
  obtain ⟨_,o3,e3,nf⟩:=fl0.mem hb
  rw [e1] at e3
  cases e3
  obtain ⟨sl',e4⟩:=up b _ e1 nf
  exact ⟨sl',e4⟩
 refine I.call' (ch:=[]) (show s2.os=s.os from os) ⟨λ b o q n hb _=>fl.1 _ _ (keepB b o q n hb),λ b o q n hb _=>slot b hb o q,λ b o q n _=>un.free b o q n (no b),λ b o q _=>?_,un.tups,un.frzs,un.tbls⟩ (hokB.kept λ b u q=>fl.1 b u q) bare λ b z=>absurd z (no b)
 by_cases hb:b∈hZ X.stack
 . obtain ⟨sl,e1⟩:=slot b hb o q
   exact ⟨_,e1⟩
 . obtain ⟨o',e1⟩:=thereB b o q hb
   exact ⟨o',fl.1 _ _ e1⟩
noncomputable abbrev Cx.suite (X:Cx) (e:Addr):Cx:={ X with A:=X.A.mark (some (.ref e)),calm:=false,xe:=λ _ _=>False }
theorem aI.inSuite {X:Cx} {pins:List (Addr×Obj)} {σ:St} {H:Hp} {s:Shared} (I:aI X pins σ H s) (e:Addr):aI (X.suite e) pins σ H s:=
 ⟨⟨I.ok.mod,I.ok.kind,I.ok.glob,I.ok.blt,I.ok.above,I.ok.inj,I.ok.has,I.ok.cab,(λ h=>by cases h),I.ok.frames,I.ok.stk,I.ok.exf,I.ok.bs,I.ok.bsz,I.ok.noex,I.ok.exfs,I.ok.funs,I.ok.frf⟩,I.os,I.bare,I.base,I.loc,I.cell,I.free,I.freeC,I.pin,I.hok,I.len⟩
theorem aI.outSuite {X:Cx} {pins:List (Addr×Obj)} {σ:St} {H:Hp} {s:Shared} {e:Addr} (I:aI (X.suite e) pins σ H s) (ok:X.Ok):aI X pins σ H s:=
 ⟨ok,I.os,I.bare,I.base,I.loc,I.cell,I.free,I.freeC,I.pin,I.hok,I.len⟩
section
variable {K:Frag} {x D:Addr}
variable {prog:Program} {w:World} {A:Around} {E:Value->Shared->Prop} {s:Shared} {nm:Str}
end
section
variable {X:Cx}
end
section
variable {κ:Type} [DecidableEq κ]
noncomputable def iG (kvs:List (κ×V)) (k:κ):Option V:=(kvs.find? λ kv=>decide (kv.1=k)).map (·.2)
noncomputable def gu (kvs:List (κ×V)) (k:κ) (v:V):List (κ×V):=
 if (kvs.any λ kv=>decide (kv.1=k))=true then kvs.map (λ kv=>if kv.1=k then (kv.1,v) else kv) else kvs++[(k,v)]
theorem jy {p:κ×V} {r:List (κ×V)} {k:κ} (e:p.1=k):iG (p::r) k=some p.2:=by simp [iG,List.find?_cons,e]
theorem im {p:κ×V} {r:List (κ×V)} {k:κ} (e:¬ p.1=k):iG (p::r) k=iG r k:=by simp [iG,List.find?_cons,e]
theorem pU (k:κ):∀ kvs:List (κ×V),(kvs.any λ kv=>decide (kv.1=k))=(iG kvs k).isSome
 | []=>rfl
 | p::r=>by
  rw [List.any_cons]
  by_cases e:p.1=k
  . simp only [jy e,decide_eq_true e,Bool.true_or,Option.isSome_some]
  . rw [im e,decide_eq_false e,Bool.false_or];exact pU k r
theorem iq (kvs:List (κ×V)) (k:κ) (v:V):(gu kvs k v).length<=kvs.length+1:=by
 unfold gu
 split
 . rw [List.length_map];omega
 . rw [List.length_append,List.length_cons,List.length_nil];omega
theorem gZ.isSome_eq {o:Option V} {u:Option Value} (r:gZ o u):o.isSome=u.isSome:=by
 cases o with
 | none=>cases u with
  | none=>rfl
  | some _=>exact (show False from r).elim
 | some _=>cases u with
  | none=>exact (show False from r).elim
  | some _=>rfl
theorem gZ.getD {o:Option V} {u:Option Value} {d:V} {d':Value} (r:gZ o u) (rd:be d d'):be (o.getD d) (u.getD d'):=by
 cases o with
 | none=>cases u with
  | none=>exact rd
  | some _=>exact (show False from r).elim
 | some _=>cases u with
  | none=>exact (show False from r).elim
  | some _=>exact r
theorem KV.val {kvs:List (κ×V)} {vs:List (κ×Value)} (r:KV kvs vs) (k:κ):gZ (iG kvs k) (valueAt vs k):=by
 unfold KV at r
 induction r with
 | nil=>exact True.intro
 | @cons p q ps qs h t ih=>
  obtain ⟨h1,h2⟩:=h
  by_cases e:p.1=k
  . have e':q.1=k:=h1.symm.trans e
    have b:valueAt (q::qs) k=some q.2:=by simp [valueAt,List.find?_cons,e']
    rw [jy e,b];exact h2
  . have e':¬ q.1=k:=λ z=>e (h1.trans z)
    have b:valueAt (q::qs) k=valueAt qs k:=by simp [valueAt,List.find?_cons,e']
    rw [im e,b];exact ih
theorem KV.any {kvs:List (κ×V)} {vs:List (κ×Value)} (r:KV kvs vs) (k:κ):(kvs.any λ kv=>decide (kv.1=k))=vs.any λ kv=>decide (kv.1=k):=by
 unfold KV at r
 induction r with
 | nil=>rfl
 | cons h t ih=>rw [List.any_cons,List.any_cons,ih,h.1]
theorem KV.repl {kvs:List (κ×V)} {vs:List (κ×Value)} (r:KV kvs vs) (k:κ) {y:V} {u:Value} (ry:be y u):
 KV (kvs.map λ kv=>if kv.1=k then (kv.1,y) else kv) (vs.map λ kv=>if kv.1=k then (kv.1,u) else kv):=by
 unfold KV at r ⊢
 induction r with
 | nil=>exact .nil
 | @cons p q ps qs h t ih=>
  rw [List.map_cons,List.map_cons]
  refine .cons ?_ ih
  obtain ⟨h1,h2⟩:=h
  by_cases e:p.1=k
  . rw [if_pos e,if_pos (h1.symm.trans e)];exact ⟨h1,ry⟩
  . rw [if_neg e,if_neg (λ z=>e (h1.trans z))];exact ⟨h1,h2⟩
theorem KV.put {kvs:List (κ×V)} {vs:List (κ×Value)} (r:KV kvs vs) (k:κ) {y:V} {u:Value} (ry:be y u):KV (gu kvs k y) (stored vs k u):=by
 unfold gu stored
 rw [r.any k]
 by_cases e:(vs.any λ kv=>decide (kv.1=k))=true
 . rw [if_pos e,if_pos e];exact r.repl k ry
 . rw [if_neg e,if_neg e];exact Paired.snoc r ⟨rfl,ry⟩
theorem KV.length {kvs:List (κ×V)} {vs:List (κ×Value)} (r:KV kvs vs):kvs.length=vs.length:=Paired.length r
end
theorem pv {P:Program} {w:World} {k:bz} {u:Value} (r:be (kV k) u):(aT P w).is k u=true:=by
 cases k with
 | inl i=>obtain ⟨t,e⟩:=(show ∃ t,u=Value.int i t from r);subst e;exact ph P w i t
 | inr x=>obtain ⟨t,e⟩:=(show ∃ t,u=Value.str x t from r);subst e;exact pD P w x t
theorem ng {P:Program} {w:World}:∀ {ks:List bz} {us:List Value},bf (ks.map kV) us->ItemsAre (aT P w) ks us
 | [],_,r=>by rw [List.map_nil] at r;cases r;exact .nil
 | k::ks,_,r=>by
  rw [List.map_cons] at r
  cases r with
  | cons h t=>exact .cons (pv h) (ng t)
noncomputable abbrev KT (H:Hp):List (List bz×V)->List (List bz×Addr×Value)->Prop:=Paired λ p q=>p.1=q.1/\H q.2.1=some (.tup (p.1.map kV))/\be p.2 q.2.2
theorem KT.val {H:Hp} {kvs:List (List bz×V)} {xs:List (List bz×Addr×Value)} (r:KT H kvs xs) (k:List bz):gZ (iG kvs k) ((atKey xs k).map (·.2)):=by
 induction r with
 | nil=>exact True.intro
 | @cons p q ps qs h t ih=>
  obtain ⟨h1,_,h2⟩:=h
  by_cases e:p.1=k
  . have e':q.1=k:=h1.symm.trans e
    have b:atKey (q::qs) k=some q.2:=by simp [atKey,List.find?_cons,e']
    rw [jy e,b];exact h2
  . have e':¬ q.1=k:=λ z=>e (h1.trans z)
    have b:atKey (q::qs) k=atKey qs k:=by simp [atKey,List.find?_cons,e']
    rw [im e,b];exact ih
theorem KT.repl {H:Hp} {kvs:List (List bz×V)} {xs:List (List bz×Addr×Value)} (r:KT H kvs xs) (k:List bz) {y:V} {u:Value} (ry:be y u):
 KT H (kvs.map λ kv=>if kv.1=k then (kv.1,y) else kv) (xs.map (putAt k u)):=by
 induction r with
 | nil=>exact .nil
 | @cons p q ps qs h t ih=>
  rw [List.map_cons,List.map_cons]
  refine .cons ?_ ih
  obtain ⟨h1,h2,h3⟩:=h
  unfold putAt
  by_cases e:p.1=k
  . rw [if_pos e,if_pos (h1.symm.trans e)];exact ⟨h1,h2,ry⟩
  . rw [if_neg e,if_neg (λ z=>e (h1.trans z))];exact ⟨h1,h2,h3⟩
theorem KT.put {H:Hp} {kvs:List (List bz×V)} {xs:List (List bz×Addr×Value)} (r:KT H kvs xs) (k:List bz) {b:Addr} {y:V} {u:Value} (hb:H b=some (.tup (k.map kV))) (ry:be y u):
 KT H (gu kvs k y) (storedH xs k b u):=by
 have e:(kvs.any λ kv=>decide (kv.1=k))=(atKey xs k).isSome:=by
  rw [pU,(r.val k).isSome_eq,Option.isSome_map]
 unfold gu storedH
 rw [e]
 by_cases q:(atKey xs k).isSome=true
 . rw [if_pos q,if_pos q];exact r.repl k ry
 . rw [if_neg q,if_neg q];exact Paired.snoc r ⟨rfl,hb,ry⟩
theorem KT.keeps {H H':Hp} {kvs:List (List bz×V)} {xs:List (List bz×Addr×Value)} (r:KT H kvs xs) (ht:∀ b ys,H b=some (.tup ys)->H' b=some (.tup ys)):KT H' kvs xs:=
 Paired.mapP r λ _ _ z=>⟨z.1,ht _ _ z.2.1,z.2.2⟩
section
variable {P:Program} {w:World} {H:Hp} {h:Heap} {a:Addr}
theorem zh {u:HO} (ok:gE P w H h) (e:Rd H a u):cn P w H h a u:=e.ok ok
theorem pV {kvs:List (bz×V)} (ok:gE P w H h) (e:Rd H a (.dK kvs)):kvs.length<=sizeLine/\(a==sysModules)=false/\∃ vs,KV kvs vs/\h.DictOf (aT P w) a vs:=
 by obtain ⟨z,y,vs,r,x⟩:=(show cn P w H h a (.dK kvs) from zh ok e);exact ⟨z,y,vs,r,x.of⟩
theorem Hb {kvs:List (bz×V)} (ok:gE P w H h) (e:H a=some (.dK kvs)):∃ vs,KV kvs vs/\gP P w h a vs:=by
 obtain ⟨_,_,vs,r,x⟩:=(show cn P w H h a (.dK kvs) from ok a _ e);exact ⟨vs,r,x⟩
theorem D3 {kvs:List (bz×V)} (ok:gE P w H h) (e:H a=some (.dK kvs)):kvs.length<=sizeLine/\(a==sysModules)=false/\∃ vs,KV kvs vs/\h.DictOf (aT P w) a vs:=pV ok (.inl e)
theorem oo {ks:List bz} (ok:gE P w H h) (e:H a=some (.tup (ks.map kV))):(tupleKind (aT P w)).is h ks a:=by
 obtain ⟨_,its,r,o,h1,h2,n,h3⟩:=(show cn P w H h a (.tup (ks.map kV)) from ok a _ e)
 exact ⟨o,its.toArray,n,h1,h2,h3,by simpa using ng r⟩
theorem pG {kvs:List (List bz×V)} (ok:gE P w H h) (e:Rd H a (.dT kvs)):kvs.length<=sizeLine/\(a==sysModules)=false/\
 ∃ xs,KT H kvs xs/\h.DictOfH (tupleKind (aT P w)) a xs:=by
 obtain ⟨z,y,xs,r,o,es,ep,h1,h2,h3,h4,h5⟩:=(show cn P w H h a (.dT kvs) from zh ok e)
 refine ⟨z,y,xs,r,o,es,ep,h1,h2,h3,h4,λ x hx=>?_,h5⟩
 have all:∀ {l:List (List bz×V)} {m:List (List bz×Addr×Value)},KT H l m->∀ x∈m,(tupleKind (aT P w)).is h x.1 x.2.1:=by
  intro l m q
  induction q with
  | nil=>intro x hx;exact nomatch hx
  | @cons p q ps qs hq t ih=>
   intro x hx
   rcases List.mem_cons.mp hx with e | hx
   . subst e
     exact oo ok (by rw [<-hq.1];exact hq.2.1)
   . exact ih x hx
 exact all r x hx
theorem EY {kvs:List (List bz×V)} (ok:gE P w H h) (e:H a=some (.dT kvs)):kvs.length<=sizeLine/\(a==sysModules)=false/\
 ∃ xs,KT H kvs xs/\h.DictOfH (tupleKind (aT P w)) a xs:=pG ok (.inl e)
end
noncomputable def kF (H:Hp) (a:Addr) (y:V) (r:Option V):Prop:=
 (∃ kvs k,Rd H a (.dK kvs)/\y=kV k/\r=iG kvs k)∨∃ kvs k b,Rd H a (.dT kvs)/\y=.ref b/\H b=some (.tup (k.map kV))/\r=iG kvs k
noncomputable def nG (H:Hp) (a:Addr) (y v:V) (H':Hp):Prop:=
 (∃ kvs k,H a=some (.dK kvs)/\y=kV k/\kvs.length<sizeLine/\H'=cq H a (.dK (gu kvs k v)))∨
 ∃ kvs k b,H a=some (.dT kvs)/\y=.ref b/\H b=some (.tup (k.map kV))/\kvs.length<sizeLine/\H'=cq H a (.dT (gu kvs k v))
theorem kF.k {H:Hp} {a:Addr} {kvs:List (bz×V)} {k:bz} (e:H a=some (.dK kvs)):kF H a (kV k) (iG kvs k):=.inl ⟨kvs,k,.inl e,rfl,rfl⟩
theorem kF.t {H:Hp} {a b:Addr} {kvs:List (List bz×V)} {k:List bz} (e:H a=some (.dT kvs)) (eb:H b=some (.tup (k.map kV))):kF H a (.ref b) (iG kvs k):=.inr ⟨kvs,k,b,.inl e,rfl,eb,rfl⟩
theorem nG.k {H:Hp} {a:Addr} {kvs:List (bz×V)} {k:bz} {v:V} (e:H a=some (.dK kvs)) (hl:kvs.length<sizeLine):nG H a (kV k) v (cq H a (.dK (gu kvs k v))):=.inl ⟨kvs,k,e,rfl,hl,rfl⟩
theorem nG.t {H:Hp} {a b:Addr} {kvs:List (List bz×V)} {k:List bz} {v:V} (e:H a=some (.dT kvs)) (eb:H b=some (.tup (k.map kV))) (hl:kvs.length<sizeLine):
 nG H a (.ref b) v (cq H a (.dT (gu kvs k v))):=.inr ⟨kvs,k,b,e,rfl,eb,hl,rfl⟩
section
variable {X:Cx} {pins:List (Addr×Obj)} {σ:St} {H:Hp} {s:Shared} {a:Addr} {y v:V} {u r:Value} {o:Option V} {A:Around} {E:Value->Shared->Prop}
theorem aI.big (I:aI X pins σ H s):sysModules<s.heap.objs.size:=by
 have h:mainGlobals<s.heap.objs.size:=(I.mod.glob.keeps I.bk).lt
 exact Nat.lt_trans (by decide) h
theorem sP {Q:Value->Shared->Prop} (hu:A.units+1<cLine) (I:aI X pins σ H s) (g:kF H a y (some v)) (ry:be y u) (h:∀ w' s',aI X pins σ H s'->be v w'->Q w' s'):
 wpAny (model X.prog X.w) A (getItem (.ref a) u) Q E s:=by
 rcases g with ⟨kvs,k,e,ey,l⟩ | ⟨kvs,k,b,e,ey,eb,l⟩
 . subst ey
   obtain ⟨z,hd,vs,rel,dd⟩:=pV I.hok e
   obtain ⟨w',hw,rw'⟩:=gZ.some_of (v:=v) (o:=valueAt vs k) (by rw [l];exact rel.val k)
   exact wpAny_getItem_of (pv ry) dd.mapOf hw (h w' _ (I.tok _) rw')
 . subst ey
   cases (show u=Value.ref b from ry)
   obtain ⟨z,hd,xs,rel,dd⟩:=pG I.hok e
   obtain ⟨w',hw,rw'⟩:=gZ.some_of (v:=v) (o:=(atKey xs k).map (·.2)) (by rw [l];exact rel.val k)
   obtain ⟨p,hp,hp2⟩:=oM hw
   refine wpAny_getItem_heap (tupleKind_room_in1 hu) (oo I.hok eb) dd hp ?_
   rw [hp2]
   exact h w' _ (I.tok _) rw'
theorem nF {h':Heap} {t':Nat} {ob:HO} (I:aI X pins σ H s) (mu:DC (H a)) (hs:Heap.SameBut a s.heap h') (he:∃ q,h'.get? a=some q) (new:cn X.prog X.w (cq H a ob) h' a ob):
 aI X pins σ (cq H a ob) { s with heap:=h',toks:=t' }:=
 I.write (x:=a) (e:=a) mu (.inl rfl) (λ b q hb z=>(hs.2 b hb).trans z) he new
theorem wP {P:Program} {w:World} {H':Hp} {h':Heap} {kvs:List (bz×V)} {vs:List (bz×Value)} (z:kvs.length<=sizeLine) (hd:(a==sysModules)=false) (rel:KV kvs vs) (dd:gP P w h' a vs):
 cn P w H' h' a (.dK kvs):=⟨z,hd,vs,rel,dd⟩
theorem E6 {P:Program} {w:World} {d:Addr} {kvs:List (bz×Value)} {k:bz} {key v:Value} {Q:Unit->Shared->Prop} (hkey:(aT P w).is k key=true) (hm:gP P w s.heap d kvs) (hsz:kvs.length<=sizeLine)
 (hQ:∀ h',gP P w h' d (stored kvs k v)->Heap.SameBut d s.heap h'->Q () { s with heap:=h',toks:=s.toks+1 }):wpAny (model P w) A (setItem (.ref d) key v) Q E s:=by
 have T:=hm.of.typeIs
 obtain ⟨o,es,ep,ho,hc,hd,he,hk,hp,hn⟩:=hm
 have hes:es.size<=sizeLine:=by have e1:=hp.length;rw [Array.length_toList] at e1;omega
 unfold setItem
 try with_reducible refine wpAny_holding ?_
 refine wpAny_bind (wpAny_sequenceKey T (by decide) (wpAny_bind (wpAny_callSpecial?_slot (name:=Str.ofString "__setitem__") T F.slot_dict_setitem (wpAny_call_entry F.slot_dict_setitem T F.entry_dict_setitem (wpAny_bind (wpAny_notOrdered_dict T (show wpAny _ _ (dictSet d key v >>= _) _ _ s from wpAny_bind ?_))) (args_dict_setitem _ _ _)))))
 unfold dictSet
 try with_reducible refine wpAny_holding ?_
 refine wpAny_bind ((aT P w).pyHash hkey ?_)
 unfold dictSetHashed
 try with_reducible refine wpAny_holding ?_
 refine wpAny_bind (wpAny_dictFind_of (s:={ s with toks:=s.toks+1 }) hkey ho hd hk ?_)
 have ix:(es.findIdx? λ e=>(aT P w).is k e.key)=kvs.findIdx? λ kv=>decide (kv.1=k):=by
  rw [<-hp.findIdx k];obtain ⟨l⟩:=es;simp
 cases hi:es.findIdx? λ e=>(aT P w).is k e.key with
 | some i=>
  have an:=any_of_findIdx_some (ix▸hi)
  have hl:(es.toList.findIdx? λ e=>(aT P w).is k e.key)=some i:=by rw [<-hi];obtain ⟨l⟩:=es;simp
  have hm:=hp.modify hn hl v
  refine wpAny_bind (wpAny_rule (wpAny_bind (wpAny_updateDict (s:={ s with toks:=s.toks+1 }) ho hd (wpAny_point (wpAny_pure ⟨.none,rfl,wpAny_pure (hQ _ ?_ (Heap.SameBut.update ..))⟩)))))
  refine ⟨_,_,ep,Heap.get?_update_self _ ho (Obj.isFreed_of_dict (Obj.data_mapDict hd _)),hc.mapDict _,Obj.data_mapDict hd _,by simpa using he,hk.modify _ _,?_,?_⟩
  . rw [stored,if_pos an]
    obtain ⟨l⟩:=es
    simpa using hm
  . rw [stored,if_pos an,keys_map_store]
    exact hn
 | none=>
  have nm:k∉kvs.map (·.1):=not_mem_of_findIdx_none (ix▸hi)
  have na:¬ (kvs.any λ kv=>decide (kv.1=k))=true:=λ z=>by
   obtain ⟨kv,h1,h2⟩:=List.any_eq_true.mp z
   exact nm (List.mem_map.mpr ⟨kv,h1,of_decide_eq_true h2⟩)
  have ha:=hp.append hkey ((aT P w).hash k) v
  refine wpAny_bind (wpAny_rule (wpAny_updateDictKeys (hz:=hes) (s:={ s with toks:=s.toks+1 }) ho hd (wpAny_pure ⟨.none,rfl,wpAny_pure (hQ _ ?_ (Heap.SameBut.update ..))⟩)))
  refine ⟨_,_,ep+1,Heap.get?_update_self _ ho (Obj.isFreed_of_dict (Obj.data_mapDictKeys hd _)),hc.mapDictKeys _,Obj.data_mapDictKeys hd _,by simp [he],hk.push hkey _,?_,?_⟩
  . rw [stored,if_neg na]
    obtain ⟨l⟩:=es
    simpa using ha
  . rw [stored,if_neg na,List.map_append,List.nodup_append]
    exact ⟨hn,by simp,λ x hx y hy z=>nm (by simp at hy;rw [<-hy,<-z];exact hx)⟩
theorem tK {H':Hp} {Q:Unit->Shared->Prop} (hu:A.units+1<cLine) (I:aI X pins σ H s) (g:nG H a y v H') (ry:be y u) (rv:be v r) (h:∀ s',aI X pins σ H' s'->Q () s'):
 wpAny (model X.prog X.w) A (setItem (.ref a) u r) Q E s:=by
 rcases g with ⟨kvs,k,e,ey,l,eH⟩ | ⟨kvs,k,b,e,ey,eb,l,eH⟩
 . subst ey eH
   obtain ⟨z,hd,_⟩:=D3 I.hok e
   obtain ⟨vs,rel,dd⟩:=Hb I.hok e
   have hz:vs.length<=sizeLine:=by rw [<-rel.length];exact z
   have hl:(gu kvs k v).length<=sizeLine:=by have:=iq kvs k v;omega
   refine E6 (pv ry) dd hz λ h' dd' hs=>h _ ?_
   have he:∃ q,h'.get? a=some q:=let ⟨q,_,_,hq,_⟩:=dd';⟨q,hq⟩
   exact nF I (by rw [e];exact True.intro) hs he (wP hl hd (rel.put k rv) dd')
 . subst ey eH
   cases (show u=Value.ref b from ry)
   obtain ⟨z,hd,xs,rel,dd⟩:=EY I.hok e
   have hz:xs.length<=sizeLine:=by rw [<-Paired.length rel];exact z
   have hl:(gu kvs k v).length<=sizeLine:=by have:=iq kvs k v;omega
   refine wpAny_setItem_heap (hsz:=hz) (tupleKind_room_in1 hu) (oo I.hok eb) dd λ h' dd' hs=>h _ ?_
   obtain ⟨q,es,ep,hq,h2,h3,h4,_,h5⟩:=dd'
   refine nF I (by rw [e];exact True.intro) hs ⟨q,hq⟩ ⟨hl,hd,_,(rel.put k eb rv).keeps λ c ys ec=>?_,q,es,ep,hq,h2,h3,h4,h5⟩
   rw [aD (Fd ec e (λ z=>nomatch z))]
   exact ec
end
section
variable {X:Cx} {pins:List (Addr×Obj)} {σ:St} {H:Hp} {s:Shared} {a:Addr} {kvs:List (bz×V)} {k:bz} {u:Value} {A:Around} {E:Value->Shared->Prop}
end
noncomputable def EC (i:Expr):Prop:=∀ ov iv,subscripted i false ov iv=operate [ov,iv] (getItem ov iv)
theorem yl {prog:Program} {w:World} {A:Around} {E:Value->Shared->Prop} {s:Shared} {env:Env} {value slice:Expr} {pos:Pos} {T id:String} {Q:Value->Shared->Prop}
 (hl:typeLookup (.type T) "__getitem__" = pure (some (.builtin id))) (hs:EC slice)
 (h:wpAny (model prog w) A (eval value env) (λ o s₁=>wpAny (model prog w) A (eval slice env) (λ i s₂=>s₂.TypeIs o T/\wpAny (model prog w) A (getItem o i) Q E s₂) E s₁) E s):
 wpAny (model prog w) A (eval (.Subscript value slice pos) env) Q E s:=by
 refine Subscript_ (wpAny_mono h (λ o s₁ h₁=>wpAny_mono h₁ (λ i s₂ h₂=>?_) λ _ _ x=>x) λ _ _ x=>x)
 obtain ⟨hT,h₂⟩:=h₂
 unfold subscriptTail
 refine wpAny_bind ?_
 rw [getitemInPython_of_ne hT.not_modules]
 refine wpAny_bind (wpAny_specialOf hT hl ?_)
 have fin:wpAny (model prog w) A (subscripted slice false o i) (λ r s₃=>wpAny (model prog w) A (letTemporaryGo value o r >>= λ _=>pure r) Q E s₃) E s₂:=by
  rw [hs o i]
  exact wpAny_operating (wpAny_mono h₂ (λ r s₃ h₃=>wpAny_bind (wpAny_letTemporaryGo (wpAny_pure h₃))) λ _ _ x=>x)
 first
  | exact wpAny_pure (wpAny_bind fin)
  | exact wpAny_bind (wpAny_pure (wpAny_bind fin))
  | exact wpAny_bind fin
theorem pz {X:Cx} {pins:List (Addr×Obj)} {σ:St} {H:Hp} {s:Shared} {a:Addr} {y:V} {o:Option V} (I:aI X pins σ H s) (g:kF H a y o):s.TypeIs (.ref a) "dict" := by
 rcases g with ⟨kvs,k,e,_,_⟩ | ⟨kvs,k,b,e,_,_,_⟩
 . obtain ⟨_,_,vs,_,dd⟩:=pV I.hok e
   exact dd.typeIs
 . obtain ⟨_,_,xs,_,dd⟩:=pG I.hok e
   exact dd.typeIs
noncomputable def zE (td ty:TE):TE:=λ σ H Q=>td σ H λ x H1=>ty σ H1 λ y H2=>∃ a v,x=.ref a/\kF H2 a y (some v)/\Q v H2
noncomputable def zY (td ty tv:TE):TS:=λ D σ H=>tv σ H λ v H1=>td σ H1 λ x H2=>ty σ H2 λ y H3=>∃ a H4,x=.ref a/\nG H3 a y v H4/\D.nx σ H4
section
variable {X:Cx} {o i e value:Expr} {pos pos' tpos:Pos} {td ty tv:TE}
theorem Fw (hu:X.A.units+1<cLine) (ho:PE X o td) (hi:PE X i ty) (hs:EC i):PE X (.Subscript o i pos) (zE td ty):=by
 intro pins s σ H Q I h
 refine yl PySem.F.slot_dict_getitem.lookup hs (bK (ho pins s σ H _ I h) λ u s1 hy0=>?_)
 obtain ⟨x,H1,I1,rx,q1⟩:=hy0
 refine bK (hi pins s1 σ H1 _ I1 q1) λ iv s2 hq0=>?_
 obtain ⟨y,H2,I2,ry,a,v,ex,g,q2⟩:=hq0
 subst ex
 obtain rfl:u=Value.ref a:=rx
 exact ⟨pz I2 g,sP hu I2 g ry λ w' s3 I3 rw'=>⟨v,H2,I3,rw',q2⟩⟩
theorem FA (hu:X.A.units+1<cLine) (ho:PE X o td) (hi:PE X i ty) (hv:PE X value tv) (hs:swapsWith value (some (.Subscript o i pos')) pos.line X.env=pure false):
 PS X (.Assign [.Subscript o i pos'] value pos) (zY td ty tv):=by
 intro pins s σ H D I h
 refine wpAny_Assign_Subscript (bK (hv pins s σ H _ I h) λ r s1 hy0=>?_) hs
 obtain ⟨v,H1,I1,rv,q1⟩:=hy0
 refine bK (ho pins s1 σ H1 _ I1 q1) λ u s2 hy0=>?_
 obtain ⟨x,H2,I2,rx,q2⟩:=hy0
 refine bK (hi pins s2 σ H2 _ I2 q2) λ iv s3 hq0=>?_
 obtain ⟨y,H3,I3,ry,a,H4,ex,g,q3⟩:=hq0
 subst ex
 obtain rfl:u=Value.ref a:=rx
 exact tK hu I3 g ry rv λ s4 I4=>⟨σ,H4,I4,q3⟩
end
theorem pf {P:Program} {w:World} {H:Hp} (h:Heap) (hb:sysModules<h.objs.size):cn P w H (h.push { cls:=.type "dict", data:=.dict #[] }) h.objs.size (.dK []):=
 ⟨Nat.zero_le _,beq_eq_false_iff_ne.mpr (Ne.symm (Nat.ne_of_lt hb)),[],.nil,_,#[],0,Heap.get?_push_size _ rfl,⟨rfl,rfl,rfl⟩,rfl,rfl,λ _ he=>by simp at he,.nil,List.nodup_nil⟩
noncomputable def uB:TE:=λ _ H Q=>∀ p,H p=none->Q (.ref p) (cq H p (.dK []))
section
variable {X:Cx} {pos:Pos}
theorem EI:PE X (.Dict [] [] pos) uB:=λ pins s σ H Q I h=>
 wpAny_Dict_empty ⟨.ref s.heap.objs.size,_,I.laid (a:=s.heap.objs.size) (o:=.dK []) (t':=s.toks) (λ _ _ q=>Heap.get?_push_of_some _ q) (Nat.le_refl _) (pf s.heap I.big),rfl,h _ (I.hok.fresh (Nat.le_refl _))⟩
end
noncomputable def oK:List (TE×TE)->St->Hp->(List (V×V)->Hp->Prop)->Prop
 | [],_,H,Q=>Q [] H
 | (tk,tv)::r,σ,H,Q=>tk σ H λ x H1=>tv σ H1 λ y H2=>oK r σ H2 λ ps H3=>Q ((x,y)::ps) H3
noncomputable abbrev VV:List (V×V)->List (Value×Value)->Prop:=Paired λ p q=>be p.1 q.1/\be p.2 q.2
noncomputable def Ex (X:Cx) (pos:Pos) (keys:List (Option Expr)) (values:List Expr) (trs:List (TE×TE)):Prop:=
 ∀ (pins:List (Addr×Obj)) (s:Shared) (σ:St) (H:Hp) (Q:List (V×V)->Hp->Prop),aI X pins σ H s->oK trs σ H Q->
  wpAny (model X.prog X.w) X.A (evalPairs (pairTrees keys values X.env pos)) (λ vs s'=>∃ ps H',aI X pins σ H' s'/\VV ps vs/\Q ps H') X.xe s
theorem FK {X:Cx} {pos:Pos}:Ex X pos [] [] []:=λ pins s σ H Q I h=>pairTrees_nil_walk ⟨[],H,I,.nil,h⟩
theorem ED {X:Cx} {pos:Pos} {k v:Expr} {ks:List (Option Expr)} {vs:List Expr} {tk tv:TE} {trs:List (TE×TE)} (hk:PE X k tk) (hv:PE X v tv) (hr:Ex X pos ks vs trs):
 Ex X pos (some k::ks) (v::vs) ((tk,tv)::trs):=λ pins s σ H Q I h=>
 pairTrees_cons_walk (bK (hk pins s σ H _ I h) λ u s1 ⟨x,H1,I1,rx,q1⟩=>bK (hv pins s1 σ H1 _ I1 q1) λ w2 s2 ⟨y,H2,I2,ry,q2⟩=>
  bK (hr pins s2 σ H2 _ I2 q2) λ ws s3 ⟨ps,H3,I3,rel,q3⟩=>⟨(x,y)::ps,H3,I3,.cons ⟨rx,ry⟩ rel,q3⟩)
noncomputable def gc (kvs more:List (bz×V)):List (bz×V):=more.foldl (λ acc kv=>gu acc kv.1 kv.2) kvs
theorem KV.merge:∀ {more:List (bz×V)} {rs:List (bz×Value)} {kvs:List (bz×V)} {vs:List (bz×Value)},KV more rs->KV kvs vs->KV (gc kvs more) (merged vs rs):=by
 intro more rs kvs vs r
 unfold KV at r
 induction r generalizing kvs vs with
 | nil=>intro q;exact q
 | @cons p q ps qs h t ih=>
  intro r0
  have e:KV (gu kvs p.1 p.2) (stored vs q.1 q.2):=by
   have:=r0.put p.1 h.2
   rw [<-h.1];exact this
  exact ih e
theorem iO:∀ (more kvs:List (bz×V)),(gc kvs more).length<=kvs.length+more.length
 | [],kvs=>by show kvs.length<=kvs.length+0;omega
 | p::r,kvs=>by
  have h1:=iO r (gu kvs p.1 p.2)
  have h2:=iq kvs p.1 p.2
  show (gc (gu kvs p.1 p.2) r).length<=_
  rw [List.length_cons];omega
theorem kY {P:Program} {w:World}:∀ {kvs:List (bz×V)} {ws:List (Value×Value)},VV (kvs.map λ kv=>(kV kv.1,kv.2)) ws->∃ rs,Carries (aT P w) ws rs/\KV kvs rs
 | [],_,r=>by rw [List.map_nil] at r;cases r;exact ⟨[],True.intro,.nil⟩
 | p::kvs,_,r=>by
  rw [List.map_cons] at r
  cases r with
  | @cons a b as bs h t=>
   obtain ⟨rs,c,q⟩:=kY (P:=P) (w:=w) t
   obtain ⟨b1,b2⟩:=b
   exact ⟨(p.1,b2)::rs,⟨pv h.1,rfl,c⟩,.cons ⟨rfl,h.2⟩ q⟩
noncomputable def zO (trs:List (TE×TE)):TE:=λ σ H Q=>∀ p,H p=none->oK trs σ (cq H p (.dK [])) λ ps H2=>H2 p=some (.dK [])/\∃ kvs:List (bz×V),ps=kvs.map (λ kv=>(kV kv.1,kv.2))/\kvs.length<=15/\Q (.ref p) (cq H2 p (.dK (gc [] kvs)))
structure M2 (X:Cx) (o:Expr) (m:Str) (apos:Pos) (e f:Expr) (cpos:Pos):Prop where
 base:attributeBase o m X.env (eval o X.env)=eval o X.env
 few:((backTo cpos (starEach [e,f] X.env)).all (λ x=>!x.1)&&(backToKw cpos (keywordEach [] X.env)).all (λ x=>x.1.isSome)
  && decide (([e,f]:List Expr).length+([]:List Keyword).length+(if ([]:List Keyword).isEmpty then 0 else 1)<30))=true
 line:(apos.endLine==cpos.line)=true
 trees:backTo cpos (starEach [e,f] X.env)=[(false,eval e X.env),(false,eval f X.env)]
noncomputable def Iu (H:Hp) (a:Addr):Prop:=(∃ kvs,Rd H a (.dK kvs))∨∃ kvs,Rd H a (.dT kvs)
theorem Bi {X:Cx} {pins:List (Addr×Obj)} {σ:St} {H:Hp} {s:Shared} {a:Addr} (I:aI X pins σ H s) (d:Iu H a):
 s.TypeIs (.ref a) "dict" /\ (∀ b,Value.ref a=.ref b->∃ ob,s.heap.get? b=some ob/\ob.dict=none)/\(a==sysModules)=false:=by
 rcases d with ⟨kvs,e⟩ | ⟨kvs,e⟩
 . obtain ⟨_,hd,vs,_,dd⟩:=pV I.hok e
   refine ⟨dd.typeIs,λ b q=>?_,hd⟩
   cases q
   obtain ⟨ob,_,_,h1,h2,_⟩:=dd
   exact ⟨ob,h1,h2.2.1⟩
 . obtain ⟨_,hd,xs,_,dd⟩:=pG I.hok e
   refine ⟨dd.typeIs,λ b q=>?_,hd⟩
   cases q
   obtain ⟨ob,_,_,h1,h2,_⟩:=dd
   exact ⟨ob,h1,h2.2.1⟩
section
variable {X:Cx} {pins:List (Addr×Obj)} {σ:St} {H:Hp} {s:Shared} {a:Addr} {y d:V} {u r:Value} {o:Option V} {A:Around} {E:Value->Shared->Prop}
theorem Cd {Q:Value->Shared->Prop} (hu:A.units+1<cLine) (I:aI X pins σ H s) (g:kF H a y o) (ry:be y u) (rd:be d r) (h:∀ w' s',aI X pins σ H s'->be (o.getD d) w'->Q w' s'):
 wpAny (model X.prog X.w) A (call (.builtin "dict.get") [.ref a,u,r]) Q E s:=by
 rcases g with ⟨kvs,k,e,ey,l⟩ | ⟨kvs,k,b,e,ey,eb,l⟩
 . subst ey
   obtain ⟨z,hd,vs,rel,dd⟩:=pV I.hok e
   refine call_meetsIn PySem.F.slot_dict_get dd.typeIs PySem.F.entry_dict_get (PySem.F.args_dict_get_3 _ _ _) (meets_dict_get_default (aT X.prog X.w) a (pv ry) hd r) ⟨_,dd.mapOf,h _ _ (I.tok _) ?_⟩
   rw [l]
   exact (rel.val k).getD rd
 . subst ey
   cases (show u=Value.ref b from ry)
   obtain ⟨z,hd,xs,rel,dd⟩:=pG I.hok e
   refine call_meetsIn PySem.F.slot_dict_get dd.typeIs PySem.F.entry_dict_get (PySem.F.args_dict_get_3 _ _ _) (meetsH_dict_get_default (tupleKind (aT X.prog X.w)) a b hd r) ⟨tupleKind_room_in1 hu,k,xs,oo I.hok eb,dd,h _ _ (I.tok _) ?_⟩
   rw [l]
   exact (rel.val k).getD rd
end
noncomputable def u9 (td ty tx:TE):TE:=λ σ H Q=>td σ H λ x H1=>∃ a,x=.ref a/\Iu H1 a/\ty σ H1 λ y H2=>tx σ H2 λ z H3=>∃ o,kF H3 a y o/\Q (o.getD z) H3
section
variable {X:Cx} {o e f:Expr} {apos cpos:Pos} {td ty tx:TE}
theorem DY (hu:X.A.units+1<cLine) (ho:PE X o td) (he:PE X e ty) (hf:PE X f tx) (m:M2 X o "get" apos e f cpos):PE X (.Call (.Attribute o "get" apos) [e,f] [] cpos) (u9 td ty tx):=by
 intro pins s σ H Q I h
 refine wpAny_Call_method m.base m.few m.line PySem.F.plainAttrs_dict PySem.F.slot_dict_get PySem.F.type_dict_get (bK (ho pins s σ H _ I h) λ u s1 hq0=>?_)
 obtain ⟨x,H1,I1,rx,a,ex,d,q1⟩:=hq0
 subst ex
 obtain rfl:u=Value.ref a:=rx
 obtain ⟨t1,t2,_⟩:=Bi I1 d
 refine ⟨t1,t2,?_⟩
 rw [m.trees]
 refine Calls.callWith_builtin rfl (Calls.evalArgs_plain (Calls.spliced_cons (bK (he pins s1 σ H1 _ I1 q1) λ iv s2 hy0=>?_)))
 obtain ⟨y,H2,I2,ry,q2⟩:=hy0
 refine
  Calls.spliced_cons (bK (hf pins s2 σ H2 _ I2 q2) λ fv s3 hy0=>?_)
 obtain ⟨z,H3,I3,rz,ov,g,q3⟩:=hy0
 refine Calls.spliced_nil ?_
 exact Cd hu I3 g ry rz λ w' s4 I4 rw'=>⟨_,H3,I4,rw',q3⟩
end
section
variable {X:Cx} {pins:List (Addr×Obj)} {σ:St} {H:Hp} {s:Shared} {a:Addr} {kvs:List (bz×V)} {A:Around} {E:Value->Shared->Prop}
end
section
variable {X:Cx} {pins:List (Addr×Obj)} {σ:St} {H:Hp} {s:Shared} {a:Addr} {y:V} {u:Value} {A:Around} {E:Value->Shared->Prop}
end
end L2
namespace L2
open PySem PySem.Spec PyProof.Rows
open PySem.W (Frag)
section
variable {X:Cx}
end
section
variable {κ:Type} [DecidableEq κ]
end
section
variable {z:Str} {wi:TI} {g:TG} {tb:TS} {D:gY} {σ:St} {H H1:Hp} {ix:List (Option Nat)} {tc:TT} {te:TE} {Q:VK}
end
section
variable {X:Cx}
end
section
variable {X:Cx}
noncomputable def zn (i j:Int):Prop:=i.natAbs<2^512/\j.natAbs<2^512
theorem zb:gh X (binaryOp .Mult) (rI zn λ i j=>.int (i*j)):=DN λ _ _ _ _ _ _ _ hc q=>mul_int q (IntMulOk.of_le (PySem.intBits_le_iff.mpr hc.1) (PySem.intBits_le_iff.mpr hc.2) (by decide))
end
section
variable {X:Cx} {K:Frag}
theorem Fy (h:X.K=K):vi X (Fp K):=h▸Ah
theorem uY (h:X.K=K):Do X (Ds K):=h▸yv
theorem B6 (h:X.K=K):gh X (compareOp .In) (CM K false):=h▸tI
noncomputable def Eb (K:Frag):List V->Hp->VK->Prop:=λ xs H Q=>∃ p ys,xs=[.ref p]/\(cY K H p ys∨fS K H p ys)/\Q (.int ys.length) H
theorem m6 (h:X.K=K):dJ X (.builtin "len") (Eb K):=h▸nN
noncomputable def zv:List V->Hp->VK->Prop:=λ xs H Q=>∃ z,xs=[.str z]/\z.length<=sizeLine/\Q (.int z.length) H
theorem mn:dJ X (.builtin "len") zv:=nW
noncomputable def BN:List V->Hp->VK->Prop:=λ xs H Q=>∃ v T k,xs=[v,.ty T]/\wJ v T=some k/\Q (.bl k) H
theorem tY:dJ X (.builtin "isinstance") BN:=w5
noncomputable def oz (K:Frag):List V->Hp->VK->Prop:=λ xs H Q=>∃ p ys,xs=[.ref p]/\(cY K H p ys∨fS K H p ys)/\∀ l,H l=none->Q (.ref l) (cq H l (.lst ys))
theorem mB (h:X.K=K):dJ X (.type "list") (oz K):=h▸oF
theorem FP {pos:Pos} {es:List Expr} {k:Nat} {t:uy} {n:Nat} (h:X.K=K) (hc:X.calm=true) (hh:CY X es t)
 (hn:(assignEach es X.env).length=n) (hst:(assignEach es X.env).findIdx? (·.1)=none):PG X (.Tuple es k pos) (Bl K n t):=h▸BX hc hh hn hst
theorem F3 {elts:List Expr} {x1} {tpos:Pos} {a b:Expr} {ta:TA} {p pos:Pos} (h:X.K=K) (hg:Gl X "zip") (hm:X.mg "zip" = none) (ha:PA X [a,b] ta) (hs:starEach [a,b] X.env=[(false,eval a X.env),(false,eval b X.env)]) (hs2:starEach [b] X.env=[(false,eval b X.env)]):
 PI X (.Tuple elts x1 tpos) (.Call (.Name "zip" p) [a,b] [] pos) (Bh K ta):=h▸Cy hg hm ha hs hs2
variable {o e:Expr} {es:List Expr} {to:TE} {t:TA} {name:Str} {apos cpos:Pos} {T id:String} {r:V->List V->Hp->VK->Prop}
theorem xE (h:X.K=K) (pa:PlainAttrs T) (slot:Slot T name id) (hty:typeOf (.builtin id)=pure (.type "method_descriptor")) (hm:Df X id r) (ho:PE X o to)
 (hbase:attributeBase o name X.env (eval o X.env)=eval o X.env:=by rfl) (hline:(apos.endLine==cpos.line)=true:=by rfl):PE X (.Call (.Attribute o name apos) [] [] cpos) (xj K T r to):=h▸C5 pa slot hty hm ho hbase hline
theorem A3 (h:X.K=K) (pa:PlainAttrs T) (slot:Slot T name id) (hty:typeOf (.builtin id)=pure (.type "method_descriptor")) (hm:Df X id r) (ho:PE X o to) (ha:PA X (e::es) t)
 (hbase:attributeBase o name X.env (eval o X.env)=eval o X.env:=by rfl)
 (hfew:((backTo cpos (starEach (e::es) X.env)).all (λ x=>!x.1)&&(backToKw cpos (keywordEach [] X.env)).all (λ x=>x.1.isSome)
  && decide ((e::es).length+([]:List Keyword).length+(if ([]:List Keyword).isEmpty then 0 else 1)<30))=true:=by rfl)
 (hline:(apos.endLine==cpos.line)=true:=by rfl) (hs:starEach (e::es) X.env=(false,eval e X.env)::starEach es X.env:=by rfl) (hplain:(backTo cpos (starEach es X.env)).any (·.1)=false:=by rfl):
 PE X (.Call (.Attribute o name apos) (e::es) [] cpos) (E2 K T r to t):=h▸E8 pa slot hty hm ho ha hbase hfew hline hs hplain
end
theorem iu {H:Hp} {p:Addr} (h:H p=none) (o:HO):bg H (cq H p o):=λ b u q=>by rw [aD (bv q h)];exact q
theorem bg.tup {K:Frag} {H H':Hp} {a:Addr} {xs:List V} (g:bg H H') (q:fS K H a xs):fS K H' a xs:=by
 rcases q with (h | ⟨o,h⟩) | h
 . exact .inl (.inl (g _ _ h))
 . exact .inl (.inr ⟨o,g _ _ h⟩)
 . exact .inr h
noncomputable def Nw (H H':Hp) (p:Addr) (o:HO):Prop:=bg H H'/\H p=none/\H' p=some o
theorem Nw.of {H:Hp} {p:Addr} {o:HO} (h:H p=none):Nw H (cq H p o) p o:=⟨iu h o,h,aJ⟩
noncomputable def zy (t:TA):TE:=λ σ H Q=>t σ H λ xs H1=>xs.length<=sizeLine/\∀ p H',Nw H1 H' p (.tup xs)->Q (.ref p) H'
noncomputable def sK (t:TA):TE:=λ σ H Q=>t σ H λ xs H1=>xs.length<=sizeLine/\∀ p H',Nw H1 H' p (.lst xs)->Q (.ref p) H'
section
variable {X:Cx} {K:Frag} {es:List Expr} {t:TA} {pos:Pos}
theorem Ga {x1} (h:PA X es t):PE X (.Tuple es x1 pos) (zy t):=λ pins s σ H Q I hq=>wpAny_Tuple_spliced (bK (h pos pins s σ H _ I hq) λ us s1 ⟨xs,H1,I1,r,z,q⟩=>⟨by rw [<-r.length];exact z,
 .ref s1.heap.objs.size,_,I1.laid (t':=s1.toks) (o:=.tup xs) (λ b u e=>Heap.get?_push_of_some _ e) (Nat.le_refl _) ⟨z,us,r,⟨_,Heap.get?_push_size _ rfl,rfl,_,rfl⟩⟩,rfl,q _ _ (.of (I1.hok.fresh (Nat.le_refl _)))⟩)
theorem F0 (h:PA X es t):PE X (.List es pos) (sK t):=λ pins s σ H Q I hq=>wpAny_List_spliced (bK (h pos pins s σ H _ I hq) λ us s1 ⟨xs,H1,I1,r,z,q⟩=>⟨by rw [<-r.length];exact z,
 .ref s1.heap.objs.size,_,I1.laid (t':=s1.toks) (o:=.lst xs) (λ b u e=>Heap.get?_push_of_some _ e) (Nat.le_refl _) ⟨z,us,0,r,Heap.get?_push_size _ rfl⟩,rfl,q _ _ (.of (I1.hok.fresh (Nat.le_refl _)))⟩)
noncomputable def zP (K:Frag):V->Option Int->Option Int->Hp->VK->Prop:=λ x lo hi H Q=>∃ a xs,x=.ref a/\cY K H a xs/\∀ p H',Nw H H' p (.lst (qr xs lo hi))->Q (.ref p) H'
theorem Dd (h:X.K=K):Do X (zP K):=λ pins s σ H x v vl vu lo hi sl Q I rx hs pl pu hy0=>by obtain ⟨a,xs,e,q,r⟩:=hy0;exact uY h pins s σ H x v vl vu lo hi sl Q I rx hs pl pu ⟨a,xs,e,q,λ p hp=>r p _ (.of hp)⟩
end
section
variable {X:Cx} {K:Frag}
end
noncomputable def sI:Value->Option Str
 | .str x _=>some x
 | _=>none
noncomputable def xA (us:List Value) (ws:List Str):Bool:=decide (us.map sI=ws.map some)
theorem tR {u:Value} {y:Str} (h:sI u=some y):be (.str y) u:=by
 unfold sI at h
 split at h
 . cases h;exact ⟨_,rfl⟩
 . cases h
theorem j3:∀ {us:List Value} {ws:List Str},us.map sI=ws.map some->bf (ws.map V.str) us
 | [],[],_=>.nil
 | u::r,y::s,h=>by
  simp only [List.map_cons,List.cons.injEq] at h
  exact .cons (tR h.1) (j3 h.2)
 | [],_::_,h=>by simp at h
 | _::_,[],h=>by simp at h
noncomputable def rc (o:Obj) (ws:List Str):Bool:=match o.data with
 | .seq its _=>xA its.toList ws&&decide (its.size<=1000)
 | _=>false
theorem tM {K:Frag} {H:Hp} {a:Addr} {o:Obj} {ws:List Str} (h:K.lookup a=some o) (hc:o.cls=.type "tuple") (ht:rc o ws=true):fS K H a (ws.map V.str):=by
 unfold rc at ht
 split at ht
 . rename_i its n e
   rw [Bool.and_eq_true] at ht
   exact .inr ⟨o,its,n,h,hc,e,Nat.le_of_lt (tW (by simpa using ht.2)),j3 (of_decide_eq_true ht.1)⟩
 . cases ht
section
variable {K:Frag} {x D:Addr} {prog:Program} {w:World} {A:Around} {E:Value->Shared->Prop} {s:Shared}
end
section
variable {X:Cx} {K:Frag}
end
section
variable {P:Program} {w:World} {A:Around} {E:Value->Shared->Prop} {s:Shared}
end
section
variable {X:Cx} {K:Frag}
end
section
variable {K:Frag} {a b:Addr} {xs ys:List V} {wi:TI} {g:TG} {σ:St} {H H1:Hp} {ix:List (Option Nat)} {tc:TT} {te:TE} {Q:VK}
end
section
variable {K:Frag} {a:Addr} {xs:List V} {wi:TI} {g:TG} {σ:St} {H H1:Hp} {ix:List (Option Nat)} {tc:TT} {te:TE} {Q:VK}
end
inductive W where
 | none | bool (b:Bool) | int (i:Int) | str (x:Str) | list (ds:List W) | tuple (ds:List W) | ref (n:Nat)
mutual
inductive Dw (K:Frag) (ρ:List Addr) (H:Hp):V->W->Prop
 | non:Dw K ρ H .non .none
 | bl (b:Bool):Dw K ρ H (.bl b) (.bool b)
 | int (i:Int):Dw K ρ H (.int i) (.int i)
 | str (x:Str):Dw K ρ H (.str x) (.str x)
 | lst {a:Addr} {xs:List V} {ds:List W}:cY K H a xs->az K ρ H xs ds->Dw K ρ H (.ref a) (.list ds)
 | tup {a:Addr} {xs:List V} {ds:List W}:H a=some (.tup xs)->az K ρ H xs ds->Dw K ρ H (.ref a) (.tuple ds)
 | ref {a:Addr} {n:Nat}:ρ[n]?=some a->Dw K ρ H (.ref a) (.ref n)
inductive az (K:Frag) (ρ:List Addr) (H:Hp):List V->List W->Prop
 | nil:az K ρ H [] []
 | cons {v:V} {vs:List V} {d:W} {ds:List W}:Dw K ρ H v d->az K ρ H vs ds->az K ρ H (v::vs) (d::ds)
end
theorem Dw.mapG {K:Frag} {ρ ρ':List Addr} {H H':Hp} (hs:∀ a xs,cY K H a xs->cY K H' a xs) (ht:∀ a xs,H a=some (.tup xs)->H' a=some (.tup xs)) (hr:∀ (n:Nat) (a:Addr),ρ[n]?=some a->ρ'[n]?=some a) {v:V} {d:W} (h:Dw K ρ H v d):Dw K ρ' H' v d:=
 Dw.rec (motive_1:=λ v d _=>Dw K ρ' H' v d) (motive_2:=λ vs ds _=>az K ρ' H' vs ds) .non .bl .int .str (λ q _ ih=>.lst (hs _ _ q) ih) (λ q _ ih=>.tup (ht _ _ q) ih) (λ e=>.ref (hr _ _ e)) .nil (λ _ _ a b=>.cons a b) h
theorem az.ind {K:Frag} {ρ:List Addr} {H:Hp} {M:List V->List W->Prop} (h0:M [] []) (h1:∀ v vs d ds,Dw K ρ H v d->M vs ds->M (v::vs) (d::ds)) {vs:List V} {ds:List W} (h:az K ρ H vs ds):M vs ds:=
 az.rec (motive_1:=λ _ _ _=>True) (motive_2:=λ vs ds _=>M vs ds) trivial (λ _=>trivial) (λ _=>trivial) (λ _=>trivial) (λ _ _ _=>trivial) (λ _ _ _=>trivial) (λ _=>trivial) h0 (λ a _ _ ih=>h1 _ _ _ _ a ih) h
theorem Dw.same {K:Frag} {ρ:List Addr} {H H':Hp} (g:bg H H') {v:V} {d:W} (h:Dw K ρ H v d):Dw K ρ H' v d:=h.mapG (λ _ _ q=>g.seq q) (λ _ _ q=>g _ _ q) λ _ _ e=>e
theorem az.mapA {K:Frag} {ρ ρ':List Addr} {H H':Hp} (f:∀ v d,Dw K ρ H v d->Dw K ρ' H' v d) {vs:List V} {ds:List W} (h:az K ρ H vs ds):az K ρ' H' vs ds:=h.ind (M:=λ vs ds=>az K ρ' H' vs ds) .nil λ _ _ _ _ a b=>.cons (f _ _ a) b
theorem az.same {K:Frag} {ρ:List Addr} {H H':Hp} (g:bg H H') {vs:List V} {ds:List W} (h:az K ρ H vs ds):az K ρ H' vs ds:=h.mapA λ _ _ a=>a.same g
mutual
noncomputable def W.py:W->Option PyData
 | .none=>some .none
 | .bool b=>some (.bool b)
 | .int i=>some (.int i)
 | .str x=>some (.str x)
 | .list ds=>(W.pys ds).map .list
 | .tuple ds=>(W.pys ds).map .tuple
 | .ref _=>Option.none
noncomputable def W.pys:List W->Option (List PyData)
 | []=>some []
 | d::ds=>(W.py d).bind λ x=>(W.pys ds).map (x::·)
end
theorem Dw.dp {K:Frag} {ρ:List Addr} {H:Hp} {v:V} {d:W} {x:PyData} (h:Dw K ρ H v d):d.py=some x->Dp K H v x:=
 Dw.rec (motive_1:=λ v d _=>∀ x,d.py=some x->Dp K H v x) (motive_2:=λ vs ds _=>∀ xs,W.pys ds=some xs->ki K H vs xs)
  (λ x e=>by cases e;exact .non) (λ b x e=>by cases e;exact .bl b) (λ i x e=>by cases e;exact .int i) (λ y x e=>by cases e;exact .str y)
  (λ q _ ih x e=>by
   obtain ⟨xs,e1,rfl⟩:=oM e
   exact .lst q (ih _ e1))
  (λ q _ ih x e=>by
   obtain ⟨xs,e1,rfl⟩:=oM e
   exact .tup (fS.of q) (ih _ e1))
  (λ _ x e=>by cases e) (λ xs e=>by cases e;exact .nil)
  (λ _ _ ih1 ih2 xs e=>by
   obtain ⟨x,e1,e⟩:=oB e
   obtain ⟨ys,e2,rfl⟩:=oM e
   exact .cons (ih1 _ e1) (ih2 _ e2)) h x
inductive Sl where
 | no
 | val (d:W)
 | own (ds:List W)
noncomputable abbrev DS:=List Sl
noncomputable def qt (K:Frag) (ρ:List Addr) (G H:Hp):Sl->Option V->Prop
 | .no,_=>True
 | .val d,o=>∃ v,o=some v/\Dw K ρ G v d
 | .own ds,o=>∃ p vs,o=some (.ref p)/\G p=none/\H p=some (.lst vs)/\az K ρ G vs ds
noncomputable def nT (H:Hp) (b:Addr):Prop:=H b≠none/\∀ xs,H b≠some (.tup xs)
theorem nT.of {H:Hp} {b:Addr} {o:HO} (h:H b=some o) (n:∀ xs,o≠.tup xs):nT H b:=⟨by rw [h];exact nofun,λ xs z=>n xs (by rw [h] at z;cases z;rfl)⟩
theorem nT.l {H:Hp} {b:Addr} {vs:List V} (h:H b=some (.lst vs)):nT H b:=.of h λ _ z=>by cases z
theorem nT.same {H H':Hp} {b:Addr} (x:nT H b) (s:bg H H'):nT H' b:=by
 cases q:H b with
 | none=>exact absurd q x.1
 | some o=>exact .of (s b o q) λ xs z=>x.2 xs (by rw [q,z])
structure Gr (G H G' H':Hp):Prop where
 g:bg G G'
 h:bg H H'
 s:bg G' H'
 n:∀ b,nT H b->G b=none->G' b=none
theorem n9 {H H':Hp} (s:bg H H') {b:Addr} (h:H b≠none):H' b≠none:=λ e=>by
 cases q:H b with
 | none=>exact h q
 | some o=>
  have:=s b o q
  rw [e] at this
  cases this
theorem dD {G H:Hp} (s:bg G H) {b:Addr} (h:H b=none):G b=none:=by
 cases q:G b with
 | none=>rfl
 | some o=>
  have:=s b o q
  rw [h] at this
  cases this
theorem Gr.refl {G H:Hp} (s:bg G H):Gr G H G H:=⟨.refl _,.refl _,s,λ _ _ h=>h⟩
theorem Gr.trans {G H G1 H1 G2 H2:Hp} (a:Gr G H G1 H1) (b:Gr G1 H1 G2 H2):Gr G H G2 H2:=
 ⟨a.g.trans b.g,a.h.trans b.h,b.s,λ c h1 h2=>b.n c (h1.same a.h) (a.n c h1 h2)⟩
theorem iE {G H':Hp} {p:Addr} {o:HO} (s:bg G H') (h:H' p=some o):bg (cq G p o) H':=λ b u e=>by
 by_cases hb:b=p
 . subst hb
   rw [aJ] at e
   cases e
   exact h
 . rw [aD hb] at e
   exact s _ _ e
theorem Gr.new {G H G' H':Hp} {p:Addr} {o:HO} (a:Gr G H G' H') (h0:H p=none) (g0:G' p=none) (h:H' p=some o):Gr G H (cq G' p o) H':=
 ⟨a.g.trans (iu g0 o),a.h,iE a.s h,λ b h1 h2=>by
  rw [aD (λ e=>h1.1 (by rw [e];exact h0))]
  exact a.n b h1 h2⟩
theorem Gr.nw {G H H':Hp} {p:Addr} {o:HO} (s:bg G H) (n:Nw H H' p o):Gr G H (cq G p o) H':=
 Gr.new ⟨.refl _,n.1,s.trans n.1,λ _ _ h=>h⟩ n.2.1 (dD s n.2.1) n.2.2
theorem Gr.nwO {G H H':Hp} {p:Addr} {o:HO} (s:bg G H) (n:Nw H H' p o):Gr G H G H':=⟨.refl _,n.1,s.trans n.1,λ _ _ h=>h⟩
structure Rl (K:Frag) (ρ:List Addr) (G H:Hp) (δ:DS) (σ:St):Prop where
 sub:bg G H
 len:δ.length=σ.length
 sl:∀ (i:Nat) s,δ[i]?=some s->∃ o,σ[i]?=some o/\qt K ρ G H s o
 apart:∀ (i j:Nat) p ds es,δ[i]?=some (.own ds)->δ[j]?=some (.own es)->σ[i]?=some (some (.ref p))->σ[j]?=some (some (.ref p))->i=j
theorem qt.grow {K:Frag} {ρ:List Addr} {G H G' H':Hp} (g:Gr G H G' H') {s:Sl} {o:Option V} (h:qt K ρ G H s o):qt K ρ G' H' s o:=by
 cases s with
 | no=>exact trivial
 | val d=>
  obtain ⟨v,e,h⟩:=h
  exact ⟨v,e,h.same g.g⟩
 | own ds=>
  obtain ⟨p,vs,e,h1,h2,h3⟩:=h
  exact ⟨p,vs,e,g.n p (.l h2) h1,g.h _ _ h2,h3.same g.g⟩
theorem Rl.grow {K:Frag} {ρ:List Addr} {G H G' H':Hp} {δ:DS} {σ:St} (R:Rl K ρ G H δ σ) (g:Gr G H G' H'):Rl K ρ G' H' δ σ:=
 ⟨g.s,R.len,λ i s e=>by
  obtain ⟨o,h1,h2⟩:=R.sl i s e
  exact ⟨o,h1,h2.grow g⟩,R.apart⟩
theorem dt {α:Type} {xs:List α} {i j:Nat} {a b:α} (h:(xs.set i a)[j]?=some b):(i=j/\a=b/\j<xs.length)∨(i≠j/\xs[j]?=some b):=by
 by_cases e:i=j
 . subst e
   rw [List.getElem?_set] at h
   simp only [if_true] at h
   split at h
   . rename_i hl
     cases h
     exact .inl ⟨rfl,rfl,hl⟩
   . cases h
 . rw [List.getElem?_set_ne e] at h
   exact .inr ⟨e,h⟩
theorem jQ {α:Type} {xs:List α} {i:Nat} {a:α} (h:i<xs.length):(xs.set i a)[i]?=some a:=by
 rw [List.getElem?_set]
 simp [h]
noncomputable def fj (δ':DS) (σ':St) (δ:DS) (σ:St):Prop:=∀ (i:Nat) ds p,δ'[i]?=some (.own ds)->σ'[i]?=some (some (.ref p))->∃ es,δ[i]?=some (.own es)/\σ[i]?=some (some (.ref p))
theorem fj.refl (δ:DS) (σ:St):fj δ σ δ σ:=λ i ds p h1 h2=>⟨ds,h1,h2⟩
theorem fj.trans {δ δ1 δ2:DS} {σ σ1 σ2:St} (a:fj δ2 σ2 δ1 σ1) (b:fj δ1 σ1 δ σ):fj δ2 σ2 δ σ:=λ i ds p h1 h2=>by
 obtain ⟨es,h3,h4⟩:=a i ds p h1 h2
 exact b i es p h3 h4
theorem ja {δ:DS} {σ:St} {i:Nat} {d:W} {v:V} (h:δ.length=σ.length):fj (δ.set i (.val d)) (σ.set i (some v)) δ σ:=λ j ds p h1 h2=>by
 rcases dt h1 with ⟨_,e,_⟩ | ⟨ne,h1⟩
 . cases e
 . rw [List.getElem?_set_ne ne] at h2
   exact ⟨ds,h1,h2⟩
theorem Rl.set {K:Frag} {ρ:List Addr} {G H:Hp} {δ:DS} {σ:St} {i:Nat} {d:W} {v:V} (R:Rl K ρ G H δ σ) (h:Dw K ρ G v d):Rl K ρ G H (δ.set i (.val d)) (σ.set i (some v)):=
 ⟨R.sub,by rw [List.length_set,List.length_set];exact R.len,λ j s e=>by
  rcases dt e with ⟨rfl,rfl,hl⟩ | ⟨ne,e⟩
  . exact ⟨_,jQ (by rw [<-R.len];exact hl),v,rfl,h⟩
  . rw [List.getElem?_set_ne ne]
    exact R.sl j s e,λ j k p ds es h1 h2 h3 h4=>by
  obtain ⟨ds',a1,a2⟩:=ja (v:=v) R.len j ds p h1 h3
  obtain ⟨es',b1,b2⟩:=ja (v:=v) R.len k es p h2 h4
  exact R.apart j k p _ _ a1 b1 a2 b2⟩
theorem Rl.setO {K:Frag} {ρ:List Addr} {G H:Hp} {δ:DS} {σ:St} {i:Nat} {ds:List W} {p:Addr} {vs:List V} (R:Rl K ρ G H δ σ) (g0:G p=none) (h:H p=some (.lst vs)) (hd:az K ρ G vs ds)
 (hn:∀ (j:Nat) es,j≠i->δ[j]?=some (.own es)->σ[j]?≠some (some (.ref p))):Rl K ρ G H (δ.set i (.own ds)) (σ.set i (some (.ref p))):=
 ⟨R.sub,by rw [List.length_set,List.length_set];exact R.len,λ j s e=>by
  rcases dt e with ⟨rfl,rfl,hl⟩ | ⟨ne,e⟩
  . exact ⟨_,jQ (by rw [<-R.len];exact hl),p,vs,rfl,g0,h,hd⟩
  . rw [List.getElem?_set_ne ne]
    exact R.sl j s e,λ j k q ds' es' h1 h2 h3 h4=>by
  rcases dt h1 with ⟨rfl,_,hl⟩ | ⟨ne,h1⟩ <;> rcases dt h2 with ⟨rfl,_,hl2⟩ | ⟨ne2,h2⟩
  . rfl
  . rw [jQ (by rw [<-R.len];exact hl)] at h3
    rw [List.getElem?_set_ne ne2] at h4
    cases h3
    exact absurd h4 (hn k es' (Ne.symm ne2) h2)
  . rw [jQ (by rw [<-R.len];exact hl2)] at h4
    rw [List.getElem?_set_ne ne] at h3
    cases h4
    exact absurd h3 (hn j ds' (Ne.symm ne) h1)
  . rw [List.getElem?_set_ne ne] at h3
    rw [List.getElem?_set_ne ne2] at h4
    exact R.apart j k q _ _ h1 h2 h3 h4⟩
noncomputable def DE (K:Frag) (ρ:List Addr) (t:TE) (f:DS->Option W):Prop:=
 ∀ (G:Hp) (σ:St) (H:Hp) (δ:DS) (d:W) (Q:VK),Rl K ρ G H δ σ->f δ=some d->(∀ v G' H',Gr G H G' H'->Dw K ρ G' v d->Q v H')->t σ H Q
noncomputable def DA (K:Frag) (ρ:List Addr) (t:TA) (f:DS->Option (List W)):Prop:=
 ∀ (G:Hp) (σ:St) (H:Hp) (δ:DS) (ds:List W) (Q:List V->Hp->Prop),Rl K ρ G H δ σ->f δ=some ds->(∀ vs G' H',Gr G H G' H'->az K ρ G' vs ds->Q vs H')->t σ H Q
noncomputable def DT (K:Frag) (ρ:List Addr) (t:TT) (f:DS->Option Bool):Prop:=
 ∀ (G:Hp) (σ:St) (H:Hp) (δ:DS) (b:Bool) (Q:Bool->Hp->Prop),Rl K ρ G H δ σ->f δ=some b->(∀ G' H',Gr G H G' H'->Q b H')->t σ H Q
noncomputable def DO (K:Frag) (ρ:List Addr) (t:TE) (f:DS->Option (List W)):Prop:=
 ∀ (G:Hp) (σ:St) (H:Hp) (δ:DS) (ds:List W) (Q:VK),Rl K ρ G H δ σ->f δ=some ds->(∀ p vs G' H',Gr G H G' H'->H p=none->G' p=none->H' p=some (.lst vs)->az K ρ G' vs ds->Q (.ref p) H')->t σ H Q
noncomputable def Pk (K:Frag) (ρ:List Addr) (G H:Hp) (v:V) (d:W):Prop:=Dw K ρ G v d∨∃ p vs ds,v=.ref p/\d=.list ds/\H p=some (.lst vs)/\az K ρ G vs ds
noncomputable def DK (K:Frag) (ρ:List Addr) (t:TE) (f:DS->Option W):Prop:=
 ∀ (G:Hp) (σ:St) (H:Hp) (δ:DS) (d:W) (Q:VK),Rl K ρ G H δ σ->f δ=some d->(∀ v G' H',Gr G H G' H'->Pk K ρ G' H' v d->Q v H')->t σ H Q
section
variable {K:Frag} {ρ:List Addr}
theorem Pk.dp {G H:Hp} {v:V} {d:W} (s:bg G H) (h:Pk K ρ G H v d):Dw K ρ H v d:=by
 rcases h with h | ⟨p,vs,ds,rfl,rfl,h1,h2⟩
 . exact h.same s
 . exact .lst (cY.of h1) (h2.same s)
theorem Pk.grow {G H G' H':Hp} {v:V} {d:W} (g:Gr G H G' H') (h:Pk K ρ G H v d):Pk K ρ G' H' v d:=by
 rcases h with h | ⟨p,vs,ds,rfl,rfl,h1,h2⟩
 . exact .inl (h.same g.g)
 . exact .inr ⟨p,vs,ds,rfl,rfl,g.h _ _ h1,h2.same g.g⟩
theorem DE.dk {t:TE} {f:DS->Option W} (h:DE K ρ t f):DK K ρ t f:=λ G σ H δ d Q R e q=>h G σ H δ d Q R e λ v G' H' g dv=>q v G' H' g (.inl dv)
noncomputable def b0 (f:DS->Option (List W)):DS->Option W:=λ δ=>(f δ).map .list
theorem DO.de {t:TE} {f:DS->Option (List W)} (h:DO K ρ t f):DE K ρ t (b0 f):=λ G σ H δ d Q R e q=>by
 obtain ⟨ds,e1,rfl⟩:=oM e
 exact h G σ H δ ds Q R e1 λ p vs G' H' g h0 g0 hh da=>q _ _ H' (g.new h0 g0 hh) (.lst (cY.of aJ) (da.same (iu g0 _)))
noncomputable def af (i:Nat):DS->Option W:=λ δ=>match δ[i]? with
 | some (.val d)=>some d
 | _=>none
theorem Bz {i:Nat}:DE K ρ (yz i) (af i):=λ G σ H δ d Q R e q=>by
 unfold af at e
 split at e
 . rename_i d' h
   cases e
   obtain ⟨o,h1,v,h2,h3⟩:=R.sl i _ h
   exact ⟨v,by rw [h1,h2],q v G H (.refl R.sub) h3⟩
 . cases e
noncomputable def aw (i:Nat):DS->Option W:=λ δ=>match δ[i]? with
 | some (.val d)=>some d
 | some (.own ds)=>some (.list ds)
 | _=>none
theorem BR {i:Nat}:DK K ρ (yz i) (aw i):=λ G σ H δ d Q R e q=>by
 unfold aw at e
 split at e
 . rename_i d' h
   cases e
   obtain ⟨o,h1,v,h2,h3⟩:=R.sl i _ h
   exact ⟨v,by rw [h1,h2],q v G H (.refl R.sub) (.inl h3)⟩
 . rename_i ds h
   cases e
   obtain ⟨o,h1,p,vs,h2,h3,h4,h5⟩:=R.sl i _ h
   exact ⟨.ref p,by rw [h1,h2],q _ G H (.refl R.sub) (.inr ⟨p,vs,ds,rfl,rfl,h4,h5⟩)⟩
 . cases e
noncomputable def dC (d:W):DS->Option W:=λ _=>some d
theorem xX {v:V} {d:W} (h:∀ G,Dw K ρ G v d):DE K ρ (tC v) (dC d):=λ G σ H δ d' Q R e q=>by
 cases e
 exact q v G H (.refl R.sub) (h G)
theorem BY {i:Int}:DE K ρ (tC (.int i)) (dC (.int i)):=xX λ _=>.int i
theorem DX {b:Bool}:DE K ρ (tC (.bl b)) (dC (.bool b)):=xX λ _=>.bl b
theorem A5 {x:Str}:DE K ρ (tC (.str x)) (dC (.str x)):=xX λ _=>.str x
theorem AC:DE K ρ (tC .non) (dC .none):=xX λ _=>.non
noncomputable def DR (K:Frag) (ρ:List Addr) (r:R2) (g:W->W->Option W):Prop:=
 ∀ (G H:Hp) (x y:V) (d e c:W) (Q:VK),bg G H->Pk K ρ G H x d->Dw K ρ G y e->g d e=some c->(∀ v G' H',Gr G H G' H'->Dw K ρ G' v c->Q v H')->r x y H Q
noncomputable def av (g:W->W->Option W) (fa fb:DS->Option W):DS->Option W:=λ δ=>(fa δ).bind λ x=>(fb δ).bind λ y=>g x y
theorem Dr {r:R2} {ta tb:TE} {fa fb:DS->Option W} {g:W->W->Option W} (hr:DR K ρ r g) (ha:DK K ρ ta fa) (hb:DE K ρ tb fb):DE K ρ (oW r ta tb) (av g fa fb):=λ G σ H δ d Q R e q=>by
 obtain ⟨x,ex,e⟩:=oB e
 obtain ⟨y,ey,e⟩:=oB e
 exact ha G σ H δ x _ R ex λ v G1 H1 g1 dv=>hb G1 σ H1 δ y _ (R.grow g1) ey λ u G2 H2 g2 du=>hr G2 H2 v u x y d Q g2.s (dv.grow g2) du e λ w G3 H3 g3 dw=>q w G3 H3 (g1.trans (g2.trans g3)) dw
noncomputable def DB (K:Frag) (ρ:List Addr) (r:R2) (g:W->W->Option Bool):Prop:=
 ∀ (H:Hp) (x y:V) (d e:W) (b:Bool) (Q:VK),Dw K ρ H x d->Dw K ρ H y e->g d e=some b->Q (.bl b) H->r x y H Q
noncomputable def aB (g:W->W->Option Bool) (fa fb:DS->Option W):DS->Option Bool:=λ δ=>(fa δ).bind λ x=>(fb δ).bind λ y=>g x y
noncomputable def dB (f:DS->Option Bool):DS->Option W:=λ δ=>(f δ).map .bool
theorem nr {r:R2} {ta tb:TE} {fa fb:DS->Option W} {g:W->W->Option Bool} (hr:DB K ρ r g) (ha:DK K ρ ta fa) (hb:DK K ρ tb fb) {G:Hp} {σ:St} {H:Hp} {δ:DS} {b:Bool} {Q:VK} (R:Rl K ρ G H δ σ) (e:aB g fa fb δ=some b) (q:∀ G' H',Gr G H G' H'->Q (.bl b) H'):oW r ta tb σ H Q:=by
 obtain ⟨x,ex,e⟩:=oB e
 obtain ⟨y,ey,e⟩:=oB e
 exact ha G σ H δ x _ R ex λ v G1 H1 g1 dv=>hb G1 σ H1 δ y _ (R.grow g1) ey λ u G2 H2 g2 du=>hr H2 v u x y b Q ((dv.grow g2).dp g2.s) (du.dp g2.s) e (q G2 H2 (g1.trans g2))
theorem AR {r:R2} {ta tb:TE} {fa fb:DS->Option W} {g:W->W->Option Bool} (hr:DB K ρ r g) (ha:DK K ρ ta fa) (hb:DK K ρ tb fb):DE K ρ (oW r ta tb) (dB (aB g fa fb)):=λ G σ H δ d Q R e q=>by
 obtain ⟨b,e1,rfl⟩:=oM e
 exact nr hr ha hb R e1 λ G' H' g=>q _ G' H' g (.bl b)
theorem A6 {r:R2} {ta tb:TE} {fa fb:DS->Option W} {g:W->W->Option Bool} (hr:DB K ρ r g) (ha:DK K ρ ta fa) (hb:DK K ρ tb fb):DT K ρ (kr (oW r ta tb)) (aB g fa fb):=λ G σ H δ b Q R e q=>
 nr hr ha hb R e λ G' H' g=>⟨b,rfl,q G' H' g⟩
noncomputable def wX:W->Option Bool
 | .bool b=>some b
 | _=>none
noncomputable def lJ (f:DS->Option W):DS->Option Bool:=λ δ=>(f δ).bind wX
theorem qC {d:W} {b:Bool} (h:wX d=some b):d=.bool b:=by
 cases d <;> first | (cases h;rfl) | cases h
theorem Cj {t:TE} {f:DS->Option W} (h:DE K ρ t f):DT K ρ (tB t) (lJ f):=λ G σ H δ b Q R e q=>by
 obtain ⟨x,ex,e⟩:=oB e
 cases qC e
 exact h G σ H δ _ _ R ex λ v G1 H1 g1 dv=>by
  cases dv
  exact ⟨b,rfl,q G1 H1 g1⟩
noncomputable def pc (f g:DS->Option Bool):DS->Option Bool:=λ δ=>(f δ).bind λ b=>if b=true then g δ else some false
noncomputable def qm (f g:DS->Option Bool):DS->Option Bool:=λ δ=>(f δ).bind λ b=>if b=true then some true else g δ
noncomputable def sN (f:DS->Option Bool):DS->Option Bool:=λ δ=>(f δ).map (!·)
theorem BO {t u:TT} {f g:DS->Option Bool} (h1:DT K ρ t f) (h2:DT K ρ u g):DT K ρ (Cp t u) (pc f g):=λ G σ H δ b Q R e q=>by
 obtain ⟨x,ex,e⟩:=oB e
 refine h1 G σ H δ x _ R ex λ G1 H1 g1=>?_
 cases x with
 | true=>exact h2 G1 σ H1 δ b Q (R.grow g1) e λ G2 H2 g2=>q G2 H2 (g1.trans g2)
 | false=>cases e;exact q G1 H1 g1
theorem DQ {t u:TT} {f g:DS->Option Bool} (h1:DT K ρ t f) (h2:DT K ρ u g):DT K ρ (Hq t u) (qm f g):=λ G σ H δ b Q R e q=>by
 obtain ⟨x,ex,e⟩:=oB e
 refine h1 G σ H δ x _ R ex λ G1 H1 g1=>?_
 cases x with
 | false=>exact h2 G1 σ H1 δ b Q (R.grow g1) e λ G2 H2 g2=>q G2 H2 (g1.trans g2)
 | true=>cases e;exact q G1 H1 g1
theorem AT {t:TT} {f:DS->Option Bool} (h:DT K ρ t f):DT K ρ (AL t) (sN f):=λ G σ H δ b Q R e q=>by
 obtain ⟨x,ex,rfl⟩:=oM e
 exact h G σ H δ x _ R ex q
noncomputable def EF (f g:DS->Option W):DS->Option W:=λ δ=>(f δ).bind λ x=>(wX x).bind λ b=>if b=true then g δ else some (.bool false)
noncomputable def G7 (f g:DS->Option W):DS->Option W:=λ δ=>(f δ).bind λ x=>(wX x).bind λ b=>if b=true then some (.bool true) else g δ
noncomputable def De (f:DS->Option W):DS->Option W:=λ δ=>(f δ).bind λ x=>(wX x).map λ b=>.bool (!b)
noncomputable def CQ (c:DS->Option Bool) (f g:DS->Option W):DS->Option W:=λ δ=>(c δ).bind λ b=>if b=true then f δ else g δ
theorem DD {tc:TT} {t u:TE} {c:DS->Option Bool} {f g:DS->Option W} (hc:DT K ρ tc c) (h1:DE K ρ t f) (h2:DE K ρ u g):DE K ρ (GO tc t u) (CQ c f g):=λ G σ H δ d Q R e q=>by
 obtain ⟨b,eb,e⟩:=oB e
 refine hc G σ H δ b _ R eb λ G1 H1 g1=>?_
 cases b with
 | true=>exact h1 G1 σ H1 δ d Q (R.grow g1) e λ v G2 H2 g2 dv=>q v G2 H2 (g1.trans g2) dv
 | false=>exact h2 G1 σ H1 δ d Q (R.grow g1) e λ v G2 H2 g2 dv=>q v G2 H2 (g1.trans g2) dv
noncomputable def ah:DS->Option (List W):=λ _=>some []
noncomputable def aa (f:DS->Option W) (g:DS->Option (List W)):DS->Option (List W):=λ δ=>(f δ).bind λ d=>(g δ).map (d::·)
theorem BA:DA K ρ jJ ah:=λ G σ H δ ds Q R e q=>by
 cases e
 exact q [] G H (.refl R.sub) .nil
theorem yy {t:TE} {u:TA} {f:DS->Option W} {g:DS->Option (List W)} (h1:DE K ρ t f) (h2:DA K ρ u g):DA K ρ (gR t u) (aa f g):=λ G σ H δ ds Q R e q=>by
 obtain ⟨d,ed,e⟩:=oB e
 obtain ⟨es,ee,rfl⟩:=oM e
 exact h1 G σ H δ d _ R ed λ v G1 H1 g1 dv=>h2 G1 σ H1 δ es _ (R.grow g1) ee λ vs G2 H2 g2 da=>q _ G2 H2 (g1.trans g2) (.cons (dv.same g2.g) da)
theorem az.length {G:Hp} {vs:List V} {ds:List W} (h:az K ρ G vs ds):vs.length=ds.length:=h.ind (M:=λ vs ds=>vs.length=ds.length) rfl λ _ _ _ _ _ e=>congrArg (· + 1) e
theorem az.get {G:Hp} {vs:List V} {ds:List W} {i:Nat} {d:W} (h:az K ρ G vs ds):ds[i]?=some d->∃ v,vs[i]?=some v/\Dw K ρ G v d:=
 h.ind (M:=λ vs ds=>∀ (i:Nat) d,ds[i]?=some d->∃ v,vs[i]?=some v/\Dw K ρ G v d) (λ _ _ e=>by cases e) (λ v _ _ _ a ih i d e=>by
  cases i with
  | zero=>cases e;exact ⟨v,rfl,a⟩
  | succ i=>exact ih i d e) i d
theorem az.app {G:Hp} {vs ws:List V} {ds es:List W} (h:az K ρ G vs ds) (h':az K ρ G ws es):az K ρ G (vs++ws) (ds++es):=h.ind (M:=λ vs ds=>az K ρ G (vs++ws) (ds++es)) h' λ _ _ _ _ a ih=>.cons a ih
theorem az.drop {G:Hp} {vs:List V} {ds:List W} (n:Nat) (h:az K ρ G vs ds):az K ρ G (vs.drop n) (ds.drop n):=by
 induction n generalizing vs ds with
 | zero=>exact h
 | succ n ih=>
  cases h with
  | nil=>exact .nil
  | cons _ t=>exact ih t
theorem az.take {G:Hp} {vs:List V} {ds:List W} (n:Nat) (h:az K ρ G vs ds):az K ρ G (vs.take n) (ds.take n):=by
 induction n generalizing vs ds with
 | zero=>exact .nil
 | succ n ih=>
  cases h with
  | nil=>exact .nil
  | cons a t=>exact .cons a (ih t)
theorem az.ints {G:Hp}:∀ (ns:List Int),az K ρ G (ns.map V.int) (ns.map .int)
 | []=>.nil
 | n::r=>.cons (.int n) (az.ints r)
noncomputable def ba (f:DS->Option (List W)):DS->Option W:=λ δ=>(f δ).bind λ ds=>if ds.length<=sizeLine then some (.tuple ds) else none
theorem C7 {t:TA} {f:DS->Option (List W)} (h:DA K ρ t f):DE K ρ (zy t) (ba f):=λ G σ H δ d Q R e q=>by
 obtain ⟨ds,e1,e⟩:=oB e
 split at e
 . rename_i hz
   cases e
   refine h G σ H δ ds _ R e1 λ vs G1 H1 g1 da=>⟨by rw [da.length];exact hz,λ p H' n=>?_⟩
   have g2:=Gr.nw g1.s n
   exact q _ _ H' (g1.trans g2) (.tup aJ (da.same g2.g))
 . cases e
noncomputable def bH (f:DS->Option (List W)):DS->Option (List W):=λ δ=>(f δ).bind λ ds=>if ds.length<=sizeLine then some ds else none
theorem Au {t:TA} {f:DS->Option (List W)} (h:DA K ρ t f):DO K ρ (sK t) (bH f):=λ G σ H δ ds Q R e q=>by
 obtain ⟨ds',e1,e⟩:=oB e
 split at e
 . rename_i hz
   cases e
   refine h G σ H δ _ _ R e1 λ vs G1 H1 g1 da=>⟨by rw [da.length];exact hz,λ p H' n=>?_⟩
   exact q p vs G1 H' (g1.trans (.nwO g1.s n)) (by
    cases hp:H p with
    | none=>rfl
    | some o=>exact absurd (g1.h _ _ hp) (by rw [n.2.1];simp)) (dD g1.s n.2.1) n.2.2 da
 . cases e
end
section
variable {X:Cx} {tg:Expr}
noncomputable def wF (K:Frag) (tl:TE):TI:=λ σ H R=>tl σ H λ x H1=>∃ a,x=.ref a/\(((∃ xs,cY K H1 a xs)/\R (GB K a) H1)∨((∃ xs,fS K H1 a xs)/\R (Hi K a) H1))
theorem Al {l:Expr} {tl:TE} (hl:PE X l tl):PI X tg l (wF X.K tl):=by
 intro pins s σ H R I h
 refine bK (hl pins s σ H _ I h) λ v s1 hq0=>?_
 obtain ⟨x,H1,I1,r1,q1⟩:=hq0
 obtain ⟨a,e,⟨⟨xs,hq⟩,q⟩ | ⟨⟨xs,hq⟩,q⟩⟩:=q1
 all_goals
  subst e
  cases r1
 . obtain ⟨its,rv,p,hz⟩:=I1.list hq
   refine wpAny_pyIter_list p.isList ?_
   refine ⟨s1.heap.objs.size,[s1.heap.objs.size],_,_,H1,rfl,I1.kept (t':=s1.toks) λ b o e=>Heap.get?_push_of_some _ e,tZ a _,⟨_,Heap.get?_push_size _ rfl,rfl,rfl⟩,λ b hb=>?_,q⟩
   have e:b=s1.heap.objs.size:=by simpa using hb
   subst e
   exact I1.fpOk (Nat.le_refl _) (I1.hok.fresh (Nat.le_refl _))
 . obtain ⟨its,rv,p,hz⟩:=I1.tuple hq
   refine wpAny_pyIter_tuple (show s1.heap.IsTuple a its.toArray from p) ?_
   refine ⟨s1.heap.objs.size,[s1.heap.objs.size],_,_,H1,rfl,I1.kept (t':=s1.toks) λ b o e=>Heap.get?_push_of_some _ e,qD a _,⟨_,Heap.get?_push_size _ rfl,rfl,rfl⟩,λ b hb=>?_,q⟩
   have e:b=s1.heap.objs.size:=by simpa using hb
   subst e
   exact I1.fpOk (Nat.le_refl _) (I1.hok.fresh (Nat.le_refl _))
theorem FV {K:Frag} (h:X.K=K) {l:Expr} {tl:TE} (hl:PE X l tl):PI X tg l (wF K tl):=h▸Al hl
end
section
variable {K:Frag} {ρ:List Addr}
noncomputable def yc (K:Frag) (ρ:List Addr) (J:It) (ds:List W) (i:Nat) (G1 H1:Hp):Prop:=
 (∀ d,ds[i]?=some d->J.go i H1/\∀ x H',J.yld i H1 x H'->∃ G',Gr G1 H1 G' H'/\Dw K ρ G' x d)/\(ds.length<=i->J.stop i H1)
noncomputable def JC (K:Frag) (ρ:List Addr) (J:It) (G H:Hp) (ds:List W):Prop:=∀ i G1 H1,Gr G H G1 H1->yc K ρ J ds i G1 H1
noncomputable def GJ (K:Frag) (ρ:List Addr) (J:It) (G:Hp) (ds:List W):Prop:=∀ i G1 H1,bg G G1->bg G1 H1->yc K ρ J ds i G1 H1
noncomputable def DI (K:Frag) (ρ:List Addr) (wi:TI) (f:DS->Option (List W)):Prop:=
 ∀ (G:Hp) (σ:St) (H:Hp) (δ:DS) (ds:List W) (R':It->Hp->Prop),Rl K ρ G H δ σ->f δ=some ds->(∀ J G' H',Gr G H G' H'->GJ K ρ J G' ds->R' J H')->wi σ H R'
noncomputable def He (K:Frag) (ρ:List Addr) (wi:TI) (f:DS->Option (List W)):Prop:=
 ∀ (G:Hp) (σ:St) (H:Hp) (δ:DS) (ds:List W) (R':It->Hp->Prop),Rl K ρ G H δ σ->f δ=some ds->(∀ J G' H',Gr G H G' H'->JC K ρ J G' H' ds->R' J H')->wi σ H R'
noncomputable def nY:W->Option (List W)
 | .list ds=>some ds
 | .tuple ds=>some ds
 | _=>none
noncomputable def dm (f:DS->Option W):DS->Option (List W):=λ δ=>(f δ).bind nY
theorem nI {G1 H1:Hp} {a:Addr} {xs:List V} {ds:List W} {i:Nat} (s:bg G1 H1) (q:cY K H1 a xs) (da:az K ρ G1 xs ds):yc K ρ (GB K a) ds i G1 H1:=by
 refine ⟨λ d hd=>?_,λ h=>⟨xs,q,by rw [da.length];exact h⟩⟩
 obtain ⟨v,h1,h2⟩:=da.get hd
 refine ⟨⟨xs,v,q,h1⟩,λ x H' y=>?_⟩
 obtain ⟨rfl,y⟩:=y
 have:=y xs q
 rw [h1] at this
 cases this
 exact ⟨G1,.refl s,h2⟩
theorem wT {G1 H1:Hp} {a:Addr} {xs:List V} {ds:List W} {i:Nat} (s:bg G1 H1) (q:fS K H1 a xs) (da:az K ρ G1 xs ds):yc K ρ (Hi K a) ds i G1 H1:=by
 refine ⟨λ d hd=>?_,λ h=>⟨xs,q,by rw [da.length];exact h⟩⟩
 obtain ⟨v,h1,h2⟩:=da.get hd
 refine ⟨⟨xs,v,q,h1⟩,λ x H' y=>?_⟩
 obtain ⟨rfl,y⟩:=y
 have:=y xs q
 rw [h1] at this
 cases this
 exact ⟨G1,.refl s,h2⟩
theorem Bj {t:TE} {f:DS->Option W} (h:DE K ρ t f):DI K ρ (wF K t) (dm f):=λ G σ H δ ds R' R e q=>by
 obtain ⟨d,ed,e⟩:=oB e
 refine h G σ H δ d _ R ed λ v G1 H1 g1 dv=>?_
 cases dv with
 | lst sq da=>
  cases e
  exact ⟨_,rfl,.inl ⟨⟨_,g1.s.seq sq⟩,q _ G1 H1 g1 λ i G2 H2 a b=>nI b ((a.trans b).seq sq) (da.same a)⟩⟩
 | tup sq da=>
  cases e
  exact ⟨_,rfl,.inr ⟨⟨_,g1.s.tup (fS.of sq)⟩,q _ G1 H1 g1 λ i G2 H2 a b=>wT b ((a.trans b).tup (fS.of sq)) (da.same a)⟩⟩
 | _=>cases e
theorem xC {t:TE} {f:DS->Option W} (h:DK K ρ t f):He K ρ (wF K t) (dm f):=λ G σ H δ ds R' R e q=>by
 obtain ⟨d,ed,e⟩:=oB e
 refine h G σ H δ d _ R ed λ v G1 H1 g1 dv=>?_
 rcases dv with dv | ⟨p,vs,es,rfl,rfl,hp,da⟩
 . cases dv with
   | lst sq da=>
    cases e
    exact ⟨_,rfl,.inl ⟨⟨_,g1.s.seq sq⟩,q _ G1 H1 g1 λ i G2 H2 g=>nI g.s ((g.g.trans g.s).seq sq) (da.same g.g)⟩⟩
   | tup sq da=>
    cases e
    exact ⟨_,rfl,.inr ⟨⟨_,g1.s.tup (fS.of sq)⟩,q _ G1 H1 g1 λ i G2 H2 g=>wT g.s ((g.g.trans g.s).tup (fS.of sq)) (da.same g.g)⟩⟩
   | _=>cases e
 . cases e
   exact ⟨p,rfl,.inl ⟨⟨_,cY.of hp⟩,q _ G1 H1 g1 λ i G2 H2 g=>nI g.s (cY.of (g.h _ _ hp)) (da.same g.g)⟩⟩
noncomputable def kz (lo:Int) (n:Nat):List W:=(List.range n).map λ i=>.int (lo+(i:Nat))
theorem BU {G:Hp} {lo:Int} {n:Nat}:GJ K ρ (FR lo n) G (kz lo n):=λ i G1 H1 _ s=>by
 refine ⟨λ d hd=>?_,λ h=>show n<=i by simpa [kz] using h⟩
 have hi:i<n:=by
  have:=(oG hd).1
  simpa [kz] using this
 refine ⟨hi,λ x H' y=>?_⟩
 obtain ⟨rfl,rfl⟩:=y
 have:d=.int (lo+i):=by
  unfold kz at hd
  rw [List.getElem?_map,List.getElem?_range hi] at hd
  cases hd
  rfl
 subst this
 exact ⟨G1,.refl s,.int _⟩
noncomputable def qa (j:Int):Bool:=decide (-(2^62)<=j)&&decide (j<2^62)
theorem tt {j:Int} (h:qa j=true) : -(2^62)<=j/\j<2^62:=by
 simp only [qa,Bool.and_eq_true,decide_eq_true_eq] at h
 exact h
theorem ww {j:Int} (h1 : -(2^62)<=j) (h2:j<2^62):qa j=true:=by
 simp only [qa,Bool.and_eq_true,decide_eq_true_eq]
 exact ⟨h1,h2⟩
noncomputable def tj (j:Int):Option (List W):=if qa j=true then some (kz 0 j.toNat) else none
noncomputable def so:List W->Option (List W)
 | [.int j]=>tj j
 | _=>none
noncomputable def wg (f:DS->Option (List W)):DS->Option (List W):=λ δ=>(f δ).bind so
theorem xv {j:Int} {ds:List W} (h:tj j=some ds):(-(2^62)<=j/\j<2^62)/\ds=kz 0 j.toNat:=by
 unfold tj at h
 split at h
 . rename_i hc
   cases h
   exact ⟨tt hc,rfl⟩
 . cases h
theorem eg {G:Hp} {v:V} {i:Int} (h:Dw K ρ G v (.int i)):v=.int i:=by cases h;rfl
theorem wz {G:Hp} {v:V} {i:Str} (h:Dw K ρ G v (.str i)):v=.str i:=by cases h;rfl
theorem zX {G:Hp} {v:V} {i:Bool} (h:Dw K ρ G v (.bool i)):v=.bl i:=by cases h;rfl
theorem qM {G:Hp} {v:V} (h:Dw K ρ G v .none):v=.non:=by cases h;rfl
theorem Az {G:Hp} {vs:List V} {d:W} (h:az K ρ G vs [d]):∃ v,vs=[v]/\Dw K ρ G v d:=by
 cases h with
 | cons a b=>cases b;exact ⟨_,rfl,a⟩
theorem A8 {G:Hp} {vs:List V} {d e:W} (h:az K ρ G vs [d,e]):∃ v u,vs=[v,u]/\Dw K ρ G v d/\Dw K ρ G u e:=by
 cases h with
 | cons a b=>
  cases b with
  | cons b c=>cases c;exact ⟨_,_,rfl,a,b⟩
theorem wm {ds es:List W} (e:so ds=some es):∃ j,ds=[.int j]/\tj j=some es:=by
 cases ds with
 | nil=>cases e
 | cons x r=>
  cases x with
  | int j=>
   cases r with
   | nil=>exact ⟨j,rfl,e⟩
   | cons y r=>cases e
  | _=>cases r <;> cases e
theorem xz {t:TA} {f:DS->Option (List W)} (h:DA K ρ t f):DI K ρ (Ab t) (wg f):=λ G σ H δ ds R' R e q=>by
 obtain ⟨es,ed,e⟩:=oB e
 refine h G σ H δ es _ R ed λ vs G1 H1 g1 da=>?_
 obtain ⟨j,rfl,e⟩:=wm e
 obtain ⟨hc,rfl⟩:=xv e
 obtain ⟨v,rfl,dv⟩:=Az da
 cases eg dv
 exact ⟨_,rfl,hc.1,hc.2,q _ G1 H1 g1 BU⟩
noncomputable def zg (ds:List W):List W:=(List.range ds.length).map λ (i:Nat)=>.tuple [.int (i:Int),ds[i]?.getD .none]
noncomputable def DM (f:DS->Option (List W)):DS->Option (List W):=λ δ=>(f δ).bind λ ds=>match ds with
 | [.list es]=>some (zg es)
 | _=>none
noncomputable def mm (ds es:List W):List W:=List.zipWith (λ x y=>.tuple [x,y]) ds es
theorem vW {ds es:List W} {i:Nat} {d:W} (h:(mm ds es)[i]?=some d):∃ x y,ds[i]?=some x/\es[i]?=some y/\d=.tuple [x,y]:=by
 unfold mm at h
 rw [List.getElem?_zipWith] at h
 cases h1:ds[i]? with
 | none=>rw [h1] at h;cases h
 | some x=>
  cases h2:es[i]? with
  | none=>rw [h1,h2] at h;cases h
  | some y=>
   rw [h1,h2] at h
   cases h
   exact ⟨x,y,rfl,rfl,rfl⟩
theorem As {G1 H1:Hp} {a b:Addr} {xs ys:List V} {ds es:List W} {i:Nat} (s:bg G1 H1) (q:cY K H1 a xs) (da:az K ρ G1 xs ds) (q2:cY K H1 b ys) (db:az K ρ G1 ys es):yc K ρ (Gq K a b) (mm ds es) i G1 H1:=by
 refine ⟨λ d hd=>?_,λ h=>⟨xs,ys,q,q2,?_⟩⟩
 . obtain ⟨x,y,hx,hy,rfl⟩:=vW hd
   obtain ⟨v,h1,h2⟩:=da.get hx
   obtain ⟨u,k1,k2⟩:=db.get hy
   refine ⟨⟨xs,ys,v,u,q,q2,h1,k1⟩,λ z H' w=>?_⟩
   obtain ⟨p,v',u',hp,rfl,rfl,w1,w2⟩:=w
   have:=w1 xs q
   rw [h1] at this
   cases this
   have:=w2 ys q2
   rw [k1] at this
   cases this
   have g:=Gr.nw s (Nw.of (o:=.tup [v,u]) hp)
   exact ⟨_,g,.tup aJ (.cons (h2.same g.g) (.cons (k2.same g.g) .nil))⟩
 . have:(mm ds es).length=min ds.length es.length:=by simp [mm]
   rw [da.length,db.length]
   omega
noncomputable def Bo (f:DS->Option (List W)):DS->Option (List W):=λ δ=>(f δ).bind λ ds=>match ds with
 | [.list a,.list b]=>some (mm a b)
 | _=>none
theorem C8 {t:TA} {f:DS->Option (List W)} (h:DA K ρ t f):DI K ρ (Bh K t) (Bo f):=λ G σ H δ ds R' R e q=>by
 obtain ⟨es,ed,e⟩:=oB e
 refine h G σ H δ es _ R ed λ vs G1 H1 g1 da=>?_
 split at e
 . cases e
   obtain ⟨v,u,rfl,dv,du⟩:=A8 da
   cases dv with
   | lst sq dA=>
    cases du with
    | lst sq2 db=>exact ⟨_,_,rfl,⟨_,g1.s.seq sq⟩,⟨_,g1.s.seq sq2⟩,q _ G1 H1 g1 λ i G2 H2 a b=>As b ((a.trans b).seq sq) (dA.same a) ((a.trans b).seq sq2) (db.same a)⟩
 . cases e
noncomputable def DG (K:Frag) (ρ:List Addr) (g:TG) (h:W->DS->Option DS):Prop:=
 ∀ (G H:Hp) (δ:DS) (σ:St) (v:V) (d:W) (δ':DS) (Q:St->Hp->Prop),Rl K ρ G H δ σ->Dw K ρ G v d->h d δ=some δ'->(∀ σ',Rl K ρ G H δ' σ'->fj δ' σ' δ σ->Q σ' H)->g v σ H Q
noncomputable def D6 (K:Frag) (ρ:List Addr) (g:uy) (h:List W->DS->Option DS):Prop:=
 ∀ (G H:Hp) (δ:DS) (σ:St) (vs:List V) (ds:List W) (δ':DS) (Q:St->Hp->Prop),Rl K ρ G H δ σ->az K ρ G vs ds->h ds δ=some δ'->(∀ σ',Rl K ρ G H δ' σ'->fj δ' σ' δ σ->Q σ' H)->g vs σ H Q
noncomputable def aj (i:Nat):W->DS->Option DS:=λ d δ=>some (δ.set i (.val d))
theorem xy {i:Nat}:DG K ρ (jU i) (aj i):=λ G H δ σ v d δ' Q R dv e q=>by
 cases e
 exact q _ (R.set dv) (ja R.len)
noncomputable def ke:List W->DS->Option DS:=λ ds δ=>match ds with
 | []=>some δ
 | _=>none
noncomputable def eh (h:W->DS->Option DS) (k:List W->DS->Option DS):List W->DS->Option DS:=λ ds δ=>match ds with
 | d::r=>(h d δ).bind (k r)
 | _=>none
theorem xp:D6 K ρ EZ ke:=λ G H δ σ vs ds δ' Q R dv e q=>by
 cases dv with
 | nil=>cases e;exact ⟨rfl,q _ R (.refl _ _)⟩
 | cons _ _=>cases e
theorem vq {g:TG} {u:uy} {h:W->DS->Option DS} {k:List W->DS->Option DS} (h1:DG K ρ g h) (h2:D6 K ρ u k):D6 K ρ (zR g u) (eh h k):=λ G H δ σ vs ds δ' Q R dv e q=>by
 cases dv with
 | nil=>cases e
 | cons a b=>
  obtain ⟨δ1,e1,e⟩:=oB e
  exact ⟨_,_,rfl,h1 G H δ σ _ _ δ1 _ R a e1 λ σ1 R1 o1=>h2 G H δ1 σ1 _ _ δ' Q R1 b e λ σ2 R2 o2=>q σ2 R2 (o2.trans o1)⟩
noncomputable def jx (n:Nat) (k:List W->DS->Option DS):W->DS->Option DS:=λ d δ=>match d with
 | .tuple ds=>if ds.length=n then k ds δ else none
 | _=>none
theorem Ax {n:Nat} {u:uy} {k:List W->DS->Option DS} (h:D6 K ρ u k):DG K ρ (Bl K n u) (jx n k):=λ G H δ σ v d δ' Q R dv e q=>by
 cases dv with
 | tup sq da=>
  simp only [jx] at e
  split at e
  . rename_i hn
    exact ⟨_,_,rfl,R.sub.tup (fS.of sq),by rw [da.length];exact hn,h G H δ σ _ _ δ' Q R da e q⟩
  . cases e
 | _=>cases e
noncomputable def mw (δ:DS):Option Nat->Sl
 | none=>.no
 | some i=>δ[i]?.getD .no
noncomputable def FM (σ:St):Option Nat->Option V
 | none=>none
 | some i=>match σ[i]? with
  | some v=>v
  | none=>none
noncomputable def bA (ix:List (Option Nat)) (δ:DS):DS:=ix.map (mw δ)
theorem lM {ix:List (Option Nat)} {σ:St} {j:Nat} {o:Option Nat} (h:ix[j]?=some o):(lift ix σ)[j]?=some (FM σ o):=by
 unfold lift
 rw [List.getElem?_map,h]
 cases o <;> rfl
theorem jG {ix:List (Option Nat)} {δ:DS} {j:Nat} {s:Sl} (h:(bA ix δ)[j]?=some s):∃ o,ix[j]?=some o/\s=mw δ o:=by
 unfold bA at h
 rw [List.getElem?_map] at h
 obtain ⟨o,h1,h2⟩:=oM h
 exact ⟨o,h1,h2.symm⟩
noncomputable def sS (ix:List (Option Nat)):Bool:=decide ((ix.filterMap id).Nodup)
theorem Bm {ix:List (Option Nat)} (h:(ix.filterMap id).Nodup):∀ {i j k:Nat},ix[i]?=some (some k)->ix[j]?=some (some k)->i=j:=by
 induction ix with
 | nil=>intro i j k h1;simp at h1
 | cons o r ih=>
  intro i j k h1 h2
  have hr:(r.filterMap id).Nodup:=by
   cases o with
   | none=>simpa using h
   | some a=>
    have h':(a::r.filterMap id).Nodup:=h
    exact (List.nodup_cons.mp h').2
  have hm:∀ m,r[m]?=some (some k)->k∈r.filterMap id:=λ m hm=>List.mem_filterMap.mpr ⟨some k,List.mem_of_getElem? hm,rfl⟩
  cases i with
  | zero=>
   cases j with
   | zero=>rfl
   | succ j=>
    simp at h1 h2
    subst h1
    have h':(k::r.filterMap id).Nodup:=h
    exact absurd (hm j h2) (List.nodup_cons.mp h').1
  | succ i=>
   cases j with
   | zero=>
    simp at h1 h2
    subst h2
    have h':(k::r.filterMap id).Nodup:=h
    exact absurd (hm i h1) (List.nodup_cons.mp h').1
   | succ j=>
    simp at h1 h2
    rw [ih hr h1 h2]
theorem Rl.lift {G H:Hp} {δ:DS} {σ:St} {ix:List (Option Nat)} (hx:sS ix=true) (R:Rl K ρ G H δ σ):Rl K ρ G H (bA ix δ) (lift ix σ):=by
 have hx':(ix.filterMap id).Nodup:=by simpa [sS] using hx
 have own:∀ {j:Nat} {ds:List W},(bA ix δ)[j]?=some (.own ds)->∃ i,ix[j]?=some (some i)/\δ[i]?=some (.own ds):=λ {j ds} h=>by
  obtain ⟨o,h1,h2⟩:=jG h
  cases o with
  | none=>cases h2
  | some i=>
   refine ⟨i,h1,?_⟩
   cases e:δ[i]? with
   | none=>simp [mw,e] at h2
   | some s=>simp [mw,e] at h2;rw [h2]
 have at':∀ {j i:Nat} {v:V},ix[j]?=some (some i)->(L2.lift ix σ)[j]?=some (some v)->σ[i]?=some (some v):=λ {j i v} h1 h2=>by
  rw [lM h1] at h2
  simp only [FM] at h2
  split at h2
  . rename_i w e
    rw [e]
    simpa using h2
  . cases h2
 refine ⟨R.sub,by simp [bA,L2.lift],λ j s h=>?_,λ j k p ds es h1 h2 h3 h4=>?_⟩
 . obtain ⟨o,h1,rfl⟩:=jG h
   refine ⟨_,lM h1,?_⟩
   cases o with
   | none=>trivial
   | some i=>
    cases e:δ[i]? with
    | none=>simp only [mw,e,Option.getD_none];trivial
    | some s=>
     obtain ⟨o,k1,k2⟩:=R.sl i s e
     simp only [mw,FM,e,k1,Option.getD_some]
     exact k2
 . obtain ⟨i1,a1,a2⟩:=own h1
   obtain ⟨i2,b1,b2⟩:=own h2
   have:=R.apart i1 i2 p ds es a2 b2 (at' a1 h3) (at' b1 h4)
   subst this
   exact Bm hx' a1 b1
noncomputable def hJ:DS->Option Bool:=λ _=>some true
theorem Ae:DT K ρ Eh hJ:=λ G σ H δ b Q R e q=>by
 cases e
 exact q G H (.refl R.sub)
noncomputable def eC (h:W->DS->Option DS) (c:DS->Option Bool) (fe:DS->Option W) (δ:DS):List W->Option (List W)
 | []=>some []
 | d::ds=>(h d δ).bind λ δ2=>(c δ2).bind λ b=>if b=true then (fe δ2).bind λ e=>(eC h c fe δ ds).map (e::·) else eC h c fe δ ds
noncomputable def iN (ix:List (Option Nat)) (fi:DS->Option (List W)) (h:W->DS->Option DS) (c:DS->Option Bool) (fe:DS->Option W):DS->Option (List W):=λ δ=>
 (fi δ).bind λ ds=>if ds.length<=sizeLine then eC h c fe (bA ix δ) ds else none
theorem yK {ix:List (Option Nat)} {wi:TI} {g:TG} {tc:TT} {te:TE} {fi:DS->Option (List W)} {h:W->DS->Option DS} {c:DS->Option Bool} {fe:DS->Option W}
 (hx:sS ix=true) (hi:He K ρ wi fi) (hg:DG K ρ g h) (hc:DT K ρ tc c) (he:DE K ρ te fe):DO K ρ (lr ix wi g tc te) (iN ix fi h c fe):=λ G σ H δ es Q R e q=>by
 obtain ⟨ds,ed,e⟩:=oB e
 split at e
 case isFalse=>cases e
 rename_i hz
 refine hi G σ H δ ds _ R ed λ J G1 H1 g1 it=>?_
 refine ⟨λ i m ys H2=>m=ds.length-i/\i<=ds.length/\ys.length<=i/\∃ G2 as bs,Gr G1 H1 G2 H2/\az K ρ G2 ys as/\eC h c fe (bA ix δ) (ds.drop i)=some bs/\as++bs=es,⟨ds.length,by simp,Nat.zero_le _,Nat.le_refl _,G1,[],es,.refl g1.s,.nil,by simpa using e,rfl⟩,?_⟩
 rintro i m ys H2 ⟨rfl,hil,hyl,G2,as,bs,g2,da,eb,rfl⟩
 have ia:=it i G2 H2 g2
 by_cases hlt:i<ds.length
 . refine .inr ?_
   obtain ⟨go,step⟩:=ia.1 ds[i] (List.getElem?_eq_getElem hlt)
   rw [List.drop_eq_getElem_cons hlt] at eb
   obtain ⟨δ2,e2,eb⟩:=oB eb
   obtain ⟨b,e3,eb⟩:=oB eb
   refine ⟨go,by omega,λ ys' H'=>ys'.length<=i+1/\∃ G2 as' bs',Gr G1 H1 G2 H'/\az K ρ G2 ys' as'/\eC h c fe (bA ix δ) (ds.drop (i+1))=some bs'/\as'++bs'=as++bs,λ ys' H' hy0=>by obtain ⟨l,z⟩:=hy0;exact ⟨ds.length-(i+1),by omega,rfl,hlt,l,z⟩,λ x H' y=>?_⟩
   obtain ⟨G3,g3,dx⟩:=step x H' y
   have R3:=((R.grow g1).grow g2).grow g3
   refine hg G3 H' (bA ix δ) _ x _ δ2 _ (R3.lift hx) dx e2 λ σ2 R4 _=>?_
   refine hc G3 σ2 H' δ2 b _ R4 e3 λ G5 H5 g5=>?_
   have g25:=g2.trans (g3.trans g5)
   have da5:=da.same (g3.trans g5).g
   cases b with
   | false=>exact ⟨by omega,G5,as,bs,g25,da5,eb,rfl⟩
   | true=>
    obtain ⟨ev,e6,eb⟩:=oB eb
    obtain ⟨bs',e7,rfl⟩:=oM eb
    refine he G5 σ2 H5 δ2 ev _ (R4.grow g5) e6 λ v G6 H6 g6 dv=>?_
    exact ⟨by simp;omega,G6,as++[ev],bs',g25.trans g6,(da5.same g6.g).app (.cons dv .nil),e7,by simp⟩
 . have hi':i=ds.length:=by omega
   subst hi'
   refine .inl ⟨ia.2 (Nat.le_refl _),by omega,λ p hp=>?_⟩
   rw [List.drop_length] at eb
   cases eb
   rw [List.append_nil] at q
   have n:Nw H2 (cq H2 p (.lst ys)) p (.lst ys):=.of hp
   exact q p ys G2 _ (g1.trans (g2.trans (.nwO g2.s n))) (dD (g1.trans g2).h hp) (dD g2.s hp) aJ da
inductive eI where
 | nx (δ:DS)
 | bk (δ:DS)
 | ct (δ:DS)
 | rt (d:W)
structure Iv (K:Frag) (ρ:List Addr) (G0 H0 G H:Hp) (δ:DS) (σ:St):Prop where
 rl:Rl K ρ G H δ σ
 gr:Gr G0 H0 G H
 ow:∀ (i:Nat) p ds,δ[i]?=some (.own ds)->σ[i]?=some (some (.ref p))->H0 p=none
noncomputable def J0 (K:Frag) (ρ:List Addr) (G0 H0:Hp) (D:gY):eI->Prop
 | .nx δ=>∀ σ G H,Iv K ρ G0 H0 G H δ σ->D.nx σ H
 | .bk δ=>∀ σ G H,Iv K ρ G0 H0 G H δ σ->D.bk σ H
 | .ct δ=>∀ σ G H,Iv K ρ G0 H0 G H δ σ->D.ct σ H
 | .rt d=>∀ v G H,Gr G0 H0 G H->Dw K ρ G v d->D.rt v H
noncomputable def kP (K:Frag) (ρ:List Addr) (t:TS) (f:DS->Option eI):Prop:=
 ∀ (G0 H0 G:Hp) (σ:St) (H:Hp) (δ:DS) (o:eI) (D:gY),Iv K ρ G0 H0 G H δ σ->f δ=some o->J0 K ρ G0 H0 D o->t D σ H
theorem Iv.grow {G0 H0 G H G' H':Hp} {δ:DS} {σ:St} (I:Iv K ρ G0 H0 G H δ σ) (g:Gr G H G' H'):Iv K ρ G0 H0 G' H' δ σ:=⟨I.rl.grow g,I.gr.trans g,I.ow⟩
theorem Iv.sub {G0 H0 G H:Hp} {δ δ':DS} {σ σ':St} (I:Iv K ρ G0 H0 G H δ σ) (R:Rl K ρ G H δ' σ') (o:fj δ' σ' δ σ):Iv K ρ G0 H0 G H δ' σ':=⟨R,I.gr,λ i p ds h1 h2=>by
 obtain ⟨es,h3,h4⟩:=o i ds p h1 h2
 exact I.ow i p es h3 h4⟩
theorem Iv.base {G0 H0 G H:Hp} {δ:DS} {σ:St} (I:Iv K ρ G0 H0 G H δ σ):Iv K ρ G H0 G H δ σ:=⟨I.rl,⟨.refl _,I.gr.h,I.gr.s,λ _ _ h=>h⟩,I.ow⟩
theorem Gr.rebase {G0 H0 G H G' H':Hp} (a:Gr G0 H0 G H) (b:Gr G H0 G' H'):Gr G0 H0 G' H':=⟨a.g.trans b.g,b.h,b.s,λ c h1 h2=>b.n c h1 (a.n c h1 h2)⟩
theorem Iv.rebase {G0 H0 G H G' H':Hp} {δ:DS} {σ:St} (a:Gr G0 H0 G H) (I:Iv K ρ G H0 G' H' δ σ):Iv K ρ G0 H0 G' H' δ σ:=⟨I.rl,a.rebase I.gr,I.ow⟩
noncomputable def aH:DS->Option eI:=λ δ=>some (.nx δ)
theorem y7:kP K ρ zq aH:=λ G0 H0 G σ H δ o D I e p=>by
 cases e
 exact p σ G H I
noncomputable def aY (f g:DS->Option eI):DS->Option eI:=λ δ=>match f δ with
 | some (.nx δ')=>g δ'
 | o=>o
theorem uT {t u:TS} {f g:DS->Option eI} (h1:kP K ρ t f) (h2:kP K ρ u g):kP K ρ (Bn t u) (aY f g):=λ G0 H0 G σ H δ o D I e p=>by
 unfold aY at e
 cases ef:f δ with
 | none=>rw [ef] at e;cases e
 | some o1=>
  rw [ef] at e
  refine h1 G0 H0 G σ H δ o1 _ I ef ?_
  cases o1 with
  | nx δ'=>exact λ σ' G' H' I'=>h2 G0 H0 G' σ' H' δ' o D I' e p
  | bk δ'=>cases e;exact p
  | ct δ'=>cases e;exact p
  | rt d=>cases e;exact p
noncomputable def cG (c:DS->Option Bool) (f g:DS->Option eI):DS->Option eI:=λ δ=>(c δ).bind λ b=>if b=true then f δ else g δ
theorem zS {tc:TT} {t u:TS} {c:DS->Option Bool} {f g:DS->Option eI} (hc:DT K ρ tc c) (h1:kP K ρ t f) (h2:kP K ρ u g):kP K ρ (Cc tc t u) (cG c f g):=λ G0 H0 G σ H δ o D I e p=>by
 obtain ⟨b,eb,e⟩:=oB e
 refine hc G σ H δ b _ I.rl eb λ G1 H1 g1=>?_
 cases b with
 | true=>exact h1 G0 H0 G1 σ H1 δ o D (I.grow g1) e p
 | false=>exact h2 G0 H0 G1 σ H1 δ o D (I.grow g1) e p
noncomputable def bc (f:DS->Option W):DS->Option eI:=λ δ=>(f δ).map .rt
theorem v5 {t:TE} {f:DS->Option W} (h:DE K ρ t f):kP K ρ (AU t) (bc f):=λ G0 H0 G σ H δ o D I e p=>by
 obtain ⟨d,ed,rfl⟩:=oM e
 exact h G σ H δ d _ I.rl ed λ v G1 H1 g1 dv=>p v G1 H1 (I.gr.trans g1) dv
noncomputable def oe:DS->Option eI:=λ _=>some (.rt .none)
theorem xO:kP K ρ zB oe:=λ G0 H0 G σ H δ o D I e p=>by
 cases e
 exact p .non G H I.gr .non
noncomputable def kJ:DS->Option eI:=λ δ=>some (.bk δ)
theorem wM:kP K ρ vn kJ:=λ G0 H0 G σ H δ o D I e p=>by
 cases e
 exact p σ G H I
noncomputable def eB:DS->Option eI:=λ _=>none
theorem uJ {t:TS}:kP K ρ t eB:=λ G0 H0 G σ H δ o D I e p=>by cases e
noncomputable def aV (f:DS->Option W) (h:W->DS->Option DS):DS->Option eI:=λ δ=>(f δ).bind λ d=>(h d δ).map .nx
theorem wq {t:TE} {g:TG} {f:DS->Option W} {h:W->DS->Option DS} (h1:DE K ρ t f) (h2:DG K ρ g h):kP K ρ (rp t g) (aV f h):=λ G0 H0 G σ H δ o D I e p=>by
 obtain ⟨d,ed,e⟩:=oB e
 obtain ⟨δ',e2,rfl⟩:=oM e
 exact h1 G σ H δ d _ I.rl ed λ v G1 H1 g1 dv=>h2 G1 H1 δ σ v d δ' _ (I.rl.grow g1) dv e2 λ σ' R o=>p σ' G1 H1 ((I.grow g1).sub R o)
noncomputable def lB (i:Nat) (f:DS->Option (List W)):DS->Option eI:=λ δ=>(f δ).map λ ds=>.nx (δ.set i (.own ds))
theorem vF {i:Nat} {t:TE} {f:DS->Option (List W)} (h:DO K ρ t f):kP K ρ (rp t (jU i)) (lB i f):=λ G0 H0 G σ H δ o D I e p=>by
 obtain ⟨ds,ed,rfl⟩:=oM e
 refine h G σ H δ ds _ I.rl ed λ q vs G1 H1 g1 h0 g0 hh da=>?_
 have I1:=I.grow g1
 refine p _ G1 H1 ⟨I1.rl.setO g0 hh da λ j es hj h1 h2=>?_,I1.gr,λ j q' ds' h1 h2=>?_⟩
 . obtain ⟨o,k1,q1,vs1,k2,k3,k4,_⟩:=I.rl.sl j _ h1
   rw [h2] at k1
   cases k1
   cases k2
   rw [h0] at k4
   cases k4
 . rcases dt h1 with ⟨rfl,_,hl⟩ | ⟨ne,h1⟩
   . rw [jQ (by rw [<-I.rl.len];exact hl)] at h2
     cases h2
     exact dD I.gr.h h0
   . rw [List.getElem?_set_ne ne] at h2
     exact I.ow j q' _ h1 h2
noncomputable def frz (i:Nat) (δ:DS):DS:=match δ[i]? with
 | some (.own ds)=>δ.set i (.val (.list ds))
 | _=>δ
noncomputable def sj (i:Nat) (f:DS->Option eI):DS->Option eI:=λ δ=>f (frz i δ)
theorem Iv.frz {G0 H0 G H:Hp} {δ:DS} {σ:St} (i:Nat) (I:Iv K ρ G0 H0 G H δ σ):∃ G',Iv K ρ G0 H0 G' H (L2.frz i δ) σ:=by
 unfold L2.frz
 split
 . rename_i ds h
   obtain ⟨o,h1,p,vs,rfl,h3,h4,h5⟩:=I.rl.sl i _ h
   have h0:=I.ow i p ds h h1
   have g:bg G (cq G p (.lst vs)):=iu h3 _
   have set1:σ=σ.set i (some (.ref p)):=by
    apply List.ext_getElem?
    intro j
    by_cases e:i=j
    . subst e
      rw [jQ (oG h1).1,h1]
    . rw [List.getElem?_set_ne e]
   refine ⟨cq G p (.lst vs),⟨⟨iE I.gr.s h4,by rw [List.length_set];exact I.rl.len,λ j s e=>?_,λ j k q ds' es' k1 k2 k3 k4=>?_⟩,I.gr.new h0 h3 h4,λ j q ds' k1 k2=>?_⟩⟩
   . rcases dt e with ⟨rfl,rfl,hl⟩ | ⟨ne,e⟩
     . exact ⟨_,h1,.ref p,rfl,.lst (cY.of aJ) (h5.same g)⟩
     . obtain ⟨o,k1,k2⟩:=I.rl.sl j s e
       refine ⟨o,k1,?_⟩
       cases s with
       | no=>trivial
       | val d=>
        obtain ⟨v,e1,e2⟩:=k2
        exact ⟨v,e1,e2.same g⟩
       | own es=>
        obtain ⟨q,ws,rfl,e2,e3,e4⟩:=k2
        refine ⟨q,ws,rfl,?_,e3,e4.same g⟩
        rw [aD]
        . exact e2
        . rintro rfl
          exact ne (I.rl.apart i j q ds es h e h1 k1)
   all_goals
    rcases dt k1 with ⟨_,z,_⟩ | ⟨ne,k1⟩
    . cases z
   . rcases dt k2 with ⟨_,z,_⟩ | ⟨ne2,k2⟩
     . cases z
     . exact I.rl.apart j k q ds' es' k1 k2 k3 k4
   . exact I.ow j q ds' k1 k2
 . exact ⟨G,I⟩
theorem uM {i:Nat} {t:TS} {f:DS->Option eI} (h:kP K ρ t f):kP K ρ t (sj i f):=λ G0 H0 G σ H δ o D I e p=>by
 obtain ⟨G',I'⟩:=I.frz i
 exact h G0 H0 G' σ H _ o D I' e p
noncomputable def cJ (h:W->DS->Option DS) (fb:DS->Option eI):List W->DS->Option eI
 | [],δ=>some (.nx δ)
 | d::ds,δ=>(h d δ).bind λ δ2=>match fb δ2 with
  | some (.nx δ')=>cJ h fb ds δ'
  | some (.ct δ')=>cJ h fb ds δ'
  | some (.bk δ')=>some (.nx δ')
  | some (.rt d)=>some (.rt d)
  | none=>none
noncomputable def lX (fi:DS->Option (List W)) (h:W->DS->Option DS) (fb:DS->Option eI):DS->Option eI:=λ δ=>(fi δ).bind λ ds=>cJ h fb ds δ
theorem vV {wi:TI} {g:TG} {tb:TS} {fi:DS->Option (List W)} {h:W->DS->Option DS} {fb:DS->Option eI} (hi:DI K ρ wi fi) (hg:DG K ρ g h) (hb:kP K ρ tb fb):kP K ρ (AZ wi g tb) (lX fi h fb):=λ G0 H0 G σ H δ o D I e p=>by
 obtain ⟨ds,ed,e⟩:=oB e
 refine hi G σ H δ ds _ I.rl ed λ J G1 H1 g1 it=>?_
 refine ⟨λ i m σ H=>m=ds.length-i/\i<=ds.length/\∃ G δ,Iv K ρ G0 H0 G H δ σ/\bg G1 G/\cJ h fb (ds.drop i) δ=some o,⟨ds.length,by simp,Nat.zero_le _,G1,δ,I.grow g1,.refl _,by simpa using e⟩,?_⟩
 rintro i m σ2 H2 ⟨rfl,hil,G2,δ2,I2,s2,e2⟩
 have ia:=it i G2 H2 s2 I2.gr.s
 by_cases hlt:i<ds.length
 . refine .inr ?_
   obtain ⟨go,step⟩:=ia.1 ds[i] (List.getElem?_eq_getElem hlt)
   rw [List.drop_eq_getElem_cons hlt] at e2
   obtain ⟨δ3,e3,e4⟩:=oB e2
   have back:∀ {G3 H3:Hp},Gr G2 H2 G3 H3->∀ {G4 H4:Hp} {σ4:St} {δ4:DS},Iv K ρ G3 H0 G4 H4 δ4 σ4->Iv K ρ G0 H0 G4 H4 δ4 σ4/\bg G1 G4:=λ {G3 H3} g3 {G4 H4 σ4 δ4} I4=>⟨I4.rebase (I2.gr.trans g3),s2.trans (g3.g.trans I4.gr.g)⟩
   have again:∀ (δ':DS),cJ h fb (ds.drop (i+1)) δ'=some o->(fb δ3=some (.nx δ')∨fb δ3=some (.ct δ'))->∃ N:St->Hp->Prop,(∀ σ' H',N σ' H'->∃ m',m'<ds.length-i/\m'=ds.length-(i+1)/\i+1<=ds.length/\∃ G δ,Iv K ρ G0 H0 G H' δ σ'/\bg G1 G/\cJ h fb (ds.drop (i+1)) δ=some o)/\∀ x H',J.yld i H2 x H'->g x σ2 H' λ σ2 H2=>tb { D with nx:=N,ct:=N,bk:=D.nx } σ2 H2:=λ δ' ed' ef=>by
    refine ⟨λ σ' H'=>∃ G',Iv K ρ G0 H0 G' H' δ' σ'/\bg G1 G',λ σ' H' hy0=>by obtain ⟨G',I',s'⟩:=hy0;exact ⟨ds.length-(i+1),by omega,rfl,hlt,G',δ',I',s',ed'⟩,λ x H' y=>?_⟩
    obtain ⟨G3,g3,dx⟩:=step x H' y
    have I3:=I2.grow g3
    refine hg G3 H' δ2 σ2 x _ δ3 _ I3.rl dx e3 λ σ3 R3 o3=>?_
    have I4:=(I3.sub R3 o3).base
    rcases ef with ef | ef
    . exact hb G3 H0 G3 σ3 H' δ3 _ _ I4 ef λ σ5 G5 H5 I5=>⟨G5,back g3 I5⟩
    . exact hb G3 H0 G3 σ3 H' δ3 _ _ I4 ef λ σ5 G5 H5 I5=>⟨G5,back g3 I5⟩
   cases ef:fb δ3 with
   | none=>rw [ef] at e4;cases e4
   | some o1=>
    rw [ef] at e4
    cases o1 with
    | nx δ'=>
     obtain ⟨N,n1,n2⟩:=again δ' e4 (.inl ef)
     exact ⟨go,N,n1,n2⟩
    | ct δ'=>
     obtain ⟨N,n1,n2⟩:=again δ' e4 (.inr ef)
     exact ⟨go,N,n1,n2⟩
    | bk δ'=>
     cases e4
     refine ⟨go,λ _ _=>False,λ _ _ z=>z.elim,λ x H' y=>?_⟩
     obtain ⟨G3,g3,dx⟩:=step x H' y
     have I3:=I2.grow g3
     refine hg G3 H' δ2 σ2 x _ δ3 _ I3.rl dx e3 λ σ3 R3 o3=>?_
     exact hb G3 H0 G3 σ3 H' δ3 _ _ (I3.sub R3 o3).base ef λ σ5 G5 H5 I5=>p σ5 G5 H5 (back g3 I5).1
    | rt d=>
     cases e4
     refine ⟨go,λ _ _=>False,λ _ _ z=>z.elim,λ x H' y=>?_⟩
     obtain ⟨G3,g3,dx⟩:=step x H' y
     have I3:=I2.grow g3
     refine hg G3 H' δ2 σ2 x _ δ3 _ I3.rl dx e3 λ σ3 R3 o3=>?_
     exact hb G3 H0 G3 σ3 H' δ3 _ _ (I3.sub R3 o3).base ef λ v G5 H5 g5 dv=>p v G5 H5 ((I2.gr.trans g3).rebase g5) dv
 . have hi':i=ds.length:=by omega
   subst hi'
   rw [List.drop_length] at e2
   cases e2
   exact .inl ⟨ia.2 (Nat.le_refl _),p σ2 G2 H2 I2⟩
noncomputable def mK (i:Nat) (δ:DS):Option (List W):=match δ[i]? with
 | some (.own ds)=>some ds
 | _=>none
theorem v4 {i:Nat} {δ:DS} {ds:List W} (h:mK i δ=some ds):δ[i]?=some (.own ds):=by
 unfold mK at h
 split at h
 . rename_i e;cases h;exact e
 . cases h
theorem Iv.put {G0 H0 G H:Hp} {δ:DS} {σ:St} {i:Nat} {ds es:List W} {p:Addr} {vs:List V} (I:Iv K ρ G0 H0 G H δ σ) (h:δ[i]?=some (.own ds)) (hp:σ[i]?=some (some (.ref p))) (g0:G p=none) (da:az K ρ G vs es):Iv K ρ G0 H0 G (cq H p (.lst vs)) (δ.set i (.own es)) σ:=by
 have h0:=I.ow i p ds h hp
 have sG:bg G (cq H p (.lst vs)):=λ b o e=>by
  rw [aD (λ z=>by rw [z,g0] at e;cases e)]
  exact I.gr.s _ _ e
 refine ⟨⟨sG,by rw [List.length_set];exact I.rl.len,λ j s e=>?_,λ j k q ds' es' k1 k2 k3 k4=>?_⟩,⟨I.gr.g,λ b o e=>?_,sG,I.gr.n⟩,λ j q ds' k1 k2=>?_⟩
 . rcases dt e with ⟨rfl,rfl,hl⟩ | ⟨ne,e⟩
   . exact ⟨_,hp,p,vs,rfl,g0,aJ,da⟩
   . obtain ⟨o,k1,k2⟩:=I.rl.sl j s e
     refine ⟨o,k1,?_⟩
     cases s with
     | no=>trivial
     | val d=>exact k2
     | own es2=>
      obtain ⟨q,ws,rfl,e2,e3,e4⟩:=k2
      refine ⟨q,ws,rfl,e2,?_,e4⟩
      rw [aD]
      . exact e3
      . rintro rfl
        exact ne (I.rl.apart i j q ds es2 h e hp k1)
 . rcases dt k1 with ⟨rfl,_,_⟩ | ⟨ne,k1⟩ <;> rcases dt k2 with ⟨rfl,_,_⟩ | ⟨ne2,k2⟩
   . rfl
   . exact I.rl.apart _ _ q _ _ h k2 k3 k4
   . exact I.rl.apart _ _ q _ _ k1 h k3 k4
   . exact I.rl.apart _ _ q _ _ k1 k2 k3 k4
 . rw [aD (λ z=>by rw [z,h0] at e;cases e)]
   exact I.gr.h _ _ e
 . rcases dt k1 with ⟨rfl,_,_⟩ | ⟨ne,k1⟩
   . exact I.ow _ q _ h k2
   . exact I.ow j q _ k1 k2
noncomputable def bF (i:Nat) (f:DS->Option W):DS->Option eI:=λ δ=>(mK i δ).bind λ ds=>(f δ).bind λ d=>if ds.length<sizeLine then some (.nx (δ.set i (.own (ds++[d])))) else none
theorem mT {i:Nat} {t:TE} {f:DS->Option W} (h:DE K ρ t f):kP K ρ (rX (E2 K "list" kH (yz i) (gR t jJ))) (bF i f):=λ G0 H0 G σ H δ o D I e p=>by
 obtain ⟨ds,eo,e⟩:=oB e
 obtain ⟨d,ed,e⟩:=oB e
 split at e
 case isFalse=>cases e
 rename_i hz
 cases e
 have ho:=v4 eo
 obtain ⟨o,h1,q,vs,rfl,h3,h4,h5⟩:=I.rl.sl i _ ho
 refine ⟨.ref q,h1,.inl ⟨rfl,vs,cY.of h4⟩,h G σ H δ d _ I.rl ed λ v G1 H1 g1 dv=>⟨q,vs,v,rfl,rfl,g1.h _ _ h4,by rw [h5.length];exact hz,?_⟩⟩
 have I1:=I.grow g1
 exact p σ G1 _ (I1.put ho h1 (g1.n q (.l h4) h3) ((h5.same g1.g).app (.cons dv .nil)))
noncomputable def Am (i:Nat) (fi fv:DS->Option W):DS->Option eI:=λ δ=>(fv δ).bind λ d=>(mK i δ).bind λ ds=>(fi δ).bind λ x=>match x with
 | .int k=>(wW ds.length k).map λ j=>.nx (δ.set i (.own (ds.set j d)))
 | _=>none
end
section
variable {K:Frag} {ρ:List Addr}
noncomputable def qZ (K:Frag) (f:List W->Option W):Sp:=λ vs H Q _=>∃ ρ G ds d,bg G H/\az K ρ G vs ds/\f ds=some d/\∀ v G' H',Gr G H G' H'->Dw K ρ G' v d->Q v H'
noncomputable def aP (f:List W->Option W) (fa:DS->Option (List W)):DS->Option W:=λ δ=>(fa δ).bind f
theorem xK {f:List W->Option W} {t:TA} {fa:DS->Option (List W)} {E:XK} (h:DA K ρ t fa):DE K ρ (qe (qZ K f) [] E t) (aP f fa):=λ G σ H δ d Q R e q=>by
 obtain ⟨ds,ed,e⟩:=oB e
 exact h G σ H δ ds _ R ed λ vs G1 H1 g1 da=>by
  refine ⟨ρ,G1,ds,d,g1.s,?_,e,λ v G2 H2 g2 dv=>q v G2 H2 (g1.trans g2) dv⟩
  rw [List.append_nil]
  exact da
noncomputable def dL (n:Nat) (ds:List W):DS:=ds.map .val++List.replicate (n-ds.length) .no
noncomputable def yq:Option eI->Option W
 | some (.rt d)=>some d
 | some (.nx _)=>some .none
 | _=>none
noncomputable def dX (a n:Nat) (fb:DS->Option eI):List W->Option W:=λ ds=>if ds.length=a then yq (fb (dL n ds)) else none
theorem mX {a n:Nat} {fb:DS->Option eI} {ds:List W} {d:W} (h:dX a n fb ds=some d):ds.length=a:=by
 unfold dX at h
 split at h
 . assumption
 . cases h
theorem y3 {f:List W->Option W} {a:Nat} {vs:List V} {H:Hp} {Q:VK} {E:XK} (hf:∀ ds d,f ds=some d->ds.length=a) (h:qZ K f vs H Q E):vs.length=a:=by
 obtain ⟨ρ,G,ds,d,s,da,e,q⟩:=h
 rw [da.length]
 exact hf ds d e
theorem gC {n:Nat} {ds:List W} {i:Nat} {es:List W}:(dL n ds)[i]?≠some (.own es):=by
 unfold dL
 intro h
 rcases Nat.lt_or_ge i (ds.map Sl.val).length with hl | hl
 . rw [List.getElem?_append_left hl,List.getElem?_map] at h
   obtain ⟨d,_,e⟩:=oM h
   cases e
 . rw [List.getElem?_append_right hl,List.getElem?_replicate] at h
   split at h <;> cases h
theorem qg {G H:Hp} {N:List Str} {vs:List V} {ds:List W} (s:bg G H) (h:az K ρ G vs ds):Rl K ρ G H (dL N.length ds) (start N vs):=by
 refine ⟨s,by simp [dL,start,h.length],λ i sl e=>?_,λ i j p ds' es' h1=>absurd h1 gC⟩
 unfold dL at e
 unfold start
 rcases Nat.lt_or_ge i ds.length with hl | hl
 . rw [List.getElem?_append_left (by simpa using hl),List.getElem?_map] at e
   obtain ⟨d,e1,rfl⟩:=oM e
   obtain ⟨v,h1,h2⟩:=h.get e1
   refine ⟨some v,?_,v,rfl,h2⟩
   rw [List.getElem?_append_left (by simp [h.length];exact hl),List.getElem?_map,h1]
   rfl
 . rw [List.getElem?_append_right (by simpa using hl),List.getElem?_replicate] at e
   split at e
   . cases e
     rename_i hlt
     refine ⟨none,?_,trivial⟩
     rw [List.getElem?_append_right (by simp [h.length];exact hl),List.getElem?_replicate,if_pos]
     simp only [List.length_map] at hlt ⊢
     rw [h.length]
     exact hlt
   . cases e
theorem Hj {t:TS} {fb:DS->Option eI} {N:List Str} {a n:Nat} {vs:List V} {H:Hp} {Q:VK} {E:XK} (hn:N.length=n) (h:∀ ρ,kP K ρ t fb) (hsp:qZ K (dX a n fb) vs H Q E):t { nx:=λ _ H'=>Q .non H',rt:=Q } (start N vs) H:=by
 subst hn
 obtain ⟨ρ,G,ds,d,s,da,e,q⟩:=hsp
 have R:=qg (N:=N) s da
 have I:Iv K ρ G H G H (dL N.length ds) (start N vs):=⟨R,.refl s,λ i p ds' h1=>absurd h1 gC⟩
 unfold dX at e
 rw [if_pos (mX (show dX a N.length fb ds=some d from e))] at e
 cases ef:fb (dL N.length ds) with
 | none=>rw [ef] at e;cases e
 | some o=>
  rw [ef] at e
  refine h ρ G H G _ H _ o _ I ef ?_
  cases o with
  | nx δ=>cases e;exact λ σ' G' H' I'=>q _ G' H' I'.gr .non
  | rt d'=>cases e;exact λ v G' H' g dv=>q v G' H' g dv
  | bk _=>cases e
  | ct _=>cases e
end
noncomputable def zW (K:Frag):R2:=λ x y H Q=>∃ l b xs zs,x=.ref l/\y=.ref b/\cY K H l xs/\cY K H b zs/\xs.length+zs.length<=sizeLine/\∀ p H',Nw H H' p (.lst (xs++zs))->Q (.ref p) H'
theorem y0 {X:Cx}:gh X (binaryOp .Add) (zW X.K):=by
 intro pins s σ H x y v u Q I rx ry h
 obtain ⟨l,b,xs,zs,rfl,rfl,hH,hB,hz,q⟩:=h
 cases rx
 cases ry
 obtain ⟨its,r,hl,_⟩:=I.list hH
 obtain ⟨its2,r2,hb,_⟩:=I.list hB
 obtain ⟨⟨cls,dd,data,sl⟩,n,ho,hc,hdd,hd⟩:=hl
 obtain ⟨⟨cls2,dd2,data2,sl2⟩,n2,ho2,hc2,hdd2,hd2⟩:=hb
 simp only at hc hd hc2 hd2
 subst hc hd hc2 hd2
 have e:its.toArray++its2.toArray=(its++its2).toArray:=by simp
 refine concat_meets ⟨_,ho,rfl⟩ ⟨_,ho2,rfl⟩ noFill_list_add seq_list_add PySem.F.slot_list_add PySem.F.entry_list_add (PySem.F.args_list_add_2 _ _) (list_addW l b its.toArray its2.toArray n n2 dd dd2 sl sl2 (by rw [List.size_toArray,List.size_toArray,<-r.length,<-r2.length];exact hz)) ⟨ho,ho2,?_⟩
 rw [e]
 exact ⟨.ref _,_,I.lnew (t':=s.toks) (r.append r2) (by rw [List.length_append];omega),rfl,q _ _ (.of I.fresh)⟩
noncomputable def yD:R2:=λ x y H Q=>∃ i j,x=.str i/\y=.str j/\i.length+j.length<=sizeLine/\Q (.str (i++j)) H
noncomputable def uU (K:Frag):R2:=λ x y H Q=>qk (λ i j=>.int (i+j)) x y H Q∨yD x y H Q∨zW K x y H Q∨zf K x y H Q
theorem Fj {X:Cx} {K:Frag} (h:X.K=K):gh X (binaryOp .Add) (uU K):=h▸B8.or (qQ.or (y0.or xQ))
section
variable {K:Frag} {ρ:List Addr}
noncomputable def b8:W->W->Option W
 | .int i,.int j=>some (.int (i+j))
 | .str i,.str j=>if i.length+j.length<=sizeLine then some (.str (i++j)) else none
 | .list a,.list b=>if a.length+b.length<=sizeLine then some (.list (a++b)) else none
 | .tuple a,.tuple b=>if a≠[]/\a.length+b.length<=sizeLine then some (.tuple (a++b)) else none
 | _,_=>none
theorem qT {G H:Hp} {v:V} {i:Int} (h:Pk K ρ G H v (.int i)):v=.int i:=by
 rcases h with h | ⟨_,_,_,_,e,_⟩
 . exact eg h
 . cases e
theorem qz {G H:Hp} {v:V} {i:Str} (h:Pk K ρ G H v (.str i)):v=.str i:=by
 rcases h with h | ⟨_,_,_,_,e,_⟩
 . exact wz h
 . cases e
theorem lD {G H:Hp} {v:V} {ds:List W} (s:bg G H) (h:Pk K ρ G H v (.list ds)):∃ p vs,v=.ref p/\cY K H p vs/\az K ρ G vs ds:=by
 rcases h with h | ⟨p,vs,es,rfl,e,h1,h2⟩
 . cases h with
   | lst sq da=>exact ⟨_,_,rfl,s.seq sq,da⟩
 . cases e
   exact ⟨p,vs,rfl,cY.of h1,h2⟩
theorem uC {G:Hp} {v:V} {ds:List W} (h:Dw K ρ G v (.list ds)):∃ p vs,v=.ref p/\cY K G p vs/\az K ρ G vs ds:=by
 cases h with
 | lst sq da=>exact ⟨_,_,rfl,sq,da⟩
theorem uH {G:Hp} {v:V} {ds:List W} (h:Dw K ρ G v (.tuple ds)):∃ p vs,v=.ref p/\G p=some (.tup vs)/\az K ρ G vs ds:=by
 cases h with
 | tup sq da=>exact ⟨_,_,rfl,sq,da⟩
theorem oS {G H:Hp} {v:V} {ds:List W} (h:Pk K ρ G H v (.tuple ds)):∃ p vs,v=.ref p/\G p=some (.tup vs)/\az K ρ G vs ds:=by
 rcases h with h | ⟨_,_,_,_,e,_⟩
 . exact uH h
 . cases e
theorem C4:DR K ρ (uU K) b8:=λ G H x y d e c Q s hx hy hg q=>by
 cases d with
 | int i=>
  cases e with
  | int j=>
   cases hg
   cases qT hx
   cases eg hy
   exact .inl ⟨_,_,rfl,rfl,q _ G H (.refl s) (.int _)⟩
  | _=>cases hg
 | str a=>
  cases e with
  | str b=>
   by_cases hz:a.length+b.length<=sizeLine
   . cases (if_pos hz).symm.trans hg
     cases qz hx
     cases wz hy
     exact .inr (.inl ⟨_,_,rfl,rfl,hz,q _ G H (.refl s) (.str _)⟩)
   . cases (if_neg hz).symm.trans hg
  | _=>cases hg
 | list a=>
  cases e with
  | list b=>
   by_cases hz:a.length+b.length<=sizeLine
   . cases (if_pos hz).symm.trans hg
     obtain ⟨p,vs,rfl,sq,da⟩:=lD s hx
     obtain ⟨p2,vs2,rfl,sq2,da2⟩:=uC hy
     refine .inr (.inr (.inl ⟨p,p2,vs,vs2,rfl,rfl,sq,s.seq sq2,by rw [da.length,da2.length];exact hz,λ l H' n=>?_⟩))
     have g:=Gr.nw s n
     exact q _ _ H' g (.lst (cY.of aJ) ((da.same g.g).app (da2.same g.g)))
   . cases (if_neg hz).symm.trans hg
  | _=>cases hg
 | tuple a=>
  cases e with
  | tuple b=>
   by_cases hz:a≠[]/\a.length+b.length<=sizeLine
   . cases (if_pos hz).symm.trans hg
     obtain ⟨p,vs,rfl,sq,da⟩:=oS hx
     obtain ⟨p2,vs2,rfl,sq2,da2⟩:=uH hy
     refine .inr (.inr (.inr ⟨p,p2,vs,vs2,rfl,rfl,s.tup (fS.of sq),s.tup (fS.of sq2),?_,by rw [da.length,da2.length];exact hz.2,λ e=>?_,λ e l hl=>?_⟩))
     . rintro rfl
       cases da
       exact hz.1 rfl
     . subst e
       cases da2
       rw [List.append_nil] at q
       exact q _ G H (.refl s) (.tup sq da)
     . have g:=Gr.nw s (Nw.of (o:=.tup (vs++vs2)) hl)
       exact q _ _ _ g (.tup aJ ((da.same g.g).app (da2.same g.g)))
   . cases (if_neg hz).symm.trans hg
  | _=>cases hg
 | _=>cases hg
noncomputable def Dl:W->W->Option (List W)
 | .list a,.list b=>if a.length+b.length<=sizeLine then some (a++b) else none
 | _,_=>none
noncomputable def Dm (fa fb:DS->Option W):DS->Option (List W):=λ δ=>(fa δ).bind λ x=>(fb δ).bind λ y=>Dl x y
noncomputable def gI (f:Int->Int->Int):W->W->Option W
 | .int i,.int j=>some (.int (f i j))
 | _,_=>none
noncomputable def yw (C:Int->Int->Bool) (f:Int->Int->Int):W->W->Option W
 | .int i,.int j=>if C i j=true then some (.int (f i j)) else none
 | _,_=>none
theorem EN {f:Int->Int->Int}:DR K ρ (qk λ i j=>.int (f i j)) (gI f):=λ G H x y d e c Q s hx hy hg q=>by
 unfold gI at hg
 split at hg
 . cases hg
   cases qT hx
   cases eg hy
   exact ⟨_,_,rfl,rfl,q _ G H (.refl s) (.int _)⟩
 . cases hg
theorem sJ {C:Int->Int->Prop} {Cb:Int->Int->Bool} {f:Int->Int->Int} (hC:∀ i j,Cb i j=true->C i j):DR K ρ (rI C λ i j=>.int (f i j)) (yw Cb f):=λ G H x y d e c Q s hx hy hg q=>by
 unfold yw at hg
 split at hg
 . split at hg
   . rename_i hc
     cases hg
     cases qT hx
     cases eg hy
     exact ⟨_,_,rfl,rfl,hC _ _ hc,q _ G H (.refl s) (.int _)⟩
   . cases hg
 . cases hg
noncomputable def gSub':W->W->Option W:=gI λ i j=>i-j
theorem AE:DR K ρ (qk λ i j=>.int (i-j)) gSub':=EN
theorem r9:2^200<2^512:=Nat.pow_lt_pow_right (by decide) (by decide)
noncomputable def kx (i j:Int):Bool:=decide (i.natAbs<2^64)||decide (j.natAbs<2^64)||(decide (i.natAbs<2^200)&&decide (j.natAbs<2^200))
noncomputable def Ac (i j:Int):Prop:=xR i j∨zn i j
theorem Fz {X:Cx}:gh X (binaryOp .Mult) (rI Ac λ i j=>.int (i*j)):=λ pins s σ H x y v u Q I rx ry h=>by
 obtain ⟨i,j,e1,e2,hc,q⟩:=h
 rcases hc with hc | hc
 . exact Bf pins s σ H x y v u Q I rx ry ⟨i,j,e1,e2,hc,q⟩
 . exact zb pins s σ H x y v u Q I rx ry ⟨i,j,e1,e2,hc,q⟩
noncomputable def lT (i j:Int):Bool:=decide (j≠0)&&decide (j.natAbs<2^200)
noncomputable def qi (i j:Int):Bool:=decide (j≠0)
noncomputable def dZ:W->W->Option W:=yw kx λ i j=>i*j
noncomputable def ft:W->W->Option W:=yw lT λ i j=>i.fdiv j
noncomputable def b7:W->W->Option W:=yw qi λ i j=>i.fmod j
theorem Av:DR K ρ (rI Ac λ i j=>.int (i*j)) dZ:=sJ λ i j h=>by
 simp only [kx,Bool.and_eq_true,Bool.or_eq_true,decide_eq_true_eq] at h
 rcases h with (h | h) | h
 . exact .inl (.inl ⟨by omega,by omega⟩)
 . exact .inl (.inr ⟨by omega,by omega⟩)
 . exact .inr ⟨Nat.lt_trans h.1 r9,Nat.lt_trans h.2 r9⟩
theorem B0:DR K ρ (rI zD λ i j=>.int (i.fdiv j)) ft:=sJ λ i j h=>by
 simp only [lT,Bool.and_eq_true,decide_eq_true_eq] at h
 exact ⟨h.1,Nat.lt_trans h.2 r9⟩
theorem AM:DR K ρ (rI (λ _ j=>j≠0) λ i j=>.int (i.fmod j)) b7:=sJ λ i j h=>by simpa [qi] using h
noncomputable def gf:W->Option W
 | .int i=>some (.int (-i))
 | _=>none
noncomputable def oh (g:W->Option W) (f:DS->Option W):DS->Option W:=λ δ=>(f δ).bind g
theorem Cf {t:TE} {f:DS->Option W} (h:DE K ρ t f):DE K ρ (HJ (rU λ i=>.int (-i)) t) (oh gf f):=λ G σ H δ d Q R e q=>by
 obtain ⟨x,ex,e⟩:=oB e
 refine h G σ H δ x _ R ex λ v G1 H1 g1 dv=>?_
 unfold gf at e
 split at e
 . cases e
   cases eg dv
   exact ⟨_,rfl,q _ G1 H1 g1 (.int _)⟩
 . cases e
noncomputable def cI (p:Int->Int->Bool):W->W->Option Bool
 | .int i,.int j=>some (p i j)
 | _,_=>none
theorem ye {p:Int->Int->Bool}:DB K ρ (qk λ i j=>.bl (p i j)) (cI p):=λ H x y d e b Q hx hy hg q=>by
 unfold cI at hg
 split at hg
 . cases hg
   cases eg hx
   cases eg hy
   exact ⟨_,_,rfl,rfl,q⟩
 . cases hg
noncomputable def mj:W->W->Option Bool:=cI λ i j=>decide (i<j)
noncomputable def F8:W->W->Option Bool:=cI λ i j=>decide (i<=j)
noncomputable def Fg:W->W->Option Bool:=cI λ i j=>decide (j<i)
noncomputable def oT:W->W->Option Bool:=cI λ i j=>decide (j<=i)
theorem DL:DB K ρ (qk λ i j=>.bl (decide (i<j))) mj:=ye
theorem Em:DB K ρ (qk λ i j=>.bl (decide (i<=j))) F8:=ye
theorem EW:DB K ρ (qk λ i j=>.bl (decide (j<i))) Fg:=ye
theorem EK:DB K ρ (qk λ i j=>.bl (decide (j<=i))) oT:=ye
noncomputable def Fs:W->Bool
 | .none=>true
 | _=>false
noncomputable def j1:W->W->Option Bool
 | d,.none=>some (Fs d)
 | _,_=>none
theorem rK {H:Hp} {x:V} {d:W} (h:Dw K ρ H x d):decide (x=.non)=Fs d:=by
 cases h <;> simp [Fs]
theorem BI:DB K ρ (λ x y H Q=>y=.non/\Q (.bl (decide (x=.non))) H) j1:=λ H x y d e b Q hx hy hg q=>by
 unfold j1 at hg
 split at hg
 . cases hg
   cases qM hy
   exact ⟨rfl,by rw [rK hx];exact q⟩
 . cases hg
noncomputable def jW:W->W->Option Bool
 | d,.none=>some (!(Fs d))
 | _,_=>none
theorem xZ:DB K ρ (λ x y H Q=>y=.non/\Q (.bl (!decide (x=.non))) H) jW:=λ H x y d e b Q hx hy hg q=>by
 unfold jW at hg
 split at hg
 . cases hg
   cases qM hy
   exact ⟨rfl,by rw [rK hx];exact q⟩
 . cases hg
noncomputable def IL:W->Option Bool
 | .none=>some true
 | .int _=>some false
 | .bool _=>some false
 | .str _=>some false
 | _=>none
noncomputable def IT (i:Int):W->Option Bool
 | .none=>some false
 | .int j=>some (decide (i=j))
 | .str _=>some false
 | _=>none
noncomputable def Jc (i:Bool):W->Option Bool
 | .none=>some false
 | .bool j=>some (decide (i=j))
 | .str _=>some false
 | _=>none
noncomputable def Jy (i:Str):W->Option Bool
 | .none=>some false
 | .int _=>some false
 | .bool _=>some false
 | .str j=>some (decide (i=j))
 | _=>none
noncomputable def FU:W->W->Option Bool
 | .none,e=>IL e
 | .int i,e=>IT i e
 | .bool i,e=>Jc i e
 | .str i,e=>Jy i e
 | _,_=>none
theorem rC {H:Hp} {x y:V} {d e:W} {b:Bool} (hx:Dw K ρ H x d) (hy:Dw K ρ H y e) (h:FU d e=some b):Af x y=true/\decide (x=y)=b:=by
 cases hx with
 | non=>cases hy <;> first | (cases h;exact ⟨rfl,by simp⟩) | cases h
 | int i=>cases hy <;> first | (cases h;exact ⟨rfl,by simp⟩) | cases h
 | bl i=>cases hy <;> first | (cases h;exact ⟨rfl,by simp⟩) | cases h
 | str i=>cases hy <;> first | (cases h;exact ⟨rfl,by simp⟩) | cases h
 | _=>cases h
noncomputable def d8 (d e:W):Option Bool:=match FU d e with
 | some b=>some b
 | none=>d.py.bind λ a=>e.py.bind λ b=>if (a.canLay0&&b.canLay0&&decide (a.depth<=64))=true then some (PyData.eqv a b) else none
noncomputable def Ca (K:Frag):R2:=λ x y H Q=>Ip x y H Q∨yd K false x y H Q
noncomputable def Bv (K:Frag):R2:=λ x y H Q=>Io x y H Q∨yd K true x y H Q
theorem Gd {X:Cx} {K:Frag} (h:X.K=K) (hu:X.A.units+64<cLine):gh X (compareOp .Eq) (Ca K):=h▸ET.or (Br hu)
theorem Hw {X:Cx} {K:Frag} (h:X.K=K) (hu:X.A.units+64<cLine):gh X (compareOp .NotEq) (Bv K):=h▸EL.or (B5 hu)
theorem DZ:DB K ρ (Ca K) d8:=λ H x y d e b Q hx hy hg q=>by
 unfold d8 at hg
 split at hg
 . rename_i b' hb
   cases hg
   obtain ⟨h1,h2⟩:=rC hx hy hb
   exact .inl ⟨h1,by rw [h2];exact q⟩
 . obtain ⟨a,ea,hg⟩:=oB hg
   obtain ⟨b,eb,hg⟩:=oB hg
   split at hg
   . rename_i hc
     cases hg
     simp only [Bool.and_eq_true,decide_eq_true_eq] at hc
     exact .inr ⟨a,b,hx.dp ea,hy.dp eb,hc.1.1,hc.1.2,hc.2,q⟩
   . cases hg
noncomputable def qj (d e:W):Option Bool:=(d8 d e).map (!·)
theorem DW:DB K ρ (Bv K) qj:=λ H x y d e b Q hx hy hg q=>by
 obtain ⟨c,hg',rfl⟩:=oM hg
 unfold d8 at hg'
 split at hg'
 . rename_i b' hb
   cases hg'
   obtain ⟨h1,h2⟩:=rC hx hy hb
   exact .inl ⟨h1,by rw [h2];exact q⟩
 . obtain ⟨a,ea,hg'⟩:=oB hg'
   obtain ⟨b,eb,hg'⟩:=oB hg'
   split at hg'
   . rename_i hc
     cases hg'
     simp only [Bool.and_eq_true,decide_eq_true_eq] at hc
     exact .inr ⟨a,b,hx.dp ea,hy.dp eb,hc.1.1,hc.1.2,hc.2,q⟩
   . cases hg'
noncomputable def bd:W->W->Option W
 | .list ds,.int i=>gW ds i
 | .tuple ds,.int i=>gW ds i
 | .str z,.int i=>if z.length<=sizeLine then (gW z.cps.toList i).map λ c=>.str ⟨#[c]⟩ else none
 | _,_=>none
theorem az.at {G:Hp} {vs:List V} {ds:List W} {i:Int} {d:W} (h:az K ρ G vs ds) (e:gW ds i=some d):∃ v,gW vs i=some v/\Dw K ρ G v d:=by
 unfold gW at e ⊢
 rw [h.length]
 obtain ⟨j,h1,h2⟩:=oB e
 obtain ⟨v,h3,h4⟩:=h.get h2
 exact ⟨v,Option.bind_eq_some_iff.mpr ⟨j,h1,h3⟩,h4⟩
theorem zZ:DR K ρ (Fp K) bd:=λ G H x y d e c Q s hx hy hg q=>by
 cases e with
 | int i=>
  cases eg hy
  cases d with
  | list ds=>
   obtain ⟨p,vs,rfl,sq,da⟩:=lD s hx
   obtain ⟨v,h1,h2⟩:=da.at hg
   exact .inl ⟨p,vs,_,v,rfl,rfl,sq,h1,q v G H (.refl s) h2⟩
  | tuple ds=>
   obtain ⟨p,vs,rfl,sq,da⟩:=oS hx
   obtain ⟨v,h1,h2⟩:=da.at hg
   exact .inr (.inl ⟨p,vs,_,v,rfl,rfl,s.tup (fS.of sq),h1,q v G H (.refl s) h2⟩)
  | str z=>
   by_cases hz:z.length<=sizeLine
   . obtain ⟨c',h1,rfl⟩:=oM ((if_pos hz).symm.trans hg)
     cases qz hx
     exact .inr (.inr ⟨_,_,c',rfl,rfl,hz,h1,q _ G H (.refl s) (.str _)⟩)
   . cases (if_neg hz).symm.trans hg
  | _=>cases hg
 | _=>cases d <;> cases hg
noncomputable def rE (xs:List W) (lo hi:Option Int):List W:=(xs.drop (HT.sIx xs.length 0 lo)).take (HT.sIx xs.length xs.length hi-HT.sIx xs.length 0 lo)
theorem az.cut {G:Hp} {vs:List V} {ds:List W} (h:az K ρ G vs ds) (lo hi:Option Int):az K ρ G (qr vs lo hi) (rE ds lo hi):=by
 unfold qr rE
 rw [h.length]
 exact (h.drop _).take _
noncomputable def FG (K:Frag) (ρ:List Addr) (t:TO) (f:DS->Option (Option Int)):Prop:=
 ∀ (G:Hp) (σ:St) (H:Hp) (δ:DS) (x:Option Int) (Q:Option Int->Hp->Prop),Rl K ρ G H δ σ->f δ=some x->(∀ G' H',Gr G H G' H'->Q x H')->t σ H Q
noncomputable def x6:DS->Option (Option Int):=λ _=>some none
noncomputable def F7:W->Option Int
 | .int i=>some i
 | _=>none
theorem vK {d:W} {i:Int} (h:F7 d=some i):d=.int i:=by
 cases d <;> first | (cases h;rfl) | cases h
noncomputable def jT (f:DS->Option W):DS->Option (Option Int):=λ δ=>(f δ).bind λ d=>(F7 d).map some
theorem wG {t:TE} {f:DS->Option W} (h:DE K ρ t f):FG K ρ (zA t) (jT f):=λ G σ H δ x Q R e q=>by
 obtain ⟨d,ed,e⟩:=oB e
 obtain ⟨i,ei,rfl⟩:=oM e
 cases vK ei
 exact h G σ H δ _ _ R ed λ v G1 H1 g1 dv=>by
  cases eg dv
  exact ⟨i,rfl,q G1 H1 g1⟩
noncomputable def pE:W->Option (List W)
 | .list ds=>some ds
 | _=>none
theorem p5 {d:W} {ds:List W} (h:pE d=some ds):d=.list ds:=by
 cases d <;> first | (cases h;rfl) | cases h
noncomputable def we (f:DS->Option W) (lo hi:DS->Option (Option Int)):DS->Option (List W):=λ δ=>(f δ).bind λ d=>(pE d).bind λ ds=>(lo δ).bind λ l=>(hi δ).map λ u=>rE ds l u
theorem A2 {t:TE} {tl th:TO} {f:DS->Option W} {lo hi:DS->Option (Option Int)} (h:DK K ρ t f) (hl:FG K ρ tl lo) (hh:FG K ρ th hi):DO K ρ (Iz (zP K) t tl th) (we f lo hi):=λ G σ H δ ds Q R e q=>by
 obtain ⟨d,ed,e⟩:=oB e
 obtain ⟨es,ee,e⟩:=oB e
 obtain ⟨l,el,e⟩:=oB e
 obtain ⟨u,eu,rfl⟩:=oM e
 cases p5 ee
 refine h G σ H δ _ _ R ed λ v G1 H1 g1 dv=>hl G1 σ H1 δ l _ (R.grow g1) el λ G2 H2 g2=>hh G2 σ H2 δ u _ ((R.grow g1).grow g2) eu λ G3 H3 g3=>?_
 have g23:=g2.trans g3
 obtain ⟨p,vs,rfl,sq,da⟩:=lD g23.s (dv.grow g23)
 refine ⟨p,vs,rfl,sq,λ r H' n=>?_⟩
 have g:=g1.trans g23
 exact q r _ G3 H' (g.trans (.nwO g.s n)) (dD g.h n.2.1) (dD g.s n.2.1) n.2.2 (da.cut l u)
noncomputable def GC (K:Frag) (ρ:List Addr) (r:List V->Hp->VK->Prop) (g:W->Option W):Prop:=
 ∀ (G H:Hp) (x:V) (d c:W) (Q:VK),bg G H->Pk K ρ G H x d->g d=some c->(∀ v G' H',Gr G H G' H'->Dw K ρ G' v c->Q v H')->r [x] H Q
noncomputable def hV (g:W->Option W) (f:DS->Option W):DS->Option W:=λ δ=>(f δ).bind g
theorem EB {r:List V->Hp->VK->Prop} {g:W->Option W} {t:TE} {f:DS->Option W} (hr:GC K ρ r g) (h:DK K ρ t f):DE K ρ (uj r (gR t jJ)) (hV g f):=λ G σ H δ d Q R e q=>by
 obtain ⟨x,ex,e⟩:=oB e
 exact h G σ H δ x _ R ex λ v G1 H1 g1 dv=>hr G1 H1 v x d Q g1.s dv e λ u G2 H2 g2 du=>q u G2 H2 (g1.trans g2) du
noncomputable def sE (K:Frag):List V->Hp->VK->Prop:=λ xs H Q=>Eb K xs H Q∨zv xs H Q
theorem uc {X:Cx} {K:Frag} (h:X.K=K):dJ X (.builtin "len") (sE K):=(m6 h).or mn
noncomputable def dF:W->Option W
 | .list ds=>some (.int ds.length)
 | .tuple ds=>some (.int ds.length)
 | .str z=>if z.length<=sizeLine then some (.int z.length) else none
 | _=>none
theorem wb:GC K ρ (sE K) dF:=λ G H x d c Q s hx hg q=>by
 unfold dF at hg
 split at hg
 . cases hg
   obtain ⟨p,vs,rfl,sq,da⟩:=lD s hx
   exact .inl ⟨p,vs,rfl,.inl sq,by rw [da.length];exact q _ G H (.refl s) (.int _)⟩
 . cases hg
   obtain ⟨p,vs,rfl,sq,da⟩:=oS hx
   exact .inl ⟨p,vs,rfl,.inr (s.tup (fS.of sq)),by rw [da.length];exact q _ G H (.refl s) (.int _)⟩
 . split at hg
   . rename_i hz
     cases hg
     cases qz hx
     exact .inr ⟨_,rfl,hz,q _ G H (.refl s) (.int _)⟩
   . cases hg
 . cases hg
noncomputable def kO (f:DS->Option W):DS->Option (List W):=λ δ=>(f δ).bind nY
theorem xu {t:TE} {f:DS->Option W} (h:DK K ρ t f):DO K ρ (uj (oz K) (gR t jJ)) (kO f):=λ G σ H δ ds Q R e q=>by
 obtain ⟨x,ex,e⟩:=oB e
 refine h G σ H δ x _ R ex λ v G1 H1 g1 dv=>?_
 have fin:∀ (vs:List V) (l:Addr),az K ρ G1 vs ds->H1 l=none->Q (.ref l) (cq H1 l (.lst vs)):=λ vs l da hl=>by
  have n:Nw H1 (cq H1 l (.lst vs)) l (.lst vs):=.of hl
  exact q l vs G1 _ (g1.trans (.nwO g1.s n)) (dD g1.h hl) (dD g1.s hl) aJ da
 unfold nY at e
 split at e
 . cases e
   obtain ⟨p,vs,rfl,sq,da⟩:=lD g1.s dv
   exact ⟨p,vs,rfl,.inl sq,λ l hl=>fin vs l da hl⟩
 . cases e
   obtain ⟨p,vs,rfl,sq,da⟩:=oS dv
   exact ⟨p,vs,rfl,.inr (g1.s.tup (fS.of sq)),λ l hl=>fin vs l da hl⟩
 . cases e
noncomputable def iY (T:String):W->Option W
 | .int i=>(wJ (.int i) T).map .bool
 | .bool i=>(wJ (.bl i) T).map .bool
 | .str i=>(wJ (.str i) T).map .bool
 | _=>none
theorem B7 {T:String} {t:TE} {f:DS->Option W} (h:DE K ρ t f):DE K ρ (uj BN (gR t (gR (tC (.ty T)) jJ))) (hV (iY T) f):=λ G σ H δ d Q R e q=>by
 obtain ⟨x,ex,e⟩:=oB e
 refine h G σ H δ x _ R ex λ v G1 H1 g1 dv=>?_
 unfold iY at e
 split at e
 all_goals first
  | cases e
  | (obtain ⟨k,ek,rfl⟩:=oM e
     cases dv
     exact ⟨_,T,k,rfl,ek,q _ G1 H1 g1 (.bl k)⟩)
end
section
variable {X:Cx} {tg:Expr}
end
section
variable {K:Frag} {ρ:List Addr}
end
section
variable {X:Cx}
end
section
variable {K:Frag} {ρ:List Addr}
end
theorem Bd (i j:Int):b8 (.int i) (.int j)=some (.int (i+j)):=rfl
theorem qw {a b:List W} (h:a.length+b.length<=sizeLine):b8 (.list a) (.list b)=some (.list (a++b)):=if_pos h
theorem qp {a b:Str} (h:a.length+b.length<=sizeLine):b8 (.str a) (.str b)=some (.str (a++b)):=if_pos h
theorem Ag (i j:Int):gSub' (.int i) (.int j)=some (.int (i-j)):=rfl
theorem fU {i j:Int} (h:kx i j=true):dZ (.int i) (.int j)=some (.int (i*j)):=by simp only [dZ,yw,if_pos h]
theorem lU {i j:Int} (h:lT i j=true):ft (.int i) (.int j)=some (.int (i.fdiv j)):=by simp only [ft,yw,if_pos h]
theorem AF {i j:Int} (h:qi i j=true):b7 (.int i) (.int j)=some (.int (i.fmod j)):=by simp only [b7,yw,if_pos h]
theorem A4 (i:Int):gf (.int i)=some (.int (-i)):=rfl
theorem iD {i j:Int} (h1 : -(2^64)<i) (h2:i<2^64):kx i j=true:=by
 simp only [kx,Bool.and_eq_true,Bool.or_eq_true,decide_eq_true_eq]
 exact .inl (.inl (by omega))
theorem oP {i j:Int} (h1 : -(2^64)<j) (h2:j<2^64):kx i j=true:=by
 simp only [kx,Bool.and_eq_true,Bool.or_eq_true,decide_eq_true_eq]
 exact .inl (.inr (by omega))
theorem vM {i j:Int} (h1:0<j) (h2:j<2^64):lT i j=true:=by
 have e:(2:Nat)^64<2^200:=Nat.pow_lt_pow_right (by decide) (by decide)
 simp only [lT,Bool.and_eq_true,decide_eq_true_eq]
 exact ⟨by omega,Nat.lt_trans (by omega) e⟩
theorem uQ {i j:Int} (h:j≠0):qi i j=true:=by simp [qi,h]
theorem g9 (i:Int) {j:Int} (h1:0<j) (h2:j<2^64):ft (.int i) (.int j)=some (.int (i.fdiv j)):=lU (vM h1 h2)
theorem bw (i:Int) {j:Int} (h1:j≠0):b7 (.int i) (.int j)=some (.int (i.fmod j)):=AF (uQ h1)
theorem vP (b:Bool):wX (.bool b)=some b:=rfl
theorem zo (i:Int):F7 (.int i)=some i:=rfl
theorem yf (ds:List W):pE (.list ds)=some ds:=rfl
theorem BV (ds:List W):nY (.list ds)=some ds:=rfl
theorem BL (ds:List W):nY (.tuple ds)=some ds:=rfl
theorem AQ (ds:List W):dF (.list ds)=some (.int ds.length):=rfl
theorem Bk (ds:List W):dF (.tuple ds)=some (.int ds.length):=rfl
theorem zC (ds:List W) (i:Int):bd (.list ds) (.int i)=gW ds i:=rfl
theorem ni (ds:List W) (i:Int):bd (.tuple ds) (.int i)=gW ds i:=rfl
theorem Du (i j:Int):d8 (.int i) (.int j)=some (decide (i=j)):=rfl
theorem Et (i j:Str):d8 (.str i) (.str j)=some (decide (i=j)):=rfl
theorem Ek (i j:Bool):d8 (.bool i) (.bool j)=some (decide (i=j)):=rfl
theorem E5 (i j:Int):qj (.int i) (.int j)=some (!decide (i=j)):=rfl
theorem jS (i j:Str):qj (.str i) (.str j)=some (!decide (i=j)):=rfl
theorem zm (i j:Int):mj (.int i) (.int j)=some (decide (i<j)):=rfl
theorem zI (i j:Int):F8 (.int i) (.int j)=some (decide (i<=j)):=rfl
theorem EO (i j:Int):Fg (.int i) (.int j)=some (decide (j<i)):=rfl
theorem Fe (i j:Int):oT (.int i) (.int j)=some (decide (j<=i)):=rfl
theorem y4 (i:Int):jW (.int i) .none=some true:=rfl
theorem xD:jW .none .none=some false:=rfl
theorem xV (i:Str):jW (.str i) .none=some true:=rfl
theorem xt (i:List W):jW (.list i) .none=some true:=rfl
theorem xP (i:List W):jW (.tuple i) .none=some true:=rfl
theorem AS (i:Int):j1 (.int i) .none=some false:=rfl
theorem CG:j1 .none .none=some true:=rfl
theorem Bs (i:Str):j1 (.str i) .none=some false:=rfl
theorem Ao (i:List W):j1 (.list i) .none=some false:=rfl
theorem Cz (i:List W):j1 (.tuple i) .none=some false:=rfl
theorem xY (i:Int):iY "int" (.int i)=some (.bool true):=rfl
theorem va (i:Int):iY "bool" (.int i)=some (.bool false):=rfl
theorem yJ (i:Str):iY "str" (.str i)=some (.bool true):=rfl
theorem aN {f g:DS->Option eI} {δ δ1:DS} {o:Option eI} (h1:f δ=some (.nx δ1)) (h2:g δ1=o):aY f g δ=o:=by
 unfold aY
 rw [h1]
 exact h2
theorem d7 {a n:Nat} {fb:DS->Option eI} {ds:List W} {d:W} (hl:ds.length=a) (h:fb (dL n ds)=some (.rt d)):dX a n fb ds=some d:=by
 unfold dX
 rw [if_pos hl,h]
 rfl
theorem sL {fi:DS->Option (List W)} {h:W->DS->Option DS} {fb:DS->Option eI} {δ:DS} {ds:List W} {o:Option eI} (h1:fi δ=some ds) (h2:cJ h fb ds δ=o):lX fi h fb δ=o:=by
 unfold lX
 rw [h1]
 exact h2
theorem aS {f:DS->Option W} {h:W->DS->Option DS} {δ δ':DS} {d:W} (h1:f δ=some d) (h2:h d δ=some δ'):aV f h δ=some (.nx δ'):=by
 unfold aV
 rw [h1]
 show (h d δ).map eI.nx=_
 rw [h2]
 rfl
theorem aQ {f:DS->Option W} {δ:DS} {d:W} (h1:f δ=some d):bc f δ=some (.rt d):=by
 unfold bc
 rw [h1]
 rfl
theorem aE {c:DS->Option Bool} {f g:DS->Option eI} {δ:DS} {b:Bool} {o:Option eI} (h1:c δ=some b) (h2:(if b=true then f δ else g δ)=o):cG c f g δ=o:=by
 unfold cG
 rw [h1]
 exact h2
inductive Ob where
 | lst (ds:List W)
 | dK (kvs:List (bz×W))
 | dT (kvs:List (List bz×W))
 | dN (kvs:List (List bz×W))
 | ins (c:Str) (fs:List (Str×W))
noncomputable abbrev ai:=List Ob
inductive gl (K:Frag) (ρ:List Addr) (G:Hp) {κ:Type}:List (κ×W)->List (κ×V)->Prop
 | nil:gl K ρ G [] []
 | cons {k:κ} {d:W} {v:V} {l:List (κ×W)} {m:List (κ×V)}:Dw K ρ G v d->gl K ρ G l m->gl K ρ G ((k,d)::l) ((k,v)::m)
noncomputable def wf (K:Frag) (ρ:List Addr) (cl:Str->Addr) (G H:Hp) (a:Addr):Ob->Prop
 | .lst ds=>∃ vs,H a=some (.lst vs)/\az K ρ G vs ds
 | .dK kvs=>∃ ws,H a=some (.dK ws)/\gl K ρ G kvs ws
 | .dT kvs=>∃ ws,H a=some (.dT ws)/\gl K ρ G kvs ws
 | .dN kvs=>∃ ws,H a=some (.dN ws)/\gl K ρ G kvs ws
 | .ins c fs=>∃ dx ws,H a=some (.ins (cl c) dx ws)/\G dx=none/\H dx=some (.own a)/\gl K ρ G fs ws
theorem yI {ρ ρ':List Addr} (h:ρ <+: ρ') (n:Nat) (a:Addr) (e:ρ[n]?=some a):ρ'[n]?=some a:=by
 obtain ⟨t,rfl⟩:=h
 rw [List.getElem?_append_left (oG e).1]
 exact e
theorem Dw.ext {K:Frag} {ρ ρ':List Addr} {G:Hp} (h:ρ <+: ρ') {v:V} {d:W} (q:Dw K ρ G v d):Dw K ρ' G v d:=q.mapG (λ _ _ q=>q) (λ _ _ q=>q) (yI h)
theorem az.ext {K:Frag} {ρ ρ':List Addr} {G:Hp} (h:ρ <+: ρ') {vs:List V} {ds:List W} (q:az K ρ G vs ds):az K ρ' G vs ds:=q.mapA λ _ _ a=>a.ext h
theorem gl.ext {K:Frag} {ρ ρ':List Addr} {G G':Hp} {κ:Type} (h:ρ <+: ρ') (g:bg G G') {l:List (κ×W)} {m:List (κ×V)} (q:gl K ρ G l m):gl K ρ' G' l m:=by
 induction q with
 | nil=>exact .nil
 | cons a _ ih=>exact .cons ((a.ext h).same g) ih
theorem gl.lookup {K:Frag} {ρ:List Addr} {G:Hp} {κ:Type} [BEq κ] {k:κ} {l:List (κ×W)} {m:List (κ×V)} {d:W} (q:gl K ρ G l m):l.lookup k=some d->∃ v,m.lookup k=some v/\Dw K ρ G v d:=by
 induction q with
 | nil=>exact λ e=>by cases e
 | @cons j d v l m a _ ih=>
  intro e
  simp only [List.lookup] at e ⊢
  split at e
  . cases e;exact ⟨_,rfl,a⟩
  . exact ih e
theorem gl.lookup_none {K:Frag} {ρ:List Addr} {G:Hp} {κ:Type} [BEq κ] {k:κ} {l:List (κ×W)} {m:List (κ×V)} (q:gl K ρ G l m):l.lookup k=none->m.lookup k=none:=by
 induction q with
 | nil=>exact λ _=>rfl
 | @cons j d v l m a _ ih=>
  intro e
  simp only [List.lookup] at e ⊢
  split at e
  . cases e
  . exact ih e
theorem gl.length {K:Frag} {ρ:List Addr} {G:Hp} {κ:Type} {l:List (κ×W)} {m:List (κ×V)} (q:gl K ρ G l m):l.length=m.length:=by
 induction q with
 | nil=>rfl
 | cons _ _ ih=>exact congrArg (· + 1) ih
noncomputable def di (f:Str) (v:W):List (Str×W)->List (Str×W)
 | []=>[(f,v)]
 | (g,x)::r=>if g=f then (g,v)::r else (g,x)::di f v r
theorem gl.putF {K:Frag} {ρ:List Addr} {G:Hp} {f:Str} {v:V} {d:W} (h:Dw K ρ G v d) {l:List (Str×W)} {m:List (Str×V)} (q:gl K ρ G l m):gl K ρ G (di f d l) (putF f v m):=by
 induction q with
 | nil=>exact .cons h .nil
 | cons a b ih=>
  unfold di L2.putF
  split
  . exact .cons h b
  . exact .cons a ih
structure SR (K:Frag) (ρ:List Addr) (cl:Str->Addr) (G H:Hp) (S:ai):Prop where
 len:ρ.length=S.length
 nd:ρ.Nodup
 ob:∀ (n:Nat) o,S[n]?=some o->∃ a,ρ[n]?=some a/\G a=none/\wf K ρ cl G H a o
structure GS (ρ:List Addr) (G H:Hp) (ρ':List Addr) (G' H':Hp):Prop where
 r:ρ <+: ρ'
 g:bg G G'
 s:bg G' H'
 h:∀ b o,b∉ρ->H b=some o->H' b=some o
 k:∀ b,H b≠none->H' b≠none
 n:∀ b,nT H b->G b=none->G' b=none
 f:∀ a,a∈ρ'->a∉ρ->H a=none
 t:∀ b,nT H b->nT H' b
theorem GS.refl {ρ:List Addr} {G H:Hp} (s:bg G H):GS ρ G H ρ G H:=⟨List.prefix_refl _,.refl _,s,λ _ _ _ e=>e,λ _ e=>e,λ _ _ e=>e,λ a h1 h2=>absurd h1 h2,λ _ e=>e⟩
theorem GS.of {ρ:List Addr} {G H G' H':Hp} (g:Gr G H G' H'):GS ρ G H ρ G' H':=⟨List.prefix_refl _,g.g,g.s,λ b o _ e=>g.h b o e,λ b e=>n9 g.h e,g.n,λ a h1 h2=>absurd h1 h2,λ _ e=>e.same g.h⟩
theorem GS.trans {ρ ρ1 ρ2:List Addr} {G H G1 H1 G2 H2:Hp} (a:GS ρ G H ρ1 G1 H1) (b:GS ρ1 G1 H1 ρ2 G2 H2):GS ρ G H ρ2 G2 H2:=
 ⟨a.r.trans b.r,a.g.trans b.g,b.s,λ c o hc e=>b.h c o (λ h1=>by rw [a.f c h1 hc] at e;cases e) (a.h c o hc e),λ c e=>b.k c (a.k c e),λ c h1 h2=>b.n c (a.t c h1) (a.n c h1 h2),(λ c h1 h2=>by
  by_cases h3:c∈ρ1
  . exact a.f c h3 h2
  . have:=b.f c h1 h3
    cases e:H c with
    | none=>rfl
    | some o=>exact absurd this (a.k c (by rw [e];simp))),λ c e=>b.t c (a.t c e)⟩
section
variable {K:Frag} {cl:Str->Addr}
theorem wf.move {ρ ρ':List Addr} {G H G' H':Hp} {a:Addr} (hr:ρ <+: ρ') (g:bg G G') (ha:H' a=H a) (hd:∀ dx,G dx=none->H dx=some (.own a)->H' dx=some (.own a)/\G' dx=none) {o:Ob} (h:wf K ρ cl G H a o):wf K ρ' cl G' H' a o:=by
 cases o with
 | lst ds=>
  obtain ⟨vs,h1,h2⟩:=h
  exact ⟨vs,ha.trans h1,(h2.ext hr).same g⟩
 | ins c fs=>
  obtain ⟨dx,ws,h1,h2,h3,h4⟩:=h
  exact ⟨dx,ws,ha.trans h1,(hd dx h2 h3).2,(hd dx h2 h3).1,h4.ext hr g⟩
 | _=>
  obtain ⟨ws,h1,h2⟩:=h
  exact ⟨ws,ha.trans h1,h2.ext hr g⟩
theorem wf.some {ρ:List Addr} {G H:Hp} {a:Addr} {o:Ob} (h:wf K ρ cl G H a o):∃ x,H a=some x/\∀ b,x≠.own b:=by
 cases o with
 | ins c fs=>
  obtain ⟨dx,ws,h1,_⟩:=h
  exact ⟨_,h1,λ b e=>by cases e⟩
 | _=>
  obtain ⟨ws,h1,_⟩:=h
  exact ⟨_,h1,λ b e=>by cases e⟩
theorem wf.nt {ρ:List Addr} {G H:Hp} {a:Addr} {o:Ob} (h:wf K ρ cl G H a o):nT H a:=by
 cases o with
 | ins c fs=>
  obtain ⟨_,_,h1,_⟩:=h
  exact .of h1 λ _ z=>by cases z
 | _=>
  obtain ⟨_,h1,_⟩:=h
  exact .of h1 λ _ z=>by cases z
theorem SR.grow {ρ:List Addr} {G H G' H':Hp} {S:ai} (s:SR K ρ cl G H S) (g:Gr G H G' H'):SR K ρ cl G' H' S:=
 ⟨s.len,s.nd,λ n o e=>by
  obtain ⟨a,h1,h2,h3⟩:=s.ob n o e
  obtain ⟨x,hx,_⟩:=h3.some
  exact ⟨a,h1,g.n a h3.nt h2,h3.move (List.prefix_refl _) g.g (by rw [hx];exact g.h _ _ hx) λ dx e1 e2=>⟨g.h _ _ e2,g.n dx (.of e2 λ _ z=>by cases z) e1⟩⟩⟩
theorem SR.addr {ρ:List Addr} {G H:Hp} {S:ai} (s:SR K ρ cl G H S) {n:Nat} {o:Ob} {a:Addr} (e:S[n]?=some o) (ea:ρ[n]?=some a):G a=none/\wf K ρ cl G H a o:=by
 obtain ⟨b,h1,h2,h3⟩:=s.ob n o e
 rw [ea] at h1
 cases h1
 exact ⟨h2,h3⟩
theorem tJ {l:List Addr} (h:l.Nodup) {i j:Nat} {a:Addr} (h1:l[i]?=some a) (h2:l[j]?=some a):i=j:=by
 obtain ⟨hi,e1⟩:=oG h1
 obtain ⟨hj,e2⟩:=oG h2
 have hp:=List.pairwise_iff_getElem.mp h
 rcases Nat.lt_trichotomy i j with c | c | c
 . exact absurd (e1.trans e2.symm) (hp i j hi hj c)
 . exact c
 . exact absurd (e2.trans e1.symm) (hp j i hj hi c)
theorem SR.put {ρ:List Addr} {G H:Hp} {S:ai} {n:Nat} {o o':Ob} {a:Addr} {x:HO} (s:SR K ρ cl G H S) (sg:bg G H) (e:S[n]?=some o) (ea:ρ[n]?=some a) (hx:∀ b,x≠.own b) (ho:wf K ρ cl G (cq H a x) a o'):SR K ρ cl G (cq H a x) (S.set n o')/\GS ρ G H ρ G (cq H a x):=by
 obtain ⟨ga,ob⟩:=s.addr e ea
 obtain ⟨y,hy,hno⟩:=ob.some
 have am:a∈ρ:=List.mem_of_getElem? ea
 refine ⟨⟨by rw [List.length_set];exact s.len,s.nd,λ m q em=>?_⟩,⟨List.prefix_refl _,.refl _,λ b u eb=>?_,λ b u hb eb=>?_,λ b hb=>?_,λ _ _ e=>e,λ b h1 h2=>absurd h1 h2,λ b hb=>by
  by_cases z:b=a
  . exact z▸ho.nt
  . unfold nT
    rw [aD z]
    exact hb⟩⟩
 . rcases dt em with ⟨rfl,rfl,_⟩ | ⟨ne,em⟩
   . exact ⟨a,ea,ga,ho⟩
   . obtain ⟨b,h1,h2,h3⟩:=s.ob m q em
     have hab:b≠a:=λ z=>ne (tJ s.nd ea (z▸h1))
     exact ⟨b,h1,h2,h3.move (List.prefix_refl _) (.refl _) (aD hab) λ dx e1 e2=>⟨by
      rw [aD (λ z=>by rw [z,hy] at e2;cases e2;exact hno _ rfl)]
      exact e2,e1⟩⟩
 . rw [aD (λ z=>by rw [z,ga] at eb;cases eb)]
   exact sg _ _ eb
 . rw [aD (λ z=>hb (by rw [z];exact am))]
   exact eb
 . by_cases z:b=a
   . subst z
     rw [aJ]
     simp
   . rw [aD z]
     exact hb
theorem SR.push {ρ:List Addr} {G H H':Hp} {S:ai} {p:Addr} {o:Ob} {x:HO} (s:SR K ρ cl G H S) (sg:bg G H) (n:Nw H H' p x) (ho:∀ ρ',ρ <+: ρ'->wf K ρ' cl G H' p o):SR K (ρ++[p]) cl G H' (S++[o])/\GS ρ G H (ρ++[p]) G H':=by
 have pm:p∉ρ:=λ hp=>by
  obtain ⟨i,hi,e⟩:=List.mem_iff_getElem.mp hp
  obtain ⟨b,h1,h2,h3⟩:=s.ob i (S[i]'(by rw [<-s.len];exact hi)) (List.getElem?_eq_getElem _)
  rw [List.getElem?_eq_getElem hi,e] at h1
  cases h1
  obtain ⟨y,hy,_⟩:=h3.some
  rw [n.2.1] at hy
  cases hy
 have pre:ρ <+: ρ++[p]:=⟨[p],rfl⟩
 refine ⟨⟨by simp [s.len],List.nodup_append.mpr ⟨s.nd,by simp,λ a ha b hb=>by
  rw [List.mem_singleton.mp hb]
  exact λ z=>pm (z▸ha)⟩,λ m q em=>?_⟩,⟨pre,.refl _,sg.trans n.1,λ b u _ e=>n.1 b u e,λ b e=>n9 n.1 e,λ _ _ e=>e,λ a h1 h2=>?_,λ _ e=>e.same n.1⟩⟩
 . rcases Nat.lt_or_ge m S.length with hm | hm
   . rw [List.getElem?_append_left hm] at em
     obtain ⟨b,h1,h2,h3⟩:=s.ob m q em
     obtain ⟨y,hy,_⟩:=h3.some
     exact ⟨b,by rw [List.getElem?_append_left (by rw [s.len];exact hm)];exact h1,h2,h3.move pre (.refl _) (by rw [hy];exact n.1 _ _ hy) λ dx e1 e2=>⟨n.1 _ _ e2,e1⟩⟩
   . rw [List.getElem?_append_right hm] at em
     have hz:m-S.length=0:=by
      have:=(oG em).1
      simp at this
      omega
     rw [hz] at em
     cases em
     refine ⟨p,?_,dD sg n.2.1,ho _ pre⟩
     rw [List.getElem?_append_right (by rw [s.len];exact hm),s.len,hz]
     rfl
 . rcases List.mem_append.mp h1 with h | h
   . exact absurd h h2
   . rw [List.mem_singleton.mp h]
     exact n.2.1
inductive Rs (α:Type) where
 | ok (a:α)
 | xc (c:Str)
noncomputable abbrev SM (α:Type):=Option (Rs α×ai)
noncomputable def ak {α β:Type} (m:SM α) (k:α->ai->SM β):SM β:=match m with
 | some (.ok a,S)=>k a S
 | some (.xc c,S)=>some (.xc c,S)
 | none=>none
theorem aK {α β:Type} {m:SM α} {k:α->ai->SM β} {r:Rs β} {S':ai} (h:ak m k=some (r,S')):(∃ c,m=some (.xc c,S')/\r=.xc c)∨∃ a S1,m=some (.ok a,S1)/\k a S1=some (r,S'):=by
 unfold ak at h
 split at h
 . exact .inr ⟨_,_,rfl,h⟩
 . cases h
   exact .inl ⟨_,rfl,rfl⟩
 . cases h
structure RS (K:Frag) (cl:Str->Addr) (ρ:List Addr) (G H:Hp) (δ:DS) (σ:St) (S:ai):Prop where
 rl:Rl K ρ G H δ σ
 st:SR K ρ cl G H S
 ap:∀ (i:Nat) ds p,δ[i]?=some (.own ds)->σ[i]?=some (some (.ref p))->p∉ρ
theorem qt.move {ρ ρ':List Addr} {G H G' H':Hp} (g:GS ρ G H ρ' G' H') {s:Sl} {o:Option V} (ha:∀ ds p,s=.own ds->o=some (.ref p)->p∉ρ) (h:qt K ρ G H s o):qt K ρ' G' H' s o:=by
 cases s with
 | no=>exact trivial
 | val d=>
  obtain ⟨v,e,h⟩:=h
  exact ⟨v,e,(h.ext g.r).same g.g⟩
 | own ds=>
  obtain ⟨p,vs,e,h1,h2,h3⟩:=h
  exact ⟨p,vs,e,g.n p (.l h2) h1,g.h _ _ (ha ds p rfl e) h2,(h3.ext g.r).same g.g⟩
theorem RS.grow {ρ ρ':List Addr} {G H G' H':Hp} {δ:DS} {σ:St} {S S':ai} (R:RS K cl ρ G H δ σ S) (g:GS ρ G H ρ' G' H') (s:SR K ρ' cl G' H' S'):RS K cl ρ' G' H' δ σ S':=
 ⟨⟨g.s,R.rl.len,λ i sl e=>by
  obtain ⟨o,h1,h2⟩:=R.rl.sl i sl e
  exact ⟨o,h1,h2.move g λ ds p e1 e2=>R.ap i ds p (e1▸e) (e2▸h1)⟩,R.rl.apart⟩,s,λ i ds p h1 h2 hp=>by
  obtain ⟨o,k1,p',vs,rfl,k3,k4,k5⟩:=R.rl.sl i _ h1
  rw [h2] at k1
  cases k1
  rw [g.f p hp (R.ap i ds p h1 h2)] at k4
  cases k4⟩
noncomputable def SE (K:Frag) (cl:Str->Addr) (E:XK) (t:TE) (f:DS->ai->SM W):Prop:=
 ∀ (ρ:List Addr) (G:Hp) (σ:St) (H:Hp) (δ:DS) (S:ai) (r:Rs W) (S':ai) (Q:VK),RS K cl ρ G H δ σ S->f δ S=some (r,S')->
  (∀ d,r=.ok d->∀ v ρ' G' H',GS ρ G H ρ' G' H'->SR K ρ' cl G' H' S'->Dw K ρ' G' v d->Q v H')->
  (∀ c,r=.xc c->∀ ρ' G' H',GS ρ G H ρ' G' H'->SR K ρ' cl G' H' S'->E (.ref (cl c)) none H')->t σ H Q
noncomputable def SA (K:Frag) (cl:Str->Addr) (E:XK) (t:TA) (f:DS->ai->SM (List W)):Prop:=
 ∀ (ρ:List Addr) (G:Hp) (σ:St) (H:Hp) (δ:DS) (S:ai) (r:Rs (List W)) (S':ai) (Q:List V->Hp->Prop),RS K cl ρ G H δ σ S->f δ S=some (r,S')->
  (∀ ds,r=.ok ds->∀ vs ρ' G' H',GS ρ G H ρ' G' H'->SR K ρ' cl G' H' S'->az K ρ' G' vs ds->Q vs H')->
  (∀ c,r=.xc c->∀ ρ' G' H',GS ρ G H ρ' G' H'->SR K ρ' cl G' H' S'->E (.ref (cl c)) none H')->t σ H Q
noncomputable def ST (K:Frag) (cl:Str->Addr) (E:XK) (t:TT) (f:DS->ai->SM Bool):Prop:=
 ∀ (ρ:List Addr) (G:Hp) (σ:St) (H:Hp) (δ:DS) (S:ai) (r:Rs Bool) (S':ai) (Q:Bool->Hp->Prop),RS K cl ρ G H δ σ S->f δ S=some (r,S')->
  (∀ b,r=.ok b->∀ ρ' G' H',GS ρ G H ρ' G' H'->SR K ρ' cl G' H' S'->Q b H')->
  (∀ c,r=.xc c->∀ ρ' G' H',GS ρ G H ρ' G' H'->SR K ρ' cl G' H' S'->E (.ref (cl c)) none H')->t σ H Q
variable {E:XK}
noncomputable def ac {α:Type} (f:DS->Option α):DS->ai->SM α:=λ δ S=>(f δ).map λ d=>(.ok d,S)
theorem gH {α:Type} {f:DS->Option α} {δ:DS} {S S':ai} {r:Rs α} (h:ac f δ S=some (r,S')):∃ d,f δ=some d/\r=.ok d/\S'=S:=by
 obtain ⟨d,e1,e2⟩:=oM h
 cases e2
 exact ⟨d,e1,rfl,rfl⟩
theorem yr {t:TE} {f:DS->Option W} (h:∀ ρ,DE K ρ t f):SE K cl E t (ac f):=λ ρ G σ H δ S r S' Q R e q _=>by
 obtain ⟨d,e1,rfl,rfl⟩:=gH e
 exact h ρ G σ H δ d Q R.rl e1 λ v G' H' g dv=>q d rfl v ρ G' H' (.of g) (R.st.grow g) dv
theorem xF {t:TA} {f:DS->Option (List W)} (h:∀ ρ,DA K ρ t f):SA K cl E t (ac f):=λ ρ G σ H δ S r S' Q R e q _=>by
 obtain ⟨d,e1,rfl,rfl⟩:=gH e
 exact h ρ G σ H δ d Q R.rl e1 λ v G' H' g dv=>q d rfl v ρ G' H' (.of g) (R.st.grow g) dv
theorem yO {t:TT} {f:DS->Option Bool} (h:∀ ρ,DT K ρ t f):ST K cl E t (ac f):=λ ρ G σ H δ S r S' Q R e q _=>by
 obtain ⟨d,e1,rfl,rfl⟩:=gH e
 exact h ρ G σ H δ d Q R.rl e1 λ G' H' g=>q d rfl ρ G' H' (.of g) (R.st.grow g)
noncomputable def bM:DS->ai->SM (List W):=λ _ S=>some (.ok [],S)
noncomputable def aG (f:DS->ai->SM W) (g:DS->ai->SM (List W)):DS->ai->SM (List W):=λ δ S=>ak (f δ S) λ d S1=>ak (g δ S1) λ ds S2=>some (.ok (d::ds),S2)
theorem B1:SA K cl E jJ bM:=λ ρ G σ H δ S r S' Q R e q _=>by
 cases e
 exact q [] rfl [] ρ G H (.refl R.rl.sub) R.st .nil
theorem xL {t:TE} {u:TA} {f:DS->ai->SM W} {g:DS->ai->SM (List W)} (h1:SE K cl E t f) (h2:SA K cl E u g):SA K cl E (gR t u) (aG f g):=λ ρ G σ H δ S r S' Q R e q qx=>by
 rcases aK e with ⟨c,em,rfl⟩ | ⟨d,S1,em,e⟩
 . exact h1 ρ G σ H δ S _ _ _ R em (λ d hd=>by cases hd) (λ c' hc=>by cases hc;exact qx c rfl)
 . refine h1 ρ G σ H δ S _ _ _ R em (λ d' hd=>?_) (λ c' hc=>by cases hc)
   cases hd
   intro v ρ1 G1 H1 g1 s1 dv
   have R1:=R.grow g1 s1
   rcases aK e with ⟨c,em,rfl⟩ | ⟨ds,S2,em,e⟩
   . exact h2 ρ1 G1 σ H1 δ S1 _ _ _ R1 em (λ d hd=>by cases hd) (λ c' hc=>by cases hc;exact λ ρ2 G2 H2 g2 s2=>qx c rfl ρ2 G2 H2 (g1.trans g2) s2)
   . refine h2 ρ1 G1 σ H1 δ S1 _ _ _ R1 em (λ d' hd=>?_) (λ c' hc=>by cases hc)
     cases hd
     cases e
     intro vs ρ2 G2 H2 g2 s2 da
     exact q _ rfl _ ρ2 G2 H2 (g1.trans g2) s2 (.cons ((dv.ext g2.r).same g2.g) da)
end
section
variable {K:Frag} {cl:Str->Addr} {E:XK}
theorem cP {α:Type} {t:TE} {f:DS->ai->SM W} (h:SE K cl E t f) {ρ:List Addr} {G:Hp} {σ:St} {H:Hp} {δ:DS} {S:ai} {r:Rs α} {S':ai} {k:W->ai->SM α} {P:V->Hp->Prop} (R:RS K cl ρ G H δ σ S) (e:ak (f δ S) k=some (r,S'))
 (q:∀ d S1,k d S1=some (r,S')->∀ v ρ' G' H',GS ρ G H ρ' G' H'->SR K ρ' cl G' H' S1->Dw K ρ' G' v d->P v H')
 (qx:∀ c,r=.xc c->∀ ρ' G' H',GS ρ G H ρ' G' H'->SR K ρ' cl G' H' S'->E (.ref (cl c)) none H'):t σ H P:=by
 rcases aK e with ⟨c,em,rfl⟩ | ⟨d,S1,em,e⟩
 . exact h ρ G σ H δ S _ _ _ R em (λ d hd=>by cases hd) (λ c' hc=>by cases hc;exact qx c rfl)
 . exact h ρ G σ H δ S _ _ _ R em (λ d' hd=>by cases hd;exact q _ _ e) (λ c' hc=>by cases hc)
theorem jb {α:Type} {t:TA} {f:DS->ai->SM (List W)} (h:SA K cl E t f) {ρ:List Addr} {G:Hp} {σ:St} {H:Hp} {δ:DS} {S:ai} {r:Rs α} {S':ai} {k:List W->ai->SM α} {P:List V->Hp->Prop} (R:RS K cl ρ G H δ σ S) (e:ak (f δ S) k=some (r,S'))
 (q:∀ d S1,k d S1=some (r,S')->∀ v ρ' G' H',GS ρ G H ρ' G' H'->SR K ρ' cl G' H' S1->az K ρ' G' v d->P v H')
 (qx:∀ c,r=.xc c->∀ ρ' G' H',GS ρ G H ρ' G' H'->SR K ρ' cl G' H' S'->E (.ref (cl c)) none H'):t σ H P:=by
 rcases aK e with ⟨c,em,rfl⟩ | ⟨d,S1,em,e⟩
 . exact h ρ G σ H δ S _ _ _ R em (λ d hd=>by cases hd) (λ c' hc=>by cases hc;exact qx c rfl)
 . exact h ρ G σ H δ S _ _ _ R em (λ d' hd=>by cases hd;exact q _ _ e) (λ c' hc=>by cases hc)
theorem ox {α:Type} {t:TT} {f:DS->ai->SM Bool} (h:ST K cl E t f) {ρ:List Addr} {G:Hp} {σ:St} {H:Hp} {δ:DS} {S:ai} {r:Rs α} {S':ai} {k:Bool->ai->SM α} {P:Bool->Hp->Prop} (R:RS K cl ρ G H δ σ S) (e:ak (f δ S) k=some (r,S'))
 (q:∀ d S1,k d S1=some (r,S')->∀ ρ' G' H',GS ρ G H ρ' G' H'->SR K ρ' cl G' H' S1->P d H')
 (qx:∀ c,r=.xc c->∀ ρ' G' H',GS ρ G H ρ' G' H'->SR K ρ' cl G' H' S'->E (.ref (cl c)) none H'):t σ H P:=by
 rcases aK e with ⟨c,em,rfl⟩ | ⟨d,S1,em,e⟩
 . exact h ρ G σ H δ S _ _ _ R em (λ d hd=>by cases hd) (λ c' hc=>by cases hc;exact qx c rfl)
 . exact h ρ G σ H δ S _ _ _ R em (λ d' hd=>by cases hd;exact q _ _ e) (λ c' hc=>by cases hc)
theorem fV {α:Type} {ta tb:TE} {fa fb:DS->ai->SM W} (ha:SE K cl E ta fa) (hb:SE K cl E tb fb) {ρ:List Addr} {G:Hp} {σ:St} {H:Hp} {δ:DS} {S:ai} {r:Rs α} {S':ai} {k:W->W->ai->SM α} {P:V->V->Hp->Prop} (R:RS K cl ρ G H δ σ S)
 (e:ak (fa δ S) (λ x S1=>ak (fb δ S1) λ y S2=>k x y S2)=some (r,S'))
 (q:∀ x y S2,k x y S2=some (r,S')->∀ v u ρ' G' H',GS ρ G H ρ' G' H'->SR K ρ' cl G' H' S2->Dw K ρ' G' v x->Dw K ρ' G' u y->P v u H')
 (qx:∀ c,r=.xc c->∀ ρ' G' H',GS ρ G H ρ' G' H'->SR K ρ' cl G' H' S'->E (.ref (cl c)) none H'):ta σ H λ v H1=>tb σ H1 λ u H2=>P v u H2:=
 cP ha R e (λ x S1 e1 v ρ1 G1 H1 g1 s1 dv=>cP hb (R.grow g1 s1) e1 (λ y S2 e2 u ρ2 G2 H2 g2 s2 du=>q x y S2 e2 v u ρ2 G2 H2 (g1.trans g2) s2 ((dv.ext g2.r).same g2.g) du) λ c hc ρ2 G2 H2 g2 s2=>qx c hc ρ2 G2 H2 (g1.trans g2) s2) qx
noncomputable def iR {α:Type} (x:Option α) (S:ai):SM α:=x.map λ d=>(.ok d,S)
theorem bL {α:Type} {x:Option α} {S S':ai} {r:Rs α} (h:iR x S=some (r,S')):∃ d,x=some d/\r=.ok d/\S'=S:=by
 obtain ⟨d,e1,e2⟩:=oM h
 cases e2
 exact ⟨d,e1,rfl,rfl⟩
noncomputable def Cw (g:W->W->Option W) (fa fb:DS->ai->SM W):DS->ai->SM W:=λ δ S=>ak (fa δ S) λ x S1=>ak (fb δ S1) λ y S2=>iR (g x y) S2
theorem EG {r:R2} {ta tb:TE} {fa fb:DS->ai->SM W} {g:W->W->Option W} (hr:∀ ρ,DR K ρ r g) (ha:SE K cl E ta fa) (hb:SE K cl E tb fb):SE K cl E (oW r ta tb) (Cw g fa fb):=λ ρ G σ H δ S r' S' Q R e q qx=>
 fV ha hb R e (λ x y S2 e2 v u ρ2 G2 H2 g2 s2 dv du=>by
  obtain ⟨c,e3,rfl,rfl⟩:=bL e2
  exact hr ρ2 G2 H2 v u x y c Q g2.s (.inl dv) du e3 λ w G3 H3 g3 dw=>q c rfl w ρ2 G3 H3 (g2.trans (.of g3)) (s2.grow g3) dw) qx
noncomputable def lC (g:W->W->Option Bool) (fa fb:DS->ai->SM W):DS->ai->SM Bool:=λ δ S=>ak (fa δ S) λ x S1=>ak (fb δ S1) λ y S2=>iR (g x y) S2
noncomputable def sB (f:DS->ai->SM Bool):DS->ai->SM W:=λ δ S=>ak (f δ S) λ b S1=>some (.ok (.bool b),S1)
theorem B9 {r:R2} {ta tb:TE} {fa fb:DS->ai->SM W} {g:W->W->Option Bool} (hr:∀ ρ,DB K ρ r g) (ha:SE K cl E ta fa) (hb:SE K cl E tb fb):ST K cl E (kr (oW r ta tb)) (lC g fa fb):=λ ρ G σ H δ S r' S' Q R e q qx=>
 fV ha hb R e (λ x y S2 e2 v u ρ2 G2 H2 g2 s2 dv du=>by
  obtain ⟨c,e3,rfl,rfl⟩:=bL e2
  exact hr ρ2 H2 v u x y c _ (dv.same g2.s) (du.same g2.s) e3 ⟨c,rfl,q c rfl ρ2 G2 H2 g2 s2⟩) qx
noncomputable def mr (f g:DS->ai->SM Bool):DS->ai->SM Bool:=λ δ S=>ak (f δ S) λ b S1=>if b=true then g δ S1 else some (.ok false,S1)
noncomputable def oU (f g:DS->ai->SM Bool):DS->ai->SM Bool:=λ δ S=>ak (f δ S) λ b S1=>if b=true then some (.ok true,S1) else g δ S1
noncomputable def io (f:DS->ai->SM Bool):DS->ai->SM Bool:=λ δ S=>ak (f δ S) λ b S1=>some (.ok (!b),S1)
theorem BE {t u:TT} {f g:DS->ai->SM Bool} (h1:ST K cl E t f) (h2:ST K cl E u g):ST K cl E (Cp t u) (mr f g):=λ ρ G σ H δ S r S' Q R e q qx=>
 ox h1 R e (λ b S1 e1 ρ1 G1 H1 g1 s1=>by
  cases b with
  | true=>exact h2 ρ1 G1 σ H1 δ S1 r S' Q (R.grow g1 s1) e1 (λ b hb ρ2 G2 H2 g2 s2=>q b hb ρ2 G2 H2 (g1.trans g2) s2) λ c hc ρ2 G2 H2 g2 s2=>qx c hc ρ2 G2 H2 (g1.trans g2) s2
  | false=>cases e1;exact q false rfl ρ1 G1 H1 g1 s1) qx
theorem Eu {t u:TT} {f g:DS->ai->SM Bool} (h1:ST K cl E t f) (h2:ST K cl E u g):ST K cl E (Hq t u) (oU f g):=λ ρ G σ H δ S r S' Q R e q qx=>
 ox h1 R e (λ b S1 e1 ρ1 G1 H1 g1 s1=>by
  cases b with
  | false=>exact h2 ρ1 G1 σ H1 δ S1 r S' Q (R.grow g1 s1) e1 (λ b hb ρ2 G2 H2 g2 s2=>q b hb ρ2 G2 H2 (g1.trans g2) s2) λ c hc ρ2 G2 H2 g2 s2=>qx c hc ρ2 G2 H2 (g1.trans g2) s2
  | true=>cases e1;exact q true rfl ρ1 G1 H1 g1 s1) qx
theorem BD {t:TT} {f:DS->ai->SM Bool} (h:ST K cl E t f):ST K cl E (AL t) (io f):=λ ρ G σ H δ S r S' Q R e q qx=>
 ox h R e (λ b S1 e1 ρ1 G1 H1 g1 s1=>by cases e1;exact q _ rfl ρ1 G1 H1 g1 s1) qx
noncomputable def CZ (c:DS->ai->SM Bool) (f g:DS->ai->SM W):DS->ai->SM W:=λ δ S=>ak (c δ S) λ b S1=>if b=true then f δ S1 else g δ S1
theorem El {tc:TT} {t u:TE} {c:DS->ai->SM Bool} {f g:DS->ai->SM W} (hc:ST K cl E tc c) (h1:SE K cl E t f) (h2:SE K cl E u g):SE K cl E (GO tc t u) (CZ c f g):=λ ρ G σ H δ S r S' Q R e q qx=>
 ox hc R e (λ b S1 e1 ρ1 G1 H1 g1 s1=>by
  cases b with
  | true=>exact h1 ρ1 G1 σ H1 δ S1 r S' Q (R.grow g1 s1) e1 (λ d hd v ρ2 G2 H2 g2 s2 dv=>q d hd v ρ2 G2 H2 (g1.trans g2) s2 dv) λ c hc ρ2 G2 H2 g2 s2=>qx c hc ρ2 G2 H2 (g1.trans g2) s2
  | false=>exact h2 ρ1 G1 σ H1 δ S1 r S' Q (R.grow g1 s1) e1 (λ d hd v ρ2 G2 H2 g2 s2 dv=>q d hd v ρ2 G2 H2 (g1.trans g2) s2 dv) λ c hc ρ2 G2 H2 g2 s2=>qx c hc ρ2 G2 H2 (g1.trans g2) s2) qx
noncomputable def Ge (f:DS->ai->SM (List W)):DS->ai->SM W:=λ δ S=>ak (f δ S) λ ds S1=>if ds.length<=sizeLine then some (.ok (.tuple ds),S1) else none
noncomputable def uA (f:DS->ai->SM (List W)):DS->ai->SM W:=λ δ S=>ak (f δ S) λ ds S1=>if ds.length<=sizeLine then some (.ok (.list ds),S1) else none
theorem C0 {t:TA} {f:DS->ai->SM (List W)} (h:SA K cl E t f):SE K cl E (sK t) (uA f):=λ ρ G σ H δ S r S' Q R e q qx=>
 jb h R e (λ ds S1 e1 vs ρ1 G1 H1 g1 s1 da=>by
  split at e1
  . rename_i hz
    cases e1
    refine ⟨by rw [da.length];exact hz,λ p H' n=>?_⟩
    have g2:=Gr.nw g1.s n
    exact q _ rfl _ ρ1 _ H' (g1.trans (.of g2)) (s1.grow g2) (.lst (cY.of aJ) (da.same g2.g))
  . cases e1) qx
noncomputable def cS (f:DS->ai->SM (List W)):DS->ai->SM W:=λ δ S=>ak (f δ S) λ ds S1=>if ds.length<=sizeLine then some (.ok (.ref S1.length),S1++[.lst ds]) else none
theorem xM {t:TA} {f:DS->ai->SM (List W)} (h:SA K cl E t f):SE K cl E (sK t) (cS f):=λ ρ G σ H δ S r S' Q R e q qx=>
 jb h R e (λ ds S1 e1 vs ρ1 G1 H1 g1 s1 da=>by
  split at e1
  . rename_i hz
    cases e1
    refine ⟨by rw [da.length];exact hz,λ p H' n=>?_⟩
    obtain ⟨s2,g2⟩:=s1.push (o:=.lst ds) g1.s n λ ρ' hr=>⟨vs,n.2.2,da.ext hr⟩
    exact q _ rfl _ _ _ H' (g1.trans g2) s2 (.ref (by rw [<-s1.len];simp))
  . cases e1) qx
noncomputable def xh:DS->ai->SM W:=λ _ S=>some (.ok (.ref S.length),S++[.dK []])
theorem Er:SE K cl E uB xh:=λ ρ G σ H δ S r S' Q R e q qx=>by
 cases e
 intro p hp
 obtain ⟨s2,g2⟩:=R.st.push (o:=.dK []) R.rl.sub (Nw.of (o:=.dK []) hp) λ ρ' hr=>⟨[],aJ,.nil⟩
 exact q _ rfl _ _ _ _ g2 s2 (.ref (by rw [<-R.st.len];simp))
noncomputable def iZ (x:W) (S:ai):Option (Nat×Ob):=match x with
 | .ref n=>(S[n]?).map λ o=>(n,o)
 | _=>none
theorem et {x:W} {S:ai} {n:Nat} {o:Ob} (h:iZ x S=some (n,o)):x=.ref n/\S[n]?=some o:=by
 unfold iZ at h
 split at h
 . obtain ⟨o',e1,e2⟩:=oM h
   cases e2
   exact ⟨rfl,e1⟩
 . cases h
noncomputable def gQ (c:Str) (x:W) (S:ai):Option (Nat×List (Str×W)):=match iZ x S with
 | some (n,.ins c' fs)=>if c'=c then some (n,fs) else none
 | _=>none
theorem dE {c:Str} {x:W} {S:ai} {n:Nat} {fs:List (Str×W)} (h:gQ c x S=some (n,fs)):x=.ref n/\S[n]?=some (.ins c fs):=by
 unfold gQ at h
 cases e:iZ x S with
 | none=>rw [e] at h;cases h
 | some p=>
  obtain ⟨m,o⟩:=p
  rw [e] at h
  cases o with
  | ins c' fs'=>
   by_cases hc:c'=c
   . subst hc
     cases (if_pos rfl).symm.trans h
     exact et e
   . cases (if_neg hc).symm.trans h
  | _=>cases h
noncomputable def ao (c f:Str) (fa:DS->ai->SM W):DS->ai->SM W:=λ δ S=>ak (fa δ S) λ x S1=>(gQ c x S1).bind λ p=>iR (p.2.lookup f) S1
theorem ck {ρ:List Addr} {G:Hp} {v:V} {n:Nat} (h:Dw K ρ G v (.ref n)):∃ a,v=.ref a/\ρ[n]?=some a:=by
 cases h with
 | ref e=>exact ⟨_,rfl,e⟩
theorem Bw {c f:Str} {ta:TE} {fa:DS->ai->SM W} (hc:dY K (cl c)) (hn:ae K (cl c) f) (ha:SE K cl E ta fa):SE K cl E (BP K ta f) (ao c f fa):=λ ρ G σ H δ S r S' Q R e q qx=>
 cP ha R e (λ x S1 e1 v ρ1 G1 H1 g1 s1 dv=>by
  obtain ⟨⟨n,fs⟩,e2,e3⟩:=oB e1
  obtain ⟨d,e4,rfl,rfl⟩:=bL e3
  obtain ⟨rfl,e5⟩:=dE e2
  obtain ⟨a,rfl,ea⟩:=ck dv
  obtain ⟨ga,dx,ws,k1,k2,k3,k4⟩:=s1.addr e5 ea
  obtain ⟨u,k5,k6⟩:=k4.lookup e4
  exact ⟨a,_,dx,ws,u,rfl,k1,hc,hn,k5,q d rfl u ρ1 G1 H1 g1 s1 k6⟩) qx
noncomputable def sZ (K:Frag) (cl:Str->Addr) (f:List W->ai->SM W):Sp:=λ vs H Q E=>∃ ρ G S ds r S',bg G H/\SR K ρ cl G H S/\az K ρ G vs ds/\f ds S=some (r,S')/\
 (∀ d,r=.ok d->∀ v ρ' G' H',GS ρ G H ρ' G' H'->SR K ρ' cl G' H' S'->Dw K ρ' G' v d->Q v H')/\(∀ c,r=.xc c->∀ ρ' G' H',GS ρ G H ρ' G' H'->SR K ρ' cl G' H' S'->E (.ref (cl c)) none H')
noncomputable def i7 (f:List W->Option W) (fa:DS->ai->SM (List W)):DS->ai->SM W:=λ δ S=>ak (fa δ S) λ ds S1=>iR (f ds) S1
theorem vQ {f:List W->Option W} {t:TA} {fa:DS->ai->SM (List W)} {E':XK} (h:SA K cl E t fa):SE K cl E (qe (qZ K f) [] E' t) (i7 f fa):=λ ρ G σ H δ S r S' Q R e q qx=>
 jb h R e (λ ds S1 e1 vs ρ1 G1 H1 g1 s1 da=>by
  obtain ⟨d,e2,rfl,rfl⟩:=bL e1
  exact ⟨ρ1,G1,ds,d,g1.s,by rw [List.append_nil];exact da,e2,λ v G2 H2 g2 dv=>q d rfl v ρ1 G2 H2 (g1.trans (.of g2)) (s1.grow g2) dv⟩) qx
noncomputable def bu (c m:Str) (f:List W->ai->SM W) (fo:DS->ai->SM W) (fa:DS->ai->SM (List W)):DS->ai->SM W:=λ δ S=>ak (fo δ S) λ x S1=>(gQ c x S1).bind λ p=>if p.2.lookup m=none then ak (fa δ S1) λ ds S2=>f (x::ds) S2 else none
theorem wA {c m:Str} {f:List W->ai->SM W} {to:TE} {t:TA} {fo:DS->ai->SM W} {fa:DS->ai->SM (List W)} (ho:SE K cl E to fo) (h:SA K cl E t fa):SE K cl E (nv (cl c) m (sZ K cl f) [] E to t) (bu c m f fo fa):=λ ρ G σ H δ S r S' Q R e q qx=>
 cP ho R e (λ x S1 e1 v ρ1 G1 H1 g1 s1 dv=>by
  obtain ⟨⟨n,fs⟩,e2,e3⟩:=oB e1
  split at e3
  case isFalse=>cases e3
  rename_i hm
  obtain ⟨rfl,e5⟩:=dE e2
  obtain ⟨a,rfl,ea⟩:=ck dv
  obtain ⟨ga,dx,ws,k1,k2,k3,k4⟩:=s1.addr e5 ea
  refine ⟨a,dx,ws,rfl,k1,k4.lookup_none hm,?_⟩
  exact jb h (R.grow g1 s1) e3 (λ ds S2 e6 vs ρ2 G2 H2 g2 s2 da=>⟨ρ2,G2,S2,.ref n::ds,r,S',g2.s,s2,by rw [List.append_nil];exact .cons ((dv.ext g2.r).same g2.g) da,e6,λ d hd v ρ3 G3 H3 g3 s3 dv=>q d hd v ρ3 G3 H3 (g1.trans (g2.trans g3)) s3 dv,λ c hc ρ3 G3 H3 g3 s3=>qx c hc ρ3 G3 H3 (g1.trans (g2.trans g3)) s3⟩) λ c hc ρ2 G2 H2 g2 s2=>qx c hc ρ2 G2 H2 (g1.trans g2) s2) qx
noncomputable def iP (K:Frag) (cl:Str->Addr) (f:List W->ai->SM W):Sp:=λ vs H Q _=>∃ ρ G S ds d S',bg G H/\SR K ρ cl G H S/\az K ρ G vs ds/\f ds S=some (.ok d,S')/\
 ∀ v ρ' G' H',GS ρ G H ρ' G' H'->SR K ρ' cl G' H' S'->Dw K ρ' G' v d->Q v H'
noncomputable def noX (m:SM W):SM W:=match m with
 | some (.ok d,S)=>some (.ok d,S)
 | _=>none
theorem jq {m:SM W} {r:Rs W} {S':ai} (h:noX m=some (r,S')):∃ d,r=.ok d/\m=some (.ok d,S'):=by
 unfold noX at h
 split at h
 . cases h;exact ⟨_,rfl,rfl⟩
 . cases h
noncomputable def bV (f:List W->ai->SM W) (fa:DS->ai->SM (List W)):DS->ai->SM W:=λ δ S=>ak (fa δ S) λ ds S1=>noX (f ds S1)
theorem yB {f:List W->ai->SM W} {t:TA} {fa:DS->ai->SM (List W)} {E':XK} (h:SA K cl E t fa):SE K cl E (qe (iP K cl f) [] E' t) (bV f fa):=λ ρ G σ H δ S r S' Q R e q qx=>
 jb h R e (λ ds S1 e1 vs ρ1 G1 H1 g1 s1 da=>by
  obtain ⟨d,rfl,e2⟩:=jq e1
  exact ⟨ρ1,G1,S1,ds,d,S',g1.s,s1,by rw [List.append_nil];exact da,e2,λ v ρ2 G2 H2 g2 s2 dv=>q d rfl v ρ2 G2 H2 (g1.trans g2) s2 dv⟩) qx
noncomputable def bU (c m:Str) (f:List W->ai->SM W) (fo:DS->ai->SM W) (fa:DS->ai->SM (List W)):DS->ai->SM W:=λ δ S=>ak (fo δ S) λ x S1=>(gQ c x S1).bind λ p=>if p.2.lookup m=none then ak (fa δ S1) λ ds S2=>noX (f (x::ds) S2) else none
theorem rN {c m:Str} {f:List W->ai->SM W} {to:TE} {t:TA} {fo:DS->ai->SM W} {fa:DS->ai->SM (List W)} {E':XK} (ho:SE K cl E to fo) (h:SA K cl E t fa):SE K cl E (nv (cl c) m (iP K cl f) [] E' to t) (bU c m f fo fa):=λ ρ G σ H δ S r S' Q R e q qx=>
 cP ho R e (λ x S1 e1 v ρ1 G1 H1 g1 s1 dv=>by
  obtain ⟨⟨n,fs⟩,e2,e3⟩:=oB e1
  split at e3
  case isFalse=>cases e3
  rename_i hm
  obtain ⟨rfl,e5⟩:=dE e2
  obtain ⟨a,rfl,ea⟩:=ck dv
  obtain ⟨ga,dx,ws,k1,k2,k3,k4⟩:=s1.addr e5 ea
  refine ⟨a,dx,ws,rfl,k1,k4.lookup_none hm,?_⟩
  exact jb h (R.grow g1 s1) e3 (λ ds S2 e6 vs ρ2 G2 H2 g2 s2 da=>by
   obtain ⟨d,rfl,e7⟩:=jq e6
   exact ⟨ρ2,G2,S2,.ref n::ds,d,S',g2.s,s2,by rw [List.append_nil];exact .cons ((dv.ext g2.r).same g2.g) da,e7,λ v ρ3 G3 H3 g3 s3 dv=>q d rfl v ρ3 G3 H3 (g1.trans (g2.trans g3)) s3 dv⟩) λ c hc ρ2 G2 H2 g2 s2=>qx c hc ρ2 G2 H2 (g1.trans g2) s2) qx
noncomputable def iQ (c:Str) (f:List W->ai->SM W) (fa:DS->ai->SM (List W)):DS->ai->SM W:=λ δ S=>ak (fa δ S) λ ds S1=>ak (noX (f (.ref S1.length::ds) (S1++[.ins c []]))) λ d S2=>match d with
 | .none=>some (.ok (.ref S1.length),S2)
 | _=>none
theorem x9 {c:Str} {f:List W->ai->SM W} {t:TA} {fa:DS->ai->SM (List W)} {E':XK} (h:SA K cl E t fa):SE K cl E (vE (cl c) (iP K cl f) [] E' t) (iQ c f fa):=λ ρ G σ H δ S r S' Q R e q qx=>
 jb h R e (λ ds S1 e1 vs ρ1 G1 H1 g1 s1 da=>by
  intro x dx hx hdx hne
  have na:Nw H1 (cq H1 dx (.own x)) dx (.own x):=.of hdx
  have gA:Gr G1 H1 G1 (cq H1 dx (.own x)):=.nwO g1.s na
  have hx':(cq H1 dx (.own x)) x=none:=by rw [aD (Ne.symm hne)];exact hx
  have nb:Nw (cq H1 dx (.own x)) (cq (cq H1 dx (.own x)) x (.ins (cl c) dx [])) x (.ins (cl c) dx []):=.of hx'
  obtain ⟨s2,g2⟩:=(s1.grow gA).push (o:=.ins c []) gA.s nb λ ρ' hr=>⟨dx,[],aJ,dD g1.s hdx,by rw [aD hne];exact aJ,.nil⟩
  have g12:=(GS.of (ρ:=ρ1) gA).trans g2
  have dx1:az K (ρ1++[x]) G1 (.ref x::vs) (.ref S1.length::ds):=.cons (.ref (by rw [<-s1.len];simp)) (da.ext ⟨[x],rfl⟩)
  rcases aK e1 with ⟨c',em,rfl⟩ | ⟨d,S2,em,e2⟩
  . obtain ⟨_,z,_⟩:=jq em
    cases z
  . obtain ⟨d',z,em⟩:=jq em
    cases z
    refine ⟨_,G1,_,_,_,_,g2.s,s2,by rw [List.append_nil];exact dx1,em,λ v ρ3 G3 H3 g3 s3 dv=>?_⟩
    split at e2
    . cases e2
      exact ⟨qM dv,q _ rfl _ ρ3 G3 H3 (g1.trans (g12.trans g3)) s3 (.ref (by
       have h1:(ρ1++[x])[S1.length]?=some x:=by rw [<-s1.len];simp
       obtain ⟨t',ht⟩:=g3.r
       rw [<-ht,List.getElem?_append_left (oG h1).1]
       exact h1))⟩
    . cases e2) qx
noncomputable def FJ (K:Frag) (cl:Str->Addr) (E:XK) (wi:TI) (f:DS->ai->SM (List W)):Prop:=
 ∀ (ρ:List Addr) (G:Hp) (σ:St) (H:Hp) (δ:DS) (S:ai) (r:Rs (List W)) (S':ai) (R':It->Hp->Prop),RS K cl ρ G H δ σ S->f δ S=some (r,S')->
  (∀ ds,r=.ok ds->∀ J ρ' G' H',GS ρ G H ρ' G' H'->SR K ρ' cl G' H' S'->GJ K ρ' J G' ds->R' J H')->
  (∀ c,r=.xc c->∀ ρ' G' H',GS ρ G H ρ' G' H'->SR K ρ' cl G' H' S'->E (.ref (cl c)) none H')->wi σ H R'
theorem um {wi:TI} {f:DS->Option (List W)} (h:∀ ρ,DI K ρ wi f):FJ K cl E wi (ac f):=λ ρ G σ H δ S r S' R' R e q qx=>by
 obtain ⟨ds,e1,rfl,rfl⟩:=gH e
 exact h ρ G σ H δ ds R' R.rl e1 λ J G' H' g it=>q ds rfl J ρ G' H' (.of g) (R.st.grow g) it
end
inductive qf where
 | nx (δ:DS)
 | bk (δ:DS)
 | ct (δ:DS)
 | rt (d:W)
 | xc (c:Str)
noncomputable abbrev SO:=Option (qf×ai)
section
variable {K:Frag} {cl:Str->Addr} {E:XK}
structure ji (K:Frag) (cl:Str->Addr) (ρ0:List Addr) (G0 H0:Hp) (ρ:List Addr) (G H:Hp) (δ:DS) (σ:St) (S:ai):Prop where
 rs:RS K cl ρ G H δ σ S
 gs:GS ρ0 G0 H0 ρ G H
 ow:∀ (i:Nat) p ds,δ[i]?=some (.own ds)->σ[i]?=some (some (.ref p))->H0 p=none
noncomputable def yn (K:Frag) (cl:Str->Addr) (E:XK) (ρ0:List Addr) (G0 H0:Hp) (D:gY) (S:ai):qf->Prop
 | .nx δ=>∀ σ ρ G H,ji K cl ρ0 G0 H0 ρ G H δ σ S->D.nx σ H
 | .bk δ=>∀ σ ρ G H,ji K cl ρ0 G0 H0 ρ G H δ σ S->D.bk σ H
 | .ct δ=>∀ σ ρ G H,ji K cl ρ0 G0 H0 ρ G H δ σ S->D.ct σ H
 | .rt d=>∀ v ρ G H,GS ρ0 G0 H0 ρ G H->SR K ρ cl G H S->Dw K ρ G v d->D.rt v H
 | .xc c=>∀ ρ G H,GS ρ0 G0 H0 ρ G H->SR K ρ cl G H S->E (.ref (cl c)) none H
noncomputable def jh (K:Frag) (cl:Str->Addr) (E:XK) (t:TS) (f:DS->ai->SO):Prop:=
 ∀ (ρ0:List Addr) (G0 H0:Hp) (ρ:List Addr) (G:Hp) (σ:St) (H:Hp) (δ:DS) (S:ai) (o:qf) (S':ai) (D:gY),ji K cl ρ0 G0 H0 ρ G H δ σ S->f δ S=some (o,S')->yn K cl E ρ0 G0 H0 D S' o->t D σ H
theorem ji.grow {ρ0:List Addr} {G0 H0:Hp} {ρ ρ':List Addr} {G H G' H':Hp} {δ:DS} {σ:St} {S S':ai} (I:ji K cl ρ0 G0 H0 ρ G H δ σ S) (g:GS ρ G H ρ' G' H') (s:SR K ρ' cl G' H' S'):ji K cl ρ0 G0 H0 ρ' G' H' δ σ S':=⟨I.rs.grow g s,I.gs.trans g,I.ow⟩
theorem ji.sub {ρ0:List Addr} {G0 H0:Hp} {ρ:List Addr} {G H:Hp} {δ δ':DS} {σ σ':St} {S:ai} (I:ji K cl ρ0 G0 H0 ρ G H δ σ S) (R:Rl K ρ G H δ' σ') (o:fj δ' σ' δ σ):ji K cl ρ0 G0 H0 ρ G H δ' σ' S:=
 ⟨⟨R,I.rs.st,λ i ds p h1 h2=>by
  obtain ⟨es,h3,h4⟩:=o i ds p h1 h2
  exact I.rs.ap i es p h3 h4⟩,I.gs,λ i p ds h1 h2=>by
  obtain ⟨es,h3,h4⟩:=o i ds p h1 h2
  exact I.ow i p es h3 h4⟩
theorem ji.base {ρ0:List Addr} {G0 H0:Hp} {ρ:List Addr} {G H:Hp} {δ:DS} {σ:St} {S:ai} (I:ji K cl ρ0 G0 H0 ρ G H δ σ S):ji K cl ρ G H0 ρ G H δ σ S:=
 ⟨I.rs,⟨List.prefix_refl _,.refl _,I.gs.s,λ b o hb e=>I.gs.h b o (λ h=>hb (I.gs.r.subset h)) e,I.gs.k,λ _ _ e=>e,λ a h1 h2=>absurd h1 h2,I.gs.t⟩,I.ow⟩
theorem GS.rebase {ρ0:List Addr} {G0 H0:Hp} {ρ:List Addr} {G H:Hp} {ρ':List Addr} {G' H':Hp} (a:GS ρ0 G0 H0 ρ G H) (b:GS ρ G H0 ρ' G' H'):GS ρ0 G0 H0 ρ' G' H':=
 ⟨a.r.trans b.r,a.g.trans b.g,b.s,λ c o hc e=>b.h c o (λ h=>by rw [a.f c h hc] at e;cases e) e,b.k,λ c h1 h2=>b.n c h1 (a.n c h1 h2),(λ c h1 h2=>by
  by_cases h3:c∈ρ
  . exact a.f c h3 h2
  . exact b.f c h1 h3),b.t⟩
theorem ji.rebase {ρ0:List Addr} {G0 H0:Hp} {ρ:List Addr} {G H:Hp} {ρ':List Addr} {G' H':Hp} {δ:DS} {σ:St} {S:ai} (a:GS ρ0 G0 H0 ρ G H) (I:ji K cl ρ G H0 ρ' G' H' δ σ S):ji K cl ρ0 G0 H0 ρ' G' H' δ σ S:=⟨I.rs,a.rebase I.gs,I.ow⟩
noncomputable def pk (δ:DS) (σ:St) (b:Addr):Prop:=∃ (i:Nat) (ds:List W),δ[i]?=some (.own ds)/\σ[i]?=some (some (.ref b))
noncomputable def hideO (δ:DS) (σ:St) (H:Hp):Hp:=λ b=>@ite _ (pk δ σ b) (Classical.propDecidable _) none (H b)
theorem mS {δ:DS} {σ:St} {H:Hp} {b:Addr} (h:pk δ σ b):hideO δ σ H b=none:=by
 unfold hideO
 rw [if_pos h]
theorem cE {δ:DS} {σ:St} {H:Hp} {b:Addr} (h:¬ pk δ σ b):hideO δ σ H b=H b:=by
 unfold hideO
 rw [if_neg h]
noncomputable def vY:eI->qf
 | .nx δ=>.nx δ
 | .bk δ=>.bk δ
 | .ct δ=>.ct δ
 | .rt d=>.rt d
noncomputable def aq (f:DS->Option eI):DS->ai->SO:=λ δ S=>(f δ).map λ o=>(vY o,S)
theorem yV {t:TS} {f:DS->Option eI} (h:∀ ρ,kP K ρ t f):jh K cl E t (aq f):=λ ρ0 G0 H0 ρ G σ H δ S o S' D I e p=>by
 obtain ⟨o',e1,e2⟩:=oM e
 cases e2
 have same0:bg (hideO δ σ H) H:=λ b u hb=>by
  by_cases ho:pk δ σ b
  . rw [mS ho] at hb;cases hb
  . rw [cE ho] at hb;exact hb
 have sameG:bg G (hideO δ σ H):=λ b u hb=>by
  by_cases ho:pk δ σ b
  . obtain ⟨i,ds,k1,k2⟩:=ho
    obtain ⟨o,m1,q,vs,rfl,m3,m4,m5⟩:=I.rs.rl.sl i _ k1
    rw [k2] at m1
    cases m1
    rw [m3] at hb
    cases hb
  . rw [cE ho];exact I.gs.s b u hb
 have notown:∀ a,a∈ρ->¬ pk δ σ a:=λ a ha hy0=>by obtain ⟨i,ds,k1,k2⟩:=hy0;exact I.rs.ap i ds a k1 k2 ha
 have ownlst:∀ b,pk δ σ b->∃ vs,H b=some (.lst vs):=λ b hy0=>by
  obtain ⟨i,ds,k1,k2⟩:=hy0
  obtain ⟨o,m1,q,vs,rfl,m3,m4,m5⟩:=I.rs.rl.sl i _ k1
  rw [k2] at m1
  cases m1
  exact ⟨vs,m4⟩
 have sr0:SR K ρ cl G (hideO δ σ H) S:=⟨I.rs.st.len,I.rs.st.nd,λ n ob en=>by
  obtain ⟨a,k1,k2,k3⟩:=I.rs.st.ob n ob en
  refine ⟨a,k1,k2,k3.move (List.prefix_refl _) (.refl _) (cE (notown a (List.mem_of_getElem? k1))) λ dx d1 d2=>⟨?_,d1⟩⟩
  rw [cE λ ho=>by
   obtain ⟨vs,hv⟩:=ownlst dx ho
   rw [d2] at hv
   cases hv]
  exact d2⟩
 have iv:Iv K ρ G (hideO δ σ H) G H δ σ:=⟨I.rs.rl,⟨.refl _,same0,I.gs.s,λ _ _ e=>e⟩,λ i q ds k1 k2=>mS ⟨i,ds,k1,k2⟩⟩
 have h0own:∀ b,H0 b≠none->¬ pk δ σ b:=λ b hb hy0=>by obtain ⟨i,ds,k1,k2⟩:=hy0;exact hb (I.ow i b ds k1 k2)
 have gs:∀ {G' H':Hp},Gr G (hideO δ σ H) G' H'->GS ρ0 G0 H0 ρ G' H':=λ {G' H'} g=>
  ⟨I.gs.r,I.gs.g.trans g.g,g.s,λ b u hb eb=>g.h b u (by rw [cE (h0own b (by rw [eb];simp))];exact I.gs.h b u hb eb),λ b hb=>n9 g.h (by rw [cE (h0own b hb)];exact I.gs.k b hb),λ b h1 h2=>g.n b (by unfold nT;rw [cE (h0own b h1.1)];exact I.gs.t b h1) (I.gs.n b h1 h2),I.gs.f,λ b h1=>nT.same (by unfold nT;rw [cE (h0own b h1.1)];exact I.gs.t b h1) g.h⟩
 have nx:∀ {δ':DS} {σ':St} {G' H':Hp},Iv K ρ G (hideO δ σ H) G' H' δ' σ'->ji K cl ρ0 G0 H0 ρ G' H' δ' σ' S:=λ {δ' σ' G' H'} I'=>
  ⟨⟨I'.rl,sr0.grow I'.gr,λ i ds q k1 k2 hq=>by
   have:=I'.ow i q ds k1 k2
   rw [cE (notown q hq)] at this
   obtain ⟨j,hj,ej⟩:=List.mem_iff_getElem.mp hq
   obtain ⟨b,m1,m2,m3⟩:=I.rs.st.ob j (S[j]'(by rw [<-I.rs.st.len];exact hj)) (List.getElem?_eq_getElem _)
   rw [List.getElem?_eq_getElem hj,ej] at m1
   cases m1
   obtain ⟨y,hy,_⟩:=m3.some
   rw [this] at hy
   cases hy⟩,gs I'.gr,λ i q ds k1 k2=>by
   have h1:=I'.ow i q ds k1 k2
   cases h2:H0 q with
   | none=>rfl
   | some u=>
    exfalso
    have h3:=I.gs.k q (by rw [h2];simp)
    rw [cE (h0own q (by rw [h2];simp))] at h1
    exact h3 h1⟩
 refine h ρ G (hideO δ σ H) G σ H δ o' D iv e1 ?_
 cases o' with
 | nx δ'=>exact λ σ' G' H' I'=>p σ' ρ G' H' (nx I')
 | bk δ'=>exact λ σ' G' H' I'=>p σ' ρ G' H' (nx I')
 | ct δ'=>exact λ σ' G' H' I'=>p σ' ρ G' H' (nx I')
 | rt d=>exact λ v G' H' g dv=>p v ρ G' H' (gs g) (sr0.grow g) dv
noncomputable def ar (f g:DS->ai->SO):DS->ai->SO:=λ δ S=>match f δ S with
 | some (.nx δ',S')=>g δ' S'
 | o=>o
theorem wv {t u:TS} {f g:DS->ai->SO} (h1:jh K cl E t f) (h2:jh K cl E u g):jh K cl E (Bn t u) (ar f g):=λ ρ0 G0 H0 ρ G σ H δ S o S' D I e p=>by
 unfold ar at e
 cases ef:f δ S with
 | none=>rw [ef] at e;cases e
 | some r=>
  obtain ⟨o1,S1⟩:=r
  rw [ef] at e
  refine h1 ρ0 G0 H0 ρ G σ H δ S o1 S1 _ I ef ?_
  cases o1 with
  | nx δ'=>exact λ σ' ρ' G' H' I'=>h2 ρ0 G0 H0 ρ' G' σ' H' δ' S1 o S' D I' e p
  | bk δ'=>cases e;exact p
  | ct δ'=>cases e;exact p
  | rt d=>cases e;exact p
  | xc c=>cases e;exact p
noncomputable def hX {α:Type} (m:SM α) (k:α->ai->SO):SO:=match m with
 | some (.ok a,S)=>k a S
 | some (.xc c,S)=>some (.xc c,S)
 | none=>none
theorem jn {α:Type} {m:SM α} {k:α->ai->SO} {o:qf} {S':ai} (h:hX m k=some (o,S')):(∃ c,m=some (.xc c,S')/\o=.xc c)∨∃ a S1,m=some (.ok a,S1)/\k a S1=some (o,S'):=by
 unfold hX at h
 split at h
 . exact .inr ⟨_,_,rfl,h⟩
 . cases h
   exact .inl ⟨_,rfl,rfl⟩
 . cases h
theorem eQ {t:TE} {f:DS->ai->SM W} (h:SE K cl E t f) {ρ0:List Addr} {G0 H0:Hp} {ρ:List Addr} {G:Hp} {σ:St} {H:Hp} {δ:DS} {S:ai} {o:qf} {S':ai} {D:gY} {k:W->ai->SO} {P:V->Hp->Prop} (I:ji K cl ρ0 G0 H0 ρ G H δ σ S) (e:hX (f δ S) k=some (o,S')) (p:yn K cl E ρ0 G0 H0 D S' o)
 (q:∀ d S1,k d S1=some (o,S')->∀ v ρ' G' H',GS ρ G H ρ' G' H'->SR K ρ' cl G' H' S1->Dw K ρ' G' v d->P v H'):t σ H P:=by
 rcases jn e with ⟨c,em,rfl⟩ | ⟨d,S1,em,e⟩
 . exact h ρ G σ H δ S _ _ _ I.rs em (λ d hd=>by cases hd) (λ c' hc ρ1 G1 H1 g1 s1=>by cases hc;exact p ρ1 G1 H1 (I.gs.trans g1) s1)
 . exact h ρ G σ H δ S _ _ _ I.rs em (λ d' hd=>by cases hd;exact q _ _ e) (λ c' hc=>by cases hc)
theorem sm {t:TT} {f:DS->ai->SM Bool} (h:ST K cl E t f) {ρ0:List Addr} {G0 H0:Hp} {ρ:List Addr} {G:Hp} {σ:St} {H:Hp} {δ:DS} {S:ai} {o:qf} {S':ai} {D:gY} {k:Bool->ai->SO} {P:Bool->Hp->Prop} (I:ji K cl ρ0 G0 H0 ρ G H δ σ S) (e:hX (f δ S) k=some (o,S')) (p:yn K cl E ρ0 G0 H0 D S' o)
 (q:∀ d S1,k d S1=some (o,S')->∀ ρ' G' H',GS ρ G H ρ' G' H'->SR K ρ' cl G' H' S1->P d H'):t σ H P:=by
 rcases jn e with ⟨c,em,rfl⟩ | ⟨d,S1,em,e⟩
 . exact h ρ G σ H δ S _ _ _ I.rs em (λ d hd=>by cases hd) (λ c' hc ρ1 G1 H1 g1 s1=>by cases hc;exact p ρ1 G1 H1 (I.gs.trans g1) s1)
 . exact h ρ G σ H δ S _ _ _ I.rs em (λ d' hd=>by cases hd;exact q _ _ e) (λ c' hc=>by cases hc)
noncomputable def cM (c:DS->ai->SM Bool) (f g:DS->ai->SO):DS->ai->SO:=λ δ S=>hX (c δ S) λ b S1=>if b=true then f δ S1 else g δ S1
theorem zH {tc:TT} {t u:TS} {c:DS->ai->SM Bool} {f g:DS->ai->SO} (hc:ST K cl E tc c) (h1:jh K cl E t f) (h2:jh K cl E u g):jh K cl E (Cc tc t u) (cM c f g):=λ ρ0 G0 H0 ρ G σ H δ S o S' D I e p=>
 sm hc I e p λ b S1 e1 ρ1 G1 H1 g1 s1=>by
  cases b with
  | true=>exact h1 ρ0 G0 H0 ρ1 G1 σ H1 δ S1 o S' D (I.grow g1 s1) e1 p
  | false=>exact h2 ρ0 G0 H0 ρ1 G1 σ H1 δ S1 o S' D (I.grow g1 s1) e1 p
noncomputable def dI (f:DS->ai->SM W):DS->ai->SO:=λ δ S=>hX (f δ S) λ d S1=>some (.rt d,S1)
theorem w9 {t:TE} {f:DS->ai->SM W} (h:SE K cl E t f):jh K cl E (AU t) (dI f):=λ ρ0 G0 H0 ρ G σ H δ S o S' D I e p=>
 eQ h I e p λ d S1 e1 v ρ1 G1 H1 g1 s1 dv=>by
  cases e1
  exact p v ρ1 G1 H1 (I.gs.trans g1) s1 dv
noncomputable def cK (f:DS->ai->SM W) (h:W->DS->Option DS):DS->ai->SO:=λ δ S=>hX (f δ S) λ d S1=>(h d δ).map λ δ'=>(.nx δ',S1)
theorem vt {t:TE} {g:TG} {f:DS->ai->SM W} {h:W->DS->Option DS} (h1:SE K cl E t f) (h2:∀ ρ,DG K ρ g h):jh K cl E (rp t g) (cK f h):=λ ρ0 G0 H0 ρ G σ H δ S o S' D I e p=>
 eQ h1 I e p λ d S1 e1 v ρ1 G1 H1 g1 s1 dv=>by
  obtain ⟨δ',e2,e3⟩:=oM e1
  cases e3
  have I1:=I.grow g1 s1
  exact h2 ρ1 G1 H1 δ σ v d δ' _ I1.rs.rl dv e2 λ σ' R o=>p σ' ρ1 G1 H1 (I1.sub R o)
noncomputable def bB (f:DS->ai->SM W):DS->ai->SO:=λ δ S=>hX (f δ S) λ _ S1=>some (.nx δ,S1)
theorem ss {t:TE} {f:DS->ai->SM W} (h:SE K cl E t f):jh K cl E (rX t) (bB f):=λ ρ0 G0 H0 ρ G σ H δ S o S' D I e p=>
 eQ h I e p λ d S1 e1 v ρ1 G1 H1 g1 s1 dv=>by
  cases e1
  exact p σ ρ1 G1 H1 (I.grow g1 s1)
noncomputable def iU (i:Nat) (f:DS->ai->SO):DS->ai->SO:=λ δ S=>f (frz i δ) S
theorem ji.frz {ρ0:List Addr} {G0 H0:Hp} {ρ:List Addr} {G H:Hp} {δ:DS} {σ:St} {S:ai} (i:Nat) (I:ji K cl ρ0 G0 H0 ρ G H δ σ S):∃ G',ji K cl ρ0 G0 H0 ρ G' H (L2.frz i δ) σ S:=by
 unfold L2.frz
 split
 . rename_i ds h
   obtain ⟨o,h1,p,vs,rfl,h3,h4,h5⟩:=I.rs.rl.sl i _ h
   have h0:=I.ow i p ds h h1
   have g:bg G (cq G p (.lst vs)):=iu h3 _
   have pm:=I.rs.ap i ds p h h1
   have sub:∀ {j:Nat} {es:List W},(δ.set i (.val (.list ds)))[j]?=some (.own es)->i≠j/\δ[j]?=some (.own es):=λ {j es} k=>by
    rcases dt k with ⟨_,z,_⟩ | ⟨ne,k⟩
    . cases z
    . exact ⟨ne,k⟩
   refine ⟨cq G p (.lst vs),⟨⟨⟨iE I.gs.s h4,by rw [List.length_set];exact I.rs.rl.len,λ j s e=>?_,λ j k q ds' es' k1 k2 k3 k4=>I.rs.rl.apart j k q _ _ (sub k1).2 (sub k2).2 k3 k4⟩,?_,λ j es q k1 k2=>I.rs.ap j es q (sub k1).2 k2⟩,?_,λ j q es k1 k2=>I.ow j q es (sub k1).2 k2⟩⟩
   . rcases dt e with ⟨rfl,rfl,hl⟩ | ⟨ne,e⟩
     . exact ⟨_,h1,.ref p,rfl,.lst (cY.of aJ) (h5.same g)⟩
     . obtain ⟨o,k1,k2⟩:=I.rs.rl.sl j s e
       refine ⟨o,k1,?_⟩
       cases s with
       | no=>trivial
       | val d=>
        obtain ⟨v,e1,e2⟩:=k2
        exact ⟨v,e1,e2.same g⟩
       | own es=>
        obtain ⟨q,ws,rfl,e2,e3,e4⟩:=k2
        refine ⟨q,ws,rfl,?_,e3,e4.same g⟩
        rw [aD]
        . exact e2
        . rintro rfl
          exact ne (I.rs.rl.apart i j q ds es h e h1 k1)
   . refine ⟨I.rs.st.len,I.rs.st.nd,λ n ob en=>?_⟩
     obtain ⟨a,k1,k2,k3⟩:=I.rs.st.ob n ob en
     have hap:a≠p:=λ z=>pm (z▸List.mem_of_getElem? k1)
     exact ⟨a,k1,by rw [aD hap];exact k2,k3.move (List.prefix_refl _) g rfl λ dx d1 d2=>⟨d2,by
      rw [aD (λ z=>by rw [z,h4] at d2;cases d2)]
      exact d1⟩⟩
   . exact ⟨I.gs.r,I.gs.g.trans g,iE I.gs.s h4,I.gs.h,I.gs.k,λ b k1 k2=>by
      rw [aD (λ z=>k1.1 (by rw [z];exact h0))]
      exact I.gs.n b k1 k2,I.gs.f,I.gs.t⟩
 . exact ⟨G,I⟩
theorem Aw {i:Nat} {t:TS} {f:DS->ai->SO} (h:jh K cl E t f):jh K cl E t (iU i f):=λ ρ0 G0 H0 ρ G σ H δ S o S' D I e p=>by
 obtain ⟨G',I'⟩:=I.frz i
 exact h ρ0 G0 H0 ρ G' σ H _ S o S' D I' e p
noncomputable def bO (c f:Str) (fo fv:DS->ai->SM W):DS->ai->SO:=λ δ S=>hX (fv δ S) λ d S1=>hX (fo δ S1) λ x S2=>(gQ c x S2).bind λ p=>if p.2.length<1000 then some (.nx δ,S2.set p.1 (.ins c (di f d p.2))) else none
theorem vm {c f:Str} {to tv:TE} {fo fv:DS->ai->SM W} (hc:dY K (cl c)) (hn:ae K (cl c) f) (ho:SE K cl E to fo) (hv:SE K cl E tv fv):jh K cl E (ER K to tv f) (bO c f fo fv):=λ ρ0 G0 H0 ρ G σ H δ S o S' D I e p=>
 eQ hv I e p λ d S1 e1 v ρ1 G1 H1 g1 s1 dv=>by
  have I1:=I.grow g1 s1
  refine eQ ho I1 e1 p λ x S2 e2 u ρ2 G2 H2 g2 s2 du=>?_
  obtain ⟨⟨n,fs⟩,e3,e4⟩:=oB e2
  split at e4
  case isFalse=>cases e4
  rename_i hl
  cases e4
  obtain ⟨rfl,e5⟩:=dE e3
  obtain ⟨a,rfl,ea⟩:=ck du
  obtain ⟨ga,dx,ws,k1,k2,k3,k4⟩:=s2.addr e5 ea
  have I2:=I1.grow g2 s2
  have hda:dx≠a:=λ z=>by rw [z,k1] at k3;cases k3
  obtain ⟨s3,g3⟩:=s2.put (x:=.ins (cl c) dx (putF f v ws)) (o':=.ins c (di f d fs)) g2.s e5 ea (λ b z=>by cases z) ⟨dx,_,aJ,k2,by rw [aD hda];exact k3,k4.putF ((dv.ext g2.r).same g2.g)⟩
  exact ⟨a,_,dx,ws,rfl,k1,hc,hn,by rw [<-k4.length];exact hl,p σ ρ2 G2 _ (I2.grow g3 s3)⟩
noncomputable def iy (c f:Str) (fo fv:DS->ai->SM W):DS->ai->SO:=λ δ S=>hX (fo δ S) λ x S1=>(gQ c x S1).bind λ p=>(p.2.lookup f).bind λ old=>hX (fv δ S1) λ y S2=>(gI (λ i j=>i+j) old y).bind λ z=>(gQ c x S2).bind λ p2=>if p2.2.length<1000 then some (.nx δ,S2.set p2.1 (.ins c (di f z p2.2))) else none
theorem ub {c f:Str} {to tv:TE} {fo fv:DS->ai->SM W} (hc:dY K (cl c)) (hn:ae K (cl c) f) (ho:SE K cl E to fo) (hv:SE K cl E tv fv):jh K cl E (ou K to tv Ea f) (iy c f fo fv):=λ ρ0 G0 H0 ρ G σ H δ S o S' D I e p=>
 eQ ho I e p λ x S1 e1 u ρ1 G1 H1 g1 s1 du=>by
  obtain ⟨⟨n,fs⟩,e3,e4⟩:=oB e1
  obtain ⟨old,e5,e6⟩:=oB e4
  obtain ⟨rfl,e7⟩:=dE e3
  obtain ⟨a,rfl,ea⟩:=ck du
  obtain ⟨ga,dx,ws,k1,k2,k3,k4⟩:=s1.addr e7 ea
  obtain ⟨ov,k5,k6⟩:=k4.lookup e5
  have I1:=I.grow g1 s1
  refine ⟨a,_,dx,ws,ov,rfl,k1,hc,hn,k5,?_⟩
  refine eQ hv I1 e6 p λ y S2 e8 v ρ2 G2 H2 g2 s2 dv=>?_
  obtain ⟨z,e9,e10⟩:=oB e8
  obtain ⟨⟨m,fs2⟩,e11,e12⟩:=oB e10
  split at e12
  case isFalse=>cases e12
  rename_i hl
  cases e12
  obtain ⟨em,e13⟩:=dE e11
  cases em
  have ea2:ρ2[n]?=some a:=by
   obtain ⟨t',ht⟩:=g2.r
   rw [<-ht,List.getElem?_append_left (oG ea).1]
   exact ea
  obtain ⟨ga2,dx2,ws2,m1,m2,m3,m4⟩:=s2.addr e13 ea2
  have I2:=I1.grow g2 s2
  have hda:dx2≠a:=λ zz=>by rw [zz,m1] at m3;cases m3
  unfold gI at e9
  split at e9
  . cases e9
    cases eg k6
    cases eg dv
    rename_i i j
    obtain ⟨s3,g3⟩:=s2.put (x:=.ins (cl c) dx2 (putF f (.int (i+j)) ws2)) (o':=.ins c (di f (.int (i+j)) fs2)) g2.s e13 ea2 (λ b zz=>by cases zz) ⟨dx2,_,aJ,m2,by rw [aD hda];exact m3,m4.putF (.int _)⟩
    exact ⟨i,j,rfl,rfl,dx2,ws2,m1,by rw [<-m4.length];exact hl,p σ ρ2 G2 _ (I2.grow g3 s3)⟩
  . cases e9
noncomputable def fL (h:W->DS->Option DS) (fb:DS->ai->SO):List W->DS->ai->SO
 | [],δ,S=>some (.nx δ,S)
 | d::ds,δ,S=>(h d δ).bind λ δ2=>match fb δ2 S with
  | some (.nx δ',S')=>fL h fb ds δ' S'
  | some (.ct δ',S')=>fL h fb ds δ' S'
  | some (.bk δ',S')=>some (.nx δ',S')
  | some (.rt d,S')=>some (.rt d,S')
  | some (.xc c,S')=>some (.xc c,S')
  | none=>none
noncomputable def lQ (fi:DS->ai->SM (List W)) (h:W->DS->Option DS) (fb:DS->ai->SO):DS->ai->SO:=λ δ S=>hX (fi δ S) λ ds S1=>fL h fb ds δ S1
theorem u4 {wi:TI} {g:TG} {tb:TS} {fi:DS->ai->SM (List W)} {h:W->DS->Option DS} {fb:DS->ai->SO} (hi:FJ K cl E wi fi) (hg:∀ ρ,DG K ρ g h) (hb:jh K cl E tb fb):jh K cl E (AZ wi g tb) (lQ fi h fb):=λ ρ0 G0 H0 ρ G σ H δ S o S' D I e p=>by
 rcases jn e with ⟨c,em,rfl⟩ | ⟨ds,S1,em,e⟩
 . exact hi ρ G σ H δ S _ _ _ I.rs em (λ d hd=>by cases hd) (λ c' hc ρ1 G1 H1 g1 s1=>by cases hc;exact p ρ1 G1 H1 (I.gs.trans g1) s1)
 refine hi ρ G σ H δ S _ _ _ I.rs em (λ ds' hd=>?_) (λ c' hc=>by cases hc)
 cases hd
 intro J ρ1 G1 H1 g1 s1 it
 refine ⟨λ i m σ H=>m=ds.length-i/\i<=ds.length/\∃ ρ2 G2 δ2 S2,ji K cl ρ0 G0 H0 ρ2 G2 H δ2 σ S2/\ρ1 <+: ρ2/\bg G1 G2/\fL h fb (ds.drop i) δ2 S2=some (o,S'),⟨ds.length,by simp,Nat.zero_le _,ρ1,G1,δ,S1,I.grow g1 s1,List.prefix_refl _,.refl _,by simpa using e⟩,?_⟩
 rintro i m σ2 H2 ⟨rfl,hil,ρ2,G2,δ2,S2,I2,pr2,s2,e2⟩
 have ia:=it i G2 H2 s2 I2.gs.s
 by_cases hlt:i<ds.length
 . refine .inr ?_
   obtain ⟨go,step⟩:=ia.1 ds[i] (List.getElem?_eq_getElem hlt)
   rw [List.drop_eq_getElem_cons hlt] at e2
   obtain ⟨δ3,e3,e4⟩:=oB e2
   have turn:∀ (P:gY) (o1:qf) (S3:ai),fb δ3 S2=some (o1,S3)->(∀ G3 H3,Gr G2 H2 G3 H3->yn K cl E ρ2 G3 H0 P S3 o1)->∀ x H',J.yld i H2 x H'->g x σ2 H' λ σ2 H2=>tb P σ2 H2:=λ P o1 S3 ef hp x H' y=>by
    obtain ⟨G3,g3,dx⟩:=step x H' y
    have I3:=I2.grow (.of g3) (I2.rs.st.grow g3)
    refine hg ρ2 G3 H' δ2 σ2 x _ δ3 _ I3.rs.rl (dx.ext pr2) e3 λ σ3 R3 o3=>?_
    exact hb ρ2 G3 H0 ρ2 G3 σ3 H' δ3 S2 o1 S3 P (I3.sub R3 o3).base ef (hp G3 H' g3)
   have back:∀ {G3 H3:Hp},Gr G2 H2 G3 H3->∀ {ρ4:List Addr} {G4 H4:Hp} {σ4:St} {δ4:DS} {S4:ai},ji K cl ρ2 G3 H0 ρ4 G4 H4 δ4 σ4 S4->ji K cl ρ0 G0 H0 ρ4 G4 H4 δ4 σ4 S4/\ρ1 <+: ρ4/\bg G1 G4:=λ {G3 H3} g3 {ρ4 G4 H4 σ4 δ4 S4} I4=>⟨I4.rebase (I2.gs.trans (.of g3)),pr2.trans I4.gs.r,s2.trans (g3.g.trans I4.gs.g)⟩
   cases ef:fb δ3 S2 with
   | none=>rw [ef] at e4;cases e4
   | some r=>
    obtain ⟨o1,S3⟩:=r
    rw [ef] at e4
    cases o1 with
    | nx δ'=>
     exact ⟨go,λ σ' H'=>∃ ρ' G',ji K cl ρ0 G0 H0 ρ' G' H' δ' σ' S3/\ρ1 <+: ρ'/\bg G1 G',λ σ' H' hy0=>by obtain ⟨ρ',G',I',q1,q2⟩:=hy0;exact ⟨ds.length-(i+1),by omega,rfl,hlt,ρ',G',δ',S3,I',q1,q2,e4⟩,turn _ _ _ ef λ G3 H3 g3 σ5 ρ5 G5 H5 I5=>⟨ρ5,G5,back g3 I5⟩⟩
    | ct δ'=>
     exact ⟨go,λ σ' H'=>∃ ρ' G',ji K cl ρ0 G0 H0 ρ' G' H' δ' σ' S3/\ρ1 <+: ρ'/\bg G1 G',λ σ' H' hy0=>by obtain ⟨ρ',G',I',q1,q2⟩:=hy0;exact ⟨ds.length-(i+1),by omega,rfl,hlt,ρ',G',δ',S3,I',q1,q2,e4⟩,turn _ _ _ ef λ G3 H3 g3 σ5 ρ5 G5 H5 I5=>⟨ρ5,G5,back g3 I5⟩⟩
    | bk δ'=>
     cases e4
     exact ⟨go,λ _ _=>False,λ _ _ z=>z.elim,turn _ _ _ ef λ G3 H3 g3 σ5 ρ5 G5 H5 I5=>p σ5 ρ5 G5 H5 (back g3 I5).1⟩
    | rt d=>
     cases e4
     exact ⟨go,λ _ _=>False,λ _ _ z=>z.elim,turn _ _ _ ef λ G3 H3 g3 v ρ5 G5 H5 g5 s5 dv=>p v ρ5 G5 H5 ((I2.gs.trans (.of g3)).rebase g5) s5 dv⟩
    | xc c=>
     cases e4
     exact ⟨go,λ _ _=>False,λ _ _ z=>z.elim,turn _ _ _ ef λ G3 H3 g3 ρ5 G5 H5 g5 s5=>p ρ5 G5 H5 ((I2.gs.trans (.of g3)).rebase g5) s5⟩
 . have hi':i=ds.length:=by omega
   subst hi'
   rw [List.drop_length] at e2
   cases e2
   exact .inl ⟨ia.2 (Nat.le_refl _),p σ2 ρ2 G2 H2 I2⟩
noncomputable def cD (c:DS->ai->SM Bool) (fb:DS->ai->SO):Nat->DS->ai->SO
 | 0,_,_=>none
 | n+1,δ,S=>hX (c δ S) λ b S1=>if b=true then match fb δ S1 with
  | some (.nx δ',S')=>cD c fb n δ' S'
  | some (.ct δ',S')=>cD c fb n δ' S'
  | some (.bk δ',S')=>some (.nx δ',S')
  | some (.rt d,S')=>some (.rt d,S')
  | some (.xc x,S')=>some (.xc x,S')
  | none=>none
  else some (.nx δ,S1)
theorem pT {n:Nat} {tc:TT} {tb:TS} {c:DS->ai->SM Bool} {fb:DS->ai->SO} (hc:ST K cl E tc c) (hb:jh K cl E tb fb):jh K cl E (vD tc tb) (cD c fb n):=λ ρ0 G0 H0 ρ G σ H δ S o S' D I e p=>by
 refine ⟨λ m σ H=>∃ ρ G δ S,ji K cl ρ0 G0 H0 ρ G H δ σ S/\cD c fb m δ S=some (o,S'),⟨n,ρ,G,δ,S,I,e⟩,?_⟩
 rintro m σ2 H2 ⟨ρ2,G2,δ2,S2,I2,e2⟩
 cases m with
 | zero=>cases e2
 | succ m=>
  refine sm hc I2 e2 p λ b S3 e3 ρ3 G3 H3 g3 s3=>?_
  have I3:=I2.grow g3 s3
  cases b with
  | false=>cases e3;exact p σ2 ρ3 G3 H3 I3
  | true=>
   rw [if_pos rfl] at e3 ⊢
   cases ef:fb δ2 S3 with
   | none=>rw [ef] at e3;cases e3
   | some r=>
    obtain ⟨o1,S4⟩:=r
    rw [ef] at e3
    cases o1 with
    | nx δ'=>exact ⟨λ σ' H'=>∃ ρ' G',ji K cl ρ0 G0 H0 ρ' G' H' δ' σ' S4,λ σ' H' hy0=>by obtain ⟨ρ',G',I'⟩:=hy0;exact ⟨m,Nat.lt_succ_self _,ρ',G',δ',S4,I',e3⟩,hb ρ0 G0 H0 ρ3 G3 σ2 H3 δ2 S3 _ _ _ I3 ef λ σ5 ρ5 G5 H5 I5=>⟨ρ5,G5,I5⟩⟩
    | ct δ'=>exact ⟨λ σ' H'=>∃ ρ' G',ji K cl ρ0 G0 H0 ρ' G' H' δ' σ' S4,λ σ' H' hy0=>by obtain ⟨ρ',G',I'⟩:=hy0;exact ⟨m,Nat.lt_succ_self _,ρ',G',δ',S4,I',e3⟩,hb ρ0 G0 H0 ρ3 G3 σ2 H3 δ2 S3 _ _ _ I3 ef λ σ5 ρ5 G5 H5 I5=>⟨ρ5,G5,I5⟩⟩
    | bk δ'=>cases e3;exact ⟨λ _ _=>False,λ _ _ z=>z.elim,hb ρ0 G0 H0 ρ3 G3 σ2 H3 δ2 S3 _ _ _ I3 ef λ σ5 ρ5 G5 H5 I5=>p σ5 ρ5 G5 H5 I5⟩
    | rt d=>cases e3;exact ⟨λ _ _=>False,λ _ _ z=>z.elim,hb ρ0 G0 H0 ρ3 G3 σ2 H3 δ2 S3 _ _ _ I3 ef p⟩
    | xc x=>cases e3;exact ⟨λ _ _=>False,λ _ _ z=>z.elim,hb ρ0 G0 H0 ρ3 G3 σ2 H3 δ2 S3 _ _ _ I3 ef p⟩
noncomputable def kI (c:Str) (f:DS->ai->SM (List W)):DS->ai->SO:=λ δ S=>hX (f δ S) λ ds S1=>if ds.length<=sizeLine then some (.xc c,S1) else none
theorem vX {c:Str} {t:TA} {f:DS->ai->SM (List W)} (h:SA K cl E t f):jh K cl E (wD (cl c) E t) (kI c f):=λ ρ0 G0 H0 ρ G σ H δ S o S' D I e p=>by
 rcases jn e with ⟨c',em,rfl⟩ | ⟨d,S1,em,e⟩
 . exact h ρ G σ H δ S _ _ _ I.rs em (λ d hd=>by cases hd) (λ c' hc ρ1 G1 H1 g1 s1=>by cases hc;exact p ρ1 G1 H1 (I.gs.trans g1) s1)
 . refine h ρ G σ H δ S _ _ _ I.rs em (λ d' hd=>?_) (λ c' hc=>by cases hc)
   cases hd
   intro vs ρ1 G1 H1 g1 s1 da
   split at e
   . rename_i hz
     cases e
     exact ⟨by rw [da.length];exact hz,p ρ1 G1 H1 (I.gs.trans g1) s1⟩
   . cases e
noncomputable def bn:SO->SM W
 | some (.rt d,S)=>some (.ok d,S)
 | some (.nx _,S)=>some (.ok .none,S)
 | some (.xc c,S)=>some (.xc c,S)
 | _=>none
noncomputable def bi (a n:Nat) (fb:DS->ai->SO):List W->ai->SM W:=λ ds S=>if ds.length=a then bn (fb (dL n ds) S) else none
theorem iA {a n:Nat} {fb:DS->ai->SO} {ds:List W} {S:ai} {r:Rs W×ai} (h:bi a n fb ds S=some r):ds.length=a:=by
 unfold bi at h
 split at h
 . assumption
 . cases h
theorem xB {f:List W->ai->SM W} {a:Nat} {vs:List V} {H:Hp} {Q:VK} {E:XK} (hf:∀ ds S r,f ds S=some r->ds.length=a) (h:sZ K cl f vs H Q E):vs.length=a:=by
 obtain ⟨ρ,G,S,ds,r,S',s,sr,da,e,q⟩:=h
 rw [da.length]
 exact hf ds S _ e
theorem Dk {t:TS} {fb:DS->ai->SO} {N:List Str} {a n:Nat} {vs:List V} {H:Hp} {Q:VK} {E:XK} (hn:N.length=n) (h:jh K cl E t fb) (hsp:sZ K cl (bi a n fb) vs H Q E):t { nx:=λ _ H'=>Q .non H',rt:=Q } (start N vs) H:=by
 subst hn
 obtain ⟨ρ,G,S,ds,r,S',s,sr,da,e,q,qx⟩:=hsp
 have R:=qg (N:=N) s da
 have I:ji K cl ρ G H ρ G H (dL N.length ds) (start N vs) S:=⟨⟨R,sr,λ i ds' p h1=>absurd h1 gC⟩,.refl s,λ i p ds' h1=>absurd h1 gC⟩
 unfold bi at e
 rw [if_pos (iA (show bi a N.length fb ds S=some (r,S') from e))] at e
 cases ef:fb (dL N.length ds) S with
 | none=>rw [ef] at e;cases e
 | some o=>
  obtain ⟨o,S1⟩:=o
  rw [ef] at e
  refine h ρ G H ρ G _ H _ S o S1 _ I ef ?_
  cases o with
  | nx δ=>cases e;exact λ σ' ρ' G' H' I'=>q _ rfl _ ρ' G' H' I'.gs I'.rs.st .non
  | rt d'=>cases e;exact λ v ρ' G' H' g s dv=>q _ rfl v ρ' G' H' g s dv
  | xc c=>cases e;exact λ ρ' G' H' g s=>qx _ rfl ρ' G' H' g s
  | bk _=>cases e
  | ct _=>cases e
theorem rY {f:List W->ai->SM W} {a:Nat} {vs:List V} {H:Hp} {Q:VK} {E:XK} (hf:∀ ds S r,f ds S=some r->ds.length=a) (h:iP K cl f vs H Q E):vs.length=a:=by
 obtain ⟨ρ,G,S,ds,r,S',s,sr,da,e,q⟩:=h
 rw [da.length]
 exact hf ds S _ e
theorem zU {t:TS} {fb:DS->ai->SO} {N:List Str} {a n:Nat} {vs:List V} {H:Hp} {Q:VK} {E:XK} (hn:N.length=n) (h:jh K cl E0 t fb) (hsp:iP K cl (bi a n fb) vs H Q E):t { nx:=λ _ H'=>Q .non H',rt:=Q } (start N vs) H:=by
 obtain ⟨ρ,G,S,ds,d,S',s,sr,da,e,q⟩:=hsp
 exact Dk (E:=E0) hn h ⟨ρ,G,S,ds,.ok d,S',s,sr,da,e,(λ d' hd=>by cases hd;exact q),(λ c hc=>by cases hc)⟩
theorem uK {g:List W->ai->SM W} {vs:List V} {H:Hp} {Q:VK} {E:XK} (hg:∀ ds S,g ds S=none) (h:sZ K cl g vs H Q E):False:=by
 obtain ⟨ρ,G,S,ds,r,S',s,sr,da,e,q⟩:=h
 rw [hg] at e
 cases e
theorem dU.noX {P:Program} {w:World} {mg:Str->Option Value} {base:Heap} {CX:oV} {k:Nat} {f:Addr} {fd:FuncData} {ps:List Str} {g:List W->ai->SM W} (hg:∀ ds S,g ds S=none):dU P w K mg base CX k f fd ps (sZ K cl g):=
 ⟨λ _ _ _ _ h=>(uK hg h).elim,λ _ _ _ _ _ _ _ _ _ _ _ _ _ h=>(uK hg h).elim⟩
end
section
variable {X:Cx} {pins:List (Addr×Obj)} {σ:St} {H:Hp} {s:Shared} {a:Addr} {kvs:List (bz×V)} {k:bz} {u:Value} {A:Around} {E:Value->Shared->Prop}
end
section
variable {X:Cx} {o e f:Expr} {td ty tx:TE} {apos cpos:Pos}
end
section
variable {prog:Program} {w:World} {A:Around} {E:Value->Shared->Prop} {s:Shared}
end
section
variable {X:Cx} {pos:Pos}
end
section
variable {K:Frag} {ρ:List Addr}
noncomputable def Hd:W->Option V
 | .none=>some .non
 | .bool b=>some (.bl b)
 | .int i=>some (.int i)
 | .str x=>some (.str x)
 | _=>none
noncomputable def yk:List W->Option (List V)
 | []=>some []
 | d::ds=>(Hd d).bind λ v=>(yk ds).map (v::·)
theorem qV {H:Hp} {v u:V} {d:W} (h:Dw K ρ H v d) (e:Hd d=some u):v=u/\fu u=true:=by
 cases h <;> first | (cases e;exact ⟨rfl,rfl⟩) | cases e
theorem nU {H:Hp} {vs us:List V} {ds:List W} (h:az K ρ H vs ds):yk ds=some us->vs=us/\us.all fu=true:=
 h.ind (M:=λ vs ds=>∀ us,yk ds=some us->vs=us/\us.all fu=true) (λ us e=>by cases e;exact ⟨rfl,rfl⟩) (λ _ _ _ _ a ih us e=>by
  obtain ⟨u,e1,e⟩:=oB e
  obtain ⟨us,e2,rfl⟩:=oM e
  obtain ⟨h1,h2⟩:=qV a e1
  obtain ⟨h3,h4⟩:=ih _ e2
  exact ⟨by rw [h1,h3],by rw [List.all_cons,h2,h4];rfl⟩) us
noncomputable def mJ (d e:W):Option Bool:=(nY e).bind λ ds=>(Hd d).bind λ v=>(yk ds).map λ vs=>DH v vs
noncomputable def wp (d e:W):Option Bool:=(mJ d e).map (!·)
theorem uF {H:Hp} {x y:V} {d e:W} {b:Bool} (hx:Dw K ρ H x d) (hy:Dw K ρ H y e) (h:mJ d e=some b):∃ p xs,y=.ref p/\(cY K H p xs∨fS K H p xs)/\fu x=true/\xs.all fu=true/\DH x xs=b:=by
 obtain ⟨ds,e1,h⟩:=oB h
 obtain ⟨v,e2,h⟩:=oB h
 obtain ⟨vs,e3,rfl⟩:=oM h
 obtain ⟨rfl,f1⟩:=qV hx e2
 cases hy with
 | lst sq da=>
  cases e1
  obtain ⟨rfl,f2⟩:=nU da e3
  exact ⟨_,_,rfl,.inl sq,f1,f2,rfl⟩
 | tup sq da=>
  cases e1
  obtain ⟨rfl,f2⟩:=nU da e3
  exact ⟨_,_,rfl,.inr (fS.of sq),f1,f2,rfl⟩
 | _=>cases e1
theorem ES:DB K ρ (CM K false) mJ:=λ H x y d e b Q hx hy hg q=>by
 obtain ⟨p,xs,h1,h2,h3,h4,rfl⟩:=uF hx hy hg
 exact ⟨p,xs,h1,h2,h3,h4,q⟩
end
section
variable {K:Frag} {cl:Str->Addr} {E:XK}
noncomputable def gk (x:W) (S:ai):Option (Nat×List W):=match iZ x S with
 | some (n,.lst ds)=>some (n,ds)
 | _=>none
theorem cX {x:W} {S:ai} {n:Nat} {ds:List W} (h:gk x S=some (n,ds)):x=.ref n/\S[n]?=some (.lst ds):=by
 unfold gk at h
 cases e:iZ x S with
 | none=>rw [e] at h;cases h
 | some p=>
  obtain ⟨m,o⟩:=p
  rw [e] at h
  cases o with
  | lst ds=>cases h;exact et e
  | _=>cases h
noncomputable def yT (x:W) (S:ai):Option (List W):=match gk x S with
 | some (_,ds)=>some ds
 | none=>nY x
noncomputable def qY (x y:W) (S:ai):Option W:=match gk x S with
 | some (_,ds)=>(F7 y).bind λ i=>gW ds i
 | none=>bd x y
noncomputable def sIx (fa fb:DS->ai->SM W):DS->ai->SM W:=λ δ S=>ak (fa δ S) λ x S1=>ak (fb δ S1) λ y S2=>iR (qY x y S2) S2
theorem DP {ta tb:TE} {fa fb:DS->ai->SM W} (ha:SE K cl E ta fa) (hb:SE K cl E tb fb):SE K cl E (oW (Fp K) ta tb) (sIx fa fb):=λ ρ G σ H δ S r' S' Q R e q qx=>
 fV ha hb R e (λ x y S2 e2 v u ρ2 G2 H2 g2 s2 dv du=>by
  obtain ⟨c,e3,rfl,rfl⟩:=bL e2
  unfold qY at e3
  split at e3
  . rename_i n ds e4
    obtain ⟨i,e5,e6⟩:=oB e3
    cases vK e5
    cases eg du
    obtain ⟨rfl,e7⟩:=cX e4
    obtain ⟨a,rfl,ea⟩:=ck dv
    obtain ⟨ga,vs,k1,k2⟩:=s2.addr e7 ea
    obtain ⟨w,h1,h2⟩:=k2.at e6
    exact .inl ⟨a,vs,_,w,rfl,rfl,cY.of k1,h1,q c rfl w ρ2 G2 H2 g2 s2 h2⟩
  . exact zZ G2 H2 v u x y c Q g2.s (.inl dv) du e3 λ w G3 H3 g3 dw=>q c rfl w ρ2 G3 H3 (g2.trans (.of g3)) (s2.grow g3) dw) qx
noncomputable def mU (x:W) (S:ai):Option W:=match gk x S with
 | some (_,ds)=>some (.int ds.length)
 | none=>dF x
noncomputable def gB (fa:DS->ai->SM W):DS->ai->SM W:=λ δ S=>ak (fa δ S) λ x S1=>iR (mU x S1) S1
theorem Bu {ta:TE} {fa:DS->ai->SM W} (ha:SE K cl E ta fa):SE K cl E (uj (sE K) (gR ta jJ)) (gB fa):=λ ρ G σ H δ S r' S' Q R e q qx=>
 cP ha R e (λ x S2 e2 v ρ2 G2 H2 g2 s2 dv=>by
  obtain ⟨c,e3,rfl,rfl⟩:=bL e2
  unfold mU at e3
  split at e3
  . rename_i n ds e4
    cases e3
    obtain ⟨rfl,e7⟩:=cX e4
    obtain ⟨a,rfl,ea⟩:=ck dv
    obtain ⟨ga,vs,k1,k2⟩:=s2.addr e7 ea
    exact .inl ⟨a,vs,rfl,.inl (cY.of k1),by rw [k2.length];exact q _ rfl _ ρ2 G2 H2 g2 s2 (.int _)⟩
  . exact wb G2 H2 v x c Q g2.s (.inl dv) e3 λ w G3 H3 g3 dw=>q c rfl w ρ2 G3 H3 (g2.trans (.of g3)) (s2.grow g3) dw) qx
noncomputable def Jw (g:W->Option W) (fa:DS->ai->SM W):DS->ai->SM W:=λ δ S=>ak (fa δ S) λ x S1=>iR (g x) S1
noncomputable def sD (T:String) (x:W) (S:ai):Option W:=match gk x S with
 | some _=>if T = "list" then some (.bool true) else none
 | none=>match x with
  | .list _=>if T = "list" then some (.bool true) else none
  | .tuple _=>if T = "tuple" then some (.bool true) else none
  | _=>iY T x
noncomputable def GX (T:String) (fa:DS->ai->SM W):DS->ai->SM W:=λ δ S=>ak (fa δ S) λ x S1=>iR (sD T x S1) S1
noncomputable def br (fo fv:DS->ai->SM W):DS->ai->SO:=λ δ S=>hX (fo δ S) λ x S1=>if (gk x S1).isSome=true then hX (fv δ S1) λ d S2=>(gk x S2).bind λ p=>if p.2.length<sizeLine then some (.nx δ,S2.set p.1 (.lst (p.2++[d]))) else none else none
theorem qd {ρ ρ':List Addr} {n:Nat} {a:Addr} (h:ρ <+: ρ') (e:ρ[n]?=some a):ρ'[n]?=some a:=by
 obtain ⟨t,rfl⟩:=h
 rw [List.getElem?_append_left (oG e).1]
 exact e
theorem mO {to tv:TE} {fo fv:DS->ai->SM W} (ho:SE K cl E to fo) (hv:SE K cl E tv fv):jh K cl E (rX (E2 K "list" kH to (gR tv jJ))) (br fo fv):=λ ρ0 G0 H0 ρ G σ H δ S o S' D I e p=>
 eQ ho I e p λ x S1 e1 u ρ1 G1 H1 g1 s1 du=>by
  split at e1
  case isFalse=>cases e1
  rename_i hx
  obtain ⟨⟨n,ds0⟩,hx0⟩:=Option.isSome_iff_exists.mp hx
  obtain ⟨rfl,h0⟩:=cX hx0
  obtain ⟨a,rfl,ea⟩:=ck du
  obtain ⟨_,vs0,k0,_⟩:=s1.addr h0 ea
  have I1:=I.grow g1 s1
  refine ⟨.inl ⟨rfl,vs0,cY.of k0⟩,eQ hv I1 e1 p λ d S2 e2 v ρ2 G2 H2 g2 s2 dv=>?_⟩
  obtain ⟨⟨m,ds⟩,e3,e4⟩:=oB e2
  split at e4
  case isFalse=>cases e4
  rename_i hl
  cases e4
  obtain ⟨em,e5⟩:=cX e3
  cases em
  have ea2:=qd g2.r ea
  obtain ⟨ga,vs,k1,k2⟩:=s2.addr e5 ea2
  obtain ⟨s3,g3⟩:=s2.put (x:=.lst (vs++[v])) (o':=.lst (ds++[d])) g2.s e5 ea2 (λ b z=>by cases z) ⟨_,aJ,k2.app (.cons dv .nil)⟩
  exact ⟨a,vs,v,rfl,rfl,k1,by rw [k2.length];exact hl,p σ ρ2 G2 _ ((I1.grow g2 s2).grow g3 s3)⟩
noncomputable def kZ:W->Option bz
 | .int i=>some (Sum.inl i)
 | .str x=>some (Sum.inr x)
 | _=>none
theorem lL {ρ:List Addr} {G:Hp} {v:V} {d:W} {k:bz} (h:Dw K ρ G v d) (e:kZ d=some k):v=kV k:=by
 cases h <;> first | (cases e;rfl) | cases e
noncomputable def pS (x:W) (S:ai):Option (Nat×List (bz×W)):=match iZ x S with
 | some (n,.dK kvs)=>some (n,kvs)
 | _=>none
theorem mQ {x:W} {S:ai} {n:Nat} {kvs:List (bz×W)} (h:pS x S=some (n,kvs)):x=.ref n/\S[n]?=some (.dK kvs):=by
 unfold pS at h
 split at h
 . rename_i n' ds' e
   cases h
   exact et e
 . cases h
noncomputable def fE {κ:Type} [DecidableEq κ] (kvs:List (κ×W)) (k:κ):Option W:=(kvs.find? λ kv=>decide (kv.1=k)).map (·.2)
noncomputable def fH {κ:Type} [DecidableEq κ] (kvs:List (κ×W)) (k:κ) (v:W):List (κ×W):=if (kvs.any λ kv=>decide (kv.1=k))=true then kvs.map λ kv=>if kv.1=k then (kv.1,v) else kv else kvs++[(k,v)]
theorem gl.val {κ:Type} [DecidableEq κ] {ρ:List Addr} {G:Hp} {k:κ}:∀ {l:List (κ×W)} {m:List (κ×V)},gl K ρ G l m->(∀ d,fE l k=some d->∃ v,iG m k=some v/\Dw K ρ G v d)/\(fE l k=none->iG m k=none):=λ q=>by
 induction q with
 | nil=>exact ⟨(λ d e=>by cases e),λ _=>rfl⟩
 | @cons j x0 v0 l m a b ih=>
  obtain ⟨h1,h2⟩:=ih
  by_cases hj:j=k
  . subst hj
    refine ⟨λ d e=>?_,λ e=>?_⟩
    . have e':fE ((j,x0)::l) j=some x0:=by simp [fE,List.find?_cons]
      rw [e'] at e
      cases e
      exact ⟨_,jy rfl,a⟩
    . simp [fE,List.find?_cons] at e
  . refine ⟨λ d e=>?_,λ e=>?_⟩
    . rw [im hj]
      exact h1 d (by simpa [fE,List.find?_cons,hj] using e)
    . rw [im hj]
      exact h2 (by simpa [fE,List.find?_cons,hj] using e)
theorem gl.any {κ:Type} [DecidableEq κ] {ρ:List Addr} {G:Hp} {k:κ}:∀ {l:List (κ×W)} {m:List (κ×V)},gl K ρ G l m->(l.any λ kv=>decide (kv.1=k))=m.any λ kv=>decide (kv.1=k):=λ q=>by
 induction q with
 | nil=>rfl
 | cons a b ih=>rw [List.any_cons,List.any_cons,ih]
theorem gl.repl {κ:Type} [DecidableEq κ] {ρ:List Addr} {G:Hp} {k:κ} {v:V} {d:W} (h:Dw K ρ G v d):∀ {l:List (κ×W)} {m:List (κ×V)},gl K ρ G l m->gl K ρ G (l.map λ kv=>if kv.1=k then (kv.1,d) else kv) (m.map λ kv=>if kv.1=k then (kv.1,v) else kv):=λ q=>by
 induction q with
 | nil=>exact .nil
 | @cons j d0 v0 l m a b ih=>
  rw [List.map_cons,List.map_cons]
  by_cases hj:j=k
  . simp only [if_pos hj]
    exact .cons h ih
  . simp only [if_neg hj]
    exact .cons a ih
theorem gl.snoc {κ:Type} {ρ:List Addr} {G:Hp} {k:κ} {v:V} {d:W} (h:Dw K ρ G v d):∀ {l:List (κ×W)} {m:List (κ×V)},gl K ρ G l m->gl K ρ G (l++[(k,d)]) (m++[(k,v)]):=λ q=>by
 induction q with
 | nil=>exact .cons h .nil
 | cons a _ ih=>exact .cons a ih
theorem gl.put {κ:Type} [DecidableEq κ] {ρ:List Addr} {G:Hp} {k:κ} {v:V} {d:W} (h:Dw K ρ G v d) {l:List (κ×W)} {m:List (κ×V)} (r:gl K ρ G l m):gl K ρ G (fH l k d) (gu m k v):=by
 unfold fH gu
 rw [r.any]
 split
 . exact r.repl h
 . exact r.snoc h
noncomputable def dG (S:ai) (n:Nat):Option (List W):=match S[n]? with
 | some (.lst ds)=>some ds
 | _=>none
noncomputable def jN (f:W->Option PyData):List W->Option (List PyData)
 | []=>some []
 | d::ds=>(f d).bind λ x=>(jN f ds).map (x::·)
noncomputable def mC (S:ai):Nat->W->Option PyData
 | 0,_=>none
 | n+1,d=>match d with
  | .list ds=>(jN (mC S n) ds).map .list
  | .tuple ds=>(jN (mC S n) ds).map .tuple
  | .ref m=>(dG S m).bind λ ds=>(jN (mC S n) ds).map .list
  | d=>d.py
theorem oH {H:Hp} {ρ:List Addr} {G:Hp} {f:W->Option PyData} (hf:∀ v d x,Dw K ρ G v d->f d=some x->Dp K H v x) {vs:List V} {ds:List W} {xs:List PyData} (h:az K ρ G vs ds):jN f ds=some xs->ki K H vs xs:=
 h.ind (M:=λ vs ds=>∀ xs,jN f ds=some xs->ki K H vs xs) (λ xs e=>by cases e;exact .nil) (λ _ _ _ _ a ih xs e=>by
  obtain ⟨x,e1,e⟩:=oB e
  obtain ⟨ys,e2,rfl⟩:=oM e
  exact .cons (hf _ _ _ a e1) (ih _ e2)) xs
theorem jc {ρ:List Addr} {G H:Hp} {S:ai} (sg:bg G H) (s:SR K ρ cl G H S):∀ (n:Nat) (v:V) (d:W) (x:PyData),Dw K ρ G v d->mC S n d=some x->Dp K H v x
 | 0,_,_,_,_,e=>by cases e
 | n+1,v,d,x,h,e=>by
  cases h with
  | lst sq da=>
   obtain ⟨xs,e1,rfl⟩:=oM e
   exact .lst (sg.seq sq) (oH (λ v d x=>jc sg s n v d x) da e1)
  | tup sq da=>
   obtain ⟨xs,e1,rfl⟩:=oM e
   exact .tup (sg.tup (fS.of sq)) (oH (λ v d x=>jc sg s n v d x) da e1)
  | ref ea=>
   obtain ⟨ds,e1,e2⟩:=oB e
   obtain ⟨xs,e3,rfl⟩:=oM e2
   unfold dG at e1
   split at e1
   . rename_i ds' h1
     cases e1
     obtain ⟨ga,vs,k1,k2⟩:=s.addr h1 ea
     exact .lst (cY.of k1) (oH (λ v d x=>jc sg s n v d x) k2 e3)
   . cases e1
  | non=>exact Dw.dp (ρ:=ρ) .non e
  | bl b=>exact Dw.dp (ρ:=ρ) (.bl b) e
  | int i=>exact Dw.dp (ρ:=ρ) (.int i) e
  | str y=>exact Dw.dp (ρ:=ρ) (.str y) e
noncomputable def kR (neg:Bool) (d e:W) (S:ai):Option Bool:=match FU d e with
 | some b=>some (if neg then !b else b)
 | none=>(mC S 24 d).bind λ a=>(mC S 24 e).bind λ b=>if (a.canLay0&&b.canLay0&&decide (a.depth<=64))=true then some (if neg then !(PyData.eqv a b) else PyData.eqv a b) else none
noncomputable def AY (K:Frag) (neg:Bool):R2:=if neg then Bv K else Ca K
noncomputable def jV (neg:Bool) (fa fb:DS->ai->SM W):DS->ai->SM Bool:=λ δ S=>ak (fa δ S) λ x S1=>ak (fb δ S1) λ y S2=>iR (kR neg x y S2) S2
theorem pC {ρ:List Addr} {G H:Hp} {S:ai} {neg:Bool} {v u:V} {x y:W} {b:Bool} {Q:VK} (sg:bg G H) (s:SR K ρ cl G H S) (dv:Dw K ρ G v x) (du:Dw K ρ G u y) (h:kR neg x y S=some b) (q:Q (.bl b) H):AY K neg v u H Q:=by
 unfold kR at h
 split at h
 . rename_i b' hb
   cases h
   obtain ⟨h1,h2⟩:=rC (dv.same sg) (du.same sg) hb
   cases neg with
   | false=>exact .inl ⟨h1,by rw [h2];exact q⟩
   | true=>exact .inl ⟨h1,by rw [h2];exact q⟩
 . obtain ⟨a,ea,h⟩:=oB h
   obtain ⟨c,ec,h⟩:=oB h
   split at h
   . rename_i hc
     cases h
     simp only [Bool.and_eq_true,decide_eq_true_eq] at hc
     cases neg with
     | false=>exact .inr ⟨a,c,jc sg s 24 _ _ _ dv ea,jc sg s 24 _ _ _ du ec,hc.1.1,hc.1.2,hc.2,q⟩
     | true=>exact .inr ⟨a,c,jc sg s 24 _ _ _ dv ea,jc sg s 24 _ _ _ du ec,hc.1.1,hc.1.2,hc.2,q⟩
   . cases h
theorem Dv {neg:Bool} {ta tb:TE} {fa fb:DS->ai->SM W} (ha:SE K cl E ta fa) (hb:SE K cl E tb fb):ST K cl E (kr (oW (AY K neg) ta tb)) (jV neg fa fb):=λ ρ G σ H δ S r' S' Q R e q qx=>
 fV ha hb R e (λ x y S2 e2 v u ρ2 G2 H2 g2 s2 dv du=>by
  obtain ⟨c,e3,rfl,rfl⟩:=bL e2
  exact pC g2.s s2 dv du e3 ⟨c,rfl,q c rfl ρ2 G2 H2 g2 s2⟩) qx
theorem EQ {neg:Bool} {ta tb:TE} {fa fb:DS->ai->SM W} (ha:SE K cl E ta fa) (hb:SE K cl E tb fb):SE K cl E (oW (AY K neg) ta tb) (sB (jV neg fa fb)):=λ ρ G σ H δ S r' S' Q R e q qx=>by
 rcases aK e with ⟨c,em,rfl⟩ | ⟨b,S1,em,e⟩
 . exact fV (r:=Rs.xc c) ha hb R em (λ x y S2 e2=>by obtain ⟨_,_,z,_⟩:=bL e2;cases z) (λ c' hc=>by cases hc;exact qx c rfl)
 . cases e
   exact fV ha hb R em (λ x y S2 e2 v u ρ2 G2 H2 g2 s2 dv du=>by
    obtain ⟨c,e3,z,rfl⟩:=bL e2
    cases z
    exact pC g2.s s2 dv du e3 (q _ rfl _ ρ2 G2 H2 g2 s2 (.bl _))) (λ c hc=>by cases hc)
end
section
variable {K:Frag} {cl:Str->Addr} {E:XK}
noncomputable def gG (f:DS->ai->SM W):DS->ai->SM Bool:=λ δ S=>ak (f δ S) λ x S1=>iR (wX x) S1
theorem C9 {t:TE} {f:DS->ai->SM W} (h:SE K cl E t f):ST K cl E (tB t) (gG f):=λ ρ G σ H δ S r S' Q R e q qx=>
 cP h R e (λ x S1 e1 v ρ1 G1 H1 g1 s1 dv=>by
  obtain ⟨b,e2,rfl,rfl⟩:=bL e1
  cases qC e2
  cases zX dv
  exact ⟨b,rfl,q b rfl ρ1 G1 H1 g1 s1⟩) qx
noncomputable def mY (f g:DS->ai->SM W):DS->ai->SM W:=λ δ S=>ak (f δ S) λ x S1=>(wX x).bind λ b=>if b=true then g δ S1 else some (.ok (.bool false),S1)
noncomputable def GP (f g:DS->ai->SM W):DS->ai->SM W:=λ δ S=>ak (f δ S) λ x S1=>(wX x).bind λ b=>if b=true then some (.ok (.bool true),S1) else g δ S1
noncomputable def Ed (f:DS->ai->SM W):DS->ai->SM W:=λ δ S=>ak (f δ S) λ x S1=>(wX x).map λ b=>(.ok (.bool (!b)),S1)
theorem Aj {t u:TE} {f g:DS->ai->SM W} (h1:SE K cl E t f) (h2:SE K cl E u g):SE K cl E (zj t u) (mY f g):=λ ρ G σ H δ S r S' Q R e q qx=>
 cP h1 R e (λ x S1 e1 v ρ1 G1 H1 g1 s1 dv=>by
  obtain ⟨b,e2,e3⟩:=oB e1
  cases qC e2
  cases zX dv
  refine ⟨b,rfl,?_⟩
  cases b with
  | true=>exact h2 ρ1 G1 σ H1 δ S1 r S' Q (R.grow g1 s1) e3 (λ d hd v ρ2 G2 H2 g2 s2 dv=>q d hd v ρ2 G2 H2 (g1.trans g2) s2 dv) λ c hc ρ2 G2 H2 g2 s2=>qx c hc ρ2 G2 H2 (g1.trans g2) s2
  | false=>cases e3;exact q _ rfl _ ρ1 G1 H1 g1 s1 (.bl _)) qx
theorem yc.ext {ρ ρ1:List Addr} {J:It} {ds:List W} {i:Nat} {G H:Hp} (h:ρ <+: ρ1) (a:yc K ρ J ds i G H):yc K ρ1 J ds i G H:=⟨λ d hd=>⟨(a.1 d hd).1,λ x H' y=>by
 obtain ⟨G',g,dx⟩:=(a.1 d hd).2 x H' y
 exact ⟨G',g,dx.ext h⟩⟩,a.2⟩
theorem rh {S:ai} {n:Nat} {ds:List W} (h:dG S n=some ds):S[n]?=some (.lst ds):=by
 unfold dG at h
 split at h
 . rename_i e;cases h;exact e
 . cases h
inductive Kd where
 | l
 | e
 | d (m:Nat)
noncomputable def Hn:bz->W
 | .inl i=>.int i
 | .inr x=>.str x
noncomputable def lI (S:ai) (n:Nat×Kd):Option (List W):=match n.2 with
 | .l=>dG S n.1
 | .e=>(dG S n.1).map zg
 | .d m=>(pS (.ref n.1) S).bind λ p=>if p.2.length=m then some (p.2.map λ e=>Hn e.1) else none
noncomputable def Hu (K:Frag) (cl:Str->Addr) (ρ:List Addr) (J:It) (n:Nat×Kd):Prop:=
 ∀ (i:Nat) (ρ1:List Addr) (G1 H1:Hp) (S1:ai) (es:List W),ρ <+: ρ1->bg G1 H1->SR K ρ1 cl G1 H1 S1->lI S1 n=some es->yc K ρ1 J es i G1 H1
noncomputable def GD (K:Frag) (cl:Str->Addr) (E:XK) (wi:TI) (f:DS->ai->SM (Nat×Kd)):Prop:=
 ∀ (ρ:List Addr) (G:Hp) (σ:St) (H:Hp) (δ:DS) (S:ai) (r:Rs (Nat×Kd)) (S':ai) (R':It->Hp->Prop),RS K cl ρ G H δ σ S->f δ S=some (r,S')->
  (∀ n,r=.ok n->∀ J ρ' G' H',GS ρ G H ρ' G' H'->SR K ρ' cl G' H' S'->Hu K cl ρ' J n->R' J H')->
  (∀ c,r=.xc c->∀ ρ' G' H',GS ρ G H ρ' G' H'->SR K ρ' cl G' H' S'->E (.ref (cl c)) none H')->wi σ H R'
noncomputable def jI (f:DS->ai->SM W):DS->ai->SM (Nat×Kd):=λ δ S=>ak (f δ S) λ x S1=>(gk x S1).map λ p=>(.ok (p.1,.l),S1)
theorem yN {t:TE} {f:DS->ai->SM W} (h:SE K cl E t f):GD K cl E (wF K t) (jI f):=λ ρ G σ H δ S r S' R' R e q qx=>
 cP h R e (λ x S1 e1 v ρ1 G1 H1 g1 s1 dv=>by
  obtain ⟨⟨n,ds⟩,e2,e3⟩:=oM e1
  cases e3
  obtain ⟨rfl,e4⟩:=cX e2
  obtain ⟨a,rfl,ea⟩:=ck dv
  obtain ⟨ga,vs,k1,k2⟩:=s1.addr e4 ea
  refine ⟨a,rfl,.inl ⟨⟨vs,cY.of k1⟩,q (n,.l) rfl _ ρ1 G1 H1 g1 s1 λ i ρ2 G2 H2 S2 es pr s2 sr he=>?_⟩⟩
  obtain ⟨ga2,vs2,m1,m2⟩:=sr.addr (rh he) (qd pr ea)
  exact nI s2 (cY.of m1) m2) qx
noncomputable def lS (n:Nat×Kd) (h:W->DS->Option DS) (fb:DS->ai->SO):Nat->Nat->DS->ai->SO
 | 0,_,_,_=>none
 | f+1,i,δ,S=>(lI S n).bind λ es=>match es[i]? with
  | none=>some (.nx δ,S)
  | some d=>(h d δ).bind λ δ2=>match fb δ2 S with
   | some (.nx δ',S')=>lS n h fb f (i+1) δ' S'
   | some (.ct δ',S')=>lS n h fb f (i+1) δ' S'
   | some (.bk δ',S')=>some (.nx δ',S')
   | some (.rt d,S')=>some (.rt d,S')
   | some (.xc c,S')=>some (.xc c,S')
   | none=>none
noncomputable def AO (m:Nat) (fi:DS->ai->SM (Nat×Kd)) (h:W->DS->Option DS) (fb:DS->ai->SO):DS->ai->SO:=λ δ S=>hX (fi δ S) λ n S1=>lS n h fb m 0 δ S1
theorem RS.lift {ρ:List Addr} {G H:Hp} {δ:DS} {σ:St} {S:ai} {ix:List (Option Nat)} (hx:sS ix=true) (R:RS K cl ρ G H δ σ S):RS K cl ρ G H (bA ix δ) (lift ix σ) S:=
 ⟨R.rl.lift hx,R.st,λ j ds p h1 h2=>by
  obtain ⟨o,k1,k2⟩:=jG h1
  cases o with
  | none=>cases k2
  | some i=>
   have k3:δ[i]?=some (.own ds):=by
    cases e:δ[i]? with
    | none=>simp [mw,e] at k2
    | some s=>simp [mw,e] at k2;rw [k2]
   rw [lM k1] at h2
   simp only [FM] at h2
   split at h2
   . rename_i w e
     exact R.ap i ds p k3 (by rw [e];simpa using h2)
   . cases h2⟩
noncomputable def cu (h:W->DS->Option DS) (c:DS->ai->SM Bool) (fe:DS->ai->SM W) (δ:DS):List W->ai->SM (List W)
 | [],S=>some (.ok [],S)
 | d::ds,S=>(h d δ).bind λ δ2=>ak (c δ2 S) λ b S1=>if b=true then ak (fe δ2 S1) λ e S2=>ak (cu h c fe δ ds S2) λ es S3=>some (.ok (e::es),S3) else cu h c fe δ ds S1
end
section
variable {K:Frag} {cl:Str->Addr} {E:XK}
noncomputable def nM (ix:List (Option Nat)) (fi:DS->ai->SM (List W)) (h:W->DS->Option DS) (c:DS->ai->SM Bool) (fe:DS->ai->SM W):DS->ai->SM W:=λ δ S=>
 ak (fi δ S) λ ds S0=>if ds.length<=sizeLine then ak (cu h c fe (bA ix δ) ds S0) λ es S1=>some (.ok (.ref S1.length),S1++[.lst es]) else none
theorem ux {ix:List (Option Nat)} {wi:TI} {g:TG} {tc:TT} {te:TE} {fi:DS->ai->SM (List W)} {h:W->DS->Option DS} {c:DS->ai->SM Bool} {fe:DS->ai->SM W}
 (hx:sS ix=true) (hi:FJ K cl E wi fi) (hg:∀ ρ,DG K ρ g h) (hc:ST K cl E tc c) (he:SE K cl E te fe):SE K cl E (lr ix wi g tc te) (nM ix fi h c fe):=λ ρ G σ H δ S r S' Q R e q qx=>by
 rcases aK e with ⟨c0,em,rfl⟩ | ⟨ds,S0,em,e⟩
 . exact hi ρ G σ H δ S _ _ _ R em (λ d hd=>by cases hd) (λ c' hc=>by cases hc;exact qx c0 rfl)
 split at e
 case isFalse=>cases e
 rename_i hz
 refine hi ρ G σ H δ S _ _ _ R em (λ ds' hd=>?_) (λ c' hc=>by cases hc)
 cases hd
 intro J ρ1 G1 H1 gs1 sr1 it
 have R1:=R.grow gs1 sr1
 refine ⟨λ i m ys H2=>m=ds.length-i/\i<=ds.length/\ys.length<=i/\∃ ρ2 G2 as S2,GS ρ1 G1 H1 ρ2 G2 H2/\SR K ρ2 cl G2 H2 S2/\az K ρ2 G2 ys as/\ak (cu h c fe (bA ix δ) (ds.drop i) S2) (λ es S1=>some (.ok (.ref S1.length),S1++[.lst (as++es)]))=some (r,S'),⟨ds.length,by simp,Nat.zero_le _,Nat.le_refl _,ρ1,G1,[],S0,.refl gs1.s,R1.st,.nil,by simpa using e⟩,?_⟩
 rintro i m ys H2 ⟨rfl,hil,hyl,ρ2,G2,as,S2,g2,s2,da,eb⟩
 have ia:=(it i G2 H2 g2.g g2.s).ext g2.r
 have R2:=R1.grow g2 s2
 have g12:=gs1.trans g2
 by_cases hlt:i<ds.length
 . refine .inr ?_
   obtain ⟨go,step⟩:=ia.1 ds[i] (List.getElem?_eq_getElem hlt)
   rw [List.drop_eq_getElem_cons hlt] at eb
   have eb':∃ δ2,h ds[i] (bA ix δ)=some δ2/\ak (ak (c δ2 S2) λ b S1=>if b=true then ak (fe δ2 S1) λ e S2=>ak (cu h c fe (bA ix δ) (ds.drop (i+1)) S2) λ es S3=>some (.ok (e::es),S3) else cu h c fe (bA ix δ) (ds.drop (i+1)) S1) (λ es S1=>some (.ok (.ref S1.length),S1++[.lst (as++es)]))=some (r,S'):=by
    simp only [cu] at eb
    cases e2:h ds[i] (bA ix δ) with
    | none=>rw [e2] at eb;cases eb
    | some δ2=>rw [e2] at eb;exact ⟨δ2,rfl,eb⟩
   obtain ⟨δ2,e2,e3⟩:=eb'
   refine ⟨go,by omega,λ ys' H'=>ys'.length<=i+1/\∃ ρ3 G3 as' S3,GS ρ1 G1 H1 ρ3 G3 H'/\SR K ρ3 cl G3 H' S3/\az K ρ3 G3 ys' as'/\ak (cu h c fe (bA ix δ) (ds.drop (i+1)) S3) (λ es S1=>some (.ok (.ref S1.length),S1++[.lst (as'++es)]))=some (r,S'),λ ys' H' hy0=>by obtain ⟨l,z⟩:=hy0;exact ⟨ds.length-(i+1),by omega,rfl,hlt,l,z⟩,λ x H' y=>?_⟩
   obtain ⟨G3,g3,dx⟩:=step x H' y
   have gs3:GS ρ2 G2 H2 ρ2 G3 H':=.of g3
   have s3:=s2.grow g3
   have R3:=R2.grow gs3 s3
   refine hg ρ2 G3 H' (bA ix δ) _ x _ δ2 _ (R3.lift hx).rl dx e2 λ σ2 R4 o4=>?_
   have RS4:RS K cl ρ2 G3 H' δ2 σ2 S2:=⟨R4,s3,λ j ds' p h1 h2=>by
    obtain ⟨es',m1,m2⟩:=o4 j ds' p h1 h2
    exact (R3.lift hx).ap j es' p m1 m2⟩
   rcases aK e3 with ⟨c',em,rfl⟩ | ⟨es,S5,em,e4⟩
   . -- an exception on the way
     rcases aK em with ⟨c2,en,z⟩ | ⟨b,S4,en,e5⟩
     . cases z
       exact hc ρ2 G3 σ2 H' δ2 S2 _ _ _ RS4 en (λ d hd=>by cases hd) (λ c3 h3 ρ5 G5 H5 g5 s5=>by cases h3;exact qx c' rfl ρ5 G5 H5 (g12.trans (gs3.trans g5)) s5)
     . refine hc ρ2 G3 σ2 H' δ2 S2 _ _ _ RS4 en (λ d hd=>?_) (λ c3 h3=>by cases h3)
       cases hd
       intro ρ5 G5 H5 g5 s5
       have g15:=g2.trans (gs3.trans g5)
       have da5:=((da.ext (gs3.trans g5).r).same (gs3.trans g5).g)
       cases b with
       | false=>exact ⟨by omega,ρ5,G5,as,S4,g15,s5,da5,by rw [show cu h c fe (bA ix δ) (ds.drop (i+1)) S4=some (.xc c',S') from e5];rfl⟩
       | true=>
        rw [if_pos rfl] at e5 ⊢
        rcases aK e5 with ⟨c2,en2,z⟩ | ⟨ev,S6,en2,e6⟩
        . cases z
          exact he ρ5 G5 σ2 H5 δ2 S4 _ _ _ (RS4.grow g5 s5) en2 (λ d hd=>by cases hd) (λ c3 h3 ρ6 G6 H6 g6 s6=>by cases h3;exact qx c' rfl ρ6 G6 H6 (g12.trans (gs3.trans (g5.trans g6))) s6)
        . refine he ρ5 G5 σ2 H5 δ2 S4 _ _ _ (RS4.grow g5 s5) en2 (λ d hd=>?_) (λ c3 h3=>by cases h3)
          cases hd
          intro v ρ6 G6 H6 g6 s6 dv
          rcases aK e6 with ⟨c2,en3,z⟩ | ⟨es2,S7,en3,e7⟩
          . cases z
            exact ⟨by simp;omega,ρ6,G6,as++[ev],S6,g15.trans g6,s6,((da5.ext g6.r).same g6.g).app (.cons dv .nil),by rw [en3];rfl⟩
          . cases e7
   . cases e4
     rcases aK em with ⟨c2,en,z⟩ | ⟨b,S4,en,e5⟩
     . cases z
     . refine hc ρ2 G3 σ2 H' δ2 S2 _ _ _ RS4 en (λ d hd=>?_) (λ c3 h3=>by cases h3)
       cases hd
       intro ρ5 G5 H5 g5 s5
       have g15:=g2.trans (gs3.trans g5)
       have da5:=((da.ext (gs3.trans g5).r).same (gs3.trans g5).g)
       cases b with
       | false=>exact ⟨by omega,ρ5,G5,as,S4,g15,s5,da5,by rw [show cu h c fe (bA ix δ) (ds.drop (i+1)) S4=some (.ok es,S5) from e5];rfl⟩
       | true=>
        rw [if_pos rfl] at e5 ⊢
        rcases aK e5 with ⟨c2,en2,z⟩ | ⟨ev,S6,en2,e6⟩
        . cases z
        . refine he ρ5 G5 σ2 H5 δ2 S4 _ _ _ (RS4.grow g5 s5) en2 (λ d hd=>?_) (λ c3 h3=>by cases h3)
          cases hd
          intro v ρ6 G6 H6 g6 s6 dv
          rcases aK e6 with ⟨c2,en3,z⟩ | ⟨es2,S7,en3,e7⟩
          . cases z
          . cases e7
            exact ⟨by simp;omega,ρ6,G6,as++[ev],S6,g15.trans g6,s6,((da5.ext g6.r).same g6.g).app (.cons dv .nil),by rw [en3];simp [ak]⟩
 . have hi':i=ds.length:=by omega
   subst hi'
   refine .inl ⟨ia.2 (Nat.le_refl _),by omega,λ p hp=>?_⟩
   rw [List.drop_length] at eb
   simp only [cu,ak,List.append_nil] at eb
   cases eb
   have n:Nw H2 (cq H2 p (.lst ys)) p (.lst ys):=.of hp
   obtain ⟨s3,g3⟩:=s2.push (o:=.lst as) g2.s n λ ρ' hr=>⟨ys,aJ,da.ext hr⟩
   exact q _ rfl _ _ _ _ (g12.trans g3) s3 (.ref (by rw [<-s2.len];simp))
noncomputable def bJ (n:Nat×Kd) (h:W->DS->Option DS) (c:DS->ai->SM Bool) (fe:DS->ai->SM W) (δ:DS):Nat->Nat->ai->SM (List W)
 | 0,_,_=>none
 | f+1,i,S=>(lI S n).bind λ es=>match es[i]? with
  | none=>some (.ok [],S)
  | some d=>(h d δ).bind λ δ2=>ak (c δ2 S) λ b S1=>if b=true then ak (fe δ2 S1) λ e S2=>ak (bJ n h c fe δ f (i+1) S2) λ es S3=>some (.ok (e::es),S3) else bJ n h c fe δ f (i+1) S1
noncomputable def lu (m:Nat) (ix:List (Option Nat)) (fi:DS->ai->SM (Nat×Kd)) (h:W->DS->Option DS) (c:DS->ai->SM Bool) (fe:DS->ai->SM W):DS->ai->SM W:=λ δ S=>
 ak (fi δ S) λ n S0=>if m<=sizeLine then ak (bJ n h c fe (bA ix δ) m 0 S0) λ es S1=>some (.ok (.list es),S1) else none
theorem vv {m:Nat} {ix:List (Option Nat)} {wi:TI} {g:TG} {tc:TT} {te:TE} {fi:DS->ai->SM (Nat×Kd)} {h:W->DS->Option DS} {c:DS->ai->SM Bool} {fe:DS->ai->SM W}
 (hx:sS ix=true) (hi:GD K cl E wi fi) (hg:∀ ρ,DG K ρ g h) (hc:ST K cl E tc c) (he:SE K cl E te fe):SE K cl E (lr ix wi g tc te) (lu m ix fi h c fe):=λ ρ G σ H δ S r S' Q R e q qx=>by
 rcases aK e with ⟨c0,em,rfl⟩ | ⟨n,S0,em,e⟩
 . exact hi ρ G σ H δ S _ _ _ R em (λ d hd=>by cases hd) (λ c' hc=>by cases hc;exact qx c0 rfl)
 split at e
 case isFalse=>cases e
 rename_i hz
 refine hi ρ G σ H δ S _ _ _ R em (λ n' hn=>?_) (λ c' hc=>by cases hc)
 cases hn
 intro J ρ1 G1 H1 gs1 sr1 it
 have R1:=R.grow gs1 sr1
 refine ⟨λ i k ys H2=>k+i=m/\ys.length<=i/\∃ ρ2 G2 as S2,GS ρ1 G1 H1 ρ2 G2 H2/\SR K ρ2 cl G2 H2 S2/\az K ρ2 G2 ys as/\ak (bJ n h c fe (bA ix δ) k i S2) (λ es S1=>some (.ok (.list (as++es)),S1))=some (r,S'),⟨m,by simp,Nat.le_refl _,ρ1,G1,[],S0,.refl gs1.s,R1.st,.nil,by simpa using e⟩,?_⟩
 rintro i k ys H2 ⟨hk,hyl,ρ2,G2,as,S2,g2,s2,da,eb⟩
 have R2:=R1.grow g2 s2
 have g12:=gs1.trans g2
 cases k with
 | zero=>cases eb
 | succ k=>
  have eb0:∃ es0,lI S2 n=some es0:=by
   cases hl:lI S2 n with
   | none=>simp only [bJ,hl] at eb;cases eb
   | some es0=>exact ⟨es0,rfl⟩
  obtain ⟨es0,hl⟩:=eb0
  have ia:=it i ρ2 G2 H2 S2 es0 g2.r g2.s s2 hl
  cases hd:es0[i]? with
  | none=>
   refine .inl ⟨ia.2 (List.getElem?_eq_none_iff.mp hd),by omega,λ p hp=>?_⟩
   simp only [bJ,hl,Option.bind_some,hd,ak,List.append_nil] at eb
   cases eb
   have nn:Nw H2 (cq H2 p (.lst ys)) p (.lst ys):=.of hp
   have g3:=Gr.nw g2.s nn
   exact q _ rfl _ ρ2 _ _ (g12.trans (.of g3)) (s2.grow g3) (.lst (cY.of aJ) (da.same g3.g))
  | some d0=>
   refine .inr ?_
   obtain ⟨go,step⟩:=ia.1 d0 hd
   have eb':∃ δ2,h d0 (bA ix δ)=some δ2/\ak (ak (c δ2 S2) λ b S1=>if b=true then ak (fe δ2 S1) λ e S2=>ak (bJ n h c fe (bA ix δ) k (i+1) S2) λ es S3=>some (.ok (e::es),S3) else bJ n h c fe (bA ix δ) k (i+1) S1) (λ es S1=>some (.ok (.list (as++es)),S1))=some (r,S'):=by
    simp only [bJ,hl,Option.bind_some,hd] at eb
    cases e2:h d0 (bA ix δ) with
    | none=>rw [e2] at eb;cases eb
    | some δ2=>rw [e2] at eb;exact ⟨δ2,rfl,eb⟩
   obtain ⟨δ2,e2,e3⟩:=eb'
   refine ⟨go,by omega,λ ys' H'=>ys'.length<=i+1/\∃ ρ3 G3 as' S3,GS ρ1 G1 H1 ρ3 G3 H'/\SR K ρ3 cl G3 H' S3/\az K ρ3 G3 ys' as'/\ak (bJ n h c fe (bA ix δ) k (i+1) S3) (λ es S1=>some (.ok (.list (as'++es)),S1))=some (r,S'),λ ys' H' hy0=>by obtain ⟨l,z⟩:=hy0;exact ⟨k,Nat.lt_succ_self _,by omega,l,z⟩,λ x H' y=>?_⟩
   obtain ⟨G3,g3,dx⟩:=step x H' y
   have gs3:GS ρ2 G2 H2 ρ2 G3 H':=.of g3
   have s3:=s2.grow g3
   have R3:=R2.grow gs3 s3
   refine hg ρ2 G3 H' (bA ix δ) _ x _ δ2 _ (R3.lift hx).rl dx e2 λ σ2 R4 o4=>?_
   have RS4:RS K cl ρ2 G3 H' δ2 σ2 S2:=⟨R4,s3,λ j ds' p h1 h2=>by
    obtain ⟨es',m1,m2⟩:=o4 j ds' p h1 h2
    exact (R3.lift hx).ap j es' p m1 m2⟩
   rcases aK e3 with ⟨c',em,rfl⟩ | ⟨es,S5,em,e4⟩
   . -- an exception on the way
     rcases aK em with ⟨c2,en,z⟩ | ⟨b,S4,en,e5⟩
     . cases z
       exact hc ρ2 G3 σ2 H' δ2 S2 _ _ _ RS4 en (λ d hd=>by cases hd) (λ c3 h3 ρ5 G5 H5 g5 s5=>by cases h3;exact qx c' rfl ρ5 G5 H5 (g12.trans (gs3.trans g5)) s5)
     . refine hc ρ2 G3 σ2 H' δ2 S2 _ _ _ RS4 en (λ d hd=>?_) (λ c3 h3=>by cases h3)
       cases hd
       intro ρ5 G5 H5 g5 s5
       have g15:=g2.trans (gs3.trans g5)
       have da5:=((da.ext (gs3.trans g5).r).same (gs3.trans g5).g)
       cases b with
       | false=>exact ⟨by omega,ρ5,G5,as,S4,g15,s5,da5,by rw [show bJ n h c fe (bA ix δ) k (i+1) S4=some (.xc c',S') from e5];rfl⟩
       | true=>
        rw [if_pos rfl] at e5 ⊢
        rcases aK e5 with ⟨c2,en2,z⟩ | ⟨ev,S6,en2,e6⟩
        . cases z
          exact he ρ5 G5 σ2 H5 δ2 S4 _ _ _ (RS4.grow g5 s5) en2 (λ d hd=>by cases hd) (λ c3 h3 ρ6 G6 H6 g6 s6=>by cases h3;exact qx c' rfl ρ6 G6 H6 (g12.trans (gs3.trans (g5.trans g6))) s6)
        . refine he ρ5 G5 σ2 H5 δ2 S4 _ _ _ (RS4.grow g5 s5) en2 (λ d hd=>?_) (λ c3 h3=>by cases h3)
          cases hd
          intro v ρ6 G6 H6 g6 s6 dv
          rcases aK e6 with ⟨c2,en3,z⟩ | ⟨es2,S7,en3,e7⟩
          . cases z
            exact ⟨by simp;omega,ρ6,G6,as++[ev],S6,g15.trans g6,s6,((da5.ext g6.r).same g6.g).app (.cons dv .nil),by rw [en3];rfl⟩
          . cases e7
   . cases e4
     rcases aK em with ⟨c2,en,z⟩ | ⟨b,S4,en,e5⟩
     . cases z
     . refine hc ρ2 G3 σ2 H' δ2 S2 _ _ _ RS4 en (λ d hd=>?_) (λ c3 h3=>by cases h3)
       cases hd
       intro ρ5 G5 H5 g5 s5
       have g15:=g2.trans (gs3.trans g5)
       have da5:=((da.ext (gs3.trans g5).r).same (gs3.trans g5).g)
       cases b with
       | false=>exact ⟨by omega,ρ5,G5,as,S4,g15,s5,da5,by rw [show bJ n h c fe (bA ix δ) k (i+1) S4=some (.ok es,S') from e5];rfl⟩
       | true=>
        rw [if_pos rfl] at e5 ⊢
        rcases aK e5 with ⟨c2,en2,z⟩ | ⟨ev,S6,en2,e6⟩
        . cases z
        . refine he ρ5 G5 σ2 H5 δ2 S4 _ _ _ (RS4.grow g5 s5) en2 (λ d hd=>?_) (λ c3 h3=>by cases h3)
          cases hd
          intro v ρ6 G6 H6 g6 s6 dv
          rcases aK e6 with ⟨c2,en3,z⟩ | ⟨es2,S7,en3,e7⟩
          . cases z
          . cases e7
            exact ⟨by simp;omega,ρ6,G6,as++[ev],S6,g15.trans g6,s6,((da5.ext g6.r).same g6.g).app (.cons dv .nil),by rw [en3];simp [ak]⟩
end
theorem Ci {K:Frag} {cl:Str->Addr} {G H:Hp}:SR K [] cl G H []:=⟨rfl,List.nodup_nil,λ n o e=>by simp at e⟩
end L2
set_option Elab.async false
set_option linter.all false
set_option maxRecDepth 100000
namespace L2
open PySem PySem.Spec PyProof.Rows PySem.AutoSeq1
open PySem.W (Frag)
section
variable {X:Cx}
end
section
variable {K:Frag} {ρ:List Addr}
theorem l0 {G:Hp}:∀ ws:List Str,az K ρ G (ws.map V.str) (ws.map W.str)
 | []=>.nil
 | w::ws=>.cons (.str w) (l0 ws)
theorem pW {H:Hp} {x:V} {d:W} {a:Addr} {ws:List Str} {b:Bool} (h:fS K H a (ws.map V.str)) (hx:Dw K ρ H x d) (e:mJ d (.tuple (ws.map W.str))=some b):fu x=true/\(ws.map V.str).all fu=true/\DH x (ws.map V.str)=b:=by
 obtain ⟨ds,e1,e⟩:=oB e
 obtain ⟨v,e2,e⟩:=oB e
 obtain ⟨vs,e3,rfl⟩:=oM e
 cases e1
 obtain ⟨rfl,f1⟩:=qV hx e2
 obtain ⟨rfl,f2⟩:=nU (K:=K) (ρ:=ρ) (H:=H) (l0 ws) e3
 exact ⟨f1,f2,rfl⟩
theorem vh {neg:Bool} {ta:TE} {fa:DS->Option W} {a:Addr} {ws:List Str} (hs:∀ G,fS K G a (ws.map V.str)) (ha:DK K ρ ta fa) {G:Hp} {σ:St} {H:Hp} {δ:DS} {b:Bool} {Q:VK} (R:Rl K ρ G H δ σ) (e:aB (if neg then wp else mJ) fa (dC (.tuple (ws.map W.str))) δ=some b) (q:∀ G' H',Gr G H G' H'->Q (.bl b) H'):oW (CM K neg) ta (tC (.ref a)) σ H Q:=by
 obtain ⟨x,ex,e⟩:=oB e
 have e:(if neg then wp else mJ) x (.tuple (ws.map W.str))=some b:=e
 refine ha G σ H δ x _ R ex λ v G1 H1 g1 dv=>?_
 have dv:=dv.dp g1.s
 cases neg with
 | false=>
  obtain ⟨f1,f2,rfl⟩:=pW (hs H1) dv e
  exact ⟨a,_,rfl,.inr (hs H1),f1,f2,q G1 H1 g1⟩
 | true=>
  obtain ⟨b',e',rfl⟩:=oM e
  obtain ⟨f1,f2,rfl⟩:=pW (hs H1) dv e'
  exact ⟨a,_,rfl,.inr (hs H1),f1,f2,q G1 H1 g1⟩
theorem AG {ta:TE} {fa:DS->Option W} {a:Addr} {ws:List Str} (hs:∀ G,fS K G a (ws.map V.str)) (ha:DK K ρ ta fa):DT K ρ (kr (oW (CM K false) ta (tC (.ref a)))) (aB mJ fa (dC (.tuple (ws.map W.str)))):=λ G σ H δ b Q R e q=>
 vh (neg:=false) hs ha R e λ G' H' g=>⟨b,rfl,q G' H' g⟩
end
structure p8 (K:Frag) (x q:Str) (st:Stmt) (f:Addr) (fd:FuncData):Prop where
 ex:∃ (dV oc kV dc pm cd ct:Value) (od an:Option Addr) (sl:Array (Option Value)),fd=PySem.W.fnOf x q (aX st) (aM st) (au st) dV kV dc pm an cd ct/\K.lookup f=some ⟨oc,od,.func fd,sl⟩/\PySem.W.codeIn K cd q=true
 kp:PySem.W.keepIn K (.ref f)=true
theorem p8.ok {P:Program} {w:World} {K:Frag} {mg:Str->Option Value} {base:Heap} {x q:Str} {st:Stmt} {f:Addr} {fd:FuncData} {N ps:List Str} {k:Nat} {sp:Sp} (F:p8 K x q st f fd) (S:cZ N ps (au st)) (hl:∀ vs H Q E,sp vs H Q E->vs.length=ps.length)
 (hb:∀ (cd:Value) (A:Around) (outer:List Env) (s:Shared) (H:Hp) (vs:List V) (Q:VK) (E:XK),bR k (A.deeper (envOfC q (au st) s.heap.objs.size f cd))->sp vs H Q E->
  ∃ t,kN (fw rG P w K mg base N q (au st) f cd A outer s H E).nox (aM st) t/\t ({ nx:=λ _ H'=>Q V.non H',rt:=Q }:gY) (start N vs) H):dU P w K mg base rG (k+1) f fd ps sp:=by
 obtain ⟨dV,oc,kV,dc,pm,cd,ct,od,an,sl,rfl,lk,hc⟩:=F.ex
 refine zl lk hc S hl λ A outer s H vs Q E hr hs=>?_
 obtain ⟨t,h,r⟩:=hb cd A outer s H vs Q E hr hs
 exact ⟨t,h.nox,r⟩
theorem bo {K:Frag} {x q:Str} {st:Stmt} {f:Addr} {dV oc kV dc pm cd ct:Value} {od an:Option Addr} {sl:Array (Option Value)} (l:K.lookup f=some ⟨oc,od,.func (PySem.W.fnOf x q (aX st) (aM st) (au st) dV kV dc pm an cd ct),sl⟩) (c:PySem.W.codeIn K cd q=true) (k:PySem.W.keepIn K (.ref f)=true):p8 K x q st f (PySem.W.fnOf x q (aX st) (aM st) (au st) dV kV dc pm an cd ct):=⟨⟨dV,oc,kV,dc,pm,cd,ct,od,an,sl,rfl,l,c⟩,k⟩
section
variable {K:Frag} {ρ:List Addr}
end
noncomputable def zG (i j:Int):Bool:=decide (0<=j)&&decide (j<=1000)&&decide (i.natAbs<2^64)
noncomputable def je:W->W->Option W:=yw zG λ i j=>i^j.toNat
theorem AB {K:Frag} {ρ:List Addr}:DR K ρ (rI E9 λ i j=>.int (i^j.toNat)) je:=sJ λ i j h=>by
 simp only [zG,Bool.and_eq_true,decide_eq_true_eq] at h
 exact ⟨h.1.1,by omega,h.2⟩
section
variable {K:Frag} {cl:Str->Addr} {E:XK}
noncomputable def si:List W->Option (List bz)
 | []=>some []
 | d::ds=>(kZ d).bind λ k=>(si ds).map (k::·)
noncomputable def rD:W->Option (List bz)
 | .tuple ds=>si ds
 | _=>none
theorem uI {ρ:List Addr} {G:Hp} {vs:List V} {ds:List W} {ks:List bz} (h:az K ρ G vs ds):si ds=some ks->vs=ks.map kV:=
 h.ind (M:=λ vs ds=>∀ ks,si ds=some ks->vs=ks.map kV) (λ ks e=>by cases e;rfl) (λ _ _ _ _ a ih ks e=>by
  obtain ⟨k,e1,e⟩:=oB e
  obtain ⟨ks,e2,rfl⟩:=oM e
  rw [lL a e1,ih _ e2]
  rfl) ks
theorem nz {ρ:List Addr} {G:Hp} {v:V} {d:W} {ks:List bz} (h:Dw K ρ G v d) (e:rD d=some ks):∃ b,v=.ref b/\G b=some (.tup (ks.map kV)):=by
 cases h with
 | tup sq da=>exact ⟨_,rfl,by rw [<-uI da e];exact sq⟩
 | _=>cases e
noncomputable def pw (x y:W) (S:ai):Option (Option W):=match iZ x S with
 | some (_,.dK kvs)=>(kZ y).map λ k=>fE kvs k
 | some (_,.dT kvs)=>(rD y).map λ k=>fE kvs k
 | _=>none
theorem sf {ρ:List Addr} {G H:Hp} {S:ai} {v u:V} {x y:W} {o:Option W} (sg:bg G H) (s:SR K ρ cl G H S) (dv:Dw K ρ G v x) (du:Dw K ρ G u y) (h:pw x y S=some o):∃ a r,v=.ref a/\kF H a u r/\(match o with | some d=>∃ z,r=some z/\Dw K ρ G z d | none=>r=none):=by
 unfold pw at h
 split at h
 . rename_i n kvs e1
   obtain ⟨k,e3,e4⟩:=oM h
   obtain ⟨rfl,e5⟩:=et e1
   obtain ⟨a,rfl,ea⟩:=ck dv
   obtain ⟨ga,ws,k1,k2⟩:=s.addr e5 ea
   obtain ⟨v1,v2⟩:=k2.val (k:=k)
   refine ⟨a,iG ws k,rfl,?_,?_⟩
   . rw [lL du e3]
     exact kF.k k1
   . cases o with
     | some d=>exact v1 d e4
     | none=>exact v2 e4
 . rename_i n kvs e1
   obtain ⟨k,e3,e4⟩:=oM h
   obtain ⟨rfl,e5⟩:=et e1
   obtain ⟨a,rfl,ea⟩:=ck dv
   obtain ⟨ga,ws,k1,k2⟩:=s.addr e5 ea
   obtain ⟨v1,v2⟩:=k2.val (k:=k)
   obtain ⟨b,rfl,hb⟩:=nz du e3
   refine ⟨a,iG ws k,rfl,kF.t k1 (sg _ _ hb),?_⟩
   . cases o with
     | some d=>exact v1 d e4
     | none=>exact v2 e4
 . cases h
noncomputable def jA (fo fk:DS->ai->SM W):DS->ai->SM W:=λ δ S=>ak (fo δ S) λ x S1=>ak (fk δ S1) λ y S2=>(pw x y S2).bind λ o=>iR o S2
theorem yZ {to tk:TE} {fo fk:DS->ai->SM W} (ho:SE K cl E to fo) (hk:SE K cl E tk fk):SE K cl E (zE to tk) (jA fo fk):=λ ρ G σ H δ S r S' Q R e q qx=>
 fV ho hk R e (λ x y S2 e2 v u ρ2 G2 H2 g2 s2 dv du=>by
  obtain ⟨o,e3,e4⟩:=oB e2
  obtain ⟨d,rfl,rfl,rfl⟩:=bL e4
  obtain ⟨a,r,rfl,h1,z,rfl,h2⟩:=sf g2.s s2 dv du e3
  exact ⟨a,z,rfl,h1,q d rfl z ρ2 G2 H2 g2 s2 h2⟩) qx
noncomputable def ur (x y d:W) (S:ai):Option ai:=match iZ x S with
 | some (n,.dK kvs)=>(kZ y).bind λ k=>if kvs.length<sizeLine then some (S.set n (.dK (fH kvs k d))) else none
 | some (n,.dT kvs)=>(rD y).bind λ k=>if kvs.length<sizeLine then some (S.set n (.dT (fH kvs k d))) else none
 | _=>none
theorem xU {ρ:List Addr} {G H:Hp} {S S':ai} {v u w:V} {x y d:W} (sg:bg G H) (s:SR K ρ cl G H S) (dv:Dw K ρ G v x) (du:Dw K ρ G u y) (dw:Dw K ρ G w d) (h:ur x y d S=some S'):∃ a H',v=.ref a/\nG H a u w H'/\SR K ρ cl G H' S'/\GS ρ G H ρ G H':=by
 unfold ur at h
 split at h
 . rename_i n kvs e1
   obtain ⟨k,e3,e4⟩:=oB h
   split at e4
   case isFalse=>cases e4
   rename_i hl
   cases e4
   obtain ⟨rfl,e5⟩:=et e1
   obtain ⟨a,rfl,ea⟩:=ck dv
   obtain ⟨ga,ws,k1,k2⟩:=s.addr e5 ea
   obtain ⟨s4,g4⟩:=s.put (x:=.dK (gu ws k w)) (o':=.dK (fH kvs k d)) sg e5 ea (λ b z=>by cases z) ⟨_,aJ,k2.put dw⟩
   refine ⟨a,_,rfl,?_,s4,g4⟩
   rw [lL du e3]
   exact nG.k k1 (by rw [<-k2.length];exact hl)
 . rename_i n kvs e1
   obtain ⟨k,e3,e4⟩:=oB h
   split at e4
   case isFalse=>cases e4
   rename_i hl
   cases e4
   obtain ⟨rfl,e5⟩:=et e1
   obtain ⟨a,rfl,ea⟩:=ck dv
   obtain ⟨ga,ws,k1,k2⟩:=s.addr e5 ea
   obtain ⟨s4,g4⟩:=s.put (x:=.dT (gu ws k w)) (o':=.dT (fH kvs k d)) sg e5 ea (λ b z=>by cases z) ⟨_,aJ,k2.put dw⟩
   obtain ⟨b,rfl,hb⟩:=nz du e3
   exact ⟨a,_,rfl,nG.t k1 (sg _ _ hb) (by rw [<-k2.length];exact hl),s4,g4⟩
 . cases h
noncomputable def lE (fo fk fv:DS->ai->SM W):DS->ai->SO:=λ δ S=>hX (fv δ S) λ d S1=>hX (fo δ S1) λ x S2=>hX (fk δ S2) λ y S3=>(ur x y d S3).map λ S4=>(.nx δ,S4)
theorem sw {to tk tv:TE} {fo fk fv:DS->ai->SM W} (ho:SE K cl E to fo) (hk:SE K cl E tk fk) (hv:SE K cl E tv fv):jh K cl E (zY to tk tv) (lE fo fk fv):=λ ρ0 G0 H0 ρ G σ H δ S o S' D I e p=>
 eQ hv I e p λ d S1 e1 v ρ1 G1 H1 g1 s1 dv=>by
  have I1:=I.grow g1 s1
  refine eQ ho I1 e1 p λ x S2 e2 u ρ2 G2 H2 g2 s2 du=>?_
  have I2:=I1.grow g2 s2
  refine eQ hk I2 e2 p λ y S3 e3 w ρ3 G3 H3 g3 s3 dw=>?_
  obtain ⟨S4,e4,e5⟩:=oM e3
  cases e5
  have g23:=g2.trans g3
  obtain ⟨a,H4,rfl,h1,s4,g4⟩:=xU g3.s s3 ((du.ext g3.r).same g3.g) dw ((dv.ext g23.r).same g23.g) e4
  exact ⟨a,_,rfl,h1,p σ ρ3 G3 _ ((I2.grow g3 s3).grow g4 s4)⟩
end
theorem bR.units1 {k:Nat} {A:Around} (r:bR k A):A.units+1<cLine:=Nat.lt_of_le_of_lt (by omega) r.units
section
variable {K:Frag} {cl:Str->Addr} {E:XK}
noncomputable def vy (fo:DS->ai->SM W):DS->ai->SM W:=λ δ S=>ak (fo δ S) λ x S1=>(gk x S1).bind λ p=>(p.2[p.2.length-1]?).map λ d=>(.ok d,S1.set p.1 (.lst p.2.dropLast))
theorem az.dropL {ρ:List Addr} {G:Hp} {vs:List V} {ds:List W} (h:az K ρ G vs ds):az K ρ G vs.dropLast ds.dropLast:=by rw [List.dropLast_eq_take,List.dropLast_eq_take,h.length];exact h.take _
theorem Ba {to:TE} {fo:DS->ai->SM W} (ho:SE K cl E to fo):SE K cl E (xj K "list" Ct to) (vy fo):=λ ρ G σ H δ S r' S' Q R e q qx=>
 cP ho R e (λ x S2 e2 v ρ2 G2 H2 g2 s2 dv=>by
  obtain ⟨⟨n,ds⟩,e3,e4⟩:=oB e2
  obtain ⟨d,e5,e6⟩:=oM e4
  cases e6
  obtain ⟨rfl,e7⟩:=cX e3
  obtain ⟨a,rfl,ea⟩:=ck dv
  obtain ⟨ga,vs,k1,k2⟩:=s2.addr e7 ea
  obtain ⟨z,h1,h2⟩:=k2.get e5
  obtain ⟨s4,g4⟩:=s2.put (x:=.lst vs.dropLast) (o':=.lst ds.dropLast) g2.s e7 ea (λ b z=>by cases z) ⟨_,aJ,k2.dropL⟩
  exact ⟨.inl ⟨rfl,vs,cY.of k1⟩,a,vs,z,rfl,rfl,k1,by rw [k2.length];exact h1,q d rfl z ρ2 G2 _ (g2.trans g4) s4 h2⟩) qx
end
noncomputable def v3:List V->Hp->VK->Prop:=λ xs H Q=>∃ i j,xs=[.int i,.int j]/\Q (.int (if j>i then j else i)) H
theorem rF {X:Cx} (hc:X.calm=true):dJ X (.builtin "max") v3:=tu hc
noncomputable def iT:List W->Option W
 | [.int i,.int j]=>some (.int (if j>i then j else i))
 | _=>none
noncomputable def dC2 (g:List W->Option W) (fa:DS->Option (List W)):DS->Option W:=λ δ=>(fa δ).bind g
section
variable {K:Frag} {ρ:List Addr}
theorem wB {G:Hp} {vs:List V} {i j:Int} (h:az K ρ G vs [.int i,.int j]):vs=[.int i,.int j]:=by
 cases h with
 | cons a t=>
  cases a
  cases t with
  | cons b u=>cases b;cases u;rfl
theorem xW {t:TA} {fa:DS->Option (List W)} (h:DA K ρ t fa):DE K ρ (uj v3 t) (dC2 iT fa):=λ G σ H δ d Q R e q=>by
 obtain ⟨ds,ed,e⟩:=oB e
 refine h G σ H δ ds _ R ed λ vs G1 H1 g1 da=>?_
 unfold iT at e
 split at e
 . cases e
   exact ⟨_,_,wB da,q _ G1 H1 g1 (.int _)⟩
 . cases e
end
section
variable {K:Frag} {cl:Str->Addr} {E:XK}
end
open PySem.AutoSeq1 (wpAny_loadPart')
section
variable {prog:Program} {w:World} {A:Around} {E:Value->Shared->Prop} {s:Shared}
end
open PySem.AutoSeq1 (wpAny_loadPart')
section
variable {prog:Program} {w:World} {A:Around} {E:Value->Shared->Prop} {s:Shared}
end
section
variable {M:Model} {A:Around} {E:Value->Shared->Prop} {s:Shared} {env:Env}
end
section
variable {K:Frag} {ρ:List Addr}
noncomputable def Eg:W->Option (List W)
 | .tuple ds=>some ds
 | _=>none
theorem BH (ds:List W):Eg (.tuple ds)=some ds:=rfl
noncomputable def Gn (f:DS->Option W) (lo hi:DS->Option (Option Int)):DS->Option W:=λ δ=>(f δ).bind λ d=>(Eg d).bind λ ds=>(lo δ).bind λ l=>(hi δ).map λ u=>.tuple (rE ds l u)
noncomputable def rO (T:String):W->Option W
 | .list _=>if T = "list" then some (.bool true) else none
 | .tuple _=>if T = "tuple" then some (.bool true) else none
 | d=>iY T d
theorem CJ (ds:List W):rO "list" (.list ds)=some (.bool true):=by simp [rO]
theorem Cr (ds:List W):rO "tuple" (.tuple ds)=some (.bool true):=by simp [rO]
end
section
variable {K:Frag} {cl:Str->Addr} {E:XK}
end
theorem FE {X:Cx} {K:Frag} {e:Expr} {f:Str} {pos:Pos} {ta:TE} (hK:X.K=K) (he:PE X e ta) (hb:attributeBase e f X.env (eval e X.env)=eval e X.env):PE X (.Attribute e f pos) (BP K ta f):=hK▸Bp he hb
theorem CK {α:Type} (x y:α) (r:List α):gW (x::y::r) 1=some y:=by
 unfold gW wW
 rw [if_pos (by decide),if_pos (by simp;omega)]
 rfl
theorem Ec {α:Type} (x:α) (r:List α):gW (x::r) 0=some x:=by
 unfold gW wW
 rw [if_pos (by decide),if_pos (by simp)]
 rfl
theorem sz (n:Nat) (h:n<=9000):n<=sizeLine:=Nat.le_trans h (by decide)
theorem ip {S:ai} {l:Nat} {es:List W} (h:S[l]?=some (.lst es)):gk (.ref l) S=some (l,es):=by simp [gk,iZ,h]
theorem vS {S:ai} {l:Nat} {es:List (bz×W)} (h:S[l]?=some (.dK es)):pS (.ref l) S=some (l,es):=by simp [pS,iZ,h]
theorem ue {κ:Type} [DecidableEq κ] {kvs:List (κ×W)} {k:κ} (x:W) (h:fE kvs k=none):fH kvs k x=kvs++[(k,x)]:=by
 unfold fH
 rw [if_neg]
 intro ha
 obtain ⟨kv,h1,h2⟩:=List.any_eq_true.mp ha
 unfold fE at h
 have h3:kvs.find? (λ kv=>decide (kv.1=k))=none:=by
  cases hf:kvs.find? (λ kv=>decide (kv.1=k)) with
  | none=>rfl
  | some z=>rw [hf] at h;cases h
 exact absurd h2 (by simpa using List.find?_eq_none.mp h3 kv h1)
theorem wE (B:List Int) (i:Int) (h0:0<=i) (h1:i<B.length):gW (B.map W.int) i=some (.int (B[i.toNat]?.getD 0)):=by
 unfold gW wW
 rw [if_pos h0,if_pos (by simpa using h1)]
 have h2:i.toNat<B.length:=by omega
 simp [List.getElem?_eq_getElem h2]
theorem tN (lo:Int) (n:Nat):kz lo (n+1)=.int lo::kz (lo+1) n:=by
 unfold kz
 rw [List.range_succ_eq_map,List.map_cons,List.map_map]
 congr 1
 . simp
 . apply List.map_congr_left
   intro a _
   show W.int (lo+((a+1:Nat):Int))=W.int (lo+1+(a:Int))
   congr 1
   omega
theorem nX (h:W->DS->Option DS) (fe:DS->ai->SM W) (δ δ2:DS) (d e:W) (ds es:List W) (S S1 S2:ai) (h1:h d δ=some δ2) (h2:fe δ2 S=some (.ok e,S1)) (h3:cu h (ac hJ) fe δ ds S1=some (.ok es,S2)):cu h (ac hJ) fe δ (d::ds) S=some (.ok (e::es),S2):=by
 show (h d δ).bind _=_
 rw [h1]
 show ak (fe δ2 S) _=_
 rw [h2]
 show ak (cu h (ac hJ) fe δ ds S1) _=_
 rw [h3]
 rfl
theorem aA {a n:Nat} {fb:DS->ai->SO} {ds:List W} {S:ai} (h:ds.length=a):bi a n fb ds S=bn (fb (dL n ds) S):=if_pos h
theorem ag {f g:DS->ai->SO} {δ δ':DS} {S S':ai} (h:f δ S=some (.nx δ',S')):ar f g δ S=g δ' S':=by unfold ar;rw [h]
theorem fq {c:DS->ai->SM Bool} {f g:DS->ai->SO} {δ:DS} {S S1:ai} (h:c δ S=some (.ok true,S1)):cM c f g δ S=f δ S1:=by unfold cM;rw [h];rfl
theorem dr {c:DS->ai->SM Bool} {f g:DS->ai->SO} {δ:DS} {S S1:ai} (h:c δ S=some (.ok false,S1)):cM c f g δ S=g δ S1:=by unfold cM;rw [h];rfl
theorem cU {f:DS->ai->SM W} {h:W->DS->Option DS} {δ δ':DS} {S S1:ai} {d:W} (h1:f δ S=some (.ok d,S1)) (h2:h d δ=some δ'):cK f h δ S=some (.nx δ',S1):=by
 unfold cK
 rw [h1]
 show (h d δ).map _=_
 rw [h2]
 rfl
theorem li {fi:DS->ai->SM (List W)} {h:W->DS->Option DS} {fb:DS->ai->SO} {δ:DS} {S S1:ai} {ds:List W} (h1:fi δ S=some (.ok ds,S1)):lQ fi h fb δ S=fL h fb ds δ S1:=by unfold lQ;rw [h1];rfl
theorem lG {h:W->DS->Option DS} {fb:DS->ai->SO} {d:W} {ds:List W} {δ δ2 δ':DS} {S S':ai} (h1:h d δ=some δ2) (h2:fb δ2 S=some (.nx δ',S')):fL h fb (d::ds) δ S=fL h fb ds δ' S':=by
 show (h d δ).bind _=_
 rw [h1]
 show (match fb δ2 S with | some (.nx δ',S')=>_ | some (.ct δ',S')=>_ | some (.bk δ',S')=>_ | some (.rt d,S')=>_ | some (.xc c,S')=>_ | none=>_)=_
 rw [h2]
theorem yA {j:Int} (h1:0<=j) (h2:j<1000000):so [.int j]=some (kz 0 j.toNat):=by
 show tj j=_
 unfold tj
 rw [if_pos (ww (by omega) (by omega))]
theorem bX (i:Int) {j:Int} (h:0<j):0<=i.fmod j/\i.fmod j<j:=⟨Int.fmod_nonneg_of_pos i h,Int.fmod_lt_of_pos i h⟩
mutual
noncomputable def lH:W->Bool
 | .none | .bool _ | .int _=>true
 | .str x=>PyData.strOk x
 | .list ds | .tuple ds=>iF ds
 | .ref _=>false
noncomputable def iF:List W->Bool
 | []=>true
 | d::ds=>lH d&&iF ds
end
mutual
noncomputable def ge:W->Nat
 | .list ds | .tuple ds=>fm ds+1
 | _=>0
noncomputable def fm:List W->Nat
 | []=>0
 | d::ds=>max (ge d) (fm ds)
end
mutual
theorem rB:∀ (d:W),lH d=true->∃ a,d.py=some a/\a.canLay0=true/\a.depth=ge d/\PyData.eqv a a=true
 | .none,_=>⟨.none,rfl,by simp [PyData.canLay0],by simp [PyData.depth,ge],by simp [PyData.eqv]⟩
 | .bool b,_=>⟨.bool b,rfl,by simp [PyData.canLay0],by simp [PyData.depth,ge],by simp [PyData.eqv]⟩
 | .int i,_=>⟨.int i,rfl,by simp [PyData.canLay0],by simp [PyData.depth,ge],by simp [PyData.eqv]⟩
 | .str x,h=>⟨.str x,rfl,by simpa [PyData.canLay0,lH] using h,by simp [PyData.depth,ge],by simp [PyData.eqv]⟩
 | .list ds,h=>by
  obtain ⟨xs,e1,e2,e3,e4⟩:=jo ds (by simpa [lH] using h)
  exact ⟨.list xs,by simp [W.py,e1],by simpa [PyData.canLay0] using e2,by simp [PyData.depth,ge,e3],by simpa [PyData.eqv] using e4⟩
 | .tuple ds,h=>by
  obtain ⟨xs,e1,e2,e3,e4⟩:=jo ds (by simpa [lH] using h)
  exact ⟨.tuple xs,by simp [W.py,e1],by simpa [PyData.canLay0] using e2,by simp [PyData.depth,ge,e3],by simpa [PyData.eqv] using e4⟩
 | .ref _,h=>by simp [lH] at h
theorem jo:∀ (ds:List W),iF ds=true->∃ xs,W.pys ds=some xs/\PyData.canLayAll0 xs=true/\PyData.depthAll xs=fm ds/\PyData.eqvAll xs xs=true
 | [],_=>⟨[],rfl,by simp [PyData.canLayAll0],by simp [PyData.depthAll,fm],by simp [PyData.eqvAll]⟩
 | d::ds,h=>by
  have h':lH d=true/\iF ds=true:=by simpa [iF] using h
  obtain ⟨a,a1,a2,a3,a4⟩:=rB d h'.1
  obtain ⟨xs,e1,e2,e3,e4⟩:=jo ds h'.2
  exact ⟨a::xs,by simp [W.pys,a1,e1],by simp [PyData.canLayAll0,a2,e2],by simp [PyData.depthAll,fm,a3,e3],by simp [PyData.eqvAll,a4,e4]⟩
end
theorem pY {d:W} (h:lH d=true) (b:Bool) (e:FU d d=some b):b=true:=by
 cases d with
 | none=>exact (Option.some.inj e).symm
 | int i=>exact (Option.some.inj e).symm.trans (by simp)
 | bool i=>exact (Option.some.inj e).symm.trans (by simp)
 | str i=>exact (Option.some.inj e).symm.trans (by simp)
 | _=>cases e
theorem ul {d:W} (h:lH d=true) (hd:ge d<=64):d8 d d=some true:=by
 obtain ⟨a,a1,a2,a3,a4⟩:=rB d h
 unfold d8
 split
 . rename_i b e
   rw [pY h b e]
 . simp [a1,a2,a3,a4,hd]
theorem wK {d:W} (h:lH d=true) (hd:ge d<=64):qj d d=some false:=by
 unfold qj
 rw [ul h hd]
 rfl
mutual
theorem ot (S:ai):∀ (n:Nat) (d:W),lH d=true->ge d<n->mC S n d=d.py
 | 0,d,_,h=>absurd h (Nat.not_lt_zero _)
 | n+1,.none,_,_=>rfl
 | n+1,.bool b,_,_=>rfl
 | n+1,.int i,_,_=>rfl
 | n+1,.str x,_,_=>rfl
 | n+1,.list ds,h,hd=>by
  show (jN (mC S n) ds).map PyData.list=(W.pys ds).map .list
  rw [j8 S n ds (by simpa [lH] using h) (by simp [ge] at hd;omega)]
 | n+1,.tuple ds,h,hd=>by
  show (jN (mC S n) ds).map PyData.tuple=(W.pys ds).map .tuple
  rw [j8 S n ds (by simpa [lH] using h) (by simp [ge] at hd;omega)]
 | n+1,.ref m,h,_=>by simp [lH] at h
theorem j8 (S:ai):∀ (n:Nat) (ds:List W),iF ds=true->fm ds<n->jN (mC S n) ds=W.pys ds
 | n,[],_,_=>rfl
 | n,d::ds,h,hd=>by
  have h':lH d=true/\iF ds=true:=by simpa [iF] using h
  simp only [fm] at hd
  show (mC S n d).bind _=(W.py d).bind _
  rw [ot S n d h'.1 (by omega),j8 S n ds h'.2 (by omega)]
end
theorem nL {S:ai} {l:Nat} {ds:List W} (neg:Bool) (h:S[l]?=some (.lst ds)) (hk:iF ds=true) (hd:fm ds<23):kR neg (.ref l) (.list ds) S=some (!neg):=by
 obtain ⟨xs,e1,e2,e3,e4⟩:=jo ds hk
 have p1:mC S 24 (.ref l)=some (.list xs):=by
  show (dG S l).bind _=_
  rw [show dG S l=some ds by simp [dG,h]]
  show (jN (mC S 23) ds).map PyData.list=_
  rw [j8 S 23 ds hk hd,e1]
  rfl
 have p2:mC S 24 (.list ds)=some (.list xs):=by
  rw [ot S 24 (.list ds) (by simpa [lH] using hk) (by simp [ge];omega)]
  simp [W.py,e1]
 unfold kR
 show (mC S 24 (.ref l)).bind _=_
 rw [p1,p2]
 cases neg <;> simp [PyData.canLay0,e2,PyData.depth,e3,PyData.eqv,e4] <;> omega
theorem uq {S:ai} {d:W} (neg:Bool) (h:lH d=true) (hd:ge d<24):kR neg d d S=some (!neg):=by
 obtain ⟨a,a1,a2,a3,a4⟩:=rB d h
 unfold kR
 split
 . rename_i b e
   rw [pY h b e]
   cases neg <;> rfl
 . rw [ot S 24 d h hd,a1]
   cases neg <;> simp [a2,a3,a4] <;> omega
theorem yF {α:Type} (l:List α) (k:Nat) (h:k<l.length):gW l (k:Int)=l[k]?:=by
 unfold gW wW
 rw [if_pos (by omega),if_pos (by omega)]
 simp
theorem EV {α:Type} (a b c:α) (r:List α):gW (a::b::c::r) 2=some c:=(yF _ 2 (by simp)).trans rfl
theorem Da {α:Type} (a b c d:α) (r:List α):gW (a::b::c::d::r) 3=some d:=(yF _ 3 (by simp)).trans rfl
theorem Aq {α:Type} (a b c d e:α) (r:List α):gW (a::b::c::d::e::r) 4=some e:=(yF _ 4 (by simp)).trans rfl
theorem IK {α:Type} (l:List α) (k:Nat) (h0:0<k) (h:k<=l.length):gW l (-(k:Int))=l[l.length-k]?:=by
 unfold gW wW
 rw [if_neg (by omega),if_pos (by omega)]
 have e2:(-(k:Int)+(l.length:Int)).toNat=l.length-k:=by omega
 simp [e2]
theorem Cm (l:List W) (a b:Nat):rE l (some (a:Int)) (some (b:Int))=(l.drop a).take (b-a):=by
 unfold rE
 rw [HT.sIx_nat,HT.sIx_nat]
 rcases Nat.lt_or_ge l.length a with h | h
 . rw [List.drop_of_length_le (Nat.le_of_lt h),show min a l.length=l.length by omega,List.drop_length]
   simp
 . rw [show min a l.length=a by omega]
   rcases Nat.lt_or_ge l.length b with h2 | h2
   . rw [show min b l.length=l.length by omega,List.take_of_length_le (by simp),List.take_of_length_le (by simp;omega)]
   . rw [show min b l.length=b by omega]
theorem b4 {f:DS->ai->SM W} {δ:DS} {S S1:ai} {d:W} (h:f δ S=some (.ok d,S1)):bB f δ S=some (.nx δ,S1):=by unfold bB;rw [h];rfl
theorem eJ {f:List W->ai->SM W} {fa:DS->ai->SM (List W)} {δ:DS} {S S1 S2:ai} {ds:List W} {d:W} (h1:fa δ S=some (.ok ds,S1)) (h2:f ds S1=some (.ok d,S2)):bV f fa δ S=some (.ok d,S2):=by
 unfold bV
 rw [h1]
 show noX (f ds S1)=_
 rw [h2]
 rfl
theorem aC {α:Type} {f:DS->Option α} {δ:DS} {S:ai} {d:α} (h:f δ=some d):ac f δ S=some (.ok d,S):=by unfold ac;rw [h];rfl
theorem ax {f:DS->Option eI} {δ δ':DS} {S:ai} (h:f δ=some (.nx δ')):aq f δ S=some (.nx δ',S):=by unfold aq;rw [h];rfl
theorem eA {f:DS->Option eI} {δ:DS} {S:ai} {d:W} (h:f δ=some (.rt d)):aq f δ S=some (.rt d,S):=by unfold aq;rw [h];rfl
theorem eO {f g:DS->ai->SO} {δ:DS} {S S':ai} {d:W} (h:f δ S=some (.rt d,S')):ar f g δ S=some (.rt d,S'):=by unfold ar;rw [h]
theorem bT {f:DS->ai->SM W} {δ:DS} {S S1:ai} {d:W} (h:f δ S=some (.ok d,S1)):dI f δ S=some (.rt d,S1):=by unfold dI;rw [h];rfl
theorem aZ {f:DS->ai->SM W} {g:DS->ai->SM (List W)} {δ:DS} {S S1 S2:ai} {d:W} {ds:List W} (h1:f δ S=some (.ok d,S1)) (h2:g δ S1=some (.ok ds,S2)):aG f g δ S=some (.ok (d::ds),S2):=by
 unfold aG
 rw [h1]
 show ak (g δ S1) _=_
 rw [h2]
 rfl
theorem jt {c:Str} {f:List W->ai->SM W} {fa:DS->ai->SM (List W)} {δ:DS} {S S1 S2:ai} {ds:List W} (h1:fa δ S=some (.ok ds,S1)) (h2:f (.ref S1.length::ds) (S1++[.ins c []])=some (.ok .none,S2)):iQ c f fa δ S=some (.ok (.ref S1.length),S2):=by
 simp only [iQ,h1,ak,h2,noX]
theorem qX {f g:DS->ai->SM Bool} {δ:DS} {S S1:ai} (h1:f δ S=some (.ok false,S1)):mr f g δ S=some (.ok false,S1):=by simp only [mr,h1,ak,Bool.false_eq_true,if_false]
theorem qJ {f g:DS->ai->SM Bool} {δ:DS} {S S1 S2:ai} {b:Bool} (h1:f δ S=some (.ok true,S1)) (h2:g δ S1=some (.ok b,S2)):mr f g δ S=some (.ok b,S2):=by simp only [mr,h1,ak,if_true,h2]
theorem Hs {α:Type} (q:List α) (b:α):gW (q++[b]) (-1)=some b:=by
 have:=IK (q++[b]) 1 (by decide) (by simp)
 simpa using this
theorem Dc {S:ai} {l:Nat} {es:List W} (h:S[l]?=some (.lst es)) (i:Int):qY (.ref l) (.int i) S=gW es i:=by simp only [qY,ip h,zo,Option.bind_some]
noncomputable def uD:=And.intro @dX.eq_1 <| And.intro @yq.eq_1 <| And.intro @yq.eq_2 <| And.intro @yq.eq_3 <| And.intro @dL.eq_1 <| And.intro @aH.eq_1 <| And.intro @aY.eq_1 <| And.intro @cG.eq_1 <| And.intro @bc.eq_1 <| And.intro @oe.eq_1 <| And.intro @aV.eq_1 <| And.intro @lB.eq_1 <| And.intro @sj.eq_1 <| And.intro @frz.eq_1 <| And.intro @lX.eq_1 <| And.intro @bF.eq_1 <| And.intro @Am.eq_1 <| And.intro @mK.eq_1 <| And.intro @af.eq_1 <| And.intro @aw.eq_1 <| And.intro @dC.eq_1 <| And.intro @av.eq_1 <| And.intro @aB.eq_1 <| And.intro @dB.eq_1 <| And.intro @lJ.eq_1 <| And.intro @sN.eq_1 <| And.intro @De.eq_1 <| And.intro @EF.eq_1 <| And.intro @G7.eq_1 <| And.intro @pc.eq_1 <| And.intro @qm.eq_1 <| And.intro @aP.eq_1 <| And.intro @aa.eq_1 <| And.intro @ah.eq_1 <| And.intro @ba.eq_1 <| And.intro @bH.eq_1 <| And.intro @b0.eq_1 <| And.intro @iN.eq_1 <| And.intro @hV.eq_1 <| And.intro @dm.eq_1 <| And.intro @aj.eq_1 <| And.intro @jx.eq_1 <| And.intro @jx.eq_2 <| And.intro @eh.eq_1 <| And.intro @eh.eq_2 <| And.intro @ke.eq_1 <| And.intro @ke.eq_2 <| And.intro @we.eq_1 <| And.intro @jT.eq_1 <| And.intro @x6.eq_1 <| And.intro @DM.eq_1 <| And.intro @Bo.eq_1 <| And.intro @kO.eq_1 <| And.intro @Dm.eq_1 <| And.intro @bA.eq_1 <| And.intro @mw.eq_1 <| And.intro @mw.eq_2 <| And.intro @hJ.eq_1 <| And.intro @CQ.eq_1 <| And.intro @Gn.eq_1 <| And.intro @BH <| And.intro @Bd <| And.intro @Ag <| And.intro @g9 <| And.intro @bw <| And.intro @A4 <| And.intro @vP <| And.intro @zo <| And.intro @yf <| And.intro @BV <| And.intro @BL <| And.intro @AQ <| And.intro @Bk <| And.intro @zC <| And.intro @ni <| And.intro @Du <| And.intro @Et <| And.intro @Ek <| And.intro @E5 <| And.intro @jS <| And.intro @zm <| And.intro @zI <| And.intro @EO <| And.intro @Fe <| And.intro @y4 <| And.intro @xD <| And.intro @xV <| And.intro @xt <| And.intro @xP <| And.intro @AS <| And.intro @CG <| And.intro @Bs <| And.intro @Ao <| And.intro @Cz <| And.intro @xY <| And.intro @va <| And.intro @yJ <| And.intro @CJ <| And.intro @Cr <| And.intro @List.length_cons.{0} <| And.intro @List.length_nil.{0} <| And.intro @List.map_cons.{0,0} <| And.intro @List.map_nil.{0,0} <| And.intro @List.nil_append.{0} <| And.intro @List.cons_append.{0} <| And.intro @List.getElem?_cons_zero.{0} <| And.intro @List.getElem?_cons_succ.{0} <| And.intro @List.set_cons_zero.{0} <| And.intro @List.set_cons_succ.{0} <| And.intro @Option.bind_some.{0,0} <| And.intro @Option.map_some.{0,0} <| And.intro @Option.bind_none.{0,0} <| And.intro @Option.map_none.{0,0} <| And.intro @Option.getD_some.{0} <| And.intro @Option.getD_none.{0} <| And.intro @if_true.{1} <| And.intro @decide_true <| And.intro @decide_false <| And.intro @Bool.not_true <| And.intro @Bool.not_false <| And.intro @Bool.false_eq_true <| And.intro @ne_eq.{1} <| @not_false_eq_true
noncomputable def uS:=And.intro @bi.eq_1 <| And.intro @bn.eq_1 <| And.intro @bn.eq_2 <| And.intro @bn.eq_3 <| And.intro @bn.eq_4 <| And.intro @ar.eq_1 <| And.intro @cM.eq_1 <| And.intro @dI.eq_1 <| And.intro @cK.eq_1 <| And.intro @bB.eq_1 <| And.intro @aq.eq_1 <| And.intro @hX.eq_1 <| And.intro @hX.eq_2 <| And.intro @hX.eq_3 <| And.intro @ak.eq_1 <| And.intro @ak.eq_2 <| And.intro @ak.eq_3 <| And.intro @iR.eq_1 <| And.intro @ac.eq_1 <| And.intro @ao.eq_1 <| And.intro @bU.eq_1 <| And.intro @bV.eq_1 <| And.intro @i7.eq_1 <| And.intro @noX.eq_1 <| And.intro @noX.eq_2 <| And.intro @vY.eq_1 <| And.intro @vY.eq_2 <| And.intro @vY.eq_3 <| And.intro @vY.eq_4 <| And.intro @bM.eq_1 <| And.intro @aG.eq_1 <| And.intro @gG.eq_1 <| And.intro @io.eq_1 <| And.intro @mr.eq_1 <| And.intro @oU.eq_1 <| And.intro @mY.eq_1 <| And.intro @GP.eq_1 <| And.intro @Ed.eq_1 <| And.intro @sB.eq_1 <| And.intro @lC.eq_1 <| And.intro @Jw.eq_1 <| And.intro @Ge.eq_1 <| And.intro @uA.eq_1 <| And.intro @cS.eq_1 <| And.intro @gB.eq_1 <| And.intro @mU.eq_1 <| And.intro @sIx.eq_1 <| And.intro @qY.eq_1 <| And.intro @GX.eq_1 <| And.intro @sD.eq_1 <| And.intro @sD.eq_2 <| And.intro @sD.eq_3 <| And.intro @jV.eq_1 <| And.intro @iU.eq_1 <| And.intro @jI.eq_1 <| And.intro @AO.eq_1 <| And.intro @lu.eq_1 <| @Option.map_eq_map.{0}
section
variable {X:Cx}
end
section
variable {K:Frag} {cl:Str->Addr} {E:XK}
end
section
variable {prog:Program} {w:World} {A:Around} {E:Value->Shared->Prop} {s:Shared}
variable {es:Array DictEntry} {ep:Nat} {key:Value} {h:Int} {m:Nat->Bool} {d:Addr} {o:Obj}
end
section
variable {P:Program} {w:World} {A:Around} {E:Value->Shared->Prop} {s:Shared}
noncomputable def nD (ks:List bz):Nat:=ks.length+1
end
section
variable {P:Program} {w:World} {H:Hp} {h:Heap} {a:Addr}
end
section
variable {X:Cx} {pins:List (Addr×Obj)} {σ:St} {H:Hp} {s:Shared} {a:Addr} {kvs:List (List bz×V)} {ks:List bz} {y z:V} {u dv:Value} {A:Around} {E:Value->Shared->Prop}
end
section
variable {X:Cx} {o e f:Expr} {td ty tx:TE} {apos cpos pos:Pos}
end
section
variable {K:Frag} {cl:Str->Addr} {E:XK}
noncomputable def zF (K:Frag) (t:TE):TT:=λ σ H Q=>t σ H λ x H'=>∃ k,BZ K x H' k/\Q k H'
theorem Fo {X:Cx} {a:Expr} {ta:TE} (hK:X.K=K) (ha:PE X a ta) (he:∀ whole,isTrue a X.env whole=(do let v <-whole;standAt a.pos;holding [v] (truthy v))):PT X a (zF K ta):=hK▸vI ha he
noncomputable def ko (f:DS->ai->SM W):DS->ai->SM Bool:=λ δ S=>ak (f δ S) λ x S1=>iR ((gk x S1).map λ p=>!p.2.isEmpty) S1
theorem xk {t:TE} {f:DS->ai->SM W} (h:SE K cl E t f):ST K cl E (zF K t) (ko f):=λ ρ G σ H δ S r S' Q R e q qx=>
 cP h R e (λ x S1 e1 v ρ1 G1 H1 g1 s1 dv=>by
  obtain ⟨b,e2,rfl,rfl⟩:=bL e1
  obtain ⟨⟨n,ds⟩,e3,rfl⟩:=oM e2
  obtain ⟨rfl,e4⟩:=cX e3
  obtain ⟨a,rfl,ea⟩:=ck dv
  obtain ⟨ga,vs,k1,k2⟩:=s1.addr e4 ea
  have hl:vs.isEmpty=ds.isEmpty:=by
   have:=k2.length
   cases vs <;> cases ds <;> simp_all
  exact ⟨!ds.isEmpty,.inl ⟨vs,cY.of k1,by rw [hl]⟩,q _ rfl ρ1 G1 H1 g1 s1⟩) qx
end
section
variable {P:Program} {w:World} {A:Around} {E:Value->Shared->Prop} {s:Shared} {d:Addr} {o:Obj} {es:Array DictEntry} {ep:Nat}
end
section
variable {K:Frag} {cl:Str->Addr} {E:XK}
end
section
variable {X:Cx} {K:Frag}
end
section
variable {K:Frag} {ρ:List Addr}
end
section
variable {K:Frag} {ρ:List Addr}
end
section
variable {X:Cx} {K:Frag}
end
section
variable {K:Frag} {cl:Str->Addr} {E:XK}
noncomputable def yL (f:W->Option W):List W->Option (List W)
 | []=>some []
 | d::ds=>(f d).bind λ x=>(yL f ds).map (x::·)
noncomputable def rW (F:Nat->Option (List W)):Nat->W->Option W
 | 0,_=>none
 | n+1,d=>match d with
  | .ref k=>(F k).bind λ ds=>(yL (rW F n) ds).map .list
  | .list ds=>(yL (rW F n) ds).map .list
  | .tuple ds=>(yL (rW F n) ds).map .tuple
  | d=>some d
end
noncomputable def EE (K:Frag) (mg:Str->Option Value) (x:Str) (ps:List Str) (us:List Value) (f:Addr) (fd:FuncData):Prop:=mg x=some (.ref f)/\PySem.W.keepIn K (.ref f)=true/\aR K fd ps []/\aR K fd ps us
noncomputable def Ce (R:Addr->FuncData->Prop) (P:Program) (w:World) (K:Frag) (mg:Str->Option Value) (base:Heap) (k:Nat) (ps:List Str) (sp:Sp):Prop:=∃ f fd,R f fd/\dU P w K mg base rG k f fd ps sp
noncomputable def jl (R:Addr->FuncData->Prop) (K:Frag) (x q:Str) (st:Stmt):Prop:=∃ f fd,p8 K x q st f fd/\R f fd
noncomputable abbrev qU (K:Frag) (mg:Str->Option Value) (x:Str) (ps:List Str) (us:List Value) (st:Stmt):Prop:=jl (EE K mg x ps us) K x x st
noncomputable abbrev qN (P:Program) (w:World) (K:Frag) (mg:Str->Option Value) (base:Heap) (x:Str) (ps:List Str) (us:List Value) (k:Nat) (sp:Sp):Prop:=Ce (EE K mg x ps us) P w K mg base k ps sp
section
variable {X:Cx} {x:Str} {o e:Expr} {es:List Expr} {t:TA} {ps:List Str} {us:List Value} {sp:Sp} {p pos:Pos} {K:Frag} {T:String} {name:Str} {r:V->List V->Hp->VK->Prop} {q:List V->Hp->VK->Prop} {to:TE} {apos:Pos}
noncomputable def Il (X:Cx) (x:Str) (us:List Value) (sp:Sp):Prop:=∃ j k ps,Ce (EE X.K X.mg x ps us) X.prog X.w X.K X.mg X.base j ps sp/\bR k X.A/\j<=k
theorem Iw (h:∃ us,Il X x us sp) (hg:Gl X x) (ha:PA X (e::es) t) (hd:(x==("__debug__" : Str))=false)
 (he:starEach (e::es) X.env=(false,eval e X.env)::starEach es X.env) (hp:(backTo pos (starEach es X.env)).any (·.1)=false):PE X (.Call (.Name x p) (e::es) [] pos) (qe sp [] E0 t):=by
 obtain ⟨us,j,k,ps,⟨f,fd,⟨m,kp,b,_⟩,F⟩,hr,hl⟩:=h
 exact yb (F.mono hl) hr hg m kp b .nil Dx ha hd he hp
noncomputable def QM (X:Cx) (T:String) (name:Str) (r:V->List V->Hp->VK->Prop):Prop:=∃ id,PlainAttrs T/\Slot T name id/\typeOf (.builtin id)=pure (.type "method_descriptor")/\Df X id r
noncomputable def QB (X:Cx) (x:Str) (q:List V->Hp->VK->Prop):Prop:=∃ id,dJ X (.builtin id) q/\bootBuiltins x=some (.builtin id)
theorem HS:QM X "list" "append" kH:=⟨_,PySem.F.plainAttrs_list,PySem.F.slot_list_append,PySem.F.type_list_append,ug⟩
theorem IA:QM X "list" "pop" Ct:=⟨_,PySem.F.plainAttrs_list,PySem.F.slot_list_pop,PySem.F.type_list_pop,B3⟩
theorem HI (h:X.K=K):QB X "len" (sE K):=⟨_,uc h,PySem.boot_len⟩
theorem IF:QB X "isinstance" BN:=⟨_,tY,boot_isinstance⟩
theorem HY (h:X.K=K) (hm:QM X T name r) (ho:PE X o to) (hb:attributeBase o name X.env (eval o X.env)=eval o X.env) (hl:(apos.endLine==pos.line)=true):PE X (.Call (.Attribute o name apos) [] [] pos) (xj K T r to):=by
 obtain ⟨_,a,b,c,d⟩:=hm
 exact xE h a b c d ho hb hl
theorem Ic (h:X.K=K) (hm:QM X T name r) (ho:PE X o to) (ha:PA X (e::es) t) (hb:attributeBase o name X.env (eval o X.env)=eval o X.env)
 (hf:((backTo pos (starEach (e::es) X.env)).all (λ x=>!x.1)&&(backToKw pos (keywordEach [] X.env)).all (λ x=>x.1.isSome)
  && decide ((e::es).length+([]:List Keyword).length+(if ([]:List Keyword).isEmpty then 0 else 1)<30))=true)
 (hl:(apos.endLine==pos.line)=true) (hs:starEach (e::es) X.env=(false,eval e X.env)::starEach es X.env) (hp:(backTo pos (starEach es X.env)).any (·.1)=false):
 PE X (.Call (.Attribute o name apos) (e::es) [] pos) (E2 K T r to t):=by
 obtain ⟨_,a,b,c,d⟩:=hm
 exact A3 h a b c d ho ha hb hf hl hs hp
theorem IE (hq:QB X x q) (hg:Gl X x) (hm:X.mg x=none) (ha:PA X (e::es) t) (hn:x ≠ "__name__") (hd:(x==("__debug__" : Str))=false)
 (he:starEach (e::es) X.env=(false,eval e X.env)::starEach es X.env) (hp:(backTo pos (starEach es X.env)).any (·.1)=false):PE X (.Call (.Name x p) (e::es) [] pos) (uj q t):=by
 obtain ⟨_,a,b⟩:=hq
 exact wu a hg hm b ha hn hd he hp
theorem HN (h:X.K=K) (hg:Gl X "list") (hm:X.mg "list" = none) (ha:PA X (e::es) t)
 (he:starEach (e::es) X.env=(false,eval e X.env)::starEach es X.env) (hp:(backTo pos (starEach es X.env)).any (·.1)=false):PE X (.Call (.Name "list" p) (e::es) [] pos) (uj (oz K) t):=nq (mB h) hg hm boot_list ha (by decide) (by decide) he hp
end
section
variable {X:Cx} {x:Str} {us:List Value} {sp:Sp} {j k:Nat} {ps:List Str} {pos:Pos}
theorem Hm (h:Ce (EE X.K X.mg x ps us) X.prog X.w X.K X.mg X.base j ps sp) (hr:bR k X.A) (hl:j<=k):∃ us,Il X x us sp:=⟨us,j,k,ps,h,hr,hl⟩
theorem IQ (hg:Gl X "int") (hm:X.mg "int" = none):PE X (.Name "int" pos) (tC (.ty "int")):=sk hg hm (by decide +kernel:bootBuiltins "int" = some (.type "int")) rfl (by decide) (by decide)
theorem Ji (hg:Gl X "bool") (hm:X.mg "bool" = none):PE X (.Name "bool" pos) (tC (.ty "bool")):=sk hg hm boot_bool' rfl (by decide) (by decide)
theorem Dg {a b c:Prop} (h:b):a∨b∨c:=.inr (.inl h)
end
noncomputable def cN (N:List Str):List (Option Nat)->List Str->List Str
 | some i::r,u=>N.getD i "" :: cN N r u
 | _,u=>u
section
variable {X:Cx} {scope:Scope} {ix:List (Option Nat)} {z:Str} {zp:Pos} {iter elt:Expr} {ifs:List Expr} {wi:TI} {g:TG} {tc:TT} {te:TE} {pos py spos:Pos} {y:Str} {i:Nat}
theorem zT {N:List Str} (kind:scope.kind=.function) (nocell:(scope.names.all λ y=>y.2 != .cell)=true) (locs:(scope.names.all λ y=>y.2 != .local||scope.names.lookup y.1==some .local)=true)
 (free:(scope.names.all λ y=>y.2 != .free||X.env.kindOf y.1==some .cell||X.env.kindOf y.1==some .free)=true) (len:ix.length=N.length) (nd:decide N.Nodup=true)
 (fr:((ix.zip N).all λ p=>match p.1 with
  | none=>true
  | some i=>X.N[i]?==some p.2&&(X.env.kindOf p.2==some .cell||X.env.kindOf p.2==some .free)&&((relabel scope X.env).names.lookup p.2==some .cell||(relabel scope X.env).names.lookup p.2==some .free))=true):bD X scope N ix:=qE kind nocell locs free len (of_decide_eq_true nd) fr
noncomputable abbrev HU (X:Cx) (scope:Scope) (ix:List (Option Nat)) (z:Str) (zp:Pos) (elt:Expr) (ifs:List Expr) (g:TG) (tc:TT) (te:TE):Prop:=∀ (s₀:Shared) (H₀:Hp) (C:Addr) (ex:List Addr),(cN X.N ix [z]).Nodup->PG (bE X scope (cN X.N ix [z]) s₀ H₀ C ex) (.Name z zp) g/\qR (bE X scope (cN X.N ix [z]) s₀ H₀ C ex) ifs tc/\PE (bE X scope (cN X.N ix [z]) s₀ H₀ C ex) elt te
theorem Ey (S:bD X scope (cN X.N ix [z]) ix) (hn:decide (cN X.N ix [z]).Nodup=true) (hc:X.calm=true) (hi:PI X (.Name z zp) iter wi) (hG:lq ix g) (hb:HU X scope ix z zp elt ifs g tc te)
 (hs:∀ x,foldedSetIterable iter X.env x=pure x):PE X (.ListComp elt [⟨.Name z zp,iter,ifs,0⟩] scope pos) (lr ix wi g tc te):=yP S hc hi hG (λ a b c d=>hb a b c d (of_decide_eq_true hn)) hs
theorem ut (hN:X.N.Nodup) (hi:X.N[i]?=some y) (hy:At X.env.scope y) (S:bD X scope (cN X.N ix [z]) ix) (hn:decide (cN X.N ix [z]).Nodup=true) (hc:X.calm=true) (hit:PI X (.Name z zp) iter wi) (hG:lq ix g) (hb:HU X scope ix z zp elt ifs g tc te)
 (hsw:swapsWith (.ListComp elt [⟨.Name z zp,iter,ifs,0⟩] scope pos) (some (.Name y py)) spos.line X.env=pure true) (hs:∀ x,foldedSetIterable iter X.env x=pure x) (hf:X.fn y=true∨X.env.scope.names.lookup y=some .local):
 PS X (.Assign [.Name y py] (.ListComp elt [⟨.Name z zp,iter,ifs,0⟩] scope pos) spos) (rp (lr ix wi g tc te) (jU i)):=xT hN hi hy S hc hit hG (λ a b c d=>hb a b c d (of_decide_eq_true hn)) hsw hs hf
end
noncomputable abbrev Gp (P:Program) (w:World) (K:Frag) (mg:Str->Option Value) (base:Heap) (N:List Str) (q:Str) (st:Stmt) (k:Nat) (t:TS):Prop:=∀ (f:Addr) (cd:Value) (A:Around) (outer:List Env) (s:Shared) (H:Hp) (E:XK),N.Nodup->bR k (A.deeper (envOfC q (au st) s.heap.objs.size f cd))->(A.deeper (envOfC q (au st) s.heap.objs.size f cd)).units+64<cLine->(A.deeper (envOfC q (au st) s.heap.objs.size f cd)).units+1<cLine->
 kN (fw rG P w K mg base N q (au st) f cd A outer s H E).nox (aM st) t
section
variable {P:Program} {w:World} {K:Frag} {mg:Str->Option Value} {base:Heap} {cl:Str->Addr} {R:Addr->FuncData->Prop} {x q:Str} {st:Stmt} {N ps:List Str} {a n k:Nat} {t:TS} {sp:Sp}
theorem D5 (D:jl R K x q st) (S:cZ N ps (au st)) (hl:∀ vs H Q E,sp vs H Q E->vs.length=ps.length) (rd:∀ vs H Q E,sp vs H Q E->t ({ nx:=λ _ H'=>Q V.non H',rt:=Q }:gY) (start N vs) H)
 (pe:Gp P w K mg base N q st k t):Ce R P w K mg base (k+1) ps sp:=by
 obtain ⟨f,fd,F,r⟩:=D
 exact ⟨f,fd,r,F.ok S hl λ cd A outer s H vs Q E hr h=>⟨t,pe f cd A outer s H E S.nd hr hr.units hr.units1,rd vs H Q E h⟩⟩
theorem mv {fb:DS->Option eI} {g:List W->Option W} (D:jl R K x q st) (hg:g=dX a n fb) (de:∀ ρ,kP K ρ t fb)
 (pe:Gp P w K mg base N q st k t) (hN:N.length=n) (ha:ps.length=a) (S:cZ N ps (au st)):Ce R P w K mg base (k+1) ps (qZ K g):=by
 subst hg ha
 exact D5 D S (λ vs H Q E h=>y3 (λ ds d e=>mX e) h) (λ vs H Q E h=>Hj hN de h) pe
theorem fB {fb:DS->ai->SO} {g:List W->ai->SM W} (D:jl R K x q st) (hg:g=bi a n fb) (de:jh K cl E0 t fb)
 (pe:Gp P w K mg base N q st k t) (hN:N.length=n) (ha:ps.length=a) (S:cZ N ps (au st)):Ce R P w K mg base (k+1) ps (iP K cl g):=by
 subst hg ha
 exact D5 D S (λ vs H Q E h=>rY (λ ds S r e=>iA e) h) (λ vs H Q E h=>zU hN de h) pe
theorem Ce.imp {sq:Sp} (h:Ce R P w K mg base k ps sp) (i:∀ vs H Q E,sq vs H Q E->sp vs H Q E):Ce R P w K mg base k ps sq:=by
 obtain ⟨f,fd,r,F⟩:=h
 exact ⟨f,fd,r,F.imp i⟩
noncomputable def An (K:Frag) (x:Str) (st:Stmt) (dV:Value):Prop:=∃ (f:Addr) (oc:Value) (od:Option Addr) (kV dc pm:Value) (an:Option Addr) (cd ct:Value) (sl:Array (Option Value)),
 PySem.W.nsIn K mainGlobals x=some (some (.ref f))/\K.lookup f=some ⟨oc,od,.func (PySem.W.fnOf x x (aX st) (aM st) (au st) dV kV dc pm an cd ct),sl⟩/\PySem.W.codeIn K cd x=true/\PySem.W.keepIn K (.ref f)=true
theorem An.dn {h:Heap} (X:K.In h) (G:h.Ns mainGlobals mg) (z:An K x st .none) (hb:∀ (kV dc pm:Value) (an:Option Addr) (cd ct:Value) (us:List Value),us.length=ps.length->bindArgs (PySem.W.fnOf x x (aX st) (aM st) (au st) .none kV dc pm an cd ct) ⟨us,[]⟩=pure (ps.zip us)):
 jl (EE K mg x ps []) K x x st:=by
 obtain ⟨f,oc,od,kV,dc,pm,an,cd,ct,sl,m,l,c,kp⟩:=z
 have b:aR K _ ps []:=(bN l c kp).binds hb
 exact ⟨f,_,bo l c kp,PySem.W.mg_of X G m,kp,b,b⟩
end
section
variable {K:Frag} {cl:Str->Addr} {E:XK}
end
section
variable {prog:Program} {w:World} {A:Around} {E:Value->Shared->Prop} {s:Shared} {d it:Addr} {es:Array DictEntry} {ep i:Nat}
end
section
variable {K:Frag} {cl:Str->Addr} {E:XK} {ρ:List Addr}
end
section
variable {K:Frag} {cl:Str->Addr} {E:XK}
end
section
variable {X:Cx} {e:Expr} {es:List Expr} {t:TA} {p pos:Pos}
end
section
variable {X:Cx} {pos:Pos}
end
section
variable {K:Frag} {cl:Str->Addr} {E:XK}
end
section
variable {X:Cx}
end
noncomputable abbrev mroEx:List Value:=[.type "Exception", .type "BaseException", .type "object"]
noncomputable def XClE (K:Frag) (C:Addr):Prop:=PySem.W.excIn K C mroEx "Exception.__new__" = true
theorem XClE.parts {K:Frag} {C:Addr} {hh:Heap} (q:XClE K C) (X:K.In hh):∃ tl N nm qn bs hdct sn sub ab col dd k0 k1 k2 k3 k5 mN,
 hh.get? C=some (excClassObj nm qn C N bs tl hdct sn sub ab col dd k0 k1 k2 k3 k5 "Exception.__new__")/\hh.Ns N mN/\mN "__init__" = none/\OwnTail hh mroEx tl:=by
 unfold XClE PySem.W.excIn at q
 split at q <;> try (cases q;done)
 split at q <;> try (cases q;done)
 rename_i dct cdat slots look0 l1 l2 D tail a0 a1 a2 a3 nid a5 hmro hslots
 rw [Bool.and_eq_true,Bool.and_eq_true,Bool.and_eq_true,Bool.and_eq_true,Bool.and_eq_true] at q
 obtain ⟨⟨⟨⟨⟨q1,q2⟩,q3⟩,q4⟩,q5⟩,q6⟩:=q
 have z1:D=C:=by simpa using q1
 have z2:nid = "Exception.__new__" := by simpa using q2
 have z3:cdat.hasDel=false:=by simpa using q3
 have z6:PySem.W.nsIn K cdat.ns "__init__" = some none:=by simpa using q6
 have zs:slots = #[a0,a1,a2,a3,some (.builtin nid),a5]:=by
  rw [<-hslots,Array.toArray_toList]
 subst z1 z2 zs
 refine ⟨tail,cdat.ns,cdat.name,cdat.qualname,cdat.bases,cdat.hasDict,cdat.slotNames,cdat.subclasses,cdat.abstract,cdat.collection,dct,a0,a1,a2,a3,a5,_,?_,.of_isNs (PySem.W.isNs_of_in X q5),PySem.W.nsMap_none_of_in X q5 z6,PySem.W.tail_of_in X q4⟩
 have got:=X _ _ look0
 cases cdat
 simp only at hmro z3
 subst hmro z3
 exact got
section
variable {X:Cx} {E:XK} {C:Addr} {x:Str} {np cpos pos:Pos} {e:Expr} {es:List Expr} {t:TA}
theorem Db (hr:qo X E) (hc:X.calm=true) (hC:XClE X.K C) (hg:Gl X x) (hm:X.mg x=some (.ref C)) (ha:PA X (e::es) t)
 (he:starEach (e::es) X.env=(false,eval e X.env)::starEach es X.env) (hpl:(backTo cpos (starEach es X.env)).any (·.1)=false) (hd:(x==("__debug__" : Str))=false):
 PS X (.Raise (some (.Call (.Name x np) (e::es) [] cpos)) none pos) (wD C E t):=by
 intro pins s σ H D I h
 obtain ⟨tl,N,nm,q,bs,hdct,sn,sub,ab,col,dd,k0,k1,k2,k3,k5,mN,hCo,hNs,hni,T0⟩:=hC.parts I.mod.kin
 refine wpAny_Raise_call_subT (C:=C) (nm:=nm) (q:=q) (N:=N) (bs:=bs) (bm:=tl) (hdct:=hdct) (sn:=sn) (sub:=sub) (ab:=ab) (col:=col) (dd:=dd) (k0:=k0) (k1:=k1) (k2:=k2) (k3:=k3) (k5:=k5) F.excBase_Exception (mN:=mN)
  (T0.hasType F.excBase_Exception.hasBase) (I.ok.hd hc) (by rw [he];show (false||(backTo cpos (starEach es X.env)).any (·.1))=false;rw [hpl];rfl) hni (fI I hg hm ⟨rfl,?_⟩ hd)
 rw [he]
 refine Calls.evalArgs_plain ?_
 have h1:=ha cpos pins s σ H _ I h
 rw [he] at h1
 refine bK h1 λ us s2 hy0=>?_
 obtain ⟨vs,H2,I2,rv,hz,hE⟩:=hy0
 refine ⟨rfl,by rw [<-rv.length];exact hz,I2.bk _ _ hCo,hNs.keeps I2.bk,T0.keeps I2.bk,λ h' ee hm=>?_⟩
 exact hr pins σ H2 s2 h' ee (.ref C) us I2 hm hE
end
structure gm (k:Nat) (A:Around):Prop where
 dp:A.depth+3*k+5<recursionLimit
 un:A.units+16*k+200<cLine
theorem bR.n {k:Nat} {A:Around} (r:bR k A):gm k A:=⟨r.dp,r.un⟩
theorem gm.mono {j k:Nat} {A:Around} (r:gm k A) (h:j<=k):gm j A:=⟨by have:=r.dp;omega,by have:=r.un;omega⟩
theorem gm.deeper {k:Nat} {A:Around} (r:gm (k+1) A) (env:Env):gm k (A.deeper env):=
 ⟨by have:=r.dp;show A.depth+1+3*k+5<_;omega,by have:=r.un;show A.units+3+16*k+200<_;omega⟩
structure kS (P:Program) (w:World) (K:Frag) (mg:Str->Option Value) (base:Heap) (CX:oV) (k:Nat) (f:Addr) (fd:FuncData) (ps:List Str) (sp:Sp):Prop where
 len:∀ vs H Q E,sp vs H Q E->vs.length=ps.length
 run:∀ (A:Around) (outer:List Env) (s:Shared) (H:Hp) (args:Args) (us:List Value) (vs:List V) (Q:VK) (E:XK),gm k A->pA P w K mg base A outer s H->BindsTo s fd args (ps.zip us)->bf vs us->sp vs H Q E->
  codeAny (model P w) A (.call (.ref f) args) (CR CX outer P w H s Q E) s
theorem kS.all {P:Program} {w:World} {K:Frag} {mg:Str->Option Value} {base:Heap} {CX:oV} {k:Nat} {f:Addr} {fd:FuncData} {ps:List Str} {sp:Sp} (F:kS P w K mg base CX k f fd ps sp):dU P w K mg base CX k f fd ps sp:=
 ⟨F.len,λ A outer s H args us vs Q E hr=>F.run A outer s H args us vs Q E hr.n⟩
noncomputable abbrev Fc (P:Program) (w:World) (K:Frag) (mg:Str->Option Value) (base:Heap) (N:List Str) (qual:Str) (scope:Scope) (f:Addr) (cd:Value) (A:Around) (outer:List Env) (s:Shared) (H:Hp) (E:XK):Cx:=
 { fw rG P w K mg base N qual scope f cd A outer s H E with calm:=false,xe:=λ _ _=>False }
theorem Ap {P:Program} {w:World} {K:Frag} {mg:Str->Option Value} {base:Heap} {k:Nat} {f:Addr} {name qual:Str} {params:Arguments} {body:List Stmt} {scope:Scope} {dV kV doc pm cdv ct oc:Value} {an od:Option Addr}
 {osl:Array (Option Value)} {N ps:List Str} {sp:Sp} (lk:K.lookup f=some ⟨oc,od,.func (PySem.W.fnOf name qual params body scope dV kV doc pm an cdv ct),osl⟩) (hcd:PySem.W.codeIn K cdv qual=true) (S:cZ N ps scope)
 (len:∀ vs H Q E,sp vs H Q E->vs.length=ps.length)
 (hbody:∀ (A:Around) (outer:List Env) (s:Shared) (H:Hp) (vs:List V) (Q:VK) (E:XK),gm k (A.deeper (envOfC qual scope s.heap.objs.size f cdv))->sp vs H Q E->
  ∃ t,kN (Fc P w K mg base N qual scope f cdv A outer s H E) body t/\t { nx:=λ _ H'=>Q .non H',rt:=Q } (start N vs) H):
 kS P w K mg base rG (k+1) f (PySem.W.fnOf name qual params body scope dV kV doc pm an cdv ct) ps sp:=by
 refine ⟨len,λ A outer s H args us vs Q E hr e0 hb r hsp=>?_⟩
 have hl:=len _ _ _ _ hsp
 have KX:K.In s.heap:=e0.mod.kin.keeps λ b o e=>(e0.bs b o e).1
 have lim:s.heap.NoLimit:=e0.mod.nolimit.keeps λ b o e=>(e0.bs b o e).1
 have hkind:∀ y∈ps.zip us,scope.names.lookup y.1=some .local∨(scope.names.lookup y.1=some .cell/\((cellsFrom (s.heap.objs.size+1) scope.names []).lookup y.1).isSome=true):=λ ⟨n,v⟩ hy=>by
  rcases S.par n (List.of_mem_zip hy).1 with q | q
  . exact .inl q
  . exact .inr ⟨q,PySem.W.cellsFrom_some _ _ _ (.inl q)⟩
 have hdep:A.depth<recursionLimit:=by have:=hr.dp;omega
 refine codeAny_call_function hdep (KX _ _ lk) rfl S.co S.gen rfl (PySem.W.codeRec_of KX hcd) (hb _ _ _ _ ?_)
 refine wpAny_newFunctionEnv_cells S.kind hkind λ env he s1 x=>?_
 subst he
 refine ⟨lim.keeps x.toInCall.keep,codeAny_func ?_⟩
 obtain ⟨t,ht,hq⟩:=hbody A outer s H vs Q E (hr.deeper _) hsp
 have I0:aI (fw rG P w K mg base N qual scope f cdv { A with handled:=none } outer s H E) [] (start N vs) H s1:=mI S rfl ⟨e0.frames,e0.mod,e0.bs,e0.bsz,e0.funs,e0.frf,e0.hok,e0.bare⟩ hl r x
 have I:aI (Fc P w K mg base N qual scope f cdv A outer s H E) [] (start N vs) H s1:=
  ⟨⟨I0.ok.mod,I0.ok.kind,I0.ok.glob,I0.ok.blt,I0.ok.above,I0.ok.inj,I0.ok.has,I0.ok.cab,(λ h=>by cases h),I0.ok.frames,I0.ok.stk,I0.ok.exf,I0.ok.bs,I0.ok.bsz,I0.ok.noex,I0.ok.exfs,I0.ok.funs,I0.ok.frf⟩,I0.os,I0.bare,I0.base,I0.loc,I0.cell,I0.free,I0.freeC,I0.pin,I0.hok,I0.len⟩
 refine wpAny_mono (ht [] s1 (start N vs) H _ I hq) (λ fl s' hs=>?_) λ e s' hs=>hs.elim
 have fin:∀ {σ':St} {H':Hp} {v:V} {u:Value},aI (Fc P w K mg base N qual scope f cdv A outer s H E) [] σ' H' s'->be v u->Q v H'->CE outer P w H s Q u s':=
  λ {σ' H' v u} J rv q=>⟨v,H',J.os,J.bare,J.base,J.hok,rv,q⟩
 cases fl with
 | ret u=>
  obtain ⟨v,σ',H',J,rv,q⟩:=hs
  exact fin J rv q
 | next=>
  obtain ⟨σ',H',J,q⟩:=hs
  exact fin (v:=V.non) (u:=Value.none) J rfl q
 | brk=>
  obtain ⟨_,_,_,q⟩:=hs
  exact False.elim q
 | cont=>
  obtain ⟨_,_,_,q⟩:=hs
  exact False.elim q
section
variable {X:Cx} {CX:oV} {k:Nat} {f C:Addr} {fd:FuncData} {ps:List Str} {sp:Sp} {dvs:List V} {ds:List Value} {E:XK} {x m:Str} {p pos apos:Pos} {e o:Expr} {es:List Expr} {ta:TE} {t:TA}
theorem wn {pl:Sem Bool} (he:PE X o ta) (c:dY X.K C) (hm:bt X.K C m f) (F:kS X.prog X.w X.K X.mg X.base rG k f fd ps sp) (hr:gm k X.A) (hb:aR X.K fd ps []) (ha:PA X (e::es) t)
 (hst:starEach (e::es) X.env=(false,eval e X.env)::starEach es X.env) (hpl:(backTo pos (starEach es X.env)).any (·.1)=false)
 (ht:eval (.Call (.Attribute o m apos) (e::es) [] pos) X.env=(do
  let ov <-eval o X.env
  standAt apos.atName
  let (f,first) <-holding [ov] (getMethod ov m pl)
  callWith pos f first (backTo pos (starEach (e::es) X.env)) (backToKw pos (keywordEach [] X.env)))):
 PE X (.Call (.Attribute o m apos) (e::es) [] pos) (nv C m sp [] E0 ta t):=by
 intro pins s σ H Q I h
 refine PySem.W.methodCall_KW (pl:=pl) (bK (he pins s σ H _ I h) λ u s1 hq0=>?_) ht
 obtain ⟨x,H1,I1,rx,a,dx,fs,ex,ea,l,q⟩:=hq0
 subst ex
 obtain rfl:u=Value.ref a:=rx
 refine gM I1 ea c hm l ?_
 refine PySem.W.callWith_K (first:=[.ref a]) (h₀:=X.base) I.ok.mod.kin hm.kp (bK (ha pos pins s1 σ H1 _ I1 q) λ us s2 hy0=>?_) hst hpl
 obtain ⟨vs,H2,I2,r,q2⟩:=hy0
 refine ⟨I2.kIn,?_⟩
 have r2:bf (.ref a::(vs++[])) ((.ref a::us)++[]):=by rw [List.append_nil,List.append_nil];exact .cons rfl r
 have hl:((.ref a::us)++([]:List Value)).length=ps.length:=by rw [<-r2.length];exact F.len _ _ _ _ q2
 refine wpAny_call (codeAny_mono (F.run X.A X.stack s2 H2 ⟨.ref a::us,[]⟩ (.ref a::us++[]) _ Q E0 hr I2.env0 (hb s2 (.ref a::us) I2.kIn hl) r2 q2) λ r s' hq=>?_)
 cases r with
 | error e=>exact hq.elim
 | ok fl=>
  cases fl with
  | ret u=>exact I2.after hq
  | next=>exact False.elim hq
  | brk=>exact False.elim hq
  | cont=>exact False.elim hq
end
noncomputable def zN (C:Addr) (m:Str) (sp:Sp) (C1 C2:Addr) (to:TE) (ta:TA) (t1 t2:TS):TS:=λ D σ H=>to σ H λ x H1=>∃ a dx fs,x=.ref a/\H1 a=some (.ins C dx fs)/\fs.lookup m=none/\
 ta σ H1 λ vs H2=>sp (x::(vs++[])) H2 (λ _ H3=>D.nx σ H3) (λ cls _ H3=>(cls=.ref C1/\t1 D σ H3)∨(cls=.ref C2/\t2 D σ H3))
section
variable {X:Cx} {k:Nat} {f C C1 C2:Addr} {fd:FuncData} {ps:List Str} {sp:Sp} {m n1 n2:Str} {apos cpos xpos pos p1 p2 q1 q2:Pos} {e o:Expr} {es:List Expr} {to:TE} {ta:TA} {t1 t2:TS} {b1 b2:Stmt} {l1 l2:List Stmt} {pl:Sem Bool}
structure By (K:Frag) (C1 C2:Addr):Prop where
 a:PySem.W.exmOne K (.ref C1) (.ref C1)=some true
 b:PySem.W.exmOne K (.ref C2) (.ref C1)=some false
 c:PySem.W.exmOne K (.ref C2) (.ref C2)=some true
theorem y1 (hst:X.stack=X.env::X.outer) (hfr:X.env.frame=some X.env.locals) (hx:X.xe=λ _ _=>False) (hg1:Gl X n1) (hm1:X.mg n1=some (.ref C1)) (hg2:Gl X n2) (hm2:X.mg n2=some (.ref C2)) (hE:By X.K C1 C2)
 (ho:PE X o to) (c:dY X.K C) (hm:bt X.K C m f) (F:dU X.prog X.w X.K X.mg X.base (oy X.prog X.w) k f fd ps sp) (hr:bR k X.A) (hb:aR X.K fd ps []) (ha:PA X (e::es) ta)
 (s1:∀ ea:Addr,kN (X.suite ea) (b1::l1) t1) (s2:∀ ea:Addr,kN (X.suite ea) (b2::l2) t2)
 (hse:starEach (e::es) X.env=(false,eval e X.env)::starEach es X.env) (hpl:(backTo cpos (starEach es X.env)).any (·.1)=false)
 (ht:eval (.Call (.Attribute o m apos) (e::es) [] cpos) X.env=(do
  let ov <-eval o X.env
  standAt apos.atName
  let (f,first) <-holding [ov] (getMethod ov m pl)
  callWith cpos f first (backTo cpos (starEach (e::es) X.env)) (backToKw cpos (keywordEach [] X.env))))
 (hsw:swapsWith (.Call (.Attribute o m apos) (e::es) [] cpos) none xpos.line X.env=pure false) (hd1:(n1==("__debug__" : Str))=false) (hd2:(n2==("__debug__" : Str))=false):
 PS X (.Try [.Expr (.Call (.Attribute o m apos) (e::es) [] cpos) xpos] [.ExceptHandler (some (.Name n1 p1)) none (b1::l1) q1,.ExceptHandler (some (.Name n2 p2)) none (b2::l2) q2] [] [] pos) (zN C m sp C1 C2 to ta t1 t2):=by
 intro pins s σ H D I h
 let E1:XK:=λ cls _ H3=>(cls=.ref C1/\t1 D σ H3)∨(cls=.ref C2/\t2 D σ H3)
 have key:∀ Xe:Value->Shared->Prop,(∀ H2 s2 e s3,aI X pins σ H2 s2->oy X.prog X.w X.stack H2 s2 E1 e s3->Xe e s3)->
  wpAny (model X.prog X.w) X.A (execs [.Expr (.Call (.Attribute o m apos) (e::es) [] cpos) xpos] X.env) (SP X pins D) Xe s:=by
  intro Xe hXe
  have any:∀ {α:Type} {t:Sem α} {Q:α->Shared->Prop} {s:Shared},wpAny (model X.prog X.w) X.A t Q X.xe s->wpAny (model X.prog X.w) X.A t Q Xe s:=λ {α t Q s} w0=>wpAny_mono w0 (λ _ _ z=>z) λ e s z=>by rw [hx] at z;exact z.elim
  refine wpAny_execs_cons (bK (Q:=λ f s1=>f=.next/\∃ H',aI X pins σ H' s1/\D.nx σ H') (wpAny_Expr_any (bK (Q:=λ _ s1=>∃ H',aI X pins σ H' s1/\D.nx σ H') ?_ λ v s1 z=>⟨rfl,z⟩) I.quiet hsw) λ f s1 q=>?_)
  . refine PySem.W.methodCall_KW (pl:=pl) (bK (any (ho pins s σ H _ I h)) λ u s1 ⟨x,H1,I1,rx,a,dx,fs,ex,ea,l,q⟩=>?_) ht
    subst ex
    obtain rfl:u=Value.ref a:=rx
    refine gM I1 ea c hm l ?_
    refine PySem.W.callWith_K (first:=[.ref a]) (h₀:=X.base) I.ok.mod.kin hm.kp (bK (any (ha cpos pins s1 σ H1 _ I1 q)) λ us s2 hy0=>?_) hse hpl
    obtain ⟨vs,H2,I2,r,q2⟩:=hy0
    refine ⟨I2.kIn,?_⟩
    have r2:bf (.ref a::(vs++[])) ((.ref a::us)++[]):=by rw [List.append_nil,List.append_nil];exact .cons rfl r
    have hl:((.ref a::us)++([]:List Value)).length=ps.length:=by rw [<-r2.length];exact F.len _ _ _ _ q2
    refine wpAny_call (codeAny_mono (F.run X.A X.stack s2 H2 ⟨.ref a::us,[]⟩ (.ref a::us++[]) _ _ E1 hr I2.env0 (hb s2 (.ref a::us) I2.kIn hl) r2 q2) λ r s' hq=>?_)
    cases r with
    | error e=>exact hXe H2 s2 e s' I2 hq
    | ok fl=>
     cases fl with
     | ret u=>
      obtain ⟨v,H',I',_,z⟩:=I2.after hq
      exact ⟨H',I',z⟩
     | next=>exact False.elim hq
     | brk=>exact False.elim hq
     | cont=>exact False.elim hq
  . obtain ⟨rfl,H',I',z⟩:=q
    exact wpAny_execs_nil ⟨σ,H',I',z⟩
 refine wpAny_Try_except (wpAny_mono (key _ ?_) (λ f s1 q=>?_) λ e s1 q=>q)
 . intro H1 s1' e s2' I1 hq
   obtain ⟨ea,cls,a0,H2,B,rfl,os,bare,fl,hokB,un,keepB,thereB,f1,q⟩:=hq
   have fl0:=fl.2.2.1
   have hfl:=fl
   have frames:X.A.frames=some (X.env::X.outer):=by rw [<-hst];exact I.ok.frames
   have fl:Heap.FlyingW B (X.env::X.outer) ea cls a0 s2'.heap:=by rw [<-hst];exact hfl
   refine wpAny_looks_onW frames hfr fl λ h4 held4 up4=>wpAny_landsW held4 λ h5 fl5 up5=>?_
   have up45:=up4.trans up5
   rw [<-hst] at fl5
   have I5:aI X pins σ H2 { s2' with heap:=h5 }:=I1.flown os bare un hokB keepB thereB fl0 fl5 up45
   obtain ⟨ob,hob,hobc⟩:=fl5.there
   have suite:∀ {b:Stmt} {l:List Stmt} {t:TS} {p:Pos} {R:Flow->Shared->Prop},(∀ ea:Addr,kN (X.suite ea) (b::l) t)->t D σ H2->(∀ f s,SP X pins D f s->R f s)->codeAny (model X.prog X.w) (X.A.mark (some (.ref ea))) (.handlers (.ref ea) [.ExceptHandler none none (b::l) p] X.env) (λ r s₂=>match r with
    | .ok f=>R f s₂
    | .error x=>cameBackBy (model X.prog X.w) X.A X.env X.xe x s₂) { s2' with heap:=h5 }:=λ {b l t p R} hs q hR=>by
    refine codeAny_handlers_suite (lands_againW fl5 λ h6 fl6 up6=>?_)
    have I6:aI X pins σ H2 { s2' with heap:=h6 }:=I1.flown os bare un hokB keepB thereB fl0 fl6 (up45.trans up6)
    refine wpAny_mono (hs ea pins _ σ H2 D (I6.inSuite ea) q) (λ f s9 q9=>hR f s9 ?_) λ _ _ z=>z.elim
    cases f with
    | next=>obtain ⟨σ9,H9,I9,z⟩:=q9;exact ⟨σ9,H9,I9.outSuite I6.ok,z⟩
    | brk=>obtain ⟨σ9,H9,I9,z⟩:=q9;exact ⟨σ9,H9,I9.outSuite I6.ok,z⟩
    | cont=>obtain ⟨σ9,H9,I9,z⟩:=q9;exact ⟨σ9,H9,I9.outSuite I6.ok,z⟩
    | ret u=>obtain ⟨v,σ9,H9,I9,r,z⟩:=q9;exact ⟨v,σ9,H9,I9.outSuite I6.ok,r,z⟩
   have qq:(cls=.ref C1/\t1 D σ H2)∨(cls=.ref C2/\t2 D σ H2):=q
   clear q
   rcases qq with ⟨rfl,q⟩ | ⟨rfl,q⟩
   . refine wpAny_handleBy_cons (codeAny_handlers_test (fI (I5.inSuite ea) hg1 hm1 ?_ hd1)) (by intro z;cases z)
     refine PySem.W.exm_one (M:=model X.prog X.w) I5.kIn (hobc▸(PySem.W.Looks.ld hob).andThen .now) hE.a _ _ _ _ (λ _ _ z=>z) ?_
     show codeAny _ _ _ _ _
     exact suite s1 q λ _ _ z=>z
   . refine wpAny_handleBy_cons (codeAny_handlers_test (fI (I5.inSuite ea) hg1 hm1 ?_ hd1)) (by intro z;cases z)
     refine PySem.W.exm_one (M:=model X.prog X.w) I5.kIn (hobc▸(PySem.W.Looks.ld hob).andThen .now) hE.b _ _ _ _ (λ _ _ z=>z) ?_
     show wpAny _ _ (handleBy _ _ _) _ _ _
     refine wpAny_handleBy_cons (codeAny_handlers_test (fI (I5.inSuite ea) hg2 hm2 ?_ hd2)) (by intro z;cases z)
     refine PySem.W.exm_one (M:=model X.prog X.w) I5.kIn (hobc▸(PySem.W.Looks.ld hob).andThen .now) hE.c _ _ _ _ (λ _ _ z=>z) ?_
     show codeAny _ _ _ _ _
     exact suite s2 q λ _ _ z=>z
 . cases f with
   | next=>exact wpAny_execs_nil q
   | brk=>exact q
   | cont=>exact q
   | ret u=>exact q
end
section
variable {K:Frag} {cl:Str->Addr} {E:XK}
noncomputable def nJ (c m:Str) (f:List W->ai->SM W) (c1 c2:Str) (fo:DS->Option W) (fa:DS->Option (List W)) (h1 h2:DS->ai->SO):DS->ai->SO:=λ δ S=>(fo δ).bind λ x=>(fa δ).bind λ ds=>(gQ c x S).bind λ p=>if p.2.lookup m=none then
 (match f (x::ds) S with
 | some (.ok _,S1)=>some (.nx δ,S1)
 | some (.xc y,S1)=>if y=c1 then h1 δ S1 else if y=c2 then h2 δ S1 else none
 | none=>none)
 else none
theorem y8 {c m c1 c2:Str} {f:List W->ai->SM W} {to:TE} {ta:TA} {fo:DS->Option W} {fa:DS->Option (List W)} {t1 t2:TS} {h1 h2:DS->ai->SO} (ho:∀ ρ,DE K ρ to fo) (ha:∀ ρ,DA K ρ ta fa) (g1:jh K cl E t1 h1) (g2:jh K cl E t2 h2):
 jh K cl E (zN (cl c) m (sZ K cl f) (cl c1) (cl c2) to ta t1 t2) (nJ c m f c1 c2 fo fa h1 h2):=λ ρ0 G0 H0 ρ G σ H δ S o S' D I e p=>by
 obtain ⟨x,ex,e⟩:=oB e
 obtain ⟨ds,ed,e⟩:=oB e
 obtain ⟨⟨n,fs⟩,ei,e⟩:=oB e
 split at e
 case isFalse=>cases e
 rename_i hm
 refine ho ρ G σ H δ x _ I.rs.rl ex λ v G1 H1 gr1 dv=>?_
 have gs1:GS ρ G H ρ G1 H1:=.of gr1
 have sr1:=I.rs.st.grow gr1
 have I1:=I.grow gs1 sr1
 obtain ⟨rfl,e5⟩:=dE ei
 obtain ⟨a,rfl,ea⟩:=ck dv
 obtain ⟨ga,dx,ws,k1,k2,k3,k4⟩:=sr1.addr e5 ea
 refine ⟨a,dx,ws,rfl,k1,k4.lookup_none hm,?_⟩
 refine ha ρ G1 σ H1 δ ds _ I1.rs.rl ed λ vs G2 H2 gr2 da=>?_
 have gs2:GS ρ G1 H1 ρ G2 H2:=.of gr2
 have sr2:=sr1.grow gr2
 have I2:=I1.grow gs2 sr2
 cases ef:f (.ref n::ds) S with
 | none=>rw [ef] at e;cases e
 | some r=>
  obtain ⟨r,S1⟩:=r
  rw [ef] at e
  refine ⟨ρ,G2,S,.ref n::ds,r,S1,gr2.s,sr2,by rw [List.append_nil];exact .cons (dv.same gr2.g) da,ef,λ d hd v ρ3 G3 H3 g3 s3 dv=>?_,λ y hy ρ3 G3 H3 g3 s3=>?_⟩
  . subst hd
    cases e
    exact p σ ρ3 G3 H3 (I2.grow g3 s3)
  . subst hy
    have e9:(if y=c1 then h1 δ S1 else if y=c2 then h2 δ S1 else none)=some (o,S'):=e
    have I3:=I2.grow g3 s3
    by_cases z:y=c1
    . rw [if_pos z] at e9
      exact .inl ⟨by rw [z],g1 ρ0 G0 H0 ρ3 G3 σ H3 δ S1 o S' D I3 e9 p⟩
    . rw [if_neg z] at e9
      by_cases z2:y=c2
      . rw [if_pos z2] at e9
        exact .inr ⟨by rw [z2],g2 ρ0 G0 H0 ρ3 G3 σ H3 δ S1 o S' D I3 e9 p⟩
      . rw [if_neg z2] at e9
        cases e9
end
section
variable {A:Around} {E:Value->Shared->Prop}
theorem Bc {P:Program} {w:World} {s:Shared} {d:Addr} {kvs:List (bz×Value)} {k:bz} {key v:Value} {Q:Unit->Shared->Prop} (hkey:(aT P w).is k key=true) (hm:gP P w s.heap d kvs) (hsz:kvs.length<=sizeLine)
 (hQ:∀ h',gP P w h' d (stored kvs k v)->Heap.SameBut d s.heap h'->Q () { s with heap:=h',toks:=s.toks+1 }):wpAny (model P w) A (dictSet d key v) Q E s:=by
 obtain ⟨o,es,ep,ho,hc,hd,he,hk,hp,hn⟩:=hm
 have hes:es.size<=sizeLine:=by have e1:=hp.length;rw [Array.length_toList] at e1;omega
 unfold dictSet
 try with_reducible refine wpAny_holding ?_
 refine wpAny_bind ((aT P w).pyHash hkey ?_)
 unfold dictSetHashed
 try with_reducible refine wpAny_holding ?_
 refine wpAny_bind (wpAny_dictFind_of (s:={ s with toks:=s.toks+1 }) hkey ho hd hk ?_)
 have ix:(es.findIdx? λ e=>(aT P w).is k e.key)=kvs.findIdx? λ kv=>decide (kv.1=k):=by
  rw [<-hp.findIdx k];obtain ⟨l⟩:=es;simp
 cases hi:es.findIdx? λ e=>(aT P w).is k e.key with
 | some i=>
  have an:=any_of_findIdx_some (ix▸hi)
  have hl:(es.toList.findIdx? λ e=>(aT P w).is k e.key)=some i:=by rw [<-hi];obtain ⟨l⟩:=es;simp
  have hm:=hp.modify hn hl v
  refine wpAny_bind (wpAny_rule (wpAny_bind (wpAny_updateDict (s:={ s with toks:=s.toks+1 }) ho hd (wpAny_point (hQ _ ?_ (Heap.SameBut.update ..))))))
  refine ⟨_,_,ep,Heap.get?_update_self _ ho (Obj.isFreed_of_dict (Obj.data_mapDict hd _)),hc.mapDict _,Obj.data_mapDict hd _,by simpa using he,hk.modify _ _,?_,?_⟩
  . rw [stored,if_pos an]
    obtain ⟨l⟩:=es
    simpa using hm
  . rw [stored,if_pos an,keys_map_store]
    exact hn
 | none=>
  have nm:k∉kvs.map (·.1):=not_mem_of_findIdx_none (ix▸hi)
  have na:¬ (kvs.any λ kv=>decide (kv.1=k))=true:=λ z=>by
   obtain ⟨kv,h1,h2⟩:=List.any_eq_true.mp z
   exact nm (List.mem_map.mpr ⟨kv,h1,of_decide_eq_true h2⟩)
  have ha:=hp.append hkey ((aT P w).hash k) v
  refine wpAny_bind (wpAny_rule (wpAny_updateDictKeys (hz:=hes) (s:={ s with toks:=s.toks+1 }) ho hd (hQ _ ?_ (Heap.SameBut.update ..))))
  refine ⟨_,_,ep+1,Heap.get?_update_self _ ho (Obj.isFreed_of_dict (Obj.data_mapDictKeys hd _)),hc.mapDictKeys _,Obj.data_mapDictKeys hd _,by simp [he],hk.push hkey _,?_,?_⟩
  . rw [stored,if_neg na]
    obtain ⟨l⟩:=es
    simpa using ha
  . rw [stored,if_neg na,List.map_append,List.nodup_append]
    exact ⟨hn,by simp,λ x hx y hy z=>nm (by simp at hy;rw [<-hy,<-z];exact hx)⟩
theorem lm {P:Program} {w:World} {d:Addr}:∀ (vs:List (Value×Value)) (kvs acc:List (bz×Value)) (s:Shared) (Q:PUnit->Shared->Prop),Carries (aT P w) vs kvs->gP P w s.heap d acc->acc.length+kvs.length<=sizeLine->
 (∀ h' tk,gP P w h' d (merged acc kvs)->Heap.SameBut d s.heap h'->Q PUnit.unit { s with heap:=h',toks:=tk })->
 wpAny (model P w) A (forIn vs PUnit.unit λ (x:Value×Value) (_:PUnit)=>(do dictSet d x.1 x.2;pure (ForInStep.yield PUnit.unit):Sem (ForInStep PUnit))) Q E s
 | [],[],acc,s,Q,_,hm,_,hQ=>by
  rw [List.forIn_nil]
  exact wpAny_pure (hQ s.heap s.toks (by simpa [merged] using hm) (Heap.SameBut.refl _ _))
 | (key,v)::vs,(k,v')::kvs,acc,s,Q,hc,hm,hsz,hQ=>by
  obtain ⟨hkey,rfl,hc'⟩:=hc
  rw [List.length_cons] at hsz
  rw [List.forIn_cons]
  refine wpAny_bind (wpAny_bind (Bc hkey hm (by omega) λ h₁ hm₁ hs₁=>wpAny_pure ?_))
  refine lm vs kvs (stored acc k v) _ Q hc' hm₁ (by have e:=stored_length_le acc k v;omega) λ h' tk hm' hs'=>?_
  exact hQ h' tk (by simpa [merged] using hm') (hs₁.trans hs')
 | [],_::_,_,_,_,hc,_,_,_=>hc.elim
 | _::_,[],_,_,_,hc,_,_,_=>hc.elim
end
theorem Dq {X:Cx} {pos:Pos} {keys:List (Option Expr)} {values:List Expr} {trs:List (TE×TE)} (h:Ex X pos keys values trs) (hall:keys.all (·.isSome)=true) (hl:keys.length=values.length) (h0:keys≠[])
 (h15:keys.length<=15):PE X (.Dict keys values pos) (zO trs):=by
 intro pins s σ H Q I q
 have hn:=I.hok.fresh (Nat.le_refl s.heap.objs.size)
 have I1:=I.laid (a:=s.heap.objs.size) (o:=.dK []) (h':=s.heap.push { cls:=.type "dict", data:=.dict #[] }) (t':=s.toks) (λ _ _ q=>Heap.get?_push_of_some _ q) (Nat.le_refl _) (pf s.heap I.big)
 have hpl:=pairTrees_length keys values X.env pos hall hl
 have hpn:pairTrees keys values X.env pos≠[]:=λ he=>by
  rw [he] at hpl
  exact h0 (List.length_eq_zero_iff.mp hpl.symm)
 rw [arm_eval_Dict,zip_pairTrees keys values X.env pos hall hl,dictDisplay_pairs _ hpn (by omega)]
 refine wpAny_bind (wpAny_standAt (wpAny_bind ?_))
 unfold subDict
 refine wpAny_bind (wpAny_alloc ?_)
 refine wpAny_bind (wpAny_holding ?_)
 rw [if_pos (by omega)]
 refine wpAny_bind (wpAny_mono (wpAny_evalPairs_len (h pins _ σ _ _ I1 (q _ hn))) (λ ws s2 hy=>?_) λ _ _ e=>e)
 obtain ⟨hvl,ps,H2,I2,rel,e,kvs,ep,lk,q2⟩:=hy
 subst ep
 obtain ⟨rs,c,rk⟩:=kY (P:=X.prog) (w:=X.w) rel
 obtain ⟨z,hd,vs0,r0,dd⟩:=(show cn X.prog X.w H2 s2.heap s.heap.objs.size (.dK []) from I2.hok _ _ e)
 cases r0
 have hz:(gc [] kvs).length<=sizeLine:=by
  have h1:=iO kvs []
  rw [List.length_nil] at h1
  rw [sizeLine_eq];omega
 have hrs:rs.length=kvs.length:=(Paired.length rk).symm
 refine wpAny_holding ?_
 refine wpAny_bind (lm ws rs [] s2 _ c dd (by rw [List.length_nil,sizeLine_eq];omega) λ h' tk dd' hs=>wpAny_pure (wpAny_pure (wpAny_pure ?_)))
 have he:∃ q,h'.get? s.heap.objs.size=some q:=let ⟨q,_,_,hq,_⟩:=dd';⟨q,hq⟩
 exact ⟨.ref s.heap.objs.size,_,nF I2 (by rw [e];exact True.intro) hs he (wP hz hd (rk.merge .nil) dd'),rfl,q2⟩
section
variable {K:Frag} {cl:Str->Addr} {E:XK}
noncomputable def pB:List (Str×(DS->Option W))->DS->Option (List (bz×W))
 | [],_=>some []
 | (k,f)::r,δ=>(f δ).bind λ d=>(pB r δ).map ((.inr k,d)::·)
noncomputable def og (kvs more:List (bz×W)):List (bz×W):=more.foldl (λ acc kv=>fH acc kv.1 kv.2) kvs
noncomputable def sH (kfs:List (Str×(DS->Option W))):DS->ai->SM W:=λ δ S=>(pB kfs δ).bind λ kvs=>if kvs.length<=15 then some (.ok (.ref S.length),S++[.dK (og [] kvs)]) else none
inductive zd (K:Frag):List (TE×TE)->List (Str×(DS->Option W))->Prop
 | nil:zd K [] []
 | cons {k:Str} {t:TE} {f:DS->Option W} {trs:List (TE×TE)} {kfs:List (Str×(DS->Option W))}:(∀ ρ,DE K ρ t f)->zd K trs kfs->zd K ((tC (.str k),t)::trs) ((k,f)::kfs)
theorem gl.merge {ρ:List Addr} {G:Hp}:∀ {more:List (bz×W)} {ms:List (bz×V)} {l:List (bz×W)} {m:List (bz×V)},gl K ρ G more ms->gl K ρ G l m->gl K ρ G (og l more) (gc m ms):=by
 intro more ms l m h
 induction h generalizing l m with
 | nil=>exact λ h2=>h2
 | cons h1 _ ih=>exact λ h2=>ih (h2.put h1)
theorem gl.extR {ρ ρ':List Addr} {G:Hp} (g:ρ <+: ρ') {l:List (bz×W)} {m:List (bz×V)} (h:gl K ρ G l m):gl K ρ' G l m:=by
 induction h with
 | nil=>exact .nil
 | cons h1 _ ih=>exact .cons (h1.ext g) ih
theorem yW {trs:List (TE×TE)} {kfs:List (Str×(DS->Option W))} (h:zd K trs kfs):∀ {ρ:List Addr} {G:Hp} {σ:St} {H:Hp} {δ:DS} {kvs:List (bz×W)} {Q:List (V×V)->Hp->Prop},Rl K ρ G H δ σ->pB kfs δ=some kvs->
 (∀ ms G' H',Gr G H G' H'->gl K ρ G' kvs ms->Q (ms.map λ kv=>(kV kv.1,kv.2)) H')->oK trs σ H Q:=by
 induction h with
 | nil=>
  intro ρ G σ H δ kvs Q R e q
  cases e
  exact q [] G H (.refl R.sub) .nil
 | @cons k t f trs kfs h1 _ ih=>
  intro ρ G σ H δ kvs Q R e q
  obtain ⟨d,e1,e⟩:=oB e
  obtain ⟨r,e2,rfl⟩:=oM e
  refine h1 ρ G σ H δ d _ R e1 λ v G1 H1 g1 dv=>?_
  refine ih (R.grow g1) e2 λ ms G2 H2 g2 kv=>?_
  exact q ((.inr k,v)::ms) G2 H2 (g1.trans g2) (.cons (dv.same g2.g) kv)
theorem yp {trs:List (TE×TE)} {kfs:List (Str×(DS->Option W))} (h:zd K trs kfs):SE K cl E (zO trs) (sH kfs):=λ ρ G σ H δ S r S' Q R e q qx=>by
 obtain ⟨kvs,e1,e⟩:=oB e
 split at e
 case isFalse=>cases e
 rename_i h15
 cases e
 intro p hp
 have n0:Nw H (cq H p (.dK [])) p (.dK []):=.of hp
 have g0:Gr G H G (cq H p (.dK [])):=.nwO R.rl.sub n0
 refine yW h (R.rl.grow g0) e1 λ ms G2 H2 g2 kv=>?_
 have hp2:H2 p=some (.dK []):=g2.h _ _ aJ
 have gp:G2 p=none:=g2.n p (.of aJ λ _ z=>by cases z) (dD R.rl.sub hp)
 refine ⟨hp2,ms,rfl,by rw [<-kv.length];exact h15,?_⟩
 let Hx:Hp:=λ b=>if b=p then none else H2 b
 have hx:∀ b,b≠p->Hx b=H2 b:=λ b hb=>if_neg hb
 have hxp:Hx p=none:=if_pos rfl
 have gx:Gr G H G2 Hx:=by
  refine ⟨g2.g,λ b o eb=>?_,λ b o eb=>?_,λ b hb=>?_⟩
  . have hb:b≠p:=λ z=>by rw [z,hp] at eb;cases eb
    rw [hx b hb]
    exact g2.h _ _ (by rw [aD hb];exact eb)
  . have hb:b≠p:=λ z=>by rw [z,gp] at eb;cases eb
    rw [hx b hb]
    exact g2.s _ _ eb
  . exact g2.n b (hb.same n0.1)
 have ex:cq H2 p (.dK (gc [] ms))=cq Hx p (.dK (gc [] ms)):=by
  funext b
  by_cases hb:b=p
  . subst hb
    rw [aJ,aJ]
  . rw [aD hb,aD hb,hx b hb]
 rw [ex]
 have sx:=R.st.grow gx
 have n1:Nw Hx (cq Hx p (.dK (gc [] ms))) p (.dK (gc [] ms)):=.of hxp
 obtain ⟨s2,gg⟩:=sx.push (o:=.dK (og [] kvs)) gx.s n1 λ ρ' hr=>⟨_,aJ,gl.merge (kv.extR hr) .nil⟩
 exact q _ rfl _ _ _ _ ((GS.of gx).trans gg) s2 (.ref (by rw [<-R.st.len];simp))
noncomputable def oQ (fo fk fx:DS->ai->SM W):DS->ai->SM W:=λ δ S=>ak (fo δ S) λ x S1=>if (pS x S1).isSome=true then ak (fk δ S1) λ y S2=>ak (fx δ S2) λ z S3=>(pw x y S3).bind λ o=>some (.ok (o.getD z),S3) else none
theorem vZ {to tk tx:TE} {fo fk fx:DS->ai->SM W} (ho:SE K cl E to fo) (hk:SE K cl E tk fk) (hx:SE K cl E tx fx):SE K cl E (u9 to tk tx) (oQ fo fk fx):=λ ρ G σ H δ S r S' Q R e q qx=>
 cP ho R e (λ x S1 e1 v ρ1 G1 H1 g1 s1 dv=>by
  split at e1
  case isFalse=>cases e1
  rename_i hx1
  obtain ⟨⟨n,kvs0⟩,hx0⟩:=Option.isSome_iff_exists.mp hx1
  obtain ⟨rfl,h0⟩:=mQ hx0
  obtain ⟨a,rfl,ea⟩:=ck dv
  obtain ⟨_,ws0,k0,_⟩:=s1.addr h0 ea
  have R1:=R.grow g1 s1
  refine ⟨a,rfl,.inl ⟨ws0,.inl k0⟩,?_⟩
  refine cP hk R1 e1 (λ y S2 e2 u ρ2 G2 H2 g2 s2 du=>?_) λ c hc ρ2 G2 H2 g2 s2=>qx c hc ρ2 G2 H2 (g1.trans g2) s2
  refine cP hx (R1.grow g2 s2) e2 (λ z S3 e3 w ρ3 G3 H3 g3 s3 dw=>?_) λ c hc ρ3 G3 H3 g3 s3=>qx c hc ρ3 G3 H3 (g1.trans (g2.trans g3)) s3
  obtain ⟨o,e4,e5⟩:=oB e3
  cases e5
  have g13:=g1.trans (g2.trans g3)
  have g23:=g2.trans g3
  obtain ⟨a',r',ez,h1,h2⟩:=sf g13.s s3 ((dv.ext g23.r).same g23.g) ((du.ext g3.r).same g3.g) e4
  cases ez
  refine ⟨r',h1,?_⟩
  cases o with
  | some d=>
   obtain ⟨z',rfl,dz⟩:=h2
   exact q _ rfl _ ρ3 G3 H3 g13 s3 dz
  | none=>
   rw [show r'=none from h2]
   exact q _ rfl _ ρ3 G3 H3 g13 s3 dw) qx
noncomputable def nK (g g':W->W->Option Bool) (fa fb fc:DS->ai->SM W):DS->ai->SM Bool:=λ δ S=>ak (fa δ S) λ x S1=>ak (fb δ S1) λ y S2=>(g x y).bind λ b=>if b=true then ak (fc δ S2) λ z S3=>iR (g' y z) S3 else some (.ok false,S2)
theorem vU {r r':R2} {ta tb tc:TE} {fa fb fc:DS->ai->SM W} {g g':W->W->Option Bool} (hr:∀ ρ,DB K ρ r g) (hr':∀ ρ,DB K ρ r' g') (ha:SE K cl E ta fa) (hb:SE K cl E tb fb) (hc:SE K cl E tc fc):ST K cl E (kr (uL r r' ta tb tc)) (nK g g' fa fb fc):=λ ρ G σ H δ S rr S' Q R e q qx=>
 cP ha R e (λ x S1 e1 v ρ1 G1 H1 g1 s1 dv=>by
  refine cP hb (R.grow g1 s1) e1 (λ y S2 e2 u ρ2 G2 H2 g2 s2 du=>?_) λ c hc ρ2 G2 H2 g2 s2=>qx c hc ρ2 G2 H2 (g1.trans g2) s2
  obtain ⟨b,e3,e4⟩:=oB e2
  refine hr ρ2 H2 v u x y b _ ((dv.ext g2.r).same (g2.g.trans g2.s)) (du.same g2.s) e3 ⟨b,rfl,?_⟩
  cases b with
  | false=>
   cases e4
   exact ⟨false,rfl,q _ rfl ρ2 G2 H2 (g1.trans g2) s2⟩
  | true=>
   rw [if_pos rfl] at e4 ⊢
   refine cP hc ((R.grow g1 s1).grow g2 s2) e4 (λ z S3 e5 w ρ3 G3 H3 g3 s3 dw=>?_) λ c hc ρ3 G3 H3 g3 s3=>qx c hc ρ3 G3 H3 (g1.trans (g2.trans g3)) s3
   obtain ⟨c,e6,rfl,rfl⟩:=bL e5
   exact hr' ρ3 H3 u w y z c _ ((du.ext g3.r).same (g3.g.trans g3.s)) (dw.same g3.s) e6 ⟨c,rfl,q c rfl ρ3 G3 H3 (g1.trans (g2.trans g3)) s3⟩) qx
end
noncomputable def uz:List V->Hp->VK->Prop:=λ xs H Q=>∃ b:Bool,xs=[.bl b]/\Q (.int (if b then 1 else 0)) H
theorem tz {X:Cx}:dJ X (.type "int") uz:=by
 intro pins s σ H xs us Q I r h
 obtain ⟨b,e,q⟩:=h
 subst e
 obtain ⟨u,rfl,rb⟩:=pj r
 cases rb
 exact call_int_bool ⟨.int _,H,I.tok _,⟨_,rfl⟩,q⟩
theorem Gu {X:Cx} {e:Expr} {es:List Expr} {t:TA} {p pos:Pos} (hg:Gl X "int") (hm:X.mg "int" = none) (ha:PA X (e::es) t)
 (he:starEach (e::es) X.env=(false,eval e X.env)::starEach es X.env) (hp:(backTo pos (starEach es X.env)).any (·.1)=false):PE X (.Call (.Name "int" p) (e::es) [] pos) (uj uz t):=nq tz hg hm (by decide +kernel:bootBuiltins "int" = some (.type "int")) ha (by decide) (by decide) he hp
noncomputable def zt:W->Option W
 | .bool b=>some (.int (if b then 1 else 0))
 | _=>none
noncomputable def vC (f:DS->Option W):DS->Option W:=λ δ=>(f δ).bind zt
theorem xS {K:Frag} {ρ:List Addr} {t:TE} {f:DS->Option W} (h:DE K ρ t f):DE K ρ (uj uz (gR t jJ)) (vC f):=λ G σ H δ d Q R e q=>by
 obtain ⟨x,ex,e⟩:=oB e
 cases x <;> first | cases e
 rename_i b
 exact h G σ H δ _ _ R ex λ v G1 H1 g1 dv=>by
  cases dv
  exact ⟨b,rfl,q _ G1 H1 g1 (.int _)⟩
noncomputable def jj (d:PyData):Bool:=d.showable && !d.hasDict&&decide (d.depth<=64)&&decide (d.shown.length<=sizeLine)
noncomputable def mD (K:Frag):List V->Hp->VK->Prop:=λ xs H Q=>∃ a d,xs=[.ref a]/\Dp K H (.ref a) d/\jj d=true/\Q (.str d.shown) H
theorem qB {X:Cx} {K:Frag} (h:X.K=K) {k:Nat} (hr:bR k X.A):dJ X (.builtin "repr") (mD K):=by
 subst h
 intro pins s σ H xs us Q I r h
 obtain ⟨a,d,e,dp,ok,q⟩:=h
 subst e
 obtain ⟨u,rfl,rb⟩:=pj r
 cases rb
 obtain ⟨as,rd⟩:=Dp.reads I dp rfl
 simp only [jj,Bool.and_eq_true,decide_eq_true_eq,Bool.not_eq_true'] at ok
 obtain ⟨⟨⟨o1,o2⟩,o3⟩,o4⟩:=ok
 exact repr_of_reads' rd o1 (PyData.noDict_hsm o2) hr.gd (by have:=hr.un;omega) (λ _ _ e=>e) (λ h' u tk hk=>⟨.str d.shown,H,I.kept (t':=tk) λ b o e=>hk b o e,⟨u,rfl⟩,q⟩) o4
theorem boot_repr':bootBuiltins "repr" = some (.builtin "repr"):=by decide +kernel
theorem Ch {X:Cx} {K:Frag} (h:X.K=K) {k:Nat} (hr:bR k X.A):QB X "repr" (mD K):=⟨_,qB h hr,boot_repr'⟩
noncomputable def wS (x:W):Option W:=(W.py x).bind λ d=>match x with
 | .list _=>if jj d=true then some (.str d.shown) else none
 | .tuple _=>if jj d=true then some (.str d.shown) else none
 | _=>none
noncomputable def mZ (f:DS->Option W):DS->Option W:=λ δ=>(f δ).bind wS
theorem yo {K:Frag} {ρ:List Addr} {t:TE} {f:DS->Option W} (h:DE K ρ t f):DE K ρ (uj (mD K) (gR t jJ)) (mZ f):=λ G σ H δ d Q R e q=>by
 obtain ⟨x,ex,e⟩:=oB e
 obtain ⟨y,ey,e⟩:=oB e
 refine h G σ H δ _ _ R ex λ v G1 H1 g1 dv=>?_
 have dp:=(dv.same g1.s).dp ey
 have go:∀ {a:Addr},v=.ref a->(if jj y=true then some (W.str y.shown) else none)=some d->mD K [v] H1 Q:=λ {a} hv e=>by
  subst hv
  split at e
  . cases e
    exact ⟨a,y,rfl,dp,by assumption,q _ G1 H1 g1 (.str _)⟩
  . cases e
 show mD K [v] H1 Q
 cases x with
 | list ds=>
  obtain ⟨a,rfl⟩:∃ a,v=.ref a:=by cases dv;exact ⟨_,rfl⟩
  exact go rfl e
 | tuple ds=>
  obtain ⟨a,rfl⟩:∃ a,v=.ref a:=by cases dv;exact ⟨_,rfl⟩
  exact go rfl e
 | none=>cases e
 | bool _=>cases e
 | int _=>cases e
 | str _=>cases e
 | ref _=>cases e
theorem qG {P:Program} {w:World} {A:Around} {s:Shared} {H:Hp} {a b:Addr} (ok:gE P w H s.heap) (ha:H a=some (.dK [])) (hb:H b=some (.dK [])) (hu:A.units<cLine):SeqAt.EqAt A s (.ref a) (.ref b) true:=by
 by_cases hab:a=b
 . subst hab
   exact SeqAt.EqAt.same _
 . refine SeqAt.EqAt.of_refs hab λ prog w' E Q h=>?_
   have mk:∀ {c:Addr},H c=some (.dK [])->(c==sysModules)=false/\s.heap.DictOf (aT prog w') c []:=λ {c} hc=>by
    obtain ⟨_,hd,vs,r,o,es,ep,h1,h2,h3,_,h5,h6,_⟩:=(show cn P w H s.heap c (.dK []) from ok c _ hc)
    cases r
    have ee:es = #[]:=by
     have:=h6.length
     rw [Array.length_toList] at this
     exact Array.eq_empty_of_size_eq_zero (by simpa using this)
    subst ee
    exact ⟨hd,o,#[],ep,h1,h2,h3,λ e he=>absurd he (by simp),.nil,by simp⟩
   obtain ⟨a1,a2⟩:=mk ha
   obtain ⟨b1,b2⟩:=mk hb
   exact PySem.W.keq_eq (knd:=aT prog w') a1 b1 a2 b2 hu (λ _=>.nil) (by simpa using h)
noncomputable def Cs (K:Frag):R2:=λ x y H Q=>∃ (a b:Addr) (as bs:List Addr),x=.ref a/\y=.ref b/\cY K H a (as.map V.ref)/\cY K H b (bs.map V.ref)/\(∀ c∈as,H c=some (.dK []))/\(∀ c∈bs,H c=some (.dK []))/\Q (.bl (as.length==bs.length)) H
theorem jL:∀ {as:List Addr} {us:List Value},bf (as.map V.ref) us->us=as.map Value.ref
 | [],us,h=>by cases h;rfl
 | a::as,us,h=>by
  cases h with
  | cons h1 h2=>
   cases h1
   rw [jL h2]
   rfl
theorem Gw {X:Cx} {K:Frag} (h:X.K=K) (hu:X.A.units+64<cLine):gh X (compareOp .Eq) (Cs K):=by
 subst h
 intro pins s σ H x y v u Q I rx ry h
 obtain ⟨a,b,as,bs,rfl,rfl,ha,hb,da,db,q⟩:=h
 cases rx
 cases ry
 obtain ⟨its,rv,pl,_⟩:=I.list ha
 obtain ⟨jts,rw',pm,_⟩:=I.list hb
 have e1:=jL rv
 have e2:=jL rw'
 subst e1 e2
 have go:SeqAt.RcAt X.A s (.ref a) (.ref b) (as.length==bs.length):=by
  by_cases hl:as.length=bs.length
  . have:=SeqAt.RcAt.lists (A:=X.A) (e:=λ _=>true) pl.isList pm.isList (by simpa using hl) (by omega) λ j h1 h2=>by
     have h1':j<as.length:=by simpa using h1
     have h2':j<bs.length:=by simpa using h2
     have:=qG (A:=X.A.in1) I.hok (da _ (List.getElem_mem h1')) (db _ (List.getElem_mem h2')) (by show X.A.units+1<cLine;omega)
     simpa using this
    have e:((List.range (as.map Value.ref).toArray.size).all λ _=>true)=(as.length==bs.length):=by simp [hl]
    rw [e] at this
    exact this
  . have:(as.length==bs.length)=false:=by simpa using hl
    rw [this]
    exact SeqAt.RcAt.lists_lengths pl.isList pm.isList (by simpa using hl) (by omega)
 exact go X.prog X.w _ _ ⟨.bl _,H,I,rfl,q⟩
section
variable {K:Frag} {cl:Str->Addr} {E:XK}
noncomputable def CV (S:ai):List W->Option Nat
 | []=>some 0
 | d::r=>match pS d S with
  | some (_,[])=>(CV S r).map (· + 1)
  | _=>none
noncomputable def wy (x y:W) (S:ai):Option Bool:=match x,y with
 | .ref l,.list es=>(dG S l).bind λ ds=>(CV S ds).bind λ m=>(CV S es).map λ n=>m==n
 | _,_=>none
noncomputable def Bq (fa fb:DS->ai->SM W):DS->ai->SM Bool:=λ δ S=>ak (fa δ S) λ x S1=>ak (fb δ S1) λ y S2=>iR (wy x y S2) S2
theorem nR {ρ:List Addr} {G H:Hp} {S:ai} (s:SR K ρ cl G H S):∀ {ds:List W} {vs:List V} {m:Nat},az K ρ G vs ds->CV S ds=some m->∃ as:List Addr,vs=as.map V.ref/\as.length=m/\∀ c∈as,H c=some (.dK [])
 | [],vs,m,h,e=>by
  cases h
  cases e
  exact ⟨[],rfl,rfl,λ c hc=>absurd hc List.not_mem_nil⟩
 | d::ds,vs,m,h,e=>by
  cases h with
  | @cons v vs _ _ h1 h2=>
   unfold CV at e
   split at e
   . rename_i n hk
     obtain ⟨k,e1,rfl⟩:=oM e
     obtain ⟨as,rfl,hl,hd⟩:=nR s h2 e1
     obtain ⟨rfl,e4⟩:=mQ hk
     obtain ⟨a,rfl,ea⟩:=ck h1
     obtain ⟨_,ws,k1,k2⟩:=s.addr e4 ea
     cases k2
     exact ⟨a::as,rfl,by simp [hl],λ c hc=>(List.mem_cons.mp hc).elim (λ z=>z▸k1) (hd c)⟩
   . cases e
theorem wQ {ρ:List Addr} {G H:Hp} {S:ai} {v u:V} {x y:W} {b:Bool} {Q:VK} (sg:bg G H) (s:SR K ρ cl G H S) (dv:Dw K ρ G v x) (du:Dw K ρ G u y) (h:wy x y S=some b) (q:Q (.bl b) H):Cs K v u H Q:=by
 unfold wy at h
 split at h
 . obtain ⟨ds,e1,e⟩:=oB h
   obtain ⟨m,em,e⟩:=oB e
   obtain ⟨n,en,rfl⟩:=oM e
   obtain ⟨a,rfl,ea⟩:=ck dv
   unfold dG at e1
   split at e1
   . rename_i hl
     cases e1
     obtain ⟨_,ws,k1,k2⟩:=s.addr hl ea
     cases du with
     | @lst b' xs _ sq da=>
      obtain ⟨as,rfl,z1,d1⟩:=nR s k2 em
      obtain ⟨bs,rfl,z2,d2⟩:=nR s da en
      refine ⟨a,b',as,bs,rfl,rfl,cY.of k1,sg.seq sq,d1,d2,?_⟩
      rw [z1,z2]
      exact q
   . cases e1
 . cases h
theorem AN {ta tb:TE} {fa fb:DS->ai->SM W} (ha:SE K cl E ta fa) (hb:SE K cl E tb fb):SE K cl E (oW (Cs K) ta tb) (sB (Bq fa fb)):=λ ρ G σ H δ S r' S' Q R e q qx=>by
 rcases aK e with ⟨c,em,rfl⟩ | ⟨b,S1,em,e⟩
 . exact fV (r:=Rs.xc c) ha hb R em (λ x y S2 e2=>by obtain ⟨_,_,z,_⟩:=bL e2;cases z) (λ c' hc=>by cases hc;exact qx c rfl)
 . cases e
   exact fV ha hb R em (λ x y S2 e2 v u ρ2 G2 H2 g2 s2 dv du=>by
    obtain ⟨c,e3,z,rfl⟩:=bL e2
    cases z
    exact wQ g2.s s2 dv du e3 (q _ rfl _ ρ2 G2 H2 g2 s2 (.bl _))) (λ c hc=>by cases hc)
end
noncomputable def xb (R:Addr->FuncData->Prop) (P:Program) (w:World) (K:Frag) (mg:Str->Option Value) (base:Heap) (k:Nat) (ps:List Str) (sp:Sp):Prop:=∃ f fd,R f fd/\dU P w K mg base (oy P w) k f fd ps sp
noncomputable def FS (R:Addr->FuncData->Prop) (P:Program) (w:World) (K:Frag) (mg:Str->Option Value) (base:Heap) (k:Nat) (ps:List Str) (sp:Sp):Prop:=∃ f fd,R f fd/\kS P w K mg base rG k f fd ps sp
noncomputable abbrev GK (P:Program) (w:World) (K:Frag) (mg:Str->Option Value) (base:Heap) (N:List Str) (q:Str) (st:Stmt) (k:Nat) (E:XK) (t:TS):Prop:=∀ (f:Addr) (cd:Value) (A:Around) (outer:List Env) (s:Shared) (H:Hp),N.Nodup->bR k (A.deeper (envOfC q (au st) s.heap.objs.size f cd))->(A.deeper (envOfC q (au st) s.heap.objs.size f cd)).units+64<cLine->(A.deeper (envOfC q (au st) s.heap.objs.size f cd)).units+1<cLine->
 kN (fw (oy P w) P w K mg base N q (au st) f cd A outer s H E) (aM st) t
noncomputable abbrev Hy (P:Program) (w:World) (K:Frag) (mg:Str->Option Value) (base:Heap) (N:List Str) (q:Str) (st:Stmt) (k:Nat) (t:TS):Prop:=∀ (f:Addr) (cd:Value) (A:Around) (outer:List Env) (s:Shared) (H:Hp) (E:XK),N.Nodup->gm k (A.deeper (envOfC q (au st) s.heap.objs.size f cd))->
 kN (Fc P w K mg base N q (au st) f cd A outer s H E) (aM st) t
theorem p8.okX {P:Program} {w:World} {K:Frag} {mg:Str->Option Value} {base:Heap} {x q:Str} {st:Stmt} {f:Addr} {fd:FuncData} {N ps:List Str} {k:Nat} {sp:Sp} (F:p8 K x q st f fd) (S:cZ N ps (au st)) (hl:∀ vs H Q E,sp vs H Q E->vs.length=ps.length)
 (hb:∀ (cd:Value) (A:Around) (outer:List Env) (s:Shared) (H:Hp) (vs:List V) (Q:VK) (E:XK),bR k (A.deeper (envOfC q (au st) s.heap.objs.size f cd))->sp vs H Q E->
  ∃ t,kN (fw (oy P w) P w K mg base N q (au st) f cd A outer s H E) (aM st) t/\t ({ nx:=λ _ H'=>Q V.non H',rt:=Q }:gY) (start N vs) H):dU P w K mg base (oy P w) (k+1) f fd ps sp:=by
 obtain ⟨dV,oc,kV,dc,pm,cd,ct,od,an,sl,rfl,lk,hc⟩:=F.ex
 exact zl lk hc S hl λ A outer s H vs Q E hr hs=>hb cd A outer s H vs Q E hr hs
theorem p8.okN {P:Program} {w:World} {K:Frag} {mg:Str->Option Value} {base:Heap} {x q:Str} {st:Stmt} {f:Addr} {fd:FuncData} {N ps:List Str} {k:Nat} {sp:Sp} (F:p8 K x q st f fd) (S:cZ N ps (au st)) (hl:∀ vs H Q E,sp vs H Q E->vs.length=ps.length)
 (hb:∀ (cd:Value) (A:Around) (outer:List Env) (s:Shared) (H:Hp) (vs:List V) (Q:VK) (E:XK),gm k (A.deeper (envOfC q (au st) s.heap.objs.size f cd))->sp vs H Q E->
  ∃ t,kN (Fc P w K mg base N q (au st) f cd A outer s H E) (aM st) t/\t ({ nx:=λ _ H'=>Q V.non H',rt:=Q }:gY) (start N vs) H):kS P w K mg base rG (k+1) f fd ps sp:=by
 obtain ⟨dV,oc,kV,dc,pm,cd,ct,od,an,sl,rfl,lk,hc⟩:=F.ex
 exact Ap lk hc S hl λ A outer s H vs Q E hr hs=>hb cd A outer s H vs Q E hr hs
section
variable {P:Program} {w:World} {K:Frag} {mg:Str->Option Value} {base:Heap} {cl:Str->Addr} {R:Addr->FuncData->Prop} {x q:Str} {st:Stmt} {N ps:List Str} {a n k:Nat} {t:TS} {sp:Sp}
theorem FS.ce (h:FS R P w K mg base k ps sp):Ce R P w K mg base k ps sp:=by
 obtain ⟨f,fd,r,F⟩:=h
 exact ⟨f,fd,r,F.all⟩
theorem x5 {fb:DS->ai->SO} {g:List W->ai->SM W} (D:jl R K x q st) (hg:g=bi a n fb) (h:∀ E:XK,∃ t,jh K cl E t fb/\GK P w K mg base N q st k E t)
 (hN:N.length=n) (ha:ps.length=a) (S:cZ N ps (au st)):xb R P w K mg base (k+1) ps (sZ K cl g):=by
 subst hg ha
 obtain ⟨f,fd,F,r⟩:=D
 exact ⟨f,fd,r,F.okX S (λ vs H Q E h=>xB (λ ds S r e=>iA e) h) λ cd A outer s H vs Q E hr hs=>by
  obtain ⟨t,de,pe⟩:=h E
  exact ⟨t,pe f cd A outer s H S.nd hr hr.units hr.units1,Dk hN de hs⟩⟩
theorem Hf {fb:DS->ai->SO} {g:List W->ai->SM W} (D:jl R K x q st) (hg:g=bi a n fb) (de:jh K cl E0 t fb) (pe:Hy P w K mg base N q st k t)
 (hN:N.length=n) (ha:ps.length=a) (S:cZ N ps (au st)):FS R P w K mg base (k+1) ps (iP K cl g):=by
 subst hg ha
 obtain ⟨f,fd,F,r⟩:=D
 exact ⟨f,fd,r,F.okN S (λ vs H Q E h=>rY (λ ds S r e=>iA e) h) λ cd A outer s H vs Q E hr hs=>⟨t,pe f cd A outer s H E S.nd hr,zU hN de hs⟩⟩
theorem Bg {g:List W->ai->SM W} (D:jl R K x q st) (h:∀ ds S,g ds S=none):xb R P w K mg base k ps (sZ K cl g):=by
 obtain ⟨f,fd,_,r⟩:=D
 exact ⟨f,fd,r,dU.noX h⟩
theorem sd {F:Nat->Sp} (h0:xb R P w K mg base (k+0) ps (F 0)) (hs:∀ n,xb R P w K mg base (k+n) ps (F n)->xb R P w K mg base (k+n+1) ps (F (n+1))):∀ n,xb R P w K mg base (k+n) ps (F n)
 | 0=>h0
 | n+1=>hs n (sd h0 hs n)
end
noncomputable def vJ (C:Addr) (m:Str) (sp:Sp) (ta:TE) (t:TA):TE:=λ σ H Q=>True/\nv C m sp [] E0 ta t σ H Q
noncomputable def qO (c m:Str) (f:List W->ai->SM W) (fo:DS->ai->SM W) (fa:DS->ai->SM (List W)):DS->ai->SM W:=bU c m f fo fa
theorem vz {K:Frag} {cl:Str->Addr} {E:XK} {c m:Str} {f:List W->ai->SM W} {to:TE} {t:TA} {fo:DS->ai->SM W} {fa:DS->ai->SM (List W)} (ho:SE K cl E to fo) (h:SA K cl E t fa):SE K cl E (vJ (cl c) m (iP K cl f) to t) (qO c m f fo fa):=λ ρ G σ H δ S r S' Q R e q qx=>⟨True.intro,rN ho h ρ G σ H δ S r S' Q R e q qx⟩
theorem En {X:Cx} {k j:Nat} {f C:Addr} {fd:FuncData} {ps:List Str} {sp:Sp} {m:Str} {pos apos:Pos} {e o:Expr} {es:List Expr} {ta:TE} {t:TA} {pl:Sem Bool} (he:PE X o ta) (c:dY X.K C) (hm:bt X.K C m f) (F:kS X.prog X.w X.K X.mg X.base rG k f fd ps sp) (hr:∃ A e,X.A=Around.mark A e/\bR j A) (hk:k<=j) (hb:aR X.K fd ps []) (ha:PA X (e::es) t)
 (hst:starEach (e::es) X.env=(false,eval e X.env)::starEach es X.env) (hpl:(backTo pos (starEach es X.env)).any (·.1)=false)
 (ht:eval (.Call (.Attribute o m apos) (e::es) [] pos) X.env=(do
  let ov <-eval o X.env
  standAt apos.atName
  let (f,first) <-holding [ov] (getMethod ov m pl)
  callWith pos f first (backTo pos (starEach (e::es) X.env)) (backToKw pos (keywordEach [] X.env)))):
 PE X (.Call (.Attribute o m apos) (e::es) [] pos) (vJ C m sp ta t):=by
 have hr':gm k X.A:=by
  obtain ⟨A,e,hA,r⟩:=hr
  rw [hA]
  exact ⟨(r.n.mono hk).dp,(r.n.mono hk).un⟩
 exact λ pins s σ H Q I h=>wn he c hm F hr' hb ha hst hpl ht pins s σ H Q I h.2
theorem tO {A:Around} {e:Option Value} {j:Nat} (r:bR j A):∃ B v,A.mark e=Around.mark B v/\bR j B:=⟨A,e,rfl,r⟩
section
variable {K:Frag} {cl:Str->Addr} {E:XK}
noncomputable def pK (fa fb:DS->ai->SM W):DS->ai->SM W:=λ δ S=>ak (fa δ S) λ x S1=>ak (fb δ S1) λ y S2=>(yT x S2).bind λ ds=>(pE y).bind λ es=>(match x with
 | .tuple _=>none
 | _=>if ds.length+es.length<=9000 then some (.ok (.ref S2.length),S2++[.lst (ds++es)]) else none)
theorem v9 {ρ:List Addr} {G H:Hp} {S:ai} {v:V} {x:W} {ds:List W} (sg:bg G H) (s:SR K ρ cl G H S) (dv:Dw K ρ G v x) (h:yT x S=some ds) (nt:∀ es,x≠.tuple es):∃ p vs,v=.ref p/\cY K H p vs/\az K ρ G vs ds:=by
 unfold yT at h
 split at h
 . rename_i n es hl
   cases h
   obtain ⟨rfl,e6⟩:=cX hl
   obtain ⟨a,rfl,ea⟩:=ck dv
   obtain ⟨ga,vs,k1,k2⟩:=s.addr e6 ea
   exact ⟨a,vs,rfl,cY.of k1,k2⟩
 . cases dv with
   | lst sq da=>cases h;exact ⟨_,_,rfl,sg.seq sq,da⟩
   | tup sq da=>exact absurd rfl (nt _)
   | _=>cases h
theorem x8 {ta tb:TE} {fa fb:DS->ai->SM W} (ha:SE K cl E ta fa) (hb:SE K cl E tb fb):SE K cl E (oW (uU K) ta tb) (pK fa fb):=λ ρ G σ H δ S r' S' Q R e q qx=>
 fV ha hb R e (λ x y S2 e2 v u ρ2 G2 H2 g2 s2 dv du=>by
  obtain ⟨ds,e4,e3⟩:=oB e2
  obtain ⟨es,e5,e7⟩:=oB e3
  cases p5 e5
  obtain ⟨b,ws,rfl,sq,da⟩:=uC du
  split at e7
  . cases e7
  . rename_i nt
    split at e7
    case isFalse=>cases e7
    rename_i hz
    cases e7
    obtain ⟨a,vs,rfl,sq2,k2⟩:=v9 g2.s s2 dv e4 nt
    refine .inr (.inr (.inl ⟨a,b,vs,ws,rfl,rfl,sq2,g2.s.seq sq,by rw [k2.length,da.length];exact Nat.le_trans hz (by decide),λ p H' n=>?_⟩))
    obtain ⟨s3,g3⟩:=s2.push (o:=.lst (ds++es)) g2.s n λ ρ' hr=>⟨vs++ws,n.2.2,(k2.app da).ext hr⟩
    exact q _ rfl _ _ _ H' (g2.trans g3) s3 (.ref (by rw [<-s2.len];simp))) qx
end
end L2
namespace L2
open PySem PySem.Spec PyProof.Rows
open PySem.W (Frag)
theorem boot_max':bootBuiltins "max" = some (.builtin "max"):=by decide +kernel
theorem Gh {X:Cx} (hc:X.calm=true):QB X "max" v3:=⟨_,rF hc,boot_max'⟩
end L2
namespace L2
open PySem PySem.Spec PyProof.Rows
open PySem.W (Frag)
theorem A0 {X:Cx} {K:Frag} (h:X.K=K) {op:Operator} {rd:V->V->Hp->VK->Prop} {o value:Expr} {ta tv:TE} {f:Str} {tpos pos:Pos} (ha:PE X o ta) (hv:PE X value tv) (hop:yE X op rd):PS X (.AugAssign (.Attribute o f tpos) op value pos) (ou K ta tv rd f):=h▸sY ha hv hop
theorem BJ {K:Frag} {ρ:List Addr}:kP K ρ uO eB:=uJ
noncomputable def AV (K:Frag) (a:Addr) (ws:List Str):Prop:=∀ G,fS K G a (ws.map V.str)
theorem Cg {K:Frag} {ρ:List Addr} {ta:TE} {fa:DS->Option W} {a:Addr} {ws:List Str} {d:W} (hs:AV K a ws) (hd:d=.tuple (ws.map W.str)) (ha:DK K ρ ta fa):DT K ρ (kr (oW (CM K false) ta (tC (.ref a)))) (aB mJ fa (dC d)):=by
 subst hd
 exact AG hs ha
end L2
namespace L2
open PySem PySem.Spec PyProof.Rows
open PySem.W (Frag)
noncomputable def vL (A:Around):Prop:=∃ k,bR k A
theorem Dz {A:Around} {k:Nat} (r:bR k A):vL A:=⟨k,r⟩
theorem FH {X:Cx} {K:Frag} (h:X.K=K) (hr:vL X.A):QB X "repr" (mD K):=by
 obtain ⟨k,r⟩:=hr
 exact Ch h r
theorem wN {X:Cx} {x:Str} {i:Int} {t:Tok} {pos:Pos} (hg:Gl X x) (hm:X.mg x=some (.int i t)) (hd:(x==("__debug__" : Str))=false):PE X (.Name x pos) (tC (.int i)):=rT hg hm ⟨_,rfl⟩ hd
end L2
set_option Elab.async false
set_option linter.all false
set_option maxRecDepth 100000
namespace My
open PySem PySem.Spec PyProof.Rows L2
open PySem.W (Frag)
local macro_rules | `(tactic| simp! [$a,*] $[$l]?)=>`(tactic| simp only [Nat.reduceAdd,Nat.reduceSub,reduceIte,Nat.reduceEqDiff,List.replicate,$a,*] $[$l]?)
noncomputable def hU (i:Nat):Stmt:=PySem.Challenge.pw_widelanes_k42_alone_reckons.main.body.getD i (.Pass ⟨0,0,0,0⟩)
noncomputable abbrev nk:Stmt:=hU 8
noncomputable abbrev kf:Stmt:=hU 10
noncomputable abbrev p9:Stmt:=hU 9
noncomputable abbrev cz:Stmt:=b5 (hU 1) 0
noncomputable abbrev cW:Stmt:=b5 (hU 1) 1
noncomputable abbrev dy:Stmt:=b5 (hU 1) 2
noncomputable abbrev dM:Stmt:=b5 (hU 1) 3
noncomputable abbrev cf:Stmt:=b5 (hU 4) 0
noncomputable abbrev bP:Stmt:=b5 (hU 4) 1
noncomputable abbrev cw:Stmt:=b5 (hU 4) 2
noncomputable abbrev ci:Stmt:=b5 (hU 14) 0
noncomputable abbrev bG:Stmt:=b5 (hU 14) 1
noncomputable abbrev bZ:Stmt:=b5 (hU 14) 2
noncomputable abbrev bQ:Stmt:=b5 (hU 14) 3
noncomputable abbrev cV:Stmt:=b5 (hU 14) 5
noncomputable abbrev cx:Stmt:=b5 (hU 19) 0
noncomputable abbrev dR:Stmt:=b5 (hU 19) 16
noncomputable abbrev fg:Stmt:=b5 (hU 19) 15
noncomputable abbrev cB:Stmt:=b5 (hU 19) 14
noncomputable abbrev eM:Stmt:=b5 (hU 19) 12
noncomputable abbrev gv:Stmt:=b5 (hU 19) 4
noncomputable abbrev eN:Stmt:=b5 (hU 19) 3
noncomputable abbrev cQ:Stmt:=b5 (hU 19) 2
noncomputable abbrev gt:Stmt:=b5 (hU 19) 1
noncomputable abbrev rS:Stmt:=hU 20
noncomputable abbrev kg:Stmt:=hU 22
noncomputable abbrev js:Stmt:=hU 23
noncomputable abbrev gj:Stmt:=hU 24
noncomputable abbrev fK:Stmt:=hU 25
noncomputable abbrev iI:Stmt:=hU 26
noncomputable abbrev km:Stmt:=hU 27
noncomputable abbrev iM:Stmt:=hU 28
noncomputable abbrev iL:Stmt:=hU 29
noncomputable abbrev jp:Stmt:=hU 30
noncomputable abbrev kb:Stmt:=hU 31
noncomputable abbrev j9:Stmt:=hU 32
noncomputable abbrev pX:Stmt:=hU 33
noncomputable def bI (c_Walk c_Frame c_Story c_Goer c_Nought c_Outside:Addr):Str->Addr:=λ s=>if s = "Walk" then c_Walk else if s = "Frame" then c_Frame else if s = "Story" then c_Story else if s = "Goer" then c_Goer else if s = "Nought" then c_Nought else if s = "Outside" then c_Outside else 0
theorem eL (c_Walk c_Frame c_Story c_Goer c_Nought c_Outside:Addr):bI c_Walk c_Frame c_Story c_Goer c_Nought c_Outside "Walk" = c_Walk:=by
 unfold bI
 rw [if_pos rfl]
theorem df (c_Walk c_Frame c_Story c_Goer c_Nought c_Outside:Addr):bI c_Walk c_Frame c_Story c_Goer c_Nought c_Outside "Frame" = c_Frame:=by
 unfold bI
 rw [if_neg (by decide +kernel),if_pos rfl]
theorem bC (c_Walk c_Frame c_Story c_Goer c_Nought c_Outside:Addr):bI c_Walk c_Frame c_Story c_Goer c_Nought c_Outside "Story" = c_Story:=by
 unfold bI
 rw [if_neg (by decide +kernel),if_neg (by decide +kernel),if_pos rfl]
theorem bj (c_Walk c_Frame c_Story c_Goer c_Nought c_Outside:Addr):bI c_Walk c_Frame c_Story c_Goer c_Nought c_Outside "Goer" = c_Goer:=by
 unfold bI
 rw [if_neg (by decide +kernel),if_neg (by decide +kernel),if_neg (by decide +kernel),if_pos rfl]
theorem iV (c_Walk c_Frame c_Story c_Goer c_Nought c_Outside:Addr):bI c_Walk c_Frame c_Story c_Goer c_Nought c_Outside "Nought" = c_Nought:=by
 unfold bI
 rw [if_neg (by decide +kernel),if_neg (by decide +kernel),if_neg (by decide +kernel),if_neg (by decide +kernel),if_pos rfl]
theorem ic (c_Walk c_Frame c_Story c_Goer c_Nought c_Outside:Addr):bI c_Walk c_Frame c_Story c_Goer c_Nought c_Outside "Outside" = c_Outside:=by
 unfold bI
 rw [if_neg (by decide +kernel),if_neg (by decide +kernel),if_neg (by decide +kernel),if_neg (by decide +kernel),if_neg (by decide +kernel),if_pos rfl]
noncomputable def cC:List W->Option W:=dX 1 1
 (bc (av b8 (av b7 (av gSub' (aw 0) (dC (.int (-2147483648)))) (dC (.int 4294967296))) (dC (.int (-2147483648)))))
noncomputable def ib:List W->Option W:=dX 3 3
 (aY (cG (aB d8 (aw 0) (dC (.str "+")))
  (bc (av b8 (aw 1) (af 2)))
  aH)
 (aY (cG (aB d8 (aw 0) (dC (.str "-")))
  (bc (av gSub' (aw 1) (af 2)))
  aH)
 (aY (cG (aB d8 (aw 0) (dC (.str "*")))
  (bc (av dZ (aw 1) (af 2)))
  aH)
 (aY (cG (aB d8 (aw 0) (dC (.str "div")))
  (bc (av ft (aw 1) (af 2)))
  aH)
 (aY (cG (aB d8 (aw 0) (dC (.str "rem")))
  (bc (av gSub' (aw 1) (av dZ (aw 2) (av ft (aw 1) (af 2)))))
  aH)
 (aY (cG (aB d8 (aw 0) (dC (.str "<")))
  (bc (CQ (aB mj (aw 1) (aw 2)) (dC (.int (1))) (dC (.int (0)))))
  aH)
 (bc (CQ (aB d8 (aw 1) (aw 2)) (dC (.int (1))) (dC (.int (0)))))))))))
noncomputable def ij:List W->Option W:=dX 3 3
 (aY (cG (pc (aB mJ (aw 0) (ba (aa (dC (.str "div")) (aa (dC (.str "rem")) ah)))) (aB d8 (aw 2) (dC (.int (0)))))
  (bc (dC .none))
  aH)
 (bc (aP cC (aa (aP ib (aa (af 0) (aa (af 1) (aa (af 2) ah)))) ah))))
noncomputable def cA:List W->ai->SM W:=bi 2 2
 (ar (bO "Walk" "row" (ac (af 0)) (ac (af 1)))
 (bO "Walk" "at" (ac (af 0)) (ac (dC (.int (0))))))
noncomputable def cR:List W->ai->SM W:=bi 1 1
 (dI (sB (jV false (ao "Walk" "at" (ac (af 0))) (gB (ao "Walk" "row" (ac (af 0)))))))
noncomputable def fW:List W->ai->SM W:=bi 1 1
 (dI (sIx (ao "Walk" "row" (ac (af 0))) (ao "Walk" "at" (ac (af 0)))))
noncomputable def gK:List W->ai->SM W:=bi 1 2
 (ar (cK (sIx (ao "Walk" "row" (ac (af 0))) (ao "Walk" "at" (ac (af 0)))) (aj 1))
 (ar (iy "Walk" "at" (ac (af 0)) (ac (dC (.int (1)))))
 (aq (bc (af 1)))))
noncomputable def cj:List W->ai->SM W:=bi 4 4
 (ar (bO "Frame" "names" (ac (af 0)) (ac (af 2)))
 (ar (bO "Frame" "given" (ac (af 0)) (ac (af 3)))
 (ar (bO "Frame" "walks" (ac (af 0)) (cS (aG (iQ "Walk" cA (ac (aa (af 1) ah))) bM)))
 (bO "Frame" "loops" (ac (af 0)) (cS (ac ah))))))
noncomputable def eV:DS->ai->SO:=(ar (bB (vy (ao "Frame" "walks" (ac (af 0)))))
 (cM (mr (ko (ao "Frame" "loops" (ac (af 0)))) (jV false (sIx (ao "Frame" "loops" (ac (af 0))) (ac (oh gf (dC (.int (1)))))) (gB (ao "Frame" "walks" (ac (af 0))))))
  (bB (vy (ao "Frame" "loops" (ac (af 0)))))
  (aq aH)))
noncomputable def cH:List W->ai->SM W:=bi 1 1
 (ar (cD (mr (ko (ao "Frame" "walks" (ac (af 0)))) (gG (bU "Walk" "is_over" cR (sIx (ao "Frame" "walks" (ac (af 0))) (ac (oh gf (dC (.int (1)))))) (ac ah)))) eV 1000000)
 (dI (CZ (ko (ao "Frame" "walks" (ac (af 0)))) (bU "Walk" "before" fW (sIx (ao "Frame" "walks" (ac (af 0))) (ac (oh gf (dC (.int (1)))))) (ac ah)) (ac (dC .none)))))
noncomputable def d9:List W->ai->SM W:=bi 1 1
 (bB (bU "Walk" "taken" gK (sIx (ao "Frame" "walks" (ac (af 0))) (ac (oh gf (dC (.int (1)))))) (ac ah)))
noncomputable def bY:List W->ai->SM W:=bi 1 1
 (ar (bO "Story" "told" (ac (af 0)) (cS (ac ah)))
 (ar (bO "Story" "steps" (ac (af 0)) (ac (dC (.int (0)))))
 (ar (bO "Story" "end" (ac (af 0)) (ac (dC .none)))
 (ar (bO "Story" "brought" (ac (af 0)) (cS (ac ah)))
 (ar (bO "Story" "touches" (ac (af 0)) (cS (ac ah)))
 (ar (bO "Story" "puts" (ac (af 0)) (cS (ac ah)))
 (bO "Story" "lines" (ac (af 0)) (cS (ac ah)))))))))
noncomputable def dj:List W->ai->SM W:=bi 1 1
 (ar (br (ao "Story" "touches" (ac (af 0))) (cS (ac ah)))
 (br (ao "Story" "puts" (ac (af 0))) xh))
noncomputable def dh:List W->ai->SM W:=bi 2 2
 (ar (iy "Story" "steps" (ac (af 0)) (ac (dC (.int (1)))))
 (br (ao "Story" "lines" (ac (af 0))) (ac (af 1))))
noncomputable def dS:List W->ai->SM W:=bi 4 4
 (br (sIx (ao "Story" "touches" (ac (af 0))) (ac (oh gf (dC (.int (1)))))) (ac (ba (aa (af 1) (aa (af 2) (aa (af 3) ah))))))
noncomputable def b9:List W->ai->SM W:=bi 3 3
 (bO "Story" "end" (ac (af 0)) (ac (ba (aa (af 1) (aa (af 2) ah)))))
noncomputable def fR:DS->ai->SO:=(lE (ao "Goer" "defs" (ac (af 0))) (ac (av bd (aw 7) (dC (.int (0))))) (ac (af 7)))
noncomputable def eR:List W->ai->SM W:=bi 7 8
 (ar (bO "Goer" "defs" (ac (af 0)) xh)
 (ar (lQ (ac (dm (af 1))) (aj 7) fR)
 (ar (bO "Goer" "lane" (ac (af 0)) (ac (af 2)))
 (ar (bO "Goer" "signs" (ac (af 0)) (sH [(Str.ofString "lane", (af 2)),(Str.ofString "lanes", (af 3)),(Str.ofString "mine", (aP cC (aa (af 4) ah)))]))
 (ar (bO "Goer" "boxes" (ac (af 0)) (nM [none] (ac (dm (af 5))) (aj 0) (ac hJ) (ac (aP cC (aa (af 0) ah)))))
 (ar (bO "Goer" "most" (ac (af 0)) (ac (af 6)))
 (ar (bO "Goer" "frames" (ac (af 0)) (cS (aG (iQ "Frame" cj (aG (sIx (jA (ao "Goer" "defs" (ac (af 0))) (ac (dC (.str "main")))) (ac (dC (.int (2))))) (aG xh (aG (ac (dC .none)) bM)))) bM)))
 (ar (bO "Goer" "line" (ac (af 0)) (ac (dC .none)))
 (ar (bO "Goer" "meeting" (ac (af 0)) (ac (dC .none)))
 (ar (bO "Goer" "story" (ac (af 0)) (iQ "Story" bY (ac ah)))
 (bB (bU "Story" "begin_phase" dj (ao "Goer" "story" (ac (af 0))) (ac ah)))))))))))))
noncomputable def eZ:List W->ai->SM W:=bi 3 3
 (ar (cM (io (nK F8 mj (ac (dC (.int (0)))) (ac (af 2)) (gB (ao "Goer" "boxes" (ac (af 0))))))
  (kI "Outside" (ac (aa (dC (.str "a place of no box")) ah)))
  (aq aH))
 (bB (bU "Story" "add_touch" dS (ao "Goer" "story" (ac (af 0))) (aG (ac (af 1)) (aG (ac (af 2)) (aG (ao "Goer" "line" (ac (af 0))) bM))))))
noncomputable def fh:List W->ai->SM W:=bi 2 2
 (ar (bB (bu "Goer" "touch" eZ (ac (af 0)) (ac (aa (dC (.str "get")) (aa (af 1) ah)))))
 (dI (sIx (ao "Goer" "boxes" (ac (af 0))) (ac (af 1)))))
noncomputable def ay:Nat->List W->ai->SM W
 | 0,_,_=>none
 | n+1,ds,S=>bi 2 4
  (ar (aq (aV (av bd (aw 1) (dC (.int (0)))) (aj 2)))
  (ar (aq (cG (aB d8 (aw 2) (dC (.str "num")))
   (bc (av bd (aw 1) (dC (.int (1)))))
   aH))
  (ar (cM (ac (aB d8 (aw 2) (dC (.str "name"))))
   (dI (oQ (ao "Frame" "names" (sIx (ao "Goer" "frames" (ac (af 0))) (ac (oh gf (dC (.int (1))))))) (ac (av bd (aw 1) (dC (.int (1))))) (ac (dC (.int (0))))))
   (aq aH))
  (ar (cM (ac (aB mJ (aw 2) (dC (.tuple [.str "lane", .str "lanes", .str "mine"]))))
   (dI (jA (ao "Goer" "signs" (ac (af 0))) (ac (af 2))))
   (aq aH))
  (ar (cM (ac (aB d8 (aw 2) (dC (.str "box"))))
   (dI (bu "Goer" "got" fh (ac (af 0)) (aG (bu "Goer" "reckoned" (ay n) (ac (af 0)) (ac (aa (av bd (aw 1) (dC (.int (1)))) ah))) bM)))
   (aq aH))
  (ar (cK (i7 ij (aG (ac (af 2)) (aG (bu "Goer" "reckoned" (ay n) (ac (af 0)) (ac (aa (av bd (aw 1) (dC (.int (1)))) ah))) (aG (bu "Goer" "reckoned" (ay n) (ac (af 0)) (ac (aa (av bd (aw 1) (dC (.int (2)))) ah))) bM)))) (aj 3))
  (ar (cM (ac (aB j1 (aw 3) (dC .none)))
   (kI "Nought" (ac (aa (dC (.str "a working that has no number")) ah)))
   (aq aH))
  (aq (bc (af 3)))))))))) ds S
noncomputable def fJ:List W->ai->SM W:=bi 3 3
 (lE (ao "Frame" "names" (sIx (ao "Goer" "frames" (ac (af 0))) (ac (oh gf (dC (.int (1))))))) (ac (af 1)) (ac (af 2)))
noncomputable def i8:List W->ai->SM W:=bi 2 3
 (ar (aq (aV (av bd (aw 1) (dC (.int (0)))) (aj 2)))
 (ar (cM (ac (aB d8 (aw 2) (dC (.str "while"))))
  (ar (aq eB)
 (aq oe))
  (aq aH))
 (ar (bB (bU "Frame" "pass_by" d9 (sIx (ao "Goer" "frames" (ac (af 0))) (ac (oh gf (dC (.int (1)))))) (ac ah)))
 (cM (ac (aB d8 (aw 2) (dC (.str "set"))))
  (bB (bU "Goer" "give" fJ (ac (af 0)) (aG (ac (av bd (aw 1) (dC (.int (2))))) (aG (bu "Goer" "reckoned" (ay 9) (ac (af 0)) (ac (aa (av bd (aw 1) (dC (.int (3)))) ah))) bM))))
  (cM (ac (aB d8 (aw 2) (dC (.str "put"))))
  (aq eB)
  (cM (ac (aB d8 (aw 2) (dC (.str "tell"))))
  (br (ao "Story" "told" (ao "Goer" "story" (ac (af 0)))) (bu "Goer" "reckoned" (ay 9) (ac (af 0)) (ac (aa (av bd (aw 1) (dC (.int (2)))) ah))))
  (cM (ac (aB d8 (aw 2) (dC (.str "if"))))
  (aq eB)
  (cM (ac (aB d8 (aw 2) (dC (.str "call"))))
  (aq eB)
  (cM (ac (aB mJ (aw 2) (ba (aa (dC (.str "meet")) (aa (dC (.str "join")) ah)))))
  (aq eB)
  (aq eB))))))))))
noncomputable def iw:List W->ai->SM W:=bi 2 2
 (ar (bO "Goer" "line" (ac (af 0)) (ac (av bd (aw 1) (dC (.int (1))))))
 (ar (cM (lC oT (ao "Story" "steps" (ao "Goer" "story" (ac (af 0)))) (ao "Goer" "most" (ac (af 0))))
  (ar (bB (bU "Story" "finish" b9 (ao "Goer" "story" (ac (af 0))) (aG (ac (dC (.str "tired"))) (aG (ao "Goer" "line" (ac (af 0))) bM))))
 (aq oe))
  (aq aH))
 (ar (bB (bU "Story" "add_step" dh (ao "Goer" "story" (ac (af 0))) (aG (ao "Goer" "line" (ac (af 0))) bM)))
 (nJ "Goer" "do" i8 "Nought" "Outside" (af 0) (aa (af 1) ah)
  (bB (qO "Story" "finish" b9 (ao "Goer" "story" (ac (af 0))) (aG (ac (dC (.str "nought"))) (aG (ao "Goer" "line" (ac (af 0))) bM))))
  (bB (qO "Story" "finish" b9 (ao "Goer" "story" (ac (af 0))) (aG (ac (dC (.str "outside"))) (aG (ao "Goer" "line" (ac (af 0))) bM))))))))
noncomputable def fA:List W->ai->SM W:=bi 1 1
 (cM (jV false (gB (ao "Goer" "frames" (ac (af 0)))) (ac (dC (.int (1)))))
  (bB (bU "Story" "finish" b9 (ao "Goer" "story" (ac (af 0))) (aG (ac (dC (.str "done"))) (aG (sIx (jA (ao "Goer" "defs" (ac (af 0))) (ac (dC (.str "main")))) (ac (dC (.int (4))))) bM))))
  (aq eB))
noncomputable def fO:DS->ai->SO:=(ar (cK (bU "Frame" "statement" cH (sIx (ao "Goer" "frames" (ac (af 0))) (ac (oh gf (dC (.int (1)))))) (ac ah)) (aj 1))
 (cM (ac (aB j1 (aw 1) (dC .none)))
  (bB (bU "Goer" "end_def" fA (ac (af 0)) (ac ah)))
  (bB (bU "Goer" "step" iw (ac (af 0)) (ac (aa (af 1) ah))))))
noncomputable def iB:List W->ai->SM W:=bi 1 2
 (cD (mr (lC j1 (ao "Story" "end" (ao "Goer" "story" (ac (af 0)))) (ac (dC .none))) (lC j1 (ao "Goer" "meeting" (ac (af 0))) (ac (dC .none)))) fO 1000000)
noncomputable def sO:DS->ai->SO:=(cM (lC jW (ao "Goer" "meeting" (ac (af 7))) (ac (dC .none)))
 (ar (aq eB)
 (bB (bU "Goer" "go" iB (ac (af 7)) (ac ah))))
  (aq aH))
noncomputable def gN:List W->ai->SM W:=bi 7 9
 (ar (cK (iQ "Goer" eR (ac (aa (af 0) (aa (af 1) (aa (af 2) (aa (af 3) (aa (af 4) (aa (af 5) ah)))))))) (aj 7))
 (ar (bB (bU "Goer" "go" iB (ac (af 7)) (ac ah)))
 (ar (lQ (ac (dm (af 6))) (aj 8) sO)
 (dI (ao "Goer" "story" (ac (af 7)))))))
noncomputable def aF:List W->Option W:=dX 2 2
 (aY (cG (aB mj (aw 1) (hV dF (aw 0)))
  (bc (av bd (aw 0) (af 1)))
  aH)
 (bc (dC (.int (0)))))
noncomputable def aW:List W->Option W:=dX 2 3
 (aY (aV (av b7 (av b8 (av b8 (av b7 (aw 0) (dC (.int (2147483647)))) (av dZ (dC (.int (16807))) (af 1))) (dC (.int (7)))) (dC (.int (2147483629)))) (aj 2))
 (aY (aV (av b7 (av dZ (aw 2) (af 2)) (dC (.int (2147483587)))) (aj 2))
 (bc (av ft (av b7 (av dZ (aw 2) (av b8 (aw 2) (dC (.int (48271))))) (dC (.int (2147483579)))) (dC (.int (5)))))))
noncomputable def aU:List W->ai->SM W:=bi 1 1
 (dI (sB (jV false (gB (lu 9000 [none] (jI (ac (af 0))) (aj 0) (ac (qm (sN (lJ (hV (iY "int") (af 0)))) (lJ (hV (iY "bool") (af 0))))) (ac (af 0)))) (ac (dC (.int (0)))))))
noncomputable def aL:List W->Option W:=dX 1 1
 (bc (av gSub' (av b7 (av b8 (aw 0) (dC (.int (2147483648)))) (dC (.int (4294967296)))) (dC (.int (2147483648)))))
noncomputable def fY:List W->Option W:=dX 3 3
 (aY (cG (aB d8 (aw 0) (dC (.str "+")))
  (bc (aP aL (aa (av b8 (aw 1) (af 2)) ah)))
  aH)
 (aY (cG (aB d8 (aw 0) (dC (.str "-")))
  (bc (aP aL (aa (av gSub' (aw 1) (af 2)) ah)))
  aH)
 (aY (cG (aB d8 (aw 0) (dC (.str "*")))
  (bc (aP aL (aa (av dZ (aw 1) (af 2)) ah)))
  aH)
 (aY (cG (aB d8 (aw 0) (dC (.str "div")))
  (bc (aP aL (aa (av ft (aw 1) (af 2)) ah)))
  aH)
 (aY (cG (aB d8 (aw 0) (dC (.str "rem")))
  (bc (av gSub' (aw 1) (av dZ (av ft (aw 1) (af 2)) (af 2))))
  aH)
 (aY (cG (aB d8 (aw 0) (dC (.str "<")))
  (bc (vC (dB (aB mj (aw 1) (aw 2)))))
  aH)
 (bc (vC (dB (aB d8 (aw 1) (aw 2)))))))))))
noncomputable def eP:List W->Option W:=dX 2 4
 (aY (aV (dC (.str "abcdefghijklmnopqrstuvwxyz")) (aj 2))
 (aY (aV (av b8 (av bd (aw 2) (av b7 (av ft (aw 0) (dC (.int (26)))) (dC (.int (26))))) (av bd (aw 2) (av b7 (aw 0) (dC (.int (26)))))) (aj 3))
 (aY (cG (lJ (af 1))
  (bc (av b8 (aw 3) (dC (.str "qx"))))
  aH)
 (bc (av b8 (dC (.str "qx")) (af 3))))))
noncomputable def eG:List W->Option W:=dX 2 2
 (aY (cG (aB qj (av bd (aw 0) (dC (.int (4)))) (dC (.str "")))
  (bc (ba (aa (ba (aa (dC (.str "box")) (aa (av bd (aw 0) (dC (.int (0)))) ah))) (aa (dC .none) (aa (av b8 (av bd (aw 0) (dC (.int (2)))) (dC (.int (1)))) (aa (av bd (aw 0) (dC (.int (3)))) (aa (av bd (aw 0) (dC (.int (4)))) ah)))))))
  aH)
 (aY (cG (qm (aB mj (av bd (aw 0) (dC (.int (1)))) (dC (.int (0)))) (aB oT (av bd (aw 0) (dC (.int (1)))) (hV dF (aw 1))))
  (bc (ba (aa (ba (aa (dC (.str "box")) (aa (av bd (aw 0) (dC (.int (0)))) ah))) (aa (dC .none) (aa (av b8 (av bd (aw 0) (dC (.int (2)))) (dC (.int (1)))) (aa (av bd (aw 0) (dC (.int (3)))) (aa (dC (.str "outside")) ah)))))))
  aH)
 (bc (ba (aa (ba (aa (dC (.str "box")) (aa (av bd (aw 0) (dC (.int (0)))) ah))) (aa (av bd (aw 1) (av bd (aw 0) (dC (.int (1))))) (aa (av b8 (av bd (aw 0) (dC (.int (2)))) (dC (.int (1)))) (aa (av b8 (av bd (aw 0) (dC (.int (3)))) (b0 (bH (aa (av bd (aw 0) (dC (.int (1)))) ah)))) (aa (dC (.str "")) ah)))))))))
noncomputable def eE:List W->Option W:=dX 3 6
 (aY (aV (ba (aa (af 0) (aa (av bd (aw 1) (dC (.int (0)))) (aa (av bd (aw 2) (dC (.int (0)))) ah)))) (aj 3))
 (aY (aV (av b8 (dC (.int (1))) (dC2 iT (aa (av bd (aw 1) (dC (.int (2)))) (aa (av bd (aw 2) (dC (.int (2)))) ah)))) (aj 4))
 (aY (cG (aB qj (av bd (aw 1) (dC (.int (4)))) (dC (.str "")))
  (bc (ba (aa (af 3) (aa (dC .none) (aa (af 4) (aa (av bd (aw 1) (dC (.int (3)))) (aa (av bd (aw 1) (dC (.int (4)))) ah)))))))
  aH)
 (aY (aV (av b8 (av bd (aw 1) (dC (.int (3)))) (av bd (aw 2) (dC (.int (3))))) (aj 5))
 (aY (cG (aB qj (av bd (aw 2) (dC (.int (4)))) (dC (.str "")))
  (bc (ba (aa (af 3) (aa (dC .none) (aa (af 4) (aa (af 5) (aa (av bd (aw 2) (dC (.int (4)))) ah)))))))
  aH)
 (aY (cG (pc (aB mJ (aw 0) (ba (aa (dC (.str "div")) (aa (dC (.str "rem")) ah)))) (aB d8 (av bd (aw 2) (dC (.int (1)))) (dC (.int (0)))))
  (bc (ba (aa (af 3) (aa (dC .none) (aa (af 4) (aa (af 5) (aa (dC (.str "nought")) ah)))))))
  aH)
 (bc (ba (aa (af 3) (aa (aP fY (aa (af 0) (aa (av bd (aw 1) (dC (.int (1)))) (aa (av bd (aw 2) (dC (.int (1)))) ah)))) (aa (af 4) (aa (af 5) (aa (dC (.str "")) ah)))))))))))))
noncomputable def dP:List W->ai->SM W:=bi 5 11
 (ar (aq (aV (aP aW (aa (af 0) (aa (af 1) ah))) (aj 5)))
 (ar (aq (aV (av b7 (aP aW (aa (af 0) (aa (av b8 (aw 1) (dC (.int (200)))) ah))) (dC (.int (8)))) (aj 6)))
 (ar (cK (sIx (ac (af 2)) (Cw b7 (ac (af 5)) (gB (ac (af 2))))) (aj 7))
 (ar (cK (sIx (ac (af 2)) (Cw b7 (ac (av ft (aw 5) (dC (.int (64))))) (gB (ac (af 2))))) (aj 8))
 (ar (aq (aV (b0 (bH (aa (dC (.str "+")) (aa (dC (.str "-")) (aa (dC (.str "*")) (aa (dC (.str "div")) (aa (dC (.str "rem")) (aa (dC (.str "<")) (aa (dC (.str "=")) ah))))))))) (aj 9)))
 (ar (aq (cG (qm (aB mj (aw 6) (dC (.int (2)))) (qm (aB oT (av bd (aw 7) (dC (.int (2)))) (av gSub' (aw 4) (dC (.int (1))))) (aB oT (av bd (aw 8) (dC (.int (2)))) (aw 4))))
  (aY (aV (av gSub' (av b7 (av b8 (aw 0) (av dZ (aw 5) (dC (.int (7919))))) (dC (.int (1999999999)))) (dC (.int (999999999)))) (aj 10))
 (aY (cG (aB mj (av b7 (aw 5) (dC (.int (5)))) (dC (.int (2))))
  (aV (av gSub' (av b7 (aw 0) (dC (.int (9)))) (dC (.int (2)))) (aj 10))
  aH)
 (bc (ba (aa (ba (aa (dC (.str "num")) (aa (af 10) ah))) (aa (af 10) (aa (dC (.int (0))) (aa (b0 (bH ah)) (aa (dC (.str "")) ah)))))))))
  aH))
 (ar (aq (cG (aB mj (aw 6) (dC (.int (4))))
  (aY (cG (aB Fg (av b7 (av ft (aw 5) (dC (.int (4096)))) (dC (.int (4)))) (dC (.int (0))))
  (aV (aP eE (aa (dC (.str "rem")) (aa (af 7) (aa (ba (aa (ba (aa (dC (.str "num")) (aa (dC2 iT (aa (dC (.int (1))) (aa (hV dF (aw 3)) ah))) ah))) (aa (dC2 iT (aa (dC (.int (1))) (aa (hV dF (aw 3)) ah))) (aa (dC (.int (0))) (aa (b0 (bH ah)) (aa (dC (.str "")) ah)))))) ah)))) (aj 7))
  aH)
 (bc (aP eG (aa (af 7) (aa (af 3) ah)))))
  aH))
 (aq (bc (aP eE (aa (av bd (aw 9) (av b7 (av ft (aw 5) (dC (.int (4096)))) (dC (.int (7))))) (aa (af 7) (aa (af 8) ah)))))))))))))
noncomputable def fX:DS->ai->SO:=(ar (aq (aV (hV dF (aw 3)) (aj 6)))
 (ar (cK (bV dP (ac (aa (af 5) (aa (af 6) (aa (af 2) (aa (af 1) (aa (av b8 (dC (.int (2))) (av b7 (aP aF (aa (af 0) (aa (dC (.int (1))) ah))) (dC (.int (5))))) ah))))))) (aj 7))
 (ar (aq (bF 4 (af 7)))
 (cM (ac (aB d8 (av b7 (aP aW (aa (af 5) (aa (av b8 (aw 6) (dC (.int (400)))) ah))) (dC (.int (3)))) (dC (.int (1)))))
  (ar (aq (aV (aP eP (aa (af 6) (aa (dB (aB d8 (av b7 (aP aW (aa (aP aF (aa (af 0) (aa (dC (.int (1))) ah))) (aa (dC (.int (600))) ah))) (dC (.int (2)))) (dC (.int (0))))) ah))) (aj 8)))
 (ar (aq (bF 3 (ba (aa (dC (.str "set")) (aa (av b8 (aw 6) (dC (.int (2)))) (aa (af 8) (aa (av bd (aw 7) (dC (.int (0)))) ah)))))))
 (cM (ac (aB d8 (av bd (aw 7) (dC (.int (4)))) (dC (.str ""))))
  (br (ac (af 2)) (ac (ba (aa (ba (aa (dC (.str "name")) (aa (af 8) ah))) (aa (av bd (aw 7) (dC (.int (1)))) (aa (dC (.int (0))) (aa (b0 (bH ah)) (aa (dC (.str "")) ah))))))))
  (aq aH))))
  (ar (aq (bF 3 (ba (aa (dC (.str "tell")) (aa (av b8 (aw 6) (dC (.int (2)))) (aa (av bd (aw 7) (dC (.int (0)))) ah))))))
 (cM (ac (aB d8 (av bd (aw 7) (dC (.int (4)))) (dC (.str ""))))
  (br (ac (af 2)) (ac (af 7)))
  (aq aH)))))))
noncomputable def fP:List W->ai->SM W:=bi 3 9
 (ar (aq (lB 3 (bH ah)))
 (ar (aq (lB 4 (bH ah)))
 (ar (lQ (ac (dm (b0 (we (aw 0) (jT (dC (.int (4)))) (jT (dC (.int (90)))))))) (aj 5) fX)
 (aq (sj 3 (sj 4 (bc (ba (aa (af 3) (aa (af 4) ah))))))))))
noncomputable def fz:DS->Option eI:=(aY (cG (aB oT (hV dF (aw 6)) (aw 3))
 (aY (aV (ba (aa (dC (.str "tired")) (aa (av bd (aw 8) (dC (.int (1)))) ah))) (aj 7))
 kJ)
  aH)
 (aY (bF 6 (av bd (aw 8) (dC (.int (1)))))
 (aY (aV (av b8 (aw 5) (b0 (iN [some 8,none] (dm (av bd (aw 9) (dC (.int (3))))) (aj 1) hJ (ba (aa (dC (.str "get")) (aa (af 1) (aa (av bd (aw 0) (dC (.int (1)))) ah))))))) (aj 5))
 (aY (cG (aB qj (av bd (aw 9) (dC (.int (4)))) (dC (.str "")))
  (aY (aV (ba (aa (av bd (aw 9) (dC (.int (4)))) (aa (av bd (aw 8) (dC (.int (1)))) ah))) (aj 7))
 kJ)
  aH)
 (cG (aB d8 (av bd (aw 8) (dC (.int (0)))) (dC (.str "tell")))
  (bF 4 (av bd (aw 9) (dC (.int (1)))))
  aH)))))
noncomputable def cv:List W->ai->SM W:=bi 4 10
 (ar (aq (lB 4 (bH ah)))
 (ar (aq (aV (b0 (bH ah)) (aj 5)))
 (ar (aq (lB 6 (bH ah)))
 (ar (aq (aV (ba (aa (dC (.str "done")) (aa (av b8 (hV dF (aw 1)) (dC (.int (2)))) ah))) (aj 7)))
 (ar (aq (lX (Bo (aa (af 1) (aa (af 2) ah))) (jx 2 (eh (aj 8) (eh (aj 9) ke))) fz))
 (ar (iU 4 (cM (oU (jV true (ao "Story" "told" (ac (af 0))) (ac (af 4))) (oU (io (gG (bV aU (aG (ao "Story" "told" (ac (af 0))) bM)))) (oU (jV true (ao "Story" "end" (ac (af 0))) (ac (af 7))) (jV true (ao "Story" "brought" (ac (af 0))) (ac (b0 (bH ah)))))))
  (aq (bc (dC (.bool false))))
  (aq aH)))
 (ar (iU 6 (cM (oU (jV true (ao "Story" "lines" (ac (af 0))) (ac (af 6))) (oU (io (gG (bV aU (aG (ao "Story" "lines" (ac (af 0))) bM)))) (io (gG (bV aU (aG (cS (aG (ao "Story" "steps" (ac (af 0))) bM)) bM))))))
  (aq (bc (dC (.bool false))))
  (aq aH)))
 (dI (mY (sB (jV false (ao "Story" "steps" (ac (af 0))) (ac (hV dF (aw 6))))) (mY (sB (jV false (ao "Story" "touches" (ac (af 0))) (ac (b0 (bH (aa (af 5) ah)))))) (sB (Bq (ao "Story" "puts" (ac (af 0))) (uA (aG xh bM))))))))))))))
noncomputable def kQ:DS->Option eI:=(bF 5 (av gSub' (av b7 (av gSub' (av b8 (av dZ (aP aF (aa (af 0) (aa (af 6) ah))) (av b8 (aw 6) (dC (.int (3))))) (av dZ (aw 6) (dC (.int (977))))) (dC (.int (5)))) (av je (dC (.int (10))) (dC (.int (60))))) (av dZ (dC (.int (5))) (av je (dC (.int (10))) (dC (.int (59)))))))
noncomputable def wc:List W->ai->SM W:=bi 1 15
 (ar (aq (aV (aP aW (aa (aP aF (aa (af 0) (aa (dC (.int (0))) ah))) (aa (dC (.int (601))) ah))) (aj 1)))
 (ar (aq (aV (av b8 (dC (.int (1))) (av b7 (aw 1) (dC (.int (8))))) (aj 2)))
 (ar (aq (aV (av b7 (av ft (aw 1) (dC (.int (8)))) (af 2)) (aj 3)))
 (ar (aq (aV (av gSub' (av b7 (aP aF (aa (af 0) (aa (dC (.int (2))) ah))) (av je (dC (.int (10))) (dC (.int (60))))) (av dZ (dC (.int (5))) (av je (dC (.int (10))) (dC (.int (59)))))) (aj 4)))
 (ar (aq (lB 5 (bH ah)))
 (ar (aq (lX (wg (aa (av b7 (aP aF (aa (af 0) (aa (dC (.int (3))) ah))) (dC (.int (13)))) ah)) (aj 6) kQ))
 (ar (aq (aV (b0 (iN [none] (dm (aw 5)) (aj 0) hJ (aP aL (aa (af 0) ah)))) (aj 7)))
 (ar (aq (aV (b0 (bH (aa (ba (aa (ba (aa (dC (.str "lane")) ah)) (aa (af 3) (aa (dC (.int (0))) (aa (b0 (bH ah)) (aa (dC (.str "")) ah)))))) (aa (ba (aa (ba (aa (dC (.str "lanes")) ah)) (aa (af 2) (aa (dC (.int (0))) (aa (b0 (bH ah)) (aa (dC (.str "")) ah)))))) (aa (ba (aa (ba (aa (dC (.str "name")) (aa (dC (.str "zz")) ah))) (aa (dC (.int (0))) (aa (dC (.int (0))) (aa (b0 (bH ah)) (aa (dC (.str "")) ah)))))) ah))))) (aj 8)))
 (ar (cK (pK (ac (af 8)) (ac (b0 (bH (aa (ba (aa (ba (aa (dC (.str "mine")) ah)) (aa (aP aL (aa (af 4) ah)) (aa (dC (.int (0))) (aa (b0 (bH ah)) (aa (dC (.str "")) ah)))))) (aa (ba (aa (ba (aa (dC (.str "num")) (aa (dC (.int (0))) ah))) (aa (dC (.int (0))) (aa (dC (.int (0))) (aa (b0 (bH ah)) (aa (dC (.str "")) ah)))))) ah)))))) (aj 8))
 (ar (cK (bV fP (ac (aa (af 0) (aa (af 7) (aa (af 8) ah))))) (jx 2 (eh (aj 9) (eh (aj 10) ke))))
 (ar (aq (aV (dC (.int (1000))) (aj 11)))
 (ar (aq (cG (aB d8 (av b7 (av ft (aw 1) (dC (.int (64)))) (dC (.int (4)))) (dC (.int (1))))
  (aV (av b7 (av ft (aw 1) (dC (.int (256)))) (av b8 (hV dF (aw 9)) (dC (.int (2))))) (aj 11))
  aH))
 (ar (aq (aV (b0 (bH (aa (ba (aa (dC (.str "main")) (aa (b0 (bH ah)) (aa (af 9) (aa (dC (.int (1))) (aa (av b8 (hV dF (aw 9)) (dC (.int (2)))) ah)))))) ah))) (aj 12)))
 (ar (aq (aV (b0 (bH (aa (b0 (kO (aw 5))) (aa (mZ (af 12)) ah)))) (aj 13)))
 (ar (iU 5 (cK (bV gN (ac (aa (af 12) (aa (af 3) (aa (af 2) (aa (af 4) (aa (af 5) (aa (af 11) (aa (b0 (bH ah)) ah))))))))) (aj 14)))
 (ar (cM (oU (io (gG (bV cv (ac (aa (af 14) (aa (af 9) (aa (af 10) (aa (af 11) ah)))))))) (oU (ac (aB qj (aw 5) (av bd (aw 13) (dC (.int (0)))))) (ac (aB qj (mZ (af 12)) (av bd (aw 13) (dC (.int (1))))))))
  (aq (bc (dC (.bool false))))
  (aq aH))
 (ar (br (ao "Story" "told" (ac (af 14))) (ac (dC (.int (0)))))
 (ar (br (ao "Story" "lines" (ac (af 14))) (ac (dC (.int (0)))))
 (ar (br (ao "Story" "touches" (ac (af 14))) (ac (b0 (bH ah))))
 (iU 5 (dI (bV cv (aG (bV gN (ac (aa (af 12) (aa (af 3) (aa (af 2) (aa (af 4) (aa (af 5) (aa (af 11) (aa (b0 (bH ah)) ah))))))))) (aG (ac (af 9)) (aG (ac (af 10)) (aG (ac (af 11)) bM))))))))))))))))))))))))))
noncomputable def nS (K:Frag):Sp:=λ vs H Q _=>∃ (a:Addr) (ns:List Int),vs=[.ref a]/\cY K H a (ns.map V.int)/\ns.length<=63/\∀ H',Q (.bl true) H'
section
variable (P:Program) (w:World) (K:Frag) (mg:Str->Option Value) (base:Heap) (cl:Str->Addr)
noncomputable abbrev jM:Prop:=qN P w K mg base "wrapped" ["n"] [] 1 (qZ K cC)
noncomputable abbrev kq:Prop:=qN P w K mg base "unwrapped" ["word", "one", "other"] [] 1 (qZ K ib)
noncomputable abbrev pZ:Prop:=qN P w K mg base "worked" ["word", "one", "other"] [] 2 (qZ K ij)
noncomputable abbrev gO:Prop:=Ce (λ f fd=>Mk K (cl "Walk") f/\aR K fd ["self", "row"] []) P w K mg base 1 ["self", "row"] (iP K cl cA)
noncomputable abbrev ii:Prop:=Ce (λ f fd=>bt K (cl "Walk") "is_over" f/\aR K fd ["self"] []) P w K mg base 1 ["self"] (iP K cl cR)
noncomputable abbrev iJ:Prop:=Ce (λ f fd=>bt K (cl "Walk") "before" f/\aR K fd ["self"] []) P w K mg base 1 ["self"] (iP K cl fW)
noncomputable abbrev ju:Prop:=Ce (λ f fd=>bt K (cl "Walk") "taken" f/\aR K fd ["self"] []) P w K mg base 1 ["self"] (iP K cl gK)
noncomputable abbrev gz:Prop:=Ce (λ f fd=>Mk K (cl "Frame") f/\aR K fd ["self", "body", "names", "given"] []) P w K mg base 3 ["self", "body", "names", "given"] (iP K cl cj)
noncomputable abbrev fQ:Prop:=Ce (λ f fd=>bt K (cl "Frame") "statement" f/\aR K fd ["self"] []) P w K mg base 2 ["self"] (iP K cl cH)
noncomputable abbrev gX:Prop:=Ce (λ f fd=>bt K (cl "Frame") "pass_by" f/\aR K fd ["self"] []) P w K mg base 2 ["self"] (iP K cl d9)
noncomputable abbrev g8:Prop:=Ce (λ f fd=>Mk K (cl "Story") f/\aR K fd ["self"] []) P w K mg base 1 ["self"] (iP K cl bY)
noncomputable abbrev eS:Prop:=Ce (λ f fd=>bt K (cl "Story") "begin_phase" f/\aR K fd ["self"] []) P w K mg base 1 ["self"] (iP K cl dj)
noncomputable abbrev gy:Prop:=Ce (λ f fd=>bt K (cl "Story") "add_step" f/\aR K fd ["self", "line"] []) P w K mg base 1 ["self", "line"] (iP K cl dh)
noncomputable abbrev fM:Prop:=Ce (λ f fd=>bt K (cl "Story") "add_touch" f/\aR K fd ["self", "word", "place", "line"] []) P w K mg base 1 ["self", "word", "place", "line"] (iP K cl dS)
noncomputable abbrev kT:Prop:=Ce (λ f fd=>bt K (cl "Story") "finish" f/\aR K fd ["self", "word", "line"] []) P w K mg base 1 ["self", "word", "line"] (iP K cl b9)
noncomputable abbrev ie:Prop:=FS (λ f fd=>bt K (cl "Story") "finish" f/\aR K fd ["self", "word", "line"] []) P w K mg base 1 ["self", "word", "line"] (iP K cl b9)
noncomputable abbrev gU:Prop:=Ce (λ f fd=>Mk K (cl "Goer") f/\aR K fd ["self", "program", "lane", "lanes", "mine", "boxes", "most"] []) P w K mg base 5 ["self", "program", "lane", "lanes", "mine", "boxes", "most"] (iP K cl eR)
noncomputable abbrev jm:Prop:=xb (λ f fd=>bt K (cl "Goer") "touch" f/\aR K fd ["self", "word", "place"] []) P w K mg base 2 ["self", "word", "place"] (sZ K cl eZ)
noncomputable abbrev lN:Prop:=xb (λ f fd=>bt K (cl "Goer") "got" f/\aR K fd ["self", "place"] []) P w K mg base 3 ["self", "place"] (sZ K cl fh)
noncomputable abbrev gT:Prop:=xb (λ f fd=>bt K (cl "Goer") "reckoned" f/\aR K fd ["self", "expression"] []) P w K mg base 12 ["self", "expression"] (sZ K cl (ay 9))
noncomputable abbrev ky:Prop:=Ce (λ f fd=>bt K (cl "Goer") "give" f/\aR K fd ["self", "name", "number"] []) P w K mg base 1 ["self", "name", "number"] (iP K cl fJ)
noncomputable abbrev mH:Prop:=xb (λ f fd=>bt K (cl "Goer") "do" f/\aR K fd ["self", "statement"] []) P w K mg base 13 ["self", "statement"] (sZ K cl i8)
noncomputable abbrev ku:Prop:=Ce (λ f fd=>bt K (cl "Goer") "step" f/\aR K fd ["self", "statement"] []) P w K mg base 14 ["self", "statement"] (iP K cl iw)
noncomputable abbrev ik:Prop:=Ce (λ f fd=>bt K (cl "Goer") "end_def" f/\aR K fd ["self"] []) P w K mg base 2 ["self"] (iP K cl fA)
noncomputable abbrev n4:Prop:=Ce (λ f fd=>bt K (cl "Goer") "go" f/\aR K fd ["self"] []) P w K mg base 15 ["self"] (iP K cl iB)
noncomputable abbrev sv:Prop:=qN P w K mg base "alone" ["program", "lane", "lanes", "mine", "boxes", "most", "letters"] [] 16 (iP K cl gN)
noncomputable abbrev il:Prop:=qN P w K mg base "_law_cell" ["_law_script", "_law_k"] [] 1 (qZ K aF)
noncomputable abbrev eY:Prop:=qN P w K mg base "_law_mixed" ["_law_cell_here", "_law_k"] [] 1 (qZ K aW)
noncomputable abbrev g7:Prop:=qN P w K mg base "_law_all_whole" ["_law_row"] [] 1 (iP K cl aU)
noncomputable abbrev dW:Prop:=qN P w K mg base "_law_into_range" ["_law_number"] [] 1 (qZ K aL)
noncomputable abbrev iS:Prop:=qN P w K mg base "_law_result" ["_law_word", "_law_one", "_law_other"] [] 2 (qZ K fY)
noncomputable abbrev kj:Prop:=qN P w K mg base "_law_name" ["_law_k", "_law_front"] [] 1 (qZ K eP)
noncomputable abbrev iH:Prop:=qN P w K mg base "_law_of_box" ["_law_one", "_law_boxes"] [] 1 (qZ K eG)
noncomputable abbrev iK:Prop:=qN P w K mg base "_law_of_two" ["_law_word", "_law_one", "_law_other"] [] 3 (qZ K eE)
noncomputable abbrev j5:Prop:=qN P w K mg base "_law_built" ["_law_cell_here", "_law_at", "_law_pool", "_law_boxes", "_law_most_deep"] [] 4 (iP K cl dP)
noncomputable abbrev kh:Prop:=qN P w K mg base "_law_main" ["_law_script", "_law_boxes", "_law_pool"] [] 5 (iP K cl fP)
noncomputable abbrev jz:Prop:=qN P w K mg base "_law_holds" ["_law_story", "_law_rows", "_law_found", "_law_most"] [] 2 (iP K cl cv)
end
def rlX (s:String) (t:Lean.TSyntax `tactic):Lean.MacroM (Lean.TSyntax `tactic):=(s.splitOn ";").foldlM (λ t g=>do
 let l:=g.splitOn " "
 let u <-l.tail.foldlM (λ u n=>do
  let q:=n.splitOn ":"
  let i:=Lean.mkIdent ((if n.front.isDigit||n.front=='<' then n.drop 1 else q.head!).toName)
  let a <-if n.front.isDigit||n.front=='<' then pure (Array.replicate (n.front.toNat-48) (<- `(?_))) else (q.getLast!.toList.toArray.mapM λ c=>if c=='r' then `(rfl) else if c=='a' then `(by assumption) else if c=='d' then `(by first | decide | exact Nat.le_refl _ | exact Nat.le_add_right _ _ | omega) else if c=='k' then `(by decide +kernel) else `(?_))
  let v <-if q.tail.isEmpty && !n.front.isDigit&&n.front != '<' then `(tactic| apply $i) else `(tactic| refine $(Lean.Syntax.mkApp i a))
  `(tactic| first | $v:tactic | $u:tactic)) (<- `(tactic| fail))
 `(tactic| first | (show $(Lean.mkIdent l.head!.toName) ..;$u:tactic) | $t:tactic)) t
local macro_rules | `(tactic| left)=>do
 let t <-rlX "zd zd.nil zd.cons;FJ um;ST vU yO Eu BE B9 Dv xk C9 BD;GD yN;He xC;FG wG;DI C8 xz Bj;DR Av AB AE C4 B0 AM zZ;DG Ax xy;DB Em EW EK BI xZ DW ES DL DZ;GC wb;SA xF xL B1;D6 vq xp;DA yy BA;DK DE.dk BR;jh ub y8 vX yV vm pT sw mO w9 u4 ss zH vt wv Aw;DO xu A2 yK Au;SE C0 vQ El ux x8 vz wA AN yp vZ yr EG Bu vv yZ Er x9 Bw Ba EQ Aj xM rN yB DP;DE xW yo xS DO.de AR DD Cf EB AC xK C7 A5 Dr BY DX Bz B7;kP wM xO mT uM vF vV zS v5 wq uT y7 BJ;DT Cj AT Ae BO DQ A6 Cg" (<- `(tactic| first | assumption | decide))
 let u <-rlX "jh vm pT sw mO w9 u4 ss zH vt wv;kP mT uM vF vV zS v5 wq uT;Eq rfl" (<- `(tactic| first | exact E0 | decide))
 `(tactic| repeat' first | with_reducible (show (_:Prop);first | intro _ | $t:tactic) | $u:tactic)
local macro_rules | `(tactic| right)=>do
 let t <-rlX "yE 0Hk;qo 0CU;Ex 0FK 3ED;And 2And.intro;lq 1AD;fZ 0HB 0Dx;PassesOwn 0PassesOwn.never;Do 1Dd;F4 0GW;qR 0Dt 1DJ;PW 1Fu 2Hh 1GE 2HC;bD 7zT;PO 1FN;PI 6F3 4CO 2FV;gh 0HP 2Gw 0HW 0HF 0GH 0Ft 2Hw 0Fz 1B6 0GM 0Hc 0HZ 1Fj 0E7 0Gc 2Gd;CY 0Fn 3Fa;PT 1PW.pt 6Di 3Fo 2GU 1Gs 4Gb;PG 5FP 4FQ;PS 0DU 0FC 0D7 4A0 9Db 5GL 3Dh 5FA 6GF 2FB 3Ij 1GQ 6Ht <ut;vi 1Fy;kN 0Fm 1FZ 2Ee;PA 0Gy 3FD;PE 5Dq 5DY 2Ji 2IQ 5HY 8IE 6HN 9Ic 6Iw 4Fw 0EI 0HD 3FE 1Hz 3E4 2GV 2Ih 7Ey 4EU 0Gz 4Fh 1F0 1Ga 4Ik 3Ix 0Hl 4Gx 0Gv 9pe_cSet 5Gu" (<- `(tactic| intro _))
 let u <-rlX "Or Dg:r Or.inr:r Or.inl:r;At Or.inr:r Or.inl:r;FX Dg:r Or.inl:r;Exists Hm:aad;M2 M2.mk:rrrr;PE xr vO xw uR rT:rard wN:rad En;dU dU.mono:a?;bR bR.mono:ad;Paired Paired.nil:;cZ cZ.mk:rrrkrkk;PS y1;Exists tO:a;vL Dz:a;QB 1Gh 2FH 3q_sort 0IF 1HI;QM 0IA 0HS;gh 2Hw 2Gd;PS 3Hr;kN 2Ee 1FZ" (<- `(tactic| first | assumption | rfl | exact λ _ _=>rfl | exact λ _=>rfl | decide +kernel))
 `(tactic| ((repeat' first | with_reducible $t:tactic | $u:tactic);all_goals try decide))
section
variable {P:Program} {w:World} {K:Frag} {mg:Str->Option Value} {base:Heap} {cl:Str->Addr}
set_option maxHeartbeats 4000000
theorem qA (D:qU K mg "wrapped" ["n"] [] nk) {tL:Tok} (m_LEAST:mg "LEAST" = some (.int (-2147483648) tL)) (g_LEAST:∀ ρ G,Dw K ρ G (.int (-2147483648)) ((.int (-2147483648)))) {tS:Tok} (m_SPAN:mg "SPAN" = some (.int 4294967296 tS)) (g_SPAN:∀ ρ G,Dw K ρ G (.int 4294967296) ((.int 4294967296))):jM P w K mg base:=
 mv (N:=["n"]) D rfl (λ ρ=>by left) (by right) rfl rfl (by right)
theorem oO (D:qU K mg "unwrapped" ["word", "one", "other"] [] kf):kq P w K mg base:=
 mv (N:=["word", "one", "other"]) D rfl (λ ρ=>by left) (by right) rfl rfl (by right)
theorem tQ (D:qU K mg "worked" ["word", "one", "other"] [] p9) (_:jM P w K mg base) (_:kq P w K mg base):pZ P w K mg base:=
 mv (N:=["word", "one", "other"]) D rfl (λ ρ=>by left) (by right) rfl rfl (by right)
theorem jC (D:jl (λ f fd=>Mk K (cl "Walk") f/\aR K fd ["self", "row"] []) K "__init__" "Walk.__init__" cz) (_:mg "Walk" = some (.ref (cl "Walk"))) (_:dY K (cl "Walk")) (_:ae K (cl "Walk") "row") (_:ae K (cl "Walk") "at"):gO P w K mg base cl:=
 fB (N:=["self", "row"]) D rfl (by left) (by right) rfl rfl (by right)
theorem kG (D:jl (λ f fd=>bt K (cl "Walk") "is_over" f/\aR K fd ["self"] []) K "is_over" "Walk.is_over" cW) (_:mg "Walk" = some (.ref (cl "Walk"))) (_:dY K (cl "Walk")) (_:ae K (cl "Walk") "row") (_:ae K (cl "Walk") "at") (_:mg "len" = none):ii P w K mg base cl:=
 fB (N:=["self"]) D rfl (by left) (by right) rfl rfl (by right)
theorem lY (D:jl (λ f fd=>bt K (cl "Walk") "before" f/\aR K fd ["self"] []) K "before" "Walk.before" dy) (_:mg "Walk" = some (.ref (cl "Walk"))) (_:dY K (cl "Walk")) (_:ae K (cl "Walk") "row") (_:ae K (cl "Walk") "at"):iJ P w K mg base cl:=
 fB (N:=["self"]) D rfl (by left) (by right) rfl rfl (by right)
theorem my (D:jl (λ f fd=>bt K (cl "Walk") "taken" f/\aR K fd ["self"] []) K "taken" "Walk.taken" dM) (_:mg "Walk" = some (.ref (cl "Walk"))) (_:dY K (cl "Walk")) (_:ae K (cl "Walk") "row") (_:ae K (cl "Walk") "at"):ju P w K mg base cl:=
 fB (N:=["self", "thing"]) D rfl (by left) (by right) rfl rfl (by right)
theorem j7 (D:jl (λ f fd=>Mk K (cl "Frame") f/\aR K fd ["self", "body", "names", "given"] []) K "__init__" "Frame.__init__" cf) (h_Walk___init__:gO P w K mg base cl) (_:mg "Frame" = some (.ref (cl "Frame"))) (_:dY K (cl "Frame")) (_:ae K (cl "Frame") "names") (_:ae K (cl "Frame") "given") (_:ae K (cl "Frame") "walks") (_:ae K (cl "Frame") "loops") (_:mg "Walk" = some (.ref (cl "Walk"))) (_:dY K (cl "Walk")) (_:ae K (cl "Walk") "row") (_:ae K (cl "Walk") "at"):gz P w K mg base cl:=
 fB (N:=["self", "body", "names", "given"]) D rfl (by left) (by obtain ⟨_,_,⟨_,_⟩,_⟩:=h_Walk___init__;right) rfl rfl (by right)
theorem jf (D:jl (λ f fd=>bt K (cl "Frame") "statement" f/\aR K fd ["self"] []) K "statement" "Frame.statement" bP) (h_Walk_is_over:ii P w K mg base cl) (h_Walk_before:iJ P w K mg base cl) (_:mg "Frame" = some (.ref (cl "Frame"))) (_:dY K (cl "Frame")) (_:ae K (cl "Frame") "names") (_:ae K (cl "Frame") "given") (_:ae K (cl "Frame") "walks") (_:ae K (cl "Frame") "loops") (_:mg "Walk" = some (.ref (cl "Walk"))) (_:dY K (cl "Walk")) (_:ae K (cl "Walk") "row") (_:ae K (cl "Walk") "at") (_:mg "len" = none):fQ P w K mg base cl:=
 fB (N:=["self"]) D rfl (by left) (by obtain ⟨_,_,⟨_,_⟩,_⟩:=h_Walk_is_over;obtain ⟨_,_,⟨_,_⟩,_⟩:=h_Walk_before;right) rfl rfl (by right)
theorem jF (D:jl (λ f fd=>bt K (cl "Frame") "pass_by" f/\aR K fd ["self"] []) K "pass_by" "Frame.pass_by" cw) (h_Walk_taken:ju P w K mg base cl) (_:mg "Frame" = some (.ref (cl "Frame"))) (_:dY K (cl "Frame")) (_:ae K (cl "Frame") "names") (_:ae K (cl "Frame") "given") (_:ae K (cl "Frame") "walks") (_:ae K (cl "Frame") "loops") (_:mg "Walk" = some (.ref (cl "Walk"))) (_:dY K (cl "Walk")) (_:ae K (cl "Walk") "row") (_:ae K (cl "Walk") "at"):gX P w K mg base cl:=
 fB (N:=["self"]) D rfl (by left) (by obtain ⟨_,_,⟨_,_⟩,_⟩:=h_Walk_taken;right) rfl rfl (by right)
theorem jv (D:jl (λ f fd=>Mk K (cl "Story") f/\aR K fd ["self"] []) K "__init__" "Story.__init__" ci) (_:mg "Story" = some (.ref (cl "Story"))) (_:dY K (cl "Story")) (_:ae K (cl "Story") "told") (_:ae K (cl "Story") "steps") (_:ae K (cl "Story") "end") (_:ae K (cl "Story") "brought") (_:ae K (cl "Story") "touches") (_:ae K (cl "Story") "puts") (_:ae K (cl "Story") "lines"):g8 P w K mg base cl:=
 fB (N:=["self"]) D rfl (by left) (by right) rfl rfl (by right)
theorem ig (D:jl (λ f fd=>bt K (cl "Story") "begin_phase" f/\aR K fd ["self"] []) K "begin_phase" "Story.begin_phase" bG) (_:mg "Story" = some (.ref (cl "Story"))) (_:dY K (cl "Story")) (_:ae K (cl "Story") "told") (_:ae K (cl "Story") "steps") (_:ae K (cl "Story") "end") (_:ae K (cl "Story") "brought") (_:ae K (cl "Story") "touches") (_:ae K (cl "Story") "puts") (_:ae K (cl "Story") "lines"):eS P w K mg base cl:=
 fB (N:=["self"]) D rfl (by left) (by right) rfl rfl (by right)
theorem jw (D:jl (λ f fd=>bt K (cl "Story") "add_step" f/\aR K fd ["self", "line"] []) K "add_step" "Story.add_step" bZ) (_:mg "Story" = some (.ref (cl "Story"))) (_:dY K (cl "Story")) (_:ae K (cl "Story") "told") (_:ae K (cl "Story") "steps") (_:ae K (cl "Story") "end") (_:ae K (cl "Story") "brought") (_:ae K (cl "Story") "touches") (_:ae K (cl "Story") "puts") (_:ae K (cl "Story") "lines"):gy P w K mg base cl:=
 fB (N:=["self", "line"]) D rfl (by left) (by right) rfl rfl (by right)
theorem jd (D:jl (λ f fd=>bt K (cl "Story") "add_touch" f/\aR K fd ["self", "word", "place", "line"] []) K "add_touch" "Story.add_touch" bQ) (_:mg "Story" = some (.ref (cl "Story"))) (_:dY K (cl "Story")) (_:ae K (cl "Story") "told") (_:ae K (cl "Story") "steps") (_:ae K (cl "Story") "end") (_:ae K (cl "Story") "brought") (_:ae K (cl "Story") "touches") (_:ae K (cl "Story") "puts") (_:ae K (cl "Story") "lines"):fM P w K mg base cl:=
 fB (N:=["self", "word", "place", "line"]) D rfl (by left) (by right) rfl rfl (by right)
theorem kD (D:jl (λ f fd=>bt K (cl "Story") "finish" f/\aR K fd ["self", "word", "line"] []) K "finish" "Story.finish" cV) (_:mg "Story" = some (.ref (cl "Story"))) (_:dY K (cl "Story")) (_:ae K (cl "Story") "told") (_:ae K (cl "Story") "steps") (_:ae K (cl "Story") "end") (_:ae K (cl "Story") "brought") (_:ae K (cl "Story") "touches") (_:ae K (cl "Story") "puts") (_:ae K (cl "Story") "lines"):ie P w K mg base cl:=
 Hf (N:=["self", "word", "line"]) D rfl (by left) (by right) rfl rfl (by right)
theorem jH (D:jl (λ f fd=>Mk K (cl "Goer") f/\aR K fd ["self", "program", "lane", "lanes", "mine", "boxes", "most"] []) K "__init__" "Goer.__init__" cx) (_:jM P w K mg base) (h_Frame___init__:gz P w K mg base cl) (h_Story___init__:g8 P w K mg base cl) (h_Story_begin_phase:eS P w K mg base cl) (_:mg "Frame" = some (.ref (cl "Frame"))) (_:dY K (cl "Frame")) (_:ae K (cl "Frame") "names") (_:ae K (cl "Frame") "given") (_:ae K (cl "Frame") "walks") (_:ae K (cl "Frame") "loops") (_:mg "Goer" = some (.ref (cl "Goer"))) (_:dY K (cl "Goer")) (_:ae K (cl "Goer") "defs") (_:ae K (cl "Goer") "lane") (_:ae K (cl "Goer") "signs") (_:ae K (cl "Goer") "boxes") (_:ae K (cl "Goer") "most") (_:ae K (cl "Goer") "frames") (_:ae K (cl "Goer") "line") (_:ae K (cl "Goer") "meeting") (_:ae K (cl "Goer") "story") (_:mg "Story" = some (.ref (cl "Story"))) (_:dY K (cl "Story")) (_:ae K (cl "Story") "told") (_:ae K (cl "Story") "steps") (_:ae K (cl "Story") "end") (_:ae K (cl "Story") "brought") (_:ae K (cl "Story") "touches") (_:ae K (cl "Story") "puts") (_:ae K (cl "Story") "lines"):gU P w K mg base cl:=
 fB (N:=["self", "program", "lane", "lanes", "mine", "boxes", "most", "each"]) D rfl (by left) (by obtain ⟨_,_,⟨_,_⟩,_⟩:=h_Frame___init__;obtain ⟨_,_,⟨_,_⟩,_⟩:=h_Story___init__;obtain ⟨_,_,⟨_,_⟩,_⟩:=h_Story_begin_phase;right) rfl rfl (by right)
theorem mi (D:jl (λ f fd=>bt K (cl "Goer") "touch" f/\aR K fd ["self", "word", "place"] []) K "touch" "Goer.touch" dR) (h_Story_add_touch:fM P w K mg base cl) (_:mg "Goer" = some (.ref (cl "Goer"))) (_:dY K (cl "Goer")) (_:ae K (cl "Goer") "defs") (_:ae K (cl "Goer") "lane") (_:ae K (cl "Goer") "signs") (_:ae K (cl "Goer") "boxes") (_:ae K (cl "Goer") "most") (_:ae K (cl "Goer") "frames") (_:ae K (cl "Goer") "line") (_:ae K (cl "Goer") "meeting") (_:ae K (cl "Goer") "story") (_:mg "Story" = some (.ref (cl "Story"))) (_:dY K (cl "Story")) (_:ae K (cl "Story") "told") (_:ae K (cl "Story") "steps") (_:ae K (cl "Story") "end") (_:ae K (cl "Story") "brought") (_:ae K (cl "Story") "touches") (_:ae K (cl "Story") "puts") (_:ae K (cl "Story") "lines") (_:mg "Outside" = some (.ref (cl "Outside"))) (_:XClE K (cl "Outside")) (_:mg "len" = none):jm P w K mg base cl:=
 x5 (N:=["self", "word", "place"]) D rfl (λ E=>⟨_,by left,by obtain ⟨_,_,⟨_,_⟩,_⟩:=h_Story_add_touch;right⟩) rfl rfl (by right)
theorem pN (D:jl (λ f fd=>bt K (cl "Goer") "got" f/\aR K fd ["self", "place"] []) K "got" "Goer.got" fg) (h_Goer_touch:jm P w K mg base cl) (_:mg "Goer" = some (.ref (cl "Goer"))) (_:dY K (cl "Goer")) (_:ae K (cl "Goer") "defs") (_:ae K (cl "Goer") "lane") (_:ae K (cl "Goer") "signs") (_:ae K (cl "Goer") "boxes") (_:ae K (cl "Goer") "most") (_:ae K (cl "Goer") "frames") (_:ae K (cl "Goer") "line") (_:ae K (cl "Goer") "meeting") (_:ae K (cl "Goer") "story"):lN P w K mg base cl:=
 x5 (N:=["self", "place"]) D rfl (λ E=>⟨_,by left,by obtain ⟨_,_,⟨_,_⟩,_⟩:=h_Goer_touch;right⟩) rfl rfl (by right)
theorem jO (D:jl (λ f fd=>bt K (cl "Goer") "reckoned" f/\aR K fd ["self", "expression"] []) K "reckoned" "Goer.reckoned" cB) (h_Goer_got:lN P w K mg base cl) (_:pZ P w K mg base) (_:mg "Frame" = some (.ref (cl "Frame"))) (_:dY K (cl "Frame")) (_:ae K (cl "Frame") "names") (_:ae K (cl "Frame") "given") (_:ae K (cl "Frame") "walks") (_:ae K (cl "Frame") "loops") (_:mg "Goer" = some (.ref (cl "Goer"))) (_:dY K (cl "Goer")) (_:ae K (cl "Goer") "defs") (_:ae K (cl "Goer") "lane") (_:ae K (cl "Goer") "signs") (_:ae K (cl "Goer") "boxes") (_:ae K (cl "Goer") "most") (_:ae K (cl "Goer") "frames") (_:ae K (cl "Goer") "line") (_:ae K (cl "Goer") "meeting") (_:ae K (cl "Goer") "story") (_:mg "Nought" = some (.ref (cl "Nought"))) (_:XClE K (cl "Nought")) {a_SIGNS:Addr} (m_SIGNS:mg "SIGNS" = some (.ref a_SIGNS)) (g_SIGNS:AV K a_SIGNS ([(Str.ofString "lane"),(Str.ofString "lanes"),(Str.ofString "mine")])):gT P w K mg base cl:=
 sd (k:=3) (F:=λ n=>sZ K cl (ay n)) (Bg D λ _ _=>rfl) (λ n hself=>x5 (N:=["self", "expression", "kind", "number"]) D rfl (λ E=>⟨_,by left,by obtain ⟨_,_,⟨_,_⟩,_⟩:=h_Goer_got;obtain ⟨_,_,⟨_,_⟩,_⟩:=hself;right⟩) rfl rfl (by right)) 9
theorem nQ (D:jl (λ f fd=>bt K (cl "Goer") "give" f/\aR K fd ["self", "name", "number"] []) K "give" "Goer.give" eM) (_:mg "Frame" = some (.ref (cl "Frame"))) (_:dY K (cl "Frame")) (_:ae K (cl "Frame") "names") (_:ae K (cl "Frame") "given") (_:ae K (cl "Frame") "walks") (_:ae K (cl "Frame") "loops") (_:mg "Goer" = some (.ref (cl "Goer"))) (_:dY K (cl "Goer")) (_:ae K (cl "Goer") "defs") (_:ae K (cl "Goer") "lane") (_:ae K (cl "Goer") "signs") (_:ae K (cl "Goer") "boxes") (_:ae K (cl "Goer") "most") (_:ae K (cl "Goer") "frames") (_:ae K (cl "Goer") "line") (_:ae K (cl "Goer") "meeting") (_:ae K (cl "Goer") "story"):ky P w K mg base cl:=
 fB (N:=["self", "name", "number"]) D rfl (by left) (by right) rfl rfl (by right)
theorem r6 (D:jl (λ f fd=>bt K (cl "Goer") "do" f/\aR K fd ["self", "statement"] []) K "do" "Goer.do" gv) (h_Frame_pass_by:gX P w K mg base cl) (h_Goer_give:ky P w K mg base cl) (h_Goer_reckoned:gT P w K mg base cl) (_:mg "Frame" = some (.ref (cl "Frame"))) (_:dY K (cl "Frame")) (_:ae K (cl "Frame") "names") (_:ae K (cl "Frame") "given") (_:ae K (cl "Frame") "walks") (_:ae K (cl "Frame") "loops") (_:mg "Goer" = some (.ref (cl "Goer"))) (_:dY K (cl "Goer")) (_:ae K (cl "Goer") "defs") (_:ae K (cl "Goer") "lane") (_:ae K (cl "Goer") "signs") (_:ae K (cl "Goer") "boxes") (_:ae K (cl "Goer") "most") (_:ae K (cl "Goer") "frames") (_:ae K (cl "Goer") "line") (_:ae K (cl "Goer") "meeting") (_:ae K (cl "Goer") "story") (_:mg "Story" = some (.ref (cl "Story"))) (_:dY K (cl "Story")) (_:ae K (cl "Story") "told") (_:ae K (cl "Story") "steps") (_:ae K (cl "Story") "end") (_:ae K (cl "Story") "brought") (_:ae K (cl "Story") "touches") (_:ae K (cl "Story") "puts") (_:ae K (cl "Story") "lines"):mH P w K mg base cl:=
 x5 (N:=["self", "statement", "kind"]) D rfl (λ E=>⟨_,by left,by obtain ⟨_,_,⟨_,_⟩,_⟩:=h_Frame_pass_by;obtain ⟨_,_,⟨_,_⟩,_⟩:=h_Goer_give;obtain ⟨_,_,⟨_,_⟩,_⟩:=h_Goer_reckoned;right⟩) rfl rfl (by right)
theorem nP (D:jl (λ f fd=>bt K (cl "Goer") "step" f/\aR K fd ["self", "statement"] []) K "step" "Goer.step" eN) (h_Story_add_step:gy P w K mg base cl) (h_Goer_do:mH P w K mg base cl) (_:mg "Goer" = some (.ref (cl "Goer"))) (_:dY K (cl "Goer")) (_:ae K (cl "Goer") "defs") (_:ae K (cl "Goer") "lane") (_:ae K (cl "Goer") "signs") (_:ae K (cl "Goer") "boxes") (_:ae K (cl "Goer") "most") (_:ae K (cl "Goer") "frames") (_:ae K (cl "Goer") "line") (_:ae K (cl "Goer") "meeting") (_:ae K (cl "Goer") "story") (_:mg "Story" = some (.ref (cl "Story"))) (_:dY K (cl "Story")) (_:ae K (cl "Story") "told") (_:ae K (cl "Story") "steps") (_:ae K (cl "Story") "end") (_:ae K (cl "Story") "brought") (_:ae K (cl "Story") "touches") (_:ae K (cl "Story") "puts") (_:ae K (cl "Story") "lines") (_:mg "Nought" = some (.ref (cl "Nought"))) (_:mg "Outside" = some (.ref (cl "Outside"))) (_:By K (cl "Nought") (cl "Outside")) (hn_Story_finish:ie P w K mg base cl):ku P w K mg base cl:=
 fB (N:=["self", "statement"]) D rfl (by left) (by obtain ⟨_,_,⟨_,_⟩,_⟩:=h_Story_add_step;obtain ⟨_,_,⟨_,_⟩,_⟩:=h_Goer_do;obtain ⟨_,_,⟨_,_⟩,hF⟩:=hn_Story_finish;have:=hF.all;right) rfl rfl (by right)
theorem kA (D:jl (λ f fd=>bt K (cl "Goer") "end_def" f/\aR K fd ["self"] []) K "end_def" "Goer.end_def" cQ) (h_Story_finish:kT P w K mg base cl) (_:mg "Goer" = some (.ref (cl "Goer"))) (_:dY K (cl "Goer")) (_:ae K (cl "Goer") "defs") (_:ae K (cl "Goer") "lane") (_:ae K (cl "Goer") "signs") (_:ae K (cl "Goer") "boxes") (_:ae K (cl "Goer") "most") (_:ae K (cl "Goer") "frames") (_:ae K (cl "Goer") "line") (_:ae K (cl "Goer") "meeting") (_:ae K (cl "Goer") "story") (_:mg "Story" = some (.ref (cl "Story"))) (_:dY K (cl "Story")) (_:ae K (cl "Story") "told") (_:ae K (cl "Story") "steps") (_:ae K (cl "Story") "end") (_:ae K (cl "Story") "brought") (_:ae K (cl "Story") "touches") (_:ae K (cl "Story") "puts") (_:ae K (cl "Story") "lines") (_:mg "len" = none):ik P w K mg base cl:=
 fB (N:=["self"]) D rfl (by left) (by obtain ⟨_,_,⟨_,_⟩,_⟩:=h_Story_finish;right) rfl rfl (by right)
theorem rq (D:jl (λ f fd=>bt K (cl "Goer") "go" f/\aR K fd ["self"] []) K "go" "Goer.go" gt) (h_Frame_statement:fQ P w K mg base cl) (h_Goer_end_def:ik P w K mg base cl) (h_Goer_step:ku P w K mg base cl) (_:mg "Frame" = some (.ref (cl "Frame"))) (_:dY K (cl "Frame")) (_:ae K (cl "Frame") "names") (_:ae K (cl "Frame") "given") (_:ae K (cl "Frame") "walks") (_:ae K (cl "Frame") "loops") (_:mg "Goer" = some (.ref (cl "Goer"))) (_:dY K (cl "Goer")) (_:ae K (cl "Goer") "defs") (_:ae K (cl "Goer") "lane") (_:ae K (cl "Goer") "signs") (_:ae K (cl "Goer") "boxes") (_:ae K (cl "Goer") "most") (_:ae K (cl "Goer") "frames") (_:ae K (cl "Goer") "line") (_:ae K (cl "Goer") "meeting") (_:ae K (cl "Goer") "story") (_:mg "Story" = some (.ref (cl "Story"))) (_:dY K (cl "Story")) (_:ae K (cl "Story") "told") (_:ae K (cl "Story") "steps") (_:ae K (cl "Story") "end") (_:ae K (cl "Story") "brought") (_:ae K (cl "Story") "touches") (_:ae K (cl "Story") "puts") (_:ae K (cl "Story") "lines"):n4 P w K mg base cl:=
 fB (N:=["self", "statement"]) D rfl (by left) (by obtain ⟨_,_,⟨_,_⟩,_⟩:=h_Frame_statement;obtain ⟨_,_,⟨_,_⟩,_⟩:=h_Goer_end_def;obtain ⟨_,_,⟨_,_⟩,_⟩:=h_Goer_step;right) rfl rfl (by right)
theorem vc (D:qU K mg "alone" ["program", "lane", "lanes", "mine", "boxes", "most", "letters"] [] rS) (h_Goer___init__:gU P w K mg base cl) (h_Goer_go:n4 P w K mg base cl) (_:mg "Goer" = some (.ref (cl "Goer"))) (_:dY K (cl "Goer")) (_:ae K (cl "Goer") "defs") (_:ae K (cl "Goer") "lane") (_:ae K (cl "Goer") "signs") (_:ae K (cl "Goer") "boxes") (_:ae K (cl "Goer") "most") (_:ae K (cl "Goer") "frames") (_:ae K (cl "Goer") "line") (_:ae K (cl "Goer") "meeting") (_:ae K (cl "Goer") "story"):sv P w K mg base cl:=
 fB (N:=["program", "lane", "lanes", "mine", "boxes", "most", "letters", "goer", "letter"]) D rfl (by left) (by obtain ⟨_,_,⟨_,_⟩,_⟩:=h_Goer___init__;obtain ⟨_,_,⟨_,_⟩,_⟩:=h_Goer_go;right) rfl rfl (by right)
theorem n6 (D:qU K mg "_law_cell" ["_law_script", "_law_k"] [] kg) (_:mg "len" = none):il P w K mg base:=
 mv (N:=["_law_script", "_law_k"]) D rfl (λ ρ=>by left) (by right) rfl rfl (by right)
theorem m9 (D:qU K mg "_law_mixed" ["_law_cell_here", "_law_k"] [] js):eY P w K mg base:=
 mv (N:=["_law_cell_here", "_law_k", "_law_number"]) D rfl (λ ρ=>by left) (by right) rfl rfl (by right)
theorem j6 (D:qU K mg "_law_all_whole" ["_law_row"] [] gj) (_:mg "len" = none) (_:mg "isinstance" = none) (_:mg "bool" = none) (_:mg "int" = none):g7 P w K mg base cl:=
 fB (N:=["_law_row"]) D rfl (by left) (by right) rfl rfl (by right)
theorem jg (D:qU K mg "_law_into_range" ["_law_number"] [] fK):dW P w K mg base:=
 mv (N:=["_law_number"]) D rfl (λ ρ=>by left) (by right) rfl rfl (by right)
theorem la (D:qU K mg "_law_result" ["_law_word", "_law_one", "_law_other"] [] iI) (_:dW P w K mg base) (_:mg "int" = none):iS P w K mg base:=
 mv (N:=["_law_word", "_law_one", "_law_other"]) D rfl (λ ρ=>by left) (by right) rfl rfl (by right)
theorem oJ (D:qU K mg "_law_name" ["_law_k", "_law_front"] [] km):kj P w K mg base:=
 mv (N:=["_law_k", "_law_front", "_law_letters", "_law_word"]) D rfl (λ ρ=>by left) (by right) rfl rfl (by right)
theorem lj (D:qU K mg "_law_of_box" ["_law_one", "_law_boxes"] [] iM) (_:mg "len" = none):iH P w K mg base:=
 mv (N:=["_law_one", "_law_boxes"]) D rfl (λ ρ=>by left) (by right) rfl rfl (by right)
theorem kU (D:qU K mg "_law_of_two" ["_law_word", "_law_one", "_law_other"] [] iL) (_:iS P w K mg base) (_:mg "max" = none):iK P w K mg base:=
 mv (N:=["_law_word", "_law_one", "_law_other", "_law_told", "_law_deep", "_law_reads"]) D rfl (λ ρ=>by left) (by right) rfl rfl (by right)
theorem me (D:qU K mg "_law_built" ["_law_cell_here", "_law_at", "_law_pool", "_law_boxes", "_law_most_deep"] [] jp) (_:eY P w K mg base) (_:iK P w K mg base) (_:iH P w K mg base) (_:mg "len" = none) (_:mg "max" = none):j5 P w K mg base cl:=
 fB (N:=["_law_cell_here", "_law_at", "_law_pool", "_law_boxes", "_law_most_deep", "_law_number", "_law_kind", "_law_one", "_law_other", "_law_words", "_law_drawn"]) D rfl (by left) (by right) rfl rfl (by right)
theorem nA (D:qU K mg "_law_main" ["_law_script", "_law_boxes", "_law_pool"] [] kb) (_:j5 P w K mg base cl) (_:il P w K mg base) (_:eY P w K mg base) (_:kj P w K mg base) (_:mg "len" = none):kh P w K mg base cl:=
 fB (N:=["_law_script", "_law_boxes", "_law_pool", "_law_rows", "_law_found", "_law_cell_here", "_law_at", "_law_one", "_law_name_here"]) D rfl (by left) (by right) rfl rfl (by right)
theorem m7 (D:qU K mg "_law_holds" ["_law_story", "_law_rows", "_law_found", "_law_most"] [] j9) (_:g7 P w K mg base cl) (_:mg "Story" = some (.ref (cl "Story"))) (_:dY K (cl "Story")) (_:ae K (cl "Story") "told") (_:ae K (cl "Story") "steps") (_:ae K (cl "Story") "end") (_:ae K (cl "Story") "brought") (_:ae K (cl "Story") "touches") (_:ae K (cl "Story") "puts") (_:ae K (cl "Story") "lines") (_:mg "len" = none) (_:mg "zip" = none):jz P w K mg base cl:=
 fB (N:=["_law_story", "_law_rows", "_law_found", "_law_most", "_law_told", "_law_reads", "_law_lines", "_law_end", "_law_row", "_law_one"]) D rfl (by left) (by right) rfl rfl (by right)
theorem CH {R:Addr->FuncData->Prop} (hlaw:∀ ns:List Int,ns.length<=63->∃ S,wc [.list (ns.map .int)] []=some (.ok (.bool true),S)) (D:jl R K "law" "law" pX) (_:eY P w K mg base) (_:il P w K mg base) (_:dW P w K mg base) (_:kh P w K mg base cl) (_:sv P w K mg base cl) (_:jz P w K mg base cl) (_:mg "Story" = some (.ref (cl "Story"))) (_:dY K (cl "Story")) (_:ae K (cl "Story") "told") (_:ae K (cl "Story") "steps") (_:ae K (cl "Story") "end") (_:ae K (cl "Story") "brought") (_:ae K (cl "Story") "touches") (_:ae K (cl "Story") "puts") (_:ae K (cl "Story") "lines") (_:mg "range" = none) (_:mg "len" = none) (_:mg "repr" = none) (_:mg "list" = none):Ce R P w K mg base 17 ["_law_script"] (nS K):=
 Ce.imp (sp:=iP K cl wc) (fB (N:=["_law_script", "_law_first", "_law_lanes", "_law_lane", "_law_mine", "_law_handed", "_law_k", "_law_boxes", "_law_pool", "_law_rows", "_law_found", "_law_most", "_law_program", "_law_kept", "_law_story"]) D rfl (by left) (by right) rfl rfl (by right)) λ vs H Q E h=>by
  obtain ⟨a,ns,rfl,hS,h63,q⟩:=h
  obtain ⟨Sf,hl⟩:=hlaw ns h63
  exact ⟨[],H,[],[.list (ns.map .int)],.bool true,Sf,.refl _,Ci,.cons (.lst hS (.ints ns)) .nil,hl,λ v ρ' G' H' g s dv=>by cases dv;exact q H'⟩
end
inductive Tr where
 | num (v:Int) | sig (k:Fin 3) | nam (x:Str) | box (t:Tr) | op (k:Fin 7) (a b:Tr)
noncomputable def wV (i:Fin 3):Str:=[Str.ofString "lane", Str.ofString "lanes", Str.ofString "mine"].getD i.1 ""
noncomputable def eX (i:Fin 7):Str:=[Str.ofString "+", Str.ofString "-", Str.ofString "*", Str.ofString "div", Str.ofString "rem", Str.ofString "<", Str.ofString "="].getD i.1 ""
noncomputable def tw:Tr->W
 | .num v=>.tuple [.str "num", .int v]
 | .sig k=>.tuple [.str (wV k)]
 | .nam x=>.tuple [.str "name", .str x]
 | .box t=>.tuple [.str "box", tw t]
 | .op k a b=>.tuple [.str (eX k),tw a,tw b]
noncomputable def dQ:Tr->Nat
 | .num _=>0 | .sig _=>0 | .nam _=>0
 | .box t=>dQ t+1
 | .op _ a b=>max (dQ a) (dQ b)+1
theorem IJ:∀ k,decide (wV k=Str.ofString "num")=false:=by decide +kernel
theorem Jn:∀ k,decide (wV k=Str.ofString "name")=false:=by decide +kernel
theorem Jj:∀ k,mJ (.str (wV k)) (.tuple [.str "lane", .str "lanes", .str "mine"])=some true:=by decide +kernel
theorem IX:∀ k,decide (eX k=Str.ofString "num")=false:=by decide +kernel
theorem Jz:∀ k,decide (eX k=Str.ofString "name")=false:=by decide +kernel
theorem IR:∀ k,decide (eX k=Str.ofString "box")=false:=by decide +kernel
theorem IM:∀ k,mJ (.str (eX k)) (.tuple [.str "lane", .str "lanes", .str "mine"])=some false:=by decide +kernel
theorem Jl:decide (Str.ofString "name" = Str.ofString "num")=false:=by decide +kernel
theorem JA:decide (Str.ofString "box" = Str.ofString "num")=false:=by decide +kernel
theorem IN:decide (Str.ofString "box" = Str.ofString "name")=false:=by decide +kernel
theorem IS:mJ (.str "box") (.tuple [.str "lane", .str "lanes", .str "mine"])=some false:=by decide +kernel
theorem tF {f:DS->Option W} {δ:DS} {a b:Str} (h1:f δ=some (.str a)) (h2:decide (a=b)=false):aB d8 f (dC (.str b)) δ=some false:=by simp! [uD,h1,h2]
theorem tT {f:DS->Option W} {δ:DS} {a:Str} (h1:f δ=some (.str a)):aB d8 f (dC (.str a)) δ=some true:=by simp! [uD,h1]
theorem sF {f:DS->Option W} {δ:DS} {a b:Str} {S:ai} (h1:f δ=some (.str a)) (h2:decide (a=b)=false):ac (aB d8 f (dC (.str b))) δ S=some (.ok false,S):=aC (tF h1 h2)
theorem sT {f:DS->Option W} {δ:DS} {a:Str} {S:ai} (h1:f δ=some (.str a)):ac (aB d8 f (dC (.str a))) δ S=some (.ok true,S):=aC (tT h1)
theorem x0 {f:DS->Option W} {δ:DS} {w:W} {l:List W} (h:f δ=some (.tuple (w::l))):av bd f (dC (.int (0))) δ=some w:=by simp only [av,h,dC,Option.bind_some,ni,Ec]
theorem x1 {f:DS->Option W} {δ:DS} {v w:W} {l:List W} (h:f δ=some (.tuple (v::w::l))):av bd f (dC (.int (1))) δ=some w:=by simp only [av,h,dC,Option.bind_some,ni,CK]
theorem x2 {f:DS->Option W} {δ:DS} {u v w:W} {l:List W} (h:f δ=some (.tuple (u::v::w::l))):av bd f (dC (.int (2))) δ=some w:=by simp only [av,h,dC,Option.bind_some,ni,EV]
theorem x3 {f:DS->Option W} {δ:DS} {t u v w:W} {l:List W} (h:f δ=some (.tuple (t::u::v::w::l))):av bd f (dC (.int (3))) δ=some w:=by simp only [av,h,dC,Option.bind_some,ni,Da]
theorem x4 {f:DS->Option W} {δ:DS} {s t u v w:W} {l:List W} (h:f δ=some (.tuple (s::t::u::v::w::l))):av bd f (dC (.int (4))) δ=some w:=by simp only [av,h,dC,Option.bind_some,ni,Aq]
theorem cr {f g:DS->Option eI} {δ:DS} {d:W} (h:f δ=some (.rt d)):aY f g δ=some (.rt d):=by unfold aY;rw [h]
theorem pF {f:DS->Option W} {δ:DS} {a b:Str} {S:ai} {g:DS->Option eI} {k:DS->ai->SO} (h1:f δ=some (.str a)) (h2:decide (a=b)=false):ar (aq (cG (aB d8 f (dC (.str b))) g aH)) k δ S=k δ S:=ag (ax (aE (b:=false) (tF h1 h2) rfl))
theorem cF {f:DS->Option W} {δ:DS} {a b:Str} {S:ai} {g k:DS->ai->SO} (h1:f δ=some (.str a)) (h2:decide (a=b)=false):ar (cM (ac (aB d8 f (dC (.str b)))) g (aq aH)) k δ S=k δ S:=ag ((dr (sF h1 h2)).trans rfl)
theorem fF {f:DS->Option W} {δ:DS} {a b:Str} {S:ai} {g k:DS->ai->SO} (h1:f δ=some (.str a)) (h2:decide (a=b)=false):cM (ac (aB d8 f (dC (.str b)))) g k δ S=k δ S:=dr (sF h1 h2)
theorem fT {f:DS->Option W} {δ:DS} {a:Str} {S:ai} {g k:DS->ai->SO} (h1:f δ=some (.str a)):cM (ac (aB d8 f (dC (.str a)))) g k δ S=g δ S:=fq (sT h1)
theorem cO {f:DS->Option W} {g:DS->Option (List W)} {δ:DS} {a:W} {l:List W} (h1:f δ=some a) (h2:g δ=some l):aa f g δ=some (a::l):=by simp only [aa,h1,h2,Option.bind_some,Option.map_some]
theorem zV {g:DS->Option (List W)} {δ:DS} {l:List W} (h:g δ=some l) (hl:l.length<=9000):ba g δ=some (.tuple l):=by
 have z:=sz _ hl
 simp only [ba,h,Option.bind_some,if_pos z]
theorem Gi {f:DS->Option W} {δ:DS} {a:W} (h:f δ=some a):ba (aa f ah) δ=some (.tuple [a]):=zV (cO h rfl) (by simp)
theorem wU {f g:DS->Option W} {δ:DS} {a b:W} (h:f δ=some a) (h':g δ=some b):ba (aa f (aa g ah)) δ=some (.tuple [a,b]):=zV (cO h (cO h' rfl)) (by simp)
theorem Fq {f g k:DS->Option W} {δ:DS} {a b c:W} (h:f δ=some a) (h':g δ=some b) (h2:k δ=some c):ba (aa f (aa g (aa k ah))) δ=some (.tuple [a,b,c]):=zV (cO h (cO h' (cO h2 rfl))) (by simp)
theorem II {f g k m:DS->Option W} {δ:DS} {a b c d:W} (h:f δ=some a) (h':g δ=some b) (h2:k δ=some c) (h3:m δ=some d):ba (aa f (aa g (aa k (aa m ah)))) δ=some (.tuple [a,b,c,d]):=zV (cO h (cO h' (cO h2 (cO h3 rfl)))) (by simp)
theorem F5 {f g:DS->Option W} {δ:DS} {l:List W} {i:Int} {x:W} (h1:f δ=some (.list l)) (h2:g δ=some (.int i)) (h3:gW l i=some x):av bd f g δ=some x:=by simp only [av,h1,h2,Option.bind_some,zC,h3]
theorem jZ {f:List W->Option W} {fa:DS->Option (List W)} {δ:DS} {ds:List W} {d:W} (h1:fa δ=some ds) (h2:f ds=some d):aP f fa δ=some d:=by simp only [aP,h1,Option.bind_some,h2]
theorem lf {c:W->W->Option Bool} {f g:DS->Option W} {δ:DS} {a b:W} {r:Bool} (h1:f δ=some a) (h2:g δ=some b) (h3:c a b=some r):aB c f g δ=some r:=by simp only [aB,h1,h2,Option.bind_some,h3]
theorem dO {c:W->W->Option W} {f g:DS->Option W} {δ:DS} {a b r:W} (h1:f δ=some a) (h2:g δ=some b) (h3:c a b=some r):av c f g δ=some r:=by simp only [av,h1,h2,Option.bind_some,h3]
theorem dA {f g:DS->Option Bool} {δ:DS} {r:Bool} (h1:f δ=some true) (h2:g δ=some r):pc f g δ=some r:=by simp! [uD,h1,h2]
theorem IG {f g:DS->Option Bool} {δ:DS} (h1:f δ=some false):pc f g δ=some false:=by simp! [uD,h1]
theorem dC2 {f g:DS->Option W} {δ:DS} {a b:W} (h:f δ=some a) (h':g δ=some b):aa f (aa g ah) δ=some [a,b]:=cO h (cO h' rfl)
theorem Ib {ix:List (Option Nat)} {fi:DS->Option (List W)} {h:W->DS->Option DS} {c:DS->Option Bool} {fe:DS->Option W} {δ:DS} {ds r:List W} (h1:fi δ=some ds) (h2:ds.length<=9000) (h3:eC h c fe (bA ix δ) ds=some r):b0 (iN ix fi h c fe) δ=some (.list r):=by
 have z:=sz _ h2
 simp only [b0,iN,h1,Option.bind_some,if_pos z,h3,Option.map_some]
theorem CW {i:Nat} {f:DS->Option W} {δ:DS} {ds:List W} {d:W} (h1:mK i δ=some ds) (h2:f δ=some d) (h3:ds.length<9000):bF i f δ=some (.nx (δ.set i (.own (ds++[d])))):=by
 have z:=Nat.lt_of_lt_of_le h3 (sz 9000 (Nat.le_refl _))
 simp only [bF,h1,h2,Option.bind_some,if_pos z]
theorem tD {f:DS->Option W} {δ:DS} {a b:Str} (h1:f δ=some (.str a)):aB d8 f (dC (.str b)) δ=some (decide (a=b)):=by simp! [uD,h1]
noncomputable def wr (n:Int):Int:=(n+2147483648).fmod 4294967296-2147483648
noncomputable abbrev Rg (n:Int):Prop := -2147483648<=n/\n<=2147483647
theorem uE (n:Int):Rg (wr n):=by
 have h:=bX (n+2147483648) (j:=4294967296) (by decide)
 unfold wr
 constructor <;> omega
theorem zu {n:Int} (h:Rg n):wr n=n:=by
 unfold wr
 rw [Int.fmod_eq_emod_of_nonneg _ (by decide),Int.emod_eq_of_lt (by omega) (by omega)]
 omega
theorem i5 (n:Int):cC [.int n]=some (.int (wr n)):=by
 refine d7 rfl (aQ ?_)
 have e:n - -2147483648=n+2147483648:=by omega
 have m:=bw (n+2147483648) (j:=4294967296) (by decide)
 simp! [uD,e,m]
 rfl
theorem gn (n:Int):aL [.int n]=some (.int (wr n)):=by
 refine d7 rfl (aQ ?_)
 have m:=bw (n+2147483648) (j:=4294967296) (by decide)
 simp! [uD,m]
 rfl
noncomputable def rZ (k:Fin 7) (a b:Int):Int:=if k=0 then a+b else if k=1 then a-b else if k=2 then a*b else if k=3 then a.fdiv b else if k=4 then a-b*a.fdiv b else if k=5 then (if a<b then 1 else 0) else (if a=b then 1 else 0)
noncomputable def wk (k:Fin 7) (a b:Int):Option Int:=if (k=3∨k=4)/\b=0 then none else some (wr (rZ k a b))
theorem oq:∀ k:Fin 7,(decide (eX k=Str.ofString "+")=decide (k=0)/\decide (eX k=Str.ofString "-")=decide (k=1)/\decide (eX k=Str.ofString "*")=decide (k=2)/\decide (eX k=Str.ofString "div")=decide (k=3)/\decide (eX k=Str.ofString "rem")=decide (k=4)/\decide (eX k=Str.ofString "<")=decide (k=5)):=by decide +kernel
theorem oi:∀ k:Fin 7,mJ (.str (eX k)) (.tuple [.str "div", .str "rem"])=some (decide (k=3∨k=4)):=by decide +kernel
theorem om {a b:Int} (ha:Rg a):kx a b=true:=iD (by have:=ha.1;omega) (by have:=ha.2;omega)
theorem od {a b:Int} (hb:Rg b) (h0:b≠0):lT a b=true:=by
 have:b.natAbs<2^200:=Nat.lt_of_lt_of_le (show b.natAbs<2^32 by omega) (Nat.pow_le_pow_right (by decide) (by decide))
 simp [lT,h0,this]
theorem wO (a:Int) {b:Int} (h:b<0):b<a.fmod b/\a.fmod b<=0:=by
 have e:=@Int.fmod_eq_emod a b
 have h1:=Int.emod_nonneg a (show b≠0 by omega)
 have h2:a%b < -b:=by
  have:=Int.emod_lt_of_pos a (b := -b) (by omega)
  rwa [Int.emod_neg] at this
 rw [e]
 split
 . rename_i hd
   rcases hd with hd | hd
   . omega
   . have:=Int.emod_eq_zero_of_dvd hd
     omega
 . rename_i hd
   have:a%b≠0:=λ z=>hd (.inr (Int.dvd_of_emod_eq_zero z))
   omega
theorem ze {a b:Int} (ha:Rg a) (hb:Rg b) (h0:b≠0) : -(2^64)<a.fdiv b/\a.fdiv b<2^64:=by
 have e:=Int.mul_fdiv_add_fmod a b
 have q1:0<b->0<=a.fmod b/\a.fmod b<b:=λ h=>bX a h
 have q2:b<0->b<a.fmod b/\a.fmod b<=0:=λ h=>wO a h
 generalize a.fdiv b=d at e ⊢
 generalize a.fmod b=r at e q1 q2
 rcases Int.lt_or_gt_of_ne h0 with h | h
 . obtain ⟨h1,h2⟩:=q2 h
   constructor
   . refine Int.not_le.mp λ hd=>?_
     have:b*d ≥ (-1)*(-(2^64)):=by
      have h3:(-b)*(-d) ≥ 1*(2^64):=Int.mul_le_mul (by omega) (by omega) (by decide) (by omega)
      have:(-b)*(-d)=b*d:=by simp [Int.neg_mul_neg]
      omega
     omega
   . refine Int.not_le.mp λ hd=>?_
     have h3:(-b)*d ≥ 1*(2^64):=Int.mul_le_mul (by omega) (by omega) (by decide) (by omega)
     have:(-b)*d = -(b*d):=by rw [Int.neg_mul]
     omega
 . obtain ⟨h1,h2⟩:=q1 h
   constructor
   . refine Int.not_le.mp λ hd=>?_
     have h3:b*(-d) ≥ 1*(2^64):=Int.mul_le_mul (by omega) (by omega) (by decide) (by omega)
     have:b*(-d) = -(b*d):=by rw [Int.mul_neg]
     omega
   . refine Int.not_le.mp λ hd=>?_
     have h3:b*d ≥ 1*(2^64):=Int.mul_le_mul (by omega) (by omega) (by decide) (by omega)
     omega
theorem vj {a b:Int}:a-b*a.fdiv b=a.fmod b:=by have:=Int.mul_fdiv_add_fmod a b;omega
theorem BW {a b:Int} (hb:Rg b) (h0:b≠0):Rg (a.fmod b):=by
 rcases Int.lt_or_gt_of_ne h0 with h | h
 . have:=wO a h
   omega
 . have:=bX a h
   omega
theorem xo (k:Fin 7) {a b:Int} (ha:Rg a) (hb:Rg b) (h0:¬ ((k=3∨k=4)/\b=0)):ib [.str (eX k),.int a,.int b]=some (.int (rZ k a b)):=by
 obtain ⟨q0,q1,q2,q3,q4,q5⟩:=oq k
 have z0:∀ {δ:DS} {w:Str},aw 0 δ=some (.str (eX k))->aB d8 (aw 0) (dC (.str w)) δ=some (decide (eX k=w)):=λ h=>tD h
 let δ:DS:=[.val (.str (eX k)),.val (.int a),.val (.int b)]
 refine d7 rfl ?_
 by_cases e0:k=0
 . subst e0
   exact cr (aE (b:=true) (by rw [z0 rfl,q0];rfl) (aQ rfl))
 refine aN (δ1:=δ) (aE (b:=false) (by rw [z0 rfl,q0,decide_eq_false e0]) rfl) ?_
 by_cases e1:k=1
 . subst e1
   exact cr (aE (b:=true) (by rw [z0 rfl,q1];rfl) (aQ rfl))
 refine aN (δ1:=δ) (aE (b:=false) (by rw [z0 rfl,q1,decide_eq_false e1]) rfl) ?_
 by_cases e2:k=2
 . subst e2
   exact cr (aE (b:=true) (by rw [z0 rfl,q2];rfl) (aQ (dO rfl rfl (fU (om ha)))))
 refine aN (δ1:=δ) (aE (b:=false) (by rw [z0 rfl,q2,decide_eq_false e2]) rfl) ?_
 by_cases e3:k=3
 . subst e3
   have hb0:b≠0:=λ z=>h0 ⟨.inl rfl,z⟩
   exact cr (aE (b:=true) (by rw [z0 rfl,q3];rfl) (aQ (dO rfl rfl (lU (od hb hb0)))))
 refine aN (δ1:=δ) (aE (b:=false) (by rw [z0 rfl,q3,decide_eq_false e3]) rfl) ?_
 by_cases e4:k=4
 . subst e4
   have hb0:b≠0:=λ z=>h0 ⟨.inr rfl,z⟩
   have f:=ze ha hb hb0
   exact cr (aE (b:=true) (by rw [z0 rfl,q4];rfl) (aQ (dO (b:=.int (b*a.fdiv b)) rfl (dO rfl (dO rfl rfl (lU (od hb hb0))) (fU (oP f.1 f.2))) rfl)))
 refine aN (δ1:=δ) (aE (b:=false) (by rw [z0 rfl,q4,decide_eq_false e4]) rfl) ?_
 by_cases e5:k=5
 . subst e5
   refine cr (aE (b:=true) (by rw [z0 rfl,q5];rfl) (aQ ?_))
   show CQ (aB mj (aw 1) (aw 2)) (dC (.int (1))) (dC (.int (0))) δ=_
   simp! [δ,uD]
   by_cases h:a<b <;> simp [h,rZ]
 refine aN (δ1:=δ) (aE (b:=false) (by rw [z0 rfl,q5,decide_eq_false e5]) rfl) (aQ ?_)
 show CQ (aB d8 (aw 1) (aw 2)) (dC (.int (1))) (dC (.int (0))) δ=_
 simp! [δ,uD]
 by_cases h:a=b <;> simp [h,rZ,e0,e1,e2,e3,e4,e5]
noncomputable def oI:Option Int->W
 | some v=>.int v
 | none=>.none
theorem rm (k:Fin 7) {a b:Int} (ha:Rg a) (hb:Rg b):ij [.str (eX k),.int a,.int b]=some (oI (wk k a b)):=by
 have z2:=sz 2 (by decide)
 refine d7 rfl ?_
 have t1:aB mJ (aw 0) (ba (aa (dC (.str "div")) (aa (dC (.str "rem")) ah))) [.val (.str (eX k)),.val (.int a),.val (.int b)]=some (decide (k=3∨k=4)):=lf rfl (wU rfl rfl) (oi k)
 have t2:aB d8 (aw 2) (dC (.int (0))) [.val (.str (eX k)),.val (.int a),.val (.int b)]=some (decide (b=0)):=rfl
 by_cases h:(k=3∨k=4)/\b=0
 . rw [decide_eq_true h.1] at t1
   rw [decide_eq_true h.2] at t2
   refine cr (aE (b:=true) (dA t1 t2) ?_)
   rw [show wk k a b=none from if_pos h]
   exact aQ rfl
 . have c:pc (aB mJ (aw 0) (ba (aa (dC (.str "div")) (aa (dC (.str "rem")) ah)))) (aB d8 (aw 2) (dC (.int (0)))) [.val (.str (eX k)),.val (.int a),.val (.int b)]=some false:=by
    by_cases h1:k=3∨k=4
    . rw [decide_eq_true h1] at t1
      rw [decide_eq_false (λ z=>h ⟨h1,z⟩)] at t2
      exact dA t1 t2
    . rw [decide_eq_false h1] at t1
      exact IG t1
   refine aN (aE (b:=false) c rfl) ?_
   rw [show wk k a b=some (wr (rZ k a b)) from if_neg h]
   exact aQ (jZ (ds:=[.int (rZ k a b)]) (cO (jZ rfl (xo k ha hb h)) rfl) (i5 _))
section
variable {c f m:Str} {fo fi fv fk fx:DS->ai->SM W} {fa:DS->ai->SM (List W)} {δ:DS} {S S1 S2 S3:ai} {n l:Nat} {fs:List (Str×W)} {d y:W} {es q ds:List W} {i:Int}
theorem eK (h:S[n]?=some (.ins c fs)):gQ c (.ref n) S=some (n,fs):=by simp [gQ,iZ,h]
theorem bq (h1:fo δ S=some (.ok (.ref n),S1)) (h2:S1[n]?=some (.ins c fs)) (h3:fs.lookup f=some d):ao c f fo δ S=some (.ok d,S1):=by simp only [ao,ak,h1,eK h2,Option.bind_some,iR,h3,Option.map_some]
theorem eU {g:List W->ai->SM W} (h1:fo δ S=some (.ok (.ref n),S1)) (h2:S1[n]?=some (.ins c fs)) (h3:fs.lookup m=none) (h4:fa δ S1=some (.ok ds,S2)) (h5:g (.ref n::ds) S2=some (.ok d,S3)):bU c m g fo fa δ S=some (.ok d,S3):=by
 simp only [bU,ak,h1,eK h2,Option.bind_some,h3,if_true,h4,h5,noX]
theorem lO {g:List W->ai->SM W} {r:SM W} (h1:fo δ S=some (.ok (.ref n),S1)) (h2:S1[n]?=some (.ins c fs)) (h3:fs.lookup m=none) (h4:fa δ S1=some (.ok ds,S2)) (h5:g (.ref n::ds) S2=r):bu c m g fo fa δ S=r:=by
 simp only [bu,ak,h1,eK h2,Option.bind_some,h3,if_true,h4,h5]
theorem B2 {g:List W->ai->SM W} {e:Str} (h1:fo δ S=some (.ok (.ref n),S1)) (h2:S1[n]?=some (.ins c fs)) (h3:fs.lookup m=none) (h4:fa δ S1=some (.xc e,S2)):bu c m g fo fa δ S=some (.xc e,S2):=by
 simp only [bu,ak,h1,eK h2,Option.bind_some,h3,if_true,h4]
theorem Ar {g:List W->ai->SM W} {e:Str} (h1:fo δ S=some (.ok (.ref n),S1)) (h2:S1[n]?=some (.ins c fs)) (h3:fs.lookup m=none) (h4:fa δ S1=some (.xc e,S2)):bU c m g fo fa δ S=some (.xc e,S2):=by
 simp only [bU,ak,h1,eK h2,Option.bind_some,h3,if_true,h4]
theorem rM {g:DS->ai->SM (List W)} {e:Str} (h1:fo δ S=some (.xc e,S1)):aG fo g δ S=some (.xc e,S1):=by simp only [aG,ak,h1]
theorem nZ {g:DS->ai->SM (List W)} {e:Str} (h1:fo δ S=some (.ok d,S1)) (h2:g δ S1=some (.xc e,S2)):aG fo g δ S=some (.xc e,S2):=by simp only [aG,ak,h1,h2]
theorem FY (h1:fo δ S=some (.ok (.ref l),S1)) (h2:fi δ S1=some (.ok (.int i),S2)) (h3:S2[l]?=some (.lst es)) (h4:gW es i=some d):sIx fo fi δ S=some (.ok d,S2):=by simp only [sIx,ak,h1,h2,Dc h3,h4,iR,Option.map_some]
theorem IC (h1:fo δ S=some (.ok (.list es),S1)) (h2:fi δ S1=some (.ok (.int i),S2)) (h4:gW es i=some d):sIx fo fi δ S=some (.ok d,S2):=by
 have:qY (.list es) (.int i) S2=gW es i:=rfl
 simp only [sIx,ak,h1,h2,this,h4,iR,Option.map_some]
theorem HE (h1:fo δ S=some (.ok (.tuple es),S1)) (h2:fi δ S1=some (.ok (.int i),S2)) (h4:gW es i=some d):sIx fo fi δ S=some (.ok d,S2):=by
 have:qY (.tuple es) (.int i) S2=gW es i:=rfl
 simp only [sIx,ak,h1,h2,this,h4,iR,Option.map_some]
theorem BK (h1:fo δ S=some (.ok (.ref l),S1)) (h2:S1[l]?=some (.lst es)):ko fo δ S=some (.ok (!es.isEmpty),S1):=by simp only [ko,ak,h1,ip h2,Option.map_some,iR]
theorem AJ (h1:fo δ S=some (.ok (.ref l),S1)) (h2:S1[l]?=some (.lst es)):gB fo δ S=some (.ok (.int es.length),S1):=by
 have:mU (.ref l) S1=some (.int es.length):=by unfold mU;rw [ip h2]
 simp only [gB,ak,h1,this,iR,Option.map_some]
theorem Ef (h1:fo δ S=some (.ok (.list es),S1)):gB fo δ S=some (.ok (.int es.length),S1):=by
 have:mU (.list es) S1=some (.int es.length):=rfl
 simp only [gB,ak,h1,this,iR,Option.map_some]
theorem GR (h1:fo δ S=some (.ok (.ref l),S1)) (h2:S1[l]?=some (.lst (es++[d]))):vy fo δ S=some (.ok d,S1.set l (.lst es)):=by
 simp [vy,ak,h1,ip h2]
theorem mq (h1:fo δ S=some (.ok (.ref l),S1)) (h2:S1[l]?=some (.lst es)) (h3:fv δ S1=some (.ok d,S2)) (h4:S2[l]?=some (.lst q)) (h5:q.length<9000):br fo fv δ S=some (.nx δ,S2.set l (.lst (q++[d]))):=by
 have z:q.length<sizeLine:=Nat.lt_of_lt_of_le h5 (sz 9000 (by decide))
 simp only [br,hX,h1,ip h2,Option.isSome_some,if_true,h3,ip h4,Option.bind_some,if_pos z]
theorem Gk {e:Str} (h1:fo δ S=some (.ok (.ref l),S1)) (h2:S1[l]?=some (.lst es)) (h3:fv δ S1=some (.xc e,S2)):br fo fv δ S=some (.xc e,S2):=by
 simp only [br,hX,h1,ip h2,Option.isSome_some,if_true,h3]
theorem BS (h1:fv δ S=some (.ok d,S1)) (h2:fo δ S1=some (.ok (.ref n),S2)) (h3:S2[n]?=some (.ins c fs)) (h4:fs.length<1000):bO c f fo fv δ S=some (.nx δ,S2.set n (.ins c (di f d fs))):=by
 simp only [bO,hX,h1,h2,eK h3,Option.bind_some,if_pos h4]
theorem Ei {a b:Int} (h1:fo δ S=some (.ok (.ref n),S)) (h2:S[n]?=some (.ins c fs)) (h3:fs.lookup f=some (.int a)) (h4:fv δ S=some (.ok (.int b),S)) (h5:fs.length<1000):iy c f fo fv δ S=some (.nx δ,S.set n (.ins c (di f (.int (a+b)) fs))):=by
 simp only [iy,hX,h1,eK h2,Option.bind_some,h3,h4,gI,if_pos h5]
theorem zQ {e:Str} (h:fo δ S=some (.xc e,S1)):bB fo δ S=some (.xc e,S1):=by simp only [bB,hX,h]
theorem Ej {e:Str} {g:W->DS->Option DS} (h:fo δ S=some (.xc e,S1)):cK fo g δ S=some (.xc e,S1):=by simp only [cK,hX,h]
theorem BM {e:Str} (h:fo δ S=some (.xc e,S1)):dI fo δ S=some (.xc e,S1):=by simp only [dI,hX,h]
theorem tP {g h:DS->ai->SO} {e:Str} (h1:g δ S=some (.xc e,S1)):ar g h δ S=some (.xc e,S1):=by unfold ar;rw [h1]
theorem xI {g:W->W->Option Bool} {b:Bool} (h1:fo δ S=some (.ok d,S1)) (h2:fi δ S1=some (.ok y,S2)) (h3:g d y=some b):lC g fo fi δ S=some (.ok b,S2):=by simp only [lC,ak,h1,h2,h3,iR,Option.map_some]
theorem Fx {a b:Int} (h1:fo δ S=some (.ok (.int a),S1)) (h2:fi δ S1=some (.ok (.int b),S2)):jV false fo fi δ S=some (.ok (decide (a=b)),S2):=by
 have:kR false (.int a) (.int b) S2=some (decide (a=b)):=rfl
 simp only [jV,ak,h1,h2,this,iR,Option.map_some]
theorem p7 {g:DS->ai->SM Bool} {b:Bool} (h:g δ S=some (.ok b,S1)):sB g δ S=some (.ok (.bool b),S1):=by simp only [sB,ak,h]
theorem i9 {b:Bool} (h:fo δ S=some (.ok (.bool b),S1)):gG fo δ S=some (.ok b,S1):=by simp only [gG,ak,h,vP,iR,Option.map_some]
theorem iC {g:DS->ai->SM Bool} {b:Bool} (h:g δ S=some (.ok b,S1)):io g δ S=some (.ok (!b),S1):=by simp only [io,ak,h]
theorem Ew {t:DS->ai->SM Bool} {r:SM W} (h:t δ S=some (.ok true,S1)) (h2:fo δ S1=r):CZ t fo fi δ S=r:=by simp only [CZ,ak,h,if_true,h2]
theorem DF {t:DS->ai->SM Bool} {r:SM W} (h:t δ S=some (.ok false,S1)) (h2:fi δ S1=r):CZ t fo fi δ S=r:=by simp only [CZ,ak,h,Bool.false_eq_true,if_false,h2]
theorem Ad {t:DS->ai->SM Bool} {g:DS->ai->SO} {δ':DS} {k:Nat} (h1:t δ S=some (.ok true,S1)) (h2:g δ S1=some (.nx δ',S2)):cD t g (k+1) δ S=cD t g k δ' S2:=by
 show hX (t δ S) _=_
 rw [h1]
 simp only [hX,if_true,h2]
theorem wx {t:DS->ai->SM Bool} {g:DS->ai->SO} {k:Nat} (h1:t δ S=some (.ok false,S1)):cD t g (k+1) δ S=some (.nx δ,S1):=by
 show hX (t δ S) _=_
 rw [h1]
 rfl
theorem v6 {kvs:List (bz×W)} {k:Str} (h1:fo δ S=some (.ok (.ref l),S1)) (h2:fk δ S1=some (.ok (.str k),S2)) (h3:S2[l]?=some (.dK kvs)) (h4:fE kvs (.inr k)=some d):jA fo fk δ S=some (.ok d,S2):=by
 have:pw (.ref l) (.str k) S2=some (fE kvs (Sum.inr k)):=by simp [pw,iZ,h3,kZ]
 simp only [jA,ak,h1,h2,this,Option.bind_some,h4,iR,Option.map_some]
theorem Co {kvs kvs':List (bz×W)} {k:Str} (h1:fo δ S=some (.ok (.ref l),S1)) (h0:S1[l]?=some (.dK kvs')) (h2:fk δ S1=some (.ok (.str k),S2)) (h5:fx δ S2=some (.ok y,S3)) (h3:S3[l]?=some (.dK kvs)):oQ fo fk fx δ S=some (.ok ((fE kvs (.inr k)).getD y),S3):=by
 have:pw (.ref l) (.str k) S3=some (fE kvs (Sum.inr k)):=by simp [pw,iZ,h3,kZ]
 simp only [oQ,ak,h1,vS h0,Option.isSome_some,if_true,h2,h5,this,Option.bind_some]
theorem Aa {kvs:List (bz×W)} {k:Str} (h1:fv δ S=some (.ok d,S1)) (h2:fo δ S1=some (.ok (.ref l),S2)) (h3:fk δ S2=some (.ok (.str k),S3)) (h4:S3[l]?=some (.dK kvs)) (h5:kvs.length<9000):lE fo fk fv δ S=some (.nx δ,S3.set l (.dK (fH kvs (.inr k) d))):=by
 have hl':kvs.length<sizeLine:=Nat.lt_of_lt_of_le h5 (sz 9000 (by decide))
 have:ur (.ref l) (.str k) d S3=some (S3.set l (.dK (fH kvs (.inr k) d))):=by simp [ur,iZ,h4,kZ,hl']
 simp only [lE,hX,h1,h2,h3,this,Option.map_some]
end
structure Cn where
 pg:W
 lane:Int
 lanes:Int
 mine:Int
 bx:List Int
 most:Int
 rows:List W
structure Qs where
 line:W
 ix:Nat
 wk:List W
 nm:List (bz×W)
 told:List W
 steps:Int
 fin:W
 lns:List W
 tch:List W
noncomputable def mh (n:Nat) (c:Cn) (ln:W):List (Str×W):=[(Str.ofString "defs", .ref (n+1)),(Str.ofString "lane", .int c.lane),(Str.ofString "signs", .ref (n+2)),(Str.ofString "boxes", .ref (n+3)),(Str.ofString "most", .int c.most),(Str.ofString "frames", .ref (n+9)),(Str.ofString "line", ln),(Str.ofString "meeting", .none),(Str.ofString "story", .ref (n+10))]
noncomputable def uk (n:Nat):List (Str×W):=[(Str.ofString "names", .ref (n+4)),(Str.ofString "given", .none),(Str.ofString "walks", .ref (n+7)),(Str.ofString "loops", .ref (n+8))]
noncomputable def mz (rows:List W) (i:Nat):List (Str×W):=[(Str.ofString "row", .list rows),(Str.ofString "at", .int i)]
noncomputable def jE (n:Nat) (k:Int) (e:W):List (Str×W):=[(Str.ofString "told", .ref (n+11)),(Str.ofString "steps", .int k),(Str.ofString "end", e),(Str.ofString "brought", .ref (n+12)),(Str.ofString "touches", .ref (n+13)),(Str.ofString "puts", .ref (n+14)),(Str.ofString "lines", .ref (n+15))]
noncomputable def zx (c:Cn):List (bz×W):=[(.inr (Str.ofString "lane"),.int c.lane),(.inr (Str.ofString "lanes"),.int c.lanes),(.inr (Str.ofString "mine"),.int c.mine)]
noncomputable def Jd (n:Nat) (c:Cn) (q:Qs):List Ob:=[.ins (Str.ofString "Goer") (mh n c q.line),.dK [(.inr (Str.ofString "main"),c.pg)],.dK (zx c),.lst (c.bx.map .int),.dK q.nm,.ins (Str.ofString "Frame") (uk n),.ins (Str.ofString "Walk") (mz c.rows q.ix),.lst q.wk,.lst [],.lst [.ref (n+5)],.ins (Str.ofString "Story") (jE n q.steps q.fin),.lst q.told,.lst [],.lst [.ref (n+16)],.lst [.ref (n+17)],.lst q.lns,.lst q.tch,.dK []]
noncomputable def ST (S:ai) (c:Cn) (q:Qs):ai:=S++Jd S.length c q
section
variable {S:ai} {c:Cn} {q:Qs}
theorem gA (S L:ai) (k:Nat):(S++L)[S.length+k]?=L[k]?:=by rw [List.getElem?_append_right (by omega)];congr 1;omega
theorem sA (S L:ai) (k:Nat) (o:Ob):(S++L).set (S.length+k) o=S++L.set k o:=by rw [List.set_append_right _ _ (by omega)];congr 2;omega
theorem o0:(ST S c q)[S.length]?=some (.ins (Str.ofString "Goer") (mh S.length c q.line)):=gA S _ 0
theorem o1:(ST S c q)[S.length+1]?=some (.dK [(.inr (Str.ofString "main"),c.pg)]):=gA S _ 1
theorem o2:(ST S c q)[S.length+2]?=some (.dK (zx c)):=gA S _ 2
theorem o3:(ST S c q)[S.length+3]?=some (.lst (c.bx.map .int)):=gA S _ 3
theorem o4:(ST S c q)[S.length+4]?=some (.dK q.nm):=gA S _ 4
theorem o5:(ST S c q)[S.length+5]?=some (.ins (Str.ofString "Frame") (uk S.length)):=gA S _ 5
theorem o6:(ST S c q)[S.length+6]?=some (.ins (Str.ofString "Walk") (mz c.rows q.ix)):=gA S _ 6
theorem o7:(ST S c q)[S.length+7]?=some (.lst q.wk):=gA S _ 7
theorem o8:(ST S c q)[S.length+8]?=some (.lst []):=gA S _ 8
theorem o9:(ST S c q)[S.length+9]?=some (.lst [.ref (S.length+5)]):=gA S _ 9
theorem ti:(ST S c q)[S.length+10]?=some (.ins (Str.ofString "Story") (jE S.length q.steps q.fin)):=gA S _ 10
theorem FL:(ST S c q)[S.length+11]?=some (.lst q.told):=gA S _ 11
theorem Ir:(ST S c q)[S.length+13]?=some (.lst [.ref (S.length+16)]):=gA S _ 13
theorem GA:(ST S c q)[S.length+15]?=some (.lst q.lns):=gA S _ 15
theorem GY:(ST S c q)[S.length+16]?=some (.lst q.tch):=gA S _ 16
theorem w0 (ln:W):(ST S c q).set S.length (.ins (Str.ofString "Goer") (mh S.length c ln))=ST S c { q with line:=ln }:=sA S _ 0 _
theorem w4 (x:List (bz×W)):(ST S c q).set (S.length+4) (.dK x)=ST S c { q with nm:=x }:=sA S _ 4 _
theorem w6 (i:Nat):(ST S c q).set (S.length+6) (.ins (Str.ofString "Walk") (mz c.rows i))=ST S c { q with ix:=i }:=sA S _ 6 _
theorem w7 (x:List W):(ST S c q).set (S.length+7) (.lst x)=ST S c { q with wk:=x }:=sA S _ 7 _
theorem Ie (k:Int) (e:W):(ST S c q).set (S.length+10) (.ins (Str.ofString "Story") (jE S.length k e))=ST S c { q with steps:=k,fin:=e }:=sA S _ 10 _
theorem Jh (x:List W):(ST S c q).set (S.length+11) (.lst x)=ST S c { q with told:=x }:=sA S _ 11 _
theorem Jp (x:List W):(ST S c q).set (S.length+15) (.lst x)=ST S c { q with lns:=x }:=sA S _ 15 _
theorem Jq (x:List W):(ST S c q).set (S.length+16) (.lst x)=ST S c { q with tch:=x }:=sA S _ 16 _
end
section
variable (n:Nat) (c:Cn) (l e x:W) (k:Int) (i:Nat) (r:List W)
theorem IZ:(mh n c l).lookup (Str.ofString "defs")=some (.ref (n+1)):=by kernel_rfl
theorem Jg:(mh n c l).lookup (Str.ofString "signs")=some (.ref (n+2)):=by kernel_rfl
theorem HV:(mh n c l).lookup (Str.ofString "boxes")=some (.ref (n+3)):=by kernel_rfl
theorem IU:(mh n c l).lookup (Str.ofString "most")=some (.int c.most):=by kernel_rfl
theorem HM:(mh n c l).lookup (Str.ofString "frames")=some (.ref (n+9)):=by kernel_rfl
theorem G8:(mh n c l).lookup (Str.ofString "line")=some l:=by kernel_rfl
theorem Js:(mh n c l).lookup (Str.ofString "meeting")=some .none:=by kernel_rfl
theorem wY:(mh n c l).lookup (Str.ofString "story")=some (.ref (n+10)):=by kernel_rfl
theorem Jv:di (Str.ofString "line") x (mh n c l)=mh n c x:=by kernel_rfl
theorem Ig:(uk n).lookup (Str.ofString "names")=some (.ref (n+4)):=by kernel_rfl
theorem CL:(uk n).lookup (Str.ofString "walks")=some (.ref (n+7)):=by kernel_rfl
theorem Ju:(uk n).lookup (Str.ofString "loops")=some (.ref (n+8)):=by kernel_rfl
theorem G9:(mz r i).lookup (Str.ofString "row")=some (.list r):=by kernel_rfl
theorem Ff:(mz r i).lookup (Str.ofString "at")=some (.int i):=by kernel_rfl
theorem Jk:di (Str.ofString "at") (.int ((i:Int)+1)) (mz r i)=mz r (i+1):=by kernel_rfl
theorem Fi:(jE n k e).lookup (Str.ofString "told")=some (.ref (n+11)):=by kernel_rfl
theorem Fv:(jE n k e).lookup (Str.ofString "steps")=some (.int k):=by kernel_rfl
theorem Gg:(jE n k e).lookup (Str.ofString "end")=some e:=by kernel_rfl
theorem Fk:(jE n k e).lookup (Str.ofString "touches")=some (.ref (n+13)):=by kernel_rfl
theorem FO:(jE n k e).lookup (Str.ofString "lines")=some (.ref (n+15)):=by kernel_rfl
theorem JB (j:Int):di (Str.ofString "steps") (.int j) (jE n k e)=jE n j e:=by kernel_rfl
theorem IW:di (Str.ofString "end") x (jE n k e)=jE n k x:=by kernel_rfl
theorem IH:∀ m∈[Str.ofString "touch", Str.ofString "got", Str.ofString "reckoned", Str.ofString "give", Str.ofString "do", Str.ofString "step", Str.ofString "end_def", Str.ofString "go"],(mh n c l).lookup m=none:=by
 intro m hm
 simp only [List.mem_cons,List.not_mem_nil,or_false] at hm
 rcases hm with rfl | rfl | rfl | rfl | rfl | rfl | rfl | rfl <;> kernel_rfl
theorem HK:(uk n).lookup (Str.ofString "statement")=none:=by kernel_rfl
theorem Jf:(uk n).lookup (Str.ofString "pass_by")=none:=by kernel_rfl
theorem Ia:(mz r i).lookup (Str.ofString "is_over")=none:=by kernel_rfl
theorem J9:(mz r i).lookup (Str.ofString "before")=none:=by kernel_rfl
theorem IV:(mz r i).lookup (Str.ofString "taken")=none:=by kernel_rfl
theorem J8:(jE n k e).lookup (Str.ofString "begin_phase")=none:=by kernel_rfl
theorem IP:(jE n k e).lookup (Str.ofString "add_step")=none:=by kernel_rfl
theorem IY:(jE n k e).lookup (Str.ofString "add_touch")=none:=by kernel_rfl
theorem Ii:(jE n k e).lookup (Str.ofString "finish")=none:=by kernel_rfl
end
theorem v0 {x:W} {r:DS} {S:ai}:ac (af 0) (.val x::r) S=some (.ok x,S):=rfl
section
variable (S:ai) (c:Cn) (q:Qs)
theorem pJ:cR [.ref (S.length+6)] (ST S c q)=some (.ok (.bool (decide ((q.ix:Int)=c.rows.length))),ST S c q):=
 (aA rfl).trans ((congrArg bn (bT (p7 (Fx (bq v0 o6 (Ff _ _)) (Ef (bq v0 o6 (G9 _ _))))))).trans rfl)
theorem qI {x:W} (h:c.rows[q.ix]?=some x):fW [.ref (S.length+6)] (ST S c q)=some (.ok x,ST S c q):=
 (aA rfl).trans ((congrArg bn (bT (IC (bq v0 o6 (G9 _ _)) (bq v0 o6 (Ff _ _)) (by rw [yF _ _ (oG h).1];exact h)))).trans rfl)
theorem tV {x:W} (h:c.rows[q.ix]?=some x):gK [.ref (S.length+6)] (ST S c q)=some (.ok x,ST S c { q with ix:=q.ix+1 }):=by
 refine (aA rfl).trans ((congrArg bn (?_:_=some (.rt x,ST S c { q with ix:=q.ix+1 }))).trans rfl)
 refine (ag (δ':=[.val (.ref (S.length+6)),.val x]) (cU (IC (bq v0 o6 (G9 _ _)) (bq v0 o6 (Ff _ _)) (by rw [yF _ _ (oG h).1];exact h)) rfl)).trans ?_
 refine (ag (δ':=[.val (.ref (S.length+6)),.val x]) (S':=ST S c { q with ix:=q.ix+1 }) ((Ei v0 o6 (Ff _ _) (b:=1) rfl (by simp [mz])).trans ?_)).trans rfl
 rw [Jk,w6]
theorem qh {x:W} {r:DS} {T:ai} {l:Nat} {fo:DS->ai->SM W} {es:List W} (h:fo (.val x::r) T=some (.ok (.ref l),T)) (h2:T[l]?=some (.lst (es++[d]))):sIx fo (ac (oh gf (dC (.int (1))))) (.val x::r) T=some (.ok d,T):=FY h rfl h2 (Hs es d)
theorem vT {x:W} (h:c.rows[q.ix]?=some x) (hw:q.wk=[.ref (S.length+6)]):d9 [.ref (S.length+5)] (ST S c q)=some (.ok .none,ST S c { q with ix:=q.ix+1 }):=by
 have e:sIx (ao "Frame" "walks" (ac (af 0))) (ac (oh gf (dC (.int (1))))) [.val (.ref (S.length+5))] (ST S c q)=some (.ok (.ref (S.length+6)),ST S c q):=qh (es:=[]) (bq v0 o5 (CL _)) (by rw [o7,hw];rfl)
 exact (aA rfl).trans ((congrArg bn (b4 (eU e o6 (IV _ _) (ds:=[]) rfl (tV S c q h)))).trans rfl)
theorem C6 {x:W} (h:c.rows[q.ix]?=some x) (hw:q.wk=[.ref (S.length+6)]):cH [.ref (S.length+5)] (ST S c q)=some (.ok x,ST S c q):=by
 have hl:=(oG h).1
 have e:sIx (ao "Frame" "walks" (ac (af 0))) (ac (oh gf (dC (.int (1))))) [.val (.ref (S.length+5))] (ST S c q)=some (.ok (.ref (S.length+6)),ST S c q):=qh (es:=[]) (bq v0 o5 (CL _)) (by rw [o7,hw];rfl)
 have t:ko (ao "Frame" "walks" (ac (af 0))) [.val (.ref (S.length+5))] (ST S c q)=some (.ok true,ST S c q):=by
  have:=BK (bq (c := "Frame") (f := "walks") (v0 (r:=[])) (o5 (S:=S) (c:=c) (q:=q)) (CL _)) o7
  rw [hw] at this
  exact this
 have ov:gG (bU "Walk" "is_over" cR (sIx (ao "Frame" "walks" (ac (af 0))) (ac (oh gf (dC (.int (1)))))) (ac ah)) [.val (.ref (S.length+5))] (ST S c q)=some (.ok false,ST S c q):=by
  have:=i9 (eU e o6 (Ia _ _) (fa:=ac ah) (ds:=[]) rfl (pJ S c q))
  rw [decide_eq_false (by omega)] at this
  exact this
 refine (aA rfl).trans ((congrArg bn (?_:_=some (.rt x,ST S c q))).trans rfl)
 refine (ag (wx (k:=999999) (qJ t ov))).trans ?_
 exact bT (Ew t (eU e o6 (J9 _ _) (ds:=[]) rfl (qI S c q h)))
theorem B4 (h:q.ix=c.rows.length) (hw:q.wk=[.ref (S.length+6)]):cH [.ref (S.length+5)] (ST S c q)=some (.ok .none,ST S c { q with wk:=[] }):=by
 have e:sIx (ao "Frame" "walks" (ac (af 0))) (ac (oh gf (dC (.int (1))))) [.val (.ref (S.length+5))] (ST S c q)=some (.ok (.ref (S.length+6)),ST S c q):=qh (es:=[]) (bq v0 o5 (CL _)) (by rw [o7,hw];rfl)
 have tr:∀ q':Qs,ko (ao "Frame" "walks" (ac (af 0))) [.val (.ref (S.length+5))] (ST S c q')=some (.ok (!q'.wk.isEmpty),ST S c q'):=λ q'=>BK (bq (c := "Frame") (f := "walks") (v0 (r:=[])) (o5 (S:=S) (c:=c) (q:=q')) (CL _)) o7
 have t:=tr q
 rw [hw] at t
 have t':=tr { q with wk:=[] }
 have ov:gG (bU "Walk" "is_over" cR (sIx (ao "Frame" "walks" (ac (af 0))) (ac (oh gf (dC (.int (1)))))) (ac ah)) [.val (.ref (S.length+5))] (ST S c q)=some (.ok true,ST S c q):=by
  have:=i9 (eU e o6 (Ia _ _) (fa:=ac ah) (ds:=[]) rfl (pJ S c q))
  rw [decide_eq_true (by omega)] at this
  exact this
 have pop:eV [.val (.ref (S.length+5))] (ST S c q)=some (.nx [.val (.ref (S.length+5))],ST S c { q with wk:=[] }):=by
  refine (ag (δ':=[.val (.ref (S.length+5))]) (S':=ST S c { q with wk:=[] }) ((b4 (GR (es:=[]) (d:=.ref (S.length+6)) (bq v0 o5 (CL _)) (by rw [o7,hw];rfl))).trans ?_)).trans ?_
  . rw [w7]
  . refine (dr (S1:=ST S c { q with wk:=[] }) (qX ?_)).trans rfl
    exact BK (bq v0 o5 (Ju _)) o8
 refine (aA rfl).trans ((congrArg bn (?_:_=some (.rt .none,ST S c { q with wk:=[] }))).trans rfl)
 refine (ag ((Ad (k:=999999) (qJ t ov) pop).trans (wx (k:=999998) (qX t')))).trans ?_
 exact bT (DF t' rfl)
theorem wl (x:W) (hl:q.lns.length<8000):dh [.ref (S.length+10),x] (ST S c q)=some (.ok .none,ST S c { q with steps:=q.steps+1,lns:=q.lns++[x] }):=by
 refine (aA rfl).trans ((congrArg bn (?_:_=some (.nx [.val (.ref (S.length+10)),.val x],ST S c { q with steps:=q.steps+1,lns:=q.lns++[x] }))).trans rfl)
 refine (ag (δ':=[.val (.ref (S.length+10)),.val x]) (S':=ST S c { q with steps:=q.steps+1 }) ((Ei v0 ti (Fv _ _ _) (b:=1) rfl (by simp [jE])).trans ?_)).trans ?_
 . rw [JB,Ie]
   rfl
 . refine (mq (bq v0 ti (FO _ _ _)) GA (d:=x) rfl GA (by show q.lns.length<9000;omega)).trans ?_
   rw [Jp]
theorem qL (a b x:W) (hl:q.tch.length<8000):dS [.ref (S.length+10),a,b,x] (ST S c q)=some (.ok .none,ST S c { q with tch:=q.tch++[.tuple [a,b,x]] }):=by
 refine (aA rfl).trans ((congrArg bn (?_:_=some (.nx [.val (.ref (S.length+10)),.val a,.val b,.val x],ST S c { q with tch:=q.tch++[.tuple [a,b,x]] }))).trans rfl)
 refine (mq (qh (es:=[]) (bq v0 ti (Fk _ _ _)) Ir) GY (d:=.tuple [a,b,x]) (aC (Fq rfl rfl rfl)) GY (by omega)).trans ?_
 rw [Jq]
 rfl
theorem lA (a x:W):b9 [.ref (S.length+10),a,x] (ST S c q)=some (.ok .none,ST S c { q with fin:=.tuple [a,x] }):=by
 refine (aA rfl).trans ((congrArg bn (?_:_=some (.nx [.val (.ref (S.length+10)),.val a,.val x],ST S c { q with fin:=.tuple [a,x] }))).trans rfl)
 refine (BS (d:=.tuple [a,x]) (aC (wU rfl rfl)) v0 ti (by simp [jE])).trans ?_
 rw [IW,Ie]
 rfl
end
inductive Rz where
 | ok (v:Int)
 | no (b:Bool)
noncomputable abbrev Ev:=List Int×Rz
noncomputable def gJ (bx:List Int) (r:Ev):Ev:=match r.2 with
 | .no b=>(r.1,.no b)
 | .ok p=>if 0<=p/\p<bx.length then (r.1++[p],.ok (bx[p.toNat]?.getD 0)) else (r.1,.no false)
noncomputable def jD (k:Fin 7) (r s:Ev):Ev:=match r.2 with
 | .no b=>(r.1,.no b)
 | .ok a=>match s.2 with
  | .no b=>(r.1++s.1,.no b)
  | .ok b=>match wk k a b with
   | none=>(r.1++s.1,.no true)
   | some v=>(r.1++s.1,.ok v)
noncomputable def CS (c:Cn) (k:Fin 3):Int:=if k=0 then c.lane else if k=1 then c.lanes else c.mine
noncomputable abbrev eW:=List (Str×Int)
noncomputable def uu (l:eW) (x:Str):Int:=match l.find? λ p=>decide (p.1=x) with
 | some p=>p.2
 | none=>0
noncomputable def xJ (l:eW):List (bz×W):=l.map λ p=>(.inr p.1,.int p.2)
theorem AH (l:eW) (x:Str):(fE (xJ l) (.inr x)).getD (.int 0)=.int (uu l x):=by
 unfold fE xJ uu
 induction l with
 | nil=>rfl
 | cons p l ih=>
  simp only [List.map_cons,List.find?_cons]
  by_cases h:p.1=x
  . simp [h]
  . have:¬ (Sum.inr p.1:bz)=Sum.inr x:=λ z=>h (Sum.inr.inj z)
    simp only [this,h,decide_false]
    exact ih
noncomputable def ev (c:Cn) (l:eW):Tr->Ev
 | .num v=>([],.ok v)
 | .sig k=>([],.ok (CS c k))
 | .nam x=>([],.ok (uu l x))
 | .box t=>gJ c.bx (ev c l t)
 | .op k a b=>jD k (ev c l a) (ev c l b)
structure rJ (c:Cn):Prop where
 l:Rg c.lane
 ls:Rg c.lanes
 m:Rg c.mine
 b:∀ x∈c.bx,Rg x
noncomputable def ve (l:eW):Prop:=∀ p∈l,Rg p.2
noncomputable def vx:Tr->Prop
 | .num v=>Rg v
 | .box t=>vx t
 | .op _ a b=>vx a/\vx b
 | _=>True
noncomputable def CP:Rz->Prop
 | .ok v=>Rg v
 | .no _=>True
theorem CD {bx:List Int} {r:Ev} (hb:∀ x∈bx,Rg x):CP (gJ bx r).2:=by
 unfold gJ
 split
 . exact trivial
 . split
   . rename_i h
     have hl:(r:Ev).2=r.2:=rfl
     rename_i p _
     have hp:p.toNat<bx.length:=by omega
     rw [List.getElem?_eq_getElem hp]
     exact hb _ (List.getElem_mem hp)
   . exact trivial
theorem CC {k:Fin 7} {r s:Ev}:CP (jD k r s).2:=by
 unfold jD
 split
 . exact trivial
 . split
   . exact trivial
   . unfold wk
     split
     . exact trivial
     . rename_i h
       split at h
       . cases h
       . cases h
         exact uE _
theorem AI {l:eW} (h:ve l) (x:Str):Rg (uu l x):=by
 unfold uu
 split
 . rename_i p hp
   exact h p (List.mem_of_find?_eq_some hp)
 . decide
theorem CB {c:Cn} (h:rJ c) (k:Fin 3):Rg (CS c k):=by
 unfold CS
 split
 . exact h.l
 . split
   . exact h.ls
   . exact h.m
theorem sC {c:Cn} {l:eW} (hc:rJ c) (hl:ve l):∀ t,vx t->CP (ev c l t).2
 | .num v,h=>h
 | .sig k,_=>CB hc k
 | .nam x,_=>AI hl x
 | .box t,_=>CD hc.b
 | .op k a b,_=>CC
noncomputable def FI (b:Bool):Str:=if b then Str.ofString "Nought" else Str.ofString "Outside"
noncomputable def xg (r:Rz) (S:ai):SM W:=match r with
 | .ok v=>some (.ok (.int v),S)
 | .no b=>some (.xc (FI b),S)
noncomputable def gq (q:Qs) (rs:List Int):Qs:={ q with tch:=q.tch++rs.map λ p=>.tuple [.str "get", .int p,q.line] }
theorem n8 (q:Qs):gq q []=q:=by simp [gq]
theorem uw (q:Qs) (a b:List Int):gq (gq q a) b=gq q (a++b):=by simp [gq]
section
variable (S:ai) (c:Cn) (q:Qs)
theorem mG (m:Str) (hm:m∈[Str.ofString "touch", Str.ofString "got", Str.ofString "reckoned", Str.ofString "give", Str.ofString "do", Str.ofString "step", Str.ofString "end_def", Str.ofString "go"]):(mh S.length c q.line).lookup m=none:=IH _ _ _ m hm
theorem qu (p:Int) (hl:q.tch.length<8000):eZ [.ref S.length,.str "get", .int p] (ST S c q)=(if 0<=p/\p<c.bx.length then some (.ok .none,ST S c (gq q [p])) else some (.xc (Str.ofString "Outside"),ST S c q)):=by
 let δ:DS:=[.val (.ref S.length),.val (.str "get"),.val (.int p)]
 have ln:gB (ao "Goer" "boxes" (ac (af 0))) δ (ST S c q)=some (.ok (.int c.bx.length),ST S c q):=by
  have:=AJ (bq (c := "Goer") (f := "boxes") (v0 (x:=.ref S.length) (r:=[.val (.str "get"),.val (.int p)])) (o0 (S:=S) (c:=c) (q:=q)) (HV _ _ _)) o3
  rw [List.length_map] at this
  exact this
 have ch:nK F8 mj (ac (dC (.int (0)))) (ac (af 2)) (gB (ao "Goer" "boxes" (ac (af 0)))) δ (ST S c q)=some (.ok (decide (0<=p/\p<c.bx.length)),ST S c q):=by
  have a1:ac (dC (.int (0))) δ (ST S c q)=some (.ok (.int 0),ST S c q):=rfl
  have a2:ac (af 2) δ (ST S c q)=some (.ok (.int p),ST S c q):=rfl
  simp only [nK,ak,a1,a2,zI,Option.bind_some]
  by_cases h:0<=p
  . simp only [h,decide_true,if_true,ln,zm,iR,Option.map_some,true_and]
  . simp [h]
 refine (aA rfl).trans ?_
 by_cases h:0<=p/\p<c.bx.length
 . rw [if_pos h]
   rw [decide_eq_true h] at ch
   refine (congrArg bn (?_:_=some (.nx δ,ST S c (gq q [p])))).trans rfl
   refine (ag (δ':=δ) ((dr (iC ch)).trans rfl)).trans ?_
   refine (b4 (eU (ds:=[.str "get", .int p,q.line]) (bq v0 o0 (wY _ _ _)) ti (IY _ _ _) (aZ rfl (aZ rfl (aZ (bq v0 o0 (G8 _ _ _)) rfl))) (qL S c q _ _ _ hl)))
 . rw [if_neg h]
   rw [decide_eq_false h] at ch
   refine (congrArg bn (?_:_=some (.xc (Str.ofString "Outside"),ST S c q))).trans rfl
   refine tP ((fq (iC ch)).trans ?_)
   show hX _ _=_
   have z1:=sz 1 (by decide)
   simp! [δ,uS,uD,if_pos z1]
theorem yh (p:Int) (hl:q.tch.length<8000):fh [.ref S.length,.int p] (ST S c q)=xg (gJ c.bx ([],.ok p)).2 (ST S c (gq q (gJ c.bx ([],.ok p)).1)):=by
 let δ:DS:=[.val (.ref S.length),.val (.int p)]
 have m:bu "Goer" "touch" eZ (ac (af 0)) (ac (aa (dC (.str "get")) (aa (af 1) ah))) δ (ST S c q)=_:=lO (ds:=[.str "get", .int p]) v0 o0 (mG S c q _ (by simp)) rfl (qu S c q p hl)
 refine (aA rfl).trans ?_
 by_cases h:0<=p/\p<c.bx.length
 . rw [if_pos h] at m
   simp only [gJ,if_pos h,List.nil_append,xg]
   refine (congrArg bn (?_:_=some (.rt (.int (c.bx[p.toNat]?.getD 0)),ST S c (gq q [p])))).trans rfl
   refine (ag (δ':=δ) (b4 m)).trans ?_
   exact bT (FY (bq v0 o0 (HV _ _ _)) (i:=p) rfl o3 (wE _ _ h.1 h.2))
 . rw [if_neg h] at m
   simp only [gJ,if_neg h,xg,n8]
   exact (congrArg bn (tP (zQ m))).trans rfl
end
theorem wo {g:List W->Option W} {fa:DS->ai->SM (List W)} {δ:DS} {S S1:ai} {e:Str} (h:fa δ S=some (.xc e,S1)):i7 g fa δ S=some (.xc e,S1):=by simp only [i7,ak,h]
noncomputable def lZ:Tr->Nat
 | .box t=>lZ t+1
 | .op _ a b=>lZ a+lZ b
 | _=>0
theorem nO:∀ t,lZ t+1<=2^dQ t
 | .num _=>by simp [lZ,dQ]
 | .sig _=>by simp [lZ,dQ]
 | .nam _=>by simp [lZ,dQ]
 | .box t=>by
  have:=nO t
  simp only [lZ,dQ,Nat.pow_succ]
  omega
 | .op _ a b=>by
  have h1:=nO a
  have h2:=nO b
  have h3:2^dQ a<=2^max (dQ a) (dQ b):=Nat.pow_le_pow_right (by decide) (Nat.le_max_left ..)
  have h4:2^dQ b<=2^max (dQ a) (dQ b):=Nat.pow_le_pow_right (by decide) (Nat.le_max_right ..)
  simp only [lZ,dQ,Nat.pow_succ]
  omega
theorem yH {bx:List Int} {r:Ev}:(gJ bx r).1.length<=r.1.length+1:=by
 unfold gJ
 split
 . simp
 . split <;> simp
theorem y6 {k:Fin 7} {r s:Ev}:(jD k r s).1.length<=r.1.length+s.1.length:=by
 unfold jD
 split
 . simp
 . split
   . simp
   . split <;> simp
theorem gF (c:Cn) (l:eW):∀ t,(ev c l t).1.length<=lZ t
 | .num _=>by simp [ev,lZ]
 | .sig _=>by simp [ev,lZ]
 | .nam _=>by simp [ev,lZ]
 | .box t=>by
  have:=gF c l t
  have:=yH (bx:=c.bx) (r:=ev c l t)
  simp only [ev,lZ]
  omega
 | .op k a b=>by
  have:=gF c l a
  have:=gF c l b
  have:=y6 (k:=k) (r:=ev c l a) (s:=ev c l b)
  simp only [ev,lZ]
  omega
theorem BF (bx:List Int) (r:List Int) (p:Int):gJ bx (r,.ok p)=(r++(gJ bx ([],.ok p)).1,(gJ bx ([],.ok p)).2):=by
 unfold gJ
 simp only
 split <;> simp
theorem Ck {fo:DS->ai->SM W} {δ:DS} {S T:ai} {r:Rz} (h:fo δ S=xg r T):bn (dI fo δ S)=xg r T:=by
 cases r with
 | ok v=>exact (congrArg bn (bT h)).trans rfl
 | no b=>exact (congrArg bn (BM h)).trans rfl
theorem Jt (c:Cn):∀ k:Fin 3,fE (zx c) (.inr (wV k))=some (.int (CS c k))
 | 0=>by kernel_rfl
 | 1=>by kernel_rfl
 | 2=>by kernel_rfl
section
variable (S:ai) (c:Cn)
theorem lh {q:Qs} {r:DS}:sIx (ao "Goer" "frames" (ac (af 0))) (ac (oh gf (dC (.int (1))))) (.val (.ref S.length)::r) (ST S c q)=some (.ok (.ref (S.length+5)),ST S c q):=qh (es:=[]) (bq v0 o0 (HM _ _ _)) o9
theorem rk (hc:rJ c) {l:eW} (hn:ve l):∀ (t:Tr) (n:Nat) (q:Qs),dQ t<n->vx t->q.nm=xJ l->q.tch.length+lZ t<8000->ay n [.ref S.length,tw t] (ST S c q)=xg (ev c l t).2 (ST S c (gq q (ev c l t).1))
 | _,0,_,h,_,_,_=>absurd h (Nat.not_lt_zero _)
 | .num v,n+1,q,_,_,_,_=>by
  show bi 2 4 _ _ _=_
  refine (aA rfl).trans ((congrArg bn (?_:_=some (.rt (.int v),ST S c q))).trans (by simp only [ev,n8];rfl))
  refine (ag (δ':=[.val (.ref S.length),.val (tw (.num v)),.val (.str "num"),.no]) (ax (aS (x0 rfl) rfl))).trans ?_
  exact eO (eA (aE (b:=true) (tT rfl) (aQ (x1 rfl))))
 | .sig k,n+1,q,_,_,_,_=>by
  show bi 2 4 _ _ _=_
  let δ:DS:=[.val (.ref S.length),.val (tw (.sig k)),.val (.str (wV k)),.no]
  refine (aA rfl).trans ((congrArg bn (?_:_=some (.rt (.int (CS c k)),ST S c q))).trans (by simp only [ev,n8];rfl))
  refine (ag (δ':=δ) (ax (aS (x0 rfl) rfl))).trans ?_
  refine (pF (a:=wV k) rfl (IJ k)).trans ?_
  refine (cF (a:=wV k) rfl (Jn k)).trans ?_
  refine eO ((fq (aC (lf rfl rfl (Jj k)))).trans (bT (v6 (bq v0 o0 (Jg _ _ _)) rfl o2 (Jt c k))))
 | .nam x,n+1,q,_,_,hq,_=>by
  show bi 2 4 _ _ _=_
  let δ:DS:=[.val (.ref S.length),.val (tw (.nam x)),.val (.str "name"),.no]
  refine (aA rfl).trans ((congrArg bn (?_:_=some (.rt (.int (uu l x)),ST S c q))).trans (by simp only [ev,n8];rfl))
  refine (ag (δ':=δ) (ax (aS (x0 rfl) rfl))).trans ?_
  refine (pF (a:=Str.ofString "name") rfl Jl).trans ?_
  have g:=Co (fo:=ao "Frame" "names" (sIx (ao "Goer" "frames" (ac (af 0))) (ac (oh gf (dC (.int (1))))))) (fk:=ac (av bd (aw 1) (dC (.int (1))))) (fx:=ac (dC (.int (0)))) (δ:=δ) (k:=x) (y:=.int 0) (bq (lh S c) o5 (Ig _)) o4 (aC (x1 rfl)) rfl (o4 (S:=S) (c:=c) (q:=q))
  rw [hq,AH] at g
  exact eO ((fT rfl).trans (bT g))
 | .box t,n+1,q,hd,hr,hq,hl=>by
  simp only [dQ] at hd
  simp only [lZ] at hl
  have ih:=rk hc hn t n q (by omega) hr hq (by omega)
  have el:=gF c l t
  show bi 2 4 _ _ _=_
  let δ:DS:=[.val (.ref S.length),.val (tw (.box t)),.val (.str "box"),.no]
  have R:bu "Goer" "reckoned" (ay n) (ac (af 0)) (ac (aa (av bd (aw 1) (dC (.int (1)))) ah)) δ (ST S c q)=_:=lO (ds:=[tw t]) v0 o0 (mG S c q _ (by simp)) (aC (cO (x1 rfl) rfl)) ih
  refine (aA rfl).trans ?_
  have G:bu "Goer" "got" fh (ac (af 0)) (aG (bu "Goer" "reckoned" (ay n) (ac (af 0)) (ac (aa (av bd (aw 1) (dC (.int (1)))) ah))) bM) δ (ST S c q)=xg (ev c l (.box t)).2 (ST S c (gq q (ev c l (.box t)).1)):=by
   show _=xg (gJ c.bx (ev c l t)).2 (ST S c (gq q (gJ c.bx (ev c l t)).1))
   generalize ev c l t=r at R el ⊢
   obtain ⟨rs,z⟩:=r
   cases z with
   | no b=>exact B2 v0 o0 (mG S c q _ (by simp)) (rM R)
   | ok p=>
    rw [BF,<-uw]
    exact lO (ds:=[.int p]) v0 o0 (mG S c q _ (by simp)) (aZ R rfl) (yh S c (gq q rs) p (by simp only [gq,List.length_append,List.length_map];simp only at el;omega))
  have main:=Ck G
  refine Eq.trans (congrArg bn ?_) main
  refine (ag (δ':=δ) (ax (aS (x0 rfl) rfl))).trans ?_
  refine (pF (a:=Str.ofString "box") rfl JA).trans ?_
  refine (cF (a:=Str.ofString "box") rfl IN).trans ?_
  refine (ag (δ':=δ) ((dr (aC (lf rfl rfl IS))).trans rfl)).trans ?_
  have q1:=fT (S:=ST S c q) (δ:=δ) (f:=aw 2) (a:=Str.ofString "box") (g:=dI (bu "Goer" "got" fh (ac (af 0)) (aG (bu "Goer" "reckoned" (ay n) (ac (af 0)) (ac (aa (av bd (aw 1) (dC (.int (1)))) ah))) bM))) (k:=aq aH) rfl
  revert G
  generalize (ev c l (.box t))=e
  intro G
  obtain ⟨e1,e2⟩:=e
  cases e2 with
  | ok v=>rw [bT G];exact eO (q1.trans (bT G))
  | no b=>rw [BM G];exact tP (q1.trans (BM G))
 | .op k a b,n+1,q,hd,hr,hq,hl=>by
  simp only [dQ] at hd
  simp only [lZ] at hl
  have iha:=rk hc hn a n q (by omega) hr.1 hq (by omega)
  have ea:=gF c l a
  have eb:=gF c l b
  have ra:=sC hc hn a hr.1
  have rb:=sC hc hn b hr.2
  show bi 2 4 _ _ _=_
  let δ:DS:=[.val (.ref S.length),.val (tw (.op k a b)),.val (.str (eX k)),.no]
  have R1:bu "Goer" "reckoned" (ay n) (ac (af 0)) (ac (aa (av bd (aw 1) (dC (.int (1)))) ah)) δ (ST S c q)=_:=lO (ds:=[tw a]) v0 o0 (mG S c q _ (by simp)) (aC (cO (x1 rfl) rfl)) iha
  have R2:∀ rs,rs.length<=lZ a->bu "Goer" "reckoned" (ay n) (ac (af 0)) (ac (aa (av bd (aw 1) (dC (.int (2)))) ah)) δ (ST S c (gq q rs))=xg (ev c l b).2 (ST S c (gq q (rs++(ev c l b).1))):=λ rs h=>by
   rw [<-uw]
   exact lO (ds:=[tw b]) v0 o0 (mG S c _ _ (by simp)) (aC (cO (x2 rfl) rfl)) (rk hc hn b n (gq q rs) (by omega) hr.2 hq (by simp only [gq,List.length_append,List.length_map];omega))
  refine (aA rfl).trans ?_
  refine (congrArg bn (?_:_=ar (cK (i7 ij (aG (ac (af 2)) (aG (bu "Goer" "reckoned" (ay n) (ac (af 0)) (ac (aa (av bd (aw 1) (dC (.int (1)))) ah))) (aG (bu "Goer" "reckoned" (ay n) (ac (af 0)) (ac (aa (av bd (aw 1) (dC (.int (2)))) ah))) bM)))) (aj 3))
   (ar (cM (ac (aB j1 (aw 3) (dC .none))) (kI "Nought" (ac (aa (dC (.str "a working that has no number")) ah))) (aq aH)) (aq (bc (af 3)))) δ (ST S c q))).trans ?_
  . refine (ag (δ':=δ) (ax (aS (x0 rfl) rfl))).trans ?_
    refine (pF (a:=eX k) rfl (IX k)).trans ?_
    refine (cF (a:=eX k) rfl (Jz k)).trans ?_
    refine (ag (δ':=δ) ((dr (aC (lf rfl rfl (IM k)))).trans rfl)).trans ?_
    exact cF (a:=eX k) rfl (IR k)
  show bn _=xg (jD k (ev c l a) (ev c l b)).2 (ST S c (gq q (jD k (ev c l a) (ev c l b)).1))
  generalize ev c l a=A at R1 ea ra ⊢
  generalize ev c l b=B at R2 eb rb ⊢
  obtain ⟨as,A⟩:=A
  obtain ⟨bs,B⟩:=B
  cases A with
  | no z=>exact (congrArg bn (tP (Ej (wo (nZ rfl (rM R1)))))).trans rfl
  | ok x=>
   have R2':=R2 as ea
   cases B with
   | no z=>exact (congrArg bn (tP (Ej (wo (nZ rfl (nZ R1 (rM R2'))))))).trans rfl
   | ok y=>
    have W:=rm k (a:=x) (b:=y) ra rb
    have C:i7 ij (aG (ac (af 2)) (aG (bu "Goer" "reckoned" (ay n) (ac (af 0)) (ac (aa (av bd (aw 1) (dC (.int (1)))) ah))) (aG (bu "Goer" "reckoned" (ay n) (ac (af 0)) (ac (aa (av bd (aw 1) (dC (.int (2)))) ah))) bM))) δ (ST S c q)=some (.ok (oI (wk k x y)),ST S c (gq q (as++bs))):=by
     have:=aZ (f:=ac (af 2)) (δ:=δ) (S:=ST S c q) (d:=.str (eX k)) rfl (aZ R1 (aZ R2' (g:=bM) rfl))
     simp only [i7,ak,this,W,iR,Option.map_some]
    refine (congrArg bn (ag (δ':=[.val (.ref S.length),.val (tw (.op k a b)),.val (.str (eX k)),.val (oI (wk k x y))]) (cU C rfl))).trans ?_
    simp only [jD]
    cases wk k x y with
    | none=>
     refine (congrArg bn (tP (e:=Str.ofString "Nought") (S1:=ST S c (gq q (as++bs))) ((fq (S1:=ST S c (gq q (as++bs))) rfl).trans ?_))).trans rfl
     have z1:=sz 1 (by decide)
     show hX _ _=_
     simp! [uS,uD,if_pos z1]
    | some v=>
     refine (congrArg bn ((ag (δ':=[.val (.ref S.length),.val (tw (.op k a b)),.val (.str (eX k)),.val (.int v)]) ((dr (S1:=ST S c (gq q (as++bs))) rfl).trans rfl)).trans (eA (d:=.int v) (aQ rfl)))).trans rfl
end
inductive Rw where
 | set (x:Str) (t:Tr)
 | tell (t:Tr)
noncomputable def Rw.t:Rw->Tr
 | .set _ t=>t
 | .tell t=>t
noncomputable def jX (ln:Int):Rw->W
 | .set x t=>.tuple [.str "set", .int ln,.str x,tw t]
 | .tell t=>.tuple [.str "tell", .int ln,tw t]
noncomputable def aO:Nat->List Rw->List W
 | _,[]=>[]
 | k,r::rs=>jX ((k:Int)+2) r::aO (k+1) rs
theorem ff:∀ (k:Nat) (rs:List Rw),(aO k rs).length=rs.length
 | _,[]=>rfl
 | k,r::rs=>by simp [aO,ff (k+1) rs]
noncomputable def zi (b:Bool):Str:=if b then Str.ofString "nought" else Str.ofString "outside"
noncomputable def mW (q:Qs) (r:Rw) (e:Ev):Qs:=match e.2 with
 | .no _=>gq q e.1
 | .ok v=>match r with
  | .set x _=>{ gq q e.1 with nm:=q.nm++[(.inr x,.int v)] }
  | .tell _=>{ gq q e.1 with told:=q.told++[.int v] }
theorem FT:decide (Str.ofString "set" = Str.ofString "while")=false/\decide (Str.ofString "tell" = Str.ofString "while")=false/\decide (Str.ofString "tell" = Str.ofString "set")=false/\decide (Str.ofString "tell" = Str.ofString "put")=false:=by decide +kernel
section
variable (S:ai) (c:Cn)
theorem wa (q:Qs) (x:Str) (v:W) (hl:q.nm.length<8000):fJ [.ref S.length,.str x,v] (ST S c q)=some (.ok .none,ST S c { q with nm:=fH q.nm (.inr x) v }):=by
 refine (aA rfl).trans ((congrArg bn (?_:_=some (.nx [.val (.ref S.length),.val (.str x),.val v],ST S c { q with nm:=fH q.nm (.inr x) v }))).trans rfl)
 refine (Aa (d:=v) (k:=x) rfl (bq (lh S c) o5 (Ig _)) rfl o4 (by omega)).trans ?_
 rw [w4]
 rfl
theorem A9 (hc:rJ c) {l:eW} (hn:ve l) (q:Qs) (r:Rw) (ln:Int) (hd:dQ r.t<9) (hr:vx r.t) (hq:q.nm=xJ l) (ht:q.tch.length+lZ r.t<8000) (hw:q.wk=[.ref (S.length+6)]) {y:W} (hy:c.rows[q.ix]?=some y) (hx:∀ x t,r=.set x t->∀ p∈l,p.1≠x) (hl:l.length<8000) (hto:q.told.length<8000):
 i8 [.ref S.length,jX ln r] (ST S c q)=(match (ev c l r.t).2 with
  | .ok _=>some (.ok .none,ST S c (mW { q with ix:=q.ix+1 } r (ev c l r.t)))
  | .no b=>some (.xc (FI b),ST S c (mW { q with ix:=q.ix+1 } r (ev c l r.t)))):=by
 have pb:∀ δ':DS,bB (bU "Frame" "pass_by" d9 (sIx (ao "Goer" "frames" (ac (af 0))) (ac (oh gf (dC (.int (1)))))) (ac ah)) (.val (.ref S.length)::δ') (ST S c q)=some (.nx (.val (.ref S.length)::δ'),ST S c { q with ix:=q.ix+1 }):=λ δ'=>b4 (eU (lh S c) o5 (Jf _) (ds:=[]) rfl (vT S c q hy hw))
 have K:=rk S c hc hn r.t 9 { q with ix:=q.ix+1 } hd hr hq ht
 refine (aA rfl).trans ?_
 cases r with
 | set x t=>
  let δ:DS:=[.val (.ref S.length),.val (jX ln (.set x t)),.val (.str "set")]
  have R:bu "Goer" "reckoned" (ay 9) (ac (af 0)) (ac (aa (av bd (aw 1) (dC (.int (3)))) ah)) δ (ST S c { q with ix:=q.ix+1 })=_:=lO (ds:=[tw t]) v0 o0 (mG S c _ _ (by simp)) (aC (cO (x3 rfl) rfl)) K
  refine (congrArg bn (?_:_=bB (bU "Goer" "give" fJ (ac (af 0)) (aG (ac (av bd (aw 1) (dC (.int (2))))) (aG (bu "Goer" "reckoned" (ay 9) (ac (af 0)) (ac (aa (av bd (aw 1) (dC (.int (3)))) ah))) bM))) δ (ST S c { q with ix:=q.ix+1 }))).trans ?_
  . refine (ag (δ':=δ) (ax (aS (x0 rfl) rfl))).trans ?_
    refine (cF (a:=Str.ofString "set") rfl FT.1).trans ?_
    refine (ag (pb _)).trans ?_
    exact fT rfl
  . simp only [Rw.t] at R ⊢
    generalize ev c l t=e at R ⊢
    obtain ⟨es,z⟩:=e
    cases z with
    | no b=>exact (congrArg bn (zQ (Ar v0 o0 (mG S c _ _ (by simp)) (nZ (aC (x2 rfl)) (rM R))))).trans rfl
    | ok v=>
     have G:=wa S c (gq { q with ix:=q.ix+1 } es) x (.int v) (by show q.nm.length<8000;rw [hq];simpa [xJ] using hl)
     have nn:fE q.nm (Sum.inr x)=none:=by
      rw [hq]
      unfold fE xJ
      rw [Option.map_eq_none_iff,List.find?_eq_none]
      intro p hp
      obtain ⟨p',h1,rfl⟩:=List.mem_map.mp hp
      have:=hx x t rfl p' h1
      simp [this]
     have e1:fH (gq { q with ix:=q.ix+1 } es).nm (Sum.inr x) (.int v)=q.nm++[(Sum.inr x,.int v)]:=ue _ nn
     rw [e1] at G
     exact (congrArg bn (b4 (eU v0 o0 (mG S c _ _ (by simp)) (aZ (aC (x2 rfl)) (aZ R rfl)) G))).trans rfl
 | tell t=>
  let δ:DS:=[.val (.ref S.length),.val (jX ln (.tell t)),.val (.str "tell")]
  have R:bu "Goer" "reckoned" (ay 9) (ac (af 0)) (ac (aa (av bd (aw 1) (dC (.int (2)))) ah)) δ (ST S c { q with ix:=q.ix+1 })=_:=lO (ds:=[tw t]) v0 o0 (mG S c _ _ (by simp)) (aC (cO (x2 rfl) rfl)) K
  refine (congrArg bn (?_:_=br (ao "Story" "told" (ao "Goer" "story" (ac (af 0)))) (bu "Goer" "reckoned" (ay 9) (ac (af 0)) (ac (aa (av bd (aw 1) (dC (.int (2)))) ah))) δ (ST S c { q with ix:=q.ix+1 }))).trans ?_
  . refine (ag (δ':=δ) (ax (aS (x0 rfl) rfl))).trans ?_
    refine (cF (a:=Str.ofString "tell") rfl FT.2.1).trans ?_
    refine (ag (pb _)).trans ?_
    refine (fF (a:=Str.ofString "tell") rfl FT.2.2.1).trans ?_
    refine (fF (a:=Str.ofString "tell") rfl FT.2.2.2).trans ?_
    exact fT rfl
  . simp only [Rw.t] at R ⊢
    generalize ev c l t=e at R ⊢
    obtain ⟨es,z⟩:=e
    have st:ao "Story" "told" (ao "Goer" "story" (ac (af 0))) δ (ST S c { q with ix:=q.ix+1 })=some (.ok (.ref (S.length+11)),ST S c { q with ix:=q.ix+1 }):=bq (bq v0 o0 (wY _ _ _)) ti (Fi _ _ _)
    cases z with
    | no b=>exact (congrArg bn (Gk st FL R)).trans rfl
    | ok v=>
     refine (congrArg bn ((mq st FL R FL (by show q.told.length<9000;omega)).trans (by rw [Jh]))).trans rfl
theorem xn (q:Qs) {a b d:W} {ln:W} (hp:c.pg=.tuple [a,b,d,.int 1,ln]):fA [.ref S.length] (ST S c q)=some (.ok .none,ST S c { q with fin:=.tuple [.str "done", ln] }):=by
 let δ:DS:=[.val (.ref S.length)]
 refine (aA rfl).trans ((congrArg bn (?_:_=some (.nx δ,ST S c { q with fin:=.tuple [.str "done", ln] }))).trans rfl)
 have tl:jV false (gB (ao "Goer" "frames" (ac (af 0)))) (ac (dC (.int (1)))) δ (ST S c q)=some (.ok true,ST S c q):=Fx (b:=1) (AJ (bq v0 o0 (HM _ _ _)) o9) rfl
 refine (fq tl).trans ?_
 have dg:jA (ao "Goer" "defs" (ac (af 0))) (ac (dC (.str "main"))) δ (ST S c q)=some (.ok c.pg,ST S c q):=v6 (bq v0 o0 (IZ _ _ _)) rfl o1 (by simp [fE])
 rw [hp] at dg
 exact b4 (eU (bq v0 o0 (wY _ _ _)) ti (Ii _ _ _) (aZ rfl (aZ (HE dg rfl (Aq _ _ _ _ _ _)) rfl)) (lA S c q _ _))
noncomputable def mo (c:Cn) (l:eW) (q:Qs) (r:Rw) (ln:Int):Qs:=
 if c.most<=q.steps then { q with line:=.int ln,fin:=.tuple [.str "tired", .int ln] }
 else match (ev c l r.t).2 with
  | .ok _=>mW { q with line:=.int ln,steps:=q.steps+1,lns:=q.lns++[.int ln],ix:=q.ix+1 } r (ev c l r.t)
  | .no b=>{ mW { q with line:=.int ln,steps:=q.steps+1,lns:=q.lns++[.int ln],ix:=q.ix+1 } r (ev c l r.t) with fin:=.tuple [.str (zi b),.int ln] }
theorem xN:Str.ofString "Outside" ≠ Str.ofString "Nought" := by decide +kernel
theorem Ho (ln:Int) (r:Rw):∃ a l,jX ln r=.tuple (a::.int ln::l):=by cases r <;> exact ⟨_,_,rfl⟩
theorem yt (hc:rJ c) {l:eW} (hn:ve l) (q:Qs) (r:Rw) (ln:Int) (hd:dQ r.t<9) (hr:vx r.t) (hq:q.nm=xJ l) (ht:q.tch.length+lZ r.t<8000) (hw:q.wk=[.ref (S.length+6)]) {y:W} (hy:c.rows[q.ix]?=some y) (hx:∀ x t,r=.set x t->∀ p∈l,p.1≠x) (hl:l.length<8000) (hto:q.told.length<8000) (hln:q.lns.length<8000):
 iw [.ref S.length,jX ln r] (ST S c q)=some (.ok .none,ST S c (mo c l q r ln)):=by
 let δ:DS:=[.val (.ref S.length),.val (jX ln r)]
 have ix1:av bd (aw 1) (dC (.int (1))) δ=some (.int ln):=by
  obtain ⟨a,l',e⟩:=Ho ln r
  exact x1 (v:=a) (l:=l') (by rw [<-e];rfl)
 let q1:Qs:={ q with line:=.int ln }
 have s1:bO "Goer" "line" (ac (af 0)) (ac (av bd (aw 1) (dC (.int (1))))) δ (ST S c q)=some (.nx δ,ST S c q1):=by
  refine (BS (aC ix1) v0 o0 (by simp [mh])).trans ?_
  rw [Jv,w0]
 have cm:lC oT (ao "Story" "steps" (ao "Goer" "story" (ac (af 0)))) (ao "Goer" "most" (ac (af 0))) δ (ST S c q1)=some (.ok (decide (c.most<=q.steps)),ST S c q1):=xI (bq (bq v0 o0 (wY _ _ _)) ti (Fv _ _ _)) (bq v0 o0 (IU _ _ _)) rfl
 have fn:∀ (q':Qs) (w:Str) (h:q'.line=.int ln),bU "Story" "finish" b9 (ao "Goer" "story" (ac (af 0))) (aG (ac (dC (.str w))) (aG (ao "Goer" "line" (ac (af 0))) bM)) δ (ST S c q')=some (.ok .none,ST S c { q' with fin:=.tuple [.str w,.int ln] }):=λ q' w h=>by
  have L:ao "Goer" "line" (ac (af 0)) δ (ST S c q')=some (.ok (.int ln),ST S c q'):=by rw [<-h];exact bq v0 o0 (G8 _ _ _)
  exact eU (bq v0 o0 (wY _ _ _)) ti (Ii _ _ _) (aZ rfl (aZ L rfl)) (lA S c q' _ _)
 refine (aA rfl).trans ?_
 by_cases h:c.most<=q.steps
 . rw [decide_eq_true h] at cm
   unfold mo
   rw [if_pos h]
   exact (congrArg bn ((ag s1).trans (eO ((fq cm).trans ((ag (b4 (fn q1 _ rfl))).trans rfl))))).trans rfl
 . rw [decide_eq_false h] at cm
   let q2:Qs:={ q1 with steps:=q1.steps+1,lns:=q1.lns++[.int ln] }
   have s2:bB (bU "Story" "add_step" dh (ao "Goer" "story" (ac (af 0))) (aG (ao "Goer" "line" (ac (af 0))) bM)) δ (ST S c q1)=some (.nx δ,ST S c q2):=b4 (eU (bq v0 o0 (wY _ _ _)) ti (IP _ _ _) (aZ (bq v0 o0 (G8 _ _ _)) rfl) (wl S c q1 _ hln))
   have D:=A9 S c hc hn q2 r ln hd hr hq ht hw hy hx hl hto
   unfold mo
   rw [if_neg h]
   refine (congrArg bn ((ag s1).trans ((ag (δ':=δ) ((dr cm).trans rfl)).trans (ag s2)))).trans ?_
   have I:gQ "Goer" (.ref S.length) (ST S c q2)=some (S.length,mh S.length c q2.line):=eK o0
   have M:(mh S.length c q2.line).lookup (Str.ofString "do")=none:=mG S c q2 _ (by simp)
   have e0:af 0 δ=some (.ref S.length):=rfl
   have e1:aa (af 1) ah δ=some [jX ln r]:=rfl
   show bn (nJ "Goer" "do" i8 "Nought" "Outside" (af 0) (aa (af 1) ah) _ _ δ (ST S c q2))=_
   unfold nJ
   rw [e0,e1]
   simp only [Option.bind_some,I,M,if_true]
   have ql:∀ e,(mW { q2 with ix:=q2.ix+1 } r e).line=.int ln:=λ e=>by unfold mW;split <;> (try split) <;> rfl
   rw [D]
   generalize ev c l r.t=e at ql ⊢
   obtain ⟨es,z⟩:=e
   cases z with
   | ok v=>rfl
   | no b=>
    cases b with
    | true=>
     simp only [FI,if_true]
     exact (congrArg bn (b4 (fn _ _ (ql _)))).trans rfl
    | false=>
     simp only [FI,Bool.false_eq_true,if_false,xN]
     exact (congrArg bn (b4 (fn _ _ (ql _)))).trans rfl
end
noncomputable def uZ (l:eW) (r:Rw) (v:Int):eW:=match r with
 | .set x _=>l++[(x,v)]
 | .tell _=>l
noncomputable def tX (c:Cn) (l:eW) (r:Rw):Prop:=dQ r.t<=6/\vx r.t/\∀ x t,r=.set x t->∀ p∈l,p.1≠x
noncomputable def E3 (c:Cn):eW->List Rw->Prop
 | _,[]=>True
 | l,r::rs=>tX c l r/\∀ v,(ev c l r.t).2=.ok v->E3 c (uZ l r v) rs
noncomputable def cT (c:Cn) (N:W):List Rw->Nat->eW->Qs->Qs
 | [],_,_,q=>{ q with wk:=[],fin:=.tuple [.str "done", N] }
 | r::rs,k,l,q=>if c.most<=q.steps then mo c l q r ((k:Int)+2) else match (ev c l r.t).2 with
  | .no _=>mo c l q r ((k:Int)+2)
  | .ok v=>cT c N rs (k+1) (uZ l r v) (mo c l q r ((k:Int)+2))
theorem Cv {t:Tr} (h:dQ t<=6):lZ t<=63:=by
 have h1:=nO t
 have h2:2^dQ t<=2^6:=Nat.pow_le_pow_right (by decide) h
 omega
noncomputable abbrev Gf:DS->ai->SM Bool:=mr (lC j1 (ao "Story" "end" (ao "Goer" "story" (ac (af 0)))) (ac (dC .none))) (lC j1 (ao "Goer" "meeting" (ac (af 0))) (ac (dC .none)))
section
variable (S:ai) (c:Cn)
theorem DV {q:Qs} {r:DS} (h:q.fin=.none):Gf (.val (.ref S.length)::r) (ST S c q)=some (.ok true,ST S c q):=by
 have e:ao "Story" "end" (ao "Goer" "story" (ac (af 0))) (.val (.ref S.length)::r) (ST S c q)=some (.ok .none,ST S c q):=by rw [<-h];exact bq (bq v0 o0 (wY _ _ _)) ti (Gg _ _ _)
 exact qJ (xI e rfl rfl) (xI (bq v0 o0 (Js _ _ _)) rfl rfl)
theorem Ay {q:Qs} {r:DS} {x:List W} (h:q.fin=.tuple x):Gf (.val (.ref S.length)::r) (ST S c q)=some (.ok false,ST S c q):=by
 have e:ao "Story" "end" (ao "Goer" "story" (ac (af 0))) (.val (.ref S.length)::r) (ST S c q)=some (.ok (.tuple x),ST S c q):=by rw [<-h];exact bq (bq v0 o0 (wY _ _ _)) ti (Gg _ _ _)
 exact qX (xI e rfl rfl)
structure GI (q:Qs) (k:Nat) (l:eW) (rs:List Rw):Prop where
 ix:q.ix=k
 rw':c.rows.drop k=aO k rs
 wk:q.wk=[.ref (S.length+6)]
 fin:q.fin=.none
 nm:q.nm=xJ l
 rg:ve l
 ok:E3 c l rs
 tc:q.tch.length+63*rs.length<7000
 to:q.told.length+rs.length<7000
 ln:q.lns.length+rs.length<7000
 ll:l.length+rs.length<7000
 kl:k<=c.rows.length
theorem rV (hc:rJ c) {a b d N:W} (hp:c.pg=.tuple [a,b,d,.int 1,N]):∀ (rs:List Rw) (k:Nat) (l:eW) (q:Qs) (f:Nat) (s1:Sl),GI S c q k l rs->rs.length+2<=f->∃ s1',cD Gf fO f [.val (.ref S.length),s1] (ST S c q)=some (.nx [.val (.ref S.length),s1'],ST S c (cT c N rs k l q))
 | [],k,l,q,f,s1,g,hf=>by
  obtain ⟨f,rfl⟩:∃ j,f=j+2:=⟨f-2,by simp only [List.length_nil] at hf;omega⟩
  have h:q.ix=c.rows.length:=by
   have h1:=congrArg List.length g.rw'
   simp only [List.length_drop,aO,List.length_nil] at h1
   have h2:=g.ix
   have h3:=g.kl
   omega
  refine ⟨.val .none,?_⟩
  have B:fO [.val (.ref S.length),s1] (ST S c q)=some (.nx [.val (.ref S.length),.val .none],ST S c (cT c N [] k l q)):=by
   refine (ag (δ':=[.val (.ref S.length),.val .none]) (cU (eU (lh S c) o5 (HK _) (ds:=[]) rfl (B4 S c q h g.wk)) rfl)).trans ?_
   refine (fq (S1:=ST S c { q with wk:=[] }) rfl).trans ?_
   exact b4 (eU v0 o0 (mG S c _ _ (by simp)) (ds:=[]) rfl (xn S c _ hp))
  exact (Ad (DV S c g.fin) B).trans (wx (Ay S c rfl))
 | r::rs,k,l,q,f,s1,g,hf=>by
  simp only [List.length_cons] at hf
  obtain ⟨f,rfl⟩:∃ j,f=j+2:=⟨f-2,by omega⟩
  have hy:c.rows[q.ix]?=some (jX ((k:Int)+2) r):=by
   have:=congrArg (λ z=>z[0]?) g.rw'
   simp only [List.getElem?_drop,aO,List.getElem?_cons_zero,Nat.add_zero] at this
   rw [g.ix]
   exact this
  obtain ⟨⟨k1,k2,k3⟩,k4⟩:=g.ok
  have b63:=Cv k1
  have tc:=g.tc
  have to':=g.to
  have ln':=g.ln
  have ll':=g.ll
  simp only [List.length_cons] at tc to' ln' ll'
  have P:=yt S c hc g.rg q r ((k:Int)+2) (by omega) k2 g.nm (by omega) g.wk hy k3 (by omega) (by omega) (by omega)
  have B:fO [.val (.ref S.length),s1] (ST S c q)=some (.nx [.val (.ref S.length),.val (jX ((k:Int)+2) r)],ST S c (mo c l q r ((k:Int)+2))):=by
   refine (ag (δ':=[.val (.ref S.length),.val (jX ((k:Int)+2) r)]) (cU (eU (lh S c) o5 (HK _) (ds:=[]) rfl (C6 S c q hy g.wk)) rfl)).trans ?_
   refine (dr (S1:=ST S c q) (by cases r <;> rfl)).trans ?_
   exact b4 (eU v0 o0 (mG S c _ _ (by simp)) (ds:=[jX ((k:Int)+2) r]) rfl P)
  have go:=Ad (k:=f+1) (DV S c (r:=[s1]) g.fin) B
  by_cases hm:c.most<=q.steps
  . refine ⟨.val (jX ((k:Int)+2) r),?_⟩
    have e:cT c N (r::rs) k l q=mo c l q r ((k:Int)+2):=by simp only [cT,if_pos hm]
    rw [e]
    exact go.trans (wx (Ay S c (x:=[.str "tired", .int ((k:Int)+2)]) (by simp only [mo,if_pos hm])))
  . cases he:(ev c l r.t).2 with
    | no b=>
     refine ⟨.val (jX ((k:Int)+2) r),?_⟩
     have e:cT c N (r::rs) k l q=mo c l q r ((k:Int)+2):=by simp only [cT,if_neg hm,he]
     rw [e]
     exact go.trans (wx (Ay S c (x:=[.str (zi b),.int ((k:Int)+2)]) (by simp only [mo,if_neg hm,he])))
    | ok v=>
     have e:cT c N (r::rs) k l q=cT c N rs (k+1) (uZ l r v) (mo c l q r ((k:Int)+2)):=by simp only [cT,if_neg hm,he]
     rw [e]
     have el:=gF c l r.t
     have er:=sC hc g.rg r.t k2
     rw [he] at er
     have rw2:c.rows.drop (k+1)=aO (k+1) rs:=by
      rw [<-List.tail_drop,g.rw']
      rfl
     have kl':k+1<=c.rows.length:=by
      have:=(oG hy).1
      rw [g.ix] at this
      exact this
     have Q:mo c l q r ((k:Int)+2)=mW { q with line:=.int ((k:Int)+2),steps:=q.steps+1,lns:=q.lns++[.int ((k:Int)+2)],ix:=q.ix+1 } r (ev c l r.t):=by simp only [mo,if_neg hm,he]
     have G:GI S c (mo c l q r ((k:Int)+2)) (k+1) (uZ l r v) rs:=by
      rw [Q]
      have k4':=k4 v he
      cases r with
      | set x t=>
       simp only [Rw.t] at he el er b63
       simp only [mW,Rw.t,he]
       refine ⟨by simp [gq,g.ix],rw2,g.wk,g.fin,by simp [gq,g.nm,xJ,uZ],?_,k4',by simp [gq];omega,by simp [gq];omega,by simp [gq];omega,by simp [uZ];omega,kl'⟩
       intro p hp
       rcases List.mem_append.mp hp with hp | hp
       . exact g.rg p hp
       . rw [List.mem_singleton.mp hp]
         exact er
      | tell t=>
       simp only [Rw.t] at he el er b63
       simp only [mW,Rw.t,he]
       exact ⟨by simp [gq,g.ix],rw2,g.wk,g.fin,g.nm,g.rg,k4',by simp [gq];omega,by simp [gq];omega,by simp [gq];omega,by simp [uZ];omega,kl'⟩
     obtain ⟨s1',E⟩:=rV hc hp rs (k+1) (uZ l r v) _ (f+1) (.val (jX ((k:Int)+2) r)) G (by omega)
     exact ⟨s1',go.trans E⟩
end
section
variable {c f:Str} {S L L':ai} {fs:List (Str×W)} {d:W} {fv:DS->ai->SM W} {r:DS}
theorem fG (h1:fv (.val (.ref S.length)::r) (S++.ins c fs::L)=some (.ok d,S++.ins c fs::L')) (hl:fs.length<1000):bO c f (ac (af 0)) fv (.val (.ref S.length)::r) (S++.ins c fs::L)=some (.nx (.val (.ref S.length)::r),S++.ins c (di f d fs)::L'):=by
 have:=BS (c:=c) (f:=f) h1 (v0 (S:=S++.ins c fs::L')) (by have:=gA S (.ins c fs::L') 0;exact this) hl
 rw [this]
 have e:=sA S (.ins c fs::L') 0 (.ins c (di f d fs))
 rw [Nat.add_zero] at e
 rw [e]
 rfl
end
theorem p6 (f:Str) (d:W):∀ fs:List (Str×W),(di f d fs).length<=fs.length+1
 | []=>by simp [di]
 | p::fs=>by
  have:=p6 f d fs
  unfold di
  split
  . simp
  . simp only [List.length_cons]
    omega
theorem pl {f:Str} {d:W} {fs:List (Str×W)} {n:Nat} (h:fs.length<n):(di f d fs).length<n+1:=by
 have:=p6 f d fs
 omega
theorem BG {δ:DS} {S:ai}:cS (ac ah) δ S=some (.ok (.ref S.length),S++[.lst []]):=rfl
theorem Be {δ:DS} {S:ai}:xh δ S=some (.ok (.ref S.length),S++[.dK []]):=rfl
theorem xH (S:ai) (rows:List W):cA [.ref S.length,.list rows] (S++[.ins (Str.ofString "Walk") []])=some (.ok .none,S++[.ins (Str.ofString "Walk") (mz rows 0)]):=by
 refine (aA rfl).trans ((congrArg bn (?_:_=some (.nx [.val (.ref S.length),.val (.list rows)],S++[.ins (Str.ofString "Walk") (mz rows 0)]))).trans rfl)
 refine (ag (fG (fs:=[]) (d:=.list rows) rfl (by simp))).trans ?_
 exact (fG (d:=.int 0) rfl (by simp [di])).trans (by kernel_rfl)
theorem yR (S:ai) (rows:List W) (m:Nat):cj [.ref S.length,.list rows,.ref m,.none] (S++[.ins (Str.ofString "Frame") []])=some (.ok .none,S++[.ins (Str.ofString "Frame") [(Str.ofString "names", .ref m),(Str.ofString "given", .none),(Str.ofString "walks", .ref (S.length+2)),(Str.ofString "loops", .ref (S.length+3))],.ins (Str.ofString "Walk") (mz rows 0),.lst [.ref (S.length+1)],.lst []]):=by
 let δ:DS:=[.val (.ref S.length),.val (.list rows),.val (.ref m),.val .none]
 refine (aA rfl).trans ((congrArg bn (?_:_=some (.nx δ,_))).trans rfl)
 refine (ag (fG (fs:=[]) (d:=.ref m) rfl (by simp))).trans ?_
 refine (ag (fG (d:=.none) rfl (by simp [di]))).trans ?_
 let F2:List (Str×W):=di (Str.ofString "given") .none (di (Str.ofString "names") (.ref m) [])
 let S1:ai:=S++[.ins (Str.ofString "Frame") F2]
 have e1:S1.length=S.length+1:=by simp [S1]
 have wi:=xH S1 rows
 have mk:cS (aG (iQ "Walk" cA (ac (aa (af 1) ah))) bM) δ (S++[.ins (Str.ofString "Frame") F2])=some (.ok (.ref (S.length+2)),S++[.ins (Str.ofString "Frame") F2,.ins (Str.ofString "Walk") (mz rows 0),.lst [.ref (S.length+1)]]):=by
  have a:=jt (c := "Walk") (f:=cA) (fa:=ac (aa (af 1) ah)) (δ:=δ) (S:=S1) (S1:=S1) (ds:=[.list rows]) rfl wi
  have z:=sz 1 (by decide)
  have b:=aZ a (g:=bM) (ds:=[]) rfl
  simp only [cS,ak]
  rw [b]
  simp only [List.length_cons,List.length_nil,if_pos z]
  simp [S1,e1]
 refine (ag (fG (L:=[]) (L':=[.ins (Str.ofString "Walk") (mz rows 0),.lst [.ref (S.length+1)]]) mk (pl (pl (by simp))))).trans ?_
 refine (fG (d:=.ref (S.length+3)) (L':=[.ins (Str.ofString "Walk") (mz rows 0),.lst [.ref (S.length+1)],.lst []]) ?_ (pl (pl (pl (by simp))))).trans (by kernel_rfl)
 rw [BG]
 simp
theorem yQ (S:ai):bY [.ref S.length] (S++[.ins (Str.ofString "Story") []])=some (.ok .none,S++[.ins (Str.ofString "Story") [(Str.ofString "told", .ref (S.length+1)),(Str.ofString "steps", .int 0),(Str.ofString "end", .none),(Str.ofString "brought", .ref (S.length+2)),(Str.ofString "touches", .ref (S.length+3)),(Str.ofString "puts", .ref (S.length+4)),(Str.ofString "lines", .ref (S.length+5))],.lst [],.lst [],.lst [],.lst [],.lst []]):=by
 have nl:∀ (x:Ob) (L:ai) (δ:DS),cS (ac ah) δ (S++x::L)=some (.ok (.ref (S.length+(L.length+1))),S++x::(L++[.lst []])):=λ x L δ=>by
  rw [BG]
  simp
 refine (aA rfl).trans ((congrArg bn (?_:_=some (.nx [.val (.ref S.length)],_))).trans rfl)
 refine (ag (fG (fs:=[]) (nl _ _ _) (by simp))).trans ?_
 refine (ag (fG (d:=.int 0) rfl (by simp [di]))).trans ?_
 refine (ag (fG (d:=.none) rfl (pl (pl (by simp))))).trans ?_
 refine (ag (fG (nl _ _ _) (pl (pl (pl (by simp)))))).trans ?_
 refine (ag (fG (nl _ _ _) (pl (pl (pl (pl (by simp))))))).trans ?_
 refine (ag (fG (nl _ _ _) (pl (pl (pl (pl (pl (by simp)))))))).trans ?_
 exact (fG (nl _ _ _) (pl (pl (pl (pl (pl (pl (by simp)))))))).trans (by kernel_rfl)
theorem cg:∀ (hs:List Int) (T:ai),cu (aj 0) (ac hJ) (ac (aP cC (aa (af 0) ah))) [.no] (hs.map .int) T=some (.ok (hs.map λ h=>.int (wr h)),T)
 | [],_=>rfl
 | h::hs,T=>nX _ _ _ [.val (.int h)] _ _ _ _ T T T rfl (aC (jZ (ds:=[.int h]) rfl (i5 h))) (cg hs T)
noncomputable def q0 (n:Nat):Qs:={ line:=.none,ix:=0,wk:=[.ref (n+6)],nm:=[],told:=[],steps:=0,fin:=.none,lns:=[],tch:=[] }
noncomputable def jk (rows:List W) (N:W):W:=.tuple [.str "main", .list [],.list rows,.int 1,N]
noncomputable def xi (lane lanes mine:Int) (hs:List Int) (most:Int) (rows:List W) (N:W):Cn:={ pg:=jk rows N,lane:=lane,lanes:=lanes,mine:=wr mine,bx:=hs.map wr,most:=most,rows:=rows }
theorem yS (S:ai) (lane lanes mine:Int) (hs:List Int) (most:Int) (rows:List W) (N:W) (hh:hs.length<=100):eR [.ref S.length,.list [jk rows N],.int lane,.int lanes,.int mine,.list (hs.map .int),.int most] (S++[.ins (Str.ofString "Goer") []])=some (.ok .none,ST S (xi lane lanes mine hs most rows N) (q0 S.length)):=by
 let c:=xi lane lanes mine hs most rows N
 let δ (s:Sl):DS:=[.val (.ref S.length),.val (.list [jk rows N]),.val (.int lane),.val (.int lanes),.val (.int mine),.val (.list (hs.map .int)),.val (.int most),s]
 refine (aA rfl).trans ((congrArg bn (?_:_=some (.nx (δ (.val (jk rows N))),_))).trans rfl)
 have push:∀ (x:Ob) (L:ai) (o:Ob),(S++x::L)++[o]=S++x::(L++[o]):=λ x L o=>by simp
 have plen:∀ (x:Ob) (L:ai),(S++x::L).length=S.length+(L.length+1):=λ x L=>by simp
 refine (ag (fG (fs:=[]) (L:=[]) (L':=[.dK []]) (d:=.ref (S.length+1)) (by rw [Be,plen,push];rfl) (by simp))).trans ?_
 let F1:List (Str×W):=di (Str.ofString "defs") (.ref (S.length+1)) []
 have lp:lQ (ac (dm (af 1))) (aj 7) fR (δ .no) (S++[.ins (Str.ofString "Goer") F1,.dK []])=some (.nx (δ (.val (jk rows N))),S++[.ins (Str.ofString "Goer") F1,.dK [(.inr (Str.ofString "main"),jk rows N)]]):=by
  refine (li (ds:=[jk rows N]) rfl).trans ?_
  refine (lG (δ2:=δ (.val (jk rows N))) (δ':=δ (.val (jk rows N))) (S':=S++[.ins (Str.ofString "Goer") F1,.dK [(.inr (Str.ofString "main"),jk rows N)]]) rfl ?_).trans rfl
  have g0:(S++[Ob.ins (Str.ofString "Goer") F1,.dK []])[S.length]?=some (.ins (Str.ofString "Goer") F1):=gA S [.ins (Str.ofString "Goer") F1,.dK []] 0
  refine (Aa (k:=Str.ofString "main") (l:=S.length+1) (kvs:=[]) (d:=jk rows N) rfl (bq v0 g0 (by kernel_rfl)) (aC (x0 rfl)) (gA S [.ins (Str.ofString "Goer") F1,.dK []] 1) (by simp)).trans ?_
  rw [sA S [.ins (Str.ofString "Goer") F1,.dK []] 1]
  rfl
 refine (ag lp).trans ?_
 refine (ag (fG (d:=.int lane) rfl (pl (by simp)))).trans ?_
 have dv:pB [(Str.ofString "lane", (af 2)),(Str.ofString "lanes", (af 3)),(Str.ofString "mine", (aP cC (aa (af 4) ah)))] (δ (.val (jk rows N)))=some [(.inr (Str.ofString "lane"),.int lane),(.inr (Str.ofString "lanes"),.int lanes),(.inr (Str.ofString "mine"),.int (wr mine))]:=by
  have w:aP cC (aa (af 4) ah) (δ (.val (jk rows N)))=some (.int (wr mine)):=jZ (ds:=[.int mine]) rfl (i5 mine)
  simp only [pB,w,Option.bind_some,Option.map_some]
  rfl
 have ds:∀ (x:Ob) (L:ai),sH [(Str.ofString "lane", (af 2)),(Str.ofString "lanes", (af 3)),(Str.ofString "mine", (aP cC (aa (af 4) ah)))] (δ (.val (jk rows N))) (S++x::L)=some (.ok (.ref (S.length+(L.length+1))),S++x::(L++[.dK (zx c)])):=λ x L=>by
  have e:og [] [(.inr (Str.ofString "lane"),.int lane),(.inr (Str.ofString "lanes"),.int lanes),(.inr (Str.ofString "mine"),.int (wr mine))]=zx c:=by kernel_rfl
  simp only [sH,dv,Option.bind_some,List.length_cons,List.length_nil,e,plen,push]
  rfl
 refine (ag (fG (ds _ _) (pl (pl (by simp))))).trans ?_
 have cb:∀ (x:Ob) (L:ai),nM [none] (ac (dm (af 5))) (aj 0) (ac hJ) (ac (aP cC (aa (af 0) ah))) (δ (.val (jk rows N))) (S++x::L)=some (.ok (.ref (S.length+(L.length+1))),S++x::(L++[.lst (c.bx.map .int)])):=λ x L=>by
  have z:(hs.map W.int).length<=sizeLine:=sz _ (by simp;omega)
  have g:=cg hs (S++x::L)
  have e:(hs.map λ h=>W.int (wr h))=c.bx.map .int:=by simp [c,xi,List.map_map,Function.comp_def]
  rw [e] at g
  have s:ac (dm (af 5)) (δ (.val (jk rows N))) (S++x::L)=some (.ok (hs.map .int),S++x::L):=rfl
  unfold nM
  rw [s]
  simp only [ak,if_pos z]
  rw [show bA [none] (δ (.val (jk rows N)))=[.no] from rfl,g]
  simp only [plen,push]
 refine (ag (fG (cb _ _) (pl (pl (pl (by simp)))))).trans ?_
 refine (ag (fG (d:=.int most) rfl (pl (pl (pl (pl (by simp))))))).trans ?_
 let F6:List (Str×W):=di (Str.ofString "most") (.int most) (di (Str.ofString "boxes") (.ref (S.length+3)) (di (Str.ofString "signs") (.ref (S.length+2)) (di (Str.ofString "lane") (.int lane) F1)))
 let L6:ai:=[.dK [(.inr (Str.ofString "main"),jk rows N)],.dK (zx c),.lst (c.bx.map .int)]
 have fr:cS (aG (iQ "Frame" cj (aG (sIx (jA (ao "Goer" "defs" (ac (af 0))) (ac (dC (.str "main")))) (ac (dC (.int (2))))) (aG xh (aG (ac (dC .none)) bM)))) bM) (δ (.val (jk rows N))) (S++.ins (Str.ofString "Goer") F6::L6)=some (.ok (.ref (S.length+9)),S++.ins (Str.ofString "Goer") F6::(L6++[.dK [],.ins (Str.ofString "Frame") (uk S.length),.ins (Str.ofString "Walk") (mz rows 0),.lst [.ref (S.length+6)],.lst [],.lst [.ref (S.length+5)]])):=by
  let T0:ai:=S++.ins (Str.ofString "Goer") F6::L6
  let T1:ai:=T0++[.dK []]
  have t0:T0.length=S.length+4:=by simp [T0,L6]
  have t1:T1.length=S.length+5:=by simp [T1,t0]
  have g0:T0[S.length]?=some (.ins (Str.ofString "Goer") F6):=gA S _ 0
  have dg:jA (ao "Goer" "defs" (ac (af 0))) (ac (dC (.str "main"))) (δ (.val (jk rows N))) T0=some (.ok (jk rows N),T0):=v6 (bq (n:=S.length) v0 g0 (show F6.lookup (Str.ofString "defs")=some (.ref (S.length+1)) by kernel_rfl)) rfl (gA S _ 1) (by simp [fE])
  have a:=aZ (HE dg (fi:=ac (dC (.int (2)))) rfl (EV _ _ _ _)) (aZ (Be (δ:=δ (.val (jk rows N))) (S:=T0)) (aZ (f:=ac (dC .none)) (g:=bM) (d:=.none) (ds:=[]) rfl rfl))
  rw [t0] at a
  have fi:=yR T1 rows (S.length+4)
  have mk:=jt (c := "Frame") (f:=cj) a fi
  have z:=sz 1 (by decide)
  have b:=aZ mk (g:=bM) (ds:=[]) rfl
  simp only [cS,ak]
  rw [b]
  simp only [List.length_cons,List.length_nil,if_pos z,t1]
  simp [T1,T0,L6,uk]
 refine (ag (fG fr (pl (pl (pl (pl (pl (by simp)))))))).trans ?_
 refine (ag (fG (d:=.none) rfl (pl (pl (pl (pl (pl (pl (by simp))))))))).trans ?_
 refine (ag (fG (d:=.none) rfl (pl (pl (pl (pl (pl (pl (pl (by simp)))))))))).trans ?_
 let F9:List (Str×W):=di (Str.ofString "meeting") .none (di (Str.ofString "line") .none (di (Str.ofString "frames") (.ref (S.length+9)) F6))
 let L9:ai:=L6++[.dK [],.ins (Str.ofString "Frame") (uk S.length),.ins (Str.ofString "Walk") (mz rows 0),.lst [.ref (S.length+6)],.lst [],.lst [.ref (S.length+5)]]
 have sy:iQ "Story" bY (ac ah) (δ (.val (jk rows N))) (S++.ins (Str.ofString "Goer") F9::L9)=some (.ok (.ref (S.length+10)),S++.ins (Str.ofString "Goer") F9::(L9++[.ins (Str.ofString "Story") (jE S.length 0 .none),.lst [],.lst [],.lst [],.lst [],.lst []])):=by
  let T0:ai:=S++.ins (Str.ofString "Goer") F9::L9
  have t0:T0.length=S.length+10:=by simp [T0,L9,L6]
  have a:=jt (c := "Story") (f:=bY) (fa:=ac ah) (δ:=δ (.val (jk rows N))) (S:=T0) (S1:=T0) (ds:=[]) rfl (yQ T0)
  rw [t0] at a
  rw [a]
  simp [T0,jE]
 refine (ag (fG sy (pl (pl (pl (pl (pl (pl (pl (pl (by simp))))))))))).trans ?_
 let F10:List (Str×W):=di (Str.ofString "story") (.ref (S.length+10)) F9
 have eF:F10=mh S.length c .none:=by kernel_rfl
 have e10:S++.ins (Str.ofString "Goer") F10::(L9++[.ins (Str.ofString "Story") (jE S.length 0 .none),.lst [],.lst [],.lst [],.lst [],.lst []])=S++[.ins (Str.ofString "Goer") (mh S.length c .none),.dK [(.inr (Str.ofString "main"),c.pg)],.dK (zx c),.lst (c.bx.map .int),.dK [],.ins (Str.ofString "Frame") (uk S.length),.ins (Str.ofString "Walk") (mz rows 0),.lst [.ref (S.length+6)],.lst [],.lst [.ref (S.length+5)],.ins (Str.ofString "Story") (jE S.length 0 .none),.lst [],.lst [],.lst [],.lst [],.lst []]:=by rw [eF];rfl
 rw [show di (Str.ofString "story") (.ref (S.length+10)) F9=F10 from rfl,e10]
 let M:ai:=[.ins (Str.ofString "Goer") (mh S.length c .none),.dK [(.inr (Str.ofString "main"),c.pg)],.dK (zx c),.lst (c.bx.map .int),.dK [],.ins (Str.ofString "Frame") (uk S.length),.ins (Str.ofString "Walk") (mz rows 0),.lst [.ref (S.length+6)],.lst [],.lst [.ref (S.length+5)],.ins (Str.ofString "Story") (jE S.length 0 .none),.lst [],.lst [],.lst [],.lst [],.lst []]
 have bp:dj [.ref (S.length+10)] (S++M)=some (.ok .none,ST S c (q0 S.length)):=by
  have g:∀ (L:ai) (k:Nat),(S++L)[S.length+k]?=L[k]?:=gA S
  refine (aA rfl).trans ((congrArg bn (?_:_=some (.nx [.val (.ref (S.length+10))],ST S c (q0 S.length)))).trans rfl)
  have n1:cS (ac ah) [.val (.ref (S.length+10))] (S++M)=some (.ok (.ref (S.length+16)),S++(M++[.lst []])):=by
   rw [BG]
   simp [M]
  have a1:=mq (fo:=ao "Story" "touches" (ac (af 0))) (δ:=[.val (.ref (S.length+10))]) (l:=S.length+13) (bq (n:=S.length+10) v0 (g M 10) (Fk _ _ _)) (g M 13) n1 (g (M++[.lst []]) 13) (by simp)
  refine (ag a1).trans ?_
  rw [sA S (M++[Ob.lst []]) 13]
  let M2:ai:=(M++[Ob.lst []]).set 13 (Ob.lst ([]++[W.ref (S.length+16)]))
  have n2:xh [.val (.ref (S.length+10))] (S++M2)=some (.ok (.ref (S.length+17)),S++(M2++[.dK []])):=by
   rw [Be]
   simp [M2,M]
  have a2:=mq (fo:=ao "Story" "puts" (ac (af 0))) (δ:=[.val (.ref (S.length+10))]) (l:=S.length+14) (bq (n:=S.length+10) v0 (g M2 10) (show (jE S.length 0 .none).lookup (Str.ofString "puts")=some (.ref (S.length+14)) by kernel_rfl)) (g M2 14) n2 (g (M2++[.dK []]) 14) (by simp)
  refine a2.trans ?_
  rw [sA S (M2++[Ob.dK []]) 14]
  rfl
 exact b4 (eU (n:=S.length+10) (bq (n:=S.length) v0 (gA S M 0) (wY _ _ _)) (gA S M 10) (J8 _ _ _) (ds:=[]) rfl bp)
theorem uh (S:ai) (lane lanes mine:Int) (hs:List Int) (most:Int) (rs:List Rw) (N:W) (hh:hs.length<=100) (hc:rJ (xi lane lanes mine hs most (aO 0 rs) N)) (hr:E3 (xi lane lanes mine hs most (aO 0 rs) N) [] rs) (hl:rs.length<=100):
 gN [.list [jk (aO 0 rs) N],.int lane,.int lanes,.int mine,.list (hs.map .int),.int most,.list []] S=some (.ok (.ref (S.length+10)),ST S (xi lane lanes mine hs most (aO 0 rs) N) (cT (xi lane lanes mine hs most (aO 0 rs) N) N rs 0 [] (q0 S.length))):=by
 let c:=xi lane lanes mine hs most (aO 0 rs) N
 let pr:W:=.list [jk (aO 0 rs) N]
 let δ:DS:=[.val pr,.val (.int lane),.val (.int lanes),.val (.int mine),.val (.list (hs.map .int)),.val (.int most),.val (.list []),.val (.ref S.length),.no]
 have G:GI S c (q0 S.length) 0 [] rs:=⟨rfl,rfl,rfl,rfl,rfl,(λ p hp=>absurd hp List.not_mem_nil),hr,by simp [q0];omega,by simp [q0];omega,by simp [q0];omega,by simp;omega,Nat.zero_le _⟩
 obtain ⟨s1',E⟩:=rV S c hc (N:=N) rfl rs 0 [] (q0 S.length) 1000000 .no G (by omega)
 have gr:iB [.ref S.length] (ST S c (q0 S.length))=some (.ok .none,ST S c (cT c N rs 0 [] (q0 S.length))):=(aA rfl).trans ((congrArg bn E).trans rfl)
 have vg:∀ T:ai,ac (af 7) δ T=some (.ok (.ref S.length),T):=λ _=>rfl
 refine (aA rfl).trans ((congrArg bn (?_:_=some (.rt (.ref (S.length+10)),_))).trans rfl)
 refine (ag (δ':=δ) (cU (jt (ds:=[pr,.int lane,.int lanes,.int mine,.list (hs.map .int),.int most]) (S1:=S) rfl (yS S lane lanes mine hs most (aO 0 rs) N hh)) rfl)).trans ?_
 refine (ag (b4 (eU (vg _) o0 (mG S c _ _ (by simp)) (ds:=[]) rfl gr))).trans ?_
 refine (ag (δ':=δ) ((li (ds:=[]) rfl).trans rfl)).trans ?_
 exact bT (bq (vg _) o0 (wY _ _ _))
noncomputable def cy (ns:List Int) (k:Nat):Int:=(ns[k]?).getD 0
theorem i6 (ns:List Int) (k:Nat):aF [.list (ns.map .int),.int k]=some (.int (cy ns k)):=by
 refine d7 rfl ?_
 have t:aB mj (aw 1) (hV dF (aw 0)) [.val (.list (ns.map .int)),.val (.int k)]=some (decide (k<ns.length)):=by
  simp! [uD,List.length_map]
  congr 1
  exact decide_eq_decide.mpr (by omega)
 by_cases h:k<ns.length
 . rw [decide_eq_true h] at t
   refine cr (aE (b:=true) t (aQ (F5 (l:=ns.map .int) rfl rfl ?_)))
   rw [yF _ _ (by simpa using h)]
   simp [cy,List.getElem?_eq_getElem h]
 . rw [decide_eq_false h] at t
   refine aN (aE (b:=false) t rfl) (aQ ?_)
   simp [cy,List.getElem?_eq_none (Nat.le_of_not_lt h),dC]
noncomputable def CI (b:Int):Int:=((b*(b+48271)).fmod 2147483579).fdiv 5
noncomputable def iX (x k:Int):Int:=CI (((x.fmod 2147483647+16807*k+7).fmod 2147483629*(x.fmod 2147483647+16807*k+7).fmod 2147483629).fmod 2147483587)
theorem j0 (x k:Int):aW [.int x,.int k]=some (.int (iX x k)):=by
 have h1:=bX (x.fmod 2147483647+16807*k+7) (j:=2147483629) (by decide)
 have h2:=bX ((x.fmod 2147483647+16807*k+7).fmod 2147483629*(x.fmod 2147483647+16807*k+7).fmod 2147483629) (j:=2147483587) (by decide)
 have m0:=bw x (j:=2147483647) (by decide)
 have m1:=bw (x.fmod 2147483647+16807*k+7) (j:=2147483629) (by decide)
 have p0:dZ (.int 16807) (.int k)=some (.int (16807*k)):=fU (iD (by decide) (by decide))
 unfold iX
 refine d7 rfl ?_
 refine aN (δ1:=[.val (.int x),.val (.int k),.val (.int ((x.fmod 2147483647+16807*k+7).fmod 2147483629))]) (aS (by simp! [uD,m0,p0,m1]) rfl) ?_
 generalize (x.fmod 2147483647+16807*k+7).fmod 2147483629=a at h1 h2 ⊢
 have p1:dZ (.int a) (.int a)=some (.int (a*a)):=fU (iD (by omega) (by omega))
 have m2:=bw (a*a) (j:=2147483587) (by decide)
 refine aN (δ1:=[.val (.int x),.val (.int k),.val (.int ((a*a).fmod 2147483587))]) (aS (by simp! [uD,p1,m2]) rfl) ?_
 generalize (a*a).fmod 2147483587=b at h2 ⊢
 have p2:dZ (.int b) (.int (b+48271))=some (.int (b*(b+48271))):=fU (iD (by omega) (by omega))
 have m3:=bw (b*(b+48271)) (j:=2147483579) (by decide)
 have d3:=g9 ((b*(b+48271)).fmod 2147483579) (j:=5) (by decide) (by decide)
 refine aQ ?_
 simp! [uD,p2,m3,d3,CI]
theorem qH (k:Fin 7) {a b v:Int} (ha:Rg a) (hb:Rg b) (hv:wk k a b=some v):fY [.str (eX k),.int a,.int b]=some (.int v):=by
 have h0:¬ ((k=3∨k=4)/\b=0):=λ z=>by
  unfold wk at hv
  rw [if_pos z] at hv
  cases hv
 have hv':v=wr (rZ k a b):=by
  unfold wk at hv
  rw [if_neg h0] at hv
  exact (Option.some.inj hv).symm
 subst hv'
 obtain ⟨q0,q1,q2,q3,q4,q5⟩:=oq k
 have z0:∀ {δ:DS} {w:Str},aw 0 δ=some (.str (eX k))->aB d8 (aw 0) (dC (.str w)) δ=some (decide (eX k=w)):=λ h=>tD h
 let δ:DS:=[.val (.str (eX k)),.val (.int a),.val (.int b)]
 have i1:∀ (p:Prop) [Decidable p],(if decide p=true then (1:Int) else 0)=(if p then 1 else 0):=λ p _=>by by_cases h:p <;> simp [h]
 have w01:∀ p:Prop,∀ [Decidable p],wr (if p then 1 else 0)=(if p then 1 else 0):=λ p _=>zu (by by_cases h:p <;> simp only [h,if_true,if_false] <;> decide)
 refine d7 rfl ?_
 by_cases e0:k=0
 . subst e0
   exact cr (aE (b:=true) (by rw [z0 rfl,q0];rfl) (aQ (jZ (ds:=[.int (a+b)]) rfl (gn _))))
 refine aN (δ1:=δ) (aE (b:=false) (by rw [z0 rfl,q0,decide_eq_false e0]) rfl) ?_
 by_cases e1:k=1
 . subst e1
   exact cr (aE (b:=true) (by rw [z0 rfl,q1];rfl) (aQ (jZ (ds:=[.int (a-b)]) rfl (gn _))))
 refine aN (δ1:=δ) (aE (b:=false) (by rw [z0 rfl,q1,decide_eq_false e1]) rfl) ?_
 by_cases e2:k=2
 . subst e2
   exact cr (aE (b:=true) (by rw [z0 rfl,q2];rfl) (aQ (jZ (ds:=[.int (a*b)]) (cO (dO rfl rfl (fU (om ha))) rfl) (gn _))))
 refine aN (δ1:=δ) (aE (b:=false) (by rw [z0 rfl,q2,decide_eq_false e2]) rfl) ?_
 by_cases e3:k=3
 . subst e3
   have hb0:b≠0:=λ z=>h0 ⟨.inl rfl,z⟩
   exact cr (aE (b:=true) (by rw [z0 rfl,q3];rfl) (aQ (jZ (ds:=[.int (a.fdiv b)]) (cO (dO rfl rfl (lU (od hb hb0))) rfl) (gn _))))
 refine aN (δ1:=δ) (aE (b:=false) (by rw [z0 rfl,q3,decide_eq_false e3]) rfl) ?_
 by_cases e4:k=4
 . subst e4
   have hb0:b≠0:=λ z=>h0 ⟨.inr rfl,z⟩
   have f:=ze ha hb hb0
   have e:wr (rZ 4 a b)=a-a.fdiv b*b:=by
    have e1:rZ 4 a b=a-b*a.fdiv b:=rfl
    rw [e1,vj,zu (BW hb hb0),Int.mul_comm,vj]
   rw [e]
   exact cr (aE (b:=true) (by rw [z0 rfl,q4];rfl) (aQ (dO (b:=.int (a.fdiv b*b)) rfl (dO (dO rfl rfl (lU (od hb hb0))) rfl (fU (iD f.1 f.2))) rfl)))
 refine aN (δ1:=δ) (aE (b:=false) (by rw [z0 rfl,q4,decide_eq_false e4]) rfl) ?_
 by_cases e5:k=5
 . subst e5
   have e:wr (rZ 5 a b)=(if a<b then 1 else 0):=w01 (a<b)
   rw [e]
   refine cr (aE (b:=true) (by rw [z0 rfl,q5];rfl) (aQ ?_))
   show ((dB (aB mj (aw 1) (aw 2)) δ).bind zt)=_
   show some (W.int (if decide (a<b)=true then 1 else 0))=_
   rw [i1]
 refine aN (δ1:=δ) (aE (b:=false) (by rw [z0 rfl,q5,decide_eq_false e5]) rfl) (aQ ?_)
 have e:wr (rZ k a b)=(if a=b then 1 else 0):=by
  have:rZ k a b=(if a=b then 1 else 0):=by simp [rZ,e0,e1,e2,e3,e4,e5]
  rw [this]
  exact w01 (a=b)
 rw [e]
 show some (W.int (if decide (a=b)=true then 1 else 0))=_
 rw [i1]
structure Im where
 t:Tr
 deep:Int
 e:Ev
noncomputable def xa:Rz->W
 | .ok v=>.int v
 | .no _=>.none
noncomputable def ma:Rz->Str
 | .ok _=>Str.ofString ""
 | .no b=>zi b
noncomputable def b6 (i:Im):W:=.tuple [tw i.t,xa i.e.2,.int i.deep,.list (i.e.1.map .int),.str (ma i.e.2)]
theorem ee:decide (Str.ofString "" = Str.ofString "")=true:=by decide +kernel
theorem CN:∀ b,decide (zi b=Str.ofString "")=false:=by decide +kernel
theorem HR:zi false=Str.ofString "outside" /\ zi true=Str.ofString "nought" := by decide +kernel
noncomputable def kC (bx:List Int) (i:Im):Im:=⟨.box i.t,i.deep+1,gJ bx i.e⟩
noncomputable def uf (a b:Int):Int:=if b>a then b else a
noncomputable def ir (k:Fin 7) (i j:Im):Im:=⟨.op k i.t j.t,1+uf i.deep j.deep,jD k i.e j.e⟩
theorem vA (bx:List Int) (i:Im) (hl:i.e.1.length<=4000):eG [b6 i,.list (bx.map .int)]=some (b6 (kC bx i)):=by
 obtain ⟨t,dp,es,z⟩:=i
 have z1:=sz 1 (by decide)
 have z2:=sz 2 (by decide)
 have z5:=sz 5 (by decide)
 cases z with
 | no b=>
  simp! [eG,b6,xa,ma,kC,gJ,tw,uD,Ec,CK,EV,Da,Aq,CN,if_pos z2,if_pos z5]
 | ok p=>
  have ih:av bd (aw 0) (dC (.int (4))) [.val (b6 ⟨t,dp,es,.ok p⟩),.val (.list (bx.map .int))]=some (.str ""):=x4 rfl
  refine d7 rfl ?_
  refine aN (aE (b:=false) (lf ih rfl (by rw [jS,ee];rfl)) rfl) ?_
  have i1:av bd (aw 0) (dC (.int (1))) [.val (b6 ⟨t,dp,es,.ok p⟩),.val (.list (bx.map .int))]=some (.int p):=x1 rfl
  have c1:aB mj (av bd (aw 0) (dC (.int (1)))) (dC (.int (0))) [.val (b6 ⟨t,dp,es,.ok p⟩),.val (.list (bx.map .int))]=some (decide (p<0)):=lf i1 rfl rfl
  have c2:aB oT (av bd (aw 0) (dC (.int (1)))) (hV dF (aw 1)) [.val (b6 ⟨t,dp,es,.ok p⟩),.val (.list (bx.map .int))]=some (decide ((bx.length:Int)<=p)):=by
   refine lf (b:=.int bx.length) i1 ?_ rfl
   simp! [uD,List.length_map]
  have oc:qm (aB mj (av bd (aw 0) (dC (.int (1)))) (dC (.int (0)))) (aB oT (av bd (aw 0) (dC (.int (1)))) (hV dF (aw 1))) [.val (b6 ⟨t,dp,es,.ok p⟩),.val (.list (bx.map .int))]=some (decide (¬ (0<=p/\p<bx.length))):=by
   unfold qm
   rw [c1]
   by_cases h1:p<0
   . simp [h1]
   . simp only [h1,decide_false,Option.bind_some,Bool.false_eq_true,if_false,c2]
     congr 1
     exact decide_eq_decide.mpr (by omega)
  by_cases h:0<=p/\p<bx.length
  . rw [decide_eq_false (not_not_intro h)] at oc
    refine aN (aE (b:=false) oc rfl) (aQ ?_)
    have am:=wE bx p h.1 h.2
    have za:(es.map W.int).length+[W.int p].length<=sizeLine:=sz _ (by simp at hl ⊢;omega)
    have ga:b8 (.list (es.map W.int)) (.list [W.int p])=some (.list (es.map W.int++[.int p])):=qw za
    simp! [b6,xa,ma,kC,gJ,tw,uD,Ec,CK,EV,Da,Aq,if_pos z1,if_pos z2,if_pos z5,am,ga,if_pos h,List.map_append]
  . rw [decide_eq_true h] at oc
    refine cr (aE (b:=true) oc (aQ ?_))
    simp! [b6,xa,ma,kC,gJ,tw,uD,Ec,CK,EV,Da,Aq,if_pos z2,if_pos z5,if_neg h,HR.1]
theorem vk (k:Fin 7) (i j:Im) (hi:i.e.1.length<=4000) (hj:j.e.1.length<=4000) (ri:CP i.e.2) (rj:CP j.e.2):eE [.str (eX k),b6 i,b6 j]=some (b6 (ir k i j)):=by
 obtain ⟨t,dp,es,z⟩:=i
 obtain ⟨u,dq,fs,y⟩:=j
 have z2:=sz 2 (by decide)
 have z3:=sz 3 (by decide)
 have z5:=sz 5 (by decide)
 have za:(es.map W.int).length+(fs.map W.int).length<=sizeLine:=sz _ (by simp at hi hj ⊢;omega)
 have ga:b8 (.list (es.map W.int)) (.list (fs.map W.int))=some (.list (es.map W.int++fs.map W.int)):=qw za
 let D:W:=.tuple [.str (eX k),tw t,tw u]
 let m:W:=.int (1+uf dp dq)
 let δ0:DS:=[.val (.str (eX k)),.val (b6 ⟨t,dp,es,z⟩),.val (b6 ⟨u,dq,fs,y⟩),.val D,.val m,.no]
 let δ:DS:=[.val (.str (eX k)),.val (b6 ⟨t,dp,es,z⟩),.val (b6 ⟨u,dq,fs,y⟩),.val D,.val m,.val (.list (es.map W.int++fs.map W.int))]
 have i4:∀ r,av bd (aw 1) (dC (.int (4))) (.val (.str (eX k))::.val (b6 ⟨t,dp,es,z⟩)::r)=some (.str (ma z)):=λ r=>x4 rfl
 have j4:∀ r,av bd (aw 2) (dC (.int (4))) (.val (.str (eX k))::.val (b6 ⟨t,dp,es,z⟩)::.val (b6 ⟨u,dq,fs,y⟩)::r)=some (.str (ma y)):=λ r=>x4 rfl
 refine d7 rfl ?_
 refine aN (aS (d:=D) (Fq rfl (x0 rfl) (x0 rfl)) rfl) ?_
 refine aN (δ1:=δ0) (aS (d:=m) ?_ rfl) ?_
 . refine dO (b:=.int (uf dp dq)) rfl ?_ rfl
   show (aa (av bd (aw 1) (dC (.int (2)))) (aa (av bd (aw 2) (dC (.int (2)))) ah) _).bind iT=_
   rw [My.dC2 (a:=.int dp) (b:=.int dq) (x2 rfl) (x2 rfl)]
   rfl
 cases z with
 | no b=>
  refine cr (aE (b:=true) (lf (i4 _) rfl (by rw [jS];exact congrArg (λ x=>some (!x)) (CN b))) (aQ ?_))
  simp! [δ0,b6,xa,ma,ir,jD,tw,D,m,uD,Da,Aq,if_pos z5]
 | ok a=>
  refine aN (δ1:=δ0) (aE (b:=false) (lf (i4 _) rfl (by rw [jS];exact congrArg (λ x=>some (!x)) ee)) rfl) ?_
  refine aN (δ1:=δ) (aS (d:=.list (es.map W.int++fs.map W.int)) (dO (x3 rfl) (x3 rfl) ga) rfl) ?_
  cases y with
  | no b=>
   refine cr (aE (b:=true) (lf (j4 _) rfl (by rw [jS];exact congrArg (λ x=>some (!x)) (CN b))) (aQ ?_))
   simp! [δ,b6,xa,ma,ir,jD,tw,D,m,uD,Da,Aq,if_pos z5,List.map_append]
  | ok b=>
   refine aN (δ1:=δ) (aE (b:=false) (lf (j4 _) rfl (by rw [jS];exact congrArg (λ x=>some (!x)) ee)) rfl) ?_
   have t1:aB mJ (aw 0) (ba (aa (dC (.str "div")) (aa (dC (.str "rem")) ah))) δ=some (decide (k=3∨k=4)):=lf rfl (wU rfl rfl) (oi k)
   have t2:aB d8 (av bd (aw 2) (dC (.int (1)))) (dC (.int (0))) δ=some (decide (b=0)):=lf (x1 rfl) rfl rfl
   by_cases h:(k=3∨k=4)/\b=0
   . rw [decide_eq_true h.1] at t1
     rw [decide_eq_true h.2] at t2
     refine cr (aE (b:=true) (dA t1 t2) (aQ ?_))
     have w:wk k a b=none:=if_pos h
     simp! [δ,b6,xa,ma,ir,jD,w,tw,D,m,uD,if_pos z5,List.map_append,HR.2]
   . have c:pc (aB mJ (aw 0) (ba (aa (dC (.str "div")) (aa (dC (.str "rem")) ah)))) (aB d8 (av bd (aw 2) (dC (.int (1)))) (dC (.int (0)))) δ=some false:=by
      by_cases h1:k=3∨k=4
      . rw [decide_eq_true h1] at t1
        rw [decide_eq_false (λ z=>h ⟨h1,z⟩)] at t2
        exact dA t1 t2
      . rw [decide_eq_false h1] at t1
        exact IG t1
     have w:wk k a b=some (wr (rZ k a b)):=if_neg h
     refine aN (δ1:=δ) (aE (b:=false) c rfl) (aQ ?_)
     have r:=qH k ri rj w
     simp! [δ,b6,xa,ma,ir,jD,w,tw,D,m,uD,CK,r,if_pos z5,List.map_append]
noncomputable def oR:Str:=Str.ofString "abcdefghijklmnopqrstuvwxyz"
noncomputable def mL (k:Nat):Nat:=oR.cps.toList.getD k 0
theorem yx:oR.cps.toList.length=26:=by decide +kernel
theorem uG (k:Nat) (h:k<26):bd (.str oR) (.int k)=some (.str ⟨#[mL k]⟩):=by
 have hz:oR.length<=sizeLine:=sz _ (by decide +kernel)
 have hk:k<oR.cps.toList.length:=by rw [yx];omega
 show (if oR.length<=sizeLine then (gW oR.cps.toList (k:Int)).map λ c=>W.str ⟨#[c]⟩ else none)=_
 rw [if_pos hz,yF _ k hk,List.getElem?_eq_getElem hk]
 simp [mL,List.getD,List.getElem?_eq_getElem hk]
noncomputable def v8 (fr:Bool) (k:Nat):Str:=if fr then ((⟨#[mL (k / 26%26)]⟩:Str)++⟨#[mL (k%26)]⟩)++Str.ofString "qx" else Str.ofString "qx" ++ ((⟨#[mL (k / 26%26)]⟩:Str)++⟨#[mL (k%26)]⟩)
theorem vN:∀ (fr:Bool) (a b:Fin 64),v8 fr a.1=v8 fr b.1->a=b:=by decide +kernel
theorem Eo:∀ (fr:Bool) (a:Fin 64),v8 fr a.1≠Str.ofString "zz" := by decide +kernel
theorem Ai (k n:Nat) (h:0<n):((k:Int).fdiv n)=((k / n:Nat):Int):=by rw [Int.fdiv_eq_ediv_of_nonneg _ (by omega)];rfl
theorem wL (k n:Nat) (h:0<n):((k:Int).fmod n)=((k%n:Nat):Int):=by rw [Int.fmod_eq_emod_of_nonneg _ (by omega)];rfl
theorem vp (c:Nat):(⟨#[c]⟩:Str).length=1:=rfl
theorem rL (a b:Nat):((⟨#[a]⟩:Str)++⟨#[b]⟩).length=2:=rfl
theorem vd (k:Nat) (fr:Bool):eP [.int k,.bool fr]=some (.str (v8 fr k)):=by
 have a1:=uG (k / 26%26) (Nat.mod_lt _ (by decide))
 have a2:=uG (k%26) (Nat.mod_lt _ (by decide))
 have d1:=g9 (k:Int) (j:=26) (by decide) (by decide)
 have m1:=bw ((k:Int).fdiv 26) (j:=26) (by decide)
 have m2:=bw (k:Int) (j:=26) (by decide)
 have e1:(k:Int).fdiv 26=((k / 26:Nat):Int):=Ai k 26 (by decide)
 have e2:((k / 26:Nat):Int).fmod 26=((k / 26%26:Nat):Int):=wL _ 26 (by decide)
 have e3:(k:Int).fmod 26=((k%26:Nat):Int):=wL _ 26 (by decide)
 rw [e1] at d1 m1
 rw [e2] at m1
 rw [e3] at m2
 have q2:(Str.ofString "qx").length=2:=by decide +kernel
 have g1:b8 (.str ⟨#[mL (k / 26%26)]⟩) (.str ⟨#[mL (k%26)]⟩)=some (.str ((⟨#[mL (k / 26%26)]⟩:Str)++⟨#[mL (k%26)]⟩)):=qp (sz _ (by rw [vp,vp];decide))
 have g2:b8 (.str ((⟨#[mL (k / 26%26)]⟩:Str)++⟨#[mL (k%26)]⟩)) (.str "qx")=some (.str (((⟨#[mL (k / 26%26)]⟩:Str)++⟨#[mL (k%26)]⟩)++Str.ofString "qx")):=qp (sz _ (by rw [rL,q2];decide))
 have g3:b8 (.str "qx") (.str ((⟨#[mL (k / 26%26)]⟩:Str)++⟨#[mL (k%26)]⟩))=some (.str (Str.ofString "qx" ++ ((⟨#[mL (k / 26%26)]⟩:Str)++⟨#[mL (k%26)]⟩))):=qp (sz _ (by rw [rL,q2];decide))
 refine d7 rfl ?_
 refine aN (δ1:=[.val (.int k),.val (.bool fr),.val (.str oR),.no]) rfl ?_
 refine aN (δ1:=[.val (.int k),.val (.bool fr),.val (.str oR),.val (.str ((⟨#[mL (k / 26%26)]⟩:Str)++⟨#[mL (k%26)]⟩))]) (aS (dO (dO rfl (dO (dO rfl rfl d1) rfl m1) a1) (dO rfl (dO rfl rfl m2) a2) g1) rfl) ?_
 cases fr with
 | true=>exact cr (aE (b:=true) rfl (aQ (dO rfl rfl g2)))
 | false=>exact aN (aE (b:=false) rfl rfl) (aQ (dO rfl rfl g3))
noncomputable def pP (y:Str):Tr->Prop
 | .nam x=>x=y
 | .box t=>pP y t
 | .op _ a b=>pP y a∨pP y b
 | _=>False
theorem xG {l:eW} {x y:Str} {v:Int} (h:x≠y):uu (l++[(y,v)]) x=uu l x:=by
 unfold uu
 rw [List.find?_append]
 cases l.find? λ p=>decide (p.1=x) with
 | some p=>rfl
 | none=>simp [Ne.symm h]
theorem yj {l:eW} {y:Str} {v:Int} (h:∀ p∈l,p.1≠y):uu (l++[(y,v)]) y=v:=by
 unfold uu
 rw [List.find?_append]
 have:(l.find? λ p=>decide (p.1=y))=none:=by
  rw [List.find?_eq_none]
  intro p hp
  simp [h p hp]
 rw [this]
 simp
theorem ol {c:Cn} {l:eW} {y:Str} {v:Int}:∀ t,¬ pP y t->ev c (l++[(y,v)]) t=ev c l t
 | .num _,_=>rfl
 | .sig _,_=>rfl
 | .nam x,h=>by simp only [ev];rw [xG h]
 | .box t,h=>by simp only [ev];rw [ol t h]
 | .op k a b,h=>by simp only [ev];rw [ol a λ z=>h (.inl z),ol b λ z=>h (.inr z)]
theorem pR {c c':Cn} (h1:c.lane=c'.lane) (h2:c.lanes=c'.lanes) (h3:c.mine=c'.mine) (h4:c.bx=c'.bx) (l:eW):∀ t,ev c l t=ev c' l t
 | .num _=>rfl
 | .sig k=>by simp only [ev,CS,h1,h2,h3]
 | .nam x=>rfl
 | .box t=>by simp only [ev];rw [pR h1 h2 h3 h4 l t,h4]
 | .op k a b=>by simp only [ev];rw [pR h1 h2 h3 h4 l a,pR h1 h2 h3 h4 l b]
structure Gm (c:Cn) (l:eW) (fr:Bool) (j:Nat) (i:Im):Prop where
 e:i.e=ev c l i.t
 rg:vx i.t
 dp:(dQ i.t:Int)<=i.deep
 d6:i.deep<=6
 nm:∀ y,pP y i.t->y=Str.ofString "zz" ∨ ∃ k,k<j/\y=v8 fr k
theorem Gm.len {c:Cn} {l:eW} {fr:Bool} {j:Nat} {i:Im} (g:Gm c l fr j i):i.e.1.length<=63:=by
 rw [g.e]
 have h1:=gF c l i.t
 have h2:=g.dp
 have h3:=g.d6
 have:=Cv (t:=i.t) (by omega)
 omega
theorem Gm.rz {c:Cn} {l:eW} {fr:Bool} {j:Nat} {i:Im} (g:Gm c l fr j i) (hc:rJ c) (hl:ve l):CP i.e.2:=by rw [g.e];exact sC hc hl _ g.rg
theorem vo {a b m:Int} (h1:a<=m) (h2:b<=m):uf a b<=m:=by unfold uf;split <;> omega
theorem vb {a b x:Int} (h:x<=a∨x<=b):x<=uf a b:=by unfold uf;split <;> omega
theorem Gm.box {c:Cn} {l:eW} {fr:Bool} {j:Nat} {i:Im} (g:Gm c l fr j i) (h:i.deep<=5):Gm c l fr j (kC c.bx i):=
 ⟨by simp only [kC,ev];rw [g.e],g.rg,by simp only [kC,dQ];have:=g.dp;omega,by simp only [kC];omega,g.nm⟩
theorem Gm.two {c:Cn} {l:eW} {fr:Bool} {j:Nat} {i i':Im} (k:Fin 7) (g:Gm c l fr j i) (g':Gm c l fr j i') (h:i.deep<=5) (h':i'.deep<=5):Gm c l fr j (ir k i i'):=
 ⟨by simp only [ir,ev];rw [g.e,g'.e],⟨g.rg,g'.rg⟩,by
  simp only [ir,dQ]
  have h1:(dQ i.t:Int)<=uf i.deep i'.deep:=vb (.inl g.dp)
  have h2:(dQ i'.t:Int)<=uf i.deep i'.deep:=vb (.inr g'.dp)
  omega,by
  simp only [ir]
  have:=vo h h'
  omega,λ y hy=>hy.elim (g.nm y) (g'.nm y)⟩
theorem Gm.num {c:Cn} {l:eW} {fr:Bool} {j:Nat} {v:Int} (h:Rg v):Gm c l fr j ⟨.num v,0,[],.ok v⟩:=⟨rfl,h,by simp [dQ],by simp,λ y hy=>hy.elim⟩
theorem Gm.up {c:Cn} {l:eW} {fr:Bool} {j:Nat} {i:Im} (g:Gm c l fr j i):Gm c l fr (j+1) i:=⟨g.e,g.rg,g.dp,g.d6,λ y hy=>(g.nm y hy).imp id λ ⟨k,h1,h2⟩=>⟨k,by omega,h2⟩⟩
theorem Gm.ext {c:Cn} {l:eW} {fr:Bool} {j:Nat} {i:Im} (g:Gm c l fr j i) (hj:j<64) (v:Int):Gm c (l++[(v8 fr j,v)]) fr (j+1) i:=by
 refine ⟨?_,g.rg,g.dp,g.d6,g.up.nm⟩
 rw [ol _ λ z=>?_]
 . exact g.e
 . rcases g.nm _ z with h | ⟨k,h1,h2⟩
   . exact Eo fr ⟨j,hj⟩ h
   . have:=vN fr ⟨j,hj⟩ ⟨k,by omega⟩ h2
     have:=congrArg Fin.val this
     simp at this
     omega
theorem wj (x k:Int):0<=iX x k/\iX x k<2147483579:=by
 unfold iX
 generalize ((x.fmod 2147483647+16807*k+7).fmod 2147483629*(x.fmod 2147483647+16807*k+7).fmod 2147483629).fmod 2147483587=b
 unfold CI
 have h:=bX (b*(b+48271)) (j:=2147483579) (by decide)
 rw [Int.fdiv_eq_ediv_of_nonneg _ (by decide)]
 omega
theorem uN {g:W->W->Option W} {fa fb:DS->ai->SM W} {δ:DS} {S S1 S2:ai} {x y z:W} (h1:fa δ S=some (.ok x,S1)) (h2:fb δ S1=some (.ok y,S2)) (h3:g x y=some z):Cw g fa fb δ S=some (.ok z,S2):=by simp only [Cw,ak,h1,h2,h3,iR,Option.map_some]
theorem EA {P:List Im} (i:Int) (hP:P≠[]):∃ p∈P,gW (P.map b6) (i.fmod P.length)=some (b6 p):=by
 have hn:0<P.length:=List.length_pos_iff.mpr hP
 have h:=bX i (j:=P.length) (by omega)
 obtain ⟨k,hk⟩:∃ k:Nat,i.fmod P.length=k:=⟨(i.fmod P.length).toNat,by omega⟩
 have hk':k<P.length:=by omega
 refine ⟨P[k],List.getElem_mem hk',?_⟩
 rw [hk,yF _ _ (by simpa using hk')]
 simp [hk']
noncomputable def oY:List W:=[.str (eX 0),.str (eX 1),.str (eX 2),.str (eX 3),.str (eX 4),.str (eX 5),.str (eX 6)]
theorem Es:∀ k:Fin 7,gW oY (k.1:Int)=some (.str (eX k)):=λ k=>by
 rw [yF _ _ (by have:=k.2;simp [oY])]
 match k with
 | 0=>rfl
 | 1=>rfl
 | 2=>rfl
 | 3=>rfl
 | 4=>rfl
 | 5=>rfl
 | 6=>rfl
theorem Dj:oY=[.str "+", .str "-", .str "*", .str "div", .str "rem", .str "<", .str "="]:=by kernel_rfl
theorem z9 (v:Int):b6 ⟨.num v,0,[],.ok v⟩=.tuple [.tuple [.str "num", .int v],.int v,.int 0,.list [],.str ""]:=rfl
theorem ua {c:Cn} (hc:rJ c) {l:eW} (hl:ve l) {fr:Bool} {j:Nat} {P:List Im} (hP:P≠[]) (hg:∀ p∈P,Gm c l fr j p) (x k md:Int) (h2:2<=md) (h6:md<=6) (pi:Nat) (S:ai) (hS:S[pi]?=some (.lst (P.map b6))) (hb:c.bx.length<=100):
 ∃ r,dP [.int x,.int k,.ref pi,.list (c.bx.map .int),.int md] S=some (.ok (b6 r),S)/\Gm c l fr j r:=by
 have n1:=wj x k
 have n2:=bX (iX x (k+200)) (j:=8) (by decide)
 obtain ⟨p,p1,p2⟩:=EA (iX x k) hP
 obtain ⟨o,o1,o2⟩:=EA ((iX x k).fdiv 64) hP
 have gp:=hg p p1
 have go:=hg o o1
 have m1:=j0 x k
 have m2:=j0 x (k+200)
 have hn:(P.length:Int)≠0:=by have:=List.length_pos_iff.mpr hP;omega
 generalize iX x k=N at n1 p2 o2 m1
 generalize he:iX x (k+200)=M at n2 m2
 generalize hM:M.fmod 8=kd at n2
 have z1:=sz 1 (by decide)
 have z2:=sz 2 (by decide)
 have z5:=sz 5 (by decide)
 have z7:=sz 7 (by decide)
 have z0:=sz 0 (by decide)
 let δ (a b c' d e f:Sl):DS:=[.val (.int x),.val (.int k),.val (.ref pi),.val (.list (c.bx.map .int)),.val (.int md),a,b,c',d,e,f]
 have mk:b7 (.int M) (.int 8)=some (.int kd):=by rw [<-hM];exact bw M (by decide)
 have ln:∀ δ':DS,af 2 δ'=some (.ref pi)->gB (ac (af 2)) δ' S=some (.ok (.int P.length),S):=λ δ' h=>by
  have:=AJ (fo:=ac (af 2)) (aC (S:=S) h) hS
  rw [List.length_map] at this
  exact this
 let δ8:DS:=δ (.val (.int N)) (.val (.int kd)) (.val (b6 p)) (.val (b6 o)) (.val (.list oY)) .no
 have pre:∀ {g:DS->ai->SO} {r:SO},g δ8 S=r->ar (aq (aV (aP aW (aa (af 0) (aa (af 1) ah))) (aj 5))) (ar (aq (aV (av b7 (aP aW (aa (af 0) (aa (av b8 (aw 1) (dC (.int (200)))) ah))) (dC (.int (8)))) (aj 6)))
  (ar (cK (sIx (ac (af 2)) (Cw b7 (ac (af 5)) (gB (ac (af 2))))) (aj 7)) (ar (cK (sIx (ac (af 2)) (Cw b7 (ac (av ft (aw 5) (dC (.int (64))))) (gB (ac (af 2))))) (aj 8))
  (ar (aq (aV (b0 (bH (aa (dC (.str "+")) (aa (dC (.str "-")) (aa (dC (.str "*")) (aa (dC (.str "div")) (aa (dC (.str "rem")) (aa (dC (.str "<")) (aa (dC (.str "=")) ah))))))))) (aj 9))) g)))) (δ .no .no .no .no .no .no) S=r:=λ {g r} h=>by
  refine (ag (δ':=δ (.val (.int N)) .no .no .no .no .no) (ax (aS (jZ (ds:=[.int x,.int k]) rfl m1) rfl))).trans ?_
  refine (ag (δ':=δ (.val (.int N)) (.val (.int kd)) .no .no .no .no) (ax (aS (dO (jZ (ds:=[.int x,.int (k+200)]) rfl m2) rfl mk) rfl))).trans ?_
  refine (ag (δ':=δ (.val (.int N)) (.val (.int kd)) (.val (b6 p)) .no .no .no) (cU (FY (l:=pi) (i:=N.fmod P.length) rfl (uN (x:=.int N) rfl (ln _ rfl) (bw N hn)) hS p2) rfl)).trans ?_
  refine (ag (δ':=δ (.val (.int N)) (.val (.int kd)) (.val (b6 p)) (.val (b6 o)) .no .no) (cU (FY (l:=pi) (i:=(N.fdiv 64).fmod P.length) rfl (uN (x:=.int (N.fdiv 64)) (aC (dO rfl rfl (g9 N (by decide) (by decide)))) (ln _ rfl) (bw _ hn)) hS o2) rfl)).trans ?_
  refine (ag (δ':=δ8) (ax (aS (d:=.list oY) ?_ rfl))).trans h
  rw [Dj]
  simp! [δ,uD,if_pos z7]
 have pd:av bd (aw 7) (dC (.int (2))) δ8=some (.int p.deep):=x2 rfl
 have od':av bd (aw 8) (dC (.int (2))) δ8=some (.int o.deep):=x2 rfl
 have c1:aB mj (aw 6) (dC (.int (2))) δ8=some (decide (kd<2)):=rfl
 have c2:aB oT (av bd (aw 7) (dC (.int (2)))) (av gSub' (aw 4) (dC (.int (1)))) δ8=some (decide (md-1<=p.deep)):=lf pd rfl rfl
 have c3:aB oT (av bd (aw 8) (dC (.int (2)))) (aw 4) δ8=some (decide (md<=o.deep)):=lf od' rfl rfl
 have oc:qm (aB mj (aw 6) (dC (.int (2)))) (qm (aB oT (av bd (aw 7) (dC (.int (2)))) (av gSub' (aw 4) (dC (.int (1))))) (aB oT (av bd (aw 8) (dC (.int (2)))) (aw 4))) δ8=some (decide (kd<2∨md-1<=p.deep∨md<=o.deep)):=by
  unfold qm
  rw [c1,c2,c3]
  by_cases h1:kd<2 <;> by_cases h2:md-1<=p.deep <;> simp [h1,h2]
 by_cases hC:kd<2∨md-1<=p.deep∨md<=o.deep
 . rw [decide_eq_true hC] at oc
   have r1:=bX (x+N*7919) (j:=1999999999) (by decide)
   have r2:=bX x (j:=9) (by decide)
   have r3:=bX N (j:=5) (by decide)
   have g1:dZ (.int N) (.int 7919)=some (.int (N*7919)):=fU (iD (by omega) (by omega))
   let v:Int:=if N.fmod 5<2 then x.fmod 9-2 else (x+N*7919).fmod 1999999999-999999999
   have hv:Rg v:=by
    show Rg (if N.fmod 5<2 then x.fmod 9-2 else (x+N*7919).fmod 1999999999-999999999)
    split <;> constructor <;> omega
   refine ⟨⟨.num v,0,[],.ok v⟩,?_,.num hv⟩
   refine (aA rfl).trans ((congrArg bn (pre (eO (d:=b6 ⟨.num v,0,[],.ok v⟩) (eA (aE (b:=true) oc ?_))))).trans rfl)
   show aY _ _ δ8=_
   let δ9 (y:Int):DS:=δ (.val (.int N)) (.val (.int kd)) (.val (b6 p)) (.val (b6 o)) (.val (.list oY)) (.val (.int y))
   refine aN (δ1:=δ9 ((x+N*7919).fmod 1999999999-999999999)) (aS (dO (dO (dO rfl (dO rfl rfl g1) rfl) rfl (bw _ (by decide))) rfl rfl) rfl) ?_
   refine aN (δ1:=δ9 v) ?_ ?_
   . have t:aB mj (av b7 (aw 5) (dC (.int (5)))) (dC (.int (2))) (δ9 ((x+N*7919).fmod 1999999999-999999999))=some (decide (N.fmod 5<2)):=lf (dO rfl rfl (bw N (by decide))) rfl rfl
     by_cases h:N.fmod 5<2
     . rw [decide_eq_true h] at t
       have ev':v=x.fmod 9-2:=if_pos h
       rw [ev']
       exact aE (b:=true) t (aS (dO (dO rfl rfl (bw x (by decide))) rfl rfl) rfl)
     . rw [decide_eq_false h] at t
       have ev':v=(x+N*7919).fmod 1999999999-999999999:=if_neg h
       rw [ev']
       exact aE (b:=false) t rfl
   . refine aQ ?_
     rw [z9]
     simp! [δ9,δ,uD,if_pos z0,if_pos z2,if_pos z5]
 . rw [decide_eq_false hC] at oc
   have hp:p.deep<=4:=by omega
   have ho:o.deep<=5:=by omega
   have s1:∀ {h:DS->Option eI} {g:DS->ai->SO} {r:SO},g δ8 S=r->ar (aq (cG (qm (aB mj (aw 6) (dC (.int (2)))) (qm (aB oT (av bd (aw 7) (dC (.int (2)))) (av gSub' (aw 4) (dC (.int (1))))) (aB oT (av bd (aw 8) (dC (.int (2)))) (aw 4)))) h aH)) g δ8 S=r:=λ {h g r} e=>(ag (δ':=δ8) (ax (aE (b:=false) oc rfl))).trans e
   have c4:aB mj (aw 6) (dC (.int (4))) δ8=some (decide (kd<4)):=rfl
   by_cases hk:kd<4
   . rw [decide_eq_true hk] at c4
     have tq:aB Fg (av b7 (av ft (aw 5) (dC (.int (4096)))) (dC (.int (4)))) (dC (.int (0))) δ8=some (decide (0<(N.fdiv 4096).fmod 4)):=lf (dO (dO rfl rfl (g9 N (by decide) (by decide))) rfl (bw _ (by decide))) rfl rfl
     by_cases hq:0<(N.fdiv 4096).fmod 4
     . rw [decide_eq_true hq] at tq
       let w:Int:=uf 1 c.bx.length
       have hw:Rg w:=by
        show Rg (uf 1 c.bx.length)
        unfold uf
        split <;> constructor <;> omega
       have gw:Gm c l fr j ⟨.num w,0,[],.ok w⟩:=.num hw
       have g2:=gp.two 4 gw (by omega) (by simp)
       have d2:(ir 4 p ⟨.num w,0,[],.ok w⟩).deep<=5:=by
        show 1+uf p.deep 0<=5
        have:=vo hp (show (0:Int)<=4 by decide)
        omega
       refine ⟨kC c.bx (ir 4 p ⟨.num w,0,[],.ok w⟩),?_,g2.box d2⟩
       have T:=vk 4 p ⟨.num w,0,[],.ok w⟩ (by have:=gp.len;omega) (by simp) (gp.rz hc hl) hw
       have B:=vA c.bx (ir 4 p ⟨.num w,0,[],.ok w⟩) (by have:=g2.len;omega)
       have mxr:L2.dC2 iT (aa (dC (.int (1))) (aa (hV dF (aw 3)) ah)) δ8=some (.int w):=by
        show (aa (dC (.int (1))) (aa (hV dF (aw 3)) ah) δ8).bind iT=_
        rw [My.dC2 (a:=.int 1) (b:=.int c.bx.length) rfl (by simp! [δ8,δ,uD,List.length_map])]
        rfl
       have wt:ba (aa (ba (aa (dC (.str "num")) (aa (L2.dC2 iT (aa (dC (.int (1))) (aa (hV dF (aw 3)) ah))) ah))) (aa (L2.dC2 iT (aa (dC (.int (1))) (aa (hV dF (aw 3)) ah))) (aa (dC (.int (0))) (aa (b0 (bH ah)) (aa (dC (.str "")) ah))))) δ8=some (b6 ⟨.num w,0,[],.ok w⟩):=by
        rw [z9]
        refine zV (cO (wU rfl mxr) (cO mxr (cO rfl (cO ?_ (cO rfl rfl))))) (by simp)
        simp! [uD,if_pos z0]
       let δ10:DS:=δ (.val (.int N)) (.val (.int kd)) (.val (b6 (ir 4 p ⟨.num w,0,[],.ok w⟩))) (.val (b6 o)) (.val (.list oY)) .no
       refine (aA rfl).trans ((congrArg bn (pre (s1 (eO (d:=b6 (kC c.bx (ir 4 p ⟨.num w,0,[],.ok w⟩))) (eA (aE (b:=true) c4 ?_)))))).trans rfl)
       show aY _ _ δ8=_
       refine aN (δ1:=δ10) (aE (b:=true) tq (aS (jZ (ds:=[.str (eX 4),b6 p,b6 ⟨.num w,0,[],.ok w⟩]) (cO rfl (cO rfl (cO wt rfl))) T) rfl)) ?_
       exact aQ (jZ (ds:=[b6 (ir 4 p ⟨.num w,0,[],.ok w⟩),.list (c.bx.map .int)]) rfl B)
     . rw [decide_eq_false hq] at tq
       refine ⟨kC c.bx p,?_,gp.box (by omega)⟩
       have B:=vA c.bx p (by have:=gp.len;omega)
       refine (aA rfl).trans ((congrArg bn (pre (s1 (eO (d:=b6 (kC c.bx p)) (eA (aE (b:=true) c4 ?_)))))).trans rfl)
       show aY _ _ δ8=_
       refine aN (δ1:=δ8) (aE (b:=false) tq rfl) ?_
       exact aQ (jZ (ds:=[b6 p,.list (c.bx.map .int)]) rfl B)
   . rw [decide_eq_false hk] at c4
     have r7:=bX (N.fdiv 4096) (j:=7) (by decide)
     obtain ⟨f,hf⟩:∃ f:Fin 7,(N.fdiv 4096).fmod 7=(f.1:Int):=⟨⟨((N.fdiv 4096).fmod 7).toNat,by omega⟩,by simp;omega⟩
     refine ⟨ir f p o,?_,gp.two f go (by omega) ho⟩
     have T:=vk f p o (by have:=gp.len;omega) (by have:=go.len;omega) (gp.rz hc hl) (go.rz hc hl)
     have wi:av bd (aw 9) (av b7 (av ft (aw 5) (dC (.int (4096)))) (dC (.int (7)))) δ8=some (.str (eX f)):=by
      refine F5 (l:=oY) (i:=(f.1:Int)) rfl ?_ (Es f)
      rw [<-hf]
      exact dO (dO rfl rfl (g9 N (by decide) (by decide))) rfl (bw _ (by decide))
     refine (aA rfl).trans ((congrArg bn (pre (s1 ((ag (δ':=δ8) (ax (aE (b:=false) c4 rfl))).trans (eA (d:=b6 (ir f p o)) (aQ (jZ (ds:=[.str (eX f),b6 p,b6 o]) (cO wi (cO rfl (cO rfl rfl))) T))))))).trans rfl)
noncomputable def z8 (l:eW) (r:Rw):Rz->eW
 | .ok v=>uZ l r v
 | .no _=>l
inductive RI (c:Cn):eW->List Rw->List Im->eW->Prop
 | nil (l:eW):RI c l [] [] l
 | cons {l l':eW} {r:Rw} {i:Im} {rs:List Rw} {is:List Im} (h1:tX c l r) (h2:i.t=r.t) (h3:i.e=ev c l r.t) (h4:RI c (z8 l r i.e.2) rs is l'):RI c l (r::rs) (i::is) l'
theorem RI.snoc {c:Cn} {l l':eW} {rs:List Rw} {is:List Im} {r:Rw} {i:Im} (h:RI c l rs is l') (h1:tX c l' r) (h2:i.t=r.t) (h3:i.e=ev c l' r.t):RI c l (rs++[r]) (is++[i]) (z8 l' r i.e.2):=by
 induction h with
 | nil l=>exact .cons h1 h2 h3 (.nil _)
 | cons a1 a2 a3 _ ih=>exact .cons a1 a2 a3 (ih h1 h3)
theorem RI.len {c:Cn} {l l':eW} {rs:List Rw} {is:List Im} (h:RI c l rs is l'):is.length=rs.length:=by
 induction h with
 | nil l=>rfl
 | cons _ _ _ _ ih=>simp [ih]
theorem RI.rok {c c':Cn} (e1:c.lane=c'.lane) (e2:c.lanes=c'.lanes) (e3:c.mine=c'.mine) (e4:c.bx=c'.bx) {l l':eW} {rs:List Rw} {is:List Im} (h:RI c l rs is l'):E3 c' l rs:=by
 induction h with
 | nil l=>trivial
 | cons a1 a2 a3 _ ih=>
  refine ⟨a1,λ v hv=>?_⟩
  rw [<-pR e1 e2 e3 e4,<-a3] at hv
  rw [hv] at ih
  exact ih
noncomputable def xf (y:Str):Prop:=y.cps.size<=4/\∀ x∈y.cps.toList,x<1000
noncomputable instance (y:Str):Decidable (xf y):=by unfold xf;infer_instance
theorem Dy:xf (Str.ofString "zz"):=by decide +kernel
theorem zK:∀ (fr:Bool) (a:Fin 64),xf (v8 fr a.1):=by decide +kernel
structure ym (r:Rw):Prop where
 t:∀ y,pP y r.t->xf y
 x:∀ x t,r=.set x t->xf x
theorem Gm.sh {c:Cn} {l:eW} {fr:Bool} {j:Nat} {i:Im} (g:Gm c l fr j i) (hj:j<=64):∀ y,pP y i.t->xf y:=λ y hy=>by
 rcases g.nm y hy with rfl | ⟨k,h1,rfl⟩
 . exact Dy
 . exact zK fr ⟨k,by omega⟩
theorem kX:∀ (k:Nat) (rs:List Rw) (r:Rw),aO k (rs++[r])=aO k rs++[jX (((k+rs.length:Nat):Int)+2) r]
 | k,[],r=>by simp [aO]
 | k,a::rs,r=>by
  have e:k+1+rs.length=k+(a::rs).length:=by simp;omega
  simp only [List.cons_append,aO,kX (k+1) rs r,e]
theorem Hv (x:Str) (v:Int):b6 ⟨.nam x,0,[],.ok v⟩=.tuple [.tuple [.str "name", .str x],.int v,.int 0,.list [],.str ""]:=rfl
theorem tp {c:Cn} (hc:rJ c) (hb:c.bx.length<=100) (ns:List Int) {fr:Bool} (hfr:fr=decide ((iX (cy ns 1) 600).fmod 2=0)) {pi:Nat} (x:Int) {rs:List Rw} {is:List Im} {l:eW} {P:List Im} {S:ai} (s6 s7 s8:Sl)
 (hi:RI c [] rs is l) (hj:rs.length<60) (hP:P≠[]) (hPl:P.length<200) (hg:∀ p∈P,Gm c l fr rs.length p) (hr:ve l) (hl:∀ p∈l,∃ k,k<rs.length/\p.1=v8 fr k) (hS:S[pi]?=some (.lst (P.map b6))):
 ∃ r i P' t6 t7 t8 S',fX [.val (.list (ns.map .int)),.val (.list (c.bx.map .int)),.val (.ref pi),.own (aO 0 rs),.own (is.map b6),.val (.int x),s6,s7,s8] S=some (.nx [.val (.list (ns.map .int)),.val (.list (c.bx.map .int)),.val (.ref pi),.own (aO 0 (rs++[r])),.own ((is++[i]).map b6),.val (.int x),t6,t7,t8],S')
  /\ tX c l r/\i.t=r.t/\i.e=ev c l r.t/\ym r/\P'≠[]/\P'.length<=P.length+1/\(∀ p∈P',Gm c (z8 l r i.e.2) fr (rs.length+1) p)/\ve (z8 l r i.e.2)/\(∀ p∈z8 l r i.e.2,∃ k,k<rs.length+1/\p.1=v8 fr k)/\S'[pi]?=some (.lst (P'.map b6)):=by
 have r5:=bX (cy ns 1) (j:=5) (by decide)
 obtain ⟨i,B,gi⟩:=ua hc hr hP hg x rs.length (2+(cy ns 1).fmod 5) (by omega) (by omega) pi S hS hb
 have z0:=sz 0 (by decide)
 have z2:=sz 2 (by decide)
 have z3:=sz 3 (by decide)
 have z4:=sz 4 (by decide)
 have z5:=sz 5 (by decide)
 have c1:aF [.list (ns.map .int),.int 1]=some (.int (cy ns 1)):=i6 ns 1
 have hil:is.length<60:=by rw [hi.len];exact hj
 have lw:(aO 0 rs).length<60:=by rw [ff];exact hj
 have d6:=gi.d6
 have dp:=gi.dp
 let δ (a b:Sl) (d e f:Sl):DS:=[.val (.list (ns.map .int)),.val (.list (c.bx.map .int)),.val (.ref pi),a,b,.val (.int x),d,e,f]
 have p1:aV (hV dF (aw 3)) (aj 6) (δ (.own (aO 0 rs)) (.own (is.map b6)) s6 s7 s8)=some (.nx (δ (.own (aO 0 rs)) (.own (is.map b6)) (.val (.int rs.length)) s7 s8)):=by
  simp! [δ,uD,ff]
 have p2:cK (bV dP (ac (aa (af 5) (aa (af 6) (aa (af 2) (aa (af 1) (aa (av b8 (dC (.int (2))) (av b7 (aP aF (aa (af 0) (aa (dC (.int (1))) ah))) (dC (.int (5))))) ah))))))) (aj 7) (δ (.own (aO 0 rs)) (.own (is.map b6)) (.val (.int rs.length)) s7 s8) S=some (.nx (δ (.own (aO 0 rs)) (.own (is.map b6)) (.val (.int rs.length)) (.val (b6 i)) s8),S):=
  cU (eJ (aC (cO rfl (cO rfl (cO rfl (cO rfl (cO (dO rfl (dO (jZ (ds:=[.list (ns.map .int),.int 1]) rfl c1) rfl (bw _ (by decide))) rfl) rfl)))))) B) rfl
 have p3:bF 4 (af 7) (δ (.own (aO 0 rs)) (.own (is.map b6)) (.val (.int rs.length)) (.val (b6 i)) s8)=some (.nx (δ (.own (aO 0 rs)) (.own ((is++[i]).map b6)) (.val (.int rs.length)) (.val (b6 i)) s8)):=by
  refine (CW (ds:=is.map b6) rfl rfl (by simp;omega)).trans ?_
  rw [List.map_append]
  rfl
 let δ4:DS:=δ (.own (aO 0 rs)) (.own ((is++[i]).map b6)) (.val (.int rs.length)) (.val (b6 i)) s8
 have pre:∀ {g:DS->ai->SO} {r:SO},g δ4 S=r->ar (aq (aV (hV dF (aw 3)) (aj 6))) (ar (cK (bV dP (ac (aa (af 5) (aa (af 6) (aa (af 2) (aa (af 1) (aa (av b8 (dC (.int (2))) (av b7 (aP aF (aa (af 0) (aa (dC (.int (1))) ah))) (dC (.int (5))))) ah))))))) (aj 7)) (ar (aq (bF 4 (af 7))) g)) (δ (.own (aO 0 rs)) (.own (is.map b6)) s6 s7 s8) S=r:=λ {g r} h=>(ag (ax p1)).trans ((ag p2).trans ((ag (ax p3)).trans h))
 have t1:aB d8 (av b7 (aP aW (aa (af 5) (aa (av b8 (aw 6) (dC (.int (400)))) ah))) (dC (.int (3)))) (dC (.int (1))) δ4=some (decide ((iX x (rs.length+400)).fmod 3=1)):=lf (dO (jZ (ds:=[.int x,.int (rs.length+400)]) rfl (j0 _ _)) rfl (bw _ (by decide))) rfl rfl
 have er1:∀ a b d f,av bd (aw 7) (dC (.int (1))) (δ a b d (.val (b6 i)) f)=some (xa i.e.2):=λ _ _ _ _=>x1 rfl
 have er0':∀ a b d f,av bd (aw 7) (dC (.int (0))) (δ a b d (.val (b6 i)) f)=some (tw i.t):=λ _ _ _ _=>x0 rfl
 have rgi:=gi.rz hc hr
 have pl:(P.map b6).length<9000:=by simp;omega
 have pin:pi<S.length:=(oG hS).1
 have gS:∀ y:Ob,(S.set pi y)[pi]?=some y:=λ y=>by rw [List.getElem?_set_self pin]
 have sn:∀ r,aO 0 (rs++[r])=aO 0 rs++[jX ((rs.length:Int)+2) r]:=λ r=>by rw [kX,Nat.zero_add]
 by_cases h:(iX x (rs.length+400)).fmod 3=1
 . rw [decide_eq_true h] at t1
   let nm:=v8 fr rs.length
   have fresh:∀ p∈l,p.1≠nm:=λ p hp z=>by
    obtain ⟨k,h1,h2⟩:=hl p hp
    have:=vN fr ⟨k,by omega⟩ ⟨rs.length,by omega⟩ (h2.symm.trans z)
    have:=congrArg Fin.val this
    simp at this
    omega
   have nmv:aP eP (aa (af 6) (aa (dB (aB d8 (av b7 (aP aW (aa (aP aF (aa (af 0) (aa (dC (.int (1))) ah))) (aa (dC (.int (600))) ah))) (dC (.int (2)))) (dC (.int (0))))) ah)) δ4=some (.str nm):=by
    have bb:aB d8 (av b7 (aP aW (aa (aP aF (aa (af 0) (aa (dC (.int (1))) ah))) (aa (dC (.int (600))) ah))) (dC (.int (2)))) (dC (.int (0))) δ4=some fr:=by
     rw [hfr]
     exact lf (dO (jZ (ds:=[.int (cy ns 1),.int 600]) (cO (jZ (ds:=[.list (ns.map .int),.int 1]) rfl c1) rfl) (j0 _ _)) rfl (bw _ (by decide))) rfl rfl
    refine jZ (ds:=[.int rs.length,.bool fr]) (cO rfl (cO ?_ rfl)) (vd rs.length fr)
    simp only [dB,bb,Option.map_some]
   let δ5 (a:Sl):DS:=δ a (.own ((is++[i]).map b6)) (.val (.int rs.length)) (.val (b6 i)) (.val (.str nm))
   have q1:aV (aP eP (aa (af 6) (aa (dB (aB d8 (av b7 (aP aW (aa (aP aF (aa (af 0) (aa (dC (.int (1))) ah))) (aa (dC (.int (600))) ah))) (dC (.int (2)))) (dC (.int (0))))) ah))) (aj 8) δ4=some (.nx (δ5 (.own (aO 0 rs)))):=aS nmv rfl
   have q2:bF 3 (ba (aa (dC (.str "set")) (aa (av b8 (aw 6) (dC (.int (2)))) (aa (af 8) (aa (av bd (aw 7) (dC (.int (0)))) ah))))) (δ5 (.own (aO 0 rs)))=some (.nx (δ5 (.own (aO 0 (rs++[.set nm i.t]))))):=by
    refine (CW (ds:=aO 0 rs) (d:=jX ((rs.length:Int)+2) (.set nm i.t)) rfl (II rfl rfl rfl (er0' _ _ _ _)) (by omega)).trans ?_
    rw [sn]
    rfl
   have te:aB d8 (av bd (aw 7) (dC (.int (4)))) (dC (.str "")) (δ5 (.own (aO 0 (rs++[.set nm i.t]))))=some (decide (ma i.e.2=Str.ofString "")):=tD (x4 rfl)
   have rw1:tX c l (.set nm i.t):=⟨by show dQ i.t<=6;omega,gi.rg,λ x' t' e=>by cases e;exact fresh⟩
   have rn:ym (.set nm i.t):=⟨gi.sh (by omega),λ x' t' e=>by cases e;exact zK fr ⟨rs.length,by omega⟩⟩
   cases hz:i.e.2 with
   | no b=>
    rw [hz,show decide (ma (.no b)=Str.ofString "")=false from CN b] at te
    refine ⟨.set nm i.t,i,P,.val (.int rs.length),.val (b6 i),.val (.str nm),S,pre ((fq (aC t1)).trans ((ag (ax q1)).trans ((ag (ax q2)).trans ((dr (aC te)).trans rfl)))),rw1,rfl,gi.e,rn,hP,by omega,?_,?_,?_,hS⟩
    . rw [hz];exact λ p hp=>(hg p hp).up
    . rw [hz];exact hr
    . rw [hz];exact λ p hp=>let ⟨k,a,b⟩:=hl p hp;⟨k,by omega,b⟩
   | ok v=>
    rw [hz,show decide (ma (.ok v)=Str.ofString "")=true from ee] at te
    rw [hz] at rgi
    refine ⟨.set nm i.t,i,P++[(⟨.nam nm,0,[],.ok v⟩:Im)],.val (.int rs.length),.val (b6 i),.val (.str nm),S.set pi (.lst ((P++[(⟨.nam nm,0,[],.ok v⟩:Im)]).map b6)),pre ((fq (aC t1)).trans ((ag (ax q1)).trans ((ag (ax q2)).trans ((fq (aC te)).trans ?_)))),rw1,rfl,gi.e,rn,by simp,by simp,?_,?_,?_,gS _⟩
    . refine (mq (d:=b6 ⟨.nam nm,0,[],.ok v⟩) rfl hS (aC ?_) hS pl).trans (by rw [List.map_append (l₁:=P)];rfl)
      rw [Hv]
      have e1:=er1 (.own (aO 0 (rs++[.set nm i.t]))) (.own ((is++[i]).map b6)) (.val (.int rs.length)) (.val (.str nm))
      rw [hz] at e1
      refine zV (cO (wU rfl rfl) (cO e1 (cO rfl (cO ?_ (cO rfl rfl))))) (by simp)
      simp! [uD,if_pos z0]
    . rw [hz]
      intro p hp
      rcases List.mem_append.mp hp with hp | hp
      . exact (hg p hp).ext (by omega) v
      . rw [List.mem_singleton.mp hp]
        refine ⟨?_,trivial,by simp [dQ],by simp,λ y hy=>.inr ⟨rs.length,by omega,?_⟩⟩
        . simp only [ev,z8,uZ]
          rw [yj fresh]
        . exact (show nm=y from hy).symm
    . rw [hz]
      intro p hp
      rcases List.mem_append.mp hp with hp | hp
      . exact hr p hp
      . rw [List.mem_singleton.mp hp];exact rgi
    . rw [hz]
      intro p hp
      rcases List.mem_append.mp hp with hp | hp
      . obtain ⟨k,a,b⟩:=hl p hp
        exact ⟨k,by omega,b⟩
      . rw [List.mem_singleton.mp hp];exact ⟨rs.length,by omega,rfl⟩
 . rw [decide_eq_false h] at t1
   let δ5 (a:Sl):DS:=δ a (.own ((is++[i]).map b6)) (.val (.int rs.length)) (.val (b6 i)) s8
   have q2:bF 3 (ba (aa (dC (.str "tell")) (aa (av b8 (aw 6) (dC (.int (2)))) (aa (av bd (aw 7) (dC (.int (0)))) ah)))) (δ5 (.own (aO 0 rs)))=some (.nx (δ5 (.own (aO 0 (rs++[.tell i.t]))))):=by
    refine (CW (ds:=aO 0 rs) (d:=jX ((rs.length:Int)+2) (.tell i.t)) rfl (Fq rfl rfl (er0' _ _ _ _)) (by omega)).trans ?_
    rw [sn]
    rfl
   have te:aB d8 (av bd (aw 7) (dC (.int (4)))) (dC (.str "")) (δ5 (.own (aO 0 (rs++[.tell i.t]))))=some (decide (ma i.e.2=Str.ofString "")):=tD (x4 rfl)
   have rw1:tX c l (.tell i.t):=⟨by show dQ i.t<=6;omega,gi.rg,λ x' t' e=>by cases e⟩
   have rn:ym (.tell i.t):=⟨gi.sh (by omega),λ x' t' e=>by cases e⟩
   have nx:∀ z,z8 l (.tell i.t) z=l:=λ z=>by cases z <;> rfl
   cases hz:i.e.2 with
   | no b=>
    rw [hz,show decide (ma (.no b)=Str.ofString "")=false from CN b] at te
    refine ⟨.tell i.t,i,P,.val (.int rs.length),.val (b6 i),s8,S,pre ((dr (aC t1)).trans ((ag (ax q2)).trans ((dr (aC te)).trans rfl))),rw1,rfl,gi.e,rn,hP,by omega,?_,?_,?_,hS⟩
    . rw [nx];exact λ p hp=>(hg p hp).up
    . rw [nx];exact hr
    . rw [nx];exact λ p hp=>let ⟨k,a,b⟩:=hl p hp;⟨k,by omega,b⟩
   | ok v=>
    rw [hz,show decide (ma (.ok v)=Str.ofString "")=true from ee] at te
    refine ⟨.tell i.t,i,P++[i],.val (.int rs.length),.val (b6 i),s8,S.set pi (.lst ((P++[i]).map b6)),pre ((dr (aC t1)).trans ((ag (ax q2)).trans ((fq (aC te)).trans ?_))),rw1,rfl,gi.e,rn,by simp,by simp,?_,?_,?_,gS _⟩
    . exact (mq (d:=b6 i) rfl hS rfl hS pl).trans (by rw [List.map_append (l₁:=P)];rfl)
    . rw [nx]
      intro p hp
      rcases List.mem_append.mp hp with hp | hp
      . exact (hg p hp).up
      . rw [List.mem_singleton.mp hp];exact gi.up
    . rw [nx];exact hr
    . rw [nx];exact λ p hp=>let ⟨k,a,b⟩:=hl p hp;⟨k,by omega,b⟩
theorem n5 {c:Cn} (hc:rJ c) (hb:c.bx.length<=100) (ns:List Int) {fr:Bool} (hfr:fr=decide ((iX (cy ns 1) 600).fmod 2=0)) {pi:Nat}:∀ (cs:List Int) (rs:List Rw) (is:List Im) (l:eW) (P:List Im) (S:ai) (s5 s6 s7 s8:Sl),
 RI c [] rs is l->rs.length+cs.length<=60->P≠[]->P.length+cs.length<=200->(∀ p∈P,Gm c l fr rs.length p)->ve l->(∀ p∈l,∃ k,k<rs.length/\p.1=v8 fr k)->(∀ r∈rs,ym r)->S[pi]?=some (.lst (P.map b6))->
 ∃ rs' is' l' S' t5 t6 t7 t8,fL (aj 5) fX (cs.map .int) [.val (.list (ns.map .int)),.val (.list (c.bx.map .int)),.val (.ref pi),.own (aO 0 rs),.own (is.map b6),s5,s6,s7,s8] S=some (.nx [.val (.list (ns.map .int)),.val (.list (c.bx.map .int)),.val (.ref pi),.own (aO 0 rs'),.own (is'.map b6),t5,t6,t7,t8],S')
  /\ RI c [] rs' is' l'/\rs'.length<=60/\(∀ r∈rs',ym r)
 | [],rs,is,l,P,S,s5,s6,s7,s8,h1,h2,_,_,_,_,_,h8,_=>⟨rs,is,l,S,s5,s6,s7,s8,rfl,h1,by simpa using h2,h8⟩
 | x::cs,rs,is,l,P,S,s5,s6,s7,s8,h1,h2,h3,h4,h5,h6,h7,h8,h9=>by
  simp only [List.length_cons] at h2 h4
  obtain ⟨r,i,P',t6,t7,t8,S',e,a1,a2,a3,a4,a5,a6,a7,a8,a9,a10⟩:=tp hc hb ns hfr x s6 s7 s8 h1 (by omega) h3 (by omega) h5 h6 h7 h9
  have ln:(rs++[r]).length=rs.length+1:=by simp
  obtain ⟨rs',is',l',S2,u5,u6,u7,u8,e',b⟩:=n5 hc hb ns hfr cs (rs++[r]) (is++[i]) (z8 l r i.e.2) P' S' (.val (.int x)) t6 t7 t8 (h1.snoc a1 a2 a3) (by omega) a5 (by omega) (by rw [ln];exact a7) a8 (by rw [ln];exact a9) (λ r' hr'=>by
   rcases List.mem_append.mp hr' with z | z
   . exact h8 r' z
   . rw [List.mem_singleton.mp z];exact a4) a10
  exact ⟨rs',is',l',S2,u5,u6,u7,u8,(lG rfl e).trans e',b⟩
theorem vR {c:Cn} (hc:rJ c) (hb:c.bx.length<=100) (ns:List Int) (hn:ns.length<=63) {pi:Nat} {P:List Im} {S:ai} (hP:P≠[]) (hPl:P.length<=100) (hg:∀ fr,∀ p∈P,Gm c [] fr 0 p) (hS:S[pi]?=some (.lst (P.map b6))):
 ∃ rs is l' S',fP [.list (ns.map .int),.list (c.bx.map .int),.ref pi] S=some (.ok (.tuple [.list (aO 0 rs),.list (is.map b6)]),S')/\RI c [] rs is l'/\rs.length<=60/\(∀ r∈rs,ym r):=by
 obtain ⟨cs,hcs,hl⟩:∃ cs:List Int,rE (ns.map W.int) (some 4) (some 90)=cs.map W.int/\cs.length<=59:=by
  refine ⟨(ns.drop 4).take 86,?_,by simp;omega⟩
  rw [List.map_take,List.map_drop]
  exact Cm _ 4 90
 have z0:=sz 0 (by decide)
 have z2:=sz 2 (by decide)
 have zc:(cs.map W.int).length<=sizeLine:=sz _ (by simp;omega)
 obtain ⟨rs,is,l',S',t5,t6,t7,t8,e,h1,h2,h3⟩:=n5 hc hb ns rfl (pi:=pi) cs [] [] [] P S .no .no .no .no (.nil _) (by simp;omega) hP (by omega) (hg _) (λ p hp=>absurd hp List.not_mem_nil) (λ p hp=>absurd hp List.not_mem_nil) (λ p hp=>absurd hp List.not_mem_nil) hS
 refine ⟨rs,is,l',S',?_,h1,h2,h3⟩
 let δ (a b:Sl):DS:=[.val (.list (ns.map .int)),.val (.list (c.bx.map .int)),.val (.ref pi),a,b,.no,.no,.no,.no]
 refine (aA rfl).trans ((congrArg bn (?_:_=some (.rt (.tuple [.list (aO 0 rs),.list (is.map b6)]),S'))).trans rfl)
 refine (ag (δ':=δ (.own []) .no) (ax (by simp! [δ,uD,if_pos z0]))).trans ?_
 refine (ag (δ':=δ (.own []) (.own [])) (ax (by simp! [δ,uD,if_pos z0]))).trans ?_
 refine (ag ((li (ds:=cs.map W.int) (aC ?_)).trans e)).trans ?_
 . have:we (aw 0) (jT (dC (.int (4)))) (jT (dC (.int (90)))) (δ (.own []) (.own []))=some (cs.map W.int):=by rw [<-hcs];rfl
   show (Option.map W.list (we (aw 0) (jT (dC (.int (4)))) (jT (dC (.int (90)))) (δ (.own []) (.own [])))).bind nY=_
   rw [this]
   rfl
 . refine eA ?_
   simp! [uD,if_pos z2]
theorem zw {h:W->DS->Option DS} {fb:DS->Option eI} {d:W} {ds:List W} {δ δ2 δ':DS} (h1:h d δ=some δ2) (h2:fb δ2=some (.nx δ')):cJ h fb (d::ds) δ=cJ h fb ds δ':=by simp only [cJ,h1,Option.bind_some,h2]
theorem zJ {h:W->DS->Option DS} {fb:DS->Option eI} {d:W} {ds:List W} {δ δ2 δ':DS} (h1:h d δ=some δ2) (h2:fb δ2=some (.bk δ')):cJ h fb (d::ds) δ=some (.nx δ'):=by simp only [cJ,h1,Option.bind_some,h2]
theorem vB {f g:DS->Option eI} {δ δ':DS} (h:f δ=some (.bk δ')):aY f g δ=some (.bk δ'):=by unfold aY;rw [h]
structure QW (q:Qs):Prop where
 st:q.steps=q.lns.length
 told:∀ d∈q.told,∃ i,d=.int i
 lns:∀ d∈q.lns,∃ i,d=.int i
 tch:∀ d∈q.tch,∃ a b,d=.tuple [.str "get", .int a,.int b]
noncomputable def FW (q:Qs):Prop:=∃ s i,q.fin=.tuple [.str s,.int i]/\PyData.strOk s=true
theorem kM:PyData.strOk (Str.ofString "done")=true/\PyData.strOk (Str.ofString "tired")=true/\PyData.strOk (Str.ofString "get")=true/\∀ b,PyData.strOk (zi b)=true:=by decide +kernel
noncomputable def dH (a0 a1 a2:W) (most:Int) (q:Qs) (e:W) (s8 s9:Sl):DS:=[.val a0,.val a1,.val a2,.val (.int most),.own q.told,.val (.list q.tch),.own q.lns,.val e,s8,s9]
theorem qb (ln:Int) (a:W) (es':List W):∀ (es:List Int),eC (aj 1) hJ (ba (aa (dC (.str "get")) (aa (af 1) (aa (av bd (aw 0) (dC (.int (1)))) ah)))) [.val (.tuple (a::.int ln::es')),.no] (es.map .int)=some (es.map λ p=>.tuple [.str "get", .int p,.int ln])
 | []=>rfl
 | p::es=>by
  have e1:ba (aa (dC (.str "get")) (aa (af 1) (aa (av bd (aw 0) (dC (.int (1)))) ah))) [.val (.tuple (a::.int ln::es')),.val (.int p)]=some (.tuple [.str "get", .int p,.int ln]):=Fq rfl rfl (x1 rfl)
  have e2:aj 1 (.int p) [.val (.tuple (a::.int ln::es')),.no]=some [.val (.tuple (a::.int ln::es')),.val (.int p)]:=rfl
  simp only [List.map_cons,eC,e2,Option.bind_some,hJ,if_true,e1,qb ln a es' es,Option.map_some]
theorem HL:decide (Str.ofString "tell" = Str.ofString "tell")=true/\decide (Str.ofString "set" = Str.ofString "tell")=false:=by decide +kernel
noncomputable def Iy:Rw->Bool
 | .set _ _=>false
 | .tell _=>true
theorem Go (r:Rw):∃ w,(∀ ln,∃ l,jX ln r=.tuple (.str w::.int ln::l))/\decide (w=Str.ofString "tell")=Iy r:=by
 cases r
 . exact ⟨Str.ofString "set", λ ln=>⟨_,rfl⟩,HL.2⟩
 . exact ⟨Str.ofString "tell", λ ln=>⟨_,rfl⟩,HL.1⟩
theorem qv {c c':Cn} (e1:c.lane=c'.lane) (e2:c.lanes=c'.lanes) (e3:c.mine=c'.mine) (e4:c.bx=c'.bx) (n:Int) (a0 a1 a2:W) {l:eW} {rs:List Rw} {is:List Im} {l':eW} (h:RI c l rs is l'):∀ (k:Nat) (q:Qs) (s8 s9:Sl),QW q->q.told.length+rs.length<=1000->q.lns.length+rs.length<=1000->q.tch.length+63*rs.length<=8000->
 ∃ t8 t9,cJ (jx 2 (eh (aj 8) (eh (aj 9) ke))) fz (mm (aO k rs) (is.map b6)) (dH a0 a1 a2 c'.most q (.tuple [.str "done", .int n]) s8 s9)=some (.nx (dH a0 a1 a2 c'.most (cT c' (.int n) rs k l q) (cT c' (.int n) rs k l q).fin t8 t9))/\QW (cT c' (.int n) rs k l q)/\FW (cT c' (.int n) rs k l q):=by
 induction h with
 | nil l=>exact λ k q s8 s9 w _ _ _=>⟨s8,s9,rfl,⟨w.st,w.told,w.lns,w.tch⟩,_,_,rfl,kM.1⟩
 | @cons l l' r i rs is h1 h2 h3 h4 ih=>
  intro k q s8 s9 w b1 b2 b3
  simp only [List.length_cons] at b1 b2 b3
  obtain ⟨wd,rw',wt⟩:=Go r
  obtain ⟨tl,rw1⟩:=rw' ((k:Int)+2)
  have zz:mm (aO k (r::rs)) ((i::is).map b6)=.tuple [jX ((k:Int)+2) r,b6 i]::mm (aO (k+1) rs) (is.map b6):=rfl
  rw [zz]
  let L:Int:=(k:Int)+2
  let R:Sl:=.val (jX L r)
  let I:Sl:=.val (b6 i)
  let D:W:=.tuple [.str "done", .int n]
  have tg:jx 2 (eh (aj 8) (eh (aj 9) ke)) (.tuple [jX ((k:Int)+2) r,b6 i]) (dH a0 a1 a2 c'.most q D s8 s9)=some (dH a0 a1 a2 c'.most q D R I):=rfl
  have i1:∀ q' e,av bd (aw 8) (dC (.int (1))) (dH a0 a1 a2 c'.most q' e R I)=some (.int L):=λ q' e=>x1 (v:=.str wd) (l:=tl) (by show some (jX L r)=_;rw [rw1])
  have i0:∀ q' e,av bd (aw 8) (dC (.int (0))) (dH a0 a1 a2 c'.most q' e R I)=some (.str wd):=λ q' e=>x0 (l:=.int L::tl) (by show some (jX L r)=_;rw [rw1])
  have cm:aB oT (hV dF (aw 6)) (aw 3) (dH a0 a1 a2 c'.most q D R I)=some (decide (c'.most<=q.steps)):=by rw [w.st];rfl
  by_cases hm:c'.most<=q.steps
  . rw [decide_eq_true hm] at cm
    have e:cT c' (.int n) (r::rs) k l q={ q with line:=.int L,fin:=.tuple [.str "tired", .int L] }:=by simp only [cT,if_pos hm,mo,L]
    rw [e]
    refine ⟨R,I,zJ tg (vB (aE (b:=true) cm ?_)),⟨w.st,w.told,w.lns,w.tch⟩,_,_,rfl,kM.2.1⟩
    exact aN (aS (wU rfl (i1 _ _)) rfl) rfl
  . rw [decide_eq_false hm] at cm
    have he:ev c' l r.t=i.e:=by rw [h3];exact (pR e1 e2 e3 e4 l _).symm
    have el:i.e.1.length<=63:=by
     rw [h3]
     have:=gF c l r.t
     have:=Cv h1.1
     omega
    let q1:Qs:={ q with line:=.int L,steps:=q.steps+1,lns:=q.lns++[.int L],ix:=q.ix+1 }
    let q2:Qs:=gq q1 i.e.1
    have w1:∀ d∈q1.lns,∃ i,d=W.int i:=λ d hd=>(List.mem_append.mp hd).elim (w.lns d) λ z=>⟨L,List.mem_singleton.mp z⟩
    have w2:∀ d∈q2.tch,∃ a b,d=W.tuple [.str "get", .int a,.int b]:=λ d hd=>by
     rcases List.mem_append.mp hd with z | z
     . exact w.tch d z
     . obtain ⟨p,_,rfl⟩:=List.mem_map.mp z
       exact ⟨p,L,rfl⟩
    have ws:q1.steps=q1.lns.length:=by simp [q1,w.st]
    have wq2:QW q2:=⟨ws,w.told,w1,w2⟩
    have p2:bF 6 (av bd (aw 8) (dC (.int (1)))) (dH a0 a1 a2 c'.most q D R I)=some (.nx (dH a0 a1 a2 c'.most q1 D R I)):=CW (ds:=q.lns) rfl (i1 _ _) (by omega)
    have i3:av bd (aw 9) (dC (.int (3))) (dH a0 a1 a2 c'.most q1 D R I)=some (.list (i.e.1.map .int)):=x3 rfl
    have cp:b0 (iN [some 8,none] (dm (av bd (aw 9) (dC (.int (3))))) (aj 1) hJ (ba (aa (dC (.str "get")) (aa (af 1) (aa (av bd (aw 0) (dC (.int (1)))) ah))))) (dH a0 a1 a2 c'.most q1 D R I)=some (.list (i.e.1.map λ p=>.tuple [.str "get", .int p,.int L])):=by
     refine Ib (ds:=i.e.1.map .int) ?_ (by simp;omega) ?_
     . show (av bd (aw 9) (dC (.int (3))) (dH a0 a1 a2 c'.most q1 D R I)).bind nY=_
       rw [i3]
       rfl
     . have:bA [some 8,none] (dH a0 a1 a2 c'.most q1 D R I)=[.val (.tuple (.str wd::.int L::tl)),.no]:=by rw [<-rw1];rfl
       rw [this]
       exact qb L _ _ _
    have ga:b8 (.list q.tch) (.list (i.e.1.map λ p=>.tuple [.str "get", .int p,.int L]))=some (.list q2.tch):=qw (sz _ (by simp;omega))
    have p3:aV (av b8 (aw 5) (b0 (iN [some 8,none] (dm (av bd (aw 9) (dC (.int (3))))) (aj 1) hJ (ba (aa (dC (.str "get")) (aa (af 1) (aa (av bd (aw 0) (dC (.int (1)))) ah))))))) (aj 5) (dH a0 a1 a2 c'.most q1 D R I)=some (.nx (dH a0 a1 a2 c'.most q2 D R I)):=aS (dO rfl cp ga) rfl
    have i4:av bd (aw 9) (dC (.int (4))) (dH a0 a1 a2 c'.most q2 D R I)=some (.str (ma i.e.2)):=x4 rfl
    have c4:aB qj (av bd (aw 9) (dC (.int (4)))) (dC (.str "")) (dH a0 a1 a2 c'.most q2 D R I)=some (!decide (ma i.e.2=Str.ofString "")):=lf i4 rfl (jS _ _)
    have pre:∀ {g:DS->Option eI} {x:Option eI},g (dH a0 a1 a2 c'.most q2 D R I)=x->aY (cG (aB oT (hV dF (aw 6)) (aw 3)) (aY (aV (ba (aa (dC (.str "tired")) (aa (av bd (aw 8) (dC (.int (1)))) ah))) (aj 7)) kJ) aH) (aY (bF 6 (av bd (aw 8) (dC (.int (1))))) (aY (aV (av b8 (aw 5) (b0 (iN [some 8,none] (dm (av bd (aw 9) (dC (.int (3))))) (aj 1) hJ (ba (aa (dC (.str "get")) (aa (af 1) (aa (av bd (aw 0) (dC (.int (1)))) ah))))))) (aj 5)) g)) (dH a0 a1 a2 c'.most q D R I)=x:=λ {g x} hx=>aN (aE (b:=false) cm rfl) (aN p2 (aN p3 hx))
    cases hz:i.e.2 with
    | no b=>
     rw [hz,show decide (ma (.no b)=Str.ofString "")=false from CN b] at c4
     rw [hz] at i4
     have e:cT c' (.int n) (r::rs) k l q={ q2 with fin:=.tuple [.str (zi b),.int L] }:=by
      simp only [cT,if_neg hm,mo,he,hz,mW]
      rfl
     rw [e]
     refine ⟨R,I,zJ tg (pre (vB (aE (b:=true) c4 ?_))),⟨wq2.st,wq2.told,wq2.lns,wq2.tch⟩,_,_,rfl,kM.2.2.2 b⟩
     exact aN (aS (wU i4 (i1 _ _)) rfl) rfl
    | ok v=>
     rw [hz,show decide (ma (.ok v)=Str.ofString "")=true from ee] at c4
     have e:cT c' (.int n) (r::rs) k l q=cT c' (.int n) rs (k+1) (uZ l r v) (mW q1 r (i.e.1,.ok v)):=by
      simp only [cT,if_neg hm,mo,he,hz,mW]
      rfl
     rw [e]
     rw [hz] at ih
     have i1':av bd (aw 9) (dC (.int (1))) (dH a0 a1 a2 c'.most q2 D R I)=some (.int v):=x1 (l:=[.int i.deep,.list (i.e.1.map .int),.str (ma i.e.2)]) (v:=tw i.t) (by show some (b6 i)=_;simp only [b6,hz,xa])
     have ct:aB d8 (av bd (aw 8) (dC (.int (0)))) (dC (.str "tell")) (dH a0 a1 a2 c'.most q2 D R I)=some (Iy r):=(tD (i0 _ _)).trans (congrArg some wt)
     have B:fz (dH a0 a1 a2 c'.most q D R I)=some (.nx (dH a0 a1 a2 c'.most (mW q1 r (i.e.1,.ok v)) D R I)):=by
      refine pre (aN (aE (b:=false) c4 rfl) (aE ct ?_))
      cases r with
      | set x t=>rfl
      | tell t=>exact CW (ds:=q.told) rfl i1' (by omega)
     have W':QW (mW q1 r (i.e.1,.ok v))/\(mW q1 r (i.e.1,.ok v)).told.length<=q.told.length+1/\(mW q1 r (i.e.1,.ok v)).lns=q1.lns/\(mW q1 r (i.e.1,.ok v)).tch=q2.tch:=by
      cases r with
      | set x t=>exact ⟨⟨wq2.st,wq2.told,wq2.lns,wq2.tch⟩,Nat.le_succ _,rfl,rfl⟩
      | tell t=>
       refine ⟨⟨wq2.st,λ d hd=>(List.mem_append.mp hd).elim (w.told d) λ z=>⟨v,List.mem_singleton.mp z⟩,wq2.lns,wq2.tch⟩,?_,rfl,rfl⟩
       simp only [mW,List.length_append,List.length_singleton]
       exact Nat.le_refl _
     obtain ⟨t8,t9,E,z⟩:=ih (k+1) (mW q1 r (i.e.1,.ok v)) R I W'.1 (by have:=W'.2.1;omega) (by rw [W'.2.2.1];simp [q1];omega) (by rw [W'.2.2.2];simp [q2,gq,q1];omega)
     exact ⟨t8,t9,(zw tg B).trans E,z⟩
theorem pQ {S:ai} {l:Nat} {es:List W} (h:S[l]?=some (.lst es)) (hi:∀ d∈es,∃ i,d=W.int i):∀ (f i:Nat),es.length-i<f->bJ (l,.l) (aj 0) (ac (qm (sN (lJ (hV (iY "int") (af 0)))) (lJ (hV (iY "bool") (af 0))))) (ac (af 0)) [.no] f i S=some (.ok [],S)
 | 0,i,hf=>by omega
 | f+1,i,hf=>by
  have le:lI S (l,.l)=some es:=by simp [lI,dG,h]
  cases hd:es[i]? with
  | none=>simp only [bJ,le,Option.bind_some,hd]
  | some d=>
   obtain ⟨j,rfl⟩:=hi d (List.mem_of_getElem? hd)
   have hl:i<es.length:=(oG hd).1
   have t:ac (qm (sN (lJ (hV (iY "int") (af 0)))) (lJ (hV (iY "bool") (af 0)))) [.val (.int j)] S=some (.ok false,S):=rfl
   have g:aj 0 (.int j) [.no]=some [.val (.int j)]:=rfl
   simp only [bJ,le,Option.bind_some,hd,g,ak,t,Bool.false_eq_true,if_false]
   exact pQ h hi f (i+1) (by omega)
theorem jB {S:ai} {l:Nat} {es:List W} (h:S[l]?=some (.lst es)) (hi:∀ d∈es,∃ i,d=W.int i) (hl:es.length<8000):aU [.ref l] S=some (.ok (.bool true),S):=by
 have z:=sz 9000 (by decide)
 have lv:jI (ac (af 0)) [.val (.ref l)] S=some (.ok (l,.l),S):=by
  have:ac (af 0) [.val (.ref l)] S=some (.ok (.ref l),S):=rfl
  simp only [jI,ak,this,ip h,Option.map_some]
 have cp:lu 9000 [none] (jI (ac (af 0))) (aj 0) (ac (qm (sN (lJ (hV (iY "int") (af 0)))) (lJ (hV (iY "bool") (af 0))))) (ac (af 0)) [.val (.ref l)] S=some (.ok (.list []),S):=by
  have e:bA [none] [Sl.val (.ref l)]=[.no]:=rfl
  simp only [lu,ak,lv,if_pos z,e,pQ h hi 9000 0 (by omega)]
 refine (aA rfl).trans ((congrArg bn (?_:_=some (.rt (.bool true),S))).trans rfl)
 exact bT (p7 (Fx (a:=0) (b:=0) (Ef cp) rfl))
theorem jr:∀ {ds:List W},(∀ d∈ds,∃ i,d=W.int i)->iF ds=true/\fm ds=0
 | [],_=>⟨rfl,rfl⟩
 | d::ds,h=>by
  obtain ⟨i,rfl⟩:=h d List.mem_cons_self
  have:=jr (ds:=ds) λ d hd=>h d (List.mem_cons_of_mem _ hd)
  exact ⟨by simp [iF,lH,this.1],by simp [fm,ge,this.2]⟩
theorem pL:∀ {ds:List W},(∀ d∈ds,∃ a b,d=W.tuple [.str "get", .int a,.int b])->iF ds=true/\fm ds<=1
 | [],_=>⟨rfl,Nat.zero_le _⟩
 | d::ds,h=>by
  obtain ⟨a,b,rfl⟩:=h d List.mem_cons_self
  have:=pL (ds:=ds) λ d hd=>h d (List.mem_cons_of_mem _ hd)
  exact ⟨by simp [iF,lH,this.1,kM.2.2.1],by simp [fm,ge,this.2]⟩
theorem vG {S:ai} {l m:Nat} {ds:List W} (h:S[l]?=some (.lst [.ref m])) (h':S[m]?=some (.lst ds)) (hk:iF ds=true) (hd:fm ds<20):kR false (.ref l) (.list [.list ds]) S=some true:=by
 obtain ⟨xs,e1,e2,e3,e4⟩:=jo ds hk
 have p1:mC S 24 (.ref l)=some (.list [.list xs]):=by
  show (dG S l).bind _=_
  rw [show dG S l=some [.ref m] by simp [dG,h]]
  show (jN (mC S 23) [.ref m]).map PyData.list=_
  have:mC S 23 (.ref m)=some (.list xs):=by
   show (dG S m).bind _=_
   rw [show dG S m=some ds by simp [dG,h']]
   show (jN (mC S 22) ds).map PyData.list=_
   rw [j8 S 22 ds hk (by omega),e1]
   rfl
  simp only [jN,this,Option.bind_some,Option.map_some]
 have p2:mC S 24 (.list [.list ds])=some (.list [.list xs]):=by
  rw [ot S 24 (.list [.list ds]) (by simpa [lH,iF] using hk) (by simp [ge,fm];omega)]
  simp [W.py,W.pys,e1]
 unfold kR
 show (mC S 24 (.ref l)).bind _=_
 rw [p1,p2]
 simp [PyData.canLay0,PyData.canLayAll0,e2,PyData.depth,PyData.depthAll,e3,PyData.eqv,PyData.eqvAll,e4]
 omega
theorem gL {T X:ai} {i:Nat} {x:Ob} (h:T[i]?=some x):(T++X)[i]?=some x:=by
 rw [List.getElem?_append_left (oG h).1,h]
theorem lR {f g:DS->ai->SM Bool} {δ:DS} {S S1 S2:ai} {b:Bool} (h1:f δ S=some (.ok false,S1)) (h2:g δ S1=some (.ok b,S2)):oU f g δ S=some (.ok b,S2):=by simp only [oU,ak,h1,Bool.false_eq_true,if_false,h2]
theorem rH {f g:DS->ai->SM W} {δ:DS} {S S1 S2:ai} {d:W} (h1:f δ S=some (.ok (.bool true),S1)) (h2:g δ S1=some (.ok d,S2)):mY f g δ S=some (.ok d,S2):=by
 simp only [mY,ak,h1,vP,Option.bind_some,if_true,h2]
theorem lK {neg b:Bool} {fo fi:DS->ai->SM W} {δ:DS} {S S1 S2:ai} {x y:W} (h1:fo δ S=some (.ok x,S1)) (h2:fi δ S1=some (.ok y,S2)) (h3:kR neg x y S2=some b):jV neg fo fi δ S=some (.ok b,S2):=by simp only [jV,ak,h1,h2,h3,iR,Option.map_some]
theorem Jr (n:Nat) (k:Int) (e:W):(jE n k e).lookup (Str.ofString "brought")=some (.ref (n+12)):=by kernel_rfl
theorem Jo (n:Nat) (k:Int) (e:W):(jE n k e).lookup (Str.ofString "puts")=some (.ref (n+14)):=by kernel_rfl
structure oZ (T:ai) (n:Nat) (q:Qs):Prop where
 h10:T[n+10]?=some (.ins (Str.ofString "Story") (jE n q.steps q.fin))
 h11:T[n+11]?=some (.lst q.told)
 h12:T[n+12]?=some (.lst [])
 h13:T[n+13]?=some (.lst [.ref (n+16)])
 h14:T[n+14]?=some (.lst [.ref (n+17)])
 h15:T[n+15]?=some (.lst q.lns)
 h16:T[n+16]?=some (.lst q.tch)
 h17:T[n+17]?=some (.dK [])
theorem oZ.of (S:ai) (c:Cn) (q:Qs):oZ (ST S c q) S.length q:=⟨ti,FL,gA S _ 12,Ir,gA S _ 14,GA,GY,gA S _ 17⟩
theorem oZ.app {T:ai} {n:Nat} {q:Qs} (h:oZ T n q) (X:ai):oZ (T++X) n q:=⟨gL h.h10,gL h.h11,gL h.h12,gL h.h13,gL h.h14,gL h.h15,gL h.h16,gL h.h17⟩
theorem oC (c:Cn) (N:W):∀ (rs:List Rw) (k:Nat) (l:eW) (q:Qs),q.told.length+rs.length<8000->q.lns.length+rs.length<8000->(cT c N rs k l q).told.length<8000/\(cT c N rs k l q).lns.length<8000
 | [],k,l,q,h1,h2=>⟨by simpa [cT] using h1,by simpa [cT] using h2⟩
 | r::rs,k,l,q,h1,h2=>by
  simp only [List.length_cons] at h1 h2
  have st:(mo c l q r ((k:Int)+2)).told.length<=q.told.length+1/\(mo c l q r ((k:Int)+2)).lns.length<=q.lns.length+1:=by
   unfold mo mW gq
   split
   . simp
   . cases (ev c l r.t).2 <;> cases r <;> simp
  unfold cT
  split
  . constructor <;> omega
  . split
    . constructor <;> omega
    . exact oC c N rs _ _ _ (by omega) (by omega)
theorem mP {c c':Cn} (e1:c.lane=c'.lane) (e2:c.lanes=c'.lanes) (e3:c.mine=c'.mine) (e4:c.bx=c'.bx) {rs:List Rw} {is:List Im} {l':eW} (h:RI c [] rs is l') (hl:rs.length<=100) (m:Nat) {T:ai} {n:Nat}
 (A:oZ T n (cT c' (.int ((rs.length:Int)+2)) rs 0 [] (q0 m))):∃ X,cv [.ref (n+10),.list (aO 0 rs),.list (is.map b6),.int c'.most] T=some (.ok (.bool true),T++X):=by
 have W0:QW (q0 m):=⟨rfl,λ d hd=>absurd hd List.not_mem_nil,λ d hd=>absurd hd List.not_mem_nil,λ d hd=>absurd hd List.not_mem_nil⟩
 obtain ⟨t8,t9,E,W1,F⟩:=qv e1 e2 e3 e4 ((rs.length:Int)+2) (.ref (n+10)) (.list (aO 0 rs)) (.list (is.map b6)) h 0 (q0 m) .no .no W0 (by simp [q0];omega) (by simp [q0];omega) (by simp [q0];omega)
 have z0:=sz 0 (by decide)
 have z1:=sz 1 (by decide)
 let a0:W:=.ref (n+10)
 let a1:W:=.list (aO 0 rs)
 let a2:W:=.list (is.map b6)
 obtain ⟨q,hq⟩:∃ q,q=cT c' (.int ((rs.length:Int)+2)) rs 0 [] (q0 m):=⟨_,rfl⟩
 rw [<-hq] at A E W1 F
 have ql:q.told.length<8000/\q.lns.length<8000:=by rw [hq];exact oC c' _ rs 0 [] (q0 m) (by simp [q0];omega) (by simp [q0];omega)
 obtain ⟨fs,fi,f1,f2⟩:=F
 let X1:ai:=[.lst [.int q.steps]]
 let X2:ai:=X1++[.dK []]
 have B:=A.app X1
 have C:=A.app X2
 refine ⟨X2,?_⟩
 refine (aA rfl).trans ((congrArg bn (?_:_=some (.rt (.bool true),T++X2))).trans rfl)
 let δ (s4 s5 s6 s7:Sl):DS:=[.val a0,.val a1,.val a2,.val (.int c'.most),s4,s5,s6,s7,.no,.no]
 refine (ag (δ':=δ (.own []) .no .no .no) (ax (by simp! [δ,uD,if_pos z0,a0,a1,a2]))).trans ?_
 refine (ag (δ':=δ (.own []) (.val (.list [])) .no .no) (ax (by simp! [δ,uD,if_pos z0]))).trans ?_
 refine (ag (δ':=δ (.own []) (.val (.list [])) (.own []) .no) (ax (by simp! [δ,uD,if_pos z0]))).trans ?_
 refine (ag (δ':=dH a0 a1 a2 c'.most (q0 m) (.tuple [.str "done", .int ((rs.length:Int)+2)]) .no .no) (ax (aS (wU rfl ?_) rfl))).trans ?_
 . simp! [δ,a1,uD,ff]
 refine (ag (δ':=dH a0 a1 a2 c'.most q q.fin t8 t9) (ax (sL (ds:=mm (aO 0 rs) (is.map b6)) rfl E))).trans ?_
 let δ1 (s6:Sl):DS:=[.val a0,.val a1,.val a2,.val (.int c'.most),.val (.list q.told),.val (.list q.tch),s6,.val q.fin,t8,t9]
 have v0:∀ s6 (T':ai),ac (af 0) (δ1 s6) T'=some (.ok (.ref (n+10)),T'):=λ _ _=>rfl
 have kt:=jr W1.told
 have kl:=jr W1.lns
 have kc:=pL W1.tch
 have tf:lH q.fin=true/\ge q.fin=1:=by rw [f1];exact ⟨by simp [lH,iF,f2],by simp [ge,fm]⟩
 have g1:jV true (ao "Story" "told" (ac (af 0))) (ac (af 4)) (δ1 (.own q.lns)) T=some (.ok false,T):=lK (bq (v0 _ _) A.h10 (Fi _ _ _)) rfl (nL true A.h11 kt.1 (by omega))
 have g2:io (gG (bV aU (aG (ao "Story" "told" (ac (af 0))) bM))) (δ1 (.own q.lns)) T=some (.ok false,T):=iC (i9 (eJ (aZ (bq (v0 _ _) A.h10 (Fi _ _ _)) rfl) (jB A.h11 W1.told ql.1)))
 have g3:jV true (ao "Story" "end" (ac (af 0))) (ac (af 7)) (δ1 (.own q.lns)) T=some (.ok false,T):=lK (bq (v0 _ _) A.h10 (Gg _ _ _)) rfl (uq true tf.1 (by omega))
 have g4:jV true (ao "Story" "brought" (ac (af 0))) (ac (b0 (bH ah))) (δ1 (.own q.lns)) T=some (.ok false,T):=lK (y:=.list []) (bq (v0 _ _) A.h10 (Jr _ _ _)) (aC (by simp! [δ1,uD,if_pos z0])) (nL true A.h12 rfl (by decide))
 have s1:iU 4 (cM (oU (jV true (ao "Story" "told" (ac (af 0))) (ac (af 4))) (oU (io (gG (bV aU (aG (ao "Story" "told" (ac (af 0))) bM)))) (oU (jV true (ao "Story" "end" (ac (af 0))) (ac (af 7))) (jV true (ao "Story" "brought" (ac (af 0))) (ac (b0 (bH ah)))))))
  (aq (bc (dC (.bool false)))) (aq aH)) (dH a0 a1 a2 c'.most q q.fin t8 t9) T=some (.nx (δ1 (.own q.lns)),T):=(dr (lR g1 (lR g2 (lR g3 g4)))).trans rfl
 refine (ag s1).trans ?_
 have i1:jV true (ao "Story" "lines" (ac (af 0))) (ac (af 6)) (δ1 (.val (.list q.lns))) T=some (.ok false,T):=lK (bq (v0 _ _) A.h10 (FO _ _ _)) rfl (nL true A.h15 kl.1 (by omega))
 have i2:io (gG (bV aU (aG (ao "Story" "lines" (ac (af 0))) bM))) (δ1 (.val (.list q.lns))) T=some (.ok false,T):=iC (i9 (eJ (aZ (bq (v0 _ _) A.h10 (FO _ _ _)) rfl) (jB A.h15 W1.lns ql.2)))
 have ls:cS (aG (ao "Story" "steps" (ac (af 0))) bM) (δ1 (.val (.list q.lns))) T=some (.ok (.ref T.length),T++X1):=by
  have:aG (ao "Story" "steps" (ac (af 0))) bM (δ1 (.val (.list q.lns))) T=some (.ok [.int q.steps],T):=aZ (bq (v0 _ _) A.h10 (Fv _ _ _)) rfl
  simp only [cS,ak,this,List.length_singleton,if_pos z1]
  rfl
 have i3:io (gG (bV aU (aG (cS (aG (ao "Story" "steps" (ac (af 0))) bM)) bM))) (δ1 (.val (.list q.lns))) T=some (.ok false,T++X1):=iC (i9 (eJ (aZ ls rfl) (jB (es:=[.int q.steps]) (by rw [List.getElem?_append_right (Nat.le_refl _)];simp [X1]) (λ d hd=>⟨q.steps,List.mem_singleton.mp hd⟩) (by simp))))
 have s2:iU 6 (cM (oU (jV true (ao "Story" "lines" (ac (af 0))) (ac (af 6))) (oU (io (gG (bV aU (aG (ao "Story" "lines" (ac (af 0))) bM)))) (io (gG (bV aU (aG (cS (aG (ao "Story" "steps" (ac (af 0))) bM)) bM))))))
  (aq (bc (dC (.bool false)))) (aq aH)) (δ1 (.own q.lns)) T=some (.nx (δ1 (.val (.list q.lns))),T++X1):=(dr (lR i1 (lR i2 i3))).trans rfl
 refine (ag s2).trans ?_
 refine bT (rH (S1:=T++X1) (p7 (b:=true) ?_) (rH (S1:=T++X1) (p7 (b:=true) ?_) (p7 (b:=true) ?_)))
 . have:=Fx (bq (v0 (.val (.list q.lns)) (T++X1)) B.h10 (Fv _ _ _)) (fi:=ac (hV dF (aw 6))) (b:=q.lns.length) rfl
   rw [this,W1.st,decide_eq_true rfl]
 . exact lK (y:=.list [.list q.tch]) (bq (v0 _ _) B.h10 (Fk _ _ _)) (aC (by simp! [δ1,uD,if_pos z1])) (vG B.h13 B.h16 kc.1 (by omega))
 . have d1:uA (aG xh bM) (δ1 (.val (.list q.lns))) (T++X1)=some (.ok (.list [.ref (T++X1).length]),T++X2):=by
    have:aG xh bM (δ1 (.val (.list q.lns))) (T++X1)=some (.ok [.ref (T++X1).length],T++X1++[.dK []]):=aZ rfl rfl
    simp only [uA,ak,this,List.length_singleton,if_pos z1]
    rw [List.append_assoc]
   have d2:wy (.ref (n+14)) (.list [.ref (T++X1).length]) (T++X2)=some true:=by
    have l1:dG (T++X2) (n+14)=some [.ref (n+17)]:=by simp only [dG,C.h14]
    have k1:=vS C.h17
    have k2:pS (.ref (T++X1).length) (T++X2)=some ((T++X1).length,[]):=vS (by
     show (T++(X1++[.dK []]))[(T++X1).length]?=_
     rw [<-List.append_assoc,List.getElem?_append_right (Nat.le_refl _)]
     simp)
    simp only [wy,l1,Option.bind_some,CV,k1,k2,Option.map_some]
    rfl
   have d0:ao "Story" "puts" (ac (af 0)) (δ1 (.val (.list q.lns))) (T++X1)=some (.ok (.ref (n+14)),T++X1):=bq (v0 _ _) B.h10 (Jo _ _ _)
   simp only [Bq,ak,d0,d1,d2,iR,Option.map_some]
structure Jb (a:PyData) (D w:Nat):Prop where
 sh:a.showable=true
 ly:a.canLay0=true
 is:a.intsShort 13=true
 d:a.depth<=D
 w:a.weight<=w
structure J6 (a:List PyData) (D w:Nat):Prop where
 sh:PyData.showableAll a=true
 ly:PyData.canLayAll0 a=true
 is:PyData.intsShortAll 13 a=true
 d:PyData.depthAll a<=D
 w:PyData.weightAll a<=w
noncomputable def RO (x:W) (D w:Nat):Prop:=∃ a,x.py=some a/\Jb a D w
noncomputable def RA (x:List W) (D w:Nat):Prop:=∃ a,W.pys x=some a/\J6 a D w
theorem RO.mono {x:W} {D w D' w':Nat} (h:RO x D w) (h1:D<=D') (h2:w<=w'):RO x D' w':=let ⟨a,e,r⟩:=h;⟨a,e,r.sh,r.ly,r.is,Nat.le_trans r.d h1,Nat.le_trans r.w h2⟩
theorem BC {n:Nat} (h:n<10^12):n.log2<40:=by
 by_cases h0:n=0
 . subst h0;decide
 . rw [Nat.log2_lt h0]
   have:(10:Nat)^12<2^40:=by decide
   omega
theorem RO.int {i:Int} (h:i.natAbs<10^12):RO (.int i) 0 41:=by
 have hl:=BC h
 refine ⟨.int i,rfl,?_,rfl,?_,Nat.le_refl _,?_⟩
 . simp only [PyData.showable,decide_eq_true_eq];omega
 . simp only [PyData.intsShort,decide_eq_true_eq];exact PyData.shown_int_le h
 . simp only [PyData.weight];split <;> omega
theorem RO.str {x:Str} {s:Nat} (h:x.cps.size<=s) (h':PyData.strOk x=true):RO (.str x) 0 s:=⟨.str x,rfl,rfl,h',rfl,Nat.le_refl _,h⟩
theorem RA.nil (D:Nat):RA [] D 0:=⟨[],rfl,rfl,rfl,rfl,Nat.zero_le _,Nat.le_refl _⟩
theorem RA.cons {x:W} {xs:List W} {D w w':Nat} (h:RO x D w) (h':RA xs D w'):RA (x::xs) D (w+1+w'):=by
 obtain ⟨a,e,r⟩:=h
 obtain ⟨as,es,rs⟩:=h'
 refine ⟨a::as,by simp only [W.pys,e,es,Option.bind_some,Option.map_some],?_,?_,?_,?_,?_⟩
 . simp only [PyData.showableAll,r.sh,rs.sh,Bool.and_self]
 . simp only [PyData.canLayAll0,r.ly,rs.ly,Bool.and_self]
 . simp only [PyData.intsShortAll,r.is,rs.is,Bool.and_self]
 . simp only [PyData.depthAll];exact Nat.max_le.mpr ⟨r.d,rs.d⟩
 . simp only [PyData.weightAll];have:=r.w;have:=rs.w;omega
theorem RA.tup {xs:List W} {D w:Nat} (h:RA xs D w):RO (.tuple xs) (D+1) w:=by
 obtain ⟨a,e,r⟩:=h
 exact ⟨.tuple a,by simp only [W.py,e,Option.map_some],r.sh,r.ly,r.is,Nat.succ_le_succ r.d,r.w⟩
theorem RA.lst {xs:List W} {D w:Nat} (h:RA xs D w):RO (.list xs) (D+1) w:=by
 obtain ⟨a,e,r⟩:=h
 exact ⟨.list a,by simp only [W.py,e,Option.map_some],r.sh,r.ly,r.is,Nat.succ_le_succ r.d,r.w⟩
theorem kB:((Str.ofString "num").cps.size<=4/\PyData.strOk (Str.ofString "num")=true)/\((Str.ofString "name").cps.size<=4/\PyData.strOk (Str.ofString "name")=true)/\((Str.ofString "box").cps.size<=4/\PyData.strOk (Str.ofString "box")=true)/\((Str.ofString "set").cps.size<=4/\PyData.strOk (Str.ofString "set")=true)/\((Str.ofString "tell").cps.size<=4/\PyData.strOk (Str.ofString "tell")=true)/\((Str.ofString "main").cps.size<=4/\PyData.strOk (Str.ofString "main")=true):=by decide +kernel
theorem zk:∀ k,(wV k).cps.size<=5/\PyData.strOk (wV k)=true:=by decide +kernel
theorem zr:∀ k,(eX k).cps.size<=4/\PyData.strOk (eX k)=true:=by decide +kernel
theorem xf.ok {y:Str} (h:xf y):PyData.strOk y=true:=by
 simp only [PyData.strOk]
 rw [Array.all_eq_true_iff_forall_mem]
 intro x hx
 have:=h.2 x (Array.mem_toList_iff.mpr hx)
 simp
 omega
theorem Fb {v:Int} (h:Rg v):v.natAbs<10^12:=by
 have e:(10:Nat)^12=1000000000000:=by decide
 rw [e]
 have:=h.1
 have:=h.2
 omega
theorem kK:∀ t,vx t->(∀ y,pP y t->xf y)->∃ w,RO (tw t) (dQ t+1) w/\w+10<=60*2^dQ t
 | .num v,h,_=>⟨_,(RA.cons (RO.str kB.1.1 kB.1.2) (RA.cons (RO.int (Fb h)) (RA.nil _))).tup,by simp [dQ]⟩
 | .sig k,_,_=>⟨_,(RA.cons (RO.str (zk k).1 (zk k).2) (RA.nil _)).tup,by simp [dQ]⟩
 | .nam x,_,hn=>⟨_,(RA.cons (RO.str kB.2.1.1 kB.2.1.2) (RA.cons (RO.str (hn x rfl).1 (hn x rfl).ok) (RA.nil _))).tup,by simp [dQ]⟩
 | .box t,h,hn=>by
  obtain ⟨w,r,hw⟩:=kK t h hn
  refine ⟨_,(RA.cons ((RO.str kB.2.2.1.1 kB.2.2.1.2).mono (Nat.zero_le _) (Nat.le_refl _)) (RA.cons r (RA.nil _))).tup,?_⟩
  simp only [dQ,Nat.pow_succ]
  omega
 | .op k a b,h,hn=>by
  obtain ⟨w,r,hw⟩:=kK a h.1 λ y hy=>hn y (.inl hy)
  obtain ⟨w',r',hw'⟩:=kK b h.2 λ y hy=>hn y (.inr hy)
  have m1:dQ a<=max (dQ a) (dQ b):=Nat.le_max_left _ _
  have m2:dQ b<=max (dQ a) (dQ b):=Nat.le_max_right _ _
  refine ⟨_,(RA.cons (D:=max (dQ a) (dQ b)+1) ((RO.str (zr k).1 (zr k).2).mono (Nat.zero_le _) (Nat.le_refl _)) (RA.cons (r.mono (Nat.succ_le_succ m1) (Nat.le_refl _)) (RA.cons (r'.mono (Nat.succ_le_succ m2) (Nat.le_refl _)) (RA.nil _)))).tup,?_⟩
  have p1:2^dQ a<=2^max (dQ a) (dQ b):=Nat.pow_le_pow_right (by decide) m1
  have p2:2^dQ b<=2^max (dQ a) (dQ b):=Nat.pow_le_pow_right (by decide) m2
  simp only [dQ,Nat.pow_succ]
  omega
theorem AW {ln:Int} (hl:ln.natAbs<10^12) {r:Rw} (hd:dQ r.t<=6) (hr:vx r.t) (hn:ym r):RO (jX ln r) 8 3950:=by
 obtain ⟨w,ro,hw⟩:=kK r.t hr hn.t
 have p:2^dQ r.t<=2^6:=Nat.pow_le_pow_right (by decide) hd
 have e:(2:Nat)^6=64:=by decide
 have ro':=ro.mono (D':=7) (by omega) (Nat.le_refl _)
 cases r with
 | set x t=>exact (RA.cons (D:=7) ((RO.str kB.2.2.2.1.1 kB.2.2.2.1.2).mono (Nat.zero_le _) (Nat.le_refl _)) (RA.cons ((RO.int hl).mono (Nat.zero_le _) (Nat.le_refl _)) (RA.cons ((RO.str (hn.x x t rfl).1 (hn.x x t rfl).ok).mono (Nat.zero_le _) (Nat.le_refl _)) (RA.cons ro' (RA.nil _))))).tup.mono (Nat.le_refl _) (by omega)
 | tell t=>exact (RA.cons (D:=7) ((RO.str kB.2.2.2.2.1.1 kB.2.2.2.2.1.2).mono (Nat.zero_le _) (Nat.le_refl _)) (RA.cons ((RO.int hl).mono (Nat.zero_le _) (Nat.le_refl _)) (RA.cons ro' (RA.nil _)))).tup.mono (Nat.le_refl _) (by omega)
theorem yM {c:Cn} {l l':eW} {rs:List Rw} {is:List Im} (h:RI c l rs is l') (hn:∀ r∈rs,ym r):∀ k:Nat,k+rs.length<=1000->RA (aO k rs) 8 (3951*rs.length):=by
 induction h with
 | nil l=>exact λ k _=>RA.nil _
 | @cons l l' r i rs is h1 h2 h3 h4 ih=>
  intro k hk
  simp only [List.length_cons] at hk
  have e:(10:Nat)^12=1000000000000:=by decide
  have a:=AW (ln:=(k:Int)+2) (by rw [e];omega) h1.1 h1.2.1 (hn r List.mem_cons_self)
  have b:=ih (λ r' hr'=>hn r' (List.mem_cons_of_mem _ hr')) (k+1) (by omega)
  have:=RA.cons a b
  have e2:3951*(r::rs).length=3950+1+3951*rs.length:=by simp only [List.length_cons];omega
  rw [e2]
  exact this
theorem rf {c:Cn} {l':eW} {rs:List Rw} {is:List Im} (h:RI c [] rs is l') (hl:rs.length<=60) (hn:∀ r∈rs,ym r):∃ s,wS (.list [jk (aO 0 rs) (.int ((rs.length:Int)+2))])=some (.str s):=by
 have e:(10:Nat)^12=1000000000000:=by decide
 have z:∀ {x:W} {w:Nat},RO x 0 w->RO x 9 w:=λ h=>h.mono (Nat.zero_le _) (Nat.le_refl _)
 have R:RO (.list [jk (aO 0 rs) (.int ((rs.length:Int)+2))]) 11 _:=(RA.cons (RA.cons (D:=9) (z (RO.str kB.2.2.2.2.2.1 kB.2.2.2.2.2.2)) (RA.cons ((RA.nil 8).lst) (RA.cons (yM h hn 0 (by omega)).lst (RA.cons (z (RO.int (by rw [e];omega))) (RA.cons (z (RO.int (by rw [e];omega))) (RA.nil _)))))).tup (RA.nil _)).lst
 obtain ⟨a,ea,r⟩:=R
 have rd:=r.d
 have rw':=r.w
 have e20:(2:Nat)^20=1048576:=by decide
 have ly:PyData.layable0 a=true:=by
  simp only [PyData.layable0,Bool.and_eq_true,decide_eq_true_eq]
  exact ⟨⟨r.ly,by omega⟩,by rw [e20];omega⟩
 have ok:jj a=true:=by
  simp only [jj,Bool.and_eq_true,decide_eq_true_eq,Bool.not_eq_true']
  exact ⟨⟨⟨r.sh,PyData.hasDict_of_canLay a r.ly⟩,by omega⟩,PyData.shown_fits_of_layable0 (by decide) (by decide) ly r.is⟩
 refine ⟨a.shown,?_⟩
 unfold wS
 rw [ea]
 simp only [Option.bind_some,if_pos ok]
noncomputable def Cq:Int:=1000000000000000000000000000000000000000000000000000000000000
noncomputable def CT:Int:=500000000000000000000000000000000000000000000000000000000000
theorem Je:je (.int 10) (.int 60)=some (.int Cq):=by kernel_rfl
theorem Ja:je (.int 10) (.int 59)=some (.int 100000000000000000000000000000000000000000000000000000000000):=by kernel_rfl
theorem J7:dZ (.int 5) (.int 100000000000000000000000000000000000000000000000000000000000)=some (.int CT):=by kernel_rfl
theorem HQ (δ:DS):av je (dC (.int (10))) (dC (.int (60))) δ=some (.int Cq):=dO rfl rfl Je
theorem IB (δ:DS):av dZ (dC (.int (5))) (av je (dC (.int (10))) (dC (.int (59)))) δ=some (.int CT):=dO rfl (dO rfl rfl Ja) J7
theorem Iq:Cq≠0:=by decide
theorem nj (ns:List Int) (a b c d:Sl) (t:List Sl):∀ (n:Nat) (k:Nat) (hs:List Int) (s6:Sl),k+n<=100->hs.length+n<=100->∃ (hs':List Int) (s6':Sl),cJ (aj 6) kQ (kz k n) (.val (.list (ns.map .int))::a::b::c::d::.own (hs.map .int)::s6::t)=some (.nx (.val (.list (ns.map .int))::a::b::c::d::.own (hs'.map .int)::s6'::t))/\hs'.length=hs.length+n
 | 0,k,hs,s6,_,_=>⟨hs,s6,rfl,rfl⟩
 | n+1,k,hs,s6,h1,h2=>by
  rw [tN]
  let δ:DS:=.val (.list (ns.map .int))::a::b::c::d::.own (hs.map .int)::.val (.int k)::t
  have c1:=i6 ns k
  have m1:dZ (.int (cy ns k)) (.int ((k:Int)+3))=some (.int (cy ns k*(k+3))):=fU (oP (by omega) (by omega))
  have m2:dZ (.int (k:Int)) (.int 977)=some (.int ((k:Int)*977)):=fU (oP (by omega) (by omega))
  have v:av gSub' (av b7 (av gSub' (av b8 (av dZ (aP aF (aa (af 0) (aa (af 6) ah))) (av b8 (aw 6) (dC (.int (3))))) (av dZ (aw 6) (dC (.int (977))))) (dC (.int (5)))) (av je (dC (.int (10))) (dC (.int (60))))) (av dZ (dC (.int (5))) (av je (dC (.int (10))) (dC (.int (59))))) δ=some (.int ((cy ns k*(k+3)+k*977-5).fmod Cq-CT)):=
   dO (dO (dO (dO (dO (jZ (ds:=[.list (ns.map .int),.int k]) rfl c1) rfl m1) (dO rfl rfl m2) rfl) rfl rfl) (HQ _) (bw _ Iq)) (IB _) rfl
  have B:kQ δ=some (.nx (.val (.list (ns.map .int))::a::b::c::d::.own ((hs++[(cy ns k*(k+3)+k*977-5).fmod Cq-CT]).map .int)::.val (.int k)::t)):=by
   refine (CW (ds:=hs.map .int) rfl v (by simp;omega)).trans ?_
   rw [List.map_append]
   rfl
  obtain ⟨hs',s6',E,L⟩:=nj ns a b c d t n (k+1) (hs++[(cy ns k*(k+3)+k*977-5).fmod Cq-CT]) (.val (.int k)) (by omega) (by simp;omega)
  refine ⟨hs',s6',(zw (δ2:=δ) rfl B).trans ?_,by rw [L];simp;omega⟩
  exact E
theorem sU (hs:List Int):eC (aj 0) hJ (aP aL (aa (af 0) ah)) [.no] (hs.map .int)=some ((hs.map wr).map .int):=by
 induction hs with
 | nil=>rfl
 | cons x hs ih=>
  have e1:aP aL (aa (af 0) ah) [.val (.int x)]=some (.int (wr x)):=jZ (ds:=[.int x]) rfl (gn x)
  have e2:aj 0 (.int x) [.no]=some [.val (.int x)]:=rfl
  simp only [List.map_cons,eC,e2,Option.bind_some,hJ,if_true,e1,ih,Option.map_some]
noncomputable def pH (lane lanes mine:Int):List Im:=[⟨.sig 0,0,[],.ok lane⟩,⟨.sig 1,0,[],.ok lanes⟩,⟨.nam (Str.ofString "zz"),0,[],.ok 0⟩,⟨.sig 2,0,[],.ok mine⟩,⟨.num 0,0,[],.ok 0⟩]
theorem xl {c:Cn} (fr:Bool):∀ p∈pH c.lane c.lanes c.mine,Gm c [] fr 0 p:=by
 intro p hp
 simp only [pH,List.mem_cons,List.not_mem_nil,or_false] at hp
 rcases hp with rfl | rfl | rfl | rfl | rfl
 . exact ⟨rfl,trivial,by simp [dQ],by simp,λ y hy=>hy.elim⟩
 . exact ⟨rfl,trivial,by simp [dQ],by simp,λ y hy=>hy.elim⟩
 . exact ⟨rfl,trivial,by simp [dQ],by simp,λ y hy=>.inl (show Str.ofString "zz" = y from hy).symm⟩
 . exact ⟨rfl,trivial,by simp [dQ],by simp,λ y hy=>hy.elim⟩
 . exact .num (by decide)
theorem yg {fa fb:DS->ai->SM W} {δ:DS} {S S1 S2:ai} {ds es:List W} (h1:fa δ S=some (.ok (.list ds),S1)) (h2:fb δ S1=some (.ok (.list es),S2)) (h3:ds.length+es.length<=9000):pK fa fb δ S=some (.ok (.ref S2.length),S2++[.lst (ds++es)]):=by
 have e1:yT (.list ds) S2=some ds:=rfl
 have e2:pE (.list es)=some es:=rfl
 simp only [pK,ak,h1,h2,e1,e2,Option.bind_some,if_pos h3]
theorem Ez {t:Tr} {v:Int} {f g:DS->Option W} {δ:DS} (h1:f δ=some (tw t)) (h2:g δ=some (.int v)):ba (aa f (aa g (aa (dC (.int (0))) (aa (b0 (bH ah)) (aa (dC (.str "")) ah))))) δ=some (b6 ⟨t,0,[],.ok v⟩):=by
 have z0:=sz 0 (by decide)
 refine zV (cO h1 (cO h2 (cO rfl (cO ?_ (cO rfl rfl))))) (by simp)
 simp! [uD,if_pos z0]
theorem lF {f:DS->Option (List W)} {δ:DS} {l:List W} (h:f δ=some l) (hl:l.length<=9000):b0 (bH f) δ=some (.list l):=by
 have z:=sz _ hl
 simp only [b0,bH,h,Option.bind_some,if_pos z,Option.map_some]
theorem uP (ns:List Int) (_h:ns.length<=63):∃ S,wc [.list (ns.map .int)] []=some (.ok (.bool true),S):=by
 obtain ⟨F,hF⟩:∃ F,F=iX (cy ns 0) 601:=⟨_,rfl⟩
 have f0:=wj (cy ns 0) 601
 rw [<-hF] at f0
 obtain ⟨Ls,hLs⟩:∃ x,x=1+F.fmod 8:=⟨_,rfl⟩
 have r8:=bX F (j:=8) (by decide)
 obtain ⟨La,hLa⟩:∃ x,x=(F.fdiv 8).fmod Ls:=⟨_,rfl⟩
 have rl:=bX (F.fdiv 8) (j:=Ls) (by omega)
 rw [<-hLa] at rl
 obtain ⟨Mi,hMi⟩:∃ x,x=(cy ns 2).fmod Cq-CT:=⟨_,rfl⟩
 have r13:=bX (cy ns 3) (j:=13) (by decide)
 obtain ⟨n13,hn⟩:∃ n:Nat,(cy ns 3).fmod 13=n:=⟨((cy ns 3).fmod 13).toNat,by omega⟩
 have hn':n13<=12:=by omega
 let sc:Sl:=.val (.list (ns.map .int))
 have k0:aF [.list (ns.map .int),.int 0]=some (.int (cy ns 0)):=i6 ns 0
 have k2:aF [.list (ns.map .int),.int 2]=some (.int (cy ns 2)):=i6 ns 2
 have k3:aF [.list (ns.map .int),.int 3]=some (.int (cy ns 3)):=i6 ns 3
 have mF:aW [.int (cy ns 0),.int 601]=some (.int F):=by rw [hF];exact j0 _ _
 obtain ⟨hs,s6,EH,LH⟩:=nj ns (.val (.int F)) (.val (.int Ls)) (.val (.int La)) (.val (.int Mi)) [.no,.no,.no,.no,.no,.no,.no,.no] n13 0 [] .no (by omega) (by simp;omega)
 simp only [List.length_nil,Nat.zero_add] at LH
 let c:Cn:=xi La Ls Mi hs 0 [] .none
 have hc:rJ c:=by
  refine ⟨?_,?_,uE _,λ x hx=>?_⟩
  . show Rg La;constructor <;> omega
  . show Rg Ls;constructor <;> omega
  . obtain ⟨y,_,rfl⟩:=List.mem_map.mp hx
    exact uE _
 let P:=pH c.lane c.lanes c.mine
 let S0:ai:=[.lst (P.map b6)]
 obtain ⟨rs,is,l',S1,EM,RM,LM,NM⟩:=vR hc (by show (hs.map wr).length<=100;simp;omega) ns _h (pi:=0) (P:=P) (S:=S0) (by simp [P,pH]) (by simp [P,pH]) (λ fr=>xl fr) rfl
 obtain ⟨sh,SH⟩:=rf RM LM NM
 let N:W:=.int ((rs.length:Int)+2)
 let pr:W:=.list [jk (aO 0 rs) N]
 obtain ⟨M,hM⟩:∃ M:Int,M=if (F.fdiv 64).fmod 4=1 then (F.fdiv 256).fmod ((rs.length:Int)+2) else 1000:=⟨_,rfl⟩
 let c':Cn:=xi La Ls Mi hs M (aO 0 rs) N
 have hc':rJ c':=⟨hc.l,hc.ls,hc.m,hc.b⟩
 have RO':E3 c' [] rs:=RI.rok (c:=c) (c':=c') rfl rfl rfl rfl RM
 have A1:=λ S=>uh S La Ls Mi hs M rs N (by omega) hc' RO' (by omega)
 let hW:W:=.list (hs.map .int)
 let bW:W:=.list ((hs.map wr).map .int)
 let rW:W:=.list (aO 0 rs)
 let iW:W:=.list (is.map b6)
 let kW:W:=.list [hW,.str sh]
 let q':=cT c' N rs 0 [] (q0 S1.length)
 have Y1:=oZ.of S1 c' q'
 obtain ⟨X,EX⟩:=mP (c:=c) (c':=c') rfl rfl rfl rfl RM (by omega) S1.length Y1
 have Y2:=Y1.app X
 let T2:ai:=ST S1 c' q'++X
 let D4 (r:List Sl):DS:=sc::.val (.int F)::.val (.int Ls)::.val (.int La)::.val (.int Mi)::r
 have z0:=sz 0 (by decide)
 have hsl:hs.length<=12:=by omega
 have t1:aV (aP aW (aa (aP aF (aa (af 0) (aa (dC (.int (0))) ah))) (aa (dC (.int (601))) ah))) (aj 1) [sc,.no,.no,.no,.no,.no,.no,.no,.no,.no,.no,.no,.no,.no,.no]=some (.nx [sc,.val (.int F),.no,.no,.no,.no,.no,.no,.no,.no,.no,.no,.no,.no,.no]):=aS (jZ (ds:=[.int (cy ns 0),.int 601]) (cO (jZ (ds:=[.list (ns.map .int),.int 0]) rfl k0) rfl) mF) rfl
 have t2:aV (av b8 (dC (.int (1))) (av b7 (aw 1) (dC (.int (8))))) (aj 2) [sc,.val (.int F),.no,.no,.no,.no,.no,.no,.no,.no,.no,.no,.no,.no,.no]=some (.nx [sc,.val (.int F),.val (.int Ls),.no,.no,.no,.no,.no,.no,.no,.no,.no,.no,.no,.no]):=by
  rw [hLs]
  exact aS (dO rfl (dO rfl rfl (bw _ (by decide))) rfl) rfl
 have t3:aV (av b7 (av ft (aw 1) (dC (.int (8)))) (af 2)) (aj 3) [sc,.val (.int F),.val (.int Ls),.no,.no,.no,.no,.no,.no,.no,.no,.no,.no,.no,.no]=some (.nx [sc,.val (.int F),.val (.int Ls),.val (.int La),.no,.no,.no,.no,.no,.no,.no,.no,.no,.no,.no]):=by
  rw [hLa]
  exact aS (dO (dO rfl rfl (g9 _ (by decide) (by decide))) rfl (bw _ (by omega))) rfl
 have t4:aV (av gSub' (av b7 (aP aF (aa (af 0) (aa (dC (.int (2))) ah))) (av je (dC (.int (10))) (dC (.int (60))))) (av dZ (dC (.int (5))) (av je (dC (.int (10))) (dC (.int (59)))))) (aj 4) [sc,.val (.int F),.val (.int Ls),.val (.int La),.no,.no,.no,.no,.no,.no,.no,.no,.no,.no,.no]=some (.nx (D4 [.no,.no,.no,.no,.no,.no,.no,.no,.no,.no])):=by
  have e:av gSub' (av b7 (aP aF (aa (af 0) (aa (dC (.int (2))) ah))) (av je (dC (.int (10))) (dC (.int (60))))) (av dZ (dC (.int (5))) (av je (dC (.int (10))) (dC (.int (59))))) [sc,.val (.int F),.val (.int Ls),.val (.int La),.no,.no,.no,.no,.no,.no,.no,.no,.no,.no,.no]=some (.int Mi):=by
   rw [hMi]
   exact dO (dO (jZ (ds:=[.list (ns.map .int),.int 2]) rfl k2) (HQ _) (bw _ Iq)) (IB _) rfl
  exact aS e rfl
 have t6:lX (wg (aa (av b7 (aP aF (aa (af 0) (aa (dC (.int (3))) ah))) (dC (.int (13)))) ah)) (aj 6) kQ (D4 [.own [],.no,.no,.no,.no,.no,.no,.no,.no,.no])=some (.nx (D4 [.own (hs.map .int),s6,.no,.no,.no,.no,.no,.no,.no,.no])):=by
  refine sL (ds:=kz 0 n13) ?_ EH
  have e:av b7 (aP aF (aa (af 0) (aa (dC (.int (3))) ah))) (dC (.int (13))) (D4 [.own [],.no,.no,.no,.no,.no,.no,.no,.no,.no])=some (.int n13):=by
   rw [<-hn]
   exact dO (jZ (ds:=[.list (ns.map .int),.int 3]) rfl k3) rfl (bw _ (by decide))
  show (aa (av b7 (aP aF (aa (af 0) (aa (dC (.int (3))) ah))) (dC (.int (13)))) ah (D4 [.own [],.no,.no,.no,.no,.no,.no,.no,.no,.no])).bind so=_
  rw [cO e rfl]
  have e2:=yA (j:=(n13:Int)) (by omega) (by omega)
  rw [Int.toNat_natCast] at e2
  rw [Option.bind_some,e2]
 have t7:aV (b0 (iN [none] (dm (aw 5)) (aj 0) hJ (aP aL (aa (af 0) ah)))) (aj 7) (D4 [.own (hs.map .int),s6,.no,.no,.no,.no,.no,.no,.no,.no])=some (.nx (D4 [.own (hs.map .int),s6,.val bW,.no,.no,.no,.no,.no,.no,.no])):=aS (Ib (ds:=hs.map .int) rfl (by simp;omega) (sU hs)) rfl
 let p3:List W:=[b6 ⟨.sig 0,0,[],.ok La⟩,b6 ⟨.sig 1,0,[],.ok Ls⟩,b6 ⟨.nam (Str.ofString "zz"),0,[],.ok 0⟩]
 have t8:aV (b0 (bH (aa (ba (aa (ba (aa (dC (.str "lane")) ah)) (aa (af 3) (aa (dC (.int (0))) (aa (b0 (bH ah)) (aa (dC (.str "")) ah)))))) (aa (ba (aa (ba (aa (dC (.str "lanes")) ah)) (aa (af 2) (aa (dC (.int (0))) (aa (b0 (bH ah)) (aa (dC (.str "")) ah)))))) (aa (ba (aa (ba (aa (dC (.str "name")) (aa (dC (.str "zz")) ah))) (aa (dC (.int (0))) (aa (dC (.int (0))) (aa (b0 (bH ah)) (aa (dC (.str "")) ah)))))) ah))))) (aj 8) (D4 [.own (hs.map .int),s6,.val bW,.no,.no,.no,.no,.no,.no,.no])=some (.nx (D4 [.own (hs.map .int),s6,.val bW,.val (.list p3),.no,.no,.no,.no,.no,.no])):=
  aS (lF (l:=p3) (cO (Ez (t:=.sig 0) (Gi rfl) rfl) (cO (Ez (t:=.sig 1) (Gi rfl) rfl) (cO (Ez (t:=.nam (Str.ofString "zz")) (wU rfl rfl) rfl) rfl))) (by simp [p3])) rfl
 let p2:List W:=[b6 ⟨.sig 2,0,[],.ok (wr Mi)⟩,b6 ⟨.num 0,0,[],.ok 0⟩]
 let D8 (a b d e f g:Sl):DS:=D4 [.own (hs.map .int),s6,.val bW,.val (.ref 0),a,b,d,e,f,g]
 have t9:cK (pK (ac (af 8)) (ac (b0 (bH (aa (ba (aa (ba (aa (dC (.str "mine")) ah)) (aa (aP aL (aa (af 4) ah)) (aa (dC (.int (0))) (aa (b0 (bH ah)) (aa (dC (.str "")) ah)))))) (aa (ba (aa (ba (aa (dC (.str "num")) (aa (dC (.int (0))) ah))) (aa (dC (.int (0))) (aa (dC (.int (0))) (aa (b0 (bH ah)) (aa (dC (.str "")) ah)))))) ah)))))) (aj 8) (D4 [.own (hs.map .int),s6,.val bW,.val (.list p3),.no,.no,.no,.no,.no,.no]) []=some (.nx (D8 .no .no .no .no .no .no),S0):=
  cU (yg (ds:=p3) (es:=p2) (S1:=[]) (S2:=[]) rfl (aC (lF (l:=p2) (cO (Ez (t:=.sig 2) (Gi rfl) (jZ (ds:=[.int Mi]) rfl (gn Mi))) (cO (Ez (t:=.num 0) (wU rfl rfl) rfl) rfl)) (by simp [p2]))) (by simp [p2,p3])) rfl
 have t10:cK (bV fP (ac (aa (af 0) (aa (af 7) (aa (af 8) ah))))) (jx 2 (eh (aj 9) (eh (aj 10) ke))) (D8 .no .no .no .no .no .no) S0=some (.nx (D8 (.val rW) (.val iW) .no .no .no .no),S1):=cU (eJ (ds:=[.list (ns.map .int),bW,.ref 0]) rfl EM) rfl
 have t12:cG (aB d8 (av b7 (av ft (aw 1) (dC (.int (64)))) (dC (.int (4)))) (dC (.int (1)))) (aV (av b7 (av ft (aw 1) (dC (.int (256)))) (av b8 (hV dF (aw 9)) (dC (.int (2))))) (aj 11)) aH (D8 (.val rW) (.val iW) (.val (.int 1000)) .no .no .no)=some (.nx (D8 (.val rW) (.val iW) (.val (.int M)) .no .no .no)):=by
  have cc:aB d8 (av b7 (av ft (aw 1) (dC (.int (64)))) (dC (.int (4)))) (dC (.int (1))) (D8 (.val rW) (.val iW) (.val (.int 1000)) .no .no .no)=some (decide ((F.fdiv 64).fmod 4=1)):=lf (dO (dO rfl rfl (g9 _ (by decide) (by decide))) rfl (bw _ (by decide))) rfl rfl
  by_cases h:(F.fdiv 64).fmod 4=1
  . rw [decide_eq_true h] at cc
    rw [if_pos h] at hM
    rw [hM]
    have ln:av b8 (hV dF (aw 9)) (dC (.int (2))) (D8 (.val rW) (.val iW) (.val (.int 1000)) .no .no .no)=some (.int ((rs.length:Int)+2)):=by
     refine dO (a:=.int rs.length) ?_ rfl rfl
     show some (W.int ((aO 0 rs).length:Nat))=_
     rw [ff]
    exact aE (b:=true) cc (aS (dO (dO rfl rfl (g9 _ (by decide) (by decide))) ln (bw _ (by omega))) rfl)
  . rw [decide_eq_false h] at cc
    rw [if_neg h] at hM
    rw [hM]
    exact aE (b:=false) cc rfl
 have tG:∀ a b d e,av b8 (hV dF (aw 9)) (dC (.int (2))) (D8 (.val rW) a b d e .no)=some N:=λ a b d e=>by
  refine dO (a:=.int rs.length) ?_ rfl rfl
  show some (W.int ((aO 0 rs).length:Nat))=_
  rw [ff]
 have t13:aV (b0 (bH (aa (ba (aa (dC (.str "main")) (aa (b0 (bH ah)) (aa (af 9) (aa (dC (.int (1))) (aa (av b8 (hV dF (aw 9)) (dC (.int (2)))) ah)))))) ah))) (aj 12) (D8 (.val rW) (.val iW) (.val (.int M)) .no .no .no)=some (.nx (D8 (.val rW) (.val iW) (.val (.int M)) (.val pr) .no .no)):=
  aS (lF (l:=[jk (aO 0 rs) N]) (cO (zV (cO rfl (cO (lF (l:=[]) rfl (by simp)) (cO rfl (cO rfl (cO (tG _ _ _ _) rfl))))) (by simp)) rfl) (by simp)) rfl
 have t14:aV (b0 (bH (aa (b0 (kO (aw 5))) (aa (mZ (af 12)) ah)))) (aj 13) (D8 (.val rW) (.val iW) (.val (.int M)) (.val pr) .no .no)=some (.nx (D8 (.val rW) (.val iW) (.val (.int M)) (.val pr) (.val kW) .no)):=aS (lF (l:=[hW,.str sh]) (cO rfl (cO SH rfl)) (by simp)) rfl
 let D9 (g:Sl):DS:=D4 [.val hW,s6,.val bW,.val (.ref 0),.val rW,.val iW,.val (.int M),.val pr,.val kW,g]
 have al:∀ (g:Sl) (S:ai),bV gN (ac (aa (af 12) (aa (af 3) (aa (af 2) (aa (af 4) (aa (af 5) (aa (af 11) (aa (b0 (bH ah)) ah)))))))) (D9 g) S=some (.ok (.ref (S.length+10)),ST S c' (cT c' N rs 0 [] (q0 S.length))):=λ g S=>eJ (ds:=[pr,.int La,.int Ls,.int Mi,hW,.int M,.list []]) (aC (cO rfl (cO rfl (cO rfl (cO rfl (cO rfl (cO rfl (cO (lF (l:=[]) rfl (by simp)) rfl)))))))) (A1 S)
 have t15:iU 5 (cK (bV gN (ac (aa (af 12) (aa (af 3) (aa (af 2) (aa (af 4) (aa (af 5) (aa (af 11) (aa (b0 (bH ah)) ah))))))))) (aj 14)) (D8 (.val rW) (.val iW) (.val (.int M)) (.val pr) (.val kW) .no) S1=some (.nx (D9 (.val (.ref (S1.length+10)))),ST S1 c' q'):=cU (al .no S1) rfl
 let δ9:DS:=D9 (.val (.ref (S1.length+10)))
 have hk:=jr (ds:=hs.map .int) λ d hd=>let ⟨x,_,e⟩:=List.mem_map.mp hd;⟨x,e.symm⟩
 have u1:io (gG (bV cv (ac (aa (af 14) (aa (af 9) (aa (af 10) (aa (af 11) ah))))))) δ9 (ST S1 c' q')=some (.ok false,T2):=iC (i9 (eJ (ds:=[.ref (S1.length+10),rW,iW,.int M]) rfl EX))
 have u2:aB qj (aw 5) (av bd (aw 13) (dC (.int (0)))) δ9=some false:=lf (a:=hW) (b:=hW) rfl (F5 (l:=[hW,.str sh]) (i:=0) rfl rfl (Ec _ _)) (wK (d:=.list (hs.map .int)) (by simpa [lH] using hk.1) (by simp [ge,hk.2]))
 have u3:aB qj (mZ (af 12)) (av bd (aw 13) (dC (.int (1)))) δ9=some false:=lf (a:=.str sh) (b:=.str sh) SH (F5 (l:=[hW,.str sh]) (i:=1) rfl rfl (CK _ _ _)) (by rw [jS,decide_eq_true rfl];rfl)
 have t16:cM (oU (io (gG (bV cv (ac (aa (af 14) (aa (af 9) (aa (af 10) (aa (af 11) ah)))))))) (oU (ac (aB qj (aw 5) (av bd (aw 13) (dC (.int (0)))))) (ac (aB qj (mZ (af 12)) (av bd (aw 13) (dC (.int (1)))))))) (aq (bc (dC (.bool false)))) (aq aH) δ9 (ST S1 c' q')=some (.nx δ9,T2):=(dr (lR u1 (lR (aC u2) (aC u3)))).trans rfl
 obtain ⟨ql1,ql2⟩:=oC c' N rs 0 [] (q0 S1.length) (by simp [q0];omega) (by simp [q0];omega)
 have ql3:q'.told.length<9000:=Nat.lt_trans ql1 (by decide)
 have ql4:q'.lns.length<9000:=Nat.lt_trans ql2 (by decide)
 have v14:∀ S:ai,ac (af 14) δ9 S=some (.ok (.ref (S1.length+10)),S):=λ _=>rfl
 let T3:ai:=T2.set (S1.length+11) (.lst (q'.told++[.int 0]))
 let T4:ai:=T3.set (S1.length+15) (.lst (q'.lns++[.int 0]))
 let T5:ai:=T4.set (S1.length+13) (.lst ([.ref (S1.length+16)]++[.list []]))
 have w1:br (ao "Story" "told" (ac (af 14))) (ac (dC (.int (0)))) δ9 T2=some (.nx δ9,T3):=mq (bq (v14 _) Y2.h10 (Fi _ _ _)) Y2.h11 rfl Y2.h11 ql3
 have g3:∀ i,i≠11->T3[S1.length+i]?=T2[S1.length+i]?:=λ i hi=>List.getElem?_set_ne (by omega)
 have w2:br (ao "Story" "lines" (ac (af 14))) (ac (dC (.int (0)))) δ9 T3=some (.nx δ9,T4):=mq (bq (v14 _) ((g3 10 (by decide)).trans Y2.h10) (FO _ _ _)) ((g3 15 (by decide)).trans Y2.h15) rfl ((g3 15 (by decide)).trans Y2.h15) ql4
 have g4:∀ i,i≠15->T4[S1.length+i]?=T3[S1.length+i]?:=λ i hi=>List.getElem?_set_ne (by omega)
 have g5:T4[S1.length+13]?=some (.lst [.ref (S1.length+16)]):=(g4 13 (by decide)).trans ((g3 13 (by decide)).trans Y2.h13)
 have w3:br (ao "Story" "touches" (ac (af 14))) (ac (b0 (bH ah))) δ9 T4=some (.nx δ9,T5):=mq (bq (v14 _) ((g4 10 (by decide)).trans ((g3 10 (by decide)).trans Y2.h10)) (Fk _ _ _)) g5 (aC (lF (l:=[]) rfl (by simp))) g5 (by simp)
 obtain ⟨X5,EX5⟩:=mP (c:=c) (c':=c') rfl rfl rfl rfl RM (by omega) T5.length (oZ.of T5 c' _)
 have w4:iU 5 (dI (bV cv (aG (bV gN (ac (aa (af 12) (aa (af 3) (aa (af 2) (aa (af 4) (aa (af 5) (aa (af 11) (aa (b0 (bH ah)) ah))))))))) (aG (ac (af 9)) (aG (ac (af 10)) (aG (ac (af 11)) bM)))))) δ9 T5=some (.rt (.bool true),ST T5 c' (cT c' N rs 0 [] (q0 T5.length))++X5):=bT (eJ (ds:=[.ref (T5.length+10),rW,iW,.int M]) (aZ (al _ T5) rfl) EX5)
 refine ⟨ST T5 c' (cT c' N rs 0 [] (q0 T5.length))++X5,?_⟩
 refine (aA rfl).trans ((congrArg bn (?_:_=some (.rt (.bool true),ST T5 c' (cT c' N rs 0 [] (q0 T5.length))++X5))).trans rfl)
 refine (ag (ax t1)).trans ((ag (ax t2)).trans ((ag (ax t3)).trans ((ag (ax t4)).trans ?_)))
 refine (ag (δ':=D4 [.own [],.no,.no,.no,.no,.no,.no,.no,.no,.no]) (ax (by simp! [D4,uD,if_pos z0]))).trans ?_
 refine (ag (ax t6)).trans ((ag (ax t7)).trans ((ag (ax t8)).trans ((ag t9).trans ((ag t10).trans ?_))))
 refine (ag (δ':=D8 (.val rW) (.val iW) (.val (.int 1000)) .no .no .no) (ax rfl)).trans ?_
 exact (ag (ax t12)).trans ((ag (ax t13)).trans ((ag (ax t14)).trans ((ag t15).trans ((ag t16).trans ((ag w1).trans ((ag w2).trans ((ag w3).trans w4)))))))
theorem A7 {α:Type} {P:List α->Prop} {n:Nat} (h:∀ a us,us.length=n->P (a::us)):∀ us:List α,us.length=n+1->P us:=λ us hl=>by
 cases us with
 | nil=>cases hl
 | cons a us=>exact h a us (Nat.succ.inj hl)
theorem Jm {α:Type} {P:List α->Prop} (h:P []):∀ us:List α,us.length=0->P us:=λ us hl=>by
 cases us with
 | nil=>exact h
 | cons a us=>cases hl
theorem sV {α:Type} {P:List α->Prop} (h:∀ a0,P [a0]):∀ us:List α,us.length=1->P us:=A7 λ a us hl=>Jm (P:=λ l=>P (a::l)) (h a) us hl
theorem tG {α:Type} {P:List α->Prop} (h:∀ a0 a1,P [a0,a1]):∀ us:List α,us.length=2->P us:=A7 λ a us hl=>sV (P:=λ l=>P (a::l)) (h a) us hl
theorem y9 {α:Type} {P:List α->Prop} (h:∀ a0 a1 a2,P [a0,a1,a2]):∀ us:List α,us.length=3->P us:=A7 λ a us hl=>tG (P:=λ l=>P (a::l)) (h a) us hl
theorem Fl {α:Type} {P:List α->Prop} (h:∀ a0 a1 a2 a3,P [a0,a1,a2,a3]):∀ us:List α,us.length=4->P us:=A7 λ a us hl=>y9 (P:=λ l=>P (a::l)) (h a) us hl
theorem ID {α:Type} {P:List α->Prop} (h:∀ a0 a1 a2 a3 a4,P [a0,a1,a2,a3,a4]):∀ us:List α,us.length=5->P us:=A7 λ a us hl=>Fl (P:=λ l=>P (a::l)) (h a) us hl
theorem Jx {α:Type} {P:List α->Prop} (h:∀ a0 a1 a2 a3 a4 a5,P [a0,a1,a2,a3,a4,a5]):∀ us:List α,us.length=6->P us:=A7 λ a us hl=>ID (P:=λ l=>P (a::l)) (h a) us hl
theorem HG {α:Type} {P:List α->Prop} (h:∀ a0 a1 a2 a3 a4 a5 a6,P [a0,a1,a2,a3,a4,a5,a6]):∀ us:List α,us.length=7->P us:=A7 λ a us hl=>Jx (P:=λ l=>P (a::l)) (h a) us hl
set_option maxHeartbeats 0 in
theorem all_mk {l:PySem.W.OpenLaw} {w:World} {K:Frag} {h:Heap} {mg:Str->Option Value} {fa:Addr} (X:K.In h) (G:h.Ns mainGlobals mg) (hfa:mg "law" = some (.ref fa)) {c_Walk:Addr} {c_Frame:Addr} {c_Story:Addr} {c_Goer:Addr} {c_Nought:Addr} {c_Outside:Addr} {f3:Addr} {od3 an3:Option Addr} {sl3:Array (Option Value)} {oc3 kV3 dc3 pm3 cd3 ct3:Value} {f4:Addr} {od4 an4:Option Addr} {sl4:Array (Option Value)} {oc4 kV4 dc4 pm4 cd4 ct4:Value} {f5:Addr} {od5 an5:Option Addr} {sl5:Array (Option Value)} {oc5 kV5 dc5 pm5 cd5 ct5:Value} {f6:Addr} {od6 an6:Option Addr} {sl6:Array (Option Value)} {oc6 kV6 dc6 pm6 cd6 ct6:Value} {f7:Addr} {od7 an7:Option Addr} {sl7:Array (Option Value)} {oc7 kV7 dc7 pm7 cd7 ct7:Value} {f8:Addr} {od8 an8:Option Addr} {sl8:Array (Option Value)} {oc8 kV8 dc8 pm8 cd8 ct8:Value} {f9:Addr} {od9 an9:Option Addr} {sl9:Array (Option Value)} {oc9 kV9 dc9 pm9 cd9 ct9:Value} {f10:Addr} {od10 an10:Option Addr} {sl10:Array (Option Value)} {oc10 kV10 dc10 pm10 cd10 ct10:Value} {f11:Addr} {od11 an11:Option Addr} {sl11:Array (Option Value)} {oc11 kV11 dc11 pm11 cd11 ct11:Value} {f12:Addr} {od12 an12:Option Addr} {sl12:Array (Option Value)} {oc12 kV12 dc12 pm12 cd12 ct12:Value} {f13:Addr} {od13 an13:Option Addr} {sl13:Array (Option Value)} {oc13 kV13 dc13 pm13 cd13 ct13:Value} {f14:Addr} {od14 an14:Option Addr} {sl14:Array (Option Value)} {oc14 kV14 dc14 pm14 cd14 ct14:Value} {f15:Addr} {od15 an15:Option Addr} {sl15:Array (Option Value)} {oc15 kV15 dc15 pm15 cd15 ct15:Value} {f16:Addr} {od16 an16:Option Addr} {sl16:Array (Option Value)} {oc16 kV16 dc16 pm16 cd16 ct16:Value} {f17:Addr} {od17 an17:Option Addr} {sl17:Array (Option Value)} {oc17 kV17 dc17 pm17 cd17 ct17:Value} {f18:Addr} {od18 an18:Option Addr} {sl18:Array (Option Value)} {oc18 kV18 dc18 pm18 cd18 ct18:Value} {f19:Addr} {od19 an19:Option Addr} {sl19:Array (Option Value)} {oc19 kV19 dc19 pm19 cd19 ct19:Value} {f20:Addr} {od20 an20:Option Addr} {sl20:Array (Option Value)} {oc20 kV20 dc20 pm20 cd20 ct20:Value} {f21:Addr} {od21 an21:Option Addr} {sl21:Array (Option Value)} {oc21 kV21 dc21 pm21 cd21 ct21:Value} {f22:Addr} {od22 an22:Option Addr} {sl22:Array (Option Value)} {oc22 kV22 dc22 pm22 cd22 ct22:Value} {f23:Addr} {od23 an23:Option Addr} {sl23:Array (Option Value)} {oc23 kV23 dc23 pm23 cd23 ct23:Value} {tL:Tok} {a_SIGNS:Addr} {o_SIGNS:Obj} {tS:Tok}
 (mm_Walk:PySem.W.nsIn K mainGlobals "Walk" = some (some (.ref c_Walk)))
 (mm_Frame:PySem.W.nsIn K mainGlobals "Frame" = some (some (.ref c_Frame)))
 (mm_Story:PySem.W.nsIn K mainGlobals "Story" = some (some (.ref c_Story)))
 (mm_Goer:PySem.W.nsIn K mainGlobals "Goer" = some (some (.ref c_Goer)))
 (mm_Nought:PySem.W.nsIn K mainGlobals "Nought" = some (some (.ref c_Nought)))
 (mm_Outside:PySem.W.nsIn K mainGlobals "Outside" = some (some (.ref c_Outside)))
 (ex_Nought:XClE K c_Nought)
 (ex_Outside:XClE K c_Outside)
 (xm1:PySem.W.exmOne K (.ref c_Nought) (.ref c_Nought)=some true)
 (xm2:PySem.W.exmOne K (.ref c_Outside) (.ref c_Nought)=some false)
 (xm3:PySem.W.exmOne K (.ref c_Outside) (.ref c_Outside)=some true)
 (a0:An K "wrapped" nk .none)
 (a1:An K "unwrapped" kf .none)
 (a2:An K "worked" p9 .none)
 (a3:PySem.W.findIn K (.ref c_Walk) "__init__" = some (some (.ref f3)))
 (ifn3:PySem.W.isFn K (.ref f3)=true)
 (l3:K.lookup f3=some ⟨oc3,od3,.func (PySem.W.fnOf "__init__" "Walk.__init__" (aX cz) (aM cz) (au cz) .none kV3 dc3 pm3 an3 cd3 ct3),sl3⟩)
 (c3:PySem.W.codeIn K cd3 "Walk.__init__" = true)
 (k3:PySem.W.keepIn K (.ref f3)=true)
 (a4:PySem.W.findIn K (.ref c_Walk) "is_over" = some (some (.ref f4)))
 (ifn4:PySem.W.isFn K (.ref f4)=true)
 (l4:K.lookup f4=some ⟨oc4,od4,.func (PySem.W.fnOf "is_over" "Walk.is_over" (aX cW) (aM cW) (au cW) .none kV4 dc4 pm4 an4 cd4 ct4),sl4⟩)
 (c4:PySem.W.codeIn K cd4 "Walk.is_over" = true)
 (k4:PySem.W.keepIn K (.ref f4)=true)
 (a5:PySem.W.findIn K (.ref c_Walk) "before" = some (some (.ref f5)))
 (ifn5:PySem.W.isFn K (.ref f5)=true)
 (l5:K.lookup f5=some ⟨oc5,od5,.func (PySem.W.fnOf "before" "Walk.before" (aX dy) (aM dy) (au dy) .none kV5 dc5 pm5 an5 cd5 ct5),sl5⟩)
 (c5:PySem.W.codeIn K cd5 "Walk.before" = true)
 (k5:PySem.W.keepIn K (.ref f5)=true)
 (a6:PySem.W.findIn K (.ref c_Walk) "taken" = some (some (.ref f6)))
 (ifn6:PySem.W.isFn K (.ref f6)=true)
 (l6:K.lookup f6=some ⟨oc6,od6,.func (PySem.W.fnOf "taken" "Walk.taken" (aX dM) (aM dM) (au dM) .none kV6 dc6 pm6 an6 cd6 ct6),sl6⟩)
 (c6:PySem.W.codeIn K cd6 "Walk.taken" = true)
 (k6:PySem.W.keepIn K (.ref f6)=true)
 (a7:PySem.W.findIn K (.ref c_Frame) "__init__" = some (some (.ref f7)))
 (ifn7:PySem.W.isFn K (.ref f7)=true)
 (l7:K.lookup f7=some ⟨oc7,od7,.func (PySem.W.fnOf "__init__" "Frame.__init__" (aX cf) (aM cf) (au cf) .none kV7 dc7 pm7 an7 cd7 ct7),sl7⟩)
 (c7:PySem.W.codeIn K cd7 "Frame.__init__" = true)
 (k7:PySem.W.keepIn K (.ref f7)=true)
 (a8:PySem.W.findIn K (.ref c_Frame) "statement" = some (some (.ref f8)))
 (ifn8:PySem.W.isFn K (.ref f8)=true)
 (l8:K.lookup f8=some ⟨oc8,od8,.func (PySem.W.fnOf "statement" "Frame.statement" (aX bP) (aM bP) (au bP) .none kV8 dc8 pm8 an8 cd8 ct8),sl8⟩)
 (c8:PySem.W.codeIn K cd8 "Frame.statement" = true)
 (k8:PySem.W.keepIn K (.ref f8)=true)
 (a9:PySem.W.findIn K (.ref c_Frame) "pass_by" = some (some (.ref f9)))
 (ifn9:PySem.W.isFn K (.ref f9)=true)
 (l9:K.lookup f9=some ⟨oc9,od9,.func (PySem.W.fnOf "pass_by" "Frame.pass_by" (aX cw) (aM cw) (au cw) .none kV9 dc9 pm9 an9 cd9 ct9),sl9⟩)
 (c9:PySem.W.codeIn K cd9 "Frame.pass_by" = true)
 (k9:PySem.W.keepIn K (.ref f9)=true)
 (a10:PySem.W.findIn K (.ref c_Story) "__init__" = some (some (.ref f10)))
 (ifn10:PySem.W.isFn K (.ref f10)=true)
 (l10:K.lookup f10=some ⟨oc10,od10,.func (PySem.W.fnOf "__init__" "Story.__init__" (aX ci) (aM ci) (au ci) .none kV10 dc10 pm10 an10 cd10 ct10),sl10⟩)
 (c10:PySem.W.codeIn K cd10 "Story.__init__" = true)
 (k10:PySem.W.keepIn K (.ref f10)=true)
 (a11:PySem.W.findIn K (.ref c_Story) "begin_phase" = some (some (.ref f11)))
 (ifn11:PySem.W.isFn K (.ref f11)=true)
 (l11:K.lookup f11=some ⟨oc11,od11,.func (PySem.W.fnOf "begin_phase" "Story.begin_phase" (aX bG) (aM bG) (au bG) .none kV11 dc11 pm11 an11 cd11 ct11),sl11⟩)
 (c11:PySem.W.codeIn K cd11 "Story.begin_phase" = true)
 (k11:PySem.W.keepIn K (.ref f11)=true)
 (a12:PySem.W.findIn K (.ref c_Story) "add_step" = some (some (.ref f12)))
 (ifn12:PySem.W.isFn K (.ref f12)=true)
 (l12:K.lookup f12=some ⟨oc12,od12,.func (PySem.W.fnOf "add_step" "Story.add_step" (aX bZ) (aM bZ) (au bZ) .none kV12 dc12 pm12 an12 cd12 ct12),sl12⟩)
 (c12:PySem.W.codeIn K cd12 "Story.add_step" = true)
 (k12:PySem.W.keepIn K (.ref f12)=true)
 (a13:PySem.W.findIn K (.ref c_Story) "add_touch" = some (some (.ref f13)))
 (ifn13:PySem.W.isFn K (.ref f13)=true)
 (l13:K.lookup f13=some ⟨oc13,od13,.func (PySem.W.fnOf "add_touch" "Story.add_touch" (aX bQ) (aM bQ) (au bQ) .none kV13 dc13 pm13 an13 cd13 ct13),sl13⟩)
 (c13:PySem.W.codeIn K cd13 "Story.add_touch" = true)
 (k13:PySem.W.keepIn K (.ref f13)=true)
 (a14:PySem.W.findIn K (.ref c_Story) "finish" = some (some (.ref f14)))
 (ifn14:PySem.W.isFn K (.ref f14)=true)
 (l14:K.lookup f14=some ⟨oc14,od14,.func (PySem.W.fnOf "finish" "Story.finish" (aX cV) (aM cV) (au cV) .none kV14 dc14 pm14 an14 cd14 ct14),sl14⟩)
 (c14:PySem.W.codeIn K cd14 "Story.finish" = true)
 (k14:PySem.W.keepIn K (.ref f14)=true)
 (a15:PySem.W.findIn K (.ref c_Goer) "__init__" = some (some (.ref f15)))
 (ifn15:PySem.W.isFn K (.ref f15)=true)
 (l15:K.lookup f15=some ⟨oc15,od15,.func (PySem.W.fnOf "__init__" "Goer.__init__" (aX cx) (aM cx) (au cx) .none kV15 dc15 pm15 an15 cd15 ct15),sl15⟩)
 (c15:PySem.W.codeIn K cd15 "Goer.__init__" = true)
 (k15:PySem.W.keepIn K (.ref f15)=true)
 (a16:PySem.W.findIn K (.ref c_Goer) "touch" = some (some (.ref f16)))
 (ifn16:PySem.W.isFn K (.ref f16)=true)
 (l16:K.lookup f16=some ⟨oc16,od16,.func (PySem.W.fnOf "touch" "Goer.touch" (aX dR) (aM dR) (au dR) .none kV16 dc16 pm16 an16 cd16 ct16),sl16⟩)
 (c16:PySem.W.codeIn K cd16 "Goer.touch" = true)
 (k16:PySem.W.keepIn K (.ref f16)=true)
 (a17:PySem.W.findIn K (.ref c_Goer) "got" = some (some (.ref f17)))
 (ifn17:PySem.W.isFn K (.ref f17)=true)
 (l17:K.lookup f17=some ⟨oc17,od17,.func (PySem.W.fnOf "got" "Goer.got" (aX fg) (aM fg) (au fg) .none kV17 dc17 pm17 an17 cd17 ct17),sl17⟩)
 (c17:PySem.W.codeIn K cd17 "Goer.got" = true)
 (k17:PySem.W.keepIn K (.ref f17)=true)
 (a18:PySem.W.findIn K (.ref c_Goer) "reckoned" = some (some (.ref f18)))
 (ifn18:PySem.W.isFn K (.ref f18)=true)
 (l18:K.lookup f18=some ⟨oc18,od18,.func (PySem.W.fnOf "reckoned" "Goer.reckoned" (aX cB) (aM cB) (au cB) .none kV18 dc18 pm18 an18 cd18 ct18),sl18⟩)
 (c18:PySem.W.codeIn K cd18 "Goer.reckoned" = true)
 (k18:PySem.W.keepIn K (.ref f18)=true)
 (a19:PySem.W.findIn K (.ref c_Goer) "give" = some (some (.ref f19)))
 (ifn19:PySem.W.isFn K (.ref f19)=true)
 (l19:K.lookup f19=some ⟨oc19,od19,.func (PySem.W.fnOf "give" "Goer.give" (aX eM) (aM eM) (au eM) .none kV19 dc19 pm19 an19 cd19 ct19),sl19⟩)
 (c19:PySem.W.codeIn K cd19 "Goer.give" = true)
 (k19:PySem.W.keepIn K (.ref f19)=true)
 (a20:PySem.W.findIn K (.ref c_Goer) "do" = some (some (.ref f20)))
 (ifn20:PySem.W.isFn K (.ref f20)=true)
 (l20:K.lookup f20=some ⟨oc20,od20,.func (PySem.W.fnOf "do" "Goer.do" (aX gv) (aM gv) (au gv) .none kV20 dc20 pm20 an20 cd20 ct20),sl20⟩)
 (c20:PySem.W.codeIn K cd20 "Goer.do" = true)
 (k20:PySem.W.keepIn K (.ref f20)=true)
 (a21:PySem.W.findIn K (.ref c_Goer) "step" = some (some (.ref f21)))
 (ifn21:PySem.W.isFn K (.ref f21)=true)
 (l21:K.lookup f21=some ⟨oc21,od21,.func (PySem.W.fnOf "step" "Goer.step" (aX eN) (aM eN) (au eN) .none kV21 dc21 pm21 an21 cd21 ct21),sl21⟩)
 (c21:PySem.W.codeIn K cd21 "Goer.step" = true)
 (k21:PySem.W.keepIn K (.ref f21)=true)
 (a22:PySem.W.findIn K (.ref c_Goer) "end_def" = some (some (.ref f22)))
 (ifn22:PySem.W.isFn K (.ref f22)=true)
 (l22:K.lookup f22=some ⟨oc22,od22,.func (PySem.W.fnOf "end_def" "Goer.end_def" (aX cQ) (aM cQ) (au cQ) .none kV22 dc22 pm22 an22 cd22 ct22),sl22⟩)
 (c22:PySem.W.codeIn K cd22 "Goer.end_def" = true)
 (k22:PySem.W.keepIn K (.ref f22)=true)
 (a23:PySem.W.findIn K (.ref c_Goer) "go" = some (some (.ref f23)))
 (ifn23:PySem.W.isFn K (.ref f23)=true)
 (l23:K.lookup f23=some ⟨oc23,od23,.func (PySem.W.fnOf "go" "Goer.go" (aX gt) (aM gt) (au gt) .none kV23 dc23 pm23 an23 cd23 ct23),sl23⟩)
 (c23:PySem.W.codeIn K cd23 "Goer.go" = true)
 (k23:PySem.W.keepIn K (.ref f23)=true)
 (a24:An K "alone" rS .none)
 (a25:An K "_law_cell" kg .none)
 (a26:An K "_law_mixed" js .none)
 (a27:An K "_law_all_whole" gj .none)
 (a28:An K "_law_into_range" fK .none)
 (a29:An K "_law_result" iI .none)
 (a30:An K "_law_name" km .none)
 (a31:An K "_law_of_box" iM .none)
 (a32:An K "_law_of_two" iL .none)
 (a33:An K "_law_built" jp .none)
 (a34:An K "_law_main" kb .none)
 (a35:An K "_law_holds" j9 .none)
 (a36:An K "law" pX .none)
 (pg_Walk:PySem.W.plainGet K c_Walk Str.empty=true)
 (hd_Walk:PySem.W.hasDictIn K c_Walk=true)
 (po_Walk:PySem.W.plainOver K c_Walk=true)
 (sa_Walk:PySem.W.findIn K (.ref c_Walk) "__setattr__" = some (some (.builtin "object.__setattr__")))
 (mk_Walk:PySem.W.makesIn K c_Walk=true)
 (kc_Walk:PySem.W.keepIn K (.ref c_Walk)=true)
 (nn_Walk_row:PySem.W.findIn K (.ref c_Walk) "row" = some none)
 (nn_Walk_at:PySem.W.findIn K (.ref c_Walk) "at" = some none)
 (pg_Frame:PySem.W.plainGet K c_Frame Str.empty=true)
 (hd_Frame:PySem.W.hasDictIn K c_Frame=true)
 (po_Frame:PySem.W.plainOver K c_Frame=true)
 (sa_Frame:PySem.W.findIn K (.ref c_Frame) "__setattr__" = some (some (.builtin "object.__setattr__")))
 (mk_Frame:PySem.W.makesIn K c_Frame=true)
 (kc_Frame:PySem.W.keepIn K (.ref c_Frame)=true)
 (nn_Frame_names:PySem.W.findIn K (.ref c_Frame) "names" = some none)
 (nn_Frame_given:PySem.W.findIn K (.ref c_Frame) "given" = some none)
 (nn_Frame_walks:PySem.W.findIn K (.ref c_Frame) "walks" = some none)
 (nn_Frame_loops:PySem.W.findIn K (.ref c_Frame) "loops" = some none)
 (pg_Story:PySem.W.plainGet K c_Story Str.empty=true)
 (hd_Story:PySem.W.hasDictIn K c_Story=true)
 (po_Story:PySem.W.plainOver K c_Story=true)
 (sa_Story:PySem.W.findIn K (.ref c_Story) "__setattr__" = some (some (.builtin "object.__setattr__")))
 (mk_Story:PySem.W.makesIn K c_Story=true)
 (kc_Story:PySem.W.keepIn K (.ref c_Story)=true)
 (nn_Story_told:PySem.W.findIn K (.ref c_Story) "told" = some none)
 (nn_Story_steps:PySem.W.findIn K (.ref c_Story) "steps" = some none)
 (nn_Story_end:PySem.W.findIn K (.ref c_Story) "end" = some none)
 (nn_Story_brought:PySem.W.findIn K (.ref c_Story) "brought" = some none)
 (nn_Story_touches:PySem.W.findIn K (.ref c_Story) "touches" = some none)
 (nn_Story_puts:PySem.W.findIn K (.ref c_Story) "puts" = some none)
 (nn_Story_lines:PySem.W.findIn K (.ref c_Story) "lines" = some none)
 (pg_Goer:PySem.W.plainGet K c_Goer Str.empty=true)
 (hd_Goer:PySem.W.hasDictIn K c_Goer=true)
 (po_Goer:PySem.W.plainOver K c_Goer=true)
 (sa_Goer:PySem.W.findIn K (.ref c_Goer) "__setattr__" = some (some (.builtin "object.__setattr__")))
 (mk_Goer:PySem.W.makesIn K c_Goer=true)
 (kc_Goer:PySem.W.keepIn K (.ref c_Goer)=true)
 (nn_Goer_defs:PySem.W.findIn K (.ref c_Goer) "defs" = some none)
 (nn_Goer_lane:PySem.W.findIn K (.ref c_Goer) "lane" = some none)
 (nn_Goer_signs:PySem.W.findIn K (.ref c_Goer) "signs" = some none)
 (nn_Goer_boxes:PySem.W.findIn K (.ref c_Goer) "boxes" = some none)
 (nn_Goer_most:PySem.W.findIn K (.ref c_Goer) "most" = some none)
 (nn_Goer_frames:PySem.W.findIn K (.ref c_Goer) "frames" = some none)
 (nn_Goer_line:PySem.W.findIn K (.ref c_Goer) "line" = some none)
 (nn_Goer_meeting:PySem.W.findIn K (.ref c_Goer) "meeting" = some none)
 (nn_Goer_story:PySem.W.findIn K (.ref c_Goer) "story" = some none)
 (zz_bool:PySem.W.nsIn K mainGlobals "bool" = some none)
 (zz_int:PySem.W.nsIn K mainGlobals "int" = some none)
 (zz_isinstance:PySem.W.nsIn K mainGlobals "isinstance" = some none)
 (zz_len:PySem.W.nsIn K mainGlobals "len" = some none)
 (zz_list:PySem.W.nsIn K mainGlobals "list" = some none)
 (zz_max:PySem.W.nsIn K mainGlobals "max" = some none)
 (zz_range:PySem.W.nsIn K mainGlobals "range" = some none)
 (zz_repr:PySem.W.nsIn K mainGlobals "repr" = some none)
 (zz_zip:PySem.W.nsIn K mainGlobals "zip" = some none)
 (mm_LEAST:PySem.W.nsIn K mainGlobals "LEAST" = some (some (.int (-2147483648) tL)))
 (mm_SIGNS:PySem.W.nsIn K mainGlobals "SIGNS" = some (some (.ref a_SIGNS)))
 (lk_SIGNS:K.lookup a_SIGNS=some o_SIGNS)
 (lc_SIGNS:o_SIGNS.cls=.type "tuple")
 (lt_SIGNS:rc o_SIGNS [(Str.ofString "lane"),(Str.ofString "lanes"),(Str.ofString "mine")]=true)
 (mm_SPAN:PySem.W.nsIn K mainGlobals "SPAN" = some (some (.int 4294967296 tS))):
 ∃ fd:FuncData,(∀ (s:Shared) (v:Value),BindsTo s fd ⟨[v],[]⟩ [("_law_script", v)])/\∀ base:Heap,K.In base->base.Ns mainGlobals mg->dU l.prog w K mg base rG 17 fa fd ["_law_script"] (nS K):=by
 have m_Walk:mg "Walk" = some (.ref ((bI c_Walk c_Frame c_Story c_Goer c_Nought c_Outside) "Walk")):=by rw [eL];exact PySem.W.mg_of X G mm_Walk
 have m_Frame:mg "Frame" = some (.ref ((bI c_Walk c_Frame c_Story c_Goer c_Nought c_Outside) "Frame")):=by rw [df];exact PySem.W.mg_of X G mm_Frame
 have m_Story:mg "Story" = some (.ref ((bI c_Walk c_Frame c_Story c_Goer c_Nought c_Outside) "Story")):=by rw [bC];exact PySem.W.mg_of X G mm_Story
 have m_Goer:mg "Goer" = some (.ref ((bI c_Walk c_Frame c_Story c_Goer c_Nought c_Outside) "Goer")):=by rw [bj];exact PySem.W.mg_of X G mm_Goer
 have m_Nought:mg "Nought" = some (.ref ((bI c_Walk c_Frame c_Story c_Goer c_Nought c_Outside) "Nought")):=by rw [iV];exact PySem.W.mg_of X G mm_Nought
 have m_Outside:mg "Outside" = some (.ref ((bI c_Walk c_Frame c_Story c_Goer c_Nought c_Outside) "Outside")):=by rw [ic];exact PySem.W.mg_of X G mm_Outside
 have x_Nought:XClE K ((bI c_Walk c_Frame c_Story c_Goer c_Nought c_Outside) "Nought"):=by rw [iV];exact ex_Nought
 have x_Outside:XClE K ((bI c_Walk c_Frame c_Story c_Goer c_Nought c_Outside) "Outside"):=by rw [ic];exact ex_Outside
 have xm:By K ((bI c_Walk c_Frame c_Story c_Goer c_Nought c_Outside) "Nought") ((bI c_Walk c_Frame c_Story c_Goer c_Nought c_Outside) "Outside"):=by rw [iV,ic];exact ⟨xm1,xm2,xm3⟩
 have b_Walk___init__:=(bN (st:=cz) l3 c3 k3).binds (ps:=["self", "row"]) (λ _ _ _ _ _ _=>tG λ _ _=>rfl)
 have b_Walk_is_over:=(bN (st:=cW) l4 c4 k4).binds (ps:=["self"]) (λ _ _ _ _ _ _=>sV λ _=>rfl)
 have mt_Walk_is_over:bt K ((bI c_Walk c_Frame c_Story c_Goer c_Nought c_Outside) "Walk") "is_over" f4:=by rw [eL];exact ⟨a4,ifn4,k4⟩
 have b_Walk_before:=(bN (st:=dy) l5 c5 k5).binds (ps:=["self"]) (λ _ _ _ _ _ _=>sV λ _=>rfl)
 have mt_Walk_before:bt K ((bI c_Walk c_Frame c_Story c_Goer c_Nought c_Outside) "Walk") "before" f5:=by rw [eL];exact ⟨a5,ifn5,k5⟩
 have b_Walk_taken:=(bN (st:=dM) l6 c6 k6).binds (ps:=["self"]) (λ _ _ _ _ _ _=>sV λ _=>rfl)
 have mt_Walk_taken:bt K ((bI c_Walk c_Frame c_Story c_Goer c_Nought c_Outside) "Walk") "taken" f6:=by rw [eL];exact ⟨a6,ifn6,k6⟩
 have b_Frame___init__:=(bN (st:=cf) l7 c7 k7).binds (ps:=["self", "body", "names", "given"]) (λ _ _ _ _ _ _=>Fl λ _ _ _ _=>rfl)
 have b_Frame_statement:=(bN (st:=bP) l8 c8 k8).binds (ps:=["self"]) (λ _ _ _ _ _ _=>sV λ _=>rfl)
 have mt_Frame_statement:bt K ((bI c_Walk c_Frame c_Story c_Goer c_Nought c_Outside) "Frame") "statement" f8:=by rw [df];exact ⟨a8,ifn8,k8⟩
 have b_Frame_pass_by:=(bN (st:=cw) l9 c9 k9).binds (ps:=["self"]) (λ _ _ _ _ _ _=>sV λ _=>rfl)
 have mt_Frame_pass_by:bt K ((bI c_Walk c_Frame c_Story c_Goer c_Nought c_Outside) "Frame") "pass_by" f9:=by rw [df];exact ⟨a9,ifn9,k9⟩
 have b_Story___init__:=(bN (st:=ci) l10 c10 k10).binds (ps:=["self"]) (λ _ _ _ _ _ _=>sV λ _=>rfl)
 have b_Story_begin_phase:=(bN (st:=bG) l11 c11 k11).binds (ps:=["self"]) (λ _ _ _ _ _ _=>sV λ _=>rfl)
 have mt_Story_begin_phase:bt K ((bI c_Walk c_Frame c_Story c_Goer c_Nought c_Outside) "Story") "begin_phase" f11:=by rw [bC];exact ⟨a11,ifn11,k11⟩
 have b_Story_add_step:=(bN (st:=bZ) l12 c12 k12).binds (ps:=["self", "line"]) (λ _ _ _ _ _ _=>tG λ _ _=>rfl)
 have mt_Story_add_step:bt K ((bI c_Walk c_Frame c_Story c_Goer c_Nought c_Outside) "Story") "add_step" f12:=by rw [bC];exact ⟨a12,ifn12,k12⟩
 have b_Story_add_touch:=(bN (st:=bQ) l13 c13 k13).binds (ps:=["self", "word", "place", "line"]) (λ _ _ _ _ _ _=>Fl λ _ _ _ _=>rfl)
 have mt_Story_add_touch:bt K ((bI c_Walk c_Frame c_Story c_Goer c_Nought c_Outside) "Story") "add_touch" f13:=by rw [bC];exact ⟨a13,ifn13,k13⟩
 have b_Story_finish:=(bN (st:=cV) l14 c14 k14).binds (ps:=["self", "word", "line"]) (λ _ _ _ _ _ _=>y9 λ _ _ _=>rfl)
 have mt_Story_finish:bt K ((bI c_Walk c_Frame c_Story c_Goer c_Nought c_Outside) "Story") "finish" f14:=by rw [bC];exact ⟨a14,ifn14,k14⟩
 have b_Goer___init__:=(bN (st:=cx) l15 c15 k15).binds (ps:=["self", "program", "lane", "lanes", "mine", "boxes", "most"]) (λ _ _ _ _ _ _=>HG λ _ _ _ _ _ _ _=>rfl)
 have b_Goer_touch:=(bN (st:=dR) l16 c16 k16).binds (ps:=["self", "word", "place"]) (λ _ _ _ _ _ _=>y9 λ _ _ _=>rfl)
 have mt_Goer_touch:bt K ((bI c_Walk c_Frame c_Story c_Goer c_Nought c_Outside) "Goer") "touch" f16:=by rw [bj];exact ⟨a16,ifn16,k16⟩
 have b_Goer_got:=(bN (st:=fg) l17 c17 k17).binds (ps:=["self", "place"]) (λ _ _ _ _ _ _=>tG λ _ _=>rfl)
 have mt_Goer_got:bt K ((bI c_Walk c_Frame c_Story c_Goer c_Nought c_Outside) "Goer") "got" f17:=by rw [bj];exact ⟨a17,ifn17,k17⟩
 have b_Goer_reckoned:=(bN (st:=cB) l18 c18 k18).binds (ps:=["self", "expression"]) (λ _ _ _ _ _ _=>tG λ _ _=>rfl)
 have mt_Goer_reckoned:bt K ((bI c_Walk c_Frame c_Story c_Goer c_Nought c_Outside) "Goer") "reckoned" f18:=by rw [bj];exact ⟨a18,ifn18,k18⟩
 have b_Goer_give:=(bN (st:=eM) l19 c19 k19).binds (ps:=["self", "name", "number"]) (λ _ _ _ _ _ _=>y9 λ _ _ _=>rfl)
 have mt_Goer_give:bt K ((bI c_Walk c_Frame c_Story c_Goer c_Nought c_Outside) "Goer") "give" f19:=by rw [bj];exact ⟨a19,ifn19,k19⟩
 have b_Goer_do:=(bN (st:=gv) l20 c20 k20).binds (ps:=["self", "statement"]) (λ _ _ _ _ _ _=>tG λ _ _=>rfl)
 have mt_Goer_do:bt K ((bI c_Walk c_Frame c_Story c_Goer c_Nought c_Outside) "Goer") "do" f20:=by rw [bj];exact ⟨a20,ifn20,k20⟩
 have b_Goer_step:=(bN (st:=eN) l21 c21 k21).binds (ps:=["self", "statement"]) (λ _ _ _ _ _ _=>tG λ _ _=>rfl)
 have mt_Goer_step:bt K ((bI c_Walk c_Frame c_Story c_Goer c_Nought c_Outside) "Goer") "step" f21:=by rw [bj];exact ⟨a21,ifn21,k21⟩
 have b_Goer_end_def:=(bN (st:=cQ) l22 c22 k22).binds (ps:=["self"]) (λ _ _ _ _ _ _=>sV λ _=>rfl)
 have mt_Goer_end_def:bt K ((bI c_Walk c_Frame c_Story c_Goer c_Nought c_Outside) "Goer") "end_def" f22:=by rw [bj];exact ⟨a22,ifn22,k22⟩
 have b_Goer_go:=(bN (st:=gt) l23 c23 k23).binds (ps:=["self"]) (λ _ _ _ _ _ _=>sV λ _=>rfl)
 have mt_Goer_go:bt K ((bI c_Walk c_Frame c_Story c_Goer c_Nought c_Outside) "Goer") "go" f23:=by rw [bj];exact ⟨a23,ifn23,k23⟩
 have cl_Walk:dY K ((bI c_Walk c_Frame c_Story c_Goer c_Nought c_Outside) "Walk"):=by rw [eL];exact ⟨pg_Walk,hd_Walk,po_Walk,sa_Walk⟩
 have n_Walk_row:ae K ((bI c_Walk c_Frame c_Story c_Goer c_Nought c_Outside) "Walk") "row" := by rw [eL];exact nn_Walk_row
 have n_Walk_at:ae K ((bI c_Walk c_Frame c_Story c_Goer c_Nought c_Outside) "Walk") "at" := by rw [eL];exact nn_Walk_at
 have M_Walk:Mk K ((bI c_Walk c_Frame c_Story c_Goer c_Nought c_Outside) "Walk") f3:=by rw [eL];exact ⟨mk_Walk,a3,ifn3,kc_Walk⟩
 have cl_Frame:dY K ((bI c_Walk c_Frame c_Story c_Goer c_Nought c_Outside) "Frame"):=by rw [df];exact ⟨pg_Frame,hd_Frame,po_Frame,sa_Frame⟩
 have n_Frame_names:ae K ((bI c_Walk c_Frame c_Story c_Goer c_Nought c_Outside) "Frame") "names" := by rw [df];exact nn_Frame_names
 have n_Frame_given:ae K ((bI c_Walk c_Frame c_Story c_Goer c_Nought c_Outside) "Frame") "given" := by rw [df];exact nn_Frame_given
 have n_Frame_walks:ae K ((bI c_Walk c_Frame c_Story c_Goer c_Nought c_Outside) "Frame") "walks" := by rw [df];exact nn_Frame_walks
 have n_Frame_loops:ae K ((bI c_Walk c_Frame c_Story c_Goer c_Nought c_Outside) "Frame") "loops" := by rw [df];exact nn_Frame_loops
 have M_Frame:Mk K ((bI c_Walk c_Frame c_Story c_Goer c_Nought c_Outside) "Frame") f7:=by rw [df];exact ⟨mk_Frame,a7,ifn7,kc_Frame⟩
 have cl_Story:dY K ((bI c_Walk c_Frame c_Story c_Goer c_Nought c_Outside) "Story"):=by rw [bC];exact ⟨pg_Story,hd_Story,po_Story,sa_Story⟩
 have n_Story_told:ae K ((bI c_Walk c_Frame c_Story c_Goer c_Nought c_Outside) "Story") "told" := by rw [bC];exact nn_Story_told
 have n_Story_steps:ae K ((bI c_Walk c_Frame c_Story c_Goer c_Nought c_Outside) "Story") "steps" := by rw [bC];exact nn_Story_steps
 have n_Story_end:ae K ((bI c_Walk c_Frame c_Story c_Goer c_Nought c_Outside) "Story") "end" := by rw [bC];exact nn_Story_end
 have n_Story_brought:ae K ((bI c_Walk c_Frame c_Story c_Goer c_Nought c_Outside) "Story") "brought" := by rw [bC];exact nn_Story_brought
 have n_Story_touches:ae K ((bI c_Walk c_Frame c_Story c_Goer c_Nought c_Outside) "Story") "touches" := by rw [bC];exact nn_Story_touches
 have n_Story_puts:ae K ((bI c_Walk c_Frame c_Story c_Goer c_Nought c_Outside) "Story") "puts" := by rw [bC];exact nn_Story_puts
 have n_Story_lines:ae K ((bI c_Walk c_Frame c_Story c_Goer c_Nought c_Outside) "Story") "lines" := by rw [bC];exact nn_Story_lines
 have M_Story:Mk K ((bI c_Walk c_Frame c_Story c_Goer c_Nought c_Outside) "Story") f10:=by rw [bC];exact ⟨mk_Story,a10,ifn10,kc_Story⟩
 have cl_Goer:dY K ((bI c_Walk c_Frame c_Story c_Goer c_Nought c_Outside) "Goer"):=by rw [bj];exact ⟨pg_Goer,hd_Goer,po_Goer,sa_Goer⟩
 have n_Goer_defs:ae K ((bI c_Walk c_Frame c_Story c_Goer c_Nought c_Outside) "Goer") "defs" := by rw [bj];exact nn_Goer_defs
 have n_Goer_lane:ae K ((bI c_Walk c_Frame c_Story c_Goer c_Nought c_Outside) "Goer") "lane" := by rw [bj];exact nn_Goer_lane
 have n_Goer_signs:ae K ((bI c_Walk c_Frame c_Story c_Goer c_Nought c_Outside) "Goer") "signs" := by rw [bj];exact nn_Goer_signs
 have n_Goer_boxes:ae K ((bI c_Walk c_Frame c_Story c_Goer c_Nought c_Outside) "Goer") "boxes" := by rw [bj];exact nn_Goer_boxes
 have n_Goer_most:ae K ((bI c_Walk c_Frame c_Story c_Goer c_Nought c_Outside) "Goer") "most" := by rw [bj];exact nn_Goer_most
 have n_Goer_frames:ae K ((bI c_Walk c_Frame c_Story c_Goer c_Nought c_Outside) "Goer") "frames" := by rw [bj];exact nn_Goer_frames
 have n_Goer_line:ae K ((bI c_Walk c_Frame c_Story c_Goer c_Nought c_Outside) "Goer") "line" := by rw [bj];exact nn_Goer_line
 have n_Goer_meeting:ae K ((bI c_Walk c_Frame c_Story c_Goer c_Nought c_Outside) "Goer") "meeting" := by rw [bj];exact nn_Goer_meeting
 have n_Goer_story:ae K ((bI c_Walk c_Frame c_Story c_Goer c_Nought c_Outside) "Goer") "story" := by rw [bj];exact nn_Goer_story
 have M_Goer:Mk K ((bI c_Walk c_Frame c_Story c_Goer c_Nought c_Outside) "Goer") f15:=by rw [bj];exact ⟨mk_Goer,a15,ifn15,kc_Goer⟩
 have z_bool:=PySem.W.mg_none_of X G zz_bool
 have z_int:=PySem.W.mg_none_of X G zz_int
 have z_isinstance:=PySem.W.mg_none_of X G zz_isinstance
 have z_len:=PySem.W.mg_none_of X G zz_len
 have z_list:=PySem.W.mg_none_of X G zz_list
 have z_max:=PySem.W.mg_none_of X G zz_max
 have z_range:=PySem.W.mg_none_of X G zz_range
 have z_repr:=PySem.W.mg_none_of X G zz_repr
 have z_zip:=PySem.W.mg_none_of X G zz_zip
 have m_LEAST:=PySem.W.mg_of X G mm_LEAST
 have g_LEAST:∀ ρ G,Dw K ρ G (.int (-2147483648)) ((.int (-2147483648))):=λ ρ G=>Dw.int _
 have m_SIGNS:=PySem.W.mg_of X G mm_SIGNS
 have g_SIGNS:AV K a_SIGNS ([(Str.ofString "lane"),(Str.ofString "lanes"),(Str.ofString "mine")]):=λ _=>tM lk_SIGNS lc_SIGNS lt_SIGNS
 have m_SPAN:=PySem.W.mg_of X G mm_SPAN
 have g_SPAN:∀ ρ G,Dw K ρ G (.int 4294967296) ((.int 4294967296)):=λ ρ G=>Dw.int _
 obtain ⟨_,_,_,kV,dc,pm,an,cd,ct,_,ml,ll,cL,kL⟩:=a36
 cases hfa.symm.trans (PySem.W.mg_of X G ml)
 refine ⟨PySem.W.fnOf "law" "law" (aX pX) (aM pX) (au pX) .none kV dc pm an cd ct,λ s v=>.of_eq rfl,λ base _ _=>?_⟩
 have C_wrapped:=qA (P:=l.prog) (w:=w) (base:=base) (a0.dn X G (λ _ _ _ _ _ _=>sV λ _=>rfl)) m_LEAST g_LEAST m_SPAN g_SPAN
 have C_unwrapped:=oO (P:=l.prog) (w:=w) (base:=base) (a1.dn X G (λ _ _ _ _ _ _=>y9 λ _ _ _=>rfl))
 have C_worked:=tQ (a2.dn X G (λ _ _ _ _ _ _=>y9 λ _ _ _=>rfl)) C_wrapped C_unwrapped
 have C_Walk___init__:=jC (P:=l.prog) (w:=w) (base:=base) (cl:=(bI c_Walk c_Frame c_Story c_Goer c_Nought c_Outside)) ⟨_,_,bo l3 c3 k3,M_Walk,b_Walk___init__⟩ m_Walk cl_Walk n_Walk_row n_Walk_at
 have C_Walk_is_over:=kG (P:=l.prog) (w:=w) (base:=base) (cl:=(bI c_Walk c_Frame c_Story c_Goer c_Nought c_Outside)) ⟨_,_,bo l4 c4 k4,mt_Walk_is_over,b_Walk_is_over⟩ m_Walk cl_Walk n_Walk_row n_Walk_at z_len
 have C_Walk_before:=lY (P:=l.prog) (w:=w) (base:=base) (cl:=(bI c_Walk c_Frame c_Story c_Goer c_Nought c_Outside)) ⟨_,_,bo l5 c5 k5,mt_Walk_before,b_Walk_before⟩ m_Walk cl_Walk n_Walk_row n_Walk_at
 have C_Walk_taken:=my (P:=l.prog) (w:=w) (base:=base) (cl:=(bI c_Walk c_Frame c_Story c_Goer c_Nought c_Outside)) ⟨_,_,bo l6 c6 k6,mt_Walk_taken,b_Walk_taken⟩ m_Walk cl_Walk n_Walk_row n_Walk_at
 have C_Frame___init__:=j7 (cl:=(bI c_Walk c_Frame c_Story c_Goer c_Nought c_Outside)) ⟨_,_,bo l7 c7 k7,M_Frame,b_Frame___init__⟩ C_Walk___init__ m_Frame cl_Frame n_Frame_names n_Frame_given n_Frame_walks n_Frame_loops m_Walk cl_Walk n_Walk_row n_Walk_at
 have C_Frame_statement:=jf (cl:=(bI c_Walk c_Frame c_Story c_Goer c_Nought c_Outside)) ⟨_,_,bo l8 c8 k8,mt_Frame_statement,b_Frame_statement⟩ C_Walk_is_over C_Walk_before m_Frame cl_Frame n_Frame_names n_Frame_given n_Frame_walks n_Frame_loops m_Walk cl_Walk n_Walk_row n_Walk_at z_len
 have C_Frame_pass_by:=jF (cl:=(bI c_Walk c_Frame c_Story c_Goer c_Nought c_Outside)) ⟨_,_,bo l9 c9 k9,mt_Frame_pass_by,b_Frame_pass_by⟩ C_Walk_taken m_Frame cl_Frame n_Frame_names n_Frame_given n_Frame_walks n_Frame_loops m_Walk cl_Walk n_Walk_row n_Walk_at
 have C_Story___init__:=jv (P:=l.prog) (w:=w) (base:=base) (cl:=(bI c_Walk c_Frame c_Story c_Goer c_Nought c_Outside)) ⟨_,_,bo l10 c10 k10,M_Story,b_Story___init__⟩ m_Story cl_Story n_Story_told n_Story_steps n_Story_end n_Story_brought n_Story_touches n_Story_puts n_Story_lines
 have C_Story_begin_phase:=ig (P:=l.prog) (w:=w) (base:=base) (cl:=(bI c_Walk c_Frame c_Story c_Goer c_Nought c_Outside)) ⟨_,_,bo l11 c11 k11,mt_Story_begin_phase,b_Story_begin_phase⟩ m_Story cl_Story n_Story_told n_Story_steps n_Story_end n_Story_brought n_Story_touches n_Story_puts n_Story_lines
 have C_Story_add_step:=jw (P:=l.prog) (w:=w) (base:=base) (cl:=(bI c_Walk c_Frame c_Story c_Goer c_Nought c_Outside)) ⟨_,_,bo l12 c12 k12,mt_Story_add_step,b_Story_add_step⟩ m_Story cl_Story n_Story_told n_Story_steps n_Story_end n_Story_brought n_Story_touches n_Story_puts n_Story_lines
 have C_Story_add_touch:=jd (P:=l.prog) (w:=w) (base:=base) (cl:=(bI c_Walk c_Frame c_Story c_Goer c_Nought c_Outside)) ⟨_,_,bo l13 c13 k13,mt_Story_add_touch,b_Story_add_touch⟩ m_Story cl_Story n_Story_told n_Story_steps n_Story_end n_Story_brought n_Story_touches n_Story_puts n_Story_lines
 have N_Story_finish:=kD (P:=l.prog) (w:=w) (base:=base) (cl:=(bI c_Walk c_Frame c_Story c_Goer c_Nought c_Outside)) ⟨_,_,bo l14 c14 k14,mt_Story_finish,b_Story_finish⟩ m_Story cl_Story n_Story_told n_Story_steps n_Story_end n_Story_brought n_Story_touches n_Story_puts n_Story_lines
 have C_Story_finish:=N_Story_finish.ce
 have C_Goer___init__:=jH (cl:=(bI c_Walk c_Frame c_Story c_Goer c_Nought c_Outside)) ⟨_,_,bo l15 c15 k15,M_Goer,b_Goer___init__⟩ C_wrapped C_Frame___init__ C_Story___init__ C_Story_begin_phase m_Frame cl_Frame n_Frame_names n_Frame_given n_Frame_walks n_Frame_loops m_Goer cl_Goer n_Goer_defs n_Goer_lane n_Goer_signs n_Goer_boxes n_Goer_most n_Goer_frames n_Goer_line n_Goer_meeting n_Goer_story m_Story cl_Story n_Story_told n_Story_steps n_Story_end n_Story_brought n_Story_touches n_Story_puts n_Story_lines
 have C_Goer_touch:=mi (cl:=(bI c_Walk c_Frame c_Story c_Goer c_Nought c_Outside)) ⟨_,_,bo l16 c16 k16,mt_Goer_touch,b_Goer_touch⟩ C_Story_add_touch m_Goer cl_Goer n_Goer_defs n_Goer_lane n_Goer_signs n_Goer_boxes n_Goer_most n_Goer_frames n_Goer_line n_Goer_meeting n_Goer_story m_Story cl_Story n_Story_told n_Story_steps n_Story_end n_Story_brought n_Story_touches n_Story_puts n_Story_lines m_Outside x_Outside z_len
 have C_Goer_got:=pN (cl:=(bI c_Walk c_Frame c_Story c_Goer c_Nought c_Outside)) ⟨_,_,bo l17 c17 k17,mt_Goer_got,b_Goer_got⟩ C_Goer_touch m_Goer cl_Goer n_Goer_defs n_Goer_lane n_Goer_signs n_Goer_boxes n_Goer_most n_Goer_frames n_Goer_line n_Goer_meeting n_Goer_story
 have C_Goer_reckoned:=jO (cl:=(bI c_Walk c_Frame c_Story c_Goer c_Nought c_Outside)) ⟨_,_,bo l18 c18 k18,mt_Goer_reckoned,b_Goer_reckoned⟩ C_Goer_got C_worked m_Frame cl_Frame n_Frame_names n_Frame_given n_Frame_walks n_Frame_loops m_Goer cl_Goer n_Goer_defs n_Goer_lane n_Goer_signs n_Goer_boxes n_Goer_most n_Goer_frames n_Goer_line n_Goer_meeting n_Goer_story m_Nought x_Nought m_SIGNS g_SIGNS
 have C_Goer_give:=nQ (P:=l.prog) (w:=w) (base:=base) (cl:=(bI c_Walk c_Frame c_Story c_Goer c_Nought c_Outside)) ⟨_,_,bo l19 c19 k19,mt_Goer_give,b_Goer_give⟩ m_Frame cl_Frame n_Frame_names n_Frame_given n_Frame_walks n_Frame_loops m_Goer cl_Goer n_Goer_defs n_Goer_lane n_Goer_signs n_Goer_boxes n_Goer_most n_Goer_frames n_Goer_line n_Goer_meeting n_Goer_story
 have C_Goer_do:=r6 (cl:=(bI c_Walk c_Frame c_Story c_Goer c_Nought c_Outside)) ⟨_,_,bo l20 c20 k20,mt_Goer_do,b_Goer_do⟩ C_Frame_pass_by C_Goer_give C_Goer_reckoned m_Frame cl_Frame n_Frame_names n_Frame_given n_Frame_walks n_Frame_loops m_Goer cl_Goer n_Goer_defs n_Goer_lane n_Goer_signs n_Goer_boxes n_Goer_most n_Goer_frames n_Goer_line n_Goer_meeting n_Goer_story m_Story cl_Story n_Story_told n_Story_steps n_Story_end n_Story_brought n_Story_touches n_Story_puts n_Story_lines
 have C_Goer_step:=nP (cl:=(bI c_Walk c_Frame c_Story c_Goer c_Nought c_Outside)) ⟨_,_,bo l21 c21 k21,mt_Goer_step,b_Goer_step⟩ C_Story_add_step C_Goer_do m_Goer cl_Goer n_Goer_defs n_Goer_lane n_Goer_signs n_Goer_boxes n_Goer_most n_Goer_frames n_Goer_line n_Goer_meeting n_Goer_story m_Story cl_Story n_Story_told n_Story_steps n_Story_end n_Story_brought n_Story_touches n_Story_puts n_Story_lines m_Nought m_Outside xm N_Story_finish
 have C_Goer_end_def:=kA (cl:=(bI c_Walk c_Frame c_Story c_Goer c_Nought c_Outside)) ⟨_,_,bo l22 c22 k22,mt_Goer_end_def,b_Goer_end_def⟩ C_Story_finish m_Goer cl_Goer n_Goer_defs n_Goer_lane n_Goer_signs n_Goer_boxes n_Goer_most n_Goer_frames n_Goer_line n_Goer_meeting n_Goer_story m_Story cl_Story n_Story_told n_Story_steps n_Story_end n_Story_brought n_Story_touches n_Story_puts n_Story_lines z_len
 have C_Goer_go:=rq (cl:=(bI c_Walk c_Frame c_Story c_Goer c_Nought c_Outside)) ⟨_,_,bo l23 c23 k23,mt_Goer_go,b_Goer_go⟩ C_Frame_statement C_Goer_end_def C_Goer_step m_Frame cl_Frame n_Frame_names n_Frame_given n_Frame_walks n_Frame_loops m_Goer cl_Goer n_Goer_defs n_Goer_lane n_Goer_signs n_Goer_boxes n_Goer_most n_Goer_frames n_Goer_line n_Goer_meeting n_Goer_story m_Story cl_Story n_Story_told n_Story_steps n_Story_end n_Story_brought n_Story_touches n_Story_puts n_Story_lines
 have C_alone:=vc (cl:=(bI c_Walk c_Frame c_Story c_Goer c_Nought c_Outside)) (a24.dn X G (λ _ _ _ _ _ _=>HG λ _ _ _ _ _ _ _=>rfl)) C_Goer___init__ C_Goer_go m_Goer cl_Goer n_Goer_defs n_Goer_lane n_Goer_signs n_Goer_boxes n_Goer_most n_Goer_frames n_Goer_line n_Goer_meeting n_Goer_story
 have C__law_cell:=n6 (P:=l.prog) (w:=w) (base:=base) (a25.dn X G (λ _ _ _ _ _ _=>tG λ _ _=>rfl)) z_len
 have C__law_mixed:=m9 (P:=l.prog) (w:=w) (base:=base) (a26.dn X G (λ _ _ _ _ _ _=>tG λ _ _=>rfl))
 have C__law_all_whole:=j6 (P:=l.prog) (w:=w) (base:=base) (cl:=(bI c_Walk c_Frame c_Story c_Goer c_Nought c_Outside)) (a27.dn X G (λ _ _ _ _ _ _=>sV λ _=>rfl)) z_len z_isinstance z_bool z_int
 have C__law_into_range:=jg (P:=l.prog) (w:=w) (base:=base) (a28.dn X G (λ _ _ _ _ _ _=>sV λ _=>rfl))
 have C__law_result:=la (a29.dn X G (λ _ _ _ _ _ _=>y9 λ _ _ _=>rfl)) C__law_into_range z_int
 have C__law_name:=oJ (P:=l.prog) (w:=w) (base:=base) (a30.dn X G (λ _ _ _ _ _ _=>tG λ _ _=>rfl))
 have C__law_of_box:=lj (P:=l.prog) (w:=w) (base:=base) (a31.dn X G (λ _ _ _ _ _ _=>tG λ _ _=>rfl)) z_len
 have C__law_of_two:=kU (a32.dn X G (λ _ _ _ _ _ _=>y9 λ _ _ _=>rfl)) C__law_result z_max
 have C__law_built:=me (cl:=(bI c_Walk c_Frame c_Story c_Goer c_Nought c_Outside)) (a33.dn X G (λ _ _ _ _ _ _=>ID λ _ _ _ _ _=>rfl)) C__law_mixed C__law_of_two C__law_of_box z_len z_max
 have C__law_main:=nA (cl:=(bI c_Walk c_Frame c_Story c_Goer c_Nought c_Outside)) (a34.dn X G (λ _ _ _ _ _ _=>y9 λ _ _ _=>rfl)) C__law_built C__law_cell C__law_mixed C__law_name z_len
 have C__law_holds:=m7 (cl:=(bI c_Walk c_Frame c_Story c_Goer c_Nought c_Outside)) (a35.dn X G (λ _ _ _ _ _ _=>Fl λ _ _ _ _=>rfl)) C__law_all_whole m_Story cl_Story n_Story_told n_Story_steps n_Story_end n_Story_brought n_Story_touches n_Story_puts n_Story_lines z_len z_zip
 obtain ⟨_,_,⟨rfl,rfl⟩,F⟩:=CH (cl:=(bI c_Walk c_Frame c_Story c_Goer c_Nought c_Outside)) (R:=λ g gd=>g=fa/\gd=_) uP ⟨_,_,bo ll cL kL,rfl,rfl⟩ C__law_mixed C__law_cell C__law_into_range C__law_main C_alone C__law_holds m_Story cl_Story n_Story_told n_Story_steps n_Story_end n_Story_brought n_Story_touches n_Story_puts n_Story_lines z_range z_len z_repr z_list
 exact F
theorem walk {l:PySem.W.OpenLaw} {q:Program} {loose:List Str} {XP:(Str->Option Value)->Heap->Prop} {YP:World->Heap->Prop} {d:DefRec} {K:Params->Frag} (hn:l.most=some 63) (hdf:d.params.defaults=[])
 (hY:∀ (w:World) (h:Heap),YP w h->(K w.params).In h)
 (F:∀ (w:World) (mg:Str->Option Value) (fa:Addr) (h:Heap),(K w.params).In h->h.Ns mainGlobals mg->mg d.name=some (.ref fa)->
  ∃ fd:FuncData,(∀ (s:Shared) (u:Value),BindsTo s fd ⟨[u],[]⟩ [("_law_script", u)])/\∀ base:Heap,(K w.params).In base->base.Ns mainGlobals mg->dU l.prog w (K w.params) mg base rG 17 fa fd ["_law_script"] (nS (K w.params))):
 PySem.W.WalkO q loose XP YP l.row.toRowW d [] (λ f vs=>PySem.call f vs):=
 L2.walk_of (n:=63) (k:=17) (x := "_law_script") (CX:=λ _=>rG) (sp:=λ w=>(nS (K w.params))) hn (by decide) hdf ⟨rfl,by decide,by decide,rfl⟩ hY F (λ _ _ a ns hl _ hS=>⟨a,ns,rfl,hS,hl,λ _=>rfl⟩) λ _ _ _ _ _ z=>z
theorem toX {q:Program} {loose:List Str} {XP:(Str->Option Value)->Heap->Prop} {r:PySem.W.RowW} {d:DefRec} {kwd:List (Str×Expr)} {run:Value->List Value->Sem Value} {K:Params->Frag} {as:List Addr} {n t:Nat} (e:∀ P,as=(K P).map (·.1))
 (h:PySem.W.WalkO q loose XP (λ w h=>(K w.params).In h) r d kwd run):PySem.W.WalkX q loose XP (PySem.W.X.obsZ as) (PySem.W.X.valZ K n t) r d kwd run:=
 λ w s0 s1 mg mb G y a o pm cd doc dV kV h1 h2 h3 h4 h5 h6 args vals as' L hp hl hr hw ho=>h w s0 s1 mg mb G (PySem.W.InK.keeps w s0.heap s1.heap (PySem.W.X.z_facts e y).2.1 L.keeps) a o pm cd doc dV kV h1 h2 h3 h4 h5 h6 args vals as' hp hl hr hw ho
end My
open PySem PySem.W PyProof.Rows
def Sp.k {α : Type} (x : α) (t : True) : α := x
local macro_rules
 | `(command| universe $z) => do
  let F (s : String) (n : Lean.Name) := Lean.mkIdent (`PySem.W.Fast ++ .mkSimple s!"{s}{n.hash}")
  let mut a := #[]
  let mut b := #[]
  let p := Lean.mkIdent `PySem.Challenge.pw_widelanes_k42_alone_reckons
  for k in [0:35] do
   let c := .mkStr2 "Sp" s!"c{k}"
   let C := Lean.mkIdent c
   let (T, e) <- if k < 34 then pure (<- `(Stmt), <- `(($p).main.body.getD $(Lean.quote k) (.Pass ⟨0, 0, 0, 0⟩))) else pure (<- `(Scope), <- `(($p).main.scope))
   a := ((a.push (<- `(command| def $C : $T := $e))).push (<- `(command| noncomputable def $(F "tw" c) : $T := by
    refine Sp.k ?x ?t
    case t =>
     have h : $C = ?x := by conv => lhs; whnf
     exact trivial))).push (<- `(command| theorem $(F "te" c) : $C = $(F "tw" c) := by kernel_rfl))
   b := b.push C
  for (i, j) in ([(859,1390)] : List (Nat × Nat)) do
   for k in [i:j] do
    a := a.push (<- `(command| def $(F "tw" (`PySem.Challenge.cw_widelanes_k42_alone_reckons_holds ++ .mkSimple s!"o_{k}")) := ()))
  let q := b.pop
  let s := b.back!
  return Lean.mkNullNode (a.push (<- `(command| def $(Lean.mkIdent `Sp.p) : Program := { main := { body := [$q,*], scope := $s, futureAnnotations := false, file := "/claim/cut.py", more := [] }, modules := [], parses := [], absent := [], harvested := [], given := { argv := [], stdin := [], environ := (some [([76, 67, 95, 65, 76, 76], [67, 46, 85, 84, 70, 45, 56])]) } })))
universe u
set_option maxRecDepth 100000 in
set_option maxHeartbeats 0 in
theorem PySem.Challenge.cw_widelanes_k42_alone_reckons_holds : PySem.Challenge.rw_widelanes_k42_alone_reckons.Holds := by
 show OpenLaw.Holds { prog := Sp.p, name := "law", about := ["alone"], foot := 12, most := some 63, bound := none, writes := false }
 w_on; o_law;z_head;(case hw=>w_witness2)
 refine My.toX (λ _=>rfl) (My.walk (l:={ prog := Sp.p, name := "law", about := ["alone"], foot := 12, most := some 63, bound := none, writes := false }) rfl rfl (λ w h Y=>Y) ?F)
 case F=>
  intro w mg fa h KX G hmg
  refine' My.all_mk KX G hmg ?mm_Walk ?mm_Frame ?mm_Story ?mm_Goer ?mm_Nought ?mm_Outside ?ex_Nought ?ex_Outside ?xm1 ?xm2 ?xm3 ?a0 ?a1 ?a2 ?a3 ?ifn3 ?l3 ?c3 ?k3 ?a4 ?ifn4 ?l4 ?c4 ?k4 ?a5 ?ifn5 ?l5 ?c5 ?k5 ?a6 ?ifn6 ?l6 ?c6 ?k6 ?a7 ?ifn7 ?l7 ?c7 ?k7 ?a8 ?ifn8 ?l8 ?c8 ?k8 ?a9 ?ifn9 ?l9 ?c9 ?k9 ?a10 ?ifn10 ?l10 ?c10 ?k10 ?a11 ?ifn11 ?l11 ?c11 ?k11 ?a12 ?ifn12 ?l12 ?c12 ?k12 ?a13 ?ifn13 ?l13 ?c13 ?k13 ?a14 ?ifn14 ?l14 ?c14 ?k14 ?a15 ?ifn15 ?l15 ?c15 ?k15 ?a16 ?ifn16 ?l16 ?c16 ?k16 ?a17 ?ifn17 ?l17 ?c17 ?k17 ?a18 ?ifn18 ?l18 ?c18 ?k18 ?a19 ?ifn19 ?l19 ?c19 ?k19 ?a20 ?ifn20 ?l20 ?c20 ?k20 ?a21 ?ifn21 ?l21 ?c21 ?k21 ?a22 ?ifn22 ?l22 ?c22 ?k22 ?a23 ?ifn23 ?l23 ?c23 ?k23 ?a24 ?a25 ?a26 ?a27 ?a28 ?a29 ?a30 ?a31 ?a32 ?a33 ?a34 ?a35 ?a36 ?pg_Walk ?hd_Walk ?po_Walk ?sa_Walk ?mk_Walk ?kc_Walk ?nn_Walk_row ?nn_Walk_at ?pg_Frame ?hd_Frame ?po_Frame ?sa_Frame ?mk_Frame ?kc_Frame ?nn_Frame_names ?nn_Frame_given ?nn_Frame_walks ?nn_Frame_loops ?pg_Story ?hd_Story ?po_Story ?sa_Story ?mk_Story ?kc_Story ?nn_Story_told ?nn_Story_steps ?nn_Story_end ?nn_Story_brought ?nn_Story_touches ?nn_Story_puts ?nn_Story_lines ?pg_Goer ?hd_Goer ?po_Goer ?sa_Goer ?mk_Goer ?kc_Goer ?nn_Goer_defs ?nn_Goer_lane ?nn_Goer_signs ?nn_Goer_boxes ?nn_Goer_most ?nn_Goer_frames ?nn_Goer_line ?nn_Goer_meeting ?nn_Goer_story ?zz_bool ?zz_int ?zz_isinstance ?zz_len ?zz_list ?zz_max ?zz_range ?zz_repr ?zz_zip ?mm_LEAST ?mm_SIGNS ?lk_SIGNS ?lc_SIGNS ?lt_SIGNS ?mm_SPAN
  (case mm_Walk | mm_Frame | mm_Story | mm_Goer | mm_Nought | mm_Outside=>k_is)
  (case ex_Nought | ex_Outside=>(unfold L2.XClE L2.mroEx;k_exc))
  (case xm1 | xm2 | xm3=>kts_exm)
  (case a0 | a1 | a2=>exact ⟨_,_,_,_,_,_,_,_,_,_,by k_is,by k_is,by k_is,by k_is⟩)
  (case a3 | ifn3 | l3 | c3 | k3 | a4 | ifn4 | l4 | c4 | k4 | a5 | ifn5 | l5 | c5 | k5 | a6 | ifn6 | l6 | c6 | k6 | a7 | ifn7 | l7 | c7 | k7 | a8 | ifn8 | l8 | c8 | k8 | a9 | ifn9 | l9 | c9 | k9 | a10 | ifn10 | l10 | c10 | k10 | a11 | ifn11 | l11 | c11 | k11 | a12 | ifn12 | l12 | c12 | k12 | a13 | ifn13 | l13 | c13 | k13 | a14 | ifn14 | l14 | c14 | k14 | a15 | ifn15 | l15 | c15 | k15 | a16 | ifn16 | l16 | c16 | k16 | a17 | ifn17 | l17 | c17 | k17 | a18 | ifn18 | l18 | c18 | k18 | a19 | ifn19 | l19 | c19 | k19 | a20 | ifn20 | l20 | c20 | k20 | a21 | ifn21 | l21 | c21 | k21 | a22 | ifn22 | l22 | c22 | k22 | a23 | ifn23 | l23 | c23 | k23=>k_is)
  (case a24 | a25 | a26 | a27 | a28 | a29 | a30 | a31 | a32 | a33 | a34 | a35 | a36=>exact ⟨_,_,_,_,_,_,_,_,_,_,by k_is,by k_is,by k_is,by k_is⟩)
  (case pg_Walk | hd_Walk | po_Walk | sa_Walk | mk_Walk | kc_Walk | nn_Walk_row | nn_Walk_at | pg_Frame | hd_Frame | po_Frame | sa_Frame | mk_Frame | kc_Frame | nn_Frame_names | nn_Frame_given | nn_Frame_walks | nn_Frame_loops | pg_Story | hd_Story | po_Story | sa_Story | mk_Story | kc_Story | nn_Story_told | nn_Story_steps | nn_Story_end | nn_Story_brought | nn_Story_touches | nn_Story_puts | nn_Story_lines | pg_Goer | hd_Goer | po_Goer | sa_Goer | mk_Goer | kc_Goer | nn_Goer_defs | nn_Goer_lane | nn_Goer_signs | nn_Goer_boxes | nn_Goer_most | nn_Goer_frames | nn_Goer_line | nn_Goer_meeting | nn_Goer_story | zz_bool | zz_int | zz_isinstance | zz_len | zz_list | zz_max | zz_range | zz_repr | zz_zip | mm_LEAST | mm_SIGNS | lk_SIGNS=>k_is)
  (case lc_SIGNS=>rfl)
  (case lt_SIGNS=>kernel_rfl)
  (case mm_SPAN=>k_is)
