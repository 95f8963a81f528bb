import PyProof.Rows.All
import Wide.All
import OpenK.AllK
import Wide.FinOn
import Lean
import PyProof.EqAt
import PyProof.EqKinds
import PyProof.TupleCall
import PySem.Challenge.RW_widelanes_k44_alone_calls
set_option Elab.async false
set_option genSizeOf false
set_option genSizeOfSpec false
set_option genInjectivity false
set_option compiler.extract_closed false
set_option linter.all false
set_option maxRecDepth 100000
namespace L2
open PySem PySem.Spec PyProof.Rows
open PySem.W (Frag)
theorem oB {α β:Type} {x:Option α} {f:α->Option β} {b:β} (h:x.bind f=some b):∃ a,x=some a/\f a=some b:=Option.bind_eq_some_iff.mp h
theorem oM {α β:Type} {x:Option α} {f:α->β} {b:β} (h:x.map f=some b):∃ a,x=some a/\f a=b:=Option.map_eq_some_iff.mp h
theorem oG {α:Type} {l:List α} {i:Nat} {a:α} (h:l[i]?=some a):∃ h:i<l.length,l[i]=a:=List.getElem?_eq_some_iff.mp h
noncomputable abbrev bh:=Sum Int Str
noncomputable def p5:bh->Value->Bool
 | .inl k,v=>Value.isInt k v
 | .inr x,v=>Value.isStrOf x v
noncomputable def JZ (w:World):bh->Int
 | .inl k=>hashInt k
 | .inr x=>hashStr w x
theorem cj:∀ {k:bh} {v:Value},p5 k v=true->(∃ i t,k=Sum.inl i/\v=Value.int i t)∨(∃ x t,k=Sum.inr x/\v=Value.str x t)
 | .inl i,v,h=>by
  obtain ⟨t,e⟩:=Value.isInt_shape (k:=i) (v:=v) h;exact .inl ⟨i,t,rfl,e⟩
 | .inr x,v,h=>by
  obtain ⟨t,e⟩:=Value.isStrOf_shape (x:=x) (v:=v) h;exact .inr ⟨x,t,rfl,e⟩
theorem vY (i:Int) (t:Tok):p5 (.inl i) (.int i t)=true:=by simp [p5,Value.isInt]
theorem wJ (x:Str) (t:Tok):p5 (.inr x) (.str x t)=true:=by simp [p5,Value.isStrOf]
theorem Fz (a b:Int):decide ((Sum.inl a:bh)=Sum.inl b)=(a==b):=by
 by_cases e:a=b
 . subst e;simp
 . have h:¬ (Sum.inl a:bh)=Sum.inl b:=λ q=>e (Sum.inl.inj q);rw [decide_eq_false h];exact (beq_eq_false_iff_ne.mpr e).symm
theorem DC (a b:Str):decide ((Sum.inr a:bh)=Sum.inr b)=decide (a=b):=by
 by_cases e:a=b
 . subst e;simp
 . have h:¬ (Sum.inr a:bh)=Sum.inr b:=λ q=>e (Sum.inr.inj q);rw [decide_eq_false h,decide_eq_false e]
theorem CU (a:Int) (b:Str):decide ((Sum.inl a:bh)=Sum.inr b)=false:=decide_eq_false (λ q=>nomatch q)
theorem DF (a:Str) (b:Int):decide ((Sum.inr a:bh)=Sum.inl b)=false:=decide_eq_false (λ q=>nomatch q)
noncomputable def aS (prog:Program) (w:World):PySem.KeyKind prog w bh where
 is:=p5
 hash:=JZ w
 inj:=λ v a b ha hb=>by
  rcases cj ha with ⟨i,t,rfl,rfl⟩ | ⟨x,t,rfl,rfl⟩
  . rcases cj hb with ⟨j,u,rfl,e⟩ | ⟨y,u,rfl,e⟩
    . injection e with e1 _;rw [e1]
    . exact nomatch e
  . rcases cj hb with ⟨j,u,rfl,e⟩ | ⟨y,u,rfl,e⟩
    . exact nomatch e
    . injection e with e1 _;rw [e1]
 byValue:=λ k v h=>by
  rcases cj h with ⟨i,t,rfl,rfl⟩ | ⟨x,t,rfl,rfl⟩ <;> rfl
 pyHash:=λ hv h=>by
  rcases cj hv with ⟨i,t,rfl,rfl⟩ | ⟨x,t,rfl,rfl⟩
  . exact wpAny_pyHash_int h
  . exact wpAny_pyHash_str h
 eqBool:=λ hu hv h=>by
  rcases cj hu with ⟨i,t,rfl,rfl⟩ | ⟨x,t,rfl,rfl⟩
  . rcases cj hv with ⟨j,u,rfl,rfl⟩ | ⟨y,u,rfl,rfl⟩
    . rw [Fz] at h;exact wpAny_eqBool_int h
    . rw [CU] at h;exact SeqAt.EqAt.int_str i t y u _ _ _ _ h
  . rcases cj hv with ⟨j,u,rfl,rfl⟩ | ⟨y,u,rfl,rfl⟩
    . rw [DF] at h;exact SeqAt.EqAt.str_int x t j u _ _ _ _ h
    . rw [DC] at h;exact wpAny_eqBool_str h
 «strs»:=λ k x t v h=>by
  rcases cj h with ⟨i,u,rfl,e⟩ | ⟨y,u,rfl,e⟩
  . exact nomatch e
  . injection e with e1 _
    subst e1;cases v <;> rfl
theorem rN (prog:Program) (w:World) (i:Int) (t:Tok):(aS prog w).is (.inl i) (.int i t)=true:=vY i t
theorem sR (prog:Program) (w:World) (x:Str) (t:Tok):(aS prog w).is (.inr x) (.str x t)=true:=wJ x t
noncomputable def nH (P:Program) (w:World) (ks:List bh):Int:=if ks=[] then 4238894112 else (tupleKind (aS P w)).hash ks
noncomputable def nE (P:Program) (w:World) (x:List bh×Value×Value):DictEntry:=⟨nH P w x.1,x.2.1,x.2.2⟩
end L2
namespace L2
open PySem PySem.Spec PyProof.Rows
open PySem.W (Frag)
set_option genInjectivity true in
inductive V where
 | non | bl (b:Bool) | int (i:Int) | str (x:Str) | byt (b:Array UInt8) | flt (b:UInt64) | ref (a:Addr) | ty (n:String)
 deriving DecidableEq
noncomputable def be:V->Value->Prop
 | .non,u=>u=Value.none
 | .bl b,u=>u=Value.bool b
 | .int i,u=>∃ t,u=Value.int i t
 | .str x,u=>∃ t,u=Value.str x t
 | .byt b,u=>∃ t,u=Value.bytes b t
 | .flt b,u=>∃ t,u=Value.float b t
 | .ref a,u=>u=Value.ref a
 | .ty n,u=>u=Value.type n
noncomputable abbrev bn:List V->List Value->Prop:=Paired be
theorem bn.length {xs:List V} {us:List Value} (r:bn xs us):xs.length=us.length:=Paired.length r
theorem bn.get {xs:List V} {us:List Value} {i:Nat} {x:V} (h:bn xs us) (e:xs[i]?=some x):∃ u,us[i]?=some u/\be x u:=by
 induction h generalizing i with
 | nil=>cases e
 | cons r _ ih=>
  cases i with
  | zero=>cases e;exact ⟨_,rfl,r⟩
  | succ i=>exact ih (i:=i) e
theorem bn.append {xs ys:List V} {us ws:List Value} (h:bn xs us) (s:bn ys ws):bn (xs++ys) (us++ws):=by
 induction h with
 | nil=>exact s
 | cons r _ ih=>exact .cons r ih
noncomputable def jc:Option V->Option Value->Prop
 | some v,some u=>be v u
 | none,none=>True
 | _,_=>False
noncomputable def KV {κ:Type}:List (κ×V)->List (κ×Value)->Prop:=Paired λ (p:κ×V) (q:κ×Value)=>p.1=q.1/\be p.2 q.2
noncomputable def fQ (P:Program) (w:World) (h:Heap) (a:Addr) (kvs:List (bh×Value)):Prop:=
 ∃ o es ep,h.get? a=some o/\o.ExactDict/\o.data=.dict es ep/\ep=es.size/\KeysOf (aS P w) es/\Pairs (aS P w) es.toList kvs/\(kvs.map (·.1)).Nodup
theorem fQ.of {P:Program} {w:World} {h:Heap} {a:Addr} {kvs:List (bh×Value)} (x:fQ P w h a kvs):h.DictOf (aS P w) a kvs:=by
 obtain ⟨o,es,ep,h1,h2,h3,_,h5⟩:=x;exact ⟨o,es,ep,h1,h2,h3,h5⟩
noncomputable def kV:bh->V
 | .inl i=>.int i
 | .inr x=>.str x
inductive HO where
 | lst (xs:List V)
 | tup (xs:List V)
 | dK (kvs:List (bh×V)) | dT (kvs:List (List bh×V)) | dN (kvs:List (List bh×V))
 | set (S:Int->Bool) (n:Nat)
 | ins (C dx:Addr) (fs:List (Str×V))
 | own (x:Addr)
 | xd (fs:List (Str×V))
 | met (f x:Addr)
 | rng (lo hi:Int)
 | frz (o:Obj) (u:HO)
 | tbl (ps:Array Value)
 | ext (φ:Heap->Prop)
noncomputable abbrev Hp:=Addr->Option HO
noncomputable def nV (H:Hp) (ks:List bh) (v:Value):Prop:=(ks=[]/\v=.none)∨(ks≠[]/\∃ b,v=.ref b/\H b=some (.tup (ks.map kV)))
noncomputable def cR (H:Hp) (a:Addr) (o:HO):Hp:=λ b=>if b=a then some o else H b
theorem aJ {H:Hp} {a:Addr} {o:HO}:cR H a o a=some o:=by unfold cR;rw [if_pos rfl]
theorem aL {H:Hp} {a b:Addr} {o:HO} (h:b≠a):cR H a o b=H b:=by unfold cR;rw [if_neg h]
theorem Gw {H:Hp} {a b:Addr} {o u:HO} (h:H a=some o) (h':H b=some u) (d:o≠u):a≠b:=by
 intro e;subst e;rw [h] at h';exact d (Option.some.inj h')
theorem b7 {H:Hp} {a b:Addr} {o:HO} (h:H a=some o) (h':H b=none):a≠b:=by
 intro e;subst e;rw [h] at h';cases h'
section
variable (P:Program) (w:World)
noncomputable def cO (H:Hp) (h:Heap) (a:Addr):HO->Prop
 | .lst xs=>xs.length<=sizeLine/\∃ (its:List Value) (n:Nat),bn xs its/\h.get? a=some { cls:=.type "list", data:=.seq its.toArray n }
 | .tup xs=>xs.length<=sizeLine/\∃ its:List Value,bn xs its/\IsTup h a its.toArray
 | .dK kvs=>kvs.length<=sizeLine/\(a==sysModules)=false/\∃ vs,KV kvs vs/\fQ P w h a vs
 | .dT kvs=>kvs.length<=sizeLine/\(a==sysModules)=false/\∃ xs:List (List bh×Addr×Value),
  Paired (λ (p:List bh×V) (q:List bh×Addr×Value)=>p.1=q.1/\H q.2.1=some (.tup (p.1.map kV))/\be p.2 q.2.2) kvs xs/\
  ∃ o es ep,h.get? a=some o/\o.ExactDict/\o.data=.dict es ep/\es.toList=xs.map (entryOfKey (tupleKind (aS P w)))/\(xs.map (·.1)).Nodup
 | .dN kvs=>kvs.length<=sizeLine/\(a==sysModules)=false/\∃ xs:List (List bh×Value×Value),
  Paired (λ (p:List bh×V) (q:List bh×Value×Value)=>p.1=q.1/\nV H p.1 q.2.1/\be p.2 q.2.2) kvs xs/\
  ∃ o es ep,h.get? a=some o/\o.ExactDict/\o.data=.dict es ep/\es.toList=xs.map (nE P w)/\(xs.map (·.1)).Nodup
 | .set S n=>h.SetOf (intKind P w) a S n
 | .ins C dx fs=>H dx=some (.own a)/\fs.length<=1000/\dx≠a/\h.get? a=some (PySem.W.instObj C dx)/\
  ∃ mA,h.Ns1 dx mA/\(∀ f,jc (fs.lookup f) (mA f))/\PySem.Within mA (fs.map (·.1))
 | .own _=>∃ o,h.get? a=some o
 | .xd fs=>∃ mA,h.Ns1 a mA/\∀ f,jc (fs.lookup f) (mA f)
 | .rng lo hi=>∃ t u v,h.get? a=some { cls:=.type "range", data:=.fields #[.int lo t,.int hi u,.int 1 v] }
 | .frz o u=>h.get? a=some o/\cO H h a u
 | .tbl ps=>h.get? a=some { cls:=.none,data:=.fields ps }
 | .met f x=>h.get? a=some (PySem.W.methodObj (.ref f) (.ref x))
 | .ext φ=>φ h/\(∃ o,h.get? a=some o)/\∀ h1 h2:Heap,φ h1->(∀ o,h1.get? a=some o->h2.get? a=some o)->φ h2
noncomputable def iK (H:Hp) (h:Heap):Prop:=∀ a o,H a=some o->cO P w H h a o
end
section
variable {P:Program} {w:World} {H H':Hp} {h h':Heap} {a:Addr} {o:HO}
theorem cO.lt (x:cO P w H h a o):a<h.objs.size:=by
 cases o with
 | lst xs=>obtain ⟨_,_,_,_,e⟩:=x;exact Heap.lt_size e
 | tup xs=>obtain ⟨_,_,_,p⟩:=x;exact p.lt
 | dK kvs=>obtain ⟨_,_,_,_,o,_,_,e,_⟩:=x;exact Heap.lt_size e
 | dT kvs=>obtain ⟨_,_,_,_,o,_,_,e,_⟩:=x;exact Heap.lt_size e
 | dN kvs=>obtain ⟨_,_,_,_,o,_,_,e,_⟩:=x;exact Heap.lt_size e
 | set S n=>obtain ⟨o,_,_,_,e,_⟩:=x;exact Heap.lt_size e
 | ins C dx fs=>obtain ⟨_,_,_,e,_⟩:=x;exact Heap.lt_size e
 | own y=>obtain ⟨_,e⟩:=x;exact Heap.lt_size e
 | xd fs=>obtain ⟨_,⟨_,_,_,e,_⟩,_⟩:=x;exact Heap.lt_size e
 | rng lo hi=>obtain ⟨_,_,_,e⟩:=x;exact Heap.lt_size e
 | frz ob u=>obtain ⟨e,_⟩:=x;exact Heap.lt_size e
 | tbl ps=>exact Heap.lt_size (show h.get? a=some _ from x)
 | met f y=>exact Heap.lt_size (show h.get? a=some _ from x)
 | ext φ=>obtain ⟨_,⟨_,e⟩,_⟩:=x;exact Heap.lt_size e
theorem Paired.mapP {α β:Type} {F G:α->β->Prop} {l₁:List α} {l₂:List β} (h:Paired F l₁ l₂) (f:∀ a b,F a b->G a b):Paired G l₁ l₂:=by
 induction h with
 | nil=>exact .nil
 | cons r _ ih=>exact .cons (f _ _ r) ih
theorem cO.stay (x:cO P w H h a o) (k:∀ b u,(b=a∨H b=some (.own a))->h.get? b=some u->h'.get? b=some u)
 (ho:∀ b,H b=some (.own a)->H' b=some (.own a)) (ht:∀ b xs,H b=some (.tup xs)->H' b=some (.tup xs)):cO P w H' h' a o:=by
 induction o with
 | lst xs=>obtain ⟨z,its,n,r,e⟩:=x;exact ⟨z,its,n,r,k _ _ (.inl rfl) e⟩
 | tup xs=>obtain ⟨z,its,r,ob,e,c⟩:=x;exact ⟨z,its,r,ob,k _ _ (.inl rfl) e,c⟩
 | dK kvs=>obtain ⟨z,y,vs,r,ob,es,ep,e,c⟩:=x;exact ⟨z,y,vs,r,ob,es,ep,k _ _ (.inl rfl) e,c⟩
 | dT kvs=>
  obtain ⟨z,y,xs,r,ob,es,ep,e,c⟩:=x;exact ⟨z,y,xs,Paired.mapP r λ p q z=>⟨z.1,ht _ _ z.2.1,z.2.2⟩,ob,es,ep,k _ _ (.inl rfl) e,c⟩
 | dN kvs=>
  obtain ⟨z,y,xs,r,ob,es,ep,e,c⟩:=x;exact ⟨z,y,xs,Paired.mapP r λ p q z=>⟨z.1,z.2.1.imp id λ hy0=>by obtain ⟨n,b,e1,e2⟩:=hy0;exact ⟨n,b,e1,ht _ _ e2⟩,z.2.2⟩,ob,es,ep,k _ _ (.inl rfl) e,c⟩
 | set S n=>obtain ⟨ob,es,ep,t,e,c⟩:=x;exact ⟨ob,es,ep,t,k _ _ (.inl rfl) e,c⟩
 | ins C dx fs=>
  obtain ⟨d,z,ne,e,mA,⟨od,es,ep,e2,c⟩,r⟩:=x;exact ⟨ho _ d,z,ne,k _ _ (.inl rfl) e,mA,⟨od,es,ep,k _ _ (.inr d) e2,c⟩,r⟩
 | own y=>obtain ⟨ob,e⟩:=x;exact ⟨ob,k _ _ (.inl rfl) e⟩
 | xd fs=>obtain ⟨mA,⟨od,es,ep,e,c⟩,r⟩:=x;exact ⟨mA,⟨od,es,ep,k _ _ (.inl rfl) e,c⟩,r⟩
 | rng lo hi=>obtain ⟨t,u,v,e⟩:=x;exact ⟨t,u,v,k _ _ (.inl rfl) e⟩
 | frz ob u ih=>obtain ⟨e,q⟩:=x;exact ⟨k _ _ (.inl rfl) e,ih q⟩
 | tbl ps=>
  have e:h.get? a=some { cls:=.none,data:=.fields ps }:=x;show h'.get? a=some { cls:=.none,data:=.fields ps };exact k a _ (.inl rfl) e
 | met f y=>
  have e:h.get? a=some (PySem.W.methodObj (.ref f) (.ref y)):=x;show h'.get? a=some (PySem.W.methodObj (.ref f) (.ref y));exact k a _ (.inl rfl) e
 | ext φ=>obtain ⟨p,⟨o,e⟩,st⟩:=x;exact ⟨st _ _ p λ o q=>k _ _ (.inl rfl) q,⟨o,k _ _ (.inl rfl) e⟩,st⟩
theorem iK.lt (x:iK P w H h) (e:H a=some o):a<h.objs.size:=(x a o e).lt
theorem iK.fresh (x:iK P w H h) (e:h.objs.size<=a):H a=none:=by
 cases q:H a with
 | none=>rfl
 | some u=>exact absurd (Nat.lt_of_lt_of_le (x.lt q) e) (Nat.lt_irrefl _)
theorem iK.kept (x:iK P w H h) (k:∀ b u,h.get? b=some u->h'.get? b=some u):iK P w H h':=λ a o e=>
 (x a o e).stay (λ b u _ q=>k b u q) (λ _ q=>q) λ _ _ q=>q
theorem iK.laid (x:iK P w H h) (k:∀ b u,h.get? b=some u->h'.get? b=some u) (hp:h.objs.size<=a) (new:cO P w (cR H a o) h' a o):iK P w (cR H a o) h':=λ b u e=>by
 have hn:=x.fresh hp;by_cases hb:b=a
 . subst hb;rw [aJ] at e;cases e;exact new
 . rw [aL hb] at e;exact (x b u e).stay (λ c v _ q=>k c v q) (λ c q=>by rw [aL (b7 q hn)];exact q) λ c xs q=>by rw [aL (b7 q hn)];exact q
end
noncomputable def Rd (H:Hp) (a:Addr) (u:HO):Prop:=H a=some u∨∃ o,H a=some (.frz o u)
theorem Rd.ok {P:Program} {w:World} {H:Hp} {h:Heap} {a:Addr} {u:HO} (r:Rd H a u) (x:iK P w H h):cO P w H h a u:=by
 rcases r with r | ⟨o,r⟩
 . exact x a u r
 . obtain ⟨_,q⟩:=x a _ r;exact q
noncomputable def GO:Option HO->Prop
 | some (.lst _)=>True
 | some (.dK _)=>True
 | some (.dT _)=>True
 | some (.dN _)=>True
 | some (.set _ _)=>True
 | some (.ins _ _ _)=>True
 | some (.ext _)=>True
 | _=>False
section
variable {P:Program} {w:World} {H:Hp} {h h':Heap} {x e:Addr} {o':HO}
theorem iK.write (ok:iK P w H h) (mu:GO (H x)) (he:e=x∨H e=some (.own x)) (k:∀ b u,b≠e->h.get? b=some u->h'.get? b=some u) (heo:∃ u,h'.get? e=some u)
 (new:cO P w (cR H x o') h' x o'):iK P w (cR H x o') h':=λ b u q=>by
 have nown:∀ c y,H c=some (.own y)->c≠x:=λ c y r z=>by subst z;rw [r] at mu;exact mu
 have ntup:∀ c xs,H c=some (.tup xs)->c≠x:=λ c xs r z=>by subst z;rw [r] at mu;exact mu
 by_cases hb:b=x
 . subst hb;rw [aJ] at q;cases q;exact new
 . rw [aL hb] at q;by_cases hbe:b=e
   . have q':H b=some (.own x):=by
      rcases he with z | z
      . exact absurd (hbe.trans z) hb
      . rw [hbe];exact z
     rw [q] at q';cases q';obtain ⟨v,hv⟩:=heo;exact ⟨v,by rw [hbe];exact hv⟩
   . refine (ok b u q).stay (λ c v hc r=>k c v ?_ r) (λ c r=>by rw [aL (nown c b r)];exact r) λ c xs r=>by rw [aL (ntup c xs r)];exact r
     rcases hc with rfl | hc
     . exact hbe
     . rintro rfl;rcases he with z | z
       . exact nown c b hc z
       . rw [hc] at z;cases z;exact hb rfl
end
structure Un (fs ex:List Addr) (H H':Hp) (h h':Heap):Prop where
 keep:∀ b o,h.get? b=some o->H b=none->b∉fs->b∉ex->h'.get? b=some o
 slot:∀ b o,h.get? b=some o->H b=none->b∈fs->b∉ex->∃ sl,h'.get? b=some { o with slots:=sl }
 free:∀ b o,h.get? b=some o->H b=none->b∉ex->H' b=none
 there:∀ b o,h.get? b=some o->b∉ex->∃ o',h'.get? b=some o'
 tups:∀ b xs,H b=some (.tup xs)->H' b=some (.tup xs)
 frzs:∀ b o u,H b=some (.frz o u)->H' b=some (.frz o u)
 tbls:∀ b ps,H b=some (.tbl ps)->∃ more,H' b=some (.tbl (ps++more))
section
variable {fs fs' ex ex':List Addr} {H H1 H2:Hp} {h h1 h2 h':Heap} {a x e:Addr} {o:HO}
theorem Un.any (u:Un fs ex H H1 h h1) {b:Addr} {ob:Obj} (q:h.get? b=some ob) (n:H b=none) (hx:b∉ex):∃ sl,h1.get? b=some { ob with slots:=sl }:=by
 by_cases hb:b∈fs
 . exact u.slot b ob q n hb hx
 . exact ⟨ob.slots,u.keep b ob q n hb hx⟩
theorem Un.kept (k:∀ b u,h.get? b=some u->h'.get? b=some u):Un fs ex H H h h':=
 ⟨λ b ob q _ _ _=>k b ob q,λ b ob q _ _ _=>⟨ob.slots,k b ob q⟩,λ _ _ _ n _=>n,λ b ob q _=>⟨ob,k b ob q⟩,λ _ _ q=>q,λ _ _ _ q=>q,λ _ ps q=>⟨#[],by rw [q];simp⟩⟩
theorem Un.refl:Un fs ex H H h h:=Un.kept λ _ _ q=>q
theorem Un.laid (k:∀ b u,h.get? b=some u->h'.get? b=some u) (hp:h.objs.size<=a) (hn:H a=none):Un fs ex H (cR H a o) h h' where
 keep:=λ b u q _ _ _=>k b u q
 slot:=λ b u q _ _ _=>⟨u.slots,k b u q⟩
 free:=λ b u q n _=>by rw [aL (Nat.ne_of_lt (Nat.lt_of_lt_of_le (Heap.lt_size q) hp))];exact n
 there:=λ b u q _=>⟨u,k b u q⟩
 tups:=λ b xs q=>by rw [aL (b7 q hn)];exact q
 frzs:=λ b u xs q=>by rw [aL (b7 q hn)];exact q
 tbls:=λ b ps q=>⟨#[],by rw [aL (b7 q hn),q];simp⟩
theorem Un.write (mu:GO (H x)) (he:e=x∨H e=some (.own x)) (k:∀ b u,b≠e->h.get? b=some u->h'.get? b=some u) (heo:∃ u,h'.get? e=some u):Un fs ex H (cR H x o) h h':=by
 have hx:∀ b,H b=none->b≠x:=λ b n z=>by subst z;rw [n] at mu;exact mu
 have hb:∀ b,H b=none->b≠e:=λ b n z=>by
  subst z;rcases he with r | r
  . exact hx b n r
  . rw [n] at r;cases r
 have hm:∀ b u,H b=some u->¬ GO (some u)->b≠x:=λ b u q nm z=>by subst z;rw [q] at mu;exact nm mu
 refine ⟨λ b u q n _ _=>k b u (hb b n) q,λ b u q n _ _=>⟨u.slots,k b u (hb b n) q⟩,λ b u q n _=>by rw [aL (hx b n)];exact n,λ b u q _=>?_,
  λ b xs q=>by rw [aL (hm b _ q λ z=>z)];exact q,λ b u xs q=>by rw [aL (hm b _ q λ z=>z)];exact q,λ b ps q=>⟨#[],by rw [aL (hm b _ q λ z=>z),q];simp⟩⟩
 by_cases hbe:b=e
 . subst hbe;exact heo
 . exact ⟨u,k b u hbe q⟩
end
noncomputable def zF (h:Heap) (H:Hp):List Addr:=(List.range h.objs.size).filter λ a=>(H a).isSome
noncomputable def qH (h:Heap) (H:Hp):Heap:=PySem.W.hideAll h (zF h H)
theorem vM (h:Heap) (H:Hp):(qH h H).objs.size=h.objs.size:=PySem.W.hideAll_size _ _
theorem ym {h:Heap} {H:Hp} {b:Addr} {o:Obj} (e:h.get? b=some o) (n:H b=none):(qH h H).get? b=some o:=
 PySem.W.hideAll_get _ e λ hm=>by
  have q:(H b).isSome=true:=(List.mem_filter.mp hm).2;rw [n] at q;simp at q
theorem AQ {h:Heap} {H:Hp} {b:Addr} {o:Obj} (e:(qH h H).get? b=some o):h.get? b=some o/\H b=none:=by
 have e':h.get? b=some o:=PySem.W.of_hideAll (zF h H) e;refine ⟨e',?_⟩;cases q:H b with
 | none=>rfl
 | some x=>
  have hm:b∈zF h H:=List.mem_filter.mpr ⟨List.mem_range.mpr (Heap.lt_size e'),by simp [q]⟩;have z:(qH h H).get? b=none:=PySem.W.hideAll_none (zF h H) hm;rw [z] at e;cases e
noncomputable def Ad (g h:Heap) (L:Addr):List (Addr×Obj):=(List.range h.objs.size).filterMap λ a=>if a=L∨(g.get? a).isSome=true then none else (h.get? a).map λ o=>(a,o)
noncomputable def fL (g h:Heap) (L d:Addr):List (Addr×Obj):=(Ad g h L).filter λ p=>decide (p.1≠d)
end L2
namespace L2
open PySem PySem.Spec PyProof.Rows
open PySem.W (Frag)
structure Mod (K:Frag) (mg:Str->Option Value) (base:Heap):Prop where
 kin:K.In base
 glob:base.Ns mainGlobals mg
 blt:∃ mb,base.Ns builtinsNs mb/\∀ x:Str,x ≠ "__name__" -> mb x=bootBuiltins x
 nolimit:base.NoLimit
structure Cx where
 prog:Program
 w:World
 K:Frag
 mg:Str->Option Value
 base:Heap
 A:Around
 N:List Str
 s₀:Shared
 H₀:Hp
 env:Env
 outer:List Env
 stack:List Env
 ex:List Addr
 fn:Str->Bool
 calm:Bool
 pn:List (Addr×Obj)
 xe:Value->Shared->Prop
noncomputable def jv (l:List Env):List Addr:=l.filterMap (·.frame)
noncomputable abbrev Cx.fs (X:Cx):List Addr:=jv X.outer
noncomputable def Jh (sc:Scope) (x:Str):Prop:=sc.names.lookup x=some .local∨sc.names.lookup x=some .cell∨sc.names.lookup x=some .free
noncomputable def C8 (sc:Scope) (x:Str):Prop:=sc.names.lookup x=some .local∨sc.names.lookup x=some .cell
noncomputable def JB (env:Env) (h:Heap) (m:Str->Option Value) (x:Str) (u:Value):Prop:=
 (env.kindOf x=some .local/\m x=some u)∨((env.kindOf x=some .cell∨env.kindOf x=some .free)/\∃ c,env.cells.lookup x=some c/\h.IsCell c (some u))
structure Cx.Ok (X:Cx):Prop where
 mod:Mod X.K X.mg X.base
 kind:X.env.scope.kind=.function
 glob:X.env.globals=mainGlobals
 blt:X.env.builtins=builtinsNs
 above:X.s₀.heap.objs.size<=X.env.locals
 inj:∀ x y c,X.env.cells.lookup x=some c->X.env.cells.lookup y=some c->x=y
 has:∀ x,(X.env.kindOf x=some .cell∨X.env.kindOf x=some .free)->∃ c,X.env.cells.lookup x=some c
 cab:∀ x c,X.fn x=true->X.env.cells.lookup x=some c->X.s₀.heap.objs.size<=c
 hd:X.calm=true->X.A.handled=none
 frames:X.A.frames=some X.stack
 stk:X.stack=X.outer∨(X.stack=X.env::X.outer/\X.env.frame=some X.env.locals)
 exf:∀ b∈X.ex,b≠X.env.locals/\∀ x c,X.env.cells.lookup x=some c->c≠b
 bs:∀ b o,X.base.get? b=some o->X.s₀.heap.get? b=some o/\X.H₀ b=none
 bsz:X.base.objs.size<=X.s₀.heap.objs.size
 noex:∀ b o,X.base.get? b=some o->b∉X.ex
 exfs:∀ b∈X.ex,b∉X.fs
 funs:X.s₀.heap.FunFrames X.base X.outer
 frf:∀ b∈X.fs,X.H₀ b=none
structure aK (X:Cx) (pins:List (Addr×Obj)) (σ:List (Option V)) (H:Hp) (s:Shared):Prop where
 ok:X.Ok
 os:s.os=X.s₀.os
 bare:AllBare s.gens
 base:Un X.fs X.ex X.H₀ H X.s₀.heap s.heap
 loc:∃ m,s.heap.Ns X.env.locals m/\∀ (i:Nat) (x:Str) (v:V),X.N[i]?=some x->σ[i]?=some (some v)->Jh X.env.scope x->∃ u,be v u/\JB X.env s.heap m x u
 cell:∀ x c,X.env.cells.lookup x=some c->∃ v,s.heap.IsCell c v
 free:H X.env.locals=none
 freeC:∀ x c,X.env.cells.lookup x=some c->H c=none
 pin:∀ p∈X.pn++pins,s.heap.get? p.1=some p.2/\H p.1=none/\p.1≠X.env.locals/\p.1∉X.fs/\∀ v,p.2.data≠.cell v
 hok:iK X.prog X.w H s.heap
 len:σ.length=X.N.length
section
variable {X:Cx} {pins:List (Addr×Obj)} {σ:List (Option V)} {H H':Hp} {s:Shared} {h':Heap}
theorem Cx.Ok.nofr (ok:X.Ok) {b:Addr} {o:Obj} (e:X.base.get? b=some o):b∉X.fs:=λ hb=>by
 have:=(ok.funs.mem hb).1;rw [e] at this;cases this
theorem aK.bs (I:aK X pins σ H s):∀ b o,X.base.get? b=some o->s.heap.get? b=some o/\H b=none:=λ b o e=>
 ⟨I.base.keep b o (I.ok.bs b o e).1 (I.ok.bs b o e).2 (I.ok.nofr e) (I.ok.noex b o e),I.base.free b o (I.ok.bs b o e).1 (I.ok.bs b o e).2 (I.ok.noex b o e)⟩
theorem aK.bk (I:aK X pins σ H s):∀ b o,X.base.get? b=some o->s.heap.get? b=some o:=λ b o e=>(I.bs b o e).1
theorem aK.mod (I:aK X pins σ H s):Mod X.K X.mg X.base:=I.ok.mod
theorem aK.kIn (I:aK X pins σ H s):X.K.In s.heap:=I.ok.mod.kin.keeps I.bk
theorem aK.lt (I:aK X pins σ H s):X.env.locals<s.heap.objs.size:=by obtain ⟨_,hn,_⟩:=I.loc;exact hn.lt
theorem aK.sz (I:aK X pins σ H s):X.s₀.heap.objs.size<=s.heap.objs.size:=Nat.le_trans I.ok.above (Nat.le_of_lt I.lt)
theorem aK.nofs (I:aK X pins σ H s) {a:Addr} (h:s.heap.objs.size<=a):a∉X.fs:=λ hb=>by
 obtain ⟨_,o,ho,_⟩:=I.ok.funs.mem hb;exact absurd (Nat.lt_of_lt_of_le (Heap.lt_size ho) (Nat.le_trans I.sz h)) (Nat.lt_irrefl _)
theorem aK.cne (I:aK X pins σ H s):∀ x c,X.env.cells.lookup x=some c->c≠X.env.locals:=λ x c e z=>by
 obtain ⟨v,o,ho,hd⟩:=I.cell x c e;obtain ⟨m,⟨o',es,ep,ho',hd',_⟩,_⟩:=I.loc;rw [z,ho'] at ho;cases ho;rw [hd'] at hd;cases hd
theorem aK.funs (I:aK X pins σ H s):s.heap.FunFrames X.base X.outer:=by
 have all:∀ (l:List Env),(∀ b∈jv l,b∈X.fs)->X.s₀.heap.FunFrames X.base l->s.heap.FunFrames X.base l:=by
  intro l;induction l with
  | nil=>intro _ _;trivial
  | cons env r ih=>
   intro hs hl;obtain ⟨hk,⟨L,o,hf,hn,ho,hd⟩,hr⟩:=hl;have hL:L∈X.fs:=hs L (by unfold jv;rw [List.filterMap_cons,hf];exact List.mem_cons_self);obtain ⟨sl,e⟩:=I.base.slot L o ho (I.ok.frf L hL) hL λ z=>I.ok.exfs L z hL;exact ⟨hk,⟨L,_,hf,hn,e,hd⟩,ih (λ b hb=>hs b (by unfold jv;rw [List.filterMap_cons,hf];exact List.mem_cons_of_mem _ hb)) hr⟩
 exact all X.outer (λ _ hb=>hb) I.ok.funs
theorem aK.stack (I:aK X pins σ H s):s.heap.FunFrames X.base X.stack:=by
 rcases I.ok.stk with e | ⟨e,hf⟩
 . rw [e];exact I.funs
 . rw [e];obtain ⟨m,hn,_⟩:=I.loc;refine .cons (by rw [I.ok.kind];decide) hf hn ?_ I.funs;exact Heap.get?_none_of_le (Nat.le_trans I.ok.bsz I.ok.above)
theorem aK.stkSub (I:aK X pins σ H s):∀ b∈jv X.stack,b∈X.env.locals::X.fs:=λ b hb=>by
 rcases I.ok.stk with e | ⟨e,hf⟩
 . rw [e] at hb;exact List.mem_cons_of_mem _ hb
 . rw [e] at hb;unfold jv at hb;rw [List.filterMap_cons,hf] at hb;exact hb
theorem aK.stkFree (I:aK X pins σ H s):∀ b∈jv X.stack,H b=none:=λ b hb=>by
 rcases List.mem_cons.mp (I.stkSub b hb) with e | hb
 . rw [e];exact I.free
 . obtain ⟨_,o,ho,_⟩:=I.ok.funs.mem hb;exact I.base.free b o ho (I.ok.frf b hb) λ z=>I.ok.exfs b z hb
theorem aK.step {g':Array GenState} {t':Nat} {d':Drawn} {ch:List Addr} (I:aK X pins σ H s)
 (hch:∀ b∈ch,(b∈X.ex∨X.s₀.heap.objs.size<=b)/\b≠X.env.locals/\(∀ x c,X.env.cells.lookup x=some c->c≠b)/\∀ p∈X.pn++pins,p.1≠b)
 (keep:∀ b o,b≠X.env.locals->b∉X.fs->b∉ch->s.heap.get? b=some o->H b=none->h'.get? b=some o)
 (slot:∀ b o,b≠X.env.locals->b∈X.fs->b∉ch->s.heap.get? b=some o->H b=none->∃ sl,h'.get? b=some { o with slots:=sl }) (free:∀ b o,b∉ch->s.heap.get? b=some o->H b=none->H' b=none)
 (there:∀ b o,b∉ch->s.heap.get? b=some o->∃ o',h'.get? b=some o')
 (tups:∀ b xs,H b=some (.tup xs)->H' b=some (.tup xs)) (frzs:∀ b o u,H b=some (.frz o u)->H' b=some (.frz o u)) (tbls:∀ b ps,H b=some (.tbl ps)->∃ more,H' b=some (.tbl (ps++more)))
 (ns:∀ m,s.heap.Ns X.env.locals m->h'.Ns X.env.locals m) (hok:iK X.prog X.w H' h') (hg:AllBare g'):
 aK X pins σ H' { s with heap:=h',gens:=g',drawn:=d',toks:=t' }:=by
 have neL:∀ b o,X.s₀.heap.get? b=some o->b≠X.env.locals:=λ b o e=>Nat.ne_of_lt (Nat.lt_of_lt_of_le (Heap.lt_size e) I.ok.above);have neC:∀ b o,X.s₀.heap.get? b=some o->b∉X.ex->b∉ch:=λ b o e hx hb=>by
  rcases (hch b hb).1 with z | z
  . exact hx z
  . exact absurd (Nat.lt_of_lt_of_le (Heap.lt_size e) z) (Nat.lt_irrefl _)
 have cellK:∀ x c,X.env.cells.lookup x=some c->∀ v,s.heap.IsCell c v->h'.IsCell c v:=λ x c e v hy0=>by
  obtain ⟨o,ho,hd⟩:=hy0;have nch:c∉ch:=λ z=>(hch c z).2.2.1 x c e rfl;by_cases hc:c∈X.fs
  . obtain ⟨sl,q⟩:=slot c o (I.cne x c e) hc nch ho (I.freeC x c e);exact ⟨_,q,hd⟩
  . exact ⟨o,keep c o (I.cne x c e) hc nch ho (I.freeC x c e),hd⟩
 refine ⟨I.ok,I.os,hg,⟨λ b o e n hb hx=>?_,λ b o e n hb hx=>?_,λ b o e n hx=>?_,λ b o e hx=>?_,λ b xs e=>tups b xs (I.base.tups b xs e),λ b o xs e=>frzs b o xs (I.base.frzs b o xs e),λ b ps e=>?_⟩,?_,λ x c e=>?_,?_,λ x c e=>?_,λ p hp=>?_,hok,I.len⟩
 . exact keep b o (neL b o e) hb (neC b o e hx) (I.base.keep b o e n hb hx) (I.base.free b o e n hx)
 . obtain ⟨sl,e1⟩:=I.base.slot b o e n hb hx;obtain ⟨sl',e2⟩:=slot b _ (neL b o e) hb (neC b o e hx) e1 (I.base.free b o e n hx);exact ⟨sl',e2⟩
 . obtain ⟨o',e1⟩:=I.base.there b o e hx;exact free b o' (neC b o e hx) e1 (I.base.free b o e n hx)
 . obtain ⟨o',e1⟩:=I.base.there b o e hx;exact there b o' (neC b o e hx) e1
 . obtain ⟨m1,e1⟩:=I.base.tbls b ps e;obtain ⟨m2,e2⟩:=tbls b _ e1;exact ⟨m1++m2,by rw [e2,Array.append_assoc]⟩
 . obtain ⟨m,hn,hl⟩:=I.loc;refine ⟨m,ns m hn,λ i x v e1 e2 e3=>?_⟩;obtain ⟨u,r,l⟩:=hl i x v e1 e2 e3;refine ⟨u,r,?_⟩;rcases l with l | ⟨k,c,e,z⟩
   . exact .inl l
   . exact .inr ⟨k,c,e,cellK x c e _ z⟩
 . obtain ⟨v,z⟩:=I.cell x c e;exact ⟨v,cellK x c e v z⟩
 . obtain ⟨m,⟨o,_,_,ho,_⟩,_⟩:=I.loc;exact free _ o (λ z=>(hch _ z).2.1 rfl) ho I.free
 . obtain ⟨v,o,ho,hd⟩:=I.cell x c e;exact free c o (λ z=>(hch c z).2.2.1 x c e rfl) ho (I.freeC x c e)
 . obtain ⟨e,n,ne,nf,d⟩:=I.pin p hp;have nch:p.1∉ch:=λ z=>(hch p.1 z).2.2.2 p hp rfl;exact ⟨keep p.1 p.2 ne nf nch e n,free p.1 p.2 nch e n,ne,nf,d⟩
theorem aK.un {t':Nat} (I:aK X pins σ H s) (u:Un X.fs [] H H' s.heap h') (hok:iK X.prog X.w H' h'):aK X pins σ H' { s with heap:=h',toks:=t' }:=by
 obtain ⟨m,⟨o,es,ep,ho,r⟩,_⟩:=id I.loc;obtain ⟨sl,hL⟩:=u.any ho I.free (by simp);exact I.step (g':=s.gens) (d':=s.drawn) (ch:=[]) (λ _ z=>nomatch z) (λ b o _ hb _ e n=>u.keep b o e n hb (by simp)) (λ b o _ hb _ e n=>u.slot b o e n hb (by simp)) (λ b o _ e n=>u.free b o e n (by simp)) (λ b o _ e=>u.there b o e (by simp)) u.tups u.frzs u.tbls (λ m' hm=>by
  obtain ⟨o',es',ep',ho',r'⟩:=hm;rw [ho] at ho';cases ho';exact ⟨_,es',ep',hL,r'⟩) hok I.bare
theorem aK.call {g':Array GenState} {t':Nat} {d':Drawn} {ch:List Addr} (I:aK X pins σ H s) (u:Un (jv X.stack) ch H H' s.heap h') (hok:iK X.prog X.w H' h') (hg:AllBare g')
 (hch:∀ b∈ch,(b∈X.ex∨X.s₀.heap.objs.size<=b)/\b≠X.env.locals/\(∀ x c,X.env.cells.lookup x=some c->c≠b)/\∀ p∈X.pn++pins,p.1≠b):
 aK X pins σ H' { s with heap:=h',gens:=g',drawn:=d',toks:=t' }:=by
 obtain ⟨m,⟨o,es,ep,ho,r⟩,_⟩:=id I.loc;obtain ⟨sl,hL⟩:=u.any ho I.free λ z=>(hch _ z).2.1 rfl;exact I.step (ch:=ch) hch (λ b o hL hb hc e n=>u.keep b o e n (λ z=>(List.mem_cons.mp (I.stkSub b z)).elim hL hb) hc) (λ b o _ _ hc e n=>u.any e n hc) (λ b o hc e n=>u.free b o e n hc) (λ b o hc e=>u.there b o e hc) u.tups u.frzs u.tbls (λ m' hm=>by
  obtain ⟨o',es',ep',ho',r'⟩:=hm;rw [ho] at ho';cases ho';exact ⟨_,es',ep',hL,r'⟩) hok hg
theorem aK.turned {t':Nat} {it:Addr} (I:aK X pins σ H s) (k:∀ b o,b≠it->s.heap.get? b=some o->h'.get? b=some o) (hn:H it=none) (hL:it≠X.env.locals)
 (h1:it∈X.ex∨X.s₀.heap.objs.size<=it) (h2:∀ x c,X.env.cells.lookup x=some c->c≠it) (h3:∀ p∈X.pn++pins,p.1≠it):aK X pins σ H { s with heap:=h',toks:=t' }:=by
 have nit:∀ b u,H b=some u->b≠it:=λ b u e z=>by rw [z,hn] at e;cases e
 refine I.step (g':=s.gens) (d':=s.drawn) (ch:=[it]) (λ b hb=>?_) (λ b o _ _ hc e _=>k b o (λ z=>hc (by simp [z])) e) (λ b o _ _ hc e _=>⟨o.slots,k b o (λ z=>hc (by simp [z])) e⟩) (λ _ _ _ _ n=>n)
  (λ b o hc e=>⟨o,k b o (λ z=>hc (by simp [z])) e⟩) (λ _ _ e=>e) (λ _ _ _ e=>e) (λ b ps e=>⟨#[],by rw [e];simp⟩) (λ m hm=>?_) (λ b u e=>?_) I.bare
 . have e:b=it:=by simpa using hb
   subst e;exact ⟨h1,hL,h2,h3⟩
 . obtain ⟨o,es,ep,ho,r⟩:=hm;exact ⟨o,es,ep,k _ o (Ne.symm hL) ho,r⟩
 . refine (I.hok b u e).stay (λ c v hc q=>k c v ?_ q) (λ _ q=>q) λ _ _ q=>q;rcases hc with z | z
   . rw [z];exact nit b u e
   . exact nit c _ z
theorem aK.tok (I:aK X pins σ H s) (t:Nat):aK X pins σ H { s with toks:=t }:=I.un (h':=s.heap) (t':=t) Un.refl I.hok
theorem aK.kept {t':Nat} (I:aK X pins σ H s) (k:∀ b u,s.heap.get? b=some u->h'.get? b=some u):aK X pins σ H { s with heap:=h',toks:=t' }:=I.un (Un.kept k) (I.hok.kept k)
theorem aK.laid {a:Addr} {o:HO} {t':Nat} (I:aK X pins σ H s) (k:∀ b u,s.heap.get? b=some u->h'.get? b=some u) (hp:s.heap.objs.size<=a) (new:cO X.prog X.w (cR H a o) h' a o):
 aK X pins σ (cR H a o) { s with heap:=h',toks:=t' }:=I.un (Un.laid k hp (I.hok.fresh hp)) (I.hok.laid k hp new)
theorem aK.write {x e:Addr} {o:HO} {t':Nat} (I:aK X pins σ H s) (mu:GO (H x)) (he:e=x∨H e=some (.own x)) (k:∀ b u,b≠e->s.heap.get? b=some u->h'.get? b=some u) (heo:∃ u,h'.get? e=some u)
 (new:cO X.prog X.w (cR H x o) h' x o):aK X pins σ (cR H x o) { s with heap:=h',toks:=t' }:=I.un (Un.write mu he k heo) (I.hok.write mu he k heo new)
theorem aK.weak {σ':List (Option V)} (I:aK X pins σ H s) (hl:σ'.length=σ.length) (w:∀ (i:Nat) v,σ'[i]?=some (some v)->σ[i]?=some (some v)):aK X pins σ' H s:=
 ⟨I.ok,I.os,I.bare,I.base,by obtain ⟨m,hn,hl'⟩:=I.loc;exact ⟨m,hn,λ i x v e1 e2 e3=>hl' i x v e1 (w i v e2) e3⟩,I.cell,I.free,I.freeC,I.pin,I.hok,hl.trans I.len⟩
theorem aK.pins_of {pins':List (Addr×Obj)} (I:aK X pins σ H s) (h:∀ p∈pins',s.heap.get? p.1=some p.2/\H p.1=none/\p.1≠X.env.locals/\p.1∉X.fs/\∀ v,p.2.data≠.cell v):aK X pins' σ H s:=
 ⟨I.ok,I.os,I.bare,I.base,I.loc,I.cell,I.free,I.freeC,λ p hp=>(List.mem_append.mp hp).elim (λ z=>I.pin p (List.mem_append_left _ z)) (h p),I.hok,I.len⟩
theorem rR {N:List Str} (hN:N.Nodup) {i j:Nat} {x:Str} (a:N[i]?=some x) (b:N[j]?=some x):i=j:=by
 obtain ⟨h1,e1⟩:=oG a
 obtain ⟨h2,e2⟩:=oG b
 exact (List.getElem_inj hN).mp (e1.trans e2.symm)
theorem pD {M:Model} {A:Around} {E:Value->Shared->Prop} {i:Nat} {x:Str} {v:V} {u:Value} {Q:Unit->Shared->Prop} (I:aK X pins σ H s) (hN:X.N.Nodup) (hi:X.N[i]?=some x) (hx:C8 X.env.scope x) (r:be v u)
 (h:∀ s',aK X pins (σ.set i (some v)) H s'->(∃ a,Heap.SameBut a s.heap s'.heap/\(a=X.env.locals∨X.env.cells.lookup x=some a))->Q () s') (hf:X.fn x=true∨X.env.scope.names.lookup x=some .local:=by first | exact .inl rfl | exact .inr rfl | assumption):wpAny M A (storeName X.env x u) Q E s:=by
 obtain ⟨m,hn,hl⟩:=id I.loc;have hcls:(X.env.scope.kind==.class||(X.env.scope.kind==.module&&X.env.locals != X.env.globals))=false:=by rw [I.ok.kind];rfl
 have hiσ:i<σ.length:=by rw [I.len];exact (oG hi).1
 have cne:=I.cne;have tracked:∀ {a:Addr} {h':Heap},(∃ o,s.heap.get? a=some o/\H a=none)->Heap.SameBut a s.heap h'->iK X.prog X.w H h':=λ {a h'} ha hs b ob e=>by
  obtain ⟨_,_,hfree⟩:=ha;refine (I.hok b ob e).stay (λ c w' hc q=>(hs.2 c ?_).trans q) (λ _ q=>q) λ _ _ q=>q;rintro rfl;rcases hc with rfl | hc
  . rw [hfree] at e;cases e
  . rw [hfree] at hc;cases hc
 rcases hx with hk | hk
 . refine wpAny_storeName_local hk hn (λ h' hn' hs=>?_) hcls;obtain ⟨oL,_,_,hoL,_⟩:=id hn;refine h _ ⟨I.ok,I.os,I.bare,⟨λ b o e n hb hx=>?_,λ b o e n hb hx=>?_,I.base.free,λ b o e hx=>?_,I.base.tups,I.base.frzs,I.base.tbls⟩,⟨_,hn',λ j y v' e1 e2 e3=>?_⟩,λ y c e=>?_,I.free,I.freeC,λ p hp=>?_,tracked ⟨oL,hoL,I.free⟩ hs,by simpa using I.len⟩ ⟨_,hs,.inl rfl⟩
   . exact (hs.2 b (Nat.ne_of_lt (Nat.lt_of_lt_of_le (Heap.lt_size e) I.ok.above))).trans (I.base.keep b o e n hb hx)
   . obtain ⟨sl,e1⟩:=I.base.slot b o e n hb hx;exact ⟨sl,(hs.2 b (Nat.ne_of_lt (Nat.lt_of_lt_of_le (Heap.lt_size e) I.ok.above))).trans e1⟩
   . obtain ⟨o',e1⟩:=I.base.there b o e hx;exact ⟨o',(hs.2 b (Nat.ne_of_lt (Nat.lt_of_lt_of_le (Heap.lt_size e) I.ok.above))).trans e1⟩
   . by_cases hj:j=i
     . subst hj;rw [hi] at e1;cases e1;rw [List.getElem?_set_self hiσ] at e2;cases e2;exact ⟨u,r,.inl ⟨hk,by simp⟩⟩
     . rw [List.getElem?_set_ne (Ne.symm hj)] at e2;obtain ⟨u',r',q⟩:=hl j y v' e1 e2 e3;refine ⟨u',r',?_⟩;rcases q with ⟨k,e⟩ | ⟨k,c,e,z⟩
       . refine .inl ⟨k,?_⟩;have:y≠x:=λ e=>hj (rR hN e1 (e▸hi));simp [this,e]
       . exact .inr ⟨k,c,e,z.sameBut hs (cne y c e)⟩
   . obtain ⟨w',z⟩:=I.cell y c e;exact ⟨w',z.sameBut hs (cne y c e)⟩
   . obtain ⟨e,n,ne,nf,d⟩:=I.pin p hp;exact ⟨(hs.2 p.1 ne).trans e,n,ne,nf,d⟩
 . have hfn:X.fn x=true:=by
    rcases hf with z | z
    . exact z
    . rw [z] at hk;cases hk
   obtain ⟨c,hc⟩:=I.ok.has x (.inl hk);obtain ⟨w',z⟩:=I.cell x c hc;refine wpAny_storeName_cell I.ok.kind hk hc z (λ h' hc' hs=>?_);obtain ⟨oc,hoc,hocd⟩:=id z;refine h { s with heap:=h' } ⟨I.ok,I.os,I.bare,⟨λ b o e n hb hx=>?_,λ b o e n hb hx=>?_,I.base.free,λ b o e hx=>?_,I.base.tups,I.base.frzs,I.base.tbls⟩,⟨m,hn.sameBut hs (Ne.symm (cne x c hc)),λ j y v' e1 e2 e3=>?_⟩,λ y c' e=>?_,I.free,I.freeC,λ p hp=>?_,tracked ⟨oc,hoc,I.freeC x c hc⟩ hs,by simpa using I.len⟩ ⟨c,hs,.inr hc⟩
   . exact (hs.2 b (Nat.ne_of_lt (Nat.lt_of_lt_of_le (Heap.lt_size e) (I.ok.cab x c hfn hc)))).trans (I.base.keep b o e n hb hx)
   . obtain ⟨sl,e1⟩:=I.base.slot b o e n hb hx;exact ⟨sl,(hs.2 b (Nat.ne_of_lt (Nat.lt_of_lt_of_le (Heap.lt_size e) (I.ok.cab x c hfn hc)))).trans e1⟩
   . obtain ⟨o',e1⟩:=I.base.there b o e hx;exact ⟨o',(hs.2 b (Nat.ne_of_lt (Nat.lt_of_lt_of_le (Heap.lt_size e) (I.ok.cab x c hfn hc)))).trans e1⟩
   . by_cases hj:j=i
     . subst hj;rw [hi] at e1;cases e1;rw [List.getElem?_set_self hiσ] at e2;cases e2;exact ⟨u,r,.inr ⟨.inl hk,c,hc,hc'⟩⟩
     . rw [List.getElem?_set_ne (Ne.symm hj)] at e2;obtain ⟨u',r',q⟩:=hl j y v' e1 e2 e3;refine ⟨u',r',?_⟩;rcases q with q | ⟨k,c',e,z'⟩
       . exact .inl q
       . refine .inr ⟨k,c',e,z'.sameBut hs ?_⟩;rintro rfl;exact hj (rR hN e1 (I.ok.inj _ _ _ e hc▸hi))
   . by_cases hcc:c'=c
     . subst hcc;exact ⟨_,hc'⟩
     . obtain ⟨w2,z2⟩:=I.cell y c' e;exact ⟨w2,z2.sameBut hs hcc⟩
   . obtain ⟨e,n,ne,nf,d⟩:=I.pin p hp;refine ⟨(hs.2 p.1 ?_).trans e,n,ne,nf,d⟩;intro q;rw [q,hoc] at e;have q':oc=p.2:=Option.some.inj e;exact d w' (by rw [<-q'];exact hocd)
theorem sX {M:Model} {A:Around} {E:Value->Shared->Prop} {i:Nat} {x:Str} {v:V} {u:Value} {Q:Unit->Shared->Prop} (I:aK X pins σ H s) (hN:X.N.Nodup) (hi:X.N[i]?=some x) (hx:C8 X.env.scope x) (r:be v u)
 (h:∀ s',aK X pins (σ.set i (some v)) H s'->Q () s') (hf:X.fn x=true∨X.env.scope.names.lookup x=some .local:=by first | exact .inl rfl | exact .inr rfl | assumption):wpAny M A (storeName X.env x u) Q E s:=
 pD I hN hi hx r (λ s' I' _=>h s' I') hf
theorem aK.call' {s':Shared} {ch:List Addr} (I:aK X pins σ H s) (ho:s'.os=s.os) (u:Un (jv X.stack) ch H H' s.heap s'.heap) (hok:iK X.prog X.w H' s'.heap) (hg:AllBare s'.gens)
 (hch:∀ b∈ch,(b∈X.ex∨X.s₀.heap.objs.size<=b)/\b≠X.env.locals/\(∀ x c,X.env.cells.lookup x=some c->c≠b)/\∀ p∈X.pn++pins,p.1≠b):aK X pins σ H' s':=by
 obtain ⟨h',g',d',t',o'⟩:=s';have e:o'=s.os:=ho;subst e;exact I.call (g':=g') (t':=t') (d':=d') u hok hg hch
end
noncomputable abbrev XK:=Value->Option Addr->Hp->Prop
noncomputable abbrev St:=List (Option V)
noncomputable abbrev VK:=V->Hp->Prop
noncomputable abbrev TE:=St->Hp->VK->Prop
noncomputable abbrev TT:=St->Hp->(Bool->Hp->Prop)->Prop
noncomputable abbrev TA:=St->Hp->(List V->Hp->Prop)->Prop
structure jb where
 nx:St->Hp->Prop
 rt:VK
 bk:St->Hp->Prop:=λ _ _=>False
 ct:St->Hp->Prop:=λ _ _=>False
noncomputable abbrev TS:=jb->St->Hp->Prop
noncomputable def EP (X:Cx) (pins:List (Addr×Obj)) (σ:St) (Q:VK) (u:Value) (s':Shared):Prop:=∃ v H',aK X pins σ H' s'/\be v u/\Q v H'
noncomputable def TP (X:Cx) (pins:List (Addr×Obj)) (σ:St) (Q:Bool->Hp->Prop) (b:Bool) (s':Shared):Prop:=∃ H',aK X pins σ H' s'/\Q b H'
noncomputable def AP (X:Cx) (pins:List (Addr×Obj)) (σ:St) (Q:List V->Hp->Prop) (us:List Value) (s':Shared):Prop:=∃ vs H',aK X pins σ H' s'/\bn vs us/\Q vs H'
noncomputable def SP (X:Cx) (pins:List (Addr×Obj)) (D:jb) (f:Flow) (s':Shared):Prop:=
 match f with
 | .next=>∃ σ' H',aK X pins σ' H' s'/\D.nx σ' H'
 | .brk=>∃ σ' H',aK X pins σ' H' s'/\D.bk σ' H'
 | .cont=>∃ σ' H',aK X pins σ' H' s'/\D.ct σ' H'
 | .ret u=>∃ v σ' H',aK X pins σ' H' s'/\be v u/\D.rt v H'
noncomputable def PE (X:Cx) (e:Expr) (t:TE):Prop:=
 ∀ (pins:List (Addr×Obj)) (s:Shared) (σ:St) (H:Hp) (Q:VK),aK X pins σ H s->t σ H Q->wpAny (model X.prog X.w) X.A (eval e X.env) (EP X pins σ Q) X.xe s
noncomputable def PT (X:Cx) (e:Expr) (t:TT):Prop:=
 ∀ (pins:List (Addr×Obj)) (s:Shared) (σ:St) (H:Hp) (Q:Bool->Hp->Prop),aK X pins σ H s->t σ H Q->wpAny (model X.prog X.w) X.A (isTrue e X.env (eval e X.env)) (TP X pins σ Q) X.xe s
noncomputable def PW (X:Cx) (e:Expr) (t:TT):Prop:=
 ∀ (whole:Sem Value) (pins:List (Addr×Obj)) (s:Shared) (σ:St) (H:Hp) (Q:Bool->Hp->Prop),aK X pins σ H s->t σ H Q->wpAny (model X.prog X.w) X.A (isTrue e X.env whole) (TP X pins σ Q) X.xe s
theorem PW.pt {X:Cx} {e:Expr} {t:TT} (h:PW X e t):PT X e t:=h _
noncomputable def PA (X:Cx) (es:List Expr) (t:TA):Prop:=
 ∀ (pos:Pos) (pins:List (Addr×Obj)) (s:Shared) (σ:St) (H:Hp) (Q:List V->Hp->Prop),aK X pins σ H s->t σ H Q->wpAny (model X.prog X.w) X.A (spliced (backTo pos (starEach es X.env))) (AP X pins σ Q) X.xe s
noncomputable def PS (X:Cx) (st:Stmt) (t:TS):Prop:=
 ∀ (pins:List (Addr×Obj)) (s:Shared) (σ:St) (H:Hp) (D:jb),aK X pins σ H s->t D σ H->wpAny (model X.prog X.w) X.A (exec st X.env) (SP X pins D) X.xe s
noncomputable def mU (X:Cx) (st:List Stmt) (t:TS):Prop:=
 ∀ (pins:List (Addr×Obj)) (s:Shared) (σ:St) (H:Hp) (D:jb),aK X pins σ H s->t D σ H->wpAny (model X.prog X.w) X.A (execs st X.env) (SP X pins D) X.xe s
theorem cc {α:Type} {t:Sem α} {Q Q':α->Shared->Prop} {M:Model} {A:Around} {E:Value->Shared->Prop} {s:Shared} (h:wpAny M A t Q E s) (hQ:∀ a s,Q a s->Q' a s):wpAny M A t Q' E s:=wpAny_mono h hQ λ _ _ x=>x
end L2
namespace L2
open PySem PySem.Spec PyProof.Rows
open PySem.W (Frag)
section
variable {X:Cx}
noncomputable def AG (i:Nat):TE:=λ σ H Q=>∃ v,σ[i]?=some (some v)/\Q v H
noncomputable def tC (v:V):TE:=λ _ H Q=>Q v H
theorem J9 {i:Nat} {x:Str} {pos:Pos} (hN:X.N[i]?=some x) (hv:Jh X.env.scope x) (hd:(x==("__debug__" : Str))=false) (hcd:(x==("__classdict__" : Str))=false):PE X (.Name x pos) (AG i):=by
 intro pins s σ H Q I h;obtain ⟨v,e,h⟩:=h;obtain ⟨m,hn,hl⟩:=I.loc;obtain ⟨u,r,l⟩:=hl i x v hN e hv;have fin:EP X pins σ Q u s:=⟨v,H,I,r,h⟩
 rcases l with ⟨hk,hm⟩ | ⟨hk,c,hc,hcell⟩
 . exact wpAny_Name (wpAny_loadName_local I.ok.kind hk hn hm fin) hd
 . rcases hk with hk | hk
   . exact wpAny_Name (wpAny_loadName_cell I.ok.kind hk hc hcell fin) hd
   . exact wpAny_Name (wpAny_loadName_free I.ok.kind hk hc hcell fin hcd) hd
theorem Jt {i j pos}:PE X (.Constant (.int i) j pos) (tC (.int i)):=λ _ _ _ H _ I h=>wpAny_Constant_int ⟨.int i,H,I.tok _,⟨_,rfl⟩,h⟩
theorem Le {b j pos}:PE X (.Constant (.bool b) j pos) (tC (.bl b)):=λ _ _ _ H _ I h=>Constant_bool ⟨.bl b,H,I,rfl,h⟩
theorem Kk {j pos}:PE X (.Constant .none j pos) (tC .non):=λ _ _ _ H _ I h=>Constant_none ⟨.non,H,I,rfl,h⟩
theorem Km {x j pos}:PE X (.Constant (.str x) j pos) (tC (.str x)):=λ _ _ _ H _ I h=>Calls.Constant_str ⟨.str x,H,I.tok _,⟨_,rfl⟩,h⟩
noncomputable def Gl (X:Cx) (x:Str):Prop:=X.env.kindOf x=some .globalImplicit
theorem hU {E:Value->Shared->Prop} {pins:List (Addr×Obj)} {s:Shared} {σ:St} {H:Hp} {x:Str} {u:Value} {pos:Pos} {Q:Value->Shared->Prop} (I:aK X pins σ H s) (hg:Gl X x) (hm:X.mg x=some u) (h:Q u s)
 (hd:(x==("__debug__" : Str))=false:=by decide):wpAny (model X.prog X.w) X.A (eval (.Name x pos) X.env) Q E s:=
 Calls.Name_function_global I.ok.kind hg (Calls.loadGlobal_global (by rw [I.ok.glob];exact I.mod.glob.keeps I.bk) hm h) hd
theorem jz {E:Value->Shared->Prop} {pins:List (Addr×Obj)} {s:Shared} {σ:St} {H:Hp} {x:Str} {u:Value} {pos:Pos} {Q:Value->Shared->Prop} (I:aK X pins σ H s) (hg:Gl X x) (hm:X.mg x=none) (hv:bootBuiltins x=some u) (h:Q u s)
 (hn:x ≠ "__name__" := by decide) (hd:(x==("__debug__" : Str))=false:=by decide):wpAny (model X.prog X.w) X.A (eval (.Name x pos) X.env) Q E s:=by
 obtain ⟨mb,h1,h2⟩:=I.mod.blt;exact Calls.Name_function_global I.ok.kind hg (Calls.loadGlobal_builtin (by rw [I.ok.glob];exact I.mod.glob.keeps I.bk) hm (by rw [I.ok.blt];exact h1.keeps I.bk) ((h2 x hn).trans hv) h) hd
theorem v3 {x:Str} {v:V} {u:Value} {pos:Pos} (hg:Gl X x) (hm:X.mg x=some u) (r:be v u) (hd:(x==("__debug__" : Str))=false:=by decide):PE X (.Name x pos) (tC v):=
 λ _ _ _ H _ I h=>hU I hg hm ⟨v,H,I,r,h⟩ hd
theorem vA {x:Str} {v:V} {u:Value} {pos:Pos} (hg:Gl X x) (hm:X.mg x=none) (hv:bootBuiltins x=some u) (r:be v u) (hn:x ≠ "__name__" := by decide) (hd:(x==("__debug__" : Str))=false:=by decide):PE X (.Name x pos) (tC v):=
 λ _ _ _ H _ I h=>jz I hg hm hv ⟨v,H,I,r,h⟩ hn hd
variable {a b:Expr} {ta tb:TE} {pos:Pos}
noncomputable def PC (X:Cx) (op:CmpOp) (a b:Expr) (t:TE):Prop:=
 ∀ (pins:List (Addr×Obj)) (s:Shared) (σ:St) (H:Hp) (Q:VK),aK X pins σ H s->t σ H Q->
  wpAny (model X.prog X.w) X.A (eval a X.env) (λ v s₁=>wpAny (model X.prog X.w) X.A (eval b X.env) (λ u s₂=>wpAny (model X.prog X.w) X.A (compareOp op v u) (EP X pins σ Q) X.xe s₂) X.xe s₁) X.xe s
noncomputable def tB (t:TE):TT:=λ σ H Q=>t σ H λ x H1=>∃ c,x=.bl c/\Q c H1
theorem JO {op:CmpOp} {t:TE} (h:PC X op a b t) (h1:behindInMarks op b=false):PT X (.Compare a [op] [b] pos) (tB t):=by
 intro pins s σ H Q I hw;refine wpAny_isTrue_Compare1 (cc (h pins s σ H _ I hw) λ v s1 h1=>cc h1 λ u s2 h2=>cc h2 λ c s3 hq0=>?_) h1;obtain ⟨x,H1,I1,r1,q1⟩:=hq0;obtain ⟨d,rfl,q⟩:=q1;cases r1;exact wpAny_truthy_bool ⟨H1,I1,q⟩
theorem Kj {e:Expr} {t:TE} (h:PE X e t) (he:∀ whole,isTrue e X.env whole=(do let v <-whole;standAt e.pos;holding [v] (truthy v))):PT X e (tB t):=by
 intro pins s σ H Q I hw;refine isTrue_plain (cc (h pins s σ H _ I hw) λ v s1 hq0=>?_) (he _);obtain ⟨x,H1,I1,r1,q1⟩:=hq0;obtain ⟨d,rfl,q⟩:=q1;cases r1;exact wpAny_truthy_bool ⟨H1,I1,q⟩
variable {tA tB':TT} {fL:List Expr}
noncomputable def Ds (t u:TT):TT:=λ σ H Q=>t σ H λ c H1=>if c=true then u σ H1 Q else Q false H1
noncomputable def JN (t u:TT):TT:=λ σ H Q=>t σ H λ c H1=>if c=true then Q true H1 else u σ H1 Q
noncomputable def CJ (t:TT):TT:=λ σ H Q=>t σ H λ c H1=>Q (!c) H1
theorem Io (ha:PT X a tA):PW X (.BoolOp .And [a] pos) tA:=by
 intro wh pins s σ H Q I h;refine isTrue_and (cc (ha pins s σ H Q I h) λ c s1 e=>?_);cases c with
 | true=>exact isTrue_and_nil e
 | false=>exact e
theorem Js (ha:PT X a tA):PW X (.BoolOp .Or [a] pos) tA:=by
 intro wh pins s σ H Q I h;refine isTrue_or (cc (ha pins s σ H Q I h) λ c s1 e=>?_);cases c with
 | false=>exact isTrue_or_nil e
 | true=>exact e
theorem JF (ha:PT X a tA) (hb:PW X (.BoolOp .And (b::fL) pos) tB'):PW X (.BoolOp .And (a::b::fL) pos) (Ds tA tB'):=by
 intro wh pins s σ H Q I h;refine isTrue_and (cc (ha pins s σ H _ I h) λ c s1 hq0=>?_);obtain ⟨H1,I1,q1⟩:=hq0;cases c with
 | true=>exact hb wh pins s1 σ H1 Q I1 q1
 | false=>exact ⟨H1,I1,q1⟩
theorem Lm (ha:PT X a tA) (hb:PW X (.BoolOp .Or (b::fL) pos) tB'):PW X (.BoolOp .Or (a::b::fL) pos) (JN tA tB'):=by
 intro wh pins s σ H Q I h;refine isTrue_or (cc (ha pins s σ H _ I h) λ c s1 hq0=>?_);obtain ⟨H1,I1,q1⟩:=hq0;cases c with
 | true=>exact ⟨H1,I1,q1⟩
 | false=>exact hb wh pins s1 σ H1 Q I1 q1
theorem Kn (ha:PT X a tA):PT X (.UnaryOp .Not a pos) (CJ tA):=by
 intro pins s σ H Q I h;exact isTrue_not (ha pins s σ H (λ c H1=>Q (!c) H1) I h)
noncomputable def C3 (ta tb:TE):TE:=λ σ H Q=>ta σ H λ x H1=>∃ c,x=.bl c/\if c=true then tb σ H1 Q else Q (.bl false) H1
theorem Jy {op} {t:TE} (h:PE X a t):PE X (.BoolOp op [a] pos) t:=λ pins s σ H Q I hw=>BoolOp_one (h pins s σ H Q I hw)
theorem JD (ha:PE X a ta) (hb:PE X (.BoolOp .And (b::fL) pos) tb):PE X (.BoolOp .And (a::b::fL) pos) (C3 ta tb):=by
 intro pins s σ H Q I h;refine BoolOp_and (cc (ha pins s σ H _ I h) λ v s1 hq0=>?_);obtain ⟨x,H1,I1,r1,q1⟩:=hq0;obtain ⟨c,rfl,q1⟩:=q1;cases r1;refine wpAny_truthy_bool ?_;cases c with
 | true=>exact hb pins s1 σ H1 Q I1 q1
 | false=>exact ⟨.bl false,H1,I1,rfl,q1⟩
noncomputable def Jm (t:TT) (ta tb:TE):TE:=λ σ H Q=>t σ H λ c H1=>if c=true then ta σ H1 Q else tb σ H1 Q
theorem Hb {c:Expr} (hc:PT X c tA) (ha:PE X a ta) (hb:PE X b tb):PE X (.IfExp c a b pos) (Jm tA ta tb):=by
 intro pins s σ H Q I h;refine wpAny_IfExp (cc (hc pins s σ H _ I h) λ d s1 hq0=>?_);obtain ⟨H1,I1,q1⟩:=hq0;cases d with
 | true=>exact ha pins s1 σ H1 Q I1 q1
 | false=>exact hb pins s1 σ H1 Q I1 q1
end
end L2
namespace L2
open PySem PySem.Spec PyProof.Rows
open PySem.W (Frag)
noncomputable def dM (K:Frag) (H:Hp) (a:Addr) (xs:List V):Prop:=
 Rd H a (.lst xs)∨
  ∃ (o:Obj) (its:Array Value) (n:Nat),K.lookup a=some o/\o.cls=.type "list" /\ o.dict=none/\o.data=.seq its n/\its.size<=sizeLine/\bn xs its.toList
noncomputable def ii (K:Frag) (H:Hp) (a:Addr) (xs:List V):Prop:=
 Rd H a (.tup xs)∨
  ∃ (o:Obj) (its:Array Value) (n:Nat),K.lookup a=some o/\o.cls=.type "tuple" /\ o.data=.seq its n/\its.size<=sizeLine/\bn xs its.toList
noncomputable def Kq:Value->Option V
 | .none=>some .non
 | .bool b=>some (.bl b)
 | .int i _=>some (.int i)
 | .str x _=>some (.str x)
 | .bytes b _=>some (.byt b)
 | .float b _=>some (.flt b)
 | .ref a=>some (.ref a)
 | .type n=>some (.ty n)
 | _=>none
theorem be.abs {x:V} {u:Value} (r:be x u):Kq u=some x:=by
 cases x with
 | non=>cases r;rfl
 | bl _=>cases r;rfl
 | int _=>obtain ⟨t,rfl⟩:=r;rfl
 | str _=>obtain ⟨t,rfl⟩:=r;rfl
 | byt _=>obtain ⟨t,rfl⟩:=r;rfl
 | flt _=>obtain ⟨t,rfl⟩:=r;rfl
 | ref _=>cases r;rfl
 | ty _=>cases r;rfl
theorem be.inj {x y:V} {u:Value} (r:be x u) (q:be y u):x=y:=Option.some.inj (r.abs.symm.trans q.abs)
theorem bn.inj {xs ys:List V} {us:List Value} (h:bn xs us) (h':bn ys us):xs=ys:=by
 induction h generalizing ys with
 | nil=>cases h';rfl
 | cons r _ ih=>
  cases h' with
  | cons r' t'=>rw [r.inj r',ih t']
section
variable {X:Cx} {pins:List (Addr×Obj)} {σ:St} {H:Hp} {s:Shared} {a:Addr} {xs ys:List V}
theorem dM.of {K:Frag} (h:H a=some (.lst xs)):dM K H a xs:=.inl (.inl h)
theorem ii.of {K:Frag} (h:H a=some (.tup xs)):ii K H a xs:=.inl (.inl h)
theorem aK.list (I:aK X pins σ H s) (h:dM X.K H a xs):∃ its:List Value,bn xs its/\PlainL s.heap a its.toArray/\xs.length<=sizeLine:=by
 rcases h with h | ⟨o,its,n,hk,hc,hd,hs,hz,r⟩
 . obtain ⟨z,its,n,r,e⟩:=h.ok I.hok;exact ⟨its,r,⟨_,n,e,rfl,rfl,rfl⟩,z⟩
 . refine ⟨its.toList,r,⟨o,n,I.kIn a o hk,hc,hd,by simpa using hs⟩,?_⟩;have e:=r.length;simp only [Array.length_toList] at e;omega
theorem aK.tuple (I:aK X pins σ H s) (h:ii X.K H a xs):∃ its:List Value,bn xs its/\IsTup s.heap a its.toArray/\xs.length<=sizeLine:=by
 rcases h with h | ⟨o,its,n,hk,hc,hs,hz,r⟩
 . obtain ⟨z,its,r,p⟩:=h.ok I.hok;exact ⟨its,r,p,z⟩
 . refine ⟨its.toList,r,⟨o,I.kIn a o hk,hc,n,by simpa using hs⟩,?_⟩;have e:=r.length;simp only [Array.length_toList] at e;omega
theorem aK.list_inj (I:aK X pins σ H s) (h:dM X.K H a xs) (h':dM X.K H a ys):xs=ys:=by
 obtain ⟨its,r,⟨o,n,e,_,_,d⟩,_⟩:=I.list h;obtain ⟨its',r',⟨o',n',e',_,_,d'⟩,_⟩:=I.list h';rw [e] at e';cases e';rw [d] at d';injection d' with d1 _
 have:its=its':=by simpa using congrArg Array.toList d1
 subst this;exact r.inj r'
theorem aK.tuple_inj (I:aK X pins σ H s) (h:ii X.K H a xs) (h':ii X.K H a ys):xs=ys:=by
 obtain ⟨its,r,⟨o,e,_,n,d⟩,_⟩:=I.tuple h;obtain ⟨its',r',⟨o',e',_,n',d'⟩,_⟩:=I.tuple h';rw [e] at e';cases e';rw [d] at d';injection d' with d1 _
 have:its=its':=by simpa using congrArg Array.toList d1
 subst this;exact r.inj r'
end
noncomputable abbrev Cx.wish (X:Cx) (E:Value->Shared->Prop):Cx:={ X with xe:=E }
noncomputable abbrev Cx.nox (X:Cx):Cx:=X.wish λ _ _=>False
theorem Cx.Ok.wish {X:Cx} (ok:X.Ok) (E:Value->Shared->Prop):(X.wish E).Ok:=
 ⟨ok.mod,ok.kind,ok.glob,ok.blt,ok.above,ok.inj,ok.has,ok.cab,ok.hd,ok.frames,ok.stk,ok.exf,ok.bs,ok.bsz,ok.noex,ok.exfs,ok.funs,ok.frf⟩
theorem Cx.Ok.unwish {X:Cx} {E:Value->Shared->Prop} (ok:(X.wish E).Ok):X.Ok:=
 ⟨ok.mod,ok.kind,ok.glob,ok.blt,ok.above,ok.inj,ok.has,ok.cab,ok.hd,ok.frames,ok.stk,ok.exf,ok.bs,ok.bsz,ok.noex,ok.exfs,ok.funs,ok.frf⟩
section
variable {X:Cx} {pins:List (Addr×Obj)} {σ:St} {H:Hp} {s:Shared} {E:Value->Shared->Prop}
theorem aK.wish (I:aK X pins σ H s) (E:Value->Shared->Prop):aK (X.wish E) pins σ H s:=⟨I.ok.wish E,I.os,I.bare,I.base,I.loc,I.cell,I.free,I.freeC,I.pin,I.hok,I.len⟩
theorem aK.unwish (I:aK (X.wish E) pins σ H s):aK X pins σ H s:=⟨I.ok.unwish,I.os,I.bare,I.base,I.loc,I.cell,I.free,I.freeC,I.pin,I.hok,I.len⟩
theorem SP.unwish {D:jb} {f:Flow} {s':Shared} (h:SP (X.wish E) pins D f s'):SP X pins D f s':=by
 cases f with
 | next=>obtain ⟨σ',H',I,q⟩:=h;exact ⟨σ',H',I.unwish,q⟩
 | brk=>obtain ⟨σ',H',I,q⟩:=h;exact ⟨σ',H',I.unwish,q⟩
 | cont=>obtain ⟨σ',H',I,q⟩:=h;exact ⟨σ',H',I.unwish,q⟩
 | ret u=>obtain ⟨v,σ',H',I,r,q⟩:=h;exact ⟨v,σ',H',I.unwish,r,q⟩
theorem mU.nox {st:List Stmt} {t:TS} (h:mU X.nox st t):mU X st t:=λ pins s σ H D I hw=>
 wpAny_mono (h pins s σ H D (I.wish _) hw) (λ _ _ q=>q.unwish) λ _ _ z=>False.elim z
end
section
variable {X:Cx} {st:Stmt} {fL:List Stmt} {t u:TS} {e:Expr} {te:TE} {pos:Pos}
noncomputable def C5:TS:=λ D σ H=>D.nx σ H
noncomputable def Dm (t u:TS):TS:=λ D σ H=>t { D with nx:=u D } σ H
theorem Ji:mU X [] C5:=λ _ _ σ H _ I h=>wpAny_execs_nil ⟨σ,H,I,h⟩
theorem Gp (h1:PS X st t) (h2:mU X fL u):mU X (st::fL) (Dm t u):=by
 intro pins s σ H D I h;refine wpAny_execs_cons (cc (h1 pins s σ H { D with nx:=u D } I h) λ f s1 q=>?_);cases f with
 | next=>
  obtain ⟨σ',H',I',q⟩:=q;exact h2 pins s1 σ' H' D I' q
 | ret v=>exact q
 | brk=>exact q
 | cont=>exact q
theorem IX (h1:PS X st t):mU X [st] t:=by
 intro pins s σ H D I h;refine wpAny_execs_cons (cc (h1 pins s σ H D I h) λ f s1 q=>?_);cases f with
 | next=>exact wpAny_execs_nil q
 | ret v=>exact q
 | brk=>exact q
 | cont=>exact q
theorem aK.quiet {pins:List (Addr×Obj)} {σ:St} {H:Hp} {s:Shared} (I:aK X pins σ H s):interactive X.env=false:=by simp [interactive,I.ok.kind]
noncomputable def vi (te:TE):TS:=λ D σ H=>te σ H λ _ H1=>D.nx σ H1
theorem IR (he:PE X e te) (hs:swapsWith e none pos.line X.env=pure false):PS X (.Expr e pos) (vi te):=by
 intro pins s σ H D I h;exact wpAny_Expr_any (cc (he pins s σ H _ I h) λ v s1 hy0=>by obtain ⟨x,H1,I1,r1,q1⟩:=hy0;exact ⟨σ,H1,I1,q1⟩) I.quiet hs
noncomputable def EQ (te:TE):TS:=λ D σ H=>te σ H D.rt
theorem Jv (he:PE X e te):PS X (.Return (some e) pos) (EQ te):=by
 intro pins s σ H D I h;exact wpAny_Return_some (cc (he pins s σ H _ I h) λ v s1 hy0=>by obtain ⟨x,H1,I1,r1,q1⟩:=hy0;exact ⟨x,σ,H1,I1,r1,q1⟩)
noncomputable def Cj:TS:=λ D _ H=>D.rt .non H
theorem Ip:PS X (.Return none pos) Cj:=λ _ _ σ H _ I h=>wpAny_Return_none ⟨.non,σ,H,I,rfl,h⟩
noncomputable def Et (c:TT) (t u:TS):TS:=λ D σ H=>c σ H λ b H1=>if b=true then t D σ H1 else u D σ H1
theorem Lc {c:Expr} {a b:List Stmt} {tc:TT} (hc:PT X c tc) (ha:mU X a t) (hb:mU X b u):PS X (.If c a b pos) (Et tc t u):=by
 intro pins s σ H D I h;refine wpAny_If (cc (hc pins s σ H _ I h) λ d s1 hq0=>?_);obtain ⟨H1,I1,q1⟩:=hq0;cases d with
 | true=>exact ha pins s1 σ H1 D I1 q1
 | false=>exact hb pins s1 σ H1 D I1 q1
noncomputable def yz:TS:=λ _ _ _=>False
theorem Gs:PS X st yz:=λ _ _ _ _ _ _ h=>h.elim
end
noncomputable abbrev TG:=V->St->Hp->(St->Hp->Prop)->Prop
noncomputable abbrev tm:=List V->St->Hp->(St->Hp->Prop)->Prop
noncomputable def PG (X:Cx) (target:Expr) (t:TG):Prop:=
 ∀ (pins:List (Addr×Obj)) (s:Shared) (σ:St) (H:Hp) (v:V) (u:Value) (Q:St->Hp->Prop),aK X pins σ H s->be v u->t v σ H Q->
  wpAny (model X.prog X.w) X.A (assign target X.env u) (λ _ s'=>∃ σ' H',aK X pins σ' H' s'/\Q σ' H') X.xe s
noncomputable def BM (X:Cx) (ts:List Expr) (t:tm):Prop:=
 ∀ (pins:List (Addr×Obj)) (s:Shared) (σ:St) (H:Hp) (vs:List V) (us:List Value) (Q:St->Hp->Prop),aK X pins σ H s->bn vs us->t vs σ H Q->
  wpAny (model X.prog X.w) X.A (assignInOrder ((assignEach ts X.env).map (·.2)) us) (λ _ s'=>∃ σ' H',aK X pins σ' H' s'/\Q σ' H') X.xe s
section
variable {X:Cx} {pos:Pos}
noncomputable def me (i:Nat):TG:=λ v σ H Q=>Q (σ.set i (some v)) H
theorem Il {i:Nat} {x:Str} (hN:X.N.Nodup) (hi:X.N[i]?=some x) (hx:C8 X.env.scope x) (hf:X.fn x=true∨X.env.scope.names.lookup x=some .local):PG X (.Name x pos) (me i):=by
 intro pins s σ H v u Q I r h;exact wpAny_assign_Name (sX I hN hi hx r (λ s' I'=>⟨_,H,I',h⟩) hf)
noncomputable def FW:tm:=λ vs σ H Q=>vs=[]/\Q σ H
noncomputable def BS (t:TG) (u:tm):tm:=λ vs σ H Q=>∃ v r,vs=v::r/\t v σ H λ σ' H'=>u r σ' H' Q
theorem IU:BM X [] FW:=by
 intro pins s σ H vs us Q I r h;obtain ⟨e,h⟩:=h;subst e;cases r;exact assignInOrder_nil ⟨σ,H,I,h⟩
theorem Gx {e:Expr} {es:List Expr} {t:TG} {u:tm} (h1:PG X e t) (h2:BM X es u)
 (hs:(assignEach (e::es) X.env).map (·.2)=assign e X.env::(assignEach es X.env).map (·.2)):BM X (e::es) (BS t u):=by
 intro pins s σ H vs us Q I r h;obtain ⟨v,vr,e1,h⟩:=h;subst e1;cases r with
 | cons r rr=>
  rw [hs];refine assignInOrder_cons (cc (h1 pins s σ H _ _ _ I r h) λ _ s1 hq0=>?_);obtain ⟨σ1,H1,I1,q1⟩:=hq0;exact h2 pins s1 σ1 H1 _ _ Q I1 rr q1
noncomputable def B2 (K:Frag) (n:Nat) (t:tm):TG:=λ v σ H Q=>∃ a xs,v=.ref a/\ii K H a xs/\xs.length=n/\t xs σ H Q
theorem yR {es:List Expr} {k:Nat} {t:tm} {n:Nat} (hc:X.calm=true) (h:BM X es t)
 (hn:(assignEach es X.env).length=n:=by rfl) (hst:(assignEach es X.env).findIdx? (·.1)=none:=by rfl):PG X (.Tuple es k pos) (B2 X.K n t):=by
 intro pins s σ H v u Q I r hw;obtain ⟨a,xs,e1,hq,hl,hw⟩:=hw;subst e1;cases r;obtain ⟨its,rv,ht,hz⟩:=I.tuple hq;refine assign_Tuple_tuple (I.ok.hd hc) ht (by simp [hn,<-hl,rv.length]) hst λ h' hx=>?_;have I1:aK X pins σ H { s with heap:=h' }:=I.kept (t':=s.toks) λ b o e=>hx b o (Nat.ne_of_lt (Heap.lt_size e)) e;exact h pins _ σ H xs _ Q I1 (by simpa using rv) hw
noncomputable def tY (te:TE) (g:TG):TS:=λ D σ H=>te σ H λ x H1=>g x σ H1 D.nx
theorem JR {tg e:Expr} {te:TE} {g:TG} (he:PE X e te) (hg:PG X tg g) (hs:swapsWithSole [tg] e pos.line X.env=pure false) (hw:swappedStores [tg] e X.env=pure none)
 (h1:(assignEach [tg] X.env).map (·.2)=[assign tg X.env]):PS X (.Assign [tg] e pos) (tY te g):=by
 intro pins s σ H D I h;refine wpAny_Assign_stores (cc (he pins s σ H _ I h) λ v s1 hq0=>?_) hs hw;obtain ⟨x,H1,I1,r1,q1⟩:=hq0;rw [h1];exact cc (hg pins s1 σ H1 x v _ I1 r1 q1) λ _ s2 q=>q
theorem JT {i:Nat} {x:Str} {e:Expr} {te:TE} {pos':Pos} (hN:X.N.Nodup) (hi:X.N[i]?=some x) (hx:C8 X.env.scope x) (he:PE X e te) (hs:swapsWith e (some (.Name x pos')) pos.line X.env=pure false) (hf:X.fn x=true∨X.env.scope.names.lookup x=some .local):
 PS X (.Assign [.Name x pos'] e pos) (tY te (me i)):=by
 intro pins s σ H D I h;refine wpAny_Assign_Name (cc (he pins s σ H _ I h) λ v s1 hq0=>?_) hs;obtain ⟨y,H1,I1,r1,q1⟩:=hq0;exact sX I1 hN hi hx r1 (λ s2 I2=>⟨_,H1,I2,q1⟩) hf
end
section
variable {X:Cx} {pos:Pos}
noncomputable def xS (c:TT) (tb:TS):TS:=λ D σ H=>∃ W:Nat->St->Hp->Prop,(∃ m,W m σ H)/\∀ m σ H,W m σ H->
 c σ H λ b H1=>if b=true then ∃ N:St->Hp->Prop,(∀ σ' H',N σ' H'->∃ m',m'<m/\W m' σ' H')/\tb { D with nx:=N,ct:=N,bk:=D.nx } σ H1 else D.nx σ H1
theorem FY {c:Expr} {body:List Stmt} {tc:TT} {tb:TS} (hp:PassesOwn (model X.prog X.w) X.A X.env X.xe) (hc:PT X c tc) (hb:mU X body tb):PS X (.While c body [] pos) (xS tc tb):=by
 intro pins s σ H D I h;obtain ⟨W,⟨m0,w0⟩,turn⟩:=h;refine wpAny_While (codeAny_whileLoop (λ n s'=>∃ σ' H',aK X pins σ' H' s'/\W n σ' H') ?_ m0 ⟨σ,H,I,w0⟩);rintro n s1 ⟨σ1,H1,I1,w1⟩;refine wpAny_passesOwn hp (cc (hc pins s1 σ1 H1 _ I1 (turn n σ1 H1 w1)) λ b s2 hq0=>?_);obtain ⟨H2,I2,q2⟩:=hq0;cases b with
 | true=>
  obtain ⟨N,hN,q2⟩:=q2;rw [if_pos rfl];refine wpAny_passesOwn hp (cc (hb pins s2 σ1 H2 _ I2 q2) λ f s3 q3=>?_);cases f with
  | next=>
   obtain ⟨σ3,H3,I3,n3⟩:=q3;obtain ⟨m',hm,w3⟩:=hN σ3 H3 n3;exact ⟨m',hm,σ3,H3,I3,w3⟩
  | cont=>
   obtain ⟨σ3,H3,I3,n3⟩:=q3;obtain ⟨m',hm,w3⟩:=hN σ3 H3 n3;exact ⟨m',hm,σ3,H3,I3,w3⟩
  | brk=>exact q3
  | ret v=>exact q3
 | false=>
  rw [if_neg Bool.false_ne_true];exact wpAny_execs_nil ⟨σ1,H2,I2,q2⟩
end
structure It where
 go:Nat->Hp->Prop
 yld:Nat->Hp->V->Hp->Prop
 stop:Nat->Hp->Prop
noncomputable def kB (X:Cx) (pins:List (Addr×Obj)) (H:Hp) (b:Addr):Prop:=
 H b=none/\b≠X.env.locals/\b∉X.fs/\(b∈X.ex∨X.s₀.heap.objs.size<=b)/\(∀ x c,X.env.cells.lookup x=some c->c≠b)/\∀ p∈X.pn++pins,p.1≠b
theorem aK.fpOk {X:Cx} {pins:List (Addr×Obj)} {σ:St} {H H':Hp} {s:Shared} {b:Addr} (I:aK X pins σ H s) (hb:s.heap.objs.size<=b) (hn:H' b=none):kB X pins H' b:=by
 refine ⟨hn,Nat.ne_of_gt (Nat.lt_of_lt_of_le I.lt hb),I.nofs hb,.inr (Nat.le_trans I.sz hb),λ x c e z=>?_,λ p hp z=>?_⟩
 . obtain ⟨v,q⟩:=I.cell x c e;exact absurd (Nat.lt_of_lt_of_le q.lt (by rw [z];exact hb)) (Nat.lt_irrefl _)
 . exact absurd (Nat.lt_of_lt_of_le (Heap.lt_size (I.pin p hp).1) (by rw [z];exact hb)) (Nat.lt_irrefl _)
structure vX (P:Program) (w:World) (K:Frag) (tg:Expr) (J:It) (fp:List Addr) (it:Addr) (tn:Nat->Heap->Prop):Prop where
 mem:it∈fp
 obj:∀ i h,tn i h->∀ b∈fp,∃ o,h.get? b=some o/\∀ v,o.data≠.cell v
 keep:∀ i h h',tn i h->(∀ b∈fp,∀ o,h.get? b=some o->h'.get? b=some o)->tn i h'
 item:∀ (X:Cx),X.prog=P->X.w=w->X.K=K->X.calm=true->∀ (i:Nat) (pins:List (Addr×Obj)) (s:Shared) (σ:St) (H:Hp) (E:Value->Shared->Prop),aK X pins σ H s->(∀ b∈fp,kB X pins H b)->tn i s.heap->J.go i H->
  wpAny (model P w) X.A (pyNext (.ref it)) (λ r s1=>∃ u,r=some u/\
   wpAny (model P w) X.A (letOwnedTupleGo tg (.ref it) u) (λ _ s2=>∃ x H',aK X pins σ H' s2/\be x u/\J.yld i H x H'/\tn (i+1) s2.heap/\∀ b∈fp,H' b=none) E s1) E s
 done:∀ (X:Cx),X.prog=P->X.w=w->X.K=K->X.calm=true->∀ (i:Nat) (pins:List (Addr×Obj)) (s:Shared) (σ:St) (H:Hp) (E:Value->Shared->Prop),aK X pins σ H s->(∀ b∈fp,kB X pins H b)->tn i s.heap->J.stop i H->
  wpAny (model P w) X.A (pyNext (.ref it)) (λ r s1=>r=none/\aK X pins σ H s1) E s
 self:∀ (A:Around) (i:Nat) (s:Shared) (Q:Value->Shared->Prop) (E:Value->Shared->Prop),tn i s.heap->Q (.ref it) s->wpAny (model P w) A (pyIter (.ref it)) Q E s
noncomputable abbrev TI:=St->Hp->(It->Hp->Prop)->Prop
noncomputable def Kh (X:Cx) (pins:List (Addr×Obj)) (σ:St) (tg:Expr) (R:It->Hp->Prop) (itv:Value) (s2:Shared):Prop:=
 ∃ (it:Addr) (fp:List Addr) (tn:Nat->Heap->Prop) (J:It) (H':Hp),itv=.ref it/\aK X pins σ H' s2/\vX X.prog X.w X.K tg J fp it tn/\tn 0 s2.heap/\(∀ b∈fp,kB X pins H' b)/\R J H'
noncomputable def PI (X:Cx) (tg iter:Expr) (wi:TI):Prop:=
 ∀ (pins:List (Addr×Obj)) (s:Shared) (σ:St) (H:Hp) (R:It->Hp->Prop),aK X pins σ H s->wi σ H R->
  wpAny (model X.prog X.w) X.A (eval iter X.env) (λ v s1=>wpAny (model X.prog X.w) X.A (pyIter v) (Kh X pins σ tg R) X.xe s1) X.xe s
theorem uJ {M:Model} {A:Around} {E:Value->Shared->Prop} {s:Shared} {tg:Expr} {it:Addr} {u:Value} {o:Obj} {n:String} {vs:Array Value} {Q:Unit->Shared->Prop} (ho:s.heap.get? it=some o) (hc:o.cls=.type n) (hd:o.data=.fields vs)
 (hn:["enumerate", "zip", "dict_itemiterator", "dict_reverseitemiterator", "odict_iterator", "itertools.zip_longest", "itertools.pairwise"].contains n=false) (hQ:Q () s):wpAny M A (letOwnedTupleGo tg (.ref it) u) Q E s:=by
 unfold letOwnedTupleGo;cases tg <;> first
  | exact wpAny_pure hQ
  | (cases u <;> first
   | exact wpAny_pure hQ
   | (refine wpAny_bind (wpAny_load ho ?_)
      rw [hc,hd];show wpAny M A (if (["enumerate", "zip", "dict_itemiterator", "dict_reverseitemiterator", "odict_iterator", "itertools.zip_longest", "itertools.pairwise"].contains n&&vs[0]?==some (rawInt _))=true then _ else _) Q E s;rw [if_neg (by intro h;rw [hn,Bool.false_and] at h;cases h)];exact wpAny_pure hQ))
noncomputable def J5 (K:Frag) (a:Addr):It:=
 ⟨λ i H=>∃ xs x,dM K H a xs/\xs[i]?=some x,λ i H x H'=>H'=H/\∀ xs,dM K H a xs->xs[i]?=some x,λ i H=>∃ xs,dM K H a xs/\xs.length<=i⟩
noncomputable def Ki (K:Frag) (a:Addr):It:=
 ⟨λ i H=>∃ xs x,ii K H a xs/\xs[i]?=some x,λ i H x H'=>H'=H/\∀ xs,ii K H a xs->xs[i]?=some x,λ i H=>∃ xs,ii K H a xs/\xs.length<=i⟩
noncomputable def IT (lo:Int) (n:Nat):It:=⟨λ i _=>i<n,λ i H x H'=>H'=H/\x=.int (lo+i),λ i _=>n<=i⟩
theorem wq {P:Program} {w:World} {K:Frag} {tg:Expr} (a it:Addr):vX P w K tg (J5 K a) [it] it (λ i h=>h.IsListIter it a i) where
 mem:=by simp
 obj:=λ i h st b hb=>by
  have e:b=it:=by simpa using hb
  subst e;obtain ⟨o,e,c,d⟩:=st;exact ⟨o,e,λ v z=>by rw [d] at z;cases z⟩
 keep:=λ i h h' st k=>st.at λ o e=>k it (by simp) o e
 item:=by
  intro X hP hw hK hc i pins s σ H E I hf st hg;subst hP hw hK;obtain ⟨xs,x,hq,hx⟩:=hg;obtain ⟨its,rv,p,hz⟩:=I.list hq;obtain ⟨u,hu,ru⟩:=rv.get hx;obtain ⟨f0,f1,f2,f3,f4,f5⟩:=hf it (by simp);refine wpAny_pyNext_list_item st p.isList (x:=u) (by simpa using hu) λ h' st' sb=>?_;have I1:aK X pins σ H { s with heap:=h' }:=I.turned (t':=s.toks) (λ b o hb e=>(sb.2 b hb).trans e) f0 f1 f3 f4 f5;obtain ⟨o,e,c,d⟩:=id st';exact ⟨u,rfl,uJ (s:={ s with heap:=h' }) e c d (by decide) ⟨x,H,I1,ru,⟨rfl,λ ys hy=>by rw [I.list_inj hy hq];exact hx⟩,st',λ b hb=>(hf b hb).1⟩⟩
 done:=by
  intro X hP hw hK hc i pins s σ H E I hf st hg;subst hP hw hK;obtain ⟨xs,hq,hx⟩:=hg;obtain ⟨its,rv,p,hz⟩:=I.list hq;obtain ⟨f0,f1,f2,f3,f4,f5⟩:=hf it (by simp);have hl:=rv.length;exact wpAny_pyNext_list_end (I.ok.hd hc) st p.isList (by simp;omega) λ h' eb=>⟨rfl,I.turned (t':=s.toks) (λ b o hb e=>eb b o hb e) f0 f1 f3 f4 f5⟩
 self:=λ _ _ _ _ _ st h=>wpAny_pyIter_listiter st h
theorem ux {P:Program} {w:World} {K:Frag} {tg:Expr} (a it:Addr):vX P w K tg (Ki K a) [it] it (λ i h=>h.IsTupleIter it a i) where
 mem:=by simp
 obj:=λ i h st b hb=>by
  have e:b=it:=by simpa using hb
  subst e;obtain ⟨o,e,c,d⟩:=st;exact ⟨o,e,λ v z=>by rw [d] at z;cases z⟩
 keep:=λ i h h' st k=>st.at λ o e=>k it (by simp) o e
 item:=by
  intro X hP hw hK hc i pins s σ H E I hf st hg;subst hP hw hK;obtain ⟨xs,x,hq,hx⟩:=hg;obtain ⟨its,rv,p,hz⟩:=I.tuple hq;obtain ⟨u,hu,ru⟩:=rv.get hx;obtain ⟨f0,f1,f2,f3,f4,f5⟩:=hf it (by simp);refine wpAny_pyNext_tuple_item st (show s.heap.IsTuple a its.toArray from p) (x:=u) (by simpa using hu) λ h' st' sb=>?_;have I1:aK X pins σ H { s with heap:=h' }:=I.turned (t':=s.toks) (λ b o hb e=>(sb.2 b hb).trans e) f0 f1 f3 f4 f5;obtain ⟨o,e,c,d⟩:=id st';exact ⟨u,rfl,uJ (s:={ s with heap:=h' }) e c d (by decide) ⟨x,H,I1,ru,⟨rfl,λ ys hy=>by rw [I.tuple_inj hy hq];exact hx⟩,st',λ b hb=>(hf b hb).1⟩⟩
 done:=by
  intro X hP hw hK hc i pins s σ H E I hf st hg;subst hP hw hK;obtain ⟨xs,hq,hx⟩:=hg;obtain ⟨its,rv,p,hz⟩:=I.tuple hq;obtain ⟨f0,f1,f2,f3,f4,f5⟩:=hf it (by simp);have hl:=rv.length;exact wpAny_pyNext_tuple_end (I.ok.hd hc) st (show s.heap.IsTuple a its.toArray from p) (by simp;omega) λ h' eb=>⟨rfl,I.turned (t':=s.toks) (λ b o hb e=>eb b o hb e) f0 f1 f3 f4 f5⟩
 self:=λ _ _ _ _ _ st h=>wpAny_pyIter_tupleiter st h
theorem tK {P:Program} {w:World} {K:Frag} {tg:Expr} (it:Addr) (lo:Int) (n:Nat):vX P w K tg (IT lo n) [it] it (λ i h=>IsRangeIter h it (lo+(i:Nat)*1) ((n:Int)-(i:Nat)) 1) where
 mem:=by simp
 obj:=λ i h st b hb=>by
  have e:b=it:=by simpa using hb
  subst e;exact ⟨_,st,λ v z=>by
   have z':Data.fields _=Data.cell v:=z;cases z'⟩
 keep:=λ i h h' st k=>k it (by simp) _ st
 item:=by
  intro X hP hw hK hc i pins s σ H E I hf st hg;subst hP hw hK;obtain ⟨f0,f1,f2,f3,f4,f5⟩:=hf it (by simp);have W:=Walks.range (prog:=X.prog) (w:=X.w) (I.ok.hd hc) it lo 1 n;refine W.item i s _ _ hg st λ v h' tk hv st' kk=>?_;obtain ⟨t,rfl⟩:=hv;have I1:aK X pins σ H { s with heap:=h',toks:=tk }:=I.turned (λ b o hb e=>kk b o (by simpa using hb) e) f0 f1 f3 f4 f5;refine ⟨_,rfl,uJ (s:={ s with heap:=h',toks:=tk }) (n := "range_iterator") st' rfl rfl (by decide) ⟨.int (lo+i),H,I1,⟨t,?_⟩,⟨rfl,rfl⟩,st',λ b hb=>(hf b hb).1⟩⟩;rw [Int.mul_one]
 done:=by
  intro X hP hw hK hc i pins s σ H E I hf st hg;subst hP hw hK;obtain ⟨f0,f1,f2,f3,f4,f5⟩:=hf it (by simp);exact wpAny_pyNext_range_end (I.ok.hd hc) st (by have:n<=i:=hg;omega) λ h' eb=>⟨rfl,I.turned (t':=s.toks) (λ b o hb e=>eb b o hb e) f0 f1 f3 f4 f5⟩
 self:=λ _ _ _ _ _ st h=>wpAny_pyIter_rangeiter st h
end L2
namespace L2
open PySem PySem.Spec PyProof.Rows
open PySem.W (Frag)
section
variable {X:Cx} {tg:Expr}
theorem yY {pins:List (Addr×Obj)} {σ:St} {H:Hp} {s:Shared} {R:It->Hp->Prop} {E:Value->Shared->Prop} {lo hi:Int} {t u v:Tok} {tk:Nat} (I:aK X pins σ H s) (h1 : -(2^62)<=lo) (h2:lo<2^62) (h3 : -(2^62)<=hi) (h4:hi<2^62)
 (q:R (IT lo (hi-lo).toNat) H):wpAny (model X.prog X.w) X.A (pyIter (.ref s.heap.objs.size)) (Kh X pins σ tg R) E { s with heap:=s.heap.push { cls:=.type "range", data:=.fields #[.int lo t,.int hi u,.int 1 v] },toks:=tk }:=by
 refine wpAny_pyIter_range (IsRange.new ..) (small_one h1 h2 h3 h4) ?_;have I1:aK X pins σ H { s with heap:=s.heap.push { cls:=.type "range", data:=.fields #[.int lo t,.int hi u,.int 1 v] },toks:=tk }:=I.kept λ b o e=>Heap.get?_push_of_some _ e;refine ⟨(s.heap.push { cls:=.type "range", data:=.fields #[.int lo t,.int hi u,.int 1 v] }).objs.size,[(s.heap.push { cls:=.type "range", data:=.fields #[.int lo t,.int hi u,.int 1 v] }).objs.size],_,_,H,rfl,
  I1.kept (t':=tk) λ b o e=>Heap.get?_push_of_some _ e,tK _ lo (hi-lo).toNat,?_,λ b hb=>?_,q⟩
 . have e1:lo+((0:Nat):Int)*1=lo:=by simp
   have e2:(((hi-lo).toNat:Nat):Int)-((0:Nat):Int)=Builtin.Range.rangeSize lo hi 1:=by rw [rangeSize_one];split <;> omega
   show IsRangeIter _ _ (lo+((0:Nat):Int)*1) ((((hi-lo).toNat:Nat):Int)-((0:Nat):Int)) 1;rw [e1,e2];exact Heap.get?_push_size _ rfl
 . have e:b=(s.heap.push { cls:=.type "range", data:=.fields #[.int lo t,.int hi u,.int 1 v] }).objs.size:=by simpa using hb
   subst e;exact I1.fpOk (Nat.le_refl _) (I1.hok.fresh (Nat.le_refl _))
noncomputable def Cf (ta:TA):TI:=λ σ H R=>ta σ H λ vs H1=>∃ j:Int,vs=[.int j] /\ -(2^62)<=j/\j<2^62/\R (IT 0 j.toNat) H1
theorem FL {a:Expr} {ta:TA} {p pos:Pos} (hg:Gl X "range") (hm:X.mg "range" = none) (ha:PA X [a] ta) (hs:starEach [a] X.env=[(false,eval a X.env)]):PI X tg (.Call (.Name "range" p) [a] [] pos) (Cf ta):=by
 intro pins s σ H R I h;refine Call_ (jz I hg hm boot_range (PyProof.Rows.callWith_type1 (cc (ha pos pins s σ H _ I h) λ us s1 hq0=>?_) hs rfl));obtain ⟨vs,H1,I1,r1,q1⟩:=hq0;obtain ⟨j,e,q1,q2,q⟩:=q1;subst e;cases r1 with
 | cons r rr=>
  cases rr;obtain ⟨t,rfl⟩:=r;exact call_range_1 (yY I1 (by omega) (by omega) q1 q2 (by simpa using q))
noncomputable def E3 (wi:TI) (g:TG) (tb:TS):TS:=λ D σ H=>wi σ H λ J H1=>∃ W:Nat->Nat->St->Hp->Prop,(∃ m,W 0 m σ H1)/\∀ i m σ H,W i m σ H->
 (J.stop i H/\D.nx σ H)∨(J.go i H/\∃ N:St->Hp->Prop,(∀ σ' H',N σ' H'->∃ m',m'<m/\W (i+1) m' σ' H')/\∀ x H',J.yld i H x H'->g x σ H' λ σ2 H2=>tb { D with nx:=N,ct:=N,bk:=D.nx } σ2 H2)
noncomputable def lJ (fp:List Addr) (h:Heap):List (Addr×Obj):=fp.filterMap λ b=>(h.get? b).map λ o=>(b,o)
theorem iJ {fp:List Addr} {h:Heap} {b:Addr} {o:Obj} (hb:b∈fp) (e:h.get? b=some o):(b,o)∈lJ fp h:=List.mem_filterMap.mpr ⟨b,hb,by rw [e];rfl⟩
theorem wz {fp:List Addr} {h:Heap} {p:Addr×Obj} (hp:p∈lJ fp h):p.1∈fp/\h.get? p.1=some p.2:=by
 obtain ⟨b,hb,e⟩:=List.mem_filterMap.mp hp;cases q:h.get? b with
 | none=>rw [q] at e;cases e
 | some o=>
  rw [q] at e;have e':(b,o)=p:=Option.some.inj e;subst e';exact ⟨hb,q⟩
theorem aK.pinned {pins:List (Addr×Obj)} {σ:St} {H:Hp} {s:Shared} {fp:List Addr} (I:aK X pins σ H s) (hf:∀ b∈fp,kB X pins H b) (ho:∀ b∈fp,∃ o,s.heap.get? b=some o/\∀ v,o.data≠.cell v):aK X (pins++lJ fp s.heap) σ H s:=
 I.pins_of λ p hp=>(List.mem_append.mp hp).elim (λ z=>I.pin p (List.mem_append_right _ z)) λ z=>by
  obtain ⟨hb,e⟩:=wz z;obtain ⟨f0,f1,f2,_⟩:=hf p.1 hb;obtain ⟨o,e',d⟩:=ho p.1 hb;rw [e] at e';cases e';exact ⟨e,f0,f1,f2,d⟩
theorem aK.unpinned {pins pl:List (Addr×Obj)} {σ:St} {H:Hp} {s:Shared} (I:aK X (pins++pl) σ H s):aK X pins σ H s:=I.pins_of λ p hp=>I.pin p (List.mem_append_right _ (List.mem_append_left _ hp))
theorem Kb {iter:Expr} {body:List Stmt} {wi:TI} {g:TG} {tb:TS} {pos:Pos} (hp:PassesOwn (model X.prog X.w) X.A X.env X.xe) (hc:X.calm=true) (hi:PI X tg iter wi) (hg:PG X tg g) (hb:mU X body tb)
 (hs:∀ x,foldedSetIterable iter X.env x=pure x):PS X (.For tg iter body [] pos) (E3 wi g tb):=by
 intro pins s σ H D I h;refine wpAny_For (cc (hi pins s σ H _ I h) λ v s1 h1=>cc h1 λ itv s2 h2=>?_) hs;obtain ⟨it,fp,tn,J,H2,e,I2,T,st2,f2,W,⟨m0,w0⟩,turn⟩:=h2;subst e;have stat:∀ {H':Hp},(∀ b∈fp,H' b=none)->∀ b∈fp,kB X pins H' b:=λ hn b hb=>⟨hn b hb,(f2 b hb).2⟩
 refine codeAny_forLoop_any (λ n s'=>∃ i σ' H',aK X pins σ' H' s'/\tn i s'.heap/\(∀ b∈fp,H' b=none)/\W i n σ' H') ?_ m0 ⟨0,σ,H2,I2,st2,λ b hb=>(f2 b hb).1,w0⟩;rintro n s3 ⟨i,σ3,H3,I3,st3,fr3,w3⟩;rcases turn i n σ3 H3 w3 with ⟨stop,qn⟩ | ⟨go,N,hN,step⟩
 . refine wpAny_passesOwn hp (cc (T.done X rfl rfl rfl hc i pins s3 σ3 H3 X.xe I3 (stat fr3) st3 stop) λ r s4 ⟨hr,I4⟩=>?_);subst hr;exact wpAny_execs_nil ⟨σ3,H3,I4,qn⟩
 . refine wpAny_passesOwn hp (cc (T.item X rfl rfl rfl hc i pins s3 σ3 H3 X.xe I3 (stat fr3) st3 go) λ r s4 ⟨u,hr,h4⟩=>?_);subst hr;refine wpAny_passesOwn hp (cc h4 λ _ s5 hq0=>?_);obtain ⟨x,H5,I5,r5,y5,st5,fr5⟩:=hq0;have I5':=I5.pinned (stat fr5) (T.obj _ _ st5);refine wpAny_passesOwn hp (cc (hg _ s5 σ3 H5 x u _ I5' r5 (step x H5 y5)) λ _ s6 hq0=>?_);obtain ⟨σ6,H6,I6,q6⟩:=hq0;refine wpAny_passesOwn hp (cc (hb _ s6 σ6 H6 _ I6 q6) λ f s7 q7=>?_);have again:∀ {σ7:St} {H7:Hp},aK X (pins++lJ fp s5.heap) σ7 H7 s7->N σ7 H7->∃ m,m<n/\∃ i σ' H',aK X pins σ' H' s7/\tn i s7.heap/\(∀ b∈fp,H' b=none)/\W i m σ' H':=λ {σ7 H7} I7 n7=>by
    obtain ⟨m',hm,w7⟩:=hN σ7 H7 n7;refine ⟨m',hm,i+1,σ7,H7,I7.unpinned,T.keep _ _ _ st5 λ b hb o e=>(I7.pin (b,o) (List.mem_append_right _ (List.mem_append_right _ (iJ hb e)))).1,λ b hb=>?_,w7⟩;obtain ⟨o,e,d⟩:=T.obj _ _ st5 b hb;exact (I7.pin (b,o) (List.mem_append_right _ (List.mem_append_right _ (iJ hb e)))).2.1
   cases f with
   | next=>obtain ⟨σ7,H7,I7,n7⟩:=q7;exact again I7 n7
   | cont=>obtain ⟨σ7,H7,I7,n7⟩:=q7;exact again I7 n7
   | brk=>obtain ⟨σ7,H7,I7,q7⟩:=q7;exact ⟨σ7,H7,I7.unpinned,q7⟩
   | ret v=>obtain ⟨x7,σ7,H7,I7,r7,q7⟩:=q7;exact ⟨x7,σ7,H7,I7.unpinned,r7,q7⟩
end
end L2
namespace L2
open PySem PySem.Spec PyProof.Rows
open PySem.W (Frag)
noncomputable abbrev R2:=V->V->Hp->VK->Prop
noncomputable def ig (X:Cx) (f:Value->Value->Sem Value) (r:R2):Prop:=
 ∀ (pins:List (Addr×Obj)) (s:Shared) (σ:St) (H:Hp) (x y:V) (v u:Value) (Q:VK),aK X pins σ H s->be x v->be y u->r x y H Q->
  wpAny (model X.prog X.w) X.A (f v u) (EP X pins σ Q) X.xe s
noncomputable def Iz (X:Cx) (f:Value->Sem Value) (r:V->Hp->VK->Prop):Prop:=
 ∀ (pins:List (Addr×Obj)) (s:Shared) (σ:St) (H:Hp) (x:V) (v:Value) (Q:VK),aK X pins σ H s->be x v->r x H Q->
  wpAny (model X.prog X.w) X.A (f v) (EP X pins σ Q) X.xe s
noncomputable def fz (X:Cx) (f:Value) (r:List V->Hp->VK->Prop):Prop:=
 ∀ (pins:List (Addr×Obj)) (s:Shared) (σ:St) (H:Hp) (xs:List V) (us:List Value) (Q:VK),aK X pins σ H s->bn xs us->r xs H Q->
  wpAny (model X.prog X.w) X.A (call f us) (EP X pins σ Q) X.xe s
noncomputable def JS (X:Cx) (r:V->Hp->(Bool->Hp->Prop)->Prop):Prop:=
 ∀ (pins:List (Addr×Obj)) (s:Shared) (σ:St) (H:Hp) (x:V) (v:Value) (Q:Bool->Hp->Prop),aK X pins σ H s->be x v->r x H Q->
  wpAny (model X.prog X.w) X.A (truthy v) (TP X pins σ Q) X.xe s
noncomputable def rA (r:R2) (ta tb:TE):TE:=λ σ H Q=>ta σ H λ x H1=>tb σ H1 λ y H2=>r x y H2 Q
noncomputable def KY (r:V->Hp->VK->Prop) (ta:TE):TE:=λ σ H Q=>ta σ H λ x H1=>r x H1 Q
noncomputable def rI (C:Int->Int->Prop) (g:Int->Int->V):R2:=λ x y H Q=>∃ i j,x=.int i/\y=.int j/\C i j/\Q (g i j) H
noncomputable def tf (g:Int->Int->V):R2:=λ x y H Q=>∃ i j,x=.int i/\y=.int j/\Q (g i j) H
noncomputable def rU (g:Int->V):V->Hp->VK->Prop:=λ x H Q=>∃ i,x=.int i/\Q (g i) H
section
variable {X:Cx} {a b c:Expr} {ta tb tc:TE} {pos:Pos}
theorem D4 (ha:PE X a ta) (hb:PE X b tb) {pins:List (Addr×Obj)} {s:Shared} {σ:St} {H:Hp} {R:V->V->Hp->Prop} (I:aK X pins σ H s)
 (h:ta σ H λ x H1=>tb σ H1 λ y H2=>R x y H2) {Q:Value->Shared->Prop} {f:Value->Value->Sem Value}
 (hf:∀ v u s2 x y H2,aK X pins σ H2 s2->be x v->be y u->R x y H2->wpAny (model X.prog X.w) X.A (f v u) Q X.xe s2):
 wpAny (model X.prog X.w) X.A (eval a X.env) (λ v s₁=>wpAny (model X.prog X.w) X.A (eval b X.env) (λ u s₂=>wpAny (model X.prog X.w) X.A (f v u) Q X.xe s₂) X.xe s₁) X.xe s:=by
 refine cc (ha pins s σ H _ I h) λ v s1 hq0=>?_;obtain ⟨x,H1,I1,r1,q1⟩:=hq0;refine cc (hb pins s1 σ H1 _ I1 q1) λ u s2 hq0=>?_;obtain ⟨y,H2,I2,r2,q2⟩:=hq0;exact hf v u s2 x y H2 I2 r1 r2 q2
theorem KA {op:Operator} {r:R2} (ho:ig X (binaryOp op) r) (ha:PE X a ta) (hb:PE X b tb):PE X (.BinOp a op b pos) (rA r ta tb):=by
 intro pins s σ H Q I h;exact wpAny_BinOp (D4 ha hb I h λ v u s2 x y H2 I2 rx ry q=>ho pins s2 σ H2 x y v u Q I2 rx ry q)
theorem K4 {op:UnaryOp} {r:V->Hp->VK->Prop} (ho:Iz X (unaryOp op) r) (ha:PE X a ta):PE X (.UnaryOp op a pos) (KY r ta):=by
 intro pins s σ H Q I h;exact UnaryOp_ (cc (ha pins s σ H _ I h) λ v s1 hy0=>by obtain ⟨x,H1,I1,r1,q1⟩:=hy0;exact ho pins s1 σ H1 x v Q I1 r1 q1)
theorem IL {f:Value->Value->Sem Value} {C:Int->Int->Prop} {g:Int->Int->Int}
 (rule:∀ (i j:Int) (t u:Tok) (s:Shared) (Q:Value->Shared->Prop) (E:Value->Shared->Prop),C i j->Q (.int (g i j) s.toks) { s with toks:=s.toks+1 }->wpAny (model X.prog X.w) X.A (f (.int i t) (.int j u)) Q E s):
 ig X f (rI C λ i j=>.int (g i j)):=by
 intro pins s σ H x y v u Q I rx ry h;obtain ⟨i,j,rfl,rfl,hc,q⟩:=h;obtain ⟨t,rfl⟩:=rx;obtain ⟨t',rfl⟩:=ry;exact rule i j t t' s _ _ hc ⟨.int (g i j),H,I.tok _,⟨_,rfl⟩,q⟩
theorem Hu {f:Value->Value->Sem Value} {g:Int->Int->Int}
 (rule:∀ (i j:Int) (t u:Tok) (s:Shared) (Q:Value->Shared->Prop) (E:Value->Shared->Prop),Q (.int (g i j) s.toks) { s with toks:=s.toks+1 }->wpAny (model X.prog X.w) X.A (f (.int i t) (.int j u)) Q E s):
 ig X f (tf λ i j=>.int (g i j)):=by
 intro pins s σ H x y v u Q I rx ry h;obtain ⟨i,j,rfl,rfl,q⟩:=h;obtain ⟨t,rfl⟩:=rx;obtain ⟨t',rfl⟩:=ry;exact rule i j t t' s _ _ ⟨.int (g i j),H,I.tok _,⟨_,rfl⟩,q⟩
theorem As {f:Value->Value->Sem Value} {g:Int->Int->Bool}
 (rule:∀ (i j:Int) (t u:Tok) (s:Shared) (Q:Value->Shared->Prop) (E:Value->Shared->Prop),Q (.bool (g i j)) s->wpAny (model X.prog X.w) X.A (f (.int i t) (.int j u)) Q E s):
 ig X f (tf λ i j=>.bl (g i j)):=by
 intro pins s σ H x y v u Q I rx ry h;obtain ⟨i,j,rfl,rfl,q⟩:=h;obtain ⟨t,rfl⟩:=rx;obtain ⟨t',rfl⟩:=ry;exact rule i j t t' s _ _ ⟨.bl (g i j),H,I,rfl,q⟩
noncomputable def AM (i j:Int):Prop:=(-(2^64)<i/\i<2^64)∨(-(2^64)<j/\j<2^64)
theorem AM.ok {i j:Int} (h:AM i j):IntMulOk i j:=by
 rcases h with ⟨h1,h2⟩ | ⟨h1,h2⟩
 . exact .of_left (intBits_le_64 h1 h2)
 . exact .of_right (intBits_le_64 h1 h2)
theorem E9:ig X (binaryOp .Add) (tf λ i j=>.int (i+j)):=Hu λ _ _ _ _ _ _ _ q=>add_int q
theorem Kf:ig X (binaryOp .Sub) (tf λ i j=>.int (i-j)):=Hu λ _ _ _ _ _ _ _ q=>sub_int q
theorem CH:ig X (binaryOp .Mult) (rI AM λ i j=>.int (i*j)):=IL λ _ _ _ _ _ _ _ hc q=>mul_int q hc.ok
theorem zU:ig X (binaryOp .Mod) (rI (λ _ j=>j≠0) λ i j=>.int (i.fmod j)):=IL λ _ _ _ _ _ _ _ hc q=>mod_int' hc q
theorem L8 {f:Value->Sem Value} {g:Int->Int}
 (rule:∀ (i:Int) (t:Tok) (s:Shared) (Q:Value->Shared->Prop) (E:Value->Shared->Prop),Q (.int (g i) s.toks) { s with toks:=s.toks+1 }->wpAny (model X.prog X.w) X.A (f (.int i t)) Q E s):
 Iz X f (rU λ i=>.int (g i)):=by
 intro pins s σ H x v Q I rx h;obtain ⟨i,rfl,q⟩:=h;obtain ⟨t,rfl⟩:=rx;exact rule i t s _ _ ⟨.int (g i),H,I.tok _,⟨_,rfl⟩,q⟩
theorem Kg:Iz X (unaryOp .USub) (rU λ i=>.int (-i)):=L8 λ _ _ _ _ _ q=>neg_int q
end
noncomputable def Fn:V->V->Bool
 | .non,.non=>true | .non,.int _=>true | .int _,.non=>true | .non,.bl _=>true | .bl _,.non=>true | .non,.str _=>true | .str _,.non=>true
 | .int _,.int _=>true | .bl _,.bl _=>true | .str _,.str _=>true | .byt _,.byt _=>true
 | .int _,.str _=>true | .str _,.int _=>true | .bl _,.str _=>true | .str _,.bl _=>true
 | _,_=>false
noncomputable def Lg:R2:=λ x y H Q=>Fn x y=true/\Q (.bl (decide (x=y))) H
noncomputable def Lx:R2:=λ x y H Q=>Fn x y=true/\Q (.bl (!decide (x=y))) H
theorem vJ {i j:Int}:decide (V.int i=V.int j)=(i==j):=by
 rw [Bool.eq_iff_iff];simp
theorem zg {i j:Bool}:decide (V.bl i=V.bl j)=(i==j):=by
 rw [Bool.eq_iff_iff];simp
theorem vt {i j:Str}:decide (V.str i=V.str j)=(i==j):=by
 rw [Bool.eq_iff_iff];simp
theorem va {i j:Array UInt8}:decide (V.byt i=V.byt j)=(i.toList==j.toList):=by
 rw [Bool.eq_iff_iff];cases i;cases j;simp
section
variable {X:Cx} {a b c:Expr} {ta tb tc:TE} {pos:Pos}
theorem bj {pins:List (Addr×Obj)} {σ:St} {H:Hp} {s:Shared} {Q:VK} {k k':Bool} (I:aK X pins σ H s) (q:Q (.bl k) H) (e:k=k'):EP X pins σ Q (.bool k') s:=by
 subst e;exact ⟨.bl k,H,I,rfl,q⟩
theorem GY:ig X (compareOp .Eq) Lg:=by
 intro pins s σ H x y v u Q I rx ry h;obtain ⟨hs,q⟩:=h;cases x with
 | non=>
  cases rx;cases y with
  | non=>cases ry;exact PySem.EqNone.eq_none_none (bj I q (by simp))
  | bl j=>cases ry;exact PySem.EqNone.eq_none_bool (bj I q (by simp))
  | int j=>obtain ⟨t',rfl⟩:=ry;exact PySem.EqNone.eq_none_int (bj I q (by simp))
  | str j=>obtain ⟨t',rfl⟩:=ry;exact PySem.EqNone.eq_none_str (bj I q (by simp))
  | _=>exact absurd (show false=true from hs) Bool.false_ne_true
 | bl i=>
  cases rx;cases y with
  | non=>cases ry;exact PySem.EqNone.eq_bool_none (bj I q (by simp))
  | bl j=>cases ry;exact eq_bool (bj I q zg)
  | str j=>obtain ⟨t',rfl⟩:=ry;exact PySem.EqMixed.eq_bool_str (bj I q (by simp))
  | _=>exact absurd (show false=true from hs) Bool.false_ne_true
 | int i=>
  obtain ⟨t,rfl⟩:=rx;cases y with
  | non=>cases ry;exact PySem.EqNone.eq_int_none (bj I q (by simp))
  | int j=>obtain ⟨t',rfl⟩:=ry;exact eq_int (bj I q vJ)
  | str j=>obtain ⟨t',rfl⟩:=ry;exact PySem.EqMixed.eq_int_str (bj I q (by simp))
  | _=>exact absurd (show false=true from hs) Bool.false_ne_true
 | str i=>
  obtain ⟨t,rfl⟩:=rx;cases y with
  | non=>cases ry;exact PySem.EqNone.eq_str_none (bj I q (by simp))
  | bl j=>cases ry;exact PySem.EqMixed.eq_str_bool (bj I q (by simp))
  | int j=>obtain ⟨t',rfl⟩:=ry;exact PySem.EqMixed.eq_str_int (bj I q (by simp))
  | str j=>obtain ⟨t',rfl⟩:=ry;exact eq_str (bj I q vt)
  | _=>exact absurd (show false=true from hs) Bool.false_ne_true
 | byt i=>
  obtain ⟨t,rfl⟩:=rx;cases y with
  | byt j=>obtain ⟨t',rfl⟩:=ry;exact PySem.W.eq_bytes (bj I q va)
  | _=>exact absurd (show false=true from hs) Bool.false_ne_true
 | _=>cases y <;> exact absurd (show false=true from hs) Bool.false_ne_true
theorem HS:ig X (compareOp .NotEq) Lx:=by
 intro pins s σ H x y v u Q I rx ry h;obtain ⟨hs,q⟩:=h;cases x with
 | non=>
  cases rx;cases y with
  | non=>cases ry;exact PySem.EqNone.ne_none_none (bj I q (by simp))
  | bl j=>cases ry;exact PySem.EqNone.ne_none_bool (bj I q (by simp))
  | int j=>obtain ⟨t',rfl⟩:=ry;exact PySem.EqNone.ne_none_int (bj I q (by simp))
  | str j=>obtain ⟨t',rfl⟩:=ry;exact PySem.EqNone.ne_none_str (bj I q (by simp))
  | _=>exact absurd (show false=true from hs) Bool.false_ne_true
 | bl i=>
  cases rx;cases y with
  | non=>cases ry;exact PySem.EqNone.ne_bool_none (bj I q (by simp))
  | bl j=>cases ry;exact ne_bool (bj I q (congrArg not zg))
  | str j=>obtain ⟨t',rfl⟩:=ry;exact PySem.EqMixed.ne_bool_str (bj I q (by simp))
  | _=>exact absurd (show false=true from hs) Bool.false_ne_true
 | int i=>
  obtain ⟨t,rfl⟩:=rx;cases y with
  | non=>cases ry;exact PySem.EqNone.ne_int_none (bj I q (by simp))
  | int j=>obtain ⟨t',rfl⟩:=ry;exact ne_int (bj I q (congrArg not vJ))
  | str j=>obtain ⟨t',rfl⟩:=ry;exact PySem.EqMixed.ne_int_str (bj I q (by simp))
  | _=>exact absurd (show false=true from hs) Bool.false_ne_true
 | str i=>
  obtain ⟨t,rfl⟩:=rx;cases y with
  | non=>cases ry;exact PySem.EqNone.ne_str_none (bj I q (by simp))
  | bl j=>cases ry;exact PySem.EqMixed.ne_str_bool (bj I q (by simp))
  | int j=>obtain ⟨t',rfl⟩:=ry;exact PySem.EqMixed.ne_str_int (bj I q (by simp))
  | str j=>obtain ⟨t',rfl⟩:=ry;exact ne_str (bj I q (congrArg not vt))
  | _=>exact absurd (show false=true from hs) Bool.false_ne_true
 | byt i=>
  obtain ⟨t,rfl⟩:=rx;cases y with
  | byt j=>obtain ⟨t',rfl⟩:=ry;exact PySem.W.ne_bytes (bj I q (congrArg not va))
  | _=>exact absurd (show false=true from hs) Bool.false_ne_true
 | _=>cases y <;> exact absurd (show false=true from hs) Bool.false_ne_true
theorem KC:ig X (compareOp .Lt) (tf λ i j=>.bl (decide (i<j))):=As λ _ _ _ _ _ _ _ q=>lt_int q
theorem KW:ig X (compareOp .LtE) (tf λ i j=>.bl (decide (i<=j))):=As λ _ _ _ _ _ _ _ q=>le_int q
theorem KL:ig X (compareOp .Gt) (tf λ i j=>.bl (decide (j<i))):=As λ _ _ _ _ _ _ _ q=>gt_int q
theorem KB:ig X (compareOp .GtE) (tf λ i j=>.bl (decide (j<=i))):=As λ _ _ _ _ _ _ _ q=>ge_int q
theorem Kp:ig X (compareOp .Is) (λ x y H Q=>y=.non/\Q (.bl (decide (x=.non))) H):=by
 intro pins s σ H x y v u Q I rx ry h;obtain ⟨rfl,q⟩:=h;cases ry;refine is_none_gen (bj I q ?_);cases x <;> first
  | (cases rx;rfl)
  | (obtain ⟨t,rfl⟩:=rx;rfl)
theorem IJ:ig X (compareOp .IsNot) (λ x y H Q=>y=.non/\Q (.bl (!decide (x=.non))) H):=by
 intro pins s σ H x y v u Q I rx ry h;obtain ⟨rfl,q⟩:=h;cases ry;refine isnot_none_gen (bj I q ?_);cases x <;> first
  | (cases rx;rfl)
  | (obtain ⟨t,rfl⟩:=rx;rfl)
theorem ig.or {f:Value->Value->Sem Value} {r r':R2} (h:ig X f r) (h':ig X f r'):ig X f (λ x y H Q=>r x y H Q∨r' x y H Q):=by
 intro pins s σ H x y v u Q I rx ry q;rcases q with q | q
 . exact h pins s σ H x y v u Q I rx ry q
 . exact h' pins s σ H x y v u Q I rx ry q
theorem Iu {op:CmpOp} {r:R2} (ho:ig X (compareOp op) r) (ha:PE X a ta) (hb:PE X b tb) (hm:behindInMarks op b=false):PE X (.Compare a [op] [b] pos) (rA r ta tb):=by
 intro pins s σ H Q I h;exact wpAny_Compare1 (D4 ha hb I h λ v u s2 x y H2 I2 rx ry q=>ho pins s2 σ H2 x y v u Q I2 rx ry q) hm
noncomputable def lW (t:TE):TT:=λ σ H Q=>t σ H λ x H'=>∃ k,x=.bl k/\Q k H'
theorem IA {op:CmpOp} {r:R2} (ho:ig X (compareOp op) r) (ha:PE X a ta) (hb:PE X b tb) (hm:behindInMarks op b=false):PT X (.Compare a [op] [b] pos) (lW (rA r ta tb)):=by
 intro pins s σ H Q I h;refine wpAny_isTrue_Compare1 (cc (ha pins s σ H _ I h) λ v s1 hy0=>?_) hm;obtain ⟨x,H1,I1,r1,q1⟩:=hy0;refine cc (hb pins s1 σ H1 _ I1 q1) λ u s2 hy0=>?_;obtain ⟨y,H2,I2,r2,q2⟩:=hy0;refine
  cc (ho pins s2 σ H2 x y v u _ I2 r1 r2 q2) λ c s3 ⟨z,H3,I3,r3,k,e,q3⟩=>?_
 subst e;cases r3;exact wpAny_truthy_bool ⟨H3,I3,q3⟩
noncomputable def wZ (r r':R2) (ta tb tc:TE):TE:=λ σ H Q=>ta σ H λ x H1=>tb σ H1 λ y H2=>r x y H2 λ z H3=>∃ k,z=.bl k/\
 (if k=true then tc σ H3 λ w' H4=>r' y w' H4 Q else Q (.bl false) H3)
theorem Hw {op op':CmpOp} {r r':R2} (ho:ig X (compareOp op) r) (ho':ig X (compareOp op') r') (ha:PE X a ta) (hb:PE X b tb) (hc:PE X c tc)
 (hm:lastMarks [op,op'] [b,c]=false):PT X (.Compare a [op,op'] [b,c] pos) (lW (wZ r r' ta tb tc)):=by
 intro pins s σ H Q I h;refine isTrue_chain (cc (ha pins s σ H _ I h) λ v s1 hy0=>?_) hm;obtain ⟨x,H1,I1,r1,q1⟩:=hy0;refine test_link (cc (hb pins s1 σ H1 _ I1 q1) λ u s2 hy0=>?_);obtain ⟨y,H2,I2,r2,q2⟩:=hy0;refine
  cc (ho pins s2 σ H2 x y v u _ I2 r1 r2 q2) λ d s3 ⟨z,H3,I3,r3,k,e,q3⟩=>?_
 subst e;cases r3;refine wpAny_truthy_bool ?_;cases k with
 | false=>
  obtain ⟨k',e',q'⟩:=q3;cases e';exact ite_ff ⟨H3,I3,q'⟩
 | true=>
  refine ite_tt (test_last (cc (hc pins s3 σ H3 _ I3 q3) λ w' s4 hy0=>?_));obtain ⟨z',H4,I4,r4,q4⟩:=hy0;refine cc (ho' pins s4 σ H4 y z' u w' _ I4 r2 r4 q4) λ d' s5 hq0=>?_;obtain ⟨z2,H5,I5,r5,k2,e2,q5⟩:=hq0;subst e2;cases r5;exact wpAny_truthy_bool ⟨H5,I5,q5⟩
noncomputable def EZ (K:Frag) (x:V) (H:Hp) (k:Bool):Prop:=
 match x with
 | .non=>k=false
 | .bl b=>k=b
 | .int i=>k=(i != 0)
 | .str y=>y.length<=sizeLine/\k=((y.length:Int) != 0)
 | .byt y=>y.size<=sizeLine/\k=((y.size:Int) != 0)
 | .ref p=>(∃ xs,dM K H p xs/\k = !xs.isEmpty)∨(∃ xs,ii K H p xs/\k = !xs.isEmpty)∨∃ kvs,H p=some (.dK kvs)/\k = !kvs.isEmpty
 | _=>False
theorem tZ {κ:Type} {kvs:List (κ×V)} {vs:List (κ×Value)} (r:KV kvs vs):(!vs.isEmpty) = !kvs.isEmpty:=by
 cases r <;> rfl
theorem nM {xs:List V} {its:List Value} (r:bn xs its):(!its.toArray.isEmpty) = !xs.isEmpty:=by
 cases r <;> simp
theorem lP:(sizeLine:Nat)<2^63:=by rw [sizeLine_eq];decide
theorem CF:JS X (λ x H Q=>∃ k,EZ X.K x H k/\Q k H):=by
 intro pins s σ H x v Q I rx h;obtain ⟨k,e,q⟩:=h;have hl:=lP;have hs:sizeLine=16777216:=sizeLine_eq;cases x with
 | non=>
  cases rx;have e':k=false:=e;subst e';exact truthy_none ⟨H,I,q⟩
 | bl b=>
  cases rx;have e':k=b:=e;subst e';exact wpAny_truthy_bool ⟨H,I,q⟩
 | int i=>
  obtain ⟨t,rfl⟩:=rx;have e':k=(i != 0):=e;subst e';exact PySem.P.truthy_int ⟨H,I,q⟩
 | str y=>
  obtain ⟨t,rfl⟩:=rx;obtain ⟨hy,e'⟩:y.length<=sizeLine/\k=((y.length:Int) != 0):=e;subst e';exact PySem.P.truthy_str (by omega) ⟨H,I.tok _,q⟩
 | byt y=>
  obtain ⟨t,rfl⟩:=rx;obtain ⟨hy,e'⟩:y.size<=sizeLine/\k=((y.size:Int) != 0):=e;subst e';exact PySem.W.truthy_bytes (by omega) ⟨H,I.tok _,q⟩
 | ref p=>
  cases rx;have e':(∃ xs,dM X.K H p xs/\k = !xs.isEmpty)∨(∃ xs,ii X.K H p xs/\k = !xs.isEmpty)∨∃ kvs,H p=some (.dK kvs)/\k = !kvs.isEmpty:=e;rcases e' with ⟨xs,hx,e'⟩ | ⟨xs,hx,e'⟩ | ⟨kvs,hx,e'⟩
  . subst e';obtain ⟨its,r,pl,hz⟩:=I.list hx;have hlen:=r.length;exact wpAny_truthy_list pl.isList (by simp only [List.size_toArray];omega) ⟨H,I.tok _,by rw [nM r];exact q⟩
  . subst e';obtain ⟨its,r,pl,hz⟩:=I.tuple hx;have hlen:=r.length;exact truthy_tuple pl (by simp only [List.size_toArray];omega) ⟨H,I.tok _,by rw [nM r];exact q⟩
  . subst e';obtain ⟨hz,hS,vs,r,m'⟩:kvs.length<=sizeLine/\(p==sysModules)=false/\∃ vs,KV kvs vs/\fQ X.prog X.w s.heap p vs:=I.hok p _ hx;have m:=m'.of;have hlen:kvs.length=vs.length:=Paired.length r;exact wpAny_truthy_dict hS m (by omega) ⟨H,I.tok _,by rw [tZ r];exact q⟩
 | _=>exact (show False from e).elim
theorem zh (ha:PE X a ta) (he:∀ whole,isTrue a X.env whole=(do let v <-whole;standAt a.pos;holding [v] (truthy v))):
 PT X a (λ σ H Q=>ta σ H λ x H'=>∃ k,EZ X.K x H' k/\Q k H'):=by
 intro pins s σ H Q I h;exact isTrue_plain (cc (ha pins s σ H _ I h) λ v s1 hy0=>by obtain ⟨x,H1,I1,r1,q1⟩:=hy0;exact CF pins s1 σ H1 x v Q I1 r1 q1) (he _)
theorem tN:ig X (binaryOp .Add) (λ x y H Q=>∃ i j,x=.str i/\y=.str j/\i.length+j.length<=sizeLine/\Q (.str (i++j)) H):=by
 intro pins s σ H x y v u Q I rx ry h;obtain ⟨i,j,rfl,rfl,hz,q⟩:=h;obtain ⟨t,rfl⟩:=rx;obtain ⟨t',rfl⟩:=ry;exact add_str (λ t' tk=>⟨.str (i++j),H,I.tok _,⟨_,rfl⟩,q⟩) hz
theorem sk {x:V} {us:List Value} (r:bn [x] us):∃ u,us=[u]/\be x u:=by
 cases r with
 | cons r1 r2=>cases r2;exact ⟨_,rfl,r1⟩
theorem Ia {x y:V} {us:List Value} (r:bn [x,y] us):∃ u w',us=[u,w']/\be x u/\be y w':=by
 cases r with
 | cons r1 r2=>
  cases r2 with
  | cons r3 r4=>cases r4;exact ⟨_,_,rfl,r1,r3⟩
end
end L2
namespace L2
open PySem PySem.Spec PyProof.Rows
open PySem.W (Frag)
structure ua (h:Heap) (x dx C:Addr) (mA:Str->Option Value):Prop where
 obj:h.get? x=some (PySem.W.instObj C dx)
 ns:h.Ns1 dx mA
 ne:dx≠x
theorem vO {h:Heap} {dx:Addr} {mA:Str->Option Value} (n:h.Ns1 dx mA):∃ od,h.get? dx=some od/\∀ name,PySem.W.lookIn name od=some (mA name):=by
 obtain ⟨o,es,ep,ho,hd,hk,_,hm⟩:=n;refine ⟨o,ho,λ name=>?_⟩;have e:=hm name;unfold nsFind findBy at e;rw [<-Array.find?_toList] at e;unfold PySem.W.lookIn;rw [hd];dsimp only;split
 . rename_i y q;rw [q] at e;exact congrArg some e
 . rename_i q;rw [q] at e;have a:es.toList.any (·.refKey)=false:=by
    rw [List.any_eq_false];intro y hy;obtain ⟨z,t,hkey⟩:=hk y (Array.mem_toList_iff.mp hy);simp [DictEntry.refKey,hkey]
   have a':¬ es.toList.any (·.refKey)=true:=by rw [a];exact Bool.false_ne_true
   rw [if_neg a'];exact congrArg some e
theorem ua.look {h:Heap} {x dx C:Addr} {mA:Str->Option Value} (I:ua h x dx C mA):∃ od,PySem.W.InstAt h x (PySem.W.instObj C dx) C (some od)/\∀ name,PySem.W.lookIn name od=some (mA name):=
 let ⟨od,ho,hl⟩:=vO I.ns
 ⟨od,⟨I.obj,rfl,rfl,ho⟩,hl⟩
section
variable {prog:Program} {w:World} {A:Around} {E:Value->Shared->Prop} {s:Shared} {K:Frag} {x dx C f:Addr} {mA:Str->Option Value} {name:Str} {v:Value}
theorem Bb {expr:Bool} {Q:Value->Shared->Prop} (X:K.In s.heap) (I:ua s.heap x dx C mA) (hg:PySem.W.plainGet K C name=true) (hh:PySem.W.hasDictIn K C=true)
 (ha:PySem.W.findIn K (.ref C) name=some none) (hv:mA name=some v) (hv':PySem.W.handedIn v=true) (h:Q v { s with toks:=s.toks+1 }):
 wpAny (model prog w) A (getAttr (.ref x) name expr) Q E s:=by
 obtain ⟨od,J,hl⟩:=I.look;exact PySem.W.get_value X J (PySem.W.plainGet_of hg).1 (PySem.W.findObj_own hh ha rfl (by rw [hl,hv])) hv' h
theorem yB {pl:Sem Bool} {Q:Value×List Value->Shared->Prop} (X:K.In s.heap) (I:ua s.heap x dx C mA) (hg:PySem.W.plainGet K C name=true)
 (hf:PySem.W.findIn K (.ref C) name=some (some (.ref f))) (ht:PySem.W.isFn K (.ref f)=true) (hv:mA name=none) (h:Q (.ref f,[.ref x]) s):
 wpAny (model prog w) A (getMethod (.ref x) name pl) Q E s:=by
 obtain ⟨od,J,hl⟩:=I.look;exact PySem.W.method_fn X J (PySem.W.plainGet_of hg).1 (PySem.W.plainGet_of hg).2 hf (beq_iff_eq.mp ht) (by show (PySem.W.lookIn name od).map (·.isSome)=some false;rw [hl,hv];rfl) h
theorem AK {ns:List Str} {Q:Unit->Shared->Prop} (X:K.In s.heap) (I:ua s.heap x dx C mA)
 (hs:PySem.W.findIn K (.ref C) "__setattr__" = some (some (.builtin "object.__setattr__"))) (hp:PySem.W.plainOver K C=true) (ht:PySem.W.takerIn K C name=some none) (hh:PySem.W.hasDictIn K C=true)
 (hw:PySem.Within mA ns) (hsz:ns.length<=sizeLine)
 (h:∀ h',ua h' x dx C (λ y=>if y=name then some v else mA y)->Heap.SameBut dx s.heap h'->Q () { s with heap:=h',toks:=s.toks+2 }):
 wpAny (model prog w) A (setAttr (.ref x) name v) Q E s:=by
 obtain ⟨od,J,hl⟩:=I.look;refine PySem.W.set_plain X J hs (PySem.W.osa_open (s:={ s with toks:=s.toks+1 }) (r:=none) X J hp ht λ b=>?_);obtain ⟨cd,hc,hd'⟩:=PySem.W.any_some hh;have hx:s.heap.get? x=some ⟨.ref C,some dx,.plain,#[]⟩:=I.obj;refine wpAny_bind (wpAny_pure (wpAny_bind (wpAny_bind (wpAny_loadPart hx (wpAny_bind (PySem.W.Looks.here (s:={ s with toks:=s.toks+1 }) (PySem.W.looks_clsIn X hc) ?_))))));rw [hd'];refine wpAny_pure (a:=some dx) (wpAny_bind (wpAny_pure (wpAny_bind ?_)));refine wpAny_nsSet1 (s:={ s with toks:=s.toks+1 }) I.ns λ h' hn2 hs2=>?_;obtain ⟨oD,esD,epD,hoD,hdD,hcD⟩:=hn2.count (PySem.Within.cons name v hw);refine wpAny_bind (wpAny_lookBehind hoD (by rw [hdD];exact pastItsLine_dict (Nat.le_trans hcD (by rw [List.length_cons];omega))) ?_);exact wpAny_pure (h _ ⟨(hs2.2 _ (Ne.symm I.ne)).trans I.obj,hn2,I.ne⟩ hs2)
theorem xl {R:Result->Shared->Prop} {vs:List Value} {kw:List (Str×Value)} (X:K.In s.heap) (hm:PySem.W.makesIn K C=true)
 (hi:PySem.W.findIn K (.ref C) "__init__" = some (some (.ref f))) (hf:PySem.W.typeIn K (.ref f)=some (.type "function"))
 (h:codeAny (model prog w) (A.under (.builtin "type.__call__" ⟨.ref C::vs,kw⟩)) (.call (.ref f) ⟨.ref (s.heap.objs.size+1)::vs,kw⟩) (PySem.W.InitBack (s.heap.objs.size+1) R)
  { s with heap:=(s.heap.push PySem.W.emptyDict).push (PySem.W.instObj C s.heap.objs.size) }):
 codeAny (model prog w) A (.call (.ref C) ⟨vs,kw⟩) R s:=by
 obtain ⟨hh,g,d,t,os⟩:=s;exact PySem.W.make_core (PySem.W.makes_of X hm) (PySem.W.looks_findIn X hi) (λ self=>PySem.W.bind_fn X self hf) (.inl rfl) h
end
noncomputable def putF (f:Str) (v:V):List (Str×V)->List (Str×V)
 | []=>[(f,v)]
 | (g,x)::r=>if g=f then (g,v)::r else (g,x)::putF f v r
theorem lY (f g:Str) (v:V):∀ fs:List (Str×V),(putF f v fs).lookup g=if g=f then some v else fs.lookup g
 | []=>by
  show List.lookup g [(f,v)]=_;by_cases h:g=f
  . have hb:(g==f)=true:=beq_iff_eq.mpr h;simp only [List.lookup,hb,if_pos h]
  . have hb:(g==f)=false:=beq_eq_false_iff_ne.mpr h;simp only [List.lookup,hb,if_neg h]
 | (k,x)::r=>by
  have ih:=lY f g v r;rw [show putF f v ((k,x)::r)=(if k=f then (k,v)::r else (k,x)::putF f v r) from rfl];by_cases hk:k=f
  . rw [if_pos hk];by_cases h:g=k
    . have hb:(g==k)=true:=beq_iff_eq.mpr h;simp only [List.lookup,hb,if_pos (h.trans hk)]
    . have hb:(g==k)=false:=beq_eq_false_iff_ne.mpr h;simp only [List.lookup,hb,if_neg (λ e:g=f=>h (e.trans hk.symm))]
  . rw [if_neg hk];by_cases h:g=k
    . have hb:(g==k)=true:=beq_iff_eq.mpr h;simp only [List.lookup,hb,if_neg (λ e:g=f=>hk (h.symm.trans e))]
    . have hb:(g==k)=false:=beq_eq_false_iff_ne.mpr h;simp only [List.lookup,hb];exact ih
theorem lQ (f:Str) (v:V):∀ fs:List (Str×V),f∈(putF f v fs).map (·.1)/\∀ g,g∈fs.map (·.1)->g∈(putF f v fs).map (·.1)
 | []=>⟨by simp [putF],λ g h=>by simp at h⟩
 | (k,x)::r=>by
  obtain ⟨i1,i2⟩:=lQ f v r;rw [show putF f v ((k,x)::r)=(if k=f then (k,v)::r else (k,x)::putF f v r) from rfl];by_cases hk:k=f
  . rw [if_pos hk];subst hk;exact ⟨by simp,λ g h=>by simpa using h⟩
  . rw [if_neg hk];refine ⟨?_,λ g h=>?_⟩
    . rw [List.map_cons];exact List.mem_cons_of_mem _ i1
    . rw [List.map_cons] at h ⊢;rcases List.mem_cons.mp h with e | e
      . exact List.mem_cons.mpr (.inl e)
      . exact List.mem_cons_of_mem _ (i2 g e)
theorem mj (f:Str) (v:V):∀ fs:List (Str×V),(putF f v fs).length<=fs.length+1
 | []=>by simp [putF]
 | (k,x)::r=>by
  have ih:=mj f v r;rw [show putF f v ((k,x)::r)=(if k=f then (k,v)::r else (k,x)::putF f v r) from rfl];by_cases hk:k=f
  . rw [if_pos hk,List.length_cons,List.length_cons];omega
  . rw [if_neg hk,List.length_cons,List.length_cons];omega
theorem jc.some_of {v:V} {o:Option Value} (r:jc (some v) o):∃ u,o=some u/\be v u:=by
 cases o with
 | none=>exact (show False from r).elim
 | some u=>exact ⟨u,rfl,r⟩
theorem jc.none_of {o:Option Value} (r:jc none o):o=none:=by
 cases o with
 | none=>rfl
 | some u=>exact (show False from r).elim
theorem wu {v:V} {u:Value} (r:be v u):PySem.W.handedIn u=true:=by
 cases v with
 | non=>cases (show u=Value.none from r);rfl
 | bl b=>cases (show u=Value.bool b from r);rfl
 | int i=>obtain ⟨t,e⟩:=(show ∃ t,u=Value.int i t from r);cases e;rfl
 | str x=>obtain ⟨t,e⟩:=(show ∃ t,u=Value.str x t from r);cases e;rfl
 | byt b=>obtain ⟨t,e⟩:=(show ∃ t,u=Value.bytes b t from r);cases e;rfl
 | flt b=>obtain ⟨t,e⟩:=(show ∃ t,u=Value.float b t from r);cases e;rfl
 | ref a=>cases (show u=Value.ref a from r);rfl
 | ty n=>cases (show u=Value.type n from r);rfl
section
variable {P:Program} {w:World} {H H':Hp} {h h':Heap} {a C dx:Addr} {fs fs':List (Str×V)}
theorem qR (hok:iK P w H h) (e:H a=some (.ins C dx fs)):∃ mA,ua h a dx C mA/\(∀ f,jc (fs.lookup f) (mA f))/\PySem.Within mA (fs.map (·.1))/\fs.length<=1000/\H dx=some (.own a):=by
 obtain ⟨d,z,ne,ob,mA,n,r,q⟩:=(show cO P w H h a (.ins C dx fs) from hok a _ e)
 exact ⟨mA,⟨ob,n,ne⟩,r,q,z,d⟩
end
structure eJ (K:Frag) (C:Addr):Prop where
 pg:PySem.W.plainGet K C Str.empty=true
 hd:PySem.W.hasDictIn K C=true
 po:PySem.W.plainOver K C=true
 sa:PySem.W.findIn K (.ref C) "__setattr__" = some (some (.builtin "object.__setattr__"))
theorem eJ.get {K:Frag} {C:Addr} (c:eJ K C) (f:Str):PySem.W.plainGet K C f=true:=c.pg
noncomputable def ac (K:Frag) (C:Addr) (f:Str):Prop:=PySem.W.findIn K (.ref C) f=some none
theorem ac.taker {K:Frag} {C:Addr} {f:Str} (n:ac K C f):PySem.W.takerIn K C f=some none:=by
 unfold PySem.W.takerIn;rw [show PySem.W.findIn K (.ref C) f=some none from n];rfl
structure bg (K:Frag) (C:Addr) (m:Str) (f:Addr):Prop where
 at_:PySem.W.findIn K (.ref C) m=some (some (.ref f))
 fn:PySem.W.isFn K (.ref f)=true
 kp:PySem.W.keepIn K (.ref f)=true
section
variable {X:Cx} {pins:List (Addr×Obj)} {σ:St} {H:Hp} {s:Shared} {a C dx:Addr} {fs:List (Str×V)} {f:Str} {v:V} {A:Around} {E:Value->Shared->Prop}
theorem oz {b:Bool} {Q:Value->Shared->Prop} (I:aK X pins σ H s) (e:H a=some (.ins C dx fs)) (c:eJ X.K C) (n:ac X.K C f) (l:fs.lookup f=some v)
 (h:∀ u s',aK X pins σ H s'->be v u->Q u s'):wpAny (model X.prog X.w) A (getAttr (.ref a) f b) Q E s:=by
 obtain ⟨mA,O,r,_,_,_⟩:=qR I.hok e;obtain ⟨u,hu,ru⟩:=jc.some_of (v:=v) (o:=mA f) (by rw [<-l];exact r f);exact Bb I.kIn O (c.get f) c.hd n hu (wu ru) (h u _ (I.tok _) ru)
theorem iC {m:Str} {g:Addr} {pl:Sem Bool} {Q:Value×List Value->Shared->Prop} (I:aK X pins σ H s) (e:H a=some (.ins C dx fs)) (c:eJ X.K C) (k:bg X.K C m g) (l:fs.lookup m=none)
 (h:Q (.ref g,[.ref a]) s):wpAny (model X.prog X.w) A (getMethod (.ref a) m pl) Q E s:=by
 obtain ⟨mA,O,r,_,_,_⟩:=qR I.hok e;have hn:mA m=none:=jc.none_of (by rw [<-l];exact r m);exact yB I.kIn O (c.get m) k.at_ k.fn hn h
theorem ng {y:V} {u:Value} {Q:Unit->Shared->Prop} (I:aK X pins σ H s) (e:H a=some (.ins C dx fs)) (c:eJ X.K C) (n:ac X.K C f) (hl:fs.length<1000) (ry:be y u)
 (h:∀ s',aK X pins σ (cR H a (.ins C dx (putF f y fs))) s'->Q () s'):wpAny (model X.prog X.w) A (setAttr (.ref a) f u) Q E s:=by
 obtain ⟨mA,O,r,wi,_,ho⟩:=qR I.hok e;have hz:(fs.map (·.1)).length<=sizeLine:=by rw [List.length_map,sizeLine_eq];omega
 refine AK I.kIn O c.sa c.po n.taker c.hd wi hz λ h' O' sb=>h _ ?_;have hd:∃ o,h'.get? dx=some o:=by obtain ⟨o,_,_,e',_⟩:=O'.ns;exact ⟨o,e'⟩
 refine I.write (x:=a) (e:=dx) (by rw [e];exact True.intro) (.inr ho) (λ b q hb z=>(sb.2 b hb).trans z) hd ?_;refine ⟨by rw [aL O.ne];exact ho,?_,O.ne,O'.obj,_,O'.ns,λ g=>?_,λ g hg=>?_⟩
 . have:=mj f y fs;omega
 . show jc ((putF f y fs).lookup g) (if g=f then some u else mA g);rw [lY];by_cases q:g=f
   . rw [if_pos q,if_pos q];exact ry
   . rw [if_neg q,if_neg q];exact r g
 . by_cases q:g=f
   . rw [q];exact (lQ f y fs).1
   . refine (lQ f y fs).2 g (wi g λ z=>hg ?_);show (if g=f then some u else mA g)=none;rw [if_neg q];exact z
theorem aK.made (I:aK X pins σ H s):aK X pins σ (cR (cR H s.heap.objs.size (.own (s.heap.objs.size+1))) (s.heap.objs.size+1) (.ins C s.heap.objs.size []))
 { s with heap:=(s.heap.push PySem.W.emptyDict).push (PySem.W.instObj C s.heap.objs.size) }:=by
 have e1:(s.heap.push PySem.W.emptyDict).get? s.heap.objs.size=some PySem.W.emptyDict:=Heap.get?_push_size s.heap rfl;have e2:((s.heap.push PySem.W.emptyDict).push (PySem.W.instObj C s.heap.objs.size)).get? (s.heap.objs.size+1)=some (PySem.W.instObj C s.heap.objs.size):=by
  have:=Heap.get?_push_size (s.heap.push PySem.W.emptyDict) (o:=PySem.W.instObj C s.heap.objs.size) rfl
  rwa [Heap.size_push] at this
 have e3:(s.heap.push PySem.W.emptyDict).Ns s.heap.objs.size (λ _=>none):=⟨PySem.W.emptyDict,#[],_,e1,rfl,(λ e he=>absurd he (by simp)),λ _=>rfl⟩
 have I1:=I.laid (a:=s.heap.objs.size) (o:=.own (s.heap.objs.size+1)) (h':=s.heap.push PySem.W.emptyDict) (t':=s.toks) (λ b u q=>Heap.get?_push_of_some _ q) (Nat.le_refl _) ⟨_,e1⟩;refine I1.laid (a:=s.heap.objs.size+1) (o:=.ins C s.heap.objs.size []) (t':=s.toks) (λ b u q=>Heap.get?_push_of_some _ q) (Nat.le_of_eq (Heap.size_push _ _)) ?_;have ne:s.heap.objs.size≠s.heap.objs.size+1:=Nat.ne_of_lt (Nat.lt_succ_self _);refine ⟨by rw [aL ne,aJ],Nat.zero_le _,ne,e2,λ _=>none,(Heap.Ns1.of_empty e3).at λ o q=>Heap.get?_push_of_some _ q,λ _=>True.intro,λ y hy=>absurd rfl hy⟩
theorem zI {prog:Program} {w:World} {env:Env} {e:Expr} {f:Str} {pos:Pos} {s:Shared} {Q:Value->Shared->Prop} (hb:attributeBase e f env (eval e env)=eval e env)
 (h:wpAny (model prog w) A (eval e env) (λ o s₁=>wpAny (model prog w) A (getAttr o f true) Q E s₁) E s):wpAny (model prog w) A (eval (.Attribute e f pos) env) Q E s:=
 Attribute_any_ h (by rw [arm_eval_Attribute,hb])
end
noncomputable def E2 (K:Frag) (ta:TE) (f:Str):TE:=λ σ H Q=>ta σ H λ x H1=>∃ a C dx fs v,x=.ref a/\H1 a=some (.ins C dx fs)/\eJ K C/\ac K C f/\fs.lookup f=some v/\Q v H1
noncomputable def Gy (K:Frag) (ta tv:TE) (f:Str):TS:=λ D σ H=>tv σ H λ y H1=>ta σ H1 λ x H2=>∃ a C dx fs,x=.ref a/\H2 a=some (.ins C dx fs)/\eJ K C/\ac K C f/\fs.length<1000/\
 D.nx σ (cR H2 a (.ins C dx (putF f y fs)))
noncomputable def Bv (X:Cx) (op:Operator) (rd:V->V->Hp->VK->Prop):Prop:=
 ∀ (pins:List (Addr×Obj)) (s:Shared) (σ:St) (H:Hp) (x y:V) (u v:Value) (Q:VK),aK X pins σ H s->be x u->be y v->rd x y H Q->wpAny (model X.prog X.w) X.A (inplaceOp op u v) (EP X pins σ Q) X.xe s
noncomputable def pV (K:Frag) (ta tv:TE) (rd:V->V->Hp->VK->Prop) (f:Str):TS:=λ D σ H=>ta σ H λ x H1=>∃ a C dx fs v,x=.ref a/\H1 a=some (.ins C dx fs)/\eJ K C/\ac K C f/\fs.lookup f=some v/\
 tv σ H1 λ y H2=>rd v y H2 λ z H3=>∃ dx' fs',H3 a=some (.ins C dx' fs')/\fs'.length<1000/\D.nx σ (cR H3 a (.ins C dx' (putF f z fs')))
section
variable {X:Cx} {o e value:Expr} {f:Str} {pos pos' tpos:Pos} {ta tv:TE}
theorem Fq (he:PE X e ta) (hb:attributeBase e f X.env (eval e X.env)=eval e X.env):PE X (.Attribute e f pos) (E2 X.K ta f):=by
 intro pins s σ H Q I h;refine zI hb (cc (he pins s σ H _ I h) λ u s1 hq0=>?_);obtain ⟨x,H1,I1,rx,a,C,dx,fs,v,ex,ea,c,n,l,q⟩:=hq0;subst ex;obtain rfl:u=Value.ref a:=rx;exact oz I1 ea c n l λ u' s2 I2 ru=>⟨v,H1,I2,ru,q⟩
theorem J6 (ha:PE X o ta) (hv:PE X value tv) (hs:swapsWith value (some (.Attribute o f pos')) pos.line X.env=pure false):PS X (.Assign [.Attribute o f pos'] value pos) (Gy X.K ta tv f):=by
 intro pins s σ H D I h;refine plainObj_wpAny_Assign_Attribute (cc (hv pins s σ H _ I h) λ u s1 hy0=>?_) hs;obtain ⟨y,H1,I1,ry,q⟩:=hy0;refine cc (ha pins s1 σ H1 _ I1 q) λ ov s2 hq0=>?_;obtain ⟨x,H2,I2,rx,a,C,dx,fs,ex,ea,c,n,l,q2⟩:=hq0;subst ex;obtain rfl:ov=Value.ref a:=rx;exact ng I2 ea c n l ry λ s3 I3=>⟨σ,_,I3,q2⟩
theorem vV {op:Operator} {rd:V->V->Hp->VK->Prop} (ha:PE X o ta) (hv:PE X value tv) (hop:Bv X op rd):PS X (.AugAssign (.Attribute o f tpos) op value pos) (pV X.K ta tv rd f):=by
 intro pins s σ H D I h;refine wpAny_AugAssign_AttributeAny (cc (ha pins s σ H _ I h) λ ov s1 hq0=>?_);obtain ⟨x,H1,I1,rx,a,C,dx,fs,v,ex,ea,c,n,l,q⟩:=hq0;subst ex;obtain rfl:ov=Value.ref a:=rx;refine oz I1 ea c n l λ u s2 I2 ru=>cc (hv pins s2 σ H1 _ I2 q) λ w3 s3 hy0=>?_;obtain ⟨y,H2,I3,ry,q3⟩:=hy0;refine cc (hop pins s3 σ H2 v y u w3 _ I3 ru ry q3) λ w4 s4 hq0=>?_;obtain ⟨z,H3,I4,rz,dx',fs',ea',l',q4⟩:=hq0;exact ng I4 ea' c n l' rz λ s5 I5=>⟨σ,_,I5,q4⟩
noncomputable def HQ:V->V->Hp->VK->Prop:=λ x y H Q=>∃ i j,x=.int i/\y=.int j/\Q (.int (i+j)) H
theorem J7:Bv X .Add HQ:=by
 rintro pins s σ H x y u v Q I rx ry ⟨i,j,rfl,rfl,q⟩;obtain ⟨t,rfl⟩:=(show ∃ t,u=Value.int i t from rx)
 obtain ⟨t',rfl⟩:=(show ∃ t',v=Value.int j t' from ry)
 exact PyProof.Rows.iadd_int ⟨.int (i+j),H,I.tok _,⟨_,rfl⟩,q⟩
end
section
variable {X:Cx} {pins:List (Addr×Obj)} {σ:St} {H:Hp} {s:Shared} {A:Around} {E:Value->Shared->Prop} {Q:Value->Shared->Prop} {c:Value} {b:Bool}
end
end L2
namespace L2
open PySem PySem.Spec PyProof.Rows
open PySem.W (Frag)
structure cq (k:Nat) (A:Around):Prop where
 hd:A.handled=none
 dp:A.depth+3*k+5<recursionLimit
 un:A.units+16*k+200<cLine
 gd:A.guards=some []
theorem cq.mono {j k:Nat} {A:Around} (r:cq k A) (h:j<=k):cq j A:=⟨r.hd,by have:=r.dp;omega,by have:=r.un;omega,r.gd⟩
theorem cq.deeper {k:Nat} {A:Around} (r:cq (k+1) A) (env:Env):cq k (A.deeper env):=
 ⟨r.hd,by have:=r.dp;show A.depth+1+3*k+5<_;omega,by have:=r.un;show A.units+3+16*k+200<_;omega,r.gd⟩
theorem ur {A:Around} {C:Addr} {us:List Value} {kw:List (Str×Value)}:(A.under (.builtin "type.__call__" ⟨.ref C::us,kw⟩)).depth=A.depth+1:=by
 first | rfl | simp [Around.under,Code.weight,Code.isCreation,Code.isGuard,Code.isCaller,Code.frames,Code.isFrame,guardIds]
theorem tU {A:Around} {C:Addr} {us:List Value} {kw:List (Str×Value)}:(A.under (.builtin "type.__call__" ⟨.ref C::us,kw⟩)).units=A.units+1:=by
 first | rfl | simp [Around.under,Code.cUnits,Code.frames,Code.isFrame]
theorem sU {A:Around} {C:Addr} {us:List Value} {kw:List (Str×Value)}:(A.under (.builtin "type.__call__" ⟨.ref C::us,kw⟩)).guards=A.guards:=by
 first | rfl | (cases hg:A.guards <;> simp [Around.under,Code.guards,Code.isGuard,guardIds,pushGuards,hg])
theorem cq.make {k:Nat} {A:Around} (r:cq (k+1) A) (C:Addr) (us:List Value) (kw:List (Str×Value)):cq k (A.under (.builtin "type.__call__" ⟨.ref C::us,kw⟩)):=
 ⟨r.hd,by have:=r.dp;rw [ur];omega,by have:=r.un;rw [tU];omega,sU.trans r.gd⟩
theorem cq.depth {k:Nat} {A:Around} (r:cq k A):A.depth<recursionLimit:=by have:=r.dp;omega
theorem cq.units {k:Nat} {A:Around} (r:cq k A):A.units+64<cLine:=by have:=r.un;omega
noncomputable def lI:TA:=λ _ H Q=>Q [] H
noncomputable def iY (ta:TE) (tr:TA):TA:=λ σ H Q=>ta σ H λ x H1=>tr σ H1 λ xs H2=>Q (x::xs) H2
section
variable {X:Cx} {e:Expr} {es:List Expr} {te:TE} {t:TA} {pos:Pos}
theorem Jn:PA X [] lI:=λ _ _ _ _ H Q I h=>Calls.spliced_nil ⟨[],H,I,.nil,h⟩
theorem Im (ha:PE X e te) (hr:PA X es t) (hs:starEach (e::es) X.env=(false,eval e X.env)::starEach es X.env):PA X (e::es) (iY te t):=by
 intro pos pins s σ H Q I h;rw [hs];show wpAny _ _ (spliced ((false,eval e X.env)::backTo pos (starEach es X.env))) _ _ s;refine Calls.spliced_cons (cc (ha pins s σ H _ I h) λ u s1 hq0=>?_);obtain ⟨x,H1,I1,r1,q1⟩:=hq0;exact cc (hr pos pins s1 σ H1 _ I1 q1) λ us s2 hy0=>by obtain ⟨xs,H2,I2,r2,q2⟩:=hy0;exact ⟨x::xs,H2,I2,.cons r1 r2,q2⟩
end
noncomputable abbrev Sp:=List V->Hp->VK->XK->Prop
noncomputable abbrev qU:=List Env->Hp->Shared->XK->Value->Shared->Prop
structure rL (P:Program) (w:World) (K:Frag) (mg:Str->Option Value) (base:Heap) (A:Around) (outer:List Env) (s:Shared) (H:Hp):Prop where
 frames:A.frames=some outer
 mod:Mod K mg base
 bs:∀ b o,base.get? b=some o->s.heap.get? b=some o/\H b=none
 bsz:base.objs.size<=s.heap.objs.size
 funs:s.heap.FunFrames base outer
 frf:∀ b∈jv outer,H b=none
 hok:iK P w H s.heap
 bare:AllBare s.gens
noncomputable def CE (outer:List Env) (P:Program) (w:World) (H:Hp) (s:Shared) (Q:VK) (u:Value) (s':Shared):Prop:=
 ∃ v H',s'.os=s.os/\AllBare s'.gens/\Un (jv outer) [] H H' s.heap s'.heap/\iK P w H' s'.heap/\be v u/\Q v H'
noncomputable def CR (CX:qU) (outer:List Env) (P:Program) (w:World) (H:Hp) (s:Shared) (Q:VK) (E:XK) (r:Result) (s':Shared):Prop:=
 match r with
 | .ok (.ret u)=>CE outer P w H s Q u s'
 | .ok _=>False
 | .error e=>CX outer H s E e s'
structure et (P:Program) (w:World) (K:Frag) (mg:Str->Option Value) (base:Heap) (CX:qU) (k:Nat) (f:Addr) (fd:FuncData) (ps:List Str) (sp:Sp):Prop where
 len:∀ vs H Q E,sp vs H Q E->vs.length=ps.length
 run:∀ (A:Around) (outer:List Env) (s:Shared) (H:Hp) (args:Args) (us:List Value) (vs:List V) (Q:VK) (E:XK),cq k A->rL P w K mg base A outer s H->BindsTo s fd args (ps.zip us)->bn vs us->sp vs H Q E->
  codeAny (model P w) A (.call (.ref f) args) (CR CX outer P w H s Q E) s
theorem et.mono {P:Program} {w:World} {K:Frag} {mg:Str->Option Value} {base:Heap} {CX:qU} {j k:Nat} {f:Addr} {fd:FuncData} {ps:List Str} {sp:Sp} (F:et P w K mg base CX j f fd ps sp) (h:j<=k):
 et P w K mg base CX k f fd ps sp:=⟨F.len,λ A outer s H args us vs Q E hr=>F.run A outer s H args us vs Q E (hr.mono h)⟩
theorem et.imp {P:Program} {w:World} {K:Frag} {mg:Str->Option Value} {base:Heap} {CX:qU} {k:Nat} {f:Addr} {fd:FuncData} {ps:List Str} {sp sp':Sp} (F:et P w K mg base CX k f fd ps sp)
 (h:∀ vs H Q E,sp' vs H Q E->sp vs H Q E):et P w K mg base CX k f fd ps sp':=
 ⟨λ vs H Q E q=>F.len vs H Q E (h _ _ _ _ q),λ A outer s H args us vs Q E hr he hb hv hs=>F.run A outer s H args us vs Q E hr he hb hv (h _ _ _ _ hs)⟩
theorem rL.make {P:Program} {w:World} {K:Frag} {mg:Str->Option Value} {base:Heap} {A:Around} {outer:List Env} {s:Shared} {H:Hp} (e:rL P w K mg base A outer s H) (C:Addr) (us:List Value) (kw:List (Str×Value)):
 rL P w K mg base (A.under (.builtin "type.__call__" ⟨.ref C::us,kw⟩)) outer s H:=⟨by first | exact e.frames | (simpa [Around.under,Code.envs,Code.isFrame,pushEnvs] using e.frames),e.mod,e.bs,e.bsz,e.funs,e.frf,e.hok,e.bare⟩
section
variable {X:Cx} {pins:List (Addr×Obj)} {σ:St} {H:Hp} {s s':Shared}
theorem aK.env0 (I:aK X pins σ H s):rL X.prog X.w X.K X.mg X.base X.A X.stack s H:=
 ⟨I.ok.frames,I.ok.mod,I.bs,Nat.le_trans I.ok.bsz I.sz,I.stack,I.stkFree,I.hok,I.bare⟩
theorem aK.after {Q:VK} {u:Value} (I:aK X pins σ H s) (h:CE X.stack X.prog X.w H s Q u s'):EP X pins σ Q u s':=by
 obtain ⟨v,H',os,bare,un,hok,r,q⟩:=h;obtain ⟨hh,g,d,t,os'⟩:=s';obtain rfl:os'=s.os:=os;exact ⟨v,H',I.call (h':=hh) (g':=g) (d':=d) (t':=t) (ch:=[]) un hok bare (λ b z=>absurd z (by simp)),r,q⟩
end
noncomputable def se (sp:Sp) (dvs:List V) (E:XK) (t:TA):TE:=λ σ H Q=>t σ H λ vs H1=>sp (vs++dvs) H1 Q E
noncomputable def nA (C:Addr) (m:Str) (sp:Sp) (dvs:List V) (E:XK) (ta:TE) (t:TA):TE:=λ σ H Q=>ta σ H λ x H1=>∃ a dx fs,x=.ref a/\H1 a=some (.ins C dx fs)/\fs.lookup m=none/\
 t σ H1 λ vs H2=>sp (x::(vs++dvs)) H2 Q E
noncomputable def zu (C:Addr) (sp:Sp) (dvs:List V) (E:XK) (t:TA):TE:=λ σ H Q=>t σ H λ vs H1=>∀ x dx,H1 x=none->H1 dx=none->dx≠x->
 sp (.ref x::(vs++dvs)) (cR (cR H1 dx (.own x)) x (.ins C dx [])) (λ v H2=>v=.non/\Q (.ref x) H2) E
noncomputable def aP (K:Frag) (fd:FuncData) (ps:List Str) (ds:List Value):Prop:=
 ∀ (s:Shared) (us:List Value),K.In s.heap->(us++ds).length=ps.length->BindsTo s fd ⟨us,[]⟩ (ps.zip (us++ds))
theorem aP.all {K:Frag} {fd:FuncData} {ps:List Str} (h:∀ us:List Value,us.length=ps.length->bindArgs fd ⟨us,[]⟩=pure (ps.zip us)):aP K fd ps []:=λ s us _ hl=>by
 rw [List.append_nil] at hl ⊢;exact .of_eq (h us hl)
noncomputable def gF (CX:qU) (X:Cx) (E:XK):Prop:=∀ (pins:List (Addr×Obj)) (σ:St) (H:Hp) (s:Shared) (e:Value) (s':Shared),aK X pins σ H s->CX X.stack H s E e s'->X.xe e s'
section
variable {X:Cx} {CX:qU} {k:Nat} {f C:Addr} {fd:FuncData} {ps:List Str} {sp:Sp} {dvs:List V} {ds:List Value} {E:XK} {x m:Str} {p pos apos:Pos} {e o:Expr} {es:List Expr} {ta:TE} {t:TA}
theorem ui {pins:List (Addr×Obj)} {σ:St} {H:Hp} {s:Shared} {Q:VK} {us:List Value} {vs:List V} (F:et X.prog X.w X.K X.mg X.base CX k f fd ps sp) (hr:cq k X.A) (hb:aP X.K fd ps ds) (hd:bn dvs ds) (hx:gF CX X E)
 (I:aK X pins σ H s) (r:bn vs us) (h:sp (vs++dvs) H Q E):wpAny (model X.prog X.w) X.A (call (.ref f) us) (EP X pins σ Q) X.xe s:=by
 have r2:bn (vs++dvs) (us++ds):=r.append hd;have hl:(us++ds).length=ps.length:=by rw [<-r2.length];exact F.len _ _ _ _ h
 refine wpAny_call (codeAny_mono (F.run X.A X.stack s H ⟨us,[]⟩ (us++ds) (vs++dvs) Q E hr I.env0 (hb s us I.kIn hl) r2 h) λ r s' hq=>?_);cases r with
 | error e=>exact hx pins σ H s e s' I hq
 | ok fl=>
  cases fl with
  | ret u=>exact I.after hq
  | next=>exact False.elim hq
  | brk=>exact False.elim hq
  | cont=>exact False.elim hq
theorem Am (F:et X.prog X.w X.K X.mg X.base CX k f fd ps sp) (hr:cq k X.A) (hg:Gl X x) (hm:X.mg x=some (.ref f)) (hk:PySem.W.keepIn X.K (.ref f)=true) (hb:aP X.K fd ps ds) (hd:bn dvs ds) (hx:gF CX X E)
 (ha:PA X (e::es) t) (hdb:(x==("__debug__" : Str))=false:=by decide) (he:starEach (e::es) X.env=(false,eval e X.env)::starEach es X.env:=by rfl) (hpl:(backTo pos (starEach es X.env)).any (·.1)=false:=by rfl):
 PE X (.Call (.Name x p) (e::es) [] pos) (se sp dvs E t):=by
 intro pins s σ H Q I h;refine wpAny_Call_Name_kw (hU I hg hm ?_ hdb);refine PySem.W.callWith_K (h₀:=X.base) I.ok.mod.kin hk (cc (ha pos pins s σ H _ I h) λ us s1 hy0=>?_) he hpl;obtain ⟨vs,H1,I1,r,q⟩:=hy0;refine ⟨I1.kIn,?_⟩;exact ui F hr hb hd hx I1 r q
theorem Bq {pl:Sem Bool} (he:PE X o ta) (c:eJ X.K C) (hm:bg X.K C m f) (F:et X.prog X.w X.K X.mg X.base CX k f fd ps sp) (hr:cq k X.A) (hb:aP X.K fd ps ds) (hd:bn dvs ds) (hx:gF CX X E) (ha:PA X (e::es) t)
 (hst:starEach (e::es) X.env=(false,eval e X.env)::starEach es X.env:=by rfl) (hpl:(backTo pos (starEach es X.env)).any (·.1)=false:=by rfl)
 (ht:eval (.Call (.Attribute o m apos) (e::es) [] pos) X.env=(do
  let ov <-eval o X.env
  standAt apos.atName
  let (f,first) <-holding [ov] (getMethod ov m pl)
  callWith pos f first (backTo pos (starEach (e::es) X.env)) (backToKw pos (keywordEach [] X.env))):=by rfl):
 PE X (.Call (.Attribute o m apos) (e::es) [] pos) (nA C m sp dvs E ta t):=by
 intro pins s σ H Q I h;refine PySem.W.methodCall_KW (pl:=pl) (cc (he pins s σ H _ I h) λ u s1 hq0=>?_) ht;obtain ⟨x,H1,I1,rx,a,dx,fs,ex,ea,l,q⟩:=hq0;subst ex;obtain rfl:u=Value.ref a:=rx;refine iC I1 ea c hm l ?_;refine PySem.W.callWith_K (first:=[.ref a]) (h₀:=X.base) I.ok.mod.kin hm.kp (cc (ha pos pins s1 σ H1 _ I1 q) λ us s2 hy0=>?_) hst hpl;obtain ⟨vs,H2,I2,r,q2⟩:=hy0;refine ⟨I2.kIn,?_⟩;exact ui (us:=.ref a::us) (vs:=.ref a::vs) F hr hb hd hx I2 (.cons rfl r) q2
theorem yT {pl:Sem Bool} (he:PE X o ta) (c:eJ X.K C) (hm:bg X.K C m f) (F:et X.prog X.w X.K X.mg X.base CX k f fd ps sp) (hr:cq k X.A) (hb:aP X.K fd ps ds) (hd:bn dvs ds) (hx:gF CX X E)
 (ht:eval (.Call (.Attribute o m apos) [] [] pos) X.env=(do
  let ov <-eval o X.env
  standAt apos.atName
  let (f,first) <-holding [ov] (getMethod ov m pl)
  callWith pos f first (backTo pos (starEach [] X.env)) (backToKw pos (keywordEach [] X.env))):=by rfl):
 PE X (.Call (.Attribute o m apos) [] [] pos) (nA C m sp dvs E ta lI):=by
 intro pins s σ H Q I h;refine PySem.W.methodCall_KW (pl:=pl) (cc (he pins s σ H _ I h) λ u s1 hq0=>?_) ht;obtain ⟨x,H1,I1,rx,a,dx,fs,ex,ea,l,q⟩:=hq0;subst ex;obtain rfl:u=Value.ref a:=rx;refine iC I1 ea c hm l ?_;exact PySem.W.callWith_K0 (first:=[.ref a]) I1.kIn hm.kp (ui (us:=[.ref a]) (vs:=[.ref a]) F hr hb hd hx I1 (.cons rfl .nil) q)
structure Mk (K:Frag) (C f:Addr):Prop where
 makes:PySem.W.makesIn K C=true
 init:PySem.W.findIn K (.ref C) "__init__" = some (some (.ref f))
 fn:PySem.W.isFn K (.ref f)=true
 kp:PySem.W.keepIn K (.ref C)=true
theorem sw {pins:List (Addr×Obj)} {σ:St} {H:Hp} {s:Shared} {Q:VK} {us:List Value} {vs:List V} (M:Mk X.K C f) (F:et X.prog X.w X.K X.mg X.base CX k f fd ps sp) (hr:cq (k+1) X.A) (hb:aP X.K fd ps ds) (hd:bn dvs ds)
 (hx:gF CX X E) (I:aK X pins σ H s) (r:bn vs us)
 (h:∀ x dx,H x=none->H dx=none->dx≠x->sp (.ref x::(vs++dvs)) (cR (cR H dx (.own x)) x (.ins C dx [])) (λ v H2=>v=.non/\Q (.ref x) H2) E):
 wpAny (model X.prog X.w) X.A (call (.ref C) us) (EP X pins σ Q) X.xe s:=by
 have hq:=h (s.heap.objs.size+1) s.heap.objs.size (I.hok.fresh (Nat.le_succ _)) (I.hok.fresh (Nat.le_refl _)) (Nat.ne_of_lt (Nat.lt_succ_self _));have I2:=aK.made (C:=C) I;have r2:bn (V.ref (s.heap.objs.size+1)::(vs++dvs)) (Value.ref (s.heap.objs.size+1)::(us++ds)):=.cons rfl (r.append hd);have hl:(Value.ref (s.heap.objs.size+1)::us++ds).length=ps.length:=by
  have e:=r2.length;rw [F.len _ _ _ _ hq] at e;exact e.symm
 refine wpAny_call (xl (f:=f) I.kIn M.makes M.init (beq_iff_eq.mp M.fn) (codeAny_mono (F.run _ X.stack _ _ ⟨Value.ref (s.heap.objs.size+1)::us,[]⟩ (Value.ref (s.heap.objs.size+1)::(us++ds)) _ _ E (hr.make C us [])
  (I2.env0.make C us []) (hb _ (Value.ref (s.heap.objs.size+1)::us) I2.kIn hl) r2 hq) λ r s' hq'=>?_))
 cases r with
 | error e=>exact hx pins σ _ _ e s' I2 hq'
 | ok fl=>
  cases fl with
  | ret u=>
   obtain ⟨v,H',I3,rv,ev,q3⟩:=I2.after hq';subst ev;exact ⟨rv,⟨V.ref (s.heap.objs.size+1),H',I3,rfl,q3⟩⟩
  | next=>exact False.elim hq'
  | brk=>exact False.elim hq'
  | cont=>exact False.elim hq'
theorem Bk (M:Mk X.K C f) (F:et X.prog X.w X.K X.mg X.base CX k f fd ps sp) (hr:cq (k+1) X.A) (hg:Gl X x) (hm:X.mg x=some (.ref C)) (hb:aP X.K fd ps ds) (hd:bn dvs ds) (hx:gF CX X E)
 (ha:PA X (e::es) t) (hdb:(x==("__debug__" : Str))=false:=by decide) (he:starEach (e::es) X.env=(false,eval e X.env)::starEach es X.env:=by rfl) (hpl:(backTo pos (starEach es X.env)).any (·.1)=false:=by rfl):
 PE X (.Call (.Name x p) (e::es) [] pos) (zu C sp dvs E t):=by
 intro pins s σ H Q I h;refine wpAny_Call_Name_kw (hU I hg hm ?_ hdb);refine PySem.W.callWith_K (h₀:=X.base) I.ok.mod.kin M.kp (cc (ha pos pins s σ H _ I h) λ us s1 hy0=>?_) he hpl;obtain ⟨vs,H1,I1,r,q⟩:=hy0;refine ⟨I1.kIn,?_⟩;exact sw M F hr hb hd hx I1 r q
theorem zw (M:Mk X.K C f) (F:et X.prog X.w X.K X.mg X.base CX k f fd ps sp) (hr:cq (k+1) X.A) (hg:Gl X x) (hm:X.mg x=some (.ref C)) (hb:aP X.K fd ps ds) (hd:bn dvs ds) (hx:gF CX X E)
 (hdb:(x==("__debug__" : Str))=false:=by decide):PE X (.Call (.Name x p) [] [] pos) (zu C sp dvs E lI):=by
 intro pins s σ H Q I h;refine wpAny_Call_Name_kw (hU I hg hm ?_ hdb);exact PySem.W.callWith_K0 I.kIn M.kp (sw (us:=[]) M F hr hb hd hx I .nil h)
end
section
variable {X:Cx} {CX:qU} {k:Nat} {f C:Addr} {fd:FuncData} {ps ks:List Str} {sp:Sp} {E:XK} {x m:Str} {p pos apos kpos:Pos} {e o:Expr} {es:List Expr} {kws:List Keyword} {te ta:TE} {t tk:TA} {nm:Option Str}
variable {g:List Value->List Value->List Value} {gV:List V->List V->List V}
end
structure dR (N P:List Str) (sc:Scope):Prop where
 kind:sc.kind=.function
 co:sc.isCoroutine=false
 gen:sc.isGenerator=false
 nd:N.Nodup
 pre:N.take P.length=P
 par:∀ x∈P,sc.names.lookup x=some .local∨sc.names.lookup x=some .cell
 nofree:∀ y∈sc.names,y.2≠.free
theorem pE {kindOf:Str->Option NameKind} {x:Str}:∀ {binds:List (Str×Value)} {m:Str->Option Value},(∀ v,(x,v)∉binds)->bindL kindOf binds m x=m x
 | [],_,_=>rfl
 | (n,v)::r,m,h=>by
  unfold bindL;rw [pE λ w hw=>h w (List.mem_cons_of_mem _ hw)];split
  . have:x≠n:=by rintro rfl;exact h v List.mem_cons_self
    simp [this]
  . rfl
theorem pj {kindOf:Str->Option NameKind} {x:Str}:∀ {binds:List (Str×Value)} {m:Str->Option Value},(∀ v,(x,v)∉binds)->bindC kindOf binds m x=m x
 | [],_,_=>rfl
 | (n,v)::r,m,h=>by
  unfold bindC;rw [pj λ w hw=>h w (List.mem_cons_of_mem _ hw)];split
  . rfl
  . have:x≠n:=by rintro rfl;exact h v List.mem_cons_self
    simp [this]
theorem pA {kindOf:Str->Option NameKind} {x:Str} {v:Value}:∀ {P:List Str} {vs:List Value} {i:Nat} {m:Str->Option Value},P.Nodup->P[i]?=some x->vs[i]?=some v->kindOf x=some .local->
 bindL kindOf (P.zip vs) m x=some v
 | [],_,_,_,_,h,_,_=>by simp at h
 | _::_,[],_,_,_,_,h,_=>by simp at h
 | p::P,w::vs,0,m,nd,h1,h2,hk=>by
  simp at h1 h2;subst h1;subst h2;show bindL kindOf ((p,w)::P.zip vs) m p=_;unfold bindL;rw [pE λ v hv=>(List.nodup_cons.mp nd).1 (List.of_mem_zip hv).1,if_pos hk];simp
 | p::P,w::vs,i+1,m,nd,h1,h2,hk=>by
  show bindL kindOf ((p,w)::P.zip vs) m x=_;unfold bindL;exact pA (i:=i) (List.nodup_cons.mp nd).2 (by simpa using h1) (by simpa using h2) hk
theorem p6 {kindOf:Str->Option NameKind} {x:Str} {v:Value}:∀ {P:List Str} {vs:List Value} {i:Nat} {m:Str->Option Value},P.Nodup->P[i]?=some x->vs[i]?=some v->kindOf x≠some .local->
 bindC kindOf (P.zip vs) m x=some v
 | [],_,_,_,_,h,_,_=>by simp at h
 | _::_,[],_,_,_,_,h,_=>by simp at h
 | p::P,w::vs,0,m,nd,h1,h2,hk=>by
  simp at h1 h2;subst h1;subst h2;show bindC kindOf ((p,w)::P.zip vs) m p=_;unfold bindC;rw [pj λ v hv=>(List.nodup_cons.mp nd).1 (List.of_mem_zip hv).1,if_neg hk];simp
 | p::P,w::vs,i+1,m,nd,h1,h2,hk=>by
  show bindC kindOf ((p,w)::P.zip vs) m x=_;unfold bindC;exact p6 (i:=i) (List.nodup_cons.mp nd).2 (by simpa using h1) (by simpa using h2) hk
noncomputable def start (N:List Str) (vs:List V):St:=vs.map some++List.replicate (N.length-vs.length) none
noncomputable def gN (CX:qU) (P:Program) (w:World) (K:Frag) (mg:Str->Option Value) (base:Heap) (N:List Str) (qual:Str) (scope:Scope) (f:Addr) (cd:Value) (A:Around) (outer:List Env) (s:Shared) (H:Hp) (E:XK):Cx where
 prog:=P
 w:=w
 K:=K
 mg:=mg
 base:=base
 A:=A.deeper (envOfC qual scope s.heap.objs.size f cd)
 N:=N
 s₀:=s
 H₀:=H
 env:=envOfC qual scope s.heap.objs.size f cd
 outer:=outer
 stack:=envOfC qual scope s.heap.objs.size f cd::outer
 ex:=[]
 calm:=true
 fn:=λ _=>true
 pn:=[]
 xe:=λ e s'=>wpAny (model P w) (A.deeper (envOfC qual scope s.heap.objs.size f cd)) (leaving (envOfC qual scope s.heap.objs.size f cd) e) (λ _ s''=>CX outer H s E e s'') (λ e' s''=>CX outer H s E e' s'') s'
theorem r9 {sc:Scope} {n:Nat} {x:Str} (h:sc.names.lookup x=some .cell):∃ c,(cellsFrom n sc.names []).lookup x=some c:=by
 have q:=PySem.W.cellsFrom_some sc.names n [] (.inl h);exact Option.isSome_iff_exists.mp q
theorem pK {CX:qU} {P:Program} {w:World} {K:Frag} {mg:Str->Option Value} {base:Heap} {N ps:List Str} {qual:Str} {scope:Scope} {f:Addr} {cd:Value} {A:Around} {outer:List Env} {s s1:Shared} {H:Hp} {E:XK} {us:List Value} {vs:List V}
 (S:dR N ps scope) (hd:A.handled=none) (e0:rL P w K mg base A outer s H) (hl:vs.length=ps.length) (r:bn vs us)
 (x:InCallC s s.heap.objs.size (bindL (envOfC qual scope s.heap.objs.size f cd).kindOf (ps.zip us) λ _=>none) (cellsFrom (s.heap.objs.size+1) scope.names []) (bindC (envOfC qual scope s.heap.objs.size f cd).kindOf (ps.zip us) λ _=>none) s1):
 aK (gN CX P w K mg base N qual scope f cd A outer s H E) [] (start N vs) H s1:=by
 have hpl:ps.length<=N.length:=by have:=congrArg List.length S.pre;rw [List.length_take] at this;omega
 obtain ⟨h1,tk,rfl,hk⟩:=x.done;have noA:∀ b:Addr,b∉(gN CX P w K mg base N qual scope f cd A outer s H E).ex:=λ b z=>absurd (show b∈([]:List Addr) from z) (by simp);refine ⟨⟨e0.mod,S.kind,rfl,rfl,Nat.le_refl _,λ y z c h1 h2=>?_,λ y hy=>?_,λ y c _ h=>?_,λ _=>hd,Around.frames_deeper e0.frames,.inr ⟨rfl,rfl⟩,λ b z=>absurd z (noA b),e0.bs,e0.bsz,λ b _ _=>noA b,λ b z=>absurd z (noA b),e0.funs,e0.frf⟩,
  rfl,e0.bare,Un.kept hk,⟨_,x.toInCall.ns,λ i y v h1 h2 h3=>?_⟩,λ y c h=>⟨_,x.cell y c h⟩,e0.hok.fresh (Nat.le_refl _),λ y c h=>?_,λ p hp=>absurd (show p∈([]:List (Addr×Obj)) from hp) (by simp),e0.hok.kept hk,?_⟩
 . exact name_of_addr x.apart (PySem.mem_of_lookup h1) (PySem.mem_of_lookup h2)
 . have hy:scope.names.lookup y=some .cell∨scope.names.lookup y=some .free:=hy;rcases hy with hy | hy
   . exact r9 hy
   . exact absurd rfl (S.nofree _ (PySem.mem_of_lookup hy))
 . exact Nat.le_of_lt (x.above y c (PySem.mem_of_lookup h))
 . have hi:i<vs.length:=by
    unfold start at h2;by_cases hi:i<vs.length
    . exact hi
    . rw [List.getElem?_append_right (by simpa using hi)] at h2;rw [List.getElem?_replicate] at h2;split at h2 <;> cases h2
   have ha:vs[i]?=some v:=by
    unfold start at h2;rw [List.getElem?_append_left (by simpa using hi),List.getElem?_map] at h2;cases e:vs[i]? with
    | none=>rw [e] at h2;cases h2
    | some a=>rw [e] at h2;cases h2;rfl
   obtain ⟨u,hu,rv⟩:=r.get ha;have hp:ps[i]?=some y:=by
    rw [<-S.pre,List.getElem?_take_of_lt (by omega)];exact h1
   have ndP:ps.Nodup:=by rw [<-S.pre];exact S.nd.sublist (List.take_sublist _ _)
   refine ⟨u,rv,?_⟩;rcases S.par y (List.mem_of_getElem? hp) with k | k
   . exact .inl ⟨k,pA ndP hp hu k⟩
   . obtain ⟨c,e⟩:=r9 (n:=s.heap.objs.size+1) k;refine .inr ⟨.inl k,c,e,?_⟩;have q:=x.cell y c e;rw [p6 ndP hp hu (by show scope.names.lookup y≠_;rw [k];decide)] at q;exact q
 . exact e0.hok.fresh (Nat.le_of_lt (x.above y c (PySem.mem_of_lookup h)))
 . unfold start;show _=N.length;rw [List.length_append,List.length_map,List.length_replicate];omega
theorem Cv {CX:qU} {P:Program} {w:World} {K:Frag} {mg:Str->Option Value} {base:Heap} {k:Nat} {f:Addr} {name qual:Str} {params:Arguments} {body:List Stmt} {scope:Scope} {dV kV doc pm cdv ct oc:Value} {an od:Option Addr}
 {osl:Array (Option Value)} {N ps:List Str} {sp:Sp} (lk:K.lookup f=some ⟨oc,od,.func (PySem.W.fnOf name qual params body scope dV kV doc pm an cdv ct),osl⟩) (hcd:PySem.W.codeIn K cdv qual=true) (S:dR N ps scope)
 (len:∀ vs H Q E,sp vs H Q E->vs.length=ps.length)
 (hbody:∀ (A:Around) (outer:List Env) (s:Shared) (H:Hp) (vs:List V) (Q:VK) (E:XK),cq k (A.deeper (envOfC qual scope s.heap.objs.size f cdv))->sp vs H Q E->
  ∃ t,mU (gN CX P w K mg base N qual scope f cdv A outer s H E) body t/\t { nx:=λ _ H'=>Q .non H',rt:=Q } (start N vs) H):
 et P w K mg base CX (k+1) f (PySem.W.fnOf name qual params body scope dV kV doc pm an cdv ct) ps sp:=by
 refine ⟨len,λ A outer s H args us vs Q E hr e0 hb r hsp=>?_⟩;have hl:=len _ _ _ _ hsp;have KX:K.In s.heap:=e0.mod.kin.keeps λ b o e=>(e0.bs b o e).1;have lim:s.heap.NoLimit:=e0.mod.nolimit.keeps λ b o e=>(e0.bs b o e).1;have hkind:∀ y∈ps.zip us,scope.names.lookup y.1=some .local∨(scope.names.lookup y.1=some .cell/\((cellsFrom (s.heap.objs.size+1) scope.names []).lookup y.1).isSome=true):=λ ⟨n,v⟩ hy=>by
  rcases S.par n (List.of_mem_zip hy).1 with q | q
  . exact .inl q
  . exact .inr ⟨q,PySem.W.cellsFrom_some _ _ _ (.inl q)⟩
 refine codeAny_call_function hr.depth (KX _ _ lk) rfl S.co S.gen rfl (PySem.W.codeRec_of KX hcd) (hb _ _ _ _ ?_);refine wpAny_newFunctionEnv_cells S.kind hkind λ env he s1 x=>?_;subst he;refine ⟨lim.keeps x.toInCall.keep,codeAny_func ?_⟩;obtain ⟨t,ht,hq⟩:=hbody A outer s H vs Q E (hr.deeper _) hsp;have I:aK (gN CX P w K mg base N qual scope f cdv A outer s H E) [] (start N vs) H s1:=pK S hr.hd e0 hl r x;refine wpAny_mono (ht [] s1 (start N vs) H _ I hq) (λ fl s' hs=>?_) λ e s' hs=>hs;have fin:∀ {σ':St} {H':Hp} {v:V} {u:Value},aK (gN CX P w K mg base N qual scope f cdv A outer s H E) [] σ' H' s'->be v u->Q v H'->CE outer P w H s Q u s':=
  λ {σ' H' v u} J rv q=>⟨v,H',J.os,J.bare,J.base,J.hok,rv,q⟩
 cases fl with
 | ret u=>
  obtain ⟨v,σ',H',J,rv,q⟩:=hs;exact fin J rv q
 | next=>
  obtain ⟨σ',H',J,q⟩:=hs;exact fin (v:=V.non) (u:=Value.none) J rfl q
 | brk=>
  obtain ⟨_,_,_,q⟩:=hs;exact False.elim q
 | cont=>
  obtain ⟨_,_,_,q⟩:=hs;exact False.elim q
end L2
namespace L2
open PySem PySem.Spec PyProof.Rows
open PySem.W (Frag)
section
variable {X:Cx} {x:Str} {p pos:Pos} {e:Expr} {es:List Expr} {t:TA} {id T:String} {r:List V->Hp->VK->Prop}
noncomputable def zj (r:List V->Hp->VK->Prop) (t:TA):TE:=λ σ H Q=>t σ H λ vs H1=>r vs H1 Q
theorem xf (hc:fz X (.builtin id) r) (hg:Gl X x) (hm:X.mg x=none) (hv:bootBuiltins x=some (.builtin id)) (ha:PA X (e::es) t) (hn:x ≠ "__name__" := by decide) (hdb:(x==("__debug__" : Str))=false:=by decide)
 (he:starEach (e::es) X.env=(false,eval e X.env)::starEach es X.env:=by rfl) (hpl:(backTo pos (starEach es X.env)).any (·.1)=false:=by rfl):PE X (.Call (.Name x p) (e::es) [] pos) (zj r t):=by
 intro pins s σ H Q I h;refine wpAny_Call_Name_kw (jz I hg hm hv ?_ hn hdb);exact PyProof.Rows.callWith_builtin1 (cc (ha pos pins s σ H _ I h) λ us s1 hy0=>by obtain ⟨vs,H1,I1,r1,q1⟩:=hy0;exact hc pins s1 σ H1 vs us Q I1 r1 q1) he hpl
theorem pJ (hc:fz X (.type T) r) (hg:Gl X x) (hm:X.mg x=none) (hv:bootBuiltins x=some (.type T)) (ha:PA X (e::es) t) (hn:x ≠ "__name__" := by decide) (hdb:(x==("__debug__" : Str))=false:=by decide)
 (he:starEach (e::es) X.env=(false,eval e X.env)::starEach es X.env:=by rfl) (hpl:(backTo pos (starEach es X.env)).any (·.1)=false:=by rfl):PE X (.Call (.Name x p) (e::es) [] pos) (zj r t):=by
 intro pins s σ H Q I h;refine wpAny_Call_Name_kw (jz I hg hm hv ?_ hn hdb);exact PyProof.Rows.callWith_type1 (cc (ha pos pins s σ H _ I h) λ us s1 hy0=>by obtain ⟨vs,H1,I1,r1,q1⟩:=hy0;exact hc pins s1 σ H1 vs us Q I1 r1 q1) he hpl
end
end L2
namespace HT
open PySem PyProof.Rows
section
open PySem.SeqAt
open PySem.AutoSeq1 (wpAny_loadPart')
open PySem.MeetsSeq PySem.MeetsSeq2 PySem.MeetsSeq3
end
section
variable {prog:Program} {w:World} {A:Around} {E:Value->Shared->Prop} {s:Shared}
theorem cat_tup {t b:Addr} {vs ws:List Value} {Q:Value->Shared->Prop} (ht:IsTup s.heap t vs.toArray) (hb:IsTup s.heap b ws.toArray) (hv:vs≠[])
 (h1:ws=[]->Q (.ref t) s) (h2:ws≠[]->Q (.ref s.heap.objs.size) { s with heap:=s.heap.push { cls:=.type "tuple", data:=.seq (vs++ws).toArray } })
 (hsz:vs.length+ws.length<=sizeLine):wpAny (model prog w) A (binaryOp .Add (.ref t) (.ref b)) Q E s:=by
 obtain ⟨⟨cls,dd,data,sl⟩,ho,hc,n,hd⟩:=id ht;obtain ⟨⟨cls2,dd2,data2,sl2⟩,ho2,hc2,n2,hd2⟩:=id hb;simp only at hc hd hc2 hd2;subst hc hd hc2 hd2;have e:vs.toArray++ws.toArray=(vs++ws).toArray:=by simp
 by_cases hw:ws=[]
 . exact concat_meets ⟨_,ho,rfl⟩ ⟨_,ho2,rfl⟩ noFill_tuple_add seq_tuple_add PySem.F.slot_tuple_add PySem.F.entry_tuple_add (PySem.F.args_tuple_add_2 _ _)
    (tuple_addW1 t b vs.toArray ws.toArray n n2 dd dd2 sl sl2 (by simpa using hv) (by simp [hw])) ⟨ho,ho2,h1 hw⟩
 . refine concat_meets ⟨_,ho,rfl⟩ ⟨_,ho2,rfl⟩ noFill_tuple_add seq_tuple_add PySem.F.slot_tuple_add PySem.F.entry_tuple_add (PySem.F.args_tuple_add_2 _ _)
    (tuple_addW2 t b vs.toArray ws.toArray n n2 dd dd2 sl sl2 (by simpa using hv) (by simpa using hw) (by rw [List.size_toArray,List.size_toArray];exact hsz)) ⟨ho,ho2,?_⟩
   rw [e];exact h2 hw
noncomputable def sIx (n d:Nat):Option Int->Nat
 | none=>d
 | some v=>if v<0 then (v+(n:Int)).toNat else min v.toNat n
end
end HT
namespace L2
open PySem PySem.Spec PyProof.Rows
open PySem.W (Frag)
noncomputable abbrev TO:=St->Hp->(Option Int->Hp->Prop)->Prop
section
variable {X:Cx} {e:Expr} {te:TE} {lo hi:Option Expr} {tl th:TO} {pos p2:Pos}
noncomputable def Mo (X:Cx) (r:V->Option Int->Option Int->Hp->VK->Prop):Prop:=
 ∀ (pins:List (Addr×Obj)) (s:Shared) (σ:St) (H:Hp) (x:V) (v vl vu:Value) (lo hi:Option Int) (sl:Addr) (Q:VK),aK X pins σ H s->be x v->s.heap.IsSliceOf sl vl vu .none->IsPart vl lo->IsPart vu hi->r x lo hi H Q->
  ∃ T id,typeLookup (.type T) "__getitem__" = pure (some (.builtin id))/\s.TypeIs v T/\wpAny (model X.prog X.w) X.A (getItem v (.ref sl)) (EP X pins σ Q) X.xe s
noncomputable def Ca (K:Frag):R2:=λ x y H Q=>∃ a b xs ys,x=.ref a/\y=.ref b/\ii K H a xs/\ii K H b ys/\xs≠[]/\xs.length+ys.length<=sizeLine/\
 (ys=[]->Q (.ref a) H)/\(ys≠[]->∀ p,H p=none->Q (.ref p) (cR H p (.tup (xs++ys))))
theorem bn.nil_iff {xs:List V} {us:List Value} (r:bn xs us):us=[]↔xs=[]:=by
 cases r with
 | nil=>simp
 | cons _ _=>simp
theorem B3:ig X (binaryOp .Add) (Ca X.K):=by
 intro pins s σ H x y v u Q I rx ry h;obtain ⟨a,b,xs,ys,rfl,rfl,ha,hb,hx,hz,q1,q2⟩:=h;cases rx;cases ry;obtain ⟨its,r1,p1,_⟩:=I.tuple ha;obtain ⟨its2,r2,p2,_⟩:=I.tuple hb;refine HT.cat_tup p1 p2 (λ z=>hx (r1.nil_iff.mp z)) (λ z=>⟨.ref a,H,I,rfl,q1 (r2.nil_iff.mp z)⟩) (λ z=>?_) (by rw [<-r1.length,<-r2.length];exact hz);refine ⟨.ref s.heap.objs.size,_,I.laid (t':=s.toks) (o:=.tup (xs++ys)) (λ b ob q=>Heap.get?_push_of_some _ q) (Nat.le_refl _) ?_,rfl,q2 (λ w=>z (r2.nil_iff.mpr w)) _ (I.hok.fresh (Nat.le_refl _))⟩;exact ⟨by rw [List.length_append];exact hz,_,r1.append r2,IsTup.new _ _⟩
end
end L2
namespace L2
open PySem PySem.Spec PyProof.Rows
open PySem.W (Frag)
noncomputable def B5 (n:Nat) (i:Int):Option Nat:=if 0<=i then (if i<n then some i.toNat else none) else if -(n:Int)<=i then some (i+n).toNat else none
noncomputable def jf {α:Type} (xs:List α) (i:Int):Option α:=(B5 xs.length i).bind λ j=>xs[j]?
theorem AV {n:Nat} {i:Int} {j:Nat} (h:B5 n i=some j):seqIndex? i n=some j/\j<n /\ -(n:Int)<=i/\i<n:=by
 unfold B5 at h;by_cases h0:0<=i
 . rw [if_pos h0] at h;by_cases h1:i<n
   . rw [if_pos h1] at h;have e:i.toNat=j:=Option.some.inj h;exact ⟨by rw [seqIndex_of h0 h1,e],by omega,by omega,h1⟩
   . rw [if_neg h1] at h;cases h
 . rw [if_neg h0] at h;by_cases h1 : -(n:Int)<=i
   . rw [if_pos h1] at h;have e:(i+n).toNat=j:=Option.some.inj h;exact ⟨by rw [seqIndex_neg (by omega) h1,e],by omega,h1,by omega⟩
   . rw [if_neg h1] at h;cases h
theorem qE {α:Type} {xs:List α} {i:Int} {v:α} (h:jf xs i=some v):∃ j,seqIndex? i xs.length=some j/\xs[j]?=some v/\j<xs.length /\ -(xs.length:Int)<=i/\i<xs.length:=by
 unfold jf at h;cases e:B5 xs.length i with
 | none=>rw [e] at h;cases h
 | some j=>
  rw [e] at h;obtain ⟨h1,h2,h3,h4⟩:=AV e;exact ⟨j,h1,h,h2,h3,h4⟩
noncomputable def zO (b:Expr):Prop:=∀ o i,subscripted b false o i=operate [o,i] (getItem o i)
noncomputable def xt (X:Cx) (r:R2):Prop:=
 ∀ (value slice:Expr) (pins:List (Addr×Obj)) (s:Shared) (σ:St) (H:Hp) (x y:V) (v u:Value) (Q:VK),aK X pins σ H s->be x v->be y u->r x y H Q->
  subscripted slice false v u=operate [v,u] (getItem v u)->wpAny (model X.prog X.w) X.A (subscriptTail value slice v u) (EP X pins σ Q) X.xe s
noncomputable def Hi (X:Cx) (id:String) (r:V->List V->Hp->VK->Prop):Prop:=
 ∀ (pins:List (Addr×Obj)) (s:Shared) (σ:St) (H:Hp) (x:V) (xs:List V) (v:Value) (us:List Value) (Q:VK),aK X pins σ H s->be x v->bn xs us->r x xs H Q->
  wpAny (model X.prog X.w) X.A (call (.builtin id) (v::us)) (EP X pins σ Q) X.xe s
section
variable {X:Cx} {a b:Expr} {ta tb:TE} {pos:Pos}
theorem xt.or {r r':R2} (h:xt X r) (h':xt X r'):xt X (λ x y H Q=>r x y H Q∨r' x y H Q):=by
 intro value slice pins s σ H x y v u Q I rx ry q hs;rcases q with q | q
 . exact h value slice pins s σ H x y v u Q I rx ry q hs
 . exact h' value slice pins s σ H x y v u Q I rx ry q hs
theorem KZ {r:R2} (hr:xt X r) (ha:PE X a ta) (hb:PE X b tb) (hs:zO b):PE X (.Subscript a b pos) (rA r ta tb):=by
 intro pins s σ H Q I h;exact Subscript_ (D4 ha hb I h λ v u s2 x y H2 I2 rx ry q=>hr a b pins s2 σ H2 x y v u Q I2 rx ry q (hs _ _))
noncomputable def HZ (K:Frag):R2:=λ x y H Q=>∃ p xs i v,x=.ref p/\y=.int i/\dM K H p xs/\jf xs i=some v/\Q v H
noncomputable def Ig (K:Frag):R2:=λ x y H Q=>∃ p xs i v,x=.ref p/\y=.int i/\ii K H p xs/\jf xs i=some v/\Q v H
noncomputable def Gk:R2:=λ x y H Q=>∃ z i c,x=.str z/\y=.int i/\z.length<=sizeLine/\jf z.cps.toList i=some c/\Q (.str ⟨#[c]⟩) H
theorem Bt:xt X (HZ X.K):=by
 intro value slice pins s σ H x y v u Q I rx ry h hs;obtain ⟨p,xs,i,z,rfl,rfl,hq,he,q⟩:=h;cases rx;obtain ⟨t,rfl⟩:=ry;obtain ⟨its,r,pl,hz⟩:=I.list hq;obtain ⟨j,h1,h2,h3,h4,h5⟩:=qE he;obtain ⟨w,ew,rw'⟩:=r.get h2;have hl:=r.length;have hn:=lP;have fin:EP X pins σ Q w s:=⟨z,H,I,rw',q⟩
 by_cases h0:0<=i
 . have hj:i.toNat=j:=by
    rw [seqIndex_of h0 h5] at h1;exact Option.some.inj h1
   exact item_listR pl.isList h0 (by omega) (by rw [hj];simpa using ew) fin hs
 . have hj:(i+(its.toArray.size:Int)).toNat=j:=by
    rw [seqIndex_neg (by omega) h4] at h1;rw [List.size_toArray,<-hl];exact Option.some.inj h1
   exact subscriptTail_builtinR (x:=w) pl.isList.typeIs slot_list_getitem.lookup
    (wpAny_getItem_list_neg (Q:=λ r s'=>r=w/\EP X pins σ Q r s') pl.isList (by omega) (by rw [List.size_toArray] <;> omega) (by omega) (by rw [hj];simpa using ew) ⟨rfl,fin⟩) hs
theorem Dg:xt X (Ig X.K):=by
 intro value slice pins s σ H x y v u Q I rx ry h hs;obtain ⟨p,xs,i,z,rfl,rfl,hq,he,q⟩:=h;cases rx;obtain ⟨t,rfl⟩:=ry;obtain ⟨its,r,pl,hz⟩:=I.tuple hq;obtain ⟨j,h1,h2,h3,h4,h5⟩:=qE he;obtain ⟨w,ew,rw'⟩:=r.get h2;have hl:=r.length;have hn:=lP;have fin:EP X pins σ Q w s:=⟨z,H,I,rw',q⟩
 exact subscriptTail_builtinR (x:=w) pl.typeIs slot_tuple_getitem.lookup
  (getItem_tuple (j:=j) (Q:=λ r s'=>r=w/\EP X pins σ Q r s') pl (by omega) (by omega) (by rw [List.size_toArray,<-hl];exact h1) (by simpa using ew) ⟨rfl,fin⟩) hs
theorem Fx:xt X Gk:=by
 intro value slice pins s σ H x y v u Q I rx ry h hs;obtain ⟨z,i,c,rfl,rfl,hz,he,q⟩:=h;obtain ⟨t,rfl⟩:=rx;obtain ⟨t',rfl⟩:=ry;obtain ⟨j,h1,h2,h3,h4,h5⟩:=qE he;have hl:z.cps.toList.length=z.length:=by simp [Str.length]
 rw [hl] at h1 h4 h5;have hn:=lP;exact tail_any (typeIs_str s z t) slot_str_getitem.lookup (getItem_str (c:=c) (by
  have e1:decide (i < -(2^63:Int))=false:=decide_eq_false (by omega);have e2:decide (i ≥ 2^63)=false:=decide_eq_false (by omega);rw [e1,e2,Bool.or_false]) (by rw [h1];simpa using h2) ⟨.str ⟨#[c]⟩,H,I.tok _,⟨_,rfl⟩,q⟩) hs
noncomputable def Ij (K:Frag):R2:=λ x y H Q=>HZ K x y H Q∨Ig K x y H Q∨Gk x y H Q
theorem CK:xt X (Ij X.K):=Bt.or (Dg.or Fx)
noncomputable def gB:V->Bool
 | .non=>true
 | .bl _=>true
 | .int _=>true
 | .str _=>true
 | _=>false
noncomputable def BY:V->V->Bool
 | .non,.non=>true
 | .bl a,.bl b=>a==b
 | .bl a,.int b=>(if a then 1 else 0)==b
 | .int a,.bl b=>a==(if b then 1 else 0)
 | .int a,.int b=>a==b
 | .str a,.str b=>a==b
 | _,_=>false
theorem EE {A:Around} {s:Shared} {y x:V} {u v:Value} (ry:be y u) (rx:be x v) (fy:gB y=true) (fx:gB x=true):SeqAt.EqAt A s u v (BY y x):=by
 cases y with
 | non=>
  cases ry;cases x with
  | non=>cases rx;exact SeqAt.EqAt.same _
  | bl b=>cases rx;exact SeqAt.EqAt.none_bool b
  | int b=>obtain ⟨t,rfl⟩:=rx;exact SeqAt.EqAt.none_int b t
  | str b=>obtain ⟨t,rfl⟩:=rx;exact SeqAt.EqAt.none_str b t
  | _=>exact absurd (show false=true from fx) Bool.false_ne_true
 | bl a=>
  cases ry;cases x with
  | non=>cases rx;exact SeqAt.EqAt.bool_none a
  | bl b=>cases rx;exact SeqAt.EqAt.bool_bool a b
  | int b=>obtain ⟨t,rfl⟩:=rx;exact SeqAt.EqAt.bool_int a b t
  | str b=>obtain ⟨t,rfl⟩:=rx;exact SeqAt.EqAt.bool_str a b t
  | _=>exact absurd (show false=true from fx) Bool.false_ne_true
 | int a=>
  obtain ⟨t',rfl⟩:=ry;cases x with
  | non=>cases rx;exact SeqAt.EqAt.int_none a t'
  | bl b=>cases rx;exact SeqAt.EqAt.int_bool a t' b
  | int b=>obtain ⟨t,rfl⟩:=rx;exact SeqAt.EqAt.int_int a t' b t
  | str b=>obtain ⟨t,rfl⟩:=rx;exact SeqAt.EqAt.int_str a t' b t
  | _=>exact absurd (show false=true from fx) Bool.false_ne_true
 | str a=>
  obtain ⟨t',rfl⟩:=ry;cases x with
  | non=>cases rx;exact SeqAt.EqAt.str_none a t'
  | bl b=>cases rx;exact SeqAt.EqAt.str_bool a t' b
  | int b=>obtain ⟨t,rfl⟩:=rx;exact SeqAt.EqAt.str_int a t' b t
  | str b=>obtain ⟨t,rfl⟩:=rx;exact SeqAt.EqAt.str_str a t' b t
  | _=>exact absurd (show false=true from fx) Bool.false_ne_true
 | _=>exact absurd (show false=true from fy) Bool.false_ne_true
noncomputable def zV (x:V) (u:Value):Bool:=match u with
 | .none=>BY .non x
 | .bool b=>BY (.bl b) x
 | .int i _=>BY (.int i) x
 | .str z _=>BY (.str z) x
 | _=>false
theorem xz {x y:V} {u:Value} (r:be y u) (f:gB y=true):zV x u=BY y x:=by
 cases y with
 | non=>cases r;rfl
 | bl b=>cases r;rfl
 | int i=>obtain ⟨t,rfl⟩:=r;rfl
 | str z=>obtain ⟨t,rfl⟩:=r;rfl
 | _=>exact absurd (show false=true from f) Bool.false_ne_true
theorem uF {x:V} {xs:List V} {us:List Value} (h:bn xs us):xs.all gB=true->us.any (zV x)=xs.any λ y=>BY y x:=by
 induction h with
 | nil=>exact λ _=>rfl
 | cons r _ ih=>
  intro f;rw [List.all_cons,Bool.and_eq_true] at f;rw [List.any_cons,List.any_cons,xz r f.1,ih f.2]
theorem si {A:Around} {s:Shared} {x:V} {v:Value} (rx:be x v) (fx:gB x=true):∀ {xs:List V} {us:List Value},bn xs us->xs.all gB=true->∀ u∈us,SeqAt.EqAt A s u v (zV x u):=λ h f u' hu=>by
 induction h with
 | nil=>cases hu
 | cons r _ ih=>
  rw [List.all_cons,Bool.and_eq_true] at f;rcases List.mem_cons.mp hu with rfl | hu
  . rw [xz r f.1];exact EE r rx f.1 fx
  . exact ih f.2 hu
noncomputable def FT (x:V) (xs:List V):Bool:=xs.any λ y=>BY y x
noncomputable def FC (K:Frag) (neg:Bool):R2:=λ x y H Q=>∃ p xs,y=.ref p/\(dM K H p xs∨ii K H p xs)/\gB x=true/\xs.all gB=true/\Q (.bl (if neg then !FT x xs else FT x xs)) H
theorem wd:ig X (compareOp .In) (FC X.K false):=by
 intro pins s σ H x y v u Q I rx ry h;obtain ⟨p,xs,rfl,hq,fx,fs,q⟩:=h;cases ry;rcases hq with hq | hq
 . obtain ⟨its,r,pl,hz⟩:=I.list hq;refine SeqAt.in_listAt (zV x) pl.isList (λ w hw=>si rx fx r fs w (by simpa using hw)) ⟨.bl _,H,I,rfl,?_⟩;rw [show its.toArray.any (zV x)=its.any (zV x) by simp,uF r fs];exact q
 . obtain ⟨its,r,pl,hz⟩:=I.tuple hq;refine SeqAt.in_tupleAt (zV x) pl (λ w hw=>si rx fx r fs w (by simpa using hw)) ⟨.bl _,H,I,rfl,?_⟩;rw [show its.toArray.any (zV x)=its.any (zV x) by simp,uF r fs];exact q
theorem pY:fz X (.builtin "len") (λ xs H Q=>∃ p ys,xs=[.ref p]/\(dM X.K H p ys∨ii X.K H p ys)/\Q (.int ys.length) H):=by
 intro pins s σ H xs us Q I r h;obtain ⟨p,ys,rfl,hq,q⟩:=h;obtain ⟨u,rfl,rx⟩:=sk r;cases rx;have hn:=lP;rcases hq with hq | hq
 . obtain ⟨its,r',pl,hz⟩:=I.list hq;have hlen:=r'.length;exact Calls.call_len_list pl.isList (by simp only [List.size_toArray] <;> omega) ⟨.int ys.length,H,I.tok _,⟨s.toks+1,by rw [List.size_toArray,hlen]⟩,q⟩
 . obtain ⟨its,r',pl,hz⟩:=I.tuple hq;have hlen:=r'.length;exact len_tuple pl (by simp only [List.size_toArray] <;> omega) ⟨.int ys.length,H,I.tok _,⟨s.toks+1,by rw [List.size_toArray,hlen]⟩,q⟩
theorem qw:fz X (.builtin "len") (λ xs H Q=>∃ z,xs=[.str z]/\z.length<=sizeLine/\Q (.int z.length) H):=by
 intro pins s σ H xs us Q I r h;obtain ⟨z,rfl,hz,q⟩:=h;obtain ⟨u,rfl,t,rfl⟩:=sk r;have hn:=lP;exact len_str (by omega) ⟨.int z.length,H,I.tok _,⟨_,rfl⟩,q⟩
theorem fz.or {f:Value} {r r':List V->Hp->VK->Prop} (h:fz X f r) (h':fz X f r'):fz X f (λ xs H Q=>r xs H Q∨r' xs H Q):=by
 intro pins s σ H xs us Q I rs q;rcases q with q | q
 . exact h pins s σ H xs us Q I rs q
 . exact h' pins s σ H xs us Q I rs q
theorem qP:fz X (.type "list") (λ xs H Q=>∃ p ys,xs=[.ref p]/\(dM X.K H p ys∨ii X.K H p ys)/\∀ l,H l=none->Q (.ref l) (cR H l (.lst ys))):=by
 intro pins s σ H xs us Q I r h;obtain ⟨p,ys,rfl,hq,q⟩:=h;obtain ⟨u,rfl,rx⟩:=sk r;cases rx;have fin:∀ (its:List Value),bn ys its->ys.length<=sizeLine->∀ (h':Heap) (c':Nat),(∀ b o',s.heap.get? b=some o'->h'.get? b=some o')->
  h'.get? s.heap.objs.size=some { cls:=.type "list", dict:=none,data:=.seq its.toArray c',slots:=#[] }->EP X pins σ Q (.ref s.heap.objs.size) { s with heap:=h' }:=λ its r' hz h' c' kp e=>
  ⟨.ref s.heap.objs.size,_,I.laid (t':=s.toks) kp (Nat.le_refl _) (show cO X.prog X.w _ h' _ (.lst ys) from ⟨hz,its,c',r',e⟩),rfl,q _ (I.hok.fresh (Nat.le_refl _))⟩
 rcases hq with hq | hq
 . obtain ⟨its,r',pl,hz⟩:=I.list hq;have hlen:=r'.length;obtain ⟨o,ho,hc,n,hd⟩:=pl.isList;exact call_list_seq p (.inl rfl) ho hc hd (λ h' c' kp e=>fin its r' hz h' c' kp e) (by simp only [List.size_toArray] <;> omega)
 . obtain ⟨its,r',pl,hz⟩:=I.tuple hq;have hlen:=r'.length;obtain ⟨o,ho,hc,n,hd⟩:=pl;exact call_list_seq p (.inr rfl) ho hc hd (λ h' c' kp e=>fin its r' hz h' c' kp e) (by simp only [List.size_toArray] <;> omega)
noncomputable def Ju (K:Frag) (T:String) (x:V) (H:Hp):Prop:=match x with
 | .str _=>T = "str"
 | .int _=>T = "int"
 | .ref p=>(T = "list" /\ ∃ xs,dM K H p xs)∨(T = "tuple" /\ ∃ o,K.lookup p=some o/\o.cls=.type "tuple" /\ o.dict=none)∨
  (T = "dict" /\ ((∃ kvs,H p=some (.dK kvs))∨∃ kvs,H p=some (.dT kvs)))∨(T = "set" /\ ∃ S n,H p=some (.set S n))
 | _=>False
theorem ze {pins:List (Addr×Obj)} {σ:St} {H:Hp} {s:Shared} {T:String} {x:V} {v:Value} (I:aK X pins σ H s) (r:be x v) (ty:Ju X.K T x H):
 s.TypeIs v T/\∀ a,v=.ref a->∃ ob,s.heap.get? a=some ob/\ob.dict=none:=by
 cases x with
 | str z=>
  obtain ⟨t,rfl⟩:=r;cases (show T = "str" from ty);exact ⟨typeIs_str s z t,λ _ e=>nomatch e⟩
 | int i=>
  obtain ⟨t,rfl⟩:=r;cases (show T = "int" from ty);exact ⟨typeIs_int s i t,λ _ e=>nomatch e⟩
 | ref p=>
  cases r;rcases ty with ⟨rfl,xs,hq⟩ | ⟨rfl,o,hk,hc,hd⟩ | ⟨rfl,hk⟩ | ⟨rfl,S,n,hk⟩
  . obtain ⟨its,_,pl,_⟩:=I.list hq;refine ⟨pl.isList.typeIs,λ a e=>?_⟩;cases e;obtain ⟨o,n,e,c,hd,_⟩:=pl;exact ⟨o,e,hd⟩
  . refine ⟨⟨o,I.kIn p o hk,hc⟩,λ a e=>?_⟩;cases e;exact ⟨o,I.kIn _ o hk,hd⟩
  . have z:∃ o,s.heap.get? p=some o/\o.ExactDict:=by
     rcases hk with ⟨kvs,hk⟩ | ⟨kvs,hk⟩
     . obtain ⟨_,_,_,_,o,_,_,e,ex,_⟩:=I.hok p _ hk;exact ⟨o,e,ex⟩
     . obtain ⟨_,_,_,_,o,_,_,e,ex,_⟩:=I.hok p _ hk;exact ⟨o,e,ex⟩
    obtain ⟨o,e,ex⟩:=z;refine ⟨⟨o,e,ex.1⟩,λ a e2=>?_⟩;cases e2;exact ⟨o,e,ex.2.1⟩
  . obtain ⟨o,_,_,_,e,ex,_⟩:=I.hok p _ hk;refine ⟨⟨o,e,ex.1⟩,λ a e2=>?_⟩;cases e2;exact ⟨o,e,ex.2.1⟩
 | _=>exact False.elim ty
noncomputable def zT (K:Frag) (T:String) (r:V->List V->Hp->VK->Prop) (to:TE):TE:=λ σ H Q=>to σ H λ x H1=>Ju K T x H1/\r x [] H1 Q
noncomputable def GN (K:Frag) (T:String) (r:V->List V->Hp->VK->Prop) (to:TE) (t:TA):TE:=λ σ H Q=>to σ H λ x H1=>Ju K T x H1/\t σ H1 λ xs H2=>r x xs H2 Q
variable {o e:Expr} {es:List Expr} {to:TE} {t:TA} {name:Str} {apos cpos:Pos} {T id:String} {r:V->List V->Hp->VK->Prop}
theorem CZ (pa:PlainAttrs T) (slot:Slot T name id) (hty:typeOf (.builtin id)=pure (.type "method_descriptor")) (hm:Hi X id r) (ho:PE X o to)
 (hbase:attributeBase o name X.env (eval o X.env)=eval o X.env:=by rfl) (hline:(apos.endLine==cpos.line)=true:=by rfl):PE X (.Call (.Attribute o name apos) [] [] cpos) (zT X.K T r to):=by
 intro pins s σ H Q I h;refine wpAny_Call_method0_late hbase hline (cc (ho pins s σ H _ I h) λ v s1 hq0=>?_);obtain ⟨x,H1,I1,r1,ty,q1⟩:=hq0;obtain ⟨h1,h2⟩:=ze I1 r1 ty;exact ⟨T,id,pa,slot,hty,h1,h2,Calls.callWith_builtin rfl (PySem.evalArgs_none (hm pins s1 σ H1 x [] v [] Q I1 r1 .nil q1))⟩
theorem Gu (pa:PlainAttrs T) (slot:Slot T name id) (hty:typeOf (.builtin id)=pure (.type "method_descriptor")) (hm:Hi X id r) (ho:PE X o to) (ha:PA X (e::es) t)
 (hbase:attributeBase o name X.env (eval o X.env)=eval o X.env:=by rfl)
 (hfew:((backTo cpos (starEach (e::es) X.env)).all (λ x=>!x.1)&&(backToKw cpos (keywordEach [] X.env)).all (λ x=>x.1.isSome)
  && decide ((e::es).length+([]:List Keyword).length+(if ([]:List Keyword).isEmpty then 0 else 1)<30))=true:=by rfl)
 (hline:(apos.endLine==cpos.line)=true:=by rfl) (hs:starEach (e::es) X.env=(false,eval e X.env)::starEach es X.env:=by rfl) (hplain:(backTo cpos (starEach es X.env)).any (·.1)=false:=by rfl):
 PE X (.Call (.Attribute o name apos) (e::es) [] cpos) (GN X.K T r to t):=by
 intro pins s σ H Q I h;refine wpAny_Call_method_late hbase hfew hline rfl (cc (ho pins s σ H _ I h) λ v s1 hq0=>?_);obtain ⟨x,H1,I1,r1,ty,q1⟩:=hq0;obtain ⟨h1,h2⟩:=ze I1 r1 ty;refine ⟨T,id,pa,slot,hty,h1,h2,?_⟩;have hA:=ha cpos pins s1 σ H1 _ I1 q1;rw [hs] at hA ⊢;refine Calls.callWith_builtin (by show (false||(backTo cpos (starEach es X.env)).any (·.1))=false;rw [hplain] <;> rfl) (Calls.evalArgs_plain ?_);exact cc hA λ us s2 hy0=>by obtain ⟨vs,H2,I2,r2,q2⟩:=hy0;exact hm pins s2 σ H2 x vs v us Q I2 r1 r2 q2
end
end L2
namespace L2
open PySem PySem.Spec PyProof.Rows
open PySem.W (Frag)
noncomputable def KD (X:Cx) (id:String) (r:V->List V->Hp->VK->Prop):Prop:=
 ∀ (pins:List (Addr×Obj)) (s:Shared) (σ:St) (H:Hp) (x:V) (xs:List V) (v:Value) (us:List Value) (Q:VK),aK X pins σ H s->be x v->bn xs us->r x xs H Q->
  wpAny (model X.prog X.w) X.A (call (.builtin id) (v::us)) (EP X pins σ Q) X.xe s
theorem bn.one {x:V} {us:List Value} (h:bn [x] us):∃ u,us=[u]/\be x u:=by
 cases h with
 | cons r t=>cases t;exact ⟨_,rfl,r⟩
theorem bn.zero:∀ {us:List Value},bn [] us->us=[]
 | _,.nil=>rfl
theorem bn.dropLast {xs:List V} {us:List Value} (h:bn xs us):bn xs.dropLast us.dropLast:=by
 induction h with
 | nil=>exact .nil
 | cons r t ih=>
  cases t with
  | nil=>exact .nil
  | cons q t'=>exact .cons r ih
theorem tM {α:Type} (l:List α):l.eraseIdx (l.length-1)=l.dropLast:=by
 induction l with
 | nil=>rfl
 | cons a r ih=>
  cases r with
  | nil=>rfl
  | cons b r=>
   have e:(a::b::r).length-1=((b::r).length-1)+1:=by
    have h1:(a::b::r).length=r.length+2:=rfl;have h2:(b::r).length=r.length+1:=rfl;omega
   rw [e,List.eraseIdx_cons_succ,ih];all_goals rfl
section
variable {X:Cx} {pins:List (Addr×Obj)} {σ:St} {H:Hp} {s:Shared} {l b:Addr} {xs ys zs:List V}
theorem aK.lset {its its':List Value} {n:Nat} {f:Array Value->Array Value} {t':Nat} (I:aK X pins σ H s) (hH:H l=some (.lst xs))
 (e:s.heap.get? l=some { cls:=.type "list", data:=.seq its.toArray n }) (hf:f its.toArray=its'.toArray) (hv:bn ys its') (hz:ys.length<=sizeLine):
 aK X pins σ (cR H l (.lst ys)) { s with heap:=s.heap.update l (Obj.mapSeq f),toks:=t' }:=by
 have q:=PySem.IsL.update e f;rw [hf] at q;refine I.write (x:=l) (e:=l) (by rw [hH];exact trivial) (.inl rfl) (λ b' u hb hu=>(Heap.get?_update_other s.heap (Obj.mapSeq f) (Ne.symm hb)).trans hu) ⟨_,q⟩ ?_;exact ⟨hz,its',_,hv,q⟩
theorem aK.lnew {its:List Value} {t':Nat} (I:aK X pins σ H s) (hv:bn ys its) (hz:ys.length<=sizeLine):
 aK X pins σ (cR H s.heap.objs.size (.lst ys)) { s with heap:=s.heap.push { cls:=.type "list", data:=.seq its.toArray },toks:=t' }:=
 I.laid (λ _ _ q=>Heap.get?_push_of_some _ q) (Nat.le_refl _) ⟨hz,its,0,hv,Heap.get?_push_size _ rfl⟩
theorem aK.fresh (I:aK X pins σ H s):H s.heap.objs.size=none:=I.hok.fresh (Nat.le_refl _)
theorem aK.lstM (I:aK X pins σ H s) (hH:H l=some (.lst xs)):xs.length<=sizeLine/\∃ (its:List Value) (n:Nat),bn xs its/\xs.length=its.length/\s.heap.get? l=some { cls:=.type "list", data:=.seq its.toArray n }:=by
 obtain ⟨z,its,n,r,e⟩:=I.hok l _ hH;exact ⟨z,its,n,r,r.length,e⟩
end
section
variable {X:Cx}
noncomputable def mS:V->List V->Hp->VK->Prop:=λ x vs H Q=>∃ l xs y,x=.ref l/\vs=[y]/\H l=some (.lst xs)/\xs.length<sizeLine/\Q .non (cR H l (.lst (xs++[y])))
theorem ww:KD X "list.append" mS:=by
 intro pins s σ H x vs v us Q I rx rv h;obtain ⟨l,xs,y,rfl,rfl,hH,hz,q⟩:=h;cases rx;obtain ⟨u,rfl,ru⟩:=rv.one;obtain ⟨z,its,n,r,hl,e⟩:=I.lstM hH;refine call_meets F.slot_list_append ⟨_,e,rfl⟩ F.entry_list_append (F.args_list_append_2 _ _) (PySem.list_append l its.toArray n u (by rw [List.size_toArray];omega)) ⟨e,?_⟩;refine ⟨.non,_,I.lset (its':=its++[u]) hH e (by simp) (r.append (.cons ru .nil)) ?_,rfl,q⟩;rw [List.length_append,List.length_singleton];omega
noncomputable def Dl:V->List V->Hp->VK->Prop:=λ x vs H Q=>∃ l xs y,x=.ref l/\vs=[]/\H l=some (.lst xs)/\xs[xs.length-1]?=some y/\Q y (cR H l (.lst xs.dropLast))
theorem Ex:KD X "list.pop" Dl:=by
 intro pins s σ H x vs v us Q I rx rv h;obtain ⟨l,xs,y,rfl,rfl,hH,hy,q⟩:=h;cases rx;have hus:=rv.zero;subst hus;obtain ⟨z,its,n,r,hl,e⟩:=I.lstM hH;obtain ⟨u,hu,ru⟩:=r.get hy;have hy':its.toArray[its.toArray.size-1]?=some u:=by
  show its.toArray[its.length-1]?=some u;rw [<-Array.getElem?_toList,<-hl];exact hu
 refine call_meets F.slot_list_pop ⟨_,e,rfl⟩ F.entry_list_pop (F.args_list_pop_1 _) (MeetsSeq.list_pop_last l its.toArray n u hy' (by rw [List.size_toArray];omega)) ⟨e,?_⟩;refine ⟨y,_,I.lset (its':=its.dropLast) hH e ?_ r.dropLast ?_,ru,q⟩
 . show its.toArray.eraseIdxIfInBounds (its.toArray.size-1)=its.dropLast.toArray;rw [List.size_toArray,List.eraseIdxIfInBounds_toArray,tM]
 . rw [List.length_dropLast];omega
end
section
variable {prog:Program} {w:World} {A:Around} {E:Value->Shared->Prop} {s:Shared}
end
section
variable {X:Cx}
end
end L2
namespace Att
open PySem PySem.W PySem.Calls PyProof.Rows
theorem mQ {P:Params} {h:Heap}:∀ (ns:List Int) (vs:List Value),WellAll P h vs (ns.map WData.int)->IntsAre vs ns:=by
 intro ns;induction ns with
 | nil=>
  intro vs w;rw [List.map_nil] at w;cases w;exact .nil
 | cons n ns ih=>
  intro vs w;rw [List.map_cons] at w;cases w with
  | cons a b=>
   cases a;exact .cons _ _ (ih _ b)
theorem wv {l:OpenLaw} {n:Nat} (hn:l.most=some n) {P:Params} {h:Heap} {args:List WData} {vals:List Value}
 (hpre:l.row.toRowW.claim.pre args=true) (hwl:WellAll P h vals args):
 ∃ a vs ns,vals=[Value.ref a]/\args=[WData.list (ns.map WData.int)]/\h.get? a=some { cls:=.type "list", data:=.seq vs.toArray }/\IntsAre vs ns/\ns.length<=n:=by
 have hsh:WShape.hasAll [] args [.list .int]=true:=(pre_splitW hpre).1;have hc:l.pre.holds [] { args:=args }=true:=(pre_splitW hpre).2;obtain ⟨d,r,rfl,h1,h2⟩:=hasAllW_cons hsh;obtain rfl:=hasAllW_nil h2;obtain ⟨xs,rfl,h3⟩:=hasW_list h1;obtain ⟨ns,rfl⟩:=items_int h3;have hlen:ns.length<=n:=by
  unfold OpenLaw.pre at hc;have h4:(WTm.not (.lt (.lit (.int (n:Int))) (.len (.arg 0)))).holds [] { args:=[.list (ns.map .int)] }=true:=by
   have h4:=(holds_andW hc).1;rw [hn] at h4;exact h4
  have h5:=condW_of h4 (w_not (w_lt w_lit (w_len_list (w_arg rfl))));rw [List.length_map] at h5;refine Nat.le_of_not_lt λ q=>?_;have q':(n:Int)<((ns.length:Nat):Int):=by omega
  first
   | (rw [decide_eq_true q'] at h5;exact absurd h5 (by decide))
   | (simp at h5;omega)
 cases hwl with
 | cons w1 w2=>
  cases w2;cases w1 with
  | list ho hall=>exact ⟨_,_,ns,rfl,rfl,ho,mQ ns _ hall,hlen⟩
theorem vW (l:OpenLaw) (args:List WData):l.row.toRowW.claim.post args (.bool true) args=true:=
 postW_of (r:=l.row.toRowW) (X:=(true==true))
  (show WShape.has [] (.bool true) .bool=true by first | rfl | decide | simp [WShape.has,WShape.arms,WShape.armsAll])
  (show (WTm.eq .res (.lit (.bool true))).value [] { args:=args,res:=some (.bool true),after:=args }=some (.bool (true==true)) from w_eq_bool (w_res rfl) w_lit) rfl
theorem attach_call {l:OpenLaw} {n:Nat} {q:Program} {loose:List Str} {XP:(Str->Option Value)->Heap->Prop} {YP:World->Heap->Prop} {d:DefRec}
 (hn:l.most=some n) (hdf:d.params.defaults=[])
 (call:∀ (w:World) (s₀ s₁:Shared) (mg mb:Str->Option Value) (fa:Addr) (o:Obj) (pm cd doc:Value) (a:Addr) (vs:List Value) (ns:List Int),
  Ground q loose [] XP w s₀ mg mb s₁.heap->YP w s₁.heap->
  s₁.heap.get? fa=some o->o.data=.func (docDef d.name d.params d.body d.scope pm cd doc)->s₁.heap.CodeRec cd d.name->mg d.name=some (.ref fa)->
  s₁.heap.get? a=some { cls:=.type "list", data:=.seq vs.toArray }->IntsAre vs ns->ns.length<=n->s₁.gens = #[]->
  codeAny (model l.prog w) callerA (.call (.ref fa) ⟨[.ref a],[]⟩) (λ r s'=>r=.ok (.ret (.bool true))/\OldK s₁.heap s'.heap/\s'.os=s₁.os/\AllBare s'.gens) s₁):
 WalkO q loose XP YP l.row.toRowW d [] (λ f vs=>PySem.call f vs):=by
 intro w s₀ s₁ mg mb G Y fa o pm cd doc dV kV ho hd hcd hD hmg hg args vals as hpre hlay hrd hwl hlo;obtain rfl:dV=.none:=Dflts.none hD hdf;obtain rfl:kV=.none:=Dflts.noKw hD;obtain ⟨a,vs,ns,rfl,rfl,hobj,hints,hlen⟩:=wv hn hpre hwl;refine enter_call (codeAny_mono (call w s₀ s₁ mg mb fa o pm cd doc a vs ns G Y ho (fd_plain hd) hcd hmg hobj hints hlen hg) λ r s' hq=>?_);obtain ⟨rfl,h2,h3,h4⟩:=hq;exact ⟨.inl ⟨.bool true,.bool true,[],rfl,λ _=>rfl,.bool true,vW l _,λ _=>⟨List.Pairwise.nil,λ _ hm=>(nomatch hm)⟩⟩,h2,h3,h4⟩
section
variable {prog:Program} {w:World} {A:Around} {E:Value->Shared->Prop} {s:Shared} {K:Frag}
end
end Att
namespace L2
open PySem PySem.Spec PyProof.Rows
open PySem.W (Frag)
theorem wx {vs:List Value} {ns:List Int} (h:IntsAre vs ns):bn (ns.map V.int) vs:=by
 induction h with
 | nil=>exact .nil
 | cons n t _ ih=>exact .cons ⟨t,rfl⟩ ih
noncomputable def Do (H:Hp):Prop:=∀ b,H b=none∨∃ o xs,H b=some (.frz o (.lst xs))
theorem yc {P:Program} {w:World} {K:Frag} {mg mb:Str->Option Value} {CX:qU} {k:Nat} {fa a:Addr} {fd:FuncData} {x:Str} {sp:Sp} {s₁:Shared} {vs:List Value} {ns:List Int}
 (KX:K.In s₁.heap) (hns:s₁.heap.Ns mainGlobals mg) (hb:s₁.heap.Ns builtinsNs mb) (hbb:∀ x:Str,x ≠ "__name__" -> mb x=bootBuiltins x) (hlim:s₁.heap.NoLimit) (hg:s₁.gens = #[])
 (ha:s₁.heap.get? a=some { cls:=.type "list", data:=.seq vs.toArray }) (hi:IntsAre vs ns) (hl:ns.length<=sizeLine) (hr:cq k callerA)
 (F:∀ base:Heap,K.In base->base.Ns mainGlobals mg->et P w K mg base CX k fa fd [x] sp) (hbind:∀ (s:Shared) (u:Value),BindsTo s fd ⟨[u],[]⟩ [(x,u)])
 (hsp:∀ H:Hp,Do H->dM K H a (ns.map V.int)->sp [.ref a] H (λ v _=>v=.bl true) λ _ _ _=>False)
 (hCX:∀ H e s',CX [] H s₁ (λ _ _ _=>False) e s'->False):
 codeAny (model P w) callerA (.call (.ref fa) ⟨[.ref a],[]⟩) (λ r s'=>r=.ok (.ret (.bool true))/\OldK s₁.heap s'.heap/\s'.os=s₁.os/\AllBare s'.gens) s₁:=by
 have rv:=wx hi;have lenV:=hi.length;have core:∀ H:Hp,Do H->dM K H a (ns.map V.int)->iK P w H s₁.heap->(∀ b,H b≠none->b=a)->(H a≠none->K.lookup a=none)->
  codeAny (model P w) callerA (.call (.ref fa) ⟨[.ref a],[]⟩) (λ r s'=>r=.ok (.ret (.bool true))/\OldK s₁.heap s'.heap/\s'.os=s₁.os/\AllBare s'.gens) s₁:=by
  intro H hO hS hok hA hK;have base_of:∀ {b:Addr} {o:Obj},s₁.heap.get? b=some o->H b=none->(qH s₁.heap H).get? b=some o:=λ e n=>ym e n;have noA:∀ {b:Addr} {o:Obj} {es:Array DictEntry} {ep:Nat},s₁.heap.get? b=some o->o.data=.dict es ep->H b=none:=λ {b o es ep} e d=>by
   cases q:H b with
   | none=>rfl
   | some u=>
    have e':b=a:=hA b (by rw [q];simp);subst e';rw [ha] at e;cases e;have d':Data.seq vs.toArray _=Data.dict es ep:=d;cases d'
  have nsK:∀ {b:Addr} {m:Str->Option Value},s₁.heap.Ns b m->(qH s₁.heap H).Ns b m:=λ {b m} hy0=>by obtain ⟨o,es,ep,e,d,r⟩:=hy0;exact ⟨o,es,ep,base_of e (noA e d),d,r⟩
  have hKb:K.In (qH s₁.heap H):=λ b o e=>base_of (KX b o e) (by
   cases q:H b with
   | none=>rfl
   | some u=>
    have e':b=a:=hA b (by rw [q];simp);subst e';rw [hK (by rw [q];simp)] at e;cases e)
  have hM:Mod K mg (qH s₁.heap H):=⟨hKb,nsK hns,⟨mb,nsK hb,hbb⟩,by obtain ⟨mc,h1,h2⟩:=hlim;exact ⟨mc,nsK h1,h2⟩⟩
  have e0:rL P w K mg (qH s₁.heap H) callerA [] s₁ H:=⟨rfl,hM,λ b o e=>AQ e,Nat.le_of_eq (vM _ _),trivial,λ b hb=>absurd (show b∈([]:List Addr) from hb) (by simp),hok,.of_eq hg⟩
  refine codeAny_mono ((F _ hKb (nsK hns)).run callerA [] s₁ H ⟨[.ref a],[]⟩ [.ref a] [.ref a] _ _ hr e0 (hbind s₁ (.ref a)) (.cons rfl .nil) (hsp H hO hS)) λ r s' h=>?_;cases r with
  | error e=>exact (hCX H e s' h).elim
  | ok fl=>
   cases fl with
   | next=>exact False.elim h
   | brk=>exact False.elim h
   | cont=>exact False.elim h
   | ret u=>
    obtain ⟨v,H',os,bare,un,hok',r',q⟩:=h;have q':v=.bl true:=q;subst q';obtain rfl:u=Value.bool true:=r';refine ⟨rfl,OldK.of_keep λ b o e=>?_,os,bare⟩;cases q:H b with
    | none=>exact un.keep b o e q (by intro z;exact absurd (show b∈([]:List Addr) from z) (by simp)) (by simp)
    | some u=>
     rcases hO b with z | ⟨ob,xs,z⟩
     . rw [q] at z;cases z
     . have z2:=un.frzs b ob _ z;obtain ⟨e1,_⟩:=hok b _ z;obtain ⟨e2,_⟩:=hok' b _ z2;rw [e] at e1;cases e1;exact e2
 cases hk:K.lookup a with
 | some o=>
  have e:=KX a o hk;rw [ha] at e;cases e;refine core (λ _=>none) (λ _=>.inl rfl) (.inr ⟨_,vs.toArray,_,hk,rfl,rfl,rfl,by rw [List.size_toArray,lenV];exact hl,by simpa using rv⟩) (λ b u z=>by have z':(none:Option HO)=some u:=z;cases z') (λ b z=>absurd rfl z) λ z=>absurd rfl z
 | none=>
  refine core (λ b=>if b=a then some (.frz { cls:=.type "list", data:=.seq vs.toArray } (.lst (ns.map V.int))) else none) (λ b=>?_) (.inl (.inr ⟨{ cls:=.type "list", data:=.seq vs.toArray },if_pos rfl⟩)) (λ b u z=>?_) (λ b z=>?_) λ _=>hk
  . by_cases hb:b=a
    . exact .inr ⟨_,_,if_pos hb⟩
    . exact .inl (if_neg hb)
  . by_cases hb:b=a
    . have z':=(if_pos hb).symm.trans z;cases z';subst hb;exact ⟨ha,by rw [List.length_map];exact hl,vs,_,rv,ha⟩
    . have z':=(if_neg hb).symm.trans z;cases z'
  . by_cases hb:b=a
    . exact hb
    . exact absurd (if_neg hb) z
end L2
namespace L2
open PySem PySem.Spec PyProof.Rows
open PySem.W (Frag)
theorem walk_of {l:PySem.W.OpenLaw} {n k:Nat} {q:Program} {loose:List Str} {XP:(Str->Option Value)->Heap->Prop} {YP:World->Heap->Prop} {d:DefRec} {K:Params->Frag} {CX:World->qU} {sp:World->Sp} {x:Str}
 (hn:l.most=some n) (hn2:n<=sizeLine) (hdf:d.params.defaults=[]) (hr:cq k callerA)
 (hY:∀ (w:World) (h:Heap),YP w h->(K w.params).In h)
 (F:∀ (w:World) (mg:Str->Option Value) (fa:Addr) (h:Heap),(K w.params).In h->h.Ns mainGlobals mg->mg d.name=some (.ref fa)->
  ∃ fd:FuncData,(∀ (s:Shared) (u:Value),BindsTo s fd ⟨[u],[]⟩ [(x,u)])/\
   ∀ base:Heap,(K w.params).In base->base.Ns mainGlobals mg->et l.prog w (K w.params) mg base (CX w) k fa fd [x] (sp w))
 (hsp:∀ (w:World) (H:Hp) (a:Addr) (ns:List Int),ns.length<=n->Do H->dM (K w.params) H a (ns.map V.int)->sp w [.ref a] H (λ v _=>v=.bl true) λ _ _ _=>False)
 (hCX:∀ (w:World) (H:Hp) (s:Shared) (e:Value) (s':Shared),CX w [] H s (λ _ _ _=>False) e s'->False):
 PySem.W.WalkO q loose XP YP l.row.toRowW d [] (λ f vs=>PySem.call f vs):=by
 refine Att.attach_call hn hdf λ w s₀ s₁ mg mb fa o pm cd doc a vs ns G Y ho hd hcd hmg hobj hints hlen hg=>?_;have KX:=hY w _ Y;obtain ⟨fd,hb,hF⟩:=F w mg fa _ KX G.T.g hmg;exact yc KX G.T.g G.T.b G.T.builtins G.T.nolimit hg hobj hints (Nat.le_trans hlen hn2) hr hF hb (λ H hO hS=>hsp w H a ns hlen hO hS) λ H e s'=>hCX w H s₁ e s'
end L2
namespace L2
open PySem PySem.Spec PyProof.Rows
open PySem.W (Frag)
noncomputable def bu (s:Stmt) (j:Nat):Stmt:=match s with
 | .ClassDef _ _ _ body _ _ _ _ _ _ _=>body.getD j (.Pass ⟨0,0,0,0⟩)
 | _=>.Pass ⟨0,0,0,0⟩
noncomputable def aT (s:Stmt):Arguments:=match s with
 | .FunctionDef _ a _ _ _ _ _ _ _ _=>a
 | _=>{ posonlyargs:=[],args:=[],vararg:=none,kwonlyargs:=[],kw_defaults:=[],kwarg:=none,defaults:=[] }
noncomputable def aN (s:Stmt):List Stmt:=match s with
 | .FunctionDef _ _ b _ _ _ _ _ _ _=>b
 | _=>[]
noncomputable def aw (s:Stmt):Scope:=match s with
 | .FunctionDef _ _ _ _ _ _ sc _ _ _=>sc
 | _=>{ kind:=.function,names:=[],isGenerator:=false,isCoroutine:=false }
noncomputable abbrev uz:qU:=λ _ _ _ _ _ _=>False
noncomputable abbrev E0:XK:=λ _ _ _=>False
theorem Hh {X:Cx}:gF uz X E0:=λ _ _ _ _ _ _ _ h=>h.elim
structure IF (K:Frag) (x qual:Str) (st:Stmt) (f:Addr) (fd:FuncData):Prop where
 ex:∃ (oc:Value) (od:Option Addr) (kV doc pm:Value) (an:Option Addr) (cdv ct:Value) (osl:Array (Option Value)),
  fd=PySem.W.fnOf x qual (aT st) (aN st) (aw st) .none kV doc pm an cdv ct/\K.lookup f=some ⟨oc,od,.func fd,osl⟩/\PySem.W.codeIn K cdv qual=true
 kp:PySem.W.keepIn K (.ref f)=true
section
variable {P:Program} {w:World} {K:Frag} {mg:Str->Option Value} {base:Heap}
theorem IF.binds {x qual:Str} {st:Stmt} {f:Addr} {fd:FuncData} {ps:List Str} (F:IF K x qual st f fd)
 (h:∀ (kV doc pm:Value) (an:Option Addr) (cdv ct:Value) (us:List Value),us.length=ps.length->bindArgs (PySem.W.fnOf x qual (aT st) (aN st) (aw st) .none kV doc pm an cdv ct) ⟨us,[]⟩=pure (ps.zip us)):aP K fd ps []:=by
 obtain ⟨oc,od,kV,doc,pm,an,cdv,ct,osl,rfl,lk,hcd⟩:=F.ex;exact .all (h kV doc pm an cdv ct)
theorem bH {x qual:Str} {st:Stmt} {f:Addr} {oc:Value} {od an:Option Addr} {osl:Array (Option Value)} {kV doc pm cdv ct:Value} (l:K.lookup f=some ⟨oc,od,.func (PySem.W.fnOf x qual (aT st) (aN st) (aw st) .none kV doc pm an cdv ct),osl⟩)
 (c:PySem.W.codeIn K cdv qual=true) (k:PySem.W.keepIn K (.ref f)=true):IF K x qual st f (PySem.W.fnOf x qual (aT st) (aN st) (aw st) .none kV doc pm an cdv ct):=⟨⟨oc,od,kV,doc,pm,an,cdv,ct,osl,rfl,l,c⟩,k⟩
end
theorem vP {n:Nat} (h:n<=1000):n<sizeLine:=Nat.lt_of_le_of_lt h (by decide)
section
variable {X:Cx}
end
noncomputable def bo (H H':Hp):Prop:=∀ b o,H b=some o->H' b=some o
theorem bo.refl (H:Hp):bo H H:=λ _ _ h=>h
theorem bo.trans {H H1 H2:Hp} (a:bo H H1) (b:bo H1 H2):bo H H2:=λ c o h=>b c o (a c o h)
theorem bo.seq {K:Frag} {H H':Hp} {a:Addr} {xs:List V} (e:bo H H') (h:dM K H a xs):dM K H' a xs:=by
 rcases h with (h | ⟨o,h⟩) | h
 . exact .inl (.inl (e _ _ h))
 . exact .inl (.inr ⟨o,e _ _ h⟩)
 . exact .inr h
noncomputable def oO (cells:List (Str×Addr)):List (Str×NameKind)->List (Str×Addr)->List (Str×Addr)
 | [],cs=>cs
 | (n,k)::r,cs=>oO cells r (if k==.free then (n,(cells.lookup n).getD 0)::cs else cs)
noncomputable def wp (scope:Scope) (env:Env):List (Str×Addr):=oO env.cells scope.names []
theorem vv {env:Env}:∀ (names:List (Str×NameKind)) (cs:List (Str×Addr)),(∀ y∈names,y.2=.free->∃ c,env.cells.lookup y.1=some c)->
 (forIn names cs λ (x:Str×NameKind) (r:List (Str×Addr))=>(match x with
  | (name,kind)=>if (kind==NameKind.free)=true then do let a <-cellOf env name;pure (ForInStep.yield ((name,a)::r)) else pure (ForInStep.yield r):Sem (ForInStep (List (Str×Addr)))))=(pure (oO env.cells names cs):Sem _)
 | [],cs,_=>rfl
 | (n,k)::r,cs,h=>by
  have hr:=λ cs'=>vv (env:=env) r cs' λ y hy=>h y (List.mem_cons_of_mem _ hy);rw [List.forIn_cons];by_cases hk:(k==NameKind.free)=true
  . obtain ⟨c,hc⟩:=h (n,k) List.mem_cons_self (by simpa using hk);have e1:cellOf env n=pure c:=by unfold cellOf;rw [hc]
    simp only [hk,if_true,e1,pure_bind];rw [hr];unfold oO;rw [if_pos hk,hc]
    conv=>rhs;unfold oO
    rfl
  . simp only [hk,if_false,pure_bind,Bool.false_eq_true];rw [hr]
    conv=>rhs;unfold oO
    rw [if_neg hk]
theorem nK {scope:Scope} {env:Env} (h:∀ y∈scope.names,y.2=.free->∃ c,env.cells.lookup y.1=some c):closureFor scope env=pure (wp scope env):=by
 unfold closureFor wp;rw [<-vv scope.names [] h];simp
theorem lU {cells:List (Str×Addr)} {x:Str} {c:Addr}:∀ (names:List (Str×NameKind)) (cs:List (Str×Addr)),(∀ y∈names,y.2=.free->∃ d,cells.lookup y.1=some d)->(∀ d,cs.lookup x=some d->cells.lookup x=some d)->
 (oO cells names cs).lookup x=some c->cells.lookup x=some c
 | [],cs,_,hc,h=>hc c h
 | (n,k)::r,cs,hn,hc,h=>by
  unfold oO at h;refine lU r _ (λ y hy=>hn y (List.mem_cons_of_mem _ hy)) ?_ h;intro d hd;by_cases hk:(k==NameKind.free)=true
  . rw [if_pos hk] at hd;obtain ⟨e,he⟩:=hn (n,k) List.mem_cons_self (by simpa using hk);simp only at he;rw [List.lookup_cons] at hd;cases hx:x==n with
    | true=>
     have:x=n:=by simpa using hx
     subst this;rw [hx] at hd;simp only [Option.some.injEq] at hd;rw [he] at hd ⊢;simp at hd;rw [hd]
    | false=>
     rw [hx] at hd;exact hc d hd
  . rw [if_neg hk] at hd;exact hc d hd
theorem oj {cells:List (Str×Addr)} {x:Str}:∀ (names:List (Str×NameKind)) (cs:List (Str×Addr)),((x,NameKind.free)∈names∨∃ d,cs.lookup x=some d)->∃ d,(oO cells names cs).lookup x=some d
 | [],cs,h=>by
  rcases h with h | h
  . cases h
  . exact h
 | (n,k)::r,cs,h=>by
  unfold oO;refine oj r _ ?_;rcases h with h | ⟨d,h⟩
  . rcases List.mem_cons.mp h with e | h
    . cases e;exact .inr ⟨_,by rw [if_pos (by rfl),List.lookup_cons,beq_self_eq_true]⟩
    . exact .inl h
  . refine .inr ?_;split
    . rw [List.lookup_cons];cases hx:x==n with
      | true=>exact ⟨_,rfl⟩
      | false=>exact ⟨d,h⟩
    . exact ⟨d,h⟩
theorem gW {scope:Scope} {env:Env} {x:Str} {k:NameKind} (h:(relabel scope env).names.lookup x=some k) (hk:k=.cell∨k=.free) (hc:∀ y∈scope.names,y.2≠.cell):(x,NameKind.free)∈scope.names:=by
 have hm:=PySem.mem_of_lookup h;unfold relabel at hm;obtain ⟨⟨n,k'⟩,hy,e⟩:=List.mem_map.mp hm;by_cases q:(k'==NameKind.free&&env.scope.kind==.function&&env.kindOf n==some .cell)=true
 . simp only [q,if_true] at e;cases e;have:k'=.free:=by
    simp only [Bool.and_eq_true,beq_iff_eq] at q;exact q.1.1
   subst this;exact hy
 . simp only [q,if_false,Bool.false_eq_true] at e;cases e;rcases hk with rfl | rfl
   . exact absurd rfl (hc _ hy)
   . exact hy
noncomputable def lift (ix:List (Option Nat)) (σ:St):St:=ix.map λ o=>match o with
 | none=>none
 | some i=>match σ[i]? with
  | some v=>v
  | none=>none
structure bG (X:Cx) (scope:Scope) (N:List Str) (ix:List (Option Nat)):Prop where
 kind:scope.kind=.function
 nocell:∀ y∈scope.names,y.2≠.cell
 locs:∀ y∈scope.names,y.2=.local->scope.names.lookup y.1=some .local
 free:∀ y∈scope.names,y.2=.free->X.env.kindOf y.1=some .cell∨X.env.kindOf y.1=some .free
 len:ix.length=N.length
 nd:N.Nodup
 from':∀ j i:Nat,ix[j]?=some (some i)->∃ x,N[j]?=some x/\X.N[i]?=some x/\(X.env.kindOf x=some .cell∨X.env.kindOf x=some .free)/\((relabel scope X.env).names.lookup x=some .cell∨(relabel scope X.env).names.lookup x=some .free)
noncomputable def bJ (X:Cx) (scope:Scope) (N:List Str) (s₀:Shared) (H₀:Hp) (C:Addr) (ex:List Addr):Cx where
 prog:=X.prog
 w:=X.w
 K:=X.K
 mg:=X.mg
 base:=X.base
 A:=X.A
 N:=N
 s₀:=s₀
 H₀:=H₀
 env:=compEnvC scope (wp scope X.env) C X.env
 outer:=X.stack
 stack:=X.stack
 ex:=ex
 fn:=λ _=>false
 calm:=X.calm
 pn:=[]
 xe:=λ _ _=>False
section
variable {X:Cx} {pins:List (Addr×Obj)} {σ:St} {H:Hp} {s:Shared} {scope:Scope} {N:List Str} {ix:List (Option Nat)}
theorem bG.cells (S:bG X scope N ix) (I:aK X pins σ H s):∀ y∈scope.names,y.2=.free->∃ c,X.env.cells.lookup y.1=some c:=λ y hy hk=>I.ok.has y.1 (S.free y hy hk)
theorem bG.sub (S:bG X scope N ix) (I:aK X pins σ H s) {x:Str} {c:Addr} (h:(wp scope X.env).lookup x=some c):X.env.cells.lookup x=some c:=
 lU scope.names [] (S.cells I) (λ d h=>by simp at h) h
theorem bG.start (S:bG X scope N ix) (I:aK X pins σ H s) {fp:List Addr} {C D:Addr} {h':Heap} {tk:Nat} (hf:∀ b∈fp,kB X pins H b) (hfo:∀ b∈fp,∃ o,s.heap.get? b=some o) (hD:D=s.heap.objs.size) (hC:s.heap.objs.size<C)
 (k:∀ b o,s.heap.get? b=some o->h'.get? b=some o) (hn:h'.Ns C λ _=>none):aK (bJ X scope N s H C (D::fp)) [] (lift ix σ) H { s with heap:=h',toks:=tk }:=by
 have ltC:∀ x c,X.env.cells.lookup x=some c->c<s.heap.objs.size:=λ x c e=>let ⟨v,q⟩:=I.cell x c e;q.lt;refine ⟨⟨I.ok.mod,S.kind,I.ok.glob,I.ok.blt,Nat.le_of_lt hC,λ x y c h1 h2=>I.ok.inj x y c (S.sub I h1) (S.sub I h2),λ x hx=>?_,λ x c z=>?_,I.ok.hd,I.ok.frames,.inl rfl,λ b hb=>?_,I.bs,Nat.le_trans I.ok.bsz I.sz,λ b o e hb=>?_,λ b hb hb'=>?_,I.stack,I.stkFree⟩,
  rfl,I.bare,Un.kept k,⟨_,hn,λ j x v e1 e2 e3=>?_⟩,λ x c e=>?_,I.hok.fresh (Nat.le_of_lt hC),λ x c e=>I.freeC x c (S.sub I e),λ p hp=>absurd (show p∈([]:List (Addr×Obj)) from hp) (by simp),I.hok.kept k,?_⟩
 . have hx:(relabel scope X.env).names.lookup x=some .cell∨(relabel scope X.env).names.lookup x=some .free:=hx;have hm:(x,NameKind.free)∈scope.names:=by
    rcases hx with h | h
    . exact gW h (.inl rfl) S.nocell
    . exact gW h (.inr rfl) S.nocell
   exact oj _ _ (.inl hm)
 . cases z
 . rcases List.mem_cons.mp hb with e | hb
   . subst e;subst hD;exact ⟨Nat.ne_of_lt hC,λ x c e z=>absurd (ltC x c (S.sub I e)) (by rw [z];exact Nat.lt_irrefl _)⟩
   . obtain ⟨o,e⟩:=hfo b hb;exact ⟨Nat.ne_of_lt (Nat.lt_trans (Heap.lt_size e) hC),λ x c e=>(hf b hb).2.2.2.2.1 x c (S.sub I e)⟩
 . have lb:=Nat.lt_of_lt_of_le (Heap.lt_size e) I.ok.bsz;rcases List.mem_cons.mp hb with z | hb
   . subst z;subst hD;exact absurd (Nat.lt_of_lt_of_le lb I.sz) (Nat.lt_irrefl _)
   . rcases (hf b hb).2.2.2.1 with z | z
     . exact I.ok.noex b o e z
     . exact absurd (Nat.lt_of_lt_of_le lb z) (Nat.lt_irrefl _)
 . have hs:=I.stkSub b hb';rcases List.mem_cons.mp hb with z | hb
   . subst z;subst hD;rcases List.mem_cons.mp hs with z | z
     . exact absurd I.lt (by rw [<-z];exact Nat.lt_irrefl _)
     . exact I.nofs (Nat.le_refl _) z
   . rcases List.mem_cons.mp hs with z | z
     . exact (hf b hb).2.1 z
     . exact (hf b hb).2.2.1 z
 . unfold lift at e2;rw [List.getElem?_map] at e2;cases q:ix[j]? with
   | none=>rw [q] at e2;cases e2
   | some o=>
    rw [q] at e2;cases o with
    | none=>cases e2
    | some i=>
     obtain ⟨y,f1,f2,f3,f4⟩:=S.from' j i q;have e1':N[j]?=some x:=e1;rw [f1] at e1';cases e1';simp only [Option.map_some,Option.some.injEq] at e2;cases q2:σ[i]? with
     | none=>rw [q2] at e2;cases e2
     | some w=>
      rw [q2] at e2;simp only at e2;subst e2;obtain ⟨m,hm,hl⟩:=I.loc;have vis:Jh X.env.scope x:=by
       rcases f3 with z | z
       . exact .inr (.inl z)
       . exact .inr (.inr z)
      obtain ⟨u,r,l⟩:=hl i x v f2 q2 vis;refine ⟨u,r,.inr ⟨f4,?_⟩⟩;rcases l with ⟨l1,_⟩ | ⟨_,c,hc,hcell⟩
      . rw [l1] at f3;rcases f3 with z | z <;> cases z
      . have hmf:(x,NameKind.free)∈scope.names:=by
         rcases f4 with h | h
         . exact gW h (.inl rfl) S.nocell
         . exact gW h (.inr rfl) S.nocell
        obtain ⟨d,hd⟩:=oj (cells:=X.env.cells) scope.names [] (.inl hmf);have hd':=S.sub I hd;rw [hc] at hd';cases hd';refine ⟨c,hd,?_⟩;obtain ⟨o,ho,hod⟩:=hcell;exact ⟨o,k _ _ ho,hod⟩
 . obtain ⟨v,o,ho,hod⟩:=I.cell x c (S.sub I e);exact ⟨v,o,k _ _ ho,hod⟩
 . show (lift ix σ).length=N.length;unfold lift;rw [List.length_map,S.len]
end
theorem jq {prog:Program} {w:World} {A:Around} {R:Result->Shared->Prop} {s:Shared} {elt target iter:Expr} {ifs:List Expr} {scope:Scope} {pos:Pos} {it acc:Value} {env:Env} (I:Nat->Shared->Prop)
 (turn:∀ n s,I n s->wpAny (model prog w) A (pyNext it) (λ r s₁=>match r with
  | none=>R (.ok .next) s₁
  | some v=>wpAny (model prog w) A (letOwnedTupleGo target it v) (λ _ s₁'=>wpAny (model prog w) A (assign target env v) (λ _ s₂=>
   wpAny (model prog w) A (forIn ifs true λ c r=>if r=true then do let ok <-isTrue c env (eval c env);pure (ForInStep.yield ok) else pure (ForInStep.yield r)) (λ ok s₃=>
    if ok=true then wpAny (model prog w) A (eval elt env) (λ x s₄=>
     wpAny (model prog w) A (call (.builtin "list.append") [acc,x]) (λ _ s₅=>∃ m,m<n/\I m s₅) (λ _ _=>False) s₄) (λ _ _=>False) s₃
    else ∃ m,m<n/\I m s₃) (λ _ _=>False) s₂) (λ _ _=>False) s₁') (λ _ _=>False) s₁) (λ _ _=>False) s)
 (n:Nat) (h:I n s):
 codeAny (model prog w) A (.compLoop (.ListComp elt [⟨target,iter,ifs,0⟩] scope pos) 0 it acc env) R s:=by
 refine codeAny_loop rfl I (λ n s hI=>?_) n h;show wpAny _ A ((compTurn (.ListComp elt [⟨target,iter,ifs,0⟩] scope pos) 0 it acc env).onRaise (λ x=>do noteFrame x env;theTreesLotGoes x)) _ _ s;refine wpAny_noted ?_;rw [compTurn_list];refine wpAny_bind (wpAny_standAt (wpAny_bind (wpAny_mono (turn n s hI) (λ r s₁ h₁=>?_) λ _ _ h'=>h'.elim)));cases r with
 | none=>exact wpAny_pure h₁
 | some v=>
  refine wpAny_bind (wpAny_mono h₁ (λ _ s₁' h₁'=>?_) λ _ _ h'=>h'.elim);refine wpAny_bind (wpAny_mono h₁' (λ _ s₂ h₂=>wpAny_bind (wpAny_mono h₂ (λ ok s₃ h₃=>?_) λ _ _ h'=>h'.elim)) λ _ _ h'=>h'.elim);cases ok with
  | false=>exact wpAny_pure ⟨rfl,h₃⟩
  | true=>
   exact wpAny_bind (wpAny_bind (wpAny_mono h₃ (λ x s₄ h₄=>wpAny_bind (wpAny_mono h₄ (λ _ s₅ h₅=>wpAny_pure (wpAny_pure ⟨rfl,h₅⟩)) λ _ _ h'=>h'.elim)) λ _ _ h'=>h'.elim))
noncomputable def uk (X:Cx) (ifs:List Expr) (t:TT):Prop:=
 ∀ (pins:List (Addr×Obj)) (s:Shared) (σ:St) (H:Hp) (Q:Bool->Hp->Prop),aK X pins σ H s->t σ H Q->
  wpAny (model X.prog X.w) X.A (forIn ifs true λ c r=>if r=true then do let ok <-isTrue c X.env (eval c X.env);pure (ForInStep.yield ok) else pure (ForInStep.yield r)) (TP X pins σ Q) X.xe s
noncomputable def Gj:TT:=λ _ H Q=>Q true H
theorem He {X:Cx}:uk X [] Gj:=λ _ _ _ H _ I h=>wpAny_tests_nil ⟨H,I,h⟩
theorem GM {X:Cx} {c:Expr} {t:TT} (h:PT X c t):uk X [c] t:=λ pins s σ H Q I q=>wpAny_tests_one (h pins s σ H Q I q)
noncomputable def BI (σ σ':St):Prop:=σ.length=σ'.length/\∀ (i:Nat) (v:V),σ[i]?=some (some v)->σ'[i]?=some (some v)
theorem BI.refl (σ:St):BI σ σ:=⟨rfl,λ _ _ h=>h⟩
theorem BI.set {σ σ':St} {j:Nat} {v:V} (e:BI σ σ') (h:σ[j]?=some none):BI σ (σ'.set j (some v)):=by
 refine ⟨by rw [List.length_set];exact e.1,λ i u q=>?_⟩;have hne:j≠i:=λ z=>by subst z;rw [h] at q;cases q
 rw [List.getElem?_set_ne hne];exact e.2 i u q
theorem vS {ix:List (Option Nat)} {σ:St} {j:Nat} (h:ix[j]?=some none):(lift ix σ)[j]?=some none:=by
 unfold lift;rw [List.getElem?_map,h];rfl
noncomputable def nG (ix:List (Option Nat)) (g:TG):Prop:=∀ (v:V) (σ:St) (H:Hp) (Q:St->Hp->Prop),g v (lift ix σ) H Q->g v (lift ix σ) H λ σ2 H2=>Q σ2 H2/\BI (lift ix σ) σ2
theorem Dr {ix:List (Option Nat)} {j:Nat} (h:ix[j]?=some none):nG ix (me j):=λ v σ H Q q=>⟨q,(BI.refl _).set (vS h)⟩
noncomputable def lV (ix:List (Option Nat)) (wi:TI) (g:TG) (tc:TT) (te:TE):TE:=λ σ H Q=>wi σ H λ J H1=>∃ W:Nat->Nat->List V->Hp->Prop,(∃ m,W 0 m [] H1)/\∀ i m ys H,W i m ys H->
 (J.stop i H/\ys.length<=sizeLine/\∀ p,H p=none->Q (.ref p) (cR H p (.lst ys)))∨
 (J.go i H/\ys.length<sizeLine/\∃ N:List V->Hp->Prop,(∀ ys' H',N ys' H'->∃ m',m'<m/\W (i+1) m' ys' H')/\∀ x H',J.yld i H x H'->g x (lift ix σ) H' λ σ2 H2=>tc σ2 H2 λ b H3=>if b=true then te σ2 H3 λ v H4=>N (ys++[v]) H4 else N ys H3)
theorem xp {X:Cx} {pins pins':List (Addr×Obj)} {σ σ':St} {H2 H':Hp} {s2 s4:Shared} {scope:Scope} {N:List Str} {C D:Addr} {fp:List Addr} {h':Heap} {ys:List V} {its:List Value} {n:Nat}
 (I2:aK X pins σ H2 s2) (I':aK (bJ X scope N s2 H2 C (D::fp)) pins' σ' H' s4) (f2:∀ b∈fp,kB X pins H2 b) (hD:D=s2.heap.objs.size) (hC:s2.heap.objs.size<C) (hDC:D≠C)
 (hs:Heap.SameBut C s4.heap h') (eD:s4.heap.get? D=some { cls:=.type "list", data:=.seq its.toArray n }) (fD:H' D=none) (rv:bn ys its) (hz:ys.length<=sizeLine):
 aK X pins σ (cR H' D (.lst ys)) { s4 with heap:=h' }:=by
 have lt:∀ b o,s2.heap.get? b=some o->b≠D/\b≠C:=λ b o e=>
  ⟨by rw [hD];exact Nat.ne_of_lt (Heap.lt_size e),Nat.ne_of_lt (Nat.lt_trans (Heap.lt_size e) hC)⟩
 have nex:∀ b o,s2.heap.get? b=some o->b∉fp->b∉D::fp:=λ b o e hb z=>by
  rcases List.mem_cons.mp z with z | z
  . exact (lt b o e).1 z
  . exact hb z
 have nD:∀ b u,H' b=some u->b≠D:=λ b u e=>b7 e fD;have nC:∀ b u,H' b=some u->b≠C:=λ b u e=>b7 e I'.free;have u:=I'.base;refine I2.call' (ch:=fp) (show s4.os=s2.os from I'.os) ⟨λ b o e n hb hx=>?_,λ b o e n hb hx=>?_,λ b o e n hx=>?_,λ b o e hx=>?_,λ b xs e=>?_,λ b o xs e=>?_,λ b ps e=>?_⟩ (λ b o e=>?_) I'.bare λ b hb=>⟨(f2 b hb).2.2.2.1,(f2 b hb).2.1,(f2 b hb).2.2.2.2.1,(f2 b hb).2.2.2.2.2⟩
 . exact (hs.2 b (lt b o e).2).trans (u.keep b o e n hb (nex b o e hx))
 . obtain ⟨sl,q⟩:=u.slot b o e n hb (nex b o e hx);exact ⟨sl,(hs.2 b (lt b o e).2).trans q⟩
 . rw [aL (lt b o e).1];exact u.free b o e n (nex b o e hx)
 . obtain ⟨o',q⟩:=u.there b o e (nex b o e hx);exact ⟨o',(hs.2 b (lt b o e).2).trans q⟩
 . have q:=u.tups b xs e;rw [aL (nD b _ q)];exact q
 . have q:=u.frzs b o xs e;rw [aL (nD b _ q)];exact q
 . obtain ⟨m,q⟩:=u.tbls b ps e;exact ⟨m,by rw [aL (nD b _ q)];exact q⟩
 . by_cases hb:b=D
   . subst hb;rw [aJ] at e;cases e;exact ⟨hz,its,n,rv,(hs.2 b hDC).trans eD⟩
   . rw [aL hb] at e;refine (I'.hok b o e).stay (λ c v hc q=>(hs.2 c ?_).trans q) (λ c q=>by rw [aL (nD c _ q)];exact q) λ c xs q=>by rw [aL (nD c _ q)];exact q
     rcases hc with z | z
     . rw [z];exact nC b o e
     . exact nC c _ z
section
variable {X:Cx} {elt tg iter:Expr} {ifs:List Expr} {scope:Scope} {pos:Pos} {wi:TI} {g:TG} {tc:TT} {te:TE} {N:List Str} {ix:List (Option Nat)}
theorem pz {pins:List (Addr×Obj)} {σ:St} {Q:VK} {s2:Shared} {itv:Value} {Rr:Value->Addr->Result->Shared->Prop} (S:bG X scope N ix) (hc:X.calm=true) (hG:nG ix g)
 (hb:∀ (s₀:Shared) (H₀:Hp) (C:Addr) (ex:List Addr),PG (bJ X scope N s₀ H₀ C ex) tg g/\uk (bJ X scope N s₀ H₀ C ex) ifs tc/\PE (bJ X scope N s₀ H₀ C ex) elt te)
 (h2:Kh X pins σ tg (λ J H1=>∃ W:Nat->Nat->List V->Hp->Prop,(∃ m,W 0 m [] H1)/\∀ i m ys H,W i m ys H->
  (J.stop i H/\ys.length<=sizeLine/\∀ p,H p=none->Q (.ref p) (cR H p (.lst ys)))∨
  (J.go i H/\ys.length<sizeLine/\∃ N:List V->Hp->Prop,(∀ ys' H',N ys' H'->∃ m',m'<m/\W (i+1) m' ys' H')/\∀ x H',J.yld i H x H'->g x (lift ix σ) H' λ σ2 H2=>tc σ2 H2 λ b H3=>if b=true then te σ2 H3 λ v H4=>N (ys++[v]) H4 else N ys H3)) itv s2)
 (hR:∀ (s4:Shared) (H':Hp) (D C:Addr) (m:Str->Option Value) (ys:List V),s4.heap.Ns C m->kB X pins H' C->(∀ h',Heap.SameBut C s4.heap h'->aK X pins σ (cR H' D (.lst ys)) { s4 with heap:=h' })->aK X pins σ (cR H' D (.lst ys)) s4->D≠C->Q (.ref D) (cR H' D (.lst ys))->Rr (.ref D) C (.ok .next) s4):
 wpAny (model X.prog X.w) X.A (newList []) (λ acc s₃=>wpAny (model X.prog X.w) X.A (newFunctionEnv scope X.env.globals (wp scope X.env) [] X.env.qual none .none (some X.env)) (λ cenv s₄=>
  codeAny (model X.prog X.w) X.A (.compStart (.ListComp elt [⟨tg,iter,ifs,0⟩] scope pos) 0 itv acc { cenv with scope:=relabel scope X.env }) (Rr acc cenv.locals) s₄) X.xe s₃) X.xe s2:=by
 obtain ⟨it,fp,tn,J,H2,e,I2,T,st2,f2,W,⟨m0,w0⟩,turn⟩:=h2;subst e;have fo:∀ b∈fp,∃ o,s2.heap.get? b=some o:=λ b hb=>let ⟨o,e,_⟩:=T.obj _ _ st2 b hb;⟨o,e⟩;refine wpAny_newObj_type (wpAny_newFunctionEnv S.nocell (by intro y hy;simp at hy) (λ h₁ hns₁ hsb₁=>?_) S.kind);dsimp only at hns₁ hsb₁ ⊢;generalize hH2:s2.heap.push { cls:=.type "list", dict:=none,data:=.seq ([]:List Value).toArray }=HH at hns₁ hsb₁ ⊢;have hC:HH.objs.size=s2.heap.objs.size+1:=by rw [<-hH2,Heap.size_push]
 generalize hCC:HH.objs.size=C at hns₁ hsb₁ hC ⊢;generalize hDD:s2.heap.objs.size=D at hC ⊢;have hlt:s2.heap.objs.size<C:=by rw [hDD,hC];exact Nat.lt_succ_self _
 have hDC:D≠C:=by rw [hC];exact Nat.ne_of_lt (Nat.lt_succ_self _)
 have old:∀ b o,s2.heap.get? b=some o->h₁.get? b=some o:=λ b o e=>
  hsb₁.extBut b o (Nat.ne_of_lt (Nat.lt_trans (Heap.lt_size e) hlt)) (Heap.get?_push_of_some _ (hH2▸Heap.get?_push_of_some _ e))
 have hacc:h₁.PlainList D #[]:=⟨_,hsb₁.extBut _ _ hDC (Heap.get?_push_of_some _ (hH2▸hDD▸Heap.get?_push_size _ rfl))⟩
 have hns₂:h₁.Ns C λ _=>none:=hns₁;have I4:=S.start (tk:=s2.toks+([]:List (Str×Value)).length) I2 f2 fo hDD.symm hlt old hns₂;obtain ⟨hg,hif,hel⟩:=hb s2 H2 C (D::fp);have stat:∀ {H':Hp},(∀ b∈D::fp,H' b=none)->∀ b∈D::fp,kB (bJ X scope N s2 H2 C (D::fp)) [] H' b:=λ hn b hb=>
  ⟨hn b hb,(I4.ok.exf b hb).1,I4.ok.exfs b hb,.inl hb,(I4.ok.exf b hb).2,λ p hp=>absurd (show p∈([]:List (Addr×Obj)) from hp) (by simp)⟩
 have sub:∀ b∈fp,b∈D::fp:=λ b hb=>List.mem_cons_of_mem _ hb;have nDf:∀ b∈fp,b≠D:=λ b hb z=>by
  obtain ⟨o,e⟩:=fo b hb;exact absurd (Heap.lt_size e) (by rw [z,hDD];exact Nat.lt_irrefl _)
 have free0:∀ b∈D::fp,H2 b=none:=λ b hb=>by
  rcases List.mem_cons.mp hb with z | hb
  . rw [z];exact I2.hok.fresh (Nat.le_of_eq hDD)
  . exact (f2 b hb).1
 have loop:∀ s₃:Shared,s₃={ s2 with heap:=h₁,toks:=s2.toks+([]:List (Str×Value)).length }->
  codeAny (model X.prog X.w) X.A (.compLoop (.ListComp elt [⟨tg,iter,ifs,0⟩] scope pos) 0 (.ref it) (.ref D) (compEnvC scope (wp scope X.env) C X.env))
   (Rr (.ref D) C) s₃:=by
  rintro s₃ rfl;refine jq (λ n s'=>∃ i H' ys its,aK (bJ X scope N s2 H2 C (D::fp)) [] (lift ix σ) H' s'/\tn i s'.heap/\(∀ b∈D::fp,H' b=none)/\s'.heap.PlainList D (List.toArray its)/\bn ys its/\W i n ys H') ?_ m0
   ⟨0,H2,[],[],I4,T.keep _ _ _ st2 λ b _ o e=>old b o e,free0,hacc,.nil,w0⟩
  rintro n s3 ⟨i,H3,ys,its,I3,st3,fr3,pl3,rv3,w3⟩;obtain ⟨kk,plE⟩:=pl3;have pinD:∀ {pp:List (Addr×Obj)} {σ':St} {H':Hp} {s':Shared},aK (bJ X scope N s2 H2 C (D::fp)) pp σ' H' s'->H' D=none->s'.heap.get? D=some { cls:=.type "list", data:=.seq its.toArray kk }->
   aK (bJ X scope N s2 H2 C (D::fp)) [(D,{ cls:=.type "list", data:=.seq its.toArray kk })] σ' H' s':=λ {pp σ' H' s'} J f e=>J.pins_of λ p hp=>by
   have z:p=(D,{ cls:=.type "list", data:=.seq its.toArray kk }):=by simpa using hp
   subst z;exact ⟨e,f,(J.ok.exf D List.mem_cons_self).1,J.ok.exfs D List.mem_cons_self,λ v z=>by cases z⟩
  have fpD:∀ {H':Hp},(∀ b∈D::fp,H' b=none)->∀ b∈fp,kB (bJ X scope N s2 H2 C (D::fp)) [(D,{ cls:=.type "list", data:=.seq its.toArray kk })] H' b:=λ hn b hb=>by
   obtain ⟨a1,a2,a3,a4,a5,a6⟩:=stat hn b (sub b hb);refine ⟨a1,a2,a3,a4,a5,λ p hp=>?_⟩;have z:p=(D,{ cls:=.type "list", data:=.seq its.toArray kk }):=by simpa [bJ] using hp
   subst z;exact (nDf b hb).symm
  have frD:H3 D=none:=fr3 D List.mem_cons_self;rcases turn i n ys H3 w3 with ⟨stop,hz,qn⟩ | ⟨go,hz,NN,hN,step⟩
  . refine cc (T.done (bJ X scope N s2 H2 C (D::fp)) rfl rfl rfl hc i _ s3 _ H3 (λ _ _=>False) (pinD I3 frD plE) (fpD fr3) st3 stop) λ r s4 ⟨hr,I4'⟩=>?_;subst hr;obtain ⟨m,hm,_⟩:=I4'.loc;have eD:=(I4'.pin (D,_) (List.mem_append_right _ List.mem_cons_self)).1;have fin:∀ h',Heap.SameBut C s4.heap h'->aK X pins σ (cR H3 D (.lst ys)) { s4 with heap:=h' }:=λ h' hs'=>xp I2 I4' f2 hDD.symm hlt hDC hs' eD frD rv3 hz;have hC0:s2.heap.objs.size<=C:=Nat.le_of_lt hlt;have fC:kB X pins H3 C:=by
     have q:=I2.fpOk (H':=H3) hC0 I4'.free;exact q
    exact hR s4 H3 D C m ys hm fC fin (by simpa using fin s4.heap (Heap.SameBut.refl ..)) hDC (qn D frD)
  . refine cc (T.item (bJ X scope N s2 H2 C (D::fp)) rfl rfl rfl hc i _ s3 _ H3 (λ _ _=>False) (pinD I3 frD plE) (fpD fr3) st3 go) λ r s4 ⟨u,hr,h4⟩=>?_;subst hr;refine cc h4 λ _ s5 hq0=>?_;obtain ⟨x,H5,I5,r5,y5,st5,fr5⟩:=hq0;have eD5:=(I5.pin (D,_) (List.mem_append_right _ List.mem_cons_self))
    have fr5':∀ b∈D::fp,H5 b=none:=λ b hb=>by
     rcases List.mem_cons.mp hb with z | hb
     . rw [z];exact eD5.2.1
     . exact fr5 b hb
    have I5':aK (bJ X scope N s2 H2 C (D::fp)) ([]++lJ (D::fp) s5.heap) (lift ix σ) H5 s5:=(I5.unpinned (pins:=[]) (pl:=[_])).pinned (stat fr5') λ b hb=>by
     rcases List.mem_cons.mp hb with z | hb
     . rw [z];exact ⟨_,eD5.1,λ v z=>by cases z⟩
     . exact T.obj _ _ st5 b hb
    have back:∀ {σ7:St} {H7:Hp} {s7:Shared},aK (bJ X scope N s2 H2 C (D::fp)) ([]++lJ (D::fp) s5.heap) σ7 H7 s7->BI (lift ix σ) σ7->
     aK (bJ X scope N s2 H2 C (D::fp)) [] (lift ix σ) H7 s7/\tn (i+1) s7.heap/\(∀ b∈D::fp,H7 b=none)/\s7.heap.get? D=some { cls:=.type "list", data:=.seq its.toArray kk }:=λ {σ7 H7 s7} I7 ex=>by
     have keepAt:∀ b∈D::fp,∀ o,s5.heap.get? b=some o->s7.heap.get? b=some o/\H7 b=none:=λ b hb o e=>
      ⟨(I7.pin (b,o) (List.mem_append_right _ (List.mem_append_right _ (iJ hb e)))).1,(I7.pin (b,o) (List.mem_append_right _ (List.mem_append_right _ (iJ hb e)))).2.1⟩
     refine ⟨I7.unpinned.weak ex.1 ex.2,T.keep _ _ _ st5 λ b hb o e=>(keepAt b (sub b hb) o e).1,λ b hb=>?_,(keepAt D List.mem_cons_self _ eD5.1).1⟩;rcases List.mem_cons.mp hb with z | hb'
     . rw [z];exact (keepAt D List.mem_cons_self _ eD5.1).2
     . obtain ⟨o,e,_⟩:=T.obj _ _ st5 b hb';exact (keepAt b hb o e).2
    refine cc (hg _ s5 _ H5 x u _ I5' r5 (hG _ _ _ _ (step x H5 y5))) λ _ s6 hq0=>?_;obtain ⟨σ6,H6,I6,q6,ex6⟩:=hq0;refine cc (hif _ s6 σ6 H6 _ I6 q6) λ ok s7 hq0=>?_;obtain ⟨H7,I7,q7⟩:=hq0;cases ok with
    | false=>
     rw [if_neg Bool.false_ne_true] at q7 ⊢;obtain ⟨m',hm,w7⟩:=hN _ _ q7;obtain ⟨J1,J2,J3,J4⟩:=back I7 ex6;exact ⟨m',hm,i+1,H7,ys,its,J1,J2,J3,⟨_,J4⟩,rv3,w7⟩
    | true=>
     rw [if_pos rfl] at q7 ⊢;refine cc (hel _ s7 σ6 H7 _ I7 q7) λ uv s8 hq0=>?_;obtain ⟨y,H8,I8,r8,q8⟩:=hq0;obtain ⟨m',hm,w8⟩:=hN _ _ q8;obtain ⟨J1,J2,J3,J4⟩:=back I8 ex6;refine wpAny_list_append_plain (hsz:=by rw [List.size_toArray,<-rv3.length];exact Nat.le_of_lt hz) ⟨_,J4⟩ λ h₉ hl₉ hs₉=>?_;obtain ⟨a1,a2,a3,a4,a5,a6⟩:=stat J3 D List.mem_cons_self;refine ⟨m',hm,i+1,H8,ys++[y],its++[uv],J1.turned (t':=s8.toks) (λ b o hb e=>hs₉.extBut b o hb e) a1 a2 a4 a5 a6,T.keep _ _ _ J2 λ b hb o e=>hs₉.extBut b o (nDf b hb) e,J3,by simpa using hl₉,rv3.append (.cons r8 .nil),w8⟩
 exact codeAny_compStart_list (loop _ rfl) (T.self _ 0 _ _ _ (T.keep _ _ _ st2 λ b _ o e=>old b o e) (loop _ rfl))
theorem B9 (S:bG X scope N ix) (hc:X.calm=true) (hi:PI X tg iter wi) (hG:nG ix g)
 (hb:∀ (s₀:Shared) (H₀:Hp) (C:Addr) (ex:List Addr),PG (bJ X scope N s₀ H₀ C ex) tg g/\uk (bJ X scope N s₀ H₀ C ex) ifs tc/\PE (bJ X scope N s₀ H₀ C ex) elt te)
 (hs:∀ x,foldedSetIterable iter X.env x=pure x:=by intro _;rfl):PE X (.ListComp elt [⟨tg,iter,ifs,0⟩] scope pos) (lV ix wi g tc te):=by
 intro pins s σ H Q I h;rw [eval_ListComp];refine wpAny_comprehension_free (use:=none) rfl hs (nK (S.cells I)) S.kind S.locs ?_;refine cc (hi pins s σ H _ I h) λ v s1 h1=>cc h1 λ itv s2 h2=>?_;refine pz (Rr:=λ acc C=>compPost (model X.prog X.w) X.A X.xe none (EP X pins σ Q) acc C) S hc hG hb h2 ?_;intro s4 H' D C m ys hm _ fin _ _ q;exact ⟨m,hm,λ h' hs'=>⟨.ref D,_,fin h' hs',rfl,q⟩⟩
theorem Ah {y:Str} {py spos:Pos} {i:Nat} (hN:X.N.Nodup) (hi:X.N[i]?=some y) (hy:C8 X.env.scope y) (S:bG X scope N ix) (hc:X.calm=true) (hit:PI X tg iter wi) (hG:nG ix g)
 (hb:∀ (s₀:Shared) (H₀:Hp) (C:Addr) (ex:List Addr),PG (bJ X scope N s₀ H₀ C ex) tg g/\uk (bJ X scope N s₀ H₀ C ex) ifs tc/\PE (bJ X scope N s₀ H₀ C ex) elt te)
 (hsw:swapsWith (.ListComp elt [⟨tg,iter,ifs,0⟩] scope pos) (some (.Name y py)) spos.line X.env=pure true:=by rfl) (hs:∀ x,foldedSetIterable iter X.env x=pure x:=by intro _;rfl)
 (hf:X.fn y=true∨X.env.scope.names.lookup y=some .local:=by first | exact .inl rfl | exact .inr rfl | assumption):
 PS X (.Assign [.Name y py] (.ListComp elt [⟨tg,iter,ifs,0⟩] scope pos) spos) (tY (lV ix wi g tc te) (me i)):=by
 intro pins s σ H D0 I h;rw [exec_Assign_Name_used _ _ _ _ hsw];refine wpAny_bind (wpAny_standAt (wpAny_bind ?_));show wpAny _ X.A (do let _ <-comprehension (.ListComp elt [⟨tg,iter,ifs,0⟩] scope pos) scope X.env _ (newList []) false (eval iter X.env) (some (assign (.Name y py) X.env))) _ _ s;refine wpAny_bind (wpAny_mono (wpAny_comprehension_free (use:=some (assign (.Name y py) X.env)) (Q:=λ _ s'=>SP X pins D0 .next s') rfl hs (nK (S.cells I)) S.kind S.locs ?_) (λ _ s' hq=>wpAny_pure (wpAny_pure hq)) λ _ _ e=>e);refine cc (hit pins s σ H _ I h) λ v s1 h1=>cc h1 λ itv s2 h2=>?_;refine pz (Q:=λ x H1=>me i x σ H1 D0.nx) (Rr:=λ acc C=>compPost (model X.prog X.w) X.A X.xe (some (assign (.Name y py) X.env)) (λ _ s'=>SP X pins D0 .next s') acc C) S hc hG hb h2 ?_;intro s4 H' D C m ys hm fC _ I4 hDC q;show wpAny _ X.A (assign (.Name y py) X.env (.ref D)) _ _ _;obtain ⟨c0,c1,c2,c3,c4,c5⟩:=fC;refine wpAny_assign_Name (pD (v:=.ref D) I4 hN hi hy rfl (λ s5 I5 hsb=>?_) hf);obtain ⟨a,hsa,ha⟩:=hsb;have haC:C≠a:=by
  rcases ha with z | z
  . rw [z];exact c1
  . exact λ e=>c4 y a z e.symm
 refine ⟨m,hm.sameBut hsa haC,λ h' hs'=>?_⟩;have hCn:(cR H' D (.lst ys)) C=none:=by rw [aL hDC.symm];exact c0
 exact ⟨_,_,I5.turned (t':=s5.toks) (λ b o hb e=>hs'.extBut b o hb e) hCn c1 c3 c4 c5,q⟩
end
noncomputable def Kx (K:Frag) (a b:Addr):It:=
 ⟨λ i H=>∃ xs ys x y,dM K H a xs/\dM K H b ys/\xs[i]?=some x/\ys[i]?=some y,
  λ i H v H'=>∃ p x y,H p=none/\v=.ref p/\H'=cR H p (.tup [x,y])/\(∀ xs,dM K H a xs->xs[i]?=some x)/\∀ ys,dM K H b ys->ys[i]?=some y,
  λ i H=>∃ xs ys,dM K H a xs/\dM K H b ys/\(xs.length<=i∨ys.length<=i)⟩
theorem aK.turnedL {X:Cx} {pins:List (Addr×Obj)} {σ:St} {H:Hp} {s:Shared} {h':Heap} {t':Nat} {ch:List Addr} (I:aK X pins σ H s) (hf:∀ b∈ch,kB X pins H b) (k:∀ b o,b∉ch->s.heap.get? b=some o->h'.get? b=some o):
 aK X pins σ H { s with heap:=h',toks:=t' }:=by
 have zF:∀ c t,H c=some t->c∉ch:=λ c t e hc=>by rw [(hf c hc).1] at e;cases e
 refine I.step (g':=s.gens) (d':=s.drawn) (ch:=ch) (λ c hc=>⟨(hf c hc).2.2.2.1,(hf c hc).2.1,(hf c hc).2.2.2.2.1,(hf c hc).2.2.2.2.2⟩) (λ c o _ _ hc e _=>k c o hc e) (λ c o _ _ hc e _=>⟨o.slots,k c o hc e⟩) (λ _ _ _ _ n=>n) (λ c o hc e=>⟨o,k c o hc e⟩)
  (λ _ _ e=>e) (λ _ _ _ e=>e) (λ c ps e=>⟨#[],by rw [e];simp⟩) (λ m hm=>?_) (λ c t e=>?_) I.bare
 . obtain ⟨o,es,ep,ho,r⟩:=hm;exact ⟨o,es,ep,k _ o (λ hc=>(hf _ hc).2.1 rfl) ho,r⟩
 . refine (I.hok c t e).stay (λ d o hd q=>k d o ?_ q) (λ _ q=>q) λ _ _ q=>q;rcases hd with hd | hd
   . rw [hd];exact zF c t e
   . exact zF d _ hd
theorem pC {h:Heap} {a b z TI TO i1 i2:Addr} {u0 v0:Value} {i:Nat} {its jts:Array Value} (h12:i1≠i2) (hT:TI≠TO) (e1:IsZip h z TI TO .none) (e2:IsPair h TI (.ref i1) (.ref i2)) (e3:IsPair h TO u0 v0) (e4:h.IsListIter i1 a i) (e5:h.IsListIter i2 b i)
 (px:PlainL h a its) (py:PlainL h b jts):ZipApart z TI TO i1 i2 a b:=by
 obtain ⟨o4,g4,c4,_⟩:=id e4;obtain ⟨o5,g5,c5,_⟩:=id e5;obtain ⟨oa,na,ga,ca,_⟩:=id px;obtain ⟨ob,nb,gb,cb,_⟩:=id py;have ne:∀ {p q:Addr} {o o':Obj},h.get? p=some o->h.get? q=some o'->o.cls≠o'.cls->p≠q:=λ h h' d z=>by
  subst z;rw [h] at h';cases h';exact d rfl
 exact ⟨ne e2 e1 (by simp),ne e3 e1 (by simp),ne g4 e1 (by rw [c4];simp),ne g5 e1 (by rw [c5];simp),hT,ne e2 g4 (by rw [c4];simp),ne e2 g5 (by rw [c5];simp),ne e3 g4 (by rw [c4];simp),ne e3 g5 (by rw [c5];simp),h12,
  ne ga e1 (by rw [ca];simp),ne ga e3 (by rw [ca];simp),ne ga g4 (by rw [ca,c4];simp),ne ga g5 (by rw [ca,c5];simp),ne gb e1 (by rw [cb];simp),ne gb e3 (by rw [cb];simp),ne gb g4 (by rw [cb,c4];simp),ne gb g5 (by rw [cb,c5];simp)⟩
theorem xE {P:Program} {w:World} {K:Frag} {elts:List Expr} {x1} {pos:Pos} (a b z TI TO i1 i2:Addr) (h12:i1≠i2) (hT:TI≠TO):
 vX P w K (.Tuple elts x1 pos) (Kx K a b) [z,TI,TO,i1,i2] z (λ i h=>IsZip h z TI TO .none/\IsPair h TI (.ref i1) (.ref i2)/\(∃ u v,IsPair h TO u v)/\h.IsListIter i1 a i/\h.IsListIter i2 b i) where
 mem:=by simp
 obj:=λ i h st c hc=>by
  obtain ⟨e1,e2,⟨u,v,e3⟩,⟨o4,e4,_,d4⟩,⟨o5,e5,_,d5⟩⟩:=st;simp only [List.mem_cons,List.not_mem_nil,or_false] at hc;rcases hc with rfl | rfl | rfl | rfl | rfl
  . exact ⟨_,e1,λ v z=>by cases z⟩
  . exact ⟨_,e2,λ v z=>by cases z⟩
  . exact ⟨_,e3,λ v z=>by cases z⟩
  . exact ⟨o4,e4,λ v z=>by rw [d4] at z;cases z⟩
  . exact ⟨o5,e5,λ v z=>by rw [d5] at z;cases z⟩
 keep:=λ i h h' st k=>by
  obtain ⟨e1,e2,⟨u,v,e3⟩,e4,e5⟩:=st;exact ⟨k z (by simp) _ e1,k TI (by simp) _ e2,⟨u,v,k TO (by simp) _ e3⟩,e4.at λ o e=>k i1 (by simp) o e,e5.at λ o e=>k i2 (by simp) o e⟩
 item:=by
  intro X hP hw hK hc i pins s σ H E I hf st hg;subst hP hw hK;obtain ⟨xs,ys,x,y,qx,qy,hx,hy⟩:=hg;obtain ⟨its,rvx,px,_⟩:=I.list qx;obtain ⟨jts,rvy,py,_⟩:=I.list qy;obtain ⟨u,hu,ru⟩:=rvx.get hx;obtain ⟨v,hv,rv⟩:=rvy.get hy;obtain ⟨e1,e2,⟨u0,v0,e3⟩,e4,e5⟩:=st;have D:=pC h12 hT e1 e2 e3 e4 e5 px py;refine wpAny_pyNext_zip_item D e1 e2 e3 e4 e5 px.isList py.isList (x:=u) (y:=v) (by simpa using hu) (by simpa using hv) λ h' a1 a2 a3 a4 a5 a6 a7=>?_;refine ⟨_,rfl,wpAny_letOwnedTupleGo_zip (s:={ s with heap:=h' }) a1 λ h'' b1 b2=>?_⟩;have hTn:H s.heap.objs.size=none:=I.hok.fresh (Nat.le_refl _);have big:∀ {c:Addr} {o:Obj},s.heap.get? c=some o->c≠s.heap.objs.size:=λ e=>Nat.ne_of_lt (Heap.lt_size e);have hTz:s.heap.objs.size≠z:=(big e1).symm;have k2:∀ c o,c≠z->c≠TO->c≠i1->c≠i2->s.heap.get? c=some o->h''.get? c=some o:=λ c o c1 c2 c3 c4 e=>(b2.2 c c1).trans (a7 c o c1 c2 c3 c4 e);have eT:IsPair h'' s.heap.objs.size u v:=(b2.2 _ hTz).trans a5;have fpz:=hf z (by simp);have fpO:=hf TO (by simp);have fp1:=hf i1 (by simp);have fp2:=hf i2 (by simp);have nin:∀ c,c∉[z,TO,i1,i2]->c≠z/\c≠TO/\c≠i1/\c≠i2:=λ c hc=>by
   simp only [List.mem_cons,List.not_mem_nil,or_false,not_or] at hc;exact hc
  have inn:∀ c∈[z,TO,i1,i2],kB X pins H c:=λ c hc=>by
   simp only [List.mem_cons,List.not_mem_nil,or_false] at hc;rcases hc with rfl | rfl | rfl | rfl
   . exact fpz
   . exact fpO
   . exact fp1
   . exact fp2
  have zF:∀ c t,H c=some t->c∉[z,TO,i1,i2]:=λ c t e hc=>by rw [(inn c hc).1] at e;cases e
  have I1:aK X pins σ (cR H s.heap.objs.size (.tup [x,y])) { s with heap:=h'',gens:=s.gens,drawn:=s.drawn,toks:=s.toks }:=by
   refine I.step (ch:=[z,TO,i1,i2]) (λ c hc=>⟨(inn c hc).2.2.2.1,(inn c hc).2.1,(inn c hc).2.2.2.2.1,(inn c hc).2.2.2.2.2⟩) (λ c o _ _ hc e _=>?_) (λ c o _ _ hc e _=>?_) (λ c o hc e n=>?_) (λ c o hc e=>?_) (λ c t e=>?_) (λ c o t e=>?_) (λ c ps e=>?_) (λ m hm=>?_) (λ c t e=>?_) I.bare
   . obtain ⟨c1,c2,c3,c4⟩:=nin c hc;exact k2 c o c1 c2 c3 c4 e
   . obtain ⟨c1,c2,c3,c4⟩:=nin c hc;exact ⟨o.slots,k2 c o c1 c2 c3 c4 e⟩
   . rw [aL (big e)];exact n
   . obtain ⟨c1,c2,c3,c4⟩:=nin c hc;exact ⟨o,k2 c o c1 c2 c3 c4 e⟩
   . rw [aL (b7 e hTn)];exact e
   . rw [aL (b7 e hTn)];exact e
   . exact ⟨#[],by rw [aL (b7 e hTn),e];simp⟩
   . obtain ⟨o,es,ep,ho,r⟩:=hm;obtain ⟨c1,c2,c3,c4⟩:=nin X.env.locals (λ hc=>(inn _ hc).2.1 rfl);exact ⟨o,es,ep,k2 _ o c1 c2 c3 c4 ho,r⟩
   . by_cases hcT:c=s.heap.objs.size
     . subst hcT;rw [aJ] at e;cases e;exact ⟨by show 2<=sizeLine;decide,[u,v],.cons ru (.cons rv .nil),⟨_,eT,rfl,_,rfl⟩⟩
     . rw [aL hcT] at e;refine (I.hok c t e).stay (λ d o hd q=>?_) (λ d q=>by rw [aL (b7 q hTn)];exact q) λ d zs q=>by rw [aL (b7 q hTn)];exact q
       have hd':d∉[z,TO,i1,i2]:=by
        rcases hd with hd | hd
        . rw [hd];exact zF c t e
        . exact zF d _ hd
       obtain ⟨c1,c2,c3,c4⟩:=nin d hd';exact k2 d o c1 c2 c3 c4 q
  refine ⟨.ref s.heap.objs.size,_,I1,rfl,⟨s.heap.objs.size,x,y,hTn,rfl,rfl,λ zs hz=>by rw [I.list_inj hz qx];exact hx,λ zs hz=>by rw [I.list_inj hz qy];exact hy⟩,
   ⟨b1,k2 _ _ D.TIz D.TITO D.TIi1 D.TIi2 e2,⟨u,v,(b2.2 _ D.TOz).trans a2⟩,a3.at λ o e=>(b2.2 _ D.i1z).trans e,a4.at λ o e=>(b2.2 _ D.i2z).trans e⟩,λ c hc=>?_⟩
  have hcn:∀ c∈[z,TI,TO,i1,i2],c≠s.heap.objs.size:=λ c hc=>by
   obtain ⟨o4,g4,_⟩:=id e4;obtain ⟨o5,g5,_⟩:=id e5;simp only [List.mem_cons,List.not_mem_nil,or_false] at hc;rcases hc with rfl | rfl | rfl | rfl | rfl
   . exact big e1
   . exact big e2
   . exact big e3
   . exact big g4
   . exact big g5
  rw [aL (hcn c hc)];exact (hf c hc).1
 done:=by
  intro X hP hw hK hc i pins s σ H E I hf st hg;subst hP hw hK;obtain ⟨xs,ys,qx,qy,hl⟩:=hg;obtain ⟨its,rvx,px,_⟩:=I.list qx;obtain ⟨jts,rvy,py,_⟩:=I.list qy;obtain ⟨e1,e2,⟨u0,v0,e3⟩,e4,e5⟩:=st;have D:=pC h12 hT e1 e2 e3 e4 e5 px py;have lx:=rvx.length;have ly:=rvy.length;refine wpAny_pyNext_zip_end (I.ok.hd hc) D e1 e2 e3 e4 e5 px.isList py.isList ?_ λ h' k=>⟨rfl,I.turnedL (t':=s.toks) (ch:=[z,TO,i1,i2]) (λ c hc=>hf c ?_) λ c o hc e=>?_⟩
  . rcases hl with hl | hl
    . exact .inl (by simp;omega)
    . exact .inr (by simp;omega)
  . simp only [List.mem_cons,List.not_mem_nil,or_false] at hc ⊢;rcases hc with h | h | h | h
    . exact .inl h
    . exact .inr (.inr (.inl h))
    . exact .inr (.inr (.inr (.inl h)))
    . exact .inr (.inr (.inr (.inr h)))
  . simp only [List.mem_cons,List.not_mem_nil,or_false,not_or] at hc;exact k c o hc.1 hc.2.1 hc.2.2.1 hc.2.2.2 e
 self:=λ _ _ _ _ _ st h=>wpAny_pyIter_zip st.1 h
noncomputable def F4 (K:Frag) (ta:TA):TI:=λ σ H R=>ta σ H λ vs H1=>∃ a b,vs=[.ref a,.ref b]/\(∃ xs,dM K H1 a xs)/\(∃ ys,dM K H1 b ys)/\R (Kx K a b) H1
theorem DY {X:Cx} {elts:List Expr} {x1} {tpos:Pos} {a b:Expr} {ta:TA} {p pos:Pos} (hg:Gl X "zip") (hm:X.mg "zip" = none) (ha:PA X [a,b] ta) (hs:starEach [a,b] X.env=[(false,eval a X.env),(false,eval b X.env)]:=by rfl) (hs2:starEach [b] X.env=[(false,eval b X.env)]:=by rfl):
 PI X (.Tuple elts x1 tpos) (.Call (.Name "zip" p) [a,b] [] pos) (F4 X.K ta):=by
 intro pins s σ H R I h;refine Call_ (jz I hg hm boot_zip (PyProof.Rows.callWith_type1 (cc (ha pos pins s σ H _ I h) λ us s1 hq0=>?_) (by rw [hs,hs2]) (by rw [hs2];rfl)));obtain ⟨vs,H1,I1,r1,q1⟩:=hq0;obtain ⟨a,b,e,⟨xs,qx⟩,⟨ys,qy⟩,q⟩:=q1;subst e;cases r1 with
 | cons r rr=>
  cases rr with
  | cons r' rr=>
   cases rr;cases r;cases r';obtain ⟨its,rvx,px,_⟩:=I1.list qx;obtain ⟨jts,rvy,py,_⟩:=I1.list qy;refine call_zip_2 px.isList py.isList λ h' g5 g3 g4 g1 g2 z5 k=>?_;refine wpAny_pyIter_zip (s:={ s1 with heap:=h' }) g5 ?_;refine ⟨s1.heap.objs.size+4,[s1.heap.objs.size+4,s1.heap.objs.size+2,s1.heap.objs.size+3,s1.heap.objs.size,s1.heap.objs.size+1],_,_,H1,rfl,I1.kept (t':=s1.toks) k,xE a b _ _ _ _ _ (Nat.ne_of_lt (Nat.lt_succ_self _)) (Nat.ne_of_lt (Nat.lt_succ_self _)),⟨g5,g3,⟨_,_,g4⟩,g1,g2⟩,λ c hc=>?_,q⟩;have hc':s1.heap.objs.size<=c:=by
    simp only [List.mem_cons,List.not_mem_nil,or_false] at hc;rcases hc with h | h | h | h | h <;> subst h <;> first
     | exact Nat.le_refl _
     | exact Nat.le_add_right _ _
   exact I1.fpOk hc' (I1.hok.fresh hc')
noncomputable def E8 (T:String):Option Bool:=if T = "int" then some true else if T = "bool" then some false else if T = "str" then some false else if T = "list" then some false else if T = "tuple" then some false else if T = "dict" then some false else none
noncomputable def Ep (T:String):Option Bool:=if T = "int" then some true else if T = "bool" then some true else if T = "str" then some false else if T = "list" then some false else if T = "tuple" then some false else if T = "dict" then some false else none
noncomputable def DP (T:String):Option Bool:=if T = "int" then some false else if T = "bool" then some false else if T = "str" then some true else if T = "list" then some false else if T = "tuple" then some false else if T = "dict" then some false else none
noncomputable def xG (v:V) (T:String):Option Bool:=match v with
 | .int _=>E8 T
 | .bl _=>Ep T
 | .str _=>DP T
 | _=>none
theorem xO {X:Cx}:fz X (.builtin "isinstance") (λ xs H Q=>∃ v T k,xs=[v,.ty T]/\xG v T=some k/\Q (.bl k) H):=by
 intro pins s σ H xs us Q I r h;obtain ⟨v,T,k,rfl,hk,q⟩:=h;cases r with
 | cons r rr=>
  cases rr with
  | cons r' rr=>
   cases rr;cases r';have fin:∀ {n:Option Bool} {T':String} {b:Bool},(if T=T' then some b else n)=some k->(T=T'/\b=k)∨n=some k:=λ {n T' b} h=>by
    by_cases e:T=T'
    . rw [if_pos e] at h;cases h;exact .inl ⟨e,rfl⟩
    . rw [if_neg e] at h;exact .inr h
   cases v with
   | int i=>
    obtain ⟨t,rfl⟩:=r;replace hk:E8 T=some k:=hk;unfold E8 at hk;rcases fin hk with ⟨rfl,rfl⟩ | hk
    . exact IsiPair.int_int ⟨.bl _,H,I,rfl,q⟩
    rcases fin hk with ⟨rfl,rfl⟩ | hk
    . exact IsiPair.int_bool ⟨.bl _,H,I.tok _,rfl,q⟩
    rcases fin hk with ⟨rfl,rfl⟩ | hk
    . exact IsiPair.int_str ⟨.bl _,H,I.tok _,rfl,q⟩
    rcases fin hk with ⟨rfl,rfl⟩ | hk
    . exact IsiPair.int_list ⟨.bl _,H,I.tok _,rfl,q⟩
    rcases fin hk with ⟨rfl,rfl⟩ | hk
    . exact IsiPair.int_tuple ⟨.bl _,H,I.tok _,rfl,q⟩
    rcases fin hk with ⟨rfl,rfl⟩ | hk
    . exact IsiPair.int_dict ⟨.bl _,H,I.tok _,rfl,q⟩
    cases hk
   | bl i=>
    cases r;replace hk:Ep T=some k:=hk;unfold Ep at hk;rcases fin hk with ⟨rfl,rfl⟩ | hk
    . first | exact IsiPair.bool_int ⟨.bl _,H,I,rfl,q⟩ | exact IsiPair.bool_int ⟨.bl _,H,I.tok _,rfl,q⟩
    rcases fin hk with ⟨rfl,rfl⟩ | hk
    . first | exact IsiPair.bool_bool ⟨.bl _,H,I,rfl,q⟩ | exact IsiPair.bool_bool ⟨.bl _,H,I.tok _,rfl,q⟩
    rcases fin hk with ⟨rfl,rfl⟩ | hk
    . first | exact IsiPair.bool_str ⟨.bl _,H,I,rfl,q⟩ | exact IsiPair.bool_str ⟨.bl _,H,I.tok _,rfl,q⟩
    rcases fin hk with ⟨rfl,rfl⟩ | hk
    . first | exact IsiPair.bool_list ⟨.bl _,H,I,rfl,q⟩ | exact IsiPair.bool_list ⟨.bl _,H,I.tok _,rfl,q⟩
    rcases fin hk with ⟨rfl,rfl⟩ | hk
    . first | exact IsiPair.bool_tuple ⟨.bl _,H,I,rfl,q⟩ | exact IsiPair.bool_tuple ⟨.bl _,H,I.tok _,rfl,q⟩
    rcases fin hk with ⟨rfl,rfl⟩ | hk
    . first | exact IsiPair.bool_dict ⟨.bl _,H,I,rfl,q⟩ | exact IsiPair.bool_dict ⟨.bl _,H,I.tok _,rfl,q⟩
    cases hk
   | str i=>
    obtain ⟨t,rfl⟩:=r;replace hk:DP T=some k:=hk;unfold DP at hk;rcases fin hk with ⟨rfl,rfl⟩ | hk
    . first | exact IsiPair.str_int ⟨.bl _,H,I,rfl,q⟩ | exact IsiPair.str_int ⟨.bl _,H,I.tok _,rfl,q⟩
    rcases fin hk with ⟨rfl,rfl⟩ | hk
    . first | exact IsiPair.str_bool ⟨.bl _,H,I,rfl,q⟩ | exact IsiPair.str_bool ⟨.bl _,H,I.tok _,rfl,q⟩
    rcases fin hk with ⟨rfl,rfl⟩ | hk
    . first | exact IsiPair.str_str ⟨.bl _,H,I,rfl,q⟩ | exact IsiPair.str_str ⟨.bl _,H,I.tok _,rfl,q⟩
    rcases fin hk with ⟨rfl,rfl⟩ | hk
    . first | exact IsiPair.str_list ⟨.bl _,H,I,rfl,q⟩ | exact IsiPair.str_list ⟨.bl _,H,I.tok _,rfl,q⟩
    rcases fin hk with ⟨rfl,rfl⟩ | hk
    . first | exact IsiPair.str_tuple ⟨.bl _,H,I,rfl,q⟩ | exact IsiPair.str_tuple ⟨.bl _,H,I.tok _,rfl,q⟩
    rcases fin hk with ⟨rfl,rfl⟩ | hk
    . first | exact IsiPair.str_dict ⟨.bl _,H,I,rfl,q⟩ | exact IsiPair.str_dict ⟨.bl _,H,I.tok _,rfl,q⟩
    cases hk
   | _=>cases hk
section
variable {X:Cx}
noncomputable def Cs (i j:Int):Prop:=j≠0/\j.natAbs<2^512
theorem GK:ig X (binaryOp .FloorDiv) (rI Cs λ i j=>.int (i.fdiv j)):=IL λ i j _ _ _ _ _ hc q=>floordiv_int hc.1 q (.inl (PyProof.noPylong_of_log2 (by
 by_cases h0:j.natAbs=0
 . rw [h0];decide +kernel
 . have:=(Nat.log2_lt h0).mpr hc.2;omega)))
theorem IP:ig X (binaryOp .Mod) (rI (λ _ j=>j≠0) λ i j=>.int (i.fmod j)):=zU
theorem boot_bool':bootBuiltins "bool" = some (.type "bool"):=by decide +kernel
theorem uA {scope:Scope} {N:List Str} {ix:List (Option Nat)} (kind:scope.kind=.function) (nocell:(scope.names.all λ y=>y.2 != .cell)=true) (locs:(scope.names.all λ y=>y.2 != .local||scope.names.lookup y.1==some .local)=true)
 (free:(scope.names.all λ y=>y.2 != .free||X.env.kindOf y.1==some .cell||X.env.kindOf y.1==some .free)=true) (len:ix.length=N.length) (nd:N.Nodup)
 (fr:((ix.zip N).all λ p=>match p.1 with
  | none=>true
  | some i=>X.N[i]?==some p.2&&(X.env.kindOf p.2==some .cell||X.env.kindOf p.2==some .free)&&((relabel scope X.env).names.lookup p.2==some .cell||(relabel scope X.env).names.lookup p.2==some .free))=true):bG X scope N ix:=by
 refine ⟨kind,λ y hy=>?_,λ y hy hl=>?_,λ y hy hf=>?_,len,nd,λ j i e=>?_⟩
 . have:=List.all_eq_true.mp nocell y hy;simpa using this
 . have:=List.all_eq_true.mp locs y hy;rw [hl] at this;simpa using this
 . have:=List.all_eq_true.mp free y hy;rw [hf] at this;simpa using this
 . have hj:j<ix.length:=(oG e).1;have hj':j<N.length:=by omega
   have hm:(ix.zip N)[j]?=some (some i,N[j]):=by
    rw [List.getElem?_zip_eq_some];exact ⟨e,by simp [hj']⟩
   have:=List.all_eq_true.mp fr _ (List.mem_of_getElem? hm);simp only [Bool.and_eq_true,Bool.or_eq_true,beq_iff_eq] at this;exact ⟨N[j],by simp [hj'],this.1.1,this.1.2,this.2⟩
end
structure Df (K:Frag) (mg:Str->Option Value) (x:Str) (st:Stmt) (ps:List Str) (f:Addr) (fd:FuncData):Prop where
 fn:IF K x x st f fd
 b:aP K fd ps []
 m:mg x=some (.ref f)
section
variable {K:Frag} {a b:Addr} {xs ys:List V} {wi:TI} {g:TG} {tb:TS} {D:jb} {σ:St} {H H1:Hp} {ix:List (Option Nat)} {tc:TT} {te:TE} {Q:VK}
end
mutual
inductive Dp (K:Frag) (H:Hp):V->PyData->Prop
 | non:Dp K H .non .none
 | bl (b:Bool):Dp K H (.bl b) (.bool b)
 | int (i:Int):Dp K H (.int i) (.int i)
 | str (x:Str):Dp K H (.str x) (.str x)
 | lst {a:Addr} {xs:List V} {ds:List PyData}:dM K H a xs->mw K H xs ds->Dp K H (.ref a) (.list ds)
 | tup {a:Addr} {xs:List V} {ds:List PyData}:ii K H a xs->mw K H xs ds->Dp K H (.ref a) (.tuple ds)
inductive mw (K:Frag) (H:Hp):List V->List PyData->Prop
 | nil:mw K H [] []
 | cons {v:V} {vs:List V} {d:PyData} {ds:List PyData}:Dp K H v d->mw K H vs ds->mw K H (v::vs) (d::ds)
end
theorem Dp.reads {X:Cx} {pins:List (Addr×Obj)} {σ:St} {H:Hp} {s:Shared} (I:aK X pins σ H s) {v:V} {d:PyData} {u:Value} (h:Dp X.K H v d):be v u->∃ as,Reads s.heap u d as:=
 Dp.rec (motive_1:=λ v d _=>∀ u,be v u->∃ as,Reads s.heap u d as) (motive_2:=λ vs ds _=>∀ us,bn vs us->∃ as,ReadsAll s.heap us ds as)
  (λ u r=>by cases r;exact ⟨_,.none⟩) (λ b u r=>by cases r;exact ⟨_,.bool b⟩) (λ i u r=>by obtain ⟨t,rfl⟩:=r;exact ⟨_,.int i t⟩) (λ x u r=>by obtain ⟨t,rfl⟩:=r;exact ⟨_,.str x t⟩)
  (λ q _ ih u r=>by
   cases r;obtain ⟨its,rv,⟨o,n,e,c,_,d⟩,_⟩:=I.list q;obtain ⟨as,ra⟩:=ih _ rv;exact ⟨_,.list e c d (by simpa using ra)⟩)
  (λ q _ ih u r=>by
   cases r;obtain ⟨its,rv,⟨o,e,c,n,d⟩,_⟩:=I.tuple q;obtain ⟨as,ra⟩:=ih _ rv;exact ⟨_,.tuple e c d (by simpa using ra)⟩)
  (λ us r=>by cases r;exact ⟨_,.nil⟩)
  (λ _ _ ih1 ih2 us r=>by
   cases r with
   | cons r rr=>
    obtain ⟨as,ra⟩:=ih1 _ r;obtain ⟨bs,rb⟩:=ih2 _ rr;exact ⟨_,.cons ra rb⟩) h u
noncomputable def Ar (K:Frag) (neg:Bool):R2:=λ x y H Q=>∃ d e,Dp K H x d/\Dp K H y e/\d.canLay0=true/\e.canLay0=true/\d.depth<=64/\Q (.bl (if neg then !(PyData.eqv d e) else PyData.eqv d e)) H
theorem Eu {X:Cx} (hu:X.A.units+64<cLine):ig X (compareOp .Eq) (Ar X.K false):=by
 intro pins s σ H x y v u Q I rx ry h;obtain ⟨d,e,hx,hy,cd,ce,dd,q⟩:=h;obtain ⟨as,ra⟩:=hx.reads I rx;obtain ⟨bs,rb⟩:=hy.reads I ry;exact SeqAt.compareEq_reads ra rb cd ce (by omega) ⟨.bl _,H,I,rfl,by simpa using q⟩
theorem EU {X:Cx} (hu:X.A.units+64<cLine):ig X (compareOp .NotEq) (Ar X.K true):=by
 intro pins s σ H x y v u Q I rx ry h;obtain ⟨d,e,hx,hy,cd,ce,dd,q⟩:=h;obtain ⟨as,ra⟩:=hx.reads I rx;obtain ⟨bs,rb⟩:=hy.reads I ry;exact SeqAt.compareNe_reads ra rb cd ce (by omega) ⟨.bl _,H,I,rfl,by simpa using q⟩
theorem cO.there {P:Program} {w:World} {H:Hp} {h:Heap} {a:Addr} {o:HO} (x:cO P w H h a o):∃ ob,h.get? a=some ob:=by
 cases o with
 | lst xs=>obtain ⟨_,_,_,_,e⟩:=x;exact ⟨_,e⟩
 | tup xs=>obtain ⟨_,_,_,ob,e,_⟩:=x;exact ⟨_,e⟩
 | dK kvs=>obtain ⟨_,_,_,_,o,_,_,e,_⟩:=x;exact ⟨_,e⟩
 | dT kvs=>obtain ⟨_,_,_,_,o,_,_,e,_⟩:=x;exact ⟨_,e⟩
 | dN kvs=>obtain ⟨_,_,_,_,o,_,_,e,_⟩:=x;exact ⟨_,e⟩
 | set S n=>obtain ⟨o,_,_,_,e,_⟩:=x;exact ⟨_,e⟩
 | ins C dx fs=>obtain ⟨_,_,_,e,_⟩:=x;exact ⟨_,e⟩
 | own y=>exact x
 | xd fs=>obtain ⟨_,⟨_,_,_,e,_⟩,_⟩:=x;exact ⟨_,e⟩
 | rng lo hi=>obtain ⟨_,_,_,e⟩:=x;exact ⟨_,e⟩
 | frz ob u=>obtain ⟨e,_⟩:=x;exact ⟨_,e⟩
 | tbl ps=>exact ⟨_,(show h.get? a=some _ from x)⟩
 | met f y=>exact ⟨_,(show h.get? a=some _ from x)⟩
 | ext φ=>obtain ⟨_,e,_⟩:=x;exact e
theorem iK.none_of {P:Program} {w:World} {H:Hp} {h:Heap} {a:Addr} (x:iK P w H h) (e:h.get? a=none):H a=none:=by
 cases q:H a with
 | none=>rfl
 | some o=>
  obtain ⟨ob,z⟩:=(x a o q).there;rw [e] at z;cases z
theorem iK.hide {P:Program} {w:World} {H:Hp} {h:Heap} {as:List Addr} (x:iK P w H h) (n:∀ b∈as,H b=none):iK P w H (PySem.W.hideAll h as):=λ a o e=>
 (x a o e).stay (λ b u hb q=>PySem.W.hideAll_get _ q λ hm=>by
  have z:=n b hm;rcases hb with hb | hb
  . rw [hb,e] at z;cases z
  . rw [hb] at z;cases z) (λ _ q=>q) λ _ _ q=>q
noncomputable def pP (P:Program) (w:World):qU:=λ outer H s E e s'=>
 ∃ (ea:Addr) (cls a0:Value) (H':Hp) (B:Heap),e=.ref ea/\s'.os=s.os/\AllBare s'.gens/\Heap.FlyingW B outer ea cls a0 s'.heap/\iK P w H' B/\Un (jv outer) [] H H' s.heap s'.heap/\
  (∀ b o,s.heap.get? b=some o->H b=none->b∉jv outer->B.get? b=some o)/\(∀ b o,s.heap.get? b=some o->b∉jv outer->∃ o',B.get? b=some o')/\H' ea=none/\E cls none H'
noncomputable def ub (X:Cx) (E:XK):Prop:=∀ (pins:List (Addr×Obj)) (σ:St) (H:Hp) (s:Shared) (h':Heap) (e:Addr) (cls:Value) (vs:List Value),aK X pins σ H s->Heap.MadeExcOf s.heap h' e cls vs->E cls none H->X.xe (.ref e) { s with heap:=h' }
section
variable {P:Program} {w:World} {K:Frag} {mg:Str->Option Value} {base:Heap} {N:List Str} {qual:Str} {scope:Scope} {f:Addr} {cd:Value} {A:Around} {outer:List Env} {s:Shared} {H:Hp} {E:XK}
theorem qV {l:List Env} {env:Env} {b:Addr} (he:env∈l) (hb:env.frame=some b):b∈jv l:=List.mem_filterMap.mpr ⟨env,he,hb⟩
theorem FB:ub (gN (pP P w) P w K mg base N qual scope f cd A outer s H E) E:=by
 intro pins σ H1 s1 h' e cls vs I hx hE;have stk:(gN (pP P w) P w K mg base N qual scope f cd A outer s H E).stack=(gN (pP P w) P w K mg base N qual scope f cd A outer s H E).env::outer:=rfl;have FF:=I.stack;have fr:=I.stkFree;have keepFr:∀ b o,s.heap.get? b=some o->b∉jv outer->b∉jv (gN (pP P w) P w K mg base N qual scope f cd A outer s H E).stack:=λ b o q hb hm=>by
  rcases List.mem_cons.mp (I.stkSub b hm) with z | z
  . have l1:=Heap.lt_size q;have l2:b=s.heap.objs.size:=z;rw [l2] at l1;exact absurd l1 (Nat.lt_irrefl _)
  . exact hb z
 refine wpAny_leaves_madeW (base:=PySem.W.hideAll s1.heap (jv (gN (pP P w) P w K mg base N qual scope f cd A outer s H E).stack)) I.ok.frames rfl (λ b o q=>PySem.W.of_hideAll _ q) (PySem.W.funFrames_hide FF λ env he a ha=>qV he ha) hx λ h'' t x1 x2 x3 x4=>?_;have keep:∀ b o,s1.heap.get? b=some o->b∉jv (gN (pP P w) P w K mg base N qual scope f cd A outer s H E).stack->(PySem.W.hideAll s1.heap (jv (gN (pP P w) P w K mg base N qual scope f cd A outer s H E).stack)).get? b=some o:=λ b o q hb=>PySem.W.hideAll_get _ q hb;have slot:∀ b∈jv outer,∀ o,s.heap.get? b=some o->∃ sl,h''.get? b=some { o with slots:=sl }:=λ b hb o q=>by
  obtain ⟨sl,e1⟩:=I.base.slot b o q (I.ok.frf b hb) hb (show b∉([]:List Addr) by simp);obtain ⟨_,o2,e2,nf⟩:=FF.mem (show b∈jv (gN (pP P w) P w K mg base N qual scope f cd A outer s H E).stack from by
   obtain ⟨env,he,hf⟩:=List.mem_filterMap.mp hb;exact qV (List.mem_cons_of_mem _ he) hf)
  rw [e1] at e2;cases e2;obtain ⟨sl',e3⟩:=x4 b _ (hx.keeps _ _ e1) nf;exact ⟨sl',e3⟩
 refine ⟨e,cls,.ref t,H1,_,rfl,I.os,I.bare,x1,I.hok.hide fr,⟨λ b o q n hb _=>?_,λ b o q n hb _=>slot b hb o q,λ b o q n _=>I.base.free b o q n (show b∉([]:List Addr) by simp),λ b o q _=>?_,I.base.tups,I.base.frzs,I.base.tbls⟩,λ b o q n hb=>?_,λ b o q hb=>?_,I.hok.none_of hx.new,hE⟩
 . exact x1.1 _ _ (keep b o (I.base.keep b o q n hb (show b∉([]:List Addr) by simp)) (keepFr b o q hb))
 . by_cases hb:b∈jv outer
   . obtain ⟨sl,e1⟩:=slot b hb o q;exact ⟨_,e1⟩
   . obtain ⟨o',e1⟩:=I.base.there b o q (show b∉([]:List Addr) by simp);exact ⟨o',x1.1 _ _ (keep b o' e1 (keepFr b o q hb))⟩
 . exact keep b o (I.base.keep b o q n hb (show b∉([]:List Addr) by simp)) (keepFr b o q hb)
 . obtain ⟨o',e1⟩:=I.base.there b o q (show b∉([]:List Addr) by simp);exact ⟨o',keep b o' e1 (keepFr b o q hb)⟩
theorem Lu:gF (pP P w) (gN (pP P w) P w K mg base N qual scope f cd A outer s H E) E:=by
 intro pins σ H1 s1 e s2 I hq;obtain ⟨ea,cls,a0,H2,B,rfl,os,bare,fl,hokB,un,keepB,thereB,f1,q⟩:=hq;have keepFr:∀ b o,s.heap.get? b=some o->b∉jv outer->b∉jv (gN (pP P w) P w K mg base N qual scope f cd A outer s H E).stack:=λ b o q hb hm=>by
  rcases List.mem_cons.mp (I.stkSub b hm) with z | z
  . have l1:=Heap.lt_size q;have l2:b=s.heap.objs.size:=z;rw [l2] at l1;exact absurd l1 (Nat.lt_irrefl _)
  . exact hb z
 have upFr:∀ b∈jv outer,b∈jv (gN (pP P w) P w K mg base N qual scope f cd A outer s H E).stack:=λ b hb=>by
  obtain ⟨env,he,hf⟩:=List.mem_filterMap.mp hb;exact qV (List.mem_cons_of_mem _ he) hf
 refine wpAny_leaves_onW I.ok.frames rfl fl λ h' x1 x2=>?_;have no:∀ b:Addr,b∉([]:List Addr):=λ b=>by simp
 have slot:∀ b∈jv outer,∀ o,s.heap.get? b=some o->∃ sl,h'.get? b=some { o with slots:=sl }:=λ b hb o q=>by
  obtain ⟨sl,e1⟩:=I.base.slot b o q (I.ok.frf b hb) hb (no b);obtain ⟨sl2,e2⟩:=un.slot b _ e1 (I.stkFree b (upFr b hb)) (upFr b hb) (no b);obtain ⟨_,o3,e3,nf⟩:=fl.2.2.1.mem (show b∈jv (gN (pP P w) P w K mg base N qual scope f cd A outer s H E).stack from upFr b hb);rw [e2] at e3;cases e3;obtain ⟨sl',e4⟩:=x2 b _ e2 nf;exact ⟨sl',e4⟩
 refine ⟨ea,cls,a0,H2,B,rfl,os.trans I.os,bare,x1,hokB,⟨λ b o q n hb _=>?_,λ b o q n hb _=>slot b hb o q,λ b o q n _=>?_,λ b o q _=>?_,λ b xs e=>un.tups b xs (I.base.tups b xs e),λ b o xs e=>un.frzs b o xs (I.base.frzs b o xs e),λ b ps e=>?_⟩,λ b o q n hb=>?_,λ b o q hb=>?_,f1,q⟩
 . exact x1.1 _ _ (keepB b o (I.base.keep b o q n hb (no b)) (I.base.free b o q n (no b)) (keepFr b o q hb))
 . obtain ⟨o',e1⟩:=I.base.there b o q (no b);exact un.free b o' e1 (I.base.free b o q n (no b)) (no b)
 . by_cases hb:b∈jv outer
   . obtain ⟨sl,e1⟩:=slot b hb o q;exact ⟨_,e1⟩
   . obtain ⟨o',e1⟩:=I.base.there b o q (no b);obtain ⟨o2,e2⟩:=thereB b o' e1 (keepFr b o q hb);exact ⟨o2,x1.1 _ _ e2⟩
 . obtain ⟨m1,e1⟩:=I.base.tbls b ps e;obtain ⟨m2,e2⟩:=un.tbls b _ e1;exact ⟨m1++m2,by rw [e2,Array.append_assoc]⟩
 . exact keepB b o (I.base.keep b o q n hb (no b)) (I.base.free b o q n (no b)) (keepFr b o q hb)
 . obtain ⟨o',e1⟩:=I.base.there b o q (no b);exact thereB b o' e1 (keepFr b o q hb)
end
section
variable {X:Cx} {E:XK} {C:Addr} {x:Str} {np cpos pos:Pos} {e:Expr} {es:List Expr} {t:TA}
noncomputable def xD (C:Addr) (E:XK) (t:TA):TS:=λ _ σ H=>t σ H λ vs H1=>vs.length<=sizeLine/\E (.ref C) none H1
end
theorem aK.flown {X:Cx} {pins:List (Addr×Obj)} {σ:St} {H H2:Hp} {s s2:Shared} {h5 B:Heap} {ea:Addr} {cls a0:Value} (I:aK X pins σ H s) (os:s2.os=s.os) (bare:AllBare s2.gens) (un:Un (jv X.stack) [] H H2 s.heap s2.heap) (hokB:iK X.prog X.w H2 B)
 (keepB:∀ b o,s.heap.get? b=some o->H b=none->b∉jv X.stack->B.get? b=some o) (thereB:∀ b o,s.heap.get? b=some o->b∉jv X.stack->∃ o',B.get? b=some o')
 (fl0:s2.heap.FunFrames B X.stack) (fl:Heap.FlyingW B X.stack ea cls a0 h5) (up:s2.heap.UpToSlots h5):aK X pins σ H2 { s2 with heap:=h5 }:=by
 have no:∀ b:Addr,b∉([]:List Addr):=λ b=>by simp
 have slot:∀ b∈jv X.stack,∀ o,s.heap.get? b=some o->∃ sl,h5.get? b=some { o with slots:=sl }:=λ b hb o q=>by
  obtain ⟨sl,e1⟩:=un.slot b o q (I.stkFree b hb) hb (no b);obtain ⟨_,o3,e3,nf⟩:=fl0.mem hb;rw [e1] at e3;cases e3;obtain ⟨sl',e4⟩:=up b _ e1 nf;exact ⟨sl',e4⟩
 refine I.call' (ch:=[]) (show s2.os=s.os from os) ⟨λ b o q n hb _=>fl.1 _ _ (keepB b o q n hb),λ b o q n hb _=>slot b hb o q,λ b o q n _=>un.free b o q n (no b),λ b o q _=>?_,un.tups,un.frzs,un.tbls⟩ (hokB.kept λ b u q=>fl.1 b u q) bare λ b z=>absurd z (no b);by_cases hb:b∈jv X.stack
 . obtain ⟨sl,e1⟩:=slot b hb o q;exact ⟨_,e1⟩
 . obtain ⟨o',e1⟩:=thereB b o q hb;exact ⟨o',fl.1 _ _ e1⟩
noncomputable abbrev Cx.suite (X:Cx) (e:Addr):Cx:={ X with A:=X.A.mark (some (.ref e)),calm:=false,xe:=λ _ _=>False }
theorem aK.inSuite {X:Cx} {pins:List (Addr×Obj)} {σ:St} {H:Hp} {s:Shared} (I:aK X pins σ H s) (e:Addr):aK (X.suite e) pins σ H s:=
 ⟨⟨I.ok.mod,I.ok.kind,I.ok.glob,I.ok.blt,I.ok.above,I.ok.inj,I.ok.has,I.ok.cab,(λ h=>by cases h),I.ok.frames,I.ok.stk,I.ok.exf,I.ok.bs,I.ok.bsz,I.ok.noex,I.ok.exfs,I.ok.funs,I.ok.frf⟩,I.os,I.bare,I.base,I.loc,I.cell,I.free,I.freeC,I.pin,I.hok,I.len⟩
theorem aK.outSuite {X:Cx} {pins:List (Addr×Obj)} {σ:St} {H:Hp} {s:Shared} {e:Addr} (I:aK (X.suite e) pins σ H s) (ok:X.Ok):aK X pins σ H s:=
 ⟨ok,I.os,I.bare,I.base,I.loc,I.cell,I.free,I.freeC,I.pin,I.hok,I.len⟩
section
variable {K:Frag} {x D:Addr}
variable {prog:Program} {w:World} {A:Around} {E:Value->Shared->Prop} {s:Shared} {nm:Str}
end
section
variable {X:Cx}
end
section
variable {κ:Type} [DecidableEq κ]
noncomputable def jR (kvs:List (κ×V)) (k:κ):Option V:=(kvs.find? λ kv=>decide (kv.1=k)).map (·.2)
noncomputable def i7 (kvs:List (κ×V)) (k:κ) (v:V):List (κ×V):=
 if (kvs.any λ kv=>decide (kv.1=k))=true then kvs.map (λ kv=>if kv.1=k then (kv.1,v) else kv) else kvs++[(k,v)]
theorem kG {p:κ×V} {r:List (κ×V)} {k:κ} (e:p.1=k):jR (p::r) k=some p.2:=by simp [jR,List.find?_cons,e]
theorem jp {p:κ×V} {r:List (κ×V)} {k:κ} (e:¬ p.1=k):jR (p::r) k=jR r k:=by simp [jR,List.find?_cons,e]
theorem rj (k:κ):∀ kvs:List (κ×V),(kvs.any λ kv=>decide (kv.1=k))=(jR kvs k).isSome
 | []=>rfl
 | p::r=>by
  rw [List.any_cons];by_cases e:p.1=k
  . simp only [kG e,decide_eq_true e,Bool.true_or,Option.isSome_some]
  . rw [jp e,decide_eq_false e,Bool.false_or];exact rj k r
theorem j4 (kvs:List (κ×V)) (k:κ) (v:V):(i7 kvs k v).length<=kvs.length+1:=by
 unfold i7;split
 . rw [List.length_map];omega
 . rw [List.length_append,List.length_cons,List.length_nil];omega
theorem jc.isSome_eq {o:Option V} {u:Option Value} (r:jc o u):o.isSome=u.isSome:=by
 cases o with
 | none=>cases u with
  | none=>rfl
  | some _=>exact (show False from r).elim
 | some _=>cases u with
  | none=>exact (show False from r).elim
  | some _=>rfl
theorem jc.getD {o:Option V} {u:Option Value} {d:V} {d':Value} (r:jc o u) (rd:be d d'):be (o.getD d) (u.getD d'):=by
 cases o with
 | none=>cases u with
  | none=>exact rd
  | some _=>exact (show False from r).elim
 | some _=>cases u with
  | none=>exact (show False from r).elim
  | some _=>exact r
theorem KV.val {kvs:List (κ×V)} {vs:List (κ×Value)} (r:KV kvs vs) (k:κ):jc (jR kvs k) (valueAt vs k):=by
 unfold KV at r;induction r with
 | nil=>exact True.intro
 | @cons p q ps qs h t ih=>
  obtain ⟨h1,h2⟩:=h;by_cases e:p.1=k
  . have e':q.1=k:=h1.symm.trans e;have b:valueAt (q::qs) k=some q.2:=by simp [valueAt,List.find?_cons,e']
    rw [kG e,b];exact h2
  . have e':¬ q.1=k:=λ z=>e (h1.trans z);have b:valueAt (q::qs) k=valueAt qs k:=by simp [valueAt,List.find?_cons,e']
    rw [jp e,b];exact ih
theorem KV.any {kvs:List (κ×V)} {vs:List (κ×Value)} (r:KV kvs vs) (k:κ):(kvs.any λ kv=>decide (kv.1=k))=vs.any λ kv=>decide (kv.1=k):=by
 unfold KV at r;induction r with
 | nil=>rfl
 | cons h t ih=>rw [List.any_cons,List.any_cons,ih,h.1]
theorem KV.repl {kvs:List (κ×V)} {vs:List (κ×Value)} (r:KV kvs vs) (k:κ) {y:V} {u:Value} (ry:be y u):
 KV (kvs.map λ kv=>if kv.1=k then (kv.1,y) else kv) (vs.map λ kv=>if kv.1=k then (kv.1,u) else kv):=by
 unfold KV at r ⊢;induction r with
 | nil=>exact .nil
 | @cons p q ps qs h t ih=>
  rw [List.map_cons,List.map_cons];refine .cons ?_ ih;obtain ⟨h1,h2⟩:=h;by_cases e:p.1=k
  . rw [if_pos e,if_pos (h1.symm.trans e)];exact ⟨h1,ry⟩
  . rw [if_neg e,if_neg (λ z=>e (h1.trans z))];exact ⟨h1,h2⟩
theorem KV.put {kvs:List (κ×V)} {vs:List (κ×Value)} (r:KV kvs vs) (k:κ) {y:V} {u:Value} (ry:be y u):KV (i7 kvs k y) (stored vs k u):=by
 unfold i7 stored;rw [r.any k];by_cases e:(vs.any λ kv=>decide (kv.1=k))=true
 . rw [if_pos e,if_pos e];exact r.repl k ry
 . rw [if_neg e,if_neg e];exact Paired.snoc r ⟨rfl,ry⟩
theorem KV.length {kvs:List (κ×V)} {vs:List (κ×Value)} (r:KV kvs vs):kvs.length=vs.length:=Paired.length r
end
theorem p9 {P:Program} {w:World} {k:bh} {u:Value} (r:be (kV k) u):(aS P w).is k u=true:=by
 cases k with
 | inl i=>obtain ⟨t,e⟩:=(show ∃ t,u=Value.int i t from r);subst e;exact rN P w i t
 | inr x=>obtain ⟨t,e⟩:=(show ∃ t,u=Value.str x t from r);subst e;exact sR P w x t
theorem pI {P:Program} {w:World}:∀ {ks:List bh} {us:List Value},bn (ks.map kV) us->ItemsAre (aS P w) ks us
 | [],_,r=>by rw [List.map_nil] at r;cases r;exact .nil
 | k::ks,_,r=>by
  rw [List.map_cons] at r;cases r with
  | cons h t=>exact .cons (p9 h) (pI t)
noncomputable abbrev KT (H:Hp):List (List bh×V)->List (List bh×Addr×Value)->Prop:=Paired λ p q=>p.1=q.1/\H q.2.1=some (.tup (p.1.map kV))/\be p.2 q.2.2
theorem KT.val {H:Hp} {kvs:List (List bh×V)} {xs:List (List bh×Addr×Value)} (r:KT H kvs xs) (k:List bh):jc (jR kvs k) ((atKey xs k).map (·.2)):=by
 induction r with
 | nil=>exact True.intro
 | @cons p q ps qs h t ih=>
  obtain ⟨h1,_,h2⟩:=h;by_cases e:p.1=k
  . have e':q.1=k:=h1.symm.trans e;have b:atKey (q::qs) k=some q.2:=by simp [atKey,List.find?_cons,e']
    rw [kG e,b];exact h2
  . have e':¬ q.1=k:=λ z=>e (h1.trans z);have b:atKey (q::qs) k=atKey qs k:=by simp [atKey,List.find?_cons,e']
    rw [jp e,b];exact ih
theorem KT.repl {H:Hp} {kvs:List (List bh×V)} {xs:List (List bh×Addr×Value)} (r:KT H kvs xs) (k:List bh) {y:V} {u:Value} (ry:be y u):
 KT H (kvs.map λ kv=>if kv.1=k then (kv.1,y) else kv) (xs.map (putAt k u)):=by
 induction r with
 | nil=>exact .nil
 | @cons p q ps qs h t ih=>
  rw [List.map_cons,List.map_cons];refine .cons ?_ ih;obtain ⟨h1,h2,h3⟩:=h;unfold putAt;by_cases e:p.1=k
  . rw [if_pos e,if_pos (h1.symm.trans e)];exact ⟨h1,h2,ry⟩
  . rw [if_neg e,if_neg (λ z=>e (h1.trans z))];exact ⟨h1,h2,h3⟩
theorem KT.put {H:Hp} {kvs:List (List bh×V)} {xs:List (List bh×Addr×Value)} (r:KT H kvs xs) (k:List bh) {b:Addr} {y:V} {u:Value} (hb:H b=some (.tup (k.map kV))) (ry:be y u):
 KT H (i7 kvs k y) (storedH xs k b u):=by
 have e:(kvs.any λ kv=>decide (kv.1=k))=(atKey xs k).isSome:=by
  rw [rj,(r.val k).isSome_eq,Option.isSome_map]
 unfold i7 storedH;rw [e];by_cases q:(atKey xs k).isSome=true
 . rw [if_pos q,if_pos q];exact r.repl k ry
 . rw [if_neg q,if_neg q];exact Paired.snoc r ⟨rfl,hb,ry⟩
theorem KT.keeps {H H':Hp} {kvs:List (List bh×V)} {xs:List (List bh×Addr×Value)} (r:KT H kvs xs) (ht:∀ b ys,H b=some (.tup ys)->H' b=some (.tup ys)):KT H' kvs xs:=
 Paired.mapP r λ _ _ z=>⟨z.1,ht _ _ z.2.1,z.2.2⟩
section
variable {P:Program} {w:World} {H:Hp} {h:Heap} {a:Addr}
theorem Ci {u:HO} (ok:iK P w H h) (e:Rd H a u):cO P w H h a u:=e.ok ok
theorem rS {kvs:List (bh×V)} (ok:iK P w H h) (e:Rd H a (.dK kvs)):kvs.length<=sizeLine/\(a==sysModules)=false/\∃ vs,KV kvs vs/\h.DictOf (aS P w) a vs:=
 by obtain ⟨z,y,vs,r,x⟩:=(show cO P w H h a (.dK kvs) from Ci ok e);exact ⟨z,y,vs,r,x.of⟩
theorem Jw {kvs:List (bh×V)} (ok:iK P w H h) (e:H a=some (.dK kvs)):∃ vs,KV kvs vs/\fQ P w h a vs:=by
 obtain ⟨_,_,vs,r,x⟩:=(show cO P w H h a (.dK kvs) from ok a _ e);exact ⟨vs,r,x⟩
theorem GC {kvs:List (bh×V)} (ok:iK P w H h) (e:H a=some (.dK kvs)):kvs.length<=sizeLine/\(a==sysModules)=false/\∃ vs,KV kvs vs/\h.DictOf (aS P w) a vs:=rS ok (.inl e)
theorem qG {ks:List bh} (ok:iK P w H h) (e:H a=some (.tup (ks.map kV))):(tupleKind (aS P w)).is h ks a:=by
 obtain ⟨_,its,r,o,h1,h2,n,h3⟩:=(show cO P w H h a (.tup (ks.map kV)) from ok a _ e)
 exact ⟨o,its.toArray,n,h1,h2,h3,by simpa using pI r⟩
theorem rH {kvs:List (List bh×V)} (ok:iK P w H h) (e:Rd H a (.dT kvs)):kvs.length<=sizeLine/\(a==sysModules)=false/\
 ∃ xs,KT H kvs xs/\h.DictOfH (tupleKind (aS P w)) a xs:=by
 obtain ⟨z,y,xs,r,o,es,ep,h1,h2,h3,h4,h5⟩:=(show cO P w H h a (.dT kvs) from Ci ok e)
 refine ⟨z,y,xs,r,o,es,ep,h1,h2,h3,h4,λ x hx=>?_,h5⟩;have all:∀ {l:List (List bh×V)} {m:List (List bh×Addr×Value)},KT H l m->∀ x∈m,(tupleKind (aS P w)).is h x.1 x.2.1:=by
  intro l m q;induction q with
  | nil=>intro x hx;exact nomatch hx
  | @cons p q ps qs hq t ih=>
   intro x hx;rcases List.mem_cons.mp hx with e | hx
   . subst e;exact qG ok (by rw [<-hq.1];exact hq.2.1)
   . exact ih x hx
 exact all r x hx
theorem HM {kvs:List (List bh×V)} (ok:iK P w H h) (e:H a=some (.dT kvs)):kvs.length<=sizeLine/\(a==sysModules)=false/\
 ∃ xs,KT H kvs xs/\h.DictOfH (tupleKind (aS P w)) a xs:=rH ok (.inl e)
end
noncomputable def mR (H:Hp) (a:Addr) (y:V) (r:Option V):Prop:=
 (∃ kvs k,Rd H a (.dK kvs)/\y=kV k/\r=jR kvs k)∨∃ kvs k b,Rd H a (.dT kvs)/\y=.ref b/\H b=some (.tup (k.map kV))/\r=jR kvs k
noncomputable def pX (H:Hp) (a:Addr) (y v:V) (H':Hp):Prop:=
 (∃ kvs k,H a=some (.dK kvs)/\y=kV k/\kvs.length<sizeLine/\H'=cR H a (.dK (i7 kvs k v)))∨
 ∃ kvs k b,H a=some (.dT kvs)/\y=.ref b/\H b=some (.tup (k.map kV))/\kvs.length<sizeLine/\H'=cR H a (.dT (i7 kvs k v))
theorem mR.k {H:Hp} {a:Addr} {kvs:List (bh×V)} {k:bh} (e:H a=some (.dK kvs)):mR H a (kV k) (jR kvs k):=.inl ⟨kvs,k,.inl e,rfl,rfl⟩
theorem mR.t {H:Hp} {a b:Addr} {kvs:List (List bh×V)} {k:List bh} (e:H a=some (.dT kvs)) (eb:H b=some (.tup (k.map kV))):mR H a (.ref b) (jR kvs k):=.inr ⟨kvs,k,b,.inl e,rfl,eb,rfl⟩
theorem pX.k {H:Hp} {a:Addr} {kvs:List (bh×V)} {k:bh} {v:V} (e:H a=some (.dK kvs)) (hl:kvs.length<sizeLine):pX H a (kV k) v (cR H a (.dK (i7 kvs k v))):=.inl ⟨kvs,k,e,rfl,hl,rfl⟩
theorem pX.t {H:Hp} {a b:Addr} {kvs:List (List bh×V)} {k:List bh} {v:V} (e:H a=some (.dT kvs)) (eb:H b=some (.tup (k.map kV))) (hl:kvs.length<sizeLine):
 pX H a (.ref b) v (cR H a (.dT (i7 kvs k v))):=.inr ⟨kvs,k,b,e,rfl,eb,hl,rfl⟩
section
variable {X:Cx} {pins:List (Addr×Obj)} {σ:St} {H:Hp} {s:Shared} {a:Addr} {y v:V} {u r:Value} {o:Option V} {A:Around} {E:Value->Shared->Prop}
theorem aK.big (I:aK X pins σ H s):sysModules<s.heap.objs.size:=by
 have h:mainGlobals<s.heap.objs.size:=(I.mod.glob.keeps I.bk).lt;exact Nat.lt_trans (by decide) h
theorem wn {Q:Value->Shared->Prop} (hu:A.units+1<cLine) (I:aK X pins σ H s) (g:mR H a y (some v)) (ry:be y u) (h:∀ w' s',aK X pins σ H s'->be v w'->Q w' s'):
 wpAny (model X.prog X.w) A (getItem (.ref a) u) Q E s:=by
 rcases g with ⟨kvs,k,e,ey,l⟩ | ⟨kvs,k,b,e,ey,eb,l⟩
 . subst ey;obtain ⟨z,hd,vs,rel,dd⟩:=rS I.hok e;obtain ⟨w',hw,rw'⟩:=jc.some_of (v:=v) (o:=valueAt vs k) (by rw [l];exact rel.val k);exact wpAny_getItem_of (p9 ry) dd.mapOf hw (h w' _ (I.tok _) rw')
 . subst ey;cases (show u=Value.ref b from ry);obtain ⟨z,hd,xs,rel,dd⟩:=rH I.hok e;obtain ⟨w',hw,rw'⟩:=jc.some_of (v:=v) (o:=(atKey xs k).map (·.2)) (by rw [l];exact rel.val k);obtain ⟨p,hp,hp2⟩:=oM hw
   refine wpAny_getItem_heap (tupleKind_room_in1 hu) (qG I.hok eb) dd hp ?_;rw [hp2];exact h w' _ (I.tok _) rw'
theorem qQ {h':Heap} {t':Nat} {ob:HO} (I:aK X pins σ H s) (mu:GO (H a)) (hs:Heap.SameBut a s.heap h') (he:∃ q,h'.get? a=some q) (new:cO X.prog X.w (cR H a ob) h' a ob):
 aK X pins σ (cR H a ob) { s with heap:=h',toks:=t' }:=
 I.write (x:=a) (e:=a) mu (.inl rfl) (λ b q hb z=>(hs.2 b hb).trans z) he new
theorem uf {P:Program} {w:World} {H':Hp} {h':Heap} {kvs:List (bh×V)} {vs:List (bh×Value)} (z:kvs.length<=sizeLine) (hd:(a==sysModules)=false) (rel:KV kvs vs) (dd:fQ P w h' a vs):
 cO P w H' h' a (.dK kvs):=⟨z,hd,vs,rel,dd⟩
theorem Go {P:Program} {w:World} {d:Addr} {kvs:List (bh×Value)} {k:bh} {key v:Value} {Q:Unit->Shared->Prop} (hkey:(aS P w).is k key=true) (hm:fQ P w s.heap d kvs) (hsz:kvs.length<=sizeLine)
 (hQ:∀ h',fQ P w h' d (stored kvs k v)->Heap.SameBut d s.heap h'->Q () { s with heap:=h',toks:=s.toks+1 }):wpAny (model P w) A (setItem (.ref d) key v) Q E s:=by
 have T:=hm.of.typeIs;obtain ⟨o,es,ep,ho,hc,hd,he,hk,hp,hn⟩:=hm;have hes:es.size<=sizeLine:=by have e1:=hp.length;rw [Array.length_toList] at e1;omega
 unfold setItem;try with_reducible refine wpAny_holding ?_
 refine wpAny_bind (wpAny_sequenceKey T (by decide) (wpAny_bind (wpAny_callSpecial?_slot (name:=Str.ofString "__setitem__") T F.slot_dict_setitem (wpAny_call_entry F.slot_dict_setitem T F.entry_dict_setitem (wpAny_bind (wpAny_notOrdered_dict T (show wpAny _ _ (dictSet d key v >>= _) _ _ s from wpAny_bind ?_))) (args_dict_setitem _ _ _)))));unfold dictSet;try with_reducible refine wpAny_holding ?_
 refine wpAny_bind ((aS P w).pyHash hkey ?_);unfold dictSetHashed;try with_reducible refine wpAny_holding ?_
 refine wpAny_bind (wpAny_dictFind_of (s:={ s with toks:=s.toks+1 }) hkey ho hd hk ?_);have ix:(es.findIdx? λ e=>(aS P w).is k e.key)=kvs.findIdx? λ kv=>decide (kv.1=k):=by
  rw [<-hp.findIdx k];obtain ⟨l⟩:=es;simp
 cases hi:es.findIdx? λ e=>(aS P w).is k e.key with
 | some i=>
  have an:=any_of_findIdx_some (ix▸hi);have hl:(es.toList.findIdx? λ e=>(aS P w).is k e.key)=some i:=by rw [<-hi];obtain ⟨l⟩:=es;simp
  have hm:=hp.modify hn hl v;refine wpAny_bind (wpAny_rule (wpAny_bind (wpAny_updateDict (s:={ s with toks:=s.toks+1 }) ho hd (wpAny_point (wpAny_pure ⟨.none,rfl,wpAny_pure (hQ _ ?_ (Heap.SameBut.update ..))⟩)))));refine ⟨_,_,ep,Heap.get?_update_self _ ho (Obj.isFreed_of_dict (Obj.data_mapDict hd _)),hc.mapDict _,Obj.data_mapDict hd _,by simpa using he,hk.modify _ _,?_,?_⟩
  . rw [stored,if_pos an];obtain ⟨l⟩:=es;simpa using hm
  . rw [stored,if_pos an,keys_map_store];exact hn
 | none=>
  have nm:k∉kvs.map (·.1):=not_mem_of_findIdx_none (ix▸hi);have na:¬ (kvs.any λ kv=>decide (kv.1=k))=true:=λ z=>by
   obtain ⟨kv,h1,h2⟩:=List.any_eq_true.mp z;exact nm (List.mem_map.mpr ⟨kv,h1,of_decide_eq_true h2⟩)
  have ha:=hp.append hkey ((aS P w).hash k) v;refine wpAny_bind (wpAny_rule (wpAny_updateDictKeys (hz:=hes) (s:={ s with toks:=s.toks+1 }) ho hd (wpAny_pure ⟨.none,rfl,wpAny_pure (hQ _ ?_ (Heap.SameBut.update ..))⟩)));refine ⟨_,_,ep+1,Heap.get?_update_self _ ho (Obj.isFreed_of_dict (Obj.data_mapDictKeys hd _)),hc.mapDictKeys _,Obj.data_mapDictKeys hd _,by simp [he],hk.push hkey _,?_,?_⟩
  . rw [stored,if_neg na];obtain ⟨l⟩:=es;simpa using ha
  . rw [stored,if_neg na,List.map_append,List.nodup_append];exact ⟨hn,by simp,λ x hx y hy z=>nm (by simp at hy;rw [<-hy,<-z];exact hx)⟩
theorem vL {H':Hp} {Q:Unit->Shared->Prop} (hu:A.units+1<cLine) (I:aK X pins σ H s) (g:pX H a y v H') (ry:be y u) (rv:be v r) (h:∀ s',aK X pins σ H' s'->Q () s'):
 wpAny (model X.prog X.w) A (setItem (.ref a) u r) Q E s:=by
 rcases g with ⟨kvs,k,e,ey,l,eH⟩ | ⟨kvs,k,b,e,ey,eb,l,eH⟩
 . subst ey eH;obtain ⟨z,hd,_⟩:=GC I.hok e;obtain ⟨vs,rel,dd⟩:=Jw I.hok e;have hz:vs.length<=sizeLine:=by rw [<-rel.length];exact z
   have hl:(i7 kvs k v).length<=sizeLine:=by have:=j4 kvs k v;omega
   refine Go (p9 ry) dd hz λ h' dd' hs=>h _ ?_;have he:∃ q,h'.get? a=some q:=let ⟨q,_,_,hq,_⟩:=dd';⟨q,hq⟩;exact qQ I (by rw [e];exact True.intro) hs he (uf hl hd (rel.put k rv) dd')
 . subst ey eH;cases (show u=Value.ref b from ry);obtain ⟨z,hd,xs,rel,dd⟩:=HM I.hok e;have hz:xs.length<=sizeLine:=by rw [<-Paired.length rel];exact z
   have hl:(i7 kvs k v).length<=sizeLine:=by have:=j4 kvs k v;omega
   refine wpAny_setItem_heap (hsz:=hz) (tupleKind_room_in1 hu) (qG I.hok eb) dd λ h' dd' hs=>h _ ?_;obtain ⟨q,es,ep,hq,h2,h3,h4,_,h5⟩:=dd';refine qQ I (by rw [e];exact True.intro) hs ⟨q,hq⟩ ⟨hl,hd,_,(rel.put k eb rv).keeps λ c ys ec=>?_,q,es,ep,hq,h2,h3,h4,h5⟩;rw [aL (Gw ec e (λ z=>nomatch z))];exact ec
end
section
variable {X:Cx} {pins:List (Addr×Obj)} {σ:St} {H:Hp} {s:Shared} {a:Addr} {kvs:List (bh×V)} {k:bh} {u:Value} {A:Around} {E:Value->Shared->Prop}
end
noncomputable def FS (i:Expr):Prop:=∀ ov iv,subscripted i false ov iv=operate [ov,iv] (getItem ov iv)
theorem Br {prog:Program} {w:World} {A:Around} {E:Value->Shared->Prop} {s:Shared} {env:Env} {value slice:Expr} {pos:Pos} {T id:String} {Q:Value->Shared->Prop}
 (hl:typeLookup (.type T) "__getitem__" = pure (some (.builtin id))) (hs:FS slice)
 (h:wpAny (model prog w) A (eval value env) (λ o s₁=>wpAny (model prog w) A (eval slice env) (λ i s₂=>s₂.TypeIs o T/\wpAny (model prog w) A (getItem o i) Q E s₂) E s₁) E s):
 wpAny (model prog w) A (eval (.Subscript value slice pos) env) Q E s:=by
 refine Subscript_ (wpAny_mono h (λ o s₁ h₁=>wpAny_mono h₁ (λ i s₂ h₂=>?_) λ _ _ x=>x) λ _ _ x=>x);obtain ⟨hT,h₂⟩:=h₂;unfold subscriptTail;refine wpAny_bind ?_;rw [getitemInPython_of_ne hT.not_modules];refine wpAny_bind (wpAny_specialOf hT hl ?_);have fin:wpAny (model prog w) A (subscripted slice false o i) (λ r s₃=>wpAny (model prog w) A (letTemporaryGo value o r >>= λ _=>pure r) Q E s₃) E s₂:=by
  rw [hs o i];exact wpAny_operating (wpAny_mono h₂ (λ r s₃ h₃=>wpAny_bind (wpAny_letTemporaryGo (wpAny_pure h₃))) λ _ _ x=>x)
 first
  | exact wpAny_pure (wpAny_bind fin)
  | exact wpAny_bind (wpAny_pure (wpAny_bind fin))
  | exact wpAny_bind fin
theorem sd {X:Cx} {pins:List (Addr×Obj)} {σ:St} {H:Hp} {s:Shared} {a:Addr} {y:V} {o:Option V} (I:aK X pins σ H s) (g:mR H a y o):s.TypeIs (.ref a) "dict" := by
 rcases g with ⟨kvs,k,e,_,_⟩ | ⟨kvs,k,b,e,_,_,_⟩
 . obtain ⟨_,_,vs,_,dd⟩:=rS I.hok e;exact dd.typeIs
 . obtain ⟨_,_,xs,_,dd⟩:=rH I.hok e;exact dd.typeIs
noncomputable def BW (td ty:TE):TE:=λ σ H Q=>td σ H λ x H1=>ty σ H1 λ y H2=>∃ a v,x=.ref a/\mR H2 a y (some v)/\Q v H2
noncomputable def BX (td ty tv:TE):TS:=λ D σ H=>tv σ H λ v H1=>td σ H1 λ x H2=>ty σ H2 λ y H3=>∃ a H4,x=.ref a/\pX H3 a y v H4/\D.nx σ H4
section
variable {X:Cx} {o i e value:Expr} {pos pos' tpos:Pos} {td ty tv:TE}
theorem Jc (hu:X.A.units+1<cLine) (ho:PE X o td) (hi:PE X i ty) (hs:FS i):PE X (.Subscript o i pos) (BW td ty):=by
 intro pins s σ H Q I h;refine Br PySem.F.slot_dict_getitem.lookup hs (cc (ho pins s σ H _ I h) λ u s1 hy0=>?_);obtain ⟨x,H1,I1,rx,q1⟩:=hy0;refine cc (hi pins s1 σ H1 _ I1 q1) λ iv s2 hq0=>?_;obtain ⟨y,H2,I2,ry,a,v,ex,g,q2⟩:=hq0;subst ex;obtain rfl:u=Value.ref a:=rx;exact ⟨sd I2 g,wn hu I2 g ry λ w' s3 I3 rw'=>⟨v,H2,I3,rw',q2⟩⟩
theorem Ih (hu:X.A.units+1<cLine) (ho:PE X o td) (hi:PE X i ty) (hv:PE X value tv) (hs:swapsWith value (some (.Subscript o i pos')) pos.line X.env=pure false):
 PS X (.Assign [.Subscript o i pos'] value pos) (BX td ty tv):=by
 intro pins s σ H D I h;refine wpAny_Assign_Subscript (cc (hv pins s σ H _ I h) λ r s1 hy0=>?_) hs;obtain ⟨v,H1,I1,rv,q1⟩:=hy0;refine cc (ho pins s1 σ H1 _ I1 q1) λ u s2 hy0=>?_;obtain ⟨x,H2,I2,rx,q2⟩:=hy0;refine cc (hi pins s2 σ H2 _ I2 q2) λ iv s3 hq0=>?_;obtain ⟨y,H3,I3,ry,a,H4,ex,g,q3⟩:=hq0;subst ex;obtain rfl:u=Value.ref a:=rx;exact vL hu I3 g ry rv λ s4 I4=>⟨σ,H4,I4,q3⟩
end
theorem rW {P:Program} {w:World} {H:Hp} (h:Heap) (hb:sysModules<h.objs.size):cO P w H (h.push { cls:=.type "dict", data:=.dict #[] }) h.objs.size (.dK []):=
 ⟨Nat.zero_le _,beq_eq_false_iff_ne.mpr (Ne.symm (Nat.ne_of_lt hb)),[],.nil,_,#[],0,Heap.get?_push_size _ rfl,⟨rfl,rfl,rfl⟩,rfl,rfl,λ _ he=>by simp at he,.nil,List.nodup_nil⟩
noncomputable def xg:TE:=λ _ H Q=>∀ p,H p=none->Q (.ref p) (cR H p (.dK []))
section
variable {X:Cx} {pos:Pos}
theorem HY:PE X (.Dict [] [] pos) xg:=λ pins s σ H Q I h=>
 wpAny_Dict_empty ⟨.ref s.heap.objs.size,_,I.laid (a:=s.heap.objs.size) (o:=.dK []) (t':=s.toks) (λ _ _ q=>Heap.get?_push_of_some _ q) (Nat.le_refl _) (rW s.heap I.big),rfl,h _ (I.hok.fresh (Nat.le_refl _))⟩
end
noncomputable def qg:List (TE×TE)->St->Hp->(List (V×V)->Hp->Prop)->Prop
 | [],_,H,Q=>Q [] H
 | (tk,tv)::r,σ,H,Q=>tk σ H λ x H1=>tv σ H1 λ y H2=>qg r σ H2 λ ps H3=>Q ((x,y)::ps) H3
noncomputable abbrev VV:List (V×V)->List (Value×Value)->Prop:=Paired λ p q=>be p.1 q.1/\be p.2 q.2
noncomputable def HG (X:Cx) (pos:Pos) (keys:List (Option Expr)) (values:List Expr) (trs:List (TE×TE)):Prop:=
 ∀ (pins:List (Addr×Obj)) (s:Shared) (σ:St) (H:Hp) (Q:List (V×V)->Hp->Prop),aK X pins σ H s->qg trs σ H Q->
  wpAny (model X.prog X.w) X.A (evalPairs (pairTrees keys values X.env pos)) (λ vs s'=>∃ ps H',aK X pins σ H' s'/\VV ps vs/\Q ps H') X.xe s
theorem Iq {X:Cx} {pos:Pos}:HG X pos [] [] []:=λ pins s σ H Q I h=>pairTrees_nil_walk ⟨[],H,I,.nil,h⟩
theorem GV {X:Cx} {pos:Pos} {k v:Expr} {ks:List (Option Expr)} {vs:List Expr} {tk tv:TE} {trs:List (TE×TE)} (hk:PE X k tk) (hv:PE X v tv) (hr:HG X pos ks vs trs):
 HG X pos (some k::ks) (v::vs) ((tk,tv)::trs):=λ pins s σ H Q I h=>
 pairTrees_cons_walk (cc (hk pins s σ H _ I h) λ u s1 ⟨x,H1,I1,rx,q1⟩=>cc (hv pins s1 σ H1 _ I1 q1) λ w2 s2 ⟨y,H2,I2,ry,q2⟩=>
  cc (hr pins s2 σ H2 _ I2 q2) λ ws s3 ⟨ps,H3,I3,rel,q3⟩=>⟨(x,y)::ps,H3,I3,.cons ⟨rx,ry⟩ rel,q3⟩)
noncomputable def fw (kvs more:List (bh×V)):List (bh×V):=more.foldl (λ acc kv=>i7 acc kv.1 kv.2) kvs
theorem KV.merge:∀ {more:List (bh×V)} {rs:List (bh×Value)} {kvs:List (bh×V)} {vs:List (bh×Value)},KV more rs->KV kvs vs->KV (fw kvs more) (merged vs rs):=by
 intro more rs kvs vs r;unfold KV at r;induction r generalizing kvs vs with
 | nil=>intro q;exact q
 | @cons p q ps qs h t ih=>
  intro r0;have e:KV (i7 kvs p.1 p.2) (stored vs q.1 q.2):=by
   have:=r0.put p.1 h.2;rw [<-h.1];exact this
  exact ih e
theorem hV:∀ (more kvs:List (bh×V)),(fw kvs more).length<=kvs.length+more.length
 | [],kvs=>by show kvs.length<=kvs.length+0;omega
 | p::r,kvs=>by
  have h1:=hV r (i7 kvs p.1 p.2);have h2:=j4 kvs p.1 p.2;show (fw (i7 kvs p.1 p.2) r).length<=_;rw [List.length_cons];omega
theorem ni {P:Program} {w:World}:∀ {kvs:List (bh×V)} {ws:List (Value×Value)},VV (kvs.map λ kv=>(kV kv.1,kv.2)) ws->∃ rs,Carries (aS P w) ws rs/\KV kvs rs
 | [],_,r=>by rw [List.map_nil] at r;cases r;exact ⟨[],True.intro,.nil⟩
 | p::kvs,_,r=>by
  rw [List.map_cons] at r;cases r with
  | @cons a b as bs h t=>
   obtain ⟨rs,c,q⟩:=ni (P:=P) (w:=w) t;obtain ⟨b1,b2⟩:=b;exact ⟨(p.1,b2)::rs,⟨p9 h.1,rfl,c⟩,.cons ⟨rfl,h.2⟩ q⟩
noncomputable def Cm (trs:List (TE×TE)):TE:=λ σ H Q=>∀ p,H p=none->qg trs σ (cR H p (.dK [])) λ ps H2=>H2 p=some (.dK [])/\∃ kvs:List (bh×V),ps=kvs.map (λ kv=>(kV kv.1,kv.2))/\kvs.length<=15/\Q (.ref p) (cR H2 p (.dK (fw [] kvs)))
structure M2 (X:Cx) (o:Expr) (m:Str) (apos:Pos) (e f:Expr) (cpos:Pos):Prop where
 base:attributeBase o m X.env (eval o X.env)=eval o X.env
 few:((backTo cpos (starEach [e,f] X.env)).all (λ x=>!x.1)&&(backToKw cpos (keywordEach [] X.env)).all (λ x=>x.1.isSome)
  && decide (([e,f]:List Expr).length+([]:List Keyword).length+(if ([]:List Keyword).isEmpty then 0 else 1)<30))=true
 line:(apos.endLine==cpos.line)=true
 trees:backTo cpos (starEach [e,f] X.env)=[(false,eval e X.env),(false,eval f X.env)]
noncomputable def KF (H:Hp) (a:Addr):Prop:=(∃ kvs,Rd H a (.dK kvs))∨∃ kvs,Rd H a (.dT kvs)
theorem DU {X:Cx} {pins:List (Addr×Obj)} {σ:St} {H:Hp} {s:Shared} {a:Addr} (I:aK X pins σ H s) (d:KF H a):
 s.TypeIs (.ref a) "dict" /\ (∀ b,Value.ref a=.ref b->∃ ob,s.heap.get? b=some ob/\ob.dict=none)/\(a==sysModules)=false:=by
 rcases d with ⟨kvs,e⟩ | ⟨kvs,e⟩
 . obtain ⟨_,hd,vs,_,dd⟩:=rS I.hok e;refine ⟨dd.typeIs,λ b q=>?_,hd⟩;cases q;obtain ⟨ob,_,_,h1,h2,_⟩:=dd;exact ⟨ob,h1,h2.2.1⟩
 . obtain ⟨_,hd,xs,_,dd⟩:=rH I.hok e;refine ⟨dd.typeIs,λ b q=>?_,hd⟩;cases q;obtain ⟨ob,_,_,h1,h2,_⟩:=dd;exact ⟨ob,h1,h2.2.1⟩
section
variable {X:Cx} {pins:List (Addr×Obj)} {σ:St} {H:Hp} {s:Shared} {a:Addr} {y d:V} {u r:Value} {o:Option V} {A:Around} {E:Value->Shared->Prop}
theorem De {Q:Value->Shared->Prop} (hu:A.units+1<cLine) (I:aK X pins σ H s) (g:mR H a y o) (ry:be y u) (rd:be d r) (h:∀ w' s',aK X pins σ H s'->be (o.getD d) w'->Q w' s'):
 wpAny (model X.prog X.w) A (call (.builtin "dict.get") [.ref a,u,r]) Q E s:=by
 rcases g with ⟨kvs,k,e,ey,l⟩ | ⟨kvs,k,b,e,ey,eb,l⟩
 . subst ey;obtain ⟨z,hd,vs,rel,dd⟩:=rS I.hok e;refine call_meetsIn PySem.F.slot_dict_get dd.typeIs PySem.F.entry_dict_get (PySem.F.args_dict_get_3 _ _ _) (meets_dict_get_default (aS X.prog X.w) a (p9 ry) hd r) ⟨_,dd.mapOf,h _ _ (I.tok _) ?_⟩;rw [l];exact (rel.val k).getD rd
 . subst ey;cases (show u=Value.ref b from ry);obtain ⟨z,hd,xs,rel,dd⟩:=rH I.hok e;refine call_meetsIn PySem.F.slot_dict_get dd.typeIs PySem.F.entry_dict_get (PySem.F.args_dict_get_3 _ _ _) (meetsH_dict_get_default (tupleKind (aS X.prog X.w)) a b hd r) ⟨tupleKind_room_in1 hu,k,xs,qG I.hok eb,dd,h _ _ (I.tok _) ?_⟩;rw [l];exact (rel.val k).getD rd
end
noncomputable def yi (td ty tx:TE):TE:=λ σ H Q=>td σ H λ x H1=>∃ a,x=.ref a/\KF H1 a/\ty σ H1 λ y H2=>tx σ H2 λ z H3=>∃ o,mR H3 a y o/\Q (o.getD z) H3
section
variable {X:Cx} {o e f:Expr} {apos cpos:Pos} {td ty tx:TE}
theorem Ha (hu:X.A.units+1<cLine) (ho:PE X o td) (he:PE X e ty) (hf:PE X f tx) (m:M2 X o "get" apos e f cpos):PE X (.Call (.Attribute o "get" apos) [e,f] [] cpos) (yi td ty tx):=by
 intro pins s σ H Q I h;refine wpAny_Call_method m.base m.few m.line PySem.F.plainAttrs_dict PySem.F.slot_dict_get PySem.F.type_dict_get (cc (ho pins s σ H _ I h) λ u s1 hq0=>?_);obtain ⟨x,H1,I1,rx,a,ex,d,q1⟩:=hq0;subst ex;obtain rfl:u=Value.ref a:=rx;obtain ⟨t1,t2,_⟩:=DU I1 d;refine ⟨t1,t2,?_⟩;rw [m.trees];refine Calls.callWith_builtin rfl (Calls.evalArgs_plain (Calls.spliced_cons (cc (he pins s1 σ H1 _ I1 q1) λ iv s2 hy0=>?_)));obtain ⟨y,H2,I2,ry,q2⟩:=hy0;refine
  Calls.spliced_cons (cc (hf pins s2 σ H2 _ I2 q2) λ fv s3 hy0=>?_)
 obtain ⟨z,H3,I3,rz,ov,g,q3⟩:=hy0;refine Calls.spliced_nil ?_;exact De hu I3 g ry rz λ w' s4 I4 rw'=>⟨_,H3,I4,rw',q3⟩
end
section
variable {X:Cx} {pins:List (Addr×Obj)} {σ:St} {H:Hp} {s:Shared} {a:Addr} {kvs:List (bh×V)} {A:Around} {E:Value->Shared->Prop}
end
section
variable {X:Cx} {pins:List (Addr×Obj)} {σ:St} {H:Hp} {s:Shared} {a:Addr} {y:V} {u:Value} {A:Around} {E:Value->Shared->Prop}
end
end L2
namespace L2
open PySem PySem.Spec PyProof.Rows
open PySem.W (Frag)
section
variable {X:Cx}
end
section
variable {κ:Type} [DecidableEq κ]
end
section
variable {z:Str} {wi:TI} {g:TG} {tb:TS} {D:jb} {σ:St} {H H1:Hp} {ix:List (Option Nat)} {tc:TT} {te:TE} {Q:VK}
end
section
variable {X:Cx}
end
section
variable {X:Cx}
noncomputable def Cq (i j:Int):Prop:=i.natAbs<2^512/\j.natAbs<2^512
theorem B8:ig X (binaryOp .Mult) (rI Cq λ i j=>.int (i*j)):=IL λ _ _ _ _ _ _ _ hc q=>mul_int q (IntMulOk.of_le (PySem.intBits_le_iff.mpr hc.1) (PySem.intBits_le_iff.mpr hc.2) (by decide))
noncomputable def BU:R2:=λ x y H Q=>∃ z n,x=.str z/\y=.int n/\0<=n/\n<=1000/\z.length<=1000/\Q (.str (Txt.mul z n)) H
theorem IV:ig X (binaryOp .Mult) BU:=by
 intro pins s σ H x y v u Q I rx ry h;obtain ⟨z,n,rfl,rfl,h0,h1,hz,q⟩:=h;obtain ⟨t,rfl⟩:=rx;obtain ⟨t',rfl⟩:=ry;have hm:z.length*n.toNat<=1000*1000:=Nat.mul_le_mul hz (by omega);refine SB.mul ⟨?_,λ a b=>?_,λ a b=>?_⟩ (λ t2 k=>⟨.str _,H,I.tok k,⟨t2,rfl⟩,q⟩)
 . have e1:decide (n < -(2^63:Int))=false:=decide_eq_false (by omega);have e2:decide (n ≥ 2^63)=false:=decide_eq_false (by omega);rw [e1,e2];rfl
 . have hn:1<=n:=by omega
   have:(1000:Int)<=(2^63-1) / n:=by
    rw [Int.le_ediv_iff_mul_le (by omega)];omega
   omega
 . unfold PySem.Builtin.Str.tooLong;exact decide_eq_false (by have:sizeLine=16777216:=sizeLine_eq;omega)
end
section
variable {X:Cx} {K:Frag}
theorem Je (h:X.K=K):xt X (Ij K):=h▸CK
theorem E4 (h:X.K=K):ig X (compareOp .In) (FC K false):=h▸wd
noncomputable def G7 (K:Frag):List V->Hp->VK->Prop:=λ xs H Q=>∃ p ys,xs=[.ref p]/\(dM K H p ys∨ii K H p ys)/\Q (.int ys.length) H
theorem oW (h:X.K=K):fz X (.builtin "len") (G7 K):=h▸pY
noncomputable def BN:List V->Hp->VK->Prop:=λ xs H Q=>∃ z,xs=[.str z]/\z.length<=sizeLine/\Q (.int z.length) H
theorem oE:fz X (.builtin "len") BN:=qw
noncomputable def Fg:List V->Hp->VK->Prop:=λ xs H Q=>∃ v T k,xs=[v,.ty T]/\xG v T=some k/\Q (.bl k) H
theorem wR:fz X (.builtin "isinstance") Fg:=xO
noncomputable def qc (K:Frag):List V->Hp->VK->Prop:=λ xs H Q=>∃ p ys,xs=[.ref p]/\(dM K H p ys∨ii K H p ys)/\∀ l,H l=none->Q (.ref l) (cR H l (.lst ys))
theorem oZ (h:X.K=K):fz X (.type "list") (qc K):=h▸qP
theorem Jb {pos:Pos} {es:List Expr} {k:Nat} {t:tm} {n:Nat} (h:X.K=K) (hc:X.calm=true) (hh:BM X es t)
 (hn:(assignEach es X.env).length=n) (hst:(assignEach es X.env).findIdx? (·.1)=none):PG X (.Tuple es k pos) (B2 K n t):=h▸yR hc hh hn hst
theorem Jf {elts:List Expr} {x1} {tpos:Pos} {a b:Expr} {ta:TA} {p pos:Pos} (h:X.K=K) (hg:Gl X "zip") (hm:X.mg "zip" = none) (ha:PA X [a,b] ta) (hs:starEach [a,b] X.env=[(false,eval a X.env),(false,eval b X.env)]) (hs2:starEach [b] X.env=[(false,eval b X.env)]):
 PI X (.Tuple elts x1 tpos) (.Call (.Name "zip" p) [a,b] [] pos) (F4 K ta):=h▸DY hg hm ha hs hs2
variable {o e:Expr} {es:List Expr} {to:TE} {t:TA} {name:Str} {apos cpos:Pos} {T id:String} {r:V->List V->Hp->VK->Prop}
theorem Ab (h:X.K=K) (pa:PlainAttrs T) (slot:Slot T name id) (hty:typeOf (.builtin id)=pure (.type "method_descriptor")) (hm:Hi X id r) (ho:PE X o to)
 (hbase:attributeBase o name X.env (eval o X.env)=eval o X.env:=by rfl) (hline:(apos.endLine==cpos.line)=true:=by rfl):PE X (.Call (.Attribute o name apos) [] [] cpos) (zT K T r to):=h▸CZ pa slot hty hm ho hbase hline
theorem Fi (h:X.K=K) (pa:PlainAttrs T) (slot:Slot T name id) (hty:typeOf (.builtin id)=pure (.type "method_descriptor")) (hm:Hi X id r) (ho:PE X o to) (ha:PA X (e::es) t)
 (hbase:attributeBase o name X.env (eval o X.env)=eval o X.env:=by rfl)
 (hfew:((backTo cpos (starEach (e::es) X.env)).all (λ x=>!x.1)&&(backToKw cpos (keywordEach [] X.env)).all (λ x=>x.1.isSome)
  && decide ((e::es).length+([]:List Keyword).length+(if ([]:List Keyword).isEmpty then 0 else 1)<30))=true:=by rfl)
 (hline:(apos.endLine==cpos.line)=true:=by rfl) (hs:starEach (e::es) X.env=(false,eval e X.env)::starEach es X.env:=by rfl) (hplain:(backTo cpos (starEach es X.env)).any (·.1)=false:=by rfl):
 PE X (.Call (.Attribute o name apos) (e::es) [] cpos) (GN K T r to t):=h▸Gu pa slot hty hm ho ha hbase hfew hline hs hplain
end
theorem kU {H:Hp} {p:Addr} (h:H p=none) (o:HO):bo H (cR H p o):=λ b u q=>by rw [aL (b7 q h)];exact q
theorem bo.tup {K:Frag} {H H':Hp} {a:Addr} {xs:List V} (g:bo H H') (q:ii K H a xs):ii K H' a xs:=by
 rcases q with (h | ⟨o,h⟩) | h
 . exact .inl (.inl (g _ _ h))
 . exact .inl (.inr ⟨o,g _ _ h⟩)
 . exact .inr h
noncomputable def Nw (H H':Hp) (p:Addr) (o:HO):Prop:=bo H H'/\H p=none/\H' p=some o
theorem Nw.of {H:Hp} {p:Addr} {o:HO} (h:H p=none):Nw H (cR H p o) p o:=⟨kU h o,h,aJ⟩
noncomputable def BL (t:TA):TE:=λ σ H Q=>t σ H λ xs H1=>xs.length<=sizeLine/\∀ p H',Nw H1 H' p (.tup xs)->Q (.ref p) H'
noncomputable def vC (t:TA):TE:=λ σ H Q=>t σ H λ xs H1=>xs.length<=sizeLine/\∀ p H',Nw H1 H' p (.lst xs)->Q (.ref p) H'
section
variable {X:Cx} {K:Frag} {es:List Expr} {t:TA} {pos:Pos}
theorem Ii {x1} (h:PA X es t):PE X (.Tuple es x1 pos) (BL t):=λ pins s σ H Q I hq=>wpAny_Tuple_spliced (cc (h pos pins s σ H _ I hq) λ us s1 ⟨xs,H1,I1,r,z,q⟩=>⟨by rw [<-r.length];exact z,
 .ref s1.heap.objs.size,_,I1.laid (t':=s1.toks) (o:=.tup xs) (λ b u e=>Heap.get?_push_of_some _ e) (Nat.le_refl _) ⟨z,us,r,⟨_,Heap.get?_push_size _ rfl,rfl,_,rfl⟩⟩,rfl,q _ _ (.of (I1.hok.fresh (Nat.le_refl _)))⟩)
theorem IE (h:PA X es t):PE X (.List es pos) (vC t):=λ pins s σ H Q I hq=>wpAny_List_spliced (cc (h pos pins s σ H _ I hq) λ us s1 ⟨xs,H1,I1,r,z,q⟩=>⟨by rw [<-r.length];exact z,
 .ref s1.heap.objs.size,_,I1.laid (t':=s1.toks) (o:=.lst xs) (λ b u e=>Heap.get?_push_of_some _ e) (Nat.le_refl _) ⟨z,us,0,r,Heap.get?_push_size _ rfl⟩,rfl,q _ _ (.of (I1.hok.fresh (Nat.le_refl _)))⟩)
end
section
variable {X:Cx} {K:Frag}
theorem KM {P:Program} {w:World}:gF (pP P w) X E0:=λ pins σ H s e s' I h=>by
 obtain ⟨ea,cls,a0,H',B,_,_,_,_,_,_,_,_,_,z⟩:=h;exact z.elim
end
noncomputable def uV:Value->Option Str
 | .str x _=>some x
 | _=>none
noncomputable def Bu (us:List Value) (ws:List Str):Bool:=decide (us.map uV=ws.map some)
theorem wM {u:Value} {y:Str} (h:uV u=some y):be (.str y) u:=by
 unfold uV at h;split at h
 . cases h;exact ⟨_,rfl⟩
 . cases h
theorem kE:∀ {us:List Value} {ws:List Str},us.map uV=ws.map some->bn (ws.map V.str) us
 | [],[],_=>.nil
 | u::r,y::s,h=>by
  simp only [List.map_cons,List.cons.injEq] at h;exact .cons (wM h.1) (kE h.2)
 | [],_::_,h=>by simp at h
 | _::_,[],h=>by simp at h
noncomputable def uh (o:Obj) (ws:List Str):Bool:=match o.data with
 | .seq its _=>Bu its.toList ws&&decide (its.size<=1000)
 | _=>false
theorem wF {K:Frag} {H:Hp} {a:Addr} {o:Obj} {ws:List Str} (h:K.lookup a=some o) (hc:o.cls=.type "tuple") (ht:uh o ws=true):ii K H a (ws.map V.str):=by
 unfold uh at ht;split at ht
 . rename_i its n e;rw [Bool.and_eq_true] at ht;exact .inr ⟨o,its,n,h,hc,e,Nat.le_of_lt (vP (by simpa using ht.2)),kE (of_decide_eq_true ht.1)⟩
 . cases ht
section
variable {K:Frag} {x D:Addr} {prog:Program} {w:World} {A:Around} {E:Value->Shared->Prop} {s:Shared}
end
section
variable {X:Cx} {K:Frag}
end
section
variable {P:Program} {w:World} {A:Around} {E:Value->Shared->Prop} {s:Shared}
end
section
variable {X:Cx} {K:Frag}
end
section
variable {K:Frag} {a b:Addr} {xs ys:List V} {wi:TI} {g:TG} {σ:St} {H H1:Hp} {ix:List (Option Nat)} {tc:TT} {te:TE} {Q:VK}
end
section
variable {K:Frag} {a:Addr} {xs:List V} {wi:TI} {g:TG} {σ:St} {H H1:Hp} {ix:List (Option Nat)} {tc:TT} {te:TE} {Q:VK}
end
inductive W where
 | none | bool (b:Bool) | int (i:Int) | str (x:Str) | list (ds:List W) | tuple (ds:List W) | ref (n:Nat)
mutual
inductive Dw (K:Frag) (ρ:List Addr) (H:Hp):V->W->Prop
 | non:Dw K ρ H .non .none
 | bl (b:Bool):Dw K ρ H (.bl b) (.bool b)
 | int (i:Int):Dw K ρ H (.int i) (.int i)
 | str (x:Str):Dw K ρ H (.str x) (.str x)
 | lst {a:Addr} {xs:List V} {ds:List W}:dM K H a xs->aF K ρ H xs ds->Dw K ρ H (.ref a) (.list ds)
 | tup {a:Addr} {xs:List V} {ds:List W}:H a=some (.tup xs)->aF K ρ H xs ds->Dw K ρ H (.ref a) (.tuple ds)
 | ref {a:Addr} {n:Nat}:ρ[n]?=some a->Dw K ρ H (.ref a) (.ref n)
inductive aF (K:Frag) (ρ:List Addr) (H:Hp):List V->List W->Prop
 | nil:aF K ρ H [] []
 | cons {v:V} {vs:List V} {d:W} {ds:List W}:Dw K ρ H v d->aF K ρ H vs ds->aF K ρ H (v::vs) (d::ds)
end
theorem Dw.mapG {K:Frag} {ρ ρ':List Addr} {H H':Hp} (hs:∀ a xs,dM K H a xs->dM K H' a xs) (ht:∀ a xs,H a=some (.tup xs)->H' a=some (.tup xs)) (hr:∀ (n:Nat) (a:Addr),ρ[n]?=some a->ρ'[n]?=some a) {v:V} {d:W} (h:Dw K ρ H v d):Dw K ρ' H' v d:=
 Dw.rec (motive_1:=λ v d _=>Dw K ρ' H' v d) (motive_2:=λ vs ds _=>aF K ρ' H' vs ds) .non .bl .int .str (λ q _ ih=>.lst (hs _ _ q) ih) (λ q _ ih=>.tup (ht _ _ q) ih) (λ e=>.ref (hr _ _ e)) .nil (λ _ _ a b=>.cons a b) h
theorem aF.ind {K:Frag} {ρ:List Addr} {H:Hp} {M:List V->List W->Prop} (h0:M [] []) (h1:∀ v vs d ds,Dw K ρ H v d->M vs ds->M (v::vs) (d::ds)) {vs:List V} {ds:List W} (h:aF K ρ H vs ds):M vs ds:=
 aF.rec (motive_1:=λ _ _ _=>True) (motive_2:=λ vs ds _=>M vs ds) trivial (λ _=>trivial) (λ _=>trivial) (λ _=>trivial) (λ _ _ _=>trivial) (λ _ _ _=>trivial) (λ _=>trivial) h0 (λ a _ _ ih=>h1 _ _ _ _ a ih) h
theorem Dw.same {K:Frag} {ρ:List Addr} {H H':Hp} (g:bo H H') {v:V} {d:W} (h:Dw K ρ H v d):Dw K ρ H' v d:=h.mapG (λ _ _ q=>g.seq q) (λ _ _ q=>g _ _ q) λ _ _ e=>e
theorem aF.mapA {K:Frag} {ρ ρ':List Addr} {H H':Hp} (f:∀ v d,Dw K ρ H v d->Dw K ρ' H' v d) {vs:List V} {ds:List W} (h:aF K ρ H vs ds):aF K ρ' H' vs ds:=h.ind (M:=λ vs ds=>aF K ρ' H' vs ds) .nil λ _ _ _ _ a b=>.cons (f _ _ a) b
theorem aF.same {K:Frag} {ρ:List Addr} {H H':Hp} (g:bo H H') {vs:List V} {ds:List W} (h:aF K ρ H vs ds):aF K ρ H' vs ds:=h.mapA λ _ _ a=>a.same g
mutual
noncomputable def W.py:W->Option PyData
 | .none=>some .none
 | .bool b=>some (.bool b)
 | .int i=>some (.int i)
 | .str x=>some (.str x)
 | .list ds=>(W.pys ds).map .list
 | .tuple ds=>(W.pys ds).map .tuple
 | .ref _=>Option.none
noncomputable def W.pys:List W->Option (List PyData)
 | []=>some []
 | d::ds=>(W.py d).bind λ x=>(W.pys ds).map (x::·)
end
theorem Dw.dp {K:Frag} {ρ:List Addr} {H:Hp} {v:V} {d:W} {x:PyData} (h:Dw K ρ H v d):d.py=some x->Dp K H v x:=
 Dw.rec (motive_1:=λ v d _=>∀ x,d.py=some x->Dp K H v x) (motive_2:=λ vs ds _=>∀ xs,W.pys ds=some xs->mw K H vs xs)
  (λ x e=>by cases e;exact .non) (λ b x e=>by cases e;exact .bl b) (λ i x e=>by cases e;exact .int i) (λ y x e=>by cases e;exact .str y)
  (λ q _ ih x e=>by
   obtain ⟨xs,e1,rfl⟩:=oM e
   exact .lst q (ih _ e1))
  (λ q _ ih x e=>by
   obtain ⟨xs,e1,rfl⟩:=oM e
   exact .tup (ii.of q) (ih _ e1))
  (λ _ x e=>by cases e) (λ xs e=>by cases e;exact .nil)
  (λ _ _ ih1 ih2 xs e=>by
   obtain ⟨x,e1,e⟩:=oB e
   obtain ⟨ys,e2,rfl⟩:=oM e
   exact .cons (ih1 _ e1) (ih2 _ e2)) h x
inductive Sl where
 | no
 | val (d:W)
 | own (ds:List W)
noncomputable abbrev DS:=List Sl
noncomputable def u7 (K:Frag) (ρ:List Addr) (G H:Hp):Sl->Option V->Prop
 | .no,_=>True
 | .val d,o=>∃ v,o=some v/\Dw K ρ G v d
 | .own ds,o=>∃ p vs,o=some (.ref p)/\G p=none/\H p=some (.lst vs)/\aF K ρ G vs ds
noncomputable def nT (H:Hp) (b:Addr):Prop:=H b≠none/\∀ xs,H b≠some (.tup xs)
theorem nT.of {H:Hp} {b:Addr} {o:HO} (h:H b=some o) (n:∀ xs,o≠.tup xs):nT H b:=⟨by rw [h];exact nofun,λ xs z=>n xs (by rw [h] at z;cases z;rfl)⟩
theorem nT.l {H:Hp} {b:Addr} {vs:List V} (h:H b=some (.lst vs)):nT H b:=.of h λ _ z=>by cases z
theorem nT.same {H H':Hp} {b:Addr} (x:nT H b) (s:bo H H'):nT H' b:=by
 cases q:H b with
 | none=>exact absurd q x.1
 | some o=>exact .of (s b o q) λ xs z=>x.2 xs (by rw [q,z])
structure Gr (G H G' H':Hp):Prop where
 g:bo G G'
 h:bo H H'
 s:bo G' H'
 n:∀ b,nT H b->G b=none->G' b=none
theorem qT {H H':Hp} (s:bo H H') {b:Addr} (h:H b≠none):H' b≠none:=λ e=>by
 cases q:H b with
 | none=>exact h q
 | some o=>
  have:=s b o q;rw [e] at this;cases this
theorem fN {G H:Hp} (s:bo G H) {b:Addr} (h:H b=none):G b=none:=by
 cases q:G b with
 | none=>rfl
 | some o=>
  have:=s b o q;rw [h] at this;cases this
theorem Gr.refl {G H:Hp} (s:bo G H):Gr G H G H:=⟨.refl _,.refl _,s,λ _ _ h=>h⟩
theorem Gr.trans {G H G1 H1 G2 H2:Hp} (a:Gr G H G1 H1) (b:Gr G1 H1 G2 H2):Gr G H G2 H2:=
 ⟨a.g.trans b.g,a.h.trans b.h,b.s,λ c h1 h2=>b.n c (h1.same a.h) (a.n c h1 h2)⟩
theorem ph {G H':Hp} {p:Addr} {o:HO} (s:bo G H') (h:H' p=some o):bo (cR G p o) H':=λ b u e=>by
 by_cases hb:b=p
 . subst hb;rw [aJ] at e;cases e;exact h
 . rw [aL hb] at e;exact s _ _ e
theorem Gr.new {G H G' H':Hp} {p:Addr} {o:HO} (a:Gr G H G' H') (h0:H p=none) (g0:G' p=none) (h:H' p=some o):Gr G H (cR G' p o) H':=
 ⟨a.g.trans (kU g0 o),a.h,ph a.s h,λ b h1 h2=>by
  rw [aL (λ e=>h1.1 (by rw [e];exact h0))];exact a.n b h1 h2⟩
theorem Gr.nw {G H H':Hp} {p:Addr} {o:HO} (s:bo G H) (n:Nw H H' p o):Gr G H (cR G p o) H':=
 Gr.new ⟨.refl _,n.1,s.trans n.1,λ _ _ h=>h⟩ n.2.1 (fN s n.2.1) n.2.2
theorem Gr.nwO {G H H':Hp} {p:Addr} {o:HO} (s:bo G H) (n:Nw H H' p o):Gr G H G H':=⟨.refl _,n.1,s.trans n.1,λ _ _ h=>h⟩
structure Rl (K:Frag) (ρ:List Addr) (G H:Hp) (δ:DS) (σ:St):Prop where
 sub:bo G H
 len:δ.length=σ.length
 sl:∀ (i:Nat) s,δ[i]?=some s->∃ o,σ[i]?=some o/\u7 K ρ G H s o
 apart:∀ (i j:Nat) p ds es,δ[i]?=some (.own ds)->δ[j]?=some (.own es)->σ[i]?=some (some (.ref p))->σ[j]?=some (some (.ref p))->i=j
theorem u7.grow {K:Frag} {ρ:List Addr} {G H G' H':Hp} (g:Gr G H G' H') {s:Sl} {o:Option V} (h:u7 K ρ G H s o):u7 K ρ G' H' s o:=by
 cases s with
 | no=>exact trivial
 | val d=>
  obtain ⟨v,e,h⟩:=h;exact ⟨v,e,h.same g.g⟩
 | own ds=>
  obtain ⟨p,vs,e,h1,h2,h3⟩:=h;exact ⟨p,vs,e,g.n p (.l h2) h1,g.h _ _ h2,h3.same g.g⟩
theorem Rl.grow {K:Frag} {ρ:List Addr} {G H G' H':Hp} {δ:DS} {σ:St} (R:Rl K ρ G H δ σ) (g:Gr G H G' H'):Rl K ρ G' H' δ σ:=
 ⟨g.s,R.len,λ i s e=>by
  obtain ⟨o,h1,h2⟩:=R.sl i s e;exact ⟨o,h1,h2.grow g⟩,R.apart⟩
theorem fh {α:Type} {xs:List α} {i j:Nat} {a b:α} (h:(xs.set i a)[j]?=some b):(i=j/\a=b/\j<xs.length)∨(i≠j/\xs[j]?=some b):=by
 by_cases e:i=j
 . subst e;rw [List.getElem?_set] at h;simp only [if_true] at h;split at h
   . rename_i hl;cases h;exact .inl ⟨rfl,rfl,hl⟩
   . cases h
 . rw [List.getElem?_set_ne e] at h;exact .inr ⟨e,h⟩
theorem lA {α:Type} {xs:List α} {i:Nat} {a:α} (h:i<xs.length):(xs.set i a)[i]?=some a:=by
 rw [List.getElem?_set];simp [h]
noncomputable def gy (δ':DS) (σ':St) (δ:DS) (σ:St):Prop:=∀ (i:Nat) ds p,δ'[i]?=some (.own ds)->σ'[i]?=some (some (.ref p))->∃ es,δ[i]?=some (.own es)/\σ[i]?=some (some (.ref p))
theorem gy.refl (δ:DS) (σ:St):gy δ σ δ σ:=λ i ds p h1 h2=>⟨ds,h1,h2⟩
theorem gy.trans {δ δ1 δ2:DS} {σ σ1 σ2:St} (a:gy δ2 σ2 δ1 σ1) (b:gy δ1 σ1 δ σ):gy δ2 σ2 δ σ:=λ i ds p h1 h2=>by
 obtain ⟨es,h3,h4⟩:=a i ds p h1 h2;exact b i es p h3 h4
theorem kn {δ:DS} {σ:St} {i:Nat} {d:W} {v:V} (h:δ.length=σ.length):gy (δ.set i (.val d)) (σ.set i (some v)) δ σ:=λ j ds p h1 h2=>by
 rcases fh h1 with ⟨_,e,_⟩ | ⟨ne,h1⟩
 . cases e
 . rw [List.getElem?_set_ne ne] at h2;exact ⟨ds,h1,h2⟩
theorem Rl.set {K:Frag} {ρ:List Addr} {G H:Hp} {δ:DS} {σ:St} {i:Nat} {d:W} {v:V} (R:Rl K ρ G H δ σ) (h:Dw K ρ G v d):Rl K ρ G H (δ.set i (.val d)) (σ.set i (some v)):=
 ⟨R.sub,by rw [List.length_set,List.length_set];exact R.len,λ j s e=>by
  rcases fh e with ⟨rfl,rfl,hl⟩ | ⟨ne,e⟩
  . exact ⟨_,lA (by rw [<-R.len];exact hl),v,rfl,h⟩
  . rw [List.getElem?_set_ne ne];exact R.sl j s e,λ j k p ds es h1 h2 h3 h4=>by
  obtain ⟨ds',a1,a2⟩:=kn (v:=v) R.len j ds p h1 h3;obtain ⟨es',b1,b2⟩:=kn (v:=v) R.len k es p h2 h4;exact R.apart j k p _ _ a1 b1 a2 b2⟩
theorem Rl.setO {K:Frag} {ρ:List Addr} {G H:Hp} {δ:DS} {σ:St} {i:Nat} {ds:List W} {p:Addr} {vs:List V} (R:Rl K ρ G H δ σ) (g0:G p=none) (h:H p=some (.lst vs)) (hd:aF K ρ G vs ds)
 (hn:∀ (j:Nat) es,j≠i->δ[j]?=some (.own es)->σ[j]?≠some (some (.ref p))):Rl K ρ G H (δ.set i (.own ds)) (σ.set i (some (.ref p))):=
 ⟨R.sub,by rw [List.length_set,List.length_set];exact R.len,λ j s e=>by
  rcases fh e with ⟨rfl,rfl,hl⟩ | ⟨ne,e⟩
  . exact ⟨_,lA (by rw [<-R.len];exact hl),p,vs,rfl,g0,h,hd⟩
  . rw [List.getElem?_set_ne ne];exact R.sl j s e,λ j k q ds' es' h1 h2 h3 h4=>by
  rcases fh h1 with ⟨rfl,_,hl⟩ | ⟨ne,h1⟩ <;> rcases fh h2 with ⟨rfl,_,hl2⟩ | ⟨ne2,h2⟩
  . rfl
  . rw [lA (by rw [<-R.len];exact hl)] at h3;rw [List.getElem?_set_ne ne2] at h4;cases h3;exact absurd h4 (hn k es' (Ne.symm ne2) h2)
  . rw [lA (by rw [<-R.len];exact hl2)] at h4;rw [List.getElem?_set_ne ne] at h3;cases h4;exact absurd h3 (hn j ds' (Ne.symm ne) h1)
  . rw [List.getElem?_set_ne ne] at h3;rw [List.getElem?_set_ne ne2] at h4;exact R.apart j k q _ _ h1 h2 h3 h4⟩
noncomputable def DE (K:Frag) (ρ:List Addr) (t:TE) (f:DS->Option W):Prop:=
 ∀ (G:Hp) (σ:St) (H:Hp) (δ:DS) (d:W) (Q:VK),Rl K ρ G H δ σ->f δ=some d->(∀ v G' H',Gr G H G' H'->Dw K ρ G' v d->Q v H')->t σ H Q
noncomputable def DA (K:Frag) (ρ:List Addr) (t:TA) (f:DS->Option (List W)):Prop:=
 ∀ (G:Hp) (σ:St) (H:Hp) (δ:DS) (ds:List W) (Q:List V->Hp->Prop),Rl K ρ G H δ σ->f δ=some ds->(∀ vs G' H',Gr G H G' H'->aF K ρ G' vs ds->Q vs H')->t σ H Q
noncomputable def DT (K:Frag) (ρ:List Addr) (t:TT) (f:DS->Option Bool):Prop:=
 ∀ (G:Hp) (σ:St) (H:Hp) (δ:DS) (b:Bool) (Q:Bool->Hp->Prop),Rl K ρ G H δ σ->f δ=some b->(∀ G' H',Gr G H G' H'->Q b H')->t σ H Q
noncomputable def DO (K:Frag) (ρ:List Addr) (t:TE) (f:DS->Option (List W)):Prop:=
 ∀ (G:Hp) (σ:St) (H:Hp) (δ:DS) (ds:List W) (Q:VK),Rl K ρ G H δ σ->f δ=some ds->(∀ p vs G' H',Gr G H G' H'->H p=none->G' p=none->H' p=some (.lst vs)->aF K ρ G' vs ds->Q (.ref p) H')->t σ H Q
noncomputable def Pk (K:Frag) (ρ:List Addr) (G H:Hp) (v:V) (d:W):Prop:=Dw K ρ G v d∨∃ p vs ds,v=.ref p/\d=.list ds/\H p=some (.lst vs)/\aF K ρ G vs ds
noncomputable def DK (K:Frag) (ρ:List Addr) (t:TE) (f:DS->Option W):Prop:=
 ∀ (G:Hp) (σ:St) (H:Hp) (δ:DS) (d:W) (Q:VK),Rl K ρ G H δ σ->f δ=some d->(∀ v G' H',Gr G H G' H'->Pk K ρ G' H' v d->Q v H')->t σ H Q
section
variable {K:Frag} {ρ:List Addr}
theorem Pk.dp {G H:Hp} {v:V} {d:W} (s:bo G H) (h:Pk K ρ G H v d):Dw K ρ H v d:=by
 rcases h with h | ⟨p,vs,ds,rfl,rfl,h1,h2⟩
 . exact h.same s
 . exact .lst (dM.of h1) (h2.same s)
theorem Pk.grow {G H G' H':Hp} {v:V} {d:W} (g:Gr G H G' H') (h:Pk K ρ G H v d):Pk K ρ G' H' v d:=by
 rcases h with h | ⟨p,vs,ds,rfl,rfl,h1,h2⟩
 . exact .inl (h.same g.g)
 . exact .inr ⟨p,vs,ds,rfl,rfl,g.h _ _ h1,h2.same g.g⟩
theorem DE.dk {t:TE} {f:DS->Option W} (h:DE K ρ t f):DK K ρ t f:=λ G σ H δ d Q R e q=>h G σ H δ d Q R e λ v G' H' g dv=>q v G' H' g (.inl dv)
noncomputable def gC (f:DS->Option (List W)):DS->Option W:=λ δ=>(f δ).map .list
theorem DO.de {t:TE} {f:DS->Option (List W)} (h:DO K ρ t f):DE K ρ t (gC f):=λ G σ H δ d Q R e q=>by
 obtain ⟨ds,e1,rfl⟩:=oM e
 exact h G σ H δ ds Q R e1 λ p vs G' H' g h0 g0 hh da=>q _ _ H' (g.new h0 g0 hh) (.lst (dM.of aJ) (da.same (kU g0 _)))
noncomputable def ag (i:Nat):DS->Option W:=λ δ=>match δ[i]? with
 | some (.val d)=>some d
 | _=>none
theorem Fl {i:Nat}:DE K ρ (AG i) (ag i):=λ G σ H δ d Q R e q=>by
 unfold ag at e;split at e
 . rename_i d' h;cases e;obtain ⟨o,h1,v,h2,h3⟩:=R.sl i _ h;exact ⟨v,by rw [h1,h2],q v G H (.refl R.sub) h3⟩
 . cases e
noncomputable def ay (i:Nat):DS->Option W:=λ δ=>match δ[i]? with
 | some (.val d)=>some d
 | some (.own ds)=>some (.list ds)
 | _=>none
theorem DD {i:Nat}:DK K ρ (AG i) (ay i):=λ G σ H δ d Q R e q=>by
 unfold ay at e;split at e
 . rename_i d' h;cases e;obtain ⟨o,h1,v,h2,h3⟩:=R.sl i _ h;exact ⟨v,by rw [h1,h2],q v G H (.refl R.sub) (.inl h3)⟩
 . rename_i ds h;cases e;obtain ⟨o,h1,p,vs,h2,h3,h4,h5⟩:=R.sl i _ h;exact ⟨.ref p,by rw [h1,h2],q _ G H (.refl R.sub) (.inr ⟨p,vs,ds,rfl,rfl,h4,h5⟩)⟩
 . cases e
noncomputable def dC (d:W):DS->Option W:=λ _=>some d
theorem zZ {v:V} {d:W} (h:∀ G,Dw K ρ G v d):DE K ρ (tC v) (dC d):=λ G σ H δ d' Q R e q=>by
 cases e;exact q v G H (.refl R.sub) (h G)
theorem EW {i:Int}:DE K ρ (tC (.int i)) (dC (.int i)):=zZ λ _=>.int i
theorem HI {b:Bool}:DE K ρ (tC (.bl b)) (dC (.bool b)):=zZ λ _=>.bl b
theorem Dj {x:Str}:DE K ρ (tC (.str x)) (dC (.str x)):=zZ λ _=>.str x
theorem Eo:DE K ρ (tC .non) (dC .none):=zZ λ _=>.non
noncomputable def DR (K:Frag) (ρ:List Addr) (r:R2) (g:W->W->Option W):Prop:=
 ∀ (G H:Hp) (x y:V) (d e c:W) (Q:VK),bo G H->Pk K ρ G H x d->Dw K ρ G y e->g d e=some c->(∀ v G' H',Gr G H G' H'->Dw K ρ G' v c->Q v H')->r x y H Q
noncomputable def aA (g:W->W->Option W) (fa fb:DS->Option W):DS->Option W:=λ δ=>(fa δ).bind λ x=>(fb δ).bind λ y=>g x y
theorem Hz {r:R2} {ta tb:TE} {fa fb:DS->Option W} {g:W->W->Option W} (hr:DR K ρ r g) (ha:DK K ρ ta fa) (hb:DE K ρ tb fb):DE K ρ (rA r ta tb) (aA g fa fb):=λ G σ H δ d Q R e q=>by
 obtain ⟨x,ex,e⟩:=oB e
 obtain ⟨y,ey,e⟩:=oB e
 exact ha G σ H δ x _ R ex λ v G1 H1 g1 dv=>hb G1 σ H1 δ y _ (R.grow g1) ey λ u G2 H2 g2 du=>hr G2 H2 v u x y d Q g2.s (dv.grow g2) du e λ w G3 H3 g3 dw=>q w G3 H3 (g1.trans (g2.trans g3)) dw
noncomputable def DB (K:Frag) (ρ:List Addr) (r:R2) (g:W->W->Option Bool):Prop:=
 ∀ (H:Hp) (x y:V) (d e:W) (b:Bool) (Q:VK),Dw K ρ H x d->Dw K ρ H y e->g d e=some b->Q (.bl b) H->r x y H Q
noncomputable def aC (g:W->W->Option Bool) (fa fb:DS->Option W):DS->Option Bool:=λ δ=>(fa δ).bind λ x=>(fb δ).bind λ y=>g x y
noncomputable def dB (f:DS->Option Bool):DS->Option W:=λ δ=>(f δ).map .bool
theorem pw {r:R2} {ta tb:TE} {fa fb:DS->Option W} {g:W->W->Option Bool} (hr:DB K ρ r g) (ha:DK K ρ ta fa) (hb:DK K ρ tb fb) {G:Hp} {σ:St} {H:Hp} {δ:DS} {b:Bool} {Q:VK} (R:Rl K ρ G H δ σ) (e:aC g fa fb δ=some b) (q:∀ G' H',Gr G H G' H'->Q (.bl b) H'):rA r ta tb σ H Q:=by
 obtain ⟨x,ex,e⟩:=oB e
 obtain ⟨y,ey,e⟩:=oB e
 exact ha G σ H δ x _ R ex λ v G1 H1 g1 dv=>hb G1 σ H1 δ y _ (R.grow g1) ey λ u G2 H2 g2 du=>hr H2 v u x y b Q ((dv.grow g2).dp g2.s) (du.dp g2.s) e (q G2 H2 (g1.trans g2))
theorem CI {r:R2} {ta tb:TE} {fa fb:DS->Option W} {g:W->W->Option Bool} (hr:DB K ρ r g) (ha:DK K ρ ta fa) (hb:DK K ρ tb fb):DE K ρ (rA r ta tb) (dB (aC g fa fb)):=λ G σ H δ d Q R e q=>by
 obtain ⟨b,e1,rfl⟩:=oM e
 exact pw hr ha hb R e1 λ G' H' g=>q _ G' H' g (.bl b)
theorem Fc {r:R2} {ta tb:TE} {fa fb:DS->Option W} {g:W->W->Option Bool} (hr:DB K ρ r g) (ha:DK K ρ ta fa) (hb:DK K ρ tb fb):DT K ρ (lW (rA r ta tb)) (aC g fa fb):=λ G σ H δ b Q R e q=>
 pw hr ha hb R e λ G' H' g=>⟨b,rfl,q G' H' g⟩
noncomputable def BG:W->Option Bool
 | .bool b=>some b
 | _=>none
noncomputable def oR (f:DS->Option W):DS->Option Bool:=λ δ=>(f δ).bind BG
theorem tt {d:W} {b:Bool} (h:BG d=some b):d=.bool b:=by
 cases d <;> first | (cases h;rfl) | cases h
theorem Ew {t:TE} {f:DS->Option W} (h:DE K ρ t f):DT K ρ (tB t) (oR f):=λ G σ H δ b Q R e q=>by
 obtain ⟨x,ex,e⟩:=oB e
 cases tt e;exact h G σ H δ _ _ R ex λ v G1 H1 g1 dv=>by
  cases dv;exact ⟨b,rfl,q G1 H1 g1⟩
noncomputable def jg (f g:DS->Option Bool):DS->Option Bool:=λ δ=>(f δ).bind λ b=>if b=true then g δ else some false
noncomputable def zC (f g:DS->Option Bool):DS->Option Bool:=λ δ=>(f δ).bind λ b=>if b=true then some true else g δ
noncomputable def wA (f:DS->Option Bool):DS->Option Bool:=λ δ=>(f δ).map (!·)
theorem CQ {t u:TT} {f g:DS->Option Bool} (h1:DT K ρ t f) (h2:DT K ρ u g):DT K ρ (Ds t u) (jg f g):=λ G σ H δ b Q R e q=>by
 obtain ⟨x,ex,e⟩:=oB e
 refine h1 G σ H δ x _ R ex λ G1 H1 g1=>?_;cases x with
 | true=>exact h2 G1 σ H1 δ b Q (R.grow g1) e λ G2 H2 g2=>q G2 H2 (g1.trans g2)
 | false=>cases e;exact q G1 H1 g1
theorem FX {t u:TT} {f g:DS->Option Bool} (h1:DT K ρ t f) (h2:DT K ρ u g):DT K ρ (JN t u) (zC f g):=λ G σ H δ b Q R e q=>by
 obtain ⟨x,ex,e⟩:=oB e
 refine h1 G σ H δ x _ R ex λ G1 H1 g1=>?_;cases x with
 | false=>exact h2 G1 σ H1 δ b Q (R.grow g1) e λ G2 H2 g2=>q G2 H2 (g1.trans g2)
 | true=>cases e;exact q G1 H1 g1
theorem F7 {t:TT} {f:DS->Option Bool} (h:DT K ρ t f):DT K ρ (CJ t) (wA f):=λ G σ H δ b Q R e q=>by
 obtain ⟨x,ex,rfl⟩:=oM e
 exact h G σ H δ x _ R ex q
noncomputable def GL (f g:DS->Option W):DS->Option W:=λ δ=>(f δ).bind λ x=>(BG x).bind λ b=>if b=true then g δ else some (.bool false)
noncomputable def JM (f g:DS->Option W):DS->Option W:=λ δ=>(f δ).bind λ x=>(BG x).bind λ b=>if b=true then some (.bool true) else g δ
noncomputable def HA (f:DS->Option W):DS->Option W:=λ δ=>(f δ).bind λ x=>(BG x).map λ b=>.bool (!b)
noncomputable def FH (c:DS->Option Bool) (f g:DS->Option W):DS->Option W:=λ δ=>(c δ).bind λ b=>if b=true then f δ else g δ
theorem Hg {tc:TT} {t u:TE} {c:DS->Option Bool} {f g:DS->Option W} (hc:DT K ρ tc c) (h1:DE K ρ t f) (h2:DE K ρ u g):DE K ρ (Jm tc t u) (FH c f g):=λ G σ H δ d Q R e q=>by
 obtain ⟨b,eb,e⟩:=oB e
 refine hc G σ H δ b _ R eb λ G1 H1 g1=>?_;cases b with
 | true=>exact h1 G1 σ H1 δ d Q (R.grow g1) e λ v G2 H2 g2 dv=>q v G2 H2 (g1.trans g2) dv
 | false=>exact h2 G1 σ H1 δ d Q (R.grow g1) e λ v G2 H2 g2 dv=>q v G2 H2 (g1.trans g2) dv
noncomputable def ak:DS->Option (List W):=λ _=>some []
noncomputable def ae (f:DS->Option W) (g:DS->Option (List W)):DS->Option (List W):=λ δ=>(f δ).bind λ d=>(g δ).map (d::·)
theorem EX:DA K ρ lI ak:=λ G σ H δ ds Q R e q=>by
 cases e;exact q [] G H (.refl R.sub) .nil
theorem Bw {t:TE} {u:TA} {f:DS->Option W} {g:DS->Option (List W)} (h1:DE K ρ t f) (h2:DA K ρ u g):DA K ρ (iY t u) (ae f g):=λ G σ H δ ds Q R e q=>by
 obtain ⟨d,ed,e⟩:=oB e
 obtain ⟨es,ee,rfl⟩:=oM e
 exact h1 G σ H δ d _ R ed λ v G1 H1 g1 dv=>h2 G1 σ H1 δ es _ (R.grow g1) ee λ vs G2 H2 g2 da=>q _ G2 H2 (g1.trans g2) (.cons (dv.same g2.g) da)
theorem aF.length {G:Hp} {vs:List V} {ds:List W} (h:aF K ρ G vs ds):vs.length=ds.length:=h.ind (M:=λ vs ds=>vs.length=ds.length) rfl λ _ _ _ _ _ e=>congrArg (· + 1) e
theorem aF.get {G:Hp} {vs:List V} {ds:List W} {i:Nat} {d:W} (h:aF K ρ G vs ds):ds[i]?=some d->∃ v,vs[i]?=some v/\Dw K ρ G v d:=
 h.ind (M:=λ vs ds=>∀ (i:Nat) d,ds[i]?=some d->∃ v,vs[i]?=some v/\Dw K ρ G v d) (λ _ _ e=>by cases e) (λ v _ _ _ a ih i d e=>by
  cases i with
  | zero=>cases e;exact ⟨v,rfl,a⟩
  | succ i=>exact ih i d e) i d
theorem aF.app {G:Hp} {vs ws:List V} {ds es:List W} (h:aF K ρ G vs ds) (h':aF K ρ G ws es):aF K ρ G (vs++ws) (ds++es):=h.ind (M:=λ vs ds=>aF K ρ G (vs++ws) (ds++es)) h' λ _ _ _ _ a ih=>.cons a ih
theorem aF.take {G:Hp} {vs:List V} {ds:List W} (n:Nat) (h:aF K ρ G vs ds):aF K ρ G (vs.take n) (ds.take n):=by
 induction n generalizing vs ds with
 | zero=>exact .nil
 | succ n ih=>
  cases h with
  | nil=>exact .nil
  | cons a t=>exact .cons a (ih t)
theorem aF.ints {G:Hp}:∀ (ns:List Int),aF K ρ G (ns.map V.int) (ns.map .int)
 | []=>.nil
 | n::r=>.cons (.int n) (aF.ints r)
noncomputable def bx (f:DS->Option (List W)):DS->Option W:=λ δ=>(f δ).bind λ ds=>if ds.length<=sizeLine then some (.tuple ds) else none
theorem C9 {t:TA} {f:DS->Option (List W)} (h:DA K ρ t f):DE K ρ (BL t) (bx f):=λ G σ H δ d Q R e q=>by
 obtain ⟨ds,e1,e⟩:=oB e
 split at e
 . rename_i hz;cases e;refine h G σ H δ ds _ R e1 λ vs G1 H1 g1 da=>⟨by rw [da.length];exact hz,λ p H' n=>?_⟩
   have g2:=Gr.nw g1.s n;exact q _ _ H' (g1.trans g2) (.tup aJ (da.same g2.g))
 . cases e
noncomputable def eU (f:DS->Option (List W)):DS->Option (List W):=λ δ=>(f δ).bind λ ds=>if ds.length<=sizeLine then some ds else none
theorem Dq {t:TA} {f:DS->Option (List W)} (h:DA K ρ t f):DO K ρ (vC t) (eU f):=λ G σ H δ ds Q R e q=>by
 obtain ⟨ds',e1,e⟩:=oB e
 split at e
 . rename_i hz;cases e;refine h G σ H δ _ _ R e1 λ vs G1 H1 g1 da=>⟨by rw [da.length];exact hz,λ p H' n=>?_⟩
   exact q p vs G1 H' (g1.trans (.nwO g1.s n)) (by
    cases hp:H p with
    | none=>rfl
    | some o=>exact absurd (g1.h _ _ hp) (by rw [n.2.1];simp)) (fN g1.s n.2.1) n.2.2 da
 . cases e
end
section
variable {X:Cx} {tg:Expr}
noncomputable def zX (K:Frag) (tl:TE):TI:=λ σ H R=>tl σ H λ x H1=>∃ a,x=.ref a/\(((∃ xs,dM K H1 a xs)/\R (J5 K a) H1)∨((∃ xs,ii K H1 a xs)/\R (Ki K a) H1))
theorem Fa {l:Expr} {tl:TE} (hl:PE X l tl):PI X tg l (zX X.K tl):=by
 intro pins s σ H R I h;refine cc (hl pins s σ H _ I h) λ v s1 hq0=>?_;obtain ⟨x,H1,I1,r1,q1⟩:=hq0;obtain ⟨a,e,⟨⟨xs,hq⟩,q⟩ | ⟨⟨xs,hq⟩,q⟩⟩:=q1;all_goals
  subst e;cases r1
 . obtain ⟨its,rv,p,hz⟩:=I1.list hq;refine wpAny_pyIter_list p.isList ?_;refine ⟨s1.heap.objs.size,[s1.heap.objs.size],_,_,H1,rfl,I1.kept (t':=s1.toks) λ b o e=>Heap.get?_push_of_some _ e,wq a _,⟨_,Heap.get?_push_size _ rfl,rfl,rfl⟩,λ b hb=>?_,q⟩;have e:b=s1.heap.objs.size:=by simpa using hb
   subst e;exact I1.fpOk (Nat.le_refl _) (I1.hok.fresh (Nat.le_refl _))
 . obtain ⟨its,rv,p,hz⟩:=I1.tuple hq;refine wpAny_pyIter_tuple (show s1.heap.IsTuple a its.toArray from p) ?_;refine ⟨s1.heap.objs.size,[s1.heap.objs.size],_,_,H1,rfl,I1.kept (t':=s1.toks) λ b o e=>Heap.get?_push_of_some _ e,ux a _,⟨_,Heap.get?_push_size _ rfl,rfl,rfl⟩,λ b hb=>?_,q⟩;have e:b=s1.heap.objs.size:=by simpa using hb
   subst e;exact I1.fpOk (Nat.le_refl _) (I1.hok.fresh (Nat.le_refl _))
theorem IY {K:Frag} (h:X.K=K) {l:Expr} {tl:TE} (hl:PE X l tl):PI X tg l (zX K tl):=h▸Fa hl
end
section
variable {K:Frag} {ρ:List Addr}
noncomputable def AY (K:Frag) (ρ:List Addr) (J:It) (ds:List W) (i:Nat) (G1 H1:Hp):Prop:=
 (∀ d,ds[i]?=some d->J.go i H1/\∀ x H',J.yld i H1 x H'->∃ G',Gr G1 H1 G' H'/\Dw K ρ G' x d)/\(ds.length<=i->J.stop i H1)
noncomputable def Ll (K:Frag) (ρ:List Addr) (J:It) (G H:Hp) (ds:List W):Prop:=∀ i G1 H1,Gr G H G1 H1->AY K ρ J ds i G1 H1
noncomputable def Gd (K:Frag) (ρ:List Addr) (J:It) (G:Hp) (ds:List W):Prop:=∀ i G1 H1,bo G G1->bo G1 H1->AY K ρ J ds i G1 H1
theorem Gd.d {J:It} {G H:Hp} {ds:List W} (h:Gd K ρ J G ds):Ll K ρ J G H ds:=λ i G1 H1 g=>h i G1 H1 g.g g.s
noncomputable def DI (K:Frag) (ρ:List Addr) (wi:TI) (f:DS->Option (List W)):Prop:=
 ∀ (G:Hp) (σ:St) (H:Hp) (δ:DS) (ds:List W) (R':It->Hp->Prop),Rl K ρ G H δ σ->f δ=some ds->(∀ J G' H',Gr G H G' H'->Gd K ρ J G' ds->R' J H')->wi σ H R'
noncomputable def JL (K:Frag) (ρ:List Addr) (wi:TI) (f:DS->Option (List W)):Prop:=
 ∀ (G:Hp) (σ:St) (H:Hp) (δ:DS) (ds:List W) (R':It->Hp->Prop),Rl K ρ G H δ σ->f δ=some ds->(∀ J G' H',Gr G H G' H'->Ll K ρ J G' H' ds->R' J H')->wi σ H R'
theorem DI.k {wi:TI} {f:DS->Option (List W)} (h:DI K ρ wi f):JL K ρ wi f:=λ G σ H δ ds R' R e q=>h G σ H δ ds R' R e λ J G' H' g i=>q J G' H' g i.d
noncomputable def rP:W->Option (List W)
 | .list ds=>some ds
 | .tuple ds=>some ds
 | _=>none
noncomputable def cK (f:DS->Option W):DS->Option (List W):=λ δ=>(f δ).bind rP
theorem y4 {G1 H1:Hp} {a:Addr} {xs:List V} {ds:List W} {i:Nat} (s:bo G1 H1) (q:dM K H1 a xs) (da:aF K ρ G1 xs ds):AY K ρ (J5 K a) ds i G1 H1:=by
 refine ⟨λ d hd=>?_,λ h=>⟨xs,q,by rw [da.length];exact h⟩⟩;obtain ⟨v,h1,h2⟩:=da.get hd;refine ⟨⟨xs,v,q,h1⟩,λ x H' y=>?_⟩;obtain ⟨rfl,y⟩:=y;have:=y xs q;rw [h1] at this;cases this;exact ⟨G1,.refl s,h2⟩
theorem EC {G1 H1:Hp} {a:Addr} {xs:List V} {ds:List W} {i:Nat} (s:bo G1 H1) (q:ii K H1 a xs) (da:aF K ρ G1 xs ds):AY K ρ (Ki K a) ds i G1 H1:=by
 refine ⟨λ d hd=>?_,λ h=>⟨xs,q,by rw [da.length];exact h⟩⟩;obtain ⟨v,h1,h2⟩:=da.get hd;refine ⟨⟨xs,v,q,h1⟩,λ x H' y=>?_⟩;obtain ⟨rfl,y⟩:=y;have:=y xs q;rw [h1] at this;cases this;exact ⟨G1,.refl s,h2⟩
theorem Ek {t:TE} {f:DS->Option W} (h:DE K ρ t f):DI K ρ (zX K t) (cK f):=λ G σ H δ ds R' R e q=>by
 obtain ⟨d,ed,e⟩:=oB e
 refine h G σ H δ d _ R ed λ v G1 H1 g1 dv=>?_;cases dv with
 | lst sq da=>
  cases e;exact ⟨_,rfl,.inl ⟨⟨_,g1.s.seq sq⟩,q _ G1 H1 g1 λ i G2 H2 a b=>y4 b ((a.trans b).seq sq) (da.same a)⟩⟩
 | tup sq da=>
  cases e;exact ⟨_,rfl,.inr ⟨⟨_,g1.s.tup (ii.of sq)⟩,q _ G1 H1 g1 λ i G2 H2 a b=>EC b ((a.trans b).tup (ii.of sq)) (da.same a)⟩⟩
 | _=>cases e
noncomputable def gi (lo:Int) (n:Nat):List W:=(List.range n).map λ i=>.int (lo+(i:Nat))
theorem Dv {G:Hp} {lo:Int} {n:Nat}:Gd K ρ (IT lo n) G (gi lo n):=λ i G1 H1 _ s=>by
 refine ⟨λ d hd=>?_,λ h=>show n<=i by simpa [gi] using h⟩;have hi:i<n:=by
  have:=(oG hd).1;simpa [gi] using this
 refine ⟨hi,λ x H' y=>?_⟩;obtain ⟨rfl,rfl⟩:=y;have:d=.int (lo+i):=by
  unfold gi at hd;rw [List.getElem?_map,List.getElem?_range hi] at hd;cases hd;rfl
 subst this;exact ⟨G1,.refl s,.int _⟩
noncomputable def ss (j:Int):Bool:=decide (-(2^62)<=j)&&decide (j<2^62)
theorem vN {j:Int} (h:ss j=true) : -(2^62)<=j/\j<2^62:=by
 simp only [ss,Bool.and_eq_true,decide_eq_true_eq] at h;exact h
theorem yU {j:Int} (h1 : -(2^62)<=j) (h2:j<2^62):ss j=true:=by
 simp only [ss,Bool.and_eq_true,decide_eq_true_eq];exact ⟨h1,h2⟩
noncomputable def vQ (j:Int):Option (List W):=if ss j=true then some (gi 0 j.toNat) else none
noncomputable def uQ:List W->Option (List W)
 | [.int j]=>vQ j
 | _=>none
noncomputable def iR (f:DS->Option (List W)):DS->Option (List W):=λ δ=>(f δ).bind uQ
theorem Bj {j:Int} {ds:List W} (h:vQ j=some ds):(-(2^62)<=j/\j<2^62)/\ds=gi 0 j.toNat:=by
 unfold vQ at h;split at h
 . rename_i hc;cases h;exact ⟨vN hc,rfl⟩
 . cases h
theorem fG {G:Hp} {v:V} {i:Int} (h:Dw K ρ G v (.int i)):v=.int i:=by cases h;rfl
theorem zq {G:Hp} {v:V} {i:Str} (h:Dw K ρ G v (.str i)):v=.str i:=by cases h;rfl
theorem BH {G:Hp} {v:V} {i:Bool} (h:Dw K ρ G v (.bool i)):v=.bl i:=by cases h;rfl
theorem tE {G:Hp} {v:V} (h:Dw K ρ G v .none):v=.non:=by cases h;rfl
theorem D8 {G:Hp} {vs:List V} {d:W} (h:aF K ρ G vs [d]):∃ v,vs=[v]/\Dw K ρ G v d:=by
 cases h with
 | cons a b=>cases b;exact ⟨_,rfl,a⟩
theorem xk {G:Hp} {vs:List V} {d e:W} (h:aF K ρ G vs [d,e]):∃ v u,vs=[v,u]/\Dw K ρ G v d/\Dw K ρ G u e:=by
 cases h with
 | cons a b=>
  cases b with
  | cons b c=>cases c;exact ⟨_,_,rfl,a,b⟩
theorem xh {ds es:List W} (e:uQ ds=some es):∃ j,ds=[.int j]/\vQ j=some es:=by
 cases ds with
 | nil=>cases e
 | cons x r=>
  cases x with
  | int j=>
   cases r with
   | nil=>exact ⟨j,rfl,e⟩
   | cons y r=>cases e
  | _=>cases r <;> cases e
theorem zW {t:TA} {f:DS->Option (List W)} (h:DA K ρ t f):DI K ρ (Cf t) (iR f):=λ G σ H δ ds R' R e q=>by
 obtain ⟨es,ed,e⟩:=oB e
 refine h G σ H δ es _ R ed λ vs G1 H1 g1 da=>?_;obtain ⟨j,rfl,e⟩:=xh e;obtain ⟨hc,rfl⟩:=Bj e;obtain ⟨v,rfl,dv⟩:=D8 da;cases fG dv;exact ⟨_,rfl,hc.1,hc.2,q _ G1 H1 g1 Dv⟩
noncomputable def Cd (ds:List W):List W:=(List.range ds.length).map λ (i:Nat)=>.tuple [.int (i:Int),ds[i]?.getD .none]
noncomputable def FV (f:DS->Option (List W)):DS->Option (List W):=λ δ=>(f δ).bind λ ds=>match ds with
 | [.list es]=>some (Cd es)
 | _=>none
noncomputable def lO (ds es:List W):List W:=List.zipWith (λ x y=>.tuple [x,y]) ds es
theorem z7 {ds es:List W} {i:Nat} {d:W} (h:(lO ds es)[i]?=some d):∃ x y,ds[i]?=some x/\es[i]?=some y/\d=.tuple [x,y]:=by
 unfold lO at h;rw [List.getElem?_zipWith] at h;cases h1:ds[i]? with
 | none=>rw [h1] at h;cases h
 | some x=>
  cases h2:es[i]? with
  | none=>rw [h1,h2] at h;cases h
  | some y=>
   rw [h1,h2] at h;cases h;exact ⟨x,y,rfl,rfl,rfl⟩
theorem Dc {G1 H1:Hp} {a b:Addr} {xs ys:List V} {ds es:List W} {i:Nat} (s:bo G1 H1) (q:dM K H1 a xs) (da:aF K ρ G1 xs ds) (q2:dM K H1 b ys) (db:aF K ρ G1 ys es):AY K ρ (Kx K a b) (lO ds es) i G1 H1:=by
 refine ⟨λ d hd=>?_,λ h=>⟨xs,ys,q,q2,?_⟩⟩
 . obtain ⟨x,y,hx,hy,rfl⟩:=z7 hd;obtain ⟨v,h1,h2⟩:=da.get hx;obtain ⟨u,k1,k2⟩:=db.get hy;refine ⟨⟨xs,ys,v,u,q,q2,h1,k1⟩,λ z H' w=>?_⟩;obtain ⟨p,v',u',hp,rfl,rfl,w1,w2⟩:=w;have:=w1 xs q;rw [h1] at this;cases this;have:=w2 ys q2;rw [k1] at this;cases this;have g:=Gr.nw s (Nw.of (o:=.tup [v,u]) hp);exact ⟨_,g,.tup aJ (.cons (h2.same g.g) (.cons (k2.same g.g) .nil))⟩
 . have:(lO ds es).length=min ds.length es.length:=by simp [lO]
   rw [da.length,db.length];omega
noncomputable def xw (f:DS->Option (List W)):DS->Option (List W):=λ δ=>(f δ).bind λ ds=>match ds with
 | [.list a,.list b]=>some (lO a b)
 | _=>none
theorem Fy {t:TA} {f:DS->Option (List W)} (h:DA K ρ t f):DI K ρ (F4 K t) (xw f):=λ G σ H δ ds R' R e q=>by
 obtain ⟨es,ed,e⟩:=oB e
 refine h G σ H δ es _ R ed λ vs G1 H1 g1 da=>?_;split at e
 . cases e;obtain ⟨v,u,rfl,dv,du⟩:=xk da;cases dv with
   | lst sq dA=>
    cases du with
    | lst sq2 db=>exact ⟨_,_,rfl,⟨_,g1.s.seq sq⟩,⟨_,g1.s.seq sq2⟩,q _ G1 H1 g1 λ i G2 H2 a b=>Dc b ((a.trans b).seq sq) (dA.same a) ((a.trans b).seq sq2) (db.same a)⟩
 . cases e
noncomputable def DG (K:Frag) (ρ:List Addr) (g:TG) (h:W->DS->Option DS):Prop:=
 ∀ (G H:Hp) (δ:DS) (σ:St) (v:V) (d:W) (δ':DS) (Q:St->Hp->Prop),Rl K ρ G H δ σ->Dw K ρ G v d->h d δ=some δ'->(∀ σ',Rl K ρ G H δ' σ'->gy δ' σ' δ σ->Q σ' H)->g v σ H Q
noncomputable def FO (K:Frag) (ρ:List Addr) (g:tm) (h:List W->DS->Option DS):Prop:=
 ∀ (G H:Hp) (δ:DS) (σ:St) (vs:List V) (ds:List W) (δ':DS) (Q:St->Hp->Prop),Rl K ρ G H δ σ->aF K ρ G vs ds->h ds δ=some δ'->(∀ σ',Rl K ρ G H δ' σ'->gy δ' σ' δ σ->Q σ' H)->g vs σ H Q
noncomputable def aj (i:Nat):W->DS->Option DS:=λ d δ=>some (δ.set i (.val d))
theorem B7 {i:Nat}:DG K ρ (me i) (aj i):=λ G H δ σ v d δ' Q R dv e q=>by
 cases e;exact q _ (R.set dv) (kn R.len)
noncomputable def mf:List W->DS->Option DS:=λ ds δ=>match ds with
 | []=>some δ
 | _=>none
noncomputable def d8 (h:W->DS->Option DS) (k:List W->DS->Option DS):List W->DS->Option DS:=λ ds δ=>match ds with
 | d::r=>(h d δ).bind (k r)
 | _=>none
theorem AD:FO K ρ FW mf:=λ G H δ σ vs ds δ' Q R dv e q=>by
 cases dv with
 | nil=>cases e;exact ⟨rfl,q _ R (.refl _ _)⟩
 | cons _ _=>cases e
theorem xY {g:TG} {u:tm} {h:W->DS->Option DS} {k:List W->DS->Option DS} (h1:DG K ρ g h) (h2:FO K ρ u k):FO K ρ (BS g u) (d8 h k):=λ G H δ σ vs ds δ' Q R dv e q=>by
 cases dv with
 | nil=>cases e
 | cons a b=>
  obtain ⟨δ1,e1,e⟩:=oB e
  exact ⟨_,_,rfl,h1 G H δ σ _ _ δ1 _ R a e1 λ σ1 R1 o1=>h2 G H δ1 σ1 _ _ δ' Q R1 b e λ σ2 R2 o2=>q σ2 R2 (o2.trans o1)⟩
noncomputable def mi (n:Nat) (k:List W->DS->Option DS):W->DS->Option DS:=λ d δ=>match d with
 | .tuple ds=>if ds.length=n then k ds δ else none
 | _=>none
theorem El {n:Nat} {u:tm} {k:List W->DS->Option DS} (h:FO K ρ u k):DG K ρ (B2 K n u) (mi n k):=λ G H δ σ v d δ' Q R dv e q=>by
 cases dv with
 | tup sq da=>
  simp only [mi] at e;split at e
  . rename_i hn;exact ⟨_,_,rfl,R.sub.tup (ii.of sq),by rw [da.length];exact hn,h G H δ σ _ _ δ' Q R da e q⟩
  . cases e
 | _=>cases e
noncomputable def oK (δ:DS):Option Nat->Sl
 | none=>.no
 | some i=>δ[i]?.getD .no
noncomputable def Iw (σ:St):Option Nat->Option V
 | none=>none
 | some i=>match σ[i]? with
  | some v=>v
  | none=>none
noncomputable def bf (ix:List (Option Nat)) (δ:DS):DS:=ix.map (oK δ)
theorem nX {ix:List (Option Nat)} {σ:St} {j:Nat} {o:Option Nat} (h:ix[j]?=some o):(lift ix σ)[j]?=some (Iw σ o):=by
 unfold lift;rw [List.getElem?_map,h];cases o <;> rfl
theorem lG {ix:List (Option Nat)} {δ:DS} {j:Nat} {s:Sl} (h:(bf ix δ)[j]?=some s):∃ o,ix[j]?=some o/\s=oK δ o:=by
 unfold bf at h;rw [List.getElem?_map] at h;obtain ⟨o,h1,h2⟩:=oM h
 exact ⟨o,h1,h2.symm⟩
noncomputable def tI (ix:List (Option Nat)):Bool:=decide ((ix.filterMap id).Nodup)
theorem Ft {ix:List (Option Nat)} (h:(ix.filterMap id).Nodup):∀ {i j k:Nat},ix[i]?=some (some k)->ix[j]?=some (some k)->i=j:=by
 induction ix with
 | nil=>intro i j k h1;simp at h1
 | cons o r ih=>
  intro i j k h1 h2;have hr:(r.filterMap id).Nodup:=by
   cases o with
   | none=>simpa using h
   | some a=>
    have h':(a::r.filterMap id).Nodup:=h;exact (List.nodup_cons.mp h').2
  have hm:∀ m,r[m]?=some (some k)->k∈r.filterMap id:=λ m hm=>List.mem_filterMap.mpr ⟨some k,List.mem_of_getElem? hm,rfl⟩;cases i with
  | zero=>
   cases j with
   | zero=>rfl
   | succ j=>
    simp at h1 h2;subst h1;have h':(k::r.filterMap id).Nodup:=h;exact absurd (hm j h2) (List.nodup_cons.mp h').1
  | succ i=>
   cases j with
   | zero=>
    simp at h1 h2;subst h2;have h':(k::r.filterMap id).Nodup:=h;exact absurd (hm i h1) (List.nodup_cons.mp h').1
   | succ j=>
    simp at h1 h2;rw [ih hr h1 h2]
theorem Rl.lift {G H:Hp} {δ:DS} {σ:St} {ix:List (Option Nat)} (hx:tI ix=true) (R:Rl K ρ G H δ σ):Rl K ρ G H (bf ix δ) (lift ix σ):=by
 have hx':(ix.filterMap id).Nodup:=by simpa [tI] using hx
 have own:∀ {j:Nat} {ds:List W},(bf ix δ)[j]?=some (.own ds)->∃ i,ix[j]?=some (some i)/\δ[i]?=some (.own ds):=λ {j ds} h=>by
  obtain ⟨o,h1,h2⟩:=lG h;cases o with
  | none=>cases h2
  | some i=>
   refine ⟨i,h1,?_⟩;cases e:δ[i]? with
   | none=>simp [oK,e] at h2
   | some s=>simp [oK,e] at h2;rw [h2]
 have at':∀ {j i:Nat} {v:V},ix[j]?=some (some i)->(L2.lift ix σ)[j]?=some (some v)->σ[i]?=some (some v):=λ {j i v} h1 h2=>by
  rw [nX h1] at h2;simp only [Iw] at h2;split at h2
  . rename_i w e;rw [e];simpa using h2
  . cases h2
 refine ⟨R.sub,by simp [bf,L2.lift],λ j s h=>?_,λ j k p ds es h1 h2 h3 h4=>?_⟩
 . obtain ⟨o,h1,rfl⟩:=lG h;refine ⟨_,nX h1,?_⟩;cases o with
   | none=>trivial
   | some i=>
    cases e:δ[i]? with
    | none=>simp only [oK,e,Option.getD_none];trivial
    | some s=>
     obtain ⟨o,k1,k2⟩:=R.sl i s e;simp only [oK,Iw,e,k1,Option.getD_some];exact k2
 . obtain ⟨i1,a1,a2⟩:=own h1;obtain ⟨i2,b1,b2⟩:=own h2;have:=R.apart i1 i2 p ds es a2 b2 (at' a1 h3) (at' b1 h4);subst this;exact Ft hx' a1 b1
noncomputable def lB:DS->Option Bool:=λ _=>some true
theorem Dt:DT K ρ Gj lB:=λ G σ H δ b Q R e q=>by
 cases e;exact q G H (.refl R.sub)
noncomputable def gj (h:W->DS->Option DS) (c:DS->Option Bool) (fe:DS->Option W) (δ:DS):List W->Option (List W)
 | []=>some []
 | d::ds=>(h d δ).bind λ δ2=>(c δ2).bind λ b=>if b=true then (fe δ2).bind λ e=>(gj h c fe δ ds).map (e::·) else gj h c fe δ ds
noncomputable def vh (ix:List (Option Nat)) (fi:DS->Option (List W)) (h:W->DS->Option DS) (c:DS->Option Bool) (fe:DS->Option W):DS->Option (List W):=λ δ=>
 (fi δ).bind λ ds=>if ds.length<=sizeLine then gj h c fe (bf ix δ) ds else none
theorem A7 {ix:List (Option Nat)} {wi:TI} {g:TG} {tc:TT} {te:TE} {fi:DS->Option (List W)} {h:W->DS->Option DS} {c:DS->Option Bool} {fe:DS->Option W}
 (hx:tI ix=true) (hi:JL K ρ wi fi) (hg:DG K ρ g h) (hc:DT K ρ tc c) (he:DE K ρ te fe):DO K ρ (lV ix wi g tc te) (vh ix fi h c fe):=λ G σ H δ es Q R e q=>by
 obtain ⟨ds,ed,e⟩:=oB e
 split at e
 case isFalse=>cases e
 rename_i hz;refine hi G σ H δ ds _ R ed λ J G1 H1 g1 it=>?_;refine ⟨λ i m ys H2=>m=ds.length-i/\i<=ds.length/\ys.length<=i/\∃ G2 as bs,Gr G1 H1 G2 H2/\aF K ρ G2 ys as/\gj h c fe (bf ix δ) (ds.drop i)=some bs/\as++bs=es,⟨ds.length,by simp,Nat.zero_le _,Nat.le_refl _,G1,[],es,.refl g1.s,.nil,by simpa using e,rfl⟩,?_⟩;rintro i m ys H2 ⟨rfl,hil,hyl,G2,as,bs,g2,da,eb,rfl⟩;have ia:=it i G2 H2 g2;by_cases hlt:i<ds.length
 . refine .inr ?_;obtain ⟨go,step⟩:=ia.1 ds[i] (List.getElem?_eq_getElem hlt);rw [List.drop_eq_getElem_cons hlt] at eb;obtain ⟨δ2,e2,eb⟩:=oB eb
   obtain ⟨b,e3,eb⟩:=oB eb
   refine ⟨go,by omega,λ ys' H'=>ys'.length<=i+1/\∃ G2 as' bs',Gr G1 H1 G2 H'/\aF K ρ G2 ys' as'/\gj h c fe (bf ix δ) (ds.drop (i+1))=some bs'/\as'++bs'=as++bs,λ ys' H' hy0=>by obtain ⟨l,z⟩:=hy0;exact ⟨ds.length-(i+1),by omega,rfl,hlt,l,z⟩,λ x H' y=>?_⟩;obtain ⟨G3,g3,dx⟩:=step x H' y;have R3:=((R.grow g1).grow g2).grow g3;refine hg G3 H' (bf ix δ) _ x _ δ2 _ (R3.lift hx) dx e2 λ σ2 R4 _=>?_;refine hc G3 σ2 H' δ2 b _ R4 e3 λ G5 H5 g5=>?_;have g25:=g2.trans (g3.trans g5);have da5:=da.same (g3.trans g5).g;cases b with
   | false=>exact ⟨by omega,G5,as,bs,g25,da5,eb,rfl⟩
   | true=>
    obtain ⟨ev,e6,eb⟩:=oB eb
    obtain ⟨bs',e7,rfl⟩:=oM eb
    refine he G5 σ2 H5 δ2 ev _ (R4.grow g5) e6 λ v G6 H6 g6 dv=>?_;exact ⟨by simp;omega,G6,as++[ev],bs',g25.trans g6,(da5.same g6.g).app (.cons dv .nil),e7,by simp⟩
 . have hi':i=ds.length:=by omega
   subst hi';refine .inl ⟨ia.2 (Nat.le_refl _),by omega,λ p hp=>?_⟩;rw [List.drop_length] at eb;cases eb;rw [List.append_nil] at q;have n:Nw H2 (cR H2 p (.lst ys)) p (.lst ys):=.of hp;exact q p ys G2 _ (g1.trans (g2.trans (.nwO g2.s n))) (fN (g1.trans g2).h hp) (fN g2.s hp) aJ da
inductive fA where
 | nx (δ:DS)
 | bk (δ:DS)
 | ct (δ:DS)
 | rt (d:W)
structure Iv (K:Frag) (ρ:List Addr) (G0 H0 G H:Hp) (δ:DS) (σ:St):Prop where
 rl:Rl K ρ G H δ σ
 gr:Gr G0 H0 G H
 ow:∀ (i:Nat) p ds,δ[i]?=some (.own ds)->σ[i]?=some (some (.ref p))->H0 p=none
noncomputable def LF (K:Frag) (ρ:List Addr) (G0 H0:Hp) (D:jb):fA->Prop
 | .nx δ=>∀ σ G H,Iv K ρ G0 H0 G H δ σ->D.nx σ H
 | .bk δ=>∀ σ G H,Iv K ρ G0 H0 G H δ σ->D.bk σ H
 | .ct δ=>∀ σ G H,Iv K ρ G0 H0 G H δ σ->D.ct σ H
 | .rt d=>∀ v G H,Gr G0 H0 G H->Dw K ρ G v d->D.rt v H
noncomputable def nZ (K:Frag) (ρ:List Addr) (t:TS) (f:DS->Option fA):Prop:=
 ∀ (G0 H0 G:Hp) (σ:St) (H:Hp) (δ:DS) (o:fA) (D:jb),Iv K ρ G0 H0 G H δ σ->f δ=some o->LF K ρ G0 H0 D o->t D σ H
theorem Iv.grow {G0 H0 G H G' H':Hp} {δ:DS} {σ:St} (I:Iv K ρ G0 H0 G H δ σ) (g:Gr G H G' H'):Iv K ρ G0 H0 G' H' δ σ:=⟨I.rl.grow g,I.gr.trans g,I.ow⟩
theorem Iv.sub {G0 H0 G H:Hp} {δ δ':DS} {σ σ':St} (I:Iv K ρ G0 H0 G H δ σ) (R:Rl K ρ G H δ' σ') (o:gy δ' σ' δ σ):Iv K ρ G0 H0 G H δ' σ':=⟨R,I.gr,λ i p ds h1 h2=>by
 obtain ⟨es,h3,h4⟩:=o i ds p h1 h2;exact I.ow i p es h3 h4⟩
theorem Iv.base {G0 H0 G H:Hp} {δ:DS} {σ:St} (I:Iv K ρ G0 H0 G H δ σ):Iv K ρ G H0 G H δ σ:=⟨I.rl,⟨.refl _,I.gr.h,I.gr.s,λ _ _ h=>h⟩,I.ow⟩
theorem Gr.rebase {G0 H0 G H G' H':Hp} (a:Gr G0 H0 G H) (b:Gr G H0 G' H'):Gr G0 H0 G' H':=⟨a.g.trans b.g,b.h,b.s,λ c h1 h2=>b.n c h1 (a.n c h1 h2)⟩
theorem Iv.rebase {G0 H0 G H G' H':Hp} {δ:DS} {σ:St} (a:Gr G0 H0 G H) (I:Iv K ρ G H0 G' H' δ σ):Iv K ρ G0 H0 G' H' δ σ:=⟨I.rl,a.rebase I.gr,I.ow⟩
noncomputable def aI:DS->Option fA:=λ δ=>some (.nx δ)
theorem Bm:nZ K ρ C5 aI:=λ G0 H0 G σ H δ o D I e p=>by
 cases e;exact p σ G H I
noncomputable def aM (f g:DS->Option fA):DS->Option fA:=λ δ=>match f δ with
 | some (.nx δ')=>g δ'
 | o=>o
theorem xj {t u:TS} {f g:DS->Option fA} (h1:nZ K ρ t f) (h2:nZ K ρ u g):nZ K ρ (Dm t u) (aM f g):=λ G0 H0 G σ H δ o D I e p=>by
 unfold aM at e;cases ef:f δ with
 | none=>rw [ef] at e;cases e
 | some o1=>
  rw [ef] at e;refine h1 G0 H0 G σ H δ o1 _ I ef ?_;cases o1 with
  | nx δ'=>exact λ σ' G' H' I'=>h2 G0 H0 G' σ' H' δ' o D I' e p
  | bk δ'=>cases e;exact p
  | ct δ'=>cases e;exact p
  | rt d=>cases e;exact p
noncomputable def eV (c:DS->Option Bool) (f g:DS->Option fA):DS->Option fA:=λ δ=>(c δ).bind λ b=>if b=true then f δ else g δ
theorem BO {tc:TT} {t u:TS} {c:DS->Option Bool} {f g:DS->Option fA} (hc:DT K ρ tc c) (h1:nZ K ρ t f) (h2:nZ K ρ u g):nZ K ρ (Et tc t u) (eV c f g):=λ G0 H0 G σ H δ o D I e p=>by
 obtain ⟨b,eb,e⟩:=oB e
 refine hc G σ H δ b _ I.rl eb λ G1 H1 g1=>?_;cases b with
 | true=>exact h1 G0 H0 G1 σ H1 δ o D (I.grow g1) e p
 | false=>exact h2 G0 H0 G1 σ H1 δ o D (I.grow g1) e p
noncomputable def bw (f:DS->Option W):DS->Option fA:=λ δ=>(f δ).map .rt
theorem zb {t:TE} {f:DS->Option W} (h:DE K ρ t f):nZ K ρ (EQ t) (bw f):=λ G0 H0 G σ H δ o D I e p=>by
 obtain ⟨d,ed,rfl⟩:=oM e
 exact h G σ H δ d _ I.rl ed λ v G1 H1 g1 dv=>p v G1 H1 (I.gr.trans g1) dv
noncomputable def o6:DS->Option fA:=λ _=>some (.rt .none)
theorem AJ:nZ K ρ Cj o6:=λ G0 H0 G σ H δ o D I e p=>by
 cases e;exact p .non G H I.gr .non
noncomputable def eQ:DS->Option fA:=λ _=>none
theorem xU {t:TS}:nZ K ρ t eQ:=λ G0 H0 G σ H δ o D I e p=>by cases e
noncomputable def aW (f:DS->Option W) (h:W->DS->Option DS):DS->Option fA:=λ δ=>(f δ).bind λ d=>(h d δ).map .nx
theorem yA {t:TE} {g:TG} {f:DS->Option W} {h:W->DS->Option DS} (h1:DE K ρ t f) (h2:DG K ρ g h):nZ K ρ (tY t g) (aW f h):=λ G0 H0 G σ H δ o D I e p=>by
 obtain ⟨d,ed,e⟩:=oB e
 obtain ⟨δ',e2,rfl⟩:=oM e
 exact h1 G σ H δ d _ I.rl ed λ v G1 H1 g1 dv=>h2 G1 H1 δ σ v d δ' _ (I.rl.grow g1) dv e2 λ σ' R o=>p σ' G1 H1 ((I.grow g1).sub R o)
noncomputable def gK (i:Nat) (f:DS->Option (List W)):DS->Option fA:=λ δ=>(f δ).map λ ds=>.nx (δ.set i (.own ds))
theorem zn {i:Nat} {t:TE} {f:DS->Option (List W)} (h:DO K ρ t f):nZ K ρ (tY t (me i)) (gK i f):=λ G0 H0 G σ H δ o D I e p=>by
 obtain ⟨ds,ed,rfl⟩:=oM e
 refine h G σ H δ ds _ I.rl ed λ q vs G1 H1 g1 h0 g0 hh da=>?_;have I1:=I.grow g1;refine p _ G1 H1 ⟨I1.rl.setO g0 hh da λ j es hj h1 h2=>?_,I1.gr,λ j q' ds' h1 h2=>?_⟩
 . obtain ⟨o,k1,q1,vs1,k2,k3,k4,_⟩:=I.rl.sl j _ h1;rw [h2] at k1;cases k1;cases k2;rw [h0] at k4;cases k4
 . rcases fh h1 with ⟨rfl,_,hl⟩ | ⟨ne,h1⟩
   . rw [lA (by rw [<-I.rl.len];exact hl)] at h2;cases h2;exact fN I.gr.h h0
   . rw [List.getElem?_set_ne ne] at h2;exact I.ow j q' _ h1 h2
noncomputable def frz (i:Nat) (δ:DS):DS:=match δ[i]? with
 | some (.own ds)=>δ.set i (.val (.list ds))
 | _=>δ
noncomputable def ir (i:Nat) (f:DS->Option fA):DS->Option fA:=λ δ=>f (frz i δ)
theorem Iv.frz {G0 H0 G H:Hp} {δ:DS} {σ:St} (i:Nat) (I:Iv K ρ G0 H0 G H δ σ):∃ G',Iv K ρ G0 H0 G' H (L2.frz i δ) σ:=by
 unfold L2.frz;split
 . rename_i ds h;obtain ⟨o,h1,p,vs,rfl,h3,h4,h5⟩:=I.rl.sl i _ h;have h0:=I.ow i p ds h h1;have g:bo G (cR G p (.lst vs)):=kU h3 _;have set1:σ=σ.set i (some (.ref p)):=by
    apply List.ext_getElem?;intro j;by_cases e:i=j
    . subst e;rw [lA (oG h1).1,h1]
    . rw [List.getElem?_set_ne e]
   refine ⟨cR G p (.lst vs),⟨⟨ph I.gr.s h4,by rw [List.length_set];exact I.rl.len,λ j s e=>?_,λ j k q ds' es' k1 k2 k3 k4=>?_⟩,I.gr.new h0 h3 h4,λ j q ds' k1 k2=>?_⟩⟩
   . rcases fh e with ⟨rfl,rfl,hl⟩ | ⟨ne,e⟩
     . exact ⟨_,h1,.ref p,rfl,.lst (dM.of aJ) (h5.same g)⟩
     . obtain ⟨o,k1,k2⟩:=I.rl.sl j s e;refine ⟨o,k1,?_⟩;cases s with
       | no=>trivial
       | val d=>
        obtain ⟨v,e1,e2⟩:=k2;exact ⟨v,e1,e2.same g⟩
       | own es=>
        obtain ⟨q,ws,rfl,e2,e3,e4⟩:=k2;refine ⟨q,ws,rfl,?_,e3,e4.same g⟩;rw [aL]
        . exact e2
        . rintro rfl;exact ne (I.rl.apart i j q ds es h e h1 k1)
   all_goals
    rcases fh k1 with ⟨_,z,_⟩ | ⟨ne,k1⟩
    . cases z
   . rcases fh k2 with ⟨_,z,_⟩ | ⟨ne2,k2⟩
     . cases z
     . exact I.rl.apart j k q ds' es' k1 k2 k3 k4
   . exact I.ow j q ds' k1 k2
 . exact ⟨G,I⟩
theorem x8 {i:Nat} {t:TS} {f:DS->Option fA} (h:nZ K ρ t f):nZ K ρ t (ir i f):=λ G0 H0 G σ H δ o D I e p=>by
 obtain ⟨G',I'⟩:=I.frz i;exact h G0 H0 G' σ H _ o D I' e p
noncomputable def bO (h:W->DS->Option DS) (fb:DS->Option fA):List W->DS->Option fA
 | [],δ=>some (.nx δ)
 | d::ds,δ=>(h d δ).bind λ δ2=>match fb δ2 with
  | some (.nx δ')=>bO h fb ds δ'
  | some (.ct δ')=>bO h fb ds δ'
  | some (.bk δ')=>some (.nx δ')
  | some (.rt d)=>some (.rt d)
  | none=>none
noncomputable def mz (fi:DS->Option (List W)) (h:W->DS->Option DS) (fb:DS->Option fA):DS->Option fA:=λ δ=>(fi δ).bind λ ds=>bO h fb ds δ
theorem xx {wi:TI} {g:TG} {tb:TS} {fi:DS->Option (List W)} {h:W->DS->Option DS} {fb:DS->Option fA} (hi:DI K ρ wi fi) (hg:DG K ρ g h) (hb:nZ K ρ tb fb):nZ K ρ (E3 wi g tb) (mz fi h fb):=λ G0 H0 G σ H δ o D I e p=>by
 obtain ⟨ds,ed,e⟩:=oB e
 refine hi G σ H δ ds _ I.rl ed λ J G1 H1 g1 it=>?_;refine ⟨λ i m σ H=>m=ds.length-i/\i<=ds.length/\∃ G δ,Iv K ρ G0 H0 G H δ σ/\bo G1 G/\bO h fb (ds.drop i) δ=some o,⟨ds.length,by simp,Nat.zero_le _,G1,δ,I.grow g1,.refl _,by simpa using e⟩,?_⟩;rintro i m σ2 H2 ⟨rfl,hil,G2,δ2,I2,s2,e2⟩;have ia:=it i G2 H2 s2 I2.gr.s;by_cases hlt:i<ds.length
 . refine .inr ?_;obtain ⟨go,step⟩:=ia.1 ds[i] (List.getElem?_eq_getElem hlt);rw [List.drop_eq_getElem_cons hlt] at e2;obtain ⟨δ3,e3,e4⟩:=oB e2
   have back:∀ {G3 H3:Hp},Gr G2 H2 G3 H3->∀ {G4 H4:Hp} {σ4:St} {δ4:DS},Iv K ρ G3 H0 G4 H4 δ4 σ4->Iv K ρ G0 H0 G4 H4 δ4 σ4/\bo G1 G4:=λ {G3 H3} g3 {G4 H4 σ4 δ4} I4=>⟨I4.rebase (I2.gr.trans g3),s2.trans (g3.g.trans I4.gr.g)⟩
   have again:∀ (δ':DS),bO h fb (ds.drop (i+1)) δ'=some o->(fb δ3=some (.nx δ')∨fb δ3=some (.ct δ'))->∃ N:St->Hp->Prop,(∀ σ' H',N σ' H'->∃ m',m'<ds.length-i/\m'=ds.length-(i+1)/\i+1<=ds.length/\∃ G δ,Iv K ρ G0 H0 G H' δ σ'/\bo G1 G/\bO h fb (ds.drop (i+1)) δ=some o)/\∀ x H',J.yld i H2 x H'->g x σ2 H' λ σ2 H2=>tb { D with nx:=N,ct:=N,bk:=D.nx } σ2 H2:=λ δ' ed' ef=>by
    refine ⟨λ σ' H'=>∃ G',Iv K ρ G0 H0 G' H' δ' σ'/\bo G1 G',λ σ' H' hy0=>by obtain ⟨G',I',s'⟩:=hy0;exact ⟨ds.length-(i+1),by omega,rfl,hlt,G',δ',I',s',ed'⟩,λ x H' y=>?_⟩;obtain ⟨G3,g3,dx⟩:=step x H' y;have I3:=I2.grow g3;refine hg G3 H' δ2 σ2 x _ δ3 _ I3.rl dx e3 λ σ3 R3 o3=>?_;have I4:=(I3.sub R3 o3).base;rcases ef with ef | ef
    . exact hb G3 H0 G3 σ3 H' δ3 _ _ I4 ef λ σ5 G5 H5 I5=>⟨G5,back g3 I5⟩
    . exact hb G3 H0 G3 σ3 H' δ3 _ _ I4 ef λ σ5 G5 H5 I5=>⟨G5,back g3 I5⟩
   cases ef:fb δ3 with
   | none=>rw [ef] at e4;cases e4
   | some o1=>
    rw [ef] at e4;cases o1 with
    | nx δ'=>
     obtain ⟨N,n1,n2⟩:=again δ' e4 (.inl ef);exact ⟨go,N,n1,n2⟩
    | ct δ'=>
     obtain ⟨N,n1,n2⟩:=again δ' e4 (.inr ef);exact ⟨go,N,n1,n2⟩
    | bk δ'=>
     cases e4;refine ⟨go,λ _ _=>False,λ _ _ z=>z.elim,λ x H' y=>?_⟩;obtain ⟨G3,g3,dx⟩:=step x H' y;have I3:=I2.grow g3;refine hg G3 H' δ2 σ2 x _ δ3 _ I3.rl dx e3 λ σ3 R3 o3=>?_;exact hb G3 H0 G3 σ3 H' δ3 _ _ (I3.sub R3 o3).base ef λ σ5 G5 H5 I5=>p σ5 G5 H5 (back g3 I5).1
    | rt d=>
     cases e4;refine ⟨go,λ _ _=>False,λ _ _ z=>z.elim,λ x H' y=>?_⟩;obtain ⟨G3,g3,dx⟩:=step x H' y;have I3:=I2.grow g3;refine hg G3 H' δ2 σ2 x _ δ3 _ I3.rl dx e3 λ σ3 R3 o3=>?_;exact hb G3 H0 G3 σ3 H' δ3 _ _ (I3.sub R3 o3).base ef λ v G5 H5 g5 dv=>p v G5 H5 ((I2.gr.trans g3).rebase g5) dv
 . have hi':i=ds.length:=by omega
   subst hi';rw [List.drop_length] at e2;cases e2;exact .inl ⟨ia.2 (Nat.le_refl _),p σ2 G2 H2 I2⟩
noncomputable def ny (i:Nat) (δ:DS):Option (List W):=match δ[i]? with
 | some (.own ds)=>some ds
 | _=>none
theorem xW {i:Nat} {δ:DS} {ds:List W} (h:ny i δ=some ds):δ[i]?=some (.own ds):=by
 unfold ny at h;split at h
 . rename_i e;cases h;exact e
 . cases h
theorem Iv.put {G0 H0 G H:Hp} {δ:DS} {σ:St} {i:Nat} {ds es:List W} {p:Addr} {vs:List V} (I:Iv K ρ G0 H0 G H δ σ) (h:δ[i]?=some (.own ds)) (hp:σ[i]?=some (some (.ref p))) (g0:G p=none) (da:aF K ρ G vs es):Iv K ρ G0 H0 G (cR H p (.lst vs)) (δ.set i (.own es)) σ:=by
 have h0:=I.ow i p ds h hp;have sG:bo G (cR H p (.lst vs)):=λ b o e=>by
  rw [aL (λ z=>by rw [z,g0] at e;cases e)];exact I.gr.s _ _ e
 refine ⟨⟨sG,by rw [List.length_set];exact I.rl.len,λ j s e=>?_,λ j k q ds' es' k1 k2 k3 k4=>?_⟩,⟨I.gr.g,λ b o e=>?_,sG,I.gr.n⟩,λ j q ds' k1 k2=>?_⟩
 . rcases fh e with ⟨rfl,rfl,hl⟩ | ⟨ne,e⟩
   . exact ⟨_,hp,p,vs,rfl,g0,aJ,da⟩
   . obtain ⟨o,k1,k2⟩:=I.rl.sl j s e;refine ⟨o,k1,?_⟩;cases s with
     | no=>trivial
     | val d=>exact k2
     | own es2=>
      obtain ⟨q,ws,rfl,e2,e3,e4⟩:=k2;refine ⟨q,ws,rfl,e2,?_,e4⟩;rw [aL]
      . exact e3
      . rintro rfl;exact ne (I.rl.apart i j q ds es2 h e hp k1)
 . rcases fh k1 with ⟨rfl,_,_⟩ | ⟨ne,k1⟩ <;> rcases fh k2 with ⟨rfl,_,_⟩ | ⟨ne2,k2⟩
   . rfl
   . exact I.rl.apart _ _ q _ _ h k2 k3 k4
   . exact I.rl.apart _ _ q _ _ k1 h k3 k4
   . exact I.rl.apart _ _ q _ _ k1 k2 k3 k4
 . rw [aL (λ z=>by rw [z,h0] at e;cases e)];exact I.gr.h _ _ e
 . rcases fh k1 with ⟨rfl,_,_⟩ | ⟨ne,k1⟩
   . exact I.ow _ q _ h k2
   . exact I.ow j q _ k1 k2
noncomputable def aV (i:Nat) (f:DS->Option W):DS->Option fA:=λ δ=>(ny i δ).bind λ ds=>(f δ).bind λ d=>if ds.length<sizeLine then some (.nx (δ.set i (.own (ds++[d])))) else none
theorem pR {i:Nat} {t:TE} {f:DS->Option W} (h:DE K ρ t f):nZ K ρ (vi (GN K "list" mS (AG i) (iY t lI))) (aV i f):=λ G0 H0 G σ H δ o D I e p=>by
 obtain ⟨ds,eo,e⟩:=oB e
 obtain ⟨d,ed,e⟩:=oB e
 split at e
 case isFalse=>cases e
 rename_i hz;cases e;have ho:=xW eo;obtain ⟨o,h1,q,vs,rfl,h3,h4,h5⟩:=I.rl.sl i _ ho;refine ⟨.ref q,h1,.inl ⟨rfl,vs,dM.of h4⟩,h G σ H δ d _ I.rl ed λ v G1 H1 g1 dv=>⟨q,vs,v,rfl,rfl,g1.h _ _ h4,by rw [h5.length];exact hz,?_⟩⟩;have I1:=I.grow g1;exact p σ G1 _ (I1.put ho h1 (g1.n q (.l h4) h3) ((h5.same g1.g).app (.cons dv .nil)))
noncomputable def Fu (i:Nat) (fi fv:DS->Option W):DS->Option fA:=λ δ=>(fv δ).bind λ d=>(ny i δ).bind λ ds=>(fi δ).bind λ x=>match x with
 | .int k=>(B5 ds.length k).map λ j=>.nx (δ.set i (.own (ds.set j d)))
 | _=>none
end
section
variable {K:Frag} {ρ:List Addr}
noncomputable def sZ (K:Frag) (f:List W->Option W):Sp:=λ vs H Q _=>∃ ρ G ds d,bo G H/\aF K ρ G vs ds/\f ds=some d/\∀ v G' H',Gr G H G' H'->Dw K ρ G' v d->Q v H'
noncomputable def bU (f:List W->Option W) (fa:DS->Option (List W)):DS->Option W:=λ δ=>(fa δ).bind f
theorem A3 {f:List W->Option W} {t:TA} {fa:DS->Option (List W)} {E:XK} (h:DA K ρ t fa):DE K ρ (se (sZ K f) [] E t) (bU f fa):=λ G σ H δ d Q R e q=>by
 obtain ⟨ds,ed,e⟩:=oB e
 exact h G σ H δ ds _ R ed λ vs G1 H1 g1 da=>by
  refine ⟨ρ,G1,ds,d,g1.s,?_,e,λ v G2 H2 g2 dv=>q v G2 H2 (g1.trans g2) dv⟩;rw [List.append_nil];exact da
noncomputable def ff (n:Nat) (ds:List W):DS:=ds.map .val++List.replicate (n-ds.length) .no
noncomputable def By:Option fA->Option W
 | some (.rt d)=>some d
 | some (.nx _)=>some .none
 | _=>none
noncomputable def eu (a n:Nat) (fb:DS->Option fA):List W->Option W:=λ ds=>if ds.length=a then By (fb (ff n ds)) else none
theorem pf {a n:Nat} {fb:DS->Option fA} {ds:List W} {d:W} (h:eu a n fb ds=some d):ds.length=a:=by
 unfold eu at h;split at h
 . assumption
 . cases h
theorem Bc {f:List W->Option W} {a:Nat} {vs:List V} {H:Hp} {Q:VK} {E:XK} (hf:∀ ds d,f ds=some d->ds.length=a) (h:sZ K f vs H Q E):vs.length=a:=by
 obtain ⟨ρ,G,ds,d,s,da,e,q⟩:=h;rw [da.length];exact hf ds d e
theorem iA {n:Nat} {ds:List W} {i:Nat} {es:List W}:(ff n ds)[i]?≠some (.own es):=by
 unfold ff;intro h;rcases Nat.lt_or_ge i (ds.map Sl.val).length with hl | hl
 . rw [List.getElem?_append_left hl,List.getElem?_map] at h;obtain ⟨d,_,e⟩:=oM h
   cases e
 . rw [List.getElem?_append_right hl,List.getElem?_replicate] at h;split at h <;> cases h
theorem rq {G H:Hp} {N:List Str} {vs:List V} {ds:List W} (s:bo G H) (h:aF K ρ G vs ds):Rl K ρ G H (ff N.length ds) (start N vs):=by
 refine ⟨s,by simp [ff,start,h.length],λ i sl e=>?_,λ i j p ds' es' h1=>absurd h1 iA⟩;unfold ff at e;unfold start;rcases Nat.lt_or_ge i ds.length with hl | hl
 . rw [List.getElem?_append_left (by simpa using hl),List.getElem?_map] at e;obtain ⟨d,e1,rfl⟩:=oM e
   obtain ⟨v,h1,h2⟩:=h.get e1;refine ⟨some v,?_,v,rfl,h2⟩;rw [List.getElem?_append_left (by simp [h.length];exact hl),List.getElem?_map,h1];rfl
 . rw [List.getElem?_append_right (by simpa using hl),List.getElem?_replicate] at e;split at e
   . cases e;rename_i hlt;refine ⟨none,?_,trivial⟩;rw [List.getElem?_append_right (by simp [h.length];exact hl),List.getElem?_replicate,if_pos];simp only [List.length_map] at hlt ⊢;rw [h.length];exact hlt
   . cases e
theorem Ks {t:TS} {fb:DS->Option fA} {N:List Str} {a n:Nat} {vs:List V} {H:Hp} {Q:VK} {E:XK} (hn:N.length=n) (h:∀ ρ,nZ K ρ t fb) (hsp:sZ K (eu a n fb) vs H Q E):t { nx:=λ _ H'=>Q .non H',rt:=Q } (start N vs) H:=by
 subst hn;obtain ⟨ρ,G,ds,d,s,da,e,q⟩:=hsp;have R:=rq (N:=N) s da;have I:Iv K ρ G H G H (ff N.length ds) (start N vs):=⟨R,.refl s,λ i p ds' h1=>absurd h1 iA⟩
 unfold eu at e;rw [if_pos (pf (show eu a N.length fb ds=some d from e))] at e;cases ef:fb (ff N.length ds) with
 | none=>rw [ef] at e;cases e
 | some o=>
  rw [ef] at e;refine h ρ G H G _ H _ o _ I ef ?_;cases o with
  | nx δ=>cases e;exact λ σ' G' H' I'=>q _ G' H' I'.gr .non
  | rt d'=>cases e;exact λ v G' H' g dv=>q v G' H' g dv
  | bk _=>cases e
  | ct _=>cases e
end
noncomputable def Ct (K:Frag):R2:=λ x y H Q=>∃ l b xs zs,x=.ref l/\y=.ref b/\dM K H l xs/\dM K H b zs/\xs.length+zs.length<=sizeLine/\∀ p H',Nw H H' p (.lst (xs++zs))->Q (.ref p) H'
theorem AO {X:Cx}:ig X (binaryOp .Add) (Ct X.K):=by
 intro pins s σ H x y v u Q I rx ry h;obtain ⟨l,b,xs,zs,rfl,rfl,hH,hB,hz,q⟩:=h;cases rx;cases ry;obtain ⟨its,r,hl,_⟩:=I.list hH;obtain ⟨its2,r2,hb,_⟩:=I.list hB;obtain ⟨⟨cls,dd,data,sl⟩,n,ho,hc,hdd,hd⟩:=hl;obtain ⟨⟨cls2,dd2,data2,sl2⟩,n2,ho2,hc2,hdd2,hd2⟩:=hb;simp only at hc hd hc2 hd2;subst hc hd hc2 hd2;have e:its.toArray++its2.toArray=(its++its2).toArray:=by simp
 refine concat_meets ⟨_,ho,rfl⟩ ⟨_,ho2,rfl⟩ noFill_list_add seq_list_add PySem.F.slot_list_add PySem.F.entry_list_add (PySem.F.args_list_add_2 _ _) (list_addW l b its.toArray its2.toArray n n2 dd dd2 sl sl2 (by rw [List.size_toArray,List.size_toArray,<-r.length,<-r2.length];exact hz)) ⟨ho,ho2,?_⟩;rw [e];exact ⟨.ref _,_,I.lnew (t':=s.toks) (r.append r2) (by rw [List.length_append];omega),rfl,q _ _ (.of I.fresh)⟩
noncomputable def AE:R2:=λ x y H Q=>∃ i j,x=.str i/\y=.str j/\i.length+j.length<=sizeLine/\Q (.str (i++j)) H
noncomputable def C4 (K:Frag):R2:=λ x y H Q=>tf (λ i j=>.int (i+j)) x y H Q∨AE x y H Q∨Ct K x y H Q∨Ca K x y H Q
theorem IW {X:Cx} {K:Frag} (h:X.K=K):ig X (binaryOp .Add) (C4 K):=h▸E9.or (tN.or (AO.or B3))
section
variable {K:Frag} {ρ:List Addr}
noncomputable def bv:W->W->Option W
 | .int i,.int j=>some (.int (i+j))
 | .str i,.str j=>if i.length+j.length<=sizeLine then some (.str (i++j)) else none
 | .list a,.list b=>if a.length+b.length<=sizeLine then some (.list (a++b)) else none
 | .tuple a,.tuple b=>if a≠[]/\a.length+b.length<=sizeLine then some (.tuple (a++b)) else none
 | _,_=>none
theorem u5 {G H:Hp} {v:V} {i:Int} (h:Pk K ρ G H v (.int i)):v=.int i:=by
 rcases h with h | ⟨_,_,_,_,e,_⟩
 . exact fG h
 . cases e
theorem qf {G H:Hp} {v:V} {i:Str} (h:Pk K ρ G H v (.str i)):v=.str i:=by
 rcases h with h | ⟨_,_,_,_,e,_⟩
 . exact zq h
 . cases e
theorem qz {G H:Hp} {v:V} {ds:List W} (s:bo G H) (h:Pk K ρ G H v (.list ds)):∃ p vs,v=.ref p/\dM K H p vs/\aF K ρ G vs ds:=by
 rcases h with h | ⟨p,vs,es,rfl,e,h1,h2⟩
 . cases h with
   | lst sq da=>exact ⟨_,_,rfl,s.seq sq,da⟩
 . cases e;exact ⟨p,vs,rfl,dM.of h1,h2⟩
theorem Ed {G:Hp} {v:V} {ds:List W} (h:Dw K ρ G v (.list ds)):∃ p vs,v=.ref p/\dM K G p vs/\aF K ρ G vs ds:=by
 cases h with
 | lst sq da=>exact ⟨_,_,rfl,sq,da⟩
theorem xR {G:Hp} {v:V} {ds:List W} (h:Dw K ρ G v (.tuple ds)):∃ p vs,v=.ref p/\G p=some (.tup vs)/\aF K ρ G vs ds:=by
 cases h with
 | tup sq da=>exact ⟨_,_,rfl,sq,da⟩
theorem qo {G H:Hp} {v:V} {ds:List W} (h:Pk K ρ G H v (.tuple ds)):∃ p vs,v=.ref p/\G p=some (.tup vs)/\aF K ρ G vs ds:=by
 rcases h with h | ⟨_,_,_,_,e,_⟩
 . exact xR h
 . cases e
theorem FA:DR K ρ (C4 K) bv:=λ G H x y d e c Q s hx hy hg q=>by
 cases d with
 | int i=>
  cases e with
  | int j=>
   cases hg;cases u5 hx;cases fG hy;exact .inl ⟨_,_,rfl,rfl,q _ G H (.refl s) (.int _)⟩
  | _=>cases hg
 | str a=>
  cases e with
  | str b=>
   by_cases hz:a.length+b.length<=sizeLine
   . cases (if_pos hz).symm.trans hg;cases qf hx;cases zq hy;exact .inr (.inl ⟨_,_,rfl,rfl,hz,q _ G H (.refl s) (.str _)⟩)
   . cases (if_neg hz).symm.trans hg
  | _=>cases hg
 | list a=>
  cases e with
  | list b=>
   by_cases hz:a.length+b.length<=sizeLine
   . cases (if_pos hz).symm.trans hg;obtain ⟨p,vs,rfl,sq,da⟩:=qz s hx;obtain ⟨p2,vs2,rfl,sq2,da2⟩:=Ed hy;refine .inr (.inr (.inl ⟨p,p2,vs,vs2,rfl,rfl,sq,s.seq sq2,by rw [da.length,da2.length];exact hz,λ l H' n=>?_⟩));have g:=Gr.nw s n;exact q _ _ H' g (.lst (dM.of aJ) ((da.same g.g).app (da2.same g.g)))
   . cases (if_neg hz).symm.trans hg
  | _=>cases hg
 | tuple a=>
  cases e with
  | tuple b=>
   by_cases hz:a≠[]/\a.length+b.length<=sizeLine
   . cases (if_pos hz).symm.trans hg;obtain ⟨p,vs,rfl,sq,da⟩:=qo hx;obtain ⟨p2,vs2,rfl,sq2,da2⟩:=xR hy;refine .inr (.inr (.inr ⟨p,p2,vs,vs2,rfl,rfl,s.tup (ii.of sq),s.tup (ii.of sq2),?_,by rw [da.length,da2.length];exact hz.2,λ e=>?_,λ e l hl=>?_⟩))
     . rintro rfl;cases da;exact hz.1 rfl
     . subst e;cases da2;rw [List.append_nil] at q;exact q _ G H (.refl s) (.tup sq da)
     . have g:=Gr.nw s (Nw.of (o:=.tup (vs++vs2)) hl);exact q _ _ _ g (.tup aJ ((da.same g.g).app (da2.same g.g)))
   . cases (if_neg hz).symm.trans hg
  | _=>cases hg
 | _=>cases hg
noncomputable def GD:W->W->Option (List W)
 | .list a,.list b=>if a.length+b.length<=sizeLine then some (a++b) else none
 | _,_=>none
noncomputable def Hs (fa fb:DS->Option W):DS->Option (List W):=λ δ=>(fa δ).bind λ x=>(fb δ).bind λ y=>GD x y
noncomputable def gI (f:Int->Int->Int):W->W->Option W
 | .int i,.int j=>some (.int (f i j))
 | _,_=>none
noncomputable def Cc (C:Int->Int->Bool) (f:Int->Int->Int):W->W->Option W
 | .int i,.int j=>if C i j=true then some (.int (f i j)) else none
 | _,_=>none
theorem GW {f:Int->Int->Int}:DR K ρ (tf λ i j=>.int (f i j)) (gI f):=λ G H x y d e c Q s hx hy hg q=>by
 unfold gI at hg;split at hg
 . cases hg;cases u5 hx;cases fG hy;exact ⟨_,_,rfl,rfl,q _ G H (.refl s) (.int _)⟩
 . cases hg
theorem yL {C:Int->Int->Prop} {Cb:Int->Int->Bool} {f:Int->Int->Int} (hC:∀ i j,Cb i j=true->C i j):DR K ρ (rI C λ i j=>.int (f i j)) (Cc Cb f):=λ G H x y d e c Q s hx hy hg q=>by
 unfold Cc at hg;split at hg
 . split at hg
   . rename_i hc;cases hg;cases u5 hx;cases fG hy;exact ⟨_,_,rfl,rfl,hC _ _ hc,q _ G H (.refl s) (.int _)⟩
   . cases hg
 . cases hg
noncomputable def gSub':W->W->Option W:=gI λ i j=>i-j
theorem DN:DR K ρ (tf λ i j=>.int (i-j)) gSub':=GW
theorem uu:2^200<2^512:=Nat.pow_lt_pow_right (by decide) (by decide)
noncomputable def mn (i j:Int):Bool:=decide (i.natAbs<2^64)||decide (j.natAbs<2^64)||(decide (i.natAbs<2^200)&&decide (j.natAbs<2^200))
noncomputable def Cw (i j:Int):Prop:=AM i j∨Cq i j
theorem Ja {X:Cx}:ig X (binaryOp .Mult) (rI Cw λ i j=>.int (i*j)):=λ pins s σ H x y v u Q I rx ry h=>by
 obtain ⟨i,j,e1,e2,hc,q⟩:=h;rcases hc with hc | hc
 . exact CH pins s σ H x y v u Q I rx ry ⟨i,j,e1,e2,hc,q⟩
 . exact B8 pins s σ H x y v u Q I rx ry ⟨i,j,e1,e2,hc,q⟩
noncomputable def o7 (i j:Int):Bool:=decide (j≠0)&&decide (j.natAbs<2^200)
noncomputable def sV (i j:Int):Bool:=decide (j≠0)
noncomputable def je:W->W->Option W:=Cc mn λ i j=>i*j
noncomputable def jx:W->W->Option W:=Cc o7 λ i j=>i.fdiv j
noncomputable def cx:W->W->Option W:=Cc sV λ i j=>i.fmod j
theorem E6:DR K ρ (rI Cw λ i j=>.int (i*j)) je:=yL λ i j h=>by
 simp only [mn,Bool.and_eq_true,Bool.or_eq_true,decide_eq_true_eq] at h;rcases h with (h | h) | h
 . exact .inl (.inl ⟨by omega,by omega⟩)
 . exact .inl (.inr ⟨by omega,by omega⟩)
 . exact .inr ⟨Nat.lt_trans h.1 uu,Nat.lt_trans h.2 uu⟩
theorem CN:DR K ρ (rI Cs λ i j=>.int (i.fdiv j)) jx:=yL λ i j h=>by
 simp only [o7,Bool.and_eq_true,decide_eq_true_eq] at h;exact ⟨h.1,Nat.lt_trans h.2 uu⟩
theorem Ei:DR K ρ (rI (λ _ j=>j≠0) λ i j=>.int (i.fmod j)) cx:=yL λ i j h=>by simpa [sV] using h
noncomputable def dD:W->Option W
 | .int i=>some (.int (-i))
 | _=>none
noncomputable def jQ (g:W->Option W) (f:DS->Option W):DS->Option W:=λ δ=>(f δ).bind g
theorem DV {t:TE} {f:DS->Option W} (h:DE K ρ t f):DE K ρ (KY (rU λ i=>.int (-i)) t) (jQ dD f):=λ G σ H δ d Q R e q=>by
 obtain ⟨x,ex,e⟩:=oB e
 refine h G σ H δ x _ R ex λ v G1 H1 g1 dv=>?_;unfold dD at e;split at e
 . cases e;cases fG dv;exact ⟨_,rfl,q _ G1 H1 g1 (.int _)⟩
 . cases e
noncomputable def cI (p:Int->Int->Bool):W->W->Option Bool
 | .int i,.int j=>some (p i j)
 | _,_=>none
theorem Bz {p:Int->Int->Bool}:DB K ρ (tf λ i j=>.bl (p i j)) (cI p):=λ H x y d e b Q hx hy hg q=>by
 unfold cI at hg;split at hg
 . cases hg;cases fG hx;cases fG hy;exact ⟨_,_,rfl,rfl,q⟩
 . cases hg
noncomputable def rX:W->W->Option Bool:=cI λ i j=>decide (i<j)
noncomputable def Kt:W->W->Option Bool:=cI λ i j=>decide (i<=j)
noncomputable def mD:W->W->Option Bool:=cI λ i j=>decide (j<i)
noncomputable def Ir:W->W->Option Bool:=cI λ i j=>decide (j<=i)
theorem Gq:DB K ρ (tf λ i j=>.bl (decide (i<j))) rX:=Bz
theorem GB:DB K ρ (tf λ i j=>.bl (decide (i<=j))) Kt:=Bz
theorem Hj:DB K ρ (tf λ i j=>.bl (decide (j<i))) mD:=Bz
theorem FQ:DB K ρ (tf λ i j=>.bl (decide (j<=i))) Ir:=Bz
noncomputable def IB:W->Bool
 | .none=>true
 | _=>false
noncomputable def ic:W->W->Option Bool
 | d,.none=>some (IB d)
 | _,_=>none
theorem vF {H:Hp} {x:V} {d:W} (h:Dw K ρ H x d):decide (x=.non)=IB d:=by
 cases h <;> simp [IB]
theorem Eb:DB K ρ (λ x y H Q=>y=.non/\Q (.bl (decide (x=.non))) H) ic:=λ H x y d e b Q hx hy hg q=>by
 unfold ic at hg;split at hg
 . cases hg;cases tE hy;exact ⟨rfl,by rw [vF hx];exact q⟩
 . cases hg
noncomputable def iO:W->W->Option Bool
 | d,.none=>some (!(IB d))
 | _,_=>none
theorem Au:DB K ρ (λ x y H Q=>y=.non/\Q (.bl (!decide (x=.non))) H) iO:=λ H x y d e b Q hx hy hg q=>by
 unfold iO at hg;split at hg
 . cases hg;cases tE hy;exact ⟨rfl,by rw [vF hx];exact q⟩
 . cases hg
noncomputable def LK:W->Option Bool
 | .none=>some true
 | .int _=>some false
 | .bool _=>some false
 | .str _=>some false
 | _=>none
noncomputable def LA (i:Int):W->Option Bool
 | .none=>some false
 | .int j=>some (decide (i=j))
 | .str _=>some false
 | _=>none
noncomputable def LV (i:Bool):W->Option Bool
 | .none=>some false
 | .bool j=>some (decide (i=j))
 | .str _=>some false
 | _=>none
noncomputable def L5 (i:Str):W->Option Bool
 | .none=>some false
 | .int _=>some false
 | .bool _=>some false
 | .str j=>some (decide (i=j))
 | _=>none
noncomputable def Jd:W->W->Option Bool
 | .none,e=>LK e
 | .int i,e=>LA i e
 | .bool i,e=>LV i e
 | .str i,e=>L5 i e
 | _,_=>none
theorem ud {H:Hp} {x y:V} {d e:W} {b:Bool} (hx:Dw K ρ H x d) (hy:Dw K ρ H y e) (h:Jd d e=some b):Fn x y=true/\decide (x=y)=b:=by
 cases hx with
 | non=>cases hy <;> first | (cases h;exact ⟨rfl,by simp⟩) | cases h
 | int i=>cases hy <;> first | (cases h;exact ⟨rfl,by simp⟩) | cases h
 | bl i=>cases hy <;> first | (cases h;exact ⟨rfl,by simp⟩) | cases h
 | str i=>cases hy <;> first | (cases h;exact ⟨rfl,by simp⟩) | cases h
 | _=>cases h
noncomputable def dJ (d e:W):Option Bool:=match Jd d e with
 | some b=>some b
 | none=>d.py.bind λ a=>e.py.bind λ b=>if (a.canLay0&&b.canLay0&&decide (a.depth<=64))=true then some (PyData.eqv a b) else none
noncomputable def CC (K:Frag):R2:=λ x y H Q=>Lg x y H Q∨Ar K false x y H Q
noncomputable def Dd (K:Frag):R2:=λ x y H Q=>Lx x y H Q∨Ar K true x y H Q
theorem Jr {X:Cx} {K:Frag} (h:X.K=K) (hu:X.A.units+64<cLine):ig X (compareOp .Eq) (CC K):=h▸GY.or (Eu hu)
theorem JI {X:Cx} {K:Frag} (h:X.K=K) (hu:X.A.units+64<cLine):ig X (compareOp .NotEq) (Dd K):=h▸HS.or (EU hu)
theorem GJ:DB K ρ (CC K) dJ:=λ H x y d e b Q hx hy hg q=>by
 unfold dJ at hg;split at hg
 . rename_i b' hb;cases hg;obtain ⟨h1,h2⟩:=ud hx hy hb;exact .inl ⟨h1,by rw [h2];exact q⟩
 . obtain ⟨a,ea,hg⟩:=oB hg
   obtain ⟨b,eb,hg⟩:=oB hg
   split at hg
   . rename_i hc;cases hg;simp only [Bool.and_eq_true,decide_eq_true_eq] at hc;exact .inr ⟨a,b,hx.dp ea,hy.dp eb,hc.1.1,hc.1.2,hc.2,q⟩
   . cases hg
noncomputable def FK (d e:W):Option Bool:=(dJ d e).map (!·)
theorem GU:DB K ρ (Dd K) FK:=λ H x y d e b Q hx hy hg q=>by
 obtain ⟨c,hg',rfl⟩:=oM hg
 unfold dJ at hg';split at hg'
 . rename_i b' hb;cases hg';obtain ⟨h1,h2⟩:=ud hx hy hb;exact .inl ⟨h1,by rw [h2];exact q⟩
 . obtain ⟨a,ea,hg'⟩:=oB hg'
   obtain ⟨b,eb,hg'⟩:=oB hg'
   split at hg'
   . rename_i hc;cases hg';simp only [Bool.and_eq_true,decide_eq_true_eq] at hc;exact .inr ⟨a,b,hx.dp ea,hy.dp eb,hc.1.1,hc.1.2,hc.2,q⟩
   . cases hg'
noncomputable def aR:W->W->Option W
 | .list ds,.int i=>jf ds i
 | .tuple ds,.int i=>jf ds i
 | .str z,.int i=>if z.length<=sizeLine then (jf z.cps.toList i).map λ c=>.str ⟨#[c]⟩ else none
 | _,_=>none
theorem aF.at {G:Hp} {vs:List V} {ds:List W} {i:Int} {d:W} (h:aF K ρ G vs ds) (e:jf ds i=some d):∃ v,jf vs i=some v/\Dw K ρ G v d:=by
 unfold jf at e ⊢;rw [h.length];obtain ⟨j,h1,h2⟩:=oB e
 obtain ⟨v,h3,h4⟩:=h.get h2;exact ⟨v,Option.bind_eq_some_iff.mpr ⟨j,h1,h3⟩,h4⟩
theorem Cp:DR K ρ (Ij K) aR:=λ G H x y d e c Q s hx hy hg q=>by
 cases e with
 | int i=>
  cases fG hy;cases d with
  | list ds=>
   obtain ⟨p,vs,rfl,sq,da⟩:=qz s hx;obtain ⟨v,h1,h2⟩:=da.at hg;exact .inl ⟨p,vs,_,v,rfl,rfl,sq,h1,q v G H (.refl s) h2⟩
  | tuple ds=>
   obtain ⟨p,vs,rfl,sq,da⟩:=qo hx;obtain ⟨v,h1,h2⟩:=da.at hg;exact .inr (.inl ⟨p,vs,_,v,rfl,rfl,s.tup (ii.of sq),h1,q v G H (.refl s) h2⟩)
  | str z=>
   by_cases hz:z.length<=sizeLine
   . obtain ⟨c',h1,rfl⟩:=oM ((if_pos hz).symm.trans hg)
     cases qf hx;exact .inr (.inr ⟨_,_,c',rfl,rfl,hz,h1,q _ G H (.refl s) (.str _)⟩)
   . cases (if_neg hz).symm.trans hg
  | _=>cases hg
 | _=>cases d <;> cases hg
noncomputable def Ht (xs:List W) (lo hi:Option Int):List W:=(xs.drop (HT.sIx xs.length 0 lo)).take (HT.sIx xs.length xs.length hi-HT.sIx xs.length 0 lo)
noncomputable def Bo:DS->Option (Option Int):=λ _=>some none
noncomputable def IS:W->Option Int
 | .int i=>some i
 | _=>none
theorem CO {d:W} {i:Int} (h:IS d=some i):d=.int i:=by
 cases d <;> first | (cases h;rfl) | cases h
noncomputable def HE (f:DS->Option W):DS->Option (Option Int):=λ δ=>(f δ).bind λ d=>(IS d).map some
noncomputable def BP:W->Option (List W)
 | .list ds=>some ds
 | _=>none
noncomputable def Jx (f:DS->Option W) (lo hi:DS->Option (Option Int)):DS->Option (List W):=λ δ=>(f δ).bind λ d=>(BP d).bind λ ds=>(lo δ).bind λ l=>(hi δ).map λ u=>Ht ds l u
noncomputable def Ku (K:Frag) (ρ:List Addr) (r:List V->Hp->VK->Prop) (g:W->Option W):Prop:=
 ∀ (G H:Hp) (x:V) (d c:W) (Q:VK),bo G H->Pk K ρ G H x d->g d=some c->(∀ v G' H',Gr G H G' H'->Dw K ρ G' v c->Q v H')->r [x] H Q
noncomputable def fB (g:W->Option W) (f:DS->Option W):DS->Option W:=λ δ=>(f δ).bind g
theorem Gc {r:List V->Hp->VK->Prop} {g:W->Option W} {t:TE} {f:DS->Option W} (hr:Ku K ρ r g) (h:DK K ρ t f):DE K ρ (zj r (iY t lI)) (fB g f):=λ G σ H δ d Q R e q=>by
 obtain ⟨x,ex,e⟩:=oB e
 exact h G σ H δ x _ R ex λ v G1 H1 g1 dv=>hr G1 H1 v x d Q g1.s dv e λ u G2 H2 g2 du=>q u G2 H2 (g1.trans g2) du
noncomputable def vp (K:Frag):List V->Hp->VK->Prop:=λ xs H Q=>G7 K xs H Q∨BN xs H Q
theorem wa {X:Cx} {K:Frag} (h:X.K=K):fz X (.builtin "len") (vp K):=(oW h).or oE
noncomputable def bT:W->Option W
 | .list ds=>some (.int ds.length)
 | .tuple ds=>some (.int ds.length)
 | .str z=>if z.length<=sizeLine then some (.int z.length) else none
 | _=>none
theorem y2:Ku K ρ (vp K) bT:=λ G H x d c Q s hx hg q=>by
 unfold bT at hg;split at hg
 . cases hg;obtain ⟨p,vs,rfl,sq,da⟩:=qz s hx;exact .inl ⟨p,vs,rfl,.inl sq,by rw [da.length];exact q _ G H (.refl s) (.int _)⟩
 . cases hg;obtain ⟨p,vs,rfl,sq,da⟩:=qo hx;exact .inl ⟨p,vs,rfl,.inr (s.tup (ii.of sq)),by rw [da.length];exact q _ G H (.refl s) (.int _)⟩
 . split at hg
   . rename_i hz;cases hg;cases qf hx;exact .inr ⟨_,rfl,hz,q _ G H (.refl s) (.int _)⟩
   . cases hg
 . cases hg
noncomputable def kM (f:DS->Option W):DS->Option (List W):=λ δ=>(f δ).bind rP
theorem Ak {t:TE} {f:DS->Option W} (h:DK K ρ t f):DO K ρ (zj (qc K) (iY t lI)) (kM f):=λ G σ H δ ds Q R e q=>by
 obtain ⟨x,ex,e⟩:=oB e
 refine h G σ H δ x _ R ex λ v G1 H1 g1 dv=>?_;have fin:∀ (vs:List V) (l:Addr),aF K ρ G1 vs ds->H1 l=none->Q (.ref l) (cR H1 l (.lst vs)):=λ vs l da hl=>by
  have n:Nw H1 (cR H1 l (.lst vs)) l (.lst vs):=.of hl;exact q l vs G1 _ (g1.trans (.nwO g1.s n)) (fN g1.h hl) (fN g1.s hl) aJ da
 unfold rP at e;split at e
 . cases e;obtain ⟨p,vs,rfl,sq,da⟩:=qz g1.s dv;exact ⟨p,vs,rfl,.inl sq,λ l hl=>fin vs l da hl⟩
 . cases e;obtain ⟨p,vs,rfl,sq,da⟩:=qo dv;exact ⟨p,vs,rfl,.inr (g1.s.tup (ii.of sq)),λ l hl=>fin vs l da hl⟩
 . cases e
noncomputable def lj (T:String):W->Option W
 | .int i=>(xG (.int i) T).map .bool
 | .bool i=>(xG (.bl i) T).map .bool
 | .str i=>(xG (.str i) T).map .bool
 | _=>none
theorem EV {T:String} {t:TE} {f:DS->Option W} (h:DE K ρ t f):DE K ρ (zj Fg (iY t (iY (tC (.ty T)) lI))) (fB (lj T) f):=λ G σ H δ d Q R e q=>by
 obtain ⟨x,ex,e⟩:=oB e
 refine h G σ H δ x _ R ex λ v G1 H1 g1 dv=>?_;unfold lj at e;split at e;all_goals first
  | cases e
  | (obtain ⟨k,ek,rfl⟩:=oM e
     cases dv;exact ⟨_,T,k,rfl,ek,q _ G1 H1 g1 (.bl k)⟩)
end
section
variable {X:Cx} {tg:Expr}
end
section
variable {K:Frag} {ρ:List Addr}
end
section
variable {X:Cx}
end
section
variable {K:Frag} {ρ:List Addr}
end
theorem bZ (i j:Int):bv (.int i) (.int j)=some (.int (i+j)):=rfl
theorem yK {a b:Str} (h:a.length+b.length<=sizeLine):bv (.str a) (.str b)=some (.str (a++b)):=if_pos h
theorem lF (i j:Int):gSub' (.int i) (.int j)=some (.int (i-j)):=rfl
theorem j5 {i j:Int} (h:mn i j=true):je (.int i) (.int j)=some (.int (i*j)):=by simp only [je,Cc,if_pos h]
theorem uo {i j:Int} (h:o7 i j=true):jx (.int i) (.int j)=some (.int (i.fdiv j)):=by simp only [jx,Cc,if_pos h]
theorem EF {i j:Int} (h:sV i j=true):cx (.int i) (.int j)=some (.int (i.fmod j)):=by simp only [cx,Cc,if_pos h]
theorem Ej (i:Int):dD (.int i)=some (.int (-i)):=rfl
theorem iM {i j:Int} (h1 : -(2^64)<i) (h2:i<2^64):mn i j=true:=by
 simp only [mn,Bool.and_eq_true,Bool.or_eq_true,decide_eq_true_eq];exact .inl (.inl (by omega))
theorem B4 {i j:Int} (h1 : -(2^64)<j) (h2:j<2^64):mn i j=true:=by
 simp only [mn,Bool.and_eq_true,Bool.or_eq_true,decide_eq_true_eq];exact .inl (.inr (by omega))
theorem y6 {i j:Int} (h1:0<j) (h2:j<2^64):o7 i j=true:=by
 have e:(2:Nat)^64<2^200:=Nat.pow_lt_pow_right (by decide) (by decide);simp only [o7,Bool.and_eq_true,decide_eq_true_eq];exact ⟨by omega,Nat.lt_trans (by omega) e⟩
theorem xL {i j:Int} (h:j≠0):sV i j=true:=by simp [sV,h]
theorem gG (i:Int) {j:Int} (h1:0<j) (h2:j<2^64):jx (.int i) (.int j)=some (.int (i.fdiv j)):=uo (y6 h1 h2)
theorem bK (i:Int) {j:Int} (h1:j≠0):cx (.int i) (.int j)=some (.int (i.fmod j)):=EF (xL h1)
theorem x5 (b:Bool):BG (.bool b)=some b:=rfl
theorem C7 (i:Int):IS (.int i)=some i:=rfl
theorem zP (ds:List W):BP (.list ds)=some ds:=rfl
theorem Dx (ds:List W):rP (.list ds)=some ds:=rfl
theorem Eh (ds:List W):rP (.tuple ds)=some ds:=rfl
theorem yp (ds:List W):bT (.list ds)=some (.int ds.length):=rfl
theorem Du (ds:List W):bT (.tuple ds)=some (.int ds.length):=rfl
theorem BJ (ds:List W) (i:Int):aR (.list ds) (.int i)=jf ds i:=rfl
theorem pG (ds:List W) (i:Int):aR (.tuple ds) (.int i)=jf ds i:=rfl
theorem Gz (i j:Int):dJ (.int i) (.int j)=some (decide (i=j)):=rfl
theorem GI (i j:Str):dJ (.str i) (.str j)=some (decide (i=j)):=rfl
theorem FZ (i j:Bool):dJ (.bool i) (.bool j)=some (decide (i=j)):=rfl
theorem GX (i j:Int):FK (.int i) (.int j)=some (!decide (i=j)):=rfl
theorem Hd (i j:Str):FK (.str i) (.str j)=some (!decide (i=j)):=rfl
theorem Ib (i j:Int):rX (.int i) (.int j)=some (decide (i<j)):=rfl
theorem GH (i j:Int):Kt (.int i) (.int j)=some (decide (i<=j)):=rfl
theorem HL (i j:Int):mD (.int i) (.int j)=some (decide (j<i)):=rfl
theorem Cr (i j:Int):Ir (.int i) (.int j)=some (decide (j<=i)):=rfl
theorem zQ (i:Int):iO (.int i) .none=some true:=rfl
theorem AA:iO .none .none=some false:=rfl
theorem BC (i:Str):iO (.str i) .none=some true:=rfl
theorem AU (i:List W):iO (.list i) .none=some true:=rfl
theorem Al (i:List W):iO (.tuple i) .none=some true:=rfl
theorem Fv (i:Int):ic (.int i) .none=some false:=rfl
theorem En:ic .none .none=some true:=rfl
theorem D5 (i:Str):ic (.str i) .none=some false:=rfl
theorem CD (i:List W):ic (.list i) .none=some false:=rfl
theorem CB (i:List W):ic (.tuple i) .none=some false:=rfl
theorem AB (i:Int):lj "int" (.int i)=some (.bool true):=rfl
theorem xC (i:Int):lj "bool" (.int i)=some (.bool false):=rfl
theorem Aw (i:Str):lj "str" (.str i)=some (.bool true):=rfl
theorem az {f g:DS->Option fA} {δ δ1:DS} {o:Option fA} (h1:f δ=some (.nx δ1)) (h2:g δ1=o):aM f g δ=o:=by
 unfold aM;rw [h1];exact h2
theorem cv {a n:Nat} {fb:DS->Option fA} {ds:List W} {d:W} (hl:ds.length=a) (h:fb (ff n ds)=some (.rt d)):eu a n fb ds=some d:=by
 unfold eu;rw [if_pos hl,h];rfl
theorem aG {f:DS->Option W} {h:W->DS->Option DS} {δ δ':DS} {d:W} (h1:f δ=some d) (h2:h d δ=some δ'):aW f h δ=some (.nx δ'):=by
 unfold aW;rw [h1];show (h d δ).map fA.nx=_;rw [h2];rfl
theorem b6 {f:DS->Option W} {δ:DS} {d:W} (h1:f δ=some d):bw f δ=some (.rt d):=by
 unfold bw;rw [h1];rfl
theorem aO {c:DS->Option Bool} {f g:DS->Option fA} {δ:DS} {b:Bool} {o:Option fA} (h1:c δ=some b) (h2:(if b=true then f δ else g δ)=o):eV c f g δ=o:=by
 unfold eV;rw [h1];exact h2
inductive Ob where
 | lst (ds:List W)
 | dK (kvs:List (bh×W))
 | dT (kvs:List (List bh×W))
 | dN (kvs:List (List bh×W))
 | ins (c:Str) (fs:List (Str×W))
noncomputable abbrev ai:=List Ob
inductive hZ (K:Frag) (ρ:List Addr) (G:Hp) {κ:Type}:List (κ×W)->List (κ×V)->Prop
 | nil:hZ K ρ G [] []
 | cons {k:κ} {d:W} {v:V} {l:List (κ×W)} {m:List (κ×V)}:Dw K ρ G v d->hZ K ρ G l m->hZ K ρ G ((k,d)::l) ((k,v)::m)
noncomputable def yP (K:Frag) (ρ:List Addr) (cl:Str->Addr) (G H:Hp) (a:Addr):Ob->Prop
 | .lst ds=>∃ vs,H a=some (.lst vs)/\aF K ρ G vs ds
 | .dK kvs=>∃ ws,H a=some (.dK ws)/\hZ K ρ G kvs ws
 | .dT kvs=>∃ ws,H a=some (.dT ws)/\hZ K ρ G kvs ws
 | .dN kvs=>∃ ws,H a=some (.dN ws)/\hZ K ρ G kvs ws
 | .ins c fs=>∃ dx ws,H a=some (.ins (cl c) dx ws)/\G dx=none/\H dx=some (.own a)/\hZ K ρ G fs ws
theorem B1 {ρ ρ':List Addr} (h:ρ <+: ρ') (n:Nat) (a:Addr) (e:ρ[n]?=some a):ρ'[n]?=some a:=by
 obtain ⟨t,rfl⟩:=h;rw [List.getElem?_append_left (oG e).1];exact e
theorem Dw.ext {K:Frag} {ρ ρ':List Addr} {G:Hp} (h:ρ <+: ρ') {v:V} {d:W} (q:Dw K ρ G v d):Dw K ρ' G v d:=q.mapG (λ _ _ q=>q) (λ _ _ q=>q) (B1 h)
theorem aF.ext {K:Frag} {ρ ρ':List Addr} {G:Hp} (h:ρ <+: ρ') {vs:List V} {ds:List W} (q:aF K ρ G vs ds):aF K ρ' G vs ds:=q.mapA λ _ _ a=>a.ext h
theorem hZ.ext {K:Frag} {ρ ρ':List Addr} {G G':Hp} {κ:Type} (h:ρ <+: ρ') (g:bo G G') {l:List (κ×W)} {m:List (κ×V)} (q:hZ K ρ G l m):hZ K ρ' G' l m:=by
 induction q with
 | nil=>exact .nil
 | cons a _ ih=>exact .cons ((a.ext h).same g) ih
theorem hZ.lookup {K:Frag} {ρ:List Addr} {G:Hp} {κ:Type} [BEq κ] {k:κ} {l:List (κ×W)} {m:List (κ×V)} {d:W} (q:hZ K ρ G l m):l.lookup k=some d->∃ v,m.lookup k=some v/\Dw K ρ G v d:=by
 induction q with
 | nil=>exact λ e=>by cases e
 | @cons j d v l m a _ ih=>
  intro e;simp only [List.lookup] at e ⊢;split at e
  . cases e;exact ⟨_,rfl,a⟩
  . exact ih e
theorem hZ.lookup_none {K:Frag} {ρ:List Addr} {G:Hp} {κ:Type} [BEq κ] {k:κ} {l:List (κ×W)} {m:List (κ×V)} (q:hZ K ρ G l m):l.lookup k=none->m.lookup k=none:=by
 induction q with
 | nil=>exact λ _=>rfl
 | @cons j d v l m a _ ih=>
  intro e;simp only [List.lookup] at e ⊢;split at e
  . cases e
  . exact ih e
theorem hZ.length {K:Frag} {ρ:List Addr} {G:Hp} {κ:Type} {l:List (κ×W)} {m:List (κ×V)} (q:hZ K ρ G l m):l.length=m.length:=by
 induction q with
 | nil=>rfl
 | cons _ _ ih=>exact congrArg (· + 1) ih
noncomputable def dS (f:Str) (v:W):List (Str×W)->List (Str×W)
 | []=>[(f,v)]
 | (g,x)::r=>if g=f then (g,v)::r else (g,x)::dS f v r
theorem hZ.putF {K:Frag} {ρ:List Addr} {G:Hp} {f:Str} {v:V} {d:W} (h:Dw K ρ G v d) {l:List (Str×W)} {m:List (Str×V)} (q:hZ K ρ G l m):hZ K ρ G (dS f d l) (putF f v m):=by
 induction q with
 | nil=>exact .cons h .nil
 | cons a b ih=>
  unfold dS L2.putF;split
  . exact .cons h b
  . exact .cons a ih
structure SR (K:Frag) (ρ:List Addr) (cl:Str->Addr) (G H:Hp) (S:ai):Prop where
 len:ρ.length=S.length
 nd:ρ.Nodup
 ob:∀ (n:Nat) o,S[n]?=some o->∃ a,ρ[n]?=some a/\G a=none/\yP K ρ cl G H a o
structure GS (ρ:List Addr) (G H:Hp) (ρ':List Addr) (G' H':Hp):Prop where
 r:ρ <+: ρ'
 g:bo G G'
 s:bo G' H'
 h:∀ b o,b∉ρ->H b=some o->H' b=some o
 k:∀ b,H b≠none->H' b≠none
 n:∀ b,nT H b->G b=none->G' b=none
 f:∀ a,a∈ρ'->a∉ρ->H a=none
 t:∀ b,nT H b->nT H' b
theorem GS.refl {ρ:List Addr} {G H:Hp} (s:bo G H):GS ρ G H ρ G H:=⟨List.prefix_refl _,.refl _,s,λ _ _ _ e=>e,λ _ e=>e,λ _ _ e=>e,λ a h1 h2=>absurd h1 h2,λ _ e=>e⟩
theorem GS.of {ρ:List Addr} {G H G' H':Hp} (g:Gr G H G' H'):GS ρ G H ρ G' H':=⟨List.prefix_refl _,g.g,g.s,λ b o _ e=>g.h b o e,λ b e=>qT g.h e,g.n,λ a h1 h2=>absurd h1 h2,λ _ e=>e.same g.h⟩
theorem GS.trans {ρ ρ1 ρ2:List Addr} {G H G1 H1 G2 H2:Hp} (a:GS ρ G H ρ1 G1 H1) (b:GS ρ1 G1 H1 ρ2 G2 H2):GS ρ G H ρ2 G2 H2:=
 ⟨a.r.trans b.r,a.g.trans b.g,b.s,λ c o hc e=>b.h c o (λ h1=>by rw [a.f c h1 hc] at e;cases e) (a.h c o hc e),λ c e=>b.k c (a.k c e),λ c h1 h2=>b.n c (a.t c h1) (a.n c h1 h2),(λ c h1 h2=>by
  by_cases h3:c∈ρ1
  . exact a.f c h3 h2
  . have:=b.f c h1 h3;cases e:H c with
    | none=>rfl
    | some o=>exact absurd this (a.k c (by rw [e];simp))),λ c e=>b.t c (a.t c e)⟩
section
variable {K:Frag} {cl:Str->Addr}
theorem yP.move {ρ ρ':List Addr} {G H G' H':Hp} {a:Addr} (hr:ρ <+: ρ') (g:bo G G') (ha:H' a=H a) (hd:∀ dx,G dx=none->H dx=some (.own a)->H' dx=some (.own a)/\G' dx=none) {o:Ob} (h:yP K ρ cl G H a o):yP K ρ' cl G' H' a o:=by
 cases o with
 | lst ds=>
  obtain ⟨vs,h1,h2⟩:=h;exact ⟨vs,ha.trans h1,(h2.ext hr).same g⟩
 | ins c fs=>
  obtain ⟨dx,ws,h1,h2,h3,h4⟩:=h;exact ⟨dx,ws,ha.trans h1,(hd dx h2 h3).2,(hd dx h2 h3).1,h4.ext hr g⟩
 | _=>
  obtain ⟨ws,h1,h2⟩:=h;exact ⟨ws,ha.trans h1,h2.ext hr g⟩
theorem yP.some {ρ:List Addr} {G H:Hp} {a:Addr} {o:Ob} (h:yP K ρ cl G H a o):∃ x,H a=some x/\∀ b,x≠.own b:=by
 cases o with
 | ins c fs=>
  obtain ⟨dx,ws,h1,_⟩:=h;exact ⟨_,h1,λ b e=>by cases e⟩
 | _=>
  obtain ⟨ws,h1,_⟩:=h;exact ⟨_,h1,λ b e=>by cases e⟩
theorem yP.nt {ρ:List Addr} {G H:Hp} {a:Addr} {o:Ob} (h:yP K ρ cl G H a o):nT H a:=by
 cases o with
 | ins c fs=>
  obtain ⟨_,_,h1,_⟩:=h;exact .of h1 λ _ z=>by cases z
 | _=>
  obtain ⟨_,h1,_⟩:=h;exact .of h1 λ _ z=>by cases z
theorem SR.grow {ρ:List Addr} {G H G' H':Hp} {S:ai} (s:SR K ρ cl G H S) (g:Gr G H G' H'):SR K ρ cl G' H' S:=
 ⟨s.len,s.nd,λ n o e=>by
  obtain ⟨a,h1,h2,h3⟩:=s.ob n o e;obtain ⟨x,hx,_⟩:=h3.some;exact ⟨a,h1,g.n a h3.nt h2,h3.move (List.prefix_refl _) g.g (by rw [hx];exact g.h _ _ hx) λ dx e1 e2=>⟨g.h _ _ e2,g.n dx (.of e2 λ _ z=>by cases z) e1⟩⟩⟩
theorem SR.addr {ρ:List Addr} {G H:Hp} {S:ai} (s:SR K ρ cl G H S) {n:Nat} {o:Ob} {a:Addr} (e:S[n]?=some o) (ea:ρ[n]?=some a):G a=none/\yP K ρ cl G H a o:=by
 obtain ⟨b,h1,h2,h3⟩:=s.ob n o e;rw [ea] at h1;cases h1;exact ⟨h2,h3⟩
theorem wG {l:List Addr} (h:l.Nodup) {i j:Nat} {a:Addr} (h1:l[i]?=some a) (h2:l[j]?=some a):i=j:=by
 obtain ⟨hi,e1⟩:=oG h1
 obtain ⟨hj,e2⟩:=oG h2
 have hp:=List.pairwise_iff_getElem.mp h;rcases Nat.lt_trichotomy i j with c | c | c
 . exact absurd (e1.trans e2.symm) (hp i j hi hj c)
 . exact c
 . exact absurd (e2.trans e1.symm) (hp j i hj hi c)
theorem SR.put {ρ:List Addr} {G H:Hp} {S:ai} {n:Nat} {o o':Ob} {a:Addr} {x:HO} (s:SR K ρ cl G H S) (sg:bo G H) (e:S[n]?=some o) (ea:ρ[n]?=some a) (hx:∀ b,x≠.own b) (ho:yP K ρ cl G (cR H a x) a o'):SR K ρ cl G (cR H a x) (S.set n o')/\GS ρ G H ρ G (cR H a x):=by
 obtain ⟨ga,ob⟩:=s.addr e ea;obtain ⟨y,hy,hno⟩:=ob.some;have am:a∈ρ:=List.mem_of_getElem? ea;refine ⟨⟨by rw [List.length_set];exact s.len,s.nd,λ m q em=>?_⟩,⟨List.prefix_refl _,.refl _,λ b u eb=>?_,λ b u hb eb=>?_,λ b hb=>?_,λ _ _ e=>e,λ b h1 h2=>absurd h1 h2,λ b hb=>by
  by_cases z:b=a
  . exact z▸ho.nt
  . unfold nT;rw [aL z];exact hb⟩⟩
 . rcases fh em with ⟨rfl,rfl,_⟩ | ⟨ne,em⟩
   . exact ⟨a,ea,ga,ho⟩
   . obtain ⟨b,h1,h2,h3⟩:=s.ob m q em;have hab:b≠a:=λ z=>ne (wG s.nd ea (z▸h1));exact ⟨b,h1,h2,h3.move (List.prefix_refl _) (.refl _) (aL hab) λ dx e1 e2=>⟨by
      rw [aL (λ z=>by rw [z,hy] at e2;cases e2;exact hno _ rfl)];exact e2,e1⟩⟩
 . rw [aL (λ z=>by rw [z,ga] at eb;cases eb)];exact sg _ _ eb
 . rw [aL (λ z=>hb (by rw [z];exact am))];exact eb
 . by_cases z:b=a
   . subst z;rw [aJ];simp
   . rw [aL z];exact hb
theorem SR.push {ρ:List Addr} {G H H':Hp} {S:ai} {p:Addr} {o:Ob} {x:HO} (s:SR K ρ cl G H S) (sg:bo G H) (n:Nw H H' p x) (ho:∀ ρ',ρ <+: ρ'->yP K ρ' cl G H' p o):SR K (ρ++[p]) cl G H' (S++[o])/\GS ρ G H (ρ++[p]) G H':=by
 have pm:p∉ρ:=λ hp=>by
  obtain ⟨i,hi,e⟩:=List.mem_iff_getElem.mp hp;obtain ⟨b,h1,h2,h3⟩:=s.ob i (S[i]'(by rw [<-s.len];exact hi)) (List.getElem?_eq_getElem _);rw [List.getElem?_eq_getElem hi,e] at h1;cases h1;obtain ⟨y,hy,_⟩:=h3.some;rw [n.2.1] at hy;cases hy
 have pre:ρ <+: ρ++[p]:=⟨[p],rfl⟩
 refine ⟨⟨by simp [s.len],List.nodup_append.mpr ⟨s.nd,by simp,λ a ha b hb=>by
  rw [List.mem_singleton.mp hb];exact λ z=>pm (z▸ha)⟩,λ m q em=>?_⟩,⟨pre,.refl _,sg.trans n.1,λ b u _ e=>n.1 b u e,λ b e=>qT n.1 e,λ _ _ e=>e,λ a h1 h2=>?_,λ _ e=>e.same n.1⟩⟩
 . rcases Nat.lt_or_ge m S.length with hm | hm
   . rw [List.getElem?_append_left hm] at em;obtain ⟨b,h1,h2,h3⟩:=s.ob m q em;obtain ⟨y,hy,_⟩:=h3.some;exact ⟨b,by rw [List.getElem?_append_left (by rw [s.len];exact hm)];exact h1,h2,h3.move pre (.refl _) (by rw [hy];exact n.1 _ _ hy) λ dx e1 e2=>⟨n.1 _ _ e2,e1⟩⟩
   . rw [List.getElem?_append_right hm] at em;have hz:m-S.length=0:=by
      have:=(oG em).1;simp at this;omega
     rw [hz] at em;cases em;refine ⟨p,?_,fN sg n.2.1,ho _ pre⟩;rw [List.getElem?_append_right (by rw [s.len];exact hm),s.len,hz];rfl
 . rcases List.mem_append.mp h1 with h | h
   . exact absurd h h2
   . rw [List.mem_singleton.mp h];exact n.2.1
inductive Rs (α:Type) where
 | ok (a:α)
 | xc (c:Str)
noncomputable abbrev SM (α:Type):=Option (Rs α×ai)
noncomputable def au {α β:Type} (m:SM α) (k:α->ai->SM β):SM β:=match m with
 | some (.ok a,S)=>k a S
 | some (.xc c,S)=>some (.xc c,S)
 | none=>none
theorem aD {α β:Type} {m:SM α} {k:α->ai->SM β} {r:Rs β} {S':ai} (h:au m k=some (r,S')):(∃ c,m=some (.xc c,S')/\r=.xc c)∨∃ a S1,m=some (.ok a,S1)/\k a S1=some (r,S'):=by
 unfold au at h;split at h
 . exact .inr ⟨_,_,rfl,h⟩
 . cases h;exact .inl ⟨_,rfl,rfl⟩
 . cases h
structure RS (K:Frag) (cl:Str->Addr) (ρ:List Addr) (G H:Hp) (δ:DS) (σ:St) (S:ai):Prop where
 rl:Rl K ρ G H δ σ
 st:SR K ρ cl G H S
 ap:∀ (i:Nat) ds p,δ[i]?=some (.own ds)->σ[i]?=some (some (.ref p))->p∉ρ
theorem u7.move {ρ ρ':List Addr} {G H G' H':Hp} (g:GS ρ G H ρ' G' H') {s:Sl} {o:Option V} (ha:∀ ds p,s=.own ds->o=some (.ref p)->p∉ρ) (h:u7 K ρ G H s o):u7 K ρ' G' H' s o:=by
 cases s with
 | no=>exact trivial
 | val d=>
  obtain ⟨v,e,h⟩:=h;exact ⟨v,e,(h.ext g.r).same g.g⟩
 | own ds=>
  obtain ⟨p,vs,e,h1,h2,h3⟩:=h;exact ⟨p,vs,e,g.n p (.l h2) h1,g.h _ _ (ha ds p rfl e) h2,(h3.ext g.r).same g.g⟩
theorem RS.grow {ρ ρ':List Addr} {G H G' H':Hp} {δ:DS} {σ:St} {S S':ai} (R:RS K cl ρ G H δ σ S) (g:GS ρ G H ρ' G' H') (s:SR K ρ' cl G' H' S'):RS K cl ρ' G' H' δ σ S':=
 ⟨⟨g.s,R.rl.len,λ i sl e=>by
  obtain ⟨o,h1,h2⟩:=R.rl.sl i sl e;exact ⟨o,h1,h2.move g λ ds p e1 e2=>R.ap i ds p (e1▸e) (e2▸h1)⟩,R.rl.apart⟩,s,λ i ds p h1 h2 hp=>by
  obtain ⟨o,k1,p',vs,rfl,k3,k4,k5⟩:=R.rl.sl i _ h1;rw [h2] at k1;cases k1;rw [g.f p hp (R.ap i ds p h1 h2)] at k4;cases k4⟩
noncomputable def SE (K:Frag) (cl:Str->Addr) (E:XK) (t:TE) (f:DS->ai->SM W):Prop:=
 ∀ (ρ:List Addr) (G:Hp) (σ:St) (H:Hp) (δ:DS) (S:ai) (r:Rs W) (S':ai) (Q:VK),RS K cl ρ G H δ σ S->f δ S=some (r,S')->
  (∀ d,r=.ok d->∀ v ρ' G' H',GS ρ G H ρ' G' H'->SR K ρ' cl G' H' S'->Dw K ρ' G' v d->Q v H')->
  (∀ c,r=.xc c->∀ ρ' G' H',GS ρ G H ρ' G' H'->SR K ρ' cl G' H' S'->E (.ref (cl c)) none H')->t σ H Q
noncomputable def SA (K:Frag) (cl:Str->Addr) (E:XK) (t:TA) (f:DS->ai->SM (List W)):Prop:=
 ∀ (ρ:List Addr) (G:Hp) (σ:St) (H:Hp) (δ:DS) (S:ai) (r:Rs (List W)) (S':ai) (Q:List V->Hp->Prop),RS K cl ρ G H δ σ S->f δ S=some (r,S')->
  (∀ ds,r=.ok ds->∀ vs ρ' G' H',GS ρ G H ρ' G' H'->SR K ρ' cl G' H' S'->aF K ρ' G' vs ds->Q vs H')->
  (∀ c,r=.xc c->∀ ρ' G' H',GS ρ G H ρ' G' H'->SR K ρ' cl G' H' S'->E (.ref (cl c)) none H')->t σ H Q
noncomputable def ST (K:Frag) (cl:Str->Addr) (E:XK) (t:TT) (f:DS->ai->SM Bool):Prop:=
 ∀ (ρ:List Addr) (G:Hp) (σ:St) (H:Hp) (δ:DS) (S:ai) (r:Rs Bool) (S':ai) (Q:Bool->Hp->Prop),RS K cl ρ G H δ σ S->f δ S=some (r,S')->
  (∀ b,r=.ok b->∀ ρ' G' H',GS ρ G H ρ' G' H'->SR K ρ' cl G' H' S'->Q b H')->
  (∀ c,r=.xc c->∀ ρ' G' H',GS ρ G H ρ' G' H'->SR K ρ' cl G' H' S'->E (.ref (cl c)) none H')->t σ H Q
variable {E:XK}
noncomputable def aa {α:Type} (f:DS->Option α):DS->ai->SM α:=λ δ S=>(f δ).map λ d=>(.ok d,S)
theorem iG {α:Type} {f:DS->Option α} {δ:DS} {S S':ai} {r:Rs α} (h:aa f δ S=some (r,S')):∃ d,f δ=some d/\r=.ok d/\S'=S:=by
 obtain ⟨d,e1,e2⟩:=oM h
 cases e2;exact ⟨d,e1,rfl,rfl⟩
theorem zR {t:TE} {f:DS->Option W} (h:∀ ρ,DE K ρ t f):SE K cl E t (aa f):=λ ρ G σ H δ S r S' Q R e q _=>by
 obtain ⟨d,e1,rfl,rfl⟩:=iG e;exact h ρ G σ H δ d Q R.rl e1 λ v G' H' g dv=>q d rfl v ρ G' H' (.of g) (R.st.grow g) dv
theorem At {t:TA} {f:DS->Option (List W)} (h:∀ ρ,DA K ρ t f):SA K cl E t (aa f):=λ ρ G σ H δ S r S' Q R e q _=>by
 obtain ⟨d,e1,rfl,rfl⟩:=iG e;exact h ρ G σ H δ d Q R.rl e1 λ v G' H' g dv=>q d rfl v ρ G' H' (.of g) (R.st.grow g) dv
theorem Bh {t:TT} {f:DS->Option Bool} (h:∀ ρ,DT K ρ t f):ST K cl E t (aa f):=λ ρ G σ H δ S r S' Q R e q _=>by
 obtain ⟨d,e1,rfl,rfl⟩:=iG e;exact h ρ G σ H δ d Q R.rl e1 λ G' H' g=>q d rfl ρ G' H' (.of g) (R.st.grow g)
noncomputable def bW:DS->ai->SM (List W):=λ _ S=>some (.ok [],S)
noncomputable def aQ (f:DS->ai->SM W) (g:DS->ai->SM (List W)):DS->ai->SM (List W):=λ δ S=>au (f δ S) λ d S1=>au (g δ S1) λ ds S2=>some (.ok (d::ds),S2)
theorem F0:SA K cl E lI bW:=λ ρ G σ H δ S r S' Q R e q _=>by
 cases e;exact q [] rfl [] ρ G H (.refl R.rl.sub) R.st .nil
theorem B6 {t:TE} {u:TA} {f:DS->ai->SM W} {g:DS->ai->SM (List W)} (h1:SE K cl E t f) (h2:SA K cl E u g):SA K cl E (iY t u) (aQ f g):=λ ρ G σ H δ S r S' Q R e q qx=>by
 rcases aD e with ⟨c,em,rfl⟩ | ⟨d,S1,em,e⟩
 . exact h1 ρ G σ H δ S _ _ _ R em (λ d hd=>by cases hd) (λ c' hc=>by cases hc;exact qx c rfl)
 . refine h1 ρ G σ H δ S _ _ _ R em (λ d' hd=>?_) (λ c' hc=>by cases hc);cases hd;intro v ρ1 G1 H1 g1 s1 dv;have R1:=R.grow g1 s1;rcases aD e with ⟨c,em,rfl⟩ | ⟨ds,S2,em,e⟩
   . exact h2 ρ1 G1 σ H1 δ S1 _ _ _ R1 em (λ d hd=>by cases hd) (λ c' hc=>by cases hc;exact λ ρ2 G2 H2 g2 s2=>qx c rfl ρ2 G2 H2 (g1.trans g2) s2)
   . refine h2 ρ1 G1 σ H1 δ S1 _ _ _ R1 em (λ d' hd=>?_) (λ c' hc=>by cases hc);cases hd;cases e;intro vs ρ2 G2 H2 g2 s2 da;exact q _ rfl _ ρ2 G2 H2 (g1.trans g2) s2 (.cons ((dv.ext g2.r).same g2.g) da)
end
section
variable {K:Frag} {cl:Str->Addr} {E:XK}
theorem di {α:Type} {t:TE} {f:DS->ai->SM W} (h:SE K cl E t f) {ρ:List Addr} {G:Hp} {σ:St} {H:Hp} {δ:DS} {S:ai} {r:Rs α} {S':ai} {k:W->ai->SM α} {P:V->Hp->Prop} (R:RS K cl ρ G H δ σ S) (e:au (f δ S) k=some (r,S'))
 (q:∀ d S1,k d S1=some (r,S')->∀ v ρ' G' H',GS ρ G H ρ' G' H'->SR K ρ' cl G' H' S1->Dw K ρ' G' v d->P v H')
 (qx:∀ c,r=.xc c->∀ ρ' G' H',GS ρ G H ρ' G' H'->SR K ρ' cl G' H' S'->E (.ref (cl c)) none H'):t σ H P:=by
 rcases aD e with ⟨c,em,rfl⟩ | ⟨d,S1,em,e⟩
 . exact h ρ G σ H δ S _ _ _ R em (λ d hd=>by cases hd) (λ c' hc=>by cases hc;exact qx c rfl)
 . exact h ρ G σ H δ S _ _ _ R em (λ d' hd=>by cases hd;exact q _ _ e) (λ c' hc=>by cases hc)
theorem iI {α:Type} {t:TA} {f:DS->ai->SM (List W)} (h:SA K cl E t f) {ρ:List Addr} {G:Hp} {σ:St} {H:Hp} {δ:DS} {S:ai} {r:Rs α} {S':ai} {k:List W->ai->SM α} {P:List V->Hp->Prop} (R:RS K cl ρ G H δ σ S) (e:au (f δ S) k=some (r,S'))
 (q:∀ d S1,k d S1=some (r,S')->∀ v ρ' G' H',GS ρ G H ρ' G' H'->SR K ρ' cl G' H' S1->aF K ρ' G' v d->P v H')
 (qx:∀ c,r=.xc c->∀ ρ' G' H',GS ρ G H ρ' G' H'->SR K ρ' cl G' H' S'->E (.ref (cl c)) none H'):t σ H P:=by
 rcases aD e with ⟨c,em,rfl⟩ | ⟨d,S1,em,e⟩
 . exact h ρ G σ H δ S _ _ _ R em (λ d hd=>by cases hd) (λ c' hc=>by cases hc;exact qx c rfl)
 . exact h ρ G σ H δ S _ _ _ R em (λ d' hd=>by cases hd;exact q _ _ e) (λ c' hc=>by cases hc)
theorem qX {α:Type} {t:TT} {f:DS->ai->SM Bool} (h:ST K cl E t f) {ρ:List Addr} {G:Hp} {σ:St} {H:Hp} {δ:DS} {S:ai} {r:Rs α} {S':ai} {k:Bool->ai->SM α} {P:Bool->Hp->Prop} (R:RS K cl ρ G H δ σ S) (e:au (f δ S) k=some (r,S'))
 (q:∀ d S1,k d S1=some (r,S')->∀ ρ' G' H',GS ρ G H ρ' G' H'->SR K ρ' cl G' H' S1->P d H')
 (qx:∀ c,r=.xc c->∀ ρ' G' H',GS ρ G H ρ' G' H'->SR K ρ' cl G' H' S'->E (.ref (cl c)) none H'):t σ H P:=by
 rcases aD e with ⟨c,em,rfl⟩ | ⟨d,S1,em,e⟩
 . exact h ρ G σ H δ S _ _ _ R em (λ d hd=>by cases hd) (λ c' hc=>by cases hc;exact qx c rfl)
 . exact h ρ G σ H δ S _ _ _ R em (λ d' hd=>by cases hd;exact q _ _ e) (λ c' hc=>by cases hc)
theorem iB {α:Type} {ta tb:TE} {fa fb:DS->ai->SM W} (ha:SE K cl E ta fa) (hb:SE K cl E tb fb) {ρ:List Addr} {G:Hp} {σ:St} {H:Hp} {δ:DS} {S:ai} {r:Rs α} {S':ai} {k:W->W->ai->SM α} {P:V->V->Hp->Prop} (R:RS K cl ρ G H δ σ S)
 (e:au (fa δ S) (λ x S1=>au (fb δ S1) λ y S2=>k x y S2)=some (r,S'))
 (q:∀ x y S2,k x y S2=some (r,S')->∀ v u ρ' G' H',GS ρ G H ρ' G' H'->SR K ρ' cl G' H' S2->Dw K ρ' G' v x->Dw K ρ' G' u y->P v u H')
 (qx:∀ c,r=.xc c->∀ ρ' G' H',GS ρ G H ρ' G' H'->SR K ρ' cl G' H' S'->E (.ref (cl c)) none H'):ta σ H λ v H1=>tb σ H1 λ u H2=>P v u H2:=
 di ha R e (λ x S1 e1 v ρ1 G1 H1 g1 s1 dv=>di hb (R.grow g1 s1) e1 (λ y S2 e2 u ρ2 G2 H2 g2 s2 du=>q x y S2 e2 v u ρ2 G2 H2 (g1.trans g2) s2 ((dv.ext g2.r).same g2.g) du) λ c hc ρ2 G2 H2 g2 s2=>qx c hc ρ2 G2 H2 (g1.trans g2) s2) qx
noncomputable def kz {α:Type} (x:Option α) (S:ai):SM α:=x.map λ d=>(.ok d,S)
theorem bV {α:Type} {x:Option α} {S S':ai} {r:Rs α} (h:kz x S=some (r,S')):∃ d,x=some d/\r=.ok d/\S'=S:=by
 obtain ⟨d,e1,e2⟩:=oM h
 cases e2;exact ⟨d,e1,rfl,rfl⟩
noncomputable def Ik (g:W->W->Option W) (fa fb:DS->ai->SM W):DS->ai->SM W:=λ δ S=>au (fa δ S) λ x S1=>au (fb δ S1) λ y S2=>kz (g x y) S2
theorem HF {r:R2} {ta tb:TE} {fa fb:DS->ai->SM W} {g:W->W->Option W} (hr:∀ ρ,DR K ρ r g) (ha:SE K cl E ta fa) (hb:SE K cl E tb fb):SE K cl E (rA r ta tb) (Ik g fa fb):=λ ρ G σ H δ S r' S' Q R e q qx=>
 iB ha hb R e (λ x y S2 e2 v u ρ2 G2 H2 g2 s2 dv du=>by
  obtain ⟨c,e3,rfl,rfl⟩:=bV e2;exact hr ρ2 G2 H2 v u x y c Q g2.s (.inl dv) du e3 λ w G3 H3 g3 dw=>q c rfl w ρ2 G3 H3 (g2.trans (.of g3)) (s2.grow g3) dw) qx
noncomputable def oU (g:W->W->Option Bool) (fa fb:DS->ai->SM W):DS->ai->SM Bool:=λ δ S=>au (fa δ S) λ x S1=>au (fb δ S1) λ y S2=>kz (g x y) S2
noncomputable def sB (f:DS->ai->SM Bool):DS->ai->SM W:=λ δ S=>au (f δ S) λ b S1=>some (.ok (.bool b),S1)
theorem CA {r:R2} {ta tb:TE} {fa fb:DS->ai->SM W} {g:W->W->Option Bool} (hr:∀ ρ,DB K ρ r g) (ha:SE K cl E ta fa) (hb:SE K cl E tb fb):ST K cl E (lW (rA r ta tb)) (oU g fa fb):=λ ρ G σ H δ S r' S' Q R e q qx=>
 iB ha hb R e (λ x y S2 e2 v u ρ2 G2 H2 g2 s2 dv du=>by
  obtain ⟨c,e3,rfl,rfl⟩:=bV e2;exact hr ρ2 H2 v u x y c _ (dv.same g2.s) (du.same g2.s) e3 ⟨c,rfl,q c rfl ρ2 G2 H2 g2 s2⟩) qx
noncomputable def oY (f g:DS->ai->SM Bool):DS->ai->SM Bool:=λ δ S=>au (f δ S) λ b S1=>if b=true then g δ S1 else some (.ok false,S1)
noncomputable def wK (f g:DS->ai->SM Bool):DS->ai->SM Bool:=λ δ S=>au (f δ S) λ b S1=>if b=true then some (.ok true,S1) else g δ S1
noncomputable def oN (f:DS->ai->SM Bool):DS->ai->SM Bool:=λ δ S=>au (f δ S) λ b S1=>some (.ok (!b),S1)
theorem D6 {t u:TT} {f g:DS->ai->SM Bool} (h1:ST K cl E t f) (h2:ST K cl E u g):ST K cl E (Ds t u) (oY f g):=λ ρ G σ H δ S r S' Q R e q qx=>
 qX h1 R e (λ b S1 e1 ρ1 G1 H1 g1 s1=>by
  cases b with
  | true=>exact h2 ρ1 G1 σ H1 δ S1 r S' Q (R.grow g1 s1) e1 (λ b hb ρ2 G2 H2 g2 s2=>q b hb ρ2 G2 H2 (g1.trans g2) s2) λ c hc ρ2 G2 H2 g2 s2=>qx c hc ρ2 G2 H2 (g1.trans g2) s2
  | false=>cases e1;exact q false rfl ρ1 G1 H1 g1 s1) qx
theorem GF {t u:TT} {f g:DS->ai->SM Bool} (h1:ST K cl E t f) (h2:ST K cl E u g):ST K cl E (JN t u) (wK f g):=λ ρ G σ H δ S r S' Q R e q qx=>
 qX h1 R e (λ b S1 e1 ρ1 G1 H1 g1 s1=>by
  cases b with
  | false=>exact h2 ρ1 G1 σ H1 δ S1 r S' Q (R.grow g1 s1) e1 (λ b hb ρ2 G2 H2 g2 s2=>q b hb ρ2 G2 H2 (g1.trans g2) s2) λ c hc ρ2 G2 H2 g2 s2=>qx c hc ρ2 G2 H2 (g1.trans g2) s2
  | true=>cases e1;exact q true rfl ρ1 G1 H1 g1 s1) qx
theorem Fj {t:TT} {f:DS->ai->SM Bool} (h:ST K cl E t f):ST K cl E (CJ t) (oN f):=λ ρ G σ H δ S r S' Q R e q qx=>
 qX h R e (λ b S1 e1 ρ1 G1 H1 g1 s1=>by cases e1;exact q _ rfl ρ1 G1 H1 g1 s1) qx
noncomputable def FM (c:DS->ai->SM Bool) (f g:DS->ai->SM W):DS->ai->SM W:=λ δ S=>au (c δ S) λ b S1=>if b=true then f δ S1 else g δ S1
theorem Gv {tc:TT} {t u:TE} {c:DS->ai->SM Bool} {f g:DS->ai->SM W} (hc:ST K cl E tc c) (h1:SE K cl E t f) (h2:SE K cl E u g):SE K cl E (Jm tc t u) (FM c f g):=λ ρ G σ H δ S r S' Q R e q qx=>
 qX hc R e (λ b S1 e1 ρ1 G1 H1 g1 s1=>by
  cases b with
  | true=>exact h1 ρ1 G1 σ H1 δ S1 r S' Q (R.grow g1 s1) e1 (λ d hd v ρ2 G2 H2 g2 s2 dv=>q d hd v ρ2 G2 H2 (g1.trans g2) s2 dv) λ c hc ρ2 G2 H2 g2 s2=>qx c hc ρ2 G2 H2 (g1.trans g2) s2
  | false=>exact h2 ρ1 G1 σ H1 δ S1 r S' Q (R.grow g1 s1) e1 (λ d hd v ρ2 G2 H2 g2 s2 dv=>q d hd v ρ2 G2 H2 (g1.trans g2) s2 dv) λ c hc ρ2 G2 H2 g2 s2=>qx c hc ρ2 G2 H2 (g1.trans g2) s2) qx
noncomputable def wQ (f:DS->ai->SM (List W)):DS->ai->SM W:=λ δ S=>au (f δ S) λ ds S1=>if ds.length<=sizeLine then some (.ok (.list ds),S1) else none
theorem ES {t:TA} {f:DS->ai->SM (List W)} (h:SA K cl E t f):SE K cl E (vC t) (wQ f):=λ ρ G σ H δ S r S' Q R e q qx=>
 iI h R e (λ ds S1 e1 vs ρ1 G1 H1 g1 s1 da=>by
  split at e1
  . rename_i hz;cases e1;refine ⟨by rw [da.length];exact hz,λ p H' n=>?_⟩;have g2:=Gr.nw g1.s n;exact q _ rfl _ ρ1 _ H' (g1.trans (.of g2)) (s1.grow g2) (.lst (dM.of aJ) (da.same g2.g))
  . cases e1) qx
noncomputable def cP (f:DS->ai->SM (List W)):DS->ai->SM W:=λ δ S=>au (f δ S) λ ds S1=>if ds.length<=sizeLine then some (.ok (.ref S1.length),S1++[.lst ds]) else none
theorem AH {t:TA} {f:DS->ai->SM (List W)} (h:SA K cl E t f):SE K cl E (vC t) (cP f):=λ ρ G σ H δ S r S' Q R e q qx=>
 iI h R e (λ ds S1 e1 vs ρ1 G1 H1 g1 s1 da=>by
  split at e1
  . rename_i hz;cases e1;refine ⟨by rw [da.length];exact hz,λ p H' n=>?_⟩;obtain ⟨s2,g2⟩:=s1.push (o:=.lst ds) g1.s n λ ρ' hr=>⟨vs,n.2.2,da.ext hr⟩
    exact q _ rfl _ _ _ H' (g1.trans g2) s2 (.ref (by rw [<-s1.len];simp))
  . cases e1) qx
noncomputable def tG:DS->ai->SM W:=λ _ S=>some (.ok (.ref S.length),S++[.dK []])
theorem GZ:SE K cl E xg tG:=λ ρ G σ H δ S r S' Q R e q qx=>by
 cases e;intro p hp;obtain ⟨s2,g2⟩:=R.st.push (o:=.dK []) R.rl.sub (Nw.of (o:=.dK []) hp) λ ρ' hr=>⟨[],aJ,.nil⟩
 exact q _ rfl _ _ _ _ g2 s2 (.ref (by rw [<-R.st.len];simp))
noncomputable def kj (x:W) (S:ai):Option (Nat×Ob):=match x with
 | .ref n=>(S[n]?).map λ o=>(n,o)
 | _=>none
theorem fE {x:W} {S:ai} {n:Nat} {o:Ob} (h:kj x S=some (n,o)):x=.ref n/\S[n]?=some o:=by
 unfold kj at h;split at h
 . obtain ⟨o',e1,e2⟩:=oM h
   cases e2;exact ⟨rfl,e1⟩
 . cases h
noncomputable def iU (c:Str) (x:W) (S:ai):Option (Nat×List (Str×W)):=match kj x S with
 | some (n,.ins c' fs)=>if c'=c then some (n,fs) else none
 | _=>none
theorem dy {c:Str} {x:W} {S:ai} {n:Nat} {fs:List (Str×W)} (h:iU c x S=some (n,fs)):x=.ref n/\S[n]?=some (.ins c fs):=by
 unfold iU at h;cases e:kj x S with
 | none=>rw [e] at h;cases h
 | some p=>
  obtain ⟨m,o⟩:=p;rw [e] at h;cases o with
  | ins c' fs'=>
   by_cases hc:c'=c
   . subst hc;cases (if_pos rfl).symm.trans h;exact fE e
   . cases (if_neg hc).symm.trans h
  | _=>cases h
noncomputable def ao (c f:Str) (fa:DS->ai->SM W):DS->ai->SM W:=λ δ S=>au (fa δ S) λ x S1=>(iU c x S1).bind λ p=>kz (p.2.lookup f) S1
theorem cE {ρ:List Addr} {G:Hp} {v:V} {n:Nat} (h:Dw K ρ G v (.ref n)):∃ a,v=.ref a/\ρ[n]?=some a:=by
 cases h with
 | ref e=>exact ⟨_,rfl,e⟩
theorem EA {c f:Str} {ta:TE} {fa:DS->ai->SM W} (hc:eJ K (cl c)) (hn:ac K (cl c) f) (ha:SE K cl E ta fa):SE K cl E (E2 K ta f) (ao c f fa):=λ ρ G σ H δ S r S' Q R e q qx=>
 di ha R e (λ x S1 e1 v ρ1 G1 H1 g1 s1 dv=>by
  obtain ⟨⟨n,fs⟩,e2,e3⟩:=oB e1
  obtain ⟨d,e4,rfl,rfl⟩:=bV e3;obtain ⟨rfl,e5⟩:=dy e2;obtain ⟨a,rfl,ea⟩:=cE dv;obtain ⟨ga,dx,ws,k1,k2,k3,k4⟩:=s1.addr e5 ea;obtain ⟨u,k5,k6⟩:=k4.lookup e4;exact ⟨a,_,dx,ws,u,rfl,k1,hc,hn,k5,q d rfl u ρ1 G1 H1 g1 s1 k6⟩) qx
noncomputable def tj (K:Frag) (cl:Str->Addr) (f:List W->ai->SM W):Sp:=λ vs H Q E=>∃ ρ G S ds r S',bo G H/\SR K ρ cl G H S/\aF K ρ G vs ds/\f ds S=some (r,S')/\
 (∀ d,r=.ok d->∀ v ρ' G' H',GS ρ G H ρ' G' H'->SR K ρ' cl G' H' S'->Dw K ρ' G' v d->Q v H')/\(∀ c,r=.xc c->∀ ρ' G' H',GS ρ G H ρ' G' H'->SR K ρ' cl G' H' S'->E (.ref (cl c)) none H')
noncomputable def ku (f:List W->Option W) (fa:DS->ai->SM (List W)):DS->ai->SM W:=λ δ S=>au (fa δ S) λ ds S1=>kz (f ds) S1
theorem xH {f:List W->Option W} {t:TA} {fa:DS->ai->SM (List W)} {E':XK} (h:SA K cl E t fa):SE K cl E (se (sZ K f) [] E' t) (ku f fa):=λ ρ G σ H δ S r S' Q R e q qx=>
 iI h R e (λ ds S1 e1 vs ρ1 G1 H1 g1 s1 da=>by
  obtain ⟨d,e2,rfl,rfl⟩:=bV e1;exact ⟨ρ1,G1,ds,d,g1.s,by rw [List.append_nil];exact da,e2,λ v G2 H2 g2 dv=>q d rfl v ρ1 G2 H2 (g1.trans (.of g2)) (s1.grow g2) dv⟩) qx
noncomputable def cf (c m:Str) (f:List W->ai->SM W) (fo:DS->ai->SM W) (fa:DS->ai->SM (List W)):DS->ai->SM W:=λ δ S=>au (fo δ S) λ x S1=>(iU c x S1).bind λ p=>if p.2.lookup m=none then au (fa δ S1) λ ds S2=>f (x::ds) S2 else none
theorem yn {c m:Str} {f:List W->ai->SM W} {to:TE} {t:TA} {fo:DS->ai->SM W} {fa:DS->ai->SM (List W)} (ho:SE K cl E to fo) (h:SA K cl E t fa):SE K cl E (nA (cl c) m (tj K cl f) [] E to t) (cf c m f fo fa):=λ ρ G σ H δ S r S' Q R e q qx=>
 di ho R e (λ x S1 e1 v ρ1 G1 H1 g1 s1 dv=>by
  obtain ⟨⟨n,fs⟩,e2,e3⟩:=oB e1
  split at e3
  case isFalse=>cases e3
  rename_i hm;obtain ⟨rfl,e5⟩:=dy e2;obtain ⟨a,rfl,ea⟩:=cE dv;obtain ⟨ga,dx,ws,k1,k2,k3,k4⟩:=s1.addr e5 ea;refine ⟨a,dx,ws,rfl,k1,k4.lookup_none hm,?_⟩;exact iI h (R.grow g1 s1) e3 (λ ds S2 e6 vs ρ2 G2 H2 g2 s2 da=>⟨ρ2,G2,S2,.ref n::ds,r,S',g2.s,s2,by rw [List.append_nil];exact .cons ((dv.ext g2.r).same g2.g) da,e6,λ d hd v ρ3 G3 H3 g3 s3 dv=>q d hd v ρ3 G3 H3 (g1.trans (g2.trans g3)) s3 dv,λ c hc ρ3 G3 H3 g3 s3=>qx c hc ρ3 G3 H3 (g1.trans (g2.trans g3)) s3⟩) λ c hc ρ2 G2 H2 g2 s2=>qx c hc ρ2 G2 H2 (g1.trans g2) s2) qx
noncomputable def jd (K:Frag) (cl:Str->Addr) (f:List W->ai->SM W):Sp:=λ vs H Q _=>∃ ρ G S ds d S',bo G H/\SR K ρ cl G H S/\aF K ρ G vs ds/\f ds S=some (.ok d,S')/\
 ∀ v ρ' G' H',GS ρ G H ρ' G' H'->SR K ρ' cl G' H' S'->Dw K ρ' G' v d->Q v H'
noncomputable def noX (m:SM W):SM W:=match m with
 | some (.ok d,S)=>some (.ok d,S)
 | _=>none
theorem jy {m:SM W} {r:Rs W} {S':ai} (h:noX m=some (r,S')):∃ d,r=.ok d/\m=some (.ok d,S'):=by
 unfold noX at h;split at h
 . cases h;exact ⟨_,rfl,rfl⟩
 . cases h
noncomputable def cJ (f:List W->ai->SM W) (fa:DS->ai->SM (List W)):DS->ai->SM W:=λ δ S=>au (fa δ S) λ ds S1=>noX (f ds S1)
theorem A1 {f:List W->ai->SM W} {t:TA} {fa:DS->ai->SM (List W)} {E':XK} (h:SA K cl E t fa):SE K cl E (se (jd K cl f) [] E' t) (cJ f fa):=λ ρ G σ H δ S r S' Q R e q qx=>
 iI h R e (λ ds S1 e1 vs ρ1 G1 H1 g1 s1 da=>by
  obtain ⟨d,rfl,e2⟩:=jy e1;exact ⟨ρ1,G1,S1,ds,d,S',g1.s,s1,by rw [List.append_nil];exact da,e2,λ v ρ2 G2 H2 g2 s2 dv=>q d rfl v ρ2 G2 H2 (g1.trans g2) s2 dv⟩) qx
noncomputable def cz (c m:Str) (f:List W->ai->SM W) (fo:DS->ai->SM W) (fa:DS->ai->SM (List W)):DS->ai->SM W:=λ δ S=>au (fo δ S) λ x S1=>(iU c x S1).bind λ p=>if p.2.lookup m=none then au (fa δ S1) λ ds S2=>noX (f (x::ds) S2) else none
theorem uX {c m:Str} {f:List W->ai->SM W} {to:TE} {t:TA} {fo:DS->ai->SM W} {fa:DS->ai->SM (List W)} {E':XK} (ho:SE K cl E to fo) (h:SA K cl E t fa):SE K cl E (nA (cl c) m (jd K cl f) [] E' to t) (cz c m f fo fa):=λ ρ G σ H δ S r S' Q R e q qx=>
 di ho R e (λ x S1 e1 v ρ1 G1 H1 g1 s1 dv=>by
  obtain ⟨⟨n,fs⟩,e2,e3⟩:=oB e1
  split at e3
  case isFalse=>cases e3
  rename_i hm;obtain ⟨rfl,e5⟩:=dy e2;obtain ⟨a,rfl,ea⟩:=cE dv;obtain ⟨ga,dx,ws,k1,k2,k3,k4⟩:=s1.addr e5 ea;refine ⟨a,dx,ws,rfl,k1,k4.lookup_none hm,?_⟩;exact iI h (R.grow g1 s1) e3 (λ ds S2 e6 vs ρ2 G2 H2 g2 s2 da=>by
   obtain ⟨d,rfl,e7⟩:=jy e6;exact ⟨ρ2,G2,S2,.ref n::ds,d,S',g2.s,s2,by rw [List.append_nil];exact .cons ((dv.ext g2.r).same g2.g) da,e7,λ v ρ3 G3 H3 g3 s3 dv=>q d rfl v ρ3 G3 H3 (g1.trans (g2.trans g3)) s3 dv⟩) λ c hc ρ2 G2 H2 g2 s2=>qx c hc ρ2 G2 H2 (g1.trans g2) s2) qx
noncomputable def jF (c:Str) (f:List W->ai->SM W) (fa:DS->ai->SM (List W)):DS->ai->SM W:=λ δ S=>au (fa δ S) λ ds S1=>au (noX (f (.ref S1.length::ds) (S1++[.ins c []]))) λ d S2=>match d with
 | .none=>some (.ok (.ref S1.length),S2)
 | _=>none
theorem AI {c:Str} {f:List W->ai->SM W} {t:TA} {fa:DS->ai->SM (List W)} {E':XK} (h:SA K cl E t fa):SE K cl E (zu (cl c) (jd K cl f) [] E' t) (jF c f fa):=λ ρ G σ H δ S r S' Q R e q qx=>
 iI h R e (λ ds S1 e1 vs ρ1 G1 H1 g1 s1 da=>by
  intro x dx hx hdx hne;have na:Nw H1 (cR H1 dx (.own x)) dx (.own x):=.of hdx;have gA:Gr G1 H1 G1 (cR H1 dx (.own x)):=.nwO g1.s na;have hx':(cR H1 dx (.own x)) x=none:=by rw [aL (Ne.symm hne)];exact hx
  have nb:Nw (cR H1 dx (.own x)) (cR (cR H1 dx (.own x)) x (.ins (cl c) dx [])) x (.ins (cl c) dx []):=.of hx';obtain ⟨s2,g2⟩:=(s1.grow gA).push (o:=.ins c []) gA.s nb λ ρ' hr=>⟨dx,[],aJ,fN g1.s hdx,by rw [aL hne];exact aJ,.nil⟩
  have g12:=(GS.of (ρ:=ρ1) gA).trans g2;have dx1:aF K (ρ1++[x]) G1 (.ref x::vs) (.ref S1.length::ds):=.cons (.ref (by rw [<-s1.len];simp)) (da.ext ⟨[x],rfl⟩);rcases aD e1 with ⟨c',em,rfl⟩ | ⟨d,S2,em,e2⟩
  . obtain ⟨_,z,_⟩:=jy em;cases z
  . obtain ⟨d',z,em⟩:=jy em;cases z;refine ⟨_,G1,_,_,_,_,g2.s,s2,by rw [List.append_nil];exact dx1,em,λ v ρ3 G3 H3 g3 s3 dv=>?_⟩;split at e2
    . cases e2;exact ⟨tE dv,q _ rfl _ ρ3 G3 H3 (g1.trans (g12.trans g3)) s3 (.ref (by
       have h1:(ρ1++[x])[S1.length]?=some x:=by rw [<-s1.len];simp
       obtain ⟨t',ht⟩:=g3.r;rw [<-ht,List.getElem?_append_left (oG h1).1];exact h1))⟩
    . cases e2) qx
noncomputable def G9 (K:Frag) (cl:Str->Addr) (E:XK) (wi:TI) (f:DS->ai->SM (List W)):Prop:=
 ∀ (ρ:List Addr) (G:Hp) (σ:St) (H:Hp) (δ:DS) (S:ai) (r:Rs (List W)) (S':ai) (R':It->Hp->Prop),RS K cl ρ G H δ σ S->f δ S=some (r,S')->
  (∀ ds,r=.ok ds->∀ J ρ' G' H',GS ρ G H ρ' G' H'->SR K ρ' cl G' H' S'->Gd K ρ' J G' ds->R' J H')->
  (∀ c,r=.xc c->∀ ρ' G' H',GS ρ G H ρ' G' H'->SR K ρ' cl G' H' S'->E (.ref (cl c)) none H')->wi σ H R'
theorem yg {wi:TI} {f:DS->Option (List W)} (h:∀ ρ,DI K ρ wi f):G9 K cl E wi (aa f):=λ ρ G σ H δ S r S' R' R e q qx=>by
 obtain ⟨ds,e1,rfl,rfl⟩:=iG e;exact h ρ G σ H δ ds R' R.rl e1 λ J G' H' g it=>q ds rfl J ρ G' H' (.of g) (R.st.grow g) it
end
inductive nP where
 | nx (δ:DS)
 | bk (δ:DS)
 | ct (δ:DS)
 | rt (d:W)
 | xc (c:Str)
noncomputable abbrev SO:=Option (nP×ai)
section
variable {K:Frag} {cl:Str->Addr} {E:XK}
structure lw (K:Frag) (cl:Str->Addr) (ρ0:List Addr) (G0 H0:Hp) (ρ:List Addr) (G H:Hp) (δ:DS) (σ:St) (S:ai):Prop where
 rs:RS K cl ρ G H δ σ S
 gs:GS ρ0 G0 H0 ρ G H
 ow:∀ (i:Nat) p ds,δ[i]?=some (.own ds)->σ[i]?=some (some (.ref p))->H0 p=none
noncomputable def zM (K:Frag) (cl:Str->Addr) (E:XK) (ρ0:List Addr) (G0 H0:Hp) (D:jb) (S:ai):nP->Prop
 | .nx δ=>∀ σ ρ G H,lw K cl ρ0 G0 H0 ρ G H δ σ S->D.nx σ H
 | .bk δ=>∀ σ ρ G H,lw K cl ρ0 G0 H0 ρ G H δ σ S->D.bk σ H
 | .ct δ=>∀ σ ρ G H,lw K cl ρ0 G0 H0 ρ G H δ σ S->D.ct σ H
 | .rt d=>∀ v ρ G H,GS ρ0 G0 H0 ρ G H->SR K ρ cl G H S->Dw K ρ G v d->D.rt v H
 | .xc c=>∀ ρ G H,GS ρ0 G0 H0 ρ G H->SR K ρ cl G H S->E (.ref (cl c)) none H
noncomputable def kX (K:Frag) (cl:Str->Addr) (E:XK) (t:TS) (f:DS->ai->SO):Prop:=
 ∀ (ρ0:List Addr) (G0 H0:Hp) (ρ:List Addr) (G:Hp) (σ:St) (H:Hp) (δ:DS) (S:ai) (o:nP) (S':ai) (D:jb),lw K cl ρ0 G0 H0 ρ G H δ σ S->f δ S=some (o,S')->zM K cl E ρ0 G0 H0 D S' o->t D σ H
theorem lw.grow {ρ0:List Addr} {G0 H0:Hp} {ρ ρ':List Addr} {G H G' H':Hp} {δ:DS} {σ:St} {S S':ai} (I:lw K cl ρ0 G0 H0 ρ G H δ σ S) (g:GS ρ G H ρ' G' H') (s:SR K ρ' cl G' H' S'):lw K cl ρ0 G0 H0 ρ' G' H' δ σ S':=⟨I.rs.grow g s,I.gs.trans g,I.ow⟩
theorem lw.sub {ρ0:List Addr} {G0 H0:Hp} {ρ:List Addr} {G H:Hp} {δ δ':DS} {σ σ':St} {S:ai} (I:lw K cl ρ0 G0 H0 ρ G H δ σ S) (R:Rl K ρ G H δ' σ') (o:gy δ' σ' δ σ):lw K cl ρ0 G0 H0 ρ G H δ' σ' S:=
 ⟨⟨R,I.rs.st,λ i ds p h1 h2=>by
  obtain ⟨es,h3,h4⟩:=o i ds p h1 h2;exact I.rs.ap i es p h3 h4⟩,I.gs,λ i p ds h1 h2=>by
  obtain ⟨es,h3,h4⟩:=o i ds p h1 h2;exact I.ow i p es h3 h4⟩
theorem lw.base {ρ0:List Addr} {G0 H0:Hp} {ρ:List Addr} {G H:Hp} {δ:DS} {σ:St} {S:ai} (I:lw K cl ρ0 G0 H0 ρ G H δ σ S):lw K cl ρ G H0 ρ G H δ σ S:=
 ⟨I.rs,⟨List.prefix_refl _,.refl _,I.gs.s,λ b o hb e=>I.gs.h b o (λ h=>hb (I.gs.r.subset h)) e,I.gs.k,λ _ _ e=>e,λ a h1 h2=>absurd h1 h2,I.gs.t⟩,I.ow⟩
theorem GS.rebase {ρ0:List Addr} {G0 H0:Hp} {ρ:List Addr} {G H:Hp} {ρ':List Addr} {G' H':Hp} (a:GS ρ0 G0 H0 ρ G H) (b:GS ρ G H0 ρ' G' H'):GS ρ0 G0 H0 ρ' G' H':=
 ⟨a.r.trans b.r,a.g.trans b.g,b.s,λ c o hc e=>b.h c o (λ h=>by rw [a.f c h hc] at e;cases e) e,b.k,λ c h1 h2=>b.n c h1 (a.n c h1 h2),(λ c h1 h2=>by
  by_cases h3:c∈ρ
  . exact a.f c h3 h2
  . exact b.f c h1 h3),b.t⟩
theorem lw.rebase {ρ0:List Addr} {G0 H0:Hp} {ρ:List Addr} {G H:Hp} {ρ':List Addr} {G' H':Hp} {δ:DS} {σ:St} {S:ai} (a:GS ρ0 G0 H0 ρ G H) (I:lw K cl ρ G H0 ρ' G' H' δ σ S):lw K cl ρ0 G0 H0 ρ' G' H' δ σ S:=⟨I.rs,a.rebase I.gs,I.ow⟩
noncomputable def rB (δ:DS) (σ:St) (b:Addr):Prop:=∃ (i:Nat) (ds:List W),δ[i]?=some (.own ds)/\σ[i]?=some (some (.ref b))
noncomputable def hideO (δ:DS) (σ:St) (H:Hp):Hp:=λ b=>@ite _ (rB δ σ b) (Classical.propDecidable _) none (H b)
theorem pB {δ:DS} {σ:St} {H:Hp} {b:Addr} (h:rB δ σ b):hideO δ σ H b=none:=by
 unfold hideO;rw [if_pos h]
theorem df {δ:DS} {σ:St} {H:Hp} {b:Addr} (h:¬ rB δ σ b):hideO δ σ H b=H b:=by
 unfold hideO;rw [if_neg h]
noncomputable def JH:fA->nP
 | .nx δ=>.nx δ
 | .bk δ=>.bk δ
 | .ct δ=>.ct δ
 | .rt d=>.rt d
noncomputable def ax (f:DS->Option fA):DS->ai->SO:=λ δ S=>(f δ).map λ o=>(JH o,S)
theorem Bx {t:TS} {f:DS->Option fA} (h:∀ ρ,nZ K ρ t f):kX K cl E t (ax f):=λ ρ0 G0 H0 ρ G σ H δ S o S' D I e p=>by
 obtain ⟨o',e1,e2⟩:=oM e
 cases e2;have same0:bo (hideO δ σ H) H:=λ b u hb=>by
  by_cases ho:rB δ σ b
  . rw [pB ho] at hb;cases hb
  . rw [df ho] at hb;exact hb
 have sameG:bo G (hideO δ σ H):=λ b u hb=>by
  by_cases ho:rB δ σ b
  . obtain ⟨i,ds,k1,k2⟩:=ho;obtain ⟨o,m1,q,vs,rfl,m3,m4,m5⟩:=I.rs.rl.sl i _ k1;rw [k2] at m1;cases m1;rw [m3] at hb;cases hb
  . rw [df ho];exact I.gs.s b u hb
 have notown:∀ a,a∈ρ->¬ rB δ σ a:=λ a ha hy0=>by obtain ⟨i,ds,k1,k2⟩:=hy0;exact I.rs.ap i ds a k1 k2 ha
 have ownlst:∀ b,rB δ σ b->∃ vs,H b=some (.lst vs):=λ b hy0=>by
  obtain ⟨i,ds,k1,k2⟩:=hy0;obtain ⟨o,m1,q,vs,rfl,m3,m4,m5⟩:=I.rs.rl.sl i _ k1;rw [k2] at m1;cases m1;exact ⟨vs,m4⟩
 have sr0:SR K ρ cl G (hideO δ σ H) S:=⟨I.rs.st.len,I.rs.st.nd,λ n ob en=>by
  obtain ⟨a,k1,k2,k3⟩:=I.rs.st.ob n ob en;refine ⟨a,k1,k2,k3.move (List.prefix_refl _) (.refl _) (df (notown a (List.mem_of_getElem? k1))) λ dx d1 d2=>⟨?_,d1⟩⟩;rw [df λ ho=>by
   obtain ⟨vs,hv⟩:=ownlst dx ho;rw [d2] at hv;cases hv]
  exact d2⟩
 have iv:Iv K ρ G (hideO δ σ H) G H δ σ:=⟨I.rs.rl,⟨.refl _,same0,I.gs.s,λ _ _ e=>e⟩,λ i q ds k1 k2=>pB ⟨i,ds,k1,k2⟩⟩
 have h0own:∀ b,H0 b≠none->¬ rB δ σ b:=λ b hb hy0=>by obtain ⟨i,ds,k1,k2⟩:=hy0;exact hb (I.ow i b ds k1 k2)
 have gs:∀ {G' H':Hp},Gr G (hideO δ σ H) G' H'->GS ρ0 G0 H0 ρ G' H':=λ {G' H'} g=>
  ⟨I.gs.r,I.gs.g.trans g.g,g.s,λ b u hb eb=>g.h b u (by rw [df (h0own b (by rw [eb];simp))];exact I.gs.h b u hb eb),λ b hb=>qT g.h (by rw [df (h0own b hb)];exact I.gs.k b hb),λ b h1 h2=>g.n b (by unfold nT;rw [df (h0own b h1.1)];exact I.gs.t b h1) (I.gs.n b h1 h2),I.gs.f,λ b h1=>nT.same (by unfold nT;rw [df (h0own b h1.1)];exact I.gs.t b h1) g.h⟩
 have nx:∀ {δ':DS} {σ':St} {G' H':Hp},Iv K ρ G (hideO δ σ H) G' H' δ' σ'->lw K cl ρ0 G0 H0 ρ G' H' δ' σ' S:=λ {δ' σ' G' H'} I'=>
  ⟨⟨I'.rl,sr0.grow I'.gr,λ i ds q k1 k2 hq=>by
   have:=I'.ow i q ds k1 k2;rw [df (notown q hq)] at this;obtain ⟨j,hj,ej⟩:=List.mem_iff_getElem.mp hq;obtain ⟨b,m1,m2,m3⟩:=I.rs.st.ob j (S[j]'(by rw [<-I.rs.st.len];exact hj)) (List.getElem?_eq_getElem _);rw [List.getElem?_eq_getElem hj,ej] at m1;cases m1;obtain ⟨y,hy,_⟩:=m3.some;rw [this] at hy;cases hy⟩,gs I'.gr,λ i q ds k1 k2=>by
   have h1:=I'.ow i q ds k1 k2;cases h2:H0 q with
   | none=>rfl
   | some u=>
    exfalso;have h3:=I.gs.k q (by rw [h2];simp);rw [df (h0own q (by rw [h2];simp))] at h1;exact h3 h1⟩
 refine h ρ G (hideO δ σ H) G σ H δ o' D iv e1 ?_;cases o' with
 | nx δ'=>exact λ σ' G' H' I'=>p σ' ρ G' H' (nx I')
 | bk δ'=>exact λ σ' G' H' I'=>p σ' ρ G' H' (nx I')
 | ct δ'=>exact λ σ' G' H' I'=>p σ' ρ G' H' (nx I')
 | rt d=>exact λ v G' H' g dv=>p v ρ G' H' (gs g) (sr0.grow g) dv
noncomputable def av (f g:DS->ai->SO):DS->ai->SO:=λ δ S=>match f δ S with
 | some (.nx δ',S')=>g δ' S'
 | o=>o
theorem xu {t u:TS} {f g:DS->ai->SO} (h1:kX K cl E t f) (h2:kX K cl E u g):kX K cl E (Dm t u) (av f g):=λ ρ0 G0 H0 ρ G σ H δ S o S' D I e p=>by
 unfold av at e;cases ef:f δ S with
 | none=>rw [ef] at e;cases e
 | some r=>
  obtain ⟨o1,S1⟩:=r;rw [ef] at e;refine h1 ρ0 G0 H0 ρ G σ H δ S o1 S1 _ I ef ?_;cases o1 with
  | nx δ'=>exact λ σ' ρ' G' H' I'=>h2 ρ0 G0 H0 ρ' G' σ' H' δ' S1 o S' D I' e p
  | bk δ'=>cases e;exact p
  | ct δ'=>cases e;exact p
  | rt d=>cases e;exact p
  | xc c=>cases e;exact p
noncomputable def jX {α:Type} (m:SM α) (k:α->ai->SO):SO:=match m with
 | some (.ok a,S)=>k a S
 | some (.xc c,S)=>some (.xc c,S)
 | none=>none
theorem kF {α:Type} {m:SM α} {k:α->ai->SO} {o:nP} {S':ai} (h:jX m k=some (o,S')):(∃ c,m=some (.xc c,S')/\o=.xc c)∨∃ a S1,m=some (.ok a,S1)/\k a S1=some (o,S'):=by
 unfold jX at h;split at h
 . exact .inr ⟨_,_,rfl,h⟩
 . cases h;exact .inl ⟨_,rfl,rfl⟩
 . cases h
theorem gc {t:TE} {f:DS->ai->SM W} (h:SE K cl E t f) {ρ0:List Addr} {G0 H0:Hp} {ρ:List Addr} {G:Hp} {σ:St} {H:Hp} {δ:DS} {S:ai} {o:nP} {S':ai} {D:jb} {k:W->ai->SO} {P:V->Hp->Prop} (I:lw K cl ρ0 G0 H0 ρ G H δ σ S) (e:jX (f δ S) k=some (o,S')) (p:zM K cl E ρ0 G0 H0 D S' o)
 (q:∀ d S1,k d S1=some (o,S')->∀ v ρ' G' H',GS ρ G H ρ' G' H'->SR K ρ' cl G' H' S1->Dw K ρ' G' v d->P v H'):t σ H P:=by
 rcases kF e with ⟨c,em,rfl⟩ | ⟨d,S1,em,e⟩
 . exact h ρ G σ H δ S _ _ _ I.rs em (λ d hd=>by cases hd) (λ c' hc ρ1 G1 H1 g1 s1=>by cases hc;exact p ρ1 G1 H1 (I.gs.trans g1) s1)
 . exact h ρ G σ H δ S _ _ _ I.rs em (λ d' hd=>by cases hd;exact q _ _ e) (λ c' hc=>by cases hc)
theorem vI {t:TT} {f:DS->ai->SM Bool} (h:ST K cl E t f) {ρ0:List Addr} {G0 H0:Hp} {ρ:List Addr} {G:Hp} {σ:St} {H:Hp} {δ:DS} {S:ai} {o:nP} {S':ai} {D:jb} {k:Bool->ai->SO} {P:Bool->Hp->Prop} (I:lw K cl ρ0 G0 H0 ρ G H δ σ S) (e:jX (f δ S) k=some (o,S')) (p:zM K cl E ρ0 G0 H0 D S' o)
 (q:∀ d S1,k d S1=some (o,S')->∀ ρ' G' H',GS ρ G H ρ' G' H'->SR K ρ' cl G' H' S1->P d H'):t σ H P:=by
 rcases kF e with ⟨c,em,rfl⟩ | ⟨d,S1,em,e⟩
 . exact h ρ G σ H δ S _ _ _ I.rs em (λ d hd=>by cases hd) (λ c' hc ρ1 G1 H1 g1 s1=>by cases hc;exact p ρ1 G1 H1 (I.gs.trans g1) s1)
 . exact h ρ G σ H δ S _ _ _ I.rs em (λ d' hd=>by cases hd;exact q _ _ e) (λ c' hc=>by cases hc)
noncomputable def bD (c:DS->ai->SM Bool) (f g:DS->ai->SO):DS->ai->SO:=λ δ S=>jX (c δ S) λ b S1=>if b=true then f δ S1 else g δ S1
theorem BZ {tc:TT} {t u:TS} {c:DS->ai->SM Bool} {f g:DS->ai->SO} (hc:ST K cl E tc c) (h1:kX K cl E t f) (h2:kX K cl E u g):kX K cl E (Et tc t u) (bD c f g):=λ ρ0 G0 H0 ρ G σ H δ S o S' D I e p=>
 vI hc I e p λ b S1 e1 ρ1 G1 H1 g1 s1=>by
  cases b with
  | true=>exact h1 ρ0 G0 H0 ρ1 G1 σ H1 δ S1 o S' D (I.grow g1 s1) e1 p
  | false=>exact h2 ρ0 G0 H0 ρ1 G1 σ H1 δ S1 o S' D (I.grow g1 s1) e1 p
noncomputable def gf (f:DS->ai->SM W):DS->ai->SO:=λ δ S=>jX (f δ S) λ d S1=>some (.rt d,S1)
theorem zd {t:TE} {f:DS->ai->SM W} (h:SE K cl E t f):kX K cl E (EQ t) (gf f):=λ ρ0 G0 H0 ρ G σ H δ S o S' D I e p=>
 gc h I e p λ d S1 e1 v ρ1 G1 H1 g1 s1 dv=>by
  cases e1;exact p v ρ1 G1 H1 (I.gs.trans g1) s1 dv
noncomputable def cQ (f:DS->ai->SM W) (h:W->DS->Option DS):DS->ai->SO:=λ δ S=>jX (f δ S) λ d S1=>(h d δ).map λ δ'=>(.nx δ',S1)
theorem yw {t:TE} {g:TG} {f:DS->ai->SM W} {h:W->DS->Option DS} (h1:SE K cl E t f) (h2:∀ ρ,DG K ρ g h):kX K cl E (tY t g) (cQ f h):=λ ρ0 G0 H0 ρ G σ H δ S o S' D I e p=>
 gc h1 I e p λ d S1 e1 v ρ1 G1 H1 g1 s1 dv=>by
  obtain ⟨δ',e2,e3⟩:=oM e1
  cases e3;have I1:=I.grow g1 s1;exact h2 ρ1 G1 H1 δ σ v d δ' _ I1.rs.rl dv e2 λ σ' R o=>p σ' ρ1 G1 H1 (I1.sub R o)
noncomputable def bd (f:DS->ai->SM W):DS->ai->SO:=λ δ S=>jX (f δ S) λ _ S1=>some (.nx δ,S1)
theorem uH {t:TE} {f:DS->ai->SM W} (h:SE K cl E t f):kX K cl E (vi t) (bd f):=λ ρ0 G0 H0 ρ G σ H δ S o S' D I e p=>
 gc h I e p λ d S1 e1 v ρ1 G1 H1 g1 s1 dv=>by
  cases e1;exact p σ ρ1 G1 H1 (I.grow g1 s1)
noncomputable def cu (c f:Str) (fo fv:DS->ai->SM W):DS->ai->SO:=λ δ S=>jX (fv δ S) λ d S1=>jX (fo δ S1) λ x S2=>(iU c x S2).bind λ p=>if p.2.length<1000 then some (.nx δ,S2.set p.1 (.ins c (dS f d p.2))) else none
theorem xF {c f:Str} {to tv:TE} {fo fv:DS->ai->SM W} (hc:eJ K (cl c)) (hn:ac K (cl c) f) (ho:SE K cl E to fo) (hv:SE K cl E tv fv):kX K cl E (Gy K to tv f) (cu c f fo fv):=λ ρ0 G0 H0 ρ G σ H δ S o S' D I e p=>
 gc hv I e p λ d S1 e1 v ρ1 G1 H1 g1 s1 dv=>by
  have I1:=I.grow g1 s1;refine gc ho I1 e1 p λ x S2 e2 u ρ2 G2 H2 g2 s2 du=>?_;obtain ⟨⟨n,fs⟩,e3,e4⟩:=oB e2
  split at e4
  case isFalse=>cases e4
  rename_i hl;cases e4;obtain ⟨rfl,e5⟩:=dy e3;obtain ⟨a,rfl,ea⟩:=cE du;obtain ⟨ga,dx,ws,k1,k2,k3,k4⟩:=s2.addr e5 ea;have I2:=I1.grow g2 s2;have hda:dx≠a:=λ z=>by rw [z,k1] at k3;cases k3
  obtain ⟨s3,g3⟩:=s2.put (x:=.ins (cl c) dx (putF f v ws)) (o':=.ins c (dS f d fs)) g2.s e5 ea (λ b z=>by cases z) ⟨dx,_,aJ,k2,by rw [aL hda];exact k3,k4.putF ((dv.ext g2.r).same g2.g)⟩;exact ⟨a,_,dx,ws,rfl,k1,hc,hn,by rw [<-k4.length];exact hl,p σ ρ2 G2 _ (I2.grow g3 s3)⟩
noncomputable def j8 (c f:Str) (fo fv:DS->ai->SM W):DS->ai->SO:=λ δ S=>jX (fo δ S) λ x S1=>(iU c x S1).bind λ p=>(p.2.lookup f).bind λ old=>jX (fv δ S1) λ y S2=>(gI (λ i j=>i+j) old y).bind λ z=>(iU c x S2).bind λ p2=>if p2.2.length<1000 then some (.nx δ,S2.set p2.1 (.ins c (dS f z p2.2))) else none
theorem wC {c f:Str} {to tv:TE} {fo fv:DS->ai->SM W} (hc:eJ K (cl c)) (hn:ac K (cl c) f) (ho:SE K cl E to fo) (hv:SE K cl E tv fv):kX K cl E (pV K to tv HQ f) (j8 c f fo fv):=λ ρ0 G0 H0 ρ G σ H δ S o S' D I e p=>
 gc ho I e p λ x S1 e1 u ρ1 G1 H1 g1 s1 du=>by
  obtain ⟨⟨n,fs⟩,e3,e4⟩:=oB e1
  obtain ⟨old,e5,e6⟩:=oB e4
  obtain ⟨rfl,e7⟩:=dy e3;obtain ⟨a,rfl,ea⟩:=cE du;obtain ⟨ga,dx,ws,k1,k2,k3,k4⟩:=s1.addr e7 ea;obtain ⟨ov,k5,k6⟩:=k4.lookup e5;have I1:=I.grow g1 s1;refine ⟨a,_,dx,ws,ov,rfl,k1,hc,hn,k5,?_⟩;refine gc hv I1 e6 p λ y S2 e8 v ρ2 G2 H2 g2 s2 dv=>?_;obtain ⟨z,e9,e10⟩:=oB e8
  obtain ⟨⟨m,fs2⟩,e11,e12⟩:=oB e10
  split at e12
  case isFalse=>cases e12
  rename_i hl;cases e12;obtain ⟨em,e13⟩:=dy e11;cases em;have ea2:ρ2[n]?=some a:=by
   obtain ⟨t',ht⟩:=g2.r;rw [<-ht,List.getElem?_append_left (oG ea).1];exact ea
  obtain ⟨ga2,dx2,ws2,m1,m2,m3,m4⟩:=s2.addr e13 ea2;have I2:=I1.grow g2 s2;have hda:dx2≠a:=λ zz=>by rw [zz,m1] at m3;cases m3
  unfold gI at e9;split at e9
  . cases e9;cases fG k6;cases fG dv;rename_i i j;obtain ⟨s3,g3⟩:=s2.put (x:=.ins (cl c) dx2 (putF f (.int (i+j)) ws2)) (o':=.ins c (dS f (.int (i+j)) fs2)) g2.s e13 ea2 (λ b zz=>by cases zz) ⟨dx2,_,aJ,m2,by rw [aL hda];exact m3,m4.putF (.int _)⟩;exact ⟨i,j,rfl,rfl,dx2,ws2,m1,by rw [<-m4.length];exact hl,p σ ρ2 G2 _ (I2.grow g3 s3)⟩
  . cases e9
noncomputable def bE (h:W->DS->Option DS) (fb:DS->ai->SO):List W->DS->ai->SO
 | [],δ,S=>some (.nx δ,S)
 | d::ds,δ,S=>(h d δ).bind λ δ2=>match fb δ2 S with
  | some (.nx δ',S')=>bE h fb ds δ' S'
  | some (.ct δ',S')=>bE h fb ds δ' S'
  | some (.bk δ',S')=>some (.nx δ',S')
  | some (.rt d,S')=>some (.rt d,S')
  | some (.xc c,S')=>some (.xc c,S')
  | none=>none
noncomputable def jj (fi:DS->ai->SM (List W)) (h:W->DS->Option DS) (fb:DS->ai->SO):DS->ai->SO:=λ δ S=>jX (fi δ S) λ ds S1=>bE h fb ds δ S1
theorem yh {wi:TI} {g:TG} {tb:TS} {fi:DS->ai->SM (List W)} {h:W->DS->Option DS} {fb:DS->ai->SO} (hi:G9 K cl E wi fi) (hg:∀ ρ,DG K ρ g h) (hb:kX K cl E tb fb):kX K cl E (E3 wi g tb) (jj fi h fb):=λ ρ0 G0 H0 ρ G σ H δ S o S' D I e p=>by
 rcases kF e with ⟨c,em,rfl⟩ | ⟨ds,S1,em,e⟩
 . exact hi ρ G σ H δ S _ _ _ I.rs em (λ d hd=>by cases hd) (λ c' hc ρ1 G1 H1 g1 s1=>by cases hc;exact p ρ1 G1 H1 (I.gs.trans g1) s1)
 refine hi ρ G σ H δ S _ _ _ I.rs em (λ ds' hd=>?_) (λ c' hc=>by cases hc);cases hd;intro J ρ1 G1 H1 g1 s1 it;refine ⟨λ i m σ H=>m=ds.length-i/\i<=ds.length/\∃ ρ2 G2 δ2 S2,lw K cl ρ0 G0 H0 ρ2 G2 H δ2 σ S2/\ρ1 <+: ρ2/\bo G1 G2/\bE h fb (ds.drop i) δ2 S2=some (o,S'),⟨ds.length,by simp,Nat.zero_le _,ρ1,G1,δ,S1,I.grow g1 s1,List.prefix_refl _,.refl _,by simpa using e⟩,?_⟩;rintro i m σ2 H2 ⟨rfl,hil,ρ2,G2,δ2,S2,I2,pr2,s2,e2⟩;have ia:=it i G2 H2 s2 I2.gs.s;by_cases hlt:i<ds.length
 . refine .inr ?_;obtain ⟨go,step⟩:=ia.1 ds[i] (List.getElem?_eq_getElem hlt);rw [List.drop_eq_getElem_cons hlt] at e2;obtain ⟨δ3,e3,e4⟩:=oB e2
   have turn:∀ (P:jb) (o1:nP) (S3:ai),fb δ3 S2=some (o1,S3)->(∀ G3 H3,Gr G2 H2 G3 H3->zM K cl E ρ2 G3 H0 P S3 o1)->∀ x H',J.yld i H2 x H'->g x σ2 H' λ σ2 H2=>tb P σ2 H2:=λ P o1 S3 ef hp x H' y=>by
    obtain ⟨G3,g3,dx⟩:=step x H' y;have I3:=I2.grow (.of g3) (I2.rs.st.grow g3);refine hg ρ2 G3 H' δ2 σ2 x _ δ3 _ I3.rs.rl (dx.ext pr2) e3 λ σ3 R3 o3=>?_;exact hb ρ2 G3 H0 ρ2 G3 σ3 H' δ3 S2 o1 S3 P (I3.sub R3 o3).base ef (hp G3 H' g3)
   have back:∀ {G3 H3:Hp},Gr G2 H2 G3 H3->∀ {ρ4:List Addr} {G4 H4:Hp} {σ4:St} {δ4:DS} {S4:ai},lw K cl ρ2 G3 H0 ρ4 G4 H4 δ4 σ4 S4->lw K cl ρ0 G0 H0 ρ4 G4 H4 δ4 σ4 S4/\ρ1 <+: ρ4/\bo G1 G4:=λ {G3 H3} g3 {ρ4 G4 H4 σ4 δ4 S4} I4=>⟨I4.rebase (I2.gs.trans (.of g3)),pr2.trans I4.gs.r,s2.trans (g3.g.trans I4.gs.g)⟩
   cases ef:fb δ3 S2 with
   | none=>rw [ef] at e4;cases e4
   | some r=>
    obtain ⟨o1,S3⟩:=r;rw [ef] at e4;cases o1 with
    | nx δ'=>
     exact ⟨go,λ σ' H'=>∃ ρ' G',lw K cl ρ0 G0 H0 ρ' G' H' δ' σ' S3/\ρ1 <+: ρ'/\bo G1 G',λ σ' H' hy0=>by obtain ⟨ρ',G',I',q1,q2⟩:=hy0;exact ⟨ds.length-(i+1),by omega,rfl,hlt,ρ',G',δ',S3,I',q1,q2,e4⟩,turn _ _ _ ef λ G3 H3 g3 σ5 ρ5 G5 H5 I5=>⟨ρ5,G5,back g3 I5⟩⟩
    | ct δ'=>
     exact ⟨go,λ σ' H'=>∃ ρ' G',lw K cl ρ0 G0 H0 ρ' G' H' δ' σ' S3/\ρ1 <+: ρ'/\bo G1 G',λ σ' H' hy0=>by obtain ⟨ρ',G',I',q1,q2⟩:=hy0;exact ⟨ds.length-(i+1),by omega,rfl,hlt,ρ',G',δ',S3,I',q1,q2,e4⟩,turn _ _ _ ef λ G3 H3 g3 σ5 ρ5 G5 H5 I5=>⟨ρ5,G5,back g3 I5⟩⟩
    | bk δ'=>
     cases e4;exact ⟨go,λ _ _=>False,λ _ _ z=>z.elim,turn _ _ _ ef λ G3 H3 g3 σ5 ρ5 G5 H5 I5=>p σ5 ρ5 G5 H5 (back g3 I5).1⟩
    | rt d=>
     cases e4;exact ⟨go,λ _ _=>False,λ _ _ z=>z.elim,turn _ _ _ ef λ G3 H3 g3 v ρ5 G5 H5 g5 s5 dv=>p v ρ5 G5 H5 ((I2.gs.trans (.of g3)).rebase g5) s5 dv⟩
    | xc c=>
     cases e4;exact ⟨go,λ _ _=>False,λ _ _ z=>z.elim,turn _ _ _ ef λ G3 H3 g3 ρ5 G5 H5 g5 s5=>p ρ5 G5 H5 ((I2.gs.trans (.of g3)).rebase g5) s5⟩
 . have hi':i=ds.length:=by omega
   subst hi';rw [List.drop_length] at e2;cases e2;exact .inl ⟨ia.2 (Nat.le_refl _),p σ2 ρ2 G2 H2 I2⟩
noncomputable def br (c:DS->ai->SM Bool) (fb:DS->ai->SO):Nat->DS->ai->SO
 | 0,_,_=>none
 | n+1,δ,S=>jX (c δ S) λ b S1=>if b=true then match fb δ S1 with
  | some (.nx δ',S')=>br c fb n δ' S'
  | some (.ct δ',S')=>br c fb n δ' S'
  | some (.bk δ',S')=>some (.nx δ',S')
  | some (.rt d,S')=>some (.rt d,S')
  | some (.xc x,S')=>some (.xc x,S')
  | none=>none
  else some (.nx δ,S1)
theorem sE {n:Nat} {tc:TT} {tb:TS} {c:DS->ai->SM Bool} {fb:DS->ai->SO} (hc:ST K cl E tc c) (hb:kX K cl E tb fb):kX K cl E (xS tc tb) (br c fb n):=λ ρ0 G0 H0 ρ G σ H δ S o S' D I e p=>by
 refine ⟨λ m σ H=>∃ ρ G δ S,lw K cl ρ0 G0 H0 ρ G H δ σ S/\br c fb m δ S=some (o,S'),⟨n,ρ,G,δ,S,I,e⟩,?_⟩;rintro m σ2 H2 ⟨ρ2,G2,δ2,S2,I2,e2⟩;cases m with
 | zero=>cases e2
 | succ m=>
  refine vI hc I2 e2 p λ b S3 e3 ρ3 G3 H3 g3 s3=>?_;have I3:=I2.grow g3 s3;cases b with
  | false=>cases e3;exact p σ2 ρ3 G3 H3 I3
  | true=>
   rw [if_pos rfl] at e3 ⊢;cases ef:fb δ2 S3 with
   | none=>rw [ef] at e3;cases e3
   | some r=>
    obtain ⟨o1,S4⟩:=r;rw [ef] at e3;cases o1 with
    | nx δ'=>exact ⟨λ σ' H'=>∃ ρ' G',lw K cl ρ0 G0 H0 ρ' G' H' δ' σ' S4,λ σ' H' hy0=>by obtain ⟨ρ',G',I'⟩:=hy0;exact ⟨m,Nat.lt_succ_self _,ρ',G',δ',S4,I',e3⟩,hb ρ0 G0 H0 ρ3 G3 σ2 H3 δ2 S3 _ _ _ I3 ef λ σ5 ρ5 G5 H5 I5=>⟨ρ5,G5,I5⟩⟩
    | ct δ'=>exact ⟨λ σ' H'=>∃ ρ' G',lw K cl ρ0 G0 H0 ρ' G' H' δ' σ' S4,λ σ' H' hy0=>by obtain ⟨ρ',G',I'⟩:=hy0;exact ⟨m,Nat.lt_succ_self _,ρ',G',δ',S4,I',e3⟩,hb ρ0 G0 H0 ρ3 G3 σ2 H3 δ2 S3 _ _ _ I3 ef λ σ5 ρ5 G5 H5 I5=>⟨ρ5,G5,I5⟩⟩
    | bk δ'=>cases e3;exact ⟨λ _ _=>False,λ _ _ z=>z.elim,hb ρ0 G0 H0 ρ3 G3 σ2 H3 δ2 S3 _ _ _ I3 ef λ σ5 ρ5 G5 H5 I5=>p σ5 ρ5 G5 H5 I5⟩
    | rt d=>cases e3;exact ⟨λ _ _=>False,λ _ _ z=>z.elim,hb ρ0 G0 H0 ρ3 G3 σ2 H3 δ2 S3 _ _ _ I3 ef p⟩
    | xc x=>cases e3;exact ⟨λ _ _=>False,λ _ _ z=>z.elim,hb ρ0 G0 H0 ρ3 G3 σ2 H3 δ2 S3 _ _ _ I3 ef p⟩
noncomputable def pU (c:Str) (f:DS->ai->SM (List W)):DS->ai->SO:=λ δ S=>jX (f δ S) λ ds S1=>if ds.length<=sizeLine then some (.xc c,S1) else none
theorem xI {c:Str} {t:TA} {f:DS->ai->SM (List W)} (h:SA K cl E t f):kX K cl E (xD (cl c) E t) (pU c f):=λ ρ0 G0 H0 ρ G σ H δ S o S' D I e p=>by
 rcases kF e with ⟨c',em,rfl⟩ | ⟨d,S1,em,e⟩
 . exact h ρ G σ H δ S _ _ _ I.rs em (λ d hd=>by cases hd) (λ c' hc ρ1 G1 H1 g1 s1=>by cases hc;exact p ρ1 G1 H1 (I.gs.trans g1) s1)
 . refine h ρ G σ H δ S _ _ _ I.rs em (λ d' hd=>?_) (λ c' hc=>by cases hc);cases hd;intro vs ρ1 G1 H1 g1 s1 da;split at e
   . rename_i hz;cases e;exact ⟨by rw [da.length];exact hz,p ρ1 G1 H1 (I.gs.trans g1) s1⟩
   . cases e
noncomputable def cy:SO->SM W
 | some (.rt d,S)=>some (.ok d,S)
 | some (.nx _,S)=>some (.ok .none,S)
 | some (.xc c,S)=>some (.xc c,S)
 | _=>none
noncomputable def bc (a n:Nat) (fb:DS->ai->SO):List W->ai->SM W:=λ ds S=>if ds.length=a then cy (fb (ff n ds) S) else none
theorem jI {a n:Nat} {fb:DS->ai->SO} {ds:List W} {S:ai} {r:Rs W×ai} (h:bc a n fb ds S=some r):ds.length=a:=by
 unfold bc at h;split at h
 . assumption
 . cases h
theorem Ap {f:List W->ai->SM W} {a:Nat} {vs:List V} {H:Hp} {Q:VK} {E:XK} (hf:∀ ds S r,f ds S=some r->ds.length=a) (h:tj K cl f vs H Q E):vs.length=a:=by
 obtain ⟨ρ,G,S,ds,r,S',s,sr,da,e,q⟩:=h;rw [da.length];exact hf ds S _ e
theorem HJ {t:TS} {fb:DS->ai->SO} {N:List Str} {a n:Nat} {vs:List V} {H:Hp} {Q:VK} {E:XK} (hn:N.length=n) (h:kX K cl E t fb) (hsp:tj K cl (bc a n fb) vs H Q E):t { nx:=λ _ H'=>Q .non H',rt:=Q } (start N vs) H:=by
 subst hn;obtain ⟨ρ,G,S,ds,r,S',s,sr,da,e,q,qx⟩:=hsp;have R:=rq (N:=N) s da;have I:lw K cl ρ G H ρ G H (ff N.length ds) (start N vs) S:=⟨⟨R,sr,λ i ds' p h1=>absurd h1 iA⟩,.refl s,λ i p ds' h1=>absurd h1 iA⟩
 unfold bc at e;rw [if_pos (jI (show bc a N.length fb ds S=some (r,S') from e))] at e;cases ef:fb (ff N.length ds) S with
 | none=>rw [ef] at e;cases e
 | some o=>
  obtain ⟨o,S1⟩:=o;rw [ef] at e;refine h ρ G H ρ G _ H _ S o S1 _ I ef ?_;cases o with
  | nx δ=>cases e;exact λ σ' ρ' G' H' I'=>q _ rfl _ ρ' G' H' I'.gs I'.rs.st .non
  | rt d'=>cases e;exact λ v ρ' G' H' g s dv=>q _ rfl v ρ' G' H' g s dv
  | xc c=>cases e;exact λ ρ' G' H' g s=>qx _ rfl ρ' G' H' g s
  | bk _=>cases e
  | ct _=>cases e
theorem uK {f:List W->ai->SM W} {a:Nat} {vs:List V} {H:Hp} {Q:VK} {E:XK} (hf:∀ ds S r,f ds S=some r->ds.length=a) (h:jd K cl f vs H Q E):vs.length=a:=by
 obtain ⟨ρ,G,S,ds,r,S',s,sr,da,e,q⟩:=h;rw [da.length];exact hf ds S _ e
theorem Cz {t:TS} {fb:DS->ai->SO} {N:List Str} {a n:Nat} {vs:List V} {H:Hp} {Q:VK} {E:XK} (hn:N.length=n) (h:kX K cl E0 t fb) (hsp:jd K cl (bc a n fb) vs H Q E):t { nx:=λ _ H'=>Q .non H',rt:=Q } (start N vs) H:=by
 obtain ⟨ρ,G,S,ds,d,S',s,sr,da,e,q⟩:=hsp;exact HJ (E:=E0) hn h ⟨ρ,G,S,ds,.ok d,S',s,sr,da,e,(λ d' hd=>by cases hd;exact q),(λ c hc=>by cases hc)⟩
theorem yJ {g:List W->ai->SM W} {vs:List V} {H:Hp} {Q:VK} {E:XK} (hg:∀ ds S,g ds S=none) (h:jd K cl g vs H Q E):False:=by
 obtain ⟨ρ,G,S,ds,r,S',s,sr,da,e,q⟩:=h;rw [hg] at e;cases e
theorem et.no0 {P:Program} {w:World} {mg:Str->Option Value} {base:Heap} {CX:qU} {k:Nat} {f:Addr} {fd:FuncData} {ps:List Str} {g:List W->ai->SM W} (hg:∀ ds S,g ds S=none):et P w K mg base CX k f fd ps (jd K cl g):=
 ⟨λ _ _ _ _ h=>(yJ hg h).elim,λ _ _ _ _ _ _ _ _ _ _ _ _ _ h=>(yJ hg h).elim⟩
theorem xb {g:List W->ai->SM W} {vs:List V} {H:Hp} {Q:VK} {E:XK} (hg:∀ ds S,g ds S=none) (h:tj K cl g vs H Q E):False:=by
 obtain ⟨ρ,G,S,ds,r,S',s,sr,da,e,q⟩:=h;rw [hg] at e;cases e
theorem et.noX {P:Program} {w:World} {mg:Str->Option Value} {base:Heap} {CX:qU} {k:Nat} {f:Addr} {fd:FuncData} {ps:List Str} {g:List W->ai->SM W} (hg:∀ ds S,g ds S=none):et P w K mg base CX k f fd ps (tj K cl g):=
 ⟨λ _ _ _ _ h=>(xb hg h).elim,λ _ _ _ _ _ _ _ _ _ _ _ _ _ h=>(xb hg h).elim⟩
end
section
variable {X:Cx} {pins:List (Addr×Obj)} {σ:St} {H:Hp} {s:Shared} {a:Addr} {kvs:List (bh×V)} {k:bh} {u:Value} {A:Around} {E:Value->Shared->Prop}
end
section
variable {X:Cx} {o e f:Expr} {td ty tx:TE} {apos cpos:Pos}
end
section
variable {prog:Program} {w:World} {A:Around} {E:Value->Shared->Prop} {s:Shared}
theorem Ck {it t:Addr} {items:Array Value} (hne:t≠it):∀ (n i:Nat) (s:Shared) (Q:List Value->Shared->Prop),s.heap.IsListIter it t i->s.heap.IsList t items->i+n<=items.size->
 (∀ h',h'.IsListIter it t (i+n)->Heap.SameBut it s.heap h'->Q ((items.toList.drop i).take n) { s with heap:=h' })->wpAny (model prog w) A (draw (.ref it) n) Q E s
 | 0,i,s,Q,hit,_,_,hQ=>by
  show wpAny _ _ (pure []) Q E s;exact wpAny_pure (by simpa using hQ s.heap hit (Heap.SameBut.refl ..))
 | n+1,i,s,Q,hit,ht,hle,hQ=>by
  have hlt:i<items.size:=by omega
  show wpAny _ _ (pyNext (.ref it) >>= _) Q E s;refine wpAny_bind (wpAny_pyNext_list_item hit ht (x:=items[i]) (by simp [hlt]) λ h₁ hit₁ hs₁=>?_);refine wpAny_bind (wpAny_holding (Ck hne n (i+1) _ _ hit₁ (ht.extBut hs₁.extBut hne) (by omega) λ h₂ hit₂ hs₂=>wpAny_pure ?_));have hd:items.toList.drop i=items[i]::items.toList.drop (i+1):=by simp [List.drop_eq_getElem_cons,hlt]
  have:=hQ h₂ (by rw [show i+(n+1)=i+1+n by omega];exact hit₂) (hs₁.trans hs₂);rw [hd,List.take_succ_cons] at this;exact this
theorem qh {t:Addr} {items:Array Value} {Q:List Value->Shared->Prop} (hh:A.handled=none) (ht:s.heap.IsList t items)
 (hQ:∀ h',Heap.ExtBut s.heap.objs.size s.heap h'->Q items.toList { s with heap:=h' }):wpAny (model prog w) A (unpackItems (.ref t) items.size none) Q E s:=by
 have hlt:t≠s.heap.objs.size:=by obtain ⟨o,ho,_⟩:=ht;exact Nat.ne_of_lt (Heap.lt_size ho)
 have hT:s.TypeIs (.ref t) "list" := by obtain ⟨o,ho,hc,_⟩:=ht;exact ⟨o,ho,hc⟩
 unfold unpackItems;refine wpAny_bind ?_
 . unfold notIterableAtAll;refine wpAny_bind (wpAny_specialOf hT PySem.F.slot_list_iter.lookup ?_);refine wpAny_pure ?_;simp only [Bool.false_eq_true,if_false];refine wpAny_bind (wpAny_holding (wpAny_pyIter_list ht ?_));refine wpAny_bind (wpAny_holding (Ck hlt items.size 0 _ _ ⟨_,Heap.get?_push_size _ rfl,rfl,rfl⟩ (ht.push _) (by omega) λ h₁ hit₁ hs₁=>?_));have hall:List.take items.size (List.drop 0 items.toList)=items.toList:=by
    rw [List.drop_zero];exact List.take_of_length_le (by simp)
   rw [hall];rw [if_neg (by simp)];have ht₁:h₁.IsList t items:=(ht.push _).extBut hs₁.extBut hlt;refine wpAny_bind (wpAny_holding (wpAny_pyNext_list_end hh hit₁ ht₁ (by simp) λ h₂ he₂=>?_));simp only [Option.isSome_none,Bool.false_eq_true,if_false];refine wpAny_pure (hQ h₂ λ b o hb e=>he₂ b o hb (hs₁.extBut b o hb (Heap.get?_push_of_some _ e)))
end
section
variable {X:Cx} {pos:Pos}
noncomputable def Ie (K:Frag) (n:Nat) (t:tm):TG:=λ v σ H Q=>∃ a xs,v=.ref a/\dM K H a xs/\xs.length=n/\t xs σ H Q
theorem DJ {es:List Expr} {k:Nat} {t:tm} {n:Nat} (hc:X.calm=true) (h:BM X es t)
 (hn:(assignEach es X.env).length=n) (hst:(assignEach es X.env).findIdx? (·.1)=none):PG X (.Tuple es k pos) (Ie X.K n t):=by
 intro pins s σ H v u Q I r hw;obtain ⟨a,xs,e1,hq,hl,hw⟩:=hw;subst e1;cases r;obtain ⟨its,rv,ht,hz⟩:=I.list hq;rw [PyProof.Rows.assign_Tuple];refine wpAny_bind (wpAny_standAt ?_);unfold unpack;have hsz:(assignEach es X.env).length=its.toArray.size:=by rw [hn,List.size_toArray,<-rv.length,hl]
 rw [hsz,hst];refine wpAny_bind (wpAny_holding (qh (I.ok.hd hc) ht.isList λ h' hx=>?_));have I1:aK X pins σ H { s with heap:=h' }:=I.kept (t':=s.toks) λ b o e=>hx b o (Nat.ne_of_lt (Heap.lt_size e)) e;exact h pins _ σ H xs _ Q I1 (by simpa using rv) hw
noncomputable def HC (K:Frag) (n:Nat) (t:tm):TG:=λ v σ H Q=>B2 K n t v σ H Q∨Ie K n t v σ H Q
theorem IG {K:Frag} {es:List Expr} {k:Nat} {t:tm} {n:Nat} (hK:X.K=K) (hc:X.calm=true) (h:BM X es t)
 (hn:(assignEach es X.env).length=n) (hst:(assignEach es X.env).findIdx? (·.1)=none):PG X (.Tuple es k pos) (HC K n t):=by
 subst hK;intro pins s σ H v u Q I r hw;rcases hw with hw | hw
 . exact yR hc h hn hst pins s σ H v u Q I r hw
 . exact DJ hc h hn hst pins s σ H v u Q I r hw
end
section
variable {K:Frag} {ρ:List Addr}
noncomputable def JA:W->Option V
 | .none=>some .non
 | .bool b=>some (.bl b)
 | .int i=>some (.int i)
 | .str x=>some (.str x)
 | _=>none
noncomputable def AC:List W->Option (List V)
 | []=>some []
 | d::ds=>(JA d).bind λ v=>(AC ds).map (v::·)
theorem um {H:Hp} {v u:V} {d:W} (h:Dw K ρ H v d) (e:JA d=some u):v=u/\gB u=true:=by
 cases h <;> first | (cases e;exact ⟨rfl,rfl⟩) | cases e
theorem qC {H:Hp} {vs us:List V} {ds:List W} (h:aF K ρ H vs ds):AC ds=some us->vs=us/\us.all gB=true:=
 h.ind (M:=λ vs ds=>∀ us,AC ds=some us->vs=us/\us.all gB=true) (λ us e=>by cases e;exact ⟨rfl,rfl⟩) (λ _ _ _ _ a ih us e=>by
  obtain ⟨u,e1,e⟩:=oB e
  obtain ⟨us,e2,rfl⟩:=oM e
  obtain ⟨h1,h2⟩:=um a e1;obtain ⟨h3,h4⟩:=ih _ e2;exact ⟨by rw [h1,h3],by rw [List.all_cons,h2,h4];rfl⟩) us
noncomputable def sS (d e:W):Option Bool:=(rP e).bind λ ds=>(JA d).bind λ v=>(AC ds).map λ vs=>FT v vs
noncomputable def xM (d e:W):Option Bool:=(sS d e).map (!·)
theorem yu {H:Hp} {x y:V} {d e:W} {b:Bool} (hx:Dw K ρ H x d) (hy:Dw K ρ H y e) (h:sS d e=some b):∃ p xs,y=.ref p/\(dM K H p xs∨ii K H p xs)/\gB x=true/\xs.all gB=true/\FT x xs=b:=by
 obtain ⟨ds,e1,h⟩:=oB h
 obtain ⟨v,e2,h⟩:=oB h
 obtain ⟨vs,e3,rfl⟩:=oM h
 obtain ⟨rfl,f1⟩:=um hx e2;cases hy with
 | lst sq da=>
  cases e1;obtain ⟨rfl,f2⟩:=qC da e3;exact ⟨_,_,rfl,.inl sq,f1,f2,rfl⟩
 | tup sq da=>
  cases e1;obtain ⟨rfl,f2⟩:=qC da e3;exact ⟨_,_,rfl,.inr (ii.of sq),f1,f2,rfl⟩
 | _=>cases e1
theorem Ho:DB K ρ (FC K false) sS:=λ H x y d e b Q hx hy hg q=>by
 obtain ⟨p,xs,h1,h2,h3,h4,rfl⟩:=yu hx hy hg;exact ⟨p,xs,h1,h2,h3,h4,q⟩
noncomputable def Cg (n:Nat) (k:List W->DS->Option DS):W->DS->Option DS:=λ d δ=>(rP d).bind λ ds=>if ds.length=n then k ds δ else none
theorem F8 {n:Nat} {u:tm} {k:List W->DS->Option DS} (h:FO K ρ u k):DG K ρ (HC K n u) (Cg n k):=λ G H δ σ v d δ' Q R dv e q=>by
 obtain ⟨ds,e1,e2⟩:=oB e
 split at e2
 case isFalse=>cases e2
 rename_i hn;clear e;cases dv with
 | tup sq da=>
  cases e1;exact .inl ⟨_,_,rfl,R.sub.tup (ii.of sq),by rw [da.length];exact hn,h G H δ σ _ _ δ' Q R da e2 q⟩
 | lst sq da=>
  cases e1;exact .inr ⟨_,_,rfl,R.sub.seq sq,by rw [da.length];exact hn,h G H δ σ _ _ δ' Q R da e2 q⟩
 | _=>cases e1
end
section
variable {K:Frag} {cl:Str->Addr} {E:XK}
noncomputable def iV (x:W) (S:ai):Option (Nat×List W):=match kj x S with
 | some (n,.lst ds)=>some (n,ds)
 | _=>none
theorem eR {x:W} {S:ai} {n:Nat} {ds:List W} (h:iV x S=some (n,ds)):x=.ref n/\S[n]?=some (.lst ds):=by
 unfold iV at h;cases e:kj x S with
 | none=>rw [e] at h;cases h
 | some p=>
  obtain ⟨m,o⟩:=p;rw [e] at h;cases o with
  | lst ds=>cases h;exact fE e
  | _=>cases h
noncomputable def LJ (x:W) (S:ai):Option (List W):=match iV x S with
 | some (_,ds)=>some ds
 | none=>rP x
noncomputable def vT (x y:W) (S:ai):Option W:=match iV x S with
 | some (_,ds)=>(IS y).bind λ i=>jf ds i
 | none=>aR x y
noncomputable def sIx (fa fb:DS->ai->SM W):DS->ai->SM W:=λ δ S=>au (fa δ S) λ x S1=>au (fb δ S1) λ y S2=>kz (vT x y S2) S2
theorem HP {ta tb:TE} {fa fb:DS->ai->SM W} (ha:SE K cl E ta fa) (hb:SE K cl E tb fb):SE K cl E (rA (Ij K) ta tb) (sIx fa fb):=λ ρ G σ H δ S r' S' Q R e q qx=>
 iB ha hb R e (λ x y S2 e2 v u ρ2 G2 H2 g2 s2 dv du=>by
  obtain ⟨c,e3,rfl,rfl⟩:=bV e2;unfold vT at e3;split at e3
  . rename_i n ds e4;obtain ⟨i,e5,e6⟩:=oB e3
    cases CO e5;cases fG du;obtain ⟨rfl,e7⟩:=eR e4;obtain ⟨a,rfl,ea⟩:=cE dv;obtain ⟨ga,vs,k1,k2⟩:=s2.addr e7 ea;obtain ⟨w,h1,h2⟩:=k2.at e6;exact .inl ⟨a,vs,_,w,rfl,rfl,dM.of k1,h1,q c rfl w ρ2 G2 H2 g2 s2 h2⟩
  . exact Cp G2 H2 v u x y c Q g2.s (.inl dv) du e3 λ w G3 H3 g3 dw=>q c rfl w ρ2 G3 H3 (g2.trans (.of g3)) (s2.grow g3) dw) qx
noncomputable def sK (x:W) (S:ai):Option W:=match iV x S with
 | some (_,ds)=>some (.int ds.length)
 | none=>bT x
noncomputable def ji (fa:DS->ai->SM W):DS->ai->SM W:=λ δ S=>au (fa δ S) λ x S1=>kz (sK x S1) S1
theorem CV {ta:TE} {fa:DS->ai->SM W} (ha:SE K cl E ta fa):SE K cl E (zj (vp K) (iY ta lI)) (ji fa):=λ ρ G σ H δ S r' S' Q R e q qx=>
 di ha R e (λ x S2 e2 v ρ2 G2 H2 g2 s2 dv=>by
  obtain ⟨c,e3,rfl,rfl⟩:=bV e2;unfold sK at e3;split at e3
  . rename_i n ds e4;cases e3;obtain ⟨rfl,e7⟩:=eR e4;obtain ⟨a,rfl,ea⟩:=cE dv;obtain ⟨ga,vs,k1,k2⟩:=s2.addr e7 ea;exact .inl ⟨a,vs,rfl,.inl (dM.of k1),by rw [k2.length];exact q _ rfl _ ρ2 G2 H2 g2 s2 (.int _)⟩
  . exact y2 G2 H2 v x c Q g2.s (.inl dv) e3 λ w G3 H3 g3 dw=>q c rfl w ρ2 G3 H3 (g2.trans (.of g3)) (s2.grow g3) dw) qx
noncomputable def bN (fo fv:DS->ai->SM W):DS->ai->SO:=λ δ S=>jX (fo δ S) λ x S1=>if (iV x S1).isSome=true then jX (fv δ S1) λ d S2=>(iV x S2).bind λ p=>if p.2.length<sizeLine then some (.nx δ,S2.set p.1 (.lst (p.2++[d]))) else none else none
theorem sY {ρ ρ':List Addr} {n:Nat} {a:Addr} (h:ρ <+: ρ') (e:ρ[n]?=some a):ρ'[n]?=some a:=by
 obtain ⟨t,rfl⟩:=h;rw [List.getElem?_append_left (oG e).1];exact e
theorem pM {to tv:TE} {fo fv:DS->ai->SM W} (ho:SE K cl E to fo) (hv:SE K cl E tv fv):kX K cl E (vi (GN K "list" mS to (iY tv lI))) (bN fo fv):=λ ρ0 G0 H0 ρ G σ H δ S o S' D I e p=>
 gc ho I e p λ x S1 e1 u ρ1 G1 H1 g1 s1 du=>by
  split at e1
  case isFalse=>cases e1
  rename_i hx;obtain ⟨⟨n,ds0⟩,hx0⟩:=Option.isSome_iff_exists.mp hx;obtain ⟨rfl,h0⟩:=eR hx0;obtain ⟨a,rfl,ea⟩:=cE du;obtain ⟨_,vs0,k0,_⟩:=s1.addr h0 ea;have I1:=I.grow g1 s1;refine ⟨.inl ⟨rfl,vs0,dM.of k0⟩,gc hv I1 e1 p λ d S2 e2 v ρ2 G2 H2 g2 s2 dv=>?_⟩;obtain ⟨⟨m,ds⟩,e3,e4⟩:=oB e2
  split at e4
  case isFalse=>cases e4
  rename_i hl;cases e4;obtain ⟨em,e5⟩:=eR e3;cases em;have ea2:=sY g2.r ea;obtain ⟨ga,vs,k1,k2⟩:=s2.addr e5 ea2;obtain ⟨s3,g3⟩:=s2.put (x:=.lst (vs++[v])) (o':=.lst (ds++[d])) g2.s e5 ea2 (λ b z=>by cases z) ⟨_,aJ,k2.app (.cons dv .nil)⟩;exact ⟨a,vs,v,rfl,rfl,k1,by rw [k2.length];exact hl,p σ ρ2 G2 _ ((I1.grow g2 s2).grow g3 s3)⟩
noncomputable def oh:W->Option bh
 | .int i=>some (Sum.inl i)
 | .str x=>some (Sum.inr x)
 | _=>none
theorem nv {ρ:List Addr} {G:Hp} {v:V} {d:W} {k:bh} (h:Dw K ρ G v d) (e:oh d=some k):v=kV k:=by
 cases h <;> first | (cases e;rfl) | cases e
noncomputable def rp (x:W) (S:ai):Option (Nat×List (bh×W)):=match kj x S with
 | some (n,.dK kvs)=>some (n,kvs)
 | _=>none
theorem p4 {x:W} {S:ai} {n:Nat} {kvs:List (bh×W)} (h:rp x S=some (n,kvs)):x=.ref n/\S[n]?=some (.dK kvs):=by
 unfold rp at h;split at h
 . rename_i n' ds' e;cases h;exact fE e
 . cases h
noncomputable def bC {κ:Type} [DecidableEq κ] (kvs:List (κ×W)) (k:κ):Option W:=(kvs.find? λ kv=>decide (kv.1=k)).map (·.2)
noncomputable def cA {κ:Type} [DecidableEq κ] (kvs:List (κ×W)) (k:κ) (v:W):List (κ×W):=if (kvs.any λ kv=>decide (kv.1=k))=true then kvs.map λ kv=>if kv.1=k then (kv.1,v) else kv else kvs++[(k,v)]
theorem hZ.val {κ:Type} [DecidableEq κ] {ρ:List Addr} {G:Hp} {k:κ}:∀ {l:List (κ×W)} {m:List (κ×V)},hZ K ρ G l m->(∀ d,bC l k=some d->∃ v,jR m k=some v/\Dw K ρ G v d)/\(bC l k=none->jR m k=none):=λ q=>by
 induction q with
 | nil=>exact ⟨(λ d e=>by cases e),λ _=>rfl⟩
 | @cons j x0 v0 l m a b ih=>
  obtain ⟨h1,h2⟩:=ih;by_cases hj:j=k
  . subst hj;refine ⟨λ d e=>?_,λ e=>?_⟩
    . have e':bC ((j,x0)::l) j=some x0:=by simp [bC,List.find?_cons]
      rw [e'] at e;cases e;exact ⟨_,kG rfl,a⟩
    . simp [bC,List.find?_cons] at e
  . refine ⟨λ d e=>?_,λ e=>?_⟩
    . rw [jp hj];exact h1 d (by simpa [bC,List.find?_cons,hj] using e)
    . rw [jp hj];exact h2 (by simpa [bC,List.find?_cons,hj] using e)
theorem hZ.any {κ:Type} [DecidableEq κ] {ρ:List Addr} {G:Hp} {k:κ}:∀ {l:List (κ×W)} {m:List (κ×V)},hZ K ρ G l m->(l.any λ kv=>decide (kv.1=k))=m.any λ kv=>decide (kv.1=k):=λ q=>by
 induction q with
 | nil=>rfl
 | cons a b ih=>rw [List.any_cons,List.any_cons,ih]
theorem hZ.repl {κ:Type} [DecidableEq κ] {ρ:List Addr} {G:Hp} {k:κ} {v:V} {d:W} (h:Dw K ρ G v d):∀ {l:List (κ×W)} {m:List (κ×V)},hZ K ρ G l m->hZ K ρ G (l.map λ kv=>if kv.1=k then (kv.1,d) else kv) (m.map λ kv=>if kv.1=k then (kv.1,v) else kv):=λ q=>by
 induction q with
 | nil=>exact .nil
 | @cons j d0 v0 l m a b ih=>
  rw [List.map_cons,List.map_cons];by_cases hj:j=k
  . simp only [if_pos hj];exact .cons h ih
  . simp only [if_neg hj];exact .cons a ih
theorem hZ.snoc {κ:Type} {ρ:List Addr} {G:Hp} {k:κ} {v:V} {d:W} (h:Dw K ρ G v d):∀ {l:List (κ×W)} {m:List (κ×V)},hZ K ρ G l m->hZ K ρ G (l++[(k,d)]) (m++[(k,v)]):=λ q=>by
 induction q with
 | nil=>exact .cons h .nil
 | cons a _ ih=>exact .cons a ih
theorem hZ.put {κ:Type} [DecidableEq κ] {ρ:List Addr} {G:Hp} {k:κ} {v:V} {d:W} (h:Dw K ρ G v d) {l:List (κ×W)} {m:List (κ×V)} (r:hZ K ρ G l m):hZ K ρ G (cA l k d) (i7 m k v):=by
 unfold cA i7;rw [r.any];split
 . exact r.repl h
 . exact r.snoc h
noncomputable def dG (S:ai) (n:Nat):Option (List W):=match S[n]? with
 | some (.lst ds)=>some ds
 | _=>none
noncomputable def kI (f:W->Option PyData):List W->Option (List PyData)
 | []=>some []
 | d::ds=>(f d).bind λ x=>(kI f ds).map (x::·)
noncomputable def mV (S:ai):Nat->W->Option PyData
 | 0,_=>none
 | n+1,d=>match d with
  | .list ds=>(kI (mV S n) ds).map .list
  | .tuple ds=>(kI (mV S n) ds).map .tuple
  | .ref m=>(dG S m).bind λ ds=>(kI (mV S n) ds).map .list
  | d=>d.py
theorem qY {H:Hp} {ρ:List Addr} {G:Hp} {f:W->Option PyData} (hf:∀ v d x,Dw K ρ G v d->f d=some x->Dp K H v x) {vs:List V} {ds:List W} {xs:List PyData} (h:aF K ρ G vs ds):kI f ds=some xs->mw K H vs xs:=
 h.ind (M:=λ vs ds=>∀ xs,kI f ds=some xs->mw K H vs xs) (λ xs e=>by cases e;exact .nil) (λ _ _ _ _ a ih xs e=>by
  obtain ⟨x,e1,e⟩:=oB e
  obtain ⟨ys,e2,rfl⟩:=oM e
  exact .cons (hf _ _ _ a e1) (ih _ e2)) xs
theorem kg {ρ:List Addr} {G H:Hp} {S:ai} (sg:bo G H) (s:SR K ρ cl G H S):∀ (n:Nat) (v:V) (d:W) (x:PyData),Dw K ρ G v d->mV S n d=some x->Dp K H v x
 | 0,_,_,_,_,e=>by cases e
 | n+1,v,d,x,h,e=>by
  cases h with
  | lst sq da=>
   obtain ⟨xs,e1,rfl⟩:=oM e
   exact .lst (sg.seq sq) (qY (λ v d x=>kg sg s n v d x) da e1)
  | tup sq da=>
   obtain ⟨xs,e1,rfl⟩:=oM e
   exact .tup (sg.tup (ii.of sq)) (qY (λ v d x=>kg sg s n v d x) da e1)
  | ref ea=>
   obtain ⟨ds,e1,e2⟩:=oB e
   obtain ⟨xs,e3,rfl⟩:=oM e2
   unfold dG at e1;split at e1
   . rename_i ds' h1;cases e1;obtain ⟨ga,vs,k1,k2⟩:=s.addr h1 ea;exact .lst (dM.of k1) (qY (λ v d x=>kg sg s n v d x) k2 e3)
   . cases e1
  | non=>exact Dw.dp (ρ:=ρ) .non e
  | bl b=>exact Dw.dp (ρ:=ρ) (.bl b) e
  | int i=>exact Dw.dp (ρ:=ρ) (.int i) e
  | str y=>exact Dw.dp (ρ:=ρ) (.str y) e
noncomputable def kQ (neg:Bool) (d e:W) (S:ai):Option Bool:=match Jd d e with
 | some b=>some (if neg then !b else b)
 | none=>(mV S 24 d).bind λ a=>(mV S 24 e).bind λ b=>if (a.canLay0&&b.canLay0&&decide (a.depth<=64))=true then some (if neg then !(PyData.eqv a b) else PyData.eqv a b) else none
noncomputable def DM (K:Frag) (neg:Bool):R2:=if neg then Dd K else CC K
noncomputable def jL (neg:Bool) (fa fb:DS->ai->SM W):DS->ai->SM Bool:=λ δ S=>au (fa δ S) λ x S1=>au (fb δ S1) λ y S2=>kz (kQ neg x y S2) S2
theorem rM {ρ:List Addr} {G H:Hp} {S:ai} {neg:Bool} {v u:V} {x y:W} {b:Bool} {Q:VK} (sg:bo G H) (s:SR K ρ cl G H S) (dv:Dw K ρ G v x) (du:Dw K ρ G u y) (h:kQ neg x y S=some b) (q:Q (.bl b) H):DM K neg v u H Q:=by
 unfold kQ at h;split at h
 . rename_i b' hb;cases h;obtain ⟨h1,h2⟩:=ud (dv.same sg) (du.same sg) hb;cases neg with
   | false=>exact .inl ⟨h1,by rw [h2];exact q⟩
   | true=>exact .inl ⟨h1,by rw [h2];exact q⟩
 . obtain ⟨a,ea,h⟩:=oB h
   obtain ⟨c,ec,h⟩:=oB h
   split at h
   . rename_i hc;cases h;simp only [Bool.and_eq_true,decide_eq_true_eq] at hc;cases neg with
     | false=>exact .inr ⟨a,c,kg sg s 24 _ _ _ dv ea,kg sg s 24 _ _ _ du ec,hc.1.1,hc.1.2,hc.2,q⟩
     | true=>exact .inr ⟨a,c,kg sg s 24 _ _ _ dv ea,kg sg s 24 _ _ _ du ec,hc.1.1,hc.1.2,hc.2,q⟩
   . cases h
theorem Gn {neg:Bool} {ta tb:TE} {fa fb:DS->ai->SM W} (ha:SE K cl E ta fa) (hb:SE K cl E tb fb):ST K cl E (lW (rA (DM K neg) ta tb)) (jL neg fa fb):=λ ρ G σ H δ S r' S' Q R e q qx=>
 iB ha hb R e (λ x y S2 e2 v u ρ2 G2 H2 g2 s2 dv du=>by
  obtain ⟨c,e3,rfl,rfl⟩:=bV e2;exact rM g2.s s2 dv du e3 ⟨c,rfl,q c rfl ρ2 G2 H2 g2 s2⟩) qx
theorem HR {neg:Bool} {ta tb:TE} {fa fb:DS->ai->SM W} (ha:SE K cl E ta fa) (hb:SE K cl E tb fb):SE K cl E (rA (DM K neg) ta tb) (sB (jL neg fa fb)):=λ ρ G σ H δ S r' S' Q R e q qx=>by
 rcases aD e with ⟨c,em,rfl⟩ | ⟨b,S1,em,e⟩
 . exact iB (r:=Rs.xc c) ha hb R em (λ x y S2 e2=>by obtain ⟨_,_,z,_⟩:=bV e2;cases z) (λ c' hc=>by cases hc;exact qx c rfl)
 . cases e;exact iB ha hb R em (λ x y S2 e2 v u ρ2 G2 H2 g2 s2 dv du=>by
    obtain ⟨c,e3,z,rfl⟩:=bV e2;cases z;exact rM g2.s s2 dv du e3 (q _ rfl _ ρ2 G2 H2 g2 s2 (.bl _))) (λ c hc=>by cases hc)
end
section
variable {K:Frag} {cl:Str->Addr} {E:XK}
noncomputable def nS (f:DS->ai->SM W):DS->ai->SM Bool:=λ δ S=>au (f δ S) λ x S1=>kz (BG x) S1
theorem EK {t:TE} {f:DS->ai->SM W} (h:SE K cl E t f):ST K cl E (tB t) (nS f):=λ ρ G σ H δ S r S' Q R e q qx=>
 di h R e (λ x S1 e1 v ρ1 G1 H1 g1 s1 dv=>by
  obtain ⟨b,e2,rfl,rfl⟩:=bV e1;cases tt e2;cases BH dv;exact ⟨b,rfl,q b rfl ρ1 G1 H1 g1 s1⟩) qx
noncomputable def nY (f g:DS->ai->SM W):DS->ai->SM W:=λ δ S=>au (f δ S) λ x S1=>(BG x).bind λ b=>if b=true then g δ S1 else some (.ok (.bool false),S1)
theorem DW {t u:TE} {f g:DS->ai->SM W} (h1:SE K cl E t f) (h2:SE K cl E u g):SE K cl E (C3 t u) (nY f g):=λ ρ G σ H δ S r S' Q R e q qx=>
 di h1 R e (λ x S1 e1 v ρ1 G1 H1 g1 s1 dv=>by
  obtain ⟨b,e2,e3⟩:=oB e1
  cases tt e2;cases BH dv;refine ⟨b,rfl,?_⟩;cases b with
  | true=>exact h2 ρ1 G1 σ H1 δ S1 r S' Q (R.grow g1 s1) e3 (λ d hd v ρ2 G2 H2 g2 s2 dv=>q d hd v ρ2 G2 H2 (g1.trans g2) s2 dv) λ c hc ρ2 G2 H2 g2 s2=>qx c hc ρ2 G2 H2 (g1.trans g2) s2
  | false=>cases e3;exact q _ rfl _ ρ1 G1 H1 g1 s1 (.bl _)) qx
theorem AY.ext {ρ ρ1:List Addr} {J:It} {ds:List W} {i:Nat} {G H:Hp} (h:ρ <+: ρ1) (a:AY K ρ J ds i G H):AY K ρ1 J ds i G H:=⟨λ d hd=>⟨(a.1 d hd).1,λ x H' y=>by
 obtain ⟨G',g,dx⟩:=(a.1 d hd).2 x H' y;exact ⟨G',g,dx.ext h⟩⟩,a.2⟩
theorem tV {S:ai} {n:Nat} {ds:List W} (h:dG S n=some ds):S[n]?=some (.lst ds):=by
 unfold dG at h;split at h
 . rename_i e;cases h;exact e
 . cases h
inductive Kd where
 | l
 | e
 | d (m:Nat)
noncomputable def Kv:bh->W
 | .inl i=>.int i
 | .inr x=>.str x
noncomputable def oe (S:ai) (n:Nat×Kd):Option (List W):=match n.2 with
 | .l=>dG S n.1
 | .e=>(dG S n.1).map Cd
 | .d m=>(rp (.ref n.1) S).bind λ p=>if p.2.length=m then some (p.2.map λ e=>Kv e.1) else none
noncomputable def JV (K:Frag) (cl:Str->Addr) (ρ:List Addr) (J:It) (n:Nat×Kd):Prop:=
 ∀ (i:Nat) (ρ1:List Addr) (G1 H1:Hp) (S1:ai) (es:List W),ρ <+: ρ1->bo G1 H1->SR K ρ1 cl G1 H1 S1->oe S1 n=some es->AY K ρ1 J es i G1 H1
noncomputable def Ka (K:Frag) (cl:Str->Addr) (E:XK) (wi:TI) (f:DS->ai->SM (Nat×Kd)):Prop:=
 ∀ (ρ:List Addr) (G:Hp) (σ:St) (H:Hp) (δ:DS) (S:ai) (r:Rs (Nat×Kd)) (S':ai) (R':It->Hp->Prop),RS K cl ρ G H δ σ S->f δ S=some (r,S')->
  (∀ n,r=.ok n->∀ J ρ' G' H',GS ρ G H ρ' G' H'->SR K ρ' cl G' H' S'->JV K cl ρ' J n->R' J H')->
  (∀ c,r=.xc c->∀ ρ' G' H',GS ρ G H ρ' G' H'->SR K ρ' cl G' H' S'->E (.ref (cl c)) none H')->wi σ H R'
noncomputable def n9 (f:DS->ai->SM W):DS->ai->SM (Nat×Kd):=λ δ S=>au (f δ S) λ x S1=>(iV x S1).map λ p=>(.ok (p.1,.l),S1)
theorem BA {t:TE} {f:DS->ai->SM W} (h:SE K cl E t f):Ka K cl E (zX K t) (n9 f):=λ ρ G σ H δ S r S' R' R e q qx=>
 di h R e (λ x S1 e1 v ρ1 G1 H1 g1 s1 dv=>by
  obtain ⟨⟨n,ds⟩,e2,e3⟩:=oM e1
  cases e3;obtain ⟨rfl,e4⟩:=eR e2;obtain ⟨a,rfl,ea⟩:=cE dv;obtain ⟨ga,vs,k1,k2⟩:=s1.addr e4 ea;refine ⟨a,rfl,.inl ⟨⟨vs,dM.of k1⟩,q (n,.l) rfl _ ρ1 G1 H1 g1 s1 λ i ρ2 G2 H2 S2 es pr s2 sr he=>?_⟩⟩;obtain ⟨ga2,vs2,m1,m2⟩:=sr.addr (tV he) (sY pr ea);exact y4 s2 (dM.of m1) m2) qx
noncomputable def sH (n:Nat×Kd) (h:W->DS->Option DS) (fb:DS->ai->SO):Nat->Nat->DS->ai->SO
 | 0,_,_,_=>none
 | f+1,i,δ,S=>(oe S n).bind λ es=>match es[i]? with
  | none=>some (.nx δ,S)
  | some d=>(h d δ).bind λ δ2=>match fb δ2 S with
   | some (.nx δ',S')=>sH n h fb f (i+1) δ' S'
   | some (.ct δ',S')=>sH n h fb f (i+1) δ' S'
   | some (.bk δ',S')=>some (.nx δ',S')
   | some (.rt d,S')=>some (.rt d,S')
   | some (.xc c,S')=>some (.xc c,S')
   | none=>none
theorem RS.lift {ρ:List Addr} {G H:Hp} {δ:DS} {σ:St} {S:ai} {ix:List (Option Nat)} (hx:tI ix=true) (R:RS K cl ρ G H δ σ S):RS K cl ρ G H (bf ix δ) (lift ix σ) S:=
 ⟨R.rl.lift hx,R.st,λ j ds p h1 h2=>by
  obtain ⟨o,k1,k2⟩:=lG h1;cases o with
  | none=>cases k2
  | some i=>
   have k3:δ[i]?=some (.own ds):=by
    cases e:δ[i]? with
    | none=>simp [oK,e] at k2
    | some s=>simp [oK,e] at k2;rw [k2]
   rw [nX k1] at h2;simp only [Iw] at h2;split at h2
   . rename_i w e;exact R.ap i ds p k3 (by rw [e];simpa using h2)
   . cases h2⟩
noncomputable def b4 (h:W->DS->Option DS) (c:DS->ai->SM Bool) (fe:DS->ai->SM W) (δ:DS):List W->ai->SM (List W)
 | [],S=>some (.ok [],S)
 | d::ds,S=>(h d δ).bind λ δ2=>au (c δ2 S) λ b S1=>if b=true then au (fe δ2 S1) λ e S2=>au (b4 h c fe δ ds S2) λ es S3=>some (.ok (e::es),S3) else b4 h c fe δ ds S1
noncomputable def sN (ix:List (Option Nat)) (fi:DS->ai->SM (List W)) (h:W->DS->Option DS) (c:DS->ai->SM Bool) (fe:DS->ai->SM W):DS->ai->SM W:=λ δ S=>
 au (fi δ S) λ ds S0=>if ds.length<=sizeLine then au (b4 h c fe (bf ix δ) ds S0) λ es S1=>some (.ok (.list es),S1) else none
theorem Ai {ix:List (Option Nat)} {wi:TI} {g:TG} {tc:TT} {te:TE} {fi:DS->ai->SM (List W)} {h:W->DS->Option DS} {c:DS->ai->SM Bool} {fe:DS->ai->SM W}
 (hx:tI ix=true) (hi:G9 K cl E wi fi) (hg:∀ ρ,DG K ρ g h) (hc:ST K cl E tc c) (he:SE K cl E te fe):SE K cl E (lV ix wi g tc te) (sN ix fi h c fe):=λ ρ G σ H δ S r S' Q R e q qx=>by
 rcases aD e with ⟨c0,em,rfl⟩ | ⟨ds,S0,em,e⟩
 . exact hi ρ G σ H δ S _ _ _ R em (λ d hd=>by cases hd) (λ c' hc=>by cases hc;exact qx c0 rfl)
 split at e
 case isFalse=>cases e
 rename_i hz;refine hi ρ G σ H δ S _ _ _ R em (λ ds' hd=>?_) (λ c' hc=>by cases hc);cases hd;intro J ρ1 G1 H1 gs1 sr1 it;have R1:=R.grow gs1 sr1;refine ⟨λ i m ys H2=>m=ds.length-i/\i<=ds.length/\ys.length<=i/\∃ ρ2 G2 as S2,GS ρ1 G1 H1 ρ2 G2 H2/\SR K ρ2 cl G2 H2 S2/\aF K ρ2 G2 ys as/\au (b4 h c fe (bf ix δ) (ds.drop i) S2) (λ es S1=>some (.ok (.list (as++es)),S1))=some (r,S'),⟨ds.length,by simp,Nat.zero_le _,Nat.le_refl _,ρ1,G1,[],S0,.refl gs1.s,R1.st,.nil,by simpa using e⟩,?_⟩;rintro i m ys H2 ⟨rfl,hil,hyl,ρ2,G2,as,S2,g2,s2,da,eb⟩;have ia:=(it i G2 H2 g2.g g2.s).ext g2.r;have R2:=R1.grow g2 s2;have g12:=gs1.trans g2;by_cases hlt:i<ds.length
 . refine .inr ?_;obtain ⟨go,step⟩:=ia.1 ds[i] (List.getElem?_eq_getElem hlt);rw [List.drop_eq_getElem_cons hlt] at eb;have eb':∃ δ2,h ds[i] (bf ix δ)=some δ2/\au (au (c δ2 S2) λ b S1=>if b=true then au (fe δ2 S1) λ e S2=>au (b4 h c fe (bf ix δ) (ds.drop (i+1)) S2) λ es S3=>some (.ok (e::es),S3) else b4 h c fe (bf ix δ) (ds.drop (i+1)) S1) (λ es S1=>some (.ok (.list (as++es)),S1))=some (r,S'):=by
    simp only [b4] at eb;cases e2:h ds[i] (bf ix δ) with
    | none=>rw [e2] at eb;cases eb
    | some δ2=>rw [e2] at eb;exact ⟨δ2,rfl,eb⟩
   obtain ⟨δ2,e2,e3⟩:=eb';refine ⟨go,by omega,λ ys' H'=>ys'.length<=i+1/\∃ ρ3 G3 as' S3,GS ρ1 G1 H1 ρ3 G3 H'/\SR K ρ3 cl G3 H' S3/\aF K ρ3 G3 ys' as'/\au (b4 h c fe (bf ix δ) (ds.drop (i+1)) S3) (λ es S1=>some (.ok (.list (as'++es)),S1))=some (r,S'),λ ys' H' hy0=>by obtain ⟨l,z⟩:=hy0;exact ⟨ds.length-(i+1),by omega,rfl,hlt,l,z⟩,λ x H' y=>?_⟩;obtain ⟨G3,g3,dx⟩:=step x H' y;have gs3:GS ρ2 G2 H2 ρ2 G3 H':=.of g3;have s3:=s2.grow g3;have R3:=R2.grow gs3 s3;refine hg ρ2 G3 H' (bf ix δ) _ x _ δ2 _ (R3.lift hx).rl dx e2 λ σ2 R4 o4=>?_;have RS4:RS K cl ρ2 G3 H' δ2 σ2 S2:=⟨R4,s3,λ j ds' p h1 h2=>by
    obtain ⟨es',m1,m2⟩:=o4 j ds' p h1 h2;exact (R3.lift hx).ap j es' p m1 m2⟩
   rcases aD e3 with ⟨c',em,rfl⟩ | ⟨es,S5,em,e4⟩
   . -- an exception on the way
     rcases aD em with ⟨c2,en,z⟩ | ⟨b,S4,en,e5⟩
     . cases z;exact hc ρ2 G3 σ2 H' δ2 S2 _ _ _ RS4 en (λ d hd=>by cases hd) (λ c3 h3 ρ5 G5 H5 g5 s5=>by cases h3;exact qx c' rfl ρ5 G5 H5 (g12.trans (gs3.trans g5)) s5)
     . refine hc ρ2 G3 σ2 H' δ2 S2 _ _ _ RS4 en (λ d hd=>?_) (λ c3 h3=>by cases h3);cases hd;intro ρ5 G5 H5 g5 s5;have g15:=g2.trans (gs3.trans g5);have da5:=((da.ext (gs3.trans g5).r).same (gs3.trans g5).g)
       cases b with
       | false=>exact ⟨by omega,ρ5,G5,as,S4,g15,s5,da5,by rw [show b4 h c fe (bf ix δ) (ds.drop (i+1)) S4=some (.xc c',S') from e5];rfl⟩
       | true=>
        rw [if_pos rfl] at e5 ⊢;rcases aD e5 with ⟨c2,en2,z⟩ | ⟨ev,S6,en2,e6⟩
        . cases z;exact he ρ5 G5 σ2 H5 δ2 S4 _ _ _ (RS4.grow g5 s5) en2 (λ d hd=>by cases hd) (λ c3 h3 ρ6 G6 H6 g6 s6=>by cases h3;exact qx c' rfl ρ6 G6 H6 (g12.trans (gs3.trans (g5.trans g6))) s6)
        . refine he ρ5 G5 σ2 H5 δ2 S4 _ _ _ (RS4.grow g5 s5) en2 (λ d hd=>?_) (λ c3 h3=>by cases h3);cases hd;intro v ρ6 G6 H6 g6 s6 dv;rcases aD e6 with ⟨c2,en3,z⟩ | ⟨es2,S7,en3,e7⟩
          . cases z;exact ⟨by simp;omega,ρ6,G6,as++[ev],S6,g15.trans g6,s6,((da5.ext g6.r).same g6.g).app (.cons dv .nil),by rw [en3];rfl⟩
          . cases e7
   . cases e4;rcases aD em with ⟨c2,en,z⟩ | ⟨b,S4,en,e5⟩
     . cases z
     . refine hc ρ2 G3 σ2 H' δ2 S2 _ _ _ RS4 en (λ d hd=>?_) (λ c3 h3=>by cases h3);cases hd;intro ρ5 G5 H5 g5 s5;have g15:=g2.trans (gs3.trans g5);have da5:=((da.ext (gs3.trans g5).r).same (gs3.trans g5).g)
       cases b with
       | false=>exact ⟨by omega,ρ5,G5,as,S4,g15,s5,da5,by rw [show b4 h c fe (bf ix δ) (ds.drop (i+1)) S4=some (.ok es,S') from e5];rfl⟩
       | true=>
        rw [if_pos rfl] at e5 ⊢;rcases aD e5 with ⟨c2,en2,z⟩ | ⟨ev,S6,en2,e6⟩
        . cases z
        . refine he ρ5 G5 σ2 H5 δ2 S4 _ _ _ (RS4.grow g5 s5) en2 (λ d hd=>?_) (λ c3 h3=>by cases h3);cases hd;intro v ρ6 G6 H6 g6 s6 dv;rcases aD e6 with ⟨c2,en3,z⟩ | ⟨es2,S7,en3,e7⟩
          . cases z
          . cases e7;exact ⟨by simp;omega,ρ6,G6,as++[ev],S6,g15.trans g6,s6,((da5.ext g6.r).same g6.g).app (.cons dv .nil),by rw [en3];simp [au]⟩
 . have hi':i=ds.length:=by omega
   subst hi';refine .inl ⟨ia.2 (Nat.le_refl _),by omega,λ p hp=>?_⟩;rw [List.drop_length] at eb;simp only [b4,au,List.append_nil] at eb;cases eb;have n:Nw H2 (cR H2 p (.lst ys)) p (.lst ys):=.of hp;have g3:=Gr.nw g2.s n;exact q _ rfl _ ρ2 _ _ (g12.trans (.of g3)) (s2.grow g3) (.lst (dM.of aJ) (da.same g3.g))
end
section
variable {K:Frag} {cl:Str->Addr} {E:XK}
noncomputable def pZ (ix:List (Option Nat)) (fi:DS->ai->SM (List W)) (h:W->DS->Option DS) (c:DS->ai->SM Bool) (fe:DS->ai->SM W):DS->ai->SM W:=λ δ S=>
 au (fi δ S) λ ds S0=>if ds.length<=sizeLine then au (b4 h c fe (bf ix δ) ds S0) λ es S1=>some (.ok (.ref S1.length),S1++[.lst es]) else none
theorem yd {ix:List (Option Nat)} {wi:TI} {g:TG} {tc:TT} {te:TE} {fi:DS->ai->SM (List W)} {h:W->DS->Option DS} {c:DS->ai->SM Bool} {fe:DS->ai->SM W}
 (hx:tI ix=true) (hi:G9 K cl E wi fi) (hg:∀ ρ,DG K ρ g h) (hc:ST K cl E tc c) (he:SE K cl E te fe):SE K cl E (lV ix wi g tc te) (pZ ix fi h c fe):=λ ρ G σ H δ S r S' Q R e q qx=>by
 rcases aD e with ⟨c0,em,rfl⟩ | ⟨ds,S0,em,e⟩
 . exact hi ρ G σ H δ S _ _ _ R em (λ d hd=>by cases hd) (λ c' hc=>by cases hc;exact qx c0 rfl)
 split at e
 case isFalse=>cases e
 rename_i hz;refine hi ρ G σ H δ S _ _ _ R em (λ ds' hd=>?_) (λ c' hc=>by cases hc);cases hd;intro J ρ1 G1 H1 gs1 sr1 it;have R1:=R.grow gs1 sr1;refine ⟨λ i m ys H2=>m=ds.length-i/\i<=ds.length/\ys.length<=i/\∃ ρ2 G2 as S2,GS ρ1 G1 H1 ρ2 G2 H2/\SR K ρ2 cl G2 H2 S2/\aF K ρ2 G2 ys as/\au (b4 h c fe (bf ix δ) (ds.drop i) S2) (λ es S1=>some (.ok (.ref S1.length),S1++[.lst (as++es)]))=some (r,S'),⟨ds.length,by simp,Nat.zero_le _,Nat.le_refl _,ρ1,G1,[],S0,.refl gs1.s,R1.st,.nil,by simpa using e⟩,?_⟩;rintro i m ys H2 ⟨rfl,hil,hyl,ρ2,G2,as,S2,g2,s2,da,eb⟩;have ia:=(it i G2 H2 g2.g g2.s).ext g2.r;have R2:=R1.grow g2 s2;have g12:=gs1.trans g2;by_cases hlt:i<ds.length
 . refine .inr ?_;obtain ⟨go,step⟩:=ia.1 ds[i] (List.getElem?_eq_getElem hlt);rw [List.drop_eq_getElem_cons hlt] at eb;have eb':∃ δ2,h ds[i] (bf ix δ)=some δ2/\au (au (c δ2 S2) λ b S1=>if b=true then au (fe δ2 S1) λ e S2=>au (b4 h c fe (bf ix δ) (ds.drop (i+1)) S2) λ es S3=>some (.ok (e::es),S3) else b4 h c fe (bf ix δ) (ds.drop (i+1)) S1) (λ es S1=>some (.ok (.ref S1.length),S1++[.lst (as++es)]))=some (r,S'):=by
    simp only [b4] at eb;cases e2:h ds[i] (bf ix δ) with
    | none=>rw [e2] at eb;cases eb
    | some δ2=>rw [e2] at eb;exact ⟨δ2,rfl,eb⟩
   obtain ⟨δ2,e2,e3⟩:=eb';refine ⟨go,by omega,λ ys' H'=>ys'.length<=i+1/\∃ ρ3 G3 as' S3,GS ρ1 G1 H1 ρ3 G3 H'/\SR K ρ3 cl G3 H' S3/\aF K ρ3 G3 ys' as'/\au (b4 h c fe (bf ix δ) (ds.drop (i+1)) S3) (λ es S1=>some (.ok (.ref S1.length),S1++[.lst (as'++es)]))=some (r,S'),λ ys' H' hy0=>by obtain ⟨l,z⟩:=hy0;exact ⟨ds.length-(i+1),by omega,rfl,hlt,l,z⟩,λ x H' y=>?_⟩;obtain ⟨G3,g3,dx⟩:=step x H' y;have gs3:GS ρ2 G2 H2 ρ2 G3 H':=.of g3;have s3:=s2.grow g3;have R3:=R2.grow gs3 s3;refine hg ρ2 G3 H' (bf ix δ) _ x _ δ2 _ (R3.lift hx).rl dx e2 λ σ2 R4 o4=>?_;have RS4:RS K cl ρ2 G3 H' δ2 σ2 S2:=⟨R4,s3,λ j ds' p h1 h2=>by
    obtain ⟨es',m1,m2⟩:=o4 j ds' p h1 h2;exact (R3.lift hx).ap j es' p m1 m2⟩
   rcases aD e3 with ⟨c',em,rfl⟩ | ⟨es,S5,em,e4⟩
   . -- an exception on the way
     rcases aD em with ⟨c2,en,z⟩ | ⟨b,S4,en,e5⟩
     . cases z;exact hc ρ2 G3 σ2 H' δ2 S2 _ _ _ RS4 en (λ d hd=>by cases hd) (λ c3 h3 ρ5 G5 H5 g5 s5=>by cases h3;exact qx c' rfl ρ5 G5 H5 (g12.trans (gs3.trans g5)) s5)
     . refine hc ρ2 G3 σ2 H' δ2 S2 _ _ _ RS4 en (λ d hd=>?_) (λ c3 h3=>by cases h3);cases hd;intro ρ5 G5 H5 g5 s5;have g15:=g2.trans (gs3.trans g5);have da5:=((da.ext (gs3.trans g5).r).same (gs3.trans g5).g)
       cases b with
       | false=>exact ⟨by omega,ρ5,G5,as,S4,g15,s5,da5,by rw [show b4 h c fe (bf ix δ) (ds.drop (i+1)) S4=some (.xc c',S') from e5];rfl⟩
       | true=>
        rw [if_pos rfl] at e5 ⊢;rcases aD e5 with ⟨c2,en2,z⟩ | ⟨ev,S6,en2,e6⟩
        . cases z;exact he ρ5 G5 σ2 H5 δ2 S4 _ _ _ (RS4.grow g5 s5) en2 (λ d hd=>by cases hd) (λ c3 h3 ρ6 G6 H6 g6 s6=>by cases h3;exact qx c' rfl ρ6 G6 H6 (g12.trans (gs3.trans (g5.trans g6))) s6)
        . refine he ρ5 G5 σ2 H5 δ2 S4 _ _ _ (RS4.grow g5 s5) en2 (λ d hd=>?_) (λ c3 h3=>by cases h3);cases hd;intro v ρ6 G6 H6 g6 s6 dv;rcases aD e6 with ⟨c2,en3,z⟩ | ⟨es2,S7,en3,e7⟩
          . cases z;exact ⟨by simp;omega,ρ6,G6,as++[ev],S6,g15.trans g6,s6,((da5.ext g6.r).same g6.g).app (.cons dv .nil),by rw [en3];rfl⟩
          . cases e7
   . cases e4;rcases aD em with ⟨c2,en,z⟩ | ⟨b,S4,en,e5⟩
     . cases z
     . refine hc ρ2 G3 σ2 H' δ2 S2 _ _ _ RS4 en (λ d hd=>?_) (λ c3 h3=>by cases h3);cases hd;intro ρ5 G5 H5 g5 s5;have g15:=g2.trans (gs3.trans g5);have da5:=((da.ext (gs3.trans g5).r).same (gs3.trans g5).g)
       cases b with
       | false=>exact ⟨by omega,ρ5,G5,as,S4,g15,s5,da5,by rw [show b4 h c fe (bf ix δ) (ds.drop (i+1)) S4=some (.ok es,S5) from e5];rfl⟩
       | true=>
        rw [if_pos rfl] at e5 ⊢;rcases aD e5 with ⟨c2,en2,z⟩ | ⟨ev,S6,en2,e6⟩
        . cases z
        . refine he ρ5 G5 σ2 H5 δ2 S4 _ _ _ (RS4.grow g5 s5) en2 (λ d hd=>?_) (λ c3 h3=>by cases h3);cases hd;intro v ρ6 G6 H6 g6 s6 dv;rcases aD e6 with ⟨c2,en3,z⟩ | ⟨es2,S7,en3,e7⟩
          . cases z
          . cases e7;exact ⟨by simp;omega,ρ6,G6,as++[ev],S6,g15.trans g6,s6,((da5.ext g6.r).same g6.g).app (.cons dv .nil),by rw [en3];simp [au]⟩
 . have hi':i=ds.length:=by omega
   subst hi';refine .inl ⟨ia.2 (Nat.le_refl _),by omega,λ p hp=>?_⟩;rw [List.drop_length] at eb;simp only [b4,au,List.append_nil] at eb;cases eb;have n:Nw H2 (cR H2 p (.lst ys)) p (.lst ys):=.of hp;obtain ⟨s3,g3⟩:=s2.push (o:=.lst as) g2.s n λ ρ' hr=>⟨ys,aJ,da.ext hr⟩
   exact q _ rfl _ _ _ _ (g12.trans g3) s3 (.ref (by rw [<-s2.len];simp))
noncomputable def bX (n:Nat×Kd) (h:W->DS->Option DS) (c:DS->ai->SM Bool) (fe:DS->ai->SM W) (δ:DS):Nat->Nat->ai->SM (List W)
 | 0,_,_=>none
 | f+1,i,S=>(oe S n).bind λ es=>match es[i]? with
  | none=>some (.ok [],S)
  | some d=>(h d δ).bind λ δ2=>au (c δ2 S) λ b S1=>if b=true then au (fe δ2 S1) λ e S2=>au (bX n h c fe δ f (i+1) S2) λ es S3=>some (.ok (e::es),S3) else bX n h c fe δ f (i+1) S1
noncomputable def qt (m:Nat) (ix:List (Option Nat)) (fi:DS->ai->SM (Nat×Kd)) (h:W->DS->Option DS) (c:DS->ai->SM Bool) (fe:DS->ai->SM W):DS->ai->SM W:=λ δ S=>
 au (fi δ S) λ n S0=>if m<=sizeLine then au (bX n h c fe (bf ix δ) m 0 S0) λ es S1=>some (.ok (.list es),S1) else none
theorem xq {m:Nat} {ix:List (Option Nat)} {wi:TI} {g:TG} {tc:TT} {te:TE} {fi:DS->ai->SM (Nat×Kd)} {h:W->DS->Option DS} {c:DS->ai->SM Bool} {fe:DS->ai->SM W}
 (hx:tI ix=true) (hi:Ka K cl E wi fi) (hg:∀ ρ,DG K ρ g h) (hc:ST K cl E tc c) (he:SE K cl E te fe):SE K cl E (lV ix wi g tc te) (qt m ix fi h c fe):=λ ρ G σ H δ S r S' Q R e q qx=>by
 rcases aD e with ⟨c0,em,rfl⟩ | ⟨n,S0,em,e⟩
 . exact hi ρ G σ H δ S _ _ _ R em (λ d hd=>by cases hd) (λ c' hc=>by cases hc;exact qx c0 rfl)
 split at e
 case isFalse=>cases e
 rename_i hz;refine hi ρ G σ H δ S _ _ _ R em (λ n' hn=>?_) (λ c' hc=>by cases hc);cases hn;intro J ρ1 G1 H1 gs1 sr1 it;have R1:=R.grow gs1 sr1;refine ⟨λ i k ys H2=>k+i=m/\ys.length<=i/\∃ ρ2 G2 as S2,GS ρ1 G1 H1 ρ2 G2 H2/\SR K ρ2 cl G2 H2 S2/\aF K ρ2 G2 ys as/\au (bX n h c fe (bf ix δ) k i S2) (λ es S1=>some (.ok (.list (as++es)),S1))=some (r,S'),⟨m,by simp,Nat.le_refl _,ρ1,G1,[],S0,.refl gs1.s,R1.st,.nil,by simpa using e⟩,?_⟩;rintro i k ys H2 ⟨hk,hyl,ρ2,G2,as,S2,g2,s2,da,eb⟩;have R2:=R1.grow g2 s2;have g12:=gs1.trans g2;cases k with
 | zero=>cases eb
 | succ k=>
  have eb0:∃ es0,oe S2 n=some es0:=by
   cases hl:oe S2 n with
   | none=>simp only [bX,hl] at eb;cases eb
   | some es0=>exact ⟨es0,rfl⟩
  obtain ⟨es0,hl⟩:=eb0;have ia:=it i ρ2 G2 H2 S2 es0 g2.r g2.s s2 hl;cases hd:es0[i]? with
  | none=>
   refine .inl ⟨ia.2 (List.getElem?_eq_none_iff.mp hd),by omega,λ p hp=>?_⟩;simp only [bX,hl,Option.bind_some,hd,au,List.append_nil] at eb;cases eb;have nn:Nw H2 (cR H2 p (.lst ys)) p (.lst ys):=.of hp;have g3:=Gr.nw g2.s nn;exact q _ rfl _ ρ2 _ _ (g12.trans (.of g3)) (s2.grow g3) (.lst (dM.of aJ) (da.same g3.g))
  | some d0=>
   refine .inr ?_;obtain ⟨go,step⟩:=ia.1 d0 hd;have eb':∃ δ2,h d0 (bf ix δ)=some δ2/\au (au (c δ2 S2) λ b S1=>if b=true then au (fe δ2 S1) λ e S2=>au (bX n h c fe (bf ix δ) k (i+1) S2) λ es S3=>some (.ok (e::es),S3) else bX n h c fe (bf ix δ) k (i+1) S1) (λ es S1=>some (.ok (.list (as++es)),S1))=some (r,S'):=by
    simp only [bX,hl,Option.bind_some,hd] at eb;cases e2:h d0 (bf ix δ) with
    | none=>rw [e2] at eb;cases eb
    | some δ2=>rw [e2] at eb;exact ⟨δ2,rfl,eb⟩
   obtain ⟨δ2,e2,e3⟩:=eb';refine ⟨go,by omega,λ ys' H'=>ys'.length<=i+1/\∃ ρ3 G3 as' S3,GS ρ1 G1 H1 ρ3 G3 H'/\SR K ρ3 cl G3 H' S3/\aF K ρ3 G3 ys' as'/\au (bX n h c fe (bf ix δ) k (i+1) S3) (λ es S1=>some (.ok (.list (as'++es)),S1))=some (r,S'),λ ys' H' hy0=>by obtain ⟨l,z⟩:=hy0;exact ⟨k,Nat.lt_succ_self _,by omega,l,z⟩,λ x H' y=>?_⟩;obtain ⟨G3,g3,dx⟩:=step x H' y;have gs3:GS ρ2 G2 H2 ρ2 G3 H':=.of g3;have s3:=s2.grow g3;have R3:=R2.grow gs3 s3;refine hg ρ2 G3 H' (bf ix δ) _ x _ δ2 _ (R3.lift hx).rl dx e2 λ σ2 R4 o4=>?_;have RS4:RS K cl ρ2 G3 H' δ2 σ2 S2:=⟨R4,s3,λ j ds' p h1 h2=>by
    obtain ⟨es',m1,m2⟩:=o4 j ds' p h1 h2;exact (R3.lift hx).ap j es' p m1 m2⟩
   rcases aD e3 with ⟨c',em,rfl⟩ | ⟨es,S5,em,e4⟩
   . -- an exception on the way
     rcases aD em with ⟨c2,en,z⟩ | ⟨b,S4,en,e5⟩
     . cases z;exact hc ρ2 G3 σ2 H' δ2 S2 _ _ _ RS4 en (λ d hd=>by cases hd) (λ c3 h3 ρ5 G5 H5 g5 s5=>by cases h3;exact qx c' rfl ρ5 G5 H5 (g12.trans (gs3.trans g5)) s5)
     . refine hc ρ2 G3 σ2 H' δ2 S2 _ _ _ RS4 en (λ d hd=>?_) (λ c3 h3=>by cases h3);cases hd;intro ρ5 G5 H5 g5 s5;have g15:=g2.trans (gs3.trans g5);have da5:=((da.ext (gs3.trans g5).r).same (gs3.trans g5).g)
       cases b with
       | false=>exact ⟨by omega,ρ5,G5,as,S4,g15,s5,da5,by rw [show bX n h c fe (bf ix δ) k (i+1) S4=some (.xc c',S') from e5];rfl⟩
       | true=>
        rw [if_pos rfl] at e5 ⊢;rcases aD e5 with ⟨c2,en2,z⟩ | ⟨ev,S6,en2,e6⟩
        . cases z;exact he ρ5 G5 σ2 H5 δ2 S4 _ _ _ (RS4.grow g5 s5) en2 (λ d hd=>by cases hd) (λ c3 h3 ρ6 G6 H6 g6 s6=>by cases h3;exact qx c' rfl ρ6 G6 H6 (g12.trans (gs3.trans (g5.trans g6))) s6)
        . refine he ρ5 G5 σ2 H5 δ2 S4 _ _ _ (RS4.grow g5 s5) en2 (λ d hd=>?_) (λ c3 h3=>by cases h3);cases hd;intro v ρ6 G6 H6 g6 s6 dv;rcases aD e6 with ⟨c2,en3,z⟩ | ⟨es2,S7,en3,e7⟩
          . cases z;exact ⟨by simp;omega,ρ6,G6,as++[ev],S6,g15.trans g6,s6,((da5.ext g6.r).same g6.g).app (.cons dv .nil),by rw [en3];rfl⟩
          . cases e7
   . cases e4;rcases aD em with ⟨c2,en,z⟩ | ⟨b,S4,en,e5⟩
     . cases z
     . refine hc ρ2 G3 σ2 H' δ2 S2 _ _ _ RS4 en (λ d hd=>?_) (λ c3 h3=>by cases h3);cases hd;intro ρ5 G5 H5 g5 s5;have g15:=g2.trans (gs3.trans g5);have da5:=((da.ext (gs3.trans g5).r).same (gs3.trans g5).g)
       cases b with
       | false=>exact ⟨by omega,ρ5,G5,as,S4,g15,s5,da5,by rw [show bX n h c fe (bf ix δ) k (i+1) S4=some (.ok es,S') from e5];rfl⟩
       | true=>
        rw [if_pos rfl] at e5 ⊢;rcases aD e5 with ⟨c2,en2,z⟩ | ⟨ev,S6,en2,e6⟩
        . cases z
        . refine he ρ5 G5 σ2 H5 δ2 S4 _ _ _ (RS4.grow g5 s5) en2 (λ d hd=>?_) (λ c3 h3=>by cases h3);cases hd;intro v ρ6 G6 H6 g6 s6 dv;rcases aD e6 with ⟨c2,en3,z⟩ | ⟨es2,S7,en3,e7⟩
          . cases z
          . cases e7;exact ⟨by simp;omega,ρ6,G6,as++[ev],S6,g15.trans g6,s6,((da5.ext g6.r).same g6.g).app (.cons dv .nil),by rw [en3];simp [au]⟩
end
theorem Fs {K:Frag} {cl:Str->Addr} {G H:Hp}:SR K [] cl G H []:=⟨rfl,List.nodup_nil,λ n o e=>by simp at e⟩
end L2
set_option Elab.async false
set_option linter.all false
set_option maxRecDepth 100000
namespace L2
open PySem PySem.Spec PyProof.Rows PySem.AutoSeq1
open PySem.W (Frag)
section
variable {X:Cx}
end
section
variable {K:Frag} {ρ:List Addr}
theorem nU {G:Hp}:∀ ws:List Str,aF K ρ G (ws.map V.str) (ws.map W.str)
 | []=>.nil
 | w::ws=>.cons (.str w) (nU ws)
theorem sD {H:Hp} {x:V} {d:W} {a:Addr} {ws:List Str} {b:Bool} (h:ii K H a (ws.map V.str)) (hx:Dw K ρ H x d) (e:sS d (.tuple (ws.map W.str))=some b):gB x=true/\(ws.map V.str).all gB=true/\FT x (ws.map V.str)=b:=by
 obtain ⟨ds,e1,e⟩:=oB e
 obtain ⟨v,e2,e⟩:=oB e
 obtain ⟨vs,e3,rfl⟩:=oM e
 cases e1;obtain ⟨rfl,f1⟩:=um hx e2;obtain ⟨rfl,f2⟩:=qC (K:=K) (ρ:=ρ) (H:=H) (nU ws) e3;exact ⟨f1,f2,rfl⟩
theorem x6 {neg:Bool} {ta:TE} {fa:DS->Option W} {a:Addr} {ws:List Str} (hs:∀ G,ii K G a (ws.map V.str)) (ha:DK K ρ ta fa) {G:Hp} {σ:St} {H:Hp} {δ:DS} {b:Bool} {Q:VK} (R:Rl K ρ G H δ σ) (e:aC (if neg then xM else sS) fa (dC (.tuple (ws.map W.str))) δ=some b) (q:∀ G' H',Gr G H G' H'->Q (.bl b) H'):rA (FC K neg) ta (tC (.ref a)) σ H Q:=by
 obtain ⟨x,ex,e⟩:=oB e
 have e:(if neg then xM else sS) x (.tuple (ws.map W.str))=some b:=e;refine ha G σ H δ x _ R ex λ v G1 H1 g1 dv=>?_;have dv:=dv.dp g1.s;cases neg with
 | false=>
  obtain ⟨f1,f2,rfl⟩:=sD (hs H1) dv e;exact ⟨a,_,rfl,.inr (hs H1),f1,f2,q G1 H1 g1⟩
 | true=>
  obtain ⟨b',e',rfl⟩:=oM e
  obtain ⟨f1,f2,rfl⟩:=sD (hs H1) dv e';exact ⟨a,_,rfl,.inr (hs H1),f1,f2,q G1 H1 g1⟩
theorem E7 {ta:TE} {fa:DS->Option W} {a:Addr} {ws:List Str} (hs:∀ G,ii K G a (ws.map V.str)) (ha:DK K ρ ta fa):DT K ρ (lW (rA (FC K false) ta (tC (.ref a)))) (aC sS fa (dC (.tuple (ws.map W.str)))):=λ G σ H δ b Q R e q=>
 x6 (neg:=false) hs ha R e λ G' H' g=>⟨b,rfl,q G' H' g⟩
end
structure sC (K:Frag) (x q:Str) (st:Stmt) (f:Addr) (fd:FuncData):Prop where
 ex:∃ (dV oc kV dc pm cd ct:Value) (od an:Option Addr) (sl:Array (Option Value)),fd=PySem.W.fnOf x q (aT st) (aN st) (aw st) dV kV dc pm an cd ct/\K.lookup f=some ⟨oc,od,.func fd,sl⟩/\PySem.W.codeIn K cd q=true
 kp:PySem.W.keepIn K (.ref f)=true
theorem sC.ok {P:Program} {w:World} {K:Frag} {mg:Str->Option Value} {base:Heap} {x q:Str} {st:Stmt} {f:Addr} {fd:FuncData} {N ps:List Str} {k:Nat} {sp:Sp} (F:sC K x q st f fd) (S:dR N ps (aw st)) (hl:∀ vs H Q E,sp vs H Q E->vs.length=ps.length)
 (hb:∀ (cd:Value) (A:Around) (outer:List Env) (s:Shared) (H:Hp) (vs:List V) (Q:VK) (E:XK),cq k (A.deeper (envOfC q (aw st) s.heap.objs.size f cd))->sp vs H Q E->
  ∃ t,mU (gN uz P w K mg base N q (aw st) f cd A outer s H E).nox (aN st) t/\t ({ nx:=λ _ H'=>Q V.non H',rt:=Q }:jb) (start N vs) H):et P w K mg base uz (k+1) f fd ps sp:=by
 obtain ⟨dV,oc,kV,dc,pm,cd,ct,od,an,sl,rfl,lk,hc⟩:=F.ex;refine Cv lk hc S hl λ A outer s H vs Q E hr hs=>?_;obtain ⟨t,h,r⟩:=hb cd A outer s H vs Q E hr hs;exact ⟨t,h.nox,r⟩
theorem bi {K:Frag} {x q:Str} {st:Stmt} {f:Addr} {dV oc kV dc pm cd ct:Value} {od an:Option Addr} {sl:Array (Option Value)} (l:K.lookup f=some ⟨oc,od,.func (PySem.W.fnOf x q (aT st) (aN st) (aw st) dV kV dc pm an cd ct),sl⟩) (c:PySem.W.codeIn K cd q=true) (k:PySem.W.keepIn K (.ref f)=true):sC K x q st f (PySem.W.fnOf x q (aT st) (aN st) (aw st) dV kV dc pm an cd ct):=⟨⟨dV,oc,kV,dc,pm,cd,ct,od,an,sl,rfl,l,c⟩,k⟩
section
variable {K:Frag} {ρ:List Addr}
end
section
variable {K:Frag} {cl:Str->Addr} {E:XK}
noncomputable def vx:List W->Option (List bh)
 | []=>some []
 | d::ds=>(oh d).bind λ k=>(vx ds).map (k::·)
noncomputable def u8:W->Option (List bh)
 | .tuple ds=>vx ds
 | _=>none
theorem xA {ρ:List Addr} {G:Hp} {vs:List V} {ds:List W} {ks:List bh} (h:aF K ρ G vs ds):vx ds=some ks->vs=ks.map kV:=
 h.ind (M:=λ vs ds=>∀ ks,vx ds=some ks->vs=ks.map kV) (λ ks e=>by cases e;rfl) (λ _ _ _ _ a ih ks e=>by
  obtain ⟨k,e1,e⟩:=oB e
  obtain ⟨ks,e2,rfl⟩:=oM e
  rw [nv a e1,ih _ e2];rfl) ks
theorem pS {ρ:List Addr} {G:Hp} {v:V} {d:W} {ks:List bh} (h:Dw K ρ G v d) (e:u8 d=some ks):∃ b,v=.ref b/\G b=some (.tup (ks.map kV)):=by
 cases h with
 | tup sq da=>exact ⟨_,rfl,by rw [<-xA da e];exact sq⟩
 | _=>cases e
noncomputable def rO (x y:W) (S:ai):Option (Option W):=match kj x S with
 | some (_,.dK kvs)=>(oh y).map λ k=>bC kvs k
 | some (_,.dT kvs)=>(u8 y).map λ k=>bC kvs k
 | _=>none
theorem uT {ρ:List Addr} {G H:Hp} {S:ai} {v u:V} {x y:W} {o:Option W} (sg:bo G H) (s:SR K ρ cl G H S) (dv:Dw K ρ G v x) (du:Dw K ρ G u y) (h:rO x y S=some o):∃ a r,v=.ref a/\mR H a u r/\(match o with | some d=>∃ z,r=some z/\Dw K ρ G z d | none=>r=none):=by
 unfold rO at h;split at h
 . rename_i n kvs e1;obtain ⟨k,e3,e4⟩:=oM h
   obtain ⟨rfl,e5⟩:=fE e1;obtain ⟨a,rfl,ea⟩:=cE dv;obtain ⟨ga,ws,k1,k2⟩:=s.addr e5 ea;obtain ⟨v1,v2⟩:=k2.val (k:=k);refine ⟨a,jR ws k,rfl,?_,?_⟩
   . rw [nv du e3];exact mR.k k1
   . cases o with
     | some d=>exact v1 d e4
     | none=>exact v2 e4
 . rename_i n kvs e1;obtain ⟨k,e3,e4⟩:=oM h
   obtain ⟨rfl,e5⟩:=fE e1;obtain ⟨a,rfl,ea⟩:=cE dv;obtain ⟨ga,ws,k1,k2⟩:=s.addr e5 ea;obtain ⟨v1,v2⟩:=k2.val (k:=k);obtain ⟨b,rfl,hb⟩:=pS du e3;refine ⟨a,jR ws k,rfl,mR.t k1 (sg _ _ hb),?_⟩
   . cases o with
     | some d=>exact v1 d e4
     | none=>exact v2 e4
 . cases h
noncomputable def iP (fo fk:DS->ai->SM W):DS->ai->SM W:=λ δ S=>au (fo δ S) λ x S1=>au (fk δ S1) λ y S2=>(rO x y S2).bind λ o=>kz o S2
theorem BE {to tk:TE} {fo fk:DS->ai->SM W} (ho:SE K cl E to fo) (hk:SE K cl E tk fk):SE K cl E (BW to tk) (iP fo fk):=λ ρ G σ H δ S r S' Q R e q qx=>
 iB ho hk R e (λ x y S2 e2 v u ρ2 G2 H2 g2 s2 dv du=>by
  obtain ⟨o,e3,e4⟩:=oB e2
  obtain ⟨d,rfl,rfl,rfl⟩:=bV e4;obtain ⟨a,r,rfl,h1,z,rfl,h2⟩:=uT g2.s s2 dv du e3;exact ⟨a,z,rfl,h1,q d rfl z ρ2 G2 H2 g2 s2 h2⟩) qx
noncomputable def yk (x y d:W) (S:ai):Option ai:=match kj x S with
 | some (n,.dK kvs)=>(oh y).bind λ k=>if kvs.length<sizeLine then some (S.set n (.dK (cA kvs k d))) else none
 | some (n,.dT kvs)=>(u8 y).bind λ k=>if kvs.length<sizeLine then some (S.set n (.dT (cA kvs k d))) else none
 | _=>none
theorem Bs {ρ:List Addr} {G H:Hp} {S S':ai} {v u w:V} {x y d:W} (sg:bo G H) (s:SR K ρ cl G H S) (dv:Dw K ρ G v x) (du:Dw K ρ G u y) (dw:Dw K ρ G w d) (h:yk x y d S=some S'):∃ a H',v=.ref a/\pX H a u w H'/\SR K ρ cl G H' S'/\GS ρ G H ρ G H':=by
 unfold yk at h;split at h
 . rename_i n kvs e1;obtain ⟨k,e3,e4⟩:=oB h
   split at e4
   case isFalse=>cases e4
   rename_i hl;cases e4;obtain ⟨rfl,e5⟩:=fE e1;obtain ⟨a,rfl,ea⟩:=cE dv;obtain ⟨ga,ws,k1,k2⟩:=s.addr e5 ea;obtain ⟨s4,g4⟩:=s.put (x:=.dK (i7 ws k w)) (o':=.dK (cA kvs k d)) sg e5 ea (λ b z=>by cases z) ⟨_,aJ,k2.put dw⟩;refine ⟨a,_,rfl,?_,s4,g4⟩;rw [nv du e3];exact pX.k k1 (by rw [<-k2.length];exact hl)
 . rename_i n kvs e1;obtain ⟨k,e3,e4⟩:=oB h
   split at e4
   case isFalse=>cases e4
   rename_i hl;cases e4;obtain ⟨rfl,e5⟩:=fE e1;obtain ⟨a,rfl,ea⟩:=cE dv;obtain ⟨ga,ws,k1,k2⟩:=s.addr e5 ea;obtain ⟨s4,g4⟩:=s.put (x:=.dT (i7 ws k w)) (o':=.dT (cA kvs k d)) sg e5 ea (λ b z=>by cases z) ⟨_,aJ,k2.put dw⟩;obtain ⟨b,rfl,hb⟩:=pS du e3;exact ⟨a,_,rfl,pX.t k1 (sg _ _ hb) (by rw [<-k2.length];exact hl),s4,g4⟩
 . cases h
noncomputable def iN (fo fk fv:DS->ai->SM W):DS->ai->SO:=λ δ S=>jX (fv δ S) λ d S1=>jX (fo δ S1) λ x S2=>jX (fk δ S2) λ y S3=>(yk x y d S3).map λ S4=>(.nx δ,S4)
theorem v6 {to tk tv:TE} {fo fk fv:DS->ai->SM W} (ho:SE K cl E to fo) (hk:SE K cl E tk fk) (hv:SE K cl E tv fv):kX K cl E (BX to tk tv) (iN fo fk fv):=λ ρ0 G0 H0 ρ G σ H δ S o S' D I e p=>
 gc hv I e p λ d S1 e1 v ρ1 G1 H1 g1 s1 dv=>by
  have I1:=I.grow g1 s1;refine gc ho I1 e1 p λ x S2 e2 u ρ2 G2 H2 g2 s2 du=>?_;have I2:=I1.grow g2 s2;refine gc hk I2 e2 p λ y S3 e3 w ρ3 G3 H3 g3 s3 dw=>?_;obtain ⟨S4,e4,e5⟩:=oM e3
  cases e5;have g23:=g2.trans g3;obtain ⟨a,H4,rfl,h1,s4,g4⟩:=Bs g3.s s3 ((du.ext g3.r).same g3.g) dw ((dv.ext g23.r).same g23.g) e4;exact ⟨a,_,rfl,h1,p σ ρ3 G3 _ ((I2.grow g3 s3).grow g4 s4)⟩
end
theorem cq.units1 {k:Nat} {A:Around} (r:cq k A):A.units+1<cLine:=Nat.lt_of_le_of_lt (by omega) r.units
section
variable {K:Frag} {cl:Str->Addr} {E:XK}
noncomputable def re (fo:DS->ai->SM W):DS->ai->SM W:=λ δ S=>au (fo δ S) λ x S1=>(iV x S1).bind λ p=>(p.2[p.2.length-1]?).map λ d=>(.ok d,S1.set p.1 (.lst p.2.dropLast))
theorem aF.dropL {ρ:List Addr} {G:Hp} {vs:List V} {ds:List W} (h:aF K ρ G vs ds):aF K ρ G vs.dropLast ds.dropLast:=by rw [List.dropLast_eq_take,List.dropLast_eq_take,h.length];exact h.take _
theorem Da {to:TE} {fo:DS->ai->SM W} (ho:SE K cl E to fo):SE K cl E (zT K "list" Dl to) (re fo):=λ ρ G σ H δ S r' S' Q R e q qx=>
 di ho R e (λ x S2 e2 v ρ2 G2 H2 g2 s2 dv=>by
  obtain ⟨⟨n,ds⟩,e3,e4⟩:=oB e2
  obtain ⟨d,e5,e6⟩:=oM e4
  cases e6;obtain ⟨rfl,e7⟩:=eR e3;obtain ⟨a,rfl,ea⟩:=cE dv;obtain ⟨ga,vs,k1,k2⟩:=s2.addr e7 ea;obtain ⟨z,h1,h2⟩:=k2.get e5;obtain ⟨s4,g4⟩:=s2.put (x:=.lst vs.dropLast) (o':=.lst ds.dropLast) g2.s e7 ea (λ b z=>by cases z) ⟨_,aJ,k2.dropL⟩;exact ⟨.inl ⟨rfl,vs,dM.of k1⟩,a,vs,z,rfl,rfl,k1,by rw [k2.length];exact h1,q d rfl z ρ2 G2 _ (g2.trans g4) s4 h2⟩) qx
end
section
variable {K:Frag} {ρ:List Addr}
end
section
variable {K:Frag} {cl:Str->Addr} {E:XK}
end
open PySem.AutoSeq1 (wpAny_loadPart')
section
variable {prog:Program} {w:World} {A:Around} {E:Value->Shared->Prop} {s:Shared}
end
open PySem.AutoSeq1 (wpAny_loadPart')
section
variable {prog:Program} {w:World} {A:Around} {E:Value->Shared->Prop} {s:Shared}
end
section
variable {M:Model} {A:Around} {E:Value->Shared->Prop} {s:Shared} {env:Env}
end
section
variable {K:Frag} {ρ:List Addr}
noncomputable def HW:W->Option (List W)
 | .tuple ds=>some ds
 | _=>none
theorem Ev (ds:List W):HW (.tuple ds)=some ds:=rfl
noncomputable def JX (f:DS->Option W) (lo hi:DS->Option (Option Int)):DS->Option W:=λ δ=>(f δ).bind λ d=>(HW d).bind λ ds=>(lo δ).bind λ l=>(hi δ).map λ u=>.tuple (Ht ds l u)
noncomputable def vo (T:String):W->Option W
 | .list _=>if T = "list" then some (.bool true) else none
 | .tuple _=>if T = "tuple" then some (.bool true) else none
 | d=>lj T d
theorem ER (ds:List W):vo "list" (.list ds)=some (.bool true):=by simp [vo]
theorem Dk (ds:List W):vo "tuple" (.tuple ds)=some (.bool true):=by simp [vo]
end
section
variable {K:Frag} {cl:Str->Addr} {E:XK}
end
theorem IZ {X:Cx} {K:Frag} {e:Expr} {f:Str} {pos:Pos} {ta:TE} (hK:X.K=K) (he:PE X e ta) (hb:attributeBase e f X.env (eval e X.env)=eval e X.env):PE X (.Attribute e f pos) (E2 K ta f):=hK▸Fq he hb
theorem IH {α:Type} (x y:α) (r:List α):jf (x::y::r) 1=some y:=by
 unfold jf B5;rw [if_pos (by decide),if_pos (by simp;omega)];rfl
theorem Hy {α:Type} (x:α) (r:List α):jf (x::r) 0=some x:=by
 unfold jf B5;rw [if_pos (by decide),if_pos (by simp)];rfl
theorem sz (n:Nat) (h:n<=9000):n<=sizeLine:=Nat.le_trans h (by decide)
theorem kr {S:ai} {l:Nat} {es:List W} (h:S[l]?=some (.lst es)):iV (.ref l) S=some (l,es):=by simp [iV,kj,h]
theorem zt {S:ai} {l:Nat} {es:List (bh×W)} (h:S[l]?=some (.dK es)):rp (.ref l) S=some (l,es):=by simp [rp,kj,h]
theorem yG {κ:Type} [DecidableEq κ]:∀ (kvs:List (κ×W)) (k q:κ) (x:W),bC kvs k=none->bC (kvs++[(k,x)]) q=if q=k then some x else bC kvs q:=λ kvs k q x h=>by
 induction kvs with
 | nil=>
  by_cases e:q=k
  . subst e;simp [bC]
  . have e':¬ k=q:=λ z=>e z.symm;simp [bC,e,e']
 | cons p r ih=>
  obtain ⟨j,y⟩:=p;by_cases hj:j=k
  . subst hj;simp [bC,List.find?_cons] at h
  . have h':bC r k=none:=by simpa [bC,List.find?_cons,hj] using h
    have ih':=ih h';by_cases hq:j=q
    . subst hq;simp [bC,List.find?_cons,hj]
    . simp only [bC,List.cons_append,List.find?_cons,hq,decide_false] at ih' ⊢;exact ih'
theorem vR {κ:Type} [DecidableEq κ] {kvs:List (κ×W)} {k:κ} (x:W) (h:bC kvs k=none):cA kvs k x=kvs++[(k,x)]:=by
 unfold cA;rw [if_neg];intro ha;obtain ⟨kv,h1,h2⟩:=List.any_eq_true.mp ha;unfold bC at h;have h3:kvs.find? (λ kv=>decide (kv.1=k))=none:=by
  cases hf:kvs.find? (λ kv=>decide (kv.1=k)) with
  | none=>rfl
  | some z=>rw [hf] at h;cases h
 exact absurd h2 (by simpa using List.find?_eq_none.mp h3 kv h1)
theorem io (lo:Int) (n:Nat):gi lo (n+1)=.int lo::gi (lo+1) n:=by
 unfold gi;rw [List.range_succ_eq_map,List.map_cons,List.map_map];congr 1
 . simp
 . apply List.map_congr_left;intro a _;show W.int (lo+((a+1:Nat):Int))=W.int (lo+1+(a:Int));congr 1;omega
theorem aE {a n:Nat} {fb:DS->ai->SO} {ds:List W} {S:ai} (h:ds.length=a):bc a n fb ds S=cy (fb (ff n ds) S):=if_pos h
theorem ah {f g:DS->ai->SO} {δ δ':DS} {S S':ai} (h:f δ S=some (.nx δ',S')):av f g δ S=g δ' S':=by unfold av;rw [h]
theorem fK {c:DS->ai->SM Bool} {f g:DS->ai->SO} {δ:DS} {S S1:ai} (h:c δ S=some (.ok true,S1)):bD c f g δ S=f δ S1:=by unfold bD;rw [h];rfl
theorem b9 {c:DS->ai->SM Bool} {f g:DS->ai->SO} {δ:DS} {S S1:ai} (h:c δ S=some (.ok false,S1)):bD c f g δ S=g δ S1:=by unfold bD;rw [h];rfl
theorem bb {f:DS->ai->SM W} {h:W->DS->Option DS} {δ δ':DS} {S S1:ai} {d:W} (h1:f δ S=some (.ok d,S1)) (h2:h d δ=some δ'):cQ f h δ S=some (.nx δ',S1):=by
 unfold cQ;rw [h1];show (h d δ).map _=_;rw [h2];rfl
theorem fW {fi:DS->ai->SM (List W)} {h:W->DS->Option DS} {fb:DS->ai->SO} {δ:DS} {S S1:ai} {ds:List W} (h1:fi δ S=some (.ok ds,S1)):jj fi h fb δ S=bE h fb ds δ S1:=by unfold jj;rw [h1];rfl
theorem bI {h:W->DS->Option DS} {fb:DS->ai->SO} {d:W} {ds:List W} {δ δ2 δ':DS} {S S':ai} (h1:h d δ=some δ2) (h2:fb δ2 S=some (.nx δ',S')):bE h fb (d::ds) δ S=bE h fb ds δ' S':=by
 show (h d δ).bind _=_;rw [h1];show (match fb δ2 S with | some (.nx δ',S')=>_ | some (.ct δ',S')=>_ | some (.bk δ',S')=>_ | some (.rt d,S')=>_ | some (.xc c,S')=>_ | none=>_)=_;rw [h2]
theorem wW {ix:List (Option Nat)} {fi:DS->ai->SM (List W)} {h:W->DS->Option DS} {c:DS->ai->SM Bool} {fe:DS->ai->SM W} {δ:DS} {S S0 S1:ai} {ds es:List W} (h1:fi δ S=some (.ok ds,S0)) (h2:ds.length<=sizeLine) (h3:b4 h c fe (bf ix δ) ds S0=some (.ok es,S1)):sN ix fi h c fe δ S=some (.ok (.list es),S1):=by
 unfold sN;rw [h1];show (if ds.length<=sizeLine then _ else _)=_;rw [if_pos h2,h3];rfl
theorem zH {j:Int} (h1:0<=j) (h2:j<1000000):uQ [.int j]=some (gi 0 j.toNat):=by
 show vQ j=_;unfold vQ;rw [if_pos (yU (by omega) (by omega))]
theorem bQ (i:Int) {j:Int} (h:0<j):0<=i.fmod j/\i.fmod j<j:=⟨Int.fmod_nonneg_of_pos i h,Int.fmod_lt_of_pos i h⟩
mutual
noncomputable def oF:W->Bool
 | .none | .bool _ | .int _=>true
 | .str x=>PyData.strOk x
 | .list ds | .tuple ds=>jP ds
 | .ref _=>false
noncomputable def jP:List W->Bool
 | []=>true
 | d::ds=>oF d&&jP ds
end
mutual
noncomputable def iH:W->Nat
 | .list ds | .tuple ds=>gH ds+1
 | _=>0
noncomputable def gH:List W->Nat
 | []=>0
 | d::ds=>max (iH d) (gH ds)
end
mutual
theorem xv:∀ (d:W),oF d=true->∃ a,d.py=some a/\a.canLay0=true/\a.depth=iH d/\PyData.eqv a a=true
 | .none,_=>⟨.none,rfl,by simp [PyData.canLay0],by simp [PyData.depth,iH],by simp [PyData.eqv]⟩
 | .bool b,_=>⟨.bool b,rfl,by simp [PyData.canLay0],by simp [PyData.depth,iH],by simp [PyData.eqv]⟩
 | .int i,_=>⟨.int i,rfl,by simp [PyData.canLay0],by simp [PyData.depth,iH],by simp [PyData.eqv]⟩
 | .str x,h=>⟨.str x,rfl,by simpa [PyData.canLay0,oF] using h,by simp [PyData.depth,iH],by simp [PyData.eqv]⟩
 | .list ds,h=>by
  obtain ⟨xs,e1,e2,e3,e4⟩:=jM ds (by simpa [oF] using h);exact ⟨.list xs,by simp [W.py,e1],by simpa [PyData.canLay0] using e2,by simp [PyData.depth,iH,e3],by simpa [PyData.eqv] using e4⟩
 | .tuple ds,h=>by
  obtain ⟨xs,e1,e2,e3,e4⟩:=jM ds (by simpa [oF] using h);exact ⟨.tuple xs,by simp [W.py,e1],by simpa [PyData.canLay0] using e2,by simp [PyData.depth,iH,e3],by simpa [PyData.eqv] using e4⟩
 | .ref _,h=>by simp [oF] at h
theorem jM:∀ (ds:List W),jP ds=true->∃ xs,W.pys ds=some xs/\PyData.canLayAll0 xs=true/\PyData.depthAll xs=gH ds/\PyData.eqvAll xs xs=true
 | [],_=>⟨[],rfl,by simp [PyData.canLayAll0],by simp [PyData.depthAll,gH],by simp [PyData.eqvAll]⟩
 | d::ds,h=>by
  have h':oF d=true/\jP ds=true:=by simpa [jP] using h
  obtain ⟨a,a1,a2,a3,a4⟩:=xv d h'.1;obtain ⟨xs,e1,e2,e3,e4⟩:=jM ds h'.2;exact ⟨a::xs,by simp [W.pys,a1,e1],by simp [PyData.canLayAll0,a2,e2],by simp [PyData.depthAll,gH,a3,e3],by simp [PyData.eqvAll,a4,e4]⟩
end
theorem xX {d:W} (h:oF d=true) (b:Bool) (e:Jd d d=some b):b=true:=by
 cases d with
 | none=>exact (Option.some.inj e).symm
 | int i=>exact (Option.some.inj e).symm.trans (by simp)
 | bool i=>exact (Option.some.inj e).symm.trans (by simp)
 | str i=>exact (Option.some.inj e).symm.trans (by simp)
 | _=>cases e
mutual
theorem qe (S:ai):∀ (n:Nat) (d:W),oF d=true->iH d<n->mV S n d=d.py
 | 0,d,_,h=>absurd h (Nat.not_lt_zero _)
 | n+1,.none,_,_=>rfl
 | n+1,.bool b,_,_=>rfl
 | n+1,.int i,_,_=>rfl
 | n+1,.str x,_,_=>rfl
 | n+1,.list ds,h,hd=>by
  show (kI (mV S n) ds).map PyData.list=(W.pys ds).map .list;rw [jJ S n ds (by simpa [oF] using h) (by simp [iH] at hd;omega)]
 | n+1,.tuple ds,h,hd=>by
  show (kI (mV S n) ds).map PyData.tuple=(W.pys ds).map .tuple;rw [jJ S n ds (by simpa [oF] using h) (by simp [iH] at hd;omega)]
 | n+1,.ref m,h,_=>by simp [oF] at h
theorem jJ (S:ai):∀ (n:Nat) (ds:List W),jP ds=true->gH ds<n->kI (mV S n) ds=W.pys ds
 | n,[],_,_=>rfl
 | n,d::ds,h,hd=>by
  have h':oF d=true/\jP ds=true:=by simpa [jP] using h
  simp only [gH] at hd;show (mV S n d).bind _=(W.py d).bind _;rw [qe S n d h'.1 (by omega),jJ S n ds h'.2 (by omega)]
end
theorem A2 {S:ai} {l:Nat} {ds:List W} (neg:Bool) (h:S[l]?=some (.lst ds)) (hk:jP ds=true) (hd:gH ds<23):kQ neg (.ref l) (.list ds) S=some (!neg):=by
 obtain ⟨xs,e1,e2,e3,e4⟩:=jM ds hk;have p1:mV S 24 (.ref l)=some (.list xs):=by
  show (dG S l).bind _=_;rw [show dG S l=some ds by simp [dG,h]];show (kI (mV S 23) ds).map PyData.list=_;rw [jJ S 23 ds hk hd,e1];rfl
 have p2:mV S 24 (.list ds)=some (.list xs):=by
  rw [qe S 24 (.list ds) (by simpa [oF] using hk) (by simp [iH];omega)];simp [W.py,e1]
 unfold kQ;show (mV S 24 (.ref l)).bind _=_;rw [p1,p2];cases neg <;> simp [PyData.canLay0,e2,PyData.depth,e3,PyData.eqv,e4] <;> omega
theorem zA {S:ai} {d:W} (neg:Bool) (h:oF d=true) (hd:iH d<24):kQ neg d d S=some (!neg):=by
 obtain ⟨a,a1,a2,a3,a4⟩:=xv d h;unfold kQ;split
 . rename_i b e;rw [xX h b e];cases neg <;> rfl
 . rw [qe S 24 d h hd,a1];cases neg <;> simp [a2,a3,a4] <;> omega
theorem wL {α:Type} (l:List α) (k:Nat) (h:k<l.length):jf l (k:Int)=l[k]?:=by
 unfold jf B5;rw [if_pos (by omega),if_pos (by omega)];simp
theorem K7 {α:Type} (a b c:α) (r:List α):jf (a::b::c::r) 2=some c:=(wL _ 2 (by simp)).trans rfl
theorem Mf {α:Type} (a b c d:α) (r:List α):jf (a::b::c::d::r) 3=some d:=(wL _ 3 (by simp)).trans rfl
theorem KI {α:Type} (a b c d e:α) (r:List α):jf (a::b::c::d::e::r) 4=some e:=(wL _ 4 (by simp)).trans rfl
theorem Mb {α:Type} (l:List α) (k:Nat) (h0:0<k) (h:k<=l.length):jf l (-(k:Int))=l[l.length-k]?:=by
 unfold jf B5;rw [if_neg (by omega),if_pos (by omega)];have e2:(-(k:Int)+(l.length:Int)).toNat=l.length-k:=by omega
 simp [e2]
theorem aZ {f:DS->ai->SM W} {δ:DS} {S S1:ai} {d:W} (h:f δ S=some (.ok d,S1)):bd f δ S=some (.nx δ,S1):=by unfold bd;rw [h];rfl
theorem cV {f:List W->ai->SM W} {fa:DS->ai->SM (List W)} {δ:DS} {S S1 S2:ai} {ds:List W} {d:W} (h1:fa δ S=some (.ok ds,S1)) (h2:f ds S1=some (.ok d,S2)):cJ f fa δ S=some (.ok d,S2):=by
 unfold cJ;rw [h1];show noX (f ds S1)=_;rw [h2];rfl
theorem aq {α:Type} {f:DS->Option α} {δ:DS} {S:ai} {d:α} (h:f δ=some d):aa f δ S=some (.ok d,S):=by unfold aa;rw [h];rfl
theorem aH {f:DS->Option fA} {δ δ':DS} {S:ai} (h:f δ=some (.nx δ')):ax f δ S=some (.nx δ',S):=by unfold ax;rw [h];rfl
theorem ik {f:DS->Option fA} {δ:DS} {S:ai} {d:W} (h:f δ=some (.rt d)):ax f δ S=some (.rt d,S):=by unfold ax;rw [h];rfl
theorem fg {f g:DS->ai->SO} {δ:DS} {S S':ai} {d:W} (h:f δ S=some (.rt d,S')):av f g δ S=some (.rt d,S'):=by unfold av;rw [h]
theorem eg {f:DS->ai->SM W} {δ:DS} {S S1:ai} {d:W} (h:f δ S=some (.ok d,S1)):gf f δ S=some (.rt d,S1):=by unfold gf;rw [h];rfl
theorem lL {κ:Type} [DecidableEq κ] (kvs:List (κ×W)) (k:κ) (x:W):(cA kvs k x).length<=kvs.length+1:=by
 unfold cA;split <;> simp
theorem aU {f:DS->ai->SM W} {g:DS->ai->SM (List W)} {δ:DS} {S S1 S2:ai} {d:W} {ds:List W} (h1:f δ S=some (.ok d,S1)) (h2:g δ S1=some (.ok ds,S2)):aQ f g δ S=some (.ok (d::ds),S2):=by
 unfold aQ;rw [h1];show au (g δ S1) _=_;rw [h2];rfl
theorem jm {c:Str} {f:List W->ai->SM W} {fa:DS->ai->SM (List W)} {δ:DS} {S S1 S2:ai} {ds:List W} (h1:fa δ S=some (.ok ds,S1)) (h2:f (.ref S1.length::ds) (S1++[.ins c []])=some (.ok .none,S2)):jF c f fa δ S=some (.ok (.ref S1.length),S2):=by
 simp only [jF,h1,au,h2,noX]
theorem uC {f g:DS->ai->SM Bool} {δ:DS} {S S1:ai} (h1:f δ S=some (.ok false,S1)):oY f g δ S=some (.ok false,S1):=by simp only [oY,h1,au,Bool.false_eq_true,if_false]
theorem xQ {f g:DS->ai->SM Bool} {δ:DS} {S S1 S2:ai} {b:Bool} (h1:f δ S=some (.ok true,S1)) (h2:g δ S1=some (.ok b,S2)):oY f g δ S=some (.ok b,S2):=by simp only [oY,h1,au,if_true,h2]
theorem Bp {α:Type} (q:List α) (b:α):jf (q++[b]) (-1)=some b:=by
 have:=Mb (q++[b]) 1 (by decide) (by simp);simpa using this
theorem Ge {S:ai} {l:Nat} {es:List W} (h:S[l]?=some (.lst es)) (i:Int):vT (.ref l) (.int i) S=jf es i:=by simp only [vT,kr h,C7,Option.bind_some]
theorem vH {κ:Type} [DecidableEq κ] (kvs:List (κ×W)) (k q:κ) (x:W):bC (cA kvs k x) q=if q=k then some x else bC kvs q:=by
 by_cases h:bC kvs k=none
 . rw [vR x h,yG kvs k q x h]
 . have ha:(kvs.any λ kv=>decide (kv.1=k))=true:=by
    cases e:kvs.any λ kv=>decide (kv.1=k) with
    | true=>rfl
    | false=>
     exact absurd (by
      unfold bC;rw [List.find?_eq_none.mpr λ z hz=>by simpa using List.any_eq_false.mp e z hz];rfl) h
   unfold cA;rw [if_pos ha];clear ha;induction kvs with
   | nil=>simp [bC] at h
   | cons p r ih=>
    obtain ⟨j,y⟩:=p;by_cases hj:j=k
    . subst hj;by_cases hq:q=j
      . subst hq;simp [bC,List.find?_cons]
      . have hq':¬ j=q:=λ z=>hq z.symm;rw [if_neg hq];clear ih h;simp only [bC,List.map_cons,if_true,List.find?_cons,hq',decide_false];induction r with
        | nil=>rfl
        | cons p r ih=>
         obtain ⟨i,z⟩:=p;by_cases hi:i=j
         . subst hi;simpa [List.find?_cons,hq'] using ih
         . by_cases hiq:i=q
           . subst hiq;simp [List.find?_cons,hi]
           . simpa [List.find?_cons,hi,hiq] using ih
    . have h':¬ bC r k=none:=by simpa [bC,List.find?_cons,hj] using h
      have ih':=ih h';by_cases hjq:j=q
      . subst hjq;simp [bC,List.find?_cons,hj]
      . simpa [bC,List.find?_cons,hj,hjq] using ih'
noncomputable def uD:=And.intro @eu.eq_1 <| And.intro @By.eq_1 <| And.intro @By.eq_2 <| And.intro @By.eq_3 <| And.intro @ff.eq_1 <| And.intro @aI.eq_1 <| And.intro @aM.eq_1 <| And.intro @eV.eq_1 <| And.intro @bw.eq_1 <| And.intro @o6.eq_1 <| And.intro @aW.eq_1 <| And.intro @gK.eq_1 <| And.intro @ir.eq_1 <| And.intro @frz.eq_1 <| And.intro @mz.eq_1 <| And.intro @aV.eq_1 <| And.intro @Fu.eq_1 <| And.intro @ny.eq_1 <| And.intro @ag.eq_1 <| And.intro @ay.eq_1 <| And.intro @dC.eq_1 <| And.intro @aA.eq_1 <| And.intro @aC.eq_1 <| And.intro @dB.eq_1 <| And.intro @oR.eq_1 <| And.intro @wA.eq_1 <| And.intro @HA.eq_1 <| And.intro @GL.eq_1 <| And.intro @JM.eq_1 <| And.intro @jg.eq_1 <| And.intro @zC.eq_1 <| And.intro @bU.eq_1 <| And.intro @ae.eq_1 <| And.intro @ak.eq_1 <| And.intro @bx.eq_1 <| And.intro @eU.eq_1 <| And.intro @gC.eq_1 <| And.intro @vh.eq_1 <| And.intro @fB.eq_1 <| And.intro @cK.eq_1 <| And.intro @aj.eq_1 <| And.intro @mi.eq_1 <| And.intro @mi.eq_2 <| And.intro @d8.eq_1 <| And.intro @d8.eq_2 <| And.intro @mf.eq_1 <| And.intro @mf.eq_2 <| And.intro @Jx.eq_1 <| And.intro @HE.eq_1 <| And.intro @Bo.eq_1 <| And.intro @FV.eq_1 <| And.intro @xw.eq_1 <| And.intro @kM.eq_1 <| And.intro @Hs.eq_1 <| And.intro @bf.eq_1 <| And.intro @oK.eq_1 <| And.intro @oK.eq_2 <| And.intro @lB.eq_1 <| And.intro @FH.eq_1 <| And.intro @JX.eq_1 <| And.intro @Ev <| And.intro @bZ <| And.intro @lF <| And.intro @gG <| And.intro @bK <| And.intro @Ej <| And.intro @x5 <| And.intro @C7 <| And.intro @zP <| And.intro @Dx <| And.intro @Eh <| And.intro @yp <| And.intro @Du <| And.intro @BJ <| And.intro @pG <| And.intro @Gz <| And.intro @GI <| And.intro @FZ <| And.intro @GX <| And.intro @Hd <| And.intro @Ib <| And.intro @GH <| And.intro @HL <| And.intro @Cr <| And.intro @zQ <| And.intro @AA <| And.intro @BC <| And.intro @AU <| And.intro @Al <| And.intro @Fv <| And.intro @En <| And.intro @D5 <| And.intro @CD <| And.intro @CB <| And.intro @AB <| And.intro @xC <| And.intro @Aw <| And.intro @ER <| And.intro @Dk <| And.intro @List.length_cons.{0} <| And.intro @List.length_nil.{0} <| And.intro @List.map_cons.{0,0} <| And.intro @List.map_nil.{0,0} <| And.intro @List.nil_append.{0} <| And.intro @List.cons_append.{0} <| And.intro @List.getElem?_cons_zero.{0} <| And.intro @List.getElem?_cons_succ.{0} <| And.intro @List.set_cons_zero.{0} <| And.intro @List.set_cons_succ.{0} <| And.intro @Option.bind_some.{0,0} <| And.intro @Option.map_some.{0,0} <| And.intro @Option.bind_none.{0,0} <| And.intro @Option.map_none.{0,0} <| And.intro @Option.getD_some.{0} <| And.intro @Option.getD_none.{0} <| And.intro @if_true.{1} <| And.intro @decide_true <| And.intro @decide_false <| And.intro @Bool.not_true <| And.intro @Bool.not_false <| And.intro @Bool.false_eq_true <| And.intro @ne_eq.{1} <| @not_false_eq_true
section
variable {X:Cx}
end
section
variable {K:Frag} {cl:Str->Addr} {E:XK}
end
section
variable {prog:Program} {w:World} {A:Around} {E:Value->Shared->Prop} {s:Shared}
variable {es:Array DictEntry} {ep:Nat} {key:Value} {h:Int} {m:Nat->Bool} {d:Addr} {o:Obj}
end
section
variable {P:Program} {w:World} {A:Around} {E:Value->Shared->Prop} {s:Shared}
noncomputable def nR (P:Program) (w:World) (h:Heap) (ks:List bh) (v:Value):Prop:=(ks=[]/\v=.none)∨(ks≠[]/\∃ b,v=.ref b/\(tupleKind (aS P w)).is h ks b)
noncomputable def nD (ks:List bh):Nat:=ks.length+1
noncomputable def Dn (P:Program) (w:World) (h:Heap) (d:Addr) (xs:List (List bh×Value×Value)):Prop:=
 ∃ o es ep,h.get? d=some o/\o.ExactDict/\o.data=.dict es ep/\es.toList=xs.map (nE P w)/\(∀ x∈xs,nR P w h x.1 x.2.1)/\(xs.map (·.1)).Nodup
end
section
variable {P:Program} {w:World} {H:Hp} {h:Heap} {a:Addr}
end
section
variable {X:Cx} {pins:List (Addr×Obj)} {σ:St} {H:Hp} {s:Shared} {a:Addr} {kvs:List (List bh×V)} {ks:List bh} {y z:V} {u dv:Value} {A:Around} {E:Value->Shared->Prop}
end
section
variable {X:Cx} {o e f:Expr} {td ty tx:TE} {apos cpos pos:Pos}
end
section
variable {K:Frag} {cl:Str->Addr} {E:XK}
noncomputable def BR (K:Frag) (t:TE):TT:=λ σ H Q=>t σ H λ x H'=>∃ k,EZ K x H' k/\Q k H'
theorem Jg {X:Cx} {a:Expr} {ta:TE} (hK:X.K=K) (ha:PE X a ta) (he:∀ whole,isTrue a X.env whole=(do let v <-whole;standAt a.pos;holding [v] (truthy v))):PT X a (BR K ta):=hK▸zh ha he
noncomputable def mB (f:DS->ai->SM W):DS->ai->SM Bool:=λ δ S=>au (f δ S) λ x S1=>kz ((iV x S1).map λ p=>!p.2.isEmpty) S1
theorem A9 {t:TE} {f:DS->ai->SM W} (h:SE K cl E t f):ST K cl E (BR K t) (mB f):=λ ρ G σ H δ S r S' Q R e q qx=>
 di h R e (λ x S1 e1 v ρ1 G1 H1 g1 s1 dv=>by
  obtain ⟨b,e2,rfl,rfl⟩:=bV e1;obtain ⟨⟨n,ds⟩,e3,rfl⟩:=oM e2
  obtain ⟨rfl,e4⟩:=eR e3;obtain ⟨a,rfl,ea⟩:=cE dv;obtain ⟨ga,vs,k1,k2⟩:=s1.addr e4 ea;have hl:vs.isEmpty=ds.isEmpty:=by
   have:=k2.length;cases vs <;> cases ds <;> simp_all
  exact ⟨!ds.isEmpty,.inl ⟨vs,dM.of k1,by rw [hl]⟩,q _ rfl ρ1 G1 H1 g1 s1⟩) qx
end
section
variable {P:Program} {w:World} {A:Around} {E:Value->Shared->Prop} {s:Shared} {d:Addr} {o:Obj} {es:Array DictEntry} {ep:Nat}
end
section
variable {K:Frag} {cl:Str->Addr} {E:XK}
end
section
variable {X:Cx} {K:Frag}
end
section
variable {K:Frag} {ρ:List Addr}
noncomputable def LL:W->Option Str
 | .str z=>some z
 | _=>none
noncomputable def sf:W->W->Option W
 | .str z,.int n=>if (decide (0<=n)&&decide (n<=1000)&&decide (z.length<=1000))=true then some (.str (Txt.mul z n)) else none
 | _,_=>none
theorem zJ:DR K ρ BU sf:=λ G H x y d e c Q s hx hy hg q=>by
 unfold sf at hg;split at hg
 . rename_i z n;split at hg
   . rename_i hc;cases hg;simp only [Bool.and_eq_true,decide_eq_true_eq] at hc;cases qf hx;cases fG hy;exact ⟨z,n,rfl,rfl,hc.1.1,hc.1.2,hc.2,q _ G H (.refl s) (.str _)⟩
   . cases hg
 . cases hg
end
section
variable {K:Frag} {ρ:List Addr}
end
section
variable {X:Cx} {K:Frag}
end
section
variable {K:Frag} {cl:Str->Addr} {E:XK}
end
noncomputable def Hk (K:Frag) (mg:Str->Option Value) (x:Str) (ps:List Str) (us:List Value) (f:Addr) (fd:FuncData):Prop:=mg x=some (.ref f)/\PySem.W.keepIn K (.ref f)=true/\aP K fd ps []/\aP K fd ps us
noncomputable def Ce (R:Addr->FuncData->Prop) (P:Program) (w:World) (K:Frag) (mg:Str->Option Value) (base:Heap) (k:Nat) (ps:List Str) (sp:Sp):Prop:=∃ f fd,R f fd/\et P w K mg base uz k f fd ps sp
noncomputable def jK (R:Addr->FuncData->Prop) (K:Frag) (x q:Str) (st:Stmt):Prop:=∃ f fd,sC K x q st f fd/\R f fd
noncomputable abbrev sv (K:Frag) (mg:Str->Option Value) (x:Str) (ps:List Str) (us:List Value) (st:Stmt):Prop:=jK (Hk K mg x ps us) K x x st
noncomputable abbrev rJ (P:Program) (w:World) (K:Frag) (mg:Str->Option Value) (base:Heap) (x:Str) (ps:List Str) (us:List Value) (k:Nat) (sp:Sp):Prop:=Ce (Hk K mg x ps us) P w K mg base k ps sp
section
variable {X:Cx} {x:Str} {o e:Expr} {es:List Expr} {t:TA} {ps:List Str} {us:List Value} {sp:Sp} {p pos:Pos} {K:Frag} {T:String} {name:Str} {r:V->List V->Hp->VK->Prop} {q:List V->Hp->VK->Prop} {to:TE} {apos:Pos}
noncomputable def Lb (X:Cx) (x:Str) (us:List Value) (sp:Sp):Prop:=∃ j k ps,Ce (Hk X.K X.mg x ps us) X.prog X.w X.K X.mg X.base j ps sp/\cq k X.A/\j<=k
theorem Ky (h:∃ us,Lb X x us sp) (hg:Gl X x) (ha:PA X (e::es) t) (hd:(x==("__debug__" : Str))=false)
 (he:starEach (e::es) X.env=(false,eval e X.env)::starEach es X.env) (hp:(backTo pos (starEach es X.env)).any (·.1)=false):PE X (.Call (.Name x p) (e::es) [] pos) (se sp [] E0 t):=by
 obtain ⟨us,j,k,ps,⟨f,fd,⟨m,kp,b,_⟩,F⟩,hr,hl⟩:=h;exact Am (F.mono hl) hr hg m kp b .nil Hh ha hd he hp
noncomputable def QM (X:Cx) (T:String) (name:Str) (r:V->List V->Hp->VK->Prop):Prop:=∃ id,PlainAttrs T/\Slot T name id/\typeOf (.builtin id)=pure (.type "method_descriptor")/\Hi X id r
noncomputable def QB (X:Cx) (x:Str) (q:List V->Hp->VK->Prop):Prop:=∃ id,fz X (.builtin id) q/\bootBuiltins x=some (.builtin id)
theorem Lh:QM X "list" "append" mS:=⟨_,PySem.F.plainAttrs_list,PySem.F.slot_list_append,PySem.F.type_list_append,ww⟩
theorem KO:QM X "list" "pop" Dl:=⟨_,PySem.F.plainAttrs_list,PySem.F.slot_list_pop,PySem.F.type_list_pop,Ex⟩
theorem Ln (h:X.K=K):QB X "len" (vp K):=⟨_,wa h,PySem.boot_len⟩
theorem Ld:QB X "isinstance" Fg:=⟨_,wR,boot_isinstance⟩
theorem KP (h:X.K=K) (hm:QM X T name r) (ho:PE X o to) (hb:attributeBase o name X.env (eval o X.env)=eval o X.env) (hl:(apos.endLine==pos.line)=true):PE X (.Call (.Attribute o name apos) [] [] pos) (zT K T r to):=by
 obtain ⟨_,a,b,c,d⟩:=hm;exact Ab h a b c d ho hb hl
theorem K1 (h:X.K=K) (hm:QM X T name r) (ho:PE X o to) (ha:PA X (e::es) t) (hb:attributeBase o name X.env (eval o X.env)=eval o X.env)
 (hf:((backTo pos (starEach (e::es) X.env)).all (λ x=>!x.1)&&(backToKw pos (keywordEach [] X.env)).all (λ x=>x.1.isSome)
  && decide ((e::es).length+([]:List Keyword).length+(if ([]:List Keyword).isEmpty then 0 else 1)<30))=true)
 (hl:(apos.endLine==pos.line)=true) (hs:starEach (e::es) X.env=(false,eval e X.env)::starEach es X.env) (hp:(backTo pos (starEach es X.env)).any (·.1)=false):
 PE X (.Call (.Attribute o name apos) (e::es) [] pos) (GN K T r to t):=by
 obtain ⟨_,a,b,c,d⟩:=hm;exact Fi h a b c d ho ha hb hf hl hs hp
theorem K3 (hq:QB X x q) (hg:Gl X x) (hm:X.mg x=none) (ha:PA X (e::es) t) (hn:x ≠ "__name__") (hd:(x==("__debug__" : Str))=false)
 (he:starEach (e::es) X.env=(false,eval e X.env)::starEach es X.env) (hp:(backTo pos (starEach es X.env)).any (·.1)=false):PE X (.Call (.Name x p) (e::es) [] pos) (zj q t):=by
 obtain ⟨_,a,b⟩:=hq;exact xf a hg hm b ha hn hd he hp
theorem KU (h:X.K=K) (hg:Gl X "list") (hm:X.mg "list" = none) (ha:PA X (e::es) t)
 (he:starEach (e::es) X.env=(false,eval e X.env)::starEach es X.env) (hp:(backTo pos (starEach es X.env)).any (·.1)=false):PE X (.Call (.Name "list" p) (e::es) [] pos) (zj (qc K) t):=pJ (oZ h) hg hm boot_list ha (by decide) (by decide) he hp
end
section
variable {X:Cx} {x:Str} {us:List Value} {sp:Sp} {j k:Nat} {ps:List Str} {pos:Pos}
theorem J8 (h:Ce (Hk X.K X.mg x ps us) X.prog X.w X.K X.mg X.base j ps sp) (hr:cq k X.A) (hl:j<=k):∃ us,Lb X x us sp:=⟨us,j,k,ps,h,hr,hl⟩
theorem LX (hg:Gl X "int") (hm:X.mg "int" = none):PE X (.Name "int" pos) (tC (.ty "int")):=vA hg hm (by decide +kernel:bootBuiltins "int" = some (.type "int")) rfl (by decide) (by decide)
theorem LO (hg:Gl X "bool") (hm:X.mg "bool" = none):PE X (.Name "bool" pos) (tC (.ty "bool")):=vA hg hm boot_bool' rfl (by decide) (by decide)
theorem Gi {a b c:Prop} (h:b):a∨b∨c:=.inr (.inl h)
end
noncomputable def cN (N:List Str):List (Option Nat)->List Str->List Str
 | some i::r,u=>N.getD i "" :: cN N r u
 | _,u=>u
section
variable {X:Cx} {scope:Scope} {ix:List (Option Nat)} {z:Str} {zp:Pos} {iter elt:Expr} {ifs:List Expr} {wi:TI} {g:TG} {tc:TT} {te:TE} {pos py spos:Pos} {y:Str} {i:Nat}
theorem BQ {N:List Str} (kind:scope.kind=.function) (nocell:(scope.names.all λ y=>y.2 != .cell)=true) (locs:(scope.names.all λ y=>y.2 != .local||scope.names.lookup y.1==some .local)=true)
 (free:(scope.names.all λ y=>y.2 != .free||X.env.kindOf y.1==some .cell||X.env.kindOf y.1==some .free)=true) (len:ix.length=N.length) (nd:decide N.Nodup=true)
 (fr:((ix.zip N).all λ p=>match p.1 with
  | none=>true
  | some i=>X.N[i]?==some p.2&&(X.env.kindOf p.2==some .cell||X.env.kindOf p.2==some .free)&&((relabel scope X.env).names.lookup p.2==some .cell||(relabel scope X.env).names.lookup p.2==some .free))=true):bG X scope N ix:=uA kind nocell locs free len (of_decide_eq_true nd) fr
noncomputable abbrev KN (X:Cx) (scope:Scope) (ix:List (Option Nat)) (z:Str) (zp:Pos) (elt:Expr) (ifs:List Expr) (g:TG) (tc:TT) (te:TE):Prop:=∀ (s₀:Shared) (H₀:Hp) (C:Addr) (ex:List Addr),(cN X.N ix [z]).Nodup->PG (bJ X scope (cN X.N ix [z]) s₀ H₀ C ex) (.Name z zp) g/\uk (bJ X scope (cN X.N ix [z]) s₀ H₀ C ex) ifs tc/\PE (bJ X scope (cN X.N ix [z]) s₀ H₀ C ex) elt te
theorem HD (S:bG X scope (cN X.N ix [z]) ix) (hn:decide (cN X.N ix [z]).Nodup=true) (hc:X.calm=true) (hi:PI X (.Name z zp) iter wi) (hG:nG ix g) (hb:KN X scope ix z zp elt ifs g tc te)
 (hs:∀ x,foldedSetIterable iter X.env x=pure x):PE X (.ListComp elt [⟨.Name z zp,iter,ifs,0⟩] scope pos) (lV ix wi g tc te):=B9 S hc hi hG (λ a b c d=>hb a b c d (of_decide_eq_true hn)) hs
theorem zf (hN:X.N.Nodup) (hi:X.N[i]?=some y) (hy:C8 X.env.scope y) (S:bG X scope (cN X.N ix [z]) ix) (hn:decide (cN X.N ix [z]).Nodup=true) (hc:X.calm=true) (hit:PI X (.Name z zp) iter wi) (hG:nG ix g) (hb:KN X scope ix z zp elt ifs g tc te)
 (hsw:swapsWith (.ListComp elt [⟨.Name z zp,iter,ifs,0⟩] scope pos) (some (.Name y py)) spos.line X.env=pure true) (hs:∀ x,foldedSetIterable iter X.env x=pure x) (hf:X.fn y=true∨X.env.scope.names.lookup y=some .local):
 PS X (.Assign [.Name y py] (.ListComp elt [⟨.Name z zp,iter,ifs,0⟩] scope pos) spos) (tY (lV ix wi g tc te) (me i)):=Ah hN hi hy S hc hit hG (λ a b c d=>hb a b c d (of_decide_eq_true hn)) hsw hs hf
end
noncomputable abbrev Kw (P:Program) (w:World) (K:Frag) (mg:Str->Option Value) (base:Heap) (N:List Str) (q:Str) (st:Stmt) (k:Nat) (t:TS):Prop:=∀ (f:Addr) (cd:Value) (A:Around) (outer:List Env) (s:Shared) (H:Hp) (E:XK),N.Nodup->cq k (A.deeper (envOfC q (aw st) s.heap.objs.size f cd))->(A.deeper (envOfC q (aw st) s.heap.objs.size f cd)).units+64<cLine->(A.deeper (envOfC q (aw st) s.heap.objs.size f cd)).units+1<cLine->
 mU (gN uz P w K mg base N q (aw st) f cd A outer s H E).nox (aN st) t
section
variable {P:Program} {w:World} {K:Frag} {mg:Str->Option Value} {base:Heap} {cl:Str->Addr} {R:Addr->FuncData->Prop} {x q:Str} {st:Stmt} {N ps:List Str} {a n k:Nat} {t:TS} {sp:Sp}
theorem Ic (D:jK R K x q st) (S:dR N ps (aw st)) (hl:∀ vs H Q E,sp vs H Q E->vs.length=ps.length) (rd:∀ vs H Q E,sp vs H Q E->t ({ nx:=λ _ H'=>Q V.non H',rt:=Q }:jb) (start N vs) H)
 (pe:Kw P w K mg base N q st k t):Ce R P w K mg base (k+1) ps sp:=by
 obtain ⟨f,fd,F,r⟩:=D;exact ⟨f,fd,r,F.ok S hl λ cd A outer s H vs Q E hr h=>⟨t,pe f cd A outer s H E S.nd hr hr.units hr.units1,rd vs H Q E h⟩⟩
theorem mC {fb:DS->Option fA} {g:List W->Option W} (D:jK R K x q st) (hg:g=eu a n fb) (de:∀ ρ,nZ K ρ t fb)
 (pe:Kw P w K mg base N q st k t) (hN:N.length=n) (ha:ps.length=a) (S:dR N ps (aw st)):Ce R P w K mg base (k+1) ps (sZ K g):=by
 subst hg ha;exact Ic D S (λ vs H Q E h=>Bc (λ ds d e=>pf e) h) (λ vs H Q E h=>Ks hN de h) pe
theorem gw {fb:DS->ai->SO} {g:List W->ai->SM W} (D:jK R K x q st) (hg:g=bc a n fb) (de:kX K cl E0 t fb)
 (pe:Kw P w K mg base N q st k t) (hN:N.length=n) (ha:ps.length=a) (S:dR N ps (aw st)):Ce R P w K mg base (k+1) ps (jd K cl g):=by
 subst hg ha;exact Ic D S (λ vs H Q E h=>uK (λ ds S r e=>jI e) h) (λ vs H Q E h=>Cz hN de h) pe
theorem Ce.imp {sq:Sp} (h:Ce R P w K mg base k ps sp) (i:∀ vs H Q E,sq vs H Q E->sp vs H Q E):Ce R P w K mg base k ps sq:=by
 obtain ⟨f,fd,r,F⟩:=h;exact ⟨f,fd,r,F.imp i⟩
theorem y9 {F:Nat->Sp} (h0:Ce R P w K mg base (k+0) ps (F 0)) (hs:∀ n,Ce R P w K mg base (k+n) ps (F n)->Ce R P w K mg base (k+n+1) ps (F (n+1))):∀ n,Ce R P w K mg base (k+n) ps (F n)
 | 0=>h0
 | n+1=>hs n (y9 h0 hs n)
noncomputable def An (K:Frag) (x:Str) (st:Stmt) (dV:Value):Prop:=∃ (f:Addr) (oc:Value) (od:Option Addr) (kV dc pm:Value) (an:Option Addr) (cd ct:Value) (sl:Array (Option Value)),
 PySem.W.nsIn K mainGlobals x=some (some (.ref f))/\K.lookup f=some ⟨oc,od,.func (PySem.W.fnOf x x (aT st) (aN st) (aw st) dV kV dc pm an cd ct),sl⟩/\PySem.W.codeIn K cd x=true/\PySem.W.keepIn K (.ref f)=true
theorem An.dn {h:Heap} (X:K.In h) (G:h.Ns mainGlobals mg) (z:An K x st .none) (hb:∀ (kV dc pm:Value) (an:Option Addr) (cd ct:Value) (us:List Value),us.length=ps.length->bindArgs (PySem.W.fnOf x x (aT st) (aN st) (aw st) .none kV dc pm an cd ct) ⟨us,[]⟩=pure (ps.zip us)):
 jK (Hk K mg x ps []) K x x st:=by
 obtain ⟨f,oc,od,kV,dc,pm,an,cd,ct,sl,m,l,c,kp⟩:=z;have b:aP K _ ps []:=(bH l c kp).binds hb;exact ⟨f,_,bi l c kp,PySem.W.mg_of X G m,kp,b,b⟩
end
section
variable {K:Frag} {cl:Str->Addr} {E:XK}
theorem F5 {R:Addr->FuncData->Prop} {P:Program} {w:World} {mg:Str->Option Value} {base:Heap} {k:Nat} {ps:List Str} {x q:Str} {st:Stmt} {g:List W->ai->SM W} (D:jK R K x q st) (h:∀ ds S,g ds S=none):Ce R P w K mg base k ps (jd K cl g):=by
 obtain ⟨f,fd,_,r⟩:=D;exact ⟨f,fd,r,et.no0 h⟩
end
section
variable {prog:Program} {w:World} {A:Around} {E:Value->Shared->Prop} {s:Shared} {d it:Addr} {es:Array DictEntry} {ep i:Nat}
end
section
variable {K:Frag} {cl:Str->Addr} {E:XK} {ρ:List Addr}
end
section
variable {K:Frag} {cl:Str->Addr} {E:XK}
end
section
variable {X:Cx} {e:Expr} {es:List Expr} {t:TA} {p pos:Pos}
end
section
variable {X:Cx} {pos:Pos}
end
section
variable {K:Frag} {cl:Str->Addr} {E:XK}
end
section
variable {X:Cx}
end
noncomputable abbrev mroEx:List Value:=[.type "Exception", .type "BaseException", .type "object"]
noncomputable def XClE (K:Frag) (C:Addr):Prop:=PySem.W.excIn K C mroEx "Exception.__new__" = true
theorem XClE.parts {K:Frag} {C:Addr} {hh:Heap} (q:XClE K C) (X:K.In hh):∃ tl N nm qn bs hdct sn sub ab col dd k0 k1 k2 k3 k5 mN,
 hh.get? C=some (excClassObj nm qn C N bs tl hdct sn sub ab col dd k0 k1 k2 k3 k5 "Exception.__new__")/\hh.Ns N mN/\mN "__init__" = none/\OwnTail hh mroEx tl:=by
 unfold XClE PySem.W.excIn at q;split at q <;> try (cases q;done)
 split at q <;> try (cases q;done)
 rename_i dct cdat slots look0 l1 l2 D tail a0 a1 a2 a3 nid a5 hmro hslots;rw [Bool.and_eq_true,Bool.and_eq_true,Bool.and_eq_true,Bool.and_eq_true,Bool.and_eq_true] at q;obtain ⟨⟨⟨⟨⟨q1,q2⟩,q3⟩,q4⟩,q5⟩,q6⟩:=q;have z1:D=C:=by simpa using q1
 have z2:nid = "Exception.__new__" := by simpa using q2
 have z3:cdat.hasDel=false:=by simpa using q3
 have z6:PySem.W.nsIn K cdat.ns "__init__" = some none:=by simpa using q6
 have zs:slots = #[a0,a1,a2,a3,some (.builtin nid),a5]:=by
  rw [<-hslots,Array.toArray_toList]
 subst z1 z2 zs;refine ⟨tail,cdat.ns,cdat.name,cdat.qualname,cdat.bases,cdat.hasDict,cdat.slotNames,cdat.subclasses,cdat.abstract,cdat.collection,dct,a0,a1,a2,a3,a5,_,?_,.of_isNs (PySem.W.isNs_of_in X q5),PySem.W.nsMap_none_of_in X q5 z6,PySem.W.tail_of_in X q4⟩;have got:=X _ _ look0;cases cdat;simp only at hmro z3;subst hmro z3;exact got
section
variable {X:Cx} {E:XK} {C:Addr} {x:Str} {np cpos pos:Pos} {e:Expr} {es:List Expr} {t:TA}
theorem FN (hr:ub X E) (hc:X.calm=true) (hC:XClE X.K C) (hg:Gl X x) (hm:X.mg x=some (.ref C)) (ha:PA X (e::es) t)
 (he:starEach (e::es) X.env=(false,eval e X.env)::starEach es X.env) (hpl:(backTo cpos (starEach es X.env)).any (·.1)=false) (hd:(x==("__debug__" : Str))=false):
 PS X (.Raise (some (.Call (.Name x np) (e::es) [] cpos)) none pos) (xD C E t):=by
 intro pins s σ H D I h;obtain ⟨tl,N,nm,q,bs,hdct,sn,sub,ab,col,dd,k0,k1,k2,k3,k5,mN,hCo,hNs,hni,T0⟩:=hC.parts I.mod.kin;refine wpAny_Raise_call_subT (C:=C) (nm:=nm) (q:=q) (N:=N) (bs:=bs) (bm:=tl) (hdct:=hdct) (sn:=sn) (sub:=sub) (ab:=ab) (col:=col) (dd:=dd) (k0:=k0) (k1:=k1) (k2:=k2) (k3:=k3) (k5:=k5) F.excBase_Exception (mN:=mN)
  (T0.hasType F.excBase_Exception.hasBase) (I.ok.hd hc) (by rw [he];show (false||(backTo cpos (starEach es X.env)).any (·.1))=false;rw [hpl];rfl) hni (hU I hg hm ⟨rfl,?_⟩ hd)
 rw [he];refine Calls.evalArgs_plain ?_;have h1:=ha cpos pins s σ H _ I h;rw [he] at h1;refine cc h1 λ us s2 hy0=>?_;obtain ⟨vs,H2,I2,rv,hz,hE⟩:=hy0;refine ⟨rfl,by rw [<-rv.length];exact hz,I2.bk _ _ hCo,hNs.keeps I2.bk,T0.keeps I2.bk,λ h' ee hm=>?_⟩;exact hr pins σ H2 s2 h' ee (.ref C) us I2 hm hE
end
structure iq (k:Nat) (A:Around):Prop where
 dp:A.depth+3*k+5<recursionLimit
 un:A.units+16*k+200<cLine
theorem cq.n {k:Nat} {A:Around} (r:cq k A):iq k A:=⟨r.dp,r.un⟩
theorem iq.mono {j k:Nat} {A:Around} (r:iq k A) (h:j<=k):iq j A:=⟨by have:=r.dp;omega,by have:=r.un;omega⟩
theorem iq.deeper {k:Nat} {A:Around} (r:iq (k+1) A) (env:Env):iq k (A.deeper env):=
 ⟨by have:=r.dp;show A.depth+1+3*k+5<_;omega,by have:=r.un;show A.units+3+16*k+200<_;omega⟩
structure nO (P:Program) (w:World) (K:Frag) (mg:Str->Option Value) (base:Heap) (CX:qU) (k:Nat) (f:Addr) (fd:FuncData) (ps:List Str) (sp:Sp):Prop where
 len:∀ vs H Q E,sp vs H Q E->vs.length=ps.length
 run:∀ (A:Around) (outer:List Env) (s:Shared) (H:Hp) (args:Args) (us:List Value) (vs:List V) (Q:VK) (E:XK),iq k A->rL P w K mg base A outer s H->BindsTo s fd args (ps.zip us)->bn vs us->sp vs H Q E->
  codeAny (model P w) A (.call (.ref f) args) (CR CX outer P w H s Q E) s
theorem nO.all {P:Program} {w:World} {K:Frag} {mg:Str->Option Value} {base:Heap} {CX:qU} {k:Nat} {f:Addr} {fd:FuncData} {ps:List Str} {sp:Sp} (F:nO P w K mg base CX k f fd ps sp):et P w K mg base CX k f fd ps sp:=
 ⟨F.len,λ A outer s H args us vs Q E hr=>F.run A outer s H args us vs Q E hr.n⟩
noncomputable abbrev GP (P:Program) (w:World) (K:Frag) (mg:Str->Option Value) (base:Heap) (N:List Str) (qual:Str) (scope:Scope) (f:Addr) (cd:Value) (A:Around) (outer:List Env) (s:Shared) (H:Hp) (E:XK):Cx:=
 { gN uz P w K mg base N qual scope f cd A outer s H E with calm:=false,xe:=λ _ _=>False }
theorem Er {P:Program} {w:World} {K:Frag} {mg:Str->Option Value} {base:Heap} {k:Nat} {f:Addr} {name qual:Str} {params:Arguments} {body:List Stmt} {scope:Scope} {dV kV doc pm cdv ct oc:Value} {an od:Option Addr}
 {osl:Array (Option Value)} {N ps:List Str} {sp:Sp} (lk:K.lookup f=some ⟨oc,od,.func (PySem.W.fnOf name qual params body scope dV kV doc pm an cdv ct),osl⟩) (hcd:PySem.W.codeIn K cdv qual=true) (S:dR N ps scope)
 (len:∀ vs H Q E,sp vs H Q E->vs.length=ps.length)
 (hbody:∀ (A:Around) (outer:List Env) (s:Shared) (H:Hp) (vs:List V) (Q:VK) (E:XK),iq k (A.deeper (envOfC qual scope s.heap.objs.size f cdv))->sp vs H Q E->
  ∃ t,mU (GP P w K mg base N qual scope f cdv A outer s H E) body t/\t { nx:=λ _ H'=>Q .non H',rt:=Q } (start N vs) H):
 nO P w K mg base uz (k+1) f (PySem.W.fnOf name qual params body scope dV kV doc pm an cdv ct) ps sp:=by
 refine ⟨len,λ A outer s H args us vs Q E hr e0 hb r hsp=>?_⟩;have hl:=len _ _ _ _ hsp;have KX:K.In s.heap:=e0.mod.kin.keeps λ b o e=>(e0.bs b o e).1;have lim:s.heap.NoLimit:=e0.mod.nolimit.keeps λ b o e=>(e0.bs b o e).1;have hkind:∀ y∈ps.zip us,scope.names.lookup y.1=some .local∨(scope.names.lookup y.1=some .cell/\((cellsFrom (s.heap.objs.size+1) scope.names []).lookup y.1).isSome=true):=λ ⟨n,v⟩ hy=>by
  rcases S.par n (List.of_mem_zip hy).1 with q | q
  . exact .inl q
  . exact .inr ⟨q,PySem.W.cellsFrom_some _ _ _ (.inl q)⟩
 have hdep:A.depth<recursionLimit:=by have:=hr.dp;omega
 refine codeAny_call_function hdep (KX _ _ lk) rfl S.co S.gen rfl (PySem.W.codeRec_of KX hcd) (hb _ _ _ _ ?_);refine wpAny_newFunctionEnv_cells S.kind hkind λ env he s1 x=>?_;subst he;refine ⟨lim.keeps x.toInCall.keep,codeAny_func ?_⟩;obtain ⟨t,ht,hq⟩:=hbody A outer s H vs Q E (hr.deeper _) hsp;have I0:aK (gN uz P w K mg base N qual scope f cdv { A with handled:=none } outer s H E) [] (start N vs) H s1:=pK S rfl ⟨e0.frames,e0.mod,e0.bs,e0.bsz,e0.funs,e0.frf,e0.hok,e0.bare⟩ hl r x;have I:aK (GP P w K mg base N qual scope f cdv A outer s H E) [] (start N vs) H s1:=
  ⟨⟨I0.ok.mod,I0.ok.kind,I0.ok.glob,I0.ok.blt,I0.ok.above,I0.ok.inj,I0.ok.has,I0.ok.cab,(λ h=>by cases h),I0.ok.frames,I0.ok.stk,I0.ok.exf,I0.ok.bs,I0.ok.bsz,I0.ok.noex,I0.ok.exfs,I0.ok.funs,I0.ok.frf⟩,I0.os,I0.bare,I0.base,I0.loc,I0.cell,I0.free,I0.freeC,I0.pin,I0.hok,I0.len⟩
 refine wpAny_mono (ht [] s1 (start N vs) H _ I hq) (λ fl s' hs=>?_) λ e s' hs=>hs.elim;have fin:∀ {σ':St} {H':Hp} {v:V} {u:Value},aK (GP P w K mg base N qual scope f cdv A outer s H E) [] σ' H' s'->be v u->Q v H'->CE outer P w H s Q u s':=
  λ {σ' H' v u} J rv q=>⟨v,H',J.os,J.bare,J.base,J.hok,rv,q⟩
 cases fl with
 | ret u=>
  obtain ⟨v,σ',H',J,rv,q⟩:=hs;exact fin J rv q
 | next=>
  obtain ⟨σ',H',J,q⟩:=hs;exact fin (v:=V.non) (u:=Value.none) J rfl q
 | brk=>
  obtain ⟨_,_,_,q⟩:=hs;exact False.elim q
 | cont=>
  obtain ⟨_,_,_,q⟩:=hs;exact False.elim q
section
variable {X:Cx} {CX:qU} {k:Nat} {f C:Addr} {fd:FuncData} {ps:List Str} {sp:Sp} {dvs:List V} {ds:List Value} {E:XK} {x m:Str} {p pos apos:Pos} {e o:Expr} {es:List Expr} {ta:TE} {t:TA}
theorem xo {pl:Sem Bool} (he:PE X o ta) (c:eJ X.K C) (hm:bg X.K C m f) (F:nO X.prog X.w X.K X.mg X.base uz k f fd ps sp) (hr:iq k X.A) (hb:aP X.K fd ps []) (ha:PA X (e::es) t)
 (hst:starEach (e::es) X.env=(false,eval e X.env)::starEach es X.env) (hpl:(backTo pos (starEach es X.env)).any (·.1)=false)
 (ht:eval (.Call (.Attribute o m apos) (e::es) [] pos) X.env=(do
  let ov <-eval o X.env
  standAt apos.atName
  let (f,first) <-holding [ov] (getMethod ov m pl)
  callWith pos f first (backTo pos (starEach (e::es) X.env)) (backToKw pos (keywordEach [] X.env)))):
 PE X (.Call (.Attribute o m apos) (e::es) [] pos) (nA C m sp [] E0 ta t):=by
 intro pins s σ H Q I h;refine PySem.W.methodCall_KW (pl:=pl) (cc (he pins s σ H _ I h) λ u s1 hq0=>?_) ht;obtain ⟨x,H1,I1,rx,a,dx,fs,ex,ea,l,q⟩:=hq0;subst ex;obtain rfl:u=Value.ref a:=rx;refine iC I1 ea c hm l ?_;refine PySem.W.callWith_K (first:=[.ref a]) (h₀:=X.base) I.ok.mod.kin hm.kp (cc (ha pos pins s1 σ H1 _ I1 q) λ us s2 hy0=>?_) hst hpl;obtain ⟨vs,H2,I2,r,q2⟩:=hy0;refine ⟨I2.kIn,?_⟩;have r2:bn (.ref a::(vs++[])) ((.ref a::us)++[]):=by rw [List.append_nil,List.append_nil];exact .cons rfl r
 have hl:((.ref a::us)++([]:List Value)).length=ps.length:=by rw [<-r2.length];exact F.len _ _ _ _ q2
 refine wpAny_call (codeAny_mono (F.run X.A X.stack s2 H2 ⟨.ref a::us,[]⟩ (.ref a::us++[]) _ Q E0 hr I2.env0 (hb s2 (.ref a::us) I2.kIn hl) r2 q2) λ r s' hq=>?_);cases r with
 | error e=>exact hq.elim
 | ok fl=>
  cases fl with
  | ret u=>exact I2.after hq
  | next=>exact False.elim hq
  | brk=>exact False.elim hq
  | cont=>exact False.elim hq
end
noncomputable def Cu (C:Addr) (m:Str) (sp:Sp) (C1 C2:Addr) (to:TE) (ta:TA) (t1 t2:TS):TS:=λ D σ H=>to σ H λ x H1=>∃ a dx fs,x=.ref a/\H1 a=some (.ins C dx fs)/\fs.lookup m=none/\
 ta σ H1 λ vs H2=>sp (x::(vs++[])) H2 (λ _ H3=>D.nx σ H3) (λ cls _ H3=>(cls=.ref C1/\t1 D σ H3)∨(cls=.ref C2/\t2 D σ H3))
section
variable {X:Cx} {k:Nat} {f C C1 C2:Addr} {fd:FuncData} {ps:List Str} {sp:Sp} {m n1 n2:Str} {apos cpos xpos pos p1 p2 q1 q2:Pos} {e o:Expr} {es:List Expr} {to:TE} {ta:TA} {t1 t2:TS} {b1 b2:Stmt} {l1 l2:List Stmt} {pl:Sem Bool}
structure Es (K:Frag) (C1 C2:Addr):Prop where
 a:PySem.W.exmOne K (.ref C1) (.ref C1)=some true
 b:PySem.W.exmOne K (.ref C2) (.ref C1)=some false
 c:PySem.W.exmOne K (.ref C2) (.ref C2)=some true
theorem Be (hst:X.stack=X.env::X.outer) (hfr:X.env.frame=some X.env.locals) (hx:X.xe=λ _ _=>False) (hg1:Gl X n1) (hm1:X.mg n1=some (.ref C1)) (hg2:Gl X n2) (hm2:X.mg n2=some (.ref C2)) (hE:Es X.K C1 C2)
 (ho:PE X o to) (c:eJ X.K C) (hm:bg X.K C m f) (F:et X.prog X.w X.K X.mg X.base (pP X.prog X.w) k f fd ps sp) (hr:cq k X.A) (hb:aP X.K fd ps []) (ha:PA X (e::es) ta)
 (s1:∀ ea:Addr,mU (X.suite ea) (b1::l1) t1) (s2:∀ ea:Addr,mU (X.suite ea) (b2::l2) t2)
 (hse:starEach (e::es) X.env=(false,eval e X.env)::starEach es X.env) (hpl:(backTo cpos (starEach es X.env)).any (·.1)=false)
 (ht:eval (.Call (.Attribute o m apos) (e::es) [] cpos) X.env=(do
  let ov <-eval o X.env
  standAt apos.atName
  let (f,first) <-holding [ov] (getMethod ov m pl)
  callWith cpos f first (backTo cpos (starEach (e::es) X.env)) (backToKw cpos (keywordEach [] X.env))))
 (hsw:swapsWith (.Call (.Attribute o m apos) (e::es) [] cpos) none xpos.line X.env=pure false) (hd1:(n1==("__debug__" : Str))=false) (hd2:(n2==("__debug__" : Str))=false):
 PS X (.Try [.Expr (.Call (.Attribute o m apos) (e::es) [] cpos) xpos] [.ExceptHandler (some (.Name n1 p1)) none (b1::l1) q1,.ExceptHandler (some (.Name n2 p2)) none (b2::l2) q2] [] [] pos) (Cu C m sp C1 C2 to ta t1 t2):=by
 intro pins s σ H D I h;let E1:XK:=λ cls _ H3=>(cls=.ref C1/\t1 D σ H3)∨(cls=.ref C2/\t2 D σ H3);have key:∀ Xe:Value->Shared->Prop,(∀ H2 s2 e s3,aK X pins σ H2 s2->pP X.prog X.w X.stack H2 s2 E1 e s3->Xe e s3)->
  wpAny (model X.prog X.w) X.A (execs [.Expr (.Call (.Attribute o m apos) (e::es) [] cpos) xpos] X.env) (SP X pins D) Xe s:=by
  intro Xe hXe;have any:∀ {α:Type} {t:Sem α} {Q:α->Shared->Prop} {s:Shared},wpAny (model X.prog X.w) X.A t Q X.xe s->wpAny (model X.prog X.w) X.A t Q Xe s:=λ {α t Q s} w0=>wpAny_mono w0 (λ _ _ z=>z) λ e s z=>by rw [hx] at z;exact z.elim
  refine wpAny_execs_cons (cc (Q:=λ f s1=>f=.next/\∃ H',aK X pins σ H' s1/\D.nx σ H') (wpAny_Expr_any (cc (Q:=λ _ s1=>∃ H',aK X pins σ H' s1/\D.nx σ H') ?_ λ v s1 z=>⟨rfl,z⟩) I.quiet hsw) λ f s1 q=>?_)
  . refine PySem.W.methodCall_KW (pl:=pl) (cc (any (ho pins s σ H _ I h)) λ u s1 ⟨x,H1,I1,rx,a,dx,fs,ex,ea,l,q⟩=>?_) ht;subst ex;obtain rfl:u=Value.ref a:=rx;refine iC I1 ea c hm l ?_;refine PySem.W.callWith_K (first:=[.ref a]) (h₀:=X.base) I.ok.mod.kin hm.kp (cc (any (ha cpos pins s1 σ H1 _ I1 q)) λ us s2 hy0=>?_) hse hpl;obtain ⟨vs,H2,I2,r,q2⟩:=hy0;refine ⟨I2.kIn,?_⟩;have r2:bn (.ref a::(vs++[])) ((.ref a::us)++[]):=by rw [List.append_nil,List.append_nil];exact .cons rfl r
    have hl:((.ref a::us)++([]:List Value)).length=ps.length:=by rw [<-r2.length];exact F.len _ _ _ _ q2
    refine wpAny_call (codeAny_mono (F.run X.A X.stack s2 H2 ⟨.ref a::us,[]⟩ (.ref a::us++[]) _ _ E1 hr I2.env0 (hb s2 (.ref a::us) I2.kIn hl) r2 q2) λ r s' hq=>?_);cases r with
    | error e=>exact hXe H2 s2 e s' I2 hq
    | ok fl=>
     cases fl with
     | ret u=>
      obtain ⟨v,H',I',_,z⟩:=I2.after hq;exact ⟨H',I',z⟩
     | next=>exact False.elim hq
     | brk=>exact False.elim hq
     | cont=>exact False.elim hq
  . obtain ⟨rfl,H',I',z⟩:=q;exact wpAny_execs_nil ⟨σ,H',I',z⟩
 refine wpAny_Try_except (wpAny_mono (key _ ?_) (λ f s1 q=>?_) λ e s1 q=>q)
 . intro H1 s1' e s2' I1 hq;obtain ⟨ea,cls,a0,H2,B,rfl,os,bare,fl,hokB,un,keepB,thereB,f1,q⟩:=hq;have fl0:=fl.2.2.1;have hfl:=fl;have frames:X.A.frames=some (X.env::X.outer):=by rw [<-hst];exact I.ok.frames
   have fl:Heap.FlyingW B (X.env::X.outer) ea cls a0 s2'.heap:=by rw [<-hst];exact hfl
   refine wpAny_looks_onW frames hfr fl λ h4 held4 up4=>wpAny_landsW held4 λ h5 fl5 up5=>?_;have up45:=up4.trans up5;rw [<-hst] at fl5;have I5:aK X pins σ H2 { s2' with heap:=h5 }:=I1.flown os bare un hokB keepB thereB fl0 fl5 up45;obtain ⟨ob,hob,hobc⟩:=fl5.there;have suite:∀ {b:Stmt} {l:List Stmt} {t:TS} {p:Pos} {R:Flow->Shared->Prop},(∀ ea:Addr,mU (X.suite ea) (b::l) t)->t D σ H2->(∀ f s,SP X pins D f s->R f s)->codeAny (model X.prog X.w) (X.A.mark (some (.ref ea))) (.handlers (.ref ea) [.ExceptHandler none none (b::l) p] X.env) (λ r s₂=>match r with
    | .ok f=>R f s₂
    | .error x=>cameBackBy (model X.prog X.w) X.A X.env X.xe x s₂) { s2' with heap:=h5 }:=λ {b l t p R} hs q hR=>by
    refine codeAny_handlers_suite (lands_againW fl5 λ h6 fl6 up6=>?_);have I6:aK X pins σ H2 { s2' with heap:=h6 }:=I1.flown os bare un hokB keepB thereB fl0 fl6 (up45.trans up6);refine wpAny_mono (hs ea pins _ σ H2 D (I6.inSuite ea) q) (λ f s9 q9=>hR f s9 ?_) λ _ _ z=>z.elim;cases f with
    | next=>obtain ⟨σ9,H9,I9,z⟩:=q9;exact ⟨σ9,H9,I9.outSuite I6.ok,z⟩
    | brk=>obtain ⟨σ9,H9,I9,z⟩:=q9;exact ⟨σ9,H9,I9.outSuite I6.ok,z⟩
    | cont=>obtain ⟨σ9,H9,I9,z⟩:=q9;exact ⟨σ9,H9,I9.outSuite I6.ok,z⟩
    | ret u=>obtain ⟨v,σ9,H9,I9,r,z⟩:=q9;exact ⟨v,σ9,H9,I9.outSuite I6.ok,r,z⟩
   have qq:(cls=.ref C1/\t1 D σ H2)∨(cls=.ref C2/\t2 D σ H2):=q;clear q;rcases qq with ⟨rfl,q⟩ | ⟨rfl,q⟩
   . refine wpAny_handleBy_cons (codeAny_handlers_test (hU (I5.inSuite ea) hg1 hm1 ?_ hd1)) (by intro z;cases z);refine PySem.W.exm_one (M:=model X.prog X.w) I5.kIn (hobc▸(PySem.W.Looks.ld hob).andThen .now) hE.a _ _ _ _ (λ _ _ z=>z) ?_;show codeAny _ _ _ _ _;exact suite s1 q λ _ _ z=>z
   . refine wpAny_handleBy_cons (codeAny_handlers_test (hU (I5.inSuite ea) hg1 hm1 ?_ hd1)) (by intro z;cases z);refine PySem.W.exm_one (M:=model X.prog X.w) I5.kIn (hobc▸(PySem.W.Looks.ld hob).andThen .now) hE.b _ _ _ _ (λ _ _ z=>z) ?_;show wpAny _ _ (handleBy _ _ _) _ _ _;refine wpAny_handleBy_cons (codeAny_handlers_test (hU (I5.inSuite ea) hg2 hm2 ?_ hd2)) (by intro z;cases z);refine PySem.W.exm_one (M:=model X.prog X.w) I5.kIn (hobc▸(PySem.W.Looks.ld hob).andThen .now) hE.c _ _ _ _ (λ _ _ z=>z) ?_;show codeAny _ _ _ _ _;exact suite s2 q λ _ _ z=>z
 . cases f with
   | next=>exact wpAny_execs_nil q
   | brk=>exact q
   | cont=>exact q
   | ret u=>exact q
end
section
variable {K:Frag} {cl:Str->Addr} {E:XK}
noncomputable def tW (c m:Str) (f:List W->ai->SM W) (c1 c2:Str) (fo:DS->Option W) (fa:DS->Option (List W)) (h1 h2:DS->ai->SO):DS->ai->SO:=λ δ S=>(fo δ).bind λ x=>(fa δ).bind λ ds=>(iU c x S).bind λ p=>if p.2.lookup m=none then
 (match f (x::ds) S with
 | some (.ok _,S1)=>some (.nx δ,S1)
 | some (.xc y,S1)=>if y=c1 then h1 δ S1 else if y=c2 then h2 δ S1 else none
 | none=>none)
 else none
theorem zK {c m c1 c2:Str} {f:List W->ai->SM W} {to:TE} {ta:TA} {fo:DS->Option W} {fa:DS->Option (List W)} {t1 t2:TS} {h1 h2:DS->ai->SO} (ho:∀ ρ,DE K ρ to fo) (ha:∀ ρ,DA K ρ ta fa) (g1:kX K cl E t1 h1) (g2:kX K cl E t2 h2):
 kX K cl E (Cu (cl c) m (tj K cl f) (cl c1) (cl c2) to ta t1 t2) (tW c m f c1 c2 fo fa h1 h2):=λ ρ0 G0 H0 ρ G σ H δ S o S' D I e p=>by
 obtain ⟨x,ex,e⟩:=oB e
 obtain ⟨ds,ed,e⟩:=oB e
 obtain ⟨⟨n,fs⟩,ei,e⟩:=oB e
 split at e
 case isFalse=>cases e
 rename_i hm;refine ho ρ G σ H δ x _ I.rs.rl ex λ v G1 H1 gr1 dv=>?_;have gs1:GS ρ G H ρ G1 H1:=.of gr1;have sr1:=I.rs.st.grow gr1;have I1:=I.grow gs1 sr1;obtain ⟨rfl,e5⟩:=dy ei;obtain ⟨a,rfl,ea⟩:=cE dv;obtain ⟨ga,dx,ws,k1,k2,k3,k4⟩:=sr1.addr e5 ea;refine ⟨a,dx,ws,rfl,k1,k4.lookup_none hm,?_⟩;refine ha ρ G1 σ H1 δ ds _ I1.rs.rl ed λ vs G2 H2 gr2 da=>?_;have gs2:GS ρ G1 H1 ρ G2 H2:=.of gr2;have sr2:=sr1.grow gr2;have I2:=I1.grow gs2 sr2;cases ef:f (.ref n::ds) S with
 | none=>rw [ef] at e;cases e
 | some r=>
  obtain ⟨r,S1⟩:=r;rw [ef] at e;refine ⟨ρ,G2,S,.ref n::ds,r,S1,gr2.s,sr2,by rw [List.append_nil];exact .cons (dv.same gr2.g) da,ef,λ d hd v ρ3 G3 H3 g3 s3 dv=>?_,λ y hy ρ3 G3 H3 g3 s3=>?_⟩
  . subst hd;cases e;exact p σ ρ3 G3 H3 (I2.grow g3 s3)
  . subst hy;have e9:(if y=c1 then h1 δ S1 else if y=c2 then h2 δ S1 else none)=some (o,S'):=e;have I3:=I2.grow g3 s3;by_cases z:y=c1
    . rw [if_pos z] at e9;exact .inl ⟨by rw [z],g1 ρ0 G0 H0 ρ3 G3 σ H3 δ S1 o S' D I3 e9 p⟩
    . rw [if_neg z] at e9;by_cases z2:y=c2
      . rw [if_pos z2] at e9;exact .inr ⟨by rw [z2],g2 ρ0 G0 H0 ρ3 G3 σ H3 δ S1 o S' D I3 e9 p⟩
      . rw [if_neg z2] at e9;cases e9
end
section
variable {A:Around} {E:Value->Shared->Prop}
theorem y3 {P:Program} {w:World} {s:Shared} {d:Addr} {kvs:List (bh×Value)} {k:bh} {key v:Value} {Q:Unit->Shared->Prop} (hkey:(aS P w).is k key=true) (hm:fQ P w s.heap d kvs) (hsz:kvs.length<=sizeLine)
 (hQ:∀ h',fQ P w h' d (stored kvs k v)->Heap.SameBut d s.heap h'->Q () { s with heap:=h',toks:=s.toks+1 }):wpAny (model P w) A (dictSet d key v) Q E s:=by
 obtain ⟨o,es,ep,ho,hc,hd,he,hk,hp,hn⟩:=hm;have hes:es.size<=sizeLine:=by have e1:=hp.length;rw [Array.length_toList] at e1;omega
 unfold dictSet;try with_reducible refine wpAny_holding ?_
 refine wpAny_bind ((aS P w).pyHash hkey ?_);unfold dictSetHashed;try with_reducible refine wpAny_holding ?_
 refine wpAny_bind (wpAny_dictFind_of (s:={ s with toks:=s.toks+1 }) hkey ho hd hk ?_);have ix:(es.findIdx? λ e=>(aS P w).is k e.key)=kvs.findIdx? λ kv=>decide (kv.1=k):=by
  rw [<-hp.findIdx k];obtain ⟨l⟩:=es;simp
 cases hi:es.findIdx? λ e=>(aS P w).is k e.key with
 | some i=>
  have an:=any_of_findIdx_some (ix▸hi);have hl:(es.toList.findIdx? λ e=>(aS P w).is k e.key)=some i:=by rw [<-hi];obtain ⟨l⟩:=es;simp
  have hm:=hp.modify hn hl v;refine wpAny_bind (wpAny_rule (wpAny_bind (wpAny_updateDict (s:={ s with toks:=s.toks+1 }) ho hd (wpAny_point (hQ _ ?_ (Heap.SameBut.update ..))))));refine ⟨_,_,ep,Heap.get?_update_self _ ho (Obj.isFreed_of_dict (Obj.data_mapDict hd _)),hc.mapDict _,Obj.data_mapDict hd _,by simpa using he,hk.modify _ _,?_,?_⟩
  . rw [stored,if_pos an];obtain ⟨l⟩:=es;simpa using hm
  . rw [stored,if_pos an,keys_map_store];exact hn
 | none=>
  have nm:k∉kvs.map (·.1):=not_mem_of_findIdx_none (ix▸hi);have na:¬ (kvs.any λ kv=>decide (kv.1=k))=true:=λ z=>by
   obtain ⟨kv,h1,h2⟩:=List.any_eq_true.mp z;exact nm (List.mem_map.mpr ⟨kv,h1,of_decide_eq_true h2⟩)
  have ha:=hp.append hkey ((aS P w).hash k) v;refine wpAny_bind (wpAny_rule (wpAny_updateDictKeys (hz:=hes) (s:={ s with toks:=s.toks+1 }) ho hd (hQ _ ?_ (Heap.SameBut.update ..))));refine ⟨_,_,ep+1,Heap.get?_update_self _ ho (Obj.isFreed_of_dict (Obj.data_mapDictKeys hd _)),hc.mapDictKeys _,Obj.data_mapDictKeys hd _,by simp [he],hk.push hkey _,?_,?_⟩
  . rw [stored,if_neg na];obtain ⟨l⟩:=es;simpa using ha
  . rw [stored,if_neg na,List.map_append,List.nodup_append];exact ⟨hn,by simp,λ x hx y hy z=>nm (by simp at hy;rw [<-hy,<-z];exact hx)⟩
theorem nz {P:Program} {w:World} {d:Addr}:∀ (vs:List (Value×Value)) (kvs acc:List (bh×Value)) (s:Shared) (Q:PUnit->Shared->Prop),Carries (aS P w) vs kvs->fQ P w s.heap d acc->acc.length+kvs.length<=sizeLine->
 (∀ h' tk,fQ P w h' d (merged acc kvs)->Heap.SameBut d s.heap h'->Q PUnit.unit { s with heap:=h',toks:=tk })->
 wpAny (model P w) A (forIn vs PUnit.unit λ (x:Value×Value) (_:PUnit)=>(do dictSet d x.1 x.2;pure (ForInStep.yield PUnit.unit):Sem (ForInStep PUnit))) Q E s
 | [],[],acc,s,Q,_,hm,_,hQ=>by
  rw [List.forIn_nil];exact wpAny_pure (hQ s.heap s.toks (by simpa [merged] using hm) (Heap.SameBut.refl _ _))
 | (key,v)::vs,(k,v')::kvs,acc,s,Q,hc,hm,hsz,hQ=>by
  obtain ⟨hkey,rfl,hc'⟩:=hc;rw [List.length_cons] at hsz;rw [List.forIn_cons];refine wpAny_bind (wpAny_bind (y3 hkey hm (by omega) λ h₁ hm₁ hs₁=>wpAny_pure ?_));refine nz vs kvs (stored acc k v) _ Q hc' hm₁ (by have e:=stored_length_le acc k v;omega) λ h' tk hm' hs'=>?_;exact hQ h' tk (by simpa [merged] using hm') (hs₁.trans hs')
 | [],_::_,_,_,_,hc,_,_,_=>hc.elim
 | _::_,[],_,_,_,hc,_,_,_=>hc.elim
end
theorem HU {X:Cx} {pos:Pos} {keys:List (Option Expr)} {values:List Expr} {trs:List (TE×TE)} (h:HG X pos keys values trs) (hall:keys.all (·.isSome)=true) (hl:keys.length=values.length) (h0:keys≠[])
 (h15:keys.length<=15):PE X (.Dict keys values pos) (Cm trs):=by
 intro pins s σ H Q I q;have hn:=I.hok.fresh (Nat.le_refl s.heap.objs.size);have I1:=I.laid (a:=s.heap.objs.size) (o:=.dK []) (h':=s.heap.push { cls:=.type "dict", data:=.dict #[] }) (t':=s.toks) (λ _ _ q=>Heap.get?_push_of_some _ q) (Nat.le_refl _) (rW s.heap I.big);have hpl:=pairTrees_length keys values X.env pos hall hl;have hpn:pairTrees keys values X.env pos≠[]:=λ he=>by
  rw [he] at hpl;exact h0 (List.length_eq_zero_iff.mp hpl.symm)
 rw [arm_eval_Dict,zip_pairTrees keys values X.env pos hall hl,dictDisplay_pairs _ hpn (by omega)];refine wpAny_bind (wpAny_standAt (wpAny_bind ?_));unfold subDict;refine wpAny_bind (wpAny_alloc ?_);refine wpAny_bind (wpAny_holding ?_);rw [if_pos (by omega)];refine wpAny_bind (wpAny_mono (wpAny_evalPairs_len (h pins _ σ _ _ I1 (q _ hn))) (λ ws s2 hy=>?_) λ _ _ e=>e);obtain ⟨hvl,ps,H2,I2,rel,e,kvs,ep,lk,q2⟩:=hy;subst ep;obtain ⟨rs,c,rk⟩:=ni (P:=X.prog) (w:=X.w) rel;obtain ⟨z,hd,vs0,r0,dd⟩:=(show cO X.prog X.w H2 s2.heap s.heap.objs.size (.dK []) from I2.hok _ _ e)
 cases r0;have hz:(fw [] kvs).length<=sizeLine:=by
  have h1:=hV kvs [];rw [List.length_nil] at h1;rw [sizeLine_eq];omega
 have hrs:rs.length=kvs.length:=(Paired.length rk).symm;refine wpAny_holding ?_;refine wpAny_bind (nz ws rs [] s2 _ c dd (by rw [List.length_nil,sizeLine_eq];omega) λ h' tk dd' hs=>wpAny_pure (wpAny_pure (wpAny_pure ?_)));have he:∃ q,h'.get? s.heap.objs.size=some q:=let ⟨q,_,_,hq,_⟩:=dd';⟨q,hq⟩;exact ⟨.ref s.heap.objs.size,_,qQ I2 (by rw [e];exact True.intro) hs he (uf hz hd (rk.merge .nil) dd'),rfl,q2⟩
section
variable {K:Frag} {cl:Str->Addr} {E:XK}
noncomputable def su:List (Str×(DS->Option W))->DS->Option (List (bh×W))
 | [],_=>some []
 | (k,f)::r,δ=>(f δ).bind λ d=>(su r δ).map ((.inr k,d)::·)
noncomputable def iF (kvs more:List (bh×W)):List (bh×W):=more.foldl (λ acc kv=>cA acc kv.1 kv.2) kvs
noncomputable def v5 (kfs:List (Str×(DS->Option W))):DS->ai->SM W:=λ δ S=>(su kfs δ).bind λ kvs=>if kvs.length<=15 then some (.ok (.ref S.length),S++[.dK (iF [] kvs)]) else none
inductive Co (K:Frag):List (TE×TE)->List (Str×(DS->Option W))->Prop
 | nil:Co K [] []
 | cons {k:Str} {t:TE} {f:DS->Option W} {trs:List (TE×TE)} {kfs:List (Str×(DS->Option W))}:(∀ ρ,DE K ρ t f)->Co K trs kfs->Co K ((tC (.str k),t)::trs) ((k,f)::kfs)
theorem hZ.merge {ρ:List Addr} {G:Hp}:∀ {more:List (bh×W)} {ms:List (bh×V)} {l:List (bh×W)} {m:List (bh×V)},hZ K ρ G more ms->hZ K ρ G l m->hZ K ρ G (iF l more) (fw m ms):=by
 intro more ms l m h;induction h generalizing l m with
 | nil=>exact λ h2=>h2
 | cons h1 _ ih=>exact λ h2=>ih (h2.put h1)
theorem hZ.extR {ρ ρ':List Addr} {G:Hp} (g:ρ <+: ρ') {l:List (bh×W)} {m:List (bh×V)} (h:hZ K ρ G l m):hZ K ρ' G l m:=by
 induction h with
 | nil=>exact .nil
 | cons h1 _ ih=>exact .cons (h1.ext g) ih
theorem Aj {trs:List (TE×TE)} {kfs:List (Str×(DS->Option W))} (h:Co K trs kfs):∀ {ρ:List Addr} {G:Hp} {σ:St} {H:Hp} {δ:DS} {kvs:List (bh×W)} {Q:List (V×V)->Hp->Prop},Rl K ρ G H δ σ->su kfs δ=some kvs->
 (∀ ms G' H',Gr G H G' H'->hZ K ρ G' kvs ms->Q (ms.map λ kv=>(kV kv.1,kv.2)) H')->qg trs σ H Q:=by
 induction h with
 | nil=>
  intro ρ G σ H δ kvs Q R e q;cases e;exact q [] G H (.refl R.sub) .nil
 | @cons k t f trs kfs h1 _ ih=>
  intro ρ G σ H δ kvs Q R e q;obtain ⟨d,e1,e⟩:=oB e
  obtain ⟨r,e2,rfl⟩:=oM e
  refine h1 ρ G σ H δ d _ R e1 λ v G1 H1 g1 dv=>?_;refine ih (R.grow g1) e2 λ ms G2 H2 g2 kv=>?_;exact q ((.inr k,v)::ms) G2 H2 (g1.trans g2) (.cons (dv.same g2.g) kv)
theorem Av {trs:List (TE×TE)} {kfs:List (Str×(DS->Option W))} (h:Co K trs kfs):SE K cl E (Cm trs) (v5 kfs):=λ ρ G σ H δ S r S' Q R e q qx=>by
 obtain ⟨kvs,e1,e⟩:=oB e
 split at e
 case isFalse=>cases e
 rename_i h15;cases e;intro p hp;have n0:Nw H (cR H p (.dK [])) p (.dK []):=.of hp;have g0:Gr G H G (cR H p (.dK [])):=.nwO R.rl.sub n0;refine Aj h (R.rl.grow g0) e1 λ ms G2 H2 g2 kv=>?_;have hp2:H2 p=some (.dK []):=g2.h _ _ aJ;have gp:G2 p=none:=g2.n p (.of aJ λ _ z=>by cases z) (fN R.rl.sub hp);refine ⟨hp2,ms,rfl,by rw [<-kv.length];exact h15,?_⟩;let Hx:Hp:=λ b=>if b=p then none else H2 b
 have hx:∀ b,b≠p->Hx b=H2 b:=λ b hb=>if_neg hb;have hxp:Hx p=none:=if_pos rfl;have gx:Gr G H G2 Hx:=by
  refine ⟨g2.g,λ b o eb=>?_,λ b o eb=>?_,λ b hb=>?_⟩
  . have hb:b≠p:=λ z=>by rw [z,hp] at eb;cases eb
    rw [hx b hb];exact g2.h _ _ (by rw [aL hb];exact eb)
  . have hb:b≠p:=λ z=>by rw [z,gp] at eb;cases eb
    rw [hx b hb];exact g2.s _ _ eb
  . exact g2.n b (hb.same n0.1)
 have ex:cR H2 p (.dK (fw [] ms))=cR Hx p (.dK (fw [] ms)):=by
  funext b;by_cases hb:b=p
  . subst hb;rw [aJ,aJ]
  . rw [aL hb,aL hb,hx b hb]
 rw [ex];have sx:=R.st.grow gx;have n1:Nw Hx (cR Hx p (.dK (fw [] ms))) p (.dK (fw [] ms)):=.of hxp;obtain ⟨s2,gg⟩:=sx.push (o:=.dK (iF [] kvs)) gx.s n1 λ ρ' hr=>⟨_,aJ,hZ.merge (kv.extR hr) .nil⟩
 exact q _ rfl _ _ _ _ ((GS.of gx).trans gg) s2 (.ref (by rw [<-R.st.len];simp))
noncomputable def n8 (fo fk fx:DS->ai->SM W):DS->ai->SM W:=λ δ S=>au (fo δ S) λ x S1=>if (rp x S1).isSome=true then au (fk δ S1) λ y S2=>au (fx δ S2) λ z S3=>(rO x y S3).bind λ o=>some (.ok (o.getD z),S3) else none
theorem yb {to tk tx:TE} {fo fk fx:DS->ai->SM W} (ho:SE K cl E to fo) (hk:SE K cl E tk fk) (hx:SE K cl E tx fx):SE K cl E (yi to tk tx) (n8 fo fk fx):=λ ρ G σ H δ S r S' Q R e q qx=>
 di ho R e (λ x S1 e1 v ρ1 G1 H1 g1 s1 dv=>by
  split at e1
  case isFalse=>cases e1
  rename_i hx1;obtain ⟨⟨n,kvs0⟩,hx0⟩:=Option.isSome_iff_exists.mp hx1;obtain ⟨rfl,h0⟩:=p4 hx0;obtain ⟨a,rfl,ea⟩:=cE dv;obtain ⟨_,ws0,k0,_⟩:=s1.addr h0 ea;have R1:=R.grow g1 s1;refine ⟨a,rfl,.inl ⟨ws0,.inl k0⟩,?_⟩;refine di hk R1 e1 (λ y S2 e2 u ρ2 G2 H2 g2 s2 du=>?_) λ c hc ρ2 G2 H2 g2 s2=>qx c hc ρ2 G2 H2 (g1.trans g2) s2;refine di hx (R1.grow g2 s2) e2 (λ z S3 e3 w ρ3 G3 H3 g3 s3 dw=>?_) λ c hc ρ3 G3 H3 g3 s3=>qx c hc ρ3 G3 H3 (g1.trans (g2.trans g3)) s3;obtain ⟨o,e4,e5⟩:=oB e3
  cases e5;have g13:=g1.trans (g2.trans g3);have g23:=g2.trans g3;obtain ⟨a',r',ez,h1,h2⟩:=uT g13.s s3 ((dv.ext g23.r).same g23.g) ((du.ext g3.r).same g3.g) e4;cases ez;refine ⟨r',h1,?_⟩;cases o with
  | some d=>
   obtain ⟨z',rfl,dz⟩:=h2;exact q _ rfl _ ρ3 G3 H3 g13 s3 dz
  | none=>
   rw [show r'=none from h2];exact q _ rfl _ ρ3 G3 H3 g13 s3 dw) qx
noncomputable def za (g g':W->W->Option Bool) (fa fb fc:DS->ai->SM W):DS->ai->SM Bool:=λ δ S=>au (fa δ S) λ x S1=>au (fb δ S1) λ y S2=>(g x y).bind λ b=>if b=true then au (fc δ S2) λ z S3=>kz (g' y z) S3 else some (.ok false,S2)
theorem xK {r r':R2} {ta tb tc:TE} {fa fb fc:DS->ai->SM W} {g g':W->W->Option Bool} (hr:∀ ρ,DB K ρ r g) (hr':∀ ρ,DB K ρ r' g') (ha:SE K cl E ta fa) (hb:SE K cl E tb fb) (hc:SE K cl E tc fc):ST K cl E (lW (wZ r r' ta tb tc)) (za g g' fa fb fc):=λ ρ G σ H δ S rr S' Q R e q qx=>
 di ha R e (λ x S1 e1 v ρ1 G1 H1 g1 s1 dv=>by
  refine di hb (R.grow g1 s1) e1 (λ y S2 e2 u ρ2 G2 H2 g2 s2 du=>?_) λ c hc ρ2 G2 H2 g2 s2=>qx c hc ρ2 G2 H2 (g1.trans g2) s2;obtain ⟨b,e3,e4⟩:=oB e2
  refine hr ρ2 H2 v u x y b _ ((dv.ext g2.r).same (g2.g.trans g2.s)) (du.same g2.s) e3 ⟨b,rfl,?_⟩;cases b with
  | false=>
   cases e4;exact ⟨false,rfl,q _ rfl ρ2 G2 H2 (g1.trans g2) s2⟩
  | true=>
   rw [if_pos rfl] at e4 ⊢;refine di hc ((R.grow g1 s1).grow g2 s2) e4 (λ z S3 e5 w ρ3 G3 H3 g3 s3 dw=>?_) λ c hc ρ3 G3 H3 g3 s3=>qx c hc ρ3 G3 H3 (g1.trans (g2.trans g3)) s3;obtain ⟨c,e6,rfl,rfl⟩:=bV e5;exact hr' ρ3 H3 u w y z c _ ((du.ext g3.r).same (g3.g.trans g3.s)) (dw.same g3.s) e6 ⟨c,rfl,q c rfl ρ3 G3 H3 (g1.trans (g2.trans g3)) s3⟩) qx
end
noncomputable def xB:List V->Hp->VK->Prop:=λ xs H Q=>∃ b:Bool,xs=[.bl b]/\Q (.int (if b then 1 else 0)) H
theorem wD {X:Cx}:fz X (.type "int") xB:=by
 intro pins s σ H xs us Q I r h;obtain ⟨b,e,q⟩:=h;subst e;obtain ⟨u,rfl,rb⟩:=sk r;cases rb;exact call_int_bool ⟨.int _,H,I.tok _,⟨_,rfl⟩,q⟩
theorem JP {X:Cx} {e:Expr} {es:List Expr} {t:TA} {p pos:Pos} (hg:Gl X "int") (hm:X.mg "int" = none) (ha:PA X (e::es) t)
 (he:starEach (e::es) X.env=(false,eval e X.env)::starEach es X.env) (hp:(backTo pos (starEach es X.env)).any (·.1)=false):PE X (.Call (.Name "int" p) (e::es) [] pos) (zj xB t):=pJ wD hg hm (by decide +kernel:bootBuiltins "int" = some (.type "int")) ha (by decide) (by decide) he hp
noncomputable def Ga:W->Option W
 | .bool b=>some (.int (if b then 1 else 0))
 | _=>none
noncomputable def sI (f:DS->Option W):DS->Option W:=λ δ=>(f δ).bind Ga
theorem Ao {K:Frag} {ρ:List Addr} {t:TE} {f:DS->Option W} (h:DE K ρ t f):DE K ρ (zj xB (iY t lI)) (sI f):=λ G σ H δ d Q R e q=>by
 obtain ⟨x,ex,e⟩:=oB e
 cases x <;> first | cases e
 rename_i b;exact h G σ H δ _ _ R ex λ v G1 H1 g1 dv=>by
  cases dv;exact ⟨b,rfl,q _ G1 H1 g1 (.int _)⟩
noncomputable def kc (d:PyData):Bool:=d.showable && !d.hasDict&&decide (d.depth<=64)&&decide (d.shown.length<=sizeLine)
noncomputable def pc (K:Frag):List V->Hp->VK->Prop:=λ xs H Q=>∃ a d,xs=[.ref a]/\Dp K H (.ref a) d/\kc d=true/\Q (.str d.shown) H
theorem uw {X:Cx} {K:Frag} (h:X.K=K) {k:Nat} (hr:cq k X.A):fz X (.builtin "repr") (pc K):=by
 subst h;intro pins s σ H xs us Q I r h;obtain ⟨a,d,e,dp,ok,q⟩:=h;subst e;obtain ⟨u,rfl,rb⟩:=sk r;cases rb;obtain ⟨as,rd⟩:=Dp.reads I dp rfl;simp only [kc,Bool.and_eq_true,decide_eq_true_eq,Bool.not_eq_true'] at ok;obtain ⟨⟨⟨o1,o2⟩,o3⟩,o4⟩:=ok;exact repr_of_reads' rd o1 (PyData.noDict_hsm o2) hr.gd (by have:=hr.un;omega) (λ _ _ e=>e) (λ h' u tk hk=>⟨.str d.shown,H,I.kept (t':=tk) λ b o e=>hk b o e,⟨u,rfl⟩,q⟩) o4
theorem boot_repr':bootBuiltins "repr" = some (.builtin "repr"):=by decide +kernel
theorem CS {X:Cx} {K:Frag} (h:X.K=K) {k:Nat} (hr:cq k X.A):QB X "repr" (pc K):=⟨_,uw h hr,boot_repr'⟩
noncomputable def uG (x:W):Option W:=(W.py x).bind λ d=>match x with
 | .list _=>if kc d=true then some (.str d.shown) else none
 | .tuple _=>if kc d=true then some (.str d.shown) else none
 | _=>none
noncomputable def rT (f:DS->Option W):DS->Option W:=λ δ=>(f δ).bind uG
theorem AR {K:Frag} {ρ:List Addr} {t:TE} {f:DS->Option W} (h:DE K ρ t f):DE K ρ (zj (pc K) (iY t lI)) (rT f):=λ G σ H δ d Q R e q=>by
 obtain ⟨x,ex,e⟩:=oB e
 obtain ⟨y,ey,e⟩:=oB e
 refine h G σ H δ _ _ R ex λ v G1 H1 g1 dv=>?_;have dp:=(dv.same g1.s).dp ey;have go:∀ {a:Addr},v=.ref a->(if kc y=true then some (W.str y.shown) else none)=some d->pc K [v] H1 Q:=λ {a} hv e=>by
  subst hv;split at e
  . cases e;exact ⟨a,y,rfl,dp,by assumption,q _ G1 H1 g1 (.str _)⟩
  . cases e
 show pc K [v] H1 Q;cases x with
 | list ds=>
  obtain ⟨a,rfl⟩:∃ a,v=.ref a:=by cases dv;exact ⟨_,rfl⟩
  exact go rfl e
 | tuple ds=>
  obtain ⟨a,rfl⟩:∃ a,v=.ref a:=by cases dv;exact ⟨_,rfl⟩
  exact go rfl e
 | none=>cases e
 | bool _=>cases e
 | int _=>cases e
 | str _=>cases e
 | ref _=>cases e
theorem tX {P:Program} {w:World} {A:Around} {s:Shared} {H:Hp} {a b:Addr} (ok:iK P w H s.heap) (ha:H a=some (.dK [])) (hb:H b=some (.dK [])) (hu:A.units<cLine):SeqAt.EqAt A s (.ref a) (.ref b) true:=by
 by_cases hab:a=b
 . subst hab;exact SeqAt.EqAt.same _
 . refine SeqAt.EqAt.of_refs hab λ prog w' E Q h=>?_;have mk:∀ {c:Addr},H c=some (.dK [])->(c==sysModules)=false/\s.heap.DictOf (aS prog w') c []:=λ {c} hc=>by
    obtain ⟨_,hd,vs,r,o,es,ep,h1,h2,h3,_,h5,h6,_⟩:=(show cO P w H s.heap c (.dK []) from ok c _ hc)
    cases r;have ee:es = #[]:=by
     have:=h6.length;rw [Array.length_toList] at this;exact Array.eq_empty_of_size_eq_zero (by simpa using this)
    subst ee;exact ⟨hd,o,#[],ep,h1,h2,h3,λ e he=>absurd he (by simp),.nil,by simp⟩
   obtain ⟨a1,a2⟩:=mk ha;obtain ⟨b1,b2⟩:=mk hb;exact PySem.W.keq_eq (knd:=aS prog w') a1 b1 a2 b2 hu (λ _=>.nil) (by simpa using h)
noncomputable def Fh (K:Frag):R2:=λ x y H Q=>∃ (a b:Addr) (as bs:List Addr),x=.ref a/\y=.ref b/\dM K H a (as.map V.ref)/\dM K H b (bs.map V.ref)/\(∀ c∈as,H c=some (.dK []))/\(∀ c∈bs,H c=some (.dK []))/\Q (.bl (as.length==bs.length)) H
theorem lR:∀ {as:List Addr} {us:List Value},bn (as.map V.ref) us->us=as.map Value.ref
 | [],us,h=>by cases h;rfl
 | a::as,us,h=>by
  cases h with
  | cons h1 h2=>
   cases h1;rw [lR h2];rfl
theorem Kl {X:Cx} {K:Frag} (h:X.K=K) (hu:X.A.units+64<cLine):ig X (compareOp .Eq) (Fh K):=by
 subst h;intro pins s σ H x y v u Q I rx ry h;obtain ⟨a,b,as,bs,rfl,rfl,ha,hb,da,db,q⟩:=h;cases rx;cases ry;obtain ⟨its,rv,pl,_⟩:=I.list ha;obtain ⟨jts,rw',pm,_⟩:=I.list hb;have e1:=lR rv;have e2:=lR rw';subst e1 e2;have go:SeqAt.RcAt X.A s (.ref a) (.ref b) (as.length==bs.length):=by
  by_cases hl:as.length=bs.length
  . have:=SeqAt.RcAt.lists (A:=X.A) (e:=λ _=>true) pl.isList pm.isList (by simpa using hl) (by omega) λ j h1 h2=>by
     have h1':j<as.length:=by simpa using h1
     have h2':j<bs.length:=by simpa using h2
     have:=tX (A:=X.A.in1) I.hok (da _ (List.getElem_mem h1')) (db _ (List.getElem_mem h2')) (by show X.A.units+1<cLine;omega);simpa using this
    have e:((List.range (as.map Value.ref).toArray.size).all λ _=>true)=(as.length==bs.length):=by simp [hl]
    rw [e] at this;exact this
  . have:(as.length==bs.length)=false:=by simpa using hl
    rw [this];exact SeqAt.RcAt.lists_lengths pl.isList pm.isList (by simpa using hl) (by omega)
 exact go X.prog X.w _ _ ⟨.bl _,H,I,rfl,q⟩
section
variable {K:Frag} {cl:Str->Addr} {E:XK}
noncomputable def FJ (S:ai):List W->Option Nat
 | []=>some 0
 | d::r=>match rp d S with
  | some (_,[])=>(FJ S r).map (· + 1)
  | _=>none
noncomputable def xT (x y:W) (S:ai):Option Bool:=match x,y with
 | .ref l,.list es=>(dG S l).bind λ ds=>(FJ S ds).bind λ m=>(FJ S es).map λ n=>m==n
 | _,_=>none
noncomputable def yD (fa fb:DS->ai->SM W):DS->ai->SM Bool:=λ δ S=>au (fa δ S) λ x S1=>au (fb δ S1) λ y S2=>kz (xT x y S2) S2
theorem qM {ρ:List Addr} {G H:Hp} {S:ai} (s:SR K ρ cl G H S):∀ {ds:List W} {vs:List V} {m:Nat},aF K ρ G vs ds->FJ S ds=some m->∃ as:List Addr,vs=as.map V.ref/\as.length=m/\∀ c∈as,H c=some (.dK [])
 | [],vs,m,h,e=>by
  cases h;cases e;exact ⟨[],rfl,rfl,λ c hc=>absurd hc List.not_mem_nil⟩
 | d::ds,vs,m,h,e=>by
  cases h with
  | @cons v vs _ _ h1 h2=>
   unfold FJ at e;split at e
   . rename_i n hk;obtain ⟨k,e1,rfl⟩:=oM e
     obtain ⟨as,rfl,hl,hd⟩:=qM s h2 e1;obtain ⟨rfl,e4⟩:=p4 hk;obtain ⟨a,rfl,ea⟩:=cE h1;obtain ⟨_,ws,k1,k2⟩:=s.addr e4 ea;cases k2;exact ⟨a::as,rfl,by simp [hl],λ c hc=>(List.mem_cons.mp hc).elim (λ z=>z▸k1) (hd c)⟩
   . cases e
theorem yO {ρ:List Addr} {G H:Hp} {S:ai} {v u:V} {x y:W} {b:Bool} {Q:VK} (sg:bo G H) (s:SR K ρ cl G H S) (dv:Dw K ρ G v x) (du:Dw K ρ G u y) (h:xT x y S=some b) (q:Q (.bl b) H):Fh K v u H Q:=by
 unfold xT at h;split at h
 . obtain ⟨ds,e1,e⟩:=oB h
   obtain ⟨m,em,e⟩:=oB e
   obtain ⟨n,en,rfl⟩:=oM e
   obtain ⟨a,rfl,ea⟩:=cE dv;unfold dG at e1;split at e1
   . rename_i hl;cases e1;obtain ⟨_,ws,k1,k2⟩:=s.addr hl ea;cases du with
     | @lst b' xs _ sq da=>
      obtain ⟨as,rfl,z1,d1⟩:=qM s k2 em;obtain ⟨bs,rfl,z2,d2⟩:=qM s da en;refine ⟨a,b',as,bs,rfl,rfl,dM.of k1,sg.seq sq,d1,d2,?_⟩;rw [z1,z2];exact q
   . cases e1
 . cases h
theorem EY {ta tb:TE} {fa fb:DS->ai->SM W} (ha:SE K cl E ta fa) (hb:SE K cl E tb fb):SE K cl E (rA (Fh K) ta tb) (sB (yD fa fb)):=λ ρ G σ H δ S r' S' Q R e q qx=>by
 rcases aD e with ⟨c,em,rfl⟩ | ⟨b,S1,em,e⟩
 . exact iB (r:=Rs.xc c) ha hb R em (λ x y S2 e2=>by obtain ⟨_,_,z,_⟩:=bV e2;cases z) (λ c' hc=>by cases hc;exact qx c rfl)
 . cases e;exact iB ha hb R em (λ x y S2 e2 v u ρ2 G2 H2 g2 s2 dv du=>by
    obtain ⟨c,e3,z,rfl⟩:=bV e2;cases z;exact yO g2.s s2 dv du e3 (q _ rfl _ ρ2 G2 H2 g2 s2 (.bl _))) (λ c hc=>by cases hc)
end
noncomputable def wV (R:Addr->FuncData->Prop) (P:Program) (w:World) (K:Frag) (mg:Str->Option Value) (base:Heap) (k:Nat) (ps:List Str) (sp:Sp):Prop:=∃ f fd,R f fd/\et P w K mg base (pP P w) k f fd ps sp
noncomputable def IN (R:Addr->FuncData->Prop) (P:Program) (w:World) (K:Frag) (mg:Str->Option Value) (base:Heap) (k:Nat) (ps:List Str) (sp:Sp):Prop:=∃ f fd,R f fd/\nO P w K mg base uz k f fd ps sp
noncomputable abbrev Jp (P:Program) (w:World) (K:Frag) (mg:Str->Option Value) (base:Heap) (N:List Str) (q:Str) (st:Stmt) (k:Nat) (E:XK) (t:TS):Prop:=∀ (f:Addr) (cd:Value) (A:Around) (outer:List Env) (s:Shared) (H:Hp),N.Nodup->cq k (A.deeper (envOfC q (aw st) s.heap.objs.size f cd))->(A.deeper (envOfC q (aw st) s.heap.objs.size f cd)).units+64<cLine->(A.deeper (envOfC q (aw st) s.heap.objs.size f cd)).units+1<cLine->
 mU (gN (pP P w) P w K mg base N q (aw st) f cd A outer s H E) (aN st) t
noncomputable abbrev Ke (P:Program) (w:World) (K:Frag) (mg:Str->Option Value) (base:Heap) (N:List Str) (q:Str) (st:Stmt) (k:Nat) (t:TS):Prop:=∀ (f:Addr) (cd:Value) (A:Around) (outer:List Env) (s:Shared) (H:Hp) (E:XK),N.Nodup->iq k (A.deeper (envOfC q (aw st) s.heap.objs.size f cd))->
 mU (GP P w K mg base N q (aw st) f cd A outer s H E) (aN st) t
theorem sC.okX {P:Program} {w:World} {K:Frag} {mg:Str->Option Value} {base:Heap} {x q:Str} {st:Stmt} {f:Addr} {fd:FuncData} {N ps:List Str} {k:Nat} {sp:Sp} (F:sC K x q st f fd) (S:dR N ps (aw st)) (hl:∀ vs H Q E,sp vs H Q E->vs.length=ps.length)
 (hb:∀ (cd:Value) (A:Around) (outer:List Env) (s:Shared) (H:Hp) (vs:List V) (Q:VK) (E:XK),cq k (A.deeper (envOfC q (aw st) s.heap.objs.size f cd))->sp vs H Q E->
  ∃ t,mU (gN (pP P w) P w K mg base N q (aw st) f cd A outer s H E) (aN st) t/\t ({ nx:=λ _ H'=>Q V.non H',rt:=Q }:jb) (start N vs) H):et P w K mg base (pP P w) (k+1) f fd ps sp:=by
 obtain ⟨dV,oc,kV,dc,pm,cd,ct,od,an,sl,rfl,lk,hc⟩:=F.ex;exact Cv lk hc S hl λ A outer s H vs Q E hr hs=>hb cd A outer s H vs Q E hr hs
theorem sC.okN {P:Program} {w:World} {K:Frag} {mg:Str->Option Value} {base:Heap} {x q:Str} {st:Stmt} {f:Addr} {fd:FuncData} {N ps:List Str} {k:Nat} {sp:Sp} (F:sC K x q st f fd) (S:dR N ps (aw st)) (hl:∀ vs H Q E,sp vs H Q E->vs.length=ps.length)
 (hb:∀ (cd:Value) (A:Around) (outer:List Env) (s:Shared) (H:Hp) (vs:List V) (Q:VK) (E:XK),iq k (A.deeper (envOfC q (aw st) s.heap.objs.size f cd))->sp vs H Q E->
  ∃ t,mU (GP P w K mg base N q (aw st) f cd A outer s H E) (aN st) t/\t ({ nx:=λ _ H'=>Q V.non H',rt:=Q }:jb) (start N vs) H):nO P w K mg base uz (k+1) f fd ps sp:=by
 obtain ⟨dV,oc,kV,dc,pm,cd,ct,od,an,sl,rfl,lk,hc⟩:=F.ex;exact Er lk hc S hl λ A outer s H vs Q E hr hs=>hb cd A outer s H vs Q E hr hs
section
variable {P:Program} {w:World} {K:Frag} {mg:Str->Option Value} {base:Heap} {cl:Str->Addr} {R:Addr->FuncData->Prop} {x q:Str} {st:Stmt} {N ps:List Str} {a n k:Nat} {t:TS} {sp:Sp}
theorem IN.ce (h:IN R P w K mg base k ps sp):Ce R P w K mg base k ps sp:=by
 obtain ⟨f,fd,r,F⟩:=h;exact ⟨f,fd,r,F.all⟩
theorem vK {fb:DS->ai->SO} {g:List W->ai->SM W} (D:jK R K x q st) (hg:g=bc a n fb) (h:∀ E:XK,∃ t,kX K cl E t fb/\Jp P w K mg base N q st k E t)
 (hN:N.length=n) (ha:ps.length=a) (S:dR N ps (aw st)):wV R P w K mg base (k+1) ps (tj K cl g):=by
 subst hg ha;obtain ⟨f,fd,F,r⟩:=D;exact ⟨f,fd,r,F.okX S (λ vs H Q E h=>Ap (λ ds S r e=>jI e) h) λ cd A outer s H vs Q E hr hs=>by
  obtain ⟨t,de,pe⟩:=h E;exact ⟨t,pe f cd A outer s H S.nd hr hr.units hr.units1,HJ hN de hs⟩⟩
theorem Ko {fb:DS->ai->SO} {g:List W->ai->SM W} (D:jK R K x q st) (hg:g=bc a n fb) (de:kX K cl E0 t fb) (pe:Ke P w K mg base N q st k t)
 (hN:N.length=n) (ha:ps.length=a) (S:dR N ps (aw st)):IN R P w K mg base (k+1) ps (jd K cl g):=by
 subst hg ha;obtain ⟨f,fd,F,r⟩:=D;exact ⟨f,fd,r,F.okN S (λ vs H Q E h=>uK (λ ds S r e=>jI e) h) λ cd A outer s H vs Q E hr hs=>⟨t,pe f cd A outer s H E S.nd hr,Cz hN de hs⟩⟩
theorem CP {g:List W->ai->SM W} (D:jK R K x q st) (h:∀ ds S,g ds S=none):wV R P w K mg base k ps (tj K cl g):=by
 obtain ⟨f,fd,_,r⟩:=D;exact ⟨f,fd,r,et.noX h⟩
theorem vn {F:Nat->Sp} (h0:wV R P w K mg base (k+0) ps (F 0)) (hs:∀ n,wV R P w K mg base (k+n) ps (F n)->wV R P w K mg base (k+n+1) ps (F (n+1))):∀ n,wV R P w K mg base (k+n) ps (F n)
 | 0=>h0
 | n+1=>hs n (vn h0 hs n)
end
noncomputable def xN (C:Addr) (m:Str) (sp:Sp) (ta:TE) (t:TA):TE:=λ σ H Q=>True/\nA C m sp [] E0 ta t σ H Q
noncomputable def ut (c m:Str) (f:List W->ai->SM W) (fo:DS->ai->SM W) (fa:DS->ai->SM (List W)):DS->ai->SM W:=cz c m f fo fa
theorem x9 {K:Frag} {cl:Str->Addr} {E:XK} {c m:Str} {f:List W->ai->SM W} {to:TE} {t:TA} {fo:DS->ai->SM W} {fa:DS->ai->SM (List W)} (ho:SE K cl E to fo) (h:SA K cl E t fa):SE K cl E (xN (cl c) m (jd K cl f) to t) (ut c m f fo fa):=λ ρ G σ H δ S r S' Q R e q qx=>⟨True.intro,uX ho h ρ G σ H δ S r S' Q R e q qx⟩
theorem GA {X:Cx} {k j:Nat} {f C:Addr} {fd:FuncData} {ps:List Str} {sp:Sp} {m:Str} {pos apos:Pos} {e o:Expr} {es:List Expr} {ta:TE} {t:TA} {pl:Sem Bool} (he:PE X o ta) (c:eJ X.K C) (hm:bg X.K C m f) (F:nO X.prog X.w X.K X.mg X.base uz k f fd ps sp) (hr:∃ A e,X.A=Around.mark A e/\cq j A) (hk:k<=j) (hb:aP X.K fd ps []) (ha:PA X (e::es) t)
 (hst:starEach (e::es) X.env=(false,eval e X.env)::starEach es X.env) (hpl:(backTo pos (starEach es X.env)).any (·.1)=false)
 (ht:eval (.Call (.Attribute o m apos) (e::es) [] pos) X.env=(do
  let ov <-eval o X.env
  standAt apos.atName
  let (f,first) <-holding [ov] (getMethod ov m pl)
  callWith pos f first (backTo pos (starEach (e::es) X.env)) (backToKw pos (keywordEach [] X.env)))):
 PE X (.Call (.Attribute o m apos) (e::es) [] pos) (xN C m sp ta t):=by
 have hr':iq k X.A:=by
  obtain ⟨A,e,hA,r⟩:=hr;rw [hA];exact ⟨(r.n.mono hk).dp,(r.n.mono hk).un⟩
 exact λ pins s σ H Q I h=>xo he c hm F hr' hb ha hst hpl ht pins s σ H Q I h.2
theorem wm {A:Around} {e:Option Value} {j:Nat} (r:cq j A):∃ B v,A.mark e=Around.mark B v/\cq j B:=⟨A,e,rfl,r⟩
section
variable {K:Frag} {cl:Str->Addr} {E:XK}
end
end L2
namespace L2
open PySem PySem.Spec PyProof.Rows
open PySem.W (Frag)
end L2
namespace L2
open PySem PySem.Spec PyProof.Rows
open PySem.W (Frag)
theorem CY {X:Cx} {K:Frag} (h:X.K=K) {op:Operator} {rd:V->V->Hp->VK->Prop} {o value:Expr} {ta tv:TE} {f:Str} {tpos pos:Pos} (ha:PE X o ta) (hv:PE X value tv) (hop:Bv X op rd):PS X (.AugAssign (.Attribute o f tpos) op value pos) (pV K ta tv rd f):=h▸vV ha hv hop
theorem Ef {K:Frag} {ρ:List Addr}:nZ K ρ yz eQ:=xU
noncomputable def CW (K:Frag) (a:Addr) (ws:List Str):Prop:=∀ G,ii K G a (ws.map V.str)
theorem EN {K:Frag} {ρ:List Addr} {ta:TE} {fa:DS->Option W} {a:Addr} {ws:List Str} {d:W} (hs:CW K a ws) (hd:d=.tuple (ws.map W.str)) (ha:DK K ρ ta fa):DT K ρ (lW (rA (FC K false) ta (tC (.ref a)))) (aC sS fa (dC d)):=by
 subst hd;exact E7 hs ha
end L2
namespace L2
open PySem PySem.Spec PyProof.Rows
open PySem.W (Frag)
noncomputable def yH (A:Around):Prop:=∃ k,cq k A
theorem Gm {A:Around} {k:Nat} (r:cq k A):yH A:=⟨k,r⟩
theorem Jj {X:Cx} {K:Frag} (h:X.K=K) (hr:yH X.A):QB X "repr" (pc K):=by
 obtain ⟨k,r⟩:=hr;exact CS h r
theorem yI {X:Cx} {x:Str} {i:Int} {t:Tok} {pos:Pos} (hg:Gl X x) (hm:X.mg x=some (.int i t)) (hd:(x==("__debug__" : Str))=false):PE X (.Name x pos) (tC (.int i)):=v3 hg hm ⟨_,rfl⟩ hd
section
variable {K:Frag} {cl:Str->Addr} {E:XK}
end
theorem z8:typeLookup (.type "zip") "keys" = pure none:=by rw [typeLookup_type,builtinLookup_eq_fast];kernel_rfl
theorem zy:typeLookup (.type "zip") "__getattr__" = pure none:=by rw [typeLookup_type,builtinLookup_eq_fast];kernel_rfl
theorem Dz:entryFor table "zip.__getattribute__" = some Builtin.«object.__getattribute__»:=entryFor_alias (id' := "object.__getattribute__") (by kernel_rfl) (by decide +kernel) (by decide +kernel) (by kernel_rfl)
theorem yj (z:Addr) (fs:Array Value) (u:Tok):
 Meets (Builtin.«object.__getattribute__» ⟨[.ref z,.str "keys" u],[]⟩) (λ A R s=>s.heap.get? z=some { cls:=.type "zip", dict:=none,data:=.fields fs,slots:=#[] }/\raisesAttr (.ref z) "keys" A R s):=
 Meets.of_wp λ prog w A R s q=>by
  obtain ⟨hp,g,d,tk,os⟩:=s;obtain ⟨hx,q⟩:=q;have hT:(⟨hp,g,d,tk,os⟩:Shared).TypeIs (.ref z) "zip" := ⟨_,hx,rfl⟩
  have f0:=z8;unfold Builtin.«object.__getattribute__»;repeat any_goals first | wp_step | assumption
  all_goals exact wpAny_raiseAttrError q.1 q.2 (attrMsg_fits (by decide +kernel) (by decide))
section
variable {prog:Program} {w:World} {A:Around} {E:Value->Shared->Prop} {s:Shared}
theorem zk {z:Addr} {fs:Array Value} {Q:Option Value->Shared->Prop} (hx:s.heap.get? z=some { cls:=.type "zip", dict:=none,data:=.fields fs,slots:=#[] }) (hA:A.handled=none)
 (h:∀ h' u,(∀ b o,s.heap.get? b=some o->h'.get? b=some o)->Q none { s with heap:=h',toks:=u }):wpAny (model prog w) A (getAttr? (.ref z) "keys") Q E s:=by
 obtain ⟨hp,g,d,tk,os⟩:=s;have hT:∀ tk',(⟨hp,g,d,tk',os⟩:Shared).TypeIs (.ref z) "zip" := λ _=>⟨_,hx,rfl⟩
 have f1:=sub_AttributeError;have f3:=PySem.F.slot_zip_getattribute.lookup;have f4:=PySem.F.slot_zip_getattribute.bind (.ref z);have f5:=zy;unfold getAttr? getAttrBy? getAttrBy;repeat (any_goals first | assumption | exact hT _ | ((with_reducible show wpAny _ _ (call (Value.builtin "zip.__getattribute__") _ _) _ _ _);refine call_meets PySem.F.slot_zip_getattribute (hT _) Dz (PySem.F.args_zip_getattribute_2 _ _) (yj z fs _) ⟨hx,hA,λ h' tk' e hx'=>?_⟩) | wp_step)
 obtain ⟨t',u',he⟩:=hx'.there;show wpAny _ _ (getattributeRaised _ _ _ _ _ _ _) _ _ _;unfold getattributeRaised;repeat (any_goals first | assumption | wp_step)
 all_goals exact h _ _ hx'.keeps
end
noncomputable abbrev wb (h:Heap) (z TI TO T:Addr) (f:Bool):Prop:=h.get? z=some { cls:=.type "zip", dict:=none,data:=.fields #[rawInt T,.bool f,.bool false,.ref TI,.ref TO],slots:=#[] }
section
variable {prog:Program} {w:World} {A:Around} {E:Value->Shared->Prop} {s:Shared} {z TI TO T i1 i2 l1 l2:Addr} {f:Bool} {k1 k2:Nat} {xs ys:Array Value} {x y:Value} {oT:Obj}
theorem pH {P:Bool->Shared->Prop} (hz:wb s.heap z TI TO T f) (hT:s.heap.get? T=some oT) (q:∀ h',wb h' z TI TO T true->Heap.SameBut z s.heap h'->P false { s with heap:=h' }):
 wpAny (model prog w) A (Builtin.SmallTypes.ownedTupleIsFree (.ref z)) P E s:=by
 unfold Builtin.SmallTypes.ownedTupleIsFree;refine wpAny_bind (wpAny_field hz rfl (x:=rawInt T) rfl ?_);show wpAny _ _ (loadIfAlive ((T:Int).toNat) >>= _) _ _ _;rw [Int.toNat_natCast];refine wpAny_bind (PySem.W.kdx_alive hT ?_);simp only [Option.isNone_some,Bool.false_eq_true,if_false];refine wpAny_bind (wpAny_field hz rfl (x:=.bool f) rfl ?_);cases f with
 | true=>
  rw [if_neg (show ¬ ((Value.bool true != Value.bool true)=true) from Bool.false_ne_true)];exact wpAny_pure (q _ hz (Heap.SameBut.refl _ _))
 | false=>
  rw [if_pos (show (Value.bool false != Value.bool true)=true from rfl)];exact wpAny_bind (wpAny_setField_rec hz (by simp) λ h₃ he₃ hs₃=>wpAny_pure (q _ he₃ hs₃))
theorem we {Q:Option Value->Shared->Prop} (D:ZipApart z TI TO i1 i2 l1 l2) (hz:wb s.heap z TI TO T f) (hT:s.heap.get? T=some oT) (hTI:IsPair s.heap TI (.ref i1) (.ref i2))
 (h1:s.heap.IsListIter i1 l1 k1) (h2:s.heap.IsListIter i2 l2 k2) (hl1:s.heap.IsList l1 xs) (hl2:s.heap.IsList l2 ys) (hx:xs[k1]?=some x) (hy:ys[k2]?=some y)
 (hQ:∀ h',wb h' z TI TO T true->h'.IsListIter i1 l1 (k1+1)->h'.IsListIter i2 l2 (k2+1)->IsPair h' s.heap.objs.size x y->
  (∀ c o,c≠z->c≠i1->c≠i2->s.heap.get? c=some o->h'.get? c=some o)->Q (some (.ref s.heap.objs.size)) { s with heap:=h' }):
 wpAny (model prog w) A (pyNext (.ref z)) Q E s:=by
 have tz:s.TypeIs (.ref z) "zip" := ⟨_,hz,rfl⟩
 unfold pyNext;refine wpAny_bind (wpAny_attempt (wpAny_callSpecial?_slot (name:=Str.ofString "__next__") tz PySem.F.slot_zip_next (wpAny_call_entry PySem.F.slot_zip_next tz PySem.F.entry_zip_next ?_ (PySem.F.args_zip_next_1 _))));refine wpAny_bind (m:=slotArgs _ _ _) (wpAny_of_eq (a:=(Value.ref z,[])) rfl ?_);refine wpAny_bind (wpAny_field hz rfl (x:=.bool false) rfl ?_);refine wpAny_bind (wpAny_field hz rfl (x:=.ref TI) rfl ?_);refine wpAny_bind (wpAny_seqItems hTI rfl ?_);refine wpAny_bind (m:=Builtin.SmallTypes.ownedTupleIsFree (.ref z)) (pH hz hT λ g1 z1 b1=>?_);simp only [Bool.false_eq_true,if_false];refine wpAny_bind ?_;simp only [List.forIn_toArray,List.forIn_cons,List.forIn_nil];refine wpAny_bind (wpAny_bind (wpAny_holding (wpAny_bind (m:=Builtin.SmallTypes.nextOf (.ref i1)) (wpAny_nextOf_list_item (h1.extBut b1.extBut D.i1z) (hl1.extBut b1.extBut D.l1z) hx λ g2 j1 b2=>wpAny_pure (wpAny_pure ?_)))));refine wpAny_bind (wpAny_bind (wpAny_holding (wpAny_bind (m:=Builtin.SmallTypes.nextOf (.ref i2)) (wpAny_nextOf_list_item ((h2.extBut b1.extBut D.i2z).extBut b2.extBut D.i12.symm) ((hl2.extBut b1.extBut D.l2z).extBut b2.extBut D.l2i1) hy λ g3 j2 b3=>wpAny_pure (wpAny_pure (wpAny_pure ?_))))));refine wpAny_bind (wpAny_newTuple (hsz:=show (2:Nat)<=sizeLine by decide) ?_);have e:g3.objs.size=s.heap.objs.size:=by rw [b3.1,b2.1,b1.1]
 have kp:∀ c o,c≠z->c≠i1->c≠i2->s.heap.get? c=some o->g3.get? c=some o:=λ c o a b d q=>b3.extBut _ _ d (b2.extBut _ _ b (b1.extBut _ _ a q));refine wpAny_pure ⟨_,rfl,wpAny_pure ?_⟩;show Q (some (.ref g3.objs.size)) _;rw [e];refine hQ _ (Heap.get?_push_of_some _ (b3.extBut _ _ D.i2z.symm (b2.extBut _ _ D.i1z.symm z1))) ((j1.extBut b3.extBut D.i12).at λ _ q=>Heap.get?_push_of_some _ q) (j2.at λ _ q=>Heap.get?_push_of_some _ q) ?_ λ c o a b d q=>Heap.get?_push_of_some _ (kp c o a b d q);rw [<-e];exact Heap.get?_push_size _ rfl
theorem zo {Q:Option Value->Shared->Prop} (hh:A.handled=none) (D:ZipApart z TI TO i1 i2 l1 l2) (hz:wb s.heap z TI TO T f) (hT:s.heap.get? T=some oT) (hTI:IsPair s.heap TI (.ref i1) (.ref i2))
 (h1:s.heap.IsListIter i1 l1 k1) (h2:s.heap.IsListIter i2 l2 k2) (hl1:s.heap.IsList l1 xs) (hl2:s.heap.IsList l2 ys) (hx:xs[k1]?=none∨ys[k2]?=none)
 (hQ:∀ h',(∀ c o,c≠z->c≠i1->c≠i2->s.heap.get? c=some o->h'.get? c=some o)->Q none { s with heap:=h' }):
 wpAny (model prog w) A (pyNext (.ref z)) Q E s:=by
 have tz:s.TypeIs (.ref z) "zip" := ⟨_,hz,rfl⟩
 unfold pyNext;refine wpAny_bind (wpAny_attempt (wpAny_callSpecial?_slot (name:=Str.ofString "__next__") tz PySem.F.slot_zip_next (wpAny_call_entry PySem.F.slot_zip_next tz PySem.F.entry_zip_next ?_ (PySem.F.args_zip_next_1 _))));refine wpAny_bind (m:=slotArgs _ _ _) (wpAny_of_eq (a:=(Value.ref z,[])) rfl ?_);refine wpAny_bind (wpAny_field hz rfl (x:=.bool false) rfl ?_);refine wpAny_bind (wpAny_field hz rfl (x:=.ref TI) rfl ?_);refine wpAny_bind (wpAny_seqItems hTI rfl ?_);refine wpAny_bind (m:=Builtin.SmallTypes.ownedTupleIsFree (.ref z)) (pH hz hT λ g1 z1 b1=>?_);simp only [Bool.false_eq_true,if_false];refine wpAny_bind ?_;simp only [List.forIn_toArray,List.forIn_cons,List.forIn_nil];refine wpAny_bind (wpAny_bind (wpAny_holding (wpAny_bind (m:=Builtin.SmallTypes.nextOf (.ref i1)) ?_)));cases ha:xs[k1]? with
 | none=>
  refine wpAny_nextOf_list_end hh (h1.extBut b1.extBut D.i1z) (hl1.extBut b1.extBut D.l1z) ha λ g2 e b2 hq0=>?_;obtain ⟨o,ho,hc⟩:=hq0;refine wpAny_bind (wpAny_isInstance (T := "StopIteration") (b:=true) ⟨o,ho,hc⟩ isSubtype_stop ?_);exact wpAny_pure (hQ _ λ c o a b d q=>b2 _ _ b (b1.extBut _ _ a q))
 | some x=>
  refine wpAny_nextOf_list_item (h1.extBut b1.extBut D.i1z) (hl1.extBut b1.extBut D.l1z) ha λ g2 j1 b2=>wpAny_pure (wpAny_pure ?_);refine wpAny_bind (wpAny_bind (wpAny_holding (wpAny_bind (m:=Builtin.SmallTypes.nextOf (.ref i2)) (wpAny_nextOf_list_end hh ((h2.extBut b1.extBut D.i2z).extBut b2.extBut D.i12.symm) ((hl2.extBut b1.extBut D.l2z).extBut b2.extBut D.l2i1) (hx.resolve_left (by rw [ha];nofun)) λ g3 e b3 hq0=>?_))));obtain ⟨o,ho,hc⟩:=hq0;refine wpAny_bind (wpAny_isInstance (T := "StopIteration") (b:=true) ⟨o,ho,hc⟩ isSubtype_stop ?_);exact wpAny_pure (hQ _ λ c o a b d q=>b3 _ _ d (b2.extBut _ _ b (b1.extBut _ _ a q)))
end
section
variable {prog:Program} {w:World} {A:Around} {E:Value->Shared->Prop} {s:Shared} {z TI TO i1 i2 l1 l2 d:Addr} {xs ys:Array Value}
noncomputable def y7 (z TI TO i1 i2 l1 l2 d:Addr) (xs ys:Array Value) (k:Nat) (h:Heap):Prop:=IsPair h TI (.ref i1) (.ref i2)/\h.IsListIter i1 l1 k/\h.IsListIter i2 l2 k/\h.IsList l1 xs/\h.IsList l2 ys/\
 ((IsZip h z TI TO .none/\∃ a b,IsPair h TO a b)∨∃ T f o,wb h z TI TO T f/\h.get? T=some o/\T≠z/\T≠i1/\T≠i2/\T≠d/\T≠TO)
theorem y7.keep {k:Nat} {h h':Heap} (D:ZipApart z TI TO i1 i2 l1 l2) (n1:d≠z) (n2:d≠TI) (n3:d≠TO) (n4:d≠i1) (n5:d≠i2) (n6:d≠l1) (n7:d≠l2) (q:y7 z TI TO i1 i2 l1 l2 d xs ys k h) (sb:Heap.SameBut d h h'):y7 z TI TO i1 i2 l1 l2 d xs ys k h':=by
 obtain ⟨a,b,c,e,f,g⟩:=q;refine ⟨sb.extBut _ _ n2.symm a,b.extBut sb.extBut n4.symm,c.extBut sb.extBut n5.symm,e.extBut sb.extBut n6.symm,f.extBut sb.extBut n7.symm,?_⟩;rcases g with ⟨g,u,v,j⟩ | ⟨T,f,o,g,j,t1,t2,t3,t4,t5⟩
 . exact .inl ⟨sb.extBut _ _ n1.symm g,u,v,sb.extBut _ _ n3.symm j⟩
 . exact .inr ⟨T,f,o,sb.extBut _ _ n1.symm g,sb.extBut _ _ t4 j,t1,t2,t3,t4,t5⟩
theorem y7.item {k:Nat} {x y:Value} {Q:Option Value->Shared->Prop} (D:ZipApart z TI TO i1 i2 l1 l2) (hd:d<s.heap.objs.size) (q:y7 z TI TO i1 i2 l1 l2 d xs ys k s.heap) (hx:xs[k]?=some x) (hy:ys[k]?=some y)
 (hQ:∀ h' p,y7 z TI TO i1 i2 l1 l2 d xs ys (k+1) h'->IsPair h' p x y->(∀ c o,c≠z->c≠TO->c≠i1->c≠i2->s.heap.get? c=some o->h'.get? c=some o)->Q (some (.ref p)) { s with heap:=h' }):
 wpAny (model prog w) A (pyNext (.ref z)) Q E s:=by
 obtain ⟨hTI,h1,h2,hl1,hl2,g⟩:=q;have lt:∀ {c o},s.heap.get? c=some o->s.heap.objs.size≠c:=λ e=>Nat.ne_of_gt (Heap.lt_size e);have t2:s.heap.objs.size≠i1:=by obtain ⟨o,e,_⟩:=h1;exact lt e
 have t3:s.heap.objs.size≠i2:=by obtain ⟨o,e,_⟩:=h2;exact lt e
 rcases g with ⟨g,u,v,j⟩ | ⟨T,f,o,g,j,t1,t2,t3,t4,t5⟩
 . refine wpAny_pyNext_zip_item D g hTI j h1 h2 hl1 hl2 hx hy λ h' a1 a2 a3 a4 a5 a6 kp=>hQ h' _ ⟨kp _ _ D.TIz D.TITO D.TIi1 D.TIi2 hTI,a3,a4,hl1.at λ o e=>kp _ o D.l1z D.l1TO D.l1i1 D.l1i2 e,hl2.at λ o e=>kp _ o D.l2z D.l2TO D.l2i1 D.l2i2 e,.inr ⟨_,false,_,a1,a5,lt g,t2,t3,Nat.ne_of_gt hd,lt j⟩⟩ a5 kp
 . refine we D g j hTI h1 h2 hl1 hl2 hx hy λ h' a1 a3 a4 a5 kp=>hQ h' _ ⟨kp _ _ D.TIz D.TIi1 D.TIi2 hTI,a3,a4,hl1.at λ o e=>kp _ o D.l1z D.l1i1 D.l1i2 e,hl2.at λ o e=>kp _ o D.l2z D.l2i1 D.l2i2 e,.inr ⟨T,true,o,a1,kp _ _ t1 t2 t3 j,t1,t2,t3,t4,t5⟩⟩ a5 λ c o c1 _ c3 c4 e=>kp c o c1 c3 c4 e
theorem y7.stop {k:Nat} {Q:Option Value->Shared->Prop} (hh:A.handled=none) (D:ZipApart z TI TO i1 i2 l1 l2) (q:y7 z TI TO i1 i2 l1 l2 d xs ys k s.heap) (hx:xs[k]?=none∨ys[k]?=none)
 (hQ:∀ h',(∀ c o,c≠z->c≠TO->c≠i1->c≠i2->s.heap.get? c=some o->h'.get? c=some o)->Q none { s with heap:=h' }):
 wpAny (model prog w) A (pyNext (.ref z)) Q E s:=by
 obtain ⟨hTI,h1,h2,hl1,hl2,g⟩:=q;rcases g with ⟨g,u,v,j⟩ | ⟨T,f,o,g,j,t1,t2,t3,t4,t5⟩
 . exact wpAny_pyNext_zip_end hh D g hTI j h1 h2 hl1 hl2 hx hQ
 . exact zo hh D g j hTI h1 h2 hl1 hl2 hx λ h' kp=>hQ h' λ c o c1 _ c3 c4 e=>kp c o c1 c3 c4 e
noncomputable def Ix (P:Program) (w:World):List Value->List Value->List (bh×Value)->Prop
 | x::xs,y::ys,(k,v)::kvs=>(aS P w).is k x=true/\v=y/\Ix P w xs ys kvs
 | [],_,[]=>True
 | _::_,[],[]=>True
 | _,_,_=>False
theorem jt:entryFor table "dict.update.loop" = some Builtin.«dict.update.loop»:=entryFor_of_fast (by kernel_rfl)
theorem eX:plainId "dict.update.loop" = true:=by decide +kernel
theorem vf {xs:Array Value} {k:Nat} {x:Value} {t:List Value} (h:xs.toList.drop k=x::t):xs[k]?=some x/\xs.toList.drop (k+1)=t:=by
 have e:xs.toList[k]?=some x:=by rw [<-List.head?_drop,h];rfl
 refine ⟨by simpa using e,?_⟩;rw [<-List.drop_drop,h];rfl
theorem rh {xs:Array Value} {k:Nat} (h:xs.toList.drop k=[]):xs[k]?=none:=by
 have e:xs.toList[k]?=none:=by rw [<-List.head?_drop,h];rfl
 simpa using e
theorem zS {R:Result->Shared->Prop} (hh:A.handled=none) (D:ZipApart z TI TO i1 i2 l1 l2) (n1:d≠z) (n2:d≠TI) (n3:d≠TO) (n4:d≠i1) (n5:d≠i2) (n6:d≠l1) (n7:d≠l2):
 ∀ (kvs:List (bh×Value)) (k:Nat) (j:Int) (acc:List (bh×Value)) (s:Shared),Ix prog w (xs.toList.drop k) (ys.toList.drop k) kvs->y7 z TI TO i1 i2 l1 l2 d xs ys k s.heap->fQ prog w s.heap d acc->acc.length+kvs.length<=sizeLine->
  (∀ h' u,fQ prog w h' d (merged acc kvs)->(∀ c o,c≠d->c≠z->c≠TO->c≠i1->c≠i2->s.heap.get? c=some o->h'.get? c=some o)->R (.ok (.ret .none)) { s with heap:=h',toks:=u })->
  codeAny (model prog w) A (.builtin "dict.update.loop" ⟨[.ref d,.ref z,rawInt j,.none],[]⟩) R s:=by
 intro kvs;induction kvs with
 | nil=>
  intro k j acc s hz q hd hl hR;have he:xs[k]?=none∨ys[k]?=none:=by
   cases e1:xs.toList.drop k with
   | nil=>exact .inl (rh e1)
   | cons x t=>
    cases e2:ys.toList.drop k with
    | nil=>exact .inr (rh e2)
    | cons y u=>rw [e1,e2] at hz;exact hz.elim
  refine codeAny_builtin jt ?_;rw [Around.under_plainId eX _];show wpAny _ A.in1 (pyNext (.ref z) >>= _) _ _ s;refine wpAny_bind (y7.stop (by simp [hh]) D q he λ h' kp=>?_);refine wpAny_bind (m:=Builtin.Dict.addKeywords _ []) (wpAny_pure (wpAny_pure ?_));have kd:fQ prog w h' d acc:=by
   obtain ⟨o,es,ep,ho,r⟩:=hd;exact ⟨o,es,ep,kp _ _ n1 n3 n4 n5 ho,r⟩
  exact hR h' s.toks kd λ c o _ c1 c2 c3 c4 e=>kp c o c1 c2 c3 c4 e
 | cons kv kvs ih=>
  intro k j acc s hz q hd hl hR;obtain ⟨ky,v⟩:=kv;cases e1:xs.toList.drop k with
  | nil=>rw [e1] at hz;exact hz.elim
  | cons x t=>
   cases e2:ys.toList.drop k with
   | nil=>rw [e1,e2] at hz;exact hz.elim
   | cons y u=>
    rw [e1,e2] at hz;obtain ⟨hk,rfl,hz⟩:=hz;obtain ⟨ex,rfl⟩:=vf e1;obtain ⟨ey,rfl⟩:=vf e2;have hlt:d<s.heap.objs.size:=by obtain ⟨o,es,ep,ho,_⟩:=hd;exact Heap.lt_size ho
    refine codeAny_builtin jt ?_;rw [Around.under_plainId eX _];show wpAny _ A.in1 (pyNext (.ref z) >>= _) _ _ s;refine wpAny_bind (y7.item D hlt q ex ey λ h' p q' hp kp=>?_);have tp:({ s with heap:=h' }:Shared).TypeIs (.ref p) "tuple" := ⟨_,hp,rfl⟩
    have kd:fQ prog w h' d acc:=by
     obtain ⟨o,es,ep,ho,r⟩:=hd;exact ⟨o,es,ep,kp _ _ n1 n3 n4 n5 ho,r⟩
    refine wpAny_bind (wpAny_holding (wpAny_bind (wpAny_tryCatch ?_)));unfold Builtin.Dict.pairItems;refine wpAny_bind (wpAny_typeOf tp ?_);rw [if_pos (by decide)];refine wpAny_bind (wpAny_seqItems hp rfl (wpAny_pure ?_));show wpAny _ _ (holding [x,v] (dictSet d x v)) _ _ _;simp only [List.length_cons] at hl;refine wpAny_holding (y3 (s:={ s with heap:=h' }) hk kd (by omega) λ h2 kd2 sb=>wpAny_pure ⟨plainId_quiet eX _,?_⟩);have e3:=stored_length_le acc ky v;refine ih (k+1) _ (stored acc ky v) _ hz (q'.keep D n1 n2 n3 n4 n5 n6 n7 sb) kd2 (by omega) λ h3 u3 kd3 kp3=>?_;exact hR h3 u3 kd3 λ c o c0 c1 c2 c3 c4 e=>kp3 c o c0 c1 c2 c3 c4 (sb.extBut _ _ c0 (kp c o c1 c2 c3 c4 e))
theorem yE {n l1 l2:Nat} (t1:l1<n) (t2:l2<n):ZipApart (n+4) (n+2) (n+3) n (n+1) l1 l2:=by constructor <;> exact (show @Ne Nat _ _ by omega)
theorem LC {a b:Nat} (h:b<a):@Ne Addr a b:=Nat.ne_of_gt h
theorem BB {kvs:List (bh×Value)} {Q:Value->Shared->Prop} (hh:A.handled=none) (hl1:s.heap.IsList l1 xs) (hl2:s.heap.IsList l2 ys) (hz:Ix prog w xs.toList ys.toList kvs) (hs:kvs.length<=sizeLine)
 (h:∀ h' p u,fQ prog w h' p (merged [] kvs)->s.heap.objs.size<=p->(∀ c o,s.heap.get? c=some o->h'.get? c=some o)->Q (.ref p) { s with heap:=h',toks:=u }):
 wpAny (model prog w) A (call (.type "zip") [.ref l1,.ref l2]) (λ v s1=>wpAny (model prog w) A (call (.type "dict") [v]) Q E s1) E s:=by
 have t1:l1<s.heap.objs.size:=by obtain ⟨o,e,_⟩:=hl1;exact Heap.lt_size e
 have t2:l2<s.heap.objs.size:=by obtain ⟨o,e,_⟩:=hl2;exact Heap.lt_size e
 refine call_zip_2 hl1 hl2 λ h' g5 g3 g4 g1 g2 z5 k=>?_;refine callType_codes (Q₁:=λ obj s₁=>obj=.ref h'.objs.size/\s₁={ s with heap:=h'.push { cls:=.type "dict", data:=.dict #[] } }) PySem.F.kt_called_dict (PySem.F.kt_typeCall_dict_1 _) PySem.F.entry_dict_init (kt_code_dict_new _ ⟨rfl,rfl⟩) ?_;rintro obj s₁ ⟨rfl,rfl⟩;generalize eh:h'.push { cls:=.type "dict", data:=.dict #[] }=h2;have kp:∀ c o,h'.get? c=some o->h2.get? c=some o:=λ c o e=>by rw [<-eh];exact Heap.get?_push_of_some _ e
 have nd:h2.get? h'.objs.size=some { cls:=.type "dict", data:=.dict #[] }:=by rw [<-eh];exact Heap.get?_push_size _ rfl
 have ty:({ s with heap:=h2 }:Shared).TypeIs (.ref h'.objs.size) "dict" := ⟨_,nd,rfl⟩
 have tz:∀ {h3:Heap} {u:Nat},(∀ c o,h2.get? c=some o->h3.get? c=some o)->({ s with heap:=h3,toks:=u }:Shared).TypeIs (.ref (s.heap.objs.size+4)) "zip" := λ a=>⟨_,a _ _ (kp _ _ g5),rfl⟩
 refine ⟨ty,PySem.F.args_dict_init_2 _ _,?_⟩;unfold Builtin.«dict.__init__»;refine wpAny_bind ?_;unfold Builtin.Dict.selfAndRest;refine wpAny_bind (wpAny_notOrdered_dict ty ?_);show wpAny _ _ (pure (h'.objs.size,[Value.ref (s.heap.objs.size+4)])) _ _ _;refine wpAny_pure ?_;show wpAny _ _ (Builtin.Dict.updateFrom "dict.__init__" h'.objs.size (.ref (s.heap.objs.size+4)) [] .none) _ _ _;unfold Builtin.Dict.updateFrom;refine wpAny_bind (wpAny_typeOf (tz λ _ _ e=>e) ?_);rw [if_pos (by decide)];refine wpAny_bind (zk (kp _ _ g5) (by simp [hh]) λ h3 u3 k3=>?_);rw [if_pos (show (none:Option Value).isNone=true from rfl)];refine wpAny_bind (wpAny_rule ?_);refine wpAny_bind (wpAny_pyIter_zip (f0:=.none) (k3 _ _ (kp _ _ g5)) (wpAny_pure ?_));have D:=yE t1 t2;have lt:∀ {j:Nat},j<s.heap.objs.size+5->@Ne Addr h'.objs.size j:=λ h=>LC (by rw [z5];exact h);refine ⟨plainId_quiet eX _,zS (d:=h'.objs.size) (xs:=xs) (ys:=ys) (by simp [hh]) D (lt (by omega)) (lt (by omega)) (lt (by omega)) (lt (by omega)) (lt (by omega)) (lt (Nat.lt_of_lt_of_le t1 (by omega))) (lt (Nat.lt_of_lt_of_le t2 (by omega))) kvs 0 0 [] _ hz ⟨k3 _ _ (kp _ _ g3),g1.at λ o e=>k3 _ _ (kp _ _ e),g2.at λ o e=>k3 _ _ (kp _ _ e),hl1.at λ o e=>k3 _ _ (kp _ _ (k _ _ e)),hl2.at λ o e=>k3 _ _ (kp _ _ (k _ _ e)),.inl ⟨k3 _ _ (kp _ _ g5),_,_,k3 _ _ (kp _ _ g4)⟩⟩ ⟨_,#[],0,k3 _ _ nd,⟨rfl,rfl,rfl⟩,rfl,rfl,λ _ he=>by simp at he,.nil,List.nodup_nil⟩ (by simpa using hs) λ h4 u4 kd4 kp4=>⟨rfl,?_⟩⟩;refine h h4 _ u4 kd4 (by rw [z5];omega) λ c o e=>?_;have hc:=Heap.lt_size e;exact kp4 c o (Ne.symm (lt (Nat.lt_of_lt_of_le hc (by omega)))) (Nat.ne_of_lt (Nat.lt_of_lt_of_le hc (by omega))) (Nat.ne_of_lt (Nat.lt_of_lt_of_le hc (by omega))) (Nat.ne_of_lt hc) (Nat.ne_of_lt (Nat.lt_of_lt_of_le hc (by omega))) (k3 _ _ (kp _ _ (k _ _ e)))
end
noncomputable def FP:List V->List V->Option (List (bh×V))
 | .str k::xs,y::ys=>(FP xs ys).map ((.inr k,y)::·)
 | [],_=>some []
 | _::_,[]=>some []
 | _,_=>none
theorem uY:∀ {xs ys:List V} {kvs:List (bh×V)},FP xs ys=some kvs->kvs.length<=xs.length:=by
 intro xs;induction xs with
 | nil=>intro ys kvs h;cases h;exact Nat.le_refl _
 | cons x xs ih=>
  intro ys kvs h;cases ys with
  | nil=>cases x <;> (cases h;exact Nat.zero_le _)
  | cons y ys=>
   cases x with
   | str k=>
    obtain ⟨r,e,rfl⟩:=oM h
    exact Nat.succ_le_succ (ih e)
   | _=>cases h
theorem DH {P:Program} {w:World}:∀ {xs ys:List V} {us vs:List Value} {kvs:List (bh×V)},FP xs ys=some kvs->bn xs us->bn ys vs->∃ rs,Ix P w us vs rs/\KV kvs rs:=by
 intro xs;induction xs with
 | nil=>
  intro ys us vs kvs h r1 r2;cases h;cases r1;exact ⟨[],True.intro,.nil⟩
 | cons x xs ih=>
  intro ys us vs kvs h r1 r2;cases r1 with
  | cons a r1=>
   cases r2 with
   | nil=>cases x <;> (cases h;exact ⟨[],True.intro,.nil⟩)
   | cons b r2=>
    cases x with
    | str k=>
     obtain ⟨r,e,rfl⟩:=oM h
     obtain ⟨rs,z,q⟩:=ih e r1 r2;obtain ⟨t,rfl⟩:=a;exact ⟨(.inr k,_)::rs,⟨p9 (k:=.inr k) ⟨t,rfl⟩,rfl,z⟩,.cons ⟨rfl,b⟩ q⟩
    | _=>cases h
noncomputable def KR (K:Frag) (t:TA):TE:=λ σ H Q=>t σ H λ vs H1=>∃ a b xs ys kvs,vs=[.ref a,.ref b]/\dM K H1 a xs/\dM K H1 b ys/\FP xs ys=some kvs/\∀ p,H1 p=none->Q (.ref p) (cR H1 p (.dK (fw [] kvs)))
theorem boot_dict':bootBuiltins "dict" = some (.type "dict"):=by decide +kernel
theorem K9 {X:Cx} {K:Frag} {a b:Expr} {t:TA} {p p2 pos pos2:Pos} (hK:X.K=K) (hc:X.calm=true) (hg:Gl X "dict") (hm:X.mg "dict" = none) (hg2:Gl X "zip") (hm2:X.mg "zip" = none) (ha:PA X [a,b] t)
 (hs:starEach [a,b] X.env=[(false,eval a X.env),(false,eval b X.env)]) (hs2:starEach [b] X.env=[(false,eval b X.env)]):
 PE X (.Call (.Name "dict" p) [.Call (.Name "zip" p2) [a,b] [] pos2] [] pos) (KR K t):=by
 subst hK;have hs3:starEach [.Call (.Name "zip" p2) [a,b] [] pos2] X.env=[(false,eval (.Call (.Name "zip" p2) [a,b] [] pos2) X.env)]:=rfl;intro pins s σ H Q I h;refine wpAny_Call_Name_kw (jz I hg hm boot_dict' ?_ (by decide) (by decide));refine PyProof.Rows.callWith_type1 ?_ (by rw [hs3];rfl) rfl;rw [hs3];show wpAny _ _ (spliced ((false,eval (.Call (.Name "zip" p2) [a,b] [] pos2) X.env)::[])) _ _ s;refine Calls.spliced_cons (wpAny_Call_Name_kw (jz I hg2 hm2 boot_zip (PyProof.Rows.callWith_type1 (cc (ha pos2 pins s σ H _ I h) λ us s1 hq0=>?_) (by rw [hs,hs2]) (by rw [hs2];rfl))));obtain ⟨vs,H1,I1,r1,q1⟩:=hq0;obtain ⟨a,b,xs,ys,kvs,e,qx,qy,ek,q⟩:=q1;subst e;obtain ⟨u1,u2,rfl,ra,rb⟩:=Ia r1;cases ra;cases rb;obtain ⟨its,rvx,px,zx⟩:=I1.list qx;obtain ⟨jts,rvy,py,_⟩:=I1.list qy;obtain ⟨rs,zp,kv⟩:=DH (P:=X.prog) (w:=X.w) ek rvx rvy;have hl:rs.length<=sizeLine:=by rw [<-Paired.length kv];exact Nat.le_trans (uY ek) zx
 refine cc (BB (I1.ok.hd hc) px.isList py.isList (by simpa using zp) hl λ h' p u dd hp kp=>?_) λ v s2 y=>wpAny_pure y;have hz:(fw [] kvs).length<=sizeLine:=by
  have h1:=hV kvs [];rw [List.length_nil] at h1;have:=uY ek;omega
 have hb:(p==sysModules)=false:=beq_eq_false_iff_ne.mpr (Nat.ne_of_gt (Nat.lt_of_lt_of_le I1.big hp));exact ⟨.ref p,_,I1.laid (t':=u) kp hp (uf hz hb (kv.merge .nil) dd),rfl,q _ (I1.hok.fresh hp)⟩
noncomputable def HK:List W->List W->Option (List (bh×W))
 | .str k::xs,y::ys=>(HK xs ys).map ((.inr k,y)::·)
 | [],_=>some []
 | _::_,[]=>some []
 | _,_=>none
section
variable {K:Frag} {cl:Str->Addr} {E:XK}
noncomputable def JE:List W->Option (List (bh×W))
 | [.list a,.list b]=>HK a b
 | _=>none
noncomputable def IQ (f:DS->ai->SM (List W)):DS->ai->SM W:=λ δ S=>au (f δ S) λ ds S1=>(JE ds).bind λ kvs=>some (.ok (.ref S1.length),S1++[.dK (iF [] kvs)])
theorem Fk {ρ:List Addr} {G:Hp}:∀ {ds es:List W} {vs us:List V} {kvs:List (bh×W)},HK ds es=some kvs->aF K ρ G vs ds->aF K ρ G us es->∃ ms,FP vs us=some ms/\hZ K ρ G kvs ms:=by
 intro ds;induction ds with
 | nil=>
  intro es vs us kvs h d1 d2;cases h;cases d1;exact ⟨[],rfl,.nil⟩
 | cons x xs ih=>
  intro es vs us kvs h d1 d2;cases d1 with
  | cons a d1=>
   cases d2 with
   | nil=>
    have hk:kvs=[]:=by cases x <;> (cases h;rfl)
    subst hk;rename_i v _;exact ⟨[],by cases v <;> rfl,.nil⟩
   | cons b d2=>
    cases x with
    | str k=>
     obtain ⟨r,e,rfl⟩:=oM h
     obtain ⟨ms,z,q⟩:=ih e d1 d2;cases a;exact ⟨(.inr k,_)::ms,by show (FP _ _).map _=_;rw [z];rfl,.cons b q⟩
    | _=>cases h
theorem Hc {t:TA} {f:DS->ai->SM (List W)} (h:SA K cl E t f):SE K cl E (KR K t) (IQ f):=λ ρ G σ H δ S r' S' Q R e q qx=>
 iI h R e (λ ds S1 e1 vs ρ1 G1 H1 g1 s1 da=>by
  obtain ⟨kvs,e2,e3⟩:=oB e1
  cases e3;unfold JE at e2;split at e2
  . obtain ⟨v,u,rfl,dv,du⟩:=xk da;cases dv with
    | lst sq dA=>
     cases du with
     | lst sq2 db=>
      obtain ⟨ms,ez,kv⟩:=Fk e2 dA db;refine ⟨_,_,_,_,ms,rfl,g1.s.seq sq,g1.s.seq sq2,ez,λ p hp=>?_⟩;have n:Nw H1 (cR H1 p (.dK (fw [] ms))) p (.dK (fw [] ms)):=.of hp;obtain ⟨s3,g3⟩:=s1.push (o:=.dK (iF [] kvs)) g1.s n λ ρ' hr=>⟨_,aJ,hZ.merge (kv.extR hr) .nil⟩
      exact q _ rfl _ _ _ _ (g1.trans g3) s3 (.ref (by rw [<-s1.len];simp))
  . cases e2) qx
end
noncomputable def KJ (K:Frag) (a:Addr) (n:Nat):It:=
 ⟨λ i H=>i<n/\∃ xs,dM K H a xs/\xs.length=n,λ i H x H'=>H'=H/\∀ xs,dM K H a xs->xs.reverse[i]?=some x,λ i _=>n<=i⟩
theorem Fp {P:Program} {w:World} {K:Frag} {tg:Expr} (a it:Addr) (n:Nat):vX P w K tg (KJ K a n) [it] it (λ i h=>i<=n/\h.IsRevIter it a ((n:Int)-1-(i:Int))) where
 mem:=by simp
 obj:=λ i h st b hb=>by
  have e:b=it:=by simpa using hb
  subst e;obtain ⟨_,o,e,c,d⟩:=st;exact ⟨o,e,λ v z=>by rw [d] at z;cases z⟩
 keep:=λ i h h' st k=>⟨st.1,st.2.at λ o e=>k it (by simp) o e⟩
 item:=by
  intro X hP hw hK hc i pins s σ H E I hf st hg;subst hP hw hK;obtain ⟨hi,xs,hq,hn⟩:=hg;replace st:=st.2;obtain ⟨its,rv,p,hz⟩:=I.list hq;have hj:n-1-i<xs.length:=by omega
  obtain ⟨u,hu,ru⟩:=rv.get (List.getElem?_eq_getElem hj);obtain ⟨f0,f1,f2,f3,f4,f5⟩:=hf it (by simp);have e1:(n:Int)-1-(i:Int)=((n-1-i:Nat):Int):=by omega
  rw [e1] at st;refine wpAny_pyNext_rev_item st p.isList (x:=u) (by simpa using hu) λ h' st' sb=>?_;have e2:((n-1-i:Nat):Int)-1=(n:Int)-1-((i+1:Nat):Int):=by omega
  rw [e2] at st';have I1:aK X pins σ H { s with heap:=h' }:=I.turned (t':=s.toks) (λ b o hb e=>(sb.2 b hb).trans e) f0 f1 f3 f4 f5;obtain ⟨o,e,c,d⟩:=id st';refine ⟨u,rfl,uJ (s:={ s with heap:=h' }) e c d (by decide) ⟨xs[n-1-i],H,I1,ru,⟨rfl,λ ys hy=>?_⟩,⟨hi,st'⟩,λ b hb=>(hf b hb).1⟩⟩;rw [I.list_inj hy hq,List.getElem?_reverse (by omega),hn];exact List.getElem?_eq_getElem hj
 done:=by
  intro X hP hw hK hc i pins s σ H E I hf st hg;subst hP hw hK;have hg':i=n:=Nat.le_antisymm st.1 hg;subst hg';replace st:=st.2;obtain ⟨f0,f1,f2,f3,f4,f5⟩:=hf it (by simp);rw [show (i:Int)-1-(i:Int) = -1 by omega] at st;exact wpAny_pyNext_rev_end (I.ok.hd hc) st λ h' eb=>⟨rfl,I.turned (t':=s.toks) (λ b o hb e=>eb b o hb e) f0 f1 f3 f4 f5⟩
 self:=λ _ _ _ _ _ st h=>wpAny_pyIter_revIter st.2 h
noncomputable def Kr (K:Frag) (ta:TA):TI:=λ σ H R=>ta σ H λ vs H1=>∃ a xs,vs=[.ref a]/\dM K H1 a xs/\R (KJ K a xs.length) H1
theorem Ee {X:Cx} {tg:Expr} {a:Expr} {ta:TA} {p pos:Pos} (hg:Gl X "reversed") (hm:X.mg "reversed" = none) (ha:PA X [a] ta) (hs:starEach [a] X.env=[(false,eval a X.env)]:=by rfl):
 PI X tg (.Call (.Name "reversed" p) [a] [] pos) (Kr X.K ta):=by
 intro pins s σ H R I h;refine Call_ (jz I hg hm boot_reversed (PyProof.Rows.callWith_type1 (cc (ha pos pins s σ H _ I h) λ us s1 hq0=>?_) hs rfl));obtain ⟨vs,H1,I1,r1,q1⟩:=hq0;obtain ⟨a,xs,e,qx,q⟩:=q1;subst e;cases r1 with
 | cons r rr=>
  cases rr;cases r;obtain ⟨its,rvx,px,_⟩:=I1.list qx;have lx:=rvx.length;refine call_reversed_list px.isList ?_;have g:({ s1 with heap:=s1.heap.push (revObj a ((its.toArray.size:Int)-1)) }:Shared).heap.IsRevIter s1.heap.objs.size a ((xs.length:Int)-1-((0:Nat):Int)):=⟨_,Heap.get?_push_size _ rfl,rfl,by
   show (revObj a ((its.toArray.size:Int)-1)).data=_;unfold revObj;rw [show ((its.toArray.size:Int)-1)=(xs.length:Int)-1-((0:Nat):Int) from by rw [List.size_toArray];omega]⟩
  refine wpAny_pyIter_revIter (s:={ s1 with heap:=s1.heap.push (revObj a ((its.toArray.size:Int)-1)) }) g ?_;refine ⟨s1.heap.objs.size,[s1.heap.objs.size],_,_,H1,rfl,I1.kept (t':=s1.toks) λ b o e=>Heap.get?_push_of_some _ e,Fp a _ xs.length,⟨Nat.zero_le _,g⟩,λ b hb=>?_,q⟩;have e:b=s1.heap.objs.size:=by simpa using hb
  subst e;exact I1.fpOk (Nat.le_refl _) (I1.hok.fresh (Nat.le_refl _))
theorem K6 {X:Cx} {K:Frag} {tg:Expr} {a:Expr} {ta:TA} {p pos:Pos} (h:X.K=K) (hg:Gl X "reversed") (hm:X.mg "reversed" = none) (ha:PA X [a] ta) (hs:starEach [a] X.env=[(false,eval a X.env)]):
 PI X tg (.Call (.Name "reversed" p) [a] [] pos) (Kr K ta):=h▸Ee hg hm ha hs
section
variable {K:Frag} {ρ:List Addr}
noncomputable def ye (f:DS->Option (List W)):DS->Option (List W):=λ δ=>(f δ).bind λ ds=>match ds with
 | [.list a]=>some a.reverse
 | _=>none
theorem Ff {G:Hp}:∀ {vs:List V} {ds:List W} {i:Nat} {d:W},aF K ρ G vs ds->ds.reverse[i]?=some d->∃ v,vs.reverse[i]?=some v/\Dw K ρ G v d:=by
 intro vs ds i d da h;have hl:=da.length;have hi:=(oG h).1;simp only [List.length_reverse] at hi;rw [List.getElem?_reverse hi] at h;obtain ⟨v,h1,h2⟩:=da.get h;refine ⟨v,?_,h2⟩;rw [List.getElem?_reverse (by omega),hl];exact h1
theorem zN {t:TA} {f:DS->Option (List W)} (h:DA K ρ t f):DI K ρ (Kr K t) (ye f):=λ G σ H δ ds R' R e q=>by
 obtain ⟨es,ed,e⟩:=oB e
 refine h G σ H δ es _ R ed λ vs G1 H1 g1 da=>?_;split at e
 . cases e;cases da with
   | cons dv dr=>
    cases dr;cases dv with
    | @lst a xs _ sq dA=>
     refine ⟨_,_,rfl,g1.s.seq sq,q _ G1 H1 g1 λ i G2 H2 a b=>⟨λ d hd=>?_,λ hi=>?_⟩⟩
     . obtain ⟨v,h1,h2⟩:=Ff dA hd;have hi:=(oG h1).1;simp only [List.length_reverse] at hi;refine ⟨⟨hi,_,(a.trans b).seq sq,rfl⟩,λ x H' y=>?_⟩;obtain ⟨rfl,y⟩:=y;have:=y _ ((a.trans b).seq sq);rw [h1] at this;cases this;exact ⟨G2,.refl b,h2.same a⟩
     . have hl:=dA.length;show _<=i;simp only [List.length_reverse] at hi;omega
 . cases e
end
section
variable {K:Frag} {cl:Str->Addr} {E:XK}
noncomputable def ol (c m:Str) (f:List W->ai->SM W) (fo:DS->ai->SM W) (fa:DS->ai->SM (List W)):DS->ai->SM W:=cz c m f fo fa
theorem yy {c m:Str} {f:List W->ai->SM W} {to:TE} {t:TA} {fo:DS->ai->SM W} {fa:DS->ai->SM (List W)} (ho:SE K cl E to fo) (h:SA K cl E t fa):SE K cl E (nA (cl c) m (tj K cl f) [] E0 to t) (ol c m f fo fa):=λ ρ G σ H δ S r S' Q R e q qx=>
 di ho R e (λ x S1 e1 v ρ1 G1 H1 g1 s1 dv=>by
  obtain ⟨⟨n,fs⟩,e2,e3⟩:=oB e1
  split at e3
  case isFalse=>cases e3
  rename_i hm;obtain ⟨rfl,e5⟩:=dy e2;obtain ⟨a,rfl,ea⟩:=cE dv;obtain ⟨ga,dx,ws,k1,k2,k3,k4⟩:=s1.addr e5 ea;refine ⟨a,dx,ws,rfl,k1,k4.lookup_none hm,?_⟩;exact iI h (R.grow g1 s1) e3 (λ ds S2 e6 vs ρ2 G2 H2 g2 s2 da=>by
   obtain ⟨d,rfl,e7⟩:=jy e6;exact ⟨ρ2,G2,S2,.ref n::ds,.ok d,S',g2.s,s2,by rw [List.append_nil];exact .cons ((dv.ext g2.r).same g2.g) da,e7,λ d' hd v ρ3 G3 H3 g3 s3 dv=>by cases hd;exact q d rfl v ρ3 G3 H3 (g1.trans (g2.trans g3)) s3 dv,λ c hc=>by cases hc⟩) λ c hc ρ2 G2 H2 g2 s2=>qx c hc ρ2 G2 H2 (g1.trans g2) s2) qx
end
end L2
set_option Elab.async false
set_option linter.all false
set_option maxRecDepth 100000
namespace My
open PySem PySem.Spec PyProof.Rows L2
open PySem.W (Frag)
local macro_rules | `(tactic| simp! [$a,*] $[$l]?)=>`(tactic| simp only [Nat.reduceAdd,Nat.reduceSub,reduceIte,Nat.reduceEqDiff,List.replicate,$a,*] $[$l]?)
noncomputable def top (i:Nat):Stmt:=PySem.Challenge.pw_widelanes_k44_alone_calls.main.body.getD i (.Pass ⟨0,0,0,0⟩)
noncomputable abbrev pT:Stmt:=top 8
noncomputable abbrev mq:Stmt:=top 10
noncomputable abbrev rm:Stmt:=top 9
noncomputable abbrev cS:Stmt:=bu (top 1) 0
noncomputable abbrev dE:Stmt:=bu (top 1) 1
noncomputable abbrev dZ:Stmt:=bu (top 1) 2
noncomputable abbrev fj:Stmt:=bu (top 1) 3
noncomputable abbrev cH:Stmt:=bu (top 4) 0
noncomputable abbrev cn:Stmt:=bu (top 4) 1
noncomputable abbrev cW:Stmt:=bu (top 4) 2
noncomputable abbrev cC:Stmt:=bu (top 14) 0
noncomputable abbrev bM:Stmt:=bu (top 14) 1
noncomputable abbrev cD:Stmt:=bu (top 14) 2
noncomputable abbrev ci:Stmt:=bu (top 14) 3
noncomputable abbrev d7:Stmt:=bu (top 14) 5
noncomputable abbrev cU:Stmt:=bu (top 19) 0
noncomputable abbrev fu:Stmt:=bu (top 19) 16
noncomputable abbrev gE:Stmt:=bu (top 19) 15
noncomputable abbrev cT:Stmt:=bu (top 19) 14
noncomputable abbrev fV:Stmt:=bu (top 19) 12
noncomputable abbrev d9:Stmt:=bu (top 19) 11
noncomputable abbrev dH:Stmt:=bu (top 19) 8
noncomputable abbrev fq:Stmt:=bu (top 19) 10
noncomputable abbrev ij:Stmt:=bu (top 19) 4
noncomputable abbrev fR:Stmt:=bu (top 19) 3
noncomputable abbrev dF:Stmt:=bu (top 19) 2
noncomputable abbrev im:Stmt:=bu (top 19) 1
noncomputable abbrev vk:Stmt:=top 20
noncomputable abbrev lT:Stmt:=top 22
noncomputable abbrev kC:Stmt:=top 23
noncomputable abbrev iu:Stmt:=top 24
noncomputable abbrev gZ:Stmt:=top 25
noncomputable abbrev kA:Stmt:=top 26
noncomputable abbrev jT:Stmt:=top 27
noncomputable abbrev mm:Stmt:=top 28
noncomputable abbrev lX:Stmt:=top 29
noncomputable abbrev m7:Stmt:=top 30
noncomputable abbrev j6:Stmt:=top 31
noncomputable abbrev kR:Stmt:=top 32
noncomputable abbrev jZ:Stmt:=top 33
noncomputable abbrev js:Stmt:=top 34
noncomputable abbrev rD:Stmt:=top 35
noncomputable def bL (c_Walk c_Frame c_Story c_Goer c_Nought c_Outside:Addr):Str->Addr:=λ s=>if s = "Walk" then c_Walk else if s = "Frame" then c_Frame else if s = "Story" then c_Story else if s = "Goer" then c_Goer else if s = "Nought" then c_Nought else if s = "Outside" then c_Outside else 0
theorem fX (c_Walk c_Frame c_Story c_Goer c_Nought c_Outside:Addr):bL c_Walk c_Frame c_Story c_Goer c_Nought c_Outside "Walk" = c_Walk:=by
 unfold bL;rw [if_pos rfl]
theorem dU (c_Walk c_Frame c_Story c_Goer c_Nought c_Outside:Addr):bL c_Walk c_Frame c_Story c_Goer c_Nought c_Outside "Frame" = c_Frame:=by
 unfold bL;rw [if_neg (by decide +kernel),if_pos rfl]
theorem bF (c_Walk c_Frame c_Story c_Goer c_Nought c_Outside:Addr):bL c_Walk c_Frame c_Story c_Goer c_Nought c_Outside "Story" = c_Story:=by
 unfold bL;rw [if_neg (by decide +kernel),if_neg (by decide +kernel),if_pos rfl]
theorem ba (c_Walk c_Frame c_Story c_Goer c_Nought c_Outside:Addr):bL c_Walk c_Frame c_Story c_Goer c_Nought c_Outside "Goer" = c_Goer:=by
 unfold bL;rw [if_neg (by decide +kernel),if_neg (by decide +kernel),if_neg (by decide +kernel),if_pos rfl]
theorem kf (c_Walk c_Frame c_Story c_Goer c_Nought c_Outside:Addr):bL c_Walk c_Frame c_Story c_Goer c_Nought c_Outside "Nought" = c_Nought:=by
 unfold bL;rw [if_neg (by decide +kernel),if_neg (by decide +kernel),if_neg (by decide +kernel),if_neg (by decide +kernel),if_pos rfl]
theorem jC (c_Walk c_Frame c_Story c_Goer c_Nought c_Outside:Addr):bL c_Walk c_Frame c_Story c_Goer c_Nought c_Outside "Outside" = c_Outside:=by
 unfold bL;rw [if_neg (by decide +kernel),if_neg (by decide +kernel),if_neg (by decide +kernel),if_neg (by decide +kernel),if_neg (by decide +kernel),if_pos rfl]
noncomputable def cZ:List W->Option W:=eu 1 1
 (bw (aA bv (aA cx (aA gSub' (ay 0) (dC (.int (-2147483648)))) (dC (.int 4294967296))) (dC (.int (-2147483648)))))
noncomputable def j3:List W->Option W:=eu 3 3
 (aM (eV (aC dJ (ay 0) (dC (.str "+")))
  (bw (aA bv (ay 1) (ag 2)))
  aI)
 (aM (eV (aC dJ (ay 0) (dC (.str "-")))
  (bw (aA gSub' (ay 1) (ag 2)))
  aI)
 (aM (eV (aC dJ (ay 0) (dC (.str "*")))
  (bw (aA je (ay 1) (ag 2)))
  aI)
 (aM (eV (aC dJ (ay 0) (dC (.str "div")))
  (bw (aA jx (ay 1) (ag 2)))
  aI)
 (aM (eV (aC dJ (ay 0) (dC (.str "rem")))
  (bw (aA gSub' (ay 1) (aA je (ay 2) (aA jx (ay 1) (ag 2)))))
  aI)
 (aM (eV (aC dJ (ay 0) (dC (.str "<")))
  (bw (FH (aC rX (ay 1) (ay 2)) (dC (.int (1))) (dC (.int (0)))))
  aI)
 (bw (FH (aC dJ (ay 1) (ay 2)) (dC (.int (1))) (dC (.int (0)))))))))))
noncomputable def kY:List W->Option W:=eu 3 3
 (aM (eV (jg (aC sS (ay 0) (bx (ae (dC (.str "div")) (ae (dC (.str "rem")) ak)))) (aC dJ (ay 2) (dC (.int (0)))))
  (bw (dC .none))
  aI)
 (bw (bU cZ (ae (bU j3 (ae (ag 0) (ae (ag 1) (ae (ag 2) ak)))) ak))))
noncomputable def cX:List W->ai->SM W:=bc 2 2
 (av (cu "Walk" "row" (aa (ag 0)) (aa (ag 1)))
 (cu "Walk" "at" (aa (ag 0)) (aa (dC (.int (0))))))
noncomputable def eY:List W->ai->SM W:=bc 1 1
 (gf (sB (jL false (ao "Walk" "at" (aa (ag 0))) (ji (ao "Walk" "row" (aa (ag 0)))))))
noncomputable def hW:List W->ai->SM W:=bc 1 1
 (gf (sIx (ao "Walk" "row" (aa (ag 0))) (ao "Walk" "at" (aa (ag 0)))))
noncomputable def i8:List W->ai->SM W:=bc 1 2
 (av (cQ (sIx (ao "Walk" "row" (aa (ag 0))) (ao "Walk" "at" (aa (ag 0)))) (aj 1))
 (av (j8 "Walk" "at" (aa (ag 0)) (aa (dC (.int (1)))))
 (ax (bw (ag 1)))))
noncomputable def b8:List W->ai->SM W:=bc 4 4
 (av (cu "Frame" "names" (aa (ag 0)) (aa (ag 2)))
 (av (cu "Frame" "given" (aa (ag 0)) (aa (ag 3)))
 (av (cu "Frame" "walks" (aa (ag 0)) (cP (aQ (jF "Walk" cX (aa (ae (ag 1) ak))) bW)))
 (cu "Frame" "loops" (aa (ag 0)) (cP (aa ak))))))
noncomputable def ge:DS->ai->SO:=(av (bd (re (ao "Frame" "walks" (aa (ag 0)))))
 (bD (oY (mB (ao "Frame" "loops" (aa (ag 0)))) (jL false (sIx (ao "Frame" "loops" (aa (ag 0))) (aa (jQ dD (dC (.int (1)))))) (ji (ao "Frame" "walks" (aa (ag 0))))))
  (bd (re (ao "Frame" "loops" (aa (ag 0)))))
  (ax aI)))
noncomputable def dj:List W->ai->SM W:=bc 1 1
 (av (br (oY (mB (ao "Frame" "walks" (aa (ag 0)))) (nS (cz "Walk" "is_over" eY (sIx (ao "Frame" "walks" (aa (ag 0))) (aa (jQ dD (dC (.int (1)))))) (aa ak)))) ge 1000000)
 (gf (FM (mB (ao "Frame" "walks" (aa (ag 0)))) (cz "Walk" "before" hW (sIx (ao "Frame" "walks" (aa (ag 0))) (aa (jQ dD (dC (.int (1)))))) (aa ak)) (aa (dC .none)))))
noncomputable def cY:List W->ai->SM W:=bc 1 1
 (bd (cz "Walk" "taken" i8 (sIx (ao "Frame" "walks" (aa (ag 0))) (aa (jQ dD (dC (.int (1)))))) (aa ak)))
noncomputable def cG:List W->ai->SM W:=bc 1 1
 (av (cu "Story" "told" (aa (ag 0)) (cP (aa ak)))
 (av (cu "Story" "steps" (aa (ag 0)) (aa (dC (.int (0)))))
 (av (cu "Story" "end" (aa (ag 0)) (aa (dC .none)))
 (av (cu "Story" "brought" (aa (ag 0)) (cP (aa ak)))
 (av (cu "Story" "touches" (aa (ag 0)) (cP (aa ak)))
 (av (cu "Story" "puts" (aa (ag 0)) (cP (aa ak)))
 (cu "Story" "lines" (aa (ag 0)) (cP (aa ak)))))))))
noncomputable def dX:List W->ai->SM W:=bc 1 1
 (av (bN (ao "Story" "touches" (aa (ag 0))) (cP (aa ak)))
 (bN (ao "Story" "puts" (aa (ag 0))) tG))
noncomputable def dQ:List W->ai->SM W:=bc 2 2
 (av (j8 "Story" "steps" (aa (ag 0)) (aa (dC (.int (1)))))
 (bN (ao "Story" "lines" (aa (ag 0))) (aa (ag 1))))
noncomputable def gS:List W->ai->SM W:=bc 4 4
 (bN (sIx (ao "Story" "touches" (aa (ag 0))) (aa (jQ dD (dC (.int (1)))))) (aa (bx (ae (ag 1) (ae (ag 2) (ae (ag 3) ak))))))
noncomputable def bz:List W->ai->SM W:=bc 3 3
 (cu "Story" "end" (aa (ag 0)) (aa (bx (ae (ag 1) (ae (ag 2) ak)))))
noncomputable def gY:DS->ai->SO:=(iN (ao "Goer" "defs" (aa (ag 0))) (aa (aA aR (ay 7) (dC (.int (0))))) (aa (ag 7)))
noncomputable def fY:List W->ai->SM W:=bc 7 8
 (av (cu "Goer" "defs" (aa (ag 0)) tG)
 (av (jj (aa (cK (ag 1))) (aj 7) gY)
 (av (cu "Goer" "lane" (aa (ag 0)) (aa (ag 2)))
 (av (cu "Goer" "signs" (aa (ag 0)) (v5 [(Str.ofString "lane", (ag 2)),(Str.ofString "lanes", (ag 3)),(Str.ofString "mine", (bU cZ (ae (ag 4) ak)))]))
 (av (cu "Goer" "boxes" (aa (ag 0)) (pZ [none] (aa (cK (ag 5))) (aj 0) (aa lB) (aa (bU cZ (ae (ag 0) ak)))))
 (av (cu "Goer" "most" (aa (ag 0)) (aa (ag 6)))
 (av (cu "Goer" "frames" (aa (ag 0)) (cP (aQ (jF "Frame" b8 (aQ (sIx (iP (ao "Goer" "defs" (aa (ag 0))) (aa (dC (.str "main")))) (aa (dC (.int (2))))) (aQ tG (aQ (aa (dC .none)) bW)))) bW)))
 (av (cu "Goer" "line" (aa (ag 0)) (aa (dC .none)))
 (av (cu "Goer" "meeting" (aa (ag 0)) (aa (dC .none)))
 (av (cu "Goer" "story" (aa (ag 0)) (jF "Story" cG (aa ak)))
 (bd (cz "Story" "begin_phase" dX (ao "Goer" "story" (aa (ag 0))) (aa ak)))))))))))))
noncomputable def lr:List W->ai->SM W:=bc 3 3
 (av (bD (oN (za Kt rX (aa (dC (.int (0)))) (aa (ag 2)) (ji (ao "Goer" "boxes" (aa (ag 0))))))
  (pU "Outside" (aa (ae (dC (.str "a place of no box")) ak)))
  (ax aI))
 (bd (cz "Story" "add_touch" gS (ao "Goer" "story" (aa (ag 0))) (aQ (aa (ag 1)) (aQ (aa (ag 2)) (aQ (ao "Goer" "line" (aa (ag 0))) bW))))))
noncomputable def nk:List W->ai->SM W:=bc 2 2
 (av (bd (cf "Goer" "touch" lr (aa (ag 0)) (aa (ae (dC (.str "get")) (ae (ag 1) ak)))))
 (gf (sIx (ao "Goer" "boxes" (aa (ag 0))) (aa (ag 1)))))
noncomputable def aB:Nat->List W->ai->SM W
 | 0,_,_=>none
 | n+1,ds,S=>bc 2 4
  (av (ax (aW (aA aR (ay 1) (dC (.int (0)))) (aj 2)))
  (av (ax (eV (aC dJ (ay 2) (dC (.str "num")))
   (bw (aA aR (ay 1) (dC (.int (1)))))
   aI))
  (av (bD (aa (aC dJ (ay 2) (dC (.str "name"))))
   (gf (n8 (ao "Frame" "names" (sIx (ao "Goer" "frames" (aa (ag 0))) (aa (jQ dD (dC (.int (1))))))) (aa (aA aR (ay 1) (dC (.int (1))))) (aa (dC (.int (0))))))
   (ax aI))
  (av (bD (aa (aC sS (ay 2) (dC (.tuple [.str "lane", .str "lanes", .str "mine"]))))
   (gf (iP (ao "Goer" "signs" (aa (ag 0))) (aa (ag 2))))
   (ax aI))
  (av (bD (aa (aC dJ (ay 2) (dC (.str "box"))))
   (gf (cf "Goer" "got" nk (aa (ag 0)) (aQ (cf "Goer" "reckoned" (aB n) (aa (ag 0)) (aa (ae (aA aR (ay 1) (dC (.int (1)))) ak))) bW)))
   (ax aI))
  (av (cQ (ku kY (aQ (aa (ag 2)) (aQ (cf "Goer" "reckoned" (aB n) (aa (ag 0)) (aa (ae (aA aR (ay 1) (dC (.int (1)))) ak))) (aQ (cf "Goer" "reckoned" (aB n) (aa (ag 0)) (aa (ae (aA aR (ay 1) (dC (.int (2)))) ak))) bW)))) (aj 3))
  (av (bD (aa (aC ic (ay 3) (dC .none)))
   (pU "Nought" (aa (ae (dC (.str "a working that has no number")) ak)))
   (ax aI))
  (ax (bw (ag 3)))))))))) ds S
noncomputable def fU:List W->ai->SM W:=bc 3 3
 (iN (ao "Frame" "names" (sIx (ao "Goer" "frames" (aa (ag 0))) (aa (jQ dD (dC (.int (1))))))) (aa (ag 1)) (aa (ag 2)))
noncomputable def d6:List W->ai->SM W:=bc 2 3
 (av (cQ (re (ao "Goer" "frames" (aa (ag 0)))) (aj 2))
 (bd (cz "Goer" "give" fU (aa (ag 0)) (aQ (ao "Frame" "given" (aa (ag 2))) (aQ (aa (ag 1)) bW)))))
noncomputable def dt:List W->ai->SM W:=bc 2 4
 (av (cQ (sN [some 0,none] (aa (cK (aA aR (ay 1) (dC (.int (4)))))) (aj 1) (aa lB) (ol "Goer" "reckoned" (aB 9) (aa (ag 0)) (aa (ae (ag 1) ak)))) (aj 2))
 (av (bD (jL false (ji (ao "Goer" "frames" (aa (ag 0)))) (aa (dC (.int 6))))
  (av (bd (cz "Story" "finish" bz (ao "Goer" "story" (aa (ag 0))) (aQ (aa (dC (.str "deep"))) (aQ (ao "Goer" "line" (aa (ag 0))) bW))))
 (ax o6))
  (ax aI))
 (av (cQ (iP (ao "Goer" "defs" (aa (ag 0))) (aa (aA aR (ay 1) (dC (.int (3)))))) (aj 3))
 (bN (ao "Goer" "frames" (aa (ag 0))) (jF "Frame" b8 (aQ (aa (aA aR (ay 3) (dC (.int (2))))) (aQ (IQ (aa (ae (aA aR (ay 3) (dC (.int (1)))) (ae (ag 2) ak)))) (aQ (aa (aA aR (ay 1) (dC (.int (2))))) bW))))))))
noncomputable def gm:List W->ai->SM W:=bc 2 4
 (av (ax (aW (aA aR (ay 1) (dC (.int (0)))) (aj 2)))
 (av (cQ (sIx (ao "Goer" "frames" (aa (ag 0))) (aa (jQ dD (dC (.int (1)))))) (aj 3))
 (bD (aa (aC dJ (ay 2) (dC (.str "return"))))
  (bd (cz "Goer" "go_back" d6 (aa (ag 0)) (aQ (cf "Goer" "reckoned" (aB 9) (aa (ag 0)) (aa (ae (aA aR (ay 1) (dC (.int (2)))) ak))) bW)))
  (bD (aa (aC dJ (ay 2) (dC (.str "stop"))))
  (bd (cz "Story" "finish" bz (ao "Goer" "story" (aa (ag 0))) (aQ (aa (dC (.str "done"))) (aQ (ao "Goer" "line" (aa (ag 0))) bW))))
  (av (ax eQ)
 (ax (eV (aC dJ (ay 2) (dC (.str "break")))
  eQ
  aI)))))))
noncomputable def dh:List W->ai->SM W:=bc 2 3
 (av (ax (aW (aA aR (ay 1) (dC (.int (0)))) (aj 2)))
 (av (bD (aa (aC dJ (ay 2) (dC (.str "while"))))
  (av (ax eQ)
 (ax o6))
  (ax aI))
 (av (bd (cz "Frame" "pass_by" cY (sIx (ao "Goer" "frames" (aa (ag 0))) (aa (jQ dD (dC (.int (1)))))) (aa ak)))
 (bD (aa (aC dJ (ay 2) (dC (.str "set"))))
  (bd (cz "Goer" "give" fU (aa (ag 0)) (aQ (aa (aA aR (ay 1) (dC (.int (2))))) (aQ (cf "Goer" "reckoned" (aB 9) (aa (ag 0)) (aa (ae (aA aR (ay 1) (dC (.int (3)))) ak))) bW))))
  (bD (aa (aC dJ (ay 2) (dC (.str "put"))))
  (ax eQ)
  (bD (aa (aC dJ (ay 2) (dC (.str "tell"))))
  (bN (ao "Story" "told" (ao "Goer" "story" (aa (ag 0)))) (cf "Goer" "reckoned" (aB 9) (aa (ag 0)) (aa (ae (aA aR (ay 1) (dC (.int (2)))) ak))))
  (bD (aa (aC dJ (ay 2) (dC (.str "if"))))
  (ax eQ)
  (bD (aa (aC dJ (ay 2) (dC (.str "call"))))
  (bd (cf "Goer" "do_call" dt (aa (ag 0)) (aa (ae (ag 1) ak))))
  (bD (aa (aC sS (ay 2) (bx (ae (dC (.str "meet")) (ae (dC (.str "join")) ak)))))
  (ax eQ)
  (bd (cf "Goer" "leave" gm (aa (ag 0)) (aa (ae (ag 1) ak)))))))))))))
noncomputable def j7:List W->ai->SM W:=bc 2 2
 (av (cu "Goer" "line" (aa (ag 0)) (aa (aA aR (ay 1) (dC (.int (1))))))
 (av (bD (oU Ir (ao "Story" "steps" (ao "Goer" "story" (aa (ag 0)))) (ao "Goer" "most" (aa (ag 0))))
  (av (bd (cz "Story" "finish" bz (ao "Goer" "story" (aa (ag 0))) (aQ (aa (dC (.str "tired"))) (aQ (ao "Goer" "line" (aa (ag 0))) bW))))
 (ax o6))
  (ax aI))
 (av (bd (cz "Story" "add_step" dQ (ao "Goer" "story" (aa (ag 0))) (aQ (ao "Goer" "line" (aa (ag 0))) bW)))
 (tW "Goer" "do" dh "Nought" "Outside" (ag 0) (ae (ag 1) ak)
  (bd (ut "Story" "finish" bz (ao "Goer" "story" (aa (ag 0))) (aQ (aa (dC (.str "nought"))) (aQ (ao "Goer" "line" (aa (ag 0))) bW))))
  (bd (ut "Story" "finish" bz (ao "Goer" "story" (aa (ag 0))) (aQ (aa (dC (.str "outside"))) (aQ (ao "Goer" "line" (aa (ag 0))) bW))))))))
noncomputable def ft:List W->ai->SM W:=bc 1 1
 (bD (jL false (ji (ao "Goer" "frames" (aa (ag 0)))) (aa (dC (.int (1)))))
  (bd (cz "Story" "finish" bz (ao "Goer" "story" (aa (ag 0))) (aQ (aa (dC (.str "done"))) (aQ (sIx (iP (ao "Goer" "defs" (aa (ag 0))) (aa (dC (.str "main")))) (aa (dC (.int (4))))) bW))))
  (bd (cz "Goer" "go_back" d6 (aa (ag 0)) (aa (ae (dC (.int (0))) ak)))))
noncomputable def gT:DS->ai->SO:=(av (cQ (cz "Frame" "statement" dj (sIx (ao "Goer" "frames" (aa (ag 0))) (aa (jQ dD (dC (.int (1)))))) (aa ak)) (aj 1))
 (bD (aa (aC ic (ay 1) (dC .none)))
  (bd (cz "Goer" "end_def" ft (aa (ag 0)) (aa ak)))
  (bd (cz "Goer" "step" j7 (aa (ag 0)) (aa (ae (ag 1) ak))))))
noncomputable def jH:List W->ai->SM W:=bc 1 2
 (br (oY (oU ic (ao "Story" "end" (ao "Goer" "story" (aa (ag 0)))) (aa (dC .none))) (oU ic (ao "Goer" "meeting" (aa (ag 0))) (aa (dC .none)))) gT 1000000)
noncomputable def vU:DS->ai->SO:=(bD (oU iO (ao "Goer" "meeting" (aa (ag 7))) (aa (dC .none)))
 (av (ax eQ)
 (bd (cz "Goer" "go" jH (aa (ag 7)) (aa ak))))
  (ax aI))
noncomputable def qJ:List W->ai->SM W:=bc 7 9
 (av (cQ (jF "Goer" fY (aa (ae (ag 0) (ae (ag 1) (ae (ag 2) (ae (ag 3) (ae (ag 4) (ae (ag 5) ak)))))))) (aj 7))
 (av (bd (cz "Goer" "go" jH (aa (ag 7)) (aa ak)))
 (av (jj (aa (cK (ag 6))) (aj 8) vU)
 (gf (ao "Goer" "story" (aa (ag 7)))))))
noncomputable def bS:List W->Option W:=eu 2 2
 (aM (eV (aC rX (ay 1) (fB bT (ay 0)))
  (bw (aA aR (ay 0) (ag 1)))
  aI)
 (bw (dC (.int (0)))))
noncomputable def ck:List W->Option W:=eu 2 3
 (aM (aW (aA cx (aA bv (aA bv (aA cx (ay 0) (dC (.int (2147483647)))) (aA je (dC (.int (16807))) (ag 1))) (dC (.int (7)))) (dC (.int (2147483629)))) (aj 2))
 (aM (aW (aA cx (aA je (ay 2) (ag 2)) (dC (.int (2147483587)))) (aj 2))
 (bw (aA jx (aA cx (aA je (ay 2) (aA bv (ay 2) (dC (.int (48271))))) (dC (.int (2147483579)))) (dC (.int (5)))))))
noncomputable def bq:List W->ai->SM W:=bc 1 1
 (gf (sB (jL false (ji (qt 9000 [none] (n9 (aa (ag 0))) (aj 0) (aa (zC (wA (oR (fB (lj "int") (ag 0)))) (oR (fB (lj "bool") (ag 0))))) (aa (ag 0)))) (aa (dC (.int (0)))))))
noncomputable def eZ:List W->Option W:=eu 1 1
 (bw (aA gSub' (aA cx (aA bv (ay 0) (dC (.int (2147483648)))) (dC (.int (4294967296)))) (dC (.int (2147483648)))))
noncomputable def jA:DS->Option fA:=(aM (aW (aA aR (ay 3) (aA cx (aA bv (aA jx (ay 0) (dC (.int (64)))) (ag 5)) (dC (.int (26))))) (aj 6))
 (aV 4 (aA bv (aA bv (aA sf (dC (.str "q")) (ag 2)) (ag 6)) (aA sf (dC (.str "q")) (aA gSub' (aA gSub' (ay 1) (dC (.int (1)))) (ag 2))))))
noncomputable def iE:List W->Option W:=eu 1 7
 (aM (aW (aA bv (dC (.int (1))) (aA cx (ay 0) (dC (.int (8))))) (aj 1))
 (aM (aW (aA cx (aA jx (ay 0) (dC (.int (8)))) (ag 1)) (aj 2))
 (aM (aW (dC (.str "abcdefghijklmnopqrstuvwxyz")) (aj 3))
 (aM (gK 4 (eU ak))
 (aM (mz (iR (ae (dC (.int (17))) ak)) (aj 5) jA)
 (ir 4 (bw (ag 4))))))))
noncomputable def ie:List W->Option W:=eu 2 3
 (aM (aW (aA jx (ay 0) (dC (.int (6)))) (aj 2))
 (aM (eV (zC (aC rX (aA cx (ay 0) (dC (.int (6)))) (dC (.int (2)))) (aC dJ (fB bT (ay 1)) (dC (.int (0)))))
  (bw (bx (ae (dC (.str "num")) (ae (aA gSub' (aA cx (aA je (ay 2) (dC (.int (7919007919)))) (dC (.int (1999999999)))) (dC (.int (999999999)))) ak))))
  aI)
 (aM (eV (aC rX (aA cx (ay 0) (dC (.int (6)))) (dC (.int (4))))
  (bw (bx (ae (dC (.str "name")) (ae (aA aR (ay 1) (aA cx (ay 2) (fB bT (ay 1)))) ak))))
  aI)
 (aM (aW (aA gSub' (aA cx (aA je (aA jx (ay 2) (dC (.int (7)))) (dC (.int (7919007919)))) (dC (.int (1999999999)))) (dC (.int (999999999)))) (aj 0))
 (bw (bx (ae (dC (.str "+")) (ae (bx (ae (dC (.str "name")) (ae (aA aR (ay 1) (aA cx (ay 2) (fB bT (ay 1)))) ak))) (ae (bx (ae (dC (.str "num")) (ae (ag 0) ak))) ak)))))))))
noncomputable def hX:DS->Option fA:=(aM (aW (bU bS (ae (ag 0) (ae (aA bv (dC (.int (2))) (ag 4)) ak))) (aj 5))
 (aM (aW (bU ck (ae (ag 5) (ae (aA bv (ay 4) (dC (.int (600)))) ak))) (aj 6))
 (aM (aW (aA cx (ay 6) (dC (.int (7)))) (aj 7))
 (aM (aW (aA cx (aA jx (ay 6) (dC (.int (7)))) (dC (.int (6)))) (aj 8))
 (aM (eV (aC dJ (ay 4) (dC (.int (0))))
  (aW (dC (.int (0))) (aj 7))
  aI)
 (aM (aW (gC (vh [some 2,some 8,none] (iR (ae (ag 7) ak)) (aj 2) lB (aA aR (ay 0) (aA cx (aA bv (ay 1) (ag 2)) (dC (.int (6))))))) (aj 9))
 (aM (aW (aA gSub' (aA cx (aA bv (ay 5) (aA je (ay 6) (dC (.int (7919))))) (dC (.int (1999999999)))) (dC (.int (999999999)))) (aj 10))
 (aV 3 (gC (eU (ae (aA aR (gC (eU (ae (dC (.str "main")) (ae (aA aR (ay 2) (aA bv (dC (.int (6))) (ag 4))) ak)))) (sI (dB (aC mD (ay 4) (dC (.int (0))))))) (ae (ag 9) (ae (ag 10) (ae (aA cx (bU ck (ae (ag 5) (ae (ag 4) ak))) (dC (.int (4)))) ak))))))))))))))
noncomputable def jD:List W->Option W:=eu 3 11
 (aM (gK 3 (eU ak))
 (aM (mz (iR (ae (aA bv (ay 1) (dC (.int (1)))) ak)) (aj 4) hX)
 (ir 3 (bw (ag 3)))))
noncomputable def jw:List W->Option W:=eu 3 3
 (aM (eV (aC rX (ay 0) (ay 1))
  (bw (aA bv (ay 0) (dC (.int (1)))))
  aI)
 (bw (ag 2)))
noncomputable def ka:DS->Option fA:=(aV 10 (bx (ae (dC (.str "tell")) (ae (aA bv (ay 3) (fB bT (ay 10))) (ae (bx (ae (dC (.str "name")) (ae (ag 11) ak))) ak)))))
noncomputable def fO:DS->Option fA:=(aM (aW (aA bv (bU bS (ae (ag 0) (ae (aA bv (dC (.int (2))) (ag 2)) ak))) (bU bS (ae (ag 0) (ae (aA bv (dC (.int (11))) (aA cx (aA bv (aA je (dC (.int (7))) (ag 2)) (ag 14)) (dC (.int (52))))) ak)))) (aj 15))
 (aV 13 (bU ie (ae (bU ck (ae (ag 15) (ae (aA bv (aA je (dC (.int (7))) (ag 2)) (ag 14)) ak))) (ae (ag 7) ak)))))
noncomputable def j9:List W->Option W:=eu 5 16
 (aM (aW (aA gSub' (fB bT (ay 1)) (dC (.int (1)))) (aj 5))
 (aM (aW (aA aR (ay 1) (ag 2)) (Cg 4 (d8 (aj 6) (d8 (aj 7) (d8 (aj 8) (d8 (aj 9) mf))))))
 (aM (gK 10 (eU ak))
 (aM (mz (cK (ag 7)) (aj 11) ka)
 (aM (aV 10 (bx (ae (dC (.str "tell")) (ae (aA bv (ay 3) (fB bT (ay 10))) (ae (bx (ae (dC (.str "name")) (ae (dC (.str "zz")) ak))) ak)))))
 (aM (aV 10 (bx (ae (dC (.str "set")) (ae (aA bv (ay 3) (fB bT (ay 10))) (ae (dC (.str "zz")) (ae (bx (ae (dC (.str "num")) (ae (ag 8) ak))) ak))))))
 (aM (aW (bU jw (ae (ag 2) (ae (ag 5) (ae (ag 4) ak)))) (aj 12))
 (aM (eV (aC mD (ay 12) (dC (.int (0))))
  (aM (gK 13 (eU ak))
 (aM (mz (iR (ae (fB bT (aA aR (aA aR (ay 1) (ag 12)) (dC (.int (1))))) ak)) (aj 14) fO)
 (ir 13 (aV 10 (bx (ae (dC (.str "call")) (ae (aA bv (ay 3) (fB bT (ay 10))) (ae (dC (.str "zzz")) (ae (aA aR (aA aR (ay 1) (ag 12)) (dC (.int (0)))) (ae (ag 13) ak))))))))))
  aI)
 (aM (aV 10 (bx (ae (dC (.str "tell")) (ae (aA bv (ay 3) (fB bT (ay 10))) (ae (bx (ae (dC (.str "name")) (ae (dC (.str "zz")) ak))) ak)))))
 (aM (aV 10 (bx (ae (dC (.str "tell")) (ae (aA bv (ay 3) (fB bT (ay 10))) (ae (bx (ae (dC (.str "name")) (ae (dC (.str "zzz")) ak))) ak)))))
 (aM (eV (jg (aC mD (ay 2) (dC (.int (0)))) (jg (aC dJ (ay 9) (dC (.int (0)))) (aC mD (fB bT (ay 7)) (dC (.int (0))))))
  (aV 10 (bx (ae (dC (.str "return")) (ae (aA bv (ay 3) (fB bT (ay 10))) (ae (bx (ae (dC (.str "name")) (ae (aA aR (ay 7) (jQ dD (dC (.int (1))))) ak))) ak)))))
  aI)
 (aM (eV (jg (aC mD (ay 2) (dC (.int (0)))) (aC dJ (ay 9) (dC (.int (1)))))
  (aV 10 (bx (ae (dC (.str "return")) (ae (aA bv (ay 3) (fB bT (ay 10))) (ae (bx (ae (dC (.str "name")) (ae (dC (.str "zz")) ak))) ak)))))
  aI)
 (aM (eV (jg (aC mD (ay 2) (dC (.int (0)))) (aC dJ (ay 9) (dC (.int (2)))))
  (aV 10 (bx (ae (dC (.str "return")) (ae (aA bv (ay 3) (fB bT (ay 10))) (ae (bx (ae (dC (.str "+")) (ae (bx (ae (dC (.str "name")) (ae (dC (.str "zz")) ak))) (ae (bx (ae (dC (.str "name")) (ae (dC (.str "zzz")) ak))) ak)))) ak)))))
  aI)
 (ir 10 (bw (ag 10))))))))))))))))
noncomputable def fJ:DS->Option fA:=(aM (aW (aA cx (aA bv (ay 3) (ag 6)) (fB bT (ay 1))) (aj 7))
 (aM (aW (bU j9 (ae (ag 0) (ae (ag 1) (ae (ag 7) (ae (aA bv (ay 5) (dC (.int (1)))) (ae (ag 2) ak)))))) (aj 8))
 (aM (aW (aA bv (aA bv (ay 5) (dC (.int (1)))) (fB bT (ay 8))) (aj 9))
 (aM (aV 4 (bx (ae (aA aR (aA aR (ay 1) (ag 7)) (dC (.int (0)))) (ae (gC (kM (aA aR (aA aR (ay 1) (ag 7)) (dC (.int (1)))))) (ae (ag 8) (ae (ag 5) (ae (ag 9) ak)))))))
 (aW (aA bv (ay 9) (dC (.int (1)))) (aj 5))))))
noncomputable def gD:List W->Option W:=eu 4 10
 (aM (gK 4 (eU ak))
 (aM (aW (dC (.int (1))) (aj 5))
 (aM (mz (iR (ae (fB bT (ay 1)) ak)) (aj 6) fJ)
 (ir 4 (bw (ag 4))))))
noncomputable def aX:Nat->List W->ai->SM W
 | 0,_,_=>none
 | n+1,ds,S=>bc 2 2
  (av (ax (eV (aC dJ (aA aR (ay 0) (dC (.int (0)))) (dC (.str "num")))
   (bw (aA aR (ay 0) (dC (.int (1)))))
   aI))
  (av (bD (aa (aC dJ (aA aR (ay 0) (dC (.int (0)))) (dC (.str "name"))))
   (gf (n8 (aa (ag 1)) (aa (aA aR (ay 0) (dC (.int (1))))) (aa (dC (.int (0))))))
   (ax aI))
  (gf (ku eZ (aQ (Ik bv (cJ (aX n) (aa (ae (aA aR (ay 0) (dC (.int (1)))) (ae (ag 1) ak)))) (cJ (aX n) (aa (ae (aA aR (ay 0) (dC (.int (2)))) (ae (ag 1) ak))))) bW))))) ds S
noncomputable def iX:DS->ai->SO:=(iN (aa (ag 3)) (aa (aA aR (ay 4) (dC (.int (0))))) (aa (ag 4)))
noncomputable def aY:DS->ai->SO:=(av (bD (aa (aC ic (ay 8) (dC .none)))
 (bN (aa (ag 2)) (aa (aA aR (ay 9) (dC (.int (1))))))
 (ax aI))
 (av (bD (aa (jg (aC ic (ay 8) (dC .none)) (aC dJ (aA aR (ay 9) (dC (.int (0)))) (dC (.str "tell")))))
  (bN (aa (ag 1)) (cJ (aX 3) (aa (ae (aA aR (ay 9) (dC (.int (2)))) (ae (ag 5) ak)))))
  (ax aI))
 (av (bD (aa (jg (aC ic (ay 8) (dC .none)) (aC dJ (aA aR (ay 9) (dC (.int (0)))) (dC (.str "set")))))
  (iN (aa (ag 5)) (aa (aA aR (ay 9) (dC (.int (2))))) (cJ (aX 3) (aa (ae (aA aR (ay 9) (dC (.int (3)))) (ae (ag 5) ak)))))
  (ax aI))
 (ax (eV (aC dJ (aA aR (ay 9) (dC (.int (0)))) (dC (.str "call")))
  (aW (ag 9) (aj 8))
  aI)))))
noncomputable def iS:DS->ai->SO:=(iN (aa (ag 10)) (aa (ag 11)) (cJ (aX 3) (aa (ae (ag 4) (ae (ag 5) ak)))))
noncomputable def b5:DS->ai->SO:=(av (ax (aW (dC .none) (aj 8)))
 (av (jj (aa (cK (aA aR (ay 7) (dC (.int (2)))))) (aj 9) aY)
 (av (ax (aV 6 (bx (ae (ag 7) (ae (ag 5) (ae (ag 8) ak))))))
 (av (ax (eV (aC ic (ay 8) (dC .none))
  (ir 6 (bw (ag 6)))
  aI))
 (av (cQ (iP (aa (ag 3)) (aa (aA aR (ay 8) (dC (.int (3)))))) (aj 7))
 (av (cQ tG (aj 10))
 (av (jj (aa (xw (ae (aA aR (ay 7) (dC (.int (1)))) (ae (aA aR (ay 8) (dC (.int (4)))) ak)))) (mi 2 (d8 (aj 11) (d8 (aj 4) mf))) iS)
 (ax (aW (ag 10) (aj 5))))))))))
noncomputable def fP:List W->ai->SM W:=bc 3 12
 (av (cQ tG (aj 3))
 (av (jj (aa (cK (ag 0))) (aj 4) iX)
 (av (cQ tG (aj 5))
 (av (ax (gK 6 (eU ak)))
 (av (cQ (iP (aa (ag 3)) (aa (dC (.str "main")))) (aj 7))
 (av (br (aa (aC rX (fB bT (ay 6)) (dC (.int (6))))) b5 1000000)
 (ax (ir 6 (bw (ag 6))))))))))
noncomputable def bt:DS->ai->SO:=(av (bD (aa (aC mD (aA aR (ay 7) (dC (.int (1)))) (aA aR (ay 6) (dC (.int (1))))))
 (bN (aa (ag 2)) (aa (aA aR (ay 7) (dC (.int (1))))))
 (ax aI))
 (bD (aa (jg (aC mD (aA aR (ay 7) (dC (.int (1)))) (aA aR (ay 6) (dC (.int (1))))) (aC dJ (aA aR (ay 7) (dC (.int (0)))) (dC (.str "tell")))))
  (bN (aa (ag 1)) (cJ (aX 3) (aa (ae (aA aR (ay 7) (dC (.int (2)))) (ae (ag 5) ak)))))
  (ax aI)))
noncomputable def fI:DS->ai->SO:=(av (bD (aa (aC iO (ay 6) (dC .none)))
 (av (iN (aa (ag 5)) (aa (dC (.str "zzz"))) (aa (ag 3)))
 (jj (aa (cK (aA aR (ay 4) (dC (.int (2)))))) (aj 7) bt))
  (ax aI))
 (av (ax (aW (dC (.int (0))) (aj 3)))
 (bD (aa (aC dJ (aA aR (aA aR (aA aR (ay 4) (dC (.int (2)))) (jQ dD (dC (.int (1))))) (dC (.int (0)))) (dC (.str "return"))))
  (cQ (cJ (aX 3) (aa (ae (aA aR (aA aR (aA aR (ay 4) (dC (.int (2)))) (jQ dD (dC (.int (1))))) (dC (.int (2)))) (ae (ag 5) ak)))) (aj 3))
  (ax aI))))
noncomputable def dq:List W->ai->SM W:=bc 3 8
 (av (ax (aW (dC (.int (0))) (aj 3)))
 (jj (aa (ye (ae (ag 0) ak))) (mi 3 (d8 (aj 4) (d8 (aj 5) (d8 (aj 6) mf)))) fI))
noncomputable def y0:List W->ai->SM W:=bc 1 14
 (av (ax (aW (bU ck (ae (bU bS (ae (ag 0) (ae (dC (.int (0))) ak))) (ae (dC (.int (620))) ak))) (aj 1)))
 (av (ax (aW (aA bv (dC (.int (1))) (aA cx (ay 1) (dC (.int (8))))) (aj 2)))
 (av (ax (aW (aA jx (aA cx (aA jx (ay 1) (dC (.int (8)))) (dC (.int (5)))) (dC (.int (4)))) (aj 3)))
 (av (ax (aW (bU iE (ae (bU ck (ae (bU bS (ae (ag 0) (ae (dC (.int (1))) ak))) (ae (dC (.int (621))) ak))) ak)) (aj 4)))
 (av (ax (aW (bU jD (ae (ag 0) (ae (ag 2) (ae (ag 4) ak)))) (aj 5)))
 (av (ax (aW (bU gD (ae (ag 0) (ae (ag 5) (ae (ag 3) (ae (aA cx (aA jx (ay 1) (dC (.int (40)))) (aA bv (ay 2) (dC (.int (1))))) ak))))) (aj 6)))
 (av (ax (aW (aA bv (dC (.int (1))) (aA cx (bU bS (ae (ag 0) (ae (dC (.int (1))) ak))) (dC (.int (8))))) (aj 7)))
 (av (ax (aW (rT (ag 6)) (aj 8)))
 (av (cQ (cJ qJ (aa (ae (ag 6) (ae (aA cx (aA jx (ay 1) (dC (.int (400)))) (ag 7)) (ae (ag 7) (ae (dC (.int (0))) (ae (gC (eU ak)) (ae (dC (.int (1000))) (ae (gC (eU ak)) ak))))))))) (aj 9))
 (av (cQ (cP (aa ak)) (aj 10))
 (av (cQ (cP (aa ak)) (aj 11))
 (av (cQ (cJ fP (aa (ae (ag 6) (ae (ag 10) (ae (ag 11) ak))))) (aj 12))
 (av (bD (aa (aC iO (aA aR (aA aR (ay 12) (jQ dD (dC (.int (1))))) (dC (.int (2)))) (dC .none)))
  (ax (aW (bx (ae (dC (.str "deep")) (ae (aA aR (aA aR (aA aR (ay 12) (jQ dD (dC (.int (1))))) (dC (.int (2)))) (dC (.int (1)))) ak))) (aj 13)))
  (av (ax (aW (bx (ae (dC (.str "done")) (ae (aA aR (aA aR (aA aR (ay 12) (dC (.int (0)))) (dC (.int (0)))) (dC (.int (4)))) ak))) (aj 13)))
 (bd (cJ dq (aa (ae (ag 12) (ae (ag 10) (ae (ag 11) ak))))))))
 (av (bD (wK (jL true (ao "Story" "told" (aa (ag 9))) (aa (ag 10))) (wK (oN (nS (cJ bq (aQ (ao "Story" "told" (aa (ag 9))) bW)))) (wK (jL true (ao "Story" "lines" (aa (ag 9))) (aa (ag 11))) (jL true (ao "Story" "end" (aa (ag 9))) (aa (ag 13))))))
  (ax (bw (dC (.bool false))))
  (ax aI))
 (av (bD (wK (oN (nS (cJ bq (aQ (cP (aQ (ao "Story" "steps" (aa (ag 9))) bW)) bW)))) (wK (jL true (ao "Story" "steps" (aa (ag 9))) (ji (aa (ag 11)))) (aa (aC FK (rT (ag 6)) (ay 8)))))
  (ax (bw (dC (.bool false))))
  (ax aI))
 (gf (nY (sB (jL false (ao "Story" "brought" (aa (ag 9))) (aa (gC (eU ak))))) (nY (sB (jL false (ao "Story" "touches" (aa (ag 9))) (aa (gC (eU (ae (gC (eU ak)) ak)))))) (sB (yD (ao "Story" "puts" (aa (ag 9))) (wQ (aQ tG bW))))))))))))))))))))))
noncomputable def qr (K:Frag):Sp:=λ vs H Q _=>∃ (a:Addr) (ns:List Int),vs=[.ref a]/\dM K H a (ns.map V.int)/\ns.length<=63/\∀ H',Q (.bl true) H'
section
variable (P:Program) (w:World) (K:Frag) (mg:Str->Option Value) (base:Heap) (cl:Str->Addr)
noncomputable abbrev lE:Prop:=rJ P w K mg base "wrapped" ["n"] [] 1 (sZ K cZ)
noncomputable abbrev mv:Prop:=rJ P w K mg base "unwrapped" ["word", "one", "other"] [] 1 (sZ K j3)
noncomputable abbrev sQ:Prop:=rJ P w K mg base "worked" ["word", "one", "other"] [] 2 (sZ K kY)
noncomputable abbrev ja:Prop:=Ce (λ f fd=>Mk K (cl "Walk") f/\aP K fd ["self", "row"] []) P w K mg base 1 ["self", "row"] (jd K cl cX)
noncomputable abbrev jl:Prop:=Ce (λ f fd=>bg K (cl "Walk") "is_over" f/\aP K fd ["self"] []) P w K mg base 1 ["self"] (jd K cl eY)
noncomputable abbrev jW:Prop:=Ce (λ f fd=>bg K (cl "Walk") "before" f/\aP K fd ["self"] []) P w K mg base 1 ["self"] (jd K cl hW)
noncomputable abbrev kP:Prop:=Ce (λ f fd=>bg K (cl "Walk") "taken" f/\aP K fd ["self"] []) P w K mg base 1 ["self"] (jd K cl i8)
noncomputable abbrev fM:Prop:=Ce (λ f fd=>Mk K (cl "Frame") f/\aP K fd ["self", "body", "names", "given"] []) P w K mg base 3 ["self", "body", "names", "given"] (jd K cl b8)
noncomputable abbrev gX:Prop:=Ce (λ f fd=>bg K (cl "Frame") "statement" f/\aP K fd ["self"] []) P w K mg base 2 ["self"] (jd K cl dj)
noncomputable abbrev iZ:Prop:=Ce (λ f fd=>bg K (cl "Frame") "pass_by" f/\aP K fd ["self"] []) P w K mg base 2 ["self"] (jd K cl cY)
noncomputable abbrev iw:Prop:=Ce (λ f fd=>Mk K (cl "Story") f/\aP K fd ["self"] []) P w K mg base 1 ["self"] (jd K cl cG)
noncomputable abbrev gh:Prop:=Ce (λ f fd=>bg K (cl "Story") "begin_phase" f/\aP K fd ["self"] []) P w K mg base 1 ["self"] (jd K cl dX)
noncomputable abbrev i6:Prop:=Ce (λ f fd=>bg K (cl "Story") "add_step" f/\aP K fd ["self", "line"] []) P w K mg base 1 ["self", "line"] (jd K cl dQ)
noncomputable abbrev h7:Prop:=Ce (λ f fd=>bg K (cl "Story") "add_touch" f/\aP K fd ["self", "word", "place", "line"] []) P w K mg base 1 ["self", "word", "place", "line"] (jd K cl gS)
noncomputable abbrev gJ:Prop:=Ce (λ f fd=>bg K (cl "Story") "finish" f/\aP K fd ["self", "word", "line"] []) P w K mg base 1 ["self", "word", "line"] (jd K cl bz)
noncomputable abbrev ju:Prop:=IN (λ f fd=>bg K (cl "Story") "finish" f/\aP K fd ["self", "word", "line"] []) P w K mg base 1 ["self", "word", "line"] (jd K cl bz)
noncomputable abbrev iW:Prop:=Ce (λ f fd=>Mk K (cl "Goer") f/\aP K fd ["self", "program", "lane", "lanes", "mine", "boxes", "most"] []) P w K mg base 5 ["self", "program", "lane", "lanes", "mine", "boxes", "most"] (jd K cl fY)
noncomputable abbrev kS:Prop:=wV (λ f fd=>bg K (cl "Goer") "touch" f/\aP K fd ["self", "word", "place"] []) P w K mg base 2 ["self", "word", "place"] (tj K cl lr)
noncomputable abbrev nN:Prop:=wV (λ f fd=>bg K (cl "Goer") "got" f/\aP K fd ["self", "place"] []) P w K mg base 3 ["self", "place"] (tj K cl nk)
noncomputable abbrev eK:Prop:=wV (λ f fd=>bg K (cl "Goer") "reckoned" f/\aP K fd ["self", "expression"] []) P w K mg base 12 ["self", "expression"] (tj K cl (aB 9))
noncomputable abbrev jo:Prop:=Ce (λ f fd=>bg K (cl "Goer") "give" f/\aP K fd ["self", "name", "number"] []) P w K mg base 1 ["self", "name", "number"] (jd K cl fU)
noncomputable abbrev g8:Prop:=Ce (λ f fd=>bg K (cl "Goer") "go_back" f/\aP K fd ["self", "number"] []) P w K mg base 2 ["self", "number"] (jd K cl d6)
noncomputable abbrev jG:Prop:=wV (λ f fd=>bg K (cl "Goer") "do_call" f/\aP K fd ["self", "statement"] []) P w K mg base 13 ["self", "statement"] (tj K cl dt)
noncomputable abbrev kN:Prop:=wV (λ f fd=>bg K (cl "Goer") "leave" f/\aP K fd ["self", "statement"] []) P w K mg base 13 ["self", "statement"] (tj K cl gm)
noncomputable abbrev pq:Prop:=wV (λ f fd=>bg K (cl "Goer") "do" f/\aP K fd ["self", "statement"] []) P w K mg base 14 ["self", "statement"] (tj K cl dh)
noncomputable abbrev my:Prop:=Ce (λ f fd=>bg K (cl "Goer") "step" f/\aP K fd ["self", "statement"] []) P w K mg base 15 ["self", "statement"] (jd K cl j7)
noncomputable abbrev j0:Prop:=Ce (λ f fd=>bg K (cl "Goer") "end_def" f/\aP K fd ["self"] []) P w K mg base 3 ["self"] (jd K cl ft)
noncomputable abbrev pb:Prop:=Ce (λ f fd=>bg K (cl "Goer") "go" f/\aP K fd ["self"] []) P w K mg base 16 ["self"] (jd K cl jH)
noncomputable abbrev v4:Prop:=rJ P w K mg base "alone" ["program", "lane", "lanes", "mine", "boxes", "most", "letters"] [] 17 (jd K cl qJ)
noncomputable abbrev gU:Prop:=rJ P w K mg base "_law_cell" ["_law_script", "_law_k"] [] 1 (sZ K bS)
noncomputable abbrev gk:Prop:=rJ P w K mg base "_law_mixed" ["_law_cell_here", "_law_k"] [] 1 (sZ K ck)
noncomputable abbrev i0:Prop:=rJ P w K mg base "_law_all_whole" ["_law_row"] [] 1 (jd K cl bq)
noncomputable abbrev h8:Prop:=rJ P w K mg base "_law_into_range" ["_law_number"] [] 1 (sZ K eZ)
noncomputable abbrev kZ:Prop:=rJ P w K mg base "_law_names" ["_law_cell_here"] [] 1 (sZ K iE)
noncomputable abbrev jV:Prop:=rJ P w K mg base "_law_handed" ["_law_number", "_law_params"] [] 1 (sZ K ie)
noncomputable abbrev lZ:Prop:=rJ P w K mg base "_law_plan" ["_law_script", "_law_many", "_law_names_here"] [] 2 (sZ K jD)
noncomputable abbrev m9:Prop:=rJ P w K mg base "_law_next" ["_law_k", "_law_many", "_law_around"] [] 1 (sZ K jw)
noncomputable abbrev mo:Prop:=rJ P w K mg base "_law_body" ["_law_script", "_law_plans", "_law_k", "_law_line", "_law_around"] [] 2 (sZ K j9)
noncomputable abbrev jE:Prop:=rJ P w K mg base "_law_program" ["_law_script", "_law_plans", "_law_around", "_law_first"] [] 3 (sZ K gD)
noncomputable abbrev iD:Prop:=rJ P w K mg base "_law_worth" ["_law_told", "_law_names_here"] [] 4 (jd K cl (aX 3))
noncomputable abbrev jU:Prop:=rJ P w K mg base "_law_way_in" ["_law_program_here", "_law_told", "_law_lines"] [] 5 (jd K cl fP)
noncomputable abbrev jB:Prop:=rJ P w K mg base "_law_way_out" ["_law_pile", "_law_told", "_law_lines"] [] 5 (jd K cl dq)
end
def rlX (s:String) (t:Lean.TSyntax `tactic):Lean.MacroM (Lean.TSyntax `tactic):=(s.splitOn ";").foldlM (λ t g=>do
 let l:=g.splitOn " ";let u <-l.tail.foldlM (λ u n=>do
  let q:=n.splitOn ":";let i:=Lean.mkIdent ((if n.front.isDigit||n.front=='<' then n.drop 1 else q.head!).toName);let a <-if n.front.isDigit||n.front=='<' then pure (Array.replicate (n.front.toNat-48) (<- `(?_))) else (q.getLast!.toList.toArray.mapM λ c=>if c=='r' then `(rfl) else if c=='a' then `(by assumption) else if c=='d' then `(by first | decide | exact Nat.le_refl _ | exact Nat.le_add_right _ _ | omega) else if c=='k' then `(by decide +kernel) else `(?_))
  let v <-if q.tail.isEmpty && !n.front.isDigit&&n.front != '<' then `(tactic| apply $i) else `(tactic| refine $(Lean.Syntax.mkApp i a))
  `(tactic| first | $v:tactic | $u:tactic)) (<- `(tactic| fail))
 `(tactic| first | (show $(Lean.mkIdent l.head!.toName) ..;$u:tactic) | $t:tactic)) t
local macro_rules | `(tactic| left)=>do
 let t <-rlX "Co Co.nil Co.cons;G9 yg;ST xK Bh GF D6 CA Gn A9 EK Fj;Ka BA;JL DI.k;DI zN Fy zW Ek;DR zJ E6 DN FA CN Ei Cp;DG F8 El B7;DB GB Hj FQ Eb Au GU Ho Gq GJ;Ku y2;SA At B6 F0;FO xY AD;DA Bw EX;DK DE.dk DD;kX wC zK xI Bx xF sE v6 pM zd yh uH BZ yw xu;DO Ak A7 Dq;SE yy Hc ES xH Gv yd x9 yn EY Av yb zR HF CV xq BE GZ AI Ai EA Da HR DW AH uX A1 HP;DE AR Ao DO.de CI Hg DV Gc Eo A3 C9 Dj Hz EW HI Fl EV;nZ AJ pR x8 zn xx BO zb yA xj Bm Ef;DT Ew F7 Dt CQ FX Fc EN" (<- `(tactic| first | assumption | decide));let u <-rlX "kX xF sE v6 pM zd yh uH BZ yw xu;nZ pR x8 zn xx BO zb yA xj;Eq rfl" (<- `(tactic| first | exact E0 | decide))
 `(tactic| repeat' first | with_reducible (show (_:Prop);first | intro _ | $t:tactic) | $u:tactic)
local macro_rules | `(tactic| right)=>do
 let t <-rlX "Bv 0J7;ub 0FB;HG 0Iq 3GV;And 2And.intro;nG 1Dr;PassesOwn 0PassesOwn.never;Iz 0Kg;uk 0He 1GM;PW 1Io 2JF 1Js 2Lm;bG 7BQ;PI 5K6 6Jf 4FL 2IY;ig 0KW 2Kl 0KL 0KB 0IV 0Kp 0IJ 2JI 0Ja 1E4 0Kf 0KC 1IW 0GK 0IP 2Jr;BM 0IU 3Gx;PT 1PW.pt 6Hw 3Jg 2Kj 1Kn 4IA;PG 5IG 5Jb 4Il;PS 0Gs 0Ip 4CY 9FN 5JR 3FY 5Ih 6Kb 2IR 3Lc 1Jv 6JT <zf;xt 1Je;mU 0Ji 1IX 2Gp;PA 0Jn 3Im;gF 0Lu 0Hh 0KM;PE 5HU 5Ha 2LO 2LX 5KP 8K3 6KU 9K1 6Ky 4Jc 0HY 0Le 3IZ 1Jy 3Hb 2JD 2K4 7HD 0Kk 4Iu 1IE 1Ii 4KZ 3KA 0Km 4J9 0Jt 9pe_cSet 9K9 5JP" (<- `(tactic| intro _));let u <-rlX "Or Gi:r Or.inr:r Or.inl:r;C8 Or.inr:r Or.inl:r;Jh Gi:r Or.inl:r;Exists J8:aad;M2 M2.mk:rrrr;PE Bk zw Bq yT v3:rard yI:rad GA;et et.mono:a?;cq cq.mono:ad;Paired Paired.nil:;dR dR.mk:rrrkrkk;PS Be;Exists wm:a;yH Gm:a;QB 2Jj 3q_sort 0Ld 1Ln;QM 0KO 0Lh;ig 2JI 2Jr;PS 3J6;mU 2Gp 1IX" (<- `(tactic| first | assumption | rfl | exact λ _ _=>rfl | exact λ _=>rfl | decide +kernel))
 `(tactic| ((repeat' first | with_reducible $t:tactic | $u:tactic);all_goals try decide))
section
variable {P:Program} {w:World} {K:Frag} {mg:Str->Option Value} {base:Heap} {cl:Str->Addr}
set_option maxHeartbeats 4000000
theorem tR (D:sv K mg "wrapped" ["n"] [] pT) {tL:Tok} (m_LEAST:mg "LEAST" = some (.int (-2147483648) tL)) (g_LEAST:∀ ρ G,Dw K ρ G (.int (-2147483648)) ((.int (-2147483648)))) {tS:Tok} (m_SPAN:mg "SPAN" = some (.int 4294967296 tS)) (g_SPAN:∀ ρ G,Dw K ρ G (.int 4294967296) ((.int 4294967296))):lE P w K mg base:=
 mC (N:=["n"]) D rfl (λ ρ=>by left) (by right) rfl rfl (by right)
theorem qi (D:sv K mg "unwrapped" ["word", "one", "other"] [] mq):mv P w K mg base:=
 mC (N:=["word", "one", "other"]) D rfl (λ ρ=>by left) (by right) rfl rfl (by right)
theorem wI (D:sv K mg "worked" ["word", "one", "other"] [] rm) (_:lE P w K mg base) (_:mv P w K mg base):sQ P w K mg base:=
 mC (N:=["word", "one", "other"]) D rfl (λ ρ=>by left) (by right) rfl rfl (by right)
theorem lS (D:jK (λ f fd=>Mk K (cl "Walk") f/\aP K fd ["self", "row"] []) K "__init__" "Walk.__init__" cS) (_:mg "Walk" = some (.ref (cl "Walk"))) (_:eJ K (cl "Walk")) (_:ac K (cl "Walk") "row") (_:ac K (cl "Walk") "at"):ja P w K mg base cl:=
 gw (N:=["self", "row"]) D rfl (by left) (by right) rfl rfl (by right)
theorem mE (D:jK (λ f fd=>bg K (cl "Walk") "is_over" f/\aP K fd ["self"] []) K "is_over" "Walk.is_over" dE) (_:mg "Walk" = some (.ref (cl "Walk"))) (_:eJ K (cl "Walk")) (_:ac K (cl "Walk") "row") (_:ac K (cl "Walk") "at") (_:mg "len" = none):jl P w K mg base cl:=
 gw (N:=["self"]) D rfl (by left) (by right) rfl rfl (by right)
theorem nj (D:jK (λ f fd=>bg K (cl "Walk") "before" f/\aP K fd ["self"] []) K "before" "Walk.before" dZ) (_:mg "Walk" = some (.ref (cl "Walk"))) (_:eJ K (cl "Walk")) (_:ac K (cl "Walk") "row") (_:ac K (cl "Walk") "at"):jW P w K mg base cl:=
 gw (N:=["self"]) D rfl (by left) (by right) rfl rfl (by right)
theorem oC (D:jK (λ f fd=>bg K (cl "Walk") "taken" f/\aP K fd ["self"] []) K "taken" "Walk.taken" fj) (_:mg "Walk" = some (.ref (cl "Walk"))) (_:eJ K (cl "Walk")) (_:ac K (cl "Walk") "row") (_:ac K (cl "Walk") "at"):kP P w K mg base cl:=
 gw (N:=["self", "thing"]) D rfl (by left) (by right) rfl rfl (by right)
theorem lu (D:jK (λ f fd=>Mk K (cl "Frame") f/\aP K fd ["self", "body", "names", "given"] []) K "__init__" "Frame.__init__" cH) (h_Walk___init__:ja P w K mg base cl) (_:mg "Frame" = some (.ref (cl "Frame"))) (_:eJ K (cl "Frame")) (_:ac K (cl "Frame") "names") (_:ac K (cl "Frame") "given") (_:ac K (cl "Frame") "walks") (_:ac K (cl "Frame") "loops") (_:mg "Walk" = some (.ref (cl "Walk"))) (_:eJ K (cl "Walk")) (_:ac K (cl "Walk") "row") (_:ac K (cl "Walk") "at"):fM P w K mg base cl:=
 gw (N:=["self", "body", "names", "given"]) D rfl (by left) (by obtain ⟨_,_,⟨_,_⟩,_⟩:=h_Walk___init__;right) rfl rfl (by right)
theorem ki (D:jK (λ f fd=>bg K (cl "Frame") "statement" f/\aP K fd ["self"] []) K "statement" "Frame.statement" cn) (h_Walk_is_over:jl P w K mg base cl) (h_Walk_before:jW P w K mg base cl) (_:mg "Frame" = some (.ref (cl "Frame"))) (_:eJ K (cl "Frame")) (_:ac K (cl "Frame") "names") (_:ac K (cl "Frame") "given") (_:ac K (cl "Frame") "walks") (_:ac K (cl "Frame") "loops") (_:mg "Walk" = some (.ref (cl "Walk"))) (_:eJ K (cl "Walk")) (_:ac K (cl "Walk") "row") (_:ac K (cl "Walk") "at") (_:mg "len" = none):gX P w K mg base cl:=
 gw (N:=["self"]) D rfl (by left) (by obtain ⟨_,_,⟨_,_⟩,_⟩:=h_Walk_is_over;obtain ⟨_,_,⟨_,_⟩,_⟩:=h_Walk_before;right) rfl rfl (by right)
theorem lD (D:jK (λ f fd=>bg K (cl "Frame") "pass_by" f/\aP K fd ["self"] []) K "pass_by" "Frame.pass_by" cW) (h_Walk_taken:kP P w K mg base cl) (_:mg "Frame" = some (.ref (cl "Frame"))) (_:eJ K (cl "Frame")) (_:ac K (cl "Frame") "names") (_:ac K (cl "Frame") "given") (_:ac K (cl "Frame") "walks") (_:ac K (cl "Frame") "loops") (_:mg "Walk" = some (.ref (cl "Walk"))) (_:eJ K (cl "Walk")) (_:ac K (cl "Walk") "row") (_:ac K (cl "Walk") "at"):iZ P w K mg base cl:=
 gw (N:=["self"]) D rfl (by left) (by obtain ⟨_,_,⟨_,_⟩,_⟩:=h_Walk_taken;right) rfl rfl (by right)
theorem kD (D:jK (λ f fd=>Mk K (cl "Story") f/\aP K fd ["self"] []) K "__init__" "Story.__init__" cC) (_:mg "Story" = some (.ref (cl "Story"))) (_:eJ K (cl "Story")) (_:ac K (cl "Story") "told") (_:ac K (cl "Story") "steps") (_:ac K (cl "Story") "end") (_:ac K (cl "Story") "brought") (_:ac K (cl "Story") "touches") (_:ac K (cl "Story") "puts") (_:ac K (cl "Story") "lines"):iw P w K mg base cl:=
 gw (N:=["self"]) D rfl (by left) (by right) rfl rfl (by right)
theorem jn (D:jK (λ f fd=>bg K (cl "Story") "begin_phase" f/\aP K fd ["self"] []) K "begin_phase" "Story.begin_phase" bM) (_:mg "Story" = some (.ref (cl "Story"))) (_:eJ K (cl "Story")) (_:ac K (cl "Story") "told") (_:ac K (cl "Story") "steps") (_:ac K (cl "Story") "end") (_:ac K (cl "Story") "brought") (_:ac K (cl "Story") "touches") (_:ac K (cl "Story") "puts") (_:ac K (cl "Story") "lines"):gh P w K mg base cl:=
 gw (N:=["self"]) D rfl (by left) (by right) rfl rfl (by right)
theorem kO (D:jK (λ f fd=>bg K (cl "Story") "add_step" f/\aP K fd ["self", "line"] []) K "add_step" "Story.add_step" cD) (_:mg "Story" = some (.ref (cl "Story"))) (_:eJ K (cl "Story")) (_:ac K (cl "Story") "told") (_:ac K (cl "Story") "steps") (_:ac K (cl "Story") "end") (_:ac K (cl "Story") "brought") (_:ac K (cl "Story") "touches") (_:ac K (cl "Story") "puts") (_:ac K (cl "Story") "lines"):i6 P w K mg base cl:=
 gw (N:=["self", "line"]) D rfl (by left) (by right) rfl rfl (by right)
theorem ko (D:jK (λ f fd=>bg K (cl "Story") "add_touch" f/\aP K fd ["self", "word", "place", "line"] []) K "add_touch" "Story.add_touch" ci) (_:mg "Story" = some (.ref (cl "Story"))) (_:eJ K (cl "Story")) (_:ac K (cl "Story") "told") (_:ac K (cl "Story") "steps") (_:ac K (cl "Story") "end") (_:ac K (cl "Story") "brought") (_:ac K (cl "Story") "touches") (_:ac K (cl "Story") "puts") (_:ac K (cl "Story") "lines"):h7 P w K mg base cl:=
 gw (N:=["self", "word", "place", "line"]) D rfl (by left) (by right) rfl rfl (by right)
theorem mO (D:jK (λ f fd=>bg K (cl "Story") "finish" f/\aP K fd ["self", "word", "line"] []) K "finish" "Story.finish" d7) (_:mg "Story" = some (.ref (cl "Story"))) (_:eJ K (cl "Story")) (_:ac K (cl "Story") "told") (_:ac K (cl "Story") "steps") (_:ac K (cl "Story") "end") (_:ac K (cl "Story") "brought") (_:ac K (cl "Story") "touches") (_:ac K (cl "Story") "puts") (_:ac K (cl "Story") "lines"):ju P w K mg base cl:=
 Ko (N:=["self", "word", "line"]) D rfl (by left) (by right) rfl rfl (by right)
theorem lM (D:jK (λ f fd=>Mk K (cl "Goer") f/\aP K fd ["self", "program", "lane", "lanes", "mine", "boxes", "most"] []) K "__init__" "Goer.__init__" cU) (_:lE P w K mg base) (h_Frame___init__:fM P w K mg base cl) (h_Story___init__:iw P w K mg base cl) (h_Story_begin_phase:gh P w K mg base cl) (_:mg "Frame" = some (.ref (cl "Frame"))) (_:eJ K (cl "Frame")) (_:ac K (cl "Frame") "names") (_:ac K (cl "Frame") "given") (_:ac K (cl "Frame") "walks") (_:ac K (cl "Frame") "loops") (_:mg "Goer" = some (.ref (cl "Goer"))) (_:eJ K (cl "Goer")) (_:ac K (cl "Goer") "defs") (_:ac K (cl "Goer") "lane") (_:ac K (cl "Goer") "signs") (_:ac K (cl "Goer") "boxes") (_:ac K (cl "Goer") "most") (_:ac K (cl "Goer") "frames") (_:ac K (cl "Goer") "line") (_:ac K (cl "Goer") "meeting") (_:ac K (cl "Goer") "story") (_:mg "Story" = some (.ref (cl "Story"))) (_:eJ K (cl "Story")) (_:ac K (cl "Story") "told") (_:ac K (cl "Story") "steps") (_:ac K (cl "Story") "end") (_:ac K (cl "Story") "brought") (_:ac K (cl "Story") "touches") (_:ac K (cl "Story") "puts") (_:ac K (cl "Story") "lines"):iW P w K mg base cl:=
 gw (N:=["self", "program", "lane", "lanes", "mine", "boxes", "most", "each"]) D rfl (by left) (by obtain ⟨_,_,⟨_,_⟩,_⟩:=h_Frame___init__;obtain ⟨_,_,⟨_,_⟩,_⟩:=h_Story___init__;obtain ⟨_,_,⟨_,_⟩,_⟩:=h_Story_begin_phase;right) rfl rfl (by right)
theorem oQ (D:jK (λ f fd=>bg K (cl "Goer") "touch" f/\aP K fd ["self", "word", "place"] []) K "touch" "Goer.touch" fu) (h_Story_add_touch:h7 P w K mg base cl) (_:mg "Goer" = some (.ref (cl "Goer"))) (_:eJ K (cl "Goer")) (_:ac K (cl "Goer") "defs") (_:ac K (cl "Goer") "lane") (_:ac K (cl "Goer") "signs") (_:ac K (cl "Goer") "boxes") (_:ac K (cl "Goer") "most") (_:ac K (cl "Goer") "frames") (_:ac K (cl "Goer") "line") (_:ac K (cl "Goer") "meeting") (_:ac K (cl "Goer") "story") (_:mg "Story" = some (.ref (cl "Story"))) (_:eJ K (cl "Story")) (_:ac K (cl "Story") "told") (_:ac K (cl "Story") "steps") (_:ac K (cl "Story") "end") (_:ac K (cl "Story") "brought") (_:ac K (cl "Story") "touches") (_:ac K (cl "Story") "puts") (_:ac K (cl "Story") "lines") (_:mg "Outside" = some (.ref (cl "Outside"))) (_:XClE K (cl "Outside")) (_:mg "len" = none):kS P w K mg base cl:=
 vK (N:=["self", "word", "place"]) D rfl (λ E=>⟨_,by left,by obtain ⟨_,_,⟨_,_⟩,_⟩:=h_Story_add_touch;right⟩) rfl rfl (by right)
theorem sO (D:jK (λ f fd=>bg K (cl "Goer") "got" f/\aP K fd ["self", "place"] []) K "got" "Goer.got" gE) (h_Goer_touch:kS P w K mg base cl) (_:mg "Goer" = some (.ref (cl "Goer"))) (_:eJ K (cl "Goer")) (_:ac K (cl "Goer") "defs") (_:ac K (cl "Goer") "lane") (_:ac K (cl "Goer") "signs") (_:ac K (cl "Goer") "boxes") (_:ac K (cl "Goer") "most") (_:ac K (cl "Goer") "frames") (_:ac K (cl "Goer") "line") (_:ac K (cl "Goer") "meeting") (_:ac K (cl "Goer") "story"):nN P w K mg base cl:=
 vK (N:=["self", "place"]) D rfl (λ E=>⟨_,by left,by obtain ⟨_,_,⟨_,_⟩,_⟩:=h_Goer_touch;right⟩) rfl rfl (by right)
theorem lC (D:jK (λ f fd=>bg K (cl "Goer") "reckoned" f/\aP K fd ["self", "expression"] []) K "reckoned" "Goer.reckoned" cT) (h_Goer_got:nN P w K mg base cl) (_:sQ P w K mg base) (_:mg "Frame" = some (.ref (cl "Frame"))) (_:eJ K (cl "Frame")) (_:ac K (cl "Frame") "names") (_:ac K (cl "Frame") "given") (_:ac K (cl "Frame") "walks") (_:ac K (cl "Frame") "loops") (_:mg "Goer" = some (.ref (cl "Goer"))) (_:eJ K (cl "Goer")) (_:ac K (cl "Goer") "defs") (_:ac K (cl "Goer") "lane") (_:ac K (cl "Goer") "signs") (_:ac K (cl "Goer") "boxes") (_:ac K (cl "Goer") "most") (_:ac K (cl "Goer") "frames") (_:ac K (cl "Goer") "line") (_:ac K (cl "Goer") "meeting") (_:ac K (cl "Goer") "story") (_:mg "Nought" = some (.ref (cl "Nought"))) (_:XClE K (cl "Nought")) {a_SIGNS:Addr} (m_SIGNS:mg "SIGNS" = some (.ref a_SIGNS)) (g_SIGNS:CW K a_SIGNS ([(Str.ofString "lane"),(Str.ofString "lanes"),(Str.ofString "mine")])):eK P w K mg base cl:=
 vn (k:=3) (F:=λ n=>tj K cl (aB n)) (CP D λ _ _=>rfl) (λ n hself=>vK (N:=["self", "expression", "kind", "number"]) D rfl (λ E=>⟨_,by left,by obtain ⟨_,_,⟨_,_⟩,_⟩:=h_Goer_got;obtain ⟨_,_,⟨_,_⟩,_⟩:=hself;right⟩) rfl rfl (by right)) 9
theorem qA (D:jK (λ f fd=>bg K (cl "Goer") "give" f/\aP K fd ["self", "name", "number"] []) K "give" "Goer.give" fV) (_:mg "Frame" = some (.ref (cl "Frame"))) (_:eJ K (cl "Frame")) (_:ac K (cl "Frame") "names") (_:ac K (cl "Frame") "given") (_:ac K (cl "Frame") "walks") (_:ac K (cl "Frame") "loops") (_:mg "Goer" = some (.ref (cl "Goer"))) (_:eJ K (cl "Goer")) (_:ac K (cl "Goer") "defs") (_:ac K (cl "Goer") "lane") (_:ac K (cl "Goer") "signs") (_:ac K (cl "Goer") "boxes") (_:ac K (cl "Goer") "most") (_:ac K (cl "Goer") "frames") (_:ac K (cl "Goer") "line") (_:ac K (cl "Goer") "meeting") (_:ac K (cl "Goer") "story"):jo P w K mg base cl:=
 gw (N:=["self", "name", "number"]) D rfl (by left) (by right) rfl rfl (by right)
theorem mK (D:jK (λ f fd=>bg K (cl "Goer") "go_back" f/\aP K fd ["self", "number"] []) K "go_back" "Goer.go_back" d9) (h_Goer_give:jo P w K mg base cl) (_:mg "Frame" = some (.ref (cl "Frame"))) (_:eJ K (cl "Frame")) (_:ac K (cl "Frame") "names") (_:ac K (cl "Frame") "given") (_:ac K (cl "Frame") "walks") (_:ac K (cl "Frame") "loops") (_:mg "Goer" = some (.ref (cl "Goer"))) (_:eJ K (cl "Goer")) (_:ac K (cl "Goer") "defs") (_:ac K (cl "Goer") "lane") (_:ac K (cl "Goer") "signs") (_:ac K (cl "Goer") "boxes") (_:ac K (cl "Goer") "most") (_:ac K (cl "Goer") "frames") (_:ac K (cl "Goer") "line") (_:ac K (cl "Goer") "meeting") (_:ac K (cl "Goer") "story"):g8 P w K mg base cl:=
 gw (N:=["self", "number", "left"]) D rfl (by left) (by obtain ⟨_,_,⟨_,_⟩,_⟩:=h_Goer_give;right) rfl rfl (by right)
theorem mH (D:jK (λ f fd=>bg K (cl "Goer") "do_call" f/\aP K fd ["self", "statement"] []) K "do_call" "Goer.do_call" dH) (h_Goer_reckoned:eK P w K mg base cl) (h_Story_finish:gJ P w K mg base cl) (h_Frame___init__:fM P w K mg base cl) (_:mg "Frame" = some (.ref (cl "Frame"))) (_:eJ K (cl "Frame")) (_:ac K (cl "Frame") "names") (_:ac K (cl "Frame") "given") (_:ac K (cl "Frame") "walks") (_:ac K (cl "Frame") "loops") (_:mg "Goer" = some (.ref (cl "Goer"))) (_:eJ K (cl "Goer")) (_:ac K (cl "Goer") "defs") (_:ac K (cl "Goer") "lane") (_:ac K (cl "Goer") "signs") (_:ac K (cl "Goer") "boxes") (_:ac K (cl "Goer") "most") (_:ac K (cl "Goer") "frames") (_:ac K (cl "Goer") "line") (_:ac K (cl "Goer") "meeting") (_:ac K (cl "Goer") "story") (_:mg "Story" = some (.ref (cl "Story"))) (_:eJ K (cl "Story")) (_:ac K (cl "Story") "told") (_:ac K (cl "Story") "steps") (_:ac K (cl "Story") "end") (_:ac K (cl "Story") "brought") (_:ac K (cl "Story") "touches") (_:ac K (cl "Story") "puts") (_:ac K (cl "Story") "lines") (_:mg "len" = none) (_:mg "dict" = none) (_:mg "zip" = none) {tD:Tok} (m_DEEPEST:mg "DEEPEST" = some (.int 6 tD)) (g_DEEPEST:∀ ρ G,Dw K ρ G (.int 6) ((.int 6))):jG P w K mg base cl:=
 vK (N:=["self", "statement", "numbers", "called"]) D rfl (λ E=>⟨_,by left,by obtain ⟨_,_,⟨_,_⟩,_⟩:=h_Goer_reckoned;obtain ⟨_,_,⟨_,_⟩,_⟩:=h_Story_finish;obtain ⟨_,_,⟨_,_⟩,_⟩:=h_Frame___init__;right⟩) rfl rfl (by right)
theorem oH (D:jK (λ f fd=>bg K (cl "Goer") "leave" f/\aP K fd ["self", "statement"] []) K "leave" "Goer.leave" fq) (h_Goer_go_back:g8 P w K mg base cl) (h_Goer_reckoned:eK P w K mg base cl) (h_Story_finish:gJ P w K mg base cl) (_:mg "Goer" = some (.ref (cl "Goer"))) (_:eJ K (cl "Goer")) (_:ac K (cl "Goer") "defs") (_:ac K (cl "Goer") "lane") (_:ac K (cl "Goer") "signs") (_:ac K (cl "Goer") "boxes") (_:ac K (cl "Goer") "most") (_:ac K (cl "Goer") "frames") (_:ac K (cl "Goer") "line") (_:ac K (cl "Goer") "meeting") (_:ac K (cl "Goer") "story") (_:mg "Story" = some (.ref (cl "Story"))) (_:eJ K (cl "Story")) (_:ac K (cl "Story") "told") (_:ac K (cl "Story") "steps") (_:ac K (cl "Story") "end") (_:ac K (cl "Story") "brought") (_:ac K (cl "Story") "touches") (_:ac K (cl "Story") "puts") (_:ac K (cl "Story") "lines"):kN P w K mg base cl:=
 vK (N:=["self", "statement", "kind", "frame"]) D rfl (λ E=>⟨_,by left,by obtain ⟨_,_,⟨_,_⟩,_⟩:=h_Goer_go_back;obtain ⟨_,_,⟨_,_⟩,_⟩:=h_Goer_reckoned;obtain ⟨_,_,⟨_,_⟩,_⟩:=h_Story_finish;right⟩) rfl rfl (by right)
theorem tH (D:jK (λ f fd=>bg K (cl "Goer") "do" f/\aP K fd ["self", "statement"] []) K "do" "Goer.do" ij) (h_Frame_pass_by:iZ P w K mg base cl) (h_Goer_give:jo P w K mg base cl) (h_Goer_reckoned:eK P w K mg base cl) (h_Goer_do_call:jG P w K mg base cl) (h_Goer_leave:kN P w K mg base cl) (_:mg "Frame" = some (.ref (cl "Frame"))) (_:eJ K (cl "Frame")) (_:ac K (cl "Frame") "names") (_:ac K (cl "Frame") "given") (_:ac K (cl "Frame") "walks") (_:ac K (cl "Frame") "loops") (_:mg "Goer" = some (.ref (cl "Goer"))) (_:eJ K (cl "Goer")) (_:ac K (cl "Goer") "defs") (_:ac K (cl "Goer") "lane") (_:ac K (cl "Goer") "signs") (_:ac K (cl "Goer") "boxes") (_:ac K (cl "Goer") "most") (_:ac K (cl "Goer") "frames") (_:ac K (cl "Goer") "line") (_:ac K (cl "Goer") "meeting") (_:ac K (cl "Goer") "story") (_:mg "Story" = some (.ref (cl "Story"))) (_:eJ K (cl "Story")) (_:ac K (cl "Story") "told") (_:ac K (cl "Story") "steps") (_:ac K (cl "Story") "end") (_:ac K (cl "Story") "brought") (_:ac K (cl "Story") "touches") (_:ac K (cl "Story") "puts") (_:ac K (cl "Story") "lines"):pq P w K mg base cl:=
 vK (N:=["self", "statement", "kind"]) D rfl (λ E=>⟨_,by left,by obtain ⟨_,_,⟨_,_⟩,_⟩:=h_Frame_pass_by;obtain ⟨_,_,⟨_,_⟩,_⟩:=h_Goer_give;obtain ⟨_,_,⟨_,_⟩,_⟩:=h_Goer_reckoned;obtain ⟨_,_,⟨_,_⟩,_⟩:=h_Goer_do_call;obtain ⟨_,_,⟨_,_⟩,_⟩:=h_Goer_leave;right⟩) rfl rfl (by right)
theorem qO (D:jK (λ f fd=>bg K (cl "Goer") "step" f/\aP K fd ["self", "statement"] []) K "step" "Goer.step" fR) (h_Story_add_step:i6 P w K mg base cl) (h_Goer_do:pq P w K mg base cl) (_:mg "Goer" = some (.ref (cl "Goer"))) (_:eJ K (cl "Goer")) (_:ac K (cl "Goer") "defs") (_:ac K (cl "Goer") "lane") (_:ac K (cl "Goer") "signs") (_:ac K (cl "Goer") "boxes") (_:ac K (cl "Goer") "most") (_:ac K (cl "Goer") "frames") (_:ac K (cl "Goer") "line") (_:ac K (cl "Goer") "meeting") (_:ac K (cl "Goer") "story") (_:mg "Story" = some (.ref (cl "Story"))) (_:eJ K (cl "Story")) (_:ac K (cl "Story") "told") (_:ac K (cl "Story") "steps") (_:ac K (cl "Story") "end") (_:ac K (cl "Story") "brought") (_:ac K (cl "Story") "touches") (_:ac K (cl "Story") "puts") (_:ac K (cl "Story") "lines") (_:mg "Nought" = some (.ref (cl "Nought"))) (_:mg "Outside" = some (.ref (cl "Outside"))) (_:Es K (cl "Nought") (cl "Outside")) (hn_Story_finish:ju P w K mg base cl):my P w K mg base cl:=
 gw (N:=["self", "statement"]) D rfl (by left) (by obtain ⟨_,_,⟨_,_⟩,_⟩:=h_Story_add_step;obtain ⟨_,_,⟨_,_⟩,_⟩:=h_Goer_do;obtain ⟨_,_,⟨_,_⟩,hF⟩:=hn_Story_finish;have:=hF.all;right) rfl rfl (by right)
theorem mF (D:jK (λ f fd=>bg K (cl "Goer") "end_def" f/\aP K fd ["self"] []) K "end_def" "Goer.end_def" dF) (h_Story_finish:gJ P w K mg base cl) (h_Goer_go_back:g8 P w K mg base cl) (_:mg "Goer" = some (.ref (cl "Goer"))) (_:eJ K (cl "Goer")) (_:ac K (cl "Goer") "defs") (_:ac K (cl "Goer") "lane") (_:ac K (cl "Goer") "signs") (_:ac K (cl "Goer") "boxes") (_:ac K (cl "Goer") "most") (_:ac K (cl "Goer") "frames") (_:ac K (cl "Goer") "line") (_:ac K (cl "Goer") "meeting") (_:ac K (cl "Goer") "story") (_:mg "Story" = some (.ref (cl "Story"))) (_:eJ K (cl "Story")) (_:ac K (cl "Story") "told") (_:ac K (cl "Story") "steps") (_:ac K (cl "Story") "end") (_:ac K (cl "Story") "brought") (_:ac K (cl "Story") "touches") (_:ac K (cl "Story") "puts") (_:ac K (cl "Story") "lines") (_:mg "len" = none):j0 P w K mg base cl:=
 gw (N:=["self"]) D rfl (by left) (by obtain ⟨_,_,⟨_,_⟩,_⟩:=h_Story_finish;obtain ⟨_,_,⟨_,_⟩,_⟩:=h_Goer_go_back;right) rfl rfl (by right)
theorem uy (D:jK (λ f fd=>bg K (cl "Goer") "go" f/\aP K fd ["self"] []) K "go" "Goer.go" im) (h_Frame_statement:gX P w K mg base cl) (h_Goer_end_def:j0 P w K mg base cl) (h_Goer_step:my P w K mg base cl) (_:mg "Frame" = some (.ref (cl "Frame"))) (_:eJ K (cl "Frame")) (_:ac K (cl "Frame") "names") (_:ac K (cl "Frame") "given") (_:ac K (cl "Frame") "walks") (_:ac K (cl "Frame") "loops") (_:mg "Goer" = some (.ref (cl "Goer"))) (_:eJ K (cl "Goer")) (_:ac K (cl "Goer") "defs") (_:ac K (cl "Goer") "lane") (_:ac K (cl "Goer") "signs") (_:ac K (cl "Goer") "boxes") (_:ac K (cl "Goer") "most") (_:ac K (cl "Goer") "frames") (_:ac K (cl "Goer") "line") (_:ac K (cl "Goer") "meeting") (_:ac K (cl "Goer") "story") (_:mg "Story" = some (.ref (cl "Story"))) (_:eJ K (cl "Story")) (_:ac K (cl "Story") "told") (_:ac K (cl "Story") "steps") (_:ac K (cl "Story") "end") (_:ac K (cl "Story") "brought") (_:ac K (cl "Story") "touches") (_:ac K (cl "Story") "puts") (_:ac K (cl "Story") "lines"):pb P w K mg base cl:=
 gw (N:=["self", "statement"]) D rfl (by left) (by obtain ⟨_,_,⟨_,_⟩,_⟩:=h_Frame_statement;obtain ⟨_,_,⟨_,_⟩,_⟩:=h_Goer_end_def;obtain ⟨_,_,⟨_,_⟩,_⟩:=h_Goer_step;right) rfl rfl (by right)
theorem yl (D:sv K mg "alone" ["program", "lane", "lanes", "mine", "boxes", "most", "letters"] [] vk) (h_Goer___init__:iW P w K mg base cl) (h_Goer_go:pb P w K mg base cl) (_:mg "Goer" = some (.ref (cl "Goer"))) (_:eJ K (cl "Goer")) (_:ac K (cl "Goer") "defs") (_:ac K (cl "Goer") "lane") (_:ac K (cl "Goer") "signs") (_:ac K (cl "Goer") "boxes") (_:ac K (cl "Goer") "most") (_:ac K (cl "Goer") "frames") (_:ac K (cl "Goer") "line") (_:ac K (cl "Goer") "meeting") (_:ac K (cl "Goer") "story"):v4 P w K mg base cl:=
 gw (N:=["program", "lane", "lanes", "mine", "boxes", "most", "letters", "goer", "letter"]) D rfl (by left) (by obtain ⟨_,_,⟨_,_⟩,_⟩:=h_Goer___init__;obtain ⟨_,_,⟨_,_⟩,_⟩:=h_Goer_go;right) rfl rfl (by right)
theorem qI (D:sv K mg "_law_cell" ["_law_script", "_law_k"] [] lT) (_:mg "len" = none):gU P w K mg base:=
 mC (N:=["_law_script", "_law_k"]) D rfl (λ ρ=>by left) (by right) rfl rfl (by right)
theorem oJ (D:sv K mg "_law_mixed" ["_law_cell_here", "_law_k"] [] kC):gk P w K mg base:=
 mC (N:=["_law_cell_here", "_law_k", "_law_number"]) D rfl (λ ρ=>by left) (by right) rfl rfl (by right)
theorem lg (D:sv K mg "_law_all_whole" ["_law_row"] [] iu) (_:mg "len" = none) (_:mg "isinstance" = none) (_:mg "bool" = none) (_:mg "int" = none):i0 P w K mg base cl:=
 gw (N:=["_law_row"]) D rfl (by left) (by right) rfl rfl (by right)
theorem kh (D:sv K mg "_law_into_range" ["_law_number"] [] gZ):h8 P w K mg base:=
 mC (N:=["_law_number"]) D rfl (λ ρ=>by left) (by right) rfl rfl (by right)
theorem oS (D:sv K mg "_law_names" ["_law_cell_here"] [] kA) (_:mg "range" = none):kZ P w K mg base:=
 mC (N:=["_law_cell_here", "_law_size", "_law_at", "_law_letters", "_law_names_here", "_law_k", "_law_one"]) D rfl (λ ρ=>by left) (by right) rfl rfl (by right)
theorem nQ (D:sv K mg "_law_handed" ["_law_number", "_law_params"] [] jT) (_:mg "len" = none):jV P w K mg base:=
 mC (N:=["_law_number", "_law_params", "_law_more"]) D rfl (λ ρ=>by left) (by right) rfl rfl (by right)
theorem qN (D:sv K mg "_law_plan" ["_law_script", "_law_many", "_law_names_here"] [] mm) (_:gU P w K mg base) (_:gk P w K mg base) (_:mg "range" = none) (_:mg "int" = none):lZ P w K mg base:=
 mC (N:=["_law_script", "_law_many", "_law_names_here", "_law_plans", "_law_k", "_law_cell_here", "_law_drawn", "_law_size", "_law_turned", "_law_params", "_law_number"]) D rfl (λ ρ=>by left) (by right) rfl rfl (by right)
theorem qp (D:sv K mg "_law_next" ["_law_k", "_law_many", "_law_around"] [] lX):m9 P w K mg base:=
 mC (N:=["_law_k", "_law_many", "_law_around"]) D rfl (λ ρ=>by left) (by right) rfl rfl (by right)
theorem qW (D:sv K mg "_law_body" ["_law_script", "_law_plans", "_law_k", "_law_line", "_law_around"] [] m7) (_:m9 P w K mg base) (_:gU P w K mg base) (_:jV P w K mg base) (_:gk P w K mg base) (_:mg "len" = none) (_:mg "range" = none):mo P w K mg base:=
 mC (N:=["_law_script", "_law_plans", "_law_k", "_law_line", "_law_around", "_law_many", "_law_name", "_law_params", "_law_number", "_law_way", "_law_body_here", "_law_one", "_law_after", "_law_handed_here", "_law_j", "_law_cell_here"]) D rfl (λ ρ=>by left) (by right) rfl rfl (by right)
theorem mL (D:sv K mg "_law_program" ["_law_script", "_law_plans", "_law_around", "_law_first"] [] j6) (_:mo P w K mg base) (_:mg "range" = none) (_:mg "len" = none) (_:mg "list" = none):jE P w K mg base:=
 mC (N:=["_law_script", "_law_plans", "_law_around", "_law_first", "_law_program_here", "_law_line", "_law_j", "_law_k", "_law_body_here", "_law_last"]) D rfl (λ ρ=>by left) (by right) rfl rfl (by right)
theorem oP (D:sv K mg "_law_worth" ["_law_told", "_law_names_here"] [] kR) (_:h8 P w K mg base):iD P w K mg base cl:=
 y9 (k:=1) (F:=λ n=>jd K cl (aX n)) (F5 D λ _ _=>rfl) (λ n _=>gw (N:=["_law_told", "_law_names_here"]) D rfl (by left) (by right) rfl rfl (by right)) 3
theorem oo (D:sv K mg "_law_way_in" ["_law_program_here", "_law_told", "_law_lines"] [] jZ) (_:iD P w K mg base cl) (_:mg "len" = none) (_:mg "zip" = none):jU P w K mg base cl:=
 gw (N:=["_law_program_here", "_law_told", "_law_lines", "_law_bodies", "_law_one", "_law_names_here", "_law_pile", "_law_here", "_law_after", "_law_row", "_law_handed_here", "_law_name"]) D rfl (by left) (by right) rfl rfl (by right)
theorem mM (D:sv K mg "_law_way_out" ["_law_pile", "_law_told", "_law_lines"] [] js) (_:iD P w K mg base cl) (_:mg "reversed" = none):jB P w K mg base cl:=
 gw (N:=["_law_pile", "_law_told", "_law_lines", "_law_back", "_law_here", "_law_names_here", "_law_after", "_law_row"]) D rfl (by left) (by right) rfl rfl (by right)
theorem CM {R:Addr->FuncData->Prop} (hlaw:∀ ns:List Int,ns.length<=63->∃ S,y0 [.list (ns.map .int)] []=some (.ok (.bool true),S)) (D:jK R K "law" "law" rD) (_:gk P w K mg base) (_:gU P w K mg base) (_:kZ P w K mg base) (_:lZ P w K mg base) (_:jE P w K mg base) (_:v4 P w K mg base cl) (_:jU P w K mg base cl) (_:jB P w K mg base cl) (_:i0 P w K mg base cl) (_:mg "Story" = some (.ref (cl "Story"))) (_:eJ K (cl "Story")) (_:ac K (cl "Story") "told") (_:ac K (cl "Story") "steps") (_:ac K (cl "Story") "end") (_:ac K (cl "Story") "brought") (_:ac K (cl "Story") "touches") (_:ac K (cl "Story") "puts") (_:ac K (cl "Story") "lines") (_:mg "repr" = none) (_:mg "len" = none):Ce R P w K mg base 18 ["_law_script"] (qr K):=
 Ce.imp (sp:=jd K cl y0) (gw (N:=["_law_script", "_law_first", "_law_many", "_law_around", "_law_names_here", "_law_plans", "_law_program_here", "_law_lanes", "_law_kept", "_law_story", "_law_told", "_law_lines", "_law_pile", "_law_end"]) D rfl (by left) (by right) rfl rfl (by right)) λ vs H Q E h=>by
  obtain ⟨a,ns,rfl,hS,h63,q⟩:=h;obtain ⟨Sf,hl⟩:=hlaw ns h63;exact ⟨[],H,[],[.list (ns.map .int)],.bool true,Sf,.refl _,Fs,.cons (.lst hS (.ints ns)) .nil,hl,λ v ρ' G' H' g s dv=>by cases dv;exact q H'⟩
end
inductive Tr where
 | num (v:Int) | sig (k:Fin 3) | nam (x:Str) | box (t:Tr) | op (k:Fin 7) (a b:Tr)
noncomputable def LN (i:Fin 3):Str:=[Str.ofString "lane", Str.ofString "lanes", Str.ofString "mine"].getD i.1 ""
noncomputable def li (i:Fin 7):Str:=[Str.ofString "+", Str.ofString "-", Str.ofString "*", Str.ofString "div", Str.ofString "rem", Str.ofString "<", Str.ofString "="].getD i.1 ""
noncomputable def tw:Tr->W
 | .num v=>.tuple [.str "num", .int v]
 | .sig k=>.tuple [.str (LN k)]
 | .nam x=>.tuple [.str "name", .str x]
 | .box t=>.tuple [.str "box", tw t]
 | .op k a b=>.tuple [.str (li k),tw a,tw b]
noncomputable def iQ:Tr->Nat
 | .num _=>0 | .sig _=>0 | .nam _=>0
 | .box t=>iQ t+1
 | .op _ a b=>max (iQ a) (iQ b)+1
theorem L7:∀ k,decide (li k=Str.ofString "num")=false:=by decide +kernel
theorem Lz:∀ k,decide (li k=Str.ofString "name")=false:=by decide +kernel
theorem Mj:∀ k,decide (li k=Str.ofString "box")=false:=by decide +kernel
theorem Ml:∀ k,sS (.str (li k)) (.tuple [.str "lane", .str "lanes", .str "mine"])=some false:=by decide +kernel
theorem Lr:decide (Str.ofString "name" = Str.ofString "num")=false:=by decide +kernel
theorem tF {f:DS->Option W} {δ:DS} {a b:Str} (h1:f δ=some (.str a)) (h2:decide (a=b)=false):aC dJ f (dC (.str b)) δ=some false:=by simp! [uD,h1,h2]
theorem tT {f:DS->Option W} {δ:DS} {a:Str} (h1:f δ=some (.str a)):aC dJ f (dC (.str a)) δ=some true:=by simp! [uD,h1]
theorem sF {f:DS->Option W} {δ:DS} {a b:Str} {S:ai} (h1:f δ=some (.str a)) (h2:decide (a=b)=false):aa (aC dJ f (dC (.str b))) δ S=some (.ok false,S):=aq (tF h1 h2)
theorem sT {f:DS->Option W} {δ:DS} {a:Str} {S:ai} (h1:f δ=some (.str a)):aa (aC dJ f (dC (.str a))) δ S=some (.ok true,S):=aq (tT h1)
theorem x0 {f:DS->Option W} {δ:DS} {w:W} {l:List W} (h:f δ=some (.tuple (w::l))):aA aR f (dC (.int (0))) δ=some w:=by simp only [aA,h,dC,Option.bind_some,pG,Hy]
theorem x1 {f:DS->Option W} {δ:DS} {v w:W} {l:List W} (h:f δ=some (.tuple (v::w::l))):aA aR f (dC (.int (1))) δ=some w:=by simp only [aA,h,dC,Option.bind_some,pG,IH]
theorem x2 {f:DS->Option W} {δ:DS} {u v w:W} {l:List W} (h:f δ=some (.tuple (u::v::w::l))):aA aR f (dC (.int (2))) δ=some w:=by simp only [aA,h,dC,Option.bind_some,pG,K7]
theorem x3 {f:DS->Option W} {δ:DS} {t u v w:W} {l:List W} (h:f δ=some (.tuple (t::u::v::w::l))):aA aR f (dC (.int (3))) δ=some w:=by simp only [aA,h,dC,Option.bind_some,pG,Mf]
theorem x4 {f:DS->Option W} {δ:DS} {s t u v w:W} {l:List W} (h:f δ=some (.tuple (s::t::u::v::w::l))):aA aR f (dC (.int (4))) δ=some w:=by simp only [aA,h,dC,Option.bind_some,pG,KI]
theorem fZ {f g:DS->Option fA} {δ:DS} {d:W} (h:f δ=some (.rt d)):aM f g δ=some (.rt d):=by unfold aM;rw [h]
theorem iT {f:DS->Option W} {δ:DS} {a:Str} {d:W} {g k:DS->Option fA} (h1:f δ=some (.str a)) (h2:g δ=some (.rt d)):aM (eV (aC dJ f (dC (.str a))) g aI) k δ=some (.rt d):=fZ (aO (b:=true) (tT h1) h2)
theorem pF {f:DS->Option W} {δ:DS} {a b:Str} {S:ai} {g:DS->Option fA} {k:DS->ai->SO} (h1:f δ=some (.str a)) (h2:decide (a=b)=false):av (ax (eV (aC dJ f (dC (.str b))) g aI)) k δ S=k δ S:=ah (aH (aO (b:=false) (tF h1 h2) rfl))
theorem cF {f:DS->Option W} {δ:DS} {a b:Str} {S:ai} {g k:DS->ai->SO} (h1:f δ=some (.str a)) (h2:decide (a=b)=false):av (bD (aa (aC dJ f (dC (.str b)))) g (ax aI)) k δ S=k δ S:=ah ((b9 (sF h1 h2)).trans rfl)
theorem fF {f:DS->Option W} {δ:DS} {a b:Str} {S:ai} {g k:DS->ai->SO} (h1:f δ=some (.str a)) (h2:decide (a=b)=false):bD (aa (aC dJ f (dC (.str b)))) g k δ S=k δ S:=b9 (sF h1 h2)
theorem fT {f:DS->Option W} {δ:DS} {a:Str} {S:ai} {g k:DS->ai->SO} (h1:f δ=some (.str a)):bD (aa (aC dJ f (dC (.str a)))) g k δ S=g δ S:=fK (sT h1)
theorem cB {f:DS->Option W} {g:DS->Option (List W)} {δ:DS} {a:W} {l:List W} (h1:f δ=some a) (h2:g δ=some l):ae f g δ=some (a::l):=by simp only [ae,h1,h2,Option.bind_some,Option.map_some]
theorem Hr {g:DS->Option (List W)} {δ:DS} {l:List W} (h:g δ=some l) (hl:l.length<=9000):bx g δ=some (.tuple l):=by
 have z:=sz _ hl;simp only [bx,h,Option.bind_some,if_pos z]
theorem ug {f g:DS->Option W} {δ:DS} {a b:W} (h:f δ=some a) (h':g δ=some b):bx (ae f (ae g ak)) δ=some (.tuple [a,b]):=Hr (cB h (cB h' rfl)) (by simp)
theorem Hl {f g k:DS->Option W} {δ:DS} {a b c:W} (h:f δ=some a) (h':g δ=some b) (h2:k δ=some c):bx (ae f (ae g (ae k ak))) δ=some (.tuple [a,b,c]):=Hr (cB h (cB h' (cB h2 rfl))) (by simp)
theorem Mh {f g k m:DS->Option W} {δ:DS} {a b c d:W} (h:f δ=some a) (h':g δ=some b) (h2:k δ=some c) (h3:m δ=some d):bx (ae f (ae g (ae k (ae m ak)))) δ=some (.tuple [a,b,c,d]):=Hr (cB h (cB h' (cB h2 (cB h3 rfl)))) (by simp)
theorem ti {f g:DS->Option W} {δ:DS} {l:List W} {i:Int} {x:W} (h1:f δ=some (.list l)) (h2:g δ=some (.int i)) (h3:jf l i=some x):aA aR f g δ=some x:=by simp only [aA,h1,h2,Option.bind_some,BJ,h3]
theorem p8 {f:List W->Option W} {fa:DS->Option (List W)} {δ:DS} {ds:List W} {d:W} (h1:fa δ=some ds) (h2:f ds=some d):bU f fa δ=some d:=by simp only [bU,h1,Option.bind_some,h2]
theorem vD {c:W->W->Option Bool} {f g:DS->Option W} {δ:DS} {a b:W} {r:Bool} (h1:f δ=some a) (h2:g δ=some b) (h3:c a b=some r):aC c f g δ=some r:=by simp only [aC,h1,h2,Option.bind_some,h3]
theorem dO {c:W->W->Option W} {f g:DS->Option W} {δ:DS} {a b r:W} (h1:f δ=some a) (h2:g δ=some b) (h3:c a b=some r):aA c f g δ=some r:=by simp only [aA,h1,h2,Option.bind_some,h3]
theorem dA {f g:DS->Option Bool} {δ:DS} {r:Bool} (h1:f δ=some true) (h2:g δ=some r):jg f g δ=some r:=by simp! [uD,h1,h2]
theorem Cy {f g:DS->Option Bool} {δ:DS} (h1:f δ=some false):jg f g δ=some false:=by simp! [uD,h1]
theorem tD {f:DS->Option W} {δ:DS} {a b:Str} (h1:f δ=some (.str a)):aC dJ f (dC (.str b)) δ=some (decide (a=b)):=by simp! [uD,h1]
noncomputable def wr (n:Int):Int:=(n+2147483648).fmod 4294967296-2147483648
noncomputable abbrev Rg (n:Int):Prop := -2147483648<=n/\n<=2147483647
theorem HX (n:Int):Rg (wr n):=by
 have h:=bQ (n+2147483648) (j:=4294967296) (by decide);unfold wr;constructor <;> omega
theorem md (n:Int):cZ [.int n]=some (.int (wr n)):=by
 refine cv rfl (b6 ?_);have e:n - -2147483648=n+2147483648:=by omega
 have m:=bK (n+2147483648) (j:=4294967296) (by decide);simp! [uD,e,m];rfl
theorem yr (n:Int):eZ [.int n]=some (.int (wr n)):=by
 refine cv rfl (b6 ?_);have m:=bK (n+2147483648) (j:=4294967296) (by decide);simp! [uD,m];rfl
noncomputable def CG (k:Fin 7) (a b:Int):Int:=if k=0 then a+b else if k=1 then a-b else if k=2 then a*b else if k=3 then a.fdiv b else if k=4 then a-b*a.fdiv b else if k=5 then (if a<b then 1 else 0) else (if a=b then 1 else 0)
noncomputable def wk (k:Fin 7) (a b:Int):Option Int:=if (k=3∨k=4)/\b=0 then none else some (wr (CG k a b))
theorem oq:∀ k:Fin 7,(decide (li k=Str.ofString "+")=decide (k=0)/\decide (li k=Str.ofString "-")=decide (k=1)/\decide (li k=Str.ofString "*")=decide (k=2)/\decide (li k=Str.ofString "div")=decide (k=3)/\decide (li k=Str.ofString "rem")=decide (k=4)/\decide (li k=Str.ofString "<")=decide (k=5)):=by decide +kernel
theorem oi:∀ k:Fin 7,sS (.str (li k)) (.tuple [.str "div", .str "rem"])=some (decide (k=3∨k=4)):=by decide +kernel
theorem om {a b:Int} (ha:Rg a):mn a b=true:=iM (by have:=ha.1;omega) (by have:=ha.2;omega)
theorem od {a b:Int} (hb:Rg b) (h0:b≠0):o7 a b=true:=by
 have:b.natAbs<2^200:=Nat.lt_of_lt_of_le (show b.natAbs<2^32 by omega) (Nat.pow_le_pow_right (by decide) (by decide));simp [o7,h0,this]
theorem EJ (a:Int) {b:Int} (h:b<0):b<a.fmod b/\a.fmod b<=0:=by
 have e:=@Int.fmod_eq_emod a b;have h1:=Int.emod_nonneg a (show b≠0 by omega);have h2:a%b < -b:=by
  have:=Int.emod_lt_of_pos a (b := -b) (by omega)
  rwa [Int.emod_neg] at this
 rw [e];split
 . rename_i hd;rcases hd with hd | hd
   . omega
   . have:=Int.emod_eq_zero_of_dvd hd;omega
 . rename_i hd;have:a%b≠0:=λ z=>hd (.inr (Int.dvd_of_emod_eq_zero z));omega
theorem Gg {a b:Int} (ha:Rg a) (hb:Rg b) (h0:b≠0) : -(2^64)<a.fdiv b/\a.fdiv b<2^64:=by
 have e:=Int.mul_fdiv_add_fmod a b;have q1:0<b->0<=a.fmod b/\a.fmod b<b:=λ h=>bQ a h;have q2:b<0->b<a.fmod b/\a.fmod b<=0:=λ h=>EJ a h;generalize a.fdiv b=d at e ⊢;generalize a.fmod b=r at e q1 q2;rcases Int.lt_or_gt_of_ne h0 with h | h
 . obtain ⟨h1,h2⟩:=q2 h;constructor
   . refine Int.not_le.mp λ hd=>?_;have:b*d ≥ (-1)*(-(2^64)):=by
      have h3:(-b)*(-d) ≥ 1*(2^64):=Int.mul_le_mul (by omega) (by omega) (by decide) (by omega);have:(-b)*(-d)=b*d:=by simp [Int.neg_mul_neg]
      omega
     omega
   . refine Int.not_le.mp λ hd=>?_;have h3:(-b)*d ≥ 1*(2^64):=Int.mul_le_mul (by omega) (by omega) (by decide) (by omega);have:(-b)*d = -(b*d):=by rw [Int.neg_mul]
     omega
 . obtain ⟨h1,h2⟩:=q1 h;constructor
   . refine Int.not_le.mp λ hd=>?_;have h3:b*(-d) ≥ 1*(2^64):=Int.mul_le_mul (by omega) (by omega) (by decide) (by omega);have:b*(-d) = -(b*d):=by rw [Int.mul_neg]
     omega
   . refine Int.not_le.mp λ hd=>?_;have h3:b*d ≥ 1*(2^64):=Int.mul_le_mul (by omega) (by omega) (by decide) (by omega);omega
theorem BD (k:Fin 7) {a b:Int} (ha:Rg a) (hb:Rg b) (h0:¬ ((k=3∨k=4)/\b=0)):j3 [.str (li k),.int a,.int b]=some (.int (CG k a b)):=by
 obtain ⟨q0,q1,q2,q3,q4,q5⟩:=oq k;have z0:∀ {δ:DS} {w:Str},ay 0 δ=some (.str (li k))->aC dJ (ay 0) (dC (.str w)) δ=some (decide (li k=w)):=λ h=>tD h;let δ:DS:=[.val (.str (li k)),.val (.int a),.val (.int b)]
 refine cv rfl ?_;by_cases e0:k=0
 . subst e0;exact fZ (aO (b:=true) (by rw [z0 rfl,q0];rfl) (b6 rfl))
 refine az (δ1:=δ) (aO (b:=false) (by rw [z0 rfl,q0,decide_eq_false e0]) rfl) ?_;by_cases e1:k=1
 . subst e1;exact fZ (aO (b:=true) (by rw [z0 rfl,q1];rfl) (b6 rfl))
 refine az (δ1:=δ) (aO (b:=false) (by rw [z0 rfl,q1,decide_eq_false e1]) rfl) ?_;by_cases e2:k=2
 . subst e2;exact fZ (aO (b:=true) (by rw [z0 rfl,q2];rfl) (b6 (dO rfl rfl (j5 (om ha)))))
 refine az (δ1:=δ) (aO (b:=false) (by rw [z0 rfl,q2,decide_eq_false e2]) rfl) ?_;by_cases e3:k=3
 . subst e3;have hb0:b≠0:=λ z=>h0 ⟨.inl rfl,z⟩;exact fZ (aO (b:=true) (by rw [z0 rfl,q3];rfl) (b6 (dO rfl rfl (uo (od hb hb0)))))
 refine az (δ1:=δ) (aO (b:=false) (by rw [z0 rfl,q3,decide_eq_false e3]) rfl) ?_;by_cases e4:k=4
 . subst e4;have hb0:b≠0:=λ z=>h0 ⟨.inr rfl,z⟩;have f:=Gg ha hb hb0;exact fZ (aO (b:=true) (by rw [z0 rfl,q4];rfl) (b6 (dO (b:=.int (b*a.fdiv b)) rfl (dO rfl (dO rfl rfl (uo (od hb hb0))) (j5 (B4 f.1 f.2))) rfl)))
 refine az (δ1:=δ) (aO (b:=false) (by rw [z0 rfl,q4,decide_eq_false e4]) rfl) ?_;by_cases e5:k=5
 . subst e5;refine fZ (aO (b:=true) (by rw [z0 rfl,q5];rfl) (b6 ?_));show FH (aC rX (ay 1) (ay 2)) (dC (.int (1))) (dC (.int (0))) δ=_;simp! [δ,uD];by_cases h:a<b <;> simp [h,CG]
 refine az (δ1:=δ) (aO (b:=false) (by rw [z0 rfl,q5,decide_eq_false e5]) rfl) (b6 ?_);show FH (aC dJ (ay 1) (ay 2)) (dC (.int (1))) (dC (.int (0))) δ=_;simp! [δ,uD];by_cases h:a=b <;> simp [h,CG,e0,e1,e2,e3,e4,e5]
noncomputable def oI:Option Int->W
 | some v=>.int v
 | none=>.none
theorem u6 (k:Fin 7) {a b:Int} (ha:Rg a) (hb:Rg b):kY [.str (li k),.int a,.int b]=some (oI (wk k a b)):=by
 have z2:=sz 2 (by decide);refine cv rfl ?_;have t1:aC sS (ay 0) (bx (ae (dC (.str "div")) (ae (dC (.str "rem")) ak))) [.val (.str (li k)),.val (.int a),.val (.int b)]=some (decide (k=3∨k=4)):=vD rfl (ug rfl rfl) (oi k);have t2:aC dJ (ay 2) (dC (.int (0))) [.val (.str (li k)),.val (.int a),.val (.int b)]=some (decide (b=0)):=rfl;by_cases h:(k=3∨k=4)/\b=0
 . rw [decide_eq_true h.1] at t1;rw [decide_eq_true h.2] at t2;refine fZ (aO (b:=true) (dA t1 t2) ?_);rw [show wk k a b=none from if_pos h];exact b6 rfl
 . have c:jg (aC sS (ay 0) (bx (ae (dC (.str "div")) (ae (dC (.str "rem")) ak)))) (aC dJ (ay 2) (dC (.int (0)))) [.val (.str (li k)),.val (.int a),.val (.int b)]=some false:=by
    by_cases h1:k=3∨k=4
    . rw [decide_eq_true h1] at t1;rw [decide_eq_false (λ z=>h ⟨h1,z⟩)] at t2;exact dA t1 t2
    . rw [decide_eq_false h1] at t1;exact Cy t1
   refine az (aO (b:=false) c rfl) ?_;rw [show wk k a b=some (wr (CG k a b)) from if_neg h];exact b6 (p8 (ds:=[.int (CG k a b)]) (cB (p8 rfl (BD k ha hb h)) rfl) (md _))
section
variable {c f m:Str} {fo fi fv fk fx:DS->ai->SM W} {fa:DS->ai->SM (List W)} {δ:DS} {S S1 S2 S3:ai} {n l:Nat} {fs:List (Str×W)} {d y:W} {es q ds:List W} {i:Int}
theorem iy (h:S[n]?=some (.ins c fs)):iU c (.ref n) S=some (n,fs):=by simp [iU,kj,h]
theorem bA (h1:fo δ S=some (.ok (.ref n),S1)) (h2:S1[n]?=some (.ins c fs)) (h3:fs.lookup f=some d):ao c f fo δ S=some (.ok d,S1):=by simp only [ao,au,h1,iy h2,Option.bind_some,kz,h3,Option.map_some]
theorem eE {g:List W->ai->SM W} (h1:fo δ S=some (.ok (.ref n),S1)) (h2:S1[n]?=some (.ins c fs)) (h3:fs.lookup m=none) (h4:fa δ S1=some (.ok ds,S2)) (h5:g (.ref n::ds) S2=some (.ok d,S3)):cz c m g fo fa δ S=some (.ok d,S3):=by
 simp only [cz,au,h1,iy h2,Option.bind_some,h3,if_true,h4,h5,noX]
theorem pv {g:List W->ai->SM W} {r:SM W} (h1:fo δ S=some (.ok (.ref n),S1)) (h2:S1[n]?=some (.ins c fs)) (h3:fs.lookup m=none) (h4:fa δ S1=some (.ok ds,S2)) (h5:g (.ref n::ds) S2=r):cf c m g fo fa δ S=r:=by
 simp only [cf,au,h1,iy h2,Option.bind_some,h3,if_true,h4,h5]
theorem LB (h1:fo δ S=some (.ok (.ref l),S1)) (h2:fi δ S1=some (.ok (.int i),S2)) (h3:S2[l]?=some (.lst es)) (h4:jf es i=some d):sIx fo fi δ S=some (.ok d,S2):=by simp only [sIx,au,h1,h2,Ge h3,h4,kz,Option.map_some]
theorem Lf (h1:fo δ S=some (.ok (.list es),S1)) (h2:fi δ S1=some (.ok (.int i),S2)) (h4:jf es i=some d):sIx fo fi δ S=some (.ok d,S2):=by
 have:vT (.list es) (.int i) S2=jf es i:=rfl;simp only [sIx,au,h1,h2,this,h4,kz,Option.map_some]
theorem KE (h1:fo δ S=some (.ok (.tuple es),S1)) (h2:fi δ S1=some (.ok (.int i),S2)) (h4:jf es i=some d):sIx fo fi δ S=some (.ok d,S2):=by
 have:vT (.tuple es) (.int i) S2=jf es i:=rfl;simp only [sIx,au,h1,h2,this,h4,kz,Option.map_some]
theorem HV (h1:fo δ S=some (.ok (.ref l),S1)) (h2:S1[l]?=some (.lst es)):mB fo δ S=some (.ok (!es.isEmpty),S1):=by simp only [mB,au,h1,kr h2,Option.map_some,kz]
theorem A8 (h1:fo δ S=some (.ok (.ref l),S1)) (h2:S1[l]?=some (.lst es)):ji fo δ S=some (.ok (.int es.length),S1):=by
 have:sK (.ref l) S1=some (.int es.length):=by unfold sK;rw [kr h2]
 simp only [ji,au,h1,this,kz,Option.map_some]
theorem HB (h1:fo δ S=some (.ok (.list es),S1)):ji fo δ S=some (.ok (.int es.length),S1):=by
 have:sK (.list es) S1=some (.int es.length):=rfl;simp only [ji,au,h1,this,kz,Option.map_some]
theorem Fb (h1:fo δ S=some (.ok (.ref l),S1)) (h2:S1[l]?=some (.lst (es++[d]))):re fo δ S=some (.ok d,S1.set l (.lst es)):=by
 simp [re,au,h1,kr h2]
theorem qj (h1:fo δ S=some (.ok (.ref l),S1)) (h2:S1[l]?=some (.lst es)) (h3:fv δ S1=some (.ok d,S2)) (h4:S2[l]?=some (.lst q)) (h5:q.length<9000):bN fo fv δ S=some (.nx δ,S2.set l (.lst (q++[d]))):=by
 have z:q.length<sizeLine:=Nat.lt_of_lt_of_le h5 (sz 9000 (by decide));simp only [bN,jX,h1,kr h2,Option.isSome_some,if_true,h3,kr h4,Option.bind_some,if_pos z]
theorem Fo (h1:fv δ S=some (.ok d,S1)) (h2:fo δ S1=some (.ok (.ref n),S2)) (h3:S2[n]?=some (.ins c fs)) (h4:fs.length<1000):cu c f fo fv δ S=some (.nx δ,S2.set n (.ins c (dS f d fs))):=by
 simp only [cu,jX,h1,h2,iy h3,Option.bind_some,if_pos h4]
theorem Hm {a b:Int} (h1:fo δ S=some (.ok (.ref n),S)) (h2:S[n]?=some (.ins c fs)) (h3:fs.lookup f=some (.int a)) (h4:fv δ S=some (.ok (.int b),S)) (h5:fs.length<1000):j8 c f fo fv δ S=some (.nx δ,S.set n (.ins c (dS f (.int (a+b)) fs))):=by
 simp only [j8,jX,h1,iy h2,Option.bind_some,h3,h4,gI,if_pos h5]
theorem AF {g:W->W->Option Bool} {b:Bool} (h1:fo δ S=some (.ok d,S1)) (h2:fi δ S1=some (.ok y,S2)) (h3:g d y=some b):oU g fo fi δ S=some (.ok b,S2):=by simp only [oU,au,h1,h2,h3,kz,Option.map_some]
theorem GQ {a b:Int} (h1:fo δ S=some (.ok (.int a),S1)) (h2:fi δ S1=some (.ok (.int b),S2)):jL false fo fi δ S=some (.ok (decide (a=b)),S2):=by
 have:kQ false (.int a) (.int b) S2=some (decide (a=b)):=rfl;simp only [jL,au,h1,h2,this,kz,Option.map_some]
theorem sJ {g:DS->ai->SM Bool} {b:Bool} (h:g δ S=some (.ok b,S1)):sB g δ S=some (.ok (.bool b),S1):=by simp only [sB,au,h]
theorem qF {b:Bool} (h:fo δ S=some (.ok (.bool b),S1)):nS fo δ S=some (.ok b,S1):=by simp only [nS,au,h,x5,kz,Option.map_some]
theorem vq {g:DS->ai->SM Bool} {b:Bool} (h:g δ S=some (.ok b,S1)):oN g δ S=some (.ok (!b),S1):=by simp only [oN,au,h]
theorem Hn {t:DS->ai->SM Bool} {r:SM W} (h:t δ S=some (.ok true,S1)) (h2:fo δ S1=r):FM t fo fi δ S=r:=by simp only [FM,au,h,if_true,h2]
theorem GG {t:DS->ai->SM Bool} {r:SM W} (h:t δ S=some (.ok false,S1)) (h2:fi δ S1=r):FM t fo fi δ S=r:=by simp only [FM,au,h,Bool.false_eq_true,if_false,h2]
theorem wB {t:DS->ai->SM Bool} {g:DS->ai->SO} {δ':DS} {k:Nat} (h1:t δ S=some (.ok true,S1)) (h2:g δ S1=some (.nx δ',S2)):br t g (k+1) δ S=br t g k δ' S2:=by
 show jX (t δ S) _=_;rw [h1];simp only [jX,if_true,h2]
theorem BF {t:DS->ai->SM Bool} {g:DS->ai->SO} {k:Nat} (h1:t δ S=some (.ok false,S1)):br t g (k+1) δ S=some (.nx δ,S1):=by
 show jX (t δ S) _=_;rw [h1];rfl
theorem pQ {kvs:List (bh×W)} {k:Str} (h1:fo δ S=some (.ok (.ref l),S1)) (h2:fk δ S1=some (.ok (.str k),S2)) (h3:S2[l]?=some (.dK kvs)) (h4:bC kvs (.inr k)=some d):iP fo fk δ S=some (.ok d,S2):=by
 have:rO (.ref l) (.str k) S2=some (bC kvs (Sum.inr k)):=by simp [rO,kj,h3,oh]
 simp only [iP,au,h1,h2,this,Option.bind_some,h4,kz,Option.map_some]
theorem yQ {kvs kvs':List (bh×W)} {k:Str} (h1:fo δ S=some (.ok (.ref l),S1)) (h0:S1[l]?=some (.dK kvs')) (h2:fk δ S1=some (.ok (.str k),S2)) (h5:fx δ S2=some (.ok y,S3)) (h3:S3[l]?=some (.dK kvs)):n8 fo fk fx δ S=some (.ok ((bC kvs (.inr k)).getD y),S3):=by
 have:rO (.ref l) (.str k) S3=some (bC kvs (Sum.inr k)):=by simp [rO,kj,h3,oh]
 simp only [n8,au,h1,zt h0,Option.isSome_some,if_true,h2,h5,this,Option.bind_some]
theorem pN {kvs:List (bh×W)} {k:Str} (h1:fv δ S=some (.ok d,S1)) (h2:fo δ S1=some (.ok (.ref l),S2)) (h3:fk δ S2=some (.ok (.str k),S3)) (h4:S3[l]?=some (.dK kvs)) (h5:kvs.length<9000):iN fo fk fv δ S=some (.nx δ,S3.set l (.dK (cA kvs (.inr k) d))):=by
 have hl':kvs.length<sizeLine:=Nat.lt_of_lt_of_le h5 (sz 9000 (by decide));have:yk (.ref l) (.str k) d S3=some (S3.set l (.dK (cA kvs (.inr k) d))):=by simp [yk,kj,h4,oh,hl']
 simp only [iN,jX,h1,h2,h3,this,Option.map_some]
end
noncomputable abbrev dL:=List (Str×Int)
noncomputable def D7 (l:dL) (x:Str):Int:=match l.find? λ p=>decide (p.1=x) with
 | some p=>p.2
 | none=>0
noncomputable def gP (l:dL):List (bh×W):=l.map λ p=>(.inr p.1,.int p.2)
theorem yq (l:dL) (x:Str):(bC (gP l) (.inr x)).getD (.int 0)=.int (D7 l x):=by
 unfold bC gP D7;induction l with
 | nil=>rfl
 | cons p l ih=>
  simp only [List.map_cons,List.find?_cons];by_cases h:p.1=x
  . simp [h]
  . have:¬ (Sum.inr p.1:bh)=Sum.inr x:=λ z=>h (Sum.inr.inj z);simp only [this,h,decide_false];exact ih
noncomputable def cM (l:dL) (x:Str) (v:Int):dL:=if (l.any λ p=>decide (p.1=x))=true then l.map λ p=>if p.1=x then (p.1,v) else p else l++[(x,v)]
theorem kK (l:dL) (x:Str) (v:Int):cA (gP l) (.inr x) (.int v)=gP (cM l x v):=by
 have e:((gP l).any λ kv=>decide (kv.1=(Sum.inr x:bh)))=l.any λ p=>decide (p.1=x):=by
  unfold gP;rw [List.any_map];congr 1;funext p;simp
 unfold cA cM;rw [e];split
 . unfold gP;rw [List.map_map,List.map_map];congr 1;funext p;by_cases h:p.1=x
   . simp [h]
   . have:¬ (Sum.inr p.1:bh)=Sum.inr x:=λ z=>h (Sum.inr.inj z);simp [h]
 . simp [gP]
noncomputable def kW (l:dL):Prop:=∀ p∈l,Rg p.2
theorem kW.put {l:dL} (h:kW l) (x:Str) {v:Int} (hv:Rg v):kW (cM l x v):=by
 unfold cM;split
 . intro p hp;obtain ⟨p',h1,rfl⟩:=List.mem_map.mp hp;by_cases e:p'.1=x
   . simp only [e,if_true];exact hv
   . simp only [e,if_false];exact h p' h1
 . intro p hp;rcases List.mem_append.mp hp with hp | hp
   . exact h p hp
   . rw [List.mem_singleton.mp hp];exact hv
theorem ip (l:dL) (x:Str) (v:Int):(cM l x v).length<=l.length+1:=by
 unfold cM;split <;> simp
theorem Db {l:dL} (h:kW l) (x:Str):Rg (D7 l x):=by
 unfold D7;split
 . rename_i p hp;exact h p (List.mem_of_find?_eq_some hp)
 . decide
noncomputable def ke (l:dL):List Str->List Int->dL
 | x::xs,v::vs=>ke (cM l x v) xs vs
 | _,_=>l
theorem mT:∀ {xs:List Str} {vs:List Int} {l:dL},kW l->(∀ v∈vs,Rg v)->kW (ke l xs vs)
 | [],_,_,h,_=>h
 | _::_,[],_,h,_=>h
 | x::xs,v::vs,_,h,hv=>mT (xs:=xs) (vs:=vs) (h.put x (hv v (.head _))) λ w hw=>hv w (.tail _ hw)
theorem ot:∀ {xs:List Str} {vs:List Int} {l:dL},(ke l xs vs).length<=l.length+xs.length
 | [],_,_=>Nat.le_refl _
 | _::_,[],_=>Nat.le_add_right _ _
 | x::xs,v::vs,l=>by
  have h1:=ot (xs:=xs) (vs:=vs) (l:=cM l x v);have h2:=ip l x v;show (ke (cM l x v) xs vs).length<=_;simp only [List.length_cons];omega
theorem uP:∀ (xs:List Str) (vs:List Int) (l:dL),∃ kvs,HK (xs.map .str) (vs.map .int)=some kvs/\iF (gP l) kvs=gP (ke l xs vs)
 | [],_,l=>⟨[],rfl,rfl⟩
 | x::xs,[],l=>⟨[],rfl,rfl⟩
 | x::xs,v::vs,l=>by
  obtain ⟨kvs,e1,e2⟩:=uP xs vs (cM l x v);refine ⟨(.inr x,.int v)::kvs,?_,?_⟩
  . show (HK (xs.map .str) (vs.map .int)).map _=_;rw [e1];rfl
  . show iF (cA (gP l) (.inr x) (.int v)) kvs=_;rw [kK];exact e2
structure Cn where
 defs:List (bh×W)
 lane:Int
 lanes:Int
 mine:Int
 most:Int
structure Fm where
 nm:dL
 gv:W
 rows:List W
 pl:Nat
 wl:Bool
structure Qs where
 line:W
 f0:Fm
 fs:List Fm
 al:Nat
 told:List W
 steps:Int
 fin:W
 lns:List W
noncomputable def qZ (n:Nat) (c:Cn) (ln:W):List (Str×W):=[(Str.ofString "defs", .ref (n+1)),(Str.ofString "lane", .int c.lane),(Str.ofString "signs", .ref (n+2)),(Str.ofString "boxes", .ref (n+3)),(Str.ofString "most", .int c.most),(Str.ofString "frames", .ref (n+9)),(Str.ofString "line", ln),(Str.ofString "meeting", .none),(Str.ofString "story", .ref (n+10))]
noncomputable def wE (b:Nat) (g:W):List (Str×W):=[(Str.ofString "names", .ref b),(Str.ofString "given", g),(Str.ofString "walks", .ref (b+3)),(Str.ofString "loops", .ref (b+4))]
noncomputable def oA (rows:List W) (i:Nat):List (Str×W):=[(Str.ofString "row", .list rows),(Str.ofString "at", .int i)]
noncomputable def mJ (n:Nat) (k:Int) (e:W):List (Str×W):=[(Str.ofString "told", .ref (n+11)),(Str.ofString "steps", .int k),(Str.ofString "end", e),(Str.ofString "brought", .ref (n+12)),(Str.ofString "touches", .ref (n+13)),(Str.ofString "puts", .ref (n+14)),(Str.ofString "lines", .ref (n+15))]
noncomputable def FD (c:Cn):List (bh×W):=[(.inr (Str.ofString "lane"),.int c.lane),(.inr (Str.ofString "lanes"),.int c.lanes),(.inr (Str.ofString "mine"),.int c.mine)]
noncomputable def pu (b:Nat) (f:Fm):List Ob:=[.dK (gP f.nm),.ins (Str.ofString "Frame") (wE b f.gv),.ins (Str.ofString "Walk") (oA f.rows f.pl),.lst (if f.wl then [.ref (b+2)] else []),.lst []]
noncomputable def rG (n:Nat):Nat->List Fm->List Ob
 | _,[]=>[]
 | t,f::fs=>pu (n+(18+5*t)) f++rG n (t+1) fs
noncomputable def bs:Nat->Nat
 | 0=>4
 | t+1=>18+5*t
noncomputable def uU (n a:Nat):List W:=(List.range a).map λ t=>.ref (n+(bs t+1))
theorem kH (n a:Nat):uU n (a+1)=uU n a++[.ref (n+(bs a+1))]:=by simp [uU,List.range_succ]
theorem nc (n a:Nat):(uU n a).length=a:=by simp [uU]
noncomputable def u9 (n:Nat) (c:Cn) (q:Qs):List Ob:=[.ins (Str.ofString "Goer") (qZ n c q.line),.dK c.defs,.dK (FD c),.lst [],.dK (gP q.f0.nm),.ins (Str.ofString "Frame") (wE (n+4) q.f0.gv),.ins (Str.ofString "Walk") (oA q.f0.rows q.f0.pl),.lst (if q.f0.wl then [.ref (n+4+2)] else []),.lst [],.lst (uU n q.al),.ins (Str.ofString "Story") (mJ n q.steps q.fin),.lst q.told,.lst [],.lst [.ref (n+16)],.lst [.ref (n+17)],.lst q.lns,.lst [],.dK []]
noncomputable def ST (S:ai) (c:Cn) (q:Qs):ai:=S++(u9 S.length c q++rG S.length 0 q.fs)
noncomputable def iz (q:Qs):Nat->Option Fm
 | 0=>some q.f0
 | t+1=>q.fs[t]?
noncomputable def gl (q:Qs) (t:Nat) (f:Fm):Qs:=match t with
 | 0=>{ q with f0:=f }
 | t+1=>{ q with fs:=q.fs.set t f }
theorem gA (S L:ai) (k:Nat):(S++L)[S.length+k]?=L[k]?:=by rw [List.getElem?_append_right (by omega)];congr 1;omega
theorem sA (S L:ai) (k:Nat) (o:Ob):(S++L).set (S.length+k) o=S++L.set k o:=by rw [List.set_append_right _ _ (by omega)];congr 2;omega
theorem uS {n:Nat}:∀ {fs:List Fm} {t0 t:Nat} {f:Fm} {j:Nat},fs[t]?=some f->j<5->(rG n t0 fs)[5*t+j]?=(pu (n+(18+5*(t0+t))) f)[j]?
 | [],_,_,_,_,h,_=>by cases h
 | g::fs,t0,0,f,j,h,hj=>by
  cases h;simp only [Nat.mul_zero,Nat.zero_add,Nat.add_zero,rG];rw [List.getElem?_append_left (by simpa [pu] using hj)]
 | g::fs,t0,t+1,f,j,h,hj=>by
  have ih:=uS (n:=n) (fs:=fs) (t0:=t0+1) (t:=t) (f:=f) h hj;rw [show t0+(t+1)=t0+1+t by omega,<-ih];show (_++rG n (t0+1) fs)[_]?=_;rw [List.getElem?_append_right (by simp [pu];omega)];congr 1;simp [pu];omega
theorem v8 {n:Nat}:∀ {fs:List Fm} {t0 t:Nat} {f f':Fm} {j:Nat} {o:Ob},fs[t]?=some f->j<5->(pu (n+(18+5*(t0+t))) f).set j o=pu (n+(18+5*(t0+t))) f'->(rG n t0 fs).set (5*t+j) o=rG n t0 (fs.set t f')
 | [],_,_,_,_,_,_,h,_,_=>by cases h
 | g::fs,t0,0,f,f',j,o,h,hj,e=>by
  cases h;simp only [Nat.mul_zero,Nat.zero_add,Nat.add_zero,rG,List.set_cons_zero] at e ⊢;rw [List.set_append_left _ _ (by simpa [pu] using hj),e]
 | g::fs,t0,t+1,f,f',j,o,h,hj,e=>by
  have ih:=v8 (n:=n) (fs:=fs) (t0:=t0+1) (t:=t) (f:=f) (f':=f') (o:=o) h hj (by rw [show t0+1+t=t0+(t+1) by omega];exact e);rw [List.set_cons_succ];show (_++rG n (t0+1) fs).set _ _=_++rG n (t0+1) _;rw [<-ih,List.set_append_right _ _ (by simp [pu];omega)];congr 2;simp [pu];omega
theorem vz {n:Nat} (f:Fm):∀ (fs:List Fm) (t0:Nat),rG n t0 (fs++[f])=rG n t0 fs++pu (n+(18+5*(t0+fs.length))) f
 | [],t0=>by simp [rG]
 | g::fs,t0=>by
  show _++rG n (t0+1) (fs++[f])=(_++rG n (t0+1) fs)++_;rw [vz f fs (t0+1),List.append_assoc];congr 3;simp only [List.length_cons];omega
theorem uW {n:Nat}:∀ (fs:List Fm) (t0:Nat),(rG n t0 fs).length=5*fs.length
 | [],_=>rfl
 | g::fs,t0=>by
  show (_++rG n (t0+1) fs).length=_;rw [List.length_append,uW fs];simp [pu];omega
section
variable {S:ai} {c:Cn} {q:Qs}
theorem EM:(ST S c q).length=S.length+(18+5*q.fs.length):=by
 unfold ST;rw [List.length_append,List.length_append,uW];rfl
theorem wj {k:Nat} (h:k<18):(ST S c q)[S.length+k]?=(u9 S.length c q)[k]?:=by
 unfold ST;rw [gA,List.getElem?_append_left h]
theorem FI {k:Nat} {o:Ob} {q':Qs} (h:k<18) (hf:q'.fs=q.fs) (e:(u9 S.length c q).set k o=u9 S.length c q'):(ST S c q).set (S.length+k) o=ST S c q':=by
 unfold ST;rw [sA,List.set_append_left _ _ h,e,hf]
theorem gM {t:Nat} {f:Fm} {j:Nat} (h:iz q t=some f) (hj:j<5):(ST S c q)[S.length+(bs t+j)]?=(pu (S.length+bs t) f)[j]?:=by
 cases t with
 | zero=>
  cases h;rw [show bs 0+j=4+j from rfl,wj (by omega)]
  match j,hj with
  | 0,_=>rfl
  | 1,_=>rfl
  | 2,_=>rfl
  | 3,_=>rfl
  | 4,_=>rfl
 | succ t=>
  unfold ST;rw [gA,List.getElem?_append_right (show 18<=_ by simp [bs];omega)];have e:bs (t+1)+j-(u9 S.length c q).length=5*t+j:=by show 18+5*t+j-18=_;omega
  rw [e,uS h hj,Nat.zero_add];rfl
theorem sM {t:Nat} {f f':Fm} {j:Nat} {o:Ob} (h:iz q t=some f) (hj:j<5) (e:(pu (S.length+bs t) f).set j o=pu (S.length+bs t) f'):(ST S c q).set (S.length+(bs t+j)) o=ST S c (gl q t f'):=by
 cases t with
 | zero=>
  cases h;rw [show bs 0+j=4+j from rfl];refine FI (by omega) rfl ?_;show ([_,_,_,_]++(pu (S.length+4) q.f0++_)).set (4+j) o=[_,_,_,_]++(pu (S.length+4) f'++_);rw [List.set_append_right _ _ (by simp),List.set_append_left _ _ (by simpa [pu] using hj),<-show _=pu (S.length+4) f' from e];congr 3;simp [bs]
 | succ t=>
  unfold ST;rw [sA,List.set_append_right _ _ (show 18<=_ by simp [bs];omega)];have e1:bs (t+1)+j-(u9 S.length c q).length=5*t+j:=by show 18+5*t+j-18=_;omega
  rw [e1,v8 h hj (f':=f') (by rw [Nat.zero_add];exact e)];rfl
theorem LP (f:Fm):ST S c q++pu (S.length+(18+5*q.fs.length)) f=ST S c { q with fs:=q.fs++[f] }:=by
 unfold ST;rw [vz,Nat.zero_add];simp [u9]
theorem qD {t:Nat} {f f':Fm} (h:iz q t=some f) (u:Nat):iz (gl q t f') u=if u=t then some f' else iz q u:=by
 cases t with
 | zero=>cases u <;> simp [iz,gl]
 | succ t=>
  cases u with
  | zero=>simp [iz,gl]
  | succ u=>
   have hl:=(oG h).1;by_cases e:u=t
   . subst e;simp [iz,gl,hl]
   . simp [iz,gl,e,List.getElem?_set_ne (Ne.symm e)]
theorem mX {t:Nat} {f:Fm}:(gl q t f).fs.length=q.fs.length:=by cases t <;> simp [gl]
end
section
variable {S:ai} {c:Cn} {q:Qs}
theorem o0:(ST S c q)[S.length]?=some (.ins (Str.ofString "Goer") (qZ S.length c q.line)):=wj (k:=0) (by decide)
theorem o1:(ST S c q)[S.length+1]?=some (.dK c.defs):=wj (k:=1) (by decide)
theorem o2:(ST S c q)[S.length+2]?=some (.dK (FD c)):=wj (k:=2) (by decide)
theorem o9:(ST S c q)[S.length+9]?=some (.lst (uU S.length q.al)):=wj (k:=9) (by decide)
theorem yN:(ST S c q)[S.length+10]?=some (.ins (Str.ofString "Story") (mJ S.length q.steps q.fin)):=wj (k:=10) (by decide)
theorem J0:(ST S c q)[S.length+11]?=some (.lst q.told):=wj (k:=11) (by decide)
theorem JK:(ST S c q)[S.length+15]?=some (.lst q.lns):=wj (k:=15) (by decide)
theorem w0 (ln:W):(ST S c q).set S.length (.ins (Str.ofString "Goer") (qZ S.length c ln))=ST S c { q with line:=ln }:=FI (k:=0) (by decide) rfl rfl
theorem w9 (x:Nat):(ST S c q).set (S.length+9) (.lst (uU S.length x))=ST S c { q with al:=x }:=FI (k:=9) (by decide) rfl rfl
theorem Lk (k:Int) (e:W):(ST S c q).set (S.length+10) (.ins (Str.ofString "Story") (mJ S.length k e))=ST S c { q with steps:=k,fin:=e }:=FI (k:=10) (by decide) rfl rfl
theorem LI (x:List W):(ST S c q).set (S.length+11) (.lst x)=ST S c { q with told:=x }:=FI (k:=11) (by decide) rfl rfl
theorem LY (x:List W):(ST S c q).set (S.length+15) (.lst x)=ST S c { q with lns:=x }:=FI (k:=15) (by decide) rfl rfl
variable {t:Nat} {f:Fm}
theorem f0' (h:iz q t=some f):(ST S c q)[S.length+bs t]?=some (.dK (gP f.nm)):=gM h (j:=0) (by decide)
theorem f1' (h:iz q t=some f):(ST S c q)[S.length+(bs t+1)]?=some (.ins (Str.ofString "Frame") (wE (S.length+bs t) f.gv)):=gM h (j:=1) (by decide)
theorem f2' (h:iz q t=some f):(ST S c q)[S.length+bs t+2]?=some (.ins (Str.ofString "Walk") (oA f.rows f.pl)):=gM h (j:=2) (by decide)
theorem f3' (h:iz q t=some f):(ST S c q)[S.length+bs t+3]?=some (.lst (if f.wl then [.ref (S.length+bs t+2)] else [])):=gM h (j:=3) (by decide)
theorem f4' (h:iz q t=some f):(ST S c q)[S.length+bs t+4]?=some (.lst []):=gM h (j:=4) (by decide)
theorem u0' (h:iz q t=some f) (l:dL):(ST S c q).set (S.length+bs t) (.dK (gP l))=ST S c (gl q t { f with nm:=l }):=sM h (j:=0) (by decide) rfl
theorem u2' (h:iz q t=some f) (i:Nat):(ST S c q).set (S.length+bs t+2) (.ins (Str.ofString "Walk") (oA f.rows i))=ST S c (gl q t { f with pl:=i }):=sM h (j:=2) (by decide) rfl
theorem u3' (h:iz q t=some f):(ST S c q).set (S.length+bs t+3) (.lst [])=ST S c (gl q t { f with wl:=false }):=sM h (j:=3) (by decide) rfl
end
section
variable (n b:Nat) (c:Cn) (l e x:W) (k:Int) (i:Nat) (r:List W)
theorem KQ:(qZ n c l).lookup (Str.ofString "defs")=some (.ref (n+1)):=by kernel_rfl
theorem LS:(qZ n c l).lookup (Str.ofString "most")=some (.int c.most):=by kernel_rfl
theorem Ec:(qZ n c l).lookup (Str.ofString "frames")=some (.ref (n+9)):=by kernel_rfl
theorem K8:(qZ n c l).lookup (Str.ofString "line")=some l:=by kernel_rfl
theorem LZ:(qZ n c l).lookup (Str.ofString "meeting")=some .none:=by kernel_rfl
theorem AX:(qZ n c l).lookup (Str.ofString "story")=some (.ref (n+10)):=by kernel_rfl
theorem Me:dS (Str.ofString "line") x (qZ n c l)=qZ n c x:=by kernel_rfl
theorem KS:(wE b x).lookup (Str.ofString "names")=some (.ref b):=by kernel_rfl
theorem Lj:(wE b x).lookup (Str.ofString "given")=some x:=by kernel_rfl
theorem JC:(wE b x).lookup (Str.ofString "walks")=some (.ref (b+3)):=by kernel_rfl
theorem LG:(wE b x).lookup (Str.ofString "loops")=some (.ref (b+4)):=by kernel_rfl
theorem JY:(oA r i).lookup (Str.ofString "row")=some (.list r):=by kernel_rfl
theorem II:(oA r i).lookup (Str.ofString "at")=some (.int i):=by kernel_rfl
theorem LD:dS (Str.ofString "at") (.int ((i:Int)+1)) (oA r i)=oA r (i+1):=by kernel_rfl
theorem JW:(mJ n k e).lookup (Str.ofString "told")=some (.ref (n+11)):=by kernel_rfl
theorem IC:(mJ n k e).lookup (Str.ofString "steps")=some (.int k):=by kernel_rfl
theorem JU:(mJ n k e).lookup (Str.ofString "end")=some e:=by kernel_rfl
theorem Lo:(mJ n k e).lookup (Str.ofString "touches")=some (.ref (n+13)):=by kernel_rfl
theorem K5:(mJ n k e).lookup (Str.ofString "lines")=some (.ref (n+15)):=by kernel_rfl
theorem L3 (j:Int):dS (Str.ofString "steps") (.int j) (mJ n k e)=mJ n j e:=by kernel_rfl
theorem L4:dS (Str.ofString "end") x (mJ n k e)=mJ n k x:=by kernel_rfl
theorem Mc:∀ m∈[Str.ofString "reckoned", Str.ofString "give", Str.ofString "do", Str.ofString "step", Str.ofString "end_def", Str.ofString "go", Str.ofString "do_call", Str.ofString "go_back", Str.ofString "leave"],(qZ n c l).lookup m=none:=by
 intro m hm;simp only [List.mem_cons,List.not_mem_nil,or_false] at hm;rcases hm with rfl | rfl | rfl | rfl | rfl | rfl | rfl | rfl | rfl <;> kernel_rfl
theorem JJ:(wE b x).lookup (Str.ofString "statement")=none:=by kernel_rfl
theorem LR:(wE b x).lookup (Str.ofString "pass_by")=none:=by kernel_rfl
theorem LQ:(oA r i).lookup (Str.ofString "is_over")=none:=by kernel_rfl
theorem L1:(oA r i).lookup (Str.ofString "before")=none:=by kernel_rfl
theorem LU:(oA r i).lookup (Str.ofString "taken")=none:=by kernel_rfl
theorem LW:(mJ n k e).lookup (Str.ofString "begin_phase")=none:=by kernel_rfl
theorem Mg:(mJ n k e).lookup (Str.ofString "add_step")=none:=by kernel_rfl
theorem Li:(mJ n k e).lookup (Str.ofString "finish")=none:=by kernel_rfl
end
theorem v0 {x:W} {r:DS} {S:ai}:aa (ag 0) (.val x::r) S=some (.ok x,S):=rfl
theorem C6 {x d:W} {r:DS} {T:ai} {l:Nat} {fo:DS->ai->SM W} {es:List W} (h:fo (.val x::r) T=some (.ok (.ref l),T)) (h2:T[l]?=some (.lst (es++[d]))):sIx fo (aa (jQ dD (dC (.int (1))))) (.val x::r) T=some (.ok d,T):=LB h rfl h2 (Bp es d)
section
variable (S:ai) (c:Cn) (q:Qs) {t:Nat} {f:Fm}
theorem mG (m:Str) (hm:m∈[Str.ofString "reckoned", Str.ofString "give", Str.ofString "do", Str.ofString "step", Str.ofString "end_def", Str.ofString "go", Str.ofString "do_call", Str.ofString "go_back", Str.ofString "leave"]):(qZ S.length c q.line).lookup m=none:=Mc _ _ _ m hm
theorem xJ (x:W) (hl:q.lns.length<8000):dQ [.ref (S.length+10),x] (ST S c q)=some (.ok .none,ST S c { q with steps:=q.steps+1,lns:=q.lns++[x] }):=by
 refine (aE rfl).trans ((congrArg cy (?_:_=some (.nx [.val (.ref (S.length+10)),.val x],ST S c { q with steps:=q.steps+1,lns:=q.lns++[x] }))).trans rfl);refine (ah (δ':=[.val (.ref (S.length+10)),.val x]) (S':=ST S c { q with steps:=q.steps+1 }) ((Hm v0 yN (IC _ _ _) (b:=1) rfl (by simp [mJ])).trans ?_)).trans ?_
 . rw [L3,Lk];rfl
 . refine (qj (bA v0 yN (K5 _ _ _)) JK (d:=x) rfl JK (by show q.lns.length<9000;omega)).trans ?_;rw [LY]
theorem nh (a x:W):bz [.ref (S.length+10),a,x] (ST S c q)=some (.ok .none,ST S c { q with fin:=.tuple [a,x] }):=by
 refine (aE rfl).trans ((congrArg cy (?_:_=some (.nx [.val (.ref (S.length+10)),.val a,.val x],ST S c { q with fin:=.tuple [a,x] }))).trans rfl);refine (Fo (d:=.tuple [a,x]) (aq (ug rfl rfl)) v0 yN (by simp [mJ])).trans ?_;rw [L4,Lk];rfl
theorem yF (h:iz q t=some f):eY [.ref (S.length+bs t+2)] (ST S c q)=some (.ok (.bool (decide ((f.pl:Int)=f.rows.length))),ST S c q):=
 (aE rfl).trans ((congrArg cy (eg (sJ (GQ (bA v0 (f2' h) (II _ _)) (HB (bA v0 (f2' h) (JY _ _))))))).trans rfl)
theorem uq (h:iz q t=some f) {x:W} (hx:f.rows[f.pl]?=some x):hW [.ref (S.length+bs t+2)] (ST S c q)=some (.ok x,ST S c q):=
 (aE rfl).trans ((congrArg cy (eg (Lf (bA v0 (f2' h) (JY _ _)) (bA v0 (f2' h) (II _ _)) (by rw [wL _ _ (oG hx).1];exact hx)))).trans rfl)
theorem wH (h:iz q t=some f) {x:W} (hx:f.rows[f.pl]?=some x):i8 [.ref (S.length+bs t+2)] (ST S c q)=some (.ok x,ST S c (gl q t { f with pl:=f.pl+1 })):=by
 refine (aE rfl).trans ((congrArg cy (?_:_=some (.rt x,ST S c (gl q t { f with pl:=f.pl+1 })))).trans rfl);refine (ah (δ':=[.val (.ref (S.length+bs t+2)),.val x]) (bb (Lf (bA v0 (f2' h) (JY _ _)) (bA v0 (f2' h) (II _ _)) (by rw [wL _ _ (oG hx).1];exact hx)) rfl)).trans ?_;refine (ah (δ':=[.val (.ref (S.length+bs t+2)),.val x]) (S':=ST S c (gl q t { f with pl:=f.pl+1 })) ((Hm v0 (f2' h) (II _ _) (b:=1) rfl (by simp [oA])).trans ?_)).trans rfl;rw [LD,u2' h]
theorem yZ (h:iz q t=some f) (hw:f.wl=true) {r:DS}:sIx (ao "Frame" "walks" (aa (ag 0))) (aa (jQ dD (dC (.int (1))))) (.val (.ref (S.length+(bs t+1)))::r) (ST S c q)=some (.ok (.ref (S.length+bs t+2)),ST S c q):=
 C6 (es:=[]) (bA v0 (f1' h) (JC _ _)) (by rw [f3' h,hw];rfl)
theorem yW (h:iz q t=some f) (hw:f.wl=true) {x:W} (hx:f.rows[f.pl]?=some x):cY [.ref (S.length+(bs t+1))] (ST S c q)=some (.ok .none,ST S c (gl q t { f with pl:=f.pl+1 })):=
 (aE rfl).trans ((congrArg cy (aZ (eE (yZ S c q h hw) (f2' h) (LU _ _) (ds:=[]) rfl (wH S c q h hx)))).trans rfl)
theorem Iy (h:iz q t=some f) {r:DS}:mB (ao "Frame" "walks" (aa (ag 0))) (.val (.ref (S.length+(bs t+1)))::r) (ST S c q)=some (.ok f.wl,ST S c q):=by
 have:=HV (bA (c := "Frame") (f := "walks") (v0 (r:=r)) (f1' (S:=S) (c:=c) h) (JC _ _)) (f3' h);rw [this];cases f.wl <;> rfl
noncomputable abbrev Kz:DS->ai->SM Bool:=oY (mB (ao "Frame" "walks" (aa (ag 0)))) (nS (cz "Walk" "is_over" eY (sIx (ao "Frame" "walks" (aa (ag 0))) (aa (jQ dD (dC (.int (1)))))) (aa ak)))
theorem BK (h:iz q t=some f) (hw:f.wl=true):Kz [.val (.ref (S.length+(bs t+1)))] (ST S c q)=some (.ok (decide ((f.pl:Int)=f.rows.length)),ST S c q):=by
 refine xQ (by rw [Iy S c q h,hw]) ?_;exact qF (eE (yZ S c q h hw) (f2' h) (LQ _ _) (ds:=[]) rfl (yF S c q h))
theorem EO (h:iz q t=some f) (hw:f.wl=true) {x:W} (hx:f.rows[f.pl]?=some x):dj [.ref (S.length+(bs t+1))] (ST S c q)=some (.ok x,ST S c q):=by
 have hl:=(oG hx).1;have T:=BK S c q h hw;rw [decide_eq_false (by omega)] at T;refine (aE rfl).trans ((congrArg cy ((?_:_=some (.rt x,ST S c q)))).trans rfl);refine (ah (BF T)).trans ?_;exact eg (Hn (by rw [Iy S c q h,hw]) (eE (yZ S c q h hw) (f2' h) (L1 _ _) (ds:=[]) rfl (uq S c q h hx)))
theorem yf (h:iz q t=some f) (hw:f.wl=true) (hx:f.pl=f.rows.length):dj [.ref (S.length+(bs t+1))] (ST S c q)=some (.ok .none,ST S c (gl q t { f with wl:=false })):=by
 have T:=BK S c q h hw;rw [decide_eq_true (by omega)] at T;have h2:iz (gl q t { f with wl:=false }) t=some { f with wl:=false }:=by rw [qD h,if_pos rfl]
 have T2:Kz [.val (.ref (S.length+(bs t+1)))] (ST S c (gl q t { f with wl:=false }))=some (.ok false,ST S c (gl q t { f with wl:=false })):=uC (Iy S c _ h2);have B:ge [.val (.ref (S.length+(bs t+1)))] (ST S c q)=some (.nx [.val (.ref (S.length+(bs t+1)))],ST S c (gl q t { f with wl:=false })):=by
  refine (ah (S':=ST S c (gl q t { f with wl:=false })) (δ':=[.val (.ref (S.length+(bs t+1)))]) (aZ (d:=.ref (S.length+bs t+2)) ((Fb (es:=[]) (d:=.ref (S.length+bs t+2)) (bA v0 (f1' h) (JC _ _)) (by rw [f3' h,hw];rfl)).trans ?_))).trans ?_
  . rw [u3' h]
  . exact (b9 (uC (HV (es:=[]) (bA v0 (f1' h2) (LG _ _)) (f4' h2)))).trans rfl
 refine (aE rfl).trans ((congrArg cy ((?_:_=some (.rt .none,ST S c (gl q t { f with wl:=false }))))).trans rfl);refine (ah ((wB T B).trans (BF T2))).trans ?_;exact eg (GG (Iy S c _ h2) rfl)
theorem kb (ha:q.al=t+1) {r:DS}:sIx (ao "Goer" "frames" (aa (ag 0))) (aa (jQ dD (dC (.int (1))))) (.val (.ref S.length)::r) (ST S c q)=some (.ok (.ref (S.length+(bs t+1))),ST S c q):=C6 (es:=uU S.length t) (bA v0 o0 (Ec _ _ _)) (by rw [o9,ha,kH])
end
noncomputable def sW (s:String):W:=.str (Str.ofString s)
noncomputable def jY:Tr->Prop
 | .num v=>Rg v
 | .nam _=>True
 | .op k a b=>k=0/\jY a/\jY b
 | _=>False
noncomputable def vl (l:dL):Tr->Int
 | .num v=>v
 | .nam x=>D7 l x
 | .op _ a b=>wr (vl l a+vl l b)
 | _=>0
theorem kT {l:dL} (hl:kW l):∀ {t:Tr},jY t->Rg (vl l t)
 | .num _,h=>h
 | .nam x,_=>Db hl x
 | .op _ _ _,_=>HX _
 | .sig _,h=>h.elim
 | .box _,h=>h.elim
inductive Rw where
 | set (x:Str) (t:Tr)
 | tell (t:Tr)
 | call (x f:Str) (es:List Tr)
 | ret (t:Tr)
noncomputable def bY (p:Int):Rw->W
 | .set x t=>.tuple [sW "set", .int p,.str x,tw t]
 | .tell t=>.tuple [sW "tell", .int p,tw t]
 | .call x f es=>.tuple [sW "call", .int p,.str x,.str f,.list (es.map tw)]
 | .ret t=>.tuple [sW "return", .int p,tw t]
noncomputable def bP:Int->List Rw->List W
 | _,[]=>[]
 | p,r::rs=>bY p r::bP (p+1) rs
theorem mZ:∀ (p:Int) (rs:List Rw),(bP p rs).length=rs.length
 | _,[]=>rfl
 | p,r::rs=>congrArg (· + 1) (mZ (p+1) rs)
structure Af where
 p:Int
 r:List Rw
 l:dL
 g:W
structure FR (f:Fm) (a:Af):Prop where
 wl:f.wl=true
 nm:f.nm=a.l
 gv:f.gv=a.g
 le:f.pl<=f.rows.length
 dr:f.rows.drop f.pl=bP a.p a.r
 rg:kW a.l
structure gQ (q:Qs) (K:List Af) (T L:List Int):Prop where
 al:q.al=K.length
 fm:∀ t a,K[t]?=some a->∃ f,iz q t=some f/\FR f a
 td:q.told=T.map .int
 ln:q.lns=L.map .int
 st:q.steps=L.length
 fn:q.fin=.none
theorem FR.hd {f:Fm} {a:Af} (h:FR f a) {r:Rw} {rs:List Rw} (e:a.r=r::rs):f.rows[f.pl]?=some (bY a.p r):=by
 have:=congrArg (λ z=>z[0]?) h.dr;simpa [e,bP] using this
theorem FR.nx {f:Fm} {a:Af} (h:FR f a) {r:Rw} {rs:List Rw} (e:a.r=r::rs):FR { f with pl:=f.pl+1 } { a with p:=a.p+1,r:=rs }:=by
 have hl:=(oG (h.hd e)).1;refine ⟨h.wl,h.nm,h.gv,hl,?_,h.rg⟩;show f.rows.drop (f.pl+1)=_;rw [<-List.tail_drop,h.dr,e];rfl
theorem FR.up {f:Fm} {a:Af} (h:FR f a) {l:dL} (hl:kW l):FR { f with nm:=l } { a with l:=l }:=⟨h.wl,rfl,h.gv,h.le,h.dr,hl⟩
theorem FR.fin {f:Fm} {a:Af} (h:FR f a) (e:a.r=[]):f.pl=f.rows.length:=by
 have:=congrArg List.length h.dr;rw [e,List.length_drop] at this;have:=h.le;simp only [bP,List.length_nil] at *;omega
section
variable {q:Qs} {K0:List Af} {a:Af} {T L:List Int}
theorem gQ.top (h:gQ q (K0++[a]) T L):∃ f,iz q K0.length=some f/\FR f a/\q.al=K0.length+1:=by
 obtain ⟨f,h1,h2⟩:=h.fm K0.length a (by simp);exact ⟨f,h1,h2,by rw [h.al];simp⟩
theorem gQ.set (h:gQ q (K0++[a]) T L) {f f':Fm} {a':Af} (hf:iz q K0.length=some f) (fr:FR f' a'):gQ (gl q K0.length f') (K0++[a']) T L:=by
 have e:∀ {q:Qs} {t:Nat} {f:Fm},(gl q t f).al=q.al/\(gl q t f).told=q.told/\(gl q t f).lns=q.lns/\(gl q t f).steps=q.steps/\(gl q t f).fin=q.fin:=λ {q t f}=>by cases t <;> exact ⟨rfl,rfl,rfl,rfl,rfl⟩
 refine ⟨by rw [e.1,h.al];simp,λ t b hb=>?_,by rw [e.2.1,h.td],by rw [e.2.2.1,h.ln],by rw [e.2.2.2.1,h.st],by rw [e.2.2.2.2,h.fn]⟩;rw [qD hf];by_cases ht:t=K0.length
 . subst ht;rw [if_pos rfl];simp at hb;subst hb;exact ⟨f',rfl,fr⟩
 . rw [if_neg ht];refine h.fm t b ?_;rw [<-hb];by_cases hl:t<K0.length
   . rw [List.getElem?_append_left hl,List.getElem?_append_left hl]
   . rw [List.getElem?_eq_none (by simp;omega),List.getElem?_eq_none (by simp;omega)]
theorem gQ.q2 (h:gQ q (K0++[a]) T L) (p:Int):gQ { q with line:=.int p,steps:=q.steps+1,lns:=q.lns++[.int p] } (K0++[a]) T (L++[p]):=⟨h.al,h.fm,h.td,by show q.lns++_=_;rw [h.ln];simp,by show q.steps+1=_;rw [h.st];simp,h.fn⟩
theorem gQ.tl (h:gQ q (K0++[a]) T L) (v:Int):gQ { q with told:=q.told++[.int v] } (K0++[a]) (T++[v]) L:=⟨h.al,h.fm,by show q.told++_=_;rw [h.td];simp,h.ln,h.st,h.fn⟩
end
section
variable {S:ai} {c:Cn} {q:Qs} {t:Nat} {f:Fm}
theorem rk (ha:q.al=t+1) (hf:iz q t=some f) (hl:kW f.nm):∀ (x:Tr) (n:Nat),iQ x<n->jY x->aB n [.ref S.length,tw x] (ST S c q)=some (.ok (.int (vl f.nm x)),ST S c q)
 | _,0,h,_=>absurd h (Nat.not_lt_zero _)
 | .sig _,_,_,h=>h.elim
 | .box _,_,_,h=>h.elim
 | .num v,n+1,_,_=>by
  show bc 2 4 _ _ _=_;refine (aE rfl).trans ((congrArg cy (?_:_=some (.rt (.int v),ST S c q))).trans rfl);refine (ah (δ':=[.val (.ref S.length),.val (tw (.num v)),.val (.str "num"),.no]) (aH (aG (x0 rfl) rfl))).trans ?_;exact fg (ik (aO (b:=true) (tT rfl) (b6 (x1 rfl))))
 | .nam x,n+1,_,_=>by
  show bc 2 4 _ _ _=_;let δ:DS:=[.val (.ref S.length),.val (tw (.nam x)),.val (.str "name"),.no]
  refine (aE rfl).trans ((congrArg cy (?_:_=some (.rt (.int (D7 f.nm x)),ST S c q))).trans rfl);refine (ah (δ':=δ) (aH (aG (x0 rfl) rfl))).trans ?_;refine (pF (a:=Str.ofString "name") rfl Lr).trans ?_;have g:=yQ (fo:=ao "Frame" "names" (sIx (ao "Goer" "frames" (aa (ag 0))) (aa (jQ dD (dC (.int (1))))))) (fk:=aa (aA aR (ay 1) (dC (.int (1))))) (fx:=aa (dC (.int (0)))) (δ:=δ) (k:=x) (y:=.int 0) (bA (kb S c q ha) (f1' hf) (KS _ _)) (f0' hf) (aq (x1 rfl)) rfl (f0' (S:=S) (c:=c) hf);rw [yq] at g;exact fg ((fT rfl).trans (eg g))
 | .op k x y,n+1,hd,⟨hk,ox,oy⟩=>by
  subst hk;simp only [iQ] at hd;have ihx:=rk ha hf hl x n (by omega) ox;have ihy:=rk ha hf hl y n (by omega) oy;show bc 2 4 _ _ _=_;let δ:DS:=[.val (.ref S.length),.val (tw (.op 0 x y)),.val (.str (li 0)),.no]
  have R1:cf "Goer" "reckoned" (aB n) (aa (ag 0)) (aa (ae (aA aR (ay 1) (dC (.int (1)))) ak)) δ (ST S c q)=some (.ok (.int (vl f.nm x)),ST S c q):=pv (ds:=[tw x]) v0 o0 (mG S c q _ (by simp)) (aq (cB (x1 rfl) rfl)) ihx;have R2:cf "Goer" "reckoned" (aB n) (aa (ag 0)) (aa (ae (aA aR (ay 1) (dC (.int (2)))) ak)) δ (ST S c q)=some (.ok (.int (vl f.nm y)),ST S c q):=pv (ds:=[tw y]) v0 o0 (mG S c q _ (by simp)) (aq (cB (x2 rfl) rfl)) ihy;have W:=u6 0 (kT hl ox) (kT hl oy);have e:wk 0 (vl f.nm x) (vl f.nm y)=some (wr (vl f.nm x+vl f.nm y)):=by simp [wk,CG]
  rw [e] at W;have C:ku kY (aQ (aa (ag 2)) (aQ (cf "Goer" "reckoned" (aB n) (aa (ag 0)) (aa (ae (aA aR (ay 1) (dC (.int (1)))) ak))) (aQ (cf "Goer" "reckoned" (aB n) (aa (ag 0)) (aa (ae (aA aR (ay 1) (dC (.int (2)))) ak))) bW))) δ (ST S c q)=some (.ok (.int (wr (vl f.nm x+vl f.nm y))),ST S c q):=by
   have:=aU (f:=aa (ag 2)) (δ:=δ) (S:=ST S c q) (d:=.str (li 0)) rfl (aU R1 (aU R2 (g:=bW) rfl));simp only [ku,au,this,W,kz,Option.map_some];rfl
  refine (aE rfl).trans ((congrArg cy (?_:_=some (.rt (.int (wr (vl f.nm x+vl f.nm y))),ST S c q))).trans rfl);refine (ah (δ':=δ) (aH (aG (x0 rfl) rfl))).trans ?_;refine (pF (a:=li 0) rfl (L7 0)).trans ?_;refine (cF (a:=li 0) rfl (Lz 0)).trans ?_;refine (ah (δ':=δ) ((b9 (aq (vD rfl rfl (Ml 0)))).trans rfl)).trans ?_;refine (cF (a:=li 0) rfl (Mj 0)).trans ?_;refine (ah (δ':=[.val (.ref S.length),.val (tw (.op 0 x y)),.val (.str (li 0)),.val (.int (wr (vl f.nm x+vl f.nm y)))]) (bb C rfl)).trans ?_;exact (ah (δ':=[.val (.ref S.length),.val (tw (.op 0 x y)),.val (.str (li 0)),.val (.int (wr (vl f.nm x+vl f.nm y)))]) ((b9 (S1:=ST S c q) rfl).trans rfl)).trans (ik (b6 rfl))
theorem nB (ha:q.al=t+1) (hf:iz q t=some f) (hb:f.nm.length<8000) (x:Str) (v:Int):fU [.ref S.length,.str x,.int v] (ST S c q)=some (.ok .none,ST S c (gl q t { f with nm:=cM f.nm x v })):=by
 refine (aE rfl).trans ((congrArg cy (?_:_=some (.nx [.val (.ref S.length),.val (.str x),.val (.int v)],ST S c (gl q t { f with nm:=cM f.nm x v })))).trans rfl);refine (pN (k:=x) (l:=S.length+bs t) (kvs:=gP f.nm) (d:=.int v) rfl (bA (kb S c q ha) (f1' hf) (KS _ _)) rfl (f0' hf) (by simp [gP];omega)).trans ?_;rw [kK,u0' hf];rfl
end
section
variable {c f:Str} {S L L':ai} {fs:List (Str×W)} {d:W} {fv:DS->ai->SM W} {r:DS}
theorem gR (h1:fv (.val (.ref S.length)::r) (S++.ins c fs::L)=some (.ok d,S++.ins c fs::L')) (hl:fs.length<1000):cu c f (aa (ag 0)) fv (.val (.ref S.length)::r) (S++.ins c fs::L)=some (.nx (.val (.ref S.length)::r),S++.ins c (dS f d fs)::L'):=by
 have:=Fo (c:=c) (f:=f) h1 (v0 (S:=S++.ins c fs::L')) (by have:=gA S (.ins c fs::L') 0;exact this) hl;rw [this];have e:=sA S (.ins c fs::L') 0 (.ins c (dS f d fs));rw [Nat.add_zero] at e;rw [e];rfl
end
theorem rQ (f:Str) (d:W):∀ fs:List (Str×W),(dS f d fs).length<=fs.length+1
 | []=>by simp [dS]
 | p::fs=>by
  have:=rQ f d fs;unfold dS;split
  . simp
  . simp only [List.length_cons];omega
theorem pl {f:Str} {d:W} {fs:List (Str×W)} {n:Nat} (h:fs.length<n):(dS f d fs).length<n+1:=by
 have:=rQ f d fs;omega
theorem zc {δ:DS} {S:ai}:cP (aa ak) δ S=some (.ok (.ref S.length),S++[.lst []]):=rfl
theorem uj {δ:DS} {S:ai}:tG δ S=some (.ok (.ref S.length),S++[.dK []]):=rfl
theorem Bl (S:ai) (rows:List W):cX [.ref S.length,.list rows] (S++[.ins (Str.ofString "Walk") []])=some (.ok .none,S++[.ins (Str.ofString "Walk") (oA rows 0)]):=by
 refine (aE rfl).trans ((congrArg cy (?_:_=some (.nx [.val (.ref S.length),.val (.list rows)],S++[.ins (Str.ofString "Walk") (oA rows 0)]))).trans rfl);refine (ah (gR (fs:=[]) (d:=.list rows) rfl (by simp))).trans ?_;exact (gR (d:=.int 0) rfl (by simp [dS])).trans (by kernel_rfl)
theorem uL (S:ai) (rows:List W) (m:Nat) (g:W):b8 [.ref S.length,.list rows,.ref m,g] (S++[.ins (Str.ofString "Frame") []])=some (.ok .none,S++[.ins (Str.ofString "Frame") [(Str.ofString "names", .ref m),(Str.ofString "given", g),(Str.ofString "walks", .ref (S.length+2)),(Str.ofString "loops", .ref (S.length+3))],.ins (Str.ofString "Walk") (oA rows 0),.lst [.ref (S.length+1)],.lst []]):=by
 let δ:DS:=[.val (.ref S.length),.val (.list rows),.val (.ref m),.val g]
 refine (aE rfl).trans ((congrArg cy (?_:_=some (.nx δ,_))).trans rfl);refine (ah (gR (fs:=[]) (d:=.ref m) rfl (by simp))).trans ?_;refine (ah (gR (d:=g) rfl (by simp [dS]))).trans ?_;let F2:List (Str×W):=dS (Str.ofString "given") g (dS (Str.ofString "names") (.ref m) []);let S1:ai:=S++[.ins (Str.ofString "Frame") F2];have e1:S1.length=S.length+1:=by simp [S1]
 have wi:=Bl S1 rows;have mk:cP (aQ (jF "Walk" cX (aa (ae (ag 1) ak))) bW) δ (S++[.ins (Str.ofString "Frame") F2])=some (.ok (.ref (S.length+2)),S++[.ins (Str.ofString "Frame") F2,.ins (Str.ofString "Walk") (oA rows 0),.lst [.ref (S.length+1)]]):=by
  have a:=jm (c := "Walk") (f:=cX) (fa:=aa (ae (ag 1) ak)) (δ:=δ) (S:=S1) (S1:=S1) (ds:=[.list rows]) rfl wi;have z:=sz 1 (by decide);have b:=aU a (g:=bW) (ds:=[]) rfl;simp only [cP,au];rw [b];simp only [List.length_cons,List.length_nil,if_pos z];simp [S1,e1]
 refine (ah (gR (L:=[]) (L':=[.ins (Str.ofString "Walk") (oA rows 0),.lst [.ref (S.length+1)]]) mk (pl (pl (by simp))))).trans ?_;refine (gR (d:=.ref (S.length+3)) (L':=[.ins (Str.ofString "Walk") (oA rows 0),.lst [.ref (S.length+1)],.lst []]) ?_ (pl (pl (pl (by simp))))).trans (by kernel_rfl);rw [zc];simp
theorem kq:(∀ w∈["set", "tell", "call", "return"],decide (Str.ofString w=Str.ofString "while")=false)/\(∀ w∈["tell", "call", "return"],decide (Str.ofString w=Str.ofString "set")=false/\decide (Str.ofString w=Str.ofString "put")=false)/\(∀ w∈["call", "return"],decide (Str.ofString w=Str.ofString "tell")=false/\decide (Str.ofString w=Str.ofString "if")=false)/\decide (Str.ofString "return" = Str.ofString "call")=false:=by decide +kernel
theorem kin:sS (sW "return") (.tuple [sW "meet", sW "join"])=some false:=by kernel_rfl
structure Dn where
 ps:List Str
 rows:List Rw
 ln:Int
noncomputable def EB (x:Str) (d:Dn):W:=.tuple [.str x,.list (d.ps.map .str),.list (bP (d.ln+1) d.rows),.int d.ln,.int (d.ln+1+d.rows.length)]
section
variable {S:ai} {c:Cn} {q:Qs} {K0:List Af} {a:Af} {T L:List Int}
theorem rE {q':Qs} {t:Nat} {f:Fm} {y:W} {k:Str} {w:String} (ha:q.al=t+1) (hf:iz q t=some f) (hk:k=Str.ofString w) (hy:∃ l,y=.tuple (.str k::l)) (hw:decide (k=Str.ofString "while")=false) (e:cY [.ref (S.length+(bs t+1))] (ST S c q)=some (.ok .none,ST S c q')):
 dh [.ref S.length,y] (ST S c q)=cy (bD (aa (aC dJ (ay 2) (dC (.str "set")))) (bd (cz "Goer" "give" fU (aa (ag 0)) (aQ (aa (aA aR (ay 1) (dC (.int (2))))) (aQ (cf "Goer" "reckoned" (aB 9) (aa (ag 0)) (aa (ae (aA aR (ay 1) (dC (.int (3)))) ak))) bW))))
  (bD (aa (aC dJ (ay 2) (dC (.str "put")))) (ax eQ)
  (bD (aa (aC dJ (ay 2) (dC (.str "tell")))) (bN (ao "Story" "told" (ao "Goer" "story" (aa (ag 0)))) (cf "Goer" "reckoned" (aB 9) (aa (ag 0)) (aa (ae (aA aR (ay 1) (dC (.int (2)))) ak))))
  (bD (aa (aC dJ (ay 2) (dC (.str "if")))) (ax eQ)
  (bD (aa (aC dJ (ay 2) (dC (.str "call")))) (bd (cf "Goer" "do_call" dt (aa (ag 0)) (aa (ae (ag 1) ak))))
  (bD (aa (aC sS (ay 2) (bx (ae (dC (.str "meet")) (ae (dC (.str "join")) ak))))) (ax eQ)
  (bd (cf "Goer" "leave" gm (aa (ag 0)) (aa (ae (ag 1) ak))))))))) [.val (.ref S.length),.val y,.val (.str k)] (ST S c q')):=by
 obtain ⟨l,rfl⟩:=hy;refine (aE rfl).trans (congrArg cy ?_);refine (ah (δ':=[.val (.ref S.length),.val (.tuple (.str k::l)),.val (.str k)]) (aH (aG (x0 rfl) rfl))).trans ?_;refine (cF (a:=k) rfl hw).trans ?_;exact ah (aZ (eE (kb S c q ha) (f1' hf) (LR _ _) (ds:=[]) rfl e))
noncomputable def Ly (S:ai) (c:Cn) (q:Qs) (y:W) (K:List Af) (T L:List Int):Prop:=∃ q',dh [.ref S.length,y] (ST S c q)=some (.ok .none,ST S c q')/\gQ q' K T L/\q'.fs.length=q.fs.length
theorem Jz {t:Nat} {f:Fm} (ha:q.al=t+1) (hf:iz q t=some f) (hl:kW f.nm) {x:Tr} (hd:iQ x<9) (ho:jY x) {δ:DS} {fa:DS->ai->SM (List W)} (e:fa (.val (.ref S.length)::δ) (ST S c q)=some (.ok [tw x],ST S c q)):cf "Goer" "reckoned" (aB 9) (aa (ag 0)) fa (.val (.ref S.length)::δ) (ST S c q)=some (.ok (.int (vl f.nm x)),ST S c q):=pv v0 o0 (mG S c q _ (by simp)) e (rk ha hf hl x 9 hd ho)
theorem jr (h:gQ q (K0++[a]) T L) {r:Rw} {rs:List Rw} (e:a.r=r::rs):∃ f,iz q K0.length=some f/\q.al=K0.length+1/\cY [.ref (S.length+(bs K0.length+1))] (ST S c q)=some (.ok .none,ST S c (gl q K0.length { f with pl:=f.pl+1 }))/\gQ (gl q K0.length { f with pl:=f.pl+1 }) (K0++[{ a with p:=a.p+1,r:=rs }]) T L:=by
 obtain ⟨f,hf,fr,ha⟩:=h.top;exact ⟨f,hf,ha,yW S c q hf fr.wl (fr.hd e),h.set hf (fr.nx e)⟩
theorem Fd (h:gQ q (K0++[a]) T L) {x:Str} {t:Tr} {rs:List Rw} (e:a.r=.set x t::rs) (hd:iQ t<9) (ho:jY t) (hb:a.l.length<8000):Ly S c q (bY a.p (.set x t)) (K0++[{ a with p:=a.p+1,r:=rs,l:=cM a.l x (vl a.l t) }]) T L:=by
 obtain ⟨f,hf,ha,e1,h1⟩:=jr (S:=S) (c:=c) h e;obtain ⟨f1,hf1,fr1,ha1⟩:=h1.top;have hn:f1.nm=a.l:=fr1.nm;have R:=λ (δ:DS) (fa:DS->ai->SM (List W)) (e:fa (.val (.ref S.length)::δ) _=_)=>Jz (S:=S) (c:=c) ha1 hf1 (hn▸fr1.rg) hd ho e;have G:=nB (S:=S) (c:=c) ha1 hf1 (by rw [hn];exact hb) x (vl f1.nm t);refine ⟨_,(rE (k:=Str.ofString "set") (w := "set") ha hf rfl ⟨_,rfl⟩ (kq.1 _ (by simp)) e1).trans ((congrArg cy ((fT rfl).trans (aZ (eE v0 o0 (mG S c _ _ (by simp)) (aU (aq (x2 rfl)) (aU (R _ _ (aq (cB (x3 rfl) rfl))) rfl)) G)))).trans rfl),?_,?_⟩
 . rw [hn];exact h1.set hf1 (fr1.up (fr1.rg.put x (kT fr1.rg ho)))
 . rw [mX,mX]
theorem Bg (h:gQ q (K0++[a]) T L) {t:Tr} {rs:List Rw} (e:a.r=.tell t::rs) (hd:iQ t<9) (ho:jY t) (hb:T.length<8000):Ly S c q (bY a.p (.tell t)) (K0++[{ a with p:=a.p+1,r:=rs }]) (T++[vl a.l t]) L:=by
 obtain ⟨f,hf,ha,e1,h1⟩:=jr (S:=S) (c:=c) h e;obtain ⟨f1,hf1,fr1,ha1⟩:=h1.top;have hn:f1.nm=a.l:=fr1.nm;have R:=λ (δ:DS) (fa:DS->ai->SM (List W)) (e:fa (.val (.ref S.length)::δ) _=_)=>Jz (S:=S) (c:=c) ha1 hf1 (hn▸fr1.rg) hd ho e;have k2:=kq.2.1 "tell" (by simp);have hl:(gl q K0.length { f with pl:=f.pl+1 }).told.length<9000:=by rw [h1.td,List.length_map];omega
 refine ⟨_,(rE (k:=Str.ofString "tell") (w := "tell") ha hf rfl ⟨_,rfl⟩ (kq.1 _ (by simp)) e1).trans ((congrArg cy ((fF rfl k2.1).trans ((fF rfl k2.2).trans ((fT rfl).trans ((qj (bA (bA v0 o0 (AX _ _ _)) yN (JW _ _ _)) J0 (R _ _ (aq (cB (x2 rfl) rfl))) J0 hl).trans (congrArg (λ z=>some (nP.nx _,z)) (LI _))))))).trans rfl),?_,?_⟩
 . rw [hn];exact h1.tl _
 . exact mX
theorem rZ {t:Nat} {f:Fm} (ha:q.al=t+1) (hf:iz q t=some f) (hl:kW f.nm):∀ (es:List Tr),(∀ x∈es,iQ x<9/\jY x)->b4 (aj 1) (aa lB) (ol "Goer" "reckoned" (aB 9) (aa (ag 0)) (aa (ae (ag 1) ak))) [.val (.ref S.length),.no] (es.map tw) (ST S c q)=some (.ok (es.map λ x=>.int (vl f.nm x)),ST S c q)
 | [],_=>rfl
 | x::es,h=>by
  have ih:=rZ ha hf hl es λ y hy=>h y (.tail _ hy);obtain ⟨hd,ho⟩:=h x (.head _);have m:ol "Goer" "reckoned" (aB 9) (aa (ag 0)) (aa (ae (ag 1) ak)) [.val (.ref S.length),.val (tw x)] (ST S c q)=some (.ok (.int (vl f.nm x)),ST S c q):=eE (ds:=[tw x]) v0 o0 (mG S c q _ (by simp)) rfl (rk ha hf hl x 9 hd ho);show (aj 1 (tw x) [.val (.ref S.length),.no]).bind _=_;simp only [aj,List.set_cons_zero,List.set_cons_succ,Option.bind_some];have y:aa lB [.val (.ref S.length),.val (tw x)] (ST S c q)=some (.ok true,ST S c q):=rfl;simp only [y,au,if_true,m,ih,List.map_cons]
end
section
variable {S:ai} {c:Cn} {q:Qs} {K0:List Af} {a:Af} {T L:List Int}
theorem gQ.push (h:gQ q (K0++[a]) T L) (hl:q.fs.length=K0.length) {l:dL} (hr:kW l) (g:W) (p:Int) (rs:List Rw):gQ { q with fs:=q.fs++[⟨l,g,bP p rs,0,true⟩],al:=q.al+1 } (K0++[a]++[⟨p,rs,l,g⟩]) T L:=by
 refine ⟨by show q.al+1=_;rw [h.al];simp,λ t b hb=>?_,h.td,h.ln,h.st,h.fn⟩;by_cases ht:t<(K0++[a]).length
 . rw [List.getElem?_append_left ht] at hb;obtain ⟨f,h1,h2⟩:=h.fm t b hb;refine ⟨f,?_,h2⟩;cases t with
   | zero=>exact h1
   | succ t=>
    have h1':q.fs[t]?=some f:=h1;show (q.fs++_)[t]?=some f;rw [List.getElem?_append_left (oG h1').1];exact h1'
 . have hl2:t=K0.length+1:=by
    have:=(oG hb).1;simp at this ht;omega
   subst hl2;rw [List.getElem?_append_right (by simp)] at hb;simp at hb;subst hb;refine ⟨⟨l,g,bP p rs,0,true⟩,?_,⟨rfl,rfl,rfl,Nat.zero_le _,rfl,hr⟩⟩;show (q.fs++_)[K0.length]?=_;rw [<-hl];simp
theorem gQ.popd {b:Af} (h:gQ q (K0++[b]++[a]) T L):gQ { q with al:=K0.length+1 } (K0++[b]) T L:=by
 refine ⟨by simp,λ t d hd=>?_,h.td,h.ln,h.st,h.fn⟩;have ht:=(oG hd).1;obtain ⟨f,h1,h2⟩:=h.fm t d (by rw [List.getElem?_append_left ht];exact hd);exact ⟨f,by cases t <;> exact h1,h2⟩
noncomputable def ou (p:Int):W:=.tuple [sW "deep", .int p]
theorem rK (h:gQ q (K0++[a]) T L) {x fn:Str} {es:List Tr} (he:∀ y∈es,iQ y<9/\jY y) (hes:es.length<1000) (p:Int) {r:DS->ai->SO}:av (cQ (sN [some 0,none] (aa (cK (aA aR (ay 1) (dC (.int (4)))))) (aj 1) (aa lB) (ol "Goer" "reckoned" (aB 9) (aa (ag 0)) (aa (ae (ag 1) ak)))) (aj 2)) r [.val (.ref S.length),.val (bY p (.call x fn es)),.no,.no] (ST S c q)=r [.val (.ref S.length),.val (bY p (.call x fn es)),.val (.list (es.map λ y=>.int (vl a.l y))),.no] (ST S c q):=by
 obtain ⟨f,hf,fr,ha⟩:=h.top;have hn:f.nm=a.l:=fr.nm;have N:=rZ (S:=S) (c:=c) ha hf (hn▸fr.rg) es he;rw [hn] at N;refine ah (bb (wW (ds:=es.map tw) ?_ (sz _ (by simp;omega)) N) rfl);exact aq (by simp only [cK,x4 (f:=ay 1) (δ:=[.val (.ref S.length),.val (bY p (.call x fn es)),.no,.no]) rfl,Option.bind_some];rfl)
theorem y8 (h:gQ q (K0++[a]) T L) {δ:DS} (b:Int):jL false (ji (ao "Goer" "frames" (aa (ag 0)))) (aa (dC (.int b))) (.val (.ref S.length)::δ) (ST S c q)=some (.ok (decide ((K0.length:Int)+1=b)),ST S c q):=by
 have:=GQ (b:=b) (fi:=aa (dC (.int b))) (A8 (bA (v0 (r:=δ)) (o0 (S:=S) (c:=c) (q:=q)) (Ec _ _ _)) o9) rfl;rw [nc,h.al] at this;rw [this];simp
theorem wN (h:gQ q (K0++[a]) T L) {x fn:Str} {es:List Tr} (he:∀ y∈es,iQ y<9/\jY y) (hes:es.length<1000) {p:Int} (hp:q.line=.int p) (h6:K0.length=5):dt [.ref S.length,bY p (.call x fn es)] (ST S c q)=some (.ok .none,ST S c { q with fin:=ou p }):=by
 refine (aE rfl).trans ((congrArg cy (?_:_=some (.rt .none,ST S c { q with fin:=ou p }))).trans rfl);refine (rK h he hes p).trans ?_;have T:=y8 (S:=S) (c:=c) h (δ:=[.val (bY p (.call x fn es)),.val (.list (es.map λ y=>.int (vl a.l y))),.no]) 6;rw [decide_eq_true (by omega)] at T;refine fg ((fK T).trans ((ah (aZ (eE (bA v0 o0 (AX _ _ _)) yN (Li _ _ _) (aU (d:=sW "deep") rfl (aU (d:=.int p) (by rw [<-hp];exact bA v0 o0 (K8 _ _ _)) rfl)) (nh S c q _ _)))).trans rfl))
theorem zL (h:gQ q (K0++[a]) T L) {x fn:Str} {es:List Tr} (he:∀ y∈es,iQ y<9/\jY y) (hes:es.length<1000) {p:Int} (h6:K0.length<5) (hl:q.fs.length=K0.length) {d:Dn} (hd:bC c.defs (.inr fn)=some (EB fn d)):
 dt [.ref S.length,bY p (.call x fn es)] (ST S c q)=some (.ok .none,ST S c { q with fs:=q.fs++[⟨ke [] d.ps (es.map (vl a.l)),.str x,bP (d.ln+1) d.rows,0,true⟩],al:=q.al+1 }):=by
 let δ:DS:=[.val (.ref S.length),.val (bY p (.call x fn es)),.val (.list (es.map λ y=>.int (vl a.l y))),.val (EB fn d)]
 refine (aE rfl).trans ((congrArg cy (?_:_=some (.nx δ,_))).trans rfl);refine (rK h he hes p).trans ?_;have T:=y8 (S:=S) (c:=c) h (δ:=[.val (bY p (.call x fn es)),.val (.list (es.map λ y=>.int (vl a.l y))),.no]) 6;rw [decide_eq_false (by omega)] at T;refine (ah (δ':=[.val (.ref S.length),.val (bY p (.call x fn es)),.val (.list (es.map λ y=>.int (vl a.l y))),.no]) ((b9 T).trans rfl)).trans ?_;refine (ah (δ':=δ) (bb (pQ (bA v0 o0 (KQ _ _ _)) (aq (x3 rfl)) o1 hd) rfl)).trans ?_;obtain ⟨kvs,z1,z2⟩:=uP d.ps (es.map (vl a.l)) [];have em:(es.map (vl a.l)).map W.int=es.map λ y=>.int (vl a.l y):=by simp
 rw [em] at z1;let l':=ke [] d.ps (es.map (vl a.l));let T1:ai:=ST S c q++[.dK (gP l')];have t0:(ST S c q).length=S.length+(18+5*q.fs.length):=EM;have t1:T1.length=S.length+(18+5*q.fs.length)+1:=by simp [T1,t0]
 have dz:IQ (aa (ae (aA aR (ay 3) (dC (.int (1)))) (ae (ag 2) ak))) δ (ST S c q)=some (.ok (.ref (S.length+(18+5*q.fs.length))),T1):=by
  have e1:aa (ae (aA aR (ay 3) (dC (.int (1)))) (ae (ag 2) ak)) δ (ST S c q)=some (.ok [.list (d.ps.map .str),.list (es.map λ y=>.int (vl a.l y))],ST S c q):=aq (cB (x1 rfl) (cB rfl rfl));have e2:JE [.list (d.ps.map .str),.list (es.map λ y=>.int (vl a.l y))]=some kvs:=z1;simp only [IQ,au,e1,e2,Option.bind_some,t0];rw [show iF [] kvs=gP l' from z2]
 have ar:=aU (f:=aa (aA aR (ay 3) (dC (.int (2))))) (δ:=δ) (S:=ST S c q) (aq (x2 rfl)) (aU dz (aU (f:=aa (aA aR (ay 1) (dC (.int (2))))) (g:=bW) (d:=.str x) (ds:=[]) (aq (x2 rfl)) rfl));have fi:=uL T1 (bP (d.ln+1) d.rows) (S.length+(18+5*q.fs.length)) (.str x);have mk:=jm (c := "Frame") (f:=b8) ar fi;have e5:T1++[.ins (Str.ofString "Frame") [(Str.ofString "names", .ref (S.length+(18+5*q.fs.length))),(Str.ofString "given", .str x),(Str.ofString "walks", .ref (T1.length+2)),(Str.ofString "loops", .ref (T1.length+3))],.ins (Str.ofString "Walk") (oA (bP (d.ln+1) d.rows) 0),.lst [.ref (T1.length+1)],.lst []]=ST S c { q with fs:=q.fs++[⟨l',.str x,bP (d.ln+1) d.rows,0,true⟩] }:=by
  rw [<-LP,t1];simp only [T1,List.append_assoc,List.singleton_append];rfl
 rw [e5,t1] at mk;refine (qj (bA v0 o0 (Ec _ _ _)) o9 mk o9 (by rw [nc];show q.al<9000;rw [h.al];simp;omega)).trans ?_;have ea:q.al=q.fs.length+1:=by rw [h.al];simp [hl]
 have ef:uU S.length q.al++[.ref (S.length+(18+5*q.fs.length)+1)]=uU S.length (q.al+1):=by rw [kH,ea];rfl
 refine congrArg (λ z=>some (nP.nx δ,z)) ?_;show (ST S c _).set (S.length+9) (.lst (uU S.length q.al++[_]))=_;rw [ef,w9]
theorem ya {b:Af} (h:gQ q (K0++[b]++[a]) T L) {x:Str} (hg:a.g=.str x) (v:Int) (hv:Rg v) (hb:b.l.length<8000):∃ q',d6 [.ref S.length,.int v] (ST S c q)=some (.ok .none,ST S c q')/\gQ q' (K0++[{ b with l:=cM b.l x v }]) T L:=by
 obtain ⟨f,hf,fr,ha⟩:=h.top;have hK:(K0++[b]).length=K0.length+1:=by simp
 rw [hK] at hf ha;have h2:=h.popd;obtain ⟨f2,hf2,fr2,ha2⟩:=h2.top;have hn:f2.nm=b.l:=fr2.nm;have hf':iz { q with al:=K0.length+1 } (K0.length+1)=some f:=hf;have G:=nB (S:=S) (c:=c) ha2 hf2 (by rw [hn];exact hb) x v;have P:re (ao "Goer" "frames" (aa (ag 0))) [.val (.ref S.length),.val (.int v),.no] (ST S c q)=some (.ok (.ref (S.length+(bs (K0.length+1)+1))),ST S c { q with al:=K0.length+1 }):=by
  refine (Fb (es:=uU S.length (K0.length+1)) (bA v0 o0 (Ec _ _ _)) (by rw [o9,ha,kH])).trans ?_;rw [w9]
 let δ:DS:=[.val (.ref S.length),.val (.int v),.val (.ref (S.length+(bs (K0.length+1)+1)))]
 have v2:∀ T:ai,aa (ag 2) δ T=some (.ok (.ref (S.length+(bs (K0.length+1)+1))),T):=λ _=>rfl;refine ⟨_,(aE rfl).trans ((congrArg cy ((ah (δ':=δ) (bb P rfl)).trans (aZ (eE v0 o0 (mG S c _ _ (by simp)) (aU (d:=.str x) (by rw [<-hg,<-fr.gv];exact bA (v2 _) (f1' hf') (Lj _ _)) (aU rfl rfl)) G)))).trans rfl),?_⟩;rw [hn];exact h2.set hf2 (fr2.up (fr2.rg.put x hv))
theorem EH {b:Af} (h:gQ q (K0++[b]++[a]) T L) {t:Tr} {rs:List Rw} (e:a.r=.ret t::rs) (hd:iQ t<9) (ho:jY t) {x:Str} (hg:a.g=.str x) (hb:b.l.length<8000):∃ q',dh [.ref S.length,bY a.p (.ret t)] (ST S c q)=some (.ok .none,ST S c q')/\gQ q' (K0++[{ b with l:=cM b.l x (vl a.l t) }]) T L:=by
 obtain ⟨f,hf,ha,e1,h1⟩:=jr (S:=S) (c:=c) h e;obtain ⟨f1,hf1,fr1,ha1⟩:=h1.top;have hn:f1.nm=a.l:=fr1.nm;obtain ⟨q',e2,h2⟩:=ya (S:=S) (c:=c) h1 hg (vl a.l t) (kT fr1.rg ho) hb;refine ⟨q',?_,h2⟩;have k2:=kq.2.1 "return" (by simp);have k3:=kq.2.2.1 "return" (by simp);let y:W:=bY a.p (.ret t);let δ:DS:=[.val (.ref S.length),.val y,.val (sW "return"),.val (.ref (S.length+(bs (K0++[b]).length+1)))]
 have R:=Jz (S:=S) (c:=c) ha1 hf1 (hn▸fr1.rg) hd ho (δ:=[.val y,.val (sW "return"),.val (.ref (S.length+(bs (K0++[b]).length+1)))]) (fa:=aa (ae (aA aR (ay 1) (dC (.int (2)))) ak)) (aq (cB (x2 rfl) rfl));rw [hn] at R;have lv:gm [.ref S.length,y] (ST S c (gl q (K0++[b]).length { f with pl:=f.pl+1 }))=some (.ok .none,ST S c q'):=by
  refine (aE rfl).trans ((congrArg cy (?_:_=some (.nx δ,ST S c q'))).trans rfl);refine (ah (δ':=[.val (.ref S.length),.val y,.val (sW "return"),.no]) (aH (aG (x0 rfl) rfl))).trans ?_;refine (ah (δ':=δ) (bb (kb S c _ ha1) rfl)).trans ?_;exact (fT rfl).trans (aZ (eE v0 o0 (mG S c _ _ (by simp)) (aU R rfl) e2))
 refine (rE (k:=Str.ofString "return") (w := "return") ha hf rfl ⟨_,rfl⟩ (kq.1 _ (by simp)) e1).trans ?_;exact (congrArg cy ((fF rfl k2.1).trans ((fF rfl k2.2).trans ((fF rfl k3.1).trans ((fF rfl k3.2).trans ((fF rfl kq.2.2.2).trans ((b9 (aq (vD rfl (ug rfl rfl) kin))).trans (aZ (pv v0 o0 (mG S c _ _ (by simp)) (ds:=[y]) rfl lv))))))))).trans rfl
theorem do_call (h:gQ q (K0++[a]) T L) {x fn:Str} {es:List Tr} {rs:List Rw} (e:a.r=.call x fn es::rs) (he:∀ y∈es,iQ y<9/\jY y) (hes:es.length<1000) (h6:K0.length<5) (hl:q.fs.length=K0.length) {d:Dn} (hd:bC c.defs (.inr fn)=some (EB fn d)):
 ∃ q',dh [.ref S.length,bY a.p (.call x fn es)] (ST S c q)=some (.ok .none,ST S c q')/\gQ q' (K0++[{ a with p:=a.p+1,r:=rs }]++[⟨d.ln+1,d.rows,ke [] d.ps (es.map (vl a.l)),.str x⟩]) T L/\q'.fs.length=K0.length+1:=by
 obtain ⟨f,hf,ha,e1,h1⟩:=jr (S:=S) (c:=c) h e;have k2:=kq.2.1 "call" (by simp);have k3:=kq.2.2.1 "call" (by simp);obtain ⟨f1,hf1,fr1,ha1⟩:=h1.top;have hl1:(gl q K0.length { f with pl:=f.pl+1 }).fs.length=K0.length:=by rw [mX,hl]
 have C:=zL (S:=S) (c:=c) h1 (p:=a.p) (x:=x) he hes h6 hl1 hd;have hr:kW (ke [] d.ps (es.map (vl a.l))):=mT (λ _ h=>absurd h List.not_mem_nil) λ v hv=>by
  obtain ⟨y,hy,rfl⟩:=List.mem_map.mp hv;exact kT fr1.rg (he y hy).2
 refine ⟨_,(rE (k:=Str.ofString "call") (w := "call") ha hf rfl ⟨_,rfl⟩ (kq.1 _ (by simp)) e1).trans ((congrArg cy ((fF rfl k2.1).trans ((fF rfl k2.2).trans ((fF rfl k3.1).trans ((fF rfl k3.2).trans ((fT rfl).trans (aZ (pv v0 o0 (mG S c _ _ (by simp)) (ds:=[bY a.p (.call x fn es)]) rfl C)))))))).trans rfl),h1.push hl1 hr _ _ _,by simp [hl1]⟩
theorem Ba (h:gQ q (K0++[a]) T L) {x fn:Str} {es:List Tr} {rs:List Rw} (e:a.r=.call x fn es::rs) (he:∀ y∈es,iQ y<9/\jY y) (hes:es.length<1000) (h6:K0.length=5) (hp:q.line=.int a.p):
 ∃ q',dh [.ref S.length,bY a.p (.call x fn es)] (ST S c q)=some (.ok .none,ST S c q')/\q'.fin=ou a.p/\q'.told=q.told/\q'.lns=q.lns/\q'.steps=q.steps:=by
 obtain ⟨f,hf,ha,e1,h1⟩:=jr (S:=S) (c:=c) h e;have k2:=kq.2.1 "call" (by simp);have k3:=kq.2.2.1 "call" (by simp);have el:∀ {q:Qs} {t:Nat} {f:Fm},(gl q t f).line=q.line/\(gl q t f).told=q.told/\(gl q t f).lns=q.lns/\(gl q t f).steps=q.steps:=λ {q t f}=>by cases t <;> exact ⟨rfl,rfl,rfl,rfl⟩
 have C:=wN (S:=S) (c:=c) h1 (x:=x) (fn:=fn) he hes (by rw [el.1];exact hp) h6;exact ⟨_,(rE (k:=Str.ofString "call") (w := "call") ha hf rfl ⟨_,rfl⟩ (kq.1 _ (by simp)) e1).trans ((congrArg cy ((fF rfl k2.1).trans ((fF rfl k2.2).trans ((fF rfl k3.1).trans ((fF rfl k3.2).trans ((fT rfl).trans (aZ (pv v0 o0 (mG S c _ _ (by simp)) (ds:=[bY a.p (.call x fn es)]) rfl C)))))))).trans rfl),rfl,el.2.1,el.2.2.1,el.2.2.2⟩
end
noncomputable abbrev Gh:DS->ai->SM Bool:=oY (oU ic (ao "Story" "end" (ao "Goer" "story" (aa (ag 0)))) (aa (dC .none))) (oU ic (ao "Goer" "meeting" (aa (ag 0))) (aa (dC .none)))
theorem Fw (p:Int) (r:Rw) {x:Sl} {s:DS}:aA aR (ay 1) (dC (.int (1))) (x::.val (bY p r)::s)=some (.int p):=by
 cases r <;> exact x1 rfl
theorem E5 (p:Int) (r:Rw) {x:Sl} {s:DS} {S:ai}:aa (aC ic (ay 1) (dC .none)) (x::.val (bY p r)::s) S=some (.ok false,S):=by
 cases r <;> rfl
noncomputable def Lp (S:ai) (c:Cn) (q q':Qs) (n:Nat):Prop:=∀ (F:Nat) (s1:Sl),∃ s1',br Gh gT (F+n) [.val (.ref S.length),s1] (ST S c q)=br Gh gT F [.val (.ref S.length),s1'] (ST S c q')
section
variable {S:ai} {c:Cn} {q:Qs} {K0:List Af} {a:Af} {T L:List Int}
theorem Lp.refl:Lp S c q q 0:=λ _ s1=>⟨s1,rfl⟩
theorem Lp.trans {q1 q2:Qs} {m n:Nat} (h:Lp S c q q1 m) (h':Lp S c q1 q2 n):Lp S c q q2 (m+n):=λ F s1=>by
 obtain ⟨s2,e⟩:=h (F+n) s1;obtain ⟨s3,e'⟩:=h' F s2;refine ⟨s3,?_⟩;rw [<-e',<-e];congr 1;omega
theorem EL {r:DS} (h:q.fin=.none):Gh (.val (.ref S.length)::r) (ST S c q)=some (.ok true,ST S c q):=by
 have e:ao "Story" "end" (ao "Goer" "story" (aa (ag 0))) (.val (.ref S.length)::r) (ST S c q)=some (.ok .none,ST S c q):=by rw [<-h];exact bA (bA v0 o0 (AX _ _ _)) yN (JU _ _ _)
 exact xQ (AF e rfl rfl) (AF (bA v0 o0 (LZ _ _ _)) rfl rfl)
theorem Jo {r:DS} {x:List W} (h:q.fin=.tuple x):Gh (.val (.ref S.length)::r) (ST S c q)=some (.ok false,ST S c q):=by
 have e:ao "Story" "end" (ao "Goer" "story" (aa (ag 0))) (.val (.ref S.length)::r) (ST S c q)=some (.ok (.tuple x),ST S c q):=by rw [<-h];exact bA (bA v0 o0 (AX _ _ _)) yN (JU _ _ _)
 exact uC (AF e rfl rfl)
noncomputable def qL (q:Qs) (p:Int):Qs:={ q with line:=.int p,steps:=q.steps+1,lns:=q.lns++[.int p] }
theorem Az {q':Qs} {p:Int} {r:Rw} (hs:q.steps<c.most) (hl:q.lns.length<7000) (e:dh [.ref S.length,bY p r] (ST S c (qL q p))=some (.ok .none,ST S c q')):j7 [.ref S.length,bY p r] (ST S c q)=some (.ok .none,ST S c q'):=by
 let δ:DS:=[.val (.ref S.length),.val (bY p r)]
 let q1:Qs:={ q with line:=.int p }
 have s1:cu "Goer" "line" (aa (ag 0)) (aa (aA aR (ay 1) (dC (.int (1))))) δ (ST S c q)=some (.nx δ,ST S c q1):=by
  refine (Fo (d:=.int p) (aq (Fw p r)) v0 o0 (by simp [qZ])).trans ?_;rw [Me,w0]
 have cm:oU Ir (ao "Story" "steps" (ao "Goer" "story" (aa (ag 0)))) (ao "Goer" "most" (aa (ag 0))) δ (ST S c q1)=some (.ok false,ST S c q1):=by
  refine AF (bA (bA v0 o0 (AX _ _ _)) yN (IC _ _ _)) (bA v0 o0 (LS _ _ _)) ?_;rw [Cr,decide_eq_false (by show ¬ q.steps ≥ c.most;omega)]
 have s2:bd (cz "Story" "add_step" dQ (ao "Goer" "story" (aa (ag 0))) (aQ (ao "Goer" "line" (aa (ag 0))) bW)) δ (ST S c q1)=some (.nx δ,ST S c (qL q p)):=aZ (eE (bA v0 o0 (AX _ _ _)) yN (Mg _ _ _) (aU (bA v0 o0 (K8 _ _ _)) rfl) (xJ S c q1 (.int p) (by show q.lns.length<8000;omega)));have I:iU "Goer" (.ref S.length) (ST S c (qL q p))=some (S.length,qZ S.length c (qL q p).line):=iy o0;have Mm:(qZ S.length c (qL q p).line).lookup (Str.ofString "do")=none:=mG S c _ _ (by simp);have e0:ag 0 δ=some (.ref S.length):=rfl;have e1:ae (ag 1) ak δ=some [bY p r]:=rfl;refine (aE rfl).trans ((congrArg cy ((ah s1).trans ((ah (δ':=δ) ((b9 cm).trans rfl)).trans ((ah s2).trans (?_:_=some (.nx δ,ST S c q')))))).trans rfl);unfold tW;rw [e0,e1];simp only [Option.bind_some,I,Mm,if_true];rw [e]
theorem qd {q':Qs} (h:gQ q (K0++[a]) T L) {r:Rw} {rs:List Rw} (e:a.r=r::rs) (hm:c.most=1000) (hL:L.length<900) (D:dh [.ref S.length,bY a.p r] (ST S c (qL q a.p))=some (.ok .none,ST S c q')):Lp S c q q' 1:=λ F s1=>by
 obtain ⟨f,hf,fr,ha⟩:=h.top;refine ⟨.val (bY a.p r),?_⟩;refine wB (EL h.fn) ?_;have St:=EO S c q hf fr.wl (fr.hd e);refine (ah (δ':=[.val (.ref S.length),.val (bY a.p r)]) (bb (eE (kb S c q ha) (f1' hf) (JJ _ _) (ds:=[]) rfl St) rfl)).trans ?_;refine (b9 (E5 _ _)).trans ?_;exact aZ (eE v0 o0 (mG S c _ _ (by simp)) (ds:=[bY a.p r]) rfl (Az (by rw [h.st,hm];omega) (by rw [h.ln,List.length_map];omega) D))
noncomputable def IM:Rw->Prop
 | .set _ t=>iQ t<9/\jY t
 | .tell t=>iQ t<9/\jY t
 | _=>False
noncomputable def eW (l:dL):List Rw->dL
 | []=>l
 | .set x t::r=>eW (cM l x (vl l t)) r
 | _::r=>eW l r
noncomputable def jO (l:dL):List Rw->List Int
 | []=>[]
 | .set x t::r=>jO (cM l x (vl l t)) r
 | .tell t::r=>vl l t::jO l r
 | _::r=>jO l r
noncomputable def dY (p:Int):List Rw->List Int
 | []=>[]
 | _::r=>p::dY (p+1) r
theorem bB:∀ (p:Int) (r:List Rw),(dY p r).length=r.length
 | _,[]=>rfl
 | p,_::r=>congrArg (· + 1) (bB (p+1) r)
theorem gu:∀ (r:List Rw) (l:dL),(jO l r).length<=r.length
 | [],_=>Nat.le_refl _
 | .set _ _::r,l=>Nat.le_succ_of_le (gu r _)
 | .tell _::r,l=>Nat.succ_le_succ (gu r _)
 | .call _ _ _::r,l=>Nat.le_succ_of_le (gu r _)
 | .ret _::r,l=>Nat.le_succ_of_le (gu r _)
theorem hJ:∀ (r:List Rw) (l:dL),(eW l r).length<=l.length+r.length
 | [],_=>Nat.le_refl _
 | .set x t::r,l=>by
  have h1:=hJ r (cM l x (vl l t));have h2:=ip l x (vl l t);show (eW (cM l x (vl l t)) r).length<=_;simp only [List.length_cons];omega
 | .tell _::r,l=>Nat.le_succ_of_le (hJ r _)
 | .call _ _ _::r,l=>Nat.le_succ_of_le (hJ r _)
 | .ret _::r,l=>Nat.le_succ_of_le (hJ r _)
theorem mY (hm:c.most=1000):∀ (pre tl:List Rw) (a:Af) (q:Qs) (T L:List Int),gQ q (K0++[a]) T L->a.r=pre++tl->(∀ r∈pre,IM r)->a.l.length+pre.length<7000->T.length+pre.length<7000->L.length+pre.length<900->
 ∃ q',Lp S c q q' pre.length/\gQ q' (K0++[{ a with p:=a.p+pre.length,r:=tl,l:=eW a.l pre }]) (T++jO a.l pre) (L++dY a.p pre)/\q'.fs.length=q.fs.length
 | [],tl,a,q,T,L,h,e,_,_,_,_=>by
  refine ⟨q,.refl,?_,rfl⟩;simp only [List.length_nil,eW,jO,dY,List.append_nil];have:({ a with p:=a.p+((0:Nat):Int),r:=tl }:Af)=a:=by
   cases a;simp only at e;simp [e]
  rw [this];exact h
 | r::pre,tl,a,q,T,L,h,e,hr,b1,b2,b3=>by
  simp only [List.length_cons] at b1 b2 b3;have hq:=h.q2 a.p;have hr0:=hr r (.head _);have tail:∀ {a1:Af} {q1:Qs} {T1:List Int},dh [.ref S.length,bY a.p r] (ST S c (qL q a.p))=some (.ok .none,ST S c q1)->gQ q1 (K0++[a1]) T1 (L++[a.p])->q1.fs.length=q.fs.length->a1.p=a.p+1->a1.r=pre++tl->a1.l.length<=a.l.length+1->T1.length<=T.length+1->
   ∃ q',Lp S c q q' (pre.length+1)/\gQ q' (K0++[{ a1 with p:=a.p+((pre.length+1:Nat):Int),r:=tl,l:=eW a1.l pre }]) (T1++jO a1.l pre) (L++a.p::dY (a.p+1) pre)/\q'.fs.length=q.fs.length:=λ {a1 q1 T1} D h1 hf e1 e2 e3 e4=>by
   obtain ⟨q',l1,h2,f2⟩:=mY hm pre tl a1 q1 T1 (L++[a.p]) h1 e2 (λ x hx=>hr x (.tail _ hx)) (by omega) (by omega) (by simp;omega);have l0:=qd h e hm (by omega) D;refine ⟨q',?_,?_,f2.trans hf⟩
   . rw [Nat.add_comm];exact l0.trans l1
   . rw [e1] at h2;have ep:a.p+((pre.length+1:Nat):Int)=a.p+1+(pre.length:Int):=by omega
     rw [ep];simpa using h2
  cases r with
  | set x t=>
   obtain ⟨q1,D,h1,f1⟩:=Fd (S:=S) (c:=c) hq e hr0.1 hr0.2 (by omega);exact tail (a1:={ a with p:=a.p+1,r:=pre++tl,l:=cM a.l x (vl a.l t) }) D h1 f1 rfl rfl (ip _ _ _) (Nat.le_succ _)
  | tell t=>
   obtain ⟨q1,D,h1,f1⟩:=Bg (S:=S) (c:=c) hq e hr0.1 hr0.2 (by omega);obtain ⟨q',l2,h2,f2⟩:=tail (a1:={ a with p:=a.p+1,r:=pre++tl }) D h1 f1 rfl rfl (Nat.le_succ _) (by simp);exact ⟨q',l2,by simpa [eW,jO,dY] using h2,f2⟩
  | call _ _ _=>exact hr0.elim
  | ret _=>exact hr0.elim
end
noncomputable def zzz:Str:=Str.ofString "zzz"
structure Df where
 ps:List Str
 pre:List Rw
 cl:Option (Str×List Tr)
 po:List Tr
 rt:Option Tr
 ln:Int
noncomputable def jS:Option (Str×List Tr)->List Rw
 | none=>[]
 | some x=>[.call zzz x.1 x.2]
noncomputable def mP:Option Tr->List Rw
 | none=>[]
 | some t=>[.ret t]
noncomputable def gO (d:Df):List Rw:=d.po.map .tell
noncomputable def Df.rows (d:Df):List Rw:=d.pre++(jS d.cl++(gO d++mP d.rt))
noncomputable def Df.dn (d:Df):Dn:=⟨d.ps,d.rows,d.ln⟩
noncomputable def Df.lc (d:Df):Int:=d.ln+1+d.pre.length
noncomputable def Df.pe (d:Df):Int:=d.ln+1+d.pre.length+(jS d.cl).length+d.po.length
noncomputable def o8 (d:Df):List Int:=match d.rt with
 | none=>[]
 | some _=>[d.pe]
noncomputable def nI (d:Df) (l:dL):Int:=match d.rt with
 | none=>0
 | some t=>vl l t
structure zE (d:Df):Prop where
 ps:d.ps.length<=20
 pl:d.pre.length<=20
 pre:∀ r∈d.pre,IM r
 cl:∀ x,d.cl=some x->x.2.length<1000/\∀ y∈x.2,iQ y<9/\jY y
 po:d.po.length<=20/\∀ t∈d.po,iQ t<9/\jY t
 rt:∀ t,d.rt=some t->iQ t<9/\jY t
 no:d.cl=none->d.po=[]
noncomputable def zi (d:Df) (l:dL):List Int×List Int×(Int ⊕ dL):=(jO l d.pre,dY (d.ln+1) d.pre,.inr (eW l d.pre))
noncomputable def FE (d:Df) (l:dL):List Int×List Int×(Int ⊕ dL):=(jO l d.pre,dY (d.ln+1) d.pre++[d.lc],.inl d.lc)
noncomputable def wS (d d':Df) (l:dL) (r:List Int×List Int×(Int ⊕ dL)):List Int×List Int×(Int ⊕ dL):=match r.2.2 with
 | .inl dl=>(jO l d.pre++r.1,dY (d.ln+1) d.pre++d.lc::r.2.1,.inl dl)
 | .inr l2=>(jO l d.pre++(r.1++jO (cM (eW l d.pre) zzz (nI d' l2)) (gO d)),dY (d.ln+1) d.pre++d.lc::(r.2.1++(o8 d'++dY (d.lc+1) (gO d))),.inr (cM (eW l d.pre) zzz (nI d' l2)))
noncomputable def uc (d d':Df) (l:dL) (es:List Tr):dL:=ke [] d'.ps (es.map (vl (eW l d.pre)))
noncomputable def wU (D:Str->Option Df):Nat->Df->dL->List Int×List Int×(Int ⊕ dL)
 | 0,d,l=>match d.cl with
  | none=>zi d l
  | some _=>FE d l
 | n+1,d,l=>match d.cl with
  | none=>zi d l
  | some x=>match D x.1 with
   | none=>zi d l
   | some d'=>wS d d' l (wU D n d' (uc d d' l x.2))
noncomputable def Ma (S:ai) (c:Cn) (q:Qs) (K0:List Af) (T L:List Int) (d:Df) (g:W) (n:Nat) (r:List Int×List Int×(Int ⊕ dL)):Prop:=∃ q' k,Lp S c q q' k/\k<=100*(n+1)/\r.1.length<=60*(n+1)/\r.2.1.length<=60*(n+1)/\(match r.2.2 with
 | .inl dl=>q'.fin=ou dl/\q'.told=(T++r.1).map .int/\q'.lns=(L++r.2.1).map .int/\q'.steps=(L++r.2.1).length
 | .inr l2=>gQ q' (K0++[⟨d.pe,mP d.rt,l2,g⟩]) (T++r.1) (L++r.2.1)/\l2.length<=41/\kW l2)
theorem rC (l:dL):∀ ts:List Tr,eW l (ts.map .tell)=l
 | []=>rfl
 | _::ts=>rC l ts
section
variable {S:ai} {c:Cn} {D:Str->Option Df}
theorem Fe (hm:c.most=1000) {q:Qs} {K0:List Af} {b:Af} {T L:List Int} {d:Df} {l2:dL} {x:Str} (hd:zE d) (h:gQ q (K0++[b]++[⟨d.pe,mP d.rt,l2,.str x⟩]) T L) (hL:L.length<900) (hb:b.l.length<7000):∃ q',Lp S c q q' 1/\gQ q' (K0++[{ b with l:=cM b.l x (nI d l2) }]) T (L++o8 d):=by
 unfold nI o8;cases hr:d.rt with
 | some t=>
  rw [hr] at h;obtain ⟨o1,o2⟩:=hd.rt t hr;obtain ⟨q',e,h2⟩:=EH (S:=S) (c:=c) (h.q2 d.pe) (e:=rfl) o1 o2 rfl (by omega);exact ⟨q',qd h rfl hm hL e,h2⟩
 | none=>
  rw [hr] at h;obtain ⟨f,hf,fr,ha⟩:=h.top;have St:=yf S c q hf fr.wl (fr.fin rfl);have hK:(K0++[b]).length=K0.length+1:=by simp
  let q1:=gl q (K0++[b]).length { f with wl:=false };have eq1:q1.al=q.al/\q1.told=q.told/\q1.lns=q.lns/\q1.steps=q.steps/\q1.fin=q.fin:=by
   have e:∀ {q:Qs} {t:Nat} {f:Fm},(gl q t f).al=q.al/\(gl q t f).told=q.told/\(gl q t f).lns=q.lns/\(gl q t f).steps=q.steps/\(gl q t f).fin=q.fin:=λ {q t f}=>by cases t <;> exact ⟨rfl,rfl,rfl,rfl,rfl⟩
   exact e
  have hf1:iz q1 (K0.length+1)=some { f with wl:=false }:=by
   have:=qD (f':={ f with wl:=false }) hf (K0.length+1);rw [if_pos hK.symm] at this;exact this
  have h2:gQ { q1 with al:=K0.length+1 } (K0++[b]) T L:=by
   refine ⟨by simp,λ t e he=>?_,by show q1.told=_;rw [eq1.2.1];exact h.td,by show q1.lns=_;rw [eq1.2.2.1];exact h.ln,by show q1.steps=_;rw [eq1.2.2.2.1];exact h.st,by show q1.fin=_;rw [eq1.2.2.2.2];exact h.fn⟩;have ht:=(oG he).1;obtain ⟨g,g1,g2⟩:=h.fm t e (by rw [List.getElem?_append_left ht];exact he);refine ⟨g,?_,g2⟩;have:=qD (f':={ f with wl:=false }) hf t;rw [if_neg (by omega)] at this;have e3:iz { q1 with al:=K0.length+1 } t=iz q1 t:=by cases t <;> rfl
   rw [e3,this];exact g1
  obtain ⟨f2,hf2,fr2,ha2⟩:=h2.top;have hn:f2.nm=b.l:=fr2.nm;have G:=nB (S:=S) (c:=c) ha2 hf2 (by rw [hn];omega) x 0;have P:re (ao "Goer" "frames" (aa (ag 0))) [.val (.ref S.length),.val (.int 0),.no] (ST S c q1)=some (.ok (.ref (S.length+(bs (K0.length+1)+1))),ST S c { q1 with al:=K0.length+1 }):=by
   refine (Fb (es:=uU S.length (K0.length+1)) (bA v0 o0 (Ec _ _ _)) (by rw [o9,eq1.1,ha,hK,kH])).trans ?_;rw [w9]
  have hf1':iz { q1 with al:=K0.length+1 } (K0.length+1)=some { f with wl:=false }:=hf1;let δ:DS:=[.val (.ref S.length),.val (.int 0),.val (.ref (S.length+(bs (K0.length+1)+1)))]
  have v2:∀ T:ai,aa (ag 2) δ T=some (.ok (.ref (S.length+(bs (K0.length+1)+1))),T):=λ _=>rfl;have B:d6 [.ref S.length,.int 0] (ST S c q1)=some (.ok .none,ST S c (gl { q1 with al:=K0.length+1 } K0.length { f2 with nm:=cM f2.nm x 0 })):=
   (aE rfl).trans ((congrArg cy ((ah (δ':=δ) (bb P rfl)).trans (aZ (eE v0 o0 (mG S c _ _ (by simp)) (aU (d:=.str x) (by rw [<-show f.gv=.str x from fr.gv];exact bA (v2 _) (f1' hf1') (Lj _ _)) (aU rfl rfl)) G)))).trans rfl)
  have E:ft [.ref S.length] (ST S c q1)=some (.ok .none,ST S c (gl { q1 with al:=K0.length+1 } K0.length { f2 with nm:=cM f2.nm x 0 })):=by
   refine (aE rfl).trans ((congrArg cy (?_:_=some (.nx [.val (.ref S.length)],_))).trans rfl);have tl:jL false (ji (ao "Goer" "frames" (aa (ag 0)))) (aa (dC (.int (1)))) [.val (.ref S.length)] (ST S c q1)=some (.ok false,ST S c q1):=by
    have:=GQ (b:=1) (fi:=aa (dC (.int 1))) (A8 (bA (v0 (r:=[])) (o0 (S:=S) (c:=c) (q:=q1)) (Ec _ _ _)) o9) rfl;rw [nc,eq1.1,ha] at this;rw [this,decide_eq_false (by simp;omega)]
   exact (b9 tl).trans (aZ (eE v0 o0 (mG S c _ _ (by simp)) (ds:=[.int 0]) rfl B))
  refine ⟨gl { q1 with al:=K0.length+1 } K0.length { f2 with nm:=cM f2.nm x 0 },λ F s1=>⟨.val .none,wB (EL h.fn) ?_⟩,?_⟩
  . exact (ah (δ':=[.val (.ref S.length),.val .none]) (bb (eE (kb S c q ha) (f1' hf) (JJ _ _) (ds:=[]) rfl St) rfl)).trans ((fK (S1:=ST S c q1) rfl).trans (aZ (eE v0 o0 (mG S c _ _ (by simp)) (ds:=[]) rfl E)))
  . rw [hn];simp only [List.append_nil];exact h2.set hf2 (fr2.up (fr2.rg.put x (by decide)))
theorem DZ (hm:c.most=1000) (hD:∀ x d,D x=some d->zE d/\bC c.defs (.inr x)=some (EB x d.dn)) (hC:∀ x d y,D x=some d->d.cl=some y->∃ d',D y.1=some d'):
 ∀ (n:Nat) (x:Str) (d:Df) (l:dL) (g:W) (K0:List Af) (q:Qs) (T L:List Int),D x=some d->K0.length+n=5->gQ q (K0++[⟨d.ln+1,d.rows,l,g⟩]) T L->q.fs.length=K0.length->l.length<=20->kW l->T.length+70*(n+1)<800->L.length+70*(n+1)<800->Ma S c q K0 T L d g n (wU D n d l):=by
 intro n;induction n with
 | zero=>
  intro x d l g K0 q T L hx hK h hf hl hr hT hL;obtain ⟨ok,dv⟩:=hD x d hx;have p1:=ok.pl;have p2:=gu d.pre l;have p3:=hJ d.pre l;obtain ⟨q1,l1,h1,f1⟩:=mY (S:=S) (c:=c) hm d.pre (jS d.cl++(gO d++mP d.rt)) ⟨d.ln+1,d.rows,l,g⟩ q T L h rfl ok.pre (by simp only;omega) (by omega) (by omega);dsimp only at h1;unfold wU;cases hc:d.cl with
  | none=>
   refine ⟨q1,_,l1,by omega,by simp only [zi];omega,by simp only [zi,bB];omega,?_⟩;have e1:=ok.no hc;have hpe:d.pe=d.ln+1+d.pre.length:=by simp [Df.pe,hc,jS,e1]
   rw [hc] at h1;simp only [jS,gO,e1,List.map_nil,List.nil_append] at h1;obtain ⟨f2,_,fr2,_⟩:=h1.top;rw [hpe];exact ⟨h1,by show (eW l d.pre).length<=41;omega,fr2.rg⟩
  | some y=>
   obtain ⟨c1,c2⟩:=ok.cl y hc;rw [hc] at h1;have hq:=h1.q2 (d.ln+1+d.pre.length);obtain ⟨q2,D2,a1,a2,a3,a4⟩:=Ba (S:=S) (c:=c) hq (x:=zzz) (fn:=y.1) (es:=y.2) (rs:=gO d++mP d.rt) rfl c2 c1 (by omega) rfl;have l2:=qd (S:=S) (c:=c) h1 (r:=.call zzz y.1 y.2) (rs:=gO d++mP d.rt) rfl hm (by simp [bB];omega) D2;refine ⟨q2,_,l1.trans l2,by omega,by simp only [FE];omega,by simp only [FE,List.length_append,bB,List.length_cons,List.length_nil];omega,a1,?_,?_,?_⟩
   . rw [a2];exact hq.td
   . rw [a3];show q1.lns++_=_;rw [h1.ln];simp [FE,Df.lc]
   . rw [a4];show q1.steps+1=_;rw [h1.st];simp only [FE,List.length_append,List.length_cons,List.length_nil];omega
 | succ n ih=>
  intro x d l g K0 q T L hx hK h hf hl hr hT hL;obtain ⟨ok,dv⟩:=hD x d hx;have p1:=ok.pl;have p2:=gu d.pre l;have p3:=hJ d.pre l;have po1:=ok.po.1;obtain ⟨q1,l1,h1,f1⟩:=mY (S:=S) (c:=c) hm d.pre (jS d.cl++(gO d++mP d.rt)) ⟨d.ln+1,d.rows,l,g⟩ q T L h rfl ok.pre (by simp only;omega) (by omega) (by omega);dsimp only at h1;unfold wU;cases hc:d.cl with
  | none=>
   refine ⟨q1,_,l1,by omega,by simp only [zi];omega,by simp only [zi,bB];omega,?_⟩;have e1:=ok.no hc;have hpe:d.pe=d.ln+1+d.pre.length:=by simp [Df.pe,hc,jS,e1]
   rw [hc] at h1;simp only [jS,gO,e1,List.map_nil,List.nil_append] at h1;obtain ⟨f2,_,fr2,_⟩:=h1.top;rw [hpe];exact ⟨h1,by show (eW l d.pre).length<=41;omega,fr2.rg⟩
  | some y=>
   obtain ⟨c1,c2⟩:=ok.cl y hc;obtain ⟨d',hd'⟩:=hC x d y hx hc;obtain ⟨ok',dv'⟩:=hD _ _ hd';rw [hc] at h1;simp only [hd'];have hq:=h1.q2 (d.ln+1+d.pre.length);obtain ⟨f2,_,fr2,_⟩:=h1.top;have rg2:kW (eW l d.pre):=fr2.rg;obtain ⟨q2,D2,h2,g2⟩:=do_call (S:=S) (c:=c) hq (x:=zzz) (fn:=y.1) (es:=y.2) (rs:=gO d++mP d.rt) rfl c2 c1 (by omega) (by show q1.fs.length=_;omega) dv';have l2:=qd (S:=S) (c:=c) h1 (r:=.call zzz y.1 y.2) (rs:=gO d++mP d.rt) rfl hm (by simp [bB];omega) D2;have zl:(uc d d' l y.2).length<=20:=by
    have z1:=ot (xs:=d'.ps) (vs:=y.2.map (vl (eW l d.pre))) (l:=[]);have z2:=ok'.ps;unfold uc;simp only [List.length_nil] at z1;omega
   have zr:kW (uc d d' l y.2):=mT (λ _ h=>absurd h List.not_mem_nil) λ v hv=>by
    obtain ⟨z,hz,rfl⟩:=List.mem_map.mp hv;exact kT rg2 (c2 z hz).2
   obtain ⟨q3,k3,l3,b1,b2,b3,R⟩:=ih y.1 d' (uc d d' l y.2) (.str zzz) (K0++[⟨d.ln+1+d.pre.length+1,gO d++mP d.rt,eW l d.pre,g⟩]) q2 _ _ hd' (by simp;omega) h2 (by simp [g2]) zl zr (by simp;omega) (by simp [bB];omega);generalize wU D n d' (uc d d' l y.2)=r at b2 b3 R ⊢;obtain ⟨T2,L2,o⟩:=r;dsimp only at b2 b3 R;cases o with
   | inl dl=>
    dsimp only at R;refine ⟨q3,_,(l1.trans l2).trans l3,by omega,by simp only [wS,List.length_append];omega,by simp only [wS,List.length_append,List.length_cons,bB];omega,R.1,?_,?_,?_⟩
    . rw [R.2.1];simp [wS]
    . rw [R.2.2.1];simp [wS,Df.lc]
    . rw [R.2.2.2];simp only [wS,List.length_append,List.length_cons,List.length_nil];omega
   | inr m2=>
    dsimp only at R;obtain ⟨R,m3,m4⟩:=R;obtain ⟨q4,l4,h4⟩:=Fe (S:=S) (c:=c) hm ok' R (by simp [bB];omega) (by simp only;omega);have rtl:(o8 d').length<=1:=by unfold o8;split <;> simp
    have pl2:=ip (eW l d.pre) zzz (nI d' m2);have pol:(gO d).length=d.po.length:=by simp [gO]
    obtain ⟨q5,l5,h5,_⟩:=mY (S:=S) (c:=c) hm (gO d) (mP d.rt) _ q4 _ _ h4 rfl (λ r hr'=>by
     obtain ⟨t,ht,rfl⟩:=List.mem_map.mp hr';exact ok.po.2 t ht) (by simp only;omega) (by simp;omega) (by simp [bB];omega)
    dsimp only at h5;have eN:eW (cM (eW l d.pre) zzz (nI d' m2)) (gO d)=cM (eW l d.pre) zzz (nI d' m2):=rC _ _;have sp:=gu (gO d) (cM (eW l d.pre) zzz (nI d' m2));refine ⟨q5,_,(((l1.trans l2).trans l3).trans l4).trans l5,by omega,by simp only [wS,List.length_append];omega,by simp only [wS,List.length_append,List.length_cons,bB];omega,?_,by show (cM (eW l d.pre) zzz (nI d' m2)).length<=41;omega,?_⟩
    . rw [eN] at h5;have hpe:d.pe=d.ln+1+d.pre.length+1+(gO d).length:=by simp [Df.pe,hc,jS,pol]
      simp only [wS];rw [hpe];have e1:(T++jO l d.pre++T2++jO (cM (eW l d.pre) zzz (nI d' m2)) (gO d))=T++(jO l d.pre++(T2++jO (cM (eW l d.pre) zzz (nI d' m2)) (gO d))):=by simp
      have e2:L++dY (d.ln+1) d.pre++[d.ln+1 + ↑d.pre.length]++L2++o8 d'++dY (d.ln+1 + ↑d.pre.length+1) (gO d)=L++(dY (d.ln+1) d.pre++d.lc::(L2++(o8 d'++dY (d.lc+1) (gO d)))):=by simp [Df.lc]
      rw [<-e1,<-e2];exact h5
    . obtain ⟨f9,_,fr9,_⟩:=h5.top;have:=fr9.rg;dsimp only at this;rw [eN] at this;exact this
end
theorem vH (kvs:List (bh×W)) (k k':bh) (v:W):bC (cA kvs k v) k'=if k'=k then some v else bC kvs k':=by
 unfold cA bC;split
 . rename_i ha;obtain ⟨p,hp,hk⟩:=List.any_eq_true.mp ha;have hk:=of_decide_eq_true hk;clear ha;induction kvs with
   | nil=>cases hp
   | cons a kvs ih=>
    simp only [List.map_cons,List.find?_cons];by_cases e:a.1=k
    . simp only [e,if_true];by_cases e2:k'=k
      . subst e2;simp
      . have:¬ k=k':=λ z=>e2 z.symm;simp only [this,decide_false,e2,if_false];clear ih hp;induction kvs with
        | nil=>rfl
        | cons b kvs ih=>
         simp only [List.map_cons,List.find?_cons];by_cases e3:b.1=k
         . simp only [e3,if_true,this,decide_false];exact ih
         . simp only [e3,if_false];by_cases e4:b.1=k'
           . simp [e4]
           . simp only [e4,decide_false];exact ih
    . simp only [e,if_false];have hp':p∈kvs:=by
       rcases List.mem_cons.mp hp with z | z
       . exact absurd (z▸hk) e
       . exact z
      by_cases e2:a.1=k'
      . have:¬ k'=k:=λ z=>e (e2.trans z);simp [e2,this]
      . simp only [e2,decide_false];exact ih hp'
 . rename_i ha;rw [List.find?_append];by_cases e2:k'=k
   . subst e2;have:kvs.find? (λ kv=>decide (kv.1=k'))=none:=by
      rw [List.find?_eq_none];intro x hx hz;exact ha (List.any_eq_true.mpr ⟨x,hx,hz⟩)
     rw [this];simp
   . have:¬ k=k':=λ z=>e2 z.symm;simp [e2,this]
noncomputable abbrev Pg:=List (Str×Df)
noncomputable def dW (x:Str×Df):W:=EB x.1 x.2.dn
noncomputable def G8:Pg->(Str->Option Df)->Str->Option Df
 | [],D=>D
 | x::r,D=>G8 r λ y=>if y=x.1 then some x.2 else D y
noncomputable def tq:Pg->List (bh×W)->List (bh×W)
 | [],kvs=>kvs
 | x::r,kvs=>tq r (cA kvs (.inr x.1) (dW x))
theorem yt:∀ (P:Pg) (kvs:List (bh×W)) (D:Str->Option Df),(∀ y,bC kvs (.inr y)=(D y).map λ d=>dW (y,d))->∀ y,bC (tq P kvs) (.inr y)=(G8 P D y).map λ d=>dW (y,d)
 | [],_,_,h=>h
 | x::r,kvs,D,h=>yt r _ _ λ y=>by
  rw [vH];by_cases e:y=x.1
  . subst e;simp
  . have:¬ (Sum.inr y:bh)=Sum.inr x.1:=λ z=>e (Sum.inr.inj z);simp only [this,e,if_false];exact h y
theorem lL (kvs:List (bh×W)) (k:bh) (v:W):(cA kvs k v).length<=kvs.length+1:=by
 unfold cA;split <;> simp
noncomputable def lK (P:Pg):Str->Option Df:=G8 P λ _=>none
theorem qm (P:Pg) (y:Str):bC (tq P []) (.inr y)=(lK P y).map λ d=>dW (y,d):=yt P [] _ (λ _=>rfl) y
theorem zY (S:ai):cG [.ref S.length] (S++[.ins (Str.ofString "Story") []])=some (.ok .none,S++[.ins (Str.ofString "Story") [(Str.ofString "told", .ref (S.length+1)),(Str.ofString "steps", .int 0),(Str.ofString "end", .none),(Str.ofString "brought", .ref (S.length+2)),(Str.ofString "touches", .ref (S.length+3)),(Str.ofString "puts", .ref (S.length+4)),(Str.ofString "lines", .ref (S.length+5))],.lst [],.lst [],.lst [],.lst [],.lst []]):=by
 have nl:∀ (x:Ob) (L:ai) (δ:DS),cP (aa ak) δ (S++x::L)=some (.ok (.ref (S.length+(L.length+1))),S++x::(L++[.lst []])):=λ x L δ=>by
  rw [zc];simp
 refine (aE rfl).trans ((congrArg cy (?_:_=some (.nx [.val (.ref S.length)],_))).trans rfl);refine (ah (gR (fs:=[]) (nl _ _ _) (by simp))).trans ?_;refine (ah (gR (d:=.int 0) rfl (by simp [dS]))).trans ?_;refine (ah (gR (d:=.none) rfl (pl (pl (by simp))))).trans ?_;refine (ah (gR (nl _ _ _) (pl (pl (pl (by simp)))))).trans ?_;refine (ah (gR (nl _ _ _) (pl (pl (pl (pl (by simp))))))).trans ?_;refine (ah (gR (nl _ _ _) (pl (pl (pl (pl (pl (by simp)))))))).trans ?_;exact (gR (nl _ _ _) (pl (pl (pl (pl (pl (pl (by simp)))))))).trans (by kernel_rfl)
noncomputable def GE (P:Pg) (lane lanes:Int):Cn:={ defs:=tq P [],lane:=lane,lanes:=lanes,mine:=wr 0,most:=1000 }
noncomputable def q0 (rows:List W):Qs:={ line:=.none,f0:=⟨[],.none,rows,0,true⟩,fs:=[],al:=1,told:=[],steps:=0,fin:=.none,lns:=[] }
theorem vE (S:ai) (F1:List (Str×W)) (hF:F1.lookup (Str.ofString "defs")=some (.ref (S.length+1))) (x:List Sl) (hx:x.length=6):∀ (P:Pg) (kvs:List (bh×W)) (s:Sl),kvs.length+P.length<1000->∃ s',bE (aj 7) gY (P.map dW) (.val (.ref S.length)::(x++[s])) (S++[.ins (Str.ofString "Goer") F1,.dK kvs])=some (.nx (.val (.ref S.length)::(x++[s'])),S++[.ins (Str.ofString "Goer") F1,.dK (tq P kvs)])
 | [],kvs,s,_=>⟨s,rfl⟩
 | d::P,kvs,s,h=>by
  simp only [List.length_cons] at h;have h2:=lL kvs (.inr d.1) (dW d);obtain ⟨s',ih⟩:=vE S F1 hF x hx P (cA kvs (.inr d.1) (dW d)) (.val (dW d)) (by omega);refine ⟨s',?_⟩;rw [<-show tq P (cA kvs (.inr d.1) (dW d))=tq (d::P) kvs from rfl,<-ih];have e6:(x++[s]).set 6 (.val (dW d))=x++[.val (dW d)]:=by rw [List.set_append_right _ _ (by omega)];simp [hx]
  have g7:(x++[Sl.val (dW d)])[6]?=some (.val (dW d)):=by rw [List.getElem?_append_right (by omega)];simp [hx]
  refine bI (δ2:=.val (.ref S.length)::(x++[.val (dW d)])) (δ':=.val (.ref S.length)::(x++[.val (dW d)])) (S':=S++[.ins (Str.ofString "Goer") F1,.dK (cA kvs (.inr d.1) (dW d))]) ?_ ?_
  . show some ((Sl.val (.ref S.length)::(x++[s])).set 7 (.val (dW d)))=_;rw [List.set_cons_succ,e6]
  . have g0:(S++[Ob.ins (Str.ofString "Goer") F1,.dK kvs])[S.length]?=some (.ins (Str.ofString "Goer") F1):=gA S [.ins (Str.ofString "Goer") F1,.dK kvs] 0;have p7:ay 7 (.val (.ref S.length)::(x++[.val (dW d)]))=some (dW d):=by
     simp only [ay,List.getElem?_cons_succ,g7]
    have v7:aa (ag 7) (.val (.ref S.length)::(x++[.val (dW d)])) (S++[Ob.ins (Str.ofString "Goer") F1,.dK kvs])=some (.ok (dW d),S++[Ob.ins (Str.ofString "Goer") F1,.dK kvs]):=aq (by simp only [ag,List.getElem?_cons_succ,g7]);refine (pN (k:=d.1) (l:=S.length+1) (kvs:=kvs) (d:=dW d) v7 (bA v0 g0 hF) (aq (x0 p7)) (gA S [.ins (Str.ofString "Goer") F1,.dK kvs] 1) (by omega)).trans ?_;rw [sA S [.ins (Str.ofString "Goer") F1,.dK kvs] 1];rfl
theorem Bf (S:ai) (P:Pg) (lane lanes:Int) {dm:Df} (hP:P.length<900) (hd:lK P (Str.ofString "main")=some dm):fY [.ref S.length,.list (P.map dW),.int lane,.int lanes,.int 0,.list [],.int 1000] (S++[.ins (Str.ofString "Goer") []])=some (.ok .none,ST S (GE P lane lanes) (q0 (bP (dm.ln+1) dm.rows))):=by
 let c:=GE P lane lanes;let rows:=bP (dm.ln+1) dm.rows;let x:List Sl:=[.val (.list (P.map dW)),.val (.int lane),.val (.int lanes),.val (.int 0),.val (.list []),.val (.int 1000)]
 let F1:List (Str×W):=dS (Str.ofString "defs") (.ref (S.length+1)) [];obtain ⟨s,DL⟩:=vE S F1 (by kernel_rfl) x rfl P [] .no (by simp;omega);let δ:DS:=[.val (.ref S.length),.val (.list (P.map dW)),.val (.int lane),.val (.int lanes),.val (.int 0),.val (.list []),.val (.int 1000),s]
 refine (aE rfl).trans ((congrArg cy (?_:_=some (.nx δ,_))).trans rfl);have push:∀ (x:Ob) (L:ai) (o:Ob),(S++x::L)++[o]=S++x::(L++[o]):=λ x L o=>by simp
 have plen:∀ (x:Ob) (L:ai),(S++x::L).length=S.length+(L.length+1):=λ x L=>by simp
 refine (ah (gR (fs:=[]) (L:=[]) (L':=[.dK []]) (d:=.ref (S.length+1)) (by rw [uj,plen,push];rfl) (by simp))).trans ?_;refine (ah (δ':=δ) (S':=S++[.ins (Str.ofString "Goer") F1,.dK (tq P [])]) ((fW (ds:=P.map dW) rfl).trans DL)).trans ?_;refine (ah (gR (d:=.int lane) rfl (pl (by simp)))).trans ?_;have dv:su [(Str.ofString "lane", (ag 2)),(Str.ofString "lanes", (ag 3)),(Str.ofString "mine", (bU cZ (ae (ag 4) ak)))] δ=some [(.inr (Str.ofString "lane"),.int lane),(.inr (Str.ofString "lanes"),.int lanes),(.inr (Str.ofString "mine"),.int (wr 0))]:=by
  have w:bU cZ (ae (ag 4) ak) δ=some (.int (wr 0)):=p8 (ds:=[.int 0]) rfl (md 0);simp only [su,w,Option.bind_some,Option.map_some];rfl
 have ds:∀ (x:Ob) (L:ai),v5 [(Str.ofString "lane", (ag 2)),(Str.ofString "lanes", (ag 3)),(Str.ofString "mine", (bU cZ (ae (ag 4) ak)))] δ (S++x::L)=some (.ok (.ref (S.length+(L.length+1))),S++x::(L++[.dK (FD c)])):=λ x L=>by
  have e:iF [] [(.inr (Str.ofString "lane"),.int lane),(.inr (Str.ofString "lanes"),.int lanes),(.inr (Str.ofString "mine"),.int (wr 0))]=FD c:=by kernel_rfl
  simp only [v5,dv,Option.bind_some,List.length_cons,List.length_nil,e,plen,push];rfl
 refine (ah (gR (ds _ _) (pl (pl (by simp))))).trans ?_;have cb:∀ (x:Ob) (L:ai),pZ [none] (aa (cK (ag 5))) (aj 0) (aa lB) (aa (bU cZ (ae (ag 0) ak))) δ (S++x::L)=some (.ok (.ref (S.length+(L.length+1))),S++x::(L++[.lst []])):=λ x L=>by
  have z:([]:List W).length<=sizeLine:=sz _ (by simp);have s:aa (cK (ag 5)) δ (S++x::L)=some (.ok [],S++x::L):=rfl;have g:b4 (aj 0) (aa lB) (aa (bU cZ (ae (ag 0) ak))) (bf [none] δ) [] (S++x::L)=some (.ok [],S++x::L):=rfl;unfold pZ;rw [s];simp only [au,if_pos z];rw [g];simp only [plen,push]
 refine (ah (gR (cb _ _) (pl (pl (pl (by simp)))))).trans ?_;refine (ah (gR (d:=.int 1000) rfl (pl (pl (pl (pl (by simp))))))).trans ?_;let F6:List (Str×W):=dS (Str.ofString "most") (.int 1000) (dS (Str.ofString "boxes") (.ref (S.length+3)) (dS (Str.ofString "signs") (.ref (S.length+2)) (dS (Str.ofString "lane") (.int lane) F1)));let L6:ai:=[.dK (tq P []),.dK (FD c),.lst []]
 have fr:cP (aQ (jF "Frame" b8 (aQ (sIx (iP (ao "Goer" "defs" (aa (ag 0))) (aa (dC (.str "main")))) (aa (dC (.int (2))))) (aQ tG (aQ (aa (dC .none)) bW)))) bW) δ (S++.ins (Str.ofString "Goer") F6::L6)=some (.ok (.ref (S.length+9)),S++.ins (Str.ofString "Goer") F6::(L6++[.dK [],.ins (Str.ofString "Frame") (wE (S.length+4) .none),.ins (Str.ofString "Walk") (oA rows 0),.lst [.ref (S.length+6)],.lst [],.lst [.ref (S.length+5)]])):=by
  let T0:ai:=S++.ins (Str.ofString "Goer") F6::L6;let T1:ai:=T0++[.dK []];have t0:T0.length=S.length+4:=by simp [T0,L6]
  have t1:T1.length=S.length+5:=by simp [T1,t0]
  have g0:T0[S.length]?=some (.ins (Str.ofString "Goer") F6):=gA S _ 0;have dg:iP (ao "Goer" "defs" (aa (ag 0))) (aa (dC (.str "main"))) δ T0=some (.ok (dW (Str.ofString "main", dm)),T0):=pQ (bA (n:=S.length) v0 g0 (show F6.lookup (Str.ofString "defs")=some (.ref (S.length+1)) by kernel_rfl)) rfl (gA S _ 1) (by rw [qm,hd];rfl);have a:=aU (KE dg (fi:=aa (dC (.int (2)))) rfl (K7 _ _ _ _)) (aU (uj (δ:=δ) (S:=T0)) (aU (f:=aa (dC .none)) (g:=bW) (d:=.none) (ds:=[]) rfl rfl));rw [t0] at a;have fi:=uL T1 rows (S.length+4) .none;have mk:=jm (c := "Frame") (f:=b8) a fi;have z:=sz 1 (by decide);have b:=aU mk (g:=bW) (ds:=[]) rfl;simp only [cP,au];rw [b];simp only [List.length_cons,List.length_nil,if_pos z,t1];simp [T1,T0,L6,wE]
 refine (ah (gR fr (pl (pl (pl (pl (pl (by simp)))))))).trans ?_;refine (ah (gR (d:=.none) rfl (pl (pl (pl (pl (pl (pl (by simp))))))))).trans ?_;refine (ah (gR (d:=.none) rfl (pl (pl (pl (pl (pl (pl (pl (by simp)))))))))).trans ?_;let F9:List (Str×W):=dS (Str.ofString "meeting") .none (dS (Str.ofString "line") .none (dS (Str.ofString "frames") (.ref (S.length+9)) F6));let L9:ai:=L6++[.dK [],.ins (Str.ofString "Frame") (wE (S.length+4) .none),.ins (Str.ofString "Walk") (oA rows 0),.lst [.ref (S.length+6)],.lst [],.lst [.ref (S.length+5)]];have sy:jF "Story" cG (aa ak) δ (S++.ins (Str.ofString "Goer") F9::L9)=some (.ok (.ref (S.length+10)),S++.ins (Str.ofString "Goer") F9::(L9++[.ins (Str.ofString "Story") (mJ S.length 0 .none),.lst [],.lst [],.lst [],.lst [],.lst []])):=by
  let T0:ai:=S++.ins (Str.ofString "Goer") F9::L9;have t0:T0.length=S.length+10:=by simp [T0,L9,L6]
  have a:=jm (c := "Story") (f:=cG) (fa:=aa ak) (δ:=δ) (S:=T0) (S1:=T0) (ds:=[]) rfl (zY T0);rw [t0] at a;rw [a];simp [T0,mJ]
 refine (ah (gR sy (pl (pl (pl (pl (pl (pl (pl (pl (by simp))))))))))).trans ?_;let F10:List (Str×W):=dS (Str.ofString "story") (.ref (S.length+10)) F9;have eF:F10=qZ S.length c .none:=by kernel_rfl
 let M:ai:=[.ins (Str.ofString "Goer") (qZ S.length c .none),.dK (tq P []),.dK (FD c),.lst [],.dK [],.ins (Str.ofString "Frame") (wE (S.length+4) .none),.ins (Str.ofString "Walk") (oA rows 0),.lst [.ref (S.length+6)],.lst [],.lst [.ref (S.length+5)],.ins (Str.ofString "Story") (mJ S.length 0 .none),.lst [],.lst [],.lst [],.lst [],.lst []]
 have e10:S++.ins (Str.ofString "Goer") F10::(L9++[.ins (Str.ofString "Story") (mJ S.length 0 .none),.lst [],.lst [],.lst [],.lst [],.lst []])=S++M:=by rw [eF];rfl
 rw [show dS (Str.ofString "story") (.ref (S.length+10)) F9=F10 from rfl,e10];have bp:dX [.ref (S.length+10)] (S++M)=some (.ok .none,ST S c (q0 rows)):=by
  have g:∀ (L:ai) (k:Nat),(S++L)[S.length+k]?=L[k]?:=gA S;refine (aE rfl).trans ((congrArg cy (?_:_=some (.nx [.val (.ref (S.length+10))],ST S c (q0 rows)))).trans rfl);have n1:cP (aa ak) [.val (.ref (S.length+10))] (S++M)=some (.ok (.ref (S.length+16)),S++(M++[.lst []])):=by
   rw [zc];simp [M]
  have a1:=qj (fo:=ao "Story" "touches" (aa (ag 0))) (δ:=[.val (.ref (S.length+10))]) (l:=S.length+13) (bA (n:=S.length+10) v0 (g M 10) (Lo _ _ _)) (g M 13) n1 (g (M++[.lst []]) 13) (by simp);refine (ah a1).trans ?_;rw [sA S (M++[Ob.lst []]) 13];let M2:ai:=(M++[Ob.lst []]).set 13 (Ob.lst ([]++[W.ref (S.length+16)]));have n2:tG [.val (.ref (S.length+10))] (S++M2)=some (.ok (.ref (S.length+17)),S++(M2++[.dK []])):=by
   rw [uj];simp [M2,M]
  have a2:=qj (fo:=ao "Story" "puts" (aa (ag 0))) (δ:=[.val (.ref (S.length+10))]) (l:=S.length+14) (bA (n:=S.length+10) v0 (g M2 10) (show (mJ S.length 0 .none).lookup (Str.ofString "puts")=some (.ref (S.length+14)) by kernel_rfl)) (g M2 14) n2 (g (M2++[.dK []]) 14) (by simp);refine a2.trans ?_;rw [sA S (M2++[Ob.dK []]) 14];rfl
 exact aZ (eE (n:=S.length+10) (bA (n:=S.length) v0 (gA S M 0) (AX _ _ _)) (gA S M 10) (LW _ _ _) (ds:=[]) rfl bp)
noncomputable def lN (dm:Df) (o:Int ⊕ dL):W:=match o with
 | .inl dl=>ou dl
 | .inr _=>.tuple [sW "done", .int (dm.ln+1+dm.rows.length)]
theorem xP {S:ai} {c:Cn} {q:Qs} {T L:List Int} {dm:Df} {l2:dL} {p:Int} (hv:bC c.defs (.inr (Str.ofString "main"))=some (dW (Str.ofString "main", dm))) (h:gQ q ([]++[⟨p,[],l2,.none⟩]) T L):∃ q',Lp S c q q' 1/\q'.fin=lN dm (.inr l2)/\q'.told=q.told/\q'.lns=q.lns/\q'.steps=q.steps:=by
 obtain ⟨f,hf,fr,ha⟩:=h.top;have St:=yf S c q hf fr.wl (fr.fin rfl);let q1:=gl q 0 { f with wl:=false };have E:ft [.ref S.length] (ST S c q1)=some (.ok .none,ST S c { q1 with fin:=lN dm (.inr l2) }):=by
  refine (aE rfl).trans ((congrArg cy (?_:_=some (.nx [.val (.ref S.length)],_))).trans rfl);have tl:jL false (ji (ao "Goer" "frames" (aa (ag 0)))) (aa (dC (.int (1)))) [.val (.ref S.length)] (ST S c q1)=some (.ok true,ST S c q1):=by
   have:=GQ (b:=1) (fi:=aa (dC (.int 1))) (A8 (bA (v0 (r:=[])) (o0 (S:=S) (c:=c) (q:=q1)) (Ec _ _ _)) o9) rfl;rw [nc,show q1.al=1 from ha] at this;exact this
  refine (fK tl).trans ?_;have dg:iP (ao "Goer" "defs" (aa (ag 0))) (aa (dC (.str "main"))) [.val (.ref S.length)] (ST S c q1)=some (.ok (dW (Str.ofString "main", dm)),ST S c q1):=pQ (bA v0 o0 (KQ _ _ _)) rfl o1 hv;exact aZ (eE (bA v0 o0 (AX _ _ _)) yN (Li _ _ _) (aU rfl (aU (KE dg rfl (KI _ _ _ _ _ _)) rfl)) (nh S c q1 _ _))
 refine ⟨{ q1 with fin:=lN dm (.inr l2) },λ F s1=>⟨.val .none,wB (EL h.fn) ?_⟩,rfl,rfl,rfl,rfl⟩;exact (ah (δ':=[.val (.ref S.length),.val .none]) (bb (eE (kb S c q ha) (f1' hf) (JJ _ _) (ds:=[]) rfl St) rfl)).trans ((fK (S1:=ST S c q1) rfl).trans (aZ (eE v0 o0 (mG S c _ _ (by simp)) (ds:=[]) rfl E)))
structure ID (P:Pg) (dm:Df):Prop where
 len:P.length<900
 main:lK P (Str.ofString "main")=some dm
 ok:∀ x d,lK P x=some d->zE d
 cl:∀ x d y,lK P x=some d->d.cl=some y->∃ d',lK P y.1=some d'
 rt:dm.rt=none
noncomputable def res (P:Pg) (dm:Df):List Int×List Int×(Int ⊕ dL):=wU (lK P) 5 dm []
theorem wc (S:ai) {P:Pg} {dm:Df} (hP:ID P dm) (lane lanes:Int):∃ q',qJ [.list (P.map dW),.int lane,.int lanes,.int 0,.list [],.int 1000,.list []] S=some (.ok (.ref (S.length+10)),ST S (GE P lane lanes) q')/\q'.told=(res P dm).1.map .int/\q'.lns=(res P dm).2.1.map .int/\q'.steps=(res P dm).2.1.length/\q'.fin=lN dm (res P dm).2.2/\(res P dm).1.length<=360/\(res P dm).2.1.length<=360:=by
 let c:=GE P lane lanes;let rows:=bP (dm.ln+1) dm.rows;let δ:DS:=[.val (.list (P.map dW)),.val (.int lane),.val (.int lanes),.val (.int 0),.val (.list []),.val (.int 1000),.val (.list []),.val (.ref S.length),.no]
 have hv:∀ x d,lK P x=some d->bC c.defs (.inr x)=some (dW (x,d)):=λ x d hx=>by
  show bC (tq P []) _=_;rw [qm,hx];rfl
 have h0:gQ (q0 rows) ([]++[⟨dm.ln+1,dm.rows,[],.none⟩]) [] []:=by
  refine ⟨rfl,λ t a ha=>?_,rfl,rfl,rfl,rfl⟩;cases t with
  | zero=>
   cases ha;exact ⟨_,rfl,⟨rfl,rfl,rfl,Nat.zero_le _,rfl,λ _ h=>absurd h List.not_mem_nil⟩⟩
  | succ t=>cases ha
 obtain ⟨q1,k,l1,b1,b2,b3,R⟩:=DZ (S:=S) (c:=c) rfl (λ x d hx=>⟨hP.ok x d hx,hv x d hx⟩) hP.cl 5 _ dm [] .none [] (q0 rows) [] [] hP.main rfl h0 rfl (by simp) (λ _ h=>absurd h List.not_mem_nil) (by simp) (by simp);have fin:∃ q' m,Lp S c (q0 rows) q' m/\m<=700/\q'.told=(res P dm).1.map .int/\q'.lns=(res P dm).2.1.map .int/\q'.steps=(res P dm).2.1.length/\q'.fin=lN dm (res P dm).2.2:=by
  unfold res;cases ho:(wU (lK P) 5 dm []).2.2 with
  | inl dl=>
   rw [ho] at R;exact ⟨q1,k,l1,by omega,R.2.1,R.2.2.1,R.2.2.2,R.1⟩
  | inr l2=>
   rw [ho] at R;have R1:=R.1;rw [hP.rt] at R1;obtain ⟨q2,l2',e1,e2,e3,e4⟩:=xP (S:=S) (c:=c) (hv _ _ hP.main) R1;exact ⟨q2,k+1,l1.trans l2',by omega,e2.trans R1.td,e3.trans R1.ln,e4.trans R1.st,e1⟩
 obtain ⟨q',m,l,hm,z1,z2,z3,z4⟩:=fin;refine ⟨q',?_,z1,z2,z3,z4,b2,b3⟩;have E:∃ s1,br Gh gT 1000000 [.val (.ref S.length),.no] (ST S c (q0 rows))=some (.nx [.val (.ref S.length),s1],ST S c q'):=by
  obtain ⟨s1,e⟩:=l (999999-m+1) .no;rw [show 999999-m+1+m=1000000 by omega] at e;refine ⟨s1,e.trans ?_⟩;have hx:∃ x,q'.fin=.tuple x:=by rw [z4];unfold lN;split <;> exact ⟨_,rfl⟩
  obtain ⟨x,hx⟩:=hx;exact BF (Jo hx)
 obtain ⟨s1,E⟩:=E;have gr:jH [.ref S.length] (ST S c (q0 rows))=some (.ok .none,ST S c q'):=(aE rfl).trans ((congrArg cy E).trans rfl);have vg:∀ T:ai,aa (ag 7) δ T=some (.ok (.ref S.length),T):=λ _=>rfl;refine (aE rfl).trans ((congrArg cy (?_:_=some (.rt (.ref (S.length+10)),_))).trans rfl);refine (ah (δ':=δ) (bb (jm (ds:=[.list (P.map dW),.int lane,.int lanes,.int 0,.list [],.int 1000]) (S1:=S) rfl (Bf S P lane lanes hP.len hP.main)) rfl)).trans ?_;refine (ah (aZ (eE (vg _) o0 (mG S c _ _ (by simp)) (ds:=[]) rfl gr))).trans ?_;refine (ah (δ':=δ) ((fW (ds:=[]) rfl).trans rfl)).trans ?_;exact eg (bA (vg _) o0 (AX _ _ _))
theorem KH:decide (Str.ofString "+" = Str.ofString "num")=false/\decide (Str.ofString "+" = Str.ofString "name")=false:=by decide +kernel
theorem fH {T:ai} {i:Nat} {l:dL} (h:T[i]?=some (.dK (gP l))) (hl:kW l):∀ (t:Tr) (n:Nat),iQ t<n->jY t->aX n [tw t,.ref i] T=some (.ok (.int (vl l t)),T)
 | _,0,h,_=>absurd h (Nat.not_lt_zero _)
 | .sig _,_,_,h=>h.elim
 | .box _,_,_,h=>h.elim
 | .num v,n+1,_,_=>by
  show bc 2 2 _ _ _=_;refine (aE rfl).trans ((congrArg cy (?_:_=some (.rt (.int v),T))).trans rfl);exact fg (ik (aO (b:=true) (tT (x0 rfl)) (b6 (x1 rfl))))
 | .nam x,n+1,_,_=>by
  show bc 2 2 _ _ _=_;refine (aE rfl).trans ((congrArg cy (?_:_=some (.rt (.int (D7 l x)),T))).trans rfl);refine (pF (a:=Str.ofString "name") (x0 rfl) Lr).trans ?_;have g:=yQ (fo:=aa (ag 1)) (fk:=aa (aA aR (ay 0) (dC (.int (1))))) (fx:=aa (dC (.int (0)))) (δ:=[.val (tw (.nam x)),.val (.ref i)]) (k:=x) (y:=.int 0) (l:=i) rfl h (aq (x1 rfl)) rfl h;rw [yq] at g;exact fg ((fT (x0 rfl)).trans (eg g))
 | .op k x y,n+1,hd,⟨hk,ox,oy⟩=>by
  subst hk;simp only [iQ] at hd;have ihx:=fH h hl x n (by omega) ox;have ihy:=fH h hl y n (by omega) oy;show bc 2 2 _ _ _=_;let δ:DS:=[.val (tw (.op 0 x y)),.val (.ref i)]
  have R1:cJ (aX n) (aa (ae (aA aR (ay 0) (dC (.int (1)))) (ae (ag 1) ak))) δ T=some (.ok (.int (vl l x)),T):=cV (ds:=[tw x,.ref i]) (aq (cB (x1 rfl) (cB rfl rfl))) ihx;have R2:cJ (aX n) (aa (ae (aA aR (ay 0) (dC (.int (2)))) (ae (ag 1) ak))) δ T=some (.ok (.int (vl l y)),T):=cV (ds:=[tw y,.ref i]) (aq (cB (x2 rfl) (cB rfl rfl))) ihy;refine (aE rfl).trans ((congrArg cy (?_:_=some (.rt (.int (wr (vl l x+vl l y))),T))).trans rfl);refine (pF (a:=Str.ofString "+") (x0 rfl) KH.1).trans ?_;refine (cF (a:=Str.ofString "+") (x0 rfl) KH.2).trans ?_;refine eg ?_;show ku _ _ δ T=_;have A:Ik bv (cJ (aX n) (aa (ae (aA aR (ay 0) (dC (.int (1)))) (ae (ag 1) ak)))) (cJ (aX n) (aa (ae (aA aR (ay 0) (dC (.int (2)))) (ae (ag 1) ak)))) δ T=some (.ok (.int (vl l x+vl l y)),T):=by
   simp only [Ik,au,R1,R2,bZ,kz,Option.map_some]
  have:=aU A (g:=bW) (ds:=[]) rfl;simp only [ku,au,this,yr,kz,Option.map_some]
structure Wi (T:ai) (a b m:Nat) (tl ln:List Int) (l:dL):Prop where
 ha:T[a]?=some (.lst (tl.map .int))
 hb:T[b]?=some (.lst (ln.map .int))
 hm:T[m]?=some (.dK (gP l))
 ab:a≠b
 am:a≠m
 bm:b≠m
 rg:kW l
noncomputable def Ag (a b m:Nat) (T T':ai):Prop:=T'.length=T.length/\∀ i,i≠a->i≠b->i≠m->T'[i]?=T[i]?
theorem Ag.refl {a b m:Nat} {T:ai}:Ag a b m T T:=⟨rfl,λ _ _ _ _=>rfl⟩
theorem Ag.trans {a b m:Nat} {T T1 T2:ai} (h:Ag a b m T T1) (h':Ag a b m T1 T2):Ag a b m T T2:=⟨h'.1.trans h.1,λ i x y z=>(h'.2 i x y z).trans (h.2 i x y z)⟩
theorem bR {T:ai} {i:Nat} {o:Ob} (h:T[i]?=some o):i<T.length:=(oG h).1
section
variable {T:ai} {a b m:Nat} {tl ln:List Int} {l:dL}
theorem Wi.ln' (w:Wi T a b m tl ln l) (p:Int):Wi (T.set b (.lst (ln.map .int++[.int p]))) a b m tl (ln++[p]) l/\Ag a b m T (T.set b (.lst (ln.map .int++[.int p]))):=by
 have hb:=bR w.hb;refine ⟨⟨?_,?_,?_,w.ab,w.am,w.bm,w.rg⟩,by simp,λ i _ y _=>List.getElem?_set_ne (Ne.symm y)⟩
 . rw [List.getElem?_set_ne (Ne.symm w.ab)];exact w.ha
 . simp [hb]
 . rw [List.getElem?_set_ne w.bm];exact w.hm
theorem Wi.tl' (w:Wi T a b m tl ln l) (p:Int):Wi (T.set a (.lst (tl.map .int++[.int p]))) a b m (tl++[p]) ln l/\Ag a b m T (T.set a (.lst (tl.map .int++[.int p]))):=by
 have ha:=bR w.ha;refine ⟨⟨?_,?_,?_,w.ab,w.am,w.bm,w.rg⟩,by simp,λ i x _ _=>List.getElem?_set_ne (Ne.symm x)⟩
 . simp [ha]
 . rw [List.getElem?_set_ne w.ab];exact w.hb
 . rw [List.getElem?_set_ne w.am];exact w.hm
theorem Wi.nm' (w:Wi T a b m tl ln l) {l':dL} (hl:kW l'):Wi (T.set m (.dK (gP l'))) a b m tl ln l'/\Ag a b m T (T.set m (.dK (gP l'))):=by
 have hm:=bR w.hm;refine ⟨⟨?_,?_,?_,w.ab,w.am,w.bm,hl⟩,by simp,λ i _ _ z=>List.getElem?_set_ne (Ne.symm z)⟩
 . rw [List.getElem?_set_ne (Ne.symm w.am)];exact w.ha
 . rw [List.getElem?_set_ne (Ne.symm w.bm)];exact w.hb
 . simp [hm]
end
noncomputable def Jk:Rw->Prop
 | .set _ t=>iQ t<3/\jY t
 | .tell t=>iQ t<3/\jY t
 | _=>False
noncomputable def dI (v:W) (a b e m:Nat) (s4:Sl) (pile:List W) (here after:W) (s9 s10 s11:Sl):DS:=[.val v,.val (.ref a),.val (.ref b),.val (.ref e),s4,.val (.ref m),.own pile,.val here,.val after,s9,s10,s11]
theorem kw:decide (Str.ofString "set" = Str.ofString "tell")=false/\decide (Str.ofString "set" = Str.ofString "call")=false/\decide (Str.ofString "tell" = Str.ofString "set")=false/\decide (Str.ofString "tell" = Str.ofString "call")=false/\decide (Str.ofString "call" = Str.ofString "tell")=false/\decide (Str.ofString "call" = Str.ofString "set")=false/\decide (Str.ofString "return" = Str.ofString "tell")=false/\decide (Str.ofString "return" = Str.ofString "set")=false/\decide (Str.ofString "return" = Str.ofString "call")=false/\decide (Str.ofString "tell" = Str.ofString "return")=false/\decide (Str.ofString "set" = Str.ofString "return")=false/\decide (Str.ofString "call" = Str.ofString "return")=false:=by decide +kernel
section
variable {v:W} {a b e m:Nat} {s4 s10 s11:Sl} {pile:List W} {here:W} {T:ai} {tl ln:List Int} {l:dL}
noncomputable abbrev FU:DS->ai->SO:=bD (aa (aC ic (ay 8) (dC .none))) (bN (aa (ag 2)) (aa (aA aR (ay 9) (dC (.int (1)))))) (ax aI)
theorem ve (w:Wi T a b m tl ln l) (hl:ln.length<8000) {r:W} {p:Int} (hr:∃ x q,r=.tuple (x::.int p::q)):FU (dI v a b e m s4 pile here .none (.val r) s10 s11) T=some (.nx (dI v a b e m s4 pile here .none (.val r) s10 s11),T.set b (.lst (ln.map .int++[.int p]))):=by
 obtain ⟨x,q,rfl⟩:=hr;refine (fK (S1:=T) rfl).trans ?_;exact qj (l:=b) (d:=.int p) rfl w.hb (aq (x1 rfl)) w.hb (by simp;omega)
theorem BV (x:Sl):aC ic (ay 8) (dC .none) (dI v a b e m s4 pile here .none x s10 s11)=some true:=rfl
theorem Ea (w:Wi T a b m tl ln l) (hl:ln.length<8000) (hn:l.length<8000) {p:Int} {x:Str} {t:Tr} (hd:iQ t<3/\jY t):∃ T',aY (dI v a b e m s4 pile here .none (.val (bY p (.set x t))) s10 s11) T=some (.nx (dI v a b e m s4 pile here .none (.val (bY p (.set x t))) s10 s11),T')/\Wi T' a b m tl (ln++[p]) (cM l x (vl l t))/\Ag a b m T T':=by
 obtain ⟨w1,g1⟩:=w.ln' p;obtain ⟨w2,g2⟩:=w1.nm' (w1.rg.put x (kT w1.rg hd.2));let δ:=dI v a b e m s4 pile here .none (.val (bY p (.set x t))) s10 s11;have k:aA aR (ay 9) (dC (.int (0))) δ=some (.str "set"):=x0 rfl;refine ⟨_,?_,w2,g1.trans g2⟩;refine (ah (ve w hl ⟨_,_,rfl⟩)).trans ?_;refine (ah ((b9 (aq (dA (BV _) (tF k kw.1)))).trans rfl)).trans ?_;refine (ah (δ':=δ) ((fK (aq (dA (BV _) (tT k)))).trans ?_)).trans ((aH (aO (b:=false) (tF k kw.2.1) rfl)));have W:=fH w1.hm w1.rg t 3 hd.1 hd.2;refine (pN (k:=x) (l:=m) (kvs:=gP l) (d:=.int (vl l t)) (cV (ds:=[tw t,.ref m]) (aq (cB (x3 rfl) (cB rfl rfl))) W) rfl (aq (x2 rfl)) w1.hm (by simp [gP];omega)).trans ?_;rw [kK]
theorem Bi (w:Wi T a b m tl ln l) (hl:ln.length<8000) (ht:tl.length<8000) {p:Int} {t:Tr} (hd:iQ t<3/\jY t):∃ T',aY (dI v a b e m s4 pile here .none (.val (bY p (.tell t))) s10 s11) T=some (.nx (dI v a b e m s4 pile here .none (.val (bY p (.tell t))) s10 s11),T')/\Wi T' a b m (tl++[vl l t]) (ln++[p]) l/\Ag a b m T T':=by
 obtain ⟨w1,g1⟩:=w.ln' p;obtain ⟨w2,g2⟩:=w1.tl' (vl l t);let δ:=dI v a b e m s4 pile here .none (.val (bY p (.tell t))) s10 s11;have k:aA aR (ay 9) (dC (.int (0))) δ=some (.str "tell"):=x0 rfl;refine ⟨_,?_,w2,g1.trans g2⟩;refine (ah (ve w hl ⟨_,_,rfl⟩)).trans ?_;have W:=fH w1.hm w1.rg t 3 hd.1 hd.2;refine (ah (δ':=δ) ((fK (aq (dA (BV _) (tT k)))).trans (qj (l:=a) rfl w1.ha (cV (ds:=[tw t,.ref m]) (aq (cB (x2 rfl) (cB rfl rfl))) W) w1.ha (by simp;omega)))).trans ?_;refine (ah (δ':=δ) ((b9 (aq (dA (BV _) (tF k kw.2.2.1)))).trans rfl)).trans ?_;exact aH (aO (b:=false) (tF k kw.2.2.2.1) rfl)
theorem Aq (w:Wi T a b m tl ln l) (hl:ln.length<8000) {p:Int} {x f:Str} {es:List Tr}:∃ T',aY (dI v a b e m s4 pile here .none (.val (bY p (.call x f es))) s10 s11) T=some (.nx (dI v a b e m s4 pile here (bY p (.call x f es)) (.val (bY p (.call x f es))) s10 s11),T')/\Wi T' a b m tl (ln++[p]) l/\Ag a b m T T':=by
 obtain ⟨w1,g1⟩:=w.ln' p;let δ:=dI v a b e m s4 pile here .none (.val (bY p (.call x f es))) s10 s11;have k:aA aR (ay 9) (dC (.int (0))) δ=some (.str "call"):=x0 rfl;refine ⟨_,?_,w1,g1⟩;refine (ah (ve w hl ⟨_,_,rfl⟩)).trans ?_;refine (ah (δ':=δ) ((b9 (aq (dA (BV _) (tF k kw.2.2.2.2.1)))).trans rfl)).trans ?_;refine (ah (δ':=δ) ((b9 (aq (dA (BV _) (tF k kw.2.2.2.2.2.1)))).trans rfl)).trans ?_;exact aH (aO (b:=true) (tT k) (aG rfl rfl))
theorem Ey (w:Wi T a b m tl ln l) (hl:ln.length<8000) {p:Int} {t:Tr}:∃ T',aY (dI v a b e m s4 pile here .none (.val (bY p (.ret t))) s10 s11) T=some (.nx (dI v a b e m s4 pile here .none (.val (bY p (.ret t))) s10 s11),T')/\Wi T' a b m tl (ln++[p]) l/\Ag a b m T T':=by
 obtain ⟨w1,g1⟩:=w.ln' p;let δ:=dI v a b e m s4 pile here .none (.val (bY p (.ret t))) s10 s11;have k:aA aR (ay 9) (dC (.int (0))) δ=some (.str "return"):=x0 rfl;refine ⟨_,?_,w1,g1⟩;refine (ah (ve w hl ⟨_,_,rfl⟩)).trans ?_;refine (ah (δ':=δ) ((b9 (aq (dA (BV _) (tF k kw.2.2.2.2.2.2.1)))).trans rfl)).trans ?_;refine (ah (δ':=δ) ((b9 (aq (dA (BV _) (tF k kw.2.2.2.2.2.2.2.1)))).trans rfl)).trans ?_;exact aH (aO (b:=false) (tF k kw.2.2.2.2.2.2.2.2.1) rfl)
theorem AL {y:List W} {r:Rw} {p:Int} (hr:(∃ t,r=.tell t)∨∃ t,r=.ret t):aY (dI v a b e m s4 pile here (.tuple y) (.val (bY p r)) s10 s11) T=some (.nx (dI v a b e m s4 pile here (.tuple y) (.val (bY p r)) s10 s11),T):=by
 let δ:=dI v a b e m s4 pile here (.tuple y) (.val (bY p r)) s10 s11;have f:aC ic (ay 8) (dC .none) δ=some false:=rfl;have k:aC dJ (aA aR (ay 9) (dC (.int (0)))) (dC (.str "call")) δ=some false:=by
  rcases hr with ⟨t,rfl⟩ | ⟨t,rfl⟩
  . exact tF (x0 rfl) kw.2.2.2.1
  . exact tF (x0 rfl) kw.2.2.2.2.2.2.2.2.1
 refine (ah (δ':=δ) ((b9 (aq f)).trans rfl)).trans ?_;refine (ah (δ':=δ) ((b9 (aq (Cy f))).trans rfl)).trans ?_;refine (ah (δ':=δ) ((b9 (aq (Cy f))).trans rfl)).trans ?_;exact aH (aO (b:=false) k rfl)
end
theorem i9:∀ (a b:List Rw) (p:Int),bP p (a++b)=bP p a++bP (p+a.length) b
 | [],b,p=>by simp [bP]
 | r::a,b,p=>by
  show bY p r::bP (p+1) (a++b)=bY p r::(bP (p+1) a++_);rw [i9 a b (p+1)];simp only [List.length_cons];congr 3;omega
section
variable {v:W} {a b e m:Nat} {s4 s10 s11:Sl} {pile:List W} {here:W}
theorem uB:∀ (pre:List Rw) (p:Int) (T:ai) (tl ln:List Int) (l:dL) (s9:Sl),Wi T a b m tl ln l->(∀ r∈pre,Jk r)->tl.length+pre.length<7000->ln.length+pre.length<7000->l.length+pre.length<7000->
 ∃ T' s9',(∀ fL,bE (aj 9) aY (bP p pre++fL) (dI v a b e m s4 pile here .none s9 s10 s11) T=bE (aj 9) aY fL (dI v a b e m s4 pile here .none s9' s10 s11) T')/\Wi T' a b m (tl++jO l pre) (ln++dY p pre) (eW l pre)/\Ag a b m T T'
 | [],p,T,tl,ln,l,s9,w,_,_,_,_=>⟨T,s9,λ _=>rfl,by simpa [jO,dY,eW] using w,.refl⟩
 | r::pre,p,T,tl,ln,l,s9,w,hr,b1,b2,b3=>by
  simp only [List.length_cons] at b1 b2 b3;have hr0:=hr r (.head _);cases r with
  | set x t=>
   obtain ⟨T1,e1,w1,g1⟩:=Ea (v:=v) (e:=e) (s4:=s4) (s10:=s10) (s11:=s11) (pile:=pile) (here:=here) w (p:=p) (x:=x) (by omega) (by omega) hr0;have pn:=ip l x (vl l t);obtain ⟨T2,s2,e2,w2,g2⟩:=uB pre (p+1) T1 tl (ln++[p]) (cM l x (vl l t)) (.val (bY p (.set x t))) w1 (λ y hy=>hr y (.tail _ hy)) (by omega) (by simp;omega) (by omega);exact ⟨T2,s2,λ fL=>(bI rfl e1).trans (e2 fL),by simpa [jO,dY,eW] using w2,g1.trans g2⟩
  | tell t=>
   obtain ⟨T1,e1,w1,g1⟩:=Bi (v:=v) (e:=e) (s4:=s4) (s10:=s10) (s11:=s11) (pile:=pile) (here:=here) w (p:=p) (by omega) (by omega) hr0;obtain ⟨T2,s2,e2,w2,g2⟩:=uB pre (p+1) T1 (tl++[vl l t]) (ln++[p]) l (.val (bY p (.tell t))) w1 (λ y hy=>hr y (.tail _ hy)) (by simp;omega) (by simp;omega) (by omega);exact ⟨T2,s2,λ fL=>(bI rfl e1).trans (e2 fL),by simpa [jO,dY,eW] using w2,g1.trans g2⟩
  | call _ _ _=>exact hr0.elim
  | ret _=>exact hr0.elim
theorem rc {y:List W} {T:ai}:∀ (rs:List Rw) (p:Int) (s9:Sl),(∀ r∈rs,(∃ t,r=.tell t)∨∃ t,r=.ret t)->∃ s9',bE (aj 9) aY (bP p rs) (dI v a b e m s4 pile here (.tuple y) s9 s10 s11) T=some (.nx (dI v a b e m s4 pile here (.tuple y) s9' s10 s11),T)
 | [],p,s9,_=>⟨s9,rfl⟩
 | r::rs,p,s9,h=>by
  obtain ⟨s2,e2⟩:=rc rs (p+1) (.val (bY p r)) λ x hx=>h x (.tail _ hx);exact ⟨s2,(bI rfl (AL (h r (.head _)))).trans e2⟩
structure D3 (d:Df):Prop where
 pre:∀ r∈d.pre,Jk r
 cl:∀ x,d.cl=some x->∀ y∈x.2,iQ y<3/\jY y
 po:∀ t∈d.po,iQ t<3/\jY t
 rt:∀ t,d.rt=some t->iQ t<3/\jY t
 ne:d.pre≠[]
noncomputable def lH (d:Df):W:=match d.cl with
 | none=>.none
 | some y=>bY d.lc (.call zzz y.1 y.2)
noncomputable def mI (d:Df):List Int:=match d.cl with
 | none=>dY (d.ln+1) d.pre++o8 d
 | some _=>dY (d.ln+1) d.pre++[d.lc]
theorem Ax {d:Df} (ok:zE d) (o3:D3 d) {T:ai} {tl ln:List Int} {l:dL} (w:Wi T a b m tl ln l) (b1:tl.length<6000) (b2:ln.length<6000) (b3:l.length<6000) {s9:Sl}:
 ∃ T' s9',bE (aj 9) aY (bP (d.ln+1) d.rows) (dI v a b e m s4 pile here .none s9 s10 s11) T=some (.nx (dI v a b e m s4 pile here (lH d) s9' s10 s11),T')/\Wi T' a b m (tl++jO l d.pre) (ln++mI d) (eW l d.pre)/\Ag a b m T T':=by
 have pl:=ok.pl;obtain ⟨T1,s1,e1,w1,g1⟩:=uB (v:=v) (e:=e) (s4:=s4) (s10:=s10) (s11:=s11) (pile:=pile) (here:=here) d.pre (d.ln+1) T tl ln l s9 w o3.pre (by omega) (by omega) (by omega);unfold Df.rows;rw [i9,e1,i9];unfold lH mI;cases hc:d.cl with
 | none=>
  have hpe:d.pe=d.ln+1+d.pre.length:=by simp [Df.pe,hc,jS,ok.no hc]
  simp only [jS,bP,List.nil_append,gO,ok.no hc,List.map_nil];simp only [List.length_nil];unfold o8;cases hr:d.rt with
  | none=>exact ⟨T1,s1,rfl,by simpa using w1,g1⟩
  | some t=>
   obtain ⟨T2,e2,w2,g2⟩:=Ey (v:=v) (e:=e) (s4:=s4) (s10:=s10) (s11:=s11) (pile:=pile) (here:=here) w1 (by simp [bB];omega) (p:=d.pe) (t:=t);refine ⟨T2,.val (bY d.pe (.ret t)),?_,by simpa using w2,g1.trans g2⟩;have ep:d.ln+1+(d.pre.length:Int)+((0:Nat):Int)=d.pe:=by rw [hpe];omega
   rw [ep];exact (bI rfl e2).trans rfl
 | some y=>
  obtain ⟨T2,e2,w2,g2⟩:=Aq (v:=v) (e:=e) (s4:=s4) (s10:=s10) (s11:=s11) (pile:=pile) (here:=here) w1 (by simp [bB];omega) (p:=d.lc) (x:=zzz) (f:=y.1) (es:=y.2);obtain ⟨s3,e3⟩:=rc (v:=v) (a:=a) (b:=b) (e:=e) (m:=m) (s4:=s4) (s10:=s10) (s11:=s11) (pile:=pile) (here:=here) (T:=T2) (y:=[sW "call", .int d.lc,.str zzz,.str y.1,.list (y.2.map tw)]) (gO d++mP d.rt) (d.ln+1+d.pre.length+(jS (some y)).length) (.val (bY d.lc (.call zzz y.1 y.2))) λ r hr=>by
   rcases List.mem_append.mp hr with h | h
   . obtain ⟨t,_,rfl⟩:=List.mem_map.mp h;exact .inl ⟨t,rfl⟩
   . unfold mP at h;split at h
     . cases h
     . exact .inr ⟨_,List.mem_singleton.mp h⟩
  refine ⟨T2,s3,?_,by simpa using w2,g1.trans g2⟩;exact (bI rfl e2).trans e3
theorem pW {T:ai} {l:dL} (hm:T[m]?=some (.dK (gP l))) (hl:kW l) {aft:W} {s9:Sl}:∀ (ps:List Str) (es:List Tr) (l0:dL) (s4 s11:Sl),(∀ y∈es,iQ y<3/\jY y)->l0.length+ps.length<7000->
 ∃ s4' s11',bE (mi 2 (d8 (aj 11) (d8 (aj 4) mf))) iS (lO (ps.map .str) (es.map tw)) (dI v a b e m s4 pile here aft s9 (.val (.ref T.length)) s11) (T++[.dK (gP l0)])=some (.nx (dI v a b e m s4' pile here aft s9 (.val (.ref T.length)) s11'),T++[.dK (gP (ke l0 ps (es.map (vl l))))])
 | [],es,l0,s4,s11,_,_=>⟨s4,s11,by simp [lO];rfl⟩
 | x::ps,[],l0,s4,s11,_,_=>⟨s4,s11,by simp [lO];rfl⟩
 | x::ps,t::es,l0,s4,s11,h,hb=>by
  simp only [List.length_cons] at hb;have pn:=ip l0 x (vl l t);obtain ⟨s2,s3,e2⟩:=pW hm hl ps es (cM l0 x (vl l t)) (.val (tw t)) (.val (.str x)) (λ y hy=>h y (.tail _ hy)) (by omega);refine ⟨s2,s3,?_⟩;have z:lO ((x::ps).map W.str) ((t::es).map tw)=.tuple [.str x,tw t]::lO (ps.map .str) (es.map tw):=rfl;rw [z];refine (bI (δ2:=dI v a b e m (.val (tw t)) pile here aft s9 (.val (.ref T.length)) (.val (.str x))) (δ':=dI v a b e m (.val (tw t)) pile here aft s9 (.val (.ref T.length)) (.val (.str x))) (S':=T++[.dK (gP (cM l0 x (vl l t)))]) rfl ?_).trans e2;have hm':(T++[Ob.dK (gP l0)])[m]?=some (.dK (gP l)):=by rw [List.getElem?_append_left (bR hm)];exact hm
  have W:=fH hm' hl t 3 (h t (.head _)).1 (h t (.head _)).2;refine (pN (k:=x) (l:=T.length) (kvs:=gP l0) (d:=.int (vl l t)) (cV (ds:=[tw t,.ref m]) (aq (cB rfl (cB rfl rfl))) W) rfl rfl (by simp) (by simp [gP];omega)).trans ?_;rw [kK];simp
end
structure Pl where
 x:Str
 d:Df
 m:Nat
 l:dL
noncomputable def jN (p:Pl):W:=.tuple [dW (p.x,p.d),.ref p.m,lH p.d]
noncomputable def kx (D:Str->Option Df):Nat->Str->Df->dL->Nat->Nat->List Pl
 | 0,x,d,l,m,_=>[⟨x,d,m,eW l d.pre⟩]
 | n+1,x,d,l,m,nx=>⟨x,d,m,eW l d.pre⟩::(match d.cl with
  | none=>[]
  | some y=>match D y.1 with
   | none=>[]
   | some d'=>kx D n y.1 d' (uc d d' l y.2) nx (nx+1))
noncomputable def vj (D:Str->Option Df):Nat->Df->dL->List Int
 | 0,d,l=>jO l d.pre
 | n+1,d,l=>jO l d.pre++(match d.cl with
  | none=>[]
  | some y=>match D y.1 with
   | none=>[]
   | some d'=>vj D n d' (uc d d' l y.2))
noncomputable def ue (D:Str->Option Df):Nat->Df->dL->List Int
 | 0,d,_=>mI d
 | n+1,d,l=>mI d++(match d.cl with
  | none=>[]
  | some y=>match D y.1 with
   | none=>[]
   | some d'=>ue D n d' (uc d d' l y.2))
theorem uE {f f' g:DS->ai->SO} {δ δ':DS} {S S':ai} (h:f δ S=f' δ' S'):av f g δ S=av f' g δ' S':=by unfold av;rw [h]
theorem Gf {t:DS->ai->SM Bool} {g:DS->ai->SO} {δ:DS} {S S1 S2:ai} {k:Nat} {d:W} (h1:t δ S=some (.ok true,S1)) (h2:g δ S1=some (.rt d,S2)):br t g (k+1) δ S=some (.rt d,S2):=by
 show jX (t δ S) _=_;rw [h1];simp only [jX,if_true,h2]
noncomputable abbrev mh:DS->ai->SM Bool:=aa (aC rX (fB bT (ay 6)) (dC (.int (6))))
section
variable {v:W} {a b e m:Nat} {s4 s9 s10 s11:Sl} {pile:List W} {aft:W} {T:ai} {tl ln:List Int} {l:dL}
theorem tQ (here:W):mh (dI v a b e m s4 pile here aft s9 s10 s11) T=some (.ok (decide ((pile.length:Int)<6)),T):=aq rfl
theorem Bn {here x:W} {f:DS->Option W} (hf:f (dI v a b e m s4 pile here aft s9 s10 s11)=some x) (hl:pile.length<100):ax (aV 6 f) (dI v a b e m s4 pile here aft s9 s10 s11) T=some (.nx (dI v a b e m s4 (pile++[x]) here aft s9 s10 s11),T):=by
 refine aH ?_;have z:pile.length<sizeLine:=Nat.lt_of_lt_of_le hl (sz 100 (by decide));have o:ny 6 (dI v a b e m s4 pile here aft s9 s10 s11)=some pile:=rfl;simp only [aV,o,hf,Option.bind_some,if_pos z];rfl
theorem yX {x:Str} {d:Df} (ok:zE d) (o3:D3 d) (w:Wi T a b m tl ln l) (b1:tl.length<6000) (b2:ln.length<6000) (b3:l.length<6000) (hp:pile.length<100):
 ∃ T' s9',(∀ {k:DS->ai->SO},av (ax (aW (dC .none) (aj 8))) (av (jj (aa (cK (aA aR (ay 7) (dC (.int (2)))))) (aj 9) aY) (av (ax (aV 6 (bx (ae (ag 7) (ae (ag 5) (ae (ag 8) ak)))))) k)) (dI v a b e m s4 pile (dW (x,d)) aft s9 s10 s11) T=k (dI v a b e m s4 (pile++[jN ⟨x,d,m,eW l d.pre⟩]) (dW (x,d)) (lH d) s9' s10 s11) T')/\Wi T' a b m (tl++jO l d.pre) (ln++mI d) (eW l d.pre)/\Ag a b m T T':=by
 obtain ⟨T',s9',e1,w1,g1⟩:=Ax (v:=v) (e:=e) (s4:=s4) (s10:=s10) (s11:=s11) (pile:=pile) (here:=dW (x,d)) ok o3 w b1 b2 b3 (s9:=s9);refine ⟨T',s9',λ {k}=>?_,w1,g1⟩;refine (ah (δ':=dI v a b e m s4 pile (dW (x,d)) .none s9 s10 s11) (aH (aG rfl rfl))).trans ?_;have sq:aa (cK (aA aR (ay 7) (dC (.int (2))))) (dI v a b e m s4 pile (dW (x,d)) .none s9 s10 s11) T=some (.ok (bP (d.ln+1) d.rows),T):=aq (by simp only [cK,x2 (f:=ay 7) (δ:=dI v a b e m s4 pile (dW (x,d)) .none s9 s10 s11) rfl,Option.bind_some];rfl);refine (ah ((fW sq).trans e1)).trans ?_;exact ah (Bn (Hl rfl rfl rfl) hp)
theorem D1 {D:Str->Option Df} {kvs:List (bh×W)} (hD:∀ x d,D x=some d->zE d/\D3 d/\bC kvs (.inr x)=some (dW (x,d))) (hC:∀ x d y,D x=some d->d.cl=some y->∃ d',D y.1=some d'):
 ∀ (n:Nat) (x:Str) (d:Df) (l:dL) (pile:List W) (m:Nat) (T:ai) (tl ln:List Int) (aft:W) (s4 s9 s10 s11:Sl) (F:Nat),D x=some d->pile.length+n=5->Wi T a b m tl ln l->T[e]?=some (.dK kvs)->e≠a->e≠b->e≠m->l.length<=20->tl.length+100*(n+1)<5000->ln.length+100*(n+1)<5000->n+2<=F->
  ∃ T',av (br mh b5 F) (ax (ir 6 (bw (ag 6)))) (dI v a b e m s4 pile (dW (x,d)) aft s9 s10 s11) T=some (.rt (.list (pile++(kx D n x d l m T.length).map jN)),T')/\T'[a]?=some (.lst ((tl++vj D n d l).map .int))/\T'[b]?=some (.lst ((ln++ue D n d l).map .int))/\(∀ p∈kx D n x d l m T.length,T'[p.m]?=some (.dK (gP p.l))/\kW p.l/\p.l.length<=40/\(p.m=m∨T.length<=p.m)/\D p.x=some p.d)/\((kx D n x d l m T.length).map Pl.m).Nodup/\(∀ i,i<T.length->i≠a->i≠b->i≠m->T'[i]?=T[i]?):=by
 intro n;induction n with
 | zero=>
  intro x d l pile m T tl ln aft s4 s9 s10 s11 F hx hp w he ea eb em hl b1 b2 hF;obtain ⟨ok,o3,dv⟩:=hD x d hx;have pl:=ok.pl;have sl:=hJ d.pre l;obtain ⟨F,rfl⟩:∃ j,F=j+2:=⟨F-2,by omega⟩
  obtain ⟨T1,s1,e1,w1,g1⟩:=yX (v:=v) (e:=e) (s4:=s4) (s9:=s9) (s10:=s10) (s11:=s11) (aft:=aft) (x:=x) (pile:=pile) ok o3 w (by omega) (by omega) (by omega) (by omega);have tst:=tQ (v:=v) (a:=a) (b:=b) (e:=e) (m:=m) (s4:=s4) (s9:=s9) (s10:=s10) (s11:=s11) (pile:=pile) (aft:=aft) (T:=T) (dW (x,d));rw [decide_eq_true (by omega)] at tst;have np:(kx D 0 x d l m T.length).map jN=[jN ⟨x,d,m,eW l d.pre⟩]:=rfl;have fr:∀ {T'':ai},(∀ i,i<T1.length->T''[i]?=T1[i]?)->T''[a]?=some (.lst ((tl++vj D 0 d l).map .int))/\T''[b]?=some (.lst ((ln++ue D 0 d l).map .int))/\(∀ p∈kx D 0 x d l m T.length,T''[p.m]?=some (.dK (gP p.l))/\kW p.l/\p.l.length<=40/\(p.m=m∨T.length<=p.m)/\D p.x=some p.d)/\((kx D 0 x d l m T.length).map Pl.m).Nodup/\(∀ i,i<T.length->i≠a->i≠b->i≠m->T''[i]?=T[i]?):=λ {T''} h=>by
   refine ⟨(h a (bR w1.ha)).trans w1.ha,(h b (bR w1.hb)).trans w1.hb,λ p hp=>?_,by simp [kx],λ i hi x y z=>(h i (by rw [g1.1];exact hi)).trans (g1.2 i x y z)⟩;rw [List.mem_singleton.mp hp];exact ⟨(h m (bR w1.hm)).trans w1.hm,w1.rg,by show (eW l d.pre).length<=40;omega,.inl rfl,hx⟩
  cases hc:d.cl with
  | none=>
   have cw:lH d=.none:=by simp [lH,hc]
   refine ⟨T1,?_,fr λ _ _=>rfl⟩;rw [np];refine fg (Gf tst (e1.trans ?_));rw [cw];exact fg (ik (aO (b:=true) rfl rfl))
  | some y=>
   obtain ⟨d',hd'⟩:=hC x d y hx hc;obtain ⟨ok',_,dv'⟩:=hD _ _ hd';have pl':=ok'.ps;have cw:lH d=bY d.lc (.call zzz y.1 y.2):=by simp [lH,hc]
   obtain ⟨s2,s3,e2⟩:=pW (v:=v) (a:=a) (b:=b) (e:=e) (pile:=pile++[jN ⟨x,d,m,eW l d.pre⟩]) (here:=dW (y.1,d')) (aft:=lH d) (s9:=s1) w1.hm w1.rg d'.ps y.2 [] s4 s11 (o3.cl y hc) (by simp;omega);have he1:T1[e]?=some (.dK kvs):=(g1.2 e ea eb em).trans he;have B:b5 (dI v a b e m s4 pile (dW (x,d)) aft s9 s10 s11) T=some (.nx (dI v a b e T1.length s2 (pile++[jN ⟨x,d,m,eW l d.pre⟩]) (dW (y.1,d')) (lH d) s1 (.val (.ref T1.length)) s3),T1++[.dK (gP (ke [] d'.ps (y.2.map (vl (eW l d.pre)))))]):=by
    refine e1.trans ?_;rw [cw];refine (ah (aH (aO (b:=false) rfl rfl))).trans ?_;refine (ah (δ':=dI v a b e m s4 (pile++[jN ⟨x,d,m,eW l d.pre⟩]) (dW (y.1,d')) (bY d.lc (.call zzz y.1 y.2)) s1 s10 s11) (bb (pQ (l:=e) rfl (aq (x3 rfl)) he1 dv') rfl)).trans ?_;refine (ah (δ':=dI v a b e m s4 (pile++[jN ⟨x,d,m,eW l d.pre⟩]) (dW (y.1,d')) (bY d.lc (.call zzz y.1 y.2)) s1 (.val (.ref T1.length)) s11) (bb uj rfl)).trans ?_;rw [cw] at e2;refine (ah ((fW (ds:=lO (d'.ps.map .str) (y.2.map tw)) ?_).trans e2)).trans ?_
    . refine aq ?_;have:ae (aA aR (ay 7) (dC (.int (1)))) (ae (aA aR (ay 8) (dC (.int (4)))) ak) (dI v a b e m s4 (pile++[jN ⟨x,d,m,eW l d.pre⟩]) (dW (y.1,d')) (bY d.lc (.call zzz y.1 y.2)) s1 (.val (.ref T1.length)) s11)=some [.list (d'.ps.map .str),.list (y.2.map tw)]:=cB (x1 rfl) (cB (x4 rfl) rfl);simp only [xw,this,Option.bind_some]
    . exact aH (aG rfl rfl)
   refine ⟨T1++[.dK (gP (ke [] d'.ps (y.2.map (vl (eW l d.pre)))))],?_,fr λ i hi=>List.getElem?_append_left hi⟩;rw [np];refine (uE (wB tst B)).trans ?_;have tst2:=tQ (v:=v) (a:=a) (b:=b) (e:=e) (m:=T1.length) (s4:=s2) (s9:=s1) (s10:=.val (.ref T1.length)) (s11:=s3) (pile:=pile++[jN ⟨x,d,m,eW l d.pre⟩]) (aft:=lH d) (T:=T1++[.dK (gP (ke [] d'.ps (y.2.map (vl (eW l d.pre)))))]) (dW (y.1,d'));rw [decide_eq_false (by simp;omega)] at tst2;exact (ah (BF tst2)).trans rfl
 | succ n ih=>
  intro x d l pile m T tl ln aft s4 s9 s10 s11 F hx hp w he ea eb em hl b1 b2 hF;obtain ⟨ok,o3,dv⟩:=hD x d hx;have pl:=ok.pl;have sl:=hJ d.pre l;have st:=gu d.pre l;have hml:m<T.length:=bR w.hm;obtain ⟨F,rfl⟩:∃ j,F=j+1:=⟨F-1,by omega⟩
  obtain ⟨T1,s1,e1,w1,g1⟩:=yX (v:=v) (e:=e) (s4:=s4) (s9:=s9) (s10:=s10) (s11:=s11) (aft:=aft) (x:=x) (pile:=pile) ok o3 w (by omega) (by omega) (by omega) (by omega);have tst:=tQ (v:=v) (a:=a) (b:=b) (e:=e) (m:=m) (s4:=s4) (s9:=s9) (s10:=s10) (s11:=s11) (pile:=pile) (aft:=aft) (T:=T) (dW (x,d));rw [decide_eq_true (by omega)] at tst;cases hc:d.cl with
  | none=>
   have cw:lH d=.none:=by simp [lH,hc]
   refine ⟨T1,?_,?_,?_,?_,?_,λ i hi x y z=>g1.2 i x y z⟩
   . simp only [kx,hc,List.map_cons,List.map_nil];refine fg (Gf tst (e1.trans ?_));rw [cw];exact fg (ik (aO (b:=true) rfl rfl))
   . simp only [vj,hc,List.append_nil];exact w1.ha
   . simp only [ue,hc,List.append_nil];exact w1.hb
   . intro p hp;simp only [kx,hc,List.mem_singleton] at hp;subst hp;exact ⟨w1.hm,w1.rg,by show (eW l d.pre).length<=40;omega,.inl rfl,hx⟩
   . simp [kx,hc]
  | some y=>
   obtain ⟨d',hd'⟩:=hC x d y hx hc;obtain ⟨ok',_,dv'⟩:=hD _ _ hd';have pl':=ok'.ps;have cw:lH d=bY d.lc (.call zzz y.1 y.2):=by simp [lH,hc]
   obtain ⟨s2,s3,e2⟩:=pW (v:=v) (a:=a) (b:=b) (e:=e) (pile:=pile++[jN ⟨x,d,m,eW l d.pre⟩]) (here:=dW (y.1,d')) (aft:=lH d) (s9:=s1) w1.hm w1.rg d'.ps y.2 [] s4 s11 (o3.cl y hc) (by simp;omega);have he1:T1[e]?=some (.dK kvs):=(g1.2 e ea eb em).trans he;let l2:=uc d d' l y.2;let T2:ai:=T1++[.dK (gP l2)];have B:b5 (dI v a b e m s4 pile (dW (x,d)) aft s9 s10 s11) T=some (.nx (dI v a b e T1.length s2 (pile++[jN ⟨x,d,m,eW l d.pre⟩]) (dW (y.1,d')) (lH d) s1 (.val (.ref T1.length)) s3),T2):=by
    refine e1.trans ?_;rw [cw];refine (ah (aH (aO (b:=false) rfl rfl))).trans ?_;refine (ah (δ':=dI v a b e m s4 (pile++[jN ⟨x,d,m,eW l d.pre⟩]) (dW (y.1,d')) (bY d.lc (.call zzz y.1 y.2)) s1 s10 s11) (bb (pQ (l:=e) rfl (aq (x3 rfl)) he1 dv') rfl)).trans ?_;refine (ah (δ':=dI v a b e m s4 (pile++[jN ⟨x,d,m,eW l d.pre⟩]) (dW (y.1,d')) (bY d.lc (.call zzz y.1 y.2)) s1 (.val (.ref T1.length)) s11) (bb uj rfl)).trans ?_;rw [cw] at e2;refine (ah ((fW (ds:=lO (d'.ps.map .str) (y.2.map tw)) ?_).trans e2)).trans ?_
    . refine aq ?_;have:ae (aA aR (ay 7) (dC (.int (1)))) (ae (aA aR (ay 8) (dC (.int (4)))) ak) (dI v a b e m s4 (pile++[jN ⟨x,d,m,eW l d.pre⟩]) (dW (y.1,d')) (bY d.lc (.call zzz y.1 y.2)) s1 (.val (.ref T1.length)) s11)=some [.list (d'.ps.map .str),.list (y.2.map tw)]:=cB (x1 rfl) (cB (x4 rfl) rfl);simp only [xw,this,Option.bind_some]
    . exact aH (aG rfl rfl)
   have la:=bR w1.ha;have lb:=bR w1.hb;have lm:=bR w1.hm;have le:=bR he1;have l1:(mI d).length<=21:=by
    unfold mI o8;split
    . split <;> simp [bB] <;> omega
    . simp [bB];omega
   have r2:kW l2:=mT (λ _ h=>absurd h List.not_mem_nil) λ z hz=>by
    obtain ⟨t,ht,rfl⟩:=List.mem_map.mp hz;exact kT w1.rg (o3.cl y hc t ht).2
   have n2:l2.length<=20:=by
    have z1:=ot (xs:=d'.ps) (vs:=y.2.map (vl (eW l d.pre))) (l:=[]);simp only [List.length_nil] at z1;show (ke [] d'.ps _).length<=20;omega
   have w2:Wi T2 a b T1.length (tl++jO l d.pre) (ln++mI d) l2:=⟨by rw [List.getElem?_append_left la];exact w1.ha,by rw [List.getElem?_append_left lb];exact w1.hb,by simp [T2],w.ab,by omega,by omega,r2⟩
   obtain ⟨T3,E,k1,k2,k3,k4,k5⟩:=ih y.1 d' l2 (pile++[jN ⟨x,d,m,eW l d.pre⟩]) T1.length T2 _ _ (lH d) s2 s1 (.val (.ref T1.length)) s3 F hd' (by simp;omega) w2 (by rw [List.getElem?_append_left le];exact he1) ea eb (by omega) n2 (by simp;omega) (by simp;omega) (by omega);have tl1:T2.length=T.length+1:=by simp [T2,g1.1]
   rw [tl1] at E k3 k4;have e1l:T1.length=T.length:=g1.1;rw [e1l] at E k3 k4;refine ⟨T3,?_,?_,?_,?_,?_,?_⟩
   . refine (uE (wB tst B)).trans ?_;rw [e1l];refine E.trans ?_;simp [kx,hc,hd',l2]
   . rw [k1];simp [vj,hc,hd',l2]
   . rw [k2];simp [ue,hc,hd',l2]
   . intro p hp;simp only [kx,hc,hd',List.mem_cons] at hp;rcases hp with rfl | hp
     . refine ⟨?_,w1.rg,by show (eW l d.pre).length<=40;omega,.inl rfl,hx⟩;show T3[m]?=_;rw [k5 m (by omega) (Ne.symm w.am) (Ne.symm w.bm) (by omega),List.getElem?_append_left lm];exact w1.hm
     . obtain ⟨q1,q2,q3,q4,q5⟩:=k3 p hp;exact ⟨q1,q2,q3,.inr (by rcases q4 with h | h <;> omega),q5⟩
   . simp only [kx,hc,hd',List.map_cons,List.nodup_cons];refine ⟨λ hz=>?_,k4⟩;obtain ⟨p,hp,hq⟩:=List.mem_map.mp hz;obtain ⟨_,_,_,q4,_⟩:=k3 p hp;have hq':p.m=m:=hq;rcases q4 with h | h <;> omega
   . intro i hi x y z;rw [k5 i (by omega) x y (by omega),List.getElem?_append_left (by omega)];exact g1.2 i x y z
end
theorem sm {T:ai} {v:W} {a b:Nat} {r:List Sl}:∀ (P:Pg) (kvs:List (bh×W)) (s:Sl),kvs.length+P.length<1000->∃ s',bE (aj 4) iX (P.map dW) (.val v::.val (.ref a)::.val (.ref b)::.val (.ref T.length)::s::r) (T++[.dK kvs])=some (.nx (.val v::.val (.ref a)::.val (.ref b)::.val (.ref T.length)::s'::r),T++[.dK (tq P kvs)])
 | [],kvs,s,_=>⟨s,rfl⟩
 | d::P,kvs,s,h=>by
  simp only [List.length_cons] at h;have h2:=lL kvs (.inr d.1) (dW d);obtain ⟨s',ih⟩:=sm (T:=T) (v:=v) (a:=a) (b:=b) (r:=r) P (cA kvs (.inr d.1) (dW d)) (.val (dW d)) (by omega);refine ⟨s',(bI (δ2:=.val v::.val (.ref a)::.val (.ref b)::.val (.ref T.length)::.val (dW d)::r) (S':=T++[.dK (cA kvs (.inr d.1) (dW d))]) rfl ?_).trans ih⟩;refine (pN (k:=d.1) (l:=T.length) (kvs:=kvs) (d:=dW d) rfl rfl (aq (x0 rfl)) (by simp) (by omega)).trans ?_;simp
theorem Dh {T:ai} {P:Pg} {dm:Df} (hP:ID P dm) (h3:∀ x d,lK P x=some d->D3 d) {a b:Nat} (ha:T[a]?=some (.lst [])) (hb:T[b]?=some (.lst [])) (ab:a≠b):
 ∃ T',fP [.list (P.map dW),.ref a,.ref b] T=some (.ok (.list ((kx (lK P) 5 (Str.ofString "main") dm [] (T.length+1) (T.length+2)).map jN)),T')/\T'[a]?=some (.lst ((vj (lK P) 5 dm []).map .int))/\T'[b]?=some (.lst ((ue (lK P) 5 dm []).map .int))/\(∀ p∈kx (lK P) 5 (Str.ofString "main") dm [] (T.length+1) (T.length+2),T'[p.m]?=some (.dK (gP p.l))/\kW p.l/\p.l.length<=40/\T.length<=p.m/\lK P p.x=some p.d)/\((kx (lK P) 5 (Str.ofString "main") dm [] (T.length+1) (T.length+2)).map Pl.m).Nodup/\(∀ i,i<T.length->i≠a->i≠b->T'[i]?=T[i]?):=by
 have la:=bR ha;have lb:=bR hb;have hlen:=hP.len;let v:W:=.list (P.map dW);obtain ⟨s,e1⟩:=sm (T:=T) (v:=v) (a:=a) (b:=b) (r:=[.no,.no,.no,.no,.no,.no,.no]) P [] .no (by simp;omega);let T1:ai:=T++[.dK (tq P [])];let T2:ai:=T1++[.dK []];have t1:T1.length=T.length+1:=by simp [T1]
 have t2:T2.length=T.length+2:=by simp [T2,t1]
 have vm:bC (tq P []) (.inr (Str.ofString "main"))=some (dW (Str.ofString "main", dm)):=by rw [qm,hP.main];rfl
 have g:∀ {i:Nat} {o:Ob},T[i]?=some o->T2[i]?=some o:=λ {i o} h=>by
  have:=bR h;rw [List.getElem?_append_left (by omega),List.getElem?_append_left this];exact h
 have he:T2[T.length]?=some (.dK (tq P [])):=by rw [List.getElem?_append_left (by omega)];simp [T1]
 have w:Wi T2 a b T1.length [] [] []:=⟨g ha,g hb,by simp [T2];rfl,ab,by omega,by omega,λ _ h=>absurd h List.not_mem_nil⟩
 obtain ⟨T',E,k1,k2,k3,k4,k5⟩:=D1 (v:=v) (a:=a) (b:=b) (e:=T.length) (D:=lK P) (kvs:=tq P []) (λ x d hx=>⟨hP.ok x d hx,h3 x d hx,by rw [qm,hx];rfl⟩) hP.cl 5 (Str.ofString "main") dm [] [] T1.length T2 [] [] .none s .no .no .no 1000000 hP.main rfl w he (by omega) (by omega) (by omega) (by simp) (by simp) (by simp) (by omega);rw [t1,t2] at E k3 k4;refine ⟨T',?_,k1,k2,λ p hp=>?_,k4,λ i hi x y=>?_⟩
 . refine (aE rfl).trans ((congrArg cy (?_:_=some (.rt _,T'))).trans rfl);refine (ah (δ':=[.val v,.val (.ref a),.val (.ref b),.val (.ref T.length),.no,.no,.no,.no,.no,.no,.no,.no]) (bb uj rfl)).trans ?_;refine (ah ((fW (ds:=P.map dW) rfl).trans e1)).trans ?_;refine (ah (δ':=[.val v,.val (.ref a),.val (.ref b),.val (.ref T.length),s,.val (.ref T1.length),.no,.no,.no,.no,.no,.no]) (S':=T2) (bb uj rfl)).trans ?_;refine (ah (δ':=[.val v,.val (.ref a),.val (.ref b),.val (.ref T.length),s,.val (.ref T1.length),.own [],.no,.no,.no,.no,.no]) (aH ?_)).trans ?_
   . have z:=sz 0 (by decide);simp only [gK,eU,ak,Option.bind_some,List.length_nil,if_pos z,Option.map_some];rfl
   refine (ah (δ':=[.val v,.val (.ref a),.val (.ref b),.val (.ref T.length),s,.val (.ref T1.length),.own [],.val (dW (Str.ofString "main", dm)),.no,.no,.no,.no]) (bb (pQ (l:=T.length) rfl rfl he vm) rfl)).trans ?_;let δn:DS:=[.val v,.val (.ref a),.val (.ref b),.val (.ref T.length),s,.val (.ref T1.length),.own [],.val (dW (Str.ofString "main", dm)),.no,.no,.no,.no]
   let δv:DS:=dI v a b T.length T1.length s [] (dW (Str.ofString "main", dm)) .none .no .no .no;have hb:b5 δn T2=b5 δv T2:=(ah (δ':=δv) (aH (aG rfl rfl))).trans (ah (δ':=δv) (aH (aG rfl rfl))).symm;have tn:mh δn T2=some (.ok true,T2):=rfl;have tv:mh δv T2=some (.ok true,T2):=rfl;have hw:br mh b5 1000000 δn T2=br mh b5 1000000 δv T2:=by
    show jX (mh δn T2) _=jX (mh δv T2) _;rw [tn,tv];simp only [jX,if_true,hb]
   refine (uE hw).trans ?_;have ev:δv=dI v a b T.length (T.length+1) s [] (dW (Str.ofString "main", dm)) .none .no .no .no:=by show dI v a b T.length T1.length s [] _ .none .no .no .no=_;rw [t1]
   rw [ev];exact E
 . obtain ⟨q1,q2,q3,q4,q5⟩:=k3 p hp;exact ⟨q1,q2,q3,by rcases q4 with h | h <;> omega,q5⟩
 . rw [k5 i (by omega) x y (by omega),List.getElem?_append_left (by omega),List.getElem?_append_left hi]
noncomputable def dO' (v:W) (a b:Nat) (bk h:W) (m:Nat) (af:W) (r:Sl):DS:=[.val v,.val (.ref a),.val (.ref b),.val bk,.val h,.val (.ref m),.val af,r]
section
variable {v:W} {a b m:Nat} {bk h:W} {T:ai} {tl ln:List Int} {l:dL} {x f:Str} {es:List Tr} {lc:Int}
theorem uR {p:Int} {r:Rw}:aC mD (aA aR (ay 7) (dC (.int (1)))) (aA aR (ay 6) (dC (.int (1)))) (dO' v a b bk h m (bY lc (.call x f es)) (.val (bY p r)))=some (decide (p>lc)):=by
 cases r <;> exact vD (x1 rfl) (x1 rfl) rfl
theorem Ac {p:Int} {r:Rw} (hp:p<=lc):bt (dO' v a b bk h m (bY lc (.call x f es)) (.val (bY p r))) T=some (.nx (dO' v a b bk h m (bY lc (.call x f es)) (.val (bY p r))),T):=by
 have g:=uR (v:=v) (a:=a) (b:=b) (bk:=bk) (h:=h) (m:=m) (x:=x) (f:=f) (es:=es) (lc:=lc) (p:=p) (r:=r);rw [decide_eq_false (by omega)] at g;exact (ah ((b9 (aq g)).trans rfl)).trans ((b9 (aq (Cy g))).trans rfl)
theorem so:∀ (rs:List Rw) (p:Int) (s:Sl),p+rs.length<=lc+1->∃ s',∀ fL,bE (aj 7) bt (bP p rs++fL) (dO' v a b bk h m (bY lc (.call x f es)) s) T=bE (aj 7) bt fL (dO' v a b bk h m (bY lc (.call x f es)) s') T
 | [],p,s,_=>⟨s,λ _=>rfl⟩
 | r::rs,p,s,hp=>by
  simp only [List.length_cons] at hp;obtain ⟨s2,e2⟩:=so rs (p+1) (.val (bY p r)) (by omega);exact ⟨s2,λ fL=>(bI rfl (Ac (by omega))).trans (e2 fL)⟩
theorem Ch (w:Wi T a b m tl ln l) (hl:ln.length<8000) {p:Int} {r:Rw} (hp:lc<p):bD (aa (aC mD (aA aR (ay 7) (dC (.int (1)))) (aA aR (ay 6) (dC (.int (1)))))) (bN (aa (ag 2)) (aa (aA aR (ay 7) (dC (.int (1)))))) (ax aI) (dO' v a b bk h m (bY lc (.call x f es)) (.val (bY p r))) T=some (.nx (dO' v a b bk h m (bY lc (.call x f es)) (.val (bY p r))),T.set b (.lst (ln.map .int++[.int p]))):=by
 have g:=uR (v:=v) (a:=a) (b:=b) (bk:=bk) (h:=h) (m:=m) (x:=x) (f:=f) (es:=es) (lc:=lc) (p:=p) (r:=r);rw [decide_eq_true hp] at g;refine (fK (aq g)).trans ?_;exact qj (l:=b) (d:=.int p) rfl w.hb (aq (by cases r <;> exact x1 rfl)) w.hb (by simp;omega)
theorem ri:∀ (ts:List Tr) (p:Int) (T:ai) (tl ln:List Int) (s:Sl),Wi T a b m tl ln l->lc<p->(∀ t∈ts,iQ t<3/\jY t)->tl.length+ts.length<7000->ln.length+ts.length<7000->
 ∃ T' s',(∀ fL,bE (aj 7) bt (bP p (ts.map .tell)++fL) (dO' v a b bk h m (bY lc (.call x f es)) s) T=bE (aj 7) bt fL (dO' v a b bk h m (bY lc (.call x f es)) s') T')/\Wi T' a b m (tl++jO l (ts.map .tell)) (ln++dY p (ts.map .tell)) l/\Ag a b m T T'
 | [],p,T,tl,ln,s,w,_,_,_,_=>⟨T,s,λ _=>rfl,by simpa [jO,dY] using w,.refl⟩
 | t::ts,p,T,tl,ln,s,w,hp,ht,b1,b2=>by
  simp only [List.length_cons] at b1 b2;obtain ⟨d1,o1⟩:=ht t (.head _);obtain ⟨w1,g1⟩:=w.ln' p;obtain ⟨w2,g2⟩:=w1.tl' (vl l t);let δ:=dO' v a b bk h m (bY lc (.call x f es)) (.val (bY p (.tell t)));have g:=uR (v:=v) (a:=a) (b:=b) (bk:=bk) (h:=h) (m:=m) (x:=x) (f:=f) (es:=es) (lc:=lc) (p:=p) (r:=.tell t);rw [decide_eq_true hp] at g;have W:=fH w1.hm w1.rg t 3 d1 o1;have B:bt δ T=some (.nx δ,(T.set b (.lst (ln.map .int++[.int p]))).set a (.lst (tl.map .int++[.int (vl l t)]))):=by
   refine (ah (Ch w (by omega) hp)).trans ?_;refine (fK (aq (dA g (tT (x0 rfl))))).trans ?_;exact qj (l:=a) rfl w1.ha (cV (ds:=[tw t,.ref m]) (aq (cB (x2 rfl) (cB rfl rfl))) W) w1.ha (by simp;omega)
  obtain ⟨T2,s2,e2,w3,g3⟩:=ri ts (p+1) _ _ _ (.val (bY p (.tell t))) w2 (by omega) (λ y hy=>ht y (.tail _ hy)) (by simp;omega) (by simp;omega);exact ⟨T2,s2,λ fL=>(bI rfl B).trans (e2 fL),by simpa [jO,dY] using w3,(g1.trans g2).trans g3⟩
theorem Bd {d:Df} (ok:zE d) (o3:D3 d) {y:Str×List Tr} (hc:d.cl=some y) (w:Wi T a b m tl ln l) (b1:tl.length<6000) (b2:ln.length<6000) {s:Sl}:
 ∃ T' s',bE (aj 7) bt (bP (d.ln+1) d.rows) (dO' v a b bk h m (bY d.lc (.call x f es)) s) T=some (.nx (dO' v a b bk h m (bY d.lc (.call x f es)) s'),T')/\Wi T' a b m (tl++jO l (gO d)) (ln++(dY (d.lc+1) (gO d)++o8 d)) l/\Ag a b m T T':=by
 have po:=ok.po.1;have hr:d.rows=(d.pre++jS d.cl)++(gO d++mP d.rt):=by simp [Df.rows]
 rw [hr,i9];obtain ⟨s1,e1⟩:=so (v:=v) (a:=a) (b:=b) (m:=m) (bk:=bk) (h:=h) (T:=T) (x:=x) (f:=f) (es:=es) (lc:=d.lc) (d.pre++jS d.cl) (d.ln+1) s (by simp [hc,jS,Df.lc];omega);rw [e1,i9];have ep:d.ln+1+((d.pre++jS d.cl).length:Int)=d.lc+1:=by simp [hc,jS,Df.lc];omega
 rw [ep];obtain ⟨T2,s2,e2,w2,g2⟩:=ri (v:=v) (bk:=bk) (h:=h) (x:=x) (f:=f) (es:=es) (lc:=d.lc) d.po (d.lc+1) T tl ln s1 w (by omega) o3.po (by omega) (by omega);rw [show gO d=d.po.map .tell from rfl,e2];unfold o8;cases hrt:d.rt with
 | none=>exact ⟨T2,s2,rfl,by simpa using w2,g2⟩
 | some t=>
  obtain ⟨w3,g3⟩:=w2.ln' d.pe;have epe:d.lc+1+((d.po.map Rw.tell).length:Int)=d.pe:=by simp [Df.pe,Df.lc,hc,jS]
  rw [epe];have lp:d.lc<d.pe:=by simp [Df.pe,Df.lc,hc,jS];omega
  refine ⟨_,.val (bY d.pe (.ret t)),?_,by simpa using w3,g2.trans g3⟩;refine (bI (S':=T2.set b (.lst ((ln++dY (d.lc+1) (d.po.map Rw.tell)).map .int++[.int d.pe]))) (δ':=dO' v a b bk h m (bY d.lc (.call x f es)) (.val (bY d.pe (.ret t)))) rfl ?_).trans rfl;have g:=uR (v:=v) (a:=a) (b:=b) (bk:=bk) (h:=h) (m:=m) (x:=x) (f:=f) (es:=es) (lc:=d.lc) (p:=d.pe) (r:=.ret t);rw [decide_eq_true lp] at g;refine (ah (Ch w2 (by simp [bB];omega) lp)).trans ?_;exact (b9 (aq (dA g (tF (x0 rfl) kw.2.2.2.2.2.2.1)))).trans rfl
end
theorem wg {d:Df} (o3:D3 d):∃ A r,d.rows=A++[r]/\(match d.rt with
 | none=>∃ p,∀ q,∃ z,bY q r=.tuple (.str p::z)/\decide (p=Str.ofString "return")=false
 | some t=>r=.ret t):=by
 cases hr:d.rt with
 | some t=>exact ⟨d.pre++(jS d.cl++gO d),.ret t,by simp [Df.rows,hr,mP],rfl⟩
 | none=>
  let B:=d.pre++(jS d.cl++gO d);have e:d.rows=B:=by simp [Df.rows,hr,mP,B]
  have ne:B≠[]:=λ z=>o3.ne (List.append_eq_nil_iff.mp z).1;refine ⟨B.dropLast,B.getLast ne,by rw [e];exact (List.dropLast_concat_getLast ne).symm,?_⟩;have hm:B.getLast ne∈B:=List.getLast_mem ne;generalize B.getLast ne=r at hm;rcases List.mem_append.mp hm with h | h
  . have:=o3.pre r h;cases r with
    | set x t=>exact ⟨Str.ofString "set", λ q=>⟨_,rfl,kw.2.2.2.2.2.2.2.2.2.2.1⟩⟩
    | tell t=>exact ⟨Str.ofString "tell", λ q=>⟨_,rfl,kw.2.2.2.2.2.2.2.2.2.1⟩⟩
    | call _ _ _=>exact this.elim
    | ret _=>exact this.elim
  . rcases List.mem_append.mp h with h | h
    . unfold jS at h;split at h
      . cases h
      . rw [List.mem_singleton.mp h];exact ⟨Str.ofString "call", λ q=>⟨_,rfl,kw.2.2.2.2.2.2.2.2.2.2.2⟩⟩
    . obtain ⟨t,_,rfl⟩:=List.mem_map.mp h;exact ⟨Str.ofString "tell", λ q=>⟨_,rfl,kw.2.2.2.2.2.2.2.2.2.1⟩⟩
noncomputable def wT (p:Pl) (bk:Int):dL:=match p.d.cl with
 | none=>p.l
 | some _=>cM p.l zzz bk
noncomputable def zG (p:Pl) (bk:Int):List Int:=match p.d.cl with
 | none=>[]
 | some _=>jO (cM p.l zzz bk) (gO p.d)
noncomputable def zB (p:Pl):List Int:=match p.d.cl with
 | none=>[]
 | some _=>dY (p.d.lc+1) (gO p.d)++o8 p.d
noncomputable def wo:List Pl->Int->List Int×List Int×Int
 | [],bk=>([],[],bk)
 | p::ps,bk=>(zG p bk++(wo ps (nI p.d (wT p bk))).1,zB p++(wo ps (nI p.d (wT p bk))).2.1,(wo ps (nI p.d (wT p bk))).2.2)
section
variable {v:W} {a b:Nat}
theorem uM {d:Df} (o3:D3 d) {x:Str} {m:Nat} {T:ai} {l:dL} (hm:T[m]?=some (.dK (gP l))) (hl:kW l) (bk:W) (af:W) (r:Sl):av (ax (aW (dC (.int (0))) (aj 3)))
 (bD (aa (aC dJ (aA aR (aA aR (aA aR (ay 4) (dC (.int (2)))) (jQ dD (dC (.int (1))))) (dC (.int (0)))) (dC (.str "return"))))
  (cQ (cJ (aX 3) (aa (ae (aA aR (aA aR (aA aR (ay 4) (dC (.int (2)))) (jQ dD (dC (.int (1))))) (dC (.int (2)))) (ae (ag 5) ak)))) (aj 3))
  (ax aI)) (dO' v a b bk (dW (x,d)) m af r) T=some (.nx (dO' v a b (.int (nI d l)) (dW (x,d)) m af r),T):=by
 refine (ah (δ':=dO' v a b (.int 0) (dW (x,d)) m af r) (aH (aG rfl rfl))).trans ?_;obtain ⟨A,z,e,hz⟩:=wg o3;have lst:aA aR (aA aR (ay 4) (dC (.int (2)))) (jQ dD (dC (.int (1)))) (dO' v a b (.int 0) (dW (x,d)) m af r)=some (bY (d.ln+1+A.length) z):=by
  refine ti (l:=bP (d.ln+1) d.rows) (i := -1) (x2 rfl) rfl ?_;rw [e,i9];exact Bp _ _
 unfold nI;cases hr:d.rt with
 | none=>
  rw [hr] at hz;obtain ⟨p,hz⟩:=hz;obtain ⟨q,e1,e2⟩:=hz (d.ln+1+A.length);rw [e1] at lst;exact (b9 (aq (tF (x0 lst) e2))).trans rfl
 | some t=>
  rw [hr] at hz;subst hz;obtain ⟨d1,o1⟩:=o3.rt t hr;have W:=fH hm hl t 3 d1 o1;exact (fK (aq (tT (x0 lst)))).trans (bb (cV (ds:=[tw t,.ref m]) (aq (cB (x2 lst) (cB rfl rfl))) W) rfl)
theorem xV (ab:a≠b):∀ (ps:List Pl) (bk:Int) (T:ai) (tl ln:List Int) (s4 s5 s6 s7:Sl),T[a]?=some (.lst (tl.map .int))->T[b]?=some (.lst (ln.map .int))->(∀ p∈ps,T[p.m]?=some (.dK (gP p.l))/\kW p.l/\p.l.length<=40/\p.m≠a/\p.m≠b/\zE p.d/\D3 p.d)->(ps.map Pl.m).Nodup->Rg bk->tl.length+50*ps.length<5000->ln.length+50*ps.length<5000->
 ∃ T' δ',bE (mi 3 (d8 (aj 4) (d8 (aj 5) (d8 (aj 6) mf)))) fI (ps.map jN) [.val v,.val (.ref a),.val (.ref b),.val (.int bk),s4,s5,s6,s7] T=some (.nx δ',T')/\T'[a]?=some (.lst ((tl++(wo ps bk).1).map .int))/\T'[b]?=some (.lst ((ln++(wo ps bk).2.1).map .int))/\(∀ i,i≠a->i≠b->i∉ps.map Pl.m->T'[i]?=T[i]?)
 | [],bk,T,tl,ln,s4,s5,s6,s7,ha,hb,_,_,_,_,_=>⟨T,_,rfl,by simpa [wo] using ha,by simpa [wo] using hb,λ _ _ _ _=>rfl⟩
 | p::ps,bk,T,tl,ln,s4,s5,s6,s7,ha,hb,hp,nd,hbk,b1,b2=>by
  simp only [List.length_cons] at b1 b2;simp only [List.map_cons,List.nodup_cons] at nd;obtain ⟨hm,rg,pl,ma,mb,ok,o3⟩:=hp p (.head _);have w:Wi T a b p.m tl ln p.l:=⟨ha,hb,hm,ab,Ne.symm ma,Ne.symm mb,rg⟩
  have po:=ok.po.1;have step:∃ T1 s,fI (dO' v a b (.int bk) (dW (p.x,p.d)) p.m (lH p.d) s7) T=some (.nx (dO' v a b (.int (nI p.d (wT p bk))) (dW (p.x,p.d)) p.m (lH p.d) s),T1)/\Wi T1 a b p.m (tl++zG p bk) (ln++zB p) (wT p bk)/\Ag a b p.m T T1:=by
   unfold wT zG zB lH;cases hc:p.d.cl with
   | none=>
    refine ⟨T,s7,?_,by simpa using w,.refl⟩;exact (ah ((b9 (S1:=T) rfl).trans rfl)).trans (uM o3 hm rg _ _ _)
   | some y=>
    obtain ⟨w1,g1⟩:=w.nm' (rg.put zzz hbk);obtain ⟨T2,s2,e2,w2,g2⟩:=Bd (v:=v) (bk:=.int bk) (h:=dW (p.x,p.d)) (x:=zzz) (f:=y.1) (es:=y.2) ok o3 hc w1 (by omega) (by omega) (s:=s7);refine ⟨T2,s2,?_,w2,g1.trans g2⟩;refine (ah (δ':=dO' v a b (.int bk) (dW (p.x,p.d)) p.m (bY p.d.lc (.call zzz y.1 y.2)) s2) (S':=T2) ((fK (S1:=T) rfl).trans ?_)).trans (uM o3 w2.hm w2.rg _ _ _);refine (ah (δ':=dO' v a b (.int bk) (dW (p.x,p.d)) p.m (bY p.d.lc (.call zzz y.1 y.2)) s7) ((pN (k:=zzz) (l:=p.m) (kvs:=gP p.l) (d:=.int bk) rfl rfl rfl hm (by simp [gP];omega)).trans (congrArg (λ z=>some (nP.nx _,z)) (by rw [kK])))).trans ?_;refine (fW (ds:=bP (p.d.ln+1) p.d.rows) ?_).trans e2;exact aq (by simp only [cK,x2 (f:=ay 4) (δ:=dO' v a b (.int bk) (dW (p.x,p.d)) p.m (bY p.d.lc (.call zzz y.1 y.2)) s7) rfl,Option.bind_some];rfl)
  obtain ⟨T1,s,e1,w1,g1⟩:=step;have lt:(zG p bk).length<=20:=by
   unfold zG;split
   . simp
   . have:=gu (gO p.d) (cM p.l zzz bk);have e:(gO p.d).length=p.d.po.length:=by simp [gO]
     omega
  have ll:(zB p).length<=21:=by
   unfold zB o8;split
   . simp
   . split <;> simp [bB,gO] <;> omega
  have hb':Rg (nI p.d (wT p bk)):=by
   unfold nI;cases hr:p.d.rt with
   | none=>exact (show Rg 0 by decide)
   | some t=>exact kT w1.rg (o3.rt t hr).2
  obtain ⟨T2,δ2,e2,k1,k2,k3⟩:=xV ab ps (nI p.d (wT p bk)) T1 (tl++zG p bk) (ln++zB p) (.val (dW (p.x,p.d))) (.val (.ref p.m)) (.val (lH p.d)) s w1.ha w1.hb (λ q hq=>by
   obtain ⟨q1,q2,q3,q4,q5,q6,q7⟩:=hp q (.tail _ hq);refine ⟨?_,q2,q3,q4,q5,q6,q7⟩;rw [g1.2 q.m q4 q5 λ z=>nd.1 (z▸List.mem_map.mpr ⟨q,hq,rfl⟩)];exact q1) nd.2 hb' (by simp;omega) (by simp;omega)
  refine ⟨T2,δ2,(bI (δ2:=dO' v a b (.int bk) (dW (p.x,p.d)) p.m (lH p.d) s7) rfl e1).trans e2,?_,?_,?_⟩
  . rw [k1];simp [wo]
  . rw [k2];simp [wo]
  . intro i x y z;simp only [List.map_cons,List.mem_cons,not_or] at z;rw [k3 i x y z.2,g1.2 i x y z.1]
end
theorem yx:∀ (A:List Pl) (p:Pl) (bk:Int),wo (A++[p]) bk=((wo A bk).1++zG p (wo A bk).2.2,(wo A bk).2.1++zB p,nI p.d (wT p (wo A bk).2.2))
 | [],p,bk=>by simp [wo]
 | x::A,p,bk=>by
  show (_++(wo (A++[p]) _).1,_++(wo (A++[p]) _).2.1,(wo (A++[p]) _).2.2)=_;rw [yx A p];simp [wo]
noncomputable def D9 (D:Str->Option Df) (n:Nat) (x:Str) (d:Df) (l:dL) (m nx:Nat) (r:List Int×List Int×(Int ⊕ dL)):Prop:=match r.2.2 with
 | .inl dl=>vj D n d l=r.1/\ue D n d l=r.2.1/\∃ p,(kx D n x d l m nx).getLast?=some p/\∃ y,p.d.cl=some y/\p.d.lc=dl
 | .inr l2=>(∃ p,(kx D n x d l m nx).getLast?=some p/\p.d.cl=none)/\∃ X Y,wo (kx D n x d l m nx).reverse 0=(X,Y,nI d l2)/\vj D n d l++X=r.1/\ue D n d l++Y=r.2.1++o8 d
theorem pd {A:List Pl} {p q:Pl} (h:A.getLast?=some q):(p::A).getLast?=some q:=by
 cases A with
 | nil=>cases h
 | cons a A=>rw [List.getLast?_cons_cons];exact h
theorem DQ {D:Str->Option Df} (hC:∀ x d y,D x=some d->d.cl=some y->∃ d',D y.1=some d'):∀ (n:Nat) (x:Str) (d:Df) (l:dL) (m nx:Nat),D x=some d->D9 D n x d l m nx (wU D n d l):=by
 intro n;induction n with
 | zero=>
  intro x d l m nx hx;unfold wU;cases hc:d.cl with
  | none=>
   refine ⟨⟨_,rfl,hc⟩,[],[],?_,by simp [vj,zi],by simp [ue,mI,hc,zi]⟩;simp [kx,wo,zG,zB,wT,hc]
  | some y=>exact ⟨rfl,by simp [ue,mI,hc,FE],_,rfl,y,hc,rfl⟩
 | succ n ih=>
  intro x d l m nx hx;unfold wU;cases hc:d.cl with
  | none=>
   refine ⟨⟨⟨x,d,m,eW l d.pre⟩,by simp [kx,hc],hc⟩,[],[],?_,by simp [vj,zi,hc],by simp [ue,mI,hc,zi]⟩;simp [kx,wo,zG,zB,wT,hc]
  | some y=>
   obtain ⟨d',hd'⟩:=hC x d y hx hc;have I:=ih y.1 d' (uc d d' l y.2) nx (nx+1) hd';simp only [hd'];have eP:kx D (n+1) x d l m nx=⟨x,d,m,eW l d.pre⟩::kx D n y.1 d' (uc d d' l y.2) nx (nx+1):=by simp only [kx,hc,hd']
   have eT:vj D (n+1) d l=jO l d.pre++vj D n d' (uc d d' l y.2):=by simp only [vj,hc,hd']
   have eL:ue D (n+1) d l=dY (d.ln+1) d.pre++[d.lc]++ue D n d' (uc d d' l y.2):=by simp only [ue,mI,hc,hd']
   unfold D9 at I ⊢;rw [eP,eT,eL];generalize wU D n d' (uc d d' l y.2)=r at I ⊢;obtain ⟨T2,L2,o⟩:=r;cases o with
   | inl dl=>
    obtain ⟨i1,i2,p,i3,i4⟩:=I;refine ⟨by rw [i1];rfl,by rw [i2];simp [wS],p,pd i3,i4⟩
   | inr m2=>
    obtain ⟨⟨p,i1,i2⟩,X,Y,i3,i4,i5⟩:=I;dsimp only at i4 i5;refine ⟨⟨p,pd i1,i2⟩,X++jO (cM (eW l d.pre) zzz (nI d' m2)) (gO d),Y++(dY (d.lc+1) (gO d)++o8 d),?_,?_,?_⟩
    . rw [List.reverse_cons,yx,i3];simp [zG,zB,wT,hc]
    . simp only [wS];rw [<-i4];simp
    . simp only [wS];have:dY (d.ln+1) d.pre++d.lc::(L2++(o8 d'++dY (d.lc+1) (gO d)))++o8 d=dY (d.ln+1) d.pre++d.lc::((L2++o8 d')++(dY (d.lc+1) (gO d)++o8 d)):=by simp
      rw [this,<-i5];simp
theorem AW {T:ai} {a b:Nat} (ab:a≠b) {ps:List Pl} {tl ln:List Int} (ha:T[a]?=some (.lst (tl.map .int))) (hb:T[b]?=some (.lst (ln.map .int))) (hp:∀ p∈ps,T[p.m]?=some (.dK (gP p.l))/\kW p.l/\p.l.length<=40/\p.m≠a/\p.m≠b/\zE p.d/\D3 p.d) (nd:(ps.map Pl.m).Nodup) (b0:ps.length<=6) (b1:tl.length<4000) (b2:ln.length<4000):
 ∃ T',dq [.list (ps.map jN),.ref a,.ref b] T=some (.ok .none,T')/\T'[a]?=some (.lst ((tl++(wo ps.reverse 0).1).map .int))/\T'[b]?=some (.lst ((ln++(wo ps.reverse 0).2.1).map .int))/\(∀ i,i≠a->i≠b->i∉ps.map Pl.m->T'[i]?=T[i]?):=by
 obtain ⟨T',δ',e,k1,k2,k3⟩:=xV (v:=.list (ps.map jN)) ab ps.reverse 0 T tl ln .no .no .no .no ha hb (λ p h=>hp p (List.mem_reverse.mp h)) (by rw [List.map_reverse];exact List.pairwise_reverse.mpr (List.Pairwise.imp (λ h=>Ne.symm h) nd)) (by decide) (by simp;omega) (by simp;omega);refine ⟨T',?_,k1,k2,λ i x y z=>k3 i x y (by rw [List.map_reverse];simpa using z)⟩;refine (aE rfl).trans ((congrArg cy (?_:_=some (.nx δ',T'))).trans rfl);refine (ah (δ':=[.val (.list (ps.map jN)),.val (.ref a),.val (.ref b),.val (.int 0),.no,.no,.no,.no]) (aH (aG rfl rfl))).trans ?_;refine (fW (ds:=ps.reverse.map jN) ?_).trans e;refine aq ?_;have:ae (ag 0) ak [.val (.list (ps.map jN)),.val (.ref a),.val (.ref b),.val (.int 0),.no,.no,.no,.no]=some [.list (ps.map jN)]:=rfl;simp only [ye,this,Option.bind_some,List.map_reverse]
theorem vG {D:Str->Option Df}:∀ (n:Nat) (x:Str) (d:Df) (l:dL) (m nx:Nat),(kx D n x d l m nx).length<=n+1
 | 0,_,_,_,_,_=>Nat.le_refl _
 | n+1,x,d,l,m,nx=>by
  unfold kx;rw [List.length_cons];refine Nat.succ_le_succ ?_;split
  . exact Nat.zero_le _
  . split
    . exact Nat.zero_le _
    . exact vG n _ _ _ _ _
theorem F3 {D:Str->Option Df}:∀ (n:Nat) (x:Str) (d:Df) (l:dL) (m nx:Nat),∃ A,kx D n x d l m nx=⟨x,d,m,eW l d.pre⟩::A
 | 0,_,_,_,_,_=>⟨[],rfl⟩
 | _+1,_,_,_,_,_=>⟨_,rfl⟩
theorem rV {S:ai} {l:Nat} {es:List W} (h:S[l]?=some (.lst es)) (hi:∀ d∈es,∃ i,d=W.int i):∀ (f i:Nat),es.length-i<f->bX (l,.l) (aj 0) (aa (zC (wA (oR (fB (lj "int") (ag 0)))) (oR (fB (lj "bool") (ag 0))))) (aa (ag 0)) [.no] f i S=some (.ok [],S)
 | 0,i,hf=>by omega
 | f+1,i,hf=>by
  have le:oe S (l,.l)=some es:=by simp [oe,dG,h]
  cases hd:es[i]? with
  | none=>simp only [bX,le,Option.bind_some,hd]
  | some d=>
   obtain ⟨j,rfl⟩:=hi d (List.mem_of_getElem? hd);have hl:i<es.length:=(oG hd).1;have t:aa (zC (wA (oR (fB (lj "int") (ag 0)))) (oR (fB (lj "bool") (ag 0)))) [.val (.int j)] S=some (.ok false,S):=rfl;have g:aj 0 (.int j) [.no]=some [.val (.int j)]:=rfl;simp only [bX,le,Option.bind_some,hd,g,au,t,Bool.false_eq_true,if_false];exact rV h hi f (i+1) (by omega)
theorem pO {S:ai} {l:Nat} {es:List W} (h:S[l]?=some (.lst es)) (hi:∀ d∈es,∃ i,d=W.int i) (hl:es.length<8000):bq [.ref l] S=some (.ok (.bool true),S):=by
 have z:=sz 9000 (by decide);have lv:n9 (aa (ag 0)) [.val (.ref l)] S=some (.ok (l,.l),S):=by
  have:aa (ag 0) [.val (.ref l)] S=some (.ok (.ref l),S):=rfl;simp only [n9,au,this,kr h,Option.map_some]
 have cp:qt 9000 [none] (n9 (aa (ag 0))) (aj 0) (aa (zC (wA (oR (fB (lj "int") (ag 0)))) (oR (fB (lj "bool") (ag 0))))) (aa (ag 0)) [.val (.ref l)] S=some (.ok (.list []),S):=by
  have e:bf [none] [Sl.val (.ref l)]=[.no]:=rfl;simp only [qt,au,lv,if_pos z,e,rV h hi 9000 0 (by omega)]
 refine (aE rfl).trans ((congrArg cy (?_:_=some (.rt (.bool true),S))).trans rfl);exact eg (sJ (GQ (a:=0) (b:=0) (HB cp) rfl))
theorem og:∀ {ds:List W},(∀ d∈ds,∃ i,d=W.int i)->jP ds=true/\gH ds=0
 | [],_=>⟨rfl,rfl⟩
 | d::ds,h=>by
  obtain ⟨i,rfl⟩:=h d List.mem_cons_self;have:=og (ds:=ds) λ d hd=>h d (List.mem_cons_of_mem _ hd);exact ⟨by simp [jP,oF,this.1],by simp [gH,iH,this.2]⟩
theorem xr {S:ai} {l m:Nat} {ds:List W} (h:S[l]?=some (.lst [.ref m])) (h':S[m]?=some (.lst ds)) (hk:jP ds=true) (hd:gH ds<20):kQ false (.ref l) (.list [.list ds]) S=some true:=by
 obtain ⟨xs,e1,e2,e3,e4⟩:=jM ds hk;have p1:mV S 24 (.ref l)=some (.list [.list xs]):=by
  show (dG S l).bind _=_;rw [show dG S l=some [.ref m] by simp [dG,h]];show (kI (mV S 23) [.ref m]).map PyData.list=_;have:mV S 23 (.ref m)=some (.list xs):=by
   show (dG S m).bind _=_;rw [show dG S m=some ds by simp [dG,h']];show (kI (mV S 22) ds).map PyData.list=_;rw [jJ S 22 ds hk (by omega),e1];rfl
  simp only [kI,this,Option.bind_some,Option.map_some]
 have p2:mV S 24 (.list [.list ds])=some (.list [.list xs]):=by
  rw [qe S 24 (.list [.list ds]) (by simpa [oF,jP] using hk) (by simp [iH,gH];omega)];simp [W.py,W.pys,e1]
 unfold kQ;show (mV S 24 (.ref l)).bind _=_;rw [p1,p2];simp [PyData.canLay0,PyData.canLayAll0,e2,PyData.depth,PyData.depthAll,e3,PyData.eqv,PyData.eqvAll,e4];omega
theorem gL {T X:ai} {i:Nat} {x:Ob} (h:T[i]?=some x):(T++X)[i]?=some x:=by
 rw [List.getElem?_append_left (oG h).1,h]
theorem rF {f g:DS->ai->SM Bool} {δ:DS} {S S1 S2:ai} {b:Bool} (h1:f δ S=some (.ok false,S1)) (h2:g δ S1=some (.ok b,S2)):wK f g δ S=some (.ok b,S2):=by simp only [wK,au,h1,Bool.false_eq_true,if_false,h2]
theorem uI {f g:DS->ai->SM W} {δ:DS} {S S1 S2:ai} {d:W} (h1:f δ S=some (.ok (.bool true),S1)) (h2:g δ S1=some (.ok d,S2)):nY f g δ S=some (.ok d,S2):=by
 simp only [nY,au,h1,x5,Option.bind_some,if_true,h2]
theorem nq {neg b:Bool} {fo fi:DS->ai->SM W} {δ:DS} {S S1 S2:ai} {x y:W} (h1:fo δ S=some (.ok x,S1)) (h2:fi δ S1=some (.ok y,S2)) (h3:kQ neg x y S2=some b):jL neg fo fi δ S=some (.ok b,S2):=by simp only [jL,au,h1,h2,h3,kz,Option.map_some]
theorem Md (n:Nat) (k:Int) (e:W):(mJ n k e).lookup (Str.ofString "brought")=some (.ref (n+12)):=by kernel_rfl
theorem LH (n:Nat) (k:Int) (e:W):(mJ n k e).lookup (Str.ofString "puts")=some (.ref (n+14)):=by kernel_rfl
structure oV (T:ai) (n:Nat) (q:Qs):Prop where
 h10:T[n+10]?=some (.ins (Str.ofString "Story") (mJ n q.steps q.fin))
 h11:T[n+11]?=some (.lst q.told)
 h12:T[n+12]?=some (.lst [])
 h13:T[n+13]?=some (.lst [.ref (n+16)])
 h14:T[n+14]?=some (.lst [.ref (n+17)])
 h15:T[n+15]?=some (.lst q.lns)
 h16:T[n+16]?=some (.lst [])
 h17:T[n+17]?=some (.dK [])
theorem oV.of (S:ai) (c:Cn) (q:Qs):oV (ST S c q) S.length q:=⟨yN,J0,wj (k:=12) (by decide),wj (k:=13) (by decide),wj (k:=14) (by decide),JK,wj (k:=16) (by decide),wj (k:=17) (by decide)⟩
theorem oV.app {T:ai} {n:Nat} {q:Qs} (h:oV T n q) (X:ai):oV (T++X) n q:=⟨gL h.h10,gL h.h11,gL h.h12,gL h.h13,gL h.h14,gL h.h15,gL h.h16,gL h.h17⟩
theorem yM {S:ai} {l m:Nat} {ds:List W} (neg:Bool) (h:S[l]?=some (.lst ds)) (h':S[m]?=some (.lst ds)) (hk:jP ds=true) (hd:gH ds<20):kQ neg (.ref l) (.ref m) S=some (!neg):=by
 obtain ⟨xs,e1,e2,e3,e4⟩:=jM ds hk;have p:∀ {l:Nat},S[l]?=some (.lst ds)->mV S 24 (.ref l)=some (.list xs):=λ {l} h=>by
  show (dG S l).bind _=_;rw [show dG S l=some ds by simp [dG,h]];show (kI (mV S 23) ds).map PyData.list=_;rw [jJ S 23 ds hk (by omega),e1];rfl
 unfold kQ;show (mV S 24 (.ref l)).bind _=_;rw [p h,p h'];cases neg <;> simp [PyData.canLay0,e2,PyData.depth,e3,PyData.eqv,e4] <;> omega
noncomputable abbrev Ae:DS->ai->SO:=(av (cQ (cP (aa ak)) (aj 10))
 (av (cQ (cP (aa ak)) (aj 11))
 (av (cQ (cJ fP (aa (ae (ag 6) (ae (ag 10) (ae (ag 11) ak))))) (aj 12))
 (av (bD (aa (aC iO (aA aR (aA aR (ay 12) (jQ dD (dC (.int (1))))) (dC (.int (2)))) (dC .none)))
  (ax (aW (bx (ae (dC (.str "deep")) (ae (aA aR (aA aR (aA aR (ay 12) (jQ dD (dC (.int (1))))) (dC (.int (2)))) (dC (.int (1)))) ak))) (aj 13)))
  (av (ax (aW (bx (ae (dC (.str "done")) (ae (aA aR (aA aR (aA aR (ay 12) (dC (.int (0)))) (dC (.int (0)))) (dC (.int (4)))) ak))) (aj 13)))
 (bd (cJ dq (aa (ae (ag 12) (ae (ag 10) (ae (ag 11) ak))))))))
 (av (bD (wK (jL true (ao "Story" "told" (aa (ag 9))) (aa (ag 10))) (wK (oN (nS (cJ bq (aQ (ao "Story" "told" (aa (ag 9))) bW)))) (wK (jL true (ao "Story" "lines" (aa (ag 9))) (aa (ag 11))) (jL true (ao "Story" "end" (aa (ag 9))) (aa (ag 13))))))
  (ax (bw (dC (.bool false))))
  (ax aI))
 (av (bD (wK (oN (nS (cJ bq (aQ (cP (aQ (ao "Story" "steps" (aa (ag 9))) bW)) bW)))) (wK (jL true (ao "Story" "steps" (aa (ag 9))) (ji (aa (ag 11)))) (aa (aC FK (rT (ag 6)) (ay 8)))))
  (ax (bw (dC (.bool false))))
  (ax aI))
 (gf (nY (sB (jL false (ao "Story" "brought" (aa (ag 9))) (aa (gC (eU ak))))) (nY (sB (jL false (ao "Story" "touches" (aa (ag 9))) (aa (gC (eU (ae (gC (eU ak)) ak)))))) (sB (yD (ao "Story" "puts" (aa (ag 9))) (wQ (aQ tG bW)))))))))))))
theorem sj (l:List Int):∀ d∈l.map W.int,∃ i,d=W.int i:=λ d hd=>by
 obtain ⟨i,_,rfl⟩:=List.mem_map.mp hd;exact ⟨i,rfl⟩
theorem nW {f:DS->Option (List W)} {δ:DS} {l:List W} (h:f δ=some l) (hl:l.length<=9000):gC (eU f) δ=some (.list l):=by
 have z:=sz _ hl;simp only [gC,eU,h,Option.bind_some,if_pos z,Option.map_some]
theorem Jq {a b:Int} {fo fi:DS->ai->SM W} {δ:DS} {S S1 S2:ai} (h1:fo δ S=some (.ok (.int a),S1)) (h2:fi δ S1=some (.ok (.int b),S2)):jL true fo fi δ S=some (.ok (!decide (a=b)),S2):=by
 have:kQ true (.int a) (.int b) S2=some (!decide (a=b)):=rfl;simp only [jL,au,h1,h2,this,kz,Option.map_some]
theorem Hq:PyData.strOk (Str.ofString "deep")=true/\PyData.strOk (Str.ofString "done")=true:=by decide +kernel
theorem AN (dm:Df) (o:Int ⊕ dL):oF (lN dm o)=true/\iH (lN dm o)=1:=by
 cases o with
 | inl dl=>exact ⟨by simp [lN,ou,oF,jP,sW,Hq.1],by simp [lN,ou,iH,gH,sW]⟩
 | inr l=>exact ⟨by simp [lN,oF,jP,sW,Hq.2],by simp [lN,iH,gH,sW]⟩
theorem wY {A:List Pl} {p:Pl} (h:A.getLast?=some p):jf (A.map jN) (-1)=some (jN p):=by
 obtain ⟨B,rfl⟩:=List.getLast?_eq_some_iff.mp h;rw [List.map_append];exact Bp _ _
section
variable {P:Pg} {dm:Df} {T:ai} {n:Nat} {q:Qs}
theorem z9 (hP:ID P dm) (h3:∀ x d,lK P x=some d->D3 d) (A:oV T n q) (z1:q.told=(res P dm).1.map .int) (z2:q.lns=(res P dm).2.1.map .int) (z3:q.steps=(res P dm).2.1.length) (z4:q.fin=lN dm (res P dm).2.2) (b1:(res P dm).1.length<=360) (b2:(res P dm).2.1.length<=360) {sh:Str} (hsh:uG (.list (P.map dW))=some (.str sh)) {s0 s1 s2 s3 s4 s5 s7:Sl}:
 ∃ T',Ae [s0,s1,s2,s3,s4,s5,.val (.list (P.map dW)),s7,.val (.str sh),.val (.ref (n+10)),.no,.no,.no,.no] T=some (.rt (.bool true),T'):=by
 let a:=T.length;let b:=T.length+1;let T2:ai:=T++[.lst [],.lst []];have ha:T2[a]?=some (.lst []):=by show (T++_)[T.length+0]?=_;rw [gA];rfl
 have hb:T2[b]?=some (.lst []):=by show (T++_)[T.length+1]?=_;rw [gA];rfl
 have t2:T2.length=T.length+2:=by simp [T2]
 have ab:a≠b:=by show T.length≠T.length+1;omega
 obtain ⟨T3,eI,i1,i2,i3,i4,i5⟩:=Dh hP h3 ha hb ab;have Wy:=DQ hP.cl 5 (Str.ofString "main") dm [] (T2.length+1) (T2.length+2) hP.main;obtain ⟨A0,hd⟩:=F3 (D:=lK P) 5 (Str.ofString "main") dm [] (T2.length+1) (T2.length+2);have pl6:=vG (D:=lK P) 5 (Str.ofString "main") dm [] (T2.length+1) (T2.length+2);let ps:=kx (lK P) 5 (Str.ofString "main") dm [] (T2.length+1) (T2.length+2);let δ (e f g h:Sl):DS:=[s0,s1,s2,s3,s4,s5,.val (.list (P.map dW)),s7,.val (.str sh),.val (.ref (n+10)),e,f,g,h]
 let δ3:DS:=δ (.val (.ref a)) (.val (.ref b)) (.val (.list (ps.map jN))) .no;let δ4:DS:=δ (.val (.ref a)) (.val (.ref b)) (.val (.list (ps.map jN))) (.val q.fin);have l17:=bR A.h17;have main:∃ T4,bD (aa (aC iO (aA aR (aA aR (ay 12) (jQ dD (dC (.int (1))))) (dC (.int (2)))) (dC .none)))
  (ax (aW (bx (ae (dC (.str "deep")) (ae (aA aR (aA aR (aA aR (ay 12) (jQ dD (dC (.int (1))))) (dC (.int (2)))) (dC (.int (1)))) ak))) (aj 13)))
  (av (ax (aW (bx (ae (dC (.str "done")) (ae (aA aR (aA aR (aA aR (ay 12) (dC (.int (0)))) (dC (.int (0)))) (dC (.int (4)))) ak))) (aj 13)))
  (bd (cJ dq (aa (ae (ag 12) (ae (ag 10) (ae (ag 11) ak))))))) δ3 T3=some (.nx δ4,T4)/\T4[a]?=some (.lst ((res P dm).1.map .int))/\T4[b]?=some (.lst ((res P dm).2.1.map .int))/\(∀ i,i<T.length->T4[i]?=T[i]?):=by
  have k3:∀ i,i<T.length->T3[i]?=T[i]?:=λ i hi=>by
   rw [i5 i (by omega) (by show i≠T.length;omega) (by show i≠T.length+1;omega)];exact List.getElem?_append_left hi
  have la:∀ {p:Pl},ps.getLast?=some p->aA aR (ay 12) (jQ dD (dC (.int (1)))) δ3=some (jN p):=λ {p} h=>ti (l:=ps.map jN) (i := -1) rfl rfl (wY h);unfold D9 at Wy;unfold res at *;cases ho:(wU (lK P) 5 dm []).2.2 with
  | inl dl=>
   rw [ho] at Wy z4;obtain ⟨w1,w2,p,w3,y,w4,w5⟩:=Wy;have l1:=la w3;have cw:lH p.d=bY dl (.call zzz y.1 y.2):=by simp [lH,w4,w5]
   have l2:aA aR (aA aR (ay 12) (jQ dD (dC (.int (1))))) (dC (.int (2))) δ3=some (bY dl (.call zzz y.1 y.2)):=by rw [<-cw];exact My.x2 l1
   refine ⟨T3,?_,by rw [<-w1];exact i1,by rw [<-w2];exact i2,k3⟩;refine (fK (aq (vD (r:=true) l2 rfl rfl))).trans (aH (aG (ug rfl (My.x1 l2)) ?_));rw [show δ4=δ3.set 13 (.val q.fin) from rfl,z4];rfl
  | inr l2=>
   rw [ho] at Wy z4;obtain ⟨⟨p,w3,w4⟩,X,Y,w5,w6,w7⟩:=Wy;have l1:=la w3;have cw:lH p.d=.none:=by simp [lH,w4]
   have l2:aA aR (aA aR (ay 12) (jQ dD (dC (.int (1))))) (dC (.int (2))) δ3=some .none:=by rw [<-cw];exact My.x2 l1
   have hr:o8 dm=[]:=by simp [o8,hP.rt]
   rw [hr,List.append_nil] at w7;have e1:(vj (lK P) 5 dm []).length<=360:=by have:=congrArg List.length w6;simp only [List.length_append] at this;omega
   have e2:(ue (lK P) 5 dm []).length<=360:=by have:=congrArg List.length w7;simp only [List.length_append] at this;omega
   obtain ⟨T4,eO,o1,o2,o3⟩:=AW ab i1 i2 (ps:=ps) (λ p hp=>by
    obtain ⟨q1,q2,q3,q4,q5⟩:=i3 p hp;exact ⟨q1,q2,q3,by show p.m≠T.length;omega,by show p.m≠T.length+1;omega,hP.ok _ _ q5,h3 _ _ q5⟩) i4 pl6 (by omega) (by omega)
   rw [w5] at o1 o2;dsimp only at o1 o2;rw [w6] at o1;rw [w7] at o2;refine ⟨T4,?_,o1,o2,λ i hi=>?_⟩
   . refine (b9 (aq (vD (r:=false) l2 rfl rfl))).trans ?_;have h0:aA aR (ay 12) (dC (.int (0))) δ3=some (jN ⟨Str.ofString "main", dm,T2.length+1,eW [] dm.pre⟩):=ti (l:=ps.map jN) (i:=0) rfl rfl (by show jf (ps.map jN) 0=_;rw [show ps=_ from hd];exact Hy _ _);refine (ah (δ':=δ4) (aH (aG (ug rfl (My.x4 (My.x0 h0))) ?_))).trans ?_
     . rw [show δ4=δ3.set 13 (.val q.fin) from rfl,z4];rfl
     . exact aZ (cV (ds:=[.list (ps.map jN),.ref a,.ref b]) rfl eO)
   . rw [o3 i (by show i≠T.length;omega) (by show i≠T.length+1;omega) λ hz=>?_]
     . exact k3 i hi
     . obtain ⟨p,hp,e⟩:=List.mem_map.mp hz;obtain ⟨_,_,_,q4,_⟩:=i3 p hp;omega
 obtain ⟨T4,eM,m1,m2,m3⟩:=main;have A4:oV T4 n q:=⟨(m3 _ (bR A.h10)).trans A.h10,(m3 _ (bR A.h11)).trans A.h11,(m3 _ (bR A.h12)).trans A.h12,(m3 _ (bR A.h13)).trans A.h13,(m3 _ (bR A.h14)).trans A.h14,(m3 _ (bR A.h15)).trans A.h15,(m3 _ (bR A.h16)).trans A.h16,(m3 _ (bR A.h17)).trans A.h17⟩
 rw [<-z1] at m1;rw [<-z2] at m2;have iT:∀ d∈q.told,∃ i,d=W.int i:=by rw [z1];exact sj _
 have iL:∀ d∈q.lns,∃ i,d=W.int i:=by rw [z2];exact sj _
 have nT:q.told.length<=360:=by rw [z1,List.length_map];exact b1
 have nL:q.lns.length<=360:=by rw [z2,List.length_map];exact b2
 have kt:=og iT;have kl:=og iL;have v9:∀ T':ai,aa (ag 9) δ4 T'=some (.ok (.ref (n+10)),T'):=λ _=>rfl;have okF:oF q.fin=true/\iH q.fin=1:=by rw [z4];exact AN _ _
 have z1':=sz 1 (by decide);have g1:jL true (ao "Story" "told" (aa (ag 9))) (aa (ag 10)) δ4 T4=some (.ok false,T4):=nq (bA (v9 _) A4.h10 (JW _ _ _)) rfl (yM true A4.h11 m1 kt.1 (by omega));have g2:oN (nS (cJ bq (aQ (ao "Story" "told" (aa (ag 9))) bW))) δ4 T4=some (.ok false,T4):=vq (qF (cV (aU (bA (v9 _) A4.h10 (JW _ _ _)) rfl) (pO A4.h11 iT (by omega))));have g3:jL true (ao "Story" "lines" (aa (ag 9))) (aa (ag 11)) δ4 T4=some (.ok false,T4):=nq (bA (v9 _) A4.h10 (K5 _ _ _)) rfl (yM true A4.h15 m2 kl.1 (by omega));have g4:jL true (ao "Story" "end" (aa (ag 9))) (aa (ag 13)) δ4 T4=some (.ok false,T4):=nq (bA (v9 _) A4.h10 (JU _ _ _)) rfl (zA true okF.1 (by omega));let T5:ai:=T4++[.lst [.int q.steps]];have A5:oV T5 n q:=A4.app _;have ls:cP (aQ (ao "Story" "steps" (aa (ag 9))) bW) δ4 T4=some (.ok (.ref T4.length),T5):=by
  have:aQ (ao "Story" "steps" (aa (ag 9))) bW δ4 T4=some (.ok [.int q.steps],T4):=aU (bA (v9 _) A4.h10 (IC _ _ _)) rfl;simp only [cP,au,this,List.length_singleton,if_pos z1'];rfl
 have g5:oN (nS (cJ bq (aQ (cP (aQ (ao "Story" "steps" (aa (ag 9))) bW)) bW))) δ4 T4=some (.ok false,T5):=vq (qF (cV (aU ls rfl) (pO (es:=[.int q.steps]) (by show (T4++_)[T4.length+0]?=_;rw [gA];rfl) (λ d hd=>⟨q.steps,List.mem_singleton.mp hd⟩) (by simp))));have m2':T5[b]?=some (.lst q.lns):=gL m2;have g6:jL true (ao "Story" "steps" (aa (ag 9))) (ji (aa (ag 11))) δ4 T5=some (.ok false,T5):=by
  have:=Jq (bA (v9 T5) A5.h10 (IC _ _ _)) (A8 (fo:=aa (ag 11)) (δ:=δ4) (l:=b) rfl m2');rw [this,decide_eq_true (by rw [z3,z2,List.length_map])];rfl
 have g7:aa (aC FK (rT (ag 6)) (ay 8)) δ4 T5=some (.ok false,T5):=by
  refine aq ((vD (a:=.str sh) (b:=.str sh) hsh rfl rfl).trans ?_);simp
 have r1:jL false (ao "Story" "brought" (aa (ag 9))) (aa (gC (eU ak))) δ4 T5=some (.ok true,T5):=nq (y:=.list []) (bA (v9 _) A5.h10 (Md _ _ _)) (aq (nW (l:=[]) rfl (by simp))) (A2 false A5.h12 rfl (by decide));have r2:jL false (ao "Story" "touches" (aa (ag 9))) (aa (gC (eU (ae (gC (eU ak)) ak)))) δ4 T5=some (.ok true,T5):=nq (y:=.list [.list []]) (bA (v9 _) A5.h10 (Lo _ _ _)) (aq (nW (l:=[.list []]) (cB (nW (l:=[]) rfl (by simp)) rfl) (by simp))) (xr A5.h13 A5.h16 rfl (by decide));let T6:ai:=T5++[.dK []];have A6:oV T6 n q:=A5.app _;have r3:yD (ao "Story" "puts" (aa (ag 9))) (wQ (aQ tG bW)) δ4 T5=some (.ok true,T6):=by
  have d1:wQ (aQ tG bW) δ4 T5=some (.ok (.list [.ref T5.length]),T6):=by
   have:aQ tG bW δ4 T5=some (.ok [.ref T5.length],T6):=aU rfl rfl;simp only [wQ,au,this,List.length_singleton,if_pos z1']
  have d2:xT (.ref (n+14)) (.list [.ref T5.length]) T6=some true:=by
   have l1:dG T6 (n+14)=some [.ref (n+17)]:=by simp only [dG,A6.h14]
   have k1:=zt A6.h17;have k2:rp (.ref T5.length) T6=some (T5.length,[]):=zt (by show (T5++_)[T5.length+0]?=_;rw [gA];rfl);simp only [xT,l1,Option.bind_some,FJ,k1,k2,Option.map_some];rfl
  have d0:ao "Story" "puts" (aa (ag 9)) δ4 T5=some (.ok (.ref (n+14)),T5):=bA (v9 _) A5.h10 (LH _ _ _);simp only [yD,au,d0,d1,d2,kz,Option.map_some]
 refine ⟨T6,?_⟩;refine (ah (δ':=δ (.val (.ref a)) .no .no .no) (S':=T++[.lst []]) (bb zc rfl)).trans ?_;refine (ah (δ':=δ (.val (.ref a)) (.val (.ref b)) .no .no) (S':=T2) (bb (d:=.ref b) (zc.trans ?_) rfl)).trans ?_
 . simp [T2,b]
 refine (ah (δ':=δ3) (bb (cV (ds:=[.list (P.map dW),.ref a,.ref b]) rfl eI) rfl)).trans ?_;refine (ah eM).trans ?_;refine (ah ((b9 (rF g1 (rF g2 (rF g3 g4)))).trans rfl)).trans ?_;refine (ah ((b9 (rF g5 (rF g6 g7))).trans rfl)).trans ?_;exact eg (uI (sJ r1) (uI (sJ r2) (sJ r3)))
end
structure Mn (a:PyData) (D w:Nat):Prop where
 sh:a.showable=true
 ly:a.canLay0=true
 is:a.intsShort 13=true
 d:a.depth<=D
 w:a.weight<=w
structure Mi (a:List PyData) (D w:Nat):Prop where
 sh:PyData.showableAll a=true
 ly:PyData.canLayAll0 a=true
 is:PyData.intsShortAll 13 a=true
 d:PyData.depthAll a<=D
 w:PyData.weightAll a<=w
noncomputable def RO (x:W) (D w:Nat):Prop:=∃ a,x.py=some a/\Mn a D w
noncomputable def RA (x:List W) (D w:Nat):Prop:=∃ a,W.pys x=some a/\Mi a D w
theorem RO.mono {x:W} {D w D' w':Nat} (h:RO x D w) (h1:D<=D') (h2:w<=w'):RO x D' w':=let ⟨a,e,r⟩:=h;⟨a,e,r.sh,r.ly,r.is,Nat.le_trans r.d h1,Nat.le_trans r.w h2⟩
theorem CL {n:Nat} (h:n<10^12):n.log2<40:=by
 by_cases h0:n=0
 . subst h0;decide
 . rw [Nat.log2_lt h0];have:(10:Nat)^12<2^40:=by decide
   omega
theorem RO.int {i:Int} (h:i.natAbs<10^12):RO (.int i) 0 41:=by
 have hl:=CL h;refine ⟨.int i,rfl,?_,rfl,?_,Nat.le_refl _,?_⟩
 . simp only [PyData.showable,decide_eq_true_eq];omega
 . simp only [PyData.intsShort,decide_eq_true_eq];exact PyData.shown_int_le h
 . simp only [PyData.weight];split <;> omega
theorem RO.str {x:Str} {s:Nat} (h:x.cps.size<=s) (h':PyData.strOk x=true):RO (.str x) 0 s:=⟨.str x,rfl,rfl,h',rfl,Nat.le_refl _,h⟩
theorem RA.nil (D:Nat):RA [] D 0:=⟨[],rfl,rfl,rfl,rfl,Nat.zero_le _,Nat.le_refl _⟩
theorem RA.cons {x:W} {xs:List W} {D w w':Nat} (h:RO x D w) (h':RA xs D w'):RA (x::xs) D (w+1+w'):=by
 obtain ⟨a,e,r⟩:=h;obtain ⟨as,es,rs⟩:=h';refine ⟨a::as,by simp only [W.pys,e,es,Option.bind_some,Option.map_some],?_,?_,?_,?_,?_⟩
 . simp only [PyData.showableAll,r.sh,rs.sh,Bool.and_self]
 . simp only [PyData.canLayAll0,r.ly,rs.ly,Bool.and_self]
 . simp only [PyData.intsShortAll,r.is,rs.is,Bool.and_self]
 . simp only [PyData.depthAll];exact Nat.max_le.mpr ⟨r.d,rs.d⟩
 . simp only [PyData.weightAll];have:=r.w;have:=rs.w;omega
theorem RA.tup {xs:List W} {D w:Nat} (h:RA xs D w):RO (.tuple xs) (D+1) w:=by
 obtain ⟨a,e,r⟩:=h;exact ⟨.tuple a,by simp only [W.py,e,Option.map_some],r.sh,r.ly,r.is,Nat.succ_le_succ r.d,r.w⟩
theorem RA.lst {xs:List W} {D w:Nat} (h:RA xs D w):RO (.list xs) (D+1) w:=by
 obtain ⟨a,e,r⟩:=h;exact ⟨.list a,by simp only [W.py,e,Option.map_some],r.sh,r.ly,r.is,Nat.succ_le_succ r.d,r.w⟩
theorem Hf {v:Int} (h:Rg v):v.natAbs<10^12:=by
 have e:(10:Nat)^12=1000000000000:=by decide
 rw [e];have:=h.1;have:=h.2;omega
theorem RA.mono {x:List W} {D w D' w':Nat} (h:RA x D w) (h1:D<=D') (h2:w<=w'):RA x D' w':=let ⟨a,e,r⟩:=h;⟨a,e,r.sh,r.ly,r.is,Nat.le_trans r.d h1,Nat.le_trans r.w h2⟩
noncomputable def fS (ns:List Int) (k:Nat):Int:=(ns[k]?).getD 0
theorem jh (ns:List Int) (k:Nat):bS [.list (ns.map .int),.int k]=some (.int (fS ns k)):=by
 refine cv rfl ?_;have t:aC rX (ay 1) (fB bT (ay 0)) [.val (.list (ns.map .int)),.val (.int k)]=some (decide (k<ns.length)):=by
  simp! [uD,List.length_map];congr 1;exact decide_eq_decide.mpr (by omega)
 by_cases h:k<ns.length
 . rw [decide_eq_true h] at t;refine fZ (aO (b:=true) t (b6 (ti (l:=ns.map .int) rfl rfl ?_)));rw [wL _ _ (by simpa using h)];simp [fS,List.getElem?_eq_getElem h]
 . rw [decide_eq_false h] at t;refine az (aO (b:=false) t rfl) (b6 ?_);simp [fS,List.getElem?_eq_none (Nat.le_of_not_lt h),dC]
noncomputable def ET (b:Int):Int:=((b*(b+48271)).fmod 2147483579).fdiv 5
noncomputable def nJ (x k:Int):Int:=ET (((x.fmod 2147483647+16807*k+7).fmod 2147483629*(x.fmod 2147483647+16807*k+7).fmod 2147483629).fmod 2147483587)
theorem kJ (x k:Int):ck [.int x,.int k]=some (.int (nJ x k)):=by
 have h1:=bQ (x.fmod 2147483647+16807*k+7) (j:=2147483629) (by decide);have h2:=bQ ((x.fmod 2147483647+16807*k+7).fmod 2147483629*(x.fmod 2147483647+16807*k+7).fmod 2147483629) (j:=2147483587) (by decide);have m0:=bK x (j:=2147483647) (by decide);have m1:=bK (x.fmod 2147483647+16807*k+7) (j:=2147483629) (by decide);have p0:je (.int 16807) (.int k)=some (.int (16807*k)):=j5 (iM (by decide) (by decide));unfold nJ;refine cv rfl ?_;refine az (δ1:=[.val (.int x),.val (.int k),.val (.int ((x.fmod 2147483647+16807*k+7).fmod 2147483629))]) (aG (by simp! [uD,m0,p0,m1]) rfl) ?_;generalize (x.fmod 2147483647+16807*k+7).fmod 2147483629=a at h1 h2 ⊢;have p1:je (.int a) (.int a)=some (.int (a*a)):=j5 (iM (by omega) (by omega));have m2:=bK (a*a) (j:=2147483587) (by decide);refine az (δ1:=[.val (.int x),.val (.int k),.val (.int ((a*a).fmod 2147483587))]) (aG (by simp! [uD,p1,m2]) rfl) ?_;generalize (a*a).fmod 2147483587=b at h2 ⊢;have p2:je (.int b) (.int (b+48271))=some (.int (b*(b+48271))):=j5 (iM (by omega) (by omega));have m3:=bK (b*(b+48271)) (j:=2147483579) (by decide);have d3:=gG ((b*(b+48271)).fmod 2147483579) (j:=5) (by decide) (by decide);refine b6 ?_;simp! [uD,p2,m3,d3,ET]
theorem tO (x k:Int):0<=nJ x k/\nJ x k<2147483579:=by
 unfold nJ;generalize ((x.fmod 2147483647+16807*k+7).fmod 2147483629*(x.fmod 2147483647+16807*k+7).fmod 2147483629).fmod 2147483587=b;unfold ET;have h:=bQ (b*(b+48271)) (j:=2147483579) (by decide);rw [Int.fdiv_eq_ediv_of_nonneg _ (by decide)];omega
noncomputable def oX (y:Str):Prop:=y.cps.size<=8/\∀ x∈y.cps.toList,x<1000
theorem oX.ok {y:Str} (h:oX y):PyData.strOk y=true:=by
 simp only [PyData.strOk];rw [Array.all_eq_true_iff_forall_mem];intro x hx;have:=h.2 x (Array.mem_toList_iff.mpr hx);simp;omega
noncomputable def qK:Str:=Str.ofString "abcdefghijklmnopqrstuvwxyz"
noncomputable def zv (k:Nat):Nat:=qK.cps.toList.getD k 0
theorem AT:qK.cps.toList.length=26:=by decide +kernel
theorem EG (k:Nat) (h:k<26):aR (.str qK) (.int k)=some (.str ⟨#[zv k]⟩):=by
 have hz:qK.length<=sizeLine:=sz _ (by decide +kernel);have hk:k<qK.cps.toList.length:=by rw [AT];omega
 show (if qK.length<=sizeLine then (jf qK.cps.toList (k:Int)).map λ c=>W.str ⟨#[c]⟩ else none)=_;rw [if_pos hz,wL _ k hk,List.getElem?_eq_getElem hk];simp [zv,List.getD,List.getElem?_eq_getElem hk]
noncomputable instance (y:Str):Decidable (oX y):=by unfold oX;infer_instance
noncomputable def qS (k:Nat):Str:=Txt.mul (Str.ofString "q") (k:Int)
noncomputable def Em (a b l:Nat):Str:=(qS a++(⟨#[zv l]⟩:Str))++qS b
theorem Dy:∀ (a b:Fin 8) (l:Fin 26),a.1+b.1<=7->oX (Em a.1 b.1 l.1):=by decide +kernel
theorem wX:∀ a:Fin 8,(qS a.1).length<=8:=by decide +kernel
theorem Gb:(Str.ofString "q").length<=1000:=by decide +kernel
theorem yo (k:Nat) (h:k<8):sf (.str "q") (.int (k:Int))=some (.str (qS k)):=by
 show (if (decide (0<=(k:Int))&&decide ((k:Int)<=1000)&&decide ((Str.ofString "q").length<=1000))=true then some (W.str (Txt.mul (Str.ofString "q") (k:Int))) else none)=_;rw [if_pos (by simp [Gb];omega)];rfl
theorem Kc (a b:Str):(a++b).length=a.length+b.length:=strLen_append a b
theorem zm:∀ (a b:Fin 8) (l:Fin 26),Em a.1 b.1 l.1≠Str.ofString "main" := by decide +kernel
theorem sP {h:W->DS->Option DS} {fb:DS->Option fA} {d:W} {ds:List W} {δ δ2 δ':DS} (h1:h d δ=some δ2) (h2:fb δ2=some (.nx δ')):bO h fb (d::ds) δ=bO h fb ds δ':=by simp only [bO,h1,Option.bind_some,h2]
theorem nF {f:DS->Option W} {δ:DS} {n:Nat} (hf:f δ=some (.int n)) (hn:n<1000):iR (ae f ak) δ=some (gi 0 n):=by
 have e:ae f ak δ=some [.int n]:=cB hf rfl;have r:=zH (j:=(n:Int)) (by omega) (by omega);show (ae f ak δ).bind uQ=_;rw [e,Option.bind_some,r];rfl
theorem rY {i:Nat} {δ:DS} {l:List W} {f:DS->Option W} {x:W} (ho:ny i δ=some l) (hf:f δ=some x) (hl:l.length<1000):aV i f δ=some (.nx (δ.set i (.own (l++[x])))):=by
 have z:l.length<sizeLine:=Nat.lt_of_lt_of_le hl (sz 1000 (by decide));simp only [aV,ho,hf,Option.bind_some,if_pos z]
noncomputable def y1 (s:Str):Prop:=oX s/\s≠Str.ofString "main"
theorem wO (c:Int):∃ L:List Str,iE [.int c]=some (.list (L.map .str))/\L.length=17/\∀ s∈L,y1 s:=by
 have r8:=bQ c (j:=8) (by decide);obtain ⟨s,hs⟩:∃ s:Nat,c.fmod 8=s:=⟨(c.fmod 8).toNat,by omega⟩
 have ra:=bQ (c.fdiv 8) (j:=1+(s:Int)) (by omega);obtain ⟨a,ha⟩:∃ a:Nat,(c.fdiv 8).fmod (1+(s:Int))=a:=⟨((c.fdiv 8).fmod (1+(s:Int))).toNat,by omega⟩
 obtain ⟨b,hb⟩:∃ b:Nat,b=s-a:=⟨_,rfl⟩
 have hab:a+b<=7:=by omega
 have m1:=yo a (by omega);have m2:=yo b (by omega);have qa:=wX ⟨a,by omega⟩;have qb:=wX ⟨b,by omega⟩;dsimp only at qa qb;have g1:∀ k:Nat,bv (.str (qS a)) (.str ⟨#[zv k]⟩)=some (.str (qS a++⟨#[zv k]⟩)):=λ k=>yK (sz _ (by have:(⟨#[zv k]⟩:Str).length=1:=rfl;omega));have g2:∀ k:Nat,bv (.str (qS a++⟨#[zv k]⟩)) (.str (qS b))=some (.str (Em a b k)):=λ k=>yK (sz _ (by rw [Kc];have:(⟨#[zv k]⟩:Str).length=1:=rfl;omega));have eb:(1+(s:Int))-1-(a:Int)=(b:Int):=by omega
 let δ (l:List Str) (s5 s6:Sl):DS:=[.val (.int c),.val (.int (1+(s:Int))),.val (.int a),.val (.str qK),.own (l.map .str),s5,s6]
 have loop:∀ (n k:Nat) (l:List Str) (s5 s6:Sl),l.length+n<=17->∃ l' s5' s6',bO (aj 5) jA (gi k n) (δ l s5 s6)=some (.nx (δ (l++l') s5' s6'))/\l'.length=n/\∀ x∈l',y1 x:=by
  intro n;induction n with
  | zero=>exact λ k l s5 s6 _=>⟨[],s5,s6,by simp [gi,bO],rfl,λ _ h=>absurd h List.not_mem_nil⟩
  | succ n ih=>
   intro k l s5 s6 hl;have rl:=bQ (c.fdiv 64+(k:Int)) (j:=26) (by decide);obtain ⟨q,hq⟩:∃ q:Nat,(c.fdiv 64+(k:Int)).fmod 26=q:=⟨((c.fdiv 64+(k:Int)).fmod 26).toNat,by omega⟩
   obtain ⟨l',t5,t6,e,h1,h2⟩:=ih (k+1) (l++[Em a b q]) (.val (.int k)) (.val (.str ⟨#[zv q]⟩)) (by simp;omega);refine ⟨Em a b q::l',t5,t6,?_,by simp [h1],?_⟩
   . rw [io];refine (sP (δ2:=δ l (.val (.int k)) s6) (δ':=δ (l++[Em a b q]) (.val (.int k)) (.val (.str ⟨#[zv q]⟩))) rfl ?_).trans ?_
     . refine az (δ1:=δ l (.val (.int k)) (.val (.str ⟨#[zv q]⟩))) (aG (dO rfl (dO (dO (dO rfl rfl (gG c (by decide) (by decide))) rfl (bZ _ _)) rfl ((bK _ (by decide)).trans (by rw [hq]))) (EG q (by omega))) rfl) ?_;refine (rY (l:=l.map .str) (x:=.str (Em a b q)) rfl (dO (dO (dO rfl rfl m1) rfl (g1 q)) (dO rfl (dO (dO rfl rfl (lF _ _)) rfl ((lF _ _).trans (by rw [eb]))) m2) (g2 q)) (by simp;omega)).trans ?_;simp [δ]
     . have ek:((k+1:Nat):Int)=(k:Int)+1:=by omega
       rw [ek] at e;rw [e];simp
   . intro x hx;rcases List.mem_cons.mp hx with rfl | hx
     . exact ⟨Dy ⟨a,by omega⟩ ⟨b,by omega⟩ ⟨q,by omega⟩ hab,zm ⟨a,by omega⟩ ⟨b,by omega⟩ ⟨q,by omega⟩⟩
     . exact h2 x hx
 obtain ⟨l',t5,t6,e,h1,h2⟩:=loop 17 0 [] .no .no (by simp);refine ⟨l',?_,h1,h2⟩;let δ0 (s1 s2 s3 s4:Sl):DS:=[.val (.int c),s1,s2,s3,s4,.no,.no]
 refine cv rfl ?_;refine az (δ1:=δ0 (.val (.int (1+(s:Int)))) .no .no .no) (aG (dO rfl (dO rfl rfl ((bK c (by decide)).trans (by rw [hs]))) rfl) rfl) ?_;refine az (δ1:=δ0 (.val (.int (1+(s:Int)))) (.val (.int a)) .no .no) (aG (dO (dO rfl rfl (gG c (by decide) (by decide))) rfl ((bK _ (by omega)).trans (by rw [ha]))) rfl) ?_;refine az (δ1:=δ0 (.val (.int (1+(s:Int)))) (.val (.int a)) (.val (.str qK)) .no) rfl ?_;refine az (δ1:=δ [] .no .no) ?_ ?_
 . have z:=sz 0 (by decide);simp only [gK,eU,ak,Option.bind_some,List.length_nil,if_pos z,Option.map_some];rfl
 refine az (δ1:=δ l' t5 t6) ?_ rfl;show (iR _ _).bind _=_;rw [nF (n:=17) rfl (by omega),Option.bind_some];simpa using e
structure GT (t:Tr):Prop where
 ok:jY t
 dp:iQ t<3
 ro:RO (tw t) 2 120
theorem lh:((Str.ofString "num").cps.size<=5/\PyData.strOk (Str.ofString "num")=true)/\((Str.ofString "name").cps.size<=5/\PyData.strOk (Str.ofString "name")=true)/\((li 0).cps.size<=5/\PyData.strOk (li 0)=true)/\(∀ w∈["set", "tell", "call", "return", "main", "zz", "zzz"],(Str.ofString w).cps.size<=6/\PyData.strOk (Str.ofString w)=true):=by decide +kernel
theorem xy {v:Int} (h:Rg v):RO (tw (.num v)) 1 49:=(RA.cons (RO.str lh.1.1 lh.1.2) (RA.cons (RO.int (Hf h)) (RA.nil _))).tup.mono (Nat.le_refl _) (by omega)
theorem qu {x:Str} (h:oX x):RO (tw (.nam x)) 1 49:=(RA.cons (RO.str lh.2.1.1 lh.2.1.2) (RA.cons (RO.str h.1 h.ok) (RA.nil _))).tup.mono (Nat.le_refl _) (by omega)
theorem xi {v:Int} (h:Rg v):GT (.num v):=⟨h,by simp [iQ],(xy h).mono (by omega) (by omega)⟩
theorem qv {x:Str} (h:oX x):GT (.nam x):=⟨trivial,by simp [iQ],(qu h).mono (by omega) (by omega)⟩
theorem DX {x y:Str} (h:oX x) (h':oX y):GT (.op 0 (.nam x) (.nam y)):=⟨⟨rfl,trivial,trivial⟩,by simp [iQ],(RA.cons (D:=1) ((RO.str lh.2.2.1.1 lh.2.2.1.2).mono (by omega) (Nat.le_refl _)) (RA.cons (qu h) (RA.cons (qu h') (RA.nil _)))).tup.mono (Nat.le_refl _) (by omega)⟩
theorem Eg {x:Str} {v:Int} (h:oX x) (h':Rg v):GT (.op 0 (.nam x) (.num v)):=⟨⟨rfl,trivial,h'⟩,by simp [iQ],(RA.cons (D:=1) ((RO.str lh.2.2.1.1 lh.2.2.1.2).mono (by omega) (Nat.le_refl _)) (RA.cons (qu h) (RA.cons (xy h') (RA.nil _)))).tup.mono (Nat.le_refl _) (by omega)⟩
noncomputable def zz:Str:=Str.ofString "zz"
theorem pL:oX zz/\oX zzz:=by decide +kernel
theorem Di {l:List W} {k:Int} (hl:l≠[]):∃ x∈l,jf l (k.fmod l.length)=some x:=by
 have hp:0<l.length:=List.length_pos_iff.mpr hl;have r:=bQ k (j:=(l.length:Int)) (by omega);obtain ⟨i,hi⟩:∃ i:Nat,k.fmod l.length=i:=⟨(k.fmod l.length).toNat,by omega⟩
 rw [hi];have hi':i<l.length:=by omega
 exact ⟨l[i],List.getElem_mem hi',by rw [wL _ _ hi',List.getElem?_eq_getElem hi']⟩
theorem xZ {n k:Int} (h:0<=n) (hk:0<k):0<=n.fdiv k/\n.fdiv k<=n:=by
 rw [Int.fdiv_eq_ediv_of_nonneg _ (by omega)];exact ⟨Int.ediv_nonneg h (by omega),Int.ediv_le_self _ h⟩
noncomputable def wP (m:Int):Int:=(m*7919007919).fmod 1999999999-999999999
theorem uZ (m:Int):Rg (wP m):=by
 have:=bQ (m*7919007919) (j:=1999999999) (by decide);unfold wP;constructor <;> omega
theorem vw {f:DS->Option W} {δ:DS} {m:Int} (hf:f δ=some (.int m)) (h0:0<=m) (h1:m<2147483648):aA gSub' (aA cx (aA je f (dC (.int (7919007919)))) (dC (.int (1999999999)))) (dC (.int (999999999))) δ=some (.int (wP m)):=
 dO (dO (dO hf rfl (j5 (iM (by omega) (by omega)))) rfl (bK _ (by decide))) rfl (lF _ _)
theorem tP {n:Int} (h0:0<=n) (h1:n<2147483648) {ps:List Str} (hs:∀ s∈ps,oX s) (hl:ps.length<1000):∃ t,ie [.int n,.list (ps.map .str)]=some (tw t)/\GT t:=by
 have q6:=xZ h0 (k:=6) (by decide);have q7:=xZ q6.1 (k:=7) (by decide);have r6:=bQ n (j:=6) (by decide);let δ:DS:=[.val (.int n),.val (.list (ps.map .str)),.val (.int (n.fdiv 6))]
 have a1:aW (aA jx (ay 0) (dC (.int (6)))) (aj 2) [.val (.int n),.val (.list (ps.map .str)),.no]=some (.nx δ):=aG (dO rfl rfl (gG n (by decide) (by decide))) rfl;have nr:=vw (f:=ay 2) (δ:=δ) rfl q6.1 (by omega);have m6:aA cx (ay 0) (dC (.int (6))) δ=some (.int (n.fmod 6)):=dO rfl rfl (bK n (by decide));have c1:aC rX (aA cx (ay 0) (dC (.int (6)))) (dC (.int (2))) δ=some (decide (n.fmod 6<2)):=vD m6 rfl rfl;have c2:aC dJ (fB bT (ay 1)) (dC (.int (0))) δ=some (decide ((ps.length:Int)=0)):=by
  have:fB bT (ay 1) δ=some (.int (ps.map W.str).length):=rfl;rw [List.length_map] at this;exact vD this rfl rfl
 have c:zC (aC rX (aA cx (ay 0) (dC (.int (6)))) (dC (.int (2)))) (aC dJ (fB bT (ay 1)) (dC (.int (0)))) δ=some (decide (n.fmod 6<2)||decide ((ps.length:Int)=0)):=by
  by_cases h:n.fmod 6<2
  . rw [decide_eq_true h] at c1 ⊢;simp only [zC,c1,Option.bind_some,if_true,Bool.true_or]
  . rw [decide_eq_false h] at c1 ⊢;simp only [zC,c1,Option.bind_some,Bool.false_eq_true,if_false,c2,Bool.false_or]
 by_cases hc:n.fmod 6<2∨(ps.length:Int)=0
 . refine ⟨.num (wP (n.fdiv 6)),?_,xi (uZ _)⟩;have e:(decide (n.fmod 6<2)||decide ((ps.length:Int)=0))=true:=by simpa using hc
   rw [e] at c;exact cv rfl (az a1 (fZ (aO (b:=true) c (b6 (ug rfl nr)))))
 . have e:(decide (n.fmod 6<2)||decide ((ps.length:Int)=0))=false:=by
    rw [not_or] at hc;simp only [hc.1,hc.2,decide_false,Bool.or_self]
   rw [e] at c;have hne:ps.map W.str≠[]:=λ z=>hc (.inr (by have:=congrArg List.length z;simp at this;simp [this]));obtain ⟨w,hw,ex⟩:=Di (k:=n.fdiv 6) hne;obtain ⟨x,hx,rfl⟩:=List.mem_map.mp hw;have sx:=hs x hx;have ix:∀ (s:Sl),aA aR (ay 1) (aA cx (ay 2) (fB bT (ay 1))) [s,.val (.list (ps.map .str)),.val (.int (n.fdiv 6))]=some (.str x):=λ s=>ti (l:=ps.map .str) rfl (dO rfl (show fB bT (ay 1) [s,.val (.list (ps.map .str)),.val (.int (n.fdiv 6))]=some (.int (ps.map W.str).length) from rfl) (bK _ (by have:=List.length_pos_iff.mpr hne;omega))) ex;by_cases h4:n.fmod 6<4
   . have c4:aC rX (aA cx (ay 0) (dC (.int (6)))) (dC (.int (4))) δ=some true:=(vD (r:=decide (n.fmod 6<4)) m6 rfl rfl).trans (by rw [decide_eq_true h4]);exact ⟨.nam x,cv rfl (az a1 (az (aO (b:=false) c rfl) (fZ (aO (b:=true) c4 (b6 (ug rfl (ix _))))))),qv sx⟩
   . have c4:aC rX (aA cx (ay 0) (dC (.int (6)))) (dC (.int (4))) δ=some false:=(vD (r:=decide (n.fmod 6<4)) m6 rfl rfl).trans (by rw [decide_eq_false h4]);refine ⟨.op 0 (.nam x) (.num (wP ((n.fdiv 6).fdiv 7))),cv rfl (az a1 (az (aO (b:=false) c rfl) (az (aO (b:=false) c4 rfl) (az (δ1:=[.val (.int (wP ((n.fdiv 6).fdiv 7))),.val (.list (ps.map .str)),.val (.int (n.fdiv 6))]) (aG (vw (dO rfl rfl (gG _ (by decide) (by decide))) q7.1 (by omega)) rfl) (b6 (Hl rfl (ug rfl (ix _)) (ug rfl rfl))))))),Eg sx (uZ _)⟩
structure Pn where
 nm:Str
 ps:List Str
 num:Int
 way:Int
noncomputable def mW (p:Pn):W:=.list [.str p.nm,.list (p.ps.map .str),.int p.num,.int p.way]
structure tJ (k:Nat) (p:Pn):Prop where
 z:k=0->p.nm=Str.ofString "main" /\ p.ps=[]
 s:k≠0->y1 p.nm
 l:p.ps.length<=6
 sh:∀ s∈p.ps,oX s
 rg:Rg p.num
theorem Aa {L:List Str} (hL:L.length=17) (hs:∀ s∈L,y1 s) (t:Int):∀ (n k:Nat),∃ ps:List Str,gj (aj 2) lB (aA aR (ay 0) (aA cx (aA bv (ay 1) (ag 2)) (dC (.int (6))))) [.val (.list (L.map .str)),.val (.int t),.no] (gi k n)=some (ps.map .str)/\ps.length=n/\∀ s∈ps,oX s:=by
 intro n;induction n with
 | zero=>exact λ k=>⟨[],by simp [gi,gj],rfl,λ _ h=>absurd h List.not_mem_nil⟩
 | succ n ih=>
  intro k;obtain ⟨ps,e,h1,h2⟩:=ih (k+1);have r:=bQ (t+k) (j:=6) (by decide);obtain ⟨i,hi⟩:∃ i:Nat,(t+(k:Int)).fmod 6=i:=⟨((t+(k:Int)).fmod 6).toNat,by omega⟩
  have il:i<L.length:=by omega
  have ex:aA aR (ay 0) (aA cx (aA bv (ay 1) (ag 2)) (dC (.int (6)))) [.val (.list (L.map .str)),.val (.int t),.val (.int k)]=some (.str L[i]):=by
   refine ti (l:=L.map .str) rfl (dO (dO rfl rfl (bZ _ _)) rfl ((bK _ (by decide)).trans (by rw [hi]))) ?_;rw [wL _ _ (by simpa using il)];simp [il]
  refine ⟨L[i]::ps,?_,by simp [h1],λ s hs'=>?_⟩
  . rw [io];have y:lB [.val (.list (L.map .str)),.val (.int t),.val (.int (k:Int))]=some true:=rfl;have g:aj 2 (.int k) [.val (.list (L.map .str)),.val (.int t),.no]=some [.val (.list (L.map .str)),.val (.int t),.val (.int (k:Int))]:=rfl;have ek:((k+1:Nat):Int)=(k:Int)+1:=by omega
    rw [ek] at e;simp only [gj,g,Option.bind_some,y,if_true,ex,e,Option.map_some,List.map_cons]
  . rcases List.mem_cons.mp hs' with rfl | hs'
    . exact (hs _ (List.getElem_mem il)).1
    . exact h2 s hs'
theorem yv (ns:List Int) {L:List Str} (hL:L.length=17) (hs:∀ s∈L,y1 s) {many:Nat} (hm:many<=8):∃ Ps:List Pn,jD [.list (ns.map .int),.int many,.list (L.map .str)]=some (.list (Ps.map mW))/\Ps.length=many+1/\∀ k p,Ps[k]?=some p->tJ k p:=by
 let δ (l:List Pn) (s4 s5 s6 s7 s8 s9 s10:Sl):DS:=[.val (.list (ns.map .int)),.val (.int many),.val (.list (L.map .str)),.own (l.map mW),s4,s5,s6,s7,s8,s9,s10]
 have loop:∀ (n k:Nat) (l:List Pn) (s4 s5 s6 s7 s8 s9 s10:Sl),k+n<=9->l.length=k->∃ l' t4 t5 t6 t7 t8 t9 t10,bO (aj 4) hX (gi k n) (δ l s4 s5 s6 s7 s8 s9 s10)=some (.nx (δ (l++l') t4 t5 t6 t7 t8 t9 t10))/\l'.length=n/\∀ i p,l'[i]?=some p->tJ (k+i) p:=by
  intro n;induction n with
  | zero=>exact λ k l s4 s5 s6 s7 s8 s9 s10 _ _=>⟨[],s4,s5,s6,s7,s8,s9,s10,by simp [gi,bO],rfl,λ i p h=>by cases h⟩
  | succ n ih=>
   intro k l s4 s5 s6 s7 s8 s9 s10 hk hl;have cr:=jh ns (2+k);rw [show ((2+k:Nat):Int)=2+(k:Int) by omega] at cr;generalize fS ns (2+k)=ce at cr;have mr:=tO ce ((k:Int)+600);have mx:=kJ ce ((k:Int)+600);generalize nJ ce ((k:Int)+600)=dr at mr mx;have r7:=bQ dr (j:=7) (by decide);obtain ⟨z,hz⟩:∃ z:Nat,dr.fmod 7=z:=⟨(dr.fmod 7).toNat,by omega⟩
   let tu:Int:=(dr.fdiv 7).fmod 6;let z':Nat:=if k=0 then 0 else z
   obtain ⟨ps,cp,pl,psh⟩:=Aa hL hs tu z' 0;have il:6+k<L.length:=by omega
   let nm:Str:=if k=0 then Str.ofString "main" else L[6+k]
   let nu:Int:=(ce+dr*7919).fmod 1999999999-999999999;have rn:=bQ (ce+dr*7919) (j:=1999999999) (by decide);let wy:Int:=(nJ ce k).fmod 4;let p:Pn:=⟨nm,ps,nu,wy⟩
   obtain ⟨l',t4,t5,t6,t7,t8,t9,t10,e,h1,h2⟩:=ih (k+1) (l++[p]) (.val (.int k)) (.val (.int ce)) (.val (.int dr)) (.val (.int z')) (.val (.int tu)) (.val (.list (ps.map .str))) (.val (.int nu)) (by omega) (by simp [hl]);refine ⟨p::l',t4,t5,t6,t7,t8,t9,t10,?_,by simp [h1],?_⟩
   . rw [io];have st:hX (δ l (.val (.int k)) s5 s6 s7 s8 s9 s10)=some (.nx (δ (l++[p]) (.val (.int k)) (.val (.int ce)) (.val (.int dr)) (.val (.int z')) (.val (.int tu)) (.val (.list (ps.map .str))) (.val (.int nu)))):=by
      refine az (δ1:=δ l (.val (.int k)) (.val (.int ce)) s6 s7 s8 s9 s10) (aG (p8 (ds:=[.list (ns.map .int),.int (2+(k:Int))]) (cB rfl (cB (dO rfl rfl (bZ _ _)) rfl)) cr) rfl) ?_;refine az (δ1:=δ l (.val (.int k)) (.val (.int ce)) (.val (.int dr)) s7 s8 s9 s10) (aG (p8 (ds:=[.int ce,.int ((k:Int)+600)]) (cB rfl (cB (dO rfl rfl (bZ _ _)) rfl)) mx) rfl) ?_;refine az (δ1:=δ l (.val (.int k)) (.val (.int ce)) (.val (.int dr)) (.val (.int z)) s8 s9 s10) (aG (dO rfl rfl ((bK _ (by decide)).trans (by rw [hz]))) rfl) ?_;refine az (δ1:=δ l (.val (.int k)) (.val (.int ce)) (.val (.int dr)) (.val (.int z)) (.val (.int tu)) s9 s10) (aG (dO (dO rfl rfl (gG _ (by decide) (by decide))) rfl (bK _ (by decide))) rfl) ?_;refine az (δ1:=δ l (.val (.int k)) (.val (.int ce)) (.val (.int dr)) (.val (.int z')) (.val (.int tu)) s9 s10) ?_ ?_
      . by_cases hk0:k=0
        . have c:aC dJ (ay 4) (dC (.int (0))) (δ l (.val (.int k)) (.val (.int ce)) (.val (.int dr)) (.val (.int z)) (.val (.int tu)) s9 s10)=some true:=(vD (r:=decide ((k:Int)=0)) rfl rfl rfl).trans (by rw [decide_eq_true (by omega)]);refine aO (b:=true) c (aG rfl ?_);simp only [z',hk0,if_true];rfl
        . have c:aC dJ (ay 4) (dC (.int (0))) (δ l (.val (.int k)) (.val (.int ce)) (.val (.int dr)) (.val (.int z)) (.val (.int tu)) s9 s10)=some false:=(vD (r:=decide ((k:Int)=0)) rfl rfl rfl).trans (by rw [decide_eq_false (by omega)]);refine aO (b:=false) c ?_;simp only [z',hk0,if_false];rfl
      refine az (δ1:=δ l (.val (.int k)) (.val (.int ce)) (.val (.int dr)) (.val (.int z')) (.val (.int tu)) (.val (.list (ps.map .str))) s10) (aG ?_ rfl) ?_
      . have zl:z'<1000:=by simp only [z'];split <;> omega
        have rr:=nF (f:=ag 7) (δ:=δ l (.val (.int k)) (.val (.int ce)) (.val (.int dr)) (.val (.int z')) (.val (.int tu)) s9 s10) (n:=z') rfl zl;have lz:(gi 0 z').length<=sizeLine:=sz _ (by simp [gi];omega);have lf:bf [some 2,some 8,none] (δ l (.val (.int k)) (.val (.int ce)) (.val (.int dr)) (.val (.int z')) (.val (.int tu)) s9 s10)=[.val (.list (L.map .str)),.val (.int tu),.no]:=rfl;simp only [gC,vh,rr,Option.bind_some,if_pos lz,lf];rw [show gj (aj 2) lB (aA aR (ay 0) (aA cx (aA bv (ay 1) (ag 2)) (dC (.int (6))))) [.val (.list (L.map .str)),.val (.int tu),.no] (gi 0 z')=some (ps.map .str) from cp];rfl
      refine az (δ1:=δ l (.val (.int k)) (.val (.int ce)) (.val (.int dr)) (.val (.int z')) (.val (.int tu)) (.val (.list (ps.map .str))) (.val (.int nu))) (aG (dO (dO (dO rfl (dO rfl rfl (j5 (iM (by omega) (by omega)))) (bZ _ _)) rfl (bK _ (by decide))) rfl (lF _ _)) rfl) ?_;let δf:DS:=δ l (.val (.int k)) (.val (.int ce)) (.val (.int dr)) (.val (.int z')) (.val (.int tu)) (.val (.list (ps.map .str))) (.val (.int nu));have n6:aA aR (ay 2) (aA bv (dC (.int (6))) (ag 4)) δf=some (.str L[6+k]):=by
       refine ti (l:=L.map .str) (i:=((6+k:Nat):Int)) rfl ((dO rfl rfl (bZ _ _)).trans (by rw [show ((6+k:Nat):Int)=6+(k:Int) by omega])) ?_;rw [wL _ _ (by simpa using il)];simp [il]
      have ow:=nW (l:=[.str "main", .str L[6+k]]) (f:=ae (dC (.str "main")) (ae (aA aR (ay 2) (aA bv (dC (.int (6))) (ag 4))) ak)) (δ:=δf) (cB rfl (cB n6 rfl)) (by simp);have ib:sI (dB (aC mD (ay 4) (dC (.int (0))))) δf=some (.int (if k=0 then 0 else 1)):=by
       have c:aC mD (ay 4) (dC (.int (0))) δf=some (decide ((k:Int)>0)):=rfl;simp only [sI,dB,c,Option.map_some,Option.bind_some];by_cases hk0:k=0
       . rw [decide_eq_false (by omega),if_pos hk0];rfl
       . rw [decide_eq_true (by omega),if_neg hk0];rfl
      have nx:aA aR (gC (eU (ae (dC (.str "main")) (ae (aA aR (ay 2) (aA bv (dC (.int (6))) (ag 4))) ak)))) (sI (dB (aC mD (ay 4) (dC (.int (0)))))) δf=some (.str nm):=by
       refine ti ow ib ?_;simp only [nm];by_cases hk0:k=0
       . rw [if_pos hk0,if_pos hk0];exact Hy _ _
       . rw [if_neg hk0,if_neg hk0];exact IH _ _ _
      have wr':aA cx (bU ck (ae (ag 5) (ae (ag 4) ak))) (dC (.int (4))) δf=some (.int wy):=dO (p8 (ds:=[.int ce,.int k]) rfl (kJ _ _)) rfl (bK _ (by decide));refine (rY (l:=l.map mW) (x:=mW p) rfl (nW (cB nx (cB rfl (cB rfl (cB wr' rfl)))) (by simp)) (by simp;omega)).trans ?_;simp [δ,δf]
     refine (sP rfl st).trans ?_;have ek:((k+1:Nat):Int)=(k:Int)+1:=by omega
     rw [ek] at e;rw [e];simp
   . intro i q hq;cases i with
     | zero=>
      cases hq;refine ⟨λ h=>?_,λ h=>?_,?_,psh,?_⟩
      . have h0:k=0:=h;refine ⟨by simp only [p,nm,h0,if_true],?_⟩;have:ps.length=0:=by rw [pl];simp only [z',h0,if_true]
        exact List.length_eq_zero_iff.mp this
      . have h0:k≠0:=h;simp only [p,nm,h0,if_false];exact hs _ (List.getElem_mem il)
      . show ps.length<=6;rw [pl];simp only [z'];split <;> omega
      . show Rg nu;constructor <;> omega
     | succ i=>
      have:=h2 i q hq;rw [show k+1+i=k+(i+1) by omega] at this;exact this
 obtain ⟨l',t4,t5,t6,t7,t8,t9,t10,e,h1,h2⟩:=loop (many+1) 0 [] .no .no .no .no .no .no .no (by omega) rfl;refine ⟨l',?_,h1,λ k p hp=>by simpa using h2 k p hp⟩;refine cv rfl ?_;refine az (δ1:=δ [] .no .no .no .no .no .no .no) ?_ ?_
 . have z:=sz 0 (by decide);simp only [gK,eU,ak,Option.bind_some,List.length_nil,if_pos z,Option.map_some];rfl
 refine az (δ1:=δ l' t4 t5 t6 t7 t8 t9 t10) ?_ rfl;show (iR _ _).bind _=_;rw [nF (n:=many+1) ((dO rfl rfl (bZ _ _)).trans (by rw [show ((many+1:Nat):Int)=(many:Int)+1 by omega])) (by omega),Option.bind_some];simpa using e
theorem yS (p:Int) (rs:List Rw) (r:Rw):bP p (rs++[r])=bP p rs++[bY (p+rs.length) r]:=i9 rs [r] p
structure FG where
 sc:W
 Ps:List Pn
 k:Nat
 ln:Int
 ar:Int
 p:Pn
noncomputable def dB' (c:FG) (rs:List Rw) (s11 s12 s13 s14 s15:Sl):DS:=[.val c.sc,.val (.list (c.Ps.map mW)),.val (.int c.k),.val (.int c.ln),.val (.int c.ar),.val (.int (c.Ps.length-1:Int)),.val (.str c.p.nm),.val (.list (c.p.ps.map .str)),.val (.int c.p.num),.val (.int c.p.way),.own (bP c.ln rs),s11,s12,s13,s14,s15]
section
variable {c:FG} {rs:List Rw} {s11 s12 s13 s14 s15:Sl}
theorem uN:aA bv (ay 3) (fB bT (ay 10)) (dB' c rs s11 s12 s13 s14 s15)=some (.int (c.ln+rs.length)):=by
 have:fB bT (ay 10) (dB' c rs s11 s12 s13 s14 s15)=some (.int (bP c.ln rs).length):=rfl;rw [mZ] at this;exact dO rfl this (bZ _ _)
theorem vb {f:DS->Option W} {r:Rw} (h:f (dB' c rs s11 s12 s13 s14 s15)=some (bY (c.ln+rs.length) r)) (hl:rs.length<900):aV 10 f (dB' c rs s11 s12 s13 s14 s15)=some (.nx (dB' c (rs++[r]) s11 s12 s13 s14 s15)):=by
 refine (rY (l:=bP c.ln rs) rfl h (by rw [mZ];omega)).trans ?_;rw [<-yS];rfl
theorem qB {x:W} {y:Str} {g:DS->Option W} (hg:g (dB' c rs s11 s12 s13 s14 s15)=some (.str y)) (hl:rs.length<900):aV 10 (bx (ae (dC (.str "tell")) (ae (aA bv (ay 3) (fB bT (ay 10))) (ae (bx (ae (dC (.str "name")) (ae g ak))) ak)))) (dB' c rs s11 s12 s13 s14 s15)=some (.nx (dB' c (rs++[.tell (.nam y)]) s11 s12 s13 s14 s15)):=
 vb (Hl rfl uN (ug rfl hg)) hl
theorem ul {g:DS->Option W} {t:Tr} (hg:g (dB' c rs s11 s12 s13 s14 s15)=some (tw t)) (hl:rs.length<900):aV 10 (bx (ae (dC (.str "return")) (ae (aA bv (ay 3) (fB bT (ay 10))) (ae g ak)))) (dB' c rs s11 s12 s13 s14 s15)=some (.nx (dB' c (rs++[.ret t]) s11 s12 s13 s14 s15)):=
 vb (Hl rfl uN hg) hl
end
theorem uO {c:FG} {s12 s13 s14 s15:Sl}:∀ (ps:List Str) (rs:List Rw) (s11:Sl),rs.length+ps.length<900->∃ s11',bO (aj 11) ka (ps.map .str) (dB' c rs s11 s12 s13 s14 s15)=some (.nx (dB' c (rs++ps.map λ x=>.tell (.nam x)) s11' s12 s13 s14 s15))
 | [],rs,s11,_=>⟨s11,by simp [bO]⟩
 | x::ps,rs,s11,h=>by
  simp only [List.length_cons] at h;obtain ⟨t,e⟩:=uO ps (rs++[.tell (.nam x)]) (.val (.str x)) (by simp;omega);refine ⟨t,(sP (δ2:=dB' c rs (.val (.str x)) s12 s13 s14 s15) rfl (qB (x:=.none) rfl (by omega))).trans (e.trans ?_)⟩;simp
theorem AS {c:FG} {ns:List Int} (hsc:c.sc=.list (ns.map .int)) (hk:c.k<=8) {rs:List Rw} {s11 s12:Sl} (hp:∀ s∈c.p.ps,oX s) (hpl:c.p.ps.length<=6):∀ (n j:Nat) (ts:List Tr) (s14 s15:Sl),j+n<=7->ts.length=j->∃ ts' s14' s15',bO (aj 14) fO (gi j n) (dB' c rs s11 s12 (.own (ts.map tw)) s14 s15)=some (.nx (dB' c rs s11 s12 (.own ((ts++ts').map tw)) s14' s15'))/\ts'.length=n/\∀ t∈ts',GT t:=by
 intro n;induction n with
 | zero=>exact λ j ts s14 s15 _ _=>⟨[],s14,s15,by simp [gi,bO],rfl,λ _ h=>absurd h List.not_mem_nil⟩
 | succ n ih=>
  intro j ts s14 s15 hj hl;have k1:=jh ns (2+c.k);rw [show ((2+c.k:Nat):Int)=2+(c.k:Int) by omega] at k1;have r52:=bQ (7*(c.k:Int)+(j:Int)) (j:=52) (by decide);obtain ⟨u,hu⟩:∃ u:Nat,(7*(c.k:Int)+(j:Int)).fmod 52=u:=⟨((7*(c.k:Int)+(j:Int)).fmod 52).toNat,by omega⟩
  have k2:=jh ns (11+u);rw [show ((11+u:Nat):Int)=11+(u:Int) by omega] at k2;generalize fS ns (2+c.k)=a at k1;generalize fS ns (11+u)=b at k2;have mr:=tO (a+b) (7*(c.k:Int)+(j:Int));have mx:=kJ (a+b) (7*(c.k:Int)+(j:Int));generalize nJ (a+b) (7*(c.k:Int)+(j:Int))=m at mr mx;obtain ⟨t,ht,gt⟩:=tP mr.1 (by omega) hp (by omega);obtain ⟨ts',t14,t15,e,h1,h2⟩:=ih (j+1) (ts++[t]) (.val (.int j)) (.val (.int (a+b))) (by omega) (by simp [hl]);refine ⟨t::ts',t14,t15,?_,by simp [h1],λ y hy=>?_⟩
  . rw [io];have jk:∀ {x:Sl},aA bv (aA je (dC (.int (7))) (ag 2)) (ag 14) (dB' c rs s11 s12 (.own (ts.map tw)) (.val (.int j)) x)=some (.int (7*(c.k:Int)+j)):=λ {x}=>dO (dO rfl rfl (j5 (iM (by decide) (by decide)))) rfl (bZ _ _);have v0':∀ {x:Sl},ag 0 (dB' c rs s11 s12 (.own (ts.map tw)) (.val (.int j)) x)=some (.list (ns.map .int)):=λ {x}=>by rw [<-hsc];rfl
    have st:fO (dB' c rs s11 s12 (.own (ts.map tw)) (.val (.int j)) s15)=some (.nx (dB' c rs s11 s12 (.own ((ts++[t]).map tw)) (.val (.int j)) (.val (.int (a+b))))):=by
     refine az (δ1:=dB' c rs s11 s12 (.own (ts.map tw)) (.val (.int j)) (.val (.int (a+b)))) (aG (dO (p8 (ds:=[.list (ns.map .int),.int (2+(c.k:Int))]) (cB v0' (cB (dO rfl rfl (bZ _ _)) rfl)) k1) (p8 (ds:=[.list (ns.map .int),.int (11+(u:Int))]) (cB v0' (cB (dO rfl (dO jk rfl ((bK _ (by decide)).trans (by rw [hu]))) (bZ _ _)) rfl)) k2) (bZ _ _)) rfl) ?_;refine (rY (l:=ts.map tw) (x:=tw t) rfl (p8 (ds:=[.int m,.list (c.p.ps.map .str)]) (cB (p8 (ds:=[.int (a+b),.int (7*(c.k:Int)+j)]) (cB rfl (cB jk rfl)) mx) (cB rfl rfl)) ht) (by simp;omega)).trans ?_;simp [dB']
    refine (sP rfl st).trans ?_;have ej:((j+1:Nat):Int)=(j:Int)+1:=by omega
    rw [ej] at e;rw [e];simp
  . rcases List.mem_cons.mp hy with rfl | hy
    . exact gt
    . exact h2 y hy
noncomputable def GR:Rw->Prop
 | .set x t=>oX x/\GT t
 | .tell t=>GT t
 | .call x f es=>oX x/\(f.cps.size<=8/\PyData.strOk f=true)/\es.length<=6/\∀ t∈es,GT t
 | .ret t=>GT t
theorem yV:∀ (es:List Tr),(∀ t∈es,GT t)->RA (es.map tw) 2 (121*es.length)
 | [],_=>RA.nil _
 | t::es,h=>(RA.cons (h t (.head _)).ro (yV es λ y hy=>h y (.tail _ hy))).mono (Nat.le_refl _) (by simp only [List.length_cons];omega)
theorem JG {p:Int} (h0:0<=p) (h1:p<100000):p.natAbs<10^12:=by
 have e:(10:Nat)^12=1000000000000:=by decide
 rw [e];omega
theorem EI {p:Int} {r:Rw} (h0:0<=p) (h1:p<100000) (g:GR r):RO (bY p r) 4 1000:=by
 have w:∀ {a:String},a∈["set", "tell", "call", "return", "main", "zz", "zzz"]->RO (sW a) 3 6:=λ {a} ha=>(RO.str (lh.2.2.2 a ha).1 (lh.2.2.2 a ha).2).mono (Nat.zero_le _) (Nat.le_refl _);have pi:RO (.int p) 3 41:=(RO.int (JG h0 h1)).mono (Nat.zero_le _) (Nat.le_refl _);have st:∀ {x:Str},oX x->RO (.str x) 3 8:=λ {x} hx=>(RO.str hx.1 hx.ok).mono (Nat.zero_le _) (Nat.le_refl _);have tr:∀ {t:Tr},GT t->RO (tw t) 3 120:=λ {t} ht=>ht.ro.mono (by omega) (Nat.le_refl _);cases r with
 | set x t=>exact (RA.cons (w (by simp)) (RA.cons pi (RA.cons (st g.1) (RA.cons (tr g.2) (RA.nil _))))).tup.mono (by omega) (by omega)
 | tell t=>exact (RA.cons (w (by simp)) (RA.cons pi (RA.cons (tr g) (RA.nil _)))).tup.mono (by omega) (by omega)
 | call x f es=>
  have hl:=g.2.2.1;exact (RA.cons (w (by simp)) (RA.cons pi (RA.cons (st g.1) (RA.cons ((RO.str g.2.1.1 g.2.1.2).mono (Nat.zero_le _) (Nat.le_refl _)) (RA.cons (yV es g.2.2.2).lst (RA.nil _)))))).tup.mono (by omega) (by omega)
 | ret t=>exact (RA.cons (w (by simp)) (RA.cons pi (RA.cons (tr g) (RA.nil _)))).tup.mono (by omega) (by omega)
theorem vd:∀ (rs:List Rw) (p:Int),0<=p->p+rs.length<100000->(∀ r∈rs,GR r)->RA (bP p rs) 4 (1001*rs.length)
 | [],_,_,_,_=>RA.nil _
 | r::rs,p,h0,h1,h=>by
  simp only [List.length_cons] at h1;exact (RA.cons (EI h0 (by omega) (h r (.head _))) (vd rs (p+1) (by omega) (by omega) λ y hy=>h y (.tail _ hy))).mono (Nat.le_refl _) (by simp only [List.length_cons];omega)
structure Jl (Ps:List Pn) (k:Nat) (p:Pn) (ln:Int) (d:Df):Prop where
 ln:d.ln+1=ln
 ps:d.ps=p.ps
 ok:zE d
 o3:D3 d
 rt:k=0->d.rt=none
 cl:∀ y,d.cl=some y->∃ (i:Nat) (q:Pn),Ps[i]?=some q/\q.nm=y.1
 len:d.rows.length<=20
 gr:∀ r∈d.rows,GR r
noncomputable def gq (p:Pn):List Rw:=(p.ps.map λ x=>.tell (.nam x))++[.tell (.nam zz),.set zz (.num p.num)]
noncomputable def vZ (k:Nat) (p:Pn):Option Tr:=if k=0 then none else if p.way=0 then (p.ps.getLast?.map .nam) else if p.way=1 then some (.nam zz) else if p.way=2 then some (.op 0 (.nam zz) (.nam zzz)) else none
theorem Hv {Ps:List Pn} {k:Nat} {p:Pn} (pk:tJ k p) (ln:Int) {cl:Option (Str×List Tr)} (hcl:∀ y,cl=some y->(∃ (i:Nat) (q:Pn),Ps[i]?=some q/\q.nm=y.1)/\(y.1.cps.size<=8/\PyData.strOk y.1=true)/\y.2.length<=6/\∀ t∈y.2,GT t):∃ d:Df,d.rows=gq p++(jS cl++([.tell (.nam zz),.tell (.nam zzz)]++mP (vZ k p)))/\Jl Ps k p ln d:=by
 have gz:=qv pL.1;have gzz:=qv pL.2;have gn:=xi pk.rg;have gp:∀ x∈p.ps,GT (.nam x):=λ x hx=>qv (pk.sh x hx);have pl:=pk.l;have prl:(gq p).length<=8:=by simp [gq];omega
 have g9:∀ {t:Tr},GT t->iQ t<9/\jY t:=λ h=>⟨Nat.lt_trans h.dp (by decide),h.ok⟩
 have g3:∀ {t:Tr},GT t->iQ t<3/\jY t:=λ h=>⟨h.dp,h.ok⟩
 have preG:∀ r∈gq p,IM r/\Jk r/\GR r:=λ r hr=>by
  rcases List.mem_append.mp hr with h | h
  . obtain ⟨x,hx,rfl⟩:=List.mem_map.mp h;exact ⟨g9 (gp x hx),g3 (gp x hx),gp x hx⟩
  . simp only [List.mem_cons,List.not_mem_nil,or_false] at h;rcases h with rfl | rfl
    . exact ⟨g9 gz,g3 gz,gz⟩
    . exact ⟨g9 gn,g3 gn,pL.1,gn⟩
 have rtG:∀ t,vZ k p=some t->GT t:=λ t ht=>by
  unfold vZ at ht;split at ht
  . cases ht
  . split at ht
    . obtain ⟨x,hx,rfl⟩:=oM ht
      exact gp x (List.mem_of_getLast? hx)
    . split at ht
      . cases ht;exact gz
      . split at ht
        . cases ht;exact DX pL.1 pL.2
        . cases ht
 have rtl:(mP (vZ k p)).length<=1:=by unfold mP;split <;> simp
 have rgr:∀ r∈mP (vZ k p),GR r:=λ r hr=>by
  unfold mP at hr;split at hr
  . cases hr
  . rename_i t ht;rw [List.mem_singleton.mp hr];exact rtG t ht
 have rt0:k=0->vZ k p=none:=λ h=>by simp [vZ,h]
 have ne:gq p≠[]:=by simp [gq]
 cases cl with
 | none=>
  refine ⟨⟨p.ps,gq p++[.tell (.nam zz),.tell (.nam zzz)],none,[],vZ k p,ln-1⟩,by simp [Df.rows,jS,gO],?_⟩;have pg:∀ r∈gq p++[.tell (.nam zz),.tell (.nam zzz)],IM r/\Jk r/\GR r:=λ r hr=>by
   rcases List.mem_append.mp hr with h | h
   . exact preG r h
   . simp only [List.mem_cons,List.not_mem_nil,or_false] at h;rcases h with rfl | rfl
     . exact ⟨g9 gz,g3 gz,gz⟩
     . exact ⟨g9 gzz,g3 gzz,gzz⟩
  refine ⟨by show ln-1+1=ln;omega,rfl,⟨by show p.ps.length<=20;omega,by simp;omega,λ r hr=>(pg r hr).1,λ x h=>(by cases h),⟨by simp,λ _ h=>absurd h List.not_mem_nil⟩,λ t ht=>g9 (rtG t ht),λ _=>rfl⟩,⟨λ r hr=>(pg r hr).2.1,λ x h=>(by cases h),λ _ h=>absurd h List.not_mem_nil,λ t ht=>g3 (rtG t ht),by simp⟩,rt0,λ y h=>(by cases h),?_,?_⟩
  . simp only [Df.rows,jS,gO,List.map_nil,List.nil_append,List.length_append,List.length_cons,List.length_nil];omega
  . intro r hr;simp only [Df.rows,jS,gO,List.map_nil,List.nil_append] at hr;rcases List.mem_append.mp hr with h | h
    . exact (pg r h).2.2
    . exact rgr r h
 | some y=>
  obtain ⟨c1,c2,c3,c4⟩:=hcl y rfl;refine ⟨⟨p.ps,gq p,some y,[.nam zz,.nam zzz],vZ k p,ln-1⟩,by simp [Df.rows,jS,gO],?_⟩;refine ⟨by show ln-1+1=ln;omega,rfl,⟨by show p.ps.length<=20;omega,by show (gq p).length<=20;omega,λ r hr=>(preG r hr).1,λ x h=>?_,⟨by simp,λ t ht=>?_⟩,λ t ht=>g9 (rtG t ht),λ h=>(by cases h)⟩,⟨λ r hr=>(preG r hr).2.1,λ x h=>?_,λ t ht=>?_,λ t ht=>g3 (rtG t ht),ne⟩,rt0,λ z h=>?_,?_,?_⟩
  . cases h;exact ⟨by omega,λ t ht=>g9 (c4 t ht)⟩
  . simp only [List.mem_cons,List.not_mem_nil,or_false] at ht;rcases ht with rfl | rfl
    . exact g9 gz
    . exact g9 gzz
  . cases h;exact λ t ht=>g3 (c4 t ht)
  . simp only [List.mem_cons,List.not_mem_nil,or_false] at ht;rcases ht with rfl | rfl
    . exact g3 gz
    . exact g3 gzz
  . cases h;exact c1
  . simp only [Df.rows,jS,gO,List.map_cons,List.map_nil,List.length_append,List.length_cons,List.length_nil];omega
  . intro r hr;simp only [Df.rows,jS,gO,List.map_cons,List.map_nil] at hr;rcases List.mem_append.mp hr with h | h
    . exact (preG r h).2.2
    . rcases List.mem_append.mp h with h | h
      . rw [List.mem_singleton.mp h];exact ⟨pL.2,c2,c3,c4⟩
      . rcases List.mem_append.mp h with h | h
        . simp only [List.mem_cons,List.not_mem_nil,or_false] at h;rcases h with rfl | rfl
          . exact gz
          . exact gzz
        . exact rgr r h
section
variable {c:FG} {rs:List Rw} {s11 s12 s13 s14 s15:Sl}
noncomputable abbrev Lw:DS->Option fA:=eV (jg (aC mD (ay 2) (dC (.int (0)))) (jg (aC dJ (ay 9) (dC (.int (0)))) (aC mD (fB bT (ay 7)) (dC (.int (0))))))
 (aV 10 (bx (ae (dC (.str "return")) (ae (aA bv (ay 3) (fB bT (ay 10))) (ae (bx (ae (dC (.str "name")) (ae (aA aR (ay 7) (jQ dD (dC (.int (1))))) ak))) ak)))))
 aI
noncomputable abbrev K2:DS->Option fA:=eV (jg (aC mD (ay 2) (dC (.int (0)))) (aC dJ (ay 9) (dC (.int (1)))))
 (aV 10 (bx (ae (dC (.str "return")) (ae (aA bv (ay 3) (fB bT (ay 10))) (ae (bx (ae (dC (.str "name")) (ae (dC (.str "zz")) ak))) ak)))))
 aI
noncomputable abbrev KG:DS->Option fA:=eV (jg (aC mD (ay 2) (dC (.int (0)))) (aC dJ (ay 9) (dC (.int (2)))))
 (aV 10 (bx (ae (dC (.str "return")) (ae (aA bv (ay 3) (fB bT (ay 10))) (ae (bx (ae (dC (.str "+")) (ae (bx (ae (dC (.str "name")) (ae (dC (.str "zz")) ak))) (ae (bx (ae (dC (.str "name")) (ae (dC (.str "zzz")) ak))) ak)))) ak)))))
 aI
theorem ED (hl:rs.length<900):aM Lw (aM K2 (aM KG (ir 10 (bw (ag 10))))) (dB' c rs s11 s12 s13 s14 s15)=some (.rt (.list (bP c.ln (rs++mP (vZ c.k c.p))))):=by
 have g:∀ {rs:List Rw},aC mD (ay 2) (dC (.int (0))) (dB' c rs s11 s12 s13 s14 s15)=some (decide ((c.k:Int)>0)):=λ {rs}=>rfl;have w:∀ {rs:List Rw} (n:Int),aC dJ (ay 9) (dC (.int n)) (dB' c rs s11 s12 s13 s14 s15)=some (decide (c.p.way=n)):=λ {rs} n=>rfl;have fin:∀ {rs:List Rw},ir 10 (bw (ag 10)) (dB' c rs s11 s12 s13 s14 s15)=some (.rt (.list (bP c.ln rs))):=λ {rs}=>rfl;by_cases hk:c.k=0
 . have e:vZ c.k c.p=none:=by simp [vZ,hk]
   have g0:∀ {rs:List Rw},aC mD (ay 2) (dC (.int (0))) (dB' c rs s11 s12 s13 s14 s15)=some false:=λ {rs}=>g.trans (by rw [decide_eq_false (by omega)]);rw [e];simp only [mP,List.append_nil];exact az (aO (b:=false) (Cy g0) rfl) (az (aO (b:=false) (Cy g0) rfl) (az (aO (b:=false) (Cy g0) rfl) fin))
 . have g1:∀ {rs:List Rw},aC mD (ay 2) (dC (.int (0))) (dB' c rs s11 s12 s13 s14 s15)=some true:=λ {rs}=>g.trans (by rw [decide_eq_true (by omega)]);have wt:∀ {rs:List Rw} {n:Int},c.p.way=n->aC dJ (ay 9) (dC (.int n)) (dB' c rs s11 s12 s13 s14 s15)=some true:=λ {rs n} h=>(w n).trans (by rw [decide_eq_true h]);have wf:∀ {rs:List Rw} {n:Int},c.p.way≠n->aC dJ (ay 9) (dC (.int n)) (dB' c rs s11 s12 s13 s14 s15)=some false:=λ {rs n} h=>(w n).trans (by rw [decide_eq_false h]);have B0:∀ {rs:List Rw} {k:DS->Option fA},c.p.way≠1->aM K2 k (dB' c rs s11 s12 s13 s14 s15)=k (dB' c rs s11 s12 s13 s14 s15):=λ {rs k} h=>az (aO (b:=false) (dA g1 (wf h)) rfl) rfl;have C0:∀ {rs:List Rw} {k:DS->Option fA},c.p.way≠2->aM KG k (dB' c rs s11 s12 s13 s14 s15)=k (dB' c rs s11 s12 s13 s14 s15):=λ {rs k} h=>az (aO (b:=false) (dA g1 (wf h)) rfl) rfl;unfold vZ;rw [if_neg hk];by_cases h0:c.p.way=0
   . rw [if_pos h0];have ln:aC mD (fB bT (ay 7)) (dC (.int (0))) (dB' c rs s11 s12 s13 s14 s15)=some (decide ((c.p.ps.length:Int)>0)):=by
      have:fB bT (ay 7) (dB' c rs s11 s12 s13 s14 s15)=some (.int (c.p.ps.map W.str).length):=rfl;rw [List.length_map] at this;exact vD this rfl rfl
     cases hx:c.p.ps.getLast? with
     | none=>
      have hn:c.p.ps=[]:=List.getLast?_eq_none_iff.mp hx;rw [decide_eq_false (by simp [hn])] at ln;simp only [Option.map_none,mP,List.append_nil];exact az (aO (b:=false) (dA g1 (dA (wt h0) ln)) rfl) ((B0 (by omega)).trans ((C0 (by omega)).trans fin))
     | some x=>
      obtain ⟨A,hA⟩:=List.getLast?_eq_some_iff.mp hx;rw [decide_eq_true (by rw [hA];simp)] at ln;have la:aA aR (ay 7) (jQ dD (dC (.int (1)))) (dB' c rs s11 s12 s13 s14 s15)=some (.str x):=ti (l:=c.p.ps.map .str) (i := -1) rfl rfl (by rw [hA,List.map_append];exact Bp _ _);exact az (aO (b:=true) (dA g1 (dA (wt h0) ln)) (ul (t:=.nam x) (ug rfl la) hl)) ((B0 (by omega)).trans ((C0 (by omega)).trans fin))
   . rw [if_neg h0];have A0:∀ {k:DS->Option fA},aM Lw k (dB' c rs s11 s12 s13 s14 s15)=k (dB' c rs s11 s12 s13 s14 s15):=λ {k}=>az (aO (b:=false) (dA g1 (Cy (wf h0))) rfl) rfl;refine A0.trans ?_;by_cases h1:c.p.way=1
     . rw [if_pos h1];exact az (aO (b:=true) (dA g1 (wt h1)) (ul (t:=.nam zz) (ug rfl rfl) hl)) ((C0 (by omega)).trans fin)
     . rw [if_neg h1];refine (B0 h1).trans ?_;by_cases h2:c.p.way=2
       . rw [if_pos h2];exact az (aO (b:=true) (dA g1 (wt h2)) (ul (t:=.op 0 (.nam zz) (.nam zzz)) (Hl rfl (ug rfl rfl) (ug rfl rfl)) hl)) fin
       . rw [if_neg h2];simp only [mP,List.append_nil];exact (C0 h2).trans fin
end
theorem yC (k m a:Int):jw [.int k,.int m,.int a]=some (.int (if k<m then k+1 else a)):=by
 have c:aC rX (ay 0) (ay 1) [.val (.int k),.val (.int m),.val (.int a)]=some (decide (k<m)):=rfl;refine cv rfl ?_;by_cases h:k<m
 . rw [decide_eq_true h] at c;rw [if_pos h];exact fZ (aO (b:=true) c (b6 (dO rfl rfl (bZ _ _))))
 . rw [decide_eq_false h] at c;rw [if_neg h];exact az (aO (b:=false) c rfl) (b6 rfl)
theorem Ay {ns:List Int} {Ps:List Pn} {k:Nat} {p:Pn} (hk:Ps[k]?=some p) (ok:∀ k p,Ps[k]?=some p->tJ k p) (h2:2<=Ps.length) (h9:Ps.length<=9) {ar:Int} (har:ar=0∨ar=1) (ln:Int):∃ d,j9 [.list (ns.map .int),.list (Ps.map mW),.int k,.int ln,.int ar]=some (.list (bP ln d.rows))/\Jl Ps k p ln d:=by
 let c:FG:=⟨.list (ns.map .int),Ps,k,ln,ar,p⟩
 have pk:=ok k p hk;have pl:=pk.l;have kl:=(oG hk).1;obtain ⟨t11,eP⟩:=uO (c:=c) (s12:=.no) (s13:=.no) (s14:=.no) (s15:=.no) p.ps [] .no (by simp;omega);rw [List.nil_append] at eP;let af:Int:=if (k:Int)<(Ps.length:Int)-1 then (k:Int)+1 else ar
 have prl:(gq p).length<=8:=by simp [gq];omega
 have cal:∃ cl s12 s13 s14 s15,(∀ y,cl=some y->(∃ (i:Nat) (q:Pn),Ps[i]?=some q/\q.nm=y.1)/\(y.1.cps.size<=8/\PyData.strOk y.1=true)/\y.2.length<=6/\∀ t∈y.2,GT t)/\eV (aC mD (ay 12) (dC (.int (0))))
  (aM (gK 13 (eU ak))
  (aM (mz (iR (ae (fB bT (aA aR (aA aR (ay 1) (ag 12)) (dC (.int (1))))) ak)) (aj 14) fO)
  (ir 13 (aV 10 (bx (ae (dC (.str "call")) (ae (aA bv (ay 3) (fB bT (ay 10))) (ae (dC (.str "zzz")) (ae (aA aR (aA aR (ay 1) (ag 12)) (dC (.int (0)))) (ae (ag 13) ak)))))))))) aI (dB' c (gq p) t11 (.val (.int af)) .no .no .no)=some (.nx (dB' c (gq p++jS cl) t11 s12 s13 s14 s15)):=by
  have cg:aC mD (ay 12) (dC (.int (0))) (dB' c (gq p) t11 (.val (.int af)) .no .no .no)=some (decide (af>0)):=rfl;by_cases h0:af>0
  . rw [decide_eq_true h0] at cg;obtain ⟨i,hi⟩:∃ i:Nat,af=i:=⟨af.toNat,by omega⟩
    have il:i<Ps.length:=by
     have:af=i:=hi;simp only [af] at this;split at this <;> omega
    let q:=Ps[i];have hq:Ps[i]?=some q:=List.getElem?_eq_getElem il;have qk:=ok i q hq;have at12:∀ {s13 s14 s15:Sl},aA aR (ay 1) (ag 12) (dB' c (gq p) t11 (.val (.int af)) s13 s14 s15)=some (mW q):=λ {s13 s14 s15}=>by
     refine ti (l:=Ps.map mW) (i:=(i:Int)) rfl (by rw [<-hi];rfl) ?_;rw [wL _ _ (by simpa using il)];simp [q,il]
    have ql:=qk.l;obtain ⟨ts,t14,t15,eH,h1,hg⟩:=AS (c:=c) (ns:=ns) rfl (show k<=8 by omega) (rs:=gq p) (s11:=t11) (s12:=.val (.int af)) pk.sh pk.l q.ps.length 0 [] .no .no (by omega) rfl;rw [List.nil_append] at eH;refine ⟨some (q.nm,ts),.val (.int af),.val (.list (ts.map tw)),t14,t15,λ y hy=>?_,?_⟩
    . cases hy;refine ⟨⟨i,q,hq,rfl⟩,?_,by show ts.length<=6;omega,hg⟩;by_cases hi0:i=0
      . rw [(qk.z hi0).1];exact ⟨Nat.le_trans (lh.2.2.2 "main" (by simp)).1 (by decide),(lh.2.2.2 "main" (by simp)).2⟩
      . exact ⟨(qk.s hi0).1.1,(qk.s hi0).1.ok⟩
    . refine aO (b:=true) cg ?_;rw [if_pos rfl];refine az (δ1:=dB' c (gq p) t11 (.val (.int af)) (.own []) .no .no) ?_ ?_
      . have z:=sz 0 (by decide);simp only [gK,eU,ak,Option.bind_some,List.length_nil,if_pos z,Option.map_some];rfl
      refine az (δ1:=dB' c (gq p) t11 (.val (.int af)) (.own (ts.map tw)) t14 t15) ?_ ?_
      . have lq:fB bT (aA aR (aA aR (ay 1) (ag 12)) (dC (.int (1)))) (dB' c (gq p) t11 (.val (.int af)) (.own []) .no .no)=some (.int q.ps.length):=by
         have e1:aA aR (aA aR (ay 1) (ag 12)) (dC (.int (1))) (dB' c (gq p) t11 (.val (.int af)) (.own []) .no .no)=some (.list (q.ps.map .str)):=ti at12 rfl (IH _ _ _);simp only [fB,e1,Option.bind_some,yp,List.length_map]
        show (iR _ _).bind _=_;rw [nF (n:=q.ps.length) lq (by omega),Option.bind_some];exact eH
      . refine vb (r:=.call zzz q.nm ts) ?_ (by omega);refine Hr (cB rfl (cB uN (cB rfl (cB (ti at12 rfl (Hy _ _)) (cB rfl rfl))))) (by simp)
  . rw [decide_eq_false h0] at cg;exact ⟨none,.val (.int af),.no,.no,.no,λ y hy=>(by cases hy),aO (b:=false) cg (by simp [jS];rfl)⟩
 obtain ⟨cl,u12,u13,u14,u15,hcl,eC⟩:=cal;obtain ⟨d,hd,R⟩:=Hv (k:=k) pk ln hcl;refine ⟨d,?_,R⟩;have cll:(jS cl).length<=1:=by unfold jS;split <;> simp
 refine cv rfl ?_;have e0:aW (aA gSub' (fB bT (ay 1)) (dC (.int (1)))) (aj 5) [.val (.list (ns.map .int)),.val (.list (Ps.map mW)),.val (.int k),.val (.int ln),.val (.int ar),.no,.no,.no,.no,.no,.no,.no,.no,.no,.no,.no]=some (.nx [.val (.list (ns.map .int)),.val (.list (Ps.map mW)),.val (.int k),.val (.int ln),.val (.int ar),.val (.int (Ps.length-1:Int)),.no,.no,.no,.no,.no,.no,.no,.no,.no,.no]):=by
  refine aG (dO (a:=.int Ps.length) ?_ rfl (lF _ _)) rfl;show some (W.int ((Ps.map mW).length:Int))=_;rw [List.length_map]
 refine az e0 ?_;refine az (δ1:=[.val (.list (ns.map .int)),.val (.list (Ps.map mW)),.val (.int k),.val (.int ln),.val (.int ar),.val (.int (Ps.length-1:Int)),.val (.str p.nm),.val (.list (p.ps.map .str)),.val (.int p.num),.val (.int p.way),.no,.no,.no,.no,.no,.no]) (aG (ti (l:=Ps.map mW) (i:=(k:Int)) (x:=mW p) rfl rfl (by rw [wL _ _ (by simpa using kl)];simp [hk])) rfl) ?_;refine az (δ1:=dB' c [] .no .no .no .no .no) ?_ ?_
 . have z:=sz 0 (by decide);simp only [gK,eU,ak,Option.bind_some,List.length_nil,if_pos z,Option.map_some];rfl
 refine az (δ1:=dB' c (p.ps.map λ x=>.tell (.nam x)) t11 .no .no .no .no) ?_ ?_
 . show (cK _ _).bind _=_;rw [show cK (ag 7) (dB' c [] .no .no .no .no .no)=some (p.ps.map .str) from rfl,Option.bind_some];exact eP
 refine az (qB (x:=.none) (y:=zz) rfl (by simp;omega)) ?_;refine az (vb (r:=.set zz (.num p.num)) (Mh rfl uN rfl (ug rfl rfl)) (by simp;omega)) ?_;have er:(p.ps.map λ x=>Rw.tell (.nam x))++[.tell (.nam zz)]++[.set zz (.num p.num)]=gq p:=by simp [gq]
 rw [er];refine az (δ1:=dB' c (gq p) t11 (.val (.int af)) .no .no .no) (aG (p8 (ds:=[.int k,.int ((Ps.length:Int)-1),.int ar]) rfl (yC _ _ _)) rfl) ?_;refine az eC ?_;refine az (qB (x:=.none) (y:=zz) rfl (by simp;omega)) ?_;refine az (qB (x:=.none) (y:=zzz) rfl (by simp;omega)) ?_;refine (ED (by simp;omega)).trans ?_;rw [hd];simp;rfl
noncomputable def dP (ns:List Int) (Ps:List Pn) (ar:Int) (f:Nat) (P:Pg) (ln:Int) (s6 s7 s8 s9:Sl):DS:=[.val (.list (ns.map .int)),.val (.list (Ps.map mW)),.val (.int ar),.val (.int f),.own (P.map dW),.val (.int ln),s6,s7,s8,s9]
structure JQ (Ps:List Pn) (k:Nat) (e:Str×Df):Prop where
 lt:k<Ps.length
 r:∃ q,Ps[k]?=some q/\q.nm=e.1/\Jl Ps k q (e.2.ln+1) e.2
 l0:0<=e.2.ln
 l1:e.2.ln<1000
theorem AZ {ns:List Int} {Ps:List Pn} (ok:∀ k p,Ps[k]?=some p->tJ k p) (h2:2<=Ps.length) (h9:Ps.length<=9) {ar:Int} (har:ar=0∨ar=1) {f:Nat}:∀ (n j:Nat) (P:Pg) (ln:Int) (s6 s7 s8 s9:Sl),j+n<=9->P.length=j->0<=ln->ln<=1+22*(j:Int)->∃ P' ln' t6 t7 t8 t9,bO (aj 6) fJ (gi j n) (dP ns Ps ar f P ln s6 s7 s8 s9)=some (.nx (dP ns Ps ar f (P++P') ln' t6 t7 t8 t9))/\P'.length=n/\∀ i e,P'[i]?=some e->JQ Ps ((f+(j+i))%Ps.length) e:=by
 intro n;induction n with
 | zero=>exact λ j P ln s6 s7 s8 s9 _ _ _ _=>⟨[],ln,s6,s7,s8,s9,by simp [gi,bO],rfl,λ i e h=>(by cases h)⟩
 | succ n ih=>
  intro j P ln s6 s7 s8 s9 hj hP l0 l1;let k:=(f+j)%Ps.length;have kl:k<Ps.length:=Nat.mod_lt _ (by omega);have hk:Ps[k]?=some Ps[k]:=List.getElem?_eq_getElem kl;obtain ⟨d,eB,R⟩:=Ay (ns:=ns) hk ok h2 h9 har (ln+1);have dl:=R.ln;have dn:d.ln=ln:=by omega
  have rl:=R.len;let q:=Ps[k];let e:Str×Df:=(q.nm,d)
  let la:Int:=ln+1+d.rows.length;obtain ⟨P',ln',t6,t7,t8,t9,E,h1,h3⟩:=ih (j+1) (P++[e]) (la+1) (.val (.int j)) (.val (.int k)) (.val (.list (bP (ln+1) d.rows))) (.val (.int la)) (by omega) (by simp [hP]) (by omega) (by omega);refine ⟨e::P',ln',t6,t7,t8,t9,?_,by simp [h1],λ i x hx=>?_⟩
  . rw [io];have km:aA cx (aA bv (ay 3) (ag 6)) (fB bT (ay 1)) (dP ns Ps ar f P ln (.val (.int j)) s7 s8 s9)=some (.int k):=by
     have e1:fB bT (ay 1) (dP ns Ps ar f P ln (.val (.int j)) s7 s8 s9)=some (.int Ps.length):=by
      show some (W.int ((Ps.map mW).length:Int))=_;rw [List.length_map]
     refine dO (dO rfl rfl (bZ _ _)) e1 ((bK _ (by omega)).trans ?_);rw [Int.fmod_eq_emod_of_nonneg _ (by omega)];rfl
    have at7:∀ {s8 s9:Sl},aA aR (ay 1) (ag 7) (dP ns Ps ar f P ln (.val (.int j)) (.val (.int k)) s8 s9)=some (mW q):=λ {s8 s9}=>by
     refine ti (l:=Ps.map mW) (i:=(k:Int)) rfl rfl ?_;rw [wL _ _ (by simpa using kl)];simp [q,kl]
    have st:fJ (dP ns Ps ar f P ln (.val (.int j)) s7 s8 s9)=some (.nx (dP ns Ps ar f (P++[e]) (la+1) (.val (.int j)) (.val (.int k)) (.val (.list (bP (ln+1) d.rows))) (.val (.int la)))):=by
     refine az (δ1:=dP ns Ps ar f P ln (.val (.int j)) (.val (.int k)) s8 s9) (aG km rfl) ?_;refine az (δ1:=dP ns Ps ar f P ln (.val (.int j)) (.val (.int k)) (.val (.list (bP (ln+1) d.rows))) s9) (aG (p8 (ds:=[.list (ns.map .int),.list (Ps.map mW),.int k,.int (ln+1),.int ar]) (cB rfl (cB rfl (cB rfl (cB (dO rfl rfl (bZ _ _)) (cB rfl rfl))))) eB) rfl) ?_;refine az (δ1:=dP ns Ps ar f P ln (.val (.int j)) (.val (.int k)) (.val (.list (bP (ln+1) d.rows))) (.val (.int la))) (aG (dO (dO rfl rfl (bZ _ _)) (b:=.int d.rows.length) ?_ (bZ _ _)) rfl) ?_
     . show some (W.int ((bP (ln+1) d.rows).length:Int))=_;rw [mZ]
     refine az (δ1:=dP ns Ps ar f (P++[e]) ln (.val (.int j)) (.val (.int k)) (.val (.list (bP (ln+1) d.rows))) (.val (.int la))) ?_ (aG (dO rfl rfl (bZ _ _)) rfl);have lo:gC (kM (aA aR (aA aR (ay 1) (ag 7)) (dC (.int (1))))) (dP ns Ps ar f P ln (.val (.int j)) (.val (.int k)) (.val (.list (bP (ln+1) d.rows))) (.val (.int la)))=some (.list (q.ps.map .str)):=by
      have e1:aA aR (aA aR (ay 1) (ag 7)) (dC (.int (1))) (dP ns Ps ar f P ln (.val (.int j)) (.val (.int k)) (.val (.list (bP (ln+1) d.rows))) (.val (.int la)))=some (.list (q.ps.map .str)):=ti at7 rfl (IH _ _ _);simp only [gC,kM,e1,Option.bind_some];rfl
     refine (rY (l:=P.map dW) (x:=dW e) rfl (Hr (l:=[.str q.nm,.list (q.ps.map .str),.list (bP (ln+1) d.rows),.int ln,.int la]) (cB (ti at7 rfl (Hy _ _)) (cB lo (cB rfl (cB rfl (cB rfl rfl))))) (by simp) |>.trans ?_) (by simp;omega)).trans ?_
     . show some _=some (EB q.nm d.dn);simp only [EB,Df.dn,R.ps,dn];rfl
     . simp [dP]
    refine (sP rfl st).trans ?_;have ej:((j+1:Nat):Int)=(j:Int)+1:=by omega
    rw [ej] at E;rw [E];simp
  . cases i with
    | zero=>
     cases hx;refine ⟨Nat.mod_lt _ (by omega),⟨q,hk,rfl,?_⟩,by show 0<=d.ln;omega,by show d.ln<1000;omega⟩;show Jl Ps k q (d.ln+1) d;rw [dn];exact R
    | succ i=>
     have:=h3 i x hx;rw [show f+(j+1+i)=f+(j+(i+1)) by omega] at this;exact this
theorem vc:∀ (P:Pg) (D:Str->Option Df) (x:Str) (d:Df),G8 P D x=some d->(x,d)∈P∨D x=some d
 | [],_,_,_,h=>.inr h
 | e::P,D,x,d,h=>by
  rcases vc P _ x d h with h | h
  . exact .inl (.tail _ h)
  . by_cases hx:x=e.1
    . simp only [hx,if_true] at h;cases h;subst hx;exact .inl (.head _)
    . simp only [hx,if_false] at h;exact .inr h
theorem sL:∀ (P:Pg) (D:Str->Option Df) (x:Str),((∃ d,(x,d)∈P)∨∃ d,D x=some d)->∃ d,G8 P D x=some d
 | [],_,_,h=>by
  rcases h with ⟨d,h⟩ | h
  . cases h
  . exact h
 | e::P,D,x,h=>by
  refine sL P _ x ?_;rcases h with ⟨d,h⟩ | ⟨d,h⟩
  . rcases List.mem_cons.mp h with h | h
    . refine .inr ⟨d,?_⟩;rw [<-h];simp
    . exact .inl ⟨d,h⟩
  . by_cases hx:x=e.1
    . exact .inr ⟨e.2,by simp [hx]⟩
    . exact .inr ⟨d,by simp [hx,h]⟩
theorem Ez {Ps:List Pn} (ok:∀ k p,Ps[k]?=some p->tJ k p) {k:Nat} {e:Str×Df} (h:JQ Ps k e):RO (dW e) 6 30000:=by
 obtain ⟨q,hq,hn,R⟩:=h.r;have qk:=ok k q hq;have l0:=h.l0;have l1:=h.l1;have rl:=R.len;have nm:RO (.str e.1) 5 8:=by
  rw [<-hn];by_cases hk:k=0
  . rw [(qk.z hk).1];exact (RO.str (lh.2.2.2 "main" (by simp)).1 (lh.2.2.2 "main" (by simp)).2).mono (Nat.zero_le _) (by decide)
  . exact (RO.str (qk.s hk).1.1 (qk.s hk).1.ok).mono (Nat.zero_le _) (Nat.le_refl _)
 have ps:∀ (l:List Str),(∀ s∈l,oX s)->RA (l.map W.str) 4 (9*l.length):=by
  intro l;induction l with
  | nil=>exact λ _=>RA.nil _
  | cons s l ih=>exact λ hs=>(RA.cons ((RO.str (hs s (.head _)).1 (hs s (.head _)).ok).mono (Nat.zero_le _) (Nat.le_refl _)) (ih λ y hy=>hs y (.tail _ hy))).mono (Nat.le_refl _) (by simp only [List.length_cons];omega)
 have p1:=(ps e.2.ps (by rw [R.ps];exact qk.sh)).lst;have pl:e.2.ps.length<=6:=by rw [R.ps];exact qk.l
 have b1:=(vd e.2.rows (e.2.ln+1) (by omega) (by omega) R.gr).lst;have z:∀ {x:W} {w:Nat},RO x 0 w->RO x 5 w:=λ h=>h.mono (Nat.zero_le _) (Nat.le_refl _);exact (RA.cons nm (RA.cons p1 (RA.cons b1 (RA.cons (z (RO.int (JG l0 (by omega)))) (RA.cons (z (RO.int (i:=e.2.ln+1+e.2.rows.length) (JG (by omega) (by omega)))) (RA.nil _)))))).tup.mono (by omega) (by omega)
theorem HN {P:Pg}:(∀ e∈P,RO (dW e) 6 30000)->RA (P.map dW) 6 (30001*P.length):=by
 induction P with
 | nil=>exact λ _=>RA.nil _
 | cons e P ih=>exact λ h=>(RA.cons (h e (.head _)) (ih λ y hy=>h y (.tail _ hy))).mono (Nat.le_refl _) (by simp only [List.length_cons];omega)
theorem xn (ns:List Int) {Ps:List Pn} (ok:∀ k p,Ps[k]?=some p->tJ k p) (h2:2<=Ps.length) (h9:Ps.length<=9) {ar:Int} (har:ar=0∨ar=1) {f:Nat} (hf:f<Ps.length):∃ P dm sh,gD [.list (ns.map .int),.list (Ps.map mW),.int ar,.int f]=some (.list (P.map dW))/\ID P dm/\(∀ x d,lK P x=some d->D3 d)/\uG (.list (P.map dW))=some (.str sh):=by
 obtain ⟨P,ln',t6,t7,t8,t9,E,h1,h3⟩:=AZ (ns:=ns) ok h2 h9 har (f:=f) Ps.length 0 [] 1 .no .no .no .no (by omega) rfl (by omega) (by omega);rw [List.nil_append] at E;have hm:∀ {x:Str} {d:Df},lK P x=some d->∃ k,JQ Ps k (x,d):=λ {x d} h=>by
  rcases vc P _ x d h with h | h
  . obtain ⟨i,hi⟩:=List.mem_iff_getElem?.mp h;exact ⟨_,h3 i _ hi⟩
  . cases h
 have hx:∀ {k:Nat} {q:Pn},Ps[k]?=some q->∃ d,lK P q.nm=some d:=λ {k q} hq=>by
  have kl:=(oG hq).1;obtain ⟨i,hi,ei⟩:∃ i,i<Ps.length/\(f+(0+i))%Ps.length=k:=by
   by_cases h:f<=k
   . exact ⟨k-f,by omega,by rw [show f+(0+(k-f))=k by omega];exact Nat.mod_eq_of_lt kl⟩
   . refine ⟨k+Ps.length-f,by omega,?_⟩;rw [show f+(0+(k+Ps.length-f))=k+Ps.length by omega,Nat.add_mod_right];exact Nat.mod_eq_of_lt kl
  have il:i<P.length:=by omega
  have en:=h3 i P[i] (List.getElem?_eq_getElem il);rw [ei] at en;obtain ⟨q',h4,h5,_⟩:=en.r;rw [hq] at h4;cases h4;exact sL P _ _ (.inl ⟨P[i].2,by rw [h5];exact List.getElem_mem il⟩)
 have hp0:Ps[0]?=some Ps[0]:=List.getElem?_eq_getElem (by omega);have n0:=((ok 0 _ hp0).z rfl).1;obtain ⟨dm,hdm⟩:=hx hp0;rw [n0] at hdm;have ro:=(HN (P:=P) λ e he=>by
  obtain ⟨i,hi⟩:=List.mem_iff_getElem?.mp he;exact Ez ok (h3 i _ hi)).lst
 obtain ⟨a,ea,r⟩:=ro;have rd:=r.d;have rw':=r.w;have e20:(2:Nat)^20=1048576:=by decide
 have ly:PyData.layable0 a=true:=by
  simp only [PyData.layable0,Bool.and_eq_true,decide_eq_true_eq];exact ⟨⟨r.ly,by omega⟩,by rw [e20];omega⟩
 have okr:kc a=true:=by
  simp only [kc,Bool.and_eq_true,decide_eq_true_eq,Bool.not_eq_true'];exact ⟨⟨⟨r.sh,PyData.hasDict_of_canLay a r.ly⟩,by omega⟩,PyData.shown_fits_of_layable0 (by decide) (by decide) ly r.is⟩
 refine ⟨P,dm,a.shown,?_,⟨by omega,hdm,λ x d h=>?_,λ x d y h hc=>?_,?_⟩,λ x d h=>?_,?_⟩
 . refine cv rfl ?_;refine az (δ1:=[.val (.list (ns.map .int)),.val (.list (Ps.map mW)),.val (.int ar),.val (.int f),.own [],.no,.no,.no,.no,.no]) ?_ ?_
   . have z:=sz 0 (by decide);simp only [gK,eU,ak,Option.bind_some,List.length_nil,if_pos z,Option.map_some];rfl
   refine az (δ1:=dP ns Ps ar f [] 1 .no .no .no .no) (aG rfl rfl) ?_;refine az (δ1:=dP ns Ps ar f P ln' t6 t7 t8 t9) ?_ rfl;show (iR _ _).bind _=_;rw [nF (n:=Ps.length) (by show some (W.int ((Ps.map mW).length:Int))=_;rw [List.length_map]) (by omega),Option.bind_some];exact E
 . obtain ⟨k,en⟩:=hm h;obtain ⟨q,_,_,R⟩:=en.r;exact R.ok
 . obtain ⟨k,en⟩:=hm h;obtain ⟨q,_,_,R⟩:=en.r;obtain ⟨i,q',hq',hn⟩:=R.cl y hc;rw [<-hn];exact hx hq'
 . obtain ⟨k,en⟩:=hm hdm;obtain ⟨q,hq,hn,R⟩:=en.r;refine R.rt ?_;by_cases hk:k=0
   . exact hk
   . exact absurd hn ((ok k q hq).s hk).2
 . obtain ⟨k,en⟩:=hm h;obtain ⟨q,_,_,R⟩:=en.r;exact R.o3
 . unfold uG;rw [ea];simp only [Option.bind_some,if_pos okr]
theorem xa (ns:List Int) (_h:ns.length<=63):∃ S,y0 [.list (ns.map .int)] []=some (.ok (.bool true),S):=by
 have k0:bS [.list (ns.map .int),.int 0]=some (.int (fS ns 0)):=jh ns 0;have k1:bS [.list (ns.map .int),.int 1]=some (.int (fS ns 1)):=jh ns 1;have m0:=kJ (fS ns 0) 620;have g0:=tO (fS ns 0) 620;generalize nJ (fS ns 0) 620=F at m0 g0;obtain ⟨L,eN,hL,hs⟩:=wO (nJ (fS ns 1) 621);have r8:=bQ F (j:=8) (by decide);obtain ⟨m,hm⟩:∃ m:Nat,F.fmod 8=m:=⟨(F.fmod 8).toNat,by omega⟩
 let many:Nat:=m+1;have m8:many<=8:=by show m+1<=8;omega
 obtain ⟨Ps,eP,hPl,hok⟩:=yv ns hL hs m8;have r5:=bQ (F.fdiv 8) (j:=5) (by decide);obtain ⟨ar,har'⟩:∃ a,a=((F.fdiv 8).fmod 5).fdiv 4:=⟨_,rfl⟩
 have har:ar=0∨ar=1:=by
  rw [har',Int.fdiv_eq_ediv_of_nonneg _ (by decide)];omega
 have rf:=bQ (F.fdiv 40) (j:=(many:Int)+1) (by omega);obtain ⟨f,hf⟩:∃ f:Nat,(F.fdiv 40).fmod ((many:Int)+1)=f:=⟨((F.fdiv 40).fmod ((many:Int)+1)).toNat,by omega⟩
 obtain ⟨P,dm,sh,eG,hP,h3,eS⟩:=xn ns hok (by show 2<=Ps.length;rw [hPl];show 2<=m+1+1;omega) (by omega) har (f:=f) (by omega);obtain ⟨Ls,hLs⟩:∃ x,x=1+(fS ns 1).fmod 8:=⟨_,rfl⟩
 have rl:=bQ (fS ns 1) (j:=8) (by decide);obtain ⟨La,hLa⟩:∃ x,x=(F.fdiv 400).fmod Ls:=⟨_,rfl⟩
 obtain ⟨q,eA,z1,z2,z3,z4,b1,b2⟩:=wc [] hP La Ls;let sc:Sl:=.val (.list (ns.map .int));let nm:Sl:=.val (.list (L.map .str));let pn:Sl:=.val (.list (Ps.map mW));let pr:Sl:=.val (.list (P.map dW));obtain ⟨T',eT⟩:=z9 hP h3 (oV.of [] (GE P La Ls) q) z1 z2 z3 z4 b1 b2 eS (s0:=sc) (s1:=.val (.int F)) (s2:=.val (.int many)) (s3:=.val (.int ar)) (s4:=nm) (s5:=pn) (s7:=.val (.int Ls));let δ (a b c d e f g h i:Sl):DS:=[sc,a,b,c,d,e,f,g,h,i,.no,.no,.no,.no]
 refine ⟨T',(aE rfl).trans ((congrArg cy (?_:_=some (.rt (.bool true),T'))).trans rfl)⟩;have em:(1:Int)+F.fmod 8=(many:Int):=by rw [hm];show (1:Int)+m=((m+1:Nat):Int);omega
 refine (ah (aH (δ':=δ (.val (.int F)) .no .no .no .no .no .no .no .no) (aG (p8 (ds:=[.int (fS ns 0),.int 620]) (cB (p8 (ds:=[.list (ns.map .int),.int 0]) rfl k0) rfl) m0) rfl))).trans ?_;refine (ah (aH (δ':=δ (.val (.int F)) (.val (.int many)) .no .no .no .no .no .no .no) (aG (dO rfl (dO rfl rfl (bK _ (by decide))) ((bZ _ _).trans (by rw [em]))) rfl))).trans ?_;refine (ah (aH (δ':=δ (.val (.int F)) (.val (.int many)) (.val (.int ar)) .no .no .no .no .no .no) (aG (dO (dO (dO rfl rfl (gG _ (by decide) (by decide))) rfl (bK _ (by decide))) rfl ((gG _ (by decide) (by decide)).trans (by rw [har']))) rfl))).trans ?_;refine (ah (aH (δ':=δ (.val (.int F)) (.val (.int many)) (.val (.int ar)) nm .no .no .no .no .no) (aG (p8 (ds:=[.int (nJ (fS ns 1) 621)]) (cB (p8 (ds:=[.int (fS ns 1),.int 621]) (cB (p8 (ds:=[.list (ns.map .int),.int 1]) rfl k1) rfl) (kJ _ _)) rfl) eN) rfl))).trans ?_;refine (ah (aH (δ':=δ (.val (.int F)) (.val (.int many)) (.val (.int ar)) nm pn .no .no .no .no) (aG (p8 (ds:=[.list (ns.map .int),.int many,.list (L.map .str)]) rfl eP) rfl))).trans ?_;refine (ah (aH (δ':=δ (.val (.int F)) (.val (.int many)) (.val (.int ar)) nm pn pr .no .no .no) (aG (p8 (ds:=[.list (ns.map .int),.list (Ps.map mW),.int ar,.int f]) (cB rfl (cB rfl (cB rfl (cB (dO (dO rfl rfl (gG _ (by decide) (by decide))) (dO rfl rfl (bZ _ _)) ((bK _ (by omega)).trans (by rw [hf]))) rfl)))) eG) rfl))).trans ?_;refine (ah (aH (δ':=δ (.val (.int F)) (.val (.int many)) (.val (.int ar)) nm pn pr (.val (.int Ls)) .no .no) (aG (dO rfl (dO (p8 (ds:=[.list (ns.map .int),.int 1]) rfl k1) rfl (bK _ (by decide))) ((bZ _ _).trans (by rw [hLs]))) rfl))).trans ?_;refine (ah (aH (δ':=δ (.val (.int F)) (.val (.int many)) (.val (.int ar)) nm pn pr (.val (.int Ls)) (.val (.str sh)) .no) (aG eS rfl))).trans ?_;refine (ah (δ':=δ (.val (.int F)) (.val (.int many)) (.val (.int ar)) nm pn pr (.val (.int Ls)) (.val (.str sh)) (.val (.ref 10))) (bb (cV (ds:=[.list (P.map dW),.int La,.int Ls,.int 0,.list [],.int 1000,.list []]) (aq (cB rfl (cB (dO (dO rfl rfl (gG _ (by decide) (by decide))) rfl ((bK _ (by omega)).trans (by rw [hLa]))) (cB rfl (cB rfl (cB (nW (l:=[]) rfl (by simp)) (cB rfl (cB (nW (l:=[]) rfl (by simp)) rfl)))))))) eA) rfl)).trans ?_;exact eT
theorem CT {α:Type} {P:List α->Prop} {n:Nat} (h:∀ a us,us.length=n->P (a::us)):∀ us:List α,us.length=n+1->P us:=λ us hl=>by
 cases us with
 | nil=>cases hl
 | cons a us=>exact h a us (Nat.succ.inj hl)
theorem L0 {α:Type} {P:List α->Prop} (h:P []):∀ us:List α,us.length=0->P us:=λ us hl=>by
 cases us with
 | nil=>exact h
 | cons a us=>cases hl
theorem vB {α:Type} {P:List α->Prop} (h:∀ a0,P [a0]):∀ us:List α,us.length=1->P us:=CT λ a us hl=>L0 (P:=λ l=>P (a::l)) (h a) us hl
theorem vy {α:Type} {P:List α->Prop} (h:∀ a0 a1,P [a0,a1]):∀ us:List α,us.length=2->P us:=CT λ a us hl=>vB (P:=λ l=>P (a::l)) (h a) us hl
theorem zD {α:Type} {P:List α->Prop} (h:∀ a0 a1 a2,P [a0,a1,a2]):∀ us:List α,us.length=3->P us:=CT λ a us hl=>vy (P:=λ l=>P (a::l)) (h a) us hl
theorem IK {α:Type} {P:List α->Prop} (h:∀ a0 a1 a2 a3,P [a0,a1,a2,a3]):∀ us:List α,us.length=4->P us:=CT λ a us hl=>zD (P:=λ l=>P (a::l)) (h a) us hl
theorem Lq {α:Type} {P:List α->Prop} (h:∀ a0 a1 a2 a3 a4,P [a0,a1,a2,a3,a4]):∀ us:List α,us.length=5->P us:=CT λ a us hl=>IK (P:=λ l=>P (a::l)) (h a) us hl
theorem LM {α:Type} {P:List α->Prop} (h:∀ a0 a1 a2 a3 a4 a5,P [a0,a1,a2,a3,a4,a5]):∀ us:List α,us.length=6->P us:=CT λ a us hl=>Lq (P:=λ l=>P (a::l)) (h a) us hl
theorem Lv {α:Type} {P:List α->Prop} (h:∀ a0 a1 a2 a3 a4 a5 a6,P [a0,a1,a2,a3,a4,a5,a6]):∀ us:List α,us.length=7->P us:=CT λ a us hl=>LM (P:=λ l=>P (a::l)) (h a) us hl
set_option maxHeartbeats 0 in
theorem all_mk {l:PySem.W.OpenLaw} {w:World} {K:Frag} {h:Heap} {mg:Str->Option Value} {fa:Addr} (X:K.In h) (G:h.Ns mainGlobals mg) (hfa:mg "law" = some (.ref fa)) {c_Walk:Addr} {c_Frame:Addr} {c_Story:Addr} {c_Goer:Addr} {c_Nought:Addr} {c_Outside:Addr} {f3:Addr} {od3 an3:Option Addr} {sl3:Array (Option Value)} {oc3 kV3 dc3 pm3 cd3 ct3:Value} {f4:Addr} {od4 an4:Option Addr} {sl4:Array (Option Value)} {oc4 kV4 dc4 pm4 cd4 ct4:Value} {f5:Addr} {od5 an5:Option Addr} {sl5:Array (Option Value)} {oc5 kV5 dc5 pm5 cd5 ct5:Value} {f6:Addr} {od6 an6:Option Addr} {sl6:Array (Option Value)} {oc6 kV6 dc6 pm6 cd6 ct6:Value} {f7:Addr} {od7 an7:Option Addr} {sl7:Array (Option Value)} {oc7 kV7 dc7 pm7 cd7 ct7:Value} {f8:Addr} {od8 an8:Option Addr} {sl8:Array (Option Value)} {oc8 kV8 dc8 pm8 cd8 ct8:Value} {f9:Addr} {od9 an9:Option Addr} {sl9:Array (Option Value)} {oc9 kV9 dc9 pm9 cd9 ct9:Value} {f10:Addr} {od10 an10:Option Addr} {sl10:Array (Option Value)} {oc10 kV10 dc10 pm10 cd10 ct10:Value} {f11:Addr} {od11 an11:Option Addr} {sl11:Array (Option Value)} {oc11 kV11 dc11 pm11 cd11 ct11:Value} {f12:Addr} {od12 an12:Option Addr} {sl12:Array (Option Value)} {oc12 kV12 dc12 pm12 cd12 ct12:Value} {f13:Addr} {od13 an13:Option Addr} {sl13:Array (Option Value)} {oc13 kV13 dc13 pm13 cd13 ct13:Value} {f14:Addr} {od14 an14:Option Addr} {sl14:Array (Option Value)} {oc14 kV14 dc14 pm14 cd14 ct14:Value} {f15:Addr} {od15 an15:Option Addr} {sl15:Array (Option Value)} {oc15 kV15 dc15 pm15 cd15 ct15:Value} {f16:Addr} {od16 an16:Option Addr} {sl16:Array (Option Value)} {oc16 kV16 dc16 pm16 cd16 ct16:Value} {f17:Addr} {od17 an17:Option Addr} {sl17:Array (Option Value)} {oc17 kV17 dc17 pm17 cd17 ct17:Value} {f18:Addr} {od18 an18:Option Addr} {sl18:Array (Option Value)} {oc18 kV18 dc18 pm18 cd18 ct18:Value} {f19:Addr} {od19 an19:Option Addr} {sl19:Array (Option Value)} {oc19 kV19 dc19 pm19 cd19 ct19:Value} {f20:Addr} {od20 an20:Option Addr} {sl20:Array (Option Value)} {oc20 kV20 dc20 pm20 cd20 ct20:Value} {f21:Addr} {od21 an21:Option Addr} {sl21:Array (Option Value)} {oc21 kV21 dc21 pm21 cd21 ct21:Value} {f22:Addr} {od22 an22:Option Addr} {sl22:Array (Option Value)} {oc22 kV22 dc22 pm22 cd22 ct22:Value} {f23:Addr} {od23 an23:Option Addr} {sl23:Array (Option Value)} {oc23 kV23 dc23 pm23 cd23 ct23:Value} {f24:Addr} {od24 an24:Option Addr} {sl24:Array (Option Value)} {oc24 kV24 dc24 pm24 cd24 ct24:Value} {f25:Addr} {od25 an25:Option Addr} {sl25:Array (Option Value)} {oc25 kV25 dc25 pm25 cd25 ct25:Value} {f26:Addr} {od26 an26:Option Addr} {sl26:Array (Option Value)} {oc26 kV26 dc26 pm26 cd26 ct26:Value} {tD:Tok} {tL:Tok} {a_SIGNS:Addr} {o_SIGNS:Obj} {tS:Tok}
 (mm_Walk:PySem.W.nsIn K mainGlobals "Walk" = some (some (.ref c_Walk)))
 (mm_Frame:PySem.W.nsIn K mainGlobals "Frame" = some (some (.ref c_Frame)))
 (mm_Story:PySem.W.nsIn K mainGlobals "Story" = some (some (.ref c_Story)))
 (mm_Goer:PySem.W.nsIn K mainGlobals "Goer" = some (some (.ref c_Goer)))
 (mm_Nought:PySem.W.nsIn K mainGlobals "Nought" = some (some (.ref c_Nought)))
 (mm_Outside:PySem.W.nsIn K mainGlobals "Outside" = some (some (.ref c_Outside)))
 (ex_Nought:XClE K c_Nought)
 (ex_Outside:XClE K c_Outside)
 (xm1:PySem.W.exmOne K (.ref c_Nought) (.ref c_Nought)=some true)
 (xm2:PySem.W.exmOne K (.ref c_Outside) (.ref c_Nought)=some false)
 (xm3:PySem.W.exmOne K (.ref c_Outside) (.ref c_Outside)=some true)
 (a0:An K "wrapped" pT .none)
 (a1:An K "unwrapped" mq .none)
 (a2:An K "worked" rm .none)
 (a3:PySem.W.findIn K (.ref c_Walk) "__init__" = some (some (.ref f3)))
 (ifn3:PySem.W.isFn K (.ref f3)=true)
 (l3:K.lookup f3=some ⟨oc3,od3,.func (PySem.W.fnOf "__init__" "Walk.__init__" (aT cS) (aN cS) (aw cS) .none kV3 dc3 pm3 an3 cd3 ct3),sl3⟩)
 (c3:PySem.W.codeIn K cd3 "Walk.__init__" = true)
 (k3:PySem.W.keepIn K (.ref f3)=true)
 (a4:PySem.W.findIn K (.ref c_Walk) "is_over" = some (some (.ref f4)))
 (ifn4:PySem.W.isFn K (.ref f4)=true)
 (l4:K.lookup f4=some ⟨oc4,od4,.func (PySem.W.fnOf "is_over" "Walk.is_over" (aT dE) (aN dE) (aw dE) .none kV4 dc4 pm4 an4 cd4 ct4),sl4⟩)
 (c4:PySem.W.codeIn K cd4 "Walk.is_over" = true)
 (k4:PySem.W.keepIn K (.ref f4)=true)
 (a5:PySem.W.findIn K (.ref c_Walk) "before" = some (some (.ref f5)))
 (ifn5:PySem.W.isFn K (.ref f5)=true)
 (l5:K.lookup f5=some ⟨oc5,od5,.func (PySem.W.fnOf "before" "Walk.before" (aT dZ) (aN dZ) (aw dZ) .none kV5 dc5 pm5 an5 cd5 ct5),sl5⟩)
 (c5:PySem.W.codeIn K cd5 "Walk.before" = true)
 (k5:PySem.W.keepIn K (.ref f5)=true)
 (a6:PySem.W.findIn K (.ref c_Walk) "taken" = some (some (.ref f6)))
 (ifn6:PySem.W.isFn K (.ref f6)=true)
 (l6:K.lookup f6=some ⟨oc6,od6,.func (PySem.W.fnOf "taken" "Walk.taken" (aT fj) (aN fj) (aw fj) .none kV6 dc6 pm6 an6 cd6 ct6),sl6⟩)
 (c6:PySem.W.codeIn K cd6 "Walk.taken" = true)
 (k6:PySem.W.keepIn K (.ref f6)=true)
 (a7:PySem.W.findIn K (.ref c_Frame) "__init__" = some (some (.ref f7)))
 (ifn7:PySem.W.isFn K (.ref f7)=true)
 (l7:K.lookup f7=some ⟨oc7,od7,.func (PySem.W.fnOf "__init__" "Frame.__init__" (aT cH) (aN cH) (aw cH) .none kV7 dc7 pm7 an7 cd7 ct7),sl7⟩)
 (c7:PySem.W.codeIn K cd7 "Frame.__init__" = true)
 (k7:PySem.W.keepIn K (.ref f7)=true)
 (a8:PySem.W.findIn K (.ref c_Frame) "statement" = some (some (.ref f8)))
 (ifn8:PySem.W.isFn K (.ref f8)=true)
 (l8:K.lookup f8=some ⟨oc8,od8,.func (PySem.W.fnOf "statement" "Frame.statement" (aT cn) (aN cn) (aw cn) .none kV8 dc8 pm8 an8 cd8 ct8),sl8⟩)
 (c8:PySem.W.codeIn K cd8 "Frame.statement" = true)
 (k8:PySem.W.keepIn K (.ref f8)=true)
 (a9:PySem.W.findIn K (.ref c_Frame) "pass_by" = some (some (.ref f9)))
 (ifn9:PySem.W.isFn K (.ref f9)=true)
 (l9:K.lookup f9=some ⟨oc9,od9,.func (PySem.W.fnOf "pass_by" "Frame.pass_by" (aT cW) (aN cW) (aw cW) .none kV9 dc9 pm9 an9 cd9 ct9),sl9⟩)
 (c9:PySem.W.codeIn K cd9 "Frame.pass_by" = true)
 (k9:PySem.W.keepIn K (.ref f9)=true)
 (a10:PySem.W.findIn K (.ref c_Story) "__init__" = some (some (.ref f10)))
 (ifn10:PySem.W.isFn K (.ref f10)=true)
 (l10:K.lookup f10=some ⟨oc10,od10,.func (PySem.W.fnOf "__init__" "Story.__init__" (aT cC) (aN cC) (aw cC) .none kV10 dc10 pm10 an10 cd10 ct10),sl10⟩)
 (c10:PySem.W.codeIn K cd10 "Story.__init__" = true)
 (k10:PySem.W.keepIn K (.ref f10)=true)
 (a11:PySem.W.findIn K (.ref c_Story) "begin_phase" = some (some (.ref f11)))
 (ifn11:PySem.W.isFn K (.ref f11)=true)
 (l11:K.lookup f11=some ⟨oc11,od11,.func (PySem.W.fnOf "begin_phase" "Story.begin_phase" (aT bM) (aN bM) (aw bM) .none kV11 dc11 pm11 an11 cd11 ct11),sl11⟩)
 (c11:PySem.W.codeIn K cd11 "Story.begin_phase" = true)
 (k11:PySem.W.keepIn K (.ref f11)=true)
 (a12:PySem.W.findIn K (.ref c_Story) "add_step" = some (some (.ref f12)))
 (ifn12:PySem.W.isFn K (.ref f12)=true)
 (l12:K.lookup f12=some ⟨oc12,od12,.func (PySem.W.fnOf "add_step" "Story.add_step" (aT cD) (aN cD) (aw cD) .none kV12 dc12 pm12 an12 cd12 ct12),sl12⟩)
 (c12:PySem.W.codeIn K cd12 "Story.add_step" = true)
 (k12:PySem.W.keepIn K (.ref f12)=true)
 (a13:PySem.W.findIn K (.ref c_Story) "add_touch" = some (some (.ref f13)))
 (ifn13:PySem.W.isFn K (.ref f13)=true)
 (l13:K.lookup f13=some ⟨oc13,od13,.func (PySem.W.fnOf "add_touch" "Story.add_touch" (aT ci) (aN ci) (aw ci) .none kV13 dc13 pm13 an13 cd13 ct13),sl13⟩)
 (c13:PySem.W.codeIn K cd13 "Story.add_touch" = true)
 (k13:PySem.W.keepIn K (.ref f13)=true)
 (a14:PySem.W.findIn K (.ref c_Story) "finish" = some (some (.ref f14)))
 (ifn14:PySem.W.isFn K (.ref f14)=true)
 (l14:K.lookup f14=some ⟨oc14,od14,.func (PySem.W.fnOf "finish" "Story.finish" (aT d7) (aN d7) (aw d7) .none kV14 dc14 pm14 an14 cd14 ct14),sl14⟩)
 (c14:PySem.W.codeIn K cd14 "Story.finish" = true)
 (k14:PySem.W.keepIn K (.ref f14)=true)
 (a15:PySem.W.findIn K (.ref c_Goer) "__init__" = some (some (.ref f15)))
 (ifn15:PySem.W.isFn K (.ref f15)=true)
 (l15:K.lookup f15=some ⟨oc15,od15,.func (PySem.W.fnOf "__init__" "Goer.__init__" (aT cU) (aN cU) (aw cU) .none kV15 dc15 pm15 an15 cd15 ct15),sl15⟩)
 (c15:PySem.W.codeIn K cd15 "Goer.__init__" = true)
 (k15:PySem.W.keepIn K (.ref f15)=true)
 (a16:PySem.W.findIn K (.ref c_Goer) "touch" = some (some (.ref f16)))
 (ifn16:PySem.W.isFn K (.ref f16)=true)
 (l16:K.lookup f16=some ⟨oc16,od16,.func (PySem.W.fnOf "touch" "Goer.touch" (aT fu) (aN fu) (aw fu) .none kV16 dc16 pm16 an16 cd16 ct16),sl16⟩)
 (c16:PySem.W.codeIn K cd16 "Goer.touch" = true)
 (k16:PySem.W.keepIn K (.ref f16)=true)
 (a17:PySem.W.findIn K (.ref c_Goer) "got" = some (some (.ref f17)))
 (ifn17:PySem.W.isFn K (.ref f17)=true)
 (l17:K.lookup f17=some ⟨oc17,od17,.func (PySem.W.fnOf "got" "Goer.got" (aT gE) (aN gE) (aw gE) .none kV17 dc17 pm17 an17 cd17 ct17),sl17⟩)
 (c17:PySem.W.codeIn K cd17 "Goer.got" = true)
 (k17:PySem.W.keepIn K (.ref f17)=true)
 (a18:PySem.W.findIn K (.ref c_Goer) "reckoned" = some (some (.ref f18)))
 (ifn18:PySem.W.isFn K (.ref f18)=true)
 (l18:K.lookup f18=some ⟨oc18,od18,.func (PySem.W.fnOf "reckoned" "Goer.reckoned" (aT cT) (aN cT) (aw cT) .none kV18 dc18 pm18 an18 cd18 ct18),sl18⟩)
 (c18:PySem.W.codeIn K cd18 "Goer.reckoned" = true)
 (k18:PySem.W.keepIn K (.ref f18)=true)
 (a19:PySem.W.findIn K (.ref c_Goer) "give" = some (some (.ref f19)))
 (ifn19:PySem.W.isFn K (.ref f19)=true)
 (l19:K.lookup f19=some ⟨oc19,od19,.func (PySem.W.fnOf "give" "Goer.give" (aT fV) (aN fV) (aw fV) .none kV19 dc19 pm19 an19 cd19 ct19),sl19⟩)
 (c19:PySem.W.codeIn K cd19 "Goer.give" = true)
 (k19:PySem.W.keepIn K (.ref f19)=true)
 (a20:PySem.W.findIn K (.ref c_Goer) "go_back" = some (some (.ref f20)))
 (ifn20:PySem.W.isFn K (.ref f20)=true)
 (l20:K.lookup f20=some ⟨oc20,od20,.func (PySem.W.fnOf "go_back" "Goer.go_back" (aT d9) (aN d9) (aw d9) .none kV20 dc20 pm20 an20 cd20 ct20),sl20⟩)
 (c20:PySem.W.codeIn K cd20 "Goer.go_back" = true)
 (k20:PySem.W.keepIn K (.ref f20)=true)
 (a21:PySem.W.findIn K (.ref c_Goer) "do_call" = some (some (.ref f21)))
 (ifn21:PySem.W.isFn K (.ref f21)=true)
 (l21:K.lookup f21=some ⟨oc21,od21,.func (PySem.W.fnOf "do_call" "Goer.do_call" (aT dH) (aN dH) (aw dH) .none kV21 dc21 pm21 an21 cd21 ct21),sl21⟩)
 (c21:PySem.W.codeIn K cd21 "Goer.do_call" = true)
 (k21:PySem.W.keepIn K (.ref f21)=true)
 (a22:PySem.W.findIn K (.ref c_Goer) "leave" = some (some (.ref f22)))
 (ifn22:PySem.W.isFn K (.ref f22)=true)
 (l22:K.lookup f22=some ⟨oc22,od22,.func (PySem.W.fnOf "leave" "Goer.leave" (aT fq) (aN fq) (aw fq) .none kV22 dc22 pm22 an22 cd22 ct22),sl22⟩)
 (c22:PySem.W.codeIn K cd22 "Goer.leave" = true)
 (k22:PySem.W.keepIn K (.ref f22)=true)
 (a23:PySem.W.findIn K (.ref c_Goer) "do" = some (some (.ref f23)))
 (ifn23:PySem.W.isFn K (.ref f23)=true)
 (l23:K.lookup f23=some ⟨oc23,od23,.func (PySem.W.fnOf "do" "Goer.do" (aT ij) (aN ij) (aw ij) .none kV23 dc23 pm23 an23 cd23 ct23),sl23⟩)
 (c23:PySem.W.codeIn K cd23 "Goer.do" = true)
 (k23:PySem.W.keepIn K (.ref f23)=true)
 (a24:PySem.W.findIn K (.ref c_Goer) "step" = some (some (.ref f24)))
 (ifn24:PySem.W.isFn K (.ref f24)=true)
 (l24:K.lookup f24=some ⟨oc24,od24,.func (PySem.W.fnOf "step" "Goer.step" (aT fR) (aN fR) (aw fR) .none kV24 dc24 pm24 an24 cd24 ct24),sl24⟩)
 (c24:PySem.W.codeIn K cd24 "Goer.step" = true)
 (k24:PySem.W.keepIn K (.ref f24)=true)
 (a25:PySem.W.findIn K (.ref c_Goer) "end_def" = some (some (.ref f25)))
 (ifn25:PySem.W.isFn K (.ref f25)=true)
 (l25:K.lookup f25=some ⟨oc25,od25,.func (PySem.W.fnOf "end_def" "Goer.end_def" (aT dF) (aN dF) (aw dF) .none kV25 dc25 pm25 an25 cd25 ct25),sl25⟩)
 (c25:PySem.W.codeIn K cd25 "Goer.end_def" = true)
 (k25:PySem.W.keepIn K (.ref f25)=true)
 (a26:PySem.W.findIn K (.ref c_Goer) "go" = some (some (.ref f26)))
 (ifn26:PySem.W.isFn K (.ref f26)=true)
 (l26:K.lookup f26=some ⟨oc26,od26,.func (PySem.W.fnOf "go" "Goer.go" (aT im) (aN im) (aw im) .none kV26 dc26 pm26 an26 cd26 ct26),sl26⟩)
 (c26:PySem.W.codeIn K cd26 "Goer.go" = true)
 (k26:PySem.W.keepIn K (.ref f26)=true)
 (a27:An K "alone" vk .none)
 (a28:An K "_law_cell" lT .none)
 (a29:An K "_law_mixed" kC .none)
 (a30:An K "_law_all_whole" iu .none)
 (a31:An K "_law_into_range" gZ .none)
 (a32:An K "_law_names" kA .none)
 (a33:An K "_law_handed" jT .none)
 (a34:An K "_law_plan" mm .none)
 (a35:An K "_law_next" lX .none)
 (a36:An K "_law_body" m7 .none)
 (a37:An K "_law_program" j6 .none)
 (a38:An K "_law_worth" kR .none)
 (a39:An K "_law_way_in" jZ .none)
 (a40:An K "_law_way_out" js .none)
 (a41:An K "law" rD .none)
 (pg_Walk:PySem.W.plainGet K c_Walk Str.empty=true)
 (hd_Walk:PySem.W.hasDictIn K c_Walk=true)
 (po_Walk:PySem.W.plainOver K c_Walk=true)
 (sa_Walk:PySem.W.findIn K (.ref c_Walk) "__setattr__" = some (some (.builtin "object.__setattr__")))
 (mk_Walk:PySem.W.makesIn K c_Walk=true)
 (kc_Walk:PySem.W.keepIn K (.ref c_Walk)=true)
 (nn_Walk_row:PySem.W.findIn K (.ref c_Walk) "row" = some none)
 (nn_Walk_at:PySem.W.findIn K (.ref c_Walk) "at" = some none)
 (pg_Frame:PySem.W.plainGet K c_Frame Str.empty=true)
 (hd_Frame:PySem.W.hasDictIn K c_Frame=true)
 (po_Frame:PySem.W.plainOver K c_Frame=true)
 (sa_Frame:PySem.W.findIn K (.ref c_Frame) "__setattr__" = some (some (.builtin "object.__setattr__")))
 (mk_Frame:PySem.W.makesIn K c_Frame=true)
 (kc_Frame:PySem.W.keepIn K (.ref c_Frame)=true)
 (nn_Frame_names:PySem.W.findIn K (.ref c_Frame) "names" = some none)
 (nn_Frame_given:PySem.W.findIn K (.ref c_Frame) "given" = some none)
 (nn_Frame_walks:PySem.W.findIn K (.ref c_Frame) "walks" = some none)
 (nn_Frame_loops:PySem.W.findIn K (.ref c_Frame) "loops" = some none)
 (pg_Story:PySem.W.plainGet K c_Story Str.empty=true)
 (hd_Story:PySem.W.hasDictIn K c_Story=true)
 (po_Story:PySem.W.plainOver K c_Story=true)
 (sa_Story:PySem.W.findIn K (.ref c_Story) "__setattr__" = some (some (.builtin "object.__setattr__")))
 (mk_Story:PySem.W.makesIn K c_Story=true)
 (kc_Story:PySem.W.keepIn K (.ref c_Story)=true)
 (nn_Story_told:PySem.W.findIn K (.ref c_Story) "told" = some none)
 (nn_Story_steps:PySem.W.findIn K (.ref c_Story) "steps" = some none)
 (nn_Story_end:PySem.W.findIn K (.ref c_Story) "end" = some none)
 (nn_Story_brought:PySem.W.findIn K (.ref c_Story) "brought" = some none)
 (nn_Story_touches:PySem.W.findIn K (.ref c_Story) "touches" = some none)
 (nn_Story_puts:PySem.W.findIn K (.ref c_Story) "puts" = some none)
 (nn_Story_lines:PySem.W.findIn K (.ref c_Story) "lines" = some none)
 (pg_Goer:PySem.W.plainGet K c_Goer Str.empty=true)
 (hd_Goer:PySem.W.hasDictIn K c_Goer=true)
 (po_Goer:PySem.W.plainOver K c_Goer=true)
 (sa_Goer:PySem.W.findIn K (.ref c_Goer) "__setattr__" = some (some (.builtin "object.__setattr__")))
 (mk_Goer:PySem.W.makesIn K c_Goer=true)
 (kc_Goer:PySem.W.keepIn K (.ref c_Goer)=true)
 (nn_Goer_defs:PySem.W.findIn K (.ref c_Goer) "defs" = some none)
 (nn_Goer_lane:PySem.W.findIn K (.ref c_Goer) "lane" = some none)
 (nn_Goer_signs:PySem.W.findIn K (.ref c_Goer) "signs" = some none)
 (nn_Goer_boxes:PySem.W.findIn K (.ref c_Goer) "boxes" = some none)
 (nn_Goer_most:PySem.W.findIn K (.ref c_Goer) "most" = some none)
 (nn_Goer_frames:PySem.W.findIn K (.ref c_Goer) "frames" = some none)
 (nn_Goer_line:PySem.W.findIn K (.ref c_Goer) "line" = some none)
 (nn_Goer_meeting:PySem.W.findIn K (.ref c_Goer) "meeting" = some none)
 (nn_Goer_story:PySem.W.findIn K (.ref c_Goer) "story" = some none)
 (zz_bool:PySem.W.nsIn K mainGlobals "bool" = some none)
 (zz_dict:PySem.W.nsIn K mainGlobals "dict" = some none)
 (zz_int:PySem.W.nsIn K mainGlobals "int" = some none)
 (zz_isinstance:PySem.W.nsIn K mainGlobals "isinstance" = some none)
 (zz_len:PySem.W.nsIn K mainGlobals "len" = some none)
 (zz_list:PySem.W.nsIn K mainGlobals "list" = some none)
 (zz_range:PySem.W.nsIn K mainGlobals "range" = some none)
 (zz_repr:PySem.W.nsIn K mainGlobals "repr" = some none)
 (zz_reversed:PySem.W.nsIn K mainGlobals "reversed" = some none)
 (zz_zip:PySem.W.nsIn K mainGlobals "zip" = some none)
 (mm_DEEPEST:PySem.W.nsIn K mainGlobals "DEEPEST" = some (some (.int 6 tD)))
 (mm_LEAST:PySem.W.nsIn K mainGlobals "LEAST" = some (some (.int (-2147483648) tL)))
 (mm_SIGNS:PySem.W.nsIn K mainGlobals "SIGNS" = some (some (.ref a_SIGNS)))
 (lk_SIGNS:K.lookup a_SIGNS=some o_SIGNS)
 (lc_SIGNS:o_SIGNS.cls=.type "tuple")
 (lt_SIGNS:uh o_SIGNS [(Str.ofString "lane"),(Str.ofString "lanes"),(Str.ofString "mine")]=true)
 (mm_SPAN:PySem.W.nsIn K mainGlobals "SPAN" = some (some (.int 4294967296 tS))):
 ∃ fd:FuncData,(∀ (s:Shared) (v:Value),BindsTo s fd ⟨[v],[]⟩ [("_law_script", v)])/\∀ base:Heap,K.In base->base.Ns mainGlobals mg->et l.prog w K mg base uz 18 fa fd ["_law_script"] (qr K):=by
 have m_Walk:mg "Walk" = some (.ref ((bL c_Walk c_Frame c_Story c_Goer c_Nought c_Outside) "Walk")):=by rw [fX];exact PySem.W.mg_of X G mm_Walk
 have m_Frame:mg "Frame" = some (.ref ((bL c_Walk c_Frame c_Story c_Goer c_Nought c_Outside) "Frame")):=by rw [dU];exact PySem.W.mg_of X G mm_Frame
 have m_Story:mg "Story" = some (.ref ((bL c_Walk c_Frame c_Story c_Goer c_Nought c_Outside) "Story")):=by rw [bF];exact PySem.W.mg_of X G mm_Story
 have m_Goer:mg "Goer" = some (.ref ((bL c_Walk c_Frame c_Story c_Goer c_Nought c_Outside) "Goer")):=by rw [ba];exact PySem.W.mg_of X G mm_Goer
 have m_Nought:mg "Nought" = some (.ref ((bL c_Walk c_Frame c_Story c_Goer c_Nought c_Outside) "Nought")):=by rw [kf];exact PySem.W.mg_of X G mm_Nought
 have m_Outside:mg "Outside" = some (.ref ((bL c_Walk c_Frame c_Story c_Goer c_Nought c_Outside) "Outside")):=by rw [jC];exact PySem.W.mg_of X G mm_Outside
 have x_Nought:XClE K ((bL c_Walk c_Frame c_Story c_Goer c_Nought c_Outside) "Nought"):=by rw [kf];exact ex_Nought
 have x_Outside:XClE K ((bL c_Walk c_Frame c_Story c_Goer c_Nought c_Outside) "Outside"):=by rw [jC];exact ex_Outside
 have xm:Es K ((bL c_Walk c_Frame c_Story c_Goer c_Nought c_Outside) "Nought") ((bL c_Walk c_Frame c_Story c_Goer c_Nought c_Outside) "Outside"):=by rw [kf,jC];exact ⟨xm1,xm2,xm3⟩
 have b_Walk___init__:=(bH (st:=cS) l3 c3 k3).binds (ps:=["self", "row"]) (λ _ _ _ _ _ _=>vy λ _ _=>rfl);have b_Walk_is_over:=(bH (st:=dE) l4 c4 k4).binds (ps:=["self"]) (λ _ _ _ _ _ _=>vB λ _=>rfl);have mt_Walk_is_over:bg K ((bL c_Walk c_Frame c_Story c_Goer c_Nought c_Outside) "Walk") "is_over" f4:=by rw [fX];exact ⟨a4,ifn4,k4⟩
 have b_Walk_before:=(bH (st:=dZ) l5 c5 k5).binds (ps:=["self"]) (λ _ _ _ _ _ _=>vB λ _=>rfl);have mt_Walk_before:bg K ((bL c_Walk c_Frame c_Story c_Goer c_Nought c_Outside) "Walk") "before" f5:=by rw [fX];exact ⟨a5,ifn5,k5⟩
 have b_Walk_taken:=(bH (st:=fj) l6 c6 k6).binds (ps:=["self"]) (λ _ _ _ _ _ _=>vB λ _=>rfl);have mt_Walk_taken:bg K ((bL c_Walk c_Frame c_Story c_Goer c_Nought c_Outside) "Walk") "taken" f6:=by rw [fX];exact ⟨a6,ifn6,k6⟩
 have b_Frame___init__:=(bH (st:=cH) l7 c7 k7).binds (ps:=["self", "body", "names", "given"]) (λ _ _ _ _ _ _=>IK λ _ _ _ _=>rfl);have b_Frame_statement:=(bH (st:=cn) l8 c8 k8).binds (ps:=["self"]) (λ _ _ _ _ _ _=>vB λ _=>rfl);have mt_Frame_statement:bg K ((bL c_Walk c_Frame c_Story c_Goer c_Nought c_Outside) "Frame") "statement" f8:=by rw [dU];exact ⟨a8,ifn8,k8⟩
 have b_Frame_pass_by:=(bH (st:=cW) l9 c9 k9).binds (ps:=["self"]) (λ _ _ _ _ _ _=>vB λ _=>rfl);have mt_Frame_pass_by:bg K ((bL c_Walk c_Frame c_Story c_Goer c_Nought c_Outside) "Frame") "pass_by" f9:=by rw [dU];exact ⟨a9,ifn9,k9⟩
 have b_Story___init__:=(bH (st:=cC) l10 c10 k10).binds (ps:=["self"]) (λ _ _ _ _ _ _=>vB λ _=>rfl);have b_Story_begin_phase:=(bH (st:=bM) l11 c11 k11).binds (ps:=["self"]) (λ _ _ _ _ _ _=>vB λ _=>rfl);have mt_Story_begin_phase:bg K ((bL c_Walk c_Frame c_Story c_Goer c_Nought c_Outside) "Story") "begin_phase" f11:=by rw [bF];exact ⟨a11,ifn11,k11⟩
 have b_Story_add_step:=(bH (st:=cD) l12 c12 k12).binds (ps:=["self", "line"]) (λ _ _ _ _ _ _=>vy λ _ _=>rfl);have mt_Story_add_step:bg K ((bL c_Walk c_Frame c_Story c_Goer c_Nought c_Outside) "Story") "add_step" f12:=by rw [bF];exact ⟨a12,ifn12,k12⟩
 have b_Story_add_touch:=(bH (st:=ci) l13 c13 k13).binds (ps:=["self", "word", "place", "line"]) (λ _ _ _ _ _ _=>IK λ _ _ _ _=>rfl);have mt_Story_add_touch:bg K ((bL c_Walk c_Frame c_Story c_Goer c_Nought c_Outside) "Story") "add_touch" f13:=by rw [bF];exact ⟨a13,ifn13,k13⟩
 have b_Story_finish:=(bH (st:=d7) l14 c14 k14).binds (ps:=["self", "word", "line"]) (λ _ _ _ _ _ _=>zD λ _ _ _=>rfl);have mt_Story_finish:bg K ((bL c_Walk c_Frame c_Story c_Goer c_Nought c_Outside) "Story") "finish" f14:=by rw [bF];exact ⟨a14,ifn14,k14⟩
 have b_Goer___init__:=(bH (st:=cU) l15 c15 k15).binds (ps:=["self", "program", "lane", "lanes", "mine", "boxes", "most"]) (λ _ _ _ _ _ _=>Lv λ _ _ _ _ _ _ _=>rfl);have b_Goer_touch:=(bH (st:=fu) l16 c16 k16).binds (ps:=["self", "word", "place"]) (λ _ _ _ _ _ _=>zD λ _ _ _=>rfl);have mt_Goer_touch:bg K ((bL c_Walk c_Frame c_Story c_Goer c_Nought c_Outside) "Goer") "touch" f16:=by rw [ba];exact ⟨a16,ifn16,k16⟩
 have b_Goer_got:=(bH (st:=gE) l17 c17 k17).binds (ps:=["self", "place"]) (λ _ _ _ _ _ _=>vy λ _ _=>rfl);have mt_Goer_got:bg K ((bL c_Walk c_Frame c_Story c_Goer c_Nought c_Outside) "Goer") "got" f17:=by rw [ba];exact ⟨a17,ifn17,k17⟩
 have b_Goer_reckoned:=(bH (st:=cT) l18 c18 k18).binds (ps:=["self", "expression"]) (λ _ _ _ _ _ _=>vy λ _ _=>rfl);have mt_Goer_reckoned:bg K ((bL c_Walk c_Frame c_Story c_Goer c_Nought c_Outside) "Goer") "reckoned" f18:=by rw [ba];exact ⟨a18,ifn18,k18⟩
 have b_Goer_give:=(bH (st:=fV) l19 c19 k19).binds (ps:=["self", "name", "number"]) (λ _ _ _ _ _ _=>zD λ _ _ _=>rfl);have mt_Goer_give:bg K ((bL c_Walk c_Frame c_Story c_Goer c_Nought c_Outside) "Goer") "give" f19:=by rw [ba];exact ⟨a19,ifn19,k19⟩
 have b_Goer_go_back:=(bH (st:=d9) l20 c20 k20).binds (ps:=["self", "number"]) (λ _ _ _ _ _ _=>vy λ _ _=>rfl);have mt_Goer_go_back:bg K ((bL c_Walk c_Frame c_Story c_Goer c_Nought c_Outside) "Goer") "go_back" f20:=by rw [ba];exact ⟨a20,ifn20,k20⟩
 have b_Goer_do_call:=(bH (st:=dH) l21 c21 k21).binds (ps:=["self", "statement"]) (λ _ _ _ _ _ _=>vy λ _ _=>rfl);have mt_Goer_do_call:bg K ((bL c_Walk c_Frame c_Story c_Goer c_Nought c_Outside) "Goer") "do_call" f21:=by rw [ba];exact ⟨a21,ifn21,k21⟩
 have b_Goer_leave:=(bH (st:=fq) l22 c22 k22).binds (ps:=["self", "statement"]) (λ _ _ _ _ _ _=>vy λ _ _=>rfl);have mt_Goer_leave:bg K ((bL c_Walk c_Frame c_Story c_Goer c_Nought c_Outside) "Goer") "leave" f22:=by rw [ba];exact ⟨a22,ifn22,k22⟩
 have b_Goer_do:=(bH (st:=ij) l23 c23 k23).binds (ps:=["self", "statement"]) (λ _ _ _ _ _ _=>vy λ _ _=>rfl);have mt_Goer_do:bg K ((bL c_Walk c_Frame c_Story c_Goer c_Nought c_Outside) "Goer") "do" f23:=by rw [ba];exact ⟨a23,ifn23,k23⟩
 have b_Goer_step:=(bH (st:=fR) l24 c24 k24).binds (ps:=["self", "statement"]) (λ _ _ _ _ _ _=>vy λ _ _=>rfl);have mt_Goer_step:bg K ((bL c_Walk c_Frame c_Story c_Goer c_Nought c_Outside) "Goer") "step" f24:=by rw [ba];exact ⟨a24,ifn24,k24⟩
 have b_Goer_end_def:=(bH (st:=dF) l25 c25 k25).binds (ps:=["self"]) (λ _ _ _ _ _ _=>vB λ _=>rfl);have mt_Goer_end_def:bg K ((bL c_Walk c_Frame c_Story c_Goer c_Nought c_Outside) "Goer") "end_def" f25:=by rw [ba];exact ⟨a25,ifn25,k25⟩
 have b_Goer_go:=(bH (st:=im) l26 c26 k26).binds (ps:=["self"]) (λ _ _ _ _ _ _=>vB λ _=>rfl);have mt_Goer_go:bg K ((bL c_Walk c_Frame c_Story c_Goer c_Nought c_Outside) "Goer") "go" f26:=by rw [ba];exact ⟨a26,ifn26,k26⟩
 have cl_Walk:eJ K ((bL c_Walk c_Frame c_Story c_Goer c_Nought c_Outside) "Walk"):=by rw [fX];exact ⟨pg_Walk,hd_Walk,po_Walk,sa_Walk⟩
 have n_Walk_row:ac K ((bL c_Walk c_Frame c_Story c_Goer c_Nought c_Outside) "Walk") "row" := by rw [fX];exact nn_Walk_row
 have n_Walk_at:ac K ((bL c_Walk c_Frame c_Story c_Goer c_Nought c_Outside) "Walk") "at" := by rw [fX];exact nn_Walk_at
 have M_Walk:Mk K ((bL c_Walk c_Frame c_Story c_Goer c_Nought c_Outside) "Walk") f3:=by rw [fX];exact ⟨mk_Walk,a3,ifn3,kc_Walk⟩
 have cl_Frame:eJ K ((bL c_Walk c_Frame c_Story c_Goer c_Nought c_Outside) "Frame"):=by rw [dU];exact ⟨pg_Frame,hd_Frame,po_Frame,sa_Frame⟩
 have n_Frame_names:ac K ((bL c_Walk c_Frame c_Story c_Goer c_Nought c_Outside) "Frame") "names" := by rw [dU];exact nn_Frame_names
 have n_Frame_given:ac K ((bL c_Walk c_Frame c_Story c_Goer c_Nought c_Outside) "Frame") "given" := by rw [dU];exact nn_Frame_given
 have n_Frame_walks:ac K ((bL c_Walk c_Frame c_Story c_Goer c_Nought c_Outside) "Frame") "walks" := by rw [dU];exact nn_Frame_walks
 have n_Frame_loops:ac K ((bL c_Walk c_Frame c_Story c_Goer c_Nought c_Outside) "Frame") "loops" := by rw [dU];exact nn_Frame_loops
 have M_Frame:Mk K ((bL c_Walk c_Frame c_Story c_Goer c_Nought c_Outside) "Frame") f7:=by rw [dU];exact ⟨mk_Frame,a7,ifn7,kc_Frame⟩
 have cl_Story:eJ K ((bL c_Walk c_Frame c_Story c_Goer c_Nought c_Outside) "Story"):=by rw [bF];exact ⟨pg_Story,hd_Story,po_Story,sa_Story⟩
 have n_Story_told:ac K ((bL c_Walk c_Frame c_Story c_Goer c_Nought c_Outside) "Story") "told" := by rw [bF];exact nn_Story_told
 have n_Story_steps:ac K ((bL c_Walk c_Frame c_Story c_Goer c_Nought c_Outside) "Story") "steps" := by rw [bF];exact nn_Story_steps
 have n_Story_end:ac K ((bL c_Walk c_Frame c_Story c_Goer c_Nought c_Outside) "Story") "end" := by rw [bF];exact nn_Story_end
 have n_Story_brought:ac K ((bL c_Walk c_Frame c_Story c_Goer c_Nought c_Outside) "Story") "brought" := by rw [bF];exact nn_Story_brought
 have n_Story_touches:ac K ((bL c_Walk c_Frame c_Story c_Goer c_Nought c_Outside) "Story") "touches" := by rw [bF];exact nn_Story_touches
 have n_Story_puts:ac K ((bL c_Walk c_Frame c_Story c_Goer c_Nought c_Outside) "Story") "puts" := by rw [bF];exact nn_Story_puts
 have n_Story_lines:ac K ((bL c_Walk c_Frame c_Story c_Goer c_Nought c_Outside) "Story") "lines" := by rw [bF];exact nn_Story_lines
 have M_Story:Mk K ((bL c_Walk c_Frame c_Story c_Goer c_Nought c_Outside) "Story") f10:=by rw [bF];exact ⟨mk_Story,a10,ifn10,kc_Story⟩
 have cl_Goer:eJ K ((bL c_Walk c_Frame c_Story c_Goer c_Nought c_Outside) "Goer"):=by rw [ba];exact ⟨pg_Goer,hd_Goer,po_Goer,sa_Goer⟩
 have n_Goer_defs:ac K ((bL c_Walk c_Frame c_Story c_Goer c_Nought c_Outside) "Goer") "defs" := by rw [ba];exact nn_Goer_defs
 have n_Goer_lane:ac K ((bL c_Walk c_Frame c_Story c_Goer c_Nought c_Outside) "Goer") "lane" := by rw [ba];exact nn_Goer_lane
 have n_Goer_signs:ac K ((bL c_Walk c_Frame c_Story c_Goer c_Nought c_Outside) "Goer") "signs" := by rw [ba];exact nn_Goer_signs
 have n_Goer_boxes:ac K ((bL c_Walk c_Frame c_Story c_Goer c_Nought c_Outside) "Goer") "boxes" := by rw [ba];exact nn_Goer_boxes
 have n_Goer_most:ac K ((bL c_Walk c_Frame c_Story c_Goer c_Nought c_Outside) "Goer") "most" := by rw [ba];exact nn_Goer_most
 have n_Goer_frames:ac K ((bL c_Walk c_Frame c_Story c_Goer c_Nought c_Outside) "Goer") "frames" := by rw [ba];exact nn_Goer_frames
 have n_Goer_line:ac K ((bL c_Walk c_Frame c_Story c_Goer c_Nought c_Outside) "Goer") "line" := by rw [ba];exact nn_Goer_line
 have n_Goer_meeting:ac K ((bL c_Walk c_Frame c_Story c_Goer c_Nought c_Outside) "Goer") "meeting" := by rw [ba];exact nn_Goer_meeting
 have n_Goer_story:ac K ((bL c_Walk c_Frame c_Story c_Goer c_Nought c_Outside) "Goer") "story" := by rw [ba];exact nn_Goer_story
 have M_Goer:Mk K ((bL c_Walk c_Frame c_Story c_Goer c_Nought c_Outside) "Goer") f15:=by rw [ba];exact ⟨mk_Goer,a15,ifn15,kc_Goer⟩
 have z_bool:=PySem.W.mg_none_of X G zz_bool;have z_dict:=PySem.W.mg_none_of X G zz_dict;have z_int:=PySem.W.mg_none_of X G zz_int;have z_isinstance:=PySem.W.mg_none_of X G zz_isinstance;have z_len:=PySem.W.mg_none_of X G zz_len;have z_list:=PySem.W.mg_none_of X G zz_list;have z_range:=PySem.W.mg_none_of X G zz_range;have z_repr:=PySem.W.mg_none_of X G zz_repr;have z_reversed:=PySem.W.mg_none_of X G zz_reversed;have z_zip:=PySem.W.mg_none_of X G zz_zip;have m_DEEPEST:=PySem.W.mg_of X G mm_DEEPEST;have g_DEEPEST:∀ ρ G,Dw K ρ G (.int 6) ((.int 6)):=λ ρ G=>Dw.int _;have m_LEAST:=PySem.W.mg_of X G mm_LEAST;have g_LEAST:∀ ρ G,Dw K ρ G (.int (-2147483648)) ((.int (-2147483648))):=λ ρ G=>Dw.int _;have m_SIGNS:=PySem.W.mg_of X G mm_SIGNS;have g_SIGNS:CW K a_SIGNS ([(Str.ofString "lane"),(Str.ofString "lanes"),(Str.ofString "mine")]):=λ _=>wF lk_SIGNS lc_SIGNS lt_SIGNS;have m_SPAN:=PySem.W.mg_of X G mm_SPAN;have g_SPAN:∀ ρ G,Dw K ρ G (.int 4294967296) ((.int 4294967296)):=λ ρ G=>Dw.int _;obtain ⟨_,_,_,kV,dc,pm,an,cd,ct,_,ml,ll,cL,kL⟩:=a41;cases hfa.symm.trans (PySem.W.mg_of X G ml);refine ⟨PySem.W.fnOf "law" "law" (aT rD) (aN rD) (aw rD) .none kV dc pm an cd ct,λ s v=>.of_eq rfl,λ base _ _=>?_⟩;have C_wrapped:=tR (P:=l.prog) (w:=w) (base:=base) (a0.dn X G (λ _ _ _ _ _ _=>vB λ _=>rfl)) m_LEAST g_LEAST m_SPAN g_SPAN;have C_unwrapped:=qi (P:=l.prog) (w:=w) (base:=base) (a1.dn X G (λ _ _ _ _ _ _=>zD λ _ _ _=>rfl));have C_worked:=wI (a2.dn X G (λ _ _ _ _ _ _=>zD λ _ _ _=>rfl)) C_wrapped C_unwrapped;have C_Walk___init__:=lS (P:=l.prog) (w:=w) (base:=base) (cl:=(bL c_Walk c_Frame c_Story c_Goer c_Nought c_Outside)) ⟨_,_,bi l3 c3 k3,M_Walk,b_Walk___init__⟩ m_Walk cl_Walk n_Walk_row n_Walk_at;have C_Walk_is_over:=mE (P:=l.prog) (w:=w) (base:=base) (cl:=(bL c_Walk c_Frame c_Story c_Goer c_Nought c_Outside)) ⟨_,_,bi l4 c4 k4,mt_Walk_is_over,b_Walk_is_over⟩ m_Walk cl_Walk n_Walk_row n_Walk_at z_len;have C_Walk_before:=nj (P:=l.prog) (w:=w) (base:=base) (cl:=(bL c_Walk c_Frame c_Story c_Goer c_Nought c_Outside)) ⟨_,_,bi l5 c5 k5,mt_Walk_before,b_Walk_before⟩ m_Walk cl_Walk n_Walk_row n_Walk_at;have C_Walk_taken:=oC (P:=l.prog) (w:=w) (base:=base) (cl:=(bL c_Walk c_Frame c_Story c_Goer c_Nought c_Outside)) ⟨_,_,bi l6 c6 k6,mt_Walk_taken,b_Walk_taken⟩ m_Walk cl_Walk n_Walk_row n_Walk_at;have C_Frame___init__:=lu (cl:=(bL c_Walk c_Frame c_Story c_Goer c_Nought c_Outside)) ⟨_,_,bi l7 c7 k7,M_Frame,b_Frame___init__⟩ C_Walk___init__ m_Frame cl_Frame n_Frame_names n_Frame_given n_Frame_walks n_Frame_loops m_Walk cl_Walk n_Walk_row n_Walk_at;have C_Frame_statement:=ki (cl:=(bL c_Walk c_Frame c_Story c_Goer c_Nought c_Outside)) ⟨_,_,bi l8 c8 k8,mt_Frame_statement,b_Frame_statement⟩ C_Walk_is_over C_Walk_before m_Frame cl_Frame n_Frame_names n_Frame_given n_Frame_walks n_Frame_loops m_Walk cl_Walk n_Walk_row n_Walk_at z_len;have C_Frame_pass_by:=lD (cl:=(bL c_Walk c_Frame c_Story c_Goer c_Nought c_Outside)) ⟨_,_,bi l9 c9 k9,mt_Frame_pass_by,b_Frame_pass_by⟩ C_Walk_taken m_Frame cl_Frame n_Frame_names n_Frame_given n_Frame_walks n_Frame_loops m_Walk cl_Walk n_Walk_row n_Walk_at;have C_Story___init__:=kD (P:=l.prog) (w:=w) (base:=base) (cl:=(bL c_Walk c_Frame c_Story c_Goer c_Nought c_Outside)) ⟨_,_,bi l10 c10 k10,M_Story,b_Story___init__⟩ m_Story cl_Story n_Story_told n_Story_steps n_Story_end n_Story_brought n_Story_touches n_Story_puts n_Story_lines;have C_Story_begin_phase:=jn (P:=l.prog) (w:=w) (base:=base) (cl:=(bL c_Walk c_Frame c_Story c_Goer c_Nought c_Outside)) ⟨_,_,bi l11 c11 k11,mt_Story_begin_phase,b_Story_begin_phase⟩ m_Story cl_Story n_Story_told n_Story_steps n_Story_end n_Story_brought n_Story_touches n_Story_puts n_Story_lines;have C_Story_add_step:=kO (P:=l.prog) (w:=w) (base:=base) (cl:=(bL c_Walk c_Frame c_Story c_Goer c_Nought c_Outside)) ⟨_,_,bi l12 c12 k12,mt_Story_add_step,b_Story_add_step⟩ m_Story cl_Story n_Story_told n_Story_steps n_Story_end n_Story_brought n_Story_touches n_Story_puts n_Story_lines;have C_Story_add_touch:=ko (P:=l.prog) (w:=w) (base:=base) (cl:=(bL c_Walk c_Frame c_Story c_Goer c_Nought c_Outside)) ⟨_,_,bi l13 c13 k13,mt_Story_add_touch,b_Story_add_touch⟩ m_Story cl_Story n_Story_told n_Story_steps n_Story_end n_Story_brought n_Story_touches n_Story_puts n_Story_lines;have N_Story_finish:=mO (P:=l.prog) (w:=w) (base:=base) (cl:=(bL c_Walk c_Frame c_Story c_Goer c_Nought c_Outside)) ⟨_,_,bi l14 c14 k14,mt_Story_finish,b_Story_finish⟩ m_Story cl_Story n_Story_told n_Story_steps n_Story_end n_Story_brought n_Story_touches n_Story_puts n_Story_lines;have C_Story_finish:=N_Story_finish.ce;have C_Goer___init__:=lM (cl:=(bL c_Walk c_Frame c_Story c_Goer c_Nought c_Outside)) ⟨_,_,bi l15 c15 k15,M_Goer,b_Goer___init__⟩ C_wrapped C_Frame___init__ C_Story___init__ C_Story_begin_phase m_Frame cl_Frame n_Frame_names n_Frame_given n_Frame_walks n_Frame_loops m_Goer cl_Goer n_Goer_defs n_Goer_lane n_Goer_signs n_Goer_boxes n_Goer_most n_Goer_frames n_Goer_line n_Goer_meeting n_Goer_story m_Story cl_Story n_Story_told n_Story_steps n_Story_end n_Story_brought n_Story_touches n_Story_puts n_Story_lines;have C_Goer_touch:=oQ (cl:=(bL c_Walk c_Frame c_Story c_Goer c_Nought c_Outside)) ⟨_,_,bi l16 c16 k16,mt_Goer_touch,b_Goer_touch⟩ C_Story_add_touch m_Goer cl_Goer n_Goer_defs n_Goer_lane n_Goer_signs n_Goer_boxes n_Goer_most n_Goer_frames n_Goer_line n_Goer_meeting n_Goer_story m_Story cl_Story n_Story_told n_Story_steps n_Story_end n_Story_brought n_Story_touches n_Story_puts n_Story_lines m_Outside x_Outside z_len;have C_Goer_got:=sO (cl:=(bL c_Walk c_Frame c_Story c_Goer c_Nought c_Outside)) ⟨_,_,bi l17 c17 k17,mt_Goer_got,b_Goer_got⟩ C_Goer_touch m_Goer cl_Goer n_Goer_defs n_Goer_lane n_Goer_signs n_Goer_boxes n_Goer_most n_Goer_frames n_Goer_line n_Goer_meeting n_Goer_story;have C_Goer_reckoned:=lC (cl:=(bL c_Walk c_Frame c_Story c_Goer c_Nought c_Outside)) ⟨_,_,bi l18 c18 k18,mt_Goer_reckoned,b_Goer_reckoned⟩ C_Goer_got C_worked m_Frame cl_Frame n_Frame_names n_Frame_given n_Frame_walks n_Frame_loops m_Goer cl_Goer n_Goer_defs n_Goer_lane n_Goer_signs n_Goer_boxes n_Goer_most n_Goer_frames n_Goer_line n_Goer_meeting n_Goer_story m_Nought x_Nought m_SIGNS g_SIGNS;have C_Goer_give:=qA (P:=l.prog) (w:=w) (base:=base) (cl:=(bL c_Walk c_Frame c_Story c_Goer c_Nought c_Outside)) ⟨_,_,bi l19 c19 k19,mt_Goer_give,b_Goer_give⟩ m_Frame cl_Frame n_Frame_names n_Frame_given n_Frame_walks n_Frame_loops m_Goer cl_Goer n_Goer_defs n_Goer_lane n_Goer_signs n_Goer_boxes n_Goer_most n_Goer_frames n_Goer_line n_Goer_meeting n_Goer_story;have C_Goer_go_back:=mK (cl:=(bL c_Walk c_Frame c_Story c_Goer c_Nought c_Outside)) ⟨_,_,bi l20 c20 k20,mt_Goer_go_back,b_Goer_go_back⟩ C_Goer_give m_Frame cl_Frame n_Frame_names n_Frame_given n_Frame_walks n_Frame_loops m_Goer cl_Goer n_Goer_defs n_Goer_lane n_Goer_signs n_Goer_boxes n_Goer_most n_Goer_frames n_Goer_line n_Goer_meeting n_Goer_story;have C_Goer_do_call:=mH (cl:=(bL c_Walk c_Frame c_Story c_Goer c_Nought c_Outside)) ⟨_,_,bi l21 c21 k21,mt_Goer_do_call,b_Goer_do_call⟩ C_Goer_reckoned C_Story_finish C_Frame___init__ m_Frame cl_Frame n_Frame_names n_Frame_given n_Frame_walks n_Frame_loops m_Goer cl_Goer n_Goer_defs n_Goer_lane n_Goer_signs n_Goer_boxes n_Goer_most n_Goer_frames n_Goer_line n_Goer_meeting n_Goer_story m_Story cl_Story n_Story_told n_Story_steps n_Story_end n_Story_brought n_Story_touches n_Story_puts n_Story_lines z_len z_dict z_zip m_DEEPEST g_DEEPEST;have C_Goer_leave:=oH (cl:=(bL c_Walk c_Frame c_Story c_Goer c_Nought c_Outside)) ⟨_,_,bi l22 c22 k22,mt_Goer_leave,b_Goer_leave⟩ C_Goer_go_back C_Goer_reckoned C_Story_finish m_Goer cl_Goer n_Goer_defs n_Goer_lane n_Goer_signs n_Goer_boxes n_Goer_most n_Goer_frames n_Goer_line n_Goer_meeting n_Goer_story m_Story cl_Story n_Story_told n_Story_steps n_Story_end n_Story_brought n_Story_touches n_Story_puts n_Story_lines;have C_Goer_do:=tH (cl:=(bL c_Walk c_Frame c_Story c_Goer c_Nought c_Outside)) ⟨_,_,bi l23 c23 k23,mt_Goer_do,b_Goer_do⟩ C_Frame_pass_by C_Goer_give C_Goer_reckoned C_Goer_do_call C_Goer_leave m_Frame cl_Frame n_Frame_names n_Frame_given n_Frame_walks n_Frame_loops m_Goer cl_Goer n_Goer_defs n_Goer_lane n_Goer_signs n_Goer_boxes n_Goer_most n_Goer_frames n_Goer_line n_Goer_meeting n_Goer_story m_Story cl_Story n_Story_told n_Story_steps n_Story_end n_Story_brought n_Story_touches n_Story_puts n_Story_lines;have C_Goer_step:=qO (cl:=(bL c_Walk c_Frame c_Story c_Goer c_Nought c_Outside)) ⟨_,_,bi l24 c24 k24,mt_Goer_step,b_Goer_step⟩ C_Story_add_step C_Goer_do m_Goer cl_Goer n_Goer_defs n_Goer_lane n_Goer_signs n_Goer_boxes n_Goer_most n_Goer_frames n_Goer_line n_Goer_meeting n_Goer_story m_Story cl_Story n_Story_told n_Story_steps n_Story_end n_Story_brought n_Story_touches n_Story_puts n_Story_lines m_Nought m_Outside xm N_Story_finish;have C_Goer_end_def:=mF (cl:=(bL c_Walk c_Frame c_Story c_Goer c_Nought c_Outside)) ⟨_,_,bi l25 c25 k25,mt_Goer_end_def,b_Goer_end_def⟩ C_Story_finish C_Goer_go_back m_Goer cl_Goer n_Goer_defs n_Goer_lane n_Goer_signs n_Goer_boxes n_Goer_most n_Goer_frames n_Goer_line n_Goer_meeting n_Goer_story m_Story cl_Story n_Story_told n_Story_steps n_Story_end n_Story_brought n_Story_touches n_Story_puts n_Story_lines z_len;have C_Goer_go:=uy (cl:=(bL c_Walk c_Frame c_Story c_Goer c_Nought c_Outside)) ⟨_,_,bi l26 c26 k26,mt_Goer_go,b_Goer_go⟩ C_Frame_statement C_Goer_end_def C_Goer_step m_Frame cl_Frame n_Frame_names n_Frame_given n_Frame_walks n_Frame_loops m_Goer cl_Goer n_Goer_defs n_Goer_lane n_Goer_signs n_Goer_boxes n_Goer_most n_Goer_frames n_Goer_line n_Goer_meeting n_Goer_story m_Story cl_Story n_Story_told n_Story_steps n_Story_end n_Story_brought n_Story_touches n_Story_puts n_Story_lines;have C_alone:=yl (cl:=(bL c_Walk c_Frame c_Story c_Goer c_Nought c_Outside)) (a27.dn X G (λ _ _ _ _ _ _=>Lv λ _ _ _ _ _ _ _=>rfl)) C_Goer___init__ C_Goer_go m_Goer cl_Goer n_Goer_defs n_Goer_lane n_Goer_signs n_Goer_boxes n_Goer_most n_Goer_frames n_Goer_line n_Goer_meeting n_Goer_story;have C__law_cell:=qI (P:=l.prog) (w:=w) (base:=base) (a28.dn X G (λ _ _ _ _ _ _=>vy λ _ _=>rfl)) z_len;have C__law_mixed:=oJ (P:=l.prog) (w:=w) (base:=base) (a29.dn X G (λ _ _ _ _ _ _=>vy λ _ _=>rfl));have C__law_all_whole:=lg (P:=l.prog) (w:=w) (base:=base) (cl:=(bL c_Walk c_Frame c_Story c_Goer c_Nought c_Outside)) (a30.dn X G (λ _ _ _ _ _ _=>vB λ _=>rfl)) z_len z_isinstance z_bool z_int;have C__law_into_range:=kh (P:=l.prog) (w:=w) (base:=base) (a31.dn X G (λ _ _ _ _ _ _=>vB λ _=>rfl));have C__law_names:=oS (P:=l.prog) (w:=w) (base:=base) (a32.dn X G (λ _ _ _ _ _ _=>vB λ _=>rfl)) z_range;have C__law_handed:=nQ (P:=l.prog) (w:=w) (base:=base) (a33.dn X G (λ _ _ _ _ _ _=>vy λ _ _=>rfl)) z_len;have C__law_plan:=qN (a34.dn X G (λ _ _ _ _ _ _=>zD λ _ _ _=>rfl)) C__law_cell C__law_mixed z_range z_int;have C__law_next:=qp (P:=l.prog) (w:=w) (base:=base) (a35.dn X G (λ _ _ _ _ _ _=>zD λ _ _ _=>rfl));have C__law_body:=qW (a36.dn X G (λ _ _ _ _ _ _=>Lq λ _ _ _ _ _=>rfl)) C__law_next C__law_cell C__law_handed C__law_mixed z_len z_range;have C__law_program:=mL (a37.dn X G (λ _ _ _ _ _ _=>IK λ _ _ _ _=>rfl)) C__law_body z_range z_len z_list;have C__law_worth:=oP (cl:=(bL c_Walk c_Frame c_Story c_Goer c_Nought c_Outside)) (a38.dn X G (λ _ _ _ _ _ _=>vy λ _ _=>rfl)) C__law_into_range;have C__law_way_in:=oo (cl:=(bL c_Walk c_Frame c_Story c_Goer c_Nought c_Outside)) (a39.dn X G (λ _ _ _ _ _ _=>zD λ _ _ _=>rfl)) C__law_worth z_len z_zip;have C__law_way_out:=mM (cl:=(bL c_Walk c_Frame c_Story c_Goer c_Nought c_Outside)) (a40.dn X G (λ _ _ _ _ _ _=>zD λ _ _ _=>rfl)) C__law_worth z_reversed;obtain ⟨_,_,⟨rfl,rfl⟩,F⟩:=CM (cl:=(bL c_Walk c_Frame c_Story c_Goer c_Nought c_Outside)) (R:=λ g gd=>g=fa/\gd=_) xa ⟨_,_,bi ll cL kL,rfl,rfl⟩ C__law_mixed C__law_cell C__law_names C__law_plan C__law_program C_alone C__law_way_in C__law_way_out C__law_all_whole m_Story cl_Story n_Story_told n_Story_steps n_Story_end n_Story_brought n_Story_touches n_Story_puts n_Story_lines z_repr z_len;exact F
theorem walk {l:PySem.W.OpenLaw} {q:Program} {loose:List Str} {XP:(Str->Option Value)->Heap->Prop} {YP:World->Heap->Prop} {d:DefRec} {K:Params->Frag} (hn:l.most=some 63) (hdf:d.params.defaults=[])
 (hY:∀ (w:World) (h:Heap),YP w h->(K w.params).In h)
 (F:∀ (w:World) (mg:Str->Option Value) (fa:Addr) (h:Heap),(K w.params).In h->h.Ns mainGlobals mg->mg d.name=some (.ref fa)->
  ∃ fd:FuncData,(∀ (s:Shared) (u:Value),BindsTo s fd ⟨[u],[]⟩ [("_law_script", u)])/\∀ base:Heap,(K w.params).In base->base.Ns mainGlobals mg->et l.prog w (K w.params) mg base uz 18 fa fd ["_law_script"] (qr (K w.params))):
 PySem.W.WalkO q loose XP YP l.row.toRowW d [] (λ f vs=>PySem.call f vs):=
 L2.walk_of (n:=63) (k:=18) (x := "_law_script") (CX:=λ _=>uz) (sp:=λ w=>(qr (K w.params))) hn (by decide) hdf ⟨rfl,by decide,by decide,rfl⟩ hY F (λ _ _ a ns hl _ hS=>⟨a,ns,rfl,hS,hl,λ _=>rfl⟩) λ _ _ _ _ _ z=>z
theorem toX {q:Program} {loose:List Str} {XP:(Str->Option Value)->Heap->Prop} {r:PySem.W.RowW} {d:DefRec} {kwd:List (Str×Expr)} {run:Value->List Value->Sem Value} {K:Params->Frag} {as:List Addr} {n t:Nat} (e:∀ P,as=(K P).map (·.1))
 (h:PySem.W.WalkO q loose XP (λ w h=>(K w.params).In h) r d kwd run):PySem.W.WalkX q loose XP (PySem.W.X.obsZ as) (PySem.W.X.valZ K n t) r d kwd run:=
 λ w s0 s1 mg mb G y a o pm cd doc dV kV h1 h2 h3 h4 h5 h6 args vals as' L hp hl hr hw ho=>h w s0 s1 mg mb G (PySem.W.InK.keeps w s0.heap s1.heap (PySem.W.X.z_facts e y).2.1 L.keeps) a o pm cd doc dV kV h1 h2 h3 h4 h5 h6 args vals as' hp hl hr hw ho
end My
open PySem PySem.W PyProof.Rows
def Sp.k {α : Type} (x : α) (t : True) : α := x
local macro_rules
 | `(command| universe $z) => do
  let F (s : String) (n : Lean.Name) := Lean.mkIdent (`PySem.W.Fast ++ .mkSimple s!"{s}{n.hash}")
  let mut a := #[]
  let mut b := #[]
  let p := Lean.mkIdent `PySem.Challenge.pw_widelanes_k44_alone_calls
  for k in [0:37] do
   let c := .mkStr2 "Sp" s!"c{k}"
   let C := Lean.mkIdent c
   let (T, e) <- if k < 36 then pure (<- `(Stmt), <- `(($p).main.body.getD $(Lean.quote k) (.Pass ⟨0, 0, 0, 0⟩))) else pure (<- `(Scope), <- `(($p).main.scope))
   a := ((a.push (<- `(command| def $C : $T := $e))).push (<- `(command| noncomputable def $(F "tw" c) : $T := by
    refine Sp.k ?x ?t
    case t =>
     have h : $C = ?x := by conv => lhs; whnf
     exact trivial))).push (<- `(command| theorem $(F "te" c) : $C = $(F "tw" c) := by kernel_rfl))
   b := b.push C
  for (i, j) in ([(891,1438)] : List (Nat × Nat)) do
   for k in [i:j] do
    a := a.push (<- `(command| def $(F "tw" (`PySem.Challenge.cw_widelanes_k44_alone_calls_holds ++ .mkSimple s!"o_{k}")) := ()))
  let q := b.pop
  let s := b.back!
  return Lean.mkNullNode (a.push (<- `(command| def $(Lean.mkIdent `Sp.p) : Program := { main := { body := [$q,*], scope := $s, futureAnnotations := false, file := "/claim/cut.py", more := [] }, modules := [], parses := [], absent := [], harvested := [], given := { argv := [], stdin := [], environ := (some [([76, 67, 95, 65, 76, 76], [67, 46, 85, 84, 70, 45, 56])]) } })))
universe u
set_option maxRecDepth 100000 in
set_option maxHeartbeats 0 in
theorem PySem.Challenge.cw_widelanes_k44_alone_calls_holds : PySem.Challenge.rw_widelanes_k44_alone_calls.Holds := by
 show OpenLaw.Holds { prog := Sp.p, name := "law", about := ["alone"], foot := 14, most := some 63, bound := none, writes := false }
 w_on; o_law;z_head;(case hw=>w_witness2)
 refine My.toX (λ _=>rfl) (My.walk (l:={ prog := Sp.p, name := "law", about := ["alone"], foot := 14, most := some 63, bound := none, writes := false }) rfl rfl (λ w h Y=>Y) ?F)
 case F=>
  intro w mg fa h KX G hmg;refine' My.all_mk KX G hmg ?mm_Walk ?mm_Frame ?mm_Story ?mm_Goer ?mm_Nought ?mm_Outside ?ex_Nought ?ex_Outside ?xm1 ?xm2 ?xm3 ?a0 ?a1 ?a2 ?a3 ?ifn3 ?l3 ?c3 ?k3 ?a4 ?ifn4 ?l4 ?c4 ?k4 ?a5 ?ifn5 ?l5 ?c5 ?k5 ?a6 ?ifn6 ?l6 ?c6 ?k6 ?a7 ?ifn7 ?l7 ?c7 ?k7 ?a8 ?ifn8 ?l8 ?c8 ?k8 ?a9 ?ifn9 ?l9 ?c9 ?k9 ?a10 ?ifn10 ?l10 ?c10 ?k10 ?a11 ?ifn11 ?l11 ?c11 ?k11 ?a12 ?ifn12 ?l12 ?c12 ?k12 ?a13 ?ifn13 ?l13 ?c13 ?k13 ?a14 ?ifn14 ?l14 ?c14 ?k14 ?a15 ?ifn15 ?l15 ?c15 ?k15 ?a16 ?ifn16 ?l16 ?c16 ?k16 ?a17 ?ifn17 ?l17 ?c17 ?k17 ?a18 ?ifn18 ?l18 ?c18 ?k18 ?a19 ?ifn19 ?l19 ?c19 ?k19 ?a20 ?ifn20 ?l20 ?c20 ?k20 ?a21 ?ifn21 ?l21 ?c21 ?k21 ?a22 ?ifn22 ?l22 ?c22 ?k22 ?a23 ?ifn23 ?l23 ?c23 ?k23 ?a24 ?ifn24 ?l24 ?c24 ?k24 ?a25 ?ifn25 ?l25 ?c25 ?k25 ?a26 ?ifn26 ?l26 ?c26 ?k26 ?a27 ?a28 ?a29 ?a30 ?a31 ?a32 ?a33 ?a34 ?a35 ?a36 ?a37 ?a38 ?a39 ?a40 ?a41 ?pg_Walk ?hd_Walk ?po_Walk ?sa_Walk ?mk_Walk ?kc_Walk ?nn_Walk_row ?nn_Walk_at ?pg_Frame ?hd_Frame ?po_Frame ?sa_Frame ?mk_Frame ?kc_Frame ?nn_Frame_names ?nn_Frame_given ?nn_Frame_walks ?nn_Frame_loops ?pg_Story ?hd_Story ?po_Story ?sa_Story ?mk_Story ?kc_Story ?nn_Story_told ?nn_Story_steps ?nn_Story_end ?nn_Story_brought ?nn_Story_touches ?nn_Story_puts ?nn_Story_lines ?pg_Goer ?hd_Goer ?po_Goer ?sa_Goer ?mk_Goer ?kc_Goer ?nn_Goer_defs ?nn_Goer_lane ?nn_Goer_signs ?nn_Goer_boxes ?nn_Goer_most ?nn_Goer_frames ?nn_Goer_line ?nn_Goer_meeting ?nn_Goer_story ?zz_bool ?zz_dict ?zz_int ?zz_isinstance ?zz_len ?zz_list ?zz_range ?zz_repr ?zz_reversed ?zz_zip ?mm_DEEPEST ?mm_LEAST ?mm_SIGNS ?lk_SIGNS ?lc_SIGNS ?lt_SIGNS ?mm_SPAN
  (case mm_Walk | mm_Frame | mm_Story | mm_Goer | mm_Nought | mm_Outside=>k_is)
  (case ex_Nought | ex_Outside=>(unfold L2.XClE L2.mroEx;k_exc))
  (case xm1 | xm2 | xm3=>kts_exm)
  (case a0 | a1 | a2=>exact ⟨_,_,_,_,_,_,_,_,_,_,by k_is,by k_is,by k_is,by k_is⟩)
  (case a3 | ifn3 | l3 | c3 | k3 | a4 | ifn4 | l4 | c4 | k4 | a5 | ifn5 | l5 | c5 | k5 | a6 | ifn6 | l6 | c6 | k6 | a7 | ifn7 | l7 | c7 | k7 | a8 | ifn8 | l8 | c8 | k8 | a9 | ifn9 | l9 | c9 | k9 | a10 | ifn10 | l10 | c10 | k10 | a11 | ifn11 | l11 | c11 | k11 | a12 | ifn12 | l12 | c12 | k12 | a13 | ifn13 | l13 | c13 | k13 | a14 | ifn14 | l14 | c14 | k14 | a15 | ifn15 | l15 | c15 | k15 | a16 | ifn16 | l16 | c16 | k16 | a17 | ifn17 | l17 | c17 | k17 | a18 | ifn18 | l18 | c18 | k18 | a19 | ifn19 | l19 | c19 | k19 | a20 | ifn20 | l20 | c20 | k20 | a21 | ifn21 | l21 | c21 | k21 | a22 | ifn22 | l22 | c22 | k22 | a23 | ifn23 | l23 | c23 | k23 | a24 | ifn24 | l24 | c24 | k24 | a25 | ifn25 | l25 | c25 | k25 | a26 | ifn26 | l26 | c26 | k26=>k_is)
  (case a27 | a28 | a29 | a30 | a31 | a32 | a33 | a34 | a35 | a36 | a37 | a38 | a39 | a40 | a41=>exact ⟨_,_,_,_,_,_,_,_,_,_,by k_is,by k_is,by k_is,by k_is⟩)
  (case pg_Walk | hd_Walk | po_Walk | sa_Walk | mk_Walk | kc_Walk | nn_Walk_row | nn_Walk_at | pg_Frame | hd_Frame | po_Frame | sa_Frame | mk_Frame | kc_Frame | nn_Frame_names | nn_Frame_given | nn_Frame_walks | nn_Frame_loops | pg_Story | hd_Story | po_Story | sa_Story | mk_Story | kc_Story | nn_Story_told | nn_Story_steps | nn_Story_end | nn_Story_brought | nn_Story_touches | nn_Story_puts | nn_Story_lines | pg_Goer | hd_Goer | po_Goer | sa_Goer | mk_Goer | kc_Goer | nn_Goer_defs | nn_Goer_lane | nn_Goer_signs | nn_Goer_boxes | nn_Goer_most | nn_Goer_frames | nn_Goer_line | nn_Goer_meeting | nn_Goer_story | zz_bool | zz_dict | zz_int | zz_isinstance | zz_len | zz_list | zz_range | zz_repr | zz_reversed | zz_zip | mm_DEEPEST | mm_LEAST | mm_SIGNS | lk_SIGNS=>k_is)
  (case lc_SIGNS=>rfl)
  (case lt_SIGNS=>kernel_rfl)
  (case mm_SPAN=>k_is)
