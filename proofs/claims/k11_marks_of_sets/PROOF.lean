import PyProof.Rows.All
import Wide.All
import OpenK.AllK
import Wide.FinOn
import Lean
import PyProof.EqAt
import PyProof.EqKinds
import PyProof.TupleCall
import PySem.Challenge.RW_widelanes_k11_marks_of_sets
set_option Elab.async false
set_option linter.all false
set_option maxRecDepth 100000
namespace L2
open PySem PySem.Spec PyProof.Rows
abbrev Key := Sum Int Str
def keyIs : Key → Value → Bool
 | .inl k, v => Value.isInt k v
 | .inr x, v => Value.isStrOf x v
def keyH (w : World) : Key → Int
 | .inl k => hashInt k
 | .inr x => hashStr w x
theorem zi5 : ∀ {k : Key} {v : Value}, keyIs k v = true → (∃ i t, k = Sum.inl i ∧ v = Value.int i t) ∨ (∃ x t, k = Sum.inr x ∧ v = Value.str x t)
 | .inl i, v, h => by
  obtain ⟨t, e⟩ := Value.isInt_shape (k := i) (v := v) h
  exact .inl ⟨i, t, rfl, e⟩
 | .inr x, v, h => by
  obtain ⟨t, e⟩ := Value.isStrOf_shape (x := x) (v := v) h
  exact .inr ⟨x, t, rfl, e⟩
theorem keyIs_int (i : Int) (t : Tok) : keyIs (.inl i) (.int i t) = true := by simp [keyIs, Value.isInt]
theorem keyIs_str (x : Str) (t : Tok) : keyIs (.inr x) (.str x t) = true := by simp [keyIs, Value.isStrOf]
theorem key_ll (a b : Int) : decide ((Sum.inl a : Key) = Sum.inl b) = (a == b) := by
 by_cases e : a = b
 · subst e; simp
 · have h : ¬ (Sum.inl a : Key) = Sum.inl b := fun q => e (Sum.inl.inj q)
   rw [decide_eq_false h]
   exact (beq_eq_false_iff_ne.mpr e).symm
theorem key_rr (a b : Str) : decide ((Sum.inr a : Key) = Sum.inr b) = decide (a = b) := by
 by_cases e : a = b
 · subst e; simp
 · have h : ¬ (Sum.inr a : Key) = Sum.inr b := fun q => e (Sum.inr.inj q)
   rw [decide_eq_false h, decide_eq_false e]
theorem key_lr (a : Int) (b : Str) : decide ((Sum.inl a : Key) = Sum.inr b) = false := decide_eq_false (fun q => nomatch q)
theorem key_rl (a : Str) (b : Int) : decide ((Sum.inr a : Key) = Sum.inl b) = false := decide_eq_false (fun q => nomatch q)
def zg5 (prog : Program) (w : World) : PySem.KeyKind prog w Key where
 is := keyIs
 hash := keyH w
 inj := fun v a b ha hb => by
  rcases zi5 ha with ⟨i, t, rfl, rfl⟩ | ⟨x, t, rfl, rfl⟩
  · rcases zi5 hb with ⟨j, u, rfl, e⟩ | ⟨y, u, rfl, e⟩
    · injection e with e1 _; rw [e1]
    · exact nomatch e
  · rcases zi5 hb with ⟨j, u, rfl, e⟩ | ⟨y, u, rfl, e⟩
    · exact nomatch e
    · injection e with e1 _; rw [e1]
 byValue := fun k v h => by
  rcases zi5 h with ⟨i, t, rfl, rfl⟩ | ⟨x, t, rfl, rfl⟩ <;> rfl
 pyHash := fun hv h => by
  rcases zi5 hv with ⟨i, t, rfl, rfl⟩ | ⟨x, t, rfl, rfl⟩
  · exact wpAny_pyHash_int h
  · exact wpAny_pyHash_str h
 eqBool := fun hu hv h => by
  rcases zi5 hu with ⟨i, t, rfl, rfl⟩ | ⟨x, t, rfl, rfl⟩
  · rcases zi5 hv with ⟨j, u, rfl, rfl⟩ | ⟨y, u, rfl, rfl⟩
    · rw [key_ll] at h; exact wpAny_eqBool_int h
    · rw [key_lr] at h; exact SeqAt.EqAt.int_str i t y u _ _ _ _ h
  · rcases zi5 hv with ⟨j, u, rfl, rfl⟩ | ⟨y, u, rfl, rfl⟩
    · rw [key_rl] at h; exact SeqAt.EqAt.str_int x t j u _ _ _ _ h
    · rw [key_rr] at h; exact wpAny_eqBool_str h
 «strs» := fun k x t v h => by
  rcases zi5 h with ⟨i, u, rfl, e⟩ | ⟨y, u, rfl, e⟩
  · exact nomatch e
  · injection e with e1 _
    subst e1
    cases v <;> rfl
theorem mixKind_int (prog : Program) (w : World) (i : Int) (t : Tok) : (zg5 prog w).is (.inl i) (.int i t) = true := keyIs_int i t
theorem mixKind_str (prog : Program) (w : World) (x : Str) (t : Tok) : (zg5 prog w).is (.inr x) (.str x t) = true := keyIs_str x t
def nH (P : Program) (w : World) (ks : List Key) : Int := if ks = [] then 4238894112 else (tupleKind (zg5 P w)).hash ks
def nE (P : Program) (w : World) (x : List Key × Value × Value) : DictEntry := ⟨nH P w x.1, x.2.1, x.2.2⟩
end L2
namespace L2
open PySem PySem.Spec PyProof.Rows
inductive V where
 | non | bl (b : Bool) | int (i : Int) | str (x : Str) | byt (b : Array UInt8) | flt (b : UInt64) | ref (a : Addr) | ty (n : String)
 deriving DecidableEq
def RelV : V → Value → Prop
 | .non, u => u = Value.none
 | .bl b, u => u = Value.bool b
 | .int i, u => ∃ t, u = Value.int i t
 | .str x, u => ∃ t, u = Value.str x t
 | .byt b, u => ∃ t, u = Value.bytes b t
 | .flt b, u => ∃ t, u = Value.float b t
 | .ref a, u => u = Value.ref a
 | .ty n, u => u = Value.type n
abbrev Vals : List V → List Value → Prop := Paired RelV
theorem Vals.length {xs : List V} {us : List Value} (r : Vals xs us) : xs.length = us.length := Paired.length r
theorem Vals.get : ∀ {xs : List V} {us : List Value} {i : Nat} {x : V}, Vals xs us → xs[i]? = some x → ∃ u, us[i]? = some u ∧ RelV x u
 | _, _, _, _, .nil, e => by simp at e
 | _, _, 0, _, .cons r _, e => by simp at e; subst e; exact ⟨_, rfl, r⟩
 | _, _, i + 1, x, .cons _ t, e => by
  obtain ⟨u, h1, h2⟩ := Vals.get (i := i) (x := x) t (by simpa using e)
  exact ⟨u, by simpa using h1, h2⟩
theorem Vals.append : ∀ {xs ys : List V} {us ws : List Value}, Vals xs us → Vals ys ws → Vals (xs ++ ys) (us ++ ws)
 | _, _, _, _, .nil, s => s
 | _, _, _, _, .cons r t, s => .cons r (Vals.append t s)
theorem Vals.take : ∀ {xs : List V} {us : List Value} (n : Nat), Vals xs us → Vals (xs.take n) (us.take n)
 | _, _, 0, _ => .nil
 | _, _, _ + 1, .nil => .nil
 | _, _, n + 1, .cons r t => .cons r (Vals.take n t)
theorem Vals.drop : ∀ {xs : List V} {us : List Value} (n : Nat), Vals xs us → Vals (xs.drop n) (us.drop n)
 | _, _, 0, r => r
 | _, _, _ + 1, .nil => .nil
 | _, _, n + 1, .cons _ t => Vals.drop n t
def RelO : Option V → Option Value → Prop
 | some v, some u => RelV v u
 | none, none => True
 | _, _ => False
def KV {κ : Type} : List (κ × V) → List (κ × Value) → Prop := Paired fun (p : κ × V) (q : κ × Value) => p.1 = q.1 ∧ RelV p.2 q.2
def kV : Key → V
 | .inl i => .int i
 | .inr x => .str x
inductive HO where
 | lst (xs : List V)
 | tup (xs : List V)
 | dK (kvs : List (Key × V)) | dT (kvs : List (List Key × V)) | dN (kvs : List (List Key × V))
 | set (S : Int → Bool) (n : Nat)
 | ins (C dx : Addr) (fs : List (Str × V))
 | own (x : Addr)
 | xd (fs : List (Str × V))
 | met (f x : Addr)
 | rng (lo hi : Int)
 | frz (o : Obj) (u : HO)
 | tbl (ps : Array Value)
 | ext (φ : Heap → Prop)
abbrev Hp := Addr → Option HO
def nV (H : Hp) (ks : List Key) (v : Value) : Prop := (ks = [] ∧ v = .none) ∨ (ks ≠ [] ∧ ∃ b, v = .ref b ∧ H b = some (.tup (ks.map kV)))
def upd (H : Hp) (a : Addr) (o : HO) : Hp := fun b => if b = a then some o else H b
theorem zc5 {H : Hp} {a : Addr} {o : HO} : upd H a o a = some o := by unfold upd; rw [if_pos rfl]
theorem zc4 {H : Hp} {a b : Addr} {o : HO} (h : b ≠ a) : upd H a o b = H b := by unfold upd; rw [if_neg h]
theorem ne_of {H : Hp} {a b : Addr} {o u : HO} (h : H a = some o) (h' : H b = some u) (d : o ≠ u) : a ≠ b := by
 intro e; subst e; rw [h] at h'; exact d (Option.some.inj h')
theorem zg3 {H : Hp} {a b : Addr} {o : HO} (h : H a = some o) (h' : H b = none) : a ≠ b := by
 intro e; subst e; rw [h] at h'; cases h'
section
variable (P : Program) (w : World)
def ObjOk (H : Hp) (h : Heap) (a : Addr) : HO → Prop
 | .lst xs => xs.length ≤ sizeLine ∧ ∃ (its : List Value) (n : Nat), Vals xs its ∧ h.get? a = some { cls := .type "list", data := .seq its.toArray n }
 | .tup xs => xs.length ≤ sizeLine ∧ ∃ its : List Value, Vals xs its ∧ IsTup h a its.toArray
 | .dK kvs => kvs.length ≤ sizeLine ∧ (a == sysModules) = false ∧ ∃ vs, KV kvs vs ∧ h.DictOf (zg5 P w) a vs
 | .dT kvs => kvs.length ≤ sizeLine ∧ (a == sysModules) = false ∧ ∃ xs : List (List Key × Addr × Value),
  Paired (fun (p : List Key × V) (q : List Key × Addr × Value) => p.1 = q.1 ∧ H q.2.1 = some (.tup (p.1.map kV)) ∧ RelV p.2 q.2.2) kvs xs ∧
  ∃ o es ep, h.get? a = some o ∧ o.ExactDict ∧ o.data = .dict es ep ∧ es.toList = xs.map (entryOfKey (tupleKind (zg5 P w))) ∧ (xs.map (·.1)).Nodup
 | .dN kvs => kvs.length ≤ sizeLine ∧ (a == sysModules) = false ∧ ∃ xs : List (List Key × Value × Value),
  Paired (fun (p : List Key × V) (q : List Key × Value × Value) => p.1 = q.1 ∧ nV H p.1 q.2.1 ∧ RelV p.2 q.2.2) kvs xs ∧
  ∃ o es ep, h.get? a = some o ∧ o.ExactDict ∧ o.data = .dict es ep ∧ es.toList = xs.map (nE P w) ∧ (xs.map (·.1)).Nodup
 | .set S n => h.SetOf (intKind P w) a S n
 | .ins C dx fs => H dx = some (.own a) ∧ fs.length ≤ 1000 ∧ dx ≠ a ∧ h.get? a = some (PySem.W.instObj C dx) ∧
  ∃ mA, h.Ns1 dx mA ∧ (∀ f, RelO (fs.lookup f) (mA f)) ∧ PySem.Within mA (fs.map (·.1))
 | .own _ => ∃ o, h.get? a = some o
 | .xd fs => ∃ mA, h.Ns1 a mA ∧ ∀ f, RelO (fs.lookup f) (mA f)
 | .rng lo hi => ∃ t u v, h.get? a = some { cls := .type "range", data := .fields #[.int lo t, .int hi u, .int 1 v] }
 | .frz o u => h.get? a = some o ∧ ObjOk H h a u
 | .tbl ps => h.get? a = some { cls := .none, data := .fields ps }
 | .met f x => h.get? a = some (PySem.W.methodObj (.ref f) (.ref x))
 | .ext φ => φ h ∧ (∃ o, h.get? a = some o) ∧ ∀ h1 h2 : Heap, φ h1 → (∀ o, h1.get? a = some o → h2.get? a = some o) → φ h2
def HOk (H : Hp) (h : Heap) : Prop := ∀ a o, H a = some o → ObjOk P w H h a o
end
section
variable {P : Program} {w : World} {H H' : Hp} {h h' : Heap} {a : Addr} {o : HO}
theorem ObjOk.lt (x : ObjOk P w H h a o) : a < h.objs.size := by
 cases o with
 | lst xs => obtain ⟨_, _, _, _, e⟩ := x; exact Heap.lt_size e
 | tup xs => obtain ⟨_, _, _, p⟩ := x; exact p.lt
 | dK kvs => obtain ⟨_, _, _, _, o, _, _, e, _⟩ := x; exact Heap.lt_size e
 | dT kvs => obtain ⟨_, _, _, _, o, _, _, e, _⟩ := x; exact Heap.lt_size e
 | dN kvs => obtain ⟨_, _, _, _, o, _, _, e, _⟩ := x; exact Heap.lt_size e
 | set S n => obtain ⟨o, _, _, _, e, _⟩ := x; exact Heap.lt_size e
 | ins C dx fs => obtain ⟨_, _, _, e, _⟩ := x; exact Heap.lt_size e
 | own y => obtain ⟨_, e⟩ := x; exact Heap.lt_size e
 | xd fs => obtain ⟨_, ⟨_, _, _, e, _⟩, _⟩ := x; exact Heap.lt_size e
 | rng lo hi => obtain ⟨_, _, _, e⟩ := x; exact Heap.lt_size e
 | frz ob u => obtain ⟨e, _⟩ := x; exact Heap.lt_size e
 | tbl ps => exact Heap.lt_size (show h.get? a = some _ from x)
 | met f y => exact Heap.lt_size (show h.get? a = some _ from x)
 | ext φ => obtain ⟨_, ⟨_, e⟩, _⟩ := x; exact Heap.lt_size e
theorem Paired.mapP {α β : Type} {F G : α → β → Prop} : ∀ {l₁ : List α} {l₂ : List β}, Paired F l₁ l₂ → (∀ a b, F a b → G a b) → Paired G l₁ l₂
 | _, _, .nil, _ => .nil
 | _, _, .cons r t, f => .cons (f _ _ r) (Paired.mapP t f)
theorem ObjOk.stay (x : ObjOk P w H h a o) (k : ∀ b u, (b = a ∨ H b = some (.own a)) → h.get? b = some u → h'.get? b = some u)
 (ho : ∀ b, H b = some (.own a) → H' b = some (.own a)) (ht : ∀ b xs, H b = some (.tup xs) → H' b = some (.tup xs)) : ObjOk P w H' h' a o := by
 induction o with
 | lst xs => obtain ⟨z, its, n, r, e⟩ := x; exact ⟨z, its, n, r, k _ _ (.inl rfl) e⟩
 | tup xs => obtain ⟨z, its, r, ob, e, c⟩ := x; exact ⟨z, its, r, ob, k _ _ (.inl rfl) e, c⟩
 | dK kvs => obtain ⟨z, y, vs, r, ob, es, ep, e, c⟩ := x; exact ⟨z, y, vs, r, ob, es, ep, k _ _ (.inl rfl) e, c⟩
 | dT kvs =>
  obtain ⟨z, y, xs, r, ob, es, ep, e, c⟩ := x
  exact ⟨z, y, xs, Paired.mapP r fun p q z => ⟨z.1, ht _ _ z.2.1, z.2.2⟩, ob, es, ep, k _ _ (.inl rfl) e, c⟩
 | dN kvs =>
  obtain ⟨z, y, xs, r, ob, es, ep, e, c⟩ := x
  exact ⟨z, y, xs, Paired.mapP r fun p q z => ⟨z.1, z.2.1.imp id fun ⟨n, b, e1, e2⟩ => ⟨n, b, e1, ht _ _ e2⟩, z.2.2⟩, ob, es, ep, k _ _ (.inl rfl) e, c⟩
 | set S n => obtain ⟨ob, es, ep, t, e, c⟩ := x; exact ⟨ob, es, ep, t, k _ _ (.inl rfl) e, c⟩
 | ins C dx fs =>
  obtain ⟨d, z, ne, e, mA, ⟨od, es, ep, e2, c⟩, r⟩ := x
  exact ⟨ho _ d, z, ne, k _ _ (.inl rfl) e, mA, ⟨od, es, ep, k _ _ (.inr d) e2, c⟩, r⟩
 | own y => obtain ⟨ob, e⟩ := x; exact ⟨ob, k _ _ (.inl rfl) e⟩
 | xd fs => obtain ⟨mA, ⟨od, es, ep, e, c⟩, r⟩ := x; exact ⟨mA, ⟨od, es, ep, k _ _ (.inl rfl) e, c⟩, r⟩
 | rng lo hi => obtain ⟨t, u, v, e⟩ := x; exact ⟨t, u, v, k _ _ (.inl rfl) e⟩
 | frz ob u ih => obtain ⟨e, q⟩ := x; exact ⟨k _ _ (.inl rfl) e, ih q⟩
 | tbl ps =>
  have e : h.get? a = some { cls := .none, data := .fields ps } := x
  show h'.get? a = some { cls := .none, data := .fields ps }
  exact k a _ (.inl rfl) e
 | met f y =>
  have e : h.get? a = some (PySem.W.methodObj (.ref f) (.ref y)) := x
  show h'.get? a = some (PySem.W.methodObj (.ref f) (.ref y))
  exact k a _ (.inl rfl) e
 | ext φ => obtain ⟨p, ⟨o, e⟩, st⟩ := x; exact ⟨st _ _ p fun o q => k _ _ (.inl rfl) q, ⟨o, k _ _ (.inl rfl) e⟩, st⟩
theorem HOk.lt (x : HOk P w H h) (e : H a = some o) : a < h.objs.size := (x a o e).lt
theorem HOk.fresh (x : HOk P w H h) (e : h.objs.size ≤ a) : H a = none := by
 cases q : H a with
 | none => rfl
 | some u => exact absurd (Nat.lt_of_lt_of_le (x.lt q) e) (Nat.lt_irrefl _)
theorem HOk.kept (x : HOk P w H h) (k : ∀ b u, h.get? b = some u → h'.get? b = some u) : HOk P w H h' := fun a o e =>
 (x a o e).stay (fun b u _ q => k b u q) (fun _ q => q) fun _ _ q => q
theorem HOk.laid (x : HOk P w H h) (k : ∀ b u, h.get? b = some u → h'.get? b = some u) (hp : h.objs.size ≤ a) (new : ObjOk P w (upd H a o) h' a o) : HOk P w (upd H a o) h' := fun b u e => by
 have hn := x.fresh hp
 by_cases hb : b = a
 · subst hb; rw [zc5] at e; cases e; exact new
 · rw [zc4 hb] at e
   exact (x b u e).stay (fun c v _ q => k c v q) (fun c q => by rw [zc4 (zg3 q hn)]; exact q) fun c xs q => by rw [zc4 (zg3 q hn)]; exact q
end
def Rd (H : Hp) (a : Addr) (u : HO) : Prop := H a = some u ∨ ∃ o, H a = some (.frz o u)
theorem Rd.ok {P : Program} {w : World} {H : Hp} {h : Heap} {a : Addr} {u : HO} (r : Rd H a u) (x : HOk P w H h) : ObjOk P w H h a u := by
 rcases r with r | ⟨o, r⟩
 · exact x a u r
 · obtain ⟨_, q⟩ := x a _ r
   exact q
def Mut : Option HO → Prop
 | some (.lst _) => True
 | some (.dK _) => True
 | some (.dT _) => True
 | some (.dN _) => True
 | some (.set _ _) => True
 | some (.ins _ _ _) => True
 | some (.ext _) => True
 | _ => False
section
variable {P : Program} {w : World} {H : Hp} {h h' : Heap} {x e : Addr} {o' : HO}
theorem HOk.write (ok : HOk P w H h) (mu : Mut (H x)) (he : e = x ∨ H e = some (.own x)) (k : ∀ b u, b ≠ e → h.get? b = some u → h'.get? b = some u) (heo : ∃ u, h'.get? e = some u)
 (new : ObjOk P w (upd H x o') h' x o') : HOk P w (upd H x o') h' := fun b u q => by
 have nown : ∀ c y, H c = some (.own y) → c ≠ x := fun c y r z => by subst z; rw [r] at mu; exact mu
 have ntup : ∀ c xs, H c = some (.tup xs) → c ≠ x := fun c xs r z => by subst z; rw [r] at mu; exact mu
 by_cases hb : b = x
 · subst hb; rw [zc5] at q; cases q; exact new
 · rw [zc4 hb] at q
   by_cases hbe : b = e
   · have q' : H b = some (.own x) := by
      rcases he with z | z
      · exact absurd (hbe.trans z) hb
      · rw [hbe]; exact z
     rw [q] at q'; cases q'
     obtain ⟨v, hv⟩ := heo
     exact ⟨v, by rw [hbe]; exact hv⟩
   · refine (ok b u q).stay (fun c v hc r => k c v ?_ r) (fun c r => by rw [zc4 (nown c b r)]; exact r) fun c xs r => by rw [zc4 (ntup c xs r)]; exact r
     rcases hc with rfl | hc
     · exact hbe
     · rintro rfl
       rcases he with z | z
       · exact nown c b hc z
       · rw [hc] at z; cases z; exact hb rfl
end
structure Un (fs ex : List Addr) (H H' : Hp) (h h' : Heap) : Prop where
 keep : ∀ b o, h.get? b = some o → H b = none → b ∉ fs → b ∉ ex → h'.get? b = some o
 slot : ∀ b o, h.get? b = some o → H b = none → b ∈ fs → b ∉ ex → ∃ sl, h'.get? b = some { o with slots := sl }
 free : ∀ b o, h.get? b = some o → H b = none → b ∉ ex → H' b = none
 there : ∀ b o, h.get? b = some o → b ∉ ex → ∃ o', h'.get? b = some o'
 tups : ∀ b xs, H b = some (.tup xs) → H' b = some (.tup xs)
 frzs : ∀ b o u, H b = some (.frz o u) → H' b = some (.frz o u)
 tbls : ∀ b ps, H b = some (.tbl ps) → ∃ more, H' b = some (.tbl (ps ++ more))
section
variable {fs fs' ex ex' : List Addr} {H H1 H2 : Hp} {h h1 h2 h' : Heap} {a x e : Addr} {o : HO}
theorem Un.any (u : Un fs ex H H1 h h1) {b : Addr} {ob : Obj} (q : h.get? b = some ob) (n : H b = none) (hx : b ∉ ex) : ∃ sl, h1.get? b = some { ob with slots := sl } := by
 by_cases hb : b ∈ fs
 · exact u.slot b ob q n hb hx
 · exact ⟨ob.slots, u.keep b ob q n hb hx⟩
theorem Un.kept (k : ∀ b u, h.get? b = some u → h'.get? b = some u) : Un fs ex H H h h' :=
 ⟨fun b ob q _ _ _ => k b ob q, fun b ob q _ _ _ => ⟨ob.slots, k b ob q⟩, fun _ _ _ n _ => n, fun b ob q _ => ⟨ob, k b ob q⟩, fun _ _ q => q, fun _ _ _ q => q, fun _ ps q => ⟨#[], by rw [q]; simp⟩⟩
theorem Un.refl : Un fs ex H H h h := Un.kept fun _ _ q => q
theorem Un.laid (k : ∀ b u, h.get? b = some u → h'.get? b = some u) (hp : h.objs.size ≤ a) (hn : H a = none) : Un fs ex H (upd H a o) h h' where
 keep := fun b u q _ _ _ => k b u q
 slot := fun b u q _ _ _ => ⟨u.slots, k b u q⟩
 free := fun b u q n _ => by rw [zc4 (Nat.ne_of_lt (Nat.lt_of_lt_of_le (Heap.lt_size q) hp))]; exact n
 there := fun b u q _ => ⟨u, k b u q⟩
 tups := fun b xs q => by rw [zc4 (zg3 q hn)]; exact q
 frzs := fun b u xs q => by rw [zc4 (zg3 q hn)]; exact q
 tbls := fun b ps q => ⟨#[], by rw [zc4 (zg3 q hn), q]; simp⟩
theorem Un.write (mu : Mut (H x)) (he : e = x ∨ H e = some (.own x)) (k : ∀ b u, b ≠ e → h.get? b = some u → h'.get? b = some u) (heo : ∃ u, h'.get? e = some u) : Un fs ex H (upd H x o) h h' := by
 have hx : ∀ b, H b = none → b ≠ x := fun b n z => by subst z; rw [n] at mu; exact mu
 have hb : ∀ b, H b = none → b ≠ e := fun b n z => by
  subst z
  rcases he with r | r
  · exact hx b n r
  · rw [n] at r; cases r
 have hm : ∀ b u, H b = some u → ¬ Mut (some u) → b ≠ x := fun b u q nm z => by subst z; rw [q] at mu; exact nm mu
 refine ⟨fun b u q n _ _ => k b u (hb b n) q, fun b u q n _ _ => ⟨u.slots, k b u (hb b n) q⟩, fun b u q n _ => by rw [zc4 (hx b n)]; exact n, fun b u q _ => ?_,
  fun b xs q => by rw [zc4 (hm b _ q fun z => z)]; exact q, fun b u xs q => by rw [zc4 (hm b _ q fun z => z)]; exact q, fun b ps q => ⟨#[], by rw [zc4 (hm b _ q fun z => z), q]; simp⟩⟩
 by_cases hbe : b = e
 · subst hbe; exact heo
 · exact ⟨u, k b u hbe q⟩
end
def trk (h : Heap) (H : Hp) : List Addr := (List.range h.objs.size).filter fun a => (H a).isSome
def hidT (h : Heap) (H : Hp) : Heap := PySem.W.hideAll h (trk h H)
theorem hidT_size (h : Heap) (H : Hp) : (hidT h H).objs.size = h.objs.size := PySem.W.hideAll_size _ _
theorem hidT_get {h : Heap} {H : Hp} {b : Addr} {o : Obj} (e : h.get? b = some o) (n : H b = none) : (hidT h H).get? b = some o :=
 PySem.W.hideAll_get _ e fun hm => by
  have q : (H b).isSome = true := (List.mem_filter.mp hm).2
  rw [n] at q; simp at q
theorem of_hidT {h : Heap} {H : Hp} {b : Addr} {o : Obj} (e : (hidT h H).get? b = some o) : h.get? b = some o ∧ H b = none := by
 have e' : h.get? b = some o := PySem.W.of_hideAll (trk h H) e
 refine ⟨e', ?_⟩
 cases q : H b with
 | none => rfl
 | some x =>
  have hm : b ∈ trk h H := List.mem_filter.mpr ⟨List.mem_range.mpr (Heap.lt_size e'), by simp [q]⟩
  have z : (hidT h H).get? b = none := PySem.W.hideAll_none (trk h H) hm
  rw [z] at e; cases e
def allNews (g h : Heap) (L : Addr) : List (Addr × Obj) := (List.range h.objs.size).filterMap fun a => if a = L ∨ (g.get? a).isSome = true then none else (h.get? a).map fun o => (a, o)
def rest (g h : Heap) (L d : Addr) : List (Addr × Obj) := (allNews g h L).filter fun p => decide (p.1 ≠ d)
end L2
namespace L2
open PySem PySem.Spec PyProof.Rows
structure Mod (K : PySem.W.Frag) (mg : Str → Option Value) (base : Heap) : Prop where
 kin : K.In base
 glob : base.Ns mainGlobals mg
 blt : ∃ mb, base.Ns builtinsNs mb ∧ ∀ x : Str, x ≠ "__name__" → mb x = bootBuiltins x
 nolimit : base.NoLimit
structure Cx where
 prog : Program
 w : World
 K : PySem.W.Frag
 mg : Str → Option Value
 base : Heap
 A : Around
 N : List Str
 s₀ : Shared
 H₀ : Hp
 env : Env
 outer : List Env
 stack : List Env
 ex : List Addr
 fn : Str → Bool
 calm : Bool
 pn : List (Addr × Obj)
 xe : Value → Shared → Prop
def frs (l : List Env) : List Addr := l.filterMap (·.frame)
abbrev Cx.fs (X : Cx) : List Addr := frs X.outer
def Vis (sc : Scope) (x : Str) : Prop := sc.names.lookup x = some .local ∨ sc.names.lookup x = some .cell ∨ sc.names.lookup x = some .free
def Loc (sc : Scope) (x : Str) : Prop := sc.names.lookup x = some .local ∨ sc.names.lookup x = some .cell
def Look (env : Env) (h : Heap) (m : Str → Option Value) (x : Str) (u : Value) : Prop :=
 (env.kindOf x = some .local ∧ m x = some u) ∨ ((env.kindOf x = some .cell ∨ env.kindOf x = some .free) ∧ ∃ c, env.cells.lookup x = some c ∧ h.IsCell c (some u))
structure Cx.Ok (X : Cx) : Prop where
 mod : Mod X.K X.mg X.base
 kind : X.env.scope.kind = .function
 glob : X.env.globals = mainGlobals
 blt : X.env.builtins = builtinsNs
 above : X.s₀.heap.objs.size ≤ X.env.locals
 inj : ∀ x y c, X.env.cells.lookup x = some c → X.env.cells.lookup y = some c → x = y
 has : ∀ x, (X.env.kindOf x = some .cell ∨ X.env.kindOf x = some .free) → ∃ c, X.env.cells.lookup x = some c
 cab : ∀ x c, X.fn x = true → X.env.cells.lookup x = some c → X.s₀.heap.objs.size ≤ c
 hd : X.calm = true → X.A.handled = none
 frames : X.A.frames = some X.stack
 stk : X.stack = X.outer ∨ (X.stack = X.env :: X.outer ∧ X.env.frame = some X.env.locals)
 exf : ∀ b ∈ X.ex, b ≠ X.env.locals ∧ ∀ x c, X.env.cells.lookup x = some c → c ≠ b
 bs : ∀ b o, X.base.get? b = some o → X.s₀.heap.get? b = some o ∧ X.H₀ b = none
 bsz : X.base.objs.size ≤ X.s₀.heap.objs.size
 noex : ∀ b o, X.base.get? b = some o → b ∉ X.ex
 exfs : ∀ b ∈ X.ex, b ∉ X.fs
 funs : X.s₀.heap.FunFrames X.base X.outer
 frf : ∀ b ∈ X.fs, X.H₀ b = none
structure Inv (X : Cx) (pins : List (Addr × Obj)) (σ : List (Option V)) (H : Hp) (s : Shared) : Prop where
 ok : X.Ok
 os : s.os = X.s₀.os
 bare : AllBare s.gens
 base : Un X.fs X.ex X.H₀ H X.s₀.heap s.heap
 loc : ∃ m, s.heap.Ns X.env.locals m ∧ ∀ (i : Nat) (x : Str) (v : V), X.N[i]? = some x → σ[i]? = some (some v) → Vis X.env.scope x → ∃ u, RelV v u ∧ Look X.env s.heap m x u
 cell : ∀ x c, X.env.cells.lookup x = some c → ∃ v, s.heap.IsCell c v
 free : H X.env.locals = none
 freeC : ∀ x c, X.env.cells.lookup x = some c → H c = none
 pin : ∀ p ∈ X.pn ++ pins, s.heap.get? p.1 = some p.2 ∧ H p.1 = none ∧ p.1 ≠ X.env.locals ∧ p.1 ∉ X.fs ∧ ∀ v, p.2.data ≠ .cell v
 hok : HOk X.prog X.w H s.heap
 len : σ.length = X.N.length
section
variable {X : Cx} {pins : List (Addr × Obj)} {σ : List (Option V)} {H H' : Hp} {s : Shared} {h' : Heap}
theorem Cx.Ok.nofr (ok : X.Ok) {b : Addr} {o : Obj} (e : X.base.get? b = some o) : b ∉ X.fs := fun hb => by
 have := (ok.funs.mem hb).1
 rw [e] at this; cases this
theorem Inv.bs (I : Inv X pins σ H s) : ∀ b o, X.base.get? b = some o → s.heap.get? b = some o ∧ H b = none := fun b o e =>
 ⟨I.base.keep b o (I.ok.bs b o e).1 (I.ok.bs b o e).2 (I.ok.nofr e) (I.ok.noex b o e), I.base.free b o (I.ok.bs b o e).1 (I.ok.bs b o e).2 (I.ok.noex b o e)⟩
theorem Inv.bk (I : Inv X pins σ H s) : ∀ b o, X.base.get? b = some o → s.heap.get? b = some o := fun b o e => (I.bs b o e).1
theorem Inv.mod (I : Inv X pins σ H s) : Mod X.K X.mg X.base := I.ok.mod
theorem Inv.kIn (I : Inv X pins σ H s) : X.K.In s.heap := I.ok.mod.kin.keeps I.bk
theorem Inv.fr (I : Inv X pins σ H s) : ∃ m, Fr X.base X.env.locals s.heap m :=
 let ⟨m, hn, _⟩ := I.loc
 ⟨m, hn, I.bk, Nat.le_trans I.ok.bsz I.ok.above⟩
theorem Inv.lt (I : Inv X pins σ H s) : X.env.locals < s.heap.objs.size := let ⟨_, hn, _⟩ := I.loc; hn.lt
theorem Inv.sz (I : Inv X pins σ H s) : X.s₀.heap.objs.size ≤ s.heap.objs.size := Nat.le_trans I.ok.above (Nat.le_of_lt I.lt)
theorem Inv.nofs (I : Inv X pins σ H s) {a : Addr} (h : s.heap.objs.size ≤ a) : a ∉ X.fs := fun hb => by
 obtain ⟨_, o, ho, _⟩ := I.ok.funs.mem hb
 exact absurd (Nat.lt_of_lt_of_le (Heap.lt_size ho) (Nat.le_trans I.sz h)) (Nat.lt_irrefl _)
theorem Inv.cne (I : Inv X pins σ H s) : ∀ x c, X.env.cells.lookup x = some c → c ≠ X.env.locals := fun x c e z => by
 obtain ⟨v, o, ho, hd⟩ := I.cell x c e
 obtain ⟨m, ⟨o', es, ep, ho', hd', _⟩, _⟩ := I.loc
 rw [z, ho'] at ho; cases ho; rw [hd'] at hd; cases hd
theorem Inv.funs (I : Inv X pins σ H s) : s.heap.FunFrames X.base X.outer := by
 have all : ∀ (l : List Env), (∀ b ∈ frs l, b ∈ X.fs) → X.s₀.heap.FunFrames X.base l → s.heap.FunFrames X.base l := by
  intro l
  induction l with
  | nil => intro _ _; trivial
  | cons env r ih =>
   intro hs hl
   obtain ⟨hk, ⟨L, o, hf, hn, ho, hd⟩, hr⟩ := hl
   have hL : L ∈ X.fs := hs L (by unfold frs; rw [List.filterMap_cons, hf]; exact List.mem_cons_self)
   obtain ⟨sl, e⟩ := I.base.slot L o ho (I.ok.frf L hL) hL fun z => I.ok.exfs L z hL
   exact ⟨hk, ⟨L, _, hf, hn, e, hd⟩, ih (fun b hb => hs b (by unfold frs; rw [List.filterMap_cons, hf]; exact List.mem_cons_of_mem _ hb)) hr⟩
 exact all X.outer (fun _ hb => hb) I.ok.funs
theorem Inv.stack (I : Inv X pins σ H s) : s.heap.FunFrames X.base X.stack := by
 rcases I.ok.stk with e | ⟨e, hf⟩
 · rw [e]; exact I.funs
 · rw [e]
   obtain ⟨m, hn, _⟩ := I.loc
   refine .cons (by rw [I.ok.kind]; decide) hf hn ?_ I.funs
   exact Heap.get?_none_of_le (Nat.le_trans I.ok.bsz I.ok.above)
theorem Inv.stkSub (I : Inv X pins σ H s) : ∀ b ∈ frs X.stack, b ∈ X.env.locals :: X.fs := fun b hb => by
 rcases I.ok.stk with e | ⟨e, hf⟩
 · rw [e] at hb; exact List.mem_cons_of_mem _ hb
 · rw [e] at hb
   unfold frs at hb
   rw [List.filterMap_cons, hf] at hb
   exact hb
theorem Inv.stkFree (I : Inv X pins σ H s) : ∀ b ∈ frs X.stack, H b = none := fun b hb => by
 rcases List.mem_cons.mp (I.stkSub b hb) with e | hb
 · rw [e]; exact I.free
 · obtain ⟨_, o, ho, _⟩ := I.ok.funs.mem hb
   exact I.base.free b o ho (I.ok.frf b hb) fun z => I.ok.exfs b z hb
theorem Inv.step {g' : Array GenState} {t' : Nat} {d' : Drawn} {ch : List Addr} (I : Inv X pins σ H s)
 (hch : ∀ b ∈ ch, (b ∈ X.ex ∨ X.s₀.heap.objs.size ≤ b) ∧ b ≠ X.env.locals ∧ (∀ x c, X.env.cells.lookup x = some c → c ≠ b) ∧ ∀ p ∈ X.pn ++ pins, p.1 ≠ b)
 (keep : ∀ b o, b ≠ X.env.locals → b ∉ X.fs → b ∉ ch → s.heap.get? b = some o → H b = none → h'.get? b = some o)
 (slot : ∀ b o, b ≠ X.env.locals → b ∈ X.fs → b ∉ ch → s.heap.get? b = some o → H b = none → ∃ sl, h'.get? b = some { o with slots := sl }) (free : ∀ b o, b ∉ ch → s.heap.get? b = some o → H b = none → H' b = none)
 (there : ∀ b o, b ∉ ch → s.heap.get? b = some o → ∃ o', h'.get? b = some o')
 (tups : ∀ b xs, H b = some (.tup xs) → H' b = some (.tup xs)) (frzs : ∀ b o u, H b = some (.frz o u) → H' b = some (.frz o u)) (tbls : ∀ b ps, H b = some (.tbl ps) → ∃ more, H' b = some (.tbl (ps ++ more)))
 (ns : ∀ m, s.heap.Ns X.env.locals m → h'.Ns X.env.locals m) (hok : HOk X.prog X.w H' h') (hg : AllBare g') :
 Inv X pins σ H' { s with heap := h', gens := g', drawn := d', toks := t' } := by
 have neL : ∀ b o, X.s₀.heap.get? b = some o → b ≠ X.env.locals := fun b o e => Nat.ne_of_lt (Nat.lt_of_lt_of_le (Heap.lt_size e) I.ok.above)
 have neC : ∀ b o, X.s₀.heap.get? b = some o → b ∉ X.ex → b ∉ ch := fun b o e hx hb => by
  rcases (hch b hb).1 with z | z
  · exact hx z
  · exact absurd (Nat.lt_of_lt_of_le (Heap.lt_size e) z) (Nat.lt_irrefl _)
 have cellK : ∀ x c, X.env.cells.lookup x = some c → ∀ v, s.heap.IsCell c v → h'.IsCell c v := fun x c e v ⟨o, ho, hd⟩ => by
  have nch : c ∉ ch := fun z => (hch c z).2.2.1 x c e rfl
  by_cases hc : c ∈ X.fs
  · obtain ⟨sl, q⟩ := slot c o (I.cne x c e) hc nch ho (I.freeC x c e)
    exact ⟨_, q, hd⟩
  · exact ⟨o, keep c o (I.cne x c e) hc nch ho (I.freeC x c e), hd⟩
 refine ⟨I.ok, I.os, hg, ⟨fun b o e n hb hx => ?_, fun b o e n hb hx => ?_, fun b o e n hx => ?_, fun b o e hx => ?_, fun b xs e => tups b xs (I.base.tups b xs e), fun b o xs e => frzs b o xs (I.base.frzs b o xs e), fun b ps e => ?_⟩, ?_, fun x c e => ?_, ?_, fun x c e => ?_, fun p hp => ?_, hok, I.len⟩
 · exact keep b o (neL b o e) hb (neC b o e hx) (I.base.keep b o e n hb hx) (I.base.free b o e n hx)
 · obtain ⟨sl, e1⟩ := I.base.slot b o e n hb hx
   obtain ⟨sl', e2⟩ := slot b _ (neL b o e) hb (neC b o e hx) e1 (I.base.free b o e n hx)
   exact ⟨sl', e2⟩
 · obtain ⟨o', e1⟩ := I.base.there b o e hx
   exact free b o' (neC b o e hx) e1 (I.base.free b o e n hx)
 · obtain ⟨o', e1⟩ := I.base.there b o e hx
   exact there b o' (neC b o e hx) e1
 · obtain ⟨m1, e1⟩ := I.base.tbls b ps e
   obtain ⟨m2, e2⟩ := tbls b _ e1
   exact ⟨m1 ++ m2, by rw [e2, Array.append_assoc]⟩
 · obtain ⟨m, hn, hl⟩ := I.loc
   refine ⟨m, ns m hn, fun i x v e1 e2 e3 => ?_⟩
   obtain ⟨u, r, l⟩ := hl i x v e1 e2 e3
   refine ⟨u, r, ?_⟩
   rcases l with l | ⟨k, c, e, z⟩
   · exact .inl l
   · exact .inr ⟨k, c, e, cellK x c e _ z⟩
 · obtain ⟨v, z⟩ := I.cell x c e
   exact ⟨v, cellK x c e v z⟩
 · obtain ⟨m, ⟨o, _, _, ho, _⟩, _⟩ := I.loc
   exact free _ o (fun z => (hch _ z).2.1 rfl) ho I.free
 · obtain ⟨v, o, ho, hd⟩ := I.cell x c e
   exact free c o (fun z => (hch c z).2.2.1 x c e rfl) ho (I.freeC x c e)
 · obtain ⟨e, n, ne, nf, d⟩ := I.pin p hp
   have nch : p.1 ∉ ch := fun z => (hch p.1 z).2.2.2 p hp rfl
   exact ⟨keep p.1 p.2 ne nf nch e n, free p.1 p.2 nch e n, ne, nf, d⟩
theorem Inv.un {t' : Nat} (I : Inv X pins σ H s) (u : Un X.fs [] H H' s.heap h') (hok : HOk X.prog X.w H' h') : Inv X pins σ H' { s with heap := h', toks := t' } := by
 obtain ⟨m, ⟨o, es, ep, ho, r⟩, _⟩ := id I.loc
 obtain ⟨sl, hL⟩ := u.any ho I.free (by simp)
 exact I.step (g' := s.gens) (d' := s.drawn) (ch := []) (fun _ z => nomatch z) (fun b o _ hb _ e n => u.keep b o e n hb (by simp)) (fun b o _ hb _ e n => u.slot b o e n hb (by simp)) (fun b o _ e n => u.free b o e n (by simp)) (fun b o _ e => u.there b o e (by simp)) u.tups u.frzs u.tbls (fun m' hm => by
  obtain ⟨o', es', ep', ho', r'⟩ := hm
  rw [ho] at ho'; cases ho'
  exact ⟨_, es', ep', hL, r'⟩) hok I.bare
theorem Inv.call {g' : Array GenState} {t' : Nat} {d' : Drawn} {ch : List Addr} (I : Inv X pins σ H s) (u : Un (frs X.stack) ch H H' s.heap h') (hok : HOk X.prog X.w H' h') (hg : AllBare g')
 (hch : ∀ b ∈ ch, (b ∈ X.ex ∨ X.s₀.heap.objs.size ≤ b) ∧ b ≠ X.env.locals ∧ (∀ x c, X.env.cells.lookup x = some c → c ≠ b) ∧ ∀ p ∈ X.pn ++ pins, p.1 ≠ b) :
 Inv X pins σ H' { s with heap := h', gens := g', drawn := d', toks := t' } := by
 obtain ⟨m, ⟨o, es, ep, ho, r⟩, _⟩ := id I.loc
 obtain ⟨sl, hL⟩ := u.any ho I.free fun z => (hch _ z).2.1 rfl
 exact I.step (ch := ch) hch (fun b o hL hb hc e n => u.keep b o e n (fun z => (List.mem_cons.mp (I.stkSub b z)).elim hL hb) hc) (fun b o _ _ hc e n => u.any e n hc) (fun b o hc e n => u.free b o e n hc) (fun b o hc e => u.there b o e hc) u.tups u.frzs u.tbls (fun m' hm => by
  obtain ⟨o', es', ep', ho', r'⟩ := hm
  rw [ho] at ho'; cases ho'
  exact ⟨_, es', ep', hL, r'⟩) hok hg
theorem Inv.turned {t' : Nat} {it : Addr} (I : Inv X pins σ H s) (k : ∀ b o, b ≠ it → s.heap.get? b = some o → h'.get? b = some o) (hn : H it = none) (hL : it ≠ X.env.locals)
 (h1 : it ∈ X.ex ∨ X.s₀.heap.objs.size ≤ it) (h2 : ∀ x c, X.env.cells.lookup x = some c → c ≠ it) (h3 : ∀ p ∈ X.pn ++ pins, p.1 ≠ it) : Inv X pins σ H { s with heap := h', toks := t' } := by
 have nit : ∀ b u, H b = some u → b ≠ it := fun b u e z => by rw [z, hn] at e; cases e
 refine I.step (g' := s.gens) (d' := s.drawn) (ch := [it]) (fun b hb => ?_) (fun b o _ _ hc e _ => k b o (fun z => hc (by simp [z])) e) (fun b o _ _ hc e _ => ⟨o.slots, k b o (fun z => hc (by simp [z])) e⟩) (fun _ _ _ _ n => n)
  (fun b o hc e => ⟨o, k b o (fun z => hc (by simp [z])) e⟩) (fun _ _ e => e) (fun _ _ _ e => e) (fun b ps e => ⟨#[], by rw [e]; simp⟩) (fun m hm => ?_) (fun b u e => ?_) I.bare
 · have e : b = it := by simpa using hb
   subst e
   exact ⟨h1, hL, h2, h3⟩
 · obtain ⟨o, es, ep, ho, r⟩ := hm
   exact ⟨o, es, ep, k _ o (Ne.symm hL) ho, r⟩
 · refine (I.hok b u e).stay (fun c v hc q => k c v ?_ q) (fun _ q => q) fun _ _ q => q
   rcases hc with z | z
   · rw [z]; exact nit b u e
   · exact nit c _ z
theorem Inv.tok (I : Inv X pins σ H s) (t : Nat) : Inv X pins σ H { s with toks := t } := I.un (h' := s.heap) (t' := t) Un.refl I.hok
theorem Inv.kept {t' : Nat} (I : Inv X pins σ H s) (k : ∀ b u, s.heap.get? b = some u → h'.get? b = some u) : Inv X pins σ H { s with heap := h', toks := t' } := I.un (Un.kept k) (I.hok.kept k)
theorem Inv.laid {a : Addr} {o : HO} {t' : Nat} (I : Inv X pins σ H s) (k : ∀ b u, s.heap.get? b = some u → h'.get? b = some u) (hp : s.heap.objs.size ≤ a) (new : ObjOk X.prog X.w (upd H a o) h' a o) :
 Inv X pins σ (upd H a o) { s with heap := h', toks := t' } := I.un (Un.laid k hp (I.hok.fresh hp)) (I.hok.laid k hp new)
theorem Inv.write {x e : Addr} {o : HO} {t' : Nat} (I : Inv X pins σ H s) (mu : Mut (H x)) (he : e = x ∨ H e = some (.own x)) (k : ∀ b u, b ≠ e → s.heap.get? b = some u → h'.get? b = some u) (heo : ∃ u, h'.get? e = some u)
 (new : ObjOk X.prog X.w (upd H x o) h' x o) : Inv X pins σ (upd H x o) { s with heap := h', toks := t' } := I.un (Un.write mu he k heo) (I.hok.write mu he k heo new)
theorem Inv.weak {σ' : List (Option V)} (I : Inv X pins σ H s) (hl : σ'.length = σ.length) (w : ∀ (i : Nat) v, σ'[i]? = some (some v) → σ[i]? = some (some v)) : Inv X pins σ' H s :=
 ⟨I.ok, I.os, I.bare, I.base, let ⟨m, hn, hl'⟩ := I.loc; ⟨m, hn, fun i x v e1 e2 e3 => hl' i x v e1 (w i v e2) e3⟩, I.cell, I.free, I.freeC, I.pin, I.hok, hl.trans I.len⟩
theorem Inv.pins_of {pins' : List (Addr × Obj)} (I : Inv X pins σ H s) (h : ∀ p ∈ pins', s.heap.get? p.1 = some p.2 ∧ H p.1 = none ∧ p.1 ≠ X.env.locals ∧ p.1 ∉ X.fs ∧ ∀ v, p.2.data ≠ .cell v) : Inv X pins' σ H s :=
 ⟨I.ok, I.os, I.bare, I.base, I.loc, I.cell, I.free, I.freeC, fun p hp => (List.mem_append.mp hp).elim (fun z => I.pin p (List.mem_append_left _ z)) (h p), I.hok, I.len⟩
theorem nodup_ix {N : List Str} (hN : N.Nodup) {i j : Nat} {x : Str} (a : N[i]? = some x) (b : N[j]? = some x) : i = j := by
 obtain ⟨h1, e1⟩ := List.getElem?_eq_some_iff.mp a
 obtain ⟨h2, e2⟩ := List.getElem?_eq_some_iff.mp b
 exact (List.getElem_inj hN).mp (e1.trans e2.symm)
theorem store_ok2 {M : Model} {A : Around} {E : Value → Shared → Prop} {i : Nat} {x : Str} {v : V} {u : Value} {Q : Unit → Shared → Prop} (I : Inv X pins σ H s) (hN : X.N.Nodup) (hi : X.N[i]? = some x) (hx : Loc X.env.scope x) (r : RelV v u)
 (h : ∀ s', Inv X pins (σ.set i (some v)) H s' → (∃ a, Heap.SameBut a s.heap s'.heap ∧ (a = X.env.locals ∨ X.env.cells.lookup x = some a)) → Q () s') (hf : X.fn x = true ∨ X.env.scope.names.lookup x = some .local := by first | exact .inl rfl | exact .inr rfl | assumption) : wpAny M A (storeName X.env x u) Q E s := by
 obtain ⟨m, hn, hl⟩ := id I.loc
 have hcls : (X.env.scope.kind == .class || (X.env.scope.kind == .module && X.env.locals != X.env.globals)) = false := by rw [I.ok.kind]; rfl
 have hiσ : i < σ.length := by rw [I.len]; exact (List.getElem?_eq_some_iff.mp hi).1
 have cne := I.cne
 have tracked : ∀ {a : Addr} {h' : Heap}, (∃ o, s.heap.get? a = some o ∧ H a = none) → Heap.SameBut a s.heap h' → HOk X.prog X.w H h' := fun {a h'} ha hs b ob e => by
  obtain ⟨_, _, hfree⟩ := ha
  refine (I.hok b ob e).stay (fun c w' hc q => (hs.2 c ?_).trans q) (fun _ q => q) fun _ _ q => q
  rintro rfl
  rcases hc with rfl | hc
  · rw [hfree] at e; cases e
  · rw [hfree] at hc; cases hc
 rcases hx with hk | hk
 · refine wpAny_storeName_local hk hn (fun h' hn' hs => ?_) hcls
   obtain ⟨oL, _, _, hoL, _⟩ := id hn
   refine h _ ⟨I.ok, I.os, I.bare, ⟨fun b o e n hb hx => ?_, fun b o e n hb hx => ?_, I.base.free, fun b o e hx => ?_, I.base.tups, I.base.frzs, I.base.tbls⟩, ⟨_, hn', fun j y v' e1 e2 e3 => ?_⟩, fun y c e => ?_, I.free, I.freeC, fun p hp => ?_, tracked ⟨oL, hoL, I.free⟩ hs, by simpa using I.len⟩ ⟨_, hs, .inl rfl⟩
   · exact (hs.2 b (Nat.ne_of_lt (Nat.lt_of_lt_of_le (Heap.lt_size e) I.ok.above))).trans (I.base.keep b o e n hb hx)
   · obtain ⟨sl, e1⟩ := I.base.slot b o e n hb hx
     exact ⟨sl, (hs.2 b (Nat.ne_of_lt (Nat.lt_of_lt_of_le (Heap.lt_size e) I.ok.above))).trans e1⟩
   · obtain ⟨o', e1⟩ := I.base.there b o e hx
     exact ⟨o', (hs.2 b (Nat.ne_of_lt (Nat.lt_of_lt_of_le (Heap.lt_size e) I.ok.above))).trans e1⟩
   · by_cases hj : j = i
     · subst hj
       rw [hi] at e1; cases e1
       rw [List.getElem?_set_self hiσ] at e2
       cases e2
       exact ⟨u, r, .inl ⟨hk, by simp⟩⟩
     · rw [List.getElem?_set_ne (Ne.symm hj)] at e2
       obtain ⟨u', r', q⟩ := hl j y v' e1 e2 e3
       refine ⟨u', r', ?_⟩
       rcases q with ⟨k, e⟩ | ⟨k, c, e, z⟩
       · refine .inl ⟨k, ?_⟩
         have : y ≠ x := fun e => hj (nodup_ix hN e1 (e ▸ hi))
         simp [this, e]
       · exact .inr ⟨k, c, e, z.sameBut hs (cne y c e)⟩
   · obtain ⟨w', z⟩ := I.cell y c e
     exact ⟨w', z.sameBut hs (cne y c e)⟩
   · obtain ⟨e, n, ne, nf, d⟩ := I.pin p hp
     exact ⟨(hs.2 p.1 ne).trans e, n, ne, nf, d⟩
 · have hfn : X.fn x = true := by
    rcases hf with z | z
    · exact z
    · rw [z] at hk; cases hk
   obtain ⟨c, hc⟩ := I.ok.has x (.inl hk)
   obtain ⟨w', z⟩ := I.cell x c hc
   refine wpAny_storeName_cell I.ok.kind hk hc z (fun h' hc' hs => ?_)
   obtain ⟨oc, hoc, hocd⟩ := id z
   refine h { s with heap := h' } ⟨I.ok, I.os, I.bare, ⟨fun b o e n hb hx => ?_, fun b o e n hb hx => ?_, I.base.free, fun b o e hx => ?_, I.base.tups, I.base.frzs, I.base.tbls⟩, ⟨m, hn.sameBut hs (Ne.symm (cne x c hc)), fun j y v' e1 e2 e3 => ?_⟩, fun y c' e => ?_, I.free, I.freeC, fun p hp => ?_, tracked ⟨oc, hoc, I.freeC x c hc⟩ hs, by simpa using I.len⟩ ⟨c, hs, .inr hc⟩
   · exact (hs.2 b (Nat.ne_of_lt (Nat.lt_of_lt_of_le (Heap.lt_size e) (I.ok.cab x c hfn hc)))).trans (I.base.keep b o e n hb hx)
   · obtain ⟨sl, e1⟩ := I.base.slot b o e n hb hx
     exact ⟨sl, (hs.2 b (Nat.ne_of_lt (Nat.lt_of_lt_of_le (Heap.lt_size e) (I.ok.cab x c hfn hc)))).trans e1⟩
   · obtain ⟨o', e1⟩ := I.base.there b o e hx
     exact ⟨o', (hs.2 b (Nat.ne_of_lt (Nat.lt_of_lt_of_le (Heap.lt_size e) (I.ok.cab x c hfn hc)))).trans e1⟩
   · by_cases hj : j = i
     · subst hj
       rw [hi] at e1; cases e1
       rw [List.getElem?_set_self hiσ] at e2
       cases e2
       exact ⟨u, r, .inr ⟨.inl hk, c, hc, hc'⟩⟩
     · rw [List.getElem?_set_ne (Ne.symm hj)] at e2
       obtain ⟨u', r', q⟩ := hl j y v' e1 e2 e3
       refine ⟨u', r', ?_⟩
       rcases q with q | ⟨k, c', e, z'⟩
       · exact .inl q
       · refine .inr ⟨k, c', e, z'.sameBut hs ?_⟩
         rintro rfl
         exact hj (nodup_ix hN e1 (I.ok.inj _ _ _ e hc ▸ hi))
   · by_cases hcc : c' = c
     · subst hcc; exact ⟨_, hc'⟩
     · obtain ⟨w2, z2⟩ := I.cell y c' e
       exact ⟨w2, z2.sameBut hs hcc⟩
   · obtain ⟨e, n, ne, nf, d⟩ := I.pin p hp
     refine ⟨(hs.2 p.1 ?_).trans e, n, ne, nf, d⟩
     intro q
     rw [q, hoc] at e
     have q' : oc = p.2 := Option.some.inj e
     exact d w' (by rw [← q']; exact hocd)
theorem store_ok {M : Model} {A : Around} {E : Value → Shared → Prop} {i : Nat} {x : Str} {v : V} {u : Value} {Q : Unit → Shared → Prop} (I : Inv X pins σ H s) (hN : X.N.Nodup) (hi : X.N[i]? = some x) (hx : Loc X.env.scope x) (r : RelV v u)
 (h : ∀ s', Inv X pins (σ.set i (some v)) H s' → Q () s') (hf : X.fn x = true ∨ X.env.scope.names.lookup x = some .local := by first | exact .inl rfl | exact .inr rfl | assumption) : wpAny M A (storeName X.env x u) Q E s :=
 store_ok2 I hN hi hx r (fun s' I' _ => h s' I') hf
theorem Inv.call' {s' : Shared} {ch : List Addr} (I : Inv X pins σ H s) (ho : s'.os = s.os) (u : Un (frs X.stack) ch H H' s.heap s'.heap) (hok : HOk X.prog X.w H' s'.heap) (hg : AllBare s'.gens)
 (hch : ∀ b ∈ ch, (b ∈ X.ex ∨ X.s₀.heap.objs.size ≤ b) ∧ b ≠ X.env.locals ∧ (∀ x c, X.env.cells.lookup x = some c → c ≠ b) ∧ ∀ p ∈ X.pn ++ pins, p.1 ≠ b) : Inv X pins σ H' s' := by
 obtain ⟨h', g', d', t', o'⟩ := s'
 have e : o' = s.os := ho
 subst e
 exact I.call (g' := g') (t' := t') (d' := d') u hok hg hch
end
abbrev XK := Value → Option Addr → Hp → Prop
abbrev St := List (Option V)
abbrev VK := V → Hp → Prop
abbrev TE := St → Hp → VK → Prop
abbrev TT := St → Hp → (Bool → Hp → Prop) → Prop
abbrev TA := St → Hp → (List V → Hp → Prop) → Prop
structure Ends where
 nx : St → Hp → Prop
 rt : VK
 bk : St → Hp → Prop := fun _ _ => False
 ct : St → Hp → Prop := fun _ _ => False
abbrev TS := Ends → St → Hp → Prop
def EP (X : Cx) (pins : List (Addr × Obj)) (σ : St) (Q : VK) (u : Value) (s' : Shared) : Prop := ∃ v H', Inv X pins σ H' s' ∧ RelV v u ∧ Q v H'
def TP (X : Cx) (pins : List (Addr × Obj)) (σ : St) (Q : Bool → Hp → Prop) (b : Bool) (s' : Shared) : Prop := ∃ H', Inv X pins σ H' s' ∧ Q b H'
def AP (X : Cx) (pins : List (Addr × Obj)) (σ : St) (Q : List V → Hp → Prop) (us : List Value) (s' : Shared) : Prop := ∃ vs H', Inv X pins σ H' s' ∧ Vals vs us ∧ Q vs H'
def SP (X : Cx) (pins : List (Addr × Obj)) (D : Ends) (f : Flow) (s' : Shared) : Prop :=
 match f with
 | .next => ∃ σ' H', Inv X pins σ' H' s' ∧ D.nx σ' H'
 | .brk => ∃ σ' H', Inv X pins σ' H' s' ∧ D.bk σ' H'
 | .cont => ∃ σ' H', Inv X pins σ' H' s' ∧ D.ct σ' H'
 | .ret u => ∃ v σ' H', Inv X pins σ' H' s' ∧ RelV v u ∧ D.rt v H'
def PE (X : Cx) (e : Expr) (t : TE) : Prop :=
 ∀ (pins : List (Addr × Obj)) (s : Shared) (σ : St) (H : Hp) (Q : VK), Inv X pins σ H s → t σ H Q → wpAny (model X.prog X.w) X.A (eval e X.env) (EP X pins σ Q) X.xe s
def PT (X : Cx) (e : Expr) (t : TT) : Prop :=
 ∀ (pins : List (Addr × Obj)) (s : Shared) (σ : St) (H : Hp) (Q : Bool → Hp → Prop), Inv X pins σ H s → t σ H Q → wpAny (model X.prog X.w) X.A (isTrue e X.env (eval e X.env)) (TP X pins σ Q) X.xe s
def PW (X : Cx) (e : Expr) (t : TT) : Prop :=
 ∀ (whole : Sem Value) (pins : List (Addr × Obj)) (s : Shared) (σ : St) (H : Hp) (Q : Bool → Hp → Prop), Inv X pins σ H s → t σ H Q → wpAny (model X.prog X.w) X.A (isTrue e X.env whole) (TP X pins σ Q) X.xe s
theorem PW.pt {X : Cx} {e : Expr} {t : TT} (h : PW X e t) : PT X e t := h _
def PA (X : Cx) (es : List Expr) (t : TA) : Prop :=
 ∀ (pos : Pos) (pins : List (Addr × Obj)) (s : Shared) (σ : St) (H : Hp) (Q : List V → Hp → Prop), Inv X pins σ H s → t σ H Q → wpAny (model X.prog X.w) X.A (spliced (backTo pos (starEach es X.env))) (AP X pins σ Q) X.xe s
def PS (X : Cx) (st : Stmt) (t : TS) : Prop :=
 ∀ (pins : List (Addr × Obj)) (s : Shared) (σ : St) (H : Hp) (D : Ends), Inv X pins σ H s → t D σ H → wpAny (model X.prog X.w) X.A (exec st X.env) (SP X pins D) X.xe s
def PSs (X : Cx) (st : List Stmt) (t : TS) : Prop :=
 ∀ (pins : List (Addr × Obj)) (s : Shared) (σ : St) (H : Hp) (D : Ends), Inv X pins σ H s → t D σ H → wpAny (model X.prog X.w) X.A (execs st X.env) (SP X pins D) X.xe s
theorem thn {α : Type} {t : Sem α} {Q Q' : α → Shared → Prop} {M : Model} {A : Around} {E : Value → Shared → Prop} {s : Shared} (h : wpAny M A t Q E s) (hQ : ∀ a s, Q a s → Q' a s) : wpAny M A t Q' E s := wpAny_mono h hQ fun _ _ x => x
end L2
namespace L2
open PySem PySem.Spec PyProof.Rows
section
variable {X : Cx}
theorem bin {a b : Expr} {ta tb : TE} (ha : PE X a ta) (hb : PE X b tb) {pins : List (Addr × Obj)} {s : Shared} {σ : St} {H : Hp} {R : V → V → Hp → Prop} (I : Inv X pins σ H s) (h : ta σ H fun x H1 => tb σ H1 fun y H2 => R x y H2)
 {α : Type} {Q : α → Shared → Prop} {f : Value → Value → Sem α}
 (hf : ∀ v u s2 x y H2, Inv X pins σ H2 s2 → RelV x v → RelV y u → R x y H2 → wpAny (model X.prog X.w) X.A (f v u) Q X.xe s2) :
 wpAny (model X.prog X.w) X.A (eval a X.env) (fun v s₁ => wpAny (model X.prog X.w) X.A (eval b X.env) (fun u s₂ => wpAny (model X.prog X.w) X.A (f v u) Q X.xe s₂) X.xe s₁) X.xe s := by
 refine thn (ha pins s σ H _ I h) fun v s1 hq0 => ?_
 obtain ⟨x, H1, I1, r1, q1⟩ := hq0
 refine thn (hb pins s1 σ H1 _ I1 q1) fun u s2 hq0 => ?_
 obtain ⟨y, H2, I2, r2, q2⟩ := hq0
 exact hf v u s2 x y H2 I2 r1 r2 q2
def tVar (i : Nat) : TE := fun σ H Q => ∃ v, σ[i]? = some (some v) ∧ Q v H
def tC (v : V) : TE := fun _ H Q => Q v H
theorem pe_var {i : Nat} {x : Str} {pos : Pos} (hN : X.N[i]? = some x) (hv : Vis X.env.scope x) (hd : (x == ("__debug__" : Str)) = false := by decide) (hcd : (x == ("__classdict__" : Str)) = false := by decide) : PE X (.Name x pos) (tVar i) := by
 intro pins s σ H Q I h
 obtain ⟨v, e, h⟩ := h
 obtain ⟨m, hn, hl⟩ := I.loc
 obtain ⟨u, r, l⟩ := hl i x v hN e hv
 have fin : EP X pins σ Q u s := ⟨v, H, I, r, h⟩
 rcases l with ⟨hk, hm⟩ | ⟨hk, c, hc, hcell⟩
 · exact wpAny_Name (wpAny_loadName_local I.ok.kind hk hn hm fin) hd
 · rcases hk with hk | hk
   · exact wpAny_Name (wpAny_loadName_cell I.ok.kind hk hc hcell fin) hd
   · exact wpAny_Name (wpAny_loadName_free I.ok.kind hk hc hcell fin hcd) hd
theorem za6 {i j pos} : PE X (.Constant (.int i) j pos) (tC (.int i)) := fun _ _ _ H _ I h => wpAny_Constant_int ⟨.int i, H, I.tok _, ⟨_, rfl⟩, h⟩
theorem pe_bl {b j pos} : PE X (.Constant (.bool b) j pos) (tC (.bl b)) := fun _ _ _ H _ I h => Constant_bool ⟨.bl b, H, I, rfl, h⟩
theorem zv6 {j pos} : PE X (.Constant .none j pos) (tC .non) := fun _ _ _ H _ I h => Constant_none ⟨.non, H, I, rfl, h⟩
theorem zb2 {x j pos} : PE X (.Constant (.str x) j pos) (tC (.str x)) := fun _ _ _ H _ I h => Calls.Constant_str ⟨.str x, H, I.tok _, ⟨_, rfl⟩, h⟩
def Gl (X : Cx) (x : Str) : Prop := X.env.kindOf x = some .globalImplicit
theorem yd0 {E : Value → Shared → Prop} {pins : List (Addr × Obj)} {s : Shared} {σ : St} {H : Hp} {x : Str} {u : Value} {pos : Pos} {Q : Value → Shared → Prop} (I : Inv X pins σ H s) (hg : Gl X x) (hm : X.mg x = some u) (h : Q u s)
 (hd : (x == ("__debug__" : Str)) = false := by decide) : wpAny (model X.prog X.w) X.A (eval (.Name x pos) X.env) Q E s :=
 Calls.Name_function_global I.ok.kind hg (Calls.loadGlobal_global (by rw [I.ok.glob]; exact I.mod.glob.keeps I.bk) hm h) hd
theorem yc4 {E : Value → Shared → Prop} {pins : List (Addr × Obj)} {s : Shared} {σ : St} {H : Hp} {x : Str} {u : Value} {pos : Pos} {Q : Value → Shared → Prop} (I : Inv X pins σ H s) (hg : Gl X x) (hm : X.mg x = none) (hv : bootBuiltins x = some u) (h : Q u s)
 (hn : x ≠ "__name__" := by decide) (hd : (x == ("__debug__" : Str)) = false := by decide) : wpAny (model X.prog X.w) X.A (eval (.Name x pos) X.env) Q E s := by
 obtain ⟨mb, h1, h2⟩ := I.mod.blt
 exact Calls.Name_function_global I.ok.kind hg (Calls.loadGlobal_builtin (by rw [I.ok.glob]; exact I.mod.glob.keeps I.bk) hm (by rw [I.ok.blt]; exact h1.keeps I.bk) ((h2 x hn).trans hv) h) hd
theorem pe_glob {x : Str} {v : V} {u : Value} {pos : Pos} (hg : Gl X x) (hm : X.mg x = some u) (r : RelV v u) (hd : (x == ("__debug__" : Str)) = false := by decide) : PE X (.Name x pos) (tC v) :=
 fun _ _ _ H _ I h => yd0 I hg hm ⟨v, H, I, r, h⟩ hd
theorem ya1 {x : Str} {v : V} {u : Value} {pos : Pos} (hg : Gl X x) (hm : X.mg x = none) (hv : bootBuiltins x = some u) (r : RelV v u) (hn : x ≠ "__name__" := by decide) (hd : (x == ("__debug__" : Str)) = false := by decide) : PE X (.Name x pos) (tC v) :=
 fun _ _ _ H _ I h => yc4 I hg hm hv ⟨v, H, I, r, h⟩ hn hd
variable {a b : Expr} {ta tb : TE} {pos : Pos}
def PC (X : Cx) (op : CmpOp) (a b : Expr) (t : TE) : Prop :=
 ∀ (pins : List (Addr × Obj)) (s : Shared) (σ : St) (H : Hp) (Q : VK), Inv X pins σ H s → t σ H Q →
  wpAny (model X.prog X.w) X.A (eval a X.env) (fun v s₁ => wpAny (model X.prog X.w) X.A (eval b X.env) (fun u s₂ => wpAny (model X.prog X.w) X.A (compareOp op v u) (EP X pins σ Q) X.xe s₂) X.xe s₁) X.xe s
theorem nobehind (b : Expr) {op : CmpOp} (h : op ≠ .In) (h2 : op ≠ .NotIn) : behindInMarks op b = false := by
 have e1 : (op == CmpOp.In) = false := by cases op <;> first | rfl | exact absurd rfl h
 have e2 : (op == CmpOp.NotIn) = false := by cases op <;> first | rfl | exact absurd rfl h2
 cases b <;> simp [behindInMarks, e1, e2]
def tB (t : TE) : TT := fun σ H Q => t σ H fun x H1 => ∃ c, x = .bl c ∧ Q c H1
theorem pe_cmp {op : CmpOp} {t : TE} (h : PC X op a b t) (h1 : behindInMarks op b = false := by first | exact nobehind _ (by decide) (by decide) | rfl) : PE X (.Compare a [op] [b] pos) t := fun pins s σ H Q I hw => wpAny_Compare1 (h pins s σ H Q I hw) h1
theorem pt_cmp {op : CmpOp} {t : TE} (h : PC X op a b t) (h1 : behindInMarks op b = false := by first | exact nobehind _ (by decide) (by decide) | rfl) : PT X (.Compare a [op] [b] pos) (tB t) := by
 intro pins s σ H Q I hw
 refine wpAny_isTrue_Compare1 (thn (h pins s σ H _ I hw) fun v s1 h1 => thn h1 fun u s2 h2 => thn h2 fun c s3 hq0 => ?_) h1
 obtain ⟨x, H1, I1, r1, q1⟩ := hq0
 obtain ⟨d, rfl, q⟩ := q1
 cases r1
 exact wpAny_truthy_bool ⟨H1, I1, q⟩
theorem yc1 {e : Expr} {t : TE} (h : PE X e t) (he : ∀ whole, isTrue e X.env whole = (do let v ← whole; standAt e.pos; holding [v] (truthy v)) := by intro _; rfl) : PT X e (tB t) := by
 intro pins s σ H Q I hw
 refine isTrue_plain (thn (h pins s σ H _ I hw) fun v s1 hq0 => ?_) (he _)
 obtain ⟨x, H1, I1, r1, q1⟩ := hq0
 obtain ⟨d, rfl, q⟩ := q1
 cases r1
 exact wpAny_truthy_bool ⟨H1, I1, q⟩
variable {tA tB' : TT} {rest : List Expr}
def tAnd (t u : TT) : TT := fun σ H Q => t σ H fun c H1 => if c = true then u σ H1 Q else Q false H1
def tOr (t u : TT) : TT := fun σ H Q => t σ H fun c H1 => if c = true then Q true H1 else u σ H1 Q
def tNot (t : TT) : TT := fun σ H Q => t σ H fun c H1 => Q (!c) H1
theorem zz5 (ha : PT X a tA) : PW X (.BoolOp .And [a] pos) tA := by
 intro wh pins s σ H Q I h
 refine isTrue_and (thn (ha pins s σ H Q I h) fun c s1 e => ?_)
 cases c with
 | true => exact isTrue_and_nil e
 | false => exact e
theorem zv4 (ha : PT X a tA) : PW X (.BoolOp .Or [a] pos) tA := by
 intro wh pins s σ H Q I h
 refine isTrue_or (thn (ha pins s σ H Q I h) fun c s1 e => ?_)
 cases c with
 | false => exact isTrue_or_nil e
 | true => exact e
theorem ye5 (ha : PT X a tA) (hb : PW X (.BoolOp .And (b :: rest) pos) tB') : PW X (.BoolOp .And (a :: b :: rest) pos) (tAnd tA tB') := by
 intro wh pins s σ H Q I h
 refine isTrue_and (thn (ha pins s σ H _ I h) fun c s1 hq0 => ?_)
 obtain ⟨H1, I1, q1⟩ := hq0
 cases c with
 | true => exact hb wh pins s1 σ H1 Q I1 q1
 | false => exact ⟨H1, I1, q1⟩
theorem pw_or (ha : PT X a tA) (hb : PW X (.BoolOp .Or (b :: rest) pos) tB') : PW X (.BoolOp .Or (a :: b :: rest) pos) (tOr tA tB') := by
 intro wh pins s σ H Q I h
 refine isTrue_or (thn (ha pins s σ H _ I h) fun c s1 hq0 => ?_)
 obtain ⟨H1, I1, q1⟩ := hq0
 cases c with
 | true => exact ⟨H1, I1, q1⟩
 | false => exact hb wh pins s1 σ H1 Q I1 q1
theorem yg2 (ha : PT X a tA) : PT X (.UnaryOp .Not a pos) (tNot tA) := by
 intro pins s σ H Q I h
 exact isTrue_not (ha pins s σ H (fun c H1 => Q (!c) H1) I h)
def tAndV (ta tb : TE) : TE := fun σ H Q => ta σ H fun x H1 => ∃ c, x = .bl c ∧ if c = true then tb σ H1 Q else Q (.bl false) H1
def tOrV (ta tb : TE) : TE := fun σ H Q => ta σ H fun x H1 => ∃ c, x = .bl c ∧ if c = true then Q (.bl true) H1 else tb σ H1 Q
def tNotV (ta : TE) : TE := fun σ H Q => ta σ H fun x H1 => ∃ c, x = .bl c ∧ Q (.bl (!c)) H1
theorem yf9 {op} {t : TE} (h : PE X a t) : PE X (.BoolOp op [a] pos) t := fun pins s σ H Q I hw => BoolOp_one (h pins s σ H Q I hw)
theorem pe_and (ha : PE X a ta) (hb : PE X (.BoolOp .And (b :: rest) pos) tb) : PE X (.BoolOp .And (a :: b :: rest) pos) (tAndV ta tb) := by
 intro pins s σ H Q I h
 refine BoolOp_and (thn (ha pins s σ H _ I h) fun v s1 hq0 => ?_)
 obtain ⟨x, H1, I1, r1, q1⟩ := hq0
 obtain ⟨c, rfl, q1⟩ := q1
 cases r1
 refine wpAny_truthy_bool ?_
 cases c with
 | true => exact hb pins s1 σ H1 Q I1 q1
 | false => exact ⟨.bl false, H1, I1, rfl, q1⟩
theorem pe_or (ha : PE X a ta) (hb : PE X (.BoolOp .Or (b :: rest) pos) tb) : PE X (.BoolOp .Or (a :: b :: rest) pos) (tOrV ta tb) := by
 intro pins s σ H Q I h
 refine BoolOp_or (thn (ha pins s σ H _ I h) fun v s1 hq0 => ?_)
 obtain ⟨x, H1, I1, r1, q1⟩ := hq0
 obtain ⟨c, rfl, q1⟩ := q1
 cases r1
 refine wpAny_truthy_bool ?_
 cases c with
 | false => exact hb pins s1 σ H1 Q I1 q1
 | true => exact ⟨.bl true, H1, I1, rfl, q1⟩
theorem pe_not (ha : PE X a ta) : PE X (.UnaryOp .Not a pos) (tNotV ta) := by
 intro pins s σ H Q I h
 refine UnaryOp_ (thn (ha pins s σ H _ I h) fun v s1 hq0 => ?_)
 obtain ⟨x, H1, I1, r1, q1⟩ := hq0
 obtain ⟨c, rfl, q1⟩ := q1
 cases r1
 exact not_of (wpAny_truthy_bool ⟨.bl (!c), H1, I1, rfl, q1⟩)
def tIf (t : TT) (ta tb : TE) : TE := fun σ H Q => t σ H fun c H1 => if c = true then ta σ H1 Q else tb σ H1 Q
theorem ya6 {c : Expr} (hc : PT X c tA) (ha : PE X a ta) (hb : PE X b tb) : PE X (.IfExp c a b pos) (tIf tA ta tb) := by
 intro pins s σ H Q I h
 refine wpAny_IfExp (thn (hc pins s σ H _ I h) fun d s1 hq0 => ?_)
 obtain ⟨H1, I1, q1⟩ := hq0
 cases d with
 | true => exact ha pins s1 σ H1 Q I1 q1
 | false => exact hb pins s1 σ H1 Q I1 q1
end
end L2
namespace L2
open PySem PySem.Spec PyProof.Rows
def SqL (K : PySem.W.Frag) (H : Hp) (a : Addr) (xs : List V) : Prop :=
 Rd H a (.lst xs) ∨
  ∃ (o : Obj) (its : Array Value) (n : Nat), K.lookup a = some o ∧ o.cls = .type "list" ∧ o.dict = none ∧ o.data = .seq its n ∧ its.size ≤ sizeLine ∧ Vals xs its.toList
def SqT (K : PySem.W.Frag) (H : Hp) (a : Addr) (xs : List V) : Prop :=
 Rd H a (.tup xs) ∨
  ∃ (o : Obj) (its : Array Value) (n : Nat), K.lookup a = some o ∧ o.cls = .type "tuple" ∧ o.data = .seq its n ∧ its.size ≤ sizeLine ∧ Vals xs its.toList
def absV : Value → Option V
 | .none => some .non
 | .bool b => some (.bl b)
 | .int i _ => some (.int i)
 | .str x _ => some (.str x)
 | .bytes b _ => some (.byt b)
 | .float b _ => some (.flt b)
 | .ref a => some (.ref a)
 | .type n => some (.ty n)
 | _ => none
theorem RelV.abs {x : V} {u : Value} (r : RelV x u) : absV u = some x := by
 cases x with
 | non => cases r; rfl
 | bl _ => cases r; rfl
 | int _ => obtain ⟨t, rfl⟩ := r; rfl
 | str _ => obtain ⟨t, rfl⟩ := r; rfl
 | byt _ => obtain ⟨t, rfl⟩ := r; rfl
 | flt _ => obtain ⟨t, rfl⟩ := r; rfl
 | ref _ => cases r; rfl
 | ty _ => cases r; rfl
theorem RelV.inj {x y : V} {u : Value} (r : RelV x u) (q : RelV y u) : x = y := Option.some.inj (r.abs.symm.trans q.abs)
theorem Vals.inj : ∀ {xs ys : List V} {us : List Value}, Vals xs us → Vals ys us → xs = ys
 | _, _, _, .nil, .nil => rfl
 | _, _, _, .cons r t, .cons r' t' => by rw [r.inj r', Vals.inj t t']
section
variable {X : Cx} {pins : List (Addr × Obj)} {σ : St} {H : Hp} {s : Shared} {a : Addr} {xs ys : List V}
theorem SqL.of {K : PySem.W.Frag} (h : H a = some (.lst xs)) : SqL K H a xs := .inl (.inl h)
theorem SqT.of {K : PySem.W.Frag} (h : H a = some (.tup xs)) : SqT K H a xs := .inl (.inl h)
theorem Inv.list (I : Inv X pins σ H s) (h : SqL X.K H a xs) : ∃ its : List Value, Vals xs its ∧ PlainL s.heap a its.toArray ∧ xs.length ≤ sizeLine := by
 rcases h with h | ⟨o, its, n, hk, hc, hd, hs, hz, r⟩
 · obtain ⟨z, its, n, r, e⟩ := h.ok I.hok
   exact ⟨its, r, ⟨_, n, e, rfl, rfl, rfl⟩, z⟩
 · refine ⟨its.toList, r, ⟨o, n, I.kIn a o hk, hc, hd, by simpa using hs⟩, ?_⟩
   have e := r.length
   simp only [Array.length_toList] at e
   omega
theorem Inv.tuple (I : Inv X pins σ H s) (h : SqT X.K H a xs) : ∃ its : List Value, Vals xs its ∧ IsTup s.heap a its.toArray ∧ xs.length ≤ sizeLine := by
 rcases h with h | ⟨o, its, n, hk, hc, hs, hz, r⟩
 · obtain ⟨z, its, r, p⟩ := h.ok I.hok
   exact ⟨its, r, p, z⟩
 · refine ⟨its.toList, r, ⟨o, I.kIn a o hk, hc, n, by simpa using hs⟩, ?_⟩
   have e := r.length
   simp only [Array.length_toList] at e
   omega
theorem Inv.list_inj (I : Inv X pins σ H s) (h : SqL X.K H a xs) (h' : SqL X.K H a ys) : xs = ys := by
 obtain ⟨its, r, ⟨o, n, e, _, _, d⟩, _⟩ := I.list h
 obtain ⟨its', r', ⟨o', n', e', _, _, d'⟩, _⟩ := I.list h'
 rw [e] at e'; cases e'
 rw [d] at d'
 injection d' with d1 _
 have : its = its' := by simpa using congrArg Array.toList d1
 subst this
 exact r.inj r'
theorem Inv.tuple_inj (I : Inv X pins σ H s) (h : SqT X.K H a xs) (h' : SqT X.K H a ys) : xs = ys := by
 obtain ⟨its, r, ⟨o, e, _, n, d⟩, _⟩ := I.tuple h
 obtain ⟨its', r', ⟨o', e', _, n', d'⟩, _⟩ := I.tuple h'
 rw [e] at e'; cases e'
 rw [d] at d'
 injection d' with d1 _
 have : its = its' := by simpa using congrArg Array.toList d1
 subst this
 exact r.inj r'
end
abbrev Cx.wish (X : Cx) (E : Value → Shared → Prop) : Cx := { X with xe := E }
abbrev Cx.nox (X : Cx) : Cx := X.wish fun _ _ => False
theorem Cx.Ok.wish {X : Cx} (ok : X.Ok) (E : Value → Shared → Prop) : (X.wish E).Ok :=
 ⟨ok.mod, ok.kind, ok.glob, ok.blt, ok.above, ok.inj, ok.has, ok.cab, ok.hd, ok.frames, ok.stk, ok.exf, ok.bs, ok.bsz, ok.noex, ok.exfs, ok.funs, ok.frf⟩
theorem Cx.Ok.unwish {X : Cx} {E : Value → Shared → Prop} (ok : (X.wish E).Ok) : X.Ok :=
 ⟨ok.mod, ok.kind, ok.glob, ok.blt, ok.above, ok.inj, ok.has, ok.cab, ok.hd, ok.frames, ok.stk, ok.exf, ok.bs, ok.bsz, ok.noex, ok.exfs, ok.funs, ok.frf⟩
section
variable {X : Cx} {pins : List (Addr × Obj)} {σ : St} {H : Hp} {s : Shared} {E : Value → Shared → Prop}
theorem Inv.wish (I : Inv X pins σ H s) (E : Value → Shared → Prop) : Inv (X.wish E) pins σ H s := ⟨I.ok.wish E, I.os, I.bare, I.base, I.loc, I.cell, I.free, I.freeC, I.pin, I.hok, I.len⟩
theorem Inv.unwish (I : Inv (X.wish E) pins σ H s) : Inv X pins σ H s := ⟨I.ok.unwish, I.os, I.bare, I.base, I.loc, I.cell, I.free, I.freeC, I.pin, I.hok, I.len⟩
theorem SP.unwish {D : Ends} {f : Flow} {s' : Shared} (h : SP (X.wish E) pins D f s') : SP X pins D f s' := by
 cases f with
 | next => obtain ⟨σ', H', I, q⟩ := h; exact ⟨σ', H', I.unwish, q⟩
 | brk => obtain ⟨σ', H', I, q⟩ := h; exact ⟨σ', H', I.unwish, q⟩
 | cont => obtain ⟨σ', H', I, q⟩ := h; exact ⟨σ', H', I.unwish, q⟩
 | ret u => obtain ⟨v, σ', H', I, r, q⟩ := h; exact ⟨v, σ', H', I.unwish, r, q⟩
theorem PSs.nox {st : List Stmt} {t : TS} (h : PSs X.nox st t) : PSs X st t := fun pins s σ H D I hw =>
 wpAny_mono (h pins s σ H D (I.wish _) hw) (fun _ _ q => q.unwish) fun _ _ z => False.elim z
end
section
variable {X : Cx} {st : Stmt} {rest : List Stmt} {t u : TS} {e : Expr} {te : TE} {pos : Pos}
def tNext : TS := fun D σ H => D.nx σ H
def tSeq (t u : TS) : TS := fun D σ H => t { D with nx := u D } σ H
theorem zd0 : PSs X [] tNext := fun _ _ σ H _ I h => wpAny_execs_nil ⟨σ, H, I, h⟩
theorem za3 (h1 : PS X st t) (h2 : PSs X rest u) : PSs X (st :: rest) (tSeq t u) := by
 intro pins s σ H D I h
 refine wpAny_execs_cons (thn (h1 pins s σ H { D with nx := u D } I h) fun f s1 q => ?_)
 cases f with
 | next =>
  obtain ⟨σ', H', I', q⟩ := q
  exact h2 pins s1 σ' H' D I' q
 | ret v => exact q
 | brk => exact q
 | cont => exact q
theorem zb0 (h1 : PS X st t) : PSs X [st] t := by
 intro pins s σ H D I h
 refine wpAny_execs_cons (thn (h1 pins s σ H D I h) fun f s1 q => ?_)
 cases f with
 | next => exact wpAny_execs_nil q
 | ret v => exact q
 | brk => exact q
 | cont => exact q
def tCont : TS := fun D σ H => D.ct σ H
theorem ps_continue : PS X (.Continue pos) tCont := fun _ _ σ H _ I h => wpAny_Continue ⟨σ, H, I, h⟩
theorem Inv.quiet {pins : List (Addr × Obj)} {σ : St} {H : Hp} {s : Shared} (I : Inv X pins σ H s) : interactive X.env = false := by simp [interactive, I.ok.kind]
def tDrop (te : TE) : TS := fun D σ H => te σ H fun _ H1 => D.nx σ H1
theorem zg6 (he : PE X e te) (hs : swapsWith e none pos.line X.env = pure false := by rfl) : PS X (.Expr e pos) (tDrop te) := by
 intro pins s σ H D I h
 exact wpAny_Expr_any (thn (he pins s σ H _ I h) fun v s1 ⟨x, H1, I1, r1, q1⟩ => ⟨σ, H1, I1, q1⟩) I.quiet hs
def tRet (te : TE) : TS := fun D σ H => te σ H D.rt
theorem ze3 (he : PE X e te) : PS X (.Return (some e) pos) (tRet te) := by
 intro pins s σ H D I h
 exact wpAny_Return_some (thn (he pins s σ H _ I h) fun v s1 ⟨x, H1, I1, r1, q1⟩ => ⟨x, σ, H1, I1, r1, q1⟩)
def tIfS (c : TT) (t u : TS) : TS := fun D σ H => c σ H fun b H1 => if b = true then t D σ H1 else u D σ H1
theorem ps_if {c : Expr} {a b : List Stmt} {tc : TT} (hc : PT X c tc) (ha : PSs X a t) (hb : PSs X b u) : PS X (.If c a b pos) (tIfS tc t u) := by
 intro pins s σ H D I h
 refine wpAny_If (thn (hc pins s σ H _ I h) fun d s1 hq0 => ?_)
 obtain ⟨H1, I1, q1⟩ := hq0
 cases d with
 | true => exact ha pins s1 σ H1 D I1 q1
 | false => exact hb pins s1 σ H1 D I1 q1
end
abbrev TG := V → St → Hp → (St → Hp → Prop) → Prop
abbrev TGs := List V → St → Hp → (St → Hp → Prop) → Prop
def PG (X : Cx) (target : Expr) (t : TG) : Prop :=
 ∀ (pins : List (Addr × Obj)) (s : Shared) (σ : St) (H : Hp) (v : V) (u : Value) (Q : St → Hp → Prop), Inv X pins σ H s → RelV v u → t v σ H Q →
  wpAny (model X.prog X.w) X.A (assign target X.env u) (fun _ s' => ∃ σ' H', Inv X pins σ' H' s' ∧ Q σ' H') X.xe s
def PGs (X : Cx) (ts : List Expr) (t : TGs) : Prop :=
 ∀ (pins : List (Addr × Obj)) (s : Shared) (σ : St) (H : Hp) (vs : List V) (us : List Value) (Q : St → Hp → Prop), Inv X pins σ H s → Vals vs us → t vs σ H Q →
  wpAny (model X.prog X.w) X.A (assignInOrder ((assignEach ts X.env).map (·.2)) us) (fun _ s' => ∃ σ' H', Inv X pins σ' H' s' ∧ Q σ' H') X.xe s
section
variable {X : Cx} {pos : Pos}
def gName (i : Nat) : TG := fun v σ H Q => Q (σ.set i (some v)) H
theorem zc0 {i : Nat} {x : Str} (hN : X.N.Nodup) (hi : X.N[i]? = some x) (hx : Loc X.env.scope x) (hf : X.fn x = true ∨ X.env.scope.names.lookup x = some .local := by first | exact .inl rfl | exact .inr rfl | assumption) : PG X (.Name x pos) (gName i) := by
 intro pins s σ H v u Q I r h
 exact wpAny_assign_Name (store_ok I hN hi hx r (fun s' I' => ⟨_, H, I', h⟩) hf)
def gNil : TGs := fun vs σ H Q => vs = [] ∧ Q σ H
def gCons (t : TG) (u : TGs) : TGs := fun vs σ H Q => ∃ v r, vs = v :: r ∧ t v σ H fun σ' H' => u r σ' H' Q
theorem zp2 : PGs X [] gNil := by
 intro pins s σ H vs us Q I r h
 obtain ⟨e, h⟩ := h
 subst e
 cases r
 exact assignInOrder_nil ⟨σ, H, I, h⟩
theorem ze0 {e : Expr} {es : List Expr} {t : TG} {u : TGs} (h1 : PG X e t) (h2 : PGs X es u)
 (hs : (assignEach (e :: es) X.env).map (·.2) = assign e X.env :: (assignEach es X.env).map (·.2) := by rfl) : PGs X (e :: es) (gCons t u) := by
 intro pins s σ H vs us Q I r h
 obtain ⟨v, vr, e1, h⟩ := h
 subst e1
 cases r with
 | cons r rr =>
  rw [hs]
  refine assignInOrder_cons (thn (h1 pins s σ H _ _ _ I r h) fun _ s1 hq0 => ?_)
  obtain ⟨σ1, H1, I1, q1⟩ := hq0
  exact h2 pins s1 σ1 H1 _ _ Q I1 rr q1
def gTup (K : PySem.W.Frag) (n : Nat) (t : TGs) : TG := fun v σ H Q => ∃ a xs, v = .ref a ∧ SqT K H a xs ∧ xs.length = n ∧ t xs σ H Q
theorem pg_tup {es : List Expr} {k : Nat} {t : TGs} {n : Nat} (hc : X.calm = true) (h : PGs X es t)
 (hn : (assignEach es X.env).length = n := by rfl) (hst : (assignEach es X.env).findIdx? (·.1) = none := by rfl) : PG X (.Tuple es k pos) (gTup X.K n t) := by
 intro pins s σ H v u Q I r hw
 obtain ⟨a, xs, e1, hq, hl, hw⟩ := hw
 subst e1
 cases r
 obtain ⟨its, rv, ht, hz⟩ := I.tuple hq
 refine assign_Tuple_tuple (I.ok.hd hc) ht (by simp [hn, ← hl, rv.length]) hst fun h' hx => ?_
 have I1 : Inv X pins σ H { s with heap := h' } := I.kept (t' := s.toks) fun b o e => hx b o (Nat.ne_of_lt (Heap.lt_size e)) e
 exact h pins _ σ H xs _ Q I1 (by simpa using rv) hw
def tAsg (te : TE) (g : TG) : TS := fun D σ H => te σ H fun x H1 => g x σ H1 D.nx
theorem yb9 {tg e : Expr} {te : TE} {g : TG} (he : PE X e te) (hg : PG X tg g) (hs : swapsWithSole [tg] e pos.line X.env = pure false := by rfl) (hw : swappedStores [tg] e X.env = pure none := by rfl)
 (h1 : (assignEach [tg] X.env).map (·.2) = [assign tg X.env] := by rfl) : PS X (.Assign [tg] e pos) (tAsg te g) := by
 intro pins s σ H D I h
 refine wpAny_Assign_stores (thn (he pins s σ H _ I h) fun v s1 hq0 => ?_) hs hw
 obtain ⟨x, H1, I1, r1, q1⟩ := hq0
 rw [h1]
 exact thn (hg pins s1 σ H1 x v _ I1 r1 q1) fun _ s2 q => q
theorem zc1 {i : Nat} {x : Str} {e : Expr} {te : TE} {pos' : Pos} (hN : X.N.Nodup) (hi : X.N[i]? = some x) (hx : Loc X.env.scope x) (he : PE X e te) (hs : swapsWith e (some (.Name x pos')) pos.line X.env = pure false := by rfl) (hf : X.fn x = true ∨ X.env.scope.names.lookup x = some .local := by first | exact .inl rfl | exact .inr rfl | assumption) :
 PS X (.Assign [.Name x pos'] e pos) (tAsg te (gName i)) := by
 intro pins s σ H D I h
 refine wpAny_Assign_Name (thn (he pins s σ H _ I h) fun v s1 hq0 => ?_) hs
 obtain ⟨y, H1, I1, r1, q1⟩ := hq0
 exact store_ok I1 hN hi hx r1 (fun s2 I2 => ⟨_, H1, I2, q1⟩) hf
end
section
variable {X : Cx} {pos : Pos}
def tWhile (c : TT) (tb : TS) : TS := fun D σ H => ∃ W : Nat → St → Hp → Prop, (∃ m, W m σ H) ∧ ∀ m σ H, W m σ H →
 c σ H fun b H1 => if b = true then ∃ N : St → Hp → Prop, (∀ σ' H', N σ' H' → ∃ m', m' < m ∧ W m' σ' H') ∧ tb { D with nx := N, ct := N, bk := D.nx } σ H1 else D.nx σ H1
theorem ps_while {c : Expr} {body : List Stmt} {tc : TT} {tb : TS} (hp : PassesOwn (model X.prog X.w) X.A X.env X.xe) (hc : PT X c tc) (hb : PSs X body tb) : PS X (.While c body [] pos) (tWhile tc tb) := by
 intro pins s σ H D I h
 obtain ⟨W, ⟨m0, w0⟩, turn⟩ := h
 refine wpAny_While (codeAny_whileLoop (fun n s' => ∃ σ' H', Inv X pins σ' H' s' ∧ W n σ' H') ?_ m0 ⟨σ, H, I, w0⟩)
 rintro n s1 ⟨σ1, H1, I1, w1⟩
 refine wpAny_passesOwn hp (thn (hc pins s1 σ1 H1 _ I1 (turn n σ1 H1 w1)) fun b s2 hq0 => ?_)
 obtain ⟨H2, I2, q2⟩ := hq0
 cases b with
 | true =>
  obtain ⟨N, hN, q2⟩ := q2
  rw [if_pos rfl]
  refine wpAny_passesOwn hp (thn (hb pins s2 σ1 H2 _ I2 q2) fun f s3 q3 => ?_)
  cases f with
  | next =>
   obtain ⟨σ3, H3, I3, n3⟩ := q3
   obtain ⟨m', hm, w3⟩ := hN σ3 H3 n3
   exact ⟨m', hm, σ3, H3, I3, w3⟩
  | cont =>
   obtain ⟨σ3, H3, I3, n3⟩ := q3
   obtain ⟨m', hm, w3⟩ := hN σ3 H3 n3
   exact ⟨m', hm, σ3, H3, I3, w3⟩
  | brk => exact q3
  | ret v => exact q3
 | false =>
  rw [if_neg Bool.false_ne_true]
  exact wpAny_execs_nil ⟨σ1, H2, I2, q2⟩
end
structure It where
 go : Nat → Hp → Prop
 yld : Nat → Hp → V → Hp → Prop
 stop : Nat → Hp → Prop
def FpOk (X : Cx) (pins : List (Addr × Obj)) (H : Hp) (b : Addr) : Prop :=
 H b = none ∧ b ≠ X.env.locals ∧ b ∉ X.fs ∧ (b ∈ X.ex ∨ X.s₀.heap.objs.size ≤ b) ∧ (∀ x c, X.env.cells.lookup x = some c → c ≠ b) ∧ ∀ p ∈ X.pn ++ pins, p.1 ≠ b
theorem Inv.fpOk {X : Cx} {pins : List (Addr × Obj)} {σ : St} {H H' : Hp} {s : Shared} {b : Addr} (I : Inv X pins σ H s) (hb : s.heap.objs.size ≤ b) (hn : H' b = none) : FpOk X pins H' b := by
 refine ⟨hn, Nat.ne_of_gt (Nat.lt_of_lt_of_le I.lt hb), I.nofs hb, .inr (Nat.le_trans I.sz hb), fun x c e z => ?_, fun p hp z => ?_⟩
 · obtain ⟨v, q⟩ := I.cell x c e
   exact absurd (Nat.lt_of_lt_of_le q.lt (by rw [z]; exact hb)) (Nat.lt_irrefl _)
 · exact absurd (Nat.lt_of_lt_of_le (Heap.lt_size (I.pin p hp).1) (by rw [z]; exact hb)) (Nat.lt_irrefl _)
structure Turn (P : Program) (w : World) (K : PySem.W.Frag) (tg : Expr) (J : It) (fp : List Addr) (it : Addr) (tn : Nat → Heap → Prop) : Prop where
 mem : it ∈ fp
 obj : ∀ i h, tn i h → ∀ b ∈ fp, ∃ o, h.get? b = some o ∧ ∀ v, o.data ≠ .cell v
 keep : ∀ i h h', tn i h → (∀ b ∈ fp, ∀ o, h.get? b = some o → h'.get? b = some o) → tn i h'
 item : ∀ (X : Cx), X.prog = P → X.w = w → X.K = K → X.calm = true → ∀ (i : Nat) (pins : List (Addr × Obj)) (s : Shared) (σ : St) (H : Hp) (E : Value → Shared → Prop), Inv X pins σ H s → (∀ b ∈ fp, FpOk X pins H b) → tn i s.heap → J.go i H →
  wpAny (model P w) X.A (pyNext (.ref it)) (fun r s1 => ∃ u, r = some u ∧
   wpAny (model P w) X.A (letOwnedTupleGo tg (.ref it) u) (fun _ s2 => ∃ x H', Inv X pins σ H' s2 ∧ RelV x u ∧ J.yld i H x H' ∧ tn (i + 1) s2.heap ∧ ∀ b ∈ fp, H' b = none) E s1) E s
 done : ∀ (X : Cx), X.prog = P → X.w = w → X.K = K → X.calm = true → ∀ (i : Nat) (pins : List (Addr × Obj)) (s : Shared) (σ : St) (H : Hp) (E : Value → Shared → Prop), Inv X pins σ H s → (∀ b ∈ fp, FpOk X pins H b) → tn i s.heap → J.stop i H →
  wpAny (model P w) X.A (pyNext (.ref it)) (fun r s1 => r = none ∧ Inv X pins σ H s1) E s
 self : ∀ (A : Around) (i : Nat) (s : Shared) (Q : Value → Shared → Prop) (E : Value → Shared → Prop), tn i s.heap → Q (.ref it) s → wpAny (model P w) A (pyIter (.ref it)) Q E s
abbrev TI := St → Hp → (It → Hp → Prop) → Prop
def PIE (X : Cx) (pins : List (Addr × Obj)) (σ : St) (tg : Expr) (R : It → Hp → Prop) (itv : Value) (s2 : Shared) : Prop :=
 ∃ (it : Addr) (fp : List Addr) (tn : Nat → Heap → Prop) (J : It) (H' : Hp), itv = .ref it ∧ Inv X pins σ H' s2 ∧ Turn X.prog X.w X.K tg J fp it tn ∧ tn 0 s2.heap ∧ (∀ b ∈ fp, FpOk X pins H' b) ∧ R J H'
def PI (X : Cx) (tg iter : Expr) (wi : TI) : Prop :=
 ∀ (pins : List (Addr × Obj)) (s : Shared) (σ : St) (H : Hp) (R : It → Hp → Prop), Inv X pins σ H s → wi σ H R →
  wpAny (model X.prog X.w) X.A (eval iter X.env) (fun v s1 => wpAny (model X.prog X.w) X.A (pyIter v) (PIE X pins σ tg R) X.xe s1) X.xe s
theorem go_of {M : Model} {A : Around} {E : Value → Shared → Prop} {s : Shared} {tg : Expr} {it : Addr} {u : Value} {o : Obj} {n : String} {vs : Array Value} {Q : Unit → Shared → Prop} (ho : s.heap.get? it = some o) (hc : o.cls = .type n) (hd : o.data = .fields vs)
 (hn : ["enumerate", "zip", "dict_itemiterator", "dict_reverseitemiterator", "odict_iterator", "itertools.zip_longest", "itertools.pairwise"].contains n = false) (hQ : Q () s) : wpAny M A (letOwnedTupleGo tg (.ref it) u) Q E s := by
 unfold letOwnedTupleGo
 cases tg <;> first
  | exact wpAny_pure hQ
  | (cases u <;> first
   | exact wpAny_pure hQ
   | (refine wpAny_bind (wpAny_load ho ?_)
      rw [hc, hd]
      show wpAny M A (if (["enumerate", "zip", "dict_itemiterator", "dict_reverseitemiterator", "odict_iterator", "itertools.zip_longest", "itertools.pairwise"].contains n && vs[0]? == some (rawInt _)) = true then _ else _) Q E s
      rw [if_neg (by intro h; rw [hn, Bool.false_and] at h; cases h)]
      exact wpAny_pure hQ))
def Itl (K : PySem.W.Frag) (a : Addr) : It :=
 ⟨fun i H => ∃ xs x, SqL K H a xs ∧ xs[i]? = some x, fun i H x H' => H' = H ∧ ∀ xs, SqL K H a xs → xs[i]? = some x, fun i H => ∃ xs, SqL K H a xs ∧ xs.length ≤ i⟩
def Itt (K : PySem.W.Frag) (a : Addr) : It :=
 ⟨fun i H => ∃ xs x, SqT K H a xs ∧ xs[i]? = some x, fun i H x H' => H' = H ∧ ∀ xs, SqT K H a xs → xs[i]? = some x, fun i H => ∃ xs, SqT K H a xs ∧ xs.length ≤ i⟩
def Itr (lo : Int) (n : Nat) : It := ⟨fun i _ => i < n, fun i H x H' => H' = H ∧ x = .int (lo + i), fun i _ => n ≤ i⟩
theorem turn_list {P : Program} {w : World} {K : PySem.W.Frag} {tg : Expr} (a it : Addr) : Turn P w K tg (Itl K a) [it] it (fun i h => h.IsListIter it a i) where
 mem := by simp
 obj := fun i h st b hb => by
  have e : b = it := by simpa using hb
  subst e
  obtain ⟨o, e, c, d⟩ := st
  exact ⟨o, e, fun v z => by rw [d] at z; cases z⟩
 keep := fun i h h' st k => st.at fun o e => k it (by simp) o e
 item := by
  intro X hP hw hK hc i pins s σ H E I hf st hg
  subst hP hw hK
  obtain ⟨xs, x, hq, hx⟩ := hg
  obtain ⟨its, rv, p, hz⟩ := I.list hq
  obtain ⟨u, hu, ru⟩ := rv.get hx
  obtain ⟨f0, f1, f2, f3, f4, f5⟩ := hf it (by simp)
  refine wpAny_pyNext_list_item st p.isList (x := u) (by simpa using hu) fun h' st' sb => ?_
  have I1 : Inv X pins σ H { s with heap := h' } := I.turned (t' := s.toks) (fun b o hb e => (sb.2 b hb).trans e) f0 f1 f3 f4 f5
  obtain ⟨o, e, c, d⟩ := id st'
  exact ⟨u, rfl, go_of (s := { s with heap := h' }) e c d (by decide) ⟨x, H, I1, ru, ⟨rfl, fun ys hy => by rw [I.list_inj hy hq]; exact hx⟩, st', fun b hb => (hf b hb).1⟩⟩
 done := by
  intro X hP hw hK hc i pins s σ H E I hf st hg
  subst hP hw hK
  obtain ⟨xs, hq, hx⟩ := hg
  obtain ⟨its, rv, p, hz⟩ := I.list hq
  obtain ⟨f0, f1, f2, f3, f4, f5⟩ := hf it (by simp)
  have hl := rv.length
  exact wpAny_pyNext_list_end (I.ok.hd hc) st p.isList (by simp; omega) fun h' eb => ⟨rfl, I.turned (t' := s.toks) (fun b o hb e => eb b o hb e) f0 f1 f3 f4 f5⟩
 self := fun _ _ _ _ _ st h => wpAny_pyIter_listiter st h
theorem turn_tuple {P : Program} {w : World} {K : PySem.W.Frag} {tg : Expr} (a it : Addr) : Turn P w K tg (Itt K a) [it] it (fun i h => h.IsTupleIter it a i) where
 mem := by simp
 obj := fun i h st b hb => by
  have e : b = it := by simpa using hb
  subst e
  obtain ⟨o, e, c, d⟩ := st
  exact ⟨o, e, fun v z => by rw [d] at z; cases z⟩
 keep := fun i h h' st k => st.at fun o e => k it (by simp) o e
 item := by
  intro X hP hw hK hc i pins s σ H E I hf st hg
  subst hP hw hK
  obtain ⟨xs, x, hq, hx⟩ := hg
  obtain ⟨its, rv, p, hz⟩ := I.tuple hq
  obtain ⟨u, hu, ru⟩ := rv.get hx
  obtain ⟨f0, f1, f2, f3, f4, f5⟩ := hf it (by simp)
  refine wpAny_pyNext_tuple_item st (show s.heap.IsTuple a its.toArray from p) (x := u) (by simpa using hu) fun h' st' sb => ?_
  have I1 : Inv X pins σ H { s with heap := h' } := I.turned (t' := s.toks) (fun b o hb e => (sb.2 b hb).trans e) f0 f1 f3 f4 f5
  obtain ⟨o, e, c, d⟩ := id st'
  exact ⟨u, rfl, go_of (s := { s with heap := h' }) e c d (by decide) ⟨x, H, I1, ru, ⟨rfl, fun ys hy => by rw [I.tuple_inj hy hq]; exact hx⟩, st', fun b hb => (hf b hb).1⟩⟩
 done := by
  intro X hP hw hK hc i pins s σ H E I hf st hg
  subst hP hw hK
  obtain ⟨xs, hq, hx⟩ := hg
  obtain ⟨its, rv, p, hz⟩ := I.tuple hq
  obtain ⟨f0, f1, f2, f3, f4, f5⟩ := hf it (by simp)
  have hl := rv.length
  exact wpAny_pyNext_tuple_end (I.ok.hd hc) st (show s.heap.IsTuple a its.toArray from p) (by simp; omega) fun h' eb => ⟨rfl, I.turned (t' := s.toks) (fun b o hb e => eb b o hb e) f0 f1 f3 f4 f5⟩
 self := fun _ _ _ _ _ st h => wpAny_pyIter_tupleiter st h
theorem turn_range {P : Program} {w : World} {K : PySem.W.Frag} {tg : Expr} (it : Addr) (lo : Int) (n : Nat) : Turn P w K tg (Itr lo n) [it] it (fun i h => IsRangeIter h it (lo + (i : Nat) * 1) ((n : Int) - (i : Nat)) 1) where
 mem := by simp
 obj := fun i h st b hb => by
  have e : b = it := by simpa using hb
  subst e
  exact ⟨_, st, fun v z => by
   have z' : Data.fields _ = Data.cell v := z
   cases z'⟩
 keep := fun i h h' st k => k it (by simp) _ st
 item := by
  intro X hP hw hK hc i pins s σ H E I hf st hg
  subst hP hw hK
  obtain ⟨f0, f1, f2, f3, f4, f5⟩ := hf it (by simp)
  have W := Walks.range (prog := X.prog) (w := X.w) (I.ok.hd hc) it lo 1 n
  refine W.item i s _ _ hg st fun v h' tk hv st' kk => ?_
  obtain ⟨t, rfl⟩ := hv
  have I1 : Inv X pins σ H { s with heap := h', toks := tk } := I.turned (fun b o hb e => kk b o (by simpa using hb) e) f0 f1 f3 f4 f5
  refine ⟨_, rfl, go_of (s := { s with heap := h', toks := tk }) (n := "range_iterator") st' rfl rfl (by decide) ⟨.int (lo + i), H, I1, ⟨t, ?_⟩, ⟨rfl, rfl⟩, st', fun b hb => (hf b hb).1⟩⟩
  rw [Int.mul_one]
 done := by
  intro X hP hw hK hc i pins s σ H E I hf st hg
  subst hP hw hK
  obtain ⟨f0, f1, f2, f3, f4, f5⟩ := hf it (by simp)
  exact wpAny_pyNext_range_end (I.ok.hd hc) st (by have : n ≤ i := hg; omega) fun h' eb => ⟨rfl, I.turned (t' := s.toks) (fun b o hb e => eb b o hb e) f0 f1 f3 f4 f5⟩
 self := fun _ _ _ _ _ st h => wpAny_pyIter_rangeiter st h
end L2
namespace L2
open PySem PySem.Spec PyProof.Rows
section
variable {X : Cx} {tg : Expr}
theorem range_it {pins : List (Addr × Obj)} {σ : St} {H : Hp} {s : Shared} {R : It → Hp → Prop} {E : Value → Shared → Prop} {lo hi : Int} {t u v : Tok} {tk : Nat} (I : Inv X pins σ H s) (h1 : -(2 ^ 62) ≤ lo) (h2 : lo < 2 ^ 62) (h3 : -(2 ^ 62) ≤ hi) (h4 : hi < 2 ^ 62)
 (q : R (Itr lo (hi - lo).toNat) H) : wpAny (model X.prog X.w) X.A (pyIter (.ref s.heap.objs.size)) (PIE X pins σ tg R) E { s with heap := s.heap.push { cls := .type "range", data := .fields #[.int lo t, .int hi u, .int 1 v] }, toks := tk } := by
 refine wpAny_pyIter_range (IsRange.new ..) (small_one h1 h2 h3 h4) ?_
 have I1 : Inv X pins σ H { s with heap := s.heap.push { cls := .type "range", data := .fields #[.int lo t, .int hi u, .int 1 v] }, toks := tk } := I.kept fun b o e => Heap.get?_push_of_some _ e
 refine ⟨(s.heap.push { cls := .type "range", data := .fields #[.int lo t, .int hi u, .int 1 v] }).objs.size, [(s.heap.push { cls := .type "range", data := .fields #[.int lo t, .int hi u, .int 1 v] }).objs.size], _, _, H, rfl,
  I1.kept (t' := tk) fun b o e => Heap.get?_push_of_some _ e, turn_range _ lo (hi - lo).toNat, ?_, fun b hb => ?_, q⟩
 · have e1 : lo + ((0 : Nat) : Int) * 1 = lo := by simp
   have e2 : (((hi - lo).toNat : Nat) : Int) - ((0 : Nat) : Int) = Builtin.Range.rangeSize lo hi 1 := by rw [rangeSize_one]; split <;> omega
   show IsRangeIter _ _ (lo + ((0 : Nat) : Int) * 1) ((((hi - lo).toNat : Nat) : Int) - ((0 : Nat) : Int)) 1
   rw [e1, e2]
   exact Heap.get?_push_size _ rfl
 · have e : b = (s.heap.push { cls := .type "range", data := .fields #[.int lo t, .int hi u, .int 1 v] }).objs.size := by simpa using hb
   subst e
   exact I1.fpOk (Nat.le_refl _) (I1.hok.fresh (Nat.le_refl _))
def iRng1 (ta : TA) : TI := fun σ H R => ta σ H fun vs H1 => ∃ j : Int, vs = [.int j] ∧ -(2 ^ 62) ≤ j ∧ j < 2 ^ 62 ∧ R (Itr 0 j.toNat) H1
theorem zu1 {a : Expr} {ta : TA} {p pos : Pos} (hg : Gl X "range") (hm : X.mg "range" = none) (ha : PA X [a] ta) (hs : starEach [a] X.env = [(false, eval a X.env)] := by rfl) : PI X tg (.Call (.Name "range" p) [a] [] pos) (iRng1 ta) := by
 intro pins s σ H R I h
 refine Call_ (yc4 I hg hm boot_range (PyProof.Rows.callWith_type1 (thn (ha pos pins s σ H _ I h) fun us s1 hq0 => ?_) hs rfl))
 obtain ⟨vs, H1, I1, r1, q1⟩ := hq0
 obtain ⟨j, e, q1, q2, q⟩ := q1
 subst e
 cases r1 with
 | cons r rr =>
  cases rr
  obtain ⟨t, rfl⟩ := r
  exact call_range_1 (range_it I1 (by omega) (by omega) q1 q2 (by simpa using q))
def tFor (wi : TI) (g : TG) (tb : TS) : TS := fun D σ H => wi σ H fun J H1 => ∃ W : Nat → Nat → St → Hp → Prop, (∃ m, W 0 m σ H1) ∧ ∀ i m σ H, W i m σ H →
 (J.stop i H ∧ D.nx σ H) ∨ (J.go i H ∧ ∃ N : St → Hp → Prop, (∀ σ' H', N σ' H' → ∃ m', m' < m ∧ W (i + 1) m' σ' H') ∧ ∀ x H', J.yld i H x H' → g x σ H' fun σ2 H2 => tb { D with nx := N, ct := N, bk := D.nx } σ2 H2)
def zz1 (fp : List Addr) (h : Heap) : List (Addr × Obj) := fp.filterMap fun b => (h.get? b).map fun o => (b, o)
theorem zs4 {fp : List Addr} {h : Heap} {b : Addr} {o : Obj} (hb : b ∈ fp) (e : h.get? b = some o) : (b, o) ∈ zz1 fp h := List.mem_filterMap.mpr ⟨b, hb, by rw [e]; rfl⟩
theorem of_pinsAt {fp : List Addr} {h : Heap} {p : Addr × Obj} (hp : p ∈ zz1 fp h) : p.1 ∈ fp ∧ h.get? p.1 = some p.2 := by
 obtain ⟨b, hb, e⟩ := List.mem_filterMap.mp hp
 cases q : h.get? b with
 | none => rw [q] at e; cases e
 | some o =>
  rw [q] at e
  have e' : (b, o) = p := Option.some.inj e
  subst e'
  exact ⟨hb, q⟩
theorem Inv.pinned {pins : List (Addr × Obj)} {σ : St} {H : Hp} {s : Shared} {fp : List Addr} (I : Inv X pins σ H s) (hf : ∀ b ∈ fp, FpOk X pins H b) (ho : ∀ b ∈ fp, ∃ o, s.heap.get? b = some o ∧ ∀ v, o.data ≠ .cell v) : Inv X (pins ++ zz1 fp s.heap) σ H s :=
 I.pins_of fun p hp => (List.mem_append.mp hp).elim (fun z => I.pin p (List.mem_append_right _ z)) fun z => by
  obtain ⟨hb, e⟩ := of_pinsAt z
  obtain ⟨f0, f1, f2, _⟩ := hf p.1 hb
  obtain ⟨o, e', d⟩ := ho p.1 hb
  rw [e] at e'; cases e'
  exact ⟨e, f0, f1, f2, d⟩
theorem Inv.unpinned {pins pl : List (Addr × Obj)} {σ : St} {H : Hp} {s : Shared} (I : Inv X (pins ++ pl) σ H s) : Inv X pins σ H s := I.pins_of fun p hp => I.pin p (List.mem_append_right _ (List.mem_append_left _ hp))
theorem zl8 {iter : Expr} {body : List Stmt} {wi : TI} {g : TG} {tb : TS} {pos : Pos} (hp : PassesOwn (model X.prog X.w) X.A X.env X.xe) (hc : X.calm = true) (hi : PI X tg iter wi) (hg : PG X tg g) (hb : PSs X body tb)
 (hs : ∀ x, foldedSetIterable iter X.env x = pure x := by intro _; rfl) : PS X (.For tg iter body [] pos) (tFor wi g tb) := by
 intro pins s σ H D I h
 refine wpAny_For (thn (hi pins s σ H _ I h) fun v s1 h1 => thn h1 fun itv s2 h2 => ?_) hs
 obtain ⟨it, fp, tn, J, H2, e, I2, T, st2, f2, W, ⟨m0, w0⟩, turn⟩ := h2
 subst e
 have stat : ∀ {H' : Hp}, (∀ b ∈ fp, H' b = none) → ∀ b ∈ fp, FpOk X pins H' b := fun hn b hb => ⟨hn b hb, (f2 b hb).2⟩
 refine codeAny_forLoop_any (fun n s' => ∃ i σ' H', Inv X pins σ' H' s' ∧ tn i s'.heap ∧ (∀ b ∈ fp, H' b = none) ∧ W i n σ' H') ?_ m0 ⟨0, σ, H2, I2, st2, fun b hb => (f2 b hb).1, w0⟩
 rintro n s3 ⟨i, σ3, H3, I3, st3, fr3, w3⟩
 rcases turn i n σ3 H3 w3 with ⟨stop, qn⟩ | ⟨go, N, hN, step⟩
 · refine wpAny_passesOwn hp (thn (T.done X rfl rfl rfl hc i pins s3 σ3 H3 X.xe I3 (stat fr3) st3 stop) fun r s4 ⟨hr, I4⟩ => ?_)
   subst hr
   exact wpAny_execs_nil ⟨σ3, H3, I4, qn⟩
 · refine wpAny_passesOwn hp (thn (T.item X rfl rfl rfl hc i pins s3 σ3 H3 X.xe I3 (stat fr3) st3 go) fun r s4 ⟨u, hr, h4⟩ => ?_)
   subst hr
   refine wpAny_passesOwn hp (thn h4 fun _ s5 hq0 => ?_)
   obtain ⟨x, H5, I5, r5, y5, st5, fr5⟩ := hq0
   have I5' := I5.pinned (stat fr5) (T.obj _ _ st5)
   refine wpAny_passesOwn hp (thn (hg _ s5 σ3 H5 x u _ I5' r5 (step x H5 y5)) fun _ s6 hq0 => ?_)
   obtain ⟨σ6, H6, I6, q6⟩ := hq0
   refine wpAny_passesOwn hp (thn (hb _ s6 σ6 H6 _ I6 q6) fun f s7 q7 => ?_)
   have again : ∀ {σ7 : St} {H7 : Hp}, Inv X (pins ++ zz1 fp s5.heap) σ7 H7 s7 → N σ7 H7 → ∃ m, m < n ∧ ∃ i σ' H', Inv X pins σ' H' s7 ∧ tn i s7.heap ∧ (∀ b ∈ fp, H' b = none) ∧ W i m σ' H' := fun {σ7 H7} I7 n7 => by
    obtain ⟨m', hm, w7⟩ := hN σ7 H7 n7
    refine ⟨m', hm, i + 1, σ7, H7, I7.unpinned, T.keep _ _ _ st5 fun b hb o e => (I7.pin (b, o) (List.mem_append_right _ (List.mem_append_right _ (zs4 hb e)))).1, fun b hb => ?_, w7⟩
    obtain ⟨o, e, d⟩ := T.obj _ _ st5 b hb
    exact (I7.pin (b, o) (List.mem_append_right _ (List.mem_append_right _ (zs4 hb e)))).2.1
   cases f with
   | next => obtain ⟨σ7, H7, I7, n7⟩ := q7; exact again I7 n7
   | cont => obtain ⟨σ7, H7, I7, n7⟩ := q7; exact again I7 n7
   | brk => obtain ⟨σ7, H7, I7, q7⟩ := q7; exact ⟨σ7, H7, I7.unpinned, q7⟩
   | ret v => obtain ⟨x7, σ7, H7, I7, r7, q7⟩ := q7; exact ⟨x7, σ7, H7, I7.unpinned, r7, q7⟩
end
end L2
namespace L2
open PySem PySem.Spec PyProof.Rows
abbrev R2 := V → V → Hp → VK → Prop
def OpR (X : Cx) (f : Value → Value → Sem Value) (r : R2) : Prop :=
 ∀ (pins : List (Addr × Obj)) (s : Shared) (σ : St) (H : Hp) (x y : V) (v u : Value) (Q : VK), Inv X pins σ H s → RelV x v → RelV y u → r x y H Q →
  wpAny (model X.prog X.w) X.A (f v u) (EP X pins σ Q) X.xe s
def UnR (X : Cx) (f : Value → Sem Value) (r : V → Hp → VK → Prop) : Prop :=
 ∀ (pins : List (Addr × Obj)) (s : Shared) (σ : St) (H : Hp) (x : V) (v : Value) (Q : VK), Inv X pins σ H s → RelV x v → r x H Q →
  wpAny (model X.prog X.w) X.A (f v) (EP X pins σ Q) X.xe s
def CallR (X : Cx) (f : Value) (r : List V → Hp → VK → Prop) : Prop :=
 ∀ (pins : List (Addr × Obj)) (s : Shared) (σ : St) (H : Hp) (xs : List V) (us : List Value) (Q : VK), Inv X pins σ H s → Vals xs us → r xs H Q →
  wpAny (model X.prog X.w) X.A (call f us) (EP X pins σ Q) X.xe s
def TruR (X : Cx) (r : V → Hp → (Bool → Hp → Prop) → Prop) : Prop :=
 ∀ (pins : List (Addr × Obj)) (s : Shared) (σ : St) (H : Hp) (x : V) (v : Value) (Q : Bool → Hp → Prop), Inv X pins σ H s → RelV x v → r x H Q →
  wpAny (model X.prog X.w) X.A (truthy v) (TP X pins σ Q) X.xe s
def tOp (r : R2) (ta tb : TE) : TE := fun σ H Q => ta σ H fun x H1 => tb σ H1 fun y H2 => r x y H2 Q
def tUn (r : V → Hp → VK → Prop) (ta : TE) : TE := fun σ H Q => ta σ H fun x H1 => r x H1 Q
def rI (C : Int → Int → Prop) (g : Int → Int → V) : R2 := fun x y H Q => ∃ i j, x = .int i ∧ y = .int j ∧ C i j ∧ Q (g i j) H
def rI0 (g : Int → Int → V) : R2 := fun x y H Q => ∃ i j, x = .int i ∧ y = .int j ∧ Q (g i j) H
def rU (g : Int → V) : V → Hp → VK → Prop := fun x H Q => ∃ i, x = .int i ∧ Q (g i) H
section
variable {X : Cx} {a b c : Expr} {ta tb tc : TE} {pos : Pos}
theorem binT (ha : PE X a ta) (hb : PE X b tb) {pins : List (Addr × Obj)} {s : Shared} {σ : St} {H : Hp} {R : V → V → Hp → Prop} (I : Inv X pins σ H s)
 (h : ta σ H fun x H1 => tb σ H1 fun y H2 => R x y H2) {Q : Value → Shared → Prop} {f : Value → Value → Sem Value}
 (hf : ∀ v u s2 x y H2, Inv X pins σ H2 s2 → RelV x v → RelV y u → R x y H2 → wpAny (model X.prog X.w) X.A (f v u) Q X.xe s2) :
 wpAny (model X.prog X.w) X.A (eval a X.env) (fun v s₁ => wpAny (model X.prog X.w) X.A (eval b X.env) (fun u s₂ => wpAny (model X.prog X.w) X.A (f v u) Q X.xe s₂) X.xe s₁) X.xe s := by
 refine thn (ha pins s σ H _ I h) fun v s1 hq0 => ?_
 obtain ⟨x, H1, I1, r1, q1⟩ := hq0
 refine thn (hb pins s1 σ H1 _ I1 q1) fun u s2 hq0 => ?_
 obtain ⟨y, H2, I2, r2, q2⟩ := hq0
 exact hf v u s2 x y H2 I2 r1 r2 q2
theorem pe_op {op : Operator} {r : R2} (ho : OpR X (binaryOp op) r) (ha : PE X a ta) (hb : PE X b tb) : PE X (.BinOp a op b pos) (tOp r ta tb) := by
 intro pins s σ H Q I h
 exact wpAny_BinOp (binT ha hb I h fun v u s2 x y H2 I2 rx ry q => ho pins s2 σ H2 x y v u Q I2 rx ry q)
theorem pe_un {op : UnaryOp} {r : V → Hp → VK → Prop} (ho : UnR X (unaryOp op) r) (ha : PE X a ta) : PE X (.UnaryOp op a pos) (tUn r ta) := by
 intro pins s σ H Q I h
 exact UnaryOp_ (thn (ha pins s σ H _ I h) fun v s1 ⟨x, H1, I1, r1, q1⟩ => ho pins s1 σ H1 x v Q I1 r1 q1)
theorem opI {f : Value → Value → Sem Value} {C : Int → Int → Prop} {g : Int → Int → Int}
 (rule : ∀ (i j : Int) (t u : Tok) (s : Shared) (Q : Value → Shared → Prop) (E : Value → Shared → Prop), C i j → Q (.int (g i j) s.toks) { s with toks := s.toks + 1 } → wpAny (model X.prog X.w) X.A (f (.int i t) (.int j u)) Q E s) :
 OpR X f (rI C fun i j => .int (g i j)) := by
 intro pins s σ H x y v u Q I rx ry h
 obtain ⟨i, j, rfl, rfl, hc, q⟩ := h
 obtain ⟨t, rfl⟩ := rx
 obtain ⟨t', rfl⟩ := ry
 exact rule i j t t' s _ _ hc ⟨.int (g i j), H, I.tok _, ⟨_, rfl⟩, q⟩
theorem opI0 {f : Value → Value → Sem Value} {g : Int → Int → Int}
 (rule : ∀ (i j : Int) (t u : Tok) (s : Shared) (Q : Value → Shared → Prop) (E : Value → Shared → Prop), Q (.int (g i j) s.toks) { s with toks := s.toks + 1 } → wpAny (model X.prog X.w) X.A (f (.int i t) (.int j u)) Q E s) :
 OpR X f (rI0 fun i j => .int (g i j)) := by
 intro pins s σ H x y v u Q I rx ry h
 obtain ⟨i, j, rfl, rfl, q⟩ := h
 obtain ⟨t, rfl⟩ := rx
 obtain ⟨t', rfl⟩ := ry
 exact rule i j t t' s _ _ ⟨.int (g i j), H, I.tok _, ⟨_, rfl⟩, q⟩
theorem opB0 {f : Value → Value → Sem Value} {g : Int → Int → Bool}
 (rule : ∀ (i j : Int) (t u : Tok) (s : Shared) (Q : Value → Shared → Prop) (E : Value → Shared → Prop), Q (.bool (g i j)) s → wpAny (model X.prog X.w) X.A (f (.int i t) (.int j u)) Q E s) :
 OpR X f (rI0 fun i j => .bl (g i j)) := by
 intro pins s σ H x y v u Q I rx ry h
 obtain ⟨i, j, rfl, rfl, q⟩ := h
 obtain ⟨t, rfl⟩ := rx
 obtain ⟨t', rfl⟩ := ry
 exact rule i j t t' s _ _ ⟨.bl (g i j), H, I, rfl, q⟩
def CPow (i j : Int) : Prop := 0 ≤ j ∧ j ≤ 1000000 ∧ i.natAbs < 2 ^ 64
def CMul (i j : Int) : Prop := (-(2 ^ 64) < i ∧ i < 2 ^ 64) ∨ (-(2 ^ 64) < j ∧ j < 2 ^ 64)
theorem CMul.ok {i j : Int} (h : CMul i j) : IntMulOk i j := by
 rcases h with ⟨h1, h2⟩ | ⟨h1, h2⟩
 · exact .of_left (intBits_le_64 h1 h2)
 · exact .of_right (intBits_le_64 h1 h2)
theorem op_add : OpR X (binaryOp .Add) (rI0 fun i j => .int (i + j)) := opI0 fun _ _ _ _ _ _ _ q => add_int q
theorem ye6 : OpR X (binaryOp .Sub) (rI0 fun i j => .int (i - j)) := opI0 fun _ _ _ _ _ _ _ q => sub_int q
theorem op_mul : OpR X (binaryOp .Mult) (rI CMul fun i j => .int (i * j)) := opI fun _ _ _ _ _ _ _ hc q => mul_int q hc.ok
theorem op_modN : OpR X (binaryOp .Mod) (rI (fun _ j => j ≠ 0) fun i j => .int (i.fmod j)) := opI fun _ _ _ _ _ _ _ hc q => mod_int' hc q
theorem op_pow : OpR X (binaryOp .Pow) (rI CPow fun i j => .int (i ^ j.toNat)) := opI fun _ _ _ _ _ _ _ hc q => pow_int_small hc.1 hc.2.1 hc.2.2 q
theorem unI {f : Value → Sem Value} {g : Int → Int}
 (rule : ∀ (i : Int) (t : Tok) (s : Shared) (Q : Value → Shared → Prop) (E : Value → Shared → Prop), Q (.int (g i) s.toks) { s with toks := s.toks + 1 } → wpAny (model X.prog X.w) X.A (f (.int i t)) Q E s) :
 UnR X f (rU fun i => .int (g i)) := by
 intro pins s σ H x v Q I rx h
 obtain ⟨i, rfl, q⟩ := h
 obtain ⟨t, rfl⟩ := rx
 exact rule i t s _ _ ⟨.int (g i), H, I.tok _, ⟨_, rfl⟩, q⟩
theorem un_neg : UnR X (unaryOp .USub) (rU fun i => .int (-i)) := unI fun _ _ _ _ _ q => neg_int q
end
def scal : V → V → Bool
 | .non, .non => true | .non, .int _ => true | .int _, .non => true | .non, .bl _ => true | .bl _, .non => true | .non, .str _ => true | .str _, .non => true
 | .int _, .int _ => true | .bl _, .bl _ => true | .str _, .str _ => true | .byt _, .byt _ => true
 | .int _, .str _ => true | .str _, .int _ => true | .bl _, .str _ => true | .str _, .bl _ => true
 | _, _ => false
def rEq : R2 := fun x y H Q => scal x y = true ∧ Q (.bl (decide (x = y))) H
def rNe : R2 := fun x y H Q => scal x y = true ∧ Q (.bl (!decide (x = y))) H
theorem dec_int {i j : Int} : decide (V.int i = V.int j) = (i == j) := by
 rw [Bool.eq_iff_iff]
 simp
theorem dec_bl {i j : Bool} : decide (V.bl i = V.bl j) = (i == j) := by
 rw [Bool.eq_iff_iff]
 simp
theorem dec_str {i j : Str} : decide (V.str i = V.str j) = (i == j) := by
 rw [Bool.eq_iff_iff]
 simp
theorem dec_byt {i j : Array UInt8} : decide (V.byt i = V.byt j) = (i.toList == j.toList) := by
 rw [Bool.eq_iff_iff]
 cases i
 cases j
 simp
section
variable {X : Cx} {a b c : Expr} {ta tb tc : TE} {pos : Pos}
theorem zg2 {pins : List (Addr × Obj)} {σ : St} {H : Hp} {s : Shared} {Q : VK} {k k' : Bool} (I : Inv X pins σ H s) (q : Q (.bl k) H) (e : k = k') : EP X pins σ Q (.bool k') s := by
 subst e
 exact ⟨.bl k, H, I, rfl, q⟩
theorem op_eq : OpR X (compareOp .Eq) rEq := by
 intro pins s σ H x y v u Q I rx ry h
 obtain ⟨hs, q⟩ := h
 cases x with
 | non =>
  cases rx
  cases y with
  | non => cases ry; exact PySem.EqNone.eq_none_none (zg2 I q (by simp))
  | bl j => cases ry; exact PySem.EqNone.eq_none_bool (zg2 I q (by simp))
  | int j => obtain ⟨t', rfl⟩ := ry; exact PySem.EqNone.eq_none_int (zg2 I q (by simp))
  | str j => obtain ⟨t', rfl⟩ := ry; exact PySem.EqNone.eq_none_str (zg2 I q (by simp))
  | _ => exact absurd (show false = true from hs) Bool.false_ne_true
 | bl i =>
  cases rx
  cases y with
  | non => cases ry; exact PySem.EqNone.eq_bool_none (zg2 I q (by simp))
  | bl j => cases ry; exact eq_bool (zg2 I q dec_bl)
  | str j => obtain ⟨t', rfl⟩ := ry; exact PySem.EqMixed.eq_bool_str (zg2 I q (by simp))
  | _ => exact absurd (show false = true from hs) Bool.false_ne_true
 | int i =>
  obtain ⟨t, rfl⟩ := rx
  cases y with
  | non => cases ry; exact PySem.EqNone.eq_int_none (zg2 I q (by simp))
  | int j => obtain ⟨t', rfl⟩ := ry; exact eq_int (zg2 I q dec_int)
  | str j => obtain ⟨t', rfl⟩ := ry; exact PySem.EqMixed.eq_int_str (zg2 I q (by simp))
  | _ => exact absurd (show false = true from hs) Bool.false_ne_true
 | str i =>
  obtain ⟨t, rfl⟩ := rx
  cases y with
  | non => cases ry; exact PySem.EqNone.eq_str_none (zg2 I q (by simp))
  | bl j => cases ry; exact PySem.EqMixed.eq_str_bool (zg2 I q (by simp))
  | int j => obtain ⟨t', rfl⟩ := ry; exact PySem.EqMixed.eq_str_int (zg2 I q (by simp))
  | str j => obtain ⟨t', rfl⟩ := ry; exact eq_str (zg2 I q dec_str)
  | _ => exact absurd (show false = true from hs) Bool.false_ne_true
 | byt i =>
  obtain ⟨t, rfl⟩ := rx
  cases y with
  | byt j => obtain ⟨t', rfl⟩ := ry; exact PySem.W.eq_bytes (zg2 I q dec_byt)
  | _ => exact absurd (show false = true from hs) Bool.false_ne_true
 | _ => cases y <;> exact absurd (show false = true from hs) Bool.false_ne_true
theorem op_ne : OpR X (compareOp .NotEq) rNe := by
 intro pins s σ H x y v u Q I rx ry h
 obtain ⟨hs, q⟩ := h
 cases x with
 | non =>
  cases rx
  cases y with
  | non => cases ry; exact PySem.EqNone.ne_none_none (zg2 I q (by simp))
  | bl j => cases ry; exact PySem.EqNone.ne_none_bool (zg2 I q (by simp))
  | int j => obtain ⟨t', rfl⟩ := ry; exact PySem.EqNone.ne_none_int (zg2 I q (by simp))
  | str j => obtain ⟨t', rfl⟩ := ry; exact PySem.EqNone.ne_none_str (zg2 I q (by simp))
  | _ => exact absurd (show false = true from hs) Bool.false_ne_true
 | bl i =>
  cases rx
  cases y with
  | non => cases ry; exact PySem.EqNone.ne_bool_none (zg2 I q (by simp))
  | bl j => cases ry; exact ne_bool (zg2 I q (congrArg not dec_bl))
  | str j => obtain ⟨t', rfl⟩ := ry; exact PySem.EqMixed.ne_bool_str (zg2 I q (by simp))
  | _ => exact absurd (show false = true from hs) Bool.false_ne_true
 | int i =>
  obtain ⟨t, rfl⟩ := rx
  cases y with
  | non => cases ry; exact PySem.EqNone.ne_int_none (zg2 I q (by simp))
  | int j => obtain ⟨t', rfl⟩ := ry; exact ne_int (zg2 I q (congrArg not dec_int))
  | str j => obtain ⟨t', rfl⟩ := ry; exact PySem.EqMixed.ne_int_str (zg2 I q (by simp))
  | _ => exact absurd (show false = true from hs) Bool.false_ne_true
 | str i =>
  obtain ⟨t, rfl⟩ := rx
  cases y with
  | non => cases ry; exact PySem.EqNone.ne_str_none (zg2 I q (by simp))
  | bl j => cases ry; exact PySem.EqMixed.ne_str_bool (zg2 I q (by simp))
  | int j => obtain ⟨t', rfl⟩ := ry; exact PySem.EqMixed.ne_str_int (zg2 I q (by simp))
  | str j => obtain ⟨t', rfl⟩ := ry; exact ne_str (zg2 I q (congrArg not dec_str))
  | _ => exact absurd (show false = true from hs) Bool.false_ne_true
 | byt i =>
  obtain ⟨t, rfl⟩ := rx
  cases y with
  | byt j => obtain ⟨t', rfl⟩ := ry; exact PySem.W.ne_bytes (zg2 I q (congrArg not dec_byt))
  | _ => exact absurd (show false = true from hs) Bool.false_ne_true
 | _ => cases y <;> exact absurd (show false = true from hs) Bool.false_ne_true
theorem op_lt : OpR X (compareOp .Lt) (rI0 fun i j => .bl (decide (i < j))) := opB0 fun _ _ _ _ _ _ _ q => lt_int q
theorem op_gt : OpR X (compareOp .Gt) (rI0 fun i j => .bl (decide (j < i))) := opB0 fun _ _ _ _ _ _ _ q => gt_int q
theorem op_ge : OpR X (compareOp .GtE) (rI0 fun i j => .bl (decide (j ≤ i))) := opB0 fun _ _ _ _ _ _ _ q => ge_int q
theorem op_isN : OpR X (compareOp .Is) (fun x y H Q => y = .non ∧ Q (.bl (decide (x = .non))) H) := by
 intro pins s σ H x y v u Q I rx ry h
 obtain ⟨rfl, q⟩ := h
 cases ry
 refine is_none_gen (zg2 I q ?_)
 cases x <;> first
  | (cases rx; rfl)
  | (obtain ⟨t, rfl⟩ := rx; rfl)
theorem op_notN : OpR X (compareOp .IsNot) (fun x y H Q => y = .non ∧ Q (.bl (!decide (x = .non))) H) := by
 intro pins s σ H x y v u Q I rx ry h
 obtain ⟨rfl, q⟩ := h
 cases ry
 refine isnot_none_gen (zg2 I q ?_)
 cases x <;> first
  | (cases rx; rfl)
  | (obtain ⟨t, rfl⟩ := rx; rfl)
theorem OpR.or {f : Value → Value → Sem Value} {r r' : R2} (h : OpR X f r) (h' : OpR X f r') : OpR X f (fun x y H Q => r x y H Q ∨ r' x y H Q) := by
 intro pins s σ H x y v u Q I rx ry q
 rcases q with q | q
 · exact h pins s σ H x y v u Q I rx ry q
 · exact h' pins s σ H x y v u Q I rx ry q
theorem zd6 (b : Expr) {op : CmpOp} (h : op ≠ .In := by decide) (h2 : op ≠ .NotIn := by decide) : behindInMarks op b = false := by
 have e1 : (op == CmpOp.In) = false := by cases op <;> first | rfl | exact absurd rfl h
 have e2 : (op == CmpOp.NotIn) = false := by cases op <;> first | rfl | exact absurd rfl h2
 cases b <;> simp [behindInMarks, e1, e2]
theorem ya9 {op : CmpOp} {r : R2} (ho : OpR X (compareOp op) r) (ha : PE X a ta) (hb : PE X b tb) (hm : behindInMarks op b = false) : PE X (.Compare a [op] [b] pos) (tOp r ta tb) := by
 intro pins s σ H Q I h
 exact wpAny_Compare1 (binT ha hb I h fun v u s2 x y H2 I2 rx ry q => ho pins s2 σ H2 x y v u Q I2 rx ry q) hm
def tTest (t : TE) : TT := fun σ H Q => t σ H fun x H' => ∃ k, x = .bl k ∧ Q k H'
theorem zb8 {op : CmpOp} {r : R2} (ho : OpR X (compareOp op) r) (ha : PE X a ta) (hb : PE X b tb) (hm : behindInMarks op b = false) : PT X (.Compare a [op] [b] pos) (tTest (tOp r ta tb)) := by
 intro pins s σ H Q I h
 refine wpAny_isTrue_Compare1 (thn (ha pins s σ H _ I h) fun v s1 ⟨x, H1, I1, r1, q1⟩ => thn (hb pins s1 σ H1 _ I1 q1) fun u s2 ⟨y, H2, I2, r2, q2⟩ =>
  thn (ho pins s2 σ H2 x y v u _ I2 r1 r2 q2) fun c s3 ⟨z, H3, I3, r3, k, e, q3⟩ => ?_) hm
 subst e
 cases r3
 exact wpAny_truthy_bool ⟨H3, I3, q3⟩
def TruV (K : PySem.W.Frag) (x : V) (H : Hp) (k : Bool) : Prop :=
 match x with
 | .non => k = false
 | .bl b => k = b
 | .int i => k = (i != 0)
 | .str y => y.length ≤ sizeLine ∧ k = ((y.length : Int) != 0)
 | .byt y => y.size ≤ sizeLine ∧ k = ((y.size : Int) != 0)
 | .ref p => (∃ xs, SqL K H p xs ∧ k = !xs.isEmpty) ∨ (∃ xs, SqT K H p xs ∧ k = !xs.isEmpty) ∨ ∃ kvs, H p = some (.dK kvs) ∧ k = !kvs.isEmpty
 | _ => False
theorem isEmpty_kv {κ : Type} {kvs : List (κ × V)} {vs : List (κ × Value)} (r : KV kvs vs) : (!vs.isEmpty) = !kvs.isEmpty := by
 cases r <;> rfl
theorem isEmpty_of {xs : List V} {its : List Value} (r : Vals xs its) : (!its.toArray.isEmpty) = !xs.isEmpty := by
 cases r <;> simp
theorem zy8 : (sizeLine : Nat) < 2 ^ 63 := by rw [sizeLine_eq]; decide
theorem tru_ok : TruR X (fun x H Q => ∃ k, TruV X.K x H k ∧ Q k H) := by
 intro pins s σ H x v Q I rx h
 obtain ⟨k, e, q⟩ := h
 have hl := zy8
 have hs : sizeLine = 16777216 := sizeLine_eq
 cases x with
 | non =>
  cases rx
  have e' : k = false := e
  subst e'
  exact truthy_none ⟨H, I, q⟩
 | bl b =>
  cases rx
  have e' : k = b := e
  subst e'
  exact wpAny_truthy_bool ⟨H, I, q⟩
 | int i =>
  obtain ⟨t, rfl⟩ := rx
  have e' : k = (i != 0) := e
  subst e'
  exact PySem.P.truthy_int ⟨H, I, q⟩
 | str y =>
  obtain ⟨t, rfl⟩ := rx
  obtain ⟨hy, e'⟩ : y.length ≤ sizeLine ∧ k = ((y.length : Int) != 0) := e
  subst e'
  exact PySem.P.truthy_str (by omega) ⟨H, I.tok _, q⟩
 | byt y =>
  obtain ⟨t, rfl⟩ := rx
  obtain ⟨hy, e'⟩ : y.size ≤ sizeLine ∧ k = ((y.size : Int) != 0) := e
  subst e'
  exact PySem.W.truthy_bytes (by omega) ⟨H, I.tok _, q⟩
 | ref p =>
  cases rx
  have e' : (∃ xs, SqL X.K H p xs ∧ k = !xs.isEmpty) ∨ (∃ xs, SqT X.K H p xs ∧ k = !xs.isEmpty) ∨ ∃ kvs, H p = some (.dK kvs) ∧ k = !kvs.isEmpty := e
  rcases e' with ⟨xs, hx, e'⟩ | ⟨xs, hx, e'⟩ | ⟨kvs, hx, e'⟩
  · subst e'
    obtain ⟨its, r, pl, hz⟩ := I.list hx
    have hlen := r.length
    exact wpAny_truthy_list pl.isList (by simp only [List.size_toArray]; omega) ⟨H, I.tok _, by rw [isEmpty_of r]; exact q⟩
  · subst e'
    obtain ⟨its, r, pl, hz⟩ := I.tuple hx
    have hlen := r.length
    exact truthy_tuple pl (by simp only [List.size_toArray]; omega) ⟨H, I.tok _, by rw [isEmpty_of r]; exact q⟩
  · subst e'
    obtain ⟨hz, hS, vs, r, m⟩ : kvs.length ≤ sizeLine ∧ (p == sysModules) = false ∧ ∃ vs, KV kvs vs ∧ s.heap.DictOf (zg5 X.prog X.w) p vs := I.hok p _ hx
    have hlen : kvs.length = vs.length := Paired.length r
    exact wpAny_truthy_dict hS m (by omega) ⟨H, I.tok _, by rw [isEmpty_kv r]; exact q⟩
 | _ => exact (show False from e).elim
theorem pt_truth (ha : PE X a ta) (he : ∀ whole, isTrue a X.env whole = (do let v ← whole; standAt a.pos; holding [v] (truthy v))) :
 PT X a (fun σ H Q => ta σ H fun x H' => ∃ k, TruV X.K x H' k ∧ Q k H') := by
 intro pins s σ H Q I h
 exact isTrue_plain (thn (ha pins s σ H _ I h) fun v s1 ⟨x, H1, I1, r1, q1⟩ => tru_ok pins s1 σ H1 x v Q I1 r1 q1) (he _)
theorem op_add_str : OpR X (binaryOp .Add) (fun x y H Q => ∃ i j, x = .str i ∧ y = .str j ∧ i.length + j.length ≤ sizeLine ∧ Q (.str (i ++ j)) H) := by
 intro pins s σ H x y v u Q I rx ry h
 obtain ⟨i, j, rfl, rfl, hz, q⟩ := h
 obtain ⟨t, rfl⟩ := rx
 obtain ⟨t', rfl⟩ := ry
 exact add_str (fun t' tk => ⟨.str (i ++ j), H, I.tok _, ⟨_, rfl⟩, q⟩) hz
theorem vals1 {x : V} {us : List Value} (r : Vals [x] us) : ∃ u, us = [u] ∧ RelV x u := by
 cases r with
 | cons r1 r2 => cases r2; exact ⟨_, rfl, r1⟩
end
end L2
namespace L2
open PySem PySem.Spec PyProof.Rows
structure ObjM (h : Heap) (x dx C : Addr) (mA : Str → Option Value) : Prop where
 obj : h.get? x = some (PySem.W.instObj C dx)
 ns : h.Ns1 dx mA
 ne : dx ≠ x
theorem lookIn_ns {h : Heap} {dx : Addr} {mA : Str → Option Value} (n : h.Ns1 dx mA) : ∃ od, h.get? dx = some od ∧ ∀ name, PySem.W.lookIn name od = some (mA name) := by
 obtain ⟨o, es, ep, ho, hd, hk, _, hm⟩ := n
 refine ⟨o, ho, fun name => ?_⟩
 have e := hm name
 unfold nsFind findBy at e
 rw [← Array.find?_toList] at e
 unfold PySem.W.lookIn
 rw [hd]
 dsimp only
 split
 · rename_i y q
   rw [q] at e
   exact congrArg some e
 · rename_i q
   rw [q] at e
   have a : es.toList.any (·.refKey) = false := by
    rw [List.any_eq_false]
    intro y hy
    obtain ⟨z, t, hkey⟩ := hk y (Array.mem_toList_iff.mp hy)
    simp [DictEntry.refKey, hkey]
   have a' : ¬ es.toList.any (·.refKey) = true := by rw [a]; exact Bool.false_ne_true
   rw [if_neg a']
   exact congrArg some e
theorem ObjM.look {h : Heap} {x dx C : Addr} {mA : Str → Option Value} (I : ObjM h x dx C mA) : ∃ od, PySem.W.InstAt h x (PySem.W.instObj C dx) C (some od) ∧ ∀ name, PySem.W.lookIn name od = some (mA name) :=
 let ⟨od, ho, hl⟩ := lookIn_ns I.ns
 ⟨od, ⟨I.obj, rfl, rfl, ho⟩, hl⟩
section
variable {prog : Program} {w : World} {A : Around} {E : Value → Shared → Prop} {s : Shared} {K : PySem.W.Frag} {x dx C f : Addr} {mA : Str → Option Value} {name : Str} {v : Value}
theorem get_map {expr : Bool} {Q : Value → Shared → Prop} (X : K.In s.heap) (I : ObjM s.heap x dx C mA) (hg : PySem.W.plainGet K C name = true) (hh : PySem.W.hasDictIn K C = true)
 (ha : PySem.W.findIn K (.ref C) name = some none) (hv : mA name = some v) (hv' : PySem.W.handedIn v = true) (h : Q v { s with toks := s.toks + 1 }) :
 wpAny (model prog w) A (getAttr (.ref x) name expr) Q E s := by
 obtain ⟨od, J, hl⟩ := I.look
 exact PySem.W.get_value X J (PySem.W.plainGet_of hg).1 (PySem.W.findObj_own hh ha rfl (by rw [hl, hv])) hv' h
theorem get_meth {pl : Sem Bool} {Q : Value × List Value → Shared → Prop} (X : K.In s.heap) (I : ObjM s.heap x dx C mA) (hg : PySem.W.plainGet K C name = true)
 (hf : PySem.W.findIn K (.ref C) name = some (some (.ref f))) (ht : PySem.W.isFn K (.ref f) = true) (hv : mA name = none) (h : Q (.ref f, [.ref x]) s) :
 wpAny (model prog w) A (getMethod (.ref x) name pl) Q E s := by
 obtain ⟨od, J, hl⟩ := I.look
 exact PySem.W.method_fn X J (PySem.W.plainGet_of hg).1 (PySem.W.plainGet_of hg).2 hf (beq_iff_eq.mp ht) (by show (PySem.W.lookIn name od).map (·.isSome) = some false; rw [hl, hv]; rfl) h
theorem set_map {ns : List Str} {Q : Unit → Shared → Prop} (X : K.In s.heap) (I : ObjM s.heap x dx C mA)
 (hs : PySem.W.findIn K (.ref C) "__setattr__" = some (some (.builtin "object.__setattr__"))) (hp : PySem.W.plainOver K C = true) (ht : PySem.W.takerIn K C name = some none) (hh : PySem.W.hasDictIn K C = true)
 (hw : PySem.Within mA ns) (hsz : ns.length ≤ sizeLine)
 (h : ∀ h', ObjM h' x dx C (fun y => if y = name then some v else mA y) → Heap.SameBut dx s.heap h' → Q () { s with heap := h', toks := s.toks + 2 }) :
 wpAny (model prog w) A (setAttr (.ref x) name v) Q E s := by
 obtain ⟨od, J, hl⟩ := I.look
 refine PySem.W.set_plain X J hs (PySem.W.osa_open (s := { s with toks := s.toks + 1 }) (r := none) X J hp ht fun b => ?_)
 obtain ⟨cd, hc, hd'⟩ := PySem.W.any_some hh
 have hx : s.heap.get? x = some ⟨.ref C, some dx, .plain, #[]⟩ := I.obj
 refine wpAny_bind (wpAny_pure (wpAny_bind (wpAny_bind (wpAny_loadPart hx (wpAny_bind (PySem.W.Looks.here (s := { s with toks := s.toks + 1 }) (PySem.W.looks_clsIn X hc) ?_))))))
 rw [hd']
 refine wpAny_pure (a := some dx) (wpAny_bind (wpAny_pure (wpAny_bind ?_)))
 refine wpAny_nsSet1 (s := { s with toks := s.toks + 1 }) I.ns fun h' hn2 hs2 => ?_
 obtain ⟨oD, esD, epD, hoD, hdD, hcD⟩ := hn2.count (PySem.Within.cons name v hw)
 refine wpAny_bind (wpAny_lookBehind hoD (by rw [hdD]; exact pastItsLine_dict (Nat.le_trans hcD (by rw [List.length_cons]; omega))) ?_)
 exact wpAny_pure (h _ ⟨(hs2.2 _ (Ne.symm I.ne)).trans I.obj, hn2, I.ne⟩ hs2)
theorem make_map {R : Result → Shared → Prop} {vs : List Value} {kw : List (Str × Value)} (X : K.In s.heap) (hm : PySem.W.makesIn K C = true)
 (hi : PySem.W.findIn K (.ref C) "__init__" = some (some (.ref f))) (hf : PySem.W.typeIn K (.ref f) = some (.type "function"))
 (h : codeAny (model prog w) (A.under (.builtin "type.__call__" ⟨.ref C :: vs, kw⟩)) (.call (.ref f) ⟨.ref (s.heap.objs.size + 1) :: vs, kw⟩) (PySem.W.InitBack (s.heap.objs.size + 1) R)
  { s with heap := (s.heap.push PySem.W.emptyDict).push (PySem.W.instObj C s.heap.objs.size) }) :
 codeAny (model prog w) A (.call (.ref C) ⟨vs, kw⟩) R s := by
 obtain ⟨hh, g, d, t, os⟩ := s
 exact PySem.W.make_core (PySem.W.makes_of X hm) (PySem.W.looks_findIn X hi) (fun self => PySem.W.bind_fn X self hf) (.inl rfl) h
end
def putF (f : Str) (v : V) : List (Str × V) → List (Str × V)
 | [] => [(f, v)]
 | (g, x) :: r => if g = f then (g, v) :: r else (g, x) :: putF f v r
theorem lookup_putF (f g : Str) (v : V) : ∀ fs : List (Str × V), (putF f v fs).lookup g = if g = f then some v else fs.lookup g
 | [] => by
  show List.lookup g [(f, v)] = _
  by_cases h : g = f
  · have hb : (g == f) = true := beq_iff_eq.mpr h
    simp only [List.lookup, hb, if_pos h]
  · have hb : (g == f) = false := beq_eq_false_iff_ne.mpr h
    simp only [List.lookup, hb, if_neg h]
 | (k, x) :: r => by
  have ih := lookup_putF f g v r
  rw [show putF f v ((k, x) :: r) = (if k = f then (k, v) :: r else (k, x) :: putF f v r) from rfl]
  by_cases hk : k = f
  · rw [if_pos hk]
    by_cases h : g = k
    · have hb : (g == k) = true := beq_iff_eq.mpr h
      simp only [List.lookup, hb, if_pos (h.trans hk)]
    · have hb : (g == k) = false := beq_eq_false_iff_ne.mpr h
      simp only [List.lookup, hb, if_neg (fun e : g = f => h (e.trans hk.symm))]
  · rw [if_neg hk]
    by_cases h : g = k
    · have hb : (g == k) = true := beq_iff_eq.mpr h
      simp only [List.lookup, hb, if_neg (fun e : g = f => hk (h.symm.trans e))]
    · have hb : (g == k) = false := beq_eq_false_iff_ne.mpr h
      simp only [List.lookup, hb]
      exact ih
theorem zy6 (f : Str) (v : V) : ∀ fs : List (Str × V), f ∈ (putF f v fs).map (·.1) ∧ ∀ g, g ∈ fs.map (·.1) → g ∈ (putF f v fs).map (·.1)
 | [] => ⟨by simp [putF], fun g h => by simp at h⟩
 | (k, x) :: r => by
  obtain ⟨i1, i2⟩ := zy6 f v r
  rw [show putF f v ((k, x) :: r) = (if k = f then (k, v) :: r else (k, x) :: putF f v r) from rfl]
  by_cases hk : k = f
  · rw [if_pos hk]
    subst hk
    exact ⟨by simp, fun g h => by simpa using h⟩
  · rw [if_neg hk]
    refine ⟨?_, fun g h => ?_⟩
    · rw [List.map_cons]
      exact List.mem_cons_of_mem _ i1
    · rw [List.map_cons] at h ⊢
      rcases List.mem_cons.mp h with e | e
      · exact List.mem_cons.mpr (.inl e)
      · exact List.mem_cons_of_mem _ (i2 g e)
theorem length_putF (f : Str) (v : V) : ∀ fs : List (Str × V), (putF f v fs).length ≤ fs.length + 1
 | [] => by simp [putF]
 | (k, x) :: r => by
  have ih := length_putF f v r
  rw [show putF f v ((k, x) :: r) = (if k = f then (k, v) :: r else (k, x) :: putF f v r) from rfl]
  by_cases hk : k = f
  · rw [if_pos hk, List.length_cons, List.length_cons]; omega
  · rw [if_neg hk, List.length_cons, List.length_cons]; omega
theorem RelO.some_of {v : V} {o : Option Value} (r : RelO (some v) o) : ∃ u, o = some u ∧ RelV v u := by
 cases o with
 | none => exact (show False from r).elim
 | some u => exact ⟨u, rfl, r⟩
theorem RelO.none_of {o : Option Value} (r : RelO none o) : o = none := by
 cases o with
 | none => rfl
 | some u => exact (show False from r).elim
theorem handed_of {v : V} {u : Value} (r : RelV v u) : PySem.W.handedIn u = true := by
 cases v with
 | non => cases (show u = Value.none from r); rfl
 | bl b => cases (show u = Value.bool b from r); rfl
 | int i => obtain ⟨t, e⟩ := (show ∃ t, u = Value.int i t from r); cases e; rfl
 | str x => obtain ⟨t, e⟩ := (show ∃ t, u = Value.str x t from r); cases e; rfl
 | byt b => obtain ⟨t, e⟩ := (show ∃ t, u = Value.bytes b t from r); cases e; rfl
 | flt b => obtain ⟨t, e⟩ := (show ∃ t, u = Value.float b t from r); cases e; rfl
 | ref a => cases (show u = Value.ref a from r); rfl
 | ty n => cases (show u = Value.type n from r); rfl
section
variable {P : Program} {w : World} {H H' : Hp} {h h' : Heap} {a C dx : Addr} {fs fs' : List (Str × V)}
theorem ye1 (hok : HOk P w H h) (e : H a = some (.ins C dx fs)) : ∃ mA, ObjM h a dx C mA ∧ (∀ f, RelO (fs.lookup f) (mA f)) ∧ PySem.Within mA (fs.map (·.1)) ∧ fs.length ≤ 1000 ∧ H dx = some (.own a) := by
 obtain ⟨d, z, ne, ob, mA, n, r, q⟩ := (show ObjOk P w H h a (.ins C dx fs) from hok a _ e)
 exact ⟨mA, ⟨ob, n, ne⟩, r, q, z, d⟩
end
structure Cls (K : PySem.W.Frag) (C : Addr) : Prop where
 pg : PySem.W.plainGet K C Str.empty = true
 hd : PySem.W.hasDictIn K C = true
 po : PySem.W.plainOver K C = true
 sa : PySem.W.findIn K (.ref C) "__setattr__" = some (some (.builtin "object.__setattr__"))
theorem Cls.get {K : PySem.W.Frag} {C : Addr} (c : Cls K C) (f : Str) : PySem.W.plainGet K C f = true := c.pg
def NoAttr (K : PySem.W.Frag) (C : Addr) (f : Str) : Prop := PySem.W.findIn K (.ref C) f = some none
theorem NoAttr.taker {K : PySem.W.Frag} {C : Addr} {f : Str} (n : NoAttr K C f) : PySem.W.takerIn K C f = some none := by
 unfold PySem.W.takerIn
 rw [show PySem.W.findIn K (.ref C) f = some none from n]
 rfl
structure Meth (K : PySem.W.Frag) (C : Addr) (m : Str) (f : Addr) : Prop where
 at_ : PySem.W.findIn K (.ref C) m = some (some (.ref f))
 fn : PySem.W.isFn K (.ref f) = true
 kp : PySem.W.keepIn K (.ref f) = true
section
variable {X : Cx} {pins : List (Addr × Obj)} {σ : St} {H : Hp} {s : Shared} {a C dx : Addr} {fs : List (Str × V)} {f : Str} {v : V} {A : Around} {E : Value → Shared → Prop}
theorem getattr_ok {b : Bool} {Q : Value → Shared → Prop} (I : Inv X pins σ H s) (e : H a = some (.ins C dx fs)) (c : Cls X.K C) (n : NoAttr X.K C f) (l : fs.lookup f = some v)
 (h : ∀ u s', Inv X pins σ H s' → RelV v u → Q u s') : wpAny (model X.prog X.w) A (getAttr (.ref a) f b) Q E s := by
 obtain ⟨mA, O, r, _, _, _⟩ := ye1 I.hok e
 obtain ⟨u, hu, ru⟩ := RelO.some_of (v := v) (o := mA f) (by rw [← l]; exact r f)
 exact get_map I.kIn O (c.get f) c.hd n hu (handed_of ru) (h u _ (I.tok _) ru)
theorem getmeth_ok {m : Str} {g : Addr} {pl : Sem Bool} {Q : Value × List Value → Shared → Prop} (I : Inv X pins σ H s) (e : H a = some (.ins C dx fs)) (c : Cls X.K C) (k : Meth X.K C m g) (l : fs.lookup m = none)
 (h : Q (.ref g, [.ref a]) s) : wpAny (model X.prog X.w) A (getMethod (.ref a) m pl) Q E s := by
 obtain ⟨mA, O, r, _, _, _⟩ := ye1 I.hok e
 have hn : mA m = none := RelO.none_of (by rw [← l]; exact r m)
 exact get_meth I.kIn O (c.get m) k.at_ k.fn hn h
theorem setattr_ok {y : V} {u : Value} {Q : Unit → Shared → Prop} (I : Inv X pins σ H s) (e : H a = some (.ins C dx fs)) (c : Cls X.K C) (n : NoAttr X.K C f) (hl : fs.length < 1000) (ry : RelV y u)
 (h : ∀ s', Inv X pins σ (upd H a (.ins C dx (putF f y fs))) s' → Q () s') : wpAny (model X.prog X.w) A (setAttr (.ref a) f u) Q E s := by
 obtain ⟨mA, O, r, wi, _, ho⟩ := ye1 I.hok e
 have hz : (fs.map (·.1)).length ≤ sizeLine := by rw [List.length_map, sizeLine_eq]; omega
 refine set_map I.kIn O c.sa c.po n.taker c.hd wi hz fun h' O' sb => h _ ?_
 have hd : ∃ o, h'.get? dx = some o := let ⟨o, _, _, e', _⟩ := O'.ns; ⟨o, e'⟩
 refine I.write (x := a) (e := dx) (by rw [e]; exact True.intro) (.inr ho) (fun b q hb z => (sb.2 b hb).trans z) hd ?_
 refine ⟨by rw [zc4 O.ne]; exact ho, ?_, O.ne, O'.obj, _, O'.ns, fun g => ?_, fun g hg => ?_⟩
 · have := length_putF f y fs; omega
 · show RelO ((putF f y fs).lookup g) (if g = f then some u else mA g)
   rw [lookup_putF]
   by_cases q : g = f
   · rw [if_pos q, if_pos q]; exact ry
   · rw [if_neg q, if_neg q]; exact r g
 · by_cases q : g = f
   · rw [q]; exact (zy6 f y fs).1
   · refine (zy6 f y fs).2 g (wi g fun z => hg ?_)
     show (if g = f then some u else mA g) = none
     rw [if_neg q]; exact z
theorem Inv.made (I : Inv X pins σ H s) : Inv X pins σ (upd (upd H s.heap.objs.size (.own (s.heap.objs.size + 1))) (s.heap.objs.size + 1) (.ins C s.heap.objs.size []))
 { s with heap := (s.heap.push PySem.W.emptyDict).push (PySem.W.instObj C s.heap.objs.size) } := by
 have e1 : (s.heap.push PySem.W.emptyDict).get? s.heap.objs.size = some PySem.W.emptyDict := Heap.get?_push_size s.heap rfl
 have e2 : ((s.heap.push PySem.W.emptyDict).push (PySem.W.instObj C s.heap.objs.size)).get? (s.heap.objs.size + 1) = some (PySem.W.instObj C s.heap.objs.size) := by
  have := Heap.get?_push_size (s.heap.push PySem.W.emptyDict) (o := PySem.W.instObj C s.heap.objs.size) rfl
  rwa [Heap.size_push] at this
 have e3 : (s.heap.push PySem.W.emptyDict).Ns s.heap.objs.size (fun _ => none) := ⟨PySem.W.emptyDict, #[], _, e1, rfl, (fun e he => absurd he (by simp)), fun _ => rfl⟩
 have I1 := I.laid (a := s.heap.objs.size) (o := .own (s.heap.objs.size + 1)) (h' := s.heap.push PySem.W.emptyDict) (t' := s.toks) (fun b u q => Heap.get?_push_of_some _ q) (Nat.le_refl _) ⟨_, e1⟩
 refine I1.laid (a := s.heap.objs.size + 1) (o := .ins C s.heap.objs.size []) (t' := s.toks) (fun b u q => Heap.get?_push_of_some _ q) (Nat.le_of_eq (Heap.size_push _ _)) ?_
 have ne : s.heap.objs.size ≠ s.heap.objs.size + 1 := Nat.ne_of_lt (Nat.lt_succ_self _)
 refine ⟨by rw [zc4 ne, zc5], Nat.zero_le _, ne, e2, fun _ => none, (Heap.Ns1.of_empty e3).at fun o q => Heap.get?_push_of_some _ q, fun _ => True.intro, fun y hy => absurd rfl hy⟩
theorem attr_of {prog : Program} {w : World} {env : Env} {e : Expr} {f : Str} {pos : Pos} {s : Shared} {Q : Value → Shared → Prop} (hb : attributeBase e f env (eval e env) = eval e env)
 (h : wpAny (model prog w) A (eval e env) (fun o s₁ => wpAny (model prog w) A (getAttr o f true) Q E s₁) E s) : wpAny (model prog w) A (eval (.Attribute e f pos) env) Q E s :=
 Attribute_any_ h (by rw [arm_eval_Attribute, hb])
end
def tFld (K : PySem.W.Frag) (ta : TE) (f : Str) : TE := fun σ H Q => ta σ H fun x H1 => ∃ a C dx fs v, x = .ref a ∧ H1 a = some (.ins C dx fs) ∧ Cls K C ∧ NoAttr K C f ∧ fs.lookup f = some v ∧ Q v H1
def sFld (K : PySem.W.Frag) (ta tv : TE) (f : Str) : TS := fun D σ H => tv σ H fun y H1 => ta σ H1 fun x H2 => ∃ a C dx fs, x = .ref a ∧ H2 a = some (.ins C dx fs) ∧ Cls K C ∧ NoAttr K C f ∧ fs.length < 1000 ∧
 D.nx σ (upd H2 a (.ins C dx (putF f y fs)))
section
variable {X : Cx} {o e value : Expr} {f : Str} {pos pos' tpos : Pos} {ta tv : TE}
theorem pe_fld (he : PE X e ta) (hb : attributeBase e f X.env (eval e X.env) = eval e X.env) : PE X (.Attribute e f pos) (tFld X.K ta f) := by
 intro pins s σ H Q I h
 refine attr_of hb (thn (he pins s σ H _ I h) fun u s1 hq0 => ?_)
 obtain ⟨x, H1, I1, rx, a, C, dx, fs, v, ex, ea, c, n, l, q⟩ := hq0
 subst ex
 obtain rfl : u = Value.ref a := rx
 exact getattr_ok I1 ea c n l fun u' s2 I2 ru => ⟨v, H1, I2, ru, q⟩
theorem ps_fld (ha : PE X o ta) (hv : PE X value tv) (hs : swapsWith value (some (.Attribute o f pos')) pos.line X.env = pure false) : PS X (.Assign [.Attribute o f pos'] value pos) (sFld X.K ta tv f) := by
 intro pins s σ H D I h
 refine plainObj_wpAny_Assign_Attribute (thn (hv pins s σ H _ I h) fun u s1 ⟨y, H1, I1, ry, q⟩ => thn (ha pins s1 σ H1 _ I1 q) fun ov s2 hq0 => ?_) hs
 obtain ⟨x, H2, I2, rx, a, C, dx, fs, ex, ea, c, n, l, q2⟩ := hq0
 subst ex
 obtain rfl : ov = Value.ref a := rx
 exact setattr_ok I2 ea c n l ry fun s3 I3 => ⟨σ, _, I3, q2⟩
end
section
variable {X : Cx} {pins : List (Addr × Obj)} {σ : St} {H : Hp} {s : Shared} {A : Around} {E : Value → Shared → Prop} {Q : Value → Shared → Prop} {c : Value} {b : Bool}
end
end L2
namespace L2
open PySem PySem.Spec PyProof.Rows
structure Room (k : Nat) (A : Around) : Prop where
 hd : A.handled = none
 dp : A.depth + 3 * k + 5 < recursionLimit
 un : A.units + 16 * k + 200 < cLine
theorem Room.mono {j k : Nat} {A : Around} (r : Room k A) (h : j ≤ k) : Room j A := ⟨r.hd, by have := r.dp; omega, by have := r.un; omega⟩
theorem Room.deeper {k : Nat} {A : Around} (r : Room (k + 1) A) (env : Env) : Room k (A.deeper env) :=
 ⟨r.hd, by have := r.dp; show A.depth + 1 + 3 * k + 5 < _; omega, by have := r.un; show A.units + 3 + 16 * k + 200 < _; omega⟩
theorem make_depth {A : Around} {C : Addr} {us : List Value} {kw : List (Str × Value)} : (A.under (.builtin "type.__call__" ⟨.ref C :: us, kw⟩)).depth = A.depth + 1 := by
 first | rfl | simp [Around.under, Code.weight, Code.isCreation, Code.isGuard, Code.isCaller, Code.frames, Code.isFrame, guardIds]
theorem make_units {A : Around} {C : Addr} {us : List Value} {kw : List (Str × Value)} : (A.under (.builtin "type.__call__" ⟨.ref C :: us, kw⟩)).units = A.units + 1 := by
 first | rfl | simp [Around.under, Code.cUnits, Code.frames, Code.isFrame]
theorem Room.make {k : Nat} {A : Around} (r : Room (k + 1) A) (C : Addr) (us : List Value) (kw : List (Str × Value)) : Room k (A.under (.builtin "type.__call__" ⟨.ref C :: us, kw⟩)) :=
 ⟨r.hd, by have := r.dp; rw [make_depth]; omega, by have := r.un; rw [make_units]; omega⟩
theorem Room.depth {k : Nat} {A : Around} (r : Room k A) : A.depth < recursionLimit := by have := r.dp; omega
theorem Room.units {k : Nat} {A : Around} (r : Room k A) : A.units + 64 < cLine := by have := r.un; omega
def tNil : TA := fun _ H Q => Q [] H
def tCons (ta : TE) (tr : TA) : TA := fun σ H Q => ta σ H fun x H1 => tr σ H1 fun xs H2 => Q (x :: xs) H2
section
variable {X : Cx} {e : Expr} {es : List Expr} {te : TE} {t : TA} {pos : Pos}
theorem za4 : PA X [] tNil := fun _ _ _ _ H Q I h => Calls.spliced_nil ⟨[], H, I, .nil, h⟩
theorem za0 (ha : PE X e te) (hr : PA X es t) (hs : starEach (e :: es) X.env = (false, eval e X.env) :: starEach es X.env := by rfl) : PA X (e :: es) (tCons te t) := by
 intro pos pins s σ H Q I h
 rw [hs]
 show wpAny _ _ (spliced ((false, eval e X.env) :: backTo pos (starEach es X.env))) _ _ s
 refine Calls.spliced_cons (thn (ha pins s σ H _ I h) fun u s1 hq0 => ?_)
 obtain ⟨x, H1, I1, r1, q1⟩ := hq0
 exact thn (hr pos pins s1 σ H1 _ I1 q1) fun us s2 ⟨xs, H2, I2, r2, q2⟩ => ⟨x :: xs, H2, I2, .cons r1 r2, q2⟩
end
abbrev Sp := List V → Hp → VK → XK → Prop
abbrev CXT := List Env → Hp → Shared → XK → Value → Shared → Prop
structure Env0 (P : Program) (w : World) (K : PySem.W.Frag) (mg : Str → Option Value) (base : Heap) (A : Around) (outer : List Env) (s : Shared) (H : Hp) : Prop where
 frames : A.frames = some outer
 mod : Mod K mg base
 bs : ∀ b o, base.get? b = some o → s.heap.get? b = some o ∧ H b = none
 bsz : base.objs.size ≤ s.heap.objs.size
 funs : s.heap.FunFrames base outer
 frf : ∀ b ∈ frs outer, H b = none
 hok : HOk P w H s.heap
 bare : AllBare s.gens
def CE (outer : List Env) (P : Program) (w : World) (H : Hp) (s : Shared) (Q : VK) (u : Value) (s' : Shared) : Prop :=
 ∃ v H', s'.os = s.os ∧ AllBare s'.gens ∧ Un (frs outer) [] H H' s.heap s'.heap ∧ HOk P w H' s'.heap ∧ RelV v u ∧ Q v H'
def CR (CX : CXT) (outer : List Env) (P : Program) (w : World) (H : Hp) (s : Shared) (Q : VK) (E : XK) (r : Result) (s' : Shared) : Prop :=
 match r with
 | .ok (.ret u) => CE outer P w H s Q u s'
 | .ok _ => False
 | .error e => CX outer H s E e s'
structure FnOk (P : Program) (w : World) (K : PySem.W.Frag) (mg : Str → Option Value) (base : Heap) (CX : CXT) (k : Nat) (f : Addr) (fd : FuncData) (ps : List Str) (sp : Sp) : Prop where
 len : ∀ vs H Q E, sp vs H Q E → vs.length = ps.length
 run : ∀ (A : Around) (outer : List Env) (s : Shared) (H : Hp) (args : Args) (us : List Value) (vs : List V) (Q : VK) (E : XK), Room k A → Env0 P w K mg base A outer s H → BindsTo s fd args (ps.zip us) → Vals vs us → sp vs H Q E →
  codeAny (model P w) A (.call (.ref f) args) (CR CX outer P w H s Q E) s
theorem FnOk.mono {P : Program} {w : World} {K : PySem.W.Frag} {mg : Str → Option Value} {base : Heap} {CX : CXT} {j k : Nat} {f : Addr} {fd : FuncData} {ps : List Str} {sp : Sp} (F : FnOk P w K mg base CX j f fd ps sp) (h : j ≤ k) :
 FnOk P w K mg base CX k f fd ps sp := ⟨F.len, fun A outer s H args us vs Q E hr => F.run A outer s H args us vs Q E (hr.mono h)⟩
theorem Env0.make {P : Program} {w : World} {K : PySem.W.Frag} {mg : Str → Option Value} {base : Heap} {A : Around} {outer : List Env} {s : Shared} {H : Hp} (e : Env0 P w K mg base A outer s H) (C : Addr) (us : List Value) (kw : List (Str × Value)) :
 Env0 P w K mg base (A.under (.builtin "type.__call__" ⟨.ref C :: us, kw⟩)) outer s H := ⟨by first | exact e.frames | (simpa [Around.under, Code.envs, Code.isFrame, pushEnvs] using e.frames), e.mod, e.bs, e.bsz, e.funs, e.frf, e.hok, e.bare⟩
section
variable {X : Cx} {pins : List (Addr × Obj)} {σ : St} {H : Hp} {s s' : Shared}
theorem Inv.env0 (I : Inv X pins σ H s) : Env0 X.prog X.w X.K X.mg X.base X.A X.stack s H :=
 ⟨I.ok.frames, I.ok.mod, I.bs, Nat.le_trans I.ok.bsz I.sz, I.stack, I.stkFree, I.hok, I.bare⟩
theorem Inv.after {Q : VK} {u : Value} (I : Inv X pins σ H s) (h : CE X.stack X.prog X.w H s Q u s') : EP X pins σ Q u s' := by
 obtain ⟨v, H', os, bare, un, hok, r, q⟩ := h
 obtain ⟨hh, g, d, t, os'⟩ := s'
 obtain rfl : os' = s.os := os
 exact ⟨v, H', I.call (h' := hh) (g' := g) (d' := d) (t' := t) (ch := []) un hok bare (fun b z => absurd z (by simp)), r, q⟩
end
def tCall (sp : Sp) (dvs : List V) (E : XK) (t : TA) : TE := fun σ H Q => t σ H fun vs H1 => sp (vs ++ dvs) H1 Q E
def tMeth (C : Addr) (m : Str) (sp : Sp) (dvs : List V) (E : XK) (ta : TE) (t : TA) : TE := fun σ H Q => ta σ H fun x H1 => ∃ a dx fs, x = .ref a ∧ H1 a = some (.ins C dx fs) ∧ fs.lookup m = none ∧
 t σ H1 fun vs H2 => sp (x :: (vs ++ dvs)) H2 Q E
def tMake (C : Addr) (sp : Sp) (dvs : List V) (E : XK) (t : TA) : TE := fun σ H Q => t σ H fun vs H1 => ∀ x dx, H1 x = none → H1 dx = none → dx ≠ x →
 sp (.ref x :: (vs ++ dvs)) (upd (upd H1 dx (.own x)) x (.ins C dx [])) (fun v H2 => v = .non ∧ Q (.ref x) H2) E
def Binds (K : PySem.W.Frag) (fd : FuncData) (ps : List Str) (ds : List Value) : Prop :=
 ∀ (s : Shared) (us : List Value), K.In s.heap → (us ++ ds).length = ps.length → BindsTo s fd ⟨us, []⟩ (ps.zip (us ++ ds))
theorem Binds.all {K : PySem.W.Frag} {fd : FuncData} {ps : List Str} (h : ∀ us : List Value, us.length = ps.length → bindArgs fd ⟨us, []⟩ = pure (ps.zip us)) : Binds K fd ps [] := fun s us _ hl => by
 rw [List.append_nil] at hl ⊢
 exact .of_eq (h us hl)
def zy9 (CX : CXT) (X : Cx) (E : XK) : Prop := ∀ (pins : List (Addr × Obj)) (σ : St) (H : Hp) (s : Shared) (e : Value) (s' : Shared), Inv X pins σ H s → CX X.stack H s E e s' → X.xe e s'
section
variable {X : Cx} {CX : CXT} {k : Nat} {f C : Addr} {fd : FuncData} {ps : List Str} {sp : Sp} {dvs : List V} {ds : List Value} {E : XK} {x m : Str} {p pos apos : Pos} {e o : Expr} {es : List Expr} {ta : TE} {t : TA}
theorem run_fn {pins : List (Addr × Obj)} {σ : St} {H : Hp} {s : Shared} {Q : VK} {us : List Value} {vs : List V} (F : FnOk X.prog X.w X.K X.mg X.base CX k f fd ps sp) (hr : Room k X.A) (hb : Binds X.K fd ps ds) (hd : Vals dvs ds) (hx : zy9 CX X E)
 (I : Inv X pins σ H s) (r : Vals vs us) (h : sp (vs ++ dvs) H Q E) : wpAny (model X.prog X.w) X.A (call (.ref f) us) (EP X pins σ Q) X.xe s := by
 have r2 : Vals (vs ++ dvs) (us ++ ds) := r.append hd
 have hl : (us ++ ds).length = ps.length := by rw [← r2.length]; exact F.len _ _ _ _ h
 refine wpAny_call (codeAny_mono (F.run X.A X.stack s H ⟨us, []⟩ (us ++ ds) (vs ++ dvs) Q E hr I.env0 (hb s us I.kIn hl) r2 h) fun r s' hq => ?_)
 cases r with
 | error e => exact hx pins σ H s e s' I hq
 | ok fl =>
  cases fl with
  | ret u => exact I.after hq
  | next => exact False.elim hq
  | brk => exact False.elim hq
  | cont => exact False.elim hq
theorem zc6 (F : FnOk X.prog X.w X.K X.mg X.base CX k f fd ps sp) (hr : Room k X.A) (hg : Gl X x) (hm : X.mg x = some (.ref f)) (hk : PySem.W.keepIn X.K (.ref f) = true) (hb : Binds X.K fd ps ds) (hd : Vals dvs ds) (hx : zy9 CX X E)
 (ha : PA X (e :: es) t) (hdb : (x == ("__debug__" : Str)) = false := by decide) (he : starEach (e :: es) X.env = (false, eval e X.env) :: starEach es X.env := by rfl) (hpl : (backTo pos (starEach es X.env)).any (·.1) = false := by rfl) :
 PE X (.Call (.Name x p) (e :: es) [] pos) (tCall sp dvs E t) := by
 intro pins s σ H Q I h
 refine wpAny_Call_Name_kw (yd0 I hg hm ?_ hdb)
 refine PySem.W.callWith_K (h₀ := X.base) I.ok.mod.kin hk (thn (ha pos pins s σ H _ I h) fun us s1 ⟨vs, H1, I1, r, q⟩ => ⟨I1.kIn, ?_⟩) he hpl
 exact run_fn F hr hb hd hx I1 r q
theorem zo2 {pl : Sem Bool} (he : PE X o ta) (c : Cls X.K C) (hm : Meth X.K C m f) (F : FnOk X.prog X.w X.K X.mg X.base CX k f fd ps sp) (hr : Room k X.A) (hb : Binds X.K fd ps ds) (hd : Vals dvs ds) (hx : zy9 CX X E) (ha : PA X (e :: es) t)
 (hst : starEach (e :: es) X.env = (false, eval e X.env) :: starEach es X.env := by rfl) (hpl : (backTo pos (starEach es X.env)).any (·.1) = false := by rfl)
 (ht : eval (.Call (.Attribute o m apos) (e :: es) [] pos) X.env = (do
  let ov ← eval o X.env
  standAt apos.atName
  let (f, first) ← holding [ov] (getMethod ov m pl)
  callWith pos f first (backTo pos (starEach (e :: es) X.env)) (backToKw pos (keywordEach [] X.env))) := by rfl) :
 PE X (.Call (.Attribute o m apos) (e :: es) [] pos) (tMeth C m sp dvs E ta t) := by
 intro pins s σ H Q I h
 refine PySem.W.methodCall_KW (pl := pl) (thn (he pins s σ H _ I h) fun u s1 hq0 => ?_) ht
 obtain ⟨x, H1, I1, rx, a, dx, fs, ex, ea, l, q⟩ := hq0
 subst ex
 obtain rfl : u = Value.ref a := rx
 refine getmeth_ok I1 ea c hm l ?_
 refine PySem.W.callWith_K (first := [.ref a]) (h₀ := X.base) I.ok.mod.kin hm.kp (thn (ha pos pins s1 σ H1 _ I1 q) fun us s2 ⟨vs, H2, I2, r, q2⟩ => ⟨I2.kIn, ?_⟩) hst hpl
 exact run_fn (us := .ref a :: us) (vs := .ref a :: vs) F hr hb hd hx I2 (.cons rfl r) q2
structure Mk (K : PySem.W.Frag) (C f : Addr) : Prop where
 makes : PySem.W.makesIn K C = true
 init : PySem.W.findIn K (.ref C) "__init__" = some (some (.ref f))
 fn : PySem.W.isFn K (.ref f) = true
 kp : PySem.W.keepIn K (.ref C) = true
theorem run_make {pins : List (Addr × Obj)} {σ : St} {H : Hp} {s : Shared} {Q : VK} {us : List Value} {vs : List V} (M : Mk X.K C f) (F : FnOk X.prog X.w X.K X.mg X.base CX k f fd ps sp) (hr : Room (k + 1) X.A) (hb : Binds X.K fd ps ds) (hd : Vals dvs ds)
 (hx : zy9 CX X E) (I : Inv X pins σ H s) (r : Vals vs us)
 (h : ∀ x dx, H x = none → H dx = none → dx ≠ x → sp (.ref x :: (vs ++ dvs)) (upd (upd H dx (.own x)) x (.ins C dx [])) (fun v H2 => v = .non ∧ Q (.ref x) H2) E) :
 wpAny (model X.prog X.w) X.A (call (.ref C) us) (EP X pins σ Q) X.xe s := by
 have hq := h (s.heap.objs.size + 1) s.heap.objs.size (I.hok.fresh (Nat.le_succ _)) (I.hok.fresh (Nat.le_refl _)) (Nat.ne_of_lt (Nat.lt_succ_self _))
 have I2 := Inv.made (C := C) I
 have r2 : Vals (V.ref (s.heap.objs.size + 1) :: (vs ++ dvs)) (Value.ref (s.heap.objs.size + 1) :: (us ++ ds)) := .cons rfl (r.append hd)
 have hl : (Value.ref (s.heap.objs.size + 1) :: us ++ ds).length = ps.length := by
  have e := r2.length
  rw [F.len _ _ _ _ hq] at e
  exact e.symm
 refine wpAny_call (make_map (f := f) I.kIn M.makes M.init (beq_iff_eq.mp M.fn) (codeAny_mono (F.run _ X.stack _ _ ⟨Value.ref (s.heap.objs.size + 1) :: us, []⟩ (Value.ref (s.heap.objs.size + 1) :: (us ++ ds)) _ _ E (hr.make C us [])
  (I2.env0.make C us []) (hb _ (Value.ref (s.heap.objs.size + 1) :: us) I2.kIn hl) r2 hq) fun r s' hq' => ?_))
 cases r with
 | error e => exact hx pins σ _ _ e s' I2 hq'
 | ok fl =>
  cases fl with
  | ret u =>
   obtain ⟨v, H', I3, rv, ev, q3⟩ := I2.after hq'
   subst ev
   exact ⟨rv, ⟨V.ref (s.heap.objs.size + 1), H', I3, rfl, q3⟩⟩
  | next => exact False.elim hq'
  | brk => exact False.elim hq'
  | cont => exact False.elim hq'
theorem pe_make0 (M : Mk X.K C f) (F : FnOk X.prog X.w X.K X.mg X.base CX k f fd ps sp) (hr : Room (k + 1) X.A) (hg : Gl X x) (hm : X.mg x = some (.ref C)) (hb : Binds X.K fd ps ds) (hd : Vals dvs ds) (hx : zy9 CX X E)
 (hdb : (x == ("__debug__" : Str)) = false := by decide) : PE X (.Call (.Name x p) [] [] pos) (tMake C sp dvs E tNil) := by
 intro pins s σ H Q I h
 refine wpAny_Call_Name_kw (yd0 I hg hm ?_ hdb)
 exact PySem.W.callWith_K0 I.kIn M.kp (run_make (us := []) M F hr hb hd hx I .nil h)
end
section
variable {X : Cx} {CX : CXT} {k : Nat} {f C : Addr} {fd : FuncData} {ps ks : List Str} {sp : Sp} {E : XK} {x m : Str} {p pos apos kpos : Pos} {e o : Expr} {es : List Expr} {kws : List Keyword} {te ta : TE} {t tk : TA} {nm : Option Str}
variable {g : List Value → List Value → List Value} {gV : List V → List V → List V}
end
structure FnScope (N P : List Str) (sc : Scope) : Prop where
 kind : sc.kind = .function
 co : sc.isCoroutine = false
 gen : sc.isGenerator = false
 nd : N.Nodup
 pre : N.take P.length = P
 par : ∀ x ∈ P, sc.names.lookup x = some .local ∨ sc.names.lookup x = some .cell
 nofree : ∀ y ∈ sc.names, y.2 ≠ .free
theorem bindL_out {kindOf : Str → Option NameKind} {x : Str} : ∀ {binds : List (Str × Value)} {m : Str → Option Value}, (∀ v, (x, v) ∉ binds) → bindL kindOf binds m x = m x
 | [], _, _ => rfl
 | (n, v) :: r, m, h => by
  unfold bindL
  rw [bindL_out fun w hw => h w (List.mem_cons_of_mem _ hw)]
  split
  · have : x ≠ n := by rintro rfl; exact h v List.mem_cons_self
    simp [this]
  · rfl
theorem bindC_out {kindOf : Str → Option NameKind} {x : Str} : ∀ {binds : List (Str × Value)} {m : Str → Option Value}, (∀ v, (x, v) ∉ binds) → bindC kindOf binds m x = m x
 | [], _, _ => rfl
 | (n, v) :: r, m, h => by
  unfold bindC
  rw [bindC_out fun w hw => h w (List.mem_cons_of_mem _ hw)]
  split
  · rfl
  · have : x ≠ n := by rintro rfl; exact h v List.mem_cons_self
    simp [this]
theorem bindL_get {kindOf : Str → Option NameKind} {x : Str} {v : Value} : ∀ {P : List Str} {vs : List Value} {i : Nat} {m : Str → Option Value}, P.Nodup → P[i]? = some x → vs[i]? = some v → kindOf x = some .local →
 bindL kindOf (P.zip vs) m x = some v
 | [], _, _, _, _, h, _, _ => by simp at h
 | _ :: _, [], _, _, _, _, h, _ => by simp at h
 | p :: P, w :: vs, 0, m, nd, h1, h2, hk => by
  simp at h1 h2; subst h1; subst h2
  show bindL kindOf ((p, w) :: P.zip vs) m p = _
  unfold bindL
  rw [bindL_out fun v hv => (List.nodup_cons.mp nd).1 (List.of_mem_zip hv).1, if_pos hk]
  simp
 | p :: P, w :: vs, i + 1, m, nd, h1, h2, hk => by
  show bindL kindOf ((p, w) :: P.zip vs) m x = _
  unfold bindL
  exact bindL_get (i := i) (List.nodup_cons.mp nd).2 (by simpa using h1) (by simpa using h2) hk
theorem bindC_get {kindOf : Str → Option NameKind} {x : Str} {v : Value} : ∀ {P : List Str} {vs : List Value} {i : Nat} {m : Str → Option Value}, P.Nodup → P[i]? = some x → vs[i]? = some v → kindOf x ≠ some .local →
 bindC kindOf (P.zip vs) m x = some v
 | [], _, _, _, _, h, _, _ => by simp at h
 | _ :: _, [], _, _, _, _, h, _ => by simp at h
 | p :: P, w :: vs, 0, m, nd, h1, h2, hk => by
  simp at h1 h2; subst h1; subst h2
  show bindC kindOf ((p, w) :: P.zip vs) m p = _
  unfold bindC
  rw [bindC_out fun v hv => (List.nodup_cons.mp nd).1 (List.of_mem_zip hv).1, if_neg hk]
  simp
 | p :: P, w :: vs, i + 1, m, nd, h1, h2, hk => by
  show bindC kindOf ((p, w) :: P.zip vs) m x = _
  unfold bindC
  exact bindC_get (i := i) (List.nodup_cons.mp nd).2 (by simpa using h1) (by simpa using h2) hk
def start (N : List Str) (vs : List V) : St := vs.map some ++ List.replicate (N.length - vs.length) none
def cxOf (CX : CXT) (P : Program) (w : World) (K : PySem.W.Frag) (mg : Str → Option Value) (base : Heap) (N : List Str) (qual : Str) (scope : Scope) (f : Addr) (cd : Value) (A : Around) (outer : List Env) (s : Shared) (H : Hp) (E : XK) : Cx where
 prog := P
 w := w
 K := K
 mg := mg
 base := base
 A := A.deeper (envOfC qual scope s.heap.objs.size f cd)
 N := N
 s₀ := s
 H₀ := H
 env := envOfC qual scope s.heap.objs.size f cd
 outer := outer
 stack := envOfC qual scope s.heap.objs.size f cd :: outer
 ex := []
 calm := true
 fn := fun _ => true
 pn := []
 xe := fun e s' => wpAny (model P w) (A.deeper (envOfC qual scope s.heap.objs.size f cd)) (leaving (envOfC qual scope s.heap.objs.size f cd) e) (fun _ s'' => CX outer H s E e s'') (fun e' s'' => CX outer H s E e' s'') s'
theorem cell_has {sc : Scope} {n : Nat} {x : Str} (h : sc.names.lookup x = some .cell) : ∃ c, (cellsFrom n sc.names []).lookup x = some c := by
 have q := PySem.W.cellsFrom_some sc.names n [] (.inl h)
 exact Option.isSome_iff_exists.mp q
theorem inv_start {CX : CXT} {P : Program} {w : World} {K : PySem.W.Frag} {mg : Str → Option Value} {base : Heap} {N ps : List Str} {qual : Str} {scope : Scope} {f : Addr} {cd : Value} {A : Around} {outer : List Env} {s s1 : Shared} {H : Hp} {E : XK} {us : List Value} {vs : List V}
 (S : FnScope N ps scope) (hd : A.handled = none) (e0 : Env0 P w K mg base A outer s H) (hl : vs.length = ps.length) (r : Vals vs us)
 (x : InCallC s s.heap.objs.size (bindL (envOfC qual scope s.heap.objs.size f cd).kindOf (ps.zip us) fun _ => none) (cellsFrom (s.heap.objs.size + 1) scope.names []) (bindC (envOfC qual scope s.heap.objs.size f cd).kindOf (ps.zip us) fun _ => none) s1) :
 Inv (cxOf CX P w K mg base N qual scope f cd A outer s H E) [] (start N vs) H s1 := by
 have hpl : ps.length ≤ N.length := by have := congrArg List.length S.pre; rw [List.length_take] at this; omega
 obtain ⟨h1, tk, rfl, hk⟩ := x.done
 have noA : ∀ b : Addr, b ∉ (cxOf CX P w K mg base N qual scope f cd A outer s H E).ex := fun b z => absurd (show b ∈ ([] : List Addr) from z) (by simp)
 refine ⟨⟨e0.mod, S.kind, rfl, rfl, Nat.le_refl _, fun y z c h1 h2 => ?_, fun y hy => ?_, fun y c _ h => ?_, fun _ => hd, Around.frames_deeper e0.frames, .inr ⟨rfl, rfl⟩, fun b z => absurd z (noA b), e0.bs, e0.bsz, fun b _ _ => noA b, fun b z => absurd z (noA b), e0.funs, e0.frf⟩,
  rfl, e0.bare, Un.kept hk, ⟨_, x.toInCall.ns, fun i y v h1 h2 h3 => ?_⟩, fun y c h => ⟨_, x.cell y c h⟩, e0.hok.fresh (Nat.le_refl _), fun y c h => ?_, fun p hp => absurd (show p ∈ ([] : List (Addr × Obj)) from hp) (by simp), e0.hok.kept hk, ?_⟩
 · exact name_of_addr x.apart (PySem.mem_of_lookup h1) (PySem.mem_of_lookup h2)
 · have hy : scope.names.lookup y = some .cell ∨ scope.names.lookup y = some .free := hy
   rcases hy with hy | hy
   · exact cell_has hy
   · exact absurd rfl (S.nofree _ (PySem.mem_of_lookup hy))
 · exact Nat.le_of_lt (x.above y c (PySem.mem_of_lookup h))
 · have hi : i < vs.length := by
    unfold start at h2
    by_cases hi : i < vs.length
    · exact hi
    · rw [List.getElem?_append_right (by simpa using hi)] at h2
      rw [List.getElem?_replicate] at h2
      split at h2 <;> cases h2
   have ha : vs[i]? = some v := by
    unfold start at h2
    rw [List.getElem?_append_left (by simpa using hi), List.getElem?_map] at h2
    cases e : vs[i]? with
    | none => rw [e] at h2; cases h2
    | some a => rw [e] at h2; cases h2; rfl
   obtain ⟨u, hu, rv⟩ := r.get ha
   have hp : ps[i]? = some y := by
    rw [← S.pre, List.getElem?_take_of_lt (by omega)]; exact h1
   have ndP : ps.Nodup := by rw [← S.pre]; exact S.nd.sublist (List.take_sublist _ _)
   refine ⟨u, rv, ?_⟩
   rcases S.par y (List.mem_of_getElem? hp) with k | k
   · exact .inl ⟨k, bindL_get ndP hp hu k⟩
   · obtain ⟨c, e⟩ := cell_has (n := s.heap.objs.size + 1) k
     refine .inr ⟨.inl k, c, e, ?_⟩
     have q := x.cell y c e
     rw [bindC_get ndP hp hu (by show scope.names.lookup y ≠ _; rw [k]; decide)] at q
     exact q
 · exact e0.hok.fresh (Nat.le_of_lt (x.above y c (PySem.mem_of_lookup h)))
 · unfold start
   show _ = N.length
   rw [List.length_append, List.length_map, List.length_replicate]
   omega
theorem fn_of {CX : CXT} {P : Program} {w : World} {K : PySem.W.Frag} {mg : Str → Option Value} {base : Heap} {k : Nat} {f : Addr} {name qual : Str} {params : Arguments} {body : List Stmt} {scope : Scope} {dV kV doc pm cdv ct oc : Value} {an od : Option Addr}
 {osl : Array (Option Value)} {N ps : List Str} {sp : Sp} (lk : K.lookup f = some ⟨oc, od, .func (PySem.W.fnOf name qual params body scope dV kV doc pm an cdv ct), osl⟩) (hcd : PySem.W.codeIn K cdv qual = true) (S : FnScope N ps scope)
 (len : ∀ vs H Q E, sp vs H Q E → vs.length = ps.length)
 (hbody : ∀ (A : Around) (outer : List Env) (s : Shared) (H : Hp) (vs : List V) (Q : VK) (E : XK), Room k (A.deeper (envOfC qual scope s.heap.objs.size f cdv)) → sp vs H Q E →
  ∃ t, PSs (cxOf CX P w K mg base N qual scope f cdv A outer s H E) body t ∧ t { nx := fun _ H' => Q .non H', rt := Q } (start N vs) H) :
 FnOk P w K mg base CX (k + 1) f (PySem.W.fnOf name qual params body scope dV kV doc pm an cdv ct) ps sp := by
 refine ⟨len, fun A outer s H args us vs Q E hr e0 hb r hsp => ?_⟩
 have hl := len _ _ _ _ hsp
 have KX : K.In s.heap := e0.mod.kin.keeps fun b o e => (e0.bs b o e).1
 have lim : s.heap.NoLimit := e0.mod.nolimit.keeps fun b o e => (e0.bs b o e).1
 have hkind : ∀ y ∈ ps.zip us, scope.names.lookup y.1 = some .local ∨ (scope.names.lookup y.1 = some .cell ∧ ((cellsFrom (s.heap.objs.size + 1) scope.names []).lookup y.1).isSome = true) := fun ⟨n, v⟩ hy => by
  rcases S.par n (List.of_mem_zip hy).1 with q | q
  · exact .inl q
  · exact .inr ⟨q, PySem.W.cellsFrom_some _ _ _ (.inl q)⟩
 refine codeAny_call_function hr.depth (KX _ _ lk) rfl S.co S.gen rfl (PySem.W.codeRec_of KX hcd) (hb _ _ _ _ ?_)
 refine wpAny_newFunctionEnv_cells S.kind hkind fun env he s1 x => ?_
 subst he
 refine ⟨lim.keeps x.toInCall.keep, codeAny_func ?_⟩
 obtain ⟨t, ht, hq⟩ := hbody A outer s H vs Q E (hr.deeper _) hsp
 have I : Inv (cxOf CX P w K mg base N qual scope f cdv A outer s H E) [] (start N vs) H s1 := inv_start S hr.hd e0 hl r x
 refine wpAny_mono (ht [] s1 (start N vs) H _ I hq) (fun fl s' hs => ?_) fun e s' hs => hs
 have fin : ∀ {σ' : St} {H' : Hp} {v : V} {u : Value}, Inv (cxOf CX P w K mg base N qual scope f cdv A outer s H E) [] σ' H' s' → RelV v u → Q v H' → CE outer P w H s Q u s' :=
  fun {σ' H' v u} J rv q => ⟨v, H', J.os, J.bare, J.base, J.hok, rv, q⟩
 cases fl with
 | ret u =>
  obtain ⟨v, σ', H', J, rv, q⟩ := hs
  exact fin J rv q
 | next =>
  obtain ⟨σ', H', J, q⟩ := hs
  exact fin (v := V.non) (u := Value.none) J rfl q
 | brk =>
  obtain ⟨_, _, _, q⟩ := hs
  exact False.elim q
 | cont =>
  obtain ⟨_, _, _, q⟩ := hs
  exact False.elim q
end L2
namespace L2
open PySem PySem.Spec PyProof.Rows
section
variable {X : Cx} {x : Str} {p pos : Pos} {e : Expr} {es : List Expr} {t : TA} {id T : String} {r : List V → Hp → VK → Prop}
def tCB (r : List V → Hp → VK → Prop) (t : TA) : TE := fun σ H Q => t σ H fun vs H1 => r vs H1 Q
theorem zh5 (hc : CallR X (.builtin id) r) (hg : Gl X x) (hm : X.mg x = none) (hv : bootBuiltins x = some (.builtin id)) (ha : PA X (e :: es) t) (hn : x ≠ "__name__" := by decide) (hdb : (x == ("__debug__" : Str)) = false := by decide)
 (he : starEach (e :: es) X.env = (false, eval e X.env) :: starEach es X.env := by rfl) (hpl : (backTo pos (starEach es X.env)).any (·.1) = false := by rfl) : PE X (.Call (.Name x p) (e :: es) [] pos) (tCB r t) := by
 intro pins s σ H Q I h
 refine wpAny_Call_Name_kw (yc4 I hg hm hv ?_ hn hdb)
 exact PyProof.Rows.callWith_builtin1 (thn (ha pos pins s σ H _ I h) fun us s1 ⟨vs, H1, I1, r1, q1⟩ => hc pins s1 σ H1 vs us Q I1 r1 q1) he hpl
theorem pe_callTy (hc : CallR X (.type T) r) (hg : Gl X x) (hm : X.mg x = none) (hv : bootBuiltins x = some (.type T)) (ha : PA X (e :: es) t) (hn : x ≠ "__name__" := by decide) (hdb : (x == ("__debug__" : Str)) = false := by decide)
 (he : starEach (e :: es) X.env = (false, eval e X.env) :: starEach es X.env := by rfl) (hpl : (backTo pos (starEach es X.env)).any (·.1) = false := by rfl) : PE X (.Call (.Name x p) (e :: es) [] pos) (tCB r t) := by
 intro pins s σ H Q I h
 refine wpAny_Call_Name_kw (yc4 I hg hm hv ?_ hn hdb)
 exact PyProof.Rows.callWith_type1 (thn (ha pos pins s σ H _ I h) fun us s1 ⟨vs, H1, I1, r1, q1⟩ => hc pins s1 σ H1 vs us Q I1 r1 q1) he hpl
end
end L2
namespace HT
open PySem PyProof.Rows
section
open PySem.SeqAt
open PySem.AutoSeq1 (wpAny_loadPart')
open PySem.MeetsSeq PySem.MeetsSeq2 PySem.MeetsSeq3
end
section
variable {prog : Program} {w : World} {A : Around} {E : Value → Shared → Prop} {s : Shared}
theorem cat_tup {t b : Addr} {vs ws : List Value} {Q : Value → Shared → Prop} (ht : IsTup s.heap t vs.toArray) (hb : IsTup s.heap b ws.toArray) (hv : vs ≠ [])
 (h1 : ws = [] → Q (.ref t) s) (h2 : ws ≠ [] → Q (.ref s.heap.objs.size) { s with heap := s.heap.push { cls := .type "tuple", data := .seq (vs ++ ws).toArray } })
 (hsz : vs.length + ws.length ≤ sizeLine) : wpAny (model prog w) A (binaryOp .Add (.ref t) (.ref b)) Q E s := by
 obtain ⟨⟨cls, dd, data, sl⟩, ho, hc, n, hd⟩ := id ht
 obtain ⟨⟨cls2, dd2, data2, sl2⟩, ho2, hc2, n2, hd2⟩ := id hb
 simp only at hc hd hc2 hd2
 subst hc hd hc2 hd2
 have e : vs.toArray ++ ws.toArray = (vs ++ ws).toArray := by simp
 by_cases hw : ws = []
 · exact concat_meets ⟨_, ho, rfl⟩ ⟨_, ho2, rfl⟩ noFill_tuple_add seq_tuple_add PySem.F.slot_tuple_add PySem.F.entry_tuple_add (PySem.F.args_tuple_add_2 _ _)
    (tuple_addW1 t b vs.toArray ws.toArray n n2 dd dd2 sl sl2 (by simpa using hv) (by simp [hw])) ⟨ho, ho2, h1 hw⟩
 · refine concat_meets ⟨_, ho, rfl⟩ ⟨_, ho2, rfl⟩ noFill_tuple_add seq_tuple_add PySem.F.slot_tuple_add PySem.F.entry_tuple_add (PySem.F.args_tuple_add_2 _ _)
    (tuple_addW2 t b vs.toArray ws.toArray n n2 dd dd2 sl sl2 (by simpa using hv) (by simpa using hw) (by rw [List.size_toArray, List.size_toArray]; exact hsz)) ⟨ho, ho2, ?_⟩
   rw [e]
   exact h2 hw
def sIx (n d : Nat) : Option Int → Nat
 | none => d
 | some v => if v < 0 then (v + (n : Int)).toNat else min v.toNat n
theorem sIx_none (n d : Nat) : sIx n d none = d := rfl
theorem sIx_nat (n d k : Nat) : sIx n d (some (k : Int)) = min k n := by
 show (if (k : Int) < 0 then ((k : Int) + (n : Int)).toNat else min (k : Int).toNat n) = min k n
 rw [if_neg (by omega), Int.toNat_natCast]
theorem sIx_le (n d : Nat) (hd : d ≤ n) (o : Option Int) : sIx n d o ≤ n := by
 cases o with
 | none => exact hd
 | some v =>
  show (if v < 0 then (v + (n : Int)).toNat else min v.toNat n) ≤ n
  by_cases hv : v < 0
  · rw [if_pos hv]; omega
  · rw [if_neg hv]; exact Nat.min_le_right _ _
theorem clip_eq (v : Int) (n d : Nat) : (if v < 0 then max (v + (n : Int)) 0 else min v (n : Int)) = ((sIx n d (some v) : Nat) : Int) := by
 show (if v < 0 then max (v + (n : Int)) 0 else min v (n : Int)) = (((if v < 0 then (v + (n : Int)).toNat else min v.toNat n) : Nat) : Int)
 by_cases hv : v < 0
 · simp only [if_pos hv]; omega
 · simp only [if_neg hv]; omega
theorem adjust_gen (lo hi : Option Int) (n : Nat) : Builtin.Slice.sliceAdjust lo hi 1 (n : Int) = (((sIx n 0 lo : Nat) : Int), ((sIx n n hi : Nat) : Int)) := by
 have h1 : ¬ ((1 : Int) < 0) := by omega
 unfold Builtin.Slice.sliceAdjust
 simp only [h1, if_false]
 refine Prod.ext ?_ ?_
 · cases lo with
   | none => rfl
   | some v => exact clip_eq v n 0
 · cases hi with
   | none => rfl
   | some v => exact clip_eq v n n
theorem places_gen (i j : Nat) : Builtin.Slice.slicePlaces (i : Int) (j : Int) 1 = j - i := by
 unfold Builtin.Slice.slicePlaces
 have h1 : (1 : Int) > 0 := by omega
 simp only [h1, if_true, Int.ediv_one]
 split <;> omega
theorem slicePart_ {v : Value} {o : Option Int} {Q : Option Int → Shared → Prop} (p : IsPart v o) (h : Q o s) : wpAny (model prog w) A (Builtin.Slice.slicePartIndex v) Q E s := by
 cases p with
 | none => exact slicePart_none h
 | int i t => exact slicePart_int h
theorem sliceApplied_gen {sl : Addr} {vl vu : Value} {lo hi : Option Int} {n : Nat} {Q : Int × Int × Nat → Shared → Prop} (hs : s.heap.IsSliceOf sl vl vu .none) (pl : IsPart vl lo) (pu : IsPart vu hi)
 (h : Q (((sIx n 0 lo : Nat) : Int), 1, sIx n n hi - sIx n 0 lo) s) : wpAny (model prog w) A (Builtin.Slice.sliceApplied (.ref sl) (pure (n : Int))) Q E s := by
 obtain ⟨os, hos, hcs, hds⟩ := id hs
 unfold Builtin.Slice.sliceApplied Builtin.Slice.sliceFields
 refine wpAny_bind (wpAny_bind (wpAny_field hos hds (x := vl) rfl (wpAny_bind (wpAny_field hos hds (x := vu) rfl (wpAny_bind (wpAny_field hos hds (x := .none) rfl (wpAny_pure ?_)))))))
 refine wpAny_bind (slicePart_none ?_)
 show wpAny _ _ (if ((1 : Int) == 0) = true then _ else _) _ _ s
 rw [if_neg (by decide)]
 refine wpAny_bind (slicePart_ pl (wpAny_bind (slicePart_ pu (wpAny_bind (wpAny_pure ?_)))))
 show wpAny _ _ (match Builtin.Slice.sliceAdjust lo hi 1 (n : Int) with | (lo, hi) => pure (lo, (1 : Int), Builtin.Slice.slicePlaces lo hi 1)) _ _ s
 rw [adjust_gen lo hi n]
 show wpAny _ _ (pure (((sIx n 0 lo : Nat) : Int), (1 : Int), Builtin.Slice.slicePlaces ((sIx n 0 lo : Nat) : Int) ((sIx n n hi : Nat) : Int) 1)) _ _ s
 rw [places_gen]
 exact wpAny_pure h
theorem pick_gen (xs : Array Value) (i k : Nat) : ((List.range k).filterMap fun (m : Nat) => xs[((i : Int) + (m : Int) * 1).toNat]?).toArray = ((xs.toList.drop i).take k).toArray := by
 have e : (fun (m : Nat) => xs[((i : Int) + (m : Int) * 1).toNat]?) = fun m => xs[i + m]? := by
  funext m
  have : ((i : Int) + (m : Int) * 1).toNat = i + m := by omega
  rw [this]
 rw [e]
 have := pick_run xs i k
 rw [List.filterMap_map] at this
 have e2 : ((fun x => xs[x]?) ∘ fun x => i + x) = fun m => xs[i + m]? := rfl
 rw [e2] at this
 rw [this]
theorem getItem_tuple_cut {t sl : Addr} {items : Array Value} {vl vu : Value} {lo hi : Option Int} {Q : Value → Shared → Prop} (ht : IsTup s.heap t items) (hs : s.heap.IsSliceOf sl vl vu .none) (pl : IsPart vl lo) (pu : IsPart vu hi)
 (hw : ¬ (sIx items.size 0 lo = 0 ∧ sIx items.size items.size hi = items.size))
 (h : Q (.ref s.heap.objs.size) { s with heap := s.heap.push { cls := .type "tuple", data := .seq ((items.toList.drop (sIx items.size 0 lo)).take (sIx items.size items.size hi - sIx items.size 0 lo)).toArray } })
 (hsz : items.size ≤ sizeLine) : wpAny (model prog w) A (getItem (.ref t) (.ref sl)) Q E s := by
 have htake : sizeOk (.seq ((items.toList.drop (sIx items.size 0 lo)).take (sIx items.size items.size hi - sIx items.size 0 lo)).toArray) := by
  show ((items.toList.drop (sIx items.size 0 lo)).take (sIx items.size items.size hi - sIx items.size 0 lo)).toArray.size ≤ sizeLine
  rw [List.size_toArray, List.length_take, List.length_drop, Array.length_toList]
  omega
 have hj : sIx items.size items.size hi ≤ items.size := sIx_le _ _ (Nat.le_refl _) hi
 obtain ⟨os, hos, hcs, hds⟩ := id hs
 have hTs : s.TypeIs (.ref sl) "slice" := ⟨os, hos, hcs⟩
 unfold getItem
 try with_reducible refine wpAny_holding ?_
 first | refine wpAny_bind (wpAny_pure ?_) | skip
 refine wpAny_bind (wpAny_sequenceKey ht.typeIs (by decide) ?_)
 refine wpAny_bind (wpAny_callSpecial?_slot (name := Str.ofString "__getitem__") ht.typeIs PyProof.Rows.slot_tuple_getitem
  (wpAny_call_entry PyProof.Rows.slot_tuple_getitem ht.typeIs entry_tuple_getitem ?_ (args_tuple_getitem _ _)))
 show wpAny _ _ (Builtin.Tuple.tupleItemsOf (.ref t) >>= _) _ _ s
 refine wpAny_bind (tupleItemsOf_ ht ?_)
 refine wpAny_bind (wpAny_typeOf hTs ?_)
 rw [if_pos (by decide)]
 refine wpAny_bind (sliceApplied_gen hs pl pu ?_)
 have hno : ¬ ((((sIx items.size 0 lo : Nat) : Int) == 0 && (1 : Int) == 1 && (sIx items.size items.size hi - sIx items.size 0 lo) == items.size) = true) := by
  intro q
  rw [Bool.and_eq_true, Bool.and_eq_true] at q
  have q1 : ((sIx items.size 0 lo : Nat) : Int) = 0 := eq_of_beq q.1.1
  have q2 : sIx items.size items.size hi - sIx items.size 0 lo = items.size := eq_of_beq q.2
  exact hw ⟨by omega, by omega⟩
 show wpAny _ _ (if (((sIx items.size 0 lo : Nat) : Int) == 0 && (1 : Int) == 1 && (sIx items.size items.size hi - sIx items.size 0 lo) == items.size) = true then _ else _) _ _ s
 rw [if_neg hno, pick_gen]
 first
  | exact wpAny_bind (m := Builtin.Tuple.tupleExact _) (wpAny_newObj_type (wpAny_pure ⟨_, rfl, wpAny_pure h⟩) htake)
  | exact wpAny_bind (m := Builtin.Tuple.tupleExact _) (wpAny_newObj_type (wpAny_bind (wpAny_pure (wpAny_pure ⟨_, rfl, wpAny_pure h⟩))) htake)
  | exact wpAny_bind (wpAny_bind (m := Builtin.Tuple.tupleExact _) (wpAny_newObj_type (wpAny_pure (wpAny_pure ⟨_, rfl, wpAny_pure h⟩)) htake))
  | exact wpAny_bind (wpAny_bind (m := Builtin.Tuple.tupleExact _) (wpAny_newObj_type (wpAny_pure ⟨_, rfl, wpAny_pure h⟩) htake))
end
end HT
namespace L2
open PySem PySem.Spec PyProof.Rows
abbrev TO := St → Hp → (Option Int → Hp → Prop) → Prop
def PO (X : Cx) (e : Option Expr) (t : TO) : Prop :=
 ∀ (pins : List (Addr × Obj)) (s : Shared) (σ : St) (H : Hp) (Q : Option Int → Hp → Prop), Inv X pins σ H s → t σ H Q →
  wpAny (model X.prog X.w) X.A (evalPart e X.env) (fun u s' => ∃ o H', Inv X pins σ H' s' ∧ IsPart u o ∧ Q o H') X.xe s
def tNoPart : TO := fun _ H Q => Q none H
def tPart (t : TE) : TO := fun σ H Q => t σ H fun x H1 => ∃ i, x = .int i ∧ Q (some i) H1
section
variable {X : Cx} {e : Expr} {te : TE} {lo hi : Option Expr} {tl th : TO} {pos p2 : Pos}
theorem zt0 : PO X none tNoPart := by
 intro pins s σ H Q I h
 rw [evalPart_none]
 exact wpAny_pure ⟨none, H, I, .none, h⟩
theorem zo1 (h : PE X e te) : PO X (some e) (tPart te) := by
 intro pins s σ H Q I hw
 rw [evalPart_some]
 refine thn (h pins s σ H _ I hw) fun u s1 hq0 => ?_
 obtain ⟨x, H1, I1, r1, q1⟩ := hq0
 obtain ⟨i, rfl, q⟩ := q1
 obtain ⟨t, rfl⟩ := r1
 exact ⟨some i, H1, I1, .int i t, q⟩
def SlR (X : Cx) (r : V → Option Int → Option Int → Hp → VK → Prop) : Prop :=
 ∀ (pins : List (Addr × Obj)) (s : Shared) (σ : St) (H : Hp) (x : V) (v vl vu : Value) (lo hi : Option Int) (sl : Addr) (Q : VK), Inv X pins σ H s → RelV x v → s.heap.IsSliceOf sl vl vu .none → IsPart vl lo → IsPart vu hi → r x lo hi H Q →
  ∃ T id, typeLookup (.type T) "__getitem__" = pure (some (.builtin id)) ∧ s.TypeIs v T ∧ wpAny (model X.prog X.w) X.A (getItem v (.ref sl)) (EP X pins σ Q) X.xe s
def tSl (r : V → Option Int → Option Int → Hp → VK → Prop) (te : TE) (tl th : TO) : TE := fun σ H Q => te σ H fun x H1 => tl σ H1 fun l H2 => th σ H2 fun u H3 => r x l u H3 Q
theorem zn1 {r : V → Option Int → Option Int → Hp → VK → Prop} (hr : SlR X r) (he : PE X e te) (hl : PO X lo tl) (hu : PO X hi th) : PE X (.Subscript e (.Slice lo hi none p2) pos) (tSl r te tl th) := by
 intro pins s σ H Q I h
 refine Subscript_ (thn (he pins s σ H _ I h) fun v s1 hq0 => ?_)
 obtain ⟨x, H1, I1, r1, q1⟩ := hq0
 refine wpAny_Slice (thn (hl pins s1 σ H1 _ I1 q1) fun vl s2 ⟨l, H2, I2, pl, q2⟩ => thn (hu pins s2 σ H2 _ I2 q2) fun vu s3 hq0 => ?_)
 obtain ⟨u, H3, I3, pu, q3⟩ := hq0
 rw [evalPart_none]
 refine wpAny_pure ?_
 have I4 : Inv X pins σ H3 { s3 with heap := s3.heap.push { cls := .type "slice", data := .fields #[vl, vu, .none] } } := I3.kept (t' := s3.toks) fun b ob q => Heap.get?_push_of_some _ q
 obtain ⟨T, id, hT, ht, hg⟩ := hr pins { s3 with heap := s3.heap.push { cls := .type "slice", data := .fields #[vl, vu, .none] } } σ H3 x v vl vu l u s3.heap.objs.size Q I4 r1 (Heap.IsSliceOf.new ..) pl pu q3
 show wpAny (model X.prog X.w) X.A (subscriptTail e (.Slice lo hi none p2) v (.ref s3.heap.objs.size)) (EP X pins σ Q) X.xe { s3 with heap := s3.heap.push { cls := .type "slice", data := .fields #[vl, vu, .none] } }
 exact tail_any (ops := [.ref s3.heap.objs.size, v]) ht hT hg (by with_unfolding_all rfl)
def cutV (xs : List V) (lo hi : Option Int) : List V := (xs.drop (HT.sIx xs.length 0 lo)).take (HT.sIx xs.length xs.length hi - HT.sIx xs.length 0 lo)
theorem cutV_length (xs : List V) (lo hi : Option Int) : (cutV xs lo hi).length ≤ xs.length := by
 unfold cutV
 rw [List.length_take, List.length_drop]
 omega
def rSlT (K : PySem.W.Frag) : V → Option Int → Option Int → Hp → VK → Prop := fun x lo hi H Q => ∃ a xs, x = .ref a ∧ SqT K H a xs ∧
 ¬ (HT.sIx xs.length 0 lo = 0 ∧ HT.sIx xs.length xs.length hi = xs.length) ∧ ∀ p, H p = none → Q (.ref p) (upd H p (.tup (cutV xs lo hi)))
theorem sl_tup : SlR X (rSlT X.K) := by
 intro pins s σ H x v vl vu lo hi sl Q I rx hs pl pu h
 obtain ⟨a, xs, rfl, hx, hw, q⟩ := h
 cases rx
 obtain ⟨its, r, ht, hz⟩ := I.tuple hx
 have hlen : its.toArray.size = xs.length := by rw [List.size_toArray]; exact r.length.symm
 refine ⟨"tuple", _, PyProof.Rows.slot_tuple_getitem.lookup, ht.typeIs, ?_⟩
 refine HT.getItem_tuple_cut ht hs pl pu (by rw [hlen]; exact hw) ?_ (by rw [hlen]; exact hz)
 rw [hlen]
 refine ⟨.ref s.heap.objs.size, _, I.laid (t' := s.toks) (o := .tup (cutV xs lo hi)) (fun b ob q => Heap.get?_push_of_some _ q) (Nat.le_refl _) ?_, rfl, q _ (I.hok.fresh (Nat.le_refl _))⟩
 exact ⟨Nat.le_trans (cutV_length xs lo hi) hz, _, (r.drop (HT.sIx xs.length 0 lo)).take (HT.sIx xs.length xs.length hi - HT.sIx xs.length 0 lo), IsTup.new _ _⟩
def rCatT (K : PySem.W.Frag) : R2 := fun x y H Q => ∃ a b xs ys, x = .ref a ∧ y = .ref b ∧ SqT K H a xs ∧ SqT K H b ys ∧ xs ≠ [] ∧ xs.length + ys.length ≤ sizeLine ∧
 (ys = [] → Q (.ref a) H) ∧ (ys ≠ [] → ∀ p, H p = none → Q (.ref p) (upd H p (.tup (xs ++ ys))))
theorem Vals.nil_iff {xs : List V} {us : List Value} (r : Vals xs us) : us = [] ↔ xs = [] := by
 cases r with
 | nil => simp
 | cons _ _ => simp
theorem op_catT : OpR X (binaryOp .Add) (rCatT X.K) := by
 intro pins s σ H x y v u Q I rx ry h
 obtain ⟨a, b, xs, ys, rfl, rfl, ha, hb, hx, hz, q1, q2⟩ := h
 cases rx
 cases ry
 obtain ⟨its, r1, p1, _⟩ := I.tuple ha
 obtain ⟨its2, r2, p2, _⟩ := I.tuple hb
 refine HT.cat_tup p1 p2 (fun z => hx (r1.nil_iff.mp z)) (fun z => ⟨.ref a, H, I, rfl, q1 (r2.nil_iff.mp z)⟩) (fun z => ?_) (by rw [← r1.length, ← r2.length]; exact hz)
 refine ⟨.ref s.heap.objs.size, _, I.laid (t' := s.toks) (o := .tup (xs ++ ys)) (fun b ob q => Heap.get?_push_of_some _ q) (Nat.le_refl _) ?_, rfl, q2 (fun w => z (r2.nil_iff.mpr w)) _ (I.hok.fresh (Nat.le_refl _))⟩
 exact ⟨by rw [List.length_append]; exact hz, _, r1.append r2, IsTup.new _ _⟩
end
end L2
namespace L2
open PySem PySem.Spec PyProof.Rows
def ixN (n : Nat) (i : Int) : Option Nat := if 0 ≤ i then (if i < n then some i.toNat else none) else if -(n : Int) ≤ i then some (i + n).toNat else none
def atI {α : Type} (xs : List α) (i : Int) : Option α := (ixN xs.length i).bind fun j => xs[j]?
theorem ixN_seq {n : Nat} {i : Int} {j : Nat} (h : ixN n i = some j) : seqIndex? i n = some j ∧ j < n ∧ -(n : Int) ≤ i ∧ i < n := by
 unfold ixN at h
 by_cases h0 : 0 ≤ i
 · rw [if_pos h0] at h
   by_cases h1 : i < n
   · rw [if_pos h1] at h
     have e : i.toNat = j := Option.some.inj h
     exact ⟨by rw [seqIndex_of h0 h1, e], by omega, by omega, h1⟩
   · rw [if_neg h1] at h; cases h
 · rw [if_neg h0] at h
   by_cases h1 : -(n : Int) ≤ i
   · rw [if_pos h1] at h
     have e : (i + n).toNat = j := Option.some.inj h
     exact ⟨by rw [seqIndex_neg (by omega) h1, e], by omega, h1, by omega⟩
   · rw [if_neg h1] at h; cases h
theorem ya5 {α : Type} {xs : List α} {i : Int} {v : α} (h : atI xs i = some v) : ∃ j, seqIndex? i xs.length = some j ∧ xs[j]? = some v ∧ j < xs.length ∧ -(xs.length : Int) ≤ i ∧ i < xs.length := by
 unfold atI at h
 cases e : ixN xs.length i with
 | none => rw [e] at h; cases h
 | some j =>
  rw [e] at h
  obtain ⟨h1, h2, h3, h4⟩ := ixN_seq e
  exact ⟨j, h1, h, h2, h3, h4⟩
def PlainIx (b : Expr) : Prop := ∀ o i, subscripted b false o i = operate [o, i] (getItem o i)
def IxR (X : Cx) (r : R2) : Prop :=
 ∀ (value slice : Expr) (pins : List (Addr × Obj)) (s : Shared) (σ : St) (H : Hp) (x y : V) (v u : Value) (Q : VK), Inv X pins σ H s → RelV x v → RelV y u → r x y H Q →
  subscripted slice false v u = operate [v, u] (getItem v u) → wpAny (model X.prog X.w) X.A (subscriptTail value slice v u) (EP X pins σ Q) X.xe s
def MtR (X : Cx) (id : String) (r : V → List V → Hp → VK → Prop) : Prop :=
 ∀ (pins : List (Addr × Obj)) (s : Shared) (σ : St) (H : Hp) (x : V) (xs : List V) (v : Value) (us : List Value) (Q : VK), Inv X pins σ H s → RelV x v → Vals xs us → r x xs H Q →
  wpAny (model X.prog X.w) X.A (call (.builtin id) (v :: us)) (EP X pins σ Q) X.xe s
section
variable {X : Cx} {a b : Expr} {ta tb : TE} {pos : Pos}
theorem IxR.or {r r' : R2} (h : IxR X r) (h' : IxR X r') : IxR X (fun x y H Q => r x y H Q ∨ r' x y H Q) := by
 intro value slice pins s σ H x y v u Q I rx ry q hs
 rcases q with q | q
 · exact h value slice pins s σ H x y v u Q I rx ry q hs
 · exact h' value slice pins s σ H x y v u Q I rx ry q hs
theorem pe_ix {r : R2} (hr : IxR X r) (ha : PE X a ta) (hb : PE X b tb) (hs : PlainIx b) : PE X (.Subscript a b pos) (tOp r ta tb) := by
 intro pins s σ H Q I h
 exact Subscript_ (binT ha hb I h fun v u s2 x y H2 I2 rx ry q => hr a b pins s2 σ H2 x y v u Q I2 rx ry q (hs _ _))
def rIxL (K : PySem.W.Frag) : R2 := fun x y H Q => ∃ p xs i v, x = .ref p ∧ y = .int i ∧ SqL K H p xs ∧ atI xs i = some v ∧ Q v H
def rIxT (K : PySem.W.Frag) : R2 := fun x y H Q => ∃ p xs i v, x = .ref p ∧ y = .int i ∧ SqT K H p xs ∧ atI xs i = some v ∧ Q v H
def rIxS : R2 := fun x y H Q => ∃ z i c, x = .str z ∧ y = .int i ∧ z.length ≤ sizeLine ∧ atI z.cps.toList i = some c ∧ Q (.str ⟨#[c]⟩) H
theorem ix_list : IxR X (rIxL X.K) := by
 intro value slice pins s σ H x y v u Q I rx ry h hs
 obtain ⟨p, xs, i, z, rfl, rfl, hq, he, q⟩ := h
 cases rx
 obtain ⟨t, rfl⟩ := ry
 obtain ⟨its, r, pl, hz⟩ := I.list hq
 obtain ⟨j, h1, h2, h3, h4, h5⟩ := ya5 he
 obtain ⟨w, ew, rw'⟩ := r.get h2
 have hl := r.length
 have hn := zy8
 have fin : EP X pins σ Q w s := ⟨z, H, I, rw', q⟩
 by_cases h0 : 0 ≤ i
 · have hj : i.toNat = j := by
    rw [seqIndex_of h0 h5] at h1
    exact Option.some.inj h1
   exact item_listR pl.isList h0 (by omega) (by rw [hj]; simpa using ew) fin hs
 · have hj : (i + (its.toArray.size : Int)).toNat = j := by
    rw [seqIndex_neg (by omega) h4] at h1
    rw [List.size_toArray, ← hl]
    exact Option.some.inj h1
   exact subscriptTail_builtinR (x := w) pl.isList.typeIs slot_list_getitem.lookup
    (wpAny_getItem_list_neg (Q := fun r s' => r = w ∧ EP X pins σ Q r s') pl.isList (by omega) (by rw [List.size_toArray] <;> omega) (by omega) (by rw [hj]; simpa using ew) ⟨rfl, fin⟩) hs
theorem ix_tup : IxR X (rIxT X.K) := by
 intro value slice pins s σ H x y v u Q I rx ry h hs
 obtain ⟨p, xs, i, z, rfl, rfl, hq, he, q⟩ := h
 cases rx
 obtain ⟨t, rfl⟩ := ry
 obtain ⟨its, r, pl, hz⟩ := I.tuple hq
 obtain ⟨j, h1, h2, h3, h4, h5⟩ := ya5 he
 obtain ⟨w, ew, rw'⟩ := r.get h2
 have hl := r.length
 have hn := zy8
 have fin : EP X pins σ Q w s := ⟨z, H, I, rw', q⟩
 exact subscriptTail_builtinR (x := w) pl.typeIs slot_tuple_getitem.lookup
  (getItem_tuple (j := j) (Q := fun r s' => r = w ∧ EP X pins σ Q r s') pl (by omega) (by omega) (by rw [List.size_toArray, ← hl]; exact h1) (by simpa using ew) ⟨rfl, fin⟩) hs
theorem ix_str : IxR X rIxS := by
 intro value slice pins s σ H x y v u Q I rx ry h hs
 obtain ⟨z, i, c, rfl, rfl, hz, he, q⟩ := h
 obtain ⟨t, rfl⟩ := rx
 obtain ⟨t', rfl⟩ := ry
 obtain ⟨j, h1, h2, h3, h4, h5⟩ := ya5 he
 have hl : z.cps.toList.length = z.length := by simp [Str.length]
 rw [hl] at h1 h4 h5
 have hn := zy8
 exact tail_any (typeIs_str s z t) slot_str_getitem.lookup (getItem_str (c := c) (by
  have e1 : decide (i < -(2 ^ 63 : Int)) = false := decide_eq_false (by omega)
  have e2 : decide (i ≥ 2 ^ 63) = false := decide_eq_false (by omega)
  rw [e1, e2, Bool.or_false]) (by rw [h1]; simpa using h2) ⟨.str ⟨#[c]⟩, H, I.tok _, ⟨_, rfl⟩, q⟩) hs
def rIx (K : PySem.W.Frag) : R2 := fun x y H Q => rIxL K x y H Q ∨ rIxT K x y H Q ∨ rIxS x y H Q
theorem ix_seq : IxR X (rIx X.K) := ix_list.or (ix_tup.or ix_str)
theorem slice_bounds (lo hi : Option Int) (n : Nat) : (sliceBounds lo hi none n).1 = ((HT.sIx n 0 lo : Nat) : Int) ∧ (sliceBounds lo hi none n).2.1 = ((HT.sIx n n hi : Nat) : Int) ∧ (sliceBounds lo hi none n).2.2 = 1 := by
 refine ⟨?_, ?_, rfl⟩
 · cases lo with
   | none => simp [sliceBounds, HT.sIx]
   | some i =>
    simp only [sliceBounds, HT.sIx, Option.getD_none, show (1 : Int) > 0 by decide, if_true]
    by_cases h : i < 0
    · simp only [h, if_true] <;> omega
    · simp only [h, if_false] <;> omega
 · cases hi with
   | none => simp [sliceBounds, HT.sIx]
   | some i =>
    simp only [sliceBounds, HT.sIx, Option.getD_none, show (1 : Int) > 0 by decide, if_true]
    by_cases h : i < 0
    · simp only [h, if_true] <;> omega
    · simp only [h, if_false] <;> omega
theorem slicePick_cut (its : List Value) (lo hi : Option Int) : slicePick its.toArray lo hi none = ((its.drop (HT.sIx its.length 0 lo)).take (HT.sIx its.length its.length hi - HT.sIx its.length 0 lo)).toArray := by
 obtain ⟨h1, h2, h3⟩ := slice_bounds lo hi its.toArray.size
 unfold slicePick
 rw [h1, h2, h3]
 simp only [sliceRange_one, pick_run, List.size_toArray] <;> rfl
def rSlL (K : PySem.W.Frag) : V → Option Int → Option Int → Hp → VK → Prop := fun x lo hi H Q => ∃ a xs, x = .ref a ∧ SqL K H a xs ∧ ∀ p, H p = none → Q (.ref p) (upd H p (.lst (cutV xs lo hi)))
theorem sl_list : SlR X (rSlL X.K) := by
 intro pins s σ H x v vl vu lo hi sl Q I rx hs pl pu h
 obtain ⟨a, xs, rfl, hx, q⟩ := h
 cases rx
 obtain ⟨its, r, ht, hz⟩ := I.list hx
 have hlen := r.length
 refine ⟨"list", _, slot_list_getitem.lookup, ht.isList.typeIs, ?_⟩
 refine wpAny_getItem_list_slice ht.isList hs pl pu .none (by simp) ?_ (by rw [List.size_toArray] <;> omega)
 rw [slicePick_cut, ← hlen]
 refine ⟨.ref s.heap.objs.size, _, I.laid (t' := s.toks) (o := .lst (cutV xs lo hi)) (fun b ob q => Heap.get?_push_of_some _ q) (Nat.le_refl _) ?_, rfl, q _ (I.hok.fresh (Nat.le_refl _))⟩
 exact ⟨Nat.le_trans (cutV_length xs lo hi) hz, _, 0, (r.drop (HT.sIx xs.length 0 lo)).take (HT.sIx xs.length xs.length hi - HT.sIx xs.length 0 lo), Heap.get?_push_size _ rfl⟩
def flatV : V → Bool
 | .non => true
 | .bl _ => true
 | .int _ => true
 | .str _ => true
 | _ => false
def eqV : V → V → Bool
 | .non, .non => true
 | .bl a, .bl b => a == b
 | .bl a, .int b => (if a then 1 else 0) == b
 | .int a, .bl b => a == (if b then 1 else 0)
 | .int a, .int b => a == b
 | .str a, .str b => a == b
 | _, _ => false
theorem eqAt_V {A : Around} {s : Shared} {y x : V} {u v : Value} (ry : RelV y u) (rx : RelV x v) (fy : flatV y = true) (fx : flatV x = true) : SeqAt.EqAt A s u v (eqV y x) := by
 cases y with
 | non =>
  cases ry
  cases x with
  | non => cases rx; exact SeqAt.EqAt.same _
  | bl b => cases rx; exact SeqAt.EqAt.none_bool b
  | int b => obtain ⟨t, rfl⟩ := rx; exact SeqAt.EqAt.none_int b t
  | str b => obtain ⟨t, rfl⟩ := rx; exact SeqAt.EqAt.none_str b t
  | _ => exact absurd (show false = true from fx) Bool.false_ne_true
 | bl a =>
  cases ry
  cases x with
  | non => cases rx; exact SeqAt.EqAt.bool_none a
  | bl b => cases rx; exact SeqAt.EqAt.bool_bool a b
  | int b => obtain ⟨t, rfl⟩ := rx; exact SeqAt.EqAt.bool_int a b t
  | str b => obtain ⟨t, rfl⟩ := rx; exact SeqAt.EqAt.bool_str a b t
  | _ => exact absurd (show false = true from fx) Bool.false_ne_true
 | int a =>
  obtain ⟨t', rfl⟩ := ry
  cases x with
  | non => cases rx; exact SeqAt.EqAt.int_none a t'
  | bl b => cases rx; exact SeqAt.EqAt.int_bool a t' b
  | int b => obtain ⟨t, rfl⟩ := rx; exact SeqAt.EqAt.int_int a t' b t
  | str b => obtain ⟨t, rfl⟩ := rx; exact SeqAt.EqAt.int_str a t' b t
  | _ => exact absurd (show false = true from fx) Bool.false_ne_true
 | str a =>
  obtain ⟨t', rfl⟩ := ry
  cases x with
  | non => cases rx; exact SeqAt.EqAt.str_none a t'
  | bl b => cases rx; exact SeqAt.EqAt.str_bool a t' b
  | int b => obtain ⟨t, rfl⟩ := rx; exact SeqAt.EqAt.str_int a t' b t
  | str b => obtain ⟨t, rfl⟩ := rx; exact SeqAt.EqAt.str_str a t' b t
  | _ => exact absurd (show false = true from fx) Bool.false_ne_true
 | _ => exact absurd (show false = true from fy) Bool.false_ne_true
def eqU (x : V) (u : Value) : Bool := match u with
 | .none => eqV .non x
 | .bool b => eqV (.bl b) x
 | .int i _ => eqV (.int i) x
 | .str z _ => eqV (.str z) x
 | _ => false
theorem eqU_of {x y : V} {u : Value} (r : RelV y u) (f : flatV y = true) : eqU x u = eqV y x := by
 cases y with
 | non => cases r; rfl
 | bl b => cases r; rfl
 | int i => obtain ⟨t, rfl⟩ := r; rfl
 | str z => obtain ⟨t, rfl⟩ := r; rfl
 | _ => exact absurd (show false = true from f) Bool.false_ne_true
theorem zy1 {x : V} : ∀ {xs : List V} {us : List Value}, Vals xs us → xs.all flatV = true → us.any (eqU x) = xs.any fun y => eqV y x
 | _, _, .nil, _ => rfl
 | y :: xs, u :: us, .cons r t, f => by
  rw [List.all_cons, Bool.and_eq_true] at f
  rw [List.any_cons, List.any_cons, eqU_of r f.1, zy1 t f.2]
theorem zu5 {A : Around} {s : Shared} {x : V} {v : Value} (rx : RelV x v) (fx : flatV x = true) : ∀ {xs : List V} {us : List Value}, Vals xs us → xs.all flatV = true → ∀ u ∈ us, SeqAt.EqAt A s u v (eqU x u)
 | _, _, .nil, _ => fun u hu => by cases hu
 | y :: xs, u :: us, .cons r t, f => fun u' hu => by
  rw [List.all_cons, Bool.and_eq_true] at f
  rcases List.mem_cons.mp hu with rfl | hu
  · rw [eqU_of r f.1]; exact eqAt_V r rx f.1 fx
  · exact zu5 rx fx t f.2 u' hu
def inV (x : V) (xs : List V) : Bool := xs.any fun y => eqV y x
def rIn (K : PySem.W.Frag) (neg : Bool) : R2 := fun x y H Q => ∃ p xs, y = .ref p ∧ (SqL K H p xs ∨ SqT K H p xs) ∧ flatV x = true ∧ xs.all flatV = true ∧ Q (.bl (if neg then !inV x xs else inV x xs)) H
theorem op_in_seq : OpR X (compareOp .In) (rIn X.K false) := by
 intro pins s σ H x y v u Q I rx ry h
 obtain ⟨p, xs, rfl, hq, fx, fs, q⟩ := h
 cases ry
 rcases hq with hq | hq
 · obtain ⟨its, r, pl, hz⟩ := I.list hq
   refine SeqAt.in_listAt (eqU x) pl.isList (fun w hw => zu5 rx fx r fs w (by simpa using hw)) ⟨.bl _, H, I, rfl, ?_⟩
   rw [show its.toArray.any (eqU x) = its.any (eqU x) by simp, zy1 r fs]
   exact q
 · obtain ⟨its, r, pl, hz⟩ := I.tuple hq
   refine SeqAt.in_tupleAt (eqU x) pl (fun w hw => zu5 rx fx r fs w (by simpa using hw)) ⟨.bl _, H, I, rfl, ?_⟩
   rw [show its.toArray.any (eqU x) = its.any (eqU x) by simp, zy1 r fs]
   exact q
theorem op_notIn_seq : OpR X (compareOp .NotIn) (rIn X.K true) := by
 intro pins s σ H x y v u Q I rx ry h
 obtain ⟨p, xs, rfl, hq, fx, fs, q⟩ := h
 cases ry
 rcases hq with hq | hq
 · obtain ⟨its, r, pl, hz⟩ := I.list hq
   refine SeqAt.notIn_listAt (eqU x) pl.isList (fun w hw => zu5 rx fx r fs w (by simpa using hw)) ⟨.bl _, H, I, rfl, ?_⟩
   rw [show its.toArray.any (eqU x) = its.any (eqU x) by simp, zy1 r fs]
   exact q
 · obtain ⟨its, r, pl, hz⟩ := I.tuple hq
   refine SeqAt.notIn_tupleAt (eqU x) pl (fun w hw => zu5 rx fx r fs w (by simpa using hw)) ⟨.bl _, H, I, rfl, ?_⟩
   rw [show its.toArray.any (eqU x) = its.any (eqU x) by simp, zy1 r fs]
   exact q
theorem call_len_seq : CallR X (.builtin "len") (fun xs H Q => ∃ p ys, xs = [.ref p] ∧ (SqL X.K H p ys ∨ SqT X.K H p ys) ∧ Q (.int ys.length) H) := by
 intro pins s σ H xs us Q I r h
 obtain ⟨p, ys, rfl, hq, q⟩ := h
 obtain ⟨u, rfl, rx⟩ := vals1 r
 cases rx
 have hn := zy8
 rcases hq with hq | hq
 · obtain ⟨its, r', pl, hz⟩ := I.list hq
   have hlen := r'.length
   exact Calls.call_len_list pl.isList (by simp only [List.size_toArray] <;> omega) ⟨.int ys.length, H, I.tok _, ⟨s.toks + 1, by rw [List.size_toArray, hlen]⟩, q⟩
 · obtain ⟨its, r', pl, hz⟩ := I.tuple hq
   have hlen := r'.length
   exact len_tuple pl (by simp only [List.size_toArray] <;> omega) ⟨.int ys.length, H, I.tok _, ⟨s.toks + 1, by rw [List.size_toArray, hlen]⟩, q⟩
theorem call_len_str : CallR X (.builtin "len") (fun xs H Q => ∃ z, xs = [.str z] ∧ z.length ≤ sizeLine ∧ Q (.int z.length) H) := by
 intro pins s σ H xs us Q I r h
 obtain ⟨z, rfl, hz, q⟩ := h
 obtain ⟨u, rfl, t, rfl⟩ := vals1 r
 have hn := zy8
 exact len_str (by omega) ⟨.int z.length, H, I.tok _, ⟨_, rfl⟩, q⟩
theorem CallR.or {f : Value} {r r' : List V → Hp → VK → Prop} (h : CallR X f r) (h' : CallR X f r') : CallR X f (fun xs H Q => r xs H Q ∨ r' xs H Q) := by
 intro pins s σ H xs us Q I rs q
 rcases q with q | q
 · exact h pins s σ H xs us Q I rs q
 · exact h' pins s σ H xs us Q I rs q
theorem call_list_of : CallR X (.type "list") (fun xs H Q => ∃ p ys, xs = [.ref p] ∧ (SqL X.K H p ys ∨ SqT X.K H p ys) ∧ ∀ l, H l = none → Q (.ref l) (upd H l (.lst ys))) := by
 intro pins s σ H xs us Q I r h
 obtain ⟨p, ys, rfl, hq, q⟩ := h
 obtain ⟨u, rfl, rx⟩ := vals1 r
 cases rx
 have fin : ∀ (its : List Value), Vals ys its → ys.length ≤ sizeLine → ∀ (h' : Heap) (c' : Nat), (∀ b o', s.heap.get? b = some o' → h'.get? b = some o') →
  h'.get? s.heap.objs.size = some { cls := .type "list", dict := none, data := .seq its.toArray c', slots := #[] } → EP X pins σ Q (.ref s.heap.objs.size) { s with heap := h' } := fun its r' hz h' c' kp e =>
  ⟨.ref s.heap.objs.size, _, I.laid (t' := s.toks) kp (Nat.le_refl _) (show ObjOk X.prog X.w _ h' _ (.lst ys) from ⟨hz, its, c', r', e⟩), rfl, q _ (I.hok.fresh (Nat.le_refl _))⟩
 rcases hq with hq | hq
 · obtain ⟨its, r', pl, hz⟩ := I.list hq
   have hlen := r'.length
   obtain ⟨o, ho, hc, n, hd⟩ := pl.isList
   exact call_list_seq p (.inl rfl) ho hc hd (fun h' c' kp e => fin its r' hz h' c' kp e) (by simp only [List.size_toArray] <;> omega)
 · obtain ⟨its, r', pl, hz⟩ := I.tuple hq
   have hlen := r'.length
   obtain ⟨o, ho, hc, n, hd⟩ := pl
   exact call_list_seq p (.inr rfl) ho hc hd (fun h' c' kp e => fin its r' hz h' c' kp e) (by simp only [List.size_toArray] <;> omega)
def tyV (K : PySem.W.Frag) (T : String) (x : V) (H : Hp) : Prop := match x with
 | .str _ => T = "str"
 | .int _ => T = "int"
 | .ref p => (T = "list" ∧ ∃ xs, SqL K H p xs) ∨ (T = "tuple" ∧ ∃ o, K.lookup p = some o ∧ o.cls = .type "tuple" ∧ o.dict = none) ∨
  (T = "dict" ∧ ((∃ kvs, H p = some (.dK kvs)) ∨ ∃ kvs, H p = some (.dT kvs))) ∨ (T = "set" ∧ ∃ S n, H p = some (.set S n))
 | _ => False
theorem tyV_is {pins : List (Addr × Obj)} {σ : St} {H : Hp} {s : Shared} {T : String} {x : V} {v : Value} (I : Inv X pins σ H s) (r : RelV x v) (ty : tyV X.K T x H) :
 s.TypeIs v T ∧ ∀ a, v = .ref a → ∃ ob, s.heap.get? a = some ob ∧ ob.dict = none := by
 cases x with
 | str z =>
  obtain ⟨t, rfl⟩ := r
  cases (show T = "str" from ty)
  exact ⟨typeIs_str s z t, fun _ e => nomatch e⟩
 | int i =>
  obtain ⟨t, rfl⟩ := r
  cases (show T = "int" from ty)
  exact ⟨typeIs_int s i t, fun _ e => nomatch e⟩
 | ref p =>
  cases r
  rcases ty with ⟨rfl, xs, hq⟩ | ⟨rfl, o, hk, hc, hd⟩ | ⟨rfl, hk⟩ | ⟨rfl, S, n, hk⟩
  · obtain ⟨its, _, pl, _⟩ := I.list hq
    refine ⟨pl.isList.typeIs, fun a e => ?_⟩
    cases e
    obtain ⟨o, n, e, c, hd, _⟩ := pl
    exact ⟨o, e, hd⟩
  · refine ⟨⟨o, I.kIn p o hk, hc⟩, fun a e => ?_⟩
    cases e
    exact ⟨o, I.kIn _ o hk, hd⟩
  · have z : ∃ o, s.heap.get? p = some o ∧ o.ExactDict := by
     rcases hk with ⟨kvs, hk⟩ | ⟨kvs, hk⟩
     · obtain ⟨_, _, _, _, o, _, _, e, ex, _⟩ := I.hok p _ hk
       exact ⟨o, e, ex⟩
     · obtain ⟨_, _, _, _, o, _, _, e, ex, _⟩ := I.hok p _ hk
       exact ⟨o, e, ex⟩
    obtain ⟨o, e, ex⟩ := z
    refine ⟨⟨o, e, ex.1⟩, fun a e2 => ?_⟩
    cases e2
    exact ⟨o, e, ex.2.1⟩
  · obtain ⟨o, _, _, _, e, ex, _⟩ := I.hok p _ hk
    refine ⟨⟨o, e, ex.1⟩, fun a e2 => ?_⟩
    cases e2
    exact ⟨o, e, ex.2.1⟩
 | _ => exact False.elim ty
def tBM0 (K : PySem.W.Frag) (T : String) (r : V → List V → Hp → VK → Prop) (to : TE) : TE := fun σ H Q => to σ H fun x H1 => tyV K T x H1 ∧ r x [] H1 Q
def tBM (K : PySem.W.Frag) (T : String) (r : V → List V → Hp → VK → Prop) (to : TE) (t : TA) : TE := fun σ H Q => to σ H fun x H1 => tyV K T x H1 ∧ t σ H1 fun xs H2 => r x xs H2 Q
variable {o e : Expr} {es : List Expr} {to : TE} {t : TA} {name : Str} {apos cpos : Pos} {T id : String} {r : V → List V → Hp → VK → Prop}
theorem pe_bm0 (pa : PlainAttrs T) (slot : Slot T name id) (hty : typeOf (.builtin id) = pure (.type "method_descriptor")) (hm : MtR X id r) (ho : PE X o to)
 (hbase : attributeBase o name X.env (eval o X.env) = eval o X.env := by rfl) (hline : (apos.endLine == cpos.line) = true := by rfl) : PE X (.Call (.Attribute o name apos) [] [] cpos) (tBM0 X.K T r to) := by
 intro pins s σ H Q I h
 refine wpAny_Call_method0_late hbase hline (thn (ho pins s σ H _ I h) fun v s1 hq0 => ?_)
 obtain ⟨x, H1, I1, r1, ty, q1⟩ := hq0
 obtain ⟨h1, h2⟩ := tyV_is I1 r1 ty
 exact ⟨T, id, pa, slot, hty, h1, h2, Calls.callWith_builtin rfl (PySem.evalArgs_none (hm pins s1 σ H1 x [] v [] Q I1 r1 .nil q1))⟩
theorem pe_bm (pa : PlainAttrs T) (slot : Slot T name id) (hty : typeOf (.builtin id) = pure (.type "method_descriptor")) (hm : MtR X id r) (ho : PE X o to) (ha : PA X (e :: es) t)
 (hbase : attributeBase o name X.env (eval o X.env) = eval o X.env := by rfl)
 (hfew : ((backTo cpos (starEach (e :: es) X.env)).all (fun x => !x.1) && (backToKw cpos (keywordEach [] X.env)).all (fun x => x.1.isSome)
  && decide ((e :: es).length + ([] : List Keyword).length + (if ([] : List Keyword).isEmpty then 0 else 1) < 30)) = true := by rfl)
 (hline : (apos.endLine == cpos.line) = true := by rfl) (hs : starEach (e :: es) X.env = (false, eval e X.env) :: starEach es X.env := by rfl) (hplain : (backTo cpos (starEach es X.env)).any (·.1) = false := by rfl) :
 PE X (.Call (.Attribute o name apos) (e :: es) [] cpos) (tBM X.K T r to t) := by
 intro pins s σ H Q I h
 refine wpAny_Call_method_late hbase hfew hline rfl (thn (ho pins s σ H _ I h) fun v s1 hq0 => ?_)
 obtain ⟨x, H1, I1, r1, ty, q1⟩ := hq0
 obtain ⟨h1, h2⟩ := tyV_is I1 r1 ty
 refine ⟨T, id, pa, slot, hty, h1, h2, ?_⟩
 have hA := ha cpos pins s1 σ H1 _ I1 q1
 rw [hs] at hA ⊢
 refine Calls.callWith_builtin (by show (false || (backTo cpos (starEach es X.env)).any (·.1)) = false; rw [hplain] <;> rfl) (Calls.evalArgs_plain ?_)
 exact thn hA fun us s2 ⟨vs, H2, I2, r2, q2⟩ => hm pins s2 σ H2 x vs v us Q I2 r1 r2 q2
end
end L2
namespace L2
open PySem PySem.Spec PyProof.Rows
def MtM (X : Cx) (id : String) (r : V → List V → Hp → VK → Prop) : Prop :=
 ∀ (pins : List (Addr × Obj)) (s : Shared) (σ : St) (H : Hp) (x : V) (xs : List V) (v : Value) (us : List Value) (Q : VK), Inv X pins σ H s → RelV x v → Vals xs us → r x xs H Q →
  wpAny (model X.prog X.w) X.A (call (.builtin id) (v :: us)) (EP X pins σ Q) X.xe s
theorem Vals.one : ∀ {x : V} {us : List Value}, Vals [x] us → ∃ u, us = [u] ∧ RelV x u
 | _, _, .cons r .nil => ⟨_, rfl, r⟩
theorem Vals.zero : ∀ {us : List Value}, Vals [] us → us = []
 | _, .nil => rfl
theorem Vals.dropLast {xs : List V} {us : List Value} (h : Vals xs us) : Vals xs.dropLast us.dropLast := by
 induction h with
 | nil => exact .nil
 | cons r t ih =>
  cases t with
  | nil => exact .nil
  | cons q t' => exact .cons r ih
theorem erase_last {α : Type} (l : List α) : l.eraseIdx (l.length - 1) = l.dropLast := by
 induction l with
 | nil => rfl
 | cons a r ih =>
  cases r with
  | nil => rfl
  | cons b r =>
   have e : (a :: b :: r).length - 1 = ((b :: r).length - 1) + 1 := by
    have h1 : (a :: b :: r).length = r.length + 2 := rfl
    have h2 : (b :: r).length = r.length + 1 := rfl
    omega
   rw [e, List.eraseIdx_cons_succ, ih]
   all_goals rfl
section
variable {X : Cx} {pins : List (Addr × Obj)} {σ : St} {H : Hp} {s : Shared} {l b : Addr} {xs ys zs : List V}
theorem Inv.lset {its its' : List Value} {n : Nat} {f : Array Value → Array Value} {t' : Nat} (I : Inv X pins σ H s) (hH : H l = some (.lst xs))
 (e : s.heap.get? l = some { cls := .type "list", data := .seq its.toArray n }) (hf : f its.toArray = its'.toArray) (hv : Vals ys its') (hz : ys.length ≤ sizeLine) :
 Inv X pins σ (upd H l (.lst ys)) { s with heap := s.heap.update l (Obj.mapSeq f), toks := t' } := by
 have q := PySem.IsL.update e f
 rw [hf] at q
 refine I.write (x := l) (e := l) (by rw [hH]; exact trivial) (.inl rfl) (fun b' u hb hu => (Heap.get?_update_other s.heap (Obj.mapSeq f) (Ne.symm hb)).trans hu) ⟨_, q⟩ ?_
 exact ⟨hz, its', _, hv, q⟩
theorem Inv.lnew {its : List Value} {t' : Nat} (I : Inv X pins σ H s) (hv : Vals ys its) (hz : ys.length ≤ sizeLine) :
 Inv X pins σ (upd H s.heap.objs.size (.lst ys)) { s with heap := s.heap.push { cls := .type "list", data := .seq its.toArray }, toks := t' } :=
 I.laid (fun _ _ q => Heap.get?_push_of_some _ q) (Nat.le_refl _) ⟨hz, its, 0, hv, Heap.get?_push_size _ rfl⟩
theorem Inv.fresh (I : Inv X pins σ H s) : H s.heap.objs.size = none := I.hok.fresh (Nat.le_refl _)
theorem Inv.lstM (I : Inv X pins σ H s) (hH : H l = some (.lst xs)) : xs.length ≤ sizeLine ∧ ∃ (its : List Value) (n : Nat), Vals xs its ∧ xs.length = its.length ∧ s.heap.get? l = some { cls := .type "list", data := .seq its.toArray n } := by
 obtain ⟨z, its, n, r, e⟩ := I.hok l _ hH
 exact ⟨z, its, n, r, r.length, e⟩
theorem notLongL {n : Nat} (h : n ≤ sizeLine) : Builtin.List.listTooLong n = false := by
 unfold Builtin.List.listTooLong
 exact decide_eq_false (by omega)
end
section
variable {X : Cx}
def yd4 : V → List V → Hp → VK → Prop := fun x vs H Q => ∃ l xs y, x = .ref l ∧ vs = [y] ∧ H l = some (.lst xs) ∧ xs.length < sizeLine ∧ Q .non (upd H l (.lst (xs ++ [y])))
theorem zp7 : MtM X "list.append" yd4 := by
 intro pins s σ H x vs v us Q I rx rv h
 obtain ⟨l, xs, y, rfl, rfl, hH, hz, q⟩ := h
 cases rx
 obtain ⟨u, rfl, ru⟩ := rv.one
 obtain ⟨z, its, n, r, hl, e⟩ := I.lstM hH
 refine call_meets F.slot_list_append ⟨_, e, rfl⟩ F.entry_list_append (F.args_list_append_2 _ _) (PySem.list_append l its.toArray n u (by rw [List.size_toArray]; omega)) ⟨e, ?_⟩
 refine ⟨.non, _, I.lset (its' := its ++ [u]) hH e (by simp) (r.append (.cons ru .nil)) ?_, rfl, q⟩
 rw [List.length_append, List.length_singleton]
 omega
def rPop : V → List V → Hp → VK → Prop := fun x vs H Q => ∃ l xs y, x = .ref l ∧ vs = [] ∧ H l = some (.lst xs) ∧ xs[xs.length - 1]? = some y ∧ Q y (upd H l (.lst xs.dropLast))
theorem mt_pop : MtM X "list.pop" rPop := by
 intro pins s σ H x vs v us Q I rx rv h
 obtain ⟨l, xs, y, rfl, rfl, hH, hy, q⟩ := h
 cases rx
 have hus := rv.zero
 subst hus
 obtain ⟨z, its, n, r, hl, e⟩ := I.lstM hH
 obtain ⟨u, hu, ru⟩ := r.get hy
 have hy' : its.toArray[its.toArray.size - 1]? = some u := by
  show its.toArray[its.length - 1]? = some u
  rw [← Array.getElem?_toList, ← hl]
  exact hu
 refine call_meets F.slot_list_pop ⟨_, e, rfl⟩ F.entry_list_pop (F.args_list_pop_1 _) (MeetsSeq.list_pop_last l its.toArray n u hy' (by rw [List.size_toArray]; omega)) ⟨e, ?_⟩
 refine ⟨y, _, I.lset (its' := its.dropLast) hH e ?_ r.dropLast ?_, ru, q⟩
 · show its.toArray.eraseIdxIfInBounds (its.toArray.size - 1) = its.dropLast.toArray
   rw [List.size_toArray, List.eraseIdxIfInBounds_toArray, erase_last]
 · rw [List.length_dropLast]
   omega
end
section
variable {prog : Program} {w : World} {A : Around} {E : Value → Shared → Prop} {s : Shared}
end
section
variable {X : Cx}
end
end L2
namespace Att
open PySem PySem.W PySem.Calls PyProof.Rows
theorem ints_of_wellAll {P : Params} {h : Heap} : ∀ (ns : List Int) (vs : List Value), WellAll P h vs (ns.map WData.int) → IntsAre vs ns := by
 intro ns
 induction ns with
 | nil =>
  intro vs w
  rw [List.map_nil] at w
  cases w
  exact .nil
 | cons n ns ih =>
  intro vs w
  rw [List.map_cons] at w
  cases w with
  | cons a b =>
   cases a
   exact .cons _ _ (ih _ b)
theorem script_of {l : OpenLaw} {n : Nat} (hn : l.most = some n) {P : Params} {h : Heap} {args : List WData} {vals : List Value}
 (hpre : l.row.toRowW.claim.pre args = true) (hwl : WellAll P h vals args) :
 ∃ a vs ns, vals = [Value.ref a] ∧ args = [WData.list (ns.map WData.int)] ∧ h.get? a = some { cls := .type "list", data := .seq vs.toArray } ∧ IntsAre vs ns ∧ ns.length ≤ n := by
 have hsh : WShape.hasAll [] args [.list .int] = true := (pre_splitW hpre).1
 have hc : l.pre.holds [] { args := args } = true := (pre_splitW hpre).2
 obtain ⟨d, r, rfl, h1, h2⟩ := hasAllW_cons hsh
 obtain rfl := hasAllW_nil h2
 obtain ⟨xs, rfl, h3⟩ := hasW_list h1
 obtain ⟨ns, rfl⟩ := items_int h3
 have hlen : ns.length ≤ n := by
  unfold OpenLaw.pre at hc
  have h4 : (WTm.not (.lt (.lit (.int (n : Int))) (.len (.arg 0)))).holds [] { args := [.list (ns.map .int)] } = true := by
   have h4 := (holds_andW hc).1
   rw [hn] at h4
   exact h4
  have h5 := condW_of h4 (w_not (w_lt w_lit (w_len_list (w_arg rfl))))
  rw [List.length_map] at h5
  refine Nat.le_of_not_lt fun q => ?_
  have q' : (n : Int) < ((ns.length : Nat) : Int) := by omega
  first
   | (rw [decide_eq_true q'] at h5; exact absurd h5 (by decide))
   | (simp at h5; omega)
 cases hwl with
 | cons w1 w2 =>
  cases w2
  cases w1 with
  | list ho hall => exact ⟨_, _, ns, rfl, rfl, ho, ints_of_wellAll ns _ hall, hlen⟩
theorem post_true (l : OpenLaw) (args : List WData) : l.row.toRowW.claim.post args (.bool true) args = true :=
 postW_of (r := l.row.toRowW) (X := (true == true))
  (show WShape.has [] (.bool true) .bool = true by first | rfl | decide | simp [WShape.has, WShape.arms, WShape.armsAll])
  (show (WTm.eq .res (.lit (.bool true))).value [] { args := args, res := some (.bool true), after := args } = some (.bool (true == true)) from w_eq_bool (w_res rfl) w_lit) rfl
theorem attach_call {l : OpenLaw} {n : Nat} {q : Program} {loose : List Str} {XP : (Str → Option Value) → Heap → Prop} {YP : World → Heap → Prop} {d : DefRec}
 (hn : l.most = some n) (hdf : d.params.defaults = [])
 (call : ∀ (w : World) (s₀ s₁ : Shared) (mg mb : Str → Option Value) (fa : Addr) (o : Obj) (pm cd doc : Value) (a : Addr) (vs : List Value) (ns : List Int),
  Ground q loose [] XP w s₀ mg mb s₁.heap → YP w s₁.heap →
  s₁.heap.get? fa = some o → o.data = .func (docDef d.name d.params d.body d.scope pm cd doc) → s₁.heap.CodeRec cd d.name → mg d.name = some (.ref fa) →
  s₁.heap.get? a = some { cls := .type "list", data := .seq vs.toArray } → IntsAre vs ns → ns.length ≤ n → s₁.gens = #[] →
  codeAny (model l.prog w) callerA (.call (.ref fa) ⟨[.ref a], []⟩) (fun r s' => r = .ok (.ret (.bool true)) ∧ OldK s₁.heap s'.heap ∧ s'.os = s₁.os ∧ AllBare s'.gens) s₁) :
 WalkO q loose XP YP l.row.toRowW d [] (fun f vs => PySem.call f vs) := by
 intro w s₀ s₁ mg mb G Y fa o pm cd doc dV kV ho hd hcd hD hmg hg args vals as hpre hlay hrd hwl hlo
 obtain rfl : dV = .none := Dflts.none hD hdf
 obtain rfl : kV = .none := Dflts.noKw hD
 obtain ⟨a, vs, ns, rfl, rfl, hobj, hints, hlen⟩ := script_of hn hpre hwl
 refine enter_call (codeAny_mono (call w s₀ s₁ mg mb fa o pm cd doc a vs ns G Y ho (fd_plain hd) hcd hmg hobj hints hlen hg) fun r s' hq => ?_)
 obtain ⟨rfl, h2, h3, h4⟩ := hq
 exact ⟨.inl ⟨.bool true, .bool true, [], rfl, fun _ => rfl, .bool true, post_true l _, fun _ => ⟨List.Pairwise.nil, fun _ hm => (nomatch hm)⟩⟩, h2, h3, h4⟩
section
variable {prog : Program} {w : World} {A : Around} {E : Value → Shared → Prop} {s : Shared} {K : Frag}
end
end Att
namespace L2
open PySem PySem.Spec PyProof.Rows
theorem vals_ints : ∀ {vs : List Value} {ns : List Int}, IntsAre vs ns → Vals (ns.map V.int) vs
 | _, _, .nil => .nil
 | _, _, .cons n t h => .cons ⟨t, rfl⟩ (vals_ints h)
def Only (H : Hp) : Prop := ∀ b, H b = none ∨ ∃ o xs, H b = some (.frz o (.lst xs))
theorem law_call {P : Program} {w : World} {K : PySem.W.Frag} {mg mb : Str → Option Value} {CX : CXT} {k : Nat} {fa a : Addr} {fd : FuncData} {x : Str} {sp : Sp} {s₁ : Shared} {vs : List Value} {ns : List Int}
 (KX : K.In s₁.heap) (hns : s₁.heap.Ns mainGlobals mg) (hb : s₁.heap.Ns builtinsNs mb) (hbb : ∀ x : Str, x ≠ "__name__" → mb x = bootBuiltins x) (hlim : s₁.heap.NoLimit) (hg : s₁.gens = #[])
 (ha : s₁.heap.get? a = some { cls := .type "list", data := .seq vs.toArray }) (hi : IntsAre vs ns) (hl : ns.length ≤ sizeLine) (hr : Room k callerA)
 (F : ∀ base : Heap, K.In base → base.Ns mainGlobals mg → FnOk P w K mg base CX k fa fd [x] sp) (hbind : ∀ (s : Shared) (u : Value), BindsTo s fd ⟨[u], []⟩ [(x, u)])
 (hsp : ∀ H : Hp, Only H → SqL K H a (ns.map V.int) → sp [.ref a] H (fun v _ => v = .bl true) fun _ _ _ => False)
 (hCX : ∀ H e s', CX [] H s₁ (fun _ _ _ => False) e s' → False) :
 codeAny (model P w) callerA (.call (.ref fa) ⟨[.ref a], []⟩) (fun r s' => r = .ok (.ret (.bool true)) ∧ OldK s₁.heap s'.heap ∧ s'.os = s₁.os ∧ AllBare s'.gens) s₁ := by
 have rv := vals_ints hi
 have lenV := hi.length
 have core : ∀ H : Hp, Only H → SqL K H a (ns.map V.int) → HOk P w H s₁.heap → (∀ b, H b ≠ none → b = a) → (H a ≠ none → K.lookup a = none) →
  codeAny (model P w) callerA (.call (.ref fa) ⟨[.ref a], []⟩) (fun r s' => r = .ok (.ret (.bool true)) ∧ OldK s₁.heap s'.heap ∧ s'.os = s₁.os ∧ AllBare s'.gens) s₁ := by
  intro H hO hS hok hA hK
  have base_of : ∀ {b : Addr} {o : Obj}, s₁.heap.get? b = some o → H b = none → (hidT s₁.heap H).get? b = some o := fun e n => hidT_get e n
  have noA : ∀ {b : Addr} {o : Obj} {es : Array DictEntry} {ep : Nat}, s₁.heap.get? b = some o → o.data = .dict es ep → H b = none := fun {b o es ep} e d => by
   cases q : H b with
   | none => rfl
   | some u =>
    have e' : b = a := hA b (by rw [q]; simp)
    subst e'
    rw [ha] at e; cases e
    have d' : Data.seq vs.toArray _ = Data.dict es ep := d
    cases d'
  have nsK : ∀ {b : Addr} {m : Str → Option Value}, s₁.heap.Ns b m → (hidT s₁.heap H).Ns b m := fun {b m} ⟨o, es, ep, e, d, r⟩ => ⟨o, es, ep, base_of e (noA e d), d, r⟩
  have hKb : K.In (hidT s₁.heap H) := fun b o e => base_of (KX b o e) (by
   cases q : H b with
   | none => rfl
   | some u =>
    have e' : b = a := hA b (by rw [q]; simp)
    subst e'
    rw [hK (by rw [q]; simp)] at e; cases e)
  have hM : Mod K mg (hidT s₁.heap H) := ⟨hKb, nsK hns, ⟨mb, nsK hb, hbb⟩, let ⟨mc, h1, h2⟩ := hlim; ⟨mc, nsK h1, h2⟩⟩
  have e0 : Env0 P w K mg (hidT s₁.heap H) callerA [] s₁ H := ⟨rfl, hM, fun b o e => of_hidT e, Nat.le_of_eq (hidT_size _ _), trivial, fun b hb => absurd (show b ∈ ([] : List Addr) from hb) (by simp), hok, .of_eq hg⟩
  refine codeAny_mono ((F _ hKb (nsK hns)).run callerA [] s₁ H ⟨[.ref a], []⟩ [.ref a] [.ref a] _ _ hr e0 (hbind s₁ (.ref a)) (.cons rfl .nil) (hsp H hO hS)) fun r s' h => ?_
  cases r with
  | error e => exact (hCX H e s' h).elim
  | ok fl =>
   cases fl with
   | next => exact False.elim h
   | brk => exact False.elim h
   | cont => exact False.elim h
   | ret u =>
    obtain ⟨v, H', os, bare, un, hok', r', q⟩ := h
    have q' : v = .bl true := q
    subst q'
    obtain rfl : u = Value.bool true := r'
    refine ⟨rfl, OldK.of_keep fun b o e => ?_, os, bare⟩
    cases q : H b with
    | none => exact un.keep b o e q (by intro z; exact absurd (show b ∈ ([] : List Addr) from z) (by simp)) (by simp)
    | some u =>
     rcases hO b with z | ⟨ob, xs, z⟩
     · rw [q] at z; cases z
     · have z2 := un.frzs b ob _ z
       obtain ⟨e1, _⟩ := hok b _ z
       obtain ⟨e2, _⟩ := hok' b _ z2
       rw [e] at e1; cases e1
       exact e2
 cases hk : K.lookup a with
 | some o =>
  have e := KX a o hk
  rw [ha] at e
  cases e
  refine core (fun _ => none) (fun _ => .inl rfl) (.inr ⟨_, vs.toArray, _, hk, rfl, rfl, rfl, by rw [List.size_toArray, lenV]; exact hl, by simpa using rv⟩) (fun b u z => by have z' : (none : Option HO) = some u := z; cases z') (fun b z => absurd rfl z) fun z => absurd rfl z
 | none =>
  refine core (fun b => if b = a then some (.frz { cls := .type "list", data := .seq vs.toArray } (.lst (ns.map V.int))) else none) (fun b => ?_) (.inl (.inr ⟨{ cls := .type "list", data := .seq vs.toArray }, if_pos rfl⟩)) (fun b u z => ?_) (fun b z => ?_) fun _ => hk
  · by_cases hb : b = a
    · exact .inr ⟨_, _, if_pos hb⟩
    · exact .inl (if_neg hb)
  · by_cases hb : b = a
    · have z' := (if_pos hb).symm.trans z
      cases z'
      subst hb
      exact ⟨ha, by rw [List.length_map]; exact hl, vs, _, rv, ha⟩
    · have z' := (if_neg hb).symm.trans z
      cases z'
  · by_cases hb : b = a
    · exact hb
    · exact absurd (if_neg hb) z
end L2
namespace L2
open PySem PySem.Spec PyProof.Rows
theorem walk_of {l : PySem.W.OpenLaw} {n k : Nat} {q : Program} {loose : List Str} {XP : (Str → Option Value) → Heap → Prop} {YP : World → Heap → Prop} {d : DefRec} {K : Params → PySem.W.Frag} {CX : World → CXT} {sp : World → Sp} {x : Str}
 (hn : l.most = some n) (hn2 : n ≤ sizeLine) (hdf : d.params.defaults = []) (hr : Room k callerA)
 (hY : ∀ (w : World) (h : Heap), YP w h → (K w.params).In h)
 (F : ∀ (w : World) (mg : Str → Option Value) (fa : Addr) (h : Heap), (K w.params).In h → h.Ns mainGlobals mg → mg d.name = some (.ref fa) →
  ∃ fd : FuncData, (∀ (s : Shared) (u : Value), BindsTo s fd ⟨[u], []⟩ [(x, u)]) ∧
   ∀ base : Heap, (K w.params).In base → base.Ns mainGlobals mg → FnOk l.prog w (K w.params) mg base (CX w) k fa fd [x] (sp w))
 (hsp : ∀ (w : World) (H : Hp) (a : Addr) (ns : List Int), ns.length ≤ n → Only H → SqL (K w.params) H a (ns.map V.int) → sp w [.ref a] H (fun v _ => v = .bl true) fun _ _ _ => False)
 (hCX : ∀ (w : World) (H : Hp) (s : Shared) (e : Value) (s' : Shared), CX w [] H s (fun _ _ _ => False) e s' → False) :
 PySem.W.WalkO q loose XP YP l.row.toRowW d [] (fun f vs => PySem.call f vs) := by
 refine Att.attach_call hn hdf fun w s₀ s₁ mg mb fa o pm cd doc a vs ns G Y ho hd hcd hmg hobj hints hlen hg => ?_
 have KX := hY w _ Y
 obtain ⟨fd, hb, hF⟩ := F w mg fa _ KX G.T.g hmg
 exact law_call KX G.T.g G.T.b G.T.builtins G.T.nolimit hg hobj hints (Nat.le_trans hlen hn2) hr hF hb (fun H hO hS => hsp w H a ns hlen hO hS) fun H e s' => hCX w H s₁ e s'
end L2
namespace L2
open PySem PySem.Spec PyProof.Rows
def inClass (s : Stmt) (j : Nat) : Stmt := match s with
 | .ClassDef _ _ _ body _ _ _ _ _ _ _ => body.getD j (.Pass ⟨0, 0, 0, 0⟩)
 | _ => .Pass ⟨0, 0, 0, 0⟩
def zd7 (s : Stmt) : Arguments := match s with
 | .FunctionDef _ a _ _ _ _ _ _ _ _ => a
 | _ => { posonlyargs := [], args := [], vararg := none, kwonlyargs := [], kw_defaults := [], kwarg := none, defaults := [] }
def zd3 (s : Stmt) : List Stmt := match s with
 | .FunctionDef _ _ b _ _ _ _ _ _ _ => b
 | _ => []
def zb1 (s : Stmt) : Scope := match s with
 | .FunctionDef _ _ _ _ _ _ sc _ _ _ => sc
 | _ => { kind := .function, names := [], isGenerator := false, isCoroutine := false }
abbrev CX0 : CXT := fun _ _ _ _ _ _ => False
abbrev E0 : XK := fun _ _ _ => False
theorem pass0 {X : Cx} : zy9 CX0 X E0 := fun _ _ _ _ _ _ _ h => h.elim
structure Fun (K : PySem.W.Frag) (x qual : Str) (st : Stmt) (f : Addr) (fd : FuncData) : Prop where
 ex : ∃ (oc : Value) (od : Option Addr) (kV doc pm : Value) (an : Option Addr) (cdv ct : Value) (osl : Array (Option Value)),
  fd = PySem.W.fnOf x qual (zd7 st) (zd3 st) (zb1 st) .none kV doc pm an cdv ct ∧ K.lookup f = some ⟨oc, od, .func fd, osl⟩ ∧ PySem.W.codeIn K cdv qual = true
 kp : PySem.W.keepIn K (.ref f) = true
section
variable {P : Program} {w : World} {K : PySem.W.Frag} {mg : Str → Option Value} {base : Heap}
theorem Fun.ok {x qual : Str} {st : Stmt} {f : Addr} {fd : FuncData} {N ps : List Str} {k : Nat} {sp : Sp} (F : Fun K x qual st f fd) (S : FnScope N ps (zb1 st)) (len : ∀ vs H Q E, sp vs H Q E → vs.length = ps.length)
 (hbody : ∀ (cdv : Value) (A : Around) (outer : List Env) (s : Shared) (H : Hp) (vs : List V) (Q : VK) (E : XK), Room k (A.deeper (envOfC qual (zb1 st) s.heap.objs.size f cdv)) → sp vs H Q E →
  ∃ t, PSs (cxOf CX0 P w K mg base N qual (zb1 st) f cdv A outer s H E).nox (zd3 st) t ∧ t { nx := fun _ H' => Q .non H', rt := Q } (start N vs) H) : FnOk P w K mg base CX0 (k + 1) f fd ps sp := by
 obtain ⟨oc, od, kV, doc, pm, an, cdv, ct, osl, rfl, lk, hcd⟩ := F.ex
 refine fn_of lk hcd S len fun A outer s H vs Q E hr hsp => ?_
 obtain ⟨t, h, q⟩ := hbody cdv A outer s H vs Q E hr hsp
 exact ⟨t, h.nox, q⟩
theorem Fun.binds {x qual : Str} {st : Stmt} {f : Addr} {fd : FuncData} {ps : List Str} (F : Fun K x qual st f fd)
 (h : ∀ (kV doc pm : Value) (an : Option Addr) (cdv ct : Value) (us : List Value), us.length = ps.length → bindArgs (PySem.W.fnOf x qual (zd7 st) (zd3 st) (zb1 st) .none kV doc pm an cdv ct) ⟨us, []⟩ = pure (ps.zip us)) : Binds K fd ps [] := by
 obtain ⟨oc, od, kV, doc, pm, an, cdv, ct, osl, rfl, lk, hcd⟩ := F.ex
 exact .all (h kV doc pm an cdv ct)
theorem zj0 {x qual : Str} {st : Stmt} {f : Addr} {oc : Value} {od an : Option Addr} {osl : Array (Option Value)} {kV doc pm cdv ct : Value} (l : K.lookup f = some ⟨oc, od, .func (PySem.W.fnOf x qual (zd7 st) (zd3 st) (zb1 st) .none kV doc pm an cdv ct), osl⟩)
 (c : PySem.W.codeIn K cdv qual = true) (k : PySem.W.keepIn K (.ref f) = true) : Fun K x qual st f (PySem.W.fnOf x qual (zd7 st) (zd3 st) (zb1 st) .none kV doc pm an cdv ct) := ⟨⟨oc, od, kV, doc, pm, an, cdv, ct, osl, rfl, l, c⟩, k⟩
end
theorem small1000 {n : Nat} (h : n ≤ 1000) : n < sizeLine := Nat.lt_of_le_of_lt h (by decide)
section
variable {X : Cx}
theorem pv (i : Nat) {x : Str} {pos : Pos} (hN : X.N[i]? = some x := by rfl) (hv : Vis X.env.scope x := by first | exact Or.inl rfl | exact Or.inr (Or.inl rfl) | exact Or.inr (Or.inr rfl)) (hd : (x == ("__debug__" : Str)) = false := by decide)
 (hcd : (x == ("__classdict__" : Str)) = false := by decide) : PE X (.Name x pos) (tVar i) := pe_var hN hv hd hcd
end
def Same (H H' : Hp) : Prop := ∀ b o, H b = some o → H' b = some o
theorem Same.refl (H : Hp) : Same H H := fun _ _ h => h
theorem Same.trans {H H1 H2 : Hp} (a : Same H H1) (b : Same H1 H2) : Same H H2 := fun c o h => b c o (a c o h)
theorem Same.seq {K : PySem.W.Frag} {H H' : Hp} {a : Addr} {xs : List V} (e : Same H H') (h : SqL K H a xs) : SqL K H' a xs := by
 rcases h with (h | ⟨o, h⟩) | h
 · exact .inl (.inl (e _ _ h))
 · exact .inl (.inr ⟨o, e _ _ h⟩)
 · exact .inr h
end L2
set_option Elab.async false
set_option linter.all false
set_option maxRecDepth 100000
namespace L2
open PySem PySem.Spec PyProof.Rows
def clGo (cells : List (Str × Addr)) : List (Str × NameKind) → List (Str × Addr) → List (Str × Addr)
 | [], cs => cs
 | (n, k) :: r, cs => clGo cells r (if k == .free then (n, (cells.lookup n).getD 0) :: cs else cs)
def clOf (scope : Scope) (env : Env) : List (Str × Addr) := clGo env.cells scope.names []
theorem clGo_eq {env : Env} : ∀ (names : List (Str × NameKind)) (cs : List (Str × Addr)), (∀ y ∈ names, y.2 = .free → ∃ c, env.cells.lookup y.1 = some c) →
 (forIn names cs fun (x : Str × NameKind) (r : List (Str × Addr)) => (match x with
  | (name, kind) => if (kind == NameKind.free) = true then do let a ← cellOf env name; pure (ForInStep.yield ((name, a) :: r)) else pure (ForInStep.yield r) : Sem (ForInStep (List (Str × Addr))))) = (pure (clGo env.cells names cs) : Sem _)
 | [], cs, _ => rfl
 | (n, k) :: r, cs, h => by
  have hr := fun cs' => clGo_eq (env := env) r cs' fun y hy => h y (List.mem_cons_of_mem _ hy)
  rw [List.forIn_cons]
  by_cases hk : (k == NameKind.free) = true
  · obtain ⟨c, hc⟩ := h (n, k) List.mem_cons_self (by simpa using hk)
    have e1 : cellOf env n = pure c := by unfold cellOf; rw [hc]
    simp only [hk, if_true, e1, pure_bind]
    rw [hr]
    unfold clGo
    rw [if_pos hk, hc]
    conv => rhs; unfold clGo
    rfl
  · simp only [hk, if_false, pure_bind, Bool.false_eq_true]
    rw [hr]
    conv => rhs; unfold clGo
    rw [if_neg hk]
theorem closure_of {scope : Scope} {env : Env} (h : ∀ y ∈ scope.names, y.2 = .free → ∃ c, env.cells.lookup y.1 = some c) : closureFor scope env = pure (clOf scope env) := by
 unfold closureFor clOf
 rw [← clGo_eq scope.names [] h]
 simp
theorem clGo_lookup {cells : List (Str × Addr)} {x : Str} {c : Addr} : ∀ (names : List (Str × NameKind)) (cs : List (Str × Addr)), (∀ y ∈ names, y.2 = .free → ∃ d, cells.lookup y.1 = some d) → (∀ d, cs.lookup x = some d → cells.lookup x = some d) →
 (clGo cells names cs).lookup x = some c → cells.lookup x = some c
 | [], cs, _, hc, h => hc c h
 | (n, k) :: r, cs, hn, hc, h => by
  unfold clGo at h
  refine clGo_lookup r _ (fun y hy => hn y (List.mem_cons_of_mem _ hy)) ?_ h
  intro d hd
  by_cases hk : (k == NameKind.free) = true
  · rw [if_pos hk] at hd
    obtain ⟨e, he⟩ := hn (n, k) List.mem_cons_self (by simpa using hk)
    simp only at he
    rw [List.lookup_cons] at hd
    cases hx : x == n with
    | true =>
     have : x = n := by simpa using hx
     subst this
     rw [hx] at hd
     simp only [Option.some.injEq] at hd
     rw [he] at hd ⊢
     simp at hd
     rw [hd]
    | false =>
     rw [hx] at hd
     exact hc d hd
  · rw [if_neg hk] at hd
    exact hc d hd
theorem ya0 {cells : List (Str × Addr)} {x : Str} : ∀ (names : List (Str × NameKind)) (cs : List (Str × Addr)), ((x, NameKind.free) ∈ names ∨ ∃ d, cs.lookup x = some d) → ∃ d, (clGo cells names cs).lookup x = some d
 | [], cs, h => by
  rcases h with h | h
  · cases h
  · exact h
 | (n, k) :: r, cs, h => by
  unfold clGo
  refine ya0 r _ ?_
  rcases h with h | ⟨d, h⟩
  · rcases List.mem_cons.mp h with e | h
    · cases e
      exact .inr ⟨_, by rw [if_pos (by rfl), List.lookup_cons, beq_self_eq_true]⟩
    · exact .inl h
  · refine .inr ?_
    split
    · rw [List.lookup_cons]
      cases hx : x == n with
      | true => exact ⟨_, rfl⟩
      | false => exact ⟨d, h⟩
    · exact ⟨d, h⟩
theorem zq3 {scope : Scope} {env : Env} {x : Str} {k : NameKind} (h : (relabel scope env).names.lookup x = some k) (hk : k = .cell ∨ k = .free) (hc : ∀ y ∈ scope.names, y.2 ≠ .cell) : (x, NameKind.free) ∈ scope.names := by
 have hm := PySem.mem_of_lookup h
 unfold relabel at hm
 obtain ⟨⟨n, k'⟩, hy, e⟩ := List.mem_map.mp hm
 by_cases q : (k' == NameKind.free && env.scope.kind == .function && env.kindOf n == some .cell) = true
 · simp only [q, if_true] at e
   cases e
   have : k' = .free := by
    simp only [Bool.and_eq_true, beq_iff_eq] at q
    exact q.1.1
   subst this
   exact hy
 · simp only [q, if_false, Bool.false_eq_true] at e
   cases e
   rcases hk with rfl | rfl
   · exact absurd rfl (hc _ hy)
   · exact hy
def lift (ix : List (Option Nat)) (σ : St) : St := ix.map fun o => match o with
 | none => none
 | some i => match σ[i]? with
  | some v => v
  | none => none
structure CompScope (X : Cx) (scope : Scope) (N : List Str) (ix : List (Option Nat)) : Prop where
 kind : scope.kind = .function
 nocell : ∀ y ∈ scope.names, y.2 ≠ .cell
 locs : ∀ y ∈ scope.names, y.2 = .local → scope.names.lookup y.1 = some .local
 free : ∀ y ∈ scope.names, y.2 = .free → X.env.kindOf y.1 = some .cell ∨ X.env.kindOf y.1 = some .free
 len : ix.length = N.length
 nd : N.Nodup
 from' : ∀ j i : Nat, ix[j]? = some (some i) → ∃ x, N[j]? = some x ∧ X.N[i]? = some x ∧ (X.env.kindOf x = some .cell ∨ X.env.kindOf x = some .free) ∧ ((relabel scope X.env).names.lookup x = some .cell ∨ (relabel scope X.env).names.lookup x = some .free)
def zk3 (X : Cx) (scope : Scope) (N : List Str) (s₀ : Shared) (H₀ : Hp) (C : Addr) (ex : List Addr) : Cx where
 prog := X.prog
 w := X.w
 K := X.K
 mg := X.mg
 base := X.base
 A := X.A
 N := N
 s₀ := s₀
 H₀ := H₀
 env := compEnvC scope (clOf scope X.env) C X.env
 outer := X.stack
 stack := X.stack
 ex := ex
 fn := fun _ => false
 calm := X.calm
 pn := []
 xe := fun _ _ => False
section
variable {X : Cx} {pins : List (Addr × Obj)} {σ : St} {H : Hp} {s : Shared} {scope : Scope} {N : List Str} {ix : List (Option Nat)}
theorem CompScope.cells (S : CompScope X scope N ix) (I : Inv X pins σ H s) : ∀ y ∈ scope.names, y.2 = .free → ∃ c, X.env.cells.lookup y.1 = some c := fun y hy hk => I.ok.has y.1 (S.free y hy hk)
theorem CompScope.sub (S : CompScope X scope N ix) (I : Inv X pins σ H s) {x : Str} {c : Addr} (h : (clOf scope X.env).lookup x = some c) : X.env.cells.lookup x = some c :=
 clGo_lookup scope.names [] (S.cells I) (fun d h => by simp at h) h
theorem CompScope.start (S : CompScope X scope N ix) (I : Inv X pins σ H s) {fp : List Addr} {C D : Addr} {h' : Heap} {tk : Nat} (hf : ∀ b ∈ fp, FpOk X pins H b) (hfo : ∀ b ∈ fp, ∃ o, s.heap.get? b = some o) (hD : D = s.heap.objs.size) (hC : s.heap.objs.size < C)
 (k : ∀ b o, s.heap.get? b = some o → h'.get? b = some o) (hn : h'.Ns C fun _ => none) : Inv (zk3 X scope N s H C (D :: fp)) [] (lift ix σ) H { s with heap := h', toks := tk } := by
 have ltC : ∀ x c, X.env.cells.lookup x = some c → c < s.heap.objs.size := fun x c e => let ⟨v, q⟩ := I.cell x c e; q.lt
 refine ⟨⟨I.ok.mod, S.kind, I.ok.glob, I.ok.blt, Nat.le_of_lt hC, fun x y c h1 h2 => I.ok.inj x y c (S.sub I h1) (S.sub I h2), fun x hx => ?_, fun x c z => ?_, I.ok.hd, I.ok.frames, .inl rfl, fun b hb => ?_, I.bs, Nat.le_trans I.ok.bsz I.sz, fun b o e hb => ?_, fun b hb hb' => ?_, I.stack, I.stkFree⟩,
  rfl, I.bare, Un.kept k, ⟨_, hn, fun j x v e1 e2 e3 => ?_⟩, fun x c e => ?_, I.hok.fresh (Nat.le_of_lt hC), fun x c e => I.freeC x c (S.sub I e), fun p hp => absurd (show p ∈ ([] : List (Addr × Obj)) from hp) (by simp), I.hok.kept k, ?_⟩
 · have hx : (relabel scope X.env).names.lookup x = some .cell ∨ (relabel scope X.env).names.lookup x = some .free := hx
   have hm : (x, NameKind.free) ∈ scope.names := by
    rcases hx with h | h
    · exact zq3 h (.inl rfl) S.nocell
    · exact zq3 h (.inr rfl) S.nocell
   exact ya0 _ _ (.inl hm)
 · cases z
 · rcases List.mem_cons.mp hb with e | hb
   · subst e
     subst hD
     exact ⟨Nat.ne_of_lt hC, fun x c e z => absurd (ltC x c (S.sub I e)) (by rw [z]; exact Nat.lt_irrefl _)⟩
   · obtain ⟨o, e⟩ := hfo b hb
     exact ⟨Nat.ne_of_lt (Nat.lt_trans (Heap.lt_size e) hC), fun x c e => (hf b hb).2.2.2.2.1 x c (S.sub I e)⟩
 · have lb := Nat.lt_of_lt_of_le (Heap.lt_size e) I.ok.bsz
   rcases List.mem_cons.mp hb with z | hb
   · subst z
     subst hD
     exact absurd (Nat.lt_of_lt_of_le lb I.sz) (Nat.lt_irrefl _)
   · rcases (hf b hb).2.2.2.1 with z | z
     · exact I.ok.noex b o e z
     · exact absurd (Nat.lt_of_lt_of_le lb z) (Nat.lt_irrefl _)
 · have hs := I.stkSub b hb'
   rcases List.mem_cons.mp hb with z | hb
   · subst z
     subst hD
     rcases List.mem_cons.mp hs with z | z
     · exact absurd I.lt (by rw [← z]; exact Nat.lt_irrefl _)
     · exact I.nofs (Nat.le_refl _) z
   · rcases List.mem_cons.mp hs with z | z
     · exact (hf b hb).2.1 z
     · exact (hf b hb).2.2.1 z
 · unfold lift at e2
   rw [List.getElem?_map] at e2
   cases q : ix[j]? with
   | none => rw [q] at e2; cases e2
   | some o =>
    rw [q] at e2
    cases o with
    | none => cases e2
    | some i =>
     obtain ⟨y, f1, f2, f3, f4⟩ := S.from' j i q
     have e1' : N[j]? = some x := e1
     rw [f1] at e1'
     cases e1'
     simp only [Option.map_some, Option.some.injEq] at e2
     cases q2 : σ[i]? with
     | none => rw [q2] at e2; cases e2
     | some w =>
      rw [q2] at e2
      simp only at e2
      subst e2
      obtain ⟨m, hm, hl⟩ := I.loc
      have vis : Vis X.env.scope x := by
       rcases f3 with z | z
       · exact .inr (.inl z)
       · exact .inr (.inr z)
      obtain ⟨u, r, l⟩ := hl i x v f2 q2 vis
      refine ⟨u, r, .inr ⟨f4, ?_⟩⟩
      rcases l with ⟨l1, _⟩ | ⟨_, c, hc, hcell⟩
      · rw [l1] at f3
        rcases f3 with z | z <;> cases z
      · have hmf : (x, NameKind.free) ∈ scope.names := by
         rcases f4 with h | h
         · exact zq3 h (.inl rfl) S.nocell
         · exact zq3 h (.inr rfl) S.nocell
        obtain ⟨d, hd⟩ := ya0 (cells := X.env.cells) scope.names [] (.inl hmf)
        have hd' := S.sub I hd
        rw [hc] at hd'
        cases hd'
        refine ⟨c, hd, ?_⟩
        obtain ⟨o, ho, hod⟩ := hcell
        exact ⟨o, k _ _ ho, hod⟩
 · obtain ⟨v, o, ho, hod⟩ := I.cell x c (S.sub I e)
   exact ⟨v, o, k _ _ ho, hod⟩
 · show (lift ix σ).length = N.length
   unfold lift
   rw [List.length_map, S.len]
end
end L2
set_option Elab.async false
set_option linter.all false
set_option maxRecDepth 100000
namespace L2
open PySem PySem.Spec PyProof.Rows
theorem codeAny_compLoop_own {prog : Program} {w : World} {A : Around} {R : Result → Shared → Prop} {s : Shared} {elt target iter : Expr} {ifs : List Expr} {scope : Scope} {pos : Pos} {it acc : Value} {env : Env} (I : Nat → Shared → Prop)
 (turn : ∀ n s, I n s → wpAny (model prog w) A (pyNext it) (fun r s₁ => match r with
  | none => R (.ok .next) s₁
  | some v => wpAny (model prog w) A (letOwnedTupleGo target it v) (fun _ s₁' => wpAny (model prog w) A (assign target env v) (fun _ s₂ =>
   wpAny (model prog w) A (forIn ifs true fun c r => if r = true then do let ok ← isTrue c env (eval c env); pure (ForInStep.yield ok) else pure (ForInStep.yield r)) (fun ok s₃ =>
    if ok = true then wpAny (model prog w) A (eval elt env) (fun x s₄ =>
     wpAny (model prog w) A (call (.builtin "list.append") [acc, x]) (fun _ s₅ => ∃ m, m < n ∧ I m s₅) (fun _ _ => False) s₄) (fun _ _ => False) s₃
    else ∃ m, m < n ∧ I m s₃) (fun _ _ => False) s₂) (fun _ _ => False) s₁') (fun _ _ => False) s₁) (fun _ _ => False) s)
 (n : Nat) (h : I n s) :
 codeAny (model prog w) A (.compLoop (.ListComp elt [⟨target, iter, ifs, 0⟩] scope pos) 0 it acc env) R s := by
 refine codeAny_loop rfl I (fun n s hI => ?_) n h
 show wpAny _ A ((compTurn (.ListComp elt [⟨target, iter, ifs, 0⟩] scope pos) 0 it acc env).onRaise (fun x => do noteFrame x env; theTreesLotGoes x)) _ _ s
 refine wpAny_noted ?_
 rw [compTurn_list]
 refine wpAny_bind (wpAny_standAt (wpAny_bind (wpAny_mono (turn n s hI) (fun r s₁ h₁ => ?_) fun _ _ h' => h'.elim)))
 cases r with
 | none => exact wpAny_pure h₁
 | some v =>
  refine wpAny_bind (wpAny_mono h₁ (fun _ s₁' h₁' => ?_) fun _ _ h' => h'.elim)
  refine wpAny_bind (wpAny_mono h₁' (fun _ s₂ h₂ => wpAny_bind (wpAny_mono h₂ (fun ok s₃ h₃ => ?_) fun _ _ h' => h'.elim)) fun _ _ h' => h'.elim)
  cases ok with
  | false => exact wpAny_pure ⟨rfl, h₃⟩
  | true =>
   exact wpAny_bind (wpAny_bind (wpAny_mono h₃ (fun x s₄ h₄ => wpAny_bind (wpAny_mono h₄ (fun _ s₅ h₅ => wpAny_pure (wpAny_pure ⟨rfl, h₅⟩)) fun _ _ h' => h'.elim)) fun _ _ h' => h'.elim))
def PIfs (X : Cx) (ifs : List Expr) (t : TT) : Prop :=
 ∀ (pins : List (Addr × Obj)) (s : Shared) (σ : St) (H : Hp) (Q : Bool → Hp → Prop), Inv X pins σ H s → t σ H Q →
  wpAny (model X.prog X.w) X.A (forIn ifs true fun c r => if r = true then do let ok ← isTrue c X.env (eval c X.env); pure (ForInStep.yield ok) else pure (ForInStep.yield r)) (TP X pins σ Q) X.xe s
def tYes : TT := fun _ H Q => Q true H
theorem ya8 {X : Cx} : PIfs X [] tYes := fun _ _ _ H _ I h => wpAny_tests_nil ⟨H, I, h⟩
theorem ya3 {X : Cx} {c : Expr} {t : TT} (h : PT X c t) : PIfs X [c] t := fun pins s σ H Q I q => wpAny_tests_one (h pins s σ H Q I q)
def Ext (σ σ' : St) : Prop := σ.length = σ'.length ∧ ∀ (i : Nat) (v : V), σ[i]? = some (some v) → σ'[i]? = some (some v)
theorem Ext.refl (σ : St) : Ext σ σ := ⟨rfl, fun _ _ h => h⟩
theorem Ext.set {σ σ' : St} {j : Nat} {v : V} (e : Ext σ σ') (h : σ[j]? = some none) : Ext σ (σ'.set j (some v)) := by
 refine ⟨by rw [List.length_set]; exact e.1, fun i u q => ?_⟩
 have hne : j ≠ i := fun z => by subst z; rw [h] at q; cases q
 rw [List.getElem?_set_ne hne]
 exact e.2 i u q
theorem lift_none {ix : List (Option Nat)} {σ : St} {j : Nat} (h : ix[j]? = some none) : (lift ix σ)[j]? = some none := by
 unfold lift
 rw [List.getElem?_map, h]
 rfl
def GFree (ix : List (Option Nat)) (g : TG) : Prop := ∀ (v : V) (σ : St) (H : Hp) (Q : St → Hp → Prop), g v (lift ix σ) H Q → g v (lift ix σ) H fun σ2 H2 => Q σ2 H2 ∧ Ext (lift ix σ) σ2
theorem zn7 {ix : List (Option Nat)} {j : Nat} (h : ix[j]? = some none) : GFree ix (gName j) := fun v σ H Q q => ⟨q, (Ext.refl _).set (lift_none h)⟩
def tComp (ix : List (Option Nat)) (wi : TI) (g : TG) (tc : TT) (te : TE) : TE := fun σ H Q => wi σ H fun J H1 => ∃ W : Nat → Nat → List V → Hp → Prop, (∃ m, W 0 m [] H1) ∧ ∀ i m ys H, W i m ys H →
 (J.stop i H ∧ ys.length ≤ sizeLine ∧ ∀ p, H p = none → Q (.ref p) (upd H p (.lst ys))) ∨
 (J.go i H ∧ ys.length < sizeLine ∧ ∃ N : List V → Hp → Prop, (∀ ys' H', N ys' H' → ∃ m', m' < m ∧ W (i + 1) m' ys' H') ∧ ∀ x H', J.yld i H x H' → g x (lift ix σ) H' fun σ2 H2 => tc σ2 H2 fun b H3 => if b = true then te σ2 H3 fun v H4 => N (ys ++ [v]) H4 else N ys H3)
theorem comp_end {X : Cx} {pins pins' : List (Addr × Obj)} {σ σ' : St} {H2 H' : Hp} {s2 s4 : Shared} {scope : Scope} {N : List Str} {C D : Addr} {fp : List Addr} {h' : Heap} {ys : List V} {its : List Value} {n : Nat}
 (I2 : Inv X pins σ H2 s2) (I' : Inv (zk3 X scope N s2 H2 C (D :: fp)) pins' σ' H' s4) (f2 : ∀ b ∈ fp, FpOk X pins H2 b) (hD : D = s2.heap.objs.size) (hC : s2.heap.objs.size < C) (hDC : D ≠ C)
 (hs : Heap.SameBut C s4.heap h') (eD : s4.heap.get? D = some { cls := .type "list", data := .seq its.toArray n }) (fD : H' D = none) (rv : Vals ys its) (hz : ys.length ≤ sizeLine) :
 Inv X pins σ (upd H' D (.lst ys)) { s4 with heap := h' } := by
 have lt : ∀ b o, s2.heap.get? b = some o → b ≠ D ∧ b ≠ C := fun b o e =>
  ⟨by rw [hD]; exact Nat.ne_of_lt (Heap.lt_size e), Nat.ne_of_lt (Nat.lt_trans (Heap.lt_size e) hC)⟩
 have nex : ∀ b o, s2.heap.get? b = some o → b ∉ fp → b ∉ D :: fp := fun b o e hb z => by
  rcases List.mem_cons.mp z with z | z
  · exact (lt b o e).1 z
  · exact hb z
 have nD : ∀ b u, H' b = some u → b ≠ D := fun b u e => zg3 e fD
 have nC : ∀ b u, H' b = some u → b ≠ C := fun b u e => zg3 e I'.free
 have u := I'.base
 refine I2.call' (ch := fp) (show s4.os = s2.os from I'.os) ⟨fun b o e n hb hx => ?_, fun b o e n hb hx => ?_, fun b o e n hx => ?_, fun b o e hx => ?_, fun b xs e => ?_, fun b o xs e => ?_, fun b ps e => ?_⟩ (fun b o e => ?_) I'.bare fun b hb => ⟨(f2 b hb).2.2.2.1, (f2 b hb).2.1, (f2 b hb).2.2.2.2.1, (f2 b hb).2.2.2.2.2⟩
 · exact (hs.2 b (lt b o e).2).trans (u.keep b o e n hb (nex b o e hx))
 · obtain ⟨sl, q⟩ := u.slot b o e n hb (nex b o e hx)
   exact ⟨sl, (hs.2 b (lt b o e).2).trans q⟩
 · rw [zc4 (lt b o e).1]
   exact u.free b o e n (nex b o e hx)
 · obtain ⟨o', q⟩ := u.there b o e (nex b o e hx)
   exact ⟨o', (hs.2 b (lt b o e).2).trans q⟩
 · have q := u.tups b xs e
   rw [zc4 (nD b _ q)]
   exact q
 · have q := u.frzs b o xs e
   rw [zc4 (nD b _ q)]
   exact q
 · obtain ⟨m, q⟩ := u.tbls b ps e
   exact ⟨m, by rw [zc4 (nD b _ q)]; exact q⟩
 · by_cases hb : b = D
   · subst hb
     rw [zc5] at e
     cases e
     exact ⟨hz, its, n, rv, (hs.2 b hDC).trans eD⟩
   · rw [zc4 hb] at e
     refine (I'.hok b o e).stay (fun c v hc q => (hs.2 c ?_).trans q) (fun c q => by rw [zc4 (nD c _ q)]; exact q) fun c xs q => by rw [zc4 (nD c _ q)]; exact q
     rcases hc with z | z
     · rw [z]; exact nC b o e
     · exact nC c _ z
section
variable {X : Cx} {elt tg iter : Expr} {ifs : List Expr} {scope : Scope} {pos : Pos} {wi : TI} {g : TG} {tc : TT} {te : TE} {N : List Str} {ix : List (Option Nat)}
theorem comp_core {pins : List (Addr × Obj)} {σ : St} {Q : VK} {s2 : Shared} {itv : Value} {Rr : Value → Addr → Result → Shared → Prop} (S : CompScope X scope N ix) (hc : X.calm = true) (hG : GFree ix g)
 (hb : ∀ (s₀ : Shared) (H₀ : Hp) (C : Addr) (ex : List Addr), PG (zk3 X scope N s₀ H₀ C ex) tg g ∧ PIfs (zk3 X scope N s₀ H₀ C ex) ifs tc ∧ PE (zk3 X scope N s₀ H₀ C ex) elt te)
 (h2 : PIE X pins σ tg (fun J H1 => ∃ W : Nat → Nat → List V → Hp → Prop, (∃ m, W 0 m [] H1) ∧ ∀ i m ys H, W i m ys H →
  (J.stop i H ∧ ys.length ≤ sizeLine ∧ ∀ p, H p = none → Q (.ref p) (upd H p (.lst ys))) ∨
  (J.go i H ∧ ys.length < sizeLine ∧ ∃ N : List V → Hp → Prop, (∀ ys' H', N ys' H' → ∃ m', m' < m ∧ W (i + 1) m' ys' H') ∧ ∀ x H', J.yld i H x H' → g x (lift ix σ) H' fun σ2 H2 => tc σ2 H2 fun b H3 => if b = true then te σ2 H3 fun v H4 => N (ys ++ [v]) H4 else N ys H3)) itv s2)
 (hR : ∀ (s4 : Shared) (H' : Hp) (D C : Addr) (m : Str → Option Value) (ys : List V), s4.heap.Ns C m → FpOk X pins H' C → (∀ h', Heap.SameBut C s4.heap h' → Inv X pins σ (upd H' D (.lst ys)) { s4 with heap := h' }) → Inv X pins σ (upd H' D (.lst ys)) s4 → D ≠ C → Q (.ref D) (upd H' D (.lst ys)) → Rr (.ref D) C (.ok .next) s4) :
 wpAny (model X.prog X.w) X.A (newList []) (fun acc s₃ => wpAny (model X.prog X.w) X.A (newFunctionEnv scope X.env.globals (clOf scope X.env) [] X.env.qual none .none (some X.env)) (fun cenv s₄ =>
  codeAny (model X.prog X.w) X.A (.compStart (.ListComp elt [⟨tg, iter, ifs, 0⟩] scope pos) 0 itv acc { cenv with scope := relabel scope X.env }) (Rr acc cenv.locals) s₄) X.xe s₃) X.xe s2 := by
 obtain ⟨it, fp, tn, J, H2, e, I2, T, st2, f2, W, ⟨m0, w0⟩, turn⟩ := h2
 subst e
 have fo : ∀ b ∈ fp, ∃ o, s2.heap.get? b = some o := fun b hb => let ⟨o, e, _⟩ := T.obj _ _ st2 b hb; ⟨o, e⟩
 refine wpAny_newObj_type (wpAny_newFunctionEnv S.nocell (by intro y hy; simp at hy) (fun h₁ hns₁ hsb₁ => ?_) S.kind)
 dsimp only at hns₁ hsb₁ ⊢
 generalize hH2 : s2.heap.push { cls := .type "list", dict := none, data := .seq ([] : List Value).toArray } = HH at hns₁ hsb₁ ⊢
 have hC : HH.objs.size = s2.heap.objs.size + 1 := by rw [← hH2, Heap.size_push]
 generalize hCC : HH.objs.size = C at hns₁ hsb₁ hC ⊢
 generalize hDD : s2.heap.objs.size = D at hC ⊢
 have hlt : s2.heap.objs.size < C := by rw [hDD, hC]; exact Nat.lt_succ_self _
 have hDC : D ≠ C := by rw [hC]; exact Nat.ne_of_lt (Nat.lt_succ_self _)
 have old : ∀ b o, s2.heap.get? b = some o → h₁.get? b = some o := fun b o e =>
  hsb₁.extBut b o (Nat.ne_of_lt (Nat.lt_trans (Heap.lt_size e) hlt)) (Heap.get?_push_of_some _ (hH2 ▸ Heap.get?_push_of_some _ e))
 have hacc : h₁.PlainList D #[] := ⟨_, hsb₁.extBut _ _ hDC (Heap.get?_push_of_some _ (hH2 ▸ hDD ▸ Heap.get?_push_size _ rfl))⟩
 have hns₂ : h₁.Ns C fun _ => none := hns₁
 have I4 := S.start (tk := s2.toks + ([] : List (Str × Value)).length) I2 f2 fo hDD.symm hlt old hns₂
 obtain ⟨hg, hif, hel⟩ := hb s2 H2 C (D :: fp)
 have stat : ∀ {H' : Hp}, (∀ b ∈ D :: fp, H' b = none) → ∀ b ∈ D :: fp, FpOk (zk3 X scope N s2 H2 C (D :: fp)) [] H' b := fun hn b hb =>
  ⟨hn b hb, (I4.ok.exf b hb).1, I4.ok.exfs b hb, .inl hb, (I4.ok.exf b hb).2, fun p hp => absurd (show p ∈ ([] : List (Addr × Obj)) from hp) (by simp)⟩
 have sub : ∀ b ∈ fp, b ∈ D :: fp := fun b hb => List.mem_cons_of_mem _ hb
 have nDf : ∀ b ∈ fp, b ≠ D := fun b hb z => by
  obtain ⟨o, e⟩ := fo b hb
  exact absurd (Heap.lt_size e) (by rw [z, hDD]; exact Nat.lt_irrefl _)
 have free0 : ∀ b ∈ D :: fp, H2 b = none := fun b hb => by
  rcases List.mem_cons.mp hb with z | hb
  · rw [z]; exact I2.hok.fresh (Nat.le_of_eq hDD)
  · exact (f2 b hb).1
 have loop : ∀ s₃ : Shared, s₃ = { s2 with heap := h₁, toks := s2.toks + ([] : List (Str × Value)).length } →
  codeAny (model X.prog X.w) X.A (.compLoop (.ListComp elt [⟨tg, iter, ifs, 0⟩] scope pos) 0 (.ref it) (.ref D) (compEnvC scope (clOf scope X.env) C X.env))
   (Rr (.ref D) C) s₃ := by
  rintro s₃ rfl
  refine codeAny_compLoop_own (fun n s' => ∃ i H' ys its, Inv (zk3 X scope N s2 H2 C (D :: fp)) [] (lift ix σ) H' s' ∧ tn i s'.heap ∧ (∀ b ∈ D :: fp, H' b = none) ∧ s'.heap.PlainList D (List.toArray its) ∧ Vals ys its ∧ W i n ys H') ?_ m0
   ⟨0, H2, [], [], I4, T.keep _ _ _ st2 fun b _ o e => old b o e, free0, hacc, .nil, w0⟩
  rintro n s3 ⟨i, H3, ys, its, I3, st3, fr3, pl3, rv3, w3⟩
  obtain ⟨kk, plE⟩ := pl3
  have pinD : ∀ {pp : List (Addr × Obj)} {σ' : St} {H' : Hp} {s' : Shared}, Inv (zk3 X scope N s2 H2 C (D :: fp)) pp σ' H' s' → H' D = none → s'.heap.get? D = some { cls := .type "list", data := .seq its.toArray kk } →
   Inv (zk3 X scope N s2 H2 C (D :: fp)) [(D, { cls := .type "list", data := .seq its.toArray kk })] σ' H' s' := fun {pp σ' H' s'} J f e => J.pins_of fun p hp => by
   have z : p = (D, { cls := .type "list", data := .seq its.toArray kk }) := by simpa using hp
   subst z
   exact ⟨e, f, (J.ok.exf D List.mem_cons_self).1, J.ok.exfs D List.mem_cons_self, fun v z => by cases z⟩
  have fpD : ∀ {H' : Hp}, (∀ b ∈ D :: fp, H' b = none) → ∀ b ∈ fp, FpOk (zk3 X scope N s2 H2 C (D :: fp)) [(D, { cls := .type "list", data := .seq its.toArray kk })] H' b := fun hn b hb => by
   obtain ⟨a1, a2, a3, a4, a5, a6⟩ := stat hn b (sub b hb)
   refine ⟨a1, a2, a3, a4, a5, fun p hp => ?_⟩
   have z : p = (D, { cls := .type "list", data := .seq its.toArray kk }) := by simpa [zk3] using hp
   subst z
   exact (nDf b hb).symm
  have frD : H3 D = none := fr3 D List.mem_cons_self
  rcases turn i n ys H3 w3 with ⟨stop, hz, qn⟩ | ⟨go, hz, NN, hN, step⟩
  · refine thn (T.done (zk3 X scope N s2 H2 C (D :: fp)) rfl rfl rfl hc i _ s3 _ H3 (fun _ _ => False) (pinD I3 frD plE) (fpD fr3) st3 stop) fun r s4 ⟨hr, I4'⟩ => ?_
    subst hr
    obtain ⟨m, hm, _⟩ := I4'.loc
    have eD := (I4'.pin (D, _) (List.mem_append_right _ List.mem_cons_self)).1
    have fin : ∀ h', Heap.SameBut C s4.heap h' → Inv X pins σ (upd H3 D (.lst ys)) { s4 with heap := h' } := fun h' hs' => comp_end I2 I4' f2 hDD.symm hlt hDC hs' eD frD rv3 hz
    have hC0 : s2.heap.objs.size ≤ C := Nat.le_of_lt hlt
    have fC : FpOk X pins H3 C := by
     have q := I2.fpOk (H' := H3) hC0 I4'.free
     exact q
    exact hR s4 H3 D C m ys hm fC fin (by simpa using fin s4.heap (Heap.SameBut.refl ..)) hDC (qn D frD)
  · refine thn (T.item (zk3 X scope N s2 H2 C (D :: fp)) rfl rfl rfl hc i _ s3 _ H3 (fun _ _ => False) (pinD I3 frD plE) (fpD fr3) st3 go) fun r s4 ⟨u, hr, h4⟩ => ?_
    subst hr
    refine thn h4 fun _ s5 hq0 => ?_
    obtain ⟨x, H5, I5, r5, y5, st5, fr5⟩ := hq0
    have eD5 := (I5.pin (D, _) (List.mem_append_right _ List.mem_cons_self))
    have fr5' : ∀ b ∈ D :: fp, H5 b = none := fun b hb => by
     rcases List.mem_cons.mp hb with z | hb
     · rw [z]; exact eD5.2.1
     · exact fr5 b hb
    have I5' : Inv (zk3 X scope N s2 H2 C (D :: fp)) ([] ++ zz1 (D :: fp) s5.heap) (lift ix σ) H5 s5 := (I5.unpinned (pins := []) (pl := [_])).pinned (stat fr5') fun b hb => by
     rcases List.mem_cons.mp hb with z | hb
     · rw [z]; exact ⟨_, eD5.1, fun v z => by cases z⟩
     · exact T.obj _ _ st5 b hb
    have back : ∀ {σ7 : St} {H7 : Hp} {s7 : Shared}, Inv (zk3 X scope N s2 H2 C (D :: fp)) ([] ++ zz1 (D :: fp) s5.heap) σ7 H7 s7 → Ext (lift ix σ) σ7 →
     Inv (zk3 X scope N s2 H2 C (D :: fp)) [] (lift ix σ) H7 s7 ∧ tn (i + 1) s7.heap ∧ (∀ b ∈ D :: fp, H7 b = none) ∧ s7.heap.get? D = some { cls := .type "list", data := .seq its.toArray kk } := fun {σ7 H7 s7} I7 ex => by
     have keepAt : ∀ b ∈ D :: fp, ∀ o, s5.heap.get? b = some o → s7.heap.get? b = some o ∧ H7 b = none := fun b hb o e =>
      ⟨(I7.pin (b, o) (List.mem_append_right _ (List.mem_append_right _ (zs4 hb e)))).1, (I7.pin (b, o) (List.mem_append_right _ (List.mem_append_right _ (zs4 hb e)))).2.1⟩
     refine ⟨I7.unpinned.weak ex.1 ex.2, T.keep _ _ _ st5 fun b hb o e => (keepAt b (sub b hb) o e).1, fun b hb => ?_, (keepAt D List.mem_cons_self _ eD5.1).1⟩
     rcases List.mem_cons.mp hb with z | hb'
     · rw [z]; exact (keepAt D List.mem_cons_self _ eD5.1).2
     · obtain ⟨o, e, _⟩ := T.obj _ _ st5 b hb'
       exact (keepAt b hb o e).2
    refine thn (hg _ s5 _ H5 x u _ I5' r5 (hG _ _ _ _ (step x H5 y5))) fun _ s6 hq0 => ?_
    obtain ⟨σ6, H6, I6, q6, ex6⟩ := hq0
    refine thn (hif _ s6 σ6 H6 _ I6 q6) fun ok s7 hq0 => ?_
    obtain ⟨H7, I7, q7⟩ := hq0
    cases ok with
    | false =>
     rw [if_neg Bool.false_ne_true] at q7 ⊢
     obtain ⟨m', hm, w7⟩ := hN _ _ q7
     obtain ⟨J1, J2, J3, J4⟩ := back I7 ex6
     exact ⟨m', hm, i + 1, H7, ys, its, J1, J2, J3, ⟨_, J4⟩, rv3, w7⟩
    | true =>
     rw [if_pos rfl] at q7 ⊢
     refine thn (hel _ s7 σ6 H7 _ I7 q7) fun uv s8 hq0 => ?_
     obtain ⟨y, H8, I8, r8, q8⟩ := hq0
     obtain ⟨m', hm, w8⟩ := hN _ _ q8
     obtain ⟨J1, J2, J3, J4⟩ := back I8 ex6
     refine wpAny_list_append_plain (hsz := by rw [List.size_toArray, ← rv3.length]; exact Nat.le_of_lt hz) ⟨_, J4⟩ fun h₉ hl₉ hs₉ => ?_
     obtain ⟨a1, a2, a3, a4, a5, a6⟩ := stat J3 D List.mem_cons_self
     refine ⟨m', hm, i + 1, H8, ys ++ [y], its ++ [uv], J1.turned (t' := s8.toks) (fun b o hb e => hs₉.extBut b o hb e) a1 a2 a4 a5 a6, T.keep _ _ _ J2 fun b hb o e => hs₉.extBut b o (nDf b hb) e, J3, by simpa using hl₉, rv3.append (.cons r8 .nil), w8⟩
 exact codeAny_compStart_list (loop _ rfl) (T.self _ 0 _ _ _ (T.keep _ _ _ st2 fun b _ o e => old b o e) (loop _ rfl))
theorem yb2 (S : CompScope X scope N ix) (hc : X.calm = true) (hi : PI X tg iter wi) (hG : GFree ix g)
 (hb : ∀ (s₀ : Shared) (H₀ : Hp) (C : Addr) (ex : List Addr), PG (zk3 X scope N s₀ H₀ C ex) tg g ∧ PIfs (zk3 X scope N s₀ H₀ C ex) ifs tc ∧ PE (zk3 X scope N s₀ H₀ C ex) elt te)
 (hs : ∀ x, foldedSetIterable iter X.env x = pure x := by intro _; rfl) : PE X (.ListComp elt [⟨tg, iter, ifs, 0⟩] scope pos) (tComp ix wi g tc te) := by
 intro pins s σ H Q I h
 rw [eval_ListComp]
 refine wpAny_comprehension_free (use := none) rfl hs (closure_of (S.cells I)) S.kind S.locs ?_
 refine thn (hi pins s σ H _ I h) fun v s1 h1 => thn h1 fun itv s2 h2 => ?_
 refine comp_core (Rr := fun acc C => compPost (model X.prog X.w) X.A X.xe none (EP X pins σ Q) acc C) S hc hG hb h2 ?_
 intro s4 H' D C m ys hm _ fin _ _ q
 exact ⟨m, hm, fun h' hs' => ⟨.ref D, _, fin h' hs', rfl, q⟩⟩
theorem ps_setC {y : Str} {py spos : Pos} {i : Nat} (hN : X.N.Nodup) (hi : X.N[i]? = some y) (hy : Loc X.env.scope y) (S : CompScope X scope N ix) (hc : X.calm = true) (hit : PI X tg iter wi) (hG : GFree ix g)
 (hb : ∀ (s₀ : Shared) (H₀ : Hp) (C : Addr) (ex : List Addr), PG (zk3 X scope N s₀ H₀ C ex) tg g ∧ PIfs (zk3 X scope N s₀ H₀ C ex) ifs tc ∧ PE (zk3 X scope N s₀ H₀ C ex) elt te)
 (hsw : swapsWith (.ListComp elt [⟨tg, iter, ifs, 0⟩] scope pos) (some (.Name y py)) spos.line X.env = pure true := by rfl) (hs : ∀ x, foldedSetIterable iter X.env x = pure x := by intro _; rfl)
 (hf : X.fn y = true ∨ X.env.scope.names.lookup y = some .local := by first | exact .inl rfl | exact .inr rfl | assumption) :
 PS X (.Assign [.Name y py] (.ListComp elt [⟨tg, iter, ifs, 0⟩] scope pos) spos) (tAsg (tComp ix wi g tc te) (gName i)) := by
 intro pins s σ H D0 I h
 rw [exec_Assign_Name_used _ _ _ _ hsw]
 refine wpAny_bind (wpAny_standAt (wpAny_bind ?_))
 show wpAny _ X.A (do let _ ← comprehension (.ListComp elt [⟨tg, iter, ifs, 0⟩] scope pos) scope X.env _ (newList []) false (eval iter X.env) (some (assign (.Name y py) X.env))) _ _ s
 refine wpAny_bind (wpAny_mono (wpAny_comprehension_free (use := some (assign (.Name y py) X.env)) (Q := fun _ s' => SP X pins D0 .next s') rfl hs (closure_of (S.cells I)) S.kind S.locs ?_) (fun _ s' hq => wpAny_pure (wpAny_pure hq)) fun _ _ e => e)
 refine thn (hit pins s σ H _ I h) fun v s1 h1 => thn h1 fun itv s2 h2 => ?_
 refine comp_core (Q := fun x H1 => gName i x σ H1 D0.nx) (Rr := fun acc C => compPost (model X.prog X.w) X.A X.xe (some (assign (.Name y py) X.env)) (fun _ s' => SP X pins D0 .next s') acc C) S hc hG hb h2 ?_
 intro s4 H' D C m ys hm fC _ I4 hDC q
 show wpAny _ X.A (assign (.Name y py) X.env (.ref D)) _ _ _
 obtain ⟨c0, c1, c2, c3, c4, c5⟩ := fC
 refine wpAny_assign_Name (store_ok2 (v := .ref D) I4 hN hi hy rfl (fun s5 I5 hsb => ?_) hf)
 obtain ⟨a, hsa, ha⟩ := hsb
 have haC : C ≠ a := by
  rcases ha with z | z
  · rw [z]; exact c1
  · exact fun e => c4 y a z e.symm
 refine ⟨m, hm.sameBut hsa haC, fun h' hs' => ?_⟩
 have hCn : (upd H' D (.lst ys)) C = none := by rw [zc4 hDC.symm]; exact c0
 exact ⟨_, _, I5.turned (t' := s5.toks) (fun b o hb e => hs'.extBut b o hb e) hCn c1 c3 c4 c5, q⟩
end
end L2
set_option Elab.async false
set_option linter.all false
set_option maxRecDepth 100000
namespace L2
open PySem PySem.Spec PyProof.Rows
def Itz (K : PySem.W.Frag) (a b : Addr) : It :=
 ⟨fun i H => ∃ xs ys x y, SqL K H a xs ∧ SqL K H b ys ∧ xs[i]? = some x ∧ ys[i]? = some y,
  fun i H v H' => ∃ p x y, H p = none ∧ v = .ref p ∧ H' = upd H p (.tup [x, y]) ∧ (∀ xs, SqL K H a xs → xs[i]? = some x) ∧ ∀ ys, SqL K H b ys → ys[i]? = some y,
  fun i H => ∃ xs ys, SqL K H a xs ∧ SqL K H b ys ∧ (xs.length ≤ i ∨ ys.length ≤ i)⟩
theorem Inv.turnedL {X : Cx} {pins : List (Addr × Obj)} {σ : St} {H : Hp} {s : Shared} {h' : Heap} {t' : Nat} {ch : List Addr} (I : Inv X pins σ H s) (hf : ∀ b ∈ ch, FpOk X pins H b) (k : ∀ b o, b ∉ ch → s.heap.get? b = some o → h'.get? b = some o) :
 Inv X pins σ H { s with heap := h', toks := t' } := by
 have trk : ∀ c t, H c = some t → c ∉ ch := fun c t e hc => by rw [(hf c hc).1] at e; cases e
 refine I.step (g' := s.gens) (d' := s.drawn) (ch := ch) (fun c hc => ⟨(hf c hc).2.2.2.1, (hf c hc).2.1, (hf c hc).2.2.2.2.1, (hf c hc).2.2.2.2.2⟩) (fun c o _ _ hc e _ => k c o hc e) (fun c o _ _ hc e _ => ⟨o.slots, k c o hc e⟩) (fun _ _ _ _ n => n) (fun c o hc e => ⟨o, k c o hc e⟩)
  (fun _ _ e => e) (fun _ _ _ e => e) (fun c ps e => ⟨#[], by rw [e]; simp⟩) (fun m hm => ?_) (fun c t e => ?_) I.bare
 · obtain ⟨o, es, ep, ho, r⟩ := hm
   exact ⟨o, es, ep, k _ o (fun hc => (hf _ hc).2.1 rfl) ho, r⟩
 · refine (I.hok c t e).stay (fun d o hd q => k d o ?_ q) (fun _ q => q) fun _ _ q => q
   rcases hd with hd | hd
   · rw [hd]; exact trk c t e
   · exact trk d _ hd
theorem zip_apart {h : Heap} {a b z TI TO i1 i2 : Addr} {u0 v0 : Value} {i : Nat} {its jts : Array Value} (h12 : i1 ≠ i2) (hT : TI ≠ TO) (e1 : IsZip h z TI TO .none) (e2 : IsPair h TI (.ref i1) (.ref i2)) (e3 : IsPair h TO u0 v0) (e4 : h.IsListIter i1 a i) (e5 : h.IsListIter i2 b i)
 (px : PlainL h a its) (py : PlainL h b jts) : ZipApart z TI TO i1 i2 a b := by
 obtain ⟨o4, g4, c4, _⟩ := id e4
 obtain ⟨o5, g5, c5, _⟩ := id e5
 obtain ⟨oa, na, ga, ca, _⟩ := id px
 obtain ⟨ob, nb, gb, cb, _⟩ := id py
 have ne : ∀ {p q : Addr} {o o' : Obj}, h.get? p = some o → h.get? q = some o' → o.cls ≠ o'.cls → p ≠ q := fun h h' d z => by
  subst z; rw [h] at h'; cases h'; exact d rfl
 exact ⟨ne e2 e1 (by simp), ne e3 e1 (by simp), ne g4 e1 (by rw [c4]; simp), ne g5 e1 (by rw [c5]; simp), hT, ne e2 g4 (by rw [c4]; simp), ne e2 g5 (by rw [c5]; simp), ne e3 g4 (by rw [c4]; simp), ne e3 g5 (by rw [c5]; simp), h12,
  ne ga e1 (by rw [ca]; simp), ne ga e3 (by rw [ca]; simp), ne ga g4 (by rw [ca, c4]; simp), ne ga g5 (by rw [ca, c5]; simp), ne gb e1 (by rw [cb]; simp), ne gb e3 (by rw [cb]; simp), ne gb g4 (by rw [cb, c4]; simp), ne gb g5 (by rw [cb, c5]; simp)⟩
theorem turn_zip {P : Program} {w : World} {K : PySem.W.Frag} {elts : List Expr} {x1} {pos : Pos} (a b z TI TO i1 i2 : Addr) (h12 : i1 ≠ i2) (hT : TI ≠ TO) :
 Turn P w K (.Tuple elts x1 pos) (Itz K a b) [z, TI, TO, i1, i2] z (fun i h => IsZip h z TI TO .none ∧ IsPair h TI (.ref i1) (.ref i2) ∧ (∃ u v, IsPair h TO u v) ∧ h.IsListIter i1 a i ∧ h.IsListIter i2 b i) where
 mem := by simp
 obj := fun i h st c hc => by
  obtain ⟨e1, e2, ⟨u, v, e3⟩, ⟨o4, e4, _, d4⟩, ⟨o5, e5, _, d5⟩⟩ := st
  simp only [List.mem_cons, List.not_mem_nil, or_false] at hc
  rcases hc with rfl | rfl | rfl | rfl | rfl
  · exact ⟨_, e1, fun v z => by cases z⟩
  · exact ⟨_, e2, fun v z => by cases z⟩
  · exact ⟨_, e3, fun v z => by cases z⟩
  · exact ⟨o4, e4, fun v z => by rw [d4] at z; cases z⟩
  · exact ⟨o5, e5, fun v z => by rw [d5] at z; cases z⟩
 keep := fun i h h' st k => by
  obtain ⟨e1, e2, ⟨u, v, e3⟩, e4, e5⟩ := st
  exact ⟨k z (by simp) _ e1, k TI (by simp) _ e2, ⟨u, v, k TO (by simp) _ e3⟩, e4.at fun o e => k i1 (by simp) o e, e5.at fun o e => k i2 (by simp) o e⟩
 item := by
  intro X hP hw hK hc i pins s σ H E I hf st hg
  subst hP hw hK
  obtain ⟨xs, ys, x, y, qx, qy, hx, hy⟩ := hg
  obtain ⟨its, rvx, px, _⟩ := I.list qx
  obtain ⟨jts, rvy, py, _⟩ := I.list qy
  obtain ⟨u, hu, ru⟩ := rvx.get hx
  obtain ⟨v, hv, rv⟩ := rvy.get hy
  obtain ⟨e1, e2, ⟨u0, v0, e3⟩, e4, e5⟩ := st
  have D := zip_apart h12 hT e1 e2 e3 e4 e5 px py
  refine wpAny_pyNext_zip_item D e1 e2 e3 e4 e5 px.isList py.isList (x := u) (y := v) (by simpa using hu) (by simpa using hv) fun h' a1 a2 a3 a4 a5 a6 a7 => ?_
  refine ⟨_, rfl, wpAny_letOwnedTupleGo_zip (s := { s with heap := h' }) a1 fun h'' b1 b2 => ?_⟩
  have hTn : H s.heap.objs.size = none := I.hok.fresh (Nat.le_refl _)
  have big : ∀ {c : Addr} {o : Obj}, s.heap.get? c = some o → c ≠ s.heap.objs.size := fun e => Nat.ne_of_lt (Heap.lt_size e)
  have hTz : s.heap.objs.size ≠ z := (big e1).symm
  have k2 : ∀ c o, c ≠ z → c ≠ TO → c ≠ i1 → c ≠ i2 → s.heap.get? c = some o → h''.get? c = some o := fun c o c1 c2 c3 c4 e => (b2.2 c c1).trans (a7 c o c1 c2 c3 c4 e)
  have eT : IsPair h'' s.heap.objs.size u v := (b2.2 _ hTz).trans a5
  have fpz := hf z (by simp)
  have fpO := hf TO (by simp)
  have fp1 := hf i1 (by simp)
  have fp2 := hf i2 (by simp)
  have nin : ∀ c, c ∉ [z, TO, i1, i2] → c ≠ z ∧ c ≠ TO ∧ c ≠ i1 ∧ c ≠ i2 := fun c hc => by
   simp only [List.mem_cons, List.not_mem_nil, or_false, not_or] at hc
   exact hc
  have inn : ∀ c ∈ [z, TO, i1, i2], FpOk X pins H c := fun c hc => by
   simp only [List.mem_cons, List.not_mem_nil, or_false] at hc
   rcases hc with rfl | rfl | rfl | rfl
   · exact fpz
   · exact fpO
   · exact fp1
   · exact fp2
  have trk : ∀ c t, H c = some t → c ∉ [z, TO, i1, i2] := fun c t e hc => by rw [(inn c hc).1] at e; cases e
  have I1 : Inv X pins σ (upd H s.heap.objs.size (.tup [x, y])) { s with heap := h'', gens := s.gens, drawn := s.drawn, toks := s.toks } := by
   refine I.step (ch := [z, TO, i1, i2]) (fun c hc => ⟨(inn c hc).2.2.2.1, (inn c hc).2.1, (inn c hc).2.2.2.2.1, (inn c hc).2.2.2.2.2⟩) (fun c o _ _ hc e _ => ?_) (fun c o _ _ hc e _ => ?_) (fun c o hc e n => ?_) (fun c o hc e => ?_) (fun c t e => ?_) (fun c o t e => ?_) (fun c ps e => ?_) (fun m hm => ?_) (fun c t e => ?_) I.bare
   · obtain ⟨c1, c2, c3, c4⟩ := nin c hc; exact k2 c o c1 c2 c3 c4 e
   · obtain ⟨c1, c2, c3, c4⟩ := nin c hc; exact ⟨o.slots, k2 c o c1 c2 c3 c4 e⟩
   · rw [zc4 (big e)]; exact n
   · obtain ⟨c1, c2, c3, c4⟩ := nin c hc; exact ⟨o, k2 c o c1 c2 c3 c4 e⟩
   · rw [zc4 (zg3 e hTn)]; exact e
   · rw [zc4 (zg3 e hTn)]; exact e
   · exact ⟨#[], by rw [zc4 (zg3 e hTn), e]; simp⟩
   · obtain ⟨o, es, ep, ho, r⟩ := hm
     obtain ⟨c1, c2, c3, c4⟩ := nin X.env.locals (fun hc => (inn _ hc).2.1 rfl)
     exact ⟨o, es, ep, k2 _ o c1 c2 c3 c4 ho, r⟩
   · by_cases hcT : c = s.heap.objs.size
     · subst hcT
       rw [zc5] at e
       cases e
       exact ⟨by show 2 ≤ sizeLine; decide, [u, v], .cons ru (.cons rv .nil), ⟨_, eT, rfl, _, rfl⟩⟩
     · rw [zc4 hcT] at e
       refine (I.hok c t e).stay (fun d o hd q => ?_) (fun d q => by rw [zc4 (zg3 q hTn)]; exact q) fun d zs q => by rw [zc4 (zg3 q hTn)]; exact q
       have hd' : d ∉ [z, TO, i1, i2] := by
        rcases hd with hd | hd
        · rw [hd]; exact trk c t e
        · exact trk d _ hd
       obtain ⟨c1, c2, c3, c4⟩ := nin d hd'
       exact k2 d o c1 c2 c3 c4 q
  refine ⟨.ref s.heap.objs.size, _, I1, rfl, ⟨s.heap.objs.size, x, y, hTn, rfl, rfl, fun zs hz => by rw [I.list_inj hz qx]; exact hx, fun zs hz => by rw [I.list_inj hz qy]; exact hy⟩,
   ⟨b1, k2 _ _ D.TIz D.TITO D.TIi1 D.TIi2 e2, ⟨u, v, (b2.2 _ D.TOz).trans a2⟩, a3.at fun o e => (b2.2 _ D.i1z).trans e, a4.at fun o e => (b2.2 _ D.i2z).trans e⟩, fun c hc => ?_⟩
  have hcn : ∀ c ∈ [z, TI, TO, i1, i2], c ≠ s.heap.objs.size := fun c hc => by
   obtain ⟨o4, g4, _⟩ := id e4
   obtain ⟨o5, g5, _⟩ := id e5
   simp only [List.mem_cons, List.not_mem_nil, or_false] at hc
   rcases hc with rfl | rfl | rfl | rfl | rfl
   · exact big e1
   · exact big e2
   · exact big e3
   · exact big g4
   · exact big g5
  rw [zc4 (hcn c hc)]
  exact (hf c hc).1
 done := by
  intro X hP hw hK hc i pins s σ H E I hf st hg
  subst hP hw hK
  obtain ⟨xs, ys, qx, qy, hl⟩ := hg
  obtain ⟨its, rvx, px, _⟩ := I.list qx
  obtain ⟨jts, rvy, py, _⟩ := I.list qy
  obtain ⟨e1, e2, ⟨u0, v0, e3⟩, e4, e5⟩ := st
  have D := zip_apart h12 hT e1 e2 e3 e4 e5 px py
  have lx := rvx.length
  have ly := rvy.length
  refine wpAny_pyNext_zip_end (I.ok.hd hc) D e1 e2 e3 e4 e5 px.isList py.isList ?_ fun h' k => ⟨rfl, I.turnedL (t' := s.toks) (ch := [z, TO, i1, i2]) (fun c hc => hf c ?_) fun c o hc e => ?_⟩
  · rcases hl with hl | hl
    · exact .inl (by simp; omega)
    · exact .inr (by simp; omega)
  · simp only [List.mem_cons, List.not_mem_nil, or_false] at hc ⊢
    rcases hc with h | h | h | h
    · exact .inl h
    · exact .inr (.inr (.inl h))
    · exact .inr (.inr (.inr (.inl h)))
    · exact .inr (.inr (.inr (.inr h)))
  · simp only [List.mem_cons, List.not_mem_nil, or_false, not_or] at hc
    exact k c o hc.1 hc.2.1 hc.2.2.1 hc.2.2.2 e
 self := fun _ _ _ _ _ st h => wpAny_pyIter_zip st.1 h
def iZip (K : PySem.W.Frag) (ta : TA) : TI := fun σ H R => ta σ H fun vs H1 => ∃ a b, vs = [.ref a, .ref b] ∧ (∃ xs, SqL K H1 a xs) ∧ (∃ ys, SqL K H1 b ys) ∧ R (Itz K a b) H1
theorem pi_zip {X : Cx} {elts : List Expr} {x1} {tpos : Pos} {a b : Expr} {ta : TA} {p pos : Pos} (hg : Gl X "zip") (hm : X.mg "zip" = none) (ha : PA X [a, b] ta) (hs : starEach [a, b] X.env = [(false, eval a X.env), (false, eval b X.env)] := by rfl) (hs2 : starEach [b] X.env = [(false, eval b X.env)] := by rfl) :
 PI X (.Tuple elts x1 tpos) (.Call (.Name "zip" p) [a, b] [] pos) (iZip X.K ta) := by
 intro pins s σ H R I h
 refine Call_ (yc4 I hg hm boot_zip (PyProof.Rows.callWith_type1 (thn (ha pos pins s σ H _ I h) fun us s1 hq0 => ?_) (by rw [hs, hs2]) (by rw [hs2]; rfl)))
 obtain ⟨vs, H1, I1, r1, q1⟩ := hq0
 obtain ⟨a, b, e, ⟨xs, qx⟩, ⟨ys, qy⟩, q⟩ := q1
 subst e
 cases r1 with
 | cons r rr =>
  cases rr with
  | cons r' rr =>
   cases rr
   cases r
   cases r'
   obtain ⟨its, rvx, px, _⟩ := I1.list qx
   obtain ⟨jts, rvy, py, _⟩ := I1.list qy
   refine call_zip_2 px.isList py.isList fun h' g5 g3 g4 g1 g2 z5 k => ?_
   refine wpAny_pyIter_zip (s := { s1 with heap := h' }) g5 ?_
   refine ⟨s1.heap.objs.size + 4, [s1.heap.objs.size + 4, s1.heap.objs.size + 2, s1.heap.objs.size + 3, s1.heap.objs.size, s1.heap.objs.size + 1], _, _, H1, rfl, I1.kept (t' := s1.toks) k, turn_zip a b _ _ _ _ _ (Nat.ne_of_lt (Nat.lt_succ_self _)) (Nat.ne_of_lt (Nat.lt_succ_self _)), ⟨g5, g3, ⟨_, _, g4⟩, g1, g2⟩, fun c hc => ?_, q⟩
   have hc' : s1.heap.objs.size ≤ c := by
    simp only [List.mem_cons, List.not_mem_nil, or_false] at hc
    rcases hc with h | h | h | h | h <;> subst h <;> first
     | exact Nat.le_refl _
     | exact Nat.le_add_right _ _
   exact I1.fpOk hc' (I1.hok.fresh hc')
def isiI (T : String) : Option Bool := if T = "int" then some true else if T = "bool" then some false else if T = "str" then some false else if T = "list" then some false else if T = "tuple" then some false else if T = "dict" then some false else none
def isiB (T : String) : Option Bool := if T = "int" then some true else if T = "bool" then some true else if T = "str" then some false else if T = "list" then some false else if T = "tuple" then some false else if T = "dict" then some false else none
def isiS (T : String) : Option Bool := if T = "int" then some false else if T = "bool" then some false else if T = "str" then some true else if T = "list" then some false else if T = "tuple" then some false else if T = "dict" then some false else none
def isiV (v : V) (T : String) : Option Bool := match v with
 | .int _ => isiI T
 | .bl _ => isiB T
 | .str _ => isiS T
 | _ => none
theorem call_isi {X : Cx} : CallR X (.builtin "isinstance") (fun xs H Q => ∃ v T k, xs = [v, .ty T] ∧ isiV v T = some k ∧ Q (.bl k) H) := by
 intro pins s σ H xs us Q I r h
 obtain ⟨v, T, k, rfl, hk, q⟩ := h
 cases r with
 | cons r rr =>
  cases rr with
  | cons r' rr =>
   cases rr
   cases r'
   have fin : ∀ {n : Option Bool} {T' : String} {b : Bool}, (if T = T' then some b else n) = some k → (T = T' ∧ b = k) ∨ n = some k := fun {n T' b} h => by
    by_cases e : T = T'
    · rw [if_pos e] at h
      cases h
      exact .inl ⟨e, rfl⟩
    · rw [if_neg e] at h
      exact .inr h
   cases v with
   | int i =>
    obtain ⟨t, rfl⟩ := r
    replace hk : isiI T = some k := hk
    unfold isiI at hk
    rcases fin hk with ⟨rfl, rfl⟩ | hk
    · exact IsiPair.int_int ⟨.bl _, H, I, rfl, q⟩
    rcases fin hk with ⟨rfl, rfl⟩ | hk
    · exact IsiPair.int_bool ⟨.bl _, H, I.tok _, rfl, q⟩
    rcases fin hk with ⟨rfl, rfl⟩ | hk
    · exact IsiPair.int_str ⟨.bl _, H, I.tok _, rfl, q⟩
    rcases fin hk with ⟨rfl, rfl⟩ | hk
    · exact IsiPair.int_list ⟨.bl _, H, I.tok _, rfl, q⟩
    rcases fin hk with ⟨rfl, rfl⟩ | hk
    · exact IsiPair.int_tuple ⟨.bl _, H, I.tok _, rfl, q⟩
    rcases fin hk with ⟨rfl, rfl⟩ | hk
    · exact IsiPair.int_dict ⟨.bl _, H, I.tok _, rfl, q⟩
    cases hk
   | bl i =>
    cases r
    replace hk : isiB T = some k := hk
    unfold isiB at hk
    rcases fin hk with ⟨rfl, rfl⟩ | hk
    · first | exact IsiPair.bool_int ⟨.bl _, H, I, rfl, q⟩ | exact IsiPair.bool_int ⟨.bl _, H, I.tok _, rfl, q⟩
    rcases fin hk with ⟨rfl, rfl⟩ | hk
    · first | exact IsiPair.bool_bool ⟨.bl _, H, I, rfl, q⟩ | exact IsiPair.bool_bool ⟨.bl _, H, I.tok _, rfl, q⟩
    rcases fin hk with ⟨rfl, rfl⟩ | hk
    · first | exact IsiPair.bool_str ⟨.bl _, H, I, rfl, q⟩ | exact IsiPair.bool_str ⟨.bl _, H, I.tok _, rfl, q⟩
    rcases fin hk with ⟨rfl, rfl⟩ | hk
    · first | exact IsiPair.bool_list ⟨.bl _, H, I, rfl, q⟩ | exact IsiPair.bool_list ⟨.bl _, H, I.tok _, rfl, q⟩
    rcases fin hk with ⟨rfl, rfl⟩ | hk
    · first | exact IsiPair.bool_tuple ⟨.bl _, H, I, rfl, q⟩ | exact IsiPair.bool_tuple ⟨.bl _, H, I.tok _, rfl, q⟩
    rcases fin hk with ⟨rfl, rfl⟩ | hk
    · first | exact IsiPair.bool_dict ⟨.bl _, H, I, rfl, q⟩ | exact IsiPair.bool_dict ⟨.bl _, H, I.tok _, rfl, q⟩
    cases hk
   | str i =>
    obtain ⟨t, rfl⟩ := r
    replace hk : isiS T = some k := hk
    unfold isiS at hk
    rcases fin hk with ⟨rfl, rfl⟩ | hk
    · first | exact IsiPair.str_int ⟨.bl _, H, I, rfl, q⟩ | exact IsiPair.str_int ⟨.bl _, H, I.tok _, rfl, q⟩
    rcases fin hk with ⟨rfl, rfl⟩ | hk
    · first | exact IsiPair.str_bool ⟨.bl _, H, I, rfl, q⟩ | exact IsiPair.str_bool ⟨.bl _, H, I.tok _, rfl, q⟩
    rcases fin hk with ⟨rfl, rfl⟩ | hk
    · first | exact IsiPair.str_str ⟨.bl _, H, I, rfl, q⟩ | exact IsiPair.str_str ⟨.bl _, H, I.tok _, rfl, q⟩
    rcases fin hk with ⟨rfl, rfl⟩ | hk
    · first | exact IsiPair.str_list ⟨.bl _, H, I, rfl, q⟩ | exact IsiPair.str_list ⟨.bl _, H, I.tok _, rfl, q⟩
    rcases fin hk with ⟨rfl, rfl⟩ | hk
    · first | exact IsiPair.str_tuple ⟨.bl _, H, I, rfl, q⟩ | exact IsiPair.str_tuple ⟨.bl _, H, I.tok _, rfl, q⟩
    rcases fin hk with ⟨rfl, rfl⟩ | hk
    · first | exact IsiPair.str_dict ⟨.bl _, H, I, rfl, q⟩ | exact IsiPair.str_dict ⟨.bl _, H, I.tok _, rfl, q⟩
    cases hk
   | _ => cases hk
end L2
set_option Elab.async false
set_option linter.all false
set_option maxRecDepth 100000
namespace L2
open PySem PySem.Spec PyProof.Rows
section
variable {X : Cx}
def CDivM (i j : Int) : Prop := j ≠ 0 ∧ j.natAbs < 2 ^ 512
theorem zj3 : OpR X (binaryOp .FloorDiv) (rI CDivM fun i j => .int (i.fdiv j)) := opI fun i j _ _ _ _ _ hc q => floordiv_int hc.1 q (.inl (PyProof.noPylong_of_log2 (by
 by_cases h0 : j.natAbs = 0
 · rw [h0]; decide +kernel
 · have := (Nat.log2_lt h0).mpr hc.2
   omega)))
theorem zi4 : OpR X (binaryOp .Mod) (rI (fun _ j => j ≠ 0) fun i j => .int (i.fmod j)) := op_modN
theorem zn6 {scope : Scope} {N : List Str} {ix : List (Option Nat)} (kind : scope.kind = .function) (nocell : (scope.names.all fun y => y.2 != .cell) = true) (locs : (scope.names.all fun y => y.2 != .local || scope.names.lookup y.1 == some .local) = true)
 (free : (scope.names.all fun y => y.2 != .free || X.env.kindOf y.1 == some .cell || X.env.kindOf y.1 == some .free) = true) (len : ix.length = N.length) (nd : N.Nodup)
 (fr : ((ix.zip N).all fun p => match p.1 with
  | none => true
  | some i => X.N[i]? == some p.2 && (X.env.kindOf p.2 == some .cell || X.env.kindOf p.2 == some .free) && ((relabel scope X.env).names.lookup p.2 == some .cell || (relabel scope X.env).names.lookup p.2 == some .free)) = true) : CompScope X scope N ix := by
 refine ⟨kind, fun y hy => ?_, fun y hy hl => ?_, fun y hy hf => ?_, len, nd, fun j i e => ?_⟩
 · have := List.all_eq_true.mp nocell y hy
   simpa using this
 · have := List.all_eq_true.mp locs y hy
   rw [hl] at this
   simpa using this
 · have := List.all_eq_true.mp free y hy
   rw [hf] at this
   simpa using this
 · have hj : j < ix.length := (List.getElem?_eq_some_iff.mp e).1
   have hj' : j < N.length := by omega
   have hm : (ix.zip N)[j]? = some (some i, N[j]) := by
    rw [List.getElem?_zip_eq_some]
    exact ⟨e, by simp [hj']⟩
   have := List.all_eq_true.mp fr _ (List.mem_of_getElem? hm)
   simp only [Bool.and_eq_true, Bool.or_eq_true, beq_iff_eq] at this
   exact ⟨N[j], by simp [hj'], this.1.1, this.1.2, this.2⟩
end
structure Df (K : PySem.W.Frag) (mg : Str → Option Value) (x : Str) (st : Stmt) (ps : List Str) (f : Addr) (fd : FuncData) : Prop where
 fn : Fun K x x st f fd
 b : Binds K fd ps []
 m : mg x = some (.ref f)
section
variable {K : PySem.W.Frag} {a b : Addr} {xs ys : List V} {wi : TI} {g : TG} {tb : TS} {D : Ends} {σ : St} {H H1 : Hp} {ix : List (Option Nat)} {tc : TT} {te : TE} {Q : VK}
end
end L2
set_option Elab.async false
set_option linter.all false
set_option maxRecDepth 100000
namespace L2
open PySem PySem.Spec PyProof.Rows
mutual
inductive Dp (K : PySem.W.Frag) (H : Hp) : V → PyData → Prop
 | non : Dp K H .non .none
 | bl (b : Bool) : Dp K H (.bl b) (.bool b)
 | int (i : Int) : Dp K H (.int i) (.int i)
 | str (x : Str) : Dp K H (.str x) (.str x)
 | lst {a : Addr} {xs : List V} {ds : List PyData} : SqL K H a xs → DpAll K H xs ds → Dp K H (.ref a) (.list ds)
 | tup {a : Addr} {xs : List V} {ds : List PyData} : SqT K H a xs → DpAll K H xs ds → Dp K H (.ref a) (.tuple ds)
inductive DpAll (K : PySem.W.Frag) (H : Hp) : List V → List PyData → Prop
 | nil : DpAll K H [] []
 | cons {v : V} {vs : List V} {d : PyData} {ds : List PyData} : Dp K H v d → DpAll K H vs ds → DpAll K H (v :: vs) (d :: ds)
end
mutual
theorem Dp.reads {X : Cx} {pins : List (Addr × Obj)} {σ : St} {H : Hp} {s : Shared} (I : Inv X pins σ H s) : ∀ {v : V} {d : PyData} {u : Value}, Dp X.K H v d → RelV v u → ∃ as, Reads s.heap u d as
 | _, _, u, .non, r => by cases r; exact ⟨_, .none⟩
 | _, _, u, .bl b, r => by cases r; exact ⟨_, .bool b⟩
 | _, _, u, .int i, r => by obtain ⟨t, rfl⟩ := r; exact ⟨_, .int i t⟩
 | _, _, u, .str x, r => by obtain ⟨t, rfl⟩ := r; exact ⟨_, .str x t⟩
 | _, _, u, .lst (xs := xs) q a, r => by
  cases r
  obtain ⟨its, rv, ⟨o, n, e, c, _, d⟩, _⟩ := I.list q
  obtain ⟨as, ra⟩ := DpAll.reads I a rv
  exact ⟨_, .list e c d (by simpa using ra)⟩
 | _, _, u, .tup (xs := xs) q a, r => by
  cases r
  obtain ⟨its, rv, ⟨o, e, c, n, d⟩, _⟩ := I.tuple q
  obtain ⟨as, ra⟩ := DpAll.reads I a rv
  exact ⟨_, .tuple e c d (by simpa using ra)⟩
theorem DpAll.reads {X : Cx} {pins : List (Addr × Obj)} {σ : St} {H : Hp} {s : Shared} (I : Inv X pins σ H s) : ∀ {vs : List V} {ds : List PyData} {us : List Value}, DpAll X.K H vs ds → Vals vs us → ∃ as, ReadsAll s.heap us ds as
 | _, _, _, .nil, .nil => ⟨_, .nil⟩
 | _, _, _, .cons h t, .cons r rr => by
  obtain ⟨as, ra⟩ := Dp.reads I h r
  obtain ⟨bs, rb⟩ := DpAll.reads I t rr
  exact ⟨_, .cons ra rb⟩
end
def rEqD (K : PySem.W.Frag) (neg : Bool) : R2 := fun x y H Q => ∃ d e, Dp K H x d ∧ Dp K H y e ∧ d.canLay0 = true ∧ e.canLay0 = true ∧ d.depth ≤ 64 ∧ Q (.bl (if neg then !(PyData.eqv d e) else PyData.eqv d e)) H
theorem op_eqD {X : Cx} (hu : X.A.units + 64 < cLine) : OpR X (compareOp .Eq) (rEqD X.K false) := by
 intro pins s σ H x y v u Q I rx ry h
 obtain ⟨d, e, hx, hy, cd, ce, dd, q⟩ := h
 obtain ⟨as, ra⟩ := hx.reads I rx
 obtain ⟨bs, rb⟩ := hy.reads I ry
 exact SeqAt.compareEq_reads ra rb cd ce (by omega) ⟨.bl _, H, I, rfl, by simpa using q⟩
theorem op_neD {X : Cx} (hu : X.A.units + 64 < cLine) : OpR X (compareOp .NotEq) (rEqD X.K true) := by
 intro pins s σ H x y v u Q I rx ry h
 obtain ⟨d, e, hx, hy, cd, ce, dd, q⟩ := h
 obtain ⟨as, ra⟩ := hx.reads I rx
 obtain ⟨bs, rb⟩ := hy.reads I ry
 exact SeqAt.compareNe_reads ra rb cd ce (by omega) ⟨.bl _, H, I, rfl, by simpa using q⟩
end L2
set_option Elab.async false
set_option linter.all false
set_option maxRecDepth 100000
namespace L2
open PySem PySem.Spec PyProof.Rows
section
variable {P : Program} {w : World} {K : PySem.W.Frag} {mg : Str → Option Value} {base : Heap} {N : List Str} {qual : Str} {scope : Scope} {f : Addr} {cd : Value} {A : Around} {outer : List Env} {s : Shared} {H : Hp} {E : XK}
end
end L2
set_option Elab.async false
set_option linter.all false
set_option maxRecDepth 100000
namespace L2
open PySem PySem.Spec PyProof.Rows
section
variable {X : Cx} {E : XK} {C : Addr} {x : Str} {np cpos pos : Pos} {e : Expr} {es : List Expr} {t : TA}
end
end L2
set_option Elab.async false
set_option linter.all false
set_option maxRecDepth 100000
namespace L2
open PySem PySem.Spec PyProof.Rows
end L2
set_option Elab.async false
set_option linter.all false
set_option maxRecDepth 100000
namespace L2
open PySem PySem.Spec PyProof.Rows
section
variable {K : PySem.W.Frag} {x D : Addr}
variable {prog : Program} {w : World} {A : Around} {E : Value → Shared → Prop} {s : Shared} {nm : Str}
end
section
variable {X : Cx}
end
end L2
set_option Elab.async false
set_option linter.all false
set_option maxRecDepth 100000
namespace L2
open PySem PySem.Spec PyProof.Rows
section
variable {κ : Type} [DecidableEq κ]
def valV (kvs : List (κ × V)) (k : κ) : Option V := (kvs.find? fun kv => decide (kv.1 = k)).map (·.2)
def putK (kvs : List (κ × V)) (k : κ) (v : V) : List (κ × V) :=
 if (kvs.any fun kv => decide (kv.1 = k)) = true then kvs.map (fun kv => if kv.1 = k then (kv.1, v) else kv) else kvs ++ [(k, v)]
theorem zu6 {p : κ × V} {r : List (κ × V)} {k : κ} (e : p.1 = k) : valV (p :: r) k = some p.2 := by simp [valV, List.find?_cons, e]
theorem zs2 {p : κ × V} {r : List (κ × V)} {k : κ} (e : ¬ p.1 = k) : valV (p :: r) k = valV r k := by simp [valV, List.find?_cons, e]
theorem yb1 (k : κ) : ∀ kvs : List (κ × V), (kvs.any fun kv => decide (kv.1 = k)) = (valV kvs k).isSome
 | [] => rfl
 | p :: r => by
  rw [List.any_cons]
  by_cases e : p.1 = k
  · simp only [zu6 e, decide_eq_true e, Bool.true_or, Option.isSome_some]
  · rw [zs2 e, decide_eq_false e, Bool.false_or]; exact yb1 k r
theorem length_putK (kvs : List (κ × V)) (k : κ) (v : V) : (putK kvs k v).length ≤ kvs.length + 1 := by
 unfold putK
 split
 · rw [List.length_map]; omega
 · rw [List.length_append, List.length_cons, List.length_nil]; omega
theorem putK_new {kvs : List (κ × V)} {k : κ} (v : V) (h : valV kvs k = none) : putK kvs k v = kvs ++ [(k, v)] := by
 unfold putK
 rw [yb1, h]
 exact if_neg (by decide)
theorem RelO.isSome_eq {o : Option V} {u : Option Value} (r : RelO o u) : o.isSome = u.isSome := by
 cases o with
 | none => cases u with
  | none => rfl
  | some _ => exact (show False from r).elim
 | some _ => cases u with
  | none => exact (show False from r).elim
  | some _ => rfl
theorem RelO.getD {o : Option V} {u : Option Value} {d : V} {d' : Value} (r : RelO o u) (rd : RelV d d') : RelV (o.getD d) (u.getD d') := by
 cases o with
 | none => cases u with
  | none => exact rd
  | some _ => exact (show False from r).elim
 | some _ => cases u with
  | none => exact (show False from r).elim
  | some _ => exact r
theorem KV.val {kvs : List (κ × V)} {vs : List (κ × Value)} (r : KV kvs vs) (k : κ) : RelO (valV kvs k) (valueAt vs k) := by
 unfold KV at r
 induction r with
 | nil => exact True.intro
 | @cons p q ps qs h t ih =>
  obtain ⟨h1, h2⟩ := h
  by_cases e : p.1 = k
  · have e' : q.1 = k := h1.symm.trans e
    have b : valueAt (q :: qs) k = some q.2 := by simp [valueAt, List.find?_cons, e']
    rw [zu6 e, b]; exact h2
  · have e' : ¬ q.1 = k := fun z => e (h1.trans z)
    have b : valueAt (q :: qs) k = valueAt qs k := by simp [valueAt, List.find?_cons, e']
    rw [zs2 e, b]; exact ih
theorem KV.any {kvs : List (κ × V)} {vs : List (κ × Value)} (r : KV kvs vs) (k : κ) : (kvs.any fun kv => decide (kv.1 = k)) = vs.any fun kv => decide (kv.1 = k) := by
 unfold KV at r
 induction r with
 | nil => rfl
 | cons h t ih => rw [List.any_cons, List.any_cons, ih, h.1]
theorem KV.repl {kvs : List (κ × V)} {vs : List (κ × Value)} (r : KV kvs vs) (k : κ) {y : V} {u : Value} (ry : RelV y u) :
 KV (kvs.map fun kv => if kv.1 = k then (kv.1, y) else kv) (vs.map fun kv => if kv.1 = k then (kv.1, u) else kv) := by
 unfold KV at r ⊢
 induction r with
 | nil => exact .nil
 | @cons p q ps qs h t ih =>
  rw [List.map_cons, List.map_cons]
  refine .cons ?_ ih
  obtain ⟨h1, h2⟩ := h
  by_cases e : p.1 = k
  · rw [if_pos e, if_pos (h1.symm.trans e)]; exact ⟨h1, ry⟩
  · rw [if_neg e, if_neg (fun z => e (h1.trans z))]; exact ⟨h1, h2⟩
theorem KV.put {kvs : List (κ × V)} {vs : List (κ × Value)} (r : KV kvs vs) (k : κ) {y : V} {u : Value} (ry : RelV y u) : KV (putK kvs k y) (stored vs k u) := by
 unfold putK stored
 rw [r.any k]
 by_cases e : (vs.any fun kv => decide (kv.1 = k)) = true
 · rw [if_pos e, if_pos e]; exact r.repl k ry
 · rw [if_neg e, if_neg e]; exact Paired.snoc r ⟨rfl, ry⟩
theorem KV.length {kvs : List (κ × V)} {vs : List (κ × Value)} (r : KV kvs vs) : kvs.length = vs.length := Paired.length r
end
theorem kV_is {P : Program} {w : World} {k : Key} {u : Value} (r : RelV (kV k) u) : (zg5 P w).is k u = true := by
 cases k with
 | inl i => obtain ⟨t, e⟩ := (show ∃ t, u = Value.int i t from r); subst e; exact mixKind_int P w i t
 | inr x => obtain ⟨t, e⟩ := (show ∃ t, u = Value.str x t from r); subst e; exact mixKind_str P w x t
theorem items_are {P : Program} {w : World} : ∀ {ks : List Key} {us : List Value}, Vals (ks.map kV) us → ItemsAre (zg5 P w) ks us
 | [], _, r => by rw [List.map_nil] at r; cases r; exact .nil
 | k :: ks, _, r => by
  rw [List.map_cons] at r
  cases r with
  | cons h t => exact .cons (kV_is h) (items_are t)
abbrev KT (H : Hp) : List (List Key × V) → List (List Key × Addr × Value) → Prop := Paired fun p q => p.1 = q.1 ∧ H q.2.1 = some (.tup (p.1.map kV)) ∧ RelV p.2 q.2.2
theorem KT.val {H : Hp} {kvs : List (List Key × V)} {xs : List (List Key × Addr × Value)} (r : KT H kvs xs) (k : List Key) : RelO (valV kvs k) ((atKey xs k).map (·.2)) := by
 induction r with
 | nil => exact True.intro
 | @cons p q ps qs h t ih =>
  obtain ⟨h1, _, h2⟩ := h
  by_cases e : p.1 = k
  · have e' : q.1 = k := h1.symm.trans e
    have b : atKey (q :: qs) k = some q.2 := by simp [atKey, List.find?_cons, e']
    rw [zu6 e, b]; exact h2
  · have e' : ¬ q.1 = k := fun z => e (h1.trans z)
    have b : atKey (q :: qs) k = atKey qs k := by simp [atKey, List.find?_cons, e']
    rw [zs2 e, b]; exact ih
theorem KT.repl {H : Hp} {kvs : List (List Key × V)} {xs : List (List Key × Addr × Value)} (r : KT H kvs xs) (k : List Key) {y : V} {u : Value} (ry : RelV y u) :
 KT H (kvs.map fun kv => if kv.1 = k then (kv.1, y) else kv) (xs.map (putAt k u)) := by
 induction r with
 | nil => exact .nil
 | @cons p q ps qs h t ih =>
  rw [List.map_cons, List.map_cons]
  refine .cons ?_ ih
  obtain ⟨h1, h2, h3⟩ := h
  unfold putAt
  by_cases e : p.1 = k
  · rw [if_pos e, if_pos (h1.symm.trans e)]; exact ⟨h1, h2, ry⟩
  · rw [if_neg e, if_neg (fun z => e (h1.trans z))]; exact ⟨h1, h2, h3⟩
theorem KT.put {H : Hp} {kvs : List (List Key × V)} {xs : List (List Key × Addr × Value)} (r : KT H kvs xs) (k : List Key) {b : Addr} {y : V} {u : Value} (hb : H b = some (.tup (k.map kV))) (ry : RelV y u) :
 KT H (putK kvs k y) (storedH xs k b u) := by
 have e : (kvs.any fun kv => decide (kv.1 = k)) = (atKey xs k).isSome := by
  rw [yb1, (r.val k).isSome_eq, Option.isSome_map]
 unfold putK storedH
 rw [e]
 by_cases q : (atKey xs k).isSome = true
 · rw [if_pos q, if_pos q]; exact r.repl k ry
 · rw [if_neg q, if_neg q]; exact Paired.snoc r ⟨rfl, hb, ry⟩
theorem KT.keeps {H H' : Hp} {kvs : List (List Key × V)} {xs : List (List Key × Addr × Value)} (r : KT H kvs xs) (ht : ∀ b ys, H b = some (.tup ys) → H' b = some (.tup ys)) : KT H' kvs xs :=
 Paired.mapP r fun _ _ z => ⟨z.1, ht _ _ z.2.1, z.2.2⟩
section
variable {P : Program} {w : World} {H : Hp} {h : Heap} {a : Addr}
theorem rd_of {u : HO} (ok : HOk P w H h) (e : Rd H a u) : ObjOk P w H h a u := e.ok ok
theorem dk_rd {kvs : List (Key × V)} (ok : HOk P w H h) (e : Rd H a (.dK kvs)) : kvs.length ≤ sizeLine ∧ (a == sysModules) = false ∧ ∃ vs, KV kvs vs ∧ h.DictOf (zg5 P w) a vs :=
 show ObjOk P w H h a (.dK kvs) from rd_of ok e
theorem dk_of {kvs : List (Key × V)} (ok : HOk P w H h) (e : H a = some (.dK kvs)) : kvs.length ≤ sizeLine ∧ (a == sysModules) = false ∧ ∃ vs, KV kvs vs ∧ h.DictOf (zg5 P w) a vs := dk_rd ok (.inl e)
theorem zy7 {ks : List Key} (ok : HOk P w H h) (e : H a = some (.tup (ks.map kV))) : (tupleKind (zg5 P w)).is h ks a := by
 obtain ⟨_, its, r, o, h1, h2, n, h3⟩ := (show ObjOk P w H h a (.tup (ks.map kV)) from ok a _ e)
 exact ⟨o, its.toArray, n, h1, h2, h3, by simpa using items_are r⟩
theorem dt_rd {kvs : List (List Key × V)} (ok : HOk P w H h) (e : Rd H a (.dT kvs)) : kvs.length ≤ sizeLine ∧ (a == sysModules) = false ∧
 ∃ xs, KT H kvs xs ∧ h.DictOfH (tupleKind (zg5 P w)) a xs := by
 obtain ⟨z, y, xs, r, o, es, ep, h1, h2, h3, h4, h5⟩ := (show ObjOk P w H h a (.dT kvs) from rd_of ok e)
 refine ⟨z, y, xs, r, o, es, ep, h1, h2, h3, h4, fun x hx => ?_, h5⟩
 have all : ∀ {l : List (List Key × V)} {m : List (List Key × Addr × Value)}, KT H l m → ∀ x ∈ m, (tupleKind (zg5 P w)).is h x.1 x.2.1 := by
  intro l m q
  induction q with
  | nil => intro x hx; exact nomatch hx
  | @cons p q ps qs hq t ih =>
   intro x hx
   rcases List.mem_cons.mp hx with e | hx
   · subst e
     exact zy7 ok (by rw [← hq.1]; exact hq.2.1)
   · exact ih x hx
 exact all r x hx
theorem dt_of {kvs : List (List Key × V)} (ok : HOk P w H h) (e : H a = some (.dT kvs)) : kvs.length ≤ sizeLine ∧ (a == sysModules) = false ∧
 ∃ xs, KT H kvs xs ∧ h.DictOfH (tupleKind (zg5 P w)) a xs := dt_rd ok (.inl e)
end
def DGet (H : Hp) (a : Addr) (y : V) (r : Option V) : Prop :=
 (∃ kvs k, Rd H a (.dK kvs) ∧ y = kV k ∧ r = valV kvs k) ∨ ∃ kvs k b, Rd H a (.dT kvs) ∧ y = .ref b ∧ H b = some (.tup (k.map kV)) ∧ r = valV kvs k
def DPut (H : Hp) (a : Addr) (y v : V) (H' : Hp) : Prop :=
 (∃ kvs k, H a = some (.dK kvs) ∧ y = kV k ∧ kvs.length < sizeLine ∧ H' = upd H a (.dK (putK kvs k v))) ∨
 ∃ kvs k b, H a = some (.dT kvs) ∧ y = .ref b ∧ H b = some (.tup (k.map kV)) ∧ kvs.length < sizeLine ∧ H' = upd H a (.dT (putK kvs k v))
theorem DGet.k {H : Hp} {a : Addr} {kvs : List (Key × V)} {k : Key} (e : H a = some (.dK kvs)) : DGet H a (kV k) (valV kvs k) := .inl ⟨kvs, k, .inl e, rfl, rfl⟩
theorem DGet.t {H : Hp} {a b : Addr} {kvs : List (List Key × V)} {k : List Key} (e : H a = some (.dT kvs)) (eb : H b = some (.tup (k.map kV))) : DGet H a (.ref b) (valV kvs k) := .inr ⟨kvs, k, b, .inl e, rfl, eb, rfl⟩
theorem DPut.k {H : Hp} {a : Addr} {kvs : List (Key × V)} {k : Key} {v : V} (e : H a = some (.dK kvs)) (hl : kvs.length < sizeLine) : DPut H a (kV k) v (upd H a (.dK (putK kvs k v))) := .inl ⟨kvs, k, e, rfl, hl, rfl⟩
theorem DPut.t {H : Hp} {a b : Addr} {kvs : List (List Key × V)} {k : List Key} {v : V} (e : H a = some (.dT kvs)) (eb : H b = some (.tup (k.map kV))) (hl : kvs.length < sizeLine) :
 DPut H a (.ref b) v (upd H a (.dT (putK kvs k v))) := .inr ⟨kvs, k, b, e, rfl, eb, hl, rfl⟩
section
variable {X : Cx} {pins : List (Addr × Obj)} {σ : St} {H : Hp} {s : Shared} {a : Addr} {y v : V} {u r : Value} {o : Option V} {A : Around} {E : Value → Shared → Prop}
theorem Inv.big (I : Inv X pins σ H s) : sysModules < s.heap.objs.size := by
 have h : mainGlobals < s.heap.objs.size := (I.mod.glob.keeps I.bk).lt
 exact Nat.lt_trans (by decide) h
theorem d_getItem {Q : Value → Shared → Prop} (hu : A.units + 1 < cLine) (I : Inv X pins σ H s) (g : DGet H a y (some v)) (ry : RelV y u) (h : ∀ w' s', Inv X pins σ H s' → RelV v w' → Q w' s') :
 wpAny (model X.prog X.w) A (getItem (.ref a) u) Q E s := by
 rcases g with ⟨kvs, k, e, ey, l⟩ | ⟨kvs, k, b, e, ey, eb, l⟩
 · subst ey
   obtain ⟨z, hd, vs, rel, dd⟩ := dk_rd I.hok e
   obtain ⟨w', hw, rw'⟩ := RelO.some_of (v := v) (o := valueAt vs k) (by rw [l]; exact rel.val k)
   exact wpAny_getItem_of (kV_is ry) dd.mapOf hw (h w' _ (I.tok _) rw')
 · subst ey
   cases (show u = Value.ref b from ry)
   obtain ⟨z, hd, xs, rel, dd⟩ := dt_rd I.hok e
   obtain ⟨w', hw, rw'⟩ := RelO.some_of (v := v) (o := (atKey xs k).map (·.2)) (by rw [l]; exact rel.val k)
   obtain ⟨p, hp, hp2⟩ := Option.map_eq_some_iff.mp hw
   refine wpAny_getItem_heap (tupleKind_room_in1 hu) (zy7 I.hok eb) dd hp ?_
   rw [hp2]
   exact h w' _ (I.tok _) rw'
theorem d_in {Q : Value → Shared → Prop} (hu : A.units + 1 < cLine) (I : Inv X pins σ H s) (g : DGet H a y o) (ry : RelV y u) (h : ∀ s', Inv X pins σ H s' → Q (.bool o.isSome) s') :
 wpAny (model X.prog X.w) A (compareOp .In u (.ref a)) Q E s := by
 rcases g with ⟨kvs, k, e, ey, l⟩ | ⟨kvs, k, b, e, ey, eb, l⟩
 · subst ey
   obtain ⟨z, hd, vs, rel, dd⟩ := dk_rd I.hok e
   refine wpAny_in_of (kV_is ry) hd dd.mapOf ?_
   rw [← (rel.val k).isSome_eq, ← l]
   exact h _ (I.tok _)
 · subst ey
   cases (show u = Value.ref b from ry)
   obtain ⟨z, hd, xs, rel, dd⟩ := dt_rd I.hok e
   refine wpAny_in_heap (tupleKind_room_in1 hu) (zy7 I.hok eb) hd dd ?_
   have q := (rel.val k).isSome_eq
   rw [Option.isSome_map] at q
   rw [← q, ← l]
   exact h _ (I.tok _)
theorem d_notIn {Q : Value → Shared → Prop} (hu : A.units + 1 < cLine) (I : Inv X pins σ H s) (g : DGet H a y o) (ry : RelV y u) (h : ∀ s', Inv X pins σ H s' → Q (.bool (!o.isSome)) s') :
 wpAny (model X.prog X.w) A (compareOp .NotIn u (.ref a)) Q E s := by
 rcases g with ⟨kvs, k, e, ey, l⟩ | ⟨kvs, k, b, e, ey, eb, l⟩
 · subst ey
   obtain ⟨z, hd, vs, rel, dd⟩ := dk_rd I.hok e
   refine wpAny_notIn_of (kV_is ry) hd dd.mapOf ?_
   rw [← (rel.val k).isSome_eq, ← l]
   exact h _ (I.tok _)
 · subst ey
   cases (show u = Value.ref b from ry)
   obtain ⟨z, hd, xs, rel, dd⟩ := dt_rd I.hok e
   refine wpAny_notIn_heap (tupleKind_room_in1 hu) (zy7 I.hok eb) hd dd ?_
   have q := (rel.val k).isSome_eq
   rw [Option.isSome_map] at q
   rw [← q, ← l]
   exact h _ (I.tok _)
theorem ye3 {h' : Heap} {t' : Nat} {ob : HO} (I : Inv X pins σ H s) (mu : Mut (H a)) (hs : Heap.SameBut a s.heap h') (he : ∃ q, h'.get? a = some q) (new : ObjOk X.prog X.w (upd H a ob) h' a ob) :
 Inv X pins σ (upd H a ob) { s with heap := h', toks := t' } :=
 I.write (x := a) (e := a) mu (.inl rfl) (fun b q hb z => (hs.2 b hb).trans z) he new
theorem dk_new {P : Program} {w : World} {H' : Hp} {h' : Heap} {kvs : List (Key × V)} {vs : List (Key × Value)} (z : kvs.length ≤ sizeLine) (hd : (a == sysModules) = false) (rel : KV kvs vs) (dd : h'.DictOf (zg5 P w) a vs) :
 ObjOk P w H' h' a (.dK kvs) := ⟨z, hd, vs, rel, dd⟩
theorem d_setItem {H' : Hp} {Q : Unit → Shared → Prop} (hu : A.units + 1 < cLine) (I : Inv X pins σ H s) (g : DPut H a y v H') (ry : RelV y u) (rv : RelV v r) (h : ∀ s', Inv X pins σ H' s' → Q () s') :
 wpAny (model X.prog X.w) A (setItem (.ref a) u r) Q E s := by
 rcases g with ⟨kvs, k, e, ey, l, eH⟩ | ⟨kvs, k, b, e, ey, eb, l, eH⟩
 · subst ey eH
   obtain ⟨z, hd, vs, rel, dd⟩ := dk_of I.hok e
   have hz : vs.length ≤ sizeLine := by rw [← rel.length]; exact z
   have hl : (putK kvs k v).length ≤ sizeLine := by have := length_putK kvs k v; omega
   refine wpAny_setItem_pairs (hsz := hz) (kV_is ry) dd fun h' dd' hs => h _ ?_
   have he : ∃ q, h'.get? a = some q := let ⟨q, _, _, hq, _⟩ := dd'; ⟨q, hq⟩
   exact ye3 I (by rw [e]; exact True.intro) hs he (dk_new hl hd (rel.put k rv) dd')
 · subst ey eH
   cases (show u = Value.ref b from ry)
   obtain ⟨z, hd, xs, rel, dd⟩ := dt_of I.hok e
   have hz : xs.length ≤ sizeLine := by rw [← Paired.length rel]; exact z
   have hl : (putK kvs k v).length ≤ sizeLine := by have := length_putK kvs k v; omega
   refine wpAny_setItem_heap (hsz := hz) (tupleKind_room_in1 hu) (zy7 I.hok eb) dd fun h' dd' hs => h _ ?_
   obtain ⟨q, es, ep, hq, h2, h3, h4, _, h5⟩ := dd'
   refine ye3 I (by rw [e]; exact True.intro) hs ⟨q, hq⟩ ⟨hl, hd, _, (rel.put k eb rv).keeps fun c ys ec => ?_, q, es, ep, hq, h2, h3, h4, h5⟩
   rw [zc4 (ne_of ec e (fun z => nomatch z))]
   exact ec
end
section
variable {X : Cx} {pins : List (Addr × Obj)} {σ : St} {H : Hp} {s : Shared} {a : Addr} {kvs : List (Key × V)} {k : Key} {u : Value} {A : Around} {E : Value → Shared → Prop}
end
def NoSl (i : Expr) : Prop := ∀ ov iv, subscripted i false ov iv = operate [ov, iv] (getItem ov iv)
theorem subD_of {prog : Program} {w : World} {A : Around} {E : Value → Shared → Prop} {s : Shared} {env : Env} {value slice : Expr} {pos : Pos} {T id : String} {Q : Value → Shared → Prop}
 (hl : typeLookup (.type T) "__getitem__" = pure (some (.builtin id))) (hs : NoSl slice)
 (h : wpAny (model prog w) A (eval value env) (fun o s₁ => wpAny (model prog w) A (eval slice env) (fun i s₂ => s₂.TypeIs o T ∧ wpAny (model prog w) A (getItem o i) Q E s₂) E s₁) E s) :
 wpAny (model prog w) A (eval (.Subscript value slice pos) env) Q E s := by
 refine Subscript_ (wpAny_mono h (fun o s₁ h₁ => wpAny_mono h₁ (fun i s₂ h₂ => ?_) fun _ _ x => x) fun _ _ x => x)
 obtain ⟨hT, h₂⟩ := h₂
 unfold subscriptTail
 refine wpAny_bind ?_
 rw [getitemInPython_of_ne hT.not_modules]
 refine wpAny_bind (wpAny_specialOf hT hl ?_)
 have fin : wpAny (model prog w) A (subscripted slice false o i) (fun r s₃ => wpAny (model prog w) A (letTemporaryGo value o r >>= fun _ => pure r) Q E s₃) E s₂ := by
  rw [hs o i]
  exact wpAny_operating (wpAny_mono h₂ (fun r s₃ h₃ => wpAny_bind (wpAny_letTemporaryGo (wpAny_pure h₃))) fun _ _ x => x)
 first
  | exact wpAny_pure (wpAny_bind fin)
  | exact wpAny_bind (wpAny_pure (wpAny_bind fin))
  | exact wpAny_bind fin
theorem dict_typeIs {X : Cx} {pins : List (Addr × Obj)} {σ : St} {H : Hp} {s : Shared} {a : Addr} {y : V} {o : Option V} (I : Inv X pins σ H s) (g : DGet H a y o) : s.TypeIs (.ref a) "dict" := by
 rcases g with ⟨kvs, k, e, _, _⟩ | ⟨kvs, k, b, e, _, _, _⟩
 · obtain ⟨_, _, vs, _, dd⟩ := dk_rd I.hok e
   exact dd.typeIs
 · obtain ⟨_, _, xs, _, dd⟩ := dt_rd I.hok e
   exact dd.typeIs
def tDGet (td ty : TE) : TE := fun σ H Q => td σ H fun x H1 => ty σ H1 fun y H2 => ∃ a v, x = .ref a ∧ DGet H2 a y (some v) ∧ Q v H2
def tDIn (ty td : TE) : TE := fun σ H Q => ty σ H fun y H1 => td σ H1 fun x H2 => ∃ a o, x = .ref a ∧ DGet H2 a y o ∧ Q (.bl o.isSome) H2
def tDNotIn (ty td : TE) : TE := fun σ H Q => ty σ H fun y H1 => td σ H1 fun x H2 => ∃ a o, x = .ref a ∧ DGet H2 a y o ∧ Q (.bl (!o.isSome)) H2
def sDPut (td ty tv : TE) : TS := fun D σ H => tv σ H fun v H1 => td σ H1 fun x H2 => ty σ H2 fun y H3 => ∃ a H4, x = .ref a ∧ DPut H3 a y v H4 ∧ D.nx σ H4
section
variable {X : Cx} {o i e value : Expr} {pos pos' tpos : Pos} {td ty tv : TE}
theorem pe_dget (hu : X.A.units + 1 < cLine) (ho : PE X o td) (hi : PE X i ty) (hs : NoSl i) : PE X (.Subscript o i pos) (tDGet td ty) := by
 intro pins s σ H Q I h
 refine subD_of PySem.F.slot_dict_getitem.lookup hs (thn (ho pins s σ H _ I h) fun u s1 ⟨x, H1, I1, rx, q1⟩ => thn (hi pins s1 σ H1 _ I1 q1) fun iv s2 hq0 => ?_)
 obtain ⟨y, H2, I2, ry, a, v, ex, g, q2⟩ := hq0
 subst ex
 obtain rfl : u = Value.ref a := rx
 exact ⟨dict_typeIs I2 g, d_getItem hu I2 g ry fun w' s3 I3 rw' => ⟨v, H2, I3, rw', q2⟩⟩
theorem pc_din (hu : X.A.units + 1 < cLine) (hi : PE X i ty) (ho : PE X o td) : PC X .In i o (tDIn ty td) := by
 intro pins s σ H Q I h
 refine thn (hi pins s σ H _ I h) fun iv s1 ⟨y, H1, I1, ry, q1⟩ => thn (ho pins s1 σ H1 _ I1 q1) fun u s2 hq0 => ?_
 obtain ⟨x, H2, I2, rx, a, ov, ex, g, q2⟩ := hq0
 subst ex
 obtain rfl : u = Value.ref a := rx
 exact d_in hu I2 g ry fun s3 I3 => ⟨.bl ov.isSome, H2, I3, rfl, q2⟩
theorem pc_dnotin (hu : X.A.units + 1 < cLine) (hi : PE X i ty) (ho : PE X o td) : PC X .NotIn i o (tDNotIn ty td) := by
 intro pins s σ H Q I h
 refine thn (hi pins s σ H _ I h) fun iv s1 ⟨y, H1, I1, ry, q1⟩ => thn (ho pins s1 σ H1 _ I1 q1) fun u s2 hq0 => ?_
 obtain ⟨x, H2, I2, rx, a, ov, ex, g, q2⟩ := hq0
 subst ex
 obtain rfl : u = Value.ref a := rx
 exact d_notIn hu I2 g ry fun s3 I3 => ⟨.bl (!ov.isSome), H2, I3, rfl, q2⟩
theorem ps_dput (hu : X.A.units + 1 < cLine) (ho : PE X o td) (hi : PE X i ty) (hv : PE X value tv) (hs : swapsWith value (some (.Subscript o i pos')) pos.line X.env = pure false) :
 PS X (.Assign [.Subscript o i pos'] value pos) (sDPut td ty tv) := by
 intro pins s σ H D I h
 refine wpAny_Assign_Subscript (thn (hv pins s σ H _ I h) fun r s1 ⟨v, H1, I1, rv, q1⟩ => thn (ho pins s1 σ H1 _ I1 q1) fun u s2 ⟨x, H2, I2, rx, q2⟩ => thn (hi pins s2 σ H2 _ I2 q2) fun iv s3 hq0 => ?_) hs
 obtain ⟨y, H3, I3, ry, a, H4, ex, g, q3⟩ := hq0
 subst ex
 obtain rfl : u = Value.ref a := rx
 exact d_setItem hu I3 g ry rv fun s4 I4 => ⟨σ, H4, I4, q3⟩
end
theorem dk_empty {P : Program} {w : World} {H : Hp} (h : Heap) (hb : sysModules < h.objs.size) : ObjOk P w H (h.push { cls := .type "dict", data := .dict #[] }) h.objs.size (.dK []) :=
 ⟨Nat.zero_le _, beq_eq_false_iff_ne.mpr (Ne.symm (Nat.ne_of_lt hb)), [], .nil, Heap.DictOf.new h⟩
theorem dt_empty {P : Program} {w : World} {H : Hp} (h : Heap) (hb : sysModules < h.objs.size) : ObjOk P w H (h.push { cls := .type "dict", data := .dict #[] }) h.objs.size (.dT []) :=
 ⟨Nat.zero_le _, beq_eq_false_iff_ne.mpr (Ne.symm (Nat.ne_of_lt hb)), [], .nil, _, #[], 0, Heap.get?_push_size _ rfl, ⟨rfl, rfl, rfl⟩, rfl, rfl, List.nodup_nil⟩
def tDNewK : TE := fun _ H Q => ∀ p, H p = none → Q (.ref p) (upd H p (.dK []))
def tDNewT : TE := fun _ H Q => ∀ p, H p = none → Q (.ref p) (upd H p (.dT []))
section
variable {X : Cx} {pos : Pos}
theorem pe_dnewK : PE X (.Dict [] [] pos) tDNewK := fun pins s σ H Q I h =>
 wpAny_Dict_empty ⟨.ref s.heap.objs.size, _, I.laid (a := s.heap.objs.size) (o := .dK []) (t' := s.toks) (fun _ _ q => Heap.get?_push_of_some _ q) (Nat.le_refl _) (dk_empty s.heap I.big), rfl, h _ (I.hok.fresh (Nat.le_refl _))⟩
theorem pe_dnewT : PE X (.Dict [] [] pos) tDNewT := fun pins s σ H Q I h =>
 wpAny_Dict_empty ⟨.ref s.heap.objs.size, _, I.laid (a := s.heap.objs.size) (o := .dT []) (t' := s.toks) (fun _ _ q => Heap.get?_push_of_some _ q) (Nat.le_refl _) (dt_empty s.heap I.big), rfl, h _ (I.hok.fresh (Nat.le_refl _))⟩
end
structure M2 (X : Cx) (o : Expr) (m : Str) (apos : Pos) (e f : Expr) (cpos : Pos) : Prop where
 base : attributeBase o m X.env (eval o X.env) = eval o X.env
 few : ((backTo cpos (starEach [e, f] X.env)).all (fun x => !x.1) && (backToKw cpos (keywordEach [] X.env)).all (fun x => x.1.isSome)
  && decide (([e, f] : List Expr).length + ([] : List Keyword).length + (if ([] : List Keyword).isEmpty then 0 else 1) < 30)) = true
 line : (apos.endLine == cpos.line) = true
 trees : backTo cpos (starEach [e, f] X.env) = [(false, eval e X.env), (false, eval f X.env)]
section
variable {X : Cx} {pins : List (Addr × Obj)} {σ : St} {H : Hp} {s : Shared} {a : Addr} {y d : V} {u r : Value} {o : Option V} {A : Around} {E : Value → Shared → Prop}
end
section
variable {X : Cx} {o e f : Expr} {apos cpos : Pos} {td ty tx : TE}
end
section
variable {X : Cx} {pins : List (Addr × Obj)} {σ : St} {H : Hp} {s : Shared} {a : Addr} {kvs : List (Key × V)} {A : Around} {E : Value → Shared → Prop}
end
section
variable {X : Cx} {pins : List (Addr × Obj)} {σ : St} {H : Hp} {s : Shared} {a : Addr} {y : V} {u : Value} {A : Around} {E : Value → Shared → Prop}
end
end L2
namespace L2
open PySem PySem.Spec PyProof.Rows
section
variable {X : Cx}
end
section
variable {κ : Type} [DecidableEq κ]
end
end L2
set_option Elab.async false
set_option linter.all false
set_option maxRecDepth 100000
namespace L2
open PySem PySem.Spec PyProof.Rows
def Asc (z : Str) : Prop := z.cps.all (· < 128) = true
section
variable {z : Str} {wi : TI} {g : TG} {tb : TS} {D : Ends} {σ : St} {H H1 : Hp} {ix : List (Option Nat)} {tc : TT} {te : TE} {Q : VK}
end
theorem yi0 {X : Cx} : SlR X (fun x lo hi H Q => ∃ z, x = .str z ∧ z.length ≤ sizeLine ∧ Q (.str (Txt.slice z lo hi)) H) := by
 intro pins s σ H x v vl vu lo hi sl Q I rx hs pl pu h
 obtain ⟨z, rfl, hz, q⟩ := h
 obtain ⟨t, rfl⟩ := rx
 have part : ∀ {v : Value} {o : Option Int}, IsPart v o → ∃ p : Option (Int × Tok), v = partValue p ∧ o = p.map (·.1) := fun {v o} p => by
  cases p with
  | none => exact ⟨none, rfl, rfl⟩
  | int i t => exact ⟨some (i, t), rfl, rfl⟩
 obtain ⟨p1, rfl, rfl⟩ := part pl
 obtain ⟨p2, rfl, rfl⟩ := part pu
 refine ⟨"str", _, F.slot_str_getitem.lookup, typeIs_str _ _ _, wpAny_getItem_str_slice (l := p1) (u := p2) (st := none) hs rfl ?_⟩
 refine post_val_or_str ⟨Nat.le_trans (Txt.slice_le z _ _) hz, fun t' k => ⟨.str _, H, I.tok k, ⟨t', rfl⟩, q⟩⟩
section
variable {X : Cx}
theorem truth_bools {P : Program} {w : World} {A : Around} {its : Array Value} {bs : List Bool} (r : Vals (bs.map V.bl) its.toList) : TruthOf P w A (fun i v => its[i]? = some v) fun i => bs.getD i false := by
 intro i v s Q E hv hQ
 have hv' : its.toList[i]? = some v := by simpa using hv
 have hlen := r.length
 have hi : i < bs.length := by
  have := (List.getElem?_eq_some_iff.mp hv').1
  rw [← hlen, List.length_map] at this
  exact this
 have hb : (bs.map V.bl)[i]? = some (V.bl bs[i]) := by rw [List.getElem?_map, List.getElem?_eq_getElem hi]; rfl
 obtain ⟨u, hu, ru⟩ := r.get hb
 rw [hv'] at hu
 cases hu
 cases ru
 refine wpAny_truthy_bool ?_
 have e : bs.getD i false = bs[i] := by simp [hi]
 have hQ' : Q (bs.getD i false) s := hQ
 rw [e] at hQ'
 exact hQ'
theorem range_all (bs : List Bool) : (List.range bs.length).all (fun i => bs.getD i false) = bs.all id := by
 rw [Bool.eq_iff_iff, List.all_eq_true, List.all_eq_true]
 constructor
 · intro h b hb
   obtain ⟨i, hi, rfl⟩ := List.mem_iff_getElem.mp hb
   have := h i (List.mem_range.mpr hi)
   simpa [hi] using this
 · intro h i hi
   have hi' := List.mem_range.mp hi
   have := h bs[i] (List.getElem_mem hi')
   simpa [hi'] using this
theorem range_any (bs : List Bool) : (List.range bs.length).any (fun i => bs.getD i false) = bs.any id := by
 rw [Bool.eq_iff_iff, List.any_eq_true, List.any_eq_true]
 constructor
 · rintro ⟨i, hi, h⟩
   have hi' := List.mem_range.mp hi
   exact ⟨bs[i], List.getElem_mem hi', by simpa [hi'] using h⟩
 · rintro ⟨b, hb, h⟩
   obtain ⟨i, hi, rfl⟩ := List.mem_iff_getElem.mp hb
   exact ⟨i, List.mem_range.mpr hi, by simpa [hi] using h⟩
theorem call_all' (hc : X.calm = true) : CallR X (.builtin "all") (fun xs H Q => ∃ (a : Addr) (bs : List Bool), xs = [.ref a] ∧ SqL X.K H a (bs.map V.bl) ∧ Q (.bl (bs.all id)) H) := by
 intro pins s σ H xs us Q I r h
 obtain ⟨a, bs, rfl, hq, q⟩ := h
 obtain ⟨u, rfl, ru⟩ := vals1 r
 cases ru
 obtain ⟨its, rv, pl, _⟩ := I.list hq
 refine call_all_walk (wpAny_pyIter_list pl.isList ?_)
 have hne : a ≠ s.heap.objs.size := by
  obtain ⟨o, n, e, _⟩ := pl
  exact Nat.ne_of_lt (Heap.lt_size e)
 refine ⟨s.heap.objs.size, _, _, _, _, _, _, rfl, Walks.list (A := X.A.in1) (show X.A.in1.handled = none from I.ok.hd hc) _ a hne its.toArray, ⟨⟨_, Heap.get?_push_size _ rfl, rfl, rfl⟩, pl.isList.push _⟩, truth_bools (bs := bs) (by simpa using rv), fun h' tk k => ?_⟩
 have hsz : its.toArray.size = bs.length := by rw [List.size_toArray, ← rv.length, List.length_map]
 rw [hsz, range_all]
 exact ⟨.bl _, H, I.kept fun b o e => k b o (by
  simp only [List.mem_cons, List.not_mem_nil, or_false]
  exact Nat.ne_of_lt (Heap.lt_size e)) (Heap.get?_push_of_some _ e), rfl, q⟩
theorem call_any' (hc : X.calm = true) : CallR X (.builtin "any") (fun xs H Q => ∃ (a : Addr) (bs : List Bool), xs = [.ref a] ∧ SqL X.K H a (bs.map V.bl) ∧ Q (.bl (bs.any id)) H) := by
 intro pins s σ H xs us Q I r h
 obtain ⟨a, bs, rfl, hq, q⟩ := h
 obtain ⟨u, rfl, ru⟩ := vals1 r
 cases ru
 obtain ⟨its, rv, pl, _⟩ := I.list hq
 refine call_any_walk (wpAny_pyIter_list pl.isList ?_)
 have hne : a ≠ s.heap.objs.size := by
  obtain ⟨o, n, e, _⟩ := pl
  exact Nat.ne_of_lt (Heap.lt_size e)
 refine ⟨s.heap.objs.size, _, _, _, _, _, _, rfl, Walks.list (A := X.A.in1) (show X.A.in1.handled = none from I.ok.hd hc) _ a hne its.toArray, ⟨⟨_, Heap.get?_push_size _ rfl, rfl, rfl⟩, pl.isList.push _⟩, truth_bools (bs := bs) (by simpa using rv), fun h' tk k => ?_⟩
 have hsz : its.toArray.size = bs.length := by rw [List.size_toArray, ← rv.length, List.length_map]
 rw [hsz, range_any]
 exact ⟨.bl _, H, I.kept fun b o e => k b o (by
  simp only [List.mem_cons, List.not_mem_nil, or_false]
  exact Nat.ne_of_lt (Heap.lt_size e)) (Heap.get?_push_of_some _ e), rfl, q⟩
end
end L2
set_option Elab.async false
set_option linter.all false
set_option maxRecDepth 100000
namespace L2
open PySem PySem.Spec PyProof.Rows
section
variable {X : Cx}
def CMulM (i j : Int) : Prop := i.natAbs < 2 ^ 512 ∧ j.natAbs < 2 ^ 512
theorem op_mulM : OpR X (binaryOp .Mult) (rI CMulM fun i j => .int (i * j)) := opI fun _ _ _ _ _ _ _ hc q => mul_int q (IntMulOk.of_le (PySem.intBits_le_iff.mpr hc.1) (PySem.intBits_le_iff.mpr hc.2) (by decide))
def rMulS : R2 := fun x y H Q => ∃ z n, x = .str z ∧ y = .int n ∧ 0 ≤ n ∧ n ≤ 1000 ∧ z.length ≤ 1000 ∧ Q (.str (Txt.mul z n)) H
theorem op_mulS : OpR X (binaryOp .Mult) rMulS := by
 intro pins s σ H x y v u Q I rx ry h
 obtain ⟨z, n, rfl, rfl, h0, h1, hz, q⟩ := h
 obtain ⟨t, rfl⟩ := rx
 obtain ⟨t', rfl⟩ := ry
 have hm : z.length * n.toNat ≤ 1000 * 1000 := Nat.mul_le_mul hz (by omega)
 refine SB.mul ⟨?_, fun a b => ?_, fun a b => ?_⟩ (fun t2 k => ⟨.str _, H, I.tok k, ⟨t2, rfl⟩, q⟩)
 · have e1 : decide (n < -(2 ^ 63 : Int)) = false := decide_eq_false (by omega)
   have e2 : decide (n ≥ 2 ^ 63) = false := decide_eq_false (by omega)
   rw [e1, e2]; rfl
 · have hn : 1 ≤ n := by omega
   have : (1000 : Int) ≤ (2 ^ 63 - 1) / n := by
    rw [Int.le_ediv_iff_mul_le (by omega)]
    omega
   omega
 · unfold PySem.Builtin.Str.tooLong
   exact decide_eq_false (by have : sizeLine = 16777216 := sizeLine_eq; omega)
theorem call_isiT : CallR X (.builtin "isinstance") (fun xs H Q => ∃ (a : Addr) (ys : List V) (T : String) (k : Bool), xs = [.ref a, .ty T] ∧ SqT X.K H a ys ∧ PySem.W.kitOne X.K (.type "tuple") (.type T) = some k ∧ Q (.bl k) H) := by
 intro pins s σ H xs us Q I r h
 obtain ⟨a, ys, T, k, rfl, ha, hk, q⟩ := h
 cases r with
 | cons r rr =>
  cases rr with
  | cons r' rr =>
   cases rr
   cases r
   cases r'
   obtain ⟨its, _, ⟨o, e, c, _⟩, _⟩ := I.tuple ha
   exact PySem.W.kia_one (PySem.W.kitx_tuple) I.kIn ⟨o, e, c⟩ hk (by intro z; cases z) fun tk => ⟨.bl k, H, I.tok tk, rfl, q⟩
theorem call_isiL : CallR X (.builtin "isinstance") (fun xs H Q => ∃ (a : Addr) (ys : List V) (T : String) (k : Bool), xs = [.ref a, .ty T] ∧ SqL X.K H a ys ∧ PySem.W.kitOne X.K (.type "list") (.type T) = some k ∧ Q (.bl k) H) := by
 intro pins s σ H xs us Q I r h
 obtain ⟨a, ys, T, k, rfl, ha, hk, q⟩ := h
 cases r with
 | cons r rr =>
  cases rr with
  | cons r' rr =>
   cases rr
   cases r
   cases r'
   obtain ⟨its, _, ⟨o, n, e, c, _⟩, _⟩ := I.list ha
   exact PySem.W.kia_one (PySem.W.kitx_list) I.kIn ⟨o, e, c⟩ hk (by intro z; cases z) fun tk => ⟨.bl k, H, I.tok tk, rfl, q⟩
end
end L2
set_option Elab.async false
set_option linter.all false
set_option maxRecDepth 100000
namespace L2
open PySem PySem.Spec PyProof.Rows
section
variable {X : Cx} {K : PySem.W.Frag}
theorem zb4 (h : X.K = K) : IxR X (rIx K) := h ▸ ix_seq
theorem sl_listK (h : X.K = K) : SlR X (rSlL K) := h ▸ sl_list
theorem sl_tupK (h : X.K = K) : SlR X (rSlT K) := h ▸ sl_tup
theorem zq0 (h : X.K = K) : OpR X (compareOp .In) (rIn K false) := h ▸ op_in_seq
theorem op_notIn_seqK (h : X.K = K) : OpR X (compareOp .NotIn) (rIn K true) := h ▸ op_notIn_seq
def rLen (K : PySem.W.Frag) : List V → Hp → VK → Prop := fun xs H Q => ∃ p ys, xs = [.ref p] ∧ (SqL K H p ys ∨ SqT K H p ys) ∧ Q (.int ys.length) H
theorem call_len_seqK (h : X.K = K) : CallR X (.builtin "len") (rLen K) := h ▸ call_len_seq
def rLenS : List V → Hp → VK → Prop := fun xs H Q => ∃ z, xs = [.str z] ∧ z.length ≤ sizeLine ∧ Q (.int z.length) H
theorem call_len_strK : CallR X (.builtin "len") rLenS := call_len_str
def rIsiT (K : PySem.W.Frag) : List V → Hp → VK → Prop := fun xs H Q => ∃ (a : Addr) (ys : List V) (T : String) (k : Bool), xs = [.ref a, .ty T] ∧ SqT K H a ys ∧ PySem.W.kitOne K (.type "tuple") (.type T) = some k ∧ Q (.bl k) H
theorem call_isiTK (h : X.K = K) : CallR X (.builtin "isinstance") (rIsiT K) := h ▸ call_isiT
def rIsiL (K : PySem.W.Frag) : List V → Hp → VK → Prop := fun xs H Q => ∃ (a : Addr) (ys : List V) (T : String) (k : Bool), xs = [.ref a, .ty T] ∧ SqL K H a ys ∧ PySem.W.kitOne K (.type "list") (.type T) = some k ∧ Q (.bl k) H
theorem call_isiLK (h : X.K = K) : CallR X (.builtin "isinstance") (rIsiL K) := h ▸ call_isiL
def rIsi : List V → Hp → VK → Prop := fun xs H Q => ∃ v T k, xs = [v, .ty T] ∧ isiV v T = some k ∧ Q (.bl k) H
theorem call_isiK : CallR X (.builtin "isinstance") rIsi := call_isi
def rListOf (K : PySem.W.Frag) : List V → Hp → VK → Prop := fun xs H Q => ∃ p ys, xs = [.ref p] ∧ (SqL K H p ys ∨ SqT K H p ys) ∧ ∀ l, H l = none → Q (.ref l) (upd H l (.lst ys))
theorem call_list_ofK (h : X.K = K) : CallR X (.type "list") (rListOf K) := h ▸ call_list_of
def rAny (K : PySem.W.Frag) : List V → Hp → VK → Prop := fun xs H Q => ∃ (a : Addr) (bs : List Bool), xs = [.ref a] ∧ SqL K H a (bs.map V.bl) ∧ Q (.bl (bs.any id)) H
theorem call_anyK (h : X.K = K) (hc : X.calm = true) : CallR X (.builtin "any") (rAny K) := h ▸ call_any' hc
theorem zp1 {pos : Pos} {es : List Expr} {k : Nat} {t : TGs} {n : Nat} (h : X.K = K) (hc : X.calm = true) (hh : PGs X es t)
 (hn : (assignEach es X.env).length = n := by rfl) (hst : (assignEach es X.env).findIdx? (·.1) = none := by rfl) : PG X (.Tuple es k pos) (gTup K n t) := h ▸ pg_tup hc hh hn hst
theorem pi_zipK {elts : List Expr} {x1} {tpos : Pos} {a b : Expr} {ta : TA} {p pos : Pos} (h : X.K = K) (hg : Gl X "zip") (hm : X.mg "zip" = none) (ha : PA X [a, b] ta) (hs : starEach [a, b] X.env = [(false, eval a X.env), (false, eval b X.env)] := by rfl) (hs2 : starEach [b] X.env = [(false, eval b X.env)] := by rfl) :
 PI X (.Tuple elts x1 tpos) (.Call (.Name "zip" p) [a, b] [] pos) (iZip K ta) := h ▸ pi_zip hg hm ha hs hs2
variable {o e : Expr} {es : List Expr} {to : TE} {t : TA} {name : Str} {apos cpos : Pos} {T id : String} {r : V → List V → Hp → VK → Prop}
theorem pe_bm0K (h : X.K = K) (pa : PlainAttrs T) (slot : Slot T name id) (hty : typeOf (.builtin id) = pure (.type "method_descriptor")) (hm : MtR X id r) (ho : PE X o to)
 (hbase : attributeBase o name X.env (eval o X.env) = eval o X.env := by rfl) (hline : (apos.endLine == cpos.line) = true := by rfl) : PE X (.Call (.Attribute o name apos) [] [] cpos) (tBM0 K T r to) := h ▸ pe_bm0 pa slot hty hm ho hbase hline
theorem zv5 (h : X.K = K) (pa : PlainAttrs T) (slot : Slot T name id) (hty : typeOf (.builtin id) = pure (.type "method_descriptor")) (hm : MtR X id r) (ho : PE X o to) (ha : PA X (e :: es) t)
 (hbase : attributeBase o name X.env (eval o X.env) = eval o X.env := by rfl)
 (hfew : ((backTo cpos (starEach (e :: es) X.env)).all (fun x => !x.1) && (backToKw cpos (keywordEach [] X.env)).all (fun x => x.1.isSome)
  && decide ((e :: es).length + ([] : List Keyword).length + (if ([] : List Keyword).isEmpty then 0 else 1) < 30)) = true := by rfl)
 (hline : (apos.endLine == cpos.line) = true := by rfl) (hs : starEach (e :: es) X.env = (false, eval e X.env) :: starEach es X.env := by rfl) (hplain : (backTo cpos (starEach es X.env)).any (·.1) = false := by rfl) :
 PE X (.Call (.Attribute o name apos) (e :: es) [] cpos) (tBM K T r to t) := h ▸ pe_bm pa slot hty hm ho ha hbase hfew hline hs hplain
end
theorem zu3 {H : Hp} {p : Addr} (h : H p = none) (o : HO) : Same H (upd H p o) := fun b u q => by rw [zc4 (zg3 q h)]; exact q
theorem Same.tup {K : PySem.W.Frag} {H H' : Hp} {a : Addr} {xs : List V} (g : Same H H') (q : SqT K H a xs) : SqT K H' a xs := by
 rcases q with (h | ⟨o, h⟩) | h
 · exact .inl (.inl (g _ _ h))
 · exact .inl (.inr ⟨o, g _ _ h⟩)
 · exact .inr h
theorem zx7 {z : Str} : Asc z ↔ ∀ c ∈ z.cps.toList, c < 128 := by
 unfold Asc
 rw [Array.all_eq_true']
 constructor
 · intro h c hc; simpa using h c (by simpa using hc)
 · intro h c hc; simpa using h c (by simpa using hc)
theorem Asc.app {a b : Str} (h : Asc a) (h' : Asc b) : Asc (a ++ b) := by
 rw [zx7] at *
 intro c hc
 have e : (a ++ b).cps = a.cps ++ b.cps := rfl
 rw [e, Array.toList_append, List.mem_append] at hc
 exact hc.elim (h c) (h' c)
theorem yd7 (a b : Str) : (a ++ b).length = a.length + b.length := by
 show (a.cps ++ b.cps).size = _
 rw [Array.size_append]; rfl
theorem Asc.one {z : Str} (h : Asc z) {i : Int} {c : Nat} (e : atI z.cps.toList i = some c) : Asc ⟨#[c]⟩ := by
 rw [zx7] at *
 obtain ⟨j, _, hj, _⟩ := ya5 e
 have := h c (List.mem_of_getElem? hj)
 intro d hd
 have : d = c := by simpa using hd
 omega
theorem Asc.slice {z : Str} (h : Asc z) (lo hi : Option Int) : Asc (Txt.slice z lo hi) := by
 rw [zx7] at *
 intro c hc
 unfold Txt.slice at hc
 split at hc
 · exact h c hc
 refine h c ?_
 simp only [List.mem_filterMap] at hc
 obtain ⟨k, _, e⟩ := hc
 exact List.mem_of_getElem? (by simpa using e)
theorem Asc.ok {z : Str} (h : Asc z) : PyData.strOk z = true := by
 rw [zx7] at h
 unfold PyData.strOk
 rw [Array.all_eq_true']
 intro c hc
 have := h c (by simpa using hc)
 simp only [decide_eq_true_eq]
 omega
def Nw (H H' : Hp) (p : Addr) (o : HO) : Prop := Same H H' ∧ H p = none ∧ H' p = some o
theorem Nw.of {H : Hp} {p : Addr} {o : HO} (h : H p = none) : Nw H (upd H p o) p o := ⟨zu3 h o, h, zc5⟩
def tTupN (t : TA) : TE := fun σ H Q => t σ H fun xs H1 => xs.length ≤ sizeLine ∧ ∀ p H', Nw H1 H' p (.tup xs) → Q (.ref p) H'
def tLstN (t : TA) : TE := fun σ H Q => t σ H fun xs H1 => xs.length ≤ sizeLine ∧ ∀ p H', Nw H1 H' p (.lst xs) → Q (.ref p) H'
section
variable {X : Cx} {K : PySem.W.Frag} {es : List Expr} {t : TA} {pos : Pos}
theorem zb7 {x1} (h : PA X es t) : PE X (.Tuple es x1 pos) (tTupN t) := fun pins s σ H Q I hq => wpAny_Tuple_spliced (thn (h pos pins s σ H _ I hq) fun us s1 ⟨xs, H1, I1, r, z, q⟩ => ⟨by rw [← r.length]; exact z,
 .ref s1.heap.objs.size, _, I1.laid (t' := s1.toks) (o := .tup xs) (fun b u e => Heap.get?_push_of_some _ e) (Nat.le_refl _) ⟨z, us, r, ⟨_, Heap.get?_push_size _ rfl, rfl, _, rfl⟩⟩, rfl, q _ _ (.of (I1.hok.fresh (Nat.le_refl _)))⟩)
theorem ze6 (h : PA X es t) : PE X (.List es pos) (tLstN t) := fun pins s σ H Q I hq => wpAny_List_spliced (thn (h pos pins s σ H _ I hq) fun us s1 ⟨xs, H1, I1, r, z, q⟩ => ⟨by rw [← r.length]; exact z,
 .ref s1.heap.objs.size, _, I1.laid (t' := s1.toks) (o := .lst xs) (fun b u e => Heap.get?_push_of_some _ e) (Nat.le_refl _) ⟨z, us, 0, r, Heap.get?_push_size _ rfl⟩, rfl, q _ _ (.of (I1.hok.fresh (Nat.le_refl _)))⟩)
def rSlLN (K : PySem.W.Frag) : V → Option Int → Option Int → Hp → VK → Prop := fun x lo hi H Q => ∃ a xs, x = .ref a ∧ SqL K H a xs ∧ ∀ p H', Nw H H' p (.lst (cutV xs lo hi)) → Q (.ref p) H'
theorem sl_listN (h : X.K = K) : SlR X (rSlLN K) := fun pins s σ H x v vl vu lo hi sl Q I rx hs pl pu ⟨a, xs, e, q, r⟩ => sl_listK h pins s σ H x v vl vu lo hi sl Q I rx hs pl pu ⟨a, xs, e, q, fun p hp => r p _ (.of hp)⟩
def rSlTN (K : PySem.W.Frag) : V → Option Int → Option Int → Hp → VK → Prop := fun x lo hi H Q => ∃ a xs, x = .ref a ∧ SqT K H a xs ∧
 ((HT.sIx xs.length 0 lo = 0 ∧ HT.sIx xs.length xs.length hi = xs.length ∧ Q (.ref a) H) ∨ (¬ (HT.sIx xs.length 0 lo = 0 ∧ HT.sIx xs.length xs.length hi = xs.length) ∧ ∀ p H', Nw H H' p (.tup (cutV xs lo hi)) → Q (.ref p) H'))
theorem tuple_all {prog : Program} {w : World} {A : Around} {E : Value → Shared → Prop} {s : Shared} {a sl : Addr} {its : Array Value} {vl vu : Value} {lo hi : Option Int} {Q : Value → Shared → Prop} (ht : IsTup s.heap a its) (hs : s.heap.IsSliceOf sl vl vu .none) (pl : IsPart vl lo) (pu : IsPart vu hi)
 (h1 : HT.sIx its.size 0 lo = 0) (h2 : HT.sIx its.size its.size hi = its.size) (h : Q (.ref a) s) : wpAny (model prog w) A (getItem (.ref a) (.ref sl)) Q E s := by
 obtain ⟨os, hos, hcs, hds⟩ := id hs
 unfold getItem
 try with_reducible refine wpAny_holding ?_
 first | refine wpAny_bind (wpAny_pure ?_) | skip
 refine wpAny_bind (wpAny_sequenceKey ht.typeIs (by decide) (wpAny_bind (wpAny_callSpecial?_slot (name := Str.ofString "__getitem__") ht.typeIs PyProof.Rows.slot_tuple_getitem (wpAny_call_entry PyProof.Rows.slot_tuple_getitem ht.typeIs entry_tuple_getitem ?_ (args_tuple_getitem _ _)))))
 show wpAny _ _ (Builtin.Tuple.tupleItemsOf (.ref a) >>= _) _ _ s
 refine wpAny_bind (PyProof.Rows.tupleItemsOf_ ht (wpAny_bind (wpAny_typeOf (show s.TypeIs (.ref sl) "slice" from ⟨os, hos, hcs⟩) ?_)))
 rw [if_pos (by decide)]
 refine wpAny_bind (HT.sliceApplied_gen hs pl pu ?_)
 have yes : (((HT.sIx its.size 0 lo : Nat) : Int) == 0 && (1 : Int) == 1 && (HT.sIx its.size its.size hi - HT.sIx its.size 0 lo) == its.size) = true := by
  rw [h1, h2]; simp
 show wpAny _ _ (if (((HT.sIx its.size 0 lo : Nat) : Int) == 0 && (1 : Int) == 1 && (HT.sIx its.size its.size hi - HT.sIx its.size 0 lo) == its.size) = true then _ else _) _ _ s
 rw [if_pos yes]
 refine wpAny_bind ?_
 unfold Builtin.Tuple.tupleIsExact
 refine wpAny_bind (wpAny_typeOf ht.typeIs (wpAny_pure ?_))
 rw [if_pos (by decide)]
 exact wpAny_bind (wpAny_rule (wpAny_pure ⟨_, rfl, wpAny_pure h⟩))
theorem zy0 (h : X.K = K) : SlR X (rSlTN K) := by
 intro pins s σ H x v vl vu lo hi sl Q I rx hs pl pu q
 obtain ⟨a, xs, e, hx, q | q⟩ := q
 · subst h e
   cases rx
   obtain ⟨its, r, ht, hz⟩ := I.tuple hx
   have hlen : its.toArray.size = xs.length := by rw [List.size_toArray]; exact r.length.symm
   exact ⟨"tuple", _, PyProof.Rows.slot_tuple_getitem.lookup, ht.typeIs, tuple_all ht hs pl pu (by rw [hlen]; exact q.1) (by rw [hlen]; exact q.2.1) ⟨.ref a, H, I, rfl, q.2.2⟩⟩
 · exact sl_tupK h pins s σ H x v vl vu lo hi sl Q I rx hs pl pu ⟨a, xs, e, hx, q.1, fun p hp => q.2 p _ (.of hp)⟩
end
end L2
set_option Elab.async false
set_option linter.all false
set_option maxRecDepth 100000
namespace L2
open PySem PySem.Spec PyProof.Rows
section
variable {X : Cx} {K : PySem.W.Frag}
end
end L2
set_option Elab.async false
set_option linter.all false
set_option maxRecDepth 100000
namespace L2
open PySem PySem.Spec PyProof.Rows
def isL (c : Nat) : Bool := decide (97 ≤ c) && decide (c ≤ 122)
def strOf : Value → Option Str
 | .str x _ => some x
 | _ => none
def strsAre (us : List Value) (ws : List Str) : Bool := decide (us.map strOf = ws.map some)
theorem strOf_rel {u : Value} {y : Str} (h : strOf u = some y) : RelV (.str y) u := by
 unfold strOf at h
 split at h
 · cases h; exact ⟨_, rfl⟩
 · cases h
theorem strsAre_vals : ∀ {us : List Value} {ws : List Str}, us.map strOf = ws.map some → Vals (ws.map V.str) us
 | [], [], _ => .nil
 | u :: r, y :: s, h => by
  simp only [List.map_cons, List.cons.injEq] at h
  exact .cons (strOf_rel h.1) (strsAre_vals h.2)
 | [], _ :: _, h => by simp at h
 | _ :: _, [], h => by simp at h
def yi1 (o : Obj) (ws : List Str) : Bool := match o.data with
 | .seq its _ => strsAre its.toList ws && decide (its.size ≤ 1000)
 | _ => false
theorem sq_strTup {K : PySem.W.Frag} {H : Hp} {a : Addr} {o : Obj} {ws : List Str} (h : K.lookup a = some o) (hc : o.cls = .type "tuple") (ht : yi1 o ws = true) : SqT K H a (ws.map V.str) := by
 unfold yi1 at ht
 split at ht
 · rename_i its n e
   rw [Bool.and_eq_true] at ht
   exact .inr ⟨o, its, n, h, hc, e, Nat.le_of_lt (small1000 (by simpa using ht.2)), strsAre_vals (of_decide_eq_true ht.1)⟩
 · cases ht
end L2
set_option Elab.async false
set_option linter.all false
set_option maxRecDepth 100000
namespace L2
open PySem PySem.Spec PyProof.Rows
section
variable {K : PySem.W.Frag} {x D : Addr} {prog : Program} {w : World} {A : Around} {E : Value → Shared → Prop} {s : Shared}
end
section
variable {X : Cx} {K : PySem.W.Frag}
end
end L2
set_option Elab.async false
set_option linter.all false
set_option maxRecDepth 100000
namespace L2
open PySem PySem.Spec PyProof.Rows
section
variable {P : Program} {w : World} {A : Around} {E : Value → Shared → Prop} {s : Shared}
end
end L2
set_option Elab.async false
set_option linter.all false
set_option maxRecDepth 100000
namespace L2
open PySem PySem.Spec PyProof.Rows
section
variable {X : Cx} {K : PySem.W.Frag}
end
section
variable {K : PySem.W.Frag} {a b : Addr} {xs ys : List V} {wi : TI} {g : TG} {σ : St} {H H1 : Hp} {ix : List (Option Nat)} {tc : TT} {te : TE} {Q : VK}
end
end L2
set_option Elab.async false
set_option linter.all false
set_option maxRecDepth 100000
namespace L2
open PySem PySem.Spec PyProof.Rows
section
variable {K : PySem.W.Frag} {a : Addr} {xs : List V} {wi : TI} {g : TG} {σ : St} {H H1 : Hp} {ix : List (Option Nat)} {tc : TT} {te : TE} {Q : VK}
end
end L2
set_option Elab.async false
set_option linter.all false
set_option maxRecDepth 100000
namespace L2
open PySem PySem.Spec PyProof.Rows
end L2
set_option Elab.async false
set_option linter.all false
set_option maxRecDepth 100000
namespace L2
open PySem PySem.Spec PyProof.Rows
inductive W where
 | none | bool (b : Bool) | int (i : Int) | str (x : Str) | list (ds : List W) | tuple (ds : List W) | ref (n : Nat)
mutual
inductive Dw (K : PySem.W.Frag) (ρ : List Addr) (H : Hp) : V → W → Prop
 | non : Dw K ρ H .non .none
 | bl (b : Bool) : Dw K ρ H (.bl b) (.bool b)
 | int (i : Int) : Dw K ρ H (.int i) (.int i)
 | str (x : Str) : Dw K ρ H (.str x) (.str x)
 | lst {a : Addr} {xs : List V} {ds : List W} : SqL K H a xs → DwAll K ρ H xs ds → Dw K ρ H (.ref a) (.list ds)
 | tup {a : Addr} {xs : List V} {ds : List W} : H a = some (.tup xs) → DwAll K ρ H xs ds → Dw K ρ H (.ref a) (.tuple ds)
 | ref {a : Addr} {n : Nat} : ρ[n]? = some a → Dw K ρ H (.ref a) (.ref n)
inductive DwAll (K : PySem.W.Frag) (ρ : List Addr) (H : Hp) : List V → List W → Prop
 | nil : DwAll K ρ H [] []
 | cons {v : V} {vs : List V} {d : W} {ds : List W} : Dw K ρ H v d → DwAll K ρ H vs ds → DwAll K ρ H (v :: vs) (d :: ds)
end
mutual
theorem Dw.same {K : PySem.W.Frag} {ρ : List Addr} {H H' : Hp} (g : Same H H') : ∀ {v : V} {d : W}, Dw K ρ H v d → Dw K ρ H' v d
 | _, _, .non => .non
 | _, _, .bl b => .bl b
 | _, _, .int i => .int i
 | _, _, .str x => .str x
 | _, _, .lst q a => .lst (g.seq q) (DwAll.same g a)
 | _, _, .tup q a => .tup (g _ _ q) (DwAll.same g a)
 | _, _, .ref e => .ref e
theorem DwAll.same {K : PySem.W.Frag} {ρ : List Addr} {H H' : Hp} (g : Same H H') : ∀ {vs : List V} {ds : List W}, DwAll K ρ H vs ds → DwAll K ρ H' vs ds
 | _, _, .nil => .nil
 | _, _, .cons h t => .cons (Dw.same g h) (DwAll.same g t)
end
mutual
def W.py : W → Option PyData
 | .none => some .none
 | .bool b => some (.bool b)
 | .int i => some (.int i)
 | .str x => some (.str x)
 | .list ds => (W.pys ds).map .list
 | .tuple ds => (W.pys ds).map .tuple
 | .ref _ => Option.none
def W.pys : List W → Option (List PyData)
 | [] => some []
 | d :: ds => (W.py d).bind fun x => (W.pys ds).map (x :: ·)
end
mutual
theorem Dw.dp {K : PySem.W.Frag} {ρ : List Addr} {H : Hp} : ∀ {v : V} {d : W} {x : PyData}, Dw K ρ H v d → d.py = some x → Dp K H v x
 | _, _, _, .non, e => by simp only [W.py] at e; cases e; exact .non
 | _, _, _, .bl b, e => by simp only [W.py] at e; cases e; exact .bl b
 | _, _, _, .int i, e => by simp only [W.py] at e; cases e; exact .int i
 | _, _, _, .str y, e => by simp only [W.py] at e; cases e; exact .str y
 | _, _, _, .lst q a, e => by
  simp only [W.py] at e
  obtain ⟨xs, e1, rfl⟩ := Option.map_eq_some_iff.mp e
  exact .lst q (DwAll.dp a e1)
 | _, _, _, .tup q a, e => by
  simp only [W.py] at e
  obtain ⟨xs, e1, rfl⟩ := Option.map_eq_some_iff.mp e
  exact .tup (SqT.of q) (DwAll.dp a e1)
 | _, _, _, .ref _, e => by simp only [W.py] at e; cases e
theorem DwAll.dp {K : PySem.W.Frag} {ρ : List Addr} {H : Hp} : ∀ {vs : List V} {ds : List W} {xs : List PyData}, DwAll K ρ H vs ds → W.pys ds = some xs → DpAll K H vs xs
 | _, _, _, .nil, e => by simp only [W.pys] at e; cases e; exact .nil
 | _, _, _, .cons h t, e => by
  simp only [W.pys] at e
  obtain ⟨x, e1, e⟩ := Option.bind_eq_some_iff.mp e
  obtain ⟨ys, e2, rfl⟩ := Option.map_eq_some_iff.mp e
  exact .cons (Dw.dp h e1) (DwAll.dp t e2)
end
inductive Sl where
 | no
 | val (d : W)
 | own (ds : List W)
abbrev DS := List Sl
def SlOk (K : PySem.W.Frag) (ρ : List Addr) (G H : Hp) : Sl → Option V → Prop
 | .no, _ => True
 | .val d, o => ∃ v, o = some v ∧ Dw K ρ G v d
 | .own ds, o => ∃ p vs, o = some (.ref p) ∧ G p = none ∧ H p = some (.lst vs) ∧ DwAll K ρ G vs ds
structure Gr (G H G' H' : Hp) : Prop where
 g : Same G G'
 h : Same H H'
 s : Same G' H'
 n : ∀ b, H b ≠ none → G b = none → G' b = none
theorem zz4 {H H' : Hp} (s : Same H H') {b : Addr} (h : H b ≠ none) : H' b ≠ none := fun e => by
 cases q : H b with
 | none => exact h q
 | some o =>
  have := s b o q
  rw [e] at this
  cases this
theorem zn9 {G H : Hp} (s : Same G H) {b : Addr} (h : H b = none) : G b = none := by
 cases q : G b with
 | none => rfl
 | some o =>
  have := s b o q
  rw [h] at this
  cases this
theorem Gr.refl {G H : Hp} (s : Same G H) : Gr G H G H := ⟨.refl _, .refl _, s, fun _ _ h => h⟩
theorem Gr.trans {G H G1 H1 G2 H2 : Hp} (a : Gr G H G1 H1) (b : Gr G1 H1 G2 H2) : Gr G H G2 H2 :=
 ⟨a.g.trans b.g, a.h.trans b.h, b.s, fun c h1 h2 => b.n c (zz4 a.h h1) (a.n c h1 h2)⟩
theorem zt6 {G H' : Hp} {p : Addr} {o : HO} (s : Same G H') (h : H' p = some o) : Same (upd G p o) H' := fun b u e => by
 by_cases hb : b = p
 · subst hb
   rw [zc5] at e
   cases e
   exact h
 · rw [zc4 hb] at e
   exact s _ _ e
theorem Gr.new {G H G' H' : Hp} {p : Addr} {o : HO} (a : Gr G H G' H') (h0 : H p = none) (g0 : G' p = none) (h : H' p = some o) : Gr G H (upd G' p o) H' :=
 ⟨a.g.trans (zu3 g0 o), a.h, zt6 a.s h, fun b h1 h2 => by
  rw [zc4 (fun e => h1 (by rw [e]; exact h0))]
  exact a.n b h1 h2⟩
theorem Gr.nw {G H H' : Hp} {p : Addr} {o : HO} (s : Same G H) (n : Nw H H' p o) : Gr G H (upd G p o) H' :=
 Gr.new ⟨.refl _, n.1, s.trans n.1, fun _ _ h => h⟩ n.2.1 (zn9 s n.2.1) n.2.2
theorem Gr.nwO {G H H' : Hp} {p : Addr} {o : HO} (s : Same G H) (n : Nw H H' p o) : Gr G H G H' := ⟨.refl _, n.1, s.trans n.1, fun _ _ h => h⟩
structure Rl (K : PySem.W.Frag) (ρ : List Addr) (G H : Hp) (δ : DS) (σ : St) : Prop where
 sub : Same G H
 len : δ.length = σ.length
 sl : ∀ (i : Nat) s, δ[i]? = some s → ∃ o, σ[i]? = some o ∧ SlOk K ρ G H s o
 apart : ∀ (i j : Nat) p ds es, δ[i]? = some (.own ds) → δ[j]? = some (.own es) → σ[i]? = some (some (.ref p)) → σ[j]? = some (some (.ref p)) → i = j
theorem SlOk.grow {K : PySem.W.Frag} {ρ : List Addr} {G H G' H' : Hp} (g : Gr G H G' H') : ∀ {s : Sl} {o : Option V}, SlOk K ρ G H s o → SlOk K ρ G' H' s o
 | .no, _, _ => trivial
 | .val d, o, ⟨v, e, h⟩ => ⟨v, e, h.same g.g⟩
 | .own ds, o, ⟨p, vs, e, h1, h2, h3⟩ => ⟨p, vs, e, g.n p (by rw [h2]; simp) h1, g.h _ _ h2, h3.same g.g⟩
theorem Rl.grow {K : PySem.W.Frag} {ρ : List Addr} {G H G' H' : Hp} {δ : DS} {σ : St} (R : Rl K ρ G H δ σ) (g : Gr G H G' H') : Rl K ρ G' H' δ σ :=
 ⟨g.s, R.len, fun i s e => by
  obtain ⟨o, h1, h2⟩ := R.sl i s e
  exact ⟨o, h1, h2.grow g⟩, R.apart⟩
theorem zn0 {α : Type} {xs : List α} {i j : Nat} {a b : α} (h : (xs.set i a)[j]? = some b) : (i = j ∧ a = b ∧ j < xs.length) ∨ (i ≠ j ∧ xs[j]? = some b) := by
 by_cases e : i = j
 · subst e
   rw [List.getElem?_set] at h
   simp only [if_true] at h
   split at h
   · rename_i hl
     cases h
     exact .inl ⟨rfl, rfl, hl⟩
   · cases h
 · rw [List.getElem?_set_ne e] at h
   exact .inr ⟨e, h⟩
theorem zy3 {α : Type} {xs : List α} {i : Nat} {a : α} (h : i < xs.length) : (xs.set i a)[i]? = some a := by
 rw [List.getElem?_set]
 simp [h]
def OwnSub (δ' : DS) (σ' : St) (δ : DS) (σ : St) : Prop := ∀ (i : Nat) ds p, δ'[i]? = some (.own ds) → σ'[i]? = some (some (.ref p)) → ∃ es, δ[i]? = some (.own es) ∧ σ[i]? = some (some (.ref p))
theorem OwnSub.refl (δ : DS) (σ : St) : OwnSub δ σ δ σ := fun i ds p h1 h2 => ⟨ds, h1, h2⟩
theorem OwnSub.trans {δ δ1 δ2 : DS} {σ σ1 σ2 : St} (a : OwnSub δ2 σ2 δ1 σ1) (b : OwnSub δ1 σ1 δ σ) : OwnSub δ2 σ2 δ σ := fun i ds p h1 h2 => by
 obtain ⟨es, h3, h4⟩ := a i ds p h1 h2
 exact b i es p h3 h4
theorem zu8 {δ : DS} {σ : St} {i : Nat} {d : W} {v : V} (h : δ.length = σ.length) : OwnSub (δ.set i (.val d)) (σ.set i (some v)) δ σ := fun j ds p h1 h2 => by
 rcases zn0 h1 with ⟨_, e, _⟩ | ⟨ne, h1⟩
 · cases e
 · rw [List.getElem?_set_ne ne] at h2
   exact ⟨ds, h1, h2⟩
theorem Rl.set {K : PySem.W.Frag} {ρ : List Addr} {G H : Hp} {δ : DS} {σ : St} {i : Nat} {d : W} {v : V} (R : Rl K ρ G H δ σ) (h : Dw K ρ G v d) : Rl K ρ G H (δ.set i (.val d)) (σ.set i (some v)) :=
 ⟨R.sub, by rw [List.length_set, List.length_set]; exact R.len, fun j s e => by
  rcases zn0 e with ⟨rfl, rfl, hl⟩ | ⟨ne, e⟩
  · exact ⟨_, zy3 (by rw [← R.len]; exact hl), v, rfl, h⟩
  · rw [List.getElem?_set_ne ne]
    exact R.sl j s e, fun j k p ds es h1 h2 h3 h4 => by
  obtain ⟨ds', a1, a2⟩ := zu8 (v := v) R.len j ds p h1 h3
  obtain ⟨es', b1, b2⟩ := zu8 (v := v) R.len k es p h2 h4
  exact R.apart j k p _ _ a1 b1 a2 b2⟩
theorem Rl.setO {K : PySem.W.Frag} {ρ : List Addr} {G H : Hp} {δ : DS} {σ : St} {i : Nat} {ds : List W} {p : Addr} {vs : List V} (R : Rl K ρ G H δ σ) (g0 : G p = none) (h : H p = some (.lst vs)) (hd : DwAll K ρ G vs ds)
 (hn : ∀ (j : Nat) es, j ≠ i → δ[j]? = some (.own es) → σ[j]? ≠ some (some (.ref p))) : Rl K ρ G H (δ.set i (.own ds)) (σ.set i (some (.ref p))) :=
 ⟨R.sub, by rw [List.length_set, List.length_set]; exact R.len, fun j s e => by
  rcases zn0 e with ⟨rfl, rfl, hl⟩ | ⟨ne, e⟩
  · exact ⟨_, zy3 (by rw [← R.len]; exact hl), p, vs, rfl, g0, h, hd⟩
  · rw [List.getElem?_set_ne ne]
    exact R.sl j s e, fun j k q ds' es' h1 h2 h3 h4 => by
  rcases zn0 h1 with ⟨rfl, _, hl⟩ | ⟨ne, h1⟩ <;> rcases zn0 h2 with ⟨rfl, _, hl2⟩ | ⟨ne2, h2⟩
  · rfl
  · rw [zy3 (by rw [← R.len]; exact hl)] at h3
    rw [List.getElem?_set_ne ne2] at h4
    cases h3
    exact absurd h4 (hn k es' (Ne.symm ne2) h2)
  · rw [zy3 (by rw [← R.len]; exact hl2)] at h4
    rw [List.getElem?_set_ne ne] at h3
    cases h4
    exact absurd h3 (hn j ds' (Ne.symm ne) h1)
  · rw [List.getElem?_set_ne ne] at h3
    rw [List.getElem?_set_ne ne2] at h4
    exact R.apart j k q _ _ h1 h2 h3 h4⟩
def DE (K : PySem.W.Frag) (ρ : List Addr) (t : TE) (f : DS → Option W) : Prop :=
 ∀ (G : Hp) (σ : St) (H : Hp) (δ : DS) (d : W) (Q : VK), Rl K ρ G H δ σ → f δ = some d → (∀ v G' H', Gr G H G' H' → Dw K ρ G' v d → Q v H') → t σ H Q
def DA (K : PySem.W.Frag) (ρ : List Addr) (t : TA) (f : DS → Option (List W)) : Prop :=
 ∀ (G : Hp) (σ : St) (H : Hp) (δ : DS) (ds : List W) (Q : List V → Hp → Prop), Rl K ρ G H δ σ → f δ = some ds → (∀ vs G' H', Gr G H G' H' → DwAll K ρ G' vs ds → Q vs H') → t σ H Q
def DT (K : PySem.W.Frag) (ρ : List Addr) (t : TT) (f : DS → Option Bool) : Prop :=
 ∀ (G : Hp) (σ : St) (H : Hp) (δ : DS) (b : Bool) (Q : Bool → Hp → Prop), Rl K ρ G H δ σ → f δ = some b → (∀ G' H', Gr G H G' H' → Q b H') → t σ H Q
def DO (K : PySem.W.Frag) (ρ : List Addr) (t : TE) (f : DS → Option (List W)) : Prop :=
 ∀ (G : Hp) (σ : St) (H : Hp) (δ : DS) (ds : List W) (Q : VK), Rl K ρ G H δ σ → f δ = some ds → (∀ p vs G' H', Gr G H G' H' → H p = none → G' p = none → H' p = some (.lst vs) → DwAll K ρ G' vs ds → Q (.ref p) H') → t σ H Q
def Pk (K : PySem.W.Frag) (ρ : List Addr) (G H : Hp) (v : V) (d : W) : Prop := Dw K ρ G v d ∨ ∃ p vs ds, v = .ref p ∧ d = .list ds ∧ H p = some (.lst vs) ∧ DwAll K ρ G vs ds
def DK (K : PySem.W.Frag) (ρ : List Addr) (t : TE) (f : DS → Option W) : Prop :=
 ∀ (G : Hp) (σ : St) (H : Hp) (δ : DS) (d : W) (Q : VK), Rl K ρ G H δ σ → f δ = some d → (∀ v G' H', Gr G H G' H' → Pk K ρ G' H' v d → Q v H') → t σ H Q
section
variable {K : PySem.W.Frag} {ρ : List Addr}
theorem Pk.dp {G H : Hp} {v : V} {d : W} (s : Same G H) (h : Pk K ρ G H v d) : Dw K ρ H v d := by
 rcases h with h | ⟨p, vs, ds, rfl, rfl, h1, h2⟩
 · exact h.same s
 · exact .lst (SqL.of h1) (h2.same s)
theorem Pk.grow {G H G' H' : Hp} {v : V} {d : W} (g : Gr G H G' H') (h : Pk K ρ G H v d) : Pk K ρ G' H' v d := by
 rcases h with h | ⟨p, vs, ds, rfl, rfl, h1, h2⟩
 · exact .inl (h.same g.g)
 · exact .inr ⟨p, vs, ds, rfl, rfl, g.h _ _ h1, h2.same g.g⟩
theorem DE.dk {t : TE} {f : DS → Option W} (h : DE K ρ t f) : DK K ρ t f := fun G σ H δ d Q R e q => h G σ H δ d Q R e fun v G' H' g dv => q v G' H' g (.inl dv)
def dOwn (f : DS → Option (List W)) : DS → Option W := fun δ => (f δ).map .list
theorem DO.de {t : TE} {f : DS → Option (List W)} (h : DO K ρ t f) : DE K ρ t (dOwn f) := fun G σ H δ d Q R e q => by
 obtain ⟨ds, e1, rfl⟩ := Option.map_eq_some_iff.mp e
 exact h G σ H δ ds Q R e1 fun p vs G' H' g h0 g0 hh da => q _ _ H' (g.new h0 g0 hh) (.lst (SqL.of zc5) (da.same (zu3 g0 _)))
def dVar (i : Nat) : DS → Option W := fun δ => match δ[i]? with
 | some (.val d) => some d
 | _ => none
theorem za2 {i : Nat} : DE K ρ (tVar i) (dVar i) := fun G σ H δ d Q R e q => by
 unfold dVar at e
 split at e
 · rename_i d' h
   cases e
   obtain ⟨o, h1, v, h2, h3⟩ := R.sl i _ h
   exact ⟨v, by rw [h1, h2], q v G H (.refl R.sub) h3⟩
 · cases e
def dPk (i : Nat) : DS → Option W := fun δ => match δ[i]? with
 | some (.val d) => some d
 | some (.own ds) => some (.list ds)
 | _ => none
theorem za7 {i : Nat} : DK K ρ (tVar i) (dPk i) := fun G σ H δ d Q R e q => by
 unfold dPk at e
 split at e
 · rename_i d' h
   cases e
   obtain ⟨o, h1, v, h2, h3⟩ := R.sl i _ h
   exact ⟨v, by rw [h1, h2], q v G H (.refl R.sub) (.inl h3)⟩
 · rename_i ds h
   cases e
   obtain ⟨o, h1, p, vs, h2, h3, h4, h5⟩ := R.sl i _ h
   exact ⟨.ref p, by rw [h1, h2], q _ G H (.refl R.sub) (.inr ⟨p, vs, ds, rfl, rfl, h4, h5⟩)⟩
 · cases e
def dC (d : W) : DS → Option W := fun _ => some d
theorem de_c {v : V} {d : W} (h : ∀ G, Dw K ρ G v d) : DE K ρ (tC v) (dC d) := fun G σ H δ d' Q R e q => by
 cases e
 exact q v G H (.refl R.sub) (h G)
theorem za5 {i : Int} : DE K ρ (tC (.int i)) (dC (.int i)) := de_c fun _ => .int i
theorem de_bl {b : Bool} : DE K ρ (tC (.bl b)) (dC (.bool b)) := de_c fun _ => .bl b
theorem zb3 {x : Str} : DE K ρ (tC (.str x)) (dC (.str x)) := de_c fun _ => .str x
theorem zv8 : DE K ρ (tC .non) (dC .none) := de_c fun _ => .non
def DR (K : PySem.W.Frag) (ρ : List Addr) (r : R2) (g : W → W → Option W) : Prop :=
 ∀ (G H : Hp) (x y : V) (d e c : W) (Q : VK), Same G H → Pk K ρ G H x d → Dw K ρ G y e → g d e = some c → (∀ v G' H', Gr G H G' H' → Dw K ρ G' v c → Q v H') → r x y H Q
def dOp (g : W → W → Option W) (fa fb : DS → Option W) : DS → Option W := fun δ => (fa δ).bind fun x => (fb δ).bind fun y => g x y
theorem de_op {r : R2} {ta tb : TE} {fa fb : DS → Option W} {g : W → W → Option W} (hr : DR K ρ r g) (ha : DK K ρ ta fa) (hb : DE K ρ tb fb) : DE K ρ (tOp r ta tb) (dOp g fa fb) := fun G σ H δ d Q R e q => by
 obtain ⟨x, ex, e⟩ := Option.bind_eq_some_iff.mp e
 obtain ⟨y, ey, e⟩ := Option.bind_eq_some_iff.mp e
 exact ha G σ H δ x _ R ex fun v G1 H1 g1 dv => hb G1 σ H1 δ y _ (R.grow g1) ey fun u G2 H2 g2 du => hr G2 H2 v u x y d Q g2.s (dv.grow g2) du e fun w G3 H3 g3 dw => q w G3 H3 (g1.trans (g2.trans g3)) dw
def DB (K : PySem.W.Frag) (ρ : List Addr) (r : R2) (g : W → W → Option Bool) : Prop :=
 ∀ (H : Hp) (x y : V) (d e : W) (b : Bool) (Q : VK), Dw K ρ H x d → Dw K ρ H y e → g d e = some b → Q (.bl b) H → r x y H Q
def dCmp (g : W → W → Option Bool) (fa fb : DS → Option W) : DS → Option Bool := fun δ => (fa δ).bind fun x => (fb δ).bind fun y => g x y
def dB (f : DS → Option Bool) : DS → Option W := fun δ => (f δ).map .bool
theorem dcmp_core {r : R2} {ta tb : TE} {fa fb : DS → Option W} {g : W → W → Option Bool} (hr : DB K ρ r g) (ha : DK K ρ ta fa) (hb : DK K ρ tb fb) {G : Hp} {σ : St} {H : Hp} {δ : DS} {b : Bool} {Q : VK} (R : Rl K ρ G H δ σ) (e : dCmp g fa fb δ = some b) (q : ∀ G' H', Gr G H G' H' → Q (.bl b) H') : tOp r ta tb σ H Q := by
 obtain ⟨x, ex, e⟩ := Option.bind_eq_some_iff.mp e
 obtain ⟨y, ey, e⟩ := Option.bind_eq_some_iff.mp e
 exact ha G σ H δ x _ R ex fun v G1 H1 g1 dv => hb G1 σ H1 δ y _ (R.grow g1) ey fun u G2 H2 g2 du => hr H2 v u x y b Q ((dv.grow g2).dp g2.s) (du.dp g2.s) e (q G2 H2 (g1.trans g2))
theorem yh1 {r : R2} {ta tb : TE} {fa fb : DS → Option W} {g : W → W → Option Bool} (hr : DB K ρ r g) (ha : DK K ρ ta fa) (hb : DK K ρ tb fb) : DE K ρ (tOp r ta tb) (dB (dCmp g fa fb)) := fun G σ H δ d Q R e q => by
 obtain ⟨b, e1, rfl⟩ := Option.map_eq_some_iff.mp e
 exact dcmp_core hr ha hb R e1 fun G' H' g => q _ G' H' g (.bl b)
theorem zd4 {r : R2} {ta tb : TE} {fa fb : DS → Option W} {g : W → W → Option Bool} (hr : DB K ρ r g) (ha : DK K ρ ta fa) (hb : DK K ρ tb fb) : DT K ρ (tTest (tOp r ta tb)) (dCmp g fa fb) := fun G σ H δ b Q R e q =>
 dcmp_core hr ha hb R e fun G' H' g => ⟨b, rfl, q G' H' g⟩
def asB : W → Option Bool
 | .bool b => some b
 | _ => none
def dTru (f : DS → Option W) : DS → Option Bool := fun δ => (f δ).bind asB
theorem zy5 {d : W} {b : Bool} (h : asB d = some b) : d = .bool b := by
 cases d <;> first | (cases h; rfl) | cases h
theorem dt_val {t : TE} {f : DS → Option W} (h : DE K ρ t f) : DT K ρ (tB t) (dTru f) := fun G σ H δ b Q R e q => by
 obtain ⟨x, ex, e⟩ := Option.bind_eq_some_iff.mp e
 cases zy5 e
 exact h G σ H δ _ _ R ex fun v G1 H1 g1 dv => by
  cases dv
  exact ⟨b, rfl, q G1 H1 g1⟩
def dAnd (f g : DS → Option Bool) : DS → Option Bool := fun δ => (f δ).bind fun b => if b = true then g δ else some false
def dOr (f g : DS → Option Bool) : DS → Option Bool := fun δ => (f δ).bind fun b => if b = true then some true else g δ
def dNot (f : DS → Option Bool) : DS → Option Bool := fun δ => (f δ).map (!·)
theorem yg8 {t u : TT} {f g : DS → Option Bool} (h1 : DT K ρ t f) (h2 : DT K ρ u g) : DT K ρ (tAnd t u) (dAnd f g) := fun G σ H δ b Q R e q => by
 obtain ⟨x, ex, e⟩ := Option.bind_eq_some_iff.mp e
 refine h1 G σ H δ x _ R ex fun G1 H1 g1 => ?_
 cases x with
 | true => exact h2 G1 σ H1 δ b Q (R.grow g1) e fun G2 H2 g2 => q G2 H2 (g1.trans g2)
 | false => cases e; exact q G1 H1 g1
theorem dt_or {t u : TT} {f g : DS → Option Bool} (h1 : DT K ρ t f) (h2 : DT K ρ u g) : DT K ρ (tOr t u) (dOr f g) := fun G σ H δ b Q R e q => by
 obtain ⟨x, ex, e⟩ := Option.bind_eq_some_iff.mp e
 refine h1 G σ H δ x _ R ex fun G1 H1 g1 => ?_
 cases x with
 | false => exact h2 G1 σ H1 δ b Q (R.grow g1) e fun G2 H2 g2 => q G2 H2 (g1.trans g2)
 | true => cases e; exact q G1 H1 g1
theorem dt_not {t : TT} {f : DS → Option Bool} (h : DT K ρ t f) : DT K ρ (tNot t) (dNot f) := fun G σ H δ b Q R e q => by
 obtain ⟨x, ex, rfl⟩ := Option.map_eq_some_iff.mp e
 exact h G σ H δ x _ R ex q
def dAndV (f g : DS → Option W) : DS → Option W := fun δ => (f δ).bind fun x => (asB x).bind fun b => if b = true then g δ else some (.bool false)
def dOrV (f g : DS → Option W) : DS → Option W := fun δ => (f δ).bind fun x => (asB x).bind fun b => if b = true then some (.bool true) else g δ
theorem de_and {t u : TE} {f g : DS → Option W} (h1 : DE K ρ t f) (h2 : DE K ρ u g) : DE K ρ (tAndV t u) (dAndV f g) := fun G σ H δ d Q R e q => by
 obtain ⟨x, ex, e⟩ := Option.bind_eq_some_iff.mp e
 obtain ⟨b, eb, e⟩ := Option.bind_eq_some_iff.mp e
 cases zy5 eb
 refine h1 G σ H δ _ _ R ex fun v G1 H1 g1 dv => ?_
 cases dv
 refine ⟨b, rfl, ?_⟩
 cases b with
 | true => exact h2 G1 σ H1 δ d Q (R.grow g1) e fun v G2 H2 g2 dv => q v G2 H2 (g1.trans g2) dv
 | false => cases e; exact q _ G1 H1 g1 (.bl false)
theorem de_or {t u : TE} {f g : DS → Option W} (h1 : DE K ρ t f) (h2 : DE K ρ u g) : DE K ρ (tOrV t u) (dOrV f g) := fun G σ H δ d Q R e q => by
 obtain ⟨x, ex, e⟩ := Option.bind_eq_some_iff.mp e
 obtain ⟨b, eb, e⟩ := Option.bind_eq_some_iff.mp e
 cases zy5 eb
 refine h1 G σ H δ _ _ R ex fun v G1 H1 g1 dv => ?_
 cases dv
 refine ⟨b, rfl, ?_⟩
 cases b with
 | false => exact h2 G1 σ H1 δ d Q (R.grow g1) e fun v G2 H2 g2 dv => q v G2 H2 (g1.trans g2) dv
 | true => cases e; exact q _ G1 H1 g1 (.bl true)
def dNotV (f : DS → Option W) : DS → Option W := fun δ => (f δ).bind fun x => (asB x).map fun b => .bool (!b)
theorem de_not {t : TE} {f : DS → Option W} (h : DE K ρ t f) : DE K ρ (tNotV t) (dNotV f) := fun G σ H δ d Q R e q => by
 obtain ⟨x, ex, e⟩ := Option.bind_eq_some_iff.mp e
 obtain ⟨b, eb, rfl⟩ := Option.map_eq_some_iff.mp e
 cases zy5 eb
 refine h G σ H δ _ _ R ex fun v G1 H1 g1 dv => ?_
 cases dv
 exact ⟨b, rfl, q _ G1 H1 g1 (.bl _)⟩
def dIf (c : DS → Option Bool) (f g : DS → Option W) : DS → Option W := fun δ => (c δ).bind fun b => if b = true then f δ else g δ
theorem de_if {tc : TT} {t u : TE} {c : DS → Option Bool} {f g : DS → Option W} (hc : DT K ρ tc c) (h1 : DE K ρ t f) (h2 : DE K ρ u g) : DE K ρ (tIf tc t u) (dIf c f g) := fun G σ H δ d Q R e q => by
 obtain ⟨b, eb, e⟩ := Option.bind_eq_some_iff.mp e
 refine hc G σ H δ b _ R eb fun G1 H1 g1 => ?_
 cases b with
 | true => exact h1 G1 σ H1 δ d Q (R.grow g1) e fun v G2 H2 g2 dv => q v G2 H2 (g1.trans g2) dv
 | false => exact h2 G1 σ H1 δ d Q (R.grow g1) e fun v G2 H2 g2 dv => q v G2 H2 (g1.trans g2) dv
def dNil : DS → Option (List W) := fun _ => some []
def dCons (f : DS → Option W) (g : DS → Option (List W)) : DS → Option (List W) := fun δ => (f δ).bind fun d => (g δ).map (d :: ·)
theorem za8 : DA K ρ tNil dNil := fun G σ H δ ds Q R e q => by
 cases e
 exact q [] G H (.refl R.sub) .nil
theorem za1 {t : TE} {u : TA} {f : DS → Option W} {g : DS → Option (List W)} (h1 : DE K ρ t f) (h2 : DA K ρ u g) : DA K ρ (tCons t u) (dCons f g) := fun G σ H δ ds Q R e q => by
 obtain ⟨d, ed, e⟩ := Option.bind_eq_some_iff.mp e
 obtain ⟨es, ee, rfl⟩ := Option.map_eq_some_iff.mp e
 exact h1 G σ H δ d _ R ed fun v G1 H1 g1 dv => h2 G1 σ H1 δ es _ (R.grow g1) ee fun vs G2 H2 g2 da => q _ G2 H2 (g1.trans g2) (.cons (dv.same g2.g) da)
theorem DwAll.length {G : Hp} : ∀ {vs : List V} {ds : List W}, DwAll K ρ G vs ds → vs.length = ds.length
 | _, _, .nil => rfl
 | _, _, .cons _ t => by rw [List.length_cons, List.length_cons, DwAll.length t]
theorem DwAll.get {G : Hp} : ∀ {vs : List V} {ds : List W} {i : Nat} {d : W}, DwAll K ρ G vs ds → ds[i]? = some d → ∃ v, vs[i]? = some v ∧ Dw K ρ G v d
 | _, _, 0, _, .cons h t, e => by simp at e; subst e; exact ⟨_, rfl, h⟩
 | _, _, i + 1, _, .cons h t, e => by
  obtain ⟨v, h1, h2⟩ := DwAll.get (i := i) t (by simpa using e)
  exact ⟨v, by simpa using h1, h2⟩
theorem DwAll.app {G : Hp} : ∀ {vs ws : List V} {ds es : List W}, DwAll K ρ G vs ds → DwAll K ρ G ws es → DwAll K ρ G (vs ++ ws) (ds ++ es)
 | _, _, _, _, .nil, h => h
 | _, _, _, _, .cons a b, h => .cons a (DwAll.app b h)
theorem DwAll.drop {G : Hp} : ∀ {vs : List V} {ds : List W} (n : Nat), DwAll K ρ G vs ds → DwAll K ρ G (vs.drop n) (ds.drop n)
 | _, _, 0, h => h
 | _, _, _ + 1, .nil => .nil
 | _, _, n + 1, .cons _ t => DwAll.drop n t
theorem DwAll.take {G : Hp} : ∀ {vs : List V} {ds : List W} (n : Nat), DwAll K ρ G vs ds → DwAll K ρ G (vs.take n) (ds.take n)
 | _, _, 0, _ => .nil
 | _, _, _ + 1, .nil => .nil
 | _, _, n + 1, .cons h t => .cons h (DwAll.take n t)
theorem DwAll.ints {G : Hp} : ∀ (ns : List Int), DwAll K ρ G (ns.map V.int) (ns.map .int)
 | [] => .nil
 | n :: r => .cons (.int n) (DwAll.ints r)
def dTup (f : DS → Option (List W)) : DS → Option W := fun δ => (f δ).bind fun ds => if ds.length ≤ sizeLine then some (.tuple ds) else none
theorem zc7 {t : TA} {f : DS → Option (List W)} (h : DA K ρ t f) : DE K ρ (tTupN t) (dTup f) := fun G σ H δ d Q R e q => by
 obtain ⟨ds, e1, e⟩ := Option.bind_eq_some_iff.mp e
 split at e
 · rename_i hz
   cases e
   refine h G σ H δ ds _ R e1 fun vs G1 H1 g1 da => ⟨by rw [da.length]; exact hz, fun p H' n => ?_⟩
   have g2 := Gr.nw g1.s n
   exact q _ _ H' (g1.trans g2) (.tup zc5 (da.same g2.g))
 · cases e
def dLst (f : DS → Option (List W)) : DS → Option (List W) := fun δ => (f δ).bind fun ds => if ds.length ≤ sizeLine then some ds else none
theorem zh9 {t : TA} {f : DS → Option (List W)} (h : DA K ρ t f) : DO K ρ (tLstN t) (dLst f) := fun G σ H δ ds Q R e q => by
 obtain ⟨ds', e1, e⟩ := Option.bind_eq_some_iff.mp e
 split at e
 · rename_i hz
   cases e
   refine h G σ H δ _ _ R e1 fun vs G1 H1 g1 da => ⟨by rw [da.length]; exact hz, fun p H' n => ?_⟩
   exact q p vs G1 H' (g1.trans (.nwO g1.s n)) (by
    cases hp : H p with
    | none => rfl
    | some o => exact absurd (g1.h _ _ hp) (by rw [n.2.1]; simp)) (zn9 g1.s n.2.1) n.2.2 da
 · cases e
end
end L2
set_option Elab.async false
set_option linter.all false
set_option maxRecDepth 100000
namespace L2
open PySem PySem.Spec PyProof.Rows
section
variable {X : Cx} {tg : Expr}
def iSeq (K : PySem.W.Frag) (tl : TE) : TI := fun σ H R => tl σ H fun x H1 => ∃ a, x = .ref a ∧ (((∃ xs, SqL K H1 a xs) ∧ R (Itl K a) H1) ∨ ((∃ xs, SqT K H1 a xs) ∧ R (Itt K a) H1))
theorem pi_seq {l : Expr} {tl : TE} (hl : PE X l tl) : PI X tg l (iSeq X.K tl) := by
 intro pins s σ H R I h
 refine thn (hl pins s σ H _ I h) fun v s1 hq0 => ?_
 obtain ⟨x, H1, I1, r1, q1⟩ := hq0
 obtain ⟨a, e, ⟨⟨xs, hq⟩, q⟩ | ⟨⟨xs, hq⟩, q⟩⟩ := q1
 all_goals
  subst e
  cases r1
 · obtain ⟨its, rv, p, hz⟩ := I1.list hq
   refine wpAny_pyIter_list p.isList ?_
   refine ⟨s1.heap.objs.size, [s1.heap.objs.size], _, _, H1, rfl, I1.kept (t' := s1.toks) fun b o e => Heap.get?_push_of_some _ e, turn_list a _, ⟨_, Heap.get?_push_size _ rfl, rfl, rfl⟩, fun b hb => ?_, q⟩
   have e : b = s1.heap.objs.size := by simpa using hb
   subst e
   exact I1.fpOk (Nat.le_refl _) (I1.hok.fresh (Nat.le_refl _))
 · obtain ⟨its, rv, p, hz⟩ := I1.tuple hq
   refine wpAny_pyIter_tuple (show s1.heap.IsTuple a its.toArray from p) ?_
   refine ⟨s1.heap.objs.size, [s1.heap.objs.size], _, _, H1, rfl, I1.kept (t' := s1.toks) fun b o e => Heap.get?_push_of_some _ e, turn_tuple a _, ⟨_, Heap.get?_push_size _ rfl, rfl, rfl⟩, fun b hb => ?_, q⟩
   have e : b = s1.heap.objs.size := by simpa using hb
   subst e
   exact I1.fpOk (Nat.le_refl _) (I1.hok.fresh (Nat.le_refl _))
theorem zi7 {K : PySem.W.Frag} (h : X.K = K) {l : Expr} {tl : TE} (hl : PE X l tl) : PI X tg l (iSeq K tl) := h ▸ pi_seq hl
end
section
variable {K : PySem.W.Frag} {ρ : List Addr}
def ItA (K : PySem.W.Frag) (ρ : List Addr) (J : It) (ds : List W) (i : Nat) (G1 H1 : Hp) : Prop :=
 (∀ d, ds[i]? = some d → J.go i H1 ∧ ∀ x H', J.yld i H1 x H' → ∃ G', Gr G1 H1 G' H' ∧ Dw K ρ G' x d) ∧ (ds.length ≤ i → J.stop i H1)
def ItD (K : PySem.W.Frag) (ρ : List Addr) (J : It) (G H : Hp) (ds : List W) : Prop := ∀ i G1 H1, Gr G H G1 H1 → ItA K ρ J ds i G1 H1
def ItF (K : PySem.W.Frag) (ρ : List Addr) (J : It) (G : Hp) (ds : List W) : Prop := ∀ i G1 H1, Same G G1 → Same G1 H1 → ItA K ρ J ds i G1 H1
def DI (K : PySem.W.Frag) (ρ : List Addr) (wi : TI) (f : DS → Option (List W)) : Prop :=
 ∀ (G : Hp) (σ : St) (H : Hp) (δ : DS) (ds : List W) (R' : It → Hp → Prop), Rl K ρ G H δ σ → f δ = some ds → (∀ J G' H', Gr G H G' H' → ItF K ρ J G' ds → R' J H') → wi σ H R'
def DIk (K : PySem.W.Frag) (ρ : List Addr) (wi : TI) (f : DS → Option (List W)) : Prop :=
 ∀ (G : Hp) (σ : St) (H : Hp) (δ : DS) (ds : List W) (R' : It → Hp → Prop), Rl K ρ G H δ σ → f δ = some ds → (∀ J G' H', Gr G H G' H' → ItD K ρ J G' H' ds → R' J H') → wi σ H R'
def seqD : W → Option (List W)
 | .list ds => some ds
 | .tuple ds => some ds
 | _ => none
def dSeqOf (f : DS → Option W) : DS → Option (List W) := fun δ => (f δ).bind seqD
theorem ye8 {G1 H1 : Hp} {a : Addr} {xs : List V} {ds : List W} {i : Nat} (s : Same G1 H1) (q : SqL K H1 a xs) (da : DwAll K ρ G1 xs ds) : ItA K ρ (Itl K a) ds i G1 H1 := by
 refine ⟨fun d hd => ?_, fun h => ⟨xs, q, by rw [da.length]; exact h⟩⟩
 obtain ⟨v, h1, h2⟩ := da.get hd
 refine ⟨⟨xs, v, q, h1⟩, fun x H' y => ?_⟩
 obtain ⟨rfl, y⟩ := y
 have := y xs q
 rw [h1] at this
 cases this
 exact ⟨G1, .refl s, h2⟩
theorem itt_at {G1 H1 : Hp} {a : Addr} {xs : List V} {ds : List W} {i : Nat} (s : Same G1 H1) (q : SqT K H1 a xs) (da : DwAll K ρ G1 xs ds) : ItA K ρ (Itt K a) ds i G1 H1 := by
 refine ⟨fun d hd => ?_, fun h => ⟨xs, q, by rw [da.length]; exact h⟩⟩
 obtain ⟨v, h1, h2⟩ := da.get hd
 refine ⟨⟨xs, v, q, h1⟩, fun x H' y => ?_⟩
 obtain ⟨rfl, y⟩ := y
 have := y xs q
 rw [h1] at this
 cases this
 exact ⟨G1, .refl s, h2⟩
theorem zq8 {t : TE} {f : DS → Option W} (h : DE K ρ t f) : DI K ρ (iSeq K t) (dSeqOf f) := fun G σ H δ ds R' R e q => by
 obtain ⟨d, ed, e⟩ := Option.bind_eq_some_iff.mp e
 refine h G σ H δ d _ R ed fun v G1 H1 g1 dv => ?_
 cases dv with
 | lst sq da =>
  cases e
  exact ⟨_, rfl, .inl ⟨⟨_, g1.s.seq sq⟩, q _ G1 H1 g1 fun i G2 H2 a b => ye8 b ((a.trans b).seq sq) (da.same a)⟩⟩
 | tup sq da =>
  cases e
  exact ⟨_, rfl, .inr ⟨⟨_, g1.s.tup (SqT.of sq)⟩, q _ G1 H1 g1 fun i G2 H2 a b => itt_at b ((a.trans b).tup (SqT.of sq)) (da.same a)⟩⟩
 | _ => cases e
theorem zx4 {t : TE} {f : DS → Option W} (h : DK K ρ t f) : DIk K ρ (iSeq K t) (dSeqOf f) := fun G σ H δ ds R' R e q => by
 obtain ⟨d, ed, e⟩ := Option.bind_eq_some_iff.mp e
 refine h G σ H δ d _ R ed fun v G1 H1 g1 dv => ?_
 rcases dv with dv | ⟨p, vs, es, rfl, rfl, hp, da⟩
 · cases dv with
   | lst sq da =>
    cases e
    exact ⟨_, rfl, .inl ⟨⟨_, g1.s.seq sq⟩, q _ G1 H1 g1 fun i G2 H2 g => ye8 g.s ((g.g.trans g.s).seq sq) (da.same g.g)⟩⟩
   | tup sq da =>
    cases e
    exact ⟨_, rfl, .inr ⟨⟨_, g1.s.tup (SqT.of sq)⟩, q _ G1 H1 g1 fun i G2 H2 g => itt_at g.s ((g.g.trans g.s).tup (SqT.of sq)) (da.same g.g)⟩⟩
   | _ => cases e
 · cases e
   exact ⟨p, rfl, .inl ⟨⟨_, SqL.of hp⟩, q _ G1 H1 g1 fun i G2 H2 g => ye8 g.s (SqL.of (g.h _ _ hp)) (da.same g.g)⟩⟩
def rngD (lo : Int) (n : Nat) : List W := (List.range n).map fun i => .int (lo + (i : Nat))
theorem itr_ok {G : Hp} {lo : Int} {n : Nat} : ItF K ρ (Itr lo n) G (rngD lo n) := fun i G1 H1 _ s => by
 refine ⟨fun d hd => ?_, fun h => show n ≤ i by simpa [rngD] using h⟩
 have hi : i < n := by
  have := (List.getElem?_eq_some_iff.mp hd).1
  simpa [rngD] using this
 refine ⟨hi, fun x H' y => ?_⟩
 obtain ⟨rfl, rfl⟩ := y
 have : d = .int (lo + i) := by
  unfold rngD at hd
  rw [List.getElem?_map, List.getElem?_range hi] at hd
  cases hd
  rfl
 subst this
 exact ⟨G1, .refl s, .int _⟩
def rngOk (j : Int) : Bool := decide (-(2 ^ 62) ≤ j) && decide (j < 2 ^ 62)
theorem rngOk_iff {j : Int} (h : rngOk j = true) : -(2 ^ 62) ≤ j ∧ j < 2 ^ 62 := by
 simp only [rngOk, Bool.and_eq_true, decide_eq_true_eq] at h
 exact h
theorem rngOk_of {j : Int} (h1 : -(2 ^ 62) ≤ j) (h2 : j < 2 ^ 62) : rngOk j = true := by
 simp only [rngOk, Bool.and_eq_true, decide_eq_true_eq]
 exact ⟨h1, h2⟩
theorem rngOk_nat {n : Nat} (h : n ≤ 16777216) : rngOk (n : Int) = true := rngOk_of (by omega) (by omega)
def rng1 (j : Int) : Option (List W) := if rngOk j = true then some (rngD 0 j.toNat) else none
def rng1L : List W → Option (List W)
 | [.int j] => rng1 j
 | _ => none
def dRng1 (f : DS → Option (List W)) : DS → Option (List W) := fun δ => (f δ).bind rng1L
theorem rng1_ok {j : Int} {ds : List W} (h : rng1 j = some ds) : (-(2 ^ 62) ≤ j ∧ j < 2 ^ 62) ∧ ds = rngD 0 j.toNat := by
 unfold rng1 at h
 split at h
 · rename_i hc
   cases h
   exact ⟨rngOk_iff hc, rfl⟩
 · cases h
theorem zp6 {G : Hp} {v : V} {i : Int} (h : Dw K ρ G v (.int i)) : v = .int i := by cases h; rfl
theorem yi4 {G : Hp} {v : V} {i : Str} (h : Dw K ρ G v (.str i)) : v = .str i := by cases h; rfl
theorem dp_bl {G : Hp} {v : V} {i : Bool} (h : Dw K ρ G v (.bool i)) : v = .bl i := by cases h; rfl
theorem yj0 {G : Hp} {v : V} (h : Dw K ρ G v .none) : v = .non := by cases h; rfl
theorem dp_one {G : Hp} {vs : List V} {d : W} (h : DwAll K ρ G vs [d]) : ∃ v, vs = [v] ∧ Dw K ρ G v d := by
 cases h with
 | cons a b => cases b; exact ⟨_, rfl, a⟩
theorem dp_two {G : Hp} {vs : List V} {d e : W} (h : DwAll K ρ G vs [d, e]) : ∃ v u, vs = [v, u] ∧ Dw K ρ G v d ∧ Dw K ρ G u e := by
 cases h with
 | cons a b =>
  cases b with
  | cons b c => cases c; exact ⟨_, _, rfl, a, b⟩
theorem yb3 {t : TA} {f : DS → Option (List W)} (h : DA K ρ t f) : DI K ρ (iRng1 t) (dRng1 f) := fun G σ H δ ds R' R e q => by
 obtain ⟨es, ed, e⟩ := Option.bind_eq_some_iff.mp e
 refine h G σ H δ es _ R ed fun vs G1 H1 g1 da => ?_
 unfold rng1L at e
 split at e
 · obtain ⟨hc, rfl⟩ := rng1_ok e
   obtain ⟨v, rfl, dv⟩ := dp_one da
   cases zp6 dv
   exact ⟨_, rfl, hc.1, hc.2, q _ G1 H1 g1 itr_ok⟩
 · cases e
def enumD (ds : List W) : List W := (List.range ds.length).map fun (i : Nat) => .tuple [.int (i : Int), ds[i]?.getD .none]
def dEnum (f : DS → Option (List W)) : DS → Option (List W) := fun δ => (f δ).bind fun ds => match ds with
 | [.list es] => some (enumD es)
 | _ => none
def zipD (ds es : List W) : List W := List.zipWith (fun x y => .tuple [x, y]) ds es
theorem zipD_get {ds es : List W} {i : Nat} {d : W} (h : (zipD ds es)[i]? = some d) : ∃ x y, ds[i]? = some x ∧ es[i]? = some y ∧ d = .tuple [x, y] := by
 unfold zipD at h
 rw [List.getElem?_zipWith] at h
 split at h
 · rename_i x y h1 h2
   cases h
   exact ⟨x, y, h1, h2, rfl⟩
 · cases h
theorem itz_at {G1 H1 : Hp} {a b : Addr} {xs ys : List V} {ds es : List W} {i : Nat} (s : Same G1 H1) (q : SqL K H1 a xs) (da : DwAll K ρ G1 xs ds) (q2 : SqL K H1 b ys) (db : DwAll K ρ G1 ys es) : ItA K ρ (Itz K a b) (zipD ds es) i G1 H1 := by
 refine ⟨fun d hd => ?_, fun h => ⟨xs, ys, q, q2, ?_⟩⟩
 · obtain ⟨x, y, hx, hy, rfl⟩ := zipD_get hd
   obtain ⟨v, h1, h2⟩ := da.get hx
   obtain ⟨u, k1, k2⟩ := db.get hy
   refine ⟨⟨xs, ys, v, u, q, q2, h1, k1⟩, fun z H' w => ?_⟩
   obtain ⟨p, v', u', hp, rfl, rfl, w1, w2⟩ := w
   have := w1 xs q
   rw [h1] at this
   cases this
   have := w2 ys q2
   rw [k1] at this
   cases this
   have g := Gr.nw s (Nw.of (o := .tup [v, u]) hp)
   exact ⟨_, g, .tup zc5 (.cons (h2.same g.g) (.cons (k2.same g.g) .nil))⟩
 · have : (zipD ds es).length = min ds.length es.length := by simp [zipD]
   rw [da.length, db.length]
   omega
def dZip (f : DS → Option (List W)) : DS → Option (List W) := fun δ => (f δ).bind fun ds => match ds with
 | [.list a, .list b] => some (zipD a b)
 | _ => none
theorem di_zip {t : TA} {f : DS → Option (List W)} (h : DA K ρ t f) : DI K ρ (iZip K t) (dZip f) := fun G σ H δ ds R' R e q => by
 obtain ⟨es, ed, e⟩ := Option.bind_eq_some_iff.mp e
 refine h G σ H δ es _ R ed fun vs G1 H1 g1 da => ?_
 split at e
 · cases e
   obtain ⟨v, u, rfl, dv, du⟩ := dp_two da
   cases dv with
   | lst sq dA =>
    cases du with
    | lst sq2 db => exact ⟨_, _, rfl, ⟨_, g1.s.seq sq⟩, ⟨_, g1.s.seq sq2⟩, q _ G1 H1 g1 fun i G2 H2 a b => itz_at b ((a.trans b).seq sq) (dA.same a) ((a.trans b).seq sq2) (db.same a)⟩
 · cases e
def DG (K : PySem.W.Frag) (ρ : List Addr) (g : TG) (h : W → DS → Option DS) : Prop :=
 ∀ (G H : Hp) (δ : DS) (σ : St) (v : V) (d : W) (δ' : DS) (Q : St → Hp → Prop), Rl K ρ G H δ σ → Dw K ρ G v d → h d δ = some δ' → (∀ σ', Rl K ρ G H δ' σ' → OwnSub δ' σ' δ σ → Q σ' H) → g v σ H Q
def DGs (K : PySem.W.Frag) (ρ : List Addr) (g : TGs) (h : List W → DS → Option DS) : Prop :=
 ∀ (G H : Hp) (δ : DS) (σ : St) (vs : List V) (ds : List W) (δ' : DS) (Q : St → Hp → Prop), Rl K ρ G H δ σ → DwAll K ρ G vs ds → h ds δ = some δ' → (∀ σ', Rl K ρ G H δ' σ' → OwnSub δ' σ' δ σ → Q σ' H) → g vs σ H Q
def dgName (i : Nat) : W → DS → Option DS := fun d δ => some (δ.set i (.val d))
theorem za9 {i : Nat} : DG K ρ (gName i) (dgName i) := fun G H δ σ v d δ' Q R dv e q => by
 cases e
 exact q _ (R.set dv) (zu8 R.len)
def dgNil : List W → DS → Option DS := fun ds δ => match ds with
 | [] => some δ
 | _ => none
def dgCons (h : W → DS → Option DS) (k : List W → DS → Option DS) : List W → DS → Option DS := fun ds δ => match ds with
 | d :: r => (h d δ).bind (k r)
 | _ => none
theorem zp4 : DGs K ρ gNil dgNil := fun G H δ σ vs ds δ' Q R dv e q => by
 cases dv with
 | nil => cases e; exact ⟨rfl, q _ R (.refl _ _)⟩
 | cons _ _ => cases e
theorem zd9 {g : TG} {u : TGs} {h : W → DS → Option DS} {k : List W → DS → Option DS} (h1 : DG K ρ g h) (h2 : DGs K ρ u k) : DGs K ρ (gCons g u) (dgCons h k) := fun G H δ σ vs ds δ' Q R dv e q => by
 cases dv with
 | nil => cases e
 | cons a b =>
  obtain ⟨δ1, e1, e⟩ := Option.bind_eq_some_iff.mp e
  exact ⟨_, _, rfl, h1 G H δ σ _ _ δ1 _ R a e1 fun σ1 R1 o1 => h2 G H δ1 σ1 _ _ δ' Q R1 b e fun σ2 R2 o2 => q σ2 R2 (o2.trans o1)⟩
def dgTup (n : Nat) (k : List W → DS → Option DS) : W → DS → Option DS := fun d δ => match d with
 | .tuple ds => if ds.length = n then k ds δ else none
 | _ => none
theorem zs5 {n : Nat} {u : TGs} {k : List W → DS → Option DS} (h : DGs K ρ u k) : DG K ρ (gTup K n u) (dgTup n k) := fun G H δ σ v d δ' Q R dv e q => by
 cases dv with
 | tup sq da =>
  simp only [dgTup] at e
  split at e
  · rename_i hn
    exact ⟨_, _, rfl, R.sub.tup (SqT.of sq), by rw [da.length]; exact hn, h G H δ σ _ _ δ' Q R da e q⟩
  · cases e
 | _ => cases e
def slAt (δ : DS) : Option Nat → Sl
 | none => .no
 | some i => δ[i]?.getD .no
def vAt (σ : St) : Option Nat → Option V
 | none => none
 | some i => match σ[i]? with
  | some v => v
  | none => none
def liftD (ix : List (Option Nat)) (δ : DS) : DS := ix.map (slAt δ)
theorem zz7 {ix : List (Option Nat)} {σ : St} {j : Nat} {o : Option Nat} (h : ix[j]? = some o) : (lift ix σ)[j]? = some (vAt σ o) := by
 unfold lift
 rw [List.getElem?_map, h]
 cases o <;> rfl
theorem zy4 {ix : List (Option Nat)} {δ : DS} {j : Nat} {s : Sl} (h : (liftD ix δ)[j]? = some s) : ∃ o, ix[j]? = some o ∧ s = slAt δ o := by
 unfold liftD at h
 rw [List.getElem?_map] at h
 obtain ⟨o, h1, h2⟩ := Option.map_eq_some_iff.mp h
 exact ⟨o, h1, h2.symm⟩
def ixOk (ix : List (Option Nat)) : Bool := decide ((ix.filterMap id).Nodup)
theorem ix_inj {ix : List (Option Nat)} (h : (ix.filterMap id).Nodup) : ∀ {i j k : Nat}, ix[i]? = some (some k) → ix[j]? = some (some k) → i = j := by
 induction ix with
 | nil => intro i j k h1; simp at h1
 | cons o r ih =>
  intro i j k h1 h2
  have hr : (r.filterMap id).Nodup := by
   cases o with
   | none => simpa using h
   | some a =>
    have h' : (a :: r.filterMap id).Nodup := h
    exact (List.nodup_cons.mp h').2
  have hm : ∀ m, r[m]? = some (some k) → k ∈ r.filterMap id := fun m hm => List.mem_filterMap.mpr ⟨some k, List.mem_of_getElem? hm, rfl⟩
  cases i with
  | zero =>
   cases j with
   | zero => rfl
   | succ j =>
    simp at h1 h2
    subst h1
    have h' : (k :: r.filterMap id).Nodup := h
    exact absurd (hm j h2) (List.nodup_cons.mp h').1
  | succ i =>
   cases j with
   | zero =>
    simp at h1 h2
    subst h2
    have h' : (k :: r.filterMap id).Nodup := h
    exact absurd (hm i h1) (List.nodup_cons.mp h').1
   | succ j =>
    simp at h1 h2
    rw [ih hr h1 h2]
theorem Rl.lift {G H : Hp} {δ : DS} {σ : St} {ix : List (Option Nat)} (hx : ixOk ix = true) (R : Rl K ρ G H δ σ) : Rl K ρ G H (liftD ix δ) (lift ix σ) := by
 have hx' : (ix.filterMap id).Nodup := by simpa [ixOk] using hx
 have own : ∀ {j : Nat} {ds : List W}, (liftD ix δ)[j]? = some (.own ds) → ∃ i, ix[j]? = some (some i) ∧ δ[i]? = some (.own ds) := fun {j ds} h => by
  obtain ⟨o, h1, h2⟩ := zy4 h
  cases o with
  | none => cases h2
  | some i =>
   refine ⟨i, h1, ?_⟩
   cases e : δ[i]? with
   | none => simp [slAt, e] at h2
   | some s => simp [slAt, e] at h2; rw [h2]
 have at' : ∀ {j i : Nat} {v : V}, ix[j]? = some (some i) → (L2.lift ix σ)[j]? = some (some v) → σ[i]? = some (some v) := fun {j i v} h1 h2 => by
  rw [zz7 h1] at h2
  simp only [vAt] at h2
  split at h2
  · rename_i w e
    rw [e]
    simpa using h2
  · cases h2
 refine ⟨R.sub, by simp [liftD, L2.lift], fun j s h => ?_, fun j k p ds es h1 h2 h3 h4 => ?_⟩
 · obtain ⟨o, h1, rfl⟩ := zy4 h
   refine ⟨_, zz7 h1, ?_⟩
   cases o with
   | none => trivial
   | some i =>
    cases e : δ[i]? with
    | none => simp only [slAt, e, Option.getD_none]; trivial
    | some s =>
     obtain ⟨o, k1, k2⟩ := R.sl i s e
     simp only [slAt, vAt, e, k1, Option.getD_some]
     exact k2
 · obtain ⟨i1, a1, a2⟩ := own h1
   obtain ⟨i2, b1, b2⟩ := own h2
   have := R.apart i1 i2 p ds es a2 b2 (at' a1 h3) (at' b1 h4)
   subst this
   exact ix_inj hx' a1 b1
def dYes : DS → Option Bool := fun _ => some true
theorem yi2 : DT K ρ tYes dYes := fun G σ H δ b Q R e q => by
 cases e
 exact q G H (.refl R.sub)
def zk4 (h : W → DS → Option DS) (c : DS → Option Bool) (fe : DS → Option W) (δ : DS) : List W → Option (List W)
 | [] => some []
 | d :: ds => (h d δ).bind fun δ2 => (c δ2).bind fun b => if b = true then (fe δ2).bind fun e => (zk4 h c fe δ ds).map (e :: ·) else zk4 h c fe δ ds
def dComp (ix : List (Option Nat)) (fi : DS → Option (List W)) (h : W → DS → Option DS) (c : DS → Option Bool) (fe : DS → Option W) : DS → Option (List W) := fun δ =>
 (fi δ).bind fun ds => if ds.length ≤ sizeLine then zk4 h c fe (liftD ix δ) ds else none
theorem zx8 {ix : List (Option Nat)} {wi : TI} {g : TG} {tc : TT} {te : TE} {fi : DS → Option (List W)} {h : W → DS → Option DS} {c : DS → Option Bool} {fe : DS → Option W}
 (hx : ixOk ix = true) (hi : DIk K ρ wi fi) (hg : DG K ρ g h) (hc : DT K ρ tc c) (he : DE K ρ te fe) : DO K ρ (tComp ix wi g tc te) (dComp ix fi h c fe) := fun G σ H δ es Q R e q => by
 obtain ⟨ds, ed, e⟩ := Option.bind_eq_some_iff.mp e
 split at e
 case isFalse => cases e
 rename_i hz
 refine hi G σ H δ ds _ R ed fun J G1 H1 g1 it => ?_
 refine ⟨fun i m ys H2 => m = ds.length - i ∧ i ≤ ds.length ∧ ys.length ≤ i ∧ ∃ G2 as bs, Gr G1 H1 G2 H2 ∧ DwAll K ρ G2 ys as ∧ zk4 h c fe (liftD ix δ) (ds.drop i) = some bs ∧ as ++ bs = es, ⟨ds.length, by simp, Nat.zero_le _, Nat.le_refl _, G1, [], es, .refl g1.s, .nil, by simpa using e, rfl⟩, ?_⟩
 rintro i m ys H2 ⟨rfl, hil, hyl, G2, as, bs, g2, da, eb, rfl⟩
 have ia := it i G2 H2 g2
 by_cases hlt : i < ds.length
 · refine .inr ?_
   obtain ⟨go, step⟩ := ia.1 ds[i] (List.getElem?_eq_getElem hlt)
   rw [List.drop_eq_getElem_cons hlt] at eb
   obtain ⟨δ2, e2, eb⟩ := Option.bind_eq_some_iff.mp eb
   obtain ⟨b, e3, eb⟩ := Option.bind_eq_some_iff.mp eb
   refine ⟨go, by omega, fun ys' H' => ys'.length ≤ i + 1 ∧ ∃ G2 as' bs', Gr G1 H1 G2 H' ∧ DwAll K ρ G2 ys' as' ∧ zk4 h c fe (liftD ix δ) (ds.drop (i + 1)) = some bs' ∧ as' ++ bs' = as ++ bs, fun ys' H' ⟨l, z⟩ => ⟨ds.length - (i + 1), by omega, rfl, hlt, l, z⟩, fun x H' y => ?_⟩
   obtain ⟨G3, g3, dx⟩ := step x H' y
   have R3 := ((R.grow g1).grow g2).grow g3
   refine hg G3 H' (liftD ix δ) _ x _ δ2 _ (R3.lift hx) dx e2 fun σ2 R4 _ => ?_
   refine hc G3 σ2 H' δ2 b _ R4 e3 fun G5 H5 g5 => ?_
   have g25 := g2.trans (g3.trans g5)
   have da5 := da.same (g3.trans g5).g
   cases b with
   | false => exact ⟨by omega, G5, as, bs, g25, da5, eb, rfl⟩
   | true =>
    obtain ⟨ev, e6, eb⟩ := Option.bind_eq_some_iff.mp eb
    obtain ⟨bs', e7, rfl⟩ := Option.map_eq_some_iff.mp eb
    refine he G5 σ2 H5 δ2 ev _ (R4.grow g5) e6 fun v G6 H6 g6 dv => ?_
    exact ⟨by simp; omega, G6, as ++ [ev], bs', g25.trans g6, (da5.same g6.g).app (.cons dv .nil), e7, by simp⟩
 · have hi' : i = ds.length := by omega
   subst hi'
   refine .inl ⟨ia.2 (Nat.le_refl _), by omega, fun p hp => ?_⟩
   rw [List.drop_length] at eb
   cases eb
   rw [List.append_nil] at q
   have n : Nw H2 (upd H2 p (.lst ys)) p (.lst ys) := .of hp
   exact q p ys G2 _ (g1.trans (g2.trans (.nwO g2.s n))) (zn9 (g1.trans g2).h hp) (zn9 g2.s hp) zc5 da
inductive Out where
 | nx (δ : DS)
 | bk (δ : DS)
 | ct (δ : DS)
 | rt (d : W)
structure Iv (K : PySem.W.Frag) (ρ : List Addr) (G0 H0 G H : Hp) (δ : DS) (σ : St) : Prop where
 rl : Rl K ρ G H δ σ
 gr : Gr G0 H0 G H
 ow : ∀ (i : Nat) p ds, δ[i]? = some (.own ds) → σ[i]? = some (some (.ref p)) → H0 p = none
def Pst (K : PySem.W.Frag) (ρ : List Addr) (G0 H0 : Hp) (D : Ends) : Out → Prop
 | .nx δ => ∀ σ G H, Iv K ρ G0 H0 G H δ σ → D.nx σ H
 | .bk δ => ∀ σ G H, Iv K ρ G0 H0 G H δ σ → D.bk σ H
 | .ct δ => ∀ σ G H, Iv K ρ G0 H0 G H δ σ → D.ct σ H
 | .rt d => ∀ v G H, Gr G0 H0 G H → Dw K ρ G v d → D.rt v H
def DSt (K : PySem.W.Frag) (ρ : List Addr) (t : TS) (f : DS → Option Out) : Prop :=
 ∀ (G0 H0 G : Hp) (σ : St) (H : Hp) (δ : DS) (o : Out) (D : Ends), Iv K ρ G0 H0 G H δ σ → f δ = some o → Pst K ρ G0 H0 D o → t D σ H
theorem Iv.grow {G0 H0 G H G' H' : Hp} {δ : DS} {σ : St} (I : Iv K ρ G0 H0 G H δ σ) (g : Gr G H G' H') : Iv K ρ G0 H0 G' H' δ σ := ⟨I.rl.grow g, I.gr.trans g, I.ow⟩
theorem Iv.sub {G0 H0 G H : Hp} {δ δ' : DS} {σ σ' : St} (I : Iv K ρ G0 H0 G H δ σ) (R : Rl K ρ G H δ' σ') (o : OwnSub δ' σ' δ σ) : Iv K ρ G0 H0 G H δ' σ' := ⟨R, I.gr, fun i p ds h1 h2 => by
 obtain ⟨es, h3, h4⟩ := o i ds p h1 h2
 exact I.ow i p es h3 h4⟩
theorem Iv.base {G0 H0 G H : Hp} {δ : DS} {σ : St} (I : Iv K ρ G0 H0 G H δ σ) : Iv K ρ G H0 G H δ σ := ⟨I.rl, ⟨.refl _, I.gr.h, I.gr.s, fun _ _ h => h⟩, I.ow⟩
theorem Gr.rebase {G0 H0 G H G' H' : Hp} (a : Gr G0 H0 G H) (b : Gr G H0 G' H') : Gr G0 H0 G' H' := ⟨a.g.trans b.g, b.h, b.s, fun c h1 h2 => b.n c h1 (a.n c h1 h2)⟩
theorem Iv.rebase {G0 H0 G H G' H' : Hp} {δ : DS} {σ : St} (a : Gr G0 H0 G H) (I : Iv K ρ G H0 G' H' δ σ) : Iv K ρ G0 H0 G' H' δ σ := ⟨I.rl, a.rebase I.gr, I.ow⟩
def dsNext : DS → Option Out := fun δ => some (.nx δ)
theorem zc9 : DSt K ρ tNext dsNext := fun G0 H0 G σ H δ o D I e p => by
 cases e
 exact p σ G H I
def dsSeq (f g : DS → Option Out) : DS → Option Out := fun δ => match f δ with
 | some (.nx δ') => g δ'
 | o => o
theorem zc3 {t u : TS} {f g : DS → Option Out} (h1 : DSt K ρ t f) (h2 : DSt K ρ u g) : DSt K ρ (tSeq t u) (dsSeq f g) := fun G0 H0 G σ H δ o D I e p => by
 unfold dsSeq at e
 cases ef : f δ with
 | none => rw [ef] at e; cases e
 | some o1 =>
  rw [ef] at e
  refine h1 G0 H0 G σ H δ o1 _ I ef ?_
  cases o1 with
  | nx δ' => exact fun σ' G' H' I' => h2 G0 H0 G' σ' H' δ' o D I' e p
  | bk δ' => cases e; exact p
  | ct δ' => cases e; exact p
  | rt d => cases e; exact p
def dsIf (c : DS → Option Bool) (f g : DS → Option Out) : DS → Option Out := fun δ => (c δ).bind fun b => if b = true then f δ else g δ
theorem ds_if {tc : TT} {t u : TS} {c : DS → Option Bool} {f g : DS → Option Out} (hc : DT K ρ tc c) (h1 : DSt K ρ t f) (h2 : DSt K ρ u g) : DSt K ρ (tIfS tc t u) (dsIf c f g) := fun G0 H0 G σ H δ o D I e p => by
 obtain ⟨b, eb, e⟩ := Option.bind_eq_some_iff.mp e
 refine hc G σ H δ b _ I.rl eb fun G1 H1 g1 => ?_
 cases b with
 | true => exact h1 G0 H0 G1 σ H1 δ o D (I.grow g1) e p
 | false => exact h2 G0 H0 G1 σ H1 δ o D (I.grow g1) e p
def dsRet (f : DS → Option W) : DS → Option Out := fun δ => (f δ).map .rt
theorem ze9 {t : TE} {f : DS → Option W} (h : DE K ρ t f) : DSt K ρ (tRet t) (dsRet f) := fun G0 H0 G σ H δ o D I e p => by
 obtain ⟨d, ed, rfl⟩ := Option.map_eq_some_iff.mp e
 exact h G σ H δ d _ I.rl ed fun v G1 H1 g1 dv => p v G1 H1 (I.gr.trans g1) dv
def dsRetN : DS → Option Out := fun _ => some (.rt .none)
def ye9 : DS → Option Out := fun δ => some (.ct δ)
theorem ds_continue : DSt K ρ tCont ye9 := fun G0 H0 G σ H δ o D I e p => by
 cases e
 exact p σ G H I
def dsAsg (f : DS → Option W) (h : W → DS → Option DS) : DS → Option Out := fun δ => (f δ).bind fun d => (h d δ).map .nx
theorem zc8 {t : TE} {g : TG} {f : DS → Option W} {h : W → DS → Option DS} (h1 : DE K ρ t f) (h2 : DG K ρ g h) : DSt K ρ (tAsg t g) (dsAsg f h) := fun G0 H0 G σ H δ o D I e p => by
 obtain ⟨d, ed, e⟩ := Option.bind_eq_some_iff.mp e
 obtain ⟨δ', e2, rfl⟩ := Option.map_eq_some_iff.mp e
 exact h1 G σ H δ d _ I.rl ed fun v G1 H1 g1 dv => h2 G1 H1 δ σ v d δ' _ (I.rl.grow g1) dv e2 fun σ' R o => p σ' G1 H1 ((I.grow g1).sub R o)
def dsOwn (i : Nat) (f : DS → Option (List W)) : DS → Option Out := fun δ => (f δ).map fun ds => .nx (δ.set i (.own ds))
theorem yf7 {i : Nat} {t : TE} {f : DS → Option (List W)} (h : DO K ρ t f) : DSt K ρ (tAsg t (gName i)) (dsOwn i f) := fun G0 H0 G σ H δ o D I e p => by
 obtain ⟨ds, ed, rfl⟩ := Option.map_eq_some_iff.mp e
 refine h G σ H δ ds _ I.rl ed fun q vs G1 H1 g1 h0 g0 hh da => ?_
 have I1 := I.grow g1
 refine p _ G1 H1 ⟨I1.rl.setO g0 hh da fun j es hj h1 h2 => ?_, I1.gr, fun j q' ds' h1 h2 => ?_⟩
 · obtain ⟨o, k1, q1, vs1, k2, k3, k4, _⟩ := I.rl.sl j _ h1
   rw [h2] at k1
   cases k1
   cases k2
   rw [h0] at k4
   cases k4
 · rcases zn0 h1 with ⟨rfl, _, hl⟩ | ⟨ne, h1⟩
   · rw [zy3 (by rw [← I.rl.len]; exact hl)] at h2
     cases h2
     exact zn9 I.gr.h h0
   · rw [List.getElem?_set_ne ne] at h2
     exact I.ow j q' _ h1 h2
def frz (i : Nat) (δ : DS) : DS := match δ[i]? with
 | some (.own ds) => δ.set i (.val (.list ds))
 | _ => δ
def dsFrz (i : Nat) (f : DS → Option Out) : DS → Option Out := fun δ => f (frz i δ)
theorem Iv.frz {G0 H0 G H : Hp} {δ : DS} {σ : St} (i : Nat) (I : Iv K ρ G0 H0 G H δ σ) : ∃ G', Iv K ρ G0 H0 G' H (L2.frz i δ) σ := by
 unfold L2.frz
 split
 · rename_i ds h
   obtain ⟨o, h1, p, vs, rfl, h3, h4, h5⟩ := I.rl.sl i _ h
   have h0 := I.ow i p ds h h1
   have g : Same G (upd G p (.lst vs)) := zu3 h3 _
   have set1 : σ = σ.set i (some (.ref p)) := by
    apply List.ext_getElem?
    intro j
    by_cases e : i = j
    · subst e
      rw [zy3 (List.getElem?_eq_some_iff.mp h1).1, h1]
    · rw [List.getElem?_set_ne e]
   refine ⟨upd G p (.lst vs), ⟨⟨zt6 I.gr.s h4, by rw [List.length_set]; exact I.rl.len, fun j s e => ?_, fun j k q ds' es' k1 k2 k3 k4 => ?_⟩, I.gr.new h0 h3 h4, fun j q ds' k1 k2 => ?_⟩⟩
   · rcases zn0 e with ⟨rfl, rfl, hl⟩ | ⟨ne, e⟩
     · exact ⟨_, h1, .ref p, rfl, .lst (SqL.of zc5) (h5.same g)⟩
     · obtain ⟨o, k1, k2⟩ := I.rl.sl j s e
       refine ⟨o, k1, ?_⟩
       cases s with
       | no => trivial
       | val d =>
        obtain ⟨v, e1, e2⟩ := k2
        exact ⟨v, e1, e2.same g⟩
       | own es =>
        obtain ⟨q, ws, rfl, e2, e3, e4⟩ := k2
        refine ⟨q, ws, rfl, ?_, e3, e4.same g⟩
        rw [zc4]
        · exact e2
        · rintro rfl
          exact ne (I.rl.apart i j q ds es h e h1 k1)
   all_goals
    rcases zn0 k1 with ⟨_, z, _⟩ | ⟨ne, k1⟩
    · cases z
   · rcases zn0 k2 with ⟨_, z, _⟩ | ⟨ne2, k2⟩
     · cases z
     · exact I.rl.apart j k q ds' es' k1 k2 k3 k4
   · exact I.ow j q ds' k1 k2
 · exact ⟨G, I⟩
theorem ye7 {i : Nat} {t : TS} {f : DS → Option Out} (h : DSt K ρ t f) : DSt K ρ t (dsFrz i f) := fun G0 H0 G σ H δ o D I e p => by
 obtain ⟨G', I'⟩ := I.frz i
 exact h G0 H0 G' σ H _ o D I' e p
def zg4 (h : W → DS → Option DS) (fb : DS → Option Out) : List W → DS → Option Out
 | [], δ => some (.nx δ)
 | d :: ds, δ => (h d δ).bind fun δ2 => match fb δ2 with
  | some (.nx δ') => zg4 h fb ds δ'
  | some (.ct δ') => zg4 h fb ds δ'
  | some (.bk δ') => some (.nx δ')
  | some (.rt d) => some (.rt d)
  | none => none
def dsFor (fi : DS → Option (List W)) (h : W → DS → Option DS) (fb : DS → Option Out) : DS → Option Out := fun δ => (fi δ).bind fun ds => zg4 h fb ds δ
theorem zv7 {wi : TI} {g : TG} {tb : TS} {fi : DS → Option (List W)} {h : W → DS → Option DS} {fb : DS → Option Out} (hi : DI K ρ wi fi) (hg : DG K ρ g h) (hb : DSt K ρ tb fb) : DSt K ρ (tFor wi g tb) (dsFor fi h fb) := fun G0 H0 G σ H δ o D I e p => by
 obtain ⟨ds, ed, e⟩ := Option.bind_eq_some_iff.mp e
 refine hi G σ H δ ds _ I.rl ed fun J G1 H1 g1 it => ?_
 refine ⟨fun i m σ H => m = ds.length - i ∧ i ≤ ds.length ∧ ∃ G δ, Iv K ρ G0 H0 G H δ σ ∧ Same G1 G ∧ zg4 h fb (ds.drop i) δ = some o, ⟨ds.length, by simp, Nat.zero_le _, G1, δ, I.grow g1, .refl _, by simpa using e⟩, ?_⟩
 rintro i m σ2 H2 ⟨rfl, hil, G2, δ2, I2, s2, e2⟩
 have ia := it i G2 H2 s2 I2.gr.s
 by_cases hlt : i < ds.length
 · refine .inr ?_
   obtain ⟨go, step⟩ := ia.1 ds[i] (List.getElem?_eq_getElem hlt)
   rw [List.drop_eq_getElem_cons hlt] at e2
   obtain ⟨δ3, e3, e4⟩ := Option.bind_eq_some_iff.mp e2
   have back : ∀ {G3 H3 : Hp}, Gr G2 H2 G3 H3 → ∀ {G4 H4 : Hp} {σ4 : St} {δ4 : DS}, Iv K ρ G3 H0 G4 H4 δ4 σ4 → Iv K ρ G0 H0 G4 H4 δ4 σ4 ∧ Same G1 G4 := fun {G3 H3} g3 {G4 H4 σ4 δ4} I4 => ⟨I4.rebase (I2.gr.trans g3), s2.trans (g3.g.trans I4.gr.g)⟩
   have again : ∀ (δ' : DS), zg4 h fb (ds.drop (i + 1)) δ' = some o → (fb δ3 = some (.nx δ') ∨ fb δ3 = some (.ct δ')) → ∃ N : St → Hp → Prop, (∀ σ' H', N σ' H' → ∃ m', m' < ds.length - i ∧ m' = ds.length - (i + 1) ∧ i + 1 ≤ ds.length ∧ ∃ G δ, Iv K ρ G0 H0 G H' δ σ' ∧ Same G1 G ∧ zg4 h fb (ds.drop (i + 1)) δ = some o) ∧ ∀ x H', J.yld i H2 x H' → g x σ2 H' fun σ2 H2 => tb { D with nx := N, ct := N, bk := D.nx } σ2 H2 := fun δ' ed' ef => by
    refine ⟨fun σ' H' => ∃ G', Iv K ρ G0 H0 G' H' δ' σ' ∧ Same G1 G', fun σ' H' ⟨G', I', s'⟩ => ⟨ds.length - (i + 1), by omega, rfl, hlt, G', δ', I', s', ed'⟩, fun x H' y => ?_⟩
    obtain ⟨G3, g3, dx⟩ := step x H' y
    have I3 := I2.grow g3
    refine hg G3 H' δ2 σ2 x _ δ3 _ I3.rl dx e3 fun σ3 R3 o3 => ?_
    have I4 := (I3.sub R3 o3).base
    rcases ef with ef | ef
    · exact hb G3 H0 G3 σ3 H' δ3 _ _ I4 ef fun σ5 G5 H5 I5 => ⟨G5, back g3 I5⟩
    · exact hb G3 H0 G3 σ3 H' δ3 _ _ I4 ef fun σ5 G5 H5 I5 => ⟨G5, back g3 I5⟩
   cases ef : fb δ3 with
   | none => rw [ef] at e4; cases e4
   | some o1 =>
    rw [ef] at e4
    cases o1 with
    | nx δ' =>
     obtain ⟨N, n1, n2⟩ := again δ' e4 (.inl ef)
     exact ⟨go, N, n1, n2⟩
    | ct δ' =>
     obtain ⟨N, n1, n2⟩ := again δ' e4 (.inr ef)
     exact ⟨go, N, n1, n2⟩
    | bk δ' =>
     cases e4
     refine ⟨go, fun _ _ => False, fun _ _ z => z.elim, fun x H' y => ?_⟩
     obtain ⟨G3, g3, dx⟩ := step x H' y
     have I3 := I2.grow g3
     refine hg G3 H' δ2 σ2 x _ δ3 _ I3.rl dx e3 fun σ3 R3 o3 => ?_
     exact hb G3 H0 G3 σ3 H' δ3 _ _ (I3.sub R3 o3).base ef fun σ5 G5 H5 I5 => p σ5 G5 H5 (back g3 I5).1
    | rt d =>
     cases e4
     refine ⟨go, fun _ _ => False, fun _ _ z => z.elim, fun x H' y => ?_⟩
     obtain ⟨G3, g3, dx⟩ := step x H' y
     have I3 := I2.grow g3
     refine hg G3 H' δ2 σ2 x _ δ3 _ I3.rl dx e3 fun σ3 R3 o3 => ?_
     exact hb G3 H0 G3 σ3 H' δ3 _ _ (I3.sub R3 o3).base ef fun v G5 H5 g5 dv => p v G5 H5 ((I2.gr.trans g3).rebase g5) dv
 · have hi' : i = ds.length := by omega
   subst hi'
   rw [List.drop_length] at e2
   cases e2
   exact .inl ⟨ia.2 (Nat.le_refl _), p σ2 G2 H2 I2⟩
def ownAt (i : Nat) (δ : DS) : Option (List W) := match δ[i]? with
 | some (.own ds) => some ds
 | _ => none
theorem ownAt_eq {i : Nat} {δ : DS} {ds : List W} (h : ownAt i δ = some ds) : δ[i]? = some (.own ds) := by
 unfold ownAt at h
 split at h
 · rename_i e; cases h; exact e
 · cases h
theorem Iv.put {G0 H0 G H : Hp} {δ : DS} {σ : St} {i : Nat} {ds es : List W} {p : Addr} {vs : List V} (I : Iv K ρ G0 H0 G H δ σ) (h : δ[i]? = some (.own ds)) (hp : σ[i]? = some (some (.ref p))) (g0 : G p = none) (da : DwAll K ρ G vs es) : Iv K ρ G0 H0 G (upd H p (.lst vs)) (δ.set i (.own es)) σ := by
 have h0 := I.ow i p ds h hp
 have sG : Same G (upd H p (.lst vs)) := fun b o e => by
  rw [zc4 (fun z => by rw [z, g0] at e; cases e)]
  exact I.gr.s _ _ e
 refine ⟨⟨sG, by rw [List.length_set]; exact I.rl.len, fun j s e => ?_, fun j k q ds' es' k1 k2 k3 k4 => ?_⟩, ⟨I.gr.g, fun b o e => ?_, sG, I.gr.n⟩, fun j q ds' k1 k2 => ?_⟩
 · rcases zn0 e with ⟨rfl, rfl, hl⟩ | ⟨ne, e⟩
   · exact ⟨_, hp, p, vs, rfl, g0, zc5, da⟩
   · obtain ⟨o, k1, k2⟩ := I.rl.sl j s e
     refine ⟨o, k1, ?_⟩
     cases s with
     | no => trivial
     | val d => exact k2
     | own es2 =>
      obtain ⟨q, ws, rfl, e2, e3, e4⟩ := k2
      refine ⟨q, ws, rfl, e2, ?_, e4⟩
      rw [zc4]
      · exact e3
      · rintro rfl
        exact ne (I.rl.apart i j q ds es2 h e hp k1)
 · rcases zn0 k1 with ⟨rfl, _, _⟩ | ⟨ne, k1⟩ <;> rcases zn0 k2 with ⟨rfl, _, _⟩ | ⟨ne2, k2⟩
   · rfl
   · exact I.rl.apart _ _ q _ _ h k2 k3 k4
   · exact I.rl.apart _ _ q _ _ k1 h k3 k4
   · exact I.rl.apart _ _ q _ _ k1 k2 k3 k4
 · rw [zc4 (fun z => by rw [z, h0] at e; cases e)]
   exact I.gr.h _ _ e
 · rcases zn0 k1 with ⟨rfl, _, _⟩ | ⟨ne, k1⟩
   · exact I.ow _ q _ h k2
   · exact I.ow j q _ k1 k2
def dsAppend (i : Nat) (f : DS → Option W) : DS → Option Out := fun δ => (ownAt i δ).bind fun ds => (f δ).bind fun d => if ds.length < sizeLine then some (.nx (δ.set i (.own (ds ++ [d])))) else none
theorem zx2 {i : Nat} {t : TE} {f : DS → Option W} (h : DE K ρ t f) : DSt K ρ (tDrop (tBM K "list" yd4 (tVar i) (tCons t tNil))) (dsAppend i f) := fun G0 H0 G σ H δ o D I e p => by
 obtain ⟨ds, eo, e⟩ := Option.bind_eq_some_iff.mp e
 obtain ⟨d, ed, e⟩ := Option.bind_eq_some_iff.mp e
 split at e
 case isFalse => cases e
 rename_i hz
 cases e
 have ho := ownAt_eq eo
 obtain ⟨o, h1, q, vs, rfl, h3, h4, h5⟩ := I.rl.sl i _ ho
 refine ⟨.ref q, h1, .inl ⟨rfl, vs, SqL.of h4⟩, h G σ H δ d _ I.rl ed fun v G1 H1 g1 dv => ⟨q, vs, v, rfl, rfl, g1.h _ _ h4, by rw [h5.length]; exact hz, ?_⟩⟩
 have I1 := I.grow g1
 exact p σ G1 _ (I1.put ho h1 (g1.n q (by rw [h4]; simp) h3) ((h5.same g1.g).app (.cons dv .nil)))
def dsSetI (i : Nat) (fi fv : DS → Option W) : DS → Option Out := fun δ => (fv δ).bind fun d => (ownAt i δ).bind fun ds => (fi δ).bind fun x => match x with
 | .int k => (ixN ds.length k).map fun j => .nx (δ.set i (.own (ds.set j d)))
 | _ => none
end
section
variable {K : PySem.W.Frag} {ρ : List Addr}
def spD (K : PySem.W.Frag) (f : List W → Option W) : Sp := fun vs H Q _ => ∃ ρ G ds d, Same G H ∧ DwAll K ρ G vs ds ∧ f ds = some d ∧ ∀ v G' H', Gr G H G' H' → Dw K ρ G' v d → Q v H'
def dCall (f : List W → Option W) (fa : DS → Option (List W)) : DS → Option W := fun δ => (fa δ).bind f
theorem ze7 {f : List W → Option W} {t : TA} {fa : DS → Option (List W)} {E : XK} (h : DA K ρ t fa) : DE K ρ (tCall (spD K f) [] E t) (dCall f fa) := fun G σ H δ d Q R e q => by
 obtain ⟨ds, ed, e⟩ := Option.bind_eq_some_iff.mp e
 exact h G σ H δ ds _ R ed fun vs G1 H1 g1 da => by
  refine ⟨ρ, G1, ds, d, g1.s, ?_, e, fun v G2 H2 g2 dv => q v G2 H2 (g1.trans g2) dv⟩
  rw [List.append_nil]
  exact da
def startD (n : Nat) (ds : List W) : DS := ds.map .val ++ List.replicate (n - ds.length) .no
def outD : Option Out → Option W
 | some (.rt d) => some d
 | some (.nx _) => some .none
 | _ => none
def bodyD (a n : Nat) (fb : DS → Option Out) : List W → Option W := fun ds => if ds.length = a then outD (fb (startD n ds)) else none
theorem zf5 {a n : Nat} {fb : DS → Option Out} {ds : List W} {d : W} (h : bodyD a n fb ds = some d) : ds.length = a := by
 unfold bodyD at h
 split at h
 · assumption
 · cases h
theorem zk8 {f : List W → Option W} {a : Nat} {vs : List V} {H : Hp} {Q : VK} {E : XK} (hf : ∀ ds d, f ds = some d → ds.length = a) (h : spD K f vs H Q E) : vs.length = a := by
 obtain ⟨ρ, G, ds, d, s, da, e, q⟩ := h
 rw [da.length]
 exact hf ds d e
theorem zs1 {n : Nat} {ds : List W} {i : Nat} {es : List W} : (startD n ds)[i]? ≠ some (.own es) := by
 unfold startD
 intro h
 rcases Nat.lt_or_ge i (ds.map Sl.val).length with hl | hl
 · rw [List.getElem?_append_left hl, List.getElem?_map] at h
   obtain ⟨d, _, e⟩ := Option.map_eq_some_iff.mp h
   cases e
 · rw [List.getElem?_append_right hl, List.getElem?_replicate] at h
   split at h <;> cases h
theorem start_rl {G H : Hp} {N : List Str} {vs : List V} {ds : List W} (s : Same G H) (h : DwAll K ρ G vs ds) : Rl K ρ G H (startD N.length ds) (start N vs) := by
 refine ⟨s, by simp [startD, start, h.length], fun i sl e => ?_, fun i j p ds' es' h1 => absurd h1 zs1⟩
 unfold startD at e
 unfold start
 rcases Nat.lt_or_ge i ds.length with hl | hl
 · rw [List.getElem?_append_left (by simpa using hl), List.getElem?_map] at e
   obtain ⟨d, e1, rfl⟩ := Option.map_eq_some_iff.mp e
   obtain ⟨v, h1, h2⟩ := h.get e1
   refine ⟨some v, ?_, v, rfl, h2⟩
   rw [List.getElem?_append_left (by simp [h.length]; exact hl), List.getElem?_map, h1]
   rfl
 · rw [List.getElem?_append_right (by simpa using hl), List.getElem?_replicate] at e
   split at e
   · cases e
     rename_i hlt
     refine ⟨none, ?_, trivial⟩
     rw [List.getElem?_append_right (by simp [h.length]; exact hl), List.getElem?_replicate, if_pos]
     simp only [List.length_map] at hlt ⊢
     rw [h.length]
     exact hlt
   · cases e
theorem d_fn {t : TS} {fb : DS → Option Out} {N : List Str} {a n : Nat} {vs : List V} {H : Hp} {Q : VK} {E : XK} (hn : N.length = n) (h : ∀ ρ, DSt K ρ t fb) (hsp : spD K (bodyD a n fb) vs H Q E) : t { nx := fun _ H' => Q .non H', rt := Q } (start N vs) H := by
 subst hn
 obtain ⟨ρ, G, ds, d, s, da, e, q⟩ := hsp
 have R := start_rl (N := N) s da
 have I : Iv K ρ G H G H (startD N.length ds) (start N vs) := ⟨R, .refl s, fun i p ds' h1 => absurd h1 zs1⟩
 unfold bodyD at e
 rw [if_pos (zf5 (show bodyD a N.length fb ds = some d from e))] at e
 cases ef : fb (startD N.length ds) with
 | none => rw [ef] at e; cases e
 | some o =>
  rw [ef] at e
  refine h ρ G H G _ H _ o _ I ef ?_
  cases o with
  | nx δ => cases e; exact fun σ' G' H' I' => q _ G' H' I'.gr .non
  | rt d' => cases e; exact fun v G' H' g dv => q v G' H' g dv
  | bk _ => cases e
  | ct _ => cases e
end
end L2
set_option Elab.async false
set_option linter.all false
set_option maxRecDepth 100000
namespace L2
open PySem PySem.Spec PyProof.Rows
def rCatG (K : PySem.W.Frag) : R2 := fun x y H Q => ∃ l b xs zs, x = .ref l ∧ y = .ref b ∧ SqL K H l xs ∧ SqL K H b zs ∧ xs.length + zs.length ≤ sizeLine ∧ ∀ p H', Nw H H' p (.lst (xs ++ zs)) → Q (.ref p) H'
theorem op_catG {X : Cx} : OpR X (binaryOp .Add) (rCatG X.K) := by
 intro pins s σ H x y v u Q I rx ry h
 obtain ⟨l, b, xs, zs, rfl, rfl, hH, hB, hz, q⟩ := h
 cases rx
 cases ry
 obtain ⟨its, r, hl, _⟩ := I.list hH
 obtain ⟨its2, r2, hb, _⟩ := I.list hB
 obtain ⟨⟨cls, dd, data, sl⟩, n, ho, hc, hdd, hd⟩ := hl
 obtain ⟨⟨cls2, dd2, data2, sl2⟩, n2, ho2, hc2, hdd2, hd2⟩ := hb
 simp only at hc hd hc2 hd2
 subst hc hd hc2 hd2
 have e : its.toArray ++ its2.toArray = (its ++ its2).toArray := by simp
 refine concat_meets ⟨_, ho, rfl⟩ ⟨_, ho2, rfl⟩ noFill_list_add seq_list_add PySem.F.slot_list_add PySem.F.entry_list_add (PySem.F.args_list_add_2 _ _) (list_addW l b its.toArray its2.toArray n n2 dd dd2 sl sl2 (by rw [List.size_toArray, List.size_toArray, ← r.length, ← r2.length]; exact hz)) ⟨ho, ho2, ?_⟩
 rw [e]
 exact ⟨.ref _, _, I.lnew (t' := s.toks) (r.append r2) (by rw [List.length_append]; omega), rfl, q _ _ (.of I.fresh)⟩
def rStrAdd : R2 := fun x y H Q => ∃ i j, x = .str i ∧ y = .str j ∧ i.length + j.length ≤ sizeLine ∧ Q (.str (i ++ j)) H
def rAddA (K : PySem.W.Frag) : R2 := fun x y H Q => rI0 (fun i j => .int (i + j)) x y H Q ∨ rStrAdd x y H Q ∨ rCatG K x y H Q ∨ rCatT K x y H Q
theorem zh4 {X : Cx} {K : PySem.W.Frag} (h : X.K = K) : OpR X (binaryOp .Add) (rAddA K) := h ▸ op_add.or (op_add_str.or (op_catG.or op_catT))
section
variable {K : PySem.W.Frag} {ρ : List Addr}
def gAdd : W → W → Option W
 | .int i, .int j => some (.int (i + j))
 | .str i, .str j => if i.length + j.length ≤ sizeLine then some (.str (i ++ j)) else none
 | .list a, .list b => if a.length + b.length ≤ sizeLine then some (.list (a ++ b)) else none
 | .tuple a, .tuple b => if a ≠ [] ∧ a.length + b.length ≤ sizeLine then some (.tuple (a ++ b)) else none
 | _, _ => none
theorem yh5 {G H : Hp} {v : V} {i : Int} (h : Pk K ρ G H v (.int i)) : v = .int i := by
 rcases h with h | ⟨_, _, _, _, e, _⟩
 · exact zp6 h
 · cases e
theorem yg6 {G H : Hp} {v : V} {i : Str} (h : Pk K ρ G H v (.str i)) : v = .str i := by
 rcases h with h | ⟨_, _, _, _, e, _⟩
 · exact yi4 h
 · cases e
theorem zz0 {G H : Hp} {v : V} {ds : List W} (s : Same G H) (h : Pk K ρ G H v (.list ds)) : ∃ p vs, v = .ref p ∧ SqL K H p vs ∧ DwAll K ρ G vs ds := by
 rcases h with h | ⟨p, vs, es, rfl, e, h1, h2⟩
 · cases h with
   | lst sq da => exact ⟨_, _, rfl, s.seq sq, da⟩
 · cases e
   exact ⟨p, vs, rfl, SqL.of h1, h2⟩
theorem yh8 {G : Hp} {v : V} {ds : List W} (h : Dw K ρ G v (.list ds)) : ∃ p vs, v = .ref p ∧ SqL K G p vs ∧ DwAll K ρ G vs ds := by
 cases h with
 | lst sq da => exact ⟨_, _, rfl, sq, da⟩
theorem yf8 {G : Hp} {v : V} {ds : List W} (h : Dw K ρ G v (.tuple ds)) : ∃ p vs, v = .ref p ∧ G p = some (.tup vs) ∧ DwAll K ρ G vs ds := by
 cases h with
 | tup sq da => exact ⟨_, _, rfl, sq, da⟩
theorem yf2 {G H : Hp} {v : V} {ds : List W} (h : Pk K ρ G H v (.tuple ds)) : ∃ p vs, v = .ref p ∧ G p = some (.tup vs) ∧ DwAll K ρ G vs ds := by
 rcases h with h | ⟨_, _, _, _, e, _⟩
 · exact yf8 h
 · cases e
theorem zk6 : DR K ρ (rAddA K) gAdd := fun G H x y d e c Q s hx hy hg q => by
 unfold gAdd at hg
 split at hg
 · cases hg
   cases yh5 hx
   cases zp6 hy
   exact .inl ⟨_, _, rfl, rfl, q _ G H (.refl s) (.int _)⟩
 · split at hg
   · rename_i hz
     cases hg
     cases yg6 hx
     cases yi4 hy
     exact .inr (.inl ⟨_, _, rfl, rfl, hz, q _ G H (.refl s) (.str _)⟩)
   · cases hg
 · split at hg
   · rename_i hz
     cases hg
     obtain ⟨p, vs, rfl, sq, da⟩ := zz0 s hx
     obtain ⟨p2, vs2, rfl, sq2, da2⟩ := yh8 hy
     refine .inr (.inr (.inl ⟨p, p2, vs, vs2, rfl, rfl, sq, s.seq sq2, by rw [da.length, da2.length]; exact hz, fun l H' n => ?_⟩))
     have g := Gr.nw s n
     exact q _ _ H' g (.lst (SqL.of zc5) ((da.same g.g).app (da2.same g.g)))
   · cases hg
 · split at hg
   · rename_i hz
     cases hg
     obtain ⟨p, vs, rfl, sq, da⟩ := yf2 hx
     obtain ⟨p2, vs2, rfl, sq2, da2⟩ := yf8 hy
     refine .inr (.inr (.inr ⟨p, p2, vs, vs2, rfl, rfl, s.tup (SqT.of sq), s.tup (SqT.of sq2), ?_, by rw [da.length, da2.length]; exact hz.2, fun e => ?_, fun e l hl => ?_⟩))
     · rintro rfl
       cases da
       exact hz.1 rfl
     · subst e
       cases da2
       rw [List.append_nil] at q
       exact q _ G H (.refl s) (.tup sq da)
     · have g := Gr.nw s (Nw.of (o := .tup (vs ++ vs2)) hl)
       exact q _ _ _ g (.tup zc5 ((da.same g.g).app (da2.same g.g)))
   · cases hg
 · cases hg
def gAddL : W → W → Option (List W)
 | .list a, .list b => if a.length + b.length ≤ sizeLine then some (a ++ b) else none
 | _, _ => none
def dAddL (fa fb : DS → Option W) : DS → Option (List W) := fun δ => (fa δ).bind fun x => (fb δ).bind fun y => gAddL x y
def gI (f : Int → Int → Int) : W → W → Option W
 | .int i, .int j => some (.int (f i j))
 | _, _ => none
def gIc (C : Int → Int → Bool) (f : Int → Int → Int) : W → W → Option W
 | .int i, .int j => if C i j = true then some (.int (f i j)) else none
 | _, _ => none
theorem dr_i0 {f : Int → Int → Int} : DR K ρ (rI0 fun i j => .int (f i j)) (gI f) := fun G H x y d e c Q s hx hy hg q => by
 unfold gI at hg
 split at hg
 · cases hg
   cases yh5 hx
   cases zp6 hy
   exact ⟨_, _, rfl, rfl, q _ G H (.refl s) (.int _)⟩
 · cases hg
theorem dr_ic {C : Int → Int → Prop} {Cb : Int → Int → Bool} {f : Int → Int → Int} (hC : ∀ i j, Cb i j = true → C i j) : DR K ρ (rI C fun i j => .int (f i j)) (gIc Cb f) := fun G H x y d e c Q s hx hy hg q => by
 unfold gIc at hg
 split at hg
 · split at hg
   · rename_i hc
     cases hg
     cases yh5 hx
     cases zp6 hy
     exact ⟨_, _, rfl, rfl, hC _ _ hc, q _ G H (.refl s) (.int _)⟩
   · cases hg
 · cases hg
def gSub' : W → W → Option W := gI fun i j => i - j
theorem yg5 : DR K ρ (rI0 fun i j => .int (i - j)) gSub' := dr_i0
theorem yg7 : 2 ^ 200 < 2 ^ 512 := Nat.pow_lt_pow_right (by decide) (by decide)
def okMul (i j : Int) : Bool := decide (i.natAbs < 2 ^ 64) || decide (j.natAbs < 2 ^ 64) || (decide (i.natAbs < 2 ^ 200) && decide (j.natAbs < 2 ^ 200))
def CMulA (i j : Int) : Prop := CMul i j ∨ CMulM i j
theorem yb4 {X : Cx} : OpR X (binaryOp .Mult) (rI CMulA fun i j => .int (i * j)) := fun pins s σ H x y v u Q I rx ry h => by
 obtain ⟨i, j, e1, e2, hc, q⟩ := h
 rcases hc with hc | hc
 · exact op_mul pins s σ H x y v u Q I rx ry ⟨i, j, e1, e2, hc, q⟩
 · exact op_mulM pins s σ H x y v u Q I rx ry ⟨i, j, e1, e2, hc, q⟩
def okDiv (i j : Int) : Bool := decide (j ≠ 0) && decide (j.natAbs < 2 ^ 200)
def okMod (i j : Int) : Bool := decide (j ≠ 0)
def gMul : W → W → Option W := gIc okMul fun i j => i * j
def gDiv : W → W → Option W := gIc okDiv fun i j => i.fdiv j
def gMod : W → W → Option W := gIc okMod fun i j => i.fmod j
theorem yf3 : DR K ρ (rI CMulA fun i j => .int (i * j)) gMul := dr_ic fun i j h => by
 simp only [okMul, Bool.and_eq_true, Bool.or_eq_true, decide_eq_true_eq] at h
 rcases h with (h | h) | h
 · exact .inl (.inl ⟨by omega, by omega⟩)
 · exact .inl (.inr ⟨by omega, by omega⟩)
 · exact .inr ⟨Nat.lt_trans h.1 yg7, Nat.lt_trans h.2 yg7⟩
theorem zo8 : DR K ρ (rI CDivM fun i j => .int (i.fdiv j)) gDiv := dr_ic fun i j h => by
 simp only [okDiv, Bool.and_eq_true, decide_eq_true_eq] at h
 exact ⟨h.1, Nat.lt_trans h.2 yg7⟩
theorem zl6 : DR K ρ (rI (fun _ j => j ≠ 0) fun i j => .int (i.fmod j)) gMod := dr_ic fun i j h => by simpa [okMod] using h
def gNeg : W → Option W
 | .int i => some (.int (-i))
 | _ => none
def dUn (g : W → Option W) (f : DS → Option W) : DS → Option W := fun δ => (f δ).bind g
theorem de_neg {t : TE} {f : DS → Option W} (h : DE K ρ t f) : DE K ρ (tUn (rU fun i => .int (-i)) t) (dUn gNeg f) := fun G σ H δ d Q R e q => by
 obtain ⟨x, ex, e⟩ := Option.bind_eq_some_iff.mp e
 refine h G σ H δ x _ R ex fun v G1 H1 g1 dv => ?_
 unfold gNeg at e
 split at e
 · cases e
   cases zp6 dv
   exact ⟨_, rfl, q _ G1 H1 g1 (.int _)⟩
 · cases e
def cI (p : Int → Int → Bool) : W → W → Option Bool
 | .int i, .int j => some (p i j)
 | _, _ => none
theorem db_i {p : Int → Int → Bool} : DB K ρ (rI0 fun i j => .bl (p i j)) (cI p) := fun H x y d e b Q hx hy hg q => by
 unfold cI at hg
 split at hg
 · cases hg
   cases zp6 hx
   cases zp6 hy
   exact ⟨_, _, rfl, rfl, q⟩
 · cases hg
def cLt : W → W → Option Bool := cI fun i j => decide (i < j)
def cLe : W → W → Option Bool := cI fun i j => decide (i ≤ j)
def cGt : W → W → Option Bool := cI fun i j => decide (j < i)
def cGe : W → W → Option Bool := cI fun i j => decide (j ≤ i)
theorem db_lt : DB K ρ (rI0 fun i j => .bl (decide (i < j))) cLt := db_i
theorem db_gt : DB K ρ (rI0 fun i j => .bl (decide (j < i))) cGt := db_i
theorem db_ge : DB K ρ (rI0 fun i j => .bl (decide (j ≤ i))) cGe := db_i
def isN : W → Bool
 | .none => true
 | _ => false
def cIsN : W → W → Option Bool
 | d, .none => some (isN d)
 | _, _ => none
theorem non_iff {H : Hp} {x : V} {d : W} (h : Dw K ρ H x d) : decide (x = .non) = isN d := by
 cases h <;> simp [isN]
theorem db_isN : DB K ρ (fun x y H Q => y = .non ∧ Q (.bl (decide (x = .non))) H) cIsN := fun H x y d e b Q hx hy hg q => by
 unfold cIsN at hg
 split at hg
 · cases hg
   cases yj0 hy
   exact ⟨rfl, by rw [non_iff hx]; exact q⟩
 · cases hg
def cNotN : W → W → Option Bool
 | d, .none => some (!(isN d))
 | _, _ => none
theorem db_notN : DB K ρ (fun x y H Q => y = .non ∧ Q (.bl (!decide (x = .non))) H) cNotN := fun H x y d e b Q hx hy hg q => by
 unfold cNotN at hg
 split at hg
 · cases hg
   cases yj0 hy
   exact ⟨rfl, by rw [non_iff hx]; exact q⟩
 · cases hg
def scN : W → Option Bool
 | .none => some true
 | .int _ => some false
 | .bool _ => some false
 | .str _ => some false
 | _ => none
def scI (i : Int) : W → Option Bool
 | .none => some false
 | .int j => some (decide (i = j))
 | .str _ => some false
 | _ => none
def scB (i : Bool) : W → Option Bool
 | .none => some false
 | .bool j => some (decide (i = j))
 | .str _ => some false
 | _ => none
def scS (i : Str) : W → Option Bool
 | .none => some false
 | .int _ => some false
 | .bool _ => some false
 | .str j => some (decide (i = j))
 | _ => none
def scD : W → W → Option Bool
 | .none, e => scN e
 | .int i, e => scI i e
 | .bool i, e => scB i e
 | .str i, e => scS i e
 | _, _ => none
theorem yi6 {H : Hp} {x y : V} {d e : W} {b : Bool} (hx : Dw K ρ H x d) (hy : Dw K ρ H y e) (h : scD d e = some b) : scal x y = true ∧ decide (x = y) = b := by
 cases hx with
 | non => cases hy <;> first | (cases h; exact ⟨rfl, by simp⟩) | cases h
 | int i => cases hy <;> first | (cases h; exact ⟨rfl, by simp⟩) | cases h
 | bl i => cases hy <;> first | (cases h; exact ⟨rfl, by simp⟩) | cases h
 | str i => cases hy <;> first | (cases h; exact ⟨rfl, by simp⟩) | cases h
 | _ => cases h
def cEq (d e : W) : Option Bool := match scD d e with
 | some b => some b
 | none => d.py.bind fun a => e.py.bind fun b => if (a.canLay0 && b.canLay0 && decide (a.depth ≤ 64)) = true then some (PyData.eqv a b) else none
def rEqA (K : PySem.W.Frag) : R2 := fun x y H Q => rEq x y H Q ∨ rEqD K false x y H Q
def rNeA (K : PySem.W.Frag) : R2 := fun x y H Q => rNe x y H Q ∨ rEqD K true x y H Q
theorem zg9 {X : Cx} {K : PySem.W.Frag} (h : X.K = K) (hu : X.A.units + 64 < cLine) : OpR X (compareOp .Eq) (rEqA K) := h ▸ op_eq.or (op_eqD hu)
theorem zx1 {X : Cx} {K : PySem.W.Frag} (h : X.K = K) (hu : X.A.units + 64 < cLine) : OpR X (compareOp .NotEq) (rNeA K) := h ▸ op_ne.or (op_neD hu)
theorem db_eq : DB K ρ (rEqA K) cEq := fun H x y d e b Q hx hy hg q => by
 unfold cEq at hg
 split at hg
 · rename_i b' hb
   cases hg
   obtain ⟨h1, h2⟩ := yi6 hx hy hb
   exact .inl ⟨h1, by rw [h2]; exact q⟩
 · obtain ⟨a, ea, hg⟩ := Option.bind_eq_some_iff.mp hg
   obtain ⟨b, eb, hg⟩ := Option.bind_eq_some_iff.mp hg
   split at hg
   · rename_i hc
     cases hg
     simp only [Bool.and_eq_true, decide_eq_true_eq] at hc
     exact .inr ⟨a, b, hx.dp ea, hy.dp eb, hc.1.1, hc.1.2, hc.2, q⟩
   · cases hg
def cNe (d e : W) : Option Bool := (cEq d e).map (!·)
theorem db_ne : DB K ρ (rNeA K) cNe := fun H x y d e b Q hx hy hg q => by
 obtain ⟨c, hg', rfl⟩ := Option.map_eq_some_iff.mp hg
 unfold cEq at hg'
 split at hg'
 · rename_i b' hb
   cases hg'
   obtain ⟨h1, h2⟩ := yi6 hx hy hb
   exact .inl ⟨h1, by rw [h2]; exact q⟩
 · obtain ⟨a, ea, hg'⟩ := Option.bind_eq_some_iff.mp hg'
   obtain ⟨b, eb, hg'⟩ := Option.bind_eq_some_iff.mp hg'
   split at hg'
   · rename_i hc
     cases hg'
     simp only [Bool.and_eq_true, decide_eq_true_eq] at hc
     exact .inr ⟨a, b, hx.dp ea, hy.dp eb, hc.1.1, hc.1.2, hc.2, q⟩
   · cases hg'
def gIx : W → W → Option W
 | .list ds, .int i => atI ds i
 | .tuple ds, .int i => atI ds i
 | .str z, .int i => if z.length ≤ sizeLine then (atI z.cps.toList i).map fun c => .str ⟨#[c]⟩ else none
 | _, _ => none
theorem DwAll.at {G : Hp} {vs : List V} {ds : List W} {i : Int} {d : W} (h : DwAll K ρ G vs ds) (e : atI ds i = some d) : ∃ v, atI vs i = some v ∧ Dw K ρ G v d := by
 unfold atI at e ⊢
 rw [h.length]
 obtain ⟨j, h1, h2⟩ := Option.bind_eq_some_iff.mp e
 obtain ⟨v, h3, h4⟩ := h.get h2
 exact ⟨v, Option.bind_eq_some_iff.mpr ⟨j, h1, h3⟩, h4⟩
theorem dr_ix : DR K ρ (rIx K) gIx := fun G H x y d e c Q s hx hy hg q => by
 unfold gIx at hg
 split at hg
 · cases zp6 hy
   obtain ⟨p, vs, rfl, sq, da⟩ := zz0 s hx
   obtain ⟨v, h1, h2⟩ := da.at hg
   exact .inl ⟨p, vs, _, v, rfl, rfl, sq, h1, q v G H (.refl s) h2⟩
 · cases zp6 hy
   obtain ⟨p, vs, rfl, sq, da⟩ := yf2 hx
   obtain ⟨v, h1, h2⟩ := da.at hg
   exact .inr (.inl ⟨p, vs, _, v, rfl, rfl, s.tup (SqT.of sq), h1, q v G H (.refl s) h2⟩)
 · split at hg
   · rename_i hz
     obtain ⟨c', h1, rfl⟩ := Option.map_eq_some_iff.mp hg
     cases zp6 hy
     cases yg6 hx
     exact .inr (.inr ⟨_, _, c', rfl, rfl, hz, h1, q _ G H (.refl s) (.str _)⟩)
   · cases hg
 · cases hg
def cutW (xs : List W) (lo hi : Option Int) : List W := (xs.drop (HT.sIx xs.length 0 lo)).take (HT.sIx xs.length xs.length hi - HT.sIx xs.length 0 lo)
theorem DwAll.cut {G : Hp} {vs : List V} {ds : List W} (h : DwAll K ρ G vs ds) (lo hi : Option Int) : DwAll K ρ G (cutV vs lo hi) (cutW ds lo hi) := by
 unfold cutV cutW
 rw [h.length]
 exact (h.drop _).take _
def DOp (K : PySem.W.Frag) (ρ : List Addr) (t : TO) (f : DS → Option (Option Int)) : Prop :=
 ∀ (G : Hp) (σ : St) (H : Hp) (δ : DS) (x : Option Int) (Q : Option Int → Hp → Prop), Rl K ρ G H δ σ → f δ = some x → (∀ G' H', Gr G H G' H' → Q x H') → t σ H Q
def dNoPart : DS → Option (Option Int) := fun _ => some none
def asI : W → Option Int
 | .int i => some i
 | _ => none
theorem asI_eq {d : W} {i : Int} (h : asI d = some i) : d = .int i := by
 cases d <;> first | (cases h; rfl) | cases h
def dPart (f : DS → Option W) : DS → Option (Option Int) := fun δ => (f δ).bind fun d => (asI d).map some
theorem zq4 : DOp K ρ tNoPart dNoPart := fun G σ H δ x Q R e q => by
 cases e
 exact q G H (.refl R.sub)
theorem zl2 {t : TE} {f : DS → Option W} (h : DE K ρ t f) : DOp K ρ (tPart t) (dPart f) := fun G σ H δ x Q R e q => by
 obtain ⟨d, ed, e⟩ := Option.bind_eq_some_iff.mp e
 obtain ⟨i, ei, rfl⟩ := Option.map_eq_some_iff.mp e
 cases asI_eq ei
 exact h G σ H δ _ _ R ed fun v G1 H1 g1 dv => by
  cases zp6 dv
  exact ⟨i, rfl, q G1 H1 g1⟩
def listD : W → Option (List W)
 | .list ds => some ds
 | _ => none
theorem zw3 {d : W} {ds : List W} (h : listD d = some ds) : d = .list ds := by
 cases d <;> first | (cases h; rfl) | cases h
def dSlL (f : DS → Option W) (lo hi : DS → Option (Option Int)) : DS → Option (List W) := fun δ => (f δ).bind fun d => (listD d).bind fun ds => (lo δ).bind fun l => (hi δ).map fun u => cutW ds l u
theorem do_slL {t : TE} {tl th : TO} {f : DS → Option W} {lo hi : DS → Option (Option Int)} (h : DK K ρ t f) (hl : DOp K ρ tl lo) (hh : DOp K ρ th hi) : DO K ρ (tSl (rSlLN K) t tl th) (dSlL f lo hi) := fun G σ H δ ds Q R e q => by
 obtain ⟨d, ed, e⟩ := Option.bind_eq_some_iff.mp e
 obtain ⟨es, ee, e⟩ := Option.bind_eq_some_iff.mp e
 obtain ⟨l, el, e⟩ := Option.bind_eq_some_iff.mp e
 obtain ⟨u, eu, rfl⟩ := Option.map_eq_some_iff.mp e
 cases zw3 ee
 refine h G σ H δ _ _ R ed fun v G1 H1 g1 dv => hl G1 σ H1 δ l _ (R.grow g1) el fun G2 H2 g2 => hh G2 σ H2 δ u _ ((R.grow g1).grow g2) eu fun G3 H3 g3 => ?_
 have g23 := g2.trans g3
 obtain ⟨p, vs, rfl, sq, da⟩ := zz0 g23.s (dv.grow g23)
 refine ⟨p, vs, rfl, sq, fun r H' n => ?_⟩
 have g := g1.trans g23
 exact q r _ G3 H' (g.trans (.nwO g.s n)) (zn9 g.h n.2.1) (zn9 g.s n.2.1) n.2.2 (da.cut l u)
def DCk (K : PySem.W.Frag) (ρ : List Addr) (r : List V → Hp → VK → Prop) (g : W → Option W) : Prop :=
 ∀ (G H : Hp) (x : V) (d c : W) (Q : VK), Same G H → Pk K ρ G H x d → g d = some c → (∀ v G' H', Gr G H G' H' → Dw K ρ G' v c → Q v H') → r [x] H Q
def dC1 (g : W → Option W) (f : DS → Option W) : DS → Option W := fun δ => (f δ).bind g
theorem de_c1 {r : List V → Hp → VK → Prop} {g : W → Option W} {t : TE} {f : DS → Option W} (hr : DCk K ρ r g) (h : DK K ρ t f) : DE K ρ (tCB r (tCons t tNil)) (dC1 g f) := fun G σ H δ d Q R e q => by
 obtain ⟨x, ex, e⟩ := Option.bind_eq_some_iff.mp e
 exact h G σ H δ x _ R ex fun v G1 H1 g1 dv => hr G1 H1 v x d Q g1.s dv e fun u G2 H2 g2 du => q u G2 H2 (g1.trans g2) du
def rLenA (K : PySem.W.Frag) : List V → Hp → VK → Prop := fun xs H Q => rLen K xs H Q ∨ rLenS xs H Q
theorem zl5 {X : Cx} {K : PySem.W.Frag} (h : X.K = K) : CallR X (.builtin "len") (rLenA K) := (call_len_seqK h).or call_len_strK
def gLen : W → Option W
 | .list ds => some (.int ds.length)
 | .tuple ds => some (.int ds.length)
 | .str z => if z.length ≤ sizeLine then some (.int z.length) else none
 | _ => none
theorem zt2 : DCk K ρ (rLenA K) gLen := fun G H x d c Q s hx hg q => by
 unfold gLen at hg
 split at hg
 · cases hg
   obtain ⟨p, vs, rfl, sq, da⟩ := zz0 s hx
   exact .inl ⟨p, vs, rfl, .inl sq, by rw [da.length]; exact q _ G H (.refl s) (.int _)⟩
 · cases hg
   obtain ⟨p, vs, rfl, sq, da⟩ := yf2 hx
   exact .inl ⟨p, vs, rfl, .inr (s.tup (SqT.of sq)), by rw [da.length]; exact q _ G H (.refl s) (.int _)⟩
 · split at hg
   · rename_i hz
     cases hg
     cases yg6 hx
     exact .inr ⟨_, rfl, hz, q _ G H (.refl s) (.int _)⟩
   · cases hg
 · cases hg
def dListOf (f : DS → Option W) : DS → Option (List W) := fun δ => (f δ).bind seqD
theorem do_list {t : TE} {f : DS → Option W} (h : DK K ρ t f) : DO K ρ (tCB (rListOf K) (tCons t tNil)) (dListOf f) := fun G σ H δ ds Q R e q => by
 obtain ⟨x, ex, e⟩ := Option.bind_eq_some_iff.mp e
 refine h G σ H δ x _ R ex fun v G1 H1 g1 dv => ?_
 have fin : ∀ (vs : List V) (l : Addr), DwAll K ρ G1 vs ds → H1 l = none → Q (.ref l) (upd H1 l (.lst vs)) := fun vs l da hl => by
  have n : Nw H1 (upd H1 l (.lst vs)) l (.lst vs) := .of hl
  exact q l vs G1 _ (g1.trans (.nwO g1.s n)) (zn9 g1.h hl) (zn9 g1.s hl) zc5 da
 unfold seqD at e
 split at e
 · cases e
   obtain ⟨p, vs, rfl, sq, da⟩ := zz0 g1.s dv
   exact ⟨p, vs, rfl, .inl sq, fun l hl => fin vs l da hl⟩
 · cases e
   obtain ⟨p, vs, rfl, sq, da⟩ := yf2 dv
   exact ⟨p, vs, rfl, .inr (g1.s.tup (SqT.of sq)), fun l hl => fin vs l da hl⟩
 · cases e
def gIsi (T : String) : W → Option W
 | .int i => (isiV (.int i) T).map .bool
 | .bool i => (isiV (.bl i) T).map .bool
 | .str i => (isiV (.str i) T).map .bool
 | _ => none
theorem de_isi {T : String} {t : TE} {f : DS → Option W} (h : DE K ρ t f) : DE K ρ (tCB rIsi (tCons t (tCons (tC (.ty T)) tNil))) (dC1 (gIsi T) f) := fun G σ H δ d Q R e q => by
 obtain ⟨x, ex, e⟩ := Option.bind_eq_some_iff.mp e
 refine h G σ H δ x _ R ex fun v G1 H1 g1 dv => ?_
 unfold gIsi at e
 split at e
 all_goals first
  | cases e
  | (obtain ⟨k, ek, rfl⟩ := Option.map_eq_some_iff.mp e
     cases dv
     exact ⟨_, T, k, rfl, ek, q _ G1 H1 g1 (.bl k)⟩)
end
end L2
set_option Elab.async false
set_option linter.all false
set_option maxRecDepth 100000
namespace L2
open PySem PySem.Spec PyProof.Rows
section
variable {X : Cx} {tg : Expr}
end
section
variable {K : PySem.W.Frag} {ρ : List Addr}
end
section
variable {X : Cx}
end
section
variable {K : PySem.W.Frag} {ρ : List Addr}
end
theorem gAdd_i (i j : Int) : gAdd (.int i) (.int j) = some (.int (i + j)) := rfl
theorem yg1 {a b : List W} (h : a.length + b.length ≤ sizeLine) : gAdd (.list a) (.list b) = some (.list (a ++ b)) := by simp only [gAdd, if_pos h]
theorem yh9 {a b : Str} (h : a.length + b.length ≤ sizeLine) : gAdd (.str a) (.str b) = some (.str (a ++ b)) := by simp only [gAdd, if_pos h]
theorem gSub_i (i j : Int) : gSub' (.int i) (.int j) = some (.int (i - j)) := rfl
theorem yg0 {i j : Int} (h : okMul i j = true) : gMul (.int i) (.int j) = some (.int (i * j)) := by simp only [gMul, gIc, if_pos h]
theorem gDiv_i {i j : Int} (h : okDiv i j = true) : gDiv (.int i) (.int j) = some (.int (i.fdiv j)) := by simp only [gDiv, gIc, if_pos h]
theorem yi7 {i j : Int} (h : okMod i j = true) : gMod (.int i) (.int j) = some (.int (i.fmod j)) := by simp only [gMod, gIc, if_pos h]
theorem gNeg_i (i : Int) : gNeg (.int i) = some (.int (-i)) := rfl
theorem ye0 {i j : Int} (h1 : -(2 ^ 64) < i) (h2 : i < 2 ^ 64) : okMul i j = true := by
 simp only [okMul, Bool.and_eq_true, Bool.or_eq_true, decide_eq_true_eq]
 exact .inl (.inl (by omega))
theorem okDiv_of {i j : Int} (h1 : 0 < j) (h2 : j < 2 ^ 64) : okDiv i j = true := by
 have e : (2 : Nat) ^ 64 < 2 ^ 200 := Nat.pow_lt_pow_right (by decide) (by decide)
 simp only [okDiv, Bool.and_eq_true, decide_eq_true_eq]
 exact ⟨by omega, Nat.lt_trans (by omega) e⟩
theorem okMod_of {i j : Int} (h : j ≠ 0) : okMod i j = true := by simp [okMod, h]
theorem gDiv_n (i : Int) {j : Int} (h1 : 0 < j) (h2 : j < 2 ^ 64) : gDiv (.int i) (.int j) = some (.int (i.fdiv j)) := gDiv_i (okDiv_of h1 h2)
theorem gMod_n (i : Int) {j : Int} (h1 : j ≠ 0) : gMod (.int i) (.int j) = some (.int (i.fmod j)) := yi7 (okMod_of h1)
theorem asB_b (b : Bool) : asB (.bool b) = some b := rfl
theorem asI_i (i : Int) : asI (.int i) = some i := rfl
theorem ya2 (ds : List W) : listD (.list ds) = some ds := rfl
theorem seqD_l (ds : List W) : seqD (.list ds) = some ds := rfl
theorem seqD_t (ds : List W) : seqD (.tuple ds) = some ds := rfl
theorem gLen_l (ds : List W) : gLen (.list ds) = some (.int ds.length) := rfl
theorem gLen_t (ds : List W) : gLen (.tuple ds) = some (.int ds.length) := rfl
theorem gIx_l (ds : List W) (i : Int) : gIx (.list ds) (.int i) = atI ds i := rfl
theorem gIx_t (ds : List W) (i : Int) : gIx (.tuple ds) (.int i) = atI ds i := rfl
theorem cEq_i (i j : Int) : cEq (.int i) (.int j) = some (decide (i = j)) := rfl
theorem cEq_s (i j : Str) : cEq (.str i) (.str j) = some (decide (i = j)) := rfl
theorem cEq_b (i j : Bool) : cEq (.bool i) (.bool j) = some (decide (i = j)) := rfl
theorem cNe_i (i j : Int) : cNe (.int i) (.int j) = some (!decide (i = j)) := rfl
theorem cNe_s (i j : Str) : cNe (.str i) (.str j) = some (!decide (i = j)) := rfl
theorem cLt_i (i j : Int) : cLt (.int i) (.int j) = some (decide (i < j)) := rfl
theorem cLe_i (i j : Int) : cLe (.int i) (.int j) = some (decide (i ≤ j)) := rfl
theorem cGt_i (i j : Int) : cGt (.int i) (.int j) = some (decide (j < i)) := rfl
theorem cGe_i (i j : Int) : cGe (.int i) (.int j) = some (decide (j ≤ i)) := rfl
theorem cNotN_i (i : Int) : cNotN (.int i) .none = some true := rfl
theorem cNotN_n : cNotN .none .none = some false := rfl
theorem cNotN_s (i : Str) : cNotN (.str i) .none = some true := rfl
theorem cNotN_l (i : List W) : cNotN (.list i) .none = some true := rfl
theorem cNotN_t (i : List W) : cNotN (.tuple i) .none = some true := rfl
theorem cIsN_i (i : Int) : cIsN (.int i) .none = some false := rfl
theorem cIsN_n : cIsN .none .none = some true := rfl
theorem cIsN_s (i : Str) : cIsN (.str i) .none = some false := rfl
theorem cIsN_l (i : List W) : cIsN (.list i) .none = some false := rfl
theorem cIsN_t (i : List W) : cIsN (.tuple i) .none = some false := rfl
theorem isi_int (i : Int) : gIsi "int" (.int i) = some (.bool true) := rfl
theorem isi_bool (i : Int) : gIsi "bool" (.int i) = some (.bool false) := rfl
theorem isi_str (i : Str) : gIsi "str" (.str i) = some (.bool true) := rfl
theorem zb9 {f g : DS → Option Out} {δ δ1 : DS} {o : Option Out} (h1 : f δ = some (.nx δ1)) (h2 : g δ1 = o) : dsSeq f g δ = o := by
 unfold dsSeq
 rw [h1]
 exact h2
theorem zj9 {a n : Nat} {fb : DS → Option Out} {ds : List W} {d : W} (hl : ds.length = a) (h : fb (startD n ds) = some (.rt d)) : bodyD a n fb ds = some d := by
 unfold bodyD
 rw [if_pos hl, h]
 rfl
theorem zs8 {fi : DS → Option (List W)} {h : W → DS → Option DS} {fb : DS → Option Out} {δ : DS} {ds : List W} {o : Option Out} (h1 : fi δ = some ds) (h2 : zg4 h fb ds δ = o) : dsFor fi h fb δ = o := by
 unfold dsFor
 rw [h1]
 exact h2
theorem zi9 {f : DS → Option W} {h : W → DS → Option DS} {δ δ' : DS} {d : W} (h1 : f δ = some d) (h2 : h d δ = some δ') : dsAsg f h δ = some (.nx δ') := by
 unfold dsAsg
 rw [h1]
 show (h d δ).map Out.nx = _
 rw [h2]
 rfl
theorem zs9 {f : DS → Option W} {δ : DS} {d : W} (h1 : f δ = some d) : dsRet f δ = some (.rt d) := by
 unfold dsRet
 rw [h1]
 rfl
theorem zg8 {c : DS → Option Bool} {f g : DS → Option Out} {δ : DS} {b : Bool} {o : Option Out} (h1 : c δ = some b) (h2 : (if b = true then f δ else g δ) = o) : dsIf c f g δ = o := by
 unfold dsIf
 rw [h1]
 exact h2
theorem rng1_at {n : Nat} (hn : n ≤ 16777216) : rng1 (n : Int) = some (rngD 0 n) := by
 unfold rng1
 rw [if_pos (rngOk_nat hn), Int.toNat_natCast]
theorem zw0 {f : DS → Option (List W)} {δ : DS} {n : Nat} (h : f δ = some [.int n]) (hn : n ≤ 16777216) : dRng1 f δ = some (rngD 0 n) := by
 unfold dRng1
 rw [h, Option.bind_some]
 exact rng1_at hn
theorem spD_no {K : PySem.W.Frag} {g : List W → Option W} {vs : List V} {H : Hp} {Q : VK} {E : XK} (hg : ∀ ds, g ds = none) (h : spD K g vs H Q E) : False := by
 obtain ⟨ρ, G, ds, d, _, _, e, _⟩ := h
 rw [hg] at e
 cases e
theorem FnOk.no {P : Program} {w : World} {K : PySem.W.Frag} {mg : Str → Option Value} {base : Heap} {CX : CXT} {k : Nat} {f : Addr} {fd : FuncData} {ps : List Str} {g : List W → Option W} (hg : ∀ ds, g ds = none) : FnOk P w K mg base CX k f fd ps (spD K g) :=
 ⟨fun _ _ _ _ h => (spD_no hg h).elim, fun _ _ _ _ _ _ _ _ _ _ _ _ _ h => (spD_no hg h).elim⟩
end L2
set_option Elab.async false
set_option linter.all false
set_option maxRecDepth 100000
namespace L2
open PySem PySem.Spec PyProof.Rows
inductive Ob where
 | lst (ds : List W)
 | dK (kvs : List (Key × W))
 | dT (kvs : List (List Key × W))
 | dN (kvs : List (List Key × W))
 | ins (c : Str) (fs : List (Str × W))
abbrev Sto := List Ob
inductive KvR (K : PySem.W.Frag) (ρ : List Addr) (G : Hp) {κ : Type} : List (κ × W) → List (κ × V) → Prop
 | nil : KvR K ρ G [] []
 | cons {k : κ} {d : W} {v : V} {l : List (κ × W)} {m : List (κ × V)} : Dw K ρ G v d → KvR K ρ G l m → KvR K ρ G ((k, d) :: l) ((k, v) :: m)
def ObR (K : PySem.W.Frag) (ρ : List Addr) (cl : Str → Addr) (G H : Hp) (a : Addr) : Ob → Prop
 | .lst ds => ∃ vs, H a = some (.lst vs) ∧ DwAll K ρ G vs ds
 | .dK kvs => ∃ ws, H a = some (.dK ws) ∧ KvR K ρ G kvs ws
 | .dT kvs => ∃ ws, H a = some (.dT ws) ∧ KvR K ρ G kvs ws
 | .dN kvs => ∃ ws, H a = some (.dN ws) ∧ KvR K ρ G kvs ws
 | .ins c fs => ∃ dx ws, H a = some (.ins (cl c) dx ws) ∧ G dx = none ∧ H dx = some (.own a) ∧ KvR K ρ G fs ws
mutual
theorem Dw.ext {K : PySem.W.Frag} {ρ ρ' : List Addr} {G : Hp} (h : ρ <+: ρ') : ∀ {v : V} {d : W}, Dw K ρ G v d → Dw K ρ' G v d
 | _, _, .non => .non
 | _, _, .bl b => .bl b
 | _, _, .int i => .int i
 | _, _, .str x => .str x
 | _, _, .lst q a => .lst q (DwAll.ext h a)
 | _, _, .tup q a => .tup q (DwAll.ext h a)
 | _, _, .ref e => .ref (by
  obtain ⟨t, rfl⟩ := h
  rw [List.getElem?_append_left (List.getElem?_eq_some_iff.mp e).1]
  exact e)
theorem DwAll.ext {K : PySem.W.Frag} {ρ ρ' : List Addr} {G : Hp} (h : ρ <+: ρ') : ∀ {vs : List V} {ds : List W}, DwAll K ρ G vs ds → DwAll K ρ' G vs ds
 | _, _, .nil => .nil
 | _, _, .cons a b => .cons (Dw.ext h a) (DwAll.ext h b)
end
theorem KvR.ext {K : PySem.W.Frag} {ρ ρ' : List Addr} {G G' : Hp} {κ : Type} (h : ρ <+: ρ') (g : Same G G') : ∀ {l : List (κ × W)} {m : List (κ × V)}, KvR K ρ G l m → KvR K ρ' G' l m
 | _, _, .nil => .nil
 | _, _, .cons a b => .cons ((a.ext h).same g) (KvR.ext h g b)
theorem KvR.lookup {K : PySem.W.Frag} {ρ : List Addr} {G : Hp} {κ : Type} [BEq κ] {k : κ} : ∀ {l : List (κ × W)} {m : List (κ × V)} {d : W}, KvR K ρ G l m → l.lookup k = some d → ∃ v, m.lookup k = some v ∧ Dw K ρ G v d
 | _, _, _, .cons (k := j) (l := l) (m := m) a b, e => by
  simp only [List.lookup] at e ⊢
  split at e
  · cases e; exact ⟨_, rfl, a⟩
  · exact KvR.lookup b e
theorem KvR.lookup_none {K : PySem.W.Frag} {ρ : List Addr} {G : Hp} {κ : Type} [BEq κ] {k : κ} : ∀ {l : List (κ × W)} {m : List (κ × V)}, KvR K ρ G l m → l.lookup k = none → m.lookup k = none
 | _, _, .nil, _ => rfl
 | _, _, .cons (k := j) (l := l) (m := m) a b, e => by
  simp only [List.lookup] at e ⊢
  split at e
  · cases e
  · exact KvR.lookup_none b e
theorem KvR.length {K : PySem.W.Frag} {ρ : List Addr} {G : Hp} {κ : Type} : ∀ {l : List (κ × W)} {m : List (κ × V)}, KvR K ρ G l m → l.length = m.length
 | _, _, .nil => rfl
 | _, _, .cons a b => by rw [List.length_cons, List.length_cons, KvR.length b]
def putW (f : Str) (v : W) : List (Str × W) → List (Str × W)
 | [] => [(f, v)]
 | (g, x) :: r => if g = f then (g, v) :: r else (g, x) :: putW f v r
theorem KvR.putF {K : PySem.W.Frag} {ρ : List Addr} {G : Hp} {f : Str} {v : V} {d : W} (h : Dw K ρ G v d) : ∀ {l : List (Str × W)} {m : List (Str × V)}, KvR K ρ G l m → KvR K ρ G (putW f d l) (putF f v m)
 | _, _, .nil => .cons h .nil
 | _, _, .cons (k := j) a b => by
  unfold putW L2.putF
  split
  · exact .cons h b
  · exact .cons a (KvR.putF h b)
structure SR (K : PySem.W.Frag) (ρ : List Addr) (cl : Str → Addr) (G H : Hp) (S : Sto) : Prop where
 len : ρ.length = S.length
 nd : ρ.Nodup
 ob : ∀ (n : Nat) o, S[n]? = some o → ∃ a, ρ[n]? = some a ∧ G a = none ∧ ObR K ρ cl G H a o
structure GS (ρ : List Addr) (G H : Hp) (ρ' : List Addr) (G' H' : Hp) : Prop where
 r : ρ <+: ρ'
 g : Same G G'
 s : Same G' H'
 h : ∀ b o, b ∉ ρ → H b = some o → H' b = some o
 k : ∀ b, H b ≠ none → H' b ≠ none
 n : ∀ b, H b ≠ none → G b = none → G' b = none
 f : ∀ a, a ∈ ρ' → a ∉ ρ → H a = none
theorem GS.refl {ρ : List Addr} {G H : Hp} (s : Same G H) : GS ρ G H ρ G H := ⟨List.prefix_refl _, .refl _, s, fun _ _ _ e => e, fun _ e => e, fun _ _ e => e, fun a h1 h2 => absurd h1 h2⟩
theorem GS.of {ρ : List Addr} {G H G' H' : Hp} (g : Gr G H G' H') : GS ρ G H ρ G' H' := ⟨List.prefix_refl _, g.g, g.s, fun b o _ e => g.h b o e, fun b e => zz4 g.h e, g.n, fun a h1 h2 => absurd h1 h2⟩
theorem GS.trans {ρ ρ1 ρ2 : List Addr} {G H G1 H1 G2 H2 : Hp} (a : GS ρ G H ρ1 G1 H1) (b : GS ρ1 G1 H1 ρ2 G2 H2) : GS ρ G H ρ2 G2 H2 :=
 ⟨a.r.trans b.r, a.g.trans b.g, b.s, fun c o hc e => b.h c o (fun h1 => by rw [a.f c h1 hc] at e; cases e) (a.h c o hc e), fun c e => b.k c (a.k c e), fun c h1 h2 => b.n c (a.k c h1) (a.n c h1 h2), fun c h1 h2 => by
  by_cases h3 : c ∈ ρ1
  · exact a.f c h3 h2
  · have := b.f c h1 h3
    cases e : H c with
    | none => rfl
    | some o => exact absurd this (a.k c (by rw [e]; simp))⟩
section
variable {K : PySem.W.Frag} {cl : Str → Addr}
theorem ObR.move {ρ ρ' : List Addr} {G H G' H' : Hp} {a : Addr} (hr : ρ <+: ρ') (g : Same G G') (ha : H' a = H a) (hd : ∀ dx, G dx = none → H dx = some (.own a) → H' dx = some (.own a) ∧ G' dx = none) : ∀ {o : Ob}, ObR K ρ cl G H a o → ObR K ρ' cl G' H' a o
 | .lst ds, ⟨vs, h1, h2⟩ => ⟨vs, by rw [ha]; exact h1, (h2.ext hr).same g⟩
 | .dK kvs, ⟨ws, h1, h2⟩ => ⟨ws, by rw [ha]; exact h1, h2.ext hr g⟩
 | .dT kvs, ⟨ws, h1, h2⟩ => ⟨ws, by rw [ha]; exact h1, h2.ext hr g⟩
 | .dN kvs, ⟨ws, h1, h2⟩ => ⟨ws, by rw [ha]; exact h1, h2.ext hr g⟩
 | .ins c fs, ⟨dx, ws, h1, h2, h3, h4⟩ => ⟨dx, ws, by rw [ha]; exact h1, (hd dx h2 h3).2, (hd dx h2 h3).1, h4.ext hr g⟩
theorem ObR.some {ρ : List Addr} {G H : Hp} {a : Addr} : ∀ {o : Ob}, ObR K ρ cl G H a o → ∃ x, H a = some x ∧ ∀ b, x ≠ .own b
 | .lst ds, ⟨vs, h1, h2⟩ => ⟨_, h1, fun b e => by cases e⟩
 | .dK kvs, ⟨ws, h1, h2⟩ => ⟨_, h1, fun b e => by cases e⟩
 | .dT kvs, ⟨ws, h1, h2⟩ => ⟨_, h1, fun b e => by cases e⟩
 | .dN kvs, ⟨ws, h1, h2⟩ => ⟨_, h1, fun b e => by cases e⟩
 | .ins c fs, ⟨dx, ws, h1, h2, h3, h4⟩ => ⟨_, h1, fun b e => by cases e⟩
theorem SR.grow {ρ : List Addr} {G H G' H' : Hp} {S : Sto} (s : SR K ρ cl G H S) (g : Gr G H G' H') : SR K ρ cl G' H' S :=
 ⟨s.len, s.nd, fun n o e => by
  obtain ⟨a, h1, h2, h3⟩ := s.ob n o e
  obtain ⟨x, hx, _⟩ := h3.some
  exact ⟨a, h1, g.n a (by rw [hx]; simp) h2, h3.move (List.prefix_refl _) g.g (by rw [hx]; exact g.h _ _ hx) fun dx e1 e2 => ⟨g.h _ _ e2, g.n dx (by rw [e2]; simp) e1⟩⟩⟩
theorem SR.addr {ρ : List Addr} {G H : Hp} {S : Sto} (s : SR K ρ cl G H S) {n : Nat} {o : Ob} {a : Addr} (e : S[n]? = some o) (ea : ρ[n]? = some a) : G a = none ∧ ObR K ρ cl G H a o := by
 obtain ⟨b, h1, h2, h3⟩ := s.ob n o e
 rw [ea] at h1
 cases h1
 exact ⟨h2, h3⟩
theorem nodup_inj {l : List Addr} (h : l.Nodup) {i j : Nat} {a : Addr} (h1 : l[i]? = some a) (h2 : l[j]? = some a) : i = j := by
 obtain ⟨hi, e1⟩ := List.getElem?_eq_some_iff.mp h1
 obtain ⟨hj, e2⟩ := List.getElem?_eq_some_iff.mp h2
 have hp := List.pairwise_iff_getElem.mp h
 rcases Nat.lt_trichotomy i j with c | c | c
 · exact absurd (e1.trans e2.symm) (hp i j hi hj c)
 · exact c
 · exact absurd (e2.trans e1.symm) (hp j i hj hi c)
theorem SR.put {ρ : List Addr} {G H : Hp} {S : Sto} {n : Nat} {o o' : Ob} {a : Addr} {x : HO} (s : SR K ρ cl G H S) (sg : Same G H) (e : S[n]? = some o) (ea : ρ[n]? = some a) (hx : ∀ b, x ≠ .own b) (ho : ObR K ρ cl G (upd H a x) a o') : SR K ρ cl G (upd H a x) (S.set n o') ∧ GS ρ G H ρ G (upd H a x) := by
 obtain ⟨ga, ob⟩ := s.addr e ea
 obtain ⟨y, hy, hno⟩ := ob.some
 have am : a ∈ ρ := List.mem_of_getElem? ea
 refine ⟨⟨by rw [List.length_set]; exact s.len, s.nd, fun m q em => ?_⟩, ⟨List.prefix_refl _, .refl _, fun b u eb => ?_, fun b u hb eb => ?_, fun b hb => ?_, fun _ _ e => e, fun b h1 h2 => absurd h1 h2⟩⟩
 · rcases zn0 em with ⟨rfl, rfl, _⟩ | ⟨ne, em⟩
   · exact ⟨a, ea, ga, ho⟩
   · obtain ⟨b, h1, h2, h3⟩ := s.ob m q em
     have hab : b ≠ a := fun z => ne (nodup_inj s.nd ea (z ▸ h1))
     exact ⟨b, h1, h2, h3.move (List.prefix_refl _) (.refl _) (zc4 hab) fun dx e1 e2 => ⟨by
      rw [zc4 (fun z => by rw [z, hy] at e2; cases e2; exact hno _ rfl)]
      exact e2, e1⟩⟩
 · rw [zc4 (fun z => by rw [z, ga] at eb; cases eb)]
   exact sg _ _ eb
 · rw [zc4 (fun z => hb (by rw [z]; exact am))]
   exact eb
 · by_cases z : b = a
   · subst z
     rw [zc5]
     simp
   · rw [zc4 z]
     exact hb
theorem SR.push {ρ : List Addr} {G H H' : Hp} {S : Sto} {p : Addr} {o : Ob} {x : HO} (s : SR K ρ cl G H S) (sg : Same G H) (n : Nw H H' p x) (ho : ∀ ρ', ρ <+: ρ' → ObR K ρ' cl G H' p o) : SR K (ρ ++ [p]) cl G H' (S ++ [o]) ∧ GS ρ G H (ρ ++ [p]) G H' := by
 have pm : p ∉ ρ := fun hp => by
  obtain ⟨i, hi, e⟩ := List.mem_iff_getElem.mp hp
  obtain ⟨b, h1, h2, h3⟩ := s.ob i (S[i]'(by rw [← s.len]; exact hi)) (List.getElem?_eq_getElem _)
  rw [List.getElem?_eq_getElem hi, e] at h1
  cases h1
  obtain ⟨y, hy, _⟩ := h3.some
  rw [n.2.1] at hy
  cases hy
 have pre : ρ <+: ρ ++ [p] := ⟨[p], rfl⟩
 refine ⟨⟨by simp [s.len], List.nodup_append.mpr ⟨s.nd, by simp, fun a ha b hb => by
  rw [List.mem_singleton.mp hb]
  exact fun z => pm (z ▸ ha)⟩, fun m q em => ?_⟩, ⟨pre, .refl _, sg.trans n.1, fun b u _ e => n.1 b u e, fun b e => zz4 n.1 e, fun _ _ e => e, fun a h1 h2 => ?_⟩⟩
 · rcases Nat.lt_or_ge m S.length with hm | hm
   · rw [List.getElem?_append_left hm] at em
     obtain ⟨b, h1, h2, h3⟩ := s.ob m q em
     obtain ⟨y, hy, _⟩ := h3.some
     exact ⟨b, by rw [List.getElem?_append_left (by rw [s.len]; exact hm)]; exact h1, h2, h3.move pre (.refl _) (by rw [hy]; exact n.1 _ _ hy) fun dx e1 e2 => ⟨n.1 _ _ e2, e1⟩⟩
   · rw [List.getElem?_append_right hm] at em
     have hz : m - S.length = 0 := by
      have := (List.getElem?_eq_some_iff.mp em).1
      simp at this
      omega
     rw [hz] at em
     cases em
     refine ⟨p, ?_, zn9 sg n.2.1, ho _ pre⟩
     rw [List.getElem?_append_right (by rw [s.len]; exact hm), s.len, hz]
     rfl
 · rcases List.mem_append.mp h1 with h | h
   · exact absurd h h2
   · rw [List.mem_singleton.mp h]
     exact n.2.1
inductive Rs (α : Type) where
 | ok (a : α)
 | xc (c : Str)
abbrev SM (α : Type) := Option (Rs α × Sto)
def sBind {α β : Type} (m : SM α) (k : α → Sto → SM β) : SM β := match m with
 | some (.ok a, S) => k a S
 | some (.xc c, S) => some (.xc c, S)
 | none => none
theorem zf4 {α β : Type} {m : SM α} {k : α → Sto → SM β} {r : Rs β} {S' : Sto} (h : sBind m k = some (r, S')) : (∃ c, m = some (.xc c, S') ∧ r = .xc c) ∨ ∃ a S1, m = some (.ok a, S1) ∧ k a S1 = some (r, S') := by
 unfold sBind at h
 split at h
 · exact .inr ⟨_, _, rfl, h⟩
 · cases h
   exact .inl ⟨_, rfl, rfl⟩
 · cases h
structure RS (K : PySem.W.Frag) (cl : Str → Addr) (ρ : List Addr) (G H : Hp) (δ : DS) (σ : St) (S : Sto) : Prop where
 rl : Rl K ρ G H δ σ
 st : SR K ρ cl G H S
 ap : ∀ (i : Nat) ds p, δ[i]? = some (.own ds) → σ[i]? = some (some (.ref p)) → p ∉ ρ
theorem SlOk.move {ρ ρ' : List Addr} {G H G' H' : Hp} (g : GS ρ G H ρ' G' H') : ∀ {s : Sl} {o : Option V}, (∀ ds p, s = .own ds → o = some (.ref p) → p ∉ ρ) → SlOk K ρ G H s o → SlOk K ρ' G' H' s o
 | .no, _, _, _ => trivial
 | .val d, o, _, ⟨v, e, h⟩ => ⟨v, e, (h.ext g.r).same g.g⟩
 | .own ds, o, ha, ⟨p, vs, e, h1, h2, h3⟩ => ⟨p, vs, e, g.n p (by rw [h2]; simp) h1, g.h _ _ (ha ds p rfl e) h2, (h3.ext g.r).same g.g⟩
theorem RS.grow {ρ ρ' : List Addr} {G H G' H' : Hp} {δ : DS} {σ : St} {S S' : Sto} (R : RS K cl ρ G H δ σ S) (g : GS ρ G H ρ' G' H') (s : SR K ρ' cl G' H' S') : RS K cl ρ' G' H' δ σ S' :=
 ⟨⟨g.s, R.rl.len, fun i sl e => by
  obtain ⟨o, h1, h2⟩ := R.rl.sl i sl e
  exact ⟨o, h1, h2.move g fun ds p e1 e2 => R.ap i ds p (e1 ▸ e) (e2 ▸ h1)⟩, R.rl.apart⟩, s, fun i ds p h1 h2 hp => by
  obtain ⟨o, k1, p', vs, rfl, k3, k4, k5⟩ := R.rl.sl i _ h1
  rw [h2] at k1
  cases k1
  rw [g.f p hp (R.ap i ds p h1 h2)] at k4
  cases k4⟩
def SE (K : PySem.W.Frag) (cl : Str → Addr) (E : XK) (t : TE) (f : DS → Sto → SM W) : Prop :=
 ∀ (ρ : List Addr) (G : Hp) (σ : St) (H : Hp) (δ : DS) (S : Sto) (r : Rs W) (S' : Sto) (Q : VK), RS K cl ρ G H δ σ S → f δ S = some (r, S') →
  (∀ d, r = .ok d → ∀ v ρ' G' H', GS ρ G H ρ' G' H' → SR K ρ' cl G' H' S' → Dw K ρ' G' v d → Q v H') →
  (∀ c, r = .xc c → ∀ ρ' G' H', GS ρ G H ρ' G' H' → SR K ρ' cl G' H' S' → E (.ref (cl c)) none H') → t σ H Q
def SA (K : PySem.W.Frag) (cl : Str → Addr) (E : XK) (t : TA) (f : DS → Sto → SM (List W)) : Prop :=
 ∀ (ρ : List Addr) (G : Hp) (σ : St) (H : Hp) (δ : DS) (S : Sto) (r : Rs (List W)) (S' : Sto) (Q : List V → Hp → Prop), RS K cl ρ G H δ σ S → f δ S = some (r, S') →
  (∀ ds, r = .ok ds → ∀ vs ρ' G' H', GS ρ G H ρ' G' H' → SR K ρ' cl G' H' S' → DwAll K ρ' G' vs ds → Q vs H') →
  (∀ c, r = .xc c → ∀ ρ' G' H', GS ρ G H ρ' G' H' → SR K ρ' cl G' H' S' → E (.ref (cl c)) none H') → t σ H Q
def ST (K : PySem.W.Frag) (cl : Str → Addr) (E : XK) (t : TT) (f : DS → Sto → SM Bool) : Prop :=
 ∀ (ρ : List Addr) (G : Hp) (σ : St) (H : Hp) (δ : DS) (S : Sto) (r : Rs Bool) (S' : Sto) (Q : Bool → Hp → Prop), RS K cl ρ G H δ σ S → f δ S = some (r, S') →
  (∀ b, r = .ok b → ∀ ρ' G' H', GS ρ G H ρ' G' H' → SR K ρ' cl G' H' S' → Q b H') →
  (∀ c, r = .xc c → ∀ ρ' G' H', GS ρ G H ρ' G' H' → SR K ρ' cl G' H' S' → E (.ref (cl c)) none H') → t σ H Q
variable {E : XK}
def sPure {α : Type} (f : DS → Option α) : DS → Sto → SM α := fun δ S => (f δ).map fun d => (.ok d, S)
theorem zs3 {α : Type} {f : DS → Option α} {δ : DS} {S S' : Sto} {r : Rs α} (h : sPure f δ S = some (r, S')) : ∃ d, f δ = some d ∧ r = .ok d ∧ S' = S := by
 obtain ⟨d, e1, e2⟩ := Option.map_eq_some_iff.mp h
 cases e2
 exact ⟨d, e1, rfl, rfl⟩
theorem zb6 {t : TE} {f : DS → Option W} (h : ∀ ρ, DE K ρ t f) : SE K cl E t (sPure f) := fun ρ G σ H δ S r S' Q R e q _ => by
 obtain ⟨d, e1, rfl, rfl⟩ := zs3 e
 exact h ρ G σ H δ d Q R.rl e1 fun v G' H' g dv => q d rfl v ρ G' H' (.of g) (R.st.grow g) dv
theorem zf8 {t : TA} {f : DS → Option (List W)} (h : ∀ ρ, DA K ρ t f) : SA K cl E t (sPure f) := fun ρ G σ H δ S r S' Q R e q _ => by
 obtain ⟨d, e1, rfl, rfl⟩ := zs3 e
 exact h ρ G σ H δ d Q R.rl e1 fun v G' H' g dv => q d rfl v ρ G' H' (.of g) (R.st.grow g) dv
theorem zm8 {t : TT} {f : DS → Option Bool} (h : ∀ ρ, DT K ρ t f) : ST K cl E t (sPure f) := fun ρ G σ H δ S r S' Q R e q _ => by
 obtain ⟨d, e1, rfl, rfl⟩ := zs3 e
 exact h ρ G σ H δ d Q R.rl e1 fun G' H' g => q d rfl ρ G' H' (.of g) (R.st.grow g)
def sNil : DS → Sto → SM (List W) := fun _ S => some (.ok [], S)
def sCons (f : DS → Sto → SM W) (g : DS → Sto → SM (List W)) : DS → Sto → SM (List W) := fun δ S => sBind (f δ S) fun d S1 => sBind (g δ S1) fun ds S2 => some (.ok (d :: ds), S2)
theorem sa_nil : SA K cl E tNil sNil := fun ρ G σ H δ S r S' Q R e q _ => by
 cases e
 exact q [] rfl [] ρ G H (.refl R.rl.sub) R.st .nil
theorem yb0 {t : TE} {u : TA} {f : DS → Sto → SM W} {g : DS → Sto → SM (List W)} (h1 : SE K cl E t f) (h2 : SA K cl E u g) : SA K cl E (tCons t u) (sCons f g) := fun ρ G σ H δ S r S' Q R e q qx => by
 rcases zf4 e with ⟨c, em, rfl⟩ | ⟨d, S1, em, e⟩
 · exact h1 ρ G σ H δ S _ _ _ R em (fun d hd => by cases hd) (fun c' hc => by cases hc; exact qx c rfl)
 · refine h1 ρ G σ H δ S _ _ _ R em (fun d' hd => ?_) (fun c' hc => by cases hc)
   cases hd
   intro v ρ1 G1 H1 g1 s1 dv
   have R1 := R.grow g1 s1
   rcases zf4 e with ⟨c, em, rfl⟩ | ⟨ds, S2, em, e⟩
   · exact h2 ρ1 G1 σ H1 δ S1 _ _ _ R1 em (fun d hd => by cases hd) (fun c' hc => by cases hc; exact fun ρ2 G2 H2 g2 s2 => qx c rfl ρ2 G2 H2 (g1.trans g2) s2)
   · refine h2 ρ1 G1 σ H1 δ S1 _ _ _ R1 em (fun d' hd => ?_) (fun c' hc => by cases hc)
     cases hd
     cases e
     intro vs ρ2 G2 H2 g2 s2 da
     exact q _ rfl _ ρ2 G2 H2 (g1.trans g2) s2 (.cons ((dv.ext g2.r).same g2.g) da)
end
end L2
set_option Elab.async false
set_option linter.all false
set_option maxRecDepth 100000
namespace L2
open PySem PySem.Spec PyProof.Rows
section
variable {K : PySem.W.Frag} {cl : Str → Addr} {E : XK}
theorem zl3 {α : Type} {t : TE} {f : DS → Sto → SM W} (h : SE K cl E t f) {ρ : List Addr} {G : Hp} {σ : St} {H : Hp} {δ : DS} {S : Sto} {r : Rs α} {S' : Sto} {k : W → Sto → SM α} {P : V → Hp → Prop} (R : RS K cl ρ G H δ σ S) (e : sBind (f δ S) k = some (r, S'))
 (q : ∀ d S1, k d S1 = some (r, S') → ∀ v ρ' G' H', GS ρ G H ρ' G' H' → SR K ρ' cl G' H' S1 → Dw K ρ' G' v d → P v H')
 (qx : ∀ c, r = .xc c → ∀ ρ' G' H', GS ρ G H ρ' G' H' → SR K ρ' cl G' H' S' → E (.ref (cl c)) none H') : t σ H P := by
 rcases zf4 e with ⟨c, em, rfl⟩ | ⟨d, S1, em, e⟩
 · exact h ρ G σ H δ S _ _ _ R em (fun d hd => by cases hd) (fun c' hc => by cases hc; exact qx c rfl)
 · exact h ρ G σ H δ S _ _ _ R em (fun d' hd => by cases hd; exact q _ _ e) (fun c' hc => by cases hc)
theorem yf1 {α : Type} {t : TA} {f : DS → Sto → SM (List W)} (h : SA K cl E t f) {ρ : List Addr} {G : Hp} {σ : St} {H : Hp} {δ : DS} {S : Sto} {r : Rs α} {S' : Sto} {k : List W → Sto → SM α} {P : List V → Hp → Prop} (R : RS K cl ρ G H δ σ S) (e : sBind (f δ S) k = some (r, S'))
 (q : ∀ d S1, k d S1 = some (r, S') → ∀ v ρ' G' H', GS ρ G H ρ' G' H' → SR K ρ' cl G' H' S1 → DwAll K ρ' G' v d → P v H')
 (qx : ∀ c, r = .xc c → ∀ ρ' G' H', GS ρ G H ρ' G' H' → SR K ρ' cl G' H' S' → E (.ref (cl c)) none H') : t σ H P := by
 rcases zf4 e with ⟨c, em, rfl⟩ | ⟨d, S1, em, e⟩
 · exact h ρ G σ H δ S _ _ _ R em (fun d hd => by cases hd) (fun c' hc => by cases hc; exact qx c rfl)
 · exact h ρ G σ H δ S _ _ _ R em (fun d' hd => by cases hd; exact q _ _ e) (fun c' hc => by cases hc)
theorem yh4 {α : Type} {t : TT} {f : DS → Sto → SM Bool} (h : ST K cl E t f) {ρ : List Addr} {G : Hp} {σ : St} {H : Hp} {δ : DS} {S : Sto} {r : Rs α} {S' : Sto} {k : Bool → Sto → SM α} {P : Bool → Hp → Prop} (R : RS K cl ρ G H δ σ S) (e : sBind (f δ S) k = some (r, S'))
 (q : ∀ d S1, k d S1 = some (r, S') → ∀ ρ' G' H', GS ρ G H ρ' G' H' → SR K ρ' cl G' H' S1 → P d H')
 (qx : ∀ c, r = .xc c → ∀ ρ' G' H', GS ρ G H ρ' G' H' → SR K ρ' cl G' H' S' → E (.ref (cl c)) none H') : t σ H P := by
 rcases zf4 e with ⟨c, em, rfl⟩ | ⟨d, S1, em, e⟩
 · exact h ρ G σ H δ S _ _ _ R em (fun d hd => by cases hd) (fun c' hc => by cases hc; exact qx c rfl)
 · exact h ρ G σ H δ S _ _ _ R em (fun d' hd => by cases hd; exact q _ _ e) (fun c' hc => by cases hc)
theorem zz2 {α : Type} {ta tb : TE} {fa fb : DS → Sto → SM W} (ha : SE K cl E ta fa) (hb : SE K cl E tb fb) {ρ : List Addr} {G : Hp} {σ : St} {H : Hp} {δ : DS} {S : Sto} {r : Rs α} {S' : Sto} {k : W → W → Sto → SM α} {P : V → V → Hp → Prop} (R : RS K cl ρ G H δ σ S)
 (e : sBind (fa δ S) (fun x S1 => sBind (fb δ S1) fun y S2 => k x y S2) = some (r, S'))
 (q : ∀ x y S2, k x y S2 = some (r, S') → ∀ v u ρ' G' H', GS ρ G H ρ' G' H' → SR K ρ' cl G' H' S2 → Dw K ρ' G' v x → Dw K ρ' G' u y → P v u H')
 (qx : ∀ c, r = .xc c → ∀ ρ' G' H', GS ρ G H ρ' G' H' → SR K ρ' cl G' H' S' → E (.ref (cl c)) none H') : ta σ H fun v H1 => tb σ H1 fun u H2 => P v u H2 :=
 zl3 ha R e (fun x S1 e1 v ρ1 G1 H1 g1 s1 dv => zl3 hb (R.grow g1 s1) e1 (fun y S2 e2 u ρ2 G2 H2 g2 s2 du => q x y S2 e2 v u ρ2 G2 H2 (g1.trans g2) s2 ((dv.ext g2.r).same g2.g) du) fun c hc ρ2 G2 H2 g2 s2 => qx c hc ρ2 G2 H2 (g1.trans g2) s2) qx
def sOk {α : Type} (x : Option α) (S : Sto) : SM α := x.map fun d => (.ok d, S)
theorem zk0 {α : Type} {x : Option α} {S S' : Sto} {r : Rs α} (h : sOk x S = some (r, S')) : ∃ d, x = some d ∧ r = .ok d ∧ S' = S := by
 obtain ⟨d, e1, e2⟩ := Option.map_eq_some_iff.mp h
 cases e2
 exact ⟨d, e1, rfl, rfl⟩
def sCmp (g : W → W → Option Bool) (fa fb : DS → Sto → SM W) : DS → Sto → SM Bool := fun δ S => sBind (fa δ S) fun x S1 => sBind (fb δ S1) fun y S2 => sOk (g x y) S2
def sB (f : DS → Sto → SM Bool) : DS → Sto → SM W := fun δ S => sBind (f δ S) fun b S1 => some (.ok (.bool b), S1)
def sAnd (f g : DS → Sto → SM Bool) : DS → Sto → SM Bool := fun δ S => sBind (f δ S) fun b S1 => if b = true then g δ S1 else some (.ok false, S1)
def sOr (f g : DS → Sto → SM Bool) : DS → Sto → SM Bool := fun δ S => sBind (f δ S) fun b S1 => if b = true then some (.ok true, S1) else g δ S1
def sNot (f : DS → Sto → SM Bool) : DS → Sto → SM Bool := fun δ S => sBind (f δ S) fun b S1 => some (.ok (!b), S1)
theorem st_and {t u : TT} {f g : DS → Sto → SM Bool} (h1 : ST K cl E t f) (h2 : ST K cl E u g) : ST K cl E (tAnd t u) (sAnd f g) := fun ρ G σ H δ S r S' Q R e q qx =>
 yh4 h1 R e (fun b S1 e1 ρ1 G1 H1 g1 s1 => by
  cases b with
  | true => exact h2 ρ1 G1 σ H1 δ S1 r S' Q (R.grow g1 s1) e1 (fun b hb ρ2 G2 H2 g2 s2 => q b hb ρ2 G2 H2 (g1.trans g2) s2) fun c hc ρ2 G2 H2 g2 s2 => qx c hc ρ2 G2 H2 (g1.trans g2) s2
  | false => cases e1; exact q false rfl ρ1 G1 H1 g1 s1) qx
theorem st_or {t u : TT} {f g : DS → Sto → SM Bool} (h1 : ST K cl E t f) (h2 : ST K cl E u g) : ST K cl E (tOr t u) (sOr f g) := fun ρ G σ H δ S r S' Q R e q qx =>
 yh4 h1 R e (fun b S1 e1 ρ1 G1 H1 g1 s1 => by
  cases b with
  | false => exact h2 ρ1 G1 σ H1 δ S1 r S' Q (R.grow g1 s1) e1 (fun b hb ρ2 G2 H2 g2 s2 => q b hb ρ2 G2 H2 (g1.trans g2) s2) fun c hc ρ2 G2 H2 g2 s2 => qx c hc ρ2 G2 H2 (g1.trans g2) s2
  | true => cases e1; exact q true rfl ρ1 G1 H1 g1 s1) qx
theorem st_not {t : TT} {f : DS → Sto → SM Bool} (h : ST K cl E t f) : ST K cl E (tNot t) (sNot f) := fun ρ G σ H δ S r S' Q R e q qx =>
 yh4 h R e (fun b S1 e1 ρ1 G1 H1 g1 s1 => by cases e1; exact q _ rfl ρ1 G1 H1 g1 s1) qx
def sTup (f : DS → Sto → SM (List W)) : DS → Sto → SM W := fun δ S => sBind (f δ S) fun ds S1 => if ds.length ≤ sizeLine then some (.ok (.tuple ds), S1) else none
def sLst (f : DS → Sto → SM (List W)) : DS → Sto → SM W := fun δ S => sBind (f δ S) fun ds S1 => if ds.length ≤ sizeLine then some (.ok (.list ds), S1) else none
def sLstS (f : DS → Sto → SM (List W)) : DS → Sto → SM W := fun δ S => sBind (f δ S) fun ds S1 => if ds.length ≤ sizeLine then some (.ok (.ref S1.length), S1 ++ [.lst ds]) else none
theorem zz8 {t : TA} {f : DS → Sto → SM (List W)} (h : SA K cl E t f) : SE K cl E (tLstN t) (sLstS f) := fun ρ G σ H δ S r S' Q R e q qx =>
 yf1 h R e (fun ds S1 e1 vs ρ1 G1 H1 g1 s1 da => by
  split at e1
  · rename_i hz
    cases e1
    refine ⟨by rw [da.length]; exact hz, fun p H' n => ?_⟩
    obtain ⟨s2, g2⟩ := s1.push (o := .lst ds) g1.s n fun ρ' hr => ⟨vs, n.2.2, da.ext hr⟩
    exact q _ rfl _ _ _ H' (g1.trans g2) s2 (.ref (by rw [← s1.len]; simp))
  · cases e1) qx
def sDK : DS → Sto → SM W := fun _ S => some (.ok (.ref S.length), S ++ [.dK []])
def sDT : DS → Sto → SM W := fun _ S => some (.ok (.ref S.length), S ++ [.dT []])
theorem se_dK : SE K cl E tDNewK sDK := fun ρ G σ H δ S r S' Q R e q qx => by
 cases e
 intro p hp
 obtain ⟨s2, g2⟩ := R.st.push (o := .dK []) R.rl.sub (Nw.of (o := .dK []) hp) fun ρ' hr => ⟨[], zc5, .nil⟩
 exact q _ rfl _ _ _ _ g2 s2 (.ref (by rw [← R.st.len]; simp))
theorem se_dT : SE K cl E tDNewT sDT := fun ρ G σ H δ S r S' Q R e q qx => by
 cases e
 intro p hp
 obtain ⟨s2, g2⟩ := R.st.push (o := .dT []) R.rl.sub (Nw.of (o := .dT []) hp) fun ρ' hr => ⟨[], zc5, .nil⟩
 exact q _ rfl _ _ _ _ g2 s2 (.ref (by rw [← R.st.len]; simp))
def obAt (x : W) (S : Sto) : Option (Nat × Ob) := match x with
 | .ref n => (S[n]?).map fun o => (n, o)
 | _ => none
theorem zk5 {x : W} {S : Sto} {n : Nat} {o : Ob} (h : obAt x S = some (n, o)) : x = .ref n ∧ S[n]? = some o := by
 unfold obAt at h
 split at h
 · obtain ⟨o', e1, e2⟩ := Option.map_eq_some_iff.mp h
   cases e2
   exact ⟨rfl, e1⟩
 · cases h
def insAt (c : Str) (x : W) (S : Sto) : Option (Nat × List (Str × W)) := match obAt x S with
 | some (n, .ins c' fs) => if c' = c then some (n, fs) else none
 | _ => none
theorem zv0 {c : Str} {x : W} {S : Sto} {n : Nat} {fs : List (Str × W)} (h : insAt c x S = some (n, fs)) : x = .ref n ∧ S[n]? = some (.ins c fs) := by
 unfold insAt at h
 split at h
 · rename_i n' c' fs' e
   split at h
   · rename_i hc
     subst hc
     cases h
     exact zk5 e
   · cases h
 · cases h
def sFldR (c f : Str) (fa : DS → Sto → SM W) : DS → Sto → SM W := fun δ S => sBind (fa δ S) fun x S1 => (insAt c x S1).bind fun p => sOk (p.2.lookup f) S1
theorem zl9 {ρ : List Addr} {G : Hp} {v : V} {n : Nat} (h : Dw K ρ G v (.ref n)) : ∃ a, v = .ref a ∧ ρ[n]? = some a := by
 cases h with
 | ref e => exact ⟨_, rfl, e⟩
theorem se_fld {c f : Str} {ta : TE} {fa : DS → Sto → SM W} (hc : Cls K (cl c)) (hn : NoAttr K (cl c) f) (ha : SE K cl E ta fa) : SE K cl E (tFld K ta f) (sFldR c f fa) := fun ρ G σ H δ S r S' Q R e q qx =>
 zl3 ha R e (fun x S1 e1 v ρ1 G1 H1 g1 s1 dv => by
  obtain ⟨⟨n, fs⟩, e2, e3⟩ := Option.bind_eq_some_iff.mp e1
  obtain ⟨d, e4, rfl, rfl⟩ := zk0 e3
  obtain ⟨rfl, e5⟩ := zv0 e2
  obtain ⟨a, rfl, ea⟩ := zl9 dv
  obtain ⟨ga, dx, ws, k1, k2, k3, k4⟩ := s1.addr e5 ea
  obtain ⟨u, k5, k6⟩ := k4.lookup e4
  exact ⟨a, _, dx, ws, u, rfl, k1, hc, hn, k5, q d rfl u ρ1 G1 H1 g1 s1 k6⟩) qx
def spX (K : PySem.W.Frag) (cl : Str → Addr) (f : List W → Sto → SM W) : Sp := fun vs H Q E => ∃ ρ G S ds r S', Same G H ∧ SR K ρ cl G H S ∧ DwAll K ρ G vs ds ∧ f ds S = some (r, S') ∧
 (∀ d, r = .ok d → ∀ v ρ' G' H', GS ρ G H ρ' G' H' → SR K ρ' cl G' H' S' → Dw K ρ' G' v d → Q v H') ∧ (∀ c, r = .xc c → ∀ ρ' G' H', GS ρ G H ρ' G' H' → SR K ρ' cl G' H' S' → E (.ref (cl c)) none H')
def sCallD (f : List W → Option W) (fa : DS → Sto → SM (List W)) : DS → Sto → SM W := fun δ S => sBind (fa δ S) fun ds S1 => sOk (f ds) S1
def sp0 (K : PySem.W.Frag) (cl : Str → Addr) (f : List W → Sto → SM W) : Sp := fun vs H Q _ => ∃ ρ G S ds d S', Same G H ∧ SR K ρ cl G H S ∧ DwAll K ρ G vs ds ∧ f ds S = some (.ok d, S') ∧
 ∀ v ρ' G' H', GS ρ G H ρ' G' H' → SR K ρ' cl G' H' S' → Dw K ρ' G' v d → Q v H'
def noX (m : SM W) : SM W := match m with
 | some (.ok d, S) => some (.ok d, S)
 | _ => none
theorem zw1 {m : SM W} {r : Rs W} {S' : Sto} (h : noX m = some (r, S')) : ∃ d, r = .ok d ∧ m = some (.ok d, S') := by
 unfold noX at h
 split at h
 · cases h; exact ⟨_, rfl, rfl⟩
 · cases h
def sCall (f : List W → Sto → SM W) (fa : DS → Sto → SM (List W)) : DS → Sto → SM W := fun δ S => sBind (fa δ S) fun ds S1 => noX (f ds S1)
theorem zq7 {f : List W → Sto → SM W} {t : TA} {fa : DS → Sto → SM (List W)} {E' : XK} (h : SA K cl E t fa) : SE K cl E (tCall (sp0 K cl f) [] E' t) (sCall f fa) := fun ρ G σ H δ S r S' Q R e q qx =>
 yf1 h R e (fun ds S1 e1 vs ρ1 G1 H1 g1 s1 da => by
  obtain ⟨d, rfl, e2⟩ := zw1 e1
  exact ⟨ρ1, G1, S1, ds, d, S', g1.s, s1, by rw [List.append_nil]; exact da, e2, fun v ρ2 G2 H2 g2 s2 dv => q d rfl v ρ2 G2 H2 (g1.trans g2) s2 dv⟩) qx
def sMeth (c m : Str) (f : List W → Sto → SM W) (fo : DS → Sto → SM W) (fa : DS → Sto → SM (List W)) : DS → Sto → SM W := fun δ S => sBind (fo δ S) fun x S1 => (insAt c x S1).bind fun p => if p.2.lookup m = none then sBind (fa δ S1) fun ds S2 => noX (f (x :: ds) S2) else none
theorem zo0 {c m : Str} {f : List W → Sto → SM W} {to : TE} {t : TA} {fo : DS → Sto → SM W} {fa : DS → Sto → SM (List W)} {E' : XK} (ho : SE K cl E to fo) (h : SA K cl E t fa) : SE K cl E (tMeth (cl c) m (sp0 K cl f) [] E' to t) (sMeth c m f fo fa) := fun ρ G σ H δ S r S' Q R e q qx =>
 zl3 ho R e (fun x S1 e1 v ρ1 G1 H1 g1 s1 dv => by
  obtain ⟨⟨n, fs⟩, e2, e3⟩ := Option.bind_eq_some_iff.mp e1
  split at e3
  case isFalse => cases e3
  rename_i hm
  obtain ⟨rfl, e5⟩ := zv0 e2
  obtain ⟨a, rfl, ea⟩ := zl9 dv
  obtain ⟨ga, dx, ws, k1, k2, k3, k4⟩ := s1.addr e5 ea
  refine ⟨a, dx, ws, rfl, k1, k4.lookup_none hm, ?_⟩
  exact yf1 h (R.grow g1 s1) e3 (fun ds S2 e6 vs ρ2 G2 H2 g2 s2 da => by
   obtain ⟨d, rfl, e7⟩ := zw1 e6
   exact ⟨ρ2, G2, S2, .ref n :: ds, d, S', g2.s, s2, by rw [List.append_nil]; exact .cons ((dv.ext g2.r).same g2.g) da, e7, fun v ρ3 G3 H3 g3 s3 dv => q d rfl v ρ3 G3 H3 (g1.trans (g2.trans g3)) s3 dv⟩) fun c hc ρ2 G2 H2 g2 s2 => qx c hc ρ2 G2 H2 (g1.trans g2) s2) qx
def sMake (c : Str) (f : List W → Sto → SM W) (fa : DS → Sto → SM (List W)) : DS → Sto → SM W := fun δ S => sBind (fa δ S) fun ds S1 => sBind (noX (f (.ref S1.length :: ds) (S1 ++ [.ins c []]))) fun d S2 => match d with
 | .none => some (.ok (.ref S1.length), S2)
 | _ => none
theorem se_make {c : Str} {f : List W → Sto → SM W} {t : TA} {fa : DS → Sto → SM (List W)} {E' : XK} (h : SA K cl E t fa) : SE K cl E (tMake (cl c) (sp0 K cl f) [] E' t) (sMake c f fa) := fun ρ G σ H δ S r S' Q R e q qx =>
 yf1 h R e (fun ds S1 e1 vs ρ1 G1 H1 g1 s1 da => by
  intro x dx hx hdx hne
  have na : Nw H1 (upd H1 dx (.own x)) dx (.own x) := .of hdx
  have gA : Gr G1 H1 G1 (upd H1 dx (.own x)) := .nwO g1.s na
  have hx' : (upd H1 dx (.own x)) x = none := by rw [zc4 (Ne.symm hne)]; exact hx
  have nb : Nw (upd H1 dx (.own x)) (upd (upd H1 dx (.own x)) x (.ins (cl c) dx [])) x (.ins (cl c) dx []) := .of hx'
  obtain ⟨s2, g2⟩ := (s1.grow gA).push (o := .ins c []) gA.s nb fun ρ' hr => ⟨dx, [], zc5, zn9 g1.s hdx, by rw [zc4 hne]; exact zc5, .nil⟩
  have g12 := (GS.of (ρ := ρ1) gA).trans g2
  have dx1 : DwAll K (ρ1 ++ [x]) G1 (.ref x :: vs) (.ref S1.length :: ds) := .cons (.ref (by rw [← s1.len]; simp)) (da.ext ⟨[x], rfl⟩)
  rcases zf4 e1 with ⟨c', em, rfl⟩ | ⟨d, S2, em, e2⟩
  · obtain ⟨_, z, _⟩ := zw1 em
    cases z
  · obtain ⟨d', z, em⟩ := zw1 em
    cases z
    refine ⟨_, G1, _, _, _, _, g2.s, s2, by rw [List.append_nil]; exact dx1, em, fun v ρ3 G3 H3 g3 s3 dv => ?_⟩
    split at e2
    · cases e2
      exact ⟨yj0 dv, q _ rfl _ ρ3 G3 H3 (g1.trans (g12.trans g3)) s3 (.ref (by
       have h1 : (ρ1 ++ [x])[S1.length]? = some x := by rw [← s1.len]; simp
       obtain ⟨t', ht⟩ := g3.r
       rw [← ht, List.getElem?_append_left (List.getElem?_eq_some_iff.mp h1).1]
       exact h1))⟩
    · cases e2) qx
def SIp (K : PySem.W.Frag) (cl : Str → Addr) (E : XK) (wi : TI) (f : DS → Sto → SM (List W)) : Prop :=
 ∀ (ρ : List Addr) (G : Hp) (σ : St) (H : Hp) (δ : DS) (S : Sto) (r : Rs (List W)) (S' : Sto) (R' : It → Hp → Prop), RS K cl ρ G H δ σ S → f δ S = some (r, S') →
  (∀ ds, r = .ok ds → ∀ J ρ' G' H', GS ρ G H ρ' G' H' → SR K ρ' cl G' H' S' → ItF K ρ' J G' ds → R' J H') →
  (∀ c, r = .xc c → ∀ ρ' G' H', GS ρ G H ρ' G' H' → SR K ρ' cl G' H' S' → E (.ref (cl c)) none H') → wi σ H R'
theorem zn4 {wi : TI} {f : DS → Option (List W)} (h : ∀ ρ, DI K ρ wi f) : SIp K cl E wi (sPure f) := fun ρ G σ H δ S r S' R' R e q qx => by
 obtain ⟨ds, e1, rfl, rfl⟩ := zs3 e
 exact h ρ G σ H δ ds R' R.rl e1 fun J G' H' g it => q ds rfl J ρ G' H' (.of g) (R.st.grow g) it
end
end L2
set_option Elab.async false
set_option linter.all false
set_option maxRecDepth 100000
namespace L2
open PySem PySem.Spec PyProof.Rows
inductive OutS where
 | nx (δ : DS)
 | bk (δ : DS)
 | ct (δ : DS)
 | rt (d : W)
 | xc (c : Str)
abbrev SO := Option (OutS × Sto)
section
variable {K : PySem.W.Frag} {cl : Str → Addr} {E : XK}
structure IvS (K : PySem.W.Frag) (cl : Str → Addr) (ρ0 : List Addr) (G0 H0 : Hp) (ρ : List Addr) (G H : Hp) (δ : DS) (σ : St) (S : Sto) : Prop where
 rs : RS K cl ρ G H δ σ S
 gs : GS ρ0 G0 H0 ρ G H
 ow : ∀ (i : Nat) p ds, δ[i]? = some (.own ds) → σ[i]? = some (some (.ref p)) → H0 p = none
def PstS (K : PySem.W.Frag) (cl : Str → Addr) (E : XK) (ρ0 : List Addr) (G0 H0 : Hp) (D : Ends) (S : Sto) : OutS → Prop
 | .nx δ => ∀ σ ρ G H, IvS K cl ρ0 G0 H0 ρ G H δ σ S → D.nx σ H
 | .bk δ => ∀ σ ρ G H, IvS K cl ρ0 G0 H0 ρ G H δ σ S → D.bk σ H
 | .ct δ => ∀ σ ρ G H, IvS K cl ρ0 G0 H0 ρ G H δ σ S → D.ct σ H
 | .rt d => ∀ v ρ G H, GS ρ0 G0 H0 ρ G H → SR K ρ cl G H S → Dw K ρ G v d → D.rt v H
 | .xc c => ∀ ρ G H, GS ρ0 G0 H0 ρ G H → SR K ρ cl G H S → E (.ref (cl c)) none H
def SSt (K : PySem.W.Frag) (cl : Str → Addr) (E : XK) (t : TS) (f : DS → Sto → SO) : Prop :=
 ∀ (ρ0 : List Addr) (G0 H0 : Hp) (ρ : List Addr) (G : Hp) (σ : St) (H : Hp) (δ : DS) (S : Sto) (o : OutS) (S' : Sto) (D : Ends), IvS K cl ρ0 G0 H0 ρ G H δ σ S → f δ S = some (o, S') → PstS K cl E ρ0 G0 H0 D S' o → t D σ H
theorem IvS.grow {ρ0 : List Addr} {G0 H0 : Hp} {ρ ρ' : List Addr} {G H G' H' : Hp} {δ : DS} {σ : St} {S S' : Sto} (I : IvS K cl ρ0 G0 H0 ρ G H δ σ S) (g : GS ρ G H ρ' G' H') (s : SR K ρ' cl G' H' S') : IvS K cl ρ0 G0 H0 ρ' G' H' δ σ S' := ⟨I.rs.grow g s, I.gs.trans g, I.ow⟩
theorem IvS.sub {ρ0 : List Addr} {G0 H0 : Hp} {ρ : List Addr} {G H : Hp} {δ δ' : DS} {σ σ' : St} {S : Sto} (I : IvS K cl ρ0 G0 H0 ρ G H δ σ S) (R : Rl K ρ G H δ' σ') (o : OwnSub δ' σ' δ σ) : IvS K cl ρ0 G0 H0 ρ G H δ' σ' S :=
 ⟨⟨R, I.rs.st, fun i ds p h1 h2 => by
  obtain ⟨es, h3, h4⟩ := o i ds p h1 h2
  exact I.rs.ap i es p h3 h4⟩, I.gs, fun i p ds h1 h2 => by
  obtain ⟨es, h3, h4⟩ := o i ds p h1 h2
  exact I.ow i p es h3 h4⟩
theorem IvS.base {ρ0 : List Addr} {G0 H0 : Hp} {ρ : List Addr} {G H : Hp} {δ : DS} {σ : St} {S : Sto} (I : IvS K cl ρ0 G0 H0 ρ G H δ σ S) : IvS K cl ρ G H0 ρ G H δ σ S :=
 ⟨I.rs, ⟨List.prefix_refl _, .refl _, I.gs.s, fun b o hb e => I.gs.h b o (fun h => hb (I.gs.r.subset h)) e, I.gs.k, fun _ _ e => e, fun a h1 h2 => absurd h1 h2⟩, I.ow⟩
theorem GS.rebase {ρ0 : List Addr} {G0 H0 : Hp} {ρ : List Addr} {G H : Hp} {ρ' : List Addr} {G' H' : Hp} (a : GS ρ0 G0 H0 ρ G H) (b : GS ρ G H0 ρ' G' H') : GS ρ0 G0 H0 ρ' G' H' :=
 ⟨a.r.trans b.r, a.g.trans b.g, b.s, fun c o hc e => b.h c o (fun h => by rw [a.f c h hc] at e; cases e) e, b.k, fun c h1 h2 => b.n c h1 (a.n c h1 h2), fun c h1 h2 => by
  by_cases h3 : c ∈ ρ
  · exact a.f c h3 h2
  · exact b.f c h1 h3⟩
theorem IvS.rebase {ρ0 : List Addr} {G0 H0 : Hp} {ρ : List Addr} {G H : Hp} {ρ' : List Addr} {G' H' : Hp} {δ : DS} {σ : St} {S : Sto} (a : GS ρ0 G0 H0 ρ G H) (I : IvS K cl ρ G H0 ρ' G' H' δ σ S) : IvS K cl ρ0 G0 H0 ρ' G' H' δ σ S := ⟨I.rs, a.rebase I.gs, I.ow⟩
def OwnP (δ : DS) (σ : St) (b : Addr) : Prop := ∃ (i : Nat) (ds : List W), δ[i]? = some (.own ds) ∧ σ[i]? = some (some (.ref b))
noncomputable def hideO (δ : DS) (σ : St) (H : Hp) : Hp := fun b => @ite _ (OwnP δ σ b) (Classical.propDecidable _) none (H b)
theorem hideO_own {δ : DS} {σ : St} {H : Hp} {b : Addr} (h : OwnP δ σ b) : hideO δ σ H b = none := by
 unfold hideO
 rw [if_pos h]
theorem zl7 {δ : DS} {σ : St} {H : Hp} {b : Addr} (h : ¬ OwnP δ σ b) : hideO δ σ H b = H b := by
 unfold hideO
 rw [if_neg h]
def outP : Out → OutS
 | .nx δ => .nx δ
 | .bk δ => .bk δ
 | .ct δ => .ct δ
 | .rt d => .rt d
def ssPure (f : DS → Option Out) : DS → Sto → SO := fun δ S => (f δ).map fun o => (outP o, S)
theorem zc2 {t : TS} {f : DS → Option Out} (h : ∀ ρ, DSt K ρ t f) : SSt K cl E t (ssPure f) := fun ρ0 G0 H0 ρ G σ H δ S o S' D I e p => by
 obtain ⟨o', e1, e2⟩ := Option.map_eq_some_iff.mp e
 cases e2
 have same0 : Same (hideO δ σ H) H := fun b u hb => by
  by_cases ho : OwnP δ σ b
  · rw [hideO_own ho] at hb; cases hb
  · rw [zl7 ho] at hb; exact hb
 have sameG : Same G (hideO δ σ H) := fun b u hb => by
  by_cases ho : OwnP δ σ b
  · obtain ⟨i, ds, k1, k2⟩ := ho
    obtain ⟨o, m1, q, vs, rfl, m3, m4, m5⟩ := I.rs.rl.sl i _ k1
    rw [k2] at m1
    cases m1
    rw [m3] at hb
    cases hb
  · rw [zl7 ho]; exact I.gs.s b u hb
 have notown : ∀ a, a ∈ ρ → ¬ OwnP δ σ a := fun a ha ⟨i, ds, k1, k2⟩ => I.rs.ap i ds a k1 k2 ha
 have ownlst : ∀ b, OwnP δ σ b → ∃ vs, H b = some (.lst vs) := fun b ⟨i, ds, k1, k2⟩ => by
  obtain ⟨o, m1, q, vs, rfl, m3, m4, m5⟩ := I.rs.rl.sl i _ k1
  rw [k2] at m1
  cases m1
  exact ⟨vs, m4⟩
 have sr0 : SR K ρ cl G (hideO δ σ H) S := ⟨I.rs.st.len, I.rs.st.nd, fun n ob en => by
  obtain ⟨a, k1, k2, k3⟩ := I.rs.st.ob n ob en
  refine ⟨a, k1, k2, k3.move (List.prefix_refl _) (.refl _) (zl7 (notown a (List.mem_of_getElem? k1))) fun dx d1 d2 => ⟨?_, d1⟩⟩
  rw [zl7 fun ho => by
   obtain ⟨vs, hv⟩ := ownlst dx ho
   rw [d2] at hv
   cases hv]
  exact d2⟩
 have iv : Iv K ρ G (hideO δ σ H) G H δ σ := ⟨I.rs.rl, ⟨.refl _, same0, I.gs.s, fun _ _ e => e⟩, fun i q ds k1 k2 => hideO_own ⟨i, ds, k1, k2⟩⟩
 have h0own : ∀ b, H0 b ≠ none → ¬ OwnP δ σ b := fun b hb ⟨i, ds, k1, k2⟩ => hb (I.ow i b ds k1 k2)
 have gs : ∀ {G' H' : Hp}, Gr G (hideO δ σ H) G' H' → GS ρ0 G0 H0 ρ G' H' := fun {G' H'} g =>
  ⟨I.gs.r, I.gs.g.trans g.g, g.s, fun b u hb eb => g.h b u (by rw [zl7 (h0own b (by rw [eb]; simp))]; exact I.gs.h b u hb eb), fun b hb => zz4 g.h (by rw [zl7 (h0own b hb)]; exact I.gs.k b hb), fun b h1 h2 => g.n b (by rw [zl7 (h0own b h1)]; exact I.gs.k b h1) (I.gs.n b h1 h2), I.gs.f⟩
 have nx : ∀ {δ' : DS} {σ' : St} {G' H' : Hp}, Iv K ρ G (hideO δ σ H) G' H' δ' σ' → IvS K cl ρ0 G0 H0 ρ G' H' δ' σ' S := fun {δ' σ' G' H'} I' =>
  ⟨⟨I'.rl, sr0.grow I'.gr, fun i ds q k1 k2 hq => by
   have := I'.ow i q ds k1 k2
   rw [zl7 (notown q hq)] at this
   obtain ⟨j, hj, ej⟩ := List.mem_iff_getElem.mp hq
   obtain ⟨b, m1, m2, m3⟩ := I.rs.st.ob j (S[j]'(by rw [← I.rs.st.len]; exact hj)) (List.getElem?_eq_getElem _)
   rw [List.getElem?_eq_getElem hj, ej] at m1
   cases m1
   obtain ⟨y, hy, _⟩ := m3.some
   rw [this] at hy
   cases hy⟩, gs I'.gr, fun i q ds k1 k2 => by
   have h1 := I'.ow i q ds k1 k2
   cases h2 : H0 q with
   | none => rfl
   | some u =>
    exfalso
    have h3 := I.gs.k q (by rw [h2]; simp)
    rw [zl7 (h0own q (by rw [h2]; simp))] at h1
    exact h3 h1⟩
 refine h ρ G (hideO δ σ H) G σ H δ o' D iv e1 ?_
 cases o' with
 | nx δ' => exact fun σ' G' H' I' => p σ' ρ G' H' (nx I')
 | bk δ' => exact fun σ' G' H' I' => p σ' ρ G' H' (nx I')
 | ct δ' => exact fun σ' G' H' I' => p σ' ρ G' H' (nx I')
 | rt d => exact fun v G' H' g dv => p v ρ G' H' (gs g) (sr0.grow g) dv
def ssSeq (f g : DS → Sto → SO) : DS → Sto → SO := fun δ S => match f δ S with
 | some (.nx δ', S') => g δ' S'
 | o => o
theorem zd2 {t u : TS} {f g : DS → Sto → SO} (h1 : SSt K cl E t f) (h2 : SSt K cl E u g) : SSt K cl E (tSeq t u) (ssSeq f g) := fun ρ0 G0 H0 ρ G σ H δ S o S' D I e p => by
 unfold ssSeq at e
 cases ef : f δ S with
 | none => rw [ef] at e; cases e
 | some r =>
  obtain ⟨o1, S1⟩ := r
  rw [ef] at e
  refine h1 ρ0 G0 H0 ρ G σ H δ S o1 S1 _ I ef ?_
  cases o1 with
  | nx δ' => exact fun σ' ρ' G' H' I' => h2 ρ0 G0 H0 ρ' G' σ' H' δ' S1 o S' D I' e p
  | bk δ' => cases e; exact p
  | ct δ' => cases e; exact p
  | rt d => cases e; exact p
  | xc c => cases e; exact p
def soB {α : Type} (m : SM α) (k : α → Sto → SO) : SO := match m with
 | some (.ok a, S) => k a S
 | some (.xc c, S) => some (.xc c, S)
 | none => none
theorem zw8 {α : Type} {m : SM α} {k : α → Sto → SO} {o : OutS} {S' : Sto} (h : soB m k = some (o, S')) : (∃ c, m = some (.xc c, S') ∧ o = .xc c) ∨ ∃ a S1, m = some (.ok a, S1) ∧ k a S1 = some (o, S') := by
 unfold soB at h
 split at h
 · exact .inr ⟨_, _, rfl, h⟩
 · cases h
   exact .inl ⟨_, rfl, rfl⟩
 · cases h
theorem zs7 {t : TE} {f : DS → Sto → SM W} (h : SE K cl E t f) {ρ0 : List Addr} {G0 H0 : Hp} {ρ : List Addr} {G : Hp} {σ : St} {H : Hp} {δ : DS} {S : Sto} {o : OutS} {S' : Sto} {D : Ends} {k : W → Sto → SO} {P : V → Hp → Prop} (I : IvS K cl ρ0 G0 H0 ρ G H δ σ S) (e : soB (f δ S) k = some (o, S')) (p : PstS K cl E ρ0 G0 H0 D S' o)
 (q : ∀ d S1, k d S1 = some (o, S') → ∀ v ρ' G' H', GS ρ G H ρ' G' H' → SR K ρ' cl G' H' S1 → Dw K ρ' G' v d → P v H') : t σ H P := by
 rcases zw8 e with ⟨c, em, rfl⟩ | ⟨d, S1, em, e⟩
 · exact h ρ G σ H δ S _ _ _ I.rs em (fun d hd => by cases hd) (fun c' hc ρ1 G1 H1 g1 s1 => by cases hc; exact p ρ1 G1 H1 (I.gs.trans g1) s1)
 · exact h ρ G σ H δ S _ _ _ I.rs em (fun d' hd => by cases hd; exact q _ _ e) (fun c' hc => by cases hc)
theorem so_test {t : TT} {f : DS → Sto → SM Bool} (h : ST K cl E t f) {ρ0 : List Addr} {G0 H0 : Hp} {ρ : List Addr} {G : Hp} {σ : St} {H : Hp} {δ : DS} {S : Sto} {o : OutS} {S' : Sto} {D : Ends} {k : Bool → Sto → SO} {P : Bool → Hp → Prop} (I : IvS K cl ρ0 G0 H0 ρ G H δ σ S) (e : soB (f δ S) k = some (o, S')) (p : PstS K cl E ρ0 G0 H0 D S' o)
 (q : ∀ d S1, k d S1 = some (o, S') → ∀ ρ' G' H', GS ρ G H ρ' G' H' → SR K ρ' cl G' H' S1 → P d H') : t σ H P := by
 rcases zw8 e with ⟨c, em, rfl⟩ | ⟨d, S1, em, e⟩
 · exact h ρ G σ H δ S _ _ _ I.rs em (fun d hd => by cases hd) (fun c' hc ρ1 G1 H1 g1 s1 => by cases hc; exact p ρ1 G1 H1 (I.gs.trans g1) s1)
 · exact h ρ G σ H δ S _ _ _ I.rs em (fun d' hd => by cases hd; exact q _ _ e) (fun c' hc => by cases hc)
def ssIf (c : DS → Sto → SM Bool) (f g : DS → Sto → SO) : DS → Sto → SO := fun δ S => soB (c δ S) fun b S1 => if b = true then f δ S1 else g δ S1
theorem ss_if {tc : TT} {t u : TS} {c : DS → Sto → SM Bool} {f g : DS → Sto → SO} (hc : ST K cl E tc c) (h1 : SSt K cl E t f) (h2 : SSt K cl E u g) : SSt K cl E (tIfS tc t u) (ssIf c f g) := fun ρ0 G0 H0 ρ G σ H δ S o S' D I e p =>
 so_test hc I e p fun b S1 e1 ρ1 G1 H1 g1 s1 => by
  cases b with
  | true => exact h1 ρ0 G0 H0 ρ1 G1 σ H1 δ S1 o S' D (I.grow g1 s1) e1 p
  | false => exact h2 ρ0 G0 H0 ρ1 G1 σ H1 δ S1 o S' D (I.grow g1 s1) e1 p
def ssRet (f : DS → Sto → SM W) : DS → Sto → SO := fun δ S => soB (f δ S) fun d S1 => some (.rt d, S1)
theorem yi3 {t : TE} {f : DS → Sto → SM W} (h : SE K cl E t f) : SSt K cl E (tRet t) (ssRet f) := fun ρ0 G0 H0 ρ G σ H δ S o S' D I e p =>
 zs7 h I e p fun d S1 e1 v ρ1 G1 H1 g1 s1 dv => by
  cases e1
  exact p v ρ1 G1 H1 (I.gs.trans g1) s1 dv
def ssAsg (f : DS → Sto → SM W) (h : W → DS → Option DS) : DS → Sto → SO := fun δ S => soB (f δ S) fun d S1 => (h d δ).map fun δ' => (.nx δ', S1)
theorem zs6 {t : TE} {g : TG} {f : DS → Sto → SM W} {h : W → DS → Option DS} (h1 : SE K cl E t f) (h2 : ∀ ρ, DG K ρ g h) : SSt K cl E (tAsg t g) (ssAsg f h) := fun ρ0 G0 H0 ρ G σ H δ S o S' D I e p =>
 zs7 h1 I e p fun d S1 e1 v ρ1 G1 H1 g1 s1 dv => by
  obtain ⟨δ', e2, e3⟩ := Option.map_eq_some_iff.mp e1
  cases e3
  have I1 := I.grow g1 s1
  exact h2 ρ1 G1 H1 δ σ v d δ' _ I1.rs.rl dv e2 fun σ' R o => p σ' ρ1 G1 H1 (I1.sub R o)
def ssExpr (f : DS → Sto → SM W) : DS → Sto → SO := fun δ S => soB (f δ S) fun _ S1 => some (.nx δ, S1)
theorem zl4 {t : TE} {f : DS → Sto → SM W} (h : SE K cl E t f) : SSt K cl E (tDrop t) (ssExpr f) := fun ρ0 G0 H0 ρ G σ H δ S o S' D I e p =>
 zs7 h I e p fun d S1 e1 v ρ1 G1 H1 g1 s1 dv => by
  cases e1
  exact p σ ρ1 G1 H1 (I.grow g1 s1)
def ssFrz (i : Nat) (f : DS → Sto → SO) : DS → Sto → SO := fun δ S => f (frz i δ) S
theorem IvS.frz {ρ0 : List Addr} {G0 H0 : Hp} {ρ : List Addr} {G H : Hp} {δ : DS} {σ : St} {S : Sto} (i : Nat) (I : IvS K cl ρ0 G0 H0 ρ G H δ σ S) : ∃ G', IvS K cl ρ0 G0 H0 ρ G' H (L2.frz i δ) σ S := by
 unfold L2.frz
 split
 · rename_i ds h
   obtain ⟨o, h1, p, vs, rfl, h3, h4, h5⟩ := I.rs.rl.sl i _ h
   have h0 := I.ow i p ds h h1
   have g : Same G (upd G p (.lst vs)) := zu3 h3 _
   have pm := I.rs.ap i ds p h h1
   have sub : ∀ {j : Nat} {es : List W}, (δ.set i (.val (.list ds)))[j]? = some (.own es) → i ≠ j ∧ δ[j]? = some (.own es) := fun {j es} k => by
    rcases zn0 k with ⟨_, z, _⟩ | ⟨ne, k⟩
    · cases z
    · exact ⟨ne, k⟩
   refine ⟨upd G p (.lst vs), ⟨⟨⟨zt6 I.gs.s h4, by rw [List.length_set]; exact I.rs.rl.len, fun j s e => ?_, fun j k q ds' es' k1 k2 k3 k4 => I.rs.rl.apart j k q _ _ (sub k1).2 (sub k2).2 k3 k4⟩, ?_, fun j es q k1 k2 => I.rs.ap j es q (sub k1).2 k2⟩, ?_, fun j q es k1 k2 => I.ow j q es (sub k1).2 k2⟩⟩
   · rcases zn0 e with ⟨rfl, rfl, hl⟩ | ⟨ne, e⟩
     · exact ⟨_, h1, .ref p, rfl, .lst (SqL.of zc5) (h5.same g)⟩
     · obtain ⟨o, k1, k2⟩ := I.rs.rl.sl j s e
       refine ⟨o, k1, ?_⟩
       cases s with
       | no => trivial
       | val d =>
        obtain ⟨v, e1, e2⟩ := k2
        exact ⟨v, e1, e2.same g⟩
       | own es =>
        obtain ⟨q, ws, rfl, e2, e3, e4⟩ := k2
        refine ⟨q, ws, rfl, ?_, e3, e4.same g⟩
        rw [zc4]
        · exact e2
        · rintro rfl
          exact ne (I.rs.rl.apart i j q ds es h e h1 k1)
   · refine ⟨I.rs.st.len, I.rs.st.nd, fun n ob en => ?_⟩
     obtain ⟨a, k1, k2, k3⟩ := I.rs.st.ob n ob en
     have hap : a ≠ p := fun z => pm (z ▸ List.mem_of_getElem? k1)
     exact ⟨a, k1, by rw [zc4 hap]; exact k2, k3.move (List.prefix_refl _) g rfl fun dx d1 d2 => ⟨d2, by
      rw [zc4 (fun z => by rw [z, h4] at d2; cases d2)]
      exact d1⟩⟩
   · exact ⟨I.gs.r, I.gs.g.trans g, zt6 I.gs.s h4, I.gs.h, I.gs.k, fun b k1 k2 => by
      rw [zc4 (fun z => k1 (by rw [z]; exact h0))]
      exact I.gs.n b k1 k2, I.gs.f⟩
 · exact ⟨G, I⟩
theorem ss_frz {i : Nat} {t : TS} {f : DS → Sto → SO} (h : SSt K cl E t f) : SSt K cl E t (ssFrz i f) := fun ρ0 G0 H0 ρ G σ H δ S o S' D I e p => by
 obtain ⟨G', I'⟩ := I.frz i
 exact h ρ0 G0 H0 ρ G' σ H _ S o S' D I' e p
def ssFld (c f : Str) (fo fv : DS → Sto → SM W) : DS → Sto → SO := fun δ S => soB (fv δ S) fun d S1 => soB (fo δ S1) fun x S2 => (insAt c x S2).bind fun p => if p.2.length < 1000 then some (.nx δ, S2.set p.1 (.ins c (putW f d p.2))) else none
theorem ss_fld {c f : Str} {to tv : TE} {fo fv : DS → Sto → SM W} (hc : Cls K (cl c)) (hn : NoAttr K (cl c) f) (ho : SE K cl E to fo) (hv : SE K cl E tv fv) : SSt K cl E (sFld K to tv f) (ssFld c f fo fv) := fun ρ0 G0 H0 ρ G σ H δ S o S' D I e p =>
 zs7 hv I e p fun d S1 e1 v ρ1 G1 H1 g1 s1 dv => by
  have I1 := I.grow g1 s1
  refine zs7 ho I1 e1 p fun x S2 e2 u ρ2 G2 H2 g2 s2 du => ?_
  obtain ⟨⟨n, fs⟩, e3, e4⟩ := Option.bind_eq_some_iff.mp e2
  split at e4
  case isFalse => cases e4
  rename_i hl
  cases e4
  obtain ⟨rfl, e5⟩ := zv0 e3
  obtain ⟨a, rfl, ea⟩ := zl9 du
  obtain ⟨ga, dx, ws, k1, k2, k3, k4⟩ := s2.addr e5 ea
  have I2 := I1.grow g2 s2
  have hda : dx ≠ a := fun z => by rw [z, k1] at k3; cases k3
  obtain ⟨s3, g3⟩ := s2.put (x := .ins (cl c) dx (putF f v ws)) (o' := .ins c (putW f d fs)) g2.s e5 ea (fun b z => by cases z) ⟨dx, _, zc5, k2, by rw [zc4 hda]; exact k3, k4.putF ((dv.ext g2.r).same g2.g)⟩
  exact ⟨a, _, dx, ws, rfl, k1, hc, hn, by rw [← k4.length]; exact hl, p σ ρ2 G2 _ (I2.grow g3 s3)⟩
def zm9 (h : W → DS → Option DS) (fb : DS → Sto → SO) : List W → DS → Sto → SO
 | [], δ, S => some (.nx δ, S)
 | d :: ds, δ, S => (h d δ).bind fun δ2 => match fb δ2 S with
  | some (.nx δ', S') => zm9 h fb ds δ' S'
  | some (.ct δ', S') => zm9 h fb ds δ' S'
  | some (.bk δ', S') => some (.nx δ', S')
  | some (.rt d, S') => some (.rt d, S')
  | some (.xc c, S') => some (.xc c, S')
  | none => none
def ssFor (fi : DS → Sto → SM (List W)) (h : W → DS → Option DS) (fb : DS → Sto → SO) : DS → Sto → SO := fun δ S => soB (fi δ S) fun ds S1 => zm9 h fb ds δ S1
theorem zv3 {wi : TI} {g : TG} {tb : TS} {fi : DS → Sto → SM (List W)} {h : W → DS → Option DS} {fb : DS → Sto → SO} (hi : SIp K cl E wi fi) (hg : ∀ ρ, DG K ρ g h) (hb : SSt K cl E tb fb) : SSt K cl E (tFor wi g tb) (ssFor fi h fb) := fun ρ0 G0 H0 ρ G σ H δ S o S' D I e p => by
 rcases zw8 e with ⟨c, em, rfl⟩ | ⟨ds, S1, em, e⟩
 · exact hi ρ G σ H δ S _ _ _ I.rs em (fun d hd => by cases hd) (fun c' hc ρ1 G1 H1 g1 s1 => by cases hc; exact p ρ1 G1 H1 (I.gs.trans g1) s1)
 refine hi ρ G σ H δ S _ _ _ I.rs em (fun ds' hd => ?_) (fun c' hc => by cases hc)
 cases hd
 intro J ρ1 G1 H1 g1 s1 it
 refine ⟨fun i m σ H => m = ds.length - i ∧ i ≤ ds.length ∧ ∃ ρ2 G2 δ2 S2, IvS K cl ρ0 G0 H0 ρ2 G2 H δ2 σ S2 ∧ ρ1 <+: ρ2 ∧ Same G1 G2 ∧ zm9 h fb (ds.drop i) δ2 S2 = some (o, S'), ⟨ds.length, by simp, Nat.zero_le _, ρ1, G1, δ, S1, I.grow g1 s1, List.prefix_refl _, .refl _, by simpa using e⟩, ?_⟩
 rintro i m σ2 H2 ⟨rfl, hil, ρ2, G2, δ2, S2, I2, pr2, s2, e2⟩
 have ia := it i G2 H2 s2 I2.gs.s
 by_cases hlt : i < ds.length
 · refine .inr ?_
   obtain ⟨go, step⟩ := ia.1 ds[i] (List.getElem?_eq_getElem hlt)
   rw [List.drop_eq_getElem_cons hlt] at e2
   obtain ⟨δ3, e3, e4⟩ := Option.bind_eq_some_iff.mp e2
   have turn : ∀ (P : Ends) (o1 : OutS) (S3 : Sto), fb δ3 S2 = some (o1, S3) → (∀ G3 H3, Gr G2 H2 G3 H3 → PstS K cl E ρ2 G3 H0 P S3 o1) → ∀ x H', J.yld i H2 x H' → g x σ2 H' fun σ2 H2 => tb P σ2 H2 := fun P o1 S3 ef hp x H' y => by
    obtain ⟨G3, g3, dx⟩ := step x H' y
    have I3 := I2.grow (.of g3) (I2.rs.st.grow g3)
    refine hg ρ2 G3 H' δ2 σ2 x _ δ3 _ I3.rs.rl (dx.ext pr2) e3 fun σ3 R3 o3 => ?_
    exact hb ρ2 G3 H0 ρ2 G3 σ3 H' δ3 S2 o1 S3 P (I3.sub R3 o3).base ef (hp G3 H' g3)
   have back : ∀ {G3 H3 : Hp}, Gr G2 H2 G3 H3 → ∀ {ρ4 : List Addr} {G4 H4 : Hp} {σ4 : St} {δ4 : DS} {S4 : Sto}, IvS K cl ρ2 G3 H0 ρ4 G4 H4 δ4 σ4 S4 → IvS K cl ρ0 G0 H0 ρ4 G4 H4 δ4 σ4 S4 ∧ ρ1 <+: ρ4 ∧ Same G1 G4 := fun {G3 H3} g3 {ρ4 G4 H4 σ4 δ4 S4} I4 => ⟨I4.rebase (I2.gs.trans (.of g3)), pr2.trans I4.gs.r, s2.trans (g3.g.trans I4.gs.g)⟩
   cases ef : fb δ3 S2 with
   | none => rw [ef] at e4; cases e4
   | some r =>
    obtain ⟨o1, S3⟩ := r
    rw [ef] at e4
    cases o1 with
    | nx δ' =>
     exact ⟨go, fun σ' H' => ∃ ρ' G', IvS K cl ρ0 G0 H0 ρ' G' H' δ' σ' S3 ∧ ρ1 <+: ρ' ∧ Same G1 G', fun σ' H' ⟨ρ', G', I', q1, q2⟩ => ⟨ds.length - (i + 1), by omega, rfl, hlt, ρ', G', δ', S3, I', q1, q2, e4⟩, turn _ _ _ ef fun G3 H3 g3 σ5 ρ5 G5 H5 I5 => ⟨ρ5, G5, back g3 I5⟩⟩
    | ct δ' =>
     exact ⟨go, fun σ' H' => ∃ ρ' G', IvS K cl ρ0 G0 H0 ρ' G' H' δ' σ' S3 ∧ ρ1 <+: ρ' ∧ Same G1 G', fun σ' H' ⟨ρ', G', I', q1, q2⟩ => ⟨ds.length - (i + 1), by omega, rfl, hlt, ρ', G', δ', S3, I', q1, q2, e4⟩, turn _ _ _ ef fun G3 H3 g3 σ5 ρ5 G5 H5 I5 => ⟨ρ5, G5, back g3 I5⟩⟩
    | bk δ' =>
     cases e4
     exact ⟨go, fun _ _ => False, fun _ _ z => z.elim, turn _ _ _ ef fun G3 H3 g3 σ5 ρ5 G5 H5 I5 => p σ5 ρ5 G5 H5 (back g3 I5).1⟩
    | rt d =>
     cases e4
     exact ⟨go, fun _ _ => False, fun _ _ z => z.elim, turn _ _ _ ef fun G3 H3 g3 v ρ5 G5 H5 g5 s5 dv => p v ρ5 G5 H5 ((I2.gs.trans (.of g3)).rebase g5) s5 dv⟩
    | xc c =>
     cases e4
     exact ⟨go, fun _ _ => False, fun _ _ z => z.elim, turn _ _ _ ef fun G3 H3 g3 ρ5 G5 H5 g5 s5 => p ρ5 G5 H5 ((I2.gs.trans (.of g3)).rebase g5) s5⟩
 · have hi' : i = ds.length := by omega
   subst hi'
   rw [List.drop_length] at e2
   cases e2
   exact .inl ⟨ia.2 (Nat.le_refl _), p σ2 ρ2 G2 H2 I2⟩
def zp8 (c : DS → Sto → SM Bool) (fb : DS → Sto → SO) : Nat → DS → Sto → SO
 | 0, _, _ => none
 | n + 1, δ, S => soB (c δ S) fun b S1 => if b = true then match fb δ S1 with
  | some (.nx δ', S') => zp8 c fb n δ' S'
  | some (.ct δ', S') => zp8 c fb n δ' S'
  | some (.bk δ', S') => some (.nx δ', S')
  | some (.rt d, S') => some (.rt d, S')
  | some (.xc x, S') => some (.xc x, S')
  | none => none
  else some (.nx δ, S1)
theorem ss_while {n : Nat} {tc : TT} {tb : TS} {c : DS → Sto → SM Bool} {fb : DS → Sto → SO} (hc : ST K cl E tc c) (hb : SSt K cl E tb fb) : SSt K cl E (tWhile tc tb) (zp8 c fb n) := fun ρ0 G0 H0 ρ G σ H δ S o S' D I e p => by
 refine ⟨fun m σ H => ∃ ρ G δ S, IvS K cl ρ0 G0 H0 ρ G H δ σ S ∧ zp8 c fb m δ S = some (o, S'), ⟨n, ρ, G, δ, S, I, e⟩, ?_⟩
 rintro m σ2 H2 ⟨ρ2, G2, δ2, S2, I2, e2⟩
 cases m with
 | zero => cases e2
 | succ m =>
  refine so_test hc I2 e2 p fun b S3 e3 ρ3 G3 H3 g3 s3 => ?_
  have I3 := I2.grow g3 s3
  cases b with
  | false => cases e3; exact p σ2 ρ3 G3 H3 I3
  | true =>
   rw [if_pos rfl] at e3 ⊢
   cases ef : fb δ2 S3 with
   | none => rw [ef] at e3; cases e3
   | some r =>
    obtain ⟨o1, S4⟩ := r
    rw [ef] at e3
    cases o1 with
    | nx δ' => exact ⟨fun σ' H' => ∃ ρ' G', IvS K cl ρ0 G0 H0 ρ' G' H' δ' σ' S4, fun σ' H' ⟨ρ', G', I'⟩ => ⟨m, Nat.lt_succ_self _, ρ', G', δ', S4, I', e3⟩, hb ρ0 G0 H0 ρ3 G3 σ2 H3 δ2 S3 _ _ _ I3 ef fun σ5 ρ5 G5 H5 I5 => ⟨ρ5, G5, I5⟩⟩
    | ct δ' => exact ⟨fun σ' H' => ∃ ρ' G', IvS K cl ρ0 G0 H0 ρ' G' H' δ' σ' S4, fun σ' H' ⟨ρ', G', I'⟩ => ⟨m, Nat.lt_succ_self _, ρ', G', δ', S4, I', e3⟩, hb ρ0 G0 H0 ρ3 G3 σ2 H3 δ2 S3 _ _ _ I3 ef fun σ5 ρ5 G5 H5 I5 => ⟨ρ5, G5, I5⟩⟩
    | bk δ' => cases e3; exact ⟨fun _ _ => False, fun _ _ z => z.elim, hb ρ0 G0 H0 ρ3 G3 σ2 H3 δ2 S3 _ _ _ I3 ef fun σ5 ρ5 G5 H5 I5 => p σ5 ρ5 G5 H5 I5⟩
    | rt d => cases e3; exact ⟨fun _ _ => False, fun _ _ z => z.elim, hb ρ0 G0 H0 ρ3 G3 σ2 H3 δ2 S3 _ _ _ I3 ef p⟩
    | xc x => cases e3; exact ⟨fun _ _ => False, fun _ _ z => z.elim, hb ρ0 G0 H0 ρ3 G3 σ2 H3 δ2 S3 _ _ _ I3 ef p⟩
def outS : SO → SM W
 | some (.rt d, S) => some (.ok d, S)
 | some (.nx _, S) => some (.ok .none, S)
 | some (.xc c, S) => some (.xc c, S)
 | _ => none
def bodyS (a n : Nat) (fb : DS → Sto → SO) : List W → Sto → SM W := fun ds S => if ds.length = a then outS (fb (startD n ds) S) else none
theorem zj5 {a n : Nat} {fb : DS → Sto → SO} {ds : List W} {S : Sto} {r : Rs W × Sto} (h : bodyS a n fb ds S = some r) : ds.length = a := by
 unfold bodyS at h
 split at h
 · assumption
 · cases h
theorem s_fn {t : TS} {fb : DS → Sto → SO} {N : List Str} {a n : Nat} {vs : List V} {H : Hp} {Q : VK} {E : XK} (hn : N.length = n) (h : SSt K cl E t fb) (hsp : spX K cl (bodyS a n fb) vs H Q E) : t { nx := fun _ H' => Q .non H', rt := Q } (start N vs) H := by
 subst hn
 obtain ⟨ρ, G, S, ds, r, S', s, sr, da, e, q, qx⟩ := hsp
 have R := start_rl (N := N) s da
 have I : IvS K cl ρ G H ρ G H (startD N.length ds) (start N vs) S := ⟨⟨R, sr, fun i ds' p h1 => absurd h1 zs1⟩, .refl s, fun i p ds' h1 => absurd h1 zs1⟩
 unfold bodyS at e
 rw [if_pos (zj5 (show bodyS a N.length fb ds S = some (r, S') from e))] at e
 cases ef : fb (startD N.length ds) S with
 | none => rw [ef] at e; cases e
 | some o =>
  obtain ⟨o, S1⟩ := o
  rw [ef] at e
  refine h ρ G H ρ G _ H _ S o S1 _ I ef ?_
  cases o with
  | nx δ => cases e; exact fun σ' ρ' G' H' I' => q _ rfl _ ρ' G' H' I'.gs I'.rs.st .non
  | rt d' => cases e; exact fun v ρ' G' H' g s dv => q _ rfl v ρ' G' H' g s dv
  | xc c => cases e; exact fun ρ' G' H' g s => qx _ rfl ρ' G' H' g s
  | bk _ => cases e
  | ct _ => cases e
theorem zp0 {f : List W → Sto → SM W} {a : Nat} {vs : List V} {H : Hp} {Q : VK} {E : XK} (hf : ∀ ds S r, f ds S = some r → ds.length = a) (h : sp0 K cl f vs H Q E) : vs.length = a := by
 obtain ⟨ρ, G, S, ds, r, S', s, sr, da, e, q⟩ := h
 rw [da.length]
 exact hf ds S _ e
theorem s_fn0 {t : TS} {fb : DS → Sto → SO} {N : List Str} {a n : Nat} {vs : List V} {H : Hp} {Q : VK} {E : XK} (hn : N.length = n) (h : SSt K cl E0 t fb) (hsp : sp0 K cl (bodyS a n fb) vs H Q E) : t { nx := fun _ H' => Q .non H', rt := Q } (start N vs) H := by
 obtain ⟨ρ, G, S, ds, d, S', s, sr, da, e, q⟩ := hsp
 exact s_fn (E := E0) hn h ⟨ρ, G, S, ds, .ok d, S', s, sr, da, e, (fun d' hd => by cases hd; exact q), (fun c hc => by cases hc)⟩
theorem sp0_no {g : List W → Sto → SM W} {vs : List V} {H : Hp} {Q : VK} {E : XK} (hg : ∀ ds S, g ds S = none) (h : sp0 K cl g vs H Q E) : False := by
 obtain ⟨ρ, G, S, ds, r, S', s, sr, da, e, q⟩ := h
 rw [hg] at e
 cases e
theorem FnOk.no0 {P : Program} {w : World} {mg : Str → Option Value} {base : Heap} {CX : CXT} {k : Nat} {f : Addr} {fd : FuncData} {ps : List Str} {g : List W → Sto → SM W} (hg : ∀ ds S, g ds S = none) : FnOk P w K mg base CX k f fd ps (sp0 K cl g) :=
 ⟨fun _ _ _ _ h => (sp0_no hg h).elim, fun _ _ _ _ _ _ _ _ _ _ _ _ _ h => (sp0_no hg h).elim⟩
end
end L2
set_option Elab.async false
set_option linter.all false
set_option maxRecDepth 100000
namespace L2
open PySem PySem.Spec PyProof.Rows
section
variable {X : Cx} {pins : List (Addr × Obj)} {σ : St} {H : Hp} {s : Shared} {a : Addr} {kvs : List (Key × V)} {k : Key} {u : Value} {A : Around} {E : Value → Shared → Prop}
end
section
variable {X : Cx} {o e f : Expr} {td ty tx : TE} {apos cpos : Pos}
end
section
variable {prog : Program} {w : World} {A : Around} {E : Value → Shared → Prop} {s : Shared}
end
section
variable {X : Cx} {pos : Pos}
end
end L2
set_option Elab.async false
set_option linter.all false
set_option maxRecDepth 100000
namespace L2
open PySem PySem.Spec PyProof.Rows
section
variable {K : PySem.W.Frag} {ρ : List Addr}
def vOf : W → Option V
 | .none => some .non
 | .bool b => some (.bl b)
 | .int i => some (.int i)
 | .str x => some (.str x)
 | _ => none
def vsOf : List W → Option (List V)
 | [] => some []
 | d :: ds => (vOf d).bind fun v => (vsOf ds).map (v :: ·)
theorem yb7 {H : Hp} {v u : V} {d : W} (h : Dw K ρ H v d) (e : vOf d = some u) : v = u ∧ flatV u = true := by
 cases h <;> first | (cases e; exact ⟨rfl, rfl⟩) | cases e
theorem zu9 {H : Hp} : ∀ {vs us : List V} {ds : List W}, DwAll K ρ H vs ds → vsOf ds = some us → vs = us ∧ us.all flatV = true
 | _, _, _, .nil, e => by cases e; exact ⟨rfl, rfl⟩
 | _, _, _, .cons h t, e => by
  obtain ⟨u, e1, e⟩ := Option.bind_eq_some_iff.mp e
  obtain ⟨us, e2, rfl⟩ := Option.map_eq_some_iff.mp e
  obtain ⟨h1, h2⟩ := yb7 h e1
  obtain ⟨h3, h4⟩ := zu9 t e2
  exact ⟨by rw [h1, h3], by rw [List.all_cons, h2, h4]; rfl⟩
def cIn (d e : W) : Option Bool := (seqD e).bind fun ds => (vOf d).bind fun v => (vsOf ds).map fun vs => inV v vs
def zv2 (d e : W) : Option Bool := (cIn d e).map (!·)
theorem cIn_core {H : Hp} {x y : V} {d e : W} {b : Bool} (hx : Dw K ρ H x d) (hy : Dw K ρ H y e) (h : cIn d e = some b) : ∃ p xs, y = .ref p ∧ (SqL K H p xs ∨ SqT K H p xs) ∧ flatV x = true ∧ xs.all flatV = true ∧ inV x xs = b := by
 obtain ⟨ds, e1, h⟩ := Option.bind_eq_some_iff.mp h
 obtain ⟨v, e2, h⟩ := Option.bind_eq_some_iff.mp h
 obtain ⟨vs, e3, rfl⟩ := Option.map_eq_some_iff.mp h
 obtain ⟨rfl, f1⟩ := yb7 hx e2
 cases hy with
 | lst sq da =>
  cases e1
  obtain ⟨rfl, f2⟩ := zu9 da e3
  exact ⟨_, _, rfl, .inl sq, f1, f2, rfl⟩
 | tup sq da =>
  cases e1
  obtain ⟨rfl, f2⟩ := zu9 da e3
  exact ⟨_, _, rfl, .inr (SqT.of sq), f1, f2, rfl⟩
 | _ => cases e1
theorem db_in : DB K ρ (rIn K false) cIn := fun H x y d e b Q hx hy hg q => by
 obtain ⟨p, xs, h1, h2, h3, h4, rfl⟩ := cIn_core hx hy hg
 exact ⟨p, xs, h1, h2, h3, h4, q⟩
def bsOf : List W → Option (List Bool)
 | [] => some []
 | d :: ds => (asB d).bind fun b => (bsOf ds).map (b :: ·)
theorem bsOf_eq {G : Hp} : ∀ {vs : List V} {ds : List W} {bs : List Bool}, DwAll K ρ G vs ds → bsOf ds = some bs → vs = bs.map V.bl
 | _, _, _, .nil, e => by cases e; rfl
 | _, _, _, .cons h t, e => by
  obtain ⟨i, e1, e⟩ := Option.bind_eq_some_iff.mp e
  obtain ⟨ms, e2, rfl⟩ := Option.map_eq_some_iff.mp e
  cases zy5 e1
  cases dp_bl h
  rw [bsOf_eq t e2]
  rfl
def gAny (d : W) : Option W := (listD d).bind fun ds => (bsOf ds).map fun bs => .bool (bs.any id)
theorem dc_any : DCk K ρ (rAny K) gAny := fun G H x d c Q s hx hg q => by
 obtain ⟨ds, e1, hg⟩ := Option.bind_eq_some_iff.mp hg
 obtain ⟨bs, e2, rfl⟩ := Option.map_eq_some_iff.mp hg
 cases zw3 e1
 obtain ⟨p, vs, rfl, sq, da⟩ := zz0 s hx
 rw [bsOf_eq da e2] at sq
 exact ⟨p, bs, rfl, sq, q _ G H (.refl s) (.bl _)⟩
end
section
variable {K : PySem.W.Frag} {cl : Str → Addr} {E : XK}
def lstAt (x : W) (S : Sto) : Option (Nat × List W) := match obAt x S with
 | some (n, .lst ds) => some (n, ds)
 | _ => none
theorem zm1 {x : W} {S : Sto} {n : Nat} {ds : List W} (h : lstAt x S = some (n, ds)) : x = .ref n ∧ S[n]? = some (.lst ds) := by
 unfold lstAt at h
 split at h
 · rename_i n' ds' e
   cases h
   exact zk5 e
 · cases h
def seqS (x : W) (S : Sto) : Option (List W) := match lstAt x S with
 | some (_, ds) => some ds
 | none => seqD x
theorem seqS_read {ρ : List Addr} {G H : Hp} {S : Sto} {v : V} {x : W} {ds : List W} (sg : Same G H) (s : SR K ρ cl G H S) (dv : Dw K ρ G v x) (h : seqS x S = some ds) : ∃ p vs, v = .ref p ∧ (SqL K H p vs ∨ SqT K H p vs) ∧ DwAll K ρ G vs ds := by
 unfold seqS at h
 split at h
 · rename_i n ds' e
   cases h
   obtain ⟨rfl, e2⟩ := zm1 e
   obtain ⟨a, rfl, ea⟩ := zl9 dv
   obtain ⟨ga, vs, k1, k2⟩ := s.addr e2 ea
   exact ⟨a, vs, rfl, .inl (SqL.of k1), k2⟩
 · cases dv with
   | lst sq da => cases h; exact ⟨_, _, rfl, .inl (sg.seq sq), da⟩
   | tup sq da => cases h; exact ⟨_, _, rfl, .inr (sg.tup (SqT.of sq)), da⟩
   | _ => cases h
def gIxS (x y : W) (S : Sto) : Option W := match lstAt x S with
 | some (_, ds) => (asI y).bind fun i => atI ds i
 | none => gIx x y
def sIx (fa fb : DS → Sto → SM W) : DS → Sto → SM W := fun δ S => sBind (fa δ S) fun x S1 => sBind (fb δ S1) fun y S2 => sOk (gIxS x y S2) S2
def gLenS (x : W) (S : Sto) : Option W := match lstAt x S with
 | some (_, ds) => some (.int ds.length)
 | none => gLen x
def sLen (fa : DS → Sto → SM W) : DS → Sto → SM W := fun δ S => sBind (fa δ S) fun x S1 => sOk (gLenS x S1) S1
theorem se_len {ta : TE} {fa : DS → Sto → SM W} (ha : SE K cl E ta fa) : SE K cl E (tCB (rLenA K) (tCons ta tNil)) (sLen fa) := fun ρ G σ H δ S r' S' Q R e q qx =>
 zl3 ha R e (fun x S2 e2 v ρ2 G2 H2 g2 s2 dv => by
  obtain ⟨c, e3, rfl, rfl⟩ := zk0 e2
  unfold gLenS at e3
  split at e3
  · rename_i n ds e4
    cases e3
    obtain ⟨rfl, e7⟩ := zm1 e4
    obtain ⟨a, rfl, ea⟩ := zl9 dv
    obtain ⟨ga, vs, k1, k2⟩ := s2.addr e7 ea
    exact .inl ⟨a, vs, rfl, .inl (SqL.of k1), by rw [k2.length]; exact q _ rfl _ ρ2 G2 H2 g2 s2 (.int _)⟩
  · exact zt2 G2 H2 v x c Q g2.s (.inl dv) e3 fun w G3 H3 g3 dw => q c rfl w ρ2 G3 H3 (g2.trans (.of g3)) (s2.grow g3) dw) qx
def sC1 (g : W → Option W) (fa : DS → Sto → SM W) : DS → Sto → SM W := fun δ S => sBind (fa δ S) fun x S1 => sOk (g x) S1
theorem se_c1 {r : List V → Hp → VK → Prop} {g : W → Option W} {ta : TE} {fa : DS → Sto → SM W} (hr : ∀ ρ, DCk K ρ r g) (ha : SE K cl E ta fa) : SE K cl E (tCB r (tCons ta tNil)) (sC1 g fa) := fun ρ G σ H δ S r' S' Q R e q qx =>
 zl3 ha R e (fun x S2 e2 v ρ2 G2 H2 g2 s2 dv => by
  obtain ⟨c, e3, rfl, rfl⟩ := zk0 e2
  exact hr ρ2 G2 H2 v x c Q g2.s (.inl dv) e3 fun w G3 H3 g3 dw => q c rfl w ρ2 G3 H3 (g2.trans (.of g3)) (s2.grow g3) dw) qx
def gIsiS (T : String) (x : W) (S : Sto) : Option W := match lstAt x S with
 | some _ => if T = "list" then some (.bool true) else none
 | none => match x with
  | .list _ => if T = "list" then some (.bool true) else none
  | .tuple _ => if T = "tuple" then some (.bool true) else none
  | _ => gIsi T x
def rIsiB (K : PySem.W.Frag) : List V → Hp → VK → Prop := fun xs H Q => rIsi xs H Q ∨ rIsiT K xs H Q ∨ rIsiL K xs H Q
theorem call_isiB {X : Cx} {K : PySem.W.Frag} (h : X.K = K) : CallR X (.builtin "isinstance") (rIsiB K) := call_isiK.or ((call_isiTK h).or (call_isiLK h))
def sIsi (T : String) (fa : DS → Sto → SM W) : DS → Sto → SM W := fun δ S => sBind (fa δ S) fun x S1 => sOk (gIsiS T x S1) S1
theorem zv9 (c : Value) (h : (c == c) = true) : PySem.W.kitOne K c c = some true := by
 unfold PySem.W.kitOne
 rw [if_pos h]
def zo5 (fo fv : DS → Sto → SM W) : DS → Sto → SO := fun δ S => soB (fo δ S) fun x S1 => if (lstAt x S1).isSome = true then soB (fv δ S1) fun d S2 => (lstAt x S2).bind fun p => if p.2.length < sizeLine then some (.nx δ, S2.set p.1 (.lst (p.2 ++ [d]))) else none else none
theorem zw4 {ρ ρ' : List Addr} {n : Nat} {a : Addr} (h : ρ <+: ρ') (e : ρ[n]? = some a) : ρ'[n]? = some a := by
 obtain ⟨t, rfl⟩ := h
 rw [List.getElem?_append_left (List.getElem?_eq_some_iff.mp e).1]
 exact e
theorem zx9 {to tv : TE} {fo fv : DS → Sto → SM W} (ho : SE K cl E to fo) (hv : SE K cl E tv fv) : SSt K cl E (tDrop (tBM K "list" yd4 to (tCons tv tNil))) (zo5 fo fv) := fun ρ0 G0 H0 ρ G σ H δ S o S' D I e p =>
 zs7 ho I e p fun x S1 e1 u ρ1 G1 H1 g1 s1 du => by
  split at e1
  case isFalse => cases e1
  rename_i hx
  obtain ⟨⟨n, ds0⟩, hx0⟩ := Option.isSome_iff_exists.mp hx
  obtain ⟨rfl, h0⟩ := zm1 hx0
  obtain ⟨a, rfl, ea⟩ := zl9 du
  obtain ⟨_, vs0, k0, _⟩ := s1.addr h0 ea
  have I1 := I.grow g1 s1
  refine ⟨.inl ⟨rfl, vs0, SqL.of k0⟩, zs7 hv I1 e1 p fun d S2 e2 v ρ2 G2 H2 g2 s2 dv => ?_⟩
  obtain ⟨⟨m, ds⟩, e3, e4⟩ := Option.bind_eq_some_iff.mp e2
  split at e4
  case isFalse => cases e4
  rename_i hl
  cases e4
  obtain ⟨em, e5⟩ := zm1 e3
  cases em
  have ea2 := zw4 g2.r ea
  obtain ⟨ga, vs, k1, k2⟩ := s2.addr e5 ea2
  obtain ⟨s3, g3⟩ := s2.put (x := .lst (vs ++ [v])) (o' := .lst (ds ++ [d])) g2.s e5 ea2 (fun b z => by cases z) ⟨_, zc5, k2.app (.cons dv .nil)⟩
  exact ⟨a, vs, v, rfl, rfl, k1, by rw [k2.length]; exact hl, p σ ρ2 G2 _ ((I1.grow g2 s2).grow g3 s3)⟩
def keyOf : W → Option Key
 | .int i => some (Sum.inl i)
 | .str x => some (Sum.inr x)
 | _ => none
theorem zz9 {ρ : List Addr} {G : Hp} {v : V} {d : W} {k : Key} (h : Dw K ρ G v d) (e : keyOf d = some k) : v = kV k := by
 cases h <;> first | (cases e; rfl) | cases e
def valW {κ : Type} [DecidableEq κ] (kvs : List (κ × W)) (k : κ) : Option W := (kvs.find? fun kv => decide (kv.1 = k)).map (·.2)
def putKW {κ : Type} [DecidableEq κ] (kvs : List (κ × W)) (k : κ) (v : W) : List (κ × W) := if (kvs.any fun kv => decide (kv.1 = k)) = true then kvs.map fun kv => if kv.1 = k then (kv.1, v) else kv else kvs ++ [(k, v)]
theorem KvR.val {κ : Type} [DecidableEq κ] {ρ : List Addr} {G : Hp} {k : κ} : ∀ {l : List (κ × W)} {m : List (κ × V)}, KvR K ρ G l m → (∀ d, valW l k = some d → ∃ v, valV m k = some v ∧ Dw K ρ G v d) ∧ (valW l k = none → valV m k = none)
 | _, _, .nil => ⟨(fun d e => by cases e), fun _ => rfl⟩
 | _, _, .cons (k := j) (d := x0) (l := l) (m := m) a b => by
  obtain ⟨h1, h2⟩ := KvR.val (k := k) b
  by_cases hj : j = k
  · subst hj
    refine ⟨fun d e => ?_, fun e => ?_⟩
    · have e' : valW ((j, x0) :: l) j = some x0 := by simp [valW, List.find?_cons]
      rw [e'] at e
      cases e
      exact ⟨_, zu6 rfl, a⟩
    · simp [valW, List.find?_cons] at e
  · refine ⟨fun d e => ?_, fun e => ?_⟩
    · rw [zs2 hj]
      exact h1 d (by simpa [valW, List.find?_cons, hj] using e)
    · rw [zs2 hj]
      exact h2 (by simpa [valW, List.find?_cons, hj] using e)
theorem KvR.any {κ : Type} [DecidableEq κ] {ρ : List Addr} {G : Hp} {k : κ} : ∀ {l : List (κ × W)} {m : List (κ × V)}, KvR K ρ G l m → (l.any fun kv => decide (kv.1 = k)) = m.any fun kv => decide (kv.1 = k)
 | _, _, .nil => rfl
 | _, _, .cons a b => by rw [List.any_cons, List.any_cons, KvR.any b]
theorem KvR.repl {κ : Type} [DecidableEq κ] {ρ : List Addr} {G : Hp} {k : κ} {v : V} {d : W} (h : Dw K ρ G v d) : ∀ {l : List (κ × W)} {m : List (κ × V)}, KvR K ρ G l m → KvR K ρ G (l.map fun kv => if kv.1 = k then (kv.1, d) else kv) (m.map fun kv => if kv.1 = k then (kv.1, v) else kv)
 | _, _, .nil => .nil
 | _, _, .cons (k := j) a b => by
  rw [List.map_cons, List.map_cons]
  by_cases hj : j = k
  · simp only [if_pos hj]
    exact .cons h (KvR.repl h b)
  · simp only [if_neg hj]
    exact .cons a (KvR.repl h b)
theorem KvR.snoc {κ : Type} {ρ : List Addr} {G : Hp} {k : κ} {v : V} {d : W} (h : Dw K ρ G v d) : ∀ {l : List (κ × W)} {m : List (κ × V)}, KvR K ρ G l m → KvR K ρ G (l ++ [(k, d)]) (m ++ [(k, v)])
 | _, _, .nil => .cons h .nil
 | _, _, .cons a b => .cons a (KvR.snoc h b)
theorem KvR.put {κ : Type} [DecidableEq κ] {ρ : List Addr} {G : Hp} {k : κ} {v : V} {d : W} (h : Dw K ρ G v d) {l : List (κ × W)} {m : List (κ × V)} (r : KvR K ρ G l m) : KvR K ρ G (putKW l k d) (putK m k v) := by
 unfold putKW putK
 rw [r.any]
 split
 · exact r.repl h
 · exact r.snoc h
def lookS (S : Sto) (n : Nat) : Option (List W) := match S[n]? with
 | some (.lst ds) => some ds
 | _ => none
def pysG (f : W → Option PyData) : List W → Option (List PyData)
 | [] => some []
 | d :: ds => (f d).bind fun x => (pysG f ds).map (x :: ·)
def pyS (S : Sto) : Nat → W → Option PyData
 | 0, _ => none
 | n + 1, d => match d with
  | .list ds => (pysG (pyS S n) ds).map .list
  | .tuple ds => (pysG (pyS S n) ds).map .tuple
  | .ref m => (lookS S m).bind fun ds => (pysG (pyS S n) ds).map .list
  | d => d.py
theorem ya4 {H : Hp} {ρ : List Addr} {G : Hp} {f : W → Option PyData} (hf : ∀ v d x, Dw K ρ G v d → f d = some x → Dp K H v x) : ∀ {vs : List V} {ds : List W} {xs : List PyData}, DwAll K ρ G vs ds → pysG f ds = some xs → DpAll K H vs xs
 | _, _, _, .nil, e => by cases e; exact .nil
 | _, _, _, .cons h t, e => by
  obtain ⟨x, e1, e⟩ := Option.bind_eq_some_iff.mp e
  obtain ⟨ys, e2, rfl⟩ := Option.map_eq_some_iff.mp e
  exact .cons (hf _ _ _ h e1) (ya4 hf t e2)
theorem zx0 {ρ : List Addr} {G H : Hp} {S : Sto} (sg : Same G H) (s : SR K ρ cl G H S) : ∀ (n : Nat) (v : V) (d : W) (x : PyData), Dw K ρ G v d → pyS S n d = some x → Dp K H v x
 | 0, _, _, _, _, e => by cases e
 | n + 1, v, d, x, h, e => by
  cases h with
  | lst sq da =>
   obtain ⟨xs, e1, rfl⟩ := Option.map_eq_some_iff.mp e
   exact .lst (sg.seq sq) (ya4 (fun v d x => zx0 sg s n v d x) da e1)
  | tup sq da =>
   obtain ⟨xs, e1, rfl⟩ := Option.map_eq_some_iff.mp e
   exact .tup (sg.tup (SqT.of sq)) (ya4 (fun v d x => zx0 sg s n v d x) da e1)
  | ref ea =>
   obtain ⟨ds, e1, e2⟩ := Option.bind_eq_some_iff.mp e
   obtain ⟨xs, e3, rfl⟩ := Option.map_eq_some_iff.mp e2
   unfold lookS at e1
   split at e1
   · rename_i ds' h1
     cases e1
     obtain ⟨ga, vs, k1, k2⟩ := s.addr h1 ea
     exact .lst (SqL.of k1) (ya4 (fun v d x => zx0 sg s n v d x) k2 e3)
   · cases e1
  | non => exact Dw.dp (ρ := ρ) .non e
  | bl b => exact Dw.dp (ρ := ρ) (.bl b) e
  | int i => exact Dw.dp (ρ := ρ) (.int i) e
  | str y => exact Dw.dp (ρ := ρ) (.str y) e
def cEqS (neg : Bool) (d e : W) (S : Sto) : Option Bool := match scD d e with
 | some b => some (if neg then !b else b)
 | none => (pyS S 24 d).bind fun a => (pyS S 24 e).bind fun b => if (a.canLay0 && b.canLay0 && decide (a.depth ≤ 64)) = true then some (if neg then !(PyData.eqv a b) else PyData.eqv a b) else none
def rEqB (K : PySem.W.Frag) (neg : Bool) : R2 := if neg then rNeA K else rEqA K
def sEq (neg : Bool) (fa fb : DS → Sto → SM W) : DS → Sto → SM Bool := fun δ S => sBind (fa δ S) fun x S1 => sBind (fb δ S1) fun y S2 => sOk (cEqS neg x y S2) S2
theorem eqS_core {ρ : List Addr} {G H : Hp} {S : Sto} {neg : Bool} {v u : V} {x y : W} {b : Bool} {Q : VK} (sg : Same G H) (s : SR K ρ cl G H S) (dv : Dw K ρ G v x) (du : Dw K ρ G u y) (h : cEqS neg x y S = some b) (q : Q (.bl b) H) : rEqB K neg v u H Q := by
 unfold cEqS at h
 split at h
 · rename_i b' hb
   cases h
   obtain ⟨h1, h2⟩ := yi6 (dv.same sg) (du.same sg) hb
   cases neg with
   | false => exact .inl ⟨h1, by rw [h2]; exact q⟩
   | true => exact .inl ⟨h1, by rw [h2]; exact q⟩
 · obtain ⟨a, ea, h⟩ := Option.bind_eq_some_iff.mp h
   obtain ⟨c, ec, h⟩ := Option.bind_eq_some_iff.mp h
   split at h
   · rename_i hc
     cases h
     simp only [Bool.and_eq_true, decide_eq_true_eq] at hc
     cases neg with
     | false => exact .inr ⟨a, c, zx0 sg s 24 _ _ _ dv ea, zx0 sg s 24 _ _ _ du ec, hc.1.1, hc.1.2, hc.2, q⟩
     | true => exact .inr ⟨a, c, zx0 sg s 24 _ _ _ dv ea, zx0 sg s 24 _ _ _ du ec, hc.1.1, hc.1.2, hc.2, q⟩
   · cases h
theorem st_eq {neg : Bool} {ta tb : TE} {fa fb : DS → Sto → SM W} (ha : SE K cl E ta fa) (hb : SE K cl E tb fb) : ST K cl E (tTest (tOp (rEqB K neg) ta tb)) (sEq neg fa fb) := fun ρ G σ H δ S r' S' Q R e q qx =>
 zz2 ha hb R e (fun x y S2 e2 v u ρ2 G2 H2 g2 s2 dv du => by
  obtain ⟨c, e3, rfl, rfl⟩ := zk0 e2
  exact eqS_core g2.s s2 dv du e3 ⟨c, rfl, q c rfl ρ2 G2 H2 g2 s2⟩) qx
end
end L2
set_option Elab.async false
set_option linter.all false
set_option maxRecDepth 100000
namespace L2
open PySem PySem.Spec PyProof.Rows
section
variable {K : PySem.W.Frag} {cl : Str → Addr} {E : XK}
def sTru (f : DS → Sto → SM W) : DS → Sto → SM Bool := fun δ S => sBind (f δ S) fun x S1 => sOk (asB x) S1
theorem yh3 {t : TE} {f : DS → Sto → SM W} (h : SE K cl E t f) : ST K cl E (tB t) (sTru f) := fun ρ G σ H δ S r S' Q R e q qx =>
 zl3 h R e (fun x S1 e1 v ρ1 G1 H1 g1 s1 dv => by
  obtain ⟨b, e2, rfl, rfl⟩ := zk0 e1
  cases zy5 e2
  cases dp_bl dv
  exact ⟨b, rfl, q b rfl ρ1 G1 H1 g1 s1⟩) qx
def sAndV (f g : DS → Sto → SM W) : DS → Sto → SM W := fun δ S => sBind (f δ S) fun x S1 => (asB x).bind fun b => if b = true then g δ S1 else some (.ok (.bool false), S1)
def sOrV (f g : DS → Sto → SM W) : DS → Sto → SM W := fun δ S => sBind (f δ S) fun x S1 => (asB x).bind fun b => if b = true then some (.ok (.bool true), S1) else g δ S1
def sNotV (f : DS → Sto → SM W) : DS → Sto → SM W := fun δ S => sBind (f δ S) fun x S1 => (asB x).map fun b => (.ok (.bool (!b)), S1)
theorem se_and {t u : TE} {f g : DS → Sto → SM W} (h1 : SE K cl E t f) (h2 : SE K cl E u g) : SE K cl E (tAndV t u) (sAndV f g) := fun ρ G σ H δ S r S' Q R e q qx =>
 zl3 h1 R e (fun x S1 e1 v ρ1 G1 H1 g1 s1 dv => by
  obtain ⟨b, e2, e3⟩ := Option.bind_eq_some_iff.mp e1
  cases zy5 e2
  cases dp_bl dv
  refine ⟨b, rfl, ?_⟩
  cases b with
  | true => exact h2 ρ1 G1 σ H1 δ S1 r S' Q (R.grow g1 s1) e3 (fun d hd v ρ2 G2 H2 g2 s2 dv => q d hd v ρ2 G2 H2 (g1.trans g2) s2 dv) fun c hc ρ2 G2 H2 g2 s2 => qx c hc ρ2 G2 H2 (g1.trans g2) s2
  | false => cases e3; exact q _ rfl _ ρ1 G1 H1 g1 s1 (.bl _)) qx
theorem ItA.ext {ρ ρ1 : List Addr} {J : It} {ds : List W} {i : Nat} {G H : Hp} (h : ρ <+: ρ1) (a : ItA K ρ J ds i G H) : ItA K ρ1 J ds i G H := ⟨fun d hd => ⟨(a.1 d hd).1, fun x H' y => by
 obtain ⟨G', g, dx⟩ := (a.1 d hd).2 x H' y
 exact ⟨G', g, dx.ext h⟩⟩, a.2⟩
theorem lookS_some {S : Sto} {n : Nat} {ds : List W} (h : lookS S n = some ds) : S[n]? = some (.lst ds) := by
 unfold lookS at h
 split at h
 · rename_i e; cases h; exact e
 · cases h
def lookE (S : Sto) (n : Nat × Bool) : Option (List W) := (lookS S n.1).map fun es => if n.2 then enumD es else es
def ItLv (K : PySem.W.Frag) (cl : Str → Addr) (ρ : List Addr) (J : It) (n : Nat × Bool) : Prop :=
 ∀ (i : Nat) (ρ1 : List Addr) (G1 H1 : Hp) (S1 : Sto) (es : List W), ρ <+: ρ1 → Same G1 H1 → SR K ρ1 cl G1 H1 S1 → lookE S1 n = some es → ItA K ρ1 J es i G1 H1
def SIl (K : PySem.W.Frag) (cl : Str → Addr) (E : XK) (wi : TI) (f : DS → Sto → SM (Nat × Bool)) : Prop :=
 ∀ (ρ : List Addr) (G : Hp) (σ : St) (H : Hp) (δ : DS) (S : Sto) (r : Rs (Nat × Bool)) (S' : Sto) (R' : It → Hp → Prop), RS K cl ρ G H δ σ S → f δ S = some (r, S') →
  (∀ n, r = .ok n → ∀ J ρ' G' H', GS ρ G H ρ' G' H' → SR K ρ' cl G' H' S' → ItLv K cl ρ' J n → R' J H') →
  (∀ c, r = .xc c → ∀ ρ' G' H', GS ρ G H ρ' G' H' → SR K ρ' cl G' H' S' → E (.ref (cl c)) none H') → wi σ H R'
def siLive (f : DS → Sto → SM W) : DS → Sto → SM (Nat × Bool) := fun δ S => sBind (f δ S) fun x S1 => (lstAt x S1).map fun p => (.ok (p.1, false), S1)
theorem si_live {t : TE} {f : DS → Sto → SM W} (h : SE K cl E t f) : SIl K cl E (iSeq K t) (siLive f) := fun ρ G σ H δ S r S' R' R e q qx =>
 zl3 h R e (fun x S1 e1 v ρ1 G1 H1 g1 s1 dv => by
  obtain ⟨⟨n, ds⟩, e2, e3⟩ := Option.map_eq_some_iff.mp e1
  cases e3
  obtain ⟨rfl, e4⟩ := zm1 e2
  obtain ⟨a, rfl, ea⟩ := zl9 dv
  obtain ⟨ga, vs, k1, k2⟩ := s1.addr e4 ea
  refine ⟨a, rfl, .inl ⟨⟨vs, SqL.of k1⟩, q (n, false) rfl _ ρ1 G1 H1 g1 s1 fun i ρ2 G2 H2 S2 es pr s2 sr he => ?_⟩⟩
  obtain ⟨es', hf, rfl⟩ := Option.map_eq_some_iff.mp he
  obtain ⟨ga2, vs2, m1, m2⟩ := sr.addr (lookS_some hf) (zw4 pr ea)
  exact ye8 s2 (SqL.of m1) m2) qx
def zs0 (n : Nat × Bool) (h : W → DS → Option DS) (fb : DS → Sto → SO) : Nat → Nat → DS → Sto → SO
 | 0, _, _, _ => none
 | f + 1, i, δ, S => (lookE S n).bind fun es => match es[i]? with
  | none => some (.nx δ, S)
  | some d => (h d δ).bind fun δ2 => match fb δ2 S with
   | some (.nx δ', S') => zs0 n h fb f (i + 1) δ' S'
   | some (.ct δ', S') => zs0 n h fb f (i + 1) δ' S'
   | some (.bk δ', S') => some (.nx δ', S')
   | some (.rt d, S') => some (.rt d, S')
   | some (.xc c, S') => some (.xc c, S')
   | none => none
def ssForL (m : Nat) (fi : DS → Sto → SM (Nat × Bool)) (h : W → DS → Option DS) (fb : DS → Sto → SO) : DS → Sto → SO := fun δ S => soB (fi δ S) fun n S1 => zs0 n h fb m 0 δ S1
theorem ss_forL {m : Nat} {wi : TI} {g : TG} {tb : TS} {fi : DS → Sto → SM (Nat × Bool)} {h : W → DS → Option DS} {fb : DS → Sto → SO} (hi : SIl K cl E wi fi) (hg : ∀ ρ, DG K ρ g h) (hb : SSt K cl E tb fb) : SSt K cl E (tFor wi g tb) (ssForL m fi h fb) := fun ρ0 G0 H0 ρ G σ H δ S o S' D I e p => by
 rcases zw8 e with ⟨c, em, rfl⟩ | ⟨n, S1, em, e⟩
 · exact hi ρ G σ H δ S _ _ _ I.rs em (fun d hd => by cases hd) (fun c' hc ρ1 G1 H1 g1 s1 => by cases hc; exact p ρ1 G1 H1 (I.gs.trans g1) s1)
 refine hi ρ G σ H δ S _ _ _ I.rs em (fun n' hn => ?_) (fun c' hc => by cases hc)
 cases hn
 intro J ρ1 G1 H1 g1 s1 it
 refine ⟨fun i k σ H => ∃ ρ2 G2 δ2 S2, IvS K cl ρ0 G0 H0 ρ2 G2 H δ2 σ S2 ∧ ρ1 <+: ρ2 ∧ zs0 n h fb k i δ2 S2 = some (o, S'), ⟨m, ρ1, G1, δ, S1, I.grow g1 s1, List.prefix_refl _, e⟩, ?_⟩
 rintro i k σ2 H2 ⟨ρ2, G2, δ2, S2, I2, pr2, e2⟩
 cases k with
 | zero => cases e2
 | succ k =>
  obtain ⟨es, e3, e4⟩ := Option.bind_eq_some_iff.mp e2
  have ia := it i ρ2 G2 H2 S2 es pr2 I2.gs.s I2.rs.st e3
  split at e4
  · rename_i hn
    cases e4
    exact .inl ⟨ia.2 (List.getElem?_eq_none_iff.mp hn), p σ2 ρ2 G2 H2 I2⟩
  · rename_i d hd
    refine .inr ?_
    obtain ⟨go, step⟩ := ia.1 d hd
    obtain ⟨δ3, e5, e6⟩ := Option.bind_eq_some_iff.mp e4
    have turn : ∀ (P : Ends) (o1 : OutS) (S3 : Sto), fb δ3 S2 = some (o1, S3) → (∀ G3 H3, Gr G2 H2 G3 H3 → PstS K cl E ρ2 G3 H0 P S3 o1) → ∀ x H', J.yld i H2 x H' → g x σ2 H' fun σ2 H2 => tb P σ2 H2 := fun P o1 S3 ef hp x H' y => by
     obtain ⟨G3, g3, dx⟩ := step x H' y
     have I3 := I2.grow (.of g3) (I2.rs.st.grow g3)
     refine hg ρ2 G3 H' δ2 σ2 x _ δ3 _ I3.rs.rl dx e5 fun σ3 R3 o3 => ?_
     exact hb ρ2 G3 H0 ρ2 G3 σ3 H' δ3 S2 o1 S3 P (I3.sub R3 o3).base ef (hp G3 H' g3)
    have back : ∀ {G3 H3 : Hp}, Gr G2 H2 G3 H3 → ∀ {ρ4 : List Addr} {G4 H4 : Hp} {σ4 : St} {δ4 : DS} {S4 : Sto}, IvS K cl ρ2 G3 H0 ρ4 G4 H4 δ4 σ4 S4 → IvS K cl ρ0 G0 H0 ρ4 G4 H4 δ4 σ4 S4 ∧ ρ1 <+: ρ4 := fun {G3 H3} g3 {ρ4 G4 H4 σ4 δ4 S4} I4 => ⟨I4.rebase (I2.gs.trans (.of g3)), pr2.trans I4.gs.r⟩
    cases ef : fb δ3 S2 with
    | none => rw [ef] at e6; cases e6
    | some r =>
     obtain ⟨o1, S3⟩ := r
     rw [ef] at e6
     cases o1 with
     | nx δ' => exact ⟨go, fun σ' H' => ∃ ρ' G', IvS K cl ρ0 G0 H0 ρ' G' H' δ' σ' S3 ∧ ρ1 <+: ρ', fun σ' H' ⟨ρ', G', I', q1⟩ => ⟨k, Nat.lt_succ_self _, ρ', G', δ', S3, I', q1, e6⟩, turn _ _ _ ef fun G3 H3 g3 σ5 ρ5 G5 H5 I5 => ⟨ρ5, G5, back g3 I5⟩⟩
     | ct δ' => exact ⟨go, fun σ' H' => ∃ ρ' G', IvS K cl ρ0 G0 H0 ρ' G' H' δ' σ' S3 ∧ ρ1 <+: ρ', fun σ' H' ⟨ρ', G', I', q1⟩ => ⟨k, Nat.lt_succ_self _, ρ', G', δ', S3, I', q1, e6⟩, turn _ _ _ ef fun G3 H3 g3 σ5 ρ5 G5 H5 I5 => ⟨ρ5, G5, back g3 I5⟩⟩
     | bk δ' =>
      cases e6
      exact ⟨go, fun _ _ => False, fun _ _ z => z.elim, turn _ _ _ ef fun G3 H3 g3 σ5 ρ5 G5 H5 I5 => p σ5 ρ5 G5 H5 (back g3 I5).1⟩
     | rt d =>
      cases e6
      exact ⟨go, fun _ _ => False, fun _ _ z => z.elim, turn _ _ _ ef fun G3 H3 g3 v ρ5 G5 H5 g5 s5 dv => p v ρ5 G5 H5 ((I2.gs.trans (.of g3)).rebase g5) s5 dv⟩
     | xc c =>
      cases e6
      exact ⟨go, fun _ _ => False, fun _ _ z => z.elim, turn _ _ _ ef fun G3 H3 g3 ρ5 G5 H5 g5 s5 => p ρ5 G5 H5 ((I2.gs.trans (.of g3)).rebase g5) s5⟩
theorem RS.lift {ρ : List Addr} {G H : Hp} {δ : DS} {σ : St} {S : Sto} {ix : List (Option Nat)} (hx : ixOk ix = true) (R : RS K cl ρ G H δ σ S) : RS K cl ρ G H (liftD ix δ) (lift ix σ) S :=
 ⟨R.rl.lift hx, R.st, fun j ds p h1 h2 => by
  obtain ⟨o, k1, k2⟩ := zy4 h1
  cases o with
  | none => cases k2
  | some i =>
   have k3 : δ[i]? = some (.own ds) := by
    cases e : δ[i]? with
    | none => simp [slAt, e] at k2
    | some s => simp [slAt, e] at k2; rw [k2]
   rw [zz7 k1] at h2
   simp only [vAt] at h2
   split at h2
   · rename_i w e
     exact R.ap i ds p k3 (by rw [e]; simpa using h2)
   · cases h2⟩
def zj1 (h : W → DS → Option DS) (c : DS → Sto → SM Bool) (fe : DS → Sto → SM W) (δ : DS) : List W → Sto → SM (List W)
 | [], S => some (.ok [], S)
 | d :: ds, S => (h d δ).bind fun δ2 => sBind (c δ2 S) fun b S1 => if b = true then sBind (fe δ2 S1) fun e S2 => sBind (zj1 h c fe δ ds S2) fun es S3 => some (.ok (e :: es), S3) else zj1 h c fe δ ds S1
def sComp (ix : List (Option Nat)) (fi : DS → Sto → SM (List W)) (h : W → DS → Option DS) (c : DS → Sto → SM Bool) (fe : DS → Sto → SM W) : DS → Sto → SM W := fun δ S =>
 sBind (fi δ S) fun ds S0 => if ds.length ≤ sizeLine then sBind (zj1 h c fe (liftD ix δ) ds S0) fun es S1 => some (.ok (.list es), S1) else none
theorem se_comp {ix : List (Option Nat)} {wi : TI} {g : TG} {tc : TT} {te : TE} {fi : DS → Sto → SM (List W)} {h : W → DS → Option DS} {c : DS → Sto → SM Bool} {fe : DS → Sto → SM W}
 (hx : ixOk ix = true) (hi : SIp K cl E wi fi) (hg : ∀ ρ, DG K ρ g h) (hc : ST K cl E tc c) (he : SE K cl E te fe) : SE K cl E (tComp ix wi g tc te) (sComp ix fi h c fe) := fun ρ G σ H δ S r S' Q R e q qx => by
 rcases zf4 e with ⟨c0, em, rfl⟩ | ⟨ds, S0, em, e⟩
 · exact hi ρ G σ H δ S _ _ _ R em (fun d hd => by cases hd) (fun c' hc => by cases hc; exact qx c0 rfl)
 split at e
 case isFalse => cases e
 rename_i hz
 refine hi ρ G σ H δ S _ _ _ R em (fun ds' hd => ?_) (fun c' hc => by cases hc)
 cases hd
 intro J ρ1 G1 H1 gs1 sr1 it
 have R1 := R.grow gs1 sr1
 refine ⟨fun i m ys H2 => m = ds.length - i ∧ i ≤ ds.length ∧ ys.length ≤ i ∧ ∃ ρ2 G2 as S2, GS ρ1 G1 H1 ρ2 G2 H2 ∧ SR K ρ2 cl G2 H2 S2 ∧ DwAll K ρ2 G2 ys as ∧ sBind (zj1 h c fe (liftD ix δ) (ds.drop i) S2) (fun es S1 => some (.ok (.list (as ++ es)), S1)) = some (r, S'), ⟨ds.length, by simp, Nat.zero_le _, Nat.le_refl _, ρ1, G1, [], S0, .refl gs1.s, R1.st, .nil, by simpa using e⟩, ?_⟩
 rintro i m ys H2 ⟨rfl, hil, hyl, ρ2, G2, as, S2, g2, s2, da, eb⟩
 have ia := (it i G2 H2 g2.g g2.s).ext g2.r
 have R2 := R1.grow g2 s2
 have g12 := gs1.trans g2
 by_cases hlt : i < ds.length
 · refine .inr ?_
   obtain ⟨go, step⟩ := ia.1 ds[i] (List.getElem?_eq_getElem hlt)
   rw [List.drop_eq_getElem_cons hlt] at eb
   have eb' : ∃ δ2, h ds[i] (liftD ix δ) = some δ2 ∧ sBind (sBind (c δ2 S2) fun b S1 => if b = true then sBind (fe δ2 S1) fun e S2 => sBind (zj1 h c fe (liftD ix δ) (ds.drop (i + 1)) S2) fun es S3 => some (.ok (e :: es), S3) else zj1 h c fe (liftD ix δ) (ds.drop (i + 1)) S1) (fun es S1 => some (.ok (.list (as ++ es)), S1)) = some (r, S') := by
    simp only [zj1] at eb
    cases e2 : h ds[i] (liftD ix δ) with
    | none => rw [e2] at eb; cases eb
    | some δ2 => rw [e2] at eb; exact ⟨δ2, rfl, eb⟩
   obtain ⟨δ2, e2, e3⟩ := eb'
   refine ⟨go, by omega, fun ys' H' => ys'.length ≤ i + 1 ∧ ∃ ρ3 G3 as' S3, GS ρ1 G1 H1 ρ3 G3 H' ∧ SR K ρ3 cl G3 H' S3 ∧ DwAll K ρ3 G3 ys' as' ∧ sBind (zj1 h c fe (liftD ix δ) (ds.drop (i + 1)) S3) (fun es S1 => some (.ok (.list (as' ++ es)), S1)) = some (r, S'), fun ys' H' ⟨l, z⟩ => ⟨ds.length - (i + 1), by omega, rfl, hlt, l, z⟩, fun x H' y => ?_⟩
   obtain ⟨G3, g3, dx⟩ := step x H' y
   have gs3 : GS ρ2 G2 H2 ρ2 G3 H' := .of g3
   have s3 := s2.grow g3
   have R3 := R2.grow gs3 s3
   refine hg ρ2 G3 H' (liftD ix δ) _ x _ δ2 _ (R3.lift hx).rl dx e2 fun σ2 R4 o4 => ?_
   have RS4 : RS K cl ρ2 G3 H' δ2 σ2 S2 := ⟨R4, s3, fun j ds' p h1 h2 => by
    obtain ⟨es', m1, m2⟩ := o4 j ds' p h1 h2
    exact (R3.lift hx).ap j es' p m1 m2⟩
   rcases zf4 e3 with ⟨c', em, rfl⟩ | ⟨es, S5, em, e4⟩
   · -- an exception on the way
     rcases zf4 em with ⟨c2, en, z⟩ | ⟨b, S4, en, e5⟩
     · cases z
       exact hc ρ2 G3 σ2 H' δ2 S2 _ _ _ RS4 en (fun d hd => by cases hd) (fun c3 h3 ρ5 G5 H5 g5 s5 => by cases h3; exact qx c' rfl ρ5 G5 H5 (g12.trans (gs3.trans g5)) s5)
     · refine hc ρ2 G3 σ2 H' δ2 S2 _ _ _ RS4 en (fun d hd => ?_) (fun c3 h3 => by cases h3)
       cases hd
       intro ρ5 G5 H5 g5 s5
       have g15 := g2.trans (gs3.trans g5)
       have da5 := ((da.ext (gs3.trans g5).r).same (gs3.trans g5).g)
       cases b with
       | false => exact ⟨by omega, ρ5, G5, as, S4, g15, s5, da5, by rw [show zj1 h c fe (liftD ix δ) (ds.drop (i + 1)) S4 = some (.xc c', S') from e5]; rfl⟩
       | true =>
        rw [if_pos rfl] at e5 ⊢
        rcases zf4 e5 with ⟨c2, en2, z⟩ | ⟨ev, S6, en2, e6⟩
        · cases z
          exact he ρ5 G5 σ2 H5 δ2 S4 _ _ _ (RS4.grow g5 s5) en2 (fun d hd => by cases hd) (fun c3 h3 ρ6 G6 H6 g6 s6 => by cases h3; exact qx c' rfl ρ6 G6 H6 (g12.trans (gs3.trans (g5.trans g6))) s6)
        · refine he ρ5 G5 σ2 H5 δ2 S4 _ _ _ (RS4.grow g5 s5) en2 (fun d hd => ?_) (fun c3 h3 => by cases h3)
          cases hd
          intro v ρ6 G6 H6 g6 s6 dv
          rcases zf4 e6 with ⟨c2, en3, z⟩ | ⟨es2, S7, en3, e7⟩
          · cases z
            exact ⟨by simp; omega, ρ6, G6, as ++ [ev], S6, g15.trans g6, s6, ((da5.ext g6.r).same g6.g).app (.cons dv .nil), by rw [en3]; rfl⟩
          · cases e7
   · cases e4
     rcases zf4 em with ⟨c2, en, z⟩ | ⟨b, S4, en, e5⟩
     · cases z
     · refine hc ρ2 G3 σ2 H' δ2 S2 _ _ _ RS4 en (fun d hd => ?_) (fun c3 h3 => by cases h3)
       cases hd
       intro ρ5 G5 H5 g5 s5
       have g15 := g2.trans (gs3.trans g5)
       have da5 := ((da.ext (gs3.trans g5).r).same (gs3.trans g5).g)
       cases b with
       | false => exact ⟨by omega, ρ5, G5, as, S4, g15, s5, da5, by rw [show zj1 h c fe (liftD ix δ) (ds.drop (i + 1)) S4 = some (.ok es, S') from e5]; rfl⟩
       | true =>
        rw [if_pos rfl] at e5 ⊢
        rcases zf4 e5 with ⟨c2, en2, z⟩ | ⟨ev, S6, en2, e6⟩
        · cases z
        · refine he ρ5 G5 σ2 H5 δ2 S4 _ _ _ (RS4.grow g5 s5) en2 (fun d hd => ?_) (fun c3 h3 => by cases h3)
          cases hd
          intro v ρ6 G6 H6 g6 s6 dv
          rcases zf4 e6 with ⟨c2, en3, z⟩ | ⟨es2, S7, en3, e7⟩
          · cases z
          · cases e7
            exact ⟨by simp; omega, ρ6, G6, as ++ [ev], S6, g15.trans g6, s6, ((da5.ext g6.r).same g6.g).app (.cons dv .nil), by rw [en3]; simp [sBind]⟩
 · have hi' : i = ds.length := by omega
   subst hi'
   refine .inl ⟨ia.2 (Nat.le_refl _), by omega, fun p hp => ?_⟩
   rw [List.drop_length] at eb
   simp only [zj1, sBind, List.append_nil] at eb
   cases eb
   have n : Nw H2 (upd H2 p (.lst ys)) p (.lst ys) := .of hp
   have g3 := Gr.nw g2.s n
   exact q _ rfl _ ρ2 _ _ (g12.trans (.of g3)) (s2.grow g3) (.lst (SqL.of zc5) (da.same g3.g))
end
end L2
set_option Elab.async false
set_option linter.all false
set_option maxRecDepth 100000
namespace L2
open PySem PySem.Spec PyProof.Rows
section
variable {K : PySem.W.Frag} {cl : Str → Addr} {E : XK}
def zz6 (n : Nat × Bool) (h : W → DS → Option DS) (c : DS → Sto → SM Bool) (fe : DS → Sto → SM W) (δ : DS) : Nat → Nat → Sto → SM (List W)
 | 0, _, _ => none
 | f + 1, i, S => (lookE S n).bind fun es => match es[i]? with
  | none => some (.ok [], S)
  | some d => (h d δ).bind fun δ2 => sBind (c δ2 S) fun b S1 => if b = true then sBind (fe δ2 S1) fun e S2 => sBind (zz6 n h c fe δ f (i + 1) S2) fun es S3 => some (.ok (e :: es), S3) else zz6 n h c fe δ f (i + 1) S1
def sCompL (m : Nat) (ix : List (Option Nat)) (fi : DS → Sto → SM (Nat × Bool)) (h : W → DS → Option DS) (c : DS → Sto → SM Bool) (fe : DS → Sto → SM W) : DS → Sto → SM W := fun δ S =>
 sBind (fi δ S) fun n S0 => if m ≤ sizeLine then sBind (zz6 n h c fe (liftD ix δ) m 0 S0) fun es S1 => some (.ok (.list es), S1) else none
end
theorem sr_nil {K : PySem.W.Frag} {cl : Str → Addr} {G H : Hp} : SR K [] cl G H [] := ⟨rfl, List.nodup_nil, fun n o e => by simp at e⟩
end L2
set_option Elab.async false
set_option linter.all false
set_option maxRecDepth 100000
namespace L2
open PySem PySem.Spec PyProof.Rows PySem.AutoSeq1
theorem ext_any (l b : Addr) (xs ys : Array Value) (n k : Nat) (sl : Array (Option Value)) (h1 : ¬(!xs.isEmpty && Builtin.List.listTooLong (xs.size + ys.size)) = true) (h2 : xs.size ≤ sizeLine) (h3 : xs.size + ys.size ≤ sizeLine + 1) :
 Meets (Builtin.«list.extend» ⟨[.ref l, .ref b], []⟩) (fun _ R s => s.heap.get? l = some { cls := .type "list", data := .seq xs n } ∧ s.heap.get? b = some { cls := .type "list", dict := none, data := .seq ys k, slots := sl } ∧ R (.ok (.ret .none)) { s with heap := s.heap.update l (Obj.mapSeq (· ++ ys)), toks := s.toks }) :=
 .of_wp fun prog w A R s h => by
  obtain ⟨hp, g, d, tk, os⟩ := s
  obtain ⟨hl, hb, h⟩ := h
  have e1 := idx_int
  have e2 := AutoSeq1.sub_tuple_tuple
  have e3 := AutoSeq1.sub_list_list
  have e4 := AutoSeq1.sub_tuple_list
  have e5 := AutoSeq1.sub_list_tuple
  have hz : (xs ++ ys).size ≤ sizeLine + 1 := by
   rw [Array.size_append]
   exact h3
  wp_walk using (wpAny_updateSeq hl rfl (hz := h2) (_hz' := hz)), wpAny_loadPart' hl, wpAny_loadPart' hb
  exact ⟨_, rfl, h⟩
section
variable {X : Cx}
def rExtendK (K : PySem.W.Frag) : V → List V → Hp → VK → Prop := fun x vs H Q => ∃ l b xs ys, x = .ref l ∧ vs = [.ref b] ∧ H l = some (.lst xs) ∧ SqL K H b ys ∧ xs.length + ys.length ≤ sizeLine ∧ Q .non (upd H l (.lst (xs ++ ys)))
theorem mt_extendK : MtM X "list.extend" (rExtendK X.K) := by
 intro pins s σ H x vs v us Q I rx rv h
 obtain ⟨l, b, xs, ys, rfl, rfl, h1, h2, h3, q⟩ := h
 cases rx
 obtain ⟨u, rfl, ru⟩ := rv.one
 cases ru
 obtain ⟨z, its, n, r, hl, e⟩ := I.lstM h1
 obtain ⟨jts, r2, ⟨⟨oc, od, da, sl⟩, k, e2, c1, c2, c3⟩, z2⟩ := I.list h2
 simp only at c1 c2 c3
 subst c1 c2 c3
 have l2 := r2.length
 have hn : ¬ (!its.toArray.isEmpty && Builtin.List.listTooLong (its.toArray.size + jts.toArray.size)) = true := by
  rw [List.size_toArray, List.size_toArray, notLongL (by omega), Bool.and_false]
  exact Bool.false_ne_true
 refine call_meets F.slot_list_extend ⟨_, e, rfl⟩ F.entry_list_extend (F.args_list_extend_2 _ _) (ext_any l b its.toArray jts.toArray n k sl hn (by rw [List.size_toArray]; omega) (by rw [List.size_toArray, List.size_toArray]; omega)) ⟨e, e2, ?_⟩
 refine ⟨.non, _, I.lset (its' := its ++ jts) h1 e (by simp) (r.append r2) ?_, rfl, q⟩
 rw [List.length_append]
 omega
end
section
variable {K : PySem.W.Frag} {ρ : List Addr}
theorem dwAll_strs {G : Hp} : ∀ ws : List Str, DwAll K ρ G (ws.map V.str) (ws.map W.str)
 | [] => .nil
 | w :: ws => .cons (.str w) (dwAll_strs ws)
theorem inG_core {H : Hp} {x : V} {d : W} {a : Addr} {ws : List Str} {b : Bool} (h : SqT K H a (ws.map V.str)) (hx : Dw K ρ H x d) (e : cIn d (.tuple (ws.map W.str)) = some b) : flatV x = true ∧ (ws.map V.str).all flatV = true ∧ inV x (ws.map V.str) = b := by
 obtain ⟨ds, e1, e⟩ := Option.bind_eq_some_iff.mp e
 obtain ⟨v, e2, e⟩ := Option.bind_eq_some_iff.mp e
 obtain ⟨vs, e3, rfl⟩ := Option.map_eq_some_iff.mp e
 cases e1
 obtain ⟨rfl, f1⟩ := yb7 hx e2
 obtain ⟨rfl, f2⟩ := zu9 (K := K) (ρ := ρ) (H := H) (dwAll_strs ws) e3
 exact ⟨f1, f2, rfl⟩
theorem din_core {neg : Bool} {ta : TE} {fa : DS → Option W} {a : Addr} {ws : List Str} (hs : ∀ G, SqT K G a (ws.map V.str)) (ha : DK K ρ ta fa) {G : Hp} {σ : St} {H : Hp} {δ : DS} {b : Bool} {Q : VK} (R : Rl K ρ G H δ σ) (e : dCmp (if neg then zv2 else cIn) fa (dC (.tuple (ws.map W.str))) δ = some b) (q : ∀ G' H', Gr G H G' H' → Q (.bl b) H') : tOp (rIn K neg) ta (tC (.ref a)) σ H Q := by
 obtain ⟨x, ex, e⟩ := Option.bind_eq_some_iff.mp e
 have e : (if neg then zv2 else cIn) x (.tuple (ws.map W.str)) = some b := e
 refine ha G σ H δ x _ R ex fun v G1 H1 g1 dv => ?_
 have dv := dv.dp g1.s
 cases neg with
 | false =>
  obtain ⟨f1, f2, rfl⟩ := inG_core (hs H1) dv e
  exact ⟨a, _, rfl, .inr (hs H1), f1, f2, q G1 H1 g1⟩
 | true =>
  obtain ⟨b', e', rfl⟩ := Option.map_eq_some_iff.mp e
  obtain ⟨f1, f2, rfl⟩ := inG_core (hs H1) dv e'
  exact ⟨a, _, rfl, .inr (hs H1), f1, f2, q G1 H1 g1⟩
theorem dt_notInG {ta : TE} {fa : DS → Option W} {a : Addr} {ws : List Str} (hs : ∀ G, SqT K G a (ws.map V.str)) (ha : DK K ρ ta fa) : DT K ρ (tTest (tOp (rIn K true) ta (tC (.ref a)))) (dCmp zv2 fa (dC (.tuple (ws.map W.str)))) := fun G σ H δ b Q R e q =>
 din_core (neg := true) hs ha R e fun G' H' g => ⟨b, rfl, q G' H' g⟩
def zt9 (i : Nat) (f : DS → Option W) : DS → Option Out := fun δ => (ownAt i δ).bind fun ds => (f δ).bind fun d => (listD d).bind fun es => if ds.length + es.length ≤ sizeLine then some (.nx (δ.set i (.own (ds ++ es)))) else none
theorem ds_extendV {i : Nat} {t : TE} {f : DS → Option W} (h : DE K ρ t f) : DSt K ρ (tDrop (tBM K "list" (rExtendK K) (tVar i) (tCons t tNil))) (zt9 i f) := fun G0 H0 G σ H δ o D I e p => by
 obtain ⟨ds, eo, e⟩ := Option.bind_eq_some_iff.mp e
 obtain ⟨d, ed, e⟩ := Option.bind_eq_some_iff.mp e
 obtain ⟨es, ee, e⟩ := Option.bind_eq_some_iff.mp e
 split at e
 case isFalse => cases e
 rename_i hz
 cases e
 cases zw3 ee
 have ho := ownAt_eq eo
 obtain ⟨o, h1, q, vs, rfl, h3, h4, h5⟩ := I.rl.sl i _ ho
 refine ⟨.ref q, h1, .inl ⟨rfl, vs, SqL.of h4⟩, h G σ H δ _ _ I.rl ed fun v G1 H1 g1 dv => ?_⟩
 have I1 := I.grow g1
 cases dv with
 | lst sq da =>
  refine ⟨q, _, vs, _, rfl, rfl, g1.h _ _ h4, g1.s.seq sq, by rw [h5.length, da.length]; exact hz, ?_⟩
  exact p σ G1 _ (I1.put ho h1 (g1.n q (by rw [h4]; simp) h3) ((h5.same g1.g).app da))
end
structure FunD (K : PySem.W.Frag) (x q : Str) (st : Stmt) (f : Addr) (fd : FuncData) : Prop where
 ex : ∃ (dV oc kV dc pm cd ct : Value) (od an : Option Addr) (sl : Array (Option Value)), fd = PySem.W.fnOf x q (zd7 st) (zd3 st) (zb1 st) dV kV dc pm an cd ct ∧ K.lookup f = some ⟨oc, od, .func fd, sl⟩ ∧ PySem.W.codeIn K cd q = true
 kp : PySem.W.keepIn K (.ref f) = true
structure DfD (K : PySem.W.Frag) (mg : Str → Option Value) (x : Str) (st : Stmt) (ps : List Str) (f : Addr) (fd : FuncData) : Prop where
 fn : FunD K x x st f fd
 b : Binds K fd ps []
 b1 : Binds K fd ps [.none]
 m : mg x = some (.ref f)
theorem FunD.ok {P : Program} {w : World} {K : PySem.W.Frag} {mg : Str → Option Value} {base : Heap} {x q : Str} {st : Stmt} {f : Addr} {fd : FuncData} {N ps : List Str} {k : Nat} {sp : Sp} (F : FunD K x q st f fd) (S : FnScope N ps (zb1 st)) (hl : ∀ vs H Q E, sp vs H Q E → vs.length = ps.length)
 (hb : ∀ (cd : Value) (A : Around) (outer : List Env) (s : Shared) (H : Hp) (vs : List V) (Q : VK) (E : XK), Room k (A.deeper (envOfC q (zb1 st) s.heap.objs.size f cd)) → sp vs H Q E →
  ∃ t, PSs (cxOf CX0 P w K mg base N q (zb1 st) f cd A outer s H E).nox (zd3 st) t ∧ t ({ nx := fun _ H' => Q V.non H', rt := Q } : Ends) (start N vs) H) : FnOk P w K mg base CX0 (k + 1) f fd ps sp := by
 obtain ⟨dV, oc, kV, dc, pm, cd, ct, od, an, sl, rfl, lk, hc⟩ := F.ex
 refine fn_of lk hc S hl fun A outer s H vs Q E hr hs => ?_
 obtain ⟨t, h, r⟩ := hb cd A outer s H vs Q E hr hs
 exact ⟨t, h.nox, r⟩
theorem funD_mk {K : PySem.W.Frag} {x q : Str} {st : Stmt} {f : Addr} {dV oc kV dc pm cd ct : Value} {od an : Option Addr} {sl : Array (Option Value)} (l : K.lookup f = some ⟨oc, od, .func (PySem.W.fnOf x q (zd7 st) (zd3 st) (zb1 st) dV kV dc pm an cd ct), sl⟩) (c : PySem.W.codeIn K cd q = true) (k : PySem.W.keepIn K (.ref f) = true) : FunD K x q st f (PySem.W.fnOf x q (zd7 st) (zd3 st) (zb1 st) dV kV dc pm an cd ct) := ⟨⟨dV, oc, kV, dc, pm, cd, ct, od, an, sl, rfl, l, c⟩, k⟩
section
variable {K : PySem.W.Frag} {ρ : List Addr}
def yi8 (f : List W → Option W) (fa : DS → Option (List W)) : DS → Option W := fun δ => (fa δ).bind fun ds => f (ds ++ [.none])
theorem DwAll.appd {G : Hp} : ∀ {vs us : List V} {ds es : List W}, DwAll K ρ G vs ds → DwAll K ρ G us es → DwAll K ρ G (vs ++ us) (ds ++ es)
 | _, _, _, _, .nil, h => h
 | _, _, _, _, .cons a t, h => .cons a (t.appd h)
theorem de_callN {f : List W → Option W} {t : TA} {fa : DS → Option (List W)} {E : XK} (h : DA K ρ t fa) : DE K ρ (tCall (spD K f) [.non] E t) (yi8 f fa) := fun G σ H δ d Q R e q => by
 obtain ⟨ds, ed, e⟩ := Option.bind_eq_some_iff.mp e
 exact h G σ H δ ds _ R ed fun vs G1 H1 g1 da => ⟨ρ, G1, ds ++ [.none], d, g1.s, da.appd (.cons .non .nil), e, fun v G2 H2 g2 dv => q v G2 H2 (g1.trans g2) dv⟩
end
def okPow (i j : Int) : Bool := decide (0 ≤ j) && decide (j ≤ 1000) && decide (i.natAbs < 2 ^ 64)
def gPow : W → W → Option W := gIc okPow fun i j => i ^ j.toNat
theorem dr_pow {K : PySem.W.Frag} {ρ : List Addr} : DR K ρ (rI CPow fun i j => .int (i ^ j.toNat)) gPow := dr_ic fun i j h => by
 simp only [okPow, Bool.and_eq_true, decide_eq_true_eq] at h
 exact ⟨h.1.1, by omega, h.2⟩
theorem vals_non : Vals [V.non] [Value.none] := .cons rfl .nil
end L2
set_option Elab.async false
set_option linter.all false
set_option maxRecDepth 100000
namespace L2
open PySem PySem.Spec PyProof.Rows
section
variable {K : PySem.W.Frag} {cl : Str → Addr} {E : XK}
def keysL : List W → Option (List Key)
 | [] => some []
 | d :: ds => (keyOf d).bind fun k => (keysL ds).map (k :: ·)
def zr2 : W → Option (List Key)
 | .tuple ds => keysL ds
 | _ => none
theorem yb5 {ρ : List Addr} {G : Hp} : ∀ {vs : List V} {ds : List W} {ks : List Key}, DwAll K ρ G vs ds → keysL ds = some ks → vs = ks.map kV
 | _, _, _, .nil, e => by cases e; rfl
 | _, _, _, .cons h t, e => by
  obtain ⟨k, e1, e⟩ := Option.bind_eq_some_iff.mp e
  obtain ⟨ks, e2, rfl⟩ := Option.map_eq_some_iff.mp e
  rw [zz9 h e1, yb5 t e2]
  rfl
theorem keysOf_eq {ρ : List Addr} {G : Hp} {v : V} {d : W} {ks : List Key} (h : Dw K ρ G v d) (e : zr2 d = some ks) : ∃ b, v = .ref b ∧ G b = some (.tup (ks.map kV)) := by
 cases h with
 | tup sq da => exact ⟨_, rfl, by rw [← yb5 da e]; exact sq⟩
 | _ => cases e
def getK (x y : W) (S : Sto) : Option (Option W) := match obAt x S with
 | some (_, .dK kvs) => (keyOf y).map fun k => valW kvs k
 | some (_, .dT kvs) => (zr2 y).map fun k => valW kvs k
 | _ => none
theorem yd9 {ρ : List Addr} {G H : Hp} {S : Sto} {v u : V} {x y : W} {o : Option W} (sg : Same G H) (s : SR K ρ cl G H S) (dv : Dw K ρ G v x) (du : Dw K ρ G u y) (h : getK x y S = some o) : ∃ a r, v = .ref a ∧ DGet H a u r ∧ (match o with | some d => ∃ z, r = some z ∧ Dw K ρ G z d | none => r = none) := by
 unfold getK at h
 split at h
 · rename_i n kvs e1
   obtain ⟨k, e3, e4⟩ := Option.map_eq_some_iff.mp h
   obtain ⟨rfl, e5⟩ := zk5 e1
   obtain ⟨a, rfl, ea⟩ := zl9 dv
   obtain ⟨ga, ws, k1, k2⟩ := s.addr e5 ea
   obtain ⟨v1, v2⟩ := k2.val (k := k)
   refine ⟨a, valV ws k, rfl, ?_, ?_⟩
   · rw [zz9 du e3]
     exact DGet.k k1
   · cases o with
     | some d => exact v1 d e4
     | none => exact v2 e4
 · rename_i n kvs e1
   obtain ⟨k, e3, e4⟩ := Option.map_eq_some_iff.mp h
   obtain ⟨rfl, e5⟩ := zk5 e1
   obtain ⟨a, rfl, ea⟩ := zl9 dv
   obtain ⟨ga, ws, k1, k2⟩ := s.addr e5 ea
   obtain ⟨v1, v2⟩ := k2.val (k := k)
   obtain ⟨b, rfl, hb⟩ := keysOf_eq du e3
   refine ⟨a, valV ws k, rfl, DGet.t k1 (sg _ _ hb), ?_⟩
   · cases o with
     | some d => exact v1 d e4
     | none => exact v2 e4
 · cases h
def sDGet (fo fk : DS → Sto → SM W) : DS → Sto → SM W := fun δ S => sBind (fo δ S) fun x S1 => sBind (fk δ S1) fun y S2 => (getK x y S2).bind fun o => sOk o S2
theorem se_dget {to tk : TE} {fo fk : DS → Sto → SM W} (ho : SE K cl E to fo) (hk : SE K cl E tk fk) : SE K cl E (tDGet to tk) (sDGet fo fk) := fun ρ G σ H δ S r S' Q R e q qx =>
 zz2 ho hk R e (fun x y S2 e2 v u ρ2 G2 H2 g2 s2 dv du => by
  obtain ⟨o, e3, e4⟩ := Option.bind_eq_some_iff.mp e2
  obtain ⟨d, rfl, rfl, rfl⟩ := zk0 e4
  obtain ⟨a, r, rfl, h1, z, rfl, h2⟩ := yd9 g2.s s2 dv du e3
  exact ⟨a, z, rfl, h1, q d rfl z ρ2 G2 H2 g2 s2 h2⟩) qx
def sDIn (neg : Bool) (fk fo : DS → Sto → SM W) : DS → Sto → SM Bool := fun δ S => sBind (fk δ S) fun y S1 => sBind (fo δ S1) fun x S2 => sOk ((getK x y S2).map fun o => if neg then !o.isSome else o.isSome) S2
theorem st_dnotin {to tk : TE} {fo fk : DS → Sto → SM W} (hk : SE K cl E tk fk) (ho : SE K cl E to fo) : ST K cl E (tB (tDNotIn tk to)) (sDIn true fk fo) := fun ρ G σ H δ S r S' Q R e q qx =>
 zz2 hk ho R e (fun y x S2 e2 u v ρ2 G2 H2 g2 s2 du dv => by
  obtain ⟨b, e3, rfl, rfl⟩ := zk0 e2
  obtain ⟨o, e4, rfl⟩ := Option.map_eq_some_iff.mp e3
  obtain ⟨a, r, rfl, h1, h2⟩ := yd9 g2.s s2 dv du e4
  have hb : r.isSome = o.isSome := by
   cases o with
   | some d => obtain ⟨z, rfl, _⟩ := h2; rfl
   | none => rw [show r = none from h2]; rfl
  refine ⟨a, r, rfl, h1, ?_⟩
  rw [hb]
  exact ⟨!o.isSome, rfl, q _ rfl ρ2 G2 H2 g2 s2⟩) qx
def putA (x y d : W) (S : Sto) : Option Sto := match obAt x S with
 | some (n, .dK kvs) => (keyOf y).bind fun k => if kvs.length < sizeLine then some (S.set n (.dK (putKW kvs k d))) else none
 | some (n, .dT kvs) => (zr2 y).bind fun k => if kvs.length < sizeLine then some (S.set n (.dT (putKW kvs k d))) else none
 | _ => none
theorem putA_ok {ρ : List Addr} {G H : Hp} {S S' : Sto} {v u w : V} {x y d : W} (sg : Same G H) (s : SR K ρ cl G H S) (dv : Dw K ρ G v x) (du : Dw K ρ G u y) (dw : Dw K ρ G w d) (h : putA x y d S = some S') : ∃ a H', v = .ref a ∧ DPut H a u w H' ∧ SR K ρ cl G H' S' ∧ GS ρ G H ρ G H' := by
 unfold putA at h
 split at h
 · rename_i n kvs e1
   obtain ⟨k, e3, e4⟩ := Option.bind_eq_some_iff.mp h
   split at e4
   case isFalse => cases e4
   rename_i hl
   cases e4
   obtain ⟨rfl, e5⟩ := zk5 e1
   obtain ⟨a, rfl, ea⟩ := zl9 dv
   obtain ⟨ga, ws, k1, k2⟩ := s.addr e5 ea
   obtain ⟨s4, g4⟩ := s.put (x := .dK (putK ws k w)) (o' := .dK (putKW kvs k d)) sg e5 ea (fun b z => by cases z) ⟨_, zc5, k2.put dw⟩
   refine ⟨a, _, rfl, ?_, s4, g4⟩
   rw [zz9 du e3]
   exact DPut.k k1 (by rw [← k2.length]; exact hl)
 · rename_i n kvs e1
   obtain ⟨k, e3, e4⟩ := Option.bind_eq_some_iff.mp h
   split at e4
   case isFalse => cases e4
   rename_i hl
   cases e4
   obtain ⟨rfl, e5⟩ := zk5 e1
   obtain ⟨a, rfl, ea⟩ := zl9 dv
   obtain ⟨ga, ws, k1, k2⟩ := s.addr e5 ea
   obtain ⟨s4, g4⟩ := s.put (x := .dT (putK ws k w)) (o' := .dT (putKW kvs k d)) sg e5 ea (fun b z => by cases z) ⟨_, zc5, k2.put dw⟩
   obtain ⟨b, rfl, hb⟩ := keysOf_eq du e3
   exact ⟨a, _, rfl, DPut.t k1 (sg _ _ hb) (by rw [← k2.length]; exact hl), s4, g4⟩
 · cases h
def yc5 (fo fk fv : DS → Sto → SM W) : DS → Sto → SO := fun δ S => soB (fv δ S) fun d S1 => soB (fo δ S1) fun x S2 => soB (fk δ S2) fun y S3 => (putA x y d S3).map fun S4 => (.nx δ, S4)
theorem ss_dput {to tk tv : TE} {fo fk fv : DS → Sto → SM W} (ho : SE K cl E to fo) (hk : SE K cl E tk fk) (hv : SE K cl E tv fv) : SSt K cl E (sDPut to tk tv) (yc5 fo fk fv) := fun ρ0 G0 H0 ρ G σ H δ S o S' D I e p =>
 zs7 hv I e p fun d S1 e1 v ρ1 G1 H1 g1 s1 dv => by
  have I1 := I.grow g1 s1
  refine zs7 ho I1 e1 p fun x S2 e2 u ρ2 G2 H2 g2 s2 du => ?_
  have I2 := I1.grow g2 s2
  refine zs7 hk I2 e2 p fun y S3 e3 w ρ3 G3 H3 g3 s3 dw => ?_
  obtain ⟨S4, e4, e5⟩ := Option.map_eq_some_iff.mp e3
  cases e5
  have g23 := g2.trans g3
  obtain ⟨a, H4, rfl, h1, s4, g4⟩ := putA_ok g3.s s3 ((du.ext g3.r).same g3.g) dw ((dv.ext g23.r).same g23.g) e4
  exact ⟨a, _, rfl, h1, p σ ρ3 G3 _ ((I2.grow g3 s3).grow g4 s4)⟩
end
theorem Room.units1 {k : Nat} {A : Around} (r : Room k A) : A.units + 1 < cLine := Nat.lt_of_le_of_lt (by omega) r.units
section
variable {K : PySem.W.Frag} {cl : Str → Addr} {E : XK}
def sPop (fo : DS → Sto → SM W) : DS → Sto → SM W := fun δ S => sBind (fo δ S) fun x S1 => (lstAt x S1).bind fun p => (p.2[p.2.length - 1]?).map fun d => (.ok d, S1.set p.1 (.lst p.2.dropLast))
theorem DwAll.dropL {ρ : List Addr} {G : Hp} : ∀ {vs : List V} {ds : List W}, DwAll K ρ G vs ds → DwAll K ρ G vs.dropLast ds.dropLast
 | _, _, .nil => .nil
 | _, _, .cons _ .nil => .nil
 | _, _, .cons a (.cons b t) => .cons a (DwAll.dropL (.cons b t))
theorem se_pop {to : TE} {fo : DS → Sto → SM W} (ho : SE K cl E to fo) : SE K cl E (tBM0 K "list" rPop to) (sPop fo) := fun ρ G σ H δ S r' S' Q R e q qx =>
 zl3 ho R e (fun x S2 e2 v ρ2 G2 H2 g2 s2 dv => by
  obtain ⟨⟨n, ds⟩, e3, e4⟩ := Option.bind_eq_some_iff.mp e2
  obtain ⟨d, e5, e6⟩ := Option.map_eq_some_iff.mp e4
  cases e6
  obtain ⟨rfl, e7⟩ := zm1 e3
  obtain ⟨a, rfl, ea⟩ := zl9 dv
  obtain ⟨ga, vs, k1, k2⟩ := s2.addr e7 ea
  obtain ⟨z, h1, h2⟩ := k2.get e5
  obtain ⟨s4, g4⟩ := s2.put (x := .lst vs.dropLast) (o' := .lst ds.dropLast) g2.s e7 ea (fun b z => by cases z) ⟨_, zc5, k2.dropL⟩
  exact ⟨.inl ⟨rfl, vs, SqL.of k1⟩, a, vs, z, rfl, rfl, k1, by rw [k2.length]; exact h1, q d rfl z ρ2 G2 _ (g2.trans g4) s4 h2⟩) qx
end
section
variable {K : PySem.W.Frag} {ρ : List Addr}
end
section
variable {K : PySem.W.Frag} {cl : Str → Addr} {E : XK}
end
end L2
set_option Elab.async false
set_option linter.all false
set_option maxRecDepth 100000
namespace L2
open PySem PySem.Spec PyProof.Rows
open PySem.AutoSeq1 (wpAny_loadPart')
section
variable {prog : Program} {w : World} {A : Around} {E : Value → Shared → Prop} {s : Shared}
end
end L2
set_option Elab.async false
set_option linter.all false
set_option maxRecDepth 100000
namespace L2
open PySem PySem.Spec PyProof.Rows
open PySem.AutoSeq1 (wpAny_loadPart')
section
variable {prog : Program} {w : World} {A : Around} {E : Value → Shared → Prop} {s : Shared}
end
section
variable {M : Model} {A : Around} {E : Value → Shared → Prop} {s : Shared} {env : Env}
end
section
variable {K : PySem.W.Frag} {ρ : List Addr}
def tupD : W → Option (List W)
 | .tuple ds => some ds
 | _ => none
theorem tupD_eq {d : W} {ds : List W} (h : tupD d = some ds) : d = .tuple ds := by
 cases d <;> first | (cases h; rfl) | cases h
theorem tupD_t (ds : List W) : tupD (.tuple ds) = some ds := rfl
def dSlT (f : DS → Option W) (lo hi : DS → Option (Option Int)) : DS → Option W := fun δ => (f δ).bind fun d => (tupD d).bind fun ds => (lo δ).bind fun l => (hi δ).map fun u => .tuple (cutW ds l u)
theorem yb6 {t : TE} {tl th : TO} {f : DS → Option W} {lo hi : DS → Option (Option Int)} (h : DE K ρ t f) (hl : DOp K ρ tl lo) (hh : DOp K ρ th hi) : DE K ρ (tSl (rSlTN K) t tl th) (dSlT f lo hi) := fun G σ H δ d Q R e q => by
 obtain ⟨x, ed, e⟩ := Option.bind_eq_some_iff.mp e
 obtain ⟨es, ee, e⟩ := Option.bind_eq_some_iff.mp e
 obtain ⟨l, el, e⟩ := Option.bind_eq_some_iff.mp e
 obtain ⟨u, eu, rfl⟩ := Option.map_eq_some_iff.mp e
 cases tupD_eq ee
 refine h G σ H δ _ _ R ed fun v G1 H1 g1 dv => hl G1 σ H1 δ l _ (R.grow g1) el fun G2 H2 g2 => hh G2 σ H2 δ u _ ((R.grow g1).grow g2) eu fun G3 H3 g3 => ?_
 have g23 := g2.trans g3
 have g := g1.trans g23
 obtain ⟨p, vs, rfl, sq, da⟩ := yf8 (dv.same g23.g)
 refine ⟨p, vs, rfl, SqT.of (g.s _ _ sq), ?_⟩
 by_cases hw : HT.sIx vs.length 0 l = 0 ∧ HT.sIx vs.length vs.length u = vs.length
 · refine .inl ⟨hw.1, hw.2, q _ G3 H3 g ?_⟩
   have e1 : cutW es l u = es := by
    unfold cutW
    rw [← da.length, hw.1, hw.2, da.length]
    simp
   rw [e1]
   exact .tup sq da
 · refine .inr ⟨hw, fun r H' n => ?_⟩
   have g4 := Gr.nw g.s n
   exact q _ _ H' (g.trans g4) (.tup zc5 ((da.cut l u).same g4.g))
def gIsiB (T : String) : W → Option W
 | .list _ => if T = "list" then some (.bool true) else none
 | .tuple _ => if T = "tuple" then some (.bool true) else none
 | d => gIsi T d
theorem de_isiB {T : String} {t : TE} {f : DS → Option W} (h : DE K ρ t f) : DE K ρ (tCB (rIsiB K) (tCons t (tCons (tC (.ty T)) tNil))) (dC1 (gIsiB T) f) := fun G σ H δ d Q R e q => by
 obtain ⟨x, ex, e2⟩ := Option.bind_eq_some_iff.mp e
 clear e
 refine h G σ H δ x _ R ex fun v G1 H1 g1 dv => ?_
 show rIsiB K [v, .ty T] H1 Q
 unfold gIsiB at e2
 split at e2
 · split at e2
   · rename_i hT
     subst hT
     cases e2
     obtain ⟨a, vs, rfl, sq, da⟩ := yh8 dv
     exact .inr (.inr ⟨a, vs, "list", true, rfl, g1.s.seq sq, zv9 _ (by decide), q _ G1 H1 g1 (.bl _)⟩)
   · cases e2
 · split at e2
   · rename_i hT
     subst hT
     cases e2
     obtain ⟨a, vs, rfl, sq, da⟩ := yf8 dv
     exact .inr (.inl ⟨a, vs, "tuple", true, rfl, g1.s.tup (SqT.of sq), zv9 _ (by decide), q _ G1 H1 g1 (.bl _)⟩)
   · cases e2
 · unfold gIsi at e2
   split at e2
   all_goals first
    | cases e2
    | (obtain ⟨k, ek, rfl⟩ := Option.map_eq_some_iff.mp e2
       cases dv
       exact .inl ⟨_, T, k, rfl, ek, q _ G1 H1 g1 (.bl k)⟩)
theorem isiB_l (ds : List W) : gIsiB "list" (.list ds) = some (.bool true) := by simp [gIsiB]
theorem isiB_t (ds : List W) : gIsiB "tuple" (.tuple ds) = some (.bool true) := by simp [gIsiB]
end
section
variable {K : PySem.W.Frag} {cl : Str → Addr} {E : XK}
def cInS (d e : W) (S : Sto) : Option Bool := (seqS e S).bind fun ds => (vOf d).bind fun v => (vsOf ds).map fun vs => inV v vs
def sInS (neg : Bool) (fa fb : DS → Sto → SM W) : DS → Sto → SM Bool := fun δ S => sBind (fa δ S) fun x S1 => sBind (fb δ S1) fun y S2 => sOk ((cInS x y S2).map fun b => if neg then !b else b) S2
theorem st_inS {neg : Bool} {ta tb : TE} {fa fb : DS → Sto → SM W} (ha : SE K cl E ta fa) (hb : SE K cl E tb fb) : ST K cl E (tTest (tOp (rIn K neg) ta tb)) (sInS neg fa fb) := fun ρ G σ H δ S r' S' Q R e q qx =>
 zz2 ha hb R e (fun x y S2 e2 v u ρ2 G2 H2 g2 s2 dv du => by
  obtain ⟨b, e3, rfl, rfl⟩ := zk0 e2
  obtain ⟨b', e4, rfl⟩ := Option.map_eq_some_iff.mp e3
  obtain ⟨ds, e5, e4⟩ := Option.bind_eq_some_iff.mp e4
  obtain ⟨v', e6, e4⟩ := Option.bind_eq_some_iff.mp e4
  obtain ⟨vs, e7, rfl⟩ := Option.map_eq_some_iff.mp e4
  obtain ⟨p, xs, rfl, h2, da⟩ := seqS_read g2.s s2 du e5
  obtain ⟨rfl, f1⟩ := yb7 dv e6
  obtain ⟨rfl, f2⟩ := zu9 da e7
  cases neg with
  | false => exact ⟨p, xs, rfl, h2, f1, f2, _, rfl, q _ rfl ρ2 G2 H2 g2 s2⟩
  | true => exact ⟨p, xs, rfl, h2, f1, f2, _, rfl, q _ rfl ρ2 G2 H2 g2 s2⟩) qx
end
theorem pe_fldK {X : Cx} {K : PySem.W.Frag} {e : Expr} {f : Str} {pos : Pos} {ta : TE} (hK : X.K = K) (he : PE X e ta) (hb : attributeBase e f X.env (eval e X.env) = eval e X.env) : PE X (.Attribute e f pos) (tFld K ta f) := hK ▸ pe_fld he hb
end L2
set_option Elab.async false
set_option linter.all false
set_option maxRecDepth 100000
namespace L2
open PySem PySem.Spec PyProof.Rows
theorem at1 {α : Type} (x y : α) (r : List α) : atI (x :: y :: r) 1 = some y := by
 unfold atI ixN
 rw [if_pos (by decide), if_pos (by simp; omega)]
 rfl
theorem at0 {α : Type} (x : α) (r : List α) : atI (x :: r) 0 = some x := by
 unfold atI ixN
 rw [if_pos (by decide), if_pos (by simp)]
 rfl
theorem sz (n : Nat) (h : n ≤ 9000) : n ≤ sizeLine := Nat.le_trans h (by decide)
theorem zt7 {S : Sto} {l : Nat} {es : List W} (h : S[l]? = some (.lst es)) : lstAt (.ref l) S = some (l, es) := by simp [lstAt, obAt, h]
theorem zq1 {κ : Type} [DecidableEq κ] : ∀ (kvs : List (κ × W)) (k q : κ) (x : W), valW kvs k = none → valW (kvs ++ [(k, x)]) q = if q = k then some x else valW kvs q := fun kvs k q x h => by
 induction kvs with
 | nil =>
  by_cases e : q = k
  · subst e; simp [valW]
  · have e' : ¬ k = q := fun z => e z.symm
    simp [valW, e, e']
 | cons p r ih =>
  obtain ⟨j, y⟩ := p
  by_cases hj : j = k
  · subst hj
    simp [valW, List.find?_cons] at h
  · have h' : valW r k = none := by simpa [valW, List.find?_cons, hj] using h
    have ih' := ih h'
    by_cases hq : j = q
    · subst hq
      simp [valW, List.find?_cons, hj]
    · simp only [valW, List.cons_append, List.find?_cons, hq, decide_false] at ih' ⊢
      exact ih'
theorem putKW_new {κ : Type} [DecidableEq κ] {kvs : List (κ × W)} {k : κ} (x : W) (h : valW kvs k = none) : putKW kvs k x = kvs ++ [(k, x)] := by
 unfold putKW
 rw [if_neg]
 intro ha
 obtain ⟨kv, h1, h2⟩ := List.any_eq_true.mp ha
 unfold valW at h
 have h3 : kvs.find? (fun kv => decide (kv.1 = k)) = none := by
  cases hf : kvs.find? (fun kv => decide (kv.1 = k)) with
  | none => rfl
  | some z => rw [hf] at h; cases h
 exact absurd h2 (by simpa using List.find?_eq_none.mp h3 kv h1)
theorem zj2 {S : Sto} {m : Nat} {o x : Ob} (h : S[m]? = some o) : (S ++ [x])[m]? = some o := by
 rw [List.getElem?_append_left (List.getElem?_eq_some_iff.mp h).1]
 exact h
theorem at_map (B : List Int) (i : Int) (h0 : 0 ≤ i) (h1 : i < B.length) : atI (B.map W.int) i = some (.int (B[i.toNat]?.getD 0)) := by
 unfold atI ixN
 rw [if_pos h0, if_pos (by simpa using h1)]
 have h2 : i.toNat < B.length := by omega
 simp [List.getElem?_eq_getElem h2]
theorem zu2 (lo : Int) (n : Nat) : rngD lo (n + 1) = .int lo :: rngD (lo + 1) n := by
 unfold rngD
 rw [List.range_succ_eq_map, List.map_cons, List.map_map]
 congr 1
 · simp
 · apply List.map_congr_left
   intro a _
   show W.int (lo + ((a + 1 : Nat) : Int)) = W.int (lo + 1 + (a : Int))
   congr 1
   omega
theorem sCompGo_step (h : W → DS → Option DS) (fe : DS → Sto → SM W) (δ δ2 : DS) (d e : W) (ds es : List W) (S S1 S2 : Sto) (h1 : h d δ = some δ2) (h2 : fe δ2 S = some (.ok e, S1)) (h3 : zj1 h (sPure dYes) fe δ ds S1 = some (.ok es, S2)) : zj1 h (sPure dYes) fe δ (d :: ds) S = some (.ok (e :: es), S2) := by
 show (h d δ).bind _ = _
 rw [h1]
 show sBind (fe δ2 S) _ = _
 rw [h2]
 show sBind (zj1 h (sPure dYes) fe δ ds S1) _ = _
 rw [h3]
 rfl
theorem zh6 {a n : Nat} {fb : DS → Sto → SO} {ds : List W} {S : Sto} (h : ds.length = a) : bodyS a n fb ds S = outS (fb (startD n ds) S) := if_pos h
theorem zb5 {f g : DS → Sto → SO} {δ δ' : DS} {S S' : Sto} (h : f δ S = some (.nx δ', S')) : ssSeq f g δ S = g δ' S' := by unfold ssSeq; rw [h]
theorem yc3 {c : DS → Sto → SM Bool} {f g : DS → Sto → SO} {δ : DS} {S S1 : Sto} (h : c δ S = some (.ok true, S1)) : ssIf c f g δ S = f δ S1 := by unfold ssIf; rw [h]; rfl
theorem zr3 {c : DS → Sto → SM Bool} {f g : DS → Sto → SO} {δ : DS} {S S1 : Sto} (h : c δ S = some (.ok false, S1)) : ssIf c f g δ S = g δ S1 := by unfold ssIf; rw [h]; rfl
theorem zm4 {f : DS → Sto → SM W} {h : W → DS → Option DS} {δ δ' : DS} {S S1 : Sto} {d : W} (h1 : f δ S = some (.ok d, S1)) (h2 : h d δ = some δ') : ssAsg f h δ S = some (.nx δ', S1) := by
 unfold ssAsg
 rw [h1]
 show (h d δ).map _ = _
 rw [h2]
 rfl
theorem zq6 {fi : DS → Sto → SM (List W)} {h : W → DS → Option DS} {fb : DS → Sto → SO} {δ : DS} {S S1 : Sto} {ds : List W} (h1 : fi δ S = some (.ok ds, S1)) : ssFor fi h fb δ S = zm9 h fb ds δ S1 := by unfold ssFor; rw [h1]; rfl
theorem zm2 {h : W → DS → Option DS} {fb : DS → Sto → SO} {d : W} {ds : List W} {δ δ2 δ' : DS} {S S' : Sto} (h1 : h d δ = some δ2) (h2 : fb δ2 S = some (.nx δ', S')) : zm9 h fb (d :: ds) δ S = zm9 h fb ds δ' S' := by
 show (h d δ).bind _ = _
 rw [h1]
 show (match fb δ2 S with | some (.nx δ', S') => _ | some (.ct δ', S') => _ | some (.bk δ', S') => _ | some (.rt d, S') => _ | some (.xc c, S') => _ | none => _) = _
 rw [h2]
theorem sComp_of {ix : List (Option Nat)} {fi : DS → Sto → SM (List W)} {h : W → DS → Option DS} {c : DS → Sto → SM Bool} {fe : DS → Sto → SM W} {δ : DS} {S S0 S1 : Sto} {ds es : List W} (h1 : fi δ S = some (.ok ds, S0)) (h2 : ds.length ≤ sizeLine) (h3 : zj1 h c fe (liftD ix δ) ds S0 = some (.ok es, S1)) : sComp ix fi h c fe δ S = some (.ok (.list es), S1) := by
 unfold sComp
 rw [h1]
 show (if ds.length ≤ sizeLine then _ else _) = _
 rw [if_pos h2, h3]
 rfl
theorem zm7 (i : Int) {j : Int} (h : 0 < j) : 0 ≤ i.fmod j ∧ i.fmod j < j := ⟨Int.fmod_nonneg_of_pos i h, Int.fmod_lt_of_pos i h⟩
theorem lookE_l {S : Sto} {l : Nat} {es : List W} (h : S[l]? = some (.lst es)) : lookE S (l, false) = some es := by simp [lookE, lookS, h]
mutual
def okW : W → Bool
 | .none | .bool _ | .int _ => true
 | .str x => PyData.strOk x
 | .list ds | .tuple ds => okWs ds
 | .ref _ => false
def okWs : List W → Bool
 | [] => true
 | d :: ds => okW d && okWs ds
end
mutual
def depW : W → Nat
 | .list ds | .tuple ds => depWs ds + 1
 | _ => 0
def depWs : List W → Nat
 | [] => 0
 | d :: ds => max (depW d) (depWs ds)
end
mutual
theorem yf5 : ∀ (d : W), okW d = true → ∃ a, d.py = some a ∧ a.canLay0 = true ∧ a.depth = depW d ∧ PyData.eqv a a = true
 | .none, _ => ⟨.none, rfl, by simp [PyData.canLay0], by simp [PyData.depth, depW], by simp [PyData.eqv]⟩
 | .bool b, _ => ⟨.bool b, rfl, by simp [PyData.canLay0], by simp [PyData.depth, depW], by simp [PyData.eqv]⟩
 | .int i, _ => ⟨.int i, rfl, by simp [PyData.canLay0], by simp [PyData.depth, depW], by simp [PyData.eqv]⟩
 | .str x, h => ⟨.str x, rfl, by simpa [PyData.canLay0, okW] using h, by simp [PyData.depth, depW], by simp [PyData.eqv]⟩
 | .list ds, h => by
  obtain ⟨xs, e1, e2, e3, e4⟩ := yd1 ds (by simpa [okW] using h)
  exact ⟨.list xs, by simp [W.py, e1], by simpa [PyData.canLay0] using e2, by simp [PyData.depth, depW, e3], by simpa [PyData.eqv] using e4⟩
 | .tuple ds, h => by
  obtain ⟨xs, e1, e2, e3, e4⟩ := yd1 ds (by simpa [okW] using h)
  exact ⟨.tuple xs, by simp [W.py, e1], by simpa [PyData.canLay0] using e2, by simp [PyData.depth, depW, e3], by simpa [PyData.eqv] using e4⟩
 | .ref _, h => by simp [okW] at h
theorem yd1 : ∀ (ds : List W), okWs ds = true → ∃ xs, W.pys ds = some xs ∧ PyData.canLayAll0 xs = true ∧ PyData.depthAll xs = depWs ds ∧ PyData.eqvAll xs xs = true
 | [], _ => ⟨[], rfl, by simp [PyData.canLayAll0], by simp [PyData.depthAll, depWs], by simp [PyData.eqvAll]⟩
 | d :: ds, h => by
  have h' : okW d = true ∧ okWs ds = true := by simpa [okWs] using h
  obtain ⟨a, a1, a2, a3, a4⟩ := yf5 d h'.1
  obtain ⟨xs, e1, e2, e3, e4⟩ := yd1 ds h'.2
  exact ⟨a :: xs, by simp [W.pys, a1, e1], by simp [PyData.canLayAll0, a2, e2], by simp [PyData.depthAll, depWs, a3, e3], by simp [PyData.eqvAll, a4, e4]⟩
end
theorem scD_self {d : W} (h : okW d = true) (b : Bool) (e : scD d d = some b) : b = true := by
 cases d with
 | none => exact (Option.some.inj e).symm
 | int i => exact (Option.some.inj e).symm.trans (by simp)
 | bool i => exact (Option.some.inj e).symm.trans (by simp)
 | str i => exact (Option.some.inj e).symm.trans (by simp)
 | _ => cases e
theorem cEq_self {d : W} (h : okW d = true) (hd : depW d ≤ 64) : cEq d d = some true := by
 obtain ⟨a, a1, a2, a3, a4⟩ := yf5 d h
 unfold cEq
 split
 · rename_i b e
   rw [scD_self h b e]
 · simp [a1, a2, a3, a4, hd]
theorem cNe_self {d : W} (h : okW d = true) (hd : depW d ≤ 64) : cNe d d = some false := by
 unfold cNe
 rw [cEq_self h hd]
 rfl
mutual
theorem pyS_ok (S : Sto) : ∀ (n : Nat) (d : W), okW d = true → depW d < n → pyS S n d = d.py
 | 0, d, _, h => absurd h (Nat.not_lt_zero _)
 | n + 1, .none, _, _ => rfl
 | n + 1, .bool b, _, _ => rfl
 | n + 1, .int i, _, _ => rfl
 | n + 1, .str x, _, _ => rfl
 | n + 1, .list ds, h, hd => by
  show (pysG (pyS S n) ds).map PyData.list = (W.pys ds).map .list
  rw [yd2 S n ds (by simpa [okW] using h) (by simp [depW] at hd; omega)]
 | n + 1, .tuple ds, h, hd => by
  show (pysG (pyS S n) ds).map PyData.tuple = (W.pys ds).map .tuple
  rw [yd2 S n ds (by simpa [okW] using h) (by simp [depW] at hd; omega)]
 | n + 1, .ref m, h, _ => by simp [okW] at h
theorem yd2 (S : Sto) : ∀ (n : Nat) (ds : List W), okWs ds = true → depWs ds < n → pysG (pyS S n) ds = W.pys ds
 | n, [], _, _ => rfl
 | n, d :: ds, h, hd => by
  have h' : okW d = true ∧ okWs ds = true := by simpa [okWs] using h
  simp only [depWs] at hd
  show (pyS S n d).bind _ = (W.py d).bind _
  rw [pyS_ok S n d h'.1 (by omega), yd2 S n ds h'.2 (by omega)]
end
theorem eqS_self {S : Sto} {d : W} (neg : Bool) (h : okW d = true) (hd : depW d < 24) : cEqS neg d d S = some (!neg) := by
 obtain ⟨a, a1, a2, a3, a4⟩ := yf5 d h
 unfold cEqS
 split
 · rename_i b e
   rw [scD_self h b e]
   cases neg <;> rfl
 · rw [pyS_ok S 24 d h hd, a1]
   cases neg <;> simp [a2, a3, a4] <;> omega
theorem atN {α : Type} (l : List α) (k : Nat) (h : k < l.length) : atI l (k : Int) = l[k]? := by
 unfold atI ixN
 rw [if_pos (by omega), if_pos (by omega)]
 simp
theorem at2 {α : Type} (a b c : α) (r : List α) : atI (a :: b :: c :: r) 2 = some c := (atN _ 2 (by simp)).trans rfl
theorem at3 {α : Type} (a b c d : α) (r : List α) : atI (a :: b :: c :: d :: r) 3 = some d := (atN _ 3 (by simp)).trans rfl
theorem at4 {α : Type} (a b c d e : α) (r : List α) : atI (a :: b :: c :: d :: e :: r) 4 = some e := (atN _ 4 (by simp)).trans rfl
theorem at5 {α : Type} (a b c d e f : α) (r : List α) : atI (a :: b :: c :: d :: e :: f :: r) 5 = some f := (atN _ 5 (by simp)).trans rfl
theorem cut_1 (x : W) (r : List W) : cutW (x :: r) (some 1) none = r := by
 unfold cutW
 rw [HT.sIx_none, show (some (1 : Int)) = some ((1 : Nat) : Int) from rfl, HT.sIx_nat]
 rw [show min 1 (x :: r).length = 1 by simp]
 simp
theorem zx6 {f : DS → Sto → SM W} {δ : DS} {S S1 : Sto} {d : W} (h : f δ S = some (.ok d, S1)) : ssExpr f δ S = some (.nx δ, S1) := by unfold ssExpr; rw [h]; rfl
theorem zo6 {f : List W → Sto → SM W} {fa : DS → Sto → SM (List W)} {δ : DS} {S S1 S2 : Sto} {ds : List W} {d : W} (h1 : fa δ S = some (.ok ds, S1)) (h2 : f ds S1 = some (.ok d, S2)) : sCall f fa δ S = some (.ok d, S2) := by
 unfold sCall
 rw [h1]
 show noX (f ds S1) = _
 rw [h2]
 rfl
theorem sMeth_of {c m : Str} {f : List W → Sto → SM W} {fo : DS → Option W} {fa : DS → Sto → SM (List W)} {δ : DS} {S S1 S2 : Sto} {I : Nat} {fs : List (Str × W)} {ds : List W} {d : W} (h1 : fo δ = some (.ref I)) (h2 : S[I]? = some (.ins c fs)) (h3 : fs.lookup m = none) (h4 : fa δ S = some (.ok ds, S1)) (h5 : f (.ref I :: ds) S1 = some (.ok d, S2)) : sMeth c m f (sPure fo) fa δ S = some (.ok d, S2) := by
 unfold sMeth sPure
 rw [h1]
 show (insAt c (.ref I) S).bind _ = _
 rw [show insAt c (.ref I) S = some (I, fs) by simp [insAt, obAt, h2]]
 show (if fs.lookup m = none then _ else _) = _
 rw [if_pos h3, h4]
 show noX (f (.ref I :: ds) S1) = _
 rw [h5]
 rfl
theorem zk1 {α : Type} {f : DS → Option α} {δ : DS} {S : Sto} {d : α} (h : f δ = some d) : sPure f δ S = some (.ok d, S) := by unfold sPure; rw [h]; rfl
theorem zf3 {f : DS → Option Out} {δ δ' : DS} {S : Sto} (h : f δ = some (.nx δ')) : ssPure f δ S = some (.nx δ', S) := by unfold ssPure; rw [h]; rfl
theorem ssPure_rt {f : DS → Option Out} {δ : DS} {S : Sto} {d : W} (h : f δ = some (.rt d)) : ssPure f δ S = some (.rt d, S) := by unfold ssPure; rw [h]; rfl
theorem zw6 {f g : DS → Sto → SO} {δ : DS} {S S' : Sto} {d : W} (h : f δ S = some (.rt d, S')) : ssSeq f g δ S = some (.rt d, S') := by unfold ssSeq; rw [h]
theorem zw9 {f : DS → Sto → SM W} {δ : DS} {S S1 : Sto} {d : W} (h : f δ S = some (.ok d, S1)) : ssRet f δ S = some (.rt d, S1) := by unfold ssRet; rw [h]; rfl
theorem set_ne' {S : Sto} {m k : Nat} {o x : Ob} (h : S[k]? = some o) (hne : m ≠ k) : (S.set m x)[k]? = some o := by rw [List.getElem?_set_ne hne]; exact h
theorem set_eq' {S : Sto} {m : Nat} {o x : Ob} (h : S[m]? = some o) : (S.set m x)[m]? = some x := zy3 (List.getElem?_eq_some_iff.mp h).1
theorem zj4 {S : Sto} {m k : Nat} {o x : Ob} (h : S[m]? = some o) (h2 : S[k]? = some x) (hne : o ≠ x) : m ≠ k := fun e => hne (by rw [e, h2] at h; exact (Option.some.inj h).symm)
theorem zn3 (S : Sto) (o : Ob) : (S ++ [o])[S.length]? = some o := by simp
theorem ssFld_of {c f : Str} {fo : DS → Option W} {fv : DS → Sto → SM W} {δ : DS} {S S1 : Sto} {d : W} {n : Nat} {fs : List (Str × W)} (h1 : fv δ S = some (.ok d, S1)) (h2 : fo δ = some (.ref n)) (h3 : S1[n]? = some (.ins c fs)) (h4 : fs.length < 1000) : ssFld c f (sPure fo) fv δ S = some (.nx δ, S1.set n (.ins c (putW f d fs))) := by
 have h5 : insAt c (.ref n) S1 = some (n, fs) := by simp [insAt, obAt, h3]
 simp only [ssFld, h1, soB, sPure, h2, Option.map_some, h5, Option.bind_some, if_pos h4]
theorem sMake_of {c : Str} {f : List W → Sto → SM W} {fa : DS → Sto → SM (List W)} {δ : DS} {S S1 S2 : Sto} {ds : List W} (h1 : fa δ S = some (.ok ds, S1)) (h2 : f (.ref S1.length :: ds) (S1 ++ [.ins c []]) = some (.ok .none, S2)) : sMake c f fa δ S = some (.ok (.ref S1.length), S2) := by
 simp only [sMake, h1, sBind, h2, noX]
theorem get_kept {S S' : Sto} {n m : Nat} {o : Ob} {x : Ob} (hk : ∀ k, k ≠ n → S'[k]? = (S ++ [x])[k]?) (hn : n = S.length) (h : S[m]? = some o) : S'[m]? = some o := by
 have hm : m < S.length := (List.getElem?_eq_some_iff.mp h).1
 rw [hk m (by omega)]
 exact zj2 h
theorem ssAppend_of {fo : DS → Option W} {fv : DS → Sto → SM W} {δ : DS} {S : Sto} {l : Nat} {q : List W} {d : W} (h1 : fo δ = some (.ref l)) (h2 : S[l]? = some (.lst q)) (h3 : fv δ S = some (.ok d, S)) (h4 : q.length < 9000) : zo5 (sPure fo) fv δ S = some (.nx δ, S.set l (.lst (q ++ [d]))) := by
 have hz : q.length < sizeLine := Nat.lt_of_lt_of_le h4 (sz 9000 (by decide))
 simp only [zo5, sPure, h1, soB, zt7 h2, Option.isSome_some, if_true, h3, Option.bind_some, if_pos hz, Option.map_some]
theorem sAnd_f {f g : DS → Sto → SM Bool} {δ : DS} {S S1 : Sto} (h1 : f δ S = some (.ok false, S1)) : sAnd f g δ S = some (.ok false, S1) := by simp only [sAnd, h1, sBind, Bool.false_eq_true, if_false]
theorem sAnd_t {f g : DS → Sto → SM Bool} {δ : DS} {S S1 S2 : Sto} {b : Bool} (h1 : f δ S = some (.ok true, S1)) (h2 : g δ S1 = some (.ok b, S2)) : sAnd f g δ S = some (.ok b, S2) := by simp only [sAnd, h1, sBind, if_true, h2]
theorem yh0 : ∀ (bs : List Bool), bsOf (bs.map .bool) = some bs
 | [] => rfl
 | b :: bs => by
  show ((some b).bind fun b => (bsOf (bs.map .bool)).map (b :: ·)) = _
  rw [yh0 bs]
  rfl
def uD := And.intro @bodyD.eq_1 <| And.intro @outD.eq_1 <| And.intro @outD.eq_2 <| And.intro @outD.eq_3 <| And.intro @startD.eq_1 <| And.intro @dsNext.eq_1 <| And.intro @dsSeq.eq_1 <| And.intro @dsIf.eq_1 <| And.intro @dsRet.eq_1 <| And.intro @dsRetN.eq_1 <| And.intro @dsAsg.eq_1 <| And.intro @dsOwn.eq_1 <| And.intro @dsFrz.eq_1 <| And.intro @frz.eq_1 <| And.intro @dsFor.eq_1 <| And.intro @dsAppend.eq_1 <| And.intro @dsSetI.eq_1 <| And.intro @ownAt.eq_1 <| And.intro @dVar.eq_1 <| And.intro @dPk.eq_1 <| And.intro @dC.eq_1 <| And.intro @dOp.eq_1 <| And.intro @dCmp.eq_1 <| And.intro @dB.eq_1 <| And.intro @dTru.eq_1 <| And.intro @dNot.eq_1 <| And.intro @dNotV.eq_1 <| And.intro @dAndV.eq_1 <| And.intro @dOrV.eq_1 <| And.intro @dAnd.eq_1 <| And.intro @dOr.eq_1 <| And.intro @dCall.eq_1 <| And.intro @dCons.eq_1 <| And.intro @dNil.eq_1 <| And.intro @dTup.eq_1 <| And.intro @dLst.eq_1 <| And.intro @dOwn.eq_1 <| And.intro @dComp.eq_1 <| And.intro @dC1.eq_1 <| And.intro @dSeqOf.eq_1 <| And.intro @dgName.eq_1 <| And.intro @dgTup.eq_1 <| And.intro @dgTup.eq_2 <| And.intro @dgCons.eq_1 <| And.intro @dgCons.eq_2 <| And.intro @dgNil.eq_1 <| And.intro @dgNil.eq_2 <| And.intro @dSlL.eq_1 <| And.intro @dPart.eq_1 <| And.intro @dNoPart.eq_1 <| And.intro @dEnum.eq_1 <| And.intro @dZip.eq_1 <| And.intro @dListOf.eq_1 <| And.intro @dAddL.eq_1 <| And.intro @liftD.eq_1 <| And.intro @slAt.eq_1 <| And.intro @slAt.eq_2 <| And.intro @dYes.eq_1 <| And.intro @dIf.eq_1 <| And.intro @dSlT.eq_1 <| And.intro @tupD_t <| And.intro @gAdd_i <| And.intro @gSub_i <| And.intro @gDiv_n <| And.intro @gMod_n <| And.intro @gNeg_i <| And.intro @asB_b <| And.intro @asI_i <| And.intro @ya2 <| And.intro @seqD_l <| And.intro @seqD_t <| And.intro @gLen_l <| And.intro @gLen_t <| And.intro @gIx_l <| And.intro @gIx_t <| And.intro @cEq_i <| And.intro @cEq_s <| And.intro @cEq_b <| And.intro @cNe_i <| And.intro @cNe_s <| And.intro @cLt_i <| And.intro @cLe_i <| And.intro @cGt_i <| And.intro @cGe_i <| And.intro @cNotN_i <| And.intro @cNotN_n <| And.intro @cNotN_s <| And.intro @cNotN_l <| And.intro @cNotN_t <| And.intro @cIsN_i <| And.intro @cIsN_n <| And.intro @cIsN_s <| And.intro @cIsN_l <| And.intro @cIsN_t <| And.intro @isi_int <| And.intro @isi_bool <| And.intro @isi_str <| And.intro @isiB_l <| And.intro @isiB_t <| And.intro @List.length_cons.{0} <| And.intro @List.length_nil.{0} <| And.intro @List.map_cons.{0, 0} <| And.intro @List.map_nil.{0, 0} <| And.intro @List.nil_append.{0} <| And.intro @List.cons_append.{0} <| And.intro @List.getElem?_cons_zero.{0} <| And.intro @List.getElem?_cons_succ.{0} <| And.intro @List.set_cons_zero.{0} <| And.intro @List.set_cons_succ.{0} <| And.intro @Option.bind_some.{0, 0} <| And.intro @Option.map_some.{0, 0} <| And.intro @Option.bind_none.{0, 0} <| And.intro @Option.map_none.{0, 0} <| And.intro @Option.getD_some.{0} <| And.intro @Option.getD_none.{0} <| And.intro @if_true.{1} <| And.intro @decide_true <| And.intro @decide_false <| And.intro @Bool.not_true <| And.intro @Bool.not_false <| And.intro @Bool.false_eq_true <| And.intro @ne_eq.{1} <| @not_false_eq_true
def uS := And.intro @bodyS.eq_1 <| And.intro @outS.eq_1 <| And.intro @outS.eq_2 <| And.intro @outS.eq_3 <| And.intro @outS.eq_4 <| And.intro @ssSeq.eq_1 <| And.intro @ssIf.eq_1 <| And.intro @ssRet.eq_1 <| And.intro @ssAsg.eq_1 <| And.intro @ssExpr.eq_1 <| And.intro @ssPure.eq_1 <| And.intro @soB.eq_1 <| And.intro @soB.eq_2 <| And.intro @soB.eq_3 <| And.intro @sBind.eq_1 <| And.intro @sBind.eq_2 <| And.intro @sBind.eq_3 <| And.intro @sOk.eq_1 <| And.intro @sPure.eq_1 <| And.intro @sFldR.eq_1 <| And.intro @sMeth.eq_1 <| And.intro @sCall.eq_1 <| And.intro @sCallD.eq_1 <| And.intro @noX.eq_1 <| And.intro @noX.eq_2 <| And.intro @outP.eq_1 <| And.intro @outP.eq_2 <| And.intro @outP.eq_3 <| And.intro @outP.eq_4 <| And.intro @sNil.eq_1 <| And.intro @sCons.eq_1 <| And.intro @sTru.eq_1 <| And.intro @sNot.eq_1 <| And.intro @sAnd.eq_1 <| And.intro @sOr.eq_1 <| And.intro @sAndV.eq_1 <| And.intro @sOrV.eq_1 <| And.intro @sNotV.eq_1 <| And.intro @sB.eq_1 <| And.intro @sCmp.eq_1 <| And.intro @sC1.eq_1 <| And.intro @sTup.eq_1 <| And.intro @sLst.eq_1 <| And.intro @sLstS.eq_1 <| And.intro @sLen.eq_1 <| And.intro @gLenS.eq_1 <| And.intro @sIx.eq_1 <| And.intro @gIxS.eq_1 <| And.intro @sIsi.eq_1 <| And.intro @gIsiS.eq_1 <| And.intro @gIsiS.eq_2 <| And.intro @gIsiS.eq_3 <| And.intro @sEq.eq_1 <| And.intro @ssFrz.eq_1 <| And.intro @siLive.eq_1 <| And.intro @ssForL.eq_1 <| And.intro @sCompL.eq_1 <| @Option.map_eq_map.{0}
end L2
set_option Elab.async false
set_option linter.all false
set_option maxRecDepth 100000
namespace L2
open PySem PySem.Spec PyProof.Rows
section
variable {X : Cx}
end
section
variable {K : PySem.W.Frag} {cl : Str → Addr} {E : XK}
end
end L2
set_option Elab.async false
set_option linter.all false
set_option maxRecDepth 100000
namespace L2
open PySem PySem.Spec PyProof.Rows
section
variable {prog : Program} {w : World} {A : Around} {E : Value → Shared → Prop} {s : Shared}
def plc (es : Array DictEntry) (h : Int) : List Nat := placesWithHash es.size (fun i => es[i]?.map (·.hash)) h
theorem plc_eq (es : Array DictEntry) (h : Int) : plc es h = (List.range es.size).filter fun i => (es[i]?.map (·.hash)) == some h := rfl
theorem plc_mem {es : Array DictEntry} {h : Int} {x : Nat} : x ∈ plc es h ↔ ∃ e, es[x]? = some e ∧ e.hash = h := by
 rw [plc_eq, List.mem_filter, List.mem_range]
 constructor
 · rintro ⟨h1, h2⟩
   rw [Array.getElem?_eq_getElem h1] at h2 ⊢
   exact ⟨_, rfl, by simpa using h2⟩
 · rintro ⟨e, h1, h2⟩
   refine ⟨?_, by simp [h1, h2]⟩
   rcases Nat.lt_or_ge x es.size with g | g
   · exact g
   · rw [Array.getElem?_eq_none g] at h1; cases h1
theorem plc_nodup (es : Array DictEntry) (h : Int) : (plc es h).Nodup := by rw [plc_eq]; exact List.Pairwise.filter _ List.nodup_range
theorem yf4 {α : Type} {M : Model} {c : Prop} [Decidable c] {a b : Sem α} {Q : α → Shared → Prop} (h1 : wpAny M A a Q E s) (h2 : wpAny M A b Q E s) : wpAny M A (if c then a else b) Q E s := by
 by_cases h : c
 · rw [if_pos h]; exact h1
 · rw [if_neg h]; exact h2
structure Fnd (prog : Program) (w : World) (A : Around) (E : Value → Shared → Prop) (s : Shared) (es : Array DictEntry) (key : Value) (h : Int) (m : Nat → Bool) : Prop where
 kind : key = .none ∨ ∃ a, key = .ref a
 same : ∀ e ∈ es, e.key = key → e.hash = h
 quiet : ∀ v, v = key ∨ (∃ e ∈ es, e.key = v) → ∀ Q' : Bool → Shared → Prop, Q' true s → wpAny (model prog w) A (eqIsQuiet 8 v) Q' E s
 eq : ∀ i e, es[i]? = some e → e.hash = h → ∀ Q' : Bool → Shared → Prop, Q' (m i) s → wpAny (model prog w) A (eqBool e.key key) Q' E s
 hash : ∀ i, m i = true → ∃ e, es[i]? = some e ∧ e.hash = h
 one : ∀ i j, m i = true → m j = true → i = j
variable {es : Array DictEntry} {ep : Nat} {key : Value} {h : Int} {m : Nat → Bool} {d : Addr} {o : Obj}
theorem Fnd.plain (L : Fnd prog w A E s es key h m) (ho : s.heap.get? d = some o) (hd : o.data = .dict es ep) {Q : Option Nat → Shared → Prop} (h0 : (∀ i, m i = false) → Q none s) (h1 : ∀ i, m i = true → Q (some i) s) : wpAny (model prog w) A (dictWalkPlain d key h es (plc es h)) Q E s := by
 refine wpAny_bind ?_
 refine wpAny_forIn_list _ (fun rest b s' => s' = s ∧ b = (none, ()) ∧ ∃ pre, plc es h = pre ++ rest ∧ ∀ i ∈ pre, m i = false) _ ?_ ?_ _ _ ⟨rfl, rfl, [], rfl, by simp⟩
 · rintro x rest b s' ⟨rfl, rfl, pre, hp, hn⟩
   obtain ⟨e, e1, e2⟩ := plc_mem.mp (show x ∈ plc es h by rw [hp]; simp)
   rw [e1]
   dsimp only
   rw [if_pos (by simp [e2])]
   refine wpAny_bind (wpAny_dictEpoch ho hd (wpAny_bind (L.eq x e e1 e2 _ (wpAny_bind (wpAny_dictEpoch ho hd ?_)))))
   rw [if_neg (by simp)]
   cases hx : m x with
   | true => rw [if_pos rfl]; exact wpAny_bind (wpAny_rule (wpAny_pure (wpAny_pure (h1 x hx))))
   | false =>
    rw [if_neg (by simp)]
    refine wpAny_bind (wpAny_rule (wpAny_pure ⟨rfl, rfl, pre ++ [x], by rw [hp]; simp, fun i hi => ?_⟩))
    rcases List.mem_append.mp hi with hi | hi
    · exact hn i hi
    · rw [List.mem_singleton.mp hi]; exact hx
 · rintro b s' ⟨rfl, rfl, pre, hp, hn⟩
   refine wpAny_pure (h0 fun i => ?_)
   cases hi : m i with
   | false => rfl
   | true => exact absurd hi (by rw [hn i (by have := plc_mem.mpr (L.hash i hi); rw [hp, List.append_nil] at this; exact this)]; simp)
theorem Fnd.tells (L : Fnd prog w A E s es key h m) {Q : Bool → Shared → Prop} (hQ : Q false s) : wpAny (model prog w) A (tableMayTell key ((plc es h).filterMap fun i => es[i]?.map (·.key))) Q E s := by
 unfold tableMayTell
 split
 · exact wpAny_pure hQ
 · refine wpAny_bind (L.quiet key (.inl rfl) _ ?_)
   simp only [Bool.not_true, Bool.false_eq_true, if_false]
   refine wpAny_bind (wpAny_forIn_list _ (fun rest r s' => s' = s ∧ r = (none, ()) ∧ ∀ v ∈ rest, ∃ e ∈ es, e.key = v) _ ?_ ?_ _ _ ⟨rfl, rfl, fun v hv => ?_⟩)
   · rintro x rest r s' ⟨rfl, rfl, hr⟩
     refine wpAny_bind (L.quiet x (.inr (hr x (by simp))) _ ?_)
     simp only [Bool.not_true, Bool.false_eq_true, if_false]
     exact wpAny_pure ⟨rfl, rfl, fun v hv => hr v (by simp [hv])⟩
   · rintro r s' ⟨rfl, rfl, _⟩
     exact wpAny_pure hQ
   · obtain ⟨i, _, hi⟩ := List.mem_filterMap.mp hv
     obtain ⟨e, e1, e2⟩ := Option.map_eq_some_iff.mp hi
     exact ⟨e, Array.mem_of_getElem? e1, e2⟩
theorem Fnd.find (L : Fnd prog w A E s es key h m) (ho : s.heap.get? d = some o) (hd : o.data = .dict es ep) {Q : Option Nat → Shared → Prop} (h0 : (∀ i, m i = false) → Q none s) (h1 : ∀ i, m i = true → Q (some i) s) : wpAny (model prog w) A (dictFind d key h) Q E s := by
 have hany : ¬ (es.any fun e => e.key == key && e.hash != h) = true := by
  rw [← Array.any_toList, List.any_eq_true]
  rintro ⟨e, hin, hc⟩
  simp only [Bool.and_eq_true, beq_iff_eq, bne_iff_ne, ne_eq] at hc
  exact hc.2 (L.same e (Array.mem_toList_iff.mp hin) hc.1)
 have walk : ∀ {sv : List Value}, wpAny (model prog w) A (do
  let mut g : Option Nat := none
  for i in plc es h do
   if let some q := es[i]? then
    if q.hash == h then
     let b4 ← dictEpoch d (keyPart key); let sm ← eqBool q.key key
     if (← dictEpoch d (keyPart key)) != b4 then unsupported "dict.changed-during-lookup"
     if sm then
      if g.isSome then unsupported "dict.find:order-among-keys-of-one-hash"
      rule "dict.find.hit"; if sv.length < 2 then return some i
      g := some i
     else
      rule "dict.find.same-hash-other-key"; if false && !(0 ≤ h && h < 32) then unsupported "dict.find:asked-again-or-not-hangs-on-the-table"
  return g) Q E s := by
  intro stored
  refine wpAny_bind ?_
  refine wpAny_forIn_list _ (fun rest b s' => s' = s ∧ ∃ hit, b = (none, hit) ∧ ∃ pre, plc es h = pre ++ rest ∧ ((hit = none ∧ ∀ i ∈ pre, m i = false) ∨ ∃ i ∈ pre, hit = some i ∧ m i = true)) _ ?_ ?_ _ _ ⟨rfl, none, rfl, [], rfl, .inl ⟨rfl, by simp⟩⟩
  · rintro x rest b s' ⟨rfl, hit, rfl, pre, hp, hH⟩
    obtain ⟨e, e1, e2⟩ := plc_mem.mp (show x ∈ plc es h by rw [hp]; simp)
    rw [e1]
    dsimp only
    rw [if_pos (by simp [e2])]
    refine wpAny_bind (wpAny_dictEpoch ho hd (wpAny_bind (L.eq x e e1 e2 _ (wpAny_bind (wpAny_dictEpoch ho hd ?_)))))
    rw [if_neg (by simp)]
    have nd := plc_nodup es h
    rw [hp] at nd
    have hx0 : x ∉ pre := fun hx => (List.nodup_append.mp nd).2.2 x hx x (by simp) rfl
    cases hx : m x with
    | true =>
     rw [if_pos rfl]
     rcases hH with ⟨rfl, hn⟩ | ⟨i, hi, rfl, hm⟩
     · rw [if_neg (by simp)]
       refine wpAny_bind (wpAny_rule ?_)
       split
       · exact wpAny_pure (wpAny_pure (h1 x hx))
       · exact wpAny_pure ⟨rfl, some x, rfl, pre ++ [x], by rw [hp]; simp, .inr ⟨x, by simp, rfl, hx⟩⟩
     · exact absurd (L.one i x hm hx ▸ hi) hx0
    | false =>
     rw [if_neg (by simp)]
     refine wpAny_bind (wpAny_rule ?_)
     rw [if_neg (by simp)]
     refine wpAny_pure ⟨rfl, hit, rfl, pre ++ [x], by rw [hp]; simp, ?_⟩
     rcases hH with ⟨rfl, hn⟩ | ⟨i, hi, rfl, hm⟩
     · refine .inl ⟨rfl, fun i hi => ?_⟩
       rcases List.mem_append.mp hi with hi | hi
       · exact hn i hi
       · rw [List.mem_singleton.mp hi]; exact hx
     · exact .inr ⟨i, by simp [hi], rfl, hm⟩
  · rintro b s' ⟨rfl, hit, rfl, pre, hp, hH⟩
    rw [List.append_nil] at hp
    rcases hH with ⟨rfl, hn⟩ | ⟨i, hi, rfl, hm⟩
    · refine wpAny_pure (h0 fun i => ?_)
      cases hi : m i with
      | false => rfl
      | true => exact absurd hi (by rw [hn i (by have := plc_mem.mpr (L.hash i hi); rw [hp] at this; exact this)]; simp)
    · exact wpAny_pure (h1 i hm)
 have pl := L.plain ho hd h0 h1
 have tl := @Fnd.tells prog w A E s es key h m L
 rcases L.kind with rfl | ⟨a, rfl⟩
 · unfold dictFind
   try with_reducible refine wpAny_holding ?_
   refine wpAny_bind (wpAny_dictEntries ho hd ?_)
   refine yf4 pl (yf4 (wpAny_bind (wpAny_pure ?_)) (wpAny_bind (tl ?_)))
   · dsimp only
     rw [if_neg (by simp)]
     exact walk
   · dsimp only
     rw [if_neg (by simp)]
     exact walk
 · unfold dictFind
   try with_reducible refine wpAny_holding ?_
   refine wpAny_bind (wpAny_dictEntries ho hd ?_)
   refine yf4 pl ?_
   dsimp only
   rw [if_neg hany]
   refine yf4 (wpAny_bind (wpAny_pure ?_)) (wpAny_bind (tl ?_))
   · rw [if_neg (by simp)]
     exact walk
   · rw [if_neg (by simp)]
     exact walk
end
section
variable {P : Program} {w : World} {A : Around} {E : Value → Shared → Prop} {s : Shared}
theorem hash_none {Q : Int → Shared → Prop} (h : Q 4238894112 { s with toks := s.toks + 1 }) : wpAny (model P w) A (pyHash .none) Q E s := by
 have hT : s.TypeIs .none "NoneType" := rfl
 have hv : [Value.none].any Value.onHeap = false := rfl
 unfold pyHash
 refine wpAny_bind ?_
 rw [cRoomFor, if_neg (by rw [hv]; exact Bool.false_ne_true)]; refine wpAny_pure ?_
 refine wpAny_bind (wpAny_specialOf hT F.slot_NoneType_hash.lookup ?_)
 rw [if_neg (by rw [beq_builtin_none]; exact Bool.false_ne_true)]
 refine wpAny_bind (wpAny_specialOf hT F.slot_NoneType_hash.lookup ?_)
 rw [if_neg (by simp)]
 refine wpAny_bind (wpAny_callSpecialIfBoundUnlessNone?_slot hT F.slot_NoneType_hash (wpAny_call_entry F.slot_NoneType_hash hT F.entry_NoneType_hash (show wpAny _ _ (do ret (← mkInt 4238894112)) _ _ s from wpAny_ret_mkInt ?_) (F.args_NoneType_hash_1 _)))
 show wpAny _ _ (if (decide (-(2 : Int) ^ 63 ≤ 4238894112) && decide ((4238894112 : Int) < 2 ^ 63)) = true then _ else _) Q E _
 rw [if_pos (by decide)]
 exact wpAny_pure h
def nR (P : Program) (w : World) (h : Heap) (ks : List Key) (v : Value) : Prop := (ks = [] ∧ v = .none) ∨ (ks ≠ [] ∧ ∃ b, v = .ref b ∧ (tupleKind (zg5 P w)).is h ks b)
def nD (ks : List Key) : Nat := ks.length + 1
theorem nR.hash {ks : List Key} {v : Value} {Q : Int → Shared → Prop} (hu : A.units < cLine) (r : nR P w s.heap ks v) (h : Q (nH P w ks) { s with toks := s.toks + nD ks }) : wpAny (model P w) A (pyHash v) Q E s := by
 rcases r with ⟨rfl, rfl⟩ | ⟨n, b, rfl, hb⟩
 · exact hash_none h
 · refine (tupleKind (zg5 P w)).pyHash hu hb ?_
   rw [nH, if_neg n] at h
   exact h
theorem nR.inj {h : Heap} {x y : List Key} {v : Value} (a : nR P w h x v) (b : nR P w h y v) : x = y := by
 rcases a with ⟨rfl, rfl⟩ | ⟨n, c, rfl, hc⟩ <;> rcases b with ⟨rfl, e⟩ | ⟨n', c', e, hc'⟩
 · rfl
 · cases e
 · cases e
 · cases e; exact (tupleKind (zg5 P w)).inj hc hc'
theorem nR.eq {x y : List Key} {u v : Value} {Q : Bool → Shared → Prop} (hu : A.units < cLine) (a : nR P w s.heap x u) (b : nR P w s.heap y v) (h : Q (decide (x = y)) s) : wpAny (model P w) A (eqBool u v) Q E s := by
 rcases a with ⟨rfl, rfl⟩ | ⟨n, c, rfl, hc⟩ <;> rcases b with ⟨rfl, rfl⟩ | ⟨n', c', rfl, hc'⟩
 · unfold eqBool
   try with_reducible refine wpAny_holding ?_
   rw [if_pos (by rfl)]
   exact wpAny_bind (wpAny_rule (wpAny_pure (by simpa using h)))
 · obtain ⟨o, its, k, h1, h2, h3, _⟩ := hc'
   exact SeqAt.EqAt.none_tuple (items := its) ⟨o, h1, h2, k, h3⟩ hu P w E Q (by rw [decide_eq_false (fun z => n' z.symm)] at h; exact h)
 · obtain ⟨o, its, k, h1, h2, h3, _⟩ := hc
   exact SeqAt.EqAt.tuple_none (items := its) ⟨o, h1, h2, k, h3⟩ hu P w E Q (by rw [decide_eq_false n] at h; exact h)
 · exact (tupleKind (zg5 P w)).eqBool hu hc hc' h
theorem nR.quiet {x : List Key} {u : Value} {Q : Bool → Shared → Prop} (a : nR P w s.heap x u) (h : Q true s) : wpAny (model P w) A (eqIsQuiet 8 u) Q E s := by
 rcases a with ⟨rfl, rfl⟩ | ⟨n, c, rfl, hc⟩
 · exact wpAny_pure h
 · exact (tupleKind (zg5 P w)).quiet hc h
def Dn (P : Program) (w : World) (h : Heap) (d : Addr) (xs : List (List Key × Value × Value)) : Prop :=
 ∃ o es ep, h.get? d = some o ∧ o.ExactDict ∧ o.data = .dict es ep ∧ es.toList = xs.map (nE P w) ∧ (∀ x ∈ xs, nR P w h x.1 x.2.1) ∧ (xs.map (·.1)).Nodup
def nAt (xs : List (List Key × Value × Value)) (k : List Key) : Option (Value × Value) := (xs.find? fun x => decide (x.1 = k)).map (·.2)
def nM (xs : List (List Key × Value × Value)) (k : List Key) (i : Nat) : Bool := (xs[i]?.map fun x => decide (x.1 = k)).getD false
theorem zx5 {xs : List (List Key × Value × Value)} {k : List Key} {i : Nat} (h : nM xs k i = true) : ∃ p, xs[i]? = some (k, p) := by
 unfold nM at h
 cases e : xs[i]? with
 | none => rw [e] at h; cases h
 | some x =>
  rw [e] at h
  simp at h
  subst h
  exact ⟨x.2, rfl⟩
theorem nM_at {xs : List (List Key × Value × Value)} {k : List Key} (hn : (xs.map (·.1)).Nodup) {i : Nat} {p : Value × Value} (h : xs[i]? = some (k, p)) : nAt xs k = some p := by
 unfold nAt
 cases e : xs.find? fun x => decide (x.1 = k) with
 | none => exact absurd (List.find?_eq_none.mp e (k, p) (List.mem_of_getElem? h)) (by simp)
 | some y =>
  have y1 : y.1 = k := by simpa using List.find?_some e
  obtain ⟨j, hj⟩ := List.getElem?_of_mem (List.mem_of_find?_eq_some e)
  have l1 : (xs.map (·.1))[i]? = some k := by simp [h]
  have l2 : (xs.map (·.1))[j]? = some k := by simp [hj, y1]
  have ij : i = j := (List.getElem?_inj (by have := (List.getElem?_eq_some_iff.mp l1).1; exact this) hn).mp (l1.trans l2.symm)
  subst ij
  rw [h] at hj
  cases hj
  rfl
theorem nM_none {xs : List (List Key × Value × Value)} {k : List Key} (h : ∀ i, nM xs k i = false) : nAt xs k = none := by
 unfold nAt
 rw [List.find?_eq_none.mpr]
 · rfl
 · intro x hx
   obtain ⟨i, hi⟩ := List.getElem?_of_mem hx
   have := h i
   simp [nM, hi] at this
   simpa using this
theorem Dn.fnd {h : Heap} {xs : List (List Key × Value × Value)} {es : Array DictEntry} {k : List Key} {key : Value} (hu : A.units < cLine) (hh : s.heap = h) (hk : nR P w h k key) (he : es.toList = xs.map (nE P w)) (his : ∀ x ∈ xs, nR P w h x.1 x.2.1) (hn : (xs.map (·.1)).Nodup) : Fnd P w A E s es key (nH P w k) (nM xs k) := by
 subst hh
 have at' : ∀ i : Nat, es[i]? = (xs[i]?).map (nE P w) := fun i => by rw [← Array.getElem?_toList, he, List.getElem?_map]
 have mem : ∀ e ∈ es, ∃ x ∈ xs, e = nE P w x := fun e hin => by
  have : e ∈ xs.map (nE P w) := he ▸ Array.mem_toList_iff.mpr hin
  obtain ⟨x, hx, rfl⟩ := List.mem_map.mp this
  exact ⟨x, hx, rfl⟩
 refine ⟨?_, fun e hin e1 => ?_, fun v hv Q' hq => ?_, fun i e e1 e2 Q' hq => ?_, fun i hi => ?_, fun i j hi hj => ?_⟩
 · rcases hk with ⟨_, rfl⟩ | ⟨_, b, rfl, _⟩
   · exact .inl rfl
   · exact .inr ⟨b, rfl⟩
 · obtain ⟨x, hx, rfl⟩ := mem e hin
   have e1 : x.2.1 = key := e1
   have := his x hx
   rw [e1] at this
   show nH P w x.1 = nH P w k
   rw [this.inj hk]
 · rcases hv with rfl | ⟨e, hin, rfl⟩
   · exact hk.quiet hq
   · obtain ⟨x, hx, rfl⟩ := mem e hin
     exact (his x hx).quiet hq
 · rw [at' i] at e1
   obtain ⟨x, hx, rfl⟩ := Option.map_eq_some_iff.mp e1
   refine (his x (List.mem_of_getElem? hx)).eq hu hk ?_
   simpa [nM, hx] using hq
 · obtain ⟨p, hp⟩ := zx5 hi
   exact ⟨_, by rw [at' i, hp]; rfl, rfl⟩
 · obtain ⟨p, hp⟩ := zx5 hi
   obtain ⟨q, hq⟩ := zx5 hj
   have l1 : (xs.map (·.1))[i]? = some k := by simp [hp]
   have l2 : (xs.map (·.1))[j]? = some k := by simp [hq]
   exact (List.getElem?_inj (List.getElem?_eq_some_iff.mp l1).1 hn).mp (l1.trans l2.symm)
theorem Dn.get {d : Addr} {xs : List (List Key × Value × Value)} {k : List Key} {key : Value} {Q : Option Value → Shared → Prop} (hu : A.units < cLine) (hk : nR P w s.heap k key) (D : Dn P w s.heap d xs) (h : Q ((nAt xs k).map (·.2)) { s with toks := s.toks + nD k }) : wpAny (model P w) A (dictGet d key) Q E s := by
 obtain ⟨o, es, ep, ho, _, hd, he, his, hn⟩ := D
 unfold dictGet
 try with_reducible refine wpAny_holding ?_
 refine wpAny_bind (hk.hash hu (wpAny_bind ((Dn.fnd (s := { s with toks := s.toks + nD k }) hu rfl hk he his hn).find ho hd (fun h0 => ?_) fun i hi => ?_)))
 · rw [nM_none h0] at h
   exact wpAny_pure h
 · obtain ⟨p, hp⟩ := zx5 hi
   rw [nM_at hn hp] at h
   refine wpAny_bind (wpAny_dictEntries (s := { s with toks := s.toks + nD k }) ho hd ?_)
   rw [show es[i]? = some (nE P w (k, p)) by rw [← Array.getElem?_toList, he, List.getElem?_map, hp]; rfl]
   exact wpAny_pure h
theorem nR.keeps {h h' : Heap} {x : List Key} {v : Value} {d : Addr} {o : Obj} {es : Array DictEntry} {ep : Nat} (a : nR P w h x v) (ho : h.get? d = some o) (hd : o.data = .dict es ep) (hs : Heap.SameBut d h h') : nR P w h' x v := by
 rcases a with ⟨rfl, rfl⟩ | ⟨n, c, rfl, hc⟩
 · exact .inl ⟨rfl, rfl⟩
 · exact .inr ⟨n, c, rfl, (tupleKind (zg5 P w)).keeps hc ho hd hs⟩
theorem Dn.push {d : Addr} {o : Obj} {es : Array DictEntry} {ep : Nat} {xs : List (List Key × Value × Value)} {k : List Key} {key v : Value} (hk : nR P w s.heap k key) (ho : s.heap.get? d = some o) (hc : o.ExactDict) (hd : o.data = .dict es ep) (he : es.toList = xs.map (nE P w)) (his : ∀ x ∈ xs, nR P w s.heap x.1 x.2.1) (hn : (xs.map (·.1)).Nodup) (hno : nAt xs k = none) :
 Dn P w (s.heap.update d (Obj.mapDictKeys (·.push ⟨nH P w k, key, v⟩))) d (xs ++ [(k, key, v)]) := by
 refine ⟨_, _, ep + 1, Heap.get?_update_self _ ho (Obj.isFreed_of_dict (Obj.data_mapDictKeys hd _)), hc.mapDictKeys _, Obj.data_mapDictKeys hd _, ?_, ?_, ?_⟩
 · simp [he, nE]
 · intro x hx
   rcases List.mem_append.mp hx with hx | hx
   · exact (his x hx).keeps ho hd (Heap.SameBut.update ..)
   · rw [List.mem_singleton.mp hx]
     exact hk.keeps ho hd (Heap.SameBut.update ..)
 · rw [List.map_append, List.nodup_append]
   refine ⟨hn, by simp, fun a ha b hb hab => ?_⟩
   simp at hb
   subst hab
   obtain ⟨x, hx, e⟩ := List.mem_map.mp ha
   unfold nAt at hno
   cases f : xs.find? fun x => decide (x.1 = k) with
   | none => exact absurd (List.find?_eq_none.mp f x hx) (by simp [e, hb])
   | some y => rw [f] at hno; cases hno
theorem Dn.setdefault {d : Addr} {xs : List (List Key × Value × Value)} {k : List Key} {key dv : Value} {Q : Value → Shared → Prop} (hu : A.units < cLine) (hk : nR P w s.heap k key) (D : Dn P w s.heap d xs) (hz : xs.length < sizeLine)
 (h0 : nAt xs k = none → ∀ h', Dn P w h' d (xs ++ [(k, key, dv)]) → Heap.SameBut d s.heap h' → Q dv { s with heap := h', toks := s.toks + nD k }) (h1 : ∀ p, nAt xs k = some p → Q p.2 { s with toks := s.toks + nD k }) : wpAny (model P w) A (dictSetDefault d key dv) Q E s := by
 obtain ⟨o, es, ep, ho, hc, hd, he, his, hn⟩ := D
 have hsz : es.size = xs.length := by rw [← Array.length_toList, he, List.length_map]
 unfold dictSetDefault
 try with_reducible refine wpAny_holding ?_
 refine wpAny_bind (hk.hash hu (wpAny_bind ((Dn.fnd (s := { s with toks := s.toks + nD k }) hu rfl hk he his hn).find ho hd (fun hno => ?_) fun i hi => ?_)))
 · have hno := nM_none hno
   refine wpAny_bind (wpAny_rule (wpAny_bind (wpAny_updateDictKeys (hz := by omega) (s := { s with toks := s.toks + nD k }) ho hd (wpAny_pure (h0 hno _ (Dn.push hk ho hc hd he his hn hno) (Heap.SameBut.update ..))))))
 · obtain ⟨p, hp⟩ := zx5 hi
   refine wpAny_bind (wpAny_dictEntries (s := { s with toks := s.toks + nD k }) ho hd ?_)
   rw [show es[i]? = some (nE P w (k, p)) by rw [← Array.getElem?_toList, he, List.getElem?_map, hp]; rfl]
   exact wpAny_bind (wpAny_rule (wpAny_pure (h1 p (nM_at hn hp))))
theorem nMeets_get {d : Addr} {key : Value} (hd : (d == sysModules) = false) (r : Value) :
 MeetsIn P w (Builtin.«dict.get» ⟨[.ref d, key, r], []⟩) (fun A R s => A.in1.units < cLine ∧ ∃ k xs, nR P w s.heap k key ∧ Dn P w s.heap d xs ∧ R (.ok (.ret (((nAt xs k).map (·.2)).getD r))) { s with toks := s.toks + nD k }) :=
 .of_wp fun A R s ⟨hu, k, xs, hk, hm, h⟩ => by
  show wpAny _ _ (dictGet d key >>= _) _ _ s
  refine wpAny_bind (Dn.get hu hk hm ?_)
  cases hf : (nAt xs k).map (·.2) with
  | some v => rw [hf] at h; exact wpAny_pure ⟨v, rfl, h⟩
  | none =>
   rw [hf] at h
   show wpAny _ _ (Builtin.Dict.missed d key >>= _) _ _ _
   exact wpAny_bind (wpAny_missed_other hd (wpAny_pure ⟨r, rfl, h⟩))
theorem Dn.typeIs {d : Addr} {xs : List (List Key × Value × Value)} (D : Dn P w s.heap d xs) : s.TypeIs (.ref d) "dict" := let ⟨o, _, _, ho, hc, _⟩ := D; ⟨o, ho, hc.1⟩
theorem nMeets_def {d : Addr} {key : Value} (hd : (d == sysModules) = false) (r : Value) :
 MeetsIn P w (Builtin.«dict.setdefault» ⟨[.ref d, key, r], []⟩) (fun A R s => A.in1.units < cLine ∧ ∃ k xs, nR P w s.heap k key ∧ Dn P w s.heap d xs ∧ xs.length < sizeLine ∧
  (∀ p, nAt xs k = some p → R (.ok (.ret p.2)) { s with toks := s.toks + nD k }) ∧
  (nAt xs k = none → ∀ h', Dn P w h' d (xs ++ [(k, key, r)]) → Heap.SameBut d s.heap h' → R (.ok (.ret r)) { s with heap := h', toks := s.toks + nD k })) :=
 .of_wp fun A R s ⟨hu, k, xs, hk, hm, hz, h1, h0⟩ => by
  unfold Builtin.«dict.setdefault»
  refine wpAny_bind ?_
  unfold Builtin.Dict.keyAndDefault
  refine wpAny_bind (wpAny_notOrdered_dict hm.typeIs ?_)
  show wpAny _ _ (pure (d, key, some r)) _ _ s
  refine wpAny_pure ?_
  show wpAny _ _ (if (d == sysModules) = true then _ else (dictSetDefault d key r >>= _)) _ _ s
  rw [if_neg (by rw [hd]; exact Bool.false_ne_true)]
  exact wpAny_bind (Dn.setdefault hu hk hm hz (fun hn h' hm' hs => wpAny_pure ⟨r, rfl, h0 hn h' hm' hs⟩) fun p hp => wpAny_pure ⟨p.2, rfl, h1 p hp⟩)
end
section
abbrev KN (H : Hp) : List (List Key × V) → List (List Key × Value × Value) → Prop := Paired fun p q => p.1 = q.1 ∧ nV H p.1 q.2.1 ∧ RelV p.2 q.2.2
theorem KN.val {H : Hp} {kvs : List (List Key × V)} {xs : List (List Key × Value × Value)} (r : KN H kvs xs) (k : List Key) : RelO (valV kvs k) ((nAt xs k).map (·.2)) := by
 induction r with
 | nil => exact True.intro
 | @cons p q ps qs h t ih =>
  obtain ⟨h1, _, h2⟩ := h
  by_cases e : p.1 = k
  · have e' : q.1 = k := h1.symm.trans e
    rw [zu6 e, show nAt (q :: qs) k = some q.2 by simp [nAt, List.find?_cons, e']]
    exact h2
  · have e' : ¬ q.1 = k := fun z => e (h1.trans z)
    rw [zs2 e, show nAt (q :: qs) k = nAt qs k by simp [nAt, List.find?_cons, e']]
    exact ih
variable {P : Program} {w : World} {H : Hp} {h : Heap} {a : Addr}
theorem nR_of {ks : List Key} {v : Value} (ok : HOk P w H h) (n : nV H ks v) : nR P w h ks v := n.imp id fun ⟨n, b, e, q⟩ => ⟨n, b, e, zy7 ok q⟩
theorem dn_of {kvs : List (List Key × V)} (ok : HOk P w H h) (e : H a = some (.dN kvs)) : kvs.length ≤ sizeLine ∧ (a == sysModules) = false ∧ ∃ xs, KN H kvs xs ∧ Dn P w h a xs := by
 obtain ⟨z, y, xs, r, o, es, ep, h1, h2, h3, h4, h5⟩ := (show ObjOk P w H h a (.dN kvs) from ok a _ e)
 refine ⟨z, y, xs, r, o, es, ep, h1, h2, h3, h4, ?_, h5⟩
 clear h4 h5 e z
 induction r with
 | nil => intro x hx; cases hx
 | @cons p q ps qs hq t ih =>
  intro x hx
  rcases List.mem_cons.mp hx with rfl | hx
  · exact nR_of ok (by rw [← hq.1]; exact hq.2.1)
  · exact ih x hx
def kN (H : Hp) (y : V) (ks : List Key) : Prop := (ks = [] ∧ y = .non) ∨ (ks ≠ [] ∧ ∃ b, y = .ref b ∧ H b = some (.tup (ks.map kV)))
theorem kN.nv {y : V} {ks : List Key} {u : Value} (k : kN H y ks) (r : RelV y u) : nV H ks u := by
 rcases k with ⟨rfl, rfl⟩ | ⟨n, b, rfl, q⟩
 · exact .inl ⟨rfl, by cases r; rfl⟩
 · exact .inr ⟨n, b, r, q⟩
end
section
variable {X : Cx} {pins : List (Addr × Obj)} {σ : St} {H : Hp} {s : Shared} {a : Addr} {kvs : List (List Key × V)} {ks : List Key} {y z : V} {u dv : Value} {A : Around} {E : Value → Shared → Prop}
theorem dn_get {Q : Value → Shared → Prop} (hu : A.units + 1 < cLine) (I : Inv X pins σ H s) (e : H a = some (.dN kvs)) (k : kN H y ks) (ry : RelV y u) (rz : RelV z dv) (h : ∀ w' s', Inv X pins σ H s' → RelV ((valV kvs ks).getD z) w' → Q w' s') :
 wpAny (model X.prog X.w) A (call (.builtin "dict.get") [.ref a, u, dv]) Q E s := by
 obtain ⟨zz, hd, xs, rel, dd⟩ := dn_of I.hok e
 exact call_meetsIn PySem.F.slot_dict_get dd.typeIs PySem.F.entry_dict_get (PySem.F.args_dict_get_3 _ _ _) (nMeets_get hd dv) ⟨tupleKind_room_in1 (knd := zg5 X.prog X.w) hu, ks, xs, nR_of I.hok (k.nv ry), dd, h _ _ (I.tok _) ((rel.val ks).getD rz)⟩
theorem dn_def {Q : Value → Shared → Prop} (hu : A.units + 1 < cLine) (I : Inv X pins σ H s) (e : H a = some (.dN kvs)) (k : kN H y ks) (ry : RelV y u) (rz : RelV z dv) (hl : kvs.length < sizeLine)
 (h1 : ∀ v w' s', valV kvs ks = some v → Inv X pins σ H s' → RelV v w' → Q w' s') (h2 : valV kvs ks = none → ∀ s', Inv X pins σ (upd H a (.dN (putK kvs ks z))) s' → Q dv s') :
 wpAny (model X.prog X.w) A (call (.builtin "dict.setdefault") [.ref a, u, dv]) Q E s := by
 obtain ⟨zz, hd, xs, rel, dd⟩ := dn_of I.hok e
 have hn := k.nv ry
 refine call_meetsIn PySem.F.slot_dict_setdefault dd.typeIs PySem.F.entry_dict_setdefault (PySem.F.args_dict_setdefault_3 _ _ _) (nMeets_def hd dv)
  ⟨tupleKind_room_in1 (knd := zg5 X.prog X.w) hu, ks, xs, nR_of I.hok hn, dd, by rw [← Paired.length rel]; exact hl, fun p hp => ?_, fun hno h' dd' hs => ?_⟩
 · have r := rel.val ks
   rw [hp] at r
   cases q : valV kvs ks with
   | none => rw [q] at r; exact r.elim
   | some v => rw [q] at r; exact h1 v _ _ q (I.tok _) r
 · have r := rel.val ks
   rw [hno] at r
   cases q : valV kvs ks with
   | some v => rw [q] at r; exact r.elim
   | none =>
    have he : ∃ q, h'.get? a = some q := let ⟨q, _, _, hq, _⟩ := dd'; ⟨q, hq⟩
    obtain ⟨o', es', ep', g1, g2, g3, g4, _, g5⟩ := dd'
    refine h2 q _ (ye3 I (by rw [e]; exact True.intro) hs he ?_)
    rw [putK_new z q]
    refine ⟨by simp; omega, hd, xs ++ [(ks, u, dv)], ?_, o', es', ep', g1, g2, g3, g4, g5⟩
    have keep : ∀ b ys, H b = some (.tup ys) → upd H a (.dN (kvs ++ [(ks, z)])) b = some (.tup ys) := fun b ys hb => by rw [zc4 (ne_of hb e (by simp))]; exact hb
    have mv : ∀ {k v}, nV H k v → nV (upd H a (.dN (kvs ++ [(ks, z)]))) k v := fun n => n.imp id fun ⟨n, b, e1, e2⟩ => ⟨n, b, e1, keep _ _ e2⟩
    exact Paired.snoc (Paired.mapP rel fun p q z => ⟨z.1, mv z.2.1, z.2.2⟩) ⟨rfl, mv hn, rz⟩
end
theorem dn_empty {P : Program} {w : World} {H : Hp} (h : Heap) (hb : sysModules < h.objs.size) : ObjOk P w H (h.push { cls := .type "dict", data := .dict #[] }) h.objs.size (.dN []) :=
 ⟨Nat.zero_le _, beq_eq_false_iff_ne.mpr (Ne.symm (Nat.ne_of_lt hb)), [], .nil, _, #[], 0, Heap.get?_push_size _ rfl, ⟨rfl, rfl, rfl⟩, rfl, rfl, List.nodup_nil⟩
def tDNewN : TE := fun _ H Q => ∀ p, H p = none → Q (.ref p) (upd H p (.dN []))
def tDGetN (td ty tx : TE) : TE := fun σ H Q => td σ H fun x H1 => ∃ a, x = .ref a ∧ (∃ kvs, H1 a = some (.dN kvs)) ∧ ty σ H1 fun y H2 => tx σ H2 fun z H3 => ∃ kvs ks, H3 a = some (.dN kvs) ∧ kN H3 y ks ∧ Q ((valV kvs ks).getD z) H3
def tDDefN (td ty tx : TE) : TE := fun σ H Q => td σ H fun x H1 => ∃ a, x = .ref a ∧ (∃ kvs, H1 a = some (.dN kvs)) ∧ ty σ H1 fun y H2 => tx σ H2 fun z H3 => ∃ kvs ks, H3 a = some (.dN kvs) ∧ kN H3 y ks ∧ kvs.length < sizeLine ∧
 (∀ v, valV kvs ks = some v → Q v H3) ∧ (valV kvs ks = none → Q z (upd H3 a (.dN (putK kvs ks z))))
theorem isN_at {X : Cx} {pins : List (Addr × Obj)} {σ : St} {H : Hp} {s : Shared} {a : Addr} (I : Inv X pins σ H s) (d : ∃ kvs, H a = some (.dN kvs)) :
 s.TypeIs (.ref a) "dict" ∧ (∀ b, Value.ref a = .ref b → ∃ ob, s.heap.get? b = some ob ∧ ob.dict = none) := by
 obtain ⟨kvs, e⟩ := d
 obtain ⟨_, hd, xs, _, dd⟩ := dn_of I.hok e
 refine ⟨dd.typeIs, fun b q => ?_⟩
 cases q
 obtain ⟨ob, _, _, h1, h2, _⟩ := dd
 exact ⟨ob, h1, h2.2.1⟩
section
variable {X : Cx} {o e f : Expr} {td ty tx : TE} {apos cpos pos : Pos}
theorem pe_dnewN : PE X (.Dict [] [] pos) tDNewN := fun pins s σ H Q I h =>
 wpAny_Dict_empty ⟨.ref s.heap.objs.size, _, I.laid (a := s.heap.objs.size) (o := .dN []) (t' := s.toks) (fun _ _ q => Heap.get?_push_of_some _ q) (Nat.le_refl _) (dn_empty s.heap I.big), rfl, h _ (I.hok.fresh (Nat.le_refl _))⟩
theorem pe_dgetN (hu : X.A.units + 1 < cLine) (ho : PE X o td) (he : PE X e ty) (hf : PE X f tx) (m : M2 X o "get" apos e f cpos) : PE X (.Call (.Attribute o "get" apos) [e, f] [] cpos) (tDGetN td ty tx) := by
 intro pins s σ H Q I h
 refine wpAny_Call_method m.base m.few m.line PySem.F.plainAttrs_dict PySem.F.slot_dict_get PySem.F.type_dict_get (thn (ho pins s σ H _ I h) fun u s1 hq => ?_)
 obtain ⟨x, H1, I1, rx, a, rfl, d, q1⟩ := hq
 obtain rfl : u = Value.ref a := rx
 obtain ⟨t1, t2⟩ := isN_at I1 d
 refine ⟨t1, t2, ?_⟩
 rw [m.trees]
 refine Calls.callWith_builtin rfl (Calls.evalArgs_plain (Calls.spliced_cons (thn (he pins s1 σ H1 _ I1 q1) fun iv s2 hq => ?_)))
 obtain ⟨y, H2, I2, ry, q2⟩ := hq
 refine Calls.spliced_cons (thn (hf pins s2 σ H2 _ I2 q2) fun fv s3 hq => Calls.spliced_nil ?_)
 obtain ⟨z, H3, I3, rz, kvs, ks, ea, kn, q3⟩ := hq
 exact dn_get hu I3 ea kn ry rz fun w' s4 I4 rw' => ⟨_, H3, I4, rw', q3⟩
theorem pe_ddefN (hu : X.A.units + 1 < cLine) (ho : PE X o td) (he : PE X e ty) (hf : PE X f tx) (m : M2 X o "setdefault" apos e f cpos) : PE X (.Call (.Attribute o "setdefault" apos) [e, f] [] cpos) (tDDefN td ty tx) := by
 intro pins s σ H Q I h
 refine wpAny_Call_method m.base m.few m.line PySem.F.plainAttrs_dict PySem.F.slot_dict_setdefault PySem.F.type_dict_setdefault (thn (ho pins s σ H _ I h) fun u s1 hq => ?_)
 obtain ⟨x, H1, I1, rx, a, rfl, d, q1⟩ := hq
 obtain rfl : u = Value.ref a := rx
 obtain ⟨t1, t2⟩ := isN_at I1 d
 refine ⟨t1, t2, ?_⟩
 rw [m.trees]
 refine Calls.callWith_builtin rfl (Calls.evalArgs_plain (Calls.spliced_cons (thn (he pins s1 σ H1 _ I1 q1) fun iv s2 hq => ?_)))
 obtain ⟨y, H2, I2, ry, q2⟩ := hq
 refine Calls.spliced_cons (thn (hf pins s2 σ H2 _ I2 q2) fun fv s3 hq => Calls.spliced_nil ?_)
 obtain ⟨z, H3, I3, rz, kvs, ks, ea, kn, hl, q3, q4⟩ := hq
 exact dn_def hu I3 ea kn ry rz hl (fun v w' s4 hv I4 rw' => ⟨v, _, I4, rw', q3 v hv⟩) fun hn s4 I4 => ⟨z, _, I4, rz, q4 hn⟩
end
end L2
set_option Elab.async false
set_option linter.all false
set_option maxRecDepth 100000
namespace L2
open PySem PySem.Spec PyProof.Rows
section
variable {K : PySem.W.Frag} {cl : Str → Addr} {E : XK}
def sDN : DS → Sto → SM W := fun _ S => some (.ok (.ref S.length), S ++ [.dN []])
theorem se_dN : SE K cl E tDNewN sDN := fun ρ G σ H δ S r S' Q R e q qx => by
 cases e
 intro p hp
 obtain ⟨s2, g2⟩ := R.st.push (o := .dN []) R.rl.sub (Nw.of (o := .dN []) hp) fun ρ' hr => ⟨[], zc5, .nil⟩
 exact q _ rfl _ _ _ _ g2 s2 (.ref (by rw [← R.st.len]; simp))
def keyN : W → Option (List Key)
 | .none => some []
 | .tuple ds => (keysL ds).bind fun ks => if ks = [] then none else some ks
 | _ => none
theorem keyN_eq {ρ : List Addr} {G H : Hp} {v : V} {d : W} {ks : List Key} (sg : Same G H) (h : Dw K ρ G v d) (e : keyN d = some ks) : kN H v ks := by
 cases h with
 | non => cases e; exact .inl ⟨rfl, rfl⟩
 | tup sq da =>
  obtain ⟨ks', e1, e2⟩ := Option.bind_eq_some_iff.mp e
  split at e2
  · cases e2
  · rename_i hn
    cases e2
    exact .inr ⟨hn, _, rfl, sg _ _ (by rw [← yb5 da e1]; exact sq)⟩
 | _ => cases e
def dnAt (x : W) (S : Sto) : Option (Nat × List (List Key × W)) := match obAt x S with
 | some (n, .dN kvs) => some (n, kvs)
 | _ => none
theorem zu0 {x : W} {S : Sto} {n : Nat} {kvs : List (List Key × W)} (h : dnAt x S = some (n, kvs)) : x = .ref n ∧ S[n]? = some (.dN kvs) := by
 unfold dnAt at h
 split at h
 · rename_i n' ds' e
   cases h
   exact zk5 e
 · cases h
def yg4 (fo fk fx : DS → Sto → SM W) : DS → Sto → SM W := fun δ S => sBind (fo δ S) fun x S1 => if (dnAt x S1).isSome = true then sBind (fk δ S1) fun y S2 => sBind (fx δ S2) fun z S3 => (dnAt x S3).bind fun p => (keyN y).bind fun k => if p.2.length < sizeLine then match valW p.2 k with
 | some d => some (.ok d, S3)
 | none => some (.ok z, S3.set p.1 (.dN (putKW p.2 k z)))
 else none else none
theorem se_ddefN {to tk tx : TE} {fo fk fx : DS → Sto → SM W} (ho : SE K cl E to fo) (hk : SE K cl E tk fk) (hx : SE K cl E tx fx) : SE K cl E (tDDefN to tk tx) (yg4 fo fk fx) := fun ρ G σ H δ S r S' Q R e q qx =>
 zl3 ho R e (fun x S1 e1 v ρ1 G1 H1 g1 s1 dv => by
  split at e1
  case isFalse => cases e1
  rename_i hx1
  obtain ⟨⟨n, kvs0⟩, hx0⟩ := Option.isSome_iff_exists.mp hx1
  obtain ⟨rfl, h0⟩ := zu0 hx0
  obtain ⟨a, rfl, ea⟩ := zl9 dv
  obtain ⟨_, ws0, k0, _⟩ := s1.addr h0 ea
  have R1 := R.grow g1 s1
  refine ⟨a, rfl, ⟨ws0, k0⟩, ?_⟩
  refine zl3 hk R1 e1 (fun y S2 e2 u ρ2 G2 H2 g2 s2 du => ?_) fun c hc ρ2 G2 H2 g2 s2 => qx c hc ρ2 G2 H2 (g1.trans g2) s2
  refine zl3 hx (R1.grow g2 s2) e2 (fun z S3 e3 w ρ3 G3 H3 g3 s3 dw => ?_) fun c hc ρ3 G3 H3 g3 s3 => qx c hc ρ3 G3 H3 (g1.trans (g2.trans g3)) s3
  obtain ⟨⟨m, kvs⟩, e4, e5⟩ := Option.bind_eq_some_iff.mp e3
  obtain ⟨k, e6, e7⟩ := Option.bind_eq_some_iff.mp e5
  split at e7
  case isFalse => cases e7
  rename_i hl
  obtain ⟨em, e8⟩ := zu0 e4
  cases em
  have g13 := g1.trans (g2.trans g3)
  have ea3 := zw4 (g2.trans g3).r ea
  obtain ⟨ga, ws, k1, k2⟩ := s3.addr e8 ea3
  obtain ⟨v1, v2⟩ := k2.val (k := k)
  refine ⟨ws, k, k1, keyN_eq g13.s ((du.ext g3.r).same g3.g) e6, by rw [← k2.length]; exact hl, fun v hv => ?_, fun hv => ?_⟩
  · split at e7
    · rename_i d hd
      cases e7
      obtain ⟨v', h1, h2⟩ := v1 d hd
      rw [hv] at h1
      cases h1
      exact q d rfl v ρ3 G3 H3 g13 s3 h2
    · rename_i hd
      rw [v2 hd] at hv
      cases hv
  · split at e7
    · rename_i d hd
      obtain ⟨v', h1, h2⟩ := v1 d hd
      rw [hv] at h1
      cases h1
    · rename_i hd
      cases e7
      obtain ⟨s4, g4⟩ := s3.put (x := .dN (putK ws k w)) (o' := .dN (putKW kvs k z)) g13.s e8 ea3 (fun b zz => by cases zz) ⟨_, zc5, k2.put dw⟩
      exact q z rfl w ρ3 G3 _ (g13.trans g4) s4 dw) qx
def yc2 (fo fk fx : DS → Sto → SM W) : DS → Sto → SM W := fun δ S => sBind (fo δ S) fun x S1 => if (dnAt x S1).isSome = true then sBind (fk δ S1) fun y S2 => sBind (fx δ S2) fun z S3 => (dnAt x S3).bind fun p => (keyN y).bind fun k => some (.ok ((valW p.2 k).getD z), S3) else none
theorem se_dgetN {to tk tx : TE} {fo fk fx : DS → Sto → SM W} (ho : SE K cl E to fo) (hk : SE K cl E tk fk) (hx : SE K cl E tx fx) : SE K cl E (tDGetN to tk tx) (yc2 fo fk fx) := fun ρ G σ H δ S r S' Q R e q qx =>
 zl3 ho R e (fun x S1 e1 v ρ1 G1 H1 g1 s1 dv => by
  split at e1
  case isFalse => cases e1
  rename_i hx1
  obtain ⟨⟨n, kvs0⟩, hx0⟩ := Option.isSome_iff_exists.mp hx1
  obtain ⟨rfl, h0⟩ := zu0 hx0
  obtain ⟨a, rfl, ea⟩ := zl9 dv
  obtain ⟨_, ws0, k0, _⟩ := s1.addr h0 ea
  have R1 := R.grow g1 s1
  refine ⟨a, rfl, ⟨ws0, k0⟩, ?_⟩
  refine zl3 hk R1 e1 (fun y S2 e2 u ρ2 G2 H2 g2 s2 du => ?_) fun c hc ρ2 G2 H2 g2 s2 => qx c hc ρ2 G2 H2 (g1.trans g2) s2
  refine zl3 hx (R1.grow g2 s2) e2 (fun z S3 e3 w ρ3 G3 H3 g3 s3 dw => ?_) fun c hc ρ3 G3 H3 g3 s3 => qx c hc ρ3 G3 H3 (g1.trans (g2.trans g3)) s3
  obtain ⟨⟨m, kvs⟩, e4, e5⟩ := Option.bind_eq_some_iff.mp e3
  obtain ⟨k, e6, e7⟩ := Option.bind_eq_some_iff.mp e5
  cases e7
  obtain ⟨em, e8⟩ := zu0 e4
  cases em
  have g13 := g1.trans (g2.trans g3)
  have ea3 := zw4 (g2.trans g3).r ea
  obtain ⟨ga, ws, k1, k2⟩ := s3.addr e8 ea3
  obtain ⟨v1, v2⟩ := k2.val (k := k)
  refine ⟨ws, k, k1, keyN_eq g13.s ((du.ext g3.r).same g3.g) e6, ?_⟩
  cases hv : valW kvs k with
  | some d =>
   obtain ⟨v', h1, h2⟩ := v1 d hv
   rw [h1]
   exact q d (by rw [hv]; rfl) v' ρ3 G3 H3 g13 s3 h2
  | none =>
   rw [v2 hv]
   exact q z (by rw [hv]; rfl) w ρ3 G3 H3 g13 s3 dw) qx
def tTruK (K : PySem.W.Frag) (t : TE) : TT := fun σ H Q => t σ H fun x H' => ∃ k, TruV K x H' k ∧ Q k H'
theorem pt_truK {X : Cx} {a : Expr} {ta : TE} (hK : X.K = K) (ha : PE X a ta) (he : ∀ whole, isTrue a X.env whole = (do let v ← whole; standAt a.pos; holding [v] (truthy v)) := by intro _; rfl) : PT X a (tTruK K ta) := hK ▸ pt_truth ha he
def sTruL (f : DS → Sto → SM W) : DS → Sto → SM Bool := fun δ S => sBind (f δ S) fun x S1 => sOk ((lstAt x S1).map fun p => !p.2.isEmpty) S1
theorem st_truL {t : TE} {f : DS → Sto → SM W} (h : SE K cl E t f) : ST K cl E (tTruK K t) (sTruL f) := fun ρ G σ H δ S r S' Q R e q qx =>
 zl3 h R e (fun x S1 e1 v ρ1 G1 H1 g1 s1 dv => by
  obtain ⟨b, e2, rfl, rfl⟩ := zk0 e1
  obtain ⟨⟨n, ds⟩, e3, rfl⟩ := Option.map_eq_some_iff.mp e2
  obtain ⟨rfl, e4⟩ := zm1 e3
  obtain ⟨a, rfl, ea⟩ := zl9 dv
  obtain ⟨ga, vs, k1, k2⟩ := s1.addr e4 ea
  have hl : vs.isEmpty = ds.isEmpty := by
   have := k2.length
   cases vs <;> cases ds <;> simp_all
  exact ⟨!ds.isEmpty, .inl ⟨vs, SqL.of k1, by rw [hl]⟩, q _ rfl ρ1 G1 H1 g1 s1⟩) qx
def rIsiD (K : PySem.W.Frag) : List V → Hp → VK → Prop := fun xs H Q => ∃ (a : Addr) (T : String) (k : Bool), xs = [.ref a, .ty T] ∧ ((∃ kvs, H a = some (.dK kvs)) ∨ ∃ kvs, H a = some (.dT kvs)) ∧ PySem.W.kitOne K (.type "dict") (.type T) = some k ∧ Q (.bl k) H
theorem call_isiD {X : Cx} (hK : X.K = K) : CallR X (.builtin "isinstance") (rIsiD K) := by
 subst hK
 intro pins s σ H xs us Q I r h
 obtain ⟨a, T, k, rfl, ha, hk, q⟩ := h
 cases r with
 | cons r rr =>
  cases rr with
  | cons r' rr =>
   cases rr
   cases r
   cases r'
   have z : ∃ o, s.heap.get? a = some o ∧ o.cls = .type "dict" := by
    rcases ha with ⟨kvs, ha⟩ | ⟨kvs, ha⟩
    · obtain ⟨_, _, _, _, o, _, _, e, ex, _⟩ := I.hok a _ ha
      exact ⟨o, e, ex.1⟩
    · obtain ⟨_, _, _, _, o, _, _, e, ex, _⟩ := I.hok a _ ha
      exact ⟨o, e, ex.1⟩
   obtain ⟨o, e, c⟩ := z
   exact PySem.W.kia_one (PySem.W.kitx_dict) I.kIn ⟨o, e, c⟩ hk (by intro z; cases z) fun tk => ⟨.bl k, H, I.tok tk, rfl, q⟩
def isD (x : W) (S : Sto) : Option Bool := match obAt x S with
 | some (_, .dK _) => some true
 | some (_, .dT _) => some true
 | _ => none
def sIsiD (fa : DS → Sto → SM W) : DS → Sto → SM W := fun δ S => sBind (fa δ S) fun x S1 => sOk ((isD x S1).map .bool) S1
theorem se_isiD {ta : TE} {fa : DS → Sto → SM W} (ha : SE K cl E ta fa) : SE K cl E (tCB (rIsiD K) (tCons ta (tCons (tC (.ty "dict")) tNil))) (sIsiD fa) := fun ρ G σ H δ S r' S' Q R e q qx =>
 zl3 ha R e (fun x S2 e2 v ρ2 G2 H2 g2 s2 dv => by
  obtain ⟨c, e3, rfl, rfl⟩ := zk0 e2
  obtain ⟨b, e4, rfl⟩ := Option.map_eq_some_iff.mp e3
  show rIsiD K [v, .ty "dict"] H2 Q
  unfold isD at e4
  split at e4
  · rename_i n kvs e5
    cases e4
    obtain ⟨rfl, e7⟩ := zk5 e5
    obtain ⟨a, rfl, ea⟩ := zl9 dv
    obtain ⟨ga, vs, k1, k2⟩ := s2.addr e7 ea
    exact ⟨a, "dict", true, rfl, .inl ⟨vs, k1⟩, zv9 _ (by decide), q _ rfl _ ρ2 G2 H2 g2 s2 (.bl _)⟩
  · rename_i n kvs e5
    cases e4
    obtain ⟨rfl, e7⟩ := zk5 e5
    obtain ⟨a, rfl, ea⟩ := zl9 dv
    obtain ⟨ga, vs, k1, k2⟩ := s2.addr e7 ea
    exact ⟨a, "dict", true, rfl, .inr ⟨vs, k1⟩, zv9 _ (by decide), q _ rfl _ ρ2 G2 H2 g2 s2 (.bl _)⟩
  · cases e4) qx
def sDInV (fk fo : DS → Sto → SM W) : DS → Sto → SM W := fun δ S => sBind (fk δ S) fun y S1 => sBind (fo δ S1) fun x S2 => sOk ((getK x y S2).map fun o => .bool o.isSome) S2
theorem se_dinV {to tk : TE} {fo fk : DS → Sto → SM W} (hk : SE K cl E tk fk) (ho : SE K cl E to fo) : SE K cl E (tDIn tk to) (sDInV fk fo) := fun ρ G σ H δ S r S' Q R e q qx =>
 zz2 hk ho R e (fun y x S2 e2 u v ρ2 G2 H2 g2 s2 du dv => by
  obtain ⟨b, e3, rfl, rfl⟩ := zk0 e2
  obtain ⟨o, e4, rfl⟩ := Option.map_eq_some_iff.mp e3
  obtain ⟨a, r, rfl, h1, h2⟩ := yd9 g2.s s2 dv du e4
  have hb : r.isSome = o.isSome := by
   cases o with
   | some d => obtain ⟨z, rfl, _⟩ := h2; rfl
   | none => rw [show r = none from h2]; rfl
  refine ⟨a, r, rfl, h1, ?_⟩
  rw [hb]
  exact q _ rfl _ ρ2 G2 H2 g2 s2 (.bl _)) qx
end
section
variable {P : Program} {w : World} {A : Around} {E : Value → Shared → Prop} {s : Shared} {d : Addr} {o : Obj} {es : Array DictEntry} {ep : Nat}
theorem anyLen (hd : (d == sysModules) = false) (n : Nat) : MeetsIn P w (Builtin.«dict.__len__» ⟨[.ref d], []⟩) (fun _ R s => (∃ o es ep, s.heap.get? d = some o ∧ o.data = .dict es ep ∧ es.size = n) ∧ R (.ok (.ret (.int (n : Nat) s.toks))) { s with toks := s.toks + 1 }) :=
 .of_wp fun A R s ⟨⟨o, es, ep, ho, hdat, hn⟩, h⟩ => by
  show wpAny _ _ (dictSize d >>= _) _ _ s
  unfold dictSize
  refine wpAny_bind (wpAny_bind (wpAny_dictEntries ho hdat (wpAny_pure ?_)))
  show wpAny _ _ (Builtin.Dict.pendingCount d >>= _) _ _ s
  refine wpAny_bind (wpAny_pendingCount_other hd (wpAny_ret_mkInt ?_))
  rw [Nat.add_zero, hn]
  exact h
theorem callLenD {Q : Value → Shared → Prop} {n : Nat} (hd : (d == sysModules) = false) (hT : s.TypeIs (.ref d) "dict") (ho : ∃ o es ep, s.heap.get? d = some o ∧ o.data = .dict es ep ∧ es.size = n) (hfit : (n : Int) < 2 ^ 63)
 (h : Q (.int (n : Nat) (s.toks + 1)) { s with toks := s.toks + 1 + 1 }) : wpAny (model P w) A (call (.builtin "len") [.ref d]) Q E s := by
 refine Calls.call_function_entry kind_len plain_len entry_len (args_len1 _) ?_
 unfold Builtin.«len»
 refine wpAny_bind (m := oneArg "len" _) (wpAny_pure ?_)
 refine wpAny_bind (m := callSpecial? (.ref d) (Str.ofString "__len__")) (wpAny_callSpecial?_slot (name := Str.ofString "__len__") hT F.slot_dict_len (call_meetsIn F.slot_dict_len hT F.entry_dict_len (F.args_dict_len_1 _) (anyLen hd n) ⟨ho, ?_⟩))
 show wpAny _ _ _ _ _ { s with toks := s.toks + 1 }
 refine wpAny_bind (wpAny_holding (wpAny_pure ?_))
 refine wpAny_bind (wpAny_letGo ?_)
 show wpAny _ _ (if ((n : Nat) : Int) < 0 then _ else _) _ _ _
 rw [if_neg (by omega)]
 show wpAny _ _ (if ((n : Nat) : Int) ≥ 2 ^ 63 then _ else _) _ _ _
 rw [if_neg (by omega)]
 exact wpAny_bind (wpAny_mkInt (wpAny_pure ⟨_, rfl, h⟩))
end
section
variable {K : PySem.W.Frag} {cl : Str → Addr} {E : XK}
def rLenT : List V → Hp → VK → Prop := fun xs H Q => ∃ a kvs, xs = [V.ref a] ∧ H a = some (.dT kvs) ∧ Q (.int kvs.length) H
theorem call_lenDT {X : Cx} : CallR X (.builtin "len") rLenT := by
 intro pins s σ H xs us Q I r h
 obtain ⟨a, kvs, rfl, ha, q⟩ := h
 obtain ⟨u, rfl, ru⟩ := vals1 r
 cases ru
 obtain ⟨z, hd, xs, rel, dd⟩ := dt_of I.hok ha
 have hT := dd.typeIs
 have hl : kvs.length = xs.length := Paired.length rel
 obtain ⟨o, es, ep, h1, h2, h3, h4, _⟩ := dd
 refine callLenD (n := kvs.length) hd hT ⟨o, es, ep, h1, h3, by rw [hl, ← Array.length_toList, h4, List.length_map]⟩ (by rw [sizeLine_eq] at z; omega) ⟨.int kvs.length, H, I.tok _, ⟨_, rfl⟩, q⟩
def dtAt (x : W) (S : Sto) : Option (Nat × List (List Key × W)) := match obAt x S with
 | some (n, .dT kvs) => some (n, kvs)
 | _ => none
theorem dtAt_some {x : W} {S : Sto} {n : Nat} {kvs : List (List Key × W)} (h : dtAt x S = some (n, kvs)) : x = .ref n ∧ S[n]? = some (.dT kvs) := by
 unfold dtAt at h
 split at h
 · rename_i n' ds' e
   cases h
   exact zk5 e
 · cases h
def sTLen (fa : DS → Sto → SM W) : DS → Sto → SM W := fun δ S => sBind (fa δ S) fun x S1 => sOk ((dtAt x S1).map fun p => .int p.2.length) S1
theorem se_tlen {ta : TE} {fa : DS → Sto → SM W} (ha : SE K cl E ta fa) : SE K cl E (tCB rLenT (tCons ta tNil)) (sTLen fa) := fun ρ G σ H δ S r' S' Q R e q qx =>
 zl3 ha R e (fun x S2 e2 v ρ2 G2 H2 g2 s2 dv => by
  obtain ⟨c, e3, rfl, rfl⟩ := zk0 e2
  obtain ⟨⟨n, kvs⟩, e4, rfl⟩ := Option.map_eq_some_iff.mp e3
  obtain ⟨rfl, e5⟩ := dtAt_some e4
  obtain ⟨a, rfl, ea⟩ := zl9 dv
  obtain ⟨ga, ws, k1, k2⟩ := s2.addr e5 ea
  refine ⟨a, ws, rfl, k1, ?_⟩
  rw [← k2.length]
  exact q _ rfl _ ρ2 G2 H2 g2 s2 (.int _)) qx
def sInV (fa fb : DS → Sto → SM W) : DS → Sto → SM W := fun δ S => sBind (fa δ S) fun x S1 => sBind (fb δ S1) fun y S2 => sOk ((cInS x y S2).map .bool) S2
theorem se_inV {ta tb : TE} {fa fb : DS → Sto → SM W} (ha : SE K cl E ta fa) (hb : SE K cl E tb fb) : SE K cl E (tOp (rIn K false) ta tb) (sInV fa fb) := fun ρ G σ H δ S r' S' Q R e q qx =>
 zz2 ha hb R e (fun x y S2 e2 v u ρ2 G2 H2 g2 s2 dv du => by
  obtain ⟨b, e3, rfl, rfl⟩ := zk0 e2
  obtain ⟨b', e4, rfl⟩ := Option.map_eq_some_iff.mp e3
  obtain ⟨ds, e5, e4⟩ := Option.bind_eq_some_iff.mp e4
  obtain ⟨v', e6, e4⟩ := Option.bind_eq_some_iff.mp e4
  obtain ⟨vs, e7, rfl⟩ := Option.map_eq_some_iff.mp e4
  obtain ⟨p, xs, rfl, h2, da⟩ := seqS_read g2.s s2 du e5
  obtain ⟨rfl, f1⟩ := yb7 dv e6
  obtain ⟨rfl, f2⟩ := zu9 da e7
  exact ⟨p, xs, rfl, h2, f1, f2, q _ rfl _ ρ2 G2 H2 g2 s2 (.bl _)⟩) qx
end
end L2
set_option Elab.async false
set_option linter.all false
set_option maxRecDepth 100000
namespace L2
open PySem PySem.Spec PyProof.Rows
section
open Classical in
noncomputable def eRd (h : Heap) (dx : PyData) (u : Value) : Bool := decide (∃ d as, Reads h u d as ∧ d.canLay0 = true ∧ PyData.eqv d dx = true)
theorem eRd_of {h : Heap} {dx d : PyData} {u : Value} {as : List Addr} (r : Reads h u d as) (c : d.canLay0 = true) : eRd h dx u = PyData.eqv d dx := by
 unfold eRd
 cases e : PyData.eqv d dx with
 | true => exact @decide_eq_true _ (Classical.propDecidable _) ⟨d, as, r, c, e⟩
 | false =>
  refine @decide_eq_false _ (Classical.propDecidable _) ?_
  rintro ⟨d', as', r', c', e'⟩
  rw [SeqAt.Reads.unique d' d u as' as c' r' r] at e'
  rw [e] at e'
  cases e'
def rInD (K : PySem.W.Frag) : R2 := fun x y H Q => ∃ p xs dx ds, y = .ref p ∧ SqL K H p xs ∧ Dp K H x dx ∧ DpAll K H xs ds ∧ dx.canLay0 = true ∧ PyData.canLayAll0 ds = true ∧ dx.depth ≤ 60 ∧ Q (.bl (ds.any fun d => PyData.eqv d dx)) H
variable {X : Cx} {K : PySem.W.Frag}
theorem items_rd {pins : List (Addr × Obj)} {σ : St} {H : Hp} {s : Shared} {dx : PyData} (I : Inv X pins σ H s) : ∀ {xs : List V} {its : List Value} {ds : List PyData}, Vals xs its → DpAll X.K H xs ds → PyData.canLayAll0 ds = true → (∀ u ∈ its, ∃ d as, Reads s.heap u d as ∧ d.canLay0 = true) ∧ its.any (eRd s.heap dx) = ds.any fun d => PyData.eqv d dx
 | _, _, _, .nil, .nil, _ => ⟨(fun u hu => absurd hu List.not_mem_nil), rfl⟩
 | _, _, _, .cons r t, .cons a b, c => by
  simp only [PyData.canLayAll0, Bool.and_eq_true] at c
  obtain ⟨as, rd⟩ := Dp.reads I a r
  obtain ⟨h1, h2⟩ := items_rd (dx := dx) I t b c.2
  refine ⟨fun u hu => ?_, by rw [List.any_cons, List.any_cons, eRd_of rd c.1, h2]⟩
  rcases List.mem_cons.mp hu with rfl | hu
  · exact ⟨_, as, rd, c.1⟩
  · exact h1 u hu
theorem op_in_data (hu : X.A.units + 64 < cLine) : OpR X (compareOp .In) (rInD X.K) := by
 intro pins s σ H x y v u Q I rx ry h
 obtain ⟨p, xs, dx, ds, rfl, hq, hx, hs, cx, cs, hd, q⟩ := h
 cases ry
 obtain ⟨its, r, pl, hz⟩ := I.list hq
 obtain ⟨ax, rdx⟩ := Dp.reads I hx rx
 obtain ⟨h1, h2⟩ := items_rd (dx := dx) I r hs cs
 refine SeqAt.in_listAt (eRd s.heap dx) pl.isList (fun w hw => ?_) ⟨.bl _, H, I, rfl, ?_⟩
 · obtain ⟨d, as, rd, c⟩ := h1 w (by simpa using hw)
   rw [eRd_of rd c]
   exact SeqAt.eqAt_reads d dx _ s w v as ax rd rdx c cx (by show X.A.units + 1 + _ < _; omega)
 · rw [show its.toArray.any (eRd s.heap dx) = its.any (eRd s.heap dx) by simp, h2]
   exact q
def rInA (K : PySem.W.Frag) : R2 := fun x y H Q => rIn K false x y H Q ∨ rInD K x y H Q
theorem op_inA (h : X.K = K) (hu : X.A.units + 64 < cLine) : OpR X (compareOp .In) (rInA K) := h ▸ op_in_seq.or (op_in_data hu)
def cInA (d e : W) : Option Bool := match cIn d e with
 | some b => some b
 | none => (listD e).bind fun ds => d.py.bind fun x => (W.pys ds).bind fun ys => if (x.canLay0 && PyData.canLayAll0 ys && decide (x.depth ≤ 60)) = true then some (ys.any fun y => PyData.eqv y x) else none
theorem db_inA {ρ : List Addr} : DB K ρ (rInA K) cInA := fun H x y d e b Q hx hy hg q => by
 unfold cInA at hg
 split at hg
 · rename_i b' hb
   cases hg
   exact .inl (db_in H x y d e b Q hx hy hb q)
 · obtain ⟨ds, e1, hg⟩ := Option.bind_eq_some_iff.mp hg
   obtain ⟨dx, e2, hg⟩ := Option.bind_eq_some_iff.mp hg
   obtain ⟨ys, e3, hg⟩ := Option.bind_eq_some_iff.mp hg
   split at hg
   case isFalse => cases hg
   rename_i hc
   cases hg
   simp only [Bool.and_eq_true, decide_eq_true_eq] at hc
   cases zw3 e1
   obtain ⟨p, vs, rfl, sq, da⟩ := yh8 hy
   exact .inr ⟨p, vs, dx, ys, rfl, sq, hx.dp e2, da.dp e3, hc.1.1, hc.1.2, hc.2, q⟩
end
end L2
set_option Elab.async false
set_option linter.all false
set_option maxRecDepth 100000
namespace L2
open PySem PySem.Spec PyProof.Rows
section
variable {K : PySem.W.Frag} {ρ : List Addr}
def strD : W → Option Str
 | .str z => some z
 | _ => none
theorem strD_eq {d : W} {z : Str} (h : strD d = some z) : d = .str z := by
 cases d <;> first | (cases h; rfl) | cases h
def dSlS (f : DS → Option W) (lo hi : DS → Option (Option Int)) : DS → Option W := fun δ => (f δ).bind fun d => (strD d).bind fun z => (lo δ).bind fun l => (hi δ).bind fun u => if z.length ≤ 1000 then some (.str (Txt.slice z l u)) else none
theorem yi9 {t : TE} {tl th : TO} {f : DS → Option W} {lo hi : DS → Option (Option Int)} (h : DE K ρ t f) (hl : DOp K ρ tl lo) (hh : DOp K ρ th hi) : DE K ρ (tSl (fun x lo hi H Q => ∃ z, x = .str z ∧ z.length ≤ sizeLine ∧ Q (.str (Txt.slice z lo hi)) H) t tl th) (dSlS f lo hi) := fun G σ H δ d Q R e q => by
 obtain ⟨x, ed, e⟩ := Option.bind_eq_some_iff.mp e
 obtain ⟨z, ee, e⟩ := Option.bind_eq_some_iff.mp e
 obtain ⟨l, el, e⟩ := Option.bind_eq_some_iff.mp e
 obtain ⟨u, eu, e4⟩ := Option.bind_eq_some_iff.mp e
 cases strD_eq ee
 by_cases hz : z.length ≤ 1000
 · rw [if_pos hz] at e4
   cases e4
   refine h G σ H δ _ _ R ed fun v G1 H1 g1 dv => hl G1 σ H1 δ l _ (R.grow g1) el fun G2 H2 g2 => hh G2 σ H2 δ u _ ((R.grow g1).grow g2) eu fun G3 H3 g3 => ?_
   cases yi4 dv
   exact ⟨z, rfl, Nat.le_trans hz (by decide), q _ G3 H3 (g1.trans (g2.trans g3)) (.str _)⟩
 · rw [if_neg hz] at e4
   cases e4
def gMulS : W → W → Option W
 | .str z, .int n => if (decide (0 ≤ n) && decide (n ≤ 1000) && decide (z.length ≤ 1000)) = true then some (.str (Txt.mul z n)) else none
 | _, _ => none
theorem dr_mulS : DR K ρ rMulS gMulS := fun G H x y d e c Q s hx hy hg q => by
 unfold gMulS at hg
 split at hg
 · rename_i z n
   split at hg
   · rename_i hc
     cases hg
     simp only [Bool.and_eq_true, decide_eq_true_eq] at hc
     cases yg6 hx
     cases zp6 hy
     exact ⟨z, n, rfl, rfl, hc.1.1, hc.1.2, hc.2, q _ G H (.refl s) (.str _)⟩
   · cases hg
 · cases hg
theorem fold_mem (x : Array Nat) : ∀ (n : Nat) (a : Array Nat) (c : Nat), c ∈ ((List.replicate n x).foldl (· ++ ·) a).toList → c ∈ a.toList ∨ c ∈ x.toList
 | 0, a, c, h => .inl h
 | n + 1, a, c, h => by
  rw [List.replicate_succ, List.foldl_cons] at h
  rcases fold_mem x n (a ++ x) c h with h | h
  · rw [Array.toList_append, List.mem_append] at h
    exact h
  · exact .inr h
theorem Asc.mul {z : Str} (h : Asc z) (n : Int) : Asc (Txt.mul z n) := by
 rw [zx7] at *
 intro c hc
 unfold Txt.mul at hc
 split at hc
 · exact absurd hc (by simp [Str.empty])
 · split at hc
   · exact h c hc
   · rcases fold_mem z.cps n.toNat #[] c hc with h' | h'
     · exact absurd h' (by simp)
     · exact h c h'
end
end L2
set_option Elab.async false
set_option linter.all false
set_option maxRecDepth 100000
namespace My
open PySem PySem.Spec PyProof.Rows L2
def top (i : Nat) : Stmt := PySem.Challenge.pw_widelanes_k11_marks_of_sets.main.body.getD i (.Pass ⟨0, 0, 0, 0⟩)
abbrev zi0 : Stmt := top 1
abbrev zn2 : Stmt := top 2
abbrev zl0 : Stmt := top 3
abbrev zi8 : Stmt := top 6
abbrev zg7 : Stmt := inClass (top 8) 0
abbrev zm3 : Stmt := inClass (top 8) 1
abbrev zo9 : Stmt := top 11
abbrev zi1 : Stmt := top 12
abbrev zl1 : Stmt := top 13
abbrev zg1 : Stmt := top 14
abbrev zj6 : Stmt := top 15
abbrev zk9 : Stmt := top 10
abbrev zr1 : Stmt := top 9
abbrev zg0 : Stmt := top 18
abbrev zk2 : Stmt := top 24
abbrev zf9 : Stmt := top 25
abbrev ze8 : Stmt := top 28
abbrev zh7 : Stmt := top 20
abbrev zi6 : Stmt := top 21
abbrev zh3 : Stmt := top 22
abbrev zh0 : Stmt := top 26
abbrev zf7 : Stmt := top 19
abbrev ze5 : Stmt := top 23
abbrev zh8 : Stmt := top 17
abbrev zd8 : Stmt := top 27
abbrev s_law : Stmt := top 29
def clF (c_Links : Addr) : Str → Addr := fun s => if s = "Links" then c_Links else 0
theorem zr0 (c_Links : Addr) : clF c_Links "Links" = c_Links := by
 unfold clF
 rw [if_pos rfl]
def zo3 : List W → Option W := bodyD 1 1
 (dsSeq (dsIf (dCmp cEq (dOp gIx (dPk 0) (dC (.int (0)))) (dC (.str "while")))
  (dsRet (dOwn (dLst (dCons (dOp gIx (dPk 0) (dC (.int (3)))) dNil))))
  dsNext)
 (dsSeq (dsIf (dCmp cEq (dOp gIx (dPk 0) (dC (.int (0)))) (dC (.str "if")))
  (dsRet (dOwn (dComp [none] (dSeqOf (dSlT (dVar 0) (dPart (dC (.int (3)))) dNoPart)) (dgName 0) (dCmp cNotN (dPk 0) (dC .none)) (dVar 0))))
  dsNext)
 (dsRet (dOwn (dLst dNil)))))
def b_placed_1 (pf : List W → Option W) : DS → Option Out := (zt9 3 (dCall pf (dCons (dVar 5) (dCons (dOp gAdd (dPk 2) (dTup (dCons (dVar 4) dNil))) dNil))))
def zr5 (pf : List W → Option W) : DS → Option Out := (dsSeq (dsAppend 3 (dTup (dCons (dVar 4) (dCons (dVar 2) dNil))))
 (dsFor (dSeqOf (dCall zo3 (dCons (dVar 4) dNil))) (dgName 5) (b_placed_1 pf)))
def zo7 : Nat → List W → Option W
 | 0, _ => none
 | n + 1, ds => bodyD 2 6
  (dsSeq (dsAsg (dIf (dCmp cIsN (dPk 1) (dC .none)) (dTup dNil) (dVar 1)) (dgName 2))
  (dsSeq (dsOwn 3 (dLst dNil))
  (dsSeq (dsFor (dSeqOf (dVar 0)) (dgName 4) (zr5 (zo7 n)))
  (dsFrz 3 (dsRet (dVar 3)))))) ds
def zp9 : List W → Option W := bodyD 1 1
 (dsRet (dIf (dCmp cIn (dOp gIx (dPk 0) (dC (.int (0)))) (dTup (dCons (dC (.str "set")) (dCons (dC (.str "call")) (dCons (dC (.str "join")) dNil))))) (dOp gIx (dPk 0) (dC (.int (2)))) (dC .none)))
def zj7 (pf : List W → Option W) : DS → Option Out := (zt9 1 (dCall pf (dCons (dVar 2) dNil)))
def ze4 : Nat → List W → Option W
 | 0, _ => none
 | n + 1, ds => bodyD 1 3
  (dsSeq (dsIf (dAnd (dCmp cNe (dOp gIx (dPk 0) (dC (.int (0)))) (dC (.str "box"))) (dCmp zv2 (dOp gIx (dPk 0) (dC (.int (0)))) (dC (.tuple [.str "+", .str "-", .str "*", .str "div", .str "rem", .str "<", .str "="]))))
   (dsRet (dOwn (dLst (dCons (dVar 0) dNil))))
   dsNext)
  (dsSeq (dsOwn 1 (dLst dNil))
  (dsSeq (dsFor (dSeqOf (dSlT (dVar 0) (dPart (dC (.int (1)))) dNoPart)) (dgName 2) (zj7 (ze4 n)))
  (dsFrz 1 (dsRet (dVar 1)))))) ds
def zk7 : List W → Sto → SM W := bodyS 1 1
 (ssFld "Links" "behind" (sPure (dVar 0)) sDN)
def zq2 : DS → Sto → SO := (zo5 (yg4 (sFldR "Links" "behind" (sPure (dVar 0))) (sPure (dVar 4)) (sLstS (sPure dNil))) (sPure (dTup (dCons (dVar 2) (dCons (dVar 3) dNil)))))
def zd5 : List W → Sto → SM W := bodyS 4 5
 (ssFor (sPure (dSeqOf (dVar 1))) (dgName 4) zq2)
def zt4 : List W → Option W := bodyD 2 2
 (dsRet (dOp gAdd (dOwn (dLst (dCons (dTup (dCons (dC (.str "def")) (dCons (dVar 0) dNil))) dNil))) (dOwn (dComp [none] (dSeqOf (dPk 1)) (dgName 0) dYes (dTup (dCons (dC (.str "row")) (dCons (dOp gIx (dPk 0) (dC (.int (1)))) dNil)))))))
def zi2 : List W → Option W := bodyD 2 4
 (dsSeq (dsAsg (dCall (ze4 9) (dCons (dVar 1) dNil)) (dgName 2))
 (dsSeq (dsAsg (dOwn (dComp [some 0, none] (dSeqOf (dPk 2)) (dgName 1) (dCmp cEq (dOp gIx (dPk 1) (dC (.int (0)))) (dC (.str "name"))) (dTup (dCons (dC (.str "name")) (dCons (dVar 0) (dCons (dOp gIx (dPk 1) (dC (.int (1)))) dNil)))))) (dgName 3))
 (dsRet (dIf (dOr (dCmp cInA (dTup (dCons (dC (.str "lane")) dNil)) (dPk 2)) (dCmp cInA (dTup (dCons (dC (.str "mine")) dNil)) (dPk 2))) (dOwn (dLst (dCons (dC .none) dNil))) (dVar 3)))))
def zr4 : List W → Sto → SM W := bodyS 4 8
 (ssSeq (ssPure (dsAsg (dCall zt4 (dCons (dVar 1) (dCons (dVar 3) dNil))) (dgName 4)))
 (ssSeq (ssPure (dsAsg (dOp gIx (dPk 2) (dC (.int (1)))) (dgName 5)))
 (ssSeq (ssPure (dsAsg (dCall zp9 (dCons (dVar 2) dNil)) (dgName 6)))
 (ssSeq (ssIf (sPure (dCmp cNotN (dPk 6) (dC .none)))
  (ssExpr (sMeth "Links" "add" zd5 (sPure (dVar 0)) (sPure (dCons (dVar 4) (dCons (dTup (dCons (dC (.str "name")) (dCons (dVar 1) (dCons (dVar 6) dNil)))) (dCons (dVar 5) dNil))))))
  (ssPure dsNext))
 (ssSeq (ssIf (sPure (dCmp cIn (dOp gIx (dPk 2) (dC (.int (0)))) (dTup (dCons (dC (.str "break")) (dCons (dC (.str "again")) dNil)))))
  (ssSeq (ssPure (dsAsg (dOwn (dComp [none] (dSeqOf (dPk 3)) (dgName 0) (dCmp cEq (dOp gIx (dPk 0) (dC (.int (0)))) (dC (.str "while"))) (dOp gIx (dPk 0) (dC (.int (1)))))) (dgName 7)))
 (ssExpr (sMeth "Links" "add" zd5 (sPure (dVar 0)) (sPure (dCons (dVar 4) (dCons (dTup (dCons (dC (.str "row")) (dCons (dOp gIx (dPk 7) (dUn gNeg (dC (.int (1))))) dNil))) (dCons (dVar 5) dNil)))))))
  (ssPure dsNext))
 (ssSeq (ssIf (sPure (dCmp cEq (dOp gIx (dPk 2) (dC (.int (0)))) (dC (.str "return"))))
  (ssExpr (sMeth "Links" "add" zd5 (sPure (dVar 0)) (sPure (dCons (dVar 4) (dCons (dTup (dCons (dC (.str "def")) (dCons (dVar 1) dNil))) (dCons (dVar 5) dNil))))))
  (ssPure dsNext))
 (ssIf (sPure (dCmp cEq (dOp gIx (dPk 2) (dC (.int (0)))) (dC (.str "call"))))
  (ssExpr (sMeth "Links" "add" zd5 (sPure (dVar 0)) (sPure (dCons (dVar 4) (dCons (dTup (dCons (dC (.str "def")) (dCons (dOp gIx (dPk 2) (dC (.int (3)))) dNil))) (dCons (dVar 5) dNil))))))
  (ssPure dsNext))))))))
def zm5 : List W → Sto → SM W := bodyS 3 5
 (ssSeq (ssPure (dsAsg (dOp gIx (dPk 2) (dC (.int (0)))) (dgName 3)))
 (ssSeq (ssPure (dsAsg (dOp gIx (dPk 2) (dC (.int (1)))) (dgName 4)))
 (ssSeq (ssIf (sPure (dCmp cIn (dPk 3) (dTup (dCons (dC (.str "if")) (dCons (dC (.str "while")) dNil)))))
  (ssExpr (sMeth "Links" "add" zd5 (sPure (dVar 0)) (sPure (dCons (dCall zi2 (dCons (dVar 1) (dCons (dOp gIx (dPk 2) (dC (.int (2)))) dNil))) (dCons (dTup (dCons (dC (.str "row")) (dCons (dVar 4) dNil))) (dCons (dVar 4) dNil))))))
  (ssPure dsNext))
 (ssSeq (ssIf (sPure (dCmp cEq (dPk 3) (dC (.str "return"))))
  (ssExpr (sMeth "Links" "add" zd5 (sPure (dVar 0)) (sPure (dCons (dCall zi2 (dCons (dVar 1) (dCons (dOp gIx (dPk 2) (dC (.int (2)))) dNil))) (dCons (dTup (dCons (dC (.str "back")) (dCons (dVar 1) dNil))) (dCons (dVar 4) dNil))))))
  (ssPure dsNext))
 (ssSeq (ssIf (sPure (dCmp cEq (dPk 3) (dC (.str "set"))))
  (ssExpr (sMeth "Links" "add" zd5 (sPure (dVar 0)) (sPure (dCons (dCall zi2 (dCons (dVar 1) (dCons (dOp gIx (dPk 2) (dC (.int (3)))) dNil))) (dCons (dTup (dCons (dC (.str "name")) (dCons (dVar 1) (dCons (dOp gIx (dPk 2) (dC (.int (2)))) dNil)))) (dCons (dVar 4) dNil))))))
  (ssPure dsNext))
 (ssIf (sPure (dAnd (dCmp cEq (dPk 3) (dC (.str "join"))) (dCmp cEq (dOp gIx (dPk 2) (dC (.int (3)))) (dC (.str "ahead")))))
  (ssExpr (sMeth "Links" "add" zd5 (sPure (dVar 0)) (sPure (dCons (dOwn (dLst (dCons (dC .none) dNil))) (dCons (dTup (dCons (dC (.str "name")) (dCons (dVar 1) (dCons (dOp gIx (dPk 2) (dC (.int (2)))) dNil)))) (dCons (dVar 4) dNil))))))
  (ssPure dsNext)))))))
def b_link_call_1 : DS → Sto → SO := (ssExpr (sMeth "Links" "add" zd5 (sPure (dVar 0)) (sPure (dCons (dCall zi2 (dCons (dVar 1) (dCons (dVar 7) dNil))) (dCons (dTup (dCons (dC (.str "name")) (dCons (dVar 5) (dCons (dVar 6) dNil)))) (dCons (dVar 4) dNil))))))
def zt1 : List W → Sto → SM W := bodyS 4 8
 (ssSeq (ssPure (dsAsg (dOp gIx (dPk 2) (dC (.int (1)))) (dgName 4)))
 (ssSeq (ssPure (dsAsg (dOp gIx (dPk 2) (dC (.int (3)))) (dgName 5)))
 (ssSeq (ssExpr (sMeth "Links" "add" zd5 (sPure (dVar 0)) (sPure (dCons (dOwn (dLst (dCons (dTup (dCons (dC (.str "back")) (dCons (dVar 5) dNil))) dNil))) (dCons (dTup (dCons (dC (.str "name")) (dCons (dVar 1) (dCons (dOp gIx (dPk 2) (dC (.int (2)))) dNil)))) (dCons (dVar 4) dNil))))))
 (ssFor (sPure (dZip (dCons (dVar 3) (dCons (dOp gIx (dPk 2) (dC (.int (4)))) dNil)))) (dgTup 2 (dgCons (dgName 6) (dgCons (dgName 7) dgNil))) b_link_call_1))))
def b_links_of_1 : DS → Sto → SO := (yc5 (sPure (dVar 2)) (sPure (dVar 3)) (sPure (dVar 4)))
def b_links_of_2 : DS → Sto → SO := (ssSeq (ssExpr (sCall zr4 (sPure (dCons (dVar 1) (dCons (dVar 3) (dCons (dVar 8) (dCons (dVar 9) dNil)))))))
 (ssSeq (ssExpr (sCall zm5 (sPure (dCons (dVar 1) (dCons (dVar 3) (dCons (dVar 8) dNil))))))
 (ssIf (sPure (dCmp cEq (dOp gIx (dPk 8) (dC (.int (0)))) (dC (.str "call"))))
  (ssExpr (sCall zt1 (sCons (sPure (dVar 1)) (sCons (sPure (dVar 3)) (sCons (sPure (dVar 8)) (sCons (sDGet (sPure (dVar 2)) (sPure (dOp gIx (dPk 8) (dC (.int (3)))))) sNil))))))
  (ssPure dsNext))))
def b_links_of_3 : DS → Sto → SO := (ssSeq (ssExpr (sMeth "Links" "add" zd5 (sPure (dVar 1)) (sPure (dCons (dOwn (dLst (dCons (dTup (dCons (dC (.str "def")) (dCons (dVar 3) dNil))) dNil))) (dCons (dTup (dCons (dC (.str "back")) (dCons (dVar 3) dNil))) (dCons (dVar 6) dNil))))))
 (ssFor (sPure (dSeqOf (yi8 (zo7 8) (dCons (dVar 5) dNil)))) (dgTup 2 (dgCons (dgName 8) (dgCons (dgName 9) dgNil))) b_links_of_2))
def zr7 : List W → Sto → SM W := bodyS 1 10
 (ssSeq (ssAsg (sMake "Links" zk7 (sPure dNil)) (dgName 1))
 (ssSeq (ssAsg sDK (dgName 2))
 (ssSeq (ssFor (sPure (dSeqOf (dVar 0))) (dgTup 5 (dgCons (dgName 3) (dgCons (dgName 4) (dgCons (dgName 5) (dgCons (dgName 6) (dgCons (dgName 7) dgNil)))))) b_links_of_1)
 (ssSeq (ssFor (sPure (dSeqOf (dVar 0))) (dgTup 5 (dgCons (dgName 3) (dgCons (dgName 4) (dgCons (dgName 5) (dgCons (dgName 6) (dgCons (dgName 7) dgNil)))))) b_links_of_3)
 (ssPure (dsRet (dVar 1)))))))
def zu7 : DS → Sto → SO := (ssIf (sDIn true (sPure (dVar 5)) (sPure (dVar 2)))
 (ssSeq (yc5 (sPure (dVar 2)) (sPure (dVar 5)) (sPure (dTup (dCons (dVar 6) (dCons (dVar 4) dNil)))))
 (zo5 (sPure (dVar 3)) (sPure (dVar 5))))
  (ssPure dsNext))
def zt3 : DS → Sto → SO := (ssSeq (ssAsg (sPop (sPure (dVar 3))) (dgName 4))
 (ssForL 9000 (siLive (yc2 (sFldR "Links" "behind" (sPure (dVar 1))) (sPure (dVar 4)) (sLstS (sPure dNil)))) (dgTup 2 (dgCons (dgName 5) (dgCons (dgName 6) dgNil))) zu7))
def zz3 : List W → Sto → SM W := bodyS 1 7
 (ssSeq (ssAsg (sCall zr7 (sPure (dCons (dVar 0) dNil))) (dgName 1))
 (ssSeq (ssAsg sDT (dgName 2))
 (ssSeq (ssAsg (sLstS (sPure (dCons (dC .none) dNil))) (dgName 3))
 (ssSeq (zp8 (sTruL (sPure (dVar 3))) zt3 1000000)
 (ssPure (dsRet (dVar 2)))))))
def zf2 : List W → Option W := bodyD 2 2
 (dsSeq (dsIf (dCmp cLt (dPk 1) (dC1 gLen (dPk 0)))
  (dsRet (dOp gIx (dPk 0) (dVar 1)))
  dsNext)
 (dsRet (dC (.int (0)))))
def zf0 : Nat → List W → Option W
 | 0, _ => none
 | n + 1, ds => bodyD 2 2
  (dsSeq (dsIf (dOr (dCmp cEq (dOp gIx (dPk 0) (dC (.int (0)))) (dC (.str "num"))) (dCmp cEq (dOp gIx (dPk 0) (dC (.int (0)))) (dC (.str "name"))))
   (dsRet (dB (dCmp cEq (dPk 0) (dPk 1))))
   dsNext)
  (dsRet (dOrV (dB (dCmp cEq (dPk 0) (dPk 1))) (dC1 gAny (dOwn (dComp [some 1, none] (dSeqOf (dSlT (dVar 0) (dPart (dC (.int (1)))) dNoPart)) (dgName 1) dYes (dCall (zf0 n) (dCons (dVar 1) (dCons (dVar 0) dNil))))))))) ds
def zd1 : Nat → List W → Sto → SM W
 | 0, _, _ => none
 | n + 1, ds, S => bodyS 2 2
  (ssSeq (ssPure (dsIf (dOr (dCmp cEq (dOp gIx (dPk 0) (dC (.int (0)))) (dC (.str "lane"))) (dCmp cEq (dOp gIx (dPk 0) (dC (.int (0)))) (dC (.str "mine"))))
   (dsRet (dC (.bool true)))
   dsNext))
  (ssSeq (ssIf (sPure (dCmp cEq (dOp gIx (dPk 0) (dC (.int (0)))) (dC (.str "name"))))
   (ssRet (sInV (sPure (dOp gIx (dPk 0) (dC (.int (1))))) (sPure (dVar 1))))
   (ssPure dsNext))
  (ssRet (sAndV (sPure (dB (dCmp cNe (dOp gIx (dPk 0) (dC (.int (0)))) (dC (.str "num"))))) (sC1 gAny (sComp [some 1, none] (sPure (dSeqOf (dSlT (dVar 0) (dPart (dC (.int (1)))) dNoPart))) (dgName 1) (sPure dYes) (sCall (zd1 n) (sPure (dCons (dVar 1) (dCons (dVar 0) dNil)))))))))) ds S
def zm0 (pf : List W → Option W) : DS → Option Out := (dsAsg (dOp gAdd (dPk 1) (dCall pf (dCons (dVar 2) dNil))) (dgName 1))
def ze1 : Nat → List W → Option W
 | 0, _ => none
 | n + 1, ds => bodyD 1 3
  (dsSeq (dsIf (dCmp cEq (dOp gIx (dPk 0) (dC (.int (0)))) (dC (.str "name")))
   (dsRet (dOwn (dLst (dCons (dOp gIx (dPk 0) (dC (.int (1)))) dNil))))
   dsNext)
  (dsSeq (dsAsg (dOwn (dLst dNil)) (dgName 1))
  (dsSeq (dsIf (dCmp cNe (dOp gIx (dPk 0) (dC (.int (0)))) (dC (.str "num")))
   (dsFor (dSeqOf (dSlT (dVar 0) (dPart (dC (.int (1)))) dNoPart)) (dgName 2) (zm0 (ze1 n)))
   dsNext)
  (dsRet (dVar 1))))) ds
def zp5 : DS → Option Out := (dsSeq (dsAsg (dOp gAdd (dPk 6) (dOp gIx (dPk 1) (dOp gMod (dPk 5) (dC (.int (26)))))) (dgName 6))
 (dsAsg (dOp gDiv (dPk 5) (dC (.int (26)))) (dgName 5)))
def zp3 : DS → Option Out := (dsSeq (dsAsg (dOp gIx (dPk 1) (dOp gMod (dOp gAdd (dPk 5) (dOp gMul (dC (.int (5))) (dVar 7))) (dC (.int (26))))) (dgName 9))
 (dsSeq (dsAsg (dOp gAdd (dOp gAdd (dSlS (dVar 6) dNoPart (dPart (dVar 4))) (dVar 9)) (dSlS (dVar 6) (dPart (dOp gAdd (dPk 4) (dC (.int (1))))) (dPart (dVar 3)))) (dgName 10))
 (dsSeq (dsIf (dCmp cEq (dOp gMod (dOp gDiv (dPk 5) (dC (.int (26)))) (dC (.int (4)))) (dC (.int (1))))
  (dsAsg (dSlS (dVar 6) dNoPart (dPart (dOp gSub' (dC (.int (8))) (dVar 7)))) (dgName 10))
  dsNext)
 (dsSeq (dsIf (dOr (dCmp cIn (dPk 10) (dPk 2)) (dCmp cEq (dPk 10) (dC (.str "main"))))
  (dsAsg (dOp gMulS (dC (.str "q")) (dC1 gLen (dPk 10))) (dgName 10))
  dsNext)
 (dsAppend 8 (dVar 10))))))
def zo4 : List W → Option W := bodyD 1 11
 (dsSeq (dsAsg (dC (.str "abcdefghijklmnopqrstuvwxyz")) (dgName 1))
 (dsSeq (dsAsg (dOwn (dLst (dCons (dC (.str "def")) (dCons (dC (.str "set")) (dCons (dC (.str "put")) (dCons (dC (.str "tell")) (dCons (dC (.str "if")) (dCons (dC (.str "else")) (dCons (dC (.str "while")) (dCons (dC (.str "end")) (dCons (dC (.str "break")) (dCons (dC (.str "again")) (dCons (dC (.str "call")) (dCons (dC (.str "return")) dNil)))))))))))))) (dgName 2))
 (dsSeq (dsAsg (dOp gAdd (dPk 2) (dOwn (dLst (dCons (dC (.str "stop")) (dCons (dC (.str "join")) (dCons (dC (.str "meet")) (dCons (dC (.str "lane")) (dCons (dC (.str "lanes")) (dCons (dC (.str "mine")) (dCons (dC (.str "box")) (dCons (dC (.str "div")) (dCons (dC (.str "rem")) (dCons (dC (.str "sum")) (dCons (dC (.str "most")) dNil)))))))))))))) (dgName 2))
 (dsSeq (dsAsg (dOp gAdd (dPk 2) (dOwn (dLst (dCons (dC (.str "least")) (dCons (dC (.str "ahead")) dNil))))) (dgName 2))
 (dsSeq (dsAsg (dOp gAdd (dC (.int (1))) (dOp gMod (dPk 0) (dC (.int (8))))) (dgName 3))
 (dsSeq (dsAsg (dOp gMod (dOp gDiv (dPk 0) (dC (.int (8)))) (dVar 3)) (dgName 4))
 (dsSeq (dsAsg (dOp gDiv (dPk 0) (dC (.int (64)))) (dgName 5))
 (dsSeq (dsAsg (dC (.str "")) (dgName 6))
 (dsSeq (dsFor (dRng1 (dCons (dC (.int (8))) dNil)) (dgName 7) zp5)
 (dsSeq (dsOwn 8 (dLst dNil))
 (dsSeq (dsFor (dRng1 (dCons (dC (.int (6))) dNil)) (dgName 7) zp3)
 (dsFrz 8 (dsRet (dVar 8))))))))))))))
def zf1 : List W → Option W := bodyD 3 5
 (dsSeq (dsAsg (dOp gMod (dPk 0) (dC (.int (24)))) (dgName 3))
 (dsSeq (dsAsg (dOp gDiv (dPk 0) (dC (.int (24)))) (dgName 4))
 (dsSeq (dsIf (dCmp cGe (dPk 3) (dOp gSub' (dC (.int (24))) (dVar 2)))
  (dsRet (dTup (dCons (dOp gIx (dOwn (dLst (dCons (dTup (dCons (dC (.str "lane")) dNil)) (dCons (dTup (dCons (dC (.str "mine")) dNil)) dNil)))) (dOp gMod (dPk 4) (dC (.int (2))))) (dCons (dOp gDiv (dPk 4) (dC (.int (2)))) dNil))))
  dsNext)
 (dsSeq (dsIf (dCmp cLt (dPk 3) (dC (.int (11))))
  (dsRet (dTup (dCons (dTup (dCons (dC (.str "name")) (dCons (dOp gIx (dPk 1) (dOp gMod (dPk 4) (dC (.int (6))))) dNil))) (dCons (dOp gDiv (dPk 4) (dC (.int (6)))) dNil))))
  dsNext)
 (dsSeq (dsIf (dCmp cEq (dPk 3) (dC (.int (11))))
  (dsRet (dTup (dCons (dTup (dCons (dC (.str "lanes")) dNil)) (dCons (dVar 4) dNil))))
  dsNext)
 (dsRet (dTup (dCons (dTup (dCons (dC (.str "num")) (dCons (dOp gSub' (dOp gMod (dPk 4) (dC (.int (1999999999)))) (dC (.int (999999999)))) dNil))) (dCons (dOp gDiv (dPk 4) (dC (.int (199)))) dNil)))))))))
def zh1 : List W → Option W := bodyD 3 6
 (dsSeq (dsAsg (dCall zf1 (dCons (dOp gDiv (dPk 0) (dC (.int (5)))) (dCons (dVar 1) (dCons (dVar 2) dNil)))) (dgTup 2 (dgCons (dgName 3) (dgCons (dgName 4) dgNil))))
 (dsSeq (dsIf (dCmp cEq (dOp gMod (dPk 0) (dC (.int (5)))) (dC (.int (1))))
  (dsRet (dTup (dCons (dTup (dCons (dC (.str "box")) (dCons (dVar 3) dNil))) (dCons (dVar 4) dNil))))
  dsNext)
 (dsSeq (dsIf (dCmp cEq (dOp gMod (dPk 0) (dC (.int (5)))) (dC (.int (2))))
  (dsSeq (dsAsg (dCall zf1 (dCons (dVar 4) (dCons (dVar 1) (dCons (dVar 2) dNil)))) (dgTup 2 (dgCons (dgName 5) (dgCons (dgName 4) dgNil))))
 (dsRet (dTup (dCons (dTup (dCons (dOp gIx (dOwn (dLst (dCons (dC (.str "+")) (dCons (dC (.str "*")) (dCons (dC (.str "<")) dNil))))) (dOp gMod (dPk 4) (dC (.int (3))))) (dCons (dVar 3) (dCons (dVar 5) dNil)))) (dCons (dOp gDiv (dPk 4) (dC (.int (3)))) dNil)))))
  dsNext)
 (dsRet (dTup (dCons (dVar 3) (dCons (dVar 4) dNil)))))))
def zn8 : DS → Sto → SO := (ssIf (sAnd (sInS true (sPure (dOp gIx (dPk 3) (dC (.int (2))))) (sPure (dVar 1))) (sTru (sCall (zd1 9) (sPure (dCons (dOp gIx (dPk 3) (dC (.int (3)))) (dCons (dVar 1) dNil))))))
 (zo5 (sPure (dVar 1)) (sPure (dOp gIx (dPk 3) (dC (.int (2))))))
 (ssPure dsNext))
def b__law_marked_2 : DS → Sto → SO := (ssFor (sPure (dSeqOf (dVar 0))) (dgName 3) zn8)
def zn5 : List W → Sto → SM W := bodyS 1 4
 (ssSeq (ssAsg (sLstS (sPure dNil)) (dgName 1))
 (ssSeq (ssFor (sPure (dRng1 (dCons (dC (.int (6))) dNil))) (dgName 2) b__law_marked_2)
 (ssPure (dsRet (dVar 1)))))
def ze2 : List W → Option W := bodyD 2 4
 (dsSeq (dsAsg (dOp gAdd (dOp gPow (dC (.int (10))) (dC (.int (30)))) (dC (.int (57)))) (dgName 2))
 (dsSeq (dsAsg (dOp gMul (dOp gMod (dPk 0) (dVar 2)) (dC (.int (271828182845904523536028747135)))) (dgName 3))
 (dsSeq (dsAsg (dOp gAdd (dPk 3) (dOp gMul (dOp gMul (dPk 1) (dVar 1)) (dC (.int (314159265358979323846264338327))))) (dgName 3))
 (dsRet (dOp gMod (dOp gAdd (dPk 3) (dC (.int (577215664901532860606512090082)))) (dVar 2))))))
def zi3 : DS → Option Out := (dsSeq (dsIf (dCmp cLt (dPk 5) (dOp gPow (dC (.int (10))) (dC (.int (11)))))
 (dsAsg (dCall ze2 (dCons (dOp gAdd (dPk 0) (dVar 6)) (dCons (dOp gAdd (dPk 6) (dC (.int (5)))) dNil))) (dgName 5))
 dsNext)
 (dsSeq (dsAsg (dOp gMod (dPk 5) (dC (.int (4)))) (dgName 7))
 (dsSeq (dsAsg (dOp gDiv (dPk 5) (dC (.int (4)))) (dgName 5))
 (dsSeq (dsIf (dCmp cEq (dPk 7) (dC (.int (0))))
  (dsSeq (dsAsg (dTup (dCons (dC (.str "box")) (dCons (dVar 4) dNil))) (dgName 4))
 ye9)
  dsNext)
 (dsSeq (dsIf (dAnd (dCmp cEq (dPk 3) (dC (.int (6)))) (dCmp cEq (dPk 6) (dC (.int (0)))))
  (dsAsg (dCall zf1 (dCons (dVar 5) (dCons (dVar 1) (dCons (dVar 2) dNil)))) (dgTup 2 (dgCons (dgName 8) (dgCons (dgName 5) dgNil))))
  (dsAsg (dCall zh1 (dCons (dVar 5) (dCons (dVar 1) (dCons (dVar 2) dNil)))) (dgTup 2 (dgCons (dgName 8) (dgCons (dgName 5) dgNil)))))
 (dsSeq (dsAsg (dOp gIx (dOwn (dLst (dCons (dC (.str "+")) (dCons (dC (.str "-")) (dCons (dC (.str "*")) (dCons (dC (.str "div")) (dCons (dC (.str "rem")) (dCons (dC (.str "<")) (dCons (dC (.str "=")) dNil))))))))) (dOp gMod (dPk 5) (dC (.int (7))))) (dgName 9))
 (dsSeq (dsAsg (dOp gDiv (dPk 5) (dC (.int (7)))) (dgName 5))
 (dsIf (dCmp cEq (dPk 7) (dC (.int (1))))
  (dsAsg (dTup (dCons (dVar 9) (dCons (dVar 4) (dCons (dVar 8) dNil)))) (dgName 4))
  (dsAsg (dTup (dCons (dVar 9) (dCons (dVar 8) (dCons (dVar 4) dNil)))) (dgName 4))))))))))
def zj8 : List W → Option W := bodyD 3 10
 (dsSeq (dsAsg (dOp gIx (dOwn (dLst (dCons (dC (.int (0))) (dCons (dC (.int (0))) (dCons (dC (.int (0))) (dCons (dC (.int (1))) (dCons (dC (.int (1))) (dCons (dC (.int (2))) (dCons (dC (.int (6))) dNil))))))))) (dOp gMod (dPk 0) (dC (.int (7))))) (dgName 3))
 (dsSeq (dsAsg (dCall zf1 (dCons (dOp gDiv (dPk 0) (dC (.int (7)))) (dCons (dVar 1) (dCons (dVar 2) dNil)))) (dgTup 2 (dgCons (dgName 4) (dgCons (dgName 5) dgNil))))
 (dsSeq (dsFor (dRng1 (dCons (dVar 3) dNil)) (dgName 6) zi3)
 (dsRet (dVar 4)))))
def zm6 : List W → Option W := bodyD 1 1
 (dsRet (dAndV (dC1 (gIsi "int") (dVar 0)) (dNotV (dC1 (gIsi "bool") (dVar 0)))))
def zf6 : DS → Sto → SO := (ssIf (sPure (dCmp cEq (dOp gIx (dPk 3) (dC (.int (1)))) (dTup (dCons (dC (.str "name")) (dCons (dC (.str "main")) (dCons (dVar 5) dNil))))))
 (ssRet (sDInV (sPure (dOp gIx (dPk 3) (dC (.int (1))))) (sPure (dVar 0))))
 (ssPure dsNext))
def zh2 : List W → Sto → SM W := bodyS 3 6
 (ssSeq (ssAsg (sDGet (sPure (dVar 0)) (sPure (dTup (dCons (dC (.str "name")) (dCons (dC (.str "main")) (dCons (dVar 2) dNil)))))) (dgName 3))
 (ssSeq (ssPure (dsIf (dOr (dNot (dTru (dC1 (gIsiB "tuple") (dVar 3)))) (dOr (dCmp cNe (dC1 gLen (dPk 3)) (dC (.int (2)))) (dNot (dTru (dCall zm6 (dCons (dOp gIx (dPk 3) (dC (.int (0)))) dNil))))))
  (dsRet (dC (.bool false)))
  dsNext))
 (ssSeq (ssPure (dsIf (dOr (dCmp cLt (dOp gIx (dPk 3) (dC (.int (0)))) (dC (.int (2)))) (dCmp cGt (dOp gIx (dPk 3) (dC (.int (0)))) (dOp gAdd (dC1 gLen (dPk 1)) (dC (.int (1))))))
  (dsRet (dC (.bool false)))
  dsNext))
 (ssSeq (ssPure (dsAsg (dOp gIx (dPk 1) (dOp gSub' (dOp gIx (dPk 3) (dC (.int (0)))) (dC (.int (2))))) (dgName 4)))
 (ssSeq (ssPure (dsIf (dCmp cNe (dOp gIx (dPk 4) (dC (.int (2)))) (dPk 2))
  (dsRet (dC (.bool false)))
  dsNext))
 (ssSeq (ssPure (dsIf (dCmp cIsN (dOp gIx (dPk 3) (dC (.int (1)))) (dC .none))
  (dsRet (dOrV (dCall (zf0 9) (dCons (dOp gIx (dPk 4) (dC (.int (3)))) (dCons (dTup (dCons (dC (.str "lane")) dNil)) dNil))) (dCall (zf0 9) (dCons (dOp gIx (dPk 4) (dC (.int (3)))) (dCons (dTup (dCons (dC (.str "mine")) dNil)) dNil)))))
  dsNext))
 (ssSeq (ssFor (sPure (dSeqOf (dCall (ze1 9) (dCons (dOp gIx (dPk 4) (dC (.int (3)))) dNil)))) (dgName 5) zf6)
 (ssPure (dsRet (dC (.bool false)))))))))))
def ye2 : DS → Option Out := (dsSeq (dsAsg (dCall ze2 (dCons (dVar 4) (dCons (dOp gAdd (dC1 gLen (dPk 3)) (dC (.int (2)))) dNil))) (dgName 5))
 (dsAppend 3 (dTup (dCons (dC (.str "set")) (dCons (dOp gAdd (dC1 gLen (dPk 3)) (dC (.int (2)))) (dCons (dOp gIx (dPk 1) (dOp gMod (dPk 5) (dC (.int (6))))) (dCons (dCall zj8 (dCons (dOp gDiv (dPk 5) (dC (.int (6)))) (dCons (dVar 1) (dCons (dVar 2) dNil)))) dNil)))))))
def b_law_2 : DS → Sto → SO := (ssFrz 3 (ssIf (sOr (sDIn true (sPure (dTup (dCons (dC (.str "name")) (dCons (dC (.str "main")) (dCons (dVar 9) dNil))))) (sPure (dVar 7))) (sNot (sTru (sCall zh2 (sPure (dCons (dVar 7) (dCons (dVar 3) (dCons (dVar 9) dNil))))))))
 (ssPure (dsRet (dC (.bool false))))
 (ssPure dsNext)))
def p_law : List W → Sto → SM W := bodyS 1 10
 (ssSeq (ssPure (dsAsg (dCall zo4 (dCons (dCall ze2 (dCons (dCall zf2 (dCons (dVar 0) (dCons (dC (.int (0))) dNil))) (dCons (dC (.int (0))) dNil))) dNil)) (dgName 1)))
 (ssSeq (ssPure (dsAsg (dOp gIx (dOwn (dLst (dCons (dC (.int (0))) (dCons (dC (.int (1))) (dCons (dC (.int (3))) (dCons (dC (.int (12))) dNil)))))) (dOp gMod (dCall ze2 (dCons (dCall zf2 (dCons (dVar 0) (dCons (dC (.int (1))) dNil))) (dCons (dC (.int (77))) dNil))) (dC (.int (4))))) (dgName 2)))
 (ssSeq (ssPure (dsOwn 3 (dLst dNil)))
 (ssSeq (ssPure (dsFor (dSeqOf (dOwn (dSlL (dPk 0) (dPart (dC (.int (2)))) (dPart (dC (.int (112))))))) (dgName 4) ye2))
 (ssSeq (ssPure (dsAsg (dOwn (dLst (dCons (dTup (dCons (dC (.str "main")) (dCons (dOwn (dLst dNil)) (dCons (dOwn (dListOf (dPk 3))) (dCons (dC (.int (1))) (dCons (dOp gAdd (dC1 gLen (dPk 3)) (dC (.int (2)))) dNil)))))) dNil))) (dgName 6)))
 (ssSeq (ssAsg (sCall zz3 (sPure (dCons (dVar 6) dNil))) (dgName 7))
 (ssSeq (ssFrz 3 (ssAsg (sCall zn5 (sPure (dCons (dVar 3) dNil))) (dgName 8)))
 (ssSeq (ssPure (dsFrz 3 (dsIf (dCmp cNe (dPk 6) (dOwn (dLst (dCons (dTup (dCons (dC (.str "main")) (dCons (dOwn (dLst dNil)) (dCons (dVar 3) (dCons (dC (.int (1))) (dCons (dOp gAdd (dC1 gLen (dPk 3)) (dC (.int (2)))) dNil)))))) dNil))))
  (dsRet (dC (.bool false)))
  dsNext)))
 (ssSeq (ssIf (sOr (sNot (sTru (sIsiD (sPure (dVar 7))))) (sEq true (sTLen (sPure (dVar 7))) (sLen (sPure (dVar 8)))))
  (ssPure (dsRet (dC (.bool false))))
  (ssPure dsNext))
 (ssSeq (ssForL 9000 (siLive (sPure (dVar 8))) (dgName 9) b_law_2)
 (ssPure (dsRet (dC (.bool true))))))))))))))
def yf0 (K : PySem.W.Frag) : Sp := fun vs H Q _ => ∃ (a : Addr) (ns : List Int), vs = [.ref a] ∧ SqL K H a (ns.map V.int) ∧ ns.length ≤ 63 ∧ ∀ H', Q (.bl true) H'
theorem sc_bodies_of : FnScope ["statement"] ["statement"] (zb1 zi0) := ⟨rfl, rfl, rfl, by decide +kernel, rfl, by decide +kernel, by decide +kernel⟩
section
variable {P : Program} {w : World} {K : PySem.W.Frag} {mg : Str → Option Value} {base : Heap} {cl : Str → Addr}
set_option maxHeartbeats 4000000 in
theorem ok_bodies_of {f : Addr} {fd : FuncData} (F : Fun K "bodies_of" "bodies_of" zi0 f fd) : FnOk P w K mg base CX0 1 f fd ["statement"] (spD K zo3) := by
 refine F.ok sc_bodies_of (fun vs H Q E h => zk8 (fun ds d e => zf5 e) h) (fun cdv A outer s H vs Q E hr h => ?_)
 refine ⟨_, (@za3 _ _ _ _ _ (@ps_if _ _ _ _ _ _ _ _ (zb8 (zg9 (K := K) rfl hr.units) (pe_ix (zb4 (K := K) rfl) (pv 0) za6 (fun _ _ => rfl)) zb2 (zd6 _))
  (@zb0 _ _ _ (@ze3 _ _ _ _ (@ze6 _ _ _ _ (@za0 _ _ _ _ _ (pe_ix (zb4 (K := K) rfl) (pv 0) za6 (fun _ _ => rfl)) za4 (by rfl)))))
  zd0)
  (@za3 _ _ _ _ _ (@ps_if _ _ _ _ _ _ _ _ (zb8 (zg9 (K := K) rfl hr.units) (pe_ix (zb4 (K := K) rfl) (pv 0) za6 (fun _ _ => rfl)) zb2 (zd6 _))
   (@zb0 _ _ _ (@ze3 _ _ _ _ (yb2 (N := ["body"]) (ix := [none]) (zn6 rfl (by decide +kernel) (by decide +kernel) (by rfl) rfl (by decide +kernel) (by rfl)) rfl (zi7 (K := K) rfl (zn1 (zy0 (K := K) rfl) (pv 0) (zo1 za6) zt0)) (zn7 rfl) fun _ _ _ _ => ⟨(zc0 (i := 0) (show List.Nodup [Str.ofString "body"] by decide +kernel) rfl (Or.inl rfl) (.inr rfl)), (ya3 (zb8 op_notN (pv 0) zv6 (zd6 _))), (pv 0)⟩)))
   zd0)
  (@zb0 _ _ _ (@ze3 _ _ _ _ (@ze6 _ _ _ _ za4))))), ?_⟩
 exact d_fn (n := 1) rfl (fun ρ => (zc3 (ds_if (zd4 db_eq (DE.dk (de_op dr_ix (za7 (i := 0)) za5)) (DE.dk zb3))
  (ze9 (DO.de (zh9 (za1 (de_op dr_ix (za7 (i := 0)) za5) za8))))
  zc9)
  (zc3 (ds_if (zd4 db_eq (DE.dk (de_op dr_ix (za7 (i := 0)) za5)) (DE.dk zb3))
   (ze9 (DO.de (zx8 (ix := [none]) (by decide) (zx4 (DE.dk (yb6 (za2 (i := 0)) (zl2 za5) zq4))) za9 (zd4 db_notN (za7 (i := 0)) (DE.dk zv8)) (za2 (i := 0)))))
   zc9)
  (ze9 (DO.de (zh9 za8)))))) h
end
theorem sc_placed : FnScope ["body", "around", "outer", "found", "statement", "inner"] ["body", "around"] (zb1 zn2) := ⟨rfl, rfl, rfl, by decide +kernel, rfl, by decide +kernel, by decide +kernel⟩
section
variable {P : Program} {w : World} {K : PySem.W.Frag} {mg : Str → Option Value} {base : Heap} {cl : Str → Addr}
set_option maxHeartbeats 4000000 in
theorem okS_placed {n : Nat} {f_placed : Addr} {fd_placed : FuncData} (d_placed : DfD K mg "placed" zn2 ["body", "around"] f_placed fd_placed) {f_bodies_of : Addr} {fd_bodies_of : FuncData} (d_bodies_of : Df K mg "bodies_of" zi0 ["statement"] f_bodies_of fd_bodies_of) (G_bodies_of : FnOk P w K mg base CX0 1 f_bodies_of fd_bodies_of ["statement"] (spD K zo3)) (G_placed : FnOk P w K mg base CX0 (1 + n) f_placed fd_placed ["body", "around"] (spD K (zo7 n))) : FnOk P w K mg base CX0 (1 + n + 1) f_placed fd_placed ["body", "around"] (spD K (zo7 (n + 1))) := by
 have F := d_placed.fn
 refine F.ok sc_placed (fun vs H Q E h => zk8 (fun ds d e => zf5 e) h) (fun cdv A outer s H vs Q E hr h => ?_)
 refine ⟨_, (@za3 _ _ _ _ _ (@zc1 _ _ 2 _ _ _ _ sc_placed.nd rfl (Or.inl rfl) (ya6 (zb8 op_isN (pv 1) zv6 (zd6 _)) (@zb7 _ _ _ _ _ za4) (pv 1)) (by rfl) (by first | exact .inl rfl | exact .inr rfl))
  (@za3 _ _ _ _ _ (@zc1 _ _ 3 _ _ _ _ sc_placed.nd rfl (Or.inl rfl) (@ze6 _ _ _ _ za4) (by rfl) (by first | exact .inl rfl | exact .inr rfl))
  (@za3 _ _ _ _ _ (@zl8 _ _ _ _ _ _ _ _ PassesOwn.never rfl (zi7 (K := K) rfl (pv 0)) (zc0 (i := 4) sc_placed.nd rfl (Or.inl rfl))
   (@za3 _ _ _ _ _ (@zg6 _ _ _ _ (zv5 (K := K) rfl PySem.F.plainAttrs_list PySem.F.slot_list_append PySem.F.type_list_append zp7 (pv 3) (@za0 _ _ _ _ _ (@zb7 _ _ _ _ _ (@za0 _ _ _ _ _ (pv 4) (@za0 _ _ _ _ _ (pv 2) za4 (by rfl)) (by rfl))) za4 (by rfl))) (by rfl))
  (@zb0 _ _ _ (@zl8 _ _ _ _ _ _ _ _ PassesOwn.never rfl (zi7 (K := K) rfl (zc6 (G_bodies_of.mono (by omega)) hr rfl d_bodies_of.m d_bodies_of.fn.kp d_bodies_of.b .nil pass0 (@za0 _ _ _ _ _ (pv 4) za4 (by rfl)))) (zc0 (i := 5) sc_placed.nd rfl (Or.inl rfl))
   (@zb0 _ _ _ (@zg6 _ _ _ _ (zv5 (K := K) rfl PySem.F.plainAttrs_list PySem.F.slot_list_extend PySem.F.type_list_extend mt_extendK (pv 3) (@za0 _ _ _ _ _ (zc6 (G_placed.mono (by omega)) hr rfl d_placed.m d_placed.fn.kp d_placed.b .nil pass0 (@za0 _ _ _ _ _ (pv 5) (@za0 _ _ _ _ _ (@pe_op _ _ _ _ _ _ _ _ (zh4 (K := K) rfl) (pv 2) (@zb7 _ _ _ _ _ (@za0 _ _ _ _ _ (pv 4) za4 (by rfl)))) za4 (by rfl)) (by rfl))) za4 (by rfl))) (by rfl))) (by intro _; rfl)))) (by intro _; rfl))
  (@zb0 _ _ _ (@ze3 _ _ _ _ (pv 3)))))), ?_⟩
 exact d_fn (n := 6) rfl (fun ρ => (zc3 (zc8 (de_if (zd4 db_isN (za7 (i := 1)) (DE.dk zv8)) (zc7 za8) (za2 (i := 1))) za9)
  (zc3 (yf7 (zh9 za8))
  (zc3 (zv7 (zq8 (za2 (i := 0))) za9
   (zc3 (zx2 (zc7 (za1 (za2 (i := 4)) (za1 (za2 (i := 2)) za8))))
  (zv7 (zq8 (ze7 (za1 (za2 (i := 4)) za8))) za9
   (ds_extendV (ze7 (za1 (za2 (i := 5)) (za1 (de_op zk6 (za7 (i := 2)) (zc7 (za1 (za2 (i := 4)) za8))) za8)))))))
  (ye7 (i := 3) (ze9 (za2 (i := 3)))))))) h
theorem ok_placed {f_placed : Addr} {fd_placed : FuncData} (d_placed : DfD K mg "placed" zn2 ["body", "around"] f_placed fd_placed) {f_bodies_of : Addr} {fd_bodies_of : FuncData} (d_bodies_of : Df K mg "bodies_of" zi0 ["statement"] f_bodies_of fd_bodies_of) (G_bodies_of : FnOk P w K mg base CX0 1 f_bodies_of fd_bodies_of ["statement"] (spD K zo3)) : ∀ n, FnOk P w K mg base CX0 (1 + n) f_placed fd_placed ["body", "around"] (spD K (zo7 n))
 | 0 => FnOk.no fun _ => rfl
 | n + 1 => okS_placed d_placed d_bodies_of G_bodies_of (ok_placed d_placed d_bodies_of G_bodies_of n)
end
theorem sc_given_by : FnScope ["statement"] ["statement"] (zb1 zl0) := ⟨rfl, rfl, rfl, by decide +kernel, rfl, by decide +kernel, by decide +kernel⟩
section
variable {P : Program} {w : World} {K : PySem.W.Frag} {mg : Str → Option Value} {base : Heap} {cl : Str → Addr}
set_option maxHeartbeats 4000000 in
theorem ok_given_by {f : Addr} {fd : FuncData} (F : Fun K "given_by" "given_by" zl0 f fd) : FnOk P w K mg base CX0 1 f fd ["statement"] (spD K zp9) := by
 refine F.ok sc_given_by (fun vs H Q E h => zk8 (fun ds d e => zf5 e) h) (fun cdv A outer s H vs Q E hr h => ?_)
 refine ⟨_, (@zb0 _ _ _ (@ze3 _ _ _ _ (ya6 (zb8 (zq0 (K := K) rfl) (pe_ix (zb4 (K := K) rfl) (pv 0) za6 (fun _ _ => rfl)) (@zb7 _ _ _ _ _ (@za0 _ _ _ _ _ zb2 (@za0 _ _ _ _ _ zb2 (@za0 _ _ _ _ _ zb2 za4 (by rfl)) (by rfl)) (by rfl))) (by first | rfl | with_unfolding_all rfl)) (pe_ix (zb4 (K := K) rfl) (pv 0) za6 (fun _ _ => rfl)) zv6))), ?_⟩
 exact d_fn (n := 1) rfl (fun ρ => (ze9 (de_if (zd4 db_in (DE.dk (de_op dr_ix (za7 (i := 0)) za5)) (DE.dk (zc7 (za1 zb3 (za1 zb3 (za1 zb3 za8)))))) (de_op dr_ix (za7 (i := 0)) za5) zv8))) h
end
theorem sc_leaves_of : FnScope ["expression", "found", "part"] ["expression"] (zb1 zi8) := ⟨rfl, rfl, rfl, by decide +kernel, rfl, by decide +kernel, by decide +kernel⟩
section
variable {P : Program} {w : World} {K : PySem.W.Frag} {mg : Str → Option Value} {base : Heap} {cl : Str → Addr}
set_option maxHeartbeats 4000000 in
theorem okS_leaves_of {n : Nat} {f_leaves_of : Addr} {fd_leaves_of : FuncData} (d_leaves_of : Df K mg "leaves_of" zi8 ["expression"] f_leaves_of fd_leaves_of) {a_WORKINGS : Addr} (m_WORKINGS : mg "WORKINGS" = some (.ref a_WORKINGS)) (g_WORKINGS : ∀ G, SqT K G a_WORKINGS (([(Str.ofString "+"), (Str.ofString "-"), (Str.ofString "*"), (Str.ofString "div"), (Str.ofString "rem"), (Str.ofString "<"), (Str.ofString "=")]).map V.str)) (G_leaves_of : FnOk P w K mg base CX0 (0 + n) f_leaves_of fd_leaves_of ["expression"] (spD K (ze4 n))) : FnOk P w K mg base CX0 (0 + n + 1) f_leaves_of fd_leaves_of ["expression"] (spD K (ze4 (n + 1))) := by
 have F := d_leaves_of.fn
 refine F.ok sc_leaves_of (fun vs H Q E h => zk8 (fun ds d e => zf5 e) h) (fun cdv A outer s H vs Q E hr h => ?_)
 refine ⟨_, (@za3 _ _ _ _ _ (@ps_if _ _ _ _ _ _ _ _ (PW.pt (ye5 (zb8 (zx1 (K := K) rfl hr.units) (pe_ix (zb4 (K := K) rfl) (pv 0) za6 (fun _ _ => rfl)) zb2 (zd6 _)) (zz5 (zb8 (op_notIn_seqK (K := K) rfl) (pe_ix (zb4 (K := K) rfl) (pv 0) za6 (fun _ _ => rfl)) (pe_glob (v := .ref a_WORKINGS) rfl m_WORKINGS rfl) (by first | rfl | with_unfolding_all rfl)))))
  (@zb0 _ _ _ (@ze3 _ _ _ _ (@ze6 _ _ _ _ (@za0 _ _ _ _ _ (pv 0) za4 (by rfl)))))
  zd0)
  (@za3 _ _ _ _ _ (@zc1 _ _ 1 _ _ _ _ sc_leaves_of.nd rfl (Or.inl rfl) (@ze6 _ _ _ _ za4) (by rfl) (by first | exact .inl rfl | exact .inr rfl))
  (@za3 _ _ _ _ _ (@zl8 _ _ _ _ _ _ _ _ PassesOwn.never rfl (zi7 (K := K) rfl (zn1 (zy0 (K := K) rfl) (pv 0) (zo1 za6) zt0)) (zc0 (i := 2) sc_leaves_of.nd rfl (Or.inl rfl))
   (@zb0 _ _ _ (@zg6 _ _ _ _ (zv5 (K := K) rfl PySem.F.plainAttrs_list PySem.F.slot_list_extend PySem.F.type_list_extend mt_extendK (pv 1) (@za0 _ _ _ _ _ (zc6 (G_leaves_of.mono (by omega)) hr rfl d_leaves_of.m d_leaves_of.fn.kp d_leaves_of.b .nil pass0 (@za0 _ _ _ _ _ (pv 2) za4 (by rfl))) za4 (by rfl))) (by rfl))) (by intro _; rfl))
  (@zb0 _ _ _ (@ze3 _ _ _ _ (pv 1)))))), ?_⟩
 exact d_fn (n := 3) rfl (fun ρ => (zc3 (ds_if (yg8 (zd4 db_ne (DE.dk (de_op dr_ix (za7 (i := 0)) za5)) (DE.dk zb3)) (dt_notInG (ws := [(Str.ofString "+"), (Str.ofString "-"), (Str.ofString "*"), (Str.ofString "div"), (Str.ofString "rem"), (Str.ofString "<"), (Str.ofString "=")]) g_WORKINGS (DE.dk (de_op dr_ix (za7 (i := 0)) za5))))
  (ze9 (DO.de (zh9 (za1 (za2 (i := 0)) za8))))
  zc9)
  (zc3 (yf7 (zh9 za8))
  (zc3 (zv7 (zq8 (yb6 (za2 (i := 0)) (zl2 za5) zq4)) za9
   (ds_extendV (ze7 (za1 (za2 (i := 2)) za8))))
  (ye7 (i := 1) (ze9 (za2 (i := 1)))))))) h
theorem ok_leaves_of {f_leaves_of : Addr} {fd_leaves_of : FuncData} (d_leaves_of : Df K mg "leaves_of" zi8 ["expression"] f_leaves_of fd_leaves_of) {a_WORKINGS : Addr} (m_WORKINGS : mg "WORKINGS" = some (.ref a_WORKINGS)) (g_WORKINGS : ∀ G, SqT K G a_WORKINGS (([(Str.ofString "+"), (Str.ofString "-"), (Str.ofString "*"), (Str.ofString "div"), (Str.ofString "rem"), (Str.ofString "<"), (Str.ofString "=")]).map V.str)) : ∀ n, FnOk P w K mg base CX0 (0 + n) f_leaves_of fd_leaves_of ["expression"] (spD K (ze4 n))
 | 0 => FnOk.no fun _ => rfl
 | n + 1 => okS_leaves_of d_leaves_of m_WORKINGS g_WORKINGS (ok_leaves_of d_leaves_of m_WORKINGS g_WORKINGS n)
end
theorem sc_Links___init__ : FnScope ["self"] ["self"] (zb1 zg7) := ⟨rfl, rfl, rfl, by decide +kernel, rfl, by decide +kernel, by decide +kernel⟩
section
variable {P : Program} {w : World} {K : PySem.W.Frag} {mg : Str → Option Value} {base : Heap} {cl : Str → Addr}
set_option maxHeartbeats 4000000 in
theorem ok_Links___init__ {f : Addr} {fd : FuncData} (F : Fun K "__init__" "Links.__init__" zg7 f fd) (m_Links : mg "Links" = some (.ref (cl "Links"))) (cl_Links : Cls K (cl "Links")) (n_Links_behind : NoAttr K (cl "Links") "behind") : FnOk P w K mg base CX0 1 f fd ["self"] (sp0 K cl zk7) := by
 refine F.ok sc_Links___init__ (fun vs H Q E h => zp0 (fun ds S r e => zj5 e) h) (fun cdv A outer s H vs Q E hr h => ?_)
 refine ⟨_, (@zb0 _ _ _ (ps_fld (pv 0) pe_dnewN rfl)), ?_⟩
 exact s_fn0 (n := 1) rfl ((ss_fld (c := "Links") cl_Links n_Links_behind (zb6 fun ρ => (za2 (i := 0))) se_dN)) h
end
theorem sc_Links_add : FnScope ["self", "causes", "key", "line", "cause"] ["self", "causes", "key", "line"] (zb1 zm3) := ⟨rfl, rfl, rfl, by decide +kernel, rfl, by decide +kernel, by decide +kernel⟩
section
variable {P : Program} {w : World} {K : PySem.W.Frag} {mg : Str → Option Value} {base : Heap} {cl : Str → Addr}
set_option maxHeartbeats 4000000 in
theorem ok_Links_add {f : Addr} {fd : FuncData} (F : Fun K "add" "Links.add" zm3 f fd) (m_Links : mg "Links" = some (.ref (cl "Links"))) (cl_Links : Cls K (cl "Links")) (n_Links_behind : NoAttr K (cl "Links") "behind") : FnOk P w K mg base CX0 1 f fd ["self", "causes", "key", "line"] (sp0 K cl zd5) := by
 refine F.ok sc_Links_add (fun vs H Q E h => zp0 (fun ds S r e => zj5 e) h) (fun cdv A outer s H vs Q E hr h => ?_)
 refine ⟨_, (@zb0 _ _ _ (@zl8 _ _ _ _ _ _ _ _ PassesOwn.never rfl (zi7 (K := K) rfl (pv 1)) (zc0 (i := 4) sc_Links_add.nd rfl (Or.inl rfl))
  (@zb0 _ _ _ (@zg6 _ _ _ _ (zv5 (K := K) rfl PySem.F.plainAttrs_list PySem.F.slot_list_append PySem.F.type_list_append zp7 (pe_ddefN hr.units1 (pe_fldK (K := K) rfl (pv 0) rfl) (pv 4) (@ze6 _ _ _ _ za4) ⟨by rfl, by rfl, by rfl, by rfl⟩) (@za0 _ _ _ _ _ (@zb7 _ _ _ _ _ (@za0 _ _ _ _ _ (pv 2) (@za0 _ _ _ _ _ (pv 3) za4 (by rfl)) (by rfl))) za4 (by rfl))) (by rfl))) (by intro _; rfl))), ?_⟩
 exact s_fn0 (n := 5) rfl ((zv3 (zn4 fun ρ => (zq8 (za2 (i := 1)))) (fun ρ => za9)
  (zx9 (se_ddefN (se_fld (c := "Links") cl_Links n_Links_behind (zb6 fun ρ => (za2 (i := 0)))) (zb6 fun ρ => (za2 (i := 4))) (zz8 (zf8 fun ρ => za8))) (zb6 fun ρ => (zc7 (za1 (za2 (i := 2)) (za1 (za2 (i := 3)) za8))))))) h
end
theorem sc_way_of : FnScope ["name", "around"] ["name", "around"] (zb1 zo9) := ⟨rfl, rfl, rfl, by decide +kernel, rfl, by decide +kernel, by decide +kernel⟩
section
variable {P : Program} {w : World} {K : PySem.W.Frag} {mg : Str → Option Value} {base : Heap} {cl : Str → Addr}
set_option maxHeartbeats 4000000 in
theorem ok_way_of {f : Addr} {fd : FuncData} (F : Fun K "way_of" "way_of" zo9 f fd) : FnOk P w K mg base CX0 1 f fd ["name", "around"] (spD K zt4) := by
 refine F.ok sc_way_of (fun vs H Q E h => zk8 (fun ds d e => zf5 e) h) (fun cdv A outer s H vs Q E hr h => ?_)
 refine ⟨_, (@zb0 _ _ _ (@ze3 _ _ _ _ (@pe_op _ _ _ _ _ _ _ _ (zh4 (K := K) rfl) (@ze6 _ _ _ _ (@za0 _ _ _ _ _ (@zb7 _ _ _ _ _ (@za0 _ _ _ _ _ zb2 (@za0 _ _ _ _ _ (pv 0) za4 (by rfl)) (by rfl))) za4 (by rfl))) (yb2 (N := ["block"]) (ix := [none]) (zn6 rfl (by decide +kernel) (by decide +kernel) (by rfl) rfl (by decide +kernel) (by rfl)) rfl (zi7 (K := K) rfl (pv 1)) (zn7 rfl) fun _ _ _ _ => ⟨(zc0 (i := 0) (show List.Nodup [Str.ofString "block"] by decide +kernel) rfl (Or.inl rfl) (.inr rfl)), ya8, (@zb7 _ _ _ _ _ (@za0 _ _ _ _ _ zb2 (@za0 _ _ _ _ _ (pe_ix (zb4 (K := K) rfl) (pv 0) za6 (fun _ _ => rfl)) za4 (by rfl)) (by rfl)))⟩)))), ?_⟩
 exact d_fn (n := 2) rfl (fun ρ => (ze9 (de_op zk6 (DE.dk (DO.de (zh9 (za1 (zc7 (za1 zb3 (za1 (za2 (i := 0)) za8))) za8)))) (DO.de (zx8 (ix := [none]) (by decide) (zx4 (za7 (i := 1))) za9 yi2 (zc7 (za1 zb3 (za1 (de_op dr_ix (za7 (i := 0)) za5) za8)))))))) h
end
theorem sc_causes_of : FnScope ["name", "expression", "leaves", "causes"] ["name", "expression"] (zb1 zi1) := ⟨rfl, rfl, rfl, by decide +kernel, rfl, by decide +kernel, by decide +kernel⟩
section
variable {P : Program} {w : World} {K : PySem.W.Frag} {mg : Str → Option Value} {base : Heap} {cl : Str → Addr}
set_option maxHeartbeats 4000000 in
theorem ok_causes_of {f : Addr} {fd : FuncData} (F : Fun K "causes_of" "causes_of" zi1 f fd) {f_leaves_of : Addr} {fd_leaves_of : FuncData} (d_leaves_of : Df K mg "leaves_of" zi8 ["expression"] f_leaves_of fd_leaves_of) (G_leaves_of : FnOk P w K mg base CX0 9 f_leaves_of fd_leaves_of ["expression"] (spD K (ze4 9))) : FnOk P w K mg base CX0 10 f fd ["name", "expression"] (spD K zi2) := by
 refine F.ok sc_causes_of (fun vs H Q E h => zk8 (fun ds d e => zf5 e) h) (fun cdv A outer s H vs Q E hr h => ?_)
 refine ⟨_, (@za3 _ _ _ _ _ (@zc1 _ _ 2 _ _ _ _ sc_causes_of.nd rfl (Or.inl rfl) (zc6 (G_leaves_of.mono (by decide)) hr rfl d_leaves_of.m d_leaves_of.fn.kp d_leaves_of.b .nil pass0 (@za0 _ _ _ _ _ (pv 1) za4 (by rfl))) (by rfl) (by first | exact .inl rfl | exact .inr rfl))
  (@za3 _ _ _ _ _ (ps_setC (i := 3) sc_causes_of.nd rfl (Or.inl rfl) (N := ["name", "leaf"]) (ix := [some 0, none]) (zn6 rfl (by decide +kernel) (by decide +kernel) (by rfl) rfl (by decide +kernel) (by rfl)) rfl (zi7 (K := K) rfl (pv 2)) (zn7 rfl) fun _ _ _ _ => ⟨(zc0 (i := 1) (show List.Nodup [Str.ofString "name", Str.ofString "leaf"] by decide +kernel) rfl (Or.inl rfl) (.inr rfl)), (ya3 (zb8 (zg9 (K := K) rfl hr.units) (pe_ix (zb4 (K := K) rfl) (pv 1) za6 (fun _ _ => rfl)) zb2 (zd6 _))), (@zb7 _ _ _ _ _ (@za0 _ _ _ _ _ zb2 (@za0 _ _ _ _ _ (pv 0) (@za0 _ _ _ _ _ (pe_ix (zb4 (K := K) rfl) (pv 1) za6 (fun _ _ => rfl)) za4 (by rfl)) (by rfl)) (by rfl)))⟩)
  (@zb0 _ _ _ (@ze3 _ _ _ _ (ya6 (PW.pt (pw_or (zb8 (op_inA (K := K) rfl hr.units) (@zb7 _ _ _ _ _ (@za0 _ _ _ _ _ zb2 za4 (by rfl))) (pv 2) (by first | rfl | with_unfolding_all rfl)) (zv4 (zb8 (op_inA (K := K) rfl hr.units) (@zb7 _ _ _ _ _ (@za0 _ _ _ _ _ zb2 za4 (by rfl))) (pv 2) (by first | rfl | with_unfolding_all rfl))))) (@ze6 _ _ _ _ (@za0 _ _ _ _ _ zv6 za4 (by rfl))) (pv 3)))))), ?_⟩
 exact d_fn (n := 4) rfl (fun ρ => (zc3 (zc8 (ze7 (za1 (za2 (i := 1)) za8)) za9)
  (zc3 (zc8 (DO.de (zx8 (ix := [some 0, none]) (by decide) (zx4 (za7 (i := 2))) za9 (zd4 db_eq (DE.dk (de_op dr_ix (za7 (i := 1)) za5)) (DE.dk zb3)) (zc7 (za1 zb3 (za1 (za2 (i := 0)) (za1 (de_op dr_ix (za7 (i := 1)) za5) za8)))))) za9)
  (ze9 (de_if (dt_or (zd4 db_inA (DE.dk (zc7 (za1 zb3 za8))) (za7 (i := 2))) (zd4 db_inA (DE.dk (zc7 (za1 zb3 za8))) (za7 (i := 2)))) (DO.de (zh9 (za1 zv8 za8))) (za2 (i := 3))))))) h
end
theorem sc_link_way : FnScope ["links", "name", "statement", "around", "way", "line", "given", "whiles"] ["links", "name", "statement", "around"] (zb1 zl1) := ⟨rfl, rfl, rfl, by decide +kernel, rfl, by decide +kernel, by decide +kernel⟩
section
variable {P : Program} {w : World} {K : PySem.W.Frag} {mg : Str → Option Value} {base : Heap} {cl : Str → Addr}
set_option maxHeartbeats 4000000 in
theorem ok_link_way {f : Addr} {fd : FuncData} (F : Fun K "link_way" "link_way" zl1 f fd) {f_way_of : Addr} {fd_way_of : FuncData} (d_way_of : Df K mg "way_of" zo9 ["name", "around"] f_way_of fd_way_of) (G_way_of : FnOk P w K mg base CX0 1 f_way_of fd_way_of ["name", "around"] (spD K zt4)) {f_given_by : Addr} {fd_given_by : FuncData} (d_given_by : Df K mg "given_by" zl0 ["statement"] f_given_by fd_given_by) (G_given_by : FnOk P w K mg base CX0 1 f_given_by fd_given_by ["statement"] (spD K zp9)) {f_Links_add : Addr} {fd_Links_add : FuncData} (b_Links_add : Binds K fd_Links_add ["self", "causes", "key", "line"] []) (mt_Links_add : Meth K (cl "Links") "add" f_Links_add) (G_Links_add : FnOk P w K mg base CX0 1 f_Links_add fd_Links_add ["self", "causes", "key", "line"] (sp0 K cl zd5)) (m_Links : mg "Links" = some (.ref (cl "Links"))) (cl_Links : Cls K (cl "Links")) (n_Links_behind : NoAttr K (cl "Links") "behind") : FnOk P w K mg base CX0 2 f fd ["links", "name", "statement", "around"] (sp0 K cl zr4) := by
 refine F.ok sc_link_way (fun vs H Q E h => zp0 (fun ds S r e => zj5 e) h) (fun cdv A outer s H vs Q E hr h => ?_)
 refine ⟨_, (@za3 _ _ _ _ _ (@zc1 _ _ 4 _ _ _ _ sc_link_way.nd rfl (Or.inl rfl) (zc6 (G_way_of.mono (by decide)) hr rfl d_way_of.m d_way_of.fn.kp d_way_of.b .nil pass0 (@za0 _ _ _ _ _ (pv 1) (@za0 _ _ _ _ _ (pv 3) za4 (by rfl)) (by rfl))) (by rfl) (by first | exact .inl rfl | exact .inr rfl))
  (@za3 _ _ _ _ _ (@zc1 _ _ 5 _ _ _ _ sc_link_way.nd rfl (Or.inl rfl) (pe_ix (zb4 (K := K) rfl) (pv 2) za6 (fun _ _ => rfl)) (by rfl) (by first | exact .inl rfl | exact .inr rfl))
  (@za3 _ _ _ _ _ (@zc1 _ _ 6 _ _ _ _ sc_link_way.nd rfl (Or.inl rfl) (zc6 (G_given_by.mono (by decide)) hr rfl d_given_by.m d_given_by.fn.kp d_given_by.b .nil pass0 (@za0 _ _ _ _ _ (pv 2) za4 (by rfl))) (by rfl) (by first | exact .inl rfl | exact .inr rfl))
  (@za3 _ _ _ _ _ (@ps_if _ _ _ _ _ _ _ _ (zb8 op_notN (pv 6) zv6 (zd6 _))
   (@zb0 _ _ _ (@zg6 _ _ _ _ (zo2 (pv 0) cl_Links mt_Links_add (G_Links_add.mono (by decide)) hr b_Links_add .nil pass0 (@za0 _ _ _ _ _ (pv 4) (@za0 _ _ _ _ _ (@zb7 _ _ _ _ _ (@za0 _ _ _ _ _ zb2 (@za0 _ _ _ _ _ (pv 1) (@za0 _ _ _ _ _ (pv 6) za4 (by rfl)) (by rfl)) (by rfl))) (@za0 _ _ _ _ _ (pv 5) za4 (by rfl)) (by rfl)) (by rfl))) (by rfl)))
   zd0)
  (@za3 _ _ _ _ _ (@ps_if _ _ _ _ _ _ _ _ (zb8 (zq0 (K := K) rfl) (pe_ix (zb4 (K := K) rfl) (pv 2) za6 (fun _ _ => rfl)) (@zb7 _ _ _ _ _ (@za0 _ _ _ _ _ zb2 (@za0 _ _ _ _ _ zb2 za4 (by rfl)) (by rfl))) (by first | rfl | with_unfolding_all rfl))
   (@za3 _ _ _ _ _ (ps_setC (i := 7) sc_link_way.nd rfl (Or.inl rfl) (N := ["block"]) (ix := [none]) (zn6 rfl (by decide +kernel) (by decide +kernel) (by rfl) rfl (by decide +kernel) (by rfl)) rfl (zi7 (K := K) rfl (pv 3)) (zn7 rfl) fun _ _ _ _ => ⟨(zc0 (i := 0) (show List.Nodup [Str.ofString "block"] by decide +kernel) rfl (Or.inl rfl) (.inr rfl)), (ya3 (zb8 (zg9 (K := K) rfl hr.units) (pe_ix (zb4 (K := K) rfl) (pv 0) za6 (fun _ _ => rfl)) zb2 (zd6 _))), (pe_ix (zb4 (K := K) rfl) (pv 0) za6 (fun _ _ => rfl))⟩)
  (@zb0 _ _ _ (@zg6 _ _ _ _ (zo2 (pv 0) cl_Links mt_Links_add (G_Links_add.mono (by decide)) hr b_Links_add .nil pass0 (@za0 _ _ _ _ _ (pv 4) (@za0 _ _ _ _ _ (@zb7 _ _ _ _ _ (@za0 _ _ _ _ _ zb2 (@za0 _ _ _ _ _ (pe_ix (zb4 (K := K) rfl) (pv 7) (pe_un un_neg za6) (fun _ _ => rfl)) za4 (by rfl)) (by rfl))) (@za0 _ _ _ _ _ (pv 5) za4 (by rfl)) (by rfl)) (by rfl))) (by rfl))))
   zd0)
  (@za3 _ _ _ _ _ (@ps_if _ _ _ _ _ _ _ _ (zb8 (zg9 (K := K) rfl hr.units) (pe_ix (zb4 (K := K) rfl) (pv 2) za6 (fun _ _ => rfl)) zb2 (zd6 _))
   (@zb0 _ _ _ (@zg6 _ _ _ _ (zo2 (pv 0) cl_Links mt_Links_add (G_Links_add.mono (by decide)) hr b_Links_add .nil pass0 (@za0 _ _ _ _ _ (pv 4) (@za0 _ _ _ _ _ (@zb7 _ _ _ _ _ (@za0 _ _ _ _ _ zb2 (@za0 _ _ _ _ _ (pv 1) za4 (by rfl)) (by rfl))) (@za0 _ _ _ _ _ (pv 5) za4 (by rfl)) (by rfl)) (by rfl))) (by rfl)))
   zd0)
  (@zb0 _ _ _ (@ps_if _ _ _ _ _ _ _ _ (zb8 (zg9 (K := K) rfl hr.units) (pe_ix (zb4 (K := K) rfl) (pv 2) za6 (fun _ _ => rfl)) zb2 (zd6 _))
   (@zb0 _ _ _ (@zg6 _ _ _ _ (zo2 (pv 0) cl_Links mt_Links_add (G_Links_add.mono (by decide)) hr b_Links_add .nil pass0 (@za0 _ _ _ _ _ (pv 4) (@za0 _ _ _ _ _ (@zb7 _ _ _ _ _ (@za0 _ _ _ _ _ zb2 (@za0 _ _ _ _ _ (pe_ix (zb4 (K := K) rfl) (pv 2) za6 (fun _ _ => rfl)) za4 (by rfl)) (by rfl))) (@za0 _ _ _ _ _ (pv 5) za4 (by rfl)) (by rfl)) (by rfl))) (by rfl)))
   zd0)))))))), ?_⟩
 exact s_fn0 (n := 8) rfl ((zd2 (zc2 fun ρ => (zc8 (ze7 (za1 (za2 (i := 1)) (za1 (za2 (i := 3)) za8))) za9))
  (zd2 (zc2 fun ρ => (zc8 (de_op dr_ix (za7 (i := 2)) za5) za9))
  (zd2 (zc2 fun ρ => (zc8 (ze7 (za1 (za2 (i := 2)) za8)) za9))
  (zd2 (ss_if (zm8 fun ρ => (zd4 db_notN (za7 (i := 6)) (DE.dk zv8)))
   (zl4 (zo0 (c := "Links") (zb6 fun ρ => (za2 (i := 0))) (zf8 fun ρ => (za1 (za2 (i := 4)) (za1 (zc7 (za1 zb3 (za1 (za2 (i := 1)) (za1 (za2 (i := 6)) za8)))) (za1 (za2 (i := 5)) za8))))))
   (zc2 fun ρ => zc9))
  (zd2 (ss_if (zm8 fun ρ => (zd4 db_in (DE.dk (de_op dr_ix (za7 (i := 2)) za5)) (DE.dk (zc7 (za1 zb3 (za1 zb3 za8))))))
   (zd2 (zc2 fun ρ => (zc8 (DO.de (zx8 (ix := [none]) (by decide) (zx4 (za7 (i := 3))) za9 (zd4 db_eq (DE.dk (de_op dr_ix (za7 (i := 0)) za5)) (DE.dk zb3)) (de_op dr_ix (za7 (i := 0)) za5))) za9))
  (zl4 (zo0 (c := "Links") (zb6 fun ρ => (za2 (i := 0))) (zf8 fun ρ => (za1 (za2 (i := 4)) (za1 (zc7 (za1 zb3 (za1 (de_op dr_ix (za7 (i := 7)) (de_neg za5)) za8))) (za1 (za2 (i := 5)) za8)))))))
   (zc2 fun ρ => zc9))
  (zd2 (ss_if (zm8 fun ρ => (zd4 db_eq (DE.dk (de_op dr_ix (za7 (i := 2)) za5)) (DE.dk zb3)))
   (zl4 (zo0 (c := "Links") (zb6 fun ρ => (za2 (i := 0))) (zf8 fun ρ => (za1 (za2 (i := 4)) (za1 (zc7 (za1 zb3 (za1 (za2 (i := 1)) za8))) (za1 (za2 (i := 5)) za8))))))
   (zc2 fun ρ => zc9))
  (ss_if (zm8 fun ρ => (zd4 db_eq (DE.dk (de_op dr_ix (za7 (i := 2)) za5)) (DE.dk zb3)))
   (zl4 (zo0 (c := "Links") (zb6 fun ρ => (za2 (i := 0))) (zf8 fun ρ => (za1 (za2 (i := 4)) (za1 (zc7 (za1 zb3 (za1 (de_op dr_ix (za7 (i := 2)) za5) za8))) (za1 (za2 (i := 5)) za8))))))
   (zc2 fun ρ => zc9))))))))) h
end
theorem sc_link_numbers : FnScope ["links", "name", "statement", "kind", "line"] ["links", "name", "statement"] (zb1 zg1) := ⟨rfl, rfl, rfl, by decide +kernel, rfl, by decide +kernel, by decide +kernel⟩
section
variable {P : Program} {w : World} {K : PySem.W.Frag} {mg : Str → Option Value} {base : Heap} {cl : Str → Addr}
set_option maxHeartbeats 4000000 in
theorem ok_link_numbers {f : Addr} {fd : FuncData} (F : Fun K "link_numbers" "link_numbers" zg1 f fd) {f_Links_add : Addr} {fd_Links_add : FuncData} (b_Links_add : Binds K fd_Links_add ["self", "causes", "key", "line"] []) (mt_Links_add : Meth K (cl "Links") "add" f_Links_add) (G_Links_add : FnOk P w K mg base CX0 1 f_Links_add fd_Links_add ["self", "causes", "key", "line"] (sp0 K cl zd5)) {f_causes_of : Addr} {fd_causes_of : FuncData} (d_causes_of : Df K mg "causes_of" zi1 ["name", "expression"] f_causes_of fd_causes_of) (G_causes_of : FnOk P w K mg base CX0 10 f_causes_of fd_causes_of ["name", "expression"] (spD K zi2)) (m_Links : mg "Links" = some (.ref (cl "Links"))) (cl_Links : Cls K (cl "Links")) (n_Links_behind : NoAttr K (cl "Links") "behind") : FnOk P w K mg base CX0 11 f fd ["links", "name", "statement"] (sp0 K cl zm5) := by
 refine F.ok sc_link_numbers (fun vs H Q E h => zp0 (fun ds S r e => zj5 e) h) (fun cdv A outer s H vs Q E hr h => ?_)
 refine ⟨_, (@za3 _ _ _ _ _ (@zc1 _ _ 3 _ _ _ _ sc_link_numbers.nd rfl (Or.inl rfl) (pe_ix (zb4 (K := K) rfl) (pv 2) za6 (fun _ _ => rfl)) (by rfl) (by first | exact .inl rfl | exact .inr rfl))
  (@za3 _ _ _ _ _ (@zc1 _ _ 4 _ _ _ _ sc_link_numbers.nd rfl (Or.inl rfl) (pe_ix (zb4 (K := K) rfl) (pv 2) za6 (fun _ _ => rfl)) (by rfl) (by first | exact .inl rfl | exact .inr rfl))
  (@za3 _ _ _ _ _ (@ps_if _ _ _ _ _ _ _ _ (zb8 (zq0 (K := K) rfl) (pv 3) (@zb7 _ _ _ _ _ (@za0 _ _ _ _ _ zb2 (@za0 _ _ _ _ _ zb2 za4 (by rfl)) (by rfl))) (by first | rfl | with_unfolding_all rfl))
   (@zb0 _ _ _ (@zg6 _ _ _ _ (zo2 (pv 0) cl_Links mt_Links_add (G_Links_add.mono (by decide)) hr b_Links_add .nil pass0 (@za0 _ _ _ _ _ (zc6 (G_causes_of.mono (by decide)) hr rfl d_causes_of.m d_causes_of.fn.kp d_causes_of.b .nil pass0 (@za0 _ _ _ _ _ (pv 1) (@za0 _ _ _ _ _ (pe_ix (zb4 (K := K) rfl) (pv 2) za6 (fun _ _ => rfl)) za4 (by rfl)) (by rfl))) (@za0 _ _ _ _ _ (@zb7 _ _ _ _ _ (@za0 _ _ _ _ _ zb2 (@za0 _ _ _ _ _ (pv 4) za4 (by rfl)) (by rfl))) (@za0 _ _ _ _ _ (pv 4) za4 (by rfl)) (by rfl)) (by rfl))) (by rfl)))
   zd0)
  (@za3 _ _ _ _ _ (@ps_if _ _ _ _ _ _ _ _ (zb8 (zg9 (K := K) rfl hr.units) (pv 3) zb2 (zd6 _))
   (@zb0 _ _ _ (@zg6 _ _ _ _ (zo2 (pv 0) cl_Links mt_Links_add (G_Links_add.mono (by decide)) hr b_Links_add .nil pass0 (@za0 _ _ _ _ _ (zc6 (G_causes_of.mono (by decide)) hr rfl d_causes_of.m d_causes_of.fn.kp d_causes_of.b .nil pass0 (@za0 _ _ _ _ _ (pv 1) (@za0 _ _ _ _ _ (pe_ix (zb4 (K := K) rfl) (pv 2) za6 (fun _ _ => rfl)) za4 (by rfl)) (by rfl))) (@za0 _ _ _ _ _ (@zb7 _ _ _ _ _ (@za0 _ _ _ _ _ zb2 (@za0 _ _ _ _ _ (pv 1) za4 (by rfl)) (by rfl))) (@za0 _ _ _ _ _ (pv 4) za4 (by rfl)) (by rfl)) (by rfl))) (by rfl)))
   zd0)
  (@za3 _ _ _ _ _ (@ps_if _ _ _ _ _ _ _ _ (zb8 (zg9 (K := K) rfl hr.units) (pv 3) zb2 (zd6 _))
   (@zb0 _ _ _ (@zg6 _ _ _ _ (zo2 (pv 0) cl_Links mt_Links_add (G_Links_add.mono (by decide)) hr b_Links_add .nil pass0 (@za0 _ _ _ _ _ (zc6 (G_causes_of.mono (by decide)) hr rfl d_causes_of.m d_causes_of.fn.kp d_causes_of.b .nil pass0 (@za0 _ _ _ _ _ (pv 1) (@za0 _ _ _ _ _ (pe_ix (zb4 (K := K) rfl) (pv 2) za6 (fun _ _ => rfl)) za4 (by rfl)) (by rfl))) (@za0 _ _ _ _ _ (@zb7 _ _ _ _ _ (@za0 _ _ _ _ _ zb2 (@za0 _ _ _ _ _ (pv 1) (@za0 _ _ _ _ _ (pe_ix (zb4 (K := K) rfl) (pv 2) za6 (fun _ _ => rfl)) za4 (by rfl)) (by rfl)) (by rfl))) (@za0 _ _ _ _ _ (pv 4) za4 (by rfl)) (by rfl)) (by rfl))) (by rfl)))
   zd0)
  (@zb0 _ _ _ (@ps_if _ _ _ _ _ _ _ _ (PW.pt (ye5 (zb8 (zg9 (K := K) rfl hr.units) (pv 3) zb2 (zd6 _)) (zz5 (zb8 (zg9 (K := K) rfl hr.units) (pe_ix (zb4 (K := K) rfl) (pv 2) za6 (fun _ _ => rfl)) zb2 (zd6 _)))))
   (@zb0 _ _ _ (@zg6 _ _ _ _ (zo2 (pv 0) cl_Links mt_Links_add (G_Links_add.mono (by decide)) hr b_Links_add .nil pass0 (@za0 _ _ _ _ _ (@ze6 _ _ _ _ (@za0 _ _ _ _ _ zv6 za4 (by rfl))) (@za0 _ _ _ _ _ (@zb7 _ _ _ _ _ (@za0 _ _ _ _ _ zb2 (@za0 _ _ _ _ _ (pv 1) (@za0 _ _ _ _ _ (pe_ix (zb4 (K := K) rfl) (pv 2) za6 (fun _ _ => rfl)) za4 (by rfl)) (by rfl)) (by rfl))) (@za0 _ _ _ _ _ (pv 4) za4 (by rfl)) (by rfl)) (by rfl))) (by rfl)))
   zd0))))))), ?_⟩
 exact s_fn0 (n := 5) rfl ((zd2 (zc2 fun ρ => (zc8 (de_op dr_ix (za7 (i := 2)) za5) za9))
  (zd2 (zc2 fun ρ => (zc8 (de_op dr_ix (za7 (i := 2)) za5) za9))
  (zd2 (ss_if (zm8 fun ρ => (zd4 db_in (za7 (i := 3)) (DE.dk (zc7 (za1 zb3 (za1 zb3 za8))))))
   (zl4 (zo0 (c := "Links") (zb6 fun ρ => (za2 (i := 0))) (zf8 fun ρ => (za1 (ze7 (za1 (za2 (i := 1)) (za1 (de_op dr_ix (za7 (i := 2)) za5) za8))) (za1 (zc7 (za1 zb3 (za1 (za2 (i := 4)) za8))) (za1 (za2 (i := 4)) za8))))))
   (zc2 fun ρ => zc9))
  (zd2 (ss_if (zm8 fun ρ => (zd4 db_eq (za7 (i := 3)) (DE.dk zb3)))
   (zl4 (zo0 (c := "Links") (zb6 fun ρ => (za2 (i := 0))) (zf8 fun ρ => (za1 (ze7 (za1 (za2 (i := 1)) (za1 (de_op dr_ix (za7 (i := 2)) za5) za8))) (za1 (zc7 (za1 zb3 (za1 (za2 (i := 1)) za8))) (za1 (za2 (i := 4)) za8))))))
   (zc2 fun ρ => zc9))
  (zd2 (ss_if (zm8 fun ρ => (zd4 db_eq (za7 (i := 3)) (DE.dk zb3)))
   (zl4 (zo0 (c := "Links") (zb6 fun ρ => (za2 (i := 0))) (zf8 fun ρ => (za1 (ze7 (za1 (za2 (i := 1)) (za1 (de_op dr_ix (za7 (i := 2)) za5) za8))) (za1 (zc7 (za1 zb3 (za1 (za2 (i := 1)) (za1 (de_op dr_ix (za7 (i := 2)) za5) za8)))) (za1 (za2 (i := 4)) za8))))))
   (zc2 fun ρ => zc9))
  (ss_if (zm8 fun ρ => (yg8 (zd4 db_eq (za7 (i := 3)) (DE.dk zb3)) (zd4 db_eq (DE.dk (de_op dr_ix (za7 (i := 2)) za5)) (DE.dk zb3))))
   (zl4 (zo0 (c := "Links") (zb6 fun ρ => (za2 (i := 0))) (zf8 fun ρ => (za1 (DO.de (zh9 (za1 zv8 za8))) (za1 (zc7 (za1 zb3 (za1 (za2 (i := 1)) (za1 (de_op dr_ix (za7 (i := 2)) za5) za8)))) (za1 (za2 (i := 4)) za8))))))
   (zc2 fun ρ => zc9)))))))) h
end
theorem sc_link_call : FnScope ["links", "name", "statement", "params", "line", "called", "param", "expression"] ["links", "name", "statement", "params"] (zb1 zj6) := ⟨rfl, rfl, rfl, by decide +kernel, rfl, by decide +kernel, by decide +kernel⟩
section
variable {P : Program} {w : World} {K : PySem.W.Frag} {mg : Str → Option Value} {base : Heap} {cl : Str → Addr}
set_option maxHeartbeats 4000000 in
theorem ok_link_call {f : Addr} {fd : FuncData} (F : Fun K "link_call" "link_call" zj6 f fd) {f_Links_add : Addr} {fd_Links_add : FuncData} (b_Links_add : Binds K fd_Links_add ["self", "causes", "key", "line"] []) (mt_Links_add : Meth K (cl "Links") "add" f_Links_add) (G_Links_add : FnOk P w K mg base CX0 1 f_Links_add fd_Links_add ["self", "causes", "key", "line"] (sp0 K cl zd5)) {f_causes_of : Addr} {fd_causes_of : FuncData} (d_causes_of : Df K mg "causes_of" zi1 ["name", "expression"] f_causes_of fd_causes_of) (G_causes_of : FnOk P w K mg base CX0 10 f_causes_of fd_causes_of ["name", "expression"] (spD K zi2)) (m_Links : mg "Links" = some (.ref (cl "Links"))) (cl_Links : Cls K (cl "Links")) (n_Links_behind : NoAttr K (cl "Links") "behind") (z_zip : mg "zip" = none) : FnOk P w K mg base CX0 11 f fd ["links", "name", "statement", "params"] (sp0 K cl zt1) := by
 refine F.ok sc_link_call (fun vs H Q E h => zp0 (fun ds S r e => zj5 e) h) (fun cdv A outer s H vs Q E hr h => ?_)
 refine ⟨_, (@za3 _ _ _ _ _ (@zc1 _ _ 4 _ _ _ _ sc_link_call.nd rfl (Or.inl rfl) (pe_ix (zb4 (K := K) rfl) (pv 2) za6 (fun _ _ => rfl)) (by rfl) (by first | exact .inl rfl | exact .inr rfl))
  (@za3 _ _ _ _ _ (@zc1 _ _ 5 _ _ _ _ sc_link_call.nd rfl (Or.inl rfl) (pe_ix (zb4 (K := K) rfl) (pv 2) za6 (fun _ _ => rfl)) (by rfl) (by first | exact .inl rfl | exact .inr rfl))
  (@za3 _ _ _ _ _ (@zg6 _ _ _ _ (zo2 (pv 0) cl_Links mt_Links_add (G_Links_add.mono (by decide)) hr b_Links_add .nil pass0 (@za0 _ _ _ _ _ (@ze6 _ _ _ _ (@za0 _ _ _ _ _ (@zb7 _ _ _ _ _ (@za0 _ _ _ _ _ zb2 (@za0 _ _ _ _ _ (pv 5) za4 (by rfl)) (by rfl))) za4 (by rfl))) (@za0 _ _ _ _ _ (@zb7 _ _ _ _ _ (@za0 _ _ _ _ _ zb2 (@za0 _ _ _ _ _ (pv 1) (@za0 _ _ _ _ _ (pe_ix (zb4 (K := K) rfl) (pv 2) za6 (fun _ _ => rfl)) za4 (by rfl)) (by rfl)) (by rfl))) (@za0 _ _ _ _ _ (pv 4) za4 (by rfl)) (by rfl)) (by rfl))) (by rfl))
  (@zb0 _ _ _ (@zl8 _ _ _ _ _ _ _ _ PassesOwn.never rfl (pi_zipK (K := K) rfl rfl z_zip (@za0 _ _ _ _ _ (pv 3) (@za0 _ _ _ _ _ (pe_ix (zb4 (K := K) rfl) (pv 2) za6 (fun _ _ => rfl)) za4 (by rfl)) (by rfl))) (zp1 (K := K) (n := 2) rfl rfl (ze0 (zc0 (i := 6) sc_link_call.nd rfl (Or.inl rfl)) (ze0 (zc0 (i := 7) sc_link_call.nd rfl (Or.inl rfl)) zp2)))
   (@zb0 _ _ _ (@zg6 _ _ _ _ (zo2 (pv 0) cl_Links mt_Links_add (G_Links_add.mono (by decide)) hr b_Links_add .nil pass0 (@za0 _ _ _ _ _ (zc6 (G_causes_of.mono (by decide)) hr rfl d_causes_of.m d_causes_of.fn.kp d_causes_of.b .nil pass0 (@za0 _ _ _ _ _ (pv 1) (@za0 _ _ _ _ _ (pv 7) za4 (by rfl)) (by rfl))) (@za0 _ _ _ _ _ (@zb7 _ _ _ _ _ (@za0 _ _ _ _ _ zb2 (@za0 _ _ _ _ _ (pv 5) (@za0 _ _ _ _ _ (pv 6) za4 (by rfl)) (by rfl)) (by rfl))) (@za0 _ _ _ _ _ (pv 4) za4 (by rfl)) (by rfl)) (by rfl))) (by rfl))) (by intro _; rfl)))))), ?_⟩
 exact s_fn0 (n := 8) rfl ((zd2 (zc2 fun ρ => (zc8 (de_op dr_ix (za7 (i := 2)) za5) za9))
  (zd2 (zc2 fun ρ => (zc8 (de_op dr_ix (za7 (i := 2)) za5) za9))
  (zd2 (zl4 (zo0 (c := "Links") (zb6 fun ρ => (za2 (i := 0))) (zf8 fun ρ => (za1 (DO.de (zh9 (za1 (zc7 (za1 zb3 (za1 (za2 (i := 5)) za8))) za8))) (za1 (zc7 (za1 zb3 (za1 (za2 (i := 1)) (za1 (de_op dr_ix (za7 (i := 2)) za5) za8)))) (za1 (za2 (i := 4)) za8))))))
  (zv3 (zn4 fun ρ => (di_zip (za1 (za2 (i := 3)) (za1 (de_op dr_ix (za7 (i := 2)) za5) za8)))) (fun ρ => (zs5 (n := 2) (zd9 za9 (zd9 za9 zp4))))
   (zl4 (zo0 (c := "Links") (zb6 fun ρ => (za2 (i := 0))) (zf8 fun ρ => (za1 (ze7 (za1 (za2 (i := 1)) (za1 (za2 (i := 7)) za8))) (za1 (zc7 (za1 zb3 (za1 (za2 (i := 5)) (za1 (za2 (i := 6)) za8)))) (za1 (za2 (i := 4)) za8))))))))))) h
end
theorem sc_links_of : FnScope ["program", "links", "params_of", "name", "params", "body", "line", "last", "statement", "around"] ["program"] (zb1 zk9) := ⟨rfl, rfl, rfl, by decide +kernel, rfl, by decide +kernel, by decide +kernel⟩
section
variable {P : Program} {w : World} {K : PySem.W.Frag} {mg : Str → Option Value} {base : Heap} {cl : Str → Addr}
set_option maxHeartbeats 4000000 in
theorem ok_links_of {f : Addr} {fd : FuncData} (F : Fun K "links_of" "links_of" zk9 f fd) {f_Links___init__ : Addr} {fd_Links___init__ : FuncData} (b_Links___init__ : Binds K fd_Links___init__ ["self"] []) (M_Links : Mk K (cl "Links") f_Links___init__) (G_Links___init__ : FnOk P w K mg base CX0 1 f_Links___init__ fd_Links___init__ ["self"] (sp0 K cl zk7)) {f_Links_add : Addr} {fd_Links_add : FuncData} (b_Links_add : Binds K fd_Links_add ["self", "causes", "key", "line"] []) (mt_Links_add : Meth K (cl "Links") "add" f_Links_add) (G_Links_add : FnOk P w K mg base CX0 1 f_Links_add fd_Links_add ["self", "causes", "key", "line"] (sp0 K cl zd5)) {f_link_way : Addr} {fd_link_way : FuncData} (d_link_way : Df K mg "link_way" zl1 ["links", "name", "statement", "around"] f_link_way fd_link_way) (G_link_way : FnOk P w K mg base CX0 2 f_link_way fd_link_way ["links", "name", "statement", "around"] (sp0 K cl zr4)) {f_link_numbers : Addr} {fd_link_numbers : FuncData} (d_link_numbers : Df K mg "link_numbers" zg1 ["links", "name", "statement"] f_link_numbers fd_link_numbers) (G_link_numbers : FnOk P w K mg base CX0 11 f_link_numbers fd_link_numbers ["links", "name", "statement"] (sp0 K cl zm5)) {f_link_call : Addr} {fd_link_call : FuncData} (d_link_call : Df K mg "link_call" zj6 ["links", "name", "statement", "params"] f_link_call fd_link_call) (G_link_call : FnOk P w K mg base CX0 11 f_link_call fd_link_call ["links", "name", "statement", "params"] (sp0 K cl zt1)) {f_placed : Addr} {fd_placed : FuncData} (d_placed : DfD K mg "placed" zn2 ["body", "around"] f_placed fd_placed) (G_placed : FnOk P w K mg base CX0 9 f_placed fd_placed ["body", "around"] (spD K (zo7 8))) (m_Links : mg "Links" = some (.ref (cl "Links"))) (cl_Links : Cls K (cl "Links")) (n_Links_behind : NoAttr K (cl "Links") "behind") : FnOk P w K mg base CX0 12 f fd ["program"] (sp0 K cl zr7) := by
 refine F.ok sc_links_of (fun vs H Q E h => zp0 (fun ds S r e => zj5 e) h) (fun cdv A outer s H vs Q E hr h => ?_)
 refine ⟨_, (@za3 _ _ _ _ _ (@zc1 _ _ 1 _ _ _ _ sc_links_of.nd rfl (Or.inl rfl) (pe_make0 M_Links (G_Links___init__.mono (by decide)) hr rfl m_Links b_Links___init__ .nil pass0) (by rfl) (by first | exact .inl rfl | exact .inr rfl))
  (@za3 _ _ _ _ _ (@zc1 _ _ 2 _ _ _ _ sc_links_of.nd rfl (Or.inl rfl) pe_dnewK (by rfl) (by first | exact .inl rfl | exact .inr rfl))
  (@za3 _ _ _ _ _ (@zl8 _ _ _ _ _ _ _ _ PassesOwn.never rfl (zi7 (K := K) rfl (pv 0)) (zp1 (K := K) (n := 5) rfl rfl (ze0 (zc0 (i := 3) sc_links_of.nd rfl (Or.inl rfl)) (ze0 (zc0 (i := 4) sc_links_of.nd rfl (Or.inl rfl)) (ze0 (zc0 (i := 5) sc_links_of.nd rfl (Or.inl rfl)) (ze0 (zc0 (i := 6) sc_links_of.nd rfl (Or.inl rfl)) (ze0 (zc0 (i := 7) sc_links_of.nd rfl (Or.inl rfl)) zp2))))))
   (@zb0 _ _ _ (ps_dput hr.units1 (pv 2) (pv 3) (pv 4) (by rfl))) (by intro _; rfl))
  (@za3 _ _ _ _ _ (@zl8 _ _ _ _ _ _ _ _ PassesOwn.never rfl (zi7 (K := K) rfl (pv 0)) (zp1 (K := K) (n := 5) rfl rfl (ze0 (zc0 (i := 3) sc_links_of.nd rfl (Or.inl rfl)) (ze0 (zc0 (i := 4) sc_links_of.nd rfl (Or.inl rfl)) (ze0 (zc0 (i := 5) sc_links_of.nd rfl (Or.inl rfl)) (ze0 (zc0 (i := 6) sc_links_of.nd rfl (Or.inl rfl)) (ze0 (zc0 (i := 7) sc_links_of.nd rfl (Or.inl rfl)) zp2))))))
   (@za3 _ _ _ _ _ (@zg6 _ _ _ _ (zo2 (pv 1) cl_Links mt_Links_add (G_Links_add.mono (by decide)) hr b_Links_add .nil pass0 (@za0 _ _ _ _ _ (@ze6 _ _ _ _ (@za0 _ _ _ _ _ (@zb7 _ _ _ _ _ (@za0 _ _ _ _ _ zb2 (@za0 _ _ _ _ _ (pv 3) za4 (by rfl)) (by rfl))) za4 (by rfl))) (@za0 _ _ _ _ _ (@zb7 _ _ _ _ _ (@za0 _ _ _ _ _ zb2 (@za0 _ _ _ _ _ (pv 3) za4 (by rfl)) (by rfl))) (@za0 _ _ _ _ _ (pv 6) za4 (by rfl)) (by rfl)) (by rfl))) (by rfl))
  (@zb0 _ _ _ (@zl8 _ _ _ _ _ _ _ _ PassesOwn.never rfl (zi7 (K := K) rfl (zc6 (G_placed.mono (by decide)) hr rfl d_placed.m d_placed.fn.kp d_placed.b1 vals_non pass0 (@za0 _ _ _ _ _ (pv 5) za4 (by rfl)))) (zp1 (K := K) (n := 2) rfl rfl (ze0 (zc0 (i := 8) sc_links_of.nd rfl (Or.inl rfl)) (ze0 (zc0 (i := 9) sc_links_of.nd rfl (Or.inl rfl)) zp2)))
   (@za3 _ _ _ _ _ (@zg6 _ _ _ _ (zc6 (G_link_way.mono (by decide)) hr rfl d_link_way.m d_link_way.fn.kp d_link_way.b .nil pass0 (@za0 _ _ _ _ _ (pv 1) (@za0 _ _ _ _ _ (pv 3) (@za0 _ _ _ _ _ (pv 8) (@za0 _ _ _ _ _ (pv 9) za4 (by rfl)) (by rfl)) (by rfl)) (by rfl))) (by rfl))
  (@za3 _ _ _ _ _ (@zg6 _ _ _ _ (zc6 (G_link_numbers.mono (by decide)) hr rfl d_link_numbers.m d_link_numbers.fn.kp d_link_numbers.b .nil pass0 (@za0 _ _ _ _ _ (pv 1) (@za0 _ _ _ _ _ (pv 3) (@za0 _ _ _ _ _ (pv 8) za4 (by rfl)) (by rfl)) (by rfl))) (by rfl))
  (@zb0 _ _ _ (@ps_if _ _ _ _ _ _ _ _ (zb8 (zg9 (K := K) rfl hr.units) (pe_ix (zb4 (K := K) rfl) (pv 8) za6 (fun _ _ => rfl)) zb2 (zd6 _))
   (@zb0 _ _ _ (@zg6 _ _ _ _ (zc6 (G_link_call.mono (by decide)) hr rfl d_link_call.m d_link_call.fn.kp d_link_call.b .nil pass0 (@za0 _ _ _ _ _ (pv 1) (@za0 _ _ _ _ _ (pv 3) (@za0 _ _ _ _ _ (pv 8) (@za0 _ _ _ _ _ (pe_dget hr.units1 (pv 2) (pe_ix (zb4 (K := K) rfl) (pv 8) za6 (fun _ _ => rfl)) (fun _ _ => rfl)) za4 (by rfl)) (by rfl)) (by rfl)) (by rfl))) (by rfl)))
   zd0)))) (by intro _; rfl)))) (by intro _; rfl))
  (@zb0 _ _ _ (@ze3 _ _ _ _ (pv 1))))))), ?_⟩
 exact s_fn0 (n := 10) rfl ((zd2 (zs6 (se_make (c := "Links") (zf8 fun ρ => za8)) (fun ρ => za9))
  (zd2 (zs6 se_dK (fun ρ => za9))
  (zd2 (zv3 (zn4 fun ρ => (zq8 (za2 (i := 0)))) (fun ρ => (zs5 (n := 5) (zd9 za9 (zd9 za9 (zd9 za9 (zd9 za9 (zd9 za9 zp4)))))))
   (ss_dput (zb6 fun ρ => (za2 (i := 2))) (zb6 fun ρ => (za2 (i := 3))) (zb6 fun ρ => (za2 (i := 4)))))
  (zd2 (zv3 (zn4 fun ρ => (zq8 (za2 (i := 0)))) (fun ρ => (zs5 (n := 5) (zd9 za9 (zd9 za9 (zd9 za9 (zd9 za9 (zd9 za9 zp4)))))))
   (zd2 (zl4 (zo0 (c := "Links") (zb6 fun ρ => (za2 (i := 1))) (zf8 fun ρ => (za1 (DO.de (zh9 (za1 (zc7 (za1 zb3 (za1 (za2 (i := 3)) za8))) za8))) (za1 (zc7 (za1 zb3 (za1 (za2 (i := 3)) za8))) (za1 (za2 (i := 6)) za8))))))
  (zv3 (zn4 fun ρ => (zq8 (de_callN (za1 (za2 (i := 5)) za8)))) (fun ρ => (zs5 (n := 2) (zd9 za9 (zd9 za9 zp4))))
   (zd2 (zl4 (zq7 (zf8 fun ρ => (za1 (za2 (i := 1)) (za1 (za2 (i := 3)) (za1 (za2 (i := 8)) (za1 (za2 (i := 9)) za8)))))))
  (zd2 (zl4 (zq7 (zf8 fun ρ => (za1 (za2 (i := 1)) (za1 (za2 (i := 3)) (za1 (za2 (i := 8)) za8))))))
  (ss_if (zm8 fun ρ => (zd4 db_eq (DE.dk (de_op dr_ix (za7 (i := 8)) za5)) (DE.dk zb3)))
   (zl4 (zq7 (yb0 (zb6 fun ρ => (za2 (i := 1))) (yb0 (zb6 fun ρ => (za2 (i := 3))) (yb0 (zb6 fun ρ => (za2 (i := 8))) (yb0 (se_dget (zb6 fun ρ => (za2 (i := 2))) (zb6 fun ρ => (de_op dr_ix (za7 (i := 8)) za5))) sa_nil))))))
   (zc2 fun ρ => zc9)))))))
  (zc2 fun ρ => (ze9 (za2 (i := 1))))))))) h
end
theorem sc_marks : FnScope ["program", "links", "found", "due", "cause", "key", "line"] ["program"] (zb1 zr1) := ⟨rfl, rfl, rfl, by decide +kernel, rfl, by decide +kernel, by decide +kernel⟩
section
variable {P : Program} {w : World} {K : PySem.W.Frag} {mg : Str → Option Value} {base : Heap} {cl : Str → Addr}
set_option maxHeartbeats 4000000 in
theorem ok_marks {f : Addr} {fd : FuncData} (F : Fun K "marks" "marks" zr1 f fd) {f_links_of : Addr} {fd_links_of : FuncData} (d_links_of : Df K mg "links_of" zk9 ["program"] f_links_of fd_links_of) (G_links_of : FnOk P w K mg base CX0 12 f_links_of fd_links_of ["program"] (sp0 K cl zr7)) (m_Links : mg "Links" = some (.ref (cl "Links"))) (cl_Links : Cls K (cl "Links")) (n_Links_behind : NoAttr K (cl "Links") "behind") : FnOk P w K mg base CX0 13 f fd ["program"] (sp0 K cl zz3) := by
 refine F.ok sc_marks (fun vs H Q E h => zp0 (fun ds S r e => zj5 e) h) (fun cdv A outer s H vs Q E hr h => ?_)
 refine ⟨_, (@za3 _ _ _ _ _ (@zc1 _ _ 1 _ _ _ _ sc_marks.nd rfl (Or.inl rfl) (zc6 (G_links_of.mono (by decide)) hr rfl d_links_of.m d_links_of.fn.kp d_links_of.b .nil pass0 (@za0 _ _ _ _ _ (pv 0) za4 (by rfl))) (by rfl) (by first | exact .inl rfl | exact .inr rfl))
  (@za3 _ _ _ _ _ (@zc1 _ _ 2 _ _ _ _ sc_marks.nd rfl (Or.inl rfl) pe_dnewT (by rfl) (by first | exact .inl rfl | exact .inr rfl))
  (@za3 _ _ _ _ _ (@zc1 _ _ 3 _ _ _ _ sc_marks.nd rfl (Or.inl rfl) (@ze6 _ _ _ _ (@za0 _ _ _ _ _ zv6 za4 (by rfl))) (by rfl) (by first | exact .inl rfl | exact .inr rfl))
  (@za3 _ _ _ _ _ (ps_while PassesOwn.never (pt_truK (K := K) rfl (pv 3))
   (@za3 _ _ _ _ _ (@zc1 _ _ 4 _ _ _ _ sc_marks.nd rfl (Or.inl rfl) (pe_bm0K (K := K) rfl PySem.F.plainAttrs_list PySem.F.slot_list_pop PySem.F.type_list_pop mt_pop (pv 3)) (by rfl) (by first | exact .inl rfl | exact .inr rfl))
  (@zb0 _ _ _ (@zl8 _ _ _ _ _ _ _ _ PassesOwn.never rfl (zi7 (K := K) rfl (pe_dgetN hr.units1 (pe_fldK (K := K) rfl (pv 1) rfl) (pv 4) (@ze6 _ _ _ _ za4) ⟨by rfl, by rfl, by rfl, by rfl⟩)) (zp1 (K := K) (n := 2) rfl rfl (ze0 (zc0 (i := 5) sc_marks.nd rfl (Or.inl rfl)) (ze0 (zc0 (i := 6) sc_marks.nd rfl (Or.inl rfl)) zp2)))
   (@zb0 _ _ _ (@ps_if _ _ _ _ _ _ _ _ (pt_cmp (pc_dnotin hr.units1 (pv 5) (pv 2)) (by first | rfl | with_unfolding_all rfl))
   (@za3 _ _ _ _ _ (ps_dput hr.units1 (pv 2) (pv 5) (@zb7 _ _ _ _ _ (@za0 _ _ _ _ _ (pv 6) (@za0 _ _ _ _ _ (pv 4) za4 (by rfl)) (by rfl))) (by rfl))
  (@zb0 _ _ _ (@zg6 _ _ _ _ (zv5 (K := K) rfl PySem.F.plainAttrs_list PySem.F.slot_list_append PySem.F.type_list_append zp7 (pv 3) (@za0 _ _ _ _ _ (pv 5) za4 (by rfl))) (by rfl))))
   zd0)) (by intro _; rfl)))))
  (@zb0 _ _ _ (@ze3 _ _ _ _ (pv 2))))))), ?_⟩
 exact s_fn0 (n := 7) rfl ((zd2 (zs6 (zq7 (zf8 fun ρ => (za1 (za2 (i := 0)) za8))) (fun ρ => za9))
  (zd2 (zs6 se_dT (fun ρ => za9))
  (zd2 (zs6 (zz8 (zf8 fun ρ => (za1 zv8 za8))) (fun ρ => za9))
  (zd2 (ss_while (n := 1000000) (st_truL (zb6 fun ρ => (za2 (i := 3))))
   (zd2 (zs6 (se_pop (zb6 fun ρ => (za2 (i := 3)))) (fun ρ => za9))
  (ss_forL (m := 9000) (si_live (se_dgetN (se_fld (c := "Links") cl_Links n_Links_behind (zb6 fun ρ => (za2 (i := 1)))) (zb6 fun ρ => (za2 (i := 4))) (zz8 (zf8 fun ρ => za8)))) (fun ρ => (zs5 (n := 2) (zd9 za9 (zd9 za9 zp4))))
   (ss_if (st_dnotin (zb6 fun ρ => (za2 (i := 5))) (zb6 fun ρ => (za2 (i := 2))))
   (zd2 (ss_dput (zb6 fun ρ => (za2 (i := 2))) (zb6 fun ρ => (za2 (i := 5))) (zb6 fun ρ => (zc7 (za1 (za2 (i := 6)) (za1 (za2 (i := 4)) za8)))))
  (zx9 (zb6 fun ρ => (za2 (i := 3))) (zb6 fun ρ => (za2 (i := 5)))))
   (zc2 fun ρ => zc9)))))
  (zc2 fun ρ => (ze9 (za2 (i := 2))))))))) h
end
theorem sc__law_cell_at : FnScope ["_law_script", "_law_k"] ["_law_script", "_law_k"] (zb1 zg0) := ⟨rfl, rfl, rfl, by decide +kernel, rfl, by decide +kernel, by decide +kernel⟩
section
variable {P : Program} {w : World} {K : PySem.W.Frag} {mg : Str → Option Value} {base : Heap} {cl : Str → Addr}
set_option maxHeartbeats 4000000 in
theorem ok__law_cell_at {f : Addr} {fd : FuncData} (F : Fun K "_law_cell_at" "_law_cell_at" zg0 f fd) (z_len : mg "len" = none) : FnOk P w K mg base CX0 1 f fd ["_law_script", "_law_k"] (spD K zf2) := by
 refine F.ok sc__law_cell_at (fun vs H Q E h => zk8 (fun ds d e => zf5 e) h) (fun cdv A outer s H vs Q E hr h => ?_)
 refine ⟨_, (@za3 _ _ _ _ _ (@ps_if _ _ _ _ _ _ _ _ (zb8 op_lt (pv 1) (zh5 (zl5 (K := K) rfl) rfl z_len PySem.boot_len (@za0 _ _ _ _ _ (pv 0) za4 (by rfl))) (zd6 _))
  (@zb0 _ _ _ (@ze3 _ _ _ _ (pe_ix (zb4 (K := K) rfl) (pv 0) (pv 1) (fun _ _ => rfl))))
  zd0)
  (@zb0 _ _ _ (@ze3 _ _ _ _ za6))), ?_⟩
 exact d_fn (n := 2) rfl (fun ρ => (zc3 (ds_if (zd4 db_lt (za7 (i := 1)) (DE.dk (de_c1 zt2 (za7 (i := 0)))))
  (ze9 (de_op dr_ix (za7 (i := 0)) (za2 (i := 1))))
  zc9)
  (ze9 za5))) h
end
theorem sc__law_has : FnScope ["_law_told", "_law_leaf_here"] ["_law_told", "_law_leaf_here"] (zb1 zk2) := ⟨rfl, rfl, rfl, by decide +kernel, rfl, by decide +kernel, by decide +kernel⟩
section
variable {P : Program} {w : World} {K : PySem.W.Frag} {mg : Str → Option Value} {base : Heap} {cl : Str → Addr}
set_option maxHeartbeats 4000000 in
theorem okS__law_has {n : Nat} {f__law_has : Addr} {fd__law_has : FuncData} (d__law_has : Df K mg "_law_has" zk2 ["_law_told", "_law_leaf_here"] f__law_has fd__law_has) (z_any : mg "any" = none) (G__law_has : FnOk P w K mg base CX0 (0 + n) f__law_has fd__law_has ["_law_told", "_law_leaf_here"] (spD K (zf0 n))) : FnOk P w K mg base CX0 (0 + n + 1) f__law_has fd__law_has ["_law_told", "_law_leaf_here"] (spD K (zf0 (n + 1))) := by
 have F := d__law_has.fn
 refine F.ok sc__law_has (fun vs H Q E h => zk8 (fun ds d e => zf5 e) h) (fun cdv A outer s H vs Q E hr h => ?_)
 refine ⟨_, (@za3 _ _ _ _ _ (@ps_if _ _ _ _ _ _ _ _ (PW.pt (pw_or (zb8 (zg9 (K := K) rfl hr.units) (pe_ix (zb4 (K := K) rfl) (pv 0) za6 (fun _ _ => rfl)) zb2 (zd6 _)) (zv4 (zb8 (zg9 (K := K) rfl hr.units) (pe_ix (zb4 (K := K) rfl) (pv 0) za6 (fun _ _ => rfl)) zb2 (zd6 _)))))
  (@zb0 _ _ _ (@ze3 _ _ _ _ (ya9 (zg9 (K := K) rfl hr.units) (pv 0) (pv 1) (zd6 _))))
  zd0)
  (@zb0 _ _ _ (@ze3 _ _ _ _ (pe_or (ya9 (zg9 (K := K) rfl hr.units) (pv 0) (pv 1) (zd6 _)) (yf9 (zh5 (call_anyK (K := K) rfl rfl) rfl z_any boot_any (@za0 _ _ _ _ _ (yb2 (N := ["_law_leaf_here", "_law_piece"]) (ix := [some 1, none]) (zn6 rfl (by decide +kernel) (by decide +kernel) (by rfl) rfl (by decide +kernel) (by rfl)) rfl (zi7 (K := K) rfl (zn1 (zy0 (K := K) rfl) (pv 0) (zo1 za6) zt0)) (zn7 rfl) fun _ _ _ _ => ⟨(zc0 (i := 1) (show List.Nodup [Str.ofString "_law_leaf_here", Str.ofString "_law_piece"] by decide +kernel) rfl (Or.inl rfl) (.inr rfl)), ya8, (zc6 (G__law_has.mono (by omega)) hr rfl d__law_has.m d__law_has.fn.kp d__law_has.b .nil pass0 (@za0 _ _ _ _ _ (pv 1) (@za0 _ _ _ _ _ (pv 0) za4 (by rfl)) (by rfl)))⟩) za4 (by rfl)))))))), ?_⟩
 exact d_fn (n := 2) rfl (fun ρ => (zc3 (ds_if (dt_or (zd4 db_eq (DE.dk (de_op dr_ix (za7 (i := 0)) za5)) (DE.dk zb3)) (zd4 db_eq (DE.dk (de_op dr_ix (za7 (i := 0)) za5)) (DE.dk zb3)))
  (ze9 (yh1 db_eq (za7 (i := 0)) (za7 (i := 1))))
  zc9)
  (ze9 (de_or (yh1 db_eq (za7 (i := 0)) (za7 (i := 1))) (de_c1 dc_any (DE.dk (DO.de (zx8 (ix := [some 1, none]) (by decide) (zx4 (DE.dk (yb6 (za2 (i := 0)) (zl2 za5) zq4))) za9 yi2 (ze7 (za1 (za2 (i := 1)) (za1 (za2 (i := 0)) za8))))))))))) h
theorem ok__law_has {f__law_has : Addr} {fd__law_has : FuncData} (d__law_has : Df K mg "_law_has" zk2 ["_law_told", "_law_leaf_here"] f__law_has fd__law_has) (z_any : mg "any" = none) : ∀ n, FnOk P w K mg base CX0 (0 + n) f__law_has fd__law_has ["_law_told", "_law_leaf_here"] (spD K (zf0 n))
 | 0 => FnOk.no fun _ => rfl
 | n + 1 => okS__law_has d__law_has z_any (ok__law_has d__law_has z_any n)
end
theorem sc__law_is_own : FnScope ["_law_told", "_law_marked_here"] ["_law_told", "_law_marked_here"] (zb1 zf9) := ⟨rfl, rfl, rfl, by decide +kernel, rfl, by decide +kernel, by decide +kernel⟩
section
variable {P : Program} {w : World} {K : PySem.W.Frag} {mg : Str → Option Value} {base : Heap} {cl : Str → Addr}
set_option maxHeartbeats 4000000 in
theorem okS__law_is_own {n : Nat} {f__law_is_own : Addr} {fd__law_is_own : FuncData} (d__law_is_own : Df K mg "_law_is_own" zf9 ["_law_told", "_law_marked_here"] f__law_is_own fd__law_is_own) (z_any : mg "any" = none) (G__law_is_own : FnOk P w K mg base CX0 (0 + n) f__law_is_own fd__law_is_own ["_law_told", "_law_marked_here"] (sp0 K cl (zd1 n))) : FnOk P w K mg base CX0 (0 + n + 1) f__law_is_own fd__law_is_own ["_law_told", "_law_marked_here"] (sp0 K cl (zd1 (n + 1))) := by
 have F := d__law_is_own.fn
 refine F.ok sc__law_is_own (fun vs H Q E h => zp0 (fun ds S r e => zj5 e) h) (fun cdv A outer s H vs Q E hr h => ?_)
 refine ⟨_, (@za3 _ _ _ _ _ (@ps_if _ _ _ _ _ _ _ _ (PW.pt (pw_or (zb8 (zg9 (K := K) rfl hr.units) (pe_ix (zb4 (K := K) rfl) (pv 0) za6 (fun _ _ => rfl)) zb2 (zd6 _)) (zv4 (zb8 (zg9 (K := K) rfl hr.units) (pe_ix (zb4 (K := K) rfl) (pv 0) za6 (fun _ _ => rfl)) zb2 (zd6 _)))))
  (@zb0 _ _ _ (@ze3 _ _ _ _ pe_bl))
  zd0)
  (@za3 _ _ _ _ _ (@ps_if _ _ _ _ _ _ _ _ (zb8 (zg9 (K := K) rfl hr.units) (pe_ix (zb4 (K := K) rfl) (pv 0) za6 (fun _ _ => rfl)) zb2 (zd6 _))
   (@zb0 _ _ _ (@ze3 _ _ _ _ (ya9 (zq0 (K := K) rfl) (pe_ix (zb4 (K := K) rfl) (pv 0) za6 (fun _ _ => rfl)) (pv 1) (by first | rfl | with_unfolding_all rfl))))
   zd0)
  (@zb0 _ _ _ (@ze3 _ _ _ _ (pe_and (ya9 (zx1 (K := K) rfl hr.units) (pe_ix (zb4 (K := K) rfl) (pv 0) za6 (fun _ _ => rfl)) zb2 (zd6 _)) (yf9 (zh5 (call_anyK (K := K) rfl rfl) rfl z_any boot_any (@za0 _ _ _ _ _ (yb2 (N := ["_law_marked_here", "_law_piece"]) (ix := [some 1, none]) (zn6 rfl (by decide +kernel) (by decide +kernel) (by rfl) rfl (by decide +kernel) (by rfl)) rfl (zi7 (K := K) rfl (zn1 (zy0 (K := K) rfl) (pv 0) (zo1 za6) zt0)) (zn7 rfl) fun _ _ _ _ => ⟨(zc0 (i := 1) (show List.Nodup [Str.ofString "_law_marked_here", Str.ofString "_law_piece"] by decide +kernel) rfl (Or.inl rfl) (.inr rfl)), ya8, (zc6 (G__law_is_own.mono (by omega)) hr rfl d__law_is_own.m d__law_is_own.fn.kp d__law_is_own.b .nil pass0 (@za0 _ _ _ _ _ (pv 1) (@za0 _ _ _ _ _ (pv 0) za4 (by rfl)) (by rfl)))⟩) za4 (by rfl))))))))), ?_⟩
 exact s_fn0 (n := 2) rfl ((zd2 (zc2 fun ρ => (ds_if (dt_or (zd4 db_eq (DE.dk (de_op dr_ix (za7 (i := 0)) za5)) (DE.dk zb3)) (zd4 db_eq (DE.dk (de_op dr_ix (za7 (i := 0)) za5)) (DE.dk zb3)))
  (ze9 de_bl)
  zc9))
  (zd2 (ss_if (zm8 fun ρ => (zd4 db_eq (DE.dk (de_op dr_ix (za7 (i := 0)) za5)) (DE.dk zb3)))
   (yi3 (se_inV (zb6 fun ρ => (de_op dr_ix (za7 (i := 0)) za5)) (zb6 fun ρ => (za2 (i := 1)))))
   (zc2 fun ρ => zc9))
  (yi3 (se_and (zb6 fun ρ => (yh1 db_ne (DE.dk (de_op dr_ix (za7 (i := 0)) za5)) (DE.dk zb3))) (se_c1 (fun ρ => dc_any) (se_comp (ix := [some 1, none]) (by decide) (zn4 fun ρ => (zq8 (yb6 (za2 (i := 0)) (zl2 za5) zq4))) (fun ρ => za9) (zm8 fun ρ => yi2) (zq7 (zf8 fun ρ => (za1 (za2 (i := 1)) (za1 (za2 (i := 0)) za8))))))))))) h
theorem ok__law_is_own {f__law_is_own : Addr} {fd__law_is_own : FuncData} (d__law_is_own : Df K mg "_law_is_own" zf9 ["_law_told", "_law_marked_here"] f__law_is_own fd__law_is_own) (z_any : mg "any" = none) : ∀ n, FnOk P w K mg base CX0 (0 + n) f__law_is_own fd__law_is_own ["_law_told", "_law_marked_here"] (sp0 K cl (zd1 n))
 | 0 => FnOk.no0 fun _ _ => rfl
 | n + 1 => okS__law_is_own d__law_is_own z_any (ok__law_is_own d__law_is_own z_any n)
end
theorem sc__law_names_in : FnScope ["_law_told", "_law_names_here", "_law_piece"] ["_law_told"] (zb1 ze8) := ⟨rfl, rfl, rfl, by decide +kernel, rfl, by decide +kernel, by decide +kernel⟩
section
variable {P : Program} {w : World} {K : PySem.W.Frag} {mg : Str → Option Value} {base : Heap} {cl : Str → Addr}
set_option maxHeartbeats 4000000 in
theorem okS__law_names_in {n : Nat} {f__law_names_in : Addr} {fd__law_names_in : FuncData} (d__law_names_in : Df K mg "_law_names_in" ze8 ["_law_told"] f__law_names_in fd__law_names_in) (G__law_names_in : FnOk P w K mg base CX0 (0 + n) f__law_names_in fd__law_names_in ["_law_told"] (spD K (ze1 n))) : FnOk P w K mg base CX0 (0 + n + 1) f__law_names_in fd__law_names_in ["_law_told"] (spD K (ze1 (n + 1))) := by
 have F := d__law_names_in.fn
 refine F.ok sc__law_names_in (fun vs H Q E h => zk8 (fun ds d e => zf5 e) h) (fun cdv A outer s H vs Q E hr h => ?_)
 refine ⟨_, (@za3 _ _ _ _ _ (@ps_if _ _ _ _ _ _ _ _ (zb8 (zg9 (K := K) rfl hr.units) (pe_ix (zb4 (K := K) rfl) (pv 0) za6 (fun _ _ => rfl)) zb2 (zd6 _))
  (@zb0 _ _ _ (@ze3 _ _ _ _ (@ze6 _ _ _ _ (@za0 _ _ _ _ _ (pe_ix (zb4 (K := K) rfl) (pv 0) za6 (fun _ _ => rfl)) za4 (by rfl)))))
  zd0)
  (@za3 _ _ _ _ _ (@zc1 _ _ 1 _ _ _ _ sc__law_names_in.nd rfl (Or.inl rfl) (@ze6 _ _ _ _ za4) (by rfl) (by first | exact .inl rfl | exact .inr rfl))
  (@za3 _ _ _ _ _ (@ps_if _ _ _ _ _ _ _ _ (zb8 (zx1 (K := K) rfl hr.units) (pe_ix (zb4 (K := K) rfl) (pv 0) za6 (fun _ _ => rfl)) zb2 (zd6 _))
   (@zb0 _ _ _ (@zl8 _ _ _ _ _ _ _ _ PassesOwn.never rfl (zi7 (K := K) rfl (zn1 (zy0 (K := K) rfl) (pv 0) (zo1 za6) zt0)) (zc0 (i := 2) sc__law_names_in.nd rfl (Or.inl rfl))
   (@zb0 _ _ _ (@zc1 _ _ 1 _ _ _ _ sc__law_names_in.nd rfl (Or.inl rfl) (@pe_op _ _ _ _ _ _ _ _ (zh4 (K := K) rfl) (pv 1) (zc6 (G__law_names_in.mono (by omega)) hr rfl d__law_names_in.m d__law_names_in.fn.kp d__law_names_in.b .nil pass0 (@za0 _ _ _ _ _ (pv 2) za4 (by rfl)))) (by rfl) (by first | exact .inl rfl | exact .inr rfl))) (by intro _; rfl)))
   zd0)
  (@zb0 _ _ _ (@ze3 _ _ _ _ (pv 1)))))), ?_⟩
 exact d_fn (n := 3) rfl (fun ρ => (zc3 (ds_if (zd4 db_eq (DE.dk (de_op dr_ix (za7 (i := 0)) za5)) (DE.dk zb3))
  (ze9 (DO.de (zh9 (za1 (de_op dr_ix (za7 (i := 0)) za5) za8))))
  zc9)
  (zc3 (zc8 (DO.de (zh9 za8)) za9)
  (zc3 (ds_if (zd4 db_ne (DE.dk (de_op dr_ix (za7 (i := 0)) za5)) (DE.dk zb3))
   (zv7 (zq8 (yb6 (za2 (i := 0)) (zl2 za5) zq4)) za9
   (zc8 (de_op zk6 (za7 (i := 1)) (ze7 (za1 (za2 (i := 2)) za8))) za9))
   zc9)
  (ze9 (za2 (i := 1))))))) h
theorem ok__law_names_in {f__law_names_in : Addr} {fd__law_names_in : FuncData} (d__law_names_in : Df K mg "_law_names_in" ze8 ["_law_told"] f__law_names_in fd__law_names_in) : ∀ n, FnOk P w K mg base CX0 (0 + n) f__law_names_in fd__law_names_in ["_law_told"] (spD K (ze1 n))
 | 0 => FnOk.no fun _ => rfl
 | n + 1 => okS__law_names_in d__law_names_in (ok__law_names_in d__law_names_in n)
end
theorem sc__law_names : FnScope ["_law_number", "_law_letters", "_law_kept", "_law_long", "_law_place", "_law_rest", "_law_base", "_law_k", "_law_found", "_law_sign", "_law_word"] ["_law_number"] (zb1 zh7) := ⟨rfl, rfl, rfl, by decide +kernel, rfl, by decide +kernel, by decide +kernel⟩
section
variable {P : Program} {w : World} {K : PySem.W.Frag} {mg : Str → Option Value} {base : Heap} {cl : Str → Addr}
set_option maxHeartbeats 4000000 in
theorem ok__law_names {f : Addr} {fd : FuncData} (F : Fun K "_law_names" "_law_names" zh7 f fd) (z_range : mg "range" = none) (z_len : mg "len" = none) : FnOk P w K mg base CX0 1 f fd ["_law_number"] (spD K zo4) := by
 refine F.ok sc__law_names (fun vs H Q E h => zk8 (fun ds d e => zf5 e) h) (fun cdv A outer s H vs Q E hr h => ?_)
 refine ⟨_, (@za3 _ _ _ _ _ (@zc1 _ _ 1 _ _ _ _ sc__law_names.nd rfl (Or.inl rfl) zb2 (by rfl) (by first | exact .inl rfl | exact .inr rfl))
  (@za3 _ _ _ _ _ (@zc1 _ _ 2 _ _ _ _ sc__law_names.nd rfl (Or.inl rfl) (@ze6 _ _ _ _ (@za0 _ _ _ _ _ zb2 (@za0 _ _ _ _ _ zb2 (@za0 _ _ _ _ _ zb2 (@za0 _ _ _ _ _ zb2 (@za0 _ _ _ _ _ zb2 (@za0 _ _ _ _ _ zb2 (@za0 _ _ _ _ _ zb2 (@za0 _ _ _ _ _ zb2 (@za0 _ _ _ _ _ zb2 (@za0 _ _ _ _ _ zb2 (@za0 _ _ _ _ _ zb2 (@za0 _ _ _ _ _ zb2 za4 (by rfl)) (by rfl)) (by rfl)) (by rfl)) (by rfl)) (by rfl)) (by rfl)) (by rfl)) (by rfl)) (by rfl)) (by rfl)) (by rfl))) (by rfl) (by first | exact .inl rfl | exact .inr rfl))
  (@za3 _ _ _ _ _ (@zc1 _ _ 2 _ _ _ _ sc__law_names.nd rfl (Or.inl rfl) (@pe_op _ _ _ _ _ _ _ _ (zh4 (K := K) rfl) (pv 2) (@ze6 _ _ _ _ (@za0 _ _ _ _ _ zb2 (@za0 _ _ _ _ _ zb2 (@za0 _ _ _ _ _ zb2 (@za0 _ _ _ _ _ zb2 (@za0 _ _ _ _ _ zb2 (@za0 _ _ _ _ _ zb2 (@za0 _ _ _ _ _ zb2 (@za0 _ _ _ _ _ zb2 (@za0 _ _ _ _ _ zb2 (@za0 _ _ _ _ _ zb2 (@za0 _ _ _ _ _ zb2 za4 (by rfl)) (by rfl)) (by rfl)) (by rfl)) (by rfl)) (by rfl)) (by rfl)) (by rfl)) (by rfl)) (by rfl)) (by rfl)))) (by rfl) (by first | exact .inl rfl | exact .inr rfl))
  (@za3 _ _ _ _ _ (@zc1 _ _ 2 _ _ _ _ sc__law_names.nd rfl (Or.inl rfl) (@pe_op _ _ _ _ _ _ _ _ (zh4 (K := K) rfl) (pv 2) (@ze6 _ _ _ _ (@za0 _ _ _ _ _ zb2 (@za0 _ _ _ _ _ zb2 za4 (by rfl)) (by rfl)))) (by rfl) (by first | exact .inl rfl | exact .inr rfl))
  (@za3 _ _ _ _ _ (@zc1 _ _ 3 _ _ _ _ sc__law_names.nd rfl (Or.inl rfl) (@pe_op _ _ _ _ _ _ _ _ (zh4 (K := K) rfl) za6 (@pe_op _ _ _ _ _ _ _ _ zi4 (pv 0) za6)) (by rfl) (by first | exact .inl rfl | exact .inr rfl))
  (@za3 _ _ _ _ _ (@zc1 _ _ 4 _ _ _ _ sc__law_names.nd rfl (Or.inl rfl) (@pe_op _ _ _ _ _ _ _ _ zi4 (@pe_op _ _ _ _ _ _ _ _ zj3 (pv 0) za6) (pv 3)) (by rfl) (by first | exact .inl rfl | exact .inr rfl))
  (@za3 _ _ _ _ _ (@zc1 _ _ 5 _ _ _ _ sc__law_names.nd rfl (Or.inl rfl) (@pe_op _ _ _ _ _ _ _ _ zj3 (pv 0) za6) (by rfl) (by first | exact .inl rfl | exact .inr rfl))
  (@za3 _ _ _ _ _ (@zc1 _ _ 6 _ _ _ _ sc__law_names.nd rfl (Or.inl rfl) zb2 (by rfl) (by first | exact .inl rfl | exact .inr rfl))
  (@za3 _ _ _ _ _ (@zl8 _ _ _ _ _ _ _ _ PassesOwn.never rfl (zu1 rfl z_range (@za0 _ _ _ _ _ za6 za4 (by rfl))) (zc0 (i := 7) sc__law_names.nd rfl (Or.inl rfl))
   (@za3 _ _ _ _ _ (@zc1 _ _ 6 _ _ _ _ sc__law_names.nd rfl (Or.inl rfl) (@pe_op _ _ _ _ _ _ _ _ (zh4 (K := K) rfl) (pv 6) (pe_ix (zb4 (K := K) rfl) (pv 1) (@pe_op _ _ _ _ _ _ _ _ zi4 (pv 5) za6) (fun _ _ => rfl))) (by rfl) (by first | exact .inl rfl | exact .inr rfl))
  (@zb0 _ _ _ (@zc1 _ _ 5 _ _ _ _ sc__law_names.nd rfl (Or.inl rfl) (@pe_op _ _ _ _ _ _ _ _ zj3 (pv 5) za6) (by rfl) (by first | exact .inl rfl | exact .inr rfl)))) (by intro _; rfl))
  (@za3 _ _ _ _ _ (@zc1 _ _ 8 _ _ _ _ sc__law_names.nd rfl (Or.inl rfl) (@ze6 _ _ _ _ za4) (by rfl) (by first | exact .inl rfl | exact .inr rfl))
  (@za3 _ _ _ _ _ (@zl8 _ _ _ _ _ _ _ _ PassesOwn.never rfl (zu1 rfl z_range (@za0 _ _ _ _ _ za6 za4 (by rfl))) (zc0 (i := 7) sc__law_names.nd rfl (Or.inl rfl))
   (@za3 _ _ _ _ _ (@zc1 _ _ 9 _ _ _ _ sc__law_names.nd rfl (Or.inl rfl) (pe_ix (zb4 (K := K) rfl) (pv 1) (@pe_op _ _ _ _ _ _ _ _ zi4 (@pe_op _ _ _ _ _ _ _ _ (zh4 (K := K) rfl) (pv 5) (@pe_op _ _ _ _ _ _ _ _ yb4 za6 (pv 7))) za6) (fun _ _ => rfl)) (by rfl) (by first | exact .inl rfl | exact .inr rfl))
  (@za3 _ _ _ _ _ (@zc1 _ _ 10 _ _ _ _ sc__law_names.nd rfl (Or.inl rfl) (@pe_op _ _ _ _ _ _ _ _ (zh4 (K := K) rfl) (@pe_op _ _ _ _ _ _ _ _ (zh4 (K := K) rfl) (zn1 yi0 (pv 6) zt0 (zo1 (pv 4))) (pv 9)) (zn1 yi0 (pv 6) (zo1 (@pe_op _ _ _ _ _ _ _ _ (zh4 (K := K) rfl) (pv 4) za6)) (zo1 (pv 3)))) (by rfl) (by first | exact .inl rfl | exact .inr rfl))
  (@za3 _ _ _ _ _ (@ps_if _ _ _ _ _ _ _ _ (zb8 (zg9 (K := K) rfl hr.units) (@pe_op _ _ _ _ _ _ _ _ zi4 (@pe_op _ _ _ _ _ _ _ _ zj3 (pv 5) za6) za6) za6 (zd6 _))
   (@zb0 _ _ _ (@zc1 _ _ 10 _ _ _ _ sc__law_names.nd rfl (Or.inl rfl) (zn1 yi0 (pv 6) zt0 (zo1 (@pe_op _ _ _ _ _ _ _ _ ye6 za6 (pv 7)))) (by rfl) (by first | exact .inl rfl | exact .inr rfl)))
   zd0)
  (@za3 _ _ _ _ _ (@ps_if _ _ _ _ _ _ _ _ (PW.pt (pw_or (zb8 (zq0 (K := K) rfl) (pv 10) (pv 2) (by first | rfl | with_unfolding_all rfl)) (zv4 (zb8 (zg9 (K := K) rfl hr.units) (pv 10) zb2 (zd6 _)))))
   (@zb0 _ _ _ (@zc1 _ _ 10 _ _ _ _ sc__law_names.nd rfl (Or.inl rfl) (@pe_op _ _ _ _ _ _ _ _ op_mulS zb2 (zh5 (zl5 (K := K) rfl) rfl z_len PySem.boot_len (@za0 _ _ _ _ _ (pv 10) za4 (by rfl)))) (by rfl) (by first | exact .inl rfl | exact .inr rfl)))
   zd0)
  (@zb0 _ _ _ (@zg6 _ _ _ _ (zv5 (K := K) rfl PySem.F.plainAttrs_list PySem.F.slot_list_append PySem.F.type_list_append zp7 (pv 8) (@za0 _ _ _ _ _ (pv 10) za4 (by rfl))) (by rfl))))))) (by intro _; rfl))
  (@zb0 _ _ _ (@ze3 _ _ _ _ (pv 8)))))))))))))), ?_⟩
 exact d_fn (n := 11) rfl (fun ρ => (zc3 (zc8 zb3 za9)
  (zc3 (zc8 (DO.de (zh9 (za1 zb3 (za1 zb3 (za1 zb3 (za1 zb3 (za1 zb3 (za1 zb3 (za1 zb3 (za1 zb3 (za1 zb3 (za1 zb3 (za1 zb3 (za1 zb3 za8)))))))))))))) za9)
  (zc3 (zc8 (de_op zk6 (za7 (i := 2)) (DO.de (zh9 (za1 zb3 (za1 zb3 (za1 zb3 (za1 zb3 (za1 zb3 (za1 zb3 (za1 zb3 (za1 zb3 (za1 zb3 (za1 zb3 (za1 zb3 za8)))))))))))))) za9)
  (zc3 (zc8 (de_op zk6 (za7 (i := 2)) (DO.de (zh9 (za1 zb3 (za1 zb3 za8))))) za9)
  (zc3 (zc8 (de_op zk6 (DE.dk za5) (de_op zl6 (za7 (i := 0)) za5)) za9)
  (zc3 (zc8 (de_op zl6 (DE.dk (de_op zo8 (za7 (i := 0)) za5)) (za2 (i := 3))) za9)
  (zc3 (zc8 (de_op zo8 (za7 (i := 0)) za5) za9)
  (zc3 (zc8 zb3 za9)
  (zc3 (zv7 (yb3 (za1 za5 za8)) za9
   (zc3 (zc8 (de_op zk6 (za7 (i := 6)) (de_op dr_ix (za7 (i := 1)) (de_op zl6 (za7 (i := 5)) za5))) za9)
  (zc8 (de_op zo8 (za7 (i := 5)) za5) za9)))
  (zc3 (yf7 (zh9 za8))
  (zc3 (zv7 (yb3 (za1 za5 za8)) za9
   (zc3 (zc8 (de_op dr_ix (za7 (i := 1)) (de_op zl6 (DE.dk (de_op zk6 (za7 (i := 5)) (de_op yf3 (DE.dk za5) (za2 (i := 7))))) za5)) za9)
  (zc3 (zc8 (de_op zk6 (DE.dk (de_op zk6 (DE.dk (yi9 (za2 (i := 6)) zq4 (zl2 (za2 (i := 4))))) (za2 (i := 9)))) (yi9 (za2 (i := 6)) (zl2 (de_op zk6 (za7 (i := 4)) za5)) (zl2 (za2 (i := 3))))) za9)
  (zc3 (ds_if (zd4 db_eq (DE.dk (de_op zl6 (DE.dk (de_op zo8 (za7 (i := 5)) za5)) za5)) (DE.dk za5))
   (zc8 (yi9 (za2 (i := 6)) zq4 (zl2 (de_op yg5 (DE.dk za5) (za2 (i := 7))))) za9)
   zc9)
  (zc3 (ds_if (dt_or (zd4 db_in (za7 (i := 10)) (za7 (i := 2))) (zd4 db_eq (za7 (i := 10)) (DE.dk zb3)))
   (zc8 (de_op dr_mulS (DE.dk zb3) (de_c1 zt2 (za7 (i := 10)))) za9)
   zc9)
  (zx2 (za2 (i := 10))))))))
  (ye7 (i := 8) (ze9 (za2 (i := 8)))))))))))))))) h
end
theorem sc__law_leaf : FnScope ["_law_number", "_law_names_here", "_law_own", "_law_kind", "_law_rest"] ["_law_number", "_law_names_here", "_law_own"] (zb1 zi6) := ⟨rfl, rfl, rfl, by decide +kernel, rfl, by decide +kernel, by decide +kernel⟩
section
variable {P : Program} {w : World} {K : PySem.W.Frag} {mg : Str → Option Value} {base : Heap} {cl : Str → Addr}
set_option maxHeartbeats 4000000 in
theorem ok__law_leaf {f : Addr} {fd : FuncData} (F : Fun K "_law_leaf" "_law_leaf" zi6 f fd) : FnOk P w K mg base CX0 1 f fd ["_law_number", "_law_names_here", "_law_own"] (spD K zf1) := by
 refine F.ok sc__law_leaf (fun vs H Q E h => zk8 (fun ds d e => zf5 e) h) (fun cdv A outer s H vs Q E hr h => ?_)
 refine ⟨_, (@za3 _ _ _ _ _ (@zc1 _ _ 3 _ _ _ _ sc__law_leaf.nd rfl (Or.inl rfl) (@pe_op _ _ _ _ _ _ _ _ zi4 (pv 0) za6) (by rfl) (by first | exact .inl rfl | exact .inr rfl))
  (@za3 _ _ _ _ _ (@zc1 _ _ 4 _ _ _ _ sc__law_leaf.nd rfl (Or.inl rfl) (@pe_op _ _ _ _ _ _ _ _ zj3 (pv 0) za6) (by rfl) (by first | exact .inl rfl | exact .inr rfl))
  (@za3 _ _ _ _ _ (@ps_if _ _ _ _ _ _ _ _ (zb8 op_ge (pv 3) (@pe_op _ _ _ _ _ _ _ _ ye6 za6 (pv 2)) (zd6 _))
   (@zb0 _ _ _ (@ze3 _ _ _ _ (@zb7 _ _ _ _ _ (@za0 _ _ _ _ _ (pe_ix (zb4 (K := K) rfl) (@ze6 _ _ _ _ (@za0 _ _ _ _ _ (@zb7 _ _ _ _ _ (@za0 _ _ _ _ _ zb2 za4 (by rfl))) (@za0 _ _ _ _ _ (@zb7 _ _ _ _ _ (@za0 _ _ _ _ _ zb2 za4 (by rfl))) za4 (by rfl)) (by rfl))) (@pe_op _ _ _ _ _ _ _ _ zi4 (pv 4) za6) (fun _ _ => rfl)) (@za0 _ _ _ _ _ (@pe_op _ _ _ _ _ _ _ _ zj3 (pv 4) za6) za4 (by rfl)) (by rfl)))))
   zd0)
  (@za3 _ _ _ _ _ (@ps_if _ _ _ _ _ _ _ _ (zb8 op_lt (pv 3) za6 (zd6 _))
   (@zb0 _ _ _ (@ze3 _ _ _ _ (@zb7 _ _ _ _ _ (@za0 _ _ _ _ _ (@zb7 _ _ _ _ _ (@za0 _ _ _ _ _ zb2 (@za0 _ _ _ _ _ (pe_ix (zb4 (K := K) rfl) (pv 1) (@pe_op _ _ _ _ _ _ _ _ zi4 (pv 4) za6) (fun _ _ => rfl)) za4 (by rfl)) (by rfl))) (@za0 _ _ _ _ _ (@pe_op _ _ _ _ _ _ _ _ zj3 (pv 4) za6) za4 (by rfl)) (by rfl)))))
   zd0)
  (@za3 _ _ _ _ _ (@ps_if _ _ _ _ _ _ _ _ (zb8 (zg9 (K := K) rfl hr.units) (pv 3) za6 (zd6 _))
   (@zb0 _ _ _ (@ze3 _ _ _ _ (@zb7 _ _ _ _ _ (@za0 _ _ _ _ _ (@zb7 _ _ _ _ _ (@za0 _ _ _ _ _ zb2 za4 (by rfl))) (@za0 _ _ _ _ _ (pv 4) za4 (by rfl)) (by rfl)))))
   zd0)
  (@zb0 _ _ _ (@ze3 _ _ _ _ (@zb7 _ _ _ _ _ (@za0 _ _ _ _ _ (@zb7 _ _ _ _ _ (@za0 _ _ _ _ _ zb2 (@za0 _ _ _ _ _ (@pe_op _ _ _ _ _ _ _ _ ye6 (@pe_op _ _ _ _ _ _ _ _ zi4 (pv 4) za6) za6) za4 (by rfl)) (by rfl))) (@za0 _ _ _ _ _ (@pe_op _ _ _ _ _ _ _ _ zj3 (pv 4) za6) za4 (by rfl)) (by rfl)))))))))), ?_⟩
 exact d_fn (n := 5) rfl (fun ρ => (zc3 (zc8 (de_op zl6 (za7 (i := 0)) za5) za9)
  (zc3 (zc8 (de_op zo8 (za7 (i := 0)) za5) za9)
  (zc3 (ds_if (zd4 db_ge (za7 (i := 3)) (DE.dk (de_op yg5 (DE.dk za5) (za2 (i := 2)))))
   (ze9 (zc7 (za1 (de_op dr_ix (DE.dk (DO.de (zh9 (za1 (zc7 (za1 zb3 za8)) (za1 (zc7 (za1 zb3 za8)) za8))))) (de_op zl6 (za7 (i := 4)) za5)) (za1 (de_op zo8 (za7 (i := 4)) za5) za8))))
   zc9)
  (zc3 (ds_if (zd4 db_lt (za7 (i := 3)) (DE.dk za5))
   (ze9 (zc7 (za1 (zc7 (za1 zb3 (za1 (de_op dr_ix (za7 (i := 1)) (de_op zl6 (za7 (i := 4)) za5)) za8))) (za1 (de_op zo8 (za7 (i := 4)) za5) za8))))
   zc9)
  (zc3 (ds_if (zd4 db_eq (za7 (i := 3)) (DE.dk za5))
   (ze9 (zc7 (za1 (zc7 (za1 zb3 za8)) (za1 (za2 (i := 4)) za8))))
   zc9)
  (ze9 (zc7 (za1 (zc7 (za1 zb3 (za1 (de_op yg5 (DE.dk (de_op zl6 (za7 (i := 4)) za5)) za5) za8))) (za1 (de_op zo8 (za7 (i := 4)) za5) za8)))))))))) h
end
theorem sc__law_beside : FnScope ["_law_number", "_law_names_here", "_law_own", "_law_told", "_law_rest", "_law_other"] ["_law_number", "_law_names_here", "_law_own"] (zb1 zh3) := ⟨rfl, rfl, rfl, by decide +kernel, rfl, by decide +kernel, by decide +kernel⟩
section
variable {P : Program} {w : World} {K : PySem.W.Frag} {mg : Str → Option Value} {base : Heap} {cl : Str → Addr}
set_option maxHeartbeats 4000000 in
theorem ok__law_beside {f : Addr} {fd : FuncData} (F : Fun K "_law_beside" "_law_beside" zh3 f fd) {f__law_leaf : Addr} {fd__law_leaf : FuncData} (d__law_leaf : Df K mg "_law_leaf" zi6 ["_law_number", "_law_names_here", "_law_own"] f__law_leaf fd__law_leaf) (G__law_leaf : FnOk P w K mg base CX0 1 f__law_leaf fd__law_leaf ["_law_number", "_law_names_here", "_law_own"] (spD K zf1)) : FnOk P w K mg base CX0 2 f fd ["_law_number", "_law_names_here", "_law_own"] (spD K zh1) := by
 refine F.ok sc__law_beside (fun vs H Q E h => zk8 (fun ds d e => zf5 e) h) (fun cdv A outer s H vs Q E hr h => ?_)
 refine ⟨_, (@za3 _ _ _ _ _ (yb9 (zc6 (G__law_leaf.mono (by decide)) hr rfl d__law_leaf.m d__law_leaf.fn.kp d__law_leaf.b .nil pass0 (@za0 _ _ _ _ _ (@pe_op _ _ _ _ _ _ _ _ zj3 (pv 0) za6) (@za0 _ _ _ _ _ (pv 1) (@za0 _ _ _ _ _ (pv 2) za4 (by rfl)) (by rfl)) (by rfl))) (zp1 (K := K) (n := 2) rfl rfl (ze0 (zc0 (i := 3) sc__law_beside.nd rfl (Or.inl rfl)) (ze0 (zc0 (i := 4) sc__law_beside.nd rfl (Or.inl rfl)) zp2))))
  (@za3 _ _ _ _ _ (@ps_if _ _ _ _ _ _ _ _ (zb8 (zg9 (K := K) rfl hr.units) (@pe_op _ _ _ _ _ _ _ _ zi4 (pv 0) za6) za6 (zd6 _))
   (@zb0 _ _ _ (@ze3 _ _ _ _ (@zb7 _ _ _ _ _ (@za0 _ _ _ _ _ (@zb7 _ _ _ _ _ (@za0 _ _ _ _ _ zb2 (@za0 _ _ _ _ _ (pv 3) za4 (by rfl)) (by rfl))) (@za0 _ _ _ _ _ (pv 4) za4 (by rfl)) (by rfl)))))
   zd0)
  (@za3 _ _ _ _ _ (@ps_if _ _ _ _ _ _ _ _ (zb8 (zg9 (K := K) rfl hr.units) (@pe_op _ _ _ _ _ _ _ _ zi4 (pv 0) za6) za6 (zd6 _))
   (@za3 _ _ _ _ _ (yb9 (zc6 (G__law_leaf.mono (by decide)) hr rfl d__law_leaf.m d__law_leaf.fn.kp d__law_leaf.b .nil pass0 (@za0 _ _ _ _ _ (pv 4) (@za0 _ _ _ _ _ (pv 1) (@za0 _ _ _ _ _ (pv 2) za4 (by rfl)) (by rfl)) (by rfl))) (zp1 (K := K) (n := 2) rfl rfl (ze0 (zc0 (i := 5) sc__law_beside.nd rfl (Or.inl rfl)) (ze0 (zc0 (i := 4) sc__law_beside.nd rfl (Or.inl rfl)) zp2))))
  (@zb0 _ _ _ (@ze3 _ _ _ _ (@zb7 _ _ _ _ _ (@za0 _ _ _ _ _ (@zb7 _ _ _ _ _ (@za0 _ _ _ _ _ (pe_ix (zb4 (K := K) rfl) (@ze6 _ _ _ _ (@za0 _ _ _ _ _ zb2 (@za0 _ _ _ _ _ zb2 (@za0 _ _ _ _ _ zb2 za4 (by rfl)) (by rfl)) (by rfl))) (@pe_op _ _ _ _ _ _ _ _ zi4 (pv 4) za6) (fun _ _ => rfl)) (@za0 _ _ _ _ _ (pv 3) (@za0 _ _ _ _ _ (pv 5) za4 (by rfl)) (by rfl)) (by rfl))) (@za0 _ _ _ _ _ (@pe_op _ _ _ _ _ _ _ _ zj3 (pv 4) za6) za4 (by rfl)) (by rfl))))))
   zd0)
  (@zb0 _ _ _ (@ze3 _ _ _ _ (@zb7 _ _ _ _ _ (@za0 _ _ _ _ _ (pv 3) (@za0 _ _ _ _ _ (pv 4) za4 (by rfl)) (by rfl)))))))), ?_⟩
 exact d_fn (n := 6) rfl (fun ρ => (zc3 (zc8 (ze7 (za1 (de_op zo8 (za7 (i := 0)) za5) (za1 (za2 (i := 1)) (za1 (za2 (i := 2)) za8)))) (zs5 (n := 2) (zd9 za9 (zd9 za9 zp4))))
  (zc3 (ds_if (zd4 db_eq (DE.dk (de_op zl6 (za7 (i := 0)) za5)) (DE.dk za5))
   (ze9 (zc7 (za1 (zc7 (za1 zb3 (za1 (za2 (i := 3)) za8))) (za1 (za2 (i := 4)) za8))))
   zc9)
  (zc3 (ds_if (zd4 db_eq (DE.dk (de_op zl6 (za7 (i := 0)) za5)) (DE.dk za5))
   (zc3 (zc8 (ze7 (za1 (za2 (i := 4)) (za1 (za2 (i := 1)) (za1 (za2 (i := 2)) za8)))) (zs5 (n := 2) (zd9 za9 (zd9 za9 zp4))))
  (ze9 (zc7 (za1 (zc7 (za1 (de_op dr_ix (DE.dk (DO.de (zh9 (za1 zb3 (za1 zb3 (za1 zb3 za8)))))) (de_op zl6 (za7 (i := 4)) za5)) (za1 (za2 (i := 3)) (za1 (za2 (i := 5)) za8)))) (za1 (de_op zo8 (za7 (i := 4)) za5) za8)))))
   zc9)
  (ze9 (zc7 (za1 (za2 (i := 3)) (za1 (za2 (i := 4)) za8)))))))) h
end
theorem sc__law_marked : FnScope ["_law_body", "_law_marked_here", "_law_k", "_law_deed"] ["_law_body"] (zb1 zh0) := ⟨rfl, rfl, rfl, by decide +kernel, rfl, by decide +kernel, by decide +kernel⟩
section
variable {P : Program} {w : World} {K : PySem.W.Frag} {mg : Str → Option Value} {base : Heap} {cl : Str → Addr}
set_option maxHeartbeats 4000000 in
theorem ok__law_marked {f : Addr} {fd : FuncData} (F : Fun K "_law_marked" "_law_marked" zh0 f fd) {f__law_is_own : Addr} {fd__law_is_own : FuncData} (d__law_is_own : Df K mg "_law_is_own" zf9 ["_law_told", "_law_marked_here"] f__law_is_own fd__law_is_own) (G__law_is_own : FnOk P w K mg base CX0 9 f__law_is_own fd__law_is_own ["_law_told", "_law_marked_here"] (sp0 K cl (zd1 9))) (z_range : mg "range" = none) : FnOk P w K mg base CX0 10 f fd ["_law_body"] (sp0 K cl zn5) := by
 refine F.ok sc__law_marked (fun vs H Q E h => zp0 (fun ds S r e => zj5 e) h) (fun cdv A outer s H vs Q E hr h => ?_)
 refine ⟨_, (@za3 _ _ _ _ _ (@zc1 _ _ 1 _ _ _ _ sc__law_marked.nd rfl (Or.inl rfl) (@ze6 _ _ _ _ za4) (by rfl) (by first | exact .inl rfl | exact .inr rfl))
  (@za3 _ _ _ _ _ (@zl8 _ _ _ _ _ _ _ _ PassesOwn.never rfl (zu1 rfl z_range (@za0 _ _ _ _ _ za6 za4 (by rfl))) (zc0 (i := 2) sc__law_marked.nd rfl (Or.inl rfl))
   (@zb0 _ _ _ (@zl8 _ _ _ _ _ _ _ _ PassesOwn.never rfl (zi7 (K := K) rfl (pv 0)) (zc0 (i := 3) sc__law_marked.nd rfl (Or.inl rfl))
   (@zb0 _ _ _ (@ps_if _ _ _ _ _ _ _ _ (PW.pt (ye5 (zb8 (op_notIn_seqK (K := K) rfl) (pe_ix (zb4 (K := K) rfl) (pv 3) za6 (fun _ _ => rfl)) (pv 1) (by first | rfl | with_unfolding_all rfl)) (zz5 (yc1 (zc6 (G__law_is_own.mono (by decide)) hr rfl d__law_is_own.m d__law_is_own.fn.kp d__law_is_own.b .nil pass0 (@za0 _ _ _ _ _ (pe_ix (zb4 (K := K) rfl) (pv 3) za6 (fun _ _ => rfl)) (@za0 _ _ _ _ _ (pv 1) za4 (by rfl)) (by rfl)))))))
   (@zb0 _ _ _ (@zg6 _ _ _ _ (zv5 (K := K) rfl PySem.F.plainAttrs_list PySem.F.slot_list_append PySem.F.type_list_append zp7 (pv 1) (@za0 _ _ _ _ _ (pe_ix (zb4 (K := K) rfl) (pv 3) za6 (fun _ _ => rfl)) za4 (by rfl))) (by rfl)))
   zd0)) (by intro _; rfl))) (by intro _; rfl))
  (@zb0 _ _ _ (@ze3 _ _ _ _ (pv 1))))), ?_⟩
 exact s_fn0 (n := 4) rfl ((zd2 (zs6 (zz8 (zf8 fun ρ => za8)) (fun ρ => za9))
  (zd2 (zv3 (zn4 fun ρ => (yb3 (za1 za5 za8))) (fun ρ => za9)
   (zv3 (zn4 fun ρ => (zq8 (za2 (i := 0)))) (fun ρ => za9)
   (ss_if (st_and (st_inS (neg := true) (zb6 fun ρ => (de_op dr_ix (za7 (i := 3)) za5)) (zb6 fun ρ => (za2 (i := 1)))) (yh3 (zq7 (zf8 fun ρ => (za1 (de_op dr_ix (za7 (i := 3)) za5) (za1 (za2 (i := 1)) za8))))))
   (zx9 (zb6 fun ρ => (za2 (i := 1))) (zb6 fun ρ => (de_op dr_ix (za7 (i := 3)) za5)))
   (zc2 fun ρ => zc9))))
  (zc2 fun ρ => (ze9 (za2 (i := 1))))))) h
end
theorem sc__law_spread : FnScope ["_law_cell", "_law_k", "_law_big", "_law_number"] ["_law_cell", "_law_k"] (zb1 zf7) := ⟨rfl, rfl, rfl, by decide +kernel, rfl, by decide +kernel, by decide +kernel⟩
section
variable {P : Program} {w : World} {K : PySem.W.Frag} {mg : Str → Option Value} {base : Heap} {cl : Str → Addr}
set_option maxHeartbeats 4000000 in
theorem ok__law_spread {f : Addr} {fd : FuncData} (F : Fun K "_law_spread" "_law_spread" zf7 f fd) : FnOk P w K mg base CX0 1 f fd ["_law_cell", "_law_k"] (spD K ze2) := by
 refine F.ok sc__law_spread (fun vs H Q E h => zk8 (fun ds d e => zf5 e) h) (fun cdv A outer s H vs Q E hr h => ?_)
 refine ⟨_, (@za3 _ _ _ _ _ (@zc1 _ _ 2 _ _ _ _ sc__law_spread.nd rfl (Or.inl rfl) (@pe_op _ _ _ _ _ _ _ _ (zh4 (K := K) rfl) (@pe_op _ _ _ _ _ _ _ _ op_pow za6 za6) za6) (by rfl) (by first | exact .inl rfl | exact .inr rfl))
  (@za3 _ _ _ _ _ (@zc1 _ _ 3 _ _ _ _ sc__law_spread.nd rfl (Or.inl rfl) (@pe_op _ _ _ _ _ _ _ _ yb4 (@pe_op _ _ _ _ _ _ _ _ zi4 (pv 0) (pv 2)) za6) (by rfl) (by first | exact .inl rfl | exact .inr rfl))
  (@za3 _ _ _ _ _ (@zc1 _ _ 3 _ _ _ _ sc__law_spread.nd rfl (Or.inl rfl) (@pe_op _ _ _ _ _ _ _ _ (zh4 (K := K) rfl) (pv 3) (@pe_op _ _ _ _ _ _ _ _ yb4 (@pe_op _ _ _ _ _ _ _ _ yb4 (pv 1) (pv 1)) za6)) (by rfl) (by first | exact .inl rfl | exact .inr rfl))
  (@zb0 _ _ _ (@ze3 _ _ _ _ (@pe_op _ _ _ _ _ _ _ _ zi4 (@pe_op _ _ _ _ _ _ _ _ (zh4 (K := K) rfl) (pv 3) za6) (pv 2))))))), ?_⟩
 exact d_fn (n := 4) rfl (fun ρ => (zc3 (zc8 (de_op zk6 (DE.dk (de_op dr_pow (DE.dk za5) za5)) za5) za9)
  (zc3 (zc8 (de_op yf3 (DE.dk (de_op zl6 (za7 (i := 0)) (za2 (i := 2)))) za5) za9)
  (zc3 (zc8 (de_op zk6 (za7 (i := 3)) (de_op yf3 (DE.dk (de_op yf3 (za7 (i := 1)) (za2 (i := 1)))) za5)) za9)
  (ze9 (de_op zl6 (DE.dk (de_op zk6 (za7 (i := 3)) za5)) (za2 (i := 2)))))))) h
end
theorem sc__law_expression : FnScope ["_law_number", "_law_names_here", "_law_own", "_law_deep", "_law_told", "_law_rest", "_law_k", "_law_kind", "_law_other", "_law_word"] ["_law_number", "_law_names_here", "_law_own"] (zb1 ze5) := ⟨rfl, rfl, rfl, by decide +kernel, rfl, by decide +kernel, by decide +kernel⟩
section
variable {P : Program} {w : World} {K : PySem.W.Frag} {mg : Str → Option Value} {base : Heap} {cl : Str → Addr}
set_option maxHeartbeats 4000000 in
theorem ok__law_expression {f : Addr} {fd : FuncData} (F : Fun K "_law_expression" "_law_expression" ze5 f fd) {f__law_leaf : Addr} {fd__law_leaf : FuncData} (d__law_leaf : Df K mg "_law_leaf" zi6 ["_law_number", "_law_names_here", "_law_own"] f__law_leaf fd__law_leaf) (G__law_leaf : FnOk P w K mg base CX0 1 f__law_leaf fd__law_leaf ["_law_number", "_law_names_here", "_law_own"] (spD K zf1)) {f__law_spread : Addr} {fd__law_spread : FuncData} (d__law_spread : Df K mg "_law_spread" zf7 ["_law_cell", "_law_k"] f__law_spread fd__law_spread) (G__law_spread : FnOk P w K mg base CX0 1 f__law_spread fd__law_spread ["_law_cell", "_law_k"] (spD K ze2)) {f__law_beside : Addr} {fd__law_beside : FuncData} (d__law_beside : Df K mg "_law_beside" zh3 ["_law_number", "_law_names_here", "_law_own"] f__law_beside fd__law_beside) (G__law_beside : FnOk P w K mg base CX0 2 f__law_beside fd__law_beside ["_law_number", "_law_names_here", "_law_own"] (spD K zh1)) (z_range : mg "range" = none) : FnOk P w K mg base CX0 3 f fd ["_law_number", "_law_names_here", "_law_own"] (spD K zj8) := by
 refine F.ok sc__law_expression (fun vs H Q E h => zk8 (fun ds d e => zf5 e) h) (fun cdv A outer s H vs Q E hr h => ?_)
 refine ⟨_, (@za3 _ _ _ _ _ (@zc1 _ _ 3 _ _ _ _ sc__law_expression.nd rfl (Or.inl rfl) (pe_ix (zb4 (K := K) rfl) (@ze6 _ _ _ _ (@za0 _ _ _ _ _ za6 (@za0 _ _ _ _ _ za6 (@za0 _ _ _ _ _ za6 (@za0 _ _ _ _ _ za6 (@za0 _ _ _ _ _ za6 (@za0 _ _ _ _ _ za6 (@za0 _ _ _ _ _ za6 za4 (by rfl)) (by rfl)) (by rfl)) (by rfl)) (by rfl)) (by rfl)) (by rfl))) (@pe_op _ _ _ _ _ _ _ _ zi4 (pv 0) za6) (fun _ _ => rfl)) (by rfl) (by first | exact .inl rfl | exact .inr rfl))
  (@za3 _ _ _ _ _ (yb9 (zc6 (G__law_leaf.mono (by decide)) hr rfl d__law_leaf.m d__law_leaf.fn.kp d__law_leaf.b .nil pass0 (@za0 _ _ _ _ _ (@pe_op _ _ _ _ _ _ _ _ zj3 (pv 0) za6) (@za0 _ _ _ _ _ (pv 1) (@za0 _ _ _ _ _ (pv 2) za4 (by rfl)) (by rfl)) (by rfl))) (zp1 (K := K) (n := 2) rfl rfl (ze0 (zc0 (i := 4) sc__law_expression.nd rfl (Or.inl rfl)) (ze0 (zc0 (i := 5) sc__law_expression.nd rfl (Or.inl rfl)) zp2))))
  (@za3 _ _ _ _ _ (@zl8 _ _ _ _ _ _ _ _ PassesOwn.never rfl (zu1 rfl z_range (@za0 _ _ _ _ _ (pv 3) za4 (by rfl))) (zc0 (i := 6) sc__law_expression.nd rfl (Or.inl rfl))
   (@za3 _ _ _ _ _ (@ps_if _ _ _ _ _ _ _ _ (zb8 op_lt (pv 5) (@pe_op _ _ _ _ _ _ _ _ op_pow za6 za6) (zd6 _))
   (@zb0 _ _ _ (@zc1 _ _ 5 _ _ _ _ sc__law_expression.nd rfl (Or.inl rfl) (zc6 (G__law_spread.mono (by decide)) hr rfl d__law_spread.m d__law_spread.fn.kp d__law_spread.b .nil pass0 (@za0 _ _ _ _ _ (@pe_op _ _ _ _ _ _ _ _ (zh4 (K := K) rfl) (pv 0) (pv 6)) (@za0 _ _ _ _ _ (@pe_op _ _ _ _ _ _ _ _ (zh4 (K := K) rfl) (pv 6) za6) za4 (by rfl)) (by rfl))) (by rfl) (by first | exact .inl rfl | exact .inr rfl)))
   zd0)
  (@za3 _ _ _ _ _ (@zc1 _ _ 7 _ _ _ _ sc__law_expression.nd rfl (Or.inl rfl) (@pe_op _ _ _ _ _ _ _ _ zi4 (pv 5) za6) (by rfl) (by first | exact .inl rfl | exact .inr rfl))
  (@za3 _ _ _ _ _ (@zc1 _ _ 5 _ _ _ _ sc__law_expression.nd rfl (Or.inl rfl) (@pe_op _ _ _ _ _ _ _ _ zj3 (pv 5) za6) (by rfl) (by first | exact .inl rfl | exact .inr rfl))
  (@za3 _ _ _ _ _ (@ps_if _ _ _ _ _ _ _ _ (zb8 (zg9 (K := K) rfl hr.units) (pv 7) za6 (zd6 _))
   (@za3 _ _ _ _ _ (@zc1 _ _ 4 _ _ _ _ sc__law_expression.nd rfl (Or.inl rfl) (@zb7 _ _ _ _ _ (@za0 _ _ _ _ _ zb2 (@za0 _ _ _ _ _ (pv 4) za4 (by rfl)) (by rfl))) (by rfl) (by first | exact .inl rfl | exact .inr rfl))
  (@zb0 _ _ _ ps_continue))
   zd0)
  (@za3 _ _ _ _ _ (@ps_if _ _ _ _ _ _ _ _ (PW.pt (ye5 (zb8 (zg9 (K := K) rfl hr.units) (pv 3) za6 (zd6 _)) (zz5 (zb8 (zg9 (K := K) rfl hr.units) (pv 6) za6 (zd6 _)))))
   (@zb0 _ _ _ (yb9 (zc6 (G__law_leaf.mono (by decide)) hr rfl d__law_leaf.m d__law_leaf.fn.kp d__law_leaf.b .nil pass0 (@za0 _ _ _ _ _ (pv 5) (@za0 _ _ _ _ _ (pv 1) (@za0 _ _ _ _ _ (pv 2) za4 (by rfl)) (by rfl)) (by rfl))) (zp1 (K := K) (n := 2) rfl rfl (ze0 (zc0 (i := 8) sc__law_expression.nd rfl (Or.inl rfl)) (ze0 (zc0 (i := 5) sc__law_expression.nd rfl (Or.inl rfl)) zp2)))))
   (@zb0 _ _ _ (yb9 (zc6 (G__law_beside.mono (by decide)) hr rfl d__law_beside.m d__law_beside.fn.kp d__law_beside.b .nil pass0 (@za0 _ _ _ _ _ (pv 5) (@za0 _ _ _ _ _ (pv 1) (@za0 _ _ _ _ _ (pv 2) za4 (by rfl)) (by rfl)) (by rfl))) (zp1 (K := K) (n := 2) rfl rfl (ze0 (zc0 (i := 8) sc__law_expression.nd rfl (Or.inl rfl)) (ze0 (zc0 (i := 5) sc__law_expression.nd rfl (Or.inl rfl)) zp2))))))
  (@za3 _ _ _ _ _ (@zc1 _ _ 9 _ _ _ _ sc__law_expression.nd rfl (Or.inl rfl) (pe_ix (zb4 (K := K) rfl) (@ze6 _ _ _ _ (@za0 _ _ _ _ _ zb2 (@za0 _ _ _ _ _ zb2 (@za0 _ _ _ _ _ zb2 (@za0 _ _ _ _ _ zb2 (@za0 _ _ _ _ _ zb2 (@za0 _ _ _ _ _ zb2 (@za0 _ _ _ _ _ zb2 za4 (by rfl)) (by rfl)) (by rfl)) (by rfl)) (by rfl)) (by rfl)) (by rfl))) (@pe_op _ _ _ _ _ _ _ _ zi4 (pv 5) za6) (fun _ _ => rfl)) (by rfl) (by first | exact .inl rfl | exact .inr rfl))
  (@za3 _ _ _ _ _ (@zc1 _ _ 5 _ _ _ _ sc__law_expression.nd rfl (Or.inl rfl) (@pe_op _ _ _ _ _ _ _ _ zj3 (pv 5) za6) (by rfl) (by first | exact .inl rfl | exact .inr rfl))
  (@zb0 _ _ _ (@ps_if _ _ _ _ _ _ _ _ (zb8 (zg9 (K := K) rfl hr.units) (pv 7) za6 (zd6 _))
   (@zb0 _ _ _ (@zc1 _ _ 4 _ _ _ _ sc__law_expression.nd rfl (Or.inl rfl) (@zb7 _ _ _ _ _ (@za0 _ _ _ _ _ (pv 9) (@za0 _ _ _ _ _ (pv 4) (@za0 _ _ _ _ _ (pv 8) za4 (by rfl)) (by rfl)) (by rfl))) (by rfl) (by first | exact .inl rfl | exact .inr rfl)))
   (@zb0 _ _ _ (@zc1 _ _ 4 _ _ _ _ sc__law_expression.nd rfl (Or.inl rfl) (@zb7 _ _ _ _ _ (@za0 _ _ _ _ _ (pv 9) (@za0 _ _ _ _ _ (pv 8) (@za0 _ _ _ _ _ (pv 4) za4 (by rfl)) (by rfl)) (by rfl))) (by rfl) (by first | exact .inl rfl | exact .inr rfl)))))))))))) (by intro _; rfl))
  (@zb0 _ _ _ (@ze3 _ _ _ _ (pv 4)))))), ?_⟩
 exact d_fn (n := 10) rfl (fun ρ => (zc3 (zc8 (de_op dr_ix (DE.dk (DO.de (zh9 (za1 za5 (za1 za5 (za1 za5 (za1 za5 (za1 za5 (za1 za5 (za1 za5 za8)))))))))) (de_op zl6 (za7 (i := 0)) za5)) za9)
  (zc3 (zc8 (ze7 (za1 (de_op zo8 (za7 (i := 0)) za5) (za1 (za2 (i := 1)) (za1 (za2 (i := 2)) za8)))) (zs5 (n := 2) (zd9 za9 (zd9 za9 zp4))))
  (zc3 (zv7 (yb3 (za1 (za2 (i := 3)) za8)) za9
   (zc3 (ds_if (zd4 db_lt (za7 (i := 5)) (DE.dk (de_op dr_pow (DE.dk za5) za5)))
   (zc8 (ze7 (za1 (de_op zk6 (za7 (i := 0)) (za2 (i := 6))) (za1 (de_op zk6 (za7 (i := 6)) za5) za8))) za9)
   zc9)
  (zc3 (zc8 (de_op zl6 (za7 (i := 5)) za5) za9)
  (zc3 (zc8 (de_op zo8 (za7 (i := 5)) za5) za9)
  (zc3 (ds_if (zd4 db_eq (za7 (i := 7)) (DE.dk za5))
   (zc3 (zc8 (zc7 (za1 zb3 (za1 (za2 (i := 4)) za8))) za9)
  ds_continue)
   zc9)
  (zc3 (ds_if (yg8 (zd4 db_eq (za7 (i := 3)) (DE.dk za5)) (zd4 db_eq (za7 (i := 6)) (DE.dk za5)))
   (zc8 (ze7 (za1 (za2 (i := 5)) (za1 (za2 (i := 1)) (za1 (za2 (i := 2)) za8)))) (zs5 (n := 2) (zd9 za9 (zd9 za9 zp4))))
   (zc8 (ze7 (za1 (za2 (i := 5)) (za1 (za2 (i := 1)) (za1 (za2 (i := 2)) za8)))) (zs5 (n := 2) (zd9 za9 (zd9 za9 zp4)))))
  (zc3 (zc8 (de_op dr_ix (DE.dk (DO.de (zh9 (za1 zb3 (za1 zb3 (za1 zb3 (za1 zb3 (za1 zb3 (za1 zb3 (za1 zb3 za8)))))))))) (de_op zl6 (za7 (i := 5)) za5)) za9)
  (zc3 (zc8 (de_op zo8 (za7 (i := 5)) za5) za9)
  (ds_if (zd4 db_eq (za7 (i := 7)) (DE.dk za5))
   (zc8 (zc7 (za1 (za2 (i := 9)) (za1 (za2 (i := 4)) (za1 (za2 (i := 8)) za8)))) za9)
   (zc8 (zc7 (za1 (za2 (i := 9)) (za1 (za2 (i := 8)) (za1 (za2 (i := 4)) za8)))) za9))))))))))
  (ze9 (za2 (i := 4))))))) h
end
theorem sc__law_whole : FnScope ["_law_found"] ["_law_found"] (zb1 zh8) := ⟨rfl, rfl, rfl, by decide +kernel, rfl, by decide +kernel, by decide +kernel⟩
section
variable {P : Program} {w : World} {K : PySem.W.Frag} {mg : Str → Option Value} {base : Heap} {cl : Str → Addr}
set_option maxHeartbeats 4000000 in
theorem ok__law_whole {f : Addr} {fd : FuncData} (F : Fun K "_law_whole" "_law_whole" zh8 f fd) (z_isinstance : mg "isinstance" = none) (z_bool : mg "bool" = none) (z_int : mg "int" = none) : FnOk P w K mg base CX0 1 f fd ["_law_found"] (spD K zm6) := by
 refine F.ok sc__law_whole (fun vs H Q E h => zk8 (fun ds d e => zf5 e) h) (fun cdv A outer s H vs Q E hr h => ?_)
 refine ⟨_, (@zb0 _ _ _ (@ze3 _ _ _ _ (pe_and (zh5 call_isiK rfl z_isinstance boot_isinstance (@za0 _ _ _ _ _ (pv 0) (@za0 _ _ _ _ _ (ya1 (v := .ty "int") rfl z_int boot_int rfl) za4 (by rfl)) (by rfl))) (yf9 (pe_not (zh5 call_isiK rfl z_isinstance boot_isinstance (@za0 _ _ _ _ _ (pv 0) (@za0 _ _ _ _ _ (ya1 (v := .ty "bool") rfl z_bool boot_bool rfl) za4 (by rfl)) (by rfl)))))))), ?_⟩
 exact d_fn (n := 1) rfl (fun ρ => (ze9 (de_and (de_isi (za2 (i := 0))) (de_not (de_isi (za2 (i := 0))))))) h
end
theorem sc__law_reason_good : FnScope ["_law_found", "_law_body", "_law_name", "_law_reason", "_law_deed", "_law_other"] ["_law_found", "_law_body", "_law_name"] (zb1 zd8) := ⟨rfl, rfl, rfl, by decide +kernel, rfl, by decide +kernel, by decide +kernel⟩
section
variable {P : Program} {w : World} {K : PySem.W.Frag} {mg : Str → Option Value} {base : Heap} {cl : Str → Addr}
set_option maxHeartbeats 4000000 in
theorem ok__law_reason_good {f : Addr} {fd : FuncData} (F : Fun K "_law_reason_good" "_law_reason_good" zd8 f fd) {f__law_whole : Addr} {fd__law_whole : FuncData} (d__law_whole : Df K mg "_law_whole" zh8 ["_law_found"] f__law_whole fd__law_whole) (G__law_whole : FnOk P w K mg base CX0 1 f__law_whole fd__law_whole ["_law_found"] (spD K zm6)) {f__law_has : Addr} {fd__law_has : FuncData} (d__law_has : Df K mg "_law_has" zk2 ["_law_told", "_law_leaf_here"] f__law_has fd__law_has) (G__law_has : FnOk P w K mg base CX0 9 f__law_has fd__law_has ["_law_told", "_law_leaf_here"] (spD K (zf0 9))) {f__law_names_in : Addr} {fd__law_names_in : FuncData} (d__law_names_in : Df K mg "_law_names_in" ze8 ["_law_told"] f__law_names_in fd__law_names_in) (G__law_names_in : FnOk P w K mg base CX0 9 f__law_names_in fd__law_names_in ["_law_told"] (spD K (ze1 9))) (z_len : mg "len" = none) (z_isinstance : mg "isinstance" = none) (z_tuple : mg "tuple" = none) : FnOk P w K mg base CX0 10 f fd ["_law_found", "_law_body", "_law_name"] (sp0 K cl zh2) := by
 refine F.ok sc__law_reason_good (fun vs H Q E h => zp0 (fun ds S r e => zj5 e) h) (fun cdv A outer s H vs Q E hr h => ?_)
 refine ⟨_, (@za3 _ _ _ _ _ (@zc1 _ _ 3 _ _ _ _ sc__law_reason_good.nd rfl (Or.inl rfl) (pe_dget hr.units1 (pv 0) (@zb7 _ _ _ _ _ (@za0 _ _ _ _ _ zb2 (@za0 _ _ _ _ _ zb2 (@za0 _ _ _ _ _ (pv 2) za4 (by rfl)) (by rfl)) (by rfl))) (fun _ _ => rfl)) (by rfl) (by first | exact .inl rfl | exact .inr rfl))
  (@za3 _ _ _ _ _ (@ps_if _ _ _ _ _ _ _ _ (PW.pt (pw_or (yg2 (yc1 (zh5 (call_isiB (K := K) rfl) rfl z_isinstance boot_isinstance (@za0 _ _ _ _ _ (pv 3) (@za0 _ _ _ _ _ (ya1 (v := .ty "tuple") rfl z_tuple boot_tuple rfl) za4 (by rfl)) (by rfl))))) (pw_or (zb8 (zx1 (K := K) rfl hr.units) (zh5 (zl5 (K := K) rfl) rfl z_len PySem.boot_len (@za0 _ _ _ _ _ (pv 3) za4 (by rfl))) za6 (zd6 _)) (zv4 (yg2 (yc1 (zc6 (G__law_whole.mono (by decide)) hr rfl d__law_whole.m d__law_whole.fn.kp d__law_whole.b .nil pass0 (@za0 _ _ _ _ _ (pe_ix (zb4 (K := K) rfl) (pv 3) za6 (fun _ _ => rfl)) za4 (by rfl)))))))))
   (@zb0 _ _ _ (@ze3 _ _ _ _ pe_bl))
   zd0)
  (@za3 _ _ _ _ _ (@ps_if _ _ _ _ _ _ _ _ (PW.pt (pw_or (zb8 op_lt (pe_ix (zb4 (K := K) rfl) (pv 3) za6 (fun _ _ => rfl)) za6 (zd6 _)) (zv4 (zb8 op_gt (pe_ix (zb4 (K := K) rfl) (pv 3) za6 (fun _ _ => rfl)) (@pe_op _ _ _ _ _ _ _ _ (zh4 (K := K) rfl) (zh5 (zl5 (K := K) rfl) rfl z_len PySem.boot_len (@za0 _ _ _ _ _ (pv 1) za4 (by rfl))) za6) (zd6 _)))))
   (@zb0 _ _ _ (@ze3 _ _ _ _ pe_bl))
   zd0)
  (@za3 _ _ _ _ _ (@zc1 _ _ 4 _ _ _ _ sc__law_reason_good.nd rfl (Or.inl rfl) (pe_ix (zb4 (K := K) rfl) (pv 1) (@pe_op _ _ _ _ _ _ _ _ ye6 (pe_ix (zb4 (K := K) rfl) (pv 3) za6 (fun _ _ => rfl)) za6) (fun _ _ => rfl)) (by rfl) (by first | exact .inl rfl | exact .inr rfl))
  (@za3 _ _ _ _ _ (@ps_if _ _ _ _ _ _ _ _ (zb8 (zx1 (K := K) rfl hr.units) (pe_ix (zb4 (K := K) rfl) (pv 4) za6 (fun _ _ => rfl)) (pv 2) (zd6 _))
   (@zb0 _ _ _ (@ze3 _ _ _ _ pe_bl))
   zd0)
  (@za3 _ _ _ _ _ (@ps_if _ _ _ _ _ _ _ _ (zb8 op_isN (pe_ix (zb4 (K := K) rfl) (pv 3) za6 (fun _ _ => rfl)) zv6 (zd6 _))
   (@zb0 _ _ _ (@ze3 _ _ _ _ (pe_or (zc6 (G__law_has.mono (by decide)) hr rfl d__law_has.m d__law_has.fn.kp d__law_has.b .nil pass0 (@za0 _ _ _ _ _ (pe_ix (zb4 (K := K) rfl) (pv 4) za6 (fun _ _ => rfl)) (@za0 _ _ _ _ _ (@zb7 _ _ _ _ _ (@za0 _ _ _ _ _ zb2 za4 (by rfl))) za4 (by rfl)) (by rfl))) (yf9 (zc6 (G__law_has.mono (by decide)) hr rfl d__law_has.m d__law_has.fn.kp d__law_has.b .nil pass0 (@za0 _ _ _ _ _ (pe_ix (zb4 (K := K) rfl) (pv 4) za6 (fun _ _ => rfl)) (@za0 _ _ _ _ _ (@zb7 _ _ _ _ _ (@za0 _ _ _ _ _ zb2 za4 (by rfl))) za4 (by rfl)) (by rfl)))))))
   zd0)
  (@za3 _ _ _ _ _ (@zl8 _ _ _ _ _ _ _ _ PassesOwn.never rfl (zi7 (K := K) rfl (zc6 (G__law_names_in.mono (by decide)) hr rfl d__law_names_in.m d__law_names_in.fn.kp d__law_names_in.b .nil pass0 (@za0 _ _ _ _ _ (pe_ix (zb4 (K := K) rfl) (pv 4) za6 (fun _ _ => rfl)) za4 (by rfl)))) (zc0 (i := 5) sc__law_reason_good.nd rfl (Or.inl rfl))
   (@zb0 _ _ _ (@ps_if _ _ _ _ _ _ _ _ (zb8 (zg9 (K := K) rfl hr.units) (pe_ix (zb4 (K := K) rfl) (pv 3) za6 (fun _ _ => rfl)) (@zb7 _ _ _ _ _ (@za0 _ _ _ _ _ zb2 (@za0 _ _ _ _ _ zb2 (@za0 _ _ _ _ _ (pv 5) za4 (by rfl)) (by rfl)) (by rfl))) (zd6 _))
   (@zb0 _ _ _ (@ze3 _ _ _ _ (pe_cmp (pc_din hr.units1 (pe_ix (zb4 (K := K) rfl) (pv 3) za6 (fun _ _ => rfl)) (pv 0)) (by first | rfl | with_unfolding_all rfl))))
   zd0)) (by intro _; rfl))
  (@zb0 _ _ _ (@ze3 _ _ _ _ pe_bl))))))))), ?_⟩
 exact s_fn0 (n := 6) rfl ((zd2 (zs6 (se_dget (zb6 fun ρ => (za2 (i := 0))) (zb6 fun ρ => (zc7 (za1 zb3 (za1 zb3 (za1 (za2 (i := 2)) za8)))))) (fun ρ => za9))
  (zd2 (zc2 fun ρ => (ds_if (dt_or (dt_not (dt_val (de_isiB (za2 (i := 3))))) (dt_or (zd4 db_ne (DE.dk (de_c1 zt2 (za7 (i := 3)))) (DE.dk za5)) (dt_not (dt_val (ze7 (za1 (de_op dr_ix (za7 (i := 3)) za5) za8))))))
   (ze9 de_bl)
   zc9))
  (zd2 (zc2 fun ρ => (ds_if (dt_or (zd4 db_lt (DE.dk (de_op dr_ix (za7 (i := 3)) za5)) (DE.dk za5)) (zd4 db_gt (DE.dk (de_op dr_ix (za7 (i := 3)) za5)) (DE.dk (de_op zk6 (DE.dk (de_c1 zt2 (za7 (i := 1)))) za5))))
   (ze9 de_bl)
   zc9))
  (zd2 (zc2 fun ρ => (zc8 (de_op dr_ix (za7 (i := 1)) (de_op yg5 (DE.dk (de_op dr_ix (za7 (i := 3)) za5)) za5)) za9))
  (zd2 (zc2 fun ρ => (ds_if (zd4 db_ne (DE.dk (de_op dr_ix (za7 (i := 4)) za5)) (za7 (i := 2)))
   (ze9 de_bl)
   zc9))
  (zd2 (zc2 fun ρ => (ds_if (zd4 db_isN (DE.dk (de_op dr_ix (za7 (i := 3)) za5)) (DE.dk zv8))
   (ze9 (de_or (ze7 (za1 (de_op dr_ix (za7 (i := 4)) za5) (za1 (zc7 (za1 zb3 za8)) za8))) (ze7 (za1 (de_op dr_ix (za7 (i := 4)) za5) (za1 (zc7 (za1 zb3 za8)) za8)))))
   zc9))
  (zd2 (zv3 (zn4 fun ρ => (zq8 (ze7 (za1 (de_op dr_ix (za7 (i := 4)) za5) za8)))) (fun ρ => za9)
   (ss_if (zm8 fun ρ => (zd4 db_eq (DE.dk (de_op dr_ix (za7 (i := 3)) za5)) (DE.dk (zc7 (za1 zb3 (za1 zb3 (za1 (za2 (i := 5)) za8)))))))
   (yi3 (se_dinV (zb6 fun ρ => (de_op dr_ix (za7 (i := 3)) za5)) (zb6 fun ρ => (za2 (i := 0)))))
   (zc2 fun ρ => zc9)))
  (zc2 fun ρ => (ze9 de_bl)))))))))) h
end
theorem sc_law : FnScope ["_law_script", "_law_names_here", "_law_own", "_law_body", "_law_cell", "_law_number", "_law_handed", "_law_found", "_law_marked_here", "_law_name"] ["_law_script"] (zb1 s_law) := ⟨rfl, rfl, rfl, by decide +kernel, rfl, by decide +kernel, by decide +kernel⟩
section
variable {P : Program} {w : World} {K : PySem.W.Frag} {mg : Str → Option Value} {base : Heap} {cl : Str → Addr}
set_option maxHeartbeats 4000000 in
theorem ok_law (hlaw : ∀ ns : List Int, ns.length ≤ 63 → ∃ S, p_law [.list (ns.map .int)] [] = some (.ok (.bool true), S)) {f : Addr} {fd : FuncData} (F : Fun K "law" "law" s_law f fd) {f__law_names : Addr} {fd__law_names : FuncData} (d__law_names : Df K mg "_law_names" zh7 ["_law_number"] f__law_names fd__law_names) (G__law_names : FnOk P w K mg base CX0 1 f__law_names fd__law_names ["_law_number"] (spD K zo4)) {f__law_spread : Addr} {fd__law_spread : FuncData} (d__law_spread : Df K mg "_law_spread" zf7 ["_law_cell", "_law_k"] f__law_spread fd__law_spread) (G__law_spread : FnOk P w K mg base CX0 1 f__law_spread fd__law_spread ["_law_cell", "_law_k"] (spD K ze2)) {f__law_cell_at : Addr} {fd__law_cell_at : FuncData} (d__law_cell_at : Df K mg "_law_cell_at" zg0 ["_law_script", "_law_k"] f__law_cell_at fd__law_cell_at) (G__law_cell_at : FnOk P w K mg base CX0 1 f__law_cell_at fd__law_cell_at ["_law_script", "_law_k"] (spD K zf2)) {f__law_expression : Addr} {fd__law_expression : FuncData} (d__law_expression : Df K mg "_law_expression" ze5 ["_law_number", "_law_names_here", "_law_own"] f__law_expression fd__law_expression) (G__law_expression : FnOk P w K mg base CX0 3 f__law_expression fd__law_expression ["_law_number", "_law_names_here", "_law_own"] (spD K zj8)) {f_marks : Addr} {fd_marks : FuncData} (d_marks : Df K mg "marks" zr1 ["program"] f_marks fd_marks) (G_marks : FnOk P w K mg base CX0 13 f_marks fd_marks ["program"] (sp0 K cl zz3)) {f__law_marked : Addr} {fd__law_marked : FuncData} (d__law_marked : Df K mg "_law_marked" zh0 ["_law_body"] f__law_marked fd__law_marked) (G__law_marked : FnOk P w K mg base CX0 10 f__law_marked fd__law_marked ["_law_body"] (sp0 K cl zn5)) {f__law_reason_good : Addr} {fd__law_reason_good : FuncData} (d__law_reason_good : Df K mg "_law_reason_good" zd8 ["_law_found", "_law_body", "_law_name"] f__law_reason_good fd__law_reason_good) (G__law_reason_good : FnOk P w K mg base CX0 10 f__law_reason_good fd__law_reason_good ["_law_found", "_law_body", "_law_name"] (sp0 K cl zh2)) (z_len : mg "len" = none) (z_list : mg "list" = none) (z_isinstance : mg "isinstance" = none) (z_dict : mg "dict" = none) : FnOk P w K mg base CX0 14 f fd ["_law_script"] (yf0 K) := by
 refine F.ok sc_law (fun vs H Q E h => ?_) (fun cdv A outer s H vs Q E hr h => ?_)
 · obtain ⟨a, ns, rfl, _⟩ := h
   rfl
 obtain ⟨a, ns, rfl, hS, h63, q⟩ := h
 obtain ⟨Sf, hl⟩ := hlaw ns h63
 refine ⟨_, (@za3 _ _ _ _ _ (@zc1 _ _ 1 _ _ _ _ sc_law.nd rfl (Or.inl rfl) (zc6 (G__law_names.mono (by decide)) hr rfl d__law_names.m d__law_names.fn.kp d__law_names.b .nil pass0 (@za0 _ _ _ _ _ (zc6 (G__law_spread.mono (by decide)) hr rfl d__law_spread.m d__law_spread.fn.kp d__law_spread.b .nil pass0 (@za0 _ _ _ _ _ (zc6 (G__law_cell_at.mono (by decide)) hr rfl d__law_cell_at.m d__law_cell_at.fn.kp d__law_cell_at.b .nil pass0 (@za0 _ _ _ _ _ (pv 0) (@za0 _ _ _ _ _ za6 za4 (by rfl)) (by rfl))) (@za0 _ _ _ _ _ za6 za4 (by rfl)) (by rfl))) za4 (by rfl))) (by rfl) (by first | exact .inl rfl | exact .inr rfl))
  (@za3 _ _ _ _ _ (@zc1 _ _ 2 _ _ _ _ sc_law.nd rfl (Or.inl rfl) (pe_ix (zb4 (K := K) rfl) (@ze6 _ _ _ _ (@za0 _ _ _ _ _ za6 (@za0 _ _ _ _ _ za6 (@za0 _ _ _ _ _ za6 (@za0 _ _ _ _ _ za6 za4 (by rfl)) (by rfl)) (by rfl)) (by rfl))) (@pe_op _ _ _ _ _ _ _ _ zi4 (zc6 (G__law_spread.mono (by decide)) hr rfl d__law_spread.m d__law_spread.fn.kp d__law_spread.b .nil pass0 (@za0 _ _ _ _ _ (zc6 (G__law_cell_at.mono (by decide)) hr rfl d__law_cell_at.m d__law_cell_at.fn.kp d__law_cell_at.b .nil pass0 (@za0 _ _ _ _ _ (pv 0) (@za0 _ _ _ _ _ za6 za4 (by rfl)) (by rfl))) (@za0 _ _ _ _ _ za6 za4 (by rfl)) (by rfl))) za6) (fun _ _ => rfl)) (by rfl) (by first | exact .inl rfl | exact .inr rfl))
  (@za3 _ _ _ _ _ (@zc1 _ _ 3 _ _ _ _ sc_law.nd rfl (Or.inl rfl) (@ze6 _ _ _ _ za4) (by rfl) (by first | exact .inl rfl | exact .inr rfl))
  (@za3 _ _ _ _ _ (@zl8 _ _ _ _ _ _ _ _ PassesOwn.never rfl (zi7 (K := K) rfl (zn1 (sl_listN (K := K) rfl) (pv 0) (zo1 za6) (zo1 za6))) (zc0 (i := 4) sc_law.nd rfl (Or.inl rfl))
   (@za3 _ _ _ _ _ (@zc1 _ _ 5 _ _ _ _ sc_law.nd rfl (Or.inl rfl) (zc6 (G__law_spread.mono (by decide)) hr rfl d__law_spread.m d__law_spread.fn.kp d__law_spread.b .nil pass0 (@za0 _ _ _ _ _ (pv 4) (@za0 _ _ _ _ _ (@pe_op _ _ _ _ _ _ _ _ (zh4 (K := K) rfl) (zh5 (zl5 (K := K) rfl) rfl z_len PySem.boot_len (@za0 _ _ _ _ _ (pv 3) za4 (by rfl))) za6) za4 (by rfl)) (by rfl))) (by rfl) (by first | exact .inl rfl | exact .inr rfl))
  (@zb0 _ _ _ (@zg6 _ _ _ _ (zv5 (K := K) rfl PySem.F.plainAttrs_list PySem.F.slot_list_append PySem.F.type_list_append zp7 (pv 3) (@za0 _ _ _ _ _ (@zb7 _ _ _ _ _ (@za0 _ _ _ _ _ zb2 (@za0 _ _ _ _ _ (@pe_op _ _ _ _ _ _ _ _ (zh4 (K := K) rfl) (zh5 (zl5 (K := K) rfl) rfl z_len PySem.boot_len (@za0 _ _ _ _ _ (pv 3) za4 (by rfl))) za6) (@za0 _ _ _ _ _ (pe_ix (zb4 (K := K) rfl) (pv 1) (@pe_op _ _ _ _ _ _ _ _ zi4 (pv 5) za6) (fun _ _ => rfl)) (@za0 _ _ _ _ _ (zc6 (G__law_expression.mono (by decide)) hr rfl d__law_expression.m d__law_expression.fn.kp d__law_expression.b .nil pass0 (@za0 _ _ _ _ _ (@pe_op _ _ _ _ _ _ _ _ zj3 (pv 5) za6) (@za0 _ _ _ _ _ (pv 1) (@za0 _ _ _ _ _ (pv 2) za4 (by rfl)) (by rfl)) (by rfl))) za4 (by rfl)) (by rfl)) (by rfl)) (by rfl))) za4 (by rfl))) (by rfl)))) (by intro _; rfl))
  (@za3 _ _ _ _ _ (@zc1 _ _ 6 _ _ _ _ sc_law.nd rfl (Or.inl rfl) (@ze6 _ _ _ _ (@za0 _ _ _ _ _ (@zb7 _ _ _ _ _ (@za0 _ _ _ _ _ zb2 (@za0 _ _ _ _ _ (@ze6 _ _ _ _ za4) (@za0 _ _ _ _ _ (pe_callTy (call_list_ofK (K := K) rfl) rfl z_list boot_list (@za0 _ _ _ _ _ (pv 3) za4 (by rfl))) (@za0 _ _ _ _ _ za6 (@za0 _ _ _ _ _ (@pe_op _ _ _ _ _ _ _ _ (zh4 (K := K) rfl) (zh5 (zl5 (K := K) rfl) rfl z_len PySem.boot_len (@za0 _ _ _ _ _ (pv 3) za4 (by rfl))) za6) za4 (by rfl)) (by rfl)) (by rfl)) (by rfl)) (by rfl))) za4 (by rfl))) (by rfl) (by first | exact .inl rfl | exact .inr rfl))
  (@za3 _ _ _ _ _ (@zc1 _ _ 7 _ _ _ _ sc_law.nd rfl (Or.inl rfl) (zc6 (G_marks.mono (by decide)) hr rfl d_marks.m d_marks.fn.kp d_marks.b .nil pass0 (@za0 _ _ _ _ _ (pv 6) za4 (by rfl))) (by rfl) (by first | exact .inl rfl | exact .inr rfl))
  (@za3 _ _ _ _ _ (@zc1 _ _ 8 _ _ _ _ sc_law.nd rfl (Or.inl rfl) (zc6 (G__law_marked.mono (by decide)) hr rfl d__law_marked.m d__law_marked.fn.kp d__law_marked.b .nil pass0 (@za0 _ _ _ _ _ (pv 3) za4 (by rfl))) (by rfl) (by first | exact .inl rfl | exact .inr rfl))
  (@za3 _ _ _ _ _ (@ps_if _ _ _ _ _ _ _ _ (zb8 (zx1 (K := K) rfl hr.units) (pv 6) (@ze6 _ _ _ _ (@za0 _ _ _ _ _ (@zb7 _ _ _ _ _ (@za0 _ _ _ _ _ zb2 (@za0 _ _ _ _ _ (@ze6 _ _ _ _ za4) (@za0 _ _ _ _ _ (pv 3) (@za0 _ _ _ _ _ za6 (@za0 _ _ _ _ _ (@pe_op _ _ _ _ _ _ _ _ (zh4 (K := K) rfl) (zh5 (zl5 (K := K) rfl) rfl z_len PySem.boot_len (@za0 _ _ _ _ _ (pv 3) za4 (by rfl))) za6) za4 (by rfl)) (by rfl)) (by rfl)) (by rfl)) (by rfl))) za4 (by rfl))) (zd6 _))
   (@zb0 _ _ _ (@ze3 _ _ _ _ pe_bl))
   zd0)
  (@za3 _ _ _ _ _ (@ps_if _ _ _ _ _ _ _ _ (PW.pt (pw_or (yg2 (yc1 (zh5 (call_isiD (K := K) rfl) rfl z_isinstance boot_isinstance (@za0 _ _ _ _ _ (pv 7) (@za0 _ _ _ _ _ (ya1 (v := .ty "dict") rfl z_dict boot_dict rfl) za4 (by rfl)) (by rfl))))) (zv4 (zb8 (r := rEqB K true) (zx1 (K := K) rfl hr.units) (zh5 call_lenDT rfl z_len PySem.boot_len (@za0 _ _ _ _ _ (pv 7) za4 (by rfl))) (zh5 (zl5 (K := K) rfl) rfl z_len PySem.boot_len (@za0 _ _ _ _ _ (pv 8) za4 (by rfl))) (zd6 _)))))
   (@zb0 _ _ _ (@ze3 _ _ _ _ pe_bl))
   zd0)
  (@za3 _ _ _ _ _ (@zl8 _ _ _ _ _ _ _ _ PassesOwn.never rfl (zi7 (K := K) rfl (pv 8)) (zc0 (i := 9) sc_law.nd rfl (Or.inl rfl))
   (@zb0 _ _ _ (@ps_if _ _ _ _ _ _ _ _ (PW.pt (pw_or (pt_cmp (pc_dnotin hr.units1 (@zb7 _ _ _ _ _ (@za0 _ _ _ _ _ zb2 (@za0 _ _ _ _ _ zb2 (@za0 _ _ _ _ _ (pv 9) za4 (by rfl)) (by rfl)) (by rfl))) (pv 7)) (by first | rfl | with_unfolding_all rfl)) (zv4 (yg2 (yc1 (zc6 (G__law_reason_good.mono (by decide)) hr rfl d__law_reason_good.m d__law_reason_good.fn.kp d__law_reason_good.b .nil pass0 (@za0 _ _ _ _ _ (pv 7) (@za0 _ _ _ _ _ (pv 3) (@za0 _ _ _ _ _ (pv 9) za4 (by rfl)) (by rfl)) (by rfl))))))))
   (@zb0 _ _ _ (@ze3 _ _ _ _ pe_bl))
   zd0)) (by intro _; rfl))
  (@zb0 _ _ _ (@ze3 _ _ _ _ pe_bl)))))))))))), ?_⟩
 exact s_fn0 (E := E) (n := 10) (cl := cl) rfl ((zd2 (zc2 fun ρ => (zc8 (ze7 (za1 (ze7 (za1 (ze7 (za1 (za2 (i := 0)) (za1 za5 za8))) (za1 za5 za8))) za8)) za9))
  (zd2 (zc2 fun ρ => (zc8 (de_op dr_ix (DE.dk (DO.de (zh9 (za1 za5 (za1 za5 (za1 za5 (za1 za5 za8))))))) (de_op zl6 (DE.dk (ze7 (za1 (ze7 (za1 (za2 (i := 0)) (za1 za5 za8))) (za1 za5 za8)))) za5)) za9))
  (zd2 (zc2 fun ρ => (yf7 (zh9 za8)))
  (zd2 (zc2 fun ρ => (zv7 (zq8 (DO.de (do_slL (za7 (i := 0)) (zl2 za5) (zl2 za5)))) za9
   (zc3 (zc8 (ze7 (za1 (za2 (i := 4)) (za1 (de_op zk6 (DE.dk (de_c1 zt2 (za7 (i := 3)))) za5) za8))) za9)
  (zx2 (zc7 (za1 zb3 (za1 (de_op zk6 (DE.dk (de_c1 zt2 (za7 (i := 3)))) za5) (za1 (de_op dr_ix (za7 (i := 1)) (de_op zl6 (za7 (i := 5)) za5)) (za1 (ze7 (za1 (de_op zo8 (za7 (i := 5)) za5) (za1 (za2 (i := 1)) (za1 (za2 (i := 2)) za8)))) za8)))))))))
  (zd2 (zc2 fun ρ => (zc8 (DO.de (zh9 (za1 (zc7 (za1 zb3 (za1 (DO.de (zh9 za8)) (za1 (DO.de (do_list (za7 (i := 3)))) (za1 za5 (za1 (de_op zk6 (DE.dk (de_c1 zt2 (za7 (i := 3)))) za5) za8)))))) za8))) za9))
  (zd2 (zs6 (zq7 (zf8 fun ρ => (za1 (za2 (i := 6)) za8))) (fun ρ => za9))
  (zd2 (ss_frz (i := 3) (zs6 (zq7 (zf8 fun ρ => (za1 (za2 (i := 3)) za8))) (fun ρ => za9)))
  (zd2 (zc2 fun ρ => (ye7 (i := 3) (ds_if (zd4 db_ne (za7 (i := 6)) (DE.dk (DO.de (zh9 (za1 (zc7 (za1 zb3 (za1 (DO.de (zh9 za8)) (za1 (za2 (i := 3)) (za1 za5 (za1 (de_op zk6 (DE.dk (de_c1 zt2 (za7 (i := 3)))) za5) za8)))))) za8)))))
   (ze9 de_bl)
   zc9)))
  (zd2 (ss_if (st_or (st_not (yh3 (se_isiD (zb6 fun ρ => (za2 (i := 7)))))) (st_eq (neg := true) (se_tlen (zb6 fun ρ => (za2 (i := 7)))) (se_len (zb6 fun ρ => (za2 (i := 8))))))
   (zc2 fun ρ => (ze9 de_bl))
   (zc2 fun ρ => zc9))
  (zd2 (ss_forL (m := 9000) (si_live (zb6 fun ρ => (za2 (i := 8)))) (fun ρ => za9)
   (ss_frz (i := 3) (ss_if (st_or (st_dnotin (zb6 fun ρ => (zc7 (za1 zb3 (za1 zb3 (za1 (za2 (i := 9)) za8))))) (zb6 fun ρ => (za2 (i := 7)))) (st_not (yh3 (zq7 (zf8 fun ρ => (za1 (za2 (i := 7)) (za1 (za2 (i := 3)) (za1 (za2 (i := 9)) za8))))))))
   (zc2 fun ρ => (ze9 de_bl))
   (zc2 fun ρ => zc9))))
  (zc2 fun ρ => (ze9 de_bl))))))))))))) ⟨[], H, [], [.list (ns.map .int)], .bool true, Sf, .refl _, sr_nil, .cons (.lst hS (.ints ns)) .nil, hl, fun v ρ' G' H' g s dv => by cases dv; exact q H'⟩
end
inductive Tr where
 | num (v : Int) | sig (k : Fin 3) | nam (x : Str) | box (t : Tr) | op (k : Fin 7) (a b : Tr)
def sgW : Fin 3 → Str
 | 0 => Str.ofString "lane" | 1 => Str.ofString "lanes" | 2 => Str.ofString "mine"
def opW : Fin 7 → Str
 | 0 => Str.ofString "+" | 1 => Str.ofString "-" | 2 => Str.ofString "*" | 3 => Str.ofString "div" | 4 => Str.ofString "rem" | 5 => Str.ofString "<" | 6 => Str.ofString "="
def tw : Tr → W
 | .num v => .tuple [.str "num", .int v]
 | .sig k => .tuple [.str (sgW k)]
 | .nam x => .tuple [.str "name", .str x]
 | .box t => .tuple [.str "box", tw t]
 | .op k a b => .tuple [.str (opW k), tw a, tw b]
def dep : Tr → Nat
 | .box t => dep t + 1
 | .op _ a b => max (dep a) (dep b) + 1
 | _ => 0
def cnt : Tr → Nat
 | .box t => cnt t + 1
 | .op _ a b => cnt a + cnt b + 1
 | _ => 1
def lvs : Tr → List Tr
 | .box t => lvs t
 | .op _ a b => lvs a ++ lvs b
 | t => [t]
theorem zq5 : ∀ t, (lvs t).length ≤ cnt t
 | .num _ => by simp [lvs, cnt]
 | .sig _ => by simp [lvs, cnt]
 | .nam _ => by simp [lvs, cnt]
 | .box t => by have := zq5 t; simp [lvs, cnt]; omega
 | .op _ a b => by have := zq5 a; have := zq5 b; simp [lvs, cnt]; omega
theorem sg1 : ∀ k, decide (sgW k = Str.ofString "num") = false := by decide +kernel
theorem sg2 : ∀ k, decide (sgW k = Str.ofString "name") = false := by decide +kernel
theorem sg3 : ∀ k, decide (sgW k = Str.ofString "box") = false := by decide +kernel
theorem sg4 : ∀ k, zv2 (.str (sgW k)) (.tuple [.str "+", .str "-", .str "*", .str "div", .str "rem", .str "<", .str "="]) = some true := by decide +kernel
theorem op1 : ∀ k, decide (opW k = Str.ofString "num") = false := by decide +kernel
theorem op2 : ∀ k, decide (opW k = Str.ofString "name") = false := by decide +kernel
theorem op3 : ∀ k, decide (opW k = Str.ofString "box") = false := by decide +kernel
theorem op4 : ∀ k, zv2 (.str (opW k)) (.tuple [.str "+", .str "-", .str "*", .str "div", .str "rem", .str "<", .str "="]) = some false := by decide +kernel
theorem nu1 : decide (Str.ofString "num" = Str.ofString "box") = false := by decide +kernel
theorem nu2 : decide (Str.ofString "num" = Str.ofString "name") = false := by decide +kernel
theorem nu4 : zv2 (.str "num") (.tuple [.str "+", .str "-", .str "*", .str "div", .str "rem", .str "<", .str "="]) = some true := by decide +kernel
theorem na1 : decide (Str.ofString "name" = Str.ofString "box") = false := by decide +kernel
theorem na2 : decide (Str.ofString "name" = Str.ofString "num") = false := by decide +kernel
theorem na4 : zv2 (.str "name") (.tuple [.str "+", .str "-", .str "*", .str "div", .str "rem", .str "<", .str "="]) = some true := by decide +kernel
theorem bx1 : decide (Str.ofString "box" = Str.ofString "num") = false := by decide +kernel
theorem bx2 : decide (Str.ofString "box" = Str.ofString "name") = false := by decide +kernel
theorem yd6 {pf : List W → Option W} {e x : W} {ds es : List W} (h : pf [x] = some (.list es)) (hz : ds.length + es.length ≤ 9000) : zj7 pf [.val e, .own ds, .val x] = some (.nx [.val e, .own (ds ++ es), .val x]) := by
 have hz := sz _ hz
 first | rfl | simp only [zj7, zt9, uD, Nat.reduceAdd, Nat.reduceSub, reduceIte, Nat.reduceEqDiff, List.replicate, h, if_pos hz]
theorem zr8 : ∀ (t : Tr) (n : Nat), dep t < n → cnt t ≤ 500 → ze4 n [tw t] = some (.list ((lvs t).map tw))
 | _, 0, h, _ => absurd h (Nat.not_lt_zero _)
 | .num v, n + 1, _, _ => by
  have z1 := sz 1 (by decide)
  first | rfl | simp only [ze4, tw, lvs, uD, Nat.reduceAdd, Nat.reduceSub, reduceIte, Nat.reduceEqDiff, List.replicate, at0, nu1, nu4, if_pos z1]
 | .sig k, n + 1, _, _ => by
  have z1 := sz 1 (by decide)
  first | rfl | simp only [ze4, tw, lvs, uD, Nat.reduceAdd, Nat.reduceSub, reduceIte, Nat.reduceEqDiff, List.replicate, at0, sg3, sg4, if_pos z1]
 | .nam x, n + 1, _, _ => by
  have z1 := sz 1 (by decide)
  first | rfl | simp only [ze4, tw, lvs, uD, Nat.reduceAdd, Nat.reduceSub, reduceIte, Nat.reduceEqDiff, List.replicate, at0, na1, na4, if_pos z1]
 | .box t, n + 1, h, hc => by
  have z0 := sz 0 (by decide)
  have ih := zr8 t n (by simp only [dep] at h; omega) (by simp only [cnt] at hc; omega)
  have l := zq5 t
  have st : ∀ e, zj7 (ze4 n) [.val e, .own [], .val (tw t)] = some (.nx [.val e, .own ([] ++ (lvs t).map tw), .val (tw t)]) := fun e => yd6 ih (by simp only [cnt] at hc; simp; omega)
  first | rfl | simp only [ze4, tw, lvs, uD, Nat.reduceAdd, Nat.reduceSub, reduceIte, Nat.reduceEqDiff, List.replicate, at0, decide_true, Bool.not_true, dSlT, cut_1, if_pos z0, zg4, st]
 | .op k a b, n + 1, h, hc => by
  have z0 := sz 0 (by decide)
  have iha := zr8 a n (by simp only [dep] at h; omega) (by simp only [cnt] at hc; omega)
  have ihb := zr8 b n (by simp only [dep] at h; omega) (by simp only [cnt] at hc; omega)
  have la := zq5 a
  have lb := zq5 b
  have s1 : ∀ e, zj7 (ze4 n) [.val e, .own [], .val (tw a)] = some (.nx [.val e, .own ([] ++ (lvs a).map tw), .val (tw a)]) := fun e => yd6 iha (by simp only [cnt] at hc; simp; omega)
  have s2 : ∀ e, zj7 (ze4 n) [.val e, .own ((lvs a).map tw), .val (tw b)] = some (.nx [.val e, .own ((lvs a).map tw ++ (lvs b).map tw), .val (tw b)]) := fun e => yd6 ihb (by simp only [cnt] at hc; simp; omega)
  first | rfl | simp only [ze4, tw, lvs, uD, Nat.reduceAdd, Nat.reduceSub, reduceIte, Nat.reduceEqDiff, List.replicate, at0, op3, op4, dSlT, cut_1, if_pos z0, zg4, s1, s2, List.map_append]
def nmL (l : List Tr) : List Str := l.filterMap fun t => match t with | .nam x => some x | _ => none
def nms (t : Tr) : List Str := nmL (lvs t)
theorem tF {f : DS → Option W} {δ : DS} {a b : Str} (h1 : f δ = some (.str a)) (h2 : decide (a = b) = false) : dCmp cEq f (dC (.str b)) δ = some false := by simp only [uD, Nat.reduceAdd, Nat.reduceSub, reduceIte, Nat.reduceEqDiff, List.replicate, h1, h2]
theorem tT {f : DS → Option W} {δ : DS} {a : Str} (h1 : f δ = some (.str a)) : dCmp cEq f (dC (.str a)) δ = some true := by simp only [uD, Nat.reduceAdd, Nat.reduceSub, reduceIte, Nat.reduceEqDiff, List.replicate, h1]
theorem sF {f : DS → Option W} {δ : DS} {a b : Str} {S : Sto} (h1 : f δ = some (.str a)) (h2 : decide (a = b) = false) : sPure (dCmp cEq f (dC (.str b))) δ S = some (.ok false, S) := zk1 (tF h1 h2)
theorem sT {f : DS → Option W} {δ : DS} {a : Str} {S : Sto} (h1 : f δ = some (.str a)) : sPure (dCmp cEq f (dC (.str a))) δ S = some (.ok true, S) := zk1 (tT h1)
theorem x0 {f : DS → Option W} {δ : DS} {w : W} {l : List W} (h : f δ = some (.tuple (w :: l))) : dOp gIx f (dC (.int (0))) δ = some w := by simp only [dOp, h, dC, Option.bind_some, gIx_t, at0]
theorem x1 {f : DS → Option W} {δ : DS} {v w : W} {l : List W} (h : f δ = some (.tuple (v :: w :: l))) : dOp gIx f (dC (.int (1))) δ = some w := by simp only [dOp, h, dC, Option.bind_some, gIx_t, at1]
theorem x2 {f : DS → Option W} {δ : DS} {u v w : W} {l : List W} (h : f δ = some (.tuple (u :: v :: w :: l))) : dOp gIx f (dC (.int (2))) δ = some w := by simp only [dOp, h, dC, Option.bind_some, gIx_t, at2]
theorem x3 {f : DS → Option W} {δ : DS} {t u v w : W} {l : List W} (h : f δ = some (.tuple (t :: u :: v :: w :: l))) : dOp gIx f (dC (.int (3))) δ = some w := by simp only [dOp, h, dC, Option.bind_some, gIx_t, at3]
theorem yh6 {f g : DS → Option Out} {δ : DS} {d : W} (h : f δ = some (.rt d)) : dsSeq f g δ = some (.rt d) := by unfold dsSeq; rw [h]
theorem iF {f : DS → Option W} {δ : DS} {a b : Str} {g k : DS → Option Out} (h1 : f δ = some (.str a)) (h2 : decide (a = b) = false) : dsSeq (dsIf (dCmp cEq f (dC (.str b))) g dsNext) k δ = k δ := zb9 (zg8 (b := false) (tF h1 h2) rfl) rfl
theorem iT {f : DS → Option W} {δ : DS} {a : Str} {d : W} {g k : DS → Option Out} (h1 : f δ = some (.str a)) (h2 : g δ = some (.rt d)) : dsSeq (dsIf (dCmp cEq f (dC (.str a))) g dsNext) k δ = some (.rt d) := yh6 (zg8 (b := true) (tT h1) h2)
theorem cF {f : DS → Option W} {δ : DS} {a b : Str} {S : Sto} {g k : DS → Sto → SO} (h1 : f δ = some (.str a)) (h2 : decide (a = b) = false) : ssSeq (ssIf (sPure (dCmp cEq f (dC (.str b)))) g (ssPure dsNext)) k δ S = k δ S := zb5 ((zr3 (sF h1 h2)).trans rfl)
theorem fF {f : DS → Option W} {δ : DS} {a b : Str} {S : Sto} {g k : DS → Sto → SO} (h1 : f δ = some (.str a)) (h2 : decide (a = b) = false) : ssIf (sPure (dCmp cEq f (dC (.str b)))) g k δ S = k δ S := zr3 (sF h1 h2)
theorem fT {f : DS → Option W} {δ : DS} {a : Str} {S : Sto} {g k : DS → Sto → SO} (h1 : f δ = some (.str a)) : ssIf (sPure (dCmp cEq f (dC (.str a)))) g k δ S = g δ S := yc3 (sT h1)
def stW (k : Int) (p : Str × Tr) : W := .tuple [.str "set", .int k, .str p.1, tw p.2]
def bodyW : Int → List (Str × Tr) → List W
 | _, [] => []
 | k, p :: ps => stW k p :: bodyW (k + 1) ps
def plW (s : W) : W := .tuple [s, .tuple []]
theorem qs : decide (Str.ofString "set" = Str.ofString "while") = false ∧ decide (Str.ofString "set" = Str.ofString "if") = false ∧ decide (Str.ofString "set" = Str.ofString "return") = false ∧ decide (Str.ofString "set" = Str.ofString "call") = false ∧ decide (Str.ofString "set" = Str.ofString "join") = false := by decide +kernel
theorem qi : cIn (.str "set") (.tuple [.str "set", .str "call", .str "join"]) = some true ∧ cIn (.str "set") (.tuple [.str "break", .str "again"]) = some false ∧ cIn (.str "set") (.tuple [.str "if", .str "while"]) = some false := by decide +kernel
theorem bodies_run (k : Int) (p : Str × Tr) : zo3 [stW k p] = some (.list []) := by
 have z0 := sz 0 (by decide)
 exact zj9 rfl ((iF (x0 rfl) qs.1).trans ((iF (x0 rfl) qs.2.1).trans (zs9 (by simp only [uD, Nat.reduceAdd, Nat.reduceSub, reduceIte, Nat.reduceEqDiff, List.replicate, if_pos z0]))))
theorem given_run (k : Int) (p : Str × Tr) : zp9 [stW k p] = some (.str p.1) := by
 have z3 := sz 3 (by decide)
 simp only [zp9, stW, uD, Nat.reduceAdd, Nat.reduceSub, reduceIte, Nat.reduceEqDiff, List.replicate, at0, at2, qi, if_pos z3]
theorem zu4 : ∀ (ps : List (Str × Tr)) (k : Int), (bodyW k ps).length = ps.length
 | [], _ => rfl
 | p :: ps, k => by simp [bodyW, zu4 ps]
theorem pl_loop (pf : List W → Option W) : ∀ (ts : List (Str × Tr)) (k : Int) (s0 s1 : Sl) (acc : List W) (s4 s5 : Sl), acc.length + ts.length ≤ 900 → ∃ s4', zg4 (dgName 4) (zr5 pf) (bodyW k ts) [s0, s1, .val (.tuple []), .own acc, s4, s5] = some (.nx [s0, s1, .val (.tuple []), .own (acc ++ (bodyW k ts).map plW), s4', s5])
 | [], k, s0, s1, acc, s4, s5, _ => ⟨s4, by simp [bodyW, zg4]⟩
 | t :: ts, k, s0, s1, acc, s4, s5, h => by
  have hl : acc.length < sizeLine := Nat.lt_of_lt_of_le (by simp at h; omega) (sz 9000 (by decide))
  have z2 := sz 2 (by decide)
  obtain ⟨s4', e⟩ := pl_loop pf ts (k + 1) s0 s1 (acc ++ [plW (stW k t)]) (.val (stW k t)) s5 (by simp at h ⊢; omega)
  have st : zr5 pf [s0, s1, .val (.tuple []), .own acc, .val (stW k t), s5] = some (.nx [s0, s1, .val (.tuple []), .own (acc ++ [plW (stW k t)]), .val (stW k t), s5]) := by
   simp only [zr5, uD, Nat.reduceAdd, Nat.reduceSub, reduceIte, Nat.reduceEqDiff, List.replicate, bodies_run, zg4, if_pos hl, if_pos z2, plW]
  refine ⟨s4', ?_⟩
  simp only [bodyW, zg4, uD, Nat.reduceAdd, Nat.reduceSub, reduceIte, Nat.reduceEqDiff, List.replicate, st, e]
  simp
theorem placed_run (ts : List (Str × Tr)) (k : Int) (h : ts.length ≤ 900) : zo7 8 [.list (bodyW k ts), .none] = some (.list ((bodyW k ts).map plW)) := by
 have z0 := sz 0 (by decide)
 obtain ⟨s4', e⟩ := pl_loop (zo7 7) ts k (.val (.list (bodyW k ts))) (.val .none) [] .no .no (by simpa using h)
 show bodyD 2 6 _ _ = _
 refine zj9 rfl ?_
 refine zb9 (δ1 := [.val (.list (bodyW k ts)), .val .none, .val (.tuple []), .no, .no, .no]) (by simp only [uD, Nat.reduceAdd, Nat.reduceSub, reduceIte, Nat.reduceEqDiff, List.replicate, if_pos z0]) ?_
 refine zb9 (δ1 := [.val (.list (bodyW k ts)), .val .none, .val (.tuple []), .own [], .no, .no]) (by simp only [uD, Nat.reduceAdd, Nat.reduceSub, reduceIte, Nat.reduceEqDiff, List.replicate, if_pos z0]) ?_
 refine zb9 (zs8 (ds := bodyW k ts) (by simp only [uD, Nat.reduceAdd, Nat.reduceSub, reduceIte, Nat.reduceEqDiff, List.replicate]) e) ?_
 simp only [uD, Nat.reduceAdd, Nat.reduceSub, reduceIte, Nat.reduceEqDiff, List.replicate, List.nil_append]
def mnW : W := .str "main"
def nkW (y : Str) : W := .tuple [.str "name", mnW, .str y]
theorem way_run : zt4 [mnW, .tuple []] = some (.list [.tuple [.str "def", mnW]]) := by
 have z0 := sz 0 (by decide)
 have z1 := sz 1 (by decide)
 have z2 := sz 2 (by decide)
 have ga : gAdd (.list [.tuple [.str "def", mnW]]) (.list []) = some (.list [.tuple [.str "def", mnW]]) := by rw [yg1 (sz _ (by simp))]; rfl
 simp only [zt4, zk4, uD, Nat.reduceAdd, Nat.reduceSub, reduceIte, Nat.reduceEqDiff, List.replicate, if_pos z0, if_pos z1, if_pos z2, ga]
def lfP : Tr → PyData
 | .num v => .tuple [.str "num", .int v]
 | .sig k => .tuple [.str (sgW k)]
 | .nam x => .tuple [.str "name", .str x]
 | _ => .none
def isL : Tr → Bool
 | .num _ => true
 | .sig _ => true
 | .nam _ => true
 | _ => false
def isSg (j : Fin 3) : Tr → Bool
 | .sig k => k == j
 | _ => false
theorem zw5 : ∀ (t : Tr), ∀ l ∈ lvs t, isL l = true
 | .num _, l, h => by rw [List.mem_singleton.mp h]; rfl
 | .sig _, l, h => by rw [List.mem_singleton.mp h]; rfl
 | .nam _, l, h => by rw [List.mem_singleton.mp h]; rfl
 | .box t, l, h => zw5 t l h
 | .op _ a b, l, h => by
  rcases List.mem_append.mp h with h | h
  · exact zw5 a l h
  · exact zw5 b l h
theorem py_l {t : Tr} (h : isL t = true) : (tw t).py = some (lfP t) := by
 cases t with
 | num v => rfl
 | sig k => rfl
 | nam x => rfl
 | _ => cases h
theorem pys_l : ∀ (l : List Tr), (∀ t ∈ l, isL t = true) → W.pys (l.map tw) = some (l.map lfP)
 | [], _ => rfl
 | t :: l, h => by
  have ih := pys_l l fun u hu => h u (by simp [hu])
  simp only [List.map_cons, W.pys, py_l (h t (by simp)), ih, Option.bind_some, Option.map_some]
def okL (t : Tr) : Prop := ∀ x, t = .nam x → PyData.strOk x = true
theorem sgOk : ∀ k : Fin 3, PyData.strOk (sgW k) = true := by decide +kernel
theorem nuOk : PyData.strOk (Str.ofString "num") = true ∧ PyData.strOk (Str.ofString "name") = true := by decide +kernel
theorem lay_l {t : Tr} (h : isL t = true) (o : okL t) : (lfP t).canLay0 = true := by
 cases t with
 | num v => simp [lfP, PyData.canLay0, PyData.canLayAll0, nuOk]
 | sig k => simp [lfP, PyData.canLay0, PyData.canLayAll0, sgOk]
 | nam x => simp [lfP, PyData.canLay0, PyData.canLayAll0, nuOk, o x rfl]
 | _ => cases h
theorem lays_l : ∀ (l : List Tr), (∀ t ∈ l, isL t = true ∧ okL t) → PyData.canLayAll0 (l.map lfP) = true
 | [], _ => rfl
 | t :: l, h => by
  have ih := lays_l l fun u hu => h u (by simp [hu])
  have := lay_l (h t (by simp)).1 (h t (by simp)).2
  simp [PyData.canLayAll0, ih, this]
theorem sgq : ∀ j k : Fin 3, (sgW k == sgW j) = (k == j) := by decide +kernel
theorem eq_l {t : Tr} (h : isL t = true) (j : Fin 3) : PyData.eqv (lfP t) (.tuple [.str (sgW j)]) = isSg j t := by
 cases t with
 | num v => simp [lfP, isSg, PyData.eqv, PyData.eqvAll]
 | sig k => simpa [lfP, isSg, PyData.eqv, PyData.eqvAll] using sgq j k
 | nam x => simp [lfP, isSg, PyData.eqv, PyData.eqvAll]
 | _ => cases h
theorem any_l (j : Fin 3) : ∀ (l : List Tr), (∀ t ∈ l, isL t = true) → ((l.map lfP).any fun y => PyData.eqv y (.tuple [.str (sgW j)])) = l.any (isSg j)
 | [], _ => rfl
 | t :: l, h => by
  rw [List.map_cons, List.any_cons, List.any_cons, eq_l (h t (by simp)), any_l j l fun u hu => h u (by simp [hu])]
theorem in_sg (j : Fin 3) (l : List Tr) (h : ∀ t ∈ l, isL t = true ∧ okL t) : cInA (.tuple [.str (sgW j)]) (.list (l.map tw)) = some (l.any (isSg j)) := by
 have c1 : cIn (.tuple [.str (sgW j)]) (.list (l.map tw)) = none := rfl
 have c2 : (PyData.tuple [.str (sgW j)]).canLay0 = true := by simp [PyData.canLay0, PyData.canLayAll0, sgOk]
 have c3 : (PyData.tuple [.str (sgW j)]).depth ≤ 60 := by simp [PyData.depth, PyData.depthAll]
 have p1 : (W.tuple [.str (sgW j)]).py = some (.tuple [.str (sgW j)]) := rfl
 simp only [cInA, c1, ya2, Option.bind_some, p1, pys_l l fun t ht => (h t ht).1, c2, lays_l l h, c3, decide_true, Bool.and_self, if_true, any_l j l fun t ht => (h t ht).1]
def own (t : Tr) : Bool := (lvs t).any (isSg 0) || (lvs t).any (isSg 2)
def cs (t : Tr) : List W := if own t = true then [.none] else (nms t).map nkW
def okN (t : Tr) : Prop := ∀ x ∈ nms t, PyData.strOk x = true
theorem okL_of {t : Tr} (h : okN t) : ∀ l ∈ lvs t, isL l = true ∧ okL l := fun l hl => ⟨zw5 t l hl, fun x e => h x (by subst e; exact List.mem_filterMap.mpr ⟨_, hl, rfl⟩)⟩
theorem nk_run : ∀ (l : List Tr), zk4 (dgName 1) (dCmp cEq (dOp gIx (dPk 1) (dC (.int (0)))) (dC (.str "name"))) (dTup (dCons (dC (.str "name")) (dCons (dVar 0) (dCons (dOp gIx (dPk 1) (dC (.int (1)))) dNil)))) [.val mnW, .no] (l.map tw) = some ((nmL l).map nkW)
 | [] => rfl
 | t :: l => by
  have ih := nk_run l
  have z3 := sz 3 (by decide)
  cases t with
  | num v => simp only [List.map_cons, zk4, tw, uD, Nat.reduceAdd, Nat.reduceSub, reduceIte, Nat.reduceEqDiff, List.replicate, at0, nu2, ih]; simp [nmL]
  | sig k => simp only [List.map_cons, zk4, tw, uD, Nat.reduceAdd, Nat.reduceSub, reduceIte, Nat.reduceEqDiff, List.replicate, at0, sg2, ih]; simp [nmL]
  | nam x => simp only [List.map_cons, zk4, tw, uD, Nat.reduceAdd, Nat.reduceSub, reduceIte, Nat.reduceEqDiff, List.replicate, at0, at1, decide_true, if_pos z3, ih]; simp [nmL, nkW]
  | box t => simp only [List.map_cons, zk4, tw, uD, Nat.reduceAdd, Nat.reduceSub, reduceIte, Nat.reduceEqDiff, List.replicate, at0, bx2, ih]; simp [nmL]
  | op k a b => simp only [List.map_cons, zk4, tw, uD, Nat.reduceAdd, Nat.reduceSub, reduceIte, Nat.reduceEqDiff, List.replicate, at0, op2, ih]; simp [nmL]
theorem causes_run (t : Tr) (hd : dep t < 9) (hc : cnt t ≤ 300) (ho : okN t) : zi2 [mnW, tw t] = some (.list (cs t)) := by
 have z1 := sz 1 (by decide)
 have lv := zr8 t 9 hd (by omega)
 have zl : ((lvs t).map tw).length ≤ sizeLine := sz _ (by have := zq5 t; simp; omega)
 have i0 : cInA (.tuple [.str "lane"]) (.list ((lvs t).map tw)) = some ((lvs t).any (isSg 0)) := in_sg 0 (lvs t) (okL_of ho)
 have i2 : cInA (.tuple [.str "mine"]) (.list ((lvs t).map tw)) = some ((lvs t).any (isSg 2)) := in_sg 2 (lvs t) (okL_of ho)
 have nk := nk_run (lvs t)
 refine zj9 rfl ?_
 refine zb9 (δ1 := [.val mnW, .val (tw t), .val (.list ((lvs t).map tw)), .no]) (by simp only [uD, Nat.reduceAdd, Nat.reduceSub, reduceIte, Nat.reduceEqDiff, List.replicate, startD, lv]) ?_
 refine zb9 (δ1 := [.val mnW, .val (tw t), .val (.list ((lvs t).map tw)), .val (.list ((nms t).map nkW))]) (zi9 (d := .list ((nms t).map nkW)) ?_ rfl) (zs9 ?_)
 · simp only [uD, Nat.reduceAdd, Nat.reduceSub, reduceIte, Nat.reduceEqDiff, List.replicate, if_pos zl]
   rw [nk]
   rfl
 · have t1 : dOr (dCmp cInA (dTup (dCons (dC (.str "lane")) dNil)) (dPk 2)) (dCmp cInA (dTup (dCons (dC (.str "mine")) dNil)) (dPk 2)) [.val mnW, .val (tw t), .val (.list ((lvs t).map tw)), .val (.list ((nms t).map nkW))] = some (own t) := by
    unfold own
    cases h0 : (lvs t).any (isSg 0) with
    | true => simp only [uD, Nat.reduceAdd, Nat.reduceSub, reduceIte, Nat.reduceEqDiff, List.replicate, if_pos z1, i0, h0, Bool.true_or]
    | false => simp only [uD, Nat.reduceAdd, Nat.reduceSub, reduceIte, Nat.reduceEqDiff, List.replicate, if_pos z1, i0, i2, h0, Bool.false_or]
   unfold cs
   cases hw : own t with
   | true => rw [hw] at t1; simp only [dIf, t1]; simp only [uD, Nat.reduceAdd, Nat.reduceSub, reduceIte, Nat.reduceEqDiff, List.replicate, if_pos z1]
   | false => rw [hw] at t1; simp only [dIf, t1]; simp only [uD, Nat.reduceAdd, Nat.reduceSub, reduceIte, Nat.reduceEqDiff, List.replicate]
theorem ddefN_of {fo fk fx : DS → Sto → SM W} {δ : DS} {S S3 : Sto} {d : Nat} {kvs : List (List Key × W)} {y z : W} {k : List Key} (h1 : fo δ S = some (.ok (.ref d), S)) (hd : S[d]? = some (.dN kvs)) (h2 : fk δ S = some (.ok y, S)) (h3 : fx δ S = some (.ok z, S3)) (hd3 : S3[d]? = some (.dN kvs)) (hk : keyN y = some k) (hl : kvs.length < 9000) :
 yg4 fo fk fx δ S = match valW kvs k with
  | some v => some (.ok v, S3)
  | none => some (.ok z, S3.set d (.dN (putKW kvs k z))) := by
 have a1 : dnAt (.ref d) S = some (d, kvs) := by simp [dnAt, obAt, hd]
 have a3 : dnAt (.ref d) S3 = some (d, kvs) := by simp [dnAt, obAt, hd3]
 have hz : kvs.length < sizeLine := Nat.lt_of_lt_of_le hl (sz 9000 (by decide))
 simp only [yg4, h1, sBind, a1, Option.isSome_some, if_true, h2, h3, a3, Option.bind_some, hk, if_pos hz]
 all_goals (cases valW kvs k <;> rfl)
theorem append_at {fo : DS → Sto → SM W} {fv : DS → Sto → SM W} {δ : DS} {S S1 : Sto} {l : Nat} {q : List W} {d : W} (h1 : fo δ S = some (.ok (.ref l), S1)) (h2 : S1[l]? = some (.lst q)) (h3 : fv δ S1 = some (.ok d, S1)) (h4 : q.length < 9000) : zo5 fo fv δ S = some (.nx δ, S1.set l (.lst (q ++ [d]))) := by
 have hz : q.length < sizeLine := Nat.lt_of_lt_of_le h4 (sz 9000 (by decide))
 simp only [zo5, h1, soB, zt7 h2, Option.isSome_some, if_true, h3, Option.bind_some, if_pos hz, Option.map_some]
def ents (E : List (List Key × W)) (k : List Key) : List W := (E.filter fun e => decide (e.1 = k)).map (·.2)
theorem zq9 (E : List (List Key × W)) (k q : List Key) (x : W) : ents (E ++ [(k, x)]) q = if q = k then ents E q ++ [x] else ents E q := by
 unfold ents
 rw [List.filter_append, List.map_append]
 by_cases h : q = k
 · subst h; simp
 · have h' : ¬ k = q := fun z => h z.symm
   simp [h, h']
theorem ents_len (E : List (List Key × W)) (k : List Key) : (ents E k).length ≤ E.length := by
 unfold ents
 rw [List.length_map]
 exact List.length_filter_le _ _
structure LK (S : Sto) (I d : Nat) (kvs : List (List Key × W)) (E : List (List Key × W)) : Prop where
 hI : S[I]? = some (.ins (Str.ofString "Links") [(Str.ofString "behind", .ref d)])
 hd : S[d]? = some (.dN kvs)
 hl : kvs.length ≤ E.length
 nn : ∀ k, valW kvs k = none → ents E k = []
 ss : ∀ k v, valW kvs k = some v → ∃ l, v = .ref l ∧ S[l]? = some (.lst (ents E k))
 one : ∀ k k' l, valW kvs k = some (.ref l) → valW kvs k' = some (.ref l) → k = k'
theorem insL {S : Sto} {I : Nat} {fs : List (Str × W)} (h : S[I]? = some (.ins (Str.ofString "Links") fs)) : insAt (Str.ofString "Links") (.ref I) S = some (I, fs) := by simp [insAt, obAt, h]
theorem fld_b (d : Nat) : List.lookup (Str.ofString "behind") [(Str.ofString "behind", W.ref d)] = some (.ref d) := by simp [List.lookup]
theorem add_step {S : Sto} {I d : Nat} {kvs E : List (List Key × W)} (h : LK S I d kvs E) (s1 : Sl) (key line c : W) (k : List Key) (hk : keyN c = some k) (hE : E.length < 8000) : ∃ S' kvs', zq2 [.val (.ref I), s1, .val key, .val line, .val c] S = some (.nx [.val (.ref I), s1, .val key, .val line, .val c], S') ∧ LK S' I d kvs' (E ++ [(k, .tuple [key, line])]) := by
 have z0 := sz 0 (by decide)
 have z2 := sz 2 (by decide)
 let δ : DS := [.val (.ref I), s1, .val key, .val line, .val c]
 have hlt : d < S.length := (List.getElem?_eq_some_iff.mp h.hd).1
 have f1 : sFldR "Links" "behind" (sPure (dVar 0)) δ S = some (.ok (.ref d), S) := by simp only [δ, uS, uD, Nat.reduceAdd, Nat.reduceSub, reduceIte, Nat.reduceEqDiff, List.replicate, insL h.hI, fld_b]
 have f3 : sLstS (sPure dNil) δ S = some (.ok (.ref S.length), S ++ [.lst []]) := by simp only [δ, uS, uD, Nat.reduceAdd, Nat.reduceSub, reduceIte, Nat.reduceEqDiff, List.replicate, if_pos z0]
 have dd := ddefN_of (fk := sPure (dVar 4)) f1 h.hd rfl f3 (zj2 h.hd) hk (by have := h.hl; omega)
 have tv : ∀ S1, sPure (dTup (dCons (dVar 2) (dCons (dVar 3) dNil))) δ S1 = some (.ok (.tuple [key, line]), S1) := fun S1 => by simp only [δ, uS, uD, Nat.reduceAdd, Nat.reduceSub, reduceIte, Nat.reduceEqDiff, List.replicate, if_pos z2]
 have el := ents_len E k
 cases hv : valW kvs k with
 | some v =>
  obtain ⟨l, rfl, hl⟩ := h.ss k v hv
  rw [hv] at dd
  refine ⟨_, kvs, append_at dd (zj2 hl) (tv _) (by omega), ?_⟩
  have hne : ∀ {m o}, S[m]? = some o → o ≠ .lst (ents E k) → l ≠ m := fun hm ho => zj4 hl hm fun z => ho z.symm
  refine ⟨set_ne' (zj2 h.hI) (hne h.hI (by simp)), set_ne' (zj2 h.hd) (hne h.hd (by simp)), by have := h.hl; simp; omega, fun q hq => ?_, fun q w hq => ?_, h.one⟩
  · have : q ≠ k := fun z => by subst z; rw [hv] at hq; cases hq
    rw [zq9, if_neg this]
    exact h.nn q hq
  · obtain ⟨l', rfl, hl'⟩ := h.ss q w hq
    refine ⟨l', rfl, ?_⟩
    rw [zq9]
    by_cases e : q = k
    · subst e
      rw [hv] at hq
      cases hq
      rw [if_pos rfl]
      exact set_eq' (zj2 hl)
    · rw [if_neg e]
      exact set_ne' (zj2 hl') fun z => e (h.one q k l' hq (by rw [hv, z]))
 | none =>
  rw [hv] at dd
  have pk := putKW_new (W.ref S.length) hv
  rw [pk] at dd
  have e0 := h.nn k hv
  have n1 : ((S ++ [Ob.lst []] : Sto).set d (Ob.dN (kvs ++ [(k, W.ref S.length)])))[S.length]? = some (Ob.lst []) := set_ne' (zn3 _ _) (by omega)
  have hIl : I < S.length := (List.getElem?_eq_some_iff.mp h.hI).1
  have hId : d ≠ I := zj4 h.hd h.hI (by simp)
  refine ⟨_, kvs ++ [(k, .ref S.length)], append_at dd n1 (tv _) (by simp), ?_⟩
  refine ⟨set_ne' (set_ne' (zj2 h.hI) hId) (by omega), set_ne' (set_eq' (zj2 h.hd)) (by omega), by have := h.hl; simp; omega, fun q hq => ?_, fun q w hq => ?_, fun q q' l hq hq' => ?_⟩
  · rw [zq1 kvs k q _ hv] at hq
    by_cases e : q = k
    · rw [if_pos e] at hq; cases hq
    · rw [if_neg e] at hq
      rw [zq9, if_neg e]
      exact h.nn q hq
  · rw [zq1 kvs k q _ hv] at hq
    by_cases e : q = k
    · subst e
      rw [if_pos rfl] at hq
      cases hq
      refine ⟨S.length, rfl, ?_⟩
      rw [zq9, if_pos rfl, e0]
      exact set_eq' n1
    · rw [if_neg e] at hq
      obtain ⟨l', rfl, hl'⟩ := h.ss q w hq
      have : l' < S.length := (List.getElem?_eq_some_iff.mp hl').1
      refine ⟨l', rfl, ?_⟩
      rw [zq9, if_neg e]
      exact set_ne' (set_ne' (zj2 hl') (zj4 h.hd hl' (by simp))) (by omega)
  · have lo : ∀ q, valW kvs q = some (.ref l) → l < S.length := fun q hq => by
     obtain ⟨l', e, hl'⟩ := h.ss q _ hq
     cases e
     exact (List.getElem?_eq_some_iff.mp hl').1
    rw [zq1 kvs k q _ hv] at hq
    rw [zq1 kvs k q' _ hv] at hq'
    by_cases e : q = k <;> by_cases e' : q' = k
    · rw [e, e']
    · rw [if_pos e] at hq; rw [if_neg e'] at hq'; cases hq; exact absurd (lo q' hq') (by omega)
    · rw [if_neg e] at hq; rw [if_pos e'] at hq'; cases hq'; exact absurd (lo q hq) (by omega)
    · rw [if_neg e] at hq; rw [if_neg e'] at hq'; exact h.one q q' l hq hq'
theorem add_loop {I d : Nat} (s1 : Sl) (key line : W) : ∀ (kc : List (W × List Key)) (S : Sto) (kvs E : List (List Key × W)) (s4 : Sl), (∀ p ∈ kc, keyN p.1 = some p.2) → E.length + kc.length ≤ 8000 → LK S I d kvs E → ∃ S' kvs' s4', zm9 (dgName 4) zq2 (kc.map (·.1)) [.val (.ref I), s1, .val key, .val line, s4] S = some (.nx [.val (.ref I), s1, .val key, .val line, s4'], S') ∧ LK S' I d kvs' (E ++ kc.map fun p => (p.2, .tuple [key, line]))
 | [], S, kvs, E, s4, _, _, h => ⟨S, kvs, s4, rfl, by simpa using h⟩
 | p :: kc, S, kvs, E, s4, hk, hl, h => by
  simp only [List.length_cons] at hl
  obtain ⟨S1, kvs1, e1, h1⟩ := add_step h s1 key line p.1 p.2 (hk p (by simp)) (by omega)
  obtain ⟨S', kvs', s4', e2, h2⟩ := add_loop s1 key line kc S1 kvs1 _ (.val p.1) (fun q hq => hk q (by simp [hq])) (by simp; omega) h1
  exact ⟨S', kvs', s4', (zm2 rfl e1).trans e2, by simpa using h2⟩
theorem nadd : (Str.ofString "add" == Str.ofString "behind") = false := by decide +kernel
theorem addL {I d : Nat} {S : Sto} {kvs E : List (List Key × W)} (h : LK S I d kvs E) (kc : List (W × List Key)) (hk : ∀ p ∈ kc, keyN p.1 = some p.2) (hl : E.length + kc.length ≤ 8000) (key line : W) {fo : DS → Option W} {fa : DS → Sto → SM (List W)} {δ : DS} (h1 : fo δ = some (.ref I)) (h2 : fa δ S = some (.ok [.list (kc.map (·.1)), key, line], S)) :
 ∃ S' kvs', ssExpr (sMeth "Links" "add" zd5 (sPure fo) fa) δ S = some (.nx δ, S') ∧ LK S' I d kvs' (E ++ kc.map fun p => (p.2, .tuple [key, line])) := by
 obtain ⟨S', kvs', s4', e, g⟩ := add_loop (.val (.list (kc.map (·.1)))) key line kc S kvs E .no hk hl h
 refine ⟨S', kvs', zx6 (d := .none) (sMeth_of h1 h.hI (by simp [List.lookup, nadd]) h2 ?_), g⟩
 refine (zh6 rfl).trans ((congrArg outS (?_ : _ = some (.nx [.val (.ref I), .val (.list (kc.map (·.1))), .val key, .val line, s4'], S'))).trans rfl)
 exact (zq6 (S1 := S) (ds := kc.map (·.1)) (by simp only [uS, uD, Nat.reduceAdd, Nat.reduceSub, reduceIte, Nat.reduceEqDiff, List.replicate, startD])).trans e
def dfK : List Key := [Sum.inr (Str.ofString "def"), Sum.inr (Str.ofString "main")]
def dfW : W := .tuple [.str "def", mnW]
def nkK (y : Str) : List Key := [Sum.inr (Str.ofString "name"), Sum.inr (Str.ofString "main"), Sum.inr y]
theorem key_df : keyN dfW = some dfK := rfl
theorem key_nk (y : Str) : keyN (nkW y) = some (nkK y) := rfl
def csK (t : Tr) : List (W × List Key) := if own t = true then [(.none, [])] else (nms t).map fun y => (nkW y, nkK y)
theorem csK_key (t : Tr) : ∀ p ∈ csK t, keyN p.1 = some p.2 := fun p hp => by
 unfold csK at hp
 split at hp
 · rw [List.mem_singleton.mp hp]; rfl
 · obtain ⟨y, _, rfl⟩ := List.mem_map.mp hp
   exact key_nk y
theorem csK_w (t : Tr) : (csK t).map (·.1) = cs t := by
 unfold csK cs
 split <;> simp [List.map_map]
theorem csK_len (t : Tr) : (csK t).length ≤ cnt t := by
 have h1 : (nms t).length ≤ cnt t := Nat.le_trans (List.length_filterMap_le _ _) (zq5 t)
 have h2 : 1 ≤ cnt t := by cases t <;> simp [cnt]
 unfold csK
 split <;> simp <;> omega
structure okP (p : Str × Tr) : Prop where
 d : dep p.2 < 9
 c : cnt p.2 ≤ 30
 o : okN p.2
 x : PyData.strOk p.1 = true
def eS (k : Int) (p : Str × Tr) : List (List Key × W) := (dfK, .tuple [nkW p.1, .int k]) :: (csK p.2).map fun c => (c.2, .tuple [nkW p.1, .int k])
section
variable {I d : Nat} {S : Sto} {kvs E : List (List Key × W)}
theorem way_step (h : LK S I d kvs E) (hl : E.length < 7999) (k : Int) (p : Str × Tr) : ∃ S' kvs', zr4 [.ref I, mnW, stW k p, .tuple []] S = some (.ok .none, S') ∧ LK S' I d kvs' (E ++ [(dfK, .tuple [nkW p.1, .int k])]) := by
 have z2 := sz 2 (by decide)
 have z3 := sz 3 (by decide)
 let δ : DS := [.val (.ref I), .val mnW, .val (stW k p), .val (.tuple []), .val (.list [dfW]), .val (.int k), .val (.str p.1), .no]
 obtain ⟨S', kvs', e, g⟩ := addL h [(dfW, dfK)] (by simp [key_df]) (by simp; omega) (nkW p.1) (.int k) (fo := dVar 0) (fa := (sPure (dCons (dVar 4) (dCons (dTup (dCons (dC (.str "name")) (dCons (dVar 1) (dCons (dVar 6) dNil)))) (dCons (dVar 5) dNil))))) (δ := δ) rfl (by simp only [δ, nkW, uS, uD, Nat.reduceAdd, Nat.reduceSub, reduceIte, Nat.reduceEqDiff, List.replicate, if_pos z3])
 refine ⟨S', kvs', ?_, by simpa using g⟩
 refine (zh6 rfl).trans ((congrArg outS (?_ : _ = some (.nx δ, S'))).trans rfl)
 refine (zb5 (δ' := [.val (.ref I), .val mnW, .val (stW k p), .val (.tuple []), .val (.list [dfW]), .no, .no, .no]) (S' := S) (by simp only [dfW, uS, uD, Nat.reduceAdd, Nat.reduceSub, reduceIte, Nat.reduceEqDiff, List.replicate, startD, way_run])).trans ?_
 refine (zb5 (δ' := [.val (.ref I), .val mnW, .val (stW k p), .val (.tuple []), .val (.list [dfW]), .val (.int k), .no, .no]) (S' := S) (zf3 (zi9 (x1 rfl) rfl))).trans ?_
 refine (zb5 (δ' := δ) (S' := S) (by simp only [δ, uS, uD, Nat.reduceAdd, Nat.reduceSub, reduceIte, Nat.reduceEqDiff, List.replicate, given_run])).trans ?_
 refine (zb5 ((yc3 (S1 := S) (by simp only [δ, uS, uD, Nat.reduceAdd, Nat.reduceSub, reduceIte, Nat.reduceEqDiff, List.replicate])).trans e)).trans ?_
 refine (zb5 (δ' := δ) (S' := S') ((zr3 (S1 := S') (by simp only [δ, stW, uS, uD, Nat.reduceAdd, Nat.reduceSub, reduceIte, Nat.reduceEqDiff, List.replicate, at0, qi, if_pos z2])).trans rfl)).trans ?_
 refine (cF (x0 rfl) qs.2.2.1).trans ?_
 exact (fF (x0 rfl) qs.2.2.2.1).trans rfl
theorem num_step (h : LK S I d kvs E) (k : Int) (p : Str × Tr) (hp : okP p) (hl : E.length + 100 ≤ 8000) : ∃ S' kvs', zm5 [.ref I, mnW, stW k p] S = some (.ok .none, S') ∧ LK S' I d kvs' (E ++ (csK p.2).map fun c => (c.2, .tuple [nkW p.1, .int k])) := by
 have z2 := sz 2 (by decide)
 have z3 := sz 3 (by decide)
 have cr := causes_run p.2 hp.d (by have := hp.c; omega) hp.o
 have cl := csK_len p.2
 have cc := hp.c
 let δ : DS := [.val (.ref I), .val mnW, .val (stW k p), .val (.str "set"), .val (.int k)]
 obtain ⟨S', kvs', e, g⟩ := addL h (csK p.2) (csK_key p.2) (by omega) (nkW p.1) (.int k) (fo := dVar 0) (fa := (sPure (dCons (dCall zi2 (dCons (dVar 1) (dCons (dOp gIx (dPk 2) (dC (.int (3)))) dNil))) (dCons (dTup (dCons (dC (.str "name")) (dCons (dVar 1) (dCons (dOp gIx (dPk 2) (dC (.int (2)))) dNil)))) (dCons (dVar 4) dNil))))) (δ := δ) rfl (by rw [csK_w]; simp only [δ, stW, nkW, uS, uD, Nat.reduceAdd, Nat.reduceSub, reduceIte, Nat.reduceEqDiff, List.replicate, at2, at3, cr, if_pos z3])
 refine ⟨S', kvs', ?_, g⟩
 refine (zh6 rfl).trans ((congrArg outS (?_ : _ = some (.nx δ, S'))).trans rfl)
 refine (zb5 (δ' := [.val (.ref I), .val mnW, .val (stW k p), .val (.str "set"), .no]) (S' := S) (zf3 (zi9 (x0 rfl) rfl))).trans ?_
 refine (zb5 (δ' := δ) (S' := S) (zf3 (zi9 (x1 rfl) rfl))).trans ?_
 refine (zb5 (δ' := δ) (S' := S) ((zr3 (S1 := S) (by simp only [δ, uS, uD, Nat.reduceAdd, Nat.reduceSub, reduceIte, Nat.reduceEqDiff, List.replicate, qi, if_pos z2])).trans rfl)).trans ?_
 refine (cF rfl qs.2.2.1).trans ?_
 refine (zb5 ((fT rfl).trans e)).trans ?_
 refine (zr3 (S1 := S') ?_).trans rfl
 simp only [δ, uS, uD, Nat.reduceAdd, Nat.reduceSub, reduceIte, Nat.reduceEqDiff, List.replicate, qs]
end
def allE : Int → List (Str × Tr) → List (List Key × W)
 | _, [] => []
 | k, p :: ps => eS k p ++ allE (k + 1) ps
theorem LK.push {S : Sto} {I d : Nat} {kvs E : List (List Key × W)} (h : LK S I d kvs E) (o : Ob) : LK (S ++ [o]) I d kvs E :=
 ⟨zj2 h.hI, zj2 h.hd, h.hl, h.nn, fun k v hv => by obtain ⟨l, e, hl⟩ := h.ss k v hv; exact ⟨l, e, zj2 hl⟩, h.one⟩
theorem LK.setK {S : Sto} {I d m : Nat} {kvs E : List (List Key × W)} {a b : List (Key × W)} (h : LK S I d kvs E) (hm : S[m]? = some (.dK a)) : LK (S.set m (.dK b)) I d kvs E :=
 ⟨set_ne' h.hI (zj4 hm h.hI (by simp)), set_ne' h.hd (zj4 hm h.hd (by simp)), h.hl, h.nn, fun k v hv => by obtain ⟨l, e, hl⟩ := h.ss k v hv; exact ⟨l, e, set_ne' hl (zj4 hm hl (by simp))⟩, h.one⟩
theorem eS_len (k : Int) {p : Str × Tr} (h : okP p) : (eS k p).length ≤ 31 := by
 have := csK_len p.2
 have := h.c
 simp [eS]
 omega
theorem allE_len : ∀ (ps : List (Str × Tr)) (k : Int), (∀ p ∈ ps, okP p) → (allE k ps).length ≤ 31 * ps.length
 | [], _, _ => by simp [allE]
 | p :: ps, k, h => by
  have := eS_len k (h p (by simp))
  have := allE_len ps (k + 1) fun q hq => h q (by simp [hq])
  simp [allE]
  omega
theorem ls_loop {I d : Nat} (s0 s2 s4 s5 s6 s7 : Sl) : ∀ (ps : List (Str × Tr)) (k : Int) (S : Sto) (kvs E : List (List Key × W)) (s8 s9 : Sl), (∀ p ∈ ps, okP p) → E.length + 31 * ps.length ≤ 7800 → LK S I d kvs E →
 ∃ S' kvs' s8' s9', zm9 (dgTup 2 (dgCons (dgName 8) (dgCons (dgName 9) dgNil))) b_links_of_2 ((bodyW k ps).map plW) [s0, .val (.ref I), s2, .val mnW, s4, s5, s6, s7, s8, s9] S = some (.nx [s0, .val (.ref I), s2, .val mnW, s4, s5, s6, s7, s8', s9'], S') ∧ LK S' I d kvs' (E ++ allE k ps)
 | [], k, S, kvs, E, s8, s9, _, _, h => ⟨S, kvs, s8, s9, rfl, by simpa [allE] using h⟩
 | p :: ps, k, S, kvs, E, s8, s9, hp, hl, h => by
  simp only [List.length_cons] at hl
  obtain ⟨S1, kvs1, e1, h1⟩ := way_step h (by omega) k p
  obtain ⟨S2, kvs2, e2, h2⟩ := num_step h1 k p (hp p (by simp)) (by simp; omega)
  have el := eS_len k (hp p (by simp))
  have hE : E ++ [(dfK, W.tuple [nkW p.1, .int k])] ++ (csK p.2).map (fun c => (c.2, W.tuple [nkW p.1, .int k])) = E ++ eS k p := by simp [eS]
  rw [hE] at h2
  obtain ⟨S', kvs', s8', s9', e3, h3⟩ := ls_loop s0 s2 s4 s5 s6 s7 ps (k + 1) S2 kvs2 _ (.val (stW k p)) (.val (.tuple [])) (fun q hq => hp q (by simp [hq])) (by rw [List.length_append]; omega) h2
  refine ⟨S', kvs', s8', s9', ?_, by simpa [allE] using h3⟩
  let δ : DS := [s0, .val (.ref I), s2, .val mnW, s4, s5, s6, s7, .val (stW k p), .val (.tuple [])]
  refine (zm2 (δ2 := δ) (δ' := δ) (S' := S2) rfl ?_).trans e3
  refine (zb5 (δ' := δ) (zx6 (zo6 (S1 := S) (ds := [.ref I, mnW, stW k p, .tuple []]) rfl e1))).trans ?_
  refine (zb5 (δ' := δ) (zx6 (zo6 (S1 := S1) (ds := [.ref I, mnW, stW k p]) rfl e2))).trans ?_
  exact (fF (x0 rfl) qs.2.2.2.1).trans rfl
def progW (ps : List (Str × Tr)) (last : Int) : W := .tuple [mnW, .list [], .list (bodyW 2 ps), .int 1, .int last]
def bkW : W := .tuple [.str "back", mnW]
def edges (ps : List (Str × Tr)) : List (List Key × W) := (dfK, .tuple [bkW, .int 1]) :: allE 2 ps
theorem links_run (ps : List (Str × Tr)) (last : Int) (S : Sto) (hp : ∀ p ∈ ps, okP p) (hl : ps.length ≤ 63) : ∃ S' d kvs, zr7 [.list [progW ps last]] S = some (.ok (.ref S.length), S') ∧ LK S' S.length d kvs (edges ps) := by
 have z1 := sz 1 (by decide)
 have z2 := sz 2 (by decide)
 let pr : W := .list [progW ps last]
 have i0 : zk7 [.ref S.length] (S ++ [.ins (Str.ofString "Links") []]) = some (.ok .none, (S ++ [Ob.ins (Str.ofString "Links") []] ++ [Ob.dN []] : Sto).set S.length (.ins (Str.ofString "Links") [(Str.ofString "behind", .ref (S.length + 1))])) := by
  refine (zh6 rfl).trans ((congrArg outS (?_ : _ = some (.nx [.val (.ref S.length)], _))).trans rfl)
  have := ssFld_of (c := Str.ofString "Links") (f := Str.ofString "behind") (fo := dVar 0) (fv := sDN) (δ := [.val (.ref S.length)]) (S := S ++ [.ins (Str.ofString "Links") []]) (S1 := S ++ [Ob.ins (Str.ofString "Links") []] ++ [Ob.dN []]) (d := .ref (S.length + 1)) (n := S.length) (fs := []) (by simp [sDN]) rfl (zj2 (zn3 _ _)) (by simp)
  exact this
 let S0 : Sto := (S ++ [Ob.ins (Str.ofString "Links") []] ++ [Ob.dN []] : Sto).set S.length (.ins (Str.ofString "Links") [(Str.ofString "behind", .ref (S.length + 1))])
 have h0 : LK S0 S.length (S.length + 1) [] [] := by
  have g1 : (S ++ [Ob.ins (Str.ofString "Links") []] ++ [Ob.dN []] : Sto)[S.length + 1]? = some (.dN []) := by
   have := zn3 (S ++ [Ob.ins (Str.ofString "Links") []]) (Ob.dN [])
   simpa using this
  exact ⟨set_eq' (zj2 (zn3 _ _)), set_ne' g1 (by omega), by simp, fun k _ => rfl, (fun k v hv => by cases hv), (fun k k' l hv => by cases hv)⟩
 have h1 := h0.push (.dK [])
 have hk : (S0 ++ [.dK []])[S0.length]? = some (.dK []) := zn3 _ _
 have pa : putA (.ref S0.length) (.str "main") (.list []) (S0 ++ [.dK []]) = some ((S0 ++ [Ob.dK []] : Sto).set S0.length (.dK (putKW [] (Sum.inr (Str.ofString "main")) (.list [])))) := by
  have : (0 : Nat) < sizeLine := by decide
  simp [putA, obAt, keyOf, this]
 have h2 := h1.setK (b := putKW [] (Sum.inr (Str.ofString "main")) (.list [])) hk
 let S2 : Sto := (S0 ++ [Ob.dK []] : Sto).set S0.length (.dK (putKW [] (Sum.inr (Str.ofString "main")) (.list [])))
 let δ : DS := [.val pr, .val (.ref S.length), .val (.ref S0.length), .val mnW, .val (.list []), .val (.list (bodyW 2 ps)), .val (.int 1), .val (.int last), .no, .no]
 obtain ⟨S3, kvs3, e3, h3⟩ := addL h2 [(dfW, dfK)] (by simp [key_df]) (by simp) bkW (.int 1) (fo := dVar 1) (fa := (sPure (dCons (dOwn (dLst (dCons (dTup (dCons (dC (.str "def")) (dCons (dVar 3) dNil))) dNil))) (dCons (dTup (dCons (dC (.str "back")) (dCons (dVar 3) dNil))) (dCons (dVar 6) dNil))))) (δ := δ) rfl (by simp only [δ, bkW, dfW, uS, uD, Nat.reduceAdd, Nat.reduceSub, reduceIte, Nat.reduceEqDiff, List.replicate, if_pos z1, if_pos z2])
 obtain ⟨S4, kvs4, s8, s9, e4, h4⟩ := ls_loop (.val pr) (.val (.ref S0.length)) (.val (.list [])) (.val (.list (bodyW 2 ps))) (.val (.int 1)) (.val (.int last)) ps 2 S3 kvs3 _ .no .no hp (by simp; omega) h3
 have pl := placed_run ps 2 (by omega)
 refine ⟨S4, S.length + 1, kvs4, ?_, by simpa [edges] using h4⟩
 refine (zh6 rfl).trans ((congrArg outS (?_ : _ = some (.rt (.ref S.length), S4))).trans rfl)
 refine (zb5 (δ' := [.val pr, .val (.ref S.length), .no, .no, .no, .no, .no, .no, .no, .no]) (S' := S0) (zm4 (sMake_of (S1 := S) (ds := []) rfl i0) rfl)).trans ?_
 refine (zb5 (δ' := [.val pr, .val (.ref S.length), .val (.ref S0.length), .no, .no, .no, .no, .no, .no, .no]) (S' := S0 ++ [.dK []]) (zm4 rfl rfl)).trans ?_
 refine (zb5 (δ' := δ) (S' := S2) ((zq6 (S1 := S0 ++ [.dK []]) (ds := [progW ps last]) (by simp only [pr, uS, uD, Nat.reduceAdd, Nat.reduceSub, reduceIte, Nat.reduceEqDiff, List.replicate])).trans ((zm2 (δ2 := δ) (δ' := δ) (S' := S2) rfl ?_).trans rfl))).trans ?_
 · simp only [b_links_of_1, yc5, δ, mnW, uS, uD, Nat.reduceAdd, Nat.reduceSub, reduceIte, Nat.reduceEqDiff, List.replicate, pa, S2]
 have e5 : b_links_of_3 δ S2 = some (.nx [.val pr, .val (.ref S.length), .val (.ref S0.length), .val mnW, .val (.list []), .val (.list (bodyW 2 ps)), .val (.int 1), .val (.int last), s8, s9], S4) := (zb5 e3).trans ((zq6 (S1 := S3) (ds := (bodyW 2 ps).map plW) (by simp only [δ, yi8, uS, uD, Nat.reduceAdd, Nat.reduceSub, reduceIte, Nat.reduceEqDiff, List.replicate, pl])).trans e4)
 refine (zb5 ((zq6 (S1 := S2) (ds := [progW ps last]) (by simp only [δ, pr, uS, uD, Nat.reduceAdd, Nat.reduceSub, reduceIte, Nat.reduceEqDiff, List.replicate])).trans ((zm2 (δ2 := δ) rfl e5).trans rfl))).trans ?_
 simp only [uS, uD, Nat.reduceAdd, Nat.reduceSub, reduceIte, Nat.reduceEqDiff, List.replicate]
theorem zv1 {n : Nat × Bool} {h : W → DS → Option DS} {fb : DS → Sto → SO} {es : List W} {J : Nat → DS → Sto → Prop} (look : ∀ i δ S, J i δ S → lookE S n = some es)
 (step : ∀ i x δ S, es[i]? = some x → J i δ S → ∃ δ2 δ' S', h x δ = some δ2 ∧ fb δ2 S = some (.nx δ', S') ∧ J (i + 1) δ' S') : ∀ (m i : Nat) (δ : DS) (S : Sto), es.length - i < m → i ≤ es.length → J i δ S → ∃ δ' S', zs0 n h fb m i δ S = some (.nx δ', S') ∧ J es.length δ' S'
 | 0, i, δ, S, hm, _, _ => by omega
 | m + 1, i, δ, S, hm, hi, hj => by
  have hl := look i δ S hj
  by_cases hlt : i < es.length
  · obtain ⟨δ2, δ', S', e1, e2, j2⟩ := step i es[i] δ S (List.getElem?_eq_getElem hlt) hj
    obtain ⟨δ3, S3, e3, j3⟩ := zv1 look step m (i + 1) δ' S' (by omega) (by omega) j2
    refine ⟨δ3, S3, ?_, j3⟩
    show (lookE S n).bind _ = _
    rw [hl]
    show (match es[i]? with | none => _ | some d => _) = _
    rw [List.getElem?_eq_getElem hlt]
    show (h es[i] δ).bind _ = _
    rw [e1]
    show (match fb δ2 S with | some (.nx δ', S') => _ | some (.ct δ', S') => _ | some (.bk δ', S') => _ | some (.rt d, S') => _ | some (.xc c, S') => _ | none => _) = _
    rw [e2]
    exact e3
  · have : i = es.length := by omega
    subst this
    refine ⟨δ, S, ?_, hj⟩
    show (lookE S n).bind _ = _
    rw [hl]
    show (match es[es.length]? with | none => _ | some d => _) = _
    rw [List.getElem?_eq_none (Nat.le_refl _)]
structure MK (S : Sto) (I d f q : Nat) (kvs E : List (List Key × W)) (F : List (List Key × W)) (D : List W) : Prop where
 lk : LK S I d kvs E
 hf : S[f]? = some (.dT F)
 hq : S[q]? = some (.lst D)
 nq : ∀ k l, valW kvs k = some (.ref l) → l ≠ q
theorem MK.put {S : Sto} {I d f q : Nat} {kvs E F : List (List Key × W)} {D : List W} (h : MK S I d f q kvs E F D) (F' : List (List Key × W)) : MK (S.set f (.dT F')) I d f q kvs E F' D :=
 ⟨⟨set_ne' h.lk.hI (zj4 h.hf h.lk.hI (by simp)), set_ne' h.lk.hd (zj4 h.hf h.lk.hd (by simp)), h.lk.hl, h.lk.nn, fun k v hv => by obtain ⟨l, e, hl⟩ := h.lk.ss k v hv; exact ⟨l, e, set_ne' hl (zj4 h.hf hl (by simp))⟩, h.lk.one⟩, set_eq' h.hf, set_ne' h.hq (zj4 h.hf h.hq (by simp)), h.nq⟩
theorem MK.due {S : Sto} {I d f q : Nat} {kvs E F : List (List Key × W)} {D : List W} (h : MK S I d f q kvs E F D) (D' : List W) : MK (S.set q (.lst D')) I d f q kvs E F D' :=
 ⟨⟨set_ne' h.lk.hI (zj4 h.hq h.lk.hI (by simp)), set_ne' h.lk.hd (zj4 h.hq h.lk.hd (by simp)), h.lk.hl, h.lk.nn, fun k v hv => by obtain ⟨l, rfl, hl⟩ := h.lk.ss k v hv; exact ⟨l, rfl, set_ne' hl (Ne.symm (h.nq k l hv))⟩, h.lk.one⟩, set_ne' h.hf (zj4 h.hq h.hf (by simp)), set_eq' h.hq, h.nq⟩
theorem mk_step {S : Sto} {I d f q : Nat} {kvs E F : List (List Key × W)} {D : List W} (h : MK S I d f q kvs E F D) (s0 : Sl) (c kw ln : W) (kk : List Key) (hk : zr2 kw = some kk) (hF : F.length < 8000) (hD : D.length < 8000) :
 ∃ S', zu7 [s0, .val (.ref I), .val (.ref f), .val (.ref q), .val c, .val kw, .val ln] S = some (.nx [s0, .val (.ref I), .val (.ref f), .val (.ref q), .val c, .val kw, .val ln], S') ∧ MK S' I d f q kvs E (if valW F kk = none then F ++ [(kk, .tuple [ln, c])] else F) (if valW F kk = none then D ++ [kw] else D) ∧ ∀ m x, m ≠ q → S[m]? = some (.lst x) → S'[m]? = some (.lst x) := by
 have z2 := sz 2 (by decide)
 have gk : getK (.ref f) kw S = some (valW F kk) := by simp [getK, obAt, h.hf, hk]
 cases hv : valW F kk with
 | some v =>
  refine ⟨S, ?_, by simpa using h, fun _ _ _ hm => hm⟩
  refine (zr3 (S1 := S) ?_).trans rfl
  simp only [sDIn, uS, uD, Nat.reduceAdd, Nat.reduceSub, reduceIte, Nat.reduceEqDiff, List.replicate, gk, hv, Option.isSome_some]
 | none =>
  have hz : F.length < sizeLine := Nat.lt_of_lt_of_le hF (sz 8000 (by decide))
  have pa : putA (.ref f) kw (.tuple [ln, c]) S = some (S.set f (.dT (F ++ [(kk, .tuple [ln, c])]))) := by
   rw [← putKW_new (.tuple [ln, c]) hv]
   simp [putA, obAt, h.hf, hk, hz]
  have h1 := h.put (F ++ [(kk, .tuple [ln, c])])
  refine ⟨(S.set f (.dT (F ++ [(kk, .tuple [ln, c])]))).set q (.lst (D ++ [kw])), ?_, by simpa using h1.due (D ++ [kw]), fun m x hmq hm => set_ne' (set_ne' hm (zj4 h.hf hm (by simp))) (Ne.symm hmq)⟩
  refine (yc3 (S1 := S) (by simp only [sDIn, uS, uD, Nat.reduceAdd, Nat.reduceSub, reduceIte, Nat.reduceEqDiff, List.replicate, gk, hv, Option.isSome_none])).trans ?_
  refine (zb5 (δ' := [s0, .val (.ref I), .val (.ref f), .val (.ref q), .val c, .val kw, .val ln]) (S' := S.set f (.dT (F ++ [(kk, .tuple [ln, c])]))) ?_).trans ?_
  · simp only [yc5, uS, uD, Nat.reduceAdd, Nat.reduceSub, reduceIte, Nat.reduceEqDiff, List.replicate, if_pos z2, pa]
  · exact ssAppend_of rfl h1.hq rfl (by omega)
abbrev En := W × List Key × W
def enW (e : En) : W := .tuple [e.1, e.2.2]
def stF (c : W) (st : List (List Key × W) × List W) (e : En) : List (List Key × W) × List W := (if valW st.1 e.2.1 = none then st.1 ++ [(e.2.1, .tuple [e.2.2, c])] else st.1, if valW st.1 e.2.1 = none then st.2 ++ [e.1] else st.2)
theorem stF_len (c : W) (st : List (List Key × W) × List W) (e : En) : (stF c st e).1.length ≤ st.1.length + 1 ∧ (stF c st e).2.length ≤ st.2.length + 1 := by
 unfold stF
 by_cases h : valW st.1 e.2.1 = none <;> simp [h]
theorem fold_len (c : W) : ∀ (es : List En) (st : List (List Key × W) × List W), (es.foldl (stF c) st).1.length ≤ st.1.length + es.length ∧ (es.foldl (stF c) st).2.length ≤ st.2.length + es.length
 | [], st => by simp
 | e :: es, st => by
  have h1 := stF_len c st e
  have h2 := fold_len c es (stF c st e)
  simp only [List.foldl_cons, List.length_cons]
  omega
theorem MK.push {S : Sto} {I d f q : Nat} {kvs E F : List (List Key × W)} {D : List W} (h : MK S I d f q kvs E F D) (o : Ob) : MK (S ++ [o]) I d f q kvs E F D := ⟨h.lk.push o, zj2 h.hf, zj2 h.hq, h.nq⟩
section
variable {I d f q : Nat} {kvs E : List (List Key × W)} {c : W} {k : List Key} {s0 : Sl}
theorem walk_es (l : Nat) (es : List En) (hk : ∀ e ∈ es, zr2 e.1 = some e.2.1) {S : Sto} {F : List (List Key × W)} {D : List W} (h : MK S I d f q kvs E F D) (hlq : l ≠ q) (hl : S[l]? = some (.lst (es.map enW))) (hF : F.length + es.length < 8000) (hD : D.length + es.length < 8000) (s5 s6 : Sl) :
 ∃ S' s5' s6', zs0 (l, false) (dgTup 2 (dgCons (dgName 5) (dgCons (dgName 6) dgNil))) zu7 9000 0 [s0, .val (.ref I), .val (.ref f), .val (.ref q), .val c, s5, s6] S = some (.nx [s0, .val (.ref I), .val (.ref f), .val (.ref q), .val c, s5', s6'], S') ∧ MK S' I d f q kvs E (es.foldl (stF c) (F, D)).1 (es.foldl (stF c) (F, D)).2 := by
 let J : Nat → DS → Sto → Prop := fun i δ S => ∃ s5 s6, δ = [s0, .val (.ref I), .val (.ref f), .val (.ref q), .val c, s5, s6] ∧ MK S I d f q kvs E ((es.take i).foldl (stF c) (F, D)).1 ((es.take i).foldl (stF c) (F, D)).2 ∧ S[l]? = some (.lst (es.map enW))
 have look : ∀ i δ S, J i δ S → lookE S (l, false) = some (es.map enW) := fun i δ S ⟨_, _, _, _, h3⟩ => lookE_l h3
 have step : ∀ i x δ S, (es.map enW)[i]? = some x → J i δ S → ∃ δ2 δ' S', (dgTup 2 (dgCons (dgName 5) (dgCons (dgName 6) dgNil))) x δ = some δ2 ∧ zu7 δ2 S = some (.nx δ', S') ∧ J (i + 1) δ' S' := by
  rintro i x δ S hx ⟨t5, t6, rfl, hm, h3⟩
  rw [List.getElem?_map] at hx
  obtain ⟨e, he, rfl⟩ := Option.map_eq_some_iff.mp hx
  have hi : i < es.length := (List.getElem?_eq_some_iff.mp he).1
  have fl := fold_len c (es.take i) (F, D)
  have tl : (es.take i).length ≤ i := by simp; omega
  obtain ⟨S', e1, m1, keep⟩ := mk_step hm s0 c e.1 e.2.2 e.2.1 (hk e (List.mem_of_getElem? he)) (by simp at fl; omega) (by simp at fl; omega)
  have tk : (es.take (i + 1)).foldl (stF c) (F, D) = stF c ((es.take i).foldl (stF c) (F, D)) e := by
   rw [List.take_succ, he]
   simp
  refine ⟨[s0, .val (.ref I), .val (.ref f), .val (.ref q), .val c, .val e.1, .val e.2.2], _, S', rfl, e1, _, _, rfl, by rw [tk]; exact m1, keep l _ hlq h3⟩
 obtain ⟨δ', S', e, t5, t6, rfl, hm, _⟩ := zv1 look step 9000 0 _ S (by simp; omega) (by simp) ⟨s5, s6, rfl, by simpa using h, hl⟩
 exact ⟨S', t5, t6, e, by simpa using hm⟩
end
theorem sPop_of {fo : DS → Option W} {δ : DS} {S : Sto} {l : Nat} {q : List W} {y : W} (h1 : fo δ = some (.ref l)) (h2 : S[l]? = some (.lst (q ++ [y]))) : sPop (sPure fo) δ S = some (.ok y, S.set l (.lst q)) := by
 simp [sPop, sPure, h1, sBind, zt7 h2]
theorem getN_of {fo fk fx : DS → Sto → SM W} {δ : DS} {S S3 : Sto} {d : Nat} {kvs : List (List Key × W)} {y z : W} {k : List Key} (h1 : fo δ S = some (.ok (.ref d), S)) (hd : S[d]? = some (.dN kvs)) (h2 : fk δ S = some (.ok y, S)) (h3 : fx δ S = some (.ok z, S3)) (hd3 : S3[d]? = some (.dN kvs)) (hk : keyN y = some k) : yc2 fo fk fx δ S = some (.ok ((valW kvs k).getD z), S3) := by
 have a1 : dnAt (.ref d) S = some (d, kvs) := by simp [dnAt, obAt, hd]
 have a3 : dnAt (.ref d) S3 = some (d, kvs) := by simp [dnAt, obAt, hd3]
 simp only [yc2, h1, sBind, a1, Option.isSome_some, if_true, h2, h3, a3, Option.bind_some, hk]
def edW (EE : List (List Key × En)) : List (List Key × W) := EE.map fun e => (e.1, enW e.2)
def entT (EE : List (List Key × En)) (k : List Key) : List En := (EE.filter fun e => decide (e.1 = k)).map (·.2)
theorem yc8 : ∀ (EE : List (List Key × En)) (k : List Key), ents (edW EE) k = (entT EE k).map enW
 | [], k => rfl
 | e :: EE, k => by
  have ih := yc8 EE k
  unfold ents edW entT at ih ⊢
  by_cases h : e.1 = k
  · simp [h] at ih ⊢
    exact ih
  · simp [h] at ih ⊢
    exact ih
theorem zw7 {EE : List (List Key × En)} {k : List Key} {e : En} (h : e ∈ entT EE k) : (k, e) ∈ EE := by
 obtain ⟨x, hx, rfl⟩ := List.mem_map.mp h
 obtain ⟨h1, h2⟩ := List.mem_filter.mp hx
 have : x.1 = k := by simpa using h2
 rw [← this]
 exact h1
theorem entT_len (EE : List (List Key × En)) (k : List Key) : (entT EE k).length ≤ EE.length := by
 unfold entT
 rw [List.length_map]
 exact List.length_filter_le _ _
section
variable {I d f q : Nat} {kvs : List (List Key × W)} {EE : List (List Key × En)} {s0 : Sl}
theorem turn_run (hk : ∀ e ∈ EE, zr2 e.2.1 = some e.2.2.1) (c : W) (k : List Key) (hc : keyN c = some k) {S : Sto} {F : List (List Key × W)} {D : List W} (h : MK S I d f q kvs (edW EE) F (D ++ [c])) (hF : F.length + EE.length < 8000) (hD : D.length + EE.length < 8000) (s4 s5 s6 : Sl) :
 ∃ S' s5' s6', zt3 [s0, .val (.ref I), .val (.ref f), .val (.ref q), s4, s5, s6] S = some (.nx [s0, .val (.ref I), .val (.ref f), .val (.ref q), .val c, s5', s6'], S') ∧ MK S' I d f q kvs (edW EE) ((entT EE k).foldl (stF c) (F, D)).1 ((entT EE k).foldl (stF c) (F, D)).2 := by
 have z0 := sz 0 (by decide)
 have h1 := h.due D
 let S1 : Sto := S.set q (.lst D)
 have h2 := h1.push (.lst [])
 have el := entT_len EE k
 let δ : DS := [s0, .val (.ref I), .val (.ref f), .val (.ref q), .val c, s5, s6]
 have hI1 : S1[I]? = some (.ins (Str.ofString "Links") [(Str.ofString "behind", .ref d)]) := h1.lk.hI
 have f1 : sFldR "Links" "behind" (sPure (dVar 1)) δ S1 = some (.ok (.ref d), S1) := by simp only [δ, uS, uD, Nat.reduceAdd, Nat.reduceSub, reduceIte, Nat.reduceEqDiff, List.replicate, insL hI1, fld_b]
 have f3 : sLstS (sPure dNil) δ S1 = some (.ok (.ref S1.length), S1 ++ [.lst []]) := by simp only [δ, uS, uD, Nat.reduceAdd, Nat.reduceSub, reduceIte, Nat.reduceEqDiff, List.replicate, if_pos z0]
 have gn := getN_of (fk := sPure (dVar 4)) f1 h1.lk.hd rfl f3 h2.lk.hd hc
 have hq1 : q < S1.length := (List.getElem?_eq_some_iff.mp h1.hq).1
 have key : ∃ l, (valW kvs k).getD (.ref S1.length) = .ref l ∧ l ≠ q ∧ (S1 ++ [Ob.lst []] : Sto)[l]? = some (.lst ((entT EE k).map enW)) := by
  cases hv : valW kvs k with
  | some v =>
   obtain ⟨l, rfl, hl⟩ := h2.lk.ss k v hv
   exact ⟨l, rfl, h.nq k l hv, by rw [← yc8]; exact hl⟩
  | none =>
   have e0 := h.lk.nn k hv
   rw [yc8] at e0
   exact ⟨S1.length, rfl, by omega, by rw [e0]; exact zn3 _ _⟩
 obtain ⟨l, el1, hlq, hll⟩ := key
 rw [el1] at gn
 obtain ⟨S', t5, t6, e1, m1⟩ := walk_es (c := c) (s0 := s0) l (entT EE k) (fun e he => hk _ (zw7 he)) h2 hlq hll (by omega) (by omega) s5 s6
 refine ⟨S', t5, t6, ?_, m1⟩
 refine (zb5 (δ' := δ) (S' := S1) (zm4 (sPop_of rfl h.hq) rfl)).trans ?_
 have li : siLive (yc2 (sFldR "Links" "behind" (sPure (dVar 1))) (sPure (dVar 4)) (sLstS (sPure dNil))) δ S1 = some (.ok (l, false), S1 ++ [.lst []]) := by
  simp only [siLive, gn, sBind, zt7 hll, Option.map_some]
 show soB _ _ = _
 rw [li]
 exact e1
end
structure PI (EE : List (List Key × En)) (F : List (List Key × W)) (D : List W) : Prop where
 rs : ∀ (i : Nat) (kk : List Key) (v : W), F[i]? = some (kk, v) → ∃ (c : W) (ck : List Key) (kw ln : W), v = .tuple [ln, c] ∧ keyN c = some ck ∧ (ck, (kw, kk, ln)) ∈ EE ∧ (ck = [] ∨ ∃ (j : Nat) (v' : W), j < i ∧ F[j]? = some (ck, v'))
 du : ∀ c ∈ D, ∃ ck, keyN c = some ck ∧ (ck = [] ∨ valW F ck ≠ none)
 nd : (F.map (·.1)).Nodup
def CL (EE : List (List Key × En)) (k : Option (List Key)) (F : List (List Key × W)) (D : List W) : Prop := ∀ ck, (ck = [] ∨ valW F ck ≠ none) → some ck = k ∨ (∃ c ∈ D, keyN c = some ck) ∨ ∀ e, (ck, e) ∈ EE → valW F e.2.1 ≠ none
theorem val_mem {F : List (List Key × W)} {k : List Key} (h : valW F k ≠ none) : ∃ (j : Nat) (v : W), F[j]? = some (k, v) := by
 unfold valW at h
 cases e : F.find? fun x => decide (x.1 = k) with
 | none => rw [e] at h; exact absurd rfl h
 | some y =>
  have y1 : y.1 = k := by simpa using List.find?_some e
  obtain ⟨j, hj⟩ := List.getElem?_of_mem (List.mem_of_find?_eq_some e)
  exact ⟨j, y.2, by rw [hj, ← y1]⟩
theorem zr6 {F : List (List Key × W)} {k q : List Key} {x : W} (h : valW F k = none) : valW (F ++ [(k, x)]) q ≠ none ↔ q = k ∨ valW F q ≠ none := by
 rw [zq1 F k q x h]
 by_cases e : q = k <;> simp [e]
theorem pi_step {EE : List (List Key × En)} {F : List (List Key × W)} {D : List W} {c : W} {k : List Key} (hc : keyN c = some k) (hk : k = [] ∨ valW F k ≠ none) (e : En) (he : (k, e) ∈ EE) (hw : keyN e.1 = some e.2.1) (h : PI EE F D) (cl : CL EE (some k) F D) :
 PI EE (stF c (F, D) e).1 (stF c (F, D) e).2 ∧ CL EE (some k) (stF c (F, D) e).1 (stF c (F, D) e).2 ∧ valW (stF c (F, D) e).1 e.2.1 ≠ none ∧ ∀ q, valW F q ≠ none → valW (stF c (F, D) e).1 q ≠ none := by
 unfold stF
 by_cases hv : valW F e.2.1 = none
 · simp only [hv, if_true]
   refine ⟨⟨fun i kk v hi => ?_, fun c' hc' => ?_, ?_⟩, fun ck hck => ?_, (zr6 hv).mpr (.inl rfl), fun q hq => (zr6 hv).mpr (.inr hq)⟩
   · rcases Nat.lt_or_ge i F.length with hi' | hi'
     · rw [List.getElem?_append_left hi'] at hi
       obtain ⟨c1, ck, kw, ln, h1, h2, h3, h4⟩ := h.rs i kk v hi
       exact ⟨c1, ck, kw, ln, h1, h2, h3, h4.imp id fun ⟨j, v', hj, hv'⟩ => ⟨j, v', hj, by rw [List.getElem?_append_left (by omega)]; exact hv'⟩⟩
     · have : i = F.length := by
        have := (List.getElem?_eq_some_iff.mp hi).1
        simp at this
        omega
       subst this
       simp at hi
       obtain ⟨rfl, rfl⟩ := hi
       refine ⟨c, k, e.1, e.2.2, rfl, hc, he, hk.imp id fun hk => ?_⟩
       obtain ⟨j, v', hj⟩ := val_mem hk
       have := (List.getElem?_eq_some_iff.mp hj).1
       exact ⟨j, v', this, by rw [List.getElem?_append_left this]; exact hj⟩
   · rcases List.mem_append.mp hc' with hc' | hc'
     · obtain ⟨ck, h1, h2⟩ := h.du c' hc'
       exact ⟨ck, h1, h2.imp id fun z => (zr6 hv).mpr (.inr z)⟩
     · rw [List.mem_singleton.mp hc']
       exact ⟨e.2.1, hw, .inr ((zr6 hv).mpr (.inl rfl))⟩
   · rw [List.map_append, List.nodup_append]
     refine ⟨h.nd, by simp, fun a ha b hb hab => ?_⟩
     simp at hb
     subst hab
     obtain ⟨x, hx, ex⟩ := List.mem_map.mp ha
     unfold valW at hv
     cases g : F.find? fun x => decide (x.1 = e.2.1) with
     | none => exact absurd (List.find?_eq_none.mp g x hx) (by simp [ex, hb])
     | some y => rw [g] at hv; cases hv
   · have up : (∀ e', (ck, e') ∈ EE → valW F e'.2.1 ≠ none) → ∀ e', (ck, e') ∈ EE → valW (F ++ [(e.2.1, W.tuple [e.2.2, c])]) e'.2.1 ≠ none := fun z e' he' => (zr6 hv).mpr (.inr (z e' he'))
     have old : (ck = [] ∨ valW F ck ≠ none) → some ck = some k ∨ (∃ c' ∈ D ++ [e.1], keyN c' = some ck) ∨ ∀ e', (ck, e') ∈ EE → valW (F ++ [(e.2.1, W.tuple [e.2.2, c])]) e'.2.1 ≠ none := fun z => by
      rcases cl ck z with h1 | ⟨c', hc', h2⟩ | h3
      · exact .inl h1
      · exact .inr (.inl ⟨c', by simp [hc'], h2⟩)
      · exact .inr (.inr (up h3))
     rcases hck with h0 | h1
     · exact old (.inl h0)
     · rcases (zr6 hv).mp h1 with h2 | h2
       · exact .inr (.inl ⟨e.1, by simp, by rw [h2]; exact hw⟩)
       · exact old (.inr h2)
 · simp only [hv, if_false]
   exact ⟨h, cl, hv, fun q hq => hq⟩
theorem pi_fold {EE : List (List Key × En)} {c : W} {k : List Key} (hc : keyN c = some k) : ∀ (es : List En) (F : List (List Key × W)) (D : List W), (∀ e ∈ es, (k, e) ∈ EE ∧ keyN e.1 = some e.2.1) → (k = [] ∨ valW F k ≠ none) → PI EE F D → CL EE (some k) F D →
 PI EE (es.foldl (stF c) (F, D)).1 (es.foldl (stF c) (F, D)).2 ∧ CL EE (some k) (es.foldl (stF c) (F, D)).1 (es.foldl (stF c) (F, D)).2 ∧ (∀ e ∈ es, valW (es.foldl (stF c) (F, D)).1 e.2.1 ≠ none) ∧ ∀ q, valW F q ≠ none → valW (es.foldl (stF c) (F, D)).1 q ≠ none
 | [], F, D, _, _, h, cl => ⟨h, cl, (fun e he => absurd he List.not_mem_nil), fun q hq => hq⟩
 | e :: es, F, D, he, hk, h, cl => by
  have h0 := he e (by simp)
  obtain ⟨h1, c1, v1, m1⟩ := pi_step hc hk e h0.1 h0.2 h cl
  obtain ⟨h2, c2, v2, m2⟩ := pi_fold hc es (stF c (F, D) e).1 (stF c (F, D) e).2 (fun x hx => he x (by simp [hx])) (hk.imp id (m1 k)) h1 c1
  refine ⟨h2, c2, fun x hx => ?_, fun q hq => m2 q (m1 q hq)⟩
  rcases List.mem_cons.mp hx with rfl | hx
  · exact m2 _ v1
  · exact v2 x hx
theorem entT_of {EE : List (List Key × En)} {k : List Key} {e : En} (h : (k, e) ∈ EE) : e ∈ entT EE k := List.mem_map.mpr ⟨(k, e), List.mem_filter.mpr ⟨h, by simp⟩, rfl⟩
theorem pi_turn {EE : List (List Key × En)} {F : List (List Key × W)} {D : List W} {c : W} (hw : ∀ e ∈ EE, keyN e.2.1 = some e.2.2.1) (h : PI EE F (D ++ [c])) (cl : CL EE none F (D ++ [c])) : ∃ k, keyN c = some k ∧ PI EE ((entT EE k).foldl (stF c) (F, D)).1 ((entT EE k).foldl (stF c) (F, D)).2 ∧ CL EE none ((entT EE k).foldl (stF c) (F, D)).1 ((entT EE k).foldl (stF c) (F, D)).2 := by
 obtain ⟨k, hc, hk⟩ := h.du c (by simp)
 have h' : PI EE F D := ⟨h.rs, fun c' hc' => h.du c' (by simp [hc']), h.nd⟩
 have cl' : CL EE (some k) F D := fun ck hck => by
  rcases cl ck hck with h1 | ⟨c', hc', h2⟩ | h3
  · cases h1
  · rcases List.mem_append.mp hc' with hc' | hc'
    · exact .inr (.inl ⟨c', hc', h2⟩)
    · rw [List.mem_singleton.mp hc', hc] at h2
      exact .inl h2.symm
  · exact .inr (.inr h3)
 obtain ⟨h2, c2, v2, m2⟩ := pi_fold hc (entT EE k) F D (fun e he => ⟨zw7 he, hw _ (zw7 he)⟩) hk h' cl'
 refine ⟨k, hc, h2, fun ck hck => ?_⟩
 rcases c2 ck hck with h1 | h1
 · cases h1
   exact .inr (.inr fun e he => v2 e (entT_of he))
 · exact .inr h1
def rem (EE : List (List Key × En)) (F : List (List Key × W)) : Nat := (EE.filter fun e => (valW F e.2.2.1).isNone).length
theorem filter_lt {α : Type} (p q : α → Bool) : ∀ (l : List α), (∀ x, q x = true → p x = true) → (l.filter q).length ≤ (l.filter p).length
 | [], _ => by simp
 | x :: l, h => by
  have ih := filter_lt p q l h
  by_cases hq : q x = true
  · simp [hq, h x hq]; exact ih
  · by_cases hp : p x = true <;> simp [hq, hp] <;> omega
theorem filter_lt' {α : Type} (p q : α → Bool) : ∀ (l : List α) (y : α), (∀ x, q x = true → p x = true) → y ∈ l → p y = true → q y = false → (l.filter q).length + 1 ≤ (l.filter p).length
 | [], y, _, hy, _, _ => absurd hy List.not_mem_nil
 | x :: l, y, h, hy, h1, h2 => by
  rcases List.mem_cons.mp hy with rfl | hy
  · have := filter_lt p q l h
    simp [h1, h2]; omega
  · have ih := filter_lt' p q l y h hy h1 h2
    by_cases hq : q x = true
    · simp [hq, h x hq]; omega
    · by_cases hp : p x = true <;> simp [hq, hp] <;> omega
theorem rem_step {EE : List (List Key × En)} {F : List (List Key × W)} {D : List W} {c : W} {k : List Key} (e : En) (he : (k, e) ∈ EE) : 2 * rem EE (stF c (F, D) e).1 + (stF c (F, D) e).2.length ≤ 2 * rem EE F + D.length ∧ (stF c (F, D) e).1.length + rem EE (stF c (F, D) e).1 ≤ F.length + rem EE F ∧ (D.length ≤ F.length + 1 → (stF c (F, D) e).2.length ≤ (stF c (F, D) e).1.length + 1) := by
 unfold stF
 by_cases hv : valW F e.2.1 = none
 · simp only [hv, if_true]
   have : rem EE (F ++ [(e.2.1, W.tuple [e.2.2, c])]) + 1 ≤ rem EE F := by
    refine filter_lt' _ _ EE (k, e) (fun x hx => ?_) he (by simp [hv]) (by simp [zq1 F e.2.1 e.2.1 _ hv])
    rw [zq1 F e.2.1 x.2.2.1 _ hv] at hx
    by_cases hq : x.2.2.1 = e.2.1
    · simp [hq] at hx
    · simpa [hq] using hx
   simp
   omega
 · simp only [hv, if_false]
   exact ⟨Nat.le_refl _, Nat.le_refl _, id⟩
theorem rem_fold {EE : List (List Key × En)} {c : W} {k : List Key} : ∀ (es : List En) (F : List (List Key × W)) (D : List W), (∀ e ∈ es, (k, e) ∈ EE) → 2 * rem EE (es.foldl (stF c) (F, D)).1 + (es.foldl (stF c) (F, D)).2.length ≤ 2 * rem EE F + D.length ∧ (es.foldl (stF c) (F, D)).1.length + rem EE (es.foldl (stF c) (F, D)).1 ≤ F.length + rem EE F ∧ (D.length ≤ F.length + 1 → (es.foldl (stF c) (F, D)).2.length ≤ (es.foldl (stF c) (F, D)).1.length + 1)
 | [], F, D, _ => ⟨Nat.le_refl _, Nat.le_refl _, id⟩
 | e :: es, F, D, he => by
  obtain ⟨a1, a2, a3⟩ := rem_step (c := c) (F := F) (D := D) e (he e (by simp))
  obtain ⟨b1, b2, b3⟩ := rem_fold (c := c) es (stF c (F, D) e).1 (stF c (F, D) e).2 fun x hx => he x (by simp [hx])
  exact ⟨Nat.le_trans b1 a1, Nat.le_trans b2 a2, fun h => b3 (a3 h)⟩
section
variable {I d f q : Nat} {kvs : List (List Key × W)} {EE : List (List Key × En)} {s0 : Sl}
theorem while_run (hk : ∀ e ∈ EE, zr2 e.2.1 = some e.2.2.1) (hw : ∀ e ∈ EE, keyN e.2.1 = some e.2.2.1) (hE : EE.length < 3900) : ∀ (n : Nat) (F : List (List Key × W)) (D : List W) (S : Sto) (s4 s5 s6 : Sl), 2 * rem EE F + D.length < n → F.length + rem EE F ≤ EE.length → D.length ≤ F.length + 1 → MK S I d f q kvs (edW EE) F D → PI EE F D → CL EE none F D →
 ∃ S' F' s4' s5' s6', zp8 (sTruL (sPure (dVar 3))) zt3 n [s0, .val (.ref I), .val (.ref f), .val (.ref q), s4, s5, s6] S = some (.nx [s0, .val (.ref I), .val (.ref f), .val (.ref q), s4', s5', s6'], S') ∧ S'[f]? = some (.dT F') ∧ PI EE F' [] ∧ CL EE none F' []
 | 0, F, D, S, s4, s5, s6, hn, _, _, _, _, _ => absurd hn (Nat.not_lt_zero _)
 | n + 1, F, D, S, s4, s5, s6, hn, h1, h2, hm, hp, hc => by
  rcases List.eq_nil_or_concat D with rfl | ⟨D, c, rfl⟩
  · refine ⟨S, F, s4, s5, s6, ?_, hm.hf, hp, hc⟩
    show soB _ _ = _
    have : sTruL (sPure (dVar 3)) [s0, .val (.ref I), .val (.ref f), .val (.ref q), s4, s5, s6] S = some (.ok false, S) := by simp only [sTruL, uS, uD, Nat.reduceAdd, Nat.reduceSub, reduceIte, Nat.reduceEqDiff, List.replicate, zt7 hm.hq]; rfl
    rw [this]
    rfl
  · rw [List.concat_eq_append] at hn h2 hm hp hc
    obtain ⟨k, hck, hp', hc'⟩ := pi_turn hw hp hc
    have hd : D.length ≤ F.length := by simp at h2; omega
    obtain ⟨S1, t5, t6, e1, m1⟩ := turn_run (s0 := s0) hk c k hck hm (by omega) (by omega) s4 s5 s6
    obtain ⟨r1, r2, r3⟩ := rem_fold (EE := EE) (c := c) (k := k) (entT EE k) F D fun e he => zw7 he
    obtain ⟨S', F', u4, u5, u6, e2, z1, z2, z3⟩ := while_run hk hw hE n _ _ S1 (.val c) t5 t6 (by simp at hn; omega) (by omega) (r3 (by omega)) m1 hp' hc'
    refine ⟨S', F', u4, u5, u6, ?_, z1, z2, z3⟩
    show soB _ _ = _
    have : sTruL (sPure (dVar 3)) [s0, .val (.ref I), .val (.ref f), .val (.ref q), s4, s5, s6] S = some (.ok true, S) := by
     have hq := hm.hq
     simp only [sTruL, uS, uD, Nat.reduceAdd, Nat.reduceSub, reduceIte, Nat.reduceEqDiff, List.replicate, zt7 hq]
     cases D <;> rfl
    rw [this]
    show (match zt3 _ S with | some (.nx δ', S') => _ | some (.ct δ', S') => _ | some (.bk δ', S') => _ | some (.rt d, S') => _ | some (.xc x, S') => _ | none => _) = _
    rw [e1]
    exact e2
end
def bkK : List Key := [Sum.inr (Str.ofString "back"), Sum.inr (Str.ofString "main")]
def eT (k : Int) (p : Str × Tr) : List (List Key × En) := (dfK, (nkW p.1, nkK p.1, .int k)) :: (csK p.2).map fun c => (c.2, (nkW p.1, nkK p.1, .int k))
def allT : Int → List (Str × Tr) → List (List Key × En)
 | _, [] => []
 | k, p :: ps => eT k p ++ allT (k + 1) ps
def edT (ps : List (Str × Tr)) : List (List Key × En) := (dfK, (bkW, bkK, .int 1)) :: allT 2 ps
theorem edW_app (a b : List (List Key × En)) : edW (a ++ b) = edW a ++ edW b := by simp [edW]
theorem eT_ed (k : Int) (p : Str × Tr) : edW (eT k p) = eS k p := by simp [edW, eT, eS, enW, List.map_map, Function.comp_def]
theorem yd3 : ∀ (ps : List (Str × Tr)) (k : Int), edW (allT k ps) = allE k ps
 | [], _ => rfl
 | p :: ps, k => by rw [allT, edW_app, eT_ed, yd3 ps, allE]
theorem edT_ed (ps : List (Str × Tr)) : edW (edT ps) = edges ps := by
 have := yd3 ps 2
 simp only [edT, edges, edW, List.map_cons, enW] at this ⊢
 rw [this]
theorem eT_key {k : Int} {p : Str × Tr} {e : List Key × En} (h : e ∈ eT k p) : zr2 e.2.1 = some e.2.2.1 ∧ keyN e.2.1 = some e.2.2.1 := by
 rcases List.mem_cons.mp h with rfl | h
 · exact ⟨rfl, rfl⟩
 · obtain ⟨c, _, rfl⟩ := List.mem_map.mp h
   exact ⟨rfl, rfl⟩
theorem allT_key : ∀ (ps : List (Str × Tr)) (k : Int), ∀ e ∈ allT k ps, zr2 e.2.1 = some e.2.2.1 ∧ keyN e.2.1 = some e.2.2.1
 | [], _, e, h => absurd h List.not_mem_nil
 | p :: ps, k, e, h => by
  rcases List.mem_append.mp h with h | h
  · exact eT_key h
  · exact allT_key ps (k + 1) e h
theorem edT_key (ps : List (Str × Tr)) : ∀ e ∈ edT ps, zr2 e.2.1 = some e.2.2.1 ∧ keyN e.2.1 = some e.2.2.1 := fun e h => by
 rcases List.mem_cons.mp h with rfl | h
 · exact ⟨rfl, rfl⟩
 · exact allT_key ps 2 e h
theorem edT_len (ps : List (Str × Tr)) (hp : ∀ p ∈ ps, okP p) : (edT ps).length ≤ 31 * ps.length + 1 := by
 have h1 := allE_len ps 2 hp
 rw [← yd3] at h1
 simp [edW] at h1
 simp [edT]
 omega
theorem marks_run (ps : List (Str × Tr)) (last : Int) (S : Sto) (hp : ∀ p ∈ ps, okP p) (hl : ps.length ≤ 63) : ∃ S' f F, zz3 [.list [progW ps last]] S = some (.ok (.ref f), S') ∧ S'[f]? = some (.dT F) ∧ PI (edT ps) F [] ∧ CL (edT ps) none F [] := by
 have z1 := sz 1 (by decide)
 obtain ⟨S1, d, kvs, e1, lk⟩ := links_run ps last S hp hl
 rw [← edT_ed] at lk
 have el := edT_len ps hp
 let S2 : Sto := S1 ++ [.dT []]
 let S3 : Sto := S2 ++ [.lst [.none]]
 have mk : MK S3 S.length d S1.length S2.length kvs (edW (edT ps)) [] [.none] :=
  ⟨(lk.push _).push _, zj2 (zn3 _ _), zn3 _ _, fun k l hv => by
    obtain ⟨l', e, hl'⟩ := lk.ss k _ hv
    cases e
    have := (List.getElem?_eq_some_iff.mp hl').1
    simp [S2]
    omega⟩
 have pi : PI (edT ps) [] [.none] := ⟨(fun i kk v h => by simp at h), (fun c hc => ⟨[], by rw [List.mem_singleton.mp hc]; rfl, .inl rfl⟩), List.nodup_nil⟩
 have cl : CL (edT ps) none [] [.none] := fun ck hck => by
  rcases hck with rfl | h
  · exact .inr (.inl ⟨.none, by simp, rfl⟩)
  · exact absurd rfl h
 have rl : rem (edT ps) [] ≤ (edT ps).length := List.length_filter_le _ _
 let pr : W := .list [progW ps last]
 obtain ⟨S4, F, s4, s5, s6, e2, h4, p4, c4⟩ := while_run (s0 := .val pr) (fun e he => (edT_key ps e he).1) (fun e he => (edT_key ps e he).2) (by omega) 1000000 [] [.none] S3 .no .no .no (by simp; omega) (by simpa using rl) (by simp) mk pi cl
 refine ⟨S4, S1.length, F, ?_, h4, p4, c4⟩
 refine (zh6 rfl).trans ((congrArg outS (?_ : _ = some (.rt (.ref S1.length), S4))).trans rfl)
 refine (zb5 (δ' := [.val pr, .val (.ref S.length), .no, .no, .no, .no, .no]) (S' := S1) (zm4 (zo6 (S1 := S) (ds := [pr]) rfl e1) rfl)).trans ?_
 refine (zb5 (δ' := [.val pr, .val (.ref S.length), .val (.ref S1.length), .no, .no, .no, .no]) (S' := S2) (zm4 rfl rfl)).trans ?_
 refine (zb5 (δ' := [.val pr, .val (.ref S.length), .val (.ref S1.length), .val (.ref S2.length), .no, .no, .no]) (S' := S3) (zm4 (d := .ref S2.length) (by simp only [uS, uD, Nat.reduceAdd, Nat.reduceSub, reduceIte, Nat.reduceEqDiff, List.replicate, if_pos z1]; rfl) rfl)).trans ?_
 exact (zb5 e2).trans (by simp only [uS, uD, Nat.reduceAdd, Nat.reduceSub, reduceIte, Nat.reduceEqDiff, List.replicate])
theorem yg9 : ∀ (acc : List Str), vsOf (acc.map .str) = some (acc.map V.str)
 | [] => rfl
 | x :: acc => by
  show ((some (V.str x)).bind fun v => (vsOf (acc.map .str)).map (v :: ·)) = _
  rw [yg9 acc]
  rfl
theorem yi5 (x : Str) : ∀ (acc : List Str), inV (.str x) (acc.map V.str) = decide (x ∈ acc)
 | [] => rfl
 | y :: acc => by
  have ih := yi5 x acc
  unfold inV at ih ⊢
  rw [List.map_cons, List.any_cons, ih]
  have : eqV (V.str y) (V.str x) = decide (y = x) := by
   show (y == x) = _
   by_cases h : y = x <;> simp [h]
  rw [this]
  by_cases h : y = x
  · subst h; simp
  · have h' : ¬ x = y := fun z => h z.symm
    simp [h, h']
theorem cInS_s {S : Sto} {l : Nat} {acc : List Str} (h : S[l]? = some (.lst (acc.map .str))) (x : Str) : cInS (.str x) (.ref l) S = some (decide (x ∈ acc)) := by
 have e1 : seqS (.ref l) S = some (acc.map .str) := by simp [seqS, zt7 h]
 first | rfl | simp only [cInS, e1, Option.bind_some, vOf, yg9, Option.map_some, yi5]
def lo (M : List Str) : Tr → Bool
 | .num _ => false
 | .sig k => k != 1
 | .nam x => decide (x ∈ M)
 | .box t => lo M t
 | .op _ a b => lo M a || lo M b
theorem yc6 (k : Fin 7) (a b : Tr) : nms (.op k a b) = nms a ++ nms b := by simp [nms, nmL, lvs, List.filterMap_append]
theorem own_op (k : Fin 7) (a b : Tr) : own (.op k a b) = (own a || own b) := by
 simp only [own, lvs, List.any_append]
 cases (lvs a).any (isSg 0) <;> cases (lvs a).any (isSg 2) <;> cases (lvs b).any (isSg 0) <;> cases (lvs b).any (isSg 2) <;> rfl
theorem yc0 (M : List Str) : ∀ (t : Tr), lo M t = true ↔ own t = true ∨ ∃ x ∈ nms t, x ∈ M
 | .num v => by simp [lo, own, lvs, isSg, nms, nmL]
 | .sig k => by
  revert k
  simp [lo, own, lvs, isSg, nms, nmL]
  decide +kernel
 | .nam x => by simp [lo, own, lvs, isSg, nms, nmL]
 | .box t => by
  have := yc0 M t
  simpa [lo, own, lvs, nms] using this
 | .op k a b => by
  have ha := yc0 M a
  have hb := yc0 M b
  rw [own_op, yc6]
  simp only [lo, Bool.or_eq_true, ha, hb, List.mem_append]
  constructor
  · rintro ((h | ⟨x, h1, h2⟩) | (h | ⟨x, h1, h2⟩))
    · exact .inl (.inl h)
    · exact .inr ⟨x, .inl h1, h2⟩
    · exact .inl (.inr h)
    · exact .inr ⟨x, .inr h1, h2⟩
  · rintro ((h | h) | ⟨x, h1 | h1, h2⟩)
    · exact .inl (.inl h)
    · exact .inr (.inl h)
    · exact .inl (.inr ⟨x, h1, h2⟩)
    · exact .inr (.inr ⟨x, h1, h2⟩)
theorem sl1 : ∀ k : Fin 3, (decide (sgW k = Str.ofString "lane") = true ∨ decide (sgW k = Str.ofString "lane") = false ∧ decide (sgW k = Str.ofString "mine") = true) ∧ (k != 1) = true ∨ (decide (sgW k = Str.ofString "lane") = false ∧ decide (sgW k = Str.ofString "mine") = false) ∧ (k != 1) = false := by decide +kernel
theorem nl1 : decide (Str.ofString "num" = Str.ofString "lane") = false ∧ decide (Str.ofString "num" = Str.ofString "mine") = false ∧ decide (Str.ofString "name" = Str.ofString "lane") = false ∧ decide (Str.ofString "name" = Str.ofString "mine") = false ∧ decide (Str.ofString "box" = Str.ofString "lane") = false ∧ decide (Str.ofString "box" = Str.ofString "mine") = false := by decide +kernel
theorem ol1 : ∀ k, decide (opW k = Str.ofString "lane") = false ∧ decide (opW k = Str.ofString "mine") = false := by decide +kernel
theorem or_F {f g : DS → Option Bool} {δ : DS} (h1 : f δ = some false) (h2 : g δ = some false) : dOr f g δ = some false := by simp only [dOr, h1, h2, Option.bind_some]; rfl
theorem or_L {f g : DS → Option Bool} {δ : DS} (h1 : f δ = some true) : dOr f g δ = some true := by simp only [dOr, h1, Option.bind_some]; rfl
theorem or_R {f g : DS → Option Bool} {δ : DS} (h1 : f δ = some false) (h2 : g δ = some true) : dOr f g δ = some true := by simp only [dOr, h1, h2, Option.bind_some]; rfl
theorem nT {f : DS → Option W} {δ : DS} {a b : Str} {S : Sto} (h1 : f δ = some (.str a)) (h2 : decide (a = b) = false) : sPure (dB (dCmp cNe f (dC (.str b)))) δ S = some (.ok (.bool true), S) := zk1 (by first | rfl | simp only [uD, Nat.reduceAdd, Nat.reduceSub, reduceIte, Nat.reduceEqDiff, List.replicate, h1, h2])
section
variable {S : Sto} {l : Nat} {M : List Str}
theorem yc7 {n : Nat} {t : Tr} {a : Str} {ts : List W} (e : tw t = .tuple (.str a :: ts)) (h1 : decide (a = Str.ofString "lane") = false) (h2 : decide (a = Str.ofString "mine") = false) (h3 : decide (a = Str.ofString "name") = false) (h4 : decide (a = Str.ofString "num") = false) {bs : List Bool} (hc : zj1 (dgName 1) (sPure dYes) (sCall (zd1 n) (sPure (dCons (dVar 1) (dCons (dVar 0) dNil)))) [.val (.ref l), .no] ts S = some (.ok (bs.map .bool), S)) (hz : ts.length ≤ 9000) : zd1 (n + 1) [tw t, .ref l] S = some (.ok (.bool (bs.any id)), S) := by
 let δ : DS := [.val (tw t), .val (.ref l)]
 have k0 : dPk 0 δ = some (.tuple (.str a :: ts)) := by rw [← e]; rfl
 have zt := sz _ hz
 have hz' : ts.length ≤ sizeLine := zt
 show bodyS 2 2 _ _ _ = _
 refine (zh6 rfl).trans ((congrArg outS (?_ : _ = some (.rt (.bool (bs.any id)), S))).trans rfl)
 refine (zb5 (δ' := δ) (S' := S) (zf3 (zg8 (b := false) (or_F (tF (x0 k0) h1) (tF (x0 k0) h2)) rfl))).trans ?_
 refine (cF (x0 k0) h3).trans (zw9 ?_)
 have c1 : sPure (dSeqOf (dSlT (dVar 0) (dPart (dC (.int (1)))) dNoPart)) δ S = some (.ok ts, S) := zk1 (by simp only [δ, e, uD, Nat.reduceAdd, Nat.reduceSub, reduceIte, Nat.reduceEqDiff, List.replicate, dSlT, cut_1])
 have c2 := sComp_of (ix := [some 1, none]) c1 hz' hc
 simp only [sAndV, nT (S := S) (x0 k0) h4, sBind, asB_b, Option.bind_some, if_true, sC1, c2, sOk, gAny, ya2, yh0, Option.map_some]
theorem cg1 {n : Nat} {t : Tr} {b : Bool} (h : zd1 n [tw t, .ref l] S = some (.ok (.bool b), S)) {ts : List W} {bs : List Bool} (hr : zj1 (dgName 1) (sPure dYes) (sCall (zd1 n) (sPure (dCons (dVar 1) (dCons (dVar 0) dNil)))) [.val (.ref l), .no] ts S = some (.ok (bs.map .bool), S)) : zj1 (dgName 1) (sPure dYes) (sCall (zd1 n) (sPure (dCons (dVar 1) (dCons (dVar 0) dNil)))) [.val (.ref l), .no] (tw t :: ts) S = some (.ok ((b :: bs).map .bool), S) :=
 sCompGo_step _ _ _ _ _ _ _ _ _ _ _ rfl (zo6 (S1 := S) (ds := [tw t, .ref l]) rfl h) hr
theorem ya7 (hl : S[l]? = some (.lst (M.map .str))) : ∀ (t : Tr) (n : Nat), dep t < n → zd1 n [tw t, .ref l] S = some (.ok (.bool (lo M t)), S)
 | _, 0, h => absurd h (Nat.not_lt_zero _)
 | .num v, n + 1, _ => by
  let δ : DS := [.val (tw (.num v)), .val (.ref l)]
  show bodyS 2 2 _ _ _ = _
  refine (zh6 rfl).trans ((congrArg outS (?_ : _ = some (.rt (.bool false), S))).trans rfl)
  refine (zb5 (δ' := δ) (S' := S) (zf3 (zg8 (b := false) (or_F (tF (x0 rfl) nl1.1) (tF (x0 rfl) nl1.2.1)) rfl))).trans ?_
  refine (cF (x0 rfl) nu2).trans (zw9 ?_)
  have : sPure (dB (dCmp cNe (dOp gIx (dPk 0) (dC (.int (0)))) (dC (.str "num")))) δ S = some (.ok (.bool false), S) := by simp only [δ, tw, uS, uD, Nat.reduceAdd, Nat.reduceSub, reduceIte, Nat.reduceEqDiff, List.replicate, at0, decide_true, Bool.not_true]
  simp only [sAndV, this, sBind, asB_b, Option.bind_some, Bool.false_eq_true, if_false]
 | .sig k, n + 1, _ => by
  rcases sl1 k with ⟨h, e⟩ | ⟨⟨h1, h2⟩, e⟩
  · let δ : DS := [.val (tw (.sig k)), .val (.ref l)]
    show bodyS 2 2 _ _ _ = some (.ok (.bool (k != 1)), S)
    rw [e]
    refine (zh6 rfl).trans ((congrArg outS (?_ : _ = some (.rt (.bool true), S))).trans rfl)
    refine zw6 (ssPure_rt (zg8 (b := true) ?_ rfl))
    rcases h with h | ⟨h1, h2⟩
    · have h := of_decide_eq_true h
      refine or_L ?_
      rw [← h]
      exact tT (x0 rfl)
    · have h := of_decide_eq_true h2
      refine or_R (tF (x0 rfl) h1) ?_
      rw [← h]
      exact tT (x0 rfl)
  · have := yc7 (S := S) (l := l) (n := n) (t := .sig k) (bs := []) rfl h1 h2 (sg2 k) (sg1 k) rfl (by decide)
    rw [this]
    show some (Rs.ok (W.bool false), S) = some (Rs.ok (W.bool (k != 1)), S)
    rw [e]
 | .nam x, n + 1, _ => by
  let δ : DS := [.val (tw (.nam x)), .val (.ref l)]
  show bodyS 2 2 _ _ _ = _
  refine (zh6 rfl).trans ((congrArg outS (?_ : _ = some (.rt (.bool (lo M (.nam x))), S))).trans rfl)
  refine (zb5 (δ' := δ) (S' := S) (zf3 (zg8 (b := false) (or_F (tF (x0 rfl) nl1.2.2.1) (tF (x0 rfl) nl1.2.2.2.1)) rfl))).trans ?_
  refine zw6 ((fT (x0 rfl)).trans (zw9 ?_))
  simp only [δ, tw, sInV, uS, uD, Nat.reduceAdd, Nat.reduceSub, reduceIte, Nat.reduceEqDiff, List.replicate, at1, cInS_s hl]
  rfl
 | .box t, n + 1, h => by
  have ih := ya7 hl t n (by simp only [dep] at h; omega)
  have := yc7 (S := S) (l := l) (n := n) (t := .box t) (bs := [lo M t]) rfl nl1.2.2.2.2.1 nl1.2.2.2.2.2 bx2 bx1 (cg1 (bs := []) ih rfl) (by simp)
  rw [this]
  simp [lo]
 | .op k a b, n + 1, h => by
  have ha := ya7 hl a n (by simp only [dep] at h; omega)
  have hb := ya7 hl b n (by simp only [dep] at h; omega)
  have := yc7 (S := S) (l := l) (n := n) (t := .op k a b) (bs := [lo M a, lo M b]) rfl (ol1 k).1 (ol1 k).2 (op2 k) (op1 k) (cg1 (bs := [lo M b]) ha (cg1 (bs := []) hb rfl)) (by simp)
  rw [this]
  simp [lo]
end
def stM (M : List Str) (p : Str × Tr) : List Str := if p.1 ∈ M then M else if lo M p.2 = true then M ++ [p.1] else M
def rnd (ps : List (Str × Tr)) (M : List Str) : List Str := ps.foldl stM M
section
variable {l : Nat}
theorem mk_one (s0 s2 : Sl) (k : Int) (p : Str × Tr) (hd : dep p.2 < 9) {S : Sto} {M : List Str} (hl : S[l]? = some (.lst (M.map .str))) (hM : M.length < 900) : ∃ S', zn8 [s0, .val (.ref l), s2, .val (stW k p)] S = some (.nx [s0, .val (.ref l), s2, .val (stW k p)], S') ∧ S'[l]? = some (.lst ((stM M p).map .str)) ∧ ∀ m, m ≠ l → S'[m]? = S[m]? := by
 let δ : DS := [s0, .val (.ref l), s2, .val (stW k p)]
 have a2 : dOp gIx (dPk 3) (dC (.int (2))) δ = some (.str p.1) := x2 rfl
 have a3 : dOp gIx (dPk 3) (dC (.int (3))) δ = some (tw p.2) := x3 rfl
 have c1 : sInS true (sPure (dOp gIx (dPk 3) (dC (.int (2))))) (sPure (dVar 1)) δ S = some (.ok (!decide (p.1 ∈ M)), S) := by
  have v1 : dVar 1 δ = some (.ref l) := rfl
  simp only [sInS, sPure, a2, v1, sBind, Option.map_some, sOk, cInS_s hl]
  rfl
 have ow := ya7 hl p.2 9 hd
 have c2 : sTru (sCall (zd1 9) (sPure (dCons (dOp gIx (dPk 3) (dC (.int (3)))) (dCons (dVar 1) dNil)))) δ S = some (.ok (lo M p.2), S) := by
  have : sCall (zd1 9) (sPure (dCons (dOp gIx (dPk 3) (dC (.int (3)))) (dCons (dVar 1) dNil))) δ S = some (.ok (.bool (lo M p.2)), S) := zo6 (S1 := S) (ds := [tw p.2, .ref l]) (zk1 (by simp only [dCons, a3]; rfl)) ow
  simp only [sTru, this, sBind, sOk, asB_b, Option.map_some]
 unfold stM
 by_cases h : p.1 ∈ M
 · rw [if_pos h]
   have : (!decide (p.1 ∈ M)) = false := by simp [h]
   rw [this] at c1
   exact ⟨S, (zr3 (sAnd_f c1)).trans rfl, hl, fun _ _ => rfl⟩
 · rw [if_neg h]
   have : (!decide (p.1 ∈ M)) = true := by simp [h]
   rw [this] at c1
   by_cases h2 : lo M p.2 = true
   · rw [if_pos h2]
     rw [h2] at c2
     refine ⟨S.set l (.lst (M.map .str ++ [.str p.1])), (yc3 (sAnd_t c1 c2)).trans (ssAppend_of rfl hl (zk1 a2) (by simp; omega)), ?_, fun m hm => List.getElem?_set_ne (fun z => hm z.symm)⟩
     rw [set_eq' hl]
     simp
   · rw [if_neg h2]
     have h3 : lo M p.2 = false := by simpa using h2
     rw [h3] at c2
     exact ⟨S, (zr3 (sAnd_t c1 c2)).trans rfl, hl, fun _ _ => rfl⟩
theorem stM_len (M : List Str) (p : Str × Tr) : (stM M p).length ≤ M.length + 1 := by
 unfold stM
 split
 · omega
 · split <;> simp
theorem mk_walk (s0 s2 : Sl) : ∀ (ps : List (Str × Tr)) (k : Int) (M : List Str) (S : Sto) (s3 : Sl), (∀ p ∈ ps, dep p.2 < 9) → S[l]? = some (.lst (M.map .str)) → M.length + ps.length < 900 → ∃ S' s3', zm9 (dgName 3) zn8 (bodyW k ps) [s0, .val (.ref l), s2, s3] S = some (.nx [s0, .val (.ref l), s2, s3'], S') ∧ S'[l]? = some (.lst ((rnd ps M).map .str)) ∧ ∀ m, m ≠ l → S'[m]? = S[m]?
 | [], k, M, S, s3, _, hl, _ => ⟨S, s3, rfl, hl, fun _ _ => rfl⟩
 | p :: ps, k, M, S, s3, hd, hl, hM => by
  simp only [List.length_cons] at hM
  obtain ⟨S1, e1, h1, f1⟩ := mk_one s0 s2 k p (hd p (by simp)) hl (by omega)
  have := stM_len M p
  obtain ⟨S', s3', e2, h2, f2⟩ := mk_walk s0 s2 ps (k + 1) (stM M p) S1 (.val (stW k p)) (fun q hq => hd q (by simp [hq])) h1 (by omega)
  exact ⟨S', s3', (zm2 rfl e1).trans e2, h2, fun m hm => (f2 m hm).trans (f1 m hm)⟩
end
structure MI (ps : List (Str × Tr)) (N M : List Str) : Prop where
 nd : M.Nodup
 sb : ∀ x ∈ M, x ∈ N
 rs : ∀ (i : Nat) (x : Str), M[i]? = some x → ∃ p ∈ ps, p.1 = x ∧ lo (M.take i) p.2 = true
theorem stM_mi {ps : List (Str × Tr)} {N M : List Str} {p : Str × Tr} (hp : p ∈ ps) (hN : p.1 ∈ N) (h : MI ps N M) : MI ps N (stM M p) ∧ (stM M p = M ∨ M.length < (stM M p).length) ∧ (stM M p = M → lo M p.2 = true → p.1 ∈ M) := by
 unfold stM
 by_cases h1 : p.1 ∈ M
 · rw [if_pos h1]
   exact ⟨h, .inl rfl, fun _ _ => h1⟩
 · rw [if_neg h1]
   by_cases h2 : lo M p.2 = true
   · rw [if_pos h2]
     refine ⟨⟨?_, fun x hx => ?_, fun i x hi => ?_⟩, .inr (by simp), fun e => ?_⟩
     · rw [List.nodup_append]
       refine ⟨h.nd, by simp, fun a ha b hb hab => ?_⟩
       rw [List.mem_singleton.mp hb] at hab
       exact h1 (hab ▸ ha)
     · rcases List.mem_append.mp hx with hx | hx
       · exact h.sb x hx
       · rw [List.mem_singleton.mp hx]
         exact hN
     · rcases Nat.lt_or_ge i M.length with hi' | hi'
       · rw [List.getElem?_append_left hi'] at hi
         rw [List.take_append_of_le_length (by omega)]
         exact h.rs i x hi
       · have : i = M.length := by
          have := (List.getElem?_eq_some_iff.mp hi).1
          simp at this
          omega
         subst this
         simp at hi
         exact ⟨p, hp, hi, by simpa using h2⟩
     · exact absurd (congrArg List.length e) (by simp)
   · rw [if_neg h2]
     exact ⟨h, .inl rfl, fun _ z => absurd z h2⟩
theorem rnd_mi {ps : List (Str × Tr)} {N : List Str} : ∀ (qs : List (Str × Tr)) (M : List Str), (∀ q ∈ qs, q ∈ ps ∧ q.1 ∈ N) → MI ps N M → MI ps N (rnd qs M) ∧ (rnd qs M = M ∨ M.length < (rnd qs M).length) ∧ (rnd qs M = M → ∀ q ∈ qs, lo M q.2 = true → q.1 ∈ M)
 | [], M, _, h => ⟨h, .inl rfl, fun _ q hq => absurd hq List.not_mem_nil⟩
 | q :: qs, M, hq, h => by
  have h0 := hq q (by simp)
  obtain ⟨a1, a2, a3⟩ := stM_mi h0.1 h0.2 h
  obtain ⟨b1, b2, b3⟩ := rnd_mi qs (stM M q) (fun r hr => hq r (by simp [hr])) a1
  show MI ps N (rnd qs (stM M q)) ∧ (rnd qs (stM M q) = M ∨ M.length < (rnd qs (stM M q)).length) ∧ (rnd qs (stM M q) = M → _)
  have len : M.length ≤ (stM M q).length := a2.elim (fun e => by rw [e]; exact Nat.le_refl _) Nat.le_of_lt
  have len2 : (stM M q).length ≤ (rnd qs (stM M q)).length := b2.elim (fun e => by rw [e]; exact Nat.le_refl _) Nat.le_of_lt
  refine ⟨b1, ?_, fun e r hr hl => ?_⟩
  · rcases a2 with e | e
    · rw [e] at b2 ⊢
      exact b2
    · exact .inr (by omega)
  · have e1 : stM M q = M := a2.resolve_right fun z => by rw [e] at len2; omega
    rw [e1] at e b3
    rcases List.mem_cons.mp hr with rfl | hr
    · exact a3 e1 hl
    · exact b3 e r hr hl
theorem zt8 {α : Type} [DecidableEq α] : ∀ (l N : List α), l.Nodup → (∀ x ∈ l, x ∈ N) → l.length ≤ N.length
 | [], N, _, _ => Nat.zero_le _
 | x :: l, N, hn, h => by
  rw [List.nodup_cons] at hn
  have hx := h x (by simp)
  have := zt8 l (N.erase x) hn.2 fun y hy => (List.mem_erase_of_ne fun e => hn.1 (by rw [← e]; exact hy)).mpr (h y (by simp [hy]))
  rw [List.length_erase_of_mem hx] at this
  have : 0 < N.length := List.length_pos_of_mem hx
  simp only [List.length_cons]
  omega
theorem nodup_all {α : Type} [DecidableEq α] {l N : List α} (hn : l.Nodup) (h : ∀ x ∈ l, x ∈ N) (hl : N.length ≤ l.length) : ∀ x ∈ N, x ∈ l := fun x hx => by
 by_cases hxl : x ∈ l
 · exact hxl
 · have := zt8 (x :: l) N (List.nodup_cons.mpr ⟨hxl, hn⟩) fun y hy => by
    rcases List.mem_cons.mp hy with rfl | hy
    · exact hx
    · exact h y hy
   simp only [List.length_cons] at this
   omega
def rnds (ps : List (Str × Tr)) : Nat → List Str → List Str
 | 0, M => M
 | n + 1, M => rnds ps n (rnd ps M)
theorem rnds_fix {ps : List (Str × Tr)} {M : List Str} (h : rnd ps M = M) : ∀ n, rnds ps n M = M
 | 0 => rfl
 | n + 1 => by rw [rnds, h]; exact rnds_fix h n
theorem rnds_mi {ps : List (Str × Tr)} {N : List Str} (hN : ∀ q ∈ ps, q.1 ∈ N) : ∀ (n : Nat) (M : List Str), MI ps N M → N.length ≤ M.length + n → MI ps N (rnds ps n M) ∧ ∀ q ∈ ps, lo (rnds ps n M) q.2 = true → q.1 ∈ rnds ps n M
 | 0, M, h, hn => ⟨h, fun q hq _ => nodup_all h.nd h.sb (by omega) _ (hN q hq)⟩
 | n + 1, M, h, hn => by
  obtain ⟨a1, a2, a3⟩ := rnd_mi ps M (fun q hq => ⟨hq, hN q hq⟩) h
  rcases a2 with e | e
  · rw [rnds_fix e (n + 1)]
    exact ⟨h, a3 e⟩
  · exact rnds_mi hN n (rnd ps M) a1 (by omega)
section
variable {l : Nat}
theorem rnd_len : ∀ (ps : List (Str × Tr)) (M : List Str), (rnd ps M).length ≤ M.length + ps.length
 | [], M => Nat.le_refl _
 | p :: ps, M => by
  have h1 := rnd_len ps (stM M p)
  have h2 := stM_len M p
  show (rnd ps (stM M p)).length ≤ _
  simp only [List.length_cons]
  omega
theorem six_walk {ps : List (Str × Tr)} (hd : ∀ p ∈ ps, dep p.2 < 9) : ∀ (n : Nat) (lo : Int) (M : List Str) (S : Sto) (s2 s3 : Sl), S[l]? = some (.lst (M.map .str)) → M.length + (n + 1) * ps.length < 900 → ∃ S' s2' s3', zm9 (dgName 2) b__law_marked_2 (rngD lo n) [.val (.list (bodyW 2 ps)), .val (.ref l), s2, s3] S = some (.nx [.val (.list (bodyW 2 ps)), .val (.ref l), s2', s3'], S') ∧ S'[l]? = some (.lst ((rnds ps n M).map .str)) ∧ ∀ m, m ≠ l → S'[m]? = S[m]?
 | 0, lo, M, S, s2, s3, hl, _ => ⟨S, s2, s3, rfl, hl, fun _ _ => rfl⟩
 | n + 1, lo, M, S, s2, s3, hl, hn => by
  have hx : (n + 1 + 1) * ps.length = (n + 1) * ps.length + ps.length := Nat.succ_mul _ _
  have hy : (n + 1) * ps.length = n * ps.length + ps.length := Nat.succ_mul _ _
  obtain ⟨S1, t3, e1, h1, f1⟩ := mk_walk (l := l) (.val (.list (bodyW 2 ps))) (.val (.int lo)) ps 2 M S s3 hd hl (by omega)
  have := rnd_len ps M
  obtain ⟨S', u2, u3, e2, h2, f2⟩ := six_walk hd n (lo + 1) (rnd ps M) S1 (.val (.int lo)) t3 h1 (by omega)
  refine ⟨S', u2, u3, ?_, h2, fun m hm => (f2 m hm).trans (f1 m hm)⟩
  rw [zu2]
  exact (zm2 (h := dgName 2) rfl ((zq6 (S1 := S) (ds := bodyW 2 ps) rfl).trans e1)).trans e2
end
theorem marked_run (ps : List (Str × Tr)) (S : Sto) (hd : ∀ p ∈ ps, dep p.2 < 9) (hl : ps.length ≤ 63) : ∃ S', zn5 [.list (bodyW 2 ps)] S = some (.ok (.ref S.length), S') ∧ S'[S.length]? = some (.lst ((rnds ps 6 []).map .str)) ∧ ∀ m, m ≠ S.length → S'[m]? = (S ++ [.lst []])[m]? := by
 have z0 := sz 0 (by decide)
 obtain ⟨S', s2, s3, e, h, f⟩ := six_walk (l := S.length) hd 6 0 [] (S ++ [.lst []]) .no .no (zn3 _ _) (by simp only [List.length_nil]; omega)
 refine ⟨S', ?_, h, f⟩
 refine (zh6 rfl).trans ((congrArg outS (?_ : _ = some (.rt (.ref S.length), S'))).trans rfl)
 refine (zb5 (δ' := [.val (.list (bodyW 2 ps)), .val (.ref S.length), .no, .no]) (S' := S ++ [.lst []]) (zm4 (d := .ref S.length) (by first | rfl | simp only [uS, uD, Nat.reduceAdd, Nat.reduceSub, reduceIte, Nat.reduceEqDiff, List.replicate, if_pos z0]) rfl)).trans ?_
 have r1 : dRng1 (dCons (dC (.int (6))) dNil) [.val (.list (bodyW 2 ps)), .val (.ref S.length), .no, .no] = some (rngD 0 6) := zw0 (n := 6) rfl (by omega)
 exact (zb5 ((zq6 (S1 := S ++ [.lst []]) (ds := rngD 0 6) (zk1 r1)).trans e)).trans rfl
theorem keysL_inv : ∀ (ds : List W) (ks : List Key), keysL ds = some ks → ds = ks.map fun k => match k with | Sum.inl i => W.int i | Sum.inr x => W.str x
 | [], ks, h => by cases h; rfl
 | d :: ds, ks, h => by
  obtain ⟨k, hk, h2⟩ := Option.bind_eq_some_iff.mp h
  obtain ⟨ks', e, rfl⟩ := Option.map_eq_some_iff.mp h2
  rw [keysL_inv ds ks' e]
  cases d with
  | int i => cases hk; rfl
  | str x => cases hk; rfl
  | _ => cases hk
theorem keyN_nil {c : W} (h : keyN c = some []) : c = .none := by
 cases c with
 | none => rfl
 | tuple ds =>
  obtain ⟨ks, e, h2⟩ := Option.bind_eq_some_iff.mp h
  by_cases hk : ks = []
  · rw [if_pos hk] at h2; cases h2
  · rw [if_neg hk] at h2
    exact absurd (Option.some.inj h2) hk
 | _ => cases h
theorem keyN_nk {c : W} {y : Str} (h : keyN c = some (nkK y)) : c = nkW y := by
 cases c with
 | none => cases h
 | tuple ds =>
  obtain ⟨ks, e, h2⟩ := Option.bind_eq_some_iff.mp h
  by_cases hk : ks = []
  · rw [if_pos hk] at h2; cases h2
  · rw [if_neg hk] at h2
    rw [Option.some.inj h2] at e
    rw [keysL_inv ds _ e]
    rfl
 | _ => cases h
theorem yd8 {x y : Str} (h : nkK x = nkK y) : x = y := by
 have := congrArg (·[2]?) h
 simpa [nkK] using this
theorem nkK_df (x : Str) : nkK x ≠ dfK := fun h => absurd (congrArg List.length h) (by simp [nkK, dfK])
def Edge (ps : List (Str × Tr)) (ck : List Key) (e : En) : Prop := ∃ (i : Nat) (p : Str × Tr), ps[i]? = some p ∧ e.2.1 = nkK p.1 ∧ e.2.2 = .int ((i : Int) + 2) ∧ ((ck = [] ∧ own p.2 = true) ∨ ∃ y ∈ nms p.2, ck = nkK y)
theorem allT_inv : ∀ (ps : List (Str × Tr)) (k : Int) (ck : List Key) (e : En), (ck, e) ∈ allT k ps → ck = dfK ∨ ∃ (i : Nat) (p : Str × Tr), ps[i]? = some p ∧ e.2.1 = nkK p.1 ∧ e.2.2 = .int ((i : Int) + k) ∧ ((ck = [] ∧ own p.2 = true) ∨ ∃ y ∈ nms p.2, ck = nkK y)
 | [], k, ck, e, h => absurd h List.not_mem_nil
 | p :: ps, k, ck, e, h => by
  rcases List.mem_append.mp h with h | h
  · rcases List.mem_cons.mp h with h | h
    · exact .inl (congrArg (·.1) h)
    · obtain ⟨c, hc, h⟩ := List.mem_map.mp h
      cases h
      refine .inr ⟨0, p, rfl, rfl, by simp, ?_⟩
      unfold csK at hc
      by_cases ho : own p.2 = true
      · rw [if_pos ho] at hc
        rw [List.mem_singleton.mp hc]
        exact .inl ⟨rfl, ho⟩
      · rw [if_neg ho] at hc
        obtain ⟨y, hy, rfl⟩ := List.mem_map.mp hc
        exact .inr ⟨y, hy, rfl⟩
  · rcases allT_inv ps (k + 1) ck e h with h | ⟨i, q, h1, h2, h3, h4⟩
    · exact .inl h
    · exact .inr ⟨i + 1, q, by simpa using h1, h2, by rw [h3]; congr 1; omega, h4⟩
theorem edT_inv {ps : List (Str × Tr)} {ck : List Key} {e : En} (h : (ck, e) ∈ edT ps) : ck = dfK ∨ Edge ps ck e := by
 rcases List.mem_cons.mp h with h | h
 · exact .inl (congrArg (·.1) h)
 · exact allT_inv ps 2 ck e h
theorem allT_mk : ∀ (ps : List (Str × Tr)) (k : Int) (p : Str × Tr), p ∈ ps → ∀ c ∈ csK p.2, ∃ ln, (c.2, (nkW p.1, nkK p.1, ln)) ∈ allT k ps
 | q :: ps, k, p, h, c, hc => by
  rcases List.mem_cons.mp h with rfl | h
  · exact ⟨.int k, List.mem_append.mpr (.inl (List.mem_cons.mpr (.inr (List.mem_map.mpr ⟨c, hc, rfl⟩))))⟩
  · obtain ⟨ln, h⟩ := allT_mk ps (k + 1) p h c hc
    exact ⟨ln, List.mem_append.mpr (.inr h)⟩
section
variable {ps : List (Str × Tr)} {F : List (List Key × W)} {M N : List Str}
def Why (ps : List (Str × Tr)) (F : List (List Key × W)) (y : Str) (v : W) : Prop := ∃ (j : Nat) (p : Str × Tr) (c : W), ps[j]? = some p ∧ p.1 = y ∧ v = .tuple [.int ((j : Int) + 2), c] ∧ ((c = .none ∧ own p.2 = true) ∨ ∃ z ∈ nms p.2, c = nkW z ∧ valW F (nkK z) ≠ none)
theorem val_of {F : List (List Key × W)} {i : Nat} {k : List Key} {v : W} (h : F[i]? = some (k, v)) : valW F k ≠ none := by
 unfold valW
 cases e : F.find? fun x => decide (x.1 = k) with
 | none => exact absurd (List.find?_eq_none.mp e _ (List.mem_of_getElem? h)) (by simp)
 | some y => simp
theorem zy2 (pi : PI (edT ps) F []) (cm : ∀ q ∈ ps, lo M q.2 = true → q.1 ∈ M) : ∀ (n i : Nat), i < n → ∀ (kk : List Key) (v : W), F[i]? = some (kk, v) → ∃ y ∈ M, kk = nkK y ∧ Why ps F y v
 | 0, i, h, _, _, _ => absurd h (Nat.not_lt_zero _)
 | n + 1, i, h, kk, v, hi => by
  obtain ⟨c, ck, kw, ln, rfl, hc, he, hr⟩ := pi.rs i kk v hi
  have hck : ck = [] ∨ ∃ z ∈ M, ck = nkK z ∧ valW F ck ≠ none := by
   rcases hr with rfl | ⟨j, v', hj, hv⟩
   · exact .inl rfl
   · obtain ⟨z, hz, ez, _⟩ := zy2 pi cm n j (by omega) ck v' hv
     exact .inr ⟨z, hz, ez, val_of hv⟩
  have nd : ck ≠ dfK := by
   rcases hck with rfl | ⟨z, _, rfl, _⟩
   · intro e; cases e
   · exact nkK_df z
  obtain ⟨j, p, h1, h2, h3, h4⟩ := (edT_inv he).resolve_left nd
  have hp := List.mem_of_getElem? h1
  refine ⟨p.1, cm p hp ((yc0 M p.2).mpr ?_), h2, j, p, c, h1, rfl, by rw [← h3], ?_⟩
  · rcases h4 with ⟨_, h⟩ | ⟨y, hy, rfl⟩
    · exact .inl h
    · rcases hck with h | ⟨z, hz, e, _⟩
      · cases h
      · rw [yd8 e] at hy
        exact .inr ⟨z, hy, hz⟩
  · rcases h4 with ⟨rfl, h⟩ | ⟨y, hy, rfl⟩
    · exact .inl ⟨keyN_nil hc, h⟩
    · rcases hck with h | ⟨z, hz, e, hv⟩
      · cases h
      · exact .inr ⟨y, hy, keyN_nk hc, hv⟩
theorem marked_sub (cl : CL (edT ps) none F []) (mi : MI ps N M) : ∀ (n i : Nat), i < n → ∀ x, M[i]? = some x → valW F (nkK x) ≠ none
 | 0, i, h, _, _ => absurd h (Nat.not_lt_zero _)
 | n + 1, i, h, x, hi => by
  obtain ⟨p, hp, rfl, hl⟩ := mi.rs i x hi
  have go : ∀ c ∈ csK p.2, (c.2 = [] ∨ valW F c.2 ≠ none) → valW F (nkK p.1) ≠ none := fun c hc hv => by
   obtain ⟨ln, he⟩ := allT_mk ps 2 p hp c hc
   rcases cl c.2 hv with h | ⟨c', h, _⟩ | h
   · cases h
   · cases h
   · exact h _ (List.mem_cons.mpr (.inr he))
  by_cases ho : own p.2 = true
  · exact go (.none, []) (by simp [csK, ho]) (.inl rfl)
  · obtain ⟨z, hz, hM⟩ := ((yc0 _ p.2).mp hl).resolve_left ho
    obtain ⟨j, hj⟩ := List.getElem?_of_mem hM
    have hj2 : j < i := by
     have := (List.getElem?_eq_some_iff.mp hj).1
     rw [List.length_take] at this
     omega
    rw [List.getElem?_take_of_lt hj2] at hj
    refine go (nkW z, nkK z) ?_ (.inr (marked_sub cl mi n j (by omega) z hj))
    simp [csK, ho]
    exact ⟨z, hz, rfl, rfl⟩
theorem same_names (pi : PI (edT ps) F []) (cl : CL (edT ps) none F []) (mi : MI ps N M) (cm : ∀ q ∈ ps, lo M q.2 = true → q.1 ∈ M) : F.length = M.length ∧ ∀ x ∈ M, ∃ v, valW F (nkK x) = some v ∧ Why ps F x v := by
 have s1 : ∀ k ∈ F.map (·.1), k ∈ M.map nkK := fun k hk => by
  obtain ⟨⟨kk, v⟩, h, rfl⟩ := List.mem_map.mp hk
  obtain ⟨i, hi⟩ := List.getElem?_of_mem h
  obtain ⟨y, hy, e, _⟩ := zy2 pi cm (i + 1) i (by omega) kk v hi
  exact List.mem_map.mpr ⟨y, hy, e.symm⟩
 have s2 : ∀ x ∈ M, valW F (nkK x) ≠ none := fun x hx => by
  obtain ⟨i, hi⟩ := List.getElem?_of_mem hx
  exact marked_sub cl mi (i + 1) i (by omega) x hi
 have n2 : (M.map nkK).Nodup := by
  have := mi.nd
  rw [List.nodup_iff_pairwise_ne] at this ⊢
  rw [List.pairwise_map]
  exact this.imp fun h e => h (yd8 e)
 constructor
 · have h1 := zt8 _ _ pi.nd s1
   have h2 := zt8 (M.map nkK) (F.map (·.1)) n2 fun k hk => by
    obtain ⟨x, hx, rfl⟩ := List.mem_map.mp hk
    obtain ⟨j, v, hj⟩ := val_mem (s2 x hx)
    exact List.mem_map.mpr ⟨_, List.mem_of_getElem? hj, rfl⟩
   simp at h1 h2
   omega
 · intro x hx
   have h := s2 x hx
   unfold valW at h ⊢
   cases e : F.find? fun z => decide (z.1 = nkK x) with
   | none => rw [e] at h; exact absurd rfl h
   | some y =>
    refine ⟨y.2, rfl, ?_⟩
    have y1 : y.1 = nkK x := by simpa using List.find?_some e
    obtain ⟨j, hj⟩ := List.getElem?_of_mem (List.mem_of_find?_eq_some e)
    obtain ⟨z, hz, ez, w⟩ := zy2 pi cm (j + 1) j (by omega) y.1 y.2 hj
    rw [y1] at ez
    rw [yd8 ez]
    exact w
end
theorem opOk : ∀ k : Fin 7, PyData.strOk (opW k) = true := by decide +kernel
theorem yf6 {k : Fin 7} {a b : Tr} (h : okN (.op k a b)) : okN a ∧ okN b := ⟨fun x hx => h x (by rw [yc6]; simp [hx]), fun x hx => h x (by rw [yc6]; simp [hx])⟩
theorem tw_ok : ∀ (t : Tr), okN t → okW (tw t) = true
 | .num v, _ => by simp only [tw, okW, okWs, Bool.and_true]; decide +kernel
 | .sig k, _ => by simp only [tw, okW, okWs, Bool.and_true]; exact sgOk k
 | .nam x, h => by
  have := h x (by simp [nms, nmL, lvs])
  simp only [tw, okW, okWs, Bool.and_true, this]
  decide +kernel
 | .box t, h => by
  have := tw_ok t (fun x hx => h x (by simpa [nms, lvs] using hx))
  simp only [tw, okW, okWs, Bool.and_true, this]
  decide +kernel
 | .op k t u, h => by
  have h1 := tw_ok t (yf6 h).1
  have h2 := tw_ok u (yf6 h).2
  simp only [tw, okW, okWs, Bool.and_true, h1, h2]
  exact opOk k
theorem yb8 : ∀ (t : Tr), depW (tw t) ≤ dep t + 1
 | .num v => by simp [tw, depW, depWs, dep]
 | .sig k => by simp [tw, depW, depWs, dep]
 | .nam x => by simp [tw, depW, depWs, dep]
 | .box t => by have := yb8 t; simp [tw, depW, depWs, dep]; omega
 | .op k t u => by have := yb8 t; have := yb8 u; simp [tw, depW, depWs, dep]; omega
theorem eq_sg (j : Fin 3) (t : Tr) (ho : okN t) (hd : dep t < 9) : cEq (tw t) (.tuple [.str (sgW j)]) = some (isSg j t) := by
 obtain ⟨a, a1, a2, a3, _⟩ := yf5 (tw t) (tw_ok t ho)
 have td := yb8 t
 have c2 : (PyData.tuple [.str (sgW j)]).canLay0 = true := by simp [PyData.canLay0, PyData.canLayAll0, sgOk]
 have p1 : (W.tuple [.str (sgW j)]).py = some (.tuple [.str (sgW j)]) := rfl
 have s1 : scD (tw t) (.tuple [.str (sgW j)]) = none := by cases t <;> rfl
 have e : PyData.eqv a (.tuple [.str (sgW j)]) = isSg j t := by
  by_cases h : isL t = true
  · rw [py_l h] at a1
    rw [← Option.some.inj a1]
    exact eq_l h j
  · cases t with
    | num v => exact absurd rfl h
    | sig k => exact absurd rfl h
    | nam x => exact absurd rfl h
    | box t =>
     simp only [tw, W.py, W.pys, Option.bind_some] at a1
     cases ht : (tw t).py with
     | none => rw [ht] at a1; simp at a1
     | some b => rw [ht] at a1; simp at a1; rw [← a1]; simp [PyData.eqv, PyData.eqvAll, isSg]
    | op k t u =>
     simp only [tw, W.py, W.pys, Option.bind_some] at a1
     cases ht : (tw t).py with
     | none => rw [ht] at a1; simp at a1
     | some b =>
      cases hu : (tw u).py with
      | none => rw [ht, hu] at a1; simp at a1
      | some c => rw [ht, hu] at a1; simp at a1; rw [← a1]; simp [PyData.eqv, PyData.eqvAll, isSg]
 have d1 : a.depth ≤ 64 := by rw [a3]; omega
 simp only [cEq, s1, a1, p1, Option.bind_some, a2, c2, d1, decide_true, Bool.and_self, if_true, e]
theorem nd1 : decide (Str.ofString "box" = Str.ofString "num") = false ∧ decide (Str.ofString "box" = Str.ofString "name") = false := by decide +kernel
theorem yd5 {n : Nat} {j : Fin 3} {t : Tr} (ho : okN t) (hd : dep t < 9) {a : Str} {ts : List W} (e : tw t = .tuple (.str a :: ts)) (h1 : decide (a = Str.ofString "num") = false) (h2 : decide (a = Str.ofString "name") = false) {bs : List Bool} (hc : zk4 (dgName 1) dYes (dCall (zf0 n) (dCons (dVar 1) (dCons (dVar 0) dNil))) [.val (.tuple [.str (sgW j)]), .no] ts = some (bs.map .bool)) (hz : ts.length ≤ 9000) : zf0 (n + 1) [tw t, .tuple [.str (sgW j)]] = some (.bool (isSg j t || bs.any id)) := by
 let δ : DS := [.val (tw t), .val (.tuple [.str (sgW j)])]
 have k0 : dPk 0 δ = some (.tuple (.str a :: ts)) := by rw [← e]; rfl
 have zt := sz _ hz
 show bodyD 2 2 _ _ = _
 refine zj9 rfl (zb9 (zg8 (b := false) (or_F (tF (x0 k0) h1) (tF (x0 k0) h2)) rfl) (zs9 ?_))
 have q := eq_sg j t ho hd
 have c1 : dB (dCmp cEq (dPk 0) (dPk 1)) δ = some (.bool (isSg j t)) := by simp only [δ, uD, Nat.reduceAdd, Nat.reduceSub, reduceIte, Nat.reduceEqDiff, List.replicate, q]
 have c2 : dSeqOf (dSlT (dVar 0) (dPart (dC (.int (1)))) dNoPart) δ = some ts := by simp only [δ, e, uD, Nat.reduceAdd, Nat.reduceSub, reduceIte, Nat.reduceEqDiff, List.replicate, dSlT, cut_1]
 have c3 : dC1 gAny (dOwn (dComp [some 1, none] (dSeqOf (dSlT (dVar 0) (dPart (dC (.int (1)))) dNoPart)) (dgName 1) dYes (dCall (zf0 n) (dCons (dVar 1) (dCons (dVar 0) dNil))))) δ = some (.bool (bs.any id)) := by
  have l1 : liftD [some 1, none] δ = [.val (.tuple [.str (sgW j)]), .no] := rfl
  simp only [dC1, dOwn, dComp, c2, l1, hc, if_pos zt, Option.bind_some, Option.map_some, gAny, ya2, yh0]
 show dOrV _ _ δ = _
 simp only [dOrV, c1, c3, Option.bind_some, asB_b]
 cases isSg j t <;> rfl
theorem dg1 {pf : List W → Option W} {f : DS → Option W} {δ δ2 : DS} {d e : W} {ds es : List W} {h : W → DS → Option DS} (h1 : h d δ = some δ2) (h2 : f δ2 = some e) (h3 : zk4 h dYes f δ ds = some es) : zk4 h dYes f δ (d :: ds) = some (e :: es) := by
 have y : dYes δ2 = some true := rfl
 simp only [zk4, h1, y, Option.bind_some, if_true, h2, h3, Option.map_some]
theorem zx3 (j : Fin 3) : ∀ (t : Tr) (n : Nat), dep t < n → dep t < 9 → okN t → zf0 n [tw t, .tuple [.str (sgW j)]] = some (.bool ((lvs t).any (isSg j)))
 | _, 0, h, _, _ => absurd h (Nat.not_lt_zero _)
 | .num v, n + 1, _, hd, ho => by
  have q := eq_sg j (.num v) ho hd
  show bodyD 2 2 _ _ = _
  exact zj9 rfl (yh6 (zg8 (b := true) (or_L (tT (x0 rfl))) (zs9 (by simp only [uD, Nat.reduceAdd, Nat.reduceSub, reduceIte, Nat.reduceEqDiff, List.replicate, q]; rfl))))
 | .sig k, n + 1, _, hd, ho => by
  have := yd5 (n := n) (j := j) ho hd (t := .sig k) (bs := []) rfl (sg1 k) (sg2 k) rfl (by decide)
  rw [this]
  simp [lvs]
 | .nam x, n + 1, _, hd, ho => by
  have q := eq_sg j (.nam x) ho hd
  show bodyD 2 2 _ _ = _
  exact zj9 rfl (yh6 (zg8 (b := true) (or_R (tF (x0 rfl) na2) (tT (x0 rfl))) (zs9 (by simp only [uD, Nat.reduceAdd, Nat.reduceSub, reduceIte, Nat.reduceEqDiff, List.replicate, q]; rfl))))
 | .box t, n + 1, h, hd, ho => by
  have ih := zx3 j t n (by simp only [dep] at h; omega) (by simp only [dep] at hd; omega) (fun x hx => ho x (by simpa [nms, lvs] using hx))
  have := yd5 (n := n) (j := j) ho hd (t := .box t) (bs := [(lvs t).any (isSg j)]) rfl nd1.1 nd1.2 (dg1 (pf := zf0 n) rfl (by simp only [uD, Nat.reduceAdd, Nat.reduceSub, reduceIte, Nat.reduceEqDiff, List.replicate, ih]) rfl) (by simp)
  rw [this]
  simp [lvs, isSg]
 | .op k a b, n + 1, h, hd, ho => by
  have iha := zx3 j a n (by simp only [dep] at h; omega) (by simp only [dep] at hd; omega) (yf6 ho).1
  have ihb := zx3 j b n (by simp only [dep] at h; omega) (by simp only [dep] at hd; omega) (yf6 ho).2
  have := yd5 (n := n) (j := j) ho hd (t := .op k a b) (bs := [(lvs a).any (isSg j), (lvs b).any (isSg j)]) rfl (op1 k) (op2 k) (dg1 (pf := zf0 n) rfl (by simp only [uD, Nat.reduceAdd, Nat.reduceSub, reduceIte, Nat.reduceEqDiff, List.replicate, iha]) (dg1 (pf := zf0 n) rfl (by simp only [uD, Nat.reduceAdd, Nat.reduceSub, reduceIte, Nat.reduceEqDiff, List.replicate, ihb]) rfl)) (by simp)
  rw [this]
  simp [lvs, isSg]
theorem yc9 (t : Tr) : (nms t).length ≤ cnt t := Nat.le_trans (List.length_filterMap_le _ _) (zq5 t)
theorem cN {f : DS → Option W} {δ : DS} {a b : Str} (h1 : f δ = some (.str a)) (h2 : decide (a = b) = false) : dCmp cNe f (dC (.str b)) δ = some true := by
 have := tF (b := b) h1 h2
 simp only [uD, Nat.reduceAdd, Nat.reduceSub, reduceIte, Nat.reduceEqDiff, List.replicate, h1, h2] at this ⊢
theorem ye4 {pf : List W → Option W} {e x : W} {ds es : List Str} (h : pf [x] = some (.list (es.map .str))) (hz : ds.length + es.length ≤ 9000) : zm0 pf [.val e, .val (.list (ds.map .str)), .val x] = some (.nx [.val e, .val (.list ((ds ++ es).map .str)), .val x]) := by
 have g : gAdd (.list (ds.map W.str)) (.list (es.map W.str)) = some (.list ((ds ++ es).map W.str)) := by rw [yg1 (sz _ (by simp; omega)), List.map_append]
 simp only [zm0, uD, Nat.reduceAdd, Nat.reduceSub, reduceIte, Nat.reduceEqDiff, List.replicate, h, g]
theorem go_nx {h : W → DS → Option DS} {f : DS → Option Out} {d : W} {ds : List W} {δ δ2 δ' : DS} {o : Option Out} (h1 : h d δ = some δ2) (h2 : f δ2 = some (.nx δ')) (h3 : zg4 h f ds δ' = o) : zg4 h f (d :: ds) δ = o := by
 rw [← h3]
 show (h d δ).bind _ = _
 rw [h1]
 show (match f δ2 with | some (.nx δ') => _ | some (.ct δ') => _ | some (.bk δ') => _ | some (.rt d) => _ | none => _) = _
 rw [h2]
theorem zt5 : ∀ (t : Tr) (n : Nat), dep t < n → cnt t ≤ 900 → ze1 n [tw t] = some (.list ((nms t).map .str))
 | _, 0, h, _ => absurd h (Nat.not_lt_zero _)
 | .num v, n + 1, _, _ => by
  have z0 := sz 0 (by decide)
  show bodyD 1 3 _ _ = _
  refine zj9 rfl ((iF (x0 rfl) nu2).trans ?_)
  simp only [startD, tw, uD, Nat.reduceAdd, Nat.reduceSub, reduceIte, Nat.reduceEqDiff, List.replicate, at0, if_pos z0, decide_true, Bool.not_true]
  rfl
 | .sig k, n + 1, _, _ => by
  have z0 := sz 0 (by decide)
  show bodyD 1 3 _ _ = _
  refine zj9 rfl ((iF (x0 rfl) (sg2 k)).trans ?_)
  simp only [startD, tw, uD, Nat.reduceAdd, Nat.reduceSub, reduceIte, Nat.reduceEqDiff, List.replicate, dSlT, cut_1, zg4, at0, sg1, if_pos z0, Bool.not_false]
  rfl
 | .nam x, n + 1, _, _ => by
  have z1 := sz 1 (by decide)
  show bodyD 1 3 _ _ = _
  exact zj9 rfl (iT (x0 rfl) (zs9 (by simp only [startD, tw, uD, Nat.reduceAdd, Nat.reduceSub, reduceIte, Nat.reduceEqDiff, List.replicate, at1, if_pos z1]; rfl)))
 | .box t, n + 1, h, hc => by
  have z0 := sz 0 (by decide)
  simp only [cnt] at hc
  have ih := zt5 t n (by simp only [dep] at h; omega) (by omega)
  have l := yc9 t
  show bodyD 1 3 _ _ = _
  refine zj9 rfl ((iF (x0 rfl) bx2).trans ?_)
  refine zb9 (δ1 := [.val (tw (.box t)), .val (.list (([] : List Str).map .str)), .no]) (by simp only [startD, uD, Nat.reduceAdd, Nat.reduceSub, reduceIte, Nat.reduceEqDiff, List.replicate, if_pos z0, List.map_nil]) ?_
  refine zb9 (zg8 (b := true) (cN (x0 rfl) bx1) (zs8 (ds := [tw t]) (by simp only [tw, uD, Nat.reduceAdd, Nat.reduceSub, reduceIte, Nat.reduceEqDiff, List.replicate, dSlT, cut_1]) (go_nx rfl (ye4 (ds := []) ih (by simp; omega)) rfl))) ?_
  simp only [uD, Nat.reduceAdd, Nat.reduceSub, reduceIte, Nat.reduceEqDiff, List.replicate, List.nil_append]
  rfl
 | .op k a b, n + 1, h, hc => by
  have z0 := sz 0 (by decide)
  simp only [cnt] at hc
  have iha := zt5 a n (by simp only [dep] at h; omega) (by omega)
  have ihb := zt5 b n (by simp only [dep] at h; omega) (by omega)
  have la := yc9 a
  have lb := yc9 b
  have s1 := ye4 (pf := ze1 n) (e := tw (.op k a b)) (ds := []) iha (by simp; omega)
  have s2 := ye4 (pf := ze1 n) (e := tw (.op k a b)) (ds := nms a) ihb (by omega)
  show bodyD 1 3 _ _ = _
  refine zj9 rfl ((iF (x0 rfl) (op2 k)).trans ?_)
  refine zb9 (δ1 := [.val (tw (.op k a b)), .val (.list (([] : List Str).map .str)), .no]) (by simp only [startD, uD, Nat.reduceAdd, Nat.reduceSub, reduceIte, Nat.reduceEqDiff, List.replicate, if_pos z0, List.map_nil]) ?_
  refine zb9 (δ1 := [.val (tw (.op k a b)), .val (.list ((nms a ++ nms b).map .str)), .val (tw b)]) (zg8 (b := true) (cN (x0 rfl) (op1 k)) (zs8 (ds := [tw a, tw b]) (by simp only [tw, uD, Nat.reduceAdd, Nat.reduceSub, reduceIte, Nat.reduceEqDiff, List.replicate, dSlT, cut_1]) ?_)) ?_
  · exact go_nx rfl s1 (go_nx rfl s2 rfl)
  · simp only [uD, Nat.reduceAdd, Nat.reduceSub, reduceIte, Nat.reduceEqDiff, List.replicate]
    rw [yc6]
theorem yh7 {S : Sto} {d : Nat} {kvs : List (List Key × W)} {x : W} {ks : List Key} (h : S[d]? = some (.dT kvs)) (hk : zr2 x = some ks) : getK (.ref d) x S = some (valW kvs ks) := by simp [getK, obAt, h, hk]
theorem eq_nk (y z : Str) (hy : PyData.strOk y = true) (hz : PyData.strOk z = true) : cEq (nkW y) (nkW z) = some (decide (y = z)) := by
 have s1 : scD (nkW y) (nkW z) = none := rfl
 have m1 : PyData.strOk (Str.ofString "main") = true := by decide +kernel
 have py : ∀ y, (nkW y).py = some (.tuple [.str "name", .str "main", .str y]) := fun y => rfl
 have l1 : ∀ y, PyData.strOk y = true → (PyData.tuple [.str "name", .str "main", .str y]).canLay0 = true := fun y h => by simp [PyData.canLay0, PyData.canLayAll0, h, nuOk, m1]
 have d1 : (PyData.tuple [.str "name", .str "main", .str y]).depth ≤ 64 := by simp [PyData.depth, PyData.depthAll]
 have e : PyData.eqv (.tuple [.str "name", .str "main", .str y]) (.tuple [.str "name", .str "main", .str z]) = decide (y = z) := by
  simp [PyData.eqv, PyData.eqvAll]
  by_cases h : y = z <;> simp [h]
 simp only [cEq, s1, py, Option.bind_some, l1 y hy, l1 z hz, d1, decide_true, Bool.and_self, if_true, e]
section
variable {S : Sto} {f : Nat} {F : List (List Key × W)}
theorem rg_loop (hf : S[f]? = some (.dT F)) {s1 s2 : Sl} {ln : W} {z : Str} {s4 : Sl} (hz : PyData.strOk z = true) (hv : valW F (nkK z) ≠ none) : ∀ (xs : List Str) (s5 : Sl), z ∈ xs → (∀ x ∈ xs, PyData.strOk x = true) → zm9 (dgName 5) zf6 (xs.map .str) [.val (.ref f), s1, s2, .val (.tuple [ln, nkW z]), s4, s5] S = some (.rt (.bool true), S)
 | [], _, h, _ => absurd h List.not_mem_nil
 | x :: xs, s5, h, ho => by
  have z3 := sz 3 (by decide)
  let δ : DS := [.val (.ref f), s1, s2, .val (.tuple [ln, nkW z]), s4, .val (.str x)]
  have q := eq_nk z x hz (ho x (by simp))
  have c1 : dCmp cEq (dOp gIx (dPk 3) (dC (.int (1)))) (dTup (dCons (dC (.str "name")) (dCons (dC (.str "main")) (dCons (dVar 5) dNil)))) δ = some (decide (z = x)) := by
   have e1 : dOp gIx (dPk 3) (dC (.int (1))) δ = some (nkW z) := x1 rfl
   have e2 : dTup (dCons (dC (.str "name")) (dCons (dC (.str "main")) (dCons (dVar 5) dNil))) δ = some (nkW x) := by simp only [δ, uD, Nat.reduceAdd, Nat.reduceSub, reduceIte, Nat.reduceEqDiff, List.replicate, if_pos z3]; rfl
   simp only [dCmp, e1, e2, Option.bind_some, q]
  by_cases e : z = x
  · subst e
    rw [decide_eq_true rfl] at c1
    have r : zf6 δ S = some (.rt (.bool true), S) := by
     refine (yc3 (zk1 c1)).trans (zw9 ?_)
     have e1 : sPure (dOp gIx (dPk 3) (dC (.int (1)))) δ S = some (.ok (nkW z), S) := zk1 (x1 rfl)
     have e2 : sPure (dVar 0) δ S = some (.ok (.ref f), S) := rfl
     have g := yh7 (x := nkW z) hf rfl
     simp only [sDInV, e1, e2, sBind, g, Option.map_some, sOk]
     have : (valW F (nkK z)).isSome = true := by
      cases hq : valW F (nkK z) with
      | none => exact absurd hq hv
      | some v => rfl
     show some (Rs.ok (W.bool (valW F (nkK z)).isSome), S) = _
     rw [this]
    show (dgName 5 (W.str z) [.val (.ref f), s1, s2, .val (.tuple [ln, nkW z]), s4, s5]).bind _ = _
    show (match zf6 δ S with | some (.nx δ', S') => _ | some (.ct δ', S') => _ | some (.bk δ', S') => _ | some (.rt d, S') => _ | some (.xc c, S') => _ | none => _) = _
    rw [r]
  · rw [decide_eq_false e] at c1
    have r : zf6 δ S = some (.nx δ, S) := (zr3 (zk1 c1)).trans rfl
    exact (zm2 (h := dgName 5) rfl r).trans (rg_loop hf hz hv xs _ ((List.mem_cons.mp h).resolve_left e) fun y hy => ho y (by simp [hy]))
end
theorem bodyW_get : ∀ (ps : List (Str × Tr)) (k : Int) (j : Nat), (bodyW k ps)[j]? = (ps[j]?).map (stW ((j : Int) + k))
 | [], k, j => by simp [bodyW]
 | p :: ps, k, 0 => by simp [bodyW]
 | p :: ps, k, j + 1 => by
  rw [bodyW, List.getElem?_cons_succ, List.getElem?_cons_succ, bodyW_get ps (k + 1) j]
  congr 2
  omega
theorem whole_run (i : Int) : zm6 [.int i] = some (.bool true) := by
 first | rfl | simp +decide only [zm6, uD, Nat.reduceAdd, Nat.reduceSub, reduceIte, Nat.reduceEqDiff, List.replicate]
theorem good_run {S : Sto} {f : Nat} {F : List (List Key × W)} {ps : List (Str × Tr)} {x : Str} {v : W} (hf : S[f]? = some (.dT F)) (hv : valW F (nkK x) = some v) (hw : Why ps F x v) (hp : ∀ p ∈ ps, okP p) (hx : PyData.strOk x = true) (hl : ps.length ≤ 63) : zh2 [.ref f, .list (bodyW 2 ps), .str x] S = some (.ok (.bool true), S) := by
 obtain ⟨j, p, c, hj, rfl, rfl, hc⟩ := hw
 have z1 := sz 1 (by decide)
 have z3 := sz 3 (by decide)
 have op := hp p (List.mem_of_getElem? hj)
 have jl := (List.getElem?_eq_some_iff.mp hj).1
 have bl := zu4 ps 2
 let B : W := .list (bodyW 2 ps)
 let v : W := .tuple [.int ((j : Int) + 2), c]
 let δ0 : DS := [.val (.ref f), .val B, .val (.str p.1), .no, .no, .no]
 let δ1 : DS := [.val (.ref f), .val B, .val (.str p.1), .val v, .no, .no]
 let δ2 : DS := [.val (.ref f), .val B, .val (.str p.1), .val v, .val (stW ((j : Int) + 2) p), .no]
 refine (zh6 rfl).trans ((congrArg outS (?_ : _ = some (.rt (.bool true), S))).trans rfl)
 refine (zb5 (δ' := δ1) (S' := S) (zm4 (d := v) (S1 := S) ?_ rfl)).trans ?_
 · have e1 : sPure (dVar 0) δ0 S = some (.ok (.ref f), S) := rfl
   have e2 : sPure (dTup (dCons (dC (.str "name")) (dCons (dC (.str "main")) (dCons (dVar 2) dNil)))) δ0 S = some (.ok (nkW p.1), S) := zk1 (by simp only [δ0, uD, Nat.reduceAdd, Nat.reduceSub, reduceIte, Nat.reduceEqDiff, List.replicate, if_pos z3]; rfl)
   have g := yh7 (x := nkW p.1) hf rfl
   show sDGet _ _ δ0 S = _
   simp only [sDGet, e1, e2, sBind, g, Option.bind_some, sOk]
   show Option.map _ (valW F (nkK p.1)) = _
   rw [hv]
   rfl
 have i0 : dOp gIx (dPk 3) (dC (.int (0))) δ1 = some (.int ((j : Int) + 2)) := x0 rfl
 refine (zb5 (δ' := δ1) (S' := S) (zf3 (zg8 (b := false) ?_ rfl))).trans ?_
 · refine or_F ?_ (or_F ?_ ?_)
   · first | rfl | simp +decide only [δ1, v, uD, Nat.reduceAdd, Nat.reduceSub, reduceIte, Nat.reduceEqDiff, List.replicate, gIsiB]
   · first | rfl | simp +decide only [δ1, v, uD, Nat.reduceAdd, Nat.reduceSub, reduceIte, Nat.reduceEqDiff, List.replicate]
   · simp only [dNot, dTru, dCall, dCons, i0, Option.bind_some, dNil, Option.map_some, whole_run]
     rfl
 refine (zb5 (δ' := δ1) (S' := S) (zf3 (zg8 (b := false) (or_F ?_ ?_) rfl))).trans ?_
 · simp only [dCmp, i0, Option.bind_some, dC]
   show some (decide ((j : Int) + 2 < 2)) = _
   rw [decide_eq_false (by omega)]
 · have e1 : dOp gAdd (dC1 gLen (dPk 1)) (dC (.int (1))) δ1 = some (.int (((bodyW 2 ps).length : Nat) + 1)) := by first | rfl | simp only [δ1, B, uD, Nat.reduceAdd, Nat.reduceSub, reduceIte, Nat.reduceEqDiff, List.replicate]
   simp only [dCmp, i0, Option.bind_some, e1]
   show some (decide ((((bodyW 2 ps).length : Nat) : Int) + 1 < (j : Int) + 2)) = _
   rw [decide_eq_false (by omega)]
 refine (zb5 (δ' := δ2) (S' := S) (zf3 (zi9 (d := stW ((j : Int) + 2) p) ?_ rfl))).trans ?_
 · have e1 : dOp gSub' (dOp gIx (dPk 3) (dC (.int (0)))) (dC (.int (2))) δ1 = some (.int (((j : Int) + 2) - 2)) := by simp only [dOp, i0, Option.bind_some, dC]; rfl
   have e2 : ((j : Int) + 2) - 2 = (j : Int) := by omega
   rw [e2] at e1
   have e3 : dPk 1 δ1 = some B := rfl
   simp only [dOp] at e1 ⊢
   rw [e3]
   simp only [Option.bind_some, e1, B, gIx_l]
   rw [atN _ j (by omega), bodyW_get, hj]
   rfl
 refine (zb5 (δ' := δ2) (S' := S) (zf3 (zg8 (b := false) ?_ rfl))).trans ?_
 · have e1 : dOp gIx (dPk 4) (dC (.int (2))) δ2 = some (.str p.1) := x2 rfl
   have e2 : dPk 2 δ2 = some (.str p.1) := rfl
   simp only [dCmp, e1, e2, Option.bind_some]
   exact cNe_self (by simpa [okW] using op.x) (by simp [depW])
 have i1 : dOp gIx (dPk 3) (dC (.int (1))) δ2 = some c := x1 rfl
 have i3 : dOp gIx (dPk 4) (dC (.int (3))) δ2 = some (tw p.2) := x3 rfl
 rcases hc with ⟨rfl, ho⟩ | ⟨z, hz, rfl, hvz⟩
 · refine zw6 (ssPure_rt (zg8 (b := true) ?_ (zs9 ?_)))
   · simp only [dCmp, i1, Option.bind_some, dC]
     rfl
   · have h0 := zx3 0 p.2 9 op.d op.d op.o
     have h2 := zx3 2 p.2 9 op.d op.d op.o
     have e0 : dCall (zf0 9) (dCons (dOp gIx (dPk 4) (dC (.int (3)))) (dCons (dTup (dCons (dC (.str "lane")) dNil)) dNil)) δ2 = some (.bool ((lvs p.2).any (isSg 0))) := by
      have t : dTup (dCons (dC (.str "lane")) dNil) δ2 = some (.tuple [.str (sgW 0)]) := by simp only [uD, Nat.reduceAdd, Nat.reduceSub, reduceIte, Nat.reduceEqDiff, List.replicate, if_pos z1]; rfl
      simp only [dCall, dCons, i3, t, Option.bind_some, dNil, Option.map_some, h0]
     have e2 : dCall (zf0 9) (dCons (dOp gIx (dPk 4) (dC (.int (3)))) (dCons (dTup (dCons (dC (.str "mine")) dNil)) dNil)) δ2 = some (.bool ((lvs p.2).any (isSg 2))) := by
      have t : dTup (dCons (dC (.str "mine")) dNil) δ2 = some (.tuple [.str (sgW 2)]) := by simp only [uD, Nat.reduceAdd, Nat.reduceSub, reduceIte, Nat.reduceEqDiff, List.replicate, if_pos z1]; rfl
      simp only [dCall, dCons, i3, t, Option.bind_some, dNil, Option.map_some, h2]
     unfold own at ho
     simp only [dOrV, e0, e2, Option.bind_some, asB_b]
     cases h : (lvs p.2).any (isSg 0) with
     | true => rfl
     | false => rw [h, Bool.false_or] at ho; rw [ho]; rfl
 · refine (zb5 (δ' := δ2) (S' := S) (zf3 (zg8 (b := false) ?_ rfl))).trans ?_
   · simp only [dCmp, i1, Option.bind_some, dC]
     rfl
   · have nr := zt5 p.2 9 op.d (by have := op.c; omega)
     refine zw6 ((zq6 (S1 := S) (ds := (nms p.2).map .str) (zk1 ?_)).trans (rg_loop hf (op.o z hz) hvz (nms p.2) .no hz op.o))
     have e0 : dCall (ze1 9) (dCons (dOp gIx (dPk 4) (dC (.int (3)))) dNil) δ2 = some (.list ((nms p.2).map .str)) := by simp only [dCall, dCons, i3, Option.bind_some, dNil, Option.map_some, nr]
     simp only [dSeqOf, e0, Option.bind_some]
     rfl
theorem pow30 : gPow (.int 10) (.int 30) = some (.int 1000000000000000000000000000000) := by
 show (if okPow 10 30 = true then some (W.int ((10 : Int) ^ (30 : Int).toNat)) else none) = _
 rw [if_pos (by decide +kernel)]
 rfl
theorem pow11 : gPow (.int 10) (.int 11) = some (.int 100000000000) := by
 show (if okPow 10 11 = true then some (W.int ((10 : Int) ^ (11 : Int).toNat)) else none) = _
 rw [if_pos (by decide +kernel)]
 rfl
theorem okMul_b {i j : Int} (h1 : 0 ≤ i) (h2 : i < 2 ^ 190) (h3 : 0 ≤ j) (h4 : j < 2 ^ 190) : okMul i j = true := by
 have e : (2 : Nat) ^ 190 < 2 ^ 200 := Nat.pow_lt_pow_right (by decide) (by decide)
 simp only [okMul, Bool.and_eq_true, Bool.or_eq_true, decide_eq_true_eq]
 exact .inr ⟨Nat.lt_trans (by omega) e, Nat.lt_trans (by omega) e⟩
theorem zr9 (c : Int) (k : Nat) (hk : k < 9000) : ∃ m : Int, ze2 [.int c, .int (k : Int)] = some (.int m) ∧ 0 ≤ m := by
 have hm := zm7 c (j := 1000000000000000000000000000057) (by decide)
 generalize hx : c.fmod 1000000000000000000000000000057 = x at hm
 have g1 : gMul (.int x) (.int 271828182845904523536028747135) = some (.int (x * 271828182845904523536028747135)) := yg0 (okMul_b hm.1 (Int.lt_trans hm.2 (by decide)) (by decide) (by decide))
 have g2 : gMul (.int (k : Int)) (.int (k : Int)) = some (.int ((k : Int) * k)) := yg0 (ye0 (by omega) (by omega))
 have kk : (k : Int) * k ≤ 9000 * 9000 := Int.mul_le_mul (by omega) (by omega) (by omega) (by omega)
 have k0 : 0 ≤ (k : Int) * k := Int.mul_nonneg (by omega) (by omega)
 have g3 : gMul (.int ((k : Int) * k)) (.int 314159265358979323846264338327) = some (.int ((k : Int) * k * 314159265358979323846264338327)) := yg0 (ye0 (by omega) (by omega))
 have ga : (1000000000000000000000000000000 : Int) + 57 = 1000000000000000000000000000057 := by decide
 refine ⟨(x * 271828182845904523536028747135 + (k : Int) * k * 314159265358979323846264338327 + 577215664901532860606512090082).fmod 1000000000000000000000000000057, ?_, (zm7 _ (by decide)).1⟩
 have md : ∀ i : Int, gMod (.int i) (.int 1000000000000000000000000000057) = some (.int (i.fmod 1000000000000000000000000000057)) := fun i => yi7 (by simp only [okMod]; decide)
 have mx := md c
 rw [hx] at mx
 simp only [ze2, uD, Nat.reduceAdd, Nat.reduceSub, reduceIte, Nat.reduceEqDiff, List.replicate, pow30, ga, md, mx, hx, g1, g2, g3]
theorem cell_run (ns : List Int) (k : Nat) : ∃ c : Int, zf2 [.list (ns.map .int), .int (k : Int)] = some (.int c) := by
 by_cases h : (k : Int) < ns.length
 · have e1 : decide ((k : Int) < ((ns.map W.int).length : Nat)) = true := by simpa using h
   refine ⟨ns[k]?.getD 0, ?_⟩
   have at1 := at_map ns (k : Int) (by omega) h
   simp only [zf2, uD, Nat.reduceAdd, Nat.reduceSub, reduceIte, Nat.reduceEqDiff, List.replicate, e1, at1]
   rfl
 · have e1 : decide ((k : Int) < ((ns.map W.int).length : Nat)) = false := by simpa using h
   refine ⟨0, ?_⟩
   simp only [zf2, uD, Nat.reduceAdd, Nat.reduceSub, reduceIte, Nat.reduceEqDiff, List.replicate, e1]
def abcW : Str := Str.ofString "abcdefghijklmnopqrstuvwxyz"
theorem abc_len : abcW.cps.toList.length = 26 := by decide +kernel
theorem abc_asc : Asc abcW := by unfold Asc; decide +kernel
theorem abc_at (i : Int) (h0 : 0 ≤ i) (h1 : i < 26) : ∃ c : Nat, gIx (.str abcW) (.int i) = some (.str ⟨#[c]⟩) ∧ Asc ⟨#[c]⟩ := by
 have hz : abcW.length ≤ sizeLine := sz _ (by decide +kernel)
 obtain ⟨k, rfl⟩ : ∃ k : Nat, i = k := ⟨i.toNat, by omega⟩
 have hk : k < abcW.cps.toList.length := by rw [abc_len]; omega
 refine ⟨abcW.cps.toList[k], ?_, ?_⟩
 · show (if abcW.length ≤ sizeLine then (atI abcW.cps.toList (k : Int)).map fun c => W.str ⟨#[c]⟩ else none) = _
   rw [if_pos hz, atN _ k hk, List.getElem?_eq_getElem hk]
   rfl
 · exact Asc.one abc_asc (i := (k : Int)) (by rw [atN _ k hk, List.getElem?_eq_getElem hk])
def KP : List Str := [Str.ofString "def", Str.ofString "set", Str.ofString "put", Str.ofString "tell", Str.ofString "if", Str.ofString "else", Str.ofString "while", Str.ofString "end", Str.ofString "break", Str.ofString "again", Str.ofString "call", Str.ofString "return", Str.ofString "stop", Str.ofString "join", Str.ofString "meet", Str.ofString "lane", Str.ofString "lanes", Str.ofString "mine", Str.ofString "box", Str.ofString "div", Str.ofString "rem", Str.ofString "sum", Str.ofString "most", Str.ofString "least", Str.ofString "ahead"]
theorem cIn_s (x : Str) (acc : List Str) : cIn (.str x) (.list (acc.map .str)) = some (decide (x ∈ acc)) := by
 have e1 : seqD (.list (acc.map .str)) = some (acc.map .str) := rfl
 simp only [cIn, e1, Option.bind_some, vOf, yg9, Option.map_some, yi5]
theorem yg3 (c : Nat) : (⟨#[c]⟩ : Str).length = 1 := rfl
theorem nm1 (s0 s2 s3 s4 s8 s9 s10 : Sl) : ∀ (n : Nat) (lo rest : Int) (b : Str) (s7 : Sl), Asc b → b.length + n ≤ 100 → ∃ (rest' : Int) (b' : Str) (s7' : Sl), zg4 (dgName 7) zp5 (rngD lo n) [s0, .val (.str abcW), s2, s3, s4, .val (.int rest), .val (.str b), s7, s8, s9, s10] = some (.nx [s0, .val (.str abcW), s2, s3, s4, .val (.int rest'), .val (.str b'), s7', s8, s9, s10]) ∧ Asc b' ∧ b'.length = b.length + n
 | 0, lo, rest, b, s7, hb, _ => ⟨rest, b, s7, rfl, hb, rfl⟩
 | n + 1, lo, rest, b, s7, hb, hn => by
  have h1 := zm7 rest (j := 26) (by decide)
  obtain ⟨c, ec, hc⟩ := abc_at _ h1.1 h1.2
  have ga : gAdd (.str b) (.str ⟨#[c]⟩) = some (.str (b ++ ⟨#[c]⟩)) := yh9 (sz _ (by rw [yg3]; omega))
  have ln : (b ++ ⟨#[c]⟩ : Str).length = b.length + 1 := by rw [yd7, yg3]
  obtain ⟨r', b', s7', e, a, l⟩ := nm1 s0 s2 s3 s4 s8 s9 s10 n (lo + 1) (rest.fdiv 26) (b ++ ⟨#[c]⟩) (.val (.int lo)) (hb.app hc) (by omega)
  refine ⟨r', b', s7', ?_, a, by omega⟩
  rw [zu2]
  refine go_nx rfl ?_ e
  simp +decide only [zp5, uD, Nat.reduceAdd, Nat.reduceSub, reduceIte, Nat.reduceEqDiff, List.replicate, ec, ga]
theorem yh2 (z : Str) (lo hi : Option Int) : (Txt.slice z lo hi).length ≤ z.length := Txt.slice_le z _ _
section
variable {s0 : Sl} {L P rest : Int} {b : Str}
def dN (s0 : Sl) (L P rest : Int) (b : Str) (s7 s8 s9 s10 : Sl) : DS := [s0, .val (.str abcW), .val (.list (KP.map .str)), .val (.int L), .val (.int P), .val (.int rest), .val (.str b), s7, s8, s9, s10]
theorem nm2_step (hb : Asc b) (hl : b.length ≤ 100) (k : Int) (h0 : 0 ≤ k) (h1 : k ≤ 6) (acc : List W) (ha : acc.length < 100) (s9 s10 : Sl) : ∃ (w : Str) (t9 : Sl), Asc w ∧ zp3 (dN s0 L P rest b (.val (.int k)) (.own acc) s9 s10) = some (.nx (dN s0 L P rest b (.val (.int k)) (.own (acc ++ [.str w])) t9 (.val (.str w)))) := by
 have hz : b.length ≤ 1000 := by omega
 have zl : acc.length < sizeLine := Nat.lt_of_lt_of_le ha (sz 100 (by decide))
 have h2 := zm7 (rest + 5 * k) (j := 26) (by decide)
 obtain ⟨c, ec, hc⟩ := abc_at _ h2.1 h2.2
 have gm : gMul (.int 5) (.int k) = some (.int (5 * k)) := yg0 (ye0 (by decide) (by decide))
 let a1 := Txt.slice b none (some P)
 let a2 := Txt.slice b (some (P + 1)) (some L)
 have l1 : a1.length ≤ b.length := yh2 _ _ _
 have l2 : a2.length ≤ b.length := yh2 _ _ _
 have g1 : gAdd (.str a1) (.str ⟨#[c]⟩) = some (.str (a1 ++ ⟨#[c]⟩)) := yh9 (sz _ (by rw [yg3]; omega))
 have l3 : (a1 ++ ⟨#[c]⟩ : Str).length = a1.length + 1 := by rw [yd7, yg3]
 have g2 : gAdd (.str (a1 ++ ⟨#[c]⟩)) (.str a2) = some (.str (a1 ++ ⟨#[c]⟩ ++ a2)) := yh9 (sz _ (by omega))
 have l4 : (a1 ++ ⟨#[c]⟩ ++ a2 : Str).length = (a1 ++ ⟨#[c]⟩ : Str).length + a2.length := yd7 _ _
 have k1 : Asc (a1 ++ ⟨#[c]⟩ ++ a2 : Str) := ((hb.slice _ _).app hc).app (hb.slice _ _)
 let sg : W := .str ⟨#[c]⟩
 let w1 : Str := a1 ++ ⟨#[c]⟩ ++ a2
 have e1 : dsAsg (dOp gIx (dPk 1) (dOp gMod (dOp gAdd (dPk 5) (dOp gMul (dC (.int (5))) (dVar 7))) (dC (.int (26))))) (dgName 9) (dN s0 L P rest b (.val (.int k)) (.own acc) s9 s10) = some (.nx (dN s0 L P rest b (.val (.int k)) (.own acc) (.val sg) s10)) := by
  simp +decide only [dN, uD, Nat.reduceAdd, Nat.reduceSub, reduceIte, Nat.reduceEqDiff, List.replicate, gm, ec]
  rfl
 have e2 : dsAsg (dOp gAdd (dOp gAdd (dSlS (dVar 6) dNoPart (dPart (dVar 4))) (dVar 9)) (dSlS (dVar 6) (dPart (dOp gAdd (dPk 4) (dC (.int (1))))) (dPart (dVar 3)))) (dgName 10) (dN s0 L P rest b (.val (.int k)) (.own acc) (.val sg) s10) = some (.nx (dN s0 L P rest b (.val (.int k)) (.own acc) (.val sg) (.val (.str w1)))) := by
  simp only [dN, dSlS, strD, uD, Nat.reduceAdd, Nat.reduceSub, reduceIte, Nat.reduceEqDiff, List.replicate, if_pos hz, sg]
  rw [show gAdd (W.str (Txt.slice b none (some P))) (.str ⟨#[c]⟩) = some (.str (a1 ++ ⟨#[c]⟩)) from g1]
  simp only [Option.bind_some]
  rw [show gAdd (W.str (a1 ++ ⟨#[c]⟩)) (.str (Txt.slice b (some (P + 1)) (some L))) = some (.str w1) from g2]
  rfl
 have e3 : ∃ w2 : Str, Asc w2 ∧ w2.length ≤ 300 ∧ dsIf (dCmp cEq (dOp gMod (dOp gDiv (dPk 5) (dC (.int (26)))) (dC (.int (4)))) (dC (.int (1)))) (dsAsg (dSlS (dVar 6) dNoPart (dPart (dOp gSub' (dC (.int (8))) (dVar 7)))) (dgName 10)) dsNext (dN s0 L P rest b (.val (.int k)) (.own acc) (.val sg) (.val (.str w1))) = some (.nx (dN s0 L P rest b (.val (.int k)) (.own acc) (.val sg) (.val (.str w2)))) := by
  have t : dCmp cEq (dOp gMod (dOp gDiv (dPk 5) (dC (.int (26)))) (dC (.int (4)))) (dC (.int (1))) (dN s0 L P rest b (.val (.int k)) (.own acc) (.val sg) (.val (.str w1))) = some (decide ((rest.fdiv 26).fmod 4 = 1)) := by
   simp +decide only [dN, uD, Nat.reduceAdd, Nat.reduceSub, reduceIte, Nat.reduceEqDiff, List.replicate]
  by_cases h : (rest.fdiv 26).fmod 4 = 1
  · rw [decide_eq_true h] at t
    refine ⟨Txt.slice b none (some (8 - k)), hb.slice _ _, Nat.le_trans (yh2 _ _ _) (by omega), zg8 (b := true) t ?_⟩
    simp only [dN, dSlS, strD, uD, Nat.reduceAdd, Nat.reduceSub, reduceIte, Nat.reduceEqDiff, List.replicate, if_pos hz]
  · rw [decide_eq_false h] at t
    exact ⟨w1, k1, (by show (a1 ++ ⟨#[c]⟩ ++ a2 : Str).length ≤ 300; omega), zg8 (b := false) t rfl⟩
 obtain ⟨w2, k2, l5, e3⟩ := e3
 have e4 : ∃ w3 : Str, Asc w3 ∧ dsIf (dOr (dCmp cIn (dPk 10) (dPk 2)) (dCmp cEq (dPk 10) (dC (.str "main")))) (dsAsg (dOp gMulS (dC (.str "q")) (dC1 gLen (dPk 10))) (dgName 10)) dsNext (dN s0 L P rest b (.val (.int k)) (.own acc) (.val sg) (.val (.str w2))) = some (.nx (dN s0 L P rest b (.val (.int k)) (.own acc) (.val sg) (.val (.str w3)))) := by
  have t : ∃ bb, dOr (dCmp cIn (dPk 10) (dPk 2)) (dCmp cEq (dPk 10) (dC (.str "main"))) (dN s0 L P rest b (.val (.int k)) (.own acc) (.val sg) (.val (.str w2))) = some bb := by
   have i1 : dCmp cIn (dPk 10) (dPk 2) (dN s0 L P rest b (.val (.int k)) (.own acc) (.val sg) (.val (.str w2))) = some (decide (w2 ∈ KP)) := cIn_s w2 KP
   have i2 : dCmp cEq (dPk 10) (dC (.str "main")) (dN s0 L P rest b (.val (.int k)) (.own acc) (.val sg) (.val (.str w2))) = some (decide (w2 = Str.ofString "main")) := by
    simp only [dN, uD, Nat.reduceAdd, Nat.reduceSub, reduceIte, Nat.reduceEqDiff, List.replicate]
   cases h : decide (w2 ∈ KP) with
   | true => rw [h] at i1; exact ⟨true, or_L i1⟩
   | false =>
    rw [h] at i1
    cases h' : decide (w2 = Str.ofString "main") with
    | true => rw [h'] at i2; exact ⟨true, or_R i1 i2⟩
    | false => rw [h'] at i2; exact ⟨false, or_F i1 i2⟩
  obtain ⟨bb, t⟩ := t
  cases bb with
  | false => exact ⟨w2, k2, zg8 (b := false) t rfl⟩
  | true =>
   have q1 : Asc (Str.ofString "q") := by unfold Asc; decide +kernel
   have gl : gLen (.str w2) = some (.int w2.length) := if_pos (sz _ (by omega))
   have gs : gMulS (.str "q") (.int (w2.length : Nat)) = some (.str (Txt.mul (Str.ofString "q") (w2.length : Nat))) := by
    have ql : (Str.ofString "q").length ≤ 1000 := by decide +kernel
    refine if_pos ?_
    simp only [Bool.and_eq_true, decide_eq_true_eq]
    exact ⟨⟨by omega, by omega⟩, ql⟩
   refine ⟨Txt.mul (Str.ofString "q") (w2.length : Nat), q1.mul _, zg8 (b := true) t (zi9 (d := .str (Txt.mul (Str.ofString "q") (w2.length : Nat))) ?_ rfl)⟩
   have p10 : dPk 10 (dN s0 L P rest b (.val (.int k)) (.own acc) (.val sg) (.val (.str w2))) = some (.str w2) := rfl
   simp only [dOp, dC1, dC, p10, Option.bind_some, gl, gs]
 obtain ⟨w3, k3, e4⟩ := e4
 refine ⟨w3, .val sg, k3, zb9 e1 (zb9 e2 (zb9 e3 (zb9 e4 ?_)))⟩
 simp only [dN, uD, Nat.reduceAdd, Nat.reduceSub, reduceIte, Nat.reduceEqDiff, List.replicate, if_pos zl]
theorem nm2 (hb : Asc b) (hl : b.length ≤ 100) : ∀ (n : Nat) (lo : Int) (acc : List W) (s7 s9 s10 : Sl), 0 ≤ lo → lo + n ≤ 6 → acc.length + n < 100 → ∃ (N : List Str) (t7 t9 t10 : Sl), N.length = n ∧ (∀ x ∈ N, Asc x) ∧ zg4 (dgName 7) zp3 (rngD lo n) (dN s0 L P rest b s7 (.own acc) s9 s10) = some (.nx (dN s0 L P rest b t7 (.own (acc ++ N.map .str)) t9 t10))
 | 0, lo, acc, s7, s9, s10, _, _, _ => ⟨[], s7, s9, s10, rfl, (fun x hx => absurd hx List.not_mem_nil), by simp [rngD, zg4]⟩
 | n + 1, lo, acc, s7, s9, s10, h0, h1, ha => by
  obtain ⟨w, t9, hw, e⟩ := nm2_step (s0 := s0) (L := L) (P := P) (rest := rest) hb hl lo h0 (by omega) acc (by omega) s9 s10
  obtain ⟨N, u7, u9, u10, l, k, e2⟩ := nm2 hb hl n (lo + 1) (acc ++ [.str w]) (.val (.int lo)) t9 (.val (.str w)) (by omega) (by omega) (by simp; omega)
  refine ⟨w :: N, u7, u9, u10, by simp [l], fun x hx => ?_, ?_⟩
  · rcases List.mem_cons.mp hx with rfl | hx
    · exact hw
    · exact k x hx
  · rw [zu2]
    refine go_nx (δ2 := dN s0 L P rest b (.val (.int lo)) (.own acc) s9 s10) rfl e (e2.trans ?_)
    simp
end
theorem gnames_run (m : Int) : ∃ N : List Str, zo4 [.int m] = some (.list (N.map .str)) ∧ N.length = 6 ∧ ∀ x ∈ N, Asc x := by
 have z0 := sz 0 (by decide)
 have z2 := sz 2 (by decide)
 have z11 := sz 11 (by decide)
 have z12 := sz 12 (by decide)
 have h8 := zm7 m (j := 8) (by decide)
 let L : Int := 1 + m.fmod 8
 let P : Int := (m.fdiv 8).fmod L
 obtain ⟨r1, b1, s7, e1, a1, l1⟩ := nm1 (.val (.int m)) (.val (.list (KP.map .str))) (.val (.int L)) (.val (.int P)) .no .no .no 8 0 (m.fdiv 64) (Str.ofString "") .no (by unfold Asc; decide +kernel) (by decide +kernel)
 have l0 : (Str.ofString "").length = 0 := by decide +kernel
 obtain ⟨N, t7, t9, t10, l2, k2, e2⟩ := nm2 (s0 := .val (.int m)) (L := L) (P := P) (rest := r1) a1 (by omega) 6 0 [] s7 .no .no (by decide) (by decide) (by decide)
 refine ⟨N, ?_, l2, k2⟩
 show bodyD 1 11 _ _ = _
 refine zj9 rfl ?_
 refine zb9 (δ1 := [.val (.int m), .val (.str abcW), .no, .no, .no, .no, .no, .no, .no, .no, .no]) rfl ?_
 refine zb9 (δ1 := [.val (.int m), .val (.str abcW), .val (.list ((KP.take 12).map .str)), .no, .no, .no, .no, .no, .no, .no, .no]) (by simp only [uD, Nat.reduceAdd, Nat.reduceSub, reduceIte, Nat.reduceEqDiff, List.replicate, if_pos z12]; rfl) ?_
 refine zb9 (δ1 := [.val (.int m), .val (.str abcW), .val (.list ((KP.take 23).map .str)), .no, .no, .no, .no, .no, .no, .no, .no]) (zi9 (d := .list ((KP.take 23).map .str)) ?_ rfl) ?_
 · simp only [uD, Nat.reduceAdd, Nat.reduceSub, reduceIte, Nat.reduceEqDiff, List.replicate, if_pos z11]
   exact (yg1 (sz _ (by simp [KP]))).trans rfl
 refine zb9 (δ1 := [.val (.int m), .val (.str abcW), .val (.list (KP.map .str)), .no, .no, .no, .no, .no, .no, .no, .no]) (zi9 (d := .list (KP.map .str)) ?_ rfl) ?_
 · simp only [uD, Nat.reduceAdd, Nat.reduceSub, reduceIte, Nat.reduceEqDiff, List.replicate, if_pos z2]
   exact (yg1 (sz _ (by simp [KP]))).trans rfl
 refine zb9 (δ1 := [.val (.int m), .val (.str abcW), .val (.list (KP.map .str)), .val (.int L), .no, .no, .no, .no, .no, .no, .no]) (by simp +decide only [uD, Nat.reduceAdd, Nat.reduceSub, reduceIte, Nat.reduceEqDiff, List.replicate]; rfl) ?_
 refine zb9 (δ1 := [.val (.int m), .val (.str abcW), .val (.list (KP.map .str)), .val (.int L), .val (.int P), .no, .no, .no, .no, .no, .no]) (zi9 (d := .int P) ?_ rfl) ?_
 · have hL : gMod (.int (m.fdiv 8)) (.int L) = some (.int P) := yi7 (by simp only [okMod, decide_eq_true_eq]; omega)
   simp +decide only [uD, Nat.reduceAdd, Nat.reduceSub, reduceIte, Nat.reduceEqDiff, List.replicate, hL]
 refine zb9 (δ1 := [.val (.int m), .val (.str abcW), .val (.list (KP.map .str)), .val (.int L), .val (.int P), .val (.int (m.fdiv 64)), .no, .no, .no, .no, .no]) (by simp +decide only [uD, Nat.reduceAdd, Nat.reduceSub, reduceIte, Nat.reduceEqDiff, List.replicate]) ?_
 refine zb9 (δ1 := [.val (.int m), .val (.str abcW), .val (.list (KP.map .str)), .val (.int L), .val (.int P), .val (.int (m.fdiv 64)), .val (.str ""), .no, .no, .no, .no]) rfl ?_
 refine zb9 (zs8 (ds := rngD 0 8) (zw0 (n := 8) rfl (by decide)) e1) ?_
 refine zb9 (δ1 := dN (.val (.int m)) L P r1 b1 s7 (.own []) .no .no) (by simp only [uD, Nat.reduceAdd, Nat.reduceSub, reduceIte, Nat.reduceEqDiff, List.replicate, if_pos z0]; rfl) ?_
 refine zb9 (zs8 (ds := rngD 0 6) (zw0 (n := 6) rfl (by decide)) e2) ?_
 simp only [dN, uD, Nat.reduceAdd, Nat.reduceSub, reduceIte, Nat.reduceEqDiff, List.replicate, List.nil_append]
theorem sg2_at (i : Int) (h0 : 0 ≤ i) (h1 : i < 2) : ∃ k : Fin 3, atI [W.tuple [.str "lane"], .tuple [.str "mine"]] i = some (tw (.sig k)) := by
 have : i = 0 ∨ i = 1 := by omega
 rcases this with rfl | rfl
 · exact ⟨0, at0 _ _⟩
 · exact ⟨2, at1 _ _ _⟩
theorem op3_at (i : Int) (h0 : 0 ≤ i) (h1 : i < 3) : ∃ k : Fin 7, atI [W.str "+", .str "*", .str "<"] i = some (.str (opW k)) := by
 have : i = 0 ∨ i = 1 ∨ i = 2 := by omega
 rcases this with rfl | rfl | rfl
 · exact ⟨0, at0 _ _⟩
 · exact ⟨2, at1 _ _ _⟩
 · exact ⟨5, at2 _ _ _ _⟩
theorem op_at (i : Int) (h0 : 0 ≤ i) (h1 : i < 7) : ∃ k : Fin 7, atI [W.str "+", .str "-", .str "*", .str "div", .str "rem", .str "<", .str "="] i = some (.str (opW k)) := by
 have : i = 0 ∨ i = 1 ∨ i = 2 ∨ i = 3 ∨ i = 4 ∨ i = 5 ∨ i = 6 := by omega
 rcases this with rfl | rfl | rfl | rfl | rfl | rfl | rfl
 · exact ⟨0, at0 _ _⟩
 · exact ⟨1, at1 _ _ _⟩
 · exact ⟨2, at2 _ _ _ _⟩
 · exact ⟨3, at3 _ _ _ _ _⟩
 · exact ⟨4, at4 _ _ _ _ _ _⟩
 · exact ⟨5, at5 _ _ _ _ _ _ _⟩
 · exact ⟨6, (atN _ 6 (by simp)).trans rfl⟩
theorem dp_at (i : Int) (h0 : 0 ≤ i) (h1 : i < 7) : ∃ n : Nat, atI [W.int 0, .int 0, .int 0, .int 1, .int 1, .int 2, .int 6] i = some (.int (n : Int)) ∧ n ≤ 6 := by
 have : i = 0 ∨ i = 1 ∨ i = 2 ∨ i = 3 ∨ i = 4 ∨ i = 5 ∨ i = 6 := by omega
 rcases this with rfl | rfl | rfl | rfl | rfl | rfl | rfl
 · exact ⟨0, at0 _ _, by decide⟩
 · exact ⟨0, at1 _ _ _, by decide⟩
 · exact ⟨0, at2 _ _ _ _, by decide⟩
 · exact ⟨1, at3 _ _ _ _ _, by decide⟩
 · exact ⟨1, at4 _ _ _ _ _ _, by decide⟩
 · exact ⟨2, at5 _ _ _ _ _ _ _, by decide⟩
 · exact ⟨6, (atN _ 6 (by simp)).trans rfl, by decide⟩
theorem nm_at (N : List Str) (hN : N.length = 6) (c : Int) : ∃ x ∈ N, atI (N.map W.str) (c.fmod 6) = some (.str x) := by
 have h := zm7 c (j := 6) (by decide)
 obtain ⟨k, hk⟩ : ∃ k : Nat, c.fmod 6 = k := ⟨(c.fmod 6).toNat, by omega⟩
 have hl : k < N.length := by omega
 refine ⟨N[k], List.getElem_mem hl, ?_⟩
 rw [hk, atN _ k (by simpa using hl), List.getElem?_map, List.getElem?_eq_getElem hl]
 rfl
def gd (t : Tr) (d c : Nat) : Prop := dep t ≤ d ∧ cnt t ≤ c ∧ okN t
section
variable {N : List Str} {o : Int}
theorem zw2 (hN : N.length = 6) (hk : ∀ x ∈ N, Asc x) (c : Int) : ∃ (t : Tr) (r : Int), zf1 [.int c, .list (N.map .str), .int o] = some (.tuple [tw t, .int r]) ∧ gd t 0 1 := by
 have z1 := sz 1 (by decide)
 have z2 := sz 2 (by decide)
 have h24 := zm7 c (j := 24) (by decide)
 by_cases h1 : 24 - o ≤ c.fmod 24
 · have hm := zm7 (c.fdiv 24) (j := 2) (by decide)
   obtain ⟨k, ek⟩ := sg2_at _ hm.1 hm.2
   have e1 : decide (24 - o ≤ c.fmod 24) = true := decide_eq_true h1
   refine ⟨.sig k, (c.fdiv 24).fdiv 2, ?_, Nat.le_refl _, Nat.le_refl _, fun x hx => by simp [nms, nmL, lvs] at hx⟩
   simp +decide only [zf1, uD, Nat.reduceAdd, Nat.reduceSub, reduceIte, Nat.reduceEqDiff, List.replicate, e1, if_pos z1, if_pos z2, ek]
 · have e1 : decide (24 - o ≤ c.fmod 24) = false := decide_eq_false h1
   by_cases h2 : c.fmod 24 < 11
   · obtain ⟨x, hx, ex⟩ := nm_at N hN (c.fdiv 24)
     have e2 : decide (c.fmod 24 < 11) = true := decide_eq_true h2
     refine ⟨.nam x, (c.fdiv 24).fdiv 6, ?_, Nat.le_refl _, Nat.le_refl _, fun y hy => by simp [nms, nmL, lvs] at hy; rw [hy]; exact (hk x hx).ok⟩
     simp +decide only [zf1, uD, Nat.reduceAdd, Nat.reduceSub, reduceIte, Nat.reduceEqDiff, List.replicate, e1, e2, if_pos z1, if_pos z2, ex, tw]
   · have e2 : decide (c.fmod 24 < 11) = false := decide_eq_false h2
     by_cases h3 : c.fmod 24 = 11
     · have e3 : decide (c.fmod 24 = 11) = true := decide_eq_true h3
       refine ⟨.sig 1, c.fdiv 24, ?_, Nat.le_refl _, Nat.le_refl _, fun x hx => by simp [nms, nmL, lvs] at hx⟩
       simp +decide only [zf1, uD, Nat.reduceAdd, Nat.reduceSub, reduceIte, Nat.reduceEqDiff, List.replicate, e1, e2, e3, if_pos z1, if_pos z2]
       rfl
     · have e3 : decide (c.fmod 24 = 11) = false := decide_eq_false h3
       refine ⟨.num ((c.fdiv 24).fmod 1999999999 - 999999999), (c.fdiv 24).fdiv 199, ?_, Nat.le_refl _, Nat.le_refl _, fun x hx => by simp [nms, nmL, lvs] at hx⟩
       simp +decide only [zf1, uD, Nat.reduceAdd, Nat.reduceSub, reduceIte, Nat.reduceEqDiff, List.replicate, e1, e2, e3, if_pos z2]
       rfl
theorem gd_box {t : Tr} {d c : Nat} (h : gd t d c) : gd (.box t) (d + 1) (c + 1) := ⟨by have := h.1; simp only [dep]; omega, by have := h.2.1; simp only [cnt]; omega, fun x hx => h.2.2 x (by simpa [nms, lvs] using hx)⟩
theorem gd_op {a b : Tr} {d c d' c' : Nat} (k : Fin 7) (h : gd a d c) (h' : gd b d' c') : gd (.op k a b) (max d d' + 1) (c + c' + 1) := ⟨by have := h.1; have := h'.1; simp only [dep]; omega, by have := h.2.1; have := h'.2.1; simp only [cnt]; omega, fun x hx => by
 rw [yc6] at hx
 rcases List.mem_append.mp hx with hx | hx
 · exact h.2.2 x hx
 · exact h'.2.2 x hx⟩
theorem gd_le {t : Tr} {d c d' c' : Nat} (h : gd t d c) (h1 : d ≤ d') (h2 : c ≤ c') : gd t d' c' := ⟨Nat.le_trans h.1 h1, Nat.le_trans h.2.1 h2, h.2.2⟩
theorem beside_run (hN : N.length = 6) (hk : ∀ x ∈ N, Asc x) (c : Int) : ∃ (t : Tr) (r : Int), zh1 [.int c, .list (N.map .str), .int o] = some (.tuple [tw t, .int r]) ∧ gd t 1 3 := by
 have z2 := sz 2 (by decide)
 have z3 := sz 3 (by decide)
 obtain ⟨a, r, ea, ga⟩ := zw2 (o := o) hN hk (c.fdiv 5)
 by_cases h1 : c.fmod 5 = 1
 · have e1 : decide (c.fmod 5 = 1) = true := decide_eq_true h1
   refine ⟨.box a, r, ?_, gd_le (gd_box ga) (by decide) (by decide)⟩
   simp +decide only [zh1, uD, Nat.reduceAdd, Nat.reduceSub, reduceIte, Nat.reduceEqDiff, List.replicate, ea, e1, if_pos z2, tw]
 · have e1 : decide (c.fmod 5 = 1) = false := decide_eq_false h1
   by_cases h2 : c.fmod 5 = 2
   · have e2 : decide (c.fmod 5 = 2) = true := decide_eq_true h2
     obtain ⟨b, r2, eb, gb⟩ := zw2 (o := o) hN hk r
     have hm := zm7 r2 (j := 3) (by decide)
     obtain ⟨k, ek⟩ := op3_at _ hm.1 hm.2
     refine ⟨.op k a b, r2.fdiv 3, ?_, gd_le (gd_op k ga gb) (by decide) (by decide)⟩
     simp +decide only [zh1, uD, Nat.reduceAdd, Nat.reduceSub, reduceIte, Nat.reduceEqDiff, List.replicate, ea, eb, e1, e2, ek, if_pos z2, if_pos z3, tw]
   · have e2 : decide (c.fmod 5 = 2) = false := decide_eq_false h2
     refine ⟨a, r, ?_, gd_le ga (by decide) (by decide)⟩
     simp +decide only [zh1, uD, Nat.reduceAdd, Nat.reduceSub, reduceIte, Nat.reduceEqDiff, List.replicate, ea, e1, e2, if_pos z2]
end
theorem seq_ct {f g : DS → Option Out} {δ δ' : DS} (h : f δ = some (.ct δ')) : dsSeq f g δ = some (.ct δ') := by unfold dsSeq; rw [h]
section
variable {N : List Str} {o num : Int}
def dX (N : List Str) (o num : Int) (D : Nat) (t : Tr) (rest : Int) (s6 s7 s8 s9 : Sl) : DS := [.val (.int num), .val (.list (N.map .str)), .val (.int o), .val (.int (D : Int)), .val (tw t), .val (.int rest), s6, s7, s8, s9]
theorem ex_step (hN : N.length = 6) (hk : ∀ x ∈ N, Asc x) (D k : Nat) (hkk : k < 100) (t : Tr) (d c : Nat) (g : gd t d c) (rest : Int) (s7 s8 s9 : Sl) : ∃ (t' : Tr) (r' : Int) (s7' s8' s9' : Sl), gd t' (max d 1 + 1) (c + 4) ∧ (zi3 (dX N o num D t rest (.val (.int (k : Int))) s7 s8 s9) = some (.nx (dX N o num D t' r' (.val (.int (k : Int))) s7' s8' s9')) ∨ zi3 (dX N o num D t rest (.val (.int (k : Int))) s7 s8 s9) = some (.ct (dX N o num D t' r' (.val (.int (k : Int))) s7' s8' s9'))) := by
 have z2 := sz 2 (by decide)
 have z3 := sz 3 (by decide)
 have z7 := sz 7 (by decide)
 obtain ⟨m, em, _⟩ := zr9 (num + (k : Int)) (k + 5) (by omega)
 have e5 : ((k + 5 : Nat) : Int) = (k : Int) + 5 := by omega
 rw [e5] at em
 have s1 : ∃ r1, dsIf (dCmp cLt (dPk 5) (dOp gPow (dC (.int (10))) (dC (.int (11))))) (dsAsg (dCall ze2 (dCons (dOp gAdd (dPk 0) (dVar 6)) (dCons (dOp gAdd (dPk 6) (dC (.int (5)))) dNil))) (dgName 5)) dsNext (dX N o num D t rest (.val (.int (k : Int))) s7 s8 s9) = some (.nx (dX N o num D t r1 (.val (.int (k : Int))) s7 s8 s9)) := by
  have tt : dCmp cLt (dPk 5) (dOp gPow (dC (.int (10))) (dC (.int (11)))) (dX N o num D t rest (.val (.int (k : Int))) s7 s8 s9) = some (decide (rest < 100000000000)) := by
   simp only [dX, uD, Nat.reduceAdd, Nat.reduceSub, reduceIte, Nat.reduceEqDiff, List.replicate, pow11]
  by_cases h : rest < 100000000000
  · rw [decide_eq_true h] at tt
    refine ⟨m, zg8 (b := true) tt (zi9 (d := .int m) ?_ rfl)⟩
    simp only [dX, uD, Nat.reduceAdd, Nat.reduceSub, reduceIte, Nat.reduceEqDiff, List.replicate, em]
  · rw [decide_eq_false h] at tt
    exact ⟨rest, zg8 (b := false) tt rfl⟩
 obtain ⟨r1, s1⟩ := s1
 let kd : Int := r1.fmod 4
 let r2 : Int := r1.fdiv 4
 have s2 : dsAsg (dOp gMod (dPk 5) (dC (.int (4)))) (dgName 7) (dX N o num D t r1 (.val (.int (k : Int))) s7 s8 s9) = some (.nx (dX N o num D t r1 (.val (.int (k : Int))) (.val (.int kd)) s8 s9)) := by
  simp +decide only [dX, uD, Nat.reduceAdd, Nat.reduceSub, reduceIte, Nat.reduceEqDiff, List.replicate]
  rfl
 have s3 : dsAsg (dOp gDiv (dPk 5) (dC (.int (4)))) (dgName 5) (dX N o num D t r1 (.val (.int (k : Int))) (.val (.int kd)) s8 s9) = some (.nx (dX N o num D t r2 (.val (.int (k : Int))) (.val (.int kd)) s8 s9)) := by
  simp +decide only [dX, uD, Nat.reduceAdd, Nat.reduceSub, reduceIte, Nat.reduceEqDiff, List.replicate]
  rfl
 have t4 : dCmp cEq (dPk 7) (dC (.int (0))) (dX N o num D t r2 (.val (.int (k : Int))) (.val (.int kd)) s8 s9) = some (decide (kd = 0)) := by simp only [dX, uD, Nat.reduceAdd, Nat.reduceSub, reduceIte, Nat.reduceEqDiff, List.replicate]
 by_cases h0 : kd = 0
 · rw [decide_eq_true h0] at t4
   refine ⟨.box t, r2, .val (.int kd), s8, s9, gd_le (gd_box g) (by omega) (by omega), .inr ?_⟩
   refine zb9 s1 (zb9 s2 (zb9 s3 ?_))
   have : dsIf (dCmp cEq (dPk 7) (dC (.int (0)))) (dsSeq (dsAsg (dTup (dCons (dC (.str "box")) (dCons (dVar 4) dNil))) (dgName 4)) ye9) dsNext (dX N o num D t r2 (.val (.int (k : Int))) (.val (.int kd)) s8 s9) = some (.ct (dX N o num D (.box t) r2 (.val (.int (k : Int))) (.val (.int kd)) s8 s9)) := by
    refine zg8 (b := true) t4 (if_pos rfl |>.trans ?_)
    exact zb9 (δ1 := dX N o num D (.box t) r2 (.val (.int (k : Int))) (.val (.int kd)) s8 s9) (by simp only [dX, uD, Nat.reduceAdd, Nat.reduceSub, reduceIte, Nat.reduceEqDiff, List.replicate, if_pos z2, tw]) rfl
   exact seq_ct this
 · rw [decide_eq_false h0] at t4
   have s4 : ∃ (u : Tr) (r3 : Int), gd u 1 3 ∧ dsIf (dAnd (dCmp cEq (dPk 3) (dC (.int (6)))) (dCmp cEq (dPk 6) (dC (.int (0))))) (dsAsg (dCall zf1 (dCons (dVar 5) (dCons (dVar 1) (dCons (dVar 2) dNil)))) (dgTup 2 (dgCons (dgName 8) (dgCons (dgName 5) dgNil)))) (dsAsg (dCall zh1 (dCons (dVar 5) (dCons (dVar 1) (dCons (dVar 2) dNil)))) (dgTup 2 (dgCons (dgName 8) (dgCons (dgName 5) dgNil)))) (dX N o num D t r2 (.val (.int (k : Int))) (.val (.int kd)) s8 s9) = some (.nx (dX N o num D t r3 (.val (.int (k : Int))) (.val (.int kd)) (.val (tw u)) s9)) := by
    have tt : ∃ b, dAnd (dCmp cEq (dPk 3) (dC (.int (6)))) (dCmp cEq (dPk 6) (dC (.int (0)))) (dX N o num D t r2 (.val (.int (k : Int))) (.val (.int kd)) s8 s9) = some b := by
     by_cases h6 : (D : Int) = 6
     · exact ⟨decide ((k : Int) = 0), by simp only [dX, uD, Nat.reduceAdd, Nat.reduceSub, reduceIte, Nat.reduceEqDiff, List.replicate, decide_eq_true h6]⟩
     · exact ⟨false, by simp only [dX, uD, Nat.reduceAdd, Nat.reduceSub, reduceIte, Nat.reduceEqDiff, List.replicate, decide_eq_false h6]⟩
    obtain ⟨b, tt⟩ := tt
    cases b with
    | true =>
     obtain ⟨u, r3, eu, gu⟩ := zw2 (o := o) hN hk r2
     exact ⟨u, r3, gd_le gu (by decide) (by decide), zg8 (b := true) tt (zi9 (d := .tuple [tw u, .int r3]) (by simp only [dX, uD, Nat.reduceAdd, Nat.reduceSub, reduceIte, Nat.reduceEqDiff, List.replicate, eu]) rfl)⟩
    | false =>
     obtain ⟨u, r3, eu, gu⟩ := beside_run (o := o) hN hk r2
     exact ⟨u, r3, gu, zg8 (b := false) tt (zi9 (d := .tuple [tw u, .int r3]) (by simp only [dX, uD, Nat.reduceAdd, Nat.reduceSub, reduceIte, Nat.reduceEqDiff, List.replicate, eu]) rfl)⟩
   obtain ⟨u, r3, gu, s4⟩ := s4
   have hm := zm7 r3 (j := 7) (by decide)
   obtain ⟨q, eq⟩ := op_at _ hm.1 hm.2
   have s5 : dsAsg (dOp gIx (dOwn (dLst (dCons (dC (.str "+")) (dCons (dC (.str "-")) (dCons (dC (.str "*")) (dCons (dC (.str "div")) (dCons (dC (.str "rem")) (dCons (dC (.str "<")) (dCons (dC (.str "=")) dNil))))))))) (dOp gMod (dPk 5) (dC (.int (7))))) (dgName 9) (dX N o num D t r3 (.val (.int (k : Int))) (.val (.int kd)) (.val (tw u)) s9) = some (.nx (dX N o num D t r3 (.val (.int (k : Int))) (.val (.int kd)) (.val (tw u)) (.val (.str (opW q))))) := by
    simp +decide only [dX, uD, Nat.reduceAdd, Nat.reduceSub, reduceIte, Nat.reduceEqDiff, List.replicate, if_pos z7, eq]
   have s6 : dsAsg (dOp gDiv (dPk 5) (dC (.int (7)))) (dgName 5) (dX N o num D t r3 (.val (.int (k : Int))) (.val (.int kd)) (.val (tw u)) (.val (.str (opW q)))) = some (.nx (dX N o num D t (r3.fdiv 7) (.val (.int (k : Int))) (.val (.int kd)) (.val (tw u)) (.val (.str (opW q))))) := by
    simp +decide only [dX, uD, Nat.reduceAdd, Nat.reduceSub, reduceIte, Nat.reduceEqDiff, List.replicate]
   have t7 : dCmp cEq (dPk 7) (dC (.int (1))) (dX N o num D t (r3.fdiv 7) (.val (.int (k : Int))) (.val (.int kd)) (.val (tw u)) (.val (.str (opW q)))) = some (decide (kd = 1)) := by simp only [dX, uD, Nat.reduceAdd, Nat.reduceSub, reduceIte, Nat.reduceEqDiff, List.replicate]
   have s40 := zg8 (f := dsSeq (dsAsg (dTup (dCons (dC (.str "box")) (dCons (dVar 4) dNil))) (dgName 4)) ye9) (g := dsNext) (b := false) t4 rfl
   by_cases h1 : kd = 1
   · rw [decide_eq_true h1] at t7
     refine ⟨.op q t u, r3.fdiv 7, .val (.int kd), .val (tw u), .val (.str (opW q)), gd_le (gd_op q g gu) (by omega) (by omega), .inl ?_⟩
     refine zb9 s1 (zb9 s2 (zb9 s3 (zb9 s40 (zb9 s4 (zb9 s5 (zb9 s6 (zg8 (b := true) t7 (zi9 (d := tw (.op q t u)) ?_ rfl))))))))
     simp only [dX, uD, Nat.reduceAdd, Nat.reduceSub, reduceIte, Nat.reduceEqDiff, List.replicate, if_pos z3, tw]
   · rw [decide_eq_false h1] at t7
     refine ⟨.op q u t, r3.fdiv 7, .val (.int kd), .val (tw u), .val (.str (opW q)), gd_le (gd_op q gu g) (by omega) (by omega), .inl ?_⟩
     refine zb9 s1 (zb9 s2 (zb9 s3 (zb9 s40 (zb9 s4 (zb9 s5 (zb9 s6 (zg8 (b := false) t7 (zi9 (d := tw (.op q u t)) ?_ rfl))))))))
     simp only [dX, uD, Nat.reduceAdd, Nat.reduceSub, reduceIte, Nat.reduceEqDiff, List.replicate, if_pos z3, tw]
theorem go_ct {h : W → DS → Option DS} {f : DS → Option Out} {d : W} {ds : List W} {δ δ2 δ' : DS} {o : Option Out} (h1 : h d δ = some δ2) (h2 : f δ2 = some (.ct δ')) (h3 : zg4 h f ds δ' = o) : zg4 h f (d :: ds) δ = o := by
 rw [← h3]
 show (h d δ).bind _ = _
 rw [h1]
 show (match f δ2 with | some (.nx δ') => _ | some (.ct δ') => _ | some (.bk δ') => _ | some (.rt d) => _ | none => _) = _
 rw [h2]
theorem ex_loop (hN : N.length = 6) (hk : ∀ x ∈ N, Asc x) (D : Nat) : ∀ (n lo d c : Nat) (t : Tr) (rest : Int) (s6 s7 s8 s9 : Sl), lo + n < 100 → gd t d c → 1 ≤ d → ∃ (t' : Tr) (r' : Int) (s6' s7' s8' s9' : Sl), gd t' (d + n) (c + 4 * n) ∧ zg4 (dgName 6) zi3 (rngD (lo : Int) n) (dX N o num D t rest s6 s7 s8 s9) = some (.nx (dX N o num D t' r' s6' s7' s8' s9'))
 | 0, lo, d, c, t, rest, s6, s7, s8, s9, _, g, _ => ⟨t, rest, s6, s7, s8, s9, g, rfl⟩
 | n + 1, lo, d, c, t, rest, s6, s7, s8, s9, hl, g, hd => by
  obtain ⟨t1, r1, u7, u8, u9, g1, e1⟩ := ex_step (o := o) (num := num) hN hk D lo (by omega) t d c g rest s7 s8 s9
  obtain ⟨t2, r2, v6, v7, v8, v9, g2, e2⟩ := ex_loop hN hk D n (lo + 1) (d + 1) (c + 4) t1 r1 (.val (.int (lo : Int))) u7 u8 u9 (by omega) (gd_le g1 (by omega) (Nat.le_refl _)) (by omega)
  refine ⟨t2, r2, v6, v7, v8, v9, gd_le g2 (by omega) (by omega), ?_⟩
  rw [zu2]
  rcases e1 with e1 | e1
  · exact go_nx (δ2 := dX N o num D t rest (.val (.int (lo : Int))) s7 s8 s9) rfl e1 e2
  · exact go_ct (δ2 := dX N o num D t rest (.val (.int (lo : Int))) s7 s8 s9) rfl e1 e2
theorem expr_run (hN : N.length = 6) (hk : ∀ x ∈ N, Asc x) : ∃ t : Tr, zj8 [.int num, .list (N.map .str), .int o] = some (tw t) ∧ gd t 7 30 := by
 have z7 := sz 7 (by decide)
 have hm := zm7 num (j := 7) (by decide)
 obtain ⟨D, eD, hD⟩ := dp_at _ hm.1 hm.2
 obtain ⟨a, r, ea, ga⟩ := zw2 (o := o) hN hk (num.fdiv 7)
 obtain ⟨t, r', s6, s7, s8, s9, g, e⟩ := ex_loop (o := o) (num := num) hN hk D D 0 1 1 a r .no .no .no .no (by omega) (gd_le ga (by decide) (by decide)) (by decide)
 refine ⟨t, ?_, gd_le g (by omega) (by omega)⟩
 refine zj9 rfl ?_
 refine zb9 (δ1 := [.val (.int num), .val (.list (N.map .str)), .val (.int o), .val (.int (D : Int)), .no, .no, .no, .no, .no, .no]) (by simp +decide only [startD, uD, Nat.reduceAdd, Nat.reduceSub, reduceIte, Nat.reduceEqDiff, List.replicate, if_pos z7, eD]) ?_
 refine zb9 (δ1 := dX N o num D a r .no .no .no .no) (zi9 (d := .tuple [tw a, .int r]) (by simp +decide only [uD, Nat.reduceAdd, Nat.reduceSub, reduceIte, Nat.reduceEqDiff, List.replicate, ea]) rfl) ?_
 refine zb9 (zs8 (ds := rngD 0 D) (zw0 (n := D) (by simp only [dX, uD, Nat.reduceAdd, Nat.reduceSub, reduceIte, Nat.reduceEqDiff, List.replicate]) (by omega)) e) ?_
 simp only [dX, uD, Nat.reduceAdd, Nat.reduceSub, reduceIte, Nat.reduceEqDiff, List.replicate]
end
theorem cut_int (ns : List Int) (lo hi : Option Int) : ∃ ms : List Int, ms.length ≤ ns.length ∧ cutW (ns.map .int) lo hi = ms.map .int := by
 refine ⟨(ns.drop (HT.sIx (ns.map W.int).length 0 lo)).take (HT.sIx (ns.map W.int).length (ns.map W.int).length hi - HT.sIx (ns.map W.int).length 0 lo), ?_, ?_⟩
 · rw [List.length_take, List.length_drop]
   omega
 · unfold cutW
   rw [List.map_take, List.map_drop]
theorem bodyW_snoc : ∀ (ps : List (Str × Tr)) (k : Int) (p : Str × Tr), bodyW k (ps ++ [p]) = bodyW k ps ++ [stW (k + ps.length) p]
 | [], k, p => by simp [bodyW]
 | q :: ps, k, p => by
  rw [List.cons_append, bodyW, bodyW, bodyW_snoc ps (k + 1) p, List.cons_append]
  congr 4
  simp only [List.length_cons]
  omega
theorem own_at (i : Int) (h0 : 0 ≤ i) (h1 : i < 4) : ∃ o : Int, atI [W.int 0, .int 1, .int 3, .int 12] i = some (.int o) := by
 have : i = 0 ∨ i = 1 ∨ i = 2 ∨ i = 3 := by omega
 rcases this with rfl | rfl | rfl | rfl
 · exact ⟨_, at0 _ _⟩
 · exact ⟨_, at1 _ _ _⟩
 · exact ⟨_, at2 _ _ _ _⟩
 · exact ⟨_, at3 _ _ _ _ _⟩
section
variable {N : List Str} {o : Int} {s0 : Sl}
def dB1 (s0 : Sl) (N : List Str) (o : Int) (s3 s4 s5 : Sl) : DS := [s0, .val (.list (N.map .str)), .val (.int o), s3, s4, s5, .no, .no, .no, .no]
theorem body_step (hN : N.length = 6) (hk : ∀ x ∈ N, Asc x) (ps : List (Str × Tr)) (hl : ps.length < 900) (c : Int) (s5 : Sl) : ∃ (p : Str × Tr) (t5 : Sl), okP p ∧ p.1 ∈ N ∧ ye2 (dB1 s0 N o (.own (bodyW 2 ps)) (.val (.int c)) s5) = some (.nx (dB1 s0 N o (.own (bodyW 2 (ps ++ [p]))) (.val (.int c)) t5)) := by
 have z4 := sz 4 (by decide)
 have bl := zu4 ps 2
 have zl : (bodyW 2 ps).length < sizeLine := Nat.lt_of_lt_of_le (by omega) (sz 9000 (by decide))
 obtain ⟨m, em, _⟩ := zr9 c (ps.length + 2) (by omega)
 have e2 : (((bodyW 2 ps).length : Nat) : Int) + 2 = ((ps.length + 2 : Nat) : Int) := by rw [bl]; omega
 obtain ⟨x, hx, ex⟩ := nm_at N hN m
 obtain ⟨t, et, g⟩ := expr_run (num := m.fdiv 6) (o := o) hN hk
 refine ⟨(x, t), .val (.int m), ⟨by have := g.1; show dep t < 9; omega, g.2.1, g.2.2, (hk x hx).ok⟩, hx, ?_⟩
 have e3 : stW (2 + ps.length) (x, t) = .tuple [.str "set", .int ((ps.length + 2 : Nat) : Int), .str x, tw t] := by
  unfold stW
  congr 3
  congr 1
  omega
 rw [bodyW_snoc, e3]
 refine zb9 (δ1 := dB1 s0 N o (.own (bodyW 2 ps)) (.val (.int c)) (.val (.int m))) (zi9 (d := .int m) ?_ rfl) ?_
 · simp only [dB1, uD, Nat.reduceAdd, Nat.reduceSub, reduceIte, Nat.reduceEqDiff, List.replicate, e2, em]
 · simp +decide only [dB1, uD, Nat.reduceAdd, Nat.reduceSub, reduceIte, Nat.reduceEqDiff, List.replicate, e2, ex, et, if_pos z4, if_pos zl]
theorem body_loop (hN : N.length = 6) (hk : ∀ x ∈ N, Asc x) : ∀ (ms : List Int) (ps : List (Str × Tr)) (s4 s5 : Sl), (∀ p ∈ ps, okP p ∧ p.1 ∈ N) → ps.length + ms.length < 900 → ∃ (qs : List (Str × Tr)) (t4 t5 : Sl), (∀ p ∈ qs, okP p ∧ p.1 ∈ N) ∧ qs.length = ps.length + ms.length ∧ zg4 (dgName 4) ye2 (ms.map .int) (dB1 s0 N o (.own (bodyW 2 ps)) s4 s5) = some (.nx (dB1 s0 N o (.own (bodyW 2 qs)) t4 t5))
 | [], ps, s4, s5, h, _ => ⟨ps, s4, s5, h, rfl, rfl⟩
 | c :: ms, ps, s4, s5, h, hl => by
  simp only [List.length_cons] at hl
  obtain ⟨p, t5, h1, h2, e⟩ := body_step (o := o) (s0 := s0) hN hk ps (by omega) c s5
  obtain ⟨qs, u4, u5, h3, l3, e3⟩ := body_loop hN hk ms (ps ++ [p]) (.val (.int c)) t5 (fun q hq => by
   rcases List.mem_append.mp hq with hq | hq
   · exact h q hq
   · rw [List.mem_singleton.mp hq]; exact ⟨h1, h2⟩) (by simp; omega)
  refine ⟨qs, u4, u5, h3, by simp at l3 ⊢; omega, ?_⟩
  rw [List.map_cons]
  exact go_nx (δ2 := dB1 s0 N o (.own (bodyW 2 ps)) (.val (.int c)) s5) rfl e e3
end
theorem st_ok (k : Int) {p : Str × Tr} (h : okP p) : okW (stW k p) = true ∧ depW (stW k p) ≤ 12 := by
 have a := tw_ok p.2 h.o
 have b := yb8 p.2
 have c := h.d
 have q : PyData.strOk (Str.ofString "set") = true := by decide +kernel
 have x := h.x
 refine ⟨by simp [stW, okW, okWs, a, q, x], ?_⟩
 simp [stW, depW, depWs]
 omega
theorem bodyW_ok : ∀ (ps : List (Str × Tr)) (k : Int), (∀ p ∈ ps, okP p) → okWs (bodyW k ps) = true ∧ depWs (bodyW k ps) ≤ 12
 | [], k, _ => ⟨rfl, by simp [bodyW, depWs]⟩
 | t :: ts, k, h => by
  obtain ⟨a, b⟩ := bodyW_ok ts (k + 1) fun u hu => h u (by simp [hu])
  obtain ⟨c, d⟩ := st_ok k (h t (by simp))
  refine ⟨by simp [bodyW, okWs, a, c], ?_⟩
  simp [bodyW, depWs]
  omega
theorem prog_ok (ps : List (Str × Tr)) (last : Int) (h : ∀ p ∈ ps, okP p) : okW (.list [progW ps last]) = true ∧ depW (.list [progW ps last]) ≤ 64 := by
 obtain ⟨k, d⟩ := bodyW_ok ps 2 h
 have s : PyData.strOk (Str.ofString "main") = true := by decide +kernel
 refine ⟨by simp [progW, mnW, okW, okWs, k, s], ?_⟩
 simp [progW, mnW, depW, depWs]
 omega
theorem law_true (ns : List Int) (h : ns.length ≤ 63) : ∃ S, p_law [.list (ns.map .int)] [] = some (.ok (.bool true), S) := by
 have z0 := sz 0 (by decide)
 have z1 := sz 1 (by decide)
 have z3 := sz 3 (by decide)
 have z4 := sz 4 (by decide)
 have z5 := sz 5 (by decide)
 obtain ⟨c0, ec0⟩ := cell_run ns 0
 obtain ⟨c1, ec1⟩ := cell_run ns 1
 obtain ⟨m0, em0, _⟩ := zr9 c0 0 (by decide)
 obtain ⟨m1, em1, _⟩ := zr9 c1 77 (by decide)
 obtain ⟨N, eN, lN, kN⟩ := gnames_run m0
 have h4 := zm7 m1 (j := 4) (by decide)
 obtain ⟨o, eo⟩ := own_at _ h4.1 h4.2
 obtain ⟨ms, lm, em⟩ := cut_int ns (some 2) (some 112)
 let scr : W := .list (ns.map .int)
 obtain ⟨ps, t4, t5, hp, lp, el⟩ := body_loop (o := o) (s0 := .val scr) lN kN ms [] .no .no (fun p hp => absurd hp List.not_mem_nil) (by simp; omega)
 have okp : ∀ p ∈ ps, okP p := fun p q => (hp p q).1
 have hl : ps.length ≤ 63 := by simp at lp; omega
 have bl := zu4 ps 2
 let last : Int := (((bodyW 2 ps).length : Nat) : Int) + 2
 obtain ⟨S1, f, F, e1, h1, pi, cl⟩ := marks_run ps last [] okp hl
 obtain ⟨S2, e2, h2, f2⟩ := marked_run ps S1 (fun p q => (okp p q).d) hl
 have hf : S2[f]? = some (.dT F) := get_kept f2 rfl h1
 let M := rnds ps 6 []
 obtain ⟨mi, cm⟩ := rnds_mi (N := N) (fun q hq => (hp q hq).2) 6 [] ⟨List.nodup_nil, (fun x hx => absurd hx List.not_mem_nil), (fun i x hi => by simp at hi)⟩ (by simp; omega)
 obtain ⟨lF, why⟩ := same_names pi cl mi cm
 have ok := prog_ok ps last okp
 have ne := cNe_self ok.1 ok.2
 let pr : W := .list [progW ps last]
 let B : W := .list (bodyW 2 ps)
 let nl : W := .list (N.map .str)
 let dl (s3 s6 s7 s8 s9 : Sl) : DS := [.val scr, .val nl, .val (.int o), s3, t4, t5, s6, s7, s8, s9]
 refine ⟨S2, ?_⟩
 unfold p_law
 refine (zh6 rfl).trans ((congrArg outS (?_ : _ = some (.rt (.bool true), S2))).trans rfl)
 refine (zb5 (δ' := [.val scr, .val nl, .no, .no, .no, .no, .no, .no, .no, .no]) (S' := []) (zf3 (zi9 (d := nl) ?_ rfl))).trans ?_
 · have ec0' : zf2 [.list (ns.map .int), .int 0] = some (.int c0) := ec0
   have em0' : ze2 [.int c0, .int 0] = some (.int m0) := em0
   simp only [startD, uD, Nat.reduceAdd, Nat.reduceSub, reduceIte, Nat.reduceEqDiff, List.replicate, ec0', em0', eN, nl]
 refine (zb5 (δ' := [.val scr, .val nl, .val (.int o), .no, .no, .no, .no, .no, .no, .no]) (S' := []) (zf3 (zi9 (d := .int o) ?_ rfl))).trans ?_
 · have ec1' : zf2 [.list (ns.map .int), .int 1] = some (.int c1) := ec1
   have em1' : ze2 [.int c1, .int 77] = some (.int m1) := em1
   simp +decide only [scr, uD, Nat.reduceAdd, Nat.reduceSub, reduceIte, Nat.reduceEqDiff, List.replicate, ec1', em1', if_pos z4, eo]
 refine (zb5 (δ' := dB1 (.val scr) N o (.own (bodyW 2 [])) .no .no) (S' := []) (zf3 ?_)).trans ?_
 · simp only [uD, Nat.reduceAdd, Nat.reduceSub, reduceIte, Nat.reduceEqDiff, List.replicate, if_pos z0]
   rfl
 refine (zb5 (δ' := dl (.own (bodyW 2 ps)) .no .no .no .no) (S' := []) (zf3 (zs8 (ds := ms.map .int) ?_ el))).trans ?_
 · simp only [dB1, scr, uD, Nat.reduceAdd, Nat.reduceSub, reduceIte, Nat.reduceEqDiff, List.replicate, em]
 refine (zb5 (δ' := dl (.own (bodyW 2 ps)) (.val pr) .no .no .no) (S' := []) (zf3 (zi9 (d := pr) ?_ rfl))).trans ?_
 · have zb : (bodyW 2 ps).length ≤ sizeLine := sz _ (by omega)
   simp only [dl, uD, Nat.reduceAdd, Nat.reduceSub, reduceIte, Nat.reduceEqDiff, List.replicate, dListOf, if_pos z0, if_pos z1, if_pos z5, if_pos zb]
   rfl
 refine (zb5 (δ' := dl (.own (bodyW 2 ps)) (.val pr) (.val (.ref f)) .no .no) (S' := S1) (zm4 (zo6 (S1 := []) (ds := [pr]) rfl e1) rfl)).trans ?_
 refine (zb5 (δ' := dl (.val B) (.val pr) (.val (.ref f)) (.val (.ref S1.length)) .no) (S' := S2) (zm4 (zo6 (S1 := S1) (ds := [B]) rfl e2) rfl)).trans ?_
 refine (zb5 (δ' := dl (.val B) (.val pr) (.val (.ref f)) (.val (.ref S1.length)) .no) (S' := S2) (zf3 (zg8 (b := false) ?_ rfl))).trans ?_
 · have e6 : dPk 6 (dl (.val B) (.val pr) (.val (.ref f)) (.val (.ref S1.length)) .no) = some pr := rfl
   have e7 : dOwn (dLst (dCons (dTup (dCons (dC (.str "main")) (dCons (dOwn (dLst dNil)) (dCons (dVar 3) (dCons (dC (.int (1))) (dCons (dOp gAdd (dC1 gLen (dPk 3)) (dC (.int (2)))) dNil)))))) dNil)) (dl (.val B) (.val pr) (.val (.ref f)) (.val (.ref S1.length)) .no) = some pr := by
    simp only [dl, B, uD, Nat.reduceAdd, Nat.reduceSub, reduceIte, Nat.reduceEqDiff, List.replicate, if_pos z0, if_pos z1, if_pos z5]
    rfl
   show dCmp cNe _ _ (dl (.val B) (.val pr) (.val (.ref f)) (.val (.ref S1.length)) .no) = _
   simp only [dCmp, e6, e7, Option.bind_some]
   exact ne
 refine (zb5 (δ' := dl (.val B) (.val pr) (.val (.ref f)) (.val (.ref S1.length)) .no) (S' := S2) ((zr3 (S1 := S2) ?_).trans rfl)).trans ?_
 · have v7 : sPure (dVar 7) (dl (.val B) (.val pr) (.val (.ref f)) (.val (.ref S1.length)) .no) S2 = some (.ok (.ref f), S2) := rfl
   have v8 : sPure (dVar 8) (dl (.val B) (.val pr) (.val (.ref f)) (.val (.ref S1.length)) .no) S2 = some (.ok (.ref S1.length), S2) := rfl
   have i1 : isD (.ref f) S2 = some true := by simp [isD, obAt, hf]
   have i2 : dtAt (.ref f) S2 = some (f, F) := by simp [dtAt, obAt, hf]
   have i3 : gLenS (.ref S1.length) S2 = some (.int (F.length : Nat)) := by simp [gLenS, zt7 h2, lF, M]
   have q := eqS_self (S := S2) (d := .int (F.length : Nat)) true rfl (by simp [depW])
   simp only [sOr, sNot, sTru, sIsiD, v7, v8, sBind, i1, Option.map_some, sOk, asB_b, sEq, sTLen, i2, sLen, i3]
   rw [q]
   rfl
 obtain ⟨δ', S', e9, j9⟩ := zv1 (n := (S1.length, false)) (h := dgName 9) (fb := b_law_2) (es := M.map .str) (J := fun _ δ S => S = S2 ∧ ∃ s9, δ = dl (.val B) (.val pr) (.val (.ref f)) (.val (.ref S1.length)) s9) (fun i δ S hj => by rw [hj.1]; exact lookE_l h2) (fun i x δ S hi hj => by
  obtain ⟨rfl, s9, rfl⟩ := hj
  rw [List.getElem?_map] at hi
  obtain ⟨y, hy, rfl⟩ := Option.map_eq_some_iff.mp hi
  have hyM := List.mem_of_getElem? hy
  obtain ⟨v, hv, w⟩ := why y hyM
  have yk : PyData.strOk y = true := (kN y (mi.sb y hyM)).ok
  refine ⟨dl (.val B) (.val pr) (.val (.ref f)) (.val (.ref S1.length)) (.val (.str y)), dl (.val B) (.val pr) (.val (.ref f)) (.val (.ref S1.length)) (.val (.str y)), S, rfl, ?_, rfl, _, rfl⟩
  refine (zr3 (S1 := S) ?_).trans rfl
  have k1 : sPure (dTup (dCons (dC (.str "name")) (dCons (dC (.str "main")) (dCons (dVar 9) dNil)))) (dl (.val B) (.val pr) (.val (.ref f)) (.val (.ref S1.length)) (.val (.str y))) S = some (.ok (nkW y), S) := zk1 (by simp only [dl, uD, Nat.reduceAdd, Nat.reduceSub, reduceIte, Nat.reduceEqDiff, List.replicate, if_pos z3]; rfl)
  have k2 : sPure (dVar 7) (dl (.val B) (.val pr) (.val (.ref f)) (.val (.ref S1.length)) (.val (.str y))) S = some (.ok (.ref f), S) := rfl
  have g := yh7 (x := nkW y) hf rfl
  have gr := good_run hf hv w okp yk hl
  have k3 : sCall zh2 (sPure (dCons (dVar 7) (dCons (dVar 3) (dCons (dVar 9) dNil)))) (dl (.val B) (.val pr) (.val (.ref f)) (.val (.ref S1.length)) (.val (.str y))) S = some (.ok (.bool true), S) := zo6 (S1 := S) (ds := [.ref f, B, .str y]) rfl gr
  show sOr _ _ (dl (.val B) (.val pr) (.val (.ref f)) (.val (.ref S1.length)) (.val (.str y))) S = _
  have g' : getK (.ref f) (nkW y) S = some (some v) := g.trans (congrArg some hv)
  simp only [sOr, sDIn, k1, k2, sBind, g', Option.map_some, sOk, Option.isSome_some, sNot, sTru, k3, asB_b]
  rfl) 9000 0 (dl (.val B) (.val pr) (.val (.ref f)) (.val (.ref S1.length)) .no) S2 (by
   have := zt8 M N mi.nd mi.sb
   simp
   omega) (Nat.zero_le _) ⟨rfl, _, rfl⟩
 obtain ⟨rfl, s9, rfl⟩ := j9
 have li : siLive (sPure (dVar 8)) (dl (.val B) (.val pr) (.val (.ref f)) (.val (.ref S1.length)) .no) S' = some (.ok (S1.length, false), S') := by
  have v8 : sPure (dVar 8) (dl (.val B) (.val pr) (.val (.ref f)) (.val (.ref S1.length)) .no) S' = some (.ok (.ref S1.length), S') := rfl
  simp only [siLive, v8, sBind, zt7 h2, Option.map_some]
 refine (zb5 (δ' := dl (.val B) (.val pr) (.val (.ref f)) (.val (.ref S1.length)) s9) (S' := S') ?_).trans rfl
 show soB _ _ = _
 rw [li]
 exact e9
theorem ln1 {α : Type} {P : List α → Prop} (h : ∀ a0, P [a0]) : ∀ us : List α, us.length = 1 → P us := fun us hl => match us, hl with | [a0], _ => h a0
theorem ln2 {α : Type} {P : List α → Prop} (h : ∀ a0 a1, P [a0, a1]) : ∀ us : List α, us.length = 2 → P us := fun us hl => match us, hl with | [a0, a1], _ => h a0 a1
theorem ln3 {α : Type} {P : List α → Prop} (h : ∀ a0 a1 a2, P [a0, a1, a2]) : ∀ us : List α, us.length = 3 → P us := fun us hl => match us, hl with | [a0, a1, a2], _ => h a0 a1 a2
theorem ln4 {α : Type} {P : List α → Prop} (h : ∀ a0 a1 a2 a3, P [a0, a1, a2, a3]) : ∀ us : List α, us.length = 4 → P us := fun us hl => match us, hl with | [a0, a1, a2, a3], _ => h a0 a1 a2 a3
set_option maxHeartbeats 0 in
theorem all_mk {l : PySem.W.OpenLaw} {w : World} {K : PySem.W.Frag} {h : Heap} {mg : Str → Option Value} {fa : Addr} (X : K.In h) (G : h.Ns mainGlobals mg) (hfa : mg "law" = some (.ref fa)) {c_Links : Addr} {f0 : Addr} {od0 an0 : Option Addr} {sl0 : Array (Option Value)} {oc0 kV0 dc0 pm0 cd0 ct0 : Value} {f1 : Addr} {od1 an1 : Option Addr} {sl1 : Array (Option Value)} {oc1 kV1 dc1 pm1 cd1 ct1 : Value} {dT1 : Addr} {oT1 : Obj} {nT1 : Nat} {f2 : Addr} {od2 an2 : Option Addr} {sl2 : Array (Option Value)} {oc2 kV2 dc2 pm2 cd2 ct2 : Value} {f3 : Addr} {od3 an3 : Option Addr} {sl3 : Array (Option Value)} {oc3 kV3 dc3 pm3 cd3 ct3 : Value} {f4 : Addr} {od4 an4 : Option Addr} {sl4 : Array (Option Value)} {oc4 kV4 dc4 pm4 cd4 ct4 : Value} {f5 : Addr} {od5 an5 : Option Addr} {sl5 : Array (Option Value)} {oc5 kV5 dc5 pm5 cd5 ct5 : Value} {f6 : Addr} {od6 an6 : Option Addr} {sl6 : Array (Option Value)} {oc6 kV6 dc6 pm6 cd6 ct6 : Value} {f7 : Addr} {od7 an7 : Option Addr} {sl7 : Array (Option Value)} {oc7 kV7 dc7 pm7 cd7 ct7 : Value} {f8 : Addr} {od8 an8 : Option Addr} {sl8 : Array (Option Value)} {oc8 kV8 dc8 pm8 cd8 ct8 : Value} {f9 : Addr} {od9 an9 : Option Addr} {sl9 : Array (Option Value)} {oc9 kV9 dc9 pm9 cd9 ct9 : Value} {f10 : Addr} {od10 an10 : Option Addr} {sl10 : Array (Option Value)} {oc10 kV10 dc10 pm10 cd10 ct10 : Value} {f11 : Addr} {od11 an11 : Option Addr} {sl11 : Array (Option Value)} {oc11 kV11 dc11 pm11 cd11 ct11 : Value} {f12 : Addr} {od12 an12 : Option Addr} {sl12 : Array (Option Value)} {oc12 kV12 dc12 pm12 cd12 ct12 : Value} {f13 : Addr} {od13 an13 : Option Addr} {sl13 : Array (Option Value)} {oc13 kV13 dc13 pm13 cd13 ct13 : Value} {f14 : Addr} {od14 an14 : Option Addr} {sl14 : Array (Option Value)} {oc14 kV14 dc14 pm14 cd14 ct14 : Value} {f15 : Addr} {od15 an15 : Option Addr} {sl15 : Array (Option Value)} {oc15 kV15 dc15 pm15 cd15 ct15 : Value} {f16 : Addr} {od16 an16 : Option Addr} {sl16 : Array (Option Value)} {oc16 kV16 dc16 pm16 cd16 ct16 : Value} {f17 : Addr} {od17 an17 : Option Addr} {sl17 : Array (Option Value)} {oc17 kV17 dc17 pm17 cd17 ct17 : Value} {f18 : Addr} {od18 an18 : Option Addr} {sl18 : Array (Option Value)} {oc18 kV18 dc18 pm18 cd18 ct18 : Value} {f19 : Addr} {od19 an19 : Option Addr} {sl19 : Array (Option Value)} {oc19 kV19 dc19 pm19 cd19 ct19 : Value} {f20 : Addr} {od20 an20 : Option Addr} {sl20 : Array (Option Value)} {oc20 kV20 dc20 pm20 cd20 ct20 : Value} {f21 : Addr} {od21 an21 : Option Addr} {sl21 : Array (Option Value)} {oc21 kV21 dc21 pm21 cd21 ct21 : Value} {f22 : Addr} {od22 an22 : Option Addr} {sl22 : Array (Option Value)} {oc22 kV22 dc22 pm22 cd22 ct22 : Value} {f23 : Addr} {od23 an23 : Option Addr} {sl23 : Array (Option Value)} {oc23 kV23 dc23 pm23 cd23 ct23 : Value} {f24 : Addr} {od24 an24 : Option Addr} {sl24 : Array (Option Value)} {oc24 kV24 dc24 pm24 cd24 ct24 : Value} {f25 : Addr} {od25 an25 : Option Addr} {sl25 : Array (Option Value)} {oc25 kV25 dc25 pm25 cd25 ct25 : Value} {a_WORKINGS : Addr} {o_WORKINGS : Obj}
 (mm_Links : PySem.W.nsIn K mainGlobals "Links" = some (some (.ref c_Links)))
 (a0 : PySem.W.nsIn K mainGlobals "bodies_of" = some (some (.ref f0)))
 (l0 : K.lookup f0 = some ⟨oc0, od0, .func (PySem.W.fnOf "bodies_of" "bodies_of" (zd7 zi0) (zd3 zi0) (zb1 zi0) .none kV0 dc0 pm0 an0 cd0 ct0), sl0⟩)
 (c0 : PySem.W.codeIn K cd0 "bodies_of" = true)
 (k0 : PySem.W.keepIn K (.ref f0) = true)
 (a1 : PySem.W.nsIn K mainGlobals "placed" = some (some (.ref f1)))
 (l1 : K.lookup f1 = some ⟨oc1, od1, .func (PySem.W.fnOf "placed" "placed" (zd7 zn2) (zd3 zn2) (zb1 zn2) (.ref dT1) kV1 dc1 pm1 an1 cd1 ct1), sl1⟩)
 (lT1 : K.lookup dT1 = some oT1)
 (hT1 : oT1.data = .seq #[.none] nT1)
 (c1 : PySem.W.codeIn K cd1 "placed" = true)
 (k1 : PySem.W.keepIn K (.ref f1) = true)
 (a2 : PySem.W.nsIn K mainGlobals "given_by" = some (some (.ref f2)))
 (l2 : K.lookup f2 = some ⟨oc2, od2, .func (PySem.W.fnOf "given_by" "given_by" (zd7 zl0) (zd3 zl0) (zb1 zl0) .none kV2 dc2 pm2 an2 cd2 ct2), sl2⟩)
 (c2 : PySem.W.codeIn K cd2 "given_by" = true)
 (k2 : PySem.W.keepIn K (.ref f2) = true)
 (a3 : PySem.W.nsIn K mainGlobals "leaves_of" = some (some (.ref f3)))
 (l3 : K.lookup f3 = some ⟨oc3, od3, .func (PySem.W.fnOf "leaves_of" "leaves_of" (zd7 zi8) (zd3 zi8) (zb1 zi8) .none kV3 dc3 pm3 an3 cd3 ct3), sl3⟩)
 (c3 : PySem.W.codeIn K cd3 "leaves_of" = true)
 (k3 : PySem.W.keepIn K (.ref f3) = true)
 (a4 : PySem.W.findIn K (.ref c_Links) "__init__" = some (some (.ref f4)))
 (ifn4 : PySem.W.isFn K (.ref f4) = true)
 (l4 : K.lookup f4 = some ⟨oc4, od4, .func (PySem.W.fnOf "__init__" "Links.__init__" (zd7 zg7) (zd3 zg7) (zb1 zg7) .none kV4 dc4 pm4 an4 cd4 ct4), sl4⟩)
 (c4 : PySem.W.codeIn K cd4 "Links.__init__" = true)
 (k4 : PySem.W.keepIn K (.ref f4) = true)
 (a5 : PySem.W.findIn K (.ref c_Links) "add" = some (some (.ref f5)))
 (ifn5 : PySem.W.isFn K (.ref f5) = true)
 (l5 : K.lookup f5 = some ⟨oc5, od5, .func (PySem.W.fnOf "add" "Links.add" (zd7 zm3) (zd3 zm3) (zb1 zm3) .none kV5 dc5 pm5 an5 cd5 ct5), sl5⟩)
 (c5 : PySem.W.codeIn K cd5 "Links.add" = true)
 (k5 : PySem.W.keepIn K (.ref f5) = true)
 (a6 : PySem.W.nsIn K mainGlobals "way_of" = some (some (.ref f6)))
 (l6 : K.lookup f6 = some ⟨oc6, od6, .func (PySem.W.fnOf "way_of" "way_of" (zd7 zo9) (zd3 zo9) (zb1 zo9) .none kV6 dc6 pm6 an6 cd6 ct6), sl6⟩)
 (c6 : PySem.W.codeIn K cd6 "way_of" = true)
 (k6 : PySem.W.keepIn K (.ref f6) = true)
 (a7 : PySem.W.nsIn K mainGlobals "causes_of" = some (some (.ref f7)))
 (l7 : K.lookup f7 = some ⟨oc7, od7, .func (PySem.W.fnOf "causes_of" "causes_of" (zd7 zi1) (zd3 zi1) (zb1 zi1) .none kV7 dc7 pm7 an7 cd7 ct7), sl7⟩)
 (c7 : PySem.W.codeIn K cd7 "causes_of" = true)
 (k7 : PySem.W.keepIn K (.ref f7) = true)
 (a8 : PySem.W.nsIn K mainGlobals "link_way" = some (some (.ref f8)))
 (l8 : K.lookup f8 = some ⟨oc8, od8, .func (PySem.W.fnOf "link_way" "link_way" (zd7 zl1) (zd3 zl1) (zb1 zl1) .none kV8 dc8 pm8 an8 cd8 ct8), sl8⟩)
 (c8 : PySem.W.codeIn K cd8 "link_way" = true)
 (k8 : PySem.W.keepIn K (.ref f8) = true)
 (a9 : PySem.W.nsIn K mainGlobals "link_numbers" = some (some (.ref f9)))
 (l9 : K.lookup f9 = some ⟨oc9, od9, .func (PySem.W.fnOf "link_numbers" "link_numbers" (zd7 zg1) (zd3 zg1) (zb1 zg1) .none kV9 dc9 pm9 an9 cd9 ct9), sl9⟩)
 (c9 : PySem.W.codeIn K cd9 "link_numbers" = true)
 (k9 : PySem.W.keepIn K (.ref f9) = true)
 (a10 : PySem.W.nsIn K mainGlobals "link_call" = some (some (.ref f10)))
 (l10 : K.lookup f10 = some ⟨oc10, od10, .func (PySem.W.fnOf "link_call" "link_call" (zd7 zj6) (zd3 zj6) (zb1 zj6) .none kV10 dc10 pm10 an10 cd10 ct10), sl10⟩)
 (c10 : PySem.W.codeIn K cd10 "link_call" = true)
 (k10 : PySem.W.keepIn K (.ref f10) = true)
 (a11 : PySem.W.nsIn K mainGlobals "links_of" = some (some (.ref f11)))
 (l11 : K.lookup f11 = some ⟨oc11, od11, .func (PySem.W.fnOf "links_of" "links_of" (zd7 zk9) (zd3 zk9) (zb1 zk9) .none kV11 dc11 pm11 an11 cd11 ct11), sl11⟩)
 (c11 : PySem.W.codeIn K cd11 "links_of" = true)
 (k11 : PySem.W.keepIn K (.ref f11) = true)
 (a12 : PySem.W.nsIn K mainGlobals "marks" = some (some (.ref f12)))
 (l12 : K.lookup f12 = some ⟨oc12, od12, .func (PySem.W.fnOf "marks" "marks" (zd7 zr1) (zd3 zr1) (zb1 zr1) .none kV12 dc12 pm12 an12 cd12 ct12), sl12⟩)
 (c12 : PySem.W.codeIn K cd12 "marks" = true)
 (k12 : PySem.W.keepIn K (.ref f12) = true)
 (a13 : PySem.W.nsIn K mainGlobals "_law_cell_at" = some (some (.ref f13)))
 (l13 : K.lookup f13 = some ⟨oc13, od13, .func (PySem.W.fnOf "_law_cell_at" "_law_cell_at" (zd7 zg0) (zd3 zg0) (zb1 zg0) .none kV13 dc13 pm13 an13 cd13 ct13), sl13⟩)
 (c13 : PySem.W.codeIn K cd13 "_law_cell_at" = true)
 (k13 : PySem.W.keepIn K (.ref f13) = true)
 (a14 : PySem.W.nsIn K mainGlobals "_law_has" = some (some (.ref f14)))
 (l14 : K.lookup f14 = some ⟨oc14, od14, .func (PySem.W.fnOf "_law_has" "_law_has" (zd7 zk2) (zd3 zk2) (zb1 zk2) .none kV14 dc14 pm14 an14 cd14 ct14), sl14⟩)
 (c14 : PySem.W.codeIn K cd14 "_law_has" = true)
 (k14 : PySem.W.keepIn K (.ref f14) = true)
 (a15 : PySem.W.nsIn K mainGlobals "_law_is_own" = some (some (.ref f15)))
 (l15 : K.lookup f15 = some ⟨oc15, od15, .func (PySem.W.fnOf "_law_is_own" "_law_is_own" (zd7 zf9) (zd3 zf9) (zb1 zf9) .none kV15 dc15 pm15 an15 cd15 ct15), sl15⟩)
 (c15 : PySem.W.codeIn K cd15 "_law_is_own" = true)
 (k15 : PySem.W.keepIn K (.ref f15) = true)
 (a16 : PySem.W.nsIn K mainGlobals "_law_names_in" = some (some (.ref f16)))
 (l16 : K.lookup f16 = some ⟨oc16, od16, .func (PySem.W.fnOf "_law_names_in" "_law_names_in" (zd7 ze8) (zd3 ze8) (zb1 ze8) .none kV16 dc16 pm16 an16 cd16 ct16), sl16⟩)
 (c16 : PySem.W.codeIn K cd16 "_law_names_in" = true)
 (k16 : PySem.W.keepIn K (.ref f16) = true)
 (a17 : PySem.W.nsIn K mainGlobals "_law_names" = some (some (.ref f17)))
 (l17 : K.lookup f17 = some ⟨oc17, od17, .func (PySem.W.fnOf "_law_names" "_law_names" (zd7 zh7) (zd3 zh7) (zb1 zh7) .none kV17 dc17 pm17 an17 cd17 ct17), sl17⟩)
 (c17 : PySem.W.codeIn K cd17 "_law_names" = true)
 (k17 : PySem.W.keepIn K (.ref f17) = true)
 (a18 : PySem.W.nsIn K mainGlobals "_law_leaf" = some (some (.ref f18)))
 (l18 : K.lookup f18 = some ⟨oc18, od18, .func (PySem.W.fnOf "_law_leaf" "_law_leaf" (zd7 zi6) (zd3 zi6) (zb1 zi6) .none kV18 dc18 pm18 an18 cd18 ct18), sl18⟩)
 (c18 : PySem.W.codeIn K cd18 "_law_leaf" = true)
 (k18 : PySem.W.keepIn K (.ref f18) = true)
 (a19 : PySem.W.nsIn K mainGlobals "_law_beside" = some (some (.ref f19)))
 (l19 : K.lookup f19 = some ⟨oc19, od19, .func (PySem.W.fnOf "_law_beside" "_law_beside" (zd7 zh3) (zd3 zh3) (zb1 zh3) .none kV19 dc19 pm19 an19 cd19 ct19), sl19⟩)
 (c19 : PySem.W.codeIn K cd19 "_law_beside" = true)
 (k19 : PySem.W.keepIn K (.ref f19) = true)
 (a20 : PySem.W.nsIn K mainGlobals "_law_marked" = some (some (.ref f20)))
 (l20 : K.lookup f20 = some ⟨oc20, od20, .func (PySem.W.fnOf "_law_marked" "_law_marked" (zd7 zh0) (zd3 zh0) (zb1 zh0) .none kV20 dc20 pm20 an20 cd20 ct20), sl20⟩)
 (c20 : PySem.W.codeIn K cd20 "_law_marked" = true)
 (k20 : PySem.W.keepIn K (.ref f20) = true)
 (a21 : PySem.W.nsIn K mainGlobals "_law_spread" = some (some (.ref f21)))
 (l21 : K.lookup f21 = some ⟨oc21, od21, .func (PySem.W.fnOf "_law_spread" "_law_spread" (zd7 zf7) (zd3 zf7) (zb1 zf7) .none kV21 dc21 pm21 an21 cd21 ct21), sl21⟩)
 (c21 : PySem.W.codeIn K cd21 "_law_spread" = true)
 (k21 : PySem.W.keepIn K (.ref f21) = true)
 (a22 : PySem.W.nsIn K mainGlobals "_law_expression" = some (some (.ref f22)))
 (l22 : K.lookup f22 = some ⟨oc22, od22, .func (PySem.W.fnOf "_law_expression" "_law_expression" (zd7 ze5) (zd3 ze5) (zb1 ze5) .none kV22 dc22 pm22 an22 cd22 ct22), sl22⟩)
 (c22 : PySem.W.codeIn K cd22 "_law_expression" = true)
 (k22 : PySem.W.keepIn K (.ref f22) = true)
 (a23 : PySem.W.nsIn K mainGlobals "_law_whole" = some (some (.ref f23)))
 (l23 : K.lookup f23 = some ⟨oc23, od23, .func (PySem.W.fnOf "_law_whole" "_law_whole" (zd7 zh8) (zd3 zh8) (zb1 zh8) .none kV23 dc23 pm23 an23 cd23 ct23), sl23⟩)
 (c23 : PySem.W.codeIn K cd23 "_law_whole" = true)
 (k23 : PySem.W.keepIn K (.ref f23) = true)
 (a24 : PySem.W.nsIn K mainGlobals "_law_reason_good" = some (some (.ref f24)))
 (l24 : K.lookup f24 = some ⟨oc24, od24, .func (PySem.W.fnOf "_law_reason_good" "_law_reason_good" (zd7 zd8) (zd3 zd8) (zb1 zd8) .none kV24 dc24 pm24 an24 cd24 ct24), sl24⟩)
 (c24 : PySem.W.codeIn K cd24 "_law_reason_good" = true)
 (k24 : PySem.W.keepIn K (.ref f24) = true)
 (a25 : PySem.W.nsIn K mainGlobals "law" = some (some (.ref f25)))
 (l25 : K.lookup f25 = some ⟨oc25, od25, .func (PySem.W.fnOf "law" "law" (zd7 s_law) (zd3 s_law) (zb1 s_law) .none kV25 dc25 pm25 an25 cd25 ct25), sl25⟩)
 (c25 : PySem.W.codeIn K cd25 "law" = true)
 (k25 : PySem.W.keepIn K (.ref f25) = true)
 (pg_Links : PySem.W.plainGet K c_Links Str.empty = true)
 (hd_Links : PySem.W.hasDictIn K c_Links = true)
 (po_Links : PySem.W.plainOver K c_Links = true)
 (sa_Links : PySem.W.findIn K (.ref c_Links) "__setattr__" = some (some (.builtin "object.__setattr__")))
 (mk_Links : PySem.W.makesIn K c_Links = true)
 (kc_Links : PySem.W.keepIn K (.ref c_Links) = true)
 (nn_Links_behind : PySem.W.findIn K (.ref c_Links) "behind" = some none)
 (zz_any : PySem.W.nsIn K mainGlobals "any" = some none)
 (zz_bool : PySem.W.nsIn K mainGlobals "bool" = some none)
 (zz_dict : PySem.W.nsIn K mainGlobals "dict" = some none)
 (zz_int : PySem.W.nsIn K mainGlobals "int" = some none)
 (zz_isinstance : PySem.W.nsIn K mainGlobals "isinstance" = some none)
 (zz_len : PySem.W.nsIn K mainGlobals "len" = some none)
 (zz_list : PySem.W.nsIn K mainGlobals "list" = some none)
 (zz_range : PySem.W.nsIn K mainGlobals "range" = some none)
 (zz_tuple : PySem.W.nsIn K mainGlobals "tuple" = some none)
 (zz_zip : PySem.W.nsIn K mainGlobals "zip" = some none)
 (mm_WORKINGS : PySem.W.nsIn K mainGlobals "WORKINGS" = some (some (.ref a_WORKINGS)))
 (lk_WORKINGS : K.lookup a_WORKINGS = some o_WORKINGS)
 (lc_WORKINGS : o_WORKINGS.cls = .type "tuple")
 (lt_WORKINGS : yi1 o_WORKINGS [(Str.ofString "+"), (Str.ofString "-"), (Str.ofString "*"), (Str.ofString "div"), (Str.ofString "rem"), (Str.ofString "<"), (Str.ofString "=")] = true) :
 ∃ fd : FuncData, (∀ (s : Shared) (v : Value), BindsTo s fd ⟨[v], []⟩ [("_law_script", v)]) ∧ ∀ base : Heap, K.In base → base.Ns mainGlobals mg → FnOk l.prog w K mg base CX0 14 fa fd ["_law_script"] (yf0 K) := by
 have e := hfa.symm.trans (PySem.W.mg_of X G a25)
 cases e
 have m_Links : mg "Links" = some (.ref ((clF c_Links) "Links")) := by rw [zr0]; exact PySem.W.mg_of X G mm_Links
 have F_bodies_of := zj0 (st := zi0) l0 c0 k0
 have d_bodies_of : Df K mg "bodies_of" zi0 ["statement"] f0 _ := ⟨F_bodies_of, F_bodies_of.binds (ps := ["statement"]) fun _ _ _ _ _ _ => ln1 fun _ => rfl, PySem.W.mg_of X G a0⟩
 have F_placed := funD_mk (st := zn2) l1 c1 k1
 have d_placed : DfD K mg "placed" zn2 ["body", "around"] f1 _ := ⟨F_placed, (fun s us Xs hl => match us, (show us.length = 2 by simpa using hl) with | [_, _], _ => PySem.W.binds_K Xs rfl lT1 hT1 rfl rfl), (fun s us Xs hl => match us, (show us.length = 1 by simpa using hl) with | [_], _ => PySem.W.binds_K Xs rfl lT1 hT1 rfl rfl), PySem.W.mg_of X G a1⟩
 have F_given_by := zj0 (st := zl0) l2 c2 k2
 have d_given_by : Df K mg "given_by" zl0 ["statement"] f2 _ := ⟨F_given_by, F_given_by.binds (ps := ["statement"]) fun _ _ _ _ _ _ => ln1 fun _ => rfl, PySem.W.mg_of X G a2⟩
 have F_leaves_of := zj0 (st := zi8) l3 c3 k3
 have d_leaves_of : Df K mg "leaves_of" zi8 ["expression"] f3 _ := ⟨F_leaves_of, F_leaves_of.binds (ps := ["expression"]) fun _ _ _ _ _ _ => ln1 fun _ => rfl, PySem.W.mg_of X G a3⟩
 have F_Links___init__ := zj0 (st := zg7) l4 c4 k4
 have b_Links___init__ := F_Links___init__.binds (ps := ["self"]) fun _ _ _ _ _ _ => ln1 fun _ => rfl
 have F_Links_add := zj0 (st := zm3) l5 c5 k5
 have b_Links_add := F_Links_add.binds (ps := ["self", "causes", "key", "line"]) fun _ _ _ _ _ _ => ln4 fun _ _ _ _ => rfl
 have mt_Links_add : Meth K ((clF c_Links) "Links") "add" f5 := by rw [zr0]; exact ⟨a5, ifn5, k5⟩
 have F_way_of := zj0 (st := zo9) l6 c6 k6
 have d_way_of : Df K mg "way_of" zo9 ["name", "around"] f6 _ := ⟨F_way_of, F_way_of.binds (ps := ["name", "around"]) fun _ _ _ _ _ _ => ln2 fun _ _ => rfl, PySem.W.mg_of X G a6⟩
 have F_causes_of := zj0 (st := zi1) l7 c7 k7
 have d_causes_of : Df K mg "causes_of" zi1 ["name", "expression"] f7 _ := ⟨F_causes_of, F_causes_of.binds (ps := ["name", "expression"]) fun _ _ _ _ _ _ => ln2 fun _ _ => rfl, PySem.W.mg_of X G a7⟩
 have F_link_way := zj0 (st := zl1) l8 c8 k8
 have d_link_way : Df K mg "link_way" zl1 ["links", "name", "statement", "around"] f8 _ := ⟨F_link_way, F_link_way.binds (ps := ["links", "name", "statement", "around"]) fun _ _ _ _ _ _ => ln4 fun _ _ _ _ => rfl, PySem.W.mg_of X G a8⟩
 have F_link_numbers := zj0 (st := zg1) l9 c9 k9
 have d_link_numbers : Df K mg "link_numbers" zg1 ["links", "name", "statement"] f9 _ := ⟨F_link_numbers, F_link_numbers.binds (ps := ["links", "name", "statement"]) fun _ _ _ _ _ _ => ln3 fun _ _ _ => rfl, PySem.W.mg_of X G a9⟩
 have F_link_call := zj0 (st := zj6) l10 c10 k10
 have d_link_call : Df K mg "link_call" zj6 ["links", "name", "statement", "params"] f10 _ := ⟨F_link_call, F_link_call.binds (ps := ["links", "name", "statement", "params"]) fun _ _ _ _ _ _ => ln4 fun _ _ _ _ => rfl, PySem.W.mg_of X G a10⟩
 have F_links_of := zj0 (st := zk9) l11 c11 k11
 have d_links_of : Df K mg "links_of" zk9 ["program"] f11 _ := ⟨F_links_of, F_links_of.binds (ps := ["program"]) fun _ _ _ _ _ _ => ln1 fun _ => rfl, PySem.W.mg_of X G a11⟩
 have F_marks := zj0 (st := zr1) l12 c12 k12
 have d_marks : Df K mg "marks" zr1 ["program"] f12 _ := ⟨F_marks, F_marks.binds (ps := ["program"]) fun _ _ _ _ _ _ => ln1 fun _ => rfl, PySem.W.mg_of X G a12⟩
 have F__law_cell_at := zj0 (st := zg0) l13 c13 k13
 have d__law_cell_at : Df K mg "_law_cell_at" zg0 ["_law_script", "_law_k"] f13 _ := ⟨F__law_cell_at, F__law_cell_at.binds (ps := ["_law_script", "_law_k"]) fun _ _ _ _ _ _ => ln2 fun _ _ => rfl, PySem.W.mg_of X G a13⟩
 have F__law_has := zj0 (st := zk2) l14 c14 k14
 have d__law_has : Df K mg "_law_has" zk2 ["_law_told", "_law_leaf_here"] f14 _ := ⟨F__law_has, F__law_has.binds (ps := ["_law_told", "_law_leaf_here"]) fun _ _ _ _ _ _ => ln2 fun _ _ => rfl, PySem.W.mg_of X G a14⟩
 have F__law_is_own := zj0 (st := zf9) l15 c15 k15
 have d__law_is_own : Df K mg "_law_is_own" zf9 ["_law_told", "_law_marked_here"] f15 _ := ⟨F__law_is_own, F__law_is_own.binds (ps := ["_law_told", "_law_marked_here"]) fun _ _ _ _ _ _ => ln2 fun _ _ => rfl, PySem.W.mg_of X G a15⟩
 have F__law_names_in := zj0 (st := ze8) l16 c16 k16
 have d__law_names_in : Df K mg "_law_names_in" ze8 ["_law_told"] f16 _ := ⟨F__law_names_in, F__law_names_in.binds (ps := ["_law_told"]) fun _ _ _ _ _ _ => ln1 fun _ => rfl, PySem.W.mg_of X G a16⟩
 have F__law_names := zj0 (st := zh7) l17 c17 k17
 have d__law_names : Df K mg "_law_names" zh7 ["_law_number"] f17 _ := ⟨F__law_names, F__law_names.binds (ps := ["_law_number"]) fun _ _ _ _ _ _ => ln1 fun _ => rfl, PySem.W.mg_of X G a17⟩
 have F__law_leaf := zj0 (st := zi6) l18 c18 k18
 have d__law_leaf : Df K mg "_law_leaf" zi6 ["_law_number", "_law_names_here", "_law_own"] f18 _ := ⟨F__law_leaf, F__law_leaf.binds (ps := ["_law_number", "_law_names_here", "_law_own"]) fun _ _ _ _ _ _ => ln3 fun _ _ _ => rfl, PySem.W.mg_of X G a18⟩
 have F__law_beside := zj0 (st := zh3) l19 c19 k19
 have d__law_beside : Df K mg "_law_beside" zh3 ["_law_number", "_law_names_here", "_law_own"] f19 _ := ⟨F__law_beside, F__law_beside.binds (ps := ["_law_number", "_law_names_here", "_law_own"]) fun _ _ _ _ _ _ => ln3 fun _ _ _ => rfl, PySem.W.mg_of X G a19⟩
 have F__law_marked := zj0 (st := zh0) l20 c20 k20
 have d__law_marked : Df K mg "_law_marked" zh0 ["_law_body"] f20 _ := ⟨F__law_marked, F__law_marked.binds (ps := ["_law_body"]) fun _ _ _ _ _ _ => ln1 fun _ => rfl, PySem.W.mg_of X G a20⟩
 have F__law_spread := zj0 (st := zf7) l21 c21 k21
 have d__law_spread : Df K mg "_law_spread" zf7 ["_law_cell", "_law_k"] f21 _ := ⟨F__law_spread, F__law_spread.binds (ps := ["_law_cell", "_law_k"]) fun _ _ _ _ _ _ => ln2 fun _ _ => rfl, PySem.W.mg_of X G a21⟩
 have F__law_expression := zj0 (st := ze5) l22 c22 k22
 have d__law_expression : Df K mg "_law_expression" ze5 ["_law_number", "_law_names_here", "_law_own"] f22 _ := ⟨F__law_expression, F__law_expression.binds (ps := ["_law_number", "_law_names_here", "_law_own"]) fun _ _ _ _ _ _ => ln3 fun _ _ _ => rfl, PySem.W.mg_of X G a22⟩
 have F__law_whole := zj0 (st := zh8) l23 c23 k23
 have d__law_whole : Df K mg "_law_whole" zh8 ["_law_found"] f23 _ := ⟨F__law_whole, F__law_whole.binds (ps := ["_law_found"]) fun _ _ _ _ _ _ => ln1 fun _ => rfl, PySem.W.mg_of X G a23⟩
 have F__law_reason_good := zj0 (st := zd8) l24 c24 k24
 have d__law_reason_good : Df K mg "_law_reason_good" zd8 ["_law_found", "_law_body", "_law_name"] f24 _ := ⟨F__law_reason_good, F__law_reason_good.binds (ps := ["_law_found", "_law_body", "_law_name"]) fun _ _ _ _ _ _ => ln3 fun _ _ _ => rfl, PySem.W.mg_of X G a24⟩
 have F_law := zj0 (st := s_law) l25 c25 k25
 have cl_Links : Cls K ((clF c_Links) "Links") := by rw [zr0]; exact ⟨pg_Links, hd_Links, po_Links, sa_Links⟩
 have n_Links_behind : NoAttr K ((clF c_Links) "Links") "behind" := by rw [zr0]; exact nn_Links_behind
 have M_Links : Mk K ((clF c_Links) "Links") f4 := by rw [zr0]; exact ⟨mk_Links, a4, ifn4, kc_Links⟩
 have z_any := PySem.W.mg_none_of X G zz_any
 have z_bool := PySem.W.mg_none_of X G zz_bool
 have z_dict := PySem.W.mg_none_of X G zz_dict
 have z_int := PySem.W.mg_none_of X G zz_int
 have z_isinstance := PySem.W.mg_none_of X G zz_isinstance
 have z_len := PySem.W.mg_none_of X G zz_len
 have z_list := PySem.W.mg_none_of X G zz_list
 have z_range := PySem.W.mg_none_of X G zz_range
 have z_tuple := PySem.W.mg_none_of X G zz_tuple
 have z_zip := PySem.W.mg_none_of X G zz_zip
 have m_WORKINGS := PySem.W.mg_of X G mm_WORKINGS
 have g_WORKINGS : ∀ G, SqT K G a_WORKINGS (([(Str.ofString "+"), (Str.ofString "-"), (Str.ofString "*"), (Str.ofString "div"), (Str.ofString "rem"), (Str.ofString "<"), (Str.ofString "=")]).map V.str) := fun _ => sq_strTup lk_WORKINGS lc_WORKINGS lt_WORKINGS
 refine ⟨PySem.W.fnOf "law" "law" (zd7 s_law) (zd3 s_law) (zb1 s_law) .none kV25 dc25 pm25 an25 cd25 ct25, fun s v => .of_eq rfl, fun base _ _ => ?_⟩
 have G_bodies_of := ok_bodies_of (P := l.prog) (w := w) (mg := mg) (base := base) F_bodies_of
 have G_placed := ok_placed (P := l.prog) (w := w) (mg := mg) (base := base) d_placed d_bodies_of G_bodies_of 8
 have G_given_by := ok_given_by (P := l.prog) (w := w) (mg := mg) (base := base) F_given_by
 have G_leaves_of := ok_leaves_of (P := l.prog) (w := w) (mg := mg) (base := base) d_leaves_of m_WORKINGS g_WORKINGS 9
 have G_Links___init__ := ok_Links___init__ (P := l.prog) (w := w) (mg := mg) (base := base) (cl := (clF c_Links)) F_Links___init__ m_Links cl_Links n_Links_behind
 have G_Links_add := ok_Links_add (P := l.prog) (w := w) (mg := mg) (base := base) (cl := (clF c_Links)) F_Links_add m_Links cl_Links n_Links_behind
 have G_way_of := ok_way_of (P := l.prog) (w := w) (mg := mg) (base := base) F_way_of
 have G_causes_of := ok_causes_of (P := l.prog) (w := w) (mg := mg) (base := base) F_causes_of d_leaves_of G_leaves_of
 have G_link_way := ok_link_way (P := l.prog) (w := w) (mg := mg) (base := base) (cl := (clF c_Links)) F_link_way d_way_of G_way_of d_given_by G_given_by b_Links_add mt_Links_add G_Links_add m_Links cl_Links n_Links_behind
 have G_link_numbers := ok_link_numbers (P := l.prog) (w := w) (mg := mg) (base := base) (cl := (clF c_Links)) F_link_numbers b_Links_add mt_Links_add G_Links_add d_causes_of G_causes_of m_Links cl_Links n_Links_behind
 have G_link_call := ok_link_call (P := l.prog) (w := w) (mg := mg) (base := base) (cl := (clF c_Links)) F_link_call b_Links_add mt_Links_add G_Links_add d_causes_of G_causes_of m_Links cl_Links n_Links_behind z_zip
 have G_links_of := ok_links_of (P := l.prog) (w := w) (mg := mg) (base := base) (cl := (clF c_Links)) F_links_of b_Links___init__ M_Links G_Links___init__ b_Links_add mt_Links_add G_Links_add d_link_way G_link_way d_link_numbers G_link_numbers d_link_call G_link_call d_placed G_placed m_Links cl_Links n_Links_behind
 have G_marks := ok_marks (P := l.prog) (w := w) (mg := mg) (base := base) (cl := (clF c_Links)) F_marks d_links_of G_links_of m_Links cl_Links n_Links_behind
 have G__law_cell_at := ok__law_cell_at (P := l.prog) (w := w) (mg := mg) (base := base) F__law_cell_at z_len
 have G__law_has := ok__law_has (P := l.prog) (w := w) (mg := mg) (base := base) d__law_has z_any 9
 have G__law_is_own := ok__law_is_own (P := l.prog) (w := w) (mg := mg) (base := base) (cl := (clF c_Links)) d__law_is_own z_any 9
 have G__law_names_in := ok__law_names_in (P := l.prog) (w := w) (mg := mg) (base := base) d__law_names_in 9
 have G__law_names := ok__law_names (P := l.prog) (w := w) (mg := mg) (base := base) F__law_names z_range z_len
 have G__law_leaf := ok__law_leaf (P := l.prog) (w := w) (mg := mg) (base := base) F__law_leaf
 have G__law_beside := ok__law_beside (P := l.prog) (w := w) (mg := mg) (base := base) F__law_beside d__law_leaf G__law_leaf
 have G__law_marked := ok__law_marked (P := l.prog) (w := w) (mg := mg) (base := base) (cl := (clF c_Links)) F__law_marked d__law_is_own G__law_is_own z_range
 have G__law_spread := ok__law_spread (P := l.prog) (w := w) (mg := mg) (base := base) F__law_spread
 have G__law_expression := ok__law_expression (P := l.prog) (w := w) (mg := mg) (base := base) F__law_expression d__law_leaf G__law_leaf d__law_spread G__law_spread d__law_beside G__law_beside z_range
 have G__law_whole := ok__law_whole (P := l.prog) (w := w) (mg := mg) (base := base) F__law_whole z_isinstance z_bool z_int
 have G__law_reason_good := ok__law_reason_good (P := l.prog) (w := w) (mg := mg) (base := base) (cl := (clF c_Links)) F__law_reason_good d__law_whole G__law_whole d__law_has G__law_has d__law_names_in G__law_names_in z_len z_isinstance z_tuple
 exact ok_law (P := l.prog) (w := w) (mg := mg) (base := base) (cl := (clF c_Links)) law_true F_law d__law_names G__law_names d__law_spread G__law_spread d__law_cell_at G__law_cell_at d__law_expression G__law_expression d_marks G_marks d__law_marked G__law_marked d__law_reason_good G__law_reason_good z_len z_list z_isinstance z_dict
theorem walk {l : PySem.W.OpenLaw} {q : Program} {loose : List Str} {XP : (Str → Option Value) → Heap → Prop} {YP : World → Heap → Prop} {d : DefRec} {K : Params → PySem.W.Frag} (hn : l.most = some 63) (hdf : d.params.defaults = [])
 (hY : ∀ (w : World) (h : Heap), YP w h → (K w.params).In h)
 (F : ∀ (w : World) (mg : Str → Option Value) (fa : Addr) (h : Heap), (K w.params).In h → h.Ns mainGlobals mg → mg d.name = some (.ref fa) →
  ∃ fd : FuncData, (∀ (s : Shared) (u : Value), BindsTo s fd ⟨[u], []⟩ [("_law_script", u)]) ∧ ∀ base : Heap, (K w.params).In base → base.Ns mainGlobals mg → FnOk l.prog w (K w.params) mg base CX0 14 fa fd ["_law_script"] (yf0 (K w.params))) :
 PySem.W.WalkO q loose XP YP l.row.toRowW d [] (fun f vs => PySem.call f vs) :=
 L2.walk_of (n := 63) (k := 14) (x := "_law_script") (CX := fun _ => CX0) (sp := fun w => (yf0 (K w.params))) hn (by decide) hdf ⟨rfl, by decide, by decide⟩ hY F (fun _ _ a ns hl _ hS => ⟨a, ns, rfl, hS, hl, fun _ => rfl⟩) fun _ _ _ _ _ z => z
theorem toX {q : Program} {loose : List Str} {XP : (Str → Option Value) → Heap → Prop} {r : PySem.W.RowW} {d : DefRec} {kwd : List (Str × Expr)} {run : Value → List Value → Sem Value} {K : Params → PySem.W.Frag} {as : List Addr} {n t : Nat} (e : ∀ P, as = (K P).map (·.1))
 (h : PySem.W.WalkO q loose XP (fun w h => (K w.params).In h) r d kwd run) : PySem.W.WalkX q loose XP (PySem.W.X.obsZ as) (PySem.W.X.valZ K n t) r d kwd run :=
 fun w s0 s1 mg mb G y a o pm cd doc dV kV h1 h2 h3 h4 h5 h6 args vals as' L hp hl hr hw ho => h w s0 s1 mg mb G (PySem.W.InK.keeps w s0.heap s1.heap (PySem.W.X.z_facts e y).2.1 L.keeps) a o pm cd doc dV kV h1 h2 h3 h4 h5 h6 args vals as' hp hl hr hw ho
end My
open PySem PySem.W PyProof.Rows
set_option maxRecDepth 100000 in
set_option maxHeartbeats 0 in
theorem PySem.Challenge.cw_widelanes_k11_marks_of_sets_holds : PySem.Challenge.rw_widelanes_k11_marks_of_sets.Holds := by
 w_on; o_law; z_head; (case hw => w_witness2)
 refine My.toX (fun _ => rfl) (My.walk (l := PySem.Challenge.rw_widelanes_k11_marks_of_sets) rfl rfl (fun w h Y => Y) ?F)
 case F =>
  intro w mg fa h KX G hmg
  refine' My.all_mk KX G hmg ?mm_Links ?a0 ?l0 ?c0 ?k0 ?a1 ?l1 ?lT1 ?hT1 ?c1 ?k1 ?a2 ?l2 ?c2 ?k2 ?a3 ?l3 ?c3 ?k3 ?a4 ?ifn4 ?l4 ?c4 ?k4 ?a5 ?ifn5 ?l5 ?c5 ?k5 ?a6 ?l6 ?c6 ?k6 ?a7 ?l7 ?c7 ?k7 ?a8 ?l8 ?c8 ?k8 ?a9 ?l9 ?c9 ?k9 ?a10 ?l10 ?c10 ?k10 ?a11 ?l11 ?c11 ?k11 ?a12 ?l12 ?c12 ?k12 ?a13 ?l13 ?c13 ?k13 ?a14 ?l14 ?c14 ?k14 ?a15 ?l15 ?c15 ?k15 ?a16 ?l16 ?c16 ?k16 ?a17 ?l17 ?c17 ?k17 ?a18 ?l18 ?c18 ?k18 ?a19 ?l19 ?c19 ?k19 ?a20 ?l20 ?c20 ?k20 ?a21 ?l21 ?c21 ?k21 ?a22 ?l22 ?c22 ?k22 ?a23 ?l23 ?c23 ?k23 ?a24 ?l24 ?c24 ?k24 ?a25 ?l25 ?c25 ?k25 ?pg_Links ?hd_Links ?po_Links ?sa_Links ?mk_Links ?kc_Links ?nn_Links_behind ?zz_any ?zz_bool ?zz_dict ?zz_int ?zz_isinstance ?zz_len ?zz_list ?zz_range ?zz_tuple ?zz_zip ?mm_WORKINGS ?lk_WORKINGS ?lc_WORKINGS ?lt_WORKINGS
  (case mm_Links => k_is)
  (case a0 => k_is)
  (case l0 => k_is)
  (case c0 => k_is)
  (case k0 => k_is)
  (case a1 => k_is)
  (case l1 => k_is)
  (case lT1 => k_is)
  (case hT1 => rfl)
  (case c1 => k_is)
  (case k1 => k_is)
  (case a2 => k_is)
  (case l2 => k_is)
  (case c2 => k_is)
  (case k2 => k_is)
  (case a3 => k_is)
  (case l3 => k_is)
  (case c3 => k_is)
  (case k3 => k_is)
  (case a4 => k_is)
  (case ifn4 => k_is)
  (case l4 => k_is)
  (case c4 => k_is)
  (case k4 => k_is)
  (case a5 => k_is)
  (case ifn5 => k_is)
  (case l5 => k_is)
  (case c5 => k_is)
  (case k5 => k_is)
  (case a6 => k_is)
  (case l6 => k_is)
  (case c6 => k_is)
  (case k6 => k_is)
  (case a7 => k_is)
  (case l7 => k_is)
  (case c7 => k_is)
  (case k7 => k_is)
  (case a8 => k_is)
  (case l8 => k_is)
  (case c8 => k_is)
  (case k8 => k_is)
  (case a9 => k_is)
  (case l9 => k_is)
  (case c9 => k_is)
  (case k9 => k_is)
  (case a10 => k_is)
  (case l10 => k_is)
  (case c10 => k_is)
  (case k10 => k_is)
  (case a11 => k_is)
  (case l11 => k_is)
  (case c11 => k_is)
  (case k11 => k_is)
  (case a12 => k_is)
  (case l12 => k_is)
  (case c12 => k_is)
  (case k12 => k_is)
  (case a13 => k_is)
  (case l13 => k_is)
  (case c13 => k_is)
  (case k13 => k_is)
  (case a14 => k_is)
  (case l14 => k_is)
  (case c14 => k_is)
  (case k14 => k_is)
  (case a15 => k_is)
  (case l15 => k_is)
  (case c15 => k_is)
  (case k15 => k_is)
  (case a16 => k_is)
  (case l16 => k_is)
  (case c16 => k_is)
  (case k16 => k_is)
  (case a17 => k_is)
  (case l17 => k_is)
  (case c17 => k_is)
  (case k17 => k_is)
  (case a18 => k_is)
  (case l18 => k_is)
  (case c18 => k_is)
  (case k18 => k_is)
  (case a19 => k_is)
  (case l19 => k_is)
  (case c19 => k_is)
  (case k19 => k_is)
  (case a20 => k_is)
  (case l20 => k_is)
  (case c20 => k_is)
  (case k20 => k_is)
  (case a21 => k_is)
  (case l21 => k_is)
  (case c21 => k_is)
  (case k21 => k_is)
  (case a22 => k_is)
  (case l22 => k_is)
  (case c22 => k_is)
  (case k22 => k_is)
  (case a23 => k_is)
  (case l23 => k_is)
  (case c23 => k_is)
  (case k23 => k_is)
  (case a24 => k_is)
  (case l24 => k_is)
  (case c24 => k_is)
  (case k24 => k_is)
  (case a25 => k_is)
  (case l25 => k_is)
  (case c25 => k_is)
  (case k25 => k_is)
  (case pg_Links => k_is)
  (case hd_Links => k_is)
  (case po_Links => k_is)
  (case sa_Links => k_is)
  (case mk_Links => k_is)
  (case kc_Links => k_is)
  (case nn_Links_behind => k_is)
  (case zz_any => k_is)
  (case zz_bool => k_is)
  (case zz_dict => k_is)
  (case zz_int => k_is)
  (case zz_isinstance => k_is)
  (case zz_len => k_is)
  (case zz_list => k_is)
  (case zz_range => k_is)
  (case zz_tuple => k_is)
  (case zz_zip => k_is)
  (case mm_WORKINGS => k_is)
  (case lk_WORKINGS => k_is)
  (case lc_WORKINGS => rfl)
  (case lt_WORKINGS => kernel_rfl)
