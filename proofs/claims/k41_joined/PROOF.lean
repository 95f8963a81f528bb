import PyProof.Rows.All
import Wide.All
import OpenK.AllK
import Wide.FinOn
import Lean
import PyProof.EqAt
import PyProof.EqKinds
import PyProof.TupleCall
import PySem.Challenge.RW_widelanes_k41_joined
set_option Elab.async false
set_option linter.all false
set_option maxRecDepth 100000
namespace L2
open PySem PySem.Spec PyProof.Rows
abbrev Key := Sum Int Str
def keyIs : Key → Value → Bool
  | .inl k, v => Value.isInt k v
  | .inr x, v => Value.isStrOf x v
def keyH (w : World) : Key → Int
  | .inl k => hashInt k
  | .inr x => hashStr w x
theorem keyIs_shape : ∀ {k : Key} {v : Value}, keyIs k v = true → (∃ i t, k = Sum.inl i ∧ v = Value.int i t) ∨ (∃ x t, k = Sum.inr x ∧ v = Value.str x t)
  | .inl i, v, h => by
    obtain ⟨t, e⟩ := Value.isInt_shape (k := i) (v := v) h
    exact .inl ⟨i, t, rfl, e⟩
  | .inr x, v, h => by
    obtain ⟨t, e⟩ := Value.isStrOf_shape (x := x) (v := v) h
    exact .inr ⟨x, t, rfl, e⟩
theorem key_ll (a b : Int) : decide ((Sum.inl a : Key) = Sum.inl b) = (a == b) := by
  by_cases e : a = b
  · subst e; simp
  · have h : ¬ (Sum.inl a : Key) = Sum.inl b := fun q => e (Sum.inl.inj q)
    rw [decide_eq_false h]
    exact (beq_eq_false_iff_ne.mpr e).symm
theorem key_rr (a b : Str) : decide ((Sum.inr a : Key) = Sum.inr b) = decide (a = b) := by
  by_cases e : a = b
  · subst e; simp
  · have h : ¬ (Sum.inr a : Key) = Sum.inr b := fun q => e (Sum.inr.inj q)
    rw [decide_eq_false h, decide_eq_false e]
theorem key_lr (a : Int) (b : Str) : decide ((Sum.inl a : Key) = Sum.inr b) = false := decide_eq_false (fun q => nomatch q)
theorem key_rl (a : Str) (b : Int) : decide ((Sum.inr a : Key) = Sum.inl b) = false := decide_eq_false (fun q => nomatch q)
def mixKind (prog : Program) (w : World) : PySem.KeyKind prog w Key where
  is := keyIs
  hash := keyH w
  inj := fun v a b ha hb => by
    rcases keyIs_shape ha with ⟨i, t, rfl, rfl⟩ | ⟨x, t, rfl, rfl⟩
    · rcases keyIs_shape hb with ⟨j, u, rfl, e⟩ | ⟨y, u, rfl, e⟩
      · injection e with e1 _; rw [e1]
      · exact nomatch e
    · rcases keyIs_shape hb with ⟨j, u, rfl, e⟩ | ⟨y, u, rfl, e⟩
      · exact nomatch e
      · injection e with e1 _; rw [e1]
  byValue := fun k v h => by
    rcases keyIs_shape h with ⟨i, t, rfl, rfl⟩ | ⟨x, t, rfl, rfl⟩ <;> rfl
  pyHash := fun hv h => by
    rcases keyIs_shape hv with ⟨i, t, rfl, rfl⟩ | ⟨x, t, rfl, rfl⟩
    · exact wpAny_pyHash_int h
    · exact wpAny_pyHash_str h
  eqBool := fun hu hv h => by
    rcases keyIs_shape hu with ⟨i, t, rfl, rfl⟩ | ⟨x, t, rfl, rfl⟩
    · rcases keyIs_shape hv with ⟨j, u, rfl, rfl⟩ | ⟨y, u, rfl, rfl⟩
      · rw [key_ll] at h; exact wpAny_eqBool_int h
      · rw [key_lr] at h; exact SeqAt.EqAt.int_str i t y u _ _ _ _ h
    · rcases keyIs_shape hv with ⟨j, u, rfl, rfl⟩ | ⟨y, u, rfl, rfl⟩
      · rw [key_rl] at h; exact SeqAt.EqAt.str_int x t j u _ _ _ _ h
      · rw [key_rr] at h; exact wpAny_eqBool_str h
  «strs» := fun k x t v h => by
    rcases keyIs_shape h with ⟨i, u, rfl, e⟩ | ⟨y, u, rfl, e⟩
    · exact nomatch e
    · injection e with e1 _
      subst e1
      cases v <;> rfl
end L2
namespace L2
open PySem PySem.Spec PyProof.Rows
inductive V where
  | non | bl (b : Bool) | int (i : Int) | str (x : Str) | byt (b : Array UInt8) | flt (b : UInt64) | ref (a : Addr) | ty (n : String)
  deriving DecidableEq
def RelV : V → Value → Prop
  | .non, u => u = Value.none
  | .bl b, u => u = Value.bool b
  | .int i, u => ∃ t, u = Value.int i t
  | .str x, u => ∃ t, u = Value.str x t
  | .byt b, u => ∃ t, u = Value.bytes b t
  | .flt b, u => ∃ t, u = Value.float b t
  | .ref a, u => u = Value.ref a
  | .ty n, u => u = Value.type n
abbrev Vals : List V → List Value → Prop := Paired RelV
theorem Vals.length {xs : List V} {us : List Value} (r : Vals xs us) : xs.length = us.length := Paired.length r
theorem Vals.get : ∀ {xs : List V} {us : List Value} {i : Nat} {x : V}, Vals xs us → xs[i]? = some x → ∃ u, us[i]? = some u ∧ RelV x u
  | _, _, _, _, .nil, e => by simp at e
  | _, _, 0, _, .cons r _, e => by simp at e; subst e; exact ⟨_, rfl, r⟩
  | _, _, i + 1, x, .cons _ t, e => by
    obtain ⟨u, h1, h2⟩ := Vals.get (i := i) (x := x) t (by simpa using e)
    exact ⟨u, by simpa using h1, h2⟩
theorem Vals.set {x : V} {u : Value} (r : RelV x u) : ∀ {xs : List V} {us : List Value} (i : Nat), Vals xs us → Vals (xs.set i x) (us.set i u)
  | _, _, _, .nil => .nil
  | _, _, 0, .cons _ t => .cons r t
  | _, _, i + 1, .cons q t => .cons q (Vals.set r i t)
theorem Vals.append : ∀ {xs ys : List V} {us ws : List Value}, Vals xs us → Vals ys ws → Vals (xs ++ ys) (us ++ ws)
  | _, _, _, _, .nil, s => s
  | _, _, _, _, .cons r t, s => .cons r (Vals.append t s)
theorem Vals.take : ∀ {xs : List V} {us : List Value} (n : Nat), Vals xs us → Vals (xs.take n) (us.take n)
  | _, _, 0, _ => .nil
  | _, _, _ + 1, .nil => .nil
  | _, _, n + 1, .cons r t => .cons r (Vals.take n t)
theorem Vals.drop : ∀ {xs : List V} {us : List Value} (n : Nat), Vals xs us → Vals (xs.drop n) (us.drop n)
  | _, _, 0, r => r
  | _, _, _ + 1, .nil => .nil
  | _, _, n + 1, .cons _ t => Vals.drop n t
def RelO : Option V → Option Value → Prop
  | some v, some u => RelV v u
  | none, none => True
  | _, _ => False
def KV {κ : Type} : List (κ × V) → List (κ × Value) → Prop := Paired fun (p : κ × V) (q : κ × Value) => p.1 = q.1 ∧ RelV p.2 q.2
def kV : Key → V
  | .inl i => .int i
  | .inr x => .str x
inductive HO where
  /-- a list -/
  | lst (xs : List V)
  /-- a tuple (never changes) -/
  | tup (xs : List V)
  /-- a dict whose keys are ints and texts; one whose keys are tuples of ints and texts (the empty one is both) -/
  | dK (kvs : List (Key × V)) | dT (kvs : List (List Key × V))
  /-- a set of ints: its members, its size -/
  | set (S : Int → Bool) (n : Nat)
  /-- an instance of the class at C, its dict at dx, its attributes -/
  | ins (C dx : Addr) (fs : List (Str × V))
  /-- the dict of the instance at x -/
  | own (x : Addr)
  /-- the dict of an exception -/
  | xd (fs : List (Str × V))
  /-- a bound method, f of x -/
  | met (f x : Addr)
  /-- a range object lo, lo + 1, .. below hi -/
  | rng (lo hi : Int)
  /-- a thing that is known to the object (the script; a dict while a loop walks it): read, never written while it is so -/
  | frz (o : Obj) (u : HO)
  /-- a code object's table -/
  | tbl (ps : Array Value)
  /-- any other thing, by what is true of its one object (a def of one's own: SetO a S n := HO.ext fun h => ..) -/
  | ext (φ : Heap → Prop)
abbrev Hp := Addr → Option HO
def upd (H : Hp) (a : Addr) (o : HO) : Hp := fun b => if b = a then some o else H b
theorem upd_same {H : Hp} {a : Addr} {o : HO} : upd H a o a = some o := by unfold upd; rw [if_pos rfl]
theorem upd_ne {H : Hp} {a b : Addr} {o : HO} (h : b ≠ a) : upd H a o b = H b := by unfold upd; rw [if_neg h]
theorem ne_of_none {H : Hp} {a b : Addr} {o : HO} (h : H a = some o) (h' : H b = none) : a ≠ b := by
  intro e; subst e; rw [h] at h'; cases h'
section
variable (P : Program) (w : World)
def ObjOk (H : Hp) (h : Heap) (a : Addr) : HO → Prop
  | .lst xs => xs.length ≤ sizeLine ∧ ∃ (its : List Value) (n : Nat), Vals xs its ∧ h.get? a = some { cls := .type "list", data := .seq its.toArray n }
  | .tup xs => xs.length ≤ sizeLine ∧ ∃ its : List Value, Vals xs its ∧ IsTup h a its.toArray
  | .dK kvs => kvs.length ≤ sizeLine ∧ (a == sysModules) = false ∧ ∃ vs, KV kvs vs ∧ h.DictOf (mixKind P w) a vs
  | .dT kvs => kvs.length ≤ sizeLine ∧ (a == sysModules) = false ∧ ∃ xs : List (List Key × Addr × Value),
      Paired (fun (p : List Key × V) (q : List Key × Addr × Value) => p.1 = q.1 ∧ H q.2.1 = some (.tup (p.1.map kV)) ∧ RelV p.2 q.2.2) kvs xs ∧
      ∃ o es ep, h.get? a = some o ∧ o.ExactDict ∧ o.data = .dict es ep ∧ es.toList = xs.map (entryOfKey (tupleKind (mixKind P w))) ∧ (xs.map (·.1)).Nodup
  | .set S n => h.SetOf (intKind P w) a S n
  | .ins C dx fs => H dx = some (.own a) ∧ fs.length ≤ 1000 ∧ dx ≠ a ∧ h.get? a = some (PySem.W.instObj C dx) ∧
      ∃ mA, h.Ns1 dx mA ∧ (∀ f, RelO (fs.lookup f) (mA f)) ∧ PySem.Within mA (fs.map (·.1))
  | .own _ => ∃ o, h.get? a = some o
  | .xd fs => ∃ mA, h.Ns1 a mA ∧ ∀ f, RelO (fs.lookup f) (mA f)
  | .rng lo hi => ∃ t u v, h.get? a = some { cls := .type "range", data := .fields #[.int lo t, .int hi u, .int 1 v] }
  | .frz o u => h.get? a = some o ∧ ObjOk H h a u
  | .tbl ps => h.get? a = some { cls := .none, data := .fields ps }
  | .met f x => h.get? a = some (PySem.W.methodObj (.ref f) (.ref x))
  | .ext φ => φ h ∧ (∃ o, h.get? a = some o) ∧ ∀ h1 h2 : Heap, φ h1 → (∀ o, h1.get? a = some o → h2.get? a = some o) → φ h2
def HOk (H : Hp) (h : Heap) : Prop := ∀ a o, H a = some o → ObjOk P w H h a o
end
section
variable {P : Program} {w : World} {H H' : Hp} {h h' : Heap} {a : Addr} {o : HO}
theorem ObjOk.lt (x : ObjOk P w H h a o) : a < h.objs.size := by
  cases o with
  | lst xs => obtain ⟨_, _, _, _, e⟩ := x; exact Heap.lt_size e
  | tup xs => obtain ⟨_, _, _, p⟩ := x; exact p.lt
  | dK kvs => obtain ⟨_, _, _, _, o, _, _, e, _⟩ := x; exact Heap.lt_size e
  | dT kvs => obtain ⟨_, _, _, _, o, _, _, e, _⟩ := x; exact Heap.lt_size e
  | set S n => obtain ⟨o, _, _, _, e, _⟩ := x; exact Heap.lt_size e
  | ins C dx fs => obtain ⟨_, _, _, e, _⟩ := x; exact Heap.lt_size e
  | own y => obtain ⟨_, e⟩ := x; exact Heap.lt_size e
  | xd fs => obtain ⟨_, ⟨_, _, _, e, _⟩, _⟩ := x; exact Heap.lt_size e
  | rng lo hi => obtain ⟨_, _, _, e⟩ := x; exact Heap.lt_size e
  | frz ob u => obtain ⟨e, _⟩ := x; exact Heap.lt_size e
  | tbl ps => exact Heap.lt_size (show h.get? a = some _ from x)
  | met f y => exact Heap.lt_size (show h.get? a = some _ from x)
  | ext φ => obtain ⟨_, ⟨_, e⟩, _⟩ := x; exact Heap.lt_size e
theorem Paired.mapP {α β : Type} {F G : α → β → Prop} : ∀ {l₁ : List α} {l₂ : List β}, Paired F l₁ l₂ → (∀ a b, F a b → G a b) → Paired G l₁ l₂
  | _, _, .nil, _ => .nil
  | _, _, .cons r t, f => .cons (f _ _ r) (Paired.mapP t f)
theorem ObjOk.stay (x : ObjOk P w H h a o) (k : ∀ b u, (b = a ∨ H b = some (.own a)) → h.get? b = some u → h'.get? b = some u)
    (ho : ∀ b, H b = some (.own a) → H' b = some (.own a)) (ht : ∀ b xs, H b = some (.tup xs) → H' b = some (.tup xs)) : ObjOk P w H' h' a o := by
  induction o with
  | lst xs => obtain ⟨z, its, n, r, e⟩ := x; exact ⟨z, its, n, r, k _ _ (.inl rfl) e⟩
  | tup xs => obtain ⟨z, its, r, ob, e, c⟩ := x; exact ⟨z, its, r, ob, k _ _ (.inl rfl) e, c⟩
  | dK kvs => obtain ⟨z, y, vs, r, ob, es, ep, e, c⟩ := x; exact ⟨z, y, vs, r, ob, es, ep, k _ _ (.inl rfl) e, c⟩
  | dT kvs =>
    obtain ⟨z, y, xs, r, ob, es, ep, e, c⟩ := x
    exact ⟨z, y, xs, Paired.mapP r fun p q z => ⟨z.1, ht _ _ z.2.1, z.2.2⟩, ob, es, ep, k _ _ (.inl rfl) e, c⟩
  | set S n => obtain ⟨ob, es, ep, t, e, c⟩ := x; exact ⟨ob, es, ep, t, k _ _ (.inl rfl) e, c⟩
  | ins C dx fs =>
    obtain ⟨d, z, ne, e, mA, ⟨od, es, ep, e2, c⟩, r⟩ := x
    exact ⟨ho _ d, z, ne, k _ _ (.inl rfl) e, mA, ⟨od, es, ep, k _ _ (.inr d) e2, c⟩, r⟩
  | own y => obtain ⟨ob, e⟩ := x; exact ⟨ob, k _ _ (.inl rfl) e⟩
  | xd fs => obtain ⟨mA, ⟨od, es, ep, e, c⟩, r⟩ := x; exact ⟨mA, ⟨od, es, ep, k _ _ (.inl rfl) e, c⟩, r⟩
  | rng lo hi => obtain ⟨t, u, v, e⟩ := x; exact ⟨t, u, v, k _ _ (.inl rfl) e⟩
  | frz ob u ih => obtain ⟨e, q⟩ := x; exact ⟨k _ _ (.inl rfl) e, ih q⟩
  | tbl ps =>
    have e : h.get? a = some { cls := .none, data := .fields ps } := x
    show h'.get? a = some { cls := .none, data := .fields ps }
    exact k a _ (.inl rfl) e
  | met f y =>
    have e : h.get? a = some (PySem.W.methodObj (.ref f) (.ref y)) := x
    show h'.get? a = some (PySem.W.methodObj (.ref f) (.ref y))
    exact k a _ (.inl rfl) e
  | ext φ => obtain ⟨p, ⟨o, e⟩, st⟩ := x; exact ⟨st _ _ p fun o q => k _ _ (.inl rfl) q, ⟨o, k _ _ (.inl rfl) e⟩, st⟩
theorem HOk.lt (x : HOk P w H h) (e : H a = some o) : a < h.objs.size := (x a o e).lt
theorem HOk.fresh (x : HOk P w H h) (e : h.objs.size ≤ a) : H a = none := by
  cases q : H a with
  | none => rfl
  | some u => exact absurd (Nat.lt_of_lt_of_le (x.lt q) e) (Nat.lt_irrefl _)
theorem HOk.kept (x : HOk P w H h) (k : ∀ b u, h.get? b = some u → h'.get? b = some u) : HOk P w H h' := fun a o e =>
  (x a o e).stay (fun b u _ q => k b u q) (fun _ q => q) fun _ _ q => q
theorem HOk.laid (x : HOk P w H h) (k : ∀ b u, h.get? b = some u → h'.get? b = some u) (hp : h.objs.size ≤ a) (new : ObjOk P w (upd H a o) h' a o) : HOk P w (upd H a o) h' := fun b u e => by
  have hn := x.fresh hp
  by_cases hb : b = a
  · subst hb; rw [upd_same] at e; cases e; exact new
  · rw [upd_ne hb] at e
    exact (x b u e).stay (fun c v _ q => k c v q) (fun c q => by rw [upd_ne (ne_of_none q hn)]; exact q) fun c xs q => by rw [upd_ne (ne_of_none q hn)]; exact q
end
def Rd (H : Hp) (a : Addr) (u : HO) : Prop := H a = some u ∨ ∃ o, H a = some (.frz o u)
theorem Rd.of {H : Hp} {a : Addr} {u : HO} (h : H a = some u) : Rd H a u := .inl h
theorem Rd.ok {P : Program} {w : World} {H : Hp} {h : Heap} {a : Addr} {u : HO} (r : Rd H a u) (x : HOk P w H h) : ObjOk P w H h a u := by
  rcases r with r | ⟨o, r⟩
  · exact x a u r
  · obtain ⟨_, q⟩ := x a _ r
    exact q
def Mut : Option HO → Prop
  | some (.lst _) => True
  | some (.dK _) => True
  | some (.dT _) => True
  | some (.set _ _) => True
  | some (.ins _ _ _) => True
  | some (.ext _) => True
  | _ => False
section
variable {P : Program} {w : World} {H : Hp} {h h' : Heap} {x e : Addr} {o' : HO}
theorem HOk.write (ok : HOk P w H h) (mu : Mut (H x)) (he : e = x ∨ H e = some (.own x)) (k : ∀ b u, b ≠ e → h.get? b = some u → h'.get? b = some u) (heo : ∃ u, h'.get? e = some u)
    (new : ObjOk P w (upd H x o') h' x o') : HOk P w (upd H x o') h' := fun b u q => by
  have nown : ∀ c y, H c = some (.own y) → c ≠ x := fun c y r z => by subst z; rw [r] at mu; exact mu
  have ntup : ∀ c xs, H c = some (.tup xs) → c ≠ x := fun c xs r z => by subst z; rw [r] at mu; exact mu
  by_cases hb : b = x
  · subst hb; rw [upd_same] at q; cases q; exact new
  · rw [upd_ne hb] at q
    by_cases hbe : b = e
    · have q' : H b = some (.own x) := by
        rcases he with z | z
        · exact absurd (hbe.trans z) hb
        · rw [hbe]; exact z
      rw [q] at q'; cases q'
      obtain ⟨v, hv⟩ := heo
      exact ⟨v, by rw [hbe]; exact hv⟩
    · refine (ok b u q).stay (fun c v hc r => k c v ?_ r) (fun c r => by rw [upd_ne (nown c b r)]; exact r) fun c xs r => by rw [upd_ne (ntup c xs r)]; exact r
      rcases hc with rfl | hc
      · exact hbe
      · rintro rfl
        rcases he with z | z
        · exact nown c b hc z
        · rw [hc] at z; cases z; exact hb rfl
end
structure Un (fs ex : List Addr) (H H' : Hp) (h h' : Heap) : Prop where
  keep : ∀ b o, h.get? b = some o → H b = none → b ∉ fs → b ∉ ex → h'.get? b = some o
  slot : ∀ b o, h.get? b = some o → H b = none → b ∈ fs → b ∉ ex → ∃ sl, h'.get? b = some { o with slots := sl }
  free : ∀ b o, h.get? b = some o → H b = none → b ∉ ex → H' b = none
  there : ∀ b o, h.get? b = some o → b ∉ ex → ∃ o', h'.get? b = some o'
  tups : ∀ b xs, H b = some (.tup xs) → H' b = some (.tup xs)
  frzs : ∀ b o u, H b = some (.frz o u) → H' b = some (.frz o u)
  tbls : ∀ b ps, H b = some (.tbl ps) → ∃ more, H' b = some (.tbl (ps ++ more))
section
variable {fs fs' ex ex' : List Addr} {H H1 H2 : Hp} {h h1 h2 h' : Heap} {a x e : Addr} {o : HO}
theorem Un.any (u : Un fs ex H H1 h h1) {b : Addr} {ob : Obj} (q : h.get? b = some ob) (n : H b = none) (hx : b ∉ ex) : ∃ sl, h1.get? b = some { ob with slots := sl } := by
  by_cases hb : b ∈ fs
  · exact u.slot b ob q n hb hx
  · exact ⟨ob.slots, u.keep b ob q n hb hx⟩
theorem Un.trans (a : Un fs ex H H1 h h1) (b : Un fs ex H1 H2 h1 h2) : Un fs ex H H2 h h2 where
  keep := fun c ob q n hc hx => b.keep c ob (a.keep c ob q n hc hx) (a.free c ob q n hx) hc hx
  slot := fun c ob q n hc hx => by
    obtain ⟨sl, e1⟩ := a.slot c ob q n hc hx
    obtain ⟨sl', e2⟩ := b.slot c _ e1 (a.free c ob q n hx) hc hx
    exact ⟨sl', e2⟩
  free := fun c ob q n hx => by
    obtain ⟨o', e1⟩ := a.there c ob q hx
    exact b.free c o' e1 (a.free c ob q n hx) hx
  there := fun c ob q hx => by
    obtain ⟨o', e1⟩ := a.there c ob q hx
    exact b.there c o' e1 hx
  tups := fun c xs q => b.tups c xs (a.tups c xs q)
  frzs := fun c ob xs q => b.frzs c ob xs (a.frzs c ob xs q)
  tbls := fun c ps q => by
    obtain ⟨m1, e1⟩ := a.tbls c ps q
    obtain ⟨m2, e2⟩ := b.tbls c _ e1
    exact ⟨m1 ++ m2, by rw [e2, Array.append_assoc]⟩
theorem Un.kept (k : ∀ b u, h.get? b = some u → h'.get? b = some u) : Un fs ex H H h h' :=
  ⟨fun b ob q _ _ _ => k b ob q, fun b ob q _ _ _ => ⟨ob.slots, k b ob q⟩, fun _ _ _ n _ => n, fun b ob q _ => ⟨ob, k b ob q⟩, fun _ _ q => q, fun _ _ _ q => q, fun _ ps q => ⟨#[], by rw [q]; simp⟩⟩
theorem Un.refl : Un fs ex H H h h := Un.kept fun _ _ q => q
theorem Un.laid (k : ∀ b u, h.get? b = some u → h'.get? b = some u) (hp : h.objs.size ≤ a) (hn : H a = none) : Un fs ex H (upd H a o) h h' where
  keep := fun b u q _ _ _ => k b u q
  slot := fun b u q _ _ _ => ⟨u.slots, k b u q⟩
  free := fun b u q n _ => by rw [upd_ne (Nat.ne_of_lt (Nat.lt_of_lt_of_le (Heap.lt_size q) hp))]; exact n
  there := fun b u q _ => ⟨u, k b u q⟩
  tups := fun b xs q => by rw [upd_ne (ne_of_none q hn)]; exact q
  frzs := fun b u xs q => by rw [upd_ne (ne_of_none q hn)]; exact q
  tbls := fun b ps q => ⟨#[], by rw [upd_ne (ne_of_none q hn), q]; simp⟩
theorem Un.write (mu : Mut (H x)) (he : e = x ∨ H e = some (.own x)) (k : ∀ b u, b ≠ e → h.get? b = some u → h'.get? b = some u) (heo : ∃ u, h'.get? e = some u) : Un fs ex H (upd H x o) h h' := by
  have hx : ∀ b, H b = none → b ≠ x := fun b n z => by subst z; rw [n] at mu; exact mu
  have hb : ∀ b, H b = none → b ≠ e := fun b n z => by
    subst z
    rcases he with r | r
    · exact hx b n r
    · rw [n] at r; cases r
  have hm : ∀ b u, H b = some u → ¬ Mut (some u) → b ≠ x := fun b u q nm z => by subst z; rw [q] at mu; exact nm mu
  refine ⟨fun b u q n _ _ => k b u (hb b n) q, fun b u q n _ _ => ⟨u.slots, k b u (hb b n) q⟩, fun b u q n _ => by rw [upd_ne (hx b n)]; exact n, fun b u q _ => ?_,
    fun b xs q => by rw [upd_ne (hm b _ q fun z => z)]; exact q, fun b u xs q => by rw [upd_ne (hm b _ q fun z => z)]; exact q, fun b ps q => ⟨#[], by rw [upd_ne (hm b _ q fun z => z), q]; simp⟩⟩
  by_cases hbe : b = e
  · subst hbe; exact heo
  · exact ⟨u, k b u hbe q⟩
theorem Un.mono (u : Un fs ex H H1 h h1) (hs : ∀ b ∈ fs, b ∈ fs') (hx : ∀ b ∈ ex, b ∈ ex') : Un fs' ex' H H1 h h1 :=
  ⟨fun b ob q n hb he => u.keep b ob q n (fun z => hb (hs b z)) fun z => he (hx b z), fun _ _ q n _ he => u.any q n fun z => he (hx _ z), fun b ob q n he => u.free b ob q n fun z => he (hx b z), fun b ob q he => u.there b ob q fun z => he (hx b z), u.tups, u.frzs, u.tbls⟩
end
def trk (h : Heap) (H : Hp) : List Addr := (List.range h.objs.size).filter fun a => (H a).isSome
def hidT (h : Heap) (H : Hp) : Heap := PySem.W.hideAll h (trk h H)
theorem hidT_size (h : Heap) (H : Hp) : (hidT h H).objs.size = h.objs.size := PySem.W.hideAll_size _ _
theorem hidT_get {h : Heap} {H : Hp} {b : Addr} {o : Obj} (e : h.get? b = some o) (n : H b = none) : (hidT h H).get? b = some o :=
  PySem.W.hideAll_get _ e fun hm => by
    have q : (H b).isSome = true := (List.mem_filter.mp hm).2
    rw [n] at q; simp at q
theorem of_hidT {h : Heap} {H : Hp} {b : Addr} {o : Obj} (e : (hidT h H).get? b = some o) : h.get? b = some o ∧ H b = none := by
  have e' : h.get? b = some o := PySem.W.of_hideAll (trk h H) e
  refine ⟨e', ?_⟩
  cases q : H b with
  | none => rfl
  | some x =>
    have hm : b ∈ trk h H := List.mem_filter.mpr ⟨List.mem_range.mpr (Heap.lt_size e'), by simp [q]⟩
    have z : (hidT h H).get? b = none := PySem.W.hideAll_none (trk h H) hm
    rw [z] at e; cases e
def allNews (g h : Heap) (L : Addr) : List (Addr × Obj) := (List.range h.objs.size).filterMap fun a => if a = L ∨ (g.get? a).isSome = true then none else (h.get? a).map fun o => (a, o)
def rest (g h : Heap) (L d : Addr) : List (Addr × Obj) := (allNews g h L).filter fun p => decide (p.1 ≠ d)
end L2
namespace L2
open PySem PySem.Spec PyProof.Rows
structure Mod (K : PySem.W.Frag) (mg : Str → Option Value) (base : Heap) : Prop where
  kin : K.In base
  glob : base.Ns mainGlobals mg
  blt : ∃ mb, base.Ns builtinsNs mb ∧ ∀ x : Str, x ≠ "__name__" → mb x = bootBuiltins x
  nolimit : base.NoLimit
structure Cx where
  prog : Program
  w : World
  K : PySem.W.Frag
  mg : Str → Option Value
  base : Heap
  A : Around
  N : List Str
  s₀ : Shared
  H₀ : Hp
  env : Env
  outer : List Env
  stack : List Env
  ex : List Addr
  fn : Str → Bool
  calm : Bool
  pn : List (Addr × Obj)
  xe : Value → Shared → Prop
def frs (l : List Env) : List Addr := l.filterMap (·.frame)
abbrev Cx.fs (X : Cx) : List Addr := frs X.outer
def Vis (sc : Scope) (x : Str) : Prop := sc.names.lookup x = some .local ∨ sc.names.lookup x = some .cell ∨ sc.names.lookup x = some .free
def Loc (sc : Scope) (x : Str) : Prop := sc.names.lookup x = some .local ∨ sc.names.lookup x = some .cell
def Look (env : Env) (h : Heap) (m : Str → Option Value) (x : Str) (u : Value) : Prop :=
  (env.kindOf x = some .local ∧ m x = some u) ∨ ((env.kindOf x = some .cell ∨ env.kindOf x = some .free) ∧ ∃ c, env.cells.lookup x = some c ∧ h.IsCell c (some u))
structure Cx.Ok (X : Cx) : Prop where
  mod : Mod X.K X.mg X.base
  kind : X.env.scope.kind = .function
  glob : X.env.globals = mainGlobals
  blt : X.env.builtins = builtinsNs
  above : X.s₀.heap.objs.size ≤ X.env.locals
  inj : ∀ x y c, X.env.cells.lookup x = some c → X.env.cells.lookup y = some c → x = y
  has : ∀ x, (X.env.kindOf x = some .cell ∨ X.env.kindOf x = some .free) → ∃ c, X.env.cells.lookup x = some c
  cab : ∀ x c, X.fn x = true → X.env.cells.lookup x = some c → X.s₀.heap.objs.size ≤ c
  hd : X.calm = true → X.A.handled = none
  frames : X.A.frames = some X.stack
  stk : X.stack = X.outer ∨ (X.stack = X.env :: X.outer ∧ X.env.frame = some X.env.locals)
  exf : ∀ b ∈ X.ex, b ≠ X.env.locals ∧ ∀ x c, X.env.cells.lookup x = some c → c ≠ b
  bs : ∀ b o, X.base.get? b = some o → X.s₀.heap.get? b = some o ∧ X.H₀ b = none
  bsz : X.base.objs.size ≤ X.s₀.heap.objs.size
  noex : ∀ b o, X.base.get? b = some o → b ∉ X.ex
  exfs : ∀ b ∈ X.ex, b ∉ X.fs
  funs : X.s₀.heap.FunFrames X.base X.outer
  frf : ∀ b ∈ X.fs, X.H₀ b = none
structure Inv (X : Cx) (pins : List (Addr × Obj)) (σ : List (Option V)) (H : Hp) (s : Shared) : Prop where
  ok : X.Ok
  os : s.os = X.s₀.os
  bare : AllBare s.gens
  base : Un X.fs X.ex X.H₀ H X.s₀.heap s.heap
  loc : ∃ m, s.heap.Ns X.env.locals m ∧ ∀ (i : Nat) (x : Str) (v : V), X.N[i]? = some x → σ[i]? = some (some v) → Vis X.env.scope x → ∃ u, RelV v u ∧ Look X.env s.heap m x u
  cell : ∀ x c, X.env.cells.lookup x = some c → ∃ v, s.heap.IsCell c v
  free : H X.env.locals = none
  freeC : ∀ x c, X.env.cells.lookup x = some c → H c = none
  pin : ∀ p ∈ X.pn ++ pins, s.heap.get? p.1 = some p.2 ∧ H p.1 = none ∧ p.1 ≠ X.env.locals ∧ p.1 ∉ X.fs ∧ ∀ v, p.2.data ≠ .cell v
  hok : HOk X.prog X.w H s.heap
  len : σ.length = X.N.length
section
variable {X : Cx} {pins : List (Addr × Obj)} {σ : List (Option V)} {H H' : Hp} {s : Shared} {h' : Heap}
theorem Cx.Ok.nofr (ok : X.Ok) {b : Addr} {o : Obj} (e : X.base.get? b = some o) : b ∉ X.fs := fun hb => by
  have := (ok.funs.mem hb).1
  rw [e] at this; cases this
theorem Inv.bs (I : Inv X pins σ H s) : ∀ b o, X.base.get? b = some o → s.heap.get? b = some o ∧ H b = none := fun b o e =>
  ⟨I.base.keep b o (I.ok.bs b o e).1 (I.ok.bs b o e).2 (I.ok.nofr e) (I.ok.noex b o e), I.base.free b o (I.ok.bs b o e).1 (I.ok.bs b o e).2 (I.ok.noex b o e)⟩
theorem Inv.bk (I : Inv X pins σ H s) : ∀ b o, X.base.get? b = some o → s.heap.get? b = some o := fun b o e => (I.bs b o e).1
theorem Inv.mod (I : Inv X pins σ H s) : Mod X.K X.mg X.base := I.ok.mod
theorem Inv.kIn (I : Inv X pins σ H s) : X.K.In s.heap := I.ok.mod.kin.keeps I.bk
theorem Inv.nolimit (I : Inv X pins σ H s) : s.heap.NoLimit := I.ok.mod.nolimit.keeps I.bk
theorem Inv.fr (I : Inv X pins σ H s) : ∃ m, Fr X.base X.env.locals s.heap m :=
  let ⟨m, hn, _⟩ := I.loc
  ⟨m, hn, I.bk, Nat.le_trans I.ok.bsz I.ok.above⟩
theorem Inv.lt (I : Inv X pins σ H s) : X.env.locals < s.heap.objs.size := let ⟨_, hn, _⟩ := I.loc; hn.lt
theorem Inv.sz (I : Inv X pins σ H s) : X.s₀.heap.objs.size ≤ s.heap.objs.size := Nat.le_trans I.ok.above (Nat.le_of_lt I.lt)
theorem Inv.nofs (I : Inv X pins σ H s) {a : Addr} (h : s.heap.objs.size ≤ a) : a ∉ X.fs := fun hb => by
  obtain ⟨_, o, ho, _⟩ := I.ok.funs.mem hb
  exact absurd (Nat.lt_of_lt_of_le (Heap.lt_size ho) (Nat.le_trans I.sz h)) (Nat.lt_irrefl _)
theorem Inv.cne (I : Inv X pins σ H s) : ∀ x c, X.env.cells.lookup x = some c → c ≠ X.env.locals := fun x c e z => by
  obtain ⟨v, o, ho, hd⟩ := I.cell x c e
  obtain ⟨m, ⟨o', es, ep, ho', hd', _⟩, _⟩ := I.loc
  rw [z, ho'] at ho; cases ho; rw [hd'] at hd; cases hd
theorem Inv.funs (I : Inv X pins σ H s) : s.heap.FunFrames X.base X.outer := by
  have all : ∀ (l : List Env), (∀ b ∈ frs l, b ∈ X.fs) → X.s₀.heap.FunFrames X.base l → s.heap.FunFrames X.base l := by
    intro l
    induction l with
    | nil => intro _ _; trivial
    | cons env r ih =>
      intro hs hl
      obtain ⟨hk, ⟨L, o, hf, hn, ho, hd⟩, hr⟩ := hl
      have hL : L ∈ X.fs := hs L (by unfold frs; rw [List.filterMap_cons, hf]; exact List.mem_cons_self)
      obtain ⟨sl, e⟩ := I.base.slot L o ho (I.ok.frf L hL) hL fun z => I.ok.exfs L z hL
      exact ⟨hk, ⟨L, _, hf, hn, e, hd⟩, ih (fun b hb => hs b (by unfold frs; rw [List.filterMap_cons, hf]; exact List.mem_cons_of_mem _ hb)) hr⟩
  exact all X.outer (fun _ hb => hb) I.ok.funs
theorem Inv.stack (I : Inv X pins σ H s) : s.heap.FunFrames X.base X.stack := by
  rcases I.ok.stk with e | ⟨e, hf⟩
  · rw [e]; exact I.funs
  · rw [e]
    obtain ⟨m, hn, _⟩ := I.loc
    refine .cons (by rw [I.ok.kind]; decide) hf hn ?_ I.funs
    exact Heap.get?_none_of_le (Nat.le_trans I.ok.bsz I.ok.above)
theorem Inv.stkSub (I : Inv X pins σ H s) : ∀ b ∈ frs X.stack, b ∈ X.env.locals :: X.fs := fun b hb => by
  rcases I.ok.stk with e | ⟨e, hf⟩
  · rw [e] at hb; exact List.mem_cons_of_mem _ hb
  · rw [e] at hb
    unfold frs at hb
    rw [List.filterMap_cons, hf] at hb
    exact hb
theorem Inv.stkFree (I : Inv X pins σ H s) : ∀ b ∈ frs X.stack, H b = none := fun b hb => by
  rcases List.mem_cons.mp (I.stkSub b hb) with e | hb
  · rw [e]; exact I.free
  · obtain ⟨_, o, ho, _⟩ := I.ok.funs.mem hb
    exact I.base.free b o ho (I.ok.frf b hb) fun z => I.ok.exfs b z hb
theorem Inv.step {g' : Array GenState} {t' : Nat} {d' : Drawn} {ch : List Addr} (I : Inv X pins σ H s)
    (hch : ∀ b ∈ ch, (b ∈ X.ex ∨ X.s₀.heap.objs.size ≤ b) ∧ b ≠ X.env.locals ∧ (∀ x c, X.env.cells.lookup x = some c → c ≠ b) ∧ ∀ p ∈ X.pn ++ pins, p.1 ≠ b)
    (keep : ∀ b o, b ≠ X.env.locals → b ∉ X.fs → b ∉ ch → s.heap.get? b = some o → H b = none → h'.get? b = some o)
    (slot : ∀ b o, b ≠ X.env.locals → b ∈ X.fs → b ∉ ch → s.heap.get? b = some o → H b = none → ∃ sl, h'.get? b = some { o with slots := sl }) (free : ∀ b o, b ∉ ch → s.heap.get? b = some o → H b = none → H' b = none)
    (there : ∀ b o, b ∉ ch → s.heap.get? b = some o → ∃ o', h'.get? b = some o')
    (tups : ∀ b xs, H b = some (.tup xs) → H' b = some (.tup xs)) (frzs : ∀ b o u, H b = some (.frz o u) → H' b = some (.frz o u)) (tbls : ∀ b ps, H b = some (.tbl ps) → ∃ more, H' b = some (.tbl (ps ++ more)))
    (ns : ∀ m, s.heap.Ns X.env.locals m → h'.Ns X.env.locals m) (hok : HOk X.prog X.w H' h') (hg : AllBare g') :
    Inv X pins σ H' { s with heap := h', gens := g', drawn := d', toks := t' } := by
  have neL : ∀ b o, X.s₀.heap.get? b = some o → b ≠ X.env.locals := fun b o e => Nat.ne_of_lt (Nat.lt_of_lt_of_le (Heap.lt_size e) I.ok.above)
  have neC : ∀ b o, X.s₀.heap.get? b = some o → b ∉ X.ex → b ∉ ch := fun b o e hx hb => by
    rcases (hch b hb).1 with z | z
    · exact hx z
    · exact absurd (Nat.lt_of_lt_of_le (Heap.lt_size e) z) (Nat.lt_irrefl _)
  have cellK : ∀ x c, X.env.cells.lookup x = some c → ∀ v, s.heap.IsCell c v → h'.IsCell c v := fun x c e v ⟨o, ho, hd⟩ => by
    have nch : c ∉ ch := fun z => (hch c z).2.2.1 x c e rfl
    by_cases hc : c ∈ X.fs
    · obtain ⟨sl, q⟩ := slot c o (I.cne x c e) hc nch ho (I.freeC x c e)
      exact ⟨_, q, hd⟩
    · exact ⟨o, keep c o (I.cne x c e) hc nch ho (I.freeC x c e), hd⟩
  refine ⟨I.ok, I.os, hg, ⟨fun b o e n hb hx => ?_, fun b o e n hb hx => ?_, fun b o e n hx => ?_, fun b o e hx => ?_, fun b xs e => tups b xs (I.base.tups b xs e), fun b o xs e => frzs b o xs (I.base.frzs b o xs e), fun b ps e => ?_⟩, ?_, fun x c e => ?_, ?_, fun x c e => ?_, fun p hp => ?_, hok, I.len⟩
  · exact keep b o (neL b o e) hb (neC b o e hx) (I.base.keep b o e n hb hx) (I.base.free b o e n hx)
  · obtain ⟨sl, e1⟩ := I.base.slot b o e n hb hx
    obtain ⟨sl', e2⟩ := slot b _ (neL b o e) hb (neC b o e hx) e1 (I.base.free b o e n hx)
    exact ⟨sl', e2⟩
  · obtain ⟨o', e1⟩ := I.base.there b o e hx
    exact free b o' (neC b o e hx) e1 (I.base.free b o e n hx)
  · obtain ⟨o', e1⟩ := I.base.there b o e hx
    exact there b o' (neC b o e hx) e1
  · obtain ⟨m1, e1⟩ := I.base.tbls b ps e
    obtain ⟨m2, e2⟩ := tbls b _ e1
    exact ⟨m1 ++ m2, by rw [e2, Array.append_assoc]⟩
  · obtain ⟨m, hn, hl⟩ := I.loc
    refine ⟨m, ns m hn, fun i x v e1 e2 e3 => ?_⟩
    obtain ⟨u, r, l⟩ := hl i x v e1 e2 e3
    refine ⟨u, r, ?_⟩
    rcases l with l | ⟨k, c, e, z⟩
    · exact .inl l
    · exact .inr ⟨k, c, e, cellK x c e _ z⟩
  · obtain ⟨v, z⟩ := I.cell x c e
    exact ⟨v, cellK x c e v z⟩
  · obtain ⟨m, ⟨o, _, _, ho, _⟩, _⟩ := I.loc
    exact free _ o (fun z => (hch _ z).2.1 rfl) ho I.free
  · obtain ⟨v, o, ho, hd⟩ := I.cell x c e
    exact free c o (fun z => (hch c z).2.2.1 x c e rfl) ho (I.freeC x c e)
  · obtain ⟨e, n, ne, nf, d⟩ := I.pin p hp
    have nch : p.1 ∉ ch := fun z => (hch p.1 z).2.2.2 p hp rfl
    exact ⟨keep p.1 p.2 ne nf nch e n, free p.1 p.2 nch e n, ne, nf, d⟩
theorem Inv.un {t' : Nat} (I : Inv X pins σ H s) (u : Un X.fs [] H H' s.heap h') (hok : HOk X.prog X.w H' h') : Inv X pins σ H' { s with heap := h', toks := t' } := by
  obtain ⟨m, ⟨o, es, ep, ho, r⟩, _⟩ := id I.loc
  obtain ⟨sl, hL⟩ := u.any ho I.free (by simp)
  exact I.step (g' := s.gens) (d' := s.drawn) (ch := []) (fun _ z => nomatch z) (fun b o _ hb _ e n => u.keep b o e n hb (by simp)) (fun b o _ hb _ e n => u.slot b o e n hb (by simp)) (fun b o _ e n => u.free b o e n (by simp)) (fun b o _ e => u.there b o e (by simp)) u.tups u.frzs u.tbls (fun m' hm => by
    obtain ⟨o', es', ep', ho', r'⟩ := hm
    rw [ho] at ho'; cases ho'
    exact ⟨_, es', ep', hL, r'⟩) hok I.bare
theorem Inv.call {g' : Array GenState} {t' : Nat} {d' : Drawn} {ch : List Addr} (I : Inv X pins σ H s) (u : Un (frs X.stack) ch H H' s.heap h') (hok : HOk X.prog X.w H' h') (hg : AllBare g')
    (hch : ∀ b ∈ ch, (b ∈ X.ex ∨ X.s₀.heap.objs.size ≤ b) ∧ b ≠ X.env.locals ∧ (∀ x c, X.env.cells.lookup x = some c → c ≠ b) ∧ ∀ p ∈ X.pn ++ pins, p.1 ≠ b) :
    Inv X pins σ H' { s with heap := h', gens := g', drawn := d', toks := t' } := by
  obtain ⟨m, ⟨o, es, ep, ho, r⟩, _⟩ := id I.loc
  obtain ⟨sl, hL⟩ := u.any ho I.free fun z => (hch _ z).2.1 rfl
  exact I.step (ch := ch) hch (fun b o hL hb hc e n => u.keep b o e n (fun z => (List.mem_cons.mp (I.stkSub b z)).elim hL hb) hc) (fun b o _ _ hc e n => u.any e n hc) (fun b o hc e n => u.free b o e n hc) (fun b o hc e => u.there b o e hc) u.tups u.frzs u.tbls (fun m' hm => by
    obtain ⟨o', es', ep', ho', r'⟩ := hm
    rw [ho] at ho'; cases ho'
    exact ⟨_, es', ep', hL, r'⟩) hok hg
theorem Inv.turned {t' : Nat} {it : Addr} (I : Inv X pins σ H s) (k : ∀ b o, b ≠ it → s.heap.get? b = some o → h'.get? b = some o) (hn : H it = none) (hL : it ≠ X.env.locals)
    (h1 : it ∈ X.ex ∨ X.s₀.heap.objs.size ≤ it) (h2 : ∀ x c, X.env.cells.lookup x = some c → c ≠ it) (h3 : ∀ p ∈ X.pn ++ pins, p.1 ≠ it) : Inv X pins σ H { s with heap := h', toks := t' } := by
  have nit : ∀ b u, H b = some u → b ≠ it := fun b u e z => by rw [z, hn] at e; cases e
  refine I.step (g' := s.gens) (d' := s.drawn) (ch := [it]) (fun b hb => ?_) (fun b o _ _ hc e _ => k b o (fun z => hc (by simp [z])) e) (fun b o _ _ hc e _ => ⟨o.slots, k b o (fun z => hc (by simp [z])) e⟩) (fun _ _ _ _ n => n)
    (fun b o hc e => ⟨o, k b o (fun z => hc (by simp [z])) e⟩) (fun _ _ e => e) (fun _ _ _ e => e) (fun b ps e => ⟨#[], by rw [e]; simp⟩) (fun m hm => ?_) (fun b u e => ?_) I.bare
  · have e : b = it := by simpa using hb
    subst e
    exact ⟨h1, hL, h2, h3⟩
  · obtain ⟨o, es, ep, ho, r⟩ := hm
    exact ⟨o, es, ep, k _ o (Ne.symm hL) ho, r⟩
  · refine (I.hok b u e).stay (fun c v hc q => k c v ?_ q) (fun _ q => q) fun _ _ q => q
    rcases hc with z | z
    · rw [z]; exact nit b u e
    · exact nit c _ z
theorem Inv.tok (I : Inv X pins σ H s) (t : Nat) : Inv X pins σ H { s with toks := t } := I.un (h' := s.heap) (t' := t) Un.refl I.hok
theorem Inv.kept {t' : Nat} (I : Inv X pins σ H s) (k : ∀ b u, s.heap.get? b = some u → h'.get? b = some u) : Inv X pins σ H { s with heap := h', toks := t' } := I.un (Un.kept k) (I.hok.kept k)
theorem Inv.laid {a : Addr} {o : HO} {t' : Nat} (I : Inv X pins σ H s) (k : ∀ b u, s.heap.get? b = some u → h'.get? b = some u) (hp : s.heap.objs.size ≤ a) (new : ObjOk X.prog X.w (upd H a o) h' a o) :
    Inv X pins σ (upd H a o) { s with heap := h', toks := t' } := I.un (Un.laid k hp (I.hok.fresh hp)) (I.hok.laid k hp new)
theorem Inv.write {x e : Addr} {o : HO} {t' : Nat} (I : Inv X pins σ H s) (mu : Mut (H x)) (he : e = x ∨ H e = some (.own x)) (k : ∀ b u, b ≠ e → s.heap.get? b = some u → h'.get? b = some u) (heo : ∃ u, h'.get? e = some u)
    (new : ObjOk X.prog X.w (upd H x o) h' x o) : Inv X pins σ (upd H x o) { s with heap := h', toks := t' } := I.un (Un.write mu he k heo) (I.hok.write mu he k heo new)
theorem Inv.weak {σ' : List (Option V)} (I : Inv X pins σ H s) (hl : σ'.length = σ.length) (w : ∀ (i : Nat) v, σ'[i]? = some (some v) → σ[i]? = some (some v)) : Inv X pins σ' H s :=
  ⟨I.ok, I.os, I.bare, I.base, let ⟨m, hn, hl'⟩ := I.loc; ⟨m, hn, fun i x v e1 e2 e3 => hl' i x v e1 (w i v e2) e3⟩, I.cell, I.free, I.freeC, I.pin, I.hok, hl.trans I.len⟩
theorem Inv.pins_of {pins' : List (Addr × Obj)} (I : Inv X pins σ H s) (h : ∀ p ∈ pins', s.heap.get? p.1 = some p.2 ∧ H p.1 = none ∧ p.1 ≠ X.env.locals ∧ p.1 ∉ X.fs ∧ ∀ v, p.2.data ≠ .cell v) : Inv X pins' σ H s :=
  ⟨I.ok, I.os, I.bare, I.base, I.loc, I.cell, I.free, I.freeC, fun p hp => (List.mem_append.mp hp).elim (fun z => I.pin p (List.mem_append_left _ z)) (h p), I.hok, I.len⟩
theorem nodup_ix {N : List Str} (hN : N.Nodup) {i j : Nat} {x : Str} (a : N[i]? = some x) (b : N[j]? = some x) : i = j := by
  obtain ⟨h1, e1⟩ := List.getElem?_eq_some_iff.mp a
  obtain ⟨h2, e2⟩ := List.getElem?_eq_some_iff.mp b
  exact (List.getElem_inj hN).mp (e1.trans e2.symm)
theorem store_ok2 {M : Model} {A : Around} {E : Value → Shared → Prop} {i : Nat} {x : Str} {v : V} {u : Value} {Q : Unit → Shared → Prop} (I : Inv X pins σ H s) (hN : X.N.Nodup) (hi : X.N[i]? = some x) (hx : Loc X.env.scope x) (r : RelV v u)
    (h : ∀ s', Inv X pins (σ.set i (some v)) H s' → (∃ a, Heap.SameBut a s.heap s'.heap ∧ (a = X.env.locals ∨ X.env.cells.lookup x = some a)) → Q () s') (hf : X.fn x = true ∨ X.env.scope.names.lookup x = some .local := by first | exact .inl rfl | exact .inr rfl | assumption) : wpAny M A (storeName X.env x u) Q E s := by
  obtain ⟨m, hn, hl⟩ := id I.loc
  have hcls : (X.env.scope.kind == .class || (X.env.scope.kind == .module && X.env.locals != X.env.globals)) = false := by rw [I.ok.kind]; rfl
  have hiσ : i < σ.length := by rw [I.len]; exact (List.getElem?_eq_some_iff.mp hi).1
  have cne := I.cne
  have tracked : ∀ {a : Addr} {h' : Heap}, (∃ o, s.heap.get? a = some o ∧ H a = none) → Heap.SameBut a s.heap h' → HOk X.prog X.w H h' := fun {a h'} ha hs b ob e => by
    obtain ⟨_, _, hfree⟩ := ha
    refine (I.hok b ob e).stay (fun c w' hc q => (hs.2 c ?_).trans q) (fun _ q => q) fun _ _ q => q
    rintro rfl
    rcases hc with rfl | hc
    · rw [hfree] at e; cases e
    · rw [hfree] at hc; cases hc
  rcases hx with hk | hk
  · refine wpAny_storeName_local hk hn (fun h' hn' hs => ?_) hcls
    obtain ⟨oL, _, _, hoL, _⟩ := id hn
    refine h _ ⟨I.ok, I.os, I.bare, ⟨fun b o e n hb hx => ?_, fun b o e n hb hx => ?_, I.base.free, fun b o e hx => ?_, I.base.tups, I.base.frzs, I.base.tbls⟩, ⟨_, hn', fun j y v' e1 e2 e3 => ?_⟩, fun y c e => ?_, I.free, I.freeC, fun p hp => ?_, tracked ⟨oL, hoL, I.free⟩ hs, by simpa using I.len⟩ ⟨_, hs, .inl rfl⟩
    · exact (hs.2 b (Nat.ne_of_lt (Nat.lt_of_lt_of_le (Heap.lt_size e) I.ok.above))).trans (I.base.keep b o e n hb hx)
    · obtain ⟨sl, e1⟩ := I.base.slot b o e n hb hx
      exact ⟨sl, (hs.2 b (Nat.ne_of_lt (Nat.lt_of_lt_of_le (Heap.lt_size e) I.ok.above))).trans e1⟩
    · obtain ⟨o', e1⟩ := I.base.there b o e hx
      exact ⟨o', (hs.2 b (Nat.ne_of_lt (Nat.lt_of_lt_of_le (Heap.lt_size e) I.ok.above))).trans e1⟩
    · by_cases hj : j = i
      · subst hj
        rw [hi] at e1; cases e1
        rw [List.getElem?_set_self hiσ] at e2
        cases e2
        exact ⟨u, r, .inl ⟨hk, by simp⟩⟩
      · rw [List.getElem?_set_ne (Ne.symm hj)] at e2
        obtain ⟨u', r', q⟩ := hl j y v' e1 e2 e3
        refine ⟨u', r', ?_⟩
        rcases q with ⟨k, e⟩ | ⟨k, c, e, z⟩
        · refine .inl ⟨k, ?_⟩
          have : y ≠ x := fun e => hj (nodup_ix hN e1 (e ▸ hi))
          simp [this, e]
        · exact .inr ⟨k, c, e, z.sameBut hs (cne y c e)⟩
    · obtain ⟨w', z⟩ := I.cell y c e
      exact ⟨w', z.sameBut hs (cne y c e)⟩
    · obtain ⟨e, n, ne, nf, d⟩ := I.pin p hp
      exact ⟨(hs.2 p.1 ne).trans e, n, ne, nf, d⟩
  · have hfn : X.fn x = true := by
      rcases hf with z | z
      · exact z
      · rw [z] at hk; cases hk
    obtain ⟨c, hc⟩ := I.ok.has x (.inl hk)
    obtain ⟨w', z⟩ := I.cell x c hc
    refine wpAny_storeName_cell I.ok.kind hk hc z (fun h' hc' hs => ?_)
    obtain ⟨oc, hoc, hocd⟩ := id z
    refine h { s with heap := h' } ⟨I.ok, I.os, I.bare, ⟨fun b o e n hb hx => ?_, fun b o e n hb hx => ?_, I.base.free, fun b o e hx => ?_, I.base.tups, I.base.frzs, I.base.tbls⟩, ⟨m, hn.sameBut hs (Ne.symm (cne x c hc)), fun j y v' e1 e2 e3 => ?_⟩, fun y c' e => ?_, I.free, I.freeC, fun p hp => ?_, tracked ⟨oc, hoc, I.freeC x c hc⟩ hs, by simpa using I.len⟩ ⟨c, hs, .inr hc⟩
    · exact (hs.2 b (Nat.ne_of_lt (Nat.lt_of_lt_of_le (Heap.lt_size e) (I.ok.cab x c hfn hc)))).trans (I.base.keep b o e n hb hx)
    · obtain ⟨sl, e1⟩ := I.base.slot b o e n hb hx
      exact ⟨sl, (hs.2 b (Nat.ne_of_lt (Nat.lt_of_lt_of_le (Heap.lt_size e) (I.ok.cab x c hfn hc)))).trans e1⟩
    · obtain ⟨o', e1⟩ := I.base.there b o e hx
      exact ⟨o', (hs.2 b (Nat.ne_of_lt (Nat.lt_of_lt_of_le (Heap.lt_size e) (I.ok.cab x c hfn hc)))).trans e1⟩
    · by_cases hj : j = i
      · subst hj
        rw [hi] at e1; cases e1
        rw [List.getElem?_set_self hiσ] at e2
        cases e2
        exact ⟨u, r, .inr ⟨.inl hk, c, hc, hc'⟩⟩
      · rw [List.getElem?_set_ne (Ne.symm hj)] at e2
        obtain ⟨u', r', q⟩ := hl j y v' e1 e2 e3
        refine ⟨u', r', ?_⟩
        rcases q with q | ⟨k, c', e, z'⟩
        · exact .inl q
        · refine .inr ⟨k, c', e, z'.sameBut hs ?_⟩
          rintro rfl
          exact hj (nodup_ix hN e1 (I.ok.inj _ _ _ e hc ▸ hi))
    · by_cases hcc : c' = c
      · subst hcc; exact ⟨_, hc'⟩
      · obtain ⟨w2, z2⟩ := I.cell y c' e
        exact ⟨w2, z2.sameBut hs hcc⟩
    · obtain ⟨e, n, ne, nf, d⟩ := I.pin p hp
      refine ⟨(hs.2 p.1 ?_).trans e, n, ne, nf, d⟩
      intro q
      rw [q, hoc] at e
      have q' : oc = p.2 := Option.some.inj e
      exact d w' (by rw [← q']; exact hocd)
theorem store_ok {M : Model} {A : Around} {E : Value → Shared → Prop} {i : Nat} {x : Str} {v : V} {u : Value} {Q : Unit → Shared → Prop} (I : Inv X pins σ H s) (hN : X.N.Nodup) (hi : X.N[i]? = some x) (hx : Loc X.env.scope x) (r : RelV v u)
    (h : ∀ s', Inv X pins (σ.set i (some v)) H s' → Q () s') (hf : X.fn x = true ∨ X.env.scope.names.lookup x = some .local := by first | exact .inl rfl | exact .inr rfl | assumption) : wpAny M A (storeName X.env x u) Q E s :=
  store_ok2 I hN hi hx r (fun s' I' _ => h s' I') hf
theorem Inv.call' {s' : Shared} {ch : List Addr} (I : Inv X pins σ H s) (ho : s'.os = s.os) (u : Un (frs X.stack) ch H H' s.heap s'.heap) (hok : HOk X.prog X.w H' s'.heap) (hg : AllBare s'.gens)
    (hch : ∀ b ∈ ch, (b ∈ X.ex ∨ X.s₀.heap.objs.size ≤ b) ∧ b ≠ X.env.locals ∧ (∀ x c, X.env.cells.lookup x = some c → c ≠ b) ∧ ∀ p ∈ X.pn ++ pins, p.1 ≠ b) : Inv X pins σ H' s' := by
  obtain ⟨h', g', d', t', o'⟩ := s'
  have e : o' = s.os := ho
  subst e
  exact I.call (g' := g') (t' := t') (d' := d') u hok hg hch
end
abbrev XK := Value → Option Addr → Hp → Prop
abbrev St := List (Option V)
abbrev VK := V → Hp → Prop
abbrev TE := St → Hp → VK → Prop
abbrev TT := St → Hp → (Bool → Hp → Prop) → Prop
abbrev TA := St → Hp → (List V → Hp → Prop) → Prop
structure Ends where
  nx : St → Hp → Prop
  rt : VK
  bk : St → Hp → Prop := fun _ _ => False
  ct : St → Hp → Prop := fun _ _ => False
abbrev TS := Ends → St → Hp → Prop
def EP (X : Cx) (pins : List (Addr × Obj)) (σ : St) (Q : VK) (u : Value) (s' : Shared) : Prop := ∃ v H', Inv X pins σ H' s' ∧ RelV v u ∧ Q v H'
def TP (X : Cx) (pins : List (Addr × Obj)) (σ : St) (Q : Bool → Hp → Prop) (b : Bool) (s' : Shared) : Prop := ∃ H', Inv X pins σ H' s' ∧ Q b H'
def AP (X : Cx) (pins : List (Addr × Obj)) (σ : St) (Q : List V → Hp → Prop) (us : List Value) (s' : Shared) : Prop := ∃ vs H', Inv X pins σ H' s' ∧ Vals vs us ∧ Q vs H'
def SP (X : Cx) (pins : List (Addr × Obj)) (D : Ends) (f : Flow) (s' : Shared) : Prop :=
  match f with
  | .next => ∃ σ' H', Inv X pins σ' H' s' ∧ D.nx σ' H'
  | .brk => ∃ σ' H', Inv X pins σ' H' s' ∧ D.bk σ' H'
  | .cont => ∃ σ' H', Inv X pins σ' H' s' ∧ D.ct σ' H'
  | .ret u => ∃ v σ' H', Inv X pins σ' H' s' ∧ RelV v u ∧ D.rt v H'
def PE (X : Cx) (e : Expr) (t : TE) : Prop :=
  ∀ (pins : List (Addr × Obj)) (s : Shared) (σ : St) (H : Hp) (Q : VK), Inv X pins σ H s → t σ H Q → wpAny (model X.prog X.w) X.A (eval e X.env) (EP X pins σ Q) X.xe s
def PT (X : Cx) (e : Expr) (t : TT) : Prop :=
  ∀ (pins : List (Addr × Obj)) (s : Shared) (σ : St) (H : Hp) (Q : Bool → Hp → Prop), Inv X pins σ H s → t σ H Q → wpAny (model X.prog X.w) X.A (isTrue e X.env (eval e X.env)) (TP X pins σ Q) X.xe s
def PA (X : Cx) (es : List Expr) (t : TA) : Prop :=
  ∀ (pos : Pos) (pins : List (Addr × Obj)) (s : Shared) (σ : St) (H : Hp) (Q : List V → Hp → Prop), Inv X pins σ H s → t σ H Q → wpAny (model X.prog X.w) X.A (spliced (backTo pos (starEach es X.env))) (AP X pins σ Q) X.xe s
def PS (X : Cx) (st : Stmt) (t : TS) : Prop :=
  ∀ (pins : List (Addr × Obj)) (s : Shared) (σ : St) (H : Hp) (D : Ends), Inv X pins σ H s → t D σ H → wpAny (model X.prog X.w) X.A (exec st X.env) (SP X pins D) X.xe s
def PSs (X : Cx) (st : List Stmt) (t : TS) : Prop :=
  ∀ (pins : List (Addr × Obj)) (s : Shared) (σ : St) (H : Hp) (D : Ends), Inv X pins σ H s → t D σ H → wpAny (model X.prog X.w) X.A (execs st X.env) (SP X pins D) X.xe s
theorem thn {α : Type} {t : Sem α} {Q Q' : α → Shared → Prop} {M : Model} {A : Around} {E : Value → Shared → Prop} {s : Shared} (h : wpAny M A t Q E s) (hQ : ∀ a s, Q a s → Q' a s) : wpAny M A t Q' E s := wpAny_mono h hQ fun _ _ x => x
end L2
namespace L2
open PySem PySem.Spec PyProof.Rows
section
variable {X : Cx}
def tVar (i : Nat) : TE := fun σ H Q => ∃ v, σ[i]? = some (some v) ∧ Q v H
def tC (v : V) : TE := fun _ H Q => Q v H
theorem pe_var {i : Nat} {x : Str} {pos : Pos} (hN : X.N[i]? = some x) (hv : Vis X.env.scope x) (hd : (x == ("__debug__" : Str)) = false := by decide) (hcd : (x == ("__classdict__" : Str)) = false := by decide) : PE X (.Name x pos) (tVar i) := by
  intro pins s σ H Q I h
  obtain ⟨v, e, h⟩ := h
  obtain ⟨m, hn, hl⟩ := I.loc
  obtain ⟨u, r, l⟩ := hl i x v hN e hv
  have fin : EP X pins σ Q u s := ⟨v, H, I, r, h⟩
  rcases l with ⟨hk, hm⟩ | ⟨hk, c, hc, hcell⟩
  · exact wpAny_Name (wpAny_loadName_local I.ok.kind hk hn hm fin) hd
  · rcases hk with hk | hk
    · exact wpAny_Name (wpAny_loadName_cell I.ok.kind hk hc hcell fin) hd
    · exact wpAny_Name (wpAny_loadName_free I.ok.kind hk hc hcell fin hcd) hd
theorem pe_int {i j pos} : PE X (.Constant (.int i) j pos) (tC (.int i)) := fun _ _ _ H _ I h => wpAny_Constant_int ⟨.int i, H, I.tok _, ⟨_, rfl⟩, h⟩
theorem pe_bl {b j pos} : PE X (.Constant (.bool b) j pos) (tC (.bl b)) := fun _ _ _ H _ I h => Constant_bool ⟨.bl b, H, I, rfl, h⟩
theorem pe_non {j pos} : PE X (.Constant .none j pos) (tC .non) := fun _ _ _ H _ I h => Constant_none ⟨.non, H, I, rfl, h⟩
theorem pe_str {x j pos} : PE X (.Constant (.str x) j pos) (tC (.str x)) := fun _ _ _ H _ I h => Calls.Constant_str ⟨.str x, H, I.tok _, ⟨_, rfl⟩, h⟩
def Gl (X : Cx) (x : Str) : Prop := X.env.kindOf x = some .globalImplicit
theorem ld_glob {E : Value → Shared → Prop} {pins : List (Addr × Obj)} {s : Shared} {σ : St} {H : Hp} {x : Str} {u : Value} {pos : Pos} {Q : Value → Shared → Prop} (I : Inv X pins σ H s) (hg : Gl X x) (hm : X.mg x = some u) (h : Q u s)
    (hd : (x == ("__debug__" : Str)) = false := by decide) : wpAny (model X.prog X.w) X.A (eval (.Name x pos) X.env) Q E s :=
  Calls.Name_function_global I.ok.kind hg (Calls.loadGlobal_global (by rw [I.ok.glob]; exact I.mod.glob.keeps I.bk) hm h) hd
theorem ld_blt {E : Value → Shared → Prop} {pins : List (Addr × Obj)} {s : Shared} {σ : St} {H : Hp} {x : Str} {u : Value} {pos : Pos} {Q : Value → Shared → Prop} (I : Inv X pins σ H s) (hg : Gl X x) (hm : X.mg x = none) (hv : bootBuiltins x = some u) (h : Q u s)
    (hn : x ≠ "__name__" := by decide) (hd : (x == ("__debug__" : Str)) = false := by decide) : wpAny (model X.prog X.w) X.A (eval (.Name x pos) X.env) Q E s := by
  obtain ⟨mb, h1, h2⟩ := I.mod.blt
  exact Calls.Name_function_global I.ok.kind hg (Calls.loadGlobal_builtin (by rw [I.ok.glob]; exact I.mod.glob.keeps I.bk) hm (by rw [I.ok.blt]; exact h1.keeps I.bk) ((h2 x hn).trans hv) h) hd
theorem pe_glob {x : Str} {v : V} {u : Value} {pos : Pos} (hg : Gl X x) (hm : X.mg x = some u) (r : RelV v u) (hd : (x == ("__debug__" : Str)) = false := by decide) : PE X (.Name x pos) (tC v) :=
  fun _ _ _ H _ I h => ld_glob I hg hm ⟨v, H, I, r, h⟩ hd
theorem pe_bltn {x : Str} {v : V} {u : Value} {pos : Pos} (hg : Gl X x) (hm : X.mg x = none) (hv : bootBuiltins x = some u) (r : RelV v u) (hn : x ≠ "__name__" := by decide) (hd : (x == ("__debug__" : Str)) = false := by decide) : PE X (.Name x pos) (tC v) :=
  fun _ _ _ H _ I h => ld_blt I hg hm hv ⟨v, H, I, r, h⟩ hn hd
variable {a b : Expr} {ta tb : TE} {pos : Pos}
def tB (t : TE) : TT := fun σ H Q => t σ H fun x H1 => ∃ c, x = .bl c ∧ Q c H1
theorem pt_val {e : Expr} {t : TE} (h : PE X e t) (he : ∀ whole, isTrue e X.env whole = (do let v ← whole; standAt e.pos; holding [v] (truthy v)) := by intro _; rfl) : PT X e (tB t) := by
  intro pins s σ H Q I hw
  refine isTrue_plain (thn (h pins s σ H _ I hw) fun v s1 ⟨x, H1, I1, r1, q1⟩ => ?_) (he _)
  obtain ⟨d, rfl, q⟩ := q1
  cases r1
  exact wpAny_truthy_bool ⟨H1, I1, q⟩
variable {tA tB' : TT} {rest : List Expr}
def tNot (t : TT) : TT := fun σ H Q => t σ H fun c H1 => Q (!c) H1
theorem pt_not (ha : PT X a tA) : PT X (.UnaryOp .Not a pos) (tNot tA) := by
  intro pins s σ H Q I h
  exact isTrue_not (ha pins s σ H (fun c H1 => Q (!c) H1) I h)
def tAndV (ta tb : TE) : TE := fun σ H Q => ta σ H fun x H1 => ∃ c, x = .bl c ∧ if c = true then tb σ H1 Q else Q (.bl false) H1
def tNotV (ta : TE) : TE := fun σ H Q => ta σ H fun x H1 => ∃ c, x = .bl c ∧ Q (.bl (!c)) H1
theorem pe_one {op} {t : TE} (h : PE X a t) : PE X (.BoolOp op [a] pos) t := fun pins s σ H Q I hw => BoolOp_one (h pins s σ H Q I hw)
theorem pe_and (ha : PE X a ta) (hb : PE X (.BoolOp .And (b :: rest) pos) tb) : PE X (.BoolOp .And (a :: b :: rest) pos) (tAndV ta tb) := by
  intro pins s σ H Q I h
  refine BoolOp_and (thn (ha pins s σ H _ I h) fun v s1 ⟨x, H1, I1, r1, q1⟩ => ?_)
  obtain ⟨c, rfl, q1⟩ := q1
  cases r1
  refine wpAny_truthy_bool ?_
  cases c with
  | true => exact hb pins s1 σ H1 Q I1 q1
  | false => exact ⟨.bl false, H1, I1, rfl, q1⟩
theorem pe_not (ha : PE X a ta) : PE X (.UnaryOp .Not a pos) (tNotV ta) := by
  intro pins s σ H Q I h
  refine UnaryOp_ (thn (ha pins s σ H _ I h) fun v s1 ⟨x, H1, I1, r1, q1⟩ => ?_)
  obtain ⟨c, rfl, q1⟩ := q1
  cases r1
  exact not_of (wpAny_truthy_bool ⟨.bl (!c), H1, I1, rfl, q1⟩)
end
end L2
namespace L2
open PySem PySem.Spec PyProof.Rows
def SqL (K : PySem.W.Frag) (H : Hp) (a : Addr) (xs : List V) : Prop :=
  Rd H a (.lst xs) ∨
    ∃ (o : Obj) (its : Array Value) (n : Nat), K.lookup a = some o ∧ o.cls = .type "list" ∧ o.dict = none ∧ o.data = .seq its n ∧ its.size ≤ sizeLine ∧ Vals xs its.toList
def SqT (K : PySem.W.Frag) (H : Hp) (a : Addr) (xs : List V) : Prop :=
  Rd H a (.tup xs) ∨
    ∃ (o : Obj) (its : Array Value) (n : Nat), K.lookup a = some o ∧ o.cls = .type "tuple" ∧ o.data = .seq its n ∧ its.size ≤ sizeLine ∧ Vals xs its.toList
def absV : Value → Option V
  | .none => some .non
  | .bool b => some (.bl b)
  | .int i _ => some (.int i)
  | .str x _ => some (.str x)
  | .bytes b _ => some (.byt b)
  | .float b _ => some (.flt b)
  | .ref a => some (.ref a)
  | .type n => some (.ty n)
  | _ => none
theorem RelV.abs {x : V} {u : Value} (r : RelV x u) : absV u = some x := by
  cases x with
  | non => cases r; rfl
  | bl _ => cases r; rfl
  | int _ => obtain ⟨t, rfl⟩ := r; rfl
  | str _ => obtain ⟨t, rfl⟩ := r; rfl
  | byt _ => obtain ⟨t, rfl⟩ := r; rfl
  | flt _ => obtain ⟨t, rfl⟩ := r; rfl
  | ref _ => cases r; rfl
  | ty _ => cases r; rfl
theorem RelV.inj {x y : V} {u : Value} (r : RelV x u) (q : RelV y u) : x = y := Option.some.inj (r.abs.symm.trans q.abs)
theorem Vals.inj : ∀ {xs ys : List V} {us : List Value}, Vals xs us → Vals ys us → xs = ys
  | _, _, _, .nil, .nil => rfl
  | _, _, _, .cons r t, .cons r' t' => by rw [r.inj r', Vals.inj t t']
section
variable {X : Cx} {pins : List (Addr × Obj)} {σ : St} {H : Hp} {s : Shared} {a : Addr} {xs ys : List V}
theorem SqL.of {K : PySem.W.Frag} (h : H a = some (.lst xs)) : SqL K H a xs := .inl (.inl h)
theorem SqT.of {K : PySem.W.Frag} (h : H a = some (.tup xs)) : SqT K H a xs := .inl (.inl h)
theorem Inv.list (I : Inv X pins σ H s) (h : SqL X.K H a xs) : ∃ its : List Value, Vals xs its ∧ PlainL s.heap a its.toArray ∧ xs.length ≤ sizeLine := by
  rcases h with h | ⟨o, its, n, hk, hc, hd, hs, hz, r⟩
  · obtain ⟨z, its, n, r, e⟩ := h.ok I.hok
    exact ⟨its, r, ⟨_, n, e, rfl, rfl, rfl⟩, z⟩
  · refine ⟨its.toList, r, ⟨o, n, I.kIn a o hk, hc, hd, by simpa using hs⟩, ?_⟩
    have e := r.length
    simp only [Array.length_toList] at e
    omega
theorem Inv.tuple (I : Inv X pins σ H s) (h : SqT X.K H a xs) : ∃ its : List Value, Vals xs its ∧ IsTup s.heap a its.toArray ∧ xs.length ≤ sizeLine := by
  rcases h with h | ⟨o, its, n, hk, hc, hs, hz, r⟩
  · obtain ⟨z, its, r, p⟩ := h.ok I.hok
    exact ⟨its, r, p, z⟩
  · refine ⟨its.toList, r, ⟨o, I.kIn a o hk, hc, n, by simpa using hs⟩, ?_⟩
    have e := r.length
    simp only [Array.length_toList] at e
    omega
theorem Inv.list_inj (I : Inv X pins σ H s) (h : SqL X.K H a xs) (h' : SqL X.K H a ys) : xs = ys := by
  obtain ⟨its, r, ⟨o, n, e, _, _, d⟩, _⟩ := I.list h
  obtain ⟨its', r', ⟨o', n', e', _, _, d'⟩, _⟩ := I.list h'
  rw [e] at e'; cases e'
  rw [d] at d'
  injection d' with d1 _
  have : its = its' := by simpa using congrArg Array.toList d1
  subst this
  exact r.inj r'
theorem Inv.tuple_inj (I : Inv X pins σ H s) (h : SqT X.K H a xs) (h' : SqT X.K H a ys) : xs = ys := by
  obtain ⟨its, r, ⟨o, e, _, n, d⟩, _⟩ := I.tuple h
  obtain ⟨its', r', ⟨o', e', _, n', d'⟩, _⟩ := I.tuple h'
  rw [e] at e'; cases e'
  rw [d] at d'
  injection d' with d1 _
  have : its = its' := by simpa using congrArg Array.toList d1
  subst this
  exact r.inj r'
end
abbrev Cx.wish (X : Cx) (E : Value → Shared → Prop) : Cx := { X with xe := E }
abbrev Cx.nox (X : Cx) : Cx := X.wish fun _ _ => False
theorem Cx.Ok.wish {X : Cx} (ok : X.Ok) (E : Value → Shared → Prop) : (X.wish E).Ok :=
  ⟨ok.mod, ok.kind, ok.glob, ok.blt, ok.above, ok.inj, ok.has, ok.cab, ok.hd, ok.frames, ok.stk, ok.exf, ok.bs, ok.bsz, ok.noex, ok.exfs, ok.funs, ok.frf⟩
theorem Cx.Ok.unwish {X : Cx} {E : Value → Shared → Prop} (ok : (X.wish E).Ok) : X.Ok :=
  ⟨ok.mod, ok.kind, ok.glob, ok.blt, ok.above, ok.inj, ok.has, ok.cab, ok.hd, ok.frames, ok.stk, ok.exf, ok.bs, ok.bsz, ok.noex, ok.exfs, ok.funs, ok.frf⟩
section
variable {X : Cx} {pins : List (Addr × Obj)} {σ : St} {H : Hp} {s : Shared} {E : Value → Shared → Prop}
theorem Inv.wish (I : Inv X pins σ H s) (E : Value → Shared → Prop) : Inv (X.wish E) pins σ H s := ⟨I.ok.wish E, I.os, I.bare, I.base, I.loc, I.cell, I.free, I.freeC, I.pin, I.hok, I.len⟩
theorem Inv.unwish (I : Inv (X.wish E) pins σ H s) : Inv X pins σ H s := ⟨I.ok.unwish, I.os, I.bare, I.base, I.loc, I.cell, I.free, I.freeC, I.pin, I.hok, I.len⟩
theorem SP.unwish {D : Ends} {f : Flow} {s' : Shared} (h : SP (X.wish E) pins D f s') : SP X pins D f s' := by
  cases f with
  | next => obtain ⟨σ', H', I, q⟩ := h; exact ⟨σ', H', I.unwish, q⟩
  | brk => obtain ⟨σ', H', I, q⟩ := h; exact ⟨σ', H', I.unwish, q⟩
  | cont => obtain ⟨σ', H', I, q⟩ := h; exact ⟨σ', H', I.unwish, q⟩
  | ret u => obtain ⟨v, σ', H', I, r, q⟩ := h; exact ⟨v, σ', H', I.unwish, r, q⟩
theorem PE.nox {e : Expr} {t : TE} (h : PE X.nox e t) : PE X e t := fun pins s σ H Q I hw =>
  wpAny_mono (h pins s σ H Q (I.wish _) hw) (fun _ _ ⟨v, H', I', r, q⟩ => ⟨v, H', I'.unwish, r, q⟩) fun _ _ z => False.elim z
theorem PT.nox {e : Expr} {t : TT} (h : PT X.nox e t) : PT X e t := fun pins s σ H Q I hw =>
  wpAny_mono (h pins s σ H Q (I.wish _) hw) (fun _ _ ⟨H', I', q⟩ => ⟨H', I'.unwish, q⟩) fun _ _ z => False.elim z
theorem PSs.nox {st : List Stmt} {t : TS} (h : PSs X.nox st t) : PSs X st t := fun pins s σ H D I hw =>
  wpAny_mono (h pins s σ H D (I.wish _) hw) (fun _ _ q => q.unwish) fun _ _ z => False.elim z
end
section
variable {X : Cx} {st : Stmt} {rest : List Stmt} {t u : TS} {e : Expr} {te : TE} {pos : Pos}
def tNext : TS := fun D σ H => D.nx σ H
def tSeq (t u : TS) : TS := fun D σ H => t { D with nx := u D } σ H
theorem pss_nil : PSs X [] tNext := fun _ _ σ H _ I h => wpAny_execs_nil ⟨σ, H, I, h⟩
theorem pss_cons (h1 : PS X st t) (h2 : PSs X rest u) : PSs X (st :: rest) (tSeq t u) := by
  intro pins s σ H D I h
  refine wpAny_execs_cons (thn (h1 pins s σ H { D with nx := u D } I h) fun f s1 q => ?_)
  cases f with
  | next =>
    obtain ⟨σ', H', I', q⟩ := q
    exact h2 pins s1 σ' H' D I' q
  | ret v => exact q
  | brk => exact q
  | cont => exact q
theorem pss_one (h1 : PS X st t) : PSs X [st] t := by
  intro pins s σ H D I h
  refine wpAny_execs_cons (thn (h1 pins s σ H D I h) fun f s1 q => ?_)
  cases f with
  | next => exact wpAny_execs_nil q
  | ret v => exact q
  | brk => exact q
  | cont => exact q
theorem Inv.quiet {pins : List (Addr × Obj)} {σ : St} {H : Hp} {s : Shared} (I : Inv X pins σ H s) : interactive X.env = false := by simp [interactive, I.ok.kind]
def tDrop (te : TE) : TS := fun D σ H => te σ H fun _ H1 => D.nx σ H1
theorem ps_expr (he : PE X e te) (hs : swapsWith e none pos.line X.env = pure false := by rfl) : PS X (.Expr e pos) (tDrop te) := by
  intro pins s σ H D I h
  exact wpAny_Expr_any (thn (he pins s σ H _ I h) fun v s1 ⟨x, H1, I1, r1, q1⟩ => ⟨σ, H1, I1, q1⟩) I.quiet hs
def tRet (te : TE) : TS := fun D σ H => te σ H D.rt
theorem ps_ret (he : PE X e te) : PS X (.Return (some e) pos) (tRet te) := by
  intro pins s σ H D I h
  exact wpAny_Return_some (thn (he pins s σ H _ I h) fun v s1 ⟨x, H1, I1, r1, q1⟩ => ⟨x, σ, H1, I1, r1, q1⟩)
def tIfS (c : TT) (t u : TS) : TS := fun D σ H => c σ H fun b H1 => if b = true then t D σ H1 else u D σ H1
theorem ps_if {c : Expr} {a b : List Stmt} {tc : TT} (hc : PT X c tc) (ha : PSs X a t) (hb : PSs X b u) : PS X (.If c a b pos) (tIfS tc t u) := by
  intro pins s σ H D I h
  refine wpAny_If (thn (hc pins s σ H _ I h) fun d s1 ⟨H1, I1, q1⟩ => ?_)
  cases d with
  | true => exact ha pins s1 σ H1 D I1 q1
  | false => exact hb pins s1 σ H1 D I1 q1
end
abbrev TG := V → St → Hp → (St → Hp → Prop) → Prop
abbrev TGs := List V → St → Hp → (St → Hp → Prop) → Prop
def PG (X : Cx) (target : Expr) (t : TG) : Prop :=
  ∀ (pins : List (Addr × Obj)) (s : Shared) (σ : St) (H : Hp) (v : V) (u : Value) (Q : St → Hp → Prop), Inv X pins σ H s → RelV v u → t v σ H Q →
    wpAny (model X.prog X.w) X.A (assign target X.env u) (fun _ s' => ∃ σ' H', Inv X pins σ' H' s' ∧ Q σ' H') X.xe s
def PGs (X : Cx) (ts : List Expr) (t : TGs) : Prop :=
  ∀ (pins : List (Addr × Obj)) (s : Shared) (σ : St) (H : Hp) (vs : List V) (us : List Value) (Q : St → Hp → Prop), Inv X pins σ H s → Vals vs us → t vs σ H Q →
    wpAny (model X.prog X.w) X.A (assignInOrder ((assignEach ts X.env).map (·.2)) us) (fun _ s' => ∃ σ' H', Inv X pins σ' H' s' ∧ Q σ' H') X.xe s
abbrev TSet := V → V → V → Hp → (Hp → Prop) → Prop
def PSet (X : Cx) (t : TSet) : Prop :=
  ∀ (pins : List (Addr × Obj)) (s : Shared) (σ : St) (H : Hp) (o i v : V) (ov iv u : Value) (Q : Hp → Prop), Inv X pins σ H s → RelV o ov → RelV i iv → RelV v u → t o i v H Q →
    wpAny (model X.prog X.w) X.A (setItem ov iv u) (fun _ s' => ∃ H', Inv X pins σ H' s' ∧ Q H') X.xe s
section
variable {X : Cx} {pos : Pos}
def gName (i : Nat) : TG := fun v σ H Q => Q (σ.set i (some v)) H
theorem pg_name {i : Nat} {x : Str} (hN : X.N.Nodup) (hi : X.N[i]? = some x) (hx : Loc X.env.scope x) (hf : X.fn x = true ∨ X.env.scope.names.lookup x = some .local := by first | exact .inl rfl | exact .inr rfl | assumption) : PG X (.Name x pos) (gName i) := by
  intro pins s σ H v u Q I r h
  exact wpAny_assign_Name (store_ok I hN hi hx r (fun s' I' => ⟨_, H, I', h⟩) hf)
def gNil : TGs := fun vs σ H Q => vs = [] ∧ Q σ H
def gCons (t : TG) (u : TGs) : TGs := fun vs σ H Q => ∃ v r, vs = v :: r ∧ t v σ H fun σ' H' => u r σ' H' Q
theorem pgs_nil : PGs X [] gNil := by
  intro pins s σ H vs us Q I r h
  obtain ⟨e, h⟩ := h
  subst e
  cases r
  exact assignInOrder_nil ⟨σ, H, I, h⟩
theorem pgs_cons {e : Expr} {es : List Expr} {t : TG} {u : TGs} (h1 : PG X e t) (h2 : PGs X es u)
    (hs : (assignEach (e :: es) X.env).map (·.2) = assign e X.env :: (assignEach es X.env).map (·.2) := by rfl) : PGs X (e :: es) (gCons t u) := by
  intro pins s σ H vs us Q I r h
  obtain ⟨v, vr, e1, h⟩ := h
  subst e1
  cases r with
  | cons r rr =>
    rw [hs]
    refine assignInOrder_cons (thn (h1 pins s σ H _ _ _ I r h) fun _ s1 ⟨σ1, H1, I1, q1⟩ => ?_)
    exact h2 pins s1 σ1 H1 _ _ Q I1 rr q1
def gTup (K : PySem.W.Frag) (n : Nat) (t : TGs) : TG := fun v σ H Q => ∃ a xs, v = .ref a ∧ SqT K H a xs ∧ xs.length = n ∧ t xs σ H Q
theorem pg_tup {es : List Expr} {k : Nat} {t : TGs} {n : Nat} (hc : X.calm = true) (h : PGs X es t)
    (hn : (assignEach es X.env).length = n := by rfl) (hst : (assignEach es X.env).findIdx? (·.1) = none := by rfl) : PG X (.Tuple es k pos) (gTup X.K n t) := by
  intro pins s σ H v u Q I r hw
  obtain ⟨a, xs, e1, hq, hl, hw⟩ := hw
  subst e1
  cases r
  obtain ⟨its, rv, ht, hz⟩ := I.tuple hq
  refine assign_Tuple_tuple (I.ok.hd hc) ht (by simp [hn, ← hl, rv.length]) hst fun h' hx => ?_
  have I1 : Inv X pins σ H { s with heap := h' } := I.kept (t' := s.toks) fun b o e => hx b o (Nat.ne_of_lt (Heap.lt_size e)) e
  exact h pins _ σ H xs _ Q I1 (by simpa using rv) hw
def gSub (to ti : TE) (t : TSet) : TG := fun v σ H Q => to σ H fun o H1 => ti σ H1 fun i H2 => t o i v H2 fun H3 => Q σ H3
theorem pg_sub {o i : Expr} {to ti : TE} {t : TSet} (ho : PE X o to) (hi : PE X i ti) (hs : PSet X t)
    (ha : ∀ v, assign (.Subscript o i pos) X.env v = (do
      let ov ← holding [v] (eval o X.env)
      let iv ← holding [v, ov] (eval i X.env)
      standAt pos
      holding [v, ov, iv] (setItem ov iv v)
      release [v, ov, iv] []) := by intro _; rfl) : PG X (.Subscript o i pos) (gSub to ti t) := by
  intro pins s σ H v u Q I r h
  rw [ha]
  refine wpAny_bind (wpAny_holding (thn (ho pins s σ H _ I h) fun ov s1 ⟨x, H1, I1, r1, q1⟩ => ?_))
  refine wpAny_bind (wpAny_holding (thn (hi pins s1 σ H1 _ I1 q1) fun iv s2 ⟨y, H2, I2, r2, q2⟩ => ?_))
  refine wpAny_bind (wpAny_standAt (wpAny_bind (wpAny_holding (thn (hs pins s2 σ H2 x y v ov iv u _ I2 r1 r2 r q2) fun _ s3 ⟨H3, I3, q3⟩ => ?_))))
  exact wpAny_release ⟨σ, H3, I3, q3⟩
def tAsg (te : TE) (g : TG) : TS := fun D σ H => te σ H fun x H1 => g x σ H1 D.nx
theorem ps_asg {tg e : Expr} {te : TE} {g : TG} (he : PE X e te) (hg : PG X tg g) (hs : swapsWithSole [tg] e pos.line X.env = pure false := by rfl) (hw : swappedStores [tg] e X.env = pure none := by rfl)
    (h1 : (assignEach [tg] X.env).map (·.2) = [assign tg X.env] := by rfl) : PS X (.Assign [tg] e pos) (tAsg te g) := by
  intro pins s σ H D I h
  refine wpAny_Assign_stores (thn (he pins s σ H _ I h) fun v s1 ⟨x, H1, I1, r1, q1⟩ => ?_) hs hw
  rw [h1]
  exact thn (hg pins s1 σ H1 x v _ I1 r1 q1) fun _ s2 q => q
theorem ps_set {i : Nat} {x : Str} {e : Expr} {te : TE} {pos' : Pos} (hN : X.N.Nodup) (hi : X.N[i]? = some x) (hx : Loc X.env.scope x) (he : PE X e te) (hs : swapsWith e (some (.Name x pos')) pos.line X.env = pure false := by rfl) (hf : X.fn x = true ∨ X.env.scope.names.lookup x = some .local := by first | exact .inl rfl | exact .inr rfl | assumption) :
    PS X (.Assign [.Name x pos'] e pos) (tAsg te (gName i)) := by
  intro pins s σ H D I h
  refine wpAny_Assign_Name (thn (he pins s σ H _ I h) fun v s1 ⟨y, H1, I1, r1, q1⟩ => ?_) hs
  exact store_ok I1 hN hi hx r1 (fun s2 I2 => ⟨_, H1, I2, q1⟩) hf
end
section
variable {X : Cx} {pos : Pos}
end
structure It where
  go : Nat → Hp → Prop
  yld : Nat → Hp → V → Hp → Prop
  stop : Nat → Hp → Prop
def FpOk (X : Cx) (pins : List (Addr × Obj)) (H : Hp) (b : Addr) : Prop :=
  H b = none ∧ b ≠ X.env.locals ∧ b ∉ X.fs ∧ (b ∈ X.ex ∨ X.s₀.heap.objs.size ≤ b) ∧ (∀ x c, X.env.cells.lookup x = some c → c ≠ b) ∧ ∀ p ∈ X.pn ++ pins, p.1 ≠ b
theorem Inv.fpOk {X : Cx} {pins : List (Addr × Obj)} {σ : St} {H H' : Hp} {s : Shared} {b : Addr} (I : Inv X pins σ H s) (hb : s.heap.objs.size ≤ b) (hn : H' b = none) : FpOk X pins H' b := by
  refine ⟨hn, Nat.ne_of_gt (Nat.lt_of_lt_of_le I.lt hb), I.nofs hb, .inr (Nat.le_trans I.sz hb), fun x c e z => ?_, fun p hp z => ?_⟩
  · obtain ⟨v, q⟩ := I.cell x c e
    exact absurd (Nat.lt_of_lt_of_le q.lt (by rw [z]; exact hb)) (Nat.lt_irrefl _)
  · exact absurd (Nat.lt_of_lt_of_le (Heap.lt_size (I.pin p hp).1) (by rw [z]; exact hb)) (Nat.lt_irrefl _)
structure Turn (P : Program) (w : World) (K : PySem.W.Frag) (tg : Expr) (J : It) (fp : List Addr) (it : Addr) (tn : Nat → Heap → Prop) : Prop where
  mem : it ∈ fp
  obj : ∀ i h, tn i h → ∀ b ∈ fp, ∃ o, h.get? b = some o ∧ ∀ v, o.data ≠ .cell v
  keep : ∀ i h h', tn i h → (∀ b ∈ fp, ∀ o, h.get? b = some o → h'.get? b = some o) → tn i h'
  item : ∀ (X : Cx), X.prog = P → X.w = w → X.K = K → X.calm = true → ∀ (i : Nat) (pins : List (Addr × Obj)) (s : Shared) (σ : St) (H : Hp) (E : Value → Shared → Prop), Inv X pins σ H s → (∀ b ∈ fp, FpOk X pins H b) → tn i s.heap → J.go i H →
    wpAny (model P w) X.A (pyNext (.ref it)) (fun r s1 => ∃ u, r = some u ∧
      wpAny (model P w) X.A (letOwnedTupleGo tg (.ref it) u) (fun _ s2 => ∃ x H', Inv X pins σ H' s2 ∧ RelV x u ∧ J.yld i H x H' ∧ tn (i + 1) s2.heap ∧ ∀ b ∈ fp, H' b = none) E s1) E s
  done : ∀ (X : Cx), X.prog = P → X.w = w → X.K = K → X.calm = true → ∀ (i : Nat) (pins : List (Addr × Obj)) (s : Shared) (σ : St) (H : Hp) (E : Value → Shared → Prop), Inv X pins σ H s → (∀ b ∈ fp, FpOk X pins H b) → tn i s.heap → J.stop i H →
    wpAny (model P w) X.A (pyNext (.ref it)) (fun r s1 => r = none ∧ Inv X pins σ H s1) E s
  self : ∀ (A : Around) (i : Nat) (s : Shared) (Q : Value → Shared → Prop) (E : Value → Shared → Prop), tn i s.heap → Q (.ref it) s → wpAny (model P w) A (pyIter (.ref it)) Q E s
abbrev TI := St → Hp → (It → Hp → Prop) → Prop
def PIE (X : Cx) (pins : List (Addr × Obj)) (σ : St) (tg : Expr) (R : It → Hp → Prop) (itv : Value) (s2 : Shared) : Prop :=
  ∃ (it : Addr) (fp : List Addr) (tn : Nat → Heap → Prop) (J : It) (H' : Hp), itv = .ref it ∧ Inv X pins σ H' s2 ∧ Turn X.prog X.w X.K tg J fp it tn ∧ tn 0 s2.heap ∧ (∀ b ∈ fp, FpOk X pins H' b) ∧ R J H'
def PI (X : Cx) (tg iter : Expr) (wi : TI) : Prop :=
  ∀ (pins : List (Addr × Obj)) (s : Shared) (σ : St) (H : Hp) (R : It → Hp → Prop), Inv X pins σ H s → wi σ H R →
    wpAny (model X.prog X.w) X.A (eval iter X.env) (fun v s1 => wpAny (model X.prog X.w) X.A (pyIter v) (PIE X pins σ tg R) X.xe s1) X.xe s
theorem go_of {M : Model} {A : Around} {E : Value → Shared → Prop} {s : Shared} {tg : Expr} {it : Addr} {u : Value} {o : Obj} {n : String} {vs : Array Value} {Q : Unit → Shared → Prop} (ho : s.heap.get? it = some o) (hc : o.cls = .type n) (hd : o.data = .fields vs)
    (hn : ["enumerate", "zip", "dict_itemiterator", "dict_reverseitemiterator", "odict_iterator", "itertools.zip_longest", "itertools.pairwise"].contains n = false) (hQ : Q () s) : wpAny M A (letOwnedTupleGo tg (.ref it) u) Q E s := by
  unfold letOwnedTupleGo
  cases tg <;> first
    | exact wpAny_pure hQ
    | (cases u <;> first
        | exact wpAny_pure hQ
        | (refine wpAny_bind (wpAny_load ho ?_)
           rw [hc, hd]
           show wpAny M A (if (["enumerate", "zip", "dict_itemiterator", "dict_reverseitemiterator", "odict_iterator", "itertools.zip_longest", "itertools.pairwise"].contains n && vs[0]? == some (rawInt _)) = true then _ else _) Q E s
           rw [if_neg (by intro h; rw [hn, Bool.false_and] at h; cases h)]
           exact wpAny_pure hQ))
def Itl (K : PySem.W.Frag) (a : Addr) : It :=
  ⟨fun i H => ∃ xs x, SqL K H a xs ∧ xs[i]? = some x, fun i H x H' => H' = H ∧ ∀ xs, SqL K H a xs → xs[i]? = some x, fun i H => ∃ xs, SqL K H a xs ∧ xs.length ≤ i⟩
def Itt (K : PySem.W.Frag) (a : Addr) : It :=
  ⟨fun i H => ∃ xs x, SqT K H a xs ∧ xs[i]? = some x, fun i H x H' => H' = H ∧ ∀ xs, SqT K H a xs → xs[i]? = some x, fun i H => ∃ xs, SqT K H a xs ∧ xs.length ≤ i⟩
def Itr (lo : Int) (n : Nat) : It := ⟨fun i _ => i < n, fun i H x H' => H' = H ∧ x = .int (lo + i), fun i _ => n ≤ i⟩
theorem turn_list {P : Program} {w : World} {K : PySem.W.Frag} {tg : Expr} (a it : Addr) : Turn P w K tg (Itl K a) [it] it (fun i h => h.IsListIter it a i) where
  mem := by simp
  obj := fun i h st b hb => by
    have e : b = it := by simpa using hb
    subst e
    obtain ⟨o, e, c, d⟩ := st
    exact ⟨o, e, fun v z => by rw [d] at z; cases z⟩
  keep := fun i h h' st k => st.at fun o e => k it (by simp) o e
  item := by
    intro X hP hw hK hc i pins s σ H E I hf st hg
    subst hP hw hK
    obtain ⟨xs, x, hq, hx⟩ := hg
    obtain ⟨its, rv, p, hz⟩ := I.list hq
    obtain ⟨u, hu, ru⟩ := rv.get hx
    obtain ⟨f0, f1, f2, f3, f4, f5⟩ := hf it (by simp)
    refine wpAny_pyNext_list_item st p.isList (x := u) (by simpa using hu) fun h' st' sb => ?_
    have I1 : Inv X pins σ H { s with heap := h' } := I.turned (t' := s.toks) (fun b o hb e => (sb.2 b hb).trans e) f0 f1 f3 f4 f5
    obtain ⟨o, e, c, d⟩ := id st'
    exact ⟨u, rfl, go_of (s := { s with heap := h' }) e c d (by decide) ⟨x, H, I1, ru, ⟨rfl, fun ys hy => by rw [I.list_inj hy hq]; exact hx⟩, st', fun b hb => (hf b hb).1⟩⟩
  done := by
    intro X hP hw hK hc i pins s σ H E I hf st hg
    subst hP hw hK
    obtain ⟨xs, hq, hx⟩ := hg
    obtain ⟨its, rv, p, hz⟩ := I.list hq
    obtain ⟨f0, f1, f2, f3, f4, f5⟩ := hf it (by simp)
    have hl := rv.length
    exact wpAny_pyNext_list_end (I.ok.hd hc) st p.isList (by simp; omega) fun h' eb => ⟨rfl, I.turned (t' := s.toks) (fun b o hb e => eb b o hb e) f0 f1 f3 f4 f5⟩
  self := fun _ _ _ _ _ st h => wpAny_pyIter_listiter st h
theorem turn_tuple {P : Program} {w : World} {K : PySem.W.Frag} {tg : Expr} (a it : Addr) : Turn P w K tg (Itt K a) [it] it (fun i h => h.IsTupleIter it a i) where
  mem := by simp
  obj := fun i h st b hb => by
    have e : b = it := by simpa using hb
    subst e
    obtain ⟨o, e, c, d⟩ := st
    exact ⟨o, e, fun v z => by rw [d] at z; cases z⟩
  keep := fun i h h' st k => st.at fun o e => k it (by simp) o e
  item := by
    intro X hP hw hK hc i pins s σ H E I hf st hg
    subst hP hw hK
    obtain ⟨xs, x, hq, hx⟩ := hg
    obtain ⟨its, rv, p, hz⟩ := I.tuple hq
    obtain ⟨u, hu, ru⟩ := rv.get hx
    obtain ⟨f0, f1, f2, f3, f4, f5⟩ := hf it (by simp)
    refine wpAny_pyNext_tuple_item st (show s.heap.IsTuple a its.toArray from p) (x := u) (by simpa using hu) fun h' st' sb => ?_
    have I1 : Inv X pins σ H { s with heap := h' } := I.turned (t' := s.toks) (fun b o hb e => (sb.2 b hb).trans e) f0 f1 f3 f4 f5
    obtain ⟨o, e, c, d⟩ := id st'
    exact ⟨u, rfl, go_of (s := { s with heap := h' }) e c d (by decide) ⟨x, H, I1, ru, ⟨rfl, fun ys hy => by rw [I.tuple_inj hy hq]; exact hx⟩, st', fun b hb => (hf b hb).1⟩⟩
  done := by
    intro X hP hw hK hc i pins s σ H E I hf st hg
    subst hP hw hK
    obtain ⟨xs, hq, hx⟩ := hg
    obtain ⟨its, rv, p, hz⟩ := I.tuple hq
    obtain ⟨f0, f1, f2, f3, f4, f5⟩ := hf it (by simp)
    have hl := rv.length
    exact wpAny_pyNext_tuple_end (I.ok.hd hc) st (show s.heap.IsTuple a its.toArray from p) (by simp; omega) fun h' eb => ⟨rfl, I.turned (t' := s.toks) (fun b o hb e => eb b o hb e) f0 f1 f3 f4 f5⟩
  self := fun _ _ _ _ _ st h => wpAny_pyIter_tupleiter st h
theorem turn_range {P : Program} {w : World} {K : PySem.W.Frag} {tg : Expr} (it : Addr) (lo : Int) (n : Nat) : Turn P w K tg (Itr lo n) [it] it (fun i h => IsRangeIter h it (lo + (i : Nat) * 1) ((n : Int) - (i : Nat)) 1) where
  mem := by simp
  obj := fun i h st b hb => by
    have e : b = it := by simpa using hb
    subst e
    exact ⟨_, st, fun v z => by
      have z' : Data.fields _ = Data.cell v := z
      cases z'⟩
  keep := fun i h h' st k => k it (by simp) _ st
  item := by
    intro X hP hw hK hc i pins s σ H E I hf st hg
    subst hP hw hK
    obtain ⟨f0, f1, f2, f3, f4, f5⟩ := hf it (by simp)
    have W := Walks.range (prog := X.prog) (w := X.w) (I.ok.hd hc) it lo 1 n
    refine W.item i s _ _ hg st fun v h' tk hv st' kk => ?_
    obtain ⟨t, rfl⟩ := hv
    have I1 : Inv X pins σ H { s with heap := h', toks := tk } := I.turned (fun b o hb e => kk b o (by simpa using hb) e) f0 f1 f3 f4 f5
    refine ⟨_, rfl, go_of (s := { s with heap := h', toks := tk }) (n := "range_iterator") st' rfl rfl (by decide) ⟨.int (lo + i), H, I1, ⟨t, ?_⟩, ⟨rfl, rfl⟩, st', fun b hb => (hf b hb).1⟩⟩
    rw [Int.mul_one]
  done := by
    intro X hP hw hK hc i pins s σ H E I hf st hg
    subst hP hw hK
    obtain ⟨f0, f1, f2, f3, f4, f5⟩ := hf it (by simp)
    exact wpAny_pyNext_range_end (I.ok.hd hc) st (by have : n ≤ i := hg; omega) fun h' eb => ⟨rfl, I.turned (t' := s.toks) (fun b o hb e => eb b o hb e) f0 f1 f3 f4 f5⟩
  self := fun _ _ _ _ _ st h => wpAny_pyIter_rangeiter st h
end L2
namespace L2
open PySem PySem.Spec PyProof.Rows
section
variable {X : Cx} {tg : Expr}
theorem range_it {pins : List (Addr × Obj)} {σ : St} {H : Hp} {s : Shared} {R : It → Hp → Prop} {E : Value → Shared → Prop} {lo hi : Int} {t u v : Tok} {tk : Nat} (I : Inv X pins σ H s) (h1 : -(2 ^ 62) ≤ lo) (h2 : lo < 2 ^ 62) (h3 : -(2 ^ 62) ≤ hi) (h4 : hi < 2 ^ 62)
    (q : R (Itr lo (hi - lo).toNat) H) : wpAny (model X.prog X.w) X.A (pyIter (.ref s.heap.objs.size)) (PIE X pins σ tg R) E { s with heap := s.heap.push { cls := .type "range", data := .fields #[.int lo t, .int hi u, .int 1 v] }, toks := tk } := by
  refine wpAny_pyIter_range (IsRange.new ..) (small_one h1 h2 h3 h4) ?_
  have I1 : Inv X pins σ H { s with heap := s.heap.push { cls := .type "range", data := .fields #[.int lo t, .int hi u, .int 1 v] }, toks := tk } := I.kept fun b o e => Heap.get?_push_of_some _ e
  refine ⟨(s.heap.push { cls := .type "range", data := .fields #[.int lo t, .int hi u, .int 1 v] }).objs.size, [(s.heap.push { cls := .type "range", data := .fields #[.int lo t, .int hi u, .int 1 v] }).objs.size], _, _, H, rfl,
    I1.kept (t' := tk) fun b o e => Heap.get?_push_of_some _ e, turn_range _ lo (hi - lo).toNat, ?_, fun b hb => ?_, q⟩
  · have e1 : lo + ((0 : Nat) : Int) * 1 = lo := by simp
    have e2 : (((hi - lo).toNat : Nat) : Int) - ((0 : Nat) : Int) = Builtin.Range.rangeSize lo hi 1 := by rw [rangeSize_one]; split <;> omega
    show IsRangeIter _ _ (lo + ((0 : Nat) : Int) * 1) ((((hi - lo).toNat : Nat) : Int) - ((0 : Nat) : Int)) 1
    rw [e1, e2]
    exact Heap.get?_push_size _ rfl
  · have e : b = (s.heap.push { cls := .type "range", data := .fields #[.int lo t, .int hi u, .int 1 v] }).objs.size := by simpa using hb
    subst e
    exact I1.fpOk (Nat.le_refl _) (I1.hok.fresh (Nat.le_refl _))
def iRng1 (ta : TA) : TI := fun σ H R => ta σ H fun vs H1 => ∃ j : Int, vs = [.int j] ∧ -(2 ^ 62) ≤ j ∧ j < 2 ^ 62 ∧ R (Itr 0 j.toNat) H1
theorem pi_range1 {a : Expr} {ta : TA} {p pos : Pos} (hg : Gl X "range") (hm : X.mg "range" = none) (ha : PA X [a] ta) (hs : starEach [a] X.env = [(false, eval a X.env)] := by rfl) : PI X tg (.Call (.Name "range" p) [a] [] pos) (iRng1 ta) := by
  intro pins s σ H R I h
  refine Call_ (ld_blt I hg hm boot_range (PyProof.Rows.callWith_type1 (thn (ha pos pins s σ H _ I h) fun us s1 ⟨vs, H1, I1, r1, q1⟩ => ?_) hs rfl))
  obtain ⟨j, e, q1, q2, q⟩ := q1
  subst e
  cases r1 with
  | cons r rr =>
    cases rr
    obtain ⟨t, rfl⟩ := r
    exact call_range_1 (range_it I1 (by omega) (by omega) q1 q2 (by simpa using q))
def tFor (wi : TI) (g : TG) (tb : TS) : TS := fun D σ H => wi σ H fun J H1 => ∃ W : Nat → Nat → St → Hp → Prop, (∃ m, W 0 m σ H1) ∧ ∀ i m σ H, W i m σ H →
  (J.stop i H ∧ D.nx σ H) ∨ (J.go i H ∧ ∃ N : St → Hp → Prop, (∀ σ' H', N σ' H' → ∃ m', m' < m ∧ W (i + 1) m' σ' H') ∧ ∀ x H', J.yld i H x H' → g x σ H' fun σ2 H2 => tb { D with nx := N, ct := N, bk := D.nx } σ2 H2)
def pinsAt (fp : List Addr) (h : Heap) : List (Addr × Obj) := fp.filterMap fun b => (h.get? b).map fun o => (b, o)
theorem mem_pinsAt {fp : List Addr} {h : Heap} {b : Addr} {o : Obj} (hb : b ∈ fp) (e : h.get? b = some o) : (b, o) ∈ pinsAt fp h := List.mem_filterMap.mpr ⟨b, hb, by rw [e]; rfl⟩
theorem of_pinsAt {fp : List Addr} {h : Heap} {p : Addr × Obj} (hp : p ∈ pinsAt fp h) : p.1 ∈ fp ∧ h.get? p.1 = some p.2 := by
  obtain ⟨b, hb, e⟩ := List.mem_filterMap.mp hp
  cases q : h.get? b with
  | none => rw [q] at e; cases e
  | some o =>
    rw [q] at e
    have e' : (b, o) = p := Option.some.inj e
    subst e'
    exact ⟨hb, q⟩
theorem Inv.pinned {pins : List (Addr × Obj)} {σ : St} {H : Hp} {s : Shared} {fp : List Addr} (I : Inv X pins σ H s) (hf : ∀ b ∈ fp, FpOk X pins H b) (ho : ∀ b ∈ fp, ∃ o, s.heap.get? b = some o ∧ ∀ v, o.data ≠ .cell v) : Inv X (pins ++ pinsAt fp s.heap) σ H s :=
  I.pins_of fun p hp => (List.mem_append.mp hp).elim (fun z => I.pin p (List.mem_append_right _ z)) fun z => by
    obtain ⟨hb, e⟩ := of_pinsAt z
    obtain ⟨f0, f1, f2, _⟩ := hf p.1 hb
    obtain ⟨o, e', d⟩ := ho p.1 hb
    rw [e] at e'; cases e'
    exact ⟨e, f0, f1, f2, d⟩
theorem Inv.unpinned {pins pl : List (Addr × Obj)} {σ : St} {H : Hp} {s : Shared} (I : Inv X (pins ++ pl) σ H s) : Inv X pins σ H s := I.pins_of fun p hp => I.pin p (List.mem_append_right _ (List.mem_append_left _ hp))
theorem ps_for {iter : Expr} {body : List Stmt} {wi : TI} {g : TG} {tb : TS} {pos : Pos} (hp : PassesOwn (model X.prog X.w) X.A X.env X.xe) (hc : X.calm = true) (hi : PI X tg iter wi) (hg : PG X tg g) (hb : PSs X body tb)
    (hs : ∀ x, foldedSetIterable iter X.env x = pure x := by intro _; rfl) : PS X (.For tg iter body [] pos) (tFor wi g tb) := by
  intro pins s σ H D I h
  refine wpAny_For (thn (hi pins s σ H _ I h) fun v s1 h1 => thn h1 fun itv s2 h2 => ?_) hs
  obtain ⟨it, fp, tn, J, H2, e, I2, T, st2, f2, W, ⟨m0, w0⟩, turn⟩ := h2
  subst e
  -- what stays true of the iterator's objects through the loop
  have stat : ∀ {H' : Hp}, (∀ b ∈ fp, H' b = none) → ∀ b ∈ fp, FpOk X pins H' b := fun hn b hb => ⟨hn b hb, (f2 b hb).2⟩
  refine codeAny_forLoop_any (fun n s' => ∃ i σ' H', Inv X pins σ' H' s' ∧ tn i s'.heap ∧ (∀ b ∈ fp, H' b = none) ∧ W i n σ' H') ?_ m0 ⟨0, σ, H2, I2, st2, fun b hb => (f2 b hb).1, w0⟩
  rintro n s3 ⟨i, σ3, H3, I3, st3, fr3, w3⟩
  rcases turn i n σ3 H3 w3 with ⟨stop, qn⟩ | ⟨go, N, hN, step⟩
  · refine wpAny_passesOwn hp (thn (T.done X rfl rfl rfl hc i pins s3 σ3 H3 X.xe I3 (stat fr3) st3 stop) fun r s4 ⟨hr, I4⟩ => ?_)
    subst hr
    exact wpAny_execs_nil ⟨σ3, H3, I4, qn⟩
  · refine wpAny_passesOwn hp (thn (T.item X rfl rfl rfl hc i pins s3 σ3 H3 X.xe I3 (stat fr3) st3 go) fun r s4 ⟨u, hr, h4⟩ => ?_)
    subst hr
    refine wpAny_passesOwn hp (thn h4 fun _ s5 ⟨x, H5, I5, r5, y5, st5, fr5⟩ => ?_)
    have I5' := I5.pinned (stat fr5) (T.obj _ _ st5)
    refine wpAny_passesOwn hp (thn (hg _ s5 σ3 H5 x u _ I5' r5 (step x H5 y5)) fun _ s6 ⟨σ6, H6, I6, q6⟩ => ?_)
    refine wpAny_passesOwn hp (thn (hb _ s6 σ6 H6 _ I6 q6) fun f s7 q7 => ?_)
    have again : ∀ {σ7 : St} {H7 : Hp}, Inv X (pins ++ pinsAt fp s5.heap) σ7 H7 s7 → N σ7 H7 → ∃ m, m < n ∧ ∃ i σ' H', Inv X pins σ' H' s7 ∧ tn i s7.heap ∧ (∀ b ∈ fp, H' b = none) ∧ W i m σ' H' := fun {σ7 H7} I7 n7 => by
      obtain ⟨m', hm, w7⟩ := hN σ7 H7 n7
      refine ⟨m', hm, i + 1, σ7, H7, I7.unpinned, T.keep _ _ _ st5 fun b hb o e => (I7.pin (b, o) (List.mem_append_right _ (List.mem_append_right _ (mem_pinsAt hb e)))).1, fun b hb => ?_, w7⟩
      obtain ⟨o, e, d⟩ := T.obj _ _ st5 b hb
      exact (I7.pin (b, o) (List.mem_append_right _ (List.mem_append_right _ (mem_pinsAt hb e)))).2.1
    cases f with
    | next => obtain ⟨σ7, H7, I7, n7⟩ := q7; exact again I7 n7
    | cont => obtain ⟨σ7, H7, I7, n7⟩ := q7; exact again I7 n7
    | brk => obtain ⟨σ7, H7, I7, q7⟩ := q7; exact ⟨σ7, H7, I7.unpinned, q7⟩
    | ret v => obtain ⟨x7, σ7, H7, I7, r7, q7⟩ := q7; exact ⟨x7, σ7, H7, I7.unpinned, r7, q7⟩
end
end L2
namespace L2
open PySem PySem.Spec PyProof.Rows
abbrev R2 := V → V → Hp → VK → Prop
def OpR (X : Cx) (f : Value → Value → Sem Value) (r : R2) : Prop :=
  ∀ (pins : List (Addr × Obj)) (s : Shared) (σ : St) (H : Hp) (x y : V) (v u : Value) (Q : VK), Inv X pins σ H s → RelV x v → RelV y u → r x y H Q →
    wpAny (model X.prog X.w) X.A (f v u) (EP X pins σ Q) X.xe s
def CallR (X : Cx) (f : Value) (r : List V → Hp → VK → Prop) : Prop :=
  ∀ (pins : List (Addr × Obj)) (s : Shared) (σ : St) (H : Hp) (xs : List V) (us : List Value) (Q : VK), Inv X pins σ H s → Vals xs us → r xs H Q →
    wpAny (model X.prog X.w) X.A (call f us) (EP X pins σ Q) X.xe s
def tOp (r : R2) (ta tb : TE) : TE := fun σ H Q => ta σ H fun x H1 => tb σ H1 fun y H2 => r x y H2 Q
def rI (C : Int → Int → Prop) (g : Int → Int → V) : R2 := fun x y H Q => ∃ i j, x = .int i ∧ y = .int j ∧ C i j ∧ Q (g i j) H
def rI0 (g : Int → Int → V) : R2 := fun x y H Q => ∃ i j, x = .int i ∧ y = .int j ∧ Q (g i j) H
section
variable {X : Cx} {a b c : Expr} {ta tb tc : TE} {pos : Pos}
theorem binT (ha : PE X a ta) (hb : PE X b tb) {pins : List (Addr × Obj)} {s : Shared} {σ : St} {H : Hp} {R : V → V → Hp → Prop} (I : Inv X pins σ H s)
    (h : ta σ H fun x H1 => tb σ H1 fun y H2 => R x y H2) {Q : Value → Shared → Prop} {f : Value → Value → Sem Value}
    (hf : ∀ v u s2 x y H2, Inv X pins σ H2 s2 → RelV x v → RelV y u → R x y H2 → wpAny (model X.prog X.w) X.A (f v u) Q X.xe s2) :
    wpAny (model X.prog X.w) X.A (eval a X.env) (fun v s₁ => wpAny (model X.prog X.w) X.A (eval b X.env) (fun u s₂ => wpAny (model X.prog X.w) X.A (f v u) Q X.xe s₂) X.xe s₁) X.xe s := by
  refine thn (ha pins s σ H _ I h) fun v s1 ⟨x, H1, I1, r1, q1⟩ => ?_
  refine thn (hb pins s1 σ H1 _ I1 q1) fun u s2 ⟨y, H2, I2, r2, q2⟩ => ?_
  exact hf v u s2 x y H2 I2 r1 r2 q2
theorem pe_op {op : Operator} {r : R2} (ho : OpR X (binaryOp op) r) (ha : PE X a ta) (hb : PE X b tb) : PE X (.BinOp a op b pos) (tOp r ta tb) := by
  intro pins s σ H Q I h
  exact wpAny_BinOp (binT ha hb I h fun v u s2 x y H2 I2 rx ry q => ho pins s2 σ H2 x y v u Q I2 rx ry q)
theorem opI {f : Value → Value → Sem Value} {C : Int → Int → Prop} {g : Int → Int → Int}
    (rule : ∀ (i j : Int) (t u : Tok) (s : Shared) (Q : Value → Shared → Prop) (E : Value → Shared → Prop), C i j → Q (.int (g i j) s.toks) { s with toks := s.toks + 1 } → wpAny (model X.prog X.w) X.A (f (.int i t) (.int j u)) Q E s) :
    OpR X f (rI C fun i j => .int (g i j)) := by
  intro pins s σ H x y v u Q I rx ry h
  obtain ⟨i, j, rfl, rfl, hc, q⟩ := h
  obtain ⟨t, rfl⟩ := rx
  obtain ⟨t', rfl⟩ := ry
  exact rule i j t t' s _ _ hc ⟨.int (g i j), H, I.tok _, ⟨_, rfl⟩, q⟩
theorem opI0 {f : Value → Value → Sem Value} {g : Int → Int → Int}
    (rule : ∀ (i j : Int) (t u : Tok) (s : Shared) (Q : Value → Shared → Prop) (E : Value → Shared → Prop), Q (.int (g i j) s.toks) { s with toks := s.toks + 1 } → wpAny (model X.prog X.w) X.A (f (.int i t) (.int j u)) Q E s) :
    OpR X f (rI0 fun i j => .int (g i j)) := by
  intro pins s σ H x y v u Q I rx ry h
  obtain ⟨i, j, rfl, rfl, q⟩ := h
  obtain ⟨t, rfl⟩ := rx
  obtain ⟨t', rfl⟩ := ry
  exact rule i j t t' s _ _ ⟨.int (g i j), H, I.tok _, ⟨_, rfl⟩, q⟩
theorem opB0 {f : Value → Value → Sem Value} {g : Int → Int → Bool}
    (rule : ∀ (i j : Int) (t u : Tok) (s : Shared) (Q : Value → Shared → Prop) (E : Value → Shared → Prop), Q (.bool (g i j)) s → wpAny (model X.prog X.w) X.A (f (.int i t) (.int j u)) Q E s) :
    OpR X f (rI0 fun i j => .bl (g i j)) := by
  intro pins s σ H x y v u Q I rx ry h
  obtain ⟨i, j, rfl, rfl, q⟩ := h
  obtain ⟨t, rfl⟩ := rx
  obtain ⟨t', rfl⟩ := ry
  exact rule i j t t' s _ _ ⟨.bl (g i j), H, I, rfl, q⟩
def CMul (i j : Int) : Prop := (-(2 ^ 64) < i ∧ i < 2 ^ 64) ∨ (-(2 ^ 64) < j ∧ j < 2 ^ 64)
theorem CMul.ok {i j : Int} (h : CMul i j) : IntMulOk i j := by
  rcases h with ⟨h1, h2⟩ | ⟨h1, h2⟩
  · exact .of_left (intBits_le_64 h1 h2)
  · exact .of_right (intBits_le_64 h1 h2)
theorem op_add : OpR X (binaryOp .Add) (rI0 fun i j => .int (i + j)) := opI0 fun _ _ _ _ _ _ _ q => add_int q
theorem op_sub : OpR X (binaryOp .Sub) (rI0 fun i j => .int (i - j)) := opI0 fun _ _ _ _ _ _ _ q => sub_int q
theorem op_modN : OpR X (binaryOp .Mod) (rI (fun _ j => j ≠ 0) fun i j => .int (i.fmod j)) := opI fun _ _ _ _ _ _ _ hc q => mod_int' hc q
end
def scal : V → V → Bool
  | .non, .non => true | .non, .int _ => true | .int _, .non => true | .non, .bl _ => true | .bl _, .non => true | .non, .str _ => true | .str _, .non => true
  | .int _, .int _ => true | .bl _, .bl _ => true | .str _, .str _ => true | .byt _, .byt _ => true
  | .int _, .str _ => true | .str _, .int _ => true | .bl _, .str _ => true | .str _, .bl _ => true
  | _, _ => false
def rEq : R2 := fun x y H Q => scal x y = true ∧ Q (.bl (decide (x = y))) H
theorem dec_int {i j : Int} : decide (V.int i = V.int j) = (i == j) := by
  rw [Bool.eq_iff_iff]
  simp
theorem dec_bl {i j : Bool} : decide (V.bl i = V.bl j) = (i == j) := by
  rw [Bool.eq_iff_iff]
  simp
theorem dec_str {i j : Str} : decide (V.str i = V.str j) = (i == j) := by
  rw [Bool.eq_iff_iff]
  simp
theorem dec_byt {i j : Array UInt8} : decide (V.byt i = V.byt j) = (i.toList == j.toList) := by
  rw [Bool.eq_iff_iff]
  cases i
  cases j
  simp
section
variable {X : Cx} {a b c : Expr} {ta tb tc : TE} {pos : Pos}
theorem fin_bl {pins : List (Addr × Obj)} {σ : St} {H : Hp} {s : Shared} {Q : VK} {k k' : Bool} (I : Inv X pins σ H s) (q : Q (.bl k) H) (e : k = k') : EP X pins σ Q (.bool k') s := by
  subst e
  exact ⟨.bl k, H, I, rfl, q⟩
theorem op_eq : OpR X (compareOp .Eq) rEq := by
  intro pins s σ H x y v u Q I rx ry h
  obtain ⟨hs, q⟩ := h
  cases x with
  | non =>
    cases rx
    cases y with
    | non => cases ry; exact PySem.EqNone.eq_none_none (fin_bl I q (by simp))
    | bl j => cases ry; exact PySem.EqNone.eq_none_bool (fin_bl I q (by simp))
    | int j => obtain ⟨t', rfl⟩ := ry; exact PySem.EqNone.eq_none_int (fin_bl I q (by simp))
    | str j => obtain ⟨t', rfl⟩ := ry; exact PySem.EqNone.eq_none_str (fin_bl I q (by simp))
    | _ => exact absurd (show false = true from hs) Bool.false_ne_true
  | bl i =>
    cases rx
    cases y with
    | non => cases ry; exact PySem.EqNone.eq_bool_none (fin_bl I q (by simp))
    | bl j => cases ry; exact eq_bool (fin_bl I q dec_bl)
    | str j => obtain ⟨t', rfl⟩ := ry; exact PySem.EqMixed.eq_bool_str (fin_bl I q (by simp))
    | _ => exact absurd (show false = true from hs) Bool.false_ne_true
  | int i =>
    obtain ⟨t, rfl⟩ := rx
    cases y with
    | non => cases ry; exact PySem.EqNone.eq_int_none (fin_bl I q (by simp))
    | int j => obtain ⟨t', rfl⟩ := ry; exact eq_int (fin_bl I q dec_int)
    | str j => obtain ⟨t', rfl⟩ := ry; exact PySem.EqMixed.eq_int_str (fin_bl I q (by simp))
    | _ => exact absurd (show false = true from hs) Bool.false_ne_true
  | str i =>
    obtain ⟨t, rfl⟩ := rx
    cases y with
    | non => cases ry; exact PySem.EqNone.eq_str_none (fin_bl I q (by simp))
    | bl j => cases ry; exact PySem.EqMixed.eq_str_bool (fin_bl I q (by simp))
    | int j => obtain ⟨t', rfl⟩ := ry; exact PySem.EqMixed.eq_str_int (fin_bl I q (by simp))
    | str j => obtain ⟨t', rfl⟩ := ry; exact eq_str (fin_bl I q dec_str)
    | _ => exact absurd (show false = true from hs) Bool.false_ne_true
  | byt i =>
    obtain ⟨t, rfl⟩ := rx
    cases y with
    | byt j => obtain ⟨t', rfl⟩ := ry; exact PySem.W.eq_bytes (fin_bl I q dec_byt)
    | _ => exact absurd (show false = true from hs) Bool.false_ne_true
  | _ => cases y <;> exact absurd (show false = true from hs) Bool.false_ne_true
theorem op_lt : OpR X (compareOp .Lt) (rI0 fun i j => .bl (decide (i < j))) := opB0 fun _ _ _ _ _ _ _ q => lt_int q
theorem op_gt : OpR X (compareOp .Gt) (rI0 fun i j => .bl (decide (j < i))) := opB0 fun _ _ _ _ _ _ _ q => gt_int q
theorem op_notN : OpR X (compareOp .IsNot) (fun x y H Q => y = .non ∧ Q (.bl (!decide (x = .non))) H) := by
  intro pins s σ H x y v u Q I rx ry h
  obtain ⟨rfl, q⟩ := h
  cases ry
  refine isnot_none_gen (fin_bl I q ?_)
  cases x <;> first
    | (cases rx; rfl)
    | (obtain ⟨t, rfl⟩ := rx; rfl)
theorem OpR.or {f : Value → Value → Sem Value} {r r' : R2} (h : OpR X f r) (h' : OpR X f r') : OpR X f (fun x y H Q => r x y H Q ∨ r' x y H Q) := by
  intro pins s σ H x y v u Q I rx ry q
  rcases q with q | q
  · exact h pins s σ H x y v u Q I rx ry q
  · exact h' pins s σ H x y v u Q I rx ry q
theorem nomark (b : Expr) {op : CmpOp} (h : op ≠ .In := by decide) (h2 : op ≠ .NotIn := by decide) : behindInMarks op b = false := by
  have e1 : (op == CmpOp.In) = false := by cases op <;> first | rfl | exact absurd rfl h
  have e2 : (op == CmpOp.NotIn) = false := by cases op <;> first | rfl | exact absurd rfl h2
  cases b <;> simp [behindInMarks, e1, e2]
theorem pe_cmpR {op : CmpOp} {r : R2} (ho : OpR X (compareOp op) r) (ha : PE X a ta) (hb : PE X b tb) (hm : behindInMarks op b = false) : PE X (.Compare a [op] [b] pos) (tOp r ta tb) := by
  intro pins s σ H Q I h
  exact wpAny_Compare1 (binT ha hb I h fun v u s2 x y H2 I2 rx ry q => ho pins s2 σ H2 x y v u Q I2 rx ry q) hm
def tTest (t : TE) : TT := fun σ H Q => t σ H fun x H' => ∃ k, x = .bl k ∧ Q k H'
theorem pt_cmpR {op : CmpOp} {r : R2} (ho : OpR X (compareOp op) r) (ha : PE X a ta) (hb : PE X b tb) (hm : behindInMarks op b = false) : PT X (.Compare a [op] [b] pos) (tTest (tOp r ta tb)) := by
  intro pins s σ H Q I h
  refine wpAny_isTrue_Compare1 (thn (ha pins s σ H _ I h) fun v s1 ⟨x, H1, I1, r1, q1⟩ => thn (hb pins s1 σ H1 _ I1 q1) fun u s2 ⟨y, H2, I2, r2, q2⟩ =>
    thn (ho pins s2 σ H2 x y v u _ I2 r1 r2 q2) fun c s3 ⟨z, H3, I3, r3, k, e, q3⟩ => ?_) hm
  subst e
  cases r3
  exact wpAny_truthy_bool ⟨H3, I3, q3⟩
theorem line63 : (sizeLine : Nat) < 2 ^ 63 := by rw [sizeLine_eq]; decide
theorem op_add_str : OpR X (binaryOp .Add) (fun x y H Q => ∃ i j, x = .str i ∧ y = .str j ∧ i.length + j.length ≤ sizeLine ∧ Q (.str (i ++ j)) H) := by
  intro pins s σ H x y v u Q I rx ry h
  obtain ⟨i, j, rfl, rfl, hz, q⟩ := h
  obtain ⟨t, rfl⟩ := rx
  obtain ⟨t', rfl⟩ := ry
  exact add_str (fun t' tk => ⟨.str (i ++ j), H, I.tok _, ⟨_, rfl⟩, q⟩) hz
theorem vals1 {x : V} {us : List Value} (r : Vals [x] us) : ∃ u, us = [u] ∧ RelV x u := by
  cases r with
  | cons r1 r2 => cases r2; exact ⟨_, rfl, r1⟩
end
end L2
namespace L2
open PySem PySem.Spec PyProof.Rows
structure ObjM (h : Heap) (x dx C : Addr) (mA : Str → Option Value) : Prop where
  obj : h.get? x = some (PySem.W.instObj C dx)
  ns : h.Ns1 dx mA
  ne : dx ≠ x
section
variable {prog : Program} {w : World} {A : Around} {E : Value → Shared → Prop} {s : Shared} {K : PySem.W.Frag} {x dx C f : Addr} {mA : Str → Option Value} {name : Str} {v : Value}
end
section
variable {P : Program} {w : World} {H H' : Hp} {h h' : Heap} {a C dx : Addr} {fs fs' : List (Str × V)}
end
structure Cls (K : PySem.W.Frag) (C : Addr) : Prop where
  pg : PySem.W.plainGet K C Str.empty = true
  hd : PySem.W.hasDictIn K C = true
  po : PySem.W.plainOver K C = true
  sa : PySem.W.findIn K (.ref C) "__setattr__" = some (some (.builtin "object.__setattr__"))
theorem Cls.get {K : PySem.W.Frag} {C : Addr} (c : Cls K C) (f : Str) : PySem.W.plainGet K C f = true := c.pg
structure Con (K : PySem.W.Frag) (C : Addr) (f : Str) (v : V) (u : Value) : Prop where
  at_ : PySem.W.findIn K (.ref C) f = some (some u)
  rel : RelV v u
  get : PySem.W.specialIn K u "__get__" = some none
  cp : PySem.W.copiedNames.contains f = false
structure Meth (K : PySem.W.Frag) (C : Addr) (m : Str) (f : Addr) : Prop where
  at_ : PySem.W.findIn K (.ref C) m = some (some (.ref f))
  fn : PySem.W.isFn K (.ref f) = true
  kp : PySem.W.keepIn K (.ref f) = true
section
variable {X : Cx} {pins : List (Addr × Obj)} {σ : St} {H : Hp} {s : Shared} {a C dx : Addr} {fs : List (Str × V)} {f : Str} {v : V} {A : Around} {E : Value → Shared → Prop}
end
section
variable {X : Cx} {o e value : Expr} {f : Str} {pos pos' tpos : Pos} {ta tv : TE}
end
section
variable {X : Cx} {pins : List (Addr × Obj)} {σ : St} {H : Hp} {s : Shared} {A : Around} {E : Value → Shared → Prop} {Q : Value → Shared → Prop} {c : Value} {b : Bool}
inductive TyOf (K : PySem.W.Frag) (H : Hp) : V → Value → Prop where
  | non : TyOf K H .non (.type "NoneType")
  | bl (x : Bool) : TyOf K H (.bl x) (.type "bool")
  | int (i : Int) : TyOf K H (.int i) (.type "int")
  | str (x : Str) : TyOf K H (.str x) (.type "str")
  | flt (x : UInt64) : TyOf K H (.flt x) (.type "float")
  | lst {a : Addr} {xs : List V} (e : H a = some (.lst xs)) : TyOf K H (.ref a) (.type "list")
  | frz {a : Addr} {o : Obj} {xs : List V} (e : H a = some (.frz o (.lst xs))) : TyOf K H (.ref a) (.type "list")
  | tup {a : Addr} {xs : List V} (e : H a = some (.tup xs)) : TyOf K H (.ref a) (.type "tuple")
  | dK {a : Addr} {kvs : List (Key × V)} (e : H a = some (.dK kvs)) : TyOf K H (.ref a) (.type "dict")
  | dT {a : Addr} {kvs : List (List Key × V)} (e : H a = some (.dT kvs)) : TyOf K H (.ref a) (.type "dict")
  | ins {a C dx : Addr} {fs : List (Str × V)} (e : H a = some (.ins C dx fs)) (cl : Cls K C) (ha : PySem.W.findIn K (.ref C) "__class__" = some (some (.builtin "object.__class__")))
      (hn : PySem.W.specialIn K (.builtin "object.__class__") "__get__" = some (some (.builtin "getset_descriptor.__get__"))) (htk : PySem.W.takesIn K (.builtin "object.__class__") = some true)
      (hm : PySem.W.mroIn K C (.type "object") = some true) : TyOf K H (.ref a) (.ref C)
end
end L2
namespace L2
open PySem PySem.Spec PyProof.Rows
structure Room (k : Nat) (A : Around) : Prop where
  hd : A.handled = none
  dp : A.depth + 3 * k + 5 < recursionLimit
  un : A.units + 16 * k + 200 < cLine
theorem Room.mono {j k : Nat} {A : Around} (r : Room k A) (h : j ≤ k) : Room j A := ⟨r.hd, by have := r.dp; omega, by have := r.un; omega⟩
theorem Room.deeper {k : Nat} {A : Around} (r : Room (k + 1) A) (env : Env) : Room k (A.deeper env) :=
  ⟨r.hd, by have := r.dp; show A.depth + 1 + 3 * k + 5 < _; omega, by have := r.un; show A.units + 3 + 16 * k + 200 < _; omega⟩
theorem Room.depth {k : Nat} {A : Around} (r : Room k A) : A.depth < recursionLimit := by have := r.dp; omega
theorem Room.units {k : Nat} {A : Around} (r : Room k A) : A.units + 64 < cLine := by have := r.un; omega
def tNil : TA := fun _ H Q => Q [] H
def tCons (ta : TE) (tr : TA) : TA := fun σ H Q => ta σ H fun x H1 => tr σ H1 fun xs H2 => Q (x :: xs) H2
section
variable {X : Cx} {e : Expr} {es : List Expr} {te : TE} {t : TA} {pos : Pos}
theorem pa_nil : PA X [] tNil := fun _ _ _ _ H Q I h => Calls.spliced_nil ⟨[], H, I, .nil, h⟩
theorem pa_cons (ha : PE X e te) (hr : PA X es t) (hs : starEach (e :: es) X.env = (false, eval e X.env) :: starEach es X.env := by rfl) : PA X (e :: es) (tCons te t) := by
  intro pos pins s σ H Q I h
  rw [hs]
  show wpAny _ _ (spliced ((false, eval e X.env) :: backTo pos (starEach es X.env))) _ _ s
  refine Calls.spliced_cons (thn (ha pins s σ H _ I h) fun u s1 ⟨x, H1, I1, r1, q1⟩ => ?_)
  exact thn (hr pos pins s1 σ H1 _ I1 q1) fun us s2 ⟨xs, H2, I2, r2, q2⟩ => ⟨x :: xs, H2, I2, .cons r1 r2, q2⟩
end
abbrev Sp := List V → Hp → VK → XK → Prop
abbrev CXT := List Env → Hp → Shared → XK → Value → Shared → Prop
structure Env0 (P : Program) (w : World) (K : PySem.W.Frag) (mg : Str → Option Value) (base : Heap) (A : Around) (outer : List Env) (s : Shared) (H : Hp) : Prop where
  frames : A.frames = some outer
  mod : Mod K mg base
  bs : ∀ b o, base.get? b = some o → s.heap.get? b = some o ∧ H b = none
  bsz : base.objs.size ≤ s.heap.objs.size
  funs : s.heap.FunFrames base outer
  frf : ∀ b ∈ frs outer, H b = none
  hok : HOk P w H s.heap
  bare : AllBare s.gens
def CE (outer : List Env) (P : Program) (w : World) (H : Hp) (s : Shared) (Q : VK) (u : Value) (s' : Shared) : Prop :=
  ∃ v H', s'.os = s.os ∧ AllBare s'.gens ∧ Un (frs outer) [] H H' s.heap s'.heap ∧ HOk P w H' s'.heap ∧ RelV v u ∧ Q v H'
def CR (CX : CXT) (outer : List Env) (P : Program) (w : World) (H : Hp) (s : Shared) (Q : VK) (E : XK) (r : Result) (s' : Shared) : Prop :=
  match r with
  | .ok (.ret u) => CE outer P w H s Q u s'
  | .ok _ => False
  | .error e => CX outer H s E e s'
structure FnOk (P : Program) (w : World) (K : PySem.W.Frag) (mg : Str → Option Value) (base : Heap) (CX : CXT) (k : Nat) (f : Addr) (fd : FuncData) (ps : List Str) (sp : Sp) : Prop where
  len : ∀ vs H Q E, sp vs H Q E → vs.length = ps.length
  run : ∀ (A : Around) (outer : List Env) (s : Shared) (H : Hp) (args : Args) (us : List Value) (vs : List V) (Q : VK) (E : XK), Room k A → Env0 P w K mg base A outer s H → BindsTo s fd args (ps.zip us) → Vals vs us → sp vs H Q E →
    codeAny (model P w) A (.call (.ref f) args) (CR CX outer P w H s Q E) s
theorem FnOk.mono {P : Program} {w : World} {K : PySem.W.Frag} {mg : Str → Option Value} {base : Heap} {CX : CXT} {j k : Nat} {f : Addr} {fd : FuncData} {ps : List Str} {sp : Sp} (F : FnOk P w K mg base CX j f fd ps sp) (h : j ≤ k) :
    FnOk P w K mg base CX k f fd ps sp := ⟨F.len, fun A outer s H args us vs Q E hr => F.run A outer s H args us vs Q E (hr.mono h)⟩
section
variable {X : Cx} {pins : List (Addr × Obj)} {σ : St} {H : Hp} {s s' : Shared}
theorem Inv.env0 (I : Inv X pins σ H s) : Env0 X.prog X.w X.K X.mg X.base X.A X.stack s H :=
  ⟨I.ok.frames, I.ok.mod, I.bs, Nat.le_trans I.ok.bsz I.sz, I.stack, I.stkFree, I.hok, I.bare⟩
theorem Inv.after {Q : VK} {u : Value} (I : Inv X pins σ H s) (h : CE X.stack X.prog X.w H s Q u s') : EP X pins σ Q u s' := by
  obtain ⟨v, H', os, bare, un, hok, r, q⟩ := h
  obtain ⟨hh, g, d, t, os'⟩ := s'
  obtain rfl : os' = s.os := os
  exact ⟨v, H', I.call (h' := hh) (g' := g) (d' := d) (t' := t) (ch := []) un hok bare (fun b z => absurd z (by simp)), r, q⟩
end
def tCall (sp : Sp) (dvs : List V) (E : XK) (t : TA) : TE := fun σ H Q => t σ H fun vs H1 => sp (vs ++ dvs) H1 Q E
def Binds (K : PySem.W.Frag) (fd : FuncData) (ps : List Str) (ds : List Value) : Prop :=
  ∀ (s : Shared) (us : List Value), K.In s.heap → (us ++ ds).length = ps.length → BindsTo s fd ⟨us, []⟩ (ps.zip (us ++ ds))
theorem Binds.all {K : PySem.W.Frag} {fd : FuncData} {ps : List Str} (h : ∀ us : List Value, us.length = ps.length → bindArgs fd ⟨us, []⟩ = pure (ps.zip us)) : Binds K fd ps [] := fun s us _ hl => by
  rw [List.append_nil] at hl ⊢
  exact .of_eq (h us hl)
def Passes (CX : CXT) (X : Cx) (E : XK) : Prop := ∀ (pins : List (Addr × Obj)) (σ : St) (H : Hp) (s : Shared) (e : Value) (s' : Shared), Inv X pins σ H s → CX X.stack H s E e s' → X.xe e s'
section
variable {X : Cx} {CX : CXT} {k : Nat} {f C : Addr} {fd : FuncData} {ps : List Str} {sp : Sp} {dvs : List V} {ds : List Value} {E : XK} {x m : Str} {p pos apos : Pos} {e o : Expr} {es : List Expr} {ta : TE} {t : TA}
theorem run_fn {pins : List (Addr × Obj)} {σ : St} {H : Hp} {s : Shared} {Q : VK} {us : List Value} {vs : List V} (F : FnOk X.prog X.w X.K X.mg X.base CX k f fd ps sp) (hr : Room k X.A) (hb : Binds X.K fd ps ds) (hd : Vals dvs ds) (hx : Passes CX X E)
    (I : Inv X pins σ H s) (r : Vals vs us) (h : sp (vs ++ dvs) H Q E) : wpAny (model X.prog X.w) X.A (call (.ref f) us) (EP X pins σ Q) X.xe s := by
  have r2 : Vals (vs ++ dvs) (us ++ ds) := r.append hd
  have hl : (us ++ ds).length = ps.length := by rw [← r2.length]; exact F.len _ _ _ _ h
  refine wpAny_call (codeAny_mono (F.run X.A X.stack s H ⟨us, []⟩ (us ++ ds) (vs ++ dvs) Q E hr I.env0 (hb s us I.kIn hl) r2 h) fun r s' hq => ?_)
  cases r with
  | error e => exact hx pins σ H s e s' I hq
  | ok fl =>
    cases fl with
    | ret u => exact I.after hq
    | next => exact False.elim hq
    | brk => exact False.elim hq
    | cont => exact False.elim hq
theorem pe_call (F : FnOk X.prog X.w X.K X.mg X.base CX k f fd ps sp) (hr : Room k X.A) (hg : Gl X x) (hm : X.mg x = some (.ref f)) (hk : PySem.W.keepIn X.K (.ref f) = true) (hb : Binds X.K fd ps ds) (hd : Vals dvs ds) (hx : Passes CX X E)
    (ha : PA X (e :: es) t) (hdb : (x == ("__debug__" : Str)) = false := by decide) (he : starEach (e :: es) X.env = (false, eval e X.env) :: starEach es X.env := by rfl) (hpl : (backTo pos (starEach es X.env)).any (·.1) = false := by rfl) :
    PE X (.Call (.Name x p) (e :: es) [] pos) (tCall sp dvs E t) := by
  intro pins s σ H Q I h
  refine wpAny_Call_Name_kw (ld_glob I hg hm ?_ hdb)
  refine PySem.W.callWith_K (h₀ := X.base) I.ok.mod.kin hk (thn (ha pos pins s σ H _ I h) fun us s1 ⟨vs, H1, I1, r, q⟩ => ⟨I1.kIn, ?_⟩) he hpl
  exact run_fn F hr hb hd hx I1 r q
structure Mk (K : PySem.W.Frag) (C f : Addr) : Prop where
  makes : PySem.W.makesIn K C = true
  init : PySem.W.findIn K (.ref C) "__init__" = some (some (.ref f))
  fn : PySem.W.isFn K (.ref f) = true
  kp : PySem.W.keepIn K (.ref C) = true
end
section
variable {X : Cx} {CX : CXT} {k : Nat} {f C : Addr} {fd : FuncData} {ps ks : List Str} {sp : Sp} {E : XK} {x m : Str} {p pos apos kpos : Pos} {e o : Expr} {es : List Expr} {kws : List Keyword} {te ta : TE} {t tk : TA} {nm : Option Str}
structure KBinds (K : PySem.W.Frag) (fd : FuncData) (ps ks : List Str) (g : List Value → List Value → List Value) (gV : List V → List V → List V) : Prop where
  to : ∀ (s : Shared) (us ws : List Value), K.In s.heap → (g us ws).length = ps.length → BindsTo s fd ⟨us, ks.zip ws⟩ (ps.zip (g us ws))
  rel : ∀ {vs : List V} {us : List Value} {zs : List V} {ws : List Value}, Vals vs us → Vals zs ws → Vals (gV vs zs) (g us ws)
variable {g : List Value → List Value → List Value} {gV : List V → List V → List V}
end
structure FnScope (N P : List Str) (sc : Scope) : Prop where
  kind : sc.kind = .function
  co : sc.isCoroutine = false
  gen : sc.isGenerator = false
  nd : N.Nodup
  pre : N.take P.length = P
  par : ∀ x ∈ P, sc.names.lookup x = some .local ∨ sc.names.lookup x = some .cell
  nofree : ∀ y ∈ sc.names, y.2 ≠ .free
theorem bindL_out {kindOf : Str → Option NameKind} {x : Str} : ∀ {binds : List (Str × Value)} {m : Str → Option Value}, (∀ v, (x, v) ∉ binds) → bindL kindOf binds m x = m x
  | [], _, _ => rfl
  | (n, v) :: r, m, h => by
    unfold bindL
    rw [bindL_out fun w hw => h w (List.mem_cons_of_mem _ hw)]
    split
    · have : x ≠ n := by rintro rfl; exact h v List.mem_cons_self
      simp [this]
    · rfl
theorem bindC_out {kindOf : Str → Option NameKind} {x : Str} : ∀ {binds : List (Str × Value)} {m : Str → Option Value}, (∀ v, (x, v) ∉ binds) → bindC kindOf binds m x = m x
  | [], _, _ => rfl
  | (n, v) :: r, m, h => by
    unfold bindC
    rw [bindC_out fun w hw => h w (List.mem_cons_of_mem _ hw)]
    split
    · rfl
    · have : x ≠ n := by rintro rfl; exact h v List.mem_cons_self
      simp [this]
theorem bindL_get {kindOf : Str → Option NameKind} {x : Str} {v : Value} : ∀ {P : List Str} {vs : List Value} {i : Nat} {m : Str → Option Value}, P.Nodup → P[i]? = some x → vs[i]? = some v → kindOf x = some .local →
    bindL kindOf (P.zip vs) m x = some v
  | [], _, _, _, _, h, _, _ => by simp at h
  | _ :: _, [], _, _, _, _, h, _ => by simp at h
  | p :: P, w :: vs, 0, m, nd, h1, h2, hk => by
    simp at h1 h2; subst h1; subst h2
    show bindL kindOf ((p, w) :: P.zip vs) m p = _
    unfold bindL
    rw [bindL_out fun v hv => (List.nodup_cons.mp nd).1 (List.of_mem_zip hv).1, if_pos hk]
    simp
  | p :: P, w :: vs, i + 1, m, nd, h1, h2, hk => by
    show bindL kindOf ((p, w) :: P.zip vs) m x = _
    unfold bindL
    exact bindL_get (i := i) (List.nodup_cons.mp nd).2 (by simpa using h1) (by simpa using h2) hk
theorem bindC_get {kindOf : Str → Option NameKind} {x : Str} {v : Value} : ∀ {P : List Str} {vs : List Value} {i : Nat} {m : Str → Option Value}, P.Nodup → P[i]? = some x → vs[i]? = some v → kindOf x ≠ some .local →
    bindC kindOf (P.zip vs) m x = some v
  | [], _, _, _, _, h, _, _ => by simp at h
  | _ :: _, [], _, _, _, _, h, _ => by simp at h
  | p :: P, w :: vs, 0, m, nd, h1, h2, hk => by
    simp at h1 h2; subst h1; subst h2
    show bindC kindOf ((p, w) :: P.zip vs) m p = _
    unfold bindC
    rw [bindC_out fun v hv => (List.nodup_cons.mp nd).1 (List.of_mem_zip hv).1, if_neg hk]
    simp
  | p :: P, w :: vs, i + 1, m, nd, h1, h2, hk => by
    show bindC kindOf ((p, w) :: P.zip vs) m x = _
    unfold bindC
    exact bindC_get (i := i) (List.nodup_cons.mp nd).2 (by simpa using h1) (by simpa using h2) hk
def start (N : List Str) (vs : List V) : St := vs.map some ++ List.replicate (N.length - vs.length) none
def cxOf (CX : CXT) (P : Program) (w : World) (K : PySem.W.Frag) (mg : Str → Option Value) (base : Heap) (N : List Str) (qual : Str) (scope : Scope) (f : Addr) (cd : Value) (A : Around) (outer : List Env) (s : Shared) (H : Hp) (E : XK) : Cx where
  prog := P
  w := w
  K := K
  mg := mg
  base := base
  A := A.deeper (envOfC qual scope s.heap.objs.size f cd)
  N := N
  s₀ := s
  H₀ := H
  env := envOfC qual scope s.heap.objs.size f cd
  outer := outer
  stack := envOfC qual scope s.heap.objs.size f cd :: outer
  ex := []
  calm := true
  fn := fun _ => true
  pn := []
  xe := fun e s' => wpAny (model P w) (A.deeper (envOfC qual scope s.heap.objs.size f cd)) (leaving (envOfC qual scope s.heap.objs.size f cd) e) (fun _ s'' => CX outer H s E e s'') (fun e' s'' => CX outer H s E e' s'') s'
theorem cell_has {sc : Scope} {n : Nat} {x : Str} (h : sc.names.lookup x = some .cell) : ∃ c, (cellsFrom n sc.names []).lookup x = some c := by
  have q := PySem.W.cellsFrom_some sc.names n [] (.inl h)
  exact Option.isSome_iff_exists.mp q
theorem inv_start {CX : CXT} {P : Program} {w : World} {K : PySem.W.Frag} {mg : Str → Option Value} {base : Heap} {N ps : List Str} {qual : Str} {scope : Scope} {f : Addr} {cd : Value} {A : Around} {outer : List Env} {s s1 : Shared} {H : Hp} {E : XK} {us : List Value} {vs : List V}
    (S : FnScope N ps scope) (hd : A.handled = none) (e0 : Env0 P w K mg base A outer s H) (hl : vs.length = ps.length) (r : Vals vs us)
    (x : InCallC s s.heap.objs.size (bindL (envOfC qual scope s.heap.objs.size f cd).kindOf (ps.zip us) fun _ => none) (cellsFrom (s.heap.objs.size + 1) scope.names []) (bindC (envOfC qual scope s.heap.objs.size f cd).kindOf (ps.zip us) fun _ => none) s1) :
    Inv (cxOf CX P w K mg base N qual scope f cd A outer s H E) [] (start N vs) H s1 := by
  have hpl : ps.length ≤ N.length := by have := congrArg List.length S.pre; rw [List.length_take] at this; omega
  obtain ⟨h1, tk, rfl, hk⟩ := x.done
  have noA : ∀ b : Addr, b ∉ (cxOf CX P w K mg base N qual scope f cd A outer s H E).ex := fun b z => absurd (show b ∈ ([] : List Addr) from z) (by simp)
  refine ⟨⟨e0.mod, S.kind, rfl, rfl, Nat.le_refl _, fun y z c h1 h2 => ?_, fun y hy => ?_, fun y c _ h => ?_, fun _ => hd, Around.frames_deeper e0.frames, .inr ⟨rfl, rfl⟩, fun b z => absurd z (noA b), e0.bs, e0.bsz, fun b _ _ => noA b, fun b z => absurd z (noA b), e0.funs, e0.frf⟩,
    rfl, e0.bare, Un.kept hk, ⟨_, x.toInCall.ns, fun i y v h1 h2 h3 => ?_⟩, fun y c h => ⟨_, x.cell y c h⟩, e0.hok.fresh (Nat.le_refl _), fun y c h => ?_, fun p hp => absurd (show p ∈ ([] : List (Addr × Obj)) from hp) (by simp), e0.hok.kept hk, ?_⟩
  · exact name_of_addr x.apart (PySem.mem_of_lookup h1) (PySem.mem_of_lookup h2)
  · have hy : scope.names.lookup y = some .cell ∨ scope.names.lookup y = some .free := hy
    rcases hy with hy | hy
    · exact cell_has hy
    · exact absurd rfl (S.nofree _ (PySem.mem_of_lookup hy))
  · exact Nat.le_of_lt (x.above y c (PySem.mem_of_lookup h))
  · have hi : i < vs.length := by
      unfold start at h2
      by_cases hi : i < vs.length
      · exact hi
      · rw [List.getElem?_append_right (by simpa using hi)] at h2
        rw [List.getElem?_replicate] at h2
        split at h2 <;> cases h2
    have ha : vs[i]? = some v := by
      unfold start at h2
      rw [List.getElem?_append_left (by simpa using hi), List.getElem?_map] at h2
      cases e : vs[i]? with
      | none => rw [e] at h2; cases h2
      | some a => rw [e] at h2; cases h2; rfl
    obtain ⟨u, hu, rv⟩ := r.get ha
    have hp : ps[i]? = some y := by
      rw [← S.pre, List.getElem?_take_of_lt (by omega)]; exact h1
    have ndP : ps.Nodup := by rw [← S.pre]; exact S.nd.sublist (List.take_sublist _ _)
    refine ⟨u, rv, ?_⟩
    rcases S.par y (List.mem_of_getElem? hp) with k | k
    · exact .inl ⟨k, bindL_get ndP hp hu k⟩
    · obtain ⟨c, e⟩ := cell_has (n := s.heap.objs.size + 1) k
      refine .inr ⟨.inl k, c, e, ?_⟩
      have q := x.cell y c e
      rw [bindC_get ndP hp hu (by show scope.names.lookup y ≠ _; rw [k]; decide)] at q
      exact q
  · exact e0.hok.fresh (Nat.le_of_lt (x.above y c (PySem.mem_of_lookup h)))
  · unfold start
    show _ = N.length
    rw [List.length_append, List.length_map, List.length_replicate]
    omega
theorem fn_of {CX : CXT} {P : Program} {w : World} {K : PySem.W.Frag} {mg : Str → Option Value} {base : Heap} {k : Nat} {f : Addr} {name qual : Str} {params : Arguments} {body : List Stmt} {scope : Scope} {dV kV doc pm cdv ct oc : Value} {an od : Option Addr}
    {osl : Array (Option Value)} {N ps : List Str} {sp : Sp} (lk : K.lookup f = some ⟨oc, od, .func (PySem.W.fnOf name qual params body scope dV kV doc pm an cdv ct), osl⟩) (hcd : PySem.W.codeIn K cdv qual = true) (S : FnScope N ps scope)
    (len : ∀ vs H Q E, sp vs H Q E → vs.length = ps.length)
    (hbody : ∀ (A : Around) (outer : List Env) (s : Shared) (H : Hp) (vs : List V) (Q : VK) (E : XK), Room k (A.deeper (envOfC qual scope s.heap.objs.size f cdv)) → sp vs H Q E →
      ∃ t, PSs (cxOf CX P w K mg base N qual scope f cdv A outer s H E) body t ∧ t { nx := fun _ H' => Q .non H', rt := Q } (start N vs) H) :
    FnOk P w K mg base CX (k + 1) f (PySem.W.fnOf name qual params body scope dV kV doc pm an cdv ct) ps sp := by
  refine ⟨len, fun A outer s H args us vs Q E hr e0 hb r hsp => ?_⟩
  have hl := len _ _ _ _ hsp
  have KX : K.In s.heap := e0.mod.kin.keeps fun b o e => (e0.bs b o e).1
  have lim : s.heap.NoLimit := e0.mod.nolimit.keeps fun b o e => (e0.bs b o e).1
  have hkind : ∀ y ∈ ps.zip us, scope.names.lookup y.1 = some .local ∨ (scope.names.lookup y.1 = some .cell ∧ ((cellsFrom (s.heap.objs.size + 1) scope.names []).lookup y.1).isSome = true) := fun ⟨n, v⟩ hy => by
    rcases S.par n (List.of_mem_zip hy).1 with q | q
    · exact .inl q
    · exact .inr ⟨q, PySem.W.cellsFrom_some _ _ _ (.inl q)⟩
  refine codeAny_call_function hr.depth (KX _ _ lk) rfl S.co S.gen rfl (PySem.W.codeRec_of KX hcd) (hb _ _ _ _ ?_)
  refine wpAny_newFunctionEnv_cells S.kind hkind fun env he s1 x => ?_
  subst he
  refine ⟨lim.keeps x.toInCall.keep, codeAny_func ?_⟩
  obtain ⟨t, ht, hq⟩ := hbody A outer s H vs Q E (hr.deeper _) hsp
  have I : Inv (cxOf CX P w K mg base N qual scope f cdv A outer s H E) [] (start N vs) H s1 := inv_start S hr.hd e0 hl r x
  refine wpAny_mono (ht [] s1 (start N vs) H _ I hq) (fun fl s' hs => ?_) fun e s' hs => hs
  have fin : ∀ {σ' : St} {H' : Hp} {v : V} {u : Value}, Inv (cxOf CX P w K mg base N qual scope f cdv A outer s H E) [] σ' H' s' → RelV v u → Q v H' → CE outer P w H s Q u s' :=
    fun {σ' H' v u} J rv q => ⟨v, H', J.os, J.bare, J.base, J.hok, rv, q⟩
  cases fl with
  | ret u =>
    obtain ⟨v, σ', H', J, rv, q⟩ := hs
    exact fin J rv q
  | next =>
    obtain ⟨σ', H', J, q⟩ := hs
    exact fin (v := V.non) (u := Value.none) J rfl q
  | brk =>
    obtain ⟨_, _, _, q⟩ := hs
    exact False.elim q
  | cont =>
    obtain ⟨_, _, _, q⟩ := hs
    exact False.elim q
end L2
namespace L2
open PySem PySem.Spec PyProof.Rows
section
variable {X : Cx} {x : Str} {p pos : Pos} {e : Expr} {es : List Expr} {t : TA} {id T : String} {r : List V → Hp → VK → Prop}
def tCB (r : List V → Hp → VK → Prop) (t : TA) : TE := fun σ H Q => t σ H fun vs H1 => r vs H1 Q
theorem pe_callB (hc : CallR X (.builtin id) r) (hg : Gl X x) (hm : X.mg x = none) (hv : bootBuiltins x = some (.builtin id)) (ha : PA X (e :: es) t) (hn : x ≠ "__name__" := by decide) (hdb : (x == ("__debug__" : Str)) = false := by decide)
    (he : starEach (e :: es) X.env = (false, eval e X.env) :: starEach es X.env := by rfl) (hpl : (backTo pos (starEach es X.env)).any (·.1) = false := by rfl) : PE X (.Call (.Name x p) (e :: es) [] pos) (tCB r t) := by
  intro pins s σ H Q I h
  refine wpAny_Call_Name_kw (ld_blt I hg hm hv ?_ hn hdb)
  exact PyProof.Rows.callWith_builtin1 (thn (ha pos pins s σ H _ I h) fun us s1 ⟨vs, H1, I1, r1, q1⟩ => hc pins s1 σ H1 vs us Q I1 r1 q1) he hpl
theorem pe_callTy (hc : CallR X (.type T) r) (hg : Gl X x) (hm : X.mg x = none) (hv : bootBuiltins x = some (.type T)) (ha : PA X (e :: es) t) (hn : x ≠ "__name__" := by decide) (hdb : (x == ("__debug__" : Str)) = false := by decide)
    (he : starEach (e :: es) X.env = (false, eval e X.env) :: starEach es X.env := by rfl) (hpl : (backTo pos (starEach es X.env)).any (·.1) = false := by rfl) : PE X (.Call (.Name x p) (e :: es) [] pos) (tCB r t) := by
  intro pins s σ H Q I h
  refine wpAny_Call_Name_kw (ld_blt I hg hm hv ?_ hn hdb)
  exact PyProof.Rows.callWith_type1 (thn (ha pos pins s σ H _ I h) fun us s1 ⟨vs, H1, I1, r1, q1⟩ => hc pins s1 σ H1 vs us Q I1 r1 q1) he hpl
end
end L2
namespace HT
open PySem PyProof.Rows
section
open PySem.SeqAt
open PySem.AutoSeq1 (wpAny_loadPart')
open PySem.MeetsSeq PySem.MeetsSeq2 PySem.MeetsSeq3
end
section
variable {prog : Program} {w : World} {A : Around} {E : Value → Shared → Prop} {s : Shared}
theorem cat_tup {t b : Addr} {vs ws : List Value} {Q : Value → Shared → Prop} (ht : IsTup s.heap t vs.toArray) (hb : IsTup s.heap b ws.toArray) (hv : vs ≠ [])
    (h1 : ws = [] → Q (.ref t) s) (h2 : ws ≠ [] → Q (.ref s.heap.objs.size) { s with heap := s.heap.push { cls := .type "tuple", data := .seq (vs ++ ws).toArray } })
    (hsz : vs.length + ws.length ≤ sizeLine) : wpAny (model prog w) A (binaryOp .Add (.ref t) (.ref b)) Q E s := by
  obtain ⟨⟨cls, dd, data, sl⟩, ho, hc, n, hd⟩ := id ht
  obtain ⟨⟨cls2, dd2, data2, sl2⟩, ho2, hc2, n2, hd2⟩ := id hb
  simp only at hc hd hc2 hd2
  subst hc hd hc2 hd2
  have e : vs.toArray ++ ws.toArray = (vs ++ ws).toArray := by simp
  by_cases hw : ws = []
  · exact concat_meets ⟨_, ho, rfl⟩ ⟨_, ho2, rfl⟩ noFill_tuple_add seq_tuple_add PySem.F.slot_tuple_add PySem.F.entry_tuple_add (PySem.F.args_tuple_add_2 _ _)
      (tuple_addW1 t b vs.toArray ws.toArray n n2 dd dd2 sl sl2 (by simpa using hv) (by simp [hw])) ⟨ho, ho2, h1 hw⟩
  · refine concat_meets ⟨_, ho, rfl⟩ ⟨_, ho2, rfl⟩ noFill_tuple_add seq_tuple_add PySem.F.slot_tuple_add PySem.F.entry_tuple_add (PySem.F.args_tuple_add_2 _ _)
      (tuple_addW2 t b vs.toArray ws.toArray n n2 dd dd2 sl sl2 (by simpa using hv) (by simpa using hw) (by rw [List.size_toArray, List.size_toArray]; exact hsz)) ⟨ho, ho2, ?_⟩
    rw [e]
    exact h2 hw
def sIx (n d : Nat) : Option Int → Nat
  | none => d
  | some v => if v < 0 then (v + (n : Int)).toNat else min v.toNat n
theorem sIx_none (n d : Nat) : sIx n d none = d := rfl
theorem sIx_nat (n d k : Nat) : sIx n d (some (k : Int)) = min k n := by
  show (if (k : Int) < 0 then ((k : Int) + (n : Int)).toNat else min (k : Int).toNat n) = min k n
  rw [if_neg (by omega), Int.toNat_natCast]
end
end HT
namespace L2
open PySem PySem.Spec PyProof.Rows
abbrev TO := St → Hp → (Option Int → Hp → Prop) → Prop
def PO (X : Cx) (e : Option Expr) (t : TO) : Prop :=
  ∀ (pins : List (Addr × Obj)) (s : Shared) (σ : St) (H : Hp) (Q : Option Int → Hp → Prop), Inv X pins σ H s → t σ H Q →
    wpAny (model X.prog X.w) X.A (evalPart e X.env) (fun u s' => ∃ o H', Inv X pins σ H' s' ∧ IsPart u o ∧ Q o H') X.xe s
def tNoPart : TO := fun _ H Q => Q none H
def tPart (t : TE) : TO := fun σ H Q => t σ H fun x H1 => ∃ i, x = .int i ∧ Q (some i) H1
section
variable {X : Cx} {e : Expr} {te : TE} {lo hi : Option Expr} {tl th : TO} {pos p2 : Pos}
theorem po_none : PO X none tNoPart := by
  intro pins s σ H Q I h
  rw [evalPart_none]
  exact wpAny_pure ⟨none, H, I, .none, h⟩
theorem po_some (h : PE X e te) : PO X (some e) (tPart te) := by
  intro pins s σ H Q I hw
  rw [evalPart_some]
  refine thn (h pins s σ H _ I hw) fun u s1 ⟨x, H1, I1, r1, q1⟩ => ?_
  obtain ⟨i, rfl, q⟩ := q1
  obtain ⟨t, rfl⟩ := r1
  exact ⟨some i, H1, I1, .int i t, q⟩
def SlR (X : Cx) (r : V → Option Int → Option Int → Hp → VK → Prop) : Prop :=
  ∀ (pins : List (Addr × Obj)) (s : Shared) (σ : St) (H : Hp) (x : V) (v vl vu : Value) (lo hi : Option Int) (sl : Addr) (Q : VK), Inv X pins σ H s → RelV x v → s.heap.IsSliceOf sl vl vu .none → IsPart vl lo → IsPart vu hi → r x lo hi H Q →
    ∃ T id, typeLookup (.type T) "__getitem__" = pure (some (.builtin id)) ∧ s.TypeIs v T ∧ wpAny (model X.prog X.w) X.A (getItem v (.ref sl)) (EP X pins σ Q) X.xe s
theorem SlR.or {r r' : V → Option Int → Option Int → Hp → VK → Prop} (h : SlR X r) (h' : SlR X r') : SlR X (fun x lo hi H Q => r x lo hi H Q ∨ r' x lo hi H Q) := by
  intro pins s σ H x v vl vu lo hi sl Q I rx hs pl pu q
  rcases q with q | q
  · exact h pins s σ H x v vl vu lo hi sl Q I rx hs pl pu q
  · exact h' pins s σ H x v vl vu lo hi sl Q I rx hs pl pu q
def tSl (r : V → Option Int → Option Int → Hp → VK → Prop) (te : TE) (tl th : TO) : TE := fun σ H Q => te σ H fun x H1 => tl σ H1 fun l H2 => th σ H2 fun u H3 => r x l u H3 Q
theorem pe_slice {r : V → Option Int → Option Int → Hp → VK → Prop} (hr : SlR X r) (he : PE X e te) (hl : PO X lo tl) (hu : PO X hi th) : PE X (.Subscript e (.Slice lo hi none p2) pos) (tSl r te tl th) := by
  intro pins s σ H Q I h
  refine Subscript_ (thn (he pins s σ H _ I h) fun v s1 ⟨x, H1, I1, r1, q1⟩ => ?_)
  refine wpAny_Slice (thn (hl pins s1 σ H1 _ I1 q1) fun vl s2 ⟨l, H2, I2, pl, q2⟩ => thn (hu pins s2 σ H2 _ I2 q2) fun vu s3 ⟨u, H3, I3, pu, q3⟩ => ?_)
  rw [evalPart_none]
  refine wpAny_pure ?_
  have I4 : Inv X pins σ H3 { s3 with heap := s3.heap.push { cls := .type "slice", data := .fields #[vl, vu, .none] } } := I3.kept (t' := s3.toks) fun b ob q => Heap.get?_push_of_some _ q
  obtain ⟨T, id, hT, ht, hg⟩ := hr pins { s3 with heap := s3.heap.push { cls := .type "slice", data := .fields #[vl, vu, .none] } } σ H3 x v vl vu l u s3.heap.objs.size Q I4 r1 (Heap.IsSliceOf.new ..) pl pu q3
  show wpAny (model X.prog X.w) X.A (subscriptTail e (.Slice lo hi none p2) v (.ref s3.heap.objs.size)) (EP X pins σ Q) X.xe { s3 with heap := s3.heap.push { cls := .type "slice", data := .fields #[vl, vu, .none] } }
  exact tail_any (ops := [.ref s3.heap.objs.size, v]) ht hT hg (by with_unfolding_all rfl)
def cutV (xs : List V) (lo hi : Option Int) : List V := (xs.drop (HT.sIx xs.length 0 lo)).take (HT.sIx xs.length xs.length hi - HT.sIx xs.length 0 lo)
theorem cutV_length (xs : List V) (lo hi : Option Int) : (cutV xs lo hi).length ≤ xs.length := by
  unfold cutV
  rw [List.length_take, List.length_drop]
  omega
def rCatT (K : PySem.W.Frag) : R2 := fun x y H Q => ∃ a b xs ys, x = .ref a ∧ y = .ref b ∧ SqT K H a xs ∧ SqT K H b ys ∧ xs ≠ [] ∧ xs.length + ys.length ≤ sizeLine ∧
  (ys = [] → Q (.ref a) H) ∧ (ys ≠ [] → ∀ p, H p = none → Q (.ref p) (upd H p (.tup (xs ++ ys))))
theorem Vals.nil_iff {xs : List V} {us : List Value} (r : Vals xs us) : us = [] ↔ xs = [] := by
  cases r with
  | nil => simp
  | cons _ _ => simp
theorem op_catT : OpR X (binaryOp .Add) (rCatT X.K) := by
  intro pins s σ H x y v u Q I rx ry h
  obtain ⟨a, b, xs, ys, rfl, rfl, ha, hb, hx, hz, q1, q2⟩ := h
  cases rx
  cases ry
  obtain ⟨its, r1, p1, _⟩ := I.tuple ha
  obtain ⟨its2, r2, p2, _⟩ := I.tuple hb
  refine HT.cat_tup p1 p2 (fun z => hx (r1.nil_iff.mp z)) (fun z => ⟨.ref a, H, I, rfl, q1 (r2.nil_iff.mp z)⟩) (fun z => ?_) (by rw [← r1.length, ← r2.length]; exact hz)
  refine ⟨.ref s.heap.objs.size, _, I.laid (t' := s.toks) (o := .tup (xs ++ ys)) (fun b ob q => Heap.get?_push_of_some _ q) (Nat.le_refl _) ?_, rfl, q2 (fun w => z (r2.nil_iff.mpr w)) _ (I.hok.fresh (Nat.le_refl _))⟩
  exact ⟨by rw [List.length_append]; exact hz, _, r1.append r2, IsTup.new _ _⟩
end
end L2
namespace L2
open PySem PySem.Spec PyProof.Rows
def ixN (n : Nat) (i : Int) : Option Nat := if 0 ≤ i then (if i < n then some i.toNat else none) else if -(n : Int) ≤ i then some (i + n).toNat else none
def atI {α : Type} (xs : List α) (i : Int) : Option α := (ixN xs.length i).bind fun j => xs[j]?
theorem ixN_seq {n : Nat} {i : Int} {j : Nat} (h : ixN n i = some j) : seqIndex? i n = some j ∧ j < n ∧ -(n : Int) ≤ i ∧ i < n := by
  unfold ixN at h
  by_cases h0 : 0 ≤ i
  · rw [if_pos h0] at h
    by_cases h1 : i < n
    · rw [if_pos h1] at h
      have e : i.toNat = j := Option.some.inj h
      exact ⟨by rw [seqIndex_of h0 h1, e], by omega, by omega, h1⟩
    · rw [if_neg h1] at h; cases h
  · rw [if_neg h0] at h
    by_cases h1 : -(n : Int) ≤ i
    · rw [if_pos h1] at h
      have e : (i + n).toNat = j := Option.some.inj h
      exact ⟨by rw [seqIndex_neg (by omega) h1, e], by omega, h1, by omega⟩
    · rw [if_neg h1] at h; cases h
theorem atI_get {α : Type} {xs : List α} {i : Int} {v : α} (h : atI xs i = some v) : ∃ j, seqIndex? i xs.length = some j ∧ xs[j]? = some v ∧ j < xs.length ∧ -(xs.length : Int) ≤ i ∧ i < xs.length := by
  unfold atI at h
  cases e : ixN xs.length i with
  | none => rw [e] at h; cases h
  | some j =>
    rw [e] at h
    obtain ⟨h1, h2, h3, h4⟩ := ixN_seq e
    exact ⟨j, h1, h, h2, h3, h4⟩
def PlainIx (b : Expr) : Prop := ∀ o i, subscripted b false o i = operate [o, i] (getItem o i)
def IxR (X : Cx) (r : R2) : Prop :=
  ∀ (value slice : Expr) (pins : List (Addr × Obj)) (s : Shared) (σ : St) (H : Hp) (x y : V) (v u : Value) (Q : VK), Inv X pins σ H s → RelV x v → RelV y u → r x y H Q →
    subscripted slice false v u = operate [v, u] (getItem v u) → wpAny (model X.prog X.w) X.A (subscriptTail value slice v u) (EP X pins σ Q) X.xe s
def MtR (X : Cx) (id : String) (r : V → List V → Hp → VK → Prop) : Prop :=
  ∀ (pins : List (Addr × Obj)) (s : Shared) (σ : St) (H : Hp) (x : V) (xs : List V) (v : Value) (us : List Value) (Q : VK), Inv X pins σ H s → RelV x v → Vals xs us → r x xs H Q →
    wpAny (model X.prog X.w) X.A (call (.builtin id) (v :: us)) (EP X pins σ Q) X.xe s
section
variable {X : Cx} {a b : Expr} {ta tb : TE} {pos : Pos}
theorem IxR.or {r r' : R2} (h : IxR X r) (h' : IxR X r') : IxR X (fun x y H Q => r x y H Q ∨ r' x y H Q) := by
  intro value slice pins s σ H x y v u Q I rx ry q hs
  rcases q with q | q
  · exact h value slice pins s σ H x y v u Q I rx ry q hs
  · exact h' value slice pins s σ H x y v u Q I rx ry q hs
theorem MtR.or {id : String} {r r' : V → List V → Hp → VK → Prop} (h : MtR X id r) (h' : MtR X id r') : MtR X id (fun x xs H Q => r x xs H Q ∨ r' x xs H Q) := by
  intro pins s σ H x xs v us Q I rx rs q
  rcases q with q | q
  · exact h pins s σ H x xs v us Q I rx rs q
  · exact h' pins s σ H x xs v us Q I rx rs q
theorem pe_ix {r : R2} (hr : IxR X r) (ha : PE X a ta) (hb : PE X b tb) (hs : PlainIx b) : PE X (.Subscript a b pos) (tOp r ta tb) := by
  intro pins s σ H Q I h
  exact Subscript_ (binT ha hb I h fun v u s2 x y H2 I2 rx ry q => hr a b pins s2 σ H2 x y v u Q I2 rx ry q (hs _ _))
def rIxL (K : PySem.W.Frag) : R2 := fun x y H Q => ∃ p xs i v, x = .ref p ∧ y = .int i ∧ SqL K H p xs ∧ atI xs i = some v ∧ Q v H
def rIxT (K : PySem.W.Frag) : R2 := fun x y H Q => ∃ p xs i v, x = .ref p ∧ y = .int i ∧ SqT K H p xs ∧ atI xs i = some v ∧ Q v H
def rIxS : R2 := fun x y H Q => ∃ z i c, x = .str z ∧ y = .int i ∧ z.length ≤ sizeLine ∧ atI z.cps.toList i = some c ∧ Q (.str ⟨#[c]⟩) H
theorem ix_list : IxR X (rIxL X.K) := by
  intro value slice pins s σ H x y v u Q I rx ry h hs
  obtain ⟨p, xs, i, z, rfl, rfl, hq, he, q⟩ := h
  cases rx
  obtain ⟨t, rfl⟩ := ry
  obtain ⟨its, r, pl, hz⟩ := I.list hq
  obtain ⟨j, h1, h2, h3, h4, h5⟩ := atI_get he
  obtain ⟨w, ew, rw'⟩ := r.get h2
  have hl := r.length
  have hn := line63
  have fin : EP X pins σ Q w s := ⟨z, H, I, rw', q⟩
  by_cases h0 : 0 ≤ i
  · have hj : i.toNat = j := by
      rw [seqIndex_of h0 h5] at h1
      exact Option.some.inj h1
    exact item_listR pl.isList h0 (by omega) (by rw [hj]; simpa using ew) fin hs
  · have hj : (i + (its.toArray.size : Int)).toNat = j := by
      rw [seqIndex_neg (by omega) h4] at h1
      rw [List.size_toArray, ← hl]
      exact Option.some.inj h1
    exact subscriptTail_builtinR (x := w) pl.isList.typeIs slot_list_getitem.lookup
      (wpAny_getItem_list_neg (Q := fun r s' => r = w ∧ EP X pins σ Q r s') pl.isList (by omega) (by rw [List.size_toArray] <;> omega) (by omega) (by rw [hj]; simpa using ew) ⟨rfl, fin⟩) hs
theorem ix_tup : IxR X (rIxT X.K) := by
  intro value slice pins s σ H x y v u Q I rx ry h hs
  obtain ⟨p, xs, i, z, rfl, rfl, hq, he, q⟩ := h
  cases rx
  obtain ⟨t, rfl⟩ := ry
  obtain ⟨its, r, pl, hz⟩ := I.tuple hq
  obtain ⟨j, h1, h2, h3, h4, h5⟩ := atI_get he
  obtain ⟨w, ew, rw'⟩ := r.get h2
  have hl := r.length
  have hn := line63
  have fin : EP X pins σ Q w s := ⟨z, H, I, rw', q⟩
  exact subscriptTail_builtinR (x := w) pl.typeIs slot_tuple_getitem.lookup
    (getItem_tuple (j := j) (Q := fun r s' => r = w ∧ EP X pins σ Q r s') pl (by omega) (by omega) (by rw [List.size_toArray, ← hl]; exact h1) (by simpa using ew) ⟨rfl, fin⟩) hs
theorem ix_str : IxR X rIxS := by
  intro value slice pins s σ H x y v u Q I rx ry h hs
  obtain ⟨z, i, c, rfl, rfl, hz, he, q⟩ := h
  obtain ⟨t, rfl⟩ := rx
  obtain ⟨t', rfl⟩ := ry
  obtain ⟨j, h1, h2, h3, h4, h5⟩ := atI_get he
  have hl : z.cps.toList.length = z.length := by simp [Str.length]
  rw [hl] at h1 h4 h5
  have hn := line63
  exact tail_any (typeIs_str s z t) slot_str_getitem.lookup (getItem_str (c := c) (by
    have e1 : decide (i < -(2 ^ 63 : Int)) = false := decide_eq_false (by omega)
    have e2 : decide (i ≥ 2 ^ 63) = false := decide_eq_false (by omega)
    rw [e1, e2, Bool.or_false]) (by rw [h1]; simpa using h2) ⟨.str ⟨#[c]⟩, H, I.tok _, ⟨_, rfl⟩, q⟩) hs
def rIx (K : PySem.W.Frag) : R2 := fun x y H Q => rIxL K x y H Q ∨ rIxT K x y H Q ∨ rIxS x y H Q
theorem ix_seq : IxR X (rIx X.K) := ix_list.or (ix_tup.or ix_str)
theorem mapSeq_set (its : List Value) (n j : Nat) (u : Value) : Obj.mapSeq (·.setIfInBounds j u) { cls := .type "list", data := .seq its.toArray n } = { cls := .type "list", data := .seq (its.set j u).toArray n } := by
  simp [Obj.mapSeq]
theorem Inv.lst {pins : List (Addr × Obj)} {σ : St} {H : Hp} {s : Shared} {p : Addr} {xs : List V} (I : Inv X pins σ H s) (h : H p = some (.lst xs)) :
    ∃ (its : List Value) (n : Nat), Vals xs its ∧ s.heap.get? p = some { cls := .type "list", data := .seq its.toArray n } ∧ xs.length ≤ sizeLine := by
  obtain ⟨z, its, n, r, e⟩ := I.hok p _ h
  exact ⟨its, n, r, e, z⟩
theorem Inv.lstUpd {pins : List (Addr × Obj)} {σ : St} {H : Hp} {s : Shared} {p : Addr} {xs ys : List V} {its its' : List Value} {n n' : Nat} {f : Obj → Obj} (I : Inv X pins σ H s) (h : H p = some (.lst xs))
    (ho : s.heap.get? p = some { cls := .type "list", data := .seq its.toArray n }) (hf : f { cls := .type "list", data := .seq its.toArray n } = { cls := .type "list", data := .seq its'.toArray n' }) (r : Vals ys its') (hz : ys.length ≤ sizeLine) (t : Nat) :
    Inv X pins σ (upd H p (.lst ys)) { s with heap := s.heap.update p f, toks := t } := by
  have e : (s.heap.update p f).get? p = some { cls := .type "list", data := .seq its'.toArray n' } := by
    rw [Heap.get?_update_self f ho (by rw [hf] <;> rfl), hf]
  refine I.write (x := p) (e := p) (by rw [h]; trivial) (.inl rfl) (fun b u hb q => (Heap.get?_update_other _ _ (Ne.symm hb)).trans q) ⟨_, e⟩ ?_
  exact ⟨hz, its', n', r, e⟩
def rSetL : V → V → V → Hp → (Hp → Prop) → Prop := fun o i v H Q => ∃ p xs k j, o = .ref p ∧ i = .int k ∧ H p = some (.lst xs) ∧ ixN xs.length k = some j ∧ Q (upd H p (.lst (xs.set j v)))
theorem set_list : PSet X rSetL := by
  intro pins s σ H o i v ov iv u Q I ro ri rv h
  obtain ⟨p, xs, k, j, rfl, rfl, hp, hj, q⟩ := h
  cases ro
  obtain ⟨t, rfl⟩ := ri
  obtain ⟨its, n, r, ho, hz⟩ := I.lst hp
  obtain ⟨h1, h2, h3, h4⟩ := ixN_seq hj
  have hl := r.length
  have hn := line63
  have I' : Inv X pins σ (upd H p (.lst (xs.set j v))) { s with heap := s.heap.update p (Obj.mapSeq (·.setIfInBounds j u)) } :=
    I.lstUpd hp ho (mapSeq_set its n j u) (r.set rv j) (by rw [List.length_set]; exact hz) s.toks
  by_cases h0 : 0 ≤ k
  · have hk : k.toNat = j := by
      rw [seqIndex_of h0 h4] at h1
      exact Option.some.inj h1
    exact PySem.W.ki_setAt ho h0 (by omega) (by rw [List.size_toArray, ← hl]; exact h4) (by rw [hk]; exact ⟨_, I', q⟩)
  · have hk : (k + (its.toArray.size : Int)).toNat = j := by
      rw [seqIndex_neg (by omega) h3] at h1
      rw [List.size_toArray, ← hl]
      exact Option.some.inj h1
    exact PySem.W.ki_setBack ho (by omega) (by rw [List.size_toArray, ← hl]; exact h3) (by omega) (by rw [hk]; exact ⟨_, I', q⟩)
theorem slice_bounds (lo hi : Option Int) (n : Nat) : (sliceBounds lo hi none n).1 = ((HT.sIx n 0 lo : Nat) : Int) ∧ (sliceBounds lo hi none n).2.1 = ((HT.sIx n n hi : Nat) : Int) ∧ (sliceBounds lo hi none n).2.2 = 1 := by
  refine ⟨?_, ?_, rfl⟩
  · cases lo with
    | none => simp [sliceBounds, HT.sIx]
    | some i =>
      simp only [sliceBounds, HT.sIx, Option.getD_none, show (1 : Int) > 0 by decide, if_true]
      by_cases h : i < 0
      · simp only [h, if_true] <;> omega
      · simp only [h, if_false] <;> omega
  · cases hi with
    | none => simp [sliceBounds, HT.sIx]
    | some i =>
      simp only [sliceBounds, HT.sIx, Option.getD_none, show (1 : Int) > 0 by decide, if_true]
      by_cases h : i < 0
      · simp only [h, if_true] <;> omega
      · simp only [h, if_false] <;> omega
theorem slicePick_cut (its : List Value) (lo hi : Option Int) : slicePick its.toArray lo hi none = ((its.drop (HT.sIx its.length 0 lo)).take (HT.sIx its.length its.length hi - HT.sIx its.length 0 lo)).toArray := by
  obtain ⟨h1, h2, h3⟩ := slice_bounds lo hi its.toArray.size
  unfold slicePick
  rw [h1, h2, h3]
  simp only [sliceRange_one, pick_run, List.size_toArray] <;> rfl
def rSlL (K : PySem.W.Frag) : V → Option Int → Option Int → Hp → VK → Prop := fun x lo hi H Q => ∃ a xs, x = .ref a ∧ SqL K H a xs ∧ ∀ p, H p = none → Q (.ref p) (upd H p (.lst (cutV xs lo hi)))
theorem sl_list : SlR X (rSlL X.K) := by
  intro pins s σ H x v vl vu lo hi sl Q I rx hs pl pu h
  obtain ⟨a, xs, rfl, hx, q⟩ := h
  cases rx
  obtain ⟨its, r, ht, hz⟩ := I.list hx
  have hlen := r.length
  refine ⟨"list", _, slot_list_getitem.lookup, ht.isList.typeIs, ?_⟩
  refine wpAny_getItem_list_slice ht.isList hs pl pu .none (by simp) ?_ (by rw [List.size_toArray] <;> omega)
  rw [slicePick_cut, ← hlen]
  refine ⟨.ref s.heap.objs.size, _, I.laid (t' := s.toks) (o := .lst (cutV xs lo hi)) (fun b ob q => Heap.get?_push_of_some _ q) (Nat.le_refl _) ?_, rfl, q _ (I.hok.fresh (Nat.le_refl _))⟩
  exact ⟨Nat.le_trans (cutV_length xs lo hi) hz, _, 0, (r.drop (HT.sIx xs.length 0 lo)).take (HT.sIx xs.length xs.length hi - HT.sIx xs.length 0 lo), Heap.get?_push_size _ rfl⟩
theorem call_len_seq : CallR X (.builtin "len") (fun xs H Q => ∃ p ys, xs = [.ref p] ∧ (SqL X.K H p ys ∨ SqT X.K H p ys) ∧ Q (.int ys.length) H) := by
  intro pins s σ H xs us Q I r h
  obtain ⟨p, ys, rfl, hq, q⟩ := h
  obtain ⟨u, rfl, rx⟩ := vals1 r
  cases rx
  have hn := line63
  rcases hq with hq | hq
  · obtain ⟨its, r', pl, hz⟩ := I.list hq
    have hlen := r'.length
    exact Calls.call_len_list pl.isList (by simp only [List.size_toArray] <;> omega) ⟨.int ys.length, H, I.tok _, ⟨s.toks + 1, by rw [List.size_toArray, hlen]⟩, q⟩
  · obtain ⟨its, r', pl, hz⟩ := I.tuple hq
    have hlen := r'.length
    exact len_tuple pl (by simp only [List.size_toArray] <;> omega) ⟨.int ys.length, H, I.tok _, ⟨s.toks + 1, by rw [List.size_toArray, hlen]⟩, q⟩
theorem call_len_str : CallR X (.builtin "len") (fun xs H Q => ∃ z, xs = [.str z] ∧ z.length ≤ sizeLine ∧ Q (.int z.length) H) := by
  intro pins s σ H xs us Q I r h
  obtain ⟨z, rfl, hz, q⟩ := h
  obtain ⟨u, rfl, t, rfl⟩ := vals1 r
  have hn := line63
  exact len_str (by omega) ⟨.int z.length, H, I.tok _, ⟨_, rfl⟩, q⟩
theorem CallR.or {f : Value} {r r' : List V → Hp → VK → Prop} (h : CallR X f r) (h' : CallR X f r') : CallR X f (fun xs H Q => r xs H Q ∨ r' xs H Q) := by
  intro pins s σ H xs us Q I rs q
  rcases q with q | q
  · exact h pins s σ H xs us Q I rs q
  · exact h' pins s σ H xs us Q I rs q
theorem call_list_of : CallR X (.type "list") (fun xs H Q => ∃ p ys, xs = [.ref p] ∧ (SqL X.K H p ys ∨ SqT X.K H p ys) ∧ ∀ l, H l = none → Q (.ref l) (upd H l (.lst ys))) := by
  intro pins s σ H xs us Q I r h
  obtain ⟨p, ys, rfl, hq, q⟩ := h
  obtain ⟨u, rfl, rx⟩ := vals1 r
  cases rx
  have fin : ∀ (its : List Value), Vals ys its → ys.length ≤ sizeLine → ∀ (h' : Heap) (c' : Nat), (∀ b o', s.heap.get? b = some o' → h'.get? b = some o') →
      h'.get? s.heap.objs.size = some { cls := .type "list", dict := none, data := .seq its.toArray c', slots := #[] } → EP X pins σ Q (.ref s.heap.objs.size) { s with heap := h' } := fun its r' hz h' c' kp e =>
    ⟨.ref s.heap.objs.size, _, I.laid (t' := s.toks) kp (Nat.le_refl _) (show ObjOk X.prog X.w _ h' _ (.lst ys) from ⟨hz, its, c', r', e⟩), rfl, q _ (I.hok.fresh (Nat.le_refl _))⟩
  rcases hq with hq | hq
  · obtain ⟨its, r', pl, hz⟩ := I.list hq
    have hlen := r'.length
    obtain ⟨o, ho, hc, n, hd⟩ := pl.isList
    exact call_list_seq p (.inl rfl) ho hc hd (fun h' c' kp e => fin its r' hz h' c' kp e) (by simp only [List.size_toArray] <;> omega)
  · obtain ⟨its, r', pl, hz⟩ := I.tuple hq
    have hlen := r'.length
    obtain ⟨o, ho, hc, n, hd⟩ := pl
    exact call_list_seq p (.inr rfl) ho hc hd (fun h' c' kp e => fin its r' hz h' c' kp e) (by simp only [List.size_toArray] <;> omega)
def tyV (K : PySem.W.Frag) (T : String) (x : V) (H : Hp) : Prop := match x with
  | .str _ => T = "str"
  | .int _ => T = "int"
  | .ref p => (T = "list" ∧ ∃ xs, SqL K H p xs) ∨ (T = "tuple" ∧ ∃ o, K.lookup p = some o ∧ o.cls = .type "tuple" ∧ o.dict = none) ∨
      (T = "dict" ∧ ((∃ kvs, H p = some (.dK kvs)) ∨ ∃ kvs, H p = some (.dT kvs))) ∨ (T = "set" ∧ ∃ S n, H p = some (.set S n))
  | _ => False
theorem tyV_is {pins : List (Addr × Obj)} {σ : St} {H : Hp} {s : Shared} {T : String} {x : V} {v : Value} (I : Inv X pins σ H s) (r : RelV x v) (ty : tyV X.K T x H) :
    s.TypeIs v T ∧ ∀ a, v = .ref a → ∃ ob, s.heap.get? a = some ob ∧ ob.dict = none := by
  cases x with
  | str z =>
    obtain ⟨t, rfl⟩ := r
    cases (show T = "str" from ty)
    exact ⟨typeIs_str s z t, fun _ e => nomatch e⟩
  | int i =>
    obtain ⟨t, rfl⟩ := r
    cases (show T = "int" from ty)
    exact ⟨typeIs_int s i t, fun _ e => nomatch e⟩
  | ref p =>
    cases r
    rcases ty with ⟨rfl, xs, hq⟩ | ⟨rfl, o, hk, hc, hd⟩ | ⟨rfl, hk⟩ | ⟨rfl, S, n, hk⟩
    · obtain ⟨its, _, pl, _⟩ := I.list hq
      refine ⟨pl.isList.typeIs, fun a e => ?_⟩
      cases e
      obtain ⟨o, n, e, c, hd, _⟩ := pl
      exact ⟨o, e, hd⟩
    · refine ⟨⟨o, I.kIn p o hk, hc⟩, fun a e => ?_⟩
      cases e
      exact ⟨o, I.kIn _ o hk, hd⟩
    · have z : ∃ o, s.heap.get? p = some o ∧ o.ExactDict := by
        rcases hk with ⟨kvs, hk⟩ | ⟨kvs, hk⟩
        · obtain ⟨_, _, _, _, o, _, _, e, ex, _⟩ := I.hok p _ hk
          exact ⟨o, e, ex⟩
        · obtain ⟨_, _, _, _, o, _, _, e, ex, _⟩ := I.hok p _ hk
          exact ⟨o, e, ex⟩
      obtain ⟨o, e, ex⟩ := z
      refine ⟨⟨o, e, ex.1⟩, fun a e2 => ?_⟩
      cases e2
      exact ⟨o, e, ex.2.1⟩
    · obtain ⟨o, _, _, _, e, ex, _⟩ := I.hok p _ hk
      refine ⟨⟨o, e, ex.1⟩, fun a e2 => ?_⟩
      cases e2
      exact ⟨o, e, ex.2.1⟩
  | _ => exact False.elim ty
def tBM (K : PySem.W.Frag) (T : String) (r : V → List V → Hp → VK → Prop) (to : TE) (t : TA) : TE := fun σ H Q => to σ H fun x H1 => tyV K T x H1 ∧ t σ H1 fun xs H2 => r x xs H2 Q
variable {o e : Expr} {es : List Expr} {to : TE} {t : TA} {name : Str} {apos cpos : Pos} {T id : String} {r : V → List V → Hp → VK → Prop}
theorem pe_bm (pa : PlainAttrs T) (slot : Slot T name id) (hty : typeOf (.builtin id) = pure (.type "method_descriptor")) (hm : MtR X id r) (ho : PE X o to) (ha : PA X (e :: es) t)
    (hbase : attributeBase o name X.env (eval o X.env) = eval o X.env := by rfl)
    (hfew : ((backTo cpos (starEach (e :: es) X.env)).all (fun x => !x.1) && (backToKw cpos (keywordEach [] X.env)).all (fun x => x.1.isSome)
      && decide ((e :: es).length + ([] : List Keyword).length + (if ([] : List Keyword).isEmpty then 0 else 1) < 30)) = true := by rfl)
    (hline : (apos.endLine == cpos.line) = true := by rfl) (hs : starEach (e :: es) X.env = (false, eval e X.env) :: starEach es X.env := by rfl) (hplain : (backTo cpos (starEach es X.env)).any (·.1) = false := by rfl) :
    PE X (.Call (.Attribute o name apos) (e :: es) [] cpos) (tBM X.K T r to t) := by
  intro pins s σ H Q I h
  refine wpAny_Call_method_late hbase hfew hline rfl (thn (ho pins s σ H _ I h) fun v s1 ⟨x, H1, I1, r1, ty, q1⟩ => ?_)
  obtain ⟨h1, h2⟩ := tyV_is I1 r1 ty
  refine ⟨T, id, pa, slot, hty, h1, h2, ?_⟩
  have hA := ha cpos pins s1 σ H1 _ I1 q1
  rw [hs] at hA ⊢
  refine Calls.callWith_builtin (by show (false || (backTo cpos (starEach es X.env)).any (·.1)) = false; rw [hplain] <;> rfl) (Calls.evalArgs_plain ?_)
  exact thn hA fun us s2 ⟨vs, H2, I2, r2, q2⟩ => hm pins s2 σ H2 x vs v us Q I2 r1 r2 q2
end
end L2
namespace L2
open PySem PySem.Spec PyProof.Rows
def MtM (X : Cx) (id : String) (r : V → List V → Hp → VK → Prop) : Prop :=
  ∀ (pins : List (Addr × Obj)) (s : Shared) (σ : St) (H : Hp) (x : V) (xs : List V) (v : Value) (us : List Value) (Q : VK), Inv X pins σ H s → RelV x v → Vals xs us → r x xs H Q →
    wpAny (model X.prog X.w) X.A (call (.builtin id) (v :: us)) (EP X pins σ Q) X.xe s
theorem Vals.one : ∀ {x : V} {us : List Value}, Vals [x] us → ∃ u, us = [u] ∧ RelV x u
  | _, _, .cons r .nil => ⟨_, rfl, r⟩
theorem Vals.zero : ∀ {us : List Value}, Vals [] us → us = []
  | _, .nil => rfl
section
variable {X : Cx} {pins : List (Addr × Obj)} {σ : St} {H : Hp} {s : Shared} {l b : Addr} {xs ys zs : List V}
theorem Inv.lset {its its' : List Value} {n : Nat} {f : Array Value → Array Value} {t' : Nat} (I : Inv X pins σ H s) (hH : H l = some (.lst xs))
    (e : s.heap.get? l = some { cls := .type "list", data := .seq its.toArray n }) (hf : f its.toArray = its'.toArray) (hv : Vals ys its') (hz : ys.length ≤ sizeLine) :
    Inv X pins σ (upd H l (.lst ys)) { s with heap := s.heap.update l (Obj.mapSeq f), toks := t' } := by
  have q := PySem.IsL.update e f
  rw [hf] at q
  refine I.write (x := l) (e := l) (by rw [hH]; exact trivial) (.inl rfl) (fun b' u hb hu => (Heap.get?_update_other s.heap (Obj.mapSeq f) (Ne.symm hb)).trans hu) ⟨_, q⟩ ?_
  exact ⟨hz, its', _, hv, q⟩
theorem Inv.lnew {its : List Value} {t' : Nat} (I : Inv X pins σ H s) (hv : Vals ys its) (hz : ys.length ≤ sizeLine) :
    Inv X pins σ (upd H s.heap.objs.size (.lst ys)) { s with heap := s.heap.push { cls := .type "list", data := .seq its.toArray }, toks := t' } :=
  I.laid (fun _ _ q => Heap.get?_push_of_some _ q) (Nat.le_refl _) ⟨hz, its, 0, hv, Heap.get?_push_size _ rfl⟩
theorem Inv.fresh (I : Inv X pins σ H s) : H s.heap.objs.size = none := I.hok.fresh (Nat.le_refl _)
theorem Inv.lstM (I : Inv X pins σ H s) (hH : H l = some (.lst xs)) : xs.length ≤ sizeLine ∧ ∃ (its : List Value) (n : Nat), Vals xs its ∧ xs.length = its.length ∧ s.heap.get? l = some { cls := .type "list", data := .seq its.toArray n } := by
  obtain ⟨z, its, n, r, e⟩ := I.hok l _ hH
  exact ⟨z, its, n, r, r.length, e⟩
end
section
variable {X : Cx}
def rAppend : V → List V → Hp → VK → Prop := fun x vs H Q => ∃ l xs y, x = .ref l ∧ vs = [y] ∧ H l = some (.lst xs) ∧ xs.length < sizeLine ∧ Q .non (upd H l (.lst (xs ++ [y])))
theorem mt_append : MtM X "list.append" rAppend := by
  intro pins s σ H x vs v us Q I rx rv h
  obtain ⟨l, xs, y, rfl, rfl, hH, hz, q⟩ := h
  cases rx
  obtain ⟨u, rfl, ru⟩ := rv.one
  obtain ⟨z, its, n, r, hl, e⟩ := I.lstM hH
  refine call_meets F.slot_list_append ⟨_, e, rfl⟩ F.entry_list_append (F.args_list_append_2 _ _) (PySem.list_append l its.toArray n u (by rw [List.size_toArray]; omega)) ⟨e, ?_⟩
  refine ⟨.non, _, I.lset (its' := its ++ [u]) hH e (by simp) (r.append (.cons ru .nil)) ?_, rfl, q⟩
  rw [List.length_append, List.length_singleton]
  omega
end
section
variable {prog : Program} {w : World} {A : Around} {E : Value → Shared → Prop} {s : Shared}
end
section
variable {X : Cx}
end
end L2
namespace Att
open PySem PySem.W PySem.Calls PyProof.Rows
theorem ints_of_wellAll {P : Params} {h : Heap} : ∀ (ns : List Int) (vs : List Value), WellAll P h vs (ns.map WData.int) → IntsAre vs ns := by
  intro ns
  induction ns with
  | nil =>
    intro vs w
    rw [List.map_nil] at w
    cases w
    exact .nil
  | cons n ns ih =>
    intro vs w
    rw [List.map_cons] at w
    cases w with
    | cons a b =>
      cases a
      exact .cons _ _ (ih _ b)
theorem script_of {l : OpenLaw} {n : Nat} (hn : l.most = some n) {P : Params} {h : Heap} {args : List WData} {vals : List Value}
    (hpre : l.row.toRowW.claim.pre args = true) (hwl : WellAll P h vals args) :
    ∃ a vs ns, vals = [Value.ref a] ∧ args = [WData.list (ns.map WData.int)] ∧ h.get? a = some { cls := .type "list", data := .seq vs.toArray } ∧ IntsAre vs ns ∧ ns.length ≤ n := by
  have hsh : WShape.hasAll [] args [.list .int] = true := (pre_splitW hpre).1
  have hc : l.pre.holds [] { args := args } = true := (pre_splitW hpre).2
  obtain ⟨d, r, rfl, h1, h2⟩ := hasAllW_cons hsh
  obtain rfl := hasAllW_nil h2
  obtain ⟨xs, rfl, h3⟩ := hasW_list h1
  obtain ⟨ns, rfl⟩ := items_int h3
  have hlen : ns.length ≤ n := by
    unfold OpenLaw.pre at hc
    have h4 : (WTm.not (.lt (.lit (.int (n : Int))) (.len (.arg 0)))).holds [] { args := [.list (ns.map .int)] } = true := by
      have h4 := (holds_andW hc).1
      rw [hn] at h4
      exact h4
    have h5 := condW_of h4 (w_not (w_lt w_lit (w_len_list (w_arg rfl))))
    rw [List.length_map] at h5
    refine Nat.le_of_not_lt fun q => ?_
    have q' : (n : Int) < ((ns.length : Nat) : Int) := by omega
    first
      | (rw [decide_eq_true q'] at h5; exact absurd h5 (by decide))
      | (simp at h5; omega)
  cases hwl with
  | cons w1 w2 =>
    cases w2
    cases w1 with
    | list ho hall => exact ⟨_, _, ns, rfl, rfl, ho, ints_of_wellAll ns _ hall, hlen⟩
theorem post_true (l : OpenLaw) (args : List WData) : l.row.toRowW.claim.post args (.bool true) args = true :=
  postW_of (r := l.row.toRowW) (X := (true == true))
    (show WShape.has [] (.bool true) .bool = true by first | rfl | decide | simp [WShape.has, WShape.arms, WShape.armsAll])
    (show (WTm.eq .res (.lit (.bool true))).value [] { args := args, res := some (.bool true), after := args } = some (.bool (true == true)) from w_eq_bool (w_res rfl) w_lit) rfl
theorem attach_call {l : OpenLaw} {n : Nat} {q : Program} {loose : List Str} {XP : (Str → Option Value) → Heap → Prop} {YP : World → Heap → Prop} {d : DefRec}
    (hn : l.most = some n) (hdf : d.params.defaults = [])
    (call : ∀ (w : World) (s₀ s₁ : Shared) (mg mb : Str → Option Value) (fa : Addr) (o : Obj) (pm cd doc : Value) (a : Addr) (vs : List Value) (ns : List Int),
      Ground q loose [] XP w s₀ mg mb s₁.heap → YP w s₁.heap →
      s₁.heap.get? fa = some o → o.data = .func (docDef d.name d.params d.body d.scope pm cd doc) → s₁.heap.CodeRec cd d.name → mg d.name = some (.ref fa) →
      s₁.heap.get? a = some { cls := .type "list", data := .seq vs.toArray } → IntsAre vs ns → ns.length ≤ n → s₁.gens = #[] →
      codeAny (model l.prog w) callerA (.call (.ref fa) ⟨[.ref a], []⟩) (fun r s' => r = .ok (.ret (.bool true)) ∧ OldK s₁.heap s'.heap ∧ s'.os = s₁.os ∧ AllBare s'.gens) s₁) :
    WalkO q loose XP YP l.row.toRowW d [] (fun f vs => PySem.call f vs) := by
  intro w s₀ s₁ mg mb G Y fa o pm cd doc dV kV ho hd hcd hD hmg hg args vals as hpre hlay hrd hwl hlo
  obtain rfl : dV = .none := Dflts.none hD hdf
  obtain rfl : kV = .none := Dflts.noKw hD
  obtain ⟨a, vs, ns, rfl, rfl, hobj, hints, hlen⟩ := script_of hn hpre hwl
  refine enter_call (codeAny_mono (call w s₀ s₁ mg mb fa o pm cd doc a vs ns G Y ho (fd_plain hd) hcd hmg hobj hints hlen hg) fun r s' hq => ?_)
  obtain ⟨rfl, h2, h3, h4⟩ := hq
  exact ⟨.inl ⟨.bool true, .bool true, [], rfl, fun _ => rfl, .bool true, post_true l _, fun _ => ⟨List.Pairwise.nil, fun _ hm => (nomatch hm)⟩⟩, h2, h3, h4⟩
section
variable {prog : Program} {w : World} {A : Around} {E : Value → Shared → Prop} {s : Shared} {K : Frag}
end
end Att
namespace L2
open PySem PySem.Spec PyProof.Rows
theorem vals_ints : ∀ {vs : List Value} {ns : List Int}, IntsAre vs ns → Vals (ns.map V.int) vs
  | _, _, .nil => .nil
  | _, _, .cons n t h => .cons ⟨t, rfl⟩ (vals_ints h)
def Only (H : Hp) : Prop := ∀ b, H b = none ∨ ∃ o xs, H b = some (.frz o (.lst xs))
theorem law_call {P : Program} {w : World} {K : PySem.W.Frag} {mg mb : Str → Option Value} {CX : CXT} {k : Nat} {fa a : Addr} {fd : FuncData} {x : Str} {sp : Sp} {s₁ : Shared} {vs : List Value} {ns : List Int}
    (KX : K.In s₁.heap) (hns : s₁.heap.Ns mainGlobals mg) (hb : s₁.heap.Ns builtinsNs mb) (hbb : ∀ x : Str, x ≠ "__name__" → mb x = bootBuiltins x) (hlim : s₁.heap.NoLimit) (hg : s₁.gens = #[])
    (ha : s₁.heap.get? a = some { cls := .type "list", data := .seq vs.toArray }) (hi : IntsAre vs ns) (hl : ns.length ≤ sizeLine) (hr : Room k callerA)
    (F : ∀ base : Heap, K.In base → base.Ns mainGlobals mg → FnOk P w K mg base CX k fa fd [x] sp) (hbind : ∀ (s : Shared) (u : Value), BindsTo s fd ⟨[u], []⟩ [(x, u)])
    (hsp : ∀ H : Hp, Only H → SqL K H a (ns.map V.int) → sp [.ref a] H (fun v _ => v = .bl true) fun _ _ _ => False)
    (hCX : ∀ H e s', CX [] H s₁ (fun _ _ _ => False) e s' → False) :
    codeAny (model P w) callerA (.call (.ref fa) ⟨[.ref a], []⟩) (fun r s' => r = .ok (.ret (.bool true)) ∧ OldK s₁.heap s'.heap ∧ s'.os = s₁.os ∧ AllBare s'.gens) s₁ := by
  have rv := vals_ints hi
  have lenV := hi.length
  -- from an abstract heap in which nothing but the script may be tracked
  have core : ∀ H : Hp, Only H → SqL K H a (ns.map V.int) → HOk P w H s₁.heap → (∀ b, H b ≠ none → b = a) → (H a ≠ none → K.lookup a = none) →
      codeAny (model P w) callerA (.call (.ref fa) ⟨[.ref a], []⟩) (fun r s' => r = .ok (.ret (.bool true)) ∧ OldK s₁.heap s'.heap ∧ s'.os = s₁.os ∧ AllBare s'.gens) s₁ := by
    intro H hO hS hok hA hK
    have base_of : ∀ {b : Addr} {o : Obj}, s₁.heap.get? b = some o → H b = none → (hidT s₁.heap H).get? b = some o := fun e n => hidT_get e n
    have noA : ∀ {b : Addr} {o : Obj} {es : Array DictEntry} {ep : Nat}, s₁.heap.get? b = some o → o.data = .dict es ep → H b = none := fun {b o es ep} e d => by
      cases q : H b with
      | none => rfl
      | some u =>
        have e' : b = a := hA b (by rw [q]; simp)
        subst e'
        rw [ha] at e; cases e
        have d' : Data.seq vs.toArray _ = Data.dict es ep := d
        cases d'
    have nsK : ∀ {b : Addr} {m : Str → Option Value}, s₁.heap.Ns b m → (hidT s₁.heap H).Ns b m := fun {b m} ⟨o, es, ep, e, d, r⟩ => ⟨o, es, ep, base_of e (noA e d), d, r⟩
    have hKb : K.In (hidT s₁.heap H) := fun b o e => base_of (KX b o e) (by
      cases q : H b with
      | none => rfl
      | some u =>
        have e' : b = a := hA b (by rw [q]; simp)
        subst e'
        rw [hK (by rw [q]; simp)] at e; cases e)
    have hM : Mod K mg (hidT s₁.heap H) := ⟨hKb, nsK hns, ⟨mb, nsK hb, hbb⟩, let ⟨mc, h1, h2⟩ := hlim; ⟨mc, nsK h1, h2⟩⟩
    have e0 : Env0 P w K mg (hidT s₁.heap H) callerA [] s₁ H := ⟨rfl, hM, fun b o e => of_hidT e, Nat.le_of_eq (hidT_size _ _), trivial, fun b hb => absurd (show b ∈ ([] : List Addr) from hb) (by simp), hok, .of_eq hg⟩
    refine codeAny_mono ((F _ hKb (nsK hns)).run callerA [] s₁ H ⟨[.ref a], []⟩ [.ref a] [.ref a] _ _ hr e0 (hbind s₁ (.ref a)) (.cons rfl .nil) (hsp H hO hS)) fun r s' h => ?_
    cases r with
    | error e => exact (hCX H e s' h).elim
    | ok fl =>
      cases fl with
      | next => exact False.elim h
      | brk => exact False.elim h
      | cont => exact False.elim h
      | ret u =>
        obtain ⟨v, H', os, bare, un, hok', r', q⟩ := h
        have q' : v = .bl true := q
        subst q'
        obtain rfl : u = Value.bool true := r'
        refine ⟨rfl, OldK.of_keep fun b o e => ?_, os, bare⟩
        cases q : H b with
        | none => exact un.keep b o e q (by intro z; exact absurd (show b ∈ ([] : List Addr) from z) (by simp)) (by simp)
        | some u =>
          rcases hO b with z | ⟨ob, xs, z⟩
          · rw [q] at z; cases z
          · have z2 := un.frzs b ob _ z
            obtain ⟨e1, _⟩ := hok b _ z
            obtain ⟨e2, _⟩ := hok' b _ z2
            rw [e] at e1; cases e1
            exact e2
  cases hk : K.lookup a with
  | some o =>
    -- the script is one of the module's own objects
    have e := KX a o hk
    rw [ha] at e
    cases e
    refine core (fun _ => none) (fun _ => .inl rfl) (.inr ⟨_, vs.toArray, _, hk, rfl, rfl, rfl, by rw [List.size_toArray, lenV]; exact hl, by simpa using rv⟩) (fun b u z => by have z' : (none : Option HO) = some u := z; cases z') (fun b z => absurd rfl z) fun z => absurd rfl z
  | none =>
    refine core (fun b => if b = a then some (.frz { cls := .type "list", data := .seq vs.toArray } (.lst (ns.map V.int))) else none) (fun b => ?_) (.inl (.inr ⟨{ cls := .type "list", data := .seq vs.toArray }, if_pos rfl⟩)) (fun b u z => ?_) (fun b z => ?_) fun _ => hk
    · by_cases hb : b = a
      · exact .inr ⟨_, _, if_pos hb⟩
      · exact .inl (if_neg hb)
    · by_cases hb : b = a
      · have z' := (if_pos hb).symm.trans z
        cases z'
        subst hb
        exact ⟨ha, by rw [List.length_map]; exact hl, vs, _, rv, ha⟩
      · have z' := (if_neg hb).symm.trans z
        cases z'
    · by_cases hb : b = a
      · exact hb
      · exact absurd (if_neg hb) z
end L2
namespace L2
open PySem PySem.Spec PyProof.Rows
theorem walk_of {l : PySem.W.OpenLaw} {n k : Nat} {q : Program} {loose : List Str} {XP : (Str → Option Value) → Heap → Prop} {YP : World → Heap → Prop} {d : DefRec} {K : Params → PySem.W.Frag} {CX : World → CXT} {sp : World → Sp} {x : Str}
    (hn : l.most = some n) (hn2 : n ≤ sizeLine) (hdf : d.params.defaults = []) (hr : Room k callerA)
    (hY : ∀ (w : World) (h : Heap), YP w h → (K w.params).In h)
    (F : ∀ (w : World) (mg : Str → Option Value) (fa : Addr) (h : Heap), (K w.params).In h → h.Ns mainGlobals mg → mg d.name = some (.ref fa) →
      ∃ fd : FuncData, (∀ (s : Shared) (u : Value), BindsTo s fd ⟨[u], []⟩ [(x, u)]) ∧
        ∀ base : Heap, (K w.params).In base → base.Ns mainGlobals mg → FnOk l.prog w (K w.params) mg base (CX w) k fa fd [x] (sp w))
    (hsp : ∀ (w : World) (H : Hp) (a : Addr) (ns : List Int), ns.length ≤ n → Only H → SqL (K w.params) H a (ns.map V.int) → sp w [.ref a] H (fun v _ => v = .bl true) fun _ _ _ => False)
    (hCX : ∀ (w : World) (H : Hp) (s : Shared) (e : Value) (s' : Shared), CX w [] H s (fun _ _ _ => False) e s' → False) :
    PySem.W.WalkO q loose XP YP l.row.toRowW d [] (fun f vs => PySem.call f vs) := by
  refine Att.attach_call hn hdf fun w s₀ s₁ mg mb fa o pm cd doc a vs ns G Y ho hd hcd hmg hobj hints hlen hg => ?_
  have KX := hY w _ Y
  obtain ⟨fd, hb, hF⟩ := F w mg fa _ KX G.T.g hmg
  exact law_call KX G.T.g G.T.b G.T.builtins G.T.nolimit hg hobj hints (Nat.le_trans hlen hn2) hr hF hb (fun H hO hS => hsp w H a ns hlen hO hS) fun H e s' => hCX w H s₁ e s'
end L2
namespace L2
open PySem PySem.Spec PyProof.Rows
def defArgs (s : Stmt) : Arguments := match s with
  | .FunctionDef _ a _ _ _ _ _ _ _ _ => a
  | _ => { posonlyargs := [], args := [], vararg := none, kwonlyargs := [], kw_defaults := [], kwarg := none, defaults := [] }
def defBody (s : Stmt) : List Stmt := match s with
  | .FunctionDef _ _ b _ _ _ _ _ _ _ => b
  | _ => []
def defScope (s : Stmt) : Scope := match s with
  | .FunctionDef _ _ _ _ _ _ sc _ _ _ => sc
  | _ => { kind := .function, names := [], isGenerator := false, isCoroutine := false }
abbrev CX0 : CXT := fun _ _ _ _ _ _ => False
abbrev E0 : XK := fun _ _ _ => False
theorem pass0 {X : Cx} : Passes CX0 X E0 := fun _ _ _ _ _ _ _ h => h.elim
structure Fun (K : PySem.W.Frag) (x qual : Str) (st : Stmt) (f : Addr) (fd : FuncData) : Prop where
  ex : ∃ (oc : Value) (od : Option Addr) (kV doc pm : Value) (an : Option Addr) (cdv ct : Value) (osl : Array (Option Value)),
    fd = PySem.W.fnOf x qual (defArgs st) (defBody st) (defScope st) .none kV doc pm an cdv ct ∧ K.lookup f = some ⟨oc, od, .func fd, osl⟩ ∧ PySem.W.codeIn K cdv qual = true
  kp : PySem.W.keepIn K (.ref f) = true
section
variable {P : Program} {w : World} {K : PySem.W.Frag} {mg : Str → Option Value} {base : Heap}
theorem Fun.ok {x qual : Str} {st : Stmt} {f : Addr} {fd : FuncData} {N ps : List Str} {k : Nat} {sp : Sp} (F : Fun K x qual st f fd) (S : FnScope N ps (defScope st)) (len : ∀ vs H Q E, sp vs H Q E → vs.length = ps.length)
    (hbody : ∀ (cdv : Value) (A : Around) (outer : List Env) (s : Shared) (H : Hp) (vs : List V) (Q : VK) (E : XK), Room k (A.deeper (envOfC qual (defScope st) s.heap.objs.size f cdv)) → sp vs H Q E →
      ∃ t, PSs (cxOf CX0 P w K mg base N qual (defScope st) f cdv A outer s H E).nox (defBody st) t ∧ t { nx := fun _ H' => Q .non H', rt := Q } (start N vs) H) : FnOk P w K mg base CX0 (k + 1) f fd ps sp := by
  obtain ⟨oc, od, kV, doc, pm, an, cdv, ct, osl, rfl, lk, hcd⟩ := F.ex
  refine fn_of lk hcd S len fun A outer s H vs Q E hr hsp => ?_
  obtain ⟨t, h, q⟩ := hbody cdv A outer s H vs Q E hr hsp
  exact ⟨t, h.nox, q⟩
theorem Fun.binds {x qual : Str} {st : Stmt} {f : Addr} {fd : FuncData} {ps : List Str} (F : Fun K x qual st f fd)
    (h : ∀ (kV doc pm : Value) (an : Option Addr) (cdv ct : Value) (us : List Value), us.length = ps.length → bindArgs (PySem.W.fnOf x qual (defArgs st) (defBody st) (defScope st) .none kV doc pm an cdv ct) ⟨us, []⟩ = pure (ps.zip us)) : Binds K fd ps [] := by
  obtain ⟨oc, od, kV, doc, pm, an, cdv, ct, osl, rfl, lk, hcd⟩ := F.ex
  exact .all (h kV doc pm an cdv ct)
theorem fun_mk {x qual : Str} {st : Stmt} {f : Addr} {oc : Value} {od an : Option Addr} {osl : Array (Option Value)} {kV doc pm cdv ct : Value} (l : K.lookup f = some ⟨oc, od, .func (PySem.W.fnOf x qual (defArgs st) (defBody st) (defScope st) .none kV doc pm an cdv ct), osl⟩)
    (c : PySem.W.codeIn K cdv qual = true) (k : PySem.W.keepIn K (.ref f) = true) : Fun K x qual st f (PySem.W.fnOf x qual (defArgs st) (defBody st) (defScope st) .none kV doc pm an cdv ct) := ⟨⟨oc, od, kV, doc, pm, an, cdv, ct, osl, rfl, l, c⟩, k⟩
end
section
variable {X : Cx}
theorem pv (i : Nat) {x : Str} {pos : Pos} (hN : X.N[i]? = some x := by rfl) (hv : Vis X.env.scope x := by first | exact Or.inl rfl | exact Or.inr (Or.inl rfl) | exact Or.inr (Or.inr rfl)) (hd : (x == ("__debug__" : Str)) = false := by decide)
    (hcd : (x == ("__classdict__" : Str)) = false := by decide) : PE X (.Name x pos) (tVar i) := pe_var hN hv hd hcd
end
def Same (H H' : Hp) : Prop := ∀ b o, H b = some o → H' b = some o
theorem Same.refl (H : Hp) : Same H H := fun _ _ h => h
theorem Same.trans {H H1 H2 : Hp} (a : Same H H1) (b : Same H1 H2) : Same H H2 := fun c o h => b c o (a c o h)
theorem Same.free {H H' : Hp} (e : Same H H') {l : Addr} (h : H' l = Option.none) : H l = Option.none := by
  cases q : H l with
  | none => rfl
  | some o =>
    rw [e l o q] at h
    cases h
theorem Same.seq {K : PySem.W.Frag} {H H' : Hp} {a : Addr} {xs : List V} (e : Same H H') (h : SqL K H a xs) : SqL K H' a xs := by
  rcases h with (h | ⟨o, h⟩) | h
  · exact .inl (.inl (e _ _ h))
  · exact .inl (.inr ⟨o, e _ _ h⟩)
  · exact .inr h
end L2
set_option Elab.async false
set_option linter.all false
set_option maxRecDepth 100000
namespace L2
open PySem PySem.Spec PyProof.Rows
def clGo (cells : List (Str × Addr)) : List (Str × NameKind) → List (Str × Addr) → List (Str × Addr)
  | [], cs => cs
  | (n, k) :: r, cs => clGo cells r (if k == .free then (n, (cells.lookup n).getD 0) :: cs else cs)
def clOf (scope : Scope) (env : Env) : List (Str × Addr) := clGo env.cells scope.names []
theorem clGo_eq {env : Env} : ∀ (names : List (Str × NameKind)) (cs : List (Str × Addr)), (∀ y ∈ names, y.2 = .free → ∃ c, env.cells.lookup y.1 = some c) →
    (forIn names cs fun (x : Str × NameKind) (r : List (Str × Addr)) => (match x with
      | (name, kind) => if (kind == NameKind.free) = true then do let a ← cellOf env name; pure (ForInStep.yield ((name, a) :: r)) else pure (ForInStep.yield r) : Sem (ForInStep (List (Str × Addr))))) = (pure (clGo env.cells names cs) : Sem _)
  | [], cs, _ => rfl
  | (n, k) :: r, cs, h => by
    have hr := fun cs' => clGo_eq (env := env) r cs' fun y hy => h y (List.mem_cons_of_mem _ hy)
    rw [List.forIn_cons]
    by_cases hk : (k == NameKind.free) = true
    · obtain ⟨c, hc⟩ := h (n, k) List.mem_cons_self (by simpa using hk)
      have e1 : cellOf env n = pure c := by unfold cellOf; rw [hc]
      simp only [hk, if_true, e1, pure_bind]
      rw [hr]
      unfold clGo
      rw [if_pos hk, hc]
      conv => rhs; unfold clGo
      rfl
    · simp only [hk, if_false, pure_bind, Bool.false_eq_true]
      rw [hr]
      conv => rhs; unfold clGo
      rw [if_neg hk]
theorem closure_of {scope : Scope} {env : Env} (h : ∀ y ∈ scope.names, y.2 = .free → ∃ c, env.cells.lookup y.1 = some c) : closureFor scope env = pure (clOf scope env) := by
  unfold closureFor clOf
  rw [← clGo_eq scope.names [] h]
  simp
theorem clGo_lookup {cells : List (Str × Addr)} {x : Str} {c : Addr} : ∀ (names : List (Str × NameKind)) (cs : List (Str × Addr)), (∀ y ∈ names, y.2 = .free → ∃ d, cells.lookup y.1 = some d) → (∀ d, cs.lookup x = some d → cells.lookup x = some d) →
    (clGo cells names cs).lookup x = some c → cells.lookup x = some c
  | [], cs, _, hc, h => hc c h
  | (n, k) :: r, cs, hn, hc, h => by
    unfold clGo at h
    refine clGo_lookup r _ (fun y hy => hn y (List.mem_cons_of_mem _ hy)) ?_ h
    intro d hd
    by_cases hk : (k == NameKind.free) = true
    · rw [if_pos hk] at hd
      obtain ⟨e, he⟩ := hn (n, k) List.mem_cons_self (by simpa using hk)
      simp only at he
      rw [List.lookup_cons] at hd
      cases hx : x == n with
      | true =>
        have : x = n := by simpa using hx
        subst this
        rw [hx] at hd
        simp only [Option.some.injEq] at hd
        rw [he] at hd ⊢
        simp at hd
        rw [hd]
      | false =>
        rw [hx] at hd
        exact hc d hd
    · rw [if_neg hk] at hd
      exact hc d hd
theorem clGo_has {cells : List (Str × Addr)} {x : Str} : ∀ (names : List (Str × NameKind)) (cs : List (Str × Addr)), ((x, NameKind.free) ∈ names ∨ ∃ d, cs.lookup x = some d) → ∃ d, (clGo cells names cs).lookup x = some d
  | [], cs, h => by
    rcases h with h | h
    · cases h
    · exact h
  | (n, k) :: r, cs, h => by
    unfold clGo
    refine clGo_has r _ ?_
    rcases h with h | ⟨d, h⟩
    · rcases List.mem_cons.mp h with e | h
      · cases e
        exact .inr ⟨_, by rw [if_pos (by rfl), List.lookup_cons, beq_self_eq_true]⟩
      · exact .inl h
    · refine .inr ?_
      split
      · rw [List.lookup_cons]
        cases hx : x == n with
        | true => exact ⟨_, rfl⟩
        | false => exact ⟨d, h⟩
      · exact ⟨d, h⟩
theorem mem_relabel {scope : Scope} {env : Env} {x : Str} {k : NameKind} (h : (relabel scope env).names.lookup x = some k) (hk : k = .cell ∨ k = .free) (hc : ∀ y ∈ scope.names, y.2 ≠ .cell) : (x, NameKind.free) ∈ scope.names := by
  have hm := PySem.mem_of_lookup h
  unfold relabel at hm
  obtain ⟨⟨n, k'⟩, hy, e⟩ := List.mem_map.mp hm
  by_cases q : (k' == NameKind.free && env.scope.kind == .function && env.kindOf n == some .cell) = true
  · simp only [q, if_true] at e
    cases e
    have : k' = .free := by
      simp only [Bool.and_eq_true, beq_iff_eq] at q
      exact q.1.1
    subst this
    exact hy
  · simp only [q, if_false, Bool.false_eq_true] at e
    cases e
    rcases hk with rfl | rfl
    · exact absurd rfl (hc _ hy)
    · exact hy
def lift (ix : List (Option Nat)) (σ : St) : St := ix.map fun o => match o with
  | none => none
  | some i => match σ[i]? with
    | some v => v
    | none => none
structure CompScope (X : Cx) (scope : Scope) (N : List Str) (ix : List (Option Nat)) : Prop where
  kind : scope.kind = .function
  nocell : ∀ y ∈ scope.names, y.2 ≠ .cell
  locs : ∀ y ∈ scope.names, y.2 = .local → scope.names.lookup y.1 = some .local
  free : ∀ y ∈ scope.names, y.2 = .free → X.env.kindOf y.1 = some .cell ∨ X.env.kindOf y.1 = some .free
  len : ix.length = N.length
  nd : N.Nodup
  from' : ∀ j i : Nat, ix[j]? = some (some i) → ∃ x, N[j]? = some x ∧ X.N[i]? = some x ∧ (X.env.kindOf x = some .cell ∨ X.env.kindOf x = some .free) ∧ ((relabel scope X.env).names.lookup x = some .cell ∨ (relabel scope X.env).names.lookup x = some .free)
def compCx (X : Cx) (scope : Scope) (N : List Str) (s₀ : Shared) (H₀ : Hp) (C : Addr) (ex : List Addr) : Cx where
  prog := X.prog
  w := X.w
  K := X.K
  mg := X.mg
  base := X.base
  A := X.A
  N := N
  s₀ := s₀
  H₀ := H₀
  env := compEnvC scope (clOf scope X.env) C X.env
  outer := X.stack
  stack := X.stack
  ex := ex
  fn := fun _ => false
  calm := X.calm
  pn := []
  xe := fun _ _ => False
section
variable {X : Cx} {pins : List (Addr × Obj)} {σ : St} {H : Hp} {s : Shared} {scope : Scope} {N : List Str} {ix : List (Option Nat)}
theorem CompScope.cells (S : CompScope X scope N ix) (I : Inv X pins σ H s) : ∀ y ∈ scope.names, y.2 = .free → ∃ c, X.env.cells.lookup y.1 = some c := fun y hy hk => I.ok.has y.1 (S.free y hy hk)
theorem CompScope.sub (S : CompScope X scope N ix) (I : Inv X pins σ H s) {x : Str} {c : Addr} (h : (clOf scope X.env).lookup x = some c) : X.env.cells.lookup x = some c :=
  clGo_lookup scope.names [] (S.cells I) (fun d h => by simp at h) h
theorem CompScope.start (S : CompScope X scope N ix) (I : Inv X pins σ H s) {fp : List Addr} {C D : Addr} {h' : Heap} {tk : Nat} (hf : ∀ b ∈ fp, FpOk X pins H b) (hfo : ∀ b ∈ fp, ∃ o, s.heap.get? b = some o) (hD : D = s.heap.objs.size) (hC : s.heap.objs.size < C)
    (k : ∀ b o, s.heap.get? b = some o → h'.get? b = some o) (hn : h'.Ns C fun _ => none) : Inv (compCx X scope N s H C (D :: fp)) [] (lift ix σ) H { s with heap := h', toks := tk } := by
  have ltC : ∀ x c, X.env.cells.lookup x = some c → c < s.heap.objs.size := fun x c e => let ⟨v, q⟩ := I.cell x c e; q.lt
  refine ⟨⟨I.ok.mod, S.kind, I.ok.glob, I.ok.blt, Nat.le_of_lt hC, fun x y c h1 h2 => I.ok.inj x y c (S.sub I h1) (S.sub I h2), fun x hx => ?_, fun x c z => ?_, I.ok.hd, I.ok.frames, .inl rfl, fun b hb => ?_, I.bs, Nat.le_trans I.ok.bsz I.sz, fun b o e hb => ?_, fun b hb hb' => ?_, I.stack, I.stkFree⟩,
    rfl, I.bare, Un.kept k, ⟨_, hn, fun j x v e1 e2 e3 => ?_⟩, fun x c e => ?_, I.hok.fresh (Nat.le_of_lt hC), fun x c e => I.freeC x c (S.sub I e), fun p hp => absurd (show p ∈ ([] : List (Addr × Obj)) from hp) (by simp), I.hok.kept k, ?_⟩
  · have hx : (relabel scope X.env).names.lookup x = some .cell ∨ (relabel scope X.env).names.lookup x = some .free := hx
    have hm : (x, NameKind.free) ∈ scope.names := by
      rcases hx with h | h
      · exact mem_relabel h (.inl rfl) S.nocell
      · exact mem_relabel h (.inr rfl) S.nocell
    exact clGo_has _ _ (.inl hm)
  · cases z
  · rcases List.mem_cons.mp hb with e | hb
    · subst e
      subst hD
      exact ⟨Nat.ne_of_lt hC, fun x c e z => absurd (ltC x c (S.sub I e)) (by rw [z]; exact Nat.lt_irrefl _)⟩
    · obtain ⟨o, e⟩ := hfo b hb
      exact ⟨Nat.ne_of_lt (Nat.lt_trans (Heap.lt_size e) hC), fun x c e => (hf b hb).2.2.2.2.1 x c (S.sub I e)⟩
  · have lb := Nat.lt_of_lt_of_le (Heap.lt_size e) I.ok.bsz
    rcases List.mem_cons.mp hb with z | hb
    · subst z
      subst hD
      exact absurd (Nat.lt_of_lt_of_le lb I.sz) (Nat.lt_irrefl _)
    · rcases (hf b hb).2.2.2.1 with z | z
      · exact I.ok.noex b o e z
      · exact absurd (Nat.lt_of_lt_of_le lb z) (Nat.lt_irrefl _)
  · have hs := I.stkSub b hb'
    rcases List.mem_cons.mp hb with z | hb
    · subst z
      subst hD
      rcases List.mem_cons.mp hs with z | z
      · exact absurd I.lt (by rw [← z]; exact Nat.lt_irrefl _)
      · exact I.nofs (Nat.le_refl _) z
    · rcases List.mem_cons.mp hs with z | z
      · exact (hf b hb).2.1 z
      · exact (hf b hb).2.2.1 z
  · unfold lift at e2
    rw [List.getElem?_map] at e2
    cases q : ix[j]? with
    | none => rw [q] at e2; cases e2
    | some o =>
      rw [q] at e2
      cases o with
      | none => cases e2
      | some i =>
        obtain ⟨y, f1, f2, f3, f4⟩ := S.from' j i q
        have e1' : N[j]? = some x := e1
        rw [f1] at e1'
        cases e1'
        simp only [Option.map_some, Option.some.injEq] at e2
        cases q2 : σ[i]? with
        | none => rw [q2] at e2; cases e2
        | some w =>
          rw [q2] at e2
          simp only at e2
          subst e2
          obtain ⟨m, hm, hl⟩ := I.loc
          have vis : Vis X.env.scope x := by
            rcases f3 with z | z
            · exact .inr (.inl z)
            · exact .inr (.inr z)
          obtain ⟨u, r, l⟩ := hl i x v f2 q2 vis
          refine ⟨u, r, .inr ⟨f4, ?_⟩⟩
          rcases l with ⟨l1, _⟩ | ⟨_, c, hc, hcell⟩
          · rw [l1] at f3
            rcases f3 with z | z <;> cases z
          · have hmf : (x, NameKind.free) ∈ scope.names := by
              rcases f4 with h | h
              · exact mem_relabel h (.inl rfl) S.nocell
              · exact mem_relabel h (.inr rfl) S.nocell
            obtain ⟨d, hd⟩ := clGo_has (cells := X.env.cells) scope.names [] (.inl hmf)
            have hd' := S.sub I hd
            rw [hc] at hd'
            cases hd'
            refine ⟨c, hd, ?_⟩
            obtain ⟨o, ho, hod⟩ := hcell
            exact ⟨o, k _ _ ho, hod⟩
  · obtain ⟨v, o, ho, hod⟩ := I.cell x c (S.sub I e)
    exact ⟨v, o, k _ _ ho, hod⟩
  · show (lift ix σ).length = N.length
    unfold lift
    rw [List.length_map, S.len]
end
end L2
set_option Elab.async false
set_option linter.all false
set_option maxRecDepth 100000
namespace L2
open PySem PySem.Spec PyProof.Rows
theorem codeAny_compLoop_own {prog : Program} {w : World} {A : Around} {R : Result → Shared → Prop} {s : Shared} {elt target iter : Expr} {ifs : List Expr} {scope : Scope} {pos : Pos} {it acc : Value} {env : Env} (I : Nat → Shared → Prop)
    (turn : ∀ n s, I n s → wpAny (model prog w) A (pyNext it) (fun r s₁ => match r with
      | none => R (.ok .next) s₁
      | some v => wpAny (model prog w) A (letOwnedTupleGo target it v) (fun _ s₁' => wpAny (model prog w) A (assign target env v) (fun _ s₂ =>
          wpAny (model prog w) A (forIn ifs true fun c r => if r = true then do let ok ← isTrue c env (eval c env); pure (ForInStep.yield ok) else pure (ForInStep.yield r)) (fun ok s₃ =>
            if ok = true then wpAny (model prog w) A (eval elt env) (fun x s₄ =>
              wpAny (model prog w) A (call (.builtin "list.append") [acc, x]) (fun _ s₅ => ∃ m, m < n ∧ I m s₅) (fun _ _ => False) s₄) (fun _ _ => False) s₃
            else ∃ m, m < n ∧ I m s₃) (fun _ _ => False) s₂) (fun _ _ => False) s₁') (fun _ _ => False) s₁) (fun _ _ => False) s)
    (n : Nat) (h : I n s) :
    codeAny (model prog w) A (.compLoop (.ListComp elt [⟨target, iter, ifs, 0⟩] scope pos) 0 it acc env) R s := by
  refine codeAny_loop rfl I (fun n s hI => ?_) n h
  show wpAny _ A ((compTurn (.ListComp elt [⟨target, iter, ifs, 0⟩] scope pos) 0 it acc env).onRaise (fun x => do noteFrame x env; theTreesLotGoes x)) _ _ s
  refine wpAny_noted ?_
  rw [compTurn_list]
  refine wpAny_bind (wpAny_standAt (wpAny_bind (wpAny_mono (turn n s hI) (fun r s₁ h₁ => ?_) fun _ _ h' => h'.elim)))
  cases r with
  | none => exact wpAny_pure h₁
  | some v =>
    refine wpAny_bind (wpAny_mono h₁ (fun _ s₁' h₁' => ?_) fun _ _ h' => h'.elim)
    refine wpAny_bind (wpAny_mono h₁' (fun _ s₂ h₂ => wpAny_bind (wpAny_mono h₂ (fun ok s₃ h₃ => ?_) fun _ _ h' => h'.elim)) fun _ _ h' => h'.elim)
    cases ok with
    | false => exact wpAny_pure ⟨rfl, h₃⟩
    | true =>
      exact wpAny_bind (wpAny_bind (wpAny_mono h₃ (fun x s₄ h₄ => wpAny_bind (wpAny_mono h₄ (fun _ s₅ h₅ => wpAny_pure (wpAny_pure ⟨rfl, h₅⟩)) fun _ _ h' => h'.elim)) fun _ _ h' => h'.elim))
def PIfs (X : Cx) (ifs : List Expr) (t : TT) : Prop :=
  ∀ (pins : List (Addr × Obj)) (s : Shared) (σ : St) (H : Hp) (Q : Bool → Hp → Prop), Inv X pins σ H s → t σ H Q →
    wpAny (model X.prog X.w) X.A (forIn ifs true fun c r => if r = true then do let ok ← isTrue c X.env (eval c X.env); pure (ForInStep.yield ok) else pure (ForInStep.yield r)) (TP X pins σ Q) X.xe s
theorem pifs_one {X : Cx} {c : Expr} {t : TT} (h : PT X c t) : PIfs X [c] t := fun pins s σ H Q I q => wpAny_tests_one (h pins s σ H Q I q)
def Ext (σ σ' : St) : Prop := σ.length = σ'.length ∧ ∀ (i : Nat) (v : V), σ[i]? = some (some v) → σ'[i]? = some (some v)
theorem Ext.refl (σ : St) : Ext σ σ := ⟨rfl, fun _ _ h => h⟩
theorem Ext.set {σ σ' : St} {j : Nat} {v : V} (e : Ext σ σ') (h : σ[j]? = some none) : Ext σ (σ'.set j (some v)) := by
  refine ⟨by rw [List.length_set]; exact e.1, fun i u q => ?_⟩
  have hne : j ≠ i := fun z => by subst z; rw [h] at q; cases q
  rw [List.getElem?_set_ne hne]
  exact e.2 i u q
theorem lift_none {ix : List (Option Nat)} {σ : St} {j : Nat} (h : ix[j]? = some none) : (lift ix σ)[j]? = some none := by
  unfold lift
  rw [List.getElem?_map, h]
  rfl
def GFree (ix : List (Option Nat)) (g : TG) : Prop := ∀ (v : V) (σ : St) (H : Hp) (Q : St → Hp → Prop), g v (lift ix σ) H Q → g v (lift ix σ) H fun σ2 H2 => Q σ2 H2 ∧ Ext (lift ix σ) σ2
theorem gfree_name {ix : List (Option Nat)} {j : Nat} (h : ix[j]? = some none) : GFree ix (gName j) := fun v σ H Q q => ⟨q, (Ext.refl _).set (lift_none h)⟩
def tComp (ix : List (Option Nat)) (wi : TI) (g : TG) (tc : TT) (te : TE) : TE := fun σ H Q => wi σ H fun J H1 => ∃ W : Nat → Nat → List V → Hp → Prop, (∃ m, W 0 m [] H1) ∧ ∀ i m ys H, W i m ys H →
  (J.stop i H ∧ ys.length ≤ sizeLine ∧ ∀ p, H p = none → Q (.ref p) (upd H p (.lst ys))) ∨
  (J.go i H ∧ ys.length < sizeLine ∧ ∃ N : List V → Hp → Prop, (∀ ys' H', N ys' H' → ∃ m', m' < m ∧ W (i + 1) m' ys' H') ∧ ∀ x H', J.yld i H x H' → g x (lift ix σ) H' fun σ2 H2 => tc σ2 H2 fun b H3 => if b = true then te σ2 H3 fun v H4 => N (ys ++ [v]) H4 else N ys H3)
theorem comp_end {X : Cx} {pins pins' : List (Addr × Obj)} {σ σ' : St} {H2 H' : Hp} {s2 s4 : Shared} {scope : Scope} {N : List Str} {C D : Addr} {fp : List Addr} {h' : Heap} {ys : List V} {its : List Value} {n : Nat}
    (I2 : Inv X pins σ H2 s2) (I' : Inv (compCx X scope N s2 H2 C (D :: fp)) pins' σ' H' s4) (f2 : ∀ b ∈ fp, FpOk X pins H2 b) (hD : D = s2.heap.objs.size) (hC : s2.heap.objs.size < C) (hDC : D ≠ C)
    (hs : Heap.SameBut C s4.heap h') (eD : s4.heap.get? D = some { cls := .type "list", data := .seq its.toArray n }) (fD : H' D = none) (rv : Vals ys its) (hz : ys.length ≤ sizeLine) :
    Inv X pins σ (upd H' D (.lst ys)) { s4 with heap := h' } := by
  have lt : ∀ b o, s2.heap.get? b = some o → b ≠ D ∧ b ≠ C := fun b o e =>
    ⟨by rw [hD]; exact Nat.ne_of_lt (Heap.lt_size e), Nat.ne_of_lt (Nat.lt_trans (Heap.lt_size e) hC)⟩
  have nex : ∀ b o, s2.heap.get? b = some o → b ∉ fp → b ∉ D :: fp := fun b o e hb z => by
    rcases List.mem_cons.mp z with z | z
    · exact (lt b o e).1 z
    · exact hb z
  have nD : ∀ b u, H' b = some u → b ≠ D := fun b u e => ne_of_none e fD
  have nC : ∀ b u, H' b = some u → b ≠ C := fun b u e => ne_of_none e I'.free
  have u := I'.base
  refine I2.call' (ch := fp) (show s4.os = s2.os from I'.os) ⟨fun b o e n hb hx => ?_, fun b o e n hb hx => ?_, fun b o e n hx => ?_, fun b o e hx => ?_, fun b xs e => ?_, fun b o xs e => ?_, fun b ps e => ?_⟩ (fun b o e => ?_) I'.bare fun b hb => ⟨(f2 b hb).2.2.2.1, (f2 b hb).2.1, (f2 b hb).2.2.2.2.1, (f2 b hb).2.2.2.2.2⟩
  · exact (hs.2 b (lt b o e).2).trans (u.keep b o e n hb (nex b o e hx))
  · obtain ⟨sl, q⟩ := u.slot b o e n hb (nex b o e hx)
    exact ⟨sl, (hs.2 b (lt b o e).2).trans q⟩
  · rw [upd_ne (lt b o e).1]
    exact u.free b o e n (nex b o e hx)
  · obtain ⟨o', q⟩ := u.there b o e (nex b o e hx)
    exact ⟨o', (hs.2 b (lt b o e).2).trans q⟩
  · have q := u.tups b xs e
    rw [upd_ne (nD b _ q)]
    exact q
  · have q := u.frzs b o xs e
    rw [upd_ne (nD b _ q)]
    exact q
  · obtain ⟨m, q⟩ := u.tbls b ps e
    exact ⟨m, by rw [upd_ne (nD b _ q)]; exact q⟩
  · by_cases hb : b = D
    · subst hb
      rw [upd_same] at e
      cases e
      exact ⟨hz, its, n, rv, (hs.2 b hDC).trans eD⟩
    · rw [upd_ne hb] at e
      refine (I'.hok b o e).stay (fun c v hc q => (hs.2 c ?_).trans q) (fun c q => by rw [upd_ne (nD c _ q)]; exact q) fun c xs q => by rw [upd_ne (nD c _ q)]; exact q
      rcases hc with z | z
      · rw [z]; exact nC b o e
      · exact nC c _ z
section
variable {X : Cx} {elt tg iter : Expr} {ifs : List Expr} {scope : Scope} {pos : Pos} {wi : TI} {g : TG} {tc : TT} {te : TE} {N : List Str} {ix : List (Option Nat)}
theorem comp_core {pins : List (Addr × Obj)} {σ : St} {Q : VK} {s2 : Shared} {itv : Value} {Rr : Value → Addr → Result → Shared → Prop} (S : CompScope X scope N ix) (hc : X.calm = true) (hG : GFree ix g)
    (hb : ∀ (s₀ : Shared) (H₀ : Hp) (C : Addr) (ex : List Addr), PG (compCx X scope N s₀ H₀ C ex) tg g ∧ PIfs (compCx X scope N s₀ H₀ C ex) ifs tc ∧ PE (compCx X scope N s₀ H₀ C ex) elt te)
    (h2 : PIE X pins σ tg (fun J H1 => ∃ W : Nat → Nat → List V → Hp → Prop, (∃ m, W 0 m [] H1) ∧ ∀ i m ys H, W i m ys H →
      (J.stop i H ∧ ys.length ≤ sizeLine ∧ ∀ p, H p = none → Q (.ref p) (upd H p (.lst ys))) ∨
      (J.go i H ∧ ys.length < sizeLine ∧ ∃ N : List V → Hp → Prop, (∀ ys' H', N ys' H' → ∃ m', m' < m ∧ W (i + 1) m' ys' H') ∧ ∀ x H', J.yld i H x H' → g x (lift ix σ) H' fun σ2 H2 => tc σ2 H2 fun b H3 => if b = true then te σ2 H3 fun v H4 => N (ys ++ [v]) H4 else N ys H3)) itv s2)
    (hR : ∀ (s4 : Shared) (H' : Hp) (D C : Addr) (m : Str → Option Value) (ys : List V), s4.heap.Ns C m → FpOk X pins H' C → (∀ h', Heap.SameBut C s4.heap h' → Inv X pins σ (upd H' D (.lst ys)) { s4 with heap := h' }) → Inv X pins σ (upd H' D (.lst ys)) s4 → D ≠ C → Q (.ref D) (upd H' D (.lst ys)) → Rr (.ref D) C (.ok .next) s4) :
    wpAny (model X.prog X.w) X.A (newList []) (fun acc s₃ => wpAny (model X.prog X.w) X.A (newFunctionEnv scope X.env.globals (clOf scope X.env) [] X.env.qual none .none (some X.env)) (fun cenv s₄ =>
      codeAny (model X.prog X.w) X.A (.compStart (.ListComp elt [⟨tg, iter, ifs, 0⟩] scope pos) 0 itv acc { cenv with scope := relabel scope X.env }) (Rr acc cenv.locals) s₄) X.xe s₃) X.xe s2 := by
  obtain ⟨it, fp, tn, J, H2, e, I2, T, st2, f2, W, ⟨m0, w0⟩, turn⟩ := h2
  subst e
  have fo : ∀ b ∈ fp, ∃ o, s2.heap.get? b = some o := fun b hb => let ⟨o, e, _⟩ := T.obj _ _ st2 b hb; ⟨o, e⟩
  refine wpAny_newObj_type (wpAny_newFunctionEnv S.nocell (by intro y hy; simp at hy) (fun h₁ hns₁ hsb₁ => ?_) S.kind)
  dsimp only at hns₁ hsb₁ ⊢
  generalize hH2 : s2.heap.push { cls := .type "list", dict := none, data := .seq ([] : List Value).toArray } = HH at hns₁ hsb₁ ⊢
  have hC : HH.objs.size = s2.heap.objs.size + 1 := by rw [← hH2, Heap.size_push]
  generalize hCC : HH.objs.size = C at hns₁ hsb₁ hC ⊢
  generalize hDD : s2.heap.objs.size = D at hC ⊢
  have hlt : s2.heap.objs.size < C := by rw [hDD, hC]; exact Nat.lt_succ_self _
  have hDC : D ≠ C := by rw [hC]; exact Nat.ne_of_lt (Nat.lt_succ_self _)
  have old : ∀ b o, s2.heap.get? b = some o → h₁.get? b = some o := fun b o e =>
    hsb₁.extBut b o (Nat.ne_of_lt (Nat.lt_trans (Heap.lt_size e) hlt)) (Heap.get?_push_of_some _ (hH2 ▸ Heap.get?_push_of_some _ e))
  have hacc : h₁.PlainList D #[] := ⟨_, hsb₁.extBut _ _ hDC (Heap.get?_push_of_some _ (hH2 ▸ hDD ▸ Heap.get?_push_size _ rfl))⟩
  have hns₂ : h₁.Ns C fun _ => none := hns₁
  have I4 := S.start (tk := s2.toks + ([] : List (Str × Value)).length) I2 f2 fo hDD.symm hlt old hns₂
  obtain ⟨hg, hif, hel⟩ := hb s2 H2 C (D :: fp)
  -- the records of the loop in the block's context
  have stat : ∀ {H' : Hp}, (∀ b ∈ D :: fp, H' b = none) → ∀ b ∈ D :: fp, FpOk (compCx X scope N s2 H2 C (D :: fp)) [] H' b := fun hn b hb =>
    ⟨hn b hb, (I4.ok.exf b hb).1, I4.ok.exfs b hb, .inl hb, (I4.ok.exf b hb).2, fun p hp => absurd (show p ∈ ([] : List (Addr × Obj)) from hp) (by simp)⟩
  have sub : ∀ b ∈ fp, b ∈ D :: fp := fun b hb => List.mem_cons_of_mem _ hb
  have nDf : ∀ b ∈ fp, b ≠ D := fun b hb z => by
    obtain ⟨o, e⟩ := fo b hb
    exact absurd (Heap.lt_size e) (by rw [z, hDD]; exact Nat.lt_irrefl _)
  have free0 : ∀ b ∈ D :: fp, H2 b = none := fun b hb => by
    rcases List.mem_cons.mp hb with z | hb
    · rw [z]; exact I2.hok.fresh (Nat.le_of_eq hDD)
    · exact (f2 b hb).1
  have loop : ∀ s₃ : Shared, s₃ = { s2 with heap := h₁, toks := s2.toks + ([] : List (Str × Value)).length } →
      codeAny (model X.prog X.w) X.A (.compLoop (.ListComp elt [⟨tg, iter, ifs, 0⟩] scope pos) 0 (.ref it) (.ref D) (compEnvC scope (clOf scope X.env) C X.env))
        (Rr (.ref D) C) s₃ := by
    rintro s₃ rfl
    refine codeAny_compLoop_own (fun n s' => ∃ i H' ys its, Inv (compCx X scope N s2 H2 C (D :: fp)) [] (lift ix σ) H' s' ∧ tn i s'.heap ∧ (∀ b ∈ D :: fp, H' b = none) ∧ s'.heap.PlainList D (List.toArray its) ∧ Vals ys its ∧ W i n ys H') ?_ m0
      ⟨0, H2, [], [], I4, T.keep _ _ _ st2 fun b _ o e => old b o e, free0, hacc, .nil, w0⟩
    rintro n s3 ⟨i, H3, ys, its, I3, st3, fr3, pl3, rv3, w3⟩
    obtain ⟨kk, plE⟩ := pl3
    have pinD : ∀ {pp : List (Addr × Obj)} {σ' : St} {H' : Hp} {s' : Shared}, Inv (compCx X scope N s2 H2 C (D :: fp)) pp σ' H' s' → H' D = none → s'.heap.get? D = some { cls := .type "list", data := .seq its.toArray kk } →
        Inv (compCx X scope N s2 H2 C (D :: fp)) [(D, { cls := .type "list", data := .seq its.toArray kk })] σ' H' s' := fun {pp σ' H' s'} J f e => J.pins_of fun p hp => by
      have z : p = (D, { cls := .type "list", data := .seq its.toArray kk }) := by simpa using hp
      subst z
      exact ⟨e, f, (J.ok.exf D List.mem_cons_self).1, J.ok.exfs D List.mem_cons_self, fun v z => by cases z⟩
    have fpD : ∀ {H' : Hp}, (∀ b ∈ D :: fp, H' b = none) → ∀ b ∈ fp, FpOk (compCx X scope N s2 H2 C (D :: fp)) [(D, { cls := .type "list", data := .seq its.toArray kk })] H' b := fun hn b hb => by
      obtain ⟨a1, a2, a3, a4, a5, a6⟩ := stat hn b (sub b hb)
      refine ⟨a1, a2, a3, a4, a5, fun p hp => ?_⟩
      have z : p = (D, { cls := .type "list", data := .seq its.toArray kk }) := by simpa [compCx] using hp
      subst z
      exact (nDf b hb).symm
    have frD : H3 D = none := fr3 D List.mem_cons_self
    rcases turn i n ys H3 w3 with ⟨stop, hz, qn⟩ | ⟨go, hz, NN, hN, step⟩
    · refine thn (T.done (compCx X scope N s2 H2 C (D :: fp)) rfl rfl rfl hc i _ s3 _ H3 (fun _ _ => False) (pinD I3 frD plE) (fpD fr3) st3 stop) fun r s4 ⟨hr, I4'⟩ => ?_
      subst hr
      obtain ⟨m, hm, _⟩ := I4'.loc
      have eD := (I4'.pin (D, _) (List.mem_append_right _ List.mem_cons_self)).1
      have fin : ∀ h', Heap.SameBut C s4.heap h' → Inv X pins σ (upd H3 D (.lst ys)) { s4 with heap := h' } := fun h' hs' => comp_end I2 I4' f2 hDD.symm hlt hDC hs' eD frD rv3 hz
      have hC0 : s2.heap.objs.size ≤ C := Nat.le_of_lt hlt
      have fC : FpOk X pins H3 C := by
        have q := I2.fpOk (H' := H3) hC0 I4'.free
        exact q
      exact hR s4 H3 D C m ys hm fC fin (by simpa using fin s4.heap (Heap.SameBut.refl ..)) hDC (qn D frD)
    · refine thn (T.item (compCx X scope N s2 H2 C (D :: fp)) rfl rfl rfl hc i _ s3 _ H3 (fun _ _ => False) (pinD I3 frD plE) (fpD fr3) st3 go) fun r s4 ⟨u, hr, h4⟩ => ?_
      subst hr
      refine thn h4 fun _ s5 ⟨x, H5, I5, r5, y5, st5, fr5⟩ => ?_
      have eD5 := (I5.pin (D, _) (List.mem_append_right _ List.mem_cons_self))
      have fr5' : ∀ b ∈ D :: fp, H5 b = none := fun b hb => by
        rcases List.mem_cons.mp hb with z | hb
        · rw [z]; exact eD5.2.1
        · exact fr5 b hb
      have I5' : Inv (compCx X scope N s2 H2 C (D :: fp)) ([] ++ pinsAt (D :: fp) s5.heap) (lift ix σ) H5 s5 := (I5.unpinned (pins := []) (pl := [_])).pinned (stat fr5') fun b hb => by
        rcases List.mem_cons.mp hb with z | hb
        · rw [z]; exact ⟨_, eD5.1, fun v z => by cases z⟩
        · exact T.obj _ _ st5 b hb
      -- what stays behind the turn
      have back : ∀ {σ7 : St} {H7 : Hp} {s7 : Shared}, Inv (compCx X scope N s2 H2 C (D :: fp)) ([] ++ pinsAt (D :: fp) s5.heap) σ7 H7 s7 → Ext (lift ix σ) σ7 →
          Inv (compCx X scope N s2 H2 C (D :: fp)) [] (lift ix σ) H7 s7 ∧ tn (i + 1) s7.heap ∧ (∀ b ∈ D :: fp, H7 b = none) ∧ s7.heap.get? D = some { cls := .type "list", data := .seq its.toArray kk } := fun {σ7 H7 s7} I7 ex => by
        have keepAt : ∀ b ∈ D :: fp, ∀ o, s5.heap.get? b = some o → s7.heap.get? b = some o ∧ H7 b = none := fun b hb o e =>
          ⟨(I7.pin (b, o) (List.mem_append_right _ (List.mem_append_right _ (mem_pinsAt hb e)))).1, (I7.pin (b, o) (List.mem_append_right _ (List.mem_append_right _ (mem_pinsAt hb e)))).2.1⟩
        refine ⟨I7.unpinned.weak ex.1 ex.2, T.keep _ _ _ st5 fun b hb o e => (keepAt b (sub b hb) o e).1, fun b hb => ?_, (keepAt D List.mem_cons_self _ eD5.1).1⟩
        rcases List.mem_cons.mp hb with z | hb'
        · rw [z]; exact (keepAt D List.mem_cons_self _ eD5.1).2
        · obtain ⟨o, e, _⟩ := T.obj _ _ st5 b hb'
          exact (keepAt b hb o e).2
      refine thn (hg _ s5 _ H5 x u _ I5' r5 (hG _ _ _ _ (step x H5 y5))) fun _ s6 ⟨σ6, H6, I6, q6, ex6⟩ => ?_
      refine thn (hif _ s6 σ6 H6 _ I6 q6) fun ok s7 ⟨H7, I7, q7⟩ => ?_
      cases ok with
      | false =>
        rw [if_neg Bool.false_ne_true] at q7 ⊢
        obtain ⟨m', hm, w7⟩ := hN _ _ q7
        obtain ⟨J1, J2, J3, J4⟩ := back I7 ex6
        exact ⟨m', hm, i + 1, H7, ys, its, J1, J2, J3, ⟨_, J4⟩, rv3, w7⟩
      | true =>
        rw [if_pos rfl] at q7 ⊢
        refine thn (hel _ s7 σ6 H7 _ I7 q7) fun uv s8 ⟨y, H8, I8, r8, q8⟩ => ?_
        obtain ⟨m', hm, w8⟩ := hN _ _ q8
        obtain ⟨J1, J2, J3, J4⟩ := back I8 ex6
        refine wpAny_list_append_plain (hsz := by rw [List.size_toArray, ← rv3.length]; exact Nat.le_of_lt hz) ⟨_, J4⟩ fun h₉ hl₉ hs₉ => ?_
        obtain ⟨a1, a2, a3, a4, a5, a6⟩ := stat J3 D List.mem_cons_self
        refine ⟨m', hm, i + 1, H8, ys ++ [y], its ++ [uv], J1.turned (t' := s8.toks) (fun b o hb e => hs₉.extBut b o hb e) a1 a2 a4 a5 a6, T.keep _ _ _ J2 fun b hb o e => hs₉.extBut b o (nDf b hb) e, J3, by simpa using hl₉, rv3.append (.cons r8 .nil), w8⟩
  exact codeAny_compStart_list (loop _ rfl) (T.self _ 0 _ _ _ (T.keep _ _ _ st2 fun b _ o e => old b o e) (loop _ rfl))
theorem pe_comp (S : CompScope X scope N ix) (hc : X.calm = true) (hi : PI X tg iter wi) (hG : GFree ix g)
    (hb : ∀ (s₀ : Shared) (H₀ : Hp) (C : Addr) (ex : List Addr), PG (compCx X scope N s₀ H₀ C ex) tg g ∧ PIfs (compCx X scope N s₀ H₀ C ex) ifs tc ∧ PE (compCx X scope N s₀ H₀ C ex) elt te)
    (hs : ∀ x, foldedSetIterable iter X.env x = pure x := by intro _; rfl) : PE X (.ListComp elt [⟨tg, iter, ifs, 0⟩] scope pos) (tComp ix wi g tc te) := by
  intro pins s σ H Q I h
  rw [eval_ListComp]
  refine wpAny_comprehension_free (use := none) rfl hs (closure_of (S.cells I)) S.kind S.locs ?_
  refine thn (hi pins s σ H _ I h) fun v s1 h1 => thn h1 fun itv s2 h2 => ?_
  refine comp_core (Rr := fun acc C => compPost (model X.prog X.w) X.A X.xe none (EP X pins σ Q) acc C) S hc hG hb h2 ?_
  intro s4 H' D C m ys hm _ fin _ _ q
  exact ⟨m, hm, fun h' hs' => ⟨.ref D, _, fin h' hs', rfl, q⟩⟩
theorem ps_setC {y : Str} {py spos : Pos} {i : Nat} (hN : X.N.Nodup) (hi : X.N[i]? = some y) (hy : Loc X.env.scope y) (S : CompScope X scope N ix) (hc : X.calm = true) (hit : PI X tg iter wi) (hG : GFree ix g)
    (hb : ∀ (s₀ : Shared) (H₀ : Hp) (C : Addr) (ex : List Addr), PG (compCx X scope N s₀ H₀ C ex) tg g ∧ PIfs (compCx X scope N s₀ H₀ C ex) ifs tc ∧ PE (compCx X scope N s₀ H₀ C ex) elt te)
    (hsw : swapsWith (.ListComp elt [⟨tg, iter, ifs, 0⟩] scope pos) (some (.Name y py)) spos.line X.env = pure true := by rfl) (hs : ∀ x, foldedSetIterable iter X.env x = pure x := by intro _; rfl)
    (hf : X.fn y = true ∨ X.env.scope.names.lookup y = some .local := by first | exact .inl rfl | exact .inr rfl | assumption) :
    PS X (.Assign [.Name y py] (.ListComp elt [⟨tg, iter, ifs, 0⟩] scope pos) spos) (tAsg (tComp ix wi g tc te) (gName i)) := by
  intro pins s σ H D0 I h
  rw [exec_Assign_Name_used _ _ _ _ hsw]
  refine wpAny_bind (wpAny_standAt (wpAny_bind ?_))
  show wpAny _ X.A (do let _ ← comprehension (.ListComp elt [⟨tg, iter, ifs, 0⟩] scope pos) scope X.env _ (newList []) false (eval iter X.env) (some (assign (.Name y py) X.env))) _ _ s
  refine wpAny_bind (wpAny_mono (wpAny_comprehension_free (use := some (assign (.Name y py) X.env)) (Q := fun _ s' => SP X pins D0 .next s') rfl hs (closure_of (S.cells I)) S.kind S.locs ?_) (fun _ s' hq => wpAny_pure (wpAny_pure hq)) fun _ _ e => e)
  refine thn (hit pins s σ H _ I h) fun v s1 h1 => thn h1 fun itv s2 h2 => ?_
  refine comp_core (Q := fun x H1 => gName i x σ H1 D0.nx) (Rr := fun acc C => compPost (model X.prog X.w) X.A X.xe (some (assign (.Name y py) X.env)) (fun _ s' => SP X pins D0 .next s') acc C) S hc hG hb h2 ?_
  intro s4 H' D C m ys hm fC _ I4 hDC q
  show wpAny _ X.A (assign (.Name y py) X.env (.ref D)) _ _ _
  obtain ⟨c0, c1, c2, c3, c4, c5⟩ := fC
  refine wpAny_assign_Name (store_ok2 (v := .ref D) I4 hN hi hy rfl (fun s5 I5 hsb => ?_) hf)
  obtain ⟨a, hsa, ha⟩ := hsb
  have haC : C ≠ a := by
    rcases ha with z | z
    · rw [z]; exact c1
    · exact fun e => c4 y a z e.symm
  refine ⟨m, hm.sameBut hsa haC, fun h' hs' => ?_⟩
  have hCn : (upd H' D (.lst ys)) C = none := by rw [upd_ne hDC.symm]; exact c0
  exact ⟨_, _, I5.turned (t' := s5.toks) (fun b o hb e => hs'.extBut b o hb e) hCn c1 c3 c4 c5, q⟩
end
end L2
set_option Elab.async false
set_option linter.all false
set_option maxRecDepth 100000
namespace L2
open PySem PySem.Spec PyProof.Rows
def isiV : V → String → Option Bool
  | .int _, "int" => some true
  | .int _, "bool" => some false
  | .int _, "str" => some false
  | .int _, "list" => some false
  | .int _, "tuple" => some false
  | .int _, "dict" => some false
  | .bl _, "int" => some true
  | .bl _, "bool" => some true
  | .bl _, "str" => some false
  | .bl _, "list" => some false
  | .bl _, "tuple" => some false
  | .bl _, "dict" => some false
  | .str _, "int" => some false
  | .str _, "bool" => some false
  | .str _, "str" => some true
  | .str _, "list" => some false
  | .str _, "tuple" => some false
  | .str _, "dict" => some false
  | _, _ => none
theorem call_isi {X : Cx} : CallR X (.builtin "isinstance") (fun xs H Q => ∃ v T k, xs = [v, .ty T] ∧ isiV v T = some k ∧ Q (.bl k) H) := by
  intro pins s σ H xs us Q I r h
  obtain ⟨v, T, k, rfl, hk, q⟩ := h
  cases r with
  | cons r rr =>
    cases rr with
    | cons r' rr =>
      cases rr
      cases r'
      unfold isiV at hk
      split at hk <;> first
        | (cases hk; done)
        | (cases hk; obtain ⟨t, rfl⟩ := r; first
            | exact IsiPair.int_int ⟨.bl _, H, I, rfl, q⟩
            | exact IsiPair.int_bool ⟨.bl _, H, I.tok _, rfl, q⟩
            | exact IsiPair.int_str ⟨.bl _, H, I.tok _, rfl, q⟩
            | exact IsiPair.int_list ⟨.bl _, H, I.tok _, rfl, q⟩
            | exact IsiPair.int_tuple ⟨.bl _, H, I.tok _, rfl, q⟩
            | exact IsiPair.int_dict ⟨.bl _, H, I.tok _, rfl, q⟩
            | exact IsiPair.str_int ⟨.bl _, H, I.tok _, rfl, q⟩
            | exact IsiPair.str_bool ⟨.bl _, H, I.tok _, rfl, q⟩
            | exact IsiPair.str_str ⟨.bl _, H, I, rfl, q⟩
            | exact IsiPair.str_list ⟨.bl _, H, I.tok _, rfl, q⟩
            | exact IsiPair.str_tuple ⟨.bl _, H, I.tok _, rfl, q⟩
            | exact IsiPair.str_dict ⟨.bl _, H, I.tok _, rfl, q⟩)
        | (cases hk; cases r; first
            | exact IsiPair.bool_int ⟨.bl _, H, I, rfl, q⟩
            | exact IsiPair.bool_int ⟨.bl _, H, I.tok _, rfl, q⟩
            | exact IsiPair.bool_bool ⟨.bl _, H, I, rfl, q⟩
            | exact IsiPair.bool_str ⟨.bl _, H, I.tok _, rfl, q⟩
            | exact IsiPair.bool_list ⟨.bl _, H, I.tok _, rfl, q⟩
            | exact IsiPair.bool_tuple ⟨.bl _, H, I.tok _, rfl, q⟩
            | exact IsiPair.bool_dict ⟨.bl _, H, I.tok _, rfl, q⟩)
end L2
set_option Elab.async false
set_option linter.all false
set_option maxRecDepth 100000
namespace L2
open PySem PySem.Spec PyProof.Rows
section
variable {X : Cx}
def CDivM (i j : Int) : Prop := j ≠ 0 ∧ j.natAbs < 2 ^ 512
theorem op_fdivM : OpR X (binaryOp .FloorDiv) (rI CDivM fun i j => .int (i.fdiv j)) := opI fun i j _ _ _ _ _ hc q => floordiv_int hc.1 q (.inl (PyProof.noPylong_of_log2 (by
  by_cases h0 : j.natAbs = 0
  · rw [h0]; decide +kernel
  · have := (Nat.log2_lt h0).mpr hc.2
    omega)))
theorem op_modM : OpR X (binaryOp .Mod) (rI (fun _ j => j ≠ 0) fun i j => .int (i.fmod j)) := op_modN
theorem comp_scope {scope : Scope} {N : List Str} {ix : List (Option Nat)} (kind : scope.kind = .function) (nocell : (scope.names.all fun y => y.2 != .cell) = true) (locs : (scope.names.all fun y => y.2 != .local || scope.names.lookup y.1 == some .local) = true)
    (free : (scope.names.all fun y => y.2 != .free || X.env.kindOf y.1 == some .cell || X.env.kindOf y.1 == some .free) = true) (len : ix.length = N.length) (nd : N.Nodup)
    (fr : ((ix.zip N).all fun p => match p.1 with
      | none => true
      | some i => X.N[i]? == some p.2 && (X.env.kindOf p.2 == some .cell || X.env.kindOf p.2 == some .free) && ((relabel scope X.env).names.lookup p.2 == some .cell || (relabel scope X.env).names.lookup p.2 == some .free)) = true) : CompScope X scope N ix := by
  refine ⟨kind, fun y hy => ?_, fun y hy hl => ?_, fun y hy hf => ?_, len, nd, fun j i e => ?_⟩
  · have := List.all_eq_true.mp nocell y hy
    simpa using this
  · have := List.all_eq_true.mp locs y hy
    rw [hl] at this
    simpa using this
  · have := List.all_eq_true.mp free y hy
    rw [hf] at this
    simpa using this
  · have hj : j < ix.length := (List.getElem?_eq_some_iff.mp e).1
    have hj' : j < N.length := by omega
    have hm : (ix.zip N)[j]? = some (some i, N[j]) := by
      rw [List.getElem?_zip_eq_some]
      exact ⟨e, by simp [hj']⟩
    have := List.all_eq_true.mp fr _ (List.mem_of_getElem? hm)
    simp only [Bool.and_eq_true, Bool.or_eq_true, beq_iff_eq] at this
    exact ⟨N[j], by simp [hj'], this.1.1, this.1.2, this.2⟩
end
structure Df (K : PySem.W.Frag) (mg : Str → Option Value) (x : Str) (st : Stmt) (ps : List Str) (f : Addr) (fd : FuncData) : Prop where
  fn : Fun K x x st f fd
  b : Binds K fd ps []
  m : mg x = some (.ref f)
section
variable {K : PySem.W.Frag} {a b : Addr} {xs ys : List V} {wi : TI} {g : TG} {tb : TS} {D : Ends} {σ : St} {H H1 : Hp} {ix : List (Option Nat)} {tc : TT} {te : TE} {Q : VK}
end
end L2
set_option Elab.async false
set_option linter.all false
set_option maxRecDepth 100000
namespace L2
open PySem PySem.Spec PyProof.Rows
theorem Inv.turnedTup {X : Cx} {pins : List (Addr × Obj)} {σ : St} {H : Hp} {s : Shared} {h' : Heap} {t' : Nat} {ch : List Addr} {T : Addr} {xs : List V} {its : List Value} (I : Inv X pins σ H s) (hf : ∀ b ∈ ch, FpOk X pins H b)
    (k : ∀ b o, b ∉ ch → s.heap.get? b = some o → h'.get? b = some o) (hT : s.heap.objs.size ≤ T) (eT : IsTup h' T its.toArray) (r : Vals xs its) (hz : xs.length ≤ sizeLine) : Inv X pins σ (upd H T (.tup xs)) { s with heap := h', toks := t' } := by
  have hTn : H T = none := I.hok.fresh hT
  have big : ∀ {c : Addr} {o : Obj}, s.heap.get? c = some o → c ≠ T := fun e => Nat.ne_of_lt (Nat.lt_of_lt_of_le (Heap.lt_size e) hT)
  have trk : ∀ c t, H c = some t → c ∉ ch := fun c t e hc => by rw [(hf c hc).1] at e; cases e
  refine I.step (g' := s.gens) (d' := s.drawn) (ch := ch) (fun c hc => ⟨(hf c hc).2.2.2.1, (hf c hc).2.1, (hf c hc).2.2.2.2.1, (hf c hc).2.2.2.2.2⟩) (fun c o _ _ hc e _ => k c o hc e) (fun c o _ _ hc e _ => ⟨o.slots, k c o hc e⟩) (fun c o hc e n => ?_) (fun c o hc e => ⟨o, k c o hc e⟩) (fun c t e => ?_) (fun c o t e => ?_) (fun c ps e => ?_) (fun m hm => ?_) (fun c t e => ?_) I.bare
  · rw [upd_ne (big e)]; exact n
  · rw [upd_ne (ne_of_none e hTn)]; exact e
  · rw [upd_ne (ne_of_none e hTn)]; exact e
  · exact ⟨#[], by rw [upd_ne (ne_of_none e hTn), e]; simp⟩
  · obtain ⟨o, es, ep, ho, r⟩ := hm
    exact ⟨o, es, ep, k _ o (fun hc => (hf _ hc).2.1 rfl) ho, r⟩
  · by_cases hcT : c = T
    · subst hcT
      rw [upd_same] at e
      cases e
      exact ⟨hz, its, r, eT⟩
    · rw [upd_ne hcT] at e
      refine (I.hok c t e).stay (fun d o hd q => k d o ?_ q) (fun d q => by rw [upd_ne (ne_of_none q hTn)]; exact q) fun d zs q => by rw [upd_ne (ne_of_none q hTn)]; exact q
      rcases hd with hd | hd
      · rw [hd]; exact trk c t e
      · exact trk d _ hd
def Ite (K : PySem.W.Frag) (a : Addr) : It :=
  ⟨fun i H => ∃ xs x, SqL K H a xs ∧ xs[i]? = some x,
   fun i H v H' => ∃ p x, H p = none ∧ v = .ref p ∧ H' = upd H p (.tup [.int i, x]) ∧ ∀ xs, SqL K H a xs → xs[i]? = some x,
   fun i H => ∃ xs, SqL K H a xs ∧ xs.length ≤ i⟩
theorem turn_enum {P : Program} {w : World} {K : PySem.W.Frag} {elts : List Expr} {x1} {pos : Pos} (a e it : Addr) (hei : e ≠ it) :
    Turn P w K (.Tuple elts x1 pos) (Ite K a) [e, it] e (fun i h => (∃ old, IsEnum h e it i old) ∧ h.IsListIter it a i) where
  mem := by simp
  obj := fun i h st c hc => by
    obtain ⟨⟨old, e1⟩, ⟨o4, e4, _, d4⟩⟩ := st
    simp only [List.mem_cons, List.not_mem_nil, or_false] at hc
    rcases hc with rfl | rfl
    · exact ⟨_, e1, fun v z => by cases z⟩
    · exact ⟨o4, e4, fun v z => by rw [d4] at z; cases z⟩
  keep := fun i h h' st k => by
    obtain ⟨⟨old, e1⟩, e4⟩ := st
    exact ⟨⟨old, k e (by simp) _ e1⟩, e4.at fun o q => k it (by simp) o q⟩
  item := by
    intro X hP hw hK hc i pins s σ H E I hf st hg
    subst hP hw hK
    obtain ⟨xs, x, qx, hx⟩ := hg
    obtain ⟨its, rvx, px, _⟩ := I.list qx
    obtain ⟨u, hu, ru⟩ := rvx.get hx
    obtain ⟨⟨old, e1⟩, e4⟩ := st
    have big : ∀ {c : Addr} {o : Obj}, s.heap.get? c = some o → c ≠ s.heap.objs.size := fun e => Nat.ne_of_lt (Heap.lt_size e)
    refine wpAny_pyNext_enum_item e1 e4 px.isList (x := u) (by simpa using hu) hei fun h' a1 a2 a3 a4 a5 => ?_
    refine ⟨_, rfl, wpAny_letOwnedTupleGo_enum (s := { s with heap := h', toks := s.toks + 1 }) a1 fun h'' b1 b2 => ?_⟩
    have k2 : ∀ c o, c ∉ [e, it] → s.heap.get? c = some o → h''.get? c = some o := fun c o hc q => by
      simp only [List.mem_cons, List.not_mem_nil, or_false, not_or] at hc
      exact (b2.2 c hc.1).trans (a5 c o hc.1 hc.2 q)
    have eT : IsTup h'' s.heap.objs.size (List.toArray [.int i s.toks, u]) := ⟨_, (b2.2 _ (big e1).symm).trans a3, rfl, _, rfl⟩
    have I1 := I.turnedTup (t' := s.toks + 1) (xs := [.int i, x]) hf k2 (Nat.le_refl _) eT (.cons ⟨_, rfl⟩ (.cons ru .nil)) (by show 2 ≤ sizeLine; decide)
    refine ⟨.ref s.heap.objs.size, _, I1, rfl, ⟨s.heap.objs.size, x, I.hok.fresh (Nat.le_refl _), rfl, rfl, fun zs hz => by rw [I.list_inj hz qx]; exact hx⟩, ⟨⟨u, by simpa using b1⟩, a2.at fun o q => (b2.2 _ hei.symm).trans q⟩, fun c hc => ?_⟩
    have hcn : c ≠ s.heap.objs.size := by
      obtain ⟨o4, g4, _⟩ := id e4
      simp only [List.mem_cons, List.not_mem_nil, or_false] at hc
      rcases hc with rfl | rfl
      · exact big e1
      · exact big g4
    rw [upd_ne hcn]
    exact (hf c hc).1
  done := by
    intro X hP hw hK hc i pins s σ H E I hf st hg
    subst hP hw hK
    obtain ⟨xs, qx, hl⟩ := hg
    obtain ⟨its, rvx, px, _⟩ := I.list qx
    obtain ⟨⟨old, e1⟩, e4⟩ := st
    have lx := rvx.length
    obtain ⟨f0, f1, f2, f3, f4, f5⟩ := hf it (by simp)
    exact wpAny_pyNext_enum_end (I.ok.hd hc) e1 e4 px.isList (by simp; omega) fun h' k => ⟨rfl, I.turned (t' := s.toks) (fun b o hb q => k b o hb q) f0 f1 f3 f4 f5⟩
  self := fun _ _ _ _ _ st h => by
    obtain ⟨⟨old, e1⟩, _⟩ := st
    exact wpAny_pyIter_enum e1 h
def iEnum (K : PySem.W.Frag) (ta : TA) : TI := fun σ H R => ta σ H fun vs H1 => ∃ a, vs = [.ref a] ∧ (∃ xs, SqL K H1 a xs) ∧ R (Ite K a) H1
theorem pi_enum {X : Cx} {elts : List Expr} {x1} {tpos : Pos} {a : Expr} {ta : TA} {p pos : Pos} (hg : Gl X "enumerate") (hm : X.mg "enumerate" = none) (ha : PA X [a] ta) (hs : starEach [a] X.env = [(false, eval a X.env)] := by rfl) :
    PI X (.Tuple elts x1 tpos) (.Call (.Name "enumerate" p) [a] [] pos) (iEnum X.K ta) := by
  intro pins s σ H R I h
  refine Call_ (ld_blt I hg hm boot_enumerate (PyProof.Rows.callWith_type1 (thn (ha pos pins s σ H _ I h) fun us s1 ⟨vs, H1, I1, r1, q1⟩ => ?_) hs rfl))
  obtain ⟨a, e, ⟨xs, qx⟩, q⟩ := q1
  subst e
  cases r1 with
  | cons r rr =>
    cases rr
    cases r
    obtain ⟨its, rvx, px, _⟩ := I1.list qx
    refine call_enumerate_list px.isList fun h' g5 g1 z5 k => ?_
    refine wpAny_pyIter_enum (s := { s1 with heap := h' }) g5 ?_
    refine ⟨s1.heap.objs.size + 1, [s1.heap.objs.size + 1, s1.heap.objs.size], _, _, H1, rfl, I1.kept (t' := s1.toks) k, turn_enum a _ _ (Nat.ne_of_gt (Nat.lt_succ_self _)), ⟨⟨_, g5⟩, g1⟩, fun c hc => ?_, q⟩
    have hc' : s1.heap.objs.size ≤ c := by
      simp only [List.mem_cons, List.not_mem_nil, or_false] at hc
      rcases hc with h | h <;> subst h <;> first
        | exact Nat.le_refl _
        | exact Nat.le_add_right _ _
    exact I1.fpOk hc' (I1.hok.fresh hc')
mutual
inductive Dp (K : PySem.W.Frag) (H : Hp) : V → PyData → Prop
  | non : Dp K H .non .none
  | bl (b : Bool) : Dp K H (.bl b) (.bool b)
  | int (i : Int) : Dp K H (.int i) (.int i)
  | str (x : Str) : Dp K H (.str x) (.str x)
  | lst {a : Addr} {xs : List V} {ds : List PyData} : SqL K H a xs → DpAll K H xs ds → Dp K H (.ref a) (.list ds)
  | tup {a : Addr} {xs : List V} {ds : List PyData} : SqT K H a xs → DpAll K H xs ds → Dp K H (.ref a) (.tuple ds)
inductive DpAll (K : PySem.W.Frag) (H : Hp) : List V → List PyData → Prop
  | nil : DpAll K H [] []
  | cons {v : V} {vs : List V} {d : PyData} {ds : List PyData} : Dp K H v d → DpAll K H vs ds → DpAll K H (v :: vs) (d :: ds)
end
mutual
theorem Dp.reads {X : Cx} {pins : List (Addr × Obj)} {σ : St} {H : Hp} {s : Shared} (I : Inv X pins σ H s) : ∀ {v : V} {d : PyData} {u : Value}, Dp X.K H v d → RelV v u → ∃ as, Reads s.heap u d as
  | _, _, u, .non, r => by cases r; exact ⟨_, .none⟩
  | _, _, u, .bl b, r => by cases r; exact ⟨_, .bool b⟩
  | _, _, u, .int i, r => by obtain ⟨t, rfl⟩ := r; exact ⟨_, .int i t⟩
  | _, _, u, .str x, r => by obtain ⟨t, rfl⟩ := r; exact ⟨_, .str x t⟩
  | _, _, u, .lst (xs := xs) q a, r => by
    cases r
    obtain ⟨its, rv, ⟨o, n, e, c, _, d⟩, _⟩ := I.list q
    obtain ⟨as, ra⟩ := DpAll.reads I a rv
    exact ⟨_, .list e c d (by simpa using ra)⟩
  | _, _, u, .tup (xs := xs) q a, r => by
    cases r
    obtain ⟨its, rv, ⟨o, e, c, n, d⟩, _⟩ := I.tuple q
    obtain ⟨as, ra⟩ := DpAll.reads I a rv
    exact ⟨_, .tuple e c d (by simpa using ra)⟩
theorem DpAll.reads {X : Cx} {pins : List (Addr × Obj)} {σ : St} {H : Hp} {s : Shared} (I : Inv X pins σ H s) : ∀ {vs : List V} {ds : List PyData} {us : List Value}, DpAll X.K H vs ds → Vals vs us → ∃ as, ReadsAll s.heap us ds as
  | _, _, _, .nil, .nil => ⟨_, .nil⟩
  | _, _, _, .cons h t, .cons r rr => by
    obtain ⟨as, ra⟩ := Dp.reads I h r
    obtain ⟨bs, rb⟩ := DpAll.reads I t rr
    exact ⟨_, .cons ra rb⟩
end
mutual
theorem Dp.same {K : PySem.W.Frag} {H H' : Hp} (g : Same H H') : ∀ {v : V} {d : PyData}, Dp K H v d → Dp K H' v d
  | _, _, .non => .non
  | _, _, .bl b => .bl b
  | _, _, .int i => .int i
  | _, _, .str x => .str x
  | _, _, .lst q a => .lst (g.seq q) (DpAll.same g a)
  | _, _, .tup q a => .tup (by
      rcases q with (h | ⟨o, h⟩) | h
      · exact .inl (.inl (g _ _ h))
      · exact .inl (.inr ⟨o, g _ _ h⟩)
      · exact .inr h) (DpAll.same g a)
theorem DpAll.same {K : PySem.W.Frag} {H H' : Hp} (g : Same H H') : ∀ {vs : List V} {ds : List PyData}, DpAll K H vs ds → DpAll K H' vs ds
  | _, _, .nil => .nil
  | _, _, .cons h t => .cons (Dp.same g h) (DpAll.same g t)
end
def rEqD (K : PySem.W.Frag) (neg : Bool) : R2 := fun x y H Q => ∃ d e, Dp K H x d ∧ Dp K H y e ∧ d.canLay0 = true ∧ e.canLay0 = true ∧ d.depth ≤ 64 ∧ Q (.bl (if neg then !(PyData.eqv d e) else PyData.eqv d e)) H
theorem op_eqD {X : Cx} (hu : X.A.units + 64 < cLine) : OpR X (compareOp .Eq) (rEqD X.K false) := by
  intro pins s σ H x y v u Q I rx ry h
  obtain ⟨d, e, hx, hy, cd, ce, dd, q⟩ := h
  obtain ⟨as, ra⟩ := hx.reads I rx
  obtain ⟨bs, rb⟩ := hy.reads I ry
  exact SeqAt.compareEq_reads ra rb cd ce (by omega) ⟨.bl _, H, I, rfl, by simpa using q⟩
end L2
set_option Elab.async false
set_option linter.all false
set_option maxRecDepth 100000
namespace L2
open PySem PySem.Spec PyProof.Rows
theorem ObjOk.there {P : Program} {w : World} {H : Hp} {h : Heap} {a : Addr} {o : HO} (x : ObjOk P w H h a o) : ∃ ob, h.get? a = some ob := by
  cases o with
  | lst xs => obtain ⟨_, _, _, _, e⟩ := x; exact ⟨_, e⟩
  | tup xs => obtain ⟨_, _, _, ob, e, _⟩ := x; exact ⟨_, e⟩
  | dK kvs => obtain ⟨_, _, _, _, o, _, _, e, _⟩ := x; exact ⟨_, e⟩
  | dT kvs => obtain ⟨_, _, _, _, o, _, _, e, _⟩ := x; exact ⟨_, e⟩
  | set S n => obtain ⟨o, _, _, _, e, _⟩ := x; exact ⟨_, e⟩
  | ins C dx fs => obtain ⟨_, _, _, e, _⟩ := x; exact ⟨_, e⟩
  | own y => exact x
  | xd fs => obtain ⟨_, ⟨_, _, _, e, _⟩, _⟩ := x; exact ⟨_, e⟩
  | rng lo hi => obtain ⟨_, _, _, e⟩ := x; exact ⟨_, e⟩
  | frz ob u => obtain ⟨e, _⟩ := x; exact ⟨_, e⟩
  | tbl ps => exact ⟨_, (show h.get? a = some _ from x)⟩
  | met f y => exact ⟨_, (show h.get? a = some _ from x)⟩
  | ext φ => obtain ⟨_, e, _⟩ := x; exact e
section
variable {P : Program} {w : World} {K : PySem.W.Frag} {mg : Str → Option Value} {base : Heap} {N : List Str} {qual : Str} {scope : Scope} {f : Addr} {cd : Value} {A : Around} {outer : List Env} {s : Shared} {H : Hp} {E : XK}
end
end L2
set_option Elab.async false
set_option linter.all false
set_option maxRecDepth 100000
namespace L2
open PySem PySem.Spec PyProof.Rows
section
variable {X : Cx} {E : XK} {C : Addr} {x : Str} {np cpos pos : Pos} {e : Expr} {es : List Expr} {t : TA}
end
end L2
set_option Elab.async false
set_option linter.all false
set_option maxRecDepth 100000
namespace L2
open PySem PySem.Spec PyProof.Rows
abbrev Cx.at' (X : Cx) (pn : List (Addr × Obj)) (E : Value → Shared → Prop) : Cx := { X with pn := pn, xe := E }
theorem Inv.from' {X : Cx} {pins pins' : List (Addr × Obj)} {σ : St} {H : Hp} {s : Shared} {E : Value → Shared → Prop} (I : Inv (X.at' (X.pn ++ pins) E) pins' σ H s) : Inv X pins σ H s :=
  ⟨⟨I.ok.mod, I.ok.kind, I.ok.glob, I.ok.blt, I.ok.above, I.ok.inj, I.ok.has, I.ok.cab, I.ok.hd, I.ok.frames, I.ok.stk, I.ok.exf, I.ok.bs, I.ok.bsz, I.ok.noex, I.ok.exfs, I.ok.funs, I.ok.frf⟩, I.os, I.bare, I.base, I.loc, I.cell, I.free, I.freeC, fun p hp => I.pin p (List.mem_append_left _ hp), I.hok, I.len⟩
end L2
set_option Elab.async false
set_option linter.all false
set_option maxRecDepth 100000
namespace L2
open PySem PySem.Spec PyProof.Rows
structure XIs (K : PySem.W.Frag) (D : Addr) : Prop where
  hg : PySem.W.plainGet K D "__class__" = true
  hc : (PySem.W.clsIn K D).isSome = true
  ha : PySem.W.findIn K (.ref D) "__class__" = some (some (.builtin "object.__class__"))
  hn : PySem.W.specialIn K (.builtin "object.__class__") "__get__" = some (some (.builtin "getset_descriptor.__get__"))
  ht : PySem.W.takesIn K (.builtin "object.__class__") = some true
  hm : PySem.W.mroIn K D (.type "object") = some true
section
variable {K : PySem.W.Frag} {x D : Addr}
variable {prog : Program} {w : World} {A : Around} {E : Value → Shared → Prop} {s : Shared} {nm : Str}
end
section
variable {X : Cx}
end
end L2
set_option Elab.async false
set_option linter.all false
set_option maxRecDepth 100000
namespace L2
open PySem PySem.Spec PyProof.Rows
section
variable {κ : Type} [DecidableEq κ]
def valV (kvs : List (κ × V)) (k : κ) : Option V := (kvs.find? fun kv => decide (kv.1 = k)).map (·.2)
def putK (kvs : List (κ × V)) (k : κ) (v : V) : List (κ × V) :=
  if (kvs.any fun kv => decide (kv.1 = k)) = true then kvs.map (fun kv => if kv.1 = k then (kv.1, v) else kv) else kvs ++ [(k, v)]
def dropK (kvs : List (κ × V)) (k : κ) : List (κ × V) := kvs.filter fun kv => decide (kv.1 ≠ k)
theorem valV_pos {p : κ × V} {r : List (κ × V)} {k : κ} (e : p.1 = k) : valV (p :: r) k = some p.2 := by simp [valV, List.find?_cons, e]
theorem valV_neg {p : κ × V} {r : List (κ × V)} {k : κ} (e : ¬ p.1 = k) : valV (p :: r) k = valV r k := by simp [valV, List.find?_cons, e]
theorem valV_any (k : κ) : ∀ kvs : List (κ × V), (kvs.any fun kv => decide (kv.1 = k)) = (valV kvs k).isSome
  | [] => rfl
  | p :: r => by
    rw [List.any_cons]
    by_cases e : p.1 = k
    · simp only [valV_pos e, decide_eq_true e, Bool.true_or, Option.isSome_some]
    · rw [valV_neg e, decide_eq_false e, Bool.false_or]; exact valV_any k r
theorem RelO.isSome_eq {o : Option V} {u : Option Value} (r : RelO o u) : o.isSome = u.isSome := by
  cases o with
  | none => cases u with
    | none => rfl
    | some _ => exact (show False from r).elim
  | some _ => cases u with
    | none => exact (show False from r).elim
    | some _ => rfl
theorem RelO.getD {o : Option V} {u : Option Value} {d : V} {d' : Value} (r : RelO o u) (rd : RelV d d') : RelV (o.getD d) (u.getD d') := by
  cases o with
  | none => cases u with
    | none => exact rd
    | some _ => exact (show False from r).elim
  | some _ => cases u with
    | none => exact (show False from r).elim
    | some _ => exact r
theorem KV.val {kvs : List (κ × V)} {vs : List (κ × Value)} (r : KV kvs vs) (k : κ) : RelO (valV kvs k) (valueAt vs k) := by
  unfold KV at r
  induction r with
  | nil => exact True.intro
  | @cons p q ps qs h t ih =>
    obtain ⟨h1, h2⟩ := h
    by_cases e : p.1 = k
    · have e' : q.1 = k := h1.symm.trans e
      have b : valueAt (q :: qs) k = some q.2 := by simp [valueAt, List.find?_cons, e']
      rw [valV_pos e, b]; exact h2
    · have e' : ¬ q.1 = k := fun z => e (h1.trans z)
      have b : valueAt (q :: qs) k = valueAt qs k := by simp [valueAt, List.find?_cons, e']
      rw [valV_neg e, b]; exact ih
theorem KV.any {kvs : List (κ × V)} {vs : List (κ × Value)} (r : KV kvs vs) (k : κ) : (kvs.any fun kv => decide (kv.1 = k)) = vs.any fun kv => decide (kv.1 = k) := by
  unfold KV at r
  induction r with
  | nil => rfl
  | cons h t ih => rw [List.any_cons, List.any_cons, ih, h.1]
theorem KV.repl {kvs : List (κ × V)} {vs : List (κ × Value)} (r : KV kvs vs) (k : κ) {y : V} {u : Value} (ry : RelV y u) :
    KV (kvs.map fun kv => if kv.1 = k then (kv.1, y) else kv) (vs.map fun kv => if kv.1 = k then (kv.1, u) else kv) := by
  unfold KV at r ⊢
  induction r with
  | nil => exact .nil
  | @cons p q ps qs h t ih =>
    rw [List.map_cons, List.map_cons]
    refine .cons ?_ ih
    obtain ⟨h1, h2⟩ := h
    by_cases e : p.1 = k
    · rw [if_pos e, if_pos (h1.symm.trans e)]; exact ⟨h1, ry⟩
    · rw [if_neg e, if_neg (fun z => e (h1.trans z))]; exact ⟨h1, h2⟩
theorem KV.put {kvs : List (κ × V)} {vs : List (κ × Value)} (r : KV kvs vs) (k : κ) {y : V} {u : Value} (ry : RelV y u) : KV (putK kvs k y) (stored vs k u) := by
  unfold putK stored
  rw [r.any k]
  by_cases e : (vs.any fun kv => decide (kv.1 = k)) = true
  · rw [if_pos e, if_pos e]; exact r.repl k ry
  · rw [if_neg e, if_neg e]; exact Paired.snoc r ⟨rfl, ry⟩
theorem KV.drop {kvs : List (κ × V)} {vs : List (κ × Value)} (r : KV kvs vs) (k : κ) : KV (dropK kvs k) (without vs k) := by
  unfold KV at r ⊢
  unfold dropK without
  induction r with
  | nil => exact .nil
  | @cons p q ps qs h t ih =>
    obtain ⟨h1, h2⟩ := h
    rw [List.filter_cons, List.filter_cons]
    by_cases e : p.1 = k
    · have a : ¬ decide (p.1 ≠ k) = true := by simp [e]
      have b : ¬ decide (q.1 ≠ k) = true := by simp [h1.symm.trans e]
      rw [if_neg a, if_neg b]; exact ih
    · have e' : ¬ q.1 = k := fun z => e (h1.trans z)
      have a : decide (p.1 ≠ k) = true := by simp [e]
      have b : decide (q.1 ≠ k) = true := by simp [e']
      rw [if_pos a, if_pos b]; exact .cons ⟨h1, h2⟩ ih
theorem KV.keys {kvs : List (κ × V)} {vs : List (κ × Value)} (r : KV kvs vs) : kvs.map (·.1) = vs.map (·.1) := by
  unfold KV at r
  induction r with
  | nil => rfl
  | cons h t ih => rw [List.map_cons, List.map_cons, ih, h.1]
theorem KV.length {kvs : List (κ × V)} {vs : List (κ × Value)} (r : KV kvs vs) : kvs.length = vs.length := Paired.length r
end
abbrev KT (H : Hp) : List (List Key × V) → List (List Key × Addr × Value) → Prop := Paired fun p q => p.1 = q.1 ∧ H q.2.1 = some (.tup (p.1.map kV)) ∧ RelV p.2 q.2.2
theorem KT.val {H : Hp} {kvs : List (List Key × V)} {xs : List (List Key × Addr × Value)} (r : KT H kvs xs) (k : List Key) : RelO (valV kvs k) ((atKey xs k).map (·.2)) := by
  induction r with
  | nil => exact True.intro
  | @cons p q ps qs h t ih =>
    obtain ⟨h1, _, h2⟩ := h
    by_cases e : p.1 = k
    · have e' : q.1 = k := h1.symm.trans e
      have b : atKey (q :: qs) k = some q.2 := by simp [atKey, List.find?_cons, e']
      rw [valV_pos e, b]; exact h2
    · have e' : ¬ q.1 = k := fun z => e (h1.trans z)
      have b : atKey (q :: qs) k = atKey qs k := by simp [atKey, List.find?_cons, e']
      rw [valV_neg e, b]; exact ih
theorem KT.repl {H : Hp} {kvs : List (List Key × V)} {xs : List (List Key × Addr × Value)} (r : KT H kvs xs) (k : List Key) {y : V} {u : Value} (ry : RelV y u) :
    KT H (kvs.map fun kv => if kv.1 = k then (kv.1, y) else kv) (xs.map (putAt k u)) := by
  induction r with
  | nil => exact .nil
  | @cons p q ps qs h t ih =>
    rw [List.map_cons, List.map_cons]
    refine .cons ?_ ih
    obtain ⟨h1, h2, h3⟩ := h
    unfold putAt
    by_cases e : p.1 = k
    · rw [if_pos e, if_pos (h1.symm.trans e)]; exact ⟨h1, h2, ry⟩
    · rw [if_neg e, if_neg (fun z => e (h1.trans z))]; exact ⟨h1, h2, h3⟩
theorem KT.put {H : Hp} {kvs : List (List Key × V)} {xs : List (List Key × Addr × Value)} (r : KT H kvs xs) (k : List Key) {b : Addr} {y : V} {u : Value} (hb : H b = some (.tup (k.map kV))) (ry : RelV y u) :
    KT H (putK kvs k y) (storedH xs k b u) := by
  have e : (kvs.any fun kv => decide (kv.1 = k)) = (atKey xs k).isSome := by
    rw [valV_any, (r.val k).isSome_eq, Option.isSome_map]
  unfold putK storedH
  rw [e]
  by_cases q : (atKey xs k).isSome = true
  · rw [if_pos q, if_pos q]; exact r.repl k ry
  · rw [if_neg q, if_neg q]; exact Paired.snoc r ⟨rfl, hb, ry⟩
theorem KT.keeps {H H' : Hp} {kvs : List (List Key × V)} {xs : List (List Key × Addr × Value)} (r : KT H kvs xs) (ht : ∀ b ys, H b = some (.tup ys) → H' b = some (.tup ys)) : KT H' kvs xs :=
  Paired.mapP r fun _ _ z => ⟨z.1, ht _ _ z.2.1, z.2.2⟩
section
variable {P : Program} {w : World} {H : Hp} {h : Heap} {a : Addr}
end
def DGet (H : Hp) (a : Addr) (y : V) (r : Option V) : Prop :=
  (∃ kvs k, Rd H a (.dK kvs) ∧ y = kV k ∧ r = valV kvs k) ∨ ∃ kvs k b, Rd H a (.dT kvs) ∧ y = .ref b ∧ H b = some (.tup (k.map kV)) ∧ r = valV kvs k
def DPut (H : Hp) (a : Addr) (y v : V) (H' : Hp) : Prop :=
  (∃ kvs k, H a = some (.dK kvs) ∧ y = kV k ∧ kvs.length < sizeLine ∧ H' = upd H a (.dK (putK kvs k v))) ∨
  ∃ kvs k b, H a = some (.dT kvs) ∧ y = .ref b ∧ H b = some (.tup (k.map kV)) ∧ kvs.length < sizeLine ∧ H' = upd H a (.dT (putK kvs k v))
theorem DGet.k {H : Hp} {a : Addr} {kvs : List (Key × V)} {k : Key} (e : H a = some (.dK kvs)) : DGet H a (kV k) (valV kvs k) := .inl ⟨kvs, k, .inl e, rfl, rfl⟩
theorem DGet.t {H : Hp} {a b : Addr} {kvs : List (List Key × V)} {k : List Key} (e : H a = some (.dT kvs)) (eb : H b = some (.tup (k.map kV))) : DGet H a (.ref b) (valV kvs k) := .inr ⟨kvs, k, b, .inl e, rfl, eb, rfl⟩
theorem DPut.k {H : Hp} {a : Addr} {kvs : List (Key × V)} {k : Key} {v : V} (e : H a = some (.dK kvs)) (hl : kvs.length < sizeLine) : DPut H a (kV k) v (upd H a (.dK (putK kvs k v))) := .inl ⟨kvs, k, e, rfl, hl, rfl⟩
theorem DPut.t {H : Hp} {a b : Addr} {kvs : List (List Key × V)} {k : List Key} {v : V} (e : H a = some (.dT kvs)) (eb : H b = some (.tup (k.map kV))) (hl : kvs.length < sizeLine) :
    DPut H a (.ref b) v (upd H a (.dT (putK kvs k v))) := .inr ⟨kvs, k, b, e, rfl, eb, hl, rfl⟩
section
variable {X : Cx} {pins : List (Addr × Obj)} {σ : St} {H : Hp} {s : Shared} {a : Addr} {y v : V} {u r : Value} {o : Option V} {A : Around} {E : Value → Shared → Prop}
theorem Inv.big (I : Inv X pins σ H s) : sysModules < s.heap.objs.size := by
  have h : mainGlobals < s.heap.objs.size := (I.mod.glob.keeps I.bk).lt
  exact Nat.lt_trans (by decide) h
end
section
variable {X : Cx} {pins : List (Addr × Obj)} {σ : St} {H : Hp} {s : Shared} {a : Addr} {kvs : List (Key × V)} {k : Key} {u : Value} {A : Around} {E : Value → Shared → Prop}
end
section
variable {X : Cx} {o i e value : Expr} {pos pos' tpos : Pos} {td ty tv : TE}
end
section
variable {X : Cx} {pos : Pos}
end
structure M1 (X : Cx) (o : Expr) (m : Str) (apos : Pos) (e : Expr) (cpos : Pos) : Prop where
  base : attributeBase o m X.env (eval o X.env) = eval o X.env
  few : ((backTo cpos (starEach [e] X.env)).all (fun x => !x.1) && (backToKw cpos (keywordEach [] X.env)).all (fun x => x.1.isSome)
    && decide (([e] : List Expr).length + ([] : List Keyword).length + (if ([] : List Keyword).isEmpty then 0 else 1) < 30)) = true
  line : (apos.endLine == cpos.line) = true
  trees : backTo cpos (starEach [e] X.env) = [(false, eval e X.env)]
structure M2 (X : Cx) (o : Expr) (m : Str) (apos : Pos) (e f : Expr) (cpos : Pos) : Prop where
  base : attributeBase o m X.env (eval o X.env) = eval o X.env
  few : ((backTo cpos (starEach [e, f] X.env)).all (fun x => !x.1) && (backToKw cpos (keywordEach [] X.env)).all (fun x => x.1.isSome)
    && decide (([e, f] : List Expr).length + ([] : List Keyword).length + (if ([] : List Keyword).isEmpty then 0 else 1) < 30)) = true
  line : (apos.endLine == cpos.line) = true
  trees : backTo cpos (starEach [e, f] X.env) = [(false, eval e X.env), (false, eval f X.env)]
section
variable {X : Cx} {pins : List (Addr × Obj)} {σ : St} {H : Hp} {s : Shared} {a : Addr} {y d : V} {u r : Value} {o : Option V} {A : Around} {E : Value → Shared → Prop}
end
section
variable {X : Cx} {o e f : Expr} {apos cpos : Pos} {td ty tx : TE}
end
section
variable {X : Cx} {pins : List (Addr × Obj)} {σ : St} {H : Hp} {s : Shared} {a : Addr} {kvs : List (Key × V)} {A : Around} {E : Value → Shared → Prop}
end
section
variable {X : Cx} {pins : List (Addr × Obj)} {σ : St} {H : Hp} {s : Shared} {a : Addr} {y : V} {u : Value} {A : Around} {E : Value → Shared → Prop}
end
end L2
namespace L2
open PySem PySem.Spec PyProof.Rows
section
variable {X : Cx}
end
section
variable {κ : Type} [DecidableEq κ]
end
end L2
set_option Elab.async false
set_option linter.all false
set_option maxRecDepth 100000
namespace L2
open PySem PySem.Spec PyProof.Rows
def Asc (z : Str) : Prop := z.cps.all (· < 128) = true
section
variable {z : Str} {wi : TI} {g : TG} {tb : TS} {D : Ends} {σ : St} {H H1 : Hp} {ix : List (Option Nat)} {tc : TT} {te : TE} {Q : VK}
end
section
variable {X : Cx}
end
end L2
set_option Elab.async false
set_option linter.all false
set_option maxRecDepth 100000
namespace L2
open PySem PySem.Spec PyProof.Rows
section
variable {X : Cx}
def CMulM (i j : Int) : Prop := i.natAbs < 2 ^ 512 ∧ j.natAbs < 2 ^ 512
theorem op_mulM : OpR X (binaryOp .Mult) (rI CMulM fun i j => .int (i * j)) := opI fun _ _ _ _ _ _ _ hc q => mul_int q (IntMulOk.of_le (PySem.intBits_le_iff.mpr hc.1) (PySem.intBits_le_iff.mpr hc.2) (by decide))
end
end L2
set_option Elab.async false
set_option linter.all false
set_option maxRecDepth 100000
namespace L2
open PySem PySem.Spec PyProof.Rows
section
variable {X : Cx} {K : PySem.W.Frag}
theorem ix_seqK (h : X.K = K) : IxR X (rIx K) := h ▸ ix_seq
theorem sl_listK (h : X.K = K) : SlR X (rSlL K) := h ▸ sl_list
def rLen (K : PySem.W.Frag) : List V → Hp → VK → Prop := fun xs H Q => ∃ p ys, xs = [.ref p] ∧ (SqL K H p ys ∨ SqT K H p ys) ∧ Q (.int ys.length) H
theorem call_len_seqK (h : X.K = K) : CallR X (.builtin "len") (rLen K) := h ▸ call_len_seq
def rLenS : List V → Hp → VK → Prop := fun xs H Q => ∃ z, xs = [.str z] ∧ z.length ≤ sizeLine ∧ Q (.int z.length) H
theorem call_len_strK : CallR X (.builtin "len") rLenS := call_len_str
def rIsi : List V → Hp → VK → Prop := fun xs H Q => ∃ v T k, xs = [v, .ty T] ∧ isiV v T = some k ∧ Q (.bl k) H
theorem call_isiK : CallR X (.builtin "isinstance") rIsi := call_isi
def rListOf (K : PySem.W.Frag) : List V → Hp → VK → Prop := fun xs H Q => ∃ p ys, xs = [.ref p] ∧ (SqL K H p ys ∨ SqT K H p ys) ∧ ∀ l, H l = none → Q (.ref l) (upd H l (.lst ys))
theorem call_list_ofK (h : X.K = K) : CallR X (.type "list") (rListOf K) := h ▸ call_list_of
theorem pg_tupK {pos : Pos} {es : List Expr} {k : Nat} {t : TGs} {n : Nat} (h : X.K = K) (hc : X.calm = true) (hh : PGs X es t)
    (hn : (assignEach es X.env).length = n := by rfl) (hst : (assignEach es X.env).findIdx? (·.1) = none := by rfl) : PG X (.Tuple es k pos) (gTup K n t) := h ▸ pg_tup hc hh hn hst
theorem pi_enumK {elts : List Expr} {x1} {tpos : Pos} {a : Expr} {ta : TA} {p pos : Pos} (h : X.K = K) (hg : Gl X "enumerate") (hm : X.mg "enumerate" = none) (ha : PA X [a] ta) (hs : starEach [a] X.env = [(false, eval a X.env)] := by rfl) :
    PI X (.Tuple elts x1 tpos) (.Call (.Name "enumerate" p) [a] [] pos) (iEnum K ta) := h ▸ pi_enum hg hm ha hs
variable {o e : Expr} {es : List Expr} {to : TE} {t : TA} {name : Str} {apos cpos : Pos} {T id : String} {r : V → List V → Hp → VK → Prop}
theorem pe_bmK (h : X.K = K) (pa : PlainAttrs T) (slot : Slot T name id) (hty : typeOf (.builtin id) = pure (.type "method_descriptor")) (hm : MtR X id r) (ho : PE X o to) (ha : PA X (e :: es) t)
    (hbase : attributeBase o name X.env (eval o X.env) = eval o X.env := by rfl)
    (hfew : ((backTo cpos (starEach (e :: es) X.env)).all (fun x => !x.1) && (backToKw cpos (keywordEach [] X.env)).all (fun x => x.1.isSome)
      && decide ((e :: es).length + ([] : List Keyword).length + (if ([] : List Keyword).isEmpty then 0 else 1) < 30)) = true := by rfl)
    (hline : (apos.endLine == cpos.line) = true := by rfl) (hs : starEach (e :: es) X.env = (false, eval e X.env) :: starEach es X.env := by rfl) (hplain : (backTo cpos (starEach es X.env)).any (·.1) = false := by rfl) :
    PE X (.Call (.Attribute o name apos) (e :: es) [] cpos) (tBM K T r to t) := h ▸ pe_bm pa slot hty hm ho ha hbase hfew hline hs hplain
end
theorem same_new {H : Hp} {p : Addr} (h : H p = none) (o : HO) : Same H (upd H p o) := fun b u q => by rw [upd_ne (ne_of_none q h)]; exact q
theorem Same.upd {H H' : Hp} {p : Addr} (g : Same H H') (h : H p = none) (o : HO) : Same H (L2.upd H' p o) := fun b u q => by rw [upd_ne (ne_of_none q h)]; exact g b u q
theorem Same.tup {K : PySem.W.Frag} {H H' : Hp} {a : Addr} {xs : List V} (g : Same H H') (q : SqT K H a xs) : SqT K H' a xs := by
  rcases q with (h | ⟨o, h⟩) | h
  · exact .inl (.inl (g _ _ h))
  · exact .inl (.inr ⟨o, g _ _ h⟩)
  · exact .inr h
theorem asc_iff {z : Str} : Asc z ↔ ∀ c ∈ z.cps.toList, c < 128 := by
  unfold Asc
  rw [Array.all_eq_true']
  constructor
  · intro h c hc; simpa using h c (by simpa using hc)
  · intro h c hc; simpa using h c (by simpa using hc)
theorem Asc.app {a b : Str} (h : Asc a) (h' : Asc b) : Asc (a ++ b) := by
  rw [asc_iff] at *
  intro c hc
  have e : (a ++ b).cps = a.cps ++ b.cps := rfl
  rw [e, Array.toList_append, List.mem_append] at hc
  exact hc.elim (h c) (h' c)
theorem Asc.one {z : Str} (h : Asc z) {i : Int} {c : Nat} (e : atI z.cps.toList i = some c) : Asc ⟨#[c]⟩ := by
  rw [asc_iff] at *
  obtain ⟨j, _, hj, _⟩ := atI_get e
  have := h c (List.mem_of_getElem? hj)
  intro d hd
  have : d = c := by simpa using hd
  omega
theorem Asc.slice {z : Str} (h : Asc z) (lo hi : Option Int) : Asc (Txt.slice z lo hi) := by
  rw [asc_iff] at *
  intro c hc
  unfold Txt.slice at hc
  split at hc
  · exact h c hc
  refine h c ?_
  simp only [List.mem_filterMap] at hc
  obtain ⟨k, _, e⟩ := hc
  exact List.mem_of_getElem? (by simpa using e)
theorem Asc.ok {z : Str} (h : Asc z) : PyData.strOk z = true := by
  rw [asc_iff] at h
  unfold PyData.strOk
  rw [Array.all_eq_true']
  intro c hc
  have := h c (by simpa using hc)
  simp only [decide_eq_true_eq]
  omega
theorem mod_lo (n : Int) {m : Int} (h : 0 < m) : 0 ≤ n.fmod m := by
  have := Int.fmod_eq_emod_of_nonneg n (show (0 : Int) ≤ m by omega)
  have := Int.emod_nonneg n (show m ≠ 0 by omega)
  omega
theorem mod_hi (n : Int) {m : Int} (h : 0 < m) : n.fmod m < m := Int.fmod_lt_of_pos n h
theorem div_lo {n : Int} (h : 0 ≤ n) {m : Int} (hm : 0 < m) : 0 ≤ n.fdiv m := by
  rw [Int.fdiv_eq_ediv_of_nonneg _ (by omega)]; exact Int.ediv_nonneg h (by omega)
def Nw (H H' : Hp) (p : Addr) (o : HO) : Prop := Same H H' ∧ H p = none ∧ H' p = some o
theorem Nw.of {H : Hp} {p : Addr} {o : HO} (h : H p = none) : Nw H (upd H p o) p o := ⟨same_new h o, h, upd_same⟩
def tTupN (t : TA) : TE := fun σ H Q => t σ H fun xs H1 => xs.length ≤ sizeLine ∧ ∀ p H', Nw H1 H' p (.tup xs) → Q (.ref p) H'
def tLstN (t : TA) : TE := fun σ H Q => t σ H fun xs H1 => xs.length ≤ sizeLine ∧ ∀ p H', Nw H1 H' p (.lst xs) → Q (.ref p) H'
section
variable {X : Cx} {K : PySem.W.Frag} {es : List Expr} {t : TA} {pos : Pos}
theorem pe_tupN {x1} (h : PA X es t) : PE X (.Tuple es x1 pos) (tTupN t) := fun pins s σ H Q I hq => wpAny_Tuple_spliced (thn (h pos pins s σ H _ I hq) fun us s1 ⟨xs, H1, I1, r, z, q⟩ => ⟨by rw [← r.length]; exact z,
  .ref s1.heap.objs.size, _, I1.laid (t' := s1.toks) (o := .tup xs) (fun b u e => Heap.get?_push_of_some _ e) (Nat.le_refl _) ⟨z, us, r, ⟨_, Heap.get?_push_size _ rfl, rfl, _, rfl⟩⟩, rfl, q _ _ (.of (I1.hok.fresh (Nat.le_refl _)))⟩)
theorem pe_lstN (h : PA X es t) : PE X (.List es pos) (tLstN t) := fun pins s σ H Q I hq => wpAny_List_spliced (thn (h pos pins s σ H _ I hq) fun us s1 ⟨xs, H1, I1, r, z, q⟩ => ⟨by rw [← r.length]; exact z,
  .ref s1.heap.objs.size, _, I1.laid (t' := s1.toks) (o := .lst xs) (fun b u e => Heap.get?_push_of_some _ e) (Nat.le_refl _) ⟨z, us, 0, r, Heap.get?_push_size _ rfl⟩, rfl, q _ _ (.of (I1.hok.fresh (Nat.le_refl _)))⟩)
def rSlLN (K : PySem.W.Frag) : V → Option Int → Option Int → Hp → VK → Prop := fun x lo hi H Q => ∃ a xs, x = .ref a ∧ SqL K H a xs ∧ ∀ p H', Nw H H' p (.lst (cutV xs lo hi)) → Q (.ref p) H'
theorem sl_listN (h : X.K = K) : SlR X (rSlLN K) := fun pins s σ H x v vl vu lo hi sl Q I rx hs pl pu ⟨a, xs, e, q, r⟩ => sl_listK h pins s σ H x v vl vu lo hi sl Q I rx hs pl pu ⟨a, xs, e, q, fun p hp => r p _ (.of hp)⟩
end
end L2
set_option Elab.async false
set_option linter.all false
set_option maxRecDepth 100000
namespace L2
open PySem PySem.Spec PyProof.Rows
section
variable {X : Cx} {K : PySem.W.Frag}
theorem ps_setI {o i e : Expr} {to ti te : TE} {pos tpos : Pos} (he : PE X e te) (ho : PE X o to) (hi : PE X i ti)
    (ha : ∀ v, assign (.Subscript o i tpos) X.env v = (do
      let ov ← holding [v] (eval o X.env)
      let iv ← holding [v, ov] (eval i X.env)
      standAt tpos
      holding [v, ov, iv] (setItem ov iv v)
      release [v, ov, iv] []) := by intro _; rfl) (hs : swapsWithSole [.Subscript o i tpos] e pos.line X.env = pure false := by rfl) (hw : swappedStores [.Subscript o i tpos] e X.env = pure none := by rfl) : PS X (.Assign [.Subscript o i tpos] e pos) (tAsg te (gSub to ti rSetL)) := ps_asg he (pg_sub ho hi set_list ha) hs hw
end
end L2
set_option Elab.async false
set_option linter.all false
set_option maxRecDepth 100000
namespace L2
open PySem PySem.Spec PyProof.Rows
end L2
set_option Elab.async false
set_option linter.all false
set_option maxRecDepth 100000
namespace L2
open PySem PySem.Spec PyProof.Rows
section
variable {K : PySem.W.Frag} {x D : Addr} {prog : Program} {w : World} {A : Around} {E : Value → Shared → Prop} {s : Shared}
end
structure XIs2 (K : PySem.W.Frag) (D : Addr) : Prop where
  g1 : PySem.W.findIn K (.ref D) "__getattribute__" = some (some (.builtin "BaseException.__getattribute__"))
  g2 : PySem.W.findIn K (.ref D) "__getattr__" = some none
  hb : PySem.W.mroIn K D (.type "BaseException") = some true
  hc : ∃ cd, PySem.W.clsIn K D = some cd
  ha : PySem.W.findIn K (.ref D) "__class__" = some (some (.builtin "object.__class__"))
  hn : PySem.W.specialIn K (.builtin "object.__class__") "__get__" = some (some (.builtin "getset_descriptor.__get__"))
  ht : PySem.W.takesIn K (.builtin "object.__class__") = some true
  hm : PySem.W.mroIn K D (.type "object") = some true
section
variable {X : Cx} {K : PySem.W.Frag}
end
end L2
set_option Elab.async false
set_option linter.all false
set_option maxRecDepth 100000
namespace L2
open PySem PySem.Spec PyProof.Rows
section
variable {P : Program} {w : World} {A : Around} {E : Value → Shared → Prop} {s : Shared}
end
end L2
set_option Elab.async false
set_option linter.all false
set_option maxRecDepth 100000
namespace L2
open PySem PySem.Spec PyProof.Rows
section
variable {X : Cx} {K : PySem.W.Frag}
end
section
variable {K : PySem.W.Frag} {a b : Addr} {xs ys : List V} {wi : TI} {g : TG} {σ : St} {H H1 : Hp} {ix : List (Option Nat)} {tc : TT} {te : TE} {Q : VK}
end
end L2
set_option Elab.async false
set_option linter.all false
set_option maxRecDepth 100000
namespace L2
open PySem PySem.Spec PyProof.Rows
section
variable {K : PySem.W.Frag} {a : Addr} {xs : List V} {wi : TI} {g : TG} {σ : St} {H H1 : Hp} {ix : List (Option Nat)} {tc : TT} {te : TE} {Q : VK}
end
def spNever : Sp := fun _ _ _ _ => False
theorem FnOk.never {P : Program} {w : World} {K : PySem.W.Frag} {mg : Str → Option Value} {base : Heap} {CX : CXT} {k : Nat} {f : Addr} {fd : FuncData} {ps : List Str} : FnOk P w K mg base CX k f fd ps spNever := ⟨fun _ _ _ _ h => h.elim, fun _ _ _ _ _ _ _ _ _ _ _ _ _ h => h.elim⟩
end L2
set_option Elab.async false
set_option linter.all false
set_option maxRecDepth 100000
namespace L2
open PySem PySem.Spec PyProof.Rows
end L2
set_option Elab.async false
set_option linter.all false
set_option maxRecDepth 100000
namespace L2
open PySem PySem.Spec PyProof.Rows
inductive W where
  | none | bool (b : Bool) | int (i : Int) | str (x : Str) | list (ds : List W) | tuple (ds : List W) | ref (n : Nat)
mutual
inductive Dw (K : PySem.W.Frag) (ρ : List Addr) (H : Hp) : V → W → Prop
  | non : Dw K ρ H .non .none
  | bl (b : Bool) : Dw K ρ H (.bl b) (.bool b)
  | int (i : Int) : Dw K ρ H (.int i) (.int i)
  | str (x : Str) : Dw K ρ H (.str x) (.str x)
  | lst {a : Addr} {xs : List V} {ds : List W} : SqL K H a xs → DwAll K ρ H xs ds → Dw K ρ H (.ref a) (.list ds)
  | tup {a : Addr} {xs : List V} {ds : List W} : SqT K H a xs → DwAll K ρ H xs ds → Dw K ρ H (.ref a) (.tuple ds)
  | ref {a : Addr} {n : Nat} : ρ[n]? = some a → Dw K ρ H (.ref a) (.ref n)
inductive DwAll (K : PySem.W.Frag) (ρ : List Addr) (H : Hp) : List V → List W → Prop
  | nil : DwAll K ρ H [] []
  | cons {v : V} {vs : List V} {d : W} {ds : List W} : Dw K ρ H v d → DwAll K ρ H vs ds → DwAll K ρ H (v :: vs) (d :: ds)
end
mutual
theorem Dw.same {K : PySem.W.Frag} {ρ : List Addr} {H H' : Hp} (g : Same H H') : ∀ {v : V} {d : W}, Dw K ρ H v d → Dw K ρ H' v d
  | _, _, .non => .non
  | _, _, .bl b => .bl b
  | _, _, .int i => .int i
  | _, _, .str x => .str x
  | _, _, .lst q a => .lst (g.seq q) (DwAll.same g a)
  | _, _, .tup q a => .tup (g.tup q) (DwAll.same g a)
  | _, _, .ref e => .ref e
theorem DwAll.same {K : PySem.W.Frag} {ρ : List Addr} {H H' : Hp} (g : Same H H') : ∀ {vs : List V} {ds : List W}, DwAll K ρ H vs ds → DwAll K ρ H' vs ds
  | _, _, .nil => .nil
  | _, _, .cons h t => .cons (Dw.same g h) (DwAll.same g t)
end
mutual
def W.py : W → Option PyData
  | .none => some .none
  | .bool b => some (.bool b)
  | .int i => some (.int i)
  | .str x => some (.str x)
  | .list ds => (W.pys ds).map .list
  | .tuple ds => (W.pys ds).map .tuple
  | .ref _ => Option.none
def W.pys : List W → Option (List PyData)
  | [] => some []
  | d :: ds => (W.py d).bind fun x => (W.pys ds).map (x :: ·)
end
mutual
theorem Dw.dp {K : PySem.W.Frag} {ρ : List Addr} {H : Hp} : ∀ {v : V} {d : W} {x : PyData}, Dw K ρ H v d → d.py = some x → Dp K H v x
  | _, _, _, .non, e => by simp only [W.py] at e; cases e; exact .non
  | _, _, _, .bl b, e => by simp only [W.py] at e; cases e; exact .bl b
  | _, _, _, .int i, e => by simp only [W.py] at e; cases e; exact .int i
  | _, _, _, .str y, e => by simp only [W.py] at e; cases e; exact .str y
  | _, _, _, .lst q a, e => by
    simp only [W.py] at e
    obtain ⟨xs, e1, rfl⟩ := Option.map_eq_some_iff.mp e
    exact .lst q (DwAll.dp a e1)
  | _, _, _, .tup q a, e => by
    simp only [W.py] at e
    obtain ⟨xs, e1, rfl⟩ := Option.map_eq_some_iff.mp e
    exact .tup q (DwAll.dp a e1)
  | _, _, _, .ref _, e => by simp only [W.py] at e; cases e
theorem DwAll.dp {K : PySem.W.Frag} {ρ : List Addr} {H : Hp} : ∀ {vs : List V} {ds : List W} {xs : List PyData}, DwAll K ρ H vs ds → W.pys ds = some xs → DpAll K H vs xs
  | _, _, _, .nil, e => by simp only [W.pys] at e; cases e; exact .nil
  | _, _, _, .cons h t, e => by
    simp only [W.pys] at e
    obtain ⟨x, e1, e⟩ := Option.bind_eq_some_iff.mp e
    obtain ⟨ys, e2, rfl⟩ := Option.map_eq_some_iff.mp e
    exact .cons (Dw.dp h e1) (DwAll.dp t e2)
end
inductive Sl where
  | no
  | val (d : W)
  | own (ds : List W)
abbrev DS := List Sl
def SlOk (K : PySem.W.Frag) (ρ : List Addr) (G H : Hp) : Sl → Option V → Prop
  | .no, _ => True
  | .val d, o => ∃ v, o = some v ∧ Dw K ρ G v d
  | .own ds, o => ∃ p vs, o = some (.ref p) ∧ G p = none ∧ H p = some (.lst vs) ∧ DwAll K ρ G vs ds
structure Gr (G H G' H' : Hp) : Prop where
  g : Same G G'
  h : Same H H'
  s : Same G' H'
  n : ∀ b, H b ≠ none → G b = none → G' b = none
theorem same_ne {H H' : Hp} (s : Same H H') {b : Addr} (h : H b ≠ none) : H' b ≠ none := fun e => by
  cases q : H b with
  | none => exact h q
  | some o =>
    have := s b o q
    rw [e] at this
    cases this
theorem same_no {G H : Hp} (s : Same G H) {b : Addr} (h : H b = none) : G b = none := by
  cases q : G b with
  | none => rfl
  | some o =>
    have := s b o q
    rw [h] at this
    cases this
theorem Gr.refl {G H : Hp} (s : Same G H) : Gr G H G H := ⟨.refl _, .refl _, s, fun _ _ h => h⟩
theorem Gr.trans {G H G1 H1 G2 H2 : Hp} (a : Gr G H G1 H1) (b : Gr G1 H1 G2 H2) : Gr G H G2 H2 :=
  ⟨a.g.trans b.g, a.h.trans b.h, b.s, fun c h1 h2 => b.n c (same_ne a.h h1) (a.n c h1 h2)⟩
theorem same_upd2 {G H' : Hp} {p : Addr} {o : HO} (s : Same G H') (h : H' p = some o) : Same (upd G p o) H' := fun b u e => by
  by_cases hb : b = p
  · subst hb
    rw [upd_same] at e
    cases e
    exact h
  · rw [upd_ne hb] at e
    exact s _ _ e
theorem Gr.new {G H G' H' : Hp} {p : Addr} {o : HO} (a : Gr G H G' H') (h0 : H p = none) (g0 : G' p = none) (h : H' p = some o) : Gr G H (upd G' p o) H' :=
  ⟨a.g.trans (same_new g0 o), a.h, same_upd2 a.s h, fun b h1 h2 => by
    rw [upd_ne (fun e => h1 (by rw [e]; exact h0))]
    exact a.n b h1 h2⟩
theorem Gr.nw {G H H' : Hp} {p : Addr} {o : HO} (s : Same G H) (n : Nw H H' p o) : Gr G H (upd G p o) H' :=
  Gr.new ⟨.refl _, n.1, s.trans n.1, fun _ _ h => h⟩ n.2.1 (same_no s n.2.1) n.2.2
theorem Gr.nwO {G H H' : Hp} {p : Addr} {o : HO} (s : Same G H) (n : Nw H H' p o) : Gr G H G H' := ⟨.refl _, n.1, s.trans n.1, fun _ _ h => h⟩
structure Rl (K : PySem.W.Frag) (ρ : List Addr) (G H : Hp) (δ : DS) (σ : St) : Prop where
  sub : Same G H
  len : δ.length = σ.length
  sl : ∀ (i : Nat) s, δ[i]? = some s → ∃ o, σ[i]? = some o ∧ SlOk K ρ G H s o
  apart : ∀ (i j : Nat) p ds es, δ[i]? = some (.own ds) → δ[j]? = some (.own es) → σ[i]? = some (some (.ref p)) → σ[j]? = some (some (.ref p)) → i = j
theorem SlOk.grow {K : PySem.W.Frag} {ρ : List Addr} {G H G' H' : Hp} (g : Gr G H G' H') : ∀ {s : Sl} {o : Option V}, SlOk K ρ G H s o → SlOk K ρ G' H' s o
  | .no, _, _ => trivial
  | .val d, o, ⟨v, e, h⟩ => ⟨v, e, h.same g.g⟩
  | .own ds, o, ⟨p, vs, e, h1, h2, h3⟩ => ⟨p, vs, e, g.n p (by rw [h2]; simp) h1, g.h _ _ h2, h3.same g.g⟩
theorem Rl.grow {K : PySem.W.Frag} {ρ : List Addr} {G H G' H' : Hp} {δ : DS} {σ : St} (R : Rl K ρ G H δ σ) (g : Gr G H G' H') : Rl K ρ G' H' δ σ :=
  ⟨g.s, R.len, fun i s e => by
    obtain ⟨o, h1, h2⟩ := R.sl i s e
    exact ⟨o, h1, h2.grow g⟩, R.apart⟩
theorem getSet {α : Type} {xs : List α} {i j : Nat} {a b : α} (h : (xs.set i a)[j]? = some b) : (i = j ∧ a = b ∧ j < xs.length) ∨ (i ≠ j ∧ xs[j]? = some b) := by
  by_cases e : i = j
  · subst e
    rw [List.getElem?_set] at h
    simp only [if_true] at h
    split at h
    · rename_i hl
      cases h
      exact .inl ⟨rfl, rfl, hl⟩
    · cases h
  · rw [List.getElem?_set_ne e] at h
    exact .inr ⟨e, h⟩
theorem setGet {α : Type} {xs : List α} {i : Nat} {a : α} (h : i < xs.length) : (xs.set i a)[i]? = some a := by
  rw [List.getElem?_set]
  simp [h]
def OwnSub (δ' : DS) (σ' : St) (δ : DS) (σ : St) : Prop := ∀ (i : Nat) ds p, δ'[i]? = some (.own ds) → σ'[i]? = some (some (.ref p)) → ∃ es, δ[i]? = some (.own es) ∧ σ[i]? = some (some (.ref p))
theorem OwnSub.refl (δ : DS) (σ : St) : OwnSub δ σ δ σ := fun i ds p h1 h2 => ⟨ds, h1, h2⟩
theorem OwnSub.trans {δ δ1 δ2 : DS} {σ σ1 σ2 : St} (a : OwnSub δ2 σ2 δ1 σ1) (b : OwnSub δ1 σ1 δ σ) : OwnSub δ2 σ2 δ σ := fun i ds p h1 h2 => by
  obtain ⟨es, h3, h4⟩ := a i ds p h1 h2
  exact b i es p h3 h4
theorem ownsub_set {δ : DS} {σ : St} {i : Nat} {d : W} {v : V} (h : δ.length = σ.length) : OwnSub (δ.set i (.val d)) (σ.set i (some v)) δ σ := fun j ds p h1 h2 => by
  rcases getSet h1 with ⟨_, e, _⟩ | ⟨ne, h1⟩
  · cases e
  · rw [List.getElem?_set_ne ne] at h2
    exact ⟨ds, h1, h2⟩
theorem Rl.set {K : PySem.W.Frag} {ρ : List Addr} {G H : Hp} {δ : DS} {σ : St} {i : Nat} {d : W} {v : V} (R : Rl K ρ G H δ σ) (h : Dw K ρ G v d) : Rl K ρ G H (δ.set i (.val d)) (σ.set i (some v)) :=
  ⟨R.sub, by rw [List.length_set, List.length_set]; exact R.len, fun j s e => by
    rcases getSet e with ⟨rfl, rfl, hl⟩ | ⟨ne, e⟩
    · exact ⟨_, setGet (by rw [← R.len]; exact hl), v, rfl, h⟩
    · rw [List.getElem?_set_ne ne]
      exact R.sl j s e, fun j k p ds es h1 h2 h3 h4 => by
    obtain ⟨ds', a1, a2⟩ := ownsub_set (v := v) R.len j ds p h1 h3
    obtain ⟨es', b1, b2⟩ := ownsub_set (v := v) R.len k es p h2 h4
    exact R.apart j k p _ _ a1 b1 a2 b2⟩
theorem Rl.setO {K : PySem.W.Frag} {ρ : List Addr} {G H : Hp} {δ : DS} {σ : St} {i : Nat} {ds : List W} {p : Addr} {vs : List V} (R : Rl K ρ G H δ σ) (g0 : G p = none) (h : H p = some (.lst vs)) (hd : DwAll K ρ G vs ds)
    (hn : ∀ (j : Nat) es, j ≠ i → δ[j]? = some (.own es) → σ[j]? ≠ some (some (.ref p))) : Rl K ρ G H (δ.set i (.own ds)) (σ.set i (some (.ref p))) :=
  ⟨R.sub, by rw [List.length_set, List.length_set]; exact R.len, fun j s e => by
    rcases getSet e with ⟨rfl, rfl, hl⟩ | ⟨ne, e⟩
    · exact ⟨_, setGet (by rw [← R.len]; exact hl), p, vs, rfl, g0, h, hd⟩
    · rw [List.getElem?_set_ne ne]
      exact R.sl j s e, fun j k q ds' es' h1 h2 h3 h4 => by
    rcases getSet h1 with ⟨rfl, _, hl⟩ | ⟨ne, h1⟩ <;> rcases getSet h2 with ⟨rfl, _, hl2⟩ | ⟨ne2, h2⟩
    · rfl
    · rw [setGet (by rw [← R.len]; exact hl)] at h3
      rw [List.getElem?_set_ne ne2] at h4
      cases h3
      exact absurd h4 (hn k es' (Ne.symm ne2) h2)
    · rw [setGet (by rw [← R.len]; exact hl2)] at h4
      rw [List.getElem?_set_ne ne] at h3
      cases h4
      exact absurd h3 (hn j ds' (Ne.symm ne) h1)
    · rw [List.getElem?_set_ne ne] at h3
      rw [List.getElem?_set_ne ne2] at h4
      exact R.apart j k q _ _ h1 h2 h3 h4⟩
def DE (K : PySem.W.Frag) (ρ : List Addr) (t : TE) (f : DS → Option W) : Prop :=
  ∀ (G : Hp) (σ : St) (H : Hp) (δ : DS) (d : W) (Q : VK), Rl K ρ G H δ σ → f δ = some d → (∀ v G' H', Gr G H G' H' → Dw K ρ G' v d → Q v H') → t σ H Q
def DA (K : PySem.W.Frag) (ρ : List Addr) (t : TA) (f : DS → Option (List W)) : Prop :=
  ∀ (G : Hp) (σ : St) (H : Hp) (δ : DS) (ds : List W) (Q : List V → Hp → Prop), Rl K ρ G H δ σ → f δ = some ds → (∀ vs G' H', Gr G H G' H' → DwAll K ρ G' vs ds → Q vs H') → t σ H Q
def DT (K : PySem.W.Frag) (ρ : List Addr) (t : TT) (f : DS → Option Bool) : Prop :=
  ∀ (G : Hp) (σ : St) (H : Hp) (δ : DS) (b : Bool) (Q : Bool → Hp → Prop), Rl K ρ G H δ σ → f δ = some b → (∀ G' H', Gr G H G' H' → Q b H') → t σ H Q
def DO (K : PySem.W.Frag) (ρ : List Addr) (t : TE) (f : DS → Option (List W)) : Prop :=
  ∀ (G : Hp) (σ : St) (H : Hp) (δ : DS) (ds : List W) (Q : VK), Rl K ρ G H δ σ → f δ = some ds → (∀ p vs G' H', Gr G H G' H' → H p = none → G' p = none → H' p = some (.lst vs) → DwAll K ρ G' vs ds → Q (.ref p) H') → t σ H Q
def Pk (K : PySem.W.Frag) (ρ : List Addr) (G H : Hp) (v : V) (d : W) : Prop := Dw K ρ G v d ∨ ∃ p vs ds, v = .ref p ∧ d = .list ds ∧ H p = some (.lst vs) ∧ DwAll K ρ G vs ds
def DK (K : PySem.W.Frag) (ρ : List Addr) (t : TE) (f : DS → Option W) : Prop :=
  ∀ (G : Hp) (σ : St) (H : Hp) (δ : DS) (d : W) (Q : VK), Rl K ρ G H δ σ → f δ = some d → (∀ v G' H', Gr G H G' H' → Pk K ρ G' H' v d → Q v H') → t σ H Q
section
variable {K : PySem.W.Frag} {ρ : List Addr}
theorem Pk.dp {G H : Hp} {v : V} {d : W} (s : Same G H) (h : Pk K ρ G H v d) : Dw K ρ H v d := by
  rcases h with h | ⟨p, vs, ds, rfl, rfl, h1, h2⟩
  · exact h.same s
  · exact .lst (SqL.of h1) (h2.same s)
theorem Pk.grow {G H G' H' : Hp} {v : V} {d : W} (g : Gr G H G' H') (h : Pk K ρ G H v d) : Pk K ρ G' H' v d := by
  rcases h with h | ⟨p, vs, ds, rfl, rfl, h1, h2⟩
  · exact .inl (h.same g.g)
  · exact .inr ⟨p, vs, ds, rfl, rfl, g.h _ _ h1, h2.same g.g⟩
theorem DE.dk {t : TE} {f : DS → Option W} (h : DE K ρ t f) : DK K ρ t f := fun G σ H δ d Q R e q => h G σ H δ d Q R e fun v G' H' g dv => q v G' H' g (.inl dv)
def dOwn (f : DS → Option (List W)) : DS → Option W := fun δ => (f δ).map .list
theorem DO.de {t : TE} {f : DS → Option (List W)} (h : DO K ρ t f) : DE K ρ t (dOwn f) := fun G σ H δ d Q R e q => by
  obtain ⟨ds, e1, rfl⟩ := Option.map_eq_some_iff.mp e
  exact h G σ H δ ds Q R e1 fun p vs G' H' g h0 g0 hh da => q _ _ H' (g.new h0 g0 hh) (.lst (SqL.of upd_same) (da.same (same_new g0 _)))
def dVar (i : Nat) : DS → Option W := fun δ => match δ[i]? with
  | some (.val d) => some d
  | _ => none
theorem de_var {i : Nat} : DE K ρ (tVar i) (dVar i) := fun G σ H δ d Q R e q => by
  unfold dVar at e
  split at e
  · rename_i d' h
    cases e
    obtain ⟨o, h1, v, h2, h3⟩ := R.sl i _ h
    exact ⟨v, by rw [h1, h2], q v G H (.refl R.sub) h3⟩
  · cases e
def dPk (i : Nat) : DS → Option W := fun δ => match δ[i]? with
  | some (.val d) => some d
  | some (.own ds) => some (.list ds)
  | _ => none
theorem dk_var {i : Nat} : DK K ρ (tVar i) (dPk i) := fun G σ H δ d Q R e q => by
  unfold dPk at e
  split at e
  · rename_i d' h
    cases e
    obtain ⟨o, h1, v, h2, h3⟩ := R.sl i _ h
    exact ⟨v, by rw [h1, h2], q v G H (.refl R.sub) (.inl h3)⟩
  · rename_i ds h
    cases e
    obtain ⟨o, h1, p, vs, h2, h3, h4, h5⟩ := R.sl i _ h
    exact ⟨.ref p, by rw [h1, h2], q _ G H (.refl R.sub) (.inr ⟨p, vs, ds, rfl, rfl, h4, h5⟩)⟩
  · cases e
def dC (d : W) : DS → Option W := fun _ => some d
theorem de_c {v : V} {d : W} (h : ∀ G, Dw K ρ G v d) : DE K ρ (tC v) (dC d) := fun G σ H δ d' Q R e q => by
  cases e
  exact q v G H (.refl R.sub) (h G)
theorem de_int {i : Int} : DE K ρ (tC (.int i)) (dC (.int i)) := de_c fun _ => .int i
theorem de_bl {b : Bool} : DE K ρ (tC (.bl b)) (dC (.bool b)) := de_c fun _ => .bl b
theorem de_str {x : Str} : DE K ρ (tC (.str x)) (dC (.str x)) := de_c fun _ => .str x
theorem de_non : DE K ρ (tC .non) (dC .none) := de_c fun _ => .non
def DR (K : PySem.W.Frag) (ρ : List Addr) (r : R2) (g : W → W → Option W) : Prop :=
  ∀ (G H : Hp) (x y : V) (d e c : W) (Q : VK), Same G H → Pk K ρ G H x d → Dw K ρ G y e → g d e = some c → (∀ v G' H', Gr G H G' H' → Dw K ρ G' v c → Q v H') → r x y H Q
def dOp (g : W → W → Option W) (fa fb : DS → Option W) : DS → Option W := fun δ => (fa δ).bind fun x => (fb δ).bind fun y => g x y
theorem de_op {r : R2} {ta tb : TE} {fa fb : DS → Option W} {g : W → W → Option W} (hr : DR K ρ r g) (ha : DK K ρ ta fa) (hb : DE K ρ tb fb) : DE K ρ (tOp r ta tb) (dOp g fa fb) := fun G σ H δ d Q R e q => by
  obtain ⟨x, ex, e⟩ := Option.bind_eq_some_iff.mp e
  obtain ⟨y, ey, e⟩ := Option.bind_eq_some_iff.mp e
  exact ha G σ H δ x _ R ex fun v G1 H1 g1 dv => hb G1 σ H1 δ y _ (R.grow g1) ey fun u G2 H2 g2 du => hr G2 H2 v u x y d Q g2.s (dv.grow g2) du e fun w G3 H3 g3 dw => q w G3 H3 (g1.trans (g2.trans g3)) dw
def DB (K : PySem.W.Frag) (ρ : List Addr) (r : R2) (g : W → W → Option Bool) : Prop :=
  ∀ (H : Hp) (x y : V) (d e : W) (b : Bool) (Q : VK), Dw K ρ H x d → Dw K ρ H y e → g d e = some b → Q (.bl b) H → r x y H Q
def dCmp (g : W → W → Option Bool) (fa fb : DS → Option W) : DS → Option Bool := fun δ => (fa δ).bind fun x => (fb δ).bind fun y => g x y
def dB (f : DS → Option Bool) : DS → Option W := fun δ => (f δ).map .bool
theorem dcmp_core {r : R2} {ta tb : TE} {fa fb : DS → Option W} {g : W → W → Option Bool} (hr : DB K ρ r g) (ha : DK K ρ ta fa) (hb : DK K ρ tb fb) {G : Hp} {σ : St} {H : Hp} {δ : DS} {b : Bool} {Q : VK} (R : Rl K ρ G H δ σ) (e : dCmp g fa fb δ = some b) (q : ∀ G' H', Gr G H G' H' → Q (.bl b) H') : tOp r ta tb σ H Q := by
  obtain ⟨x, ex, e⟩ := Option.bind_eq_some_iff.mp e
  obtain ⟨y, ey, e⟩ := Option.bind_eq_some_iff.mp e
  exact ha G σ H δ x _ R ex fun v G1 H1 g1 dv => hb G1 σ H1 δ y _ (R.grow g1) ey fun u G2 H2 g2 du => hr H2 v u x y b Q ((dv.grow g2).dp g2.s) (du.dp g2.s) e (q G2 H2 (g1.trans g2))
theorem de_cmp {r : R2} {ta tb : TE} {fa fb : DS → Option W} {g : W → W → Option Bool} (hr : DB K ρ r g) (ha : DK K ρ ta fa) (hb : DK K ρ tb fb) : DE K ρ (tOp r ta tb) (dB (dCmp g fa fb)) := fun G σ H δ d Q R e q => by
  obtain ⟨b, e1, rfl⟩ := Option.map_eq_some_iff.mp e
  exact dcmp_core hr ha hb R e1 fun G' H' g => q _ G' H' g (.bl b)
theorem dt_cmp {r : R2} {ta tb : TE} {fa fb : DS → Option W} {g : W → W → Option Bool} (hr : DB K ρ r g) (ha : DK K ρ ta fa) (hb : DK K ρ tb fb) : DT K ρ (tTest (tOp r ta tb)) (dCmp g fa fb) := fun G σ H δ b Q R e q =>
  dcmp_core hr ha hb R e fun G' H' g => ⟨b, rfl, q G' H' g⟩
def asB : W → Option Bool
  | .bool b => some b
  | _ => none
def dTru (f : DS → Option W) : DS → Option Bool := fun δ => (f δ).bind asB
theorem asB_eq {d : W} {b : Bool} (h : asB d = some b) : d = .bool b := by
  cases d <;> first | (cases h; rfl) | cases h
theorem dt_val {t : TE} {f : DS → Option W} (h : DE K ρ t f) : DT K ρ (tB t) (dTru f) := fun G σ H δ b Q R e q => by
  obtain ⟨x, ex, e⟩ := Option.bind_eq_some_iff.mp e
  cases asB_eq e
  exact h G σ H δ _ _ R ex fun v G1 H1 g1 dv => by
    cases dv
    exact ⟨b, rfl, q G1 H1 g1⟩
def dAnd (f g : DS → Option Bool) : DS → Option Bool := fun δ => (f δ).bind fun b => if b = true then g δ else some false
def dOr (f g : DS → Option Bool) : DS → Option Bool := fun δ => (f δ).bind fun b => if b = true then some true else g δ
def dNot (f : DS → Option Bool) : DS → Option Bool := fun δ => (f δ).map (!·)
theorem dt_not {t : TT} {f : DS → Option Bool} (h : DT K ρ t f) : DT K ρ (tNot t) (dNot f) := fun G σ H δ b Q R e q => by
  obtain ⟨x, ex, rfl⟩ := Option.map_eq_some_iff.mp e
  exact h G σ H δ x _ R ex q
def dAndV (f g : DS → Option W) : DS → Option W := fun δ => (f δ).bind fun x => (asB x).bind fun b => if b = true then g δ else some (.bool false)
def dOrV (f g : DS → Option W) : DS → Option W := fun δ => (f δ).bind fun x => (asB x).bind fun b => if b = true then some (.bool true) else g δ
theorem de_and {t u : TE} {f g : DS → Option W} (h1 : DE K ρ t f) (h2 : DE K ρ u g) : DE K ρ (tAndV t u) (dAndV f g) := fun G σ H δ d Q R e q => by
  obtain ⟨x, ex, e⟩ := Option.bind_eq_some_iff.mp e
  obtain ⟨b, eb, e⟩ := Option.bind_eq_some_iff.mp e
  cases asB_eq eb
  refine h1 G σ H δ _ _ R ex fun v G1 H1 g1 dv => ?_
  cases dv
  refine ⟨b, rfl, ?_⟩
  cases b with
  | true => exact h2 G1 σ H1 δ d Q (R.grow g1) e fun v G2 H2 g2 dv => q v G2 H2 (g1.trans g2) dv
  | false => cases e; exact q _ G1 H1 g1 (.bl false)
def dNotV (f : DS → Option W) : DS → Option W := fun δ => (f δ).bind fun x => (asB x).map fun b => .bool (!b)
theorem de_not {t : TE} {f : DS → Option W} (h : DE K ρ t f) : DE K ρ (tNotV t) (dNotV f) := fun G σ H δ d Q R e q => by
  obtain ⟨x, ex, e⟩ := Option.bind_eq_some_iff.mp e
  obtain ⟨b, eb, rfl⟩ := Option.map_eq_some_iff.mp e
  cases asB_eq eb
  refine h G σ H δ _ _ R ex fun v G1 H1 g1 dv => ?_
  cases dv
  exact ⟨b, rfl, q _ G1 H1 g1 (.bl _)⟩
def dIf (c : DS → Option Bool) (f g : DS → Option W) : DS → Option W := fun δ => (c δ).bind fun b => if b = true then f δ else g δ
def dNil : DS → Option (List W) := fun _ => some []
def dCons (f : DS → Option W) (g : DS → Option (List W)) : DS → Option (List W) := fun δ => (f δ).bind fun d => (g δ).map (d :: ·)
theorem da_nil : DA K ρ tNil dNil := fun G σ H δ ds Q R e q => by
  cases e
  exact q [] G H (.refl R.sub) .nil
theorem da_cons {t : TE} {u : TA} {f : DS → Option W} {g : DS → Option (List W)} (h1 : DE K ρ t f) (h2 : DA K ρ u g) : DA K ρ (tCons t u) (dCons f g) := fun G σ H δ ds Q R e q => by
  obtain ⟨d, ed, e⟩ := Option.bind_eq_some_iff.mp e
  obtain ⟨es, ee, rfl⟩ := Option.map_eq_some_iff.mp e
  exact h1 G σ H δ d _ R ed fun v G1 H1 g1 dv => h2 G1 σ H1 δ es _ (R.grow g1) ee fun vs G2 H2 g2 da => q _ G2 H2 (g1.trans g2) (.cons (dv.same g2.g) da)
theorem DwAll.length {G : Hp} : ∀ {vs : List V} {ds : List W}, DwAll K ρ G vs ds → vs.length = ds.length
  | _, _, .nil => rfl
  | _, _, .cons _ t => by rw [List.length_cons, List.length_cons, DwAll.length t]
theorem DwAll.get {G : Hp} : ∀ {vs : List V} {ds : List W} {i : Nat} {d : W}, DwAll K ρ G vs ds → ds[i]? = some d → ∃ v, vs[i]? = some v ∧ Dw K ρ G v d
  | _, _, 0, _, .cons h t, e => by simp at e; subst e; exact ⟨_, rfl, h⟩
  | _, _, i + 1, _, .cons h t, e => by
    obtain ⟨v, h1, h2⟩ := DwAll.get (i := i) t (by simpa using e)
    exact ⟨v, by simpa using h1, h2⟩
theorem DwAll.app {G : Hp} : ∀ {vs ws : List V} {ds es : List W}, DwAll K ρ G vs ds → DwAll K ρ G ws es → DwAll K ρ G (vs ++ ws) (ds ++ es)
  | _, _, _, _, .nil, h => h
  | _, _, _, _, .cons a b, h => .cons a (DwAll.app b h)
theorem DwAll.drop {G : Hp} : ∀ {vs : List V} {ds : List W} (n : Nat), DwAll K ρ G vs ds → DwAll K ρ G (vs.drop n) (ds.drop n)
  | _, _, 0, h => h
  | _, _, _ + 1, .nil => .nil
  | _, _, n + 1, .cons _ t => DwAll.drop n t
theorem DwAll.take {G : Hp} : ∀ {vs : List V} {ds : List W} (n : Nat), DwAll K ρ G vs ds → DwAll K ρ G (vs.take n) (ds.take n)
  | _, _, 0, _ => .nil
  | _, _, _ + 1, .nil => .nil
  | _, _, n + 1, .cons h t => .cons h (DwAll.take n t)
theorem DwAll.set {G : Hp} {v : V} {d : W} (h : Dw K ρ G v d) : ∀ {vs : List V} {ds : List W} (n : Nat), DwAll K ρ G vs ds → DwAll K ρ G (vs.set n v) (ds.set n d)
  | _, _, _, .nil => .nil
  | _, _, 0, .cons _ t => .cons h t
  | _, _, n + 1, .cons a t => .cons a (DwAll.set h n t)
theorem DwAll.ints {G : Hp} : ∀ (ns : List Int), DwAll K ρ G (ns.map V.int) (ns.map .int)
  | [] => .nil
  | n :: r => .cons (.int n) (DwAll.ints r)
def dTup (f : DS → Option (List W)) : DS → Option W := fun δ => (f δ).bind fun ds => if ds.length ≤ sizeLine then some (.tuple ds) else none
theorem de_tup {t : TA} {f : DS → Option (List W)} (h : DA K ρ t f) : DE K ρ (tTupN t) (dTup f) := fun G σ H δ d Q R e q => by
  obtain ⟨ds, e1, e⟩ := Option.bind_eq_some_iff.mp e
  split at e
  · rename_i hz
    cases e
    refine h G σ H δ ds _ R e1 fun vs G1 H1 g1 da => ⟨by rw [da.length]; exact hz, fun p H' n => ?_⟩
    have g2 := Gr.nw g1.s n
    exact q _ _ H' (g1.trans g2) (.tup (SqT.of upd_same) (da.same g2.g))
  · cases e
def dLst (f : DS → Option (List W)) : DS → Option (List W) := fun δ => (f δ).bind fun ds => if ds.length ≤ sizeLine then some ds else none
theorem do_lst {t : TA} {f : DS → Option (List W)} (h : DA K ρ t f) : DO K ρ (tLstN t) (dLst f) := fun G σ H δ ds Q R e q => by
  obtain ⟨ds', e1, e⟩ := Option.bind_eq_some_iff.mp e
  split at e
  · rename_i hz
    cases e
    refine h G σ H δ _ _ R e1 fun vs G1 H1 g1 da => ⟨by rw [da.length]; exact hz, fun p H' n => ?_⟩
    exact q p vs G1 H' (g1.trans (.nwO g1.s n)) (by
      cases hp : H p with
      | none => rfl
      | some o => exact absurd (g1.h _ _ hp) (by rw [n.2.1]; simp)) (same_no g1.s n.2.1) n.2.2 da
  · cases e
end
end L2
set_option Elab.async false
set_option linter.all false
set_option maxRecDepth 100000
namespace L2
open PySem PySem.Spec PyProof.Rows
section
variable {X : Cx} {tg : Expr}
def iSeq (K : PySem.W.Frag) (tl : TE) : TI := fun σ H R => tl σ H fun x H1 => ∃ a, x = .ref a ∧ (((∃ xs, SqL K H1 a xs) ∧ R (Itl K a) H1) ∨ ((∃ xs, SqT K H1 a xs) ∧ R (Itt K a) H1))
theorem pi_seq {l : Expr} {tl : TE} (hl : PE X l tl) : PI X tg l (iSeq X.K tl) := by
  intro pins s σ H R I h
  refine thn (hl pins s σ H _ I h) fun v s1 ⟨x, H1, I1, r1, q1⟩ => ?_
  obtain ⟨a, e, ⟨⟨xs, hq⟩, q⟩ | ⟨⟨xs, hq⟩, q⟩⟩ := q1
  all_goals
    subst e
    cases r1
  · obtain ⟨its, rv, p, hz⟩ := I1.list hq
    refine wpAny_pyIter_list p.isList ?_
    refine ⟨s1.heap.objs.size, [s1.heap.objs.size], _, _, H1, rfl, I1.kept (t' := s1.toks) fun b o e => Heap.get?_push_of_some _ e, turn_list a _, ⟨_, Heap.get?_push_size _ rfl, rfl, rfl⟩, fun b hb => ?_, q⟩
    have e : b = s1.heap.objs.size := by simpa using hb
    subst e
    exact I1.fpOk (Nat.le_refl _) (I1.hok.fresh (Nat.le_refl _))
  · obtain ⟨its, rv, p, hz⟩ := I1.tuple hq
    refine wpAny_pyIter_tuple (show s1.heap.IsTuple a its.toArray from p) ?_
    refine ⟨s1.heap.objs.size, [s1.heap.objs.size], _, _, H1, rfl, I1.kept (t' := s1.toks) fun b o e => Heap.get?_push_of_some _ e, turn_tuple a _, ⟨_, Heap.get?_push_size _ rfl, rfl, rfl⟩, fun b hb => ?_, q⟩
    have e : b = s1.heap.objs.size := by simpa using hb
    subst e
    exact I1.fpOk (Nat.le_refl _) (I1.hok.fresh (Nat.le_refl _))
theorem pi_seqK {K : PySem.W.Frag} (h : X.K = K) {l : Expr} {tl : TE} (hl : PE X l tl) : PI X tg l (iSeq K tl) := h ▸ pi_seq hl
end
section
variable {K : PySem.W.Frag} {ρ : List Addr}
def ItA (K : PySem.W.Frag) (ρ : List Addr) (J : It) (ds : List W) (i : Nat) (G1 H1 : Hp) : Prop :=
  (∀ d, ds[i]? = some d → J.go i H1 ∧ ∀ x H', J.yld i H1 x H' → ∃ G', Gr G1 H1 G' H' ∧ Dw K ρ G' x d) ∧ (ds.length ≤ i → J.stop i H1)
def ItD (K : PySem.W.Frag) (ρ : List Addr) (J : It) (G H : Hp) (ds : List W) : Prop := ∀ i G1 H1, Gr G H G1 H1 → ItA K ρ J ds i G1 H1
def ItF (K : PySem.W.Frag) (ρ : List Addr) (J : It) (G : Hp) (ds : List W) : Prop := ∀ i G1 H1, Same G G1 → Same G1 H1 → ItA K ρ J ds i G1 H1
theorem ItF.d {J : It} {G H : Hp} {ds : List W} (h : ItF K ρ J G ds) : ItD K ρ J G H ds := fun i G1 H1 g => h i G1 H1 g.g g.s
def DI (K : PySem.W.Frag) (ρ : List Addr) (wi : TI) (f : DS → Option (List W)) : Prop :=
  ∀ (G : Hp) (σ : St) (H : Hp) (δ : DS) (ds : List W) (R' : It → Hp → Prop), Rl K ρ G H δ σ → f δ = some ds → (∀ J G' H', Gr G H G' H' → ItF K ρ J G' ds → R' J H') → wi σ H R'
def DIk (K : PySem.W.Frag) (ρ : List Addr) (wi : TI) (f : DS → Option (List W)) : Prop :=
  ∀ (G : Hp) (σ : St) (H : Hp) (δ : DS) (ds : List W) (R' : It → Hp → Prop), Rl K ρ G H δ σ → f δ = some ds → (∀ J G' H', Gr G H G' H' → ItD K ρ J G' H' ds → R' J H') → wi σ H R'
theorem DI.k {wi : TI} {f : DS → Option (List W)} (h : DI K ρ wi f) : DIk K ρ wi f := fun G σ H δ ds R' R e q => h G σ H δ ds R' R e fun J G' H' g i => q J G' H' g i.d
def seqD : W → Option (List W)
  | .list ds => some ds
  | .tuple ds => some ds
  | _ => none
def dSeqOf (f : DS → Option W) : DS → Option (List W) := fun δ => (f δ).bind seqD
theorem itl_at {G1 H1 : Hp} {a : Addr} {xs : List V} {ds : List W} {i : Nat} (s : Same G1 H1) (q : SqL K H1 a xs) (da : DwAll K ρ G1 xs ds) : ItA K ρ (Itl K a) ds i G1 H1 := by
  refine ⟨fun d hd => ?_, fun h => ⟨xs, q, by rw [da.length]; exact h⟩⟩
  obtain ⟨v, h1, h2⟩ := da.get hd
  refine ⟨⟨xs, v, q, h1⟩, fun x H' y => ?_⟩
  obtain ⟨rfl, y⟩ := y
  have := y xs q
  rw [h1] at this
  cases this
  exact ⟨G1, .refl s, h2⟩
theorem itt_at {G1 H1 : Hp} {a : Addr} {xs : List V} {ds : List W} {i : Nat} (s : Same G1 H1) (q : SqT K H1 a xs) (da : DwAll K ρ G1 xs ds) : ItA K ρ (Itt K a) ds i G1 H1 := by
  refine ⟨fun d hd => ?_, fun h => ⟨xs, q, by rw [da.length]; exact h⟩⟩
  obtain ⟨v, h1, h2⟩ := da.get hd
  refine ⟨⟨xs, v, q, h1⟩, fun x H' y => ?_⟩
  obtain ⟨rfl, y⟩ := y
  have := y xs q
  rw [h1] at this
  cases this
  exact ⟨G1, .refl s, h2⟩
theorem di_seq {t : TE} {f : DS → Option W} (h : DE K ρ t f) : DI K ρ (iSeq K t) (dSeqOf f) := fun G σ H δ ds R' R e q => by
  obtain ⟨d, ed, e⟩ := Option.bind_eq_some_iff.mp e
  refine h G σ H δ d _ R ed fun v G1 H1 g1 dv => ?_
  cases dv with
  | lst sq da =>
    cases e
    exact ⟨_, rfl, .inl ⟨⟨_, g1.s.seq sq⟩, q _ G1 H1 g1 fun i G2 H2 a b => itl_at b ((a.trans b).seq sq) (da.same a)⟩⟩
  | tup sq da =>
    cases e
    exact ⟨_, rfl, .inr ⟨⟨_, g1.s.tup sq⟩, q _ G1 H1 g1 fun i G2 H2 a b => itt_at b ((a.trans b).tup sq) (da.same a)⟩⟩
  | _ => cases e
theorem dik_seq {t : TE} {f : DS → Option W} (h : DK K ρ t f) : DIk K ρ (iSeq K t) (dSeqOf f) := fun G σ H δ ds R' R e q => by
  obtain ⟨d, ed, e⟩ := Option.bind_eq_some_iff.mp e
  refine h G σ H δ d _ R ed fun v G1 H1 g1 dv => ?_
  rcases dv with dv | ⟨p, vs, es, rfl, rfl, hp, da⟩
  · cases dv with
    | lst sq da =>
      cases e
      exact ⟨_, rfl, .inl ⟨⟨_, g1.s.seq sq⟩, q _ G1 H1 g1 fun i G2 H2 g => itl_at g.s ((g.g.trans g.s).seq sq) (da.same g.g)⟩⟩
    | tup sq da =>
      cases e
      exact ⟨_, rfl, .inr ⟨⟨_, g1.s.tup sq⟩, q _ G1 H1 g1 fun i G2 H2 g => itt_at g.s ((g.g.trans g.s).tup sq) (da.same g.g)⟩⟩
    | _ => cases e
  · cases e
    exact ⟨p, rfl, .inl ⟨⟨_, SqL.of hp⟩, q _ G1 H1 g1 fun i G2 H2 g => itl_at g.s (SqL.of (g.h _ _ hp)) (da.same g.g)⟩⟩
def rngD (lo : Int) (n : Nat) : List W := (List.range n).map fun i => .int (lo + (i : Nat))
theorem itr_ok {G : Hp} {lo : Int} {n : Nat} : ItF K ρ (Itr lo n) G (rngD lo n) := fun i G1 H1 _ s => by
  refine ⟨fun d hd => ?_, fun h => show n ≤ i by simpa [rngD] using h⟩
  have hi : i < n := by
    have := (List.getElem?_eq_some_iff.mp hd).1
    simpa [rngD] using this
  refine ⟨hi, fun x H' y => ?_⟩
  obtain ⟨rfl, rfl⟩ := y
  have : d = .int (lo + i) := by
    unfold rngD at hd
    rw [List.getElem?_map, List.getElem?_range hi] at hd
    cases hd
    rfl
  subst this
  exact ⟨G1, .refl s, .int _⟩
def rngOk (j : Int) : Bool := decide (-(2 ^ 62) ≤ j) && decide (j < 2 ^ 62)
theorem rngOk_iff {j : Int} (h : rngOk j = true) : -(2 ^ 62) ≤ j ∧ j < 2 ^ 62 := by
  simp only [rngOk, Bool.and_eq_true, decide_eq_true_eq] at h
  exact h
theorem rngOk_of {j : Int} (h1 : -(2 ^ 62) ≤ j) (h2 : j < 2 ^ 62) : rngOk j = true := by
  simp only [rngOk, Bool.and_eq_true, decide_eq_true_eq]
  exact ⟨h1, h2⟩
theorem rngOk_nat {n : Nat} (h : n ≤ 16777216) : rngOk (n : Int) = true := rngOk_of (by omega) (by omega)
def rng1 (j : Int) : Option (List W) := if rngOk j = true then some (rngD 0 j.toNat) else none
def rng1L : List W → Option (List W)
  | [.int j] => rng1 j
  | _ => none
def dRng1 (f : DS → Option (List W)) : DS → Option (List W) := fun δ => (f δ).bind rng1L
theorem rng1_ok {j : Int} {ds : List W} (h : rng1 j = some ds) : (-(2 ^ 62) ≤ j ∧ j < 2 ^ 62) ∧ ds = rngD 0 j.toNat := by
  unfold rng1 at h
  split at h
  · rename_i hc
    cases h
    exact ⟨rngOk_iff hc, rfl⟩
  · cases h
theorem dp_int {G : Hp} {v : V} {i : Int} (h : Dw K ρ G v (.int i)) : v = .int i := by cases h; rfl
theorem dp_str {G : Hp} {v : V} {i : Str} (h : Dw K ρ G v (.str i)) : v = .str i := by cases h; rfl
theorem dp_non {G : Hp} {v : V} (h : Dw K ρ G v .none) : v = .non := by cases h; rfl
theorem dp_one {G : Hp} {vs : List V} {d : W} (h : DwAll K ρ G vs [d]) : ∃ v, vs = [v] ∧ Dw K ρ G v d := by
  cases h with
  | cons a b => cases b; exact ⟨_, rfl, a⟩
theorem dp_two {G : Hp} {vs : List V} {d e : W} (h : DwAll K ρ G vs [d, e]) : ∃ v u, vs = [v, u] ∧ Dw K ρ G v d ∧ Dw K ρ G u e := by
  cases h with
  | cons a b =>
    cases b with
    | cons b c => cases c; exact ⟨_, _, rfl, a, b⟩
theorem di_rng1 {t : TA} {f : DS → Option (List W)} (h : DA K ρ t f) : DI K ρ (iRng1 t) (dRng1 f) := fun G σ H δ ds R' R e q => by
  obtain ⟨es, ed, e⟩ := Option.bind_eq_some_iff.mp e
  refine h G σ H δ es _ R ed fun vs G1 H1 g1 da => ?_
  unfold rng1L at e
  split at e
  · obtain ⟨hc, rfl⟩ := rng1_ok e
    obtain ⟨v, rfl, dv⟩ := dp_one da
    cases dp_int dv
    exact ⟨_, rfl, hc.1, hc.2, q _ G1 H1 g1 itr_ok⟩
  · cases e
def enumD (ds : List W) : List W := (List.range ds.length).map fun (i : Nat) => .tuple [.int (i : Int), ds[i]?.getD .none]
theorem enumD_get {ds : List W} {i : Nat} {d : W} (h : (enumD ds)[i]? = some d) : ∃ x, ds[i]? = some x ∧ d = .tuple [.int i, x] := by
  have hi : i < ds.length := by
    have := (List.getElem?_eq_some_iff.mp h).1
    simpa [enumD] using this
  unfold enumD at h
  rw [List.getElem?_map, List.getElem?_range hi] at h
  cases h
  exact ⟨ds[i], List.getElem?_eq_getElem hi, by simp [List.getElem?_eq_getElem hi]⟩
theorem ite_at {G1 H1 : Hp} {a : Addr} {xs : List V} {ds : List W} {i : Nat} (s : Same G1 H1) (q : SqL K H1 a xs) (da : DwAll K ρ G1 xs ds) : ItA K ρ (Ite K a) (enumD ds) i G1 H1 := by
  refine ⟨fun d hd => ?_, fun h => ⟨xs, q, by rw [da.length]; simpa [enumD] using h⟩⟩
  obtain ⟨x, hx, rfl⟩ := enumD_get hd
  obtain ⟨v, h1, h2⟩ := da.get hx
  refine ⟨⟨xs, v, q, h1⟩, fun y H' w => ?_⟩
  obtain ⟨p, u, hp, rfl, rfl, w⟩ := w
  have := w xs q
  rw [h1] at this
  cases this
  have n : Nw H1 (upd H1 p (.tup [.int i, v])) p (.tup [.int i, v]) := .of hp
  have g := Gr.nw s n
  exact ⟨_, g, .tup (SqT.of upd_same) (.cons (.int i) (.cons (h2.same g.g) .nil))⟩
def dEnum (f : DS → Option (List W)) : DS → Option (List W) := fun δ => (f δ).bind fun ds => match ds with
  | [.list es] => some (enumD es)
  | _ => none
theorem di_enum {t : TA} {f : DS → Option (List W)} (h : DA K ρ t f) : DI K ρ (iEnum K t) (dEnum f) := fun G σ H δ ds R' R e q => by
  obtain ⟨es, ed, e⟩ := Option.bind_eq_some_iff.mp e
  refine h G σ H δ es _ R ed fun vs G1 H1 g1 da => ?_
  split at e
  · cases e
    obtain ⟨v, rfl, dv⟩ := dp_one da
    cases dv with
    | lst sq da => exact ⟨_, rfl, ⟨_, g1.s.seq sq⟩, q _ G1 H1 g1 fun i G2 H2 a b => ite_at b ((a.trans b).seq sq) (da.same a)⟩
  · cases e
def zipD (ds es : List W) : List W := List.zipWith (fun x y => .tuple [x, y]) ds es
def dZip (f : DS → Option (List W)) : DS → Option (List W) := fun δ => (f δ).bind fun ds => match ds with
  | [.list a, .list b] => some (zipD a b)
  | _ => none
def DG (K : PySem.W.Frag) (ρ : List Addr) (g : TG) (h : W → DS → Option DS) : Prop :=
  ∀ (G H : Hp) (δ : DS) (σ : St) (v : V) (d : W) (δ' : DS) (Q : St → Hp → Prop), Rl K ρ G H δ σ → Dw K ρ G v d → h d δ = some δ' → (∀ σ', Rl K ρ G H δ' σ' → OwnSub δ' σ' δ σ → Q σ' H) → g v σ H Q
def DGs (K : PySem.W.Frag) (ρ : List Addr) (g : TGs) (h : List W → DS → Option DS) : Prop :=
  ∀ (G H : Hp) (δ : DS) (σ : St) (vs : List V) (ds : List W) (δ' : DS) (Q : St → Hp → Prop), Rl K ρ G H δ σ → DwAll K ρ G vs ds → h ds δ = some δ' → (∀ σ', Rl K ρ G H δ' σ' → OwnSub δ' σ' δ σ → Q σ' H) → g vs σ H Q
def dgName (i : Nat) : W → DS → Option DS := fun d δ => some (δ.set i (.val d))
theorem dg_name {i : Nat} : DG K ρ (gName i) (dgName i) := fun G H δ σ v d δ' Q R dv e q => by
  cases e
  exact q _ (R.set dv) (ownsub_set R.len)
def dgNil : List W → DS → Option DS := fun ds δ => match ds with
  | [] => some δ
  | _ => none
def dgCons (h : W → DS → Option DS) (k : List W → DS → Option DS) : List W → DS → Option DS := fun ds δ => match ds with
  | d :: r => (h d δ).bind (k r)
  | _ => none
theorem dgs_nil : DGs K ρ gNil dgNil := fun G H δ σ vs ds δ' Q R dv e q => by
  cases dv with
  | nil => cases e; exact ⟨rfl, q _ R (.refl _ _)⟩
  | cons _ _ => cases e
theorem dgs_cons {g : TG} {u : TGs} {h : W → DS → Option DS} {k : List W → DS → Option DS} (h1 : DG K ρ g h) (h2 : DGs K ρ u k) : DGs K ρ (gCons g u) (dgCons h k) := fun G H δ σ vs ds δ' Q R dv e q => by
  cases dv with
  | nil => cases e
  | cons a b =>
    obtain ⟨δ1, e1, e⟩ := Option.bind_eq_some_iff.mp e
    exact ⟨_, _, rfl, h1 G H δ σ _ _ δ1 _ R a e1 fun σ1 R1 o1 => h2 G H δ1 σ1 _ _ δ' Q R1 b e fun σ2 R2 o2 => q σ2 R2 (o2.trans o1)⟩
def dgTup (n : Nat) (k : List W → DS → Option DS) : W → DS → Option DS := fun d δ => match d with
  | .tuple ds => if ds.length = n then k ds δ else none
  | _ => none
theorem dg_tup {n : Nat} {u : TGs} {k : List W → DS → Option DS} (h : DGs K ρ u k) : DG K ρ (gTup K n u) (dgTup n k) := fun G H δ σ v d δ' Q R dv e q => by
  cases dv with
  | tup sq da =>
    simp only [dgTup] at e
    split at e
    · rename_i hn
      exact ⟨_, _, rfl, R.sub.tup sq, by rw [da.length]; exact hn, h G H δ σ _ _ δ' Q R da e q⟩
    · cases e
  | _ => cases e
def slAt (δ : DS) : Option Nat → Sl
  | none => .no
  | some i => δ[i]?.getD .no
def vAt (σ : St) : Option Nat → Option V
  | none => none
  | some i => match σ[i]? with
    | some v => v
    | none => none
def liftD (ix : List (Option Nat)) (δ : DS) : DS := ix.map (slAt δ)
theorem lift_get {ix : List (Option Nat)} {σ : St} {j : Nat} {o : Option Nat} (h : ix[j]? = some o) : (lift ix σ)[j]? = some (vAt σ o) := by
  unfold lift
  rw [List.getElem?_map, h]
  cases o <;> rfl
theorem liftD_get {ix : List (Option Nat)} {δ : DS} {j : Nat} {s : Sl} (h : (liftD ix δ)[j]? = some s) : ∃ o, ix[j]? = some o ∧ s = slAt δ o := by
  unfold liftD at h
  rw [List.getElem?_map] at h
  obtain ⟨o, h1, h2⟩ := Option.map_eq_some_iff.mp h
  exact ⟨o, h1, h2.symm⟩
def ixOk (ix : List (Option Nat)) : Bool := decide ((ix.filterMap id).Nodup)
theorem ix_inj {ix : List (Option Nat)} (h : (ix.filterMap id).Nodup) : ∀ {i j k : Nat}, ix[i]? = some (some k) → ix[j]? = some (some k) → i = j := by
  induction ix with
  | nil => intro i j k h1; simp at h1
  | cons o r ih =>
    intro i j k h1 h2
    have hr : (r.filterMap id).Nodup := by
      cases o with
      | none => simpa using h
      | some a =>
        have h' : (a :: r.filterMap id).Nodup := h
        exact (List.nodup_cons.mp h').2
    have hm : ∀ m, r[m]? = some (some k) → k ∈ r.filterMap id := fun m hm => List.mem_filterMap.mpr ⟨some k, List.mem_of_getElem? hm, rfl⟩
    cases i with
    | zero =>
      cases j with
      | zero => rfl
      | succ j =>
        simp at h1 h2
        subst h1
        have h' : (k :: r.filterMap id).Nodup := h
        exact absurd (hm j h2) (List.nodup_cons.mp h').1
    | succ i =>
      cases j with
      | zero =>
        simp at h1 h2
        subst h2
        have h' : (k :: r.filterMap id).Nodup := h
        exact absurd (hm i h1) (List.nodup_cons.mp h').1
      | succ j =>
        simp at h1 h2
        rw [ih hr h1 h2]
theorem Rl.lift {G H : Hp} {δ : DS} {σ : St} {ix : List (Option Nat)} (hx : ixOk ix = true) (R : Rl K ρ G H δ σ) : Rl K ρ G H (liftD ix δ) (lift ix σ) := by
  have hx' : (ix.filterMap id).Nodup := by simpa [ixOk] using hx
  have own : ∀ {j : Nat} {ds : List W}, (liftD ix δ)[j]? = some (.own ds) → ∃ i, ix[j]? = some (some i) ∧ δ[i]? = some (.own ds) := fun {j ds} h => by
    obtain ⟨o, h1, h2⟩ := liftD_get h
    cases o with
    | none => cases h2
    | some i =>
      refine ⟨i, h1, ?_⟩
      cases e : δ[i]? with
      | none => simp [slAt, e] at h2
      | some s => simp [slAt, e] at h2; rw [h2]
  have at' : ∀ {j i : Nat} {v : V}, ix[j]? = some (some i) → (L2.lift ix σ)[j]? = some (some v) → σ[i]? = some (some v) := fun {j i v} h1 h2 => by
    rw [lift_get h1] at h2
    simp only [vAt] at h2
    split at h2
    · rename_i w e
      rw [e]
      simpa using h2
    · cases h2
  refine ⟨R.sub, by simp [liftD, L2.lift], fun j s h => ?_, fun j k p ds es h1 h2 h3 h4 => ?_⟩
  · obtain ⟨o, h1, rfl⟩ := liftD_get h
    refine ⟨_, lift_get h1, ?_⟩
    cases o with
    | none => trivial
    | some i =>
      cases e : δ[i]? with
      | none => simp only [slAt, e, Option.getD_none]; trivial
      | some s =>
        obtain ⟨o, k1, k2⟩ := R.sl i s e
        simp only [slAt, vAt, e, k1, Option.getD_some]
        exact k2
  · obtain ⟨i1, a1, a2⟩ := own h1
    obtain ⟨i2, b1, b2⟩ := own h2
    have := R.apart i1 i2 p ds es a2 b2 (at' a1 h3) (at' b1 h4)
    subst this
    exact ix_inj hx' a1 b1
def dYes : DS → Option Bool := fun _ => some true
def dCompGo (h : W → DS → Option DS) (c : DS → Option Bool) (fe : DS → Option W) (δ : DS) : List W → Option (List W)
  | [] => some []
  | d :: ds => (h d δ).bind fun δ2 => (c δ2).bind fun b => if b = true then (fe δ2).bind fun e => (dCompGo h c fe δ ds).map (e :: ·) else dCompGo h c fe δ ds
def dComp (ix : List (Option Nat)) (fi : DS → Option (List W)) (h : W → DS → Option DS) (c : DS → Option Bool) (fe : DS → Option W) : DS → Option (List W) := fun δ =>
  (fi δ).bind fun ds => if ds.length ≤ sizeLine then dCompGo h c fe (liftD ix δ) ds else none
theorem do_comp {ix : List (Option Nat)} {wi : TI} {g : TG} {tc : TT} {te : TE} {fi : DS → Option (List W)} {h : W → DS → Option DS} {c : DS → Option Bool} {fe : DS → Option W}
    (hx : ixOk ix = true) (hi : DIk K ρ wi fi) (hg : DG K ρ g h) (hc : DT K ρ tc c) (he : DE K ρ te fe) : DO K ρ (tComp ix wi g tc te) (dComp ix fi h c fe) := fun G σ H δ es Q R e q => by
  obtain ⟨ds, ed, e⟩ := Option.bind_eq_some_iff.mp e
  split at e
  case isFalse => cases e
  rename_i hz
  refine hi G σ H δ ds _ R ed fun J G1 H1 g1 it => ?_
  refine ⟨fun i m ys H2 => m = ds.length - i ∧ i ≤ ds.length ∧ ys.length ≤ i ∧ ∃ G2 as bs, Gr G1 H1 G2 H2 ∧ DwAll K ρ G2 ys as ∧ dCompGo h c fe (liftD ix δ) (ds.drop i) = some bs ∧ as ++ bs = es, ⟨ds.length, by simp, Nat.zero_le _, Nat.le_refl _, G1, [], es, .refl g1.s, .nil, by simpa using e, rfl⟩, ?_⟩
  rintro i m ys H2 ⟨rfl, hil, hyl, G2, as, bs, g2, da, eb, rfl⟩
  have ia := it i G2 H2 g2
  by_cases hlt : i < ds.length
  · refine .inr ?_
    obtain ⟨go, step⟩ := ia.1 ds[i] (List.getElem?_eq_getElem hlt)
    rw [List.drop_eq_getElem_cons hlt] at eb
    obtain ⟨δ2, e2, eb⟩ := Option.bind_eq_some_iff.mp eb
    obtain ⟨b, e3, eb⟩ := Option.bind_eq_some_iff.mp eb
    refine ⟨go, by omega, fun ys' H' => ys'.length ≤ i + 1 ∧ ∃ G2 as' bs', Gr G1 H1 G2 H' ∧ DwAll K ρ G2 ys' as' ∧ dCompGo h c fe (liftD ix δ) (ds.drop (i + 1)) = some bs' ∧ as' ++ bs' = as ++ bs, fun ys' H' ⟨l, z⟩ => ⟨ds.length - (i + 1), by omega, rfl, hlt, l, z⟩, fun x H' y => ?_⟩
    obtain ⟨G3, g3, dx⟩ := step x H' y
    have R3 := ((R.grow g1).grow g2).grow g3
    refine hg G3 H' (liftD ix δ) _ x _ δ2 _ (R3.lift hx) dx e2 fun σ2 R4 _ => ?_
    refine hc G3 σ2 H' δ2 b _ R4 e3 fun G5 H5 g5 => ?_
    have g25 := g2.trans (g3.trans g5)
    have da5 := da.same (g3.trans g5).g
    cases b with
    | false => exact ⟨by omega, G5, as, bs, g25, da5, eb, rfl⟩
    | true =>
      obtain ⟨ev, e6, eb⟩ := Option.bind_eq_some_iff.mp eb
      obtain ⟨bs', e7, rfl⟩ := Option.map_eq_some_iff.mp eb
      refine he G5 σ2 H5 δ2 ev _ (R4.grow g5) e6 fun v G6 H6 g6 dv => ?_
      exact ⟨by simp; omega, G6, as ++ [ev], bs', g25.trans g6, (da5.same g6.g).app (.cons dv .nil), e7, by simp⟩
  · have hi' : i = ds.length := by omega
    subst hi'
    refine .inl ⟨ia.2 (Nat.le_refl _), by omega, fun p hp => ?_⟩
    rw [List.drop_length] at eb
    cases eb
    rw [List.append_nil] at q
    have n : Nw H2 (upd H2 p (.lst ys)) p (.lst ys) := .of hp
    exact q p ys G2 _ (g1.trans (g2.trans (.nwO g2.s n))) (same_no (g1.trans g2).h hp) (same_no g2.s hp) upd_same da
inductive Out where
  | nx (δ : DS)
  | bk (δ : DS)
  | ct (δ : DS)
  | rt (d : W)
structure Iv (K : PySem.W.Frag) (ρ : List Addr) (G0 H0 G H : Hp) (δ : DS) (σ : St) : Prop where
  rl : Rl K ρ G H δ σ
  gr : Gr G0 H0 G H
  ow : ∀ (i : Nat) p ds, δ[i]? = some (.own ds) → σ[i]? = some (some (.ref p)) → H0 p = none
def Pst (K : PySem.W.Frag) (ρ : List Addr) (G0 H0 : Hp) (D : Ends) : Out → Prop
  | .nx δ => ∀ σ G H, Iv K ρ G0 H0 G H δ σ → D.nx σ H
  | .bk δ => ∀ σ G H, Iv K ρ G0 H0 G H δ σ → D.bk σ H
  | .ct δ => ∀ σ G H, Iv K ρ G0 H0 G H δ σ → D.ct σ H
  | .rt d => ∀ v G H, Gr G0 H0 G H → Dw K ρ G v d → D.rt v H
def DSt (K : PySem.W.Frag) (ρ : List Addr) (t : TS) (f : DS → Option Out) : Prop :=
  ∀ (G0 H0 G : Hp) (σ : St) (H : Hp) (δ : DS) (o : Out) (D : Ends), Iv K ρ G0 H0 G H δ σ → f δ = some o → Pst K ρ G0 H0 D o → t D σ H
theorem Iv.grow {G0 H0 G H G' H' : Hp} {δ : DS} {σ : St} (I : Iv K ρ G0 H0 G H δ σ) (g : Gr G H G' H') : Iv K ρ G0 H0 G' H' δ σ := ⟨I.rl.grow g, I.gr.trans g, I.ow⟩
theorem Iv.sub {G0 H0 G H : Hp} {δ δ' : DS} {σ σ' : St} (I : Iv K ρ G0 H0 G H δ σ) (R : Rl K ρ G H δ' σ') (o : OwnSub δ' σ' δ σ) : Iv K ρ G0 H0 G H δ' σ' := ⟨R, I.gr, fun i p ds h1 h2 => by
  obtain ⟨es, h3, h4⟩ := o i ds p h1 h2
  exact I.ow i p es h3 h4⟩
theorem Iv.base {G0 H0 G H : Hp} {δ : DS} {σ : St} (I : Iv K ρ G0 H0 G H δ σ) : Iv K ρ G H0 G H δ σ := ⟨I.rl, ⟨.refl _, I.gr.h, I.gr.s, fun _ _ h => h⟩, I.ow⟩
theorem Gr.rebase {G0 H0 G H G' H' : Hp} (a : Gr G0 H0 G H) (b : Gr G H0 G' H') : Gr G0 H0 G' H' := ⟨a.g.trans b.g, b.h, b.s, fun c h1 h2 => b.n c h1 (a.n c h1 h2)⟩
theorem Iv.rebase {G0 H0 G H G' H' : Hp} {δ : DS} {σ : St} (a : Gr G0 H0 G H) (I : Iv K ρ G H0 G' H' δ σ) : Iv K ρ G0 H0 G' H' δ σ := ⟨I.rl, a.rebase I.gr, I.ow⟩
def dsNext : DS → Option Out := fun δ => some (.nx δ)
theorem ds_next : DSt K ρ tNext dsNext := fun G0 H0 G σ H δ o D I e p => by
  cases e
  exact p σ G H I
def dsSeq (f g : DS → Option Out) : DS → Option Out := fun δ => match f δ with
  | some (.nx δ') => g δ'
  | o => o
theorem ds_seq {t u : TS} {f g : DS → Option Out} (h1 : DSt K ρ t f) (h2 : DSt K ρ u g) : DSt K ρ (tSeq t u) (dsSeq f g) := fun G0 H0 G σ H δ o D I e p => by
  unfold dsSeq at e
  cases ef : f δ with
  | none => rw [ef] at e; cases e
  | some o1 =>
    rw [ef] at e
    refine h1 G0 H0 G σ H δ o1 _ I ef ?_
    cases o1 with
    | nx δ' => exact fun σ' G' H' I' => h2 G0 H0 G' σ' H' δ' o D I' e p
    | bk δ' => cases e; exact p
    | ct δ' => cases e; exact p
    | rt d => cases e; exact p
def dsIf (c : DS → Option Bool) (f g : DS → Option Out) : DS → Option Out := fun δ => (c δ).bind fun b => if b = true then f δ else g δ
theorem ds_if {tc : TT} {t u : TS} {c : DS → Option Bool} {f g : DS → Option Out} (hc : DT K ρ tc c) (h1 : DSt K ρ t f) (h2 : DSt K ρ u g) : DSt K ρ (tIfS tc t u) (dsIf c f g) := fun G0 H0 G σ H δ o D I e p => by
  obtain ⟨b, eb, e⟩ := Option.bind_eq_some_iff.mp e
  refine hc G σ H δ b _ I.rl eb fun G1 H1 g1 => ?_
  cases b with
  | true => exact h1 G0 H0 G1 σ H1 δ o D (I.grow g1) e p
  | false => exact h2 G0 H0 G1 σ H1 δ o D (I.grow g1) e p
def dsRet (f : DS → Option W) : DS → Option Out := fun δ => (f δ).map .rt
theorem ds_ret {t : TE} {f : DS → Option W} (h : DE K ρ t f) : DSt K ρ (tRet t) (dsRet f) := fun G0 H0 G σ H δ o D I e p => by
  obtain ⟨d, ed, rfl⟩ := Option.map_eq_some_iff.mp e
  exact h G σ H δ d _ I.rl ed fun v G1 H1 g1 dv => p v G1 H1 (I.gr.trans g1) dv
def dsRetN : DS → Option Out := fun _ => some (.rt .none)
def dsAsg (f : DS → Option W) (h : W → DS → Option DS) : DS → Option Out := fun δ => (f δ).bind fun d => (h d δ).map .nx
theorem ds_asg {t : TE} {g : TG} {f : DS → Option W} {h : W → DS → Option DS} (h1 : DE K ρ t f) (h2 : DG K ρ g h) : DSt K ρ (tAsg t g) (dsAsg f h) := fun G0 H0 G σ H δ o D I e p => by
  obtain ⟨d, ed, e⟩ := Option.bind_eq_some_iff.mp e
  obtain ⟨δ', e2, rfl⟩ := Option.map_eq_some_iff.mp e
  exact h1 G σ H δ d _ I.rl ed fun v G1 H1 g1 dv => h2 G1 H1 δ σ v d δ' _ (I.rl.grow g1) dv e2 fun σ' R o => p σ' G1 H1 ((I.grow g1).sub R o)
def dsOwn (i : Nat) (f : DS → Option (List W)) : DS → Option Out := fun δ => (f δ).map fun ds => .nx (δ.set i (.own ds))
theorem ds_own {i : Nat} {t : TE} {f : DS → Option (List W)} (h : DO K ρ t f) : DSt K ρ (tAsg t (gName i)) (dsOwn i f) := fun G0 H0 G σ H δ o D I e p => by
  obtain ⟨ds, ed, rfl⟩ := Option.map_eq_some_iff.mp e
  refine h G σ H δ ds _ I.rl ed fun q vs G1 H1 g1 h0 g0 hh da => ?_
  have I1 := I.grow g1
  refine p _ G1 H1 ⟨I1.rl.setO g0 hh da fun j es hj h1 h2 => ?_, I1.gr, fun j q' ds' h1 h2 => ?_⟩
  · obtain ⟨o, k1, q1, vs1, k2, k3, k4, _⟩ := I.rl.sl j _ h1
    rw [h2] at k1
    cases k1
    cases k2
    rw [h0] at k4
    cases k4
  · rcases getSet h1 with ⟨rfl, _, hl⟩ | ⟨ne, h1⟩
    · rw [setGet (by rw [← I.rl.len]; exact hl)] at h2
      cases h2
      exact same_no I.gr.h h0
    · rw [List.getElem?_set_ne ne] at h2
      exact I.ow j q' _ h1 h2
def frz (i : Nat) (δ : DS) : DS := match δ[i]? with
  | some (.own ds) => δ.set i (.val (.list ds))
  | _ => δ
def dsFrz (i : Nat) (f : DS → Option Out) : DS → Option Out := fun δ => f (frz i δ)
theorem Iv.frz {G0 H0 G H : Hp} {δ : DS} {σ : St} (i : Nat) (I : Iv K ρ G0 H0 G H δ σ) : ∃ G', Iv K ρ G0 H0 G' H (L2.frz i δ) σ := by
  unfold L2.frz
  split
  · rename_i ds h
    obtain ⟨o, h1, p, vs, rfl, h3, h4, h5⟩ := I.rl.sl i _ h
    have h0 := I.ow i p ds h h1
    have g : Same G (upd G p (.lst vs)) := same_new h3 _
    have set1 : σ = σ.set i (some (.ref p)) := by
      apply List.ext_getElem?
      intro j
      by_cases e : i = j
      · subst e
        rw [setGet (List.getElem?_eq_some_iff.mp h1).1, h1]
      · rw [List.getElem?_set_ne e]
    refine ⟨upd G p (.lst vs), ⟨⟨same_upd2 I.gr.s h4, by rw [List.length_set]; exact I.rl.len, fun j s e => ?_, fun j k q ds' es' k1 k2 k3 k4 => ?_⟩, I.gr.new h0 h3 h4, fun j q ds' k1 k2 => ?_⟩⟩
    · rcases getSet e with ⟨rfl, rfl, hl⟩ | ⟨ne, e⟩
      · exact ⟨_, h1, .ref p, rfl, .lst (SqL.of upd_same) (h5.same g)⟩
      · obtain ⟨o, k1, k2⟩ := I.rl.sl j s e
        refine ⟨o, k1, ?_⟩
        cases s with
        | no => trivial
        | val d =>
          obtain ⟨v, e1, e2⟩ := k2
          exact ⟨v, e1, e2.same g⟩
        | own es =>
          obtain ⟨q, ws, rfl, e2, e3, e4⟩ := k2
          refine ⟨q, ws, rfl, ?_, e3, e4.same g⟩
          rw [upd_ne]
          · exact e2
          · rintro rfl
            exact ne (I.rl.apart i j q ds es h e h1 k1)
    all_goals
      rcases getSet k1 with ⟨_, z, _⟩ | ⟨ne, k1⟩
      · cases z
    · rcases getSet k2 with ⟨_, z, _⟩ | ⟨ne2, k2⟩
      · cases z
      · exact I.rl.apart j k q ds' es' k1 k2 k3 k4
    · exact I.ow j q ds' k1 k2
  · exact ⟨G, I⟩
theorem ds_frz {i : Nat} {t : TS} {f : DS → Option Out} (h : DSt K ρ t f) : DSt K ρ t (dsFrz i f) := fun G0 H0 G σ H δ o D I e p => by
  obtain ⟨G', I'⟩ := I.frz i
  exact h G0 H0 G' σ H _ o D I' e p
def dsForGo (h : W → DS → Option DS) (fb : DS → Option Out) : List W → DS → Option Out
  | [], δ => some (.nx δ)
  | d :: ds, δ => (h d δ).bind fun δ2 => match fb δ2 with
    | some (.nx δ') => dsForGo h fb ds δ'
    | some (.ct δ') => dsForGo h fb ds δ'
    | some (.bk δ') => some (.nx δ')
    | some (.rt d) => some (.rt d)
    | none => none
def dsFor (fi : DS → Option (List W)) (h : W → DS → Option DS) (fb : DS → Option Out) : DS → Option Out := fun δ => (fi δ).bind fun ds => dsForGo h fb ds δ
theorem ds_for {wi : TI} {g : TG} {tb : TS} {fi : DS → Option (List W)} {h : W → DS → Option DS} {fb : DS → Option Out} (hi : DI K ρ wi fi) (hg : DG K ρ g h) (hb : DSt K ρ tb fb) : DSt K ρ (tFor wi g tb) (dsFor fi h fb) := fun G0 H0 G σ H δ o D I e p => by
  obtain ⟨ds, ed, e⟩ := Option.bind_eq_some_iff.mp e
  refine hi G σ H δ ds _ I.rl ed fun J G1 H1 g1 it => ?_
  refine ⟨fun i m σ H => m = ds.length - i ∧ i ≤ ds.length ∧ ∃ G δ, Iv K ρ G0 H0 G H δ σ ∧ Same G1 G ∧ dsForGo h fb (ds.drop i) δ = some o, ⟨ds.length, by simp, Nat.zero_le _, G1, δ, I.grow g1, .refl _, by simpa using e⟩, ?_⟩
  rintro i m σ2 H2 ⟨rfl, hil, G2, δ2, I2, s2, e2⟩
  have ia := it i G2 H2 s2 I2.gr.s
  by_cases hlt : i < ds.length
  · refine .inr ?_
    obtain ⟨go, step⟩ := ia.1 ds[i] (List.getElem?_eq_getElem hlt)
    rw [List.drop_eq_getElem_cons hlt] at e2
    obtain ⟨δ3, e3, e4⟩ := Option.bind_eq_some_iff.mp e2
    have back : ∀ {G3 H3 : Hp}, Gr G2 H2 G3 H3 → ∀ {G4 H4 : Hp} {σ4 : St} {δ4 : DS}, Iv K ρ G3 H0 G4 H4 δ4 σ4 → Iv K ρ G0 H0 G4 H4 δ4 σ4 ∧ Same G1 G4 := fun {G3 H3} g3 {G4 H4 σ4 δ4} I4 => ⟨I4.rebase (I2.gr.trans g3), s2.trans (g3.g.trans I4.gr.g)⟩
    have again : ∀ (δ' : DS), dsForGo h fb (ds.drop (i + 1)) δ' = some o → (fb δ3 = some (.nx δ') ∨ fb δ3 = some (.ct δ')) → ∃ N : St → Hp → Prop, (∀ σ' H', N σ' H' → ∃ m', m' < ds.length - i ∧ m' = ds.length - (i + 1) ∧ i + 1 ≤ ds.length ∧ ∃ G δ, Iv K ρ G0 H0 G H' δ σ' ∧ Same G1 G ∧ dsForGo h fb (ds.drop (i + 1)) δ = some o) ∧ ∀ x H', J.yld i H2 x H' → g x σ2 H' fun σ2 H2 => tb { D with nx := N, ct := N, bk := D.nx } σ2 H2 := fun δ' ed' ef => by
      refine ⟨fun σ' H' => ∃ G', Iv K ρ G0 H0 G' H' δ' σ' ∧ Same G1 G', fun σ' H' ⟨G', I', s'⟩ => ⟨ds.length - (i + 1), by omega, rfl, hlt, G', δ', I', s', ed'⟩, fun x H' y => ?_⟩
      obtain ⟨G3, g3, dx⟩ := step x H' y
      have I3 := I2.grow g3
      refine hg G3 H' δ2 σ2 x _ δ3 _ I3.rl dx e3 fun σ3 R3 o3 => ?_
      have I4 := (I3.sub R3 o3).base
      rcases ef with ef | ef
      · exact hb G3 H0 G3 σ3 H' δ3 _ _ I4 ef fun σ5 G5 H5 I5 => ⟨G5, back g3 I5⟩
      · exact hb G3 H0 G3 σ3 H' δ3 _ _ I4 ef fun σ5 G5 H5 I5 => ⟨G5, back g3 I5⟩
    cases ef : fb δ3 with
    | none => rw [ef] at e4; cases e4
    | some o1 =>
      rw [ef] at e4
      cases o1 with
      | nx δ' =>
        obtain ⟨N, n1, n2⟩ := again δ' e4 (.inl ef)
        exact ⟨go, N, n1, n2⟩
      | ct δ' =>
        obtain ⟨N, n1, n2⟩ := again δ' e4 (.inr ef)
        exact ⟨go, N, n1, n2⟩
      | bk δ' =>
        cases e4
        refine ⟨go, fun _ _ => False, fun _ _ z => z.elim, fun x H' y => ?_⟩
        obtain ⟨G3, g3, dx⟩ := step x H' y
        have I3 := I2.grow g3
        refine hg G3 H' δ2 σ2 x _ δ3 _ I3.rl dx e3 fun σ3 R3 o3 => ?_
        exact hb G3 H0 G3 σ3 H' δ3 _ _ (I3.sub R3 o3).base ef fun σ5 G5 H5 I5 => p σ5 G5 H5 (back g3 I5).1
      | rt d =>
        cases e4
        refine ⟨go, fun _ _ => False, fun _ _ z => z.elim, fun x H' y => ?_⟩
        obtain ⟨G3, g3, dx⟩ := step x H' y
        have I3 := I2.grow g3
        refine hg G3 H' δ2 σ2 x _ δ3 _ I3.rl dx e3 fun σ3 R3 o3 => ?_
        exact hb G3 H0 G3 σ3 H' δ3 _ _ (I3.sub R3 o3).base ef fun v G5 H5 g5 dv => p v G5 H5 ((I2.gr.trans g3).rebase g5) dv
  · have hi' : i = ds.length := by omega
    subst hi'
    rw [List.drop_length] at e2
    cases e2
    exact .inl ⟨ia.2 (Nat.le_refl _), p σ2 G2 H2 I2⟩
def ownAt (i : Nat) (δ : DS) : Option (List W) := match δ[i]? with
  | some (.own ds) => some ds
  | _ => none
theorem ownAt_eq {i : Nat} {δ : DS} {ds : List W} (h : ownAt i δ = some ds) : δ[i]? = some (.own ds) := by
  unfold ownAt at h
  split at h
  · rename_i e; cases h; exact e
  · cases h
theorem Iv.put {G0 H0 G H : Hp} {δ : DS} {σ : St} {i : Nat} {ds es : List W} {p : Addr} {vs : List V} (I : Iv K ρ G0 H0 G H δ σ) (h : δ[i]? = some (.own ds)) (hp : σ[i]? = some (some (.ref p))) (g0 : G p = none) (da : DwAll K ρ G vs es) : Iv K ρ G0 H0 G (upd H p (.lst vs)) (δ.set i (.own es)) σ := by
  have h0 := I.ow i p ds h hp
  have sG : Same G (upd H p (.lst vs)) := fun b o e => by
    rw [upd_ne (fun z => by rw [z, g0] at e; cases e)]
    exact I.gr.s _ _ e
  refine ⟨⟨sG, by rw [List.length_set]; exact I.rl.len, fun j s e => ?_, fun j k q ds' es' k1 k2 k3 k4 => ?_⟩, ⟨I.gr.g, fun b o e => ?_, sG, I.gr.n⟩, fun j q ds' k1 k2 => ?_⟩
  · rcases getSet e with ⟨rfl, rfl, hl⟩ | ⟨ne, e⟩
    · exact ⟨_, hp, p, vs, rfl, g0, upd_same, da⟩
    · obtain ⟨o, k1, k2⟩ := I.rl.sl j s e
      refine ⟨o, k1, ?_⟩
      cases s with
      | no => trivial
      | val d => exact k2
      | own es2 =>
        obtain ⟨q, ws, rfl, e2, e3, e4⟩ := k2
        refine ⟨q, ws, rfl, e2, ?_, e4⟩
        rw [upd_ne]
        · exact e3
        · rintro rfl
          exact ne (I.rl.apart i j q ds es2 h e hp k1)
  · rcases getSet k1 with ⟨rfl, _, _⟩ | ⟨ne, k1⟩ <;> rcases getSet k2 with ⟨rfl, _, _⟩ | ⟨ne2, k2⟩
    · rfl
    · exact I.rl.apart _ _ q _ _ h k2 k3 k4
    · exact I.rl.apart _ _ q _ _ k1 h k3 k4
    · exact I.rl.apart _ _ q _ _ k1 k2 k3 k4
  · rw [upd_ne (fun z => by rw [z, h0] at e; cases e)]
    exact I.gr.h _ _ e
  · rcases getSet k1 with ⟨rfl, _, _⟩ | ⟨ne, k1⟩
    · exact I.ow _ q _ h k2
    · exact I.ow j q _ k1 k2
def dsAppend (i : Nat) (f : DS → Option W) : DS → Option Out := fun δ => (ownAt i δ).bind fun ds => (f δ).bind fun d => if ds.length < sizeLine then some (.nx (δ.set i (.own (ds ++ [d])))) else none
theorem ds_append {i : Nat} {t : TE} {f : DS → Option W} (h : DE K ρ t f) : DSt K ρ (tDrop (tBM K "list" rAppend (tVar i) (tCons t tNil))) (dsAppend i f) := fun G0 H0 G σ H δ o D I e p => by
  obtain ⟨ds, eo, e⟩ := Option.bind_eq_some_iff.mp e
  obtain ⟨d, ed, e⟩ := Option.bind_eq_some_iff.mp e
  split at e
  case isFalse => cases e
  rename_i hz
  cases e
  have ho := ownAt_eq eo
  obtain ⟨o, h1, q, vs, rfl, h3, h4, h5⟩ := I.rl.sl i _ ho
  refine ⟨.ref q, h1, .inl ⟨rfl, vs, SqL.of h4⟩, h G σ H δ d _ I.rl ed fun v G1 H1 g1 dv => ⟨q, vs, v, rfl, rfl, g1.h _ _ h4, by rw [h5.length]; exact hz, ?_⟩⟩
  have I1 := I.grow g1
  exact p σ G1 _ (I1.put ho h1 (g1.n q (by rw [h4]; simp) h3) ((h5.same g1.g).app (.cons dv .nil)))
def dsSetI (i : Nat) (fi fv : DS → Option W) : DS → Option Out := fun δ => (fv δ).bind fun d => (ownAt i δ).bind fun ds => (fi δ).bind fun x => match x with
  | .int k => (ixN ds.length k).map fun j => .nx (δ.set i (.own (ds.set j d)))
  | _ => none
end
section
variable {K : PySem.W.Frag} {ρ : List Addr}
def spD (K : PySem.W.Frag) (f : List W → Option W) : Sp := fun vs H Q _ => ∃ ρ G ds d, Same G H ∧ DwAll K ρ G vs ds ∧ f ds = some d ∧ ∀ v G' H', Gr G H G' H' → Dw K ρ G' v d → Q v H'
def dCall (f : List W → Option W) (fa : DS → Option (List W)) : DS → Option W := fun δ => (fa δ).bind f
theorem de_call {f : List W → Option W} {t : TA} {fa : DS → Option (List W)} {E : XK} (h : DA K ρ t fa) : DE K ρ (tCall (spD K f) [] E t) (dCall f fa) := fun G σ H δ d Q R e q => by
  obtain ⟨ds, ed, e⟩ := Option.bind_eq_some_iff.mp e
  exact h G σ H δ ds _ R ed fun vs G1 H1 g1 da => by
    refine ⟨ρ, G1, ds, d, g1.s, ?_, e, fun v G2 H2 g2 dv => q v G2 H2 (g1.trans g2) dv⟩
    rw [List.append_nil]
    exact da
def startD (n : Nat) (ds : List W) : DS := ds.map .val ++ List.replicate (n - ds.length) .no
def outD : Option Out → Option W
  | some (.rt d) => some d
  | some (.nx _) => some .none
  | _ => none
def bodyD (a n : Nat) (fb : DS → Option Out) : List W → Option W := fun ds => if ds.length = a then outD (fb (startD n ds)) else none
theorem bodyD_len {a n : Nat} {fb : DS → Option Out} {ds : List W} {d : W} (h : bodyD a n fb ds = some d) : ds.length = a := by
  unfold bodyD at h
  split at h
  · assumption
  · cases h
theorem spD_len {f : List W → Option W} {a : Nat} {vs : List V} {H : Hp} {Q : VK} {E : XK} (hf : ∀ ds d, f ds = some d → ds.length = a) (h : spD K f vs H Q E) : vs.length = a := by
  obtain ⟨ρ, G, ds, d, s, da, e, q⟩ := h
  rw [da.length]
  exact hf ds d e
theorem startD_val {n : Nat} {ds : List W} {i : Nat} {es : List W} : (startD n ds)[i]? ≠ some (.own es) := by
  unfold startD
  intro h
  rcases Nat.lt_or_ge i (ds.map Sl.val).length with hl | hl
  · rw [List.getElem?_append_left hl, List.getElem?_map] at h
    obtain ⟨d, _, e⟩ := Option.map_eq_some_iff.mp h
    cases e
  · rw [List.getElem?_append_right hl, List.getElem?_replicate] at h
    split at h <;> cases h
theorem start_rl {G H : Hp} {N : List Str} {vs : List V} {ds : List W} (s : Same G H) (h : DwAll K ρ G vs ds) : Rl K ρ G H (startD N.length ds) (start N vs) := by
  refine ⟨s, by simp [startD, start, h.length], fun i sl e => ?_, fun i j p ds' es' h1 => absurd h1 startD_val⟩
  unfold startD at e
  unfold start
  rcases Nat.lt_or_ge i ds.length with hl | hl
  · rw [List.getElem?_append_left (by simpa using hl), List.getElem?_map] at e
    obtain ⟨d, e1, rfl⟩ := Option.map_eq_some_iff.mp e
    obtain ⟨v, h1, h2⟩ := h.get e1
    refine ⟨some v, ?_, v, rfl, h2⟩
    rw [List.getElem?_append_left (by simp [h.length]; exact hl), List.getElem?_map, h1]
    rfl
  · rw [List.getElem?_append_right (by simpa using hl), List.getElem?_replicate] at e
    split at e
    · cases e
      rename_i hlt
      refine ⟨none, ?_, trivial⟩
      rw [List.getElem?_append_right (by simp [h.length]; exact hl), List.getElem?_replicate, if_pos]
      simp only [List.length_map] at hlt ⊢
      rw [h.length]
      exact hlt
    · cases e
theorem d_fn {t : TS} {fb : DS → Option Out} {N : List Str} {a n : Nat} {vs : List V} {H : Hp} {Q : VK} {E : XK} (hn : N.length = n) (h : ∀ ρ, DSt K ρ t fb) (hsp : spD K (bodyD a n fb) vs H Q E) : t { nx := fun _ H' => Q .non H', rt := Q } (start N vs) H := by
  subst hn
  obtain ⟨ρ, G, ds, d, s, da, e, q⟩ := hsp
  have R := start_rl (N := N) s da
  have I : Iv K ρ G H G H (startD N.length ds) (start N vs) := ⟨R, .refl s, fun i p ds' h1 => absurd h1 startD_val⟩
  unfold bodyD at e
  rw [if_pos (bodyD_len (show bodyD a N.length fb ds = some d from e))] at e
  cases ef : fb (startD N.length ds) with
  | none => rw [ef] at e; cases e
  | some o =>
    rw [ef] at e
    refine h ρ G H G _ H _ o _ I ef ?_
    cases o with
    | nx δ => cases e; exact fun σ' G' H' I' => q _ G' H' I'.gr .non
    | rt d' => cases e; exact fun v G' H' g dv => q v G' H' g dv
    | bk _ => cases e
    | ct _ => cases e
end
end L2
set_option Elab.async false
set_option linter.all false
set_option maxRecDepth 100000
namespace L2
open PySem PySem.Spec PyProof.Rows
def rCatG (K : PySem.W.Frag) : R2 := fun x y H Q => ∃ l b xs zs, x = .ref l ∧ y = .ref b ∧ SqL K H l xs ∧ SqL K H b zs ∧ xs.length + zs.length ≤ sizeLine ∧ ∀ p H', Nw H H' p (.lst (xs ++ zs)) → Q (.ref p) H'
theorem op_catG {X : Cx} : OpR X (binaryOp .Add) (rCatG X.K) := by
  intro pins s σ H x y v u Q I rx ry h
  obtain ⟨l, b, xs, zs, rfl, rfl, hH, hB, hz, q⟩ := h
  cases rx
  cases ry
  obtain ⟨its, r, hl, _⟩ := I.list hH
  obtain ⟨its2, r2, hb, _⟩ := I.list hB
  obtain ⟨⟨cls, dd, data, sl⟩, n, ho, hc, hdd, hd⟩ := hl
  obtain ⟨⟨cls2, dd2, data2, sl2⟩, n2, ho2, hc2, hdd2, hd2⟩ := hb
  simp only at hc hd hc2 hd2
  subst hc hd hc2 hd2
  have e : its.toArray ++ its2.toArray = (its ++ its2).toArray := by simp
  refine concat_meets ⟨_, ho, rfl⟩ ⟨_, ho2, rfl⟩ noFill_list_add seq_list_add PySem.F.slot_list_add PySem.F.entry_list_add (PySem.F.args_list_add_2 _ _) (list_addW l b its.toArray its2.toArray n n2 dd dd2 sl sl2 (by rw [List.size_toArray, List.size_toArray, ← r.length, ← r2.length]; exact hz)) ⟨ho, ho2, ?_⟩
  rw [e]
  exact ⟨.ref _, _, I.lnew (t' := s.toks) (r.append r2) (by rw [List.length_append]; omega), rfl, q _ _ (.of I.fresh)⟩
def rStrAdd : R2 := fun x y H Q => ∃ i j, x = .str i ∧ y = .str j ∧ i.length + j.length ≤ sizeLine ∧ Q (.str (i ++ j)) H
def rAddA (K : PySem.W.Frag) : R2 := fun x y H Q => rI0 (fun i j => .int (i + j)) x y H Q ∨ rStrAdd x y H Q ∨ rCatG K x y H Q ∨ rCatT K x y H Q
theorem op_addA {X : Cx} {K : PySem.W.Frag} (h : X.K = K) : OpR X (binaryOp .Add) (rAddA K) := h ▸ op_add.or (op_add_str.or (op_catG.or op_catT))
section
variable {K : PySem.W.Frag} {ρ : List Addr}
def gAdd : W → W → Option W
  | .int i, .int j => some (.int (i + j))
  | .str i, .str j => if i.length + j.length ≤ sizeLine then some (.str (i ++ j)) else none
  | .list a, .list b => if a.length + b.length ≤ sizeLine then some (.list (a ++ b)) else none
  | .tuple a, .tuple b => if a ≠ [] ∧ a.length + b.length ≤ sizeLine then some (.tuple (a ++ b)) else none
  | _, _ => none
theorem pk_int {G H : Hp} {v : V} {i : Int} (h : Pk K ρ G H v (.int i)) : v = .int i := by
  rcases h with h | ⟨_, _, _, _, e, _⟩
  · exact dp_int h
  · cases e
theorem pk_str {G H : Hp} {v : V} {i : Str} (h : Pk K ρ G H v (.str i)) : v = .str i := by
  rcases h with h | ⟨_, _, _, _, e, _⟩
  · exact dp_str h
  · cases e
theorem pk_lst {G H : Hp} {v : V} {ds : List W} (s : Same G H) (h : Pk K ρ G H v (.list ds)) : ∃ p vs, v = .ref p ∧ SqL K H p vs ∧ DwAll K ρ G vs ds := by
  rcases h with h | ⟨p, vs, es, rfl, e, h1, h2⟩
  · cases h with
    | lst sq da => exact ⟨_, _, rfl, s.seq sq, da⟩
  · cases e
    exact ⟨p, vs, rfl, SqL.of h1, h2⟩
theorem dp_lst {G : Hp} {v : V} {ds : List W} (h : Dw K ρ G v (.list ds)) : ∃ p vs, v = .ref p ∧ SqL K G p vs ∧ DwAll K ρ G vs ds := by
  cases h with
  | lst sq da => exact ⟨_, _, rfl, sq, da⟩
theorem dp_tup {G : Hp} {v : V} {ds : List W} (h : Dw K ρ G v (.tuple ds)) : ∃ p vs, v = .ref p ∧ SqT K G p vs ∧ DwAll K ρ G vs ds := by
  cases h with
  | tup sq da => exact ⟨_, _, rfl, sq, da⟩
theorem pk_tup {G H : Hp} {v : V} {ds : List W} (h : Pk K ρ G H v (.tuple ds)) : ∃ p vs, v = .ref p ∧ SqT K G p vs ∧ DwAll K ρ G vs ds := by
  rcases h with h | ⟨_, _, _, _, e, _⟩
  · exact dp_tup h
  · cases e
theorem dr_add : DR K ρ (rAddA K) gAdd := fun G H x y d e c Q s hx hy hg q => by
  unfold gAdd at hg
  split at hg
  · cases hg
    cases pk_int hx
    cases dp_int hy
    exact .inl ⟨_, _, rfl, rfl, q _ G H (.refl s) (.int _)⟩
  · split at hg
    · rename_i hz
      cases hg
      cases pk_str hx
      cases dp_str hy
      exact .inr (.inl ⟨_, _, rfl, rfl, hz, q _ G H (.refl s) (.str _)⟩)
    · cases hg
  · split at hg
    · rename_i hz
      cases hg
      obtain ⟨p, vs, rfl, sq, da⟩ := pk_lst s hx
      obtain ⟨p2, vs2, rfl, sq2, da2⟩ := dp_lst hy
      refine .inr (.inr (.inl ⟨p, p2, vs, vs2, rfl, rfl, sq, s.seq sq2, by rw [da.length, da2.length]; exact hz, fun l H' n => ?_⟩))
      have g := Gr.nw s n
      exact q _ _ H' g (.lst (SqL.of upd_same) ((da.same g.g).app (da2.same g.g)))
    · cases hg
  · split at hg
    · rename_i hz
      cases hg
      obtain ⟨p, vs, rfl, sq, da⟩ := pk_tup hx
      obtain ⟨p2, vs2, rfl, sq2, da2⟩ := dp_tup hy
      refine .inr (.inr (.inr ⟨p, p2, vs, vs2, rfl, rfl, s.tup sq, s.tup sq2, ?_, by rw [da.length, da2.length]; exact hz.2, fun e => ?_, fun e l hl => ?_⟩))
      · rintro rfl
        cases da
        exact hz.1 rfl
      · subst e
        cases da2
        rw [List.append_nil] at q
        exact q _ G H (.refl s) (.tup sq da)
      · have g := Gr.nw s (Nw.of (o := .tup (vs ++ vs2)) hl)
        exact q _ _ _ g (.tup (SqT.of upd_same) ((da.same g.g).app (da2.same g.g)))
    · cases hg
  · cases hg
def gAddL : W → W → Option (List W)
  | .list a, .list b => if a.length + b.length ≤ sizeLine then some (a ++ b) else none
  | _, _ => none
def dAddL (fa fb : DS → Option W) : DS → Option (List W) := fun δ => (fa δ).bind fun x => (fb δ).bind fun y => gAddL x y
def gI (f : Int → Int → Int) : W → W → Option W
  | .int i, .int j => some (.int (f i j))
  | _, _ => none
def gIc (C : Int → Int → Bool) (f : Int → Int → Int) : W → W → Option W
  | .int i, .int j => if C i j = true then some (.int (f i j)) else none
  | _, _ => none
theorem dr_i0 {f : Int → Int → Int} : DR K ρ (rI0 fun i j => .int (f i j)) (gI f) := fun G H x y d e c Q s hx hy hg q => by
  unfold gI at hg
  split at hg
  · cases hg
    cases pk_int hx
    cases dp_int hy
    exact ⟨_, _, rfl, rfl, q _ G H (.refl s) (.int _)⟩
  · cases hg
theorem dr_ic {C : Int → Int → Prop} {Cb : Int → Int → Bool} {f : Int → Int → Int} (hC : ∀ i j, Cb i j = true → C i j) : DR K ρ (rI C fun i j => .int (f i j)) (gIc Cb f) := fun G H x y d e c Q s hx hy hg q => by
  unfold gIc at hg
  split at hg
  · split at hg
    · rename_i hc
      cases hg
      cases pk_int hx
      cases dp_int hy
      exact ⟨_, _, rfl, rfl, hC _ _ hc, q _ G H (.refl s) (.int _)⟩
    · cases hg
  · cases hg
def gSub' : W → W → Option W := gI fun i j => i - j
theorem dr_sub : DR K ρ (rI0 fun i j => .int (i - j)) gSub' := dr_i0
theorem big_lt : 2 ^ 200 < 2 ^ 512 := Nat.pow_lt_pow_right (by decide) (by decide)
def okMul (i j : Int) : Bool := decide (i.natAbs < 2 ^ 200) && decide (j.natAbs < 2 ^ 200)
def okDiv (i j : Int) : Bool := decide (j ≠ 0) && decide (j.natAbs < 2 ^ 200)
def okMod (i j : Int) : Bool := decide (j ≠ 0)
def gMul : W → W → Option W := gIc okMul fun i j => i * j
def gDiv : W → W → Option W := gIc okDiv fun i j => i.fdiv j
def gMod : W → W → Option W := gIc okMod fun i j => i.fmod j
theorem dr_mul : DR K ρ (rI CMulM fun i j => .int (i * j)) gMul := dr_ic fun i j h => by
  simp only [okMul, Bool.and_eq_true, decide_eq_true_eq] at h
  exact ⟨Nat.lt_trans h.1 big_lt, Nat.lt_trans h.2 big_lt⟩
theorem dr_div : DR K ρ (rI CDivM fun i j => .int (i.fdiv j)) gDiv := dr_ic fun i j h => by
  simp only [okDiv, Bool.and_eq_true, decide_eq_true_eq] at h
  exact ⟨h.1, Nat.lt_trans h.2 big_lt⟩
theorem dr_mod : DR K ρ (rI (fun _ j => j ≠ 0) fun i j => .int (i.fmod j)) gMod := dr_ic fun i j h => by simpa [okMod] using h
def gNeg : W → Option W
  | .int i => some (.int (-i))
  | _ => none
def cI (p : Int → Int → Bool) : W → W → Option Bool
  | .int i, .int j => some (p i j)
  | _, _ => none
theorem db_i {p : Int → Int → Bool} : DB K ρ (rI0 fun i j => .bl (p i j)) (cI p) := fun H x y d e b Q hx hy hg q => by
  unfold cI at hg
  split at hg
  · cases hg
    cases dp_int hx
    cases dp_int hy
    exact ⟨_, _, rfl, rfl, q⟩
  · cases hg
def cLt : W → W → Option Bool := cI fun i j => decide (i < j)
def cLe : W → W → Option Bool := cI fun i j => decide (i ≤ j)
def cGt : W → W → Option Bool := cI fun i j => decide (j < i)
def cGe : W → W → Option Bool := cI fun i j => decide (j ≤ i)
theorem db_lt : DB K ρ (rI0 fun i j => .bl (decide (i < j))) cLt := db_i
theorem db_gt : DB K ρ (rI0 fun i j => .bl (decide (j < i))) cGt := db_i
def isN : W → Bool
  | .none => true
  | _ => false
def cIsN : W → W → Option Bool
  | d, .none => some (isN d)
  | _, _ => none
theorem non_iff {H : Hp} {x : V} {d : W} (h : Dw K ρ H x d) : decide (x = .non) = isN d := by
  cases h <;> simp [isN]
def cNotN : W → W → Option Bool
  | d, .none => some (!(isN d))
  | _, _ => none
theorem db_notN : DB K ρ (fun x y H Q => y = .non ∧ Q (.bl (!decide (x = .non))) H) cNotN := fun H x y d e b Q hx hy hg q => by
  unfold cNotN at hg
  split at hg
  · cases hg
    cases dp_non hy
    exact ⟨rfl, by rw [non_iff hx]; exact q⟩
  · cases hg
def scD : W → W → Option Bool
  | .none, .none => some true | .none, .int _ => some false | .int _, .none => some false | .none, .bool _ => some false | .bool _, .none => some false | .none, .str _ => some false | .str _, .none => some false
  | .int i, .int j => some (decide (i = j)) | .bool i, .bool j => some (decide (i = j)) | .str i, .str j => some (decide (i = j))
  | .int _, .str _ => some false | .str _, .int _ => some false | .bool _, .str _ => some false | .str _, .bool _ => some false
  | _, _ => none
theorem scD_ok {H : Hp} {x y : V} {d e : W} {b : Bool} (hx : Dw K ρ H x d) (hy : Dw K ρ H y e) (h : scD d e = some b) : scal x y = true ∧ decide (x = y) = b := by
  unfold scD at h
  split at h
  all_goals first
    | cases h
    | skip
  all_goals first
    | (cases hx; cases hy; exact ⟨rfl, by simp⟩)
def cEq (d e : W) : Option Bool := match scD d e with
  | some b => some b
  | none => d.py.bind fun a => e.py.bind fun b => if (a.canLay0 && b.canLay0 && decide (a.depth ≤ 64)) = true then some (PyData.eqv a b) else none
def rEqA (K : PySem.W.Frag) : R2 := fun x y H Q => rEq x y H Q ∨ rEqD K false x y H Q
theorem op_eqA {X : Cx} {K : PySem.W.Frag} (h : X.K = K) (hu : X.A.units + 64 < cLine) : OpR X (compareOp .Eq) (rEqA K) := h ▸ op_eq.or (op_eqD hu)
theorem db_eq : DB K ρ (rEqA K) cEq := fun H x y d e b Q hx hy hg q => by
  unfold cEq at hg
  split at hg
  · rename_i b' hb
    cases hg
    obtain ⟨h1, h2⟩ := scD_ok hx hy hb
    exact .inl ⟨h1, by rw [h2]; exact q⟩
  · obtain ⟨a, ea, hg⟩ := Option.bind_eq_some_iff.mp hg
    obtain ⟨b, eb, hg⟩ := Option.bind_eq_some_iff.mp hg
    split at hg
    · rename_i hc
      cases hg
      simp only [Bool.and_eq_true, decide_eq_true_eq] at hc
      exact .inr ⟨a, b, hx.dp ea, hy.dp eb, hc.1.1, hc.1.2, hc.2, q⟩
    · cases hg
def cNe (d e : W) : Option Bool := (cEq d e).map (!·)
def gIx : W → W → Option W
  | .list ds, .int i => atI ds i
  | .tuple ds, .int i => atI ds i
  | .str z, .int i => if z.length ≤ sizeLine then (atI z.cps.toList i).map fun c => .str ⟨#[c]⟩ else none
  | _, _ => none
theorem DwAll.at {G : Hp} {vs : List V} {ds : List W} {i : Int} {d : W} (h : DwAll K ρ G vs ds) (e : atI ds i = some d) : ∃ v, atI vs i = some v ∧ Dw K ρ G v d := by
  unfold atI at e ⊢
  rw [h.length]
  obtain ⟨j, h1, h2⟩ := Option.bind_eq_some_iff.mp e
  obtain ⟨v, h3, h4⟩ := h.get h2
  exact ⟨v, Option.bind_eq_some_iff.mpr ⟨j, h1, h3⟩, h4⟩
theorem dr_ix : DR K ρ (rIx K) gIx := fun G H x y d e c Q s hx hy hg q => by
  unfold gIx at hg
  split at hg
  · cases dp_int hy
    obtain ⟨p, vs, rfl, sq, da⟩ := pk_lst s hx
    obtain ⟨v, h1, h2⟩ := da.at hg
    exact .inl ⟨p, vs, _, v, rfl, rfl, sq, h1, q v G H (.refl s) h2⟩
  · cases dp_int hy
    obtain ⟨p, vs, rfl, sq, da⟩ := pk_tup hx
    obtain ⟨v, h1, h2⟩ := da.at hg
    exact .inr (.inl ⟨p, vs, _, v, rfl, rfl, s.tup sq, h1, q v G H (.refl s) h2⟩)
  · split at hg
    · rename_i hz
      obtain ⟨c', h1, rfl⟩ := Option.map_eq_some_iff.mp hg
      cases dp_int hy
      cases pk_str hx
      exact .inr (.inr ⟨_, _, c', rfl, rfl, hz, h1, q _ G H (.refl s) (.str _)⟩)
    · cases hg
  · cases hg
def cutW (xs : List W) (lo hi : Option Int) : List W := (xs.drop (HT.sIx xs.length 0 lo)).take (HT.sIx xs.length xs.length hi - HT.sIx xs.length 0 lo)
theorem DwAll.cut {G : Hp} {vs : List V} {ds : List W} (h : DwAll K ρ G vs ds) (lo hi : Option Int) : DwAll K ρ G (cutV vs lo hi) (cutW ds lo hi) := by
  unfold cutV cutW
  rw [h.length]
  exact (h.drop _).take _
def DOp (K : PySem.W.Frag) (ρ : List Addr) (t : TO) (f : DS → Option (Option Int)) : Prop :=
  ∀ (G : Hp) (σ : St) (H : Hp) (δ : DS) (x : Option Int) (Q : Option Int → Hp → Prop), Rl K ρ G H δ σ → f δ = some x → (∀ G' H', Gr G H G' H' → Q x H') → t σ H Q
def dNoPart : DS → Option (Option Int) := fun _ => some none
def asI : W → Option Int
  | .int i => some i
  | _ => none
theorem asI_eq {d : W} {i : Int} (h : asI d = some i) : d = .int i := by
  cases d <;> first | (cases h; rfl) | cases h
def dPart (f : DS → Option W) : DS → Option (Option Int) := fun δ => (f δ).bind fun d => (asI d).map some
theorem dop_none : DOp K ρ tNoPart dNoPart := fun G σ H δ x Q R e q => by
  cases e
  exact q G H (.refl R.sub)
theorem dop_some {t : TE} {f : DS → Option W} (h : DE K ρ t f) : DOp K ρ (tPart t) (dPart f) := fun G σ H δ x Q R e q => by
  obtain ⟨d, ed, e⟩ := Option.bind_eq_some_iff.mp e
  obtain ⟨i, ei, rfl⟩ := Option.map_eq_some_iff.mp e
  cases asI_eq ei
  exact h G σ H δ _ _ R ed fun v G1 H1 g1 dv => by
    cases dp_int dv
    exact ⟨i, rfl, q G1 H1 g1⟩
def listD : W → Option (List W)
  | .list ds => some ds
  | _ => none
theorem listD_eq {d : W} {ds : List W} (h : listD d = some ds) : d = .list ds := by
  cases d <;> first | (cases h; rfl) | cases h
def dSlL (f : DS → Option W) (lo hi : DS → Option (Option Int)) : DS → Option (List W) := fun δ => (f δ).bind fun d => (listD d).bind fun ds => (lo δ).bind fun l => (hi δ).map fun u => cutW ds l u
theorem do_slL {t : TE} {tl th : TO} {f : DS → Option W} {lo hi : DS → Option (Option Int)} (h : DK K ρ t f) (hl : DOp K ρ tl lo) (hh : DOp K ρ th hi) : DO K ρ (tSl (rSlLN K) t tl th) (dSlL f lo hi) := fun G σ H δ ds Q R e q => by
  obtain ⟨d, ed, e⟩ := Option.bind_eq_some_iff.mp e
  obtain ⟨es, ee, e⟩ := Option.bind_eq_some_iff.mp e
  obtain ⟨l, el, e⟩ := Option.bind_eq_some_iff.mp e
  obtain ⟨u, eu, rfl⟩ := Option.map_eq_some_iff.mp e
  cases listD_eq ee
  refine h G σ H δ _ _ R ed fun v G1 H1 g1 dv => hl G1 σ H1 δ l _ (R.grow g1) el fun G2 H2 g2 => hh G2 σ H2 δ u _ ((R.grow g1).grow g2) eu fun G3 H3 g3 => ?_
  have g23 := g2.trans g3
  obtain ⟨p, vs, rfl, sq, da⟩ := pk_lst g23.s (dv.grow g23)
  refine ⟨p, vs, rfl, sq, fun r H' n => ?_⟩
  have g := g1.trans g23
  exact q r _ G3 H' (g.trans (.nwO g.s n)) (same_no g.h n.2.1) (same_no g.s n.2.1) n.2.2 (da.cut l u)
def DCk (K : PySem.W.Frag) (ρ : List Addr) (r : List V → Hp → VK → Prop) (g : W → Option W) : Prop :=
  ∀ (G H : Hp) (x : V) (d c : W) (Q : VK), Same G H → Pk K ρ G H x d → g d = some c → (∀ v G' H', Gr G H G' H' → Dw K ρ G' v c → Q v H') → r [x] H Q
def dC1 (g : W → Option W) (f : DS → Option W) : DS → Option W := fun δ => (f δ).bind g
theorem de_c1 {r : List V → Hp → VK → Prop} {g : W → Option W} {t : TE} {f : DS → Option W} (hr : DCk K ρ r g) (h : DK K ρ t f) : DE K ρ (tCB r (tCons t tNil)) (dC1 g f) := fun G σ H δ d Q R e q => by
  obtain ⟨x, ex, e⟩ := Option.bind_eq_some_iff.mp e
  exact h G σ H δ x _ R ex fun v G1 H1 g1 dv => hr G1 H1 v x d Q g1.s dv e fun u G2 H2 g2 du => q u G2 H2 (g1.trans g2) du
def rLenA (K : PySem.W.Frag) : List V → Hp → VK → Prop := fun xs H Q => rLen K xs H Q ∨ rLenS xs H Q
theorem call_lenA {X : Cx} {K : PySem.W.Frag} (h : X.K = K) : CallR X (.builtin "len") (rLenA K) := (call_len_seqK h).or call_len_strK
def gLen : W → Option W
  | .list ds => some (.int ds.length)
  | .tuple ds => some (.int ds.length)
  | .str z => if z.length ≤ sizeLine then some (.int z.length) else none
  | _ => none
theorem dc_len : DCk K ρ (rLenA K) gLen := fun G H x d c Q s hx hg q => by
  unfold gLen at hg
  split at hg
  · cases hg
    obtain ⟨p, vs, rfl, sq, da⟩ := pk_lst s hx
    exact .inl ⟨p, vs, rfl, .inl sq, by rw [da.length]; exact q _ G H (.refl s) (.int _)⟩
  · cases hg
    obtain ⟨p, vs, rfl, sq, da⟩ := pk_tup hx
    exact .inl ⟨p, vs, rfl, .inr (s.tup sq), by rw [da.length]; exact q _ G H (.refl s) (.int _)⟩
  · split at hg
    · rename_i hz
      cases hg
      cases pk_str hx
      exact .inr ⟨_, rfl, hz, q _ G H (.refl s) (.int _)⟩
    · cases hg
  · cases hg
def dListOf (f : DS → Option W) : DS → Option (List W) := fun δ => (f δ).bind seqD
theorem do_list {t : TE} {f : DS → Option W} (h : DK K ρ t f) : DO K ρ (tCB (rListOf K) (tCons t tNil)) (dListOf f) := fun G σ H δ ds Q R e q => by
  obtain ⟨x, ex, e⟩ := Option.bind_eq_some_iff.mp e
  refine h G σ H δ x _ R ex fun v G1 H1 g1 dv => ?_
  have fin : ∀ (vs : List V) (l : Addr), DwAll K ρ G1 vs ds → H1 l = none → Q (.ref l) (upd H1 l (.lst vs)) := fun vs l da hl => by
    have n : Nw H1 (upd H1 l (.lst vs)) l (.lst vs) := .of hl
    exact q l vs G1 _ (g1.trans (.nwO g1.s n)) (same_no g1.h hl) (same_no g1.s hl) upd_same da
  unfold seqD at e
  split at e
  · cases e
    obtain ⟨p, vs, rfl, sq, da⟩ := pk_lst g1.s dv
    exact ⟨p, vs, rfl, .inl sq, fun l hl => fin vs l da hl⟩
  · cases e
    obtain ⟨p, vs, rfl, sq, da⟩ := pk_tup dv
    exact ⟨p, vs, rfl, .inr (g1.s.tup sq), fun l hl => fin vs l da hl⟩
  · cases e
def gIsi (T : String) : W → Option W
  | .int i => (isiV (.int i) T).map .bool
  | .bool i => (isiV (.bl i) T).map .bool
  | .str i => (isiV (.str i) T).map .bool
  | _ => none
theorem de_isi {T : String} {t : TE} {f : DS → Option W} (h : DE K ρ t f) : DE K ρ (tCB rIsi (tCons t (tCons (tC (.ty T)) tNil))) (dC1 (gIsi T) f) := fun G σ H δ d Q R e q => by
  obtain ⟨x, ex, e⟩ := Option.bind_eq_some_iff.mp e
  refine h G σ H δ x _ R ex fun v G1 H1 g1 dv => ?_
  unfold gIsi at e
  split at e
  all_goals first
    | cases e
    | (obtain ⟨k, ek, rfl⟩ := Option.map_eq_some_iff.mp e
       cases dv
       exact ⟨_, T, k, rfl, ek, q _ G1 H1 g1 (.bl k)⟩)
theorem ds_setI {i : Nat} {te ti : TE} {fv fi : DS → Option W} (hv : DE K ρ te fv) (hi : DE K ρ ti fi) : DSt K ρ (tAsg te (gSub (tVar i) ti rSetL)) (dsSetI i fi fv) := fun G0 H0 G σ H δ o D I e p => by
  obtain ⟨d, ed, e⟩ := Option.bind_eq_some_iff.mp e
  obtain ⟨ds, eo, e⟩ := Option.bind_eq_some_iff.mp e
  obtain ⟨x, ex, e⟩ := Option.bind_eq_some_iff.mp e
  have ho := ownAt_eq eo
  refine hv G σ H δ d _ I.rl ed fun v G1 H1 g1 dv => ?_
  have I1 := I.grow g1
  obtain ⟨o', h1, q, vs, rfl, h3, h4, h5⟩ := I1.rl.sl i _ ho
  refine ⟨.ref q, h1, hi G1 σ H1 δ x _ I1.rl ex fun u G2 H2 g2 du => ?_⟩
  have I2 := I1.grow g2
  split at e
  · obtain ⟨j, ej, rfl⟩ := Option.map_eq_some_iff.mp e
    cases dp_int du
    exact ⟨q, vs, _, j, rfl, rfl, g2.h _ _ h4, by rw [h5.length]; exact ej, p σ G2 _ (I2.put ho h1 (g2.n q (by rw [h4]; simp) h3) (DwAll.set (dv.same g2.g) j (h5.same g2.g)))⟩
  · cases e
end
end L2
set_option Elab.async false
set_option linter.all false
set_option maxRecDepth 100000
namespace L2
open PySem PySem.Spec PyProof.Rows
def Itr3 (lo st : Int) (n : Nat) : It := ⟨fun i _ => i < n, fun i H x H' => H' = H ∧ x = .int (lo + i * st), fun i _ => n ≤ i⟩
theorem turn_range3 {P : Program} {w : World} {K : PySem.W.Frag} {tg : Expr} (it : Addr) (lo c : Int) (n : Nat) : Turn P w K tg (Itr3 lo c n) [it] it (fun i h => IsRangeIter h it (lo + (i : Nat) * c) ((n : Int) - (i : Nat)) c) where
  mem := by simp
  obj := fun i h st b hb => by
    have e : b = it := by simpa using hb
    subst e
    exact ⟨_, st, fun v z => by
      have z' : Data.fields _ = Data.cell v := z
      cases z'⟩
  keep := fun i h h' st k => k it (by simp) _ st
  item := by
    intro X hP hw hK hc i pins s σ H E I hf st hg
    subst hP hw hK
    obtain ⟨f0, f1, f2, f3, f4, f5⟩ := hf it (by simp)
    have W := Walks.range (prog := X.prog) (w := X.w) (I.ok.hd hc) it lo c n
    refine W.item i s _ _ hg st fun v h' tk hv st' kk => ?_
    obtain ⟨t, rfl⟩ := hv
    have I1 : Inv X pins σ H { s with heap := h', toks := tk } := I.turned (fun b o hb e => kk b o (by simpa using hb) e) f0 f1 f3 f4 f5
    exact ⟨_, rfl, go_of (s := { s with heap := h', toks := tk }) (n := "range_iterator") st' rfl rfl (by decide) ⟨.int (lo + i * c), H, I1, ⟨t, rfl⟩, ⟨rfl, rfl⟩, st', fun b hb => (hf b hb).1⟩⟩
  done := by
    intro X hP hw hK hc i pins s σ H E I hf st hg
    subst hP hw hK
    obtain ⟨f0, f1, f2, f3, f4, f5⟩ := hf it (by simp)
    exact wpAny_pyNext_range_end (I.ok.hd hc) st (by have : n ≤ i := hg; omega) fun h' eb => ⟨rfl, I.turned (t' := s.toks) (fun b o hb e => eb b o hb e) f0 f1 f3 f4 f5⟩
  self := fun _ _ _ _ _ st h => wpAny_pyIter_rangeiter st h
def rOk (a b c : Int) : Prop := -(2 ^ 40) ≤ a ∧ a < 2 ^ 40 ∧ -(2 ^ 40) ≤ b ∧ b < 2 ^ 40 ∧ 0 < c ∧ c < 2 ^ 30
def rN (a b c : Int) : Nat := (if a < b then (b - a - 1) / c + 1 else 0).toNat
theorem rsize {a b c : Int} (h : rOk a b c) : Builtin.Range.rangeSize a b c = (rN a b c : Int) := by
  obtain ⟨_, _, _, _, h5, _⟩ := h
  unfold Builtin.Range.rangeSize rN
  rw [if_pos (by omega)]
  split
  · have : 0 ≤ (b - a - 1) / c := Int.ediv_nonneg (by omega) (by omega)
    omega
  · rfl
theorem rsmall {a b c : Int} (h : rOk a b c) : Builtin.Range.small a b c = true := by
  have hs := rsize h
  obtain ⟨h1, h2, h3, h4, h5, h6⟩ := h
  have hn : (rN a b c : Int) ≤ 2 ^ 42 := by
    rw [← hs]
    unfold Builtin.Range.rangeSize
    rw [if_pos (by omega)]
    split
    · have : (b - a - 1) / c ≤ b - a - 1 := Int.ediv_le_self _ (by omega)
      omega
    · decide
  unfold Builtin.Range.small
  rw [hs]
  simp only [Builtin.Range.rangeFitsLong, Bool.and_eq_true, Bool.or_eq_true, decide_eq_true_eq, beq_iff_eq]
  refine ⟨⟨⟨⟨by omega, by omega⟩, by omega⟩, by omega⟩, .inr ?_⟩
  rw [if_pos (by omega)]
  simp only [decide_eq_true_eq, Bool.and_eq_true]
  omega
section
variable {X : Cx} {tg : Expr}
def iRng3 (ta : TA) : TI := fun σ H R => ta σ H fun vs H1 => ∃ a b c : Int, vs = [.int a, .int b, .int c] ∧ rOk a b c ∧ R (Itr3 a c (rN a b c)) H1
theorem pi_range3 {a b c : Expr} {ta : TA} {p pos : Pos} (hg : Gl X "range") (hm : X.mg "range" = none) (ha : PA X [a, b, c] ta) (hs : starEach [a, b, c] X.env = [(false, eval a X.env), (false, eval b X.env), (false, eval c X.env)] := by rfl) (hs2 : starEach [b, c] X.env = [(false, eval b X.env), (false, eval c X.env)] := by rfl) :
    PI X tg (.Call (.Name "range" p) [a, b, c] [] pos) (iRng3 ta) := by
  intro pins s σ H R I h
  refine Call_ (ld_blt I hg hm boot_range (PyProof.Rows.callWith_type1 (thn (ha pos pins s σ H _ I h) fun us s1 ⟨vs, H1, I1, r1, q1⟩ => ?_) (by rw [hs, hs2]) (by rw [hs2]; rfl)))
  obtain ⟨i, j, k, e, ok, q⟩ := q1
  subst e
  cases r1 with
  | cons r rr =>
    cases rr with
    | cons r' rr =>
      cases rr with
      | cons r'' rr =>
        cases rr
        obtain ⟨t, rfl⟩ := r
        obtain ⟨t', rfl⟩ := r'
        obtain ⟨t'', rfl⟩ := r''
        obtain ⟨h1, h2, h3, h4, h5, h6⟩ := id ok
        refine PySem.call_range_3 (by omega) ?_ (.inl (PyProof.noPylong_small (by omega)))
        refine wpAny_pyIter_range (Heap.get?_push_size _ rfl) (rsmall ok) ?_
        have I2 : Inv X pins σ H1 { s1 with heap := s1.heap.push { cls := .type "range", data := .fields #[.int i t, .int j t', .int k t''] }, toks := s1.toks } := I1.kept fun b o e => Heap.get?_push_of_some _ e
        refine ⟨_, [(s1.heap.push { cls := .type "range", data := .fields #[.int i t, .int j t', .int k t''] }).objs.size], _, _, H1, rfl, I2.kept (t' := s1.toks) fun b o e => Heap.get?_push_of_some _ e, turn_range3 _ i k (rN i j k), ?_, fun b hb => ?_, q⟩
        · show IsRangeIter _ _ (i + ((0 : Nat) : Int) * k) (((rN i j k : Nat) : Int) - ((0 : Nat) : Int)) k
          rw [← rsize ok]
          have e1 : i + ((0 : Nat) : Int) * k = i := by simp
          have e2 : Builtin.Range.rangeSize i j k - ((0 : Nat) : Int) = Builtin.Range.rangeSize i j k := by simp
          rw [e1, e2]
          exact Heap.get?_push_size _ rfl
        · have e : b = (s1.heap.push { cls := .type "range", data := .fields #[.int i t, .int j t', .int k t''] }).objs.size := by simpa using hb
          subst e
          exact I2.fpOk (Nat.le_refl _) (I2.hok.fresh (Nat.le_refl _))
end
section
variable {K : PySem.W.Frag} {ρ : List Addr}
def rngD3 (lo c : Int) (n : Nat) : List W := (List.range n).map fun i => .int (lo + (i : Nat) * c)
theorem itr3_ok {G : Hp} {lo c : Int} {n : Nat} : ItF K ρ (Itr3 lo c n) G (rngD3 lo c n) := fun i G1 H1 _ s => by
  refine ⟨fun d hd => ?_, fun h => show n ≤ i by simpa [rngD3] using h⟩
  have hi : i < n := by
    have := (List.getElem?_eq_some_iff.mp hd).1
    simpa [rngD3] using this
  refine ⟨hi, fun x H' y => ?_⟩
  obtain ⟨rfl, rfl⟩ := y
  have : d = .int (lo + i * c) := by
    unfold rngD3 at hd
    rw [List.getElem?_map, List.getElem?_range hi] at hd
    cases hd
    rfl
  subst this
  exact ⟨G1, .refl s, .int _⟩
def rOkB (a b c : Int) : Bool := decide (-(2 ^ 40) ≤ a) && decide (a < 2 ^ 40) && decide (-(2 ^ 40) ≤ b) && decide (b < 2 ^ 40) && decide (0 < c) && decide (c < 2 ^ 30)
def rng3 (a b c : Int) : Option (List W) := if rOkB a b c = true then some (rngD3 a c (rN a b c)) else none
def rng3L : List W → Option (List W)
  | [.int a, .int b, .int c] => rng3 a b c
  | _ => none
def dRng3 (f : DS → Option (List W)) : DS → Option (List W) := fun δ => (f δ).bind rng3L
theorem rng3_ok {a b c : Int} {ds : List W} (h : rng3 a b c = some ds) : rOk a b c ∧ ds = rngD3 a c (rN a b c) := by
  unfold rng3 at h
  split at h
  · rename_i hc
    cases h
    simp only [rOkB, Bool.and_eq_true, decide_eq_true_eq] at hc
    obtain ⟨⟨⟨⟨⟨h1, h2⟩, h3⟩, h4⟩, h5⟩, h6⟩ := hc
    exact ⟨⟨h1, h2, h3, h4, h5, h6⟩, rfl⟩
  · cases h
theorem dp_three {G : Hp} {vs : List V} {d e f : W} (h : DwAll K ρ G vs [d, e, f]) : ∃ v u w, vs = [v, u, w] ∧ Dw K ρ G v d ∧ Dw K ρ G u e ∧ Dw K ρ G w f := by
  cases h with
  | cons a b =>
    obtain ⟨u, w, rfl, h1, h2⟩ := dp_two b
    exact ⟨_, u, w, rfl, a, h1, h2⟩
theorem di_rng3 {t : TA} {f : DS → Option (List W)} (h : DA K ρ t f) : DI K ρ (iRng3 t) (dRng3 f) := fun G σ H δ ds R' R e q => by
  obtain ⟨es, ed, e⟩ := Option.bind_eq_some_iff.mp e
  refine h G σ H δ es _ R ed fun vs G1 H1 g1 da => ?_
  unfold rng3L at e
  split at e
  · obtain ⟨hc, rfl⟩ := rng3_ok e
    obtain ⟨v, u, w, rfl, dv, du, dw⟩ := dp_three da
    cases dp_int dv
    cases dp_int du
    cases dp_int dw
    exact ⟨_, _, _, rfl, hc, q _ G1 H1 g1 itr3_ok⟩
  · cases e
end
theorem valsInts : ∀ {ns : List Int} {its : List Value}, Vals (ns.map V.int) its → ∃ l : List (Int × Tok), its = l.map (fun p => .int p.1 p.2) ∧ l.map (·.1) = ns
  | [], _, .nil => ⟨[], rfl, rfl⟩
  | n :: ns, _, .cons r t => by
    obtain ⟨l, e1, e2⟩ := valsInts t
    obtain ⟨tk, rfl⟩ := r
    exact ⟨(n, tk) :: l, by rw [e1]; rfl, by rw [List.map_cons, e2]⟩
def rSumL (K : PySem.W.Frag) : List V → Hp → VK → Prop := fun xs H Q => ∃ (a : Addr) (ns : List Int), xs = [.ref a] ∧ SqL K H a (ns.map V.int) ∧ PySem.SumFits ns ∧ Q (.int ns.sum) H
def rMaxL (K : PySem.W.Frag) : List V → Hp → VK → Prop := fun xs H Q => ∃ (a : Addr) (ns : List Int), xs = [.ref a] ∧ SqL K H a (ns.map V.int) ∧ 0 < ns.length ∧ ∀ M, M ∈ ns → (∀ n ∈ ns, n ≤ M) → Q (.int M) H
def rMinL (K : PySem.W.Frag) : List V → Hp → VK → Prop := fun xs H Q => ∃ (a : Addr) (ns : List Int), xs = [.ref a] ∧ SqL K H a (ns.map V.int) ∧ 0 < ns.length ∧ ∀ M, M ∈ ns → (∀ n ∈ ns, M ≤ n) → Q (.int M) H
section
variable {X : Cx}
theorem items_eq (l : List (Int × Tok)) : (l.map (fun p => Value.int p.1 p.2)).toArray = intItems l.toArray := by simp [intItems]
theorem call_sum' (hc : X.calm = true) : CallR X (.builtin "sum") (rSumL X.K) := by
  intro pins s σ H xs us Q I r h
  obtain ⟨a, ns, rfl, hq, hf, q⟩ := h
  obtain ⟨u, rfl, ru⟩ := vals1 r
  cases ru
  obtain ⟨its, rv, pl, _⟩ := I.list hq
  obtain ⟨l, rfl, rfl⟩ := valsInts rv
  refine sum_intList (xs := l.toArray) (I.ok.hd hc) (by rw [← items_eq]; exact pl.isList) (fun j hj => ?_) fun h' tk t' hk => ?_
  · rw [numAt_eq, preSum_eq]
    exact hf j (by simpa using hj)
  · rw [preSum_eq, List.take_of_length_le (by simp)]
    exact ⟨.int _, H, I.kept hk, ⟨_, rfl⟩, q⟩
theorem call_max' (hc : X.calm = true) : CallR X (.builtin "max") (rMaxL X.K) := by
  intro pins s σ H xs us Q I r h
  obtain ⟨a, ns, rfl, hq, hf, q⟩ := h
  obtain ⟨u, rfl, ru⟩ := vals1 r
  cases ru
  obtain ⟨its, rv, pl, _⟩ := I.list hq
  obtain ⟨l, rfl, rfl⟩ := valsInts rv
  have hsz : 0 < l.toArray.size := by simpa using hf
  refine max_intList (xs := l.toArray) (I.ok.hd hc) (by rw [← items_eq]; exact pl.isList) hsz fun v h' tk hv hk => ?_
  obtain ⟨t, rfl⟩ := intItems_at hv
  obtain ⟨h1, h2⟩ := argBest_gt (numAt l.toArray) (l.toArray.size - 1)
  refine ⟨.int _, H, I.kept hk, ⟨_, rfl⟩, q _ ?_ fun n hn => ?_⟩
  · rw [numAt_eq]
    have e : l.toArray.toList.length = l.toArray.size := by simp
    have e2 : l.toArray.toList.length = l.length := by simp
    exact getD_mem (by rw [List.length_map]; omega)
  · obtain ⟨j, hj, rfl⟩ := mem_getD hn
    rw [List.length_map] at hj
    have := h2 j (by simp; omega)
    rw [numAt_eq (xs := l.toArray) (j)] at this
    exact this
theorem call_min' (hc : X.calm = true) : CallR X (.builtin "min") (rMinL X.K) := by
  intro pins s σ H xs us Q I r h
  obtain ⟨a, ns, rfl, hq, hf, q⟩ := h
  obtain ⟨u, rfl, ru⟩ := vals1 r
  cases ru
  obtain ⟨its, rv, pl, _⟩ := I.list hq
  obtain ⟨l, rfl, rfl⟩ := valsInts rv
  have hsz : 0 < l.toArray.size := by simpa using hf
  refine min_intList (xs := l.toArray) (I.ok.hd hc) (by rw [← items_eq]; exact pl.isList) hsz fun v h' tk hv hk => ?_
  obtain ⟨t, rfl⟩ := intItems_at hv
  obtain ⟨h1, h2⟩ := argBest_lt (numAt l.toArray) (l.toArray.size - 1)
  refine ⟨.int _, H, I.kept hk, ⟨_, rfl⟩, q _ ?_ fun n hn => ?_⟩
  · rw [numAt_eq]
    have e : l.toArray.toList.length = l.toArray.size := by simp
    have e2 : l.toArray.toList.length = l.length := by simp
    exact getD_mem (by rw [List.length_map]; omega)
  · obtain ⟨j, hj, rfl⟩ := mem_getD hn
    rw [List.length_map] at hj
    have := h2 j (by simp; omega)
    rw [numAt_eq (xs := l.toArray) (j)] at this
    exact this
theorem call_sumL {K : PySem.W.Frag} (h : X.K = K) (hc : X.calm = true) : CallR X (.builtin "sum") (rSumL K) := h ▸ call_sum' hc
theorem call_maxL {K : PySem.W.Frag} (h : X.K = K) (hc : X.calm = true) : CallR X (.builtin "max") (rMaxL K) := h ▸ call_max' hc
theorem call_minL {K : PySem.W.Frag} (h : X.K = K) (hc : X.calm = true) : CallR X (.builtin "min") (rMinL K) := h ▸ call_min' hc
end
section
variable {K : PySem.W.Frag} {ρ : List Addr}
def intsD : List W → Option (List Int)
  | [] => some []
  | d :: ds => (asI d).bind fun i => (intsD ds).map (i :: ·)
theorem intsD_map : ∀ (ns : List Int), intsD (ns.map .int) = some ns
  | [] => rfl
  | n :: ns => by
    show (some n).bind _ = _
    rw [intsD_map ns]
    rfl
theorem intsD_vals {G : Hp} : ∀ {vs : List V} {ds : List W} {ns : List Int}, DwAll K ρ G vs ds → intsD ds = some ns → vs = ns.map V.int
  | _, _, _, .nil, e => by cases e; rfl
  | _, _, _, .cons h t, e => by
    obtain ⟨i, e1, e⟩ := Option.bind_eq_some_iff.mp e
    obtain ⟨ms, e2, rfl⟩ := Option.map_eq_some_iff.mp e
    cases asI_eq e1
    cases dp_int h
    rw [intsD_vals t e2]
    rfl
def fitB (ns : List Int) : Bool := ns.all (fun n => decide (n.natAbs < 2 ^ 40)) && decide (ns.length ≤ 1000000)
theorem fit_sum : ∀ (ns : List Int), (∀ n ∈ ns, n.natAbs < 2 ^ 40) → ns.sum.natAbs ≤ ns.length * 2 ^ 40
  | [], _ => by simp
  | n :: ns, h => by
    have h1 := h n (by simp)
    have h2 := fit_sum ns fun m hm => h m (by simp [hm])
    rw [List.sum_cons, List.length_cons]
    omega
theorem fitB_ok {ns : List Int} (h : fitB ns = true) : PySem.SumFits ns := by
  simp only [fitB, Bool.and_eq_true, List.all_eq_true, decide_eq_true_eq] at h
  intro j hj
  have a : ns.getD j 0 ∈ ns := getD_mem hj
  have h1 := h.1 _ a
  have h2 := fit_sum (ns.take (j + 1)) fun n hn => h.1 n (List.mem_of_mem_take hn)
  have h3 : (ns.take (j + 1)).length ≤ 1000000 := by rw [List.length_take]; omega
  have h4 : (ns.take (j + 1)).sum.natAbs ≤ 1000000 * 2 ^ 40 := Nat.le_trans h2 (Nat.mul_le_mul_right _ h3)
  unfold InLong
  constructor <;> omega
def gSum (d : W) : Option W := (listD d).bind fun ds => (intsD ds).bind fun ns => if fitB ns = true then some (.int ns.sum) else none
theorem dc_sum : DCk K ρ (rSumL K) gSum := fun G H x d c Q s hx hg q => by
  obtain ⟨ds, e1, hg⟩ := Option.bind_eq_some_iff.mp hg
  obtain ⟨ns, e2, hg⟩ := Option.bind_eq_some_iff.mp hg
  split at hg
  · rename_i hf
    cases hg
    cases listD_eq e1
    obtain ⟨p, vs, rfl, sq, da⟩ := pk_lst s hx
    rw [intsD_vals da e2] at sq
    exact ⟨p, ns, rfl, sq, fitB_ok hf, q _ G H (.refl s) (.int _)⟩
  · cases hg
def maxL : List Int → Int
  | [] => 0
  | n :: r => r.foldl max n
def minL : List Int → Int
  | [] => 0
  | n :: r => r.foldl min n
theorem foldl_max : ∀ (r : List Int) (n : Int), n ≤ r.foldl max n ∧ (∀ m ∈ r, m ≤ r.foldl max n) ∧ (r.foldl max n = n ∨ r.foldl max n ∈ r)
  | [], n => by simp
  | m :: r, n => by
    obtain ⟨h1, h2, h3⟩ := foldl_max r (max n m)
    rw [List.foldl_cons]
    refine ⟨by omega, fun k hk => ?_, ?_⟩
    · rcases List.mem_cons.mp hk with rfl | hk
      · omega
      · exact h2 k hk
    · rcases h3 with h3 | h3
      · by_cases hnm : n ≤ m
        · right; rw [h3, Int.max_eq_right hnm]; simp
        · left; rw [h3]; omega
      · right; simp [h3]
theorem foldl_min : ∀ (r : List Int) (n : Int), r.foldl min n ≤ n ∧ (∀ m ∈ r, r.foldl min n ≤ m) ∧ (r.foldl min n = n ∨ r.foldl min n ∈ r)
  | [], n => by simp
  | m :: r, n => by
    obtain ⟨h1, h2, h3⟩ := foldl_min r (min n m)
    rw [List.foldl_cons]
    refine ⟨by omega, fun k hk => ?_, ?_⟩
    · rcases List.mem_cons.mp hk with rfl | hk
      · omega
      · exact h2 k hk
    · rcases h3 with h3 | h3
      · by_cases hnm : m ≤ n
        · right; rw [h3, Int.min_eq_right hnm]; simp
        · left; rw [h3]; omega
      · right; simp [h3]
theorem maxL_eq {ns : List Int} {M : Int} (h : 0 < ns.length) (hm : M ∈ ns) (hb : ∀ n ∈ ns, n ≤ M) : M = maxL ns := by
  cases ns with
  | nil => cases hm
  | cons n r =>
    obtain ⟨h1, h2, h3⟩ := foldl_max r n
    show M = r.foldl max n
    have ha : M ≤ r.foldl max n := by
      rcases List.mem_cons.mp hm with rfl | hm
      · exact h1
      · exact h2 M hm
    have hb2 : r.foldl max n ≤ M := by
      rcases h3 with h3 | h3
      · rw [h3]; exact hb n (by simp)
      · exact hb _ (by simp [h3])
    omega
theorem minL_eq {ns : List Int} {M : Int} (h : 0 < ns.length) (hm : M ∈ ns) (hb : ∀ n ∈ ns, M ≤ n) : M = minL ns := by
  cases ns with
  | nil => cases hm
  | cons n r =>
    obtain ⟨h1, h2, h3⟩ := foldl_min r n
    show M = r.foldl min n
    have ha : r.foldl min n ≤ M := by
      rcases List.mem_cons.mp hm with rfl | hm
      · exact h1
      · exact h2 M hm
    have hb2 : M ≤ r.foldl min n := by
      rcases h3 with h3 | h3
      · rw [h3]; exact hb n (by simp)
      · exact hb _ (by simp [h3])
    omega
def gMax (d : W) : Option W := (listD d).bind fun ds => (intsD ds).bind fun ns => if 0 < ns.length then some (.int (maxL ns)) else none
def gMin (d : W) : Option W := (listD d).bind fun ds => (intsD ds).bind fun ns => if 0 < ns.length then some (.int (minL ns)) else none
theorem dc_max : DCk K ρ (rMaxL K) gMax := fun G H x d c Q s hx hg q => by
  obtain ⟨ds, e1, hg⟩ := Option.bind_eq_some_iff.mp hg
  obtain ⟨ns, e2, hg⟩ := Option.bind_eq_some_iff.mp hg
  split at hg
  · rename_i hf
    cases hg
    cases listD_eq e1
    obtain ⟨p, vs, rfl, sq, da⟩ := pk_lst s hx
    rw [intsD_vals da e2] at sq
    exact ⟨p, ns, rfl, sq, hf, fun M h1 h2 => by rw [maxL_eq hf h1 h2]; exact q _ G H (.refl s) (.int _)⟩
  · cases hg
theorem dc_min : DCk K ρ (rMinL K) gMin := fun G H x d c Q s hx hg q => by
  obtain ⟨ds, e1, hg⟩ := Option.bind_eq_some_iff.mp hg
  obtain ⟨ns, e2, hg⟩ := Option.bind_eq_some_iff.mp hg
  split at hg
  · rename_i hf
    cases hg
    cases listD_eq e1
    obtain ⟨p, vs, rfl, sq, da⟩ := pk_lst s hx
    rw [intsD_vals da e2] at sq
    exact ⟨p, ns, rfl, sq, hf, fun M h1 h2 => by rw [minL_eq hf h1 h2]; exact q _ G H (.refl s) (.int _)⟩
  · cases hg
theorem for_inv {h : W → DS → Option DS} {fb : DS → Option Out} (P : Nat → DS → Prop) : ∀ (ds : List W) (k : Nat) (δ : DS), P k δ →
    (∀ i d δ, ds[i]? = some d → P (k + i) δ → ∃ δ2, h d δ = some δ2 ∧ ∃ δ', (fb δ2 = some (.nx δ') ∨ fb δ2 = some (.ct δ')) ∧ P (k + i + 1) δ') → ∃ δ', dsForGo h fb ds δ = some (.nx δ') ∧ P (k + ds.length) δ'
  | [], k, δ, h0, _ => ⟨δ, rfl, h0⟩
  | d :: ds, k, δ, h0, st => by
    obtain ⟨δ2, e1, δ', e2, h1⟩ := st 0 d δ rfl h0
    obtain ⟨δ3, e3, h3⟩ := for_inv P ds (k + 1) δ' h1 fun i d' δ'' hd hp => by
      have := st (i + 1) d' δ'' (by simpa using hd) (by rw [show k + (i + 1) = k + 1 + i by omega]; exact hp)
      rw [show k + (i + 1) + 1 = k + 1 + i + 1 by omega] at this
      exact this
    refine ⟨δ3, ?_, by rw [List.length_cons, show k + (ds.length + 1) = k + 1 + ds.length by omega]; exact h3⟩
    show (h d δ).bind _ = _
    rw [e1]
    show (match fb δ2 with | some (.nx δ') => _ | some (.ct δ') => _ | some (.bk δ') => _ | some (.rt d) => _ | none => _) = _
    rcases e2 with e2 | e2 <;> rw [e2] <;> exact e3
end
theorem gAdd_i (i j : Int) : gAdd (.int i) (.int j) = some (.int (i + j)) := rfl
theorem gAdd_l {a b : List W} (h : a.length + b.length ≤ sizeLine) : gAdd (.list a) (.list b) = some (.list (a ++ b)) := by simp only [gAdd, if_pos h]
theorem gSub_i (i j : Int) : gSub' (.int i) (.int j) = some (.int (i - j)) := rfl
theorem gMul_i {i j : Int} (h : okMul i j = true) : gMul (.int i) (.int j) = some (.int (i * j)) := by simp only [gMul, gIc, if_pos h]
theorem gDiv_i {i j : Int} (h : okDiv i j = true) : gDiv (.int i) (.int j) = some (.int (i.fdiv j)) := by simp only [gDiv, gIc, if_pos h]
theorem gMod_i {i j : Int} (h : okMod i j = true) : gMod (.int i) (.int j) = some (.int (i.fmod j)) := by simp only [gMod, gIc, if_pos h]
theorem gNeg_i (i : Int) : gNeg (.int i) = some (.int (-i)) := rfl
theorem okMul_of {i j : Int} (h1 : -(2 ^ 64) < i) (h2 : i < 2 ^ 64) (h3 : -(2 ^ 64) < j) (h4 : j < 2 ^ 64) : okMul i j = true := by
  have e : (2 : Nat) ^ 64 < 2 ^ 200 := Nat.pow_lt_pow_right (by decide) (by decide)
  simp only [okMul, Bool.and_eq_true, decide_eq_true_eq]
  exact ⟨Nat.lt_trans (by omega) e, Nat.lt_trans (by omega) e⟩
theorem okDiv_of {i j : Int} (h1 : 0 < j) (h2 : j < 2 ^ 64) : okDiv i j = true := by
  have e : (2 : Nat) ^ 64 < 2 ^ 200 := Nat.pow_lt_pow_right (by decide) (by decide)
  simp only [okDiv, Bool.and_eq_true, decide_eq_true_eq]
  exact ⟨by omega, Nat.lt_trans (by omega) e⟩
theorem okMod_of {i j : Int} (h : j ≠ 0) : okMod i j = true := by simp [okMod, h]
theorem gDiv_n (i : Int) {j : Int} (h1 : 0 < j) (h2 : j < 2 ^ 64) : gDiv (.int i) (.int j) = some (.int (i.fdiv j)) := gDiv_i (okDiv_of h1 h2)
theorem gMod_n (i : Int) {j : Int} (h1 : j ≠ 0) : gMod (.int i) (.int j) = some (.int (i.fmod j)) := gMod_i (okMod_of h1)
theorem asB_b (b : Bool) : asB (.bool b) = some b := rfl
theorem asI_i (i : Int) : asI (.int i) = some i := rfl
theorem listD_l (ds : List W) : listD (.list ds) = some ds := rfl
theorem seqD_l (ds : List W) : seqD (.list ds) = some ds := rfl
theorem seqD_t (ds : List W) : seqD (.tuple ds) = some ds := rfl
theorem gLen_l (ds : List W) : gLen (.list ds) = some (.int ds.length) := rfl
theorem gLen_t (ds : List W) : gLen (.tuple ds) = some (.int ds.length) := rfl
theorem gIx_l (ds : List W) (i : Int) : gIx (.list ds) (.int i) = atI ds i := rfl
theorem gIx_t (ds : List W) (i : Int) : gIx (.tuple ds) (.int i) = atI ds i := rfl
theorem cEq_i (i j : Int) : cEq (.int i) (.int j) = some (decide (i = j)) := rfl
theorem cEq_s (i j : Str) : cEq (.str i) (.str j) = some (decide (i = j)) := rfl
theorem cEq_b (i j : Bool) : cEq (.bool i) (.bool j) = some (decide (i = j)) := rfl
theorem cNe_i (i j : Int) : cNe (.int i) (.int j) = some (!decide (i = j)) := rfl
theorem cNe_s (i j : Str) : cNe (.str i) (.str j) = some (!decide (i = j)) := rfl
theorem cLt_i (i j : Int) : cLt (.int i) (.int j) = some (decide (i < j)) := rfl
theorem cLe_i (i j : Int) : cLe (.int i) (.int j) = some (decide (i ≤ j)) := rfl
theorem cGt_i (i j : Int) : cGt (.int i) (.int j) = some (decide (j < i)) := rfl
theorem cGe_i (i j : Int) : cGe (.int i) (.int j) = some (decide (j ≤ i)) := rfl
theorem cNotN_i (i : Int) : cNotN (.int i) .none = some true := rfl
theorem cNotN_n : cNotN .none .none = some false := rfl
theorem cNotN_s (i : Str) : cNotN (.str i) .none = some true := rfl
theorem cNotN_l (i : List W) : cNotN (.list i) .none = some true := rfl
theorem cNotN_t (i : List W) : cNotN (.tuple i) .none = some true := rfl
theorem cIsN_i (i : Int) : cIsN (.int i) .none = some false := rfl
theorem cIsN_n : cIsN .none .none = some true := rfl
theorem cIsN_s (i : Str) : cIsN (.str i) .none = some false := rfl
theorem cIsN_l (i : List W) : cIsN (.list i) .none = some false := rfl
theorem cIsN_t (i : List W) : cIsN (.tuple i) .none = some false := rfl
theorem isi_int (i : Int) : gIsi "int" (.int i) = some (.bool true) := rfl
theorem isi_bool (i : Int) : gIsi "bool" (.int i) = some (.bool false) := rfl
theorem isi_str (i : Str) : gIsi "str" (.str i) = some (.bool true) := rfl
theorem seq_run {f g : DS → Option Out} {δ δ1 : DS} {o : Option Out} (h1 : f δ = some (.nx δ1)) (h2 : g δ1 = o) : dsSeq f g δ = o := by
  unfold dsSeq
  rw [h1]
  exact h2
theorem body_run {a n : Nat} {fb : DS → Option Out} {ds : List W} {d : W} (hl : ds.length = a) (h : fb (startD n ds) = some (.rt d)) : bodyD a n fb ds = some d := by
  unfold bodyD
  rw [if_pos hl, h]
  rfl
theorem for_run {fi : DS → Option (List W)} {h : W → DS → Option DS} {fb : DS → Option Out} {δ : DS} {ds : List W} {o : Option Out} (h1 : fi δ = some ds) (h2 : dsForGo h fb ds δ = o) : dsFor fi h fb δ = o := by
  unfold dsFor
  rw [h1]
  exact h2
theorem asg_run {f : DS → Option W} {h : W → DS → Option DS} {δ δ' : DS} {d : W} (h1 : f δ = some d) (h2 : h d δ = some δ') : dsAsg f h δ = some (.nx δ') := by
  unfold dsAsg
  rw [h1]
  show (h d δ).map Out.nx = _
  rw [h2]
  rfl
theorem ret_run {f : DS → Option W} {δ : DS} {d : W} (h1 : f δ = some d) : dsRet f δ = some (.rt d) := by
  unfold dsRet
  rw [h1]
  rfl
theorem rng1_at {n : Nat} (hn : n ≤ 16777216) : rng1 (n : Int) = some (rngD 0 n) := by
  unfold rng1
  rw [if_pos (rngOk_nat hn), Int.toNat_natCast]
theorem rng1_run {f : DS → Option (List W)} {δ : DS} {n : Nat} (h : f δ = some [.int n]) (hn : n ≤ 16777216) : dRng1 f δ = some (rngD 0 n) := by
  unfold dRng1
  rw [h, Option.bind_some]
  exact rng1_at hn
theorem rng3_run {f : DS → Option (List W)} {δ : DS} {a b c : Int} (h : f δ = some [.int a, .int b, .int c]) (hn : rOkB a b c = true) : dRng3 f δ = some (rngD3 a c (rN a b c)) := by
  unfold dRng3
  rw [h, Option.bind_some]
  show rng3 a b c = _
  unfold rng3
  rw [if_pos hn]
theorem spD_no {K : PySem.W.Frag} {g : List W → Option W} {vs : List V} {H : Hp} {Q : VK} {E : XK} (hg : ∀ ds, g ds = none) (h : spD K g vs H Q E) : False := by
  obtain ⟨ρ, G, ds, d, _, _, e, _⟩ := h
  rw [hg] at e
  cases e
theorem FnOk.no {P : Program} {w : World} {K : PySem.W.Frag} {mg : Str → Option Value} {base : Heap} {CX : CXT} {k : Nat} {f : Addr} {fd : FuncData} {ps : List Str} {g : List W → Option W} (hg : ∀ ds, g ds = none) : FnOk P w K mg base CX k f fd ps (spD K g) :=
  ⟨fun _ _ _ _ h => (spD_no hg h).elim, fun _ _ _ _ _ _ _ _ _ _ _ _ _ h => (spD_no hg h).elim⟩
end L2
set_option Elab.async false
set_option linter.all false
set_option maxRecDepth 100000
namespace My
open PySem PySem.Spec PyProof.Rows L2
def top (i : Nat) : Stmt := PySem.Challenge.pw_widelanes_k41_joined.main.body.getD i (.Pass ⟨0, 0, 0, 0⟩)
abbrev s_wrapped : Stmt := top 3
abbrev s_joined : Stmt := top 5
abbrev s__law_cell : Stmt := top 7
abbrev s__law_same : Stmt := top 8
abbrev s__law_into_range : Stmt := top 9
abbrev s__law_mixed : Stmt := top 10
abbrev s__law_number : Stmt := top 11
abbrev s__law_row : Stmt := top 12
abbrev s__law_holds : Stmt := top 13
abbrev s_law : Stmt := top 14
def p_wrapped : List W → Option W := bodyD 1 1
    (dsRet (dOp gAdd (dOp gMod (dOp gSub' (dPk 0) (dC (.int (-2147483648)))) (dC (.int 4294967296))) (dC (.int (-2147483648)))))
def p_joined : List W → Option W := bodyD 3 4
    (dsSeq (dsAsg (dOwn (dComp [none] (dSeqOf (dPk 1)) (dgName 0) (dCmp cNotN (dPk 0) (dC .none)) (dVar 0))) (dgName 3))
    (dsSeq (dsIf (dCmp cEq (dPk 0) (dC (.str (Str.ofString "sum"))))
      (dsRet (dCall p_wrapped (dCons (dC1 gSum (dPk 3)) dNil)))
      dsNext)
    (dsSeq (dsIf (dCmp cEq (dPk 0) (dC (.str (Str.ofString "most"))))
      (dsRet (dC1 gMax (dPk 3)))
      dsNext)
    (dsSeq (dsIf (dCmp cEq (dPk 0) (dC (.str (Str.ofString "least"))))
      (dsRet (dC1 gMin (dPk 3)))
      dsNext)
    (dsRet (dCall p_wrapped (dCons (dC1 gSum (dOwn (dComp [none] (dSeqOf (dOwn (dSlL (dPk 1) dNoPart (dPart (dVar 2))))) (dgName 0) (dCmp cNotN (dPk 0) (dC .none)) (dVar 0)))) dNil)))))))
def p__law_cell : List W → Option W := bodyD 2 2
    (dsSeq (dsIf (dCmp cLt (dPk 1) (dC1 gLen (dPk 0)))
      (dsRet (dOp gIx (dPk 0) (dVar 1)))
      dsNext)
    (dsRet (dC (.int (0)))))
def p__law_same : List W → Option W := bodyD 2 2
    (dsRet (dAndV (dC1 (gIsi "int") (dVar 0)) (dAndV (dNotV (dC1 (gIsi "bool") (dVar 0))) (dB (dCmp cEq (dPk 0) (dPk 1))))))
def p__law_into_range : List W → Option W := bodyD 1 1
    (dsRet (dOp gSub' (dOp gMod (dOp gAdd (dPk 0) (dC (.int (2147483648)))) (dC (.int (4294967296)))) (dC (.int (2147483648)))))
def p__law_mixed : List W → Option W := bodyD 2 3
    (dsSeq (dsAsg (dOp gMod (dOp gAdd (dOp gAdd (dOp gMod (dPk 0) (dC (.int (2147483647)))) (dOp gMul (dC (.int (16807))) (dVar 1))) (dC (.int (7)))) (dC (.int (2147483629)))) (dgName 2))
    (dsSeq (dsAsg (dOp gMod (dOp gMul (dPk 2) (dVar 2)) (dC (.int (2147483587)))) (dgName 2))
    (dsRet (dOp gDiv (dOp gMod (dOp gMul (dPk 2) (dOp gAdd (dPk 2) (dC (.int (48271))))) (dC (.int (2147483579)))) (dC (.int (5)))))))
def p__law_number : List W → Option W := bodyD 2 4
    (dsSeq (dsAsg (dOp gMod (dOp gDiv (dPk 1) (dC (.int (5)))) (dC (.int (4)))) (dgName 2))
    (dsSeq (dsAsg (dOp gDiv (dPk 1) (dC (.int (20)))) (dgName 3))
    (dsSeq (dsIf (dCmp cEq (dPk 2) (dC (.int (0))))
      (dsRet (dOp gSub' (dOp gMod (dPk 3) (dC (.int (9)))) (dC (.int (4)))))
      dsNext)
    (dsSeq (dsIf (dCmp cEq (dPk 2) (dC (.int (1))))
      (dsRet (dOp gSub' (dC (.int (2147483647))) (dOp gMod (dPk 3) (dC (.int (3))))))
      dsNext)
    (dsSeq (dsIf (dCmp cEq (dPk 2) (dC (.int (2))))
      (dsRet (dOp gSub' (dOp gMod (dPk 3) (dC (.int (3)))) (dC (.int (2147483648)))))
      dsNext)
    (dsRet (dOp gSub' (dOp gMod (dOp gAdd (dPk 0) (dOp gMul (dPk 3) (dC (.int (1009))))) (dC (.int (4294967296)))) (dC (.int (2147483648))))))))))
def b__law_row_1 : DS → Option Out := (dsSeq (dsAsg (dCall p__law_mixed (dCons (dVar 4) (dCons (dOp gAdd (dPk 1) (dVar 3)) dNil))) (dgName 5))
    (dsIf (dCmp cEq (dOp gMod (dPk 5) (dC (.int (5)))) (dC (.int (4))))
      (dsAppend 2 (dC .none))
      (dsAppend 2 (dCall p__law_number (dCons (dVar 4) (dCons (dVar 5) dNil))))))
def p__law_row : List W → Option W := bodyD 2 6
    (dsSeq (dsOwn 2 (dLst dNil))
    (dsSeq (dsFor (dEnum (dCons (dVar 0) dNil)) (dgTup 2 (dgCons (dgName 3) (dgCons (dgName 4) dgNil))) b__law_row_1)
    (dsSeq (dsIf (dCmp cEq (dC1 gLen (dOwn (dComp [none] (dSeqOf (dPk 2)) (dgName 0) (dCmp cNotN (dPk 0) (dC .none)) (dVar 0)))) (dC (.int (0))))
      (dsSetI 2 (dC (.int (0))) (dCall p__law_number (dCons (dOp gIx (dPk 0) (dC (.int (0)))) (dCons (dCall p__law_mixed (dCons (dOp gIx (dPk 0) (dC (.int (0)))) (dCons (dVar 1) dNil))) dNil))))
      dsNext)
    (dsFrz 2 (dsRet (dVar 2))))))
def b__law_holds_1 : DS → Option Out := (dsSeq (dsAsg (dOp gAdd (dPk 4) (dVar 7)) (dgName 4))
    (dsSeq (dsIf (dCmp cGt (dPk 7) (dPk 5))
      (dsAsg (dVar 7) (dgName 5))
      dsNext)
    (dsIf (dCmp cLt (dPk 7) (dPk 6))
      (dsAsg (dVar 7) (dgName 6))
      dsNext)))
def b__law_holds_2 : DS → Option Out := (dsIf (dNot (dTru (dCall p__law_same (dCons (dCall p_joined (dCons (dVar 11) (dCons (dVar 0) (dCons (dVar 9) dNil)))) (dCons (dVar 7) dNil)))))
      (dsRet (dC (.bool false)))
      dsNext)
def b__law_holds_3 : DS → Option Out := (dsIf (dCmp cNotN (dOp gIx (dPk 2) (dVar 9)) (dC .none))
      (dsSeq (dsAsg (dOwn (dLst (dCons (dTup (dCons (dC (.str (Str.ofString "sum"))) (dCons (dCall p__law_into_range (dCons (dVar 4) dNil)) dNil))) (dCons (dTup (dCons (dC (.str (Str.ofString "most"))) (dCons (dVar 5) dNil))) (dCons (dTup (dCons (dC (.str (Str.ofString "least"))) (dCons (dVar 6) dNil))) (dCons (dTup (dCons (dC (.str (Str.ofString "ahead"))) (dCons (dCall p__law_into_range (dCons (dVar 8) dNil)) dNil))) dNil)))))) (dgName 10))
    (dsSeq (dsFor (dSeqOf (dOp gAdd (dOwn (dSlL (dPk 10) (dPart (dVar 1)) dNoPart)) (dOwn (dSlL (dPk 10) dNoPart (dPart (dVar 1)))))) (dgTup 2 (dgCons (dgName 11) (dgCons (dgName 7) dgNil))) b__law_holds_2)
    (dsAsg (dOp gAdd (dPk 8) (dOp gIx (dPk 2) (dVar 9))) (dgName 8))))
      dsNext)
def p__law_holds : List W → Option W := bodyD 2 12
    (dsSeq (dsAsg (dOwn (dListOf (dPk 0))) (dgName 2))
    (dsSeq (dsAsg (dOwn (dComp [none] (dSeqOf (dPk 2)) (dgName 0) (dCmp cNotN (dPk 0) (dC .none)) (dVar 0))) (dgName 3))
    (dsSeq (dsAsg (dC (.int (0))) (dgName 4))
    (dsSeq (dsAsg (dOp gIx (dPk 3) (dC (.int (0)))) (dgName 5))
    (dsSeq (dsAsg (dOp gIx (dPk 3) (dC (.int (0)))) (dgName 6))
    (dsSeq (dsFor (dSeqOf (dVar 3)) (dgName 7) b__law_holds_1)
    (dsSeq (dsAsg (dC (.int (0))) (dgName 8))
    (dsSeq (dsFor (dRng1 (dCons (dC1 gLen (dPk 2)) dNil)) (dgName 9) b__law_holds_3)
    (dsRet (dB (dCmp cEq (dPk 0) (dPk 2))))))))))))
def b_law_1 : DS → Option Out := (dsSeq (dsAsg (dCall p__law_row (dCons (dOwn (dSlL (dPk 2) (dPart (dVar 3)) (dPart (dOp gAdd (dPk 3) (dVar 1))))) (dCons (dVar 3) dNil))) (dgName 4))
    (dsIf (dNot (dTru (dCall p__law_holds (dCons (dVar 4) (dCons (dOp gMod (dOp gIx (dPk 2) (dVar 3)) (dC (.int (4)))) dNil)))))
      (dsRet (dC (.bool false)))
      dsNext))
def p_law : List W → Option W := bodyD 1 5
    (dsSeq (dsAsg (dOp gAdd (dC (.int (1))) (dOp gMod (dCall p__law_cell (dCons (dVar 0) (dCons (dC (.int (0))) dNil))) (dC (.int (8))))) (dgName 1))
    (dsSeq (dsAsg (dOp gAdd (dOwn (dSlL (dPk 0) (dPart (dC (.int (1)))) (dPart (dC (.int (97)))))) (dOwn (dLst (dCons (dC (.int (7))) dNil)))) (dgName 2))
    (dsSeq (dsFor (dRng3 (dCons (dC (.int (0))) (dCons (dC1 gLen (dPk 2)) (dCons (dVar 1) dNil)))) (dgName 3) b_law_1)
    (dsRet (dC (.bool true))))))
def sp_law (K : PySem.W.Frag) : Sp := fun vs H Q _ => ∃ (a : Addr) (ns : List Int), vs = [.ref a] ∧ SqL K H a (ns.map V.int) ∧ ns.length ≤ 63 ∧ ∀ H', Q (.bl true) H'
theorem sc_wrapped : FnScope ["n"] ["n"] (defScope s_wrapped) := ⟨rfl, rfl, rfl, by decide +kernel, rfl, by decide +kernel, by decide +kernel⟩
section
variable {P : Program} {w : World} {K : PySem.W.Frag} {mg : Str → Option Value} {base : Heap}
set_option maxHeartbeats 4000000 in
theorem ok_wrapped {f : Addr} {fd : FuncData} (F : Fun K "wrapped" "wrapped" s_wrapped f fd) {t_LEAST : Tok} (m_LEAST : mg "LEAST" = some (.int (-2147483648) t_LEAST)) (g_LEAST : ∀ ρ G, Dw K ρ G (.int (-2147483648)) ((.int (-2147483648)))) {t_SPAN : Tok} (m_SPAN : mg "SPAN" = some (.int 4294967296 t_SPAN)) (g_SPAN : ∀ ρ G, Dw K ρ G (.int 4294967296) ((.int 4294967296))) : FnOk P w K mg base CX0 1 f fd ["n"] (spD K p_wrapped) := by
  refine F.ok sc_wrapped (fun vs H Q E h => spD_len (fun ds d e => bodyD_len e) h) (fun cdv A outer s H vs Q E hr h => ?_)
  refine ⟨_, (@pss_one _ _ _ (@ps_ret _ _ _ _ (@pe_op _ _ _ _ _ _ _ _ (op_addA (K := K) rfl) (@pe_op _ _ _ _ _ _ _ _ op_modM (@pe_op _ _ _ _ _ _ _ _ op_sub (pv 0) (pe_glob (v := .int (-2147483648)) rfl m_LEAST ⟨_, rfl⟩)) (pe_glob (v := .int 4294967296) rfl m_SPAN ⟨_, rfl⟩)) (pe_glob (v := .int (-2147483648)) rfl m_LEAST ⟨_, rfl⟩)))), ?_⟩
  exact d_fn (n := 1) rfl (fun ρ => (ds_ret (de_op dr_add (DE.dk (de_op dr_mod (DE.dk (de_op dr_sub (dk_var (i := 0)) (de_c (d := (.int (-2147483648))) (g_LEAST ρ)))) (de_c (d := (.int 4294967296)) (g_SPAN ρ)))) (de_c (d := (.int (-2147483648))) (g_LEAST ρ))))) h
end
theorem sc_joined : FnScope ["word", "brought", "lane", "numbers"] ["word", "brought", "lane"] (defScope s_joined) := ⟨rfl, rfl, rfl, by decide +kernel, rfl, by decide +kernel, by decide +kernel⟩
section
variable {P : Program} {w : World} {K : PySem.W.Frag} {mg : Str → Option Value} {base : Heap}
set_option maxHeartbeats 4000000 in
theorem ok_joined {f : Addr} {fd : FuncData} (F : Fun K "joined" "joined" s_joined f fd) {f_wrapped : Addr} {fd_wrapped : FuncData} (d_wrapped : Df K mg "wrapped" s_wrapped ["n"] f_wrapped fd_wrapped) (G_wrapped : FnOk P w K mg base CX0 1 f_wrapped fd_wrapped ["n"] (spD K p_wrapped)) (z_sum : mg "sum" = none) (z_max : mg "max" = none) (z_min : mg "min" = none) : FnOk P w K mg base CX0 2 f fd ["word", "brought", "lane"] (spD K p_joined) := by
  refine F.ok sc_joined (fun vs H Q E h => spD_len (fun ds d e => bodyD_len e) h) (fun cdv A outer s H vs Q E hr h => ?_)
  refine ⟨_, (@pss_cons _ _ _ _ _ (ps_setC (i := 3) sc_joined.nd rfl (Or.inl rfl) (N := ["number"]) (ix := [none]) (comp_scope rfl (by decide +kernel) (by decide +kernel) (by rfl) rfl (by decide +kernel) (by rfl)) rfl (pi_seqK (K := K) rfl (pv 1)) (gfree_name rfl) fun _ _ _ _ => ⟨(pg_name (i := 0) (show List.Nodup [Str.ofString "number"] by decide +kernel) rfl (Or.inl rfl) (.inr rfl)), (pifs_one (pt_cmpR op_notN (pv 0) pe_non (nomark _))), (pv 0)⟩)
    (@pss_cons _ _ _ _ _ (@ps_if _ _ _ _ _ _ _ _ (pt_cmpR (op_eqA (K := K) rfl hr.units) (pv 0) pe_str (nomark _))
      (@pss_one _ _ _ (@ps_ret _ _ _ _ (pe_call (G_wrapped.mono (by decide)) hr rfl d_wrapped.m d_wrapped.fn.kp d_wrapped.b .nil pass0 (@pa_cons _ _ _ _ _ (pe_callB (call_sumL (K := K) rfl rfl) rfl z_sum PyProof.Rows.boot_sum (@pa_cons _ _ _ _ _ (pv 3) pa_nil (by rfl))) pa_nil (by rfl)))))
      pss_nil)
    (@pss_cons _ _ _ _ _ (@ps_if _ _ _ _ _ _ _ _ (pt_cmpR (op_eqA (K := K) rfl hr.units) (pv 0) pe_str (nomark _))
      (@pss_one _ _ _ (@ps_ret _ _ _ _ (pe_callB (call_maxL (K := K) rfl rfl) rfl z_max PyProof.Rows.boot_max (@pa_cons _ _ _ _ _ (pv 3) pa_nil (by rfl)))))
      pss_nil)
    (@pss_cons _ _ _ _ _ (@ps_if _ _ _ _ _ _ _ _ (pt_cmpR (op_eqA (K := K) rfl hr.units) (pv 0) pe_str (nomark _))
      (@pss_one _ _ _ (@ps_ret _ _ _ _ (pe_callB (call_minL (K := K) rfl rfl) rfl z_min PyProof.Rows.boot_min (@pa_cons _ _ _ _ _ (pv 3) pa_nil (by rfl)))))
      pss_nil)
    (@pss_one _ _ _ (@ps_ret _ _ _ _ (pe_call (G_wrapped.mono (by decide)) hr rfl d_wrapped.m d_wrapped.fn.kp d_wrapped.b .nil pass0 (@pa_cons _ _ _ _ _ (pe_callB (call_sumL (K := K) rfl rfl) rfl z_sum PyProof.Rows.boot_sum (@pa_cons _ _ _ _ _ (pe_comp (N := ["number"]) (ix := [none]) (comp_scope rfl (by decide +kernel) (by decide +kernel) (by rfl) rfl (by decide +kernel) (by rfl)) rfl (pi_seqK (K := K) rfl (pe_slice (sl_listN (K := K) rfl) (pv 1) po_none (po_some (pv 2)))) (gfree_name rfl) fun _ _ _ _ => ⟨(pg_name (i := 0) (show List.Nodup [Str.ofString "number"] by decide +kernel) rfl (Or.inl rfl) (.inr rfl)), (pifs_one (pt_cmpR op_notN (pv 0) pe_non (nomark _))), (pv 0)⟩) pa_nil (by rfl))) pa_nil (by rfl))))))))), ?_⟩
  exact d_fn (n := 4) rfl (fun ρ => (ds_seq (ds_asg (DO.de (do_comp (ix := [none]) (by decide) (dik_seq (dk_var (i := 1))) dg_name (dt_cmp db_notN (dk_var (i := 0)) (DE.dk de_non)) (de_var (i := 0)))) dg_name)
    (ds_seq (ds_if (dt_cmp db_eq (dk_var (i := 0)) (DE.dk de_str))
      (ds_ret (de_call (da_cons (de_c1 dc_sum (dk_var (i := 3))) da_nil)))
      ds_next)
    (ds_seq (ds_if (dt_cmp db_eq (dk_var (i := 0)) (DE.dk de_str))
      (ds_ret (de_c1 dc_max (dk_var (i := 3))))
      ds_next)
    (ds_seq (ds_if (dt_cmp db_eq (dk_var (i := 0)) (DE.dk de_str))
      (ds_ret (de_c1 dc_min (dk_var (i := 3))))
      ds_next)
    (ds_ret (de_call (da_cons (de_c1 dc_sum (DE.dk (DO.de (do_comp (ix := [none]) (by decide) (dik_seq (DE.dk (DO.de (do_slL (dk_var (i := 1)) dop_none (dop_some (de_var (i := 2))))))) dg_name (dt_cmp db_notN (dk_var (i := 0)) (DE.dk de_non)) (de_var (i := 0)))))) da_nil)))))))) h
end
theorem sc__law_cell : FnScope ["_law_script", "_law_k"] ["_law_script", "_law_k"] (defScope s__law_cell) := ⟨rfl, rfl, rfl, by decide +kernel, rfl, by decide +kernel, by decide +kernel⟩
section
variable {P : Program} {w : World} {K : PySem.W.Frag} {mg : Str → Option Value} {base : Heap}
set_option maxHeartbeats 4000000 in
theorem ok__law_cell {f : Addr} {fd : FuncData} (F : Fun K "_law_cell" "_law_cell" s__law_cell f fd) (z_len : mg "len" = none) : FnOk P w K mg base CX0 1 f fd ["_law_script", "_law_k"] (spD K p__law_cell) := by
  refine F.ok sc__law_cell (fun vs H Q E h => spD_len (fun ds d e => bodyD_len e) h) (fun cdv A outer s H vs Q E hr h => ?_)
  refine ⟨_, (@pss_cons _ _ _ _ _ (@ps_if _ _ _ _ _ _ _ _ (pt_cmpR op_lt (pv 1) (pe_callB (call_lenA (K := K) rfl) rfl z_len PySem.boot_len (@pa_cons _ _ _ _ _ (pv 0) pa_nil (by rfl))) (nomark _))
      (@pss_one _ _ _ (@ps_ret _ _ _ _ (pe_ix (ix_seqK (K := K) rfl) (pv 0) (pv 1) (fun _ _ => rfl))))
      pss_nil)
    (@pss_one _ _ _ (@ps_ret _ _ _ _ pe_int))), ?_⟩
  exact d_fn (n := 2) rfl (fun ρ => (ds_seq (ds_if (dt_cmp db_lt (dk_var (i := 1)) (DE.dk (de_c1 dc_len (dk_var (i := 0)))))
      (ds_ret (de_op dr_ix (dk_var (i := 0)) (de_var (i := 1))))
      ds_next)
    (ds_ret de_int))) h
end
theorem sc__law_same : FnScope ["_law_found", "_law_number_here"] ["_law_found", "_law_number_here"] (defScope s__law_same) := ⟨rfl, rfl, rfl, by decide +kernel, rfl, by decide +kernel, by decide +kernel⟩
section
variable {P : Program} {w : World} {K : PySem.W.Frag} {mg : Str → Option Value} {base : Heap}
set_option maxHeartbeats 4000000 in
theorem ok__law_same {f : Addr} {fd : FuncData} (F : Fun K "_law_same" "_law_same" s__law_same f fd) (z_isinstance : mg "isinstance" = none) (z_bool : mg "bool" = none) (z_int : mg "int" = none) : FnOk P w K mg base CX0 1 f fd ["_law_found", "_law_number_here"] (spD K p__law_same) := by
  refine F.ok sc__law_same (fun vs H Q E h => spD_len (fun ds d e => bodyD_len e) h) (fun cdv A outer s H vs Q E hr h => ?_)
  refine ⟨_, (@pss_one _ _ _ (@ps_ret _ _ _ _ (pe_and (pe_callB call_isiK rfl z_isinstance boot_isinstance (@pa_cons _ _ _ _ _ (pv 0) (@pa_cons _ _ _ _ _ (pe_bltn (v := .ty "int") rfl z_int boot_int rfl) pa_nil (by rfl)) (by rfl))) (pe_and (pe_not (pe_callB call_isiK rfl z_isinstance boot_isinstance (@pa_cons _ _ _ _ _ (pv 0) (@pa_cons _ _ _ _ _ (pe_bltn (v := .ty "bool") rfl z_bool boot_bool rfl) pa_nil (by rfl)) (by rfl)))) (pe_one (pe_cmpR (op_eqA (K := K) rfl hr.units) (pv 0) (pv 1) (nomark _))))))), ?_⟩
  exact d_fn (n := 2) rfl (fun ρ => (ds_ret (de_and (de_isi (de_var (i := 0))) (de_and (de_not (de_isi (de_var (i := 0)))) (de_cmp db_eq (dk_var (i := 0)) (dk_var (i := 1))))))) h
end
theorem sc__law_into_range : FnScope ["_law_number_here"] ["_law_number_here"] (defScope s__law_into_range) := ⟨rfl, rfl, rfl, by decide +kernel, rfl, by decide +kernel, by decide +kernel⟩
section
variable {P : Program} {w : World} {K : PySem.W.Frag} {mg : Str → Option Value} {base : Heap}
set_option maxHeartbeats 4000000 in
theorem ok__law_into_range {f : Addr} {fd : FuncData} (F : Fun K "_law_into_range" "_law_into_range" s__law_into_range f fd) : FnOk P w K mg base CX0 1 f fd ["_law_number_here"] (spD K p__law_into_range) := by
  refine F.ok sc__law_into_range (fun vs H Q E h => spD_len (fun ds d e => bodyD_len e) h) (fun cdv A outer s H vs Q E hr h => ?_)
  refine ⟨_, (@pss_one _ _ _ (@ps_ret _ _ _ _ (@pe_op _ _ _ _ _ _ _ _ op_sub (@pe_op _ _ _ _ _ _ _ _ op_modM (@pe_op _ _ _ _ _ _ _ _ (op_addA (K := K) rfl) (pv 0) pe_int) pe_int) pe_int))), ?_⟩
  exact d_fn (n := 1) rfl (fun ρ => (ds_ret (de_op dr_sub (DE.dk (de_op dr_mod (DE.dk (de_op dr_add (dk_var (i := 0)) de_int)) de_int)) de_int))) h
end
theorem sc__law_mixed : FnScope ["_law_cell_here", "_law_k", "_law_number_here"] ["_law_cell_here", "_law_k"] (defScope s__law_mixed) := ⟨rfl, rfl, rfl, by decide +kernel, rfl, by decide +kernel, by decide +kernel⟩
section
variable {P : Program} {w : World} {K : PySem.W.Frag} {mg : Str → Option Value} {base : Heap}
set_option maxHeartbeats 4000000 in
theorem ok__law_mixed {f : Addr} {fd : FuncData} (F : Fun K "_law_mixed" "_law_mixed" s__law_mixed f fd) : FnOk P w K mg base CX0 1 f fd ["_law_cell_here", "_law_k"] (spD K p__law_mixed) := by
  refine F.ok sc__law_mixed (fun vs H Q E h => spD_len (fun ds d e => bodyD_len e) h) (fun cdv A outer s H vs Q E hr h => ?_)
  refine ⟨_, (@pss_cons _ _ _ _ _ (@ps_set _ _ 2 _ _ _ _ sc__law_mixed.nd rfl (Or.inl rfl) (@pe_op _ _ _ _ _ _ _ _ op_modM (@pe_op _ _ _ _ _ _ _ _ (op_addA (K := K) rfl) (@pe_op _ _ _ _ _ _ _ _ (op_addA (K := K) rfl) (@pe_op _ _ _ _ _ _ _ _ op_modM (pv 0) pe_int) (@pe_op _ _ _ _ _ _ _ _ op_mulM pe_int (pv 1))) pe_int) pe_int) (by rfl) (by first | exact .inl rfl | exact .inr rfl))
    (@pss_cons _ _ _ _ _ (@ps_set _ _ 2 _ _ _ _ sc__law_mixed.nd rfl (Or.inl rfl) (@pe_op _ _ _ _ _ _ _ _ op_modM (@pe_op _ _ _ _ _ _ _ _ op_mulM (pv 2) (pv 2)) pe_int) (by rfl) (by first | exact .inl rfl | exact .inr rfl))
    (@pss_one _ _ _ (@ps_ret _ _ _ _ (@pe_op _ _ _ _ _ _ _ _ op_fdivM (@pe_op _ _ _ _ _ _ _ _ op_modM (@pe_op _ _ _ _ _ _ _ _ op_mulM (pv 2) (@pe_op _ _ _ _ _ _ _ _ (op_addA (K := K) rfl) (pv 2) pe_int)) pe_int) pe_int))))), ?_⟩
  exact d_fn (n := 3) rfl (fun ρ => (ds_seq (ds_asg (de_op dr_mod (DE.dk (de_op dr_add (DE.dk (de_op dr_add (DE.dk (de_op dr_mod (dk_var (i := 0)) de_int)) (de_op dr_mul (DE.dk de_int) (de_var (i := 1))))) de_int)) de_int) dg_name)
    (ds_seq (ds_asg (de_op dr_mod (DE.dk (de_op dr_mul (dk_var (i := 2)) (de_var (i := 2)))) de_int) dg_name)
    (ds_ret (de_op dr_div (DE.dk (de_op dr_mod (DE.dk (de_op dr_mul (dk_var (i := 2)) (de_op dr_add (dk_var (i := 2)) de_int))) de_int)) de_int))))) h
end
theorem sc__law_number : FnScope ["_law_cell_here", "_law_drawn", "_law_way", "_law_more"] ["_law_cell_here", "_law_drawn"] (defScope s__law_number) := ⟨rfl, rfl, rfl, by decide +kernel, rfl, by decide +kernel, by decide +kernel⟩
section
variable {P : Program} {w : World} {K : PySem.W.Frag} {mg : Str → Option Value} {base : Heap}
set_option maxHeartbeats 4000000 in
theorem ok__law_number {f : Addr} {fd : FuncData} (F : Fun K "_law_number" "_law_number" s__law_number f fd) : FnOk P w K mg base CX0 1 f fd ["_law_cell_here", "_law_drawn"] (spD K p__law_number) := by
  refine F.ok sc__law_number (fun vs H Q E h => spD_len (fun ds d e => bodyD_len e) h) (fun cdv A outer s H vs Q E hr h => ?_)
  refine ⟨_, (@pss_cons _ _ _ _ _ (@ps_set _ _ 2 _ _ _ _ sc__law_number.nd rfl (Or.inl rfl) (@pe_op _ _ _ _ _ _ _ _ op_modM (@pe_op _ _ _ _ _ _ _ _ op_fdivM (pv 1) pe_int) pe_int) (by rfl) (by first | exact .inl rfl | exact .inr rfl))
    (@pss_cons _ _ _ _ _ (@ps_set _ _ 3 _ _ _ _ sc__law_number.nd rfl (Or.inl rfl) (@pe_op _ _ _ _ _ _ _ _ op_fdivM (pv 1) pe_int) (by rfl) (by first | exact .inl rfl | exact .inr rfl))
    (@pss_cons _ _ _ _ _ (@ps_if _ _ _ _ _ _ _ _ (pt_cmpR (op_eqA (K := K) rfl hr.units) (pv 2) pe_int (nomark _))
      (@pss_one _ _ _ (@ps_ret _ _ _ _ (@pe_op _ _ _ _ _ _ _ _ op_sub (@pe_op _ _ _ _ _ _ _ _ op_modM (pv 3) pe_int) pe_int)))
      pss_nil)
    (@pss_cons _ _ _ _ _ (@ps_if _ _ _ _ _ _ _ _ (pt_cmpR (op_eqA (K := K) rfl hr.units) (pv 2) pe_int (nomark _))
      (@pss_one _ _ _ (@ps_ret _ _ _ _ (@pe_op _ _ _ _ _ _ _ _ op_sub pe_int (@pe_op _ _ _ _ _ _ _ _ op_modM (pv 3) pe_int))))
      pss_nil)
    (@pss_cons _ _ _ _ _ (@ps_if _ _ _ _ _ _ _ _ (pt_cmpR (op_eqA (K := K) rfl hr.units) (pv 2) pe_int (nomark _))
      (@pss_one _ _ _ (@ps_ret _ _ _ _ (@pe_op _ _ _ _ _ _ _ _ op_sub (@pe_op _ _ _ _ _ _ _ _ op_modM (pv 3) pe_int) pe_int)))
      pss_nil)
    (@pss_one _ _ _ (@ps_ret _ _ _ _ (@pe_op _ _ _ _ _ _ _ _ op_sub (@pe_op _ _ _ _ _ _ _ _ op_modM (@pe_op _ _ _ _ _ _ _ _ (op_addA (K := K) rfl) (pv 0) (@pe_op _ _ _ _ _ _ _ _ op_mulM (pv 3) pe_int)) pe_int) pe_int)))))))), ?_⟩
  exact d_fn (n := 4) rfl (fun ρ => (ds_seq (ds_asg (de_op dr_mod (DE.dk (de_op dr_div (dk_var (i := 1)) de_int)) de_int) dg_name)
    (ds_seq (ds_asg (de_op dr_div (dk_var (i := 1)) de_int) dg_name)
    (ds_seq (ds_if (dt_cmp db_eq (dk_var (i := 2)) (DE.dk de_int))
      (ds_ret (de_op dr_sub (DE.dk (de_op dr_mod (dk_var (i := 3)) de_int)) de_int))
      ds_next)
    (ds_seq (ds_if (dt_cmp db_eq (dk_var (i := 2)) (DE.dk de_int))
      (ds_ret (de_op dr_sub (DE.dk de_int) (de_op dr_mod (dk_var (i := 3)) de_int)))
      ds_next)
    (ds_seq (ds_if (dt_cmp db_eq (dk_var (i := 2)) (DE.dk de_int))
      (ds_ret (de_op dr_sub (DE.dk (de_op dr_mod (dk_var (i := 3)) de_int)) de_int))
      ds_next)
    (ds_ret (de_op dr_sub (DE.dk (de_op dr_mod (DE.dk (de_op dr_add (dk_var (i := 0)) (de_op dr_mul (dk_var (i := 3)) de_int))) de_int)) de_int)))))))) h
end
theorem sc__law_row : FnScope ["_law_cells", "_law_start", "_law_row_here", "_law_k", "_law_cell_here", "_law_drawn"] ["_law_cells", "_law_start"] (defScope s__law_row) := ⟨rfl, rfl, rfl, by decide +kernel, rfl, by decide +kernel, by decide +kernel⟩
section
variable {P : Program} {w : World} {K : PySem.W.Frag} {mg : Str → Option Value} {base : Heap}
set_option maxHeartbeats 4000000 in
theorem ok__law_row {f : Addr} {fd : FuncData} (F : Fun K "_law_row" "_law_row" s__law_row f fd) {f__law_mixed : Addr} {fd__law_mixed : FuncData} (d__law_mixed : Df K mg "_law_mixed" s__law_mixed ["_law_cell_here", "_law_k"] f__law_mixed fd__law_mixed) (G__law_mixed : FnOk P w K mg base CX0 1 f__law_mixed fd__law_mixed ["_law_cell_here", "_law_k"] (spD K p__law_mixed)) {f__law_number : Addr} {fd__law_number : FuncData} (d__law_number : Df K mg "_law_number" s__law_number ["_law_cell_here", "_law_drawn"] f__law_number fd__law_number) (G__law_number : FnOk P w K mg base CX0 1 f__law_number fd__law_number ["_law_cell_here", "_law_drawn"] (spD K p__law_number)) (z_enumerate : mg "enumerate" = none) (z_len : mg "len" = none) : FnOk P w K mg base CX0 2 f fd ["_law_cells", "_law_start"] (spD K p__law_row) := by
  refine F.ok sc__law_row (fun vs H Q E h => spD_len (fun ds d e => bodyD_len e) h) (fun cdv A outer s H vs Q E hr h => ?_)
  refine ⟨_, (@pss_cons _ _ _ _ _ (@ps_set _ _ 2 _ _ _ _ sc__law_row.nd rfl (Or.inl rfl) (@pe_lstN _ _ _ _ pa_nil) (by rfl) (by first | exact .inl rfl | exact .inr rfl))
    (@pss_cons _ _ _ _ _ (@ps_for _ _ _ _ _ _ _ _ PassesOwn.never rfl (pi_enumK (K := K) rfl rfl z_enumerate (@pa_cons _ _ _ _ _ (pv 0) pa_nil (by rfl))) (pg_tupK (K := K) (n := 2) rfl rfl (pgs_cons (pg_name (i := 3) sc__law_row.nd rfl (Or.inl rfl)) (pgs_cons (pg_name (i := 4) sc__law_row.nd rfl (Or.inl rfl)) pgs_nil)))
      (@pss_cons _ _ _ _ _ (@ps_set _ _ 5 _ _ _ _ sc__law_row.nd rfl (Or.inl rfl) (pe_call (G__law_mixed.mono (by decide)) hr rfl d__law_mixed.m d__law_mixed.fn.kp d__law_mixed.b .nil pass0 (@pa_cons _ _ _ _ _ (pv 4) (@pa_cons _ _ _ _ _ (@pe_op _ _ _ _ _ _ _ _ (op_addA (K := K) rfl) (pv 1) (pv 3)) pa_nil (by rfl)) (by rfl))) (by rfl) (by first | exact .inl rfl | exact .inr rfl))
    (@pss_one _ _ _ (@ps_if _ _ _ _ _ _ _ _ (pt_cmpR (op_eqA (K := K) rfl hr.units) (@pe_op _ _ _ _ _ _ _ _ op_modM (pv 5) pe_int) pe_int (nomark _))
      (@pss_one _ _ _ (@ps_expr _ _ _ _ (pe_bmK (K := K) rfl PySem.F.plainAttrs_list PySem.F.slot_list_append PySem.F.type_list_append mt_append (pv 2) (@pa_cons _ _ _ _ _ pe_non pa_nil (by rfl))) (by rfl)))
      (@pss_one _ _ _ (@ps_expr _ _ _ _ (pe_bmK (K := K) rfl PySem.F.plainAttrs_list PySem.F.slot_list_append PySem.F.type_list_append mt_append (pv 2) (@pa_cons _ _ _ _ _ (pe_call (G__law_number.mono (by decide)) hr rfl d__law_number.m d__law_number.fn.kp d__law_number.b .nil pass0 (@pa_cons _ _ _ _ _ (pv 4) (@pa_cons _ _ _ _ _ (pv 5) pa_nil (by rfl)) (by rfl))) pa_nil (by rfl))) (by rfl)))))) (by intro _; rfl))
    (@pss_cons _ _ _ _ _ (@ps_if _ _ _ _ _ _ _ _ (pt_cmpR (op_eqA (K := K) rfl hr.units) (pe_callB (call_lenA (K := K) rfl) rfl z_len PySem.boot_len (@pa_cons _ _ _ _ _ (pe_comp (N := ["_law_number_here"]) (ix := [none]) (comp_scope rfl (by decide +kernel) (by decide +kernel) (by rfl) rfl (by decide +kernel) (by rfl)) rfl (pi_seqK (K := K) rfl (pv 2)) (gfree_name rfl) fun _ _ _ _ => ⟨(pg_name (i := 0) (show List.Nodup [Str.ofString "_law_number_here"] by decide +kernel) rfl (Or.inl rfl) (.inr rfl)), (pifs_one (pt_cmpR op_notN (pv 0) pe_non (nomark _))), (pv 0)⟩) pa_nil (by rfl))) pe_int (nomark _))
      (@pss_one _ _ _ (ps_setI (pe_call (G__law_number.mono (by decide)) hr rfl d__law_number.m d__law_number.fn.kp d__law_number.b .nil pass0 (@pa_cons _ _ _ _ _ (pe_ix (ix_seqK (K := K) rfl) (pv 0) pe_int (fun _ _ => rfl)) (@pa_cons _ _ _ _ _ (pe_call (G__law_mixed.mono (by decide)) hr rfl d__law_mixed.m d__law_mixed.fn.kp d__law_mixed.b .nil pass0 (@pa_cons _ _ _ _ _ (pe_ix (ix_seqK (K := K) rfl) (pv 0) pe_int (fun _ _ => rfl)) (@pa_cons _ _ _ _ _ (pv 1) pa_nil (by rfl)) (by rfl))) pa_nil (by rfl)) (by rfl))) (pv 2) pe_int))
      pss_nil)
    (@pss_one _ _ _ (@ps_ret _ _ _ _ (pv 2)))))), ?_⟩
  exact d_fn (n := 6) rfl (fun ρ => (ds_seq (ds_own (do_lst da_nil))
    (ds_seq (ds_for (di_enum (da_cons (de_var (i := 0)) da_nil)) (dg_tup (n := 2) (dgs_cons dg_name (dgs_cons dg_name dgs_nil)))
      (ds_seq (ds_asg (de_call (da_cons (de_var (i := 4)) (da_cons (de_op dr_add (dk_var (i := 1)) (de_var (i := 3))) da_nil))) dg_name)
    (ds_if (dt_cmp db_eq (DE.dk (de_op dr_mod (dk_var (i := 5)) de_int)) (DE.dk de_int))
      (ds_append de_non)
      (ds_append (de_call (da_cons (de_var (i := 4)) (da_cons (de_var (i := 5)) da_nil)))))))
    (ds_seq (ds_if (dt_cmp db_eq (DE.dk (de_c1 dc_len (DE.dk (DO.de (do_comp (ix := [none]) (by decide) (dik_seq (dk_var (i := 2))) dg_name (dt_cmp db_notN (dk_var (i := 0)) (DE.dk de_non)) (de_var (i := 0))))))) (DE.dk de_int))
      (ds_setI (de_call (da_cons (de_op dr_ix (dk_var (i := 0)) de_int) (da_cons (de_call (da_cons (de_op dr_ix (dk_var (i := 0)) de_int) (da_cons (de_var (i := 1)) da_nil))) da_nil))) de_int)
      ds_next)
    (ds_frz (i := 2) (ds_ret (de_var (i := 2)))))))) h
end
theorem sc__law_holds : FnScope ["_law_row_here", "_law_turned", "_law_kept", "_law_there", "_law_total", "_law_high", "_law_low", "_law_number_here", "_law_ahead", "_law_lane", "_law_asked", "_law_word"] ["_law_row_here", "_law_turned"] (defScope s__law_holds) := ⟨rfl, rfl, rfl, by decide +kernel, rfl, by decide +kernel, by decide +kernel⟩
section
variable {P : Program} {w : World} {K : PySem.W.Frag} {mg : Str → Option Value} {base : Heap}
set_option maxHeartbeats 4000000 in
theorem ok__law_holds {f : Addr} {fd : FuncData} (F : Fun K "_law_holds" "_law_holds" s__law_holds f fd) {f__law_into_range : Addr} {fd__law_into_range : FuncData} (d__law_into_range : Df K mg "_law_into_range" s__law_into_range ["_law_number_here"] f__law_into_range fd__law_into_range) (G__law_into_range : FnOk P w K mg base CX0 1 f__law_into_range fd__law_into_range ["_law_number_here"] (spD K p__law_into_range)) {f__law_same : Addr} {fd__law_same : FuncData} (d__law_same : Df K mg "_law_same" s__law_same ["_law_found", "_law_number_here"] f__law_same fd__law_same) (G__law_same : FnOk P w K mg base CX0 1 f__law_same fd__law_same ["_law_found", "_law_number_here"] (spD K p__law_same)) {f_joined : Addr} {fd_joined : FuncData} (d_joined : Df K mg "joined" s_joined ["word", "brought", "lane"] f_joined fd_joined) (G_joined : FnOk P w K mg base CX0 2 f_joined fd_joined ["word", "brought", "lane"] (spD K p_joined)) (z_list : mg "list" = none) (z_range : mg "range" = none) (z_len : mg "len" = none) : FnOk P w K mg base CX0 3 f fd ["_law_row_here", "_law_turned"] (spD K p__law_holds) := by
  refine F.ok sc__law_holds (fun vs H Q E h => spD_len (fun ds d e => bodyD_len e) h) (fun cdv A outer s H vs Q E hr h => ?_)
  refine ⟨_, (@pss_cons _ _ _ _ _ (@ps_set _ _ 2 _ _ _ _ sc__law_holds.nd rfl (Or.inl rfl) (pe_callTy (call_list_ofK (K := K) rfl) rfl z_list boot_list (@pa_cons _ _ _ _ _ (pv 0) pa_nil (by rfl))) (by rfl) (by first | exact .inl rfl | exact .inr rfl))
    (@pss_cons _ _ _ _ _ (ps_setC (i := 3) sc__law_holds.nd rfl (Or.inl rfl) (N := ["_law_number_here"]) (ix := [none]) (comp_scope rfl (by decide +kernel) (by decide +kernel) (by rfl) rfl (by decide +kernel) (by rfl)) rfl (pi_seqK (K := K) rfl (pv 2)) (gfree_name rfl) fun _ _ _ _ => ⟨(pg_name (i := 0) (show List.Nodup [Str.ofString "_law_number_here"] by decide +kernel) rfl (Or.inl rfl) (.inr rfl)), (pifs_one (pt_cmpR op_notN (pv 0) pe_non (nomark _))), (pv 0)⟩)
    (@pss_cons _ _ _ _ _ (@ps_set _ _ 4 _ _ _ _ sc__law_holds.nd rfl (Or.inl rfl) pe_int (by rfl) (by first | exact .inl rfl | exact .inr rfl))
    (@pss_cons _ _ _ _ _ (@ps_set _ _ 5 _ _ _ _ sc__law_holds.nd rfl (Or.inl rfl) (pe_ix (ix_seqK (K := K) rfl) (pv 3) pe_int (fun _ _ => rfl)) (by rfl) (by first | exact .inl rfl | exact .inr rfl))
    (@pss_cons _ _ _ _ _ (@ps_set _ _ 6 _ _ _ _ sc__law_holds.nd rfl (Or.inl rfl) (pe_ix (ix_seqK (K := K) rfl) (pv 3) pe_int (fun _ _ => rfl)) (by rfl) (by first | exact .inl rfl | exact .inr rfl))
    (@pss_cons _ _ _ _ _ (@ps_for _ _ _ _ _ _ _ _ PassesOwn.never rfl (pi_seqK (K := K) rfl (pv 3)) (pg_name (i := 7) sc__law_holds.nd rfl (Or.inl rfl))
      (@pss_cons _ _ _ _ _ (@ps_set _ _ 4 _ _ _ _ sc__law_holds.nd rfl (Or.inl rfl) (@pe_op _ _ _ _ _ _ _ _ (op_addA (K := K) rfl) (pv 4) (pv 7)) (by rfl) (by first | exact .inl rfl | exact .inr rfl))
    (@pss_cons _ _ _ _ _ (@ps_if _ _ _ _ _ _ _ _ (pt_cmpR op_gt (pv 7) (pv 5) (nomark _))
      (@pss_one _ _ _ (@ps_set _ _ 5 _ _ _ _ sc__law_holds.nd rfl (Or.inl rfl) (pv 7) (by rfl) (by first | exact .inl rfl | exact .inr rfl)))
      pss_nil)
    (@pss_one _ _ _ (@ps_if _ _ _ _ _ _ _ _ (pt_cmpR op_lt (pv 7) (pv 6) (nomark _))
      (@pss_one _ _ _ (@ps_set _ _ 6 _ _ _ _ sc__law_holds.nd rfl (Or.inl rfl) (pv 7) (by rfl) (by first | exact .inl rfl | exact .inr rfl)))
      pss_nil)))) (by intro _; rfl))
    (@pss_cons _ _ _ _ _ (@ps_set _ _ 8 _ _ _ _ sc__law_holds.nd rfl (Or.inl rfl) pe_int (by rfl) (by first | exact .inl rfl | exact .inr rfl))
    (@pss_cons _ _ _ _ _ (@ps_for _ _ _ _ _ _ _ _ PassesOwn.never rfl (pi_range1 rfl z_range (@pa_cons _ _ _ _ _ (pe_callB (call_lenA (K := K) rfl) rfl z_len PySem.boot_len (@pa_cons _ _ _ _ _ (pv 2) pa_nil (by rfl))) pa_nil (by rfl))) (pg_name (i := 9) sc__law_holds.nd rfl (Or.inl rfl))
      (@pss_one _ _ _ (@ps_if _ _ _ _ _ _ _ _ (pt_cmpR op_notN (pe_ix (ix_seqK (K := K) rfl) (pv 2) (pv 9) (fun _ _ => rfl)) pe_non (nomark _))
      (@pss_cons _ _ _ _ _ (@ps_set _ _ 10 _ _ _ _ sc__law_holds.nd rfl (Or.inl rfl) (@pe_lstN _ _ _ _ (@pa_cons _ _ _ _ _ (@pe_tupN _ _ _ _ _ (@pa_cons _ _ _ _ _ pe_str (@pa_cons _ _ _ _ _ (pe_call (G__law_into_range.mono (by decide)) hr rfl d__law_into_range.m d__law_into_range.fn.kp d__law_into_range.b .nil pass0 (@pa_cons _ _ _ _ _ (pv 4) pa_nil (by rfl))) pa_nil (by rfl)) (by rfl))) (@pa_cons _ _ _ _ _ (@pe_tupN _ _ _ _ _ (@pa_cons _ _ _ _ _ pe_str (@pa_cons _ _ _ _ _ (pv 5) pa_nil (by rfl)) (by rfl))) (@pa_cons _ _ _ _ _ (@pe_tupN _ _ _ _ _ (@pa_cons _ _ _ _ _ pe_str (@pa_cons _ _ _ _ _ (pv 6) pa_nil (by rfl)) (by rfl))) (@pa_cons _ _ _ _ _ (@pe_tupN _ _ _ _ _ (@pa_cons _ _ _ _ _ pe_str (@pa_cons _ _ _ _ _ (pe_call (G__law_into_range.mono (by decide)) hr rfl d__law_into_range.m d__law_into_range.fn.kp d__law_into_range.b .nil pass0 (@pa_cons _ _ _ _ _ (pv 8) pa_nil (by rfl))) pa_nil (by rfl)) (by rfl))) pa_nil (by rfl)) (by rfl)) (by rfl)) (by rfl))) (by rfl) (by first | exact .inl rfl | exact .inr rfl))
    (@pss_cons _ _ _ _ _ (@ps_for _ _ _ _ _ _ _ _ PassesOwn.never rfl (pi_seqK (K := K) rfl (@pe_op _ _ _ _ _ _ _ _ (op_addA (K := K) rfl) (pe_slice (sl_listN (K := K) rfl) (pv 10) (po_some (pv 1)) po_none) (pe_slice (sl_listN (K := K) rfl) (pv 10) po_none (po_some (pv 1))))) (pg_tupK (K := K) (n := 2) rfl rfl (pgs_cons (pg_name (i := 11) sc__law_holds.nd rfl (Or.inl rfl)) (pgs_cons (pg_name (i := 7) sc__law_holds.nd rfl (Or.inl rfl)) pgs_nil)))
      (@pss_one _ _ _ (@ps_if _ _ _ _ _ _ _ _ (pt_not (pt_val (pe_call (G__law_same.mono (by decide)) hr rfl d__law_same.m d__law_same.fn.kp d__law_same.b .nil pass0 (@pa_cons _ _ _ _ _ (pe_call (G_joined.mono (by decide)) hr rfl d_joined.m d_joined.fn.kp d_joined.b .nil pass0 (@pa_cons _ _ _ _ _ (pv 11) (@pa_cons _ _ _ _ _ (pv 0) (@pa_cons _ _ _ _ _ (pv 9) pa_nil (by rfl)) (by rfl)) (by rfl))) (@pa_cons _ _ _ _ _ (pv 7) pa_nil (by rfl)) (by rfl)))))
      (@pss_one _ _ _ (@ps_ret _ _ _ _ pe_bl))
      pss_nil)) (by intro _; rfl))
    (@pss_one _ _ _ (@ps_set _ _ 8 _ _ _ _ sc__law_holds.nd rfl (Or.inl rfl) (@pe_op _ _ _ _ _ _ _ _ (op_addA (K := K) rfl) (pv 8) (pe_ix (ix_seqK (K := K) rfl) (pv 2) (pv 9) (fun _ _ => rfl))) (by rfl) (by first | exact .inl rfl | exact .inr rfl)))))
      pss_nil)) (by intro _; rfl))
    (@pss_one _ _ _ (@ps_ret _ _ _ _ (pe_cmpR (op_eqA (K := K) rfl hr.units) (pv 0) (pv 2) (nomark _)))))))))))), ?_⟩
  exact d_fn (n := 12) rfl (fun ρ => (ds_seq (ds_asg (DO.de (do_list (dk_var (i := 0)))) dg_name)
    (ds_seq (ds_asg (DO.de (do_comp (ix := [none]) (by decide) (dik_seq (dk_var (i := 2))) dg_name (dt_cmp db_notN (dk_var (i := 0)) (DE.dk de_non)) (de_var (i := 0)))) dg_name)
    (ds_seq (ds_asg de_int dg_name)
    (ds_seq (ds_asg (de_op dr_ix (dk_var (i := 3)) de_int) dg_name)
    (ds_seq (ds_asg (de_op dr_ix (dk_var (i := 3)) de_int) dg_name)
    (ds_seq (ds_for (di_seq (de_var (i := 3))) dg_name
      (ds_seq (ds_asg (de_op dr_add (dk_var (i := 4)) (de_var (i := 7))) dg_name)
    (ds_seq (ds_if (dt_cmp db_gt (dk_var (i := 7)) (dk_var (i := 5)))
      (ds_asg (de_var (i := 7)) dg_name)
      ds_next)
    (ds_if (dt_cmp db_lt (dk_var (i := 7)) (dk_var (i := 6)))
      (ds_asg (de_var (i := 7)) dg_name)
      ds_next))))
    (ds_seq (ds_asg de_int dg_name)
    (ds_seq (ds_for (di_rng1 (da_cons (de_c1 dc_len (dk_var (i := 2))) da_nil)) dg_name
      (ds_if (dt_cmp db_notN (DE.dk (de_op dr_ix (dk_var (i := 2)) (de_var (i := 9)))) (DE.dk de_non))
      (ds_seq (ds_asg (DO.de (do_lst (da_cons (de_tup (da_cons de_str (da_cons (de_call (da_cons (de_var (i := 4)) da_nil)) da_nil))) (da_cons (de_tup (da_cons de_str (da_cons (de_var (i := 5)) da_nil))) (da_cons (de_tup (da_cons de_str (da_cons (de_var (i := 6)) da_nil))) (da_cons (de_tup (da_cons de_str (da_cons (de_call (da_cons (de_var (i := 8)) da_nil)) da_nil))) da_nil)))))) dg_name)
    (ds_seq (ds_for (di_seq (de_op dr_add (DE.dk (DO.de (do_slL (dk_var (i := 10)) (dop_some (de_var (i := 1))) dop_none))) (DO.de (do_slL (dk_var (i := 10)) dop_none (dop_some (de_var (i := 1))))))) (dg_tup (n := 2) (dgs_cons dg_name (dgs_cons dg_name dgs_nil)))
      (ds_if (dt_not (dt_val (de_call (da_cons (de_call (da_cons (de_var (i := 11)) (da_cons (de_var (i := 0)) (da_cons (de_var (i := 9)) da_nil)))) (da_cons (de_var (i := 7)) da_nil)))))
      (ds_ret de_bl)
      ds_next))
    (ds_asg (de_op dr_add (dk_var (i := 8)) (de_op dr_ix (dk_var (i := 2)) (de_var (i := 9)))) dg_name)))
      ds_next))
    (ds_ret (de_cmp db_eq (dk_var (i := 0)) (dk_var (i := 2))))))))))))) h
end
theorem sc_law : FnScope ["_law_script", "_law_wide", "_law_cells", "_law_start", "_law_row_here"] ["_law_script"] (defScope s_law) := ⟨rfl, rfl, rfl, by decide +kernel, rfl, by decide +kernel, by decide +kernel⟩
section
variable {P : Program} {w : World} {K : PySem.W.Frag} {mg : Str → Option Value} {base : Heap}
set_option maxHeartbeats 4000000 in
theorem ok_law (hlaw : ∀ ns : List Int, ns.length ≤ 63 → p_law [.list (ns.map .int)] = some (.bool true)) {f : Addr} {fd : FuncData} (F : Fun K "law" "law" s_law f fd) {f__law_cell : Addr} {fd__law_cell : FuncData} (d__law_cell : Df K mg "_law_cell" s__law_cell ["_law_script", "_law_k"] f__law_cell fd__law_cell) (G__law_cell : FnOk P w K mg base CX0 1 f__law_cell fd__law_cell ["_law_script", "_law_k"] (spD K p__law_cell)) {f__law_row : Addr} {fd__law_row : FuncData} (d__law_row : Df K mg "_law_row" s__law_row ["_law_cells", "_law_start"] f__law_row fd__law_row) (G__law_row : FnOk P w K mg base CX0 2 f__law_row fd__law_row ["_law_cells", "_law_start"] (spD K p__law_row)) {f__law_holds : Addr} {fd__law_holds : FuncData} (d__law_holds : Df K mg "_law_holds" s__law_holds ["_law_row_here", "_law_turned"] f__law_holds fd__law_holds) (G__law_holds : FnOk P w K mg base CX0 3 f__law_holds fd__law_holds ["_law_row_here", "_law_turned"] (spD K p__law_holds)) (z_range : mg "range" = none) (z_len : mg "len" = none) : FnOk P w K mg base CX0 4 f fd ["_law_script"] (sp_law K) := by
  refine F.ok sc_law (fun vs H Q E h => ?_) (fun cdv A outer s H vs Q E hr h => ?_)
  · obtain ⟨a, ns, rfl, _⟩ := h
    rfl
  obtain ⟨a, ns, rfl, hS, h63, q⟩ := h
  refine ⟨_, (@pss_cons _ _ _ _ _ (@ps_set _ _ 1 _ _ _ _ sc_law.nd rfl (Or.inl rfl) (@pe_op _ _ _ _ _ _ _ _ (op_addA (K := K) rfl) pe_int (@pe_op _ _ _ _ _ _ _ _ op_modM (pe_call (G__law_cell.mono (by decide)) hr rfl d__law_cell.m d__law_cell.fn.kp d__law_cell.b .nil pass0 (@pa_cons _ _ _ _ _ (pv 0) (@pa_cons _ _ _ _ _ pe_int pa_nil (by rfl)) (by rfl))) pe_int)) (by rfl) (by first | exact .inl rfl | exact .inr rfl))
    (@pss_cons _ _ _ _ _ (@ps_set _ _ 2 _ _ _ _ sc_law.nd rfl (Or.inl rfl) (@pe_op _ _ _ _ _ _ _ _ (op_addA (K := K) rfl) (pe_slice (sl_listN (K := K) rfl) (pv 0) (po_some pe_int) (po_some pe_int)) (@pe_lstN _ _ _ _ (@pa_cons _ _ _ _ _ pe_int pa_nil (by rfl)))) (by rfl) (by first | exact .inl rfl | exact .inr rfl))
    (@pss_cons _ _ _ _ _ (@ps_for _ _ _ _ _ _ _ _ PassesOwn.never rfl (pi_range3 rfl z_range (@pa_cons _ _ _ _ _ pe_int (@pa_cons _ _ _ _ _ (pe_callB (call_lenA (K := K) rfl) rfl z_len PySem.boot_len (@pa_cons _ _ _ _ _ (pv 2) pa_nil (by rfl))) (@pa_cons _ _ _ _ _ (pv 1) pa_nil (by rfl)) (by rfl)) (by rfl))) (pg_name (i := 3) sc_law.nd rfl (Or.inl rfl))
      (@pss_cons _ _ _ _ _ (@ps_set _ _ 4 _ _ _ _ sc_law.nd rfl (Or.inl rfl) (pe_call (G__law_row.mono (by decide)) hr rfl d__law_row.m d__law_row.fn.kp d__law_row.b .nil pass0 (@pa_cons _ _ _ _ _ (pe_slice (sl_listN (K := K) rfl) (pv 2) (po_some (pv 3)) (po_some (@pe_op _ _ _ _ _ _ _ _ (op_addA (K := K) rfl) (pv 3) (pv 1)))) (@pa_cons _ _ _ _ _ (pv 3) pa_nil (by rfl)) (by rfl))) (by rfl) (by first | exact .inl rfl | exact .inr rfl))
    (@pss_one _ _ _ (@ps_if _ _ _ _ _ _ _ _ (pt_not (pt_val (pe_call (G__law_holds.mono (by decide)) hr rfl d__law_holds.m d__law_holds.fn.kp d__law_holds.b .nil pass0 (@pa_cons _ _ _ _ _ (pv 4) (@pa_cons _ _ _ _ _ (@pe_op _ _ _ _ _ _ _ _ op_modM (pe_ix (ix_seqK (K := K) rfl) (pv 2) (pv 3) (fun _ _ => rfl)) pe_int) pa_nil (by rfl)) (by rfl)))))
      (@pss_one _ _ _ (@ps_ret _ _ _ _ pe_bl))
      pss_nil))) (by intro _; rfl))
    (@pss_one _ _ _ (@ps_ret _ _ _ _ pe_bl))))), ?_⟩
  exact d_fn (E := E) (n := 5) rfl (fun ρ => (ds_seq (ds_asg (de_op dr_add (DE.dk de_int) (de_op dr_mod (DE.dk (de_call (da_cons (de_var (i := 0)) (da_cons de_int da_nil)))) de_int)) dg_name)
    (ds_seq (ds_asg (de_op dr_add (DE.dk (DO.de (do_slL (dk_var (i := 0)) (dop_some de_int) (dop_some de_int)))) (DO.de (do_lst (da_cons de_int da_nil)))) dg_name)
    (ds_seq (ds_for (di_rng3 (da_cons de_int (da_cons (de_c1 dc_len (dk_var (i := 2))) (da_cons (de_var (i := 1)) da_nil)))) dg_name
      (ds_seq (ds_asg (de_call (da_cons (DO.de (do_slL (dk_var (i := 2)) (dop_some (de_var (i := 3))) (dop_some (de_op dr_add (dk_var (i := 3)) (de_var (i := 1)))))) (da_cons (de_var (i := 3)) da_nil))) dg_name)
    (ds_if (dt_not (dt_val (de_call (da_cons (de_var (i := 4)) (da_cons (de_op dr_mod (DE.dk (de_op dr_ix (dk_var (i := 2)) (de_var (i := 3)))) de_int) da_nil)))))
      (ds_ret de_bl)
      ds_next)))
    (ds_ret de_bl))))) ⟨[], H, [.list (ns.map .int)], .bool true, .refl _, .cons (.lst hS (.ints ns)) .nil, hlaw ns h63, fun v G' H' g dv => by cases dv; exact q H'⟩
end
def opt : Option Int → W
  | some i => .int i
  | none => .none
def wr (n : Int) : Int := (n + 2147483648).fmod 4294967296 - 2147483648
theorem p_wr (n : Int) : p_wrapped [.int n] = some (.int (wr n)) := by
  show some (W.int ((n - (-2147483648)).fmod 4294967296 + (-2147483648))) = _
  rw [show n - (-2147483648) = n + 2147483648 by omega, show (n + 2147483648).fmod 4294967296 + -2147483648 = wr n by unfold wr; omega]
theorem p_in (n : Int) : p__law_into_range [.int n] = some (.int (wr n)) := rfl
theorem at0 {α : Type} (x : α) (r : List α) : atI (x :: r) 0 = some x := by
  unfold atI ixN
  rw [if_pos (by decide), if_pos (by simp)]
  rfl
theorem p_cell (ns : List Int) : ∃ m, p__law_cell [.list (ns.map .int), .int 0] = some (.int m) := by
  cases ns with
  | nil => exact ⟨0, rfl⟩
  | cons n r =>
    refine ⟨n, ?_⟩
    have h : (0 : Int) < (((r.map W.int).length + 1 : Nat) : Int) := by omega
    simp only [p__law_cell, bodyD, outD, startD, dsNext, dsSeq, dsIf, dsRet, dsRetN, dsAsg, dsOwn, dsFrz, frz, dsFor, dsAppend, dsSetI, ownAt, dVar, dPk, dC, dOp, dCmp, dB, dTru, dNot, dNotV, dAndV, dOrV, dAnd, dOr, dCall, dCons, dNil, dTup, dLst, dOwn, dComp, dC1, dSeqOf, dgName, dgTup, dgCons, dgNil, dSlL, dPart, dNoPart, dEnum, dZip, dListOf, dAddL, liftD, slAt, dYes, dIf, gAdd_i, gSub_i, gDiv_n, gMod_n, gNeg_i, asB_b, asI_i, listD_l, seqD_l, seqD_t, gLen_l, gLen_t, gIx_l, gIx_t, cEq_i, cEq_s, cEq_b, cNe_i, cNe_s, cLt_i, cLe_i, cGt_i, cGe_i, cNotN_i, cNotN_n, cNotN_s, cNotN_l, cNotN_t, cIsN_i, cIsN_n, cIsN_s, cIsN_l, cIsN_t, isi_int, isi_bool, isi_str, List.length_cons, List.length_nil, List.map_cons, List.map_nil, List.replicate, List.nil_append, List.cons_append, List.getElem?_cons_zero, List.getElem?_cons_succ, List.set_cons_zero, List.set_cons_succ, Option.bind_some, Option.map_some, Option.bind_none, Option.map_none, Option.getD_some, Option.getD_none, Nat.reduceAdd, Nat.reduceSub, if_true, reduceIte, Nat.reduceEqDiff, decide_true, decide_false, Bool.not_true, Bool.not_false, Bool.false_eq_true, ne_eq, not_false_eq_true, h, at0]
theorem p_same (m n : Int) : p__law_same [.int m, .int n] = some (.bool (decide (m = n))) := by
  simp only [p__law_same, bodyD, outD, startD, dsNext, dsSeq, dsIf, dsRet, dsRetN, dsAsg, dsOwn, dsFrz, frz, dsFor, dsAppend, dsSetI, ownAt, dVar, dPk, dC, dOp, dCmp, dB, dTru, dNot, dNotV, dAndV, dOrV, dAnd, dOr, dCall, dCons, dNil, dTup, dLst, dOwn, dComp, dC1, dSeqOf, dgName, dgTup, dgCons, dgNil, dSlL, dPart, dNoPart, dEnum, dZip, dListOf, dAddL, liftD, slAt, dYes, dIf, gAdd_i, gSub_i, gDiv_n, gMod_n, gNeg_i, asB_b, asI_i, listD_l, seqD_l, seqD_t, gLen_l, gLen_t, gIx_l, gIx_t, cEq_i, cEq_s, cEq_b, cNe_i, cNe_s, cLt_i, cLe_i, cGt_i, cGe_i, cNotN_i, cNotN_n, cNotN_s, cNotN_l, cNotN_t, cIsN_i, cIsN_n, cIsN_s, cIsN_l, cIsN_t, isi_int, isi_bool, isi_str, List.length_cons, List.length_nil, List.map_cons, List.map_nil, List.replicate, List.nil_append, List.cons_append, List.getElem?_cons_zero, List.getElem?_cons_succ, List.set_cons_zero, List.set_cons_succ, Option.bind_some, Option.map_some, Option.bind_none, Option.map_none, Option.getD_some, Option.getD_none, Nat.reduceAdd, Nat.reduceSub, if_true, reduceIte, Nat.reduceEqDiff, decide_true, decide_false, Bool.not_true, Bool.not_false, Bool.false_eq_true, ne_eq, not_false_eq_true]
theorem p_mix (c : Int) {k : Int} (h0 : 0 ≤ k) (h1 : k < 1000) : ∃ m, p__law_mixed [.int c, .int k] = some (.int m) ∧ 0 ≤ m ∧ m < 2147483648 := by
  have a := mod_lo (c.fmod 2147483647 + 16807 * k + 7) (m := 2147483629) (by decide)
  have b := mod_hi (c.fmod 2147483647 + 16807 * k + 7) (m := 2147483629) (by decide)
  have e1 : gMul (.int 16807) (.int k) = some (.int (16807 * k)) := gMul_i (okMul_of (by omega) (by omega) (by omega) (by omega))
  simp (decide := true) only [p__law_mixed, bodyD, outD, startD, dsNext, dsSeq, dsIf, dsRet, dsRetN, dsAsg, dsOwn, dsFrz, frz, dsFor, dsAppend, dsSetI, ownAt, dVar, dPk, dC, dOp, dCmp, dB, dTru, dNot, dNotV, dAndV, dOrV, dAnd, dOr, dCall, dCons, dNil, dTup, dLst, dOwn, dComp, dC1, dSeqOf, dgName, dgTup, dgCons, dgNil, dSlL, dPart, dNoPart, dEnum, dZip, dListOf, dAddL, liftD, slAt, dYes, dIf, gAdd_i, gSub_i, gDiv_n, gMod_n, gNeg_i, asB_b, asI_i, listD_l, seqD_l, seqD_t, gLen_l, gLen_t, gIx_l, gIx_t, cEq_i, cEq_s, cEq_b, cNe_i, cNe_s, cLt_i, cLe_i, cGt_i, cGe_i, cNotN_i, cNotN_n, cNotN_s, cNotN_l, cNotN_t, cIsN_i, cIsN_n, cIsN_s, cIsN_l, cIsN_t, isi_int, isi_bool, isi_str, List.length_cons, List.length_nil, List.map_cons, List.map_nil, List.replicate, List.nil_append, List.cons_append, List.getElem?_cons_zero, List.getElem?_cons_succ, List.set_cons_zero, List.set_cons_succ, Option.bind_some, Option.map_some, Option.bind_none, Option.map_none, Option.getD_some, Option.getD_none, Nat.reduceAdd, Nat.reduceSub, if_true, reduceIte, Nat.reduceEqDiff, decide_true, decide_false, Bool.not_true, Bool.not_false, Bool.false_eq_true, ne_eq, not_false_eq_true, e1]
  generalize (c.fmod 2147483647 + 16807 * k + 7).fmod 2147483629 = n1 at *
  have e2 : gMul (.int n1) (.int n1) = some (.int (n1 * n1)) := gMul_i (okMul_of (by omega) (by omega) (by omega) (by omega))
  have a2 := mod_lo (n1 * n1) (m := 2147483587) (by decide)
  have b2 := mod_hi (n1 * n1) (m := 2147483587) (by decide)
  simp (decide := true) only [bodyD, outD, startD, dsNext, dsSeq, dsIf, dsRet, dsRetN, dsAsg, dsOwn, dsFrz, frz, dsFor, dsAppend, dsSetI, ownAt, dVar, dPk, dC, dOp, dCmp, dB, dTru, dNot, dNotV, dAndV, dOrV, dAnd, dOr, dCall, dCons, dNil, dTup, dLst, dOwn, dComp, dC1, dSeqOf, dgName, dgTup, dgCons, dgNil, dSlL, dPart, dNoPart, dEnum, dZip, dListOf, dAddL, liftD, slAt, dYes, dIf, gAdd_i, gSub_i, gDiv_n, gMod_n, gNeg_i, asB_b, asI_i, listD_l, seqD_l, seqD_t, gLen_l, gLen_t, gIx_l, gIx_t, cEq_i, cEq_s, cEq_b, cNe_i, cNe_s, cLt_i, cLe_i, cGt_i, cGe_i, cNotN_i, cNotN_n, cNotN_s, cNotN_l, cNotN_t, cIsN_i, cIsN_n, cIsN_s, cIsN_l, cIsN_t, isi_int, isi_bool, isi_str, List.length_cons, List.length_nil, List.map_cons, List.map_nil, List.replicate, List.nil_append, List.cons_append, List.getElem?_cons_zero, List.getElem?_cons_succ, List.set_cons_zero, List.set_cons_succ, Option.bind_some, Option.map_some, Option.bind_none, Option.map_none, Option.getD_some, Option.getD_none, Nat.reduceAdd, Nat.reduceSub, if_true, reduceIte, Nat.reduceEqDiff, decide_true, decide_false, Bool.not_true, Bool.not_false, Bool.false_eq_true, ne_eq, not_false_eq_true, e2]
  generalize (n1 * n1).fmod 2147483587 = n2 at *
  have e3 : gMul (.int n2) (.int (n2 + 48271)) = some (.int (n2 * (n2 + 48271))) := gMul_i (okMul_of (by omega) (by omega) (by omega) (by omega))
  have a3 := mod_lo (n2 * (n2 + 48271)) (m := 2147483579) (by decide)
  have b3 := mod_hi (n2 * (n2 + 48271)) (m := 2147483579) (by decide)
  simp (decide := true) only [bodyD, outD, startD, dsNext, dsSeq, dsIf, dsRet, dsRetN, dsAsg, dsOwn, dsFrz, frz, dsFor, dsAppend, dsSetI, ownAt, dVar, dPk, dC, dOp, dCmp, dB, dTru, dNot, dNotV, dAndV, dOrV, dAnd, dOr, dCall, dCons, dNil, dTup, dLst, dOwn, dComp, dC1, dSeqOf, dgName, dgTup, dgCons, dgNil, dSlL, dPart, dNoPart, dEnum, dZip, dListOf, dAddL, liftD, slAt, dYes, dIf, gAdd_i, gSub_i, gDiv_n, gMod_n, gNeg_i, asB_b, asI_i, listD_l, seqD_l, seqD_t, gLen_l, gLen_t, gIx_l, gIx_t, cEq_i, cEq_s, cEq_b, cNe_i, cNe_s, cLt_i, cLe_i, cGt_i, cGe_i, cNotN_i, cNotN_n, cNotN_s, cNotN_l, cNotN_t, cIsN_i, cIsN_n, cIsN_s, cIsN_l, cIsN_t, isi_int, isi_bool, isi_str, List.length_cons, List.length_nil, List.map_cons, List.map_nil, List.replicate, List.nil_append, List.cons_append, List.getElem?_cons_zero, List.getElem?_cons_succ, List.set_cons_zero, List.set_cons_succ, Option.bind_some, Option.map_some, Option.bind_none, Option.map_none, Option.getD_some, Option.getD_none, Nat.reduceAdd, Nat.reduceSub, if_true, reduceIte, Nat.reduceEqDiff, decide_true, decide_false, Bool.not_true, Bool.not_false, Bool.false_eq_true, ne_eq, not_false_eq_true, e3]
  generalize (n2 * (n2 + 48271)).fmod 2147483579 = n3 at *
  refine ⟨_, rfl, div_lo a3 (by decide), ?_⟩
  rw [Int.fdiv_eq_ediv_of_nonneg _ (by decide)]
  omega
theorem p_num (c : Int) {m : Int} (h0 : 0 ≤ m) (h1 : m < 2147483648) : ∃ v, p__law_number [.int c, .int m] = some (.int v) ∧ v.natAbs < 2 ^ 40 := by
  have d0 := div_lo h0 (m := 20) (by decide)
  have d1 : m.fdiv 20 < 2147483648 := by
    rw [Int.fdiv_eq_ediv_of_nonneg _ (by decide)]
    omega
  have e1 : gMul (.int (m.fdiv 20)) (.int 1009) = some (.int (m.fdiv 20 * 1009)) := gMul_i (okMul_of (by omega) (by omega) (by omega) (by omega))
  simp (decide := true) only [p__law_number, bodyD, outD, startD, dsNext, dsSeq, dsIf, dsRet, dsRetN, dsAsg, dsOwn, dsFrz, frz, dsFor, dsAppend, dsSetI, ownAt, dVar, dPk, dC, dOp, dCmp, dB, dTru, dNot, dNotV, dAndV, dOrV, dAnd, dOr, dCall, dCons, dNil, dTup, dLst, dOwn, dComp, dC1, dSeqOf, dgName, dgTup, dgCons, dgNil, dSlL, dPart, dNoPart, dEnum, dZip, dListOf, dAddL, liftD, slAt, dYes, dIf, gAdd_i, gSub_i, gDiv_n, gMod_n, gNeg_i, asB_b, asI_i, listD_l, seqD_l, seqD_t, gLen_l, gLen_t, gIx_l, gIx_t, cEq_i, cEq_s, cEq_b, cNe_i, cNe_s, cLt_i, cLe_i, cGt_i, cGe_i, cNotN_i, cNotN_n, cNotN_s, cNotN_l, cNotN_t, cIsN_i, cIsN_n, cIsN_s, cIsN_l, cIsN_t, isi_int, isi_bool, isi_str, List.length_cons, List.length_nil, List.map_cons, List.map_nil, List.replicate, List.nil_append, List.cons_append, List.getElem?_cons_zero, List.getElem?_cons_succ, List.set_cons_zero, List.set_cons_succ, Option.bind_some, Option.map_some, Option.bind_none, Option.map_none, Option.getD_some, Option.getD_none, Nat.reduceAdd, Nat.reduceSub, if_true, reduceIte, Nat.reduceEqDiff, decide_true, decide_false, Bool.not_true, Bool.not_false, Bool.false_eq_true, ne_eq, not_false_eq_true, e1]
  generalize (m.fdiv 5).fmod 4 = w
  generalize m.fdiv 20 = q at *
  have q0 := mod_lo q (m := 9) (by decide)
  have q1 := mod_hi q (m := 9) (by decide)
  have q2 := mod_lo q (m := 3) (by decide)
  have q3 := mod_hi q (m := 3) (by decide)
  have q4 := mod_lo (c + q * 1009) (m := 4294967296) (by decide)
  have q5 := mod_hi (c + q * 1009) (m := 4294967296) (by decide)
  by_cases w0 : w = 0
  · subst w0
    simp (decide := true) only [bodyD, outD, startD, dsNext, dsSeq, dsIf, dsRet, dsRetN, dsAsg, dsOwn, dsFrz, frz, dsFor, dsAppend, dsSetI, ownAt, dVar, dPk, dC, dOp, dCmp, dB, dTru, dNot, dNotV, dAndV, dOrV, dAnd, dOr, dCall, dCons, dNil, dTup, dLst, dOwn, dComp, dC1, dSeqOf, dgName, dgTup, dgCons, dgNil, dSlL, dPart, dNoPart, dEnum, dZip, dListOf, dAddL, liftD, slAt, dYes, dIf, gAdd_i, gSub_i, gDiv_n, gMod_n, gNeg_i, asB_b, asI_i, listD_l, seqD_l, seqD_t, gLen_l, gLen_t, gIx_l, gIx_t, cEq_i, cEq_s, cEq_b, cNe_i, cNe_s, cLt_i, cLe_i, cGt_i, cGe_i, cNotN_i, cNotN_n, cNotN_s, cNotN_l, cNotN_t, cIsN_i, cIsN_n, cIsN_s, cIsN_l, cIsN_t, isi_int, isi_bool, isi_str, List.length_cons, List.length_nil, List.map_cons, List.map_nil, List.replicate, List.nil_append, List.cons_append, List.getElem?_cons_zero, List.getElem?_cons_succ, List.set_cons_zero, List.set_cons_succ, Option.bind_some, Option.map_some, Option.bind_none, Option.map_none, Option.getD_some, Option.getD_none, Nat.reduceAdd, Nat.reduceSub, if_true, reduceIte, Nat.reduceEqDiff, decide_true, decide_false, Bool.not_true, Bool.not_false, Bool.false_eq_true, ne_eq, not_false_eq_true]
    refine ⟨_, rfl, ?_⟩
    omega
  by_cases w1 : w = 1
  · subst w1
    simp (decide := true) only [bodyD, outD, startD, dsNext, dsSeq, dsIf, dsRet, dsRetN, dsAsg, dsOwn, dsFrz, frz, dsFor, dsAppend, dsSetI, ownAt, dVar, dPk, dC, dOp, dCmp, dB, dTru, dNot, dNotV, dAndV, dOrV, dAnd, dOr, dCall, dCons, dNil, dTup, dLst, dOwn, dComp, dC1, dSeqOf, dgName, dgTup, dgCons, dgNil, dSlL, dPart, dNoPart, dEnum, dZip, dListOf, dAddL, liftD, slAt, dYes, dIf, gAdd_i, gSub_i, gDiv_n, gMod_n, gNeg_i, asB_b, asI_i, listD_l, seqD_l, seqD_t, gLen_l, gLen_t, gIx_l, gIx_t, cEq_i, cEq_s, cEq_b, cNe_i, cNe_s, cLt_i, cLe_i, cGt_i, cGe_i, cNotN_i, cNotN_n, cNotN_s, cNotN_l, cNotN_t, cIsN_i, cIsN_n, cIsN_s, cIsN_l, cIsN_t, isi_int, isi_bool, isi_str, List.length_cons, List.length_nil, List.map_cons, List.map_nil, List.replicate, List.nil_append, List.cons_append, List.getElem?_cons_zero, List.getElem?_cons_succ, List.set_cons_zero, List.set_cons_succ, Option.bind_some, Option.map_some, Option.bind_none, Option.map_none, Option.getD_some, Option.getD_none, Nat.reduceAdd, Nat.reduceSub, if_true, reduceIte, Nat.reduceEqDiff, decide_true, decide_false, Bool.not_true, Bool.not_false, Bool.false_eq_true, ne_eq, not_false_eq_true]
    refine ⟨_, rfl, ?_⟩
    omega
  by_cases w2 : w = 2
  · subst w2
    simp (decide := true) only [bodyD, outD, startD, dsNext, dsSeq, dsIf, dsRet, dsRetN, dsAsg, dsOwn, dsFrz, frz, dsFor, dsAppend, dsSetI, ownAt, dVar, dPk, dC, dOp, dCmp, dB, dTru, dNot, dNotV, dAndV, dOrV, dAnd, dOr, dCall, dCons, dNil, dTup, dLst, dOwn, dComp, dC1, dSeqOf, dgName, dgTup, dgCons, dgNil, dSlL, dPart, dNoPart, dEnum, dZip, dListOf, dAddL, liftD, slAt, dYes, dIf, gAdd_i, gSub_i, gDiv_n, gMod_n, gNeg_i, asB_b, asI_i, listD_l, seqD_l, seqD_t, gLen_l, gLen_t, gIx_l, gIx_t, cEq_i, cEq_s, cEq_b, cNe_i, cNe_s, cLt_i, cLe_i, cGt_i, cGe_i, cNotN_i, cNotN_n, cNotN_s, cNotN_l, cNotN_t, cIsN_i, cIsN_n, cIsN_s, cIsN_l, cIsN_t, isi_int, isi_bool, isi_str, List.length_cons, List.length_nil, List.map_cons, List.map_nil, List.replicate, List.nil_append, List.cons_append, List.getElem?_cons_zero, List.getElem?_cons_succ, List.set_cons_zero, List.set_cons_succ, Option.bind_some, Option.map_some, Option.bind_none, Option.map_none, Option.getD_some, Option.getD_none, Nat.reduceAdd, Nat.reduceSub, if_true, reduceIte, Nat.reduceEqDiff, decide_true, decide_false, Bool.not_true, Bool.not_false, Bool.false_eq_true, ne_eq, not_false_eq_true]
    refine ⟨_, rfl, ?_⟩
    omega
  simp (decide := true) only [w0, w1, w2, e1, bodyD, outD, startD, dsNext, dsSeq, dsIf, dsRet, dsRetN, dsAsg, dsOwn, dsFrz, frz, dsFor, dsAppend, dsSetI, ownAt, dVar, dPk, dC, dOp, dCmp, dB, dTru, dNot, dNotV, dAndV, dOrV, dAnd, dOr, dCall, dCons, dNil, dTup, dLst, dOwn, dComp, dC1, dSeqOf, dgName, dgTup, dgCons, dgNil, dSlL, dPart, dNoPart, dEnum, dZip, dListOf, dAddL, liftD, slAt, dYes, dIf, gAdd_i, gSub_i, gDiv_n, gMod_n, gNeg_i, asB_b, asI_i, listD_l, seqD_l, seqD_t, gLen_l, gLen_t, gIx_l, gIx_t, cEq_i, cEq_s, cEq_b, cNe_i, cNe_s, cLt_i, cLe_i, cGt_i, cGe_i, cNotN_i, cNotN_n, cNotN_s, cNotN_l, cNotN_t, cIsN_i, cIsN_n, cIsN_s, cIsN_l, cIsN_t, isi_int, isi_bool, isi_str, List.length_cons, List.length_nil, List.map_cons, List.map_nil, List.replicate, List.nil_append, List.cons_append, List.getElem?_cons_zero, List.getElem?_cons_succ, List.set_cons_zero, List.set_cons_succ, Option.bind_some, Option.map_some, Option.bind_none, Option.map_none, Option.getD_some, Option.getD_none, Nat.reduceAdd, Nat.reduceSub, if_true, reduceIte, Nat.reduceEqDiff, decide_true, decide_false, Bool.not_true, Bool.not_false, Bool.false_eq_true, ne_eq, not_false_eq_true]
  refine ⟨_, rfl, ?_⟩
  omega
def somes (row : List (Option Int)) : List Int := row.filterMap id
def cN : DS → Option Bool := dCmp cNotN (dPk 0) (dC .none)
theorem comp_somes : ∀ (row : List (Option Int)), dCompGo (dgName 0) cN (dVar 0) [.no] (row.map opt) = some ((somes row).map .int)
  | [] => rfl
  | none :: r => by
    show dCompGo (dgName 0) cN (dVar 0) [.no] (r.map opt) = _
    rw [comp_somes r]
    rfl
  | some i :: r => by
    show (dCompGo (dgName 0) cN (dVar 0) [.no] (r.map opt)).map (W.int i :: ·) = _
    rw [comp_somes r]
    rfl
theorem opt_len (row : List (Option Int)) (h : row.length ≤ 1000) : (row.map opt).length ≤ sizeLine := by
  rw [List.length_map]
  exact Nat.le_trans h (by decide)
theorem somes_len (row : List (Option Int)) : (somes row).length ≤ row.length := List.length_filterMap_le _ _
theorem fit_somes {row : List (Option Int)} (h : row.length ≤ 1000) (hb : ∀ i, some i ∈ row → i.natAbs < 2 ^ 40) : fitB (somes row) = true := by
  simp only [fitB, Bool.and_eq_true, List.all_eq_true, decide_eq_true_eq]
  refine ⟨fun n hn => hb n ?_, Nat.le_trans (somes_len row) (by omega)⟩
  obtain ⟨a, h1, h2⟩ := List.mem_filterMap.mp hn
  cases a with
  | none => cases h2
  | some x => cases h2; exact h1
theorem gSum_somes {row : List (Option Int)} (h : row.length ≤ 1000) (hb : ∀ i, some i ∈ row → i.natAbs < 2 ^ 40) : gSum (.list ((somes row).map .int)) = some (.int (somes row).sum) := by
  simp only [gSum, listD_l, Option.bind_some, intsD_map, fit_somes h hb, if_true]
theorem gMax_somes {row : List (Option Int)} (h : somes row ≠ []) : gMax (.list ((somes row).map .int)) = some (.int (maxL (somes row))) := by
  simp only [gMax, listD_l, Option.bind_some, intsD_map, if_pos (List.length_pos_iff.mpr h)]
theorem gMin_somes {row : List (Option Int)} (h : somes row ≠ []) : gMin (.list ((somes row).map .int)) = some (.int (minL (somes row))) := by
  simp only [gMin, listD_l, Option.bind_some, intsD_map, if_pos (List.length_pos_iff.mpr h)]
theorem cut_to (ds : List W) (k : Nat) : cutW ds none (some (k : Int)) = ds.take k := by
  unfold cutW
  rw [HT.sIx_none, HT.sIx_nat, List.drop_zero, Nat.sub_zero]
  rcases Nat.le_total k ds.length with h | h
  · rw [Nat.min_eq_left h]
  · rw [Nat.min_eq_right h, List.take_of_length_le (Nat.le_refl _), List.take_of_length_le h]
def due (row : List (Option Int)) (lane : Nat) (word : Str) : Int := if word = Str.ofString "sum" then wr (somes row).sum else if word = Str.ofString "most" then maxL (somes row) else if word = Str.ofString "least" then minL (somes row) else wr (somes (row.take lane)).sum
theorem p_join {row : List (Option Int)} (h : row.length ≤ 1000) (hb : ∀ i, some i ∈ row → i.natAbs < 2 ^ 40) (h0 : somes row ≠ []) (word : Str) (k : Nat) : p_joined [.str word, .list (row.map opt), .int k] = some (.int (due row k word)) := by
  have e1 := comp_somes row
  have hl := opt_len row h
  have ht : (row.take k).length ≤ 1000 := by rw [List.length_take]; omega
  have hbt : ∀ i, some i ∈ row.take k → i.natAbs < 2 ^ 40 := fun i hi => hb i (List.mem_of_mem_take hi)
  have e2 := comp_somes (row.take k)
  have hl2 := opt_len (row.take k) ht
  have ec : (row.map opt).take k = (row.take k).map opt := by rw [List.map_take]
  unfold cN at e1 e2
  unfold due
  have run : ∀ (b1 b2 b3 : Bool), decide (word = Str.ofString "sum") = b1 → decide (word = Str.ofString "most") = b2 → decide (word = Str.ofString "least") = b3 → p_joined [.str word, .list (row.map opt), .int k] = some (.int (if b1 = true then wr (somes row).sum else if b2 = true then maxL (somes row) else if b3 = true then minL (somes row) else wr (somes (row.take k)).sum)) := by
    intro b1 b2 b3 h1 h2 h3
    cases b1 <;> cases b2 <;> cases b3 <;> simp (decide := true) only [p_joined, bodyD, outD, startD, dsNext, dsSeq, dsIf, dsRet, dsRetN, dsAsg, dsOwn, dsFrz, frz, dsFor, dsAppend, dsSetI, ownAt, dVar, dPk, dC, dOp, dCmp, dB, dTru, dNot, dNotV, dAndV, dOrV, dAnd, dOr, dCall, dCons, dNil, dTup, dLst, dOwn, dComp, dC1, dSeqOf, dgName, dgTup, dgCons, dgNil, dSlL, dPart, dNoPart, dEnum, dZip, dListOf, dAddL, liftD, slAt, dYes, dIf, gAdd_i, gSub_i, gDiv_n, gMod_n, gNeg_i, asB_b, asI_i, listD_l, seqD_l, seqD_t, gLen_l, gLen_t, gIx_l, gIx_t, cEq_i, cEq_s, cEq_b, cNe_i, cNe_s, cLt_i, cLe_i, cGt_i, cGe_i, cNotN_i, cNotN_n, cNotN_s, cNotN_l, cNotN_t, cIsN_i, cIsN_n, cIsN_s, cIsN_l, cIsN_t, isi_int, isi_bool, isi_str, List.length_cons, List.length_nil, List.map_cons, List.map_nil, List.replicate, List.nil_append, List.cons_append, List.getElem?_cons_zero, List.getElem?_cons_succ, List.set_cons_zero, List.set_cons_succ, Option.bind_some, Option.map_some, Option.bind_none, Option.map_none, Option.getD_some, Option.getD_none, Nat.reduceAdd, Nat.reduceSub, if_true, reduceIte, Nat.reduceEqDiff, decide_true, decide_false, Bool.not_true, Bool.not_false, Bool.false_eq_true, ne_eq, not_false_eq_true, h1, h2, h3, e1, if_pos hl, gSum_somes h hb, p_wr, gMax_somes h0, gMin_somes h0, cut_to, ec, if_pos hl2, e2, gSum_somes ht hbt]
  rw [run _ _ _ rfl rfl rfl]
  simp only [decide_eq_true_eq]
def Bd (row : List (Option Int)) : Prop := ∀ i, some i ∈ row → i.natAbs < 2 ^ 40
theorem Bd.snoc {row : List (Option Int)} {o : Option Int} (h : Bd row) (ho : ∀ i, o = some i → i.natAbs < 2 ^ 40) : Bd (row ++ [o]) := fun i hi => by
  rcases List.mem_append.mp hi with hi | hi
  · exact h i hi
  · exact ho i (List.mem_singleton.mp hi).symm
theorem row_step (cs : List Int) (st : Int) (row : List (Option Int)) (u3 u4 u5 : Sl) (c : Int) (i : Nat) (h0 : 0 ≤ st) (h1 : st + i < 1000) (hl : row.length < 1000) (hb : Bd row) :
    ∃ δ2, dgTup 2 (dgCons (dgName 3) (dgCons (dgName 4) dgNil)) (.tuple [.int i, .int c]) [.val (.list (cs.map .int)), .val (.int st), .own (row.map opt), u3, u4, u5] = some δ2 ∧
      ∃ o v3 v4 v5, b__law_row_1 δ2 = some (.nx [.val (.list (cs.map .int)), .val (.int st), .own ((row ++ [o]).map opt), v3, v4, v5]) ∧ Bd (row ++ [o]) := by
  refine ⟨_, rfl, ?_⟩
  obtain ⟨m, e1, m0, m1⟩ := p_mix c (k := st + i) (by omega) h1
  obtain ⟨v, e2, vb⟩ := p_num c m0 m1
  have hz : (row.map opt).length < sizeLine := by
    rw [List.length_map]
    exact Nat.lt_trans hl (by decide)
  by_cases hm : m.fmod 5 = 4
  · refine ⟨none, .val (.int i), .val (.int c), .val (.int m), ?_, hb.snoc (by simp)⟩
    simp (decide := true) only [b__law_row_1, bodyD, outD, startD, dsNext, dsSeq, dsIf, dsRet, dsRetN, dsAsg, dsOwn, dsFrz, frz, dsFor, dsAppend, dsSetI, ownAt, dVar, dPk, dC, dOp, dCmp, dB, dTru, dNot, dNotV, dAndV, dOrV, dAnd, dOr, dCall, dCons, dNil, dTup, dLst, dOwn, dComp, dC1, dSeqOf, dgName, dgTup, dgCons, dgNil, dSlL, dPart, dNoPart, dEnum, dZip, dListOf, dAddL, liftD, slAt, dYes, dIf, gAdd_i, gSub_i, gDiv_n, gMod_n, gNeg_i, asB_b, asI_i, listD_l, seqD_l, seqD_t, gLen_l, gLen_t, gIx_l, gIx_t, cEq_i, cEq_s, cEq_b, cNe_i, cNe_s, cLt_i, cLe_i, cGt_i, cGe_i, cNotN_i, cNotN_n, cNotN_s, cNotN_l, cNotN_t, cIsN_i, cIsN_n, cIsN_s, cIsN_l, cIsN_t, isi_int, isi_bool, isi_str, List.length_cons, List.length_nil, List.map_cons, List.map_nil, List.replicate, List.nil_append, List.cons_append, List.getElem?_cons_zero, List.getElem?_cons_succ, List.set_cons_zero, List.set_cons_succ, Option.bind_some, Option.map_some, Option.bind_none, Option.map_none, Option.getD_some, Option.getD_none, Nat.reduceAdd, Nat.reduceSub, if_true, reduceIte, Nat.reduceEqDiff, decide_true, decide_false, Bool.not_true, Bool.not_false, Bool.false_eq_true, ne_eq, not_false_eq_true, e1, hm, hz, List.map_append]
    rfl
  · refine ⟨some v, .val (.int i), .val (.int c), .val (.int m), ?_, hb.snoc (by simpa using vb)⟩
    simp (decide := true) only [b__law_row_1, bodyD, outD, startD, dsNext, dsSeq, dsIf, dsRet, dsRetN, dsAsg, dsOwn, dsFrz, frz, dsFor, dsAppend, dsSetI, ownAt, dVar, dPk, dC, dOp, dCmp, dB, dTru, dNot, dNotV, dAndV, dOrV, dAnd, dOr, dCall, dCons, dNil, dTup, dLst, dOwn, dComp, dC1, dSeqOf, dgName, dgTup, dgCons, dgNil, dSlL, dPart, dNoPart, dEnum, dZip, dListOf, dAddL, liftD, slAt, dYes, dIf, gAdd_i, gSub_i, gDiv_n, gMod_n, gNeg_i, asB_b, asI_i, listD_l, seqD_l, seqD_t, gLen_l, gLen_t, gIx_l, gIx_t, cEq_i, cEq_s, cEq_b, cNe_i, cNe_s, cLt_i, cLe_i, cGt_i, cGe_i, cNotN_i, cNotN_n, cNotN_s, cNotN_l, cNotN_t, cIsN_i, cIsN_n, cIsN_s, cIsN_l, cIsN_t, isi_int, isi_bool, isi_str, List.length_cons, List.length_nil, List.map_cons, List.map_nil, List.replicate, List.nil_append, List.cons_append, List.getElem?_cons_zero, List.getElem?_cons_succ, List.set_cons_zero, List.set_cons_succ, Option.bind_some, Option.map_some, Option.bind_none, Option.map_none, Option.getD_some, Option.getD_none, Nat.reduceAdd, Nat.reduceSub, if_true, reduceIte, Nat.reduceEqDiff, decide_true, decide_false, Bool.not_true, Bool.not_false, Bool.false_eq_true, ne_eq, not_false_eq_true, e1, e2, hm, hz, List.map_append]
    rfl
theorem map_at {cs : List Int} {i : Nat} {x : W} (h : (cs.map W.int)[i]? = some x) : ∃ c, x = .int c ∧ i < cs.length := by
  rw [List.getElem?_map] at h
  obtain ⟨c, h1, rfl⟩ := Option.map_eq_some_iff.mp h
  exact ⟨c, rfl, (List.getElem?_eq_some_iff.mp h1).1⟩
theorem p_rw (c : Int) (cs : List Int) (st : Int) (h0 : 0 ≤ st) (h1 : st < 500) (hl : (c :: cs).length ≤ 100) : ∃ row, p__law_row [.list ((c :: cs).map .int), .int st] = some (.list (row.map opt)) ∧ row.length = (c :: cs).length ∧ somes row ≠ [] ∧ Bd row := by
  obtain ⟨δ', e, row, u3, u4, u5, rfl, hr, hb⟩ := for_inv (h := dgTup 2 (dgCons (dgName 3) (dgCons (dgName 4) dgNil))) (fb := b__law_row_1) (fun i δ => ∃ row u3 u4 u5, δ = [.val (.list ((c :: cs).map .int)), .val (.int st), .own (row.map opt), u3, u4, u5] ∧ row.length = i ∧ Bd row) (enumD ((c :: cs).map .int)) 0 [.val (.list ((c :: cs).map .int)), .val (.int st), .own [], .no, .no, .no] ⟨[], _, _, _, rfl, rfl, fun i h => by cases h⟩ (by
    rintro i d δ hd ⟨row, u3, u4, u5, rfl, hr, hb⟩
    obtain ⟨x, hx, rfl⟩ := enumD_get hd
    obtain ⟨k, rfl, hk⟩ := map_at hx
    obtain ⟨δ2, e1, o, v3, v4, v5, e2, hb2⟩ := row_step (c :: cs) st row u3 u4 u5 k i h0 (by omega) (by omega) hb
    exact ⟨δ2, e1, _, .inl e2, row ++ [o], v3, v4, v5, rfl, by rw [List.length_append, hr]; simp, hb2⟩)
  rw [Nat.zero_add] at hr
  have hn : (enumD ((c :: cs).map W.int)).length = (c :: cs).length := by simp [enumD]
  rw [hn] at hr
  have e3 := comp_somes row
  have hz := opt_len row (by omega)
  unfold cN at e3
  by_cases hs : somes row = []
  · obtain ⟨m, e1, m0, m1⟩ := p_mix c (k := st) h0 (by omega)
    obtain ⟨v, e2, vb⟩ := p_num c m0 m1
    obtain ⟨o, r, rfl⟩ : ∃ o r, row = o :: r := by
      cases row with
      | nil => simp at hr
      | cons o r => exact ⟨o, r, rfl⟩
    refine ⟨some v :: r, ?_, by simpa using hr, by simp [somes], fun i hi => ?_⟩
    · rw [List.map_cons] at e
      have ix : ixN (opt o :: r.map opt).length 0 = some 0 := by
        unfold ixN
        rw [if_pos (by decide), if_pos (by simp)]
        rfl
      rw [hs, List.map_cons] at e3
      rw [List.map_cons, List.length_cons] at hz
      rw [List.length_cons] at ix
      simp (decide := true) only [p__law_row, bodyD, outD, startD, dsNext, dsSeq, dsIf, dsRet, dsRetN, dsAsg, dsOwn, dsFrz, frz, dsFor, dsAppend, dsSetI, ownAt, dVar, dPk, dC, dOp, dCmp, dB, dTru, dNot, dNotV, dAndV, dOrV, dAnd, dOr, dCall, dCons, dNil, dTup, dLst, dOwn, dComp, dC1, dSeqOf, dgName, dgTup, dgCons, dgNil, dSlL, dPart, dNoPart, dEnum, dZip, dListOf, dAddL, liftD, slAt, dYes, dIf, gAdd_i, gSub_i, gDiv_n, gMod_n, gNeg_i, asB_b, asI_i, listD_l, seqD_l, seqD_t, gLen_l, gLen_t, gIx_l, gIx_t, cEq_i, cEq_s, cEq_b, cNe_i, cNe_s, cLt_i, cLe_i, cGt_i, cGe_i, cNotN_i, cNotN_n, cNotN_s, cNotN_l, cNotN_t, cIsN_i, cIsN_n, cIsN_s, cIsN_l, cIsN_t, isi_int, isi_bool, isi_str, List.length_cons, List.length_nil, List.map_cons, List.map_nil, List.replicate, List.nil_append, List.cons_append, List.getElem?_cons_zero, List.getElem?_cons_succ, List.set_cons_zero, List.set_cons_succ, Option.bind_some, Option.map_some, Option.bind_none, Option.map_none, Option.getD_some, Option.getD_none, Nat.reduceAdd, Nat.reduceSub, if_true, reduceIte, Nat.reduceEqDiff, decide_true, decide_false, Bool.not_true, Bool.not_false, Bool.false_eq_true, ne_eq, not_false_eq_true, e, e1, e2, at0, hz, e3, ix]
      rfl
    · rcases List.mem_cons.mp hi with hi | hi
      · cases hi; exact vb
      · exact hb i (by simp [hi])
  · refine ⟨row, ?_, hr, hs, hb⟩
    have hs2 : ¬ (((somes row).map W.int).length : Int) = 0 := by
      rw [List.length_map]
      have := List.length_pos_iff.mpr hs
      omega
    rw [List.map_cons] at e
    simp (decide := true) only [p__law_row, bodyD, outD, startD, dsNext, dsSeq, dsIf, dsRet, dsRetN, dsAsg, dsOwn, dsFrz, frz, dsFor, dsAppend, dsSetI, ownAt, dVar, dPk, dC, dOp, dCmp, dB, dTru, dNot, dNotV, dAndV, dOrV, dAnd, dOr, dCall, dCons, dNil, dTup, dLst, dOwn, dComp, dC1, dSeqOf, dgName, dgTup, dgCons, dgNil, dSlL, dPart, dNoPart, dEnum, dZip, dListOf, dAddL, liftD, slAt, dYes, dIf, gAdd_i, gSub_i, gDiv_n, gMod_n, gNeg_i, asB_b, asI_i, listD_l, seqD_l, seqD_t, gLen_l, gLen_t, gIx_l, gIx_t, cEq_i, cEq_s, cEq_b, cNe_i, cNe_s, cLt_i, cLe_i, cGt_i, cGe_i, cNotN_i, cNotN_n, cNotN_s, cNotN_l, cNotN_t, cIsN_i, cIsN_n, cIsN_s, cIsN_l, cIsN_t, isi_int, isi_bool, isi_str, List.length_cons, List.length_nil, List.map_cons, List.map_nil, List.replicate, List.nil_append, List.cons_append, List.getElem?_cons_zero, List.getElem?_cons_succ, List.set_cons_zero, List.set_cons_succ, Option.bind_some, Option.map_some, Option.bind_none, Option.map_none, Option.getD_some, Option.getD_none, Nat.reduceAdd, Nat.reduceSub, if_true, reduceIte, Nat.reduceEqDiff, decide_true, decide_false, Bool.not_true, Bool.not_false, Bool.false_eq_true, ne_eq, not_false_eq_true, e, hz, e3, hs2]
theorem l1_step (a b c d : Sl) (t h l x : Int) (u s8 s9 s10 s11 : Sl) : ∃ δ2, dgName 7 (.int x) [a, b, c, d, .val (.int t), .val (.int h), .val (.int l), u, s8, s9, s10, s11] = some δ2 ∧
    b__law_holds_1 δ2 = some (.nx [a, b, c, d, .val (.int (t + x)), .val (.int (max h x)), .val (.int (min l x)), .val (.int x), s8, s9, s10, s11]) := by
  refine ⟨_, rfl, ?_⟩
  by_cases h1 : h < x
  · rw [Int.max_eq_right (Int.le_of_lt h1)]
    by_cases h2 : x < l
    · rw [Int.min_eq_right (Int.le_of_lt h2)]
      simp (decide := true) only [b__law_holds_1, bodyD, outD, startD, dsNext, dsSeq, dsIf, dsRet, dsRetN, dsAsg, dsOwn, dsFrz, frz, dsFor, dsAppend, dsSetI, ownAt, dVar, dPk, dC, dOp, dCmp, dB, dTru, dNot, dNotV, dAndV, dOrV, dAnd, dOr, dCall, dCons, dNil, dTup, dLst, dOwn, dComp, dC1, dSeqOf, dgName, dgTup, dgCons, dgNil, dSlL, dPart, dNoPart, dEnum, dZip, dListOf, dAddL, liftD, slAt, dYes, dIf, gAdd_i, gSub_i, gDiv_n, gMod_n, gNeg_i, asB_b, asI_i, listD_l, seqD_l, seqD_t, gLen_l, gLen_t, gIx_l, gIx_t, cEq_i, cEq_s, cEq_b, cNe_i, cNe_s, cLt_i, cLe_i, cGt_i, cGe_i, cNotN_i, cNotN_n, cNotN_s, cNotN_l, cNotN_t, cIsN_i, cIsN_n, cIsN_s, cIsN_l, cIsN_t, isi_int, isi_bool, isi_str, List.length_cons, List.length_nil, List.map_cons, List.map_nil, List.replicate, List.nil_append, List.cons_append, List.getElem?_cons_zero, List.getElem?_cons_succ, List.set_cons_zero, List.set_cons_succ, Option.bind_some, Option.map_some, Option.bind_none, Option.map_none, Option.getD_some, Option.getD_none, Nat.reduceAdd, Nat.reduceSub, if_true, reduceIte, Nat.reduceEqDiff, decide_true, decide_false, Bool.not_true, Bool.not_false, Bool.false_eq_true, ne_eq, not_false_eq_true, h1, h2]
    · rw [Int.min_eq_left (by omega)]
      simp (decide := true) only [b__law_holds_1, bodyD, outD, startD, dsNext, dsSeq, dsIf, dsRet, dsRetN, dsAsg, dsOwn, dsFrz, frz, dsFor, dsAppend, dsSetI, ownAt, dVar, dPk, dC, dOp, dCmp, dB, dTru, dNot, dNotV, dAndV, dOrV, dAnd, dOr, dCall, dCons, dNil, dTup, dLst, dOwn, dComp, dC1, dSeqOf, dgName, dgTup, dgCons, dgNil, dSlL, dPart, dNoPart, dEnum, dZip, dListOf, dAddL, liftD, slAt, dYes, dIf, gAdd_i, gSub_i, gDiv_n, gMod_n, gNeg_i, asB_b, asI_i, listD_l, seqD_l, seqD_t, gLen_l, gLen_t, gIx_l, gIx_t, cEq_i, cEq_s, cEq_b, cNe_i, cNe_s, cLt_i, cLe_i, cGt_i, cGe_i, cNotN_i, cNotN_n, cNotN_s, cNotN_l, cNotN_t, cIsN_i, cIsN_n, cIsN_s, cIsN_l, cIsN_t, isi_int, isi_bool, isi_str, List.length_cons, List.length_nil, List.map_cons, List.map_nil, List.replicate, List.nil_append, List.cons_append, List.getElem?_cons_zero, List.getElem?_cons_succ, List.set_cons_zero, List.set_cons_succ, Option.bind_some, Option.map_some, Option.bind_none, Option.map_none, Option.getD_some, Option.getD_none, Nat.reduceAdd, Nat.reduceSub, if_true, reduceIte, Nat.reduceEqDiff, decide_true, decide_false, Bool.not_true, Bool.not_false, Bool.false_eq_true, ne_eq, not_false_eq_true, h1, h2]
  · rw [Int.max_eq_left (by omega)]
    by_cases h2 : x < l
    · rw [Int.min_eq_right (Int.le_of_lt h2)]
      simp (decide := true) only [b__law_holds_1, bodyD, outD, startD, dsNext, dsSeq, dsIf, dsRet, dsRetN, dsAsg, dsOwn, dsFrz, frz, dsFor, dsAppend, dsSetI, ownAt, dVar, dPk, dC, dOp, dCmp, dB, dTru, dNot, dNotV, dAndV, dOrV, dAnd, dOr, dCall, dCons, dNil, dTup, dLst, dOwn, dComp, dC1, dSeqOf, dgName, dgTup, dgCons, dgNil, dSlL, dPart, dNoPart, dEnum, dZip, dListOf, dAddL, liftD, slAt, dYes, dIf, gAdd_i, gSub_i, gDiv_n, gMod_n, gNeg_i, asB_b, asI_i, listD_l, seqD_l, seqD_t, gLen_l, gLen_t, gIx_l, gIx_t, cEq_i, cEq_s, cEq_b, cNe_i, cNe_s, cLt_i, cLe_i, cGt_i, cGe_i, cNotN_i, cNotN_n, cNotN_s, cNotN_l, cNotN_t, cIsN_i, cIsN_n, cIsN_s, cIsN_l, cIsN_t, isi_int, isi_bool, isi_str, List.length_cons, List.length_nil, List.map_cons, List.map_nil, List.replicate, List.nil_append, List.cons_append, List.getElem?_cons_zero, List.getElem?_cons_succ, List.set_cons_zero, List.set_cons_succ, Option.bind_some, Option.map_some, Option.bind_none, Option.map_none, Option.getD_some, Option.getD_none, Nat.reduceAdd, Nat.reduceSub, if_true, reduceIte, Nat.reduceEqDiff, decide_true, decide_false, Bool.not_true, Bool.not_false, Bool.false_eq_true, ne_eq, not_false_eq_true, h1, h2]
    · rw [Int.min_eq_left (by omega)]
      simp (decide := true) only [b__law_holds_1, bodyD, outD, startD, dsNext, dsSeq, dsIf, dsRet, dsRetN, dsAsg, dsOwn, dsFrz, frz, dsFor, dsAppend, dsSetI, ownAt, dVar, dPk, dC, dOp, dCmp, dB, dTru, dNot, dNotV, dAndV, dOrV, dAnd, dOr, dCall, dCons, dNil, dTup, dLst, dOwn, dComp, dC1, dSeqOf, dgName, dgTup, dgCons, dgNil, dSlL, dPart, dNoPart, dEnum, dZip, dListOf, dAddL, liftD, slAt, dYes, dIf, gAdd_i, gSub_i, gDiv_n, gMod_n, gNeg_i, asB_b, asI_i, listD_l, seqD_l, seqD_t, gLen_l, gLen_t, gIx_l, gIx_t, cEq_i, cEq_s, cEq_b, cNe_i, cNe_s, cLt_i, cLe_i, cGt_i, cGe_i, cNotN_i, cNotN_n, cNotN_s, cNotN_l, cNotN_t, cIsN_i, cIsN_n, cIsN_s, cIsN_l, cIsN_t, isi_int, isi_bool, isi_str, List.length_cons, List.length_nil, List.map_cons, List.map_nil, List.replicate, List.nil_append, List.cons_append, List.getElem?_cons_zero, List.getElem?_cons_succ, List.set_cons_zero, List.set_cons_succ, Option.bind_some, Option.map_some, Option.bind_none, Option.map_none, Option.getD_some, Option.getD_none, Nat.reduceAdd, Nat.reduceSub, if_true, reduceIte, Nat.reduceEqDiff, decide_true, decide_false, Bool.not_true, Bool.not_false, Bool.false_eq_true, ne_eq, not_false_eq_true, h1, h2]
theorem l1 (a b c d s8 s9 s10 s11 : Sl) : ∀ (ns : List Int) (t h l : Int) (u : Sl), ∃ u', dsForGo (dgName 7) b__law_holds_1 (ns.map .int) [a, b, c, d, .val (.int t), .val (.int h), .val (.int l), u, s8, s9, s10, s11] = some (.nx [a, b, c, d, .val (.int (t + ns.sum)), .val (.int (ns.foldl max h)), .val (.int (ns.foldl min l)), u', s8, s9, s10, s11])
  | [], t, h, l, u => ⟨u, by simp [dsForGo]⟩
  | n :: ns, t, h, l, u => by
    obtain ⟨δ2, e1, e2⟩ := l1_step a b c d t h l n u s8 s9 s10 s11
    obtain ⟨u', e3⟩ := l1 a b c d s8 s9 s10 s11 ns (t + n) (max h n) (min l n) (.val (.int n))
    refine ⟨u', ?_⟩
    simp only [List.map_cons, dsForGo, e1, Option.bind_some, e2, e3, List.sum_cons, List.foldl_cons, Int.add_assoc]
def ask (row : List (Option Int)) (k : Nat) : List W := [.tuple [.str (Str.ofString "sum"), .int (wr (somes row).sum)], .tuple [.str (Str.ofString "most"), .int (maxL (somes row))], .tuple [.str (Str.ofString "least"), .int (minL (somes row))], .tuple [.str (Str.ofString "ahead"), .int (wr (somes (row.take k)).sum)]]
theorem ask_due {row : List (Option Int)} {k : Nat} {d : W} (h : d ∈ ask row k) : ∃ w, d = .tuple [.str w, .int (due row k w)] := by
  simp only [ask, List.mem_cons, List.not_mem_nil, or_false] at h
  have n1 : ¬ Str.ofString "most" = Str.ofString "sum" := by decide +kernel
  have n2 : ¬ Str.ofString "least" = Str.ofString "sum" := by decide +kernel
  have n3 : ¬ Str.ofString "least" = Str.ofString "most" := by decide +kernel
  have n4 : ¬ Str.ofString "ahead" = Str.ofString "sum" := by decide +kernel
  have n5 : ¬ Str.ofString "ahead" = Str.ofString "most" := by decide +kernel
  have n6 : ¬ Str.ofString "ahead" = Str.ofString "least" := by decide +kernel
  rcases h with rfl | rfl | rfl | rfl
  · exact ⟨_, by rw [due, if_pos rfl]⟩
  · exact ⟨_, by rw [due, if_neg n1, if_pos rfl]⟩
  · exact ⟨_, by rw [due, if_neg n2, if_neg n3, if_pos rfl]⟩
  · exact ⟨_, by rw [due, if_neg n4, if_neg n5, if_neg n6]⟩
theorem l3 {row : List (Option Int)} (h : row.length ≤ 1000) (hb : Bd row) (h0 : somes row ≠ []) (k : Nat) (s1 s2 s3 s4 s5 s6 s8 s10 : Sl) : ∀ (ds : List W) (u v : Sl), (∀ d ∈ ds, ∃ w, d = .tuple [.str w, .int (due row k w)]) →
    ∃ u' v', dsForGo (dgTup 2 (dgCons (dgName 11) (dgCons (dgName 7) dgNil))) b__law_holds_2 ds [.val (.list (row.map opt)), s1, s2, s3, s4, s5, s6, u, s8, .val (.int k), s10, v] = some (.nx [.val (.list (row.map opt)), s1, s2, s3, s4, s5, s6, u', s8, .val (.int k), s10, v'])
  | [], u, v, _ => ⟨u, v, rfl⟩
  | d :: ds, u, v, hd => by
    obtain ⟨w, rfl⟩ := hd d (by simp)
    obtain ⟨u', v', e⟩ := l3 h hb h0 k s1 s2 s3 s4 s5 s6 s8 s10 ds (.val (.int (due row k w))) (.val (.str w)) fun x hx => hd x (by simp [hx])
    refine ⟨u', v', ?_⟩
    have e1 : b__law_holds_2 [.val (.list (row.map opt)), s1, s2, s3, s4, s5, s6, .val (.int (due row k w)), s8, .val (.int k), s10, .val (.str w)] = some (.nx [.val (.list (row.map opt)), s1, s2, s3, s4, s5, s6, .val (.int (due row k w)), s8, .val (.int k), s10, .val (.str w)]) := by
      simp (decide := true) only [b__law_holds_2, bodyD, outD, startD, dsNext, dsSeq, dsIf, dsRet, dsRetN, dsAsg, dsOwn, dsFrz, frz, dsFor, dsAppend, dsSetI, ownAt, dVar, dPk, dC, dOp, dCmp, dB, dTru, dNot, dNotV, dAndV, dOrV, dAnd, dOr, dCall, dCons, dNil, dTup, dLst, dOwn, dComp, dC1, dSeqOf, dgName, dgTup, dgCons, dgNil, dSlL, dPart, dNoPart, dEnum, dZip, dListOf, dAddL, liftD, slAt, dYes, dIf, gAdd_i, gSub_i, gDiv_n, gMod_n, gNeg_i, asB_b, asI_i, listD_l, seqD_l, seqD_t, gLen_l, gLen_t, gIx_l, gIx_t, cEq_i, cEq_s, cEq_b, cNe_i, cNe_s, cLt_i, cLe_i, cGt_i, cGe_i, cNotN_i, cNotN_n, cNotN_s, cNotN_l, cNotN_t, cIsN_i, cIsN_n, cIsN_s, cIsN_l, cIsN_t, isi_int, isi_bool, isi_str, List.length_cons, List.length_nil, List.map_cons, List.map_nil, List.replicate, List.nil_append, List.cons_append, List.getElem?_cons_zero, List.getElem?_cons_succ, List.set_cons_zero, List.set_cons_succ, Option.bind_some, Option.map_some, Option.bind_none, Option.map_none, Option.getD_some, Option.getD_none, Nat.reduceAdd, Nat.reduceSub, if_true, reduceIte, Nat.reduceEqDiff, decide_true, decide_false, Bool.not_true, Bool.not_false, Bool.false_eq_true, ne_eq, not_false_eq_true, p_join h hb h0, p_same]
    have e2 : dgTup 2 (dgCons (dgName 11) (dgCons (dgName 7) dgNil)) (.tuple [.str w, .int (due row k w)]) [.val (.list (row.map opt)), s1, s2, s3, s4, s5, s6, u, s8, .val (.int k), s10, v] = some [.val (.list (row.map opt)), s1, s2, s3, s4, s5, s6, .val (.int (due row k w)), s8, .val (.int k), s10, .val (.str w)] := rfl
    show (dgTup 2 (dgCons (dgName 11) (dgCons (dgName 7) dgNil)) (.tuple [.str w, .int (due row k w)]) _).bind _ = _
    rw [e2]
    show (match b__law_holds_2 _ with | some (.nx δ') => _ | some (.ct δ') => _ | some (.bk δ') => _ | some (.rt d) => _ | none => _) = _
    rw [e1]
    exact e
theorem cutW_mem {ds : List W} {lo hi : Option Int} {d : W} (h : d ∈ cutW ds lo hi) : d ∈ ds := List.mem_of_mem_drop (List.mem_of_mem_take h)
theorem cutW_len (ds : List W) (lo hi : Option Int) : (cutW ds lo hi).length ≤ ds.length := by
  unfold cutW
  rw [List.length_take, List.length_drop]
  omega
theorem cat_ask (row : List (Option Int)) (k : Nat) (t : Int) : gAdd (.list (cutW (ask row k) (some t) none)) (.list (cutW (ask row k) none (some t))) = some (.list (cutW (ask row k) (some t) none ++ cutW (ask row k) none (some t))) := by
  refine gAdd_l ?_
  have h1 := cutW_len (ask row k) (some t) none
  have h2 := cutW_len (ask row k) none (some t)
  have h3 : (ask row k).length = 4 := rfl
  have h4 : 8 ≤ sizeLine := by decide
  omega
theorem at_row {row : List (Option Int)} {k : Nat} (h : k < row.length) : atI (row.map opt) (k : Int) = some (opt row[k]) := by
  unfold atI ixN
  rw [if_pos (by omega), if_pos (by rw [List.length_map]; omega)]
  simp [h]
theorem somes_next {row : List (Option Int)} {k : Nat} (h : k < row.length) : (somes (row.take (k + 1))).sum = (somes (row.take k)).sum + (row[k].getD 0) := by
  rw [List.take_succ_eq_append_getElem h]
  unfold somes
  rw [List.filterMap_append, List.sum_append]
  cases row[k] <;> simp
theorem l2_step {row : List (Option Int)} (h : row.length ≤ 1000) (hb : Bd row) (h0 : somes row ≠ []) (t : Int) (s3 u s9 s10 s11 : Sl) (k : Nat) (hk : k < row.length) : ∃ δ2, dgName 9 (.int (0 + (k : Int))) [.val (.list (row.map opt)), .val (.int t), .val (.list (row.map opt)), s3, .val (.int (somes row).sum), .val (.int (maxL (somes row))), .val (.int (minL (somes row))), u, .val (.int (somes (row.take k)).sum), s9, s10, s11] = some δ2 ∧
    ∃ u' v9 v10 v11, b__law_holds_3 δ2 = some (.nx [.val (.list (row.map opt)), .val (.int t), .val (.list (row.map opt)), s3, .val (.int (somes row).sum), .val (.int (maxL (somes row))), .val (.int (minL (somes row))), u', .val (.int (somes (row.take (k + 1))).sum), v9, v10, v11]) := by
  refine ⟨_, rfl, ?_⟩
  rw [Int.zero_add]
  have e0 := at_row hk
  have e1 := somes_next hk
  cases hr : row[k] with
  | none =>
    rw [hr] at e0 e1
    refine ⟨u, .val (.int k), s10, s11, ?_⟩
    rw [e1]
    simp (decide := true) only [b__law_holds_3, bodyD, outD, startD, dsNext, dsSeq, dsIf, dsRet, dsRetN, dsAsg, dsOwn, dsFrz, frz, dsFor, dsAppend, dsSetI, ownAt, dVar, dPk, dC, dOp, dCmp, dB, dTru, dNot, dNotV, dAndV, dOrV, dAnd, dOr, dCall, dCons, dNil, dTup, dLst, dOwn, dComp, dC1, dSeqOf, dgName, dgTup, dgCons, dgNil, dSlL, dPart, dNoPart, dEnum, dZip, dListOf, dAddL, liftD, slAt, dYes, dIf, gAdd_i, gSub_i, gDiv_n, gMod_n, gNeg_i, asB_b, asI_i, listD_l, seqD_l, seqD_t, gLen_l, gLen_t, gIx_l, gIx_t, cEq_i, cEq_s, cEq_b, cNe_i, cNe_s, cLt_i, cLe_i, cGt_i, cGe_i, cNotN_i, cNotN_n, cNotN_s, cNotN_l, cNotN_t, cIsN_i, cIsN_n, cIsN_s, cIsN_l, cIsN_t, isi_int, isi_bool, isi_str, List.length_cons, List.length_nil, List.map_cons, List.map_nil, List.replicate, List.nil_append, List.cons_append, List.getElem?_cons_zero, List.getElem?_cons_succ, List.set_cons_zero, List.set_cons_succ, Option.bind_some, Option.map_some, Option.bind_none, Option.map_none, Option.getD_some, Option.getD_none, Nat.reduceAdd, Nat.reduceSub, if_true, reduceIte, Nat.reduceEqDiff, decide_true, decide_false, Bool.not_true, Bool.not_false, Bool.false_eq_true, ne_eq, not_false_eq_true, e0, opt, Int.add_zero]
  | some x =>
    rw [hr] at e0 e1
    obtain ⟨u', v', e3⟩ := l3 h hb h0 k (.val (.int t)) (.val (.list (row.map opt))) s3 (.val (.int (somes row).sum)) (.val (.int (maxL (somes row)))) (.val (.int (minL (somes row)))) (.val (.int (somes (row.take k)).sum)) (.val (.list (ask row k))) (cutW (ask row k) (some t) none ++ cutW (ask row k) none (some t)) u s11 (fun d hd => ask_due ((List.mem_append.mp hd).elim cutW_mem cutW_mem))
    have ec := cat_ask row k t
    unfold ask at e3 ec
    refine ⟨u', .val (.int k), .val (.list (ask row k)), v', ?_⟩
    rw [e1]
    have z : (1 : Nat) + 1 + 1 + 1 ≤ sizeLine := by decide
    have z2 : (1 : Nat) + 1 ≤ sizeLine := by decide
    have z3 : (4 : Nat) ≤ sizeLine := by decide
    have z4 : (2 : Nat) ≤ sizeLine := by decide
    simp (decide := true) only [b__law_holds_3, bodyD, outD, startD, dsNext, dsSeq, dsIf, dsRet, dsRetN, dsAsg, dsOwn, dsFrz, frz, dsFor, dsAppend, dsSetI, ownAt, dVar, dPk, dC, dOp, dCmp, dB, dTru, dNot, dNotV, dAndV, dOrV, dAnd, dOr, dCall, dCons, dNil, dTup, dLst, dOwn, dComp, dC1, dSeqOf, dgName, dgTup, dgCons, dgNil, dSlL, dPart, dNoPart, dEnum, dZip, dListOf, dAddL, liftD, slAt, dYes, dIf, gAdd_i, gSub_i, gDiv_n, gMod_n, gNeg_i, asB_b, asI_i, listD_l, seqD_l, seqD_t, gLen_l, gLen_t, gIx_l, gIx_t, cEq_i, cEq_s, cEq_b, cNe_i, cNe_s, cLt_i, cLe_i, cGt_i, cGe_i, cNotN_i, cNotN_n, cNotN_s, cNotN_l, cNotN_t, cIsN_i, cIsN_n, cIsN_s, cIsN_l, cIsN_t, isi_int, isi_bool, isi_str, List.length_cons, List.length_nil, List.map_cons, List.map_nil, List.replicate, List.nil_append, List.cons_append, List.getElem?_cons_zero, List.getElem?_cons_succ, List.set_cons_zero, List.set_cons_succ, Option.bind_some, Option.map_some, Option.bind_none, Option.map_none, Option.getD_some, Option.getD_none, Nat.reduceAdd, Nat.reduceSub, if_true, reduceIte, Nat.reduceEqDiff, decide_true, decide_false, Bool.not_true, Bool.not_false, Bool.false_eq_true, ne_eq, not_false_eq_true, e0, opt, p_in, z, z2, z3, z4, ec, e3, ask]
theorem eq_self (row : List (Option Int)) : cEq (.list (row.map opt)) (.list (row.map opt)) = some true := by
  have hp : ∀ r : List (Option Int), ∃ xs, W.pys (r.map opt) = some xs ∧ PyData.canLayAll0 xs = true ∧ PyData.eqvAll xs xs = true ∧ PyData.depthAll xs ≤ 1 := fun r => by
    induction r with
    | nil => exact ⟨[], rfl, rfl, rfl, by simp [PyData.depthAll]⟩
    | cons o r ih =>
      obtain ⟨xs, h1, h2, h3, h4⟩ := ih
      cases o with
      | none => exact ⟨.none :: xs, by simp [W.pys, opt, W.py, h1], by simp [PyData.canLayAll0, PyData.canLay0, h2], by simp [PyData.eqvAll, PyData.eqv, h3], by simp [PyData.depthAll, PyData.depth]; exact h4⟩
      | some i => exact ⟨.int i :: xs, by simp [W.pys, opt, W.py, h1], by simp [PyData.canLayAll0, PyData.canLay0, h2], by simp [PyData.eqvAll, PyData.eqv, h3], by simp [PyData.depthAll, PyData.depth]; exact h4⟩
  obtain ⟨xs, h1, h2, h3, h4⟩ := hp row
  have hd : (PyData.list xs).depth ≤ 64 := by
    simp only [PyData.depth]
    omega
  simp [cEq, scD, W.py, h1, PyData.canLay0, h2, hd, PyData.eqv, h3]
theorem rng_get {lo : Int} {n i : Nat} {d : W} (h : (rngD lo n)[i]? = some d) : i < n ∧ d = .int (lo + i) := by
  have hi : i < n := by
    have := (List.getElem?_eq_some_iff.mp h).1
    simpa [rngD] using this
  unfold rngD at h
  rw [List.getElem?_map, List.getElem?_range hi] at h
  cases h
  exact ⟨hi, rfl⟩
theorem rng3_get {lo c : Int} {n i : Nat} {d : W} (h : (rngD3 lo c n)[i]? = some d) : i < n ∧ d = .int (lo + i * c) := by
  have hi : i < n := by
    have := (List.getElem?_eq_some_iff.mp h).1
    simpa [rngD3] using this
  unfold rngD3 at h
  rw [List.getElem?_map, List.getElem?_range hi] at h
  cases h
  exact ⟨hi, rfl⟩
theorem p_hold {row : List (Option Int)} (h : row.length ≤ 1000) (hb : Bd row) (h0 : somes row ≠ []) (t : Int) : p__law_holds [.list (row.map opt), .int t] = some (.bool true) := by
  have e1 := comp_somes row
  have hz := opt_len row h
  unfold cN at e1
  obtain ⟨n, r, hs⟩ : ∃ n r, somes row = n :: r := by
    cases hh : somes row with
    | nil => exact absurd hh h0
    | cons n r => exact ⟨n, r, rfl⟩
  obtain ⟨u', e2⟩ := l1 (.val (.list (row.map opt))) (.val (.int t)) (.val (.list (row.map opt))) (.val (.list ((somes row).map .int))) .no .no .no .no (somes row) 0 n n .no
  have em : (somes row).foldl max n = maxL (somes row) := by
    rw [hs]
    show r.foldl max (max n n) = r.foldl max n
    rw [Int.max_self]
  have en : (somes row).foldl min n = minL (somes row) := by
    rw [hs]
    show r.foldl min (min n n) = r.foldl min n
    rw [Int.min_self]
  rw [em, en, Int.zero_add] at e2
  have ea : atI ((somes row).map W.int) 0 = some (.int n) := by
    rw [hs, List.map_cons, at0]
  obtain ⟨δ', e3, v7, v9, v10, v11, rfl⟩ := for_inv (h := dgName 9) (fb := b__law_holds_3) (fun k δ => ∃ u v9 v10 v11, δ = [.val (.list (row.map opt)), .val (.int t), .val (.list (row.map opt)), .val (.list ((somes row).map .int)), .val (.int (somes row).sum), .val (.int (maxL (somes row))), .val (.int (minL (somes row))), u, .val (.int (somes (row.take k)).sum), v9, v10, v11]) (rngD 0 row.length) 0 [.val (.list (row.map opt)), .val (.int t), .val (.list (row.map opt)), .val (.list ((somes row).map .int)), .val (.int (somes row).sum), .val (.int (maxL (somes row))), .val (.int (minL (somes row))), u', .val (.int 0), .no, .no, .no] ⟨_, _, _, _, rfl⟩ (by
    rintro i d δ hd ⟨u, v9, v10, v11, rfl⟩
    obtain ⟨hi, rfl⟩ := rng_get hd
    rw [Nat.zero_add]
    obtain ⟨δ2, e1, u', w9, w10, w11, e2⟩ := l2_step h hb h0 t (.val (.list ((somes row).map .int))) u v9 v10 v11 i hi
    exact ⟨δ2, e1, _, .inl e2, _, _, _, _, rfl⟩)
  refine body_run rfl ?_
  refine seq_run (asg_run (d := .list (row.map opt)) (by simp only [bodyD, outD, startD, dsNext, dsSeq, dsIf, dsRet, dsRetN, dsAsg, dsOwn, dsFrz, frz, dsFor, dsAppend, dsSetI, ownAt, dVar, dPk, dC, dOp, dCmp, dB, dTru, dNot, dNotV, dAndV, dOrV, dAnd, dOr, dCall, dCons, dNil, dTup, dLst, dOwn, dComp, dC1, dSeqOf, dgName, dgTup, dgCons, dgNil, dSlL, dPart, dNoPart, dEnum, dZip, dListOf, dAddL, liftD, slAt, dYes, dIf, gAdd_i, gSub_i, gDiv_n, gMod_n, gNeg_i, asB_b, asI_i, listD_l, seqD_l, seqD_t, gLen_l, gLen_t, gIx_l, gIx_t, cEq_i, cEq_s, cEq_b, cNe_i, cNe_s, cLt_i, cLe_i, cGt_i, cGe_i, cNotN_i, cNotN_n, cNotN_s, cNotN_l, cNotN_t, cIsN_i, cIsN_n, cIsN_s, cIsN_l, cIsN_t, isi_int, isi_bool, isi_str, List.length_cons, List.length_nil, List.map_cons, List.map_nil, List.replicate, List.nil_append, List.cons_append, List.getElem?_cons_zero, List.getElem?_cons_succ, List.set_cons_zero, List.set_cons_succ, Option.bind_some, Option.map_some, Option.bind_none, Option.map_none, Option.getD_some, Option.getD_none, Nat.reduceAdd, Nat.reduceSub, if_true, reduceIte, Nat.reduceEqDiff, decide_true, decide_false, Bool.not_true, Bool.not_false, Bool.false_eq_true, ne_eq, not_false_eq_true]) rfl) ?_
  refine seq_run (asg_run (d := .list ((somes row).map .int)) (by simp only [bodyD, outD, startD, dsNext, dsSeq, dsIf, dsRet, dsRetN, dsAsg, dsOwn, dsFrz, frz, dsFor, dsAppend, dsSetI, ownAt, dVar, dPk, dC, dOp, dCmp, dB, dTru, dNot, dNotV, dAndV, dOrV, dAnd, dOr, dCall, dCons, dNil, dTup, dLst, dOwn, dComp, dC1, dSeqOf, dgName, dgTup, dgCons, dgNil, dSlL, dPart, dNoPart, dEnum, dZip, dListOf, dAddL, liftD, slAt, dYes, dIf, gAdd_i, gSub_i, gDiv_n, gMod_n, gNeg_i, asB_b, asI_i, listD_l, seqD_l, seqD_t, gLen_l, gLen_t, gIx_l, gIx_t, cEq_i, cEq_s, cEq_b, cNe_i, cNe_s, cLt_i, cLe_i, cGt_i, cGe_i, cNotN_i, cNotN_n, cNotN_s, cNotN_l, cNotN_t, cIsN_i, cIsN_n, cIsN_s, cIsN_l, cIsN_t, isi_int, isi_bool, isi_str, List.length_cons, List.length_nil, List.map_cons, List.map_nil, List.replicate, List.nil_append, List.cons_append, List.getElem?_cons_zero, List.getElem?_cons_succ, List.set_cons_zero, List.set_cons_succ, Option.bind_some, Option.map_some, Option.bind_none, Option.map_none, Option.getD_some, Option.getD_none, Nat.reduceAdd, Nat.reduceSub, if_true, reduceIte, Nat.reduceEqDiff, decide_true, decide_false, Bool.not_true, Bool.not_false, Bool.false_eq_true, ne_eq, not_false_eq_true, e1, if_pos hz]) rfl) ?_
  refine seq_run (asg_run (d := .int 0) rfl rfl) ?_
  refine seq_run (asg_run (d := .int n) (by simp only [bodyD, outD, startD, dsNext, dsSeq, dsIf, dsRet, dsRetN, dsAsg, dsOwn, dsFrz, frz, dsFor, dsAppend, dsSetI, ownAt, dVar, dPk, dC, dOp, dCmp, dB, dTru, dNot, dNotV, dAndV, dOrV, dAnd, dOr, dCall, dCons, dNil, dTup, dLst, dOwn, dComp, dC1, dSeqOf, dgName, dgTup, dgCons, dgNil, dSlL, dPart, dNoPart, dEnum, dZip, dListOf, dAddL, liftD, slAt, dYes, dIf, gAdd_i, gSub_i, gDiv_n, gMod_n, gNeg_i, asB_b, asI_i, listD_l, seqD_l, seqD_t, gLen_l, gLen_t, gIx_l, gIx_t, cEq_i, cEq_s, cEq_b, cNe_i, cNe_s, cLt_i, cLe_i, cGt_i, cGe_i, cNotN_i, cNotN_n, cNotN_s, cNotN_l, cNotN_t, cIsN_i, cIsN_n, cIsN_s, cIsN_l, cIsN_t, isi_int, isi_bool, isi_str, List.length_cons, List.length_nil, List.map_cons, List.map_nil, List.replicate, List.nil_append, List.cons_append, List.getElem?_cons_zero, List.getElem?_cons_succ, List.set_cons_zero, List.set_cons_succ, Option.bind_some, Option.map_some, Option.bind_none, Option.map_none, Option.getD_some, Option.getD_none, Nat.reduceAdd, Nat.reduceSub, if_true, reduceIte, Nat.reduceEqDiff, decide_true, decide_false, Bool.not_true, Bool.not_false, Bool.false_eq_true, ne_eq, not_false_eq_true, ea]) rfl) ?_
  refine seq_run (asg_run (d := .int n) (by simp only [bodyD, outD, startD, dsNext, dsSeq, dsIf, dsRet, dsRetN, dsAsg, dsOwn, dsFrz, frz, dsFor, dsAppend, dsSetI, ownAt, dVar, dPk, dC, dOp, dCmp, dB, dTru, dNot, dNotV, dAndV, dOrV, dAnd, dOr, dCall, dCons, dNil, dTup, dLst, dOwn, dComp, dC1, dSeqOf, dgName, dgTup, dgCons, dgNil, dSlL, dPart, dNoPart, dEnum, dZip, dListOf, dAddL, liftD, slAt, dYes, dIf, gAdd_i, gSub_i, gDiv_n, gMod_n, gNeg_i, asB_b, asI_i, listD_l, seqD_l, seqD_t, gLen_l, gLen_t, gIx_l, gIx_t, cEq_i, cEq_s, cEq_b, cNe_i, cNe_s, cLt_i, cLe_i, cGt_i, cGe_i, cNotN_i, cNotN_n, cNotN_s, cNotN_l, cNotN_t, cIsN_i, cIsN_n, cIsN_s, cIsN_l, cIsN_t, isi_int, isi_bool, isi_str, List.length_cons, List.length_nil, List.map_cons, List.map_nil, List.replicate, List.nil_append, List.cons_append, List.getElem?_cons_zero, List.getElem?_cons_succ, List.set_cons_zero, List.set_cons_succ, Option.bind_some, Option.map_some, Option.bind_none, Option.map_none, Option.getD_some, Option.getD_none, Nat.reduceAdd, Nat.reduceSub, if_true, reduceIte, Nat.reduceEqDiff, decide_true, decide_false, Bool.not_true, Bool.not_false, Bool.false_eq_true, ne_eq, not_false_eq_true, ea]) rfl) ?_
  refine seq_run (for_run rfl e2) ?_
  refine seq_run (asg_run (d := .int 0) rfl rfl) ?_
  refine seq_run (for_run (rng1_run (n := row.length) (by simp only [bodyD, outD, startD, dsNext, dsSeq, dsIf, dsRet, dsRetN, dsAsg, dsOwn, dsFrz, frz, dsFor, dsAppend, dsSetI, ownAt, dVar, dPk, dC, dOp, dCmp, dB, dTru, dNot, dNotV, dAndV, dOrV, dAnd, dOr, dCall, dCons, dNil, dTup, dLst, dOwn, dComp, dC1, dSeqOf, dgName, dgTup, dgCons, dgNil, dSlL, dPart, dNoPart, dEnum, dZip, dListOf, dAddL, liftD, slAt, dYes, dIf, gAdd_i, gSub_i, gDiv_n, gMod_n, gNeg_i, asB_b, asI_i, listD_l, seqD_l, seqD_t, gLen_l, gLen_t, gIx_l, gIx_t, cEq_i, cEq_s, cEq_b, cNe_i, cNe_s, cLt_i, cLe_i, cGt_i, cGe_i, cNotN_i, cNotN_n, cNotN_s, cNotN_l, cNotN_t, cIsN_i, cIsN_n, cIsN_s, cIsN_l, cIsN_t, isi_int, isi_bool, isi_str, List.length_cons, List.length_nil, List.map_cons, List.map_nil, List.replicate, List.nil_append, List.cons_append, List.getElem?_cons_zero, List.getElem?_cons_succ, List.set_cons_zero, List.set_cons_succ, Option.bind_some, Option.map_some, Option.bind_none, Option.map_none, Option.getD_some, Option.getD_none, Nat.reduceAdd, Nat.reduceSub, if_true, reduceIte, Nat.reduceEqDiff, decide_true, decide_false, Bool.not_true, Bool.not_false, Bool.false_eq_true, ne_eq, not_false_eq_true, List.length_map]) (by omega)) e3) ?_
  exact ret_run (by simp only [bodyD, outD, startD, dsNext, dsSeq, dsIf, dsRet, dsRetN, dsAsg, dsOwn, dsFrz, frz, dsFor, dsAppend, dsSetI, ownAt, dVar, dPk, dC, dOp, dCmp, dB, dTru, dNot, dNotV, dAndV, dOrV, dAnd, dOr, dCall, dCons, dNil, dTup, dLst, dOwn, dComp, dC1, dSeqOf, dgName, dgTup, dgCons, dgNil, dSlL, dPart, dNoPart, dEnum, dZip, dListOf, dAddL, liftD, slAt, dYes, dIf, gAdd_i, gSub_i, gDiv_n, gMod_n, gNeg_i, asB_b, asI_i, listD_l, seqD_l, seqD_t, gLen_l, gLen_t, gIx_l, gIx_t, cEq_i, cEq_s, cEq_b, cNe_i, cNe_s, cLt_i, cLe_i, cGt_i, cGe_i, cNotN_i, cNotN_n, cNotN_s, cNotN_l, cNotN_t, cIsN_i, cIsN_n, cIsN_s, cIsN_l, cIsN_t, isi_int, isi_bool, isi_str, List.length_cons, List.length_nil, List.map_cons, List.map_nil, List.replicate, List.nil_append, List.cons_append, List.getElem?_cons_zero, List.getElem?_cons_succ, List.set_cons_zero, List.set_cons_succ, Option.bind_some, Option.map_some, Option.bind_none, Option.map_none, Option.getD_some, Option.getD_none, Nat.reduceAdd, Nat.reduceSub, if_true, reduceIte, Nat.reduceEqDiff, decide_true, decide_false, Bool.not_true, Bool.not_false, Bool.false_eq_true, ne_eq, not_false_eq_true, eq_self])
theorem cut_two (cs : List Int) (a b : Nat) : cutW (cs.map W.int) (some (a : Int)) (some (b : Int)) = ((cs.drop a).take (b - a)).map W.int := by
  unfold cutW
  rw [HT.sIx_nat, HT.sIx_nat, ← List.map_drop, ← List.map_take, List.length_map]
  congr 1
  rcases Nat.le_total a cs.length with ha | ha
  · rw [Nat.min_eq_left ha]
    rcases Nat.le_total b cs.length with hb | hb
    · rw [Nat.min_eq_left hb]
    · rw [Nat.min_eq_right hb, List.take_of_length_le (by rw [List.length_drop]; omega), List.take_of_length_le (by rw [List.length_drop]; omega)]
  · rw [Nat.min_eq_right ha, List.drop_of_length_le (Nat.le_refl _), List.drop_of_length_le ha]
    simp
theorem law_step (s0 : Sl) (w : Nat) (cs : List Int) (hl : cs.length ≤ 100) (w0 : 0 < w) (w8 : w ≤ 8) (v3 v4 : Sl) (st : Nat) (hs : st < cs.length) : ∃ δ2, dgName 3 (.int st) [s0, .val (.int w), .val (.list (cs.map .int)), v3, v4] = some δ2 ∧ ∃ u3 u4, b_law_1 δ2 = some (.nx [s0, .val (.int w), .val (.list (cs.map .int)), u3, u4]) := by
  refine ⟨_, rfl, ?_⟩
  have hc := cut_two cs st (st + w)
  have hn : (cs.drop st).take (st + w - st) ≠ [] := by
    intro e
    have := congrArg List.length e
    rw [List.length_take, List.length_drop] at this
    simp at this
    omega
  have hk : ((cs.drop st).take (st + w - st)).length ≤ 8 := by rw [List.length_take]; omega
  obtain ⟨c, r, hr⟩ : ∃ c r, (cs.drop st).take (st + w - st) = c :: r := by
    cases hh : (cs.drop st).take (st + w - st) with
    | nil => exact absurd hh hn
    | cons c r => exact ⟨c, r, rfl⟩
  rw [hr] at hc hk
  obtain ⟨row, e1, h1, h2, h3⟩ := p_rw c r st (by omega) (by omega) (by omega)
  have ea : atI (cs.map W.int) (st : Int) = some (.int cs[st]) := by
    unfold atI ixN
    rw [if_pos (by omega), if_pos (by rw [List.length_map]; omega)]
    simp [hs]
  have e2 := p_hold (row := row) (by omega) h3 h2 (cs[st].fmod 4)
  rw [List.map_cons] at e1 hc
  refine ⟨.val (.int st), .val (.list (row.map opt)), ?_⟩
  have ec : ((st : Int) + (w : Int)) = ((st + w : Nat) : Int) := by omega
  simp (decide := true) only [b_law_1, bodyD, outD, startD, dsNext, dsSeq, dsIf, dsRet, dsRetN, dsAsg, dsOwn, dsFrz, frz, dsFor, dsAppend, dsSetI, ownAt, dVar, dPk, dC, dOp, dCmp, dB, dTru, dNot, dNotV, dAndV, dOrV, dAnd, dOr, dCall, dCons, dNil, dTup, dLst, dOwn, dComp, dC1, dSeqOf, dgName, dgTup, dgCons, dgNil, dSlL, dPart, dNoPart, dEnum, dZip, dListOf, dAddL, liftD, slAt, dYes, dIf, gAdd_i, gSub_i, gDiv_n, gMod_n, gNeg_i, asB_b, asI_i, listD_l, seqD_l, seqD_t, gLen_l, gLen_t, gIx_l, gIx_t, cEq_i, cEq_s, cEq_b, cNe_i, cNe_s, cLt_i, cLe_i, cGt_i, cGe_i, cNotN_i, cNotN_n, cNotN_s, cNotN_l, cNotN_t, cIsN_i, cIsN_n, cIsN_s, cIsN_l, cIsN_t, isi_int, isi_bool, isi_str, List.length_cons, List.length_nil, List.map_cons, List.map_nil, List.replicate, List.nil_append, List.cons_append, List.getElem?_cons_zero, List.getElem?_cons_succ, List.set_cons_zero, List.set_cons_succ, Option.bind_some, Option.map_some, Option.bind_none, Option.map_none, Option.getD_some, Option.getD_none, Nat.reduceAdd, Nat.reduceSub, if_true, reduceIte, Nat.reduceEqDiff, decide_true, decide_false, Bool.not_true, Bool.not_false, Bool.false_eq_true, ne_eq, not_false_eq_true, ec, hc, e1, ea, e2]
theorem law_true (ns : List Int) (h : ns.length ≤ 63) : p_law [.list (ns.map .int)] = some (.bool true) := by
  obtain ⟨m, e1⟩ := p_cell ns
  have m0 := mod_lo m (m := 8) (by decide)
  have m1 := mod_hi m (m := 8) (by decide)
  obtain ⟨w, hw⟩ : ∃ w : Nat, 1 + m.fmod 8 = w := ⟨(1 + m.fmod 8).toNat, by omega⟩
  have e2 := cut_two ns 1 97
  have ec : ((ns.drop 1).take (97 - 1)).map W.int ++ [W.int 7] = (((ns.drop 1).take (97 - 1)) ++ [7]).map W.int := by simp
  have hl : ((ns.drop 1).take (97 - 1) ++ [7]).length ≤ 100 := by
    rw [List.length_append, List.length_take]
    simp
    omega
  have ed : gAdd (.list (((ns.drop 1).take (97 - 1)).map W.int)) (.list [.int 7]) = some (.list ((((ns.drop 1).take (97 - 1)) ++ [7]).map W.int)) := by
    rw [← ec]
    refine gAdd_l ?_
    rw [List.length_map]
    have z : 101 ≤ sizeLine := by decide
    rw [List.length_append] at hl
    simp at hl ⊢
    omega
  have hcp : 0 < ((ns.drop 1).take (97 - 1) ++ [7]).length := by simp
  generalize (ns.drop 1).take (97 - 1) ++ [7] = cs at hl ed hcp
  have hok : rOkB 0 ((cs.map W.int).length : Int) w = true := by
    rw [List.length_map]
    simp only [rOkB, Bool.and_eq_true, decide_eq_true_eq]
    omega
  obtain ⟨δ', e3, v3, v4, rfl⟩ := for_inv (h := dgName 3) (fb := b_law_1) (fun _ δ => ∃ v3 v4, δ = [.val (.list (ns.map .int)), .val (.int w), .val (.list (cs.map .int)), v3, v4]) (rngD3 0 w (rN 0 ((cs.map W.int).length : Int) w)) 0 [.val (.list (ns.map .int)), .val (.int w), .val (.list (cs.map .int)), .no, .no] ⟨_, _, rfl⟩ (by
    rintro i d δ hd ⟨v3, v4, rfl⟩
    obtain ⟨hi, rfl⟩ := rng3_get hd
    have hs : i * w < cs.length := by
      rw [List.length_map] at hi
      unfold rN at hi
      have hcl : 0 < cs.length := hcp
      rw [if_pos (by omega)] at hi
      have hd0 : 0 ≤ ((cs.length : Int) - 0 - 1) / (w : Int) := Int.ediv_nonneg (by omega) (by omega)
      have hi2 : (i : Int) ≤ ((cs.length : Int) - 0 - 1) / (w : Int) := by omega
      have h3 := (Int.le_ediv_iff_mul_le (by omega : (0 : Int) < w)).mp hi2
      have h4 : ((i * w : Nat) : Int) = (i : Int) * (w : Int) := by push_cast; rfl
      omega
    obtain ⟨δ2, e4, u3, u4, e5⟩ := law_step (.val (.list (ns.map .int))) w cs hl (by omega) (by omega) v3 v4 (i * w) hs
    refine ⟨δ2, ?_, _, .inl e5, _, _, rfl⟩
    rw [Int.zero_add, ← Int.natCast_mul]
    exact e4)
  have z1 : (1 : Nat) ≤ sizeLine := by decide
  refine body_run rfl ?_
  refine seq_run (asg_run (d := .int w) (by simp (decide := true) only [bodyD, outD, startD, dsNext, dsSeq, dsIf, dsRet, dsRetN, dsAsg, dsOwn, dsFrz, frz, dsFor, dsAppend, dsSetI, ownAt, dVar, dPk, dC, dOp, dCmp, dB, dTru, dNot, dNotV, dAndV, dOrV, dAnd, dOr, dCall, dCons, dNil, dTup, dLst, dOwn, dComp, dC1, dSeqOf, dgName, dgTup, dgCons, dgNil, dSlL, dPart, dNoPart, dEnum, dZip, dListOf, dAddL, liftD, slAt, dYes, dIf, gAdd_i, gSub_i, gDiv_n, gMod_n, gNeg_i, asB_b, asI_i, listD_l, seqD_l, seqD_t, gLen_l, gLen_t, gIx_l, gIx_t, cEq_i, cEq_s, cEq_b, cNe_i, cNe_s, cLt_i, cLe_i, cGt_i, cGe_i, cNotN_i, cNotN_n, cNotN_s, cNotN_l, cNotN_t, cIsN_i, cIsN_n, cIsN_s, cIsN_l, cIsN_t, isi_int, isi_bool, isi_str, List.length_cons, List.length_nil, List.map_cons, List.map_nil, List.replicate, List.nil_append, List.cons_append, List.getElem?_cons_zero, List.getElem?_cons_succ, List.set_cons_zero, List.set_cons_succ, Option.bind_some, Option.map_some, Option.bind_none, Option.map_none, Option.getD_some, Option.getD_none, Nat.reduceAdd, Nat.reduceSub, if_true, reduceIte, Nat.reduceEqDiff, decide_true, decide_false, Bool.not_true, Bool.not_false, Bool.false_eq_true, ne_eq, not_false_eq_true, e1, hw]) rfl) ?_
  refine seq_run (asg_run (d := .list (cs.map .int)) ?_ rfl) ?_
  · have e2' : cutW (ns.map W.int) (some 1) (some 97) = ((ns.drop 1).take (97 - 1)).map W.int := e2
    simp only [bodyD, outD, startD, dsNext, dsSeq, dsIf, dsRet, dsRetN, dsAsg, dsOwn, dsFrz, frz, dsFor, dsAppend, dsSetI, ownAt, dVar, dPk, dC, dOp, dCmp, dB, dTru, dNot, dNotV, dAndV, dOrV, dAnd, dOr, dCall, dCons, dNil, dTup, dLst, dOwn, dComp, dC1, dSeqOf, dgName, dgTup, dgCons, dgNil, dSlL, dPart, dNoPart, dEnum, dZip, dListOf, dAddL, liftD, slAt, dYes, dIf, gAdd_i, gSub_i, gDiv_n, gMod_n, gNeg_i, asB_b, asI_i, listD_l, seqD_l, seqD_t, gLen_l, gLen_t, gIx_l, gIx_t, cEq_i, cEq_s, cEq_b, cNe_i, cNe_s, cLt_i, cLe_i, cGt_i, cGe_i, cNotN_i, cNotN_n, cNotN_s, cNotN_l, cNotN_t, cIsN_i, cIsN_n, cIsN_s, cIsN_l, cIsN_t, isi_int, isi_bool, isi_str, List.length_cons, List.length_nil, List.map_cons, List.map_nil, List.replicate, List.nil_append, List.cons_append, List.getElem?_cons_zero, List.getElem?_cons_succ, List.set_cons_zero, List.set_cons_succ, Option.bind_some, Option.map_some, Option.bind_none, Option.map_none, Option.getD_some, Option.getD_none, Nat.reduceAdd, Nat.reduceSub, if_true, reduceIte, Nat.reduceEqDiff, decide_true, decide_false, Bool.not_true, Bool.not_false, Bool.false_eq_true, ne_eq, not_false_eq_true, e2', ed, if_pos z1]
  refine seq_run (for_run (rng3_run (a := 0) (b := ((cs.map W.int).length : Int)) (c := w) (by simp only [bodyD, outD, startD, dsNext, dsSeq, dsIf, dsRet, dsRetN, dsAsg, dsOwn, dsFrz, frz, dsFor, dsAppend, dsSetI, ownAt, dVar, dPk, dC, dOp, dCmp, dB, dTru, dNot, dNotV, dAndV, dOrV, dAnd, dOr, dCall, dCons, dNil, dTup, dLst, dOwn, dComp, dC1, dSeqOf, dgName, dgTup, dgCons, dgNil, dSlL, dPart, dNoPart, dEnum, dZip, dListOf, dAddL, liftD, slAt, dYes, dIf, gAdd_i, gSub_i, gDiv_n, gMod_n, gNeg_i, asB_b, asI_i, listD_l, seqD_l, seqD_t, gLen_l, gLen_t, gIx_l, gIx_t, cEq_i, cEq_s, cEq_b, cNe_i, cNe_s, cLt_i, cLe_i, cGt_i, cGe_i, cNotN_i, cNotN_n, cNotN_s, cNotN_l, cNotN_t, cIsN_i, cIsN_n, cIsN_s, cIsN_l, cIsN_t, isi_int, isi_bool, isi_str, List.length_cons, List.length_nil, List.map_cons, List.map_nil, List.replicate, List.nil_append, List.cons_append, List.getElem?_cons_zero, List.getElem?_cons_succ, List.set_cons_zero, List.set_cons_succ, Option.bind_some, Option.map_some, Option.bind_none, Option.map_none, Option.getD_some, Option.getD_none, Nat.reduceAdd, Nat.reduceSub, if_true, reduceIte, Nat.reduceEqDiff, decide_true, decide_false, Bool.not_true, Bool.not_false, Bool.false_eq_true, ne_eq, not_false_eq_true]) hok) e3) ?_
  exact ret_run rfl
theorem all_mk {l : PySem.W.OpenLaw} {w : World} {K : PySem.W.Frag} {h : Heap} {mg : Str → Option Value} {fa : Addr} (X : K.In h) (G : h.Ns mainGlobals mg) (hfa : mg "law" = some (.ref fa)) {f0 : Addr} {od0 an0 : Option Addr} {sl0 : Array (Option Value)} {oc0 kV0 dc0 pm0 cd0 ct0 : Value} {f1 : Addr} {od1 an1 : Option Addr} {sl1 : Array (Option Value)} {oc1 kV1 dc1 pm1 cd1 ct1 : Value} {f2 : Addr} {od2 an2 : Option Addr} {sl2 : Array (Option Value)} {oc2 kV2 dc2 pm2 cd2 ct2 : Value} {f3 : Addr} {od3 an3 : Option Addr} {sl3 : Array (Option Value)} {oc3 kV3 dc3 pm3 cd3 ct3 : Value} {f4 : Addr} {od4 an4 : Option Addr} {sl4 : Array (Option Value)} {oc4 kV4 dc4 pm4 cd4 ct4 : Value} {f5 : Addr} {od5 an5 : Option Addr} {sl5 : Array (Option Value)} {oc5 kV5 dc5 pm5 cd5 ct5 : Value} {f6 : Addr} {od6 an6 : Option Addr} {sl6 : Array (Option Value)} {oc6 kV6 dc6 pm6 cd6 ct6 : Value} {f7 : Addr} {od7 an7 : Option Addr} {sl7 : Array (Option Value)} {oc7 kV7 dc7 pm7 cd7 ct7 : Value} {f8 : Addr} {od8 an8 : Option Addr} {sl8 : Array (Option Value)} {oc8 kV8 dc8 pm8 cd8 ct8 : Value} {f9 : Addr} {od9 an9 : Option Addr} {sl9 : Array (Option Value)} {oc9 kV9 dc9 pm9 cd9 ct9 : Value} {t_LEAST : Tok} {t_SPAN : Tok}
    (a0 : PySem.W.nsIn K mainGlobals "wrapped" = some (some (.ref f0)))
    (l0 : K.lookup f0 = some ⟨oc0, od0, .func (PySem.W.fnOf "wrapped" "wrapped" (defArgs s_wrapped) (defBody s_wrapped) (defScope s_wrapped) .none kV0 dc0 pm0 an0 cd0 ct0), sl0⟩)
    (c0 : PySem.W.codeIn K cd0 "wrapped" = true)
    (k0 : PySem.W.keepIn K (.ref f0) = true)
    (a1 : PySem.W.nsIn K mainGlobals "joined" = some (some (.ref f1)))
    (l1 : K.lookup f1 = some ⟨oc1, od1, .func (PySem.W.fnOf "joined" "joined" (defArgs s_joined) (defBody s_joined) (defScope s_joined) .none kV1 dc1 pm1 an1 cd1 ct1), sl1⟩)
    (c1 : PySem.W.codeIn K cd1 "joined" = true)
    (k1 : PySem.W.keepIn K (.ref f1) = true)
    (a2 : PySem.W.nsIn K mainGlobals "_law_cell" = some (some (.ref f2)))
    (l2 : K.lookup f2 = some ⟨oc2, od2, .func (PySem.W.fnOf "_law_cell" "_law_cell" (defArgs s__law_cell) (defBody s__law_cell) (defScope s__law_cell) .none kV2 dc2 pm2 an2 cd2 ct2), sl2⟩)
    (c2 : PySem.W.codeIn K cd2 "_law_cell" = true)
    (k2 : PySem.W.keepIn K (.ref f2) = true)
    (a3 : PySem.W.nsIn K mainGlobals "_law_same" = some (some (.ref f3)))
    (l3 : K.lookup f3 = some ⟨oc3, od3, .func (PySem.W.fnOf "_law_same" "_law_same" (defArgs s__law_same) (defBody s__law_same) (defScope s__law_same) .none kV3 dc3 pm3 an3 cd3 ct3), sl3⟩)
    (c3 : PySem.W.codeIn K cd3 "_law_same" = true)
    (k3 : PySem.W.keepIn K (.ref f3) = true)
    (a4 : PySem.W.nsIn K mainGlobals "_law_into_range" = some (some (.ref f4)))
    (l4 : K.lookup f4 = some ⟨oc4, od4, .func (PySem.W.fnOf "_law_into_range" "_law_into_range" (defArgs s__law_into_range) (defBody s__law_into_range) (defScope s__law_into_range) .none kV4 dc4 pm4 an4 cd4 ct4), sl4⟩)
    (c4 : PySem.W.codeIn K cd4 "_law_into_range" = true)
    (k4 : PySem.W.keepIn K (.ref f4) = true)
    (a5 : PySem.W.nsIn K mainGlobals "_law_mixed" = some (some (.ref f5)))
    (l5 : K.lookup f5 = some ⟨oc5, od5, .func (PySem.W.fnOf "_law_mixed" "_law_mixed" (defArgs s__law_mixed) (defBody s__law_mixed) (defScope s__law_mixed) .none kV5 dc5 pm5 an5 cd5 ct5), sl5⟩)
    (c5 : PySem.W.codeIn K cd5 "_law_mixed" = true)
    (k5 : PySem.W.keepIn K (.ref f5) = true)
    (a6 : PySem.W.nsIn K mainGlobals "_law_number" = some (some (.ref f6)))
    (l6 : K.lookup f6 = some ⟨oc6, od6, .func (PySem.W.fnOf "_law_number" "_law_number" (defArgs s__law_number) (defBody s__law_number) (defScope s__law_number) .none kV6 dc6 pm6 an6 cd6 ct6), sl6⟩)
    (c6 : PySem.W.codeIn K cd6 "_law_number" = true)
    (k6 : PySem.W.keepIn K (.ref f6) = true)
    (a7 : PySem.W.nsIn K mainGlobals "_law_row" = some (some (.ref f7)))
    (l7 : K.lookup f7 = some ⟨oc7, od7, .func (PySem.W.fnOf "_law_row" "_law_row" (defArgs s__law_row) (defBody s__law_row) (defScope s__law_row) .none kV7 dc7 pm7 an7 cd7 ct7), sl7⟩)
    (c7 : PySem.W.codeIn K cd7 "_law_row" = true)
    (k7 : PySem.W.keepIn K (.ref f7) = true)
    (a8 : PySem.W.nsIn K mainGlobals "_law_holds" = some (some (.ref f8)))
    (l8 : K.lookup f8 = some ⟨oc8, od8, .func (PySem.W.fnOf "_law_holds" "_law_holds" (defArgs s__law_holds) (defBody s__law_holds) (defScope s__law_holds) .none kV8 dc8 pm8 an8 cd8 ct8), sl8⟩)
    (c8 : PySem.W.codeIn K cd8 "_law_holds" = true)
    (k8 : PySem.W.keepIn K (.ref f8) = true)
    (a9 : PySem.W.nsIn K mainGlobals "law" = some (some (.ref f9)))
    (l9 : K.lookup f9 = some ⟨oc9, od9, .func (PySem.W.fnOf "law" "law" (defArgs s_law) (defBody s_law) (defScope s_law) .none kV9 dc9 pm9 an9 cd9 ct9), sl9⟩)
    (c9 : PySem.W.codeIn K cd9 "law" = true)
    (k9 : PySem.W.keepIn K (.ref f9) = true)
    (zz_bool : PySem.W.nsIn K mainGlobals "bool" = some none)
    (zz_enumerate : PySem.W.nsIn K mainGlobals "enumerate" = some none)
    (zz_int : PySem.W.nsIn K mainGlobals "int" = some none)
    (zz_isinstance : PySem.W.nsIn K mainGlobals "isinstance" = some none)
    (zz_len : PySem.W.nsIn K mainGlobals "len" = some none)
    (zz_list : PySem.W.nsIn K mainGlobals "list" = some none)
    (zz_max : PySem.W.nsIn K mainGlobals "max" = some none)
    (zz_min : PySem.W.nsIn K mainGlobals "min" = some none)
    (zz_range : PySem.W.nsIn K mainGlobals "range" = some none)
    (zz_sum : PySem.W.nsIn K mainGlobals "sum" = some none)
    (mm_LEAST : PySem.W.nsIn K mainGlobals "LEAST" = some (some (.int (-2147483648) t_LEAST)))
    (mm_SPAN : PySem.W.nsIn K mainGlobals "SPAN" = some (some (.int 4294967296 t_SPAN))) :
    ∃ fd : FuncData, (∀ (s : Shared) (v : Value), BindsTo s fd ⟨[v], []⟩ [("_law_script", v)]) ∧ ∀ base : Heap, K.In base → base.Ns mainGlobals mg → FnOk l.prog w K mg base CX0 4 fa fd ["_law_script"] (sp_law K) := by
  have e := hfa.symm.trans (PySem.W.mg_of X G a9)
  cases e
  have F_wrapped := fun_mk (st := s_wrapped) l0 c0 k0
  have d_wrapped : Df K mg "wrapped" s_wrapped ["n"] f0 _ := ⟨F_wrapped, F_wrapped.binds (ps := ["n"]) fun _ _ _ _ _ _ us hl => match us, hl with | [_], _ => rfl, PySem.W.mg_of X G a0⟩
  have F_joined := fun_mk (st := s_joined) l1 c1 k1
  have d_joined : Df K mg "joined" s_joined ["word", "brought", "lane"] f1 _ := ⟨F_joined, F_joined.binds (ps := ["word", "brought", "lane"]) fun _ _ _ _ _ _ us hl => match us, hl with | [_, _, _], _ => rfl, PySem.W.mg_of X G a1⟩
  have F__law_cell := fun_mk (st := s__law_cell) l2 c2 k2
  have d__law_cell : Df K mg "_law_cell" s__law_cell ["_law_script", "_law_k"] f2 _ := ⟨F__law_cell, F__law_cell.binds (ps := ["_law_script", "_law_k"]) fun _ _ _ _ _ _ us hl => match us, hl with | [_, _], _ => rfl, PySem.W.mg_of X G a2⟩
  have F__law_same := fun_mk (st := s__law_same) l3 c3 k3
  have d__law_same : Df K mg "_law_same" s__law_same ["_law_found", "_law_number_here"] f3 _ := ⟨F__law_same, F__law_same.binds (ps := ["_law_found", "_law_number_here"]) fun _ _ _ _ _ _ us hl => match us, hl with | [_, _], _ => rfl, PySem.W.mg_of X G a3⟩
  have F__law_into_range := fun_mk (st := s__law_into_range) l4 c4 k4
  have d__law_into_range : Df K mg "_law_into_range" s__law_into_range ["_law_number_here"] f4 _ := ⟨F__law_into_range, F__law_into_range.binds (ps := ["_law_number_here"]) fun _ _ _ _ _ _ us hl => match us, hl with | [_], _ => rfl, PySem.W.mg_of X G a4⟩
  have F__law_mixed := fun_mk (st := s__law_mixed) l5 c5 k5
  have d__law_mixed : Df K mg "_law_mixed" s__law_mixed ["_law_cell_here", "_law_k"] f5 _ := ⟨F__law_mixed, F__law_mixed.binds (ps := ["_law_cell_here", "_law_k"]) fun _ _ _ _ _ _ us hl => match us, hl with | [_, _], _ => rfl, PySem.W.mg_of X G a5⟩
  have F__law_number := fun_mk (st := s__law_number) l6 c6 k6
  have d__law_number : Df K mg "_law_number" s__law_number ["_law_cell_here", "_law_drawn"] f6 _ := ⟨F__law_number, F__law_number.binds (ps := ["_law_cell_here", "_law_drawn"]) fun _ _ _ _ _ _ us hl => match us, hl with | [_, _], _ => rfl, PySem.W.mg_of X G a6⟩
  have F__law_row := fun_mk (st := s__law_row) l7 c7 k7
  have d__law_row : Df K mg "_law_row" s__law_row ["_law_cells", "_law_start"] f7 _ := ⟨F__law_row, F__law_row.binds (ps := ["_law_cells", "_law_start"]) fun _ _ _ _ _ _ us hl => match us, hl with | [_, _], _ => rfl, PySem.W.mg_of X G a7⟩
  have F__law_holds := fun_mk (st := s__law_holds) l8 c8 k8
  have d__law_holds : Df K mg "_law_holds" s__law_holds ["_law_row_here", "_law_turned"] f8 _ := ⟨F__law_holds, F__law_holds.binds (ps := ["_law_row_here", "_law_turned"]) fun _ _ _ _ _ _ us hl => match us, hl with | [_, _], _ => rfl, PySem.W.mg_of X G a8⟩
  have F_law := fun_mk (st := s_law) l9 c9 k9
  have z_bool := PySem.W.mg_none_of X G zz_bool
  have z_enumerate := PySem.W.mg_none_of X G zz_enumerate
  have z_int := PySem.W.mg_none_of X G zz_int
  have z_isinstance := PySem.W.mg_none_of X G zz_isinstance
  have z_len := PySem.W.mg_none_of X G zz_len
  have z_list := PySem.W.mg_none_of X G zz_list
  have z_max := PySem.W.mg_none_of X G zz_max
  have z_min := PySem.W.mg_none_of X G zz_min
  have z_range := PySem.W.mg_none_of X G zz_range
  have z_sum := PySem.W.mg_none_of X G zz_sum
  have m_LEAST := PySem.W.mg_of X G mm_LEAST
  have g_LEAST : ∀ ρ G, Dw K ρ G (.int (-2147483648)) ((.int (-2147483648))) := fun _ _ => .int _
  have m_SPAN := PySem.W.mg_of X G mm_SPAN
  have g_SPAN : ∀ ρ G, Dw K ρ G (.int 4294967296) ((.int 4294967296)) := fun _ _ => .int _
  refine ⟨PySem.W.fnOf "law" "law" (defArgs s_law) (defBody s_law) (defScope s_law) .none kV9 dc9 pm9 an9 cd9 ct9, fun s v => .of_eq rfl, fun base _ _ => ?_⟩
  have G_wrapped := ok_wrapped (P := l.prog) (w := w) (mg := mg) (base := base) F_wrapped m_LEAST g_LEAST m_SPAN g_SPAN
  have G_joined := ok_joined (P := l.prog) (w := w) (mg := mg) (base := base) F_joined d_wrapped G_wrapped z_sum z_max z_min
  have G__law_cell := ok__law_cell (P := l.prog) (w := w) (mg := mg) (base := base) F__law_cell z_len
  have G__law_same := ok__law_same (P := l.prog) (w := w) (mg := mg) (base := base) F__law_same z_isinstance z_bool z_int
  have G__law_into_range := ok__law_into_range (P := l.prog) (w := w) (mg := mg) (base := base) F__law_into_range
  have G__law_mixed := ok__law_mixed (P := l.prog) (w := w) (mg := mg) (base := base) F__law_mixed
  have G__law_number := ok__law_number (P := l.prog) (w := w) (mg := mg) (base := base) F__law_number
  have G__law_row := ok__law_row (P := l.prog) (w := w) (mg := mg) (base := base) F__law_row d__law_mixed G__law_mixed d__law_number G__law_number z_enumerate z_len
  have G__law_holds := ok__law_holds (P := l.prog) (w := w) (mg := mg) (base := base) F__law_holds d__law_into_range G__law_into_range d__law_same G__law_same d_joined G_joined z_list z_range z_len
  exact ok_law (P := l.prog) (w := w) (mg := mg) (base := base) law_true F_law d__law_cell G__law_cell d__law_row G__law_row d__law_holds G__law_holds z_range z_len
theorem walk {l : PySem.W.OpenLaw} {q : Program} {loose : List Str} {XP : (Str → Option Value) → Heap → Prop} {YP : World → Heap → Prop} {d : DefRec} {K : Params → PySem.W.Frag} (hn : l.most = some 63) (hdf : d.params.defaults = [])
    (hY : ∀ (w : World) (h : Heap), YP w h → (K w.params).In h)
    (F : ∀ (w : World) (mg : Str → Option Value) (fa : Addr) (h : Heap), (K w.params).In h → h.Ns mainGlobals mg → mg d.name = some (.ref fa) →
      ∃ fd : FuncData, (∀ (s : Shared) (u : Value), BindsTo s fd ⟨[u], []⟩ [("_law_script", u)]) ∧ ∀ base : Heap, (K w.params).In base → base.Ns mainGlobals mg → FnOk l.prog w (K w.params) mg base CX0 4 fa fd ["_law_script"] (sp_law (K w.params))) :
    PySem.W.WalkO q loose XP YP l.row.toRowW d [] (fun f vs => PySem.call f vs) :=
  L2.walk_of (n := 63) (k := 4) (x := "_law_script") (CX := fun _ => CX0) (sp := fun w => (sp_law (K w.params))) hn (by decide) hdf ⟨rfl, by decide, by decide⟩ hY F (fun _ _ a ns hl _ hS => ⟨a, ns, rfl, hS, hl, fun _ => rfl⟩) fun _ _ _ _ _ z => z
end My
open PySem PySem.W PyProof.Rows
set_option maxRecDepth 100000 in
set_option maxHeartbeats 0 in
theorem PySem.Challenge.cw_widelanes_k41_joined_holds : PySem.Challenge.rw_widelanes_k41_joined.Holds := by
  w_on; o_law; k_head; (case hw => w_witness2)
  k_fill
  refine My.walk (l := PySem.Challenge.rw_widelanes_k41_joined) rfl rfl (fun w h Y => PySem.W.kIn_of Y) ?F
  case F =>
    intro w mg fa h KX G hmg
    refine' My.all_mk KX G hmg ?a0 ?l0 ?c0 ?k0 ?a1 ?l1 ?c1 ?k1 ?a2 ?l2 ?c2 ?k2 ?a3 ?l3 ?c3 ?k3 ?a4 ?l4 ?c4 ?k4 ?a5 ?l5 ?c5 ?k5 ?a6 ?l6 ?c6 ?k6 ?a7 ?l7 ?c7 ?k7 ?a8 ?l8 ?c8 ?k8 ?a9 ?l9 ?c9 ?k9 ?zz_bool ?zz_enumerate ?zz_int ?zz_isinstance ?zz_len ?zz_list ?zz_max ?zz_min ?zz_range ?zz_sum ?mm_LEAST ?mm_SPAN
    (case a0 => k_is)
    (case l0 => k_is)
    (case c0 => k_is)
    (case k0 => k_is)
    (case a1 => k_is)
    (case l1 => k_is)
    (case c1 => k_is)
    (case k1 => k_is)
    (case a2 => k_is)
    (case l2 => k_is)
    (case c2 => k_is)
    (case k2 => k_is)
    (case a3 => k_is)
    (case l3 => k_is)
    (case c3 => k_is)
    (case k3 => k_is)
    (case a4 => k_is)
    (case l4 => k_is)
    (case c4 => k_is)
    (case k4 => k_is)
    (case a5 => k_is)
    (case l5 => k_is)
    (case c5 => k_is)
    (case k5 => k_is)
    (case a6 => k_is)
    (case l6 => k_is)
    (case c6 => k_is)
    (case k6 => k_is)
    (case a7 => k_is)
    (case l7 => k_is)
    (case c7 => k_is)
    (case k7 => k_is)
    (case a8 => k_is)
    (case l8 => k_is)
    (case c8 => k_is)
    (case k8 => k_is)
    (case a9 => k_is)
    (case l9 => k_is)
    (case c9 => k_is)
    (case k9 => k_is)
    (case zz_bool => k_is)
    (case zz_enumerate => k_is)
    (case zz_int => k_is)
    (case zz_isinstance => k_is)
    (case zz_len => k_is)
    (case zz_list => k_is)
    (case zz_max => k_is)
    (case zz_min => k_is)
    (case zz_range => k_is)
    (case zz_sum => k_is)
    (case mm_LEAST => k_is)
    (case mm_SPAN => k_is)
