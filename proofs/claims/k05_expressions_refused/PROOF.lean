import PyProof.Rows.All
import Wide.All
import OpenK.AllK
import Wide.FinOn
import Lean
import PyProof.EqAt
import PyProof.EqKinds
import PyProof.TupleCall
import PySem.Challenge.RW_widelanes_k05_expressions_refused
set_option Elab.async false
set_option linter.all false
set_option maxRecDepth 100000
namespace L2
open PySem PySem.Spec PyProof.Rows
abbrev Key := Sum Int Str
def keyIs : Key → Value → Bool
  | .inl k, v => Value.isInt k v
  | .inr x, v => Value.isStrOf x v
def keyH (w : World) : Key → Int
  | .inl k => hashInt k
  | .inr x => hashStr w x
theorem keyIs_shape : ∀ {k : Key} {v : Value}, keyIs k v = true → (∃ i t, k = Sum.inl i ∧ v = Value.int i t) ∨ (∃ x t, k = Sum.inr x ∧ v = Value.str x t)
  | .inl i, v, h => by
    obtain ⟨t, e⟩ := Value.isInt_shape (k := i) (v := v) h
    exact .inl ⟨i, t, rfl, e⟩
  | .inr x, v, h => by
    obtain ⟨t, e⟩ := Value.isStrOf_shape (x := x) (v := v) h
    exact .inr ⟨x, t, rfl, e⟩
theorem key_ll (a b : Int) : decide ((Sum.inl a : Key) = Sum.inl b) = (a == b) := by
  by_cases e : a = b
  · subst e; simp
  · have h : ¬ (Sum.inl a : Key) = Sum.inl b := fun q => e (Sum.inl.inj q)
    rw [decide_eq_false h]
    exact (beq_eq_false_iff_ne.mpr e).symm
theorem key_rr (a b : Str) : decide ((Sum.inr a : Key) = Sum.inr b) = decide (a = b) := by
  by_cases e : a = b
  · subst e; simp
  · have h : ¬ (Sum.inr a : Key) = Sum.inr b := fun q => e (Sum.inr.inj q)
    rw [decide_eq_false h, decide_eq_false e]
theorem key_lr (a : Int) (b : Str) : decide ((Sum.inl a : Key) = Sum.inr b) = false := decide_eq_false (fun q => nomatch q)
theorem key_rl (a : Str) (b : Int) : decide ((Sum.inr a : Key) = Sum.inl b) = false := decide_eq_false (fun q => nomatch q)
def mixKind (prog : Program) (w : World) : PySem.KeyKind prog w Key where
  is := keyIs
  hash := keyH w
  inj := fun v a b ha hb => by
    rcases keyIs_shape ha with ⟨i, t, rfl, rfl⟩ | ⟨x, t, rfl, rfl⟩
    · rcases keyIs_shape hb with ⟨j, u, rfl, e⟩ | ⟨y, u, rfl, e⟩
      · injection e with e1 _; rw [e1]
      · exact nomatch e
    · rcases keyIs_shape hb with ⟨j, u, rfl, e⟩ | ⟨y, u, rfl, e⟩
      · exact nomatch e
      · injection e with e1 _; rw [e1]
  byValue := fun k v h => by
    rcases keyIs_shape h with ⟨i, t, rfl, rfl⟩ | ⟨x, t, rfl, rfl⟩ <;> rfl
  pyHash := fun hv h => by
    rcases keyIs_shape hv with ⟨i, t, rfl, rfl⟩ | ⟨x, t, rfl, rfl⟩
    · exact wpAny_pyHash_int h
    · exact wpAny_pyHash_str h
  eqBool := fun hu hv h => by
    rcases keyIs_shape hu with ⟨i, t, rfl, rfl⟩ | ⟨x, t, rfl, rfl⟩
    · rcases keyIs_shape hv with ⟨j, u, rfl, rfl⟩ | ⟨y, u, rfl, rfl⟩
      · rw [key_ll] at h; exact wpAny_eqBool_int h
      · rw [key_lr] at h; exact SeqAt.EqAt.int_str i t y u _ _ _ _ h
    · rcases keyIs_shape hv with ⟨j, u, rfl, rfl⟩ | ⟨y, u, rfl, rfl⟩
      · rw [key_rl] at h; exact SeqAt.EqAt.str_int x t j u _ _ _ _ h
      · rw [key_rr] at h; exact wpAny_eqBool_str h
  «strs» := fun k x t v h => by
    rcases keyIs_shape h with ⟨i, u, rfl, e⟩ | ⟨y, u, rfl, e⟩
    · exact nomatch e
    · injection e with e1 _
      subst e1
      cases v <;> rfl
end L2
namespace L2
open PySem PySem.Spec PyProof.Rows
inductive V where
  | non | bl (b : Bool) | int (i : Int) | str (x : Str) | byt (b : Array UInt8) | flt (b : UInt64) | ref (a : Addr) | ty (n : String)
  deriving DecidableEq
def RelV : V → Value → Prop
  | .non, u => u = Value.none
  | .bl b, u => u = Value.bool b
  | .int i, u => ∃ t, u = Value.int i t
  | .str x, u => ∃ t, u = Value.str x t
  | .byt b, u => ∃ t, u = Value.bytes b t
  | .flt b, u => ∃ t, u = Value.float b t
  | .ref a, u => u = Value.ref a
  | .ty n, u => u = Value.type n
abbrev Vals : List V → List Value → Prop := Paired RelV
theorem Vals.length {xs : List V} {us : List Value} (r : Vals xs us) : xs.length = us.length := Paired.length r
theorem Vals.get : ∀ {xs : List V} {us : List Value} {i : Nat} {x : V}, Vals xs us → xs[i]? = some x → ∃ u, us[i]? = some u ∧ RelV x u
  | _, _, _, _, .nil, e => by simp at e
  | _, _, 0, _, .cons r _, e => by simp at e; subst e; exact ⟨_, rfl, r⟩
  | _, _, i + 1, x, .cons _ t, e => by
    obtain ⟨u, h1, h2⟩ := Vals.get (i := i) (x := x) t (by simpa using e)
    exact ⟨u, by simpa using h1, h2⟩
theorem Vals.set {x : V} {u : Value} (r : RelV x u) : ∀ {xs : List V} {us : List Value} (i : Nat), Vals xs us → Vals (xs.set i x) (us.set i u)
  | _, _, _, .nil => .nil
  | _, _, 0, .cons _ t => .cons r t
  | _, _, i + 1, .cons q t => .cons q (Vals.set r i t)
theorem Vals.append : ∀ {xs ys : List V} {us ws : List Value}, Vals xs us → Vals ys ws → Vals (xs ++ ys) (us ++ ws)
  | _, _, _, _, .nil, s => s
  | _, _, _, _, .cons r t, s => .cons r (Vals.append t s)
theorem Vals.take : ∀ {xs : List V} {us : List Value} (n : Nat), Vals xs us → Vals (xs.take n) (us.take n)
  | _, _, 0, _ => .nil
  | _, _, _ + 1, .nil => .nil
  | _, _, n + 1, .cons r t => .cons r (Vals.take n t)
theorem Vals.drop : ∀ {xs : List V} {us : List Value} (n : Nat), Vals xs us → Vals (xs.drop n) (us.drop n)
  | _, _, 0, r => r
  | _, _, _ + 1, .nil => .nil
  | _, _, n + 1, .cons _ t => Vals.drop n t
theorem Vals.none_of : ∀ {xs : List V} {us : List Value} {i : Nat}, Vals xs us → xs[i]? = none → us[i]? = none := fun {xs us i} r e => by
  have h1 := r.length
  have h2 : xs.length ≤ i := List.getElem?_eq_none_iff.mp e
  exact List.getElem?_eq_none_iff.mpr (by omega)
def RelO : Option V → Option Value → Prop
  | some v, some u => RelV v u
  | none, none => True
  | _, _ => False
def KV {κ : Type} : List (κ × V) → List (κ × Value) → Prop := Paired fun (p : κ × V) (q : κ × Value) => p.1 = q.1 ∧ RelV p.2 q.2
def kV : Key → V
  | .inl i => .int i
  | .inr x => .str x
inductive HO where
  /-- a list -/
  | lst (xs : List V)
  /-- a tuple (never changes) -/
  | tup (xs : List V)
  /-- a dict whose keys are ints and texts; one whose keys are tuples of ints and texts (the empty one is both) -/
  | dK (kvs : List (Key × V)) | dT (kvs : List (List Key × V))
  /-- a set of ints: its members, its size -/
  | set (S : Int → Bool) (n : Nat)
  /-- an instance of the class at C, its dict at dx, its attributes -/
  | ins (C dx : Addr) (fs : List (Str × V))
  /-- the dict of the instance at x -/
  | own (x : Addr)
  /-- the dict of an exception -/
  | xd (fs : List (Str × V))
  /-- a bound method, f of x -/
  | met (f x : Addr)
  /-- a range object lo, lo + 1, .. below hi -/
  | rng (lo hi : Int)
  /-- a thing that is known to the object (the script; a dict while a loop walks it): read, never written while it is so -/
  | frz (o : Obj) (u : HO)
  /-- a code object's table -/
  | tbl (ps : Array Value)
  /-- any other thing, by what is true of its one object (a def of one's own: SetO a S n := HO.ext fun h => ..) -/
  | ext (φ : Heap → Prop)
abbrev Hp := Addr → Option HO
def upd (H : Hp) (a : Addr) (o : HO) : Hp := fun b => if b = a then some o else H b
theorem upd_same {H : Hp} {a : Addr} {o : HO} : upd H a o a = some o := by unfold upd; rw [if_pos rfl]
theorem upd_ne {H : Hp} {a b : Addr} {o : HO} (h : b ≠ a) : upd H a o b = H b := by unfold upd; rw [if_neg h]
theorem ne_of_none {H : Hp} {a b : Addr} {o : HO} (h : H a = some o) (h' : H b = none) : a ≠ b := by
  intro e; subst e; rw [h] at h'; cases h'
section
variable (P : Program) (w : World)
def ObjOk (H : Hp) (h : Heap) (a : Addr) : HO → Prop
  | .lst xs => xs.length ≤ sizeLine ∧ ∃ (its : List Value) (n : Nat), Vals xs its ∧ h.get? a = some { cls := .type "list", data := .seq its.toArray n }
  | .tup xs => xs.length ≤ sizeLine ∧ ∃ its : List Value, Vals xs its ∧ IsTup h a its.toArray
  | .dK kvs => kvs.length ≤ sizeLine ∧ (a == sysModules) = false ∧ ∃ vs, KV kvs vs ∧ h.DictOf (mixKind P w) a vs
  | .dT kvs => kvs.length ≤ sizeLine ∧ (a == sysModules) = false ∧ ∃ xs : List (List Key × Addr × Value),
      Paired (fun (p : List Key × V) (q : List Key × Addr × Value) => p.1 = q.1 ∧ H q.2.1 = some (.tup (p.1.map kV)) ∧ RelV p.2 q.2.2) kvs xs ∧
      ∃ o es ep, h.get? a = some o ∧ o.ExactDict ∧ o.data = .dict es ep ∧ es.toList = xs.map (entryOfKey (tupleKind (mixKind P w))) ∧ (xs.map (·.1)).Nodup
  | .set S n => h.SetOf (intKind P w) a S n
  | .ins C dx fs => H dx = some (.own a) ∧ fs.length ≤ 1000 ∧ dx ≠ a ∧ h.get? a = some (PySem.W.instObj C dx) ∧
      ∃ mA, h.Ns1 dx mA ∧ (∀ f, RelO (fs.lookup f) (mA f)) ∧ PySem.Within mA (fs.map (·.1))
  | .own _ => ∃ o, h.get? a = some o
  | .xd fs => ∃ mA, h.Ns1 a mA ∧ ∀ f, RelO (fs.lookup f) (mA f)
  | .rng lo hi => ∃ t u v, h.get? a = some { cls := .type "range", data := .fields #[.int lo t, .int hi u, .int 1 v] }
  | .frz o u => h.get? a = some o ∧ ObjOk H h a u
  | .tbl ps => h.get? a = some { cls := .none, data := .fields ps }
  | .met f x => h.get? a = some (PySem.W.methodObj (.ref f) (.ref x))
  | .ext φ => φ h ∧ (∃ o, h.get? a = some o) ∧ ∀ h1 h2 : Heap, φ h1 → (∀ o, h1.get? a = some o → h2.get? a = some o) → φ h2
def HOk (H : Hp) (h : Heap) : Prop := ∀ a o, H a = some o → ObjOk P w H h a o
end
section
variable {P : Program} {w : World} {H H' : Hp} {h h' : Heap} {a : Addr} {o : HO}
theorem ObjOk.lt (x : ObjOk P w H h a o) : a < h.objs.size := by
  cases o with
  | lst xs => obtain ⟨_, _, _, _, e⟩ := x; exact Heap.lt_size e
  | tup xs => obtain ⟨_, _, _, p⟩ := x; exact p.lt
  | dK kvs => obtain ⟨_, _, _, _, o, _, _, e, _⟩ := x; exact Heap.lt_size e
  | dT kvs => obtain ⟨_, _, _, _, o, _, _, e, _⟩ := x; exact Heap.lt_size e
  | set S n => obtain ⟨o, _, _, _, e, _⟩ := x; exact Heap.lt_size e
  | ins C dx fs => obtain ⟨_, _, _, e, _⟩ := x; exact Heap.lt_size e
  | own y => obtain ⟨_, e⟩ := x; exact Heap.lt_size e
  | xd fs => obtain ⟨_, ⟨_, _, _, e, _⟩, _⟩ := x; exact Heap.lt_size e
  | rng lo hi => obtain ⟨_, _, _, e⟩ := x; exact Heap.lt_size e
  | frz ob u => obtain ⟨e, _⟩ := x; exact Heap.lt_size e
  | tbl ps => exact Heap.lt_size (show h.get? a = some _ from x)
  | met f y => exact Heap.lt_size (show h.get? a = some _ from x)
  | ext φ => obtain ⟨_, ⟨_, e⟩, _⟩ := x; exact Heap.lt_size e
theorem Paired.mapP {α β : Type} {F G : α → β → Prop} : ∀ {l₁ : List α} {l₂ : List β}, Paired F l₁ l₂ → (∀ a b, F a b → G a b) → Paired G l₁ l₂
  | _, _, .nil, _ => .nil
  | _, _, .cons r t, f => .cons (f _ _ r) (Paired.mapP t f)
theorem ObjOk.stay (x : ObjOk P w H h a o) (k : ∀ b u, (b = a ∨ H b = some (.own a)) → h.get? b = some u → h'.get? b = some u)
    (ho : ∀ b, H b = some (.own a) → H' b = some (.own a)) (ht : ∀ b xs, H b = some (.tup xs) → H' b = some (.tup xs)) : ObjOk P w H' h' a o := by
  induction o with
  | lst xs => obtain ⟨z, its, n, r, e⟩ := x; exact ⟨z, its, n, r, k _ _ (.inl rfl) e⟩
  | tup xs => obtain ⟨z, its, r, ob, e, c⟩ := x; exact ⟨z, its, r, ob, k _ _ (.inl rfl) e, c⟩
  | dK kvs => obtain ⟨z, y, vs, r, ob, es, ep, e, c⟩ := x; exact ⟨z, y, vs, r, ob, es, ep, k _ _ (.inl rfl) e, c⟩
  | dT kvs =>
    obtain ⟨z, y, xs, r, ob, es, ep, e, c⟩ := x
    exact ⟨z, y, xs, Paired.mapP r fun p q z => ⟨z.1, ht _ _ z.2.1, z.2.2⟩, ob, es, ep, k _ _ (.inl rfl) e, c⟩
  | set S n => obtain ⟨ob, es, ep, t, e, c⟩ := x; exact ⟨ob, es, ep, t, k _ _ (.inl rfl) e, c⟩
  | ins C dx fs =>
    obtain ⟨d, z, ne, e, mA, ⟨od, es, ep, e2, c⟩, r⟩ := x
    exact ⟨ho _ d, z, ne, k _ _ (.inl rfl) e, mA, ⟨od, es, ep, k _ _ (.inr d) e2, c⟩, r⟩
  | own y => obtain ⟨ob, e⟩ := x; exact ⟨ob, k _ _ (.inl rfl) e⟩
  | xd fs => obtain ⟨mA, ⟨od, es, ep, e, c⟩, r⟩ := x; exact ⟨mA, ⟨od, es, ep, k _ _ (.inl rfl) e, c⟩, r⟩
  | rng lo hi => obtain ⟨t, u, v, e⟩ := x; exact ⟨t, u, v, k _ _ (.inl rfl) e⟩
  | frz ob u ih => obtain ⟨e, q⟩ := x; exact ⟨k _ _ (.inl rfl) e, ih q⟩
  | tbl ps =>
    have e : h.get? a = some { cls := .none, data := .fields ps } := x
    show h'.get? a = some { cls := .none, data := .fields ps }
    exact k a _ (.inl rfl) e
  | met f y =>
    have e : h.get? a = some (PySem.W.methodObj (.ref f) (.ref y)) := x
    show h'.get? a = some (PySem.W.methodObj (.ref f) (.ref y))
    exact k a _ (.inl rfl) e
  | ext φ => obtain ⟨p, ⟨o, e⟩, st⟩ := x; exact ⟨st _ _ p fun o q => k _ _ (.inl rfl) q, ⟨o, k _ _ (.inl rfl) e⟩, st⟩
theorem HOk.lt (x : HOk P w H h) (e : H a = some o) : a < h.objs.size := (x a o e).lt
theorem HOk.fresh (x : HOk P w H h) (e : h.objs.size ≤ a) : H a = none := by
  cases q : H a with
  | none => rfl
  | some u => exact absurd (Nat.lt_of_lt_of_le (x.lt q) e) (Nat.lt_irrefl _)
theorem HOk.kept (x : HOk P w H h) (k : ∀ b u, h.get? b = some u → h'.get? b = some u) : HOk P w H h' := fun a o e =>
  (x a o e).stay (fun b u _ q => k b u q) (fun _ q => q) fun _ _ q => q
theorem HOk.laid (x : HOk P w H h) (k : ∀ b u, h.get? b = some u → h'.get? b = some u) (hp : h.objs.size ≤ a) (new : ObjOk P w (upd H a o) h' a o) : HOk P w (upd H a o) h' := fun b u e => by
  have hn := x.fresh hp
  by_cases hb : b = a
  · subst hb; rw [upd_same] at e; cases e; exact new
  · rw [upd_ne hb] at e
    exact (x b u e).stay (fun c v _ q => k c v q) (fun c q => by rw [upd_ne (ne_of_none q hn)]; exact q) fun c xs q => by rw [upd_ne (ne_of_none q hn)]; exact q
end
def Rd (H : Hp) (a : Addr) (u : HO) : Prop := H a = some u ∨ ∃ o, H a = some (.frz o u)
theorem Rd.of {H : Hp} {a : Addr} {u : HO} (h : H a = some u) : Rd H a u := .inl h
theorem Rd.ok {P : Program} {w : World} {H : Hp} {h : Heap} {a : Addr} {u : HO} (r : Rd H a u) (x : HOk P w H h) : ObjOk P w H h a u := by
  rcases r with r | ⟨o, r⟩
  · exact x a u r
  · obtain ⟨_, q⟩ := x a _ r
    exact q
def Mut : Option HO → Prop
  | some (.lst _) => True
  | some (.dK _) => True
  | some (.dT _) => True
  | some (.set _ _) => True
  | some (.ins _ _ _) => True
  | some (.ext _) => True
  | _ => False
section
variable {P : Program} {w : World} {H : Hp} {h h' : Heap} {x e : Addr} {o' : HO}
theorem HOk.write (ok : HOk P w H h) (mu : Mut (H x)) (he : e = x ∨ H e = some (.own x)) (k : ∀ b u, b ≠ e → h.get? b = some u → h'.get? b = some u) (heo : ∃ u, h'.get? e = some u)
    (new : ObjOk P w (upd H x o') h' x o') : HOk P w (upd H x o') h' := fun b u q => by
  have nown : ∀ c y, H c = some (.own y) → c ≠ x := fun c y r z => by subst z; rw [r] at mu; exact mu
  have ntup : ∀ c xs, H c = some (.tup xs) → c ≠ x := fun c xs r z => by subst z; rw [r] at mu; exact mu
  by_cases hb : b = x
  · subst hb; rw [upd_same] at q; cases q; exact new
  · rw [upd_ne hb] at q
    by_cases hbe : b = e
    · have q' : H b = some (.own x) := by
        rcases he with z | z
        · exact absurd (hbe.trans z) hb
        · rw [hbe]; exact z
      rw [q] at q'; cases q'
      obtain ⟨v, hv⟩ := heo
      exact ⟨v, by rw [hbe]; exact hv⟩
    · refine (ok b u q).stay (fun c v hc r => k c v ?_ r) (fun c r => by rw [upd_ne (nown c b r)]; exact r) fun c xs r => by rw [upd_ne (ntup c xs r)]; exact r
      rcases hc with rfl | hc
      · exact hbe
      · rintro rfl
        rcases he with z | z
        · exact nown c b hc z
        · rw [hc] at z; cases z; exact hb rfl
end
structure Un (fs ex : List Addr) (H H' : Hp) (h h' : Heap) : Prop where
  keep : ∀ b o, h.get? b = some o → H b = none → b ∉ fs → b ∉ ex → h'.get? b = some o
  slot : ∀ b o, h.get? b = some o → H b = none → b ∈ fs → b ∉ ex → ∃ sl, h'.get? b = some { o with slots := sl }
  free : ∀ b o, h.get? b = some o → H b = none → b ∉ ex → H' b = none
  there : ∀ b o, h.get? b = some o → b ∉ ex → ∃ o', h'.get? b = some o'
  tups : ∀ b xs, H b = some (.tup xs) → H' b = some (.tup xs)
  frzs : ∀ b o u, H b = some (.frz o u) → H' b = some (.frz o u)
  tbls : ∀ b ps, H b = some (.tbl ps) → ∃ more, H' b = some (.tbl (ps ++ more))
section
variable {fs fs' ex ex' : List Addr} {H H1 H2 : Hp} {h h1 h2 h' : Heap} {a x e : Addr} {o : HO}
theorem Un.any (u : Un fs ex H H1 h h1) {b : Addr} {ob : Obj} (q : h.get? b = some ob) (n : H b = none) (hx : b ∉ ex) : ∃ sl, h1.get? b = some { ob with slots := sl } := by
  by_cases hb : b ∈ fs
  · exact u.slot b ob q n hb hx
  · exact ⟨ob.slots, u.keep b ob q n hb hx⟩
theorem Un.trans (a : Un fs ex H H1 h h1) (b : Un fs ex H1 H2 h1 h2) : Un fs ex H H2 h h2 where
  keep := fun c ob q n hc hx => b.keep c ob (a.keep c ob q n hc hx) (a.free c ob q n hx) hc hx
  slot := fun c ob q n hc hx => by
    obtain ⟨sl, e1⟩ := a.slot c ob q n hc hx
    obtain ⟨sl', e2⟩ := b.slot c _ e1 (a.free c ob q n hx) hc hx
    exact ⟨sl', e2⟩
  free := fun c ob q n hx => by
    obtain ⟨o', e1⟩ := a.there c ob q hx
    exact b.free c o' e1 (a.free c ob q n hx) hx
  there := fun c ob q hx => by
    obtain ⟨o', e1⟩ := a.there c ob q hx
    exact b.there c o' e1 hx
  tups := fun c xs q => b.tups c xs (a.tups c xs q)
  frzs := fun c ob xs q => b.frzs c ob xs (a.frzs c ob xs q)
  tbls := fun c ps q => by
    obtain ⟨m1, e1⟩ := a.tbls c ps q
    obtain ⟨m2, e2⟩ := b.tbls c _ e1
    exact ⟨m1 ++ m2, by rw [e2, Array.append_assoc]⟩
theorem Un.kept (k : ∀ b u, h.get? b = some u → h'.get? b = some u) : Un fs ex H H h h' :=
  ⟨fun b ob q _ _ _ => k b ob q, fun b ob q _ _ _ => ⟨ob.slots, k b ob q⟩, fun _ _ _ n _ => n, fun b ob q _ => ⟨ob, k b ob q⟩, fun _ _ q => q, fun _ _ _ q => q, fun _ ps q => ⟨#[], by rw [q]; simp⟩⟩
theorem Un.refl : Un fs ex H H h h := Un.kept fun _ _ q => q
theorem Un.laid (k : ∀ b u, h.get? b = some u → h'.get? b = some u) (hp : h.objs.size ≤ a) (hn : H a = none) : Un fs ex H (upd H a o) h h' where
  keep := fun b u q _ _ _ => k b u q
  slot := fun b u q _ _ _ => ⟨u.slots, k b u q⟩
  free := fun b u q n _ => by rw [upd_ne (Nat.ne_of_lt (Nat.lt_of_lt_of_le (Heap.lt_size q) hp))]; exact n
  there := fun b u q _ => ⟨u, k b u q⟩
  tups := fun b xs q => by rw [upd_ne (ne_of_none q hn)]; exact q
  frzs := fun b u xs q => by rw [upd_ne (ne_of_none q hn)]; exact q
  tbls := fun b ps q => ⟨#[], by rw [upd_ne (ne_of_none q hn), q]; simp⟩
theorem Un.write (mu : Mut (H x)) (he : e = x ∨ H e = some (.own x)) (k : ∀ b u, b ≠ e → h.get? b = some u → h'.get? b = some u) (heo : ∃ u, h'.get? e = some u) : Un fs ex H (upd H x o) h h' := by
  have hx : ∀ b, H b = none → b ≠ x := fun b n z => by subst z; rw [n] at mu; exact mu
  have hb : ∀ b, H b = none → b ≠ e := fun b n z => by
    subst z
    rcases he with r | r
    · exact hx b n r
    · rw [n] at r; cases r
  have hm : ∀ b u, H b = some u → ¬ Mut (some u) → b ≠ x := fun b u q nm z => by subst z; rw [q] at mu; exact nm mu
  refine ⟨fun b u q n _ _ => k b u (hb b n) q, fun b u q n _ _ => ⟨u.slots, k b u (hb b n) q⟩, fun b u q n _ => by rw [upd_ne (hx b n)]; exact n, fun b u q _ => ?_,
    fun b xs q => by rw [upd_ne (hm b _ q fun z => z)]; exact q, fun b u xs q => by rw [upd_ne (hm b _ q fun z => z)]; exact q, fun b ps q => ⟨#[], by rw [upd_ne (hm b _ q fun z => z), q]; simp⟩⟩
  by_cases hbe : b = e
  · subst hbe; exact heo
  · exact ⟨u, k b u hbe q⟩
theorem Un.mono (u : Un fs ex H H1 h h1) (hs : ∀ b ∈ fs, b ∈ fs') (hx : ∀ b ∈ ex, b ∈ ex') : Un fs' ex' H H1 h h1 :=
  ⟨fun b ob q n hb he => u.keep b ob q n (fun z => hb (hs b z)) fun z => he (hx b z), fun _ _ q n _ he => u.any q n fun z => he (hx _ z), fun b ob q n he => u.free b ob q n fun z => he (hx b z), fun b ob q he => u.there b ob q fun z => he (hx b z), u.tups, u.frzs, u.tbls⟩
end
def trk (h : Heap) (H : Hp) : List Addr := (List.range h.objs.size).filter fun a => (H a).isSome
def hidT (h : Heap) (H : Hp) : Heap := PySem.W.hideAll h (trk h H)
theorem hidT_size (h : Heap) (H : Hp) : (hidT h H).objs.size = h.objs.size := PySem.W.hideAll_size _ _
theorem hidT_get {h : Heap} {H : Hp} {b : Addr} {o : Obj} (e : h.get? b = some o) (n : H b = none) : (hidT h H).get? b = some o :=
  PySem.W.hideAll_get _ e fun hm => by
    have q : (H b).isSome = true := (List.mem_filter.mp hm).2
    rw [n] at q; simp at q
theorem of_hidT {h : Heap} {H : Hp} {b : Addr} {o : Obj} (e : (hidT h H).get? b = some o) : h.get? b = some o ∧ H b = none := by
  have e' : h.get? b = some o := PySem.W.of_hideAll (trk h H) e
  refine ⟨e', ?_⟩
  cases q : H b with
  | none => rfl
  | some x =>
    have hm : b ∈ trk h H := List.mem_filter.mpr ⟨List.mem_range.mpr (Heap.lt_size e'), by simp [q]⟩
    have z : (hidT h H).get? b = none := PySem.W.hideAll_none (trk h H) hm
    rw [z] at e; cases e
def allNews (g h : Heap) (L : Addr) : List (Addr × Obj) := (List.range h.objs.size).filterMap fun a => if a = L ∨ (g.get? a).isSome = true then none else (h.get? a).map fun o => (a, o)
def rest (g h : Heap) (L d : Addr) : List (Addr × Obj) := (allNews g h L).filter fun p => decide (p.1 ≠ d)
end L2
namespace L2
open PySem PySem.Spec PyProof.Rows
structure Mod (K : PySem.W.Frag) (mg : Str → Option Value) (base : Heap) : Prop where
  kin : K.In base
  glob : base.Ns mainGlobals mg
  blt : ∃ mb, base.Ns builtinsNs mb ∧ ∀ x : Str, x ≠ "__name__" → mb x = bootBuiltins x
  nolimit : base.NoLimit
structure Cx where
  prog : Program
  w : World
  K : PySem.W.Frag
  mg : Str → Option Value
  base : Heap
  A : Around
  N : List Str
  s₀ : Shared
  H₀ : Hp
  env : Env
  outer : List Env
  stack : List Env
  ex : List Addr
  fn : Str → Bool
  calm : Bool
  pn : List (Addr × Obj)
  xe : Value → Shared → Prop
def frs (l : List Env) : List Addr := l.filterMap (·.frame)
abbrev Cx.fs (X : Cx) : List Addr := frs X.outer
def Vis (sc : Scope) (x : Str) : Prop := sc.names.lookup x = some .local ∨ sc.names.lookup x = some .cell ∨ sc.names.lookup x = some .free
def Loc (sc : Scope) (x : Str) : Prop := sc.names.lookup x = some .local ∨ sc.names.lookup x = some .cell
def Look (env : Env) (h : Heap) (m : Str → Option Value) (x : Str) (u : Value) : Prop :=
  (env.kindOf x = some .local ∧ m x = some u) ∨ ((env.kindOf x = some .cell ∨ env.kindOf x = some .free) ∧ ∃ c, env.cells.lookup x = some c ∧ h.IsCell c (some u))
structure Cx.Ok (X : Cx) : Prop where
  mod : Mod X.K X.mg X.base
  kind : X.env.scope.kind = .function
  glob : X.env.globals = mainGlobals
  blt : X.env.builtins = builtinsNs
  above : X.s₀.heap.objs.size ≤ X.env.locals
  inj : ∀ x y c, X.env.cells.lookup x = some c → X.env.cells.lookup y = some c → x = y
  has : ∀ x, (X.env.kindOf x = some .cell ∨ X.env.kindOf x = some .free) → ∃ c, X.env.cells.lookup x = some c
  cab : ∀ x c, X.fn x = true → X.env.cells.lookup x = some c → X.s₀.heap.objs.size ≤ c
  hd : X.calm = true → X.A.handled = none
  frames : X.A.frames = some X.stack
  stk : X.stack = X.outer ∨ (X.stack = X.env :: X.outer ∧ X.env.frame = some X.env.locals)
  exf : ∀ b ∈ X.ex, b ≠ X.env.locals ∧ ∀ x c, X.env.cells.lookup x = some c → c ≠ b
  bs : ∀ b o, X.base.get? b = some o → X.s₀.heap.get? b = some o ∧ X.H₀ b = none
  bsz : X.base.objs.size ≤ X.s₀.heap.objs.size
  noex : ∀ b o, X.base.get? b = some o → b ∉ X.ex
  exfs : ∀ b ∈ X.ex, b ∉ X.fs
  funs : X.s₀.heap.FunFrames X.base X.outer
  frf : ∀ b ∈ X.fs, X.H₀ b = none
structure Inv (X : Cx) (pins : List (Addr × Obj)) (σ : List (Option V)) (H : Hp) (s : Shared) : Prop where
  ok : X.Ok
  os : s.os = X.s₀.os
  bare : AllBare s.gens
  base : Un X.fs X.ex X.H₀ H X.s₀.heap s.heap
  loc : ∃ m, s.heap.Ns X.env.locals m ∧ ∀ (i : Nat) (x : Str) (v : V), X.N[i]? = some x → σ[i]? = some (some v) → Vis X.env.scope x → ∃ u, RelV v u ∧ Look X.env s.heap m x u
  cell : ∀ x c, X.env.cells.lookup x = some c → ∃ v, s.heap.IsCell c v
  free : H X.env.locals = none
  freeC : ∀ x c, X.env.cells.lookup x = some c → H c = none
  pin : ∀ p ∈ X.pn ++ pins, s.heap.get? p.1 = some p.2 ∧ H p.1 = none ∧ p.1 ≠ X.env.locals ∧ p.1 ∉ X.fs ∧ ∀ v, p.2.data ≠ .cell v
  hok : HOk X.prog X.w H s.heap
  len : σ.length = X.N.length
section
variable {X : Cx} {pins : List (Addr × Obj)} {σ : List (Option V)} {H H' : Hp} {s : Shared} {h' : Heap}
theorem Cx.Ok.nofr (ok : X.Ok) {b : Addr} {o : Obj} (e : X.base.get? b = some o) : b ∉ X.fs := fun hb => by
  have := (ok.funs.mem hb).1
  rw [e] at this; cases this
theorem Inv.bs (I : Inv X pins σ H s) : ∀ b o, X.base.get? b = some o → s.heap.get? b = some o ∧ H b = none := fun b o e =>
  ⟨I.base.keep b o (I.ok.bs b o e).1 (I.ok.bs b o e).2 (I.ok.nofr e) (I.ok.noex b o e), I.base.free b o (I.ok.bs b o e).1 (I.ok.bs b o e).2 (I.ok.noex b o e)⟩
theorem Inv.bk (I : Inv X pins σ H s) : ∀ b o, X.base.get? b = some o → s.heap.get? b = some o := fun b o e => (I.bs b o e).1
theorem Inv.mod (I : Inv X pins σ H s) : Mod X.K X.mg X.base := I.ok.mod
theorem Inv.kIn (I : Inv X pins σ H s) : X.K.In s.heap := I.ok.mod.kin.keeps I.bk
theorem Inv.nolimit (I : Inv X pins σ H s) : s.heap.NoLimit := I.ok.mod.nolimit.keeps I.bk
theorem Inv.fr (I : Inv X pins σ H s) : ∃ m, Fr X.base X.env.locals s.heap m :=
  let ⟨m, hn, _⟩ := I.loc
  ⟨m, hn, I.bk, Nat.le_trans I.ok.bsz I.ok.above⟩
theorem Inv.lt (I : Inv X pins σ H s) : X.env.locals < s.heap.objs.size := let ⟨_, hn, _⟩ := I.loc; hn.lt
theorem Inv.sz (I : Inv X pins σ H s) : X.s₀.heap.objs.size ≤ s.heap.objs.size := Nat.le_trans I.ok.above (Nat.le_of_lt I.lt)
theorem Inv.nofs (I : Inv X pins σ H s) {a : Addr} (h : s.heap.objs.size ≤ a) : a ∉ X.fs := fun hb => by
  obtain ⟨_, o, ho, _⟩ := I.ok.funs.mem hb
  exact absurd (Nat.lt_of_lt_of_le (Heap.lt_size ho) (Nat.le_trans I.sz h)) (Nat.lt_irrefl _)
theorem Inv.cne (I : Inv X pins σ H s) : ∀ x c, X.env.cells.lookup x = some c → c ≠ X.env.locals := fun x c e z => by
  obtain ⟨v, o, ho, hd⟩ := I.cell x c e
  obtain ⟨m, ⟨o', es, ep, ho', hd', _⟩, _⟩ := I.loc
  rw [z, ho'] at ho; cases ho; rw [hd'] at hd; cases hd
theorem Inv.funs (I : Inv X pins σ H s) : s.heap.FunFrames X.base X.outer := by
  have all : ∀ (l : List Env), (∀ b ∈ frs l, b ∈ X.fs) → X.s₀.heap.FunFrames X.base l → s.heap.FunFrames X.base l := by
    intro l
    induction l with
    | nil => intro _ _; trivial
    | cons env r ih =>
      intro hs hl
      obtain ⟨hk, ⟨L, o, hf, hn, ho, hd⟩, hr⟩ := hl
      have hL : L ∈ X.fs := hs L (by unfold frs; rw [List.filterMap_cons, hf]; exact List.mem_cons_self)
      obtain ⟨sl, e⟩ := I.base.slot L o ho (I.ok.frf L hL) hL fun z => I.ok.exfs L z hL
      exact ⟨hk, ⟨L, _, hf, hn, e, hd⟩, ih (fun b hb => hs b (by unfold frs; rw [List.filterMap_cons, hf]; exact List.mem_cons_of_mem _ hb)) hr⟩
  exact all X.outer (fun _ hb => hb) I.ok.funs
theorem Inv.stack (I : Inv X pins σ H s) : s.heap.FunFrames X.base X.stack := by
  rcases I.ok.stk with e | ⟨e, hf⟩
  · rw [e]; exact I.funs
  · rw [e]
    obtain ⟨m, hn, _⟩ := I.loc
    refine .cons (by rw [I.ok.kind]; decide) hf hn ?_ I.funs
    exact Heap.get?_none_of_le (Nat.le_trans I.ok.bsz I.ok.above)
theorem Inv.stkSub (I : Inv X pins σ H s) : ∀ b ∈ frs X.stack, b ∈ X.env.locals :: X.fs := fun b hb => by
  rcases I.ok.stk with e | ⟨e, hf⟩
  · rw [e] at hb; exact List.mem_cons_of_mem _ hb
  · rw [e] at hb
    unfold frs at hb
    rw [List.filterMap_cons, hf] at hb
    exact hb
theorem Inv.stkFree (I : Inv X pins σ H s) : ∀ b ∈ frs X.stack, H b = none := fun b hb => by
  rcases List.mem_cons.mp (I.stkSub b hb) with e | hb
  · rw [e]; exact I.free
  · obtain ⟨_, o, ho, _⟩ := I.ok.funs.mem hb
    exact I.base.free b o ho (I.ok.frf b hb) fun z => I.ok.exfs b z hb
theorem Inv.step {g' : Array GenState} {t' : Nat} {d' : Drawn} {ch : List Addr} (I : Inv X pins σ H s)
    (hch : ∀ b ∈ ch, (b ∈ X.ex ∨ X.s₀.heap.objs.size ≤ b) ∧ b ≠ X.env.locals ∧ (∀ x c, X.env.cells.lookup x = some c → c ≠ b) ∧ ∀ p ∈ X.pn ++ pins, p.1 ≠ b)
    (keep : ∀ b o, b ≠ X.env.locals → b ∉ X.fs → b ∉ ch → s.heap.get? b = some o → H b = none → h'.get? b = some o)
    (slot : ∀ b o, b ≠ X.env.locals → b ∈ X.fs → b ∉ ch → s.heap.get? b = some o → H b = none → ∃ sl, h'.get? b = some { o with slots := sl }) (free : ∀ b o, b ∉ ch → s.heap.get? b = some o → H b = none → H' b = none)
    (there : ∀ b o, b ∉ ch → s.heap.get? b = some o → ∃ o', h'.get? b = some o')
    (tups : ∀ b xs, H b = some (.tup xs) → H' b = some (.tup xs)) (frzs : ∀ b o u, H b = some (.frz o u) → H' b = some (.frz o u)) (tbls : ∀ b ps, H b = some (.tbl ps) → ∃ more, H' b = some (.tbl (ps ++ more)))
    (ns : ∀ m, s.heap.Ns X.env.locals m → h'.Ns X.env.locals m) (hok : HOk X.prog X.w H' h') (hg : AllBare g') :
    Inv X pins σ H' { s with heap := h', gens := g', drawn := d', toks := t' } := by
  have neL : ∀ b o, X.s₀.heap.get? b = some o → b ≠ X.env.locals := fun b o e => Nat.ne_of_lt (Nat.lt_of_lt_of_le (Heap.lt_size e) I.ok.above)
  have neC : ∀ b o, X.s₀.heap.get? b = some o → b ∉ X.ex → b ∉ ch := fun b o e hx hb => by
    rcases (hch b hb).1 with z | z
    · exact hx z
    · exact absurd (Nat.lt_of_lt_of_le (Heap.lt_size e) z) (Nat.lt_irrefl _)
  have cellK : ∀ x c, X.env.cells.lookup x = some c → ∀ v, s.heap.IsCell c v → h'.IsCell c v := fun x c e v ⟨o, ho, hd⟩ => by
    have nch : c ∉ ch := fun z => (hch c z).2.2.1 x c e rfl
    by_cases hc : c ∈ X.fs
    · obtain ⟨sl, q⟩ := slot c o (I.cne x c e) hc nch ho (I.freeC x c e)
      exact ⟨_, q, hd⟩
    · exact ⟨o, keep c o (I.cne x c e) hc nch ho (I.freeC x c e), hd⟩
  refine ⟨I.ok, I.os, hg, ⟨fun b o e n hb hx => ?_, fun b o e n hb hx => ?_, fun b o e n hx => ?_, fun b o e hx => ?_, fun b xs e => tups b xs (I.base.tups b xs e), fun b o xs e => frzs b o xs (I.base.frzs b o xs e), fun b ps e => ?_⟩, ?_, fun x c e => ?_, ?_, fun x c e => ?_, fun p hp => ?_, hok, I.len⟩
  · exact keep b o (neL b o e) hb (neC b o e hx) (I.base.keep b o e n hb hx) (I.base.free b o e n hx)
  · obtain ⟨sl, e1⟩ := I.base.slot b o e n hb hx
    obtain ⟨sl', e2⟩ := slot b _ (neL b o e) hb (neC b o e hx) e1 (I.base.free b o e n hx)
    exact ⟨sl', e2⟩
  · obtain ⟨o', e1⟩ := I.base.there b o e hx
    exact free b o' (neC b o e hx) e1 (I.base.free b o e n hx)
  · obtain ⟨o', e1⟩ := I.base.there b o e hx
    exact there b o' (neC b o e hx) e1
  · obtain ⟨m1, e1⟩ := I.base.tbls b ps e
    obtain ⟨m2, e2⟩ := tbls b _ e1
    exact ⟨m1 ++ m2, by rw [e2, Array.append_assoc]⟩
  · obtain ⟨m, hn, hl⟩ := I.loc
    refine ⟨m, ns m hn, fun i x v e1 e2 e3 => ?_⟩
    obtain ⟨u, r, l⟩ := hl i x v e1 e2 e3
    refine ⟨u, r, ?_⟩
    rcases l with l | ⟨k, c, e, z⟩
    · exact .inl l
    · exact .inr ⟨k, c, e, cellK x c e _ z⟩
  · obtain ⟨v, z⟩ := I.cell x c e
    exact ⟨v, cellK x c e v z⟩
  · obtain ⟨m, ⟨o, _, _, ho, _⟩, _⟩ := I.loc
    exact free _ o (fun z => (hch _ z).2.1 rfl) ho I.free
  · obtain ⟨v, o, ho, hd⟩ := I.cell x c e
    exact free c o (fun z => (hch c z).2.2.1 x c e rfl) ho (I.freeC x c e)
  · obtain ⟨e, n, ne, nf, d⟩ := I.pin p hp
    have nch : p.1 ∉ ch := fun z => (hch p.1 z).2.2.2 p hp rfl
    exact ⟨keep p.1 p.2 ne nf nch e n, free p.1 p.2 nch e n, ne, nf, d⟩
theorem Inv.un {t' : Nat} (I : Inv X pins σ H s) (u : Un X.fs [] H H' s.heap h') (hok : HOk X.prog X.w H' h') : Inv X pins σ H' { s with heap := h', toks := t' } := by
  obtain ⟨m, ⟨o, es, ep, ho, r⟩, _⟩ := id I.loc
  obtain ⟨sl, hL⟩ := u.any ho I.free (by simp)
  exact I.step (g' := s.gens) (d' := s.drawn) (ch := []) (fun _ z => nomatch z) (fun b o _ hb _ e n => u.keep b o e n hb (by simp)) (fun b o _ hb _ e n => u.slot b o e n hb (by simp)) (fun b o _ e n => u.free b o e n (by simp)) (fun b o _ e => u.there b o e (by simp)) u.tups u.frzs u.tbls (fun m' hm => by
    obtain ⟨o', es', ep', ho', r'⟩ := hm
    rw [ho] at ho'; cases ho'
    exact ⟨_, es', ep', hL, r'⟩) hok I.bare
theorem Inv.call {g' : Array GenState} {t' : Nat} {d' : Drawn} {ch : List Addr} (I : Inv X pins σ H s) (u : Un (frs X.stack) ch H H' s.heap h') (hok : HOk X.prog X.w H' h') (hg : AllBare g')
    (hch : ∀ b ∈ ch, (b ∈ X.ex ∨ X.s₀.heap.objs.size ≤ b) ∧ b ≠ X.env.locals ∧ (∀ x c, X.env.cells.lookup x = some c → c ≠ b) ∧ ∀ p ∈ X.pn ++ pins, p.1 ≠ b) :
    Inv X pins σ H' { s with heap := h', gens := g', drawn := d', toks := t' } := by
  obtain ⟨m, ⟨o, es, ep, ho, r⟩, _⟩ := id I.loc
  obtain ⟨sl, hL⟩ := u.any ho I.free fun z => (hch _ z).2.1 rfl
  exact I.step (ch := ch) hch (fun b o hL hb hc e n => u.keep b o e n (fun z => (List.mem_cons.mp (I.stkSub b z)).elim hL hb) hc) (fun b o _ _ hc e n => u.any e n hc) (fun b o hc e n => u.free b o e n hc) (fun b o hc e => u.there b o e hc) u.tups u.frzs u.tbls (fun m' hm => by
    obtain ⟨o', es', ep', ho', r'⟩ := hm
    rw [ho] at ho'; cases ho'
    exact ⟨_, es', ep', hL, r'⟩) hok hg
theorem Inv.turned {t' : Nat} {it : Addr} (I : Inv X pins σ H s) (k : ∀ b o, b ≠ it → s.heap.get? b = some o → h'.get? b = some o) (hn : H it = none) (hL : it ≠ X.env.locals)
    (h1 : it ∈ X.ex ∨ X.s₀.heap.objs.size ≤ it) (h2 : ∀ x c, X.env.cells.lookup x = some c → c ≠ it) (h3 : ∀ p ∈ X.pn ++ pins, p.1 ≠ it) : Inv X pins σ H { s with heap := h', toks := t' } := by
  have nit : ∀ b u, H b = some u → b ≠ it := fun b u e z => by rw [z, hn] at e; cases e
  refine I.step (g' := s.gens) (d' := s.drawn) (ch := [it]) (fun b hb => ?_) (fun b o _ _ hc e _ => k b o (fun z => hc (by simp [z])) e) (fun b o _ _ hc e _ => ⟨o.slots, k b o (fun z => hc (by simp [z])) e⟩) (fun _ _ _ _ n => n)
    (fun b o hc e => ⟨o, k b o (fun z => hc (by simp [z])) e⟩) (fun _ _ e => e) (fun _ _ _ e => e) (fun b ps e => ⟨#[], by rw [e]; simp⟩) (fun m hm => ?_) (fun b u e => ?_) I.bare
  · have e : b = it := by simpa using hb
    subst e
    exact ⟨h1, hL, h2, h3⟩
  · obtain ⟨o, es, ep, ho, r⟩ := hm
    exact ⟨o, es, ep, k _ o (Ne.symm hL) ho, r⟩
  · refine (I.hok b u e).stay (fun c v hc q => k c v ?_ q) (fun _ q => q) fun _ _ q => q
    rcases hc with z | z
    · rw [z]; exact nit b u e
    · exact nit c _ z
theorem Inv.tok (I : Inv X pins σ H s) (t : Nat) : Inv X pins σ H { s with toks := t } := I.un (h' := s.heap) (t' := t) Un.refl I.hok
theorem Inv.kept {t' : Nat} (I : Inv X pins σ H s) (k : ∀ b u, s.heap.get? b = some u → h'.get? b = some u) : Inv X pins σ H { s with heap := h', toks := t' } := I.un (Un.kept k) (I.hok.kept k)
theorem Inv.laid {a : Addr} {o : HO} {t' : Nat} (I : Inv X pins σ H s) (k : ∀ b u, s.heap.get? b = some u → h'.get? b = some u) (hp : s.heap.objs.size ≤ a) (new : ObjOk X.prog X.w (upd H a o) h' a o) :
    Inv X pins σ (upd H a o) { s with heap := h', toks := t' } := I.un (Un.laid k hp (I.hok.fresh hp)) (I.hok.laid k hp new)
theorem Inv.write {x e : Addr} {o : HO} {t' : Nat} (I : Inv X pins σ H s) (mu : Mut (H x)) (he : e = x ∨ H e = some (.own x)) (k : ∀ b u, b ≠ e → s.heap.get? b = some u → h'.get? b = some u) (heo : ∃ u, h'.get? e = some u)
    (new : ObjOk X.prog X.w (upd H x o) h' x o) : Inv X pins σ (upd H x o) { s with heap := h', toks := t' } := I.un (Un.write mu he k heo) (I.hok.write mu he k heo new)
theorem Inv.weak {σ' : List (Option V)} (I : Inv X pins σ H s) (hl : σ'.length = σ.length) (w : ∀ (i : Nat) v, σ'[i]? = some (some v) → σ[i]? = some (some v)) : Inv X pins σ' H s :=
  ⟨I.ok, I.os, I.bare, I.base, let ⟨m, hn, hl'⟩ := I.loc; ⟨m, hn, fun i x v e1 e2 e3 => hl' i x v e1 (w i v e2) e3⟩, I.cell, I.free, I.freeC, I.pin, I.hok, hl.trans I.len⟩
theorem Inv.pins_of {pins' : List (Addr × Obj)} (I : Inv X pins σ H s) (h : ∀ p ∈ pins', s.heap.get? p.1 = some p.2 ∧ H p.1 = none ∧ p.1 ≠ X.env.locals ∧ p.1 ∉ X.fs ∧ ∀ v, p.2.data ≠ .cell v) : Inv X pins' σ H s :=
  ⟨I.ok, I.os, I.bare, I.base, I.loc, I.cell, I.free, I.freeC, fun p hp => (List.mem_append.mp hp).elim (fun z => I.pin p (List.mem_append_left _ z)) (h p), I.hok, I.len⟩
theorem nodup_ix {N : List Str} (hN : N.Nodup) {i j : Nat} {x : Str} (a : N[i]? = some x) (b : N[j]? = some x) : i = j := by
  obtain ⟨h1, e1⟩ := List.getElem?_eq_some_iff.mp a
  obtain ⟨h2, e2⟩ := List.getElem?_eq_some_iff.mp b
  exact (List.getElem_inj hN).mp (e1.trans e2.symm)
theorem store_ok2 {M : Model} {A : Around} {E : Value → Shared → Prop} {i : Nat} {x : Str} {v : V} {u : Value} {Q : Unit → Shared → Prop} (I : Inv X pins σ H s) (hN : X.N.Nodup) (hi : X.N[i]? = some x) (hx : Loc X.env.scope x) (r : RelV v u)
    (h : ∀ s', Inv X pins (σ.set i (some v)) H s' → (∃ a, Heap.SameBut a s.heap s'.heap ∧ (a = X.env.locals ∨ X.env.cells.lookup x = some a)) → Q () s') (hf : X.fn x = true ∨ X.env.scope.names.lookup x = some .local := by first | exact .inl rfl | exact .inr rfl | assumption) : wpAny M A (storeName X.env x u) Q E s := by
  obtain ⟨m, hn, hl⟩ := id I.loc
  have hcls : (X.env.scope.kind == .class || (X.env.scope.kind == .module && X.env.locals != X.env.globals)) = false := by rw [I.ok.kind]; rfl
  have hiσ : i < σ.length := by rw [I.len]; exact (List.getElem?_eq_some_iff.mp hi).1
  have cne := I.cne
  have tracked : ∀ {a : Addr} {h' : Heap}, (∃ o, s.heap.get? a = some o ∧ H a = none) → Heap.SameBut a s.heap h' → HOk X.prog X.w H h' := fun {a h'} ha hs b ob e => by
    obtain ⟨_, _, hfree⟩ := ha
    refine (I.hok b ob e).stay (fun c w' hc q => (hs.2 c ?_).trans q) (fun _ q => q) fun _ _ q => q
    rintro rfl
    rcases hc with rfl | hc
    · rw [hfree] at e; cases e
    · rw [hfree] at hc; cases hc
  rcases hx with hk | hk
  · refine wpAny_storeName_local hk hn (fun h' hn' hs => ?_) hcls
    obtain ⟨oL, _, _, hoL, _⟩ := id hn
    refine h _ ⟨I.ok, I.os, I.bare, ⟨fun b o e n hb hx => ?_, fun b o e n hb hx => ?_, I.base.free, fun b o e hx => ?_, I.base.tups, I.base.frzs, I.base.tbls⟩, ⟨_, hn', fun j y v' e1 e2 e3 => ?_⟩, fun y c e => ?_, I.free, I.freeC, fun p hp => ?_, tracked ⟨oL, hoL, I.free⟩ hs, by simpa using I.len⟩ ⟨_, hs, .inl rfl⟩
    · exact (hs.2 b (Nat.ne_of_lt (Nat.lt_of_lt_of_le (Heap.lt_size e) I.ok.above))).trans (I.base.keep b o e n hb hx)
    · obtain ⟨sl, e1⟩ := I.base.slot b o e n hb hx
      exact ⟨sl, (hs.2 b (Nat.ne_of_lt (Nat.lt_of_lt_of_le (Heap.lt_size e) I.ok.above))).trans e1⟩
    · obtain ⟨o', e1⟩ := I.base.there b o e hx
      exact ⟨o', (hs.2 b (Nat.ne_of_lt (Nat.lt_of_lt_of_le (Heap.lt_size e) I.ok.above))).trans e1⟩
    · by_cases hj : j = i
      · subst hj
        rw [hi] at e1; cases e1
        rw [List.getElem?_set_self hiσ] at e2
        cases e2
        exact ⟨u, r, .inl ⟨hk, by simp⟩⟩
      · rw [List.getElem?_set_ne (Ne.symm hj)] at e2
        obtain ⟨u', r', q⟩ := hl j y v' e1 e2 e3
        refine ⟨u', r', ?_⟩
        rcases q with ⟨k, e⟩ | ⟨k, c, e, z⟩
        · refine .inl ⟨k, ?_⟩
          have : y ≠ x := fun e => hj (nodup_ix hN e1 (e ▸ hi))
          simp [this, e]
        · exact .inr ⟨k, c, e, z.sameBut hs (cne y c e)⟩
    · obtain ⟨w', z⟩ := I.cell y c e
      exact ⟨w', z.sameBut hs (cne y c e)⟩
    · obtain ⟨e, n, ne, nf, d⟩ := I.pin p hp
      exact ⟨(hs.2 p.1 ne).trans e, n, ne, nf, d⟩
  · have hfn : X.fn x = true := by
      rcases hf with z | z
      · exact z
      · rw [z] at hk; cases hk
    obtain ⟨c, hc⟩ := I.ok.has x (.inl hk)
    obtain ⟨w', z⟩ := I.cell x c hc
    refine wpAny_storeName_cell I.ok.kind hk hc z (fun h' hc' hs => ?_)
    obtain ⟨oc, hoc, hocd⟩ := id z
    refine h { s with heap := h' } ⟨I.ok, I.os, I.bare, ⟨fun b o e n hb hx => ?_, fun b o e n hb hx => ?_, I.base.free, fun b o e hx => ?_, I.base.tups, I.base.frzs, I.base.tbls⟩, ⟨m, hn.sameBut hs (Ne.symm (cne x c hc)), fun j y v' e1 e2 e3 => ?_⟩, fun y c' e => ?_, I.free, I.freeC, fun p hp => ?_, tracked ⟨oc, hoc, I.freeC x c hc⟩ hs, by simpa using I.len⟩ ⟨c, hs, .inr hc⟩
    · exact (hs.2 b (Nat.ne_of_lt (Nat.lt_of_lt_of_le (Heap.lt_size e) (I.ok.cab x c hfn hc)))).trans (I.base.keep b o e n hb hx)
    · obtain ⟨sl, e1⟩ := I.base.slot b o e n hb hx
      exact ⟨sl, (hs.2 b (Nat.ne_of_lt (Nat.lt_of_lt_of_le (Heap.lt_size e) (I.ok.cab x c hfn hc)))).trans e1⟩
    · obtain ⟨o', e1⟩ := I.base.there b o e hx
      exact ⟨o', (hs.2 b (Nat.ne_of_lt (Nat.lt_of_lt_of_le (Heap.lt_size e) (I.ok.cab x c hfn hc)))).trans e1⟩
    · by_cases hj : j = i
      · subst hj
        rw [hi] at e1; cases e1
        rw [List.getElem?_set_self hiσ] at e2
        cases e2
        exact ⟨u, r, .inr ⟨.inl hk, c, hc, hc'⟩⟩
      · rw [List.getElem?_set_ne (Ne.symm hj)] at e2
        obtain ⟨u', r', q⟩ := hl j y v' e1 e2 e3
        refine ⟨u', r', ?_⟩
        rcases q with q | ⟨k, c', e, z'⟩
        · exact .inl q
        · refine .inr ⟨k, c', e, z'.sameBut hs ?_⟩
          rintro rfl
          exact hj (nodup_ix hN e1 (I.ok.inj _ _ _ e hc ▸ hi))
    · by_cases hcc : c' = c
      · subst hcc; exact ⟨_, hc'⟩
      · obtain ⟨w2, z2⟩ := I.cell y c' e
        exact ⟨w2, z2.sameBut hs hcc⟩
    · obtain ⟨e, n, ne, nf, d⟩ := I.pin p hp
      refine ⟨(hs.2 p.1 ?_).trans e, n, ne, nf, d⟩
      intro q
      rw [q, hoc] at e
      have q' : oc = p.2 := Option.some.inj e
      exact d w' (by rw [← q']; exact hocd)
theorem store_ok {M : Model} {A : Around} {E : Value → Shared → Prop} {i : Nat} {x : Str} {v : V} {u : Value} {Q : Unit → Shared → Prop} (I : Inv X pins σ H s) (hN : X.N.Nodup) (hi : X.N[i]? = some x) (hx : Loc X.env.scope x) (r : RelV v u)
    (h : ∀ s', Inv X pins (σ.set i (some v)) H s' → Q () s') (hf : X.fn x = true ∨ X.env.scope.names.lookup x = some .local := by first | exact .inl rfl | exact .inr rfl | assumption) : wpAny M A (storeName X.env x u) Q E s :=
  store_ok2 I hN hi hx r (fun s' I' _ => h s' I') hf
theorem Inv.call' {s' : Shared} {ch : List Addr} (I : Inv X pins σ H s) (ho : s'.os = s.os) (u : Un (frs X.stack) ch H H' s.heap s'.heap) (hok : HOk X.prog X.w H' s'.heap) (hg : AllBare s'.gens)
    (hch : ∀ b ∈ ch, (b ∈ X.ex ∨ X.s₀.heap.objs.size ≤ b) ∧ b ≠ X.env.locals ∧ (∀ x c, X.env.cells.lookup x = some c → c ≠ b) ∧ ∀ p ∈ X.pn ++ pins, p.1 ≠ b) : Inv X pins σ H' s' := by
  obtain ⟨h', g', d', t', o'⟩ := s'
  have e : o' = s.os := ho
  subst e
  exact I.call (g' := g') (t' := t') (d' := d') u hok hg hch
end
abbrev XK := Value → Option Addr → Hp → Prop
abbrev St := List (Option V)
abbrev VK := V → Hp → Prop
abbrev TE := St → Hp → VK → Prop
abbrev TT := St → Hp → (Bool → Hp → Prop) → Prop
abbrev TA := St → Hp → (List V → Hp → Prop) → Prop
structure Ends where
  nx : St → Hp → Prop
  rt : VK
  bk : St → Hp → Prop := fun _ _ => False
  ct : St → Hp → Prop := fun _ _ => False
abbrev TS := Ends → St → Hp → Prop
def EP (X : Cx) (pins : List (Addr × Obj)) (σ : St) (Q : VK) (u : Value) (s' : Shared) : Prop := ∃ v H', Inv X pins σ H' s' ∧ RelV v u ∧ Q v H'
def TP (X : Cx) (pins : List (Addr × Obj)) (σ : St) (Q : Bool → Hp → Prop) (b : Bool) (s' : Shared) : Prop := ∃ H', Inv X pins σ H' s' ∧ Q b H'
def AP (X : Cx) (pins : List (Addr × Obj)) (σ : St) (Q : List V → Hp → Prop) (us : List Value) (s' : Shared) : Prop := ∃ vs H', Inv X pins σ H' s' ∧ Vals vs us ∧ Q vs H'
def SP (X : Cx) (pins : List (Addr × Obj)) (D : Ends) (f : Flow) (s' : Shared) : Prop :=
  match f with
  | .next => ∃ σ' H', Inv X pins σ' H' s' ∧ D.nx σ' H'
  | .brk => ∃ σ' H', Inv X pins σ' H' s' ∧ D.bk σ' H'
  | .cont => ∃ σ' H', Inv X pins σ' H' s' ∧ D.ct σ' H'
  | .ret u => ∃ v σ' H', Inv X pins σ' H' s' ∧ RelV v u ∧ D.rt v H'
def PE (X : Cx) (e : Expr) (t : TE) : Prop :=
  ∀ (pins : List (Addr × Obj)) (s : Shared) (σ : St) (H : Hp) (Q : VK), Inv X pins σ H s → t σ H Q → wpAny (model X.prog X.w) X.A (eval e X.env) (EP X pins σ Q) X.xe s
def PT (X : Cx) (e : Expr) (t : TT) : Prop :=
  ∀ (pins : List (Addr × Obj)) (s : Shared) (σ : St) (H : Hp) (Q : Bool → Hp → Prop), Inv X pins σ H s → t σ H Q → wpAny (model X.prog X.w) X.A (isTrue e X.env (eval e X.env)) (TP X pins σ Q) X.xe s
def PW (X : Cx) (e : Expr) (t : TT) : Prop :=
  ∀ (whole : Sem Value) (pins : List (Addr × Obj)) (s : Shared) (σ : St) (H : Hp) (Q : Bool → Hp → Prop), Inv X pins σ H s → t σ H Q → wpAny (model X.prog X.w) X.A (isTrue e X.env whole) (TP X pins σ Q) X.xe s
theorem PW.pt {X : Cx} {e : Expr} {t : TT} (h : PW X e t) : PT X e t := h _
def PA (X : Cx) (es : List Expr) (t : TA) : Prop :=
  ∀ (pos : Pos) (pins : List (Addr × Obj)) (s : Shared) (σ : St) (H : Hp) (Q : List V → Hp → Prop), Inv X pins σ H s → t σ H Q → wpAny (model X.prog X.w) X.A (spliced (backTo pos (starEach es X.env))) (AP X pins σ Q) X.xe s
def PS (X : Cx) (st : Stmt) (t : TS) : Prop :=
  ∀ (pins : List (Addr × Obj)) (s : Shared) (σ : St) (H : Hp) (D : Ends), Inv X pins σ H s → t D σ H → wpAny (model X.prog X.w) X.A (exec st X.env) (SP X pins D) X.xe s
def PSs (X : Cx) (st : List Stmt) (t : TS) : Prop :=
  ∀ (pins : List (Addr × Obj)) (s : Shared) (σ : St) (H : Hp) (D : Ends), Inv X pins σ H s → t D σ H → wpAny (model X.prog X.w) X.A (execs st X.env) (SP X pins D) X.xe s
theorem thn {α : Type} {t : Sem α} {Q Q' : α → Shared → Prop} {M : Model} {A : Around} {E : Value → Shared → Prop} {s : Shared} (h : wpAny M A t Q E s) (hQ : ∀ a s, Q a s → Q' a s) : wpAny M A t Q' E s := wpAny_mono h hQ fun _ _ x => x
end L2
namespace L2
open PySem PySem.Spec PyProof.Rows
section
variable {X : Cx}
def tVar (i : Nat) : TE := fun σ H Q => ∃ v, σ[i]? = some (some v) ∧ Q v H
def tC (v : V) : TE := fun _ H Q => Q v H
theorem pe_var {i : Nat} {x : Str} {pos : Pos} (hN : X.N[i]? = some x) (hv : Vis X.env.scope x) (hd : (x == ("__debug__" : Str)) = false := by decide) (hcd : (x == ("__classdict__" : Str)) = false := by decide) : PE X (.Name x pos) (tVar i) := by
  intro pins s σ H Q I h
  obtain ⟨v, e, h⟩ := h
  obtain ⟨m, hn, hl⟩ := I.loc
  obtain ⟨u, r, l⟩ := hl i x v hN e hv
  have fin : EP X pins σ Q u s := ⟨v, H, I, r, h⟩
  rcases l with ⟨hk, hm⟩ | ⟨hk, c, hc, hcell⟩
  · exact wpAny_Name (wpAny_loadName_local I.ok.kind hk hn hm fin) hd
  · rcases hk with hk | hk
    · exact wpAny_Name (wpAny_loadName_cell I.ok.kind hk hc hcell fin) hd
    · exact wpAny_Name (wpAny_loadName_free I.ok.kind hk hc hcell fin hcd) hd
theorem pe_int {i j pos} : PE X (.Constant (.int i) j pos) (tC (.int i)) := fun _ _ _ H _ I h => wpAny_Constant_int ⟨.int i, H, I.tok _, ⟨_, rfl⟩, h⟩
theorem pe_bl {b j pos} : PE X (.Constant (.bool b) j pos) (tC (.bl b)) := fun _ _ _ H _ I h => Constant_bool ⟨.bl b, H, I, rfl, h⟩
theorem pe_str {x j pos} : PE X (.Constant (.str x) j pos) (tC (.str x)) := fun _ _ _ H _ I h => Calls.Constant_str ⟨.str x, H, I.tok _, ⟨_, rfl⟩, h⟩
def Gl (X : Cx) (x : Str) : Prop := X.env.kindOf x = some .globalImplicit
theorem ld_glob {E : Value → Shared → Prop} {pins : List (Addr × Obj)} {s : Shared} {σ : St} {H : Hp} {x : Str} {u : Value} {pos : Pos} {Q : Value → Shared → Prop} (I : Inv X pins σ H s) (hg : Gl X x) (hm : X.mg x = some u) (h : Q u s)
    (hd : (x == ("__debug__" : Str)) = false := by decide) : wpAny (model X.prog X.w) X.A (eval (.Name x pos) X.env) Q E s :=
  Calls.Name_function_global I.ok.kind hg (Calls.loadGlobal_global (by rw [I.ok.glob]; exact I.mod.glob.keeps I.bk) hm h) hd
theorem ld_blt {E : Value → Shared → Prop} {pins : List (Addr × Obj)} {s : Shared} {σ : St} {H : Hp} {x : Str} {u : Value} {pos : Pos} {Q : Value → Shared → Prop} (I : Inv X pins σ H s) (hg : Gl X x) (hm : X.mg x = none) (hv : bootBuiltins x = some u) (h : Q u s)
    (hn : x ≠ "__name__" := by decide) (hd : (x == ("__debug__" : Str)) = false := by decide) : wpAny (model X.prog X.w) X.A (eval (.Name x pos) X.env) Q E s := by
  obtain ⟨mb, h1, h2⟩ := I.mod.blt
  exact Calls.Name_function_global I.ok.kind hg (Calls.loadGlobal_builtin (by rw [I.ok.glob]; exact I.mod.glob.keeps I.bk) hm (by rw [I.ok.blt]; exact h1.keeps I.bk) ((h2 x hn).trans hv) h) hd
theorem pe_glob {x : Str} {v : V} {u : Value} {pos : Pos} (hg : Gl X x) (hm : X.mg x = some u) (r : RelV v u) (hd : (x == ("__debug__" : Str)) = false := by decide) : PE X (.Name x pos) (tC v) :=
  fun _ _ _ H _ I h => ld_glob I hg hm ⟨v, H, I, r, h⟩ hd
theorem pe_bltn {x : Str} {v : V} {u : Value} {pos : Pos} (hg : Gl X x) (hm : X.mg x = none) (hv : bootBuiltins x = some u) (r : RelV v u) (hn : x ≠ "__name__" := by decide) (hd : (x == ("__debug__" : Str)) = false := by decide) : PE X (.Name x pos) (tC v) :=
  fun _ _ _ H _ I h => ld_blt I hg hm hv ⟨v, H, I, r, h⟩ hn hd
variable {a b : Expr} {ta tb : TE} {pos : Pos}
def tB (t : TE) : TT := fun σ H Q => t σ H fun x H1 => ∃ c, x = .bl c ∧ Q c H1
theorem pt_val {e : Expr} {t : TE} (h : PE X e t) (he : ∀ whole, isTrue e X.env whole = (do let v ← whole; standAt e.pos; holding [v] (truthy v)) := by intro _; rfl) : PT X e (tB t) := by
  intro pins s σ H Q I hw
  refine isTrue_plain (thn (h pins s σ H _ I hw) fun v s1 ⟨x, H1, I1, r1, q1⟩ => ?_) (he _)
  obtain ⟨d, rfl, q⟩ := q1
  cases r1
  exact wpAny_truthy_bool ⟨H1, I1, q⟩
variable {tA tB' : TT} {rest : List Expr}
def tAnd (t u : TT) : TT := fun σ H Q => t σ H fun c H1 => if c = true then u σ H1 Q else Q false H1
def tOr (t u : TT) : TT := fun σ H Q => t σ H fun c H1 => if c = true then Q true H1 else u σ H1 Q
def tNot (t : TT) : TT := fun σ H Q => t σ H fun c H1 => Q (!c) H1
theorem pw_and1 (ha : PT X a tA) : PW X (.BoolOp .And [a] pos) tA := by
  intro wh pins s σ H Q I h
  refine isTrue_and (thn (ha pins s σ H Q I h) fun c s1 e => ?_)
  cases c with
  | true => exact isTrue_and_nil e
  | false => exact e
theorem pw_or1 (ha : PT X a tA) : PW X (.BoolOp .Or [a] pos) tA := by
  intro wh pins s σ H Q I h
  refine isTrue_or (thn (ha pins s σ H Q I h) fun c s1 e => ?_)
  cases c with
  | false => exact isTrue_or_nil e
  | true => exact e
theorem pw_and (ha : PT X a tA) (hb : PW X (.BoolOp .And (b :: rest) pos) tB') : PW X (.BoolOp .And (a :: b :: rest) pos) (tAnd tA tB') := by
  intro wh pins s σ H Q I h
  refine isTrue_and (thn (ha pins s σ H _ I h) fun c s1 ⟨H1, I1, q1⟩ => ?_)
  cases c with
  | true => exact hb wh pins s1 σ H1 Q I1 q1
  | false => exact ⟨H1, I1, q1⟩
theorem pw_or (ha : PT X a tA) (hb : PW X (.BoolOp .Or (b :: rest) pos) tB') : PW X (.BoolOp .Or (a :: b :: rest) pos) (tOr tA tB') := by
  intro wh pins s σ H Q I h
  refine isTrue_or (thn (ha pins s σ H _ I h) fun c s1 ⟨H1, I1, q1⟩ => ?_)
  cases c with
  | true => exact ⟨H1, I1, q1⟩
  | false => exact hb wh pins s1 σ H1 Q I1 q1
theorem pt_not (ha : PT X a tA) : PT X (.UnaryOp .Not a pos) (tNot tA) := by
  intro pins s σ H Q I h
  exact isTrue_not (ha pins s σ H (fun c H1 => Q (!c) H1) I h)
def tAndV (ta tb : TE) : TE := fun σ H Q => ta σ H fun x H1 => ∃ c, x = .bl c ∧ if c = true then tb σ H1 Q else Q (.bl false) H1
def tOrV (ta tb : TE) : TE := fun σ H Q => ta σ H fun x H1 => ∃ c, x = .bl c ∧ if c = true then Q (.bl true) H1 else tb σ H1 Q
def tNotV (ta : TE) : TE := fun σ H Q => ta σ H fun x H1 => ∃ c, x = .bl c ∧ Q (.bl (!c)) H1
theorem pe_one {op} {t : TE} (h : PE X a t) : PE X (.BoolOp op [a] pos) t := fun pins s σ H Q I hw => BoolOp_one (h pins s σ H Q I hw)
theorem pe_and (ha : PE X a ta) (hb : PE X (.BoolOp .And (b :: rest) pos) tb) : PE X (.BoolOp .And (a :: b :: rest) pos) (tAndV ta tb) := by
  intro pins s σ H Q I h
  refine BoolOp_and (thn (ha pins s σ H _ I h) fun v s1 ⟨x, H1, I1, r1, q1⟩ => ?_)
  obtain ⟨c, rfl, q1⟩ := q1
  cases r1
  refine wpAny_truthy_bool ?_
  cases c with
  | true => exact hb pins s1 σ H1 Q I1 q1
  | false => exact ⟨.bl false, H1, I1, rfl, q1⟩
def tIf (t : TT) (ta tb : TE) : TE := fun σ H Q => t σ H fun c H1 => if c = true then ta σ H1 Q else tb σ H1 Q
theorem pe_ifExp {c : Expr} (hc : PT X c tA) (ha : PE X a ta) (hb : PE X b tb) : PE X (.IfExp c a b pos) (tIf tA ta tb) := by
  intro pins s σ H Q I h
  refine wpAny_IfExp (thn (hc pins s σ H _ I h) fun d s1 ⟨H1, I1, q1⟩ => ?_)
  cases d with
  | true => exact ha pins s1 σ H1 Q I1 q1
  | false => exact hb pins s1 σ H1 Q I1 q1
end
end L2
namespace L2
open PySem PySem.Spec PyProof.Rows
def SqL (K : PySem.W.Frag) (H : Hp) (a : Addr) (xs : List V) : Prop :=
  Rd H a (.lst xs) ∨
    ∃ (o : Obj) (its : Array Value) (n : Nat), K.lookup a = some o ∧ o.cls = .type "list" ∧ o.dict = none ∧ o.data = .seq its n ∧ its.size ≤ sizeLine ∧ Vals xs its.toList
def SqT (K : PySem.W.Frag) (H : Hp) (a : Addr) (xs : List V) : Prop :=
  Rd H a (.tup xs) ∨
    ∃ (o : Obj) (its : Array Value) (n : Nat), K.lookup a = some o ∧ o.cls = .type "tuple" ∧ o.data = .seq its n ∧ its.size ≤ sizeLine ∧ Vals xs its.toList
def absV : Value → Option V
  | .none => some .non
  | .bool b => some (.bl b)
  | .int i _ => some (.int i)
  | .str x _ => some (.str x)
  | .bytes b _ => some (.byt b)
  | .float b _ => some (.flt b)
  | .ref a => some (.ref a)
  | .type n => some (.ty n)
  | _ => none
theorem RelV.abs {x : V} {u : Value} (r : RelV x u) : absV u = some x := by
  cases x with
  | non => cases r; rfl
  | bl _ => cases r; rfl
  | int _ => obtain ⟨t, rfl⟩ := r; rfl
  | str _ => obtain ⟨t, rfl⟩ := r; rfl
  | byt _ => obtain ⟨t, rfl⟩ := r; rfl
  | flt _ => obtain ⟨t, rfl⟩ := r; rfl
  | ref _ => cases r; rfl
  | ty _ => cases r; rfl
theorem RelV.inj {x y : V} {u : Value} (r : RelV x u) (q : RelV y u) : x = y := Option.some.inj (r.abs.symm.trans q.abs)
theorem Vals.inj : ∀ {xs ys : List V} {us : List Value}, Vals xs us → Vals ys us → xs = ys
  | _, _, _, .nil, .nil => rfl
  | _, _, _, .cons r t, .cons r' t' => by rw [r.inj r', Vals.inj t t']
section
variable {X : Cx} {pins : List (Addr × Obj)} {σ : St} {H : Hp} {s : Shared} {a : Addr} {xs ys : List V}
theorem SqL.of {K : PySem.W.Frag} (h : H a = some (.lst xs)) : SqL K H a xs := .inl (.inl h)
theorem SqT.of {K : PySem.W.Frag} (h : H a = some (.tup xs)) : SqT K H a xs := .inl (.inl h)
theorem Inv.list (I : Inv X pins σ H s) (h : SqL X.K H a xs) : ∃ its : List Value, Vals xs its ∧ PlainL s.heap a its.toArray ∧ xs.length ≤ sizeLine := by
  rcases h with h | ⟨o, its, n, hk, hc, hd, hs, hz, r⟩
  · obtain ⟨z, its, n, r, e⟩ := h.ok I.hok
    exact ⟨its, r, ⟨_, n, e, rfl, rfl, rfl⟩, z⟩
  · refine ⟨its.toList, r, ⟨o, n, I.kIn a o hk, hc, hd, by simpa using hs⟩, ?_⟩
    have e := r.length
    simp only [Array.length_toList] at e
    omega
theorem Inv.tuple (I : Inv X pins σ H s) (h : SqT X.K H a xs) : ∃ its : List Value, Vals xs its ∧ IsTup s.heap a its.toArray ∧ xs.length ≤ sizeLine := by
  rcases h with h | ⟨o, its, n, hk, hc, hs, hz, r⟩
  · obtain ⟨z, its, r, p⟩ := h.ok I.hok
    exact ⟨its, r, p, z⟩
  · refine ⟨its.toList, r, ⟨o, I.kIn a o hk, hc, n, by simpa using hs⟩, ?_⟩
    have e := r.length
    simp only [Array.length_toList] at e
    omega
theorem Inv.list_inj (I : Inv X pins σ H s) (h : SqL X.K H a xs) (h' : SqL X.K H a ys) : xs = ys := by
  obtain ⟨its, r, ⟨o, n, e, _, _, d⟩, _⟩ := I.list h
  obtain ⟨its', r', ⟨o', n', e', _, _, d'⟩, _⟩ := I.list h'
  rw [e] at e'; cases e'
  rw [d] at d'
  injection d' with d1 _
  have : its = its' := by simpa using congrArg Array.toList d1
  subst this
  exact r.inj r'
theorem Inv.tuple_inj (I : Inv X pins σ H s) (h : SqT X.K H a xs) (h' : SqT X.K H a ys) : xs = ys := by
  obtain ⟨its, r, ⟨o, e, _, n, d⟩, _⟩ := I.tuple h
  obtain ⟨its', r', ⟨o', e', _, n', d'⟩, _⟩ := I.tuple h'
  rw [e] at e'; cases e'
  rw [d] at d'
  injection d' with d1 _
  have : its = its' := by simpa using congrArg Array.toList d1
  subst this
  exact r.inj r'
end
abbrev Cx.wish (X : Cx) (E : Value → Shared → Prop) : Cx := { X with xe := E }
abbrev Cx.nox (X : Cx) : Cx := X.wish fun _ _ => False
theorem Cx.Ok.wish {X : Cx} (ok : X.Ok) (E : Value → Shared → Prop) : (X.wish E).Ok :=
  ⟨ok.mod, ok.kind, ok.glob, ok.blt, ok.above, ok.inj, ok.has, ok.cab, ok.hd, ok.frames, ok.stk, ok.exf, ok.bs, ok.bsz, ok.noex, ok.exfs, ok.funs, ok.frf⟩
theorem Cx.Ok.unwish {X : Cx} {E : Value → Shared → Prop} (ok : (X.wish E).Ok) : X.Ok :=
  ⟨ok.mod, ok.kind, ok.glob, ok.blt, ok.above, ok.inj, ok.has, ok.cab, ok.hd, ok.frames, ok.stk, ok.exf, ok.bs, ok.bsz, ok.noex, ok.exfs, ok.funs, ok.frf⟩
section
variable {X : Cx} {pins : List (Addr × Obj)} {σ : St} {H : Hp} {s : Shared} {E : Value → Shared → Prop}
theorem Inv.wish (I : Inv X pins σ H s) (E : Value → Shared → Prop) : Inv (X.wish E) pins σ H s := ⟨I.ok.wish E, I.os, I.bare, I.base, I.loc, I.cell, I.free, I.freeC, I.pin, I.hok, I.len⟩
theorem Inv.unwish (I : Inv (X.wish E) pins σ H s) : Inv X pins σ H s := ⟨I.ok.unwish, I.os, I.bare, I.base, I.loc, I.cell, I.free, I.freeC, I.pin, I.hok, I.len⟩
theorem SP.unwish {D : Ends} {f : Flow} {s' : Shared} (h : SP (X.wish E) pins D f s') : SP X pins D f s' := by
  cases f with
  | next => obtain ⟨σ', H', I, q⟩ := h; exact ⟨σ', H', I.unwish, q⟩
  | brk => obtain ⟨σ', H', I, q⟩ := h; exact ⟨σ', H', I.unwish, q⟩
  | cont => obtain ⟨σ', H', I, q⟩ := h; exact ⟨σ', H', I.unwish, q⟩
  | ret u => obtain ⟨v, σ', H', I, r, q⟩ := h; exact ⟨v, σ', H', I.unwish, r, q⟩
theorem PE.nox {e : Expr} {t : TE} (h : PE X.nox e t) : PE X e t := fun pins s σ H Q I hw =>
  wpAny_mono (h pins s σ H Q (I.wish _) hw) (fun _ _ ⟨v, H', I', r, q⟩ => ⟨v, H', I'.unwish, r, q⟩) fun _ _ z => False.elim z
theorem PT.nox {e : Expr} {t : TT} (h : PT X.nox e t) : PT X e t := fun pins s σ H Q I hw =>
  wpAny_mono (h pins s σ H Q (I.wish _) hw) (fun _ _ ⟨H', I', q⟩ => ⟨H', I'.unwish, q⟩) fun _ _ z => False.elim z
theorem PSs.nox {st : List Stmt} {t : TS} (h : PSs X.nox st t) : PSs X st t := fun pins s σ H D I hw =>
  wpAny_mono (h pins s σ H D (I.wish _) hw) (fun _ _ q => q.unwish) fun _ _ z => False.elim z
end
section
variable {X : Cx} {st : Stmt} {rest : List Stmt} {t u : TS} {e : Expr} {te : TE} {pos : Pos}
def tNext : TS := fun D σ H => D.nx σ H
def tSeq (t u : TS) : TS := fun D σ H => t { D with nx := u D } σ H
theorem pss_nil : PSs X [] tNext := fun _ _ σ H _ I h => wpAny_execs_nil ⟨σ, H, I, h⟩
theorem pss_cons (h1 : PS X st t) (h2 : PSs X rest u) : PSs X (st :: rest) (tSeq t u) := by
  intro pins s σ H D I h
  refine wpAny_execs_cons (thn (h1 pins s σ H { D with nx := u D } I h) fun f s1 q => ?_)
  cases f with
  | next =>
    obtain ⟨σ', H', I', q⟩ := q
    exact h2 pins s1 σ' H' D I' q
  | ret v => exact q
  | brk => exact q
  | cont => exact q
theorem pss_one (h1 : PS X st t) : PSs X [st] t := by
  intro pins s σ H D I h
  refine wpAny_execs_cons (thn (h1 pins s σ H D I h) fun f s1 q => ?_)
  cases f with
  | next => exact wpAny_execs_nil q
  | ret v => exact q
  | brk => exact q
  | cont => exact q
theorem Inv.quiet {pins : List (Addr × Obj)} {σ : St} {H : Hp} {s : Shared} (I : Inv X pins σ H s) : interactive X.env = false := by simp [interactive, I.ok.kind]
def tDrop (te : TE) : TS := fun D σ H => te σ H fun _ H1 => D.nx σ H1
theorem ps_expr (he : PE X e te) (hs : swapsWith e none pos.line X.env = pure false := by rfl) : PS X (.Expr e pos) (tDrop te) := by
  intro pins s σ H D I h
  exact wpAny_Expr_any (thn (he pins s σ H _ I h) fun v s1 ⟨x, H1, I1, r1, q1⟩ => ⟨σ, H1, I1, q1⟩) I.quiet hs
def tRet (te : TE) : TS := fun D σ H => te σ H D.rt
theorem ps_ret (he : PE X e te) : PS X (.Return (some e) pos) (tRet te) := by
  intro pins s σ H D I h
  exact wpAny_Return_some (thn (he pins s σ H _ I h) fun v s1 ⟨x, H1, I1, r1, q1⟩ => ⟨x, σ, H1, I1, r1, q1⟩)
def tRetN : TS := fun D _ H => D.rt .non H
def tIfS (c : TT) (t u : TS) : TS := fun D σ H => c σ H fun b H1 => if b = true then t D σ H1 else u D σ H1
theorem ps_if {c : Expr} {a b : List Stmt} {tc : TT} (hc : PT X c tc) (ha : PSs X a t) (hb : PSs X b u) : PS X (.If c a b pos) (tIfS tc t u) := by
  intro pins s σ H D I h
  refine wpAny_If (thn (hc pins s σ H _ I h) fun d s1 ⟨H1, I1, q1⟩ => ?_)
  cases d with
  | true => exact ha pins s1 σ H1 D I1 q1
  | false => exact hb pins s1 σ H1 D I1 q1
end
abbrev TG := V → St → Hp → (St → Hp → Prop) → Prop
abbrev TGs := List V → St → Hp → (St → Hp → Prop) → Prop
def PG (X : Cx) (target : Expr) (t : TG) : Prop :=
  ∀ (pins : List (Addr × Obj)) (s : Shared) (σ : St) (H : Hp) (v : V) (u : Value) (Q : St → Hp → Prop), Inv X pins σ H s → RelV v u → t v σ H Q →
    wpAny (model X.prog X.w) X.A (assign target X.env u) (fun _ s' => ∃ σ' H', Inv X pins σ' H' s' ∧ Q σ' H') X.xe s
def PGs (X : Cx) (ts : List Expr) (t : TGs) : Prop :=
  ∀ (pins : List (Addr × Obj)) (s : Shared) (σ : St) (H : Hp) (vs : List V) (us : List Value) (Q : St → Hp → Prop), Inv X pins σ H s → Vals vs us → t vs σ H Q →
    wpAny (model X.prog X.w) X.A (assignInOrder ((assignEach ts X.env).map (·.2)) us) (fun _ s' => ∃ σ' H', Inv X pins σ' H' s' ∧ Q σ' H') X.xe s
abbrev TSet := V → V → V → Hp → (Hp → Prop) → Prop
section
variable {X : Cx} {pos : Pos}
def gName (i : Nat) : TG := fun v σ H Q => Q (σ.set i (some v)) H
theorem pg_name {i : Nat} {x : Str} (hN : X.N.Nodup) (hi : X.N[i]? = some x) (hx : Loc X.env.scope x) (hf : X.fn x = true ∨ X.env.scope.names.lookup x = some .local := by first | exact .inl rfl | exact .inr rfl | assumption) : PG X (.Name x pos) (gName i) := by
  intro pins s σ H v u Q I r h
  exact wpAny_assign_Name (store_ok I hN hi hx r (fun s' I' => ⟨_, H, I', h⟩) hf)
def gNil : TGs := fun vs σ H Q => vs = [] ∧ Q σ H
def gCons (t : TG) (u : TGs) : TGs := fun vs σ H Q => ∃ v r, vs = v :: r ∧ t v σ H fun σ' H' => u r σ' H' Q
theorem pgs_nil : PGs X [] gNil := by
  intro pins s σ H vs us Q I r h
  obtain ⟨e, h⟩ := h
  subst e
  cases r
  exact assignInOrder_nil ⟨σ, H, I, h⟩
theorem pgs_cons {e : Expr} {es : List Expr} {t : TG} {u : TGs} (h1 : PG X e t) (h2 : PGs X es u)
    (hs : (assignEach (e :: es) X.env).map (·.2) = assign e X.env :: (assignEach es X.env).map (·.2) := by rfl) : PGs X (e :: es) (gCons t u) := by
  intro pins s σ H vs us Q I r h
  obtain ⟨v, vr, e1, h⟩ := h
  subst e1
  cases r with
  | cons r rr =>
    rw [hs]
    refine assignInOrder_cons (thn (h1 pins s σ H _ _ _ I r h) fun _ s1 ⟨σ1, H1, I1, q1⟩ => ?_)
    exact h2 pins s1 σ1 H1 _ _ Q I1 rr q1
def gTup (K : PySem.W.Frag) (n : Nat) (t : TGs) : TG := fun v σ H Q => ∃ a xs, v = .ref a ∧ SqT K H a xs ∧ xs.length = n ∧ t xs σ H Q
theorem pg_tup {es : List Expr} {k : Nat} {t : TGs} {n : Nat} (hc : X.calm = true) (h : PGs X es t)
    (hn : (assignEach es X.env).length = n := by rfl) (hst : (assignEach es X.env).findIdx? (·.1) = none := by rfl) : PG X (.Tuple es k pos) (gTup X.K n t) := by
  intro pins s σ H v u Q I r hw
  obtain ⟨a, xs, e1, hq, hl, hw⟩ := hw
  subst e1
  cases r
  obtain ⟨its, rv, ht, hz⟩ := I.tuple hq
  refine assign_Tuple_tuple (I.ok.hd hc) ht (by simp [hn, ← hl, rv.length]) hst fun h' hx => ?_
  have I1 : Inv X pins σ H { s with heap := h' } := I.kept (t' := s.toks) fun b o e => hx b o (Nat.ne_of_lt (Heap.lt_size e)) e
  exact h pins _ σ H xs _ Q I1 (by simpa using rv) hw
def gSub (to ti : TE) (t : TSet) : TG := fun v σ H Q => to σ H fun o H1 => ti σ H1 fun i H2 => t o i v H2 fun H3 => Q σ H3
def tAsg (te : TE) (g : TG) : TS := fun D σ H => te σ H fun x H1 => g x σ H1 D.nx
theorem ps_asg {tg e : Expr} {te : TE} {g : TG} (he : PE X e te) (hg : PG X tg g) (hs : swapsWithSole [tg] e pos.line X.env = pure false := by rfl) (hw : swappedStores [tg] e X.env = pure none := by rfl)
    (h1 : (assignEach [tg] X.env).map (·.2) = [assign tg X.env] := by rfl) : PS X (.Assign [tg] e pos) (tAsg te g) := by
  intro pins s σ H D I h
  refine wpAny_Assign_stores (thn (he pins s σ H _ I h) fun v s1 ⟨x, H1, I1, r1, q1⟩ => ?_) hs hw
  rw [h1]
  exact thn (hg pins s1 σ H1 x v _ I1 r1 q1) fun _ s2 q => q
theorem ps_set {i : Nat} {x : Str} {e : Expr} {te : TE} {pos' : Pos} (hN : X.N.Nodup) (hi : X.N[i]? = some x) (hx : Loc X.env.scope x) (he : PE X e te) (hs : swapsWith e (some (.Name x pos')) pos.line X.env = pure false := by rfl) (hf : X.fn x = true ∨ X.env.scope.names.lookup x = some .local := by first | exact .inl rfl | exact .inr rfl | assumption) :
    PS X (.Assign [.Name x pos'] e pos) (tAsg te (gName i)) := by
  intro pins s σ H D I h
  refine wpAny_Assign_Name (thn (he pins s σ H _ I h) fun v s1 ⟨y, H1, I1, r1, q1⟩ => ?_) hs
  exact store_ok I1 hN hi hx r1 (fun s2 I2 => ⟨_, H1, I2, q1⟩) hf
end
section
variable {X : Cx} {pos : Pos}
def tWhile (c : TT) (tb : TS) : TS := fun D σ H => ∃ W : Nat → St → Hp → Prop, (∃ m, W m σ H) ∧ ∀ m σ H, W m σ H →
  c σ H fun b H1 => if b = true then ∃ N : St → Hp → Prop, (∀ σ' H', N σ' H' → ∃ m', m' < m ∧ W m' σ' H') ∧ tb { D with nx := N, ct := N, bk := D.nx } σ H1 else D.nx σ H1
theorem ps_while {c : Expr} {body : List Stmt} {tc : TT} {tb : TS} (hp : PassesOwn (model X.prog X.w) X.A X.env X.xe) (hc : PT X c tc) (hb : PSs X body tb) : PS X (.While c body [] pos) (tWhile tc tb) := by
  intro pins s σ H D I h
  obtain ⟨W, ⟨m0, w0⟩, turn⟩ := h
  refine wpAny_While (codeAny_whileLoop (fun n s' => ∃ σ' H', Inv X pins σ' H' s' ∧ W n σ' H') ?_ m0 ⟨σ, H, I, w0⟩)
  rintro n s1 ⟨σ1, H1, I1, w1⟩
  refine wpAny_passesOwn hp (thn (hc pins s1 σ1 H1 _ I1 (turn n σ1 H1 w1)) fun b s2 ⟨H2, I2, q2⟩ => ?_)
  cases b with
  | true =>
    obtain ⟨N, hN, q2⟩ := q2
    rw [if_pos rfl]
    refine wpAny_passesOwn hp (thn (hb pins s2 σ1 H2 _ I2 q2) fun f s3 q3 => ?_)
    cases f with
    | next =>
      obtain ⟨σ3, H3, I3, n3⟩ := q3
      obtain ⟨m', hm, w3⟩ := hN σ3 H3 n3
      exact ⟨m', hm, σ3, H3, I3, w3⟩
    | cont =>
      obtain ⟨σ3, H3, I3, n3⟩ := q3
      obtain ⟨m', hm, w3⟩ := hN σ3 H3 n3
      exact ⟨m', hm, σ3, H3, I3, w3⟩
    | brk => exact q3
    | ret v => exact q3
  | false =>
    rw [if_neg Bool.false_ne_true]
    exact wpAny_execs_nil ⟨σ1, H2, I2, q2⟩
end
structure It where
  go : Nat → Hp → Prop
  yld : Nat → Hp → V → Hp → Prop
  stop : Nat → Hp → Prop
def FpOk (X : Cx) (pins : List (Addr × Obj)) (H : Hp) (b : Addr) : Prop :=
  H b = none ∧ b ≠ X.env.locals ∧ b ∉ X.fs ∧ (b ∈ X.ex ∨ X.s₀.heap.objs.size ≤ b) ∧ (∀ x c, X.env.cells.lookup x = some c → c ≠ b) ∧ ∀ p ∈ X.pn ++ pins, p.1 ≠ b
theorem Inv.fpOk {X : Cx} {pins : List (Addr × Obj)} {σ : St} {H H' : Hp} {s : Shared} {b : Addr} (I : Inv X pins σ H s) (hb : s.heap.objs.size ≤ b) (hn : H' b = none) : FpOk X pins H' b := by
  refine ⟨hn, Nat.ne_of_gt (Nat.lt_of_lt_of_le I.lt hb), I.nofs hb, .inr (Nat.le_trans I.sz hb), fun x c e z => ?_, fun p hp z => ?_⟩
  · obtain ⟨v, q⟩ := I.cell x c e
    exact absurd (Nat.lt_of_lt_of_le q.lt (by rw [z]; exact hb)) (Nat.lt_irrefl _)
  · exact absurd (Nat.lt_of_lt_of_le (Heap.lt_size (I.pin p hp).1) (by rw [z]; exact hb)) (Nat.lt_irrefl _)
structure Turn (P : Program) (w : World) (K : PySem.W.Frag) (tg : Expr) (J : It) (fp : List Addr) (it : Addr) (tn : Nat → Heap → Prop) : Prop where
  mem : it ∈ fp
  obj : ∀ i h, tn i h → ∀ b ∈ fp, ∃ o, h.get? b = some o ∧ ∀ v, o.data ≠ .cell v
  keep : ∀ i h h', tn i h → (∀ b ∈ fp, ∀ o, h.get? b = some o → h'.get? b = some o) → tn i h'
  item : ∀ (X : Cx), X.prog = P → X.w = w → X.K = K → X.calm = true → ∀ (i : Nat) (pins : List (Addr × Obj)) (s : Shared) (σ : St) (H : Hp) (E : Value → Shared → Prop), Inv X pins σ H s → (∀ b ∈ fp, FpOk X pins H b) → tn i s.heap → J.go i H →
    wpAny (model P w) X.A (pyNext (.ref it)) (fun r s1 => ∃ u, r = some u ∧
      wpAny (model P w) X.A (letOwnedTupleGo tg (.ref it) u) (fun _ s2 => ∃ x H', Inv X pins σ H' s2 ∧ RelV x u ∧ J.yld i H x H' ∧ tn (i + 1) s2.heap ∧ ∀ b ∈ fp, H' b = none) E s1) E s
  done : ∀ (X : Cx), X.prog = P → X.w = w → X.K = K → X.calm = true → ∀ (i : Nat) (pins : List (Addr × Obj)) (s : Shared) (σ : St) (H : Hp) (E : Value → Shared → Prop), Inv X pins σ H s → (∀ b ∈ fp, FpOk X pins H b) → tn i s.heap → J.stop i H →
    wpAny (model P w) X.A (pyNext (.ref it)) (fun r s1 => r = none ∧ Inv X pins σ H s1) E s
  self : ∀ (A : Around) (i : Nat) (s : Shared) (Q : Value → Shared → Prop) (E : Value → Shared → Prop), tn i s.heap → Q (.ref it) s → wpAny (model P w) A (pyIter (.ref it)) Q E s
abbrev TI := St → Hp → (It → Hp → Prop) → Prop
def PIE (X : Cx) (pins : List (Addr × Obj)) (σ : St) (tg : Expr) (R : It → Hp → Prop) (itv : Value) (s2 : Shared) : Prop :=
  ∃ (it : Addr) (fp : List Addr) (tn : Nat → Heap → Prop) (J : It) (H' : Hp), itv = .ref it ∧ Inv X pins σ H' s2 ∧ Turn X.prog X.w X.K tg J fp it tn ∧ tn 0 s2.heap ∧ (∀ b ∈ fp, FpOk X pins H' b) ∧ R J H'
def PI (X : Cx) (tg iter : Expr) (wi : TI) : Prop :=
  ∀ (pins : List (Addr × Obj)) (s : Shared) (σ : St) (H : Hp) (R : It → Hp → Prop), Inv X pins σ H s → wi σ H R →
    wpAny (model X.prog X.w) X.A (eval iter X.env) (fun v s1 => wpAny (model X.prog X.w) X.A (pyIter v) (PIE X pins σ tg R) X.xe s1) X.xe s
theorem go_of {M : Model} {A : Around} {E : Value → Shared → Prop} {s : Shared} {tg : Expr} {it : Addr} {u : Value} {o : Obj} {n : String} {vs : Array Value} {Q : Unit → Shared → Prop} (ho : s.heap.get? it = some o) (hc : o.cls = .type n) (hd : o.data = .fields vs)
    (hn : ["enumerate", "zip", "dict_itemiterator", "dict_reverseitemiterator", "odict_iterator", "itertools.zip_longest", "itertools.pairwise"].contains n = false) (hQ : Q () s) : wpAny M A (letOwnedTupleGo tg (.ref it) u) Q E s := by
  unfold letOwnedTupleGo
  cases tg <;> first
    | exact wpAny_pure hQ
    | (cases u <;> first
        | exact wpAny_pure hQ
        | (refine wpAny_bind (wpAny_load ho ?_)
           rw [hc, hd]
           show wpAny M A (if (["enumerate", "zip", "dict_itemiterator", "dict_reverseitemiterator", "odict_iterator", "itertools.zip_longest", "itertools.pairwise"].contains n && vs[0]? == some (rawInt _)) = true then _ else _) Q E s
           rw [if_neg (by intro h; rw [hn, Bool.false_and] at h; cases h)]
           exact wpAny_pure hQ))
def Itt (K : PySem.W.Frag) (a : Addr) : It :=
  ⟨fun i H => ∃ xs x, SqT K H a xs ∧ xs[i]? = some x, fun i H x H' => H' = H ∧ ∀ xs, SqT K H a xs → xs[i]? = some x, fun i H => ∃ xs, SqT K H a xs ∧ xs.length ≤ i⟩
theorem turn_tuple {P : Program} {w : World} {K : PySem.W.Frag} {tg : Expr} (a it : Addr) : Turn P w K tg (Itt K a) [it] it (fun i h => h.IsTupleIter it a i) where
  mem := by simp
  obj := fun i h st b hb => by
    have e : b = it := by simpa using hb
    subst e
    obtain ⟨o, e, c, d⟩ := st
    exact ⟨o, e, fun v z => by rw [d] at z; cases z⟩
  keep := fun i h h' st k => st.at fun o e => k it (by simp) o e
  item := by
    intro X hP hw hK hc i pins s σ H E I hf st hg
    subst hP hw hK
    obtain ⟨xs, x, hq, hx⟩ := hg
    obtain ⟨its, rv, p, hz⟩ := I.tuple hq
    obtain ⟨u, hu, ru⟩ := rv.get hx
    obtain ⟨f0, f1, f2, f3, f4, f5⟩ := hf it (by simp)
    refine wpAny_pyNext_tuple_item st (show s.heap.IsTuple a its.toArray from p) (x := u) (by simpa using hu) fun h' st' sb => ?_
    have I1 : Inv X pins σ H { s with heap := h' } := I.turned (t' := s.toks) (fun b o hb e => (sb.2 b hb).trans e) f0 f1 f3 f4 f5
    obtain ⟨o, e, c, d⟩ := id st'
    exact ⟨u, rfl, go_of (s := { s with heap := h' }) e c d (by decide) ⟨x, H, I1, ru, ⟨rfl, fun ys hy => by rw [I.tuple_inj hy hq]; exact hx⟩, st', fun b hb => (hf b hb).1⟩⟩
  done := by
    intro X hP hw hK hc i pins s σ H E I hf st hg
    subst hP hw hK
    obtain ⟨xs, hq, hx⟩ := hg
    obtain ⟨its, rv, p, hz⟩ := I.tuple hq
    obtain ⟨f0, f1, f2, f3, f4, f5⟩ := hf it (by simp)
    have hl := rv.length
    exact wpAny_pyNext_tuple_end (I.ok.hd hc) st (show s.heap.IsTuple a its.toArray from p) (by simp; omega) fun h' eb => ⟨rfl, I.turned (t' := s.toks) (fun b o hb e => eb b o hb e) f0 f1 f3 f4 f5⟩
  self := fun _ _ _ _ _ st h => wpAny_pyIter_tupleiter st h
end L2
namespace L2
open PySem PySem.Spec PyProof.Rows
section
variable {X : Cx} {tg : Expr}
def iTup (K : PySem.W.Frag) (tl : TE) : TI := fun σ H R => tl σ H fun x H1 => ∃ a, x = .ref a ∧ (∃ xs, SqT K H1 a xs) ∧ R (Itt K a) H1
theorem pi_tup {l : Expr} {tl : TE} (hl : PE X l tl) : PI X tg l (iTup X.K tl) := by
  intro pins s σ H R I h
  refine thn (hl pins s σ H _ I h) fun v s1 ⟨x, H1, I1, r1, q1⟩ => ?_
  obtain ⟨a, e, ⟨xs, hq⟩, q⟩ := q1
  subst e
  cases r1
  obtain ⟨its, rv, p, hz⟩ := I1.tuple hq
  refine wpAny_pyIter_tuple (show s1.heap.IsTuple a its.toArray from p) ?_
  refine ⟨s1.heap.objs.size, [s1.heap.objs.size], _, _, H1, rfl, I1.kept (t' := s1.toks) fun b o e => Heap.get?_push_of_some _ e, turn_tuple a _, ⟨_, Heap.get?_push_size _ rfl, rfl, rfl⟩, fun b hb => ?_, q⟩
  have e : b = s1.heap.objs.size := by simpa using hb
  subst e
  exact I1.fpOk (Nat.le_refl _) (I1.hok.fresh (Nat.le_refl _))
def tFor (wi : TI) (g : TG) (tb : TS) : TS := fun D σ H => wi σ H fun J H1 => ∃ W : Nat → Nat → St → Hp → Prop, (∃ m, W 0 m σ H1) ∧ ∀ i m σ H, W i m σ H →
  (J.stop i H ∧ D.nx σ H) ∨ (J.go i H ∧ ∃ N : St → Hp → Prop, (∀ σ' H', N σ' H' → ∃ m', m' < m ∧ W (i + 1) m' σ' H') ∧ ∀ x H', J.yld i H x H' → g x σ H' fun σ2 H2 => tb { D with nx := N, ct := N, bk := D.nx } σ2 H2)
def pinsAt (fp : List Addr) (h : Heap) : List (Addr × Obj) := fp.filterMap fun b => (h.get? b).map fun o => (b, o)
theorem mem_pinsAt {fp : List Addr} {h : Heap} {b : Addr} {o : Obj} (hb : b ∈ fp) (e : h.get? b = some o) : (b, o) ∈ pinsAt fp h := List.mem_filterMap.mpr ⟨b, hb, by rw [e]; rfl⟩
theorem of_pinsAt {fp : List Addr} {h : Heap} {p : Addr × Obj} (hp : p ∈ pinsAt fp h) : p.1 ∈ fp ∧ h.get? p.1 = some p.2 := by
  obtain ⟨b, hb, e⟩ := List.mem_filterMap.mp hp
  cases q : h.get? b with
  | none => rw [q] at e; cases e
  | some o =>
    rw [q] at e
    have e' : (b, o) = p := Option.some.inj e
    subst e'
    exact ⟨hb, q⟩
theorem Inv.pinned {pins : List (Addr × Obj)} {σ : St} {H : Hp} {s : Shared} {fp : List Addr} (I : Inv X pins σ H s) (hf : ∀ b ∈ fp, FpOk X pins H b) (ho : ∀ b ∈ fp, ∃ o, s.heap.get? b = some o ∧ ∀ v, o.data ≠ .cell v) : Inv X (pins ++ pinsAt fp s.heap) σ H s :=
  I.pins_of fun p hp => (List.mem_append.mp hp).elim (fun z => I.pin p (List.mem_append_right _ z)) fun z => by
    obtain ⟨hb, e⟩ := of_pinsAt z
    obtain ⟨f0, f1, f2, _⟩ := hf p.1 hb
    obtain ⟨o, e', d⟩ := ho p.1 hb
    rw [e] at e'; cases e'
    exact ⟨e, f0, f1, f2, d⟩
theorem Inv.unpinned {pins pl : List (Addr × Obj)} {σ : St} {H : Hp} {s : Shared} (I : Inv X (pins ++ pl) σ H s) : Inv X pins σ H s := I.pins_of fun p hp => I.pin p (List.mem_append_right _ (List.mem_append_left _ hp))
theorem ps_for {iter : Expr} {body : List Stmt} {wi : TI} {g : TG} {tb : TS} {pos : Pos} (hp : PassesOwn (model X.prog X.w) X.A X.env X.xe) (hc : X.calm = true) (hi : PI X tg iter wi) (hg : PG X tg g) (hb : PSs X body tb)
    (hs : ∀ x, foldedSetIterable iter X.env x = pure x := by intro _; rfl) : PS X (.For tg iter body [] pos) (tFor wi g tb) := by
  intro pins s σ H D I h
  refine wpAny_For (thn (hi pins s σ H _ I h) fun v s1 h1 => thn h1 fun itv s2 h2 => ?_) hs
  obtain ⟨it, fp, tn, J, H2, e, I2, T, st2, f2, W, ⟨m0, w0⟩, turn⟩ := h2
  subst e
  -- what stays true of the iterator's objects through the loop
  have stat : ∀ {H' : Hp}, (∀ b ∈ fp, H' b = none) → ∀ b ∈ fp, FpOk X pins H' b := fun hn b hb => ⟨hn b hb, (f2 b hb).2⟩
  refine codeAny_forLoop_any (fun n s' => ∃ i σ' H', Inv X pins σ' H' s' ∧ tn i s'.heap ∧ (∀ b ∈ fp, H' b = none) ∧ W i n σ' H') ?_ m0 ⟨0, σ, H2, I2, st2, fun b hb => (f2 b hb).1, w0⟩
  rintro n s3 ⟨i, σ3, H3, I3, st3, fr3, w3⟩
  rcases turn i n σ3 H3 w3 with ⟨stop, qn⟩ | ⟨go, N, hN, step⟩
  · refine wpAny_passesOwn hp (thn (T.done X rfl rfl rfl hc i pins s3 σ3 H3 X.xe I3 (stat fr3) st3 stop) fun r s4 ⟨hr, I4⟩ => ?_)
    subst hr
    exact wpAny_execs_nil ⟨σ3, H3, I4, qn⟩
  · refine wpAny_passesOwn hp (thn (T.item X rfl rfl rfl hc i pins s3 σ3 H3 X.xe I3 (stat fr3) st3 go) fun r s4 ⟨u, hr, h4⟩ => ?_)
    subst hr
    refine wpAny_passesOwn hp (thn h4 fun _ s5 ⟨x, H5, I5, r5, y5, st5, fr5⟩ => ?_)
    have I5' := I5.pinned (stat fr5) (T.obj _ _ st5)
    refine wpAny_passesOwn hp (thn (hg _ s5 σ3 H5 x u _ I5' r5 (step x H5 y5)) fun _ s6 ⟨σ6, H6, I6, q6⟩ => ?_)
    refine wpAny_passesOwn hp (thn (hb _ s6 σ6 H6 _ I6 q6) fun f s7 q7 => ?_)
    have again : ∀ {σ7 : St} {H7 : Hp}, Inv X (pins ++ pinsAt fp s5.heap) σ7 H7 s7 → N σ7 H7 → ∃ m, m < n ∧ ∃ i σ' H', Inv X pins σ' H' s7 ∧ tn i s7.heap ∧ (∀ b ∈ fp, H' b = none) ∧ W i m σ' H' := fun {σ7 H7} I7 n7 => by
      obtain ⟨m', hm, w7⟩ := hN σ7 H7 n7
      refine ⟨m', hm, i + 1, σ7, H7, I7.unpinned, T.keep _ _ _ st5 fun b hb o e => (I7.pin (b, o) (List.mem_append_right _ (List.mem_append_right _ (mem_pinsAt hb e)))).1, fun b hb => ?_, w7⟩
      obtain ⟨o, e, d⟩ := T.obj _ _ st5 b hb
      exact (I7.pin (b, o) (List.mem_append_right _ (List.mem_append_right _ (mem_pinsAt hb e)))).2.1
    cases f with
    | next => obtain ⟨σ7, H7, I7, n7⟩ := q7; exact again I7 n7
    | cont => obtain ⟨σ7, H7, I7, n7⟩ := q7; exact again I7 n7
    | brk => obtain ⟨σ7, H7, I7, q7⟩ := q7; exact ⟨σ7, H7, I7.unpinned, q7⟩
    | ret v => obtain ⟨x7, σ7, H7, I7, r7, q7⟩ := q7; exact ⟨x7, σ7, H7, I7.unpinned, r7, q7⟩
end
end L2
namespace L2
open PySem PySem.Spec PyProof.Rows
abbrev R2 := V → V → Hp → VK → Prop
def OpR (X : Cx) (f : Value → Value → Sem Value) (r : R2) : Prop :=
  ∀ (pins : List (Addr × Obj)) (s : Shared) (σ : St) (H : Hp) (x y : V) (v u : Value) (Q : VK), Inv X pins σ H s → RelV x v → RelV y u → r x y H Q →
    wpAny (model X.prog X.w) X.A (f v u) (EP X pins σ Q) X.xe s
def CallR (X : Cx) (f : Value) (r : List V → Hp → VK → Prop) : Prop :=
  ∀ (pins : List (Addr × Obj)) (s : Shared) (σ : St) (H : Hp) (xs : List V) (us : List Value) (Q : VK), Inv X pins σ H s → Vals xs us → r xs H Q →
    wpAny (model X.prog X.w) X.A (call f us) (EP X pins σ Q) X.xe s
def tOp (r : R2) (ta tb : TE) : TE := fun σ H Q => ta σ H fun x H1 => tb σ H1 fun y H2 => r x y H2 Q
def tUn (r : V → Hp → VK → Prop) (ta : TE) : TE := fun σ H Q => ta σ H fun x H1 => r x H1 Q
def rI (C : Int → Int → Prop) (g : Int → Int → V) : R2 := fun x y H Q => ∃ i j, x = .int i ∧ y = .int j ∧ C i j ∧ Q (g i j) H
def rI0 (g : Int → Int → V) : R2 := fun x y H Q => ∃ i j, x = .int i ∧ y = .int j ∧ Q (g i j) H
def rU (g : Int → V) : V → Hp → VK → Prop := fun x H Q => ∃ i, x = .int i ∧ Q (g i) H
section
variable {X : Cx} {a b c : Expr} {ta tb tc : TE} {pos : Pos}
theorem binT (ha : PE X a ta) (hb : PE X b tb) {pins : List (Addr × Obj)} {s : Shared} {σ : St} {H : Hp} {R : V → V → Hp → Prop} (I : Inv X pins σ H s)
    (h : ta σ H fun x H1 => tb σ H1 fun y H2 => R x y H2) {Q : Value → Shared → Prop} {f : Value → Value → Sem Value}
    (hf : ∀ v u s2 x y H2, Inv X pins σ H2 s2 → RelV x v → RelV y u → R x y H2 → wpAny (model X.prog X.w) X.A (f v u) Q X.xe s2) :
    wpAny (model X.prog X.w) X.A (eval a X.env) (fun v s₁ => wpAny (model X.prog X.w) X.A (eval b X.env) (fun u s₂ => wpAny (model X.prog X.w) X.A (f v u) Q X.xe s₂) X.xe s₁) X.xe s := by
  refine thn (ha pins s σ H _ I h) fun v s1 ⟨x, H1, I1, r1, q1⟩ => ?_
  refine thn (hb pins s1 σ H1 _ I1 q1) fun u s2 ⟨y, H2, I2, r2, q2⟩ => ?_
  exact hf v u s2 x y H2 I2 r1 r2 q2
theorem pe_op {op : Operator} {r : R2} (ho : OpR X (binaryOp op) r) (ha : PE X a ta) (hb : PE X b tb) : PE X (.BinOp a op b pos) (tOp r ta tb) := by
  intro pins s σ H Q I h
  exact wpAny_BinOp (binT ha hb I h fun v u s2 x y H2 I2 rx ry q => ho pins s2 σ H2 x y v u Q I2 rx ry q)
theorem opI {f : Value → Value → Sem Value} {C : Int → Int → Prop} {g : Int → Int → Int}
    (rule : ∀ (i j : Int) (t u : Tok) (s : Shared) (Q : Value → Shared → Prop) (E : Value → Shared → Prop), C i j → Q (.int (g i j) s.toks) { s with toks := s.toks + 1 } → wpAny (model X.prog X.w) X.A (f (.int i t) (.int j u)) Q E s) :
    OpR X f (rI C fun i j => .int (g i j)) := by
  intro pins s σ H x y v u Q I rx ry h
  obtain ⟨i, j, rfl, rfl, hc, q⟩ := h
  obtain ⟨t, rfl⟩ := rx
  obtain ⟨t', rfl⟩ := ry
  exact rule i j t t' s _ _ hc ⟨.int (g i j), H, I.tok _, ⟨_, rfl⟩, q⟩
theorem opI0 {f : Value → Value → Sem Value} {g : Int → Int → Int}
    (rule : ∀ (i j : Int) (t u : Tok) (s : Shared) (Q : Value → Shared → Prop) (E : Value → Shared → Prop), Q (.int (g i j) s.toks) { s with toks := s.toks + 1 } → wpAny (model X.prog X.w) X.A (f (.int i t) (.int j u)) Q E s) :
    OpR X f (rI0 fun i j => .int (g i j)) := by
  intro pins s σ H x y v u Q I rx ry h
  obtain ⟨i, j, rfl, rfl, q⟩ := h
  obtain ⟨t, rfl⟩ := rx
  obtain ⟨t', rfl⟩ := ry
  exact rule i j t t' s _ _ ⟨.int (g i j), H, I.tok _, ⟨_, rfl⟩, q⟩
theorem opB0 {f : Value → Value → Sem Value} {g : Int → Int → Bool}
    (rule : ∀ (i j : Int) (t u : Tok) (s : Shared) (Q : Value → Shared → Prop) (E : Value → Shared → Prop), Q (.bool (g i j)) s → wpAny (model X.prog X.w) X.A (f (.int i t) (.int j u)) Q E s) :
    OpR X f (rI0 fun i j => .bl (g i j)) := by
  intro pins s σ H x y v u Q I rx ry h
  obtain ⟨i, j, rfl, rfl, q⟩ := h
  obtain ⟨t, rfl⟩ := rx
  obtain ⟨t', rfl⟩ := ry
  exact rule i j t t' s _ _ ⟨.bl (g i j), H, I, rfl, q⟩
def CMul (i j : Int) : Prop := (-(2 ^ 64) < i ∧ i < 2 ^ 64) ∨ (-(2 ^ 64) < j ∧ j < 2 ^ 64)
theorem CMul.ok {i j : Int} (h : CMul i j) : IntMulOk i j := by
  rcases h with ⟨h1, h2⟩ | ⟨h1, h2⟩
  · exact .of_left (intBits_le_64 h1 h2)
  · exact .of_right (intBits_le_64 h1 h2)
theorem op_add : OpR X (binaryOp .Add) (rI0 fun i j => .int (i + j)) := opI0 fun _ _ _ _ _ _ _ q => add_int q
theorem op_sub : OpR X (binaryOp .Sub) (rI0 fun i j => .int (i - j)) := opI0 fun _ _ _ _ _ _ _ q => sub_int q
theorem op_mul : OpR X (binaryOp .Mult) (rI CMul fun i j => .int (i * j)) := opI fun _ _ _ _ _ _ _ hc q => mul_int q hc.ok
theorem op_modN : OpR X (binaryOp .Mod) (rI (fun _ j => j ≠ 0) fun i j => .int (i.fmod j)) := opI fun _ _ _ _ _ _ _ hc q => mod_int' hc q
end
def scal : V → V → Bool
  | .non, .non => true | .non, .int _ => true | .int _, .non => true | .non, .bl _ => true | .bl _, .non => true | .non, .str _ => true | .str _, .non => true
  | .int _, .int _ => true | .bl _, .bl _ => true | .str _, .str _ => true | .byt _, .byt _ => true
  | .int _, .str _ => true | .str _, .int _ => true | .bl _, .str _ => true | .str _, .bl _ => true
  | _, _ => false
def rEq : R2 := fun x y H Q => scal x y = true ∧ Q (.bl (decide (x = y))) H
def rNe : R2 := fun x y H Q => scal x y = true ∧ Q (.bl (!decide (x = y))) H
theorem dec_int {i j : Int} : decide (V.int i = V.int j) = (i == j) := by
  rw [Bool.eq_iff_iff]
  simp
theorem dec_bl {i j : Bool} : decide (V.bl i = V.bl j) = (i == j) := by
  rw [Bool.eq_iff_iff]
  simp
theorem dec_str {i j : Str} : decide (V.str i = V.str j) = (i == j) := by
  rw [Bool.eq_iff_iff]
  simp
theorem dec_byt {i j : Array UInt8} : decide (V.byt i = V.byt j) = (i.toList == j.toList) := by
  rw [Bool.eq_iff_iff]
  cases i
  cases j
  simp
section
variable {X : Cx} {a b c : Expr} {ta tb tc : TE} {pos : Pos}
theorem fin_bl {pins : List (Addr × Obj)} {σ : St} {H : Hp} {s : Shared} {Q : VK} {k k' : Bool} (I : Inv X pins σ H s) (q : Q (.bl k) H) (e : k = k') : EP X pins σ Q (.bool k') s := by
  subst e
  exact ⟨.bl k, H, I, rfl, q⟩
theorem op_eq : OpR X (compareOp .Eq) rEq := by
  intro pins s σ H x y v u Q I rx ry h
  obtain ⟨hs, q⟩ := h
  cases x with
  | non =>
    cases rx
    cases y with
    | non => cases ry; exact PySem.EqNone.eq_none_none (fin_bl I q (by simp))
    | bl j => cases ry; exact PySem.EqNone.eq_none_bool (fin_bl I q (by simp))
    | int j => obtain ⟨t', rfl⟩ := ry; exact PySem.EqNone.eq_none_int (fin_bl I q (by simp))
    | str j => obtain ⟨t', rfl⟩ := ry; exact PySem.EqNone.eq_none_str (fin_bl I q (by simp))
    | _ => exact absurd (show false = true from hs) Bool.false_ne_true
  | bl i =>
    cases rx
    cases y with
    | non => cases ry; exact PySem.EqNone.eq_bool_none (fin_bl I q (by simp))
    | bl j => cases ry; exact eq_bool (fin_bl I q dec_bl)
    | str j => obtain ⟨t', rfl⟩ := ry; exact PySem.EqMixed.eq_bool_str (fin_bl I q (by simp))
    | _ => exact absurd (show false = true from hs) Bool.false_ne_true
  | int i =>
    obtain ⟨t, rfl⟩ := rx
    cases y with
    | non => cases ry; exact PySem.EqNone.eq_int_none (fin_bl I q (by simp))
    | int j => obtain ⟨t', rfl⟩ := ry; exact eq_int (fin_bl I q dec_int)
    | str j => obtain ⟨t', rfl⟩ := ry; exact PySem.EqMixed.eq_int_str (fin_bl I q (by simp))
    | _ => exact absurd (show false = true from hs) Bool.false_ne_true
  | str i =>
    obtain ⟨t, rfl⟩ := rx
    cases y with
    | non => cases ry; exact PySem.EqNone.eq_str_none (fin_bl I q (by simp))
    | bl j => cases ry; exact PySem.EqMixed.eq_str_bool (fin_bl I q (by simp))
    | int j => obtain ⟨t', rfl⟩ := ry; exact PySem.EqMixed.eq_str_int (fin_bl I q (by simp))
    | str j => obtain ⟨t', rfl⟩ := ry; exact eq_str (fin_bl I q dec_str)
    | _ => exact absurd (show false = true from hs) Bool.false_ne_true
  | byt i =>
    obtain ⟨t, rfl⟩ := rx
    cases y with
    | byt j => obtain ⟨t', rfl⟩ := ry; exact PySem.W.eq_bytes (fin_bl I q dec_byt)
    | _ => exact absurd (show false = true from hs) Bool.false_ne_true
  | _ => cases y <;> exact absurd (show false = true from hs) Bool.false_ne_true
theorem op_ne : OpR X (compareOp .NotEq) rNe := by
  intro pins s σ H x y v u Q I rx ry h
  obtain ⟨hs, q⟩ := h
  cases x with
  | non =>
    cases rx
    cases y with
    | non => cases ry; exact PySem.EqNone.ne_none_none (fin_bl I q (by simp))
    | bl j => cases ry; exact PySem.EqNone.ne_none_bool (fin_bl I q (by simp))
    | int j => obtain ⟨t', rfl⟩ := ry; exact PySem.EqNone.ne_none_int (fin_bl I q (by simp))
    | str j => obtain ⟨t', rfl⟩ := ry; exact PySem.EqNone.ne_none_str (fin_bl I q (by simp))
    | _ => exact absurd (show false = true from hs) Bool.false_ne_true
  | bl i =>
    cases rx
    cases y with
    | non => cases ry; exact PySem.EqNone.ne_bool_none (fin_bl I q (by simp))
    | bl j => cases ry; exact ne_bool (fin_bl I q (congrArg not dec_bl))
    | str j => obtain ⟨t', rfl⟩ := ry; exact PySem.EqMixed.ne_bool_str (fin_bl I q (by simp))
    | _ => exact absurd (show false = true from hs) Bool.false_ne_true
  | int i =>
    obtain ⟨t, rfl⟩ := rx
    cases y with
    | non => cases ry; exact PySem.EqNone.ne_int_none (fin_bl I q (by simp))
    | int j => obtain ⟨t', rfl⟩ := ry; exact ne_int (fin_bl I q (congrArg not dec_int))
    | str j => obtain ⟨t', rfl⟩ := ry; exact PySem.EqMixed.ne_int_str (fin_bl I q (by simp))
    | _ => exact absurd (show false = true from hs) Bool.false_ne_true
  | str i =>
    obtain ⟨t, rfl⟩ := rx
    cases y with
    | non => cases ry; exact PySem.EqNone.ne_str_none (fin_bl I q (by simp))
    | bl j => cases ry; exact PySem.EqMixed.ne_str_bool (fin_bl I q (by simp))
    | int j => obtain ⟨t', rfl⟩ := ry; exact PySem.EqMixed.ne_str_int (fin_bl I q (by simp))
    | str j => obtain ⟨t', rfl⟩ := ry; exact ne_str (fin_bl I q (congrArg not dec_str))
    | _ => exact absurd (show false = true from hs) Bool.false_ne_true
  | byt i =>
    obtain ⟨t, rfl⟩ := rx
    cases y with
    | byt j => obtain ⟨t', rfl⟩ := ry; exact PySem.W.ne_bytes (fin_bl I q (congrArg not dec_byt))
    | _ => exact absurd (show false = true from hs) Bool.false_ne_true
  | _ => cases y <;> exact absurd (show false = true from hs) Bool.false_ne_true
theorem op_lt : OpR X (compareOp .Lt) (rI0 fun i j => .bl (decide (i < j))) := opB0 fun _ _ _ _ _ _ _ q => lt_int q
theorem op_le : OpR X (compareOp .LtE) (rI0 fun i j => .bl (decide (i ≤ j))) := opB0 fun _ _ _ _ _ _ _ q => le_int q
theorem op_gt : OpR X (compareOp .Gt) (rI0 fun i j => .bl (decide (j < i))) := opB0 fun _ _ _ _ _ _ _ q => gt_int q
theorem op_ge : OpR X (compareOp .GtE) (rI0 fun i j => .bl (decide (j ≤ i))) := opB0 fun _ _ _ _ _ _ _ q => ge_int q
theorem OpR.or {f : Value → Value → Sem Value} {r r' : R2} (h : OpR X f r) (h' : OpR X f r') : OpR X f (fun x y H Q => r x y H Q ∨ r' x y H Q) := by
  intro pins s σ H x y v u Q I rx ry q
  rcases q with q | q
  · exact h pins s σ H x y v u Q I rx ry q
  · exact h' pins s σ H x y v u Q I rx ry q
theorem nomark (b : Expr) {op : CmpOp} (h : op ≠ .In := by decide) (h2 : op ≠ .NotIn := by decide) : behindInMarks op b = false := by
  have e1 : (op == CmpOp.In) = false := by cases op <;> first | rfl | exact absurd rfl h
  have e2 : (op == CmpOp.NotIn) = false := by cases op <;> first | rfl | exact absurd rfl h2
  cases b <;> simp [behindInMarks, e1, e2]
theorem pe_cmpR {op : CmpOp} {r : R2} (ho : OpR X (compareOp op) r) (ha : PE X a ta) (hb : PE X b tb) (hm : behindInMarks op b = false) : PE X (.Compare a [op] [b] pos) (tOp r ta tb) := by
  intro pins s σ H Q I h
  exact wpAny_Compare1 (binT ha hb I h fun v u s2 x y H2 I2 rx ry q => ho pins s2 σ H2 x y v u Q I2 rx ry q) hm
def tTest (t : TE) : TT := fun σ H Q => t σ H fun x H' => ∃ k, x = .bl k ∧ Q k H'
theorem pt_cmpR {op : CmpOp} {r : R2} (ho : OpR X (compareOp op) r) (ha : PE X a ta) (hb : PE X b tb) (hm : behindInMarks op b = false) : PT X (.Compare a [op] [b] pos) (tTest (tOp r ta tb)) := by
  intro pins s σ H Q I h
  refine wpAny_isTrue_Compare1 (thn (ha pins s σ H _ I h) fun v s1 ⟨x, H1, I1, r1, q1⟩ => thn (hb pins s1 σ H1 _ I1 q1) fun u s2 ⟨y, H2, I2, r2, q2⟩ =>
    thn (ho pins s2 σ H2 x y v u _ I2 r1 r2 q2) fun c s3 ⟨z, H3, I3, r3, k, e, q3⟩ => ?_) hm
  subst e
  cases r3
  exact wpAny_truthy_bool ⟨H3, I3, q3⟩
def tChain (r r' : R2) (ta tb tc : TE) : TE := fun σ H Q => ta σ H fun x H1 => tb σ H1 fun y H2 => r x y H2 fun z H3 => ∃ k, z = .bl k ∧
  (if k = true then tc σ H3 fun w' H4 => r' y w' H4 Q else Q (.bl false) H3)
theorem pe_chain {op op' : CmpOp} {r r' : R2} (ho : OpR X (compareOp op) r) (ho' : OpR X (compareOp op') r') (ha : PE X a ta) (hb : PE X b tb) (hc : PE X c tc)
    (hm : lastMarks [op, op'] [b, c] = false := by with_unfolding_all rfl) : PE X (.Compare a [op, op'] [b, c] pos) (tChain r r' ta tb tc) := by
  intro pins s σ H Q I h
  refine Compare_chain (thn (ha pins s σ H _ I h) fun v s1 ⟨x, H1, I1, r1, q1⟩ => chain_link (thn (hb pins s1 σ H1 _ I1 q1) fun u s2 ⟨y, H2, I2, r2, q2⟩ =>
    thn (ho pins s2 σ H2 x y v u _ I2 r1 r2 q2) fun d s3 ⟨z, H3, I3, r3, k, e, q3⟩ => ?_)) hm
  subst e
  cases r3
  refine wpAny_truthy_bool ?_
  cases k with
  | false => exact ite_ff ⟨.bl false, H3, I3, rfl, q3⟩
  | true => exact ite_tt (chain_last (thn (hc pins s3 σ H3 _ I3 q3) fun w' s4 ⟨z', H4, I4, r4, q4⟩ => ho' pins s4 σ H4 y z' u w' Q I4 r2 r4 q4))
theorem pt_chain {op op' : CmpOp} {r r' : R2} (ho : OpR X (compareOp op) r) (ho' : OpR X (compareOp op') r') (ha : PE X a ta) (hb : PE X b tb) (hc : PE X c tc)
    (hm : lastMarks [op, op'] [b, c] = false := by with_unfolding_all rfl) : PT X (.Compare a [op, op'] [b, c] pos) (tTest (tChain r r' ta tb tc)) := by
  intro pins s σ H Q I h
  refine isTrue_chain (thn (ha pins s σ H _ I h) fun v s1 ⟨x, H1, I1, r1, q1⟩ => test_link (thn (hb pins s1 σ H1 _ I1 q1) fun u s2 ⟨y, H2, I2, r2, q2⟩ =>
    thn (ho pins s2 σ H2 x y v u _ I2 r1 r2 q2) fun d s3 ⟨z, H3, I3, r3, k, e, q3⟩ => ?_)) hm
  subst e
  cases r3
  refine wpAny_truthy_bool ?_
  cases k with
  | false =>
    obtain ⟨k', e', q'⟩ := q3
    cases e'
    exact ite_ff ⟨H3, I3, q'⟩
  | true =>
    refine ite_tt (test_last (thn (hc pins s3 σ H3 _ I3 q3) fun w' s4 ⟨z', H4, I4, r4, q4⟩ => thn (ho' pins s4 σ H4 y z' u w' _ I4 r2 r4 q4) fun d' s5 ⟨z2, H5, I5, r5, k2, e2, q5⟩ => ?_))
    subst e2
    cases r5
    exact wpAny_truthy_bool ⟨H5, I5, q5⟩
theorem line63 : (sizeLine : Nat) < 2 ^ 63 := by rw [sizeLine_eq]; decide
theorem op_add_str : OpR X (binaryOp .Add) (fun x y H Q => ∃ i j, x = .str i ∧ y = .str j ∧ i.length + j.length ≤ sizeLine ∧ Q (.str (i ++ j)) H) := by
  intro pins s σ H x y v u Q I rx ry h
  obtain ⟨i, j, rfl, rfl, hz, q⟩ := h
  obtain ⟨t, rfl⟩ := rx
  obtain ⟨t', rfl⟩ := ry
  exact add_str (fun t' tk => ⟨.str (i ++ j), H, I.tok _, ⟨_, rfl⟩, q⟩) hz
theorem vals1 {x : V} {us : List Value} (r : Vals [x] us) : ∃ u, us = [u] ∧ RelV x u := by
  cases r with
  | cons r1 r2 => cases r2; exact ⟨_, rfl, r1⟩
theorem vals2 {x y : V} {us : List Value} (r : Vals [x, y] us) : ∃ u w', us = [u, w'] ∧ RelV x u ∧ RelV y w' := by
  cases r with
  | cons r1 r2 =>
    cases r2 with
    | cons r3 r4 => cases r4; exact ⟨_, _, rfl, r1, r3⟩
theorem call_max2 (hc : X.calm = true) : CallR X (.builtin "max") (fun xs H Q => ∃ i j, xs = [.int i, .int j] ∧ Q (.int (if j > i then j else i)) H) := by
  intro pins s σ H xs us Q I r h
  obtain ⟨i, j, rfl, q⟩ := h
  obtain ⟨u, w', rfl, ⟨t, rfl⟩, ⟨t', rfl⟩⟩ := vals2 r
  refine max_two_ints (I.ok.hd hc) fun h' tk k => ⟨_, H, I.kept k, ?_, q⟩
  by_cases hj : j > i
  · rw [if_pos hj, if_pos hj]; exact ⟨_, rfl⟩
  · rw [if_neg hj, if_neg hj]; exact ⟨_, rfl⟩
theorem call_str_int : CallR X (.type "str") (fun xs H Q => ∃ i, xs = [.int i] ∧ i.natAbs.log2 < 1920 ∧ Q (.str (toString i)) H) := by
  intro pins s σ H xs us Q I r h
  obtain ⟨i, rfl, hz, q⟩ := h
  obtain ⟨u, rfl, t, rfl⟩ := vals1 r
  exact PySem.P.str_of_int hz ⟨.str _, H, I.tok _, ⟨_, rfl⟩, q⟩
end
end L2
namespace L2
open PySem PySem.Spec PyProof.Rows
structure ObjM (h : Heap) (x dx C : Addr) (mA : Str → Option Value) : Prop where
  obj : h.get? x = some (PySem.W.instObj C dx)
  ns : h.Ns1 dx mA
  ne : dx ≠ x
theorem lookIn_ns {h : Heap} {dx : Addr} {mA : Str → Option Value} (n : h.Ns1 dx mA) : ∃ od, h.get? dx = some od ∧ ∀ name, PySem.W.lookIn name od = some (mA name) := by
  obtain ⟨o, es, ep, ho, hd, hk, _, hm⟩ := n
  refine ⟨o, ho, fun name => ?_⟩
  have e := hm name
  unfold nsFind findBy at e
  rw [← Array.find?_toList] at e
  unfold PySem.W.lookIn
  rw [hd]
  dsimp only
  split
  · rename_i y q
    rw [q] at e
    exact congrArg some e
  · rename_i q
    rw [q] at e
    have a : es.toList.any (·.refKey) = false := by
      rw [List.any_eq_false]
      intro y hy
      obtain ⟨z, t, hkey⟩ := hk y (Array.mem_toList_iff.mp hy)
      simp [DictEntry.refKey, hkey]
    have a' : ¬ es.toList.any (·.refKey) = true := by rw [a]; exact Bool.false_ne_true
    rw [if_neg a']
    exact congrArg some e
theorem ObjM.look {h : Heap} {x dx C : Addr} {mA : Str → Option Value} (I : ObjM h x dx C mA) : ∃ od, PySem.W.InstAt h x (PySem.W.instObj C dx) C (some od) ∧ ∀ name, PySem.W.lookIn name od = some (mA name) :=
  let ⟨od, ho, hl⟩ := lookIn_ns I.ns
  ⟨od, ⟨I.obj, rfl, rfl, ho⟩, hl⟩
section
variable {prog : Program} {w : World} {A : Around} {E : Value → Shared → Prop} {s : Shared} {K : PySem.W.Frag} {x dx C f : Addr} {mA : Str → Option Value} {name : Str} {v : Value}
theorem get_map {expr : Bool} {Q : Value → Shared → Prop} (X : K.In s.heap) (I : ObjM s.heap x dx C mA) (hg : PySem.W.plainGet K C name = true) (hh : PySem.W.hasDictIn K C = true)
    (ha : PySem.W.findIn K (.ref C) name = some none) (hv : mA name = some v) (hv' : PySem.W.handedIn v = true) (h : Q v { s with toks := s.toks + 1 }) :
    wpAny (model prog w) A (getAttr (.ref x) name expr) Q E s := by
  obtain ⟨od, J, hl⟩ := I.look
  exact PySem.W.get_value X J (PySem.W.plainGet_of hg).1 (PySem.W.findObj_own hh ha rfl (by rw [hl, hv])) hv' h
theorem get_meth {pl : Sem Bool} {Q : Value × List Value → Shared → Prop} (X : K.In s.heap) (I : ObjM s.heap x dx C mA) (hg : PySem.W.plainGet K C name = true)
    (hf : PySem.W.findIn K (.ref C) name = some (some (.ref f))) (ht : PySem.W.isFn K (.ref f) = true) (hv : mA name = none) (h : Q (.ref f, [.ref x]) s) :
    wpAny (model prog w) A (getMethod (.ref x) name pl) Q E s := by
  obtain ⟨od, J, hl⟩ := I.look
  exact PySem.W.method_fn X J (PySem.W.plainGet_of hg).1 (PySem.W.plainGet_of hg).2 hf (beq_iff_eq.mp ht) (by show (PySem.W.lookIn name od).map (·.isSome) = some false; rw [hl, hv]; rfl) h
theorem set_map {ns : List Str} {Q : Unit → Shared → Prop} (X : K.In s.heap) (I : ObjM s.heap x dx C mA)
    (hs : PySem.W.findIn K (.ref C) "__setattr__" = some (some (.builtin "object.__setattr__"))) (hp : PySem.W.plainOver K C = true) (ht : PySem.W.takerIn K C name = some none) (hh : PySem.W.hasDictIn K C = true)
    (hw : PySem.Within mA ns) (hsz : ns.length ≤ sizeLine)
    (h : ∀ h', ObjM h' x dx C (fun y => if y = name then some v else mA y) → Heap.SameBut dx s.heap h' → Q () { s with heap := h', toks := s.toks + 2 }) :
    wpAny (model prog w) A (setAttr (.ref x) name v) Q E s := by
  obtain ⟨od, J, hl⟩ := I.look
  refine PySem.W.set_plain X J hs (PySem.W.osa_open (s := { s with toks := s.toks + 1 }) (r := none) X J hp ht fun b => ?_)
  obtain ⟨cd, hc, hd'⟩ := PySem.W.any_some hh
  have hx : s.heap.get? x = some ⟨.ref C, some dx, .plain, #[]⟩ := I.obj
  refine wpAny_bind (wpAny_pure (wpAny_bind (wpAny_bind (wpAny_loadPart hx (wpAny_bind (PySem.W.Looks.here (s := { s with toks := s.toks + 1 }) (PySem.W.looks_clsIn X hc) ?_))))))
  rw [hd']
  refine wpAny_pure (a := some dx) (wpAny_bind (wpAny_pure (wpAny_bind ?_)))
  refine wpAny_nsSet1 (s := { s with toks := s.toks + 1 }) I.ns fun h' hn2 hs2 => ?_
  obtain ⟨oD, esD, epD, hoD, hdD, hcD⟩ := hn2.count (PySem.Within.cons name v hw)
  refine wpAny_bind (wpAny_lookBehind hoD (by rw [hdD]; exact pastItsLine_dict (Nat.le_trans hcD (by rw [List.length_cons]; omega))) ?_)
  exact wpAny_pure (h _ ⟨(hs2.2 _ (Ne.symm I.ne)).trans I.obj, hn2, I.ne⟩ hs2)
theorem make_map {R : Result → Shared → Prop} {vs : List Value} {kw : List (Str × Value)} (X : K.In s.heap) (hm : PySem.W.makesIn K C = true)
    (hi : PySem.W.findIn K (.ref C) "__init__" = some (some (.ref f))) (hf : PySem.W.typeIn K (.ref f) = some (.type "function"))
    (h : codeAny (model prog w) (A.under (.builtin "type.__call__" ⟨.ref C :: vs, kw⟩)) (.call (.ref f) ⟨.ref (s.heap.objs.size + 1) :: vs, kw⟩) (PySem.W.InitBack (s.heap.objs.size + 1) R)
      { s with heap := (s.heap.push PySem.W.emptyDict).push (PySem.W.instObj C s.heap.objs.size) }) :
    codeAny (model prog w) A (.call (.ref C) ⟨vs, kw⟩) R s := by
  obtain ⟨hh, g, d, t, os⟩ := s
  exact PySem.W.make_core (PySem.W.makes_of X hm) (PySem.W.looks_findIn X hi) (fun self => PySem.W.bind_fn X self hf) (.inl rfl) h
end
def putF (f : Str) (v : V) : List (Str × V) → List (Str × V)
  | [] => [(f, v)]
  | (g, x) :: r => if g = f then (g, v) :: r else (g, x) :: putF f v r
theorem lookup_putF (f g : Str) (v : V) : ∀ fs : List (Str × V), (putF f v fs).lookup g = if g = f then some v else fs.lookup g
  | [] => by
    show List.lookup g [(f, v)] = _
    by_cases h : g = f
    · have hb : (g == f) = true := beq_iff_eq.mpr h
      simp only [List.lookup, hb, if_pos h]
    · have hb : (g == f) = false := beq_eq_false_iff_ne.mpr h
      simp only [List.lookup, hb, if_neg h]
  | (k, x) :: r => by
    have ih := lookup_putF f g v r
    rw [show putF f v ((k, x) :: r) = (if k = f then (k, v) :: r else (k, x) :: putF f v r) from rfl]
    by_cases hk : k = f
    · rw [if_pos hk]
      by_cases h : g = k
      · have hb : (g == k) = true := beq_iff_eq.mpr h
        simp only [List.lookup, hb, if_pos (h.trans hk)]
      · have hb : (g == k) = false := beq_eq_false_iff_ne.mpr h
        simp only [List.lookup, hb, if_neg (fun e : g = f => h (e.trans hk.symm))]
    · rw [if_neg hk]
      by_cases h : g = k
      · have hb : (g == k) = true := beq_iff_eq.mpr h
        simp only [List.lookup, hb, if_neg (fun e : g = f => hk (h.symm.trans e))]
      · have hb : (g == k) = false := beq_eq_false_iff_ne.mpr h
        simp only [List.lookup, hb]
        exact ih
theorem keys_putF (f : Str) (v : V) : ∀ fs : List (Str × V), f ∈ (putF f v fs).map (·.1) ∧ ∀ g, g ∈ fs.map (·.1) → g ∈ (putF f v fs).map (·.1)
  | [] => ⟨by simp [putF], fun g h => by simp at h⟩
  | (k, x) :: r => by
    obtain ⟨i1, i2⟩ := keys_putF f v r
    rw [show putF f v ((k, x) :: r) = (if k = f then (k, v) :: r else (k, x) :: putF f v r) from rfl]
    by_cases hk : k = f
    · rw [if_pos hk]
      subst hk
      exact ⟨by simp, fun g h => by simpa using h⟩
    · rw [if_neg hk]
      refine ⟨?_, fun g h => ?_⟩
      · rw [List.map_cons]
        exact List.mem_cons_of_mem _ i1
      · rw [List.map_cons] at h ⊢
        rcases List.mem_cons.mp h with e | e
        · exact List.mem_cons.mpr (.inl e)
        · exact List.mem_cons_of_mem _ (i2 g e)
theorem length_putF (f : Str) (v : V) : ∀ fs : List (Str × V), (putF f v fs).length ≤ fs.length + 1
  | [] => by simp [putF]
  | (k, x) :: r => by
    have ih := length_putF f v r
    rw [show putF f v ((k, x) :: r) = (if k = f then (k, v) :: r else (k, x) :: putF f v r) from rfl]
    by_cases hk : k = f
    · rw [if_pos hk, List.length_cons, List.length_cons]; omega
    · rw [if_neg hk, List.length_cons, List.length_cons]; omega
theorem RelO.some_of {v : V} {o : Option Value} (r : RelO (some v) o) : ∃ u, o = some u ∧ RelV v u := by
  cases o with
  | none => exact (show False from r).elim
  | some u => exact ⟨u, rfl, r⟩
theorem RelO.none_of {o : Option Value} (r : RelO none o) : o = none := by
  cases o with
  | none => rfl
  | some u => exact (show False from r).elim
theorem handed_of {v : V} {u : Value} (r : RelV v u) : PySem.W.handedIn u = true := by
  cases v with
  | non => cases (show u = Value.none from r); rfl
  | bl b => cases (show u = Value.bool b from r); rfl
  | int i => obtain ⟨t, e⟩ := (show ∃ t, u = Value.int i t from r); cases e; rfl
  | str x => obtain ⟨t, e⟩ := (show ∃ t, u = Value.str x t from r); cases e; rfl
  | byt b => obtain ⟨t, e⟩ := (show ∃ t, u = Value.bytes b t from r); cases e; rfl
  | flt b => obtain ⟨t, e⟩ := (show ∃ t, u = Value.float b t from r); cases e; rfl
  | ref a => cases (show u = Value.ref a from r); rfl
  | ty n => cases (show u = Value.type n from r); rfl
section
variable {P : Program} {w : World} {H H' : Hp} {h h' : Heap} {a C dx : Addr} {fs fs' : List (Str × V)}
theorem ins_get (hok : HOk P w H h) (e : H a = some (.ins C dx fs)) : ∃ mA, ObjM h a dx C mA ∧ (∀ f, RelO (fs.lookup f) (mA f)) ∧ PySem.Within mA (fs.map (·.1)) ∧ fs.length ≤ 1000 ∧ H dx = some (.own a) := by
  obtain ⟨d, z, ne, ob, mA, n, r, q⟩ := (show ObjOk P w H h a (.ins C dx fs) from hok a _ e)
  exact ⟨mA, ⟨ob, n, ne⟩, r, q, z, d⟩
end
structure Cls (K : PySem.W.Frag) (C : Addr) : Prop where
  pg : PySem.W.plainGet K C Str.empty = true
  hd : PySem.W.hasDictIn K C = true
  po : PySem.W.plainOver K C = true
  sa : PySem.W.findIn K (.ref C) "__setattr__" = some (some (.builtin "object.__setattr__"))
theorem Cls.get {K : PySem.W.Frag} {C : Addr} (c : Cls K C) (f : Str) : PySem.W.plainGet K C f = true := c.pg
def NoAttr (K : PySem.W.Frag) (C : Addr) (f : Str) : Prop := PySem.W.findIn K (.ref C) f = some none
theorem NoAttr.taker {K : PySem.W.Frag} {C : Addr} {f : Str} (n : NoAttr K C f) : PySem.W.takerIn K C f = some none := by
  unfold PySem.W.takerIn
  rw [show PySem.W.findIn K (.ref C) f = some none from n]
  rfl
structure Con (K : PySem.W.Frag) (C : Addr) (f : Str) (v : V) (u : Value) : Prop where
  at_ : PySem.W.findIn K (.ref C) f = some (some u)
  rel : RelV v u
  get : PySem.W.specialIn K u "__get__" = some none
  cp : PySem.W.copiedNames.contains f = false
structure Meth (K : PySem.W.Frag) (C : Addr) (m : Str) (f : Addr) : Prop where
  at_ : PySem.W.findIn K (.ref C) m = some (some (.ref f))
  fn : PySem.W.isFn K (.ref f) = true
  kp : PySem.W.keepIn K (.ref f) = true
section
variable {X : Cx} {pins : List (Addr × Obj)} {σ : St} {H : Hp} {s : Shared} {a C dx : Addr} {fs : List (Str × V)} {f : Str} {v : V} {A : Around} {E : Value → Shared → Prop}
theorem getattr_ok {b : Bool} {Q : Value → Shared → Prop} (I : Inv X pins σ H s) (e : H a = some (.ins C dx fs)) (c : Cls X.K C) (n : NoAttr X.K C f) (l : fs.lookup f = some v)
    (h : ∀ u s', Inv X pins σ H s' → RelV v u → Q u s') : wpAny (model X.prog X.w) A (getAttr (.ref a) f b) Q E s := by
  obtain ⟨mA, O, r, _, _, _⟩ := ins_get I.hok e
  obtain ⟨u, hu, ru⟩ := RelO.some_of (v := v) (o := mA f) (by rw [← l]; exact r f)
  exact get_map I.kIn O (c.get f) c.hd n hu (handed_of ru) (h u _ (I.tok _) ru)
theorem getmeth_ok {m : Str} {g : Addr} {pl : Sem Bool} {Q : Value × List Value → Shared → Prop} (I : Inv X pins σ H s) (e : H a = some (.ins C dx fs)) (c : Cls X.K C) (k : Meth X.K C m g) (l : fs.lookup m = none)
    (h : Q (.ref g, [.ref a]) s) : wpAny (model X.prog X.w) A (getMethod (.ref a) m pl) Q E s := by
  obtain ⟨mA, O, r, _, _, _⟩ := ins_get I.hok e
  have hn : mA m = none := RelO.none_of (by rw [← l]; exact r m)
  exact get_meth I.kIn O (c.get m) k.at_ k.fn hn h
theorem setattr_ok {y : V} {u : Value} {Q : Unit → Shared → Prop} (I : Inv X pins σ H s) (e : H a = some (.ins C dx fs)) (c : Cls X.K C) (n : NoAttr X.K C f) (hl : fs.length < 1000) (ry : RelV y u)
    (h : ∀ s', Inv X pins σ (upd H a (.ins C dx (putF f y fs))) s' → Q () s') : wpAny (model X.prog X.w) A (setAttr (.ref a) f u) Q E s := by
  obtain ⟨mA, O, r, wi, _, ho⟩ := ins_get I.hok e
  have hz : (fs.map (·.1)).length ≤ sizeLine := by rw [List.length_map, sizeLine_eq]; omega
  refine set_map I.kIn O c.sa c.po n.taker c.hd wi hz fun h' O' sb => h _ ?_
  have hd : ∃ o, h'.get? dx = some o := let ⟨o, _, _, e', _⟩ := O'.ns; ⟨o, e'⟩
  refine I.write (x := a) (e := dx) (by rw [e]; exact True.intro) (.inr ho) (fun b q hb z => (sb.2 b hb).trans z) hd ?_
  refine ⟨by rw [upd_ne O.ne]; exact ho, ?_, O.ne, O'.obj, _, O'.ns, fun g => ?_, fun g hg => ?_⟩
  · have := length_putF f y fs; omega
  · show RelO ((putF f y fs).lookup g) (if g = f then some u else mA g)
    rw [lookup_putF]
    by_cases q : g = f
    · rw [if_pos q, if_pos q]; exact ry
    · rw [if_neg q, if_neg q]; exact r g
  · by_cases q : g = f
    · rw [q]; exact (keys_putF f y fs).1
    · refine (keys_putF f y fs).2 g (wi g fun z => hg ?_)
      show (if g = f then some u else mA g) = none
      rw [if_neg q]; exact z
theorem Inv.made (I : Inv X pins σ H s) : Inv X pins σ (upd (upd H s.heap.objs.size (.own (s.heap.objs.size + 1))) (s.heap.objs.size + 1) (.ins C s.heap.objs.size []))
    { s with heap := (s.heap.push PySem.W.emptyDict).push (PySem.W.instObj C s.heap.objs.size) } := by
  have e1 : (s.heap.push PySem.W.emptyDict).get? s.heap.objs.size = some PySem.W.emptyDict := Heap.get?_push_size s.heap rfl
  have e2 : ((s.heap.push PySem.W.emptyDict).push (PySem.W.instObj C s.heap.objs.size)).get? (s.heap.objs.size + 1) = some (PySem.W.instObj C s.heap.objs.size) := by
    have := Heap.get?_push_size (s.heap.push PySem.W.emptyDict) (o := PySem.W.instObj C s.heap.objs.size) rfl
    rwa [Heap.size_push] at this
  have e3 : (s.heap.push PySem.W.emptyDict).Ns s.heap.objs.size (fun _ => none) := ⟨PySem.W.emptyDict, #[], _, e1, rfl, (fun e he => absurd he (by simp)), fun _ => rfl⟩
  have I1 := I.laid (a := s.heap.objs.size) (o := .own (s.heap.objs.size + 1)) (h' := s.heap.push PySem.W.emptyDict) (t' := s.toks) (fun b u q => Heap.get?_push_of_some _ q) (Nat.le_refl _) ⟨_, e1⟩
  refine I1.laid (a := s.heap.objs.size + 1) (o := .ins C s.heap.objs.size []) (t' := s.toks) (fun b u q => Heap.get?_push_of_some _ q) (Nat.le_of_eq (Heap.size_push _ _)) ?_
  have ne : s.heap.objs.size ≠ s.heap.objs.size + 1 := Nat.ne_of_lt (Nat.lt_succ_self _)
  refine ⟨by rw [upd_ne ne, upd_same], Nat.zero_le _, ne, e2, fun _ => none, (Heap.Ns1.of_empty e3).at fun o q => Heap.get?_push_of_some _ q, fun _ => True.intro, fun y hy => absurd rfl hy⟩
theorem attr_of {prog : Program} {w : World} {env : Env} {e : Expr} {f : Str} {pos : Pos} {s : Shared} {Q : Value → Shared → Prop} (hb : attributeBase e f env (eval e env) = eval e env)
    (h : wpAny (model prog w) A (eval e env) (fun o s₁ => wpAny (model prog w) A (getAttr o f true) Q E s₁) E s) : wpAny (model prog w) A (eval (.Attribute e f pos) env) Q E s :=
  Attribute_any_ h (by rw [arm_eval_Attribute, hb])
end
def tFld (K : PySem.W.Frag) (ta : TE) (f : Str) : TE := fun σ H Q => ta σ H fun x H1 => ∃ a C dx fs v, x = .ref a ∧ H1 a = some (.ins C dx fs) ∧ Cls K C ∧ NoAttr K C f ∧ fs.lookup f = some v ∧ Q v H1
def sFld (K : PySem.W.Frag) (ta tv : TE) (f : Str) : TS := fun D σ H => tv σ H fun y H1 => ta σ H1 fun x H2 => ∃ a C dx fs, x = .ref a ∧ H2 a = some (.ins C dx fs) ∧ Cls K C ∧ NoAttr K C f ∧ fs.length < 1000 ∧
  D.nx σ (upd H2 a (.ins C dx (putF f y fs)))
def InOp (X : Cx) (op : Operator) (rd : V → V → Hp → VK → Prop) : Prop :=
  ∀ (pins : List (Addr × Obj)) (s : Shared) (σ : St) (H : Hp) (x y : V) (u v : Value) (Q : VK), Inv X pins σ H s → RelV x u → RelV y v → rd x y H Q → wpAny (model X.prog X.w) X.A (inplaceOp op u v) (EP X pins σ Q) X.xe s
def sFldAug (K : PySem.W.Frag) (ta tv : TE) (rd : V → V → Hp → VK → Prop) (f : Str) : TS := fun D σ H => ta σ H fun x H1 => ∃ a C dx fs v, x = .ref a ∧ H1 a = some (.ins C dx fs) ∧ Cls K C ∧ NoAttr K C f ∧ fs.lookup f = some v ∧
  tv σ H1 fun y H2 => rd v y H2 fun z H3 => ∃ dx' fs', H3 a = some (.ins C dx' fs') ∧ fs'.length < 1000 ∧ D.nx σ (upd H3 a (.ins C dx' (putF f z fs')))
section
variable {X : Cx} {o e value : Expr} {f : Str} {pos pos' tpos : Pos} {ta tv : TE}
theorem pe_fld (he : PE X e ta) (hb : attributeBase e f X.env (eval e X.env) = eval e X.env) : PE X (.Attribute e f pos) (tFld X.K ta f) := by
  intro pins s σ H Q I h
  refine attr_of hb (thn (he pins s σ H _ I h) fun u s1 ⟨x, H1, I1, rx, a, C, dx, fs, v, ex, ea, c, n, l, q⟩ => ?_)
  subst ex
  obtain rfl : u = Value.ref a := rx
  exact getattr_ok I1 ea c n l fun u' s2 I2 ru => ⟨v, H1, I2, ru, q⟩
theorem ps_fld (ha : PE X o ta) (hv : PE X value tv) (hs : swapsWith value (some (.Attribute o f pos')) pos.line X.env = pure false) : PS X (.Assign [.Attribute o f pos'] value pos) (sFld X.K ta tv f) := by
  intro pins s σ H D I h
  refine plainObj_wpAny_Assign_Attribute (thn (hv pins s σ H _ I h) fun u s1 ⟨y, H1, I1, ry, q⟩ => thn (ha pins s1 σ H1 _ I1 q) fun ov s2 ⟨x, H2, I2, rx, a, C, dx, fs, ex, ea, c, n, l, q2⟩ => ?_) hs
  subst ex
  obtain rfl : ov = Value.ref a := rx
  exact setattr_ok I2 ea c n l ry fun s3 I3 => ⟨σ, _, I3, q2⟩
theorem ps_fldaug {op : Operator} {rd : V → V → Hp → VK → Prop} (ha : PE X o ta) (hv : PE X value tv) (hop : InOp X op rd) : PS X (.AugAssign (.Attribute o f tpos) op value pos) (sFldAug X.K ta tv rd f) := by
  intro pins s σ H D I h
  refine wpAny_AugAssign_AttributeAny (thn (ha pins s σ H _ I h) fun ov s1 ⟨x, H1, I1, rx, a, C, dx, fs, v, ex, ea, c, n, l, q⟩ => ?_)
  subst ex
  obtain rfl : ov = Value.ref a := rx
  refine getattr_ok I1 ea c n l fun u s2 I2 ru => thn (hv pins s2 σ H1 _ I2 q) fun w3 s3 ⟨y, H2, I3, ry, q3⟩ => thn (hop pins s3 σ H2 v y u w3 _ I3 ru ry q3) fun w4 s4 ⟨z, H3, I4, rz, dx', fs', ea', l', q4⟩ => ?_
  exact setattr_ok I4 ea' c n l' rz fun s5 I5 => ⟨σ, _, I5, q4⟩
def rAdd : V → V → Hp → VK → Prop := fun x y H Q => ∃ i j, x = .int i ∧ y = .int j ∧ Q (.int (i + j)) H
theorem in_add : InOp X .Add rAdd := by
  rintro pins s σ H x y u v Q I rx ry ⟨i, j, rfl, rfl, q⟩
  obtain ⟨t, rfl⟩ := (show ∃ t, u = Value.int i t from rx)
  obtain ⟨t', rfl⟩ := (show ∃ t', v = Value.int j t' from ry)
  exact PyProof.Rows.iadd_int ⟨.int (i + j), H, I.tok _, ⟨_, rfl⟩, q⟩
end
section
variable {X : Cx} {pins : List (Addr × Obj)} {σ : St} {H : Hp} {s : Shared} {A : Around} {E : Value → Shared → Prop} {Q : Value → Shared → Prop} {c : Value} {b : Bool}
inductive TyOf (K : PySem.W.Frag) (H : Hp) : V → Value → Prop where
  | non : TyOf K H .non (.type "NoneType")
  | bl (x : Bool) : TyOf K H (.bl x) (.type "bool")
  | int (i : Int) : TyOf K H (.int i) (.type "int")
  | str (x : Str) : TyOf K H (.str x) (.type "str")
  | flt (x : UInt64) : TyOf K H (.flt x) (.type "float")
  | lst {a : Addr} {xs : List V} (e : H a = some (.lst xs)) : TyOf K H (.ref a) (.type "list")
  | frz {a : Addr} {o : Obj} {xs : List V} (e : H a = some (.frz o (.lst xs))) : TyOf K H (.ref a) (.type "list")
  | tup {a : Addr} {xs : List V} (e : H a = some (.tup xs)) : TyOf K H (.ref a) (.type "tuple")
  | dK {a : Addr} {kvs : List (Key × V)} (e : H a = some (.dK kvs)) : TyOf K H (.ref a) (.type "dict")
  | dT {a : Addr} {kvs : List (List Key × V)} (e : H a = some (.dT kvs)) : TyOf K H (.ref a) (.type "dict")
  | ins {a C dx : Addr} {fs : List (Str × V)} (e : H a = some (.ins C dx fs)) (cl : Cls K C) (ha : PySem.W.findIn K (.ref C) "__class__" = some (some (.builtin "object.__class__")))
      (hn : PySem.W.specialIn K (.builtin "object.__class__") "__get__" = some (some (.builtin "getset_descriptor.__get__"))) (htk : PySem.W.takesIn K (.builtin "object.__class__") = some true)
      (hm : PySem.W.mroIn K C (.type "object") = some true) : TyOf K H (.ref a) (.ref C)
end
end L2
namespace L2
open PySem PySem.Spec PyProof.Rows
structure Room (k : Nat) (A : Around) : Prop where
  hd : A.handled = none
  dp : A.depth + 3 * k + 5 < recursionLimit
  un : A.units + 16 * k + 200 < cLine
theorem Room.mono {j k : Nat} {A : Around} (r : Room k A) (h : j ≤ k) : Room j A := ⟨r.hd, by have := r.dp; omega, by have := r.un; omega⟩
theorem Room.deeper {k : Nat} {A : Around} (r : Room (k + 1) A) (env : Env) : Room k (A.deeper env) :=
  ⟨r.hd, by have := r.dp; show A.depth + 1 + 3 * k + 5 < _; omega, by have := r.un; show A.units + 3 + 16 * k + 200 < _; omega⟩
theorem Room.in1 {k : Nat} {A : Around} (r : Room (k + 1) A) : Room k A.in1 :=
  ⟨r.hd, by have := r.dp; show A.depth + 3 * k + 5 < _; omega, by have := r.un; show A.units + 1 + 16 * k + 200 < _; omega⟩
theorem make_depth {A : Around} {C : Addr} {us : List Value} {kw : List (Str × Value)} : (A.under (.builtin "type.__call__" ⟨.ref C :: us, kw⟩)).depth = A.depth + 1 := by
  first | rfl | simp [Around.under, Code.weight, Code.isCreation, Code.isGuard, Code.isCaller, Code.frames, Code.isFrame, guardIds]
theorem make_units {A : Around} {C : Addr} {us : List Value} {kw : List (Str × Value)} : (A.under (.builtin "type.__call__" ⟨.ref C :: us, kw⟩)).units = A.units + 1 := by
  first | rfl | simp [Around.under, Code.cUnits, Code.frames, Code.isFrame]
theorem Room.make {k : Nat} {A : Around} (r : Room (k + 1) A) (C : Addr) (us : List Value) (kw : List (Str × Value)) : Room k (A.under (.builtin "type.__call__" ⟨.ref C :: us, kw⟩)) :=
  ⟨r.hd, by have := r.dp; rw [make_depth]; omega, by have := r.un; rw [make_units]; omega⟩
theorem Room.depth {k : Nat} {A : Around} (r : Room k A) : A.depth < recursionLimit := by have := r.dp; omega
theorem Room.units {k : Nat} {A : Around} (r : Room k A) : A.units + 64 < cLine := by have := r.un; omega
def tNil : TA := fun _ H Q => Q [] H
def tCons (ta : TE) (tr : TA) : TA := fun σ H Q => ta σ H fun x H1 => tr σ H1 fun xs H2 => Q (x :: xs) H2
section
variable {X : Cx} {e : Expr} {es : List Expr} {te : TE} {t : TA} {pos : Pos}
theorem pa_nil : PA X [] tNil := fun _ _ _ _ H Q I h => Calls.spliced_nil ⟨[], H, I, .nil, h⟩
theorem pa_cons (ha : PE X e te) (hr : PA X es t) (hs : starEach (e :: es) X.env = (false, eval e X.env) :: starEach es X.env := by rfl) : PA X (e :: es) (tCons te t) := by
  intro pos pins s σ H Q I h
  rw [hs]
  show wpAny _ _ (spliced ((false, eval e X.env) :: backTo pos (starEach es X.env))) _ _ s
  refine Calls.spliced_cons (thn (ha pins s σ H _ I h) fun u s1 ⟨x, H1, I1, r1, q1⟩ => ?_)
  exact thn (hr pos pins s1 σ H1 _ I1 q1) fun us s2 ⟨xs, H2, I2, r2, q2⟩ => ⟨x :: xs, H2, I2, .cons r1 r2, q2⟩
end
abbrev Sp := List V → Hp → VK → XK → Prop
abbrev CXT := List Env → Hp → Shared → XK → Value → Shared → Prop
structure Env0 (P : Program) (w : World) (K : PySem.W.Frag) (mg : Str → Option Value) (base : Heap) (A : Around) (outer : List Env) (s : Shared) (H : Hp) : Prop where
  frames : A.frames = some outer
  mod : Mod K mg base
  bs : ∀ b o, base.get? b = some o → s.heap.get? b = some o ∧ H b = none
  bsz : base.objs.size ≤ s.heap.objs.size
  funs : s.heap.FunFrames base outer
  frf : ∀ b ∈ frs outer, H b = none
  hok : HOk P w H s.heap
  bare : AllBare s.gens
def CE (outer : List Env) (P : Program) (w : World) (H : Hp) (s : Shared) (Q : VK) (u : Value) (s' : Shared) : Prop :=
  ∃ v H', s'.os = s.os ∧ AllBare s'.gens ∧ Un (frs outer) [] H H' s.heap s'.heap ∧ HOk P w H' s'.heap ∧ RelV v u ∧ Q v H'
def CR (CX : CXT) (outer : List Env) (P : Program) (w : World) (H : Hp) (s : Shared) (Q : VK) (E : XK) (r : Result) (s' : Shared) : Prop :=
  match r with
  | .ok (.ret u) => CE outer P w H s Q u s'
  | .ok _ => False
  | .error e => CX outer H s E e s'
structure FnOk (P : Program) (w : World) (K : PySem.W.Frag) (mg : Str → Option Value) (base : Heap) (CX : CXT) (k : Nat) (f : Addr) (fd : FuncData) (ps : List Str) (sp : Sp) : Prop where
  len : ∀ vs H Q E, sp vs H Q E → vs.length = ps.length
  run : ∀ (A : Around) (outer : List Env) (s : Shared) (H : Hp) (args : Args) (us : List Value) (vs : List V) (Q : VK) (E : XK), Room k A → Env0 P w K mg base A outer s H → BindsTo s fd args (ps.zip us) → Vals vs us → sp vs H Q E →
    codeAny (model P w) A (.call (.ref f) args) (CR CX outer P w H s Q E) s
theorem FnOk.mono {P : Program} {w : World} {K : PySem.W.Frag} {mg : Str → Option Value} {base : Heap} {CX : CXT} {j k : Nat} {f : Addr} {fd : FuncData} {ps : List Str} {sp : Sp} (F : FnOk P w K mg base CX j f fd ps sp) (h : j ≤ k) :
    FnOk P w K mg base CX k f fd ps sp := ⟨F.len, fun A outer s H args us vs Q E hr => F.run A outer s H args us vs Q E (hr.mono h)⟩
theorem Env0.make {P : Program} {w : World} {K : PySem.W.Frag} {mg : Str → Option Value} {base : Heap} {A : Around} {outer : List Env} {s : Shared} {H : Hp} (e : Env0 P w K mg base A outer s H) (C : Addr) (us : List Value) (kw : List (Str × Value)) :
    Env0 P w K mg base (A.under (.builtin "type.__call__" ⟨.ref C :: us, kw⟩)) outer s H := ⟨by first | exact e.frames | (simpa [Around.under, Code.envs, Code.isFrame, pushEnvs] using e.frames), e.mod, e.bs, e.bsz, e.funs, e.frf, e.hok, e.bare⟩
theorem Env0.in1 {P : Program} {w : World} {K : PySem.W.Frag} {mg : Str → Option Value} {base : Heap} {A : Around} {outer : List Env} {s : Shared} {H : Hp} (e : Env0 P w K mg base A outer s H) :
    Env0 P w K mg base A.in1 outer s H := ⟨e.frames, e.mod, e.bs, e.bsz, e.funs, e.frf, e.hok, e.bare⟩
section
variable {X : Cx} {pins : List (Addr × Obj)} {σ : St} {H : Hp} {s s' : Shared}
theorem Inv.env0 (I : Inv X pins σ H s) : Env0 X.prog X.w X.K X.mg X.base X.A X.stack s H :=
  ⟨I.ok.frames, I.ok.mod, I.bs, Nat.le_trans I.ok.bsz I.sz, I.stack, I.stkFree, I.hok, I.bare⟩
theorem Inv.after {Q : VK} {u : Value} (I : Inv X pins σ H s) (h : CE X.stack X.prog X.w H s Q u s') : EP X pins σ Q u s' := by
  obtain ⟨v, H', os, bare, un, hok, r, q⟩ := h
  obtain ⟨hh, g, d, t, os'⟩ := s'
  obtain rfl : os' = s.os := os
  exact ⟨v, H', I.call (h' := hh) (g' := g) (d' := d) (t' := t) (ch := []) un hok bare (fun b z => absurd z (by simp)), r, q⟩
end
def tCall (sp : Sp) (dvs : List V) (E : XK) (t : TA) : TE := fun σ H Q => t σ H fun vs H1 => sp (vs ++ dvs) H1 Q E
def tMeth (C : Addr) (m : Str) (sp : Sp) (dvs : List V) (E : XK) (ta : TE) (t : TA) : TE := fun σ H Q => ta σ H fun x H1 => ∃ a dx fs, x = .ref a ∧ H1 a = some (.ins C dx fs) ∧ fs.lookup m = none ∧
  t σ H1 fun vs H2 => sp (x :: (vs ++ dvs)) H2 Q E
def tMake (C : Addr) (sp : Sp) (dvs : List V) (E : XK) (t : TA) : TE := fun σ H Q => t σ H fun vs H1 => ∀ x dx, H1 x = none → H1 dx = none → dx ≠ x →
  sp (.ref x :: (vs ++ dvs)) (upd (upd H1 dx (.own x)) x (.ins C dx [])) (fun v H2 => v = .non ∧ Q (.ref x) H2) E
def Binds (K : PySem.W.Frag) (fd : FuncData) (ps : List Str) (ds : List Value) : Prop :=
  ∀ (s : Shared) (us : List Value), K.In s.heap → (us ++ ds).length = ps.length → BindsTo s fd ⟨us, []⟩ (ps.zip (us ++ ds))
theorem Binds.all {K : PySem.W.Frag} {fd : FuncData} {ps : List Str} (h : ∀ us : List Value, us.length = ps.length → bindArgs fd ⟨us, []⟩ = pure (ps.zip us)) : Binds K fd ps [] := fun s us _ hl => by
  rw [List.append_nil] at hl ⊢
  exact .of_eq (h us hl)
def Passes (CX : CXT) (X : Cx) (E : XK) : Prop := ∀ (pins : List (Addr × Obj)) (σ : St) (H : Hp) (s : Shared) (e : Value) (s' : Shared), Inv X pins σ H s → CX X.stack H s E e s' → X.xe e s'
section
variable {X : Cx} {CX : CXT} {k : Nat} {f C : Addr} {fd : FuncData} {ps : List Str} {sp : Sp} {dvs : List V} {ds : List Value} {E : XK} {x m : Str} {p pos apos : Pos} {e o : Expr} {es : List Expr} {ta : TE} {t : TA}
theorem run_fn {pins : List (Addr × Obj)} {σ : St} {H : Hp} {s : Shared} {Q : VK} {us : List Value} {vs : List V} (F : FnOk X.prog X.w X.K X.mg X.base CX k f fd ps sp) (hr : Room k X.A) (hb : Binds X.K fd ps ds) (hd : Vals dvs ds) (hx : Passes CX X E)
    (I : Inv X pins σ H s) (r : Vals vs us) (h : sp (vs ++ dvs) H Q E) : wpAny (model X.prog X.w) X.A (call (.ref f) us) (EP X pins σ Q) X.xe s := by
  have r2 : Vals (vs ++ dvs) (us ++ ds) := r.append hd
  have hl : (us ++ ds).length = ps.length := by rw [← r2.length]; exact F.len _ _ _ _ h
  refine wpAny_call (codeAny_mono (F.run X.A X.stack s H ⟨us, []⟩ (us ++ ds) (vs ++ dvs) Q E hr I.env0 (hb s us I.kIn hl) r2 h) fun r s' hq => ?_)
  cases r with
  | error e => exact hx pins σ H s e s' I hq
  | ok fl =>
    cases fl with
    | ret u => exact I.after hq
    | next => exact False.elim hq
    | brk => exact False.elim hq
    | cont => exact False.elim hq
theorem pe_call (F : FnOk X.prog X.w X.K X.mg X.base CX k f fd ps sp) (hr : Room k X.A) (hg : Gl X x) (hm : X.mg x = some (.ref f)) (hk : PySem.W.keepIn X.K (.ref f) = true) (hb : Binds X.K fd ps ds) (hd : Vals dvs ds) (hx : Passes CX X E)
    (ha : PA X (e :: es) t) (hdb : (x == ("__debug__" : Str)) = false := by decide) (he : starEach (e :: es) X.env = (false, eval e X.env) :: starEach es X.env := by rfl) (hpl : (backTo pos (starEach es X.env)).any (·.1) = false := by rfl) :
    PE X (.Call (.Name x p) (e :: es) [] pos) (tCall sp dvs E t) := by
  intro pins s σ H Q I h
  refine wpAny_Call_Name_kw (ld_glob I hg hm ?_ hdb)
  refine PySem.W.callWith_K (h₀ := X.base) I.ok.mod.kin hk (thn (ha pos pins s σ H _ I h) fun us s1 ⟨vs, H1, I1, r, q⟩ => ⟨I1.kIn, ?_⟩) he hpl
  exact run_fn F hr hb hd hx I1 r q
theorem pe_call0 (F : FnOk X.prog X.w X.K X.mg X.base CX k f fd ps sp) (hr : Room k X.A) (hg : Gl X x) (hm : X.mg x = some (.ref f)) (hk : PySem.W.keepIn X.K (.ref f) = true) (hb : Binds X.K fd ps ds) (hd : Vals dvs ds) (hx : Passes CX X E)
    (hdb : (x == ("__debug__" : Str)) = false := by decide) : PE X (.Call (.Name x p) [] [] pos) (tCall sp dvs E tNil) := by
  intro pins s σ H Q I h
  refine wpAny_Call_Name_kw (ld_glob I hg hm ?_ hdb)
  exact PySem.W.callWith_K0 I.kIn hk (run_fn (us := []) F hr hb hd hx I .nil h)
theorem pe_meth0 {pl : Sem Bool} (he : PE X o ta) (c : Cls X.K C) (hm : Meth X.K C m f) (F : FnOk X.prog X.w X.K X.mg X.base CX k f fd ps sp) (hr : Room k X.A) (hb : Binds X.K fd ps ds) (hd : Vals dvs ds) (hx : Passes CX X E)
    (ht : eval (.Call (.Attribute o m apos) [] [] pos) X.env = (do
      let ov ← eval o X.env
      standAt apos.atName
      let (f, first) ← holding [ov] (getMethod ov m pl)
      callWith pos f first (backTo pos (starEach [] X.env)) (backToKw pos (keywordEach [] X.env))) := by rfl) :
    PE X (.Call (.Attribute o m apos) [] [] pos) (tMeth C m sp dvs E ta tNil) := by
  intro pins s σ H Q I h
  refine PySem.W.methodCall_KW (pl := pl) (thn (he pins s σ H _ I h) fun u s1 ⟨x, H1, I1, rx, a, dx, fs, ex, ea, l, q⟩ => ?_) ht
  subst ex
  obtain rfl : u = Value.ref a := rx
  refine getmeth_ok I1 ea c hm l ?_
  exact PySem.W.callWith_K0 (first := [.ref a]) I1.kIn hm.kp (run_fn (us := [.ref a]) (vs := [.ref a]) F hr hb hd hx I1 (.cons rfl .nil) q)
structure Mk (K : PySem.W.Frag) (C f : Addr) : Prop where
  makes : PySem.W.makesIn K C = true
  init : PySem.W.findIn K (.ref C) "__init__" = some (some (.ref f))
  fn : PySem.W.isFn K (.ref f) = true
  kp : PySem.W.keepIn K (.ref C) = true
theorem run_make {pins : List (Addr × Obj)} {σ : St} {H : Hp} {s : Shared} {Q : VK} {us : List Value} {vs : List V} (M : Mk X.K C f) (F : FnOk X.prog X.w X.K X.mg X.base CX k f fd ps sp) (hr : Room (k + 1) X.A) (hb : Binds X.K fd ps ds) (hd : Vals dvs ds)
    (hx : Passes CX X E) (I : Inv X pins σ H s) (r : Vals vs us)
    (h : ∀ x dx, H x = none → H dx = none → dx ≠ x → sp (.ref x :: (vs ++ dvs)) (upd (upd H dx (.own x)) x (.ins C dx [])) (fun v H2 => v = .non ∧ Q (.ref x) H2) E) :
    wpAny (model X.prog X.w) X.A (call (.ref C) us) (EP X pins σ Q) X.xe s := by
  have hq := h (s.heap.objs.size + 1) s.heap.objs.size (I.hok.fresh (Nat.le_succ _)) (I.hok.fresh (Nat.le_refl _)) (Nat.ne_of_lt (Nat.lt_succ_self _))
  have I2 := Inv.made (C := C) I
  have r2 : Vals (V.ref (s.heap.objs.size + 1) :: (vs ++ dvs)) (Value.ref (s.heap.objs.size + 1) :: (us ++ ds)) := .cons rfl (r.append hd)
  have hl : (Value.ref (s.heap.objs.size + 1) :: us ++ ds).length = ps.length := by
    have e := r2.length
    rw [F.len _ _ _ _ hq] at e
    exact e.symm
  refine wpAny_call (make_map (f := f) I.kIn M.makes M.init (beq_iff_eq.mp M.fn) (codeAny_mono (F.run _ X.stack _ _ ⟨Value.ref (s.heap.objs.size + 1) :: us, []⟩ (Value.ref (s.heap.objs.size + 1) :: (us ++ ds)) _ _ E (hr.make C us [])
    (I2.env0.make C us []) (hb _ (Value.ref (s.heap.objs.size + 1) :: us) I2.kIn hl) r2 hq) fun r s' hq' => ?_))
  cases r with
  | error e => exact hx pins σ _ _ e s' I2 hq'
  | ok fl =>
    cases fl with
    | ret u =>
      obtain ⟨v, H', I3, rv, ev, q3⟩ := I2.after hq'
      subst ev
      exact ⟨rv, ⟨V.ref (s.heap.objs.size + 1), H', I3, rfl, q3⟩⟩
    | next => exact False.elim hq'
    | brk => exact False.elim hq'
    | cont => exact False.elim hq'
theorem pe_make (M : Mk X.K C f) (F : FnOk X.prog X.w X.K X.mg X.base CX k f fd ps sp) (hr : Room (k + 1) X.A) (hg : Gl X x) (hm : X.mg x = some (.ref C)) (hb : Binds X.K fd ps ds) (hd : Vals dvs ds) (hx : Passes CX X E)
    (ha : PA X (e :: es) t) (hdb : (x == ("__debug__" : Str)) = false := by decide) (he : starEach (e :: es) X.env = (false, eval e X.env) :: starEach es X.env := by rfl) (hpl : (backTo pos (starEach es X.env)).any (·.1) = false := by rfl) :
    PE X (.Call (.Name x p) (e :: es) [] pos) (tMake C sp dvs E t) := by
  intro pins s σ H Q I h
  refine wpAny_Call_Name_kw (ld_glob I hg hm ?_ hdb)
  refine PySem.W.callWith_K (h₀ := X.base) I.ok.mod.kin M.kp (thn (ha pos pins s σ H _ I h) fun us s1 ⟨vs, H1, I1, r, q⟩ => ⟨I1.kIn, ?_⟩) he hpl
  exact run_make M F hr hb hd hx I1 r q
end
section
variable {X : Cx} {CX : CXT} {k : Nat} {f C : Addr} {fd : FuncData} {ps ks : List Str} {sp : Sp} {E : XK} {x m : Str} {p pos apos kpos : Pos} {e o : Expr} {es : List Expr} {kws : List Keyword} {te ta : TE} {t tk : TA} {nm : Option Str}
structure KBinds (K : PySem.W.Frag) (fd : FuncData) (ps ks : List Str) (g : List Value → List Value → List Value) (gV : List V → List V → List V) : Prop where
  to : ∀ (s : Shared) (us ws : List Value), K.In s.heap → (g us ws).length = ps.length → BindsTo s fd ⟨us, ks.zip ws⟩ (ps.zip (g us ws))
  rel : ∀ {vs : List V} {us : List Value} {zs : List V} {ws : List Value}, Vals vs us → Vals zs ws → Vals (gV vs zs) (g us ws)
variable {g : List Value → List Value → List Value} {gV : List V → List V → List V}
end
structure FnScope (N P : List Str) (sc : Scope) : Prop where
  kind : sc.kind = .function
  co : sc.isCoroutine = false
  gen : sc.isGenerator = false
  nd : N.Nodup
  pre : N.take P.length = P
  par : ∀ x ∈ P, sc.names.lookup x = some .local ∨ sc.names.lookup x = some .cell
  nofree : ∀ y ∈ sc.names, y.2 ≠ .free
theorem bindL_out {kindOf : Str → Option NameKind} {x : Str} : ∀ {binds : List (Str × Value)} {m : Str → Option Value}, (∀ v, (x, v) ∉ binds) → bindL kindOf binds m x = m x
  | [], _, _ => rfl
  | (n, v) :: r, m, h => by
    unfold bindL
    rw [bindL_out fun w hw => h w (List.mem_cons_of_mem _ hw)]
    split
    · have : x ≠ n := by rintro rfl; exact h v List.mem_cons_self
      simp [this]
    · rfl
theorem bindC_out {kindOf : Str → Option NameKind} {x : Str} : ∀ {binds : List (Str × Value)} {m : Str → Option Value}, (∀ v, (x, v) ∉ binds) → bindC kindOf binds m x = m x
  | [], _, _ => rfl
  | (n, v) :: r, m, h => by
    unfold bindC
    rw [bindC_out fun w hw => h w (List.mem_cons_of_mem _ hw)]
    split
    · rfl
    · have : x ≠ n := by rintro rfl; exact h v List.mem_cons_self
      simp [this]
theorem bindL_get {kindOf : Str → Option NameKind} {x : Str} {v : Value} : ∀ {P : List Str} {vs : List Value} {i : Nat} {m : Str → Option Value}, P.Nodup → P[i]? = some x → vs[i]? = some v → kindOf x = some .local →
    bindL kindOf (P.zip vs) m x = some v
  | [], _, _, _, _, h, _, _ => by simp at h
  | _ :: _, [], _, _, _, _, h, _ => by simp at h
  | p :: P, w :: vs, 0, m, nd, h1, h2, hk => by
    simp at h1 h2; subst h1; subst h2
    show bindL kindOf ((p, w) :: P.zip vs) m p = _
    unfold bindL
    rw [bindL_out fun v hv => (List.nodup_cons.mp nd).1 (List.of_mem_zip hv).1, if_pos hk]
    simp
  | p :: P, w :: vs, i + 1, m, nd, h1, h2, hk => by
    show bindL kindOf ((p, w) :: P.zip vs) m x = _
    unfold bindL
    exact bindL_get (i := i) (List.nodup_cons.mp nd).2 (by simpa using h1) (by simpa using h2) hk
theorem bindC_get {kindOf : Str → Option NameKind} {x : Str} {v : Value} : ∀ {P : List Str} {vs : List Value} {i : Nat} {m : Str → Option Value}, P.Nodup → P[i]? = some x → vs[i]? = some v → kindOf x ≠ some .local →
    bindC kindOf (P.zip vs) m x = some v
  | [], _, _, _, _, h, _, _ => by simp at h
  | _ :: _, [], _, _, _, _, h, _ => by simp at h
  | p :: P, w :: vs, 0, m, nd, h1, h2, hk => by
    simp at h1 h2; subst h1; subst h2
    show bindC kindOf ((p, w) :: P.zip vs) m p = _
    unfold bindC
    rw [bindC_out fun v hv => (List.nodup_cons.mp nd).1 (List.of_mem_zip hv).1, if_neg hk]
    simp
  | p :: P, w :: vs, i + 1, m, nd, h1, h2, hk => by
    show bindC kindOf ((p, w) :: P.zip vs) m x = _
    unfold bindC
    exact bindC_get (i := i) (List.nodup_cons.mp nd).2 (by simpa using h1) (by simpa using h2) hk
def start (N : List Str) (vs : List V) : St := vs.map some ++ List.replicate (N.length - vs.length) none
def cxOf (CX : CXT) (P : Program) (w : World) (K : PySem.W.Frag) (mg : Str → Option Value) (base : Heap) (N : List Str) (qual : Str) (scope : Scope) (f : Addr) (cd : Value) (A : Around) (outer : List Env) (s : Shared) (H : Hp) (E : XK) : Cx where
  prog := P
  w := w
  K := K
  mg := mg
  base := base
  A := A.deeper (envOfC qual scope s.heap.objs.size f cd)
  N := N
  s₀ := s
  H₀ := H
  env := envOfC qual scope s.heap.objs.size f cd
  outer := outer
  stack := envOfC qual scope s.heap.objs.size f cd :: outer
  ex := []
  calm := true
  fn := fun _ => true
  pn := []
  xe := fun e s' => wpAny (model P w) (A.deeper (envOfC qual scope s.heap.objs.size f cd)) (leaving (envOfC qual scope s.heap.objs.size f cd) e) (fun _ s'' => CX outer H s E e s'') (fun e' s'' => CX outer H s E e' s'') s'
theorem cell_has {sc : Scope} {n : Nat} {x : Str} (h : sc.names.lookup x = some .cell) : ∃ c, (cellsFrom n sc.names []).lookup x = some c := by
  have q := PySem.W.cellsFrom_some sc.names n [] (.inl h)
  exact Option.isSome_iff_exists.mp q
theorem inv_start {CX : CXT} {P : Program} {w : World} {K : PySem.W.Frag} {mg : Str → Option Value} {base : Heap} {N ps : List Str} {qual : Str} {scope : Scope} {f : Addr} {cd : Value} {A : Around} {outer : List Env} {s s1 : Shared} {H : Hp} {E : XK} {us : List Value} {vs : List V}
    (S : FnScope N ps scope) (hd : A.handled = none) (e0 : Env0 P w K mg base A outer s H) (hl : vs.length = ps.length) (r : Vals vs us)
    (x : InCallC s s.heap.objs.size (bindL (envOfC qual scope s.heap.objs.size f cd).kindOf (ps.zip us) fun _ => none) (cellsFrom (s.heap.objs.size + 1) scope.names []) (bindC (envOfC qual scope s.heap.objs.size f cd).kindOf (ps.zip us) fun _ => none) s1) :
    Inv (cxOf CX P w K mg base N qual scope f cd A outer s H E) [] (start N vs) H s1 := by
  have hpl : ps.length ≤ N.length := by have := congrArg List.length S.pre; rw [List.length_take] at this; omega
  obtain ⟨h1, tk, rfl, hk⟩ := x.done
  have noA : ∀ b : Addr, b ∉ (cxOf CX P w K mg base N qual scope f cd A outer s H E).ex := fun b z => absurd (show b ∈ ([] : List Addr) from z) (by simp)
  refine ⟨⟨e0.mod, S.kind, rfl, rfl, Nat.le_refl _, fun y z c h1 h2 => ?_, fun y hy => ?_, fun y c _ h => ?_, fun _ => hd, Around.frames_deeper e0.frames, .inr ⟨rfl, rfl⟩, fun b z => absurd z (noA b), e0.bs, e0.bsz, fun b _ _ => noA b, fun b z => absurd z (noA b), e0.funs, e0.frf⟩,
    rfl, e0.bare, Un.kept hk, ⟨_, x.toInCall.ns, fun i y v h1 h2 h3 => ?_⟩, fun y c h => ⟨_, x.cell y c h⟩, e0.hok.fresh (Nat.le_refl _), fun y c h => ?_, fun p hp => absurd (show p ∈ ([] : List (Addr × Obj)) from hp) (by simp), e0.hok.kept hk, ?_⟩
  · exact name_of_addr x.apart (PySem.mem_of_lookup h1) (PySem.mem_of_lookup h2)
  · have hy : scope.names.lookup y = some .cell ∨ scope.names.lookup y = some .free := hy
    rcases hy with hy | hy
    · exact cell_has hy
    · exact absurd rfl (S.nofree _ (PySem.mem_of_lookup hy))
  · exact Nat.le_of_lt (x.above y c (PySem.mem_of_lookup h))
  · have hi : i < vs.length := by
      unfold start at h2
      by_cases hi : i < vs.length
      · exact hi
      · rw [List.getElem?_append_right (by simpa using hi)] at h2
        rw [List.getElem?_replicate] at h2
        split at h2 <;> cases h2
    have ha : vs[i]? = some v := by
      unfold start at h2
      rw [List.getElem?_append_left (by simpa using hi), List.getElem?_map] at h2
      cases e : vs[i]? with
      | none => rw [e] at h2; cases h2
      | some a => rw [e] at h2; cases h2; rfl
    obtain ⟨u, hu, rv⟩ := r.get ha
    have hp : ps[i]? = some y := by
      rw [← S.pre, List.getElem?_take_of_lt (by omega)]; exact h1
    have ndP : ps.Nodup := by rw [← S.pre]; exact S.nd.sublist (List.take_sublist _ _)
    refine ⟨u, rv, ?_⟩
    rcases S.par y (List.mem_of_getElem? hp) with k | k
    · exact .inl ⟨k, bindL_get ndP hp hu k⟩
    · obtain ⟨c, e⟩ := cell_has (n := s.heap.objs.size + 1) k
      refine .inr ⟨.inl k, c, e, ?_⟩
      have q := x.cell y c e
      rw [bindC_get ndP hp hu (by show scope.names.lookup y ≠ _; rw [k]; decide)] at q
      exact q
  · exact e0.hok.fresh (Nat.le_of_lt (x.above y c (PySem.mem_of_lookup h)))
  · unfold start
    show _ = N.length
    rw [List.length_append, List.length_map, List.length_replicate]
    omega
theorem fn_of {CX : CXT} {P : Program} {w : World} {K : PySem.W.Frag} {mg : Str → Option Value} {base : Heap} {k : Nat} {f : Addr} {name qual : Str} {params : Arguments} {body : List Stmt} {scope : Scope} {dV kV doc pm cdv ct oc : Value} {an od : Option Addr}
    {osl : Array (Option Value)} {N ps : List Str} {sp : Sp} (lk : K.lookup f = some ⟨oc, od, .func (PySem.W.fnOf name qual params body scope dV kV doc pm an cdv ct), osl⟩) (hcd : PySem.W.codeIn K cdv qual = true) (S : FnScope N ps scope)
    (len : ∀ vs H Q E, sp vs H Q E → vs.length = ps.length)
    (hbody : ∀ (A : Around) (outer : List Env) (s : Shared) (H : Hp) (vs : List V) (Q : VK) (E : XK), Room k (A.deeper (envOfC qual scope s.heap.objs.size f cdv)) → sp vs H Q E →
      ∃ t, PSs (cxOf CX P w K mg base N qual scope f cdv A outer s H E) body t ∧ t { nx := fun _ H' => Q .non H', rt := Q } (start N vs) H) :
    FnOk P w K mg base CX (k + 1) f (PySem.W.fnOf name qual params body scope dV kV doc pm an cdv ct) ps sp := by
  refine ⟨len, fun A outer s H args us vs Q E hr e0 hb r hsp => ?_⟩
  have hl := len _ _ _ _ hsp
  have KX : K.In s.heap := e0.mod.kin.keeps fun b o e => (e0.bs b o e).1
  have lim : s.heap.NoLimit := e0.mod.nolimit.keeps fun b o e => (e0.bs b o e).1
  have hkind : ∀ y ∈ ps.zip us, scope.names.lookup y.1 = some .local ∨ (scope.names.lookup y.1 = some .cell ∧ ((cellsFrom (s.heap.objs.size + 1) scope.names []).lookup y.1).isSome = true) := fun ⟨n, v⟩ hy => by
    rcases S.par n (List.of_mem_zip hy).1 with q | q
    · exact .inl q
    · exact .inr ⟨q, PySem.W.cellsFrom_some _ _ _ (.inl q)⟩
  refine codeAny_call_function hr.depth (KX _ _ lk) rfl S.co S.gen rfl (PySem.W.codeRec_of KX hcd) (hb _ _ _ _ ?_)
  refine wpAny_newFunctionEnv_cells S.kind hkind fun env he s1 x => ?_
  subst he
  refine ⟨lim.keeps x.toInCall.keep, codeAny_func ?_⟩
  obtain ⟨t, ht, hq⟩ := hbody A outer s H vs Q E (hr.deeper _) hsp
  have I : Inv (cxOf CX P w K mg base N qual scope f cdv A outer s H E) [] (start N vs) H s1 := inv_start S hr.hd e0 hl r x
  refine wpAny_mono (ht [] s1 (start N vs) H _ I hq) (fun fl s' hs => ?_) fun e s' hs => hs
  have fin : ∀ {σ' : St} {H' : Hp} {v : V} {u : Value}, Inv (cxOf CX P w K mg base N qual scope f cdv A outer s H E) [] σ' H' s' → RelV v u → Q v H' → CE outer P w H s Q u s' :=
    fun {σ' H' v u} J rv q => ⟨v, H', J.os, J.bare, J.base, J.hok, rv, q⟩
  cases fl with
  | ret u =>
    obtain ⟨v, σ', H', J, rv, q⟩ := hs
    exact fin J rv q
  | next =>
    obtain ⟨σ', H', J, q⟩ := hs
    exact fin (v := V.non) (u := Value.none) J rfl q
  | brk =>
    obtain ⟨_, _, _, q⟩ := hs
    exact False.elim q
  | cont =>
    obtain ⟨_, _, _, q⟩ := hs
    exact False.elim q
end L2
namespace L2
open PySem PySem.Spec PyProof.Rows
section
variable {X : Cx} {x : Str} {p pos : Pos} {e : Expr} {es : List Expr} {t : TA} {id T : String} {r : List V → Hp → VK → Prop}
def tCB (r : List V → Hp → VK → Prop) (t : TA) : TE := fun σ H Q => t σ H fun vs H1 => r vs H1 Q
theorem pe_callB (hc : CallR X (.builtin id) r) (hg : Gl X x) (hm : X.mg x = none) (hv : bootBuiltins x = some (.builtin id)) (ha : PA X (e :: es) t) (hn : x ≠ "__name__" := by decide) (hdb : (x == ("__debug__" : Str)) = false := by decide)
    (he : starEach (e :: es) X.env = (false, eval e X.env) :: starEach es X.env := by rfl) (hpl : (backTo pos (starEach es X.env)).any (·.1) = false := by rfl) : PE X (.Call (.Name x p) (e :: es) [] pos) (tCB r t) := by
  intro pins s σ H Q I h
  refine wpAny_Call_Name_kw (ld_blt I hg hm hv ?_ hn hdb)
  exact PyProof.Rows.callWith_builtin1 (thn (ha pos pins s σ H _ I h) fun us s1 ⟨vs, H1, I1, r1, q1⟩ => hc pins s1 σ H1 vs us Q I1 r1 q1) he hpl
theorem pe_callTy (hc : CallR X (.type T) r) (hg : Gl X x) (hm : X.mg x = none) (hv : bootBuiltins x = some (.type T)) (ha : PA X (e :: es) t) (hn : x ≠ "__name__" := by decide) (hdb : (x == ("__debug__" : Str)) = false := by decide)
    (he : starEach (e :: es) X.env = (false, eval e X.env) :: starEach es X.env := by rfl) (hpl : (backTo pos (starEach es X.env)).any (·.1) = false := by rfl) : PE X (.Call (.Name x p) (e :: es) [] pos) (tCB r t) := by
  intro pins s σ H Q I h
  refine wpAny_Call_Name_kw (ld_blt I hg hm hv ?_ hn hdb)
  exact PyProof.Rows.callWith_type1 (thn (ha pos pins s σ H _ I h) fun us s1 ⟨vs, H1, I1, r1, q1⟩ => hc pins s1 σ H1 vs us Q I1 r1 q1) he hpl
end
end L2
namespace HT
open PySem PyProof.Rows
section
open PySem.SeqAt
open PySem.AutoSeq1 (wpAny_loadPart')
open PySem.MeetsSeq PySem.MeetsSeq2 PySem.MeetsSeq3
end
section
variable {prog : Program} {w : World} {A : Around} {E : Value → Shared → Prop} {s : Shared}
def sIx (n d : Nat) : Option Int → Nat
  | none => d
  | some v => if v < 0 then (v + (n : Int)).toNat else min v.toNat n
theorem sIx_le (n d : Nat) (hd : d ≤ n) (o : Option Int) : sIx n d o ≤ n := by
  cases o with
  | none => exact hd
  | some v =>
    show (if v < 0 then (v + (n : Int)).toNat else min v.toNat n) ≤ n
    by_cases hv : v < 0
    · rw [if_pos hv]; omega
    · rw [if_neg hv]; exact Nat.min_le_right _ _
theorem clip_eq (v : Int) (n d : Nat) : (if v < 0 then max (v + (n : Int)) 0 else min v (n : Int)) = ((sIx n d (some v) : Nat) : Int) := by
  show (if v < 0 then max (v + (n : Int)) 0 else min v (n : Int)) = (((if v < 0 then (v + (n : Int)).toNat else min v.toNat n) : Nat) : Int)
  by_cases hv : v < 0
  · simp only [if_pos hv]; omega
  · simp only [if_neg hv]; omega
theorem adjust_gen (lo hi : Option Int) (n : Nat) : Builtin.Slice.sliceAdjust lo hi 1 (n : Int) = (((sIx n 0 lo : Nat) : Int), ((sIx n n hi : Nat) : Int)) := by
  have h1 : ¬ ((1 : Int) < 0) := by omega
  unfold Builtin.Slice.sliceAdjust
  simp only [h1, if_false]
  refine Prod.ext ?_ ?_
  · cases lo with
    | none => rfl
    | some v => exact clip_eq v n 0
  · cases hi with
    | none => rfl
    | some v => exact clip_eq v n n
theorem places_gen (i j : Nat) : Builtin.Slice.slicePlaces (i : Int) (j : Int) 1 = j - i := by
  unfold Builtin.Slice.slicePlaces
  have h1 : (1 : Int) > 0 := by omega
  simp only [h1, if_true, Int.ediv_one]
  split <;> omega
theorem slicePart_ {v : Value} {o : Option Int} {Q : Option Int → Shared → Prop} (p : IsPart v o) (h : Q o s) : wpAny (model prog w) A (Builtin.Slice.slicePartIndex v) Q E s := by
  cases p with
  | none => exact slicePart_none h
  | int i t => exact slicePart_int h
theorem sliceApplied_gen {sl : Addr} {vl vu : Value} {lo hi : Option Int} {n : Nat} {Q : Int × Int × Nat → Shared → Prop} (hs : s.heap.IsSliceOf sl vl vu .none) (pl : IsPart vl lo) (pu : IsPart vu hi)
    (h : Q (((sIx n 0 lo : Nat) : Int), 1, sIx n n hi - sIx n 0 lo) s) : wpAny (model prog w) A (Builtin.Slice.sliceApplied (.ref sl) (pure (n : Int))) Q E s := by
  obtain ⟨os, hos, hcs, hds⟩ := id hs
  unfold Builtin.Slice.sliceApplied Builtin.Slice.sliceFields
  refine wpAny_bind (wpAny_bind (wpAny_field hos hds (x := vl) rfl (wpAny_bind (wpAny_field hos hds (x := vu) rfl (wpAny_bind (wpAny_field hos hds (x := .none) rfl (wpAny_pure ?_)))))))
  refine wpAny_bind (slicePart_none ?_)
  show wpAny _ _ (if ((1 : Int) == 0) = true then _ else _) _ _ s
  rw [if_neg (by decide)]
  refine wpAny_bind (slicePart_ pl (wpAny_bind (slicePart_ pu (wpAny_bind (wpAny_pure ?_)))))
  show wpAny _ _ (match Builtin.Slice.sliceAdjust lo hi 1 (n : Int) with | (lo, hi) => pure (lo, (1 : Int), Builtin.Slice.slicePlaces lo hi 1)) _ _ s
  rw [adjust_gen lo hi n]
  show wpAny _ _ (pure (((sIx n 0 lo : Nat) : Int), (1 : Int), Builtin.Slice.slicePlaces ((sIx n 0 lo : Nat) : Int) ((sIx n n hi : Nat) : Int) 1)) _ _ s
  rw [places_gen]
  exact wpAny_pure h
theorem pick_gen (xs : Array Value) (i k : Nat) : ((List.range k).filterMap fun (m : Nat) => xs[((i : Int) + (m : Int) * 1).toNat]?).toArray = ((xs.toList.drop i).take k).toArray := by
  have e : (fun (m : Nat) => xs[((i : Int) + (m : Int) * 1).toNat]?) = fun m => xs[i + m]? := by
    funext m
    have : ((i : Int) + (m : Int) * 1).toNat = i + m := by omega
    rw [this]
  rw [e]
  have := pick_run xs i k
  rw [List.filterMap_map] at this
  have e2 : ((fun x => xs[x]?) ∘ fun x => i + x) = fun m => xs[i + m]? := rfl
  rw [e2] at this
  rw [this]
theorem getItem_tuple_cut {t sl : Addr} {items : Array Value} {vl vu : Value} {lo hi : Option Int} {Q : Value → Shared → Prop} (ht : IsTup s.heap t items) (hs : s.heap.IsSliceOf sl vl vu .none) (pl : IsPart vl lo) (pu : IsPart vu hi)
    (hw : ¬ (sIx items.size 0 lo = 0 ∧ sIx items.size items.size hi = items.size))
    (h : Q (.ref s.heap.objs.size) { s with heap := s.heap.push { cls := .type "tuple", data := .seq ((items.toList.drop (sIx items.size 0 lo)).take (sIx items.size items.size hi - sIx items.size 0 lo)).toArray } })
    (hsz : items.size ≤ sizeLine) : wpAny (model prog w) A (getItem (.ref t) (.ref sl)) Q E s := by
  have htake : sizeOk (.seq ((items.toList.drop (sIx items.size 0 lo)).take (sIx items.size items.size hi - sIx items.size 0 lo)).toArray) := by
    show ((items.toList.drop (sIx items.size 0 lo)).take (sIx items.size items.size hi - sIx items.size 0 lo)).toArray.size ≤ sizeLine
    rw [List.size_toArray, List.length_take, List.length_drop, Array.length_toList]
    omega
  have hj : sIx items.size items.size hi ≤ items.size := sIx_le _ _ (Nat.le_refl _) hi
  obtain ⟨os, hos, hcs, hds⟩ := id hs
  have hTs : s.TypeIs (.ref sl) "slice" := ⟨os, hos, hcs⟩
  unfold getItem
  try with_reducible refine wpAny_holding ?_
  first | refine wpAny_bind (wpAny_pure ?_) | skip
  refine wpAny_bind (wpAny_sequenceKey ht.typeIs (by decide) ?_)
  refine wpAny_bind (wpAny_callSpecial?_slot (name := Str.ofString "__getitem__") ht.typeIs PyProof.Rows.slot_tuple_getitem
    (wpAny_call_entry PyProof.Rows.slot_tuple_getitem ht.typeIs entry_tuple_getitem ?_ (args_tuple_getitem _ _)))
  show wpAny _ _ (Builtin.Tuple.tupleItemsOf (.ref t) >>= _) _ _ s
  refine wpAny_bind (tupleItemsOf_ ht ?_)
  refine wpAny_bind (wpAny_typeOf hTs ?_)
  rw [if_pos (by decide)]
  refine wpAny_bind (sliceApplied_gen hs pl pu ?_)
  have hno : ¬ ((((sIx items.size 0 lo : Nat) : Int) == 0 && (1 : Int) == 1 && (sIx items.size items.size hi - sIx items.size 0 lo) == items.size) = true) := by
    intro q
    rw [Bool.and_eq_true, Bool.and_eq_true] at q
    have q1 : ((sIx items.size 0 lo : Nat) : Int) = 0 := eq_of_beq q.1.1
    have q2 : sIx items.size items.size hi - sIx items.size 0 lo = items.size := eq_of_beq q.2
    exact hw ⟨by omega, by omega⟩
  show wpAny _ _ (if (((sIx items.size 0 lo : Nat) : Int) == 0 && (1 : Int) == 1 && (sIx items.size items.size hi - sIx items.size 0 lo) == items.size) = true then _ else _) _ _ s
  rw [if_neg hno, pick_gen]
  first
    | exact wpAny_bind (m := Builtin.Tuple.tupleExact _) (wpAny_newObj_type (wpAny_pure ⟨_, rfl, wpAny_pure h⟩) htake)
    | exact wpAny_bind (m := Builtin.Tuple.tupleExact _) (wpAny_newObj_type (wpAny_bind (wpAny_pure (wpAny_pure ⟨_, rfl, wpAny_pure h⟩))) htake)
    | exact wpAny_bind (wpAny_bind (m := Builtin.Tuple.tupleExact _) (wpAny_newObj_type (wpAny_pure (wpAny_pure ⟨_, rfl, wpAny_pure h⟩)) htake))
    | exact wpAny_bind (wpAny_bind (m := Builtin.Tuple.tupleExact _) (wpAny_newObj_type (wpAny_pure ⟨_, rfl, wpAny_pure h⟩) htake))
end
end HT
namespace L2
open PySem PySem.Spec PyProof.Rows
abbrev TO := St → Hp → (Option Int → Hp → Prop) → Prop
def PO (X : Cx) (e : Option Expr) (t : TO) : Prop :=
  ∀ (pins : List (Addr × Obj)) (s : Shared) (σ : St) (H : Hp) (Q : Option Int → Hp → Prop), Inv X pins σ H s → t σ H Q →
    wpAny (model X.prog X.w) X.A (evalPart e X.env) (fun u s' => ∃ o H', Inv X pins σ H' s' ∧ IsPart u o ∧ Q o H') X.xe s
def tNoPart : TO := fun _ H Q => Q none H
def tPart (t : TE) : TO := fun σ H Q => t σ H fun x H1 => ∃ i, x = .int i ∧ Q (some i) H1
section
variable {X : Cx} {e : Expr} {te : TE} {lo hi : Option Expr} {tl th : TO} {pos p2 : Pos}
theorem po_none : PO X none tNoPart := by
  intro pins s σ H Q I h
  rw [evalPart_none]
  exact wpAny_pure ⟨none, H, I, .none, h⟩
theorem po_some (h : PE X e te) : PO X (some e) (tPart te) := by
  intro pins s σ H Q I hw
  rw [evalPart_some]
  refine thn (h pins s σ H _ I hw) fun u s1 ⟨x, H1, I1, r1, q1⟩ => ?_
  obtain ⟨i, rfl, q⟩ := q1
  obtain ⟨t, rfl⟩ := r1
  exact ⟨some i, H1, I1, .int i t, q⟩
def SlR (X : Cx) (r : V → Option Int → Option Int → Hp → VK → Prop) : Prop :=
  ∀ (pins : List (Addr × Obj)) (s : Shared) (σ : St) (H : Hp) (x : V) (v vl vu : Value) (lo hi : Option Int) (sl : Addr) (Q : VK), Inv X pins σ H s → RelV x v → s.heap.IsSliceOf sl vl vu .none → IsPart vl lo → IsPart vu hi → r x lo hi H Q →
    ∃ T id, typeLookup (.type T) "__getitem__" = pure (some (.builtin id)) ∧ s.TypeIs v T ∧ wpAny (model X.prog X.w) X.A (getItem v (.ref sl)) (EP X pins σ Q) X.xe s
theorem SlR.or {r r' : V → Option Int → Option Int → Hp → VK → Prop} (h : SlR X r) (h' : SlR X r') : SlR X (fun x lo hi H Q => r x lo hi H Q ∨ r' x lo hi H Q) := by
  intro pins s σ H x v vl vu lo hi sl Q I rx hs pl pu q
  rcases q with q | q
  · exact h pins s σ H x v vl vu lo hi sl Q I rx hs pl pu q
  · exact h' pins s σ H x v vl vu lo hi sl Q I rx hs pl pu q
def tSl (r : V → Option Int → Option Int → Hp → VK → Prop) (te : TE) (tl th : TO) : TE := fun σ H Q => te σ H fun x H1 => tl σ H1 fun l H2 => th σ H2 fun u H3 => r x l u H3 Q
theorem pe_slice {r : V → Option Int → Option Int → Hp → VK → Prop} (hr : SlR X r) (he : PE X e te) (hl : PO X lo tl) (hu : PO X hi th) : PE X (.Subscript e (.Slice lo hi none p2) pos) (tSl r te tl th) := by
  intro pins s σ H Q I h
  refine Subscript_ (thn (he pins s σ H _ I h) fun v s1 ⟨x, H1, I1, r1, q1⟩ => ?_)
  refine wpAny_Slice (thn (hl pins s1 σ H1 _ I1 q1) fun vl s2 ⟨l, H2, I2, pl, q2⟩ => thn (hu pins s2 σ H2 _ I2 q2) fun vu s3 ⟨u, H3, I3, pu, q3⟩ => ?_)
  rw [evalPart_none]
  refine wpAny_pure ?_
  have I4 : Inv X pins σ H3 { s3 with heap := s3.heap.push { cls := .type "slice", data := .fields #[vl, vu, .none] } } := I3.kept (t' := s3.toks) fun b ob q => Heap.get?_push_of_some _ q
  obtain ⟨T, id, hT, ht, hg⟩ := hr pins { s3 with heap := s3.heap.push { cls := .type "slice", data := .fields #[vl, vu, .none] } } σ H3 x v vl vu l u s3.heap.objs.size Q I4 r1 (Heap.IsSliceOf.new ..) pl pu q3
  show wpAny (model X.prog X.w) X.A (subscriptTail e (.Slice lo hi none p2) v (.ref s3.heap.objs.size)) (EP X pins σ Q) X.xe { s3 with heap := s3.heap.push { cls := .type "slice", data := .fields #[vl, vu, .none] } }
  exact tail_any (ops := [.ref s3.heap.objs.size, v]) ht hT hg (by with_unfolding_all rfl)
def cutV (xs : List V) (lo hi : Option Int) : List V := (xs.drop (HT.sIx xs.length 0 lo)).take (HT.sIx xs.length xs.length hi - HT.sIx xs.length 0 lo)
theorem cutV_length (xs : List V) (lo hi : Option Int) : (cutV xs lo hi).length ≤ xs.length := by
  unfold cutV
  rw [List.length_take, List.length_drop]
  omega
def rSlT (K : PySem.W.Frag) : V → Option Int → Option Int → Hp → VK → Prop := fun x lo hi H Q => ∃ a xs, x = .ref a ∧ SqT K H a xs ∧
  ¬ (HT.sIx xs.length 0 lo = 0 ∧ HT.sIx xs.length xs.length hi = xs.length) ∧ ∀ p, H p = none → Q (.ref p) (upd H p (.tup (cutV xs lo hi)))
theorem sl_tup : SlR X (rSlT X.K) := by
  intro pins s σ H x v vl vu lo hi sl Q I rx hs pl pu h
  obtain ⟨a, xs, rfl, hx, hw, q⟩ := h
  cases rx
  obtain ⟨its, r, ht, hz⟩ := I.tuple hx
  have hlen : its.toArray.size = xs.length := by rw [List.size_toArray]; exact r.length.symm
  refine ⟨"tuple", _, PyProof.Rows.slot_tuple_getitem.lookup, ht.typeIs, ?_⟩
  refine HT.getItem_tuple_cut ht hs pl pu (by rw [hlen]; exact hw) ?_ (by rw [hlen]; exact hz)
  rw [hlen]
  refine ⟨.ref s.heap.objs.size, _, I.laid (t' := s.toks) (o := .tup (cutV xs lo hi)) (fun b ob q => Heap.get?_push_of_some _ q) (Nat.le_refl _) ?_, rfl, q _ (I.hok.fresh (Nat.le_refl _))⟩
  exact ⟨Nat.le_trans (cutV_length xs lo hi) hz, _, (r.drop (HT.sIx xs.length 0 lo)).take (HT.sIx xs.length xs.length hi - HT.sIx xs.length 0 lo), IsTup.new _ _⟩
end
end L2
namespace L2
open PySem PySem.Spec PyProof.Rows
def ixN (n : Nat) (i : Int) : Option Nat := if 0 ≤ i then (if i < n then some i.toNat else none) else if -(n : Int) ≤ i then some (i + n).toNat else none
def atI {α : Type} (xs : List α) (i : Int) : Option α := (ixN xs.length i).bind fun j => xs[j]?
theorem ixN_seq {n : Nat} {i : Int} {j : Nat} (h : ixN n i = some j) : seqIndex? i n = some j ∧ j < n ∧ -(n : Int) ≤ i ∧ i < n := by
  unfold ixN at h
  by_cases h0 : 0 ≤ i
  · rw [if_pos h0] at h
    by_cases h1 : i < n
    · rw [if_pos h1] at h
      have e : i.toNat = j := Option.some.inj h
      exact ⟨by rw [seqIndex_of h0 h1, e], by omega, by omega, h1⟩
    · rw [if_neg h1] at h; cases h
  · rw [if_neg h0] at h
    by_cases h1 : -(n : Int) ≤ i
    · rw [if_pos h1] at h
      have e : (i + n).toNat = j := Option.some.inj h
      exact ⟨by rw [seqIndex_neg (by omega) h1, e], by omega, h1, by omega⟩
    · rw [if_neg h1] at h; cases h
theorem atI_get {α : Type} {xs : List α} {i : Int} {v : α} (h : atI xs i = some v) : ∃ j, seqIndex? i xs.length = some j ∧ xs[j]? = some v ∧ j < xs.length ∧ -(xs.length : Int) ≤ i ∧ i < xs.length := by
  unfold atI at h
  cases e : ixN xs.length i with
  | none => rw [e] at h; cases h
  | some j =>
    rw [e] at h
    obtain ⟨h1, h2, h3, h4⟩ := ixN_seq e
    exact ⟨j, h1, h, h2, h3, h4⟩
theorem atI_nat {α : Type} {xs : List α} {j : Nat} {v : α} (h : xs[j]? = some v) : atI xs (j : Int) = some v := by
  have hj : j < xs.length := (List.getElem?_eq_some_iff.mp h).1
  have e : ixN xs.length (j : Int) = some j := by
    unfold ixN
    rw [if_pos (by omega), if_pos (by omega)]; simp
  unfold atI; rw [e]; exact h
def PlainIx (b : Expr) : Prop := ∀ o i, subscripted b false o i = operate [o, i] (getItem o i)
def IxR (X : Cx) (r : R2) : Prop :=
  ∀ (value slice : Expr) (pins : List (Addr × Obj)) (s : Shared) (σ : St) (H : Hp) (x y : V) (v u : Value) (Q : VK), Inv X pins σ H s → RelV x v → RelV y u → r x y H Q →
    subscripted slice false v u = operate [v, u] (getItem v u) → wpAny (model X.prog X.w) X.A (subscriptTail value slice v u) (EP X pins σ Q) X.xe s
def MtR (X : Cx) (id : String) (r : V → List V → Hp → VK → Prop) : Prop :=
  ∀ (pins : List (Addr × Obj)) (s : Shared) (σ : St) (H : Hp) (x : V) (xs : List V) (v : Value) (us : List Value) (Q : VK), Inv X pins σ H s → RelV x v → Vals xs us → r x xs H Q →
    wpAny (model X.prog X.w) X.A (call (.builtin id) (v :: us)) (EP X pins σ Q) X.xe s
section
variable {X : Cx} {a b : Expr} {ta tb : TE} {pos : Pos}
theorem IxR.or {r r' : R2} (h : IxR X r) (h' : IxR X r') : IxR X (fun x y H Q => r x y H Q ∨ r' x y H Q) := by
  intro value slice pins s σ H x y v u Q I rx ry q hs
  rcases q with q | q
  · exact h value slice pins s σ H x y v u Q I rx ry q hs
  · exact h' value slice pins s σ H x y v u Q I rx ry q hs
theorem MtR.or {id : String} {r r' : V → List V → Hp → VK → Prop} (h : MtR X id r) (h' : MtR X id r') : MtR X id (fun x xs H Q => r x xs H Q ∨ r' x xs H Q) := by
  intro pins s σ H x xs v us Q I rx rs q
  rcases q with q | q
  · exact h pins s σ H x xs v us Q I rx rs q
  · exact h' pins s σ H x xs v us Q I rx rs q
theorem pe_ix {r : R2} (hr : IxR X r) (ha : PE X a ta) (hb : PE X b tb) (hs : PlainIx b) : PE X (.Subscript a b pos) (tOp r ta tb) := by
  intro pins s σ H Q I h
  exact Subscript_ (binT ha hb I h fun v u s2 x y H2 I2 rx ry q => hr a b pins s2 σ H2 x y v u Q I2 rx ry q (hs _ _))
def rIxL (K : PySem.W.Frag) : R2 := fun x y H Q => ∃ p xs i v, x = .ref p ∧ y = .int i ∧ SqL K H p xs ∧ atI xs i = some v ∧ Q v H
def rIxT (K : PySem.W.Frag) : R2 := fun x y H Q => ∃ p xs i v, x = .ref p ∧ y = .int i ∧ SqT K H p xs ∧ atI xs i = some v ∧ Q v H
def rIxS : R2 := fun x y H Q => ∃ z i c, x = .str z ∧ y = .int i ∧ z.length ≤ sizeLine ∧ atI z.cps.toList i = some c ∧ Q (.str ⟨#[c]⟩) H
theorem ix_list : IxR X (rIxL X.K) := by
  intro value slice pins s σ H x y v u Q I rx ry h hs
  obtain ⟨p, xs, i, z, rfl, rfl, hq, he, q⟩ := h
  cases rx
  obtain ⟨t, rfl⟩ := ry
  obtain ⟨its, r, pl, hz⟩ := I.list hq
  obtain ⟨j, h1, h2, h3, h4, h5⟩ := atI_get he
  obtain ⟨w, ew, rw'⟩ := r.get h2
  have hl := r.length
  have hn := line63
  have fin : EP X pins σ Q w s := ⟨z, H, I, rw', q⟩
  by_cases h0 : 0 ≤ i
  · have hj : i.toNat = j := by
      rw [seqIndex_of h0 h5] at h1
      exact Option.some.inj h1
    exact item_listR pl.isList h0 (by omega) (by rw [hj]; simpa using ew) fin hs
  · have hj : (i + (its.toArray.size : Int)).toNat = j := by
      rw [seqIndex_neg (by omega) h4] at h1
      rw [List.size_toArray, ← hl]
      exact Option.some.inj h1
    exact subscriptTail_builtinR (x := w) pl.isList.typeIs slot_list_getitem.lookup
      (wpAny_getItem_list_neg (Q := fun r s' => r = w ∧ EP X pins σ Q r s') pl.isList (by omega) (by rw [List.size_toArray] <;> omega) (by omega) (by rw [hj]; simpa using ew) ⟨rfl, fin⟩) hs
theorem ix_tup : IxR X (rIxT X.K) := by
  intro value slice pins s σ H x y v u Q I rx ry h hs
  obtain ⟨p, xs, i, z, rfl, rfl, hq, he, q⟩ := h
  cases rx
  obtain ⟨t, rfl⟩ := ry
  obtain ⟨its, r, pl, hz⟩ := I.tuple hq
  obtain ⟨j, h1, h2, h3, h4, h5⟩ := atI_get he
  obtain ⟨w, ew, rw'⟩ := r.get h2
  have hl := r.length
  have hn := line63
  have fin : EP X pins σ Q w s := ⟨z, H, I, rw', q⟩
  exact subscriptTail_builtinR (x := w) pl.typeIs slot_tuple_getitem.lookup
    (getItem_tuple (j := j) (Q := fun r s' => r = w ∧ EP X pins σ Q r s') pl (by omega) (by omega) (by rw [List.size_toArray, ← hl]; exact h1) (by simpa using ew) ⟨rfl, fin⟩) hs
theorem ix_str : IxR X rIxS := by
  intro value slice pins s σ H x y v u Q I rx ry h hs
  obtain ⟨z, i, c, rfl, rfl, hz, he, q⟩ := h
  obtain ⟨t, rfl⟩ := rx
  obtain ⟨t', rfl⟩ := ry
  obtain ⟨j, h1, h2, h3, h4, h5⟩ := atI_get he
  have hl : z.cps.toList.length = z.length := by simp [Str.length]
  rw [hl] at h1 h4 h5
  have hn := line63
  exact tail_any (typeIs_str s z t) slot_str_getitem.lookup (getItem_str (c := c) (by
    have e1 : decide (i < -(2 ^ 63 : Int)) = false := decide_eq_false (by omega)
    have e2 : decide (i ≥ 2 ^ 63) = false := decide_eq_false (by omega)
    rw [e1, e2, Bool.or_false]) (by rw [h1]; simpa using h2) ⟨.str ⟨#[c]⟩, H, I.tok _, ⟨_, rfl⟩, q⟩) hs
def rIx (K : PySem.W.Frag) : R2 := fun x y H Q => rIxL K x y H Q ∨ rIxT K x y H Q ∨ rIxS x y H Q
theorem ix_seq : IxR X (rIx X.K) := ix_list.or (ix_tup.or ix_str)
theorem Inv.lst {pins : List (Addr × Obj)} {σ : St} {H : Hp} {s : Shared} {p : Addr} {xs : List V} (I : Inv X pins σ H s) (h : H p = some (.lst xs)) :
    ∃ (its : List Value) (n : Nat), Vals xs its ∧ s.heap.get? p = some { cls := .type "list", data := .seq its.toArray n } ∧ xs.length ≤ sizeLine := by
  obtain ⟨z, its, n, r, e⟩ := I.hok p _ h
  exact ⟨its, n, r, e, z⟩
def rSetL : V → V → V → Hp → (Hp → Prop) → Prop := fun o i v H Q => ∃ p xs k j, o = .ref p ∧ i = .int k ∧ H p = some (.lst xs) ∧ ixN xs.length k = some j ∧ Q (upd H p (.lst (xs.set j v)))
theorem slice_bounds (lo hi : Option Int) (n : Nat) : (sliceBounds lo hi none n).1 = ((HT.sIx n 0 lo : Nat) : Int) ∧ (sliceBounds lo hi none n).2.1 = ((HT.sIx n n hi : Nat) : Int) ∧ (sliceBounds lo hi none n).2.2 = 1 := by
  refine ⟨?_, ?_, rfl⟩
  · cases lo with
    | none => simp [sliceBounds, HT.sIx]
    | some i =>
      simp only [sliceBounds, HT.sIx, Option.getD_none, show (1 : Int) > 0 by decide, if_true]
      by_cases h : i < 0
      · simp only [h, if_true] <;> omega
      · simp only [h, if_false] <;> omega
  · cases hi with
    | none => simp [sliceBounds, HT.sIx]
    | some i =>
      simp only [sliceBounds, HT.sIx, Option.getD_none, show (1 : Int) > 0 by decide, if_true]
      by_cases h : i < 0
      · simp only [h, if_true] <;> omega
      · simp only [h, if_false] <;> omega
theorem slicePick_cut (its : List Value) (lo hi : Option Int) : slicePick its.toArray lo hi none = ((its.drop (HT.sIx its.length 0 lo)).take (HT.sIx its.length its.length hi - HT.sIx its.length 0 lo)).toArray := by
  obtain ⟨h1, h2, h3⟩ := slice_bounds lo hi its.toArray.size
  unfold slicePick
  rw [h1, h2, h3]
  simp only [sliceRange_one, pick_run, List.size_toArray] <;> rfl
def rSlL (K : PySem.W.Frag) : V → Option Int → Option Int → Hp → VK → Prop := fun x lo hi H Q => ∃ a xs, x = .ref a ∧ SqL K H a xs ∧ ∀ p, H p = none → Q (.ref p) (upd H p (.lst (cutV xs lo hi)))
theorem sl_list : SlR X (rSlL X.K) := by
  intro pins s σ H x v vl vu lo hi sl Q I rx hs pl pu h
  obtain ⟨a, xs, rfl, hx, q⟩ := h
  cases rx
  obtain ⟨its, r, ht, hz⟩ := I.list hx
  have hlen := r.length
  refine ⟨"list", _, slot_list_getitem.lookup, ht.isList.typeIs, ?_⟩
  refine wpAny_getItem_list_slice ht.isList hs pl pu .none (by simp) ?_ (by rw [List.size_toArray] <;> omega)
  rw [slicePick_cut, ← hlen]
  refine ⟨.ref s.heap.objs.size, _, I.laid (t' := s.toks) (o := .lst (cutV xs lo hi)) (fun b ob q => Heap.get?_push_of_some _ q) (Nat.le_refl _) ?_, rfl, q _ (I.hok.fresh (Nat.le_refl _))⟩
  exact ⟨Nat.le_trans (cutV_length xs lo hi) hz, _, 0, (r.drop (HT.sIx xs.length 0 lo)).take (HT.sIx xs.length xs.length hi - HT.sIx xs.length 0 lo), Heap.get?_push_size _ rfl⟩
def flatV : V → Bool
  | .non => true
  | .bl _ => true
  | .int _ => true
  | .str _ => true
  | _ => false
def eqV : V → V → Bool
  | .non, .non => true
  | .bl a, .bl b => a == b
  | .bl a, .int b => (if a then 1 else 0) == b
  | .int a, .bl b => a == (if b then 1 else 0)
  | .int a, .int b => a == b
  | .str a, .str b => a == b
  | _, _ => false
theorem eqAt_V {A : Around} {s : Shared} {y x : V} {u v : Value} (ry : RelV y u) (rx : RelV x v) (fy : flatV y = true) (fx : flatV x = true) : SeqAt.EqAt A s u v (eqV y x) := by
  cases y with
  | non =>
    cases ry
    cases x with
    | non => cases rx; exact SeqAt.EqAt.same _
    | bl b => cases rx; exact SeqAt.EqAt.none_bool b
    | int b => obtain ⟨t, rfl⟩ := rx; exact SeqAt.EqAt.none_int b t
    | str b => obtain ⟨t, rfl⟩ := rx; exact SeqAt.EqAt.none_str b t
    | _ => exact absurd (show false = true from fx) Bool.false_ne_true
  | bl a =>
    cases ry
    cases x with
    | non => cases rx; exact SeqAt.EqAt.bool_none a
    | bl b => cases rx; exact SeqAt.EqAt.bool_bool a b
    | int b => obtain ⟨t, rfl⟩ := rx; exact SeqAt.EqAt.bool_int a b t
    | str b => obtain ⟨t, rfl⟩ := rx; exact SeqAt.EqAt.bool_str a b t
    | _ => exact absurd (show false = true from fx) Bool.false_ne_true
  | int a =>
    obtain ⟨t', rfl⟩ := ry
    cases x with
    | non => cases rx; exact SeqAt.EqAt.int_none a t'
    | bl b => cases rx; exact SeqAt.EqAt.int_bool a t' b
    | int b => obtain ⟨t, rfl⟩ := rx; exact SeqAt.EqAt.int_int a t' b t
    | str b => obtain ⟨t, rfl⟩ := rx; exact SeqAt.EqAt.int_str a t' b t
    | _ => exact absurd (show false = true from fx) Bool.false_ne_true
  | str a =>
    obtain ⟨t', rfl⟩ := ry
    cases x with
    | non => cases rx; exact SeqAt.EqAt.str_none a t'
    | bl b => cases rx; exact SeqAt.EqAt.str_bool a t' b
    | int b => obtain ⟨t, rfl⟩ := rx; exact SeqAt.EqAt.str_int a t' b t
    | str b => obtain ⟨t, rfl⟩ := rx; exact SeqAt.EqAt.str_str a t' b t
    | _ => exact absurd (show false = true from fx) Bool.false_ne_true
  | _ => exact absurd (show false = true from fy) Bool.false_ne_true
def eqU (x : V) (u : Value) : Bool := match u with
  | .none => eqV .non x
  | .bool b => eqV (.bl b) x
  | .int i _ => eqV (.int i) x
  | .str z _ => eqV (.str z) x
  | _ => false
theorem eqU_of {x y : V} {u : Value} (r : RelV y u) (f : flatV y = true) : eqU x u = eqV y x := by
  cases y with
  | non => cases r; rfl
  | bl b => cases r; rfl
  | int i => obtain ⟨t, rfl⟩ := r; rfl
  | str z => obtain ⟨t, rfl⟩ := r; rfl
  | _ => exact absurd (show false = true from f) Bool.false_ne_true
theorem any_eqU {x : V} : ∀ {xs : List V} {us : List Value}, Vals xs us → xs.all flatV = true → us.any (eqU x) = xs.any fun y => eqV y x
  | _, _, .nil, _ => rfl
  | y :: xs, u :: us, .cons r t, f => by
    rw [List.all_cons, Bool.and_eq_true] at f
    rw [List.any_cons, List.any_cons, eqU_of r f.1, any_eqU t f.2]
theorem mem_eqAt {A : Around} {s : Shared} {x : V} {v : Value} (rx : RelV x v) (fx : flatV x = true) : ∀ {xs : List V} {us : List Value}, Vals xs us → xs.all flatV = true → ∀ u ∈ us, SeqAt.EqAt A s u v (eqU x u)
  | _, _, .nil, _ => fun u hu => by cases hu
  | y :: xs, u :: us, .cons r t, f => fun u' hu => by
    rw [List.all_cons, Bool.and_eq_true] at f
    rcases List.mem_cons.mp hu with rfl | hu
    · rw [eqU_of r f.1]; exact eqAt_V r rx f.1 fx
    · exact mem_eqAt rx fx t f.2 u' hu
def inV (x : V) (xs : List V) : Bool := xs.any fun y => eqV y x
def rIn (K : PySem.W.Frag) (neg : Bool) : R2 := fun x y H Q => ∃ p xs, y = .ref p ∧ (SqL K H p xs ∨ SqT K H p xs) ∧ flatV x = true ∧ xs.all flatV = true ∧ Q (.bl (if neg then !inV x xs else inV x xs)) H
theorem op_in_seq : OpR X (compareOp .In) (rIn X.K false) := by
  intro pins s σ H x y v u Q I rx ry h
  obtain ⟨p, xs, rfl, hq, fx, fs, q⟩ := h
  cases ry
  rcases hq with hq | hq
  · obtain ⟨its, r, pl, hz⟩ := I.list hq
    refine SeqAt.in_listAt (eqU x) pl.isList (fun w hw => mem_eqAt rx fx r fs w (by simpa using hw)) ⟨.bl _, H, I, rfl, ?_⟩
    rw [show its.toArray.any (eqU x) = its.any (eqU x) by simp, any_eqU r fs]
    exact q
  · obtain ⟨its, r, pl, hz⟩ := I.tuple hq
    refine SeqAt.in_tupleAt (eqU x) pl (fun w hw => mem_eqAt rx fx r fs w (by simpa using hw)) ⟨.bl _, H, I, rfl, ?_⟩
    rw [show its.toArray.any (eqU x) = its.any (eqU x) by simp, any_eqU r fs]
    exact q
theorem call_len_seq : CallR X (.builtin "len") (fun xs H Q => ∃ p ys, xs = [.ref p] ∧ (SqL X.K H p ys ∨ SqT X.K H p ys) ∧ Q (.int ys.length) H) := by
  intro pins s σ H xs us Q I r h
  obtain ⟨p, ys, rfl, hq, q⟩ := h
  obtain ⟨u, rfl, rx⟩ := vals1 r
  cases rx
  have hn := line63
  rcases hq with hq | hq
  · obtain ⟨its, r', pl, hz⟩ := I.list hq
    have hlen := r'.length
    exact Calls.call_len_list pl.isList (by simp only [List.size_toArray] <;> omega) ⟨.int ys.length, H, I.tok _, ⟨s.toks + 1, by rw [List.size_toArray, hlen]⟩, q⟩
  · obtain ⟨its, r', pl, hz⟩ := I.tuple hq
    have hlen := r'.length
    exact len_tuple pl (by simp only [List.size_toArray] <;> omega) ⟨.int ys.length, H, I.tok _, ⟨s.toks + 1, by rw [List.size_toArray, hlen]⟩, q⟩
theorem call_len_str : CallR X (.builtin "len") (fun xs H Q => ∃ z, xs = [.str z] ∧ z.length ≤ sizeLine ∧ Q (.int z.length) H) := by
  intro pins s σ H xs us Q I r h
  obtain ⟨z, rfl, hz, q⟩ := h
  obtain ⟨u, rfl, t, rfl⟩ := vals1 r
  have hn := line63
  exact len_str (by omega) ⟨.int z.length, H, I.tok _, ⟨_, rfl⟩, q⟩
theorem CallR.or {f : Value} {r r' : List V → Hp → VK → Prop} (h : CallR X f r) (h' : CallR X f r') : CallR X f (fun xs H Q => r xs H Q ∨ r' xs H Q) := by
  intro pins s σ H xs us Q I rs q
  rcases q with q | q
  · exact h pins s σ H xs us Q I rs q
  · exact h' pins s σ H xs us Q I rs q
theorem call_list_of : CallR X (.type "list") (fun xs H Q => ∃ p ys, xs = [.ref p] ∧ (SqL X.K H p ys ∨ SqT X.K H p ys) ∧ ∀ l, H l = none → Q (.ref l) (upd H l (.lst ys))) := by
  intro pins s σ H xs us Q I r h
  obtain ⟨p, ys, rfl, hq, q⟩ := h
  obtain ⟨u, rfl, rx⟩ := vals1 r
  cases rx
  have fin : ∀ (its : List Value), Vals ys its → ys.length ≤ sizeLine → ∀ (h' : Heap) (c' : Nat), (∀ b o', s.heap.get? b = some o' → h'.get? b = some o') →
      h'.get? s.heap.objs.size = some { cls := .type "list", dict := none, data := .seq its.toArray c', slots := #[] } → EP X pins σ Q (.ref s.heap.objs.size) { s with heap := h' } := fun its r' hz h' c' kp e =>
    ⟨.ref s.heap.objs.size, _, I.laid (t' := s.toks) kp (Nat.le_refl _) (show ObjOk X.prog X.w _ h' _ (.lst ys) from ⟨hz, its, c', r', e⟩), rfl, q _ (I.hok.fresh (Nat.le_refl _))⟩
  rcases hq with hq | hq
  · obtain ⟨its, r', pl, hz⟩ := I.list hq
    have hlen := r'.length
    obtain ⟨o, ho, hc, n, hd⟩ := pl.isList
    exact call_list_seq p (.inl rfl) ho hc hd (fun h' c' kp e => fin its r' hz h' c' kp e) (by simp only [List.size_toArray] <;> omega)
  · obtain ⟨its, r', pl, hz⟩ := I.tuple hq
    have hlen := r'.length
    obtain ⟨o, ho, hc, n, hd⟩ := pl
    exact call_list_seq p (.inr rfl) ho hc hd (fun h' c' kp e => fin its r' hz h' c' kp e) (by simp only [List.size_toArray] <;> omega)
def tyV (K : PySem.W.Frag) (T : String) (x : V) (H : Hp) : Prop := match x with
  | .str _ => T = "str"
  | .int _ => T = "int"
  | .ref p => (T = "list" ∧ ∃ xs, SqL K H p xs) ∨ (T = "tuple" ∧ ∃ o, K.lookup p = some o ∧ o.cls = .type "tuple" ∧ o.dict = none) ∨
      (T = "dict" ∧ ((∃ kvs, H p = some (.dK kvs)) ∨ ∃ kvs, H p = some (.dT kvs))) ∨ (T = "set" ∧ ∃ S n, H p = some (.set S n))
  | _ => False
theorem tyV_is {pins : List (Addr × Obj)} {σ : St} {H : Hp} {s : Shared} {T : String} {x : V} {v : Value} (I : Inv X pins σ H s) (r : RelV x v) (ty : tyV X.K T x H) :
    s.TypeIs v T ∧ ∀ a, v = .ref a → ∃ ob, s.heap.get? a = some ob ∧ ob.dict = none := by
  cases x with
  | str z =>
    obtain ⟨t, rfl⟩ := r
    cases (show T = "str" from ty)
    exact ⟨typeIs_str s z t, fun _ e => nomatch e⟩
  | int i =>
    obtain ⟨t, rfl⟩ := r
    cases (show T = "int" from ty)
    exact ⟨typeIs_int s i t, fun _ e => nomatch e⟩
  | ref p =>
    cases r
    rcases ty with ⟨rfl, xs, hq⟩ | ⟨rfl, o, hk, hc, hd⟩ | ⟨rfl, hk⟩ | ⟨rfl, S, n, hk⟩
    · obtain ⟨its, _, pl, _⟩ := I.list hq
      refine ⟨pl.isList.typeIs, fun a e => ?_⟩
      cases e
      obtain ⟨o, n, e, c, hd, _⟩ := pl
      exact ⟨o, e, hd⟩
    · refine ⟨⟨o, I.kIn p o hk, hc⟩, fun a e => ?_⟩
      cases e
      exact ⟨o, I.kIn _ o hk, hd⟩
    · have z : ∃ o, s.heap.get? p = some o ∧ o.ExactDict := by
        rcases hk with ⟨kvs, hk⟩ | ⟨kvs, hk⟩
        · obtain ⟨_, _, _, _, o, _, _, e, ex, _⟩ := I.hok p _ hk
          exact ⟨o, e, ex⟩
        · obtain ⟨_, _, _, _, o, _, _, e, ex, _⟩ := I.hok p _ hk
          exact ⟨o, e, ex⟩
      obtain ⟨o, e, ex⟩ := z
      refine ⟨⟨o, e, ex.1⟩, fun a e2 => ?_⟩
      cases e2
      exact ⟨o, e, ex.2.1⟩
    · obtain ⟨o, _, _, _, e, ex, _⟩ := I.hok p _ hk
      refine ⟨⟨o, e, ex.1⟩, fun a e2 => ?_⟩
      cases e2
      exact ⟨o, e, ex.2.1⟩
  | _ => exact False.elim ty
def tBM0 (K : PySem.W.Frag) (T : String) (r : V → List V → Hp → VK → Prop) (to : TE) : TE := fun σ H Q => to σ H fun x H1 => tyV K T x H1 ∧ r x [] H1 Q
def tBM (K : PySem.W.Frag) (T : String) (r : V → List V → Hp → VK → Prop) (to : TE) (t : TA) : TE := fun σ H Q => to σ H fun x H1 => tyV K T x H1 ∧ t σ H1 fun xs H2 => r x xs H2 Q
variable {o e : Expr} {es : List Expr} {to : TE} {t : TA} {name : Str} {apos cpos : Pos} {T id : String} {r : V → List V → Hp → VK → Prop}
theorem pe_bm0 (pa : PlainAttrs T) (slot : Slot T name id) (hty : typeOf (.builtin id) = pure (.type "method_descriptor")) (hm : MtR X id r) (ho : PE X o to)
    (hbase : attributeBase o name X.env (eval o X.env) = eval o X.env := by rfl) (hline : (apos.endLine == cpos.line) = true := by rfl) : PE X (.Call (.Attribute o name apos) [] [] cpos) (tBM0 X.K T r to) := by
  intro pins s σ H Q I h
  refine wpAny_Call_method0_late hbase hline (thn (ho pins s σ H _ I h) fun v s1 ⟨x, H1, I1, r1, ty, q1⟩ => ?_)
  obtain ⟨h1, h2⟩ := tyV_is I1 r1 ty
  exact ⟨T, id, pa, slot, hty, h1, h2, Calls.callWith_builtin rfl (PySem.evalArgs_none (hm pins s1 σ H1 x [] v [] Q I1 r1 .nil q1))⟩
theorem pe_bm (pa : PlainAttrs T) (slot : Slot T name id) (hty : typeOf (.builtin id) = pure (.type "method_descriptor")) (hm : MtR X id r) (ho : PE X o to) (ha : PA X (e :: es) t)
    (hbase : attributeBase o name X.env (eval o X.env) = eval o X.env := by rfl)
    (hfew : ((backTo cpos (starEach (e :: es) X.env)).all (fun x => !x.1) && (backToKw cpos (keywordEach [] X.env)).all (fun x => x.1.isSome)
      && decide ((e :: es).length + ([] : List Keyword).length + (if ([] : List Keyword).isEmpty then 0 else 1) < 30)) = true := by rfl)
    (hline : (apos.endLine == cpos.line) = true := by rfl) (hs : starEach (e :: es) X.env = (false, eval e X.env) :: starEach es X.env := by rfl) (hplain : (backTo cpos (starEach es X.env)).any (·.1) = false := by rfl) :
    PE X (.Call (.Attribute o name apos) (e :: es) [] cpos) (tBM X.K T r to t) := by
  intro pins s σ H Q I h
  refine wpAny_Call_method_late hbase hfew hline rfl (thn (ho pins s σ H _ I h) fun v s1 ⟨x, H1, I1, r1, ty, q1⟩ => ?_)
  obtain ⟨h1, h2⟩ := tyV_is I1 r1 ty
  refine ⟨T, id, pa, slot, hty, h1, h2, ?_⟩
  have hA := ha cpos pins s1 σ H1 _ I1 q1
  rw [hs] at hA ⊢
  refine Calls.callWith_builtin (by show (false || (backTo cpos (starEach es X.env)).any (·.1)) = false; rw [hplain] <;> rfl) (Calls.evalArgs_plain ?_)
  exact thn hA fun us s2 ⟨vs, H2, I2, r2, q2⟩ => hm pins s2 σ H2 x vs v us Q I2 r1 r2 q2
end
end L2
namespace L2
open PySem PySem.Spec PyProof.Rows
def MtM (X : Cx) (id : String) (r : V → List V → Hp → VK → Prop) : Prop :=
  ∀ (pins : List (Addr × Obj)) (s : Shared) (σ : St) (H : Hp) (x : V) (xs : List V) (v : Value) (us : List Value) (Q : VK), Inv X pins σ H s → RelV x v → Vals xs us → r x xs H Q →
    wpAny (model X.prog X.w) X.A (call (.builtin id) (v :: us)) (EP X pins σ Q) X.xe s
theorem Vals.one : ∀ {x : V} {us : List Value}, Vals [x] us → ∃ u, us = [u] ∧ RelV x u
  | _, _, .cons r .nil => ⟨_, rfl, r⟩
theorem Vals.zero : ∀ {us : List Value}, Vals [] us → us = []
  | _, .nil => rfl
theorem Vals.dropLast {xs : List V} {us : List Value} (h : Vals xs us) : Vals xs.dropLast us.dropLast := by
  induction h with
  | nil => exact .nil
  | cons r t ih =>
    cases t with
    | nil => exact .nil
    | cons q t' => exact .cons r ih
theorem Vals.eraseIdx : ∀ {xs : List V} {us : List Value} (i : Nat), Vals xs us → Vals (xs.eraseIdx i) (us.eraseIdx i)
  | _, _, _, .nil => .nil
  | _, _, 0, .cons _ t => t
  | _, _, i + 1, .cons r t => .cons r (Vals.eraseIdx i t)
theorem Vals.reverse {xs : List V} {us : List Value} (h : Vals xs us) : Vals xs.reverse us.reverse := by
  induction h with
  | nil => exact .nil
  | cons r t ih => rw [List.reverse_cons, List.reverse_cons]; exact Vals.append ih (.cons r .nil)
theorem Vals.rep {xs : List V} {us : List Value} (h : Vals xs us) : ∀ k : Nat, Vals (List.replicate k xs).flatten (List.replicate k us).flatten
  | 0 => .nil
  | k + 1 => by
    rw [List.replicate_succ, List.replicate_succ, List.flatten_cons, List.flatten_cons]
    exact Vals.append h (Vals.rep h k)
theorem erase_last {α : Type} (l : List α) : l.eraseIdx (l.length - 1) = l.dropLast := by
  induction l with
  | nil => rfl
  | cons a r ih =>
    cases r with
    | nil => rfl
    | cons b r =>
      have e : (a :: b :: r).length - 1 = ((b :: r).length - 1) + 1 := by
        have h1 : (a :: b :: r).length = r.length + 2 := rfl
        have h2 : (b :: r).length = r.length + 1 := rfl
        omega
      rw [e, List.eraseIdx_cons_succ, ih]
      all_goals rfl
theorem foldl_rep (its : List Value) : ∀ (k : Nat) (acc : List Value),
    List.foldl (fun x1 x2 => x1 ++ x2) acc.toArray (List.replicate k its.toArray) = (acc ++ (List.replicate k its).flatten).toArray
  | 0, acc => by simp
  | k + 1, acc => by
    have e : acc.toArray ++ its.toArray = (acc ++ its).toArray := by simp
    have e2 : (acc ++ its) ++ (List.replicate k its).flatten = acc ++ (List.replicate (k + 1) its).flatten := by
      rw [List.replicate_succ, List.flatten_cons, List.append_assoc]
    rw [← e2, ← foldl_rep its k (acc ++ its), ← e, List.replicate_succ, List.foldl_cons]
section
variable {X : Cx} {pins : List (Addr × Obj)} {σ : St} {H : Hp} {s : Shared} {l b : Addr} {xs ys zs : List V}
theorem Inv.lset {its its' : List Value} {n : Nat} {f : Array Value → Array Value} {t' : Nat} (I : Inv X pins σ H s) (hH : H l = some (.lst xs))
    (e : s.heap.get? l = some { cls := .type "list", data := .seq its.toArray n }) (hf : f its.toArray = its'.toArray) (hv : Vals ys its') (hz : ys.length ≤ sizeLine) :
    Inv X pins σ (upd H l (.lst ys)) { s with heap := s.heap.update l (Obj.mapSeq f), toks := t' } := by
  have q := PySem.IsL.update e f
  rw [hf] at q
  refine I.write (x := l) (e := l) (by rw [hH]; exact trivial) (.inl rfl) (fun b' u hb hu => (Heap.get?_update_other s.heap (Obj.mapSeq f) (Ne.symm hb)).trans hu) ⟨_, q⟩ ?_
  exact ⟨hz, its', _, hv, q⟩
theorem Inv.lnew {its : List Value} {t' : Nat} (I : Inv X pins σ H s) (hv : Vals ys its) (hz : ys.length ≤ sizeLine) :
    Inv X pins σ (upd H s.heap.objs.size (.lst ys)) { s with heap := s.heap.push { cls := .type "list", data := .seq its.toArray }, toks := t' } :=
  I.laid (fun _ _ q => Heap.get?_push_of_some _ q) (Nat.le_refl _) ⟨hz, its, 0, hv, Heap.get?_push_size _ rfl⟩
theorem Inv.fresh (I : Inv X pins σ H s) : H s.heap.objs.size = none := I.hok.fresh (Nat.le_refl _)
theorem Inv.lstM (I : Inv X pins σ H s) (hH : H l = some (.lst xs)) : xs.length ≤ sizeLine ∧ ∃ (its : List Value) (n : Nat), Vals xs its ∧ xs.length = its.length ∧ s.heap.get? l = some { cls := .type "list", data := .seq its.toArray n } := by
  obtain ⟨z, its, n, r, e⟩ := I.hok l _ hH
  exact ⟨z, its, n, r, r.length, e⟩
theorem notLongL {n : Nat} (h : n ≤ sizeLine) : Builtin.List.listTooLong n = false := by
  unfold Builtin.List.listTooLong
  exact decide_eq_false (by omega)
end
section
variable {X : Cx}
def rAppend : V → List V → Hp → VK → Prop := fun x vs H Q => ∃ l xs y, x = .ref l ∧ vs = [y] ∧ H l = some (.lst xs) ∧ xs.length < sizeLine ∧ Q .non (upd H l (.lst (xs ++ [y])))
theorem mt_append : MtM X "list.append" rAppend := by
  intro pins s σ H x vs v us Q I rx rv h
  obtain ⟨l, xs, y, rfl, rfl, hH, hz, q⟩ := h
  cases rx
  obtain ⟨u, rfl, ru⟩ := rv.one
  obtain ⟨z, its, n, r, hl, e⟩ := I.lstM hH
  refine call_meets F.slot_list_append ⟨_, e, rfl⟩ F.entry_list_append (F.args_list_append_2 _ _) (PySem.list_append l its.toArray n u (by rw [List.size_toArray]; omega)) ⟨e, ?_⟩
  refine ⟨.non, _, I.lset (its' := its ++ [u]) hH e (by simp) (r.append (.cons ru .nil)) ?_, rfl, q⟩
  rw [List.length_append, List.length_singleton]
  omega
def rPop : V → List V → Hp → VK → Prop := fun x vs H Q => ∃ l xs y, x = .ref l ∧ vs = [] ∧ H l = some (.lst xs) ∧ xs[xs.length - 1]? = some y ∧ Q y (upd H l (.lst xs.dropLast))
theorem mt_pop : MtM X "list.pop" rPop := by
  intro pins s σ H x vs v us Q I rx rv h
  obtain ⟨l, xs, y, rfl, rfl, hH, hy, q⟩ := h
  cases rx
  have hus := rv.zero
  subst hus
  obtain ⟨z, its, n, r, hl, e⟩ := I.lstM hH
  obtain ⟨u, hu, ru⟩ := r.get hy
  have hy' : its.toArray[its.toArray.size - 1]? = some u := by
    show its.toArray[its.length - 1]? = some u
    rw [← Array.getElem?_toList, ← hl]
    exact hu
  refine call_meets F.slot_list_pop ⟨_, e, rfl⟩ F.entry_list_pop (F.args_list_pop_1 _) (MeetsSeq.list_pop_last l its.toArray n u hy' (by rw [List.size_toArray]; omega)) ⟨e, ?_⟩
  refine ⟨y, _, I.lset (its' := its.dropLast) hH e ?_ r.dropLast ?_, ru, q⟩
  · show its.toArray.eraseIdxIfInBounds (its.toArray.size - 1) = its.dropLast.toArray
    rw [List.size_toArray, List.eraseIdxIfInBounds_toArray, erase_last]
  · rw [List.length_dropLast]
    omega
def rCat : R2 := fun x y H Q => ∃ l b xs zs, x = .ref l ∧ y = .ref b ∧ H l = some (.lst xs) ∧ H b = some (.lst zs) ∧ xs.length + zs.length ≤ sizeLine ∧ ∀ p, H p = none → Q (.ref p) (upd H p (.lst (xs ++ zs)))
theorem op_cat : OpR X (binaryOp .Add) rCat := by
  intro pins s σ H x y v u Q I rx ry h
  obtain ⟨l, b, xs, zs, rfl, rfl, hH, hB, hz, q⟩ := h
  cases rx
  cases ry
  obtain ⟨z, its, n, r, hl, e⟩ := I.lstM hH
  obtain ⟨z2, its2, n2, r2, hl2, e2⟩ := I.lstM hB
  refine PySem.P.add_list e e2 ?_ (by rw [List.size_toArray, List.size_toArray]; omega)
  have ea : its.toArray ++ its2.toArray = (its ++ its2).toArray := by simp
  rw [ea]
  exact ⟨.ref _, _, I.lnew (t' := s.toks) (r.append r2) (by rw [List.length_append]; omega), rfl, q _ I.fresh⟩
def rRep : R2 := fun x y H Q => ∃ l k xs, x = .ref l ∧ y = .int k ∧ H l = some (.lst xs) ∧ -(2 ^ 63) ≤ k ∧ k < 2 ^ 63 ∧ xs.length * k.toNat ≤ sizeLine ∧
  ∀ p, H p = none → Q (.ref p) (upd H p (.lst (List.replicate k.toNat xs).flatten))
theorem len_rep {α : Type} (xs : List α) (k : Nat) : (List.replicate k xs).flatten.length = k * xs.length := by
  induction k with
  | zero => simp
  | succ k ih => rw [List.replicate_succ, List.flatten_cons, List.length_append, ih, Nat.succ_mul, Nat.add_comm]
theorem op_rep : OpR X (binaryOp .Mult) rRep := by
  intro pins s σ H x y v u Q I rx ry h
  obtain ⟨l, k, xs, rfl, rfl, hH, h1, h2, hz, q⟩ := h
  cases rx
  obtain ⟨t, rfl⟩ := ry
  obtain ⟨z, its, n, r, hl, e⟩ := I.lstM hH
  have hlen : its.toArray.size * k.toNat ≤ sizeLine := by rw [List.size_toArray, ← hl]; exact hz
  have hcap : ¬ its.toArray.size * k.toNat > (2 ^ 63 - 1) / 8 := by
    have : (sizeLine : Nat) ≤ (2 ^ 63 - 1) / 8 := by decide
    omega
  have hfit : ¬ (!Builtin.List.listFitsIndex k) = true := by
    rw [fitsIndex_both h1 h2]
    exact Bool.false_ne_true
  have hlong : ¬ Builtin.List.listTooLong (its.toArray.size * k.toNat) = true := by
    rw [notLongL hlen]
    exact Bool.false_ne_true
  have hnew : List.foldl (fun x1 x2 => x1 ++ x2) #[] (List.replicate (if its.toArray.isEmpty = true then 0 else k.toNat) its.toArray) = (List.replicate k.toNat its).flatten.toArray := by
    have f0 : ∀ m : Nat, List.foldl (fun x1 x2 => x1 ++ x2) #[] (List.replicate m its.toArray) = (List.replicate m its).flatten.toArray := fun m => by
      have := foldl_rep its m []
      rw [List.nil_append] at this
      exact this
    rw [f0]
    cases its with
    | nil => simp
    | cons a r' => rw [if_neg (by simp)]
  refine wpAny_binaryOp_repeat_ref (T := "list") (U := "int") (by decide) ⟨_, e, rfl⟩ (fun s' => typeIs_int s' k t) noFill_list_mul F.fills_int_mul F.slot_int_rmul repeat_list F.slot_int_index.lookup
    (call_meets F.slot_int_rmul (typeIs_int s k t) F.entry_int_rmul (F.args_int_rmul_2 _ _) (int___rmul___int_list k t l its.toArray n)
      ⟨e, rfl, ⟨_, e, rfl⟩, call_meets F.slot_list_mul ⟨_, e, rfl⟩ F.entry_list_mul (F.args_list_mul_2 _ _) (AutoListH.list___mul___list_int_3 l its.toArray n k t hfit hcap hlong) ⟨e, ?_⟩⟩)
  rw [hnew]
  exact ⟨.ref _, _, I.lnew (t' := s.toks) (r.rep k.toNat) (by rw [len_rep, Nat.mul_comm]; exact hz), rfl, q _ I.fresh⟩
end
section
variable {prog : Program} {w : World} {A : Around} {E : Value → Shared → Prop} {s : Shared}
end
section
variable {X : Cx}
end
end L2
namespace Att
open PySem PySem.W PySem.Calls PyProof.Rows
theorem ints_of_wellAll {P : Params} {h : Heap} : ∀ (ns : List Int) (vs : List Value), WellAll P h vs (ns.map WData.int) → IntsAre vs ns := by
  intro ns
  induction ns with
  | nil =>
    intro vs w
    rw [List.map_nil] at w
    cases w
    exact .nil
  | cons n ns ih =>
    intro vs w
    rw [List.map_cons] at w
    cases w with
    | cons a b =>
      cases a
      exact .cons _ _ (ih _ b)
theorem script_of {l : OpenLaw} {n : Nat} (hn : l.most = some n) {P : Params} {h : Heap} {args : List WData} {vals : List Value}
    (hpre : l.row.toRowW.claim.pre args = true) (hwl : WellAll P h vals args) :
    ∃ a vs ns, vals = [Value.ref a] ∧ args = [WData.list (ns.map WData.int)] ∧ h.get? a = some { cls := .type "list", data := .seq vs.toArray } ∧ IntsAre vs ns ∧ ns.length ≤ n := by
  have hsh : WShape.hasAll [] args [.list .int] = true := (pre_splitW hpre).1
  have hc : l.pre.holds [] { args := args } = true := (pre_splitW hpre).2
  obtain ⟨d, r, rfl, h1, h2⟩ := hasAllW_cons hsh
  obtain rfl := hasAllW_nil h2
  obtain ⟨xs, rfl, h3⟩ := hasW_list h1
  obtain ⟨ns, rfl⟩ := items_int h3
  have hlen : ns.length ≤ n := by
    unfold OpenLaw.pre at hc
    have h4 : (WTm.not (.lt (.lit (.int (n : Int))) (.len (.arg 0)))).holds [] { args := [.list (ns.map .int)] } = true := by
      have h4 := (holds_andW hc).1
      rw [hn] at h4
      exact h4
    have h5 := condW_of h4 (w_not (w_lt w_lit (w_len_list (w_arg rfl))))
    rw [List.length_map] at h5
    refine Nat.le_of_not_lt fun q => ?_
    have q' : (n : Int) < ((ns.length : Nat) : Int) := by omega
    first
      | (rw [decide_eq_true q'] at h5; exact absurd h5 (by decide))
      | (simp at h5; omega)
  cases hwl with
  | cons w1 w2 =>
    cases w2
    cases w1 with
    | list ho hall => exact ⟨_, _, ns, rfl, rfl, ho, ints_of_wellAll ns _ hall, hlen⟩
theorem post_true (l : OpenLaw) (args : List WData) : l.row.toRowW.claim.post args (.bool true) args = true :=
  postW_of (r := l.row.toRowW) (X := (true == true))
    (show WShape.has [] (.bool true) .bool = true by first | rfl | decide | simp [WShape.has, WShape.arms, WShape.armsAll])
    (show (WTm.eq .res (.lit (.bool true))).value [] { args := args, res := some (.bool true), after := args } = some (.bool (true == true)) from w_eq_bool (w_res rfl) w_lit) rfl
theorem attach_call {l : OpenLaw} {n : Nat} {q : Program} {loose : List Str} {XP : (Str → Option Value) → Heap → Prop} {YP : World → Heap → Prop} {d : DefRec}
    (hn : l.most = some n) (hdf : d.params.defaults = [])
    (call : ∀ (w : World) (s₀ s₁ : Shared) (mg mb : Str → Option Value) (fa : Addr) (o : Obj) (pm cd doc : Value) (a : Addr) (vs : List Value) (ns : List Int),
      Ground q loose [] XP w s₀ mg mb s₁.heap → YP w s₁.heap →
      s₁.heap.get? fa = some o → o.data = .func (docDef d.name d.params d.body d.scope pm cd doc) → s₁.heap.CodeRec cd d.name → mg d.name = some (.ref fa) →
      s₁.heap.get? a = some { cls := .type "list", data := .seq vs.toArray } → IntsAre vs ns → ns.length ≤ n → s₁.gens = #[] →
      codeAny (model l.prog w) callerA (.call (.ref fa) ⟨[.ref a], []⟩) (fun r s' => r = .ok (.ret (.bool true)) ∧ OldK s₁.heap s'.heap ∧ s'.os = s₁.os ∧ AllBare s'.gens) s₁) :
    WalkO q loose XP YP l.row.toRowW d [] (fun f vs => PySem.call f vs) := by
  intro w s₀ s₁ mg mb G Y fa o pm cd doc dV kV ho hd hcd hD hmg hg args vals as hpre hlay hrd hwl hlo
  obtain rfl : dV = .none := Dflts.none hD hdf
  obtain rfl : kV = .none := Dflts.noKw hD
  obtain ⟨a, vs, ns, rfl, rfl, hobj, hints, hlen⟩ := script_of hn hpre hwl
  refine enter_call (codeAny_mono (call w s₀ s₁ mg mb fa o pm cd doc a vs ns G Y ho (fd_plain hd) hcd hmg hobj hints hlen hg) fun r s' hq => ?_)
  obtain ⟨rfl, h2, h3, h4⟩ := hq
  exact ⟨.inl ⟨.bool true, .bool true, [], rfl, fun _ => rfl, .bool true, post_true l _, fun _ => ⟨List.Pairwise.nil, fun _ hm => (nomatch hm)⟩⟩, h2, h3, h4⟩
section
variable {prog : Program} {w : World} {A : Around} {E : Value → Shared → Prop} {s : Shared} {K : Frag}
end
end Att
namespace L2
open PySem PySem.Spec PyProof.Rows
theorem vals_ints : ∀ {vs : List Value} {ns : List Int}, IntsAre vs ns → Vals (ns.map V.int) vs
  | _, _, .nil => .nil
  | _, _, .cons n t h => .cons ⟨t, rfl⟩ (vals_ints h)
def Only (H : Hp) : Prop := ∀ b, H b = none ∨ ∃ o xs, H b = some (.frz o (.lst xs))
theorem law_call {P : Program} {w : World} {K : PySem.W.Frag} {mg mb : Str → Option Value} {CX : CXT} {k : Nat} {fa a : Addr} {fd : FuncData} {x : Str} {sp : Sp} {s₁ : Shared} {vs : List Value} {ns : List Int}
    (KX : K.In s₁.heap) (hns : s₁.heap.Ns mainGlobals mg) (hb : s₁.heap.Ns builtinsNs mb) (hbb : ∀ x : Str, x ≠ "__name__" → mb x = bootBuiltins x) (hlim : s₁.heap.NoLimit) (hg : s₁.gens = #[])
    (ha : s₁.heap.get? a = some { cls := .type "list", data := .seq vs.toArray }) (hi : IntsAre vs ns) (hl : ns.length ≤ sizeLine) (hr : Room k callerA)
    (F : ∀ base : Heap, K.In base → base.Ns mainGlobals mg → FnOk P w K mg base CX k fa fd [x] sp) (hbind : ∀ (s : Shared) (u : Value), BindsTo s fd ⟨[u], []⟩ [(x, u)])
    (hsp : ∀ H : Hp, Only H → SqL K H a (ns.map V.int) → sp [.ref a] H (fun v _ => v = .bl true) fun _ _ _ => False)
    (hCX : ∀ H e s', CX [] H s₁ (fun _ _ _ => False) e s' → False) :
    codeAny (model P w) callerA (.call (.ref fa) ⟨[.ref a], []⟩) (fun r s' => r = .ok (.ret (.bool true)) ∧ OldK s₁.heap s'.heap ∧ s'.os = s₁.os ∧ AllBare s'.gens) s₁ := by
  have rv := vals_ints hi
  have lenV := hi.length
  -- from an abstract heap in which nothing but the script may be tracked
  have core : ∀ H : Hp, Only H → SqL K H a (ns.map V.int) → HOk P w H s₁.heap → (∀ b, H b ≠ none → b = a) → (H a ≠ none → K.lookup a = none) →
      codeAny (model P w) callerA (.call (.ref fa) ⟨[.ref a], []⟩) (fun r s' => r = .ok (.ret (.bool true)) ∧ OldK s₁.heap s'.heap ∧ s'.os = s₁.os ∧ AllBare s'.gens) s₁ := by
    intro H hO hS hok hA hK
    have base_of : ∀ {b : Addr} {o : Obj}, s₁.heap.get? b = some o → H b = none → (hidT s₁.heap H).get? b = some o := fun e n => hidT_get e n
    have noA : ∀ {b : Addr} {o : Obj} {es : Array DictEntry} {ep : Nat}, s₁.heap.get? b = some o → o.data = .dict es ep → H b = none := fun {b o es ep} e d => by
      cases q : H b with
      | none => rfl
      | some u =>
        have e' : b = a := hA b (by rw [q]; simp)
        subst e'
        rw [ha] at e; cases e
        have d' : Data.seq vs.toArray _ = Data.dict es ep := d
        cases d'
    have nsK : ∀ {b : Addr} {m : Str → Option Value}, s₁.heap.Ns b m → (hidT s₁.heap H).Ns b m := fun {b m} ⟨o, es, ep, e, d, r⟩ => ⟨o, es, ep, base_of e (noA e d), d, r⟩
    have hKb : K.In (hidT s₁.heap H) := fun b o e => base_of (KX b o e) (by
      cases q : H b with
      | none => rfl
      | some u =>
        have e' : b = a := hA b (by rw [q]; simp)
        subst e'
        rw [hK (by rw [q]; simp)] at e; cases e)
    have hM : Mod K mg (hidT s₁.heap H) := ⟨hKb, nsK hns, ⟨mb, nsK hb, hbb⟩, let ⟨mc, h1, h2⟩ := hlim; ⟨mc, nsK h1, h2⟩⟩
    have e0 : Env0 P w K mg (hidT s₁.heap H) callerA [] s₁ H := ⟨rfl, hM, fun b o e => of_hidT e, Nat.le_of_eq (hidT_size _ _), trivial, fun b hb => absurd (show b ∈ ([] : List Addr) from hb) (by simp), hok, .of_eq hg⟩
    refine codeAny_mono ((F _ hKb (nsK hns)).run callerA [] s₁ H ⟨[.ref a], []⟩ [.ref a] [.ref a] _ _ hr e0 (hbind s₁ (.ref a)) (.cons rfl .nil) (hsp H hO hS)) fun r s' h => ?_
    cases r with
    | error e => exact (hCX H e s' h).elim
    | ok fl =>
      cases fl with
      | next => exact False.elim h
      | brk => exact False.elim h
      | cont => exact False.elim h
      | ret u =>
        obtain ⟨v, H', os, bare, un, hok', r', q⟩ := h
        have q' : v = .bl true := q
        subst q'
        obtain rfl : u = Value.bool true := r'
        refine ⟨rfl, OldK.of_keep fun b o e => ?_, os, bare⟩
        cases q : H b with
        | none => exact un.keep b o e q (by intro z; exact absurd (show b ∈ ([] : List Addr) from z) (by simp)) (by simp)
        | some u =>
          rcases hO b with z | ⟨ob, xs, z⟩
          · rw [q] at z; cases z
          · have z2 := un.frzs b ob _ z
            obtain ⟨e1, _⟩ := hok b _ z
            obtain ⟨e2, _⟩ := hok' b _ z2
            rw [e] at e1; cases e1
            exact e2
  cases hk : K.lookup a with
  | some o =>
    -- the script is one of the module's own objects
    have e := KX a o hk
    rw [ha] at e
    cases e
    refine core (fun _ => none) (fun _ => .inl rfl) (.inr ⟨_, vs.toArray, _, hk, rfl, rfl, rfl, by rw [List.size_toArray, lenV]; exact hl, by simpa using rv⟩) (fun b u z => by have z' : (none : Option HO) = some u := z; cases z') (fun b z => absurd rfl z) fun z => absurd rfl z
  | none =>
    refine core (fun b => if b = a then some (.frz { cls := .type "list", data := .seq vs.toArray } (.lst (ns.map V.int))) else none) (fun b => ?_) (.inl (.inr ⟨{ cls := .type "list", data := .seq vs.toArray }, if_pos rfl⟩)) (fun b u z => ?_) (fun b z => ?_) fun _ => hk
    · by_cases hb : b = a
      · exact .inr ⟨_, _, if_pos hb⟩
      · exact .inl (if_neg hb)
    · by_cases hb : b = a
      · have z' := (if_pos hb).symm.trans z
        cases z'
        subst hb
        exact ⟨ha, by rw [List.length_map]; exact hl, vs, _, rv, ha⟩
      · have z' := (if_neg hb).symm.trans z
        cases z'
    · by_cases hb : b = a
      · exact hb
      · exact absurd (if_neg hb) z
end L2
namespace L2
open PySem PySem.Spec PyProof.Rows
theorem walk_of {l : PySem.W.OpenLaw} {n k : Nat} {q : Program} {loose : List Str} {XP : (Str → Option Value) → Heap → Prop} {YP : World → Heap → Prop} {d : DefRec} {K : Params → PySem.W.Frag} {CX : World → CXT} {sp : World → Sp} {x : Str}
    (hn : l.most = some n) (hn2 : n ≤ sizeLine) (hdf : d.params.defaults = []) (hr : Room k callerA)
    (hY : ∀ (w : World) (h : Heap), YP w h → (K w.params).In h)
    (F : ∀ (w : World) (mg : Str → Option Value) (fa : Addr) (h : Heap), (K w.params).In h → h.Ns mainGlobals mg → mg d.name = some (.ref fa) →
      ∃ fd : FuncData, (∀ (s : Shared) (u : Value), BindsTo s fd ⟨[u], []⟩ [(x, u)]) ∧
        ∀ base : Heap, (K w.params).In base → base.Ns mainGlobals mg → FnOk l.prog w (K w.params) mg base (CX w) k fa fd [x] (sp w))
    (hsp : ∀ (w : World) (H : Hp) (a : Addr) (ns : List Int), ns.length ≤ n → Only H → SqL (K w.params) H a (ns.map V.int) → sp w [.ref a] H (fun v _ => v = .bl true) fun _ _ _ => False)
    (hCX : ∀ (w : World) (H : Hp) (s : Shared) (e : Value) (s' : Shared), CX w [] H s (fun _ _ _ => False) e s' → False) :
    PySem.W.WalkO q loose XP YP l.row.toRowW d [] (fun f vs => PySem.call f vs) := by
  refine Att.attach_call hn hdf fun w s₀ s₁ mg mb fa o pm cd doc a vs ns G Y ho hd hcd hmg hobj hints hlen hg => ?_
  have KX := hY w _ Y
  obtain ⟨fd, hb, hF⟩ := F w mg fa _ KX G.T.g hmg
  exact law_call KX G.T.g G.T.b G.T.builtins G.T.nolimit hg hobj hints (Nat.le_trans hlen hn2) hr hF hb (fun H hO hS => hsp w H a ns hlen hO hS) fun H e s' => hCX w H s₁ e s'
end L2
namespace L2
open PySem PySem.Spec PyProof.Rows
def inClass (s : Stmt) (j : Nat) : Stmt := match s with
  | .ClassDef _ _ _ body _ _ _ _ _ _ _ => body.getD j (.Pass ⟨0, 0, 0, 0⟩)
  | _ => .Pass ⟨0, 0, 0, 0⟩
def defArgs (s : Stmt) : Arguments := match s with
  | .FunctionDef _ a _ _ _ _ _ _ _ _ => a
  | _ => { posonlyargs := [], args := [], vararg := none, kwonlyargs := [], kw_defaults := [], kwarg := none, defaults := [] }
def defBody (s : Stmt) : List Stmt := match s with
  | .FunctionDef _ _ b _ _ _ _ _ _ _ => b
  | _ => []
def defScope (s : Stmt) : Scope := match s with
  | .FunctionDef _ _ _ _ _ _ sc _ _ _ => sc
  | _ => { kind := .function, names := [], isGenerator := false, isCoroutine := false }
abbrev CX0 : CXT := fun _ _ _ _ _ _ => False
abbrev E0 : XK := fun _ _ _ => False
theorem pass0 {X : Cx} : Passes CX0 X E0 := fun _ _ _ _ _ _ _ h => h.elim
structure Fun (K : PySem.W.Frag) (x qual : Str) (st : Stmt) (f : Addr) (fd : FuncData) : Prop where
  ex : ∃ (oc : Value) (od : Option Addr) (kV doc pm : Value) (an : Option Addr) (cdv ct : Value) (osl : Array (Option Value)),
    fd = PySem.W.fnOf x qual (defArgs st) (defBody st) (defScope st) .none kV doc pm an cdv ct ∧ K.lookup f = some ⟨oc, od, .func fd, osl⟩ ∧ PySem.W.codeIn K cdv qual = true
  kp : PySem.W.keepIn K (.ref f) = true
section
variable {P : Program} {w : World} {K : PySem.W.Frag} {mg : Str → Option Value} {base : Heap}
theorem Fun.ok {x qual : Str} {st : Stmt} {f : Addr} {fd : FuncData} {N ps : List Str} {k : Nat} {sp : Sp} (F : Fun K x qual st f fd) (S : FnScope N ps (defScope st)) (len : ∀ vs H Q E, sp vs H Q E → vs.length = ps.length)
    (hbody : ∀ (cdv : Value) (A : Around) (outer : List Env) (s : Shared) (H : Hp) (vs : List V) (Q : VK) (E : XK), Room k (A.deeper (envOfC qual (defScope st) s.heap.objs.size f cdv)) → sp vs H Q E →
      ∃ t, PSs (cxOf CX0 P w K mg base N qual (defScope st) f cdv A outer s H E).nox (defBody st) t ∧ t { nx := fun _ H' => Q .non H', rt := Q } (start N vs) H) : FnOk P w K mg base CX0 (k + 1) f fd ps sp := by
  obtain ⟨oc, od, kV, doc, pm, an, cdv, ct, osl, rfl, lk, hcd⟩ := F.ex
  refine fn_of lk hcd S len fun A outer s H vs Q E hr hsp => ?_
  obtain ⟨t, h, q⟩ := hbody cdv A outer s H vs Q E hr hsp
  exact ⟨t, h.nox, q⟩
theorem Fun.binds {x qual : Str} {st : Stmt} {f : Addr} {fd : FuncData} {ps : List Str} (F : Fun K x qual st f fd)
    (h : ∀ (kV doc pm : Value) (an : Option Addr) (cdv ct : Value) (us : List Value), us.length = ps.length → bindArgs (PySem.W.fnOf x qual (defArgs st) (defBody st) (defScope st) .none kV doc pm an cdv ct) ⟨us, []⟩ = pure (ps.zip us)) : Binds K fd ps [] := by
  obtain ⟨oc, od, kV, doc, pm, an, cdv, ct, osl, rfl, lk, hcd⟩ := F.ex
  exact .all (h kV doc pm an cdv ct)
theorem fun_mk {x qual : Str} {st : Stmt} {f : Addr} {oc : Value} {od an : Option Addr} {osl : Array (Option Value)} {kV doc pm cdv ct : Value} (l : K.lookup f = some ⟨oc, od, .func (PySem.W.fnOf x qual (defArgs st) (defBody st) (defScope st) .none kV doc pm an cdv ct), osl⟩)
    (c : PySem.W.codeIn K cdv qual = true) (k : PySem.W.keepIn K (.ref f) = true) : Fun K x qual st f (PySem.W.fnOf x qual (defArgs st) (defBody st) (defScope st) .none kV doc pm an cdv ct) := ⟨⟨oc, od, kV, doc, pm, an, cdv, ct, osl, rfl, l, c⟩, k⟩
end
theorem small1000 {n : Nat} (h : n ≤ 1000) : n < sizeLine := Nat.lt_of_le_of_lt h (by decide)
section
variable {X : Cx}
theorem pv (i : Nat) {x : Str} {pos : Pos} (hN : X.N[i]? = some x := by rfl) (hv : Vis X.env.scope x := by first | exact Or.inl rfl | exact Or.inr (Or.inl rfl) | exact Or.inr (Or.inr rfl)) (hd : (x == ("__debug__" : Str)) = false := by decide)
    (hcd : (x == ("__classdict__" : Str)) = false := by decide) : PE X (.Name x pos) (tVar i) := pe_var hN hv hd hcd
end
theorem ite2 {c A B : Prop} [Decidable c] (h1 : c → A) (h2 : ¬ c → B) : if c then A else B := by
  by_cases h : c
  · rw [if_pos h]
    exact h1 h
  · rw [if_neg h]
    exact h2 h
def Same (H H' : Hp) : Prop := ∀ b o, H b = some o → H' b = some o
theorem Same.refl (H : Hp) : Same H H := fun _ _ h => h
theorem Same.trans {H H1 H2 : Hp} (a : Same H H1) (b : Same H1 H2) : Same H H2 := fun c o h => b c o (a c o h)
theorem Same.free {H H' : Hp} (e : Same H H') {l : Addr} (h : H' l = Option.none) : H l = Option.none := by
  cases q : H l with
  | none => rfl
  | some o =>
    rw [e l o q] at h
    cases h
theorem Same.seq {K : PySem.W.Frag} {H H' : Hp} {a : Addr} {xs : List V} (e : Same H H') (h : SqL K H a xs) : SqL K H' a xs := by
  rcases h with (h | ⟨o, h⟩) | h
  · exact .inl (.inl (e _ _ h))
  · exact .inl (.inr ⟨o, e _ _ h⟩)
  · exact .inr h
end L2
set_option Elab.async false
set_option linter.all false
set_option maxRecDepth 100000
namespace L2
open PySem PySem.Spec PyProof.Rows
def clGo (cells : List (Str × Addr)) : List (Str × NameKind) → List (Str × Addr) → List (Str × Addr)
  | [], cs => cs
  | (n, k) :: r, cs => clGo cells r (if k == .free then (n, (cells.lookup n).getD 0) :: cs else cs)
def clOf (scope : Scope) (env : Env) : List (Str × Addr) := clGo env.cells scope.names []
theorem clGo_eq {env : Env} : ∀ (names : List (Str × NameKind)) (cs : List (Str × Addr)), (∀ y ∈ names, y.2 = .free → ∃ c, env.cells.lookup y.1 = some c) →
    (forIn names cs fun (x : Str × NameKind) (r : List (Str × Addr)) => (match x with
      | (name, kind) => if (kind == NameKind.free) = true then do let a ← cellOf env name; pure (ForInStep.yield ((name, a) :: r)) else pure (ForInStep.yield r) : Sem (ForInStep (List (Str × Addr))))) = (pure (clGo env.cells names cs) : Sem _)
  | [], cs, _ => rfl
  | (n, k) :: r, cs, h => by
    have hr := fun cs' => clGo_eq (env := env) r cs' fun y hy => h y (List.mem_cons_of_mem _ hy)
    rw [List.forIn_cons]
    by_cases hk : (k == NameKind.free) = true
    · obtain ⟨c, hc⟩ := h (n, k) List.mem_cons_self (by simpa using hk)
      have e1 : cellOf env n = pure c := by unfold cellOf; rw [hc]
      simp only [hk, if_true, e1, pure_bind]
      rw [hr]
      unfold clGo
      rw [if_pos hk, hc]
      conv => rhs; unfold clGo
      rfl
    · simp only [hk, if_false, pure_bind, Bool.false_eq_true]
      rw [hr]
      conv => rhs; unfold clGo
      rw [if_neg hk]
theorem closure_of {scope : Scope} {env : Env} (h : ∀ y ∈ scope.names, y.2 = .free → ∃ c, env.cells.lookup y.1 = some c) : closureFor scope env = pure (clOf scope env) := by
  unfold closureFor clOf
  rw [← clGo_eq scope.names [] h]
  simp
theorem clGo_lookup {cells : List (Str × Addr)} {x : Str} {c : Addr} : ∀ (names : List (Str × NameKind)) (cs : List (Str × Addr)), (∀ y ∈ names, y.2 = .free → ∃ d, cells.lookup y.1 = some d) → (∀ d, cs.lookup x = some d → cells.lookup x = some d) →
    (clGo cells names cs).lookup x = some c → cells.lookup x = some c
  | [], cs, _, hc, h => hc c h
  | (n, k) :: r, cs, hn, hc, h => by
    unfold clGo at h
    refine clGo_lookup r _ (fun y hy => hn y (List.mem_cons_of_mem _ hy)) ?_ h
    intro d hd
    by_cases hk : (k == NameKind.free) = true
    · rw [if_pos hk] at hd
      obtain ⟨e, he⟩ := hn (n, k) List.mem_cons_self (by simpa using hk)
      simp only at he
      rw [List.lookup_cons] at hd
      cases hx : x == n with
      | true =>
        have : x = n := by simpa using hx
        subst this
        rw [hx] at hd
        simp only [Option.some.injEq] at hd
        rw [he] at hd ⊢
        simp at hd
        rw [hd]
      | false =>
        rw [hx] at hd
        exact hc d hd
    · rw [if_neg hk] at hd
      exact hc d hd
theorem clGo_has {cells : List (Str × Addr)} {x : Str} : ∀ (names : List (Str × NameKind)) (cs : List (Str × Addr)), ((x, NameKind.free) ∈ names ∨ ∃ d, cs.lookup x = some d) → ∃ d, (clGo cells names cs).lookup x = some d
  | [], cs, h => by
    rcases h with h | h
    · cases h
    · exact h
  | (n, k) :: r, cs, h => by
    unfold clGo
    refine clGo_has r _ ?_
    rcases h with h | ⟨d, h⟩
    · rcases List.mem_cons.mp h with e | h
      · cases e
        exact .inr ⟨_, by rw [if_pos (by rfl), List.lookup_cons, beq_self_eq_true]⟩
      · exact .inl h
    · refine .inr ?_
      split
      · rw [List.lookup_cons]
        cases hx : x == n with
        | true => exact ⟨_, rfl⟩
        | false => exact ⟨d, h⟩
      · exact ⟨d, h⟩
theorem mem_relabel {scope : Scope} {env : Env} {x : Str} {k : NameKind} (h : (relabel scope env).names.lookup x = some k) (hk : k = .cell ∨ k = .free) (hc : ∀ y ∈ scope.names, y.2 ≠ .cell) : (x, NameKind.free) ∈ scope.names := by
  have hm := PySem.mem_of_lookup h
  unfold relabel at hm
  obtain ⟨⟨n, k'⟩, hy, e⟩ := List.mem_map.mp hm
  by_cases q : (k' == NameKind.free && env.scope.kind == .function && env.kindOf n == some .cell) = true
  · simp only [q, if_true] at e
    cases e
    have : k' = .free := by
      simp only [Bool.and_eq_true, beq_iff_eq] at q
      exact q.1.1
    subst this
    exact hy
  · simp only [q, if_false, Bool.false_eq_true] at e
    cases e
    rcases hk with rfl | rfl
    · exact absurd rfl (hc _ hy)
    · exact hy
def lift (ix : List (Option Nat)) (σ : St) : St := ix.map fun o => match o with
  | none => none
  | some i => match σ[i]? with
    | some v => v
    | none => none
structure CompScope (X : Cx) (scope : Scope) (N : List Str) (ix : List (Option Nat)) : Prop where
  kind : scope.kind = .function
  nocell : ∀ y ∈ scope.names, y.2 ≠ .cell
  locs : ∀ y ∈ scope.names, y.2 = .local → scope.names.lookup y.1 = some .local
  free : ∀ y ∈ scope.names, y.2 = .free → X.env.kindOf y.1 = some .cell ∨ X.env.kindOf y.1 = some .free
  len : ix.length = N.length
  nd : N.Nodup
  from' : ∀ j i : Nat, ix[j]? = some (some i) → ∃ x, N[j]? = some x ∧ X.N[i]? = some x ∧ (X.env.kindOf x = some .cell ∨ X.env.kindOf x = some .free) ∧ ((relabel scope X.env).names.lookup x = some .cell ∨ (relabel scope X.env).names.lookup x = some .free)
def compCx (X : Cx) (scope : Scope) (N : List Str) (s₀ : Shared) (H₀ : Hp) (C : Addr) (ex : List Addr) : Cx where
  prog := X.prog
  w := X.w
  K := X.K
  mg := X.mg
  base := X.base
  A := X.A
  N := N
  s₀ := s₀
  H₀ := H₀
  env := compEnvC scope (clOf scope X.env) C X.env
  outer := X.stack
  stack := X.stack
  ex := ex
  fn := fun _ => false
  calm := X.calm
  pn := []
  xe := fun _ _ => False
section
variable {X : Cx} {pins : List (Addr × Obj)} {σ : St} {H : Hp} {s : Shared} {scope : Scope} {N : List Str} {ix : List (Option Nat)}
theorem CompScope.cells (S : CompScope X scope N ix) (I : Inv X pins σ H s) : ∀ y ∈ scope.names, y.2 = .free → ∃ c, X.env.cells.lookup y.1 = some c := fun y hy hk => I.ok.has y.1 (S.free y hy hk)
theorem CompScope.sub (S : CompScope X scope N ix) (I : Inv X pins σ H s) {x : Str} {c : Addr} (h : (clOf scope X.env).lookup x = some c) : X.env.cells.lookup x = some c :=
  clGo_lookup scope.names [] (S.cells I) (fun d h => by simp at h) h
theorem CompScope.start (S : CompScope X scope N ix) (I : Inv X pins σ H s) {fp : List Addr} {C D : Addr} {h' : Heap} {tk : Nat} (hf : ∀ b ∈ fp, FpOk X pins H b) (hfo : ∀ b ∈ fp, ∃ o, s.heap.get? b = some o) (hD : D = s.heap.objs.size) (hC : s.heap.objs.size < C)
    (k : ∀ b o, s.heap.get? b = some o → h'.get? b = some o) (hn : h'.Ns C fun _ => none) : Inv (compCx X scope N s H C (D :: fp)) [] (lift ix σ) H { s with heap := h', toks := tk } := by
  have ltC : ∀ x c, X.env.cells.lookup x = some c → c < s.heap.objs.size := fun x c e => let ⟨v, q⟩ := I.cell x c e; q.lt
  refine ⟨⟨I.ok.mod, S.kind, I.ok.glob, I.ok.blt, Nat.le_of_lt hC, fun x y c h1 h2 => I.ok.inj x y c (S.sub I h1) (S.sub I h2), fun x hx => ?_, fun x c z => ?_, I.ok.hd, I.ok.frames, .inl rfl, fun b hb => ?_, I.bs, Nat.le_trans I.ok.bsz I.sz, fun b o e hb => ?_, fun b hb hb' => ?_, I.stack, I.stkFree⟩,
    rfl, I.bare, Un.kept k, ⟨_, hn, fun j x v e1 e2 e3 => ?_⟩, fun x c e => ?_, I.hok.fresh (Nat.le_of_lt hC), fun x c e => I.freeC x c (S.sub I e), fun p hp => absurd (show p ∈ ([] : List (Addr × Obj)) from hp) (by simp), I.hok.kept k, ?_⟩
  · have hx : (relabel scope X.env).names.lookup x = some .cell ∨ (relabel scope X.env).names.lookup x = some .free := hx
    have hm : (x, NameKind.free) ∈ scope.names := by
      rcases hx with h | h
      · exact mem_relabel h (.inl rfl) S.nocell
      · exact mem_relabel h (.inr rfl) S.nocell
    exact clGo_has _ _ (.inl hm)
  · cases z
  · rcases List.mem_cons.mp hb with e | hb
    · subst e
      subst hD
      exact ⟨Nat.ne_of_lt hC, fun x c e z => absurd (ltC x c (S.sub I e)) (by rw [z]; exact Nat.lt_irrefl _)⟩
    · obtain ⟨o, e⟩ := hfo b hb
      exact ⟨Nat.ne_of_lt (Nat.lt_trans (Heap.lt_size e) hC), fun x c e => (hf b hb).2.2.2.2.1 x c (S.sub I e)⟩
  · have lb := Nat.lt_of_lt_of_le (Heap.lt_size e) I.ok.bsz
    rcases List.mem_cons.mp hb with z | hb
    · subst z
      subst hD
      exact absurd (Nat.lt_of_lt_of_le lb I.sz) (Nat.lt_irrefl _)
    · rcases (hf b hb).2.2.2.1 with z | z
      · exact I.ok.noex b o e z
      · exact absurd (Nat.lt_of_lt_of_le lb z) (Nat.lt_irrefl _)
  · have hs := I.stkSub b hb'
    rcases List.mem_cons.mp hb with z | hb
    · subst z
      subst hD
      rcases List.mem_cons.mp hs with z | z
      · exact absurd I.lt (by rw [← z]; exact Nat.lt_irrefl _)
      · exact I.nofs (Nat.le_refl _) z
    · rcases List.mem_cons.mp hs with z | z
      · exact (hf b hb).2.1 z
      · exact (hf b hb).2.2.1 z
  · unfold lift at e2
    rw [List.getElem?_map] at e2
    cases q : ix[j]? with
    | none => rw [q] at e2; cases e2
    | some o =>
      rw [q] at e2
      cases o with
      | none => cases e2
      | some i =>
        obtain ⟨y, f1, f2, f3, f4⟩ := S.from' j i q
        have e1' : N[j]? = some x := e1
        rw [f1] at e1'
        cases e1'
        simp only [Option.map_some, Option.some.injEq] at e2
        cases q2 : σ[i]? with
        | none => rw [q2] at e2; cases e2
        | some w =>
          rw [q2] at e2
          simp only at e2
          subst e2
          obtain ⟨m, hm, hl⟩ := I.loc
          have vis : Vis X.env.scope x := by
            rcases f3 with z | z
            · exact .inr (.inl z)
            · exact .inr (.inr z)
          obtain ⟨u, r, l⟩ := hl i x v f2 q2 vis
          refine ⟨u, r, .inr ⟨f4, ?_⟩⟩
          rcases l with ⟨l1, _⟩ | ⟨_, c, hc, hcell⟩
          · rw [l1] at f3
            rcases f3 with z | z <;> cases z
          · have hmf : (x, NameKind.free) ∈ scope.names := by
              rcases f4 with h | h
              · exact mem_relabel h (.inl rfl) S.nocell
              · exact mem_relabel h (.inr rfl) S.nocell
            obtain ⟨d, hd⟩ := clGo_has (cells := X.env.cells) scope.names [] (.inl hmf)
            have hd' := S.sub I hd
            rw [hc] at hd'
            cases hd'
            refine ⟨c, hd, ?_⟩
            obtain ⟨o, ho, hod⟩ := hcell
            exact ⟨o, k _ _ ho, hod⟩
  · obtain ⟨v, o, ho, hod⟩ := I.cell x c (S.sub I e)
    exact ⟨v, o, k _ _ ho, hod⟩
  · show (lift ix σ).length = N.length
    unfold lift
    rw [List.length_map, S.len]
end
end L2
set_option Elab.async false
set_option linter.all false
set_option maxRecDepth 100000
namespace L2
open PySem PySem.Spec PyProof.Rows
theorem codeAny_compLoop_own {prog : Program} {w : World} {A : Around} {R : Result → Shared → Prop} {s : Shared} {elt target iter : Expr} {ifs : List Expr} {scope : Scope} {pos : Pos} {it acc : Value} {env : Env} (I : Nat → Shared → Prop)
    (turn : ∀ n s, I n s → wpAny (model prog w) A (pyNext it) (fun r s₁ => match r with
      | none => R (.ok .next) s₁
      | some v => wpAny (model prog w) A (letOwnedTupleGo target it v) (fun _ s₁' => wpAny (model prog w) A (assign target env v) (fun _ s₂ =>
          wpAny (model prog w) A (forIn ifs true fun c r => if r = true then do let ok ← isTrue c env (eval c env); pure (ForInStep.yield ok) else pure (ForInStep.yield r)) (fun ok s₃ =>
            if ok = true then wpAny (model prog w) A (eval elt env) (fun x s₄ =>
              wpAny (model prog w) A (call (.builtin "list.append") [acc, x]) (fun _ s₅ => ∃ m, m < n ∧ I m s₅) (fun _ _ => False) s₄) (fun _ _ => False) s₃
            else ∃ m, m < n ∧ I m s₃) (fun _ _ => False) s₂) (fun _ _ => False) s₁') (fun _ _ => False) s₁) (fun _ _ => False) s)
    (n : Nat) (h : I n s) :
    codeAny (model prog w) A (.compLoop (.ListComp elt [⟨target, iter, ifs, 0⟩] scope pos) 0 it acc env) R s := by
  refine codeAny_loop rfl I (fun n s hI => ?_) n h
  show wpAny _ A ((compTurn (.ListComp elt [⟨target, iter, ifs, 0⟩] scope pos) 0 it acc env).onRaise (fun x => do noteFrame x env; theTreesLotGoes x)) _ _ s
  refine wpAny_noted ?_
  rw [compTurn_list]
  refine wpAny_bind (wpAny_standAt (wpAny_bind (wpAny_mono (turn n s hI) (fun r s₁ h₁ => ?_) fun _ _ h' => h'.elim)))
  cases r with
  | none => exact wpAny_pure h₁
  | some v =>
    refine wpAny_bind (wpAny_mono h₁ (fun _ s₁' h₁' => ?_) fun _ _ h' => h'.elim)
    refine wpAny_bind (wpAny_mono h₁' (fun _ s₂ h₂ => wpAny_bind (wpAny_mono h₂ (fun ok s₃ h₃ => ?_) fun _ _ h' => h'.elim)) fun _ _ h' => h'.elim)
    cases ok with
    | false => exact wpAny_pure ⟨rfl, h₃⟩
    | true =>
      exact wpAny_bind (wpAny_bind (wpAny_mono h₃ (fun x s₄ h₄ => wpAny_bind (wpAny_mono h₄ (fun _ s₅ h₅ => wpAny_pure (wpAny_pure ⟨rfl, h₅⟩)) fun _ _ h' => h'.elim)) fun _ _ h' => h'.elim))
def PIfs (X : Cx) (ifs : List Expr) (t : TT) : Prop :=
  ∀ (pins : List (Addr × Obj)) (s : Shared) (σ : St) (H : Hp) (Q : Bool → Hp → Prop), Inv X pins σ H s → t σ H Q →
    wpAny (model X.prog X.w) X.A (forIn ifs true fun c r => if r = true then do let ok ← isTrue c X.env (eval c X.env); pure (ForInStep.yield ok) else pure (ForInStep.yield r)) (TP X pins σ Q) X.xe s
def tYes : TT := fun _ H Q => Q true H
theorem pifs_nil {X : Cx} : PIfs X [] tYes := fun _ _ _ H _ I h => wpAny_tests_nil ⟨H, I, h⟩
def Ext (σ σ' : St) : Prop := σ.length = σ'.length ∧ ∀ (i : Nat) (v : V), σ[i]? = some (some v) → σ'[i]? = some (some v)
theorem Ext.refl (σ : St) : Ext σ σ := ⟨rfl, fun _ _ h => h⟩
theorem Ext.set {σ σ' : St} {j : Nat} {v : V} (e : Ext σ σ') (h : σ[j]? = some none) : Ext σ (σ'.set j (some v)) := by
  refine ⟨by rw [List.length_set]; exact e.1, fun i u q => ?_⟩
  have hne : j ≠ i := fun z => by subst z; rw [h] at q; cases q
  rw [List.getElem?_set_ne hne]
  exact e.2 i u q
theorem lift_none {ix : List (Option Nat)} {σ : St} {j : Nat} (h : ix[j]? = some none) : (lift ix σ)[j]? = some none := by
  unfold lift
  rw [List.getElem?_map, h]
  rfl
def GFree (ix : List (Option Nat)) (g : TG) : Prop := ∀ (v : V) (σ : St) (H : Hp) (Q : St → Hp → Prop), g v (lift ix σ) H Q → g v (lift ix σ) H fun σ2 H2 => Q σ2 H2 ∧ Ext (lift ix σ) σ2
theorem gfree_name {ix : List (Option Nat)} {j : Nat} (h : ix[j]? = some none) : GFree ix (gName j) := fun v σ H Q q => ⟨q, (Ext.refl _).set (lift_none h)⟩
theorem gfree_two {ix : List (Option Nat)} {j k : Nat} {K : PySem.W.Frag} {n : Nat} (h : ix[j]? = some none) (h' : ix[k]? = some none) : GFree ix (gTup K n (gCons (gName j) (gCons (gName k) gNil))) := fun v σ H Q q => by
  obtain ⟨a, xs, e1, e2, e3, v1, r1, e4, v2, r2, e5, e6, q⟩ := q
  exact ⟨a, xs, e1, e2, e3, v1, r1, e4, v2, r2, e5, e6, q, ((Ext.refl _).set (lift_none h)).set (lift_none h')⟩
def tComp (ix : List (Option Nat)) (wi : TI) (g : TG) (tc : TT) (te : TE) : TE := fun σ H Q => wi σ H fun J H1 => ∃ W : Nat → Nat → List V → Hp → Prop, (∃ m, W 0 m [] H1) ∧ ∀ i m ys H, W i m ys H →
  (J.stop i H ∧ ys.length ≤ sizeLine ∧ ∀ p, H p = none → Q (.ref p) (upd H p (.lst ys))) ∨
  (J.go i H ∧ ys.length < sizeLine ∧ ∃ N : List V → Hp → Prop, (∀ ys' H', N ys' H' → ∃ m', m' < m ∧ W (i + 1) m' ys' H') ∧ ∀ x H', J.yld i H x H' → g x (lift ix σ) H' fun σ2 H2 => tc σ2 H2 fun b H3 => if b = true then te σ2 H3 fun v H4 => N (ys ++ [v]) H4 else N ys H3)
theorem comp_end {X : Cx} {pins pins' : List (Addr × Obj)} {σ σ' : St} {H2 H' : Hp} {s2 s4 : Shared} {scope : Scope} {N : List Str} {C D : Addr} {fp : List Addr} {h' : Heap} {ys : List V} {its : List Value} {n : Nat}
    (I2 : Inv X pins σ H2 s2) (I' : Inv (compCx X scope N s2 H2 C (D :: fp)) pins' σ' H' s4) (f2 : ∀ b ∈ fp, FpOk X pins H2 b) (hD : D = s2.heap.objs.size) (hC : s2.heap.objs.size < C) (hDC : D ≠ C)
    (hs : Heap.SameBut C s4.heap h') (eD : s4.heap.get? D = some { cls := .type "list", data := .seq its.toArray n }) (fD : H' D = none) (rv : Vals ys its) (hz : ys.length ≤ sizeLine) :
    Inv X pins σ (upd H' D (.lst ys)) { s4 with heap := h' } := by
  have lt : ∀ b o, s2.heap.get? b = some o → b ≠ D ∧ b ≠ C := fun b o e =>
    ⟨by rw [hD]; exact Nat.ne_of_lt (Heap.lt_size e), Nat.ne_of_lt (Nat.lt_trans (Heap.lt_size e) hC)⟩
  have nex : ∀ b o, s2.heap.get? b = some o → b ∉ fp → b ∉ D :: fp := fun b o e hb z => by
    rcases List.mem_cons.mp z with z | z
    · exact (lt b o e).1 z
    · exact hb z
  have nD : ∀ b u, H' b = some u → b ≠ D := fun b u e => ne_of_none e fD
  have nC : ∀ b u, H' b = some u → b ≠ C := fun b u e => ne_of_none e I'.free
  have u := I'.base
  refine I2.call' (ch := fp) (show s4.os = s2.os from I'.os) ⟨fun b o e n hb hx => ?_, fun b o e n hb hx => ?_, fun b o e n hx => ?_, fun b o e hx => ?_, fun b xs e => ?_, fun b o xs e => ?_, fun b ps e => ?_⟩ (fun b o e => ?_) I'.bare fun b hb => ⟨(f2 b hb).2.2.2.1, (f2 b hb).2.1, (f2 b hb).2.2.2.2.1, (f2 b hb).2.2.2.2.2⟩
  · exact (hs.2 b (lt b o e).2).trans (u.keep b o e n hb (nex b o e hx))
  · obtain ⟨sl, q⟩ := u.slot b o e n hb (nex b o e hx)
    exact ⟨sl, (hs.2 b (lt b o e).2).trans q⟩
  · rw [upd_ne (lt b o e).1]
    exact u.free b o e n (nex b o e hx)
  · obtain ⟨o', q⟩ := u.there b o e (nex b o e hx)
    exact ⟨o', (hs.2 b (lt b o e).2).trans q⟩
  · have q := u.tups b xs e
    rw [upd_ne (nD b _ q)]
    exact q
  · have q := u.frzs b o xs e
    rw [upd_ne (nD b _ q)]
    exact q
  · obtain ⟨m, q⟩ := u.tbls b ps e
    exact ⟨m, by rw [upd_ne (nD b _ q)]; exact q⟩
  · by_cases hb : b = D
    · subst hb
      rw [upd_same] at e
      cases e
      exact ⟨hz, its, n, rv, (hs.2 b hDC).trans eD⟩
    · rw [upd_ne hb] at e
      refine (I'.hok b o e).stay (fun c v hc q => (hs.2 c ?_).trans q) (fun c q => by rw [upd_ne (nD c _ q)]; exact q) fun c xs q => by rw [upd_ne (nD c _ q)]; exact q
      rcases hc with z | z
      · rw [z]; exact nC b o e
      · exact nC c _ z
section
variable {X : Cx} {elt tg iter : Expr} {ifs : List Expr} {scope : Scope} {pos : Pos} {wi : TI} {g : TG} {tc : TT} {te : TE} {N : List Str} {ix : List (Option Nat)}
theorem comp_core {pins : List (Addr × Obj)} {σ : St} {Q : VK} {s2 : Shared} {itv : Value} {Rr : Value → Addr → Result → Shared → Prop} (S : CompScope X scope N ix) (hc : X.calm = true) (hG : GFree ix g)
    (hb : ∀ (s₀ : Shared) (H₀ : Hp) (C : Addr) (ex : List Addr), PG (compCx X scope N s₀ H₀ C ex) tg g ∧ PIfs (compCx X scope N s₀ H₀ C ex) ifs tc ∧ PE (compCx X scope N s₀ H₀ C ex) elt te)
    (h2 : PIE X pins σ tg (fun J H1 => ∃ W : Nat → Nat → List V → Hp → Prop, (∃ m, W 0 m [] H1) ∧ ∀ i m ys H, W i m ys H →
      (J.stop i H ∧ ys.length ≤ sizeLine ∧ ∀ p, H p = none → Q (.ref p) (upd H p (.lst ys))) ∨
      (J.go i H ∧ ys.length < sizeLine ∧ ∃ N : List V → Hp → Prop, (∀ ys' H', N ys' H' → ∃ m', m' < m ∧ W (i + 1) m' ys' H') ∧ ∀ x H', J.yld i H x H' → g x (lift ix σ) H' fun σ2 H2 => tc σ2 H2 fun b H3 => if b = true then te σ2 H3 fun v H4 => N (ys ++ [v]) H4 else N ys H3)) itv s2)
    (hR : ∀ (s4 : Shared) (H' : Hp) (D C : Addr) (m : Str → Option Value) (ys : List V), s4.heap.Ns C m → FpOk X pins H' C → (∀ h', Heap.SameBut C s4.heap h' → Inv X pins σ (upd H' D (.lst ys)) { s4 with heap := h' }) → Inv X pins σ (upd H' D (.lst ys)) s4 → D ≠ C → Q (.ref D) (upd H' D (.lst ys)) → Rr (.ref D) C (.ok .next) s4) :
    wpAny (model X.prog X.w) X.A (newList []) (fun acc s₃ => wpAny (model X.prog X.w) X.A (newFunctionEnv scope X.env.globals (clOf scope X.env) [] X.env.qual none .none (some X.env)) (fun cenv s₄ =>
      codeAny (model X.prog X.w) X.A (.compStart (.ListComp elt [⟨tg, iter, ifs, 0⟩] scope pos) 0 itv acc { cenv with scope := relabel scope X.env }) (Rr acc cenv.locals) s₄) X.xe s₃) X.xe s2 := by
  obtain ⟨it, fp, tn, J, H2, e, I2, T, st2, f2, W, ⟨m0, w0⟩, turn⟩ := h2
  subst e
  have fo : ∀ b ∈ fp, ∃ o, s2.heap.get? b = some o := fun b hb => let ⟨o, e, _⟩ := T.obj _ _ st2 b hb; ⟨o, e⟩
  refine wpAny_newObj_type (wpAny_newFunctionEnv S.nocell (by intro y hy; simp at hy) (fun h₁ hns₁ hsb₁ => ?_) S.kind)
  dsimp only at hns₁ hsb₁ ⊢
  generalize hH2 : s2.heap.push { cls := .type "list", dict := none, data := .seq ([] : List Value).toArray } = HH at hns₁ hsb₁ ⊢
  have hC : HH.objs.size = s2.heap.objs.size + 1 := by rw [← hH2, Heap.size_push]
  generalize hCC : HH.objs.size = C at hns₁ hsb₁ hC ⊢
  generalize hDD : s2.heap.objs.size = D at hC ⊢
  have hlt : s2.heap.objs.size < C := by rw [hDD, hC]; exact Nat.lt_succ_self _
  have hDC : D ≠ C := by rw [hC]; exact Nat.ne_of_lt (Nat.lt_succ_self _)
  have old : ∀ b o, s2.heap.get? b = some o → h₁.get? b = some o := fun b o e =>
    hsb₁.extBut b o (Nat.ne_of_lt (Nat.lt_trans (Heap.lt_size e) hlt)) (Heap.get?_push_of_some _ (hH2 ▸ Heap.get?_push_of_some _ e))
  have hacc : h₁.PlainList D #[] := ⟨_, hsb₁.extBut _ _ hDC (Heap.get?_push_of_some _ (hH2 ▸ hDD ▸ Heap.get?_push_size _ rfl))⟩
  have hns₂ : h₁.Ns C fun _ => none := hns₁
  have I4 := S.start (tk := s2.toks + ([] : List (Str × Value)).length) I2 f2 fo hDD.symm hlt old hns₂
  obtain ⟨hg, hif, hel⟩ := hb s2 H2 C (D :: fp)
  -- the records of the loop in the block's context
  have stat : ∀ {H' : Hp}, (∀ b ∈ D :: fp, H' b = none) → ∀ b ∈ D :: fp, FpOk (compCx X scope N s2 H2 C (D :: fp)) [] H' b := fun hn b hb =>
    ⟨hn b hb, (I4.ok.exf b hb).1, I4.ok.exfs b hb, .inl hb, (I4.ok.exf b hb).2, fun p hp => absurd (show p ∈ ([] : List (Addr × Obj)) from hp) (by simp)⟩
  have sub : ∀ b ∈ fp, b ∈ D :: fp := fun b hb => List.mem_cons_of_mem _ hb
  have nDf : ∀ b ∈ fp, b ≠ D := fun b hb z => by
    obtain ⟨o, e⟩ := fo b hb
    exact absurd (Heap.lt_size e) (by rw [z, hDD]; exact Nat.lt_irrefl _)
  have free0 : ∀ b ∈ D :: fp, H2 b = none := fun b hb => by
    rcases List.mem_cons.mp hb with z | hb
    · rw [z]; exact I2.hok.fresh (Nat.le_of_eq hDD)
    · exact (f2 b hb).1
  have loop : ∀ s₃ : Shared, s₃ = { s2 with heap := h₁, toks := s2.toks + ([] : List (Str × Value)).length } →
      codeAny (model X.prog X.w) X.A (.compLoop (.ListComp elt [⟨tg, iter, ifs, 0⟩] scope pos) 0 (.ref it) (.ref D) (compEnvC scope (clOf scope X.env) C X.env))
        (Rr (.ref D) C) s₃ := by
    rintro s₃ rfl
    refine codeAny_compLoop_own (fun n s' => ∃ i H' ys its, Inv (compCx X scope N s2 H2 C (D :: fp)) [] (lift ix σ) H' s' ∧ tn i s'.heap ∧ (∀ b ∈ D :: fp, H' b = none) ∧ s'.heap.PlainList D (List.toArray its) ∧ Vals ys its ∧ W i n ys H') ?_ m0
      ⟨0, H2, [], [], I4, T.keep _ _ _ st2 fun b _ o e => old b o e, free0, hacc, .nil, w0⟩
    rintro n s3 ⟨i, H3, ys, its, I3, st3, fr3, pl3, rv3, w3⟩
    obtain ⟨kk, plE⟩ := pl3
    have pinD : ∀ {pp : List (Addr × Obj)} {σ' : St} {H' : Hp} {s' : Shared}, Inv (compCx X scope N s2 H2 C (D :: fp)) pp σ' H' s' → H' D = none → s'.heap.get? D = some { cls := .type "list", data := .seq its.toArray kk } →
        Inv (compCx X scope N s2 H2 C (D :: fp)) [(D, { cls := .type "list", data := .seq its.toArray kk })] σ' H' s' := fun {pp σ' H' s'} J f e => J.pins_of fun p hp => by
      have z : p = (D, { cls := .type "list", data := .seq its.toArray kk }) := by simpa using hp
      subst z
      exact ⟨e, f, (J.ok.exf D List.mem_cons_self).1, J.ok.exfs D List.mem_cons_self, fun v z => by cases z⟩
    have fpD : ∀ {H' : Hp}, (∀ b ∈ D :: fp, H' b = none) → ∀ b ∈ fp, FpOk (compCx X scope N s2 H2 C (D :: fp)) [(D, { cls := .type "list", data := .seq its.toArray kk })] H' b := fun hn b hb => by
      obtain ⟨a1, a2, a3, a4, a5, a6⟩ := stat hn b (sub b hb)
      refine ⟨a1, a2, a3, a4, a5, fun p hp => ?_⟩
      have z : p = (D, { cls := .type "list", data := .seq its.toArray kk }) := by simpa [compCx] using hp
      subst z
      exact (nDf b hb).symm
    have frD : H3 D = none := fr3 D List.mem_cons_self
    rcases turn i n ys H3 w3 with ⟨stop, hz, qn⟩ | ⟨go, hz, NN, hN, step⟩
    · refine thn (T.done (compCx X scope N s2 H2 C (D :: fp)) rfl rfl rfl hc i _ s3 _ H3 (fun _ _ => False) (pinD I3 frD plE) (fpD fr3) st3 stop) fun r s4 ⟨hr, I4'⟩ => ?_
      subst hr
      obtain ⟨m, hm, _⟩ := I4'.loc
      have eD := (I4'.pin (D, _) (List.mem_append_right _ List.mem_cons_self)).1
      have fin : ∀ h', Heap.SameBut C s4.heap h' → Inv X pins σ (upd H3 D (.lst ys)) { s4 with heap := h' } := fun h' hs' => comp_end I2 I4' f2 hDD.symm hlt hDC hs' eD frD rv3 hz
      have hC0 : s2.heap.objs.size ≤ C := Nat.le_of_lt hlt
      have fC : FpOk X pins H3 C := by
        have q := I2.fpOk (H' := H3) hC0 I4'.free
        exact q
      exact hR s4 H3 D C m ys hm fC fin (by simpa using fin s4.heap (Heap.SameBut.refl ..)) hDC (qn D frD)
    · refine thn (T.item (compCx X scope N s2 H2 C (D :: fp)) rfl rfl rfl hc i _ s3 _ H3 (fun _ _ => False) (pinD I3 frD plE) (fpD fr3) st3 go) fun r s4 ⟨u, hr, h4⟩ => ?_
      subst hr
      refine thn h4 fun _ s5 ⟨x, H5, I5, r5, y5, st5, fr5⟩ => ?_
      have eD5 := (I5.pin (D, _) (List.mem_append_right _ List.mem_cons_self))
      have fr5' : ∀ b ∈ D :: fp, H5 b = none := fun b hb => by
        rcases List.mem_cons.mp hb with z | hb
        · rw [z]; exact eD5.2.1
        · exact fr5 b hb
      have I5' : Inv (compCx X scope N s2 H2 C (D :: fp)) ([] ++ pinsAt (D :: fp) s5.heap) (lift ix σ) H5 s5 := (I5.unpinned (pins := []) (pl := [_])).pinned (stat fr5') fun b hb => by
        rcases List.mem_cons.mp hb with z | hb
        · rw [z]; exact ⟨_, eD5.1, fun v z => by cases z⟩
        · exact T.obj _ _ st5 b hb
      -- what stays behind the turn
      have back : ∀ {σ7 : St} {H7 : Hp} {s7 : Shared}, Inv (compCx X scope N s2 H2 C (D :: fp)) ([] ++ pinsAt (D :: fp) s5.heap) σ7 H7 s7 → Ext (lift ix σ) σ7 →
          Inv (compCx X scope N s2 H2 C (D :: fp)) [] (lift ix σ) H7 s7 ∧ tn (i + 1) s7.heap ∧ (∀ b ∈ D :: fp, H7 b = none) ∧ s7.heap.get? D = some { cls := .type "list", data := .seq its.toArray kk } := fun {σ7 H7 s7} I7 ex => by
        have keepAt : ∀ b ∈ D :: fp, ∀ o, s5.heap.get? b = some o → s7.heap.get? b = some o ∧ H7 b = none := fun b hb o e =>
          ⟨(I7.pin (b, o) (List.mem_append_right _ (List.mem_append_right _ (mem_pinsAt hb e)))).1, (I7.pin (b, o) (List.mem_append_right _ (List.mem_append_right _ (mem_pinsAt hb e)))).2.1⟩
        refine ⟨I7.unpinned.weak ex.1 ex.2, T.keep _ _ _ st5 fun b hb o e => (keepAt b (sub b hb) o e).1, fun b hb => ?_, (keepAt D List.mem_cons_self _ eD5.1).1⟩
        rcases List.mem_cons.mp hb with z | hb'
        · rw [z]; exact (keepAt D List.mem_cons_self _ eD5.1).2
        · obtain ⟨o, e, _⟩ := T.obj _ _ st5 b hb'
          exact (keepAt b hb o e).2
      refine thn (hg _ s5 _ H5 x u _ I5' r5 (hG _ _ _ _ (step x H5 y5))) fun _ s6 ⟨σ6, H6, I6, q6, ex6⟩ => ?_
      refine thn (hif _ s6 σ6 H6 _ I6 q6) fun ok s7 ⟨H7, I7, q7⟩ => ?_
      cases ok with
      | false =>
        rw [if_neg Bool.false_ne_true] at q7 ⊢
        obtain ⟨m', hm, w7⟩ := hN _ _ q7
        obtain ⟨J1, J2, J3, J4⟩ := back I7 ex6
        exact ⟨m', hm, i + 1, H7, ys, its, J1, J2, J3, ⟨_, J4⟩, rv3, w7⟩
      | true =>
        rw [if_pos rfl] at q7 ⊢
        refine thn (hel _ s7 σ6 H7 _ I7 q7) fun uv s8 ⟨y, H8, I8, r8, q8⟩ => ?_
        obtain ⟨m', hm, w8⟩ := hN _ _ q8
        obtain ⟨J1, J2, J3, J4⟩ := back I8 ex6
        refine wpAny_list_append_plain (hsz := by rw [List.size_toArray, ← rv3.length]; exact Nat.le_of_lt hz) ⟨_, J4⟩ fun h₉ hl₉ hs₉ => ?_
        obtain ⟨a1, a2, a3, a4, a5, a6⟩ := stat J3 D List.mem_cons_self
        refine ⟨m', hm, i + 1, H8, ys ++ [y], its ++ [uv], J1.turned (t' := s8.toks) (fun b o hb e => hs₉.extBut b o hb e) a1 a2 a4 a5 a6, T.keep _ _ _ J2 fun b hb o e => hs₉.extBut b o (nDf b hb) e, J3, by simpa using hl₉, rv3.append (.cons r8 .nil), w8⟩
  exact codeAny_compStart_list (loop _ rfl) (T.self _ 0 _ _ _ (T.keep _ _ _ st2 fun b _ o e => old b o e) (loop _ rfl))
theorem pe_comp (S : CompScope X scope N ix) (hc : X.calm = true) (hi : PI X tg iter wi) (hG : GFree ix g)
    (hb : ∀ (s₀ : Shared) (H₀ : Hp) (C : Addr) (ex : List Addr), PG (compCx X scope N s₀ H₀ C ex) tg g ∧ PIfs (compCx X scope N s₀ H₀ C ex) ifs tc ∧ PE (compCx X scope N s₀ H₀ C ex) elt te)
    (hs : ∀ x, foldedSetIterable iter X.env x = pure x := by intro _; rfl) : PE X (.ListComp elt [⟨tg, iter, ifs, 0⟩] scope pos) (tComp ix wi g tc te) := by
  intro pins s σ H Q I h
  rw [eval_ListComp]
  refine wpAny_comprehension_free (use := none) rfl hs (closure_of (S.cells I)) S.kind S.locs ?_
  refine thn (hi pins s σ H _ I h) fun v s1 h1 => thn h1 fun itv s2 h2 => ?_
  refine comp_core (Rr := fun acc C => compPost (model X.prog X.w) X.A X.xe none (EP X pins σ Q) acc C) S hc hG hb h2 ?_
  intro s4 H' D C m ys hm _ fin _ _ q
  exact ⟨m, hm, fun h' hs' => ⟨.ref D, _, fin h' hs', rfl, q⟩⟩
theorem ps_setC {y : Str} {py spos : Pos} {i : Nat} (hN : X.N.Nodup) (hi : X.N[i]? = some y) (hy : Loc X.env.scope y) (S : CompScope X scope N ix) (hc : X.calm = true) (hit : PI X tg iter wi) (hG : GFree ix g)
    (hb : ∀ (s₀ : Shared) (H₀ : Hp) (C : Addr) (ex : List Addr), PG (compCx X scope N s₀ H₀ C ex) tg g ∧ PIfs (compCx X scope N s₀ H₀ C ex) ifs tc ∧ PE (compCx X scope N s₀ H₀ C ex) elt te)
    (hsw : swapsWith (.ListComp elt [⟨tg, iter, ifs, 0⟩] scope pos) (some (.Name y py)) spos.line X.env = pure true := by rfl) (hs : ∀ x, foldedSetIterable iter X.env x = pure x := by intro _; rfl)
    (hf : X.fn y = true ∨ X.env.scope.names.lookup y = some .local := by first | exact .inl rfl | exact .inr rfl | assumption) :
    PS X (.Assign [.Name y py] (.ListComp elt [⟨tg, iter, ifs, 0⟩] scope pos) spos) (tAsg (tComp ix wi g tc te) (gName i)) := by
  intro pins s σ H D0 I h
  rw [exec_Assign_Name_used _ _ _ _ hsw]
  refine wpAny_bind (wpAny_standAt (wpAny_bind ?_))
  show wpAny _ X.A (do let _ ← comprehension (.ListComp elt [⟨tg, iter, ifs, 0⟩] scope pos) scope X.env _ (newList []) false (eval iter X.env) (some (assign (.Name y py) X.env))) _ _ s
  refine wpAny_bind (wpAny_mono (wpAny_comprehension_free (use := some (assign (.Name y py) X.env)) (Q := fun _ s' => SP X pins D0 .next s') rfl hs (closure_of (S.cells I)) S.kind S.locs ?_) (fun _ s' hq => wpAny_pure (wpAny_pure hq)) fun _ _ e => e)
  refine thn (hit pins s σ H _ I h) fun v s1 h1 => thn h1 fun itv s2 h2 => ?_
  refine comp_core (Q := fun x H1 => gName i x σ H1 D0.nx) (Rr := fun acc C => compPost (model X.prog X.w) X.A X.xe (some (assign (.Name y py) X.env)) (fun _ s' => SP X pins D0 .next s') acc C) S hc hG hb h2 ?_
  intro s4 H' D C m ys hm fC _ I4 hDC q
  show wpAny _ X.A (assign (.Name y py) X.env (.ref D)) _ _ _
  obtain ⟨c0, c1, c2, c3, c4, c5⟩ := fC
  refine wpAny_assign_Name (store_ok2 (v := .ref D) I4 hN hi hy rfl (fun s5 I5 hsb => ?_) hf)
  obtain ⟨a, hsa, ha⟩ := hsb
  have haC : C ≠ a := by
    rcases ha with z | z
    · rw [z]; exact c1
    · exact fun e => c4 y a z e.symm
  refine ⟨m, hm.sameBut hsa haC, fun h' hs' => ?_⟩
  have hCn : (upd H' D (.lst ys)) C = none := by rw [upd_ne hDC.symm]; exact c0
  exact ⟨_, _, I5.turned (t' := s5.toks) (fun b o hb e => hs'.extBut b o hb e) hCn c1 c3 c4 c5, q⟩
end
end L2
set_option Elab.async false
set_option linter.all false
set_option maxRecDepth 100000
namespace L2
open PySem PySem.Spec PyProof.Rows
def isiV : V → String → Option Bool
  | .int _, "int" => some true
  | .int _, "bool" => some false
  | .int _, "str" => some false
  | .int _, "list" => some false
  | .int _, "tuple" => some false
  | .int _, "dict" => some false
  | .bl _, "int" => some true
  | .bl _, "bool" => some true
  | .bl _, "str" => some false
  | .bl _, "list" => some false
  | .bl _, "tuple" => some false
  | .bl _, "dict" => some false
  | .str _, "int" => some false
  | .str _, "bool" => some false
  | .str _, "str" => some true
  | .str _, "list" => some false
  | .str _, "tuple" => some false
  | .str _, "dict" => some false
  | _, _ => none
theorem call_isi {X : Cx} : CallR X (.builtin "isinstance") (fun xs H Q => ∃ v T k, xs = [v, .ty T] ∧ isiV v T = some k ∧ Q (.bl k) H) := by
  intro pins s σ H xs us Q I r h
  obtain ⟨v, T, k, rfl, hk, q⟩ := h
  cases r with
  | cons r rr =>
    cases rr with
    | cons r' rr =>
      cases rr
      cases r'
      unfold isiV at hk
      split at hk <;> first
        | (cases hk; done)
        | (cases hk; obtain ⟨t, rfl⟩ := r; first
            | exact IsiPair.int_int ⟨.bl _, H, I, rfl, q⟩
            | exact IsiPair.int_bool ⟨.bl _, H, I.tok _, rfl, q⟩
            | exact IsiPair.int_str ⟨.bl _, H, I.tok _, rfl, q⟩
            | exact IsiPair.int_list ⟨.bl _, H, I.tok _, rfl, q⟩
            | exact IsiPair.int_tuple ⟨.bl _, H, I.tok _, rfl, q⟩
            | exact IsiPair.int_dict ⟨.bl _, H, I.tok _, rfl, q⟩
            | exact IsiPair.str_int ⟨.bl _, H, I.tok _, rfl, q⟩
            | exact IsiPair.str_bool ⟨.bl _, H, I.tok _, rfl, q⟩
            | exact IsiPair.str_str ⟨.bl _, H, I, rfl, q⟩
            | exact IsiPair.str_list ⟨.bl _, H, I.tok _, rfl, q⟩
            | exact IsiPair.str_tuple ⟨.bl _, H, I.tok _, rfl, q⟩
            | exact IsiPair.str_dict ⟨.bl _, H, I.tok _, rfl, q⟩)
        | (cases hk; cases r; first
            | exact IsiPair.bool_int ⟨.bl _, H, I, rfl, q⟩
            | exact IsiPair.bool_int ⟨.bl _, H, I.tok _, rfl, q⟩
            | exact IsiPair.bool_bool ⟨.bl _, H, I, rfl, q⟩
            | exact IsiPair.bool_str ⟨.bl _, H, I.tok _, rfl, q⟩
            | exact IsiPair.bool_list ⟨.bl _, H, I.tok _, rfl, q⟩
            | exact IsiPair.bool_tuple ⟨.bl _, H, I.tok _, rfl, q⟩
            | exact IsiPair.bool_dict ⟨.bl _, H, I.tok _, rfl, q⟩)
end L2
set_option Elab.async false
set_option linter.all false
set_option maxRecDepth 100000
namespace L2
open PySem PySem.Spec PyProof.Rows
section
variable {X : Cx}
def CDivM (i j : Int) : Prop := j ≠ 0 ∧ j.natAbs < 2 ^ 512
theorem op_fdivM : OpR X (binaryOp .FloorDiv) (rI CDivM fun i j => .int (i.fdiv j)) := opI fun i j _ _ _ _ _ hc q => floordiv_int hc.1 q (.inl (PyProof.noPylong_of_log2 (by
  by_cases h0 : j.natAbs = 0
  · rw [h0]; decide +kernel
  · have := (Nat.log2_lt h0).mpr hc.2
    omega)))
theorem op_modM : OpR X (binaryOp .Mod) (rI (fun _ j => j ≠ 0) fun i j => .int (i.fmod j)) := op_modN
theorem comp_scope {scope : Scope} {N : List Str} {ix : List (Option Nat)} (kind : scope.kind = .function) (nocell : (scope.names.all fun y => y.2 != .cell) = true) (locs : (scope.names.all fun y => y.2 != .local || scope.names.lookup y.1 == some .local) = true)
    (free : (scope.names.all fun y => y.2 != .free || X.env.kindOf y.1 == some .cell || X.env.kindOf y.1 == some .free) = true) (len : ix.length = N.length) (nd : N.Nodup)
    (fr : ((ix.zip N).all fun p => match p.1 with
      | none => true
      | some i => X.N[i]? == some p.2 && (X.env.kindOf p.2 == some .cell || X.env.kindOf p.2 == some .free) && ((relabel scope X.env).names.lookup p.2 == some .cell || (relabel scope X.env).names.lookup p.2 == some .free)) = true) : CompScope X scope N ix := by
  refine ⟨kind, fun y hy => ?_, fun y hy hl => ?_, fun y hy hf => ?_, len, nd, fun j i e => ?_⟩
  · have := List.all_eq_true.mp nocell y hy
    simpa using this
  · have := List.all_eq_true.mp locs y hy
    rw [hl] at this
    simpa using this
  · have := List.all_eq_true.mp free y hy
    rw [hf] at this
    simpa using this
  · have hj : j < ix.length := (List.getElem?_eq_some_iff.mp e).1
    have hj' : j < N.length := by omega
    have hm : (ix.zip N)[j]? = some (some i, N[j]) := by
      rw [List.getElem?_zip_eq_some]
      exact ⟨e, by simp [hj']⟩
    have := List.all_eq_true.mp fr _ (List.mem_of_getElem? hm)
    simp only [Bool.and_eq_true, Bool.or_eq_true, beq_iff_eq] at this
    exact ⟨N[j], by simp [hj'], this.1.1, this.1.2, this.2⟩
end
structure Df (K : PySem.W.Frag) (mg : Str → Option Value) (x : Str) (st : Stmt) (ps : List Str) (f : Addr) (fd : FuncData) : Prop where
  fn : Fun K x x st f fd
  b : Binds K fd ps []
  m : mg x = some (.ref f)
section
variable {K : PySem.W.Frag} {a b : Addr} {xs ys : List V} {wi : TI} {g : TG} {tb : TS} {D : Ends} {σ : St} {H H1 : Hp} {ix : List (Option Nat)} {tc : TT} {te : TE} {Q : VK}
end
end L2
set_option Elab.async false
set_option linter.all false
set_option maxRecDepth 100000
namespace L2
open PySem PySem.Spec PyProof.Rows
theorem Inv.turnedTup {X : Cx} {pins : List (Addr × Obj)} {σ : St} {H : Hp} {s : Shared} {h' : Heap} {t' : Nat} {ch : List Addr} {T : Addr} {xs : List V} {its : List Value} (I : Inv X pins σ H s) (hf : ∀ b ∈ ch, FpOk X pins H b)
    (k : ∀ b o, b ∉ ch → s.heap.get? b = some o → h'.get? b = some o) (hT : s.heap.objs.size ≤ T) (eT : IsTup h' T its.toArray) (r : Vals xs its) (hz : xs.length ≤ sizeLine) : Inv X pins σ (upd H T (.tup xs)) { s with heap := h', toks := t' } := by
  have hTn : H T = none := I.hok.fresh hT
  have big : ∀ {c : Addr} {o : Obj}, s.heap.get? c = some o → c ≠ T := fun e => Nat.ne_of_lt (Nat.lt_of_lt_of_le (Heap.lt_size e) hT)
  have trk : ∀ c t, H c = some t → c ∉ ch := fun c t e hc => by rw [(hf c hc).1] at e; cases e
  refine I.step (g' := s.gens) (d' := s.drawn) (ch := ch) (fun c hc => ⟨(hf c hc).2.2.2.1, (hf c hc).2.1, (hf c hc).2.2.2.2.1, (hf c hc).2.2.2.2.2⟩) (fun c o _ _ hc e _ => k c o hc e) (fun c o _ _ hc e _ => ⟨o.slots, k c o hc e⟩) (fun c o hc e n => ?_) (fun c o hc e => ⟨o, k c o hc e⟩) (fun c t e => ?_) (fun c o t e => ?_) (fun c ps e => ?_) (fun m hm => ?_) (fun c t e => ?_) I.bare
  · rw [upd_ne (big e)]; exact n
  · rw [upd_ne (ne_of_none e hTn)]; exact e
  · rw [upd_ne (ne_of_none e hTn)]; exact e
  · exact ⟨#[], by rw [upd_ne (ne_of_none e hTn), e]; simp⟩
  · obtain ⟨o, es, ep, ho, r⟩ := hm
    exact ⟨o, es, ep, k _ o (fun hc => (hf _ hc).2.1 rfl) ho, r⟩
  · by_cases hcT : c = T
    · subst hcT
      rw [upd_same] at e
      cases e
      exact ⟨hz, its, r, eT⟩
    · rw [upd_ne hcT] at e
      refine (I.hok c t e).stay (fun d o hd q => k d o ?_ q) (fun d q => by rw [upd_ne (ne_of_none q hTn)]; exact q) fun d zs q => by rw [upd_ne (ne_of_none q hTn)]; exact q
      rcases hd with hd | hd
      · rw [hd]; exact trk c t e
      · exact trk d _ hd
def Ite (K : PySem.W.Frag) (a : Addr) : It :=
  ⟨fun i H => ∃ xs x, SqL K H a xs ∧ xs[i]? = some x,
   fun i H v H' => ∃ p x, H p = none ∧ v = .ref p ∧ H' = upd H p (.tup [.int i, x]) ∧ ∀ xs, SqL K H a xs → xs[i]? = some x,
   fun i H => ∃ xs, SqL K H a xs ∧ xs.length ≤ i⟩
theorem turn_enum {P : Program} {w : World} {K : PySem.W.Frag} {elts : List Expr} {x1} {pos : Pos} (a e it : Addr) (hei : e ≠ it) :
    Turn P w K (.Tuple elts x1 pos) (Ite K a) [e, it] e (fun i h => (∃ old, IsEnum h e it i old) ∧ h.IsListIter it a i) where
  mem := by simp
  obj := fun i h st c hc => by
    obtain ⟨⟨old, e1⟩, ⟨o4, e4, _, d4⟩⟩ := st
    simp only [List.mem_cons, List.not_mem_nil, or_false] at hc
    rcases hc with rfl | rfl
    · exact ⟨_, e1, fun v z => by cases z⟩
    · exact ⟨o4, e4, fun v z => by rw [d4] at z; cases z⟩
  keep := fun i h h' st k => by
    obtain ⟨⟨old, e1⟩, e4⟩ := st
    exact ⟨⟨old, k e (by simp) _ e1⟩, e4.at fun o q => k it (by simp) o q⟩
  item := by
    intro X hP hw hK hc i pins s σ H E I hf st hg
    subst hP hw hK
    obtain ⟨xs, x, qx, hx⟩ := hg
    obtain ⟨its, rvx, px, _⟩ := I.list qx
    obtain ⟨u, hu, ru⟩ := rvx.get hx
    obtain ⟨⟨old, e1⟩, e4⟩ := st
    have big : ∀ {c : Addr} {o : Obj}, s.heap.get? c = some o → c ≠ s.heap.objs.size := fun e => Nat.ne_of_lt (Heap.lt_size e)
    refine wpAny_pyNext_enum_item e1 e4 px.isList (x := u) (by simpa using hu) hei fun h' a1 a2 a3 a4 a5 => ?_
    refine ⟨_, rfl, wpAny_letOwnedTupleGo_enum (s := { s with heap := h', toks := s.toks + 1 }) a1 fun h'' b1 b2 => ?_⟩
    have k2 : ∀ c o, c ∉ [e, it] → s.heap.get? c = some o → h''.get? c = some o := fun c o hc q => by
      simp only [List.mem_cons, List.not_mem_nil, or_false, not_or] at hc
      exact (b2.2 c hc.1).trans (a5 c o hc.1 hc.2 q)
    have eT : IsTup h'' s.heap.objs.size (List.toArray [.int i s.toks, u]) := ⟨_, (b2.2 _ (big e1).symm).trans a3, rfl, _, rfl⟩
    have I1 := I.turnedTup (t' := s.toks + 1) (xs := [.int i, x]) hf k2 (Nat.le_refl _) eT (.cons ⟨_, rfl⟩ (.cons ru .nil)) (by show 2 ≤ sizeLine; decide)
    refine ⟨.ref s.heap.objs.size, _, I1, rfl, ⟨s.heap.objs.size, x, I.hok.fresh (Nat.le_refl _), rfl, rfl, fun zs hz => by rw [I.list_inj hz qx]; exact hx⟩, ⟨⟨u, by simpa using b1⟩, a2.at fun o q => (b2.2 _ hei.symm).trans q⟩, fun c hc => ?_⟩
    have hcn : c ≠ s.heap.objs.size := by
      obtain ⟨o4, g4, _⟩ := id e4
      simp only [List.mem_cons, List.not_mem_nil, or_false] at hc
      rcases hc with rfl | rfl
      · exact big e1
      · exact big g4
    rw [upd_ne hcn]
    exact (hf c hc).1
  done := by
    intro X hP hw hK hc i pins s σ H E I hf st hg
    subst hP hw hK
    obtain ⟨xs, qx, hl⟩ := hg
    obtain ⟨its, rvx, px, _⟩ := I.list qx
    obtain ⟨⟨old, e1⟩, e4⟩ := st
    have lx := rvx.length
    obtain ⟨f0, f1, f2, f3, f4, f5⟩ := hf it (by simp)
    exact wpAny_pyNext_enum_end (I.ok.hd hc) e1 e4 px.isList (by simp; omega) fun h' k => ⟨rfl, I.turned (t' := s.toks) (fun b o hb q => k b o hb q) f0 f1 f3 f4 f5⟩
  self := fun _ _ _ _ _ st h => by
    obtain ⟨⟨old, e1⟩, _⟩ := st
    exact wpAny_pyIter_enum e1 h
def iEnum (K : PySem.W.Frag) (ta : TA) : TI := fun σ H R => ta σ H fun vs H1 => ∃ a, vs = [.ref a] ∧ (∃ xs, SqL K H1 a xs) ∧ R (Ite K a) H1
theorem pi_enum {X : Cx} {elts : List Expr} {x1} {tpos : Pos} {a : Expr} {ta : TA} {p pos : Pos} (hg : Gl X "enumerate") (hm : X.mg "enumerate" = none) (ha : PA X [a] ta) (hs : starEach [a] X.env = [(false, eval a X.env)] := by rfl) :
    PI X (.Tuple elts x1 tpos) (.Call (.Name "enumerate" p) [a] [] pos) (iEnum X.K ta) := by
  intro pins s σ H R I h
  refine Call_ (ld_blt I hg hm boot_enumerate (PyProof.Rows.callWith_type1 (thn (ha pos pins s σ H _ I h) fun us s1 ⟨vs, H1, I1, r1, q1⟩ => ?_) hs rfl))
  obtain ⟨a, e, ⟨xs, qx⟩, q⟩ := q1
  subst e
  cases r1 with
  | cons r rr =>
    cases rr
    cases r
    obtain ⟨its, rvx, px, _⟩ := I1.list qx
    refine call_enumerate_list px.isList fun h' g5 g1 z5 k => ?_
    refine wpAny_pyIter_enum (s := { s1 with heap := h' }) g5 ?_
    refine ⟨s1.heap.objs.size + 1, [s1.heap.objs.size + 1, s1.heap.objs.size], _, _, H1, rfl, I1.kept (t' := s1.toks) k, turn_enum a _ _ (Nat.ne_of_gt (Nat.lt_succ_self _)), ⟨⟨_, g5⟩, g1⟩, fun c hc => ?_, q⟩
    have hc' : s1.heap.objs.size ≤ c := by
      simp only [List.mem_cons, List.not_mem_nil, or_false] at hc
      rcases hc with h | h <;> subst h <;> first
        | exact Nat.le_refl _
        | exact Nat.le_add_right _ _
    exact I1.fpOk hc' (I1.hok.fresh hc')
mutual
inductive Dp (K : PySem.W.Frag) (H : Hp) : V → PyData → Prop
  | non : Dp K H .non .none
  | bl (b : Bool) : Dp K H (.bl b) (.bool b)
  | int (i : Int) : Dp K H (.int i) (.int i)
  | str (x : Str) : Dp K H (.str x) (.str x)
  | lst {a : Addr} {xs : List V} {ds : List PyData} : SqL K H a xs → DpAll K H xs ds → Dp K H (.ref a) (.list ds)
  | tup {a : Addr} {xs : List V} {ds : List PyData} : SqT K H a xs → DpAll K H xs ds → Dp K H (.ref a) (.tuple ds)
inductive DpAll (K : PySem.W.Frag) (H : Hp) : List V → List PyData → Prop
  | nil : DpAll K H [] []
  | cons {v : V} {vs : List V} {d : PyData} {ds : List PyData} : Dp K H v d → DpAll K H vs ds → DpAll K H (v :: vs) (d :: ds)
end
mutual
theorem Dp.reads {X : Cx} {pins : List (Addr × Obj)} {σ : St} {H : Hp} {s : Shared} (I : Inv X pins σ H s) : ∀ {v : V} {d : PyData} {u : Value}, Dp X.K H v d → RelV v u → ∃ as, Reads s.heap u d as
  | _, _, u, .non, r => by cases r; exact ⟨_, .none⟩
  | _, _, u, .bl b, r => by cases r; exact ⟨_, .bool b⟩
  | _, _, u, .int i, r => by obtain ⟨t, rfl⟩ := r; exact ⟨_, .int i t⟩
  | _, _, u, .str x, r => by obtain ⟨t, rfl⟩ := r; exact ⟨_, .str x t⟩
  | _, _, u, .lst (xs := xs) q a, r => by
    cases r
    obtain ⟨its, rv, ⟨o, n, e, c, _, d⟩, _⟩ := I.list q
    obtain ⟨as, ra⟩ := DpAll.reads I a rv
    exact ⟨_, .list e c d (by simpa using ra)⟩
  | _, _, u, .tup (xs := xs) q a, r => by
    cases r
    obtain ⟨its, rv, ⟨o, e, c, n, d⟩, _⟩ := I.tuple q
    obtain ⟨as, ra⟩ := DpAll.reads I a rv
    exact ⟨_, .tuple e c d (by simpa using ra)⟩
theorem DpAll.reads {X : Cx} {pins : List (Addr × Obj)} {σ : St} {H : Hp} {s : Shared} (I : Inv X pins σ H s) : ∀ {vs : List V} {ds : List PyData} {us : List Value}, DpAll X.K H vs ds → Vals vs us → ∃ as, ReadsAll s.heap us ds as
  | _, _, _, .nil, .nil => ⟨_, .nil⟩
  | _, _, _, .cons h t, .cons r rr => by
    obtain ⟨as, ra⟩ := Dp.reads I h r
    obtain ⟨bs, rb⟩ := DpAll.reads I t rr
    exact ⟨_, .cons ra rb⟩
end
mutual
theorem Dp.same {K : PySem.W.Frag} {H H' : Hp} (g : Same H H') : ∀ {v : V} {d : PyData}, Dp K H v d → Dp K H' v d
  | _, _, .non => .non
  | _, _, .bl b => .bl b
  | _, _, .int i => .int i
  | _, _, .str x => .str x
  | _, _, .lst q a => .lst (g.seq q) (DpAll.same g a)
  | _, _, .tup q a => .tup (by
      rcases q with (h | ⟨o, h⟩) | h
      · exact .inl (.inl (g _ _ h))
      · exact .inl (.inr ⟨o, g _ _ h⟩)
      · exact .inr h) (DpAll.same g a)
theorem DpAll.same {K : PySem.W.Frag} {H H' : Hp} (g : Same H H') : ∀ {vs : List V} {ds : List PyData}, DpAll K H vs ds → DpAll K H' vs ds
  | _, _, .nil => .nil
  | _, _, .cons h t => .cons (Dp.same g h) (DpAll.same g t)
end
def rEqD (K : PySem.W.Frag) (neg : Bool) : R2 := fun x y H Q => ∃ d e, Dp K H x d ∧ Dp K H y e ∧ d.canLay0 = true ∧ e.canLay0 = true ∧ d.depth ≤ 64 ∧ Q (.bl (if neg then !(PyData.eqv d e) else PyData.eqv d e)) H
theorem op_eqD {X : Cx} (hu : X.A.units + 64 < cLine) : OpR X (compareOp .Eq) (rEqD X.K false) := by
  intro pins s σ H x y v u Q I rx ry h
  obtain ⟨d, e, hx, hy, cd, ce, dd, q⟩ := h
  obtain ⟨as, ra⟩ := hx.reads I rx
  obtain ⟨bs, rb⟩ := hy.reads I ry
  exact SeqAt.compareEq_reads ra rb cd ce (by omega) ⟨.bl _, H, I, rfl, by simpa using q⟩
end L2
set_option Elab.async false
set_option linter.all false
set_option maxRecDepth 100000
namespace L2
open PySem PySem.Spec PyProof.Rows
theorem ObjOk.there {P : Program} {w : World} {H : Hp} {h : Heap} {a : Addr} {o : HO} (x : ObjOk P w H h a o) : ∃ ob, h.get? a = some ob := by
  cases o with
  | lst xs => obtain ⟨_, _, _, _, e⟩ := x; exact ⟨_, e⟩
  | tup xs => obtain ⟨_, _, _, ob, e, _⟩ := x; exact ⟨_, e⟩
  | dK kvs => obtain ⟨_, _, _, _, o, _, _, e, _⟩ := x; exact ⟨_, e⟩
  | dT kvs => obtain ⟨_, _, _, _, o, _, _, e, _⟩ := x; exact ⟨_, e⟩
  | set S n => obtain ⟨o, _, _, _, e, _⟩ := x; exact ⟨_, e⟩
  | ins C dx fs => obtain ⟨_, _, _, e, _⟩ := x; exact ⟨_, e⟩
  | own y => exact x
  | xd fs => obtain ⟨_, ⟨_, _, _, e, _⟩, _⟩ := x; exact ⟨_, e⟩
  | rng lo hi => obtain ⟨_, _, _, e⟩ := x; exact ⟨_, e⟩
  | frz ob u => obtain ⟨e, _⟩ := x; exact ⟨_, e⟩
  | tbl ps => exact ⟨_, (show h.get? a = some _ from x)⟩
  | met f y => exact ⟨_, (show h.get? a = some _ from x)⟩
  | ext φ => obtain ⟨_, e, _⟩ := x; exact e
theorem HOk.none_of {P : Program} {w : World} {H : Hp} {h : Heap} {a : Addr} (x : HOk P w H h) (e : h.get? a = none) : H a = none := by
  cases q : H a with
  | none => rfl
  | some o =>
    obtain ⟨ob, z⟩ := (x a o q).there
    rw [e] at z; cases z
theorem HOk.hide {P : Program} {w : World} {H : Hp} {h : Heap} {as : List Addr} (x : HOk P w H h) (n : ∀ b ∈ as, H b = none) : HOk P w H (PySem.W.hideAll h as) := fun a o e =>
  (x a o e).stay (fun b u hb q => PySem.W.hideAll_get _ q fun hm => by
    have z := n b hm
    rcases hb with hb | hb
    · rw [hb, e] at z; cases z
    · rw [hb] at z; cases z) (fun _ q => q) fun _ _ q => q
def CXx (P : Program) (w : World) : CXT := fun outer H s E e s' =>
  ∃ (ea : Addr) (cls a0 : Value) (H' : Hp) (B : Heap), e = .ref ea ∧ s'.os = s.os ∧ AllBare s'.gens ∧ Heap.FlyingW B outer ea cls a0 s'.heap ∧ HOk P w H' B ∧ Un (frs outer) [] H H' s.heap s'.heap ∧
    (∀ b o, s.heap.get? b = some o → H b = none → b ∉ frs outer → B.get? b = some o) ∧ (∀ b o, s.heap.get? b = some o → b ∉ frs outer → ∃ o', B.get? b = some o') ∧ H' ea = none ∧ E cls none H'
def Raises (X : Cx) (E : XK) : Prop := ∀ (pins : List (Addr × Obj)) (σ : St) (H : Hp) (s : Shared) (h' : Heap) (e : Addr) (cls : Value) (vs : List Value), Inv X pins σ H s → Heap.MadeExcOf s.heap h' e cls vs → E cls none H → X.xe (.ref e) { s with heap := h' }
section
variable {P : Program} {w : World} {K : PySem.W.Frag} {mg : Str → Option Value} {base : Heap} {N : List Str} {qual : Str} {scope : Scope} {f : Addr} {cd : Value} {A : Around} {outer : List Env} {s : Shared} {H : Hp} {E : XK}
theorem frs_mem {l : List Env} {env : Env} {b : Addr} (he : env ∈ l) (hb : env.frame = some b) : b ∈ frs l := List.mem_filterMap.mpr ⟨env, he, hb⟩
theorem raises_cx : Raises (cxOf (CXx P w) P w K mg base N qual scope f cd A outer s H E) E := by
  intro pins σ H1 s1 h' e cls vs I hx hE
  have stk : (cxOf (CXx P w) P w K mg base N qual scope f cd A outer s H E).stack = (cxOf (CXx P w) P w K mg base N qual scope f cd A outer s H E).env :: outer := rfl
  have FF := I.stack
  have fr := I.stkFree
  have keepFr : ∀ b o, s.heap.get? b = some o → b ∉ frs outer → b ∉ frs (cxOf (CXx P w) P w K mg base N qual scope f cd A outer s H E).stack := fun b o q hb hm => by
    rcases List.mem_cons.mp (I.stkSub b hm) with z | z
    · have l1 := Heap.lt_size q
      have l2 : b = s.heap.objs.size := z
      rw [l2] at l1
      exact absurd l1 (Nat.lt_irrefl _)
    · exact hb z
  refine wpAny_leaves_madeW (base := PySem.W.hideAll s1.heap (frs (cxOf (CXx P w) P w K mg base N qual scope f cd A outer s H E).stack)) I.ok.frames rfl (fun b o q => PySem.W.of_hideAll _ q) (PySem.W.funFrames_hide FF fun env he a ha => frs_mem he ha) hx fun h'' t x1 x2 x3 x4 => ?_
  have keep : ∀ b o, s1.heap.get? b = some o → b ∉ frs (cxOf (CXx P w) P w K mg base N qual scope f cd A outer s H E).stack → (PySem.W.hideAll s1.heap (frs (cxOf (CXx P w) P w K mg base N qual scope f cd A outer s H E).stack)).get? b = some o := fun b o q hb => PySem.W.hideAll_get _ q hb
  have slot : ∀ b ∈ frs outer, ∀ o, s.heap.get? b = some o → ∃ sl, h''.get? b = some { o with slots := sl } := fun b hb o q => by
    obtain ⟨sl, e1⟩ := I.base.slot b o q (I.ok.frf b hb) hb (show b ∉ ([] : List Addr) by simp)
    obtain ⟨_, o2, e2, nf⟩ := FF.mem (show b ∈ frs (cxOf (CXx P w) P w K mg base N qual scope f cd A outer s H E).stack from by
      obtain ⟨env, he, hf⟩ := List.mem_filterMap.mp hb
      exact frs_mem (List.mem_cons_of_mem _ he) hf)
    rw [e1] at e2
    cases e2
    obtain ⟨sl', e3⟩ := x4 b _ (hx.keeps _ _ e1) nf
    exact ⟨sl', e3⟩
  refine ⟨e, cls, .ref t, H1, _, rfl, I.os, I.bare, x1, I.hok.hide fr, ⟨fun b o q n hb _ => ?_, fun b o q n hb _ => slot b hb o q, fun b o q n _ => I.base.free b o q n (show b ∉ ([] : List Addr) by simp), fun b o q _ => ?_, I.base.tups, I.base.frzs, I.base.tbls⟩, fun b o q n hb => ?_, fun b o q hb => ?_, I.hok.none_of hx.new, hE⟩
  · exact x1.1 _ _ (keep b o (I.base.keep b o q n hb (show b ∉ ([] : List Addr) by simp)) (keepFr b o q hb))
  · by_cases hb : b ∈ frs outer
    · obtain ⟨sl, e1⟩ := slot b hb o q
      exact ⟨_, e1⟩
    · obtain ⟨o', e1⟩ := I.base.there b o q (show b ∉ ([] : List Addr) by simp)
      exact ⟨o', x1.1 _ _ (keep b o' e1 (keepFr b o q hb))⟩
  · exact keep b o (I.base.keep b o q n hb (show b ∉ ([] : List Addr) by simp)) (keepFr b o q hb)
  · obtain ⟨o', e1⟩ := I.base.there b o q (show b ∉ ([] : List Addr) by simp)
    exact ⟨o', keep b o' e1 (keepFr b o q hb)⟩
theorem passX : Passes (CXx P w) (cxOf (CXx P w) P w K mg base N qual scope f cd A outer s H E) E := by
  intro pins σ H1 s1 e s2 I hq
  obtain ⟨ea, cls, a0, H2, B, rfl, os, bare, fl, hokB, un, keepB, thereB, f1, q⟩ := hq
  have keepFr : ∀ b o, s.heap.get? b = some o → b ∉ frs outer → b ∉ frs (cxOf (CXx P w) P w K mg base N qual scope f cd A outer s H E).stack := fun b o q hb hm => by
    rcases List.mem_cons.mp (I.stkSub b hm) with z | z
    · have l1 := Heap.lt_size q
      have l2 : b = s.heap.objs.size := z
      rw [l2] at l1
      exact absurd l1 (Nat.lt_irrefl _)
    · exact hb z
  have upFr : ∀ b ∈ frs outer, b ∈ frs (cxOf (CXx P w) P w K mg base N qual scope f cd A outer s H E).stack := fun b hb => by
    obtain ⟨env, he, hf⟩ := List.mem_filterMap.mp hb
    exact frs_mem (List.mem_cons_of_mem _ he) hf
  refine wpAny_leaves_onW I.ok.frames rfl fl fun h' x1 x2 => ?_
  have no : ∀ b : Addr, b ∉ ([] : List Addr) := fun b => by simp
  have slot : ∀ b ∈ frs outer, ∀ o, s.heap.get? b = some o → ∃ sl, h'.get? b = some { o with slots := sl } := fun b hb o q => by
    obtain ⟨sl, e1⟩ := I.base.slot b o q (I.ok.frf b hb) hb (no b)
    obtain ⟨sl2, e2⟩ := un.slot b _ e1 (I.stkFree b (upFr b hb)) (upFr b hb) (no b)
    obtain ⟨_, o3, e3, nf⟩ := fl.2.2.1.mem (show b ∈ frs (cxOf (CXx P w) P w K mg base N qual scope f cd A outer s H E).stack from upFr b hb)
    rw [e2] at e3
    cases e3
    obtain ⟨sl', e4⟩ := x2 b _ e2 nf
    exact ⟨sl', e4⟩
  refine ⟨ea, cls, a0, H2, B, rfl, os.trans I.os, bare, x1, hokB, ⟨fun b o q n hb _ => ?_, fun b o q n hb _ => slot b hb o q, fun b o q n _ => ?_, fun b o q _ => ?_, fun b xs e => un.tups b xs (I.base.tups b xs e), fun b o xs e => un.frzs b o xs (I.base.frzs b o xs e), fun b ps e => ?_⟩, fun b o q n hb => ?_, fun b o q hb => ?_, f1, q⟩
  · exact x1.1 _ _ (keepB b o (I.base.keep b o q n hb (no b)) (I.base.free b o q n (no b)) (keepFr b o q hb))
  · obtain ⟨o', e1⟩ := I.base.there b o q (no b)
    exact un.free b o' e1 (I.base.free b o q n (no b)) (no b)
  · by_cases hb : b ∈ frs outer
    · obtain ⟨sl, e1⟩ := slot b hb o q
      exact ⟨_, e1⟩
    · obtain ⟨o', e1⟩ := I.base.there b o q (no b)
      obtain ⟨o2, e2⟩ := thereB b o' e1 (keepFr b o q hb)
      exact ⟨o2, x1.1 _ _ e2⟩
  · obtain ⟨m1, e1⟩ := I.base.tbls b ps e
    obtain ⟨m2, e2⟩ := un.tbls b _ e1
    exact ⟨m1 ++ m2, by rw [e2, Array.append_assoc]⟩
  · exact keepB b o (I.base.keep b o q n hb (no b)) (I.base.free b o q n (no b)) (keepFr b o q hb)
  · obtain ⟨o', e1⟩ := I.base.there b o q (no b)
    exact thereB b o' e1 (keepFr b o q hb)
end
end L2
set_option Elab.async false
set_option linter.all false
set_option maxRecDepth 100000
namespace L2
open PySem PySem.Spec PyProof.Rows
abbrev mroVE : List Value := [.type "ValueError", .type "Exception", .type "BaseException", .type "object"]
def XCls (K : PySem.W.Frag) (C : Addr) : Prop := PySem.W.excIn K C mroVE "ValueError.__new__" = true
theorem XCls.parts {K : PySem.W.Frag} {C : Addr} {hh : Heap} (q : XCls K C) (X : K.In hh) : ∃ tl N nm qn bs hdct sn sub ab col dd k0 k1 k2 k3 k5 mN,
    hh.get? C = some (excClassObj nm qn C N bs tl hdct sn sub ab col dd k0 k1 k2 k3 k5 "ValueError.__new__") ∧ hh.Ns N mN ∧ mN "__init__" = none ∧ OwnTail hh mroVE tl := by
  unfold XCls PySem.W.excIn at q
  split at q <;> try (cases q; done)
  split at q <;> try (cases q; done)
  rename_i dct cdat slots look0 l1 l2 D tail a0 a1 a2 a3 nid a5 hmro hslots
  rw [Bool.and_eq_true, Bool.and_eq_true, Bool.and_eq_true, Bool.and_eq_true, Bool.and_eq_true] at q
  obtain ⟨⟨⟨⟨⟨q1, q2⟩, q3⟩, q4⟩, q5⟩, q6⟩ := q
  have z1 : D = C := by simpa using q1
  have z2 : nid = "ValueError.__new__" := by simpa using q2
  have z3 : cdat.hasDel = false := by simpa using q3
  have z6 : PySem.W.nsIn K cdat.ns "__init__" = some none := by simpa using q6
  have zs : slots = #[a0, a1, a2, a3, some (.builtin nid), a5] := by
    rw [← hslots, Array.toArray_toList]
  subst z1 z2 zs
  refine ⟨tail, cdat.ns, cdat.name, cdat.qualname, cdat.bases, cdat.hasDict, cdat.slotNames, cdat.subclasses, cdat.abstract, cdat.collection, dct, a0, a1, a2, a3, a5, _, ?_, .of_isNs (PySem.W.isNs_of_in X q5), PySem.W.nsMap_none_of_in X q5 z6, PySem.W.tail_of_in X q4⟩
  have got := X _ _ look0
  cases cdat
  simp only at hmro z3
  subst hmro z3
  exact got
section
variable {X : Cx} {E : XK} {C : Addr} {x : Str} {np cpos pos : Pos} {e : Expr} {es : List Expr} {t : TA}
def tRaise (C : Addr) (E : XK) (t : TA) : TS := fun _ σ H => t σ H fun vs H1 => vs.length ≤ sizeLine ∧ E (.ref C) none H1
theorem ps_raise (hr : Raises X E) (hc : X.calm = true) (hC : XCls X.K C) (hg : Gl X x) (hm : X.mg x = some (.ref C)) (ha : PA X (e :: es) t)
    (he : starEach (e :: es) X.env = (false, eval e X.env) :: starEach es X.env := by rfl) (hpl : (backTo cpos (starEach es X.env)).any (·.1) = false := by rfl) (hd : (x == ("__debug__" : Str)) = false := by decide) :
    PS X (.Raise (some (.Call (.Name x np) (e :: es) [] cpos)) none pos) (tRaise C E t) := by
  intro pins s σ H D I h
  obtain ⟨tl, N, nm, q, bs, hdct, sn, sub, ab, col, dd, k0, k1, k2, k3, k5, mN, hCo, hNs, hni, T0⟩ := hC.parts I.mod.kin
  refine wpAny_Raise_call_subT (C := C) (nm := nm) (q := q) (N := N) (bs := bs) (bm := tl) (hdct := hdct) (sn := sn) (sub := sub) (ab := ab) (col := col) (dd := dd) (k0 := k0) (k1 := k1) (k2 := k2) (k3 := k3) (k5 := k5) F.excBase_ValueError (mN := mN)
    (T0.hasType F.excBase_ValueError.hasBase) (I.ok.hd hc) (by rw [he]; show (false || (backTo cpos (starEach es X.env)).any (·.1)) = false; rw [hpl]; rfl) hni (ld_glob I hg hm ⟨rfl, ?_⟩ hd)
  rw [he]
  refine Calls.evalArgs_plain ?_
  have h1 := ha cpos pins s σ H _ I h
  rw [he] at h1
  refine thn h1 fun us s2 ⟨vs, H2, I2, rv, hz, hE⟩ => ⟨rfl, by rw [← rv.length]; exact hz, I2.bk _ _ hCo, hNs.keeps I2.bk, T0.keeps I2.bk, fun h' ee hm => ?_⟩
  exact hr pins σ H2 s2 h' ee (.ref C) us I2 hm hE
end
end L2
set_option Elab.async false
set_option linter.all false
set_option maxRecDepth 100000
namespace L2
open PySem PySem.Spec PyProof.Rows
theorem Fun.okX {P : Program} {w : World} {K : PySem.W.Frag} {mg : Str → Option Value} {base : Heap} {x qual : Str} {st : Stmt} {f : Addr} {fd : FuncData} {N ps : List Str} {k : Nat} {sp : Sp} (F : Fun K x qual st f fd) (S : FnScope N ps (defScope st)) (len : ∀ vs H Q E, sp vs H Q E → vs.length = ps.length)
    (hbody : ∀ (cdv : Value) (A : Around) (outer : List Env) (s : Shared) (H : Hp) (vs : List V) (Q : VK) (E : XK), Room k (A.deeper (envOfC qual (defScope st) s.heap.objs.size f cdv)) → sp vs H Q E →
      ∃ t, PSs (cxOf (CXx P w) P w K mg base N qual (defScope st) f cdv A outer s H E) (defBody st) t ∧ t { nx := fun _ H' => Q .non H', rt := Q } (start N vs) H) : FnOk P w K mg base (CXx P w) (k + 1) f fd ps sp := by
  obtain ⟨oc, od, kV, doc, pm, an, cdv, ct, osl, rfl, lk, hcd⟩ := F.ex
  exact fn_of lk hcd S len fun A outer s H vs Q E hr hsp => hbody cdv A outer s H vs Q E hr hsp
theorem Inv.flown {X : Cx} {pins : List (Addr × Obj)} {σ : St} {H H2 : Hp} {s s2 : Shared} {h5 B : Heap} {ea : Addr} {cls a0 : Value} (I : Inv X pins σ H s) (os : s2.os = s.os) (bare : AllBare s2.gens) (un : Un (frs X.stack) [] H H2 s.heap s2.heap) (hokB : HOk X.prog X.w H2 B)
    (keepB : ∀ b o, s.heap.get? b = some o → H b = none → b ∉ frs X.stack → B.get? b = some o) (thereB : ∀ b o, s.heap.get? b = some o → b ∉ frs X.stack → ∃ o', B.get? b = some o')
    (fl0 : s2.heap.FunFrames B X.stack) (fl : Heap.FlyingW B X.stack ea cls a0 h5) (up : s2.heap.UpToSlots h5) : Inv X pins σ H2 { s2 with heap := h5 } := by
  have no : ∀ b : Addr, b ∉ ([] : List Addr) := fun b => by simp
  have slot : ∀ b ∈ frs X.stack, ∀ o, s.heap.get? b = some o → ∃ sl, h5.get? b = some { o with slots := sl } := fun b hb o q => by
    obtain ⟨sl, e1⟩ := un.slot b o q (I.stkFree b hb) hb (no b)
    obtain ⟨_, o3, e3, nf⟩ := fl0.mem hb
    rw [e1] at e3
    cases e3
    obtain ⟨sl', e4⟩ := up b _ e1 nf
    exact ⟨sl', e4⟩
  refine I.call' (ch := []) (show s2.os = s.os from os) ⟨fun b o q n hb _ => fl.1 _ _ (keepB b o q n hb), fun b o q n hb _ => slot b hb o q, fun b o q n _ => un.free b o q n (no b), fun b o q _ => ?_, un.tups, un.frzs, un.tbls⟩ (hokB.kept fun b u q => fl.1 b u q) bare fun b z => absurd z (no b)
  by_cases hb : b ∈ frs X.stack
  · obtain ⟨sl, e1⟩ := slot b hb o q
    exact ⟨_, e1⟩
  · obtain ⟨o', e1⟩ := thereB b o q hb
    exact ⟨o', fl.1 _ _ e1⟩
abbrev Cx.at' (X : Cx) (pn : List (Addr × Obj)) (E : Value → Shared → Prop) : Cx := { X with pn := pn, xe := E }
theorem Inv.to' {X : Cx} {pins : List (Addr × Obj)} {σ : St} {H : Hp} {s : Shared} (I : Inv X pins σ H s) (E : Value → Shared → Prop) : Inv (X.at' (X.pn ++ pins) E) [] σ H s :=
  ⟨⟨I.ok.mod, I.ok.kind, I.ok.glob, I.ok.blt, I.ok.above, I.ok.inj, I.ok.has, I.ok.cab, I.ok.hd, I.ok.frames, I.ok.stk, I.ok.exf, I.ok.bs, I.ok.bsz, I.ok.noex, I.ok.exfs, I.ok.funs, I.ok.frf⟩, I.os, I.bare, I.base, I.loc, I.cell, I.free, I.freeC, fun p hp => I.pin p (by simpa using hp), I.hok, I.len⟩
theorem Inv.from' {X : Cx} {pins pins' : List (Addr × Obj)} {σ : St} {H : Hp} {s : Shared} {E : Value → Shared → Prop} (I : Inv (X.at' (X.pn ++ pins) E) pins' σ H s) : Inv X pins σ H s :=
  ⟨⟨I.ok.mod, I.ok.kind, I.ok.glob, I.ok.blt, I.ok.above, I.ok.inj, I.ok.has, I.ok.cab, I.ok.hd, I.ok.frames, I.ok.stk, I.ok.exf, I.ok.bs, I.ok.bsz, I.ok.noex, I.ok.exfs, I.ok.funs, I.ok.frf⟩, I.os, I.bare, I.base, I.loc, I.cell, I.free, I.freeC, fun p hp => I.pin p (List.mem_append_left _ hp), I.hok, I.len⟩
abbrev Cx.suite (X : Cx) (e : Addr) : Cx := { X with A := X.A.mark (some (.ref e)), calm := false, xe := fun _ _ => False }
theorem Inv.inSuite {X : Cx} {pins : List (Addr × Obj)} {σ : St} {H : Hp} {s : Shared} (I : Inv X pins σ H s) (e : Addr) : Inv (X.suite e) pins σ H s :=
  ⟨⟨I.ok.mod, I.ok.kind, I.ok.glob, I.ok.blt, I.ok.above, I.ok.inj, I.ok.has, I.ok.cab, (fun h => by cases h), I.ok.frames, I.ok.stk, I.ok.exf, I.ok.bs, I.ok.bsz, I.ok.noex, I.ok.exfs, I.ok.funs, I.ok.frf⟩, I.os, I.bare, I.base, I.loc, I.cell, I.free, I.freeC, I.pin, I.hok, I.len⟩
theorem Inv.outSuite {X : Cx} {pins : List (Addr × Obj)} {σ : St} {H : Hp} {s : Shared} {e : Addr} (I : Inv (X.suite e) pins σ H s) (ok : X.Ok) : Inv X pins σ H s :=
  ⟨ok, I.os, I.bare, I.base, I.loc, I.cell, I.free, I.freeC, I.pin, I.hok, I.len⟩
def ExcO (a : Addr) (cls : Value) : HO := .ext fun h => ∃ o, h.get? a = some o ∧ o.cls = cls
theorem Inv.held {X : Cx} {pins : List (Addr × Obj)} {σ : St} {H : Hp} {s : Shared} {a : Addr} {cls : Value} {o : Obj} (I : Inv X pins σ H s) (e : s.heap.get? a = some o) (hc : o.cls = cls) (n : H a = none) (h0 : X.s₀.heap.get? a = none) (hL : a ≠ X.env.locals) (hC : ∀ x c, X.env.cells.lookup x = some c → c ≠ a) (hp : ∀ p ∈ X.pn ++ pins, p.1 ≠ a) :
    Inv X pins σ (upd H a (ExcO a cls)) s := by
  have tr : ∀ c t, H c = some t → c ≠ a := fun c t q => ne_of_none q n
  refine ⟨I.ok, I.os, I.bare, ⟨I.base.keep, I.base.slot, fun b ob q z hx => ?_, I.base.there, fun b xs q => ?_, fun b ob xs q => ?_, fun b ps q => ?_⟩, I.loc, I.cell, ?_, fun x c q => ?_, fun p hpp => ?_, fun b u q => ?_, I.len⟩
  · have : b ≠ a := fun z' => by rw [z', h0] at q; cases q
    rw [upd_ne this]; exact I.base.free b ob q z hx
  · have z := I.base.tups b xs q
    rw [upd_ne (tr _ _ z)]; exact z
  · have z := I.base.frzs b ob xs q
    rw [upd_ne (tr _ _ z)]; exact z
  · obtain ⟨m, z⟩ := I.base.tbls b ps q
    exact ⟨m, by rw [upd_ne (tr _ _ z)]; exact z⟩
  · rw [upd_ne hL.symm]; exact I.free
  · rw [upd_ne (hC x c q)]; exact I.freeC x c q
  · obtain ⟨z1, z2, z3⟩ := I.pin p hpp
    exact ⟨z1, by rw [upd_ne (hp p hpp)]; exact z2, z3⟩
  · by_cases hb : b = a
    · subst hb
      rw [upd_same] at q
      cases q
      exact ⟨⟨o, e, hc⟩, ⟨o, e⟩, fun h1 h2 ⟨o', q1, q2⟩ k => ⟨o', k _ q1, q2⟩⟩
    · rw [upd_ne hb] at q
      exact (I.hok b u q).stay (fun _ _ _ z => z) (fun c z => by rw [upd_ne (tr c _ z)]; exact z) fun c xs z => by rw [upd_ne (tr c _ z)]; exact z
theorem Inv.unbound {X : Cx} {pins : List (Addr × Obj)} {σ : St} {H : Hp} {s : Shared} {h' : Heap} {t' : Nat} {m : Str → Option Value} {n : Str} {v : Option Value} {j : Nat} (I : Inv X pins σ H s) (hN : X.N.Nodup) (hj : X.N[j]? = some n)
    (hm : ∀ (i : Nat) (x : Str) (v : V), X.N[i]? = some x → σ[i]? = some (some v) → Vis X.env.scope x → ∃ u, RelV v u ∧ Look X.env s.heap m x u) (hs : Heap.SameBut X.env.locals s.heap h') (hn : h'.Ns X.env.locals fun x => if x = n then v else m x) :
    Inv X pins (σ.set j none) H { s with heap := h', toks := t' } := by
  have hjσ : j < σ.length := by rw [I.len]; exact (List.getElem?_eq_some_iff.mp hj).1
  have old : ∀ {b : Addr} {o : Obj}, X.s₀.heap.get? b = some o → b ≠ X.env.locals := fun e => Nat.ne_of_lt (Nat.lt_of_lt_of_le (Heap.lt_size e) I.ok.above)
  refine ⟨I.ok, I.os, I.bare, ⟨fun b o e z hb hx => (hs.2 b (old e)).trans (I.base.keep b o e z hb hx), fun b o e z hb hx => ?_, I.base.free, fun b o e hx => ?_, I.base.tups, I.base.frzs, I.base.tbls⟩, ⟨_, hn, fun i x w e1 e2 e3 => ?_⟩, fun x c e => ?_, I.free, I.freeC, fun p hp => ?_, fun b u e => ?_, by rw [List.length_set]; exact I.len⟩
  · obtain ⟨sl, q⟩ := I.base.slot b o e z hb hx
    exact ⟨sl, (hs.2 b (old e)).trans q⟩
  · obtain ⟨o', q⟩ := I.base.there b o e hx
    exact ⟨o', (hs.2 b (old e)).trans q⟩
  · by_cases hij : i = j
    · subst hij
      rw [List.getElem?_set_self hjσ] at e2
      cases e2
    · rw [List.getElem?_set_ne (Ne.symm hij)] at e2
      obtain ⟨u, r, l⟩ := hm i x w e1 e2 e3
      refine ⟨u, r, ?_⟩
      rcases l with ⟨k, e⟩ | ⟨k, c, e, q⟩
      · refine .inl ⟨k, ?_⟩
        have : x ≠ n := fun z => hij (nodup_ix hN e1 (z ▸ hj))
        show (if x = n then v else m x) = some u
        rw [if_neg this]; exact e
      · exact .inr ⟨k, c, e, q.sameBut hs (I.cne x c e)⟩
  · obtain ⟨w', q⟩ := I.cell x c e
    exact ⟨w', q.sameBut hs (I.cne x c e)⟩
  · obtain ⟨e, z, ne, nf, d⟩ := I.pin p hp
    exact ⟨(hs.2 p.1 ne).trans e, z, ne, nf, d⟩
  · refine (I.hok b u e).stay (fun c w' hc q => (hs.2 c ?_).trans q) (fun _ q => q) fun _ _ q => q
    rcases hc with z | z
    · rw [z]; exact ne_of_none e I.free
    · exact ne_of_none z I.free
def tTry (K : PySem.W.Frag) (C0 : Addr) (len j : Nat) (E1 : XK) (tb ts : TS) : TS := fun D σ H =>
  (∀ (cls : Value) (ea : Addr) (H' : Hp), E1 cls none H' → H' ea = none → PySem.W.exmOne K cls (.ref C0) = some true ∧
    ts { nx := fun σ' H'' => D.nx (σ'.set j none) H'', rt := D.rt, bk := fun σ' H'' => D.bk (σ'.set j none) H'', ct := fun σ' H'' => D.ct (σ'.set j none) H'' } ((List.replicate len none).set j (some (.ref ea))) (upd H' ea (ExcO ea cls))) ∧ tb D σ H
theorem ps_tryAs {X : Cx} {body suite : List Stmt} {b₀ : Stmt} {cn n : Str} {np hpos pos : Pos} {C0 : Addr} {j : Nat} {E1 : XK} {tb ts : TS} (hst : X.stack = X.env :: X.outer) (hfr : X.env.frame = some X.env.locals) (hex : X.ex = []) (hg : Gl X cn) (hm : X.mg cn = some (.ref C0))
    (hN : X.N.Nodup) (hj : X.N[j]? = some n) (hl : X.env.scope.names.lookup n = some .local)
    (hb : ∀ (pn : List (Addr × Obj)) (Xe : Value → Shared → Prop), Passes (CXx X.prog X.w) (X.at' pn Xe) E1 → PSs (X.at' pn Xe) body tb) (hs : ∀ ea : Addr, PSs (X.suite ea) (b₀ :: suite) ts) (hd : (cn == ("__debug__" : Str)) = false := by decide) :
    PS X (.Try body [.ExceptHandler (some (.Name cn np)) (some n) (b₀ :: suite) hpos] [] [] pos) (tTry X.K C0 X.N.length j E1 tb ts) := by
  intro pins s σ H D I h
  obtain ⟨hh, hbody⟩ := h
  have spBack : ∀ {Xe : Value → Shared → Prop} {f : Flow} {s' : Shared}, SP (X.at' (X.pn ++ pins) Xe) [] D f s' → SP X pins D f s' := fun {Xe f s'} q => by
    cases f with
    | next => obtain ⟨σ', H', J, z⟩ := q; exact ⟨σ', H', J.from', z⟩
    | brk => obtain ⟨σ', H', J, z⟩ := q; exact ⟨σ', H', J.from', z⟩
    | cont => obtain ⟨σ', H', J, z⟩ := q; exact ⟨σ', H', J.from', z⟩
    | ret u => obtain ⟨v, σ', H', J, r, z⟩ := q; exact ⟨v, σ', H', J.from', r, z⟩
  refine wpAny_Try_except (wpAny_mono (hb (X.pn ++ pins) _ ?_ [] s σ H D (I.to' _) hbody) (fun f s1 q => ?_) fun e s1 q => q)
  · intro pins' σ' H1 s1 e s2 I1 hq
    obtain ⟨ea, cls, a0, H2, B, rfl, os, bare, fl, hokB, un, keepB, thereB, f1, q⟩ := hq
    obtain ⟨hmatch, hsuite⟩ := hh cls ea H2 q f1
    have I1' : Inv X pins σ' H1 s1 := I1.from'
    have fl0 := fl.2.2.1
    have hfl := fl
    have frames : X.A.frames = some (X.env :: X.outer) := by rw [← hst]; exact I.ok.frames
    have fl : Heap.FlyingW B (X.env :: X.outer) ea cls a0 s2.heap := by rw [← hst]; exact hfl
    refine wpAny_looks_onW frames hfr fl fun h4 held4 up4 => wpAny_landsW held4 fun h5 fl5 up5 => ?_
    have up45 := up4.trans up5
    rw [← hst] at fl5
    have I5 : Inv X pins σ' H2 { s2 with heap := h5 } := I1'.flown os bare un hokB keepB thereB fl0 fl5 up45
    obtain ⟨ob, hob, hobc⟩ := fl5.there
    refine wpAny_handleBy_cons (codeAny_handlers_test (ld_glob (I5.inSuite ea) hg hm ?_ hd)) (by intro z; cases z)
    refine PySem.W.exm_one (M := model X.prog X.w) I5.kIn (hobc ▸ (PySem.W.Looks.ld hob).andThen .now) hmatch _ _ _ _ (fun _ _ z => z) ?_
    show codeAny _ _ _ _ _
    refine codeAny_handlers_suite_as (lands_againW fl5 fun h6 fl6 up6 => ?_)
    have I6 : Inv X pins σ' H2 { s2 with heap := h6 } := I1'.flown os bare un hokB keepB thereB fl0 fl6 (up45.trans up6)
    obtain ⟨oe, ho6, hc6⟩ := fl6.there
    have eaB : B.get? ea = none := fl6.2.1
    have exF : ∃ oe vs, h6.get? ea = some oe ∧ oe.data = .fields vs := by
      obtain ⟨_, _, _, oe, vs, _, _, _, q1, _, q2, _⟩ := fl6
      exact ⟨oe, vs, q1, q2⟩
    have notFr : ea ∉ frs X.stack := fun z => by
      obtain ⟨_, o3, e3, nf⟩ := fl6.2.2.1.mem z
      obtain ⟨oe, vs, q1, q2⟩ := exF
      rw [q1] at e3
      cases e3
      exact nf vs q2
    have notUn : ∀ b o, s1.heap.get? b = some o → b ∉ frs X.stack → b ≠ ea := fun b o q1 q2 z => by
      obtain ⟨o', q3⟩ := thereB b o q1 q2
      rw [z, eaB] at q3; cases q3
    have locFr : X.env.locals ∈ frs X.stack := by rw [hst]; exact frs_mem List.mem_cons_self hfr
    have h0 : X.s₀.heap.get? ea = none := by
      cases z : X.s₀.heap.get? ea with
      | none => rfl
      | some o =>
        obtain ⟨o', q1⟩ := I1'.base.there ea o z (by rw [hex]; simp)
        exact absurd rfl (notUn ea o' q1 notFr)
    have I7 := (I6.held (cls := cls) ho6 hc6 f1 h0 (fun z => notFr (z ▸ locFr)) (fun x c z => by
        obtain ⟨v, o, q1, _⟩ := I1'.cell x c z
        by_cases q2 : c ∈ frs X.stack
        · exact fun z => notFr (z ▸ q2)
        · exact notUn c o q1 q2) (fun p hp => by
        obtain ⟨q1, _, q3, q4, _⟩ := I1'.pin p hp
        exact notUn p.1 p.2 q1 fun z => by
          rcases List.mem_cons.mp (I1'.stkSub p.1 z) with z | z
          · exact q3 z
          · exact q4 z)).weak (σ' := List.replicate X.N.length none) (by rw [List.length_replicate, I6.len]) (fun i v z => by
        rw [List.getElem?_replicate] at z
        split at z <;> cases z)
    refine store_ok (X := X.suite ea) (v := .ref ea) (I7.inSuite ea) hN hj (.inl hl) rfl (fun s8 I8 => ?_) (.inr hl)
    refine wpAny_mono (hs ea pins s8 _ _ _ I8 hsuite) (fun f s9 q9 => ?_) fun _ _ z => z.elim
    have goes : ∀ {σ9 : St} {H9 : Hp} {R : Shared → Prop}, Inv (X.suite ea) pins σ9 H9 s9 → (∀ s10, Inv X pins (σ9.set j none) H9 s10 → R s10) → wpAny (model X.prog X.w) X.A (do bindName X.env n .none; unbindBehindTheSuite X.env n hpos) (fun _ s10 => R s10) X.xe s9 := fun {σ9 H9 R} I9 k => by
      have J9 := I9.outSuite I6.ok
      obtain ⟨m, hm9, hl9⟩ := J9.loc
      exact wpAny_nameGoes_keeps hl hm9 (by rw [J9.ok.kind]; rfl) fun h' v hn' hs' => k _ (J9.unbound hN hj hl9 hs' hn')
    cases f with
    | next =>
      obtain ⟨σ9, H9, I9, z⟩ := q9
      exact goes I9 fun s10 J => ⟨_, _, J, z⟩
    | brk =>
      obtain ⟨σ9, H9, I9, z⟩ := q9
      exact goes I9 fun s10 J => ⟨_, _, J, z⟩
    | cont =>
      obtain ⟨σ9, H9, I9, z⟩ := q9
      exact goes I9 fun s10 J => ⟨_, _, J, z⟩
    | ret u =>
      obtain ⟨v, σ9, H9, I9, r, z⟩ := q9
      exact goes I9 fun s10 J => ⟨v, _, _, J, r, z⟩
  · cases f with
    | next => exact wpAny_execs_nil (spBack q)
    | brk => exact spBack q
    | cont => exact spBack q
    | ret u => exact spBack q
end L2
set_option Elab.async false
set_option linter.all false
set_option maxRecDepth 100000
namespace L2
open PySem PySem.Spec PyProof.Rows
structure XIs (K : PySem.W.Frag) (D : Addr) : Prop where
  hg : PySem.W.plainGet K D "__class__" = true
  hc : (PySem.W.clsIn K D).isSome = true
  ha : PySem.W.findIn K (.ref D) "__class__" = some (some (.builtin "object.__class__"))
  hn : PySem.W.specialIn K (.builtin "object.__class__") "__get__" = some (some (.builtin "getset_descriptor.__get__"))
  ht : PySem.W.takesIn K (.builtin "object.__class__") = some true
  hm : PySem.W.mroIn K D (.type "object") = some true
section
variable {K : PySem.W.Frag} {x D : Addr}
theorem find_data {M : Model} {hp : Heap} {a g : Value} {nm : Str} (X : K.In hp) (ha : PySem.W.findIn K (.ref D) nm = some (some a)) (hg : PySem.W.specialIn K a "__get__" = some (some g)) (ht : PySem.W.takesIn K a = some true) :
    PySem.W.Looks M hp (Builtin.ObjectAttr.find (.ref x) (.ref D) nm) (.bind g a) := by
  have l1 := PySem.W.looks_findIn (M := M) X ha
  have l2 : PySem.W.Looks M hp (Builtin.ObjectAttr.getOf (some a)) (some g) := PySem.W.looks_specialIn X hg
  have l3 : PySem.W.Looks M hp (Builtin.ObjectAttr.dataDescriptor? (some a) (some g)) (some (g, a)) := (PySem.W.looks_takesIn (M := M) X ht).andThen .now
  exact l1.andThen (l2.andThen (l3.andThen (PySem.W.Looks.tag .now)))
variable {prog : Program} {w : World} {A : Around} {E : Value → Shared → Prop} {s : Shared} {nm : Str}
theorem class_of {tp : Value} {R : Result → Shared → Prop} (X : K.In s.heap) (T : ∀ M, PySem.W.Looks M s.heap (typeOf (.ref x)) (.ref D)) (hm : PySem.W.mroIn K D (.type "object") = some true) (h : R (.ok (.ret (.ref D))) s) :
    codeAny (model prog w) A (.call (.builtin "getset_descriptor.__get__") ⟨[.builtin "object.__class__", .ref x, tp], []⟩) R s := by
  obtain ⟨hp, gn, dr, tk, os⟩ := s
  have t0 := T (model prog w)
  have t1 := PySem.W.looks_mroIn (M := model prog w) X hm
  refine codeAny_call_builtin PySem.W.KF.slot_gs.plain PySem.W.KF.entry_gs (PySem.W.KF.slot_gs.check _ _ _ _ _ _ _ _ PySem.W.KF.type_class (PySem.W.KF.args_gs _ _ _) ?_)
  open Builtin Builtin.ObjectAttr Builtin.Getset_descriptor in
  (unfold Builtin.«getset_descriptor.__get__»; unfold descrGet
   rw [PySem.W.dga_obj]
   refine wpAny_bind (wpAny_pure ?_)
   unfold descrGetter; unfold descrCheckInstance; unfold descrNameAndClass; unfold isInstance
   simp only [PySem.W.KF.owner_class])
  repeat lk
  refine ⟨Code.quiet_builtin _ (by decide +kernel), codeAny_builtin PySem.W.KF.entry_class ?_⟩
  unfold Builtin.«object.__class__»; unfold shownTypeOf
  repeat lk
  exact h
end
section
variable {X : Cx}
end
end L2
set_option Elab.async false
set_option linter.all false
set_option maxRecDepth 100000
namespace L2
open PySem PySem.Spec PyProof.Rows
section
variable {κ : Type} [DecidableEq κ]
def valV (kvs : List (κ × V)) (k : κ) : Option V := (kvs.find? fun kv => decide (kv.1 = k)).map (·.2)
def putK (kvs : List (κ × V)) (k : κ) (v : V) : List (κ × V) :=
  if (kvs.any fun kv => decide (kv.1 = k)) = true then kvs.map (fun kv => if kv.1 = k then (kv.1, v) else kv) else kvs ++ [(k, v)]
def dropK (kvs : List (κ × V)) (k : κ) : List (κ × V) := kvs.filter fun kv => decide (kv.1 ≠ k)
theorem valV_pos {p : κ × V} {r : List (κ × V)} {k : κ} (e : p.1 = k) : valV (p :: r) k = some p.2 := by simp [valV, List.find?_cons, e]
theorem valV_neg {p : κ × V} {r : List (κ × V)} {k : κ} (e : ¬ p.1 = k) : valV (p :: r) k = valV r k := by simp [valV, List.find?_cons, e]
theorem valV_any (k : κ) : ∀ kvs : List (κ × V), (kvs.any fun kv => decide (kv.1 = k)) = (valV kvs k).isSome
  | [] => rfl
  | p :: r => by
    rw [List.any_cons]
    by_cases e : p.1 = k
    · simp only [valV_pos e, decide_eq_true e, Bool.true_or, Option.isSome_some]
    · rw [valV_neg e, decide_eq_false e, Bool.false_or]; exact valV_any k r
theorem RelO.isSome_eq {o : Option V} {u : Option Value} (r : RelO o u) : o.isSome = u.isSome := by
  cases o with
  | none => cases u with
    | none => rfl
    | some _ => exact (show False from r).elim
  | some _ => cases u with
    | none => exact (show False from r).elim
    | some _ => rfl
theorem RelO.getD {o : Option V} {u : Option Value} {d : V} {d' : Value} (r : RelO o u) (rd : RelV d d') : RelV (o.getD d) (u.getD d') := by
  cases o with
  | none => cases u with
    | none => exact rd
    | some _ => exact (show False from r).elim
  | some _ => cases u with
    | none => exact (show False from r).elim
    | some _ => exact r
theorem KV.val {kvs : List (κ × V)} {vs : List (κ × Value)} (r : KV kvs vs) (k : κ) : RelO (valV kvs k) (valueAt vs k) := by
  unfold KV at r
  induction r with
  | nil => exact True.intro
  | @cons p q ps qs h t ih =>
    obtain ⟨h1, h2⟩ := h
    by_cases e : p.1 = k
    · have e' : q.1 = k := h1.symm.trans e
      have b : valueAt (q :: qs) k = some q.2 := by simp [valueAt, List.find?_cons, e']
      rw [valV_pos e, b]; exact h2
    · have e' : ¬ q.1 = k := fun z => e (h1.trans z)
      have b : valueAt (q :: qs) k = valueAt qs k := by simp [valueAt, List.find?_cons, e']
      rw [valV_neg e, b]; exact ih
theorem KV.any {kvs : List (κ × V)} {vs : List (κ × Value)} (r : KV kvs vs) (k : κ) : (kvs.any fun kv => decide (kv.1 = k)) = vs.any fun kv => decide (kv.1 = k) := by
  unfold KV at r
  induction r with
  | nil => rfl
  | cons h t ih => rw [List.any_cons, List.any_cons, ih, h.1]
theorem KV.repl {kvs : List (κ × V)} {vs : List (κ × Value)} (r : KV kvs vs) (k : κ) {y : V} {u : Value} (ry : RelV y u) :
    KV (kvs.map fun kv => if kv.1 = k then (kv.1, y) else kv) (vs.map fun kv => if kv.1 = k then (kv.1, u) else kv) := by
  unfold KV at r ⊢
  induction r with
  | nil => exact .nil
  | @cons p q ps qs h t ih =>
    rw [List.map_cons, List.map_cons]
    refine .cons ?_ ih
    obtain ⟨h1, h2⟩ := h
    by_cases e : p.1 = k
    · rw [if_pos e, if_pos (h1.symm.trans e)]; exact ⟨h1, ry⟩
    · rw [if_neg e, if_neg (fun z => e (h1.trans z))]; exact ⟨h1, h2⟩
theorem KV.put {kvs : List (κ × V)} {vs : List (κ × Value)} (r : KV kvs vs) (k : κ) {y : V} {u : Value} (ry : RelV y u) : KV (putK kvs k y) (stored vs k u) := by
  unfold putK stored
  rw [r.any k]
  by_cases e : (vs.any fun kv => decide (kv.1 = k)) = true
  · rw [if_pos e, if_pos e]; exact r.repl k ry
  · rw [if_neg e, if_neg e]; exact Paired.snoc r ⟨rfl, ry⟩
theorem KV.drop {kvs : List (κ × V)} {vs : List (κ × Value)} (r : KV kvs vs) (k : κ) : KV (dropK kvs k) (without vs k) := by
  unfold KV at r ⊢
  unfold dropK without
  induction r with
  | nil => exact .nil
  | @cons p q ps qs h t ih =>
    obtain ⟨h1, h2⟩ := h
    rw [List.filter_cons, List.filter_cons]
    by_cases e : p.1 = k
    · have a : ¬ decide (p.1 ≠ k) = true := by simp [e]
      have b : ¬ decide (q.1 ≠ k) = true := by simp [h1.symm.trans e]
      rw [if_neg a, if_neg b]; exact ih
    · have e' : ¬ q.1 = k := fun z => e (h1.trans z)
      have a : decide (p.1 ≠ k) = true := by simp [e]
      have b : decide (q.1 ≠ k) = true := by simp [e']
      rw [if_pos a, if_pos b]; exact .cons ⟨h1, h2⟩ ih
theorem KV.keys {kvs : List (κ × V)} {vs : List (κ × Value)} (r : KV kvs vs) : kvs.map (·.1) = vs.map (·.1) := by
  unfold KV at r
  induction r with
  | nil => rfl
  | cons h t ih => rw [List.map_cons, List.map_cons, ih, h.1]
theorem KV.length {kvs : List (κ × V)} {vs : List (κ × Value)} (r : KV kvs vs) : kvs.length = vs.length := Paired.length r
end
abbrev KT (H : Hp) : List (List Key × V) → List (List Key × Addr × Value) → Prop := Paired fun p q => p.1 = q.1 ∧ H q.2.1 = some (.tup (p.1.map kV)) ∧ RelV p.2 q.2.2
theorem KT.val {H : Hp} {kvs : List (List Key × V)} {xs : List (List Key × Addr × Value)} (r : KT H kvs xs) (k : List Key) : RelO (valV kvs k) ((atKey xs k).map (·.2)) := by
  induction r with
  | nil => exact True.intro
  | @cons p q ps qs h t ih =>
    obtain ⟨h1, _, h2⟩ := h
    by_cases e : p.1 = k
    · have e' : q.1 = k := h1.symm.trans e
      have b : atKey (q :: qs) k = some q.2 := by simp [atKey, List.find?_cons, e']
      rw [valV_pos e, b]; exact h2
    · have e' : ¬ q.1 = k := fun z => e (h1.trans z)
      have b : atKey (q :: qs) k = atKey qs k := by simp [atKey, List.find?_cons, e']
      rw [valV_neg e, b]; exact ih
theorem KT.repl {H : Hp} {kvs : List (List Key × V)} {xs : List (List Key × Addr × Value)} (r : KT H kvs xs) (k : List Key) {y : V} {u : Value} (ry : RelV y u) :
    KT H (kvs.map fun kv => if kv.1 = k then (kv.1, y) else kv) (xs.map (putAt k u)) := by
  induction r with
  | nil => exact .nil
  | @cons p q ps qs h t ih =>
    rw [List.map_cons, List.map_cons]
    refine .cons ?_ ih
    obtain ⟨h1, h2, h3⟩ := h
    unfold putAt
    by_cases e : p.1 = k
    · rw [if_pos e, if_pos (h1.symm.trans e)]; exact ⟨h1, h2, ry⟩
    · rw [if_neg e, if_neg (fun z => e (h1.trans z))]; exact ⟨h1, h2, h3⟩
theorem KT.put {H : Hp} {kvs : List (List Key × V)} {xs : List (List Key × Addr × Value)} (r : KT H kvs xs) (k : List Key) {b : Addr} {y : V} {u : Value} (hb : H b = some (.tup (k.map kV))) (ry : RelV y u) :
    KT H (putK kvs k y) (storedH xs k b u) := by
  have e : (kvs.any fun kv => decide (kv.1 = k)) = (atKey xs k).isSome := by
    rw [valV_any, (r.val k).isSome_eq, Option.isSome_map]
  unfold putK storedH
  rw [e]
  by_cases q : (atKey xs k).isSome = true
  · rw [if_pos q, if_pos q]; exact r.repl k ry
  · rw [if_neg q, if_neg q]; exact Paired.snoc r ⟨rfl, hb, ry⟩
theorem KT.keeps {H H' : Hp} {kvs : List (List Key × V)} {xs : List (List Key × Addr × Value)} (r : KT H kvs xs) (ht : ∀ b ys, H b = some (.tup ys) → H' b = some (.tup ys)) : KT H' kvs xs :=
  Paired.mapP r fun _ _ z => ⟨z.1, ht _ _ z.2.1, z.2.2⟩
section
variable {P : Program} {w : World} {H : Hp} {h : Heap} {a : Addr}
end
def DGet (H : Hp) (a : Addr) (y : V) (r : Option V) : Prop :=
  (∃ kvs k, Rd H a (.dK kvs) ∧ y = kV k ∧ r = valV kvs k) ∨ ∃ kvs k b, Rd H a (.dT kvs) ∧ y = .ref b ∧ H b = some (.tup (k.map kV)) ∧ r = valV kvs k
def DPut (H : Hp) (a : Addr) (y v : V) (H' : Hp) : Prop :=
  (∃ kvs k, H a = some (.dK kvs) ∧ y = kV k ∧ kvs.length < sizeLine ∧ H' = upd H a (.dK (putK kvs k v))) ∨
  ∃ kvs k b, H a = some (.dT kvs) ∧ y = .ref b ∧ H b = some (.tup (k.map kV)) ∧ kvs.length < sizeLine ∧ H' = upd H a (.dT (putK kvs k v))
theorem DGet.k {H : Hp} {a : Addr} {kvs : List (Key × V)} {k : Key} (e : H a = some (.dK kvs)) : DGet H a (kV k) (valV kvs k) := .inl ⟨kvs, k, .inl e, rfl, rfl⟩
theorem DGet.t {H : Hp} {a b : Addr} {kvs : List (List Key × V)} {k : List Key} (e : H a = some (.dT kvs)) (eb : H b = some (.tup (k.map kV))) : DGet H a (.ref b) (valV kvs k) := .inr ⟨kvs, k, b, .inl e, rfl, eb, rfl⟩
theorem DPut.k {H : Hp} {a : Addr} {kvs : List (Key × V)} {k : Key} {v : V} (e : H a = some (.dK kvs)) (hl : kvs.length < sizeLine) : DPut H a (kV k) v (upd H a (.dK (putK kvs k v))) := .inl ⟨kvs, k, e, rfl, hl, rfl⟩
theorem DPut.t {H : Hp} {a b : Addr} {kvs : List (List Key × V)} {k : List Key} {v : V} (e : H a = some (.dT kvs)) (eb : H b = some (.tup (k.map kV))) (hl : kvs.length < sizeLine) :
    DPut H a (.ref b) v (upd H a (.dT (putK kvs k v))) := .inr ⟨kvs, k, b, e, rfl, eb, hl, rfl⟩
section
variable {X : Cx} {pins : List (Addr × Obj)} {σ : St} {H : Hp} {s : Shared} {a : Addr} {y v : V} {u r : Value} {o : Option V} {A : Around} {E : Value → Shared → Prop}
theorem Inv.big (I : Inv X pins σ H s) : sysModules < s.heap.objs.size := by
  have h : mainGlobals < s.heap.objs.size := (I.mod.glob.keeps I.bk).lt
  exact Nat.lt_trans (by decide) h
end
section
variable {X : Cx} {pins : List (Addr × Obj)} {σ : St} {H : Hp} {s : Shared} {a : Addr} {kvs : List (Key × V)} {k : Key} {u : Value} {A : Around} {E : Value → Shared → Prop}
end
section
variable {X : Cx} {o i e value : Expr} {pos pos' tpos : Pos} {td ty tv : TE}
end
section
variable {X : Cx} {pos : Pos}
end
structure M1 (X : Cx) (o : Expr) (m : Str) (apos : Pos) (e : Expr) (cpos : Pos) : Prop where
  base : attributeBase o m X.env (eval o X.env) = eval o X.env
  few : ((backTo cpos (starEach [e] X.env)).all (fun x => !x.1) && (backToKw cpos (keywordEach [] X.env)).all (fun x => x.1.isSome)
    && decide (([e] : List Expr).length + ([] : List Keyword).length + (if ([] : List Keyword).isEmpty then 0 else 1) < 30)) = true
  line : (apos.endLine == cpos.line) = true
  trees : backTo cpos (starEach [e] X.env) = [(false, eval e X.env)]
structure M2 (X : Cx) (o : Expr) (m : Str) (apos : Pos) (e f : Expr) (cpos : Pos) : Prop where
  base : attributeBase o m X.env (eval o X.env) = eval o X.env
  few : ((backTo cpos (starEach [e, f] X.env)).all (fun x => !x.1) && (backToKw cpos (keywordEach [] X.env)).all (fun x => x.1.isSome)
    && decide (([e, f] : List Expr).length + ([] : List Keyword).length + (if ([] : List Keyword).isEmpty then 0 else 1) < 30)) = true
  line : (apos.endLine == cpos.line) = true
  trees : backTo cpos (starEach [e, f] X.env) = [(false, eval e X.env), (false, eval f X.env)]
section
variable {X : Cx} {pins : List (Addr × Obj)} {σ : St} {H : Hp} {s : Shared} {a : Addr} {y d : V} {u r : Value} {o : Option V} {A : Around} {E : Value → Shared → Prop}
end
section
variable {X : Cx} {o e f : Expr} {apos cpos : Pos} {td ty tx : TE}
end
section
variable {X : Cx} {pins : List (Addr × Obj)} {σ : St} {H : Hp} {s : Shared} {a : Addr} {kvs : List (Key × V)} {A : Around} {E : Value → Shared → Prop}
end
section
variable {X : Cx} {pins : List (Addr × Obj)} {σ : St} {H : Hp} {s : Shared} {a : Addr} {y : V} {u : Value} {A : Around} {E : Value → Shared → Prop}
end
end L2
namespace L2
open PySem PySem.Spec PyProof.Rows
section
variable {X : Cx}
end
section
variable {κ : Type} [DecidableEq κ]
end
end L2
set_option Elab.async false
set_option linter.all false
set_option maxRecDepth 100000
namespace L2
open PySem PySem.Spec PyProof.Rows
def Asc (z : Str) : Prop := z.cps.all (· < 128) = true
def Its (z : Str) : It := ⟨fun i _ => i < z.cps.size, fun i H x H' => H' = H ∧ ∃ c, z.cps[i]? = some c ∧ x = .str ⟨#[c]⟩, fun i _ => z.cps.size ≤ i⟩
theorem turn_str {P : Program} {w : World} {K : PySem.W.Frag} {tg : Expr} (it : Addr) (z : Str) (tk : Tok) : Turn P w K tg (Its z) [it] it (fun i h => h.IsStrIter it "str_ascii_iterator" z tk i) where
  mem := by simp
  obj := fun i h st b hb => by
    have e : b = it := by simpa using hb
    subst e
    obtain ⟨o, e, c, d⟩ := st
    exact ⟨o, e, fun v q => by rw [d] at q; cases q⟩
  keep := fun i h h' st k => by
    obtain ⟨o, e, r⟩ := st
    exact ⟨o, k it (by simp) o e, r⟩
  item := by
    intro X hP hw hK hc i pins s σ H E I hf st hg
    subst hP hw hK
    obtain ⟨f0, f1, f2, f3, f4, f5⟩ := hf it (by simp)
    have hlt : i < z.cps.size := hg
    refine wpAny_pyNext_ascii_item st (c := z.cps[i]) (by simp [hlt]) fun h' st' sb => ?_
    have I1 : Inv X pins σ H { s with heap := h', toks := s.toks + 1 } := I.turned (fun b o hb e => (sb.2 b hb).trans e) f0 f1 f3 f4 f5
    obtain ⟨o, e, c, d⟩ := id st'
    exact ⟨_, rfl, go_of (s := { s with heap := h', toks := s.toks + 1 }) e c d (by decide) ⟨.str ⟨#[z.cps[i]]⟩, H, I1, ⟨_, rfl⟩, ⟨rfl, z.cps[i], by simp [hlt], rfl⟩, st', fun b hb => (hf b hb).1⟩⟩
  done := by
    intro X hP hw hK hc i pins s σ H E I hf st hg
    subst hP hw hK
    obtain ⟨f0, f1, f2, f3, f4, f5⟩ := hf it (by simp)
    have hle : z.cps.size ≤ i := hg
    exact wpAny_pyNext_ascii_end (I.ok.hd hc) st (by simp [hle]) fun h' eb => ⟨rfl, I.turned (t' := s.toks) (fun b o hb e => eb b o hb e) f0 f1 f3 f4 f5⟩
  self := fun _ _ _ _ _ st h => wpAny_pyIter_striter_ascii st h
def iStr (tl : TE) : TI := fun σ H R => tl σ H fun x H1 => ∃ z, x = .str z ∧ Asc z ∧ R (Its z) H1
theorem pi_str {X : Cx} {tg l : Expr} {tl : TE} (hl : PE X l tl) : PI X tg l (iStr tl) := by
  intro pins s σ H R I h
  refine thn (hl pins s σ H _ I h) fun v s1 ⟨x, H1, I1, r1, z, e, ha, q⟩ => ?_
  subst e
  obtain ⟨t, rfl⟩ := r1
  refine wpAny_pyIter_ascii ha ?_
  refine ⟨s1.heap.objs.size, [s1.heap.objs.size], _, _, H1, rfl, I1.kept (t' := s1.toks) fun b o e => Heap.get?_push_of_some _ e, turn_str _ z t, ⟨_, Heap.get?_push_size _ rfl, rfl, rfl⟩, fun b hb => ?_, q⟩
  have e : b = s1.heap.objs.size := by simpa using hb
  subst e
  exact I1.fpOk (Nat.le_refl _) (I1.hok.fresh (Nat.le_refl _))
section
variable {z : Str} {wi : TI} {g : TG} {tb : TS} {D : Ends} {σ : St} {H H1 : Hp} {ix : List (Option Nat)} {tc : TT} {te : TE} {Q : VK}
theorem tComp_str (hw : ∀ R : It → Hp → Prop, R (Its z) H1 → wi σ H R) (Pv : Nat → List V → Hp → Prop) (h0 : Pv 0 [] H1) (hx : z.cps.size ≤ sizeLine) (hz : ∀ i ys H, Pv i ys H → ys.length ≤ i)
    (hs : ∀ i c ys H, z.cps[i]? = some c → Pv i ys H → g (.str ⟨#[c]⟩) (lift ix σ) H fun σ2 H2 => tc σ2 H2 fun b H3 => if b = true then te σ2 H3 fun v H4 => Pv (i + 1) (ys ++ [v]) H4 else Pv (i + 1) ys H3)
    (hd : ∀ ys H p, Pv z.cps.size ys H → H p = none → Q (.ref p) (upd H p (.lst ys))) : tComp ix wi g tc te σ H Q := by
  refine hw _ ⟨fun i m ys H => m = z.cps.size - i ∧ i ≤ z.cps.size ∧ Pv i ys H, ⟨z.cps.size, by simp, Nat.zero_le _, h0⟩, ?_⟩
  rintro i m ys H ⟨rfl, hi, p⟩
  have zz := hz i ys H p
  by_cases hlt : i < z.cps.size
  · refine .inr ⟨hlt, by omega, Pv (i + 1), fun ys' H' p' => ⟨z.cps.size - (i + 1), by omega, rfl, hlt, p'⟩, fun x H' y => ?_⟩
    obtain ⟨e, c, hc, rfl⟩ := y
    subst e
    exact hs i c ys _ hc p
  · have e : i = z.cps.size := by omega
    subst e
    exact .inl ⟨Nat.le_refl _, by omega, fun pp hp => hd ys H pp p hp⟩
end
theorem sl_str {X : Cx} : SlR X (fun x lo hi H Q => ∃ z, x = .str z ∧ z.length ≤ sizeLine ∧ Q (.str (Txt.slice z lo hi)) H) := by
  intro pins s σ H x v vl vu lo hi sl Q I rx hs pl pu h
  obtain ⟨z, rfl, hz, q⟩ := h
  obtain ⟨t, rfl⟩ := rx
  have part : ∀ {v : Value} {o : Option Int}, IsPart v o → ∃ p : Option (Int × Tok), v = partValue p ∧ o = p.map (·.1) := fun {v o} p => by
    cases p with
    | none => exact ⟨none, rfl, rfl⟩
    | int i t => exact ⟨some (i, t), rfl, rfl⟩
  obtain ⟨p1, rfl, rfl⟩ := part pl
  obtain ⟨p2, rfl, rfl⟩ := part pu
  refine ⟨"str", _, F.slot_str_getitem.lookup, typeIs_str _ _ _, wpAny_getItem_str_slice (l := p1) (u := p2) (st := none) hs rfl ?_⟩
  refine post_val_or_str ⟨Nat.le_trans (Txt.slice_le z _ _) hz, fun t' k => ⟨.str _, H, I.tok k, ⟨t', rfl⟩, q⟩⟩
section
variable {X : Cx}
theorem truth_bools {P : Program} {w : World} {A : Around} {its : Array Value} {bs : List Bool} (r : Vals (bs.map V.bl) its.toList) : TruthOf P w A (fun i v => its[i]? = some v) fun i => bs.getD i false := by
  intro i v s Q E hv hQ
  have hv' : its.toList[i]? = some v := by simpa using hv
  have hlen := r.length
  have hi : i < bs.length := by
    have := (List.getElem?_eq_some_iff.mp hv').1
    rw [← hlen, List.length_map] at this
    exact this
  have hb : (bs.map V.bl)[i]? = some (V.bl bs[i]) := by rw [List.getElem?_map, List.getElem?_eq_getElem hi]; rfl
  obtain ⟨u, hu, ru⟩ := r.get hb
  rw [hv'] at hu
  cases hu
  cases ru
  refine wpAny_truthy_bool ?_
  have e : bs.getD i false = bs[i] := by simp [hi]
  have hQ' : Q (bs.getD i false) s := hQ
  rw [e] at hQ'
  exact hQ'
theorem range_all (bs : List Bool) : (List.range bs.length).all (fun i => bs.getD i false) = bs.all id := by
  rw [Bool.eq_iff_iff, List.all_eq_true, List.all_eq_true]
  constructor
  · intro h b hb
    obtain ⟨i, hi, rfl⟩ := List.mem_iff_getElem.mp hb
    have := h i (List.mem_range.mpr hi)
    simpa [hi] using this
  · intro h i hi
    have hi' := List.mem_range.mp hi
    have := h bs[i] (List.getElem_mem hi')
    simpa [hi'] using this
theorem call_all' (hc : X.calm = true) : CallR X (.builtin "all") (fun xs H Q => ∃ (a : Addr) (bs : List Bool), xs = [.ref a] ∧ SqL X.K H a (bs.map V.bl) ∧ Q (.bl (bs.all id)) H) := by
  intro pins s σ H xs us Q I r h
  obtain ⟨a, bs, rfl, hq, q⟩ := h
  obtain ⟨u, rfl, ru⟩ := vals1 r
  cases ru
  obtain ⟨its, rv, pl, _⟩ := I.list hq
  refine call_all_walk (wpAny_pyIter_list pl.isList ?_)
  have hne : a ≠ s.heap.objs.size := by
    obtain ⟨o, n, e, _⟩ := pl
    exact Nat.ne_of_lt (Heap.lt_size e)
  refine ⟨s.heap.objs.size, _, _, _, _, _, _, rfl, Walks.list (A := X.A.in1) (show X.A.in1.handled = none from I.ok.hd hc) _ a hne its.toArray, ⟨⟨_, Heap.get?_push_size _ rfl, rfl, rfl⟩, pl.isList.push _⟩, truth_bools (bs := bs) (by simpa using rv), fun h' tk k => ?_⟩
  have hsz : its.toArray.size = bs.length := by rw [List.size_toArray, ← rv.length, List.length_map]
  rw [hsz, range_all]
  exact ⟨.bl _, H, I.kept fun b o e => k b o (by
    simp only [List.mem_cons, List.not_mem_nil, or_false]
    exact Nat.ne_of_lt (Heap.lt_size e)) (Heap.get?_push_of_some _ e), rfl, q⟩
end
end L2
set_option Elab.async false
set_option linter.all false
set_option maxRecDepth 100000
namespace L2
open PySem PySem.Spec PyProof.Rows
section
variable {X : Cx}
theorem op_le_str : OpR X (compareOp .LtE) (fun x y H Q => ∃ i j, x = .str i ∧ y = .str j ∧ Q (.bl (!(decide (j.cps.toList < i.cps.toList)))) H) := by
  intro pins s σ H x y v u Q I rx ry h
  obtain ⟨i, j, rfl, rfl, q⟩ := h
  obtain ⟨t, rfl⟩ := rx
  obtain ⟨t', rfl⟩ := ry
  exact PySem.P.le_str (fin_bl I q rfl)
def rMulS : R2 := fun x y H Q => ∃ z n, x = .str z ∧ y = .int n ∧ 0 ≤ n ∧ n ≤ 1000 ∧ z.length ≤ 1000 ∧ Q (.str (Txt.mul z n)) H
theorem op_mulS : OpR X (binaryOp .Mult) rMulS := by
  intro pins s σ H x y v u Q I rx ry h
  obtain ⟨z, n, rfl, rfl, h0, h1, hz, q⟩ := h
  obtain ⟨t, rfl⟩ := rx
  obtain ⟨t', rfl⟩ := ry
  have hm : z.length * n.toNat ≤ 1000 * 1000 := Nat.mul_le_mul hz (by omega)
  refine SB.mul ⟨?_, fun a b => ?_, fun a b => ?_⟩ (fun t2 k => ⟨.str _, H, I.tok k, ⟨t2, rfl⟩, q⟩)
  · have e1 : decide (n < -(2 ^ 63 : Int)) = false := decide_eq_false (by omega)
    have e2 : decide (n ≥ 2 ^ 63) = false := decide_eq_false (by omega)
    rw [e1, e2]; rfl
  · have hn : 1 ≤ n := by omega
    have : (1000 : Int) ≤ (2 ^ 63 - 1) / n := by
      rw [Int.le_ediv_iff_mul_le (by omega)]
      omega
    omega
  · unfold PySem.Builtin.Str.tooLong
    exact decide_eq_false (by have : sizeLine = 16777216 := sizeLine_eq; omega)
end
end L2
set_option Elab.async false
set_option linter.all false
set_option maxRecDepth 100000
namespace L2
open PySem PySem.Spec PyProof.Rows
section
variable {X : Cx} {K : PySem.W.Frag}
theorem ix_listK (h : X.K = K) : IxR X (rIxL K) := h ▸ ix_list
theorem ix_tupK (h : X.K = K) : IxR X (rIxT K) := h ▸ ix_tup
theorem ix_seqK (h : X.K = K) : IxR X (rIx K) := h ▸ ix_seq
theorem sl_listK (h : X.K = K) : SlR X (rSlL K) := h ▸ sl_list
theorem sl_tupK (h : X.K = K) : SlR X (rSlT K) := h ▸ sl_tup
theorem op_in_seqK (h : X.K = K) : OpR X (compareOp .In) (rIn K false) := h ▸ op_in_seq
theorem op_eqDK (h : X.K = K) (hu : X.A.units + 64 < cLine) : OpR X (compareOp .Eq) (rEqD K false) := h ▸ op_eqD hu
def rLen (K : PySem.W.Frag) : List V → Hp → VK → Prop := fun xs H Q => ∃ p ys, xs = [.ref p] ∧ (SqL K H p ys ∨ SqT K H p ys) ∧ Q (.int ys.length) H
theorem call_len_seqK (h : X.K = K) : CallR X (.builtin "len") (rLen K) := h ▸ call_len_seq
def rLenS : List V → Hp → VK → Prop := fun xs H Q => ∃ z, xs = [.str z] ∧ z.length ≤ sizeLine ∧ Q (.int z.length) H
theorem call_len_strK : CallR X (.builtin "len") rLenS := call_len_str
def rIsiT (K : PySem.W.Frag) : List V → Hp → VK → Prop := fun xs H Q => ∃ (a : Addr) (ys : List V) (T : String) (k : Bool), xs = [.ref a, .ty T] ∧ SqT K H a ys ∧ PySem.W.kitOne K (.type "tuple") (.type T) = some k ∧ Q (.bl k) H
def rIsiL (K : PySem.W.Frag) : List V → Hp → VK → Prop := fun xs H Q => ∃ (a : Addr) (ys : List V) (T : String) (k : Bool), xs = [.ref a, .ty T] ∧ SqL K H a ys ∧ PySem.W.kitOne K (.type "list") (.type T) = some k ∧ Q (.bl k) H
def rIsi : List V → Hp → VK → Prop := fun xs H Q => ∃ v T k, xs = [v, .ty T] ∧ isiV v T = some k ∧ Q (.bl k) H
theorem call_isiK : CallR X (.builtin "isinstance") rIsi := call_isi
def rListOf (K : PySem.W.Frag) : List V → Hp → VK → Prop := fun xs H Q => ∃ p ys, xs = [.ref p] ∧ (SqL K H p ys ∨ SqT K H p ys) ∧ ∀ l, H l = none → Q (.ref l) (upd H l (.lst ys))
theorem call_list_ofK (h : X.K = K) : CallR X (.type "list") (rListOf K) := h ▸ call_list_of
def rAll (K : PySem.W.Frag) : List V → Hp → VK → Prop := fun xs H Q => ∃ (a : Addr) (bs : List Bool), xs = [.ref a] ∧ SqL K H a (bs.map V.bl) ∧ Q (.bl (bs.all id)) H
theorem call_allK (h : X.K = K) (hc : X.calm = true) : CallR X (.builtin "all") (rAll K) := h ▸ call_all' hc
def rAny (K : PySem.W.Frag) : List V → Hp → VK → Prop := fun xs H Q => ∃ (a : Addr) (bs : List Bool), xs = [.ref a] ∧ SqL K H a (bs.map V.bl) ∧ Q (.bl (bs.any id)) H
theorem pi_tupK {tg l : Expr} {tl : TE} (h : X.K = K) (hl : PE X l tl) : PI X tg l (iTup K tl) := h ▸ pi_tup hl
theorem pg_tupK {pos : Pos} {es : List Expr} {k : Nat} {t : TGs} {n : Nat} (h : X.K = K) (hc : X.calm = true) (hh : PGs X es t)
    (hn : (assignEach es X.env).length = n := by rfl) (hst : (assignEach es X.env).findIdx? (·.1) = none := by rfl) : PG X (.Tuple es k pos) (gTup K n t) := h ▸ pg_tup hc hh hn hst
theorem pi_enumK {elts : List Expr} {x1} {tpos : Pos} {a : Expr} {ta : TA} {p pos : Pos} (h : X.K = K) (hg : Gl X "enumerate") (hm : X.mg "enumerate" = none) (ha : PA X [a] ta) (hs : starEach [a] X.env = [(false, eval a X.env)] := by rfl) :
    PI X (.Tuple elts x1 tpos) (.Call (.Name "enumerate" p) [a] [] pos) (iEnum K ta) := h ▸ pi_enum hg hm ha hs
variable {o e : Expr} {es : List Expr} {to : TE} {t : TA} {name : Str} {apos cpos : Pos} {T id : String} {r : V → List V → Hp → VK → Prop}
theorem pe_bm0K (h : X.K = K) (pa : PlainAttrs T) (slot : Slot T name id) (hty : typeOf (.builtin id) = pure (.type "method_descriptor")) (hm : MtR X id r) (ho : PE X o to)
    (hbase : attributeBase o name X.env (eval o X.env) = eval o X.env := by rfl) (hline : (apos.endLine == cpos.line) = true := by rfl) : PE X (.Call (.Attribute o name apos) [] [] cpos) (tBM0 K T r to) := h ▸ pe_bm0 pa slot hty hm ho hbase hline
theorem pe_bmK (h : X.K = K) (pa : PlainAttrs T) (slot : Slot T name id) (hty : typeOf (.builtin id) = pure (.type "method_descriptor")) (hm : MtR X id r) (ho : PE X o to) (ha : PA X (e :: es) t)
    (hbase : attributeBase o name X.env (eval o X.env) = eval o X.env := by rfl)
    (hfew : ((backTo cpos (starEach (e :: es) X.env)).all (fun x => !x.1) && (backToKw cpos (keywordEach [] X.env)).all (fun x => x.1.isSome)
      && decide ((e :: es).length + ([] : List Keyword).length + (if ([] : List Keyword).isEmpty then 0 else 1) < 30)) = true := by rfl)
    (hline : (apos.endLine == cpos.line) = true := by rfl) (hs : starEach (e :: es) X.env = (false, eval e X.env) :: starEach es X.env := by rfl) (hplain : (backTo cpos (starEach es X.env)).any (·.1) = false := by rfl) :
    PE X (.Call (.Attribute o name apos) (e :: es) [] cpos) (tBM K T r to t) := h ▸ pe_bm pa slot hty hm ho ha hbase hfew hline hs hplain
end
theorem seq_cut {t u : TS} {D : Ends} {σ : St} {H : Hp} (Pc : St → Hp → Prop) (h2 : ∀ N : St → Hp → Prop, (∀ σ' H', Pc σ' H' → N σ' H') → t { D with nx := N } σ H) (h1 : ∀ σ' H', Pc σ' H' → u D σ' H') : tSeq t u D σ H := h2 (u D) h1
theorem same_new {H : Hp} {p : Addr} (h : H p = none) (o : HO) : Same H (upd H p o) := fun b u q => by rw [upd_ne (ne_of_none q h)]; exact q
theorem Same.upd {H H' : Hp} {p : Addr} (g : Same H H') (h : H p = none) (o : HO) : Same H (L2.upd H' p o) := fun b u q => by rw [upd_ne (ne_of_none q h)]; exact g b u q
theorem Same.tup {K : PySem.W.Frag} {H H' : Hp} {a : Addr} {xs : List V} (g : Same H H') (q : SqT K H a xs) : SqT K H' a xs := by
  rcases q with (h | ⟨o, h⟩) | h
  · exact .inl (.inl (g _ _ h))
  · exact .inl (.inr ⟨o, g _ _ h⟩)
  · exact .inr h
theorem asc_iff {z : Str} : Asc z ↔ ∀ c ∈ z.cps.toList, c < 128 := by
  unfold Asc
  rw [Array.all_eq_true']
  constructor
  · intro h c hc; simpa using h c (by simpa using hc)
  · intro h c hc; simpa using h c (by simpa using hc)
theorem Asc.app {a b : Str} (h : Asc a) (h' : Asc b) : Asc (a ++ b) := by
  rw [asc_iff] at *
  intro c hc
  have e : (a ++ b).cps = a.cps ++ b.cps := rfl
  rw [e, Array.toList_append, List.mem_append] at hc
  exact hc.elim (h c) (h' c)
theorem len_app (a b : Str) : (a ++ b).length = a.length + b.length := by
  show (a.cps ++ b.cps).size = _
  rw [Array.size_append]; rfl
theorem Asc.one {z : Str} (h : Asc z) {i : Int} {c : Nat} (e : atI z.cps.toList i = some c) : Asc ⟨#[c]⟩ := by
  rw [asc_iff] at *
  obtain ⟨j, _, hj, _⟩ := atI_get e
  have := h c (List.mem_of_getElem? hj)
  intro d hd
  have : d = c := by simpa using hd
  omega
theorem Asc.slice {z : Str} (h : Asc z) (lo hi : Option Int) : Asc (Txt.slice z lo hi) := by
  rw [asc_iff] at *
  intro c hc
  unfold Txt.slice at hc
  split at hc
  · exact h c hc
  refine h c ?_
  simp only [List.mem_filterMap] at hc
  obtain ⟨k, _, e⟩ := hc
  exact List.mem_of_getElem? (by simpa using e)
theorem Asc.ok {z : Str} (h : Asc z) : PyData.strOk z = true := by
  rw [asc_iff] at h
  unfold PyData.strOk
  rw [Array.all_eq_true']
  intro c hc
  have := h c (by simpa using hc)
  simp only [decide_eq_true_eq]
  omega
theorem at_ok {α : Type} {xs : List α} {i : Int} (h0 : 0 ≤ i) (h1 : i < xs.length) : ∃ v, atI xs i = some v := by
  obtain ⟨n, rfl⟩ : ∃ n : Nat, i = n := ⟨i.toNat, by omega⟩
  have : n < xs.length := by omega
  exact ⟨xs[n], atI_nat (by simp [this])⟩
theorem at_mem {α : Type} {xs : List α} {i : Int} {v : α} (e : atI xs i = some v) : v ∈ xs := by
  obtain ⟨j, _, hj, _⟩ := atI_get e
  exact List.mem_of_getElem? hj
theorem mod_lo (n : Int) {m : Int} (h : 0 < m) : 0 ≤ n.fmod m := by
  have := Int.fmod_eq_emod_of_nonneg n (show (0 : Int) ≤ m by omega)
  have := Int.emod_nonneg n (show m ≠ 0 by omega)
  omega
theorem mod_hi (n : Int) {m : Int} (h : 0 < m) : n.fmod m < m := Int.fmod_lt_of_pos n h
theorem div_lo {n : Int} (h : 0 ≤ n) {m : Int} (hm : 0 < m) : 0 ≤ n.fdiv m := by
  rw [Int.fdiv_eq_ediv_of_nonneg _ (by omega)]; exact Int.ediv_nonneg h (by omega)
def Nw (H H' : Hp) (p : Addr) (o : HO) : Prop := Same H H' ∧ H p = none ∧ H' p = some o
theorem Nw.of {H : Hp} {p : Addr} {o : HO} (h : H p = none) : Nw H (upd H p o) p o := ⟨same_new h o, h, upd_same⟩
def tTupN (t : TA) : TE := fun σ H Q => t σ H fun xs H1 => xs.length ≤ sizeLine ∧ ∀ p H', Nw H1 H' p (.tup xs) → Q (.ref p) H'
def tLstN (t : TA) : TE := fun σ H Q => t σ H fun xs H1 => xs.length ≤ sizeLine ∧ ∀ p H', Nw H1 H' p (.lst xs) → Q (.ref p) H'
section
variable {X : Cx} {K : PySem.W.Frag} {es : List Expr} {t : TA} {pos : Pos}
theorem pe_tupN {x1} (h : PA X es t) : PE X (.Tuple es x1 pos) (tTupN t) := fun pins s σ H Q I hq => wpAny_Tuple_spliced (thn (h pos pins s σ H _ I hq) fun us s1 ⟨xs, H1, I1, r, z, q⟩ => ⟨by rw [← r.length]; exact z,
  .ref s1.heap.objs.size, _, I1.laid (t' := s1.toks) (o := .tup xs) (fun b u e => Heap.get?_push_of_some _ e) (Nat.le_refl _) ⟨z, us, r, ⟨_, Heap.get?_push_size _ rfl, rfl, _, rfl⟩⟩, rfl, q _ _ (.of (I1.hok.fresh (Nat.le_refl _)))⟩)
theorem pe_lstN (h : PA X es t) : PE X (.List es pos) (tLstN t) := fun pins s σ H Q I hq => wpAny_List_spliced (thn (h pos pins s σ H _ I hq) fun us s1 ⟨xs, H1, I1, r, z, q⟩ => ⟨by rw [← r.length]; exact z,
  .ref s1.heap.objs.size, _, I1.laid (t' := s1.toks) (o := .lst xs) (fun b u e => Heap.get?_push_of_some _ e) (Nat.le_refl _) ⟨z, us, 0, r, Heap.get?_push_size _ rfl⟩, rfl, q _ _ (.of (I1.hok.fresh (Nat.le_refl _)))⟩)
def rSlLN (K : PySem.W.Frag) : V → Option Int → Option Int → Hp → VK → Prop := fun x lo hi H Q => ∃ a xs, x = .ref a ∧ SqL K H a xs ∧ ∀ p H', Nw H H' p (.lst (cutV xs lo hi)) → Q (.ref p) H'
theorem sl_listN (h : X.K = K) : SlR X (rSlLN K) := fun pins s σ H x v vl vu lo hi sl Q I rx hs pl pu ⟨a, xs, e, q, r⟩ => sl_listK h pins s σ H x v vl vu lo hi sl Q I rx hs pl pu ⟨a, xs, e, q, fun p hp => r p _ (.of hp)⟩
def rCatN : R2 := fun x y H Q => ∃ l b xs zs, x = .ref l ∧ y = .ref b ∧ H l = some (.lst xs) ∧ H b = some (.lst zs) ∧ xs.length + zs.length ≤ sizeLine ∧ ∀ p H', Nw H H' p (.lst (xs ++ zs)) → Q (.ref p) H'
theorem op_catN : OpR X (binaryOp .Add) rCatN := fun pins s σ H x y v u Q I rx ry ⟨l, b, xs, zs, e1, e2, h1, h2, z, q⟩ => op_cat pins s σ H x y v u Q I rx ry ⟨l, b, xs, zs, e1, e2, h1, h2, z, fun p hp => q p _ (.of hp)⟩
def rSlTN (K : PySem.W.Frag) : V → Option Int → Option Int → Hp → VK → Prop := fun x lo hi H Q => ∃ a xs, x = .ref a ∧ SqT K H a xs ∧
  ((HT.sIx xs.length 0 lo = 0 ∧ HT.sIx xs.length xs.length hi = xs.length ∧ Q (.ref a) H) ∨ (¬ (HT.sIx xs.length 0 lo = 0 ∧ HT.sIx xs.length xs.length hi = xs.length) ∧ ∀ p H', Nw H H' p (.tup (cutV xs lo hi)) → Q (.ref p) H'))
theorem tuple_all {prog : Program} {w : World} {A : Around} {E : Value → Shared → Prop} {s : Shared} {a sl : Addr} {its : Array Value} {vl vu : Value} {lo hi : Option Int} {Q : Value → Shared → Prop} (ht : IsTup s.heap a its) (hs : s.heap.IsSliceOf sl vl vu .none) (pl : IsPart vl lo) (pu : IsPart vu hi)
    (h1 : HT.sIx its.size 0 lo = 0) (h2 : HT.sIx its.size its.size hi = its.size) (h : Q (.ref a) s) : wpAny (model prog w) A (getItem (.ref a) (.ref sl)) Q E s := by
  obtain ⟨os, hos, hcs, hds⟩ := id hs
  unfold getItem
  try with_reducible refine wpAny_holding ?_
  first | refine wpAny_bind (wpAny_pure ?_) | skip
  refine wpAny_bind (wpAny_sequenceKey ht.typeIs (by decide) (wpAny_bind (wpAny_callSpecial?_slot (name := Str.ofString "__getitem__") ht.typeIs PyProof.Rows.slot_tuple_getitem (wpAny_call_entry PyProof.Rows.slot_tuple_getitem ht.typeIs entry_tuple_getitem ?_ (args_tuple_getitem _ _)))))
  show wpAny _ _ (Builtin.Tuple.tupleItemsOf (.ref a) >>= _) _ _ s
  refine wpAny_bind (PyProof.Rows.tupleItemsOf_ ht (wpAny_bind (wpAny_typeOf (show s.TypeIs (.ref sl) "slice" from ⟨os, hos, hcs⟩) ?_)))
  rw [if_pos (by decide)]
  refine wpAny_bind (HT.sliceApplied_gen hs pl pu ?_)
  have yes : (((HT.sIx its.size 0 lo : Nat) : Int) == 0 && (1 : Int) == 1 && (HT.sIx its.size its.size hi - HT.sIx its.size 0 lo) == its.size) = true := by
    rw [h1, h2]; simp
  show wpAny _ _ (if (((HT.sIx its.size 0 lo : Nat) : Int) == 0 && (1 : Int) == 1 && (HT.sIx its.size its.size hi - HT.sIx its.size 0 lo) == its.size) = true then _ else _) _ _ s
  rw [if_pos yes]
  refine wpAny_bind ?_
  unfold Builtin.Tuple.tupleIsExact
  refine wpAny_bind (wpAny_typeOf ht.typeIs (wpAny_pure ?_))
  rw [if_pos (by decide)]
  exact wpAny_bind (wpAny_rule (wpAny_pure ⟨_, rfl, wpAny_pure h⟩))
theorem sl_tupN (h : X.K = K) : SlR X (rSlTN K) := by
  intro pins s σ H x v vl vu lo hi sl Q I rx hs pl pu q
  obtain ⟨a, xs, e, hx, q | q⟩ := q
  · subst h e
    cases rx
    obtain ⟨its, r, ht, hz⟩ := I.tuple hx
    have hlen : its.toArray.size = xs.length := by rw [List.size_toArray]; exact r.length.symm
    exact ⟨"tuple", _, PyProof.Rows.slot_tuple_getitem.lookup, ht.typeIs, tuple_all ht hs pl pu (by rw [hlen]; exact q.1) (by rw [hlen]; exact q.2.1) ⟨.ref a, H, I, rfl, q.2.2⟩⟩
  · exact sl_tupK h pins s σ H x v vl vu lo hi sl Q I rx hs pl pu ⟨a, xs, e, hx, q.1, fun p hp => q.2 p _ (.of hp)⟩
end
end L2
set_option Elab.async false
set_option linter.all false
set_option maxRecDepth 100000
namespace L2
open PySem PySem.Spec PyProof.Rows
section
variable {X : Cx} {K : PySem.W.Frag}
def rSw : V → List V → Hp → VK → Prop := fun x xs H Q => ∃ z y, x = .str z ∧ xs = [.str y] ∧ Q (.bl (Txt.startswith z y)) H
theorem mt_startswith : MtR X "str.startswith" rSw := by
  intro pins s σ H x xs v us Q I rx rs ⟨z, y, e1, e2, q⟩
  subst e1 e2
  obtain ⟨t, rfl⟩ := rx
  obtain ⟨u, rfl, t', rfl⟩ := Vals.one rs
  exact SC.startswith ⟨.bl _, H, I, rfl, q⟩
def rFind : V → List V → Hp → VK → Prop := fun x xs H Q => ∃ z y, x = .str z ∧ xs = [.str y] ∧ Q (.int (Txt.find z y)) H
def rIntS : List V → Hp → VK → Prop := fun xs H Q => ∃ z n, xs = [.str z] ∧ PySem.intText? z = some n ∧ z.length ≤ 640 ∧ Q (.int n) H
theorem call_int_str : CallR X (.type "int") rIntS := by
  intro pins s σ H xs us Q I r ⟨z, n, e, hn, hl, q⟩
  subst e
  obtain ⟨u, rfl, t, rfl⟩ := Vals.one r
  exact PySem.W.KIN.call_text hn hl ⟨.int n, H, I.tok _, ⟨_, rfl⟩, q⟩
theorem passN {P : Program} {w : World} : Passes (CXx P w) X E0 := fun pins σ H s e s' I h => by
  obtain ⟨ea, cls, a0, H', B, _, _, _, _, _, _, _, _, _, z⟩ := h
  exact z.elim
end
end L2
set_option Elab.async false
set_option linter.all false
set_option maxRecDepth 100000
namespace L2
open PySem PySem.Spec PyProof.Rows
theorem str_ext {a b : Str} (h : a.cps.toList = b.cps.toList) : a = b := by
  cases a; cases b
  simp only [Str.mk.injEq]
  exact Array.toList_inj.mp h
theorem len_list (z : Str) : z.cps.toList.length = z.length := by simp [Str.length]
theorem idx_hi (l : Option Int) (n j : Nat) (h : n ≤ j) : Builtin.Str.strSliceIndices l (some (j : Int)) 1 n = Builtin.Str.strSliceIndices l (some (n : Int)) 1 n := by
  have e1 : ¬ ((j : Int) < 0) := by omega
  have e2 : ¬ ((n : Int) < 0) := by omega
  have e3 : max (0 : Int) (min (j : Int) (n : Int)) = n := by omega
  have e4 : max (0 : Int) (min (n : Int) (n : Int)) = n := by omega
  unfold Builtin.Str.strSliceIndices
  simp only [show (1 : Int) > 0 by decide, if_true, if_neg e1, if_neg e2, e3, e4]
theorem idx_lo (u : Option Int) (n j : Nat) (h : n ≤ j) : Builtin.Str.strSliceIndices (some (j : Int)) u 1 n = Builtin.Str.strSliceIndices (some (n : Int)) u 1 n := by
  have e1 : ¬ ((j : Int) < 0) := by omega
  have e2 : ¬ ((n : Int) < 0) := by omega
  have e3 : max (0 : Int) (min (j : Int) (n : Int)) = n := by omega
  have e4 : max (0 : Int) (min (n : Int) (n : Int)) = n := by omega
  unfold Builtin.Str.strSliceIndices
  simp only [show (1 : Int) > 0 by decide, if_true, if_neg e1, if_neg e2, e3, e4]
theorem slice_to (z : Str) (j : Nat) : (Txt.slice z none (some (j : Int))).cps.toList = z.cps.toList.take j := by
  by_cases h : j ≤ z.length
  · have := StrLaws.sliceText_to (x := z) (j := (j : Int)) ⟨by omega, by rw [len_list]; omega⟩
    have e : Txt.slice z none (some (j : Int)) = StrLaws.sliceText z none (some (j : Int)) := rfl
    rw [e, this]
    simp
  · have e : Txt.slice z none (some (j : Int)) = Txt.slice z none (some ((z.length : Nat) : Int)) := by
      unfold Txt.slice
      rw [idx_hi none z.length j (by omega)]
    have := StrLaws.sliceText_to (x := z) (j := ((z.length : Nat) : Int)) ⟨by omega, by rw [len_list]; omega⟩
    have e2 : Txt.slice z none (some ((z.length : Nat) : Int)) = StrLaws.sliceText z none (some ((z.length : Nat) : Int)) := rfl
    rw [e, e2, this]
    simp only [List.drop_zero, Int.sub_zero, Int.toNat_natCast]
    rw [List.take_of_length_le (by rw [len_list]; exact Nat.le_refl _), List.take_of_length_le (by rw [len_list]; omega)]
theorem slice_from (z : Str) (i : Nat) : (Txt.slice z (some (i : Int)) none).cps.toList = z.cps.toList.drop i := by
  by_cases h : i ≤ z.length
  · have := StrLaws.sliceText_from (x := z) (i := (i : Int)) ⟨by omega, by rw [len_list]; omega⟩
    have e : Txt.slice z (some (i : Int)) none = StrLaws.sliceText z (some (i : Int)) none := rfl
    rw [e, this]
    simp only [Int.toNat_natCast]
    rw [List.take_of_length_le]
    rw [List.length_drop]
    omega
  · have e : Txt.slice z (some (i : Int)) none = Txt.slice z (some ((z.length : Nat) : Int)) none := by
      unfold Txt.slice
      rw [idx_lo none z.length i (by omega)]
    have := StrLaws.sliceText_from (x := z) (i := ((z.length : Nat) : Int)) ⟨by omega, by rw [len_list]; omega⟩
    have e2 : Txt.slice z (some ((z.length : Nat) : Int)) none = StrLaws.sliceText z (some ((z.length : Nat) : Int)) none := rfl
    rw [e, e2, this]
    simp only [Int.toNat_natCast]
    rw [List.drop_of_length_le (by rw [len_list]; exact Nat.le_refl _), List.drop_of_length_le (by rw [len_list]; omega)]
    exact List.take_nil
theorem starts_one (z : Str) (c : Nat) : Txt.startswith z ⟨#[c]⟩ = (z.cps.toList.head? == some c) := by
  obtain ⟨⟨l⟩⟩ := z
  cases l with
  | nil => rfl
  | cons d r =>
    unfold Txt.startswith
    have e1 : (⟨#[c]⟩ : Str).length = 1 := rfl
    have e2 : (⟨⟨d :: r⟩⟩ : Str).length = r.length + 1 := rfl
    rw [e1, e2]
    have e3 : Builtin.Str.subAt ⟨⟨d :: r⟩⟩ ⟨#[c]⟩ 0 = (d == c) := by
      unfold Builtin.Str.subAt
      have : (⟨d :: r⟩ : Array Nat).extract 0 (0 + (⟨#[c]⟩ : Str).length) = #[d] := by
        apply Array.toList_inj.mp
        simp [e1]
      rw [this]
      simp
    rw [e3]
    simp
theorem le_one (c d : Nat) : (!(decide ((⟨#[d]⟩ : Str).cps.toList < (⟨#[c]⟩ : Str).cps.toList))) = decide (c ≤ d) := by
  have : ((⟨#[d]⟩ : Str).cps.toList < (⟨#[c]⟩ : Str).cps.toList) ↔ d < c := by
    show ([d] : List Nat) < [c] ↔ d < c
    constructor
    · intro h
      rcases Nat.lt_or_ge d c with h1 | h1
      · exact h1
      · exfalso
        have := List.cons_lt_cons_iff.mp h
        rcases this with h2 | ⟨h2, h3⟩
        · omega
        · exact absurd h3 (by simp)
    · intro h
      exact List.cons_lt_cons_iff.mpr (.inl h)
  by_cases h : d < c
  · rw [decide_eq_true (this.mpr h), decide_eq_false (by omega)]; rfl
  · rw [decide_eq_false (fun z => h (this.mp z)), decide_eq_true (by omega)]; rfl
def isL (c : Nat) : Bool := decide (97 ≤ c) && decide (c ≤ 122)
def isF (c : Nat) : Bool := decide (48 ≤ c) && decide (c ≤ 57)
def strOf : Value → Option Str
  | .str x _ => some x
  | _ => none
def strsAre (us : List Value) (ws : List Str) : Bool := decide (us.map strOf = ws.map some)
theorem strOf_rel {u : Value} {y : Str} (h : strOf u = some y) : RelV (.str y) u := by
  unfold strOf at h
  split at h
  · cases h; exact ⟨_, rfl⟩
  · cases h
theorem strsAre_vals : ∀ {us : List Value} {ws : List Str}, us.map strOf = ws.map some → Vals (ws.map V.str) us
  | [], [], _ => .nil
  | u :: r, y :: s, h => by
    simp only [List.map_cons, List.cons.injEq] at h
    exact .cons (strOf_rel h.1) (strsAre_vals h.2)
  | [], _ :: _, h => by simp at h
  | _ :: _, [], h => by simp at h
def strTup (o : Obj) (ws : List Str) : Bool := match o.data with
  | .seq its _ => strsAre its.toList ws && decide (its.size ≤ 1000)
  | _ => false
theorem sq_strTup {K : PySem.W.Frag} {H : Hp} {a : Addr} {o : Obj} {ws : List Str} (h : K.lookup a = some o) (hc : o.cls = .type "tuple") (ht : strTup o ws = true) : SqT K H a (ws.map V.str) := by
  unfold strTup at ht
  split at ht
  · rename_i its n e
    rw [Bool.and_eq_true] at ht
    exact .inr ⟨o, its, n, h, hc, e, Nat.le_of_lt (small1000 (by simpa using ht.2)), strsAre_vals (of_decide_eq_true ht.1)⟩
  · cases ht
end L2
set_option Elab.async false
set_option linter.all false
set_option maxRecDepth 100000
namespace L2
open PySem PySem.Spec PyProof.Rows
section
variable {K : PySem.W.Frag} {x D : Addr} {prog : Program} {w : World} {A : Around} {E : Value → Shared → Prop} {s : Shared}
theorem getattr_exc {P : Option Value → Shared → Prop} (X : K.In s.heap) (T : ∀ M, PySem.W.Looks M s.heap (typeOf (.ref x)) (.ref D)) (g1 : PySem.W.findIn K (.ref D) "__getattribute__" = some (some (.builtin "BaseException.__getattribute__"))) (g2 : PySem.W.findIn K (.ref D) "__getattr__" = some none)
    (hb : PySem.W.mroIn K D (.type "BaseException") = some true) (ha : PySem.W.findIn K (.ref D) "__class__" = some (some (.builtin "object.__class__"))) (hg : PySem.W.specialIn K (.builtin "object.__class__") "__get__" = some (some (.builtin "getset_descriptor.__get__"))) (ht : PySem.W.takesIn K (.builtin "object.__class__") = some true) (hm : PySem.W.mroIn K D (.type "object") = some true)
    (h : P (some (.ref D)) { s with toks := s.toks + 1 }) :
    wpAny (model prog w) A (getAttr? (.ref x) "__class__") P E s := by
  obtain ⟨hp, gn, dr, tk, os⟩ := s
  have t0 := T (model prog w)
  have f0 := PySem.W.looks_findIn (M := model prog w) X g1
  have f1 : PySem.W.Looks (model prog w) hp (Builtin.ObjectAttr.find (.ref x) (.ref D) "__class__") (.bind (.builtin "getset_descriptor.__get__") (.builtin "object.__class__")) := find_data X ha hg ht
  have f2 := PySem.W.looks_findIn (M := model prog w) X g2
  have t1 := PySem.W.looks_mroIn (M := model prog w) X hb
  unfold getAttr? getAttrBy? getAttrBy
  refine wpAny_bind (wpAny_mkText (wpAny_bind (wpAny_attempt (wpAny_holding (wpAny_bind (t0.at (wpAny_bind (f0.at ?_))))))))
  show wpAny _ _ (getAttrByItsOwn _ _ _ _ _ _) _ _ _
  unfold getAttrByItsOwn hookBefore
  rw [if_pos (show onTheHeap (Value.ref D) = true from rfl)]
  refine wpAny_bind (f2.at (wpAny_bind (wpAny_attempt (wpAny_holding ?_))))
  unfold callGetattribute
  rw [if_neg (by simp)]
  unfold boundAndCalled
  rw [F.excAttr_ValueError.ga.bind]
  refine wpAny_bind (wpAny_pure (wpAny_call (codeAny_call_builtin F.excAttr_ValueError.ga.plain F.entry_bexc_ga ?_)))
  have hk : builtinKind "BaseException.__getattribute__" = some .slot := by decide +kernel
  have hsplit : splitId "BaseException.__getattribute__" = some ("BaseException", "__getattribute__") := by decide +kernel
  have hargs := F.args_bexc_ga (.ref x) (Value.str (Str.ofString "__class__") tk)
  simp only [checkBuiltinCall, hk, hsplit]
  unfold isInstance
  refine wpAny_bind (wpAny_bind (t0.at (t1.at ?_)))
  rw [if_neg (by decide)]
  cases hsig : Manifest.signature? "BaseException.__getattribute__" with
  | none =>
    refine wpAny_pure ?_
    unfold Builtin.«object.__getattribute__»
    repeat (first | with_reducible refine wpAny_call (class_of (s := ⟨hp, gn, dr, tk + 1, os⟩) X T hm ?_) | lk)
    exact h
  | some sig =>
    simp only [argsOk, hsig] at hargs
    have h2 : Bind.checkArgs "BaseException.__getattribute__" sig ⟨[.ref x, Value.str (Str.ofString "__class__") tk], []⟩ = pure () := hargs
    show wpAny _ _ (Bind.checkArgs "BaseException.__getattribute__" sig ⟨[.ref x, Value.str (Str.ofString "__class__") tk], []⟩) _ _ _
    rw [h2]
    refine wpAny_pure ?_
    unfold Builtin.«object.__getattribute__»
    repeat (first | with_reducible refine wpAny_call (class_of (s := ⟨hp, gn, dr, tk + 1, os⟩) X T hm ?_) | lk)
    exact h
end
structure XIs2 (K : PySem.W.Frag) (D : Addr) : Prop where
  g1 : PySem.W.findIn K (.ref D) "__getattribute__" = some (some (.builtin "BaseException.__getattribute__"))
  g2 : PySem.W.findIn K (.ref D) "__getattr__" = some none
  hb : PySem.W.mroIn K D (.type "BaseException") = some true
  hc : ∃ cd, PySem.W.clsIn K D = some cd
  ha : PySem.W.findIn K (.ref D) "__class__" = some (some (.builtin "object.__class__"))
  hn : PySem.W.specialIn K (.builtin "object.__class__") "__get__" = some (some (.builtin "getset_descriptor.__get__"))
  ht : PySem.W.takesIn K (.builtin "object.__class__") = some true
  hm : PySem.W.mroIn K D (.type "object") = some true
theorem kitx_exc2 {K : PySem.W.Frag} {x D : Addr} (Z : XIs2 K D) : PySem.W.KitX K (.ref x) (.ref D) (fun h => ∃ o, h.get? x = some o ∧ o.cls = .ref D) where
  ty := fun _ _ _ ⟨_, q1, q2⟩ => q2 ▸ (PySem.W.Looks.ld q1).andThen .now
  it := fun _ _ X _ => by
    obtain ⟨cd, hc⟩ := Z.hc
    unfold PySem.W.clsIn at hc
    split at hc
    · rename_i l1 l2 l3 l4 look
      intro A1 Q1 E1 s1 k q
      unfold isType loadHead
      exact wpAny_bind (wpAny_loadPart (k _ _ (X _ _ look)) (wpAny_pure q))
    · cases hc
  ne := fun hh tp dd its n sl X htp => by
    obtain ⟨cd, hc⟩ := Z.hc
    refine Bool.eq_false_iff.mpr fun q => ?_
    have z : D = tp := Value.ref.inj (beq_iff_eq.mp q)
    subst z
    unfold PySem.W.clsIn at hc
    split at hc
    · rename_i l1 l2 l3 l4 look
      have := (X _ _ look).symm.trans htp
      cases this
    · cases hc
  ca := fun {prog w A E Q s} X ⟨o, q1, q2⟩ k => getattr_exc X (fun M => q2 ▸ (PySem.W.Looks.ld q1).andThen .now) Z.g1 Z.g2 Z.hb Z.ha Z.hn Z.ht Z.hm k
section
variable {X : Cx} {K : PySem.W.Frag}
def rIsiE (K : PySem.W.Frag) : List V → Hp → VK → Prop := fun xs H Q => ∃ (a D : Addr) (c : V) (cv : Value) (k : Bool), xs = [.ref a, c] ∧ H a = some (ExcO a (.ref D)) ∧ XIs2 K D ∧ (∀ u, RelV c u → u = cv) ∧ PySem.W.kitOne K (.ref D) cv = some k ∧ Q (.bl k) H
theorem call_isiE (hK : X.K = K) : CallR X (.builtin "isinstance") (rIsiE K) := by
  intro pins s σ H xs us Q I r h
  subst hK
  obtain ⟨a, D, c, cv, k, rfl, ha, Z, hcv, hk, q⟩ := h
  cases r with
  | cons r rr =>
    cases rr with
    | cons r' rr =>
      cases rr
      cases r
      obtain ⟨p, _, _⟩ := I.hok a _ ha
      rw [hcv _ r']
      exact PySem.W.kia_one (kitx_exc2 Z) I.kIn p hk (by intro z; cases z) fun tk => ⟨.bl k, H, I.tok tk, rfl, q⟩
end
end L2
set_option Elab.async false
set_option linter.all false
set_option maxRecDepth 100000
namespace L2
open PySem PySem.Spec PyProof.Rows
section
variable {P : Program} {w : World} {A : Around} {E : Value → Shared → Prop} {s : Shared}
end
end L2
set_option Elab.async false
set_option linter.all false
set_option maxRecDepth 100000
namespace L2
open PySem PySem.Spec PyProof.Rows
theorem rel_values : ∀ l : List (Str × Tok), Vals ((l.map (·.1)).map V.str) (strValues l)
  | [] => .nil
  | p :: r => .cons ⟨p.2, rfl⟩ (rel_values r)
theorem values_of : ∀ {ws : List Str} {us : List Value}, Vals (ws.map V.str) us → ∃ l : List (Str × Tok), us = strValues l ∧ l.map (·.1) = ws
  | [], _, .nil => ⟨[], rfl, rfl⟩
  | w :: r, _, .cons h t => by
    obtain ⟨tk, rfl⟩ := h
    obtain ⟨l, rfl, e⟩ := values_of t
    exact ⟨(w, tk) :: l, rfl, by rw [List.map_cons, e]⟩
section
variable {X : Cx} {K : PySem.W.Frag}
def rSplit : V → List V → Hp → VK → Prop := fun x xs H Q => ∃ z y, x = .str z ∧ xs = [.str y] ∧ y.length ≠ 0 ∧ z.length ≤ 100000 ∧ ∀ p H', Nw H H' p (.lst ((Txt.split z y).map V.str)) → Q (.ref p) H'
theorem mt_split : MtR X "str.split" rSplit := by
  intro pins s σ H x xs v us Q I rx rs ⟨z, y, e1, e2, hy, hz, q⟩
  subst e1 e2
  obtain ⟨t, rfl⟩ := rx
  obtain ⟨u, rfl, t', rfl⟩ := Vals.one rs
  have hy' : (y.length == 0) = false := by simpa using hy
  have lay : ∀ (l : List (Str × Tok)) (k : Nat), l.map (·.1) = Txt.split z y → wants (EP X pins σ Q) X.xe (.ok (.ret (.ref s.heap.objs.size))) { s with heap := s.heap.push { cls := .type "list", data := .seq (strValues l).toArray }, toks := k } := fun l k e => by
    have hl : (Txt.split z y).length ≤ sizeLine := Nat.le_trans (split_le z y) (by have : sizeLine = 16777216 := sizeLine_eq; omega)
    refine ⟨.ref s.heap.objs.size, _, I.lnew (t' := k) (ys := (Txt.split z y).map V.str) (e ▸ rel_values l) (by rw [List.length_map]; exact hl), rfl, q _ _ (.of I.fresh)⟩
  cases c : (decide (z.length < y.length) || decide (Builtin.Str.strKind z < Builtin.Str.strKind y)) with
  | true => exact call_meets F.slot_str_split (typeIs_str _ _ _) F.entry_str_split (F.args_str_split_2 _ _) (meets_str_split_cannot_occur z y t t' c) (lay [(z, t)] s.toks (by unfold Txt.split; rw [if_pos c]; rfl))
  | false =>
    have c' : ¬ (decide (z.length < y.length) || decide (Builtin.Str.strKind z < Builtin.Str.strKind y)) = true := by rw [c]; decide
    cases f : (Builtin.Str.occurrences z y 0 z.length (z.length + 1)).isEmpty with
    | true => exact call_meets F.slot_str_split (typeIs_str _ _ _) F.entry_str_split (F.args_str_split_2 _ _) (meets_str_split_not_found z y t t' c hy' f) (lay [(z, t)] s.toks (by unfold Txt.split; rw [if_neg c', if_pos f]; rfl))
    | false =>
      have f' : ¬ (Builtin.Str.occurrences z y 0 z.length (z.length + 1)).isEmpty = true := by rw [f]; decide
      have e : Txt.split z y = Builtin.Str.partsBetween z (Builtin.Str.occurrences z y 0 z.length (z.length + 1)) y.length := by unfold Txt.split; rw [if_neg c', if_neg f']
      have sl : sizeLine = 16777216 := sizeLine_eq
      refine call_meets F.slot_str_split (typeIs_str _ _ _) F.entry_str_split (F.args_str_split_2 _ _) (meets_str_split_sep z y t t' c hy' f (by omega) (by rw [← e]; exact Nat.le_trans (split_le z y) (by omega))) ?_
      have h := lay (numbered s.toks (Txt.split z y)) (s.toks + (Txt.split z y).length) (numbered_texts _ _)
      rw [← strsFrom_eq, e] at h
      exact h
def rJoin (K : PySem.W.Frag) : V → List V → Hp → VK → Prop := fun x xs H Q => ∃ z a ws, x = .str z ∧ xs = [.ref a] ∧ SqL K H a (ws.map V.str) ∧ JoinOk z ws = true ∧ Q (.str (Txt.join z ws)) H
theorem mt_join (h : X.K = K) : MtR X "str.join" (rJoin K) := by
  intro pins s σ H x xs v us Q I rx rs ⟨z, a, ws, e1, e2, hs, hj, q⟩
  subst h e1 e2
  obtain ⟨t, rfl⟩ := rx
  obtain ⟨u, rfl, ru⟩ := Vals.one rs
  cases ru
  obtain ⟨its, rv, pl, _⟩ := I.list hs
  obtain ⟨l, rfl, e⟩ := values_of rv
  exact SC.join pl.isList e hj fun t2 k => ⟨.str _, H, I.tok k, ⟨t2, rfl⟩, q⟩
end
section
variable {K : PySem.W.Frag} {a b : Addr} {xs ys : List V} {wi : TI} {g : TG} {σ : St} {H H1 : Hp} {ix : List (Option Nat)} {tc : TT} {te : TE} {Q : VK}
end
theorem cut_blank : ∀ {w v A B : List Nat}, 32 ∉ w → 32 ∉ v → w ++ 32 :: A = v ++ 32 :: B → w = v ∧ A = B
  | [], [], A, B, _, _, h => ⟨rfl, by simpa using h⟩
  | [], d :: v, A, B, _, hv, h => by
    simp only [List.nil_append, List.cons_append, List.cons.injEq] at h
    exact absurd (h.1 ▸ List.mem_cons_self) hv
  | c :: w, [], A, B, hw, _, h => by
    simp only [List.nil_append, List.cons_append, List.cons.injEq] at h
    exact absurd (h.1.symm ▸ List.mem_cons_self) hw
  | c :: w, d :: v, A, B, hw, hv, h => by
    simp only [List.cons_append, List.cons.injEq] at h
    obtain ⟨e1, e2⟩ := cut_blank (fun z => hw (List.mem_cons_of_mem _ z)) (fun z => hv (List.mem_cons_of_mem _ z)) h.2
    exact ⟨by rw [h.1, e1], e2⟩
def BL : Str := ⟨#[32]⟩
theorem join_two (x y : Str) (r : List Str) : (Str.join BL (x :: y :: r)).cps.toList = x.cps.toList ++ 32 :: (Str.join BL (y :: r)).cps.toList := by
  show ((x.cps ++ #[32]) ++ (Str.join BL (y :: r)).cps).toList = _
  simp
theorem join_inj : ∀ {ws vs : List Str}, ws ≠ [] → vs ≠ [] → (∀ w ∈ ws, 32 ∉ w.cps.toList) → (∀ w ∈ vs, 32 ∉ w.cps.toList) → Str.join BL ws = Str.join BL vs → ws = vs
  | [], _, h, _, _, _, _ => absurd rfl h
  | _, [], _, h, _, _, _ => absurd rfl h
  | [w], [v], _, _, _, _, e => by
    have e' : w = v := e
    rw [e']
  | [w], v :: v2 :: r, _, _, hw, _, e => by
    have e' := congrArg (fun z : Str => z.cps.toList) e
    rw [join_two] at e'
    have e2 : w.cps.toList = v.cps.toList ++ 32 :: (Str.join BL (v2 :: r)).cps.toList := e'
    exact absurd (show 32 ∈ w.cps.toList by rw [e2]; simp) (hw w List.mem_cons_self)
  | w :: w2 :: r, [v], _, _, _, hv, e => by
    have e' := congrArg (fun z : Str => z.cps.toList) e
    rw [join_two] at e'
    have e2 : w.cps.toList ++ 32 :: (Str.join BL (w2 :: r)).cps.toList = v.cps.toList := e'
    exact absurd (show 32 ∈ v.cps.toList by rw [← e2]; simp) (hv v List.mem_cons_self)
  | w :: w2 :: r, v :: v2 :: t, _, _, hw, hv, e => by
    have e' := congrArg (fun z : Str => z.cps.toList) e
    rw [join_two, join_two] at e'
    obtain ⟨e1, e2⟩ := cut_blank (hw w List.mem_cons_self) (hv v List.mem_cons_self) e'
    rw [str_ext e1, join_inj (by simp) (by simp) (fun x hx => hw x (List.mem_cons_of_mem _ hx)) (fun x hx => hv x (List.mem_cons_of_mem _ hx)) (str_ext e2)]
theorem split_words {ws : List Str} (h0 : ws ≠ []) (hb : ∀ w ∈ ws, 32 ∉ w.cps.toList) : Txt.split (Str.join BL ws) BL = ws := by
  have h1 := StrLaws.join_split (Str.join BL ws) BL
  have h2 : Txt.split (Str.join BL ws) BL ≠ [] := fun e => by
    have := split_pos (Str.join BL ws) BL
    rw [e] at this
    simp at this
  exact join_inj h2 h0 (StrLaws.split_free _ 32) hb h1
theorem join_eq (y : Str) (ws : List Str) : Txt.join y ws = Str.join y ws := by
  cases ws with
  | nil => rfl
  | cons x r => exact StrLaws.glued_cons y r x
end L2
set_option Elab.async false
set_option linter.all false
set_option maxRecDepth 100000
namespace L2
open PySem PySem.Spec PyProof.Rows
section
variable {K : PySem.W.Frag} {a : Addr} {xs : List V} {wi : TI} {g : TG} {σ : St} {H H1 : Hp} {ix : List (Option Nat)} {tc : TT} {te : TE} {Q : VK}
end
def rIsiA (K : PySem.W.Frag) : List V → Hp → VK → Prop := fun xs H Q => rIsi xs H Q ∨ rIsiT K xs H Q
def spNever : Sp := fun _ _ _ _ => False
theorem FnOk.never {P : Program} {w : World} {K : PySem.W.Frag} {mg : Str → Option Value} {base : Heap} {CX : CXT} {k : Nat} {f : Addr} {fd : FuncData} {ps : List Str} : FnOk P w K mg base CX k f fd ps spNever := ⟨fun _ _ _ _ h => h.elim, fun _ _ _ _ _ _ _ _ _ _ _ _ _ h => h.elim⟩
end L2
set_option Elab.async false
set_option linter.all false
set_option maxRecDepth 100000
namespace L2
open PySem PySem.Spec PyProof.Rows
def Itb (K : PySem.W.Frag) (a : Addr) (n : Nat) : It :=
  ⟨fun i H => i < n ∧ ∃ xs, SqL K H a xs ∧ xs.length = n, fun i H x H' => H' = H ∧ ∀ xs, SqL K H a xs → xs.reverse[i]? = some x, fun i _ => i = n⟩
theorem turn_back {P : Program} {w : World} {K : PySem.W.Frag} {tg : Expr} (a it : Addr) (n : Nat) : Turn P w K tg (Itb K a n) [it] it (fun i h => h.IsRevIter it a ((n : Int) - 1 - (i : Int))) where
  mem := by simp
  obj := fun i h st b hb => by
    have e : b = it := by simpa using hb
    subst e
    obtain ⟨o, e, c, d⟩ := st
    exact ⟨o, e, fun v z => by rw [d] at z; cases z⟩
  keep := fun i h h' st k => st.at fun o e => k it (by simp) o e
  item := by
    intro X hP hw hK hc i pins s σ H E I hf st hg
    subst hP hw hK
    obtain ⟨hi, xs, hq, hn⟩ := hg
    obtain ⟨its, rv, p, hz⟩ := I.list hq
    have hj : n - 1 - i < xs.length := by omega
    obtain ⟨u, hu, ru⟩ := rv.get (List.getElem?_eq_getElem hj)
    obtain ⟨f0, f1, f2, f3, f4, f5⟩ := hf it (by simp)
    have e1 : (n : Int) - 1 - (i : Int) = ((n - 1 - i : Nat) : Int) := by omega
    rw [e1] at st
    refine wpAny_pyNext_rev_item st p.isList (x := u) (by simpa using hu) fun h' st' sb => ?_
    have e2 : ((n - 1 - i : Nat) : Int) - 1 = (n : Int) - 1 - ((i + 1 : Nat) : Int) := by omega
    rw [e2] at st'
    have I1 : Inv X pins σ H { s with heap := h' } := I.turned (t' := s.toks) (fun b o hb e => (sb.2 b hb).trans e) f0 f1 f3 f4 f5
    obtain ⟨o, e, c, d⟩ := id st'
    refine ⟨u, rfl, go_of (s := { s with heap := h' }) e c d (by decide) ⟨xs[n - 1 - i], H, I1, ru, ⟨rfl, fun ys hy => ?_⟩, st', fun b hb => (hf b hb).1⟩⟩
    rw [I.list_inj hy hq, List.getElem?_reverse (by omega), hn]
    exact List.getElem?_eq_getElem hj
  done := by
    intro X hP hw hK hc i pins s σ H E I hf st hg
    subst hP hw hK
    have hg' : i = n := hg
    subst hg'
    obtain ⟨f0, f1, f2, f3, f4, f5⟩ := hf it (by simp)
    rw [show (i : Int) - 1 - (i : Int) = -1 by omega] at st
    exact wpAny_pyNext_rev_end (I.ok.hd hc) st fun h' eb => ⟨rfl, I.turned (t' := s.toks) (fun b o hb e => eb b o hb e) f0 f1 f3 f4 f5⟩
  self := fun _ _ _ _ _ st h => wpAny_pyIter_revIter st h
def iBack (K : PySem.W.Frag) (ta : TA) : TI := fun σ H R => ta σ H fun vs H1 => ∃ a xs, vs = [.ref a] ∧ SqL K H1 a xs ∧ R (Itb K a xs.length) H1
theorem pi_back {X : Cx} {tg : Expr} {a : Expr} {ta : TA} {p pos : Pos} (hg : Gl X "reversed") (hm : X.mg "reversed" = none) (ha : PA X [a] ta) (hs : starEach [a] X.env = [(false, eval a X.env)] := by rfl) :
    PI X tg (.Call (.Name "reversed" p) [a] [] pos) (iBack X.K ta) := by
  intro pins s σ H R I h
  refine Call_ (ld_blt I hg hm boot_reversed (PyProof.Rows.callWith_type1 (thn (ha pos pins s σ H _ I h) fun us s1 ⟨vs, H1, I1, r1, q1⟩ => ?_) hs rfl))
  obtain ⟨a, xs, e, qx, q⟩ := q1
  subst e
  cases r1 with
  | cons r rr =>
    cases rr
    cases r
    obtain ⟨its, rvx, px, _⟩ := I1.list qx
    have lx := rvx.length
    refine call_reversed_list px.isList ?_
    have g : ({ s1 with heap := s1.heap.push (revObj a ((its.toArray.size : Int) - 1)) } : Shared).heap.IsRevIter s1.heap.objs.size a ((xs.length : Int) - 1 - ((0 : Nat) : Int)) := ⟨_, Heap.get?_push_size _ rfl, rfl, by
      show (revObj a ((its.toArray.size : Int) - 1)).data = _
      unfold revObj
      rw [show ((its.toArray.size : Int) - 1) = (xs.length : Int) - 1 - ((0 : Nat) : Int) from by rw [List.size_toArray]; omega]⟩
    refine wpAny_pyIter_revIter (s := { s1 with heap := s1.heap.push (revObj a ((its.toArray.size : Int) - 1)) }) g ?_
    refine ⟨s1.heap.objs.size, [s1.heap.objs.size], _, _, H1, rfl, I1.kept (t' := s1.toks) fun b o e => Heap.get?_push_of_some _ e, turn_back a _ xs.length, g, fun b hb => ?_, q⟩
    have e : b = s1.heap.objs.size := by simpa using hb
    subst e
    exact I1.fpOk (Nat.le_refl _) (I1.hok.fresh (Nat.le_refl _))
theorem pi_backK {X : Cx} {K : PySem.W.Frag} (h : X.K = K) {tg : Expr} {a : Expr} {ta : TA} {p pos : Pos} (hg : Gl X "reversed") (hm : X.mg "reversed" = none) (ha : PA X [a] ta) (hs : starEach [a] X.env = [(false, eval a X.env)] := by rfl) :
    PI X tg (.Call (.Name "reversed" p) [a] [] pos) (iBack K ta) := h ▸ pi_back hg hm ha hs
theorem for_back {K : PySem.W.Frag} {a : Addr} {xs : List V} {g : TG} {tb : TS} {D : Ends} {σ : St} {H : Hp} (Pv : Nat → St → Hp → Prop) (h0 : Pv 0 σ H) (hl : ∀ i σ H, i ≤ xs.length → Pv i σ H → SqL K H a xs)
    (hs : ∀ i x σ H, xs.reverse[i]? = some x → Pv i σ H → g x σ H fun σ2 H2 => tb { D with nx := Pv (i + 1), ct := Pv (i + 1), bk := D.nx } σ2 H2) (hd : ∀ σ H, Pv xs.length σ H → D.nx σ H) :
    ∃ W : Nat → Nat → St → Hp → Prop, (∃ m, W 0 m σ H) ∧ ∀ i m σ H, W i m σ H →
      ((Itb K a xs.length).stop i H ∧ D.nx σ H) ∨ ((Itb K a xs.length).go i H ∧ ∃ N : St → Hp → Prop, (∀ σ' H', N σ' H' → ∃ m', m' < m ∧ W (i + 1) m' σ' H') ∧ ∀ x H', (Itb K a xs.length).yld i H x H' → g x σ H' fun σ2 H2 => tb { D with nx := N, ct := N, bk := D.nx } σ2 H2) := by
  refine ⟨fun i m σ H => m = xs.length - i ∧ i ≤ xs.length ∧ Pv i σ H, ⟨xs.length, by simp, Nat.zero_le _, h0⟩, ?_⟩
  rintro i m σ H ⟨rfl, hi, p⟩
  have q := hl i σ H hi p
  by_cases hlt : i < xs.length
  · refine .inr ⟨⟨hlt, xs, q, rfl⟩, Pv (i + 1), fun σ' H' p' => ⟨xs.length - (i + 1), by omega, rfl, hlt, p'⟩, fun x H' y => ?_⟩
    obtain ⟨e, y⟩ := y
    subst e
    exact hs i x σ _ (y xs q) p
  · have e : i = xs.length := by omega
    subst e
    exact .inl ⟨rfl, hd σ H p⟩
end L2
set_option Elab.async false
set_option linter.all false
set_option maxRecDepth 100000
namespace My
open PySem PySem.Spec PyProof.Rows L2
def top (i : Nat) : Stmt := PySem.Challenge.pw_widelanes_k05_expressions_refused.main.body.getD i (.Pass ⟨0, 0, 0, 0⟩)
abbrev s_is_letter : Stmt := top 19
abbrev s_is_figure : Stmt := top 20
abbrev s_is_name : Stmt := top 18
abbrev s_read_number : Stmt := top 21
abbrev s_Walk___init__ : Stmt := inClass (top 10) 0
abbrev s_Walk_is_over : Stmt := inClass (top 10) 1
abbrev s_Walk_taken : Stmt := inClass (top 10) 3
abbrev s_words_of : Stmt := top 22
abbrev s_word_from : Stmt := top 23
abbrev s_check_over : Stmt := top 24
abbrev s_part_from : Stmt := top 27
abbrev s_expression_from : Stmt := top 26
abbrev s_read_expression : Stmt := top 25
abbrev s_shown_expression : Stmt := top 28
abbrev s__law_mixed : Stmt := top 30
abbrev s__law_cell_at : Stmt := top 31
abbrev s__law_workings : Stmt := top 32
abbrev s__law_good_leaf : Stmt := top 33
abbrev s__law_is_leaf : Stmt := top 39
abbrev s__law_stands : Stmt := top 40
abbrev s__law_kinds_of : Stmt := top 41
abbrev s__law_right : Stmt := top 42
abbrev s__law_no_word : Stmt := top 34
abbrev s__law_made : Stmt := top 35
abbrev s__law_any_word : Stmt := top 36
abbrev s__law_spoilt : Stmt := top 37
abbrev s__law_blanks : Stmt := top 38
abbrev s_law : Stmt := top 43
def keptW : List Str := [Str.ofString "def", Str.ofString "set", Str.ofString "put", Str.ofString "tell", Str.ofString "if", Str.ofString "else", Str.ofString "while", Str.ofString "end", Str.ofString "break", Str.ofString "again", Str.ofString "call", Str.ofString "return", Str.ofString "stop", Str.ofString "join", Str.ofString "meet", Str.ofString "lane", Str.ofString "lanes", Str.ofString "mine", Str.ofString "box", Str.ofString "div", Str.ofString "rem", Str.ofString "sum", Str.ofString "most", Str.ofString "least", Str.ofString "ahead"]
def keptV : List V := keptW.map V.str
def nameOk (z : Str) : Bool := !inV (V.str z) keptV && (decide (1 ≤ z.length) && decide (z.length ≤ 8)) && z.cps.toList.all isL
def negs (z : Str) : Bool := z.cps.toList.head? == some 45
def figs (z : Str) : List Nat := if negs z = true then z.cps.toList.drop 1 else z.cps.toList
def numOk (z : Str) : Bool := (decide (1 ≤ (figs z).length) && decide ((figs z).length ≤ 9)) && (figs z).all isF && !((figs z).head? == some 48 && !decide (z = Str.ofString "0"))
def numVal (z : Str) : Int := if negs z = true then -((PySem.NumText.digitsVal (figs z) : Nat) : Int) else ((PySem.NumText.digitsVal (figs z) : Nat) : Int)
def OkT (z : Str) : Prop := Asc z ∧ z.length ≤ 100
def sp_sign (p : Nat → Bool) : Sp := fun vs H Q _ => ∃ c, vs = [.str ⟨#[c]⟩] ∧ Q (.bl (p c)) H
def sp_name : Sp := fun vs H Q _ => ∃ z, vs = [.str z] ∧ OkT z ∧ ∀ H', Same H H' → Q (.bl (nameOk z)) H'
def sp_read (c_NoLine : Addr) : Sp := fun vs H Q E => ∃ z, vs = [.str z] ∧ OkT z ∧ (numOk z = true → ∀ H', Same H H' → Q (.int (numVal z)) H') ∧ (numOk z = false → ∀ H', Same H H' → E (.ref c_NoLine) none H')
def sp_whole : Sp := fun vs H Q _ => ∃ n : Int, vs = [.int n] ∧ Q (.bl true) H
def sp_mixed : Sp := fun vs H Q _ => ∃ c k : Int, vs = [.int c, .int k] ∧ 0 ≤ k ∧ k ≤ 1000 ∧ ∀ n, 0 ≤ n → Q (.int n) H
def sp_wide : Sp := fun vs H Q _ => ∃ c k : Int, vs = [.int c, .int k] ∧ 0 ≤ k ∧ k ≤ 500 ∧ ∀ n, 0 ≤ n → Q (.int n) H
def sp_kept : Sp := fun vs H Q _ => vs = [] ∧ ∀ p H', Nw H H' p (.lst keptV) → Q (.ref p) H'
def sp_sg : Sp := fun vs H Q _ => ∃ n : Int, vs = [.int n] ∧ ∀ c, c < 128 → Q (.str ⟨#[c]⟩) H
def sp_take : Sp := fun vs H Q _ => ∃ (p : Addr) (d m : Int), vs = [.ref p, .int m] ∧ 0 < m ∧ m ≤ 1000000000 ∧ 0 ≤ d ∧ H p = some (.lst [.int d]) ∧ ∀ v d' H', 0 ≤ v → v < m → 0 ≤ d' → (∀ b o, b ≠ p → H b = some o → H' b = some o) → H' p = some (.lst [.int d']) → Q (.int v) H'
def sp_text : Sp := fun vs H Q _ => ∃ (p : Addr) (d : Int), vs = [.ref p] ∧ 0 ≤ d ∧ H p = some (.lst [.int d]) ∧ ∀ z H', OkT z → (∀ b o, b ≠ p → H b = some o → H' b = some o) → Q (.str z) H'
def sp_due : Sp := fun vs H Q _ => ∃ z, vs = [.str z] ∧ OkT z ∧ Q (if numOk z = true then .int (numVal z) else .non) H
def kindsV : List V := [.bl true, .bl true, .bl false, .bl false, .bl false, .bl false, .bl false]
def sp_kinds : Sp := fun vs H Q _ => ∃ z, vs = [.str z] ∧ OkT z ∧ numOk z = false ∧ ∀ p H', Same H H' → H' p = some (.lst kindsV) → Q (.ref p) H'
def sp_right : Sp := fun vs H Q _ => ∃ z, vs = [.str z] ∧ OkT z ∧ ∀ H', Same H H' → Q (.bl true) H'
def sp_readG : Sp := fun vs H Q _ => ∃ z, vs = [.str z] ∧ OkT z ∧ numOk z = true ∧ ∀ H', Same H H' → Q (.int (numVal z)) H'
def sp_law (K : PySem.W.Frag) : Sp := fun vs H Q _ => ∃ (a : Addr) (ns : List Int), vs = [.ref a] ∧ SqL K H a (ns.map V.int) ∧ ns.length ≤ 63 ∧ ∀ H', Q (.bl true) H'
theorem at0 {α : Type} (x : α) (xs : List α) : atI (x :: xs) 0 = some x := atI_nat (j := 0) rfl
theorem iteY {c A B : Prop} [Decidable c] (hc : c) (h : A) : if c then A else B := by rw [if_pos hc]; exact h
theorem iteN {c A B : Prop} [Decidable c] (hc : ¬ c) (h : B) : if c then A else B := by rw [if_neg hc]; exact h
theorem s_a : Str.ofString "a" = ⟨#[97]⟩ := by decide +kernel
theorem s_z : Str.ofString "z" = ⟨#[122]⟩ := by decide +kernel
theorem s_0 : Str.ofString "0" = ⟨#[48]⟩ := by decide +kernel
theorem s_9 : Str.ofString "9" = ⟨#[57]⟩ := by decide +kernel
theorem s_m : Str.ofString "-" = ⟨#[45]⟩ := by decide +kernel
theorem take_one {z : Str} {i : Nat} {c : Nat} (e : z.cps[i]? = some c) : z.cps.toList.take (i + 1) = z.cps.toList.take i ++ [c] := by
  have e' : z.cps.toList[i]? = some c := by simpa using e
  rw [List.take_add_one, e']
  rfl
theorem take_all (z : Str) : z.cps.toList.take z.cps.size = z.cps.toList := List.take_of_length_le (by simp)
theorem kept_flat : keptV.all flatV = true := by decide +kernel
theorem small {m : Nat} (h : m ≤ 1000) : m ≤ sizeLine := Nat.le_of_lt (small1000 h)
theorem figs_len (z : Str) : (figs z).length ≤ z.length := by
  unfold figs
  split
  · rw [List.length_drop, L2.len_list]; omega
  · rw [L2.len_list]; exact Nat.le_refl _
theorem figs_str (z : Str) : (if negs z = true then Txt.slice z (some 1) none else z).cps.toList = figs z := by
  unfold figs
  split
  · exact slice_from z 1
  · rfl
theorem neg_cons {z : Str} (h : negs z = true) : z.cps.toList = 45 :: figs z := by
  have e : figs z = z.cps.toList.drop 1 := by unfold figs; rw [if_pos h]
  rw [e]
  unfold negs at h
  cases hz : z.cps.toList with
  | nil => rw [hz] at h; simp at h
  | cons c r => rw [hz] at h; simp at h; rw [h]; rfl
theorem isF_iff (c : Nat) : isF c = true ↔ 48 ≤ c ∧ c ≤ 57 := by simp [isF]
theorem all_digits {cs : List Nat} (h : cs.all isF = true) : PySem.NumText.AllDigits cs := fun c hc => (isF_iff c).mp (List.all_eq_true.mp h c hc)
theorem num_int {z : Str} (h : numOk z = true) (hz : OkT z) : PySem.intText? z = some (numVal z) := by
  unfold numOk at h
  simp only [Bool.and_eq_true, decide_eq_true_eq] at h
  obtain ⟨⟨⟨h1, h2⟩, h3⟩, h4⟩ := h
  have hne : figs z ≠ [] := fun e => by rw [e] at h1; simp at h1
  have hl : z.length ≤ 4300 := Nat.le_trans hz.2 (by decide)
  unfold numVal
  by_cases n : negs z = true
  · rw [if_pos n]
    exact PySem.intText_neg (neg_cons n) (all_digits h3) hne hl
  · rw [if_neg n]
    have e : figs z = z.cps.toList := by unfold figs; rw [if_neg n]
    rw [e] at h3 hne ⊢
    exact PySem.intText_digits (all_digits h3) hne hl
theorem numOk_len {z : Str} (h : ¬ (1 ≤ (figs z).length ∧ (figs z).length ≤ 9)) : numOk z = false := by
  unfold numOk
  have : (decide (1 ≤ (figs z).length) && decide ((figs z).length ≤ 9)) = false := by
    rw [Bool.and_eq_false_iff]
    by_cases h1 : 1 ≤ (figs z).length
    · right; exact decide_eq_false (fun h2 => h ⟨h1, h2⟩)
    · left; exact decide_eq_false h1
  rw [this]; rfl
theorem numOk_all {z : Str} (h : (figs z).all isF = false) : numOk z = false := by
  unfold numOk
  rw [h, Bool.and_false]; rfl
theorem numOk_nought {z : Str} (h : (figs z).head? = some 48) (h2 : z ≠ Str.ofString "0") : numOk z = false := by
  unfold numOk
  rw [h, decide_eq_false h2]
  simp
theorem numOk_yes {z : Str} (h1 : 1 ≤ (figs z).length) (h2 : (figs z).length ≤ 9) (h3 : (figs z).all isF = true) (h4 : (figs z).head? = some 48 → z = Str.ofString "0") : numOk z = true := by
  unfold numOk
  rw [decide_eq_true h1, decide_eq_true h2, h3]
  by_cases h : (figs z).head? = some 48
  · rw [decide_eq_true (h4 h)]; simp
  · have : ((figs z).head? == some 48) = false := by simpa using h
    rw [this]; rfl
def Kp (p : Addr) (H H' : Hp) : Prop := ∀ b o, b ≠ p → H b = some o → H' b = some o
theorem Kp.refl (p : Addr) (H : Hp) : Kp p H H := fun _ _ _ h => h
theorem Kp.trans {p : Addr} {H H1 H2 : Hp} (a : Kp p H H1) (b : Kp p H1 H2) : Kp p H H2 := fun c o n h => b c o n (a c o n h)
theorem dp_kinds {K : PySem.W.Frag} {H : Hp} {p : Addr} (h : H p = some (.lst kindsV)) : Dp K H (.ref p) (.list [.bool true, .bool true, .bool false, .bool false, .bool false, .bool false, .bool false]) :=
  .lst (SqL.of h) (.cons (.bl _) (.cons (.bl _) (.cons (.bl _) (.cons (.bl _) (.cons (.bl _) (.cons (.bl _) (.cons (.bl _) .nil)))))))
theorem len_letters : (Str.ofString "abcdefghijklmnopqrstuvwxyz").cps.toList.length = 26 := by decide +kernel
theorem len_one (c : Nat) : (⟨#[c]⟩ : Str).length = 1 := rfl
theorem same_kp {p : Addr} {H H1 H2 : Hp} (g : Same H H1) (h : H p = none) (k : Kp p H1 H2) : Same H H2 := fun b o e => k b o (fun z => by subst z; rw [h] at e; cases e) (g b o e)
def signW : List Str := [Str.ofString "lane", Str.ofString "lanes", Str.ofString "mine"]
def workW : List Str := [Str.ofString "+", Str.ofString "-", Str.ofString "*", Str.ofString "div", Str.ofString "rem", Str.ofString "<", Str.ofString "="]
inductive W7 where
  | plus | minus | times | div | rem | lt | eq
  deriving DecidableEq
def W7.str : W7 → Str
  | .plus => Str.ofString "+" | .minus => Str.ofString "-" | .times => Str.ofString "*" | .div => Str.ofString "div" | .rem => Str.ofString "rem" | .lt => Str.ofString "<" | .eq => Str.ofString "="
inductive Ex where
  | num (i : Int) | name (x : Str) | lane | lanes | mine | box (e : Ex) | op (w : W7) (a b : Ex)
def dEx : Ex → PyData
  | .num i => .tuple [.str (Str.ofString "num"), .int i]
  | .name x => .tuple [.str (Str.ofString "name"), .str x]
  | .lane => .tuple [.str (Str.ofString "lane")]
  | .lanes => .tuple [.str (Str.ofString "lanes")]
  | .mine => .tuple [.str (Str.ofString "mine")]
  | .box e => .tuple [.str (Str.ofString "box"), dEx e]
  | .op w a b => .tuple [.str w.str, dEx a, dEx b]
def Ex.ws : Ex → List Str
  | .num i => [Str.ofString (toString i)]
  | .name x => [x]
  | .lane => [Str.ofString "lane"]
  | .lanes => [Str.ofString "lanes"]
  | .mine => [Str.ofString "mine"]
  | .box e => Str.ofString "box" :: e.ws
  | .op w a b => w.str :: (a.ws ++ b.ws)
def Ex.dp : Ex → Nat
  | .box e => e.dp + 1
  | .op _ a b => max a.dp b.dp + 1
  | _ => 0
def Ex.ok : Ex → Prop
  | .num i => -999999999 ≤ i ∧ i ≤ 999999999
  | .name x => nameOk x = true ∧ OkT x
  | .box e => e.ok
  | .op _ a b => a.ok ∧ b.ok
  | _ => True
def Ex.tx (e : Ex) : Str := Str.join BL e.ws
def flds (l : Addr) (i : Int) : List (Str × V) := [(Str.ofString "row", .ref l), (Str.ofString "at", .int i)]
def WalkAt (C : Addr) (H : Hp) (p : Addr) (ws : List Str) (i : Nat) : Prop := ∃ dx l, p ≠ l ∧ H p = some (.ins C dx (flds l i)) ∧ H l = some (.lst (ws.map V.str))
def mx (c k : Int) : Int := (((c.fmod 1000003 + 1) * (48271 + 2 * k * k)).fmod 2147483647 * ((((c.fmod 1000003 + 1) * (48271 + 2 * k * k)).fmod 2147483647).fmod 65537 + k)).fmod 2147483629
def letr (n : Int) : Str := ⟨#[((Str.ofString "abcdefghijklmnopqrstuvwxyz").cps.toList.getD n.toNat 97)]⟩
def nm1 (n : Int) : Nat → Str
  | 0 => Str.ofString ""
  | k + 1 => nm1 n k ++ letr ((mx (n.fdiv 8) k).fmod 26)
def kw (n : Int) : Str := keptW.getD n.toNat (Str.ofString "if")
def nm2 (n : Int) : Str := if (n.fdiv 8).fmod 9 = 5 then
    (if (n.fdiv 1800).fmod 3 = 0 then Txt.slice (kw ((n.fdiv 72).fmod 25)) (some 1) none else if (n.fdiv 1800).fmod 3 = 1 then Txt.slice (kw ((n.fdiv 72).fmod 25) ++ Str.ofString "s") none (some 8) else Txt.slice (letr ((n.fdiv 1800).fmod 26) ++ kw ((n.fdiv 72).fmod 25)) none (some 8))
  else nm1 n (1 + n.fmod 8).toNat
def nm (n : Int) : Str := if inV (V.str (nm2 n)) keptV = true then Str.ofString "q" ++ Txt.slice (nm2 n) (some 1) none else nm2 n
def sp_mixedD : Sp := fun vs H Q _ => ∃ c k : Int, vs = [.int c, .int k] ∧ 0 ≤ k ∧ k ≤ 1000 ∧ Q (.int (mx c k)) H
def sp_init (C : Addr) : Sp := fun vs H Q _ => ∃ p l dx, vs = [.ref p, .ref l] ∧ H p = some (.ins C dx []) ∧ ∀ H', H' p = some (.ins C dx (flds l 0)) → Kp p H H' → Q .non H'
def sp_over (C : Addr) : Sp := fun vs H Q _ => ∃ p ws i, vs = [.ref p] ∧ WalkAt C H p ws i ∧ ws.length ≤ 1000 ∧ Q (.bl (decide (i = ws.length))) H
def sp_taken (C : Addr) : Sp := fun vs H Q _ => ∃ p ws i z, vs = [.ref p] ∧ WalkAt C H p ws i ∧ ws.length ≤ 1000 ∧ ws[i]? = some z ∧ ∀ H', WalkAt C H' p ws (i + 1) → Kp p H H' → Q (.str z) H'
def sp_words (C : Addr) : Sp := fun vs H Q _ => ∃ z, vs = [.str z] ∧ z.length ≤ 100000 ∧ ∀ p H', Same H H' → H p = none → WalkAt C H' p (Txt.split z BL) 0 → Q (.ref p) H'
def sp_end (C : Addr) : Sp := fun vs H Q _ => ∃ p ws, vs = [.ref p] ∧ WalkAt C H p ws ws.length ∧ ws.length ≤ 1000 ∧ Q .non H
def sp_expr (K : PySem.W.Frag) (C : Addr) : Sp := fun vs H Q _ => ∃ p ws i e, vs = [.ref p] ∧ WalkAt C H p ws i ∧ ws.length ≤ 1000 ∧ Ex.ok e ∧ e.dp ≤ 6 ∧ (∃ r, ws.drop i = e.ws ++ r) ∧ ∀ v H', WalkAt C H' p ws (i + e.ws.length) → Kp p H H' → Dp K H' v (dEx e) → Q v H'
def sp_readE (K : PySem.W.Frag) : Sp := fun vs H Q _ => ∃ e, vs = [.str (Ex.tx e)] ∧ Ex.ok e ∧ e.dp ≤ 6 ∧ ∀ v H', Same H H' → Dp K H' v (dEx e) → Q v H'
def sp_shown (K : PySem.W.Frag) : Nat → Sp
  | 0 => spNever
  | n + 1 => fun vs H Q _ => ∃ v e, vs = [v] ∧ Dp K H v (dEx e) ∧ Ex.ok e ∧ e.dp ≤ n ∧ e.dp ≤ 6 ∧ ∀ H', Same H H' → Q (.str e.tx) H'
def sp_lname : Sp := fun vs H Q _ => ∃ n : Int, vs = [.int n] ∧ 0 ≤ n ∧ ∀ H', Same H H' → Q (.str (nm n)) H'
def sp_lnum : Sp := fun vs H Q _ => ∃ n : Int, vs = [.int n] ∧ 0 ≤ n ∧ ∀ i H', -999999999 ≤ i → i ≤ 999999999 → Same H H' → Q (.int i) H'
def sp_leaf (K : PySem.W.Frag) : Sp := fun vs H Q _ => ∃ n : Int, vs = [.int n] ∧ 0 ≤ n ∧ ∀ p v e H', Same H H' → H' p = some (.tup [v, .str (Ex.tx e)]) → Dp K H' v (dEx e) → Ex.ok e → e.dp = 0 → Q (.ref p) H'
def sp_cell (K : PySem.W.Frag) : Sp := fun vs H Q _ => ∃ (a : Addr) (cs : List Int) (k : Nat), vs = [.ref a, .int k] ∧ SqL K H a (cs.map V.int) ∧ cs.length ≤ 1000 ∧ (∀ c ∈ cs, 0 ≤ c) ∧ ∀ n, 0 ≤ n → Q (.int n) H
def sp_rightE (K : PySem.W.Frag) : Sp := fun vs H Q _ => ∃ v e, vs = [v, .str (Ex.tx e)] ∧ Dp K H v (dEx e) ∧ Ex.ok e ∧ e.dp ≤ 6 ∧ ∀ H', Same H H' → Q (.bl true) H'
theorem numOk_parts {z : Str} (h : numOk z = true) : 1 ≤ (figs z).length ∧ (figs z).length ≤ 9 ∧ (figs z).all isF = true ∧ ((figs z).head? = some 48 → z = Str.ofString "0") := by
  unfold numOk at h
  simp only [Bool.and_eq_true, decide_eq_true_eq] at h
  obtain ⟨⟨⟨h1, h2⟩, h3⟩, h4⟩ := h
  refine ⟨h1, h2, h3, fun e => ?_⟩
  rw [e] at h4
  simpa using h4
theorem row_at : ¬ (Str.ofString "row" = Str.ofString "at") := by decide +kernel
theorem flds_mk (l : Addr) (j : Int) : putF (Str.ofString "at") (.int j) (putF (Str.ofString "row") (.ref l) []) = flds l j := by
  show (if Str.ofString "row" = Str.ofString "at" then _ else (Str.ofString "row", V.ref l) :: putF (Str.ofString "at") (.int j) []) = flds l j
  rw [if_neg row_at]
  rfl
theorem flds_put (l : Addr) (i j : Int) : putF (Str.ofString "at") (.int j) (flds l i) = flds l j := by
  show (if Str.ofString "row" = Str.ofString "at" then _ else (Str.ofString "row", V.ref l) :: (if Str.ofString "at" = Str.ofString "at" then [(Str.ofString "at", V.int j)] else _)) = flds l j
  rw [if_neg row_at, if_pos rfl]
  rfl
theorem flds_row (l : Addr) (i : Int) : (flds l i).lookup (Str.ofString "row") = some (.ref l) := by
  rw [← flds_mk, lookup_putF, if_neg row_at, lookup_putF, if_pos rfl]
theorem flds_at (l : Addr) (i : Int) : (flds l i).lookup (Str.ofString "at") = some (.int i) := by
  rw [← flds_mk, lookup_putF, if_pos rfl]
theorem flds_no (l : Addr) (i : Int) {m : Str} (h1 : ¬ m = Str.ofString "at") (h2 : ¬ m = Str.ofString "row") : (flds l i).lookup m = none := by
  rw [← flds_mk, lookup_putF, if_neg h1, lookup_putF, if_neg h2]
  rfl
theorem bl_eq : Str.ofString " " = BL := by decide +kernel
theorem at_all {α : Type} {Pz : α → Prop} {xs : List α} {i : Int} (h0 : 0 ≤ i) (h1 : i < xs.length) (h : ∀ x ∈ xs, Pz x) : ∃ v, atI xs i = some v ∧ Pz v := by
  obtain ⟨v, hv⟩ := at_ok h0 h1
  exact ⟨v, hv, h v (at_mem hv)⟩
theorem nat_text (m : Nat) : (Str.ofString (toString ((m : Nat) : Int))).cps.toList = (Nat.toDigits 10 m).map Char.toNat := PySem.W.KIN.signs_num m
theorem neg_text (m : Nat) : (Str.ofString (toString (Int.negSucc m))).cps.toList = 45 :: (Nat.toDigits 10 (m + 1)).map Char.toNat := by
  rw [signs_ofString]
  show ("-" ++ Nat.repr (m + 1)).toList.map Char.toNat = _
  rw [String.toList_append, List.map_append, Nat.toList_repr]
  rfl
theorem dig_all (m : Nat) : ((Nat.toDigits 10 m).map Char.toNat).all isF = true := by
  rw [List.all_eq_true]
  intro c hc
  obtain ⟨ch, hch, e⟩ := List.mem_map.mp hc
  have r := PyProof.Rows.digit_range (Nat.isDigit_of_mem_toDigits (by decide) (by decide) hch)
  rw [isF_iff]
  omega
theorem dig_len {m : Nat} (h : m ≤ 999999999) : ((Nat.toDigits 10 m).map Char.toNat).length ≤ 9 := by
  rw [List.length_map]
  exact (Nat.length_toDigits_le_iff (by decide) (by decide)).mpr (by omega)
theorem dig_pos (m : Nat) : 1 ≤ ((Nat.toDigits 10 m).map Char.toNat).length := by
  rw [List.length_map]
  exact Nat.length_toDigits_pos
theorem dc_zero : ∀ m, m < 10 → (Nat.digitChar m).toNat = 48 → m = 0 := by decide
theorem dig_head {m : Nat} : ((Nat.toDigits 10 m).map Char.toNat).head? = some 48 → m = 0 := by
  induction m using Nat.strongRecOn with
  | _ m ih =>
    intro h
    by_cases hm : m < 10
    · rw [Nat.toDigits_of_lt_base hm] at h
      exact dc_zero m hm (by simpa using h)
    · exfalso
      have t : Nat.toDigits 10 (m / 10) ++ Nat.toDigits 10 (m % 10) = Nat.toDigits 10 (10 * (m / 10) + m % 10) := Nat.toDigits_append_toDigits (by decide) (by omega) (Nat.mod_lt m (by decide))
      rw [Nat.div_add_mod] at t
      rw [← t, List.map_append] at h
      have p := dig_pos (m / 10)
      have h' : ((Nat.toDigits 10 (m / 10)).map Char.toNat).head? = some 48 := by
        cases e : (Nat.toDigits 10 (m / 10)).map Char.toNat with
        | nil => rw [e] at p; simp at p
        | cons c r => rw [e] at h; simpa using h
      have := ih (m / 10) (by omega) h'
      omega
theorem num_word {i : Int} (h0 : -999999999 ≤ i) (h1 : i ≤ 999999999) : numOk (Str.ofString (toString i)) = true ∧ numVal (Str.ofString (toString i)) = i ∧ Asc (Str.ofString (toString i)) ∧ (Str.ofString (toString i)).length ≤ 10 ∧ 32 ∉ (Str.ofString (toString i)).cps.toList := by
  have dg : ∀ m : Nat, ∀ c ∈ (Nat.toDigits 10 m).map Char.toNat, 48 ≤ c ∧ c ≤ 57 := fun m c hc => (isF_iff c).mp (List.all_eq_true.mp (dig_all m) c hc)
  cases i with
  | ofNat m =>
    simp only [Int.ofNat_eq_natCast] at h0 h1 ⊢
    have e := nat_text m
    have hm : m ≤ 999999999 := by omega
    have ng : negs (Str.ofString (toString ((m : Nat) : Int))) = false := by
      unfold negs
      rw [e]
      cases q : ((Nat.toDigits 10 m).map Char.toNat).head? with
      | none => rfl
      | some c =>
        have := dg m c (List.mem_of_head? q)
        have : c ≠ 45 := by omega
        simpa using this
    have fg : figs (Str.ofString (toString ((m : Nat) : Int))) = (Nat.toDigits 10 m).map Char.toNat := by unfold figs; rw [ng, if_neg Bool.false_ne_true, e]
    refine ⟨numOk_yes (by rw [fg]; exact dig_pos m) (by rw [fg]; exact dig_len hm) (by rw [fg]; exact dig_all m) (fun q => ?_), ?_, ?_, ?_, ?_⟩
    · rw [fg] at q
      rw [dig_head q]
      rfl
    · show numVal (Str.ofString (toString ((m : Nat) : Int))) = (m : Int)
      unfold numVal
      rw [ng, if_neg Bool.false_ne_true, fg, PySem.W.KIN.val_back]
    · rw [asc_iff]
      intro c hc
      have := dg m c (by rw [← e]; exact hc)
      omega
    · rw [← L2.len_list]
      have := dig_len hm
      show (Str.ofString (toString ((m : Nat) : Int))).cps.toList.length ≤ 10
      rw [e]; omega
    · intro hc
      have := dg m 32 (by rw [← e]; exact hc)
      omega
  | negSucc m =>
    have e := neg_text m
    have hm : m + 1 ≤ 999999999 := by omega
    have ng : negs (Str.ofString (toString (Int.negSucc m))) = true := by unfold negs; rw [e]; rfl
    have fg : figs (Str.ofString (toString (Int.negSucc m))) = (Nat.toDigits 10 (m + 1)).map Char.toNat := by unfold figs; rw [ng, if_pos rfl, e]; rfl
    refine ⟨numOk_yes (by rw [fg]; exact dig_pos _) (by rw [fg]; exact dig_len hm) (by rw [fg]; exact dig_all _) (fun q => ?_), ?_, ?_, ?_, ?_⟩
    · rw [fg] at q
      have := dig_head q
      omega
    · unfold numVal
      rw [ng, if_pos rfl, fg, PySem.W.KIN.val_back]
      omega
    · rw [asc_iff]
      intro c hc
      rw [e] at hc
      rcases List.mem_cons.mp hc with hc | hc
      · omega
      · have := dg _ c hc; omega
    · rw [← L2.len_list, e]
      have := dig_len hm
      simp only [List.length_cons]
      omega
    · rw [e]
      intro hc
      rcases List.mem_cons.mp hc with hc | hc
      · omega
      · have := dg _ 32 hc; omega
theorem inV_iff (z : Str) (ws : List Str) : inV (V.str z) (ws.map V.str) = true ↔ z ∈ ws := by
  unfold inV
  rw [List.any_eq_true]
  constructor
  · rintro ⟨y, hy, h⟩
    obtain ⟨w, hw, rfl⟩ := List.mem_map.mp hy
    have : w = z := by simpa [eqV] using h
    rw [← this]; exact hw
  · intro h
    exact ⟨V.str z, List.mem_map.mpr ⟨z, h, rfl⟩, by simp [eqV]⟩
theorem name_parts {z : Str} (h : nameOk z = true) : z ∉ keptW ∧ 1 ≤ z.length ∧ z.length ≤ 8 ∧ z.cps.toList.all isL = true := by
  unfold nameOk at h
  simp only [Bool.and_eq_true, Bool.not_eq_true', decide_eq_true_eq] at h
  obtain ⟨⟨h1, h2, h3⟩, h4⟩ := h
  refine ⟨fun m => ?_, h2, h3, h4⟩
  have := (inV_iff z keptW).mpr m
  unfold keptV at h1
  rw [h1] at this
  cases this
theorem isL_iff (c : Nat) : isL c = true ↔ 97 ≤ c ∧ c ≤ 122 := by simp [isL]
theorem let_asc {z : Str} (h : z.cps.toList.all isL = true) : Asc z ∧ 32 ∉ z.cps.toList := by
  refine ⟨asc_iff.mpr fun c hc => ?_, fun hc => ?_⟩
  · have := (isL_iff c).mp (List.all_eq_true.mp h c hc); omega
  · have := (isL_iff 32).mp (List.all_eq_true.mp h 32 hc); omega
def special : List Str := Str.ofString "box" :: (workW ++ signW)
def wordFine (z : Str) : Prop := Asc z ∧ z.length ≤ 10 ∧ 32 ∉ z.cps.toList
theorem fix_fine : ∀ w ∈ special, wordFine w := by
  have h : (special.all fun w => w.cps.all (· < 128) && decide (w.length ≤ 10) && !w.cps.toList.contains 32) = true := by decide +kernel
  intro w hw
  have := List.all_eq_true.mp h w hw
  simp only [Bool.and_eq_true, decide_eq_true_eq] at this
  exact ⟨this.1.1, this.1.2, by simpa using this.2⟩
theorem ws_fine : ∀ {e : Ex}, e.ok → ∀ w ∈ e.ws, wordFine w
  | .num i, h, w, hw => by
    have : w = Str.ofString (toString i) := by simpa [Ex.ws] using hw
    rw [this]
    obtain ⟨_, _, a, b, c⟩ := num_word h.1 h.2
    exact ⟨a, b, c⟩
  | .name x, h, w, hw => by
    have : w = x := by simpa [Ex.ws] using hw
    rw [this]
    obtain ⟨_, _, n3, n4⟩ := name_parts h.1
    exact ⟨(let_asc n4).1, by omega, (let_asc n4).2⟩
  | .lane, _, w, hw => fix_fine w (by simp [Ex.ws] at hw; rw [hw]; decide +kernel)
  | .lanes, _, w, hw => fix_fine w (by simp [Ex.ws] at hw; rw [hw]; decide +kernel)
  | .mine, _, w, hw => fix_fine w (by simp [Ex.ws] at hw; rw [hw]; decide +kernel)
  | .box e, h, w, hw => by
    rcases List.mem_cons.mp (show w ∈ Str.ofString "box" :: e.ws from hw) with rfl | hw
    · exact fix_fine _ List.mem_cons_self
    · exact ws_fine (e := e) h w hw
  | .op o a b, h, w, hw => by
    rcases List.mem_cons.mp (show w ∈ o.str :: (a.ws ++ b.ws) from hw) with rfl | hw
    · exact fix_fine _ (by cases o <;> decide +kernel)
    · rcases List.mem_append.mp hw with hw | hw
      · exact ws_fine (e := a) h.1 w hw
      · exact ws_fine (e := b) h.2 w hw
theorem ws_ne : ∀ e : Ex, e.ws ≠ [] := by intro e; cases e <;> simp [Ex.ws]
theorem ws_len : ∀ e : Ex, e.ws.length + 1 ≤ 2 ^ (e.dp + 1)
  | .num _ => by simp [Ex.ws, Ex.dp]
  | .name _ => by simp [Ex.ws, Ex.dp]
  | .lane => by simp [Ex.ws, Ex.dp]
  | .lanes => by simp [Ex.ws, Ex.dp]
  | .mine => by simp [Ex.ws, Ex.dp]
  | .box e => by
    have := ws_len e
    have h2 : 2 ^ (e.dp + 1 + 1) = 2 ^ (e.dp + 1) * 2 := by rw [Nat.pow_succ]
    simp only [Ex.ws, Ex.dp, List.length_cons]
    have : 2 ≤ 2 ^ (e.dp + 1) := Nat.le_trans (by decide) (Nat.pow_le_pow_right (n := 2) (by decide) (show 1 ≤ e.dp + 1 by omega))
    omega
  | .op o a b => by
    have h1 := ws_len a
    have h2 := ws_len b
    have e : 2 ^ (max a.dp b.dp + 1 + 1) = 2 ^ (max a.dp b.dp + 1) * 2 := by rw [Nat.pow_succ]
    have m1 : 2 ^ (a.dp + 1) ≤ 2 ^ (max a.dp b.dp + 1) := Nat.pow_le_pow_right (by decide) (by omega)
    have m2 : 2 ^ (b.dp + 1) ≤ 2 ^ (max a.dp b.dp + 1) := Nat.pow_le_pow_right (by decide) (by omega)
    simp only [Ex.ws, Ex.dp, List.length_cons, List.length_append]
    omega
theorem ws_127 {e : Ex} (h : e.dp ≤ 6) : e.ws.length ≤ 127 := by
  have := ws_len e
  have : 2 ^ (e.dp + 1) ≤ 2 ^ 7 := Nat.pow_le_pow_right (by decide) (by omega)
  omega
theorem sum_le : ∀ (ws : List Str), (∀ w ∈ ws, w.length ≤ 10) → (ws.map (·.length)).sum ≤ 10 * ws.length
  | [], _ => by simp
  | w :: r, h => by
    have h1 := h w List.mem_cons_self
    have h2 := sum_le r fun x hx => h x (List.mem_cons_of_mem _ hx)
    simp only [List.map_cons, List.sum_cons, List.length_cons]
    omega
theorem tx_len {e : Ex} (h : e.ok) (hd : e.dp ≤ 6) : e.tx.length ≤ 1400 := by
  have h1 := StrLaws.join_length_le BL e.ws
  have h2 := sum_le e.ws fun w hw => (ws_fine h w hw).2.1
  have h3 := ws_127 hd
  have h4 : BL.length = 1 := rfl
  have h5 : e.tx.length ≤ (e.ws.map (·.length)).sum + e.ws.length * BL.length := h1
  rw [h4] at h5
  omega
theorem drop_head {ws t : List Str} {i : Nat} {w : Str} (h : ws.drop i = w :: t) : ws[i]? = some w ∧ ws.drop (i + 1) = t := by
  constructor
  · have := List.getElem?_drop (xs := ws) (i := i) (j := 0)
    rw [h] at this
    simpa using this.symm
  · have : ws.drop (i + 1) = (ws.drop i).drop 1 := by rw [List.drop_drop]
    rw [this, h]; rfl
theorem WalkAt.same {C : Addr} {H H' : Hp} {p : Addr} {ws : List Str} {i : Nat} (h : WalkAt C H p ws i) (g : Same H H') : WalkAt C H' p ws i := by
  obtain ⟨dx, l, ne, h1, h2⟩ := h
  exact ⟨dx, l, ne, g _ _ h1, g _ _ h2⟩
theorem kp_same {p : Addr} {H H' : Hp} (g : Same H H') : Kp p H H' := fun b o _ e => g b o e
section
variable {K : PySem.W.Frag} {H H' : Hp} {p : Addr}
def Own (H : Hp) (p : Addr) : Prop := ∃ C dx fs, H p = some (HO.ins C dx fs)
theorem WalkAt.own {C : Addr} {ws : List Str} {i : Nat} (h : WalkAt C H p ws i) : Own H p := by
  obtain ⟨dx, l, ne, h1, _⟩ := h
  exact ⟨C, dx, _, h1⟩
theorem sqT_kp {a : Addr} {xs : List V} (g : Kp p H H') (o : Own H p) (q : SqT K H a xs) : SqT K H' a xs := by
  obtain ⟨C, dx, fs, hp⟩ := o
  rcases q with (h | ⟨o, h⟩) | h
  · exact .inl (.inl (g _ _ (fun e => by subst e; rw [h] at hp; cases hp) h))
  · exact .inl (.inr ⟨o, g _ _ (fun e => by subst e; rw [h] at hp; cases hp) h⟩)
  · exact .inr h
theorem sqL_kp {a : Addr} {xs : List V} (g : Kp p H H') (o : Own H p) (q : SqL K H a xs) : SqL K H' a xs := by
  obtain ⟨C, dx, fs, hp⟩ := o
  rcases q with (h | ⟨o, h⟩) | h
  · exact .inl (.inl (g _ _ (fun e => by subst e; rw [h] at hp; cases hp) h))
  · exact .inl (.inr ⟨o, g _ _ (fun e => by subst e; rw [h] at hp; cases hp) h⟩)
  · exact .inr h
end
mutual
theorem dp_kp {K : PySem.W.Frag} {H H' : Hp} {p : Addr} (g : Kp p H H') (o : Own H p) : ∀ {v : V} {d : PyData}, Dp K H v d → Dp K H' v d
  | _, _, .non => .non
  | _, _, .bl b => .bl b
  | _, _, .int i => .int i
  | _, _, .str x => .str x
  | _, _, .lst q a => .lst (sqL_kp g o q) (dpAll_kp g o a)
  | _, _, .tup q a => .tup (sqT_kp g o q) (dpAll_kp g o a)
theorem dpAll_kp {K : PySem.W.Frag} {H H' : Hp} {p : Addr} (g : Kp p H H') (o : Own H p) : ∀ {vs : List V} {ds : List PyData}, DpAll K H vs ds → DpAll K H' vs ds
  | _, _, .nil => .nil
  | _, _, .cons h t => .cons (dp_kp g o h) (dpAll_kp g o t)
end
theorem work_flat : (workW.map V.str).all flatV = true := by decide +kernel
theorem sign_flat : (signW.map V.str).all flatV = true := by decide +kernel
theorem op_work (w : W7) : inV (V.str w.str) (workW.map V.str) = true := by cases w <;> decide +kernel
theorem op_box (w : W7) : ¬ w.str = Str.ofString "box" := by cases w <;> decide +kernel
theorem dp_tup {K : PySem.W.Frag} {H : Hp} {v : V} {ds : List PyData} (h : Dp K H v (.tuple ds)) : ∃ a xs, v = .ref a ∧ SqT K H a xs ∧ DpAll K H xs ds := by
  cases h with
  | tup q a => exact ⟨_, _, rfl, q, a⟩
theorem join_cons' (x : Str) {B : List Str} (h : B ≠ []) : Str.join BL (x :: B) = x ++ BL ++ Str.join BL B := by
  cases B with
  | nil => exact absurd rfl h
  | cons y r => rfl
theorem app_assoc (a b c : Str) : a ++ b ++ c = a ++ (b ++ c) := by
  apply str_ext
  show ((a.cps ++ b.cps) ++ c.cps).toList = (a.cps ++ (b.cps ++ c.cps)).toList
  simp
theorem join_app : ∀ {A B : List Str}, A ≠ [] → B ≠ [] → Str.join BL (A ++ B) = Str.join BL A ++ BL ++ Str.join BL B
  | [], _, h, _ => absurd rfl h
  | [x], B, _, hb => by rw [List.singleton_append, join_cons' x hb]; rfl
  | x :: y :: r, B, _, hb => by
    rw [List.cons_append, join_cons' x (by simp), join_app (A := y :: r) (by simp) hb, join_cons' x (B := y :: r) (by simp)]
    simp only [app_assoc]
theorem tx_box (e : Ex) : Str.join BL [Str.ofString "box", e.tx] = (Ex.box e).tx := by
  show _ = Str.join BL (Str.ofString "box" :: e.ws)
  rw [join_cons' _ (ws_ne e)]
  rfl
theorem tx_op (w : W7) (a b : Ex) : Str.join BL [w.str, a.tx, b.tx] = (Ex.op w a b).tx := by
  show _ = Str.join BL (w.str :: (a.ws ++ b.ws))
  have e1 : Str.join BL (w.str :: (a.ws ++ b.ws)) = w.str ++ BL ++ Str.join BL (a.ws ++ b.ws) := join_cons' _ (by simp [ws_ne])
  rw [e1, join_app (ws_ne a) (ws_ne b)]
  rfl
theorem join_ok {ws : List Str} (h1 : ws.length ≤ 10) (h2 : ∀ w ∈ ws, w.length ≤ 2000) : JoinOk BL ws = true := by
  refine PyProof.Rows.joinOk_of_weight ?_ (by decide)
  have : ∀ (l : List Str), (∀ w ∈ l, w.length ≤ 2000) → (l.map (·.length)).sum ≤ 2000 * l.length := by
    intro l
    induction l with
    | nil => intro _; simp
    | cons w r ih =>
      intro h
      have a := h w List.mem_cons_self
      have b := ih fun x hx => h x (List.mem_cons_of_mem _ hx)
      simp only [List.map_cons, List.sum_cons, List.length_cons]
      omega
  have := this ws h2
  omega
theorem log_small {j : Int} (h0 : -999999999 ≤ j) (h1 : j ≤ 999999999) : j.natAbs.log2 < 1920 := by
  by_cases h : j.natAbs = 0
  · rw [h]; decide
  · rw [Nat.log2_lt h]
    exact Nat.lt_of_lt_of_le (m := 2 ^ 30) (by omega) (Nat.pow_le_pow_right (by decide) (by decide))
theorem dp1 {K : PySem.W.Frag} {H : Hp} {xs : List V} {d : PyData} (h : DpAll K H xs [d]) : ∃ v, xs = [v] ∧ Dp K H v d := by
  cases h with
  | cons h t => cases t; exact ⟨_, rfl, h⟩
theorem dp2 {K : PySem.W.Frag} {H : Hp} {xs : List V} {d e : PyData} (h : DpAll K H xs [d, e]) : ∃ v u, xs = [v, u] ∧ Dp K H v d ∧ Dp K H u e := by
  cases h with
  | cons h t => obtain ⟨u, rfl, q⟩ := dp1 t; exact ⟨_, _, rfl, h, q⟩
theorem dp3 {K : PySem.W.Frag} {H : Hp} {xs : List V} {d e f : PyData} (h : DpAll K H xs [d, e, f]) : ∃ v u t, xs = [v, u, t] ∧ Dp K H v d ∧ Dp K H u e ∧ Dp K H t f := by
  cases h with
  | cons h t => obtain ⟨u, t, rfl, q, q2⟩ := dp2 t; exact ⟨_, _, _, rfl, h, q, q2⟩
theorem dp_str {K : PySem.W.Frag} {H : Hp} {v : V} {x : Str} (h : Dp K H v (.str x)) : v = .str x := by cases h; rfl
theorem dp_int {K : PySem.W.Frag} {H : Hp} {v : V} {x : Int} (h : Dp K H v (.int x)) : v = .int x := by cases h; rfl
theorem at1 {α : Type} (x y : α) (xs : List α) : atI (x :: y :: xs) 1 = some y := atI_nat (j := 1) rfl
theorem comp_tupW {K : PySem.W.Frag} {a : Addr} {xs : List V} {g : TG} {tc : TT} {te : TE} {σ : L2.St} {H : Hp} {Q : VK} (Pv : Nat → List V → Hp → Prop) (h0 : Pv 0 [] H) (hl : ∀ i ys H, i ≤ xs.length → Pv i ys H → SqT K H a xs) (hx : xs.length ≤ sizeLine)
    (hz : ∀ i ys H, Pv i ys H → ys.length ≤ i)
    (hs : ∀ i x ys H, xs[i]? = some x → Pv i ys H → g x σ H fun σ2 H2 => tc σ2 H2 fun b H3 => if b = true then te σ2 H3 fun v H4 => Pv (i + 1) (ys ++ [v]) H4 else Pv (i + 1) ys H3)
    (hd : ∀ ys H p, Pv xs.length ys H → H p = none → Q (.ref p) (upd H p (.lst ys))) :
    ∃ W : Nat → Nat → List V → Hp → Prop, (∃ m, W 0 m [] H) ∧ ∀ i m ys H, W i m ys H →
      ((Itt K a).stop i H ∧ ys.length ≤ sizeLine ∧ ∀ p, H p = none → Q (.ref p) (upd H p (.lst ys))) ∨
      ((Itt K a).go i H ∧ ys.length < sizeLine ∧ ∃ N : List V → Hp → Prop, (∀ ys' H', N ys' H' → ∃ m', m' < m ∧ W (i + 1) m' ys' H') ∧ ∀ x H', (Itt K a).yld i H x H' → g x σ H' fun σ2 H2 => tc σ2 H2 fun b H3 => if b = true then te σ2 H3 fun v H4 => N (ys ++ [v]) H4 else N ys H3) := by
  refine ⟨fun i m zs H => m = xs.length - i ∧ i ≤ xs.length ∧ Pv i zs H, ⟨xs.length, by simp, Nat.zero_le _, h0⟩, ?_⟩
  rintro i m zs H ⟨rfl, hi, p⟩
  have qa := hl i zs H hi p
  have zz := hz i zs H p
  by_cases hlt : i < xs.length
  · refine .inr ⟨⟨xs, xs[i], qa, by simp [hlt]⟩, by omega, Pv (i + 1), fun zs' H' p' => ⟨xs.length - (i + 1), by omega, rfl, hlt, p'⟩, fun x H' y => ?_⟩
    obtain ⟨e1, f1⟩ := y
    subst e1
    exact hs i x zs _ (f1 xs qa) p
  · have e : i = xs.length := by omega
    subst e
    exact .inl ⟨⟨xs, qa, Nat.le_refl _⟩, by omega, fun pp hp => hd zs H pp p hp⟩
theorem letr_at {m : Int} (h0 : 0 ≤ m) (h1 : m < 26) : ∃ c, atI (Str.ofString "abcdefghijklmnopqrstuvwxyz").cps.toList m = some c ∧ letr m = ⟨#[c]⟩ ∧ isL c = true := by
  obtain ⟨k, rfl⟩ : ∃ k : Nat, m = k := ⟨m.toNat, by omega⟩
  have hk : k < (Str.ofString "abcdefghijklmnopqrstuvwxyz").cps.toList.length := by rw [len_letters]; omega
  refine ⟨(Str.ofString "abcdefghijklmnopqrstuvwxyz").cps.toList[k], atI_nat (by simp only [List.getElem?_eq_getElem hk]), ?_, ?_⟩
  · unfold letr
    rw [Int.toNat_natCast, List.getD_eq_getElem?_getD, List.getElem?_eq_getElem hk]
    rfl
  · have : (Str.ofString "abcdefghijklmnopqrstuvwxyz").cps.toList.all isL = true := by decide +kernel
    exact List.all_eq_true.mp this _ (List.getElem_mem hk)
def Lets (z : Str) : Prop := z.cps.toList.all isL = true
theorem Lets.app {a b : Str} (h : Lets a) (h' : Lets b) : Lets (a ++ b) := by
  unfold Lets at *
  show ((a.cps ++ b.cps).toList.all isL) = true
  rw [Array.toList_append, List.all_append, h, h']
  rfl
theorem comp_enumW {K : PySem.W.Frag} {a : Addr} {xs : List V} {g : TG} {tc : TT} {te : TE} {σ : L2.St} {H : Hp} {Q : VK} (Pv : Nat → List V → Hp → Prop) (h0 : Pv 0 [] H) (hl : ∀ i ys H, i ≤ xs.length → Pv i ys H → SqL K H a xs) (hx : xs.length ≤ sizeLine)
    (hz : ∀ i ys H, Pv i ys H → ys.length ≤ i)
    (hs : ∀ i x p ys H, xs[i]? = some x → H p = none → Pv i ys H → g (.ref p) σ (upd H p (.tup [.int i, x])) fun σ2 H2 => tc σ2 H2 fun b H3 => if b = true then te σ2 H3 fun v H4 => Pv (i + 1) (ys ++ [v]) H4 else Pv (i + 1) ys H3)
    (hd : ∀ ys H p, Pv xs.length ys H → H p = none → Q (.ref p) (upd H p (.lst ys))) :
    ∃ W : Nat → Nat → List V → Hp → Prop, (∃ m, W 0 m [] H) ∧ ∀ i m ys H, W i m ys H →
      ((Ite K a).stop i H ∧ ys.length ≤ sizeLine ∧ ∀ p, H p = none → Q (.ref p) (upd H p (.lst ys))) ∨
      ((Ite K a).go i H ∧ ys.length < sizeLine ∧ ∃ N : List V → Hp → Prop, (∀ ys' H', N ys' H' → ∃ m', m' < m ∧ W (i + 1) m' ys' H') ∧ ∀ x H', (Ite K a).yld i H x H' → g x σ H' fun σ2 H2 => tc σ2 H2 fun b H3 => if b = true then te σ2 H3 fun v H4 => N (ys ++ [v]) H4 else N ys H3) := by
  refine ⟨fun i m zs H => m = xs.length - i ∧ i ≤ xs.length ∧ Pv i zs H, ⟨xs.length, by simp, Nat.zero_le _, h0⟩, ?_⟩
  rintro i m zs H ⟨rfl, hi, p⟩
  have qa := hl i zs H hi p
  have zz := hz i zs H p
  by_cases hlt : i < xs.length
  · refine .inr ⟨⟨xs, xs[i], qa, by simp [hlt]⟩, by omega, Pv (i + 1), fun zs' H' p' => ⟨xs.length - (i + 1), by omega, rfl, hlt, p'⟩, fun x H' y => ?_⟩
    obtain ⟨pp, x1, hp, e1, e2, f1⟩ := y
    subst e1 e2
    exact hs i x1 pp zs H (f1 xs qa) hp p
  · have e : i = xs.length := by omega
    subst e
    exact .inl ⟨⟨xs, qa, Nat.le_refl _⟩, by omega, fun pp hp => hd zs H pp p hp⟩
theorem cut_intK {ns : List Int} {lo hi : Option Int} {x : V} (h : x ∈ cutV (ns.map V.int) lo hi) : ∃ c, x = V.int c := by
  obtain ⟨c, _, rfl⟩ := List.mem_map.mp (List.mem_of_mem_drop (List.mem_of_mem_take h))
  exact ⟨c, rfl⟩
theorem mx_lo (c k : Int) : 0 ≤ mx c k := mod_lo _ (by decide)
def w7of (w : Str) : Option W7 := if w = Str.ofString "+" then some .plus else if w = Str.ofString "-" then some .minus else if w = Str.ofString "*" then some .times else if w = Str.ofString "div" then some .div else if w = Str.ofString "rem" then some .rem else if w = Str.ofString "<" then some .lt else if w = Str.ofString "=" then some .eq else none
def lfp (w : Str) : Option Ex := if w = Str.ofString "lane" then some .lane else if w = Str.ofString "lanes" then some .lanes else if w = Str.ofString "mine" then some .mine else if nameOk w = true then some (.name w) else if numOk w = true then some (.num (numVal w)) else none
def prs : Nat → List Str → Option (Ex × List Str)
  | _, [] => none
  | 0, w :: ws => if w = Str.ofString "box" ∨ w7of w ≠ none then none else (lfp w).map fun e => (e, ws)
  | d + 1, w :: ws => if w = Str.ofString "box" then (prs d ws).map fun x => (.box x.1, x.2) else match w7of w with
    | some o => (prs d ws).bind fun x => (prs d x.2).map fun y => (.op o x.1 y.1, y.2)
    | none => (lfp w).map fun e => (e, ws)
theorem prs_suf : ∀ {d : Nat} {l : List Str} {e : Ex} {r : List Str}, prs d l = some (e, r) → r <:+ l
  | _, [], e, r, h => by simp [prs] at h
  | 0, w :: ws, e, r, h => by
    simp only [prs] at h
    split at h
    · cases h
    · obtain ⟨x, hx, he⟩ := Option.map_eq_some_iff.mp h
      cases he
      exact List.suffix_cons _ _
  | d + 1, w :: ws, e, r, h => by
    simp only [prs] at h
    split at h
    · obtain ⟨x, hx, he⟩ := Option.map_eq_some_iff.mp h
      cases he
      exact (prs_suf (e := x.1) (r := x.2) hx).trans (List.suffix_cons _ _)
    · split at h
      · obtain ⟨x, hx, he⟩ := Option.bind_eq_some_iff.mp h
        obtain ⟨y, hy, hf⟩ := Option.map_eq_some_iff.mp he
        cases hf
        exact ((prs_suf (e := y.1) (r := y.2) hy).trans (prs_suf (e := x.1) (r := x.2) hx)).trans (List.suffix_cons _ _)
      · obtain ⟨x, hx, he⟩ := Option.map_eq_some_iff.mp h
        cases he
        exact List.suffix_cons _ _
theorem suf_drop {ws r : List Str} {i : Nat} (h : r <:+ ws.drop i) : ws.drop (ws.length - r.length) = r ∧ r.length ≤ ws.length := by
  have s := h.trans (List.drop_suffix i ws)
  exact ⟨(List.suffix_iff_eq_drop.mp s).symm, s.length_le⟩
theorem w7of_str (o : W7) : w7of o.str = some o := by cases o <;> decide +kernel
theorem w7of_eq {w : Str} {o : W7} (h : w7of w = some o) : w = o.str := by
  unfold w7of at h
  repeat' split at h
  all_goals first
    | (cases h; assumption)
    | cases h
theorem work_iff (w : Str) : inV (V.str w) (workW.map V.str) = true ↔ w7of w ≠ none := by
  rw [inV_iff]
  constructor
  · intro h
    simp only [workW, List.mem_cons, List.not_mem_nil, or_false] at h
    rcases h with rfl | rfl | rfl | rfl | rfl | rfl | rfl <;> decide +kernel
  · intro h
    cases hh : w7of w with
    | none => exact absurd hh h
    | some o =>
      rw [w7of_eq hh]
      cases o <;> simp [workW, W7.str]
def sp_wordX (C N : Addr) : Sp := fun vs H Q E => ∃ p ws i, vs = [.ref p] ∧ WalkAt C H p ws i ∧ ws.length ≤ 1000 ∧ i ≤ ws.length ∧ (∀ z t, ws.drop i = z :: t → ∀ H', WalkAt C H' p ws (i + 1) → Kp p H H' → Q (.str z) H') ∧ (ws.drop i = [] → ∀ H', Same H H' → E (.ref N) none H')
def sp_endX (C N : Addr) : Sp := fun vs H Q E => ∃ p ws i, vs = [.ref p] ∧ WalkAt C H p ws i ∧ ws.length ≤ 1000 ∧ (i = ws.length → Q .non H) ∧ (i ≠ ws.length → ∀ H', Same H H' → E (.ref N) none H')
def sp_partX (K : PySem.W.Frag) (C N : Addr) : Nat → Sp
  | 0 => spNever
  | n + 1 => fun vs H Q E => ∃ p ws i, ∃ d : Nat, vs = [.ref p, .int d] ∧ WalkAt C H p ws i ∧ ws.length ≤ 1000 ∧ i ≤ ws.length ∧ (∀ w ∈ ws, OkT w) ∧ d ≤ n ∧ (∀ e r, prs d (ws.drop i) = some (e, r) → ∀ v H', WalkAt C H' p ws (ws.length - r.length) → Kp p H H' → Dp K H' v (dEx e) → Q v H') ∧ (prs d (ws.drop i) = none → ∀ H', Kp p H H' → E (.ref N) none H')
def sp_exprX (K : PySem.W.Frag) (C N : Addr) : Sp := fun vs H Q E => ∃ p ws i, vs = [.ref p] ∧ WalkAt C H p ws i ∧ ws.length ≤ 1000 ∧ i ≤ ws.length ∧ (∀ w ∈ ws, OkT w) ∧ (∀ e r, prs 6 (ws.drop i) = some (e, r) → ∀ v H', WalkAt C H' p ws (ws.length - r.length) → Kp p H H' → Dp K H' v (dEx e) → Q v H') ∧ (prs 6 (ws.drop i) = none → ∀ H', Kp p H H' → E (.ref N) none H')
def sp_readX (K : PySem.W.Frag) (N : Addr) : Sp := fun vs H Q E => ∃ z : Str, vs = [.str z] ∧ z.length ≤ 100000 ∧ (Txt.split z BL).length ≤ 1000 ∧ (∀ w ∈ Txt.split z BL, OkT w) ∧ (∀ e, prs 6 (Txt.split z BL) = some (e, []) → ∀ v H', Same H H' → Dp K H' v (dEx e) → Q v H') ∧ ((∀ e, prs 6 (Txt.split z BL) ≠ some (e, [])) → ∀ H', Same H H' → E (.ref N) none H')
theorem prs_nil (d : Nat) : prs d [] = none := by cases d <;> simp [prs]
theorem prs_leaf {d : Nat} {w : Str} {t : List Str} (h1 : w ≠ Str.ofString "box") (h2 : w7of w = none) : prs d (w :: t) = (lfp w).map fun e => (e, t) := by cases d <;> simp [prs, h1, h2]
theorem prs_deep {w : Str} {t : List Str} (h : w = Str.ofString "box" ∨ w7of w ≠ none) : prs 0 (w :: t) = none := by
  show (if _ then _ else _) = _
  rw [if_pos h]
theorem prs_box {d : Nat} {t : List Str} : prs (d + 1) (Str.ofString "box" :: t) = (prs d t).map fun x => (.box x.1, x.2) := by
  show (if _ then _ else _) = _
  rw [if_pos rfl]
theorem prs_op {d : Nat} {o : W7} {t : List Str} : prs (d + 1) (o.str :: t) = (prs d t).bind fun x => (prs d x.2).map fun y => (.op o x.1 y.1, y.2) := by
  show (if _ then _ else _) = _
  rw [if_neg (op_box o), w7of_str]
theorem lfp_rest {w : Str} (h : ¬ inV (V.str w) (signW.map V.str) = true) : lfp w = if nameOk w = true then some (.name w) else if numOk w = true then some (.num (numVal w)) else none := by
  unfold lfp
  rw [if_neg, if_neg, if_neg]
  all_goals
    rintro rfl
    exact h (by decide +kernel)
theorem lfp_lane : lfp (Str.ofString "lane") = some .lane := by unfold lfp; rw [if_pos rfl]
theorem lfp_lanes : lfp (Str.ofString "lanes") = some .lanes := by unfold lfp; rw [if_neg (by decide +kernel), if_pos rfl]
theorem lfp_mine : lfp (Str.ofString "mine") = some .mine := by unfold lfp; rw [if_neg (by decide +kernel), if_neg (by decide +kernel), if_pos rfl]
def leafW : List Str := [Str.ofString "lane", Str.ofString "lanes", Str.ofString "mine", Str.ofString "0", Str.ofString "7", Str.ofString "-1", Str.ofString "999999999", Str.ofString "a", Str.ofString "main", Str.ofString "lan", Str.ofString "tel", Str.ofString "divs"]
theorem lfp_nm {w : Str} (h : (nameOk w && !inV (V.str w) (signW.map V.str)) = true) : lfp w = some (.name w) := by
  rw [Bool.and_eq_true] at h
  rw [lfp_rest (by simpa using h.2), if_pos h.1]
theorem lfp_nu {w : Str} {i : Int} (h : (!nameOk w && numOk w && !inV (V.str w) (signW.map V.str) && decide (numVal w = i)) = true) : lfp w = some (.num i) := by
  simp only [Bool.and_eq_true, decide_eq_true_eq, Bool.not_eq_true'] at h
  rw [lfp_rest (by simp [h.1.2]), if_neg (by simp [h.1.1.1]), if_pos h.1.1.2, h.2]
theorem leaf_all {w : Str} (h : w ∈ leafW) : w ≠ Str.ofString "box" ∧ w7of w = none ∧ ∃ e : Ex, lfp w = some e ∧ e.ws = [w] ∧ e.dp = 0 ∧ e.ok := by
  simp only [leafW, List.mem_cons, List.not_mem_nil, or_false] at h
  rcases h with rfl | rfl | rfl | rfl | rfl | rfl | rfl | rfl | rfl | rfl | rfl | rfl
  · exact ⟨by decide +kernel, by decide +kernel, .lane, lfp_lane, rfl, rfl, trivial⟩
  · exact ⟨by decide +kernel, by decide +kernel, .lanes, lfp_lanes, rfl, rfl, trivial⟩
  · exact ⟨by decide +kernel, by decide +kernel, .mine, lfp_mine, rfl, rfl, trivial⟩
  · exact ⟨by decide +kernel, by decide +kernel, .num 0, lfp_nu (by decide +kernel), by decide +kernel, rfl, ⟨by decide, by decide⟩⟩
  · exact ⟨by decide +kernel, by decide +kernel, .num 7, lfp_nu (by decide +kernel), by decide +kernel, rfl, ⟨by decide, by decide⟩⟩
  · exact ⟨by decide +kernel, by decide +kernel, .num (-1), lfp_nu (by decide +kernel), by decide +kernel, rfl, ⟨by decide, by decide⟩⟩
  · exact ⟨by decide +kernel, by decide +kernel, .num 999999999, lfp_nu (by decide +kernel), by decide +kernel, rfl, ⟨by decide, by decide⟩⟩
  · exact ⟨by decide +kernel, by decide +kernel, .name _, lfp_nm (by decide +kernel), rfl, rfl, ⟨by decide +kernel, by unfold Asc; decide +kernel, by decide +kernel⟩⟩
  · exact ⟨by decide +kernel, by decide +kernel, .name _, lfp_nm (by decide +kernel), rfl, rfl, ⟨by decide +kernel, by unfold Asc; decide +kernel, by decide +kernel⟩⟩
  · exact ⟨by decide +kernel, by decide +kernel, .name _, lfp_nm (by decide +kernel), rfl, rfl, ⟨by decide +kernel, by unfold Asc; decide +kernel, by decide +kernel⟩⟩
  · exact ⟨by decide +kernel, by decide +kernel, .name _, lfp_nm (by decide +kernel), rfl, rfl, ⟨by decide +kernel, by unfold Asc; decide +kernel, by decide +kernel⟩⟩
  · exact ⟨by decide +kernel, by decide +kernel, .name _, lfp_nm (by decide +kernel), rfl, rfl, ⟨by decide +kernel, by unfold Asc; decide +kernel, by decide +kernel⟩⟩
def stp (w : Str) : Option (List Nat) → Option (List Nat)
  | none => none
  | some st => match (if w = Str.ofString "box" then st else []), (if w7of w ≠ none then st else []) with
    | d :: r, _ => some ((d + 1) :: r)
    | [], a :: b :: r => some ((max a b + 1) :: r)
    | [], _ => if w ∈ leafW then some (0 :: st) else none
def stk : List Str → Option (List Nat)
  | [] => some []
  | w :: ws => stp w (stk ws)
theorem stp_box {d : Nat} {r : List Nat} : stp (Str.ofString "box") (some (d :: r)) = some ((d + 1) :: r) := by
  simp [stp]
theorem stp_box0 : stp (Str.ofString "box") (some []) = none := by
  have : ¬ Str.ofString "box" ∈ leafW := by decide +kernel
  simp [stp, this]
theorem stp_op {o : W7} {a b : Nat} {r : List Nat} : stp o.str (some (a :: b :: r)) = some ((max a b + 1) :: r) := by
  simp [stp, op_box o, w7of_str]
theorem op_no_leaf (o : W7) : ¬ o.str ∈ leafW := by cases o <;> decide +kernel
theorem stp_op0 {o : W7} {st : List Nat} (h : st.length ≤ 1) : stp o.str (some st) = none := by
  have l := op_no_leaf o
  match st, h with
  | [], _ => simp [stp, l, op_box o]
  | [a], _ => simp [stp, l, op_box o, w7of_str]
theorem stp_other {w : Str} {st : List Nat} (h1 : w ≠ Str.ofString "box") (h2 : w7of w = none) : stp w (some st) = if w ∈ leafW then some (0 :: st) else none := by
  simp [stp, h1, h2]
theorem stk_trees : ∀ {us : List Str} {st : List Nat}, stk us = some st → ∃ es : List Ex, us = es.flatMap Ex.ws ∧ st = es.map Ex.dp ∧ ∀ e ∈ es, e.ok ∧ ∀ (d : Nat) (r : List Str), e.dp ≤ d → prs d (e.ws ++ r) = some (e, r)
  | [], st, h => by
    cases h
    exact ⟨[], rfl, rfl, by simp⟩
  | w :: us, st, h => by
    have h' : stp w (stk us) = some st := h
    cases hk : stk us with
    | none => rw [hk] at h'; cases h'
    | some s0 =>
    rw [hk] at h'
    obtain ⟨es, e1, e2, e3⟩ := stk_trees hk
    by_cases hb : w = Str.ofString "box"
    · subst hb
      cases es with
      | nil => rw [e2] at h'; rw [show List.map Ex.dp [] = [] from rfl, stp_box0] at h'; cases h'
      | cons e es =>
        rw [e2, List.map_cons, stp_box] at h'
        cases h'
        refine ⟨.box e :: es, by rw [e1]; rfl, rfl, fun x hx => ?_⟩
        rcases List.mem_cons.mp hx with rfl | hx
        · obtain ⟨o1, o2⟩ := e3 e (List.mem_cons_self ..)
          refine ⟨o1, fun d r hd => ?_⟩
          cases d with
          | zero => simp [Ex.dp] at hd
          | succ d =>
            show prs (d + 1) (Str.ofString "box" :: (e.ws ++ r)) = _
            rw [prs_box, o2 d r (by simpa [Ex.dp] using hd)]
            rfl
        · exact e3 x (List.mem_cons_of_mem _ hx)
    · cases hw : w7of w with
      | none =>
        rw [stp_other hb hw] at h'
        split at h'
        · rename_i hm
          cases h'
          obtain ⟨_, _, e, l1, l2, l3, l4⟩ := leaf_all hm
          refine ⟨e :: es, by rw [List.flatMap_cons, l2, e1]; rfl, by rw [List.map_cons, l3, e2], fun x hx => ?_⟩
          rcases List.mem_cons.mp hx with rfl | hx
          · refine ⟨l4, fun d r _ => ?_⟩
            rw [l2]
            show prs d (w :: r) = _
            rw [prs_leaf hb hw, l1]
            rfl
          · exact e3 x hx
        · cases h'
      | some o =>
        obtain rfl := w7of_eq hw
        match es, e1, e2, e3 with
        | [], e1, e2, e3 => rw [e2, stp_op0 (by simp)] at h'; cases h'
        | [a], e1, e2, e3 => rw [e2, stp_op0 (by simp)] at h'; cases h'
        | a :: b :: es, e1, e2, e3 =>
          rw [e2, List.map_cons, List.map_cons, stp_op] at h'
          cases h'
          refine ⟨.op o a b :: es, by rw [e1]; simp [Ex.ws], rfl, fun x hx => ?_⟩
          rcases List.mem_cons.mp hx with rfl | hx
          · obtain ⟨o1, o2⟩ := e3 a (by simp)
            obtain ⟨o3, o4⟩ := e3 b (by simp)
            refine ⟨⟨o1, o3⟩, fun d r hd => ?_⟩
            cases d with
            | zero => simp [Ex.dp] at hd
            | succ d =>
              have hd2 : max a.dp b.dp + 1 ≤ d + 1 := hd
              show prs (d + 1) (o.str :: ((a.ws ++ b.ws) ++ r)) = _
              rw [prs_op, List.append_assoc, o2 d (b.ws ++ r) (by omega)]
              show Option.map _ (prs d (b.ws ++ r)) = _
              rw [o4 d r (by omega)]
              rfl
          · exact e3 x (by simp [hx])
theorem prs_stk : ∀ {d : Nat} {l : List Str} {e : Ex} {r : List Str} {st : List Nat}, prs d l = some (e, r) → (∀ u ∈ l, lfp u ≠ none → u ∈ leafW) → stk r = some st → ∃ k, k ≤ d ∧ stk l = some (k :: st)
  | d, [], e, r, st, h, _, _ => by rw [prs_nil] at h; cases h
  | d, w :: l, e, r, st, h, hl, hr => by
    have hl2 : ∀ u ∈ l, lfp u ≠ none → u ∈ leafW := fun u hu => hl u (List.mem_cons_of_mem _ hu)
    show ∃ k, k ≤ d ∧ stp w (stk l) = some (k :: st)
    by_cases hb : w = Str.ofString "box"
    · subst hb
      cases d with
      | zero => rw [prs_deep (.inl rfl)] at h; cases h
      | succ d =>
        rw [prs_box] at h
        obtain ⟨x, hx, he⟩ := Option.map_eq_some_iff.mp h
        cases he
        obtain ⟨k, hk, hs⟩ := prs_stk (e := x.1) (r := x.2) hx hl2 hr
        exact ⟨k + 1, by omega, by rw [hs, stp_box]⟩
    · cases hw : w7of w with
      | none =>
        rw [prs_leaf hb hw] at h
        obtain ⟨x, hx, he⟩ := Option.map_eq_some_iff.mp h
        cases he
        exact ⟨0, Nat.zero_le _, by rw [hr, stp_other hb hw, if_pos (hl w (List.mem_cons_self ..) (by rw [hx]; simp))]⟩
      | some o =>
        obtain rfl := w7of_eq hw
        cases d with
        | zero => rw [prs_deep (.inr (by rw [hw]; simp))] at h; cases h
        | succ d =>
          rw [prs_op] at h
          obtain ⟨x, hx, he⟩ := Option.bind_eq_some_iff.mp h
          obtain ⟨y, hy, hf⟩ := Option.map_eq_some_iff.mp he
          cases hf
          have s1 := prs_suf (e := x.1) (r := x.2) hx
          obtain ⟨k2, h2, hs2⟩ := prs_stk (d := d) (l := x.2) (e := y.1) (r := y.2) hy (fun u hu => hl2 u (s1.subset hu)) hr
          obtain ⟨k1, h1, hs1⟩ := prs_stk (d := d) (l := l) (e := x.1) (r := x.2) hx hl2 hs2
          exact ⟨max k1 k2 + 1, by omega, by rw [hs1, stp_op]⟩
  termination_by d l => (d, l.length)
  decreasing_by all_goals (simp_wf; first | omega | exact Prod.Lex.left _ _ (by omega))
theorem prs_words : ∀ {d : Nat} {l : List Str} {e : Ex} {r : List Str}, prs d l = some (e, r) → ∀ u ∈ l, u ∈ r ∨ u = Str.ofString "box" ∨ w7of u ≠ none ∨ lfp u ≠ none
  | d, [], e, r, h => by rw [prs_nil] at h; cases h
  | d, w :: l, e, r, h => by
    intro u hu
    by_cases hb : w = Str.ofString "box"
    · subst hb
      cases d with
      | zero => rw [prs_deep (.inl rfl)] at h; cases h
      | succ d =>
        rw [prs_box] at h
        obtain ⟨x, hx, he⟩ := Option.map_eq_some_iff.mp h
        cases he
        rcases List.mem_cons.mp hu with rfl | hu
        · exact .inr (.inl rfl)
        · exact prs_words (e := x.1) (r := x.2) hx u hu
    · cases hw : w7of w with
      | none =>
        rw [prs_leaf hb hw] at h
        obtain ⟨x, hx, he⟩ := Option.map_eq_some_iff.mp h
        cases he
        rcases List.mem_cons.mp hu with rfl | hu
        · exact .inr (.inr (.inr (by rw [hx]; simp)))
        · exact .inl hu
      | some o =>
        rcases List.mem_cons.mp hu with rfl | hv
        · exact .inr (.inr (.inl (by rw [hw]; simp)))
        obtain rfl := w7of_eq hw
        cases d with
        | zero => rw [prs_deep (.inr (by rw [hw]; simp))] at h; cases h
        | succ d =>
          rw [prs_op] at h
          obtain ⟨x, hx, he⟩ := Option.bind_eq_some_iff.mp h
          obtain ⟨y, hy, hf⟩ := Option.map_eq_some_iff.mp he
          cases hf
          rcases prs_words (d := d) (l := l) (e := x.1) (r := x.2) hx u hv with h1 | h1
          · exact prs_words (d := d) (l := x.2) (e := y.1) (r := y.2) hy u h1
          · exact .inr h1
  termination_by d l => (d, l.length)
  decreasing_by all_goals (simp_wf; first | omega | exact Prod.Lex.left _ _ (by omega))
def Fair (us : List Str) : Prop := (∀ u ∈ us, lfp u ≠ none → u ∈ leafW) ∨ ∃ u ∈ us, u ≠ Str.ofString "box" ∧ w7of u = none ∧ lfp u = none
def stnd (us : List Str) : Bool := match stk us with
  | some [k] => decide (k ≤ 6)
  | _ => false
theorem stnd_yes {us : List Str} (h : stnd us = true) : ∃ e : Ex, us = e.ws ∧ e.ok ∧ e.dp ≤ 6 ∧ prs 6 us = some (e, []) := by
  unfold stnd at h
  split at h
  · rename_i k hk
    obtain ⟨es, e1, e2, e3⟩ := stk_trees hk
    match es, e1, e2, e3 with
    | [e], e1, e2, e3 =>
      obtain ⟨o1, o2⟩ := e3 e (by simp)
      have ek : k = e.dp := by simpa using e2
      have h6 : e.dp ≤ 6 := by rw [← ek]; simpa using h
      have eu : us = e.ws := by simpa using e1
      refine ⟨e, eu, o1, h6, ?_⟩
      have := o2 6 [] h6
      rw [List.append_nil] at this
      rw [eu]
      exact this
    | [], e1, e2, e3 => cases e2
    | a :: b :: es, e1, e2, e3 => cases e2
  · cases h
theorem stnd_no {us : List Str} (hf : Fair us) (h : stnd us = false) : ∀ e, prs 6 us ≠ some (e, []) := by
  intro e he
  rcases hf with hf | ⟨u, hu, b1, b2, b3⟩
  · obtain ⟨k, hk, hs⟩ := prs_stk he hf (show stk [] = some [] from rfl)
    unfold stnd at h
    rw [hs] at h
    have : ¬ k ≤ 6 := by simpa using h
    exact this hk
  · rcases prs_words he u hu with h1 | h1 | h1 | h1
    · cases h1
    · exact b1 h1
    · exact h1 b2
    · exact h1 b3
def sp_works : Sp := fun vs H Q _ => vs = [] ∧ ∀ p H', Nw H H' p (.lst (workW.map V.str)) → Q (.ref p) H'
def sp_gleaf : Sp := fun vs H Q _ => ∃ n : Int, vs = [.int n] ∧ ∀ w H', Same H H' → w ∈ leafW → Q (.str w) H'
def sp_isleaf : Sp := fun vs H Q _ => ∃ w : Str, vs = [.str w] ∧ w.length ≤ 1000 ∧ ∀ H', Same H H' → Q (.bl (decide (w ∈ leafW))) H'
def sp_stands : Sp := fun vs H Q _ => ∃ z : Str, vs = [.str z] ∧ z.length ≤ 100000 ∧ (Txt.split z BL).length ≤ 1000 ∧ (∀ w ∈ Txt.split z BL, OkT w) ∧ ∀ H', Same H H' → Q (.bl (stnd (Txt.split z BL))) H'
def stV (st : List Nat) : List V := st.reverse.map fun (n : Nat) => V.int (n : Int)
theorem stV_cons (a : Nat) (r : List Nat) : stV (a :: r) = stV r ++ [V.int a] := by simp [stV]
theorem stV_len (st : List Nat) : (stV st).length = st.length := by simp [stV]
theorem stV_last (a : Nat) (r : List Nat) : (stV (a :: r))[(stV (a :: r)).length - 1]? = some (V.int a) := by
  rw [stV_cons]
  simp
theorem stV_pop (a : Nat) (r : List Nat) : (stV (a :: r)).dropLast = stV r := by
  rw [stV_cons, List.dropLast_concat]
theorem rev_at {us : List Str} {i : Nat} {x : V} (h : (us.map V.str).reverse[i]? = some x) : ∃ w, x = V.str w ∧ w ∈ us ∧ us.drop (us.length - (i + 1)) = w :: us.drop (us.length - i) := by
  have hi : i < us.length := by
    have := (List.getElem?_eq_some_iff.mp h).1
    simpa using this
  rw [List.getElem?_reverse (by simpa using hi), List.length_map, List.getElem?_map] at h
  have hj : us.length - 1 - i < us.length := by omega
  rw [List.getElem?_eq_getElem hj] at h
  refine ⟨us[us.length - 1 - i], by simpa using h.symm, List.getElem_mem _, ?_⟩
  rw [show us.length - (i + 1) = us.length - 1 - i by omega, List.drop_eq_getElem_cons hj, show us.length - 1 - i + 1 = us.length - i by omega]
theorem stk_len : ∀ {us : List Str} {st : List Nat}, stk us = some st → st.length ≤ us.length
  | [], st, h => by cases h; simp
  | w :: us, st, h => by
    have h' : stp w (stk us) = some st := h
    cases hk : stk us with
    | none => rw [hk] at h'; cases h'
    | some s0 =>
      have ih := stk_len hk
      rw [hk] at h'
      unfold stp at h'
      split at h'
      · cases h'
      · rename_i s1 e1
        cases e1
        split at h'
        · rename_i d r _ e2
          cases h'
          split at e2
          · rw [e2] at ih
            simp at ih ⊢
            omega
          · cases e2
        · rename_i a b r _ e2
          cases h'
          split at e2
          · rw [e2] at ih
            simp at ih ⊢
            omega
          · cases e2
        · split at h'
          · cases h'
            simp
            omega
          · cases h'
theorem tyL {K : PySem.W.Frag} {H : Hp} {p : Addr} {xs : List V} (h : H p = some (.lst xs)) : tyV K "list" (.ref p) H := .inl ⟨rfl, xs, SqL.of h⟩
theorem kpu {p : Addr} {H H' : Hp} {o : HO} (k : Kp p H H') : Kp p H (upd H' p o) := fun b o' n e => (upd_ne n).trans (k b o' n e)
theorem stk_dead : ∀ {k : Nat} {us : List Str}, stk (us.drop k) = none → stk us = none
  | 0, us, h => h
  | k + 1, [], h => by simp [stk] at h
  | k + 1, w :: us, h => by
    have := stk_dead (k := k) (us := us) h
    show stp w (stk us) = none
    rw [this]
    rfl
theorem stnd_dead {k : Nat} {us : List Str} (h : stk (us.drop k) = none) : stnd us = false := by
  unfold stnd
  rw [stk_dead h]
def sp_kindsX : Sp := fun vs H Q _ => ∃ z : Str, vs = [.str z] ∧ z.length ≤ 100000 ∧ (Txt.split z BL).length ≤ 1000 ∧ (∀ w ∈ Txt.split z BL, OkT w) ∧ (∀ e, prs 6 (Txt.split z BL) ≠ some (e, [])) ∧ ∀ p H', Same H H' → H' p = some (.lst kindsV) → Q (.ref p) H'
def sp_rightX : Sp := fun vs H Q _ => ∃ us : List Str, vs = [.str (Str.join BL us)] ∧ (Str.join BL us).length ≤ 100000 ∧ Txt.split (Str.join BL us) BL = us ∧ us.length ≤ 1000 ∧ (∀ w ∈ us, OkT w) ∧ Fair us ∧ ∀ H', Same H H' → Q (.bl true) H'
def WF (w : Str) : Prop := Asc w ∧ w.length ≤ 20 ∧ 32 ∉ w.cps.toList
def NB (w : Str) : Prop := WF w ∧ w ≠ Str.ofString "box" ∧ w7of w = none ∧ lfp w = none
def Gd (w : Str) : Prop := w = Str.ofString "box" ∨ w7of w ≠ none ∨ w ∈ leafW
def Wd (w : Str) : Prop := Gd w ∨ NB w ∨ w = Str.ofString "tell x"
def sp_noword : Sp := fun vs H Q _ => ∃ n : Int, vs = [.int n] ∧ 0 ≤ n ∧ ∀ w H', Same H H' → Wd w → Q (.str w) H'
def sp_madeX (K : PySem.W.Frag) : Nat → Sp
  | 0 => spNever
  | n + 1 => fun vs H Q _ => ∃ (a : Addr) (cs : List Int) (k : Nat) (r : Nat), vs = [.ref a, .int k, .int r] ∧ SqL K H a (cs.map V.int) ∧ cs.length ≤ 1000 ∧ (∀ c ∈ cs, 0 ≤ c) ∧ r ≤ n ∧ r ≤ 4 ∧
      ∀ p l (ws : List Str) (k' : Nat) H', Same H H' → H' p = some (.tup [.ref l, .int k']) → H' l = some (.lst (ws.map V.str)) → (∀ w ∈ ws, Gd w) → ws ≠ [] → ws.length + 1 ≤ 2 ^ (r + 1) → k < k' → Q (.ref p) H'
def sp_spoilt : Sp := fun vs H Q _ => ∃ (l : Addr) (ws : List Str) (c m : Int), vs = [.ref l, .int c, .int m] ∧ H l = some (.lst (ws.map V.str)) ∧ ws ≠ [] ∧ ws.length ≤ 100 ∧ 0 ≤ c ∧ 0 ≤ m ∧ (∀ w ∈ ws, Wd w) ∧ ∀ l2 (us : List Str) H', Same H H' → H' l2 = some (.lst (us.map V.str)) → us.length ≤ 201 → (∀ w ∈ us, Wd w) → Q (.ref l2) H'
def sp_blanks : Sp := fun vs H Q _ => ∃ (l : Addr) (ws : List Str) (c m : Int), vs = [.ref l, .int c, .int m] ∧ H l = some (.lst (ws.map V.str)) ∧ ws.length ≤ 201 ∧ 0 ≤ c ∧ 0 ≤ m ∧ (∀ w ∈ ws, Wd w) ∧ ∀ l2 (us : List Str) H', Same H H' → H' l2 = some (.lst (us.map V.str)) → us.length ≤ 403 → (∀ w ∈ us, Wd w) → Q (.ref l2) H'
theorem work_at {k : Int} (h0 : 0 ≤ k) (h1 : k < 7) : ∃ w, atI (workW.map V.str) k = some (V.str w) ∧ w7of w ≠ none := by
  obtain ⟨v, hv⟩ := at_ok (xs := workW.map V.str) h0 (by rw [List.length_map]; exact h1)
  obtain ⟨w, hw, rfl⟩ := List.mem_map.mp (at_mem hv)
  exact ⟨w, hv, (work_iff w).mp ((inV_iff _ _).mpr hw)⟩
theorem two_le (r : Nat) : 2 ≤ 2 ^ (r + 1) := by
  have := Nat.one_le_two_pow (n := r)
  rw [Nat.pow_succ]
  omega
theorem pow_le {r : Nat} (h : r ≤ 4) : 2 ^ (r + 1) ≤ 32 := Nat.pow_le_pow_right (by decide) (show r + 1 ≤ 5 by omega)
theorem cut_wd {Pz : Str → Prop} {ws : List Str} (h : ∀ w ∈ ws, Pz w) (lo hi : Option Int) : ∃ us : List Str, cutV (ws.map V.str) lo hi = us.map V.str ∧ (∀ w ∈ us, Pz w) ∧ us.length ≤ ws.length := by
  refine ⟨(ws.drop (HT.sIx (ws.map V.str).length 0 lo)).take (HT.sIx (ws.map V.str).length (ws.map V.str).length hi - HT.sIx (ws.map V.str).length 0 lo), ?_, fun w hw => h w (List.mem_of_mem_drop (List.mem_of_mem_take hw)), ?_⟩
  · unfold cutV
    rw [← List.map_drop, ← List.map_take]
  · rw [List.length_take, List.length_drop]
    omega
theorem nb_of {w : Str} (h : (w.cps.toList.all (fun c => decide (c < 128) && decide (c ≠ 32)) && decide (w.length ≤ 20) && decide (w ≠ Str.ofString "box") && (w7of w).isNone && !inV (V.str w) (signW.map V.str) && !nameOk w && !numOk w) = true) : NB w := by
  simp only [Bool.and_eq_true, decide_eq_true_eq, Bool.not_eq_true', List.all_eq_true, Option.isNone_iff_eq_none] at h
  obtain ⟨⟨⟨⟨⟨⟨h1, h2⟩, h3⟩, h4⟩, h5⟩, h6⟩, h7⟩ := h
  refine ⟨⟨asc_iff.mpr fun c hc => (h1 c hc).1, h2, fun hc => (h1 32 hc).2 rfl⟩, h3, h4, ?_⟩
  rw [lfp_rest (by rw [h5]; simp), if_neg (by rw [h6]; simp), if_neg (by rw [h7]; simp)]
theorem nb_empty : NB (Str.ofString "") := nb_of (by decide +kernel)
def flat1 (w : Str) : List Str := if w = Str.ofString "tell x" then [Str.ofString "tell", Str.ofString "x"] else [w]
theorem tell_x : Str.ofString "tell" ++ BL ++ Str.ofString "x" = Str.ofString "tell x" := by decide +kernel
theorem flat1_ne (w : Str) : flat1 w ≠ [] := by unfold flat1; split <;> simp
theorem flat_ne {vs : List Str} (h : vs ≠ []) : vs.flatMap flat1 ≠ [] := by
  cases vs with
  | nil => exact absurd rfl h
  | cons w r =>
    rw [List.flatMap_cons]
    have := flat1_ne w
    simp [this]
theorem join_flat : ∀ {vs : List Str}, vs ≠ [] → Str.join BL (vs.flatMap flat1) = Str.join BL vs
  | [], h => absurd rfl h
  | [w], _ => by
    show Str.join BL (flat1 w ++ []) = w
    unfold flat1
    split
    · rename_i e
      rw [e]
      exact tell_x
    · rfl
  | w :: v :: r, _ => by
    have ih := join_flat (vs := v :: r) (by simp)
    have ne := flat_ne (vs := v :: r) (by simp)
    rw [List.flatMap_cons, join_cons' w (by simp), ← ih]
    generalize (v :: r).flatMap flat1 = L at ne
    by_cases e : w = Str.ofString "tell x"
    · rw [show flat1 w = [Str.ofString "tell", Str.ofString "x"] from if_pos e, e]
      show Str.join BL (Str.ofString "tell" :: (Str.ofString "x" :: L)) = _
      rw [join_cons' _ (by simp), join_cons' _ ne, ← tell_x]
      simp only [app_assoc]
    · rw [show flat1 w = [w] from if_neg e]
      exact join_cons' w ne
theorem wf_of {w : Str} (h : (w.cps.toList.all (fun c => decide (c < 128) && decide (c ≠ 32)) && decide (w.length ≤ 20)) = true) : WF w := by
  simp only [Bool.and_eq_true, decide_eq_true_eq, List.all_eq_true] at h
  exact ⟨asc_iff.mpr fun c hc => (h.1 c hc).1, h.2, fun hc => (h.1 32 hc).2 rfl⟩
theorem leaf_wf : ∀ w ∈ leafW, WF w := by
  have h : (leafW.all fun w => w.cps.toList.all (fun c => decide (c < 128) && decide (c ≠ 32)) && decide (w.length ≤ 20)) = true := by decide +kernel
  intro w hw
  exact wf_of (List.all_eq_true.mp h w hw)
theorem gd_wf {w : Str} (h : Gd w) : WF w := by
  rcases h with rfl | h | h
  · exact wf_of (by decide +kernel)
  · cases hw : w7of w with
    | none => exact absurd hw h
    | some o =>
      rw [w7of_eq hw]
      cases o <;> exact wf_of (by decide +kernel)
  · exact leaf_wf w h
theorem no_lf {w : Str} (h : (!inV (V.str w) (signW.map V.str) && !nameOk w && !numOk w) = true) : lfp w = none := by
  simp only [Bool.and_eq_true, Bool.not_eq_true'] at h
  rw [lfp_rest (by rw [h.1.1]; simp), if_neg (by rw [h.1.2]; simp), if_neg (by rw [h.2]; simp)]
theorem gd_leaf {w : Str} (h : Gd w) (hl : lfp w ≠ none) : w ∈ leafW := by
  rcases h with rfl | h | h
  · exact absurd (no_lf (by decide +kernel)) hl
  · cases hw : w7of w with
    | none => exact absurd hw h
    | some o =>
      rw [w7of_eq hw] at hl
      cases o <;> exact absurd (no_lf (by decide +kernel)) hl
  · exact h
theorem nb_tell : NB (Str.ofString "tell") := nb_of (by decide +kernel)
theorem wf_x : WF (Str.ofString "x") := wf_of (by decide +kernel)
theorem sum_20 : ∀ (l : List Str), (∀ w ∈ l, w.length ≤ 20) → (l.map (·.length)).sum ≤ 20 * l.length
  | [], _ => by simp
  | w :: r, h => by
    have a := h w List.mem_cons_self
    have b := sum_20 r fun x hx => h x (List.mem_cons_of_mem _ hx)
    simp only [List.map_cons, List.sum_cons, List.length_cons]
    omega
theorem wd_len {w : Str} (h : Wd w) : w.length ≤ 20 := by
  rcases h with h | h | rfl
  · exact (gd_wf h).2.1
  · exact h.1.2.1
  · decide +kernel
theorem wd_flat {w : Str} (h : Wd w) : ∀ u ∈ flat1 w, WF u := by
  by_cases e : w = Str.ofString "tell x"
  · rw [show flat1 w = [Str.ofString "tell", Str.ofString "x"] from if_pos e]
    intro u hu
    simp only [List.mem_cons, List.not_mem_nil, or_false] at hu
    rcases hu with rfl | rfl
    · exact nb_tell.1
    · exact wf_x
  · rw [show flat1 w = [w] from if_neg e]
    intro u hu
    rw [List.mem_singleton.mp hu]
    rcases h with h | h | h
    · exact gd_wf h
    · exact h.1
    · exact absurd h e
theorem flat_len : ∀ (vs : List Str), (vs.flatMap flat1).length ≤ 2 * vs.length
  | [] => by simp
  | w :: r => by
    have := flat_len r
    rw [List.flatMap_cons, List.length_append, List.length_cons]
    have h : (flat1 w).length ≤ 2 := by unfold flat1; split <;> simp
    omega
theorem txt_of {vs : List Str} (hl : vs.length ≤ 403) (hd : ∀ w ∈ vs, Wd w) : JoinOk BL vs = true ∧ ∃ us : List Str, Str.join BL vs = Str.join BL us ∧ (Str.join BL us).length ≤ 100000 ∧ Txt.split (Str.join BL us) BL = us ∧ us.length ≤ 1000 ∧ (∀ w ∈ us, OkT w) ∧ Fair us := by
  have s20 := sum_20 vs fun w hw => wd_len (hd w hw)
  refine ⟨PyProof.Rows.joinOk_of_weight (by omega) (by decide), ?_⟩
  by_cases e : vs = []
  · subst e
    refine ⟨[Str.ofString ""], rfl, by decide +kernel, split_words (by simp) (by simpa using nb_empty.1.2.2), by simp, fun w hw => ?_, .inr ⟨_, List.mem_singleton_self _, nb_empty.2⟩⟩
    rw [List.mem_singleton.mp hw]
    exact ⟨nb_empty.1.1, by decide +kernel⟩
  · have wf : ∀ u ∈ vs.flatMap flat1, WF u := fun u hu => by
      obtain ⟨w, hw, hu2⟩ := List.mem_flatMap.mp hu
      exact wd_flat (hd w hw) u hu2
    have fl := flat_len vs
    refine ⟨vs.flatMap flat1, (join_flat e).symm, ?_, split_words (flat_ne e) (fun w hw => (wf w hw).2.2), by omega, fun w hw => ⟨(wf w hw).1, Nat.le_trans (wf w hw).2.1 (by decide)⟩, ?_⟩
    · have h1 := StrLaws.join_length_le BL (vs.flatMap flat1)
      have h2 := sum_20 (vs.flatMap flat1) fun w hw => (wf w hw).2.1
      have h4 : BL.length = 1 := rfl
      have h5 : (Str.join BL (vs.flatMap flat1)).length ≤ ((vs.flatMap flat1).map (·.length)).sum + (vs.flatMap flat1).length * BL.length := h1
      rw [h4] at h5
      omega
    · by_cases ht : Str.ofString "tell x" ∈ vs
      · exact .inr ⟨Str.ofString "tell", List.mem_flatMap.mpr ⟨_, ht, by rw [show flat1 (Str.ofString "tell x") = [Str.ofString "tell", Str.ofString "x"] from if_pos rfl]; simp⟩, nb_tell.2⟩
      · have f1 : ∀ w ∈ vs, flat1 w = [w] := fun w hw => if_neg fun (h : w = Str.ofString "tell x") => ht (h ▸ hw)
        by_cases hb : ∃ w ∈ vs, NB w
        · obtain ⟨w, hw, hn⟩ := hb
          exact .inr ⟨w, List.mem_flatMap.mpr ⟨w, hw, by rw [f1 w hw]; simp⟩, hn.2⟩
        · refine .inl fun u hu hlf => ?_
          obtain ⟨w, hw, hu2⟩ := List.mem_flatMap.mp hu
          rw [f1 w hw] at hu2
          rw [List.mem_singleton.mp hu2] at hlf ⊢
          rcases hd w hw with h | h | h
          · exact gd_leaf h hlf
          · exact absurd ⟨w, hw, h⟩ hb
          · exact absurd (h ▸ hw) ht
def fixW : List Str := Str.ofString "box" :: (workW ++ signW)
theorem nb_gen {w : Str} (h : WF w) (hx : ∀ x ∈ fixW, w ≠ x) (h1 : nameOk w = false) (h2 : numOk w = false) : NB w := by
  refine ⟨h, hx _ (by decide +kernel), ?_, ?_⟩
  · cases hw : w7of w with
    | none => rfl
    | some o =>
      exfalso
      refine hx o.str ?_ (w7of_eq hw)
      cases o <;> decide +kernel
  · rw [lfp_rest fun h => hx w (List.mem_cons_of_mem _ (List.mem_append_right _ ((inV_iff _ _).mp h))) rfl, if_neg (by rw [h1]; simp), if_neg (by rw [h2]; simp)]
def nbB (w : Str) : Bool := w.cps.toList.all (fun c => decide (c < 128) && decide (c ≠ 32)) && decide (w.length ≤ 20) && decide (w ≠ Str.ofString "box") && (w7of w).isNone && !inV (V.str w) (signW.map V.str) && !nameOk w && !numOk w
theorem nb0 : ((List.range 1000).all fun i => nbB (Str.ofString "0" ++ Str.ofString (toString (i : Int)))) = true := by decide +kernel
theorem nb1 : ((List.range 100).all fun i => nbB (Str.ofString "-0" ++ Str.ofString (toString (i : Int)))) = true := by decide +kernel
theorem nb2 : ((List.range 10).all fun i => nbB (Str.ofString "x" ++ Str.ofString (toString (i : Int)))) = true := by decide +kernel
theorem nb_rng {p : Str} {m : Nat} (h : ((List.range m).all fun i => nbB (p ++ Str.ofString (toString (i : Int)))) = true) {j : Int} (h0 : 0 ≤ j) (h1 : j < m) : NB (p ++ Str.ofString (toString j)) := by
  obtain ⟨k, rfl⟩ : ∃ k : Nat, j = k := ⟨j.toNat, by omega⟩
  exact nb_of (List.all_eq_true.mp h k (List.mem_range.mpr (by omega)))
theorem name_no8 {w : Str} (h : 8 < w.length) : nameOk w = false := by
  cases hh : nameOk w with
  | false => rfl
  | true =>
    exfalso
    unfold nameOk at hh
    simp only [Bool.and_eq_true, decide_eq_true_eq] at hh
    omega
theorem sc_is_letter : FnScope ["sign"] ["sign"] (defScope s_is_letter) := ⟨rfl, rfl, rfl, by decide +kernel, rfl, by decide +kernel, by decide +kernel⟩
section
variable {P : Program} {w : World} {K : PySem.W.Frag} {mg : Str → Option Value} {base : Heap} {c_NoLine : Addr} {c_Walk : Addr}
set_option maxHeartbeats 4000000 in
theorem ok_is_letter {f : Addr} {fd : FuncData} (F : Fun K "is_letter" "is_letter" s_is_letter f fd) : FnOk P w K mg base CX0 1 f fd ["sign"] (sp_sign isL) := by
  refine F.ok sc_is_letter (fun vs H Q E h => ?_) (fun cdv A outer s H vs Q E hr h => ?_)
  · obtain ⟨c, rfl, _⟩ := h
    rfl
  obtain ⟨c, rfl, q⟩ := h
  refine ⟨_, (@pss_one _ _ _ (@ps_ret _ _ _ _ (pe_chain op_le_str op_le_str pe_str (pv 0) pe_str))), ?_⟩
  simp only [tSeq, tNext, tRet, tRetN, tIfS, tAsg, gName, gSub, tDrop, tVar, tC, tTest, tB, tOp, tUn, tChain, tAnd, tOr, tNot, tAndV, tOrV, tNotV, tIf, tNil, tCons, tTupN, tLstN, tCall, tCB, tBM, tBM0, tSl, tPart, tNoPart, rI, rI0, rU, rIxL, rIxT, rIxS, rSlTN, rSlLN, rCatN, rEq, rNe, rEqD, rIn, rMulS, rAppend, rLen, rLenS, rIsiT, rIsiL, rIsi, rIsiE, rAll, rAny, rSw, rFind, rIntS, rSetL, tRaise, L2.start, List.map_cons, List.map_nil, List.length_cons, List.length_nil, Nat.reduceAdd, Nat.reduceSub, List.replicate_succ, List.replicate_zero, List.cons_append, List.nil_append, List.append_nil, List.getElem?_cons_zero, List.getElem?_cons_succ, List.set_cons_zero, List.set_cons_succ, Option.some.injEq, exists_eq_left', exists_eq_left, V.int.injEq, V.bl.injEq, V.str.injEq, V.ref.injEq, List.cons.injEq, and_true, true_and, Nat.zero_add, exists_and_left, exists_const, sp_sign, sp_name, sp_read, sp_whole, sp_mixed, sp_kept, sp_sg, sp_take, sp_text, sp_due, sp_kinds, sp_right]
  rw [s_a, s_z, le_one, le_one]
  unfold isL at q
  refine ite2 (fun h => ?_) (fun h => ?_)
  · rw [h, Bool.true_and] at q
    exact q
  · have h' : decide (97 ≤ c) = false := by simpa using h
    rw [h', Bool.false_and] at q
    exact q
end
theorem sc_is_figure : FnScope ["sign"] ["sign"] (defScope s_is_figure) := ⟨rfl, rfl, rfl, by decide +kernel, rfl, by decide +kernel, by decide +kernel⟩
section
variable {P : Program} {w : World} {K : PySem.W.Frag} {mg : Str → Option Value} {base : Heap} {c_NoLine : Addr} {c_Walk : Addr}
set_option maxHeartbeats 4000000 in
theorem ok_is_figure {f : Addr} {fd : FuncData} (F : Fun K "is_figure" "is_figure" s_is_figure f fd) : FnOk P w K mg base CX0 1 f fd ["sign"] (sp_sign isF) := by
  refine F.ok sc_is_figure (fun vs H Q E h => ?_) (fun cdv A outer s H vs Q E hr h => ?_)
  · obtain ⟨c, rfl, _⟩ := h
    rfl
  obtain ⟨c, rfl, q⟩ := h
  refine ⟨_, (@pss_one _ _ _ (@ps_ret _ _ _ _ (pe_chain op_le_str op_le_str pe_str (pv 0) pe_str))), ?_⟩
  simp only [tSeq, tNext, tRet, tRetN, tIfS, tAsg, gName, gSub, tDrop, tVar, tC, tTest, tB, tOp, tUn, tChain, tAnd, tOr, tNot, tAndV, tOrV, tNotV, tIf, tNil, tCons, tTupN, tLstN, tCall, tCB, tBM, tBM0, tSl, tPart, tNoPart, rI, rI0, rU, rIxL, rIxT, rIxS, rSlTN, rSlLN, rCatN, rEq, rNe, rEqD, rIn, rMulS, rAppend, rLen, rLenS, rIsiT, rIsiL, rIsi, rIsiE, rAll, rAny, rSw, rFind, rIntS, rSetL, tRaise, L2.start, List.map_cons, List.map_nil, List.length_cons, List.length_nil, Nat.reduceAdd, Nat.reduceSub, List.replicate_succ, List.replicate_zero, List.cons_append, List.nil_append, List.append_nil, List.getElem?_cons_zero, List.getElem?_cons_succ, List.set_cons_zero, List.set_cons_succ, Option.some.injEq, exists_eq_left', exists_eq_left, V.int.injEq, V.bl.injEq, V.str.injEq, V.ref.injEq, List.cons.injEq, and_true, true_and, Nat.zero_add, exists_and_left, exists_const, sp_sign, sp_name, sp_read, sp_whole, sp_mixed, sp_kept, sp_sg, sp_take, sp_text, sp_due, sp_kinds, sp_right]
  rw [s_0, s_9, le_one, le_one]
  unfold isF at q
  refine ite2 (fun h => ?_) (fun h => ?_)
  · rw [h, Bool.true_and] at q
    exact q
  · have h' : decide (48 ≤ c) = false := by simpa using h
    rw [h', Bool.false_and] at q
    exact q
end
theorem sc_is_name : FnScope ["text"] ["text"] (defScope s_is_name) := ⟨rfl, rfl, rfl, by decide +kernel, rfl, by decide +kernel, by decide +kernel⟩
section
variable {P : Program} {w : World} {K : PySem.W.Frag} {mg : Str → Option Value} {base : Heap} {c_NoLine : Addr} {c_Walk : Addr}
set_option maxHeartbeats 4000000 in
theorem ok_is_name {f : Addr} {fd : FuncData} (F : Fun K "is_name" "is_name" s_is_name f fd) {f_is_letter : Addr} {fd_is_letter : FuncData} (d_is_letter : Df K mg "is_letter" s_is_letter ["sign"] f_is_letter fd_is_letter) (G_is_letter : FnOk P w K mg base CX0 1 f_is_letter fd_is_letter ["sign"] (sp_sign isL)) (z_len : mg "len" = none) (z_all : mg "all" = none) {t_LONGEST_NAME : Tok} (m_LONGEST_NAME : mg "LONGEST_NAME" = some (.int 8 t_LONGEST_NAME)) {a_KEPT : Addr} {o_KEPT : Obj} (m_KEPT : mg "KEPT" = some (.ref a_KEPT)) (lk_KEPT : K.lookup a_KEPT = some o_KEPT) (lc_KEPT : o_KEPT.cls = .type "tuple") (lt_KEPT : strTup o_KEPT keptW = true) : FnOk P w K mg base CX0 2 f fd ["text"] sp_name := by
  refine F.ok sc_is_name (fun vs H Q E h => ?_) (fun cdv A outer s H vs Q E hr h => ?_)
  · obtain ⟨z, rfl, _⟩ := h
    rfl
  obtain ⟨z, rfl, hz, q⟩ := h
  refine ⟨_, (@pss_cons _ _ _ _ _ (@ps_if _ _ _ _ _ _ _ _ (PW.pt (pw_or (pt_cmpR (op_in_seqK (K := K) rfl) (pv 0) (pe_glob (v := .ref a_KEPT) rfl m_KEPT rfl) (by first | rfl | with_unfolding_all rfl)) (pw_or1 (pt_not (pt_chain op_le op_le pe_int (pe_callB call_len_strK rfl z_len PySem.boot_len (@pa_cons _ _ _ _ _ (pv 0) pa_nil (by rfl))) (pe_glob (v := .int (8)) rfl m_LONGEST_NAME ⟨_, rfl⟩))))))
      (@pss_one _ _ _ (@ps_ret _ _ _ _ pe_bl))
      pss_nil)
    (@pss_one _ _ _ (@ps_ret _ _ _ _ (pe_callB (call_allK (K := K) rfl rfl) rfl z_all boot_all (@pa_cons _ _ _ _ _ (pe_comp (N := ["sign"]) (ix := [none]) (comp_scope rfl (by decide +kernel) (by decide +kernel) (by rfl) rfl (by decide +kernel) (by rfl)) rfl (@pi_str _ _ _ _ (pv 0)) (gfree_name rfl) fun _ _ _ _ => ⟨(pg_name (i := 0) (show List.Nodup [Str.ofString "sign"] by decide +kernel) rfl (Or.inl rfl) (.inr rfl)), pifs_nil, (pe_call (G_is_letter.mono (by decide)) hr rfl d_is_letter.m d_is_letter.fn.kp d_is_letter.b .nil pass0 (@pa_cons _ _ _ _ _ (pv 0) pa_nil (by rfl)))⟩) pa_nil (by rfl)))))), ?_⟩
  refine seq_cut (fun σ' H2 => H = H2 ∧ σ' = [some (V.str z)] ∧ inV (V.str z) keptV = false ∧ 1 ≤ z.length ∧ z.length ≤ 8) (fun N hN => ?_) ?_
  · simp only [tSeq, tNext, tRet, tRetN, tIfS, tAsg, gName, gSub, tDrop, tVar, tC, tTest, tB, tOp, tUn, tChain, tAnd, tOr, tNot, tAndV, tOrV, tNotV, tIf, tNil, tCons, tTupN, tLstN, tCall, tCB, tBM, tBM0, tSl, tPart, tNoPart, rI, rI0, rU, rIxL, rIxT, rIxS, rSlTN, rSlLN, rCatN, rEq, rNe, rEqD, rIn, rMulS, rAppend, rLen, rLenS, rIsiT, rIsiL, rIsi, rIsiE, rAll, rAny, rSw, rFind, rIntS, rSetL, tRaise, L2.start, List.map_cons, List.map_nil, List.length_cons, List.length_nil, Nat.reduceAdd, Nat.reduceSub, List.replicate_succ, List.replicate_zero, List.cons_append, List.nil_append, List.append_nil, List.getElem?_cons_zero, List.getElem?_cons_succ, List.set_cons_zero, List.set_cons_succ, Option.some.injEq, exists_eq_left', exists_eq_left, V.int.injEq, V.bl.injEq, V.str.injEq, V.ref.injEq, List.cons.injEq, and_true, true_and, Nat.zero_add, exists_and_left, exists_const, sp_sign, sp_name, sp_read, sp_whole, sp_mixed, sp_kept, sp_sg, sp_take, sp_text, sp_due, sp_kinds, sp_right]
    refine ⟨_, .inr (sq_strTup lk_KEPT lc_KEPT lt_KEPT), rfl, kept_flat, ?_⟩
    have key : nameOk z = false → Q (V.bl false) H := fun e => by rw [← e]; exact q _ (Same.refl _)
    refine ite2 (fun c => iteY trivial (key ?_)) (fun c => ⟨small (by have := hz.2; omega), ite2 (fun c2 => ite2 (fun c3 => key ?_) (fun c3 => hN _ _ ⟨rfl, rfl, ?_, ?_, ?_⟩)) (fun c2 => iteY rfl (key ?_))⟩)
    · have c' : inV (V.str z) keptV = true := by simpa [keptV] using c
      unfold nameOk; rw [c']; rfl
    · have c' : ¬ z.length ≤ 8 := by simp at c3; omega
      unfold nameOk; rw [decide_eq_false c', Bool.and_false, Bool.and_false]; rfl
    · simpa [keptV] using c
    · simp at c2; omega
    · simp at c3; omega
    · have c' : ¬ 1 ≤ z.length := by simp at c2; omega
      unfold nameOk; rw [decide_eq_false c', Bool.false_and, Bool.and_false]; rfl
  rintro σ' H2 ⟨rfl, rfl, h1, h2, h3⟩
  simp only [tRet, tCB, tCons, tNil]
  refine tComp_str (z := z) (H1 := H) (fun R hR => ⟨_, rfl, z, rfl, hz.1, hR⟩) (fun i ys H2 => H2 = H ∧ ys = (z.cps.toList.take i).map (fun c => V.bl (isL c))) ⟨rfl, rfl⟩ (small (by have : z.cps.size = z.length := rfl; omega)) (fun i ys H2 h => by rw [h.2, List.length_map, List.length_take]; omega) ?_ ?_
  · rintro i c ys H2 hc ⟨rfl, rfl⟩
    simp only [tYes, if_true, gName]
    exact ⟨_, rfl, c, rfl, rfl, by rw [take_one hc, List.map_append]; rfl⟩
  · rintro ys H2 p ⟨rfl, rfl⟩ hp
    refine ⟨p, z.cps.toList.map isL, rfl, SqL.of (by rw [upd_same, take_all, List.map_map]; rfl), ?_⟩
    have e : nameOk z = (z.cps.toList.map isL).all id := by
      unfold nameOk
      rw [h1, decide_eq_true h2, decide_eq_true h3, List.all_map]
      rfl
    rw [← e]
    exact q _ (same_new hp _)
end
theorem sc_read_number : FnScope ["text", "figures"] ["text"] (defScope s_read_number) := ⟨rfl, rfl, rfl, by decide +kernel, rfl, by decide +kernel, by decide +kernel⟩
section
variable {P : Program} {w : World} {K : PySem.W.Frag} {mg : Str → Option Value} {base : Heap} {c_NoLine : Addr} {c_Walk : Addr}
set_option maxHeartbeats 4000000 in
theorem ok_read_number {f : Addr} {fd : FuncData} (F : Fun K "read_number" "read_number" s_read_number f fd) {f_is_figure : Addr} {fd_is_figure : FuncData} (d_is_figure : Df K mg "is_figure" s_is_figure ["sign"] f_is_figure fd_is_figure) (G_is_figure : FnOk P w K mg base CX0 1 f_is_figure fd_is_figure ["sign"] (sp_sign isF)) (z_all : mg "all" = none) (z_len : mg "len" = none) (z_int : mg "int" = none) {t_MOST_FIGURES : Tok} (m_MOST_FIGURES : mg "MOST_FIGURES" = some (.int 9 t_MOST_FIGURES)) (m_NoLine : mg "NoLine" = some (.ref c_NoLine)) (x_NoLine : XCls K c_NoLine) : FnOk P w K mg base (CXx P w) 2 f fd ["text"] (sp_read c_NoLine) := by
  refine F.okX sc_read_number (fun vs H Q E h => ?_) (fun cdv A outer s H vs Q E hr h => ?_)
  · obtain ⟨z, rfl, _⟩ := h
    rfl
  obtain ⟨z, rfl, hz, q1, q2⟩ := h
  refine ⟨_, (@pss_cons _ _ _ _ _ (@ps_set _ _ 1 _ _ _ _ sc_read_number.nd rfl (Or.inl rfl) (pe_ifExp (pt_val (pe_bmK (K := K) rfl PySem.F.plainAttrs_str PySem.F.slot_str_startswith PySem.F.type_str_startswith mt_startswith (pv 0) (@pa_cons _ _ _ _ _ pe_str pa_nil (by rfl)))) (pe_slice sl_str (pv 0) (po_some pe_int) po_none) (pv 0)) (by rfl) (by first | exact .inl rfl | exact .inr rfl))
    (@pss_cons _ _ _ _ _ (@ps_if _ _ _ _ _ _ _ _ (PW.pt (pw_or (pt_not (pt_chain op_le op_le pe_int (pe_callB call_len_strK rfl z_len PySem.boot_len (@pa_cons _ _ _ _ _ (pv 1) pa_nil (by rfl))) (pe_glob (v := .int (9)) rfl m_MOST_FIGURES ⟨_, rfl⟩))) (pw_or1 (pt_not (pt_val (pe_callB (call_allK (K := K) rfl rfl) rfl z_all boot_all (@pa_cons _ _ _ _ _ (pe_comp (N := ["sign"]) (ix := [none]) (comp_scope rfl (by decide +kernel) (by decide +kernel) (by rfl) rfl (by decide +kernel) (by rfl)) rfl (@pi_str _ _ _ _ (pv 1)) (gfree_name rfl) fun _ _ _ _ => ⟨(pg_name (i := 0) (show List.Nodup [Str.ofString "sign"] by decide +kernel) rfl (Or.inl rfl) (.inr rfl)), pifs_nil, (pe_call (G_is_figure.mono (by decide)) hr rfl d_is_figure.m d_is_figure.fn.kp d_is_figure.b .nil pass0 (@pa_cons _ _ _ _ _ (pv 0) pa_nil (by rfl)))⟩) pa_nil (by rfl))))))))
      (@pss_one _ _ _ (ps_raise raises_cx rfl x_NoLine rfl m_NoLine (@pa_cons _ _ _ _ _ pe_str pa_nil (by rfl))))
      pss_nil)
    (@pss_cons _ _ _ _ _ (@ps_if _ _ _ _ _ _ _ _ (PW.pt (pw_and (pt_val (pe_bmK (K := K) rfl PySem.F.plainAttrs_str PySem.F.slot_str_startswith PySem.F.type_str_startswith mt_startswith (pv 1) (@pa_cons _ _ _ _ _ pe_str pa_nil (by rfl)))) (pw_and1 (pt_cmpR op_ne (pv 0) pe_str (nomark _)))))
      (@pss_one _ _ _ (ps_raise raises_cx rfl x_NoLine rfl m_NoLine (@pa_cons _ _ _ _ _ pe_str pa_nil (by rfl))))
      pss_nil)
    (@pss_one _ _ _ (@ps_ret _ _ _ _ (pe_callTy call_int_str rfl z_int boot_int (@pa_cons _ _ _ _ _ (pv 0) pa_nil (by rfl)))))))), ?_⟩
  refine seq_cut (fun σ' H2 => H = H2 ∧ σ' = [some (V.str z), some (V.str (if negs z = true then Txt.slice z (some 1) none else z))]) (fun N hN => ?_) ?_
  · simp only [tSeq, tNext, tRet, tRetN, tIfS, tAsg, gName, gSub, tDrop, tVar, tC, tTest, tB, tOp, tUn, tChain, tAnd, tOr, tNot, tAndV, tOrV, tNotV, tIf, tNil, tCons, tTupN, tLstN, tCall, tCB, tBM, tBM0, tSl, tPart, tNoPart, rI, rI0, rU, rIxL, rIxT, rIxS, rSlTN, rSlLN, rCatN, rEq, rNe, rEqD, rIn, rMulS, rAppend, rLen, rLenS, rIsiT, rIsiL, rIsi, rIsiE, rAll, rAny, rSw, rFind, rIntS, rSetL, tRaise, L2.start, List.map_cons, List.map_nil, List.length_cons, List.length_nil, Nat.reduceAdd, Nat.reduceSub, List.replicate_succ, List.replicate_zero, List.cons_append, List.nil_append, List.append_nil, List.getElem?_cons_zero, List.getElem?_cons_succ, List.set_cons_zero, List.set_cons_succ, Option.some.injEq, exists_eq_left', exists_eq_left, V.int.injEq, V.bl.injEq, V.str.injEq, V.ref.injEq, List.cons.injEq, and_true, true_and, Nat.zero_add, exists_and_left, exists_const, sp_sign, sp_name, sp_read, sp_whole, sp_mixed, sp_kept, sp_sg, sp_take, sp_text, sp_due, sp_kinds, sp_right]
    rw [s_m]
    refine ⟨rfl, ?_⟩
    rw [starts_one]
    refine ite2 (fun h => ⟨small (by have := hz.2; omega), hN _ _ ⟨rfl, ?_⟩⟩) (fun h => hN _ _ ⟨rfl, ?_⟩)
    · rw [if_pos (show negs z = true from h)]
    · rw [if_neg (show ¬ negs z = true from h)]
  rintro σ' H2 ⟨rfl, rfl⟩
  have fe := figs_str z
  have fa : Asc (if negs z = true then Txt.slice z (some 1) none else z) := by
    split
    · exact hz.1.slice _ _
    · exact hz.1
  have fl : (if negs z = true then Txt.slice z (some 1) none else z).length ≤ 100 := by
    rw [← L2.len_list, fe]
    exact Nat.le_trans (figs_len z) hz.2
  generalize hF : (if negs z = true then Txt.slice z (some 1) none else z) = F at fe fa fl
  refine seq_cut (fun σ' H2 => Same H H2 ∧ σ' = [some (V.str z), some (V.str F)] ∧ 1 ≤ (figs z).length ∧ (figs z).length ≤ 9 ∧ (figs z).all isF = true) (fun N hN => ?_) ?_
  · have lf : F.length = (figs z).length := by rw [← fe, L2.len_list]
    simp only [tSeq, tNext, tRet, tRetN, tIfS, tAsg, gName, gSub, tDrop, tVar, tC, tTest, tB, tOp, tUn, tChain, tAnd, tOr, tNot, tAndV, tOrV, tNotV, tIf, tNil, tCons, tTupN, tLstN, tCall, tCB, tBM, tBM0, tSl, tPart, tNoPart, rI, rI0, rU, rIxL, rIxT, rIxS, rSlTN, rSlLN, rCatN, rEq, rNe, rEqD, rIn, rMulS, rAppend, rLen, rLenS, rIsiT, rIsiL, rIsi, rIsiE, rAll, rAny, rSw, rFind, rIntS, rSetL, tRaise, L2.start, List.map_cons, List.map_nil, List.length_cons, List.length_nil, Nat.reduceAdd, Nat.reduceSub, List.replicate_succ, List.replicate_zero, List.cons_append, List.nil_append, List.append_nil, List.getElem?_cons_zero, List.getElem?_cons_succ, List.set_cons_zero, List.set_cons_succ, Option.some.injEq, exists_eq_left', exists_eq_left, V.int.injEq, V.bl.injEq, V.str.injEq, V.ref.injEq, List.cons.injEq, and_true, true_and, Nat.zero_add, exists_and_left, exists_const, sp_sign, sp_name, sp_read, sp_whole, sp_mixed, sp_kept, sp_sg, sp_take, sp_text, sp_due, sp_kinds, sp_right]
    refine ⟨small (by omega), ?_⟩
    have bad : ¬ (1 ≤ F.length ∧ F.length ≤ 9) → ∀ H', Same H H' → 1 ≤ sizeLine ∧ E (Value.ref c_NoLine) none H' := fun h H' g => ⟨by decide, q2 (numOk_len (by omega)) _ g⟩
    refine ite2 (fun c1 => ite2 (fun c2 => iteY trivial (bad (by simp at c2; omega) _ (Same.refl _))) (fun c2 => ?_)) (fun c1 => iteY rfl (iteY trivial (bad (by simp at c1; omega) _ (Same.refl _))))
    have d1 : 1 ≤ (figs z).length := by simp at c1; omega
    have d2 : (figs z).length ≤ 9 := by simp at c2; omega
    refine tComp_str (z := F) (H1 := H) (fun R hR => ⟨_, rfl, F, rfl, fa, hR⟩) (fun i ys H2 => H2 = H ∧ ys = (F.cps.toList.take i).map (fun c => V.bl (isF c))) ⟨rfl, rfl⟩ (small (by have : F.cps.size = F.length := rfl; omega)) (fun i ys H2 h => by rw [h.2, List.length_map, List.length_take]; omega) ?_ ?_
    · rintro i c ys H2 hc ⟨rfl, rfl⟩
      simp only [tYes, if_true, gName]
      exact ⟨_, rfl, c, rfl, rfl, by rw [take_one hc, List.map_append]; rfl⟩
    · rintro ys H2 p ⟨rfl, rfl⟩ hp
      refine ⟨p, rfl, (figs z).map isF, SqL.of (by rw [upd_same, take_all, fe, List.map_map]; rfl), ?_⟩
      have e : ((figs z).map isF).all id = (figs z).all isF := by rw [List.all_map]; rfl
      rw [e]
      refine ite2 (fun c3 => ⟨by decide, q2 (numOk_all (by simpa using c3)) _ (same_new hp _)⟩) (fun c3 => hN _ _ ⟨same_new hp _, rfl, d1, d2, by simpa using c3⟩)
  rintro σ' H2 ⟨g2, rfl, h1, h2, h3⟩
  refine seq_cut (fun σ' H3 => H2 = H3 ∧ σ' = [some (V.str z), some (V.str F)] ∧ numOk z = true) (fun N hN => ?_) ?_
  · simp only [tSeq, tNext, tRet, tRetN, tIfS, tAsg, gName, gSub, tDrop, tVar, tC, tTest, tB, tOp, tUn, tChain, tAnd, tOr, tNot, tAndV, tOrV, tNotV, tIf, tNil, tCons, tTupN, tLstN, tCall, tCB, tBM, tBM0, tSl, tPart, tNoPart, rI, rI0, rU, rIxL, rIxT, rIxS, rSlTN, rSlLN, rCatN, rEq, rNe, rEqD, rIn, rMulS, rAppend, rLen, rLenS, rIsiT, rIsiL, rIsi, rIsiE, rAll, rAny, rSw, rFind, rIntS, rSetL, tRaise, L2.start, List.map_cons, List.map_nil, List.length_cons, List.length_nil, Nat.reduceAdd, Nat.reduceSub, List.replicate_succ, List.replicate_zero, List.cons_append, List.nil_append, List.append_nil, List.getElem?_cons_zero, List.getElem?_cons_succ, List.set_cons_zero, List.set_cons_succ, Option.some.injEq, exists_eq_left', exists_eq_left, V.int.injEq, V.bl.injEq, V.str.injEq, V.ref.injEq, List.cons.injEq, and_true, true_and, Nat.zero_add, exists_and_left, exists_const, sp_sign, sp_name, sp_read, sp_whole, sp_mixed, sp_kept, sp_sg, sp_take, sp_text, sp_due, sp_kinds, sp_right]
    have e0 : Txt.startswith F (Str.ofString "0") = ((figs z).head? == some 48) := by rw [s_0, starts_one, fe]
    rw [e0]
    refine ⟨rfl, ite2 (fun c => ⟨rfl, ite2 (fun c2 => ⟨by decide, q2 (numOk_nought (by simpa using c) (by simpa using c2)) _ g2⟩) (fun c2 => hN _ _ ⟨rfl, rfl, numOk_yes h1 h2 h3 fun _ => by simpa using c2⟩)⟩) (fun c => hN _ _ ⟨rfl, rfl, numOk_yes h1 h2 h3 fun h => absurd (by simpa using h) c⟩)⟩
  rintro σ' H3 ⟨rfl, rfl, h4⟩
  exact ⟨_, rfl, z, _, rfl, num_int h4 hz, Nat.le_trans hz.2 (by decide), q1 h4 _ g2⟩
end
theorem sc_Walk___init__ : FnScope ["self", "row"] ["self", "row"] (defScope s_Walk___init__) := ⟨rfl, rfl, rfl, by decide +kernel, rfl, by decide +kernel, by decide +kernel⟩
section
variable {P : Program} {w : World} {K : PySem.W.Frag} {mg : Str → Option Value} {base : Heap} {c_NoLine : Addr} {c_Walk : Addr}
set_option maxHeartbeats 4000000 in
theorem ok_Walk___init__ {f : Addr} {fd : FuncData} (F : Fun K "__init__" "Walk.__init__" s_Walk___init__ f fd) (m_Walk : mg "Walk" = some (.ref c_Walk)) (cl_Walk : Cls K c_Walk) (n_Walk_row : NoAttr K c_Walk "row") (n_Walk_at : NoAttr K c_Walk "at") : FnOk P w K mg base CX0 1 f fd ["self", "row"] (sp_init c_Walk) := by
  refine F.ok sc_Walk___init__ (fun vs H Q E h => ?_) (fun cdv A outer s H vs Q E hr h => ?_)
  · obtain ⟨p, l, dx, rfl, _⟩ := h
    rfl
  obtain ⟨p, l, dx, rfl, hp, q⟩ := h
  refine ⟨_, (@pss_cons _ _ _ _ _ (ps_fld (pv 0) (pv 1) rfl)
    (@pss_one _ _ _ (ps_fld (pv 0) pe_int rfl))), ?_⟩
  refine ⟨_, rfl, _, rfl, p, c_Walk, dx, [], rfl, hp, cl_Walk, n_Walk_row, (by decide), _, rfl, p, c_Walk, dx, _, rfl, upd_same, cl_Walk, n_Walk_at, (by show 1 < 1000; decide), q _ (by rw [upd_same, flds_mk]) fun b o hb e => ?_⟩
  rw [upd_ne hb, upd_ne hb]
  exact e
end
theorem sc_Walk_is_over : FnScope ["self"] ["self"] (defScope s_Walk_is_over) := ⟨rfl, rfl, rfl, by decide +kernel, rfl, by decide +kernel, by decide +kernel⟩
section
variable {P : Program} {w : World} {K : PySem.W.Frag} {mg : Str → Option Value} {base : Heap} {c_NoLine : Addr} {c_Walk : Addr}
set_option maxHeartbeats 4000000 in
theorem ok_Walk_is_over {f : Addr} {fd : FuncData} (F : Fun K "is_over" "Walk.is_over" s_Walk_is_over f fd) (m_Walk : mg "Walk" = some (.ref c_Walk)) (cl_Walk : Cls K c_Walk) (n_Walk_row : NoAttr K c_Walk "row") (n_Walk_at : NoAttr K c_Walk "at") (z_len : mg "len" = none) : FnOk P w K mg base CX0 1 f fd ["self"] (sp_over c_Walk) := by
  refine F.ok sc_Walk_is_over (fun vs H Q E h => ?_) (fun cdv A outer s H vs Q E hr h => ?_)
  · obtain ⟨p, ws, i, rfl, _⟩ := h
    rfl
  obtain ⟨p, ws, i, rfl, hw, hl, q⟩ := h
  refine ⟨_, (@pss_one _ _ _ (@ps_ret _ _ _ _ (pe_cmpR op_eq (pe_fld (pv 0) rfl) (pe_callB (call_len_seqK (K := K) rfl) rfl z_len PySem.boot_len (@pa_cons _ _ _ _ _ (pe_fld (pv 0) rfl) pa_nil (by rfl))) (nomark _)))), ?_⟩
  obtain ⟨dx, l, ne, h1, h2⟩ := hw
  refine ⟨_, rfl, p, c_Walk, dx, _, _, rfl, h1, cl_Walk, n_Walk_at, flds_at _ _, _, rfl, p, c_Walk, dx, _, _, rfl, h1, cl_Walk, n_Walk_row, flds_row _ _, l, _, rfl, .inl (SqL.of h2), rfl, ?_⟩
  have e : (decide (V.int (i : Int) = V.int ((ws.map V.str).length : Int))) = decide (i = ws.length) := by
    rw [List.length_map]
    by_cases h : i = ws.length
    · rw [h, decide_eq_true rfl, decide_eq_true rfl]
    · rw [decide_eq_false h, decide_eq_false (by simp only [V.int.injEq]; omega)]
  rw [e]
  exact q
end
theorem sc_Walk_taken : FnScope ["self", "thing"] ["self"] (defScope s_Walk_taken) := ⟨rfl, rfl, rfl, by decide +kernel, rfl, by decide +kernel, by decide +kernel⟩
section
variable {P : Program} {w : World} {K : PySem.W.Frag} {mg : Str → Option Value} {base : Heap} {c_NoLine : Addr} {c_Walk : Addr}
set_option maxHeartbeats 4000000 in
theorem ok_Walk_taken {f : Addr} {fd : FuncData} (F : Fun K "taken" "Walk.taken" s_Walk_taken f fd) (m_Walk : mg "Walk" = some (.ref c_Walk)) (cl_Walk : Cls K c_Walk) (n_Walk_row : NoAttr K c_Walk "row") (n_Walk_at : NoAttr K c_Walk "at") : FnOk P w K mg base CX0 1 f fd ["self"] (sp_taken c_Walk) := by
  refine F.ok sc_Walk_taken (fun vs H Q E h => ?_) (fun cdv A outer s H vs Q E hr h => ?_)
  · obtain ⟨p, ws, i, z, rfl, _⟩ := h
    rfl
  obtain ⟨p, ws, i, z, rfl, hw, hl, hz, q⟩ := h
  refine ⟨_, (@pss_cons _ _ _ _ _ (@ps_set _ _ 1 _ _ _ _ sc_Walk_taken.nd rfl (Or.inl rfl) (pe_ix (ix_seqK (K := K) rfl) (pe_fld (pv 0) rfl) (pe_fld (pv 0) rfl) (fun _ _ => rfl)) (by rfl) (by first | exact .inl rfl | exact .inr rfl))
    (@pss_cons _ _ _ _ _ (ps_fldaug (pv 0) pe_int in_add)
    (@pss_one _ _ _ (@ps_ret _ _ _ _ (pv 1))))), ?_⟩
  obtain ⟨dx, l, ne, h1, h2⟩ := hw
  have hz' : atI (ws.map V.str) (i : Int) = some (V.str z) := atI_nat (by rw [List.getElem?_map, hz]; rfl)
  refine ⟨_, rfl, p, c_Walk, dx, _, _, rfl, h1, cl_Walk, n_Walk_row, flds_row _ _, _, rfl, p, c_Walk, dx, _, _, rfl, h1, cl_Walk, n_Walk_at, flds_at _ _, .inl ⟨l, _, _, _, rfl, rfl, SqL.of h2, hz', ?_⟩⟩
  refine ⟨_, rfl, p, c_Walk, dx, _, _, rfl, h1, cl_Walk, n_Walk_at, flds_at _ _, _, _, rfl, rfl, dx, _, h1, (by show 2 < 1000; decide), _, rfl, ?_⟩
  refine q _ ⟨dx, l, ne, by rw [upd_same, flds_put]; rfl, by rw [upd_ne ne.symm]; exact h2⟩ fun b o hb e => by rw [upd_ne hb]; exact e
end
theorem sc_words_of : FnScope ["text"] ["text"] (defScope s_words_of) := ⟨rfl, rfl, rfl, by decide +kernel, rfl, by decide +kernel, by decide +kernel⟩
section
variable {P : Program} {w : World} {K : PySem.W.Frag} {mg : Str → Option Value} {base : Heap} {c_NoLine : Addr} {c_Walk : Addr}
set_option maxHeartbeats 4000000 in
theorem ok_words_of {f : Addr} {fd : FuncData} (F : Fun K "words_of" "words_of" s_words_of f fd) {f_Walk___init__ : Addr} {fd_Walk___init__ : FuncData} (b_Walk___init__ : Binds K fd_Walk___init__ ["self", "row"] []) (M_Walk : Mk K c_Walk f_Walk___init__) (G_Walk___init__ : FnOk P w K mg base CX0 1 f_Walk___init__ fd_Walk___init__ ["self", "row"] (sp_init c_Walk)) (m_Walk : mg "Walk" = some (.ref c_Walk)) (cl_Walk : Cls K c_Walk) (n_Walk_row : NoAttr K c_Walk "row") (n_Walk_at : NoAttr K c_Walk "at") : FnOk P w K mg base CX0 3 f fd ["text"] (sp_words c_Walk) := by
  refine F.ok sc_words_of (fun vs H Q E h => ?_) (fun cdv A outer s H vs Q E hr h => ?_)
  · obtain ⟨z, rfl, _⟩ := h
    rfl
  obtain ⟨z, rfl, hl, q⟩ := h
  refine ⟨_, (@pss_one _ _ _ (@ps_ret _ _ _ _ (pe_make M_Walk (G_Walk___init__.mono (by decide)) hr rfl m_Walk b_Walk___init__ .nil pass0 (@pa_cons _ _ _ _ _ (pe_bmK (K := K) rfl PySem.F.plainAttrs_str PySem.F.slot_str_split PySem.F.type_str_split mt_split (pv 0) (@pa_cons _ _ _ _ _ pe_str pa_nil (by rfl))) pa_nil (by rfl))))), ?_⟩
  refine ⟨_, rfl, rfl, z, _, rfl, rfl, by decide +kernel, hl, fun pl H1 n1 x dx nx ndx nex => ⟨x, pl, dx, rfl, upd_same, fun H2 h2 kp => ⟨rfl, ?_⟩⟩⟩
  have nl : x ≠ pl := fun e => by subst e; rw [n1.2.2] at nx; cases nx
  have nd : dx ≠ pl := fun e => by subst e; rw [n1.2.2] at ndx; cases ndx
  have s0 : Same H1 (upd (upd H1 dx (.own x)) x (.ins c_Walk dx [])) := fun b o e => by
    rw [upd_ne (ne_of_none e nx), upd_ne (ne_of_none e ndx)]
    exact e
  have s1 : Same H1 H2 := fun b o e => kp b o (ne_of_none e nx) (s0 b o e)
  refine q x H2 (n1.1.trans s1) (n1.1.free nx) ⟨dx, pl, nl, h2, ?_⟩
  have := s1 _ _ n1.2.2
  rw [bl_eq] at this
  exact this
end
theorem sc_word_from : FnScope ["words"] ["words"] (defScope s_word_from) := ⟨rfl, rfl, rfl, by decide +kernel, rfl, by decide +kernel, by decide +kernel⟩
section
variable {P : Program} {w : World} {K : PySem.W.Frag} {mg : Str → Option Value} {base : Heap} {c_NoLine : Addr} {c_Walk : Addr}
set_option maxHeartbeats 4000000 in
theorem ok_word_from {f : Addr} {fd : FuncData} (F : Fun K "word_from" "word_from" s_word_from f fd) {f_Walk_is_over : Addr} {fd_Walk_is_over : FuncData} (b_Walk_is_over : Binds K fd_Walk_is_over ["self"] []) (mt_Walk_is_over : Meth K c_Walk "is_over" f_Walk_is_over) (G_Walk_is_over : FnOk P w K mg base CX0 1 f_Walk_is_over fd_Walk_is_over ["self"] (sp_over c_Walk)) {f_Walk_taken : Addr} {fd_Walk_taken : FuncData} (b_Walk_taken : Binds K fd_Walk_taken ["self"] []) (mt_Walk_taken : Meth K c_Walk "taken" f_Walk_taken) (G_Walk_taken : FnOk P w K mg base CX0 1 f_Walk_taken fd_Walk_taken ["self"] (sp_taken c_Walk)) (m_Walk : mg "Walk" = some (.ref c_Walk)) (cl_Walk : Cls K c_Walk) (n_Walk_row : NoAttr K c_Walk "row") (n_Walk_at : NoAttr K c_Walk "at") (m_NoLine : mg "NoLine" = some (.ref c_NoLine)) (x_NoLine : XCls K c_NoLine) : FnOk P w K mg base (CXx P w) 2 f fd ["words"] (sp_wordX c_Walk c_NoLine) := by
  refine F.okX sc_word_from (fun vs H Q E h => ?_) (fun cdv A outer s H vs Q E hr h => ?_)
  · obtain ⟨p, ws, i, rfl, _⟩ := h
    rfl
  obtain ⟨p, ws, i, rfl, hw, hl, hi, q1, q2⟩ := h
  refine ⟨_, (@pss_cons _ _ _ _ _ (@ps_if _ _ _ _ _ _ _ _ (pt_val (pe_meth0 (pv 0) cl_Walk mt_Walk_is_over (G_Walk_is_over.mono (by decide)) hr b_Walk_is_over .nil pass0))
      (@pss_one _ _ _ (ps_raise raises_cx rfl x_NoLine rfl m_NoLine (@pa_cons _ _ _ _ _ pe_str pa_nil (by rfl))))
      pss_nil)
    (@pss_one _ _ _ (@ps_ret _ _ _ _ (pe_meth0 (pv 0) cl_Walk mt_Walk_taken (G_Walk_taken.mono (by decide)) hr b_Walk_taken .nil pass0)))), ?_⟩
  obtain ⟨dx, l, ne, h1, h2⟩ := id hw
  have no1 := flds_no l i (m := Str.ofString "is_over") (by decide +kernel) (by decide +kernel)
  have no2 := flds_no l i (m := Str.ofString "taken") (by decide +kernel) (by decide +kernel)
  refine ⟨_, rfl, p, dx, _, rfl, h1, no1, p, ws, i, rfl, hw, hl, _, rfl, ?_⟩
  by_cases hc : i = ws.length
  · refine iteY (by simpa using hc) ?_
    exact ⟨by decide, q2 (by rw [hc]; exact List.drop_length) _ (Same.refl _)⟩
  · have hi2 : i < ws.length := by omega
    refine iteN (by simpa using hc) ?_
    exact ⟨_, rfl, p, dx, _, rfl, h1, no2, p, ws, i, ws[i], rfl, hw, hl, List.getElem?_eq_getElem hi2, q1 ws[i] _ (List.drop_eq_getElem_cons hi2)⟩
end
theorem sc_check_over : FnScope ["words"] ["words"] (defScope s_check_over) := ⟨rfl, rfl, rfl, by decide +kernel, rfl, by decide +kernel, by decide +kernel⟩
section
variable {P : Program} {w : World} {K : PySem.W.Frag} {mg : Str → Option Value} {base : Heap} {c_NoLine : Addr} {c_Walk : Addr}
set_option maxHeartbeats 4000000 in
theorem ok_check_over {f : Addr} {fd : FuncData} (F : Fun K "check_over" "check_over" s_check_over f fd) {f_Walk_is_over : Addr} {fd_Walk_is_over : FuncData} (b_Walk_is_over : Binds K fd_Walk_is_over ["self"] []) (mt_Walk_is_over : Meth K c_Walk "is_over" f_Walk_is_over) (G_Walk_is_over : FnOk P w K mg base CX0 1 f_Walk_is_over fd_Walk_is_over ["self"] (sp_over c_Walk)) (m_Walk : mg "Walk" = some (.ref c_Walk)) (cl_Walk : Cls K c_Walk) (n_Walk_row : NoAttr K c_Walk "row") (n_Walk_at : NoAttr K c_Walk "at") (m_NoLine : mg "NoLine" = some (.ref c_NoLine)) (x_NoLine : XCls K c_NoLine) : FnOk P w K mg base (CXx P w) 2 f fd ["words"] (sp_endX c_Walk c_NoLine) := by
  refine F.okX sc_check_over (fun vs H Q E h => ?_) (fun cdv A outer s H vs Q E hr h => ?_)
  · obtain ⟨p, ws, i, rfl, _⟩ := h
    rfl
  obtain ⟨p, ws, i, rfl, hw, hl, q1, q2⟩ := h
  refine ⟨_, (@pss_one _ _ _ (@ps_if _ _ _ _ _ _ _ _ (pt_not (pt_val (pe_meth0 (pv 0) cl_Walk mt_Walk_is_over (G_Walk_is_over.mono (by decide)) hr b_Walk_is_over .nil pass0)))
      (@pss_one _ _ _ (ps_raise raises_cx rfl x_NoLine rfl m_NoLine (@pa_cons _ _ _ _ _ pe_str pa_nil (by rfl))))
      pss_nil)), ?_⟩
  obtain ⟨dx, l, ne, h1, h2⟩ := id hw
  have no1 := flds_no l i (m := Str.ofString "is_over") (by decide +kernel) (by decide +kernel)
  refine ⟨_, rfl, p, dx, _, rfl, h1, no1, p, ws, _, rfl, hw, hl, _, rfl, ?_⟩
  by_cases hc : i = ws.length
  · exact iteN (by simpa using hc) (q1 hc)
  · refine iteY (by simpa using hc) ?_
    exact ⟨by decide, q2 hc _ (Same.refl _)⟩
end
theorem sc_part_from : FnScope ["words", "deep", "word", "first"] ["words", "deep"] (defScope s_part_from) := ⟨rfl, rfl, rfl, by decide +kernel, rfl, by decide +kernel, by decide +kernel⟩
section
variable {P : Program} {w : World} {K : PySem.W.Frag} {mg : Str → Option Value} {base : Heap} {c_NoLine : Addr} {c_Walk : Addr}
set_option maxHeartbeats 4000000 in
theorem okS_part_from {n : Nat} {f_part_from : Addr} {fd_part_from : FuncData} (d_part_from : Df K mg "part_from" s_part_from ["words", "deep"] f_part_from fd_part_from) {f_word_from : Addr} {fd_word_from : FuncData} (d_word_from : Df K mg "word_from" s_word_from ["words"] f_word_from fd_word_from) (G_word_from : FnOk P w K mg base (CXx P w) 2 f_word_from fd_word_from ["words"] (sp_wordX c_Walk c_NoLine)) {f_is_name : Addr} {fd_is_name : FuncData} (d_is_name : Df K mg "is_name" s_is_name ["text"] f_is_name fd_is_name) (G_is_name : FnOk P w K mg base CX0 2 f_is_name fd_is_name ["text"] sp_name) {f_read_number : Addr} {fd_read_number : FuncData} (d_read_number : Df K mg "read_number" s_read_number ["text"] f_read_number fd_read_number) (G_read_number : FnOk P w K mg base (CXx P w) 2 f_read_number fd_read_number ["text"] (sp_read c_NoLine)) {a_WORKINGS : Addr} {o_WORKINGS : Obj} (m_WORKINGS : mg "WORKINGS" = some (.ref a_WORKINGS)) (lk_WORKINGS : K.lookup a_WORKINGS = some o_WORKINGS) (lc_WORKINGS : o_WORKINGS.cls = .type "tuple") (lt_WORKINGS : strTup o_WORKINGS workW = true) {a_SIGNS : Addr} {o_SIGNS : Obj} (m_SIGNS : mg "SIGNS" = some (.ref a_SIGNS)) (lk_SIGNS : K.lookup a_SIGNS = some o_SIGNS) (lc_SIGNS : o_SIGNS.cls = .type "tuple") (lt_SIGNS : strTup o_SIGNS signW = true) (m_NoLine : mg "NoLine" = some (.ref c_NoLine)) (x_NoLine : XCls K c_NoLine) (G_part_from : FnOk P w K mg base (CXx P w) (2 + n) f_part_from fd_part_from ["words", "deep"] (sp_partX K c_Walk c_NoLine n)) : FnOk P w K mg base (CXx P w) (2 + n + 1) f_part_from fd_part_from ["words", "deep"] (sp_partX K c_Walk c_NoLine (n + 1)) := by
  have F := d_part_from.fn
  refine F.okX sc_part_from (fun vs H Q E h => ?_) (fun cdv A outer s H vs Q E hr h => ?_)
  · obtain ⟨p, ws, i, d, rfl, _⟩ := h
    rfl
  obtain ⟨p, ws, i, d, rfl, hw, hl, hi, ho, hd, q1, q2⟩ := h
  refine ⟨_, (@pss_cons _ _ _ _ _ (@ps_set _ _ 2 _ _ _ _ sc_part_from.nd rfl (Or.inl rfl) (pe_call (G_word_from.mono (by omega)) hr rfl d_word_from.m d_word_from.fn.kp d_word_from.b .nil passX (@pa_cons _ _ _ _ _ (pv 0) pa_nil (by rfl))) (by rfl) (by first | exact .inl rfl | exact .inr rfl))
    (@pss_cons _ _ _ _ _ (@ps_if _ _ _ _ _ _ _ _ (PW.pt (pw_or (pt_cmpR op_eq (pv 2) pe_str (nomark _)) (pw_or1 (pt_cmpR (op_in_seqK (K := K) rfl) (pv 2) (pe_glob (v := .ref a_WORKINGS) rfl m_WORKINGS rfl) (by first | rfl | with_unfolding_all rfl)))))
      (@pss_cons _ _ _ _ _ (@ps_if _ _ _ _ _ _ _ _ (pt_cmpR op_eq (pv 1) pe_int (nomark _))
      (@pss_one _ _ _ (ps_raise raises_cx rfl x_NoLine rfl m_NoLine (@pa_cons _ _ _ _ _ pe_str pa_nil (by rfl))))
      pss_nil)
    (@pss_cons _ _ _ _ _ (@ps_set _ _ 3 _ _ _ _ sc_part_from.nd rfl (Or.inl rfl) (pe_call (G_part_from.mono (by omega)) hr rfl d_part_from.m d_part_from.fn.kp d_part_from.b .nil passX (@pa_cons _ _ _ _ _ (pv 0) (@pa_cons _ _ _ _ _ (@pe_op _ _ _ _ _ _ _ _ op_sub (pv 1) pe_int) pa_nil (by rfl)) (by rfl))) (by rfl) (by first | exact .inl rfl | exact .inr rfl))
    (@pss_one _ _ _ (@ps_ret _ _ _ _ (pe_ifExp (pt_cmpR op_eq (pv 2) pe_str (nomark _)) (@pe_tupN _ _ _ _ _ (@pa_cons _ _ _ _ _ (pv 2) (@pa_cons _ _ _ _ _ (pv 3) pa_nil (by rfl)) (by rfl))) (@pe_tupN _ _ _ _ _ (@pa_cons _ _ _ _ _ (pv 2) (@pa_cons _ _ _ _ _ (pv 3) (@pa_cons _ _ _ _ _ (pe_call (G_part_from.mono (by omega)) hr rfl d_part_from.m d_part_from.fn.kp d_part_from.b .nil passX (@pa_cons _ _ _ _ _ (pv 0) (@pa_cons _ _ _ _ _ (@pe_op _ _ _ _ _ _ _ _ op_sub (pv 1) pe_int) pa_nil (by rfl)) (by rfl))) pa_nil (by rfl)) (by rfl)) (by rfl))))))))
      pss_nil)
    (@pss_cons _ _ _ _ _ (@ps_if _ _ _ _ _ _ _ _ (pt_cmpR (op_in_seqK (K := K) rfl) (pv 2) (pe_glob (v := .ref a_SIGNS) rfl m_SIGNS rfl) (by first | rfl | with_unfolding_all rfl))
      (@pss_one _ _ _ (@ps_ret _ _ _ _ (@pe_tupN _ _ _ _ _ (@pa_cons _ _ _ _ _ (pv 2) pa_nil (by rfl)))))
      pss_nil)
    (@pss_cons _ _ _ _ _ (@ps_if _ _ _ _ _ _ _ _ (pt_val (pe_call (G_is_name.mono (by omega)) hr rfl d_is_name.m d_is_name.fn.kp d_is_name.b .nil pass0 (@pa_cons _ _ _ _ _ (pv 2) pa_nil (by rfl))))
      (@pss_one _ _ _ (@ps_ret _ _ _ _ (@pe_tupN _ _ _ _ _ (@pa_cons _ _ _ _ _ pe_str (@pa_cons _ _ _ _ _ (pv 2) pa_nil (by rfl)) (by rfl)))))
      pss_nil)
    (@pss_one _ _ _ (@ps_ret _ _ _ _ (@pe_tupN _ _ _ _ _ (@pa_cons _ _ _ _ _ pe_str (@pa_cons _ _ _ _ _ (pe_call (G_read_number.mono (by omega)) hr rfl d_read_number.m d_read_number.fn.kp d_read_number.b .nil passX (@pa_cons _ _ _ _ _ (pv 2) pa_nil (by rfl))) pa_nil (by rfl)) (by rfl))))))))), ?_⟩
  refine seq_cut (fun σ' H2 => ∃ w t, ws.drop i = w :: t ∧ WalkAt c_Walk H2 p ws (i + 1) ∧ Kp p H H2 ∧ σ' = [some (V.ref p), some (V.int d), some (V.str w), none]) (fun N hN => ⟨_, rfl, p, ws, i, rfl, hw, hl, hi, fun z t hz H2 w2 k2 => hN _ _ ⟨z, t, hz, w2, k2, rfl⟩, fun hn H2 g2 => q2 (by rw [hn]; exact prs_nil d) H2 (kp_same g2)⟩) ?_
  rintro σ' H2 ⟨w, t, hdr, w2, k2, rfl⟩
  rw [hdr] at q1 q2
  have hh := drop_head hdr
  have hdt := hh.2
  have i1 : i < ws.length := (List.getElem?_eq_some_iff.mp hh.1).1
  have ow : OkT w := ho w (List.mem_of_getElem? hh.1)
  have lt : ws.length - t.length = i + 1 := by
    have := congrArg List.length hdr
    rw [List.length_drop, List.length_cons] at this
    omega
  refine seq_cut (fun σ' H3 => H2 = H3 ∧ σ' = [some (V.ref p), some (V.int d), some (V.str w), none] ∧ w ≠ Str.ofString "box" ∧ w7of w = none) (fun N hN => ?_) ?_
  · by_cases hb : w = Str.ofString "box"
    · subst hb
      cases d with
      | zero =>
        simp only [tSeq, tNext, tRet, tRetN, tIfS, tAsg, gName, gSub, tDrop, tVar, tC, tTest, tB, tOp, tUn, tChain, tAnd, tOr, tNot, tAndV, tOrV, tNotV, tIf, tNil, tCons, tTupN, tLstN, tCall, tCB, tBM, tBM0, tSl, tPart, tNoPart, rI, rI0, rU, rIxL, rIxT, rIxS, rSlTN, rSlLN, rCatN, rEq, rNe, rEqD, rIn, rMulS, rAppend, rLen, rLenS, rIsiT, rIsiL, rIsi, rIsiA, rIsiT, rIsi, rAll, rAny, rSw, rFind, rIntS, rSetL, L2.start, List.map_cons, List.map_nil, List.length_cons, List.length_nil, Nat.reduceAdd, Nat.reduceSub, List.replicate_succ, List.replicate_zero, List.cons_append, List.nil_append, List.append_nil, List.getElem?_cons_zero, List.getElem?_cons_succ, List.set_cons_zero, List.set_cons_succ, Option.some.injEq, exists_eq_left', exists_eq_left, V.int.injEq, V.bl.injEq, V.str.injEq, V.ref.injEq, List.cons.injEq, and_true, true_and, Nat.zero_add, exists_and_left, exists_const, sp_sign, sp_name, sp_read, sp_whole, sp_mixedD, sp_kept, sp_sg, sp_take, sp_text, sp_due, sp_right, sp_wide, tFld, sFld, sFldAug, tMeth, tMake, rAdd, rSplit, rJoin, sp_readG, sp_init, sp_over, sp_taken, sp_words, sp_end, sp_expr, sp_readE, sp_lname, sp_lnum, sp_leaf, sp_cell, sp_rightE, tRaise, sp_wordX, sp_endX, sp_exprX, sp_readX]
        exact ⟨rfl, iteY (by simp) (iteY trivial ⟨rfl, iteY (by simp) ⟨by decide, q2 (prs_deep (.inl rfl)) H2 k2⟩⟩)⟩
      | succ d =>
      cases n with
      | zero => omega
      | succ m =>
      simp only [tSeq, tNext, tRet, tRetN, tIfS, tAsg, gName, gSub, tDrop, tVar, tC, tTest, tB, tOp, tUn, tChain, tAnd, tOr, tNot, tAndV, tOrV, tNotV, tIf, tNil, tCons, tTupN, tLstN, tCall, tCB, tBM, tBM0, tSl, tPart, tNoPart, rI, rI0, rU, rIxL, rIxT, rIxS, rSlTN, rSlLN, rCatN, rEq, rNe, rEqD, rIn, rMulS, rAppend, rLen, rLenS, rIsiT, rIsiL, rIsi, rIsiA, rIsiT, rIsi, rAll, rAny, rSw, rFind, rIntS, rSetL, L2.start, List.map_cons, List.map_nil, List.length_cons, List.length_nil, Nat.reduceAdd, Nat.reduceSub, List.replicate_succ, List.replicate_zero, List.cons_append, List.nil_append, List.append_nil, List.getElem?_cons_zero, List.getElem?_cons_succ, List.set_cons_zero, List.set_cons_succ, Option.some.injEq, exists_eq_left', exists_eq_left, V.int.injEq, V.bl.injEq, V.str.injEq, V.ref.injEq, List.cons.injEq, and_true, true_and, Nat.zero_add, exists_and_left, exists_const, sp_sign, sp_name, sp_read, sp_whole, sp_mixedD, sp_kept, sp_sg, sp_take, sp_text, sp_due, sp_right, sp_wide, tFld, sFld, sFldAug, tMeth, tMake, rAdd, rSplit, rJoin, sp_readG, sp_init, sp_over, sp_taken, sp_words, sp_end, sp_expr, sp_readE, sp_lname, sp_lnum, sp_leaf, sp_cell, sp_rightE, tRaise, sp_wordX, sp_endX, sp_exprX, sp_readX]
      refine ⟨rfl, iteY (by simp) (iteY trivial ⟨rfl, iteN (by simp; omega) ⟨p, ws, i + 1, d, by rw [show ((d + 1 : Nat) : Int) - 1 = (d : Int) by omega], w2, hl, i1, ho, by omega, fun e r he v H3 w3 k3 dv => ?_, fun hn H3 k3 => q2 (by rw [prs_box, ← hdt, hn]; rfl) H3 (k2.trans k3)⟩⟩)⟩
      exact ⟨rfl, iteY (by simp) ⟨by decide, fun pt H4 n4 => q1 (.box e) r (by rw [prs_box, ← hdt, he]; rfl) _ H4 (w3.same n4.1) (k2.trans (Kp.trans k3 (kp_same n4.1))) (.tup (SqT.of n4.2.2) (.cons (.str _) (.cons (dv.same n4.1) .nil)))⟩⟩
    · cases hw7 : w7of w with
      | none =>
        simp only [tSeq, tNext, tRet, tRetN, tIfS, tAsg, gName, gSub, tDrop, tVar, tC, tTest, tB, tOp, tUn, tChain, tAnd, tOr, tNot, tAndV, tOrV, tNotV, tIf, tNil, tCons, tTupN, tLstN, tCall, tCB, tBM, tBM0, tSl, tPart, tNoPart, rI, rI0, rU, rIxL, rIxT, rIxS, rSlTN, rSlLN, rCatN, rEq, rNe, rEqD, rIn, rMulS, rAppend, rLen, rLenS, rIsiT, rIsiL, rIsi, rIsiA, rIsiT, rIsi, rAll, rAny, rSw, rFind, rIntS, rSetL, L2.start, List.map_cons, List.map_nil, List.length_cons, List.length_nil, Nat.reduceAdd, Nat.reduceSub, List.replicate_succ, List.replicate_zero, List.cons_append, List.nil_append, List.append_nil, List.getElem?_cons_zero, List.getElem?_cons_succ, List.set_cons_zero, List.set_cons_succ, Option.some.injEq, exists_eq_left', exists_eq_left, V.int.injEq, V.bl.injEq, V.str.injEq, V.ref.injEq, List.cons.injEq, and_true, true_and, Nat.zero_add, exists_and_left, exists_const, sp_sign, sp_name, sp_read, sp_whole, sp_mixedD, sp_kept, sp_sg, sp_take, sp_text, sp_due, sp_right, sp_wide, tFld, sFld, sFldAug, tMeth, tMake, rAdd, rSplit, rJoin, sp_readG, sp_init, sp_over, sp_taken, sp_words, sp_end, sp_expr, sp_readE, sp_lname, sp_lnum, sp_leaf, sp_cell, sp_rightE, tRaise, sp_wordX, sp_endX, sp_exprX, sp_readX]
        exact ⟨rfl, iteN (by simpa using hb) ⟨_, .inr (sq_strTup lk_WORKINGS lc_WORKINGS lt_WORKINGS), rfl, work_flat, iteN (fun h => (work_iff w).mp (by simpa using h) hw7) (hN _ _ ⟨rfl, rfl, hb, hw7⟩)⟩⟩
      | some o =>
      obtain rfl := w7of_eq hw7
      cases d with
      | zero =>
        simp only [tSeq, tNext, tRet, tRetN, tIfS, tAsg, gName, gSub, tDrop, tVar, tC, tTest, tB, tOp, tUn, tChain, tAnd, tOr, tNot, tAndV, tOrV, tNotV, tIf, tNil, tCons, tTupN, tLstN, tCall, tCB, tBM, tBM0, tSl, tPart, tNoPart, rI, rI0, rU, rIxL, rIxT, rIxS, rSlTN, rSlLN, rCatN, rEq, rNe, rEqD, rIn, rMulS, rAppend, rLen, rLenS, rIsiT, rIsiL, rIsi, rIsiA, rIsiT, rIsi, rAll, rAny, rSw, rFind, rIntS, rSetL, L2.start, List.map_cons, List.map_nil, List.length_cons, List.length_nil, Nat.reduceAdd, Nat.reduceSub, List.replicate_succ, List.replicate_zero, List.cons_append, List.nil_append, List.append_nil, List.getElem?_cons_zero, List.getElem?_cons_succ, List.set_cons_zero, List.set_cons_succ, Option.some.injEq, exists_eq_left', exists_eq_left, V.int.injEq, V.bl.injEq, V.str.injEq, V.ref.injEq, List.cons.injEq, and_true, true_and, Nat.zero_add, exists_and_left, exists_const, sp_sign, sp_name, sp_read, sp_whole, sp_mixedD, sp_kept, sp_sg, sp_take, sp_text, sp_due, sp_right, sp_wide, tFld, sFld, sFldAug, tMeth, tMake, rAdd, rSplit, rJoin, sp_readG, sp_init, sp_over, sp_taken, sp_words, sp_end, sp_expr, sp_readE, sp_lname, sp_lnum, sp_leaf, sp_cell, sp_rightE, tRaise, sp_wordX, sp_endX, sp_exprX, sp_readX]
        exact ⟨rfl, iteN (by simpa using hb) ⟨_, .inr (sq_strTup lk_WORKINGS lc_WORKINGS lt_WORKINGS), rfl, work_flat, iteY (by simpa using op_work o) ⟨rfl, iteY (by simp) ⟨by decide, q2 (prs_deep (.inr (by rw [hw7]; simp))) H2 k2⟩⟩⟩⟩
      | succ d =>
      cases n with
      | zero => omega
      | succ m =>
      simp only [tSeq, tNext, tRet, tRetN, tIfS, tAsg, gName, gSub, tDrop, tVar, tC, tTest, tB, tOp, tUn, tChain, tAnd, tOr, tNot, tAndV, tOrV, tNotV, tIf, tNil, tCons, tTupN, tLstN, tCall, tCB, tBM, tBM0, tSl, tPart, tNoPart, rI, rI0, rU, rIxL, rIxT, rIxS, rSlTN, rSlLN, rCatN, rEq, rNe, rEqD, rIn, rMulS, rAppend, rLen, rLenS, rIsiT, rIsiL, rIsi, rIsiA, rIsiT, rIsi, rAll, rAny, rSw, rFind, rIntS, rSetL, L2.start, List.map_cons, List.map_nil, List.length_cons, List.length_nil, Nat.reduceAdd, Nat.reduceSub, List.replicate_succ, List.replicate_zero, List.cons_append, List.nil_append, List.append_nil, List.getElem?_cons_zero, List.getElem?_cons_succ, List.set_cons_zero, List.set_cons_succ, Option.some.injEq, exists_eq_left', exists_eq_left, V.int.injEq, V.bl.injEq, V.str.injEq, V.ref.injEq, List.cons.injEq, and_true, true_and, Nat.zero_add, exists_and_left, exists_const, sp_sign, sp_name, sp_read, sp_whole, sp_mixedD, sp_kept, sp_sg, sp_take, sp_text, sp_due, sp_right, sp_wide, tFld, sFld, sFldAug, tMeth, tMake, rAdd, rSplit, rJoin, sp_readG, sp_init, sp_over, sp_taken, sp_words, sp_end, sp_expr, sp_readE, sp_lname, sp_lnum, sp_leaf, sp_cell, sp_rightE, tRaise, sp_wordX, sp_endX, sp_exprX, sp_readX]
      have ed : ((d + 1 : Nat) : Int) - 1 = (d : Int) := by omega
      refine ⟨rfl, iteN (by simpa using hb) ⟨_, .inr (sq_strTup lk_WORKINGS lc_WORKINGS lt_WORKINGS), rfl, work_flat, iteY (by simpa using op_work o) ⟨rfl, iteN (by simp; omega) ⟨p, ws, i + 1, d, by rw [ed], w2, hl, i1, ho, by omega, fun e r he v H3 w3 k3 dv => ?_, fun hn H3 k3 => q2 (by rw [prs_op, ← hdt, hn]; rfl) H3 (k2.trans k3)⟩⟩⟩⟩
      obtain ⟨hr, hrl⟩ := suf_drop (prs_suf he)
      have he2 : prs d t = some (e, r) := by rw [← hdt]; exact he
      refine ⟨rfl, iteN (by simpa using hb) ⟨p, ws, ws.length - r.length, d, by rw [ed], w3, hl, by omega, ho, by omega, fun f r2 hf u H4 w4 k4 du => ?_, fun hn H4 k4 => q2 (by rw [hr] at hn; rw [prs_op, he2]; show Option.map _ (prs d r) = none; rw [hn]; rfl) H4 (k2.trans (k3.trans k4))⟩⟩
      rw [hr] at hf
      exact ⟨by decide, fun pt H5 n5 => q1 (.op o e f) r2 (by rw [prs_op, he2]; show Option.map _ (prs d r) = _; rw [hf]; rfl) _ H5 (w4.same n5.1) (k2.trans (k3.trans (Kp.trans k4 (kp_same n5.1)))) (.tup (SqT.of n5.2.2) (.cons (.str _) (.cons ((dp_kp k4 w3.own dv).same n5.1) (.cons (du.same n5.1) .nil))))⟩
  rintro σ' H3 ⟨rfl, rfl, hb, hw7⟩
  rw [prs_leaf hb hw7] at q1 q2
  have w3 : WalkAt c_Walk H2 p ws (ws.length - t.length) := by rw [lt]; exact w2
  refine seq_cut (fun σ' H3 => H2 = H3 ∧ σ' = [some (V.ref p), some (V.int d), some (V.str w), none] ∧ ¬ inV (V.str w) (signW.map V.str) = true) (fun N hN => ?_) ?_
  · simp only [tSeq, tNext, tRet, tRetN, tIfS, tAsg, gName, gSub, tDrop, tVar, tC, tTest, tB, tOp, tUn, tChain, tAnd, tOr, tNot, tAndV, tOrV, tNotV, tIf, tNil, tCons, tTupN, tLstN, tCall, tCB, tBM, tBM0, tSl, tPart, tNoPart, rI, rI0, rU, rIxL, rIxT, rIxS, rSlTN, rSlLN, rCatN, rEq, rNe, rEqD, rIn, rMulS, rAppend, rLen, rLenS, rIsiT, rIsiL, rIsi, rIsiA, rIsiT, rIsi, rAll, rAny, rSw, rFind, rIntS, rSetL, L2.start, List.map_cons, List.map_nil, List.length_cons, List.length_nil, Nat.reduceAdd, Nat.reduceSub, List.replicate_succ, List.replicate_zero, List.cons_append, List.nil_append, List.append_nil, List.getElem?_cons_zero, List.getElem?_cons_succ, List.set_cons_zero, List.set_cons_succ, Option.some.injEq, exists_eq_left', exists_eq_left, V.int.injEq, V.bl.injEq, V.str.injEq, V.ref.injEq, List.cons.injEq, and_true, true_and, Nat.zero_add, exists_and_left, exists_const, sp_sign, sp_name, sp_read, sp_whole, sp_mixedD, sp_kept, sp_sg, sp_take, sp_text, sp_due, sp_right, sp_wide, tFld, sFld, sFldAug, tMeth, tMake, rAdd, rSplit, rJoin, sp_readG, sp_init, sp_over, sp_taken, sp_words, sp_end, sp_expr, sp_readE, sp_lname, sp_lnum, sp_leaf, sp_cell, sp_rightE, tRaise, sp_wordX, sp_endX, sp_exprX, sp_readX]
    refine ⟨_, .inr (sq_strTup lk_SIGNS lc_SIGNS lt_SIGNS), rfl, sign_flat, ite2 (fun c => ⟨by decide, fun pt H3 n3 => ?_⟩) (fun c => hN _ _ ⟨rfl, rfl, by simpa using c⟩)⟩
    have c2 : w ∈ signW := (inV_iff _ _).mp (by simpa using c)
    simp only [signW, List.mem_cons, List.not_mem_nil, or_false] at c2
    have kk := k2.trans (kp_same n3.1)
    rcases c2 with rfl | rfl | rfl
    · exact q1 .lane t (by rw [lfp_lane]; rfl) _ _ (w3.same n3.1) kk (.tup (SqT.of n3.2.2) (.cons (.str _) .nil))
    · exact q1 .lanes t (by rw [lfp_lanes]; rfl) _ _ (w3.same n3.1) kk (.tup (SqT.of n3.2.2) (.cons (.str _) .nil))
    · exact q1 .mine t (by rw [lfp_mine]; rfl) _ _ (w3.same n3.1) kk (.tup (SqT.of n3.2.2) (.cons (.str _) .nil))
  rintro σ' H3 ⟨rfl, rfl, hs⟩
  rw [lfp_rest hs] at q1 q2
  refine seq_cut (fun σ' H3 => Same H2 H3 ∧ σ' = [some (V.ref p), some (V.int d), some (V.str w), none] ∧ nameOk w = false) (fun N hN => ?_) ?_
  · simp only [tSeq, tNext, tRet, tRetN, tIfS, tAsg, gName, gSub, tDrop, tVar, tC, tTest, tB, tOp, tUn, tChain, tAnd, tOr, tNot, tAndV, tOrV, tNotV, tIf, tNil, tCons, tTupN, tLstN, tCall, tCB, tBM, tBM0, tSl, tPart, tNoPart, rI, rI0, rU, rIxL, rIxT, rIxS, rSlTN, rSlLN, rCatN, rEq, rNe, rEqD, rIn, rMulS, rAppend, rLen, rLenS, rIsiT, rIsiL, rIsi, rIsiA, rIsiT, rIsi, rAll, rAny, rSw, rFind, rIntS, rSetL, L2.start, List.map_cons, List.map_nil, List.length_cons, List.length_nil, Nat.reduceAdd, Nat.reduceSub, List.replicate_succ, List.replicate_zero, List.cons_append, List.nil_append, List.append_nil, List.getElem?_cons_zero, List.getElem?_cons_succ, List.set_cons_zero, List.set_cons_succ, Option.some.injEq, exists_eq_left', exists_eq_left, V.int.injEq, V.bl.injEq, V.str.injEq, V.ref.injEq, List.cons.injEq, and_true, true_and, Nat.zero_add, exists_and_left, exists_const, sp_sign, sp_name, sp_read, sp_whole, sp_mixedD, sp_kept, sp_sg, sp_take, sp_text, sp_due, sp_right, sp_wide, tFld, sFld, sFldAug, tMeth, tMake, rAdd, rSplit, rJoin, sp_readG, sp_init, sp_over, sp_taken, sp_words, sp_end, sp_expr, sp_readE, sp_lname, sp_lnum, sp_leaf, sp_cell, sp_rightE, tRaise, sp_wordX, sp_endX, sp_exprX, sp_readX]
    refine ⟨ow, fun H3 g3 => ite2 (fun c => ⟨by decide, fun pt H4 n4 => q1 (.name w) t (by rw [if_pos c]; rfl) _ _ (w3.same (g3.trans n4.1)) (k2.trans (kp_same (g3.trans n4.1))) (.tup (SqT.of n4.2.2) (.cons (.str _) (.cons (.str _) .nil)))⟩) (fun c => hN _ _ ⟨g3, rfl, by simpa using c⟩)⟩
  rintro σ' H3 ⟨g3, rfl, hn⟩
  rw [if_neg (by rw [hn]; simp)] at q1 q2
  simp only [tSeq, tNext, tRet, tRetN, tIfS, tAsg, gName, gSub, tDrop, tVar, tC, tTest, tB, tOp, tUn, tChain, tAnd, tOr, tNot, tAndV, tOrV, tNotV, tIf, tNil, tCons, tTupN, tLstN, tCall, tCB, tBM, tBM0, tSl, tPart, tNoPart, rI, rI0, rU, rIxL, rIxT, rIxS, rSlTN, rSlLN, rCatN, rEq, rNe, rEqD, rIn, rMulS, rAppend, rLen, rLenS, rIsiT, rIsiL, rIsi, rIsiA, rIsiT, rIsi, rAll, rAny, rSw, rFind, rIntS, rSetL, L2.start, List.map_cons, List.map_nil, List.length_cons, List.length_nil, Nat.reduceAdd, Nat.reduceSub, List.replicate_succ, List.replicate_zero, List.cons_append, List.nil_append, List.append_nil, List.getElem?_cons_zero, List.getElem?_cons_succ, List.set_cons_zero, List.set_cons_succ, Option.some.injEq, exists_eq_left', exists_eq_left, V.int.injEq, V.bl.injEq, V.str.injEq, V.ref.injEq, List.cons.injEq, and_true, true_and, Nat.zero_add, exists_and_left, exists_const, sp_sign, sp_name, sp_read, sp_whole, sp_mixedD, sp_kept, sp_sg, sp_take, sp_text, sp_due, sp_right, sp_wide, tFld, sFld, sFldAug, tMeth, tMake, rAdd, rSplit, rJoin, sp_readG, sp_init, sp_over, sp_taken, sp_words, sp_end, sp_expr, sp_readE, sp_lname, sp_lnum, sp_leaf, sp_cell, sp_rightE, tRaise, sp_wordX, sp_endX, sp_exprX, sp_readX]
  exact ⟨ow, fun no H4 g4 => ⟨by decide, fun pt H5 n5 => q1 (.num (numVal w)) t (by rw [if_pos no]; rfl) _ _ (w3.same ((g3.trans g4).trans n5.1)) (k2.trans (kp_same ((g3.trans g4).trans n5.1))) (.tup (SqT.of n5.2.2) (.cons (.str _) (.cons (.int _) .nil)))⟩, fun nn H4 g4 => q2 (by rw [if_neg (by rw [nn]; simp)]; rfl) _ (k2.trans (kp_same (g3.trans g4)))⟩
theorem ok_part_from {f_part_from : Addr} {fd_part_from : FuncData} (d_part_from : Df K mg "part_from" s_part_from ["words", "deep"] f_part_from fd_part_from) {f_word_from : Addr} {fd_word_from : FuncData} (d_word_from : Df K mg "word_from" s_word_from ["words"] f_word_from fd_word_from) (G_word_from : FnOk P w K mg base (CXx P w) 2 f_word_from fd_word_from ["words"] (sp_wordX c_Walk c_NoLine)) {f_is_name : Addr} {fd_is_name : FuncData} (d_is_name : Df K mg "is_name" s_is_name ["text"] f_is_name fd_is_name) (G_is_name : FnOk P w K mg base CX0 2 f_is_name fd_is_name ["text"] sp_name) {f_read_number : Addr} {fd_read_number : FuncData} (d_read_number : Df K mg "read_number" s_read_number ["text"] f_read_number fd_read_number) (G_read_number : FnOk P w K mg base (CXx P w) 2 f_read_number fd_read_number ["text"] (sp_read c_NoLine)) {a_WORKINGS : Addr} {o_WORKINGS : Obj} (m_WORKINGS : mg "WORKINGS" = some (.ref a_WORKINGS)) (lk_WORKINGS : K.lookup a_WORKINGS = some o_WORKINGS) (lc_WORKINGS : o_WORKINGS.cls = .type "tuple") (lt_WORKINGS : strTup o_WORKINGS workW = true) {a_SIGNS : Addr} {o_SIGNS : Obj} (m_SIGNS : mg "SIGNS" = some (.ref a_SIGNS)) (lk_SIGNS : K.lookup a_SIGNS = some o_SIGNS) (lc_SIGNS : o_SIGNS.cls = .type "tuple") (lt_SIGNS : strTup o_SIGNS signW = true) (m_NoLine : mg "NoLine" = some (.ref c_NoLine)) (x_NoLine : XCls K c_NoLine) : ∀ n, FnOk P w K mg base (CXx P w) (2 + n) f_part_from fd_part_from ["words", "deep"] (sp_partX K c_Walk c_NoLine n)
  | 0 => FnOk.never
  | n + 1 => okS_part_from d_part_from d_word_from G_word_from d_is_name G_is_name d_read_number G_read_number m_WORKINGS lk_WORKINGS lc_WORKINGS lt_WORKINGS m_SIGNS lk_SIGNS lc_SIGNS lt_SIGNS m_NoLine x_NoLine (ok_part_from d_part_from d_word_from G_word_from d_is_name G_is_name d_read_number G_read_number m_WORKINGS lk_WORKINGS lc_WORKINGS lt_WORKINGS m_SIGNS lk_SIGNS lc_SIGNS lt_SIGNS m_NoLine x_NoLine n)
end
theorem sc_expression_from : FnScope ["words"] ["words"] (defScope s_expression_from) := ⟨rfl, rfl, rfl, by decide +kernel, rfl, by decide +kernel, by decide +kernel⟩
section
variable {P : Program} {w : World} {K : PySem.W.Frag} {mg : Str → Option Value} {base : Heap} {c_NoLine : Addr} {c_Walk : Addr}
set_option maxHeartbeats 4000000 in
theorem ok_expression_from {f : Addr} {fd : FuncData} (F : Fun K "expression_from" "expression_from" s_expression_from f fd) {f_part_from : Addr} {fd_part_from : FuncData} (d_part_from : Df K mg "part_from" s_part_from ["words", "deep"] f_part_from fd_part_from) (G_part_from : FnOk P w K mg base (CXx P w) 9 f_part_from fd_part_from ["words", "deep"] (sp_partX K c_Walk c_NoLine 7)) {t_MOST_DEEP : Tok} (m_MOST_DEEP : mg "MOST_DEEP" = some (.int 6 t_MOST_DEEP)) : FnOk P w K mg base (CXx P w) 10 f fd ["words"] (sp_exprX K c_Walk c_NoLine) := by
  refine F.okX sc_expression_from (fun vs H Q E h => ?_) (fun cdv A outer s H vs Q E hr h => ?_)
  · obtain ⟨p, ws, i, rfl, _⟩ := h
    rfl
  obtain ⟨p, ws, i, rfl, hw, hl, hi, ho, q1, q2⟩ := h
  refine ⟨_, (@pss_one _ _ _ (@ps_ret _ _ _ _ (pe_call (G_part_from.mono (by decide)) hr rfl d_part_from.m d_part_from.fn.kp d_part_from.b .nil passX (@pa_cons _ _ _ _ _ (pv 0) (@pa_cons _ _ _ _ _ (pe_glob (v := .int (6)) rfl m_MOST_DEEP ⟨_, rfl⟩) pa_nil (by rfl)) (by rfl))))), ?_⟩
  exact ⟨_, rfl, p, ws, i, 6, rfl, hw, hl, hi, ho, Nat.le_refl 6, q1, q2⟩
end
theorem sc_read_expression : FnScope ["text", "words", "expression"] ["text"] (defScope s_read_expression) := ⟨rfl, rfl, rfl, by decide +kernel, rfl, by decide +kernel, by decide +kernel⟩
section
variable {P : Program} {w : World} {K : PySem.W.Frag} {mg : Str → Option Value} {base : Heap} {c_NoLine : Addr} {c_Walk : Addr}
set_option maxHeartbeats 4000000 in
theorem ok_read_expression {f : Addr} {fd : FuncData} (F : Fun K "read_expression" "read_expression" s_read_expression f fd) {f_words_of : Addr} {fd_words_of : FuncData} (d_words_of : Df K mg "words_of" s_words_of ["text"] f_words_of fd_words_of) (G_words_of : FnOk P w K mg base CX0 3 f_words_of fd_words_of ["text"] (sp_words c_Walk)) {f_expression_from : Addr} {fd_expression_from : FuncData} (d_expression_from : Df K mg "expression_from" s_expression_from ["words"] f_expression_from fd_expression_from) (G_expression_from : FnOk P w K mg base (CXx P w) 10 f_expression_from fd_expression_from ["words"] (sp_exprX K c_Walk c_NoLine)) {f_check_over : Addr} {fd_check_over : FuncData} (d_check_over : Df K mg "check_over" s_check_over ["words"] f_check_over fd_check_over) (G_check_over : FnOk P w K mg base (CXx P w) 2 f_check_over fd_check_over ["words"] (sp_endX c_Walk c_NoLine)) : FnOk P w K mg base (CXx P w) 11 f fd ["text"] (sp_readX K c_NoLine) := by
  refine F.okX sc_read_expression (fun vs H Q E h => ?_) (fun cdv A outer s H vs Q E hr h => ?_)
  · obtain ⟨z, rfl, _⟩ := h
    rfl
  obtain ⟨z, rfl, hz, hl, ho, q1, q2⟩ := h
  refine ⟨_, (@pss_cons _ _ _ _ _ (@ps_set _ _ 1 _ _ _ _ sc_read_expression.nd rfl (Or.inl rfl) (pe_call (G_words_of.mono (by decide)) hr rfl d_words_of.m d_words_of.fn.kp d_words_of.b .nil pass0 (@pa_cons _ _ _ _ _ (pv 0) pa_nil (by rfl))) (by rfl) (by first | exact .inl rfl | exact .inr rfl))
    (@pss_cons _ _ _ _ _ (@ps_set _ _ 2 _ _ _ _ sc_read_expression.nd rfl (Or.inl rfl) (pe_call (G_expression_from.mono (by decide)) hr rfl d_expression_from.m d_expression_from.fn.kp d_expression_from.b .nil passX (@pa_cons _ _ _ _ _ (pv 1) pa_nil (by rfl))) (by rfl) (by first | exact .inl rfl | exact .inr rfl))
    (@pss_cons _ _ _ _ _ (@ps_expr _ _ _ _ (pe_call (G_check_over.mono (by decide)) hr rfl d_check_over.m d_check_over.fn.kp d_check_over.b .nil passX (@pa_cons _ _ _ _ _ (pv 1) pa_nil (by rfl))) (by rfl))
    (@pss_one _ _ _ (@ps_ret _ _ _ _ (pv 2)))))), ?_⟩
  simp only [tSeq, tNext, tRet, tRetN, tIfS, tAsg, gName, gSub, tDrop, tVar, tC, tTest, tB, tOp, tUn, tChain, tAnd, tOr, tNot, tAndV, tOrV, tNotV, tIf, tNil, tCons, tTupN, tLstN, tCall, tCB, tBM, tBM0, tSl, tPart, tNoPart, rI, rI0, rU, rIxL, rIxT, rIxS, rSlTN, rSlLN, rCatN, rEq, rNe, rEqD, rIn, rMulS, rAppend, rLen, rLenS, rIsiT, rIsiL, rIsi, rIsiA, rIsiT, rIsi, rAll, rAny, rSw, rFind, rIntS, rSetL, L2.start, List.map_cons, List.map_nil, List.length_cons, List.length_nil, Nat.reduceAdd, Nat.reduceSub, List.replicate_succ, List.replicate_zero, List.cons_append, List.nil_append, List.append_nil, List.getElem?_cons_zero, List.getElem?_cons_succ, List.set_cons_zero, List.set_cons_succ, Option.some.injEq, exists_eq_left', exists_eq_left, V.int.injEq, V.bl.injEq, V.str.injEq, V.ref.injEq, List.cons.injEq, and_true, true_and, Nat.zero_add, exists_and_left, exists_const, sp_sign, sp_name, sp_read, sp_whole, sp_mixedD, sp_kept, sp_sg, sp_take, sp_text, sp_due, sp_right, sp_wide, tFld, sFld, sFldAug, tMeth, tMake, rAdd, rSplit, rJoin, sp_readG, sp_init, sp_over, sp_taken, sp_words, sp_end, sp_expr, sp_readE, sp_lname, sp_lnum, sp_leaf, sp_cell, sp_rightE, tRaise, sp_wordX, sp_endX, sp_exprX, sp_readX]
  refine ⟨hz, fun p H1 g1 np hw => ⟨_, 0, hw, hl, Nat.zero_le _, ho, fun e r he v H2 w2 k2 dv => ?_, fun hn H2 k2 => q2 (fun e h => by rw [List.drop_zero] at hn; rw [hn] at h; cases h) _ (same_kp g1 np k2)⟩⟩
  have hs := suf_drop (prs_suf he)
  rw [List.drop_zero] at he
  refine ⟨_, _, w2, hl, fun h => ?_, fun h H3 g3 => q2 (fun e2 h2 => ?_) _ ((same_kp g1 np k2).trans g3)⟩
  · have r0 : r = [] := List.length_eq_zero_iff.mp (by have := hs.2; omega)
    subst r0
    exact q1 e he v H2 (same_kp g1 np k2) dv
  · rw [he] at h2
    cases h2
    exact h (Nat.sub_zero _)
end
theorem sc_shown_expression : FnScope ["expression", "kind"] ["expression"] (defScope s_shown_expression) := ⟨rfl, rfl, rfl, by decide +kernel, rfl, by decide +kernel, by decide +kernel⟩
section
variable {P : Program} {w : World} {K : PySem.W.Frag} {mg : Str → Option Value} {base : Heap} {c_NoLine : Addr} {c_Walk : Addr}
set_option maxHeartbeats 4000000 in
theorem okS_shown_expression {n : Nat} {f_shown_expression : Addr} {fd_shown_expression : FuncData} (d_shown_expression : Df K mg "shown_expression" s_shown_expression ["expression"] f_shown_expression fd_shown_expression) (z_str : mg "str" = none) {a_SIGNS : Addr} {o_SIGNS : Obj} (m_SIGNS : mg "SIGNS" = some (.ref a_SIGNS)) (lk_SIGNS : K.lookup a_SIGNS = some o_SIGNS) (lc_SIGNS : o_SIGNS.cls = .type "tuple") (lt_SIGNS : strTup o_SIGNS signW = true) (G_shown_expression : FnOk P w K mg base CX0 (0 + n) f_shown_expression fd_shown_expression ["expression"] (sp_shown K n)) : FnOk P w K mg base CX0 (0 + n + 1) f_shown_expression fd_shown_expression ["expression"] (sp_shown K (n + 1)) := by
  have F := d_shown_expression.fn
  refine F.ok sc_shown_expression (fun vs H Q E h => ?_) (fun cdv A outer s H vs Q E hr h => ?_)
  · obtain ⟨v, e, rfl, _⟩ := h
    rfl
  obtain ⟨v, e, rfl, hv, hok, hdp, hd6, q⟩ := h
  refine ⟨_, (@pss_cons _ _ _ _ _ (@ps_set _ _ 1 _ _ _ _ sc_shown_expression.nd rfl (Or.inl rfl) (pe_ix (ix_tupK (K := K) rfl) (pv 0) pe_int (fun _ _ => rfl)) (by rfl) (by first | exact .inl rfl | exact .inr rfl))
    (@pss_cons _ _ _ _ _ (@ps_if _ _ _ _ _ _ _ _ (pt_cmpR (op_in_seqK (K := K) rfl) (pv 1) (pe_glob (v := .ref a_SIGNS) rfl m_SIGNS rfl) (by first | rfl | with_unfolding_all rfl))
      (@pss_one _ _ _ (@ps_ret _ _ _ _ (pv 1)))
      pss_nil)
    (@pss_cons _ _ _ _ _ (@ps_if _ _ _ _ _ _ _ _ (pt_cmpR op_eq (pv 1) pe_str (nomark _))
      (@pss_one _ _ _ (@ps_ret _ _ _ _ (pe_callTy call_str_int rfl z_str boot_str (@pa_cons _ _ _ _ _ (pe_ix (ix_tupK (K := K) rfl) (pv 0) pe_int (fun _ _ => rfl)) pa_nil (by rfl)))))
      pss_nil)
    (@pss_cons _ _ _ _ _ (@ps_if _ _ _ _ _ _ _ _ (pt_cmpR op_eq (pv 1) pe_str (nomark _))
      (@pss_one _ _ _ (@ps_ret _ _ _ _ (pe_ix (ix_tupK (K := K) rfl) (pv 0) pe_int (fun _ _ => rfl))))
      pss_nil)
    (@pss_one _ _ _ (@ps_ret _ _ _ _ (pe_bmK (K := K) rfl PySem.F.plainAttrs_str PySem.F.slot_str_join PySem.F.type_str_join (mt_join (K := K) rfl) pe_str (@pa_cons _ _ _ _ _ (@pe_op _ _ _ _ _ _ _ _ op_catN (@pe_lstN _ _ _ _ (@pa_cons _ _ _ _ _ (pv 1) pa_nil (by rfl))) (pe_comp (N := ["part"]) (ix := [none]) (comp_scope rfl (by decide +kernel) (by decide +kernel) (by rfl) rfl (by decide +kernel) (by rfl)) rfl (pi_tupK (K := K) rfl (pe_slice (sl_tupN (K := K) rfl) (pv 0) (po_some pe_int) po_none)) (gfree_name rfl) fun _ _ _ _ => ⟨(pg_name (i := 0) (show List.Nodup [Str.ofString "part"] by decide +kernel) rfl (Or.inl rfl) (.inr rfl)), pifs_nil, (pe_call (G_shown_expression.mono (by omega)) hr rfl d_shown_expression.m d_shown_expression.fn.kp d_shown_expression.b .nil pass0 (@pa_cons _ _ _ _ _ (pv 0) pa_nil (by rfl)))⟩)) pa_nil (by rfl))))))))), ?_⟩
  cases e with
  | lane =>
    simp only [dEx] at hv
    obtain ⟨a, xs, rfl, sa, da⟩ := dp_tup hv
    obtain ⟨v1, rfl, q1⟩ := dp1 da
    cases dp_str q1
    refine seq_cut (fun σ' H2 => H = H2 ∧ σ' = [some (V.ref a), some (V.str (Str.ofString "lane"))]) (fun N hN => ⟨_, rfl, a, _, 0, _, rfl, rfl, sa, at0 _ _, hN _ _ ⟨rfl, rfl⟩⟩) ?_
    rintro σ' H2 ⟨rfl, rfl⟩
    refine seq_cut (fun σ' H2 => False) (fun N hN => ?_) (fun σ' H2 h => h.elim)
    simp only [tSeq, tNext, tRet, tRetN, tIfS, tAsg, gName, gSub, tDrop, tVar, tC, tTest, tB, tOp, tUn, tChain, tAnd, tOr, tNot, tAndV, tOrV, tNotV, tIf, tNil, tCons, tTupN, tLstN, tCall, tCB, tBM, tBM0, tSl, tPart, tNoPart, rI, rI0, rU, rIxL, rIxT, rIxS, rSlTN, rSlLN, rCatN, rEq, rNe, rEqD, rIn, rMulS, rAppend, rLen, rLenS, rIsiT, rIsiL, rIsi, rIsiA, rIsiT, rIsi, rAll, rAny, rSw, rFind, rIntS, rSetL, L2.start, List.map_cons, List.map_nil, List.length_cons, List.length_nil, Nat.reduceAdd, Nat.reduceSub, List.replicate_succ, List.replicate_zero, List.cons_append, List.nil_append, List.append_nil, List.getElem?_cons_zero, List.getElem?_cons_succ, List.set_cons_zero, List.set_cons_succ, Option.some.injEq, exists_eq_left', exists_eq_left, V.int.injEq, V.bl.injEq, V.str.injEq, V.ref.injEq, List.cons.injEq, and_true, true_and, Nat.zero_add, exists_and_left, exists_const, sp_sign, sp_name, sp_read, sp_whole, sp_mixedD, sp_kept, sp_sg, sp_take, sp_text, sp_due, sp_right, sp_wide, tFld, sFld, sFldAug, tMeth, tMake, rAdd, rSplit, rJoin, sp_readG, sp_init, sp_over, sp_taken, sp_words, sp_end, sp_expr, sp_readE, sp_lname, sp_lnum, sp_leaf, sp_cell, sp_rightE]
    exact ⟨_, .inr (sq_strTup lk_SIGNS lc_SIGNS lt_SIGNS), rfl, sign_flat, iteY (by decide +kernel) (q _ (Same.refl _))⟩
  | lanes =>
    simp only [dEx] at hv
    obtain ⟨a, xs, rfl, sa, da⟩ := dp_tup hv
    obtain ⟨v1, rfl, q1⟩ := dp1 da
    cases dp_str q1
    refine seq_cut (fun σ' H2 => H = H2 ∧ σ' = [some (V.ref a), some (V.str (Str.ofString "lanes"))]) (fun N hN => ⟨_, rfl, a, _, 0, _, rfl, rfl, sa, at0 _ _, hN _ _ ⟨rfl, rfl⟩⟩) ?_
    rintro σ' H2 ⟨rfl, rfl⟩
    refine seq_cut (fun σ' H2 => False) (fun N hN => ?_) (fun σ' H2 h => h.elim)
    simp only [tSeq, tNext, tRet, tRetN, tIfS, tAsg, gName, gSub, tDrop, tVar, tC, tTest, tB, tOp, tUn, tChain, tAnd, tOr, tNot, tAndV, tOrV, tNotV, tIf, tNil, tCons, tTupN, tLstN, tCall, tCB, tBM, tBM0, tSl, tPart, tNoPart, rI, rI0, rU, rIxL, rIxT, rIxS, rSlTN, rSlLN, rCatN, rEq, rNe, rEqD, rIn, rMulS, rAppend, rLen, rLenS, rIsiT, rIsiL, rIsi, rIsiA, rIsiT, rIsi, rAll, rAny, rSw, rFind, rIntS, rSetL, L2.start, List.map_cons, List.map_nil, List.length_cons, List.length_nil, Nat.reduceAdd, Nat.reduceSub, List.replicate_succ, List.replicate_zero, List.cons_append, List.nil_append, List.append_nil, List.getElem?_cons_zero, List.getElem?_cons_succ, List.set_cons_zero, List.set_cons_succ, Option.some.injEq, exists_eq_left', exists_eq_left, V.int.injEq, V.bl.injEq, V.str.injEq, V.ref.injEq, List.cons.injEq, and_true, true_and, Nat.zero_add, exists_and_left, exists_const, sp_sign, sp_name, sp_read, sp_whole, sp_mixedD, sp_kept, sp_sg, sp_take, sp_text, sp_due, sp_right, sp_wide, tFld, sFld, sFldAug, tMeth, tMake, rAdd, rSplit, rJoin, sp_readG, sp_init, sp_over, sp_taken, sp_words, sp_end, sp_expr, sp_readE, sp_lname, sp_lnum, sp_leaf, sp_cell, sp_rightE]
    exact ⟨_, .inr (sq_strTup lk_SIGNS lc_SIGNS lt_SIGNS), rfl, sign_flat, iteY (by decide +kernel) (q _ (Same.refl _))⟩
  | mine =>
    simp only [dEx] at hv
    obtain ⟨a, xs, rfl, sa, da⟩ := dp_tup hv
    obtain ⟨v1, rfl, q1⟩ := dp1 da
    cases dp_str q1
    refine seq_cut (fun σ' H2 => H = H2 ∧ σ' = [some (V.ref a), some (V.str (Str.ofString "mine"))]) (fun N hN => ⟨_, rfl, a, _, 0, _, rfl, rfl, sa, at0 _ _, hN _ _ ⟨rfl, rfl⟩⟩) ?_
    rintro σ' H2 ⟨rfl, rfl⟩
    refine seq_cut (fun σ' H2 => False) (fun N hN => ?_) (fun σ' H2 h => h.elim)
    simp only [tSeq, tNext, tRet, tRetN, tIfS, tAsg, gName, gSub, tDrop, tVar, tC, tTest, tB, tOp, tUn, tChain, tAnd, tOr, tNot, tAndV, tOrV, tNotV, tIf, tNil, tCons, tTupN, tLstN, tCall, tCB, tBM, tBM0, tSl, tPart, tNoPart, rI, rI0, rU, rIxL, rIxT, rIxS, rSlTN, rSlLN, rCatN, rEq, rNe, rEqD, rIn, rMulS, rAppend, rLen, rLenS, rIsiT, rIsiL, rIsi, rIsiA, rIsiT, rIsi, rAll, rAny, rSw, rFind, rIntS, rSetL, L2.start, List.map_cons, List.map_nil, List.length_cons, List.length_nil, Nat.reduceAdd, Nat.reduceSub, List.replicate_succ, List.replicate_zero, List.cons_append, List.nil_append, List.append_nil, List.getElem?_cons_zero, List.getElem?_cons_succ, List.set_cons_zero, List.set_cons_succ, Option.some.injEq, exists_eq_left', exists_eq_left, V.int.injEq, V.bl.injEq, V.str.injEq, V.ref.injEq, List.cons.injEq, and_true, true_and, Nat.zero_add, exists_and_left, exists_const, sp_sign, sp_name, sp_read, sp_whole, sp_mixedD, sp_kept, sp_sg, sp_take, sp_text, sp_due, sp_right, sp_wide, tFld, sFld, sFldAug, tMeth, tMake, rAdd, rSplit, rJoin, sp_readG, sp_init, sp_over, sp_taken, sp_words, sp_end, sp_expr, sp_readE, sp_lname, sp_lnum, sp_leaf, sp_cell, sp_rightE]
    exact ⟨_, .inr (sq_strTup lk_SIGNS lc_SIGNS lt_SIGNS), rfl, sign_flat, iteY (by decide +kernel) (q _ (Same.refl _))⟩
  | num j =>
    simp only [dEx] at hv
    obtain ⟨a, xs, rfl, sa, da⟩ := dp_tup hv
    obtain ⟨v1, v2, rfl, q1, q2⟩ := dp2 da
    cases dp_str q1
    cases dp_int q2
    have nsg : inV (V.str (Str.ofString "num")) (signW.map V.str) = false := by decide +kernel
    refine seq_cut (fun σ' H2 => H = H2 ∧ σ' = [some (V.ref a), some (V.str (Str.ofString "num"))]) (fun N hN => ⟨_, rfl, a, _, 0, _, rfl, rfl, sa, at0 _ _, hN _ _ ⟨rfl, rfl⟩⟩) ?_
    rintro σ' H2 ⟨rfl, rfl⟩
    refine seq_cut (fun σ' H2 => H = H2 ∧ σ' = [some (V.ref a), some (V.str (Str.ofString "num"))]) (fun N hN => ?_) ?_
    · simp only [tSeq, tNext, tRet, tRetN, tIfS, tAsg, gName, gSub, tDrop, tVar, tC, tTest, tB, tOp, tUn, tChain, tAnd, tOr, tNot, tAndV, tOrV, tNotV, tIf, tNil, tCons, tTupN, tLstN, tCall, tCB, tBM, tBM0, tSl, tPart, tNoPart, rI, rI0, rU, rIxL, rIxT, rIxS, rSlTN, rSlLN, rCatN, rEq, rNe, rEqD, rIn, rMulS, rAppend, rLen, rLenS, rIsiT, rIsiL, rIsi, rIsiA, rIsiT, rIsi, rAll, rAny, rSw, rFind, rIntS, rSetL, L2.start, List.map_cons, List.map_nil, List.length_cons, List.length_nil, Nat.reduceAdd, Nat.reduceSub, List.replicate_succ, List.replicate_zero, List.cons_append, List.nil_append, List.append_nil, List.getElem?_cons_zero, List.getElem?_cons_succ, List.set_cons_zero, List.set_cons_succ, Option.some.injEq, exists_eq_left', exists_eq_left, V.int.injEq, V.bl.injEq, V.str.injEq, V.ref.injEq, List.cons.injEq, and_true, true_and, Nat.zero_add, exists_and_left, exists_const, sp_sign, sp_name, sp_read, sp_whole, sp_mixedD, sp_kept, sp_sg, sp_take, sp_text, sp_due, sp_right, sp_wide, tFld, sFld, sFldAug, tMeth, tMake, rAdd, rSplit, rJoin, sp_readG, sp_init, sp_over, sp_taken, sp_words, sp_end, sp_expr, sp_readE, sp_lname, sp_lnum, sp_leaf, sp_cell, sp_rightE]
      exact ⟨_, .inr (sq_strTup lk_SIGNS lc_SIGNS lt_SIGNS), rfl, sign_flat, iteN (by simpa using nsg) (hN _ _ ⟨rfl, rfl⟩)⟩
    rintro σ' H2 ⟨rfl, rfl⟩
    refine seq_cut (fun σ' H2 => False) (fun N hN => ?_) (fun σ' H2 h => h.elim)
    simp only [tSeq, tNext, tRet, tRetN, tIfS, tAsg, gName, gSub, tDrop, tVar, tC, tTest, tB, tOp, tUn, tChain, tAnd, tOr, tNot, tAndV, tOrV, tNotV, tIf, tNil, tCons, tTupN, tLstN, tCall, tCB, tBM, tBM0, tSl, tPart, tNoPart, rI, rI0, rU, rIxL, rIxT, rIxS, rSlTN, rSlLN, rCatN, rEq, rNe, rEqD, rIn, rMulS, rAppend, rLen, rLenS, rIsiT, rIsiL, rIsi, rIsiA, rIsiT, rIsi, rAll, rAny, rSw, rFind, rIntS, rSetL, L2.start, List.map_cons, List.map_nil, List.length_cons, List.length_nil, Nat.reduceAdd, Nat.reduceSub, List.replicate_succ, List.replicate_zero, List.cons_append, List.nil_append, List.append_nil, List.getElem?_cons_zero, List.getElem?_cons_succ, List.set_cons_zero, List.set_cons_succ, Option.some.injEq, exists_eq_left', exists_eq_left, V.int.injEq, V.bl.injEq, V.str.injEq, V.ref.injEq, List.cons.injEq, and_true, true_and, Nat.zero_add, exists_and_left, exists_const, sp_sign, sp_name, sp_read, sp_whole, sp_mixedD, sp_kept, sp_sg, sp_take, sp_text, sp_due, sp_right, sp_wide, tFld, sFld, sFldAug, tMeth, tMake, rAdd, rSplit, rJoin, sp_readG, sp_init, sp_over, sp_taken, sp_words, sp_end, sp_expr, sp_readE, sp_lname, sp_lnum, sp_leaf, sp_cell, sp_rightE]
    refine ⟨rfl, iteY (by simp) ?_⟩
    exact ⟨_, sa, _, at1 _ _ _, j, rfl, log_small hok.1 hok.2, q _ (Same.refl _)⟩
  | name x =>
    simp only [dEx] at hv
    obtain ⟨a, xs, rfl, sa, da⟩ := dp_tup hv
    obtain ⟨v1, v2, rfl, q1, q2⟩ := dp2 da
    cases dp_str q1
    cases dp_str q2
    have nsg : inV (V.str (Str.ofString "name")) (signW.map V.str) = false := by decide +kernel
    have n1 : ¬ Str.ofString "name" = Str.ofString "num" := by decide +kernel
    refine seq_cut (fun σ' H2 => H = H2 ∧ σ' = [some (V.ref a), some (V.str (Str.ofString "name"))]) (fun N hN => ⟨_, rfl, a, _, 0, _, rfl, rfl, sa, at0 _ _, hN _ _ ⟨rfl, rfl⟩⟩) ?_
    rintro σ' H2 ⟨rfl, rfl⟩
    refine seq_cut (fun σ' H2 => H = H2 ∧ σ' = [some (V.ref a), some (V.str (Str.ofString "name"))]) (fun N hN => ?_) ?_
    · simp only [tSeq, tNext, tRet, tRetN, tIfS, tAsg, gName, gSub, tDrop, tVar, tC, tTest, tB, tOp, tUn, tChain, tAnd, tOr, tNot, tAndV, tOrV, tNotV, tIf, tNil, tCons, tTupN, tLstN, tCall, tCB, tBM, tBM0, tSl, tPart, tNoPart, rI, rI0, rU, rIxL, rIxT, rIxS, rSlTN, rSlLN, rCatN, rEq, rNe, rEqD, rIn, rMulS, rAppend, rLen, rLenS, rIsiT, rIsiL, rIsi, rIsiA, rIsiT, rIsi, rAll, rAny, rSw, rFind, rIntS, rSetL, L2.start, List.map_cons, List.map_nil, List.length_cons, List.length_nil, Nat.reduceAdd, Nat.reduceSub, List.replicate_succ, List.replicate_zero, List.cons_append, List.nil_append, List.append_nil, List.getElem?_cons_zero, List.getElem?_cons_succ, List.set_cons_zero, List.set_cons_succ, Option.some.injEq, exists_eq_left', exists_eq_left, V.int.injEq, V.bl.injEq, V.str.injEq, V.ref.injEq, List.cons.injEq, and_true, true_and, Nat.zero_add, exists_and_left, exists_const, sp_sign, sp_name, sp_read, sp_whole, sp_mixedD, sp_kept, sp_sg, sp_take, sp_text, sp_due, sp_right, sp_wide, tFld, sFld, sFldAug, tMeth, tMake, rAdd, rSplit, rJoin, sp_readG, sp_init, sp_over, sp_taken, sp_words, sp_end, sp_expr, sp_readE, sp_lname, sp_lnum, sp_leaf, sp_cell, sp_rightE]
      exact ⟨_, .inr (sq_strTup lk_SIGNS lc_SIGNS lt_SIGNS), rfl, sign_flat, iteN (by simpa using nsg) (hN _ _ ⟨rfl, rfl⟩)⟩
    rintro σ' H2 ⟨rfl, rfl⟩
    refine seq_cut (fun σ' H2 => H = H2 ∧ σ' = [some (V.ref a), some (V.str (Str.ofString "name"))]) (fun N hN => ?_) ?_
    · simp only [tSeq, tNext, tRet, tRetN, tIfS, tAsg, gName, gSub, tDrop, tVar, tC, tTest, tB, tOp, tUn, tChain, tAnd, tOr, tNot, tAndV, tOrV, tNotV, tIf, tNil, tCons, tTupN, tLstN, tCall, tCB, tBM, tBM0, tSl, tPart, tNoPart, rI, rI0, rU, rIxL, rIxT, rIxS, rSlTN, rSlLN, rCatN, rEq, rNe, rEqD, rIn, rMulS, rAppend, rLen, rLenS, rIsiT, rIsiL, rIsi, rIsiA, rIsiT, rIsi, rAll, rAny, rSw, rFind, rIntS, rSetL, L2.start, List.map_cons, List.map_nil, List.length_cons, List.length_nil, Nat.reduceAdd, Nat.reduceSub, List.replicate_succ, List.replicate_zero, List.cons_append, List.nil_append, List.append_nil, List.getElem?_cons_zero, List.getElem?_cons_succ, List.set_cons_zero, List.set_cons_succ, Option.some.injEq, exists_eq_left', exists_eq_left, V.int.injEq, V.bl.injEq, V.str.injEq, V.ref.injEq, List.cons.injEq, and_true, true_and, Nat.zero_add, exists_and_left, exists_const, sp_sign, sp_name, sp_read, sp_whole, sp_mixedD, sp_kept, sp_sg, sp_take, sp_text, sp_due, sp_right, sp_wide, tFld, sFld, sFldAug, tMeth, tMake, rAdd, rSplit, rJoin, sp_readG, sp_init, sp_over, sp_taken, sp_words, sp_end, sp_expr, sp_readE, sp_lname, sp_lnum, sp_leaf, sp_cell, sp_rightE]
      exact ⟨rfl, iteN (by simpa using n1) (hN _ _ ⟨rfl, rfl⟩)⟩
    rintro σ' H2 ⟨rfl, rfl⟩
    refine seq_cut (fun σ' H2 => False) (fun N hN => ?_) (fun σ' H2 h => h.elim)
    simp only [tSeq, tNext, tRet, tRetN, tIfS, tAsg, gName, gSub, tDrop, tVar, tC, tTest, tB, tOp, tUn, tChain, tAnd, tOr, tNot, tAndV, tOrV, tNotV, tIf, tNil, tCons, tTupN, tLstN, tCall, tCB, tBM, tBM0, tSl, tPart, tNoPart, rI, rI0, rU, rIxL, rIxT, rIxS, rSlTN, rSlLN, rCatN, rEq, rNe, rEqD, rIn, rMulS, rAppend, rLen, rLenS, rIsiT, rIsiL, rIsi, rIsiA, rIsiT, rIsi, rAll, rAny, rSw, rFind, rIntS, rSetL, L2.start, List.map_cons, List.map_nil, List.length_cons, List.length_nil, Nat.reduceAdd, Nat.reduceSub, List.replicate_succ, List.replicate_zero, List.cons_append, List.nil_append, List.append_nil, List.getElem?_cons_zero, List.getElem?_cons_succ, List.set_cons_zero, List.set_cons_succ, Option.some.injEq, exists_eq_left', exists_eq_left, V.int.injEq, V.bl.injEq, V.str.injEq, V.ref.injEq, List.cons.injEq, and_true, true_and, Nat.zero_add, exists_and_left, exists_const, sp_sign, sp_name, sp_read, sp_whole, sp_mixedD, sp_kept, sp_sg, sp_take, sp_text, sp_due, sp_right, sp_wide, tFld, sFld, sFldAug, tMeth, tMake, rAdd, rSplit, rJoin, sp_readG, sp_init, sp_over, sp_taken, sp_words, sp_end, sp_expr, sp_readE, sp_lname, sp_lnum, sp_leaf, sp_cell, sp_rightE]
    refine ⟨rfl, iteY (by simp) ?_⟩
    exact ⟨_, sa, _, at1 _ _ _, q _ (Same.refl _)⟩
  | box e =>
    simp only [dEx] at hv
    obtain ⟨a, xs, rfl, sa, da⟩ := dp_tup hv
    obtain ⟨v1, v2, rfl, q1, q2⟩ := dp2 da
    cases dp_str q1
    cases n with
    | zero => simp [Ex.dp] at hdp
    | succ m =>
    have dpm : e.dp ≤ m := by simpa [Ex.dp] using hdp
    have dp6 : e.dp ≤ 6 := by simp [Ex.dp] at hd6; omega
    have nsg : inV (V.str (Str.ofString "box")) (signW.map V.str) = false := by decide +kernel
    have n1 : ¬ Str.ofString "box" = Str.ofString "num" := by decide +kernel
    have n2 : ¬ Str.ofString "box" = Str.ofString "name" := by decide +kernel
    refine seq_cut (fun σ' H2 => H = H2 ∧ σ' = [some (V.ref a), some (V.str (Str.ofString "box"))]) (fun N hN => ⟨_, rfl, a, _, 0, _, rfl, rfl, sa, at0 _ _, hN _ _ ⟨rfl, rfl⟩⟩) ?_
    rintro σ' H2 ⟨rfl, rfl⟩
    refine seq_cut (fun σ' H2 => H = H2 ∧ σ' = [some (V.ref a), some (V.str (Str.ofString "box"))]) (fun N hN => ?_) ?_
    · simp only [tSeq, tNext, tRet, tRetN, tIfS, tAsg, gName, gSub, tDrop, tVar, tC, tTest, tB, tOp, tUn, tChain, tAnd, tOr, tNot, tAndV, tOrV, tNotV, tIf, tNil, tCons, tTupN, tLstN, tCall, tCB, tBM, tBM0, tSl, tPart, tNoPart, rI, rI0, rU, rIxL, rIxT, rIxS, rSlTN, rSlLN, rCatN, rEq, rNe, rEqD, rIn, rMulS, rAppend, rLen, rLenS, rIsiT, rIsiL, rIsi, rIsiA, rIsiT, rIsi, rAll, rAny, rSw, rFind, rIntS, rSetL, L2.start, List.map_cons, List.map_nil, List.length_cons, List.length_nil, Nat.reduceAdd, Nat.reduceSub, List.replicate_succ, List.replicate_zero, List.cons_append, List.nil_append, List.append_nil, List.getElem?_cons_zero, List.getElem?_cons_succ, List.set_cons_zero, List.set_cons_succ, Option.some.injEq, exists_eq_left', exists_eq_left, V.int.injEq, V.bl.injEq, V.str.injEq, V.ref.injEq, List.cons.injEq, and_true, true_and, Nat.zero_add, exists_and_left, exists_const, sp_sign, sp_name, sp_read, sp_whole, sp_mixedD, sp_kept, sp_sg, sp_take, sp_text, sp_due, sp_right, sp_wide, tFld, sFld, sFldAug, tMeth, tMake, rAdd, rSplit, rJoin, sp_readG, sp_init, sp_over, sp_taken, sp_words, sp_end, sp_expr, sp_readE, sp_lname, sp_lnum, sp_leaf, sp_cell, sp_rightE]
      exact ⟨_, .inr (sq_strTup lk_SIGNS lc_SIGNS lt_SIGNS), rfl, sign_flat, iteN (by simpa using nsg) (hN _ _ ⟨rfl, rfl⟩)⟩
    rintro σ' H2 ⟨rfl, rfl⟩
    refine seq_cut (fun σ' H2 => H = H2 ∧ σ' = [some (V.ref a), some (V.str (Str.ofString "box"))]) (fun N hN => ?_) ?_
    · simp only [tSeq, tNext, tRet, tRetN, tIfS, tAsg, gName, gSub, tDrop, tVar, tC, tTest, tB, tOp, tUn, tChain, tAnd, tOr, tNot, tAndV, tOrV, tNotV, tIf, tNil, tCons, tTupN, tLstN, tCall, tCB, tBM, tBM0, tSl, tPart, tNoPart, rI, rI0, rU, rIxL, rIxT, rIxS, rSlTN, rSlLN, rCatN, rEq, rNe, rEqD, rIn, rMulS, rAppend, rLen, rLenS, rIsiT, rIsiL, rIsi, rIsiA, rIsiT, rIsi, rAll, rAny, rSw, rFind, rIntS, rSetL, L2.start, List.map_cons, List.map_nil, List.length_cons, List.length_nil, Nat.reduceAdd, Nat.reduceSub, List.replicate_succ, List.replicate_zero, List.cons_append, List.nil_append, List.append_nil, List.getElem?_cons_zero, List.getElem?_cons_succ, List.set_cons_zero, List.set_cons_succ, Option.some.injEq, exists_eq_left', exists_eq_left, V.int.injEq, V.bl.injEq, V.str.injEq, V.ref.injEq, List.cons.injEq, and_true, true_and, Nat.zero_add, exists_and_left, exists_const, sp_sign, sp_name, sp_read, sp_whole, sp_mixedD, sp_kept, sp_sg, sp_take, sp_text, sp_due, sp_right, sp_wide, tFld, sFld, sFldAug, tMeth, tMake, rAdd, rSplit, rJoin, sp_readG, sp_init, sp_over, sp_taken, sp_words, sp_end, sp_expr, sp_readE, sp_lname, sp_lnum, sp_leaf, sp_cell, sp_rightE]
      exact ⟨rfl, iteN (by simpa using n1) (hN _ _ ⟨rfl, rfl⟩)⟩
    rintro σ' H2 ⟨rfl, rfl⟩
    refine seq_cut (fun σ' H2 => H = H2 ∧ σ' = [some (V.ref a), some (V.str (Str.ofString "box"))]) (fun N hN => ?_) ?_
    · simp only [tSeq, tNext, tRet, tRetN, tIfS, tAsg, gName, gSub, tDrop, tVar, tC, tTest, tB, tOp, tUn, tChain, tAnd, tOr, tNot, tAndV, tOrV, tNotV, tIf, tNil, tCons, tTupN, tLstN, tCall, tCB, tBM, tBM0, tSl, tPart, tNoPart, rI, rI0, rU, rIxL, rIxT, rIxS, rSlTN, rSlLN, rCatN, rEq, rNe, rEqD, rIn, rMulS, rAppend, rLen, rLenS, rIsiT, rIsiL, rIsi, rIsiA, rIsiT, rIsi, rAll, rAny, rSw, rFind, rIntS, rSetL, L2.start, List.map_cons, List.map_nil, List.length_cons, List.length_nil, Nat.reduceAdd, Nat.reduceSub, List.replicate_succ, List.replicate_zero, List.cons_append, List.nil_append, List.append_nil, List.getElem?_cons_zero, List.getElem?_cons_succ, List.set_cons_zero, List.set_cons_succ, Option.some.injEq, exists_eq_left', exists_eq_left, V.int.injEq, V.bl.injEq, V.str.injEq, V.ref.injEq, List.cons.injEq, and_true, true_and, Nat.zero_add, exists_and_left, exists_const, sp_sign, sp_name, sp_read, sp_whole, sp_mixedD, sp_kept, sp_sg, sp_take, sp_text, sp_due, sp_right, sp_wide, tFld, sFld, sFldAug, tMeth, tMake, rAdd, rSplit, rJoin, sp_readG, sp_init, sp_over, sp_taken, sp_words, sp_end, sp_expr, sp_readE, sp_lname, sp_lnum, sp_leaf, sp_cell, sp_rightE]
      exact ⟨rfl, iteN (by simpa using n2) (hN _ _ ⟨rfl, rfl⟩)⟩
    rintro σ' H2 ⟨rfl, rfl⟩
    simp only [tSeq, tNext, tRet, tRetN, tIfS, tAsg, gName, gSub, tDrop, tVar, tC, tTest, tB, tOp, tUn, tChain, tAnd, tOr, tNot, tAndV, tOrV, tNotV, tIf, tNil, tCons, tTupN, tLstN, tCall, tCB, tBM, tBM0, tSl, tPart, tNoPart, rI, rI0, rU, rIxL, rIxT, rIxS, rSlTN, rSlLN, rCatN, rEq, rNe, rEqD, rIn, rMulS, rAppend, rLen, rLenS, rIsiT, rIsiL, rIsi, rIsiA, rIsiT, rIsi, rAll, rAny, rSw, rFind, rIntS, rSetL, L2.start, List.map_cons, List.map_nil, List.length_cons, List.length_nil, Nat.reduceAdd, Nat.reduceSub, List.replicate_succ, List.replicate_zero, List.cons_append, List.nil_append, List.append_nil, List.getElem?_cons_zero, List.getElem?_cons_succ, List.set_cons_zero, List.set_cons_succ, Option.some.injEq, exists_eq_left', exists_eq_left, V.int.injEq, V.bl.injEq, V.str.injEq, V.ref.injEq, List.cons.injEq, and_true, true_and, Nat.zero_add, exists_and_left, exists_const, sp_sign, sp_name, sp_read, sp_whole, sp_mixedD, sp_kept, sp_sg, sp_take, sp_text, sp_due, sp_right, sp_wide, tFld, sFld, sFldAug, tMeth, tMake, rAdd, rSplit, rJoin, sp_readG, sp_init, sp_over, sp_taken, sp_words, sp_end, sp_expr, sp_readE, sp_lname, sp_lnum, sp_leaf, sp_cell, sp_rightE]
    refine ⟨rfl, small (by decide : 1 ≤ 1000), fun p1 H1 n1 => ⟨_, rfl, 1, rfl, a, _, rfl, n1.1.tup sa, .inr ⟨(show ¬ (HT.sIx 2 0 (some 1) = 0 ∧ HT.sIx 2 2 none = 2) by decide), fun pt Ht nt => ⟨pt, rfl, ⟨_, SqT.of nt.2.2⟩, ?_⟩⟩⟩⟩
    have nt2 : Ht pt = some (.tup [v2]) := nt.2.2
    have gt := n1.1.trans nt.1
    show Exists _
    refine comp_tupW (K := K) (a := pt) (g := gName 0) (tc := tYes) (te := tCall (sp_shown K (m + 1)) [] E0 (tCons (tVar 0) tNil)) (σ := lift [none] [some (V.ref a), some (V.str (Str.ofString "box"))]) (Q := fun y H2 => ∃ x, y = V.ref x ∧ ∃ x_1, H2 p1 = some (HO.lst x_1) ∧ ∃ x_2, H2 x = some (HO.lst x_2) ∧ x_1.length + x_2.length ≤ sizeLine ∧ ∀ (p : Addr) (H' : Hp), Nw H2 H' p (HO.lst (x_1 ++ x_2)) → ∃ x, SqL K H' p (List.map V.str x) ∧ JoinOk (Str.ofString " ") x = true ∧ Q (V.str (Txt.join (Str.ofString " ") x)) H') (xs := [v2]) (fun i zs H2 => Same Ht H2 ∧ zs = ([e.tx].take i).map V.str) ⟨Same.refl _, rfl⟩ (fun i zs H2 _ h => h.1.tup (SqT.of nt2)) (small (by decide : 1 ≤ 1000)) (fun i zs H2 h => by rw [h.2, List.length_map, List.length_take]; omega) ?_ ?_
    · rintro i x zs H2 hx ⟨g2, rfl⟩
      have hi : i < 1 := (List.getElem?_eq_some_iff.mp hx).1
      have h0 : i = 0 := by omega
      subst h0
      cases hx
      simp only [tYes, if_true, gName]
      exact ⟨_, rfl, v2, e, rfl, (q2.same gt).same g2, hok, dpm, dp6, fun H3 g3 => ⟨g2.trans g3, rfl⟩⟩
    · rintro zs H2 pz ⟨g2, rfl⟩ hpz
      have gz := same_new hpz (HO.lst (([e.tx].take [v2].length).map V.str))
      refine ⟨pz, rfl, _, gz _ _ (g2 _ _ (nt.1 _ _ n1.2.2)), _, upd_same, small (show 2 ≤ 1000 by decide), fun pc Hc nc => ⟨Str.ofString "box" :: [e.tx], SqL.of nc.2.2, ?_, ?_⟩⟩
      · rw [bl_eq]
        refine join_ok (show 2 ≤ 10 by decide) fun z hz => ?_
        have t1 := tx_len (e := e) hok dp6
        simp only [List.mem_cons, List.not_mem_nil, or_false] at hz
        rcases hz with rfl | rfl
        · exact Nat.le_trans (fix_fine _ List.mem_cons_self).2.1 (by decide)
        · omega
      · rw [bl_eq, join_eq, tx_box]
        exact q _ (gt.trans (g2.trans (gz.trans nc.1)))
  | op w b c =>
    simp only [dEx] at hv
    obtain ⟨a, xs, rfl, sa, da⟩ := dp_tup hv
    obtain ⟨v1, v2, v3, rfl, q1, q2, q3⟩ := dp3 da
    cases dp_str q1
    cases n with
    | zero => simp [Ex.dp] at hdp
    | succ m =>
    have dpm : b.dp ≤ m ∧ c.dp ≤ m := by
      have : max b.dp c.dp + 1 ≤ m + 1 := hdp
      omega
    have dp6 : b.dp ≤ 6 ∧ c.dp ≤ 6 := by
      have : max b.dp c.dp + 1 ≤ 6 := hd6
      omega
    have nsg : inV (V.str w.str) (signW.map V.str) = false := by cases w <;> decide +kernel
    have n1 : ¬ w.str = Str.ofString "num" := by cases w <;> decide +kernel
    have n2 : ¬ w.str = Str.ofString "name" := by cases w <;> decide +kernel
    refine seq_cut (fun σ' H2 => H = H2 ∧ σ' = [some (V.ref a), some (V.str (w.str))]) (fun N hN => ⟨_, rfl, a, _, 0, _, rfl, rfl, sa, at0 _ _, hN _ _ ⟨rfl, rfl⟩⟩) ?_
    rintro σ' H2 ⟨rfl, rfl⟩
    refine seq_cut (fun σ' H2 => H = H2 ∧ σ' = [some (V.ref a), some (V.str (w.str))]) (fun N hN => ?_) ?_
    · simp only [tSeq, tNext, tRet, tRetN, tIfS, tAsg, gName, gSub, tDrop, tVar, tC, tTest, tB, tOp, tUn, tChain, tAnd, tOr, tNot, tAndV, tOrV, tNotV, tIf, tNil, tCons, tTupN, tLstN, tCall, tCB, tBM, tBM0, tSl, tPart, tNoPart, rI, rI0, rU, rIxL, rIxT, rIxS, rSlTN, rSlLN, rCatN, rEq, rNe, rEqD, rIn, rMulS, rAppend, rLen, rLenS, rIsiT, rIsiL, rIsi, rIsiA, rIsiT, rIsi, rAll, rAny, rSw, rFind, rIntS, rSetL, L2.start, List.map_cons, List.map_nil, List.length_cons, List.length_nil, Nat.reduceAdd, Nat.reduceSub, List.replicate_succ, List.replicate_zero, List.cons_append, List.nil_append, List.append_nil, List.getElem?_cons_zero, List.getElem?_cons_succ, List.set_cons_zero, List.set_cons_succ, Option.some.injEq, exists_eq_left', exists_eq_left, V.int.injEq, V.bl.injEq, V.str.injEq, V.ref.injEq, List.cons.injEq, and_true, true_and, Nat.zero_add, exists_and_left, exists_const, sp_sign, sp_name, sp_read, sp_whole, sp_mixedD, sp_kept, sp_sg, sp_take, sp_text, sp_due, sp_right, sp_wide, tFld, sFld, sFldAug, tMeth, tMake, rAdd, rSplit, rJoin, sp_readG, sp_init, sp_over, sp_taken, sp_words, sp_end, sp_expr, sp_readE, sp_lname, sp_lnum, sp_leaf, sp_cell, sp_rightE]
      exact ⟨_, .inr (sq_strTup lk_SIGNS lc_SIGNS lt_SIGNS), rfl, sign_flat, iteN (by simpa using nsg) (hN _ _ ⟨rfl, rfl⟩)⟩
    rintro σ' H2 ⟨rfl, rfl⟩
    refine seq_cut (fun σ' H2 => H = H2 ∧ σ' = [some (V.ref a), some (V.str (w.str))]) (fun N hN => ?_) ?_
    · simp only [tSeq, tNext, tRet, tRetN, tIfS, tAsg, gName, gSub, tDrop, tVar, tC, tTest, tB, tOp, tUn, tChain, tAnd, tOr, tNot, tAndV, tOrV, tNotV, tIf, tNil, tCons, tTupN, tLstN, tCall, tCB, tBM, tBM0, tSl, tPart, tNoPart, rI, rI0, rU, rIxL, rIxT, rIxS, rSlTN, rSlLN, rCatN, rEq, rNe, rEqD, rIn, rMulS, rAppend, rLen, rLenS, rIsiT, rIsiL, rIsi, rIsiA, rIsiT, rIsi, rAll, rAny, rSw, rFind, rIntS, rSetL, L2.start, List.map_cons, List.map_nil, List.length_cons, List.length_nil, Nat.reduceAdd, Nat.reduceSub, List.replicate_succ, List.replicate_zero, List.cons_append, List.nil_append, List.append_nil, List.getElem?_cons_zero, List.getElem?_cons_succ, List.set_cons_zero, List.set_cons_succ, Option.some.injEq, exists_eq_left', exists_eq_left, V.int.injEq, V.bl.injEq, V.str.injEq, V.ref.injEq, List.cons.injEq, and_true, true_and, Nat.zero_add, exists_and_left, exists_const, sp_sign, sp_name, sp_read, sp_whole, sp_mixedD, sp_kept, sp_sg, sp_take, sp_text, sp_due, sp_right, sp_wide, tFld, sFld, sFldAug, tMeth, tMake, rAdd, rSplit, rJoin, sp_readG, sp_init, sp_over, sp_taken, sp_words, sp_end, sp_expr, sp_readE, sp_lname, sp_lnum, sp_leaf, sp_cell, sp_rightE]
      exact ⟨rfl, iteN (by simpa using n1) (hN _ _ ⟨rfl, rfl⟩)⟩
    rintro σ' H2 ⟨rfl, rfl⟩
    refine seq_cut (fun σ' H2 => H = H2 ∧ σ' = [some (V.ref a), some (V.str (w.str))]) (fun N hN => ?_) ?_
    · simp only [tSeq, tNext, tRet, tRetN, tIfS, tAsg, gName, gSub, tDrop, tVar, tC, tTest, tB, tOp, tUn, tChain, tAnd, tOr, tNot, tAndV, tOrV, tNotV, tIf, tNil, tCons, tTupN, tLstN, tCall, tCB, tBM, tBM0, tSl, tPart, tNoPart, rI, rI0, rU, rIxL, rIxT, rIxS, rSlTN, rSlLN, rCatN, rEq, rNe, rEqD, rIn, rMulS, rAppend, rLen, rLenS, rIsiT, rIsiL, rIsi, rIsiA, rIsiT, rIsi, rAll, rAny, rSw, rFind, rIntS, rSetL, L2.start, List.map_cons, List.map_nil, List.length_cons, List.length_nil, Nat.reduceAdd, Nat.reduceSub, List.replicate_succ, List.replicate_zero, List.cons_append, List.nil_append, List.append_nil, List.getElem?_cons_zero, List.getElem?_cons_succ, List.set_cons_zero, List.set_cons_succ, Option.some.injEq, exists_eq_left', exists_eq_left, V.int.injEq, V.bl.injEq, V.str.injEq, V.ref.injEq, List.cons.injEq, and_true, true_and, Nat.zero_add, exists_and_left, exists_const, sp_sign, sp_name, sp_read, sp_whole, sp_mixedD, sp_kept, sp_sg, sp_take, sp_text, sp_due, sp_right, sp_wide, tFld, sFld, sFldAug, tMeth, tMake, rAdd, rSplit, rJoin, sp_readG, sp_init, sp_over, sp_taken, sp_words, sp_end, sp_expr, sp_readE, sp_lname, sp_lnum, sp_leaf, sp_cell, sp_rightE]
      exact ⟨rfl, iteN (by simpa using n2) (hN _ _ ⟨rfl, rfl⟩)⟩
    rintro σ' H2 ⟨rfl, rfl⟩
    simp only [tSeq, tNext, tRet, tRetN, tIfS, tAsg, gName, gSub, tDrop, tVar, tC, tTest, tB, tOp, tUn, tChain, tAnd, tOr, tNot, tAndV, tOrV, tNotV, tIf, tNil, tCons, tTupN, tLstN, tCall, tCB, tBM, tBM0, tSl, tPart, tNoPart, rI, rI0, rU, rIxL, rIxT, rIxS, rSlTN, rSlLN, rCatN, rEq, rNe, rEqD, rIn, rMulS, rAppend, rLen, rLenS, rIsiT, rIsiL, rIsi, rIsiA, rIsiT, rIsi, rAll, rAny, rSw, rFind, rIntS, rSetL, L2.start, List.map_cons, List.map_nil, List.length_cons, List.length_nil, Nat.reduceAdd, Nat.reduceSub, List.replicate_succ, List.replicate_zero, List.cons_append, List.nil_append, List.append_nil, List.getElem?_cons_zero, List.getElem?_cons_succ, List.set_cons_zero, List.set_cons_succ, Option.some.injEq, exists_eq_left', exists_eq_left, V.int.injEq, V.bl.injEq, V.str.injEq, V.ref.injEq, List.cons.injEq, and_true, true_and, Nat.zero_add, exists_and_left, exists_const, sp_sign, sp_name, sp_read, sp_whole, sp_mixedD, sp_kept, sp_sg, sp_take, sp_text, sp_due, sp_right, sp_wide, tFld, sFld, sFldAug, tMeth, tMake, rAdd, rSplit, rJoin, sp_readG, sp_init, sp_over, sp_taken, sp_words, sp_end, sp_expr, sp_readE, sp_lname, sp_lnum, sp_leaf, sp_cell, sp_rightE]
    refine ⟨rfl, small (by decide : 1 ≤ 1000), fun p1 H1 n1 => ⟨_, rfl, 1, rfl, a, _, rfl, n1.1.tup sa, .inr ⟨(show ¬ (HT.sIx 3 0 (some 1) = 0 ∧ HT.sIx 3 3 none = 3) by decide), fun pt Ht nt => ⟨pt, rfl, ⟨_, SqT.of nt.2.2⟩, ?_⟩⟩⟩⟩
    have nt2 : Ht pt = some (.tup [v2, v3]) := nt.2.2
    have gt := n1.1.trans nt.1
    show Exists _
    refine comp_tupW (K := K) (a := pt) (g := gName 0) (tc := tYes) (te := tCall (sp_shown K (m + 1)) [] E0 (tCons (tVar 0) tNil)) (σ := lift [none] [some (V.ref a), some (V.str (w.str))]) (Q := fun y H2 => ∃ x, y = V.ref x ∧ ∃ x_1, H2 p1 = some (HO.lst x_1) ∧ ∃ x_2, H2 x = some (HO.lst x_2) ∧ x_1.length + x_2.length ≤ sizeLine ∧ ∀ (p : Addr) (H' : Hp), Nw H2 H' p (HO.lst (x_1 ++ x_2)) → ∃ x, SqL K H' p (List.map V.str x) ∧ JoinOk (Str.ofString " ") x = true ∧ Q (V.str (Txt.join (Str.ofString " ") x)) H') (xs := [v2, v3]) (fun i zs H2 => Same Ht H2 ∧ zs = ([b.tx, c.tx].take i).map V.str) ⟨Same.refl _, rfl⟩ (fun i zs H2 _ h => h.1.tup (SqT.of nt2)) (small (by decide : 2 ≤ 1000)) (fun i zs H2 h => by rw [h.2, List.length_map, List.length_take]; omega) ?_ ?_
    · rintro i x zs H2 hx ⟨g2, rfl⟩
      have hi : i < 2 := (List.getElem?_eq_some_iff.mp hx).1
      rcases (by omega : i = 0 ∨ i = 1) with rfl | rfl
      · cases hx
        simp only [tYes, if_true, gName]
        exact ⟨_, rfl, v2, b, rfl, (q2.same gt).same g2, hok.1, dpm.1, dp6.1, fun H3 g3 => ⟨g2.trans g3, rfl⟩⟩
      · cases hx
        simp only [tYes, if_true, gName]
        exact ⟨_, rfl, v3, c, rfl, (q3.same gt).same g2, hok.2, dpm.2, dp6.2, fun H3 g3 => ⟨g2.trans g3, rfl⟩⟩
    · rintro zs H2 pz ⟨g2, rfl⟩ hpz
      have gz := same_new hpz (HO.lst (([b.tx, c.tx].take [v2, v3].length).map V.str))
      refine ⟨pz, rfl, _, gz _ _ (g2 _ _ (nt.1 _ _ n1.2.2)), _, upd_same, small (show 3 ≤ 1000 by decide), fun pc Hc nc => ⟨w.str :: [b.tx, c.tx], SqL.of nc.2.2, ?_, ?_⟩⟩
      · rw [bl_eq]
        refine join_ok (show 3 ≤ 10 by decide) fun z hz => ?_
        have t1 := tx_len (e := b) hok.1 dp6.1
        have t2 := tx_len (e := c) hok.2 dp6.2
        simp only [List.mem_cons, List.not_mem_nil, or_false] at hz
        rcases hz with rfl | rfl | rfl
        · exact Nat.le_trans (fix_fine _ (by cases w <;> decide +kernel)).2.1 (by decide)
        · omega
        · omega
      · rw [bl_eq, join_eq, tx_op]
        exact q _ (gt.trans (g2.trans (gz.trans nc.1)))
theorem ok_shown_expression {f_shown_expression : Addr} {fd_shown_expression : FuncData} (d_shown_expression : Df K mg "shown_expression" s_shown_expression ["expression"] f_shown_expression fd_shown_expression) (z_str : mg "str" = none) {a_SIGNS : Addr} {o_SIGNS : Obj} (m_SIGNS : mg "SIGNS" = some (.ref a_SIGNS)) (lk_SIGNS : K.lookup a_SIGNS = some o_SIGNS) (lc_SIGNS : o_SIGNS.cls = .type "tuple") (lt_SIGNS : strTup o_SIGNS signW = true) : ∀ n, FnOk P w K mg base CX0 (0 + n) f_shown_expression fd_shown_expression ["expression"] (sp_shown K n)
  | 0 => FnOk.never
  | n + 1 => okS_shown_expression d_shown_expression z_str m_SIGNS lk_SIGNS lc_SIGNS lt_SIGNS (ok_shown_expression d_shown_expression z_str m_SIGNS lk_SIGNS lc_SIGNS lt_SIGNS n)
end
theorem sc__law_mixed : FnScope ["_law_cell", "_law_k", "_law_one"] ["_law_cell", "_law_k"] (defScope s__law_mixed) := ⟨rfl, rfl, rfl, by decide +kernel, rfl, by decide +kernel, by decide +kernel⟩
section
variable {P : Program} {w : World} {K : PySem.W.Frag} {mg : Str → Option Value} {base : Heap} {c_NoLine : Addr} {c_Walk : Addr}
set_option maxHeartbeats 4000000 in
theorem ok__law_mixed {f : Addr} {fd : FuncData} (F : Fun K "_law_mixed" "_law_mixed" s__law_mixed f fd) : FnOk P w K mg base CX0 1 f fd ["_law_cell", "_law_k"] sp_mixedD := by
  refine F.ok sc__law_mixed (fun vs H Q E h => ?_) (fun cdv A outer s H vs Q E hr h => ?_)
  · obtain ⟨c, k, rfl, _⟩ := h
    rfl
  obtain ⟨c, k, rfl, hk0, hk1, q⟩ := h
  refine ⟨_, (@pss_cons _ _ _ _ _ (@ps_set _ _ 2 _ _ _ _ sc__law_mixed.nd rfl (Or.inl rfl) (@pe_op _ _ _ _ _ _ _ _ op_modM (@pe_op _ _ _ _ _ _ _ _ op_mul (@pe_op _ _ _ _ _ _ _ _ op_add (@pe_op _ _ _ _ _ _ _ _ op_modM (pv 0) pe_int) pe_int) (@pe_op _ _ _ _ _ _ _ _ op_add pe_int (@pe_op _ _ _ _ _ _ _ _ op_mul (@pe_op _ _ _ _ _ _ _ _ op_mul pe_int (pv 1)) (pv 1)))) pe_int) (by rfl) (by first | exact .inl rfl | exact .inr rfl))
    (@pss_one _ _ _ (@ps_ret _ _ _ _ (@pe_op _ _ _ _ _ _ _ _ op_modM (@pe_op _ _ _ _ _ _ _ _ op_mul (pv 2) (@pe_op _ _ _ _ _ _ _ _ op_add (@pe_op _ _ _ _ _ _ _ _ op_modM (pv 2) pe_int) (pv 1))) pe_int)))), ?_⟩
  simp only [tSeq, tNext, tRet, tRetN, tIfS, tAsg, gName, gSub, tDrop, tVar, tC, tTest, tB, tOp, tUn, tChain, tAnd, tOr, tNot, tAndV, tOrV, tNotV, tIf, tNil, tCons, tTupN, tLstN, tCall, tCB, tBM, tBM0, tSl, tPart, tNoPart, rI, rI0, rU, rIxL, rIxT, rIxS, rSlTN, rSlLN, rCatN, rEq, rNe, rEqD, rIn, rMulS, rAppend, rLen, rLenS, rIsiT, rIsiL, rIsi, rIsiA, rIsiT, rIsi, rAll, rAny, rSw, rFind, rIntS, rSetL, L2.start, List.map_cons, List.map_nil, List.length_cons, List.length_nil, Nat.reduceAdd, Nat.reduceSub, List.replicate_succ, List.replicate_zero, List.cons_append, List.nil_append, List.append_nil, List.getElem?_cons_zero, List.getElem?_cons_succ, List.set_cons_zero, List.set_cons_succ, Option.some.injEq, exists_eq_left', exists_eq_left, V.int.injEq, V.bl.injEq, V.str.injEq, V.ref.injEq, List.cons.injEq, and_true, true_and, Nat.zero_add, exists_and_left, exists_const, sp_sign, sp_name, sp_read, sp_whole, sp_mixedD, sp_kept, sp_sg, sp_take, sp_text, sp_due, sp_right, sp_wide, tFld, sFld, sFldAug, tMeth, tMake, rAdd, rSplit, rJoin, sp_readG, sp_init, sp_over, sp_taken, sp_words, sp_end, sp_expr, sp_readE, sp_lname, sp_lnum, sp_leaf, sp_cell, sp_rightE]
  have m0 := mod_lo c (m := 1000003) (by decide)
  have m1 := mod_hi c (m := 1000003) (by decide)
  have n0 := mod_lo ((c.fmod 1000003 + 1) * (48271 + 2 * k * k)) (m := 2147483647) (by decide)
  have n1 := mod_hi ((c.fmod 1000003 + 1) * (48271 + 2 * k * k)) (m := 2147483647) (by decide)
  exact ⟨by decide, .inl ⟨by decide, by decide⟩, .inl ⟨by omega, by omega⟩, .inl ⟨by omega, by omega⟩, by decide, by decide, .inl ⟨by omega, by omega⟩, by decide, q⟩
end
theorem sc__law_cell_at : FnScope ["_law_cells", "_law_k"] ["_law_cells", "_law_k"] (defScope s__law_cell_at) := ⟨rfl, rfl, rfl, by decide +kernel, rfl, by decide +kernel, by decide +kernel⟩
section
variable {P : Program} {w : World} {K : PySem.W.Frag} {mg : Str → Option Value} {base : Heap} {c_NoLine : Addr} {c_Walk : Addr}
set_option maxHeartbeats 4000000 in
theorem ok__law_cell_at {f : Addr} {fd : FuncData} (F : Fun K "_law_cell_at" "_law_cell_at" s__law_cell_at f fd) (z_len : mg "len" = none) : FnOk P w K mg base CX0 1 f fd ["_law_cells", "_law_k"] (sp_cell K) := by
  refine F.ok sc__law_cell_at (fun vs H Q E h => ?_) (fun cdv A outer s H vs Q E hr h => ?_)
  · obtain ⟨a, cs, k, rfl, _⟩ := h
    rfl
  obtain ⟨a, cs, k, rfl, hS, hl, h0, q⟩ := h
  refine ⟨_, (@pss_cons _ _ _ _ _ (@ps_if _ _ _ _ _ _ _ _ (pt_cmpR op_lt (pv 1) (pe_callB (call_len_seqK (K := K) rfl) rfl z_len PySem.boot_len (@pa_cons _ _ _ _ _ (pv 0) pa_nil (by rfl))) (nomark _))
      (@pss_one _ _ _ (@ps_ret _ _ _ _ (pe_ix (ix_listK (K := K) rfl) (pv 0) (pv 1) (fun _ _ => rfl))))
      pss_nil)
    (@pss_one _ _ _ (@ps_ret _ _ _ _ pe_int))), ?_⟩
  simp only [tSeq, tNext, tRet, tRetN, tIfS, tAsg, gName, gSub, tDrop, tVar, tC, tTest, tB, tOp, tUn, tChain, tAnd, tOr, tNot, tAndV, tOrV, tNotV, tIf, tNil, tCons, tTupN, tLstN, tCall, tCB, tBM, tBM0, tSl, tPart, tNoPart, rI, rI0, rU, rIxL, rIxT, rIxS, rSlTN, rSlLN, rCatN, rEq, rNe, rEqD, rIn, rMulS, rAppend, rLen, rLenS, rIsiT, rIsiL, rIsi, rIsiA, rIsiT, rIsi, rAll, rAny, rSw, rFind, rIntS, rSetL, L2.start, List.map_cons, List.map_nil, List.length_cons, List.length_nil, Nat.reduceAdd, Nat.reduceSub, List.replicate_succ, List.replicate_zero, List.cons_append, List.nil_append, List.append_nil, List.getElem?_cons_zero, List.getElem?_cons_succ, List.set_cons_zero, List.set_cons_succ, Option.some.injEq, exists_eq_left', exists_eq_left, V.int.injEq, V.bl.injEq, V.str.injEq, V.ref.injEq, List.cons.injEq, and_true, true_and, Nat.zero_add, exists_and_left, exists_const, sp_sign, sp_name, sp_read, sp_whole, sp_mixedD, sp_kept, sp_sg, sp_take, sp_text, sp_due, sp_right, sp_wide, tFld, sFld, sFldAug, tMeth, tMake, rAdd, rSplit, rJoin, sp_readG, sp_init, sp_over, sp_taken, sp_words, sp_end, sp_expr, sp_readE, sp_lname, sp_lnum, sp_leaf, sp_cell, sp_rightE]
  refine ⟨_, .inl hS, ite2 (fun c => ?_) (fun c => q _ (by decide))⟩
  obtain ⟨v, hv, m, hm, rfl⟩ := at_all (Pz := fun v => ∃ m, 0 ≤ m ∧ v = V.int m) (xs := cs.map V.int) (i := (k : Int)) (by omega) (by simpa using c) (by
    intro x hx
    obtain ⟨m, hm, rfl⟩ := List.mem_map.mp hx
    exact ⟨m, h0 m hm, rfl⟩)
  exact ⟨_, hS, _, hv, q m hm⟩
end
theorem sc__law_workings : FnScope [] [] (defScope s__law_workings) := ⟨rfl, rfl, rfl, by decide +kernel, rfl, by decide +kernel, by decide +kernel⟩
section
variable {P : Program} {w : World} {K : PySem.W.Frag} {mg : Str → Option Value} {base : Heap} {c_NoLine : Addr} {c_Walk : Addr}
set_option maxHeartbeats 4000000 in
theorem ok__law_workings {f : Addr} {fd : FuncData} (F : Fun K "_law_workings" "_law_workings" s__law_workings f fd) : FnOk P w K mg base CX0 1 f fd [] sp_works := by
  refine F.ok sc__law_workings (fun vs H Q E h => ?_) (fun cdv A outer s H vs Q E hr h => ?_)
  · obtain ⟨rfl, _⟩ := h
    rfl
  obtain ⟨rfl, q⟩ := h
  refine ⟨_, (@pss_one _ _ _ (@ps_ret _ _ _ _ (@pe_lstN _ _ _ _ (@pa_cons _ _ _ _ _ pe_str (@pa_cons _ _ _ _ _ pe_str (@pa_cons _ _ _ _ _ pe_str (@pa_cons _ _ _ _ _ pe_str (@pa_cons _ _ _ _ _ pe_str (@pa_cons _ _ _ _ _ pe_str (@pa_cons _ _ _ _ _ pe_str pa_nil (by rfl)) (by rfl)) (by rfl)) (by rfl)) (by rfl)) (by rfl)) (by rfl))))), ?_⟩
  exact ⟨by decide, fun p H' n => q p H' n⟩
end
theorem sc__law_good_leaf : FnScope ["_law_cell"] ["_law_cell"] (defScope s__law_good_leaf) := ⟨rfl, rfl, rfl, by decide +kernel, rfl, by decide +kernel, by decide +kernel⟩
section
variable {P : Program} {w : World} {K : PySem.W.Frag} {mg : Str → Option Value} {base : Heap} {c_NoLine : Addr} {c_Walk : Addr}
set_option maxHeartbeats 4000000 in
theorem ok__law_good_leaf {f : Addr} {fd : FuncData} (F : Fun K "_law_good_leaf" "_law_good_leaf" s__law_good_leaf f fd) : FnOk P w K mg base CX0 1 f fd ["_law_cell"] sp_gleaf := by
  refine F.ok sc__law_good_leaf (fun vs H Q E h => ?_) (fun cdv A outer s H vs Q E hr h => ?_)
  · obtain ⟨n, rfl, _⟩ := h
    rfl
  obtain ⟨n, rfl, q⟩ := h
  refine ⟨_, (@pss_one _ _ _ (@ps_ret _ _ _ _ (pe_ix (ix_listK (K := K) rfl) (@pe_lstN _ _ _ _ (@pa_cons _ _ _ _ _ pe_str (@pa_cons _ _ _ _ _ pe_str (@pa_cons _ _ _ _ _ pe_str (@pa_cons _ _ _ _ _ pe_str (@pa_cons _ _ _ _ _ pe_str (@pa_cons _ _ _ _ _ pe_str (@pa_cons _ _ _ _ _ pe_str (@pa_cons _ _ _ _ _ pe_str (@pa_cons _ _ _ _ _ pe_str (@pa_cons _ _ _ _ _ pe_str (@pa_cons _ _ _ _ _ pe_str (@pa_cons _ _ _ _ _ pe_str pa_nil (by rfl)) (by rfl)) (by rfl)) (by rfl)) (by rfl)) (by rfl)) (by rfl)) (by rfl)) (by rfl)) (by rfl)) (by rfl)) (by rfl))) (@pe_op _ _ _ _ _ _ _ _ op_modM (pv 0) pe_int) (fun _ _ => rfl)))), ?_⟩
  simp only [tSeq, tNext, tRet, tRetN, tIfS, tAsg, gName, gSub, tDrop, tVar, tC, tTest, tB, tOp, tUn, tChain, tAnd, tOr, tNot, tAndV, tOrV, tNotV, tIf, tNil, tCons, tTupN, tLstN, tCall, tCB, tBM, tBM0, tSl, tPart, tNoPart, rI, rI0, rU, rIxL, rIxT, rIxS, rSlTN, rSlLN, rCatN, rEq, rNe, rEqD, rIn, rMulS, rAppend, rLen, rLenS, rIsiT, rIsiL, rIsi, rIsiA, rIsiT, rIsi, rAll, rAny, rSw, rFind, rIntS, rSetL, L2.start, List.map_cons, List.map_nil, List.length_cons, List.length_nil, Nat.reduceAdd, Nat.reduceSub, List.replicate_succ, List.replicate_zero, List.cons_append, List.nil_append, List.append_nil, List.getElem?_cons_zero, List.getElem?_cons_succ, List.set_cons_zero, List.set_cons_succ, Option.some.injEq, exists_eq_left', exists_eq_left, V.int.injEq, V.bl.injEq, V.str.injEq, V.ref.injEq, List.cons.injEq, and_true, true_and, Nat.zero_add, exists_and_left, exists_const, sp_sign, sp_name, sp_read, sp_whole, sp_mixedD, sp_kept, sp_sg, sp_take, sp_text, sp_due, sp_right, sp_wide, tFld, sFld, sFldAug, tMeth, tMake, rAdd, rSplit, rJoin, sp_readG, sp_init, sp_over, sp_taken, sp_words, sp_end, sp_expr, sp_readE, sp_lname, sp_lnum, sp_leaf, sp_cell, sp_rightE, tRaise, sp_wordX, sp_endX, sp_exprX, sp_readX, sp_works, sp_gleaf, sp_isleaf, sp_stands]
  refine ⟨by decide, fun p H' n1 => ⟨by decide, _, SqL.of n1.2.2, ?_⟩⟩
  have m0 := mod_lo n (m := 12) (by decide)
  have m1 := mod_hi n (m := 12) (by decide)
  obtain ⟨v, hv⟩ := at_ok (xs := leafW.map V.str) m0 (by rw [List.length_map]; exact m1)
  obtain ⟨w, hw, rfl⟩ := List.mem_map.mp (at_mem hv)
  exact ⟨_, hv, q w _ n1.1 hw⟩
end
theorem sc__law_is_leaf : FnScope ["_law_word"] ["_law_word"] (defScope s__law_is_leaf) := ⟨rfl, rfl, rfl, by decide +kernel, rfl, by decide +kernel, by decide +kernel⟩
section
variable {P : Program} {w : World} {K : PySem.W.Frag} {mg : Str → Option Value} {base : Heap} {c_NoLine : Addr} {c_Walk : Addr}
set_option maxHeartbeats 4000000 in
theorem ok__law_is_leaf {f : Addr} {fd : FuncData} (F : Fun K "_law_is_leaf" "_law_is_leaf" s__law_is_leaf f fd) : FnOk P w K mg base CX0 1 f fd ["_law_word"] sp_isleaf := by
  refine F.ok sc__law_is_leaf (fun vs H Q E h => ?_) (fun cdv A outer s H vs Q E hr h => ?_)
  · obtain ⟨w, rfl, _⟩ := h
    rfl
  obtain ⟨w, rfl, hw, q⟩ := h
  refine ⟨_, (@pss_one _ _ _ (@ps_ret _ _ _ _ (pe_cmpR (op_in_seqK (K := K) rfl) (pv 0) (@pe_lstN _ _ _ _ (@pa_cons _ _ _ _ _ pe_str (@pa_cons _ _ _ _ _ pe_str (@pa_cons _ _ _ _ _ pe_str (@pa_cons _ _ _ _ _ pe_str (@pa_cons _ _ _ _ _ pe_str (@pa_cons _ _ _ _ _ pe_str (@pa_cons _ _ _ _ _ pe_str (@pa_cons _ _ _ _ _ pe_str (@pa_cons _ _ _ _ _ pe_str (@pa_cons _ _ _ _ _ pe_str (@pa_cons _ _ _ _ _ pe_str (@pa_cons _ _ _ _ _ pe_str pa_nil (by rfl)) (by rfl)) (by rfl)) (by rfl)) (by rfl)) (by rfl)) (by rfl)) (by rfl)) (by rfl)) (by rfl)) (by rfl)) (by rfl))) (by first | rfl | with_unfolding_all rfl)))), ?_⟩
  simp only [tSeq, tNext, tRet, tRetN, tIfS, tAsg, gName, gSub, tDrop, tVar, tC, tTest, tB, tOp, tUn, tChain, tAnd, tOr, tNot, tAndV, tOrV, tNotV, tIf, tNil, tCons, tTupN, tLstN, tCall, tCB, tBM, tBM0, tSl, tPart, tNoPart, rI, rI0, rU, rIxL, rIxT, rIxS, rSlTN, rSlLN, rCatN, rEq, rNe, rEqD, rIn, rMulS, rAppend, rLen, rLenS, rIsiT, rIsiL, rIsi, rIsiA, rIsiT, rIsi, rAll, rAny, rSw, rFind, rIntS, rSetL, L2.start, List.map_cons, List.map_nil, List.length_cons, List.length_nil, Nat.reduceAdd, Nat.reduceSub, List.replicate_succ, List.replicate_zero, List.cons_append, List.nil_append, List.append_nil, List.getElem?_cons_zero, List.getElem?_cons_succ, List.set_cons_zero, List.set_cons_succ, Option.some.injEq, exists_eq_left', exists_eq_left, V.int.injEq, V.bl.injEq, V.str.injEq, V.ref.injEq, List.cons.injEq, and_true, true_and, Nat.zero_add, exists_and_left, exists_const, sp_sign, sp_name, sp_read, sp_whole, sp_mixedD, sp_kept, sp_sg, sp_take, sp_text, sp_due, sp_right, sp_wide, tFld, sFld, sFldAug, tMeth, tMake, rAdd, rSplit, rJoin, sp_readG, sp_init, sp_over, sp_taken, sp_words, sp_end, sp_expr, sp_readE, sp_lname, sp_lnum, sp_leaf, sp_cell, sp_rightE, tRaise, sp_wordX, sp_endX, sp_exprX, sp_readX, sp_works, sp_gleaf, sp_isleaf, sp_stands]
  refine ⟨by decide, fun p H' n1 => ⟨_, .inl (SqL.of n1.2.2), rfl, rfl, ?_⟩⟩
  have e : inV (V.str w) (leafW.map V.str) = decide (w ∈ leafW) := by
    by_cases h : w ∈ leafW
    · rw [decide_eq_true h]
      exact (inV_iff _ _).mpr h
    · rw [decide_eq_false h]
      exact Bool.eq_false_iff.mpr fun h2 => h ((inV_iff _ _).mp h2)
  rw [if_neg (by simp)]
  show Q (V.bl (inV (V.str w) (leafW.map V.str))) H'
  rw [e]
  exact q _ n1.1
end
theorem sc__law_stands : FnScope ["_law_text", "_law_deep", "_law_word", "_law_one"] ["_law_text"] (defScope s__law_stands) := ⟨rfl, rfl, rfl, by decide +kernel, rfl, by decide +kernel, by decide +kernel⟩
section
variable {P : Program} {w : World} {K : PySem.W.Frag} {mg : Str → Option Value} {base : Heap} {c_NoLine : Addr} {c_Walk : Addr}
set_option maxHeartbeats 4000000 in
theorem ok__law_stands {f : Addr} {fd : FuncData} (F : Fun K "_law_stands" "_law_stands" s__law_stands f fd) {f__law_workings : Addr} {fd__law_workings : FuncData} (d__law_workings : Df K mg "_law_workings" s__law_workings [] f__law_workings fd__law_workings) (G__law_workings : FnOk P w K mg base CX0 1 f__law_workings fd__law_workings [] sp_works) {f__law_is_leaf : Addr} {fd__law_is_leaf : FuncData} (d__law_is_leaf : Df K mg "_law_is_leaf" s__law_is_leaf ["_law_word"] f__law_is_leaf fd__law_is_leaf) (G__law_is_leaf : FnOk P w K mg base CX0 1 f__law_is_leaf fd__law_is_leaf ["_law_word"] sp_isleaf) (z_reversed : mg "reversed" = none) (z_len : mg "len" = none) (z_max : mg "max" = none) : FnOk P w K mg base CX0 2 f fd ["_law_text"] sp_stands := by
  refine F.ok sc__law_stands (fun vs H Q E h => ?_) (fun cdv A outer s H vs Q E hr h => ?_)
  · obtain ⟨z, rfl, _⟩ := h
    rfl
  obtain ⟨z, rfl, hz, hl, ho, q⟩ := h
  refine ⟨_, (@pss_cons _ _ _ _ _ (@ps_set _ _ 1 _ _ _ _ sc__law_stands.nd rfl (Or.inl rfl) (@pe_lstN _ _ _ _ pa_nil) (by rfl) (by first | exact .inl rfl | exact .inr rfl))
    (@pss_cons _ _ _ _ _ (@ps_for _ _ _ _ _ _ _ _ PassesOwn.never rfl (pi_backK (K := K) rfl rfl z_reversed (@pa_cons _ _ _ _ _ (pe_bmK (K := K) rfl PySem.F.plainAttrs_str PySem.F.slot_str_split PySem.F.type_str_split mt_split (pv 0) (@pa_cons _ _ _ _ _ pe_str pa_nil (by rfl))) pa_nil (by rfl))) (pg_name (i := 2) sc__law_stands.nd rfl (Or.inl rfl))
      (@pss_one _ _ _ (@ps_if _ _ _ _ _ _ _ _ (PW.pt (pw_and (pt_cmpR op_eq (pv 2) pe_str (nomark _)) (pw_and1 (pt_cmpR op_gt (pe_callB (call_len_seqK (K := K) rfl) rfl z_len PySem.boot_len (@pa_cons _ _ _ _ _ (pv 1) pa_nil (by rfl))) pe_int (nomark _)))))
      (@pss_one _ _ _ (@ps_expr _ _ _ _ (pe_bmK (K := K) rfl PySem.F.plainAttrs_list PySem.F.slot_list_append PySem.F.type_list_append mt_append (pv 1) (@pa_cons _ _ _ _ _ (@pe_op _ _ _ _ _ _ _ _ op_add (pe_bm0K (K := K) rfl PySem.F.plainAttrs_list PySem.F.slot_list_pop PySem.F.type_list_pop mt_pop (pv 1)) pe_int) pa_nil (by rfl))) (by rfl)))
      (@pss_one _ _ _ (@ps_if _ _ _ _ _ _ _ _ (PW.pt (pw_and (pt_cmpR (op_in_seqK (K := K) rfl) (pv 2) (pe_call0 (G__law_workings.mono (by decide)) hr rfl d__law_workings.m d__law_workings.fn.kp d__law_workings.b .nil pass0) (by first | rfl | with_unfolding_all rfl)) (pw_and1 (pt_cmpR op_gt (pe_callB (call_len_seqK (K := K) rfl) rfl z_len PySem.boot_len (@pa_cons _ _ _ _ _ (pv 1) pa_nil (by rfl))) pe_int (nomark _)))))
      (@pss_cons _ _ _ _ _ (@ps_set _ _ 3 _ _ _ _ sc__law_stands.nd rfl (Or.inl rfl) (pe_bm0K (K := K) rfl PySem.F.plainAttrs_list PySem.F.slot_list_pop PySem.F.type_list_pop mt_pop (pv 1)) (by rfl) (by first | exact .inl rfl | exact .inr rfl))
    (@pss_one _ _ _ (@ps_expr _ _ _ _ (pe_bmK (K := K) rfl PySem.F.plainAttrs_list PySem.F.slot_list_append PySem.F.type_list_append mt_append (pv 1) (@pa_cons _ _ _ _ _ (@pe_op _ _ _ _ _ _ _ _ op_add (pe_callB (call_max2 rfl) rfl z_max boot_max (@pa_cons _ _ _ _ _ (pv 3) (@pa_cons _ _ _ _ _ (pe_bm0K (K := K) rfl PySem.F.plainAttrs_list PySem.F.slot_list_pop PySem.F.type_list_pop mt_pop (pv 1)) pa_nil (by rfl)) (by rfl))) pe_int) pa_nil (by rfl))) (by rfl))))
      (@pss_one _ _ _ (@ps_if _ _ _ _ _ _ _ _ (pt_val (pe_call (G__law_is_leaf.mono (by decide)) hr rfl d__law_is_leaf.m d__law_is_leaf.fn.kp d__law_is_leaf.b .nil pass0 (@pa_cons _ _ _ _ _ (pv 2) pa_nil (by rfl))))
      (@pss_one _ _ _ (@ps_expr _ _ _ _ (pe_bmK (K := K) rfl PySem.F.plainAttrs_list PySem.F.slot_list_append PySem.F.type_list_append mt_append (pv 1) (@pa_cons _ _ _ _ _ pe_int pa_nil (by rfl))) (by rfl)))
      (@pss_one _ _ _ (@ps_ret _ _ _ _ pe_bl)))))))) (by intro _; rfl))
    (@pss_one _ _ _ (@ps_ret _ _ _ _ (pe_and (pe_cmpR op_eq (pe_callB (call_len_seqK (K := K) rfl) rfl z_len PySem.boot_len (@pa_cons _ _ _ _ _ (pv 1) pa_nil (by rfl))) pe_int (nomark _)) (pe_one (pe_cmpR op_le (pe_ix (ix_listK (K := K) rfl) (pv 1) pe_int (fun _ _ => rfl)) pe_int (nomark _)))))))), ?_⟩
  refine seq_cut (fun σ' H1 => ∃ pd, Nw H H1 pd (.lst []) ∧ σ' = [some (V.str z), some (V.ref pd), none, none]) (fun N hN => ⟨by decide, fun pd H1 n1 => hN _ _ ⟨pd, n1, rfl⟩⟩) ?_
  rintro σ' H1 ⟨pd, n1, rfl⟩
  have big : ∀ st : List Nat, st.length ≤ 1000 → (stV st).length ≤ 1000 := fun st h => by rw [stV_len]; exact h
  refine seq_cut (fun σ' H3 => ∃ st u2 u3, stk (Txt.split z BL) = some st ∧ H3 pd = some (.lst (stV st)) ∧ Same H H3 ∧ σ' = [some (V.str z), some (V.ref pd), u2, u3]) (fun N hN => ?_) ?_
  · refine ⟨_, rfl, rfl, z, _, rfl, rfl, by decide +kernel, hz, fun pl H2 n2 => ⟨pl, _, rfl, SqL.of n2.2.2, ?_⟩⟩
    have n22 := n2.2.2
    have pne : pl ≠ pd := fun e => by
      have := n2.2.1
      rw [e, n1.2.2] at this
      cases this
    rw [bl_eq] at n22 ⊢
    generalize hus : Txt.split z BL = us at *
    refine for_back (fun i σ' H' => ∃ st u2 u3, stk (us.drop (us.length - i)) = some st ∧ H' pd = some (.lst (stV st)) ∧ Kp pd H2 H' ∧ σ' = [some (V.str z), some (V.ref pd), u2, u3]) ⟨[], none, none, by simp [stk], n2.1 _ _ n1.2.2, fun b o _ e => e, rfl⟩ (fun i σ' H' _ h => ?_) ?_ (fun σ' H' h => ?_)
    · obtain ⟨st, u2, u3, h1, h2, h3, h4⟩ := h
      exact SqL.of (h3 _ _ pne n22)
    · rintro i x σ' H3 hx ⟨st, u2, u3, h1, h2, h3, rfl⟩
      obtain ⟨w, rfl, hw, hd⟩ := rev_at hx
      have ow := ho w hw
      have sl := stk_len h1
      have sl2 : st.length ≤ 1000 := by
        rw [List.length_drop] at sl
        omega
      have fin : stk (us.drop (us.length - (i + 1))) = stp w (some st) := by rw [hd]; show stp w (stk _) = _; rw [h1]
      simp only [tSeq, tNext, tRet, tRetN, tIfS, tAsg, gName, gSub, tDrop, tVar, tC, tTest, tB, tOp, tUn, tChain, tAnd, tOr, tNot, tAndV, tOrV, tNotV, tIf, tNil, tCons, tTupN, tLstN, tCall, tCB, tBM, tBM0, tSl, tPart, tNoPart, rI, rI0, rU, rIxL, rIxT, rIxS, rSlTN, rSlLN, rCatN, rEq, rNe, rEqD, rIn, rMulS, rAppend, rLen, rLenS, rIsiT, rIsiL, rIsi, rIsiA, rIsiT, rIsi, rAll, rAny, rSw, rFind, rIntS, rSetL, L2.start, List.map_cons, List.map_nil, List.length_cons, List.length_nil, Nat.reduceAdd, Nat.reduceSub, List.replicate_succ, List.replicate_zero, List.cons_append, List.nil_append, List.append_nil, List.getElem?_cons_zero, List.getElem?_cons_succ, List.set_cons_zero, List.set_cons_succ, Option.some.injEq, exists_eq_left', exists_eq_left, V.int.injEq, V.bl.injEq, V.str.injEq, V.ref.injEq, List.cons.injEq, and_true, true_and, Nat.zero_add, exists_and_left, exists_const, sp_sign, sp_name, sp_read, sp_whole, sp_mixedD, sp_kept, sp_sg, sp_take, sp_text, sp_due, sp_right, sp_wide, tFld, sFld, sFldAug, tMeth, tMake, rAdd, rSplit, rJoin, sp_readG, sp_init, sp_over, sp_taken, sp_words, sp_end, sp_expr, sp_readE, sp_lname, sp_lnum, sp_leaf, sp_cell, sp_rightE, tRaise, sp_wordX, sp_endX, sp_exprX, sp_readX, sp_works, sp_gleaf, sp_isleaf, sp_stands, rPop]
      have dead : stp w (some st) = none → ∀ H', Kp pd H2 H' → Q (V.bl false) H' := fun hs H' k => by
        have := q H' (same_kp (n1.1.trans n2.1) n1.2.1 k)
        rw [stnd_dead (k := us.length - (i + 1)) (by rw [fin, hs])] at this
        exact this
      have wl : w.length ≤ 1000 := by
        have := ow.2
        omega
      by_cases hb : w = Str.ofString "box"
      · subst hb
        cases st with
        | nil => exact ⟨rfl, iteY (by simp) ⟨_, .inl (SqL.of h2), iteN (by simp [stV]) (fun p H' np => ⟨_, .inl (SqL.of np.2.2), rfl, work_flat, iteN (by decide +kernel) (iteN (by simp) ⟨wl, fun H4 g4 => iteN (by decide +kernel) (dead stp_box0 H4 (h3.trans (kp_same (np.1.trans g4))))⟩)⟩)⟩⟩
        | cons d r => exact ⟨rfl, iteY (by simp) ⟨_, .inl (SqL.of h2), iteY (by rw [stV_len]; simp <;> omega) ⟨tyL h2, tyL h2, _, h2, _, stV_last d r, (d : Int), rfl, _, upd_same, small1000 (by rw [stV_pop, stV_len]; simp at sl2; omega), (d + 1) :: r, by rw [fin, stp_box], by rw [upd_same, stV_pop, stV_cons]; rfl, kpu (kpu h3), _, rfl⟩⟩⟩
      · cases hw7 : w7of w with
        | none => exact ⟨rfl, iteN (by simpa using hb) (iteN (by simp) (fun p H' np => ⟨_, .inl (SqL.of np.2.2), rfl, work_flat, iteN (fun h => (work_iff w).mp (by simpa using h) hw7) (iteN (by simp) ⟨wl, fun H4 g4 => ite2 (fun c => ⟨tyL (g4 _ _ (np.1 _ _ h2)), _, g4 _ _ (np.1 _ _ h2), small1000 (big st sl2), 0 :: st, by rw [fin, stp_other hb hw7, if_pos (by simpa using c)], by rw [upd_same, stV_cons]; rfl, kpu (h3.trans (kp_same (np.1.trans g4))), _, rfl⟩) (fun c => dead (by rw [stp_other hb hw7, if_neg (by simpa using c)]) H4 (h3.trans (kp_same (np.1.trans g4))))⟩)⟩))⟩
        | some o =>
          obtain rfl := w7of_eq hw7
          have short : st.length ≤ 1 → _ := fun hs => dead (stp_op0 hs)
          match st, h1, h2, sl, sl2, fin, dead, short with
          | a :: b :: r, h1, h2, sl, sl2, fin, dead, short =>
            refine ⟨rfl, iteN (by simpa using hb) (iteN (by simp) (fun p H' np => ⟨_, .inl (SqL.of np.2.2), rfl, work_flat, iteY (by simpa using op_work o) ⟨_, .inl (SqL.of (np.1 _ _ h2)), iteY (by rw [stV_len]; simp <;> omega) ⟨tyL (np.1 _ _ h2), _, np.1 _ _ h2, _, stV_last a (b :: r), tyL upd_same, tyL upd_same, _, upd_same, _, by rw [stV_pop]; exact stV_last b r, (a : Int), (b : Int), ⟨rfl, rfl⟩, _, upd_same, small1000 (by rw [stV_pop, stV_pop, stV_len]; simp at sl2; omega), (max a b + 1) :: r, by rw [fin, stp_op], ?_, kpu (kpu (kpu (h3.trans (kp_same np.1)))), _, rfl⟩⟩⟩))⟩
            rw [upd_same, stV_pop, stV_pop, stV_cons]
            have e : (if (b : Int) > (a : Int) then (b : Int) else (a : Int)) + 1 = ((max a b + 1 : Nat) : Int) := by split <;> omega
            rw [e]
          | [a], h1, h2, sl, sl2, fin, dead, short =>
            exact ⟨rfl, iteN (by simpa using hb) (iteN (by simp) (fun p H' np => ⟨_, .inl (SqL.of np.2.2), rfl, work_flat, iteY (by simpa using op_work o) ⟨_, .inl (SqL.of (np.1 _ _ h2)), iteN (by simp [stV]) ⟨wl, fun H4 g4 => iteN (by simpa using op_no_leaf o) (short (by simp) H4 (h3.trans (kp_same (np.1.trans g4))))⟩⟩⟩))⟩
          | [], h1, h2, sl, sl2, fin, dead, short =>
            exact ⟨rfl, iteN (by simpa using hb) (iteN (by simp) (fun p H' np => ⟨_, .inl (SqL.of np.2.2), rfl, work_flat, iteY (by simpa using op_work o) ⟨_, .inl (SqL.of (np.1 _ _ h2)), iteN (by simp [stV]) ⟨wl, fun H4 g4 => iteN (by simpa using op_no_leaf o) (short (by simp) H4 (h3.trans (kp_same (np.1.trans g4))))⟩⟩⟩))⟩
    · obtain ⟨st, u2, u3, h1, h2, h3, rfl⟩ := h
      rw [List.length_map, Nat.sub_self, List.drop_zero] at h1
      exact hN _ _ ⟨st, u2, u3, h1, h2, same_kp (n1.1.trans n2.1) n1.2.1 h3, rfl⟩
  rintro σ' H3 ⟨st, u2, u3, h1, h2, h3, rfl⟩
  simp only [tSeq, tNext, tRet, tRetN, tIfS, tAsg, gName, gSub, tDrop, tVar, tC, tTest, tB, tOp, tUn, tChain, tAnd, tOr, tNot, tAndV, tOrV, tNotV, tIf, tNil, tCons, tTupN, tLstN, tCall, tCB, tBM, tBM0, tSl, tPart, tNoPart, rI, rI0, rU, rIxL, rIxT, rIxS, rSlTN, rSlLN, rCatN, rEq, rNe, rEqD, rIn, rMulS, rAppend, rLen, rLenS, rIsiT, rIsiL, rIsi, rIsiA, rIsiT, rIsi, rAll, rAny, rSw, rFind, rIntS, rSetL, L2.start, List.map_cons, List.map_nil, List.length_cons, List.length_nil, Nat.reduceAdd, Nat.reduceSub, List.replicate_succ, List.replicate_zero, List.cons_append, List.nil_append, List.append_nil, List.getElem?_cons_zero, List.getElem?_cons_succ, List.set_cons_zero, List.set_cons_succ, Option.some.injEq, exists_eq_left', exists_eq_left, V.int.injEq, V.bl.injEq, V.str.injEq, V.ref.injEq, List.cons.injEq, and_true, true_and, Nat.zero_add, exists_and_left, exists_const, sp_sign, sp_name, sp_read, sp_whole, sp_mixedD, sp_kept, sp_sg, sp_take, sp_text, sp_due, sp_right, sp_wide, tFld, sFld, sFldAug, tMeth, tMake, rAdd, rSplit, rJoin, sp_readG, sp_init, sp_over, sp_taken, sp_words, sp_end, sp_expr, sp_readE, sp_lname, sp_lnum, sp_leaf, sp_cell, sp_rightE, tRaise, sp_wordX, sp_endX, sp_exprX, sp_readX, sp_works, sp_gleaf, sp_isleaf, sp_stands, rPop]
  match st, h1, h2 with
  | [], h1, h2 =>
    have e : stnd (Txt.split z BL) = false := by unfold stnd; rw [h1]
    rw [e] at q
    exact ⟨_, .inl (SqL.of h2), rfl, iteN (by simp [stV]) (q _ h3)⟩
  | [k], h1, h2 =>
    have e : stnd (Txt.split z BL) = decide ((k : Int) ≤ 6) := by
      unfold stnd
      rw [h1]
      exact decide_eq_decide.mpr (by omega)
    rw [e] at q
    exact ⟨_, .inl (SqL.of h2), rfl, iteY (by simp [stV]) ⟨_, SqL.of h2, _, at0 _ _, (k : Int), rfl, q _ h3⟩⟩
  | a :: b :: r, h1, h2 =>
    have e : stnd (Txt.split z BL) = false := by unfold stnd; rw [h1]
    rw [e] at q
    exact ⟨_, .inl (SqL.of h2), rfl, iteN (by rw [stV_len]; simp <;> omega) (q _ h3)⟩
end
theorem sc__law_kinds_of : FnScope ["_law_text", "_law_kinds", "e"] ["_law_text"] (defScope s__law_kinds_of) := ⟨rfl, rfl, rfl, by decide +kernel, rfl, by decide +kernel, by decide +kernel⟩
section
variable {P : Program} {w : World} {K : PySem.W.Frag} {mg : Str → Option Value} {base : Heap} {c_NoLine : Addr} {c_Walk : Addr}
set_option maxHeartbeats 4000000 in
theorem ok__law_kinds_of {f : Addr} {fd : FuncData} (F : Fun K "_law_kinds_of" "_law_kinds_of" s__law_kinds_of f fd) {f_read_expression : Addr} {fd_read_expression : FuncData} (d_read_expression : Df K mg "read_expression" s_read_expression ["text"] f_read_expression fd_read_expression) (G_read_expression : FnOk P w K mg base (CXx P w) 11 f_read_expression fd_read_expression ["text"] (sp_readX K c_NoLine)) (z_isinstance : mg "isinstance" = none) (z_ValueError : mg "ValueError" = none) {c_LaneError : Addr} (m_LaneError : mg "LaneError" = some (.ref c_LaneError)) {c_NoHead : Addr} (m_NoHead : mg "NoHead" = some (.ref c_NoHead)) {c_Waits : Addr} (m_Waits : mg "Waits" = some (.ref c_Waits)) {c_NoName : Addr} (m_NoName : mg "NoName" = some (.ref c_NoName)) {c_NoNest : Addr} (m_NoNest : mg "NoNest" = some (.ref c_NoNest)) {c_TooMuch : Addr} (m_TooMuch : mg "TooMuch" = some (.ref c_TooMuch)) (m_NoLine : mg "NoLine" = some (.ref c_NoLine)) (i_NoLine : XIs2 K c_NoLine) (y1 : PySem.W.exmOne K (.ref c_NoLine) (.ref c_LaneError) = some true) (y2 : PySem.W.kitOne K (.ref c_NoLine) (.type "ValueError") = some true) (y_NoLine : PySem.W.kitOne K (.ref c_NoLine) (.ref c_NoLine) = some true) (y_TooMuch : PySem.W.kitOne K (.ref c_NoLine) (.ref c_TooMuch) = some false) (y_NoNest : PySem.W.kitOne K (.ref c_NoLine) (.ref c_NoNest) = some false) (y_NoName : PySem.W.kitOne K (.ref c_NoLine) (.ref c_NoName) = some false) (y_Waits : PySem.W.kitOne K (.ref c_NoLine) (.ref c_Waits) = some false) (y_NoHead : PySem.W.kitOne K (.ref c_NoLine) (.ref c_NoHead) = some false) : FnOk P w K mg base CX0 12 f fd ["_law_text"] sp_kindsX := by
  refine F.ok sc__law_kinds_of (fun vs H Q E h => ?_) (fun cdv A outer s H vs Q E hr h => ?_)
  · obtain ⟨z, rfl, _⟩ := h
    rfl
  obtain ⟨z, rfl, hz, hl, ho, hn, q⟩ := h
  refine ⟨_, (@pss_cons _ _ _ _ _ (@ps_set _ _ 1 _ _ _ _ sc__law_kinds_of.nd rfl (Or.inl rfl) (@pe_lstN _ _ _ _ pa_nil) (by rfl) (by first | exact .inl rfl | exact .inr rfl))
    (@pss_cons _ _ _ _ _ (ps_tryAs (E1 := (fun cls _ H' => cls = .ref c_NoLine ∧ Same H H')) rfl rfl rfl rfl m_LaneError sc__law_kinds_of.nd (j := 2) rfl rfl (fun pn Xe hp => (@pss_one _ _ _ (@ps_expr _ _ _ _ (pe_call (G_read_expression.mono (by decide)) hr rfl d_read_expression.m d_read_expression.fn.kp d_read_expression.b .nil hp (@pa_cons _ _ _ _ _ (pv 0) pa_nil (by rfl))) (by rfl)))) (fun ea => (@pss_one _ _ _ (@ps_set _ _ 1 _ _ _ _ sc__law_kinds_of.nd rfl (Or.inl rfl) (@pe_lstN _ _ _ _ (@pa_cons _ _ _ _ _ (pe_callB (call_isiE (K := K) rfl) rfl z_isinstance boot_isinstance (@pa_cons _ _ _ _ _ (pv 2) (@pa_cons _ _ _ _ _ (pe_bltn (v := .ty "ValueError") rfl z_ValueError (by decide +kernel) rfl) pa_nil (by rfl)) (by rfl))) (@pa_cons _ _ _ _ _ (pe_callB (call_isiE (K := K) rfl) rfl z_isinstance boot_isinstance (@pa_cons _ _ _ _ _ (pv 2) (@pa_cons _ _ _ _ _ (pe_glob (v := .ref c_NoLine) rfl m_NoLine rfl) pa_nil (by rfl)) (by rfl))) (@pa_cons _ _ _ _ _ (pe_callB (call_isiE (K := K) rfl) rfl z_isinstance boot_isinstance (@pa_cons _ _ _ _ _ (pv 2) (@pa_cons _ _ _ _ _ (pe_glob (v := .ref c_TooMuch) rfl m_TooMuch rfl) pa_nil (by rfl)) (by rfl))) (@pa_cons _ _ _ _ _ (pe_callB (call_isiE (K := K) rfl) rfl z_isinstance boot_isinstance (@pa_cons _ _ _ _ _ (pv 2) (@pa_cons _ _ _ _ _ (pe_glob (v := .ref c_NoNest) rfl m_NoNest rfl) pa_nil (by rfl)) (by rfl))) (@pa_cons _ _ _ _ _ (pe_callB (call_isiE (K := K) rfl) rfl z_isinstance boot_isinstance (@pa_cons _ _ _ _ _ (pv 2) (@pa_cons _ _ _ _ _ (pe_glob (v := .ref c_NoName) rfl m_NoName rfl) pa_nil (by rfl)) (by rfl))) (@pa_cons _ _ _ _ _ (pe_callB (call_isiE (K := K) rfl) rfl z_isinstance boot_isinstance (@pa_cons _ _ _ _ _ (pv 2) (@pa_cons _ _ _ _ _ (pe_glob (v := .ref c_Waits) rfl m_Waits rfl) pa_nil (by rfl)) (by rfl))) (@pa_cons _ _ _ _ _ (pe_callB (call_isiE (K := K) rfl) rfl z_isinstance boot_isinstance (@pa_cons _ _ _ _ _ (pv 2) (@pa_cons _ _ _ _ _ (pe_glob (v := .ref c_NoHead) rfl m_NoHead rfl) pa_nil (by rfl)) (by rfl))) pa_nil (by rfl)) (by rfl)) (by rfl)) (by rfl)) (by rfl)) (by rfl)) (by rfl))) (by rfl) (by first | exact .inl rfl | exact .inr rfl)))))
    (@pss_one _ _ _ (@ps_ret _ _ _ _ (pv 1))))), ?_⟩
  simp only [tSeq, tNext, tRet, tRetN, tIfS, tAsg, gName, gSub, tDrop, tVar, tC, tTest, tB, tOp, tUn, tChain, tAnd, tOr, tNot, tAndV, tOrV, tNotV, tIf, tNil, tCons, tTupN, tLstN, tCall, tCB, tBM, tBM0, tSl, tPart, tNoPart, rI, rI0, rU, rIxL, rIxT, rIxS, rSlTN, rSlLN, rCatN, rEq, rNe, rEqD, rIn, rMulS, rAppend, rLen, rLenS, rIsiT, rIsiL, rIsi, rIsiE, rAll, rAny, rSw, rFind, rIntS, rSetL, tRaise, L2.start, List.map_cons, List.map_nil, List.length_cons, List.length_nil, Nat.reduceAdd, Nat.reduceSub, List.replicate_succ, List.replicate_zero, List.cons_append, List.nil_append, List.append_nil, List.getElem?_cons_zero, List.getElem?_cons_succ, List.set_cons_zero, List.set_cons_succ, Option.some.injEq, exists_eq_left', exists_eq_left, V.int.injEq, V.bl.injEq, V.str.injEq, V.ref.injEq, List.cons.injEq, and_true, true_and, Nat.zero_add, exists_and_left, exists_const, sp_sign, sp_name, sp_read, sp_whole, sp_mixed, sp_kept, sp_sg, sp_take, sp_text, sp_due, sp_kinds, sp_right]
  refine ⟨Nat.zero_le _, fun p H1 n1 => ⟨fun cls ea H2 hE hea => ?_, ?_⟩⟩
  · obtain ⟨rfl, g⟩ := hE
    refine ⟨y1, ?_⟩
    refine ⟨_, rfl, ea, c_NoLine, _, .type "ValueError", true, rfl, upd_same, i_NoLine, fun u r => r, y2, _, rfl, ea, c_NoLine, _, .ref c_NoLine, true, rfl, upd_same, i_NoLine, fun u r => r, y_NoLine, _, rfl, ea, c_NoLine, _, .ref c_TooMuch, false, rfl, upd_same, i_NoLine, fun u r => r, y_TooMuch, _, rfl, ea, c_NoLine, _, .ref c_NoNest, false, rfl, upd_same, i_NoLine, fun u r => r, y_NoNest, _, rfl, ea, c_NoLine, _, .ref c_NoName, false, rfl, upd_same, i_NoLine, fun u r => r, y_NoName, _, rfl, ea, c_NoLine, _, .ref c_Waits, false, rfl, upd_same, i_NoLine, fun u r => r, y_Waits, _, rfl, ea, c_NoLine, _, .ref c_NoHead, false, rfl, upd_same, i_NoLine, fun u r => r, y_NoHead, by decide, fun p3 H3 n3 => ?_⟩
    exact ⟨_, rfl, q p3 H3 (g.trans ((same_new hea _).trans n3.1)) n3.2.2⟩
  · exact ⟨_, rfl, z, rfl, hz, hl, ho, (fun e h => absurd h (hn e)), fun _ H' g => ⟨rfl, n1.1.trans g⟩⟩
end
theorem sc__law_right : FnScope ["_law_text", "_law_found"] ["_law_text"] (defScope s__law_right) := ⟨rfl, rfl, rfl, by decide +kernel, rfl, by decide +kernel, by decide +kernel⟩
section
variable {P : Program} {w : World} {K : PySem.W.Frag} {mg : Str → Option Value} {base : Heap} {c_NoLine : Addr} {c_Walk : Addr}
set_option maxHeartbeats 4000000 in
theorem ok__law_right {f : Addr} {fd : FuncData} (F : Fun K "_law_right" "_law_right" s__law_right f fd) {f__law_stands : Addr} {fd__law_stands : FuncData} (d__law_stands : Df K mg "_law_stands" s__law_stands ["_law_text"] f__law_stands fd__law_stands) (G__law_stands : FnOk P w K mg base CX0 2 f__law_stands fd__law_stands ["_law_text"] sp_stands) {f__law_kinds_of : Addr} {fd__law_kinds_of : FuncData} (d__law_kinds_of : Df K mg "_law_kinds_of" s__law_kinds_of ["_law_text"] f__law_kinds_of fd__law_kinds_of) (G__law_kinds_of : FnOk P w K mg base CX0 12 f__law_kinds_of fd__law_kinds_of ["_law_text"] sp_kindsX) {f_shown_expression : Addr} {fd_shown_expression : FuncData} (d_shown_expression : Df K mg "shown_expression" s_shown_expression ["expression"] f_shown_expression fd_shown_expression) (G_shown_expression : FnOk P w K mg base CX0 7 f_shown_expression fd_shown_expression ["expression"] (sp_shown K 7)) {f_read_expression : Addr} {fd_read_expression : FuncData} (d_read_expression : Df K mg "read_expression" s_read_expression ["text"] f_read_expression fd_read_expression) (G_read_expression : FnOk P w K mg base (CXx P w) 11 f_read_expression fd_read_expression ["text"] (sp_readX K c_NoLine)) (z_isinstance : mg "isinstance" = none) (z_str : mg "str" = none) : FnOk P w K mg base CX0 13 f fd ["_law_text"] sp_rightX := by
  refine F.ok sc__law_right (fun vs H Q E h => ?_) (fun cdv A outer s H vs Q E hr h => ?_)
  · obtain ⟨us, rfl, _⟩ := h
    rfl
  obtain ⟨us, rfl, hz, hs, hl, ho, hf, q⟩ := h
  refine ⟨_, (@pss_cons _ _ _ _ _ (@ps_if _ _ _ _ _ _ _ _ (pt_not (pt_val (pe_call (G__law_stands.mono (by decide)) hr rfl d__law_stands.m d__law_stands.fn.kp d__law_stands.b .nil pass0 (@pa_cons _ _ _ _ _ (pv 0) pa_nil (by rfl)))))
      (@pss_one _ _ _ (@ps_ret _ _ _ _ (pe_cmpR (op_eqDK (K := K) rfl hr.units) (pe_call (G__law_kinds_of.mono (by decide)) hr rfl d__law_kinds_of.m d__law_kinds_of.fn.kp d__law_kinds_of.b .nil pass0 (@pa_cons _ _ _ _ _ (pv 0) pa_nil (by rfl))) (@pe_lstN _ _ _ _ (@pa_cons _ _ _ _ _ pe_bl (@pa_cons _ _ _ _ _ pe_bl (@pa_cons _ _ _ _ _ pe_bl (@pa_cons _ _ _ _ _ pe_bl (@pa_cons _ _ _ _ _ pe_bl (@pa_cons _ _ _ _ _ pe_bl (@pa_cons _ _ _ _ _ pe_bl pa_nil (by rfl)) (by rfl)) (by rfl)) (by rfl)) (by rfl)) (by rfl)) (by rfl))) (nomark _))))
      pss_nil)
    (@pss_cons _ _ _ _ _ (@ps_set _ _ 1 _ _ _ _ sc__law_right.nd rfl (Or.inl rfl) (pe_call (G_shown_expression.mono (by decide)) hr rfl d_shown_expression.m d_shown_expression.fn.kp d_shown_expression.b .nil pass0 (@pa_cons _ _ _ _ _ (pe_call (G_read_expression.mono (by decide)) hr rfl d_read_expression.m d_read_expression.fn.kp d_read_expression.b .nil passN (@pa_cons _ _ _ _ _ (pv 0) pa_nil (by rfl))) pa_nil (by rfl))) (by rfl) (by first | exact .inl rfl | exact .inr rfl))
    (@pss_one _ _ _ (@ps_ret _ _ _ _ (pe_and (pe_callB call_isiK rfl z_isinstance boot_isinstance (@pa_cons _ _ _ _ _ (pv 1) (@pa_cons _ _ _ _ _ (pe_bltn (v := .ty "str") rfl z_str boot_str rfl) pa_nil (by rfl)) (by rfl))) (pe_one (pe_cmpR op_eq (pv 1) (pv 0) (nomark _)))))))), ?_⟩
  refine seq_cut (fun σ' H1 => Same H H1 ∧ σ' = [some (V.str (Str.join BL us)), none] ∧ stnd us = true) (fun N hN => ⟨_, rfl, _, rfl, hz, by rw [hs]; exact hl, by rw [hs]; exact ho, fun H1 g1 => ⟨_, rfl, ?_⟩⟩) ?_
  · rw [hs]
    cases hst : stnd us with
    | true => exact iteN (by simp) (hN _ _ ⟨g1, rfl, hst⟩)
    | false =>
      refine iteY rfl ?_
      simp only [tSeq, tNext, tRet, tRetN, tIfS, tAsg, gName, gSub, tDrop, tVar, tC, tTest, tB, tOp, tUn, tChain, tAnd, tOr, tNot, tAndV, tOrV, tNotV, tIf, tNil, tCons, tTupN, tLstN, tCall, tCB, tBM, tBM0, tSl, tPart, tNoPart, rI, rI0, rU, rIxL, rIxT, rIxS, rSlTN, rSlLN, rCatN, rEq, rNe, rEqD, rIn, rMulS, rAppend, rLen, rLenS, rIsiT, rIsiL, rIsi, rIsiA, rIsiT, rIsi, rAll, rAny, rSw, rFind, rIntS, rSetL, L2.start, List.map_cons, List.map_nil, List.length_cons, List.length_nil, Nat.reduceAdd, Nat.reduceSub, List.replicate_succ, List.replicate_zero, List.cons_append, List.nil_append, List.append_nil, List.getElem?_cons_zero, List.getElem?_cons_succ, List.set_cons_zero, List.set_cons_succ, Option.some.injEq, exists_eq_left', exists_eq_left, V.int.injEq, V.bl.injEq, V.str.injEq, V.ref.injEq, List.cons.injEq, and_true, true_and, Nat.zero_add, exists_and_left, exists_const, sp_sign, sp_name, sp_read, sp_whole, sp_mixedD, sp_kept, sp_sg, sp_take, sp_text, sp_due, sp_right, sp_wide, tFld, sFld, sFldAug, tMeth, tMake, rAdd, rSplit, rJoin, sp_readG, sp_init, sp_over, sp_taken, sp_words, sp_end, sp_expr, sp_readE, sp_lname, sp_lnum, sp_leaf, sp_cell, sp_rightE, tRaise, sp_wordX, sp_endX, sp_exprX, sp_readX, sp_works, sp_gleaf, sp_isleaf, sp_stands, sp_kindsX, sp_rightX]
      refine ⟨hz, by rw [hs]; exact hl, by rw [hs]; exact ho, by rw [hs]; exact stnd_no hf hst, fun p H2 g2 hp => ⟨by decide, fun p1 H3 n3 => ⟨_, dp_kinds (n3.1 _ _ hp), _, dp_kinds n3.2.2, by decide, by decide, by decide, ?_⟩⟩⟩
      exact q _ (g1.trans (g2.trans n3.1))
  rintro σ' H1 ⟨g1, rfl, hst⟩
  obtain ⟨e, eu, ok, dp, pr⟩ := stnd_yes hst
  refine seq_cut (fun σ' H2 => Same H1 H2 ∧ σ' = [some (V.str (Str.join BL us)), some (V.str e.tx)]) (fun N hN => ⟨_, rfl, _, rfl, hz, by rw [hs]; exact hl, by rw [hs]; exact ho, fun e2 h2 v H2 g2 dv => ?_, fun h => absurd pr (by rw [← hs]; exact h e)⟩) ?_
  · rw [hs, pr] at h2
    cases h2
    exact ⟨v, e, rfl, dv, ok, dp, dp, fun H3 g3 => hN _ _ ⟨g2.trans g3, rfl⟩⟩
  rintro σ' H2 ⟨g2, rfl⟩
  have et : e.tx = Str.join BL us := by rw [eu]; rfl
  rw [et]
  simp only [tSeq, tNext, tRet, tRetN, tIfS, tAsg, gName, gSub, tDrop, tVar, tC, tTest, tB, tOp, tUn, tChain, tAnd, tOr, tNot, tAndV, tOrV, tNotV, tIf, tNil, tCons, tTupN, tLstN, tCall, tCB, tBM, tBM0, tSl, tPart, tNoPart, rI, rI0, rU, rIxL, rIxT, rIxS, rSlTN, rSlLN, rCatN, rEq, rNe, rEqD, rIn, rMulS, rAppend, rLen, rLenS, rIsiT, rIsiL, rIsi, rIsiA, rIsiT, rIsi, rAll, rAny, rSw, rFind, rIntS, rSetL, L2.start, List.map_cons, List.map_nil, List.length_cons, List.length_nil, Nat.reduceAdd, Nat.reduceSub, List.replicate_succ, List.replicate_zero, List.cons_append, List.nil_append, List.append_nil, List.getElem?_cons_zero, List.getElem?_cons_succ, List.set_cons_zero, List.set_cons_succ, Option.some.injEq, exists_eq_left', exists_eq_left, V.int.injEq, V.bl.injEq, V.str.injEq, V.ref.injEq, List.cons.injEq, and_true, true_and, Nat.zero_add, exists_and_left, exists_const, sp_sign, sp_name, sp_read, sp_whole, sp_mixedD, sp_kept, sp_sg, sp_take, sp_text, sp_due, sp_right, sp_wide, tFld, sFld, sFldAug, tMeth, tMake, rAdd, rSplit, rJoin, sp_readG, sp_init, sp_over, sp_taken, sp_words, sp_end, sp_expr, sp_readE, sp_lname, sp_lnum, sp_leaf, sp_cell, sp_rightE, tRaise, sp_wordX, sp_endX, sp_exprX, sp_readX, sp_works, sp_gleaf, sp_isleaf, sp_stands, sp_kindsX, sp_rightX]
  exact ⟨_, _, ⟨rfl, rfl⟩, true, rfl, iteY rfl ⟨rfl, by simpa using q _ (g1.trans g2)⟩⟩
end
theorem num_no {z : Str} {c : Nat} (hc : c ∈ z.cps.toList) (h1 : isF c = false) (h2 : c ≠ 45) : numOk z = false := by
  cases h : numOk z with
  | false => rfl
  | true =>
    exfalso
    obtain ⟨_, _, h3, _⟩ := numOk_parts h
    have hm : c ∈ figs z := by
      unfold figs
      split
      · rename_i hn
        unfold negs at hn
        cases e : z.cps.toList with
        | nil => rw [e] at hc; cases hc
        | cons a r =>
          rw [e] at hc hn
          rcases List.mem_cons.mp hc with rfl | hc
          · exact absurd (by simpa using hn) h2
          · exact hc
      · exact hc
    have := List.all_eq_true.mp h3 c hm
    rw [h1] at this
    cases this
theorem name_no {z : Str} {c : Nat} (hc : c ∈ z.cps.toList) (h : isL c = false) : nameOk z = false := by
  cases hh : nameOk z with
  | false => rfl
  | true =>
    exfalso
    unfold nameOk at hh
    simp only [Bool.and_eq_true] at hh
    have := List.all_eq_true.mp hh.2 c hc
    rw [h] at this
    cases this
theorem lets_toJ {z : Str} (h : Lets z) {j : Int} (h0 : 0 ≤ j) : Lets (Txt.slice z none (some j)) ∧ (Txt.slice z none (some j)).length = min j.toNat z.length := by
  obtain ⟨k, rfl⟩ : ∃ k : Nat, j = k := ⟨j.toNat, by omega⟩
  have e : (Txt.slice z none (some (k : Int))).cps.toList = z.cps.toList.take k := slice_to z k
  constructor
  · unfold Lets at *
    rw [e, List.all_eq_true]
    intro c hc
    exact List.all_eq_true.mp h c (List.mem_of_mem_take hc)
  · rw [← L2.len_list, e, List.length_take, L2.len_list]
    rfl
theorem fix_short : ∀ x ∈ fixW, x.length ≤ 5 ∧ ∀ c ∈ x.cps.toList, ¬ (65 ≤ c ∧ c ≤ 90) := by
  have h : (fixW.all fun x => decide (x.length ≤ 5) && x.cps.toList.all fun c => !(decide (65 ≤ c) && decide (c ≤ 90))) = true := by decide +kernel
  intro x hx
  have := List.all_eq_true.mp h x hx
  simp only [Bool.and_eq_true, decide_eq_true_eq, List.all_eq_true, Bool.not_eq_true', Bool.and_eq_false_iff, decide_eq_false_iff_not] at this
  refine ⟨this.1, fun c hc h2 => ?_⟩
  rcases this.2 c hc with h3 | h3
  · exact h3 h2.1
  · exact h3 h2.2
theorem let_odd {c : Nat} (h : isL c = true) : isF c = false ∧ c ≠ 45 := by
  unfold isL at h
  unfold isF
  simp only [Bool.and_eq_true, decide_eq_true_eq] at h
  refine ⟨?_, by omega⟩
  simp only [Bool.and_eq_false_iff, decide_eq_false_iff_not]
  omega
theorem nb_long {z : Str} (h : Lets z) (h9 : 9 ≤ z.length) (h12 : z.length ≤ 20) : NB z := by
  have a := let_asc h
  refine nb_gen ⟨a.1, h12, a.2⟩ (fun x hx e => ?_) (name_no8 (by omega)) ?_
  · have := (fix_short x hx).1
    rw [← e] at this
    omega
  · cases e : z.cps.toList with
    | nil =>
      have := L2.len_list z
      rw [e] at this
      simp at this
      omega
    | cons c r =>
      have hc : c ∈ z.cps.toList := by rw [e]; simp
      have := let_odd (List.all_eq_true.mp h c hc)
      exact num_no hc this.1 this.2
theorem nb_great {x y : Str} {g : Nat} (hx : Lets x) (hy : Lets y) (g0 : 65 ≤ g) (g1 : g ≤ 90) (lx : x.length ≤ 5) (ly : y.length ≤ 5) : NB (x ++ ⟨#[g]⟩ ++ y) := by
  have ec : (x ++ ⟨#[g]⟩ ++ y : Str).cps.toList = x.cps.toList ++ [g] ++ y.cps.toList := by
    show ((x.cps ++ #[g]) ++ y.cps).toList = _
    rw [Array.toList_append, Array.toList_append]
  have hg : g ∈ (x ++ ⟨#[g]⟩ ++ y : Str).cps.toList := by rw [ec]; simp
  have ax := let_asc hx
  have ay := let_asc hy
  refine nb_gen ⟨asc_iff.mpr fun c hc => ?_, by rw [len_app, len_app, len_one]; omega, fun hc => ?_⟩ (fun w hw e => (fix_short w hw).2 g (e ▸ hg) ⟨g0, g1⟩) (name_no hg ?_) (num_no hg ?_ (by omega))
  · rw [ec] at hc
    rcases List.mem_append.mp hc with h | h
    · rcases List.mem_append.mp h with h | h
      · exact asc_iff.mp ax.1 c h
      · rw [List.mem_singleton.mp h]; omega
    · exact asc_iff.mp ay.1 c h
  · rw [ec] at hc
    rcases List.mem_append.mp hc with h | h
    · rcases List.mem_append.mp h with h | h
      · exact ax.2 h
      · have := List.mem_singleton.mp h; omega
    · exact ay.2 h
  · unfold isL
    simp only [Bool.and_eq_false_iff, decide_eq_false_iff_not]
    omega
  · unfold isF
    simp only [Bool.and_eq_false_iff, decide_eq_false_iff_not]
    omega
theorem mul4 {z : Str} (h : Lets z) : Lets (Txt.mul z 4) ∧ (Txt.mul z 4).length = 4 * z.length := by
  have e : (Txt.mul z 4).cps.toList = z.cps.toList ++ z.cps.toList ++ z.cps.toList ++ z.cps.toList := by
    unfold Txt.mul
    split
    · rename_i h0
      exfalso
      revert h0
      decide
    · split
      · rename_i h1
        have h2 : z.length = 0 := by simpa using h1
        have h3 : z.cps.toList = [] := List.length_eq_zero_iff.mp (by rw [L2.len_list]; exact h2)
        rw [h3]
        rfl
      · show ((List.replicate 4 z.cps).foldl (· ++ ·) #[]).toList = _
        simp [List.replicate]
  constructor
  · unfold Lets at *
    rw [e]
    simp only [List.all_append, h, Bool.and_self]
  · rw [← L2.len_list, e]
    simp only [List.length_append, L2.len_list]
    omega
theorem great_at {m : Int} (h0 : 0 ≤ m) (h1 : m < 26) : ∃ g, atI (Str.ofString "ABCDEFGHIJKLMNOPQRSTUVWXYZ").cps.toList m = some g ∧ 65 ≤ g ∧ g ≤ 90 := by
  have hl : (Str.ofString "ABCDEFGHIJKLMNOPQRSTUVWXYZ").cps.toList.length = 26 := by decide +kernel
  have ha : ((Str.ofString "ABCDEFGHIJKLMNOPQRSTUVWXYZ").cps.toList.all fun c => decide (65 ≤ c) && decide (c ≤ 90)) = true := by decide +kernel
  obtain ⟨g, hg⟩ := at_ok (xs := (Str.ofString "ABCDEFGHIJKLMNOPQRSTUVWXYZ").cps.toList) h0 (by rw [hl]; exact h1)
  have := List.all_eq_true.mp ha g (at_mem hg)
  simp only [Bool.and_eq_true, decide_eq_true_eq] at this
  exact ⟨g, hg, this.1, this.2⟩
theorem log_lt {j : Int} (h0 : 0 ≤ j) (h1 : j < 1000) : j.natAbs.log2 < 1920 := by
  by_cases h : j.natAbs = 0
  · rw [h]
    decide
  · exact (Nat.log2_lt h).mpr (Nat.lt_of_lt_of_le (show j.natAbs < 2 ^ 10 by omega) (Nat.pow_le_pow_right (by decide) (by decide)))
theorem str_len {j : Int} (h0 : 0 ≤ j) (h1 : j < 1000) : (Str.ofString (toString j)).length ≤ 3 := by
  have h : ((List.range 1000).all fun i => decide ((Str.ofString (toString (i : Int))).length ≤ 3)) = true := by decide +kernel
  obtain ⟨k, rfl⟩ : ∃ k : Nat, j = k := ⟨j.toNat, by omega⟩
  have := List.all_eq_true.mp h k (List.mem_range.mpr (by omega))
  simpa using this
theorem sc__law_no_word : FnScope ["_law_cell", "_law_number", "_law_letters", "_law_long", "_law_great", "_law_odd", "_law_kept"] ["_law_cell"] (defScope s__law_no_word) := ⟨rfl, rfl, rfl, by decide +kernel, rfl, by decide +kernel, by decide +kernel⟩
section
variable {P : Program} {w : World} {K : PySem.W.Frag} {mg : Str → Option Value} {base : Heap} {c_NoLine : Addr} {c_Walk : Addr}
set_option maxHeartbeats 4000000 in
theorem ok__law_no_word {f : Addr} {fd : FuncData} (F : Fun K "_law_no_word" "_law_no_word" s__law_no_word f fd) (z_str : mg "str" = none) : FnOk P w K mg base CX0 1 f fd ["_law_cell"] sp_noword := by
  refine F.ok sc__law_no_word (fun vs H Q E h => ?_) (fun cdv A outer s H vs Q E hr h => ?_)
  · obtain ⟨n, rfl, _⟩ := h
    rfl
  obtain ⟨n, rfl, hn, q⟩ := h
  refine ⟨_, (@pss_cons _ _ _ _ _ (@ps_set _ _ 1 _ _ _ _ sc__law_no_word.nd rfl (Or.inl rfl) (@pe_op _ _ _ _ _ _ _ _ op_fdivM (pv 0) pe_int) (by rfl) (by first | exact .inl rfl | exact .inr rfl))
    (@pss_cons _ _ _ _ _ (@ps_set _ _ 2 _ _ _ _ sc__law_no_word.nd rfl (Or.inl rfl) pe_str (by rfl) (by first | exact .inl rfl | exact .inr rfl))
    (@pss_cons _ _ _ _ _ (@ps_set _ _ 3 _ _ _ _ sc__law_no_word.nd rfl (Or.inl rfl) (@pe_op _ _ _ _ _ _ _ _ op_add_str (pe_ix ix_str (pv 2) (@pe_op _ _ _ _ _ _ _ _ op_modM (pv 1) pe_int) (fun _ _ => rfl)) (pe_ix ix_str (pv 2) (@pe_op _ _ _ _ _ _ _ _ op_modM (@pe_op _ _ _ _ _ _ _ _ op_fdivM (pv 1) pe_int) pe_int) (fun _ _ => rfl))) (by rfl) (by first | exact .inl rfl | exact .inr rfl))
    (@pss_cons _ _ _ _ _ (@ps_set _ _ 3 _ _ _ _ sc__law_no_word.nd rfl (Or.inl rfl) (@pe_op _ _ _ _ _ _ _ _ op_mulS (@pe_op _ _ _ _ _ _ _ _ op_add_str (pv 3) (pe_ix ix_str (pv 2) (@pe_op _ _ _ _ _ _ _ _ op_modM (@pe_op _ _ _ _ _ _ _ _ op_fdivM (pv 1) pe_int) pe_int) (fun _ _ => rfl))) pe_int) (by rfl) (by first | exact .inl rfl | exact .inr rfl))
    (@pss_cons _ _ _ _ _ (@ps_set _ _ 4 _ _ _ _ sc__law_no_word.nd rfl (Or.inl rfl) (pe_ix ix_str pe_str (@pe_op _ _ _ _ _ _ _ _ op_modM (pv 1) pe_int) (fun _ _ => rfl)) (by rfl) (by first | exact .inl rfl | exact .inr rfl))
    (@pss_cons _ _ _ _ _ (@ps_set _ _ 5 _ _ _ _ sc__law_no_word.nd rfl (Or.inl rfl) (@pe_lstN _ _ _ _ (@pa_cons _ _ _ _ _ pe_str (@pa_cons _ _ _ _ _ pe_str (@pa_cons _ _ _ _ _ (@pe_op _ _ _ _ _ _ _ _ op_add_str pe_str (pe_callTy call_str_int rfl z_str boot_str (@pa_cons _ _ _ _ _ (@pe_op _ _ _ _ _ _ _ _ op_modM (pv 1) pe_int) pa_nil (by rfl)))) (@pa_cons _ _ _ _ _ pe_str (@pa_cons _ _ _ _ _ (pe_slice sl_str (pv 3) po_none (po_some (@pe_op _ _ _ _ _ _ _ _ op_add pe_int (@pe_op _ _ _ _ _ _ _ _ op_modM (@pe_op _ _ _ _ _ _ _ _ op_fdivM (pv 1) pe_int) pe_int)))) pa_nil (by rfl)) (by rfl)) (by rfl)) (by rfl)) (by rfl))) (by rfl) (by first | exact .inl rfl | exact .inr rfl))
    (@pss_cons _ _ _ _ _ (@ps_set _ _ 5 _ _ _ _ sc__law_no_word.nd rfl (Or.inl rfl) (@pe_op _ _ _ _ _ _ _ _ op_catN (pv 5) (@pe_lstN _ _ _ _ (@pa_cons _ _ _ _ _ (@pe_op _ _ _ _ _ _ _ _ op_add_str (@pe_op _ _ _ _ _ _ _ _ op_add_str (pe_slice sl_str (pv 3) po_none (po_some (@pe_op _ _ _ _ _ _ _ _ op_modM (@pe_op _ _ _ _ _ _ _ _ op_fdivM (pv 1) pe_int) pe_int))) (pv 4)) (pe_slice sl_str (pv 3) po_none (po_some (@pe_op _ _ _ _ _ _ _ _ op_modM (@pe_op _ _ _ _ _ _ _ _ op_fdivM (pv 1) pe_int) pe_int)))) (@pa_cons _ _ _ _ _ (@pe_op _ _ _ _ _ _ _ _ op_add_str pe_str (pe_callTy call_str_int rfl z_str boot_str (@pa_cons _ _ _ _ _ (@pe_op _ _ _ _ _ _ _ _ op_modM (pv 1) pe_int) pa_nil (by rfl)))) (@pa_cons _ _ _ _ _ pe_str pa_nil (by rfl)) (by rfl)) (by rfl)))) (by rfl) (by first | exact .inl rfl | exact .inr rfl))
    (@pss_cons _ _ _ _ _ (@ps_set _ _ 5 _ _ _ _ sc__law_no_word.nd rfl (Or.inl rfl) (@pe_op _ _ _ _ _ _ _ _ op_catN (pv 5) (@pe_lstN _ _ _ _ (@pa_cons _ _ _ _ _ pe_str (@pa_cons _ _ _ _ _ pe_str (@pa_cons _ _ _ _ _ (@pe_op _ _ _ _ _ _ _ _ op_add_str pe_str (pe_callTy call_str_int rfl z_str boot_str (@pa_cons _ _ _ _ _ (@pe_op _ _ _ _ _ _ _ _ op_modM (pv 1) pe_int) pa_nil (by rfl)))) (@pa_cons _ _ _ _ _ pe_str pa_nil (by rfl)) (by rfl)) (by rfl)) (by rfl)))) (by rfl) (by first | exact .inl rfl | exact .inr rfl))
    (@pss_cons _ _ _ _ _ (@ps_set _ _ 6 _ _ _ _ sc__law_no_word.nd rfl (Or.inl rfl) (@pe_lstN _ _ _ _ (@pa_cons _ _ _ _ _ pe_str (@pa_cons _ _ _ _ _ pe_str (@pa_cons _ _ _ _ _ pe_str (@pa_cons _ _ _ _ _ pe_str (@pa_cons _ _ _ _ _ pe_str (@pa_cons _ _ _ _ _ pe_str (@pa_cons _ _ _ _ _ pe_str (@pa_cons _ _ _ _ _ pe_str (@pa_cons _ _ _ _ _ pe_str (@pa_cons _ _ _ _ _ pe_str (@pa_cons _ _ _ _ _ pe_str (@pa_cons _ _ _ _ _ pe_str (@pa_cons _ _ _ _ _ pe_str pa_nil (by rfl)) (by rfl)) (by rfl)) (by rfl)) (by rfl)) (by rfl)) (by rfl)) (by rfl)) (by rfl)) (by rfl)) (by rfl)) (by rfl)) (by rfl))) (by rfl) (by first | exact .inl rfl | exact .inr rfl))
    (@pss_cons _ _ _ _ _ (@ps_set _ _ 6 _ _ _ _ sc__law_no_word.nd rfl (Or.inl rfl) (@pe_op _ _ _ _ _ _ _ _ op_catN (pv 6) (@pe_lstN _ _ _ _ (@pa_cons _ _ _ _ _ pe_str (@pa_cons _ _ _ _ _ pe_str (@pa_cons _ _ _ _ _ pe_str (@pa_cons _ _ _ _ _ pe_str (@pa_cons _ _ _ _ _ pe_str (@pa_cons _ _ _ _ _ pe_str pa_nil (by rfl)) (by rfl)) (by rfl)) (by rfl)) (by rfl)) (by rfl)))) (by rfl) (by first | exact .inl rfl | exact .inr rfl))
    (@pss_one _ _ _ (@ps_ret _ _ _ _ (pe_ix (ix_listK (K := K) rfl) (@pe_op _ _ _ _ _ _ _ _ op_catN (pv 5) (pv 6)) (@pe_op _ _ _ _ _ _ _ _ op_modM (pv 0) pe_int) (fun _ _ => rfl)))))))))))))), ?_⟩
  have d0 := div_lo hn (m := 31) (by decide)
  refine seq_cut (fun σ' H1 => H = H1 ∧ σ' = [some (V.int n), some (V.int (n.fdiv 31)), none, none, none, none, none]) (fun N hN => ⟨_, rfl, n, 31, rfl, rfl, ⟨by decide, by decide⟩, hN _ _ ⟨rfl, rfl⟩⟩) ?_
  rintro σ' H1 ⟨rfl, rfl⟩
  refine seq_cut (fun σ' H1 => H = H1 ∧ σ' = [some (V.int n), some (V.int (n.fdiv 31)), some (V.str (Str.ofString "abcdefghijklmnopqrstuvwxyz")), none, none, none, none]) (fun N hN => hN _ _ ⟨rfl, rfl⟩) ?_
  rintro σ' H1 ⟨rfl, rfl⟩
  generalize n.fdiv 31 = v at d0
  obtain ⟨c1, a1, b1, l1⟩ := letr_at (mod_lo v (m := 26) (by decide)) (mod_hi v (m := 26) (by decide))
  obtain ⟨c2, a2, b2, l2⟩ := letr_at (mod_lo (v.fdiv 26) (m := 26) (by decide)) (mod_hi (v.fdiv 26) (m := 26) (by decide))
  obtain ⟨c3, a3, b3, l3⟩ := letr_at (mod_lo (v.fdiv 676) (m := 26) (by decide)) (mod_hi (v.fdiv 676) (m := 26) (by decide))
  have lone : ∀ c : Nat, isL c = true → Lets ⟨#[c]⟩ := fun c h => by unfold Lets; simp [h]
  have ll : (Str.ofString "abcdefghijklmnopqrstuvwxyz").length ≤ 1000 := by decide +kernel
  refine seq_cut (fun σ' H1 => H = H1 ∧ σ' = [some (V.int n), some (V.int v), some (V.str (Str.ofString "abcdefghijklmnopqrstuvwxyz")), some (V.str (⟨#[c1]⟩ ++ ⟨#[c2]⟩)), none, none, none]) (fun N hN => ?_) ?_
  · refine ⟨_, rfl, _, rfl, v, 26, rfl, rfl, (show (26 : Int) ≠ 0 by decide), _, _, c1, rfl, rfl, small ll, a1, _, rfl, _, rfl, v, 26, rfl, rfl, ⟨by decide, by decide⟩, _, 26, rfl, rfl, (show (26 : Int) ≠ 0 by decide), _, _, c2, rfl, rfl, small ll, a2, _, _, rfl, rfl, small (by rw [len_one, len_one]; omega), hN _ _ ⟨rfl, rfl⟩⟩
  rintro σ' H1 ⟨rfl, rfl⟩
  have L3 : Lets (⟨#[c1]⟩ ++ ⟨#[c2]⟩ ++ ⟨#[c3]⟩) := ((lone c1 l1).app (lone c2 l2)).app (lone c3 l3)
  have n3 : (⟨#[c1]⟩ ++ ⟨#[c2]⟩ ++ ⟨#[c3]⟩ : Str).length = 3 := by rw [len_app, len_app, len_one, len_one, len_one]
  obtain ⟨LL, nL⟩ := mul4 L3
  rw [n3] at nL
  refine seq_cut (fun σ' H1 => H = H1 ∧ σ' = [some (V.int n), some (V.int v), some (V.str (Str.ofString "abcdefghijklmnopqrstuvwxyz")), some (V.str (Txt.mul (⟨#[c1]⟩ ++ ⟨#[c2]⟩ ++ ⟨#[c3]⟩) 4)), none, none, none]) (fun N hN => ?_) ?_
  · refine ⟨_, rfl, _, rfl, _, rfl, v, 676, rfl, rfl, ⟨by decide, by decide⟩, _, 26, rfl, rfl, (show (26 : Int) ≠ 0 by decide), _, _, c3, rfl, rfl, small ll, a3, _, _, rfl, rfl, small (by rw [len_app, len_one, len_one, len_one]; omega), _, 4, rfl, rfl, by decide, by decide, by rw [n3]; decide, hN _ _ ⟨rfl, rfl⟩⟩
  rintro σ' H1 ⟨rfl, rfl⟩
  generalize Txt.mul (⟨#[c1]⟩ ++ ⟨#[c2]⟩ ++ ⟨#[c3]⟩) 4 = lg at LL nL
  obtain ⟨g, ga, g0, g1⟩ := great_at (mod_lo v (m := 26) (by decide)) (mod_hi v (m := 26) (by decide))
  have ul : (Str.ofString "ABCDEFGHIJKLMNOPQRSTUVWXYZ").length ≤ 1000 := by decide +kernel
  refine seq_cut (fun σ' H1 => H = H1 ∧ σ' = [some (V.int n), some (V.int v), some (V.str (Str.ofString "abcdefghijklmnopqrstuvwxyz")), some (V.str lg), some (V.str ⟨#[g]⟩), none, none]) (fun N hN => ⟨_, rfl, v, 26, rfl, rfl, (show (26 : Int) ≠ 0 by decide), _, _, g, rfl, rfl, small ul, ga, hN _ _ ⟨rfl, rfl⟩⟩) ?_
  rintro σ' H1 ⟨rfl, rfl⟩
  have k0 := nb_rng nb0 (mod_lo v (m := 1000) (by decide)) (mod_hi v (m := 1000) (by decide))
  have k1 := nb_rng nb1 (mod_lo v (m := 100) (by decide)) (mod_hi v (m := 100) (by decide))
  have k2 := nb_rng nb2 (mod_lo v (m := 10) (by decide)) (mod_hi v (m := 10) (by decide))
  have e0 := mod_lo (v.fdiv 7) (m := 4) (by decide)
  obtain ⟨s1, s2⟩ := lets_toJ LL (j := 9 + (v.fdiv 7).fmod 4) (by omega)
  have k4 : NB (Txt.slice lg none (some (9 + (v.fdiv 7).fmod 4))) := nb_long s1 (by rw [s2, nL]; omega) (by rw [s2, nL]; omega)
  have f0 := mod_lo (v.fdiv 26) (m := 3) (by decide)
  have f1 := mod_hi (v.fdiv 26) (m := 3) (by decide)
  have f2 := mod_lo (v.fdiv 78) (m := 3) (by decide)
  have f3 := mod_hi (v.fdiv 78) (m := 3) (by decide)
  obtain ⟨x1, x2⟩ := lets_toJ LL (j := (v.fdiv 26).fmod 3) f0
  obtain ⟨y1, y2⟩ := lets_toJ LL (j := (v.fdiv 78).fmod 3) f2
  have k5 := nb_great (g := g) x1 y1 g0 g1 (by rw [x2]; omega) (by rw [y2]; omega)
  have h3 := str_len (mod_lo v (m := 1000) (by decide)) (mod_hi v (m := 1000) (by decide))
  have h2 := str_len (mod_lo v (m := 100) (by decide)) (Int.lt_trans (mod_hi v (m := 100) (by decide)) (by decide))
  have h1 := str_len (mod_lo v (m := 10) (by decide)) (Int.lt_trans (mod_hi v (m := 10) (by decide)) (by decide))
  have g3 := log_lt (mod_lo v (m := 1000) (by decide)) (mod_hi v (m := 1000) (by decide))
  have g2 := log_lt (mod_lo v (m := 100) (by decide)) (Int.lt_trans (mod_hi v (m := 100) (by decide)) (by decide))
  have g4 := log_lt (mod_lo v (m := 10) (by decide)) (Int.lt_trans (mod_hi v (m := 10) (by decide)) (by decide))
  have sz : 12 ≤ sizeLine := by decide
  have c1 : (Str.ofString "0").length = 1 := by decide +kernel
  have c2 : (Str.ofString "-0").length = 2 := by decide +kernel
  have c3 : (Str.ofString "x").length = 1 := by decide +kernel
  refine seq_cut (fun σ' H2 => Same H H2 ∧ ∃ p, H2 p = some (.lst (List.map V.str ([Str.ofString "", Str.ofString "-0", Str.ofString "0" ++ Str.ofString (toString (v.fmod 1000)), Str.ofString "1234567890", Txt.slice lg none (some (9 + (v.fdiv 7).fmod 4))]))) ∧ σ' = [some (V.int n), some (V.int v), some (V.str (Str.ofString "abcdefghijklmnopqrstuvwxyz")), some (V.str lg), some (V.str ⟨#[g]⟩), some (V.ref p), none]) (fun N hN => ?_) ?_
  · simp only [tSeq, tNext, tRet, tRetN, tIfS, tAsg, gName, gSub, tDrop, tVar, tC, tTest, tB, tOp, tUn, tChain, tAnd, tOr, tNot, tAndV, tOrV, tNotV, tIf, tNil, tCons, tTupN, tLstN, tCall, tCB, tBM, tBM0, tSl, tPart, tNoPart, rI, rI0, rU, rIxL, rIxT, rIxS, rSlTN, rSlLN, rCatN, rEq, rNe, rEqD, rIn, rMulS, rAppend, rLen, rLenS, rIsiT, rIsiL, rIsi, rIsiA, rIsiT, rIsi, rAll, rAny, rSw, rFind, rIntS, rSetL, L2.start, List.map_cons, List.map_nil, List.length_cons, List.length_nil, Nat.reduceAdd, Nat.reduceSub, List.replicate_succ, List.replicate_zero, List.cons_append, List.nil_append, List.append_nil, List.getElem?_cons_zero, List.getElem?_cons_succ, List.set_cons_zero, List.set_cons_succ, Option.some.injEq, exists_eq_left', exists_eq_left, V.int.injEq, V.bl.injEq, V.str.injEq, V.ref.injEq, List.cons.injEq, and_true, true_and, Nat.zero_add, exists_and_left, exists_const, sp_sign, sp_name, sp_read, sp_whole, sp_mixedD, sp_kept, sp_sg, sp_take, sp_text, sp_due, sp_right, sp_wide, tFld, sFld, sFldAug, tMeth, tMake, rAdd, rSplit, rJoin, sp_readG, sp_init, sp_over, sp_taken, sp_words, sp_end, sp_expr, sp_readE, sp_lname, sp_lnum, sp_leaf, sp_cell, sp_rightE, tRaise, sp_wordX, sp_endX, sp_exprX, sp_readX, sp_works, sp_gleaf, sp_isleaf, sp_stands, sp_kindsX, sp_rightX, sp_noword, sp_spoilt, sp_blanks]
    exact ⟨by decide, g3, by omega, ⟨by decide, by decide⟩, by decide, by omega, by decide, fun p H' np => hN _ _ ⟨np.1, p, np.2.2, rfl⟩⟩
  rintro σ' H1 ⟨m1, p, hp, rfl⟩
  refine seq_cut (fun σ' H2 => Same H H2 ∧ ∃ p, H2 p = some (.lst (List.map V.str ([Str.ofString "", Str.ofString "-0", Str.ofString "0" ++ Str.ofString (toString (v.fmod 1000)), Str.ofString "1234567890", Txt.slice lg none (some (9 + (v.fdiv 7).fmod 4))] ++ [Txt.slice lg none (some ((v.fdiv 26).fmod 3)) ++ ⟨#[g]⟩ ++ Txt.slice lg none (some ((v.fdiv 78).fmod 3)), Str.ofString "x" ++ Str.ofString (toString (v.fmod 10)), Str.ofString "+1"]))) ∧ σ' = [some (V.int n), some (V.int v), some (V.str (Str.ofString "abcdefghijklmnopqrstuvwxyz")), some (V.str lg), some (V.str ⟨#[g]⟩), some (V.ref p), none]) (fun N hN => ?_) ?_
  · simp only [tSeq, tNext, tRet, tRetN, tIfS, tAsg, gName, gSub, tDrop, tVar, tC, tTest, tB, tOp, tUn, tChain, tAnd, tOr, tNot, tAndV, tOrV, tNotV, tIf, tNil, tCons, tTupN, tLstN, tCall, tCB, tBM, tBM0, tSl, tPart, tNoPart, rI, rI0, rU, rIxL, rIxT, rIxS, rSlTN, rSlLN, rCatN, rEq, rNe, rEqD, rIn, rMulS, rAppend, rLen, rLenS, rIsiT, rIsiL, rIsi, rIsiA, rIsiT, rIsi, rAll, rAny, rSw, rFind, rIntS, rSetL, L2.start, List.map_cons, List.map_nil, List.length_cons, List.length_nil, Nat.reduceAdd, Nat.reduceSub, List.replicate_succ, List.replicate_zero, List.cons_append, List.nil_append, List.append_nil, List.getElem?_cons_zero, List.getElem?_cons_succ, List.set_cons_zero, List.set_cons_succ, Option.some.injEq, exists_eq_left', exists_eq_left, V.int.injEq, V.bl.injEq, V.str.injEq, V.ref.injEq, List.cons.injEq, and_true, true_and, Nat.zero_add, exists_and_left, exists_const, sp_sign, sp_name, sp_read, sp_whole, sp_mixedD, sp_kept, sp_sg, sp_take, sp_text, sp_due, sp_right, sp_wide, tFld, sFld, sFldAug, tMeth, tMake, rAdd, rSplit, rJoin, sp_readG, sp_init, sp_over, sp_taken, sp_words, sp_end, sp_expr, sp_readE, sp_lname, sp_lnum, sp_leaf, sp_cell, sp_rightE, tRaise, sp_wordX, sp_endX, sp_exprX, sp_readX, sp_works, sp_gleaf, sp_isleaf, sp_stands, sp_kindsX, sp_rightX, sp_noword, sp_spoilt, sp_blanks]
    refine ⟨⟨by decide, by decide⟩, by decide, by omega, by rw [len_one]; omega, ⟨by decide, by decide⟩, by decide, by omega, by rw [len_app, len_one]; omega, by decide, g4, by omega, by decide, fun p2 H2 n2 => ⟨_, n2.1 _ _ hp, _, n2.2.2, (by show 5 + 3 ≤ sizeLine; decide), fun p3 H3 n3 => hN _ _ ⟨m1.trans (n2.1.trans n3.1), p3, n3.2.2, rfl⟩⟩⟩
  rintro σ' H2 ⟨m2, p, hp, rfl⟩
  refine seq_cut (fun σ' H2 => Same H H2 ∧ ∃ p, H2 p = some (.lst (List.map V.str (([Str.ofString "", Str.ofString "-0", Str.ofString "0" ++ Str.ofString (toString (v.fmod 1000)), Str.ofString "1234567890", Txt.slice lg none (some (9 + (v.fdiv 7).fmod 4))] ++ [Txt.slice lg none (some ((v.fdiv 26).fmod 3)) ++ ⟨#[g]⟩ ++ Txt.slice lg none (some ((v.fdiv 78).fmod 3)), Str.ofString "x" ++ Str.ofString (toString (v.fmod 10)), Str.ofString "+1"]) ++ [Str.ofString "--", Str.ofString "1.5", Str.ofString "-0" ++ Str.ofString (toString (v.fmod 100)), Str.ofString "tell x"]))) ∧ σ' = [some (V.int n), some (V.int v), some (V.str (Str.ofString "abcdefghijklmnopqrstuvwxyz")), some (V.str lg), some (V.str ⟨#[g]⟩), some (V.ref p), none]) (fun N hN => ?_) ?_
  · simp only [tSeq, tNext, tRet, tRetN, tIfS, tAsg, gName, gSub, tDrop, tVar, tC, tTest, tB, tOp, tUn, tChain, tAnd, tOr, tNot, tAndV, tOrV, tNotV, tIf, tNil, tCons, tTupN, tLstN, tCall, tCB, tBM, tBM0, tSl, tPart, tNoPart, rI, rI0, rU, rIxL, rIxT, rIxS, rSlTN, rSlLN, rCatN, rEq, rNe, rEqD, rIn, rMulS, rAppend, rLen, rLenS, rIsiT, rIsiL, rIsi, rIsiA, rIsiT, rIsi, rAll, rAny, rSw, rFind, rIntS, rSetL, L2.start, List.map_cons, List.map_nil, List.length_cons, List.length_nil, Nat.reduceAdd, Nat.reduceSub, List.replicate_succ, List.replicate_zero, List.cons_append, List.nil_append, List.append_nil, List.getElem?_cons_zero, List.getElem?_cons_succ, List.set_cons_zero, List.set_cons_succ, Option.some.injEq, exists_eq_left', exists_eq_left, V.int.injEq, V.bl.injEq, V.str.injEq, V.ref.injEq, List.cons.injEq, and_true, true_and, Nat.zero_add, exists_and_left, exists_const, sp_sign, sp_name, sp_read, sp_whole, sp_mixedD, sp_kept, sp_sg, sp_take, sp_text, sp_due, sp_right, sp_wide, tFld, sFld, sFldAug, tMeth, tMake, rAdd, rSplit, rJoin, sp_readG, sp_init, sp_over, sp_taken, sp_words, sp_end, sp_expr, sp_readE, sp_lname, sp_lnum, sp_leaf, sp_cell, sp_rightE, tRaise, sp_wordX, sp_endX, sp_exprX, sp_readX, sp_works, sp_gleaf, sp_isleaf, sp_stands, sp_kindsX, sp_rightX, sp_noword, sp_spoilt, sp_blanks]
    refine ⟨by decide, g2, by omega, by decide, fun p2 H3 n3 => ⟨_, n3.1 _ _ hp, _, n3.2.2, (by show 8 + 4 ≤ sizeLine; decide), fun p3 H4 n4 => hN _ _ ⟨m2.trans (n3.1.trans n4.1), p3, n4.2.2, rfl⟩⟩⟩
  rintro σ' H3 ⟨m3, p, hp, rfl⟩
  refine seq_cut (fun σ' H2 => Same H H2 ∧ ∃ p, H2 p = some (.lst (List.map V.str (([Str.ofString "", Str.ofString "-0", Str.ofString "0" ++ Str.ofString (toString (v.fmod 1000)), Str.ofString "1234567890", Txt.slice lg none (some (9 + (v.fdiv 7).fmod 4))] ++ [Txt.slice lg none (some ((v.fdiv 26).fmod 3)) ++ ⟨#[g]⟩ ++ Txt.slice lg none (some ((v.fdiv 78).fmod 3)), Str.ofString "x" ++ Str.ofString (toString (v.fmod 10)), Str.ofString "+1"]) ++ [Str.ofString "--", Str.ofString "1.5", Str.ofString "-0" ++ Str.ofString (toString (v.fmod 100)), Str.ofString "tell x"]))) ∧ ∃ p2, H2 p2 = some (.lst (List.map V.str ([Str.ofString "def", Str.ofString "set", Str.ofString "put", Str.ofString "tell", Str.ofString "if", Str.ofString "else", Str.ofString "while", Str.ofString "end", Str.ofString "break", Str.ofString "again", Str.ofString "call", Str.ofString "return", Str.ofString "stop"]))) ∧ σ' = [some (V.int n), some (V.int v), some (V.str (Str.ofString "abcdefghijklmnopqrstuvwxyz")), some (V.str lg), some (V.str ⟨#[g]⟩), some (V.ref p), some (V.ref p2)]) (fun N hN => ?_) ?_
  · simp only [tSeq, tNext, tRet, tRetN, tIfS, tAsg, gName, gSub, tDrop, tVar, tC, tTest, tB, tOp, tUn, tChain, tAnd, tOr, tNot, tAndV, tOrV, tNotV, tIf, tNil, tCons, tTupN, tLstN, tCall, tCB, tBM, tBM0, tSl, tPart, tNoPart, rI, rI0, rU, rIxL, rIxT, rIxS, rSlTN, rSlLN, rCatN, rEq, rNe, rEqD, rIn, rMulS, rAppend, rLen, rLenS, rIsiT, rIsiL, rIsi, rIsiA, rIsiT, rIsi, rAll, rAny, rSw, rFind, rIntS, rSetL, L2.start, List.map_cons, List.map_nil, List.length_cons, List.length_nil, Nat.reduceAdd, Nat.reduceSub, List.replicate_succ, List.replicate_zero, List.cons_append, List.nil_append, List.append_nil, List.getElem?_cons_zero, List.getElem?_cons_succ, List.set_cons_zero, List.set_cons_succ, Option.some.injEq, exists_eq_left', exists_eq_left, V.int.injEq, V.bl.injEq, V.str.injEq, V.ref.injEq, List.cons.injEq, and_true, true_and, Nat.zero_add, exists_and_left, exists_const, sp_sign, sp_name, sp_read, sp_whole, sp_mixedD, sp_kept, sp_sg, sp_take, sp_text, sp_due, sp_right, sp_wide, tFld, sFld, sFldAug, tMeth, tMake, rAdd, rSplit, rJoin, sp_readG, sp_init, sp_over, sp_taken, sp_words, sp_end, sp_expr, sp_readE, sp_lname, sp_lnum, sp_leaf, sp_cell, sp_rightE, tRaise, sp_wordX, sp_endX, sp_exprX, sp_readX, sp_works, sp_gleaf, sp_isleaf, sp_stands, sp_kindsX, sp_rightX, sp_noword, sp_spoilt, sp_blanks]
    exact ⟨by decide, fun p2 H4 n4 => hN _ _ ⟨m3.trans n4.1, p, n4.1 _ _ hp, p2, n4.2.2, rfl⟩⟩
  rintro σ' H4 ⟨m4, p, hp, p2, hp2, rfl⟩
  refine seq_cut (fun σ' H2 => Same H H2 ∧ ∃ p, H2 p = some (.lst (List.map V.str (([Str.ofString "", Str.ofString "-0", Str.ofString "0" ++ Str.ofString (toString (v.fmod 1000)), Str.ofString "1234567890", Txt.slice lg none (some (9 + (v.fdiv 7).fmod 4))] ++ [Txt.slice lg none (some ((v.fdiv 26).fmod 3)) ++ ⟨#[g]⟩ ++ Txt.slice lg none (some ((v.fdiv 78).fmod 3)), Str.ofString "x" ++ Str.ofString (toString (v.fmod 10)), Str.ofString "+1"]) ++ [Str.ofString "--", Str.ofString "1.5", Str.ofString "-0" ++ Str.ofString (toString (v.fmod 100)), Str.ofString "tell x"]))) ∧ ∃ p2, H2 p2 = some (.lst (List.map V.str ([Str.ofString "def", Str.ofString "set", Str.ofString "put", Str.ofString "tell", Str.ofString "if", Str.ofString "else", Str.ofString "while", Str.ofString "end", Str.ofString "break", Str.ofString "again", Str.ofString "call", Str.ofString "return", Str.ofString "stop"] ++ [Str.ofString "join", Str.ofString "meet", Str.ofString "sum", Str.ofString "most", Str.ofString "least", Str.ofString "ahead"]))) ∧ σ' = [some (V.int n), some (V.int v), some (V.str (Str.ofString "abcdefghijklmnopqrstuvwxyz")), some (V.str lg), some (V.str ⟨#[g]⟩), some (V.ref p), some (V.ref p2)]) (fun N hN => ?_) ?_
  · simp only [tSeq, tNext, tRet, tRetN, tIfS, tAsg, gName, gSub, tDrop, tVar, tC, tTest, tB, tOp, tUn, tChain, tAnd, tOr, tNot, tAndV, tOrV, tNotV, tIf, tNil, tCons, tTupN, tLstN, tCall, tCB, tBM, tBM0, tSl, tPart, tNoPart, rI, rI0, rU, rIxL, rIxT, rIxS, rSlTN, rSlLN, rCatN, rEq, rNe, rEqD, rIn, rMulS, rAppend, rLen, rLenS, rIsiT, rIsiL, rIsi, rIsiA, rIsiT, rIsi, rAll, rAny, rSw, rFind, rIntS, rSetL, L2.start, List.map_cons, List.map_nil, List.length_cons, List.length_nil, Nat.reduceAdd, Nat.reduceSub, List.replicate_succ, List.replicate_zero, List.cons_append, List.nil_append, List.append_nil, List.getElem?_cons_zero, List.getElem?_cons_succ, List.set_cons_zero, List.set_cons_succ, Option.some.injEq, exists_eq_left', exists_eq_left, V.int.injEq, V.bl.injEq, V.str.injEq, V.ref.injEq, List.cons.injEq, and_true, true_and, Nat.zero_add, exists_and_left, exists_const, sp_sign, sp_name, sp_read, sp_whole, sp_mixedD, sp_kept, sp_sg, sp_take, sp_text, sp_due, sp_right, sp_wide, tFld, sFld, sFldAug, tMeth, tMake, rAdd, rSplit, rJoin, sp_readG, sp_init, sp_over, sp_taken, sp_words, sp_end, sp_expr, sp_readE, sp_lname, sp_lnum, sp_leaf, sp_cell, sp_rightE, tRaise, sp_wordX, sp_endX, sp_exprX, sp_readX, sp_works, sp_gleaf, sp_isleaf, sp_stands, sp_kindsX, sp_rightX, sp_noword, sp_spoilt, sp_blanks]
    exact ⟨by decide, fun p3 H5 n5 => ⟨_, n5.1 _ _ hp2, _, n5.2.2, by decide, fun p4 H6 n6 => hN _ _ ⟨m4.trans (n5.1.trans n6.1), p, n6.1 _ _ (n5.1 _ _ hp), p4, n6.2.2, rfl⟩⟩⟩
  rintro σ' H5 ⟨m5, p, hp, p2, hp2, rfl⟩
  have fix : ∀ w : Str, nbB w = true → Wd w := fun w h => .inr (.inl (nb_of h))
  have all1 : ∀ w ∈ (([Str.ofString "", Str.ofString "-0", Str.ofString "0" ++ Str.ofString (toString (v.fmod 1000)), Str.ofString "1234567890", Txt.slice lg none (some (9 + (v.fdiv 7).fmod 4))] ++ [Txt.slice lg none (some ((v.fdiv 26).fmod 3)) ++ ⟨#[g]⟩ ++ Txt.slice lg none (some ((v.fdiv 78).fmod 3)), Str.ofString "x" ++ Str.ofString (toString (v.fmod 10)), Str.ofString "+1"]) ++ [Str.ofString "--", Str.ofString "1.5", Str.ofString "-0" ++ Str.ofString (toString (v.fmod 100)), Str.ofString "tell x"]), Wd w := by
    simp only [List.mem_append, List.mem_cons, List.not_mem_nil, or_false]
    rintro w (((rfl | rfl | rfl | rfl | rfl) | (rfl | rfl | rfl)) | (rfl | rfl | rfl | rfl))
    · exact fix _ (by decide +kernel)
    · exact fix _ (by decide +kernel)
    · exact .inr (.inl k0)
    · exact fix _ (by decide +kernel)
    · exact .inr (.inl k4)
    · exact .inr (.inl k5)
    · exact .inr (.inl k2)
    · exact fix _ (by decide +kernel)
    · exact fix _ (by decide +kernel)
    · exact fix _ (by decide +kernel)
    · exact .inr (.inl k1)
    · exact .inr (.inr rfl)
  have all2 : ∀ w ∈ ([Str.ofString "def", Str.ofString "set", Str.ofString "put", Str.ofString "tell", Str.ofString "if", Str.ofString "else", Str.ofString "while", Str.ofString "end", Str.ofString "break", Str.ofString "again", Str.ofString "call", Str.ofString "return", Str.ofString "stop"] ++ [Str.ofString "join", Str.ofString "meet", Str.ofString "sum", Str.ofString "most", Str.ofString "least", Str.ofString "ahead"]), Wd w := by
    have h : ((([Str.ofString "def", Str.ofString "set", Str.ofString "put", Str.ofString "tell", Str.ofString "if", Str.ofString "else", Str.ofString "while", Str.ofString "end", Str.ofString "break", Str.ofString "again", Str.ofString "call", Str.ofString "return", Str.ofString "stop"] ++ [Str.ofString "join", Str.ofString "meet", Str.ofString "sum", Str.ofString "most", Str.ofString "least", Str.ofString "ahead"])).all nbB) = true := by decide +kernel
    exact fun w hw => fix w (List.all_eq_true.mp h w hw)
  simp only [tSeq, tNext, tRet, tRetN, tIfS, tAsg, gName, gSub, tDrop, tVar, tC, tTest, tB, tOp, tUn, tChain, tAnd, tOr, tNot, tAndV, tOrV, tNotV, tIf, tNil, tCons, tTupN, tLstN, tCall, tCB, tBM, tBM0, tSl, tPart, tNoPart, rI, rI0, rU, rIxL, rIxT, rIxS, rSlTN, rSlLN, rCatN, rEq, rNe, rEqD, rIn, rMulS, rAppend, rLen, rLenS, rIsiT, rIsiL, rIsi, rIsiA, rIsiT, rIsi, rAll, rAny, rSw, rFind, rIntS, rSetL, L2.start, List.map_cons, List.map_nil, List.length_cons, List.length_nil, Nat.reduceAdd, Nat.reduceSub, List.replicate_succ, List.replicate_zero, List.cons_append, List.nil_append, List.append_nil, List.getElem?_cons_zero, List.getElem?_cons_succ, List.set_cons_zero, List.set_cons_succ, Option.some.injEq, exists_eq_left', exists_eq_left, V.int.injEq, V.bl.injEq, V.str.injEq, V.ref.injEq, List.cons.injEq, and_true, true_and, Nat.zero_add, exists_and_left, exists_const, sp_sign, sp_name, sp_read, sp_whole, sp_mixedD, sp_kept, sp_sg, sp_take, sp_text, sp_due, sp_right, sp_wide, tFld, sFld, sFldAug, tMeth, tMake, rAdd, rSplit, rJoin, sp_readG, sp_init, sp_over, sp_taken, sp_words, sp_end, sp_expr, sp_readE, sp_lname, sp_lnum, sp_leaf, sp_cell, sp_rightE, tRaise, sp_wordX, sp_endX, sp_exprX, sp_readX, sp_works, sp_gleaf, sp_isleaf, sp_stands, sp_kindsX, sp_rightX, sp_noword, sp_spoilt, sp_blanks]
  obtain ⟨y, hy⟩ := at_ok (xs := List.map V.str (([Str.ofString "", Str.ofString "-0", Str.ofString "0" ++ Str.ofString (toString (v.fmod 1000)), Str.ofString "1234567890", Txt.slice lg none (some (9 + (v.fdiv 7).fmod 4))] ++ [Txt.slice lg none (some ((v.fdiv 26).fmod 3)) ++ ⟨#[g]⟩ ++ Txt.slice lg none (some ((v.fdiv 78).fmod 3)), Str.ofString "x" ++ Str.ofString (toString (v.fmod 10)), Str.ofString "+1"]) ++ [Str.ofString "--", Str.ofString "1.5", Str.ofString "-0" ++ Str.ofString (toString (v.fmod 100)), Str.ofString "tell x"]) ++ List.map V.str ([Str.ofString "def", Str.ofString "set", Str.ofString "put", Str.ofString "tell", Str.ofString "if", Str.ofString "else", Str.ofString "while", Str.ofString "end", Str.ofString "break", Str.ofString "again", Str.ofString "call", Str.ofString "return", Str.ofString "stop"] ++ [Str.ofString "join", Str.ofString "meet", Str.ofString "sum", Str.ofString "most", Str.ofString "least", Str.ofString "ahead"])) (mod_lo n (m := 31) (by decide)) (mod_hi n (m := 31) (by decide))
  have hm := at_mem hy
  rw [← List.map_append] at hm
  obtain ⟨w, hw, rfl⟩ := List.mem_map.mp hm
  have hd : Wd w := (List.mem_append.mp hw).elim (all1 w) (all2 w)
  exact ⟨_, hp, _, hp2, (by show 12 + 19 ≤ sizeLine; decide), fun p3 H6 n6 => ⟨by decide, _, SqL.of n6.2.2, _, hy, q w _ (m5.trans n6.1) hd⟩⟩
end
theorem sc__law_made : FnScope ["_law_cells", "_law_at", "_law_room", "_law_cell", "_law_one", "_law_behind", "_law_other", "_law_last"] ["_law_cells", "_law_at", "_law_room"] (defScope s__law_made) := ⟨rfl, rfl, rfl, by decide +kernel, rfl, by decide +kernel, by decide +kernel⟩
section
variable {P : Program} {w : World} {K : PySem.W.Frag} {mg : Str → Option Value} {base : Heap} {c_NoLine : Addr} {c_Walk : Addr}
set_option maxHeartbeats 4000000 in
theorem okS__law_made {n : Nat} {f__law_made : Addr} {fd__law_made : FuncData} (d__law_made : Df K mg "_law_made" s__law_made ["_law_cells", "_law_at", "_law_room"] f__law_made fd__law_made) {f__law_cell_at : Addr} {fd__law_cell_at : FuncData} (d__law_cell_at : Df K mg "_law_cell_at" s__law_cell_at ["_law_cells", "_law_k"] f__law_cell_at fd__law_cell_at) (G__law_cell_at : FnOk P w K mg base CX0 1 f__law_cell_at fd__law_cell_at ["_law_cells", "_law_k"] (sp_cell K)) {f__law_good_leaf : Addr} {fd__law_good_leaf : FuncData} (d__law_good_leaf : Df K mg "_law_good_leaf" s__law_good_leaf ["_law_cell"] f__law_good_leaf fd__law_good_leaf) (G__law_good_leaf : FnOk P w K mg base CX0 1 f__law_good_leaf fd__law_good_leaf ["_law_cell"] sp_gleaf) {f__law_workings : Addr} {fd__law_workings : FuncData} (d__law_workings : Df K mg "_law_workings" s__law_workings [] f__law_workings fd__law_workings) (G__law_workings : FnOk P w K mg base CX0 1 f__law_workings fd__law_workings [] sp_works) (z_len : mg "len" = none) (G__law_made : FnOk P w K mg base CX0 (1 + n) f__law_made fd__law_made ["_law_cells", "_law_at", "_law_room"] (sp_madeX K n)) : FnOk P w K mg base CX0 (1 + n + 1) f__law_made fd__law_made ["_law_cells", "_law_at", "_law_room"] (sp_madeX K (n + 1)) := by
  have F := d__law_made.fn
  refine F.ok sc__law_made (fun vs H Q E h => ?_) (fun cdv A outer s H vs Q E hr h => ?_)
  · obtain ⟨a, cs, k, r, rfl, _⟩ := h
    rfl
  obtain ⟨a, cs, k, r, rfl, hS, hl, h0, rn, r4, q⟩ := h
  refine ⟨_, (@pss_cons _ _ _ _ _ (@ps_set _ _ 3 _ _ _ _ sc__law_made.nd rfl (Or.inl rfl) (pe_call (G__law_cell_at.mono (by omega)) hr rfl d__law_cell_at.m d__law_cell_at.fn.kp d__law_cell_at.b .nil pass0 (@pa_cons _ _ _ _ _ (pv 0) (@pa_cons _ _ _ _ _ (pv 1) pa_nil (by rfl)) (by rfl))) (by rfl) (by first | exact .inl rfl | exact .inr rfl))
    (@pss_cons _ _ _ _ _ (@ps_if _ _ _ _ _ _ _ _ (PW.pt (pw_or (pt_cmpR op_eq (pv 2) pe_int (nomark _)) (pw_or (pt_cmpR op_eq (@pe_op _ _ _ _ _ _ _ _ op_modM (pv 3) pe_int) pe_int (nomark _)) (pw_or1 (pt_cmpR op_ge (pv 1) (pe_callB (call_len_seqK (K := K) rfl) rfl z_len PySem.boot_len (@pa_cons _ _ _ _ _ (pv 0) pa_nil (by rfl))) (nomark _))))))
      (@pss_one _ _ _ (@ps_ret _ _ _ _ (@pe_tupN _ _ _ _ _ (@pa_cons _ _ _ _ _ (@pe_lstN _ _ _ _ (@pa_cons _ _ _ _ _ (pe_call (G__law_good_leaf.mono (by omega)) hr rfl d__law_good_leaf.m d__law_good_leaf.fn.kp d__law_good_leaf.b .nil pass0 (@pa_cons _ _ _ _ _ (@pe_op _ _ _ _ _ _ _ _ op_fdivM (pv 3) pe_int) pa_nil (by rfl))) pa_nil (by rfl))) (@pa_cons _ _ _ _ _ (@pe_op _ _ _ _ _ _ _ _ op_add (pv 1) pe_int) pa_nil (by rfl)) (by rfl)))))
      pss_nil)
    (@pss_cons _ _ _ _ _ (ps_asg (pe_call (G__law_made.mono (by omega)) hr rfl d__law_made.m d__law_made.fn.kp d__law_made.b .nil pass0 (@pa_cons _ _ _ _ _ (pv 0) (@pa_cons _ _ _ _ _ (@pe_op _ _ _ _ _ _ _ _ op_add (pv 1) pe_int) (@pa_cons _ _ _ _ _ (@pe_op _ _ _ _ _ _ _ _ op_sub (pv 2) pe_int) pa_nil (by rfl)) (by rfl)) (by rfl))) (pg_tupK (K := K) (n := 2) rfl rfl (pgs_cons (pg_name (i := 4) sc__law_made.nd rfl (Or.inl rfl)) (pgs_cons (pg_name (i := 5) sc__law_made.nd rfl (Or.inl rfl)) pgs_nil))))
    (@pss_cons _ _ _ _ _ (@ps_if _ _ _ _ _ _ _ _ (pt_cmpR op_eq (@pe_op _ _ _ _ _ _ _ _ op_modM (@pe_op _ _ _ _ _ _ _ _ op_fdivM (pv 3) pe_int) pe_int) pe_int (nomark _))
      (@pss_one _ _ _ (@ps_ret _ _ _ _ (@pe_tupN _ _ _ _ _ (@pa_cons _ _ _ _ _ (@pe_op _ _ _ _ _ _ _ _ op_catN (@pe_lstN _ _ _ _ (@pa_cons _ _ _ _ _ pe_str pa_nil (by rfl))) (pv 4)) (@pa_cons _ _ _ _ _ (pv 5) pa_nil (by rfl)) (by rfl)))))
      pss_nil)
    (@pss_cons _ _ _ _ _ (ps_asg (pe_call (G__law_made.mono (by omega)) hr rfl d__law_made.m d__law_made.fn.kp d__law_made.b .nil pass0 (@pa_cons _ _ _ _ _ (pv 0) (@pa_cons _ _ _ _ _ (pv 5) (@pa_cons _ _ _ _ _ (@pe_op _ _ _ _ _ _ _ _ op_sub (pv 2) pe_int) pa_nil (by rfl)) (by rfl)) (by rfl))) (pg_tupK (K := K) (n := 2) rfl rfl (pgs_cons (pg_name (i := 6) sc__law_made.nd rfl (Or.inl rfl)) (pgs_cons (pg_name (i := 7) sc__law_made.nd rfl (Or.inl rfl)) pgs_nil))))
    (@pss_one _ _ _ (@ps_ret _ _ _ _ (@pe_tupN _ _ _ _ _ (@pa_cons _ _ _ _ _ (@pe_op _ _ _ _ _ _ _ _ op_catN (@pe_op _ _ _ _ _ _ _ _ op_catN (@pe_lstN _ _ _ _ (@pa_cons _ _ _ _ _ (pe_ix (ix_listK (K := K) rfl) (pe_call0 (G__law_workings.mono (by omega)) hr rfl d__law_workings.m d__law_workings.fn.kp d__law_workings.b .nil pass0) (@pe_op _ _ _ _ _ _ _ _ op_modM (@pe_op _ _ _ _ _ _ _ _ op_fdivM (pv 3) pe_int) pe_int) (fun _ _ => rfl)) pa_nil (by rfl))) (pv 4)) (pv 6)) (@pa_cons _ _ _ _ _ (pv 7) pa_nil (by rfl)) (by rfl)))))))))), ?_⟩
  refine seq_cut (fun σ' H2 => H = H2 ∧ ∃ c : Int, 0 ≤ c ∧ σ' = [some (V.ref a), some (V.int k), some (V.int r), some (V.int c), none, none, none, none]) (fun N hN => ⟨_, rfl, _, rfl, a, cs, k, rfl, hS, hl, h0, fun c hc => hN _ _ ⟨rfl, c, hc, rfl⟩⟩) ?_
  rintro σ' H2 ⟨rfl, c, hc, rfl⟩
  have lw : ∀ w ∈ leafW, Gd w := fun w h => .inr (.inr h)
  refine seq_cut (fun σ' H2 => H = H2 ∧ σ' = [some (V.ref a), some (V.int k), some (V.int r), some (V.int c), none, none, none, none] ∧ r ≠ 0) (fun N hN => ?_) ?_
  · simp only [tSeq, tNext, tRet, tRetN, tIfS, tAsg, gName, gSub, tDrop, tVar, tC, tTest, tB, tOp, tUn, tChain, tAnd, tOr, tNot, tAndV, tOrV, tNotV, tIf, tNil, tCons, tTupN, tLstN, tCall, tCB, tBM, tBM0, tSl, tPart, tNoPart, rI, rI0, rU, rIxL, rIxT, rIxS, rSlTN, rSlLN, rCatN, rEq, rNe, rEqD, rIn, rMulS, rAppend, rLen, rLenS, rIsiT, rIsiL, rIsi, rIsiA, rIsiT, rIsi, rAll, rAny, rSw, rFind, rIntS, rSetL, L2.start, List.map_cons, List.map_nil, List.length_cons, List.length_nil, Nat.reduceAdd, Nat.reduceSub, List.replicate_succ, List.replicate_zero, List.cons_append, List.nil_append, List.append_nil, List.getElem?_cons_zero, List.getElem?_cons_succ, List.set_cons_zero, List.set_cons_succ, Option.some.injEq, exists_eq_left', exists_eq_left, V.int.injEq, V.bl.injEq, V.str.injEq, V.ref.injEq, List.cons.injEq, and_true, true_and, Nat.zero_add, exists_and_left, exists_const, sp_sign, sp_name, sp_read, sp_whole, sp_mixedD, sp_kept, sp_sg, sp_take, sp_text, sp_due, sp_right, sp_wide, tFld, sFld, sFldAug, tMeth, tMake, rAdd, rSplit, rJoin, sp_readG, sp_init, sp_over, sp_taken, sp_words, sp_end, sp_expr, sp_readE, sp_lname, sp_lnum, sp_leaf, sp_cell, sp_rightE, tRaise, sp_wordX, sp_endX, sp_exprX, sp_readX, sp_works, sp_gleaf, sp_isleaf, sp_stands, sp_kindsX, sp_rightX, sp_noword, sp_spoilt, sp_blanks]
    refine ⟨rfl, ite2 (fun z => iteY trivial ⟨⟨by decide, by decide⟩, fun w H2 g2 hw => ?_⟩) (fun z => ⟨by decide, rfl, ite2 (fun z2 => iteY trivial ⟨⟨by decide, by decide⟩, fun w H2 g2 hw => ?_⟩) (fun z2 => ⟨_, .inl hS, ite2 (fun z3 => ⟨⟨by decide, by decide⟩, fun w H2 g2 hw => ?_⟩) (fun z3 => hN _ _ ⟨rfl, rfl, by simpa using z⟩)⟩)⟩)⟩
    all_goals
      exact ⟨by decide, fun pl H3 n3 => ⟨by decide, fun p2 H4 n4 => q p2 pl [w] (k + 1) H4 (g2.trans (n3.1.trans n4.1)) n4.2.2 (n4.1 _ _ n3.2.2) (by simpa using lw w hw) (by simp) (two_le r) (by omega)⟩⟩
  rintro σ' H2 ⟨rfl, rfl, rne⟩
  obtain ⟨r, rfl⟩ : ∃ r', r = r' + 1 := ⟨r - 1, by omega⟩
  cases n with
  | zero => omega
  | succ m =>
  have er : ((r + 1 : Nat) : Int) - 1 = (r : Int) := by omega
  have p1 := pow_le (r := r) (by omega)
  have p2 : 2 ^ (r + 1 + 1) = 2 ^ (r + 1) + 2 ^ (r + 1) := by rw [Nat.pow_succ 2 (r + 1)]; omega
  refine seq_cut (fun σ' H2 => Same H H2 ∧ ∃ (l : Addr) (ws : List Str) (k1 : Nat), H2 l = some (.lst (ws.map V.str)) ∧ (∀ w ∈ ws, Gd w) ∧ ws ≠ [] ∧ ws.length + 1 ≤ 2 ^ (r + 1) ∧ k + 1 < k1 ∧ σ' = [some (V.ref a), some (V.int k), some (V.int ((r + 1 : Nat) : Int)), some (V.int c), some (V.ref l), some (V.int k1), none, none]) (fun N hN => ?_) ?_
  · refine ⟨_, rfl, _, rfl, (k : Int), 1, rfl, rfl, _, rfl, ((r + 1 : Nat) : Int), 1, rfl, rfl, a, cs, k + 1, r, (by show [V.ref a, V.int ((k : Int) + 1), V.int (((r + 1 : Nat) : Int) - 1)] = _; rw [er]; rfl), hS, hl, h0, by omega, by omega, fun p l ws k1 H2 g2 hp hl2 gd ne ln kk => ?_⟩
    exact ⟨p, _, rfl, SqT.of hp, rfl, _, _, rfl, _, _, rfl, rfl, hN _ _ ⟨g2, l, ws, k1, hl2, gd, ne, ln, kk, rfl⟩⟩
  rintro σ' H2 ⟨g2, l, ws, k1, hl2, gd, ne, ln, kk, rfl⟩
  refine seq_cut (fun σ' H3 => H2 = H3 ∧ σ' = [some (V.ref a), some (V.int k), some (V.int ((r + 1 : Nat) : Int)), some (V.int c), some (V.ref l), some (V.int k1), none, none]) (fun N hN => ?_) ?_
  · simp only [tSeq, tNext, tRet, tRetN, tIfS, tAsg, gName, gSub, tDrop, tVar, tC, tTest, tB, tOp, tUn, tChain, tAnd, tOr, tNot, tAndV, tOrV, tNotV, tIf, tNil, tCons, tTupN, tLstN, tCall, tCB, tBM, tBM0, tSl, tPart, tNoPart, rI, rI0, rU, rIxL, rIxT, rIxS, rSlTN, rSlLN, rCatN, rEq, rNe, rEqD, rIn, rMulS, rAppend, rLen, rLenS, rIsiT, rIsiL, rIsi, rIsiA, rIsiT, rIsi, rAll, rAny, rSw, rFind, rIntS, rSetL, L2.start, List.map_cons, List.map_nil, List.length_cons, List.length_nil, Nat.reduceAdd, Nat.reduceSub, List.replicate_succ, List.replicate_zero, List.cons_append, List.nil_append, List.append_nil, List.getElem?_cons_zero, List.getElem?_cons_succ, List.set_cons_zero, List.set_cons_succ, Option.some.injEq, exists_eq_left', exists_eq_left, V.int.injEq, V.bl.injEq, V.str.injEq, V.ref.injEq, List.cons.injEq, and_true, true_and, Nat.zero_add, exists_and_left, exists_const, sp_sign, sp_name, sp_read, sp_whole, sp_mixedD, sp_kept, sp_sg, sp_take, sp_text, sp_due, sp_right, sp_wide, tFld, sFld, sFldAug, tMeth, tMake, rAdd, rSplit, rJoin, sp_readG, sp_init, sp_over, sp_taken, sp_words, sp_end, sp_expr, sp_readE, sp_lname, sp_lnum, sp_leaf, sp_cell, sp_rightE, tRaise, sp_wordX, sp_endX, sp_exprX, sp_readX, sp_works, sp_gleaf, sp_isleaf, sp_stands, sp_kindsX, sp_rightX, sp_noword, sp_spoilt, sp_blanks]
    refine ⟨⟨by decide, by decide⟩, by decide, rfl, ite2 (fun _ => ⟨by decide, fun p1 H3 n3 => ⟨_, n3.2.2, _, n3.1 _ _ hl2, small (by rw [List.length_map]; show 1 + _ ≤ _; omega), fun p2 H4 n4 => ⟨by decide, fun p3 H5 n5 => q p3 p2 (Str.ofString "box" :: ws) k1 H5 (g2.trans (n3.1.trans (n4.1.trans n5.1))) n5.2.2 (n5.1 _ _ n4.2.2) ?_ (by simp) (by rw [List.length_cons]; omega) (by omega)⟩⟩⟩) (fun _ => hN _ _ ⟨rfl, rfl⟩)⟩
    intro w hw
    rcases List.mem_cons.mp hw with rfl | hw
    · exact .inl rfl
    · exact gd w hw
  rintro σ' H3 ⟨rfl, rfl⟩
  refine seq_cut (fun σ' H3 => Same H2 H3 ∧ ∃ (l2 : Addr) (us : List Str) (k2 : Nat), H3 l2 = some (.lst (us.map V.str)) ∧ (∀ w ∈ us, Gd w) ∧ us.length + 1 ≤ 2 ^ (r + 1) ∧ k1 < k2 ∧ σ' = [some (V.ref a), some (V.int k), some (V.int ((r + 1 : Nat) : Int)), some (V.int c), some (V.ref l), some (V.int k1), some (V.ref l2), some (V.int k2)]) (fun N hN => ?_) ?_
  · refine ⟨_, rfl, _, rfl, _, rfl, ((r + 1 : Nat) : Int), 1, rfl, rfl, a, cs, k1, r, (by show [V.ref a, V.int (k1 : Int), V.int (((r + 1 : Nat) : Int) - 1)] = _; rw [er]), g2.seq hS, hl, h0, by omega, by omega, fun p l2 us k2 H3 g3 hp hl3 gd3 ne3 ln3 kk3 => ?_⟩
    exact ⟨p, _, rfl, SqT.of hp, rfl, _, _, rfl, _, _, rfl, rfl, hN _ _ ⟨g3, l2, us, k2, hl3, gd3, ln3, kk3, rfl⟩⟩
  rintro σ' H3 ⟨g3, l2, us, k2, hl3, gd3, ln3, kk3, rfl⟩
  obtain ⟨w, hw1, hw2⟩ := work_at (mod_lo (c.fdiv 12) (m := 7) (by decide)) (mod_hi (c.fdiv 12) (m := 7) (by decide))
  simp only [tSeq, tNext, tRet, tRetN, tIfS, tAsg, gName, gSub, tDrop, tVar, tC, tTest, tB, tOp, tUn, tChain, tAnd, tOr, tNot, tAndV, tOrV, tNotV, tIf, tNil, tCons, tTupN, tLstN, tCall, tCB, tBM, tBM0, tSl, tPart, tNoPart, rI, rI0, rU, rIxL, rIxT, rIxS, rSlTN, rSlLN, rCatN, rEq, rNe, rEqD, rIn, rMulS, rAppend, rLen, rLenS, rIsiT, rIsiL, rIsi, rIsiA, rIsiT, rIsi, rAll, rAny, rSw, rFind, rIntS, rSetL, L2.start, List.map_cons, List.map_nil, List.length_cons, List.length_nil, Nat.reduceAdd, Nat.reduceSub, List.replicate_succ, List.replicate_zero, List.cons_append, List.nil_append, List.append_nil, List.getElem?_cons_zero, List.getElem?_cons_succ, List.set_cons_zero, List.set_cons_succ, Option.some.injEq, exists_eq_left', exists_eq_left, V.int.injEq, V.bl.injEq, V.str.injEq, V.ref.injEq, List.cons.injEq, and_true, true_and, Nat.zero_add, exists_and_left, exists_const, sp_sign, sp_name, sp_read, sp_whole, sp_mixedD, sp_kept, sp_sg, sp_take, sp_text, sp_due, sp_right, sp_wide, tFld, sFld, sFldAug, tMeth, tMake, rAdd, rSplit, rJoin, sp_readG, sp_init, sp_over, sp_taken, sp_words, sp_end, sp_expr, sp_readE, sp_lname, sp_lnum, sp_leaf, sp_cell, sp_rightE, tRaise, sp_wordX, sp_endX, sp_exprX, sp_readX, sp_works, sp_gleaf, sp_isleaf, sp_stands, sp_kindsX, sp_rightX, sp_noword, sp_spoilt, sp_blanks]
  refine fun p H4 n4 => ⟨⟨by decide, by decide⟩, by decide, _, SqL.of n4.2.2, _, hw1, by decide, fun p5 H5 n5 => ⟨_, n5.2.2, _, n5.1 _ _ (n4.1 _ _ (g3 _ _ hl2)), small (by rw [List.length_map]; show 1 + _ ≤ _; omega), fun p6 H6 n6 => ⟨_, n6.2.2, _, n6.1 _ _ (n5.1 _ _ (n4.1 _ _ hl3)), small (by rw [List.length_append, List.length_map, List.length_map]; show 1 + _ + _ ≤ _; omega), fun p7 H7 n7 => ⟨by decide, fun p8 H8 n8 => q p8 p7 (w :: (ws ++ us)) k2 H8 (g2.trans (g3.trans (n4.1.trans (n5.1.trans (n6.1.trans (n7.1.trans n8.1)))))) n8.2.2 (by rw [n8.1 _ _ n7.2.2]; simp) ?_ (by simp) (by simp only [List.length_cons, List.length_append]; omega) (by omega)⟩⟩⟩⟩
  intro x hx
  rcases List.mem_cons.mp hx with rfl | hx
  · exact .inr (.inl hw2)
  · rcases List.mem_append.mp hx with h | h
    · exact gd x h
    · exact gd3 x h
theorem ok__law_made {f__law_made : Addr} {fd__law_made : FuncData} (d__law_made : Df K mg "_law_made" s__law_made ["_law_cells", "_law_at", "_law_room"] f__law_made fd__law_made) {f__law_cell_at : Addr} {fd__law_cell_at : FuncData} (d__law_cell_at : Df K mg "_law_cell_at" s__law_cell_at ["_law_cells", "_law_k"] f__law_cell_at fd__law_cell_at) (G__law_cell_at : FnOk P w K mg base CX0 1 f__law_cell_at fd__law_cell_at ["_law_cells", "_law_k"] (sp_cell K)) {f__law_good_leaf : Addr} {fd__law_good_leaf : FuncData} (d__law_good_leaf : Df K mg "_law_good_leaf" s__law_good_leaf ["_law_cell"] f__law_good_leaf fd__law_good_leaf) (G__law_good_leaf : FnOk P w K mg base CX0 1 f__law_good_leaf fd__law_good_leaf ["_law_cell"] sp_gleaf) {f__law_workings : Addr} {fd__law_workings : FuncData} (d__law_workings : Df K mg "_law_workings" s__law_workings [] f__law_workings fd__law_workings) (G__law_workings : FnOk P w K mg base CX0 1 f__law_workings fd__law_workings [] sp_works) (z_len : mg "len" = none) : ∀ n, FnOk P w K mg base CX0 (1 + n) f__law_made fd__law_made ["_law_cells", "_law_at", "_law_room"] (sp_madeX K n)
  | 0 => FnOk.never
  | n + 1 => okS__law_made d__law_made d__law_cell_at G__law_cell_at d__law_good_leaf G__law_good_leaf d__law_workings G__law_workings z_len (ok__law_made d__law_made d__law_cell_at G__law_cell_at d__law_good_leaf G__law_good_leaf d__law_workings G__law_workings z_len n)
end
theorem sc__law_any_word : FnScope ["_law_cell"] ["_law_cell"] (defScope s__law_any_word) := ⟨rfl, rfl, rfl, by decide +kernel, rfl, by decide +kernel, by decide +kernel⟩
section
variable {P : Program} {w : World} {K : PySem.W.Frag} {mg : Str → Option Value} {base : Heap} {c_NoLine : Addr} {c_Walk : Addr}
set_option maxHeartbeats 4000000 in
theorem ok__law_any_word {f : Addr} {fd : FuncData} (F : Fun K "_law_any_word" "_law_any_word" s__law_any_word f fd) {f__law_workings : Addr} {fd__law_workings : FuncData} (d__law_workings : Df K mg "_law_workings" s__law_workings [] f__law_workings fd__law_workings) (G__law_workings : FnOk P w K mg base CX0 1 f__law_workings fd__law_workings [] sp_works) {f__law_good_leaf : Addr} {fd__law_good_leaf : FuncData} (d__law_good_leaf : Df K mg "_law_good_leaf" s__law_good_leaf ["_law_cell"] f__law_good_leaf fd__law_good_leaf) (G__law_good_leaf : FnOk P w K mg base CX0 1 f__law_good_leaf fd__law_good_leaf ["_law_cell"] sp_gleaf) {f__law_no_word : Addr} {fd__law_no_word : FuncData} (d__law_no_word : Df K mg "_law_no_word" s__law_no_word ["_law_cell"] f__law_no_word fd__law_no_word) (G__law_no_word : FnOk P w K mg base CX0 1 f__law_no_word fd__law_no_word ["_law_cell"] sp_noword) : FnOk P w K mg base CX0 2 f fd ["_law_cell"] sp_noword := by
  refine F.ok sc__law_any_word (fun vs H Q E h => ?_) (fun cdv A outer s H vs Q E hr h => ?_)
  · obtain ⟨n, rfl, _⟩ := h
    rfl
  obtain ⟨n, rfl, hn, q⟩ := h
  refine ⟨_, (@pss_cons _ _ _ _ _ (@ps_if _ _ _ _ _ _ _ _ (pt_cmpR op_eq (@pe_op _ _ _ _ _ _ _ _ op_modM (pv 0) pe_int) pe_int (nomark _))
      (@pss_one _ _ _ (@ps_ret _ _ _ _ (pe_ix (ix_listK (K := K) rfl) (pe_call0 (G__law_workings.mono (by decide)) hr rfl d__law_workings.m d__law_workings.fn.kp d__law_workings.b .nil pass0) (@pe_op _ _ _ _ _ _ _ _ op_modM (@pe_op _ _ _ _ _ _ _ _ op_fdivM (pv 0) pe_int) pe_int) (fun _ _ => rfl))))
      pss_nil)
    (@pss_cons _ _ _ _ _ (@ps_if _ _ _ _ _ _ _ _ (pt_cmpR op_eq (@pe_op _ _ _ _ _ _ _ _ op_modM (pv 0) pe_int) pe_int (nomark _))
      (@pss_one _ _ _ (@ps_ret _ _ _ _ pe_str))
      pss_nil)
    (@pss_cons _ _ _ _ _ (@ps_if _ _ _ _ _ _ _ _ (pt_cmpR op_eq (@pe_op _ _ _ _ _ _ _ _ op_modM (pv 0) pe_int) pe_int (nomark _))
      (@pss_one _ _ _ (@ps_ret _ _ _ _ (pe_call (G__law_good_leaf.mono (by decide)) hr rfl d__law_good_leaf.m d__law_good_leaf.fn.kp d__law_good_leaf.b .nil pass0 (@pa_cons _ _ _ _ _ (@pe_op _ _ _ _ _ _ _ _ op_fdivM (pv 0) pe_int) pa_nil (by rfl)))))
      pss_nil)
    (@pss_one _ _ _ (@ps_ret _ _ _ _ (pe_call (G__law_no_word.mono (by decide)) hr rfl d__law_no_word.m d__law_no_word.fn.kp d__law_no_word.b .nil pass0 (@pa_cons _ _ _ _ _ (@pe_op _ _ _ _ _ _ _ _ op_fdivM (pv 0) pe_int) pa_nil (by rfl)))))))), ?_⟩
  have d0 := div_lo hn (m := 4) (by decide)
  refine seq_cut (fun σ' H1 => H = H1 ∧ σ' = [some (V.int n)]) (fun N hN => ?_) ?_
  · simp only [tSeq, tNext, tRet, tRetN, tIfS, tAsg, gName, gSub, tDrop, tVar, tC, tTest, tB, tOp, tUn, tChain, tAnd, tOr, tNot, tAndV, tOrV, tNotV, tIf, tNil, tCons, tTupN, tLstN, tCall, tCB, tBM, tBM0, tSl, tPart, tNoPart, rI, rI0, rU, rIxL, rIxT, rIxS, rSlTN, rSlLN, rCatN, rEq, rNe, rEqD, rIn, rMulS, rAppend, rLen, rLenS, rIsiT, rIsiL, rIsi, rIsiA, rIsiT, rIsi, rAll, rAny, rSw, rFind, rIntS, rSetL, L2.start, List.map_cons, List.map_nil, List.length_cons, List.length_nil, Nat.reduceAdd, Nat.reduceSub, List.replicate_succ, List.replicate_zero, List.cons_append, List.nil_append, List.append_nil, List.getElem?_cons_zero, List.getElem?_cons_succ, List.set_cons_zero, List.set_cons_succ, Option.some.injEq, exists_eq_left', exists_eq_left, V.int.injEq, V.bl.injEq, V.str.injEq, V.ref.injEq, List.cons.injEq, and_true, true_and, Nat.zero_add, exists_and_left, exists_const, sp_sign, sp_name, sp_read, sp_whole, sp_mixedD, sp_kept, sp_sg, sp_take, sp_text, sp_due, sp_right, sp_wide, tFld, sFld, sFldAug, tMeth, tMake, rAdd, rSplit, rJoin, sp_readG, sp_init, sp_over, sp_taken, sp_words, sp_end, sp_expr, sp_readE, sp_lname, sp_lnum, sp_leaf, sp_cell, sp_rightE, tRaise, sp_wordX, sp_endX, sp_exprX, sp_readX, sp_works, sp_gleaf, sp_isleaf, sp_stands, sp_kindsX, sp_rightX, sp_noword, sp_spoilt, sp_blanks]
    obtain ⟨w, h1, h2⟩ := work_at (mod_lo (n.fdiv 4) (m := 7) (by decide)) (mod_hi (n.fdiv 4) (m := 7) (by decide))
    exact ⟨by decide, rfl, ite2 (fun _ => fun p H' np => ⟨⟨by decide, by decide⟩, by decide, _, SqL.of np.2.2, _, h1, q w _ np.1 (.inl (.inr (.inl h2)))⟩) (fun _ => hN _ _ ⟨rfl, rfl⟩)⟩
  rintro σ' H1 ⟨rfl, rfl⟩
  refine seq_cut (fun σ' H1 => H = H1 ∧ σ' = [some (V.int n)]) (fun N hN => ?_) ?_
  · simp only [tSeq, tNext, tRet, tRetN, tIfS, tAsg, gName, gSub, tDrop, tVar, tC, tTest, tB, tOp, tUn, tChain, tAnd, tOr, tNot, tAndV, tOrV, tNotV, tIf, tNil, tCons, tTupN, tLstN, tCall, tCB, tBM, tBM0, tSl, tPart, tNoPart, rI, rI0, rU, rIxL, rIxT, rIxS, rSlTN, rSlLN, rCatN, rEq, rNe, rEqD, rIn, rMulS, rAppend, rLen, rLenS, rIsiT, rIsiL, rIsi, rIsiA, rIsiT, rIsi, rAll, rAny, rSw, rFind, rIntS, rSetL, L2.start, List.map_cons, List.map_nil, List.length_cons, List.length_nil, Nat.reduceAdd, Nat.reduceSub, List.replicate_succ, List.replicate_zero, List.cons_append, List.nil_append, List.append_nil, List.getElem?_cons_zero, List.getElem?_cons_succ, List.set_cons_zero, List.set_cons_succ, Option.some.injEq, exists_eq_left', exists_eq_left, V.int.injEq, V.bl.injEq, V.str.injEq, V.ref.injEq, List.cons.injEq, and_true, true_and, Nat.zero_add, exists_and_left, exists_const, sp_sign, sp_name, sp_read, sp_whole, sp_mixedD, sp_kept, sp_sg, sp_take, sp_text, sp_due, sp_right, sp_wide, tFld, sFld, sFldAug, tMeth, tMake, rAdd, rSplit, rJoin, sp_readG, sp_init, sp_over, sp_taken, sp_words, sp_end, sp_expr, sp_readE, sp_lname, sp_lnum, sp_leaf, sp_cell, sp_rightE, tRaise, sp_wordX, sp_endX, sp_exprX, sp_readX, sp_works, sp_gleaf, sp_isleaf, sp_stands, sp_kindsX, sp_rightX, sp_noword, sp_spoilt, sp_blanks]
    exact ⟨by decide, rfl, ite2 (fun _ => q _ _ (Same.refl _) (.inl (.inl rfl))) (fun _ => hN _ _ ⟨rfl, rfl⟩)⟩
  rintro σ' H1 ⟨rfl, rfl⟩
  refine seq_cut (fun σ' H1 => H = H1 ∧ σ' = [some (V.int n)]) (fun N hN => ?_) ?_
  · simp only [tSeq, tNext, tRet, tRetN, tIfS, tAsg, gName, gSub, tDrop, tVar, tC, tTest, tB, tOp, tUn, tChain, tAnd, tOr, tNot, tAndV, tOrV, tNotV, tIf, tNil, tCons, tTupN, tLstN, tCall, tCB, tBM, tBM0, tSl, tPart, tNoPart, rI, rI0, rU, rIxL, rIxT, rIxS, rSlTN, rSlLN, rCatN, rEq, rNe, rEqD, rIn, rMulS, rAppend, rLen, rLenS, rIsiT, rIsiL, rIsi, rIsiA, rIsiT, rIsi, rAll, rAny, rSw, rFind, rIntS, rSetL, L2.start, List.map_cons, List.map_nil, List.length_cons, List.length_nil, Nat.reduceAdd, Nat.reduceSub, List.replicate_succ, List.replicate_zero, List.cons_append, List.nil_append, List.append_nil, List.getElem?_cons_zero, List.getElem?_cons_succ, List.set_cons_zero, List.set_cons_succ, Option.some.injEq, exists_eq_left', exists_eq_left, V.int.injEq, V.bl.injEq, V.str.injEq, V.ref.injEq, List.cons.injEq, and_true, true_and, Nat.zero_add, exists_and_left, exists_const, sp_sign, sp_name, sp_read, sp_whole, sp_mixedD, sp_kept, sp_sg, sp_take, sp_text, sp_due, sp_right, sp_wide, tFld, sFld, sFldAug, tMeth, tMake, rAdd, rSplit, rJoin, sp_readG, sp_init, sp_over, sp_taken, sp_words, sp_end, sp_expr, sp_readE, sp_lname, sp_lnum, sp_leaf, sp_cell, sp_rightE, tRaise, sp_wordX, sp_endX, sp_exprX, sp_readX, sp_works, sp_gleaf, sp_isleaf, sp_stands, sp_kindsX, sp_rightX, sp_noword, sp_spoilt, sp_blanks]
    exact ⟨by decide, rfl, ite2 (fun _ => ⟨⟨by decide, by decide⟩, fun w H' g hw => q w _ g (.inl (.inr (.inr hw)))⟩) (fun _ => hN _ _ ⟨rfl, rfl⟩)⟩
  rintro σ' H1 ⟨rfl, rfl⟩
  simp only [tSeq, tNext, tRet, tRetN, tIfS, tAsg, gName, gSub, tDrop, tVar, tC, tTest, tB, tOp, tUn, tChain, tAnd, tOr, tNot, tAndV, tOrV, tNotV, tIf, tNil, tCons, tTupN, tLstN, tCall, tCB, tBM, tBM0, tSl, tPart, tNoPart, rI, rI0, rU, rIxL, rIxT, rIxS, rSlTN, rSlLN, rCatN, rEq, rNe, rEqD, rIn, rMulS, rAppend, rLen, rLenS, rIsiT, rIsiL, rIsi, rIsiA, rIsiT, rIsi, rAll, rAny, rSw, rFind, rIntS, rSetL, L2.start, List.map_cons, List.map_nil, List.length_cons, List.length_nil, Nat.reduceAdd, Nat.reduceSub, List.replicate_succ, List.replicate_zero, List.cons_append, List.nil_append, List.append_nil, List.getElem?_cons_zero, List.getElem?_cons_succ, List.set_cons_zero, List.set_cons_succ, Option.some.injEq, exists_eq_left', exists_eq_left, V.int.injEq, V.bl.injEq, V.str.injEq, V.ref.injEq, List.cons.injEq, and_true, true_and, Nat.zero_add, exists_and_left, exists_const, sp_sign, sp_name, sp_read, sp_whole, sp_mixedD, sp_kept, sp_sg, sp_take, sp_text, sp_due, sp_right, sp_wide, tFld, sFld, sFldAug, tMeth, tMake, rAdd, rSplit, rJoin, sp_readG, sp_init, sp_over, sp_taken, sp_words, sp_end, sp_expr, sp_readE, sp_lname, sp_lnum, sp_leaf, sp_cell, sp_rightE, tRaise, sp_wordX, sp_endX, sp_exprX, sp_readX, sp_works, sp_gleaf, sp_isleaf, sp_stands, sp_kindsX, sp_rightX, sp_noword, sp_spoilt, sp_blanks]
  exact ⟨⟨by decide, by decide⟩, d0, q⟩
end
theorem sc__law_spoilt : FnScope ["_law_words", "_law_cell", "_law_more", "_law_at", "_law_way"] ["_law_words", "_law_cell", "_law_more"] (defScope s__law_spoilt) := ⟨rfl, rfl, rfl, by decide +kernel, rfl, by decide +kernel, by decide +kernel⟩
section
variable {P : Program} {w : World} {K : PySem.W.Frag} {mg : Str → Option Value} {base : Heap} {c_NoLine : Addr} {c_Walk : Addr}
set_option maxHeartbeats 4000000 in
theorem ok__law_spoilt {f : Addr} {fd : FuncData} (F : Fun K "_law_spoilt" "_law_spoilt" s__law_spoilt f fd) {f__law_any_word : Addr} {fd__law_any_word : FuncData} (d__law_any_word : Df K mg "_law_any_word" s__law_any_word ["_law_cell"] f__law_any_word fd__law_any_word) (G__law_any_word : FnOk P w K mg base CX0 2 f__law_any_word fd__law_any_word ["_law_cell"] sp_noword) (z_len : mg "len" = none) (z_list : mg "list" = none) : FnOk P w K mg base CX0 3 f fd ["_law_words", "_law_cell", "_law_more"] sp_spoilt := by
  refine F.ok sc__law_spoilt (fun vs H Q E h => ?_) (fun cdv A outer s H vs Q E hr h => ?_)
  · obtain ⟨l, ws, c, m, rfl, _⟩ := h
    rfl
  obtain ⟨l, ws, c, m, rfl, hw, h0, hl, hc, hm, hd, q⟩ := h
  refine ⟨_, (@pss_cons _ _ _ _ _ (@ps_set _ _ 3 _ _ _ _ sc__law_spoilt.nd rfl (Or.inl rfl) (@pe_op _ _ _ _ _ _ _ _ op_modM (pv 2) (pe_callB (call_len_seqK (K := K) rfl) rfl z_len PySem.boot_len (@pa_cons _ _ _ _ _ (pv 0) pa_nil (by rfl)))) (by rfl) (by first | exact .inl rfl | exact .inr rfl))
    (@pss_cons _ _ _ _ _ (@ps_set _ _ 4 _ _ _ _ sc__law_spoilt.nd rfl (Or.inl rfl) (@pe_op _ _ _ _ _ _ _ _ op_modM (pv 1) pe_int) (by rfl) (by first | exact .inl rfl | exact .inr rfl))
    (@pss_cons _ _ _ _ _ (@ps_if _ _ _ _ _ _ _ _ (pt_cmpR op_eq (pv 4) pe_int (nomark _))
      (@pss_one _ _ _ (@ps_ret _ _ _ _ (@pe_op _ _ _ _ _ _ _ _ op_catN (pe_slice (sl_listN (K := K) rfl) (pv 0) po_none (po_some (pv 3))) (pe_slice (sl_listN (K := K) rfl) (pv 0) (po_some (@pe_op _ _ _ _ _ _ _ _ op_add (pv 3) pe_int)) po_none))))
      pss_nil)
    (@pss_cons _ _ _ _ _ (@ps_if _ _ _ _ _ _ _ _ (pt_cmpR op_eq (pv 4) pe_int (nomark _))
      (@pss_one _ _ _ (@ps_ret _ _ _ _ (@pe_op _ _ _ _ _ _ _ _ op_catN (@pe_op _ _ _ _ _ _ _ _ op_catN (pe_slice (sl_listN (K := K) rfl) (pv 0) po_none (po_some (pv 3))) (@pe_lstN _ _ _ _ (@pa_cons _ _ _ _ _ (pe_ix (ix_listK (K := K) rfl) (pv 0) (pv 3) (fun _ _ => rfl)) pa_nil (by rfl)))) (pe_slice (sl_listN (K := K) rfl) (pv 0) (po_some (pv 3)) po_none))))
      pss_nil)
    (@pss_cons _ _ _ _ _ (@ps_if _ _ _ _ _ _ _ _ (pt_cmpR op_eq (pv 4) pe_int (nomark _))
      (@pss_one _ _ _ (@ps_ret _ _ _ _ (@pe_op _ _ _ _ _ _ _ _ op_catN (@pe_op _ _ _ _ _ _ _ _ op_catN (pe_slice (sl_listN (K := K) rfl) (pv 0) po_none (po_some (pv 3))) (@pe_lstN _ _ _ _ (@pa_cons _ _ _ _ _ (pe_call (G__law_any_word.mono (by decide)) hr rfl d__law_any_word.m d__law_any_word.fn.kp d__law_any_word.b .nil pass0 (@pa_cons _ _ _ _ _ (@pe_op _ _ _ _ _ _ _ _ op_fdivM (pv 1) pe_int) pa_nil (by rfl))) pa_nil (by rfl)))) (pe_slice (sl_listN (K := K) rfl) (pv 0) (po_some (@pe_op _ _ _ _ _ _ _ _ op_add (pv 3) pe_int)) po_none))))
      pss_nil)
    (@pss_cons _ _ _ _ _ (@ps_if _ _ _ _ _ _ _ _ (pt_cmpR op_eq (pv 4) pe_int (nomark _))
      (@pss_one _ _ _ (@ps_ret _ _ _ _ (@pe_op _ _ _ _ _ _ _ _ op_catN (@pe_op _ _ _ _ _ _ _ _ op_catN (pe_slice (sl_listN (K := K) rfl) (pv 0) po_none (po_some (@pe_op _ _ _ _ _ _ _ _ op_add (pv 3) pe_int))) (@pe_lstN _ _ _ _ (@pa_cons _ _ _ _ _ (pe_call (G__law_any_word.mono (by decide)) hr rfl d__law_any_word.m d__law_any_word.fn.kp d__law_any_word.b .nil pass0 (@pa_cons _ _ _ _ _ (@pe_op _ _ _ _ _ _ _ _ op_fdivM (pv 1) pe_int) pa_nil (by rfl))) pa_nil (by rfl)))) (pe_slice (sl_listN (K := K) rfl) (pv 0) (po_some (@pe_op _ _ _ _ _ _ _ _ op_add (pv 3) pe_int)) po_none))))
      pss_nil)
    (@pss_one _ _ _ (@ps_ret _ _ _ _ (pe_callTy (call_list_ofK (K := K) rfl) rfl z_list boot_list (@pa_cons _ _ _ _ _ (pv 0) pa_nil (by rfl))))))))))), ?_⟩
  have l0 : ws.length ≠ 0 := fun e => h0 (List.length_eq_zero_iff.mp e)
  have d0 := div_lo hc (m := 6) (by decide)
  have a0 := mod_lo m (m := (ws.length : Int)) (by omega)
  have a1 := mod_hi m (m := (ws.length : Int)) (by omega)
  refine seq_cut (fun σ' H1 => H = H1 ∧ σ' = [some (V.ref l), some (V.int c), some (V.int m), some (V.int (m.fmod (ws.length : Int))), none]) (fun N hN => ?_) ?_
  · refine ⟨_, rfl, _, rfl, l, _, rfl, .inl (SqL.of hw), m, _, rfl, rfl, by rw [List.length_map]; omega, hN _ _ ⟨rfl, ?_⟩⟩
    show [_, _, _, some (V.int (m.fmod ((ws.map V.str).length : Int))), _] = _
    rw [List.length_map]
  rintro σ' H1 ⟨rfl, rfl⟩
  generalize m.fmod (ws.length : Int) = t at a0 a1
  refine seq_cut (fun σ' H1 => H = H1 ∧ σ' = [some (V.ref l), some (V.int c), some (V.int m), some (V.int t), some (V.int (c.fmod 6))]) (fun N hN => ⟨_, rfl, c, 6, rfl, rfl, (show (6 : Int) ≠ 0 by decide), hN _ _ ⟨rfl, rfl⟩⟩) ?_
  rintro σ' H1 ⟨rfl, rfl⟩
  obtain ⟨v, hv⟩ := at_ok (xs := ws.map V.str) a0 (by rw [List.length_map]; exact a1)
  obtain ⟨wt, hwt, rfl⟩ := List.mem_map.mp (at_mem hv)
  have fin : ∀ (lo hi : Option Int) (ms : List Str) (p : Addr) (H5 : Hp), ms.length ≤ 1 → (∀ w ∈ ms, Wd w) → Same H H5 → H5 p = some (.lst (cutV (ws.map V.str) none lo ++ ms.map V.str ++ cutV (ws.map V.str) hi none)) → Q (.ref p) H5 := by
    intro lo hi ms p H5 m1 m2 g h5
    obtain ⟨xs, x1, x2, x3⟩ := cut_wd hd none lo
    obtain ⟨ys, y1, y2, y3⟩ := cut_wd hd hi none
    refine q p (xs ++ ms ++ ys) H5 g (by rw [h5, x1, y1]; simp) (by simp; omega) fun w hw2 => ?_
    rcases List.mem_append.mp hw2 with h | h
    · rcases List.mem_append.mp h with h | h
      · exact x2 w h
      · exact m2 w h
    · exact y2 w h
  have len : ∀ (lo hi : Option Int), (cutV (ws.map V.str) lo hi).length ≤ 100 := fun lo hi => by
    have := cutV_length (ws.map V.str) lo hi
    rw [List.length_map] at this
    omega
  refine seq_cut (fun σ' H1 => H = H1 ∧ σ' = [some (V.ref l), some (V.int c), some (V.int m), some (V.int t), some (V.int (c.fmod 6))]) (fun N hN => ?_) ?_
  · simp only [tSeq, tNext, tRet, tRetN, tIfS, tAsg, gName, gSub, tDrop, tVar, tC, tTest, tB, tOp, tUn, tChain, tAnd, tOr, tNot, tAndV, tOrV, tNotV, tIf, tNil, tCons, tTupN, tLstN, tCall, tCB, tBM, tBM0, tSl, tPart, tNoPart, rI, rI0, rU, rIxL, rIxT, rIxS, rSlTN, rSlLN, rCatN, rEq, rNe, rEqD, rIn, rMulS, rAppend, rLen, rLenS, rIsiT, rIsiL, rIsi, rIsiA, rIsiT, rIsi, rAll, rAny, rSw, rFind, rIntS, rSetL, L2.start, List.map_cons, List.map_nil, List.length_cons, List.length_nil, Nat.reduceAdd, Nat.reduceSub, List.replicate_succ, List.replicate_zero, List.cons_append, List.nil_append, List.append_nil, List.getElem?_cons_zero, List.getElem?_cons_succ, List.set_cons_zero, List.set_cons_succ, Option.some.injEq, exists_eq_left', exists_eq_left, V.int.injEq, V.bl.injEq, V.str.injEq, V.ref.injEq, List.cons.injEq, and_true, true_and, Nat.zero_add, exists_and_left, exists_const, sp_sign, sp_name, sp_read, sp_whole, sp_mixedD, sp_kept, sp_sg, sp_take, sp_text, sp_due, sp_right, sp_wide, tFld, sFld, sFldAug, tMeth, tMake, rAdd, rSplit, rJoin, sp_readG, sp_init, sp_over, sp_taken, sp_words, sp_end, sp_expr, sp_readE, sp_lname, sp_lnum, sp_leaf, sp_cell, sp_rightE, tRaise, sp_wordX, sp_endX, sp_exprX, sp_readX, sp_works, sp_gleaf, sp_isleaf, sp_stands, sp_kindsX, sp_rightX, sp_noword, sp_spoilt, sp_blanks, rListOf]
    exact ⟨rfl, ite2 (fun _ => ⟨_, SqL.of hw, fun p1 H1 n1 => ⟨_, SqL.of (n1.1 _ _ hw), fun p2 H2 n2 => ⟨_, n2.1 _ _ n1.2.2, _, n2.2.2, small (by have := len none (some t); have := len none (some (t + 1)); have := len (some t) none; have := len (some (t + 1)) none; first | omega | (simp only [List.length_append, List.length_cons, List.length_nil]; omega)), fun p3 H3 n3 => fin (some t) (some (t + 1)) [] p3 H3 (by simp) (by simp) (n1.1.trans (n2.1.trans n3.1)) (by rw [n3.2.2]; simp)⟩⟩⟩) (fun _ => hN _ _ ⟨rfl, rfl⟩)⟩
  rintro σ' H1 ⟨rfl, rfl⟩
  refine seq_cut (fun σ' H1 => H = H1 ∧ σ' = [some (V.ref l), some (V.int c), some (V.int m), some (V.int t), some (V.int (c.fmod 6))]) (fun N hN => ?_) ?_
  · simp only [tSeq, tNext, tRet, tRetN, tIfS, tAsg, gName, gSub, tDrop, tVar, tC, tTest, tB, tOp, tUn, tChain, tAnd, tOr, tNot, tAndV, tOrV, tNotV, tIf, tNil, tCons, tTupN, tLstN, tCall, tCB, tBM, tBM0, tSl, tPart, tNoPart, rI, rI0, rU, rIxL, rIxT, rIxS, rSlTN, rSlLN, rCatN, rEq, rNe, rEqD, rIn, rMulS, rAppend, rLen, rLenS, rIsiT, rIsiL, rIsi, rIsiA, rIsiT, rIsi, rAll, rAny, rSw, rFind, rIntS, rSetL, L2.start, List.map_cons, List.map_nil, List.length_cons, List.length_nil, Nat.reduceAdd, Nat.reduceSub, List.replicate_succ, List.replicate_zero, List.cons_append, List.nil_append, List.append_nil, List.getElem?_cons_zero, List.getElem?_cons_succ, List.set_cons_zero, List.set_cons_succ, Option.some.injEq, exists_eq_left', exists_eq_left, V.int.injEq, V.bl.injEq, V.str.injEq, V.ref.injEq, List.cons.injEq, and_true, true_and, Nat.zero_add, exists_and_left, exists_const, sp_sign, sp_name, sp_read, sp_whole, sp_mixedD, sp_kept, sp_sg, sp_take, sp_text, sp_due, sp_right, sp_wide, tFld, sFld, sFldAug, tMeth, tMake, rAdd, rSplit, rJoin, sp_readG, sp_init, sp_over, sp_taken, sp_words, sp_end, sp_expr, sp_readE, sp_lname, sp_lnum, sp_leaf, sp_cell, sp_rightE, tRaise, sp_wordX, sp_endX, sp_exprX, sp_readX, sp_works, sp_gleaf, sp_isleaf, sp_stands, sp_kindsX, sp_rightX, sp_noword, sp_spoilt, sp_blanks, rListOf]
    exact ⟨rfl, ite2 (fun _ => ⟨_, SqL.of hw, fun p1 H1 n1 => ⟨_, SqL.of (n1.1 _ _ hw), _, hv, by decide, fun p2 H2 n2 => ⟨_, n2.1 _ _ n1.2.2, _, n2.2.2, small (by have := len none (some t); have := len none (some (t + 1)); have := len (some t) none; have := len (some (t + 1)) none; first | omega | (simp only [List.length_append, List.length_cons, List.length_nil]; omega)), fun p3 H3 n3 => ⟨_, SqL.of (n3.1 _ _ (n2.1 _ _ (n1.1 _ _ hw))), fun p4 H4 n4 => ⟨_, n4.1 _ _ n3.2.2, _, n4.2.2, small (by have := len none (some t); have := len none (some (t + 1)); have := len (some t) none; have := len (some (t + 1)) none; first | omega | (simp only [List.length_append, List.length_cons, List.length_nil]; omega)), fun p5 H5 n5 => fin (some t) (some t) [wt] p5 H5 (by simp) (by simpa using hd wt hwt) (n1.1.trans (n2.1.trans (n3.1.trans (n4.1.trans n5.1)))) (by rw [n5.2.2]; rfl)⟩⟩⟩⟩⟩) (fun _ => hN _ _ ⟨rfl, rfl⟩)⟩
  rintro σ' H1 ⟨rfl, rfl⟩
  refine seq_cut (fun σ' H1 => H = H1 ∧ σ' = [some (V.ref l), some (V.int c), some (V.int m), some (V.int t), some (V.int (c.fmod 6))]) (fun N hN => ?_) ?_
  · simp only [tSeq, tNext, tRet, tRetN, tIfS, tAsg, gName, gSub, tDrop, tVar, tC, tTest, tB, tOp, tUn, tChain, tAnd, tOr, tNot, tAndV, tOrV, tNotV, tIf, tNil, tCons, tTupN, tLstN, tCall, tCB, tBM, tBM0, tSl, tPart, tNoPart, rI, rI0, rU, rIxL, rIxT, rIxS, rSlTN, rSlLN, rCatN, rEq, rNe, rEqD, rIn, rMulS, rAppend, rLen, rLenS, rIsiT, rIsiL, rIsi, rIsiA, rIsiT, rIsi, rAll, rAny, rSw, rFind, rIntS, rSetL, L2.start, List.map_cons, List.map_nil, List.length_cons, List.length_nil, Nat.reduceAdd, Nat.reduceSub, List.replicate_succ, List.replicate_zero, List.cons_append, List.nil_append, List.append_nil, List.getElem?_cons_zero, List.getElem?_cons_succ, List.set_cons_zero, List.set_cons_succ, Option.some.injEq, exists_eq_left', exists_eq_left, V.int.injEq, V.bl.injEq, V.str.injEq, V.ref.injEq, List.cons.injEq, and_true, true_and, Nat.zero_add, exists_and_left, exists_const, sp_sign, sp_name, sp_read, sp_whole, sp_mixedD, sp_kept, sp_sg, sp_take, sp_text, sp_due, sp_right, sp_wide, tFld, sFld, sFldAug, tMeth, tMake, rAdd, rSplit, rJoin, sp_readG, sp_init, sp_over, sp_taken, sp_words, sp_end, sp_expr, sp_readE, sp_lname, sp_lnum, sp_leaf, sp_cell, sp_rightE, tRaise, sp_wordX, sp_endX, sp_exprX, sp_readX, sp_works, sp_gleaf, sp_isleaf, sp_stands, sp_kindsX, sp_rightX, sp_noword, sp_spoilt, sp_blanks, rListOf]
    exact ⟨rfl, ite2 (fun _ => ⟨_, SqL.of hw, fun p1 H1 n1 => ⟨⟨by decide, by decide⟩, d0, fun w H2 g2 ww => ⟨by decide, fun p2 H3 n3 => ⟨_, n3.1 _ _ (g2 _ _ n1.2.2), _, n3.2.2, small (by have := len none (some t); have := len none (some (t + 1)); have := len (some t) none; have := len (some (t + 1)) none; first | omega | (simp only [List.length_append, List.length_cons, List.length_nil]; omega)), fun p3 H4 n4 => ⟨_, SqL.of (n4.1 _ _ (n3.1 _ _ (g2 _ _ (n1.1 _ _ hw)))), fun p4 H5 n5 => ⟨_, n5.1 _ _ n4.2.2, _, n5.2.2, small (by have := len none (some t); have := len none (some (t + 1)); have := len (some t) none; have := len (some (t + 1)) none; first | omega | (simp only [List.length_append, List.length_cons, List.length_nil]; omega)), fun p5 H6 n6 => fin (some t) (some (t + 1)) [w] p5 H6 (by simp) (by simpa using ww) (n1.1.trans (g2.trans (n3.1.trans (n4.1.trans (n5.1.trans n6.1))))) (by rw [n6.2.2]; rfl)⟩⟩⟩⟩⟩⟩) (fun _ => hN _ _ ⟨rfl, rfl⟩)⟩
  rintro σ' H1 ⟨rfl, rfl⟩
  refine seq_cut (fun σ' H1 => H = H1 ∧ σ' = [some (V.ref l), some (V.int c), some (V.int m), some (V.int t), some (V.int (c.fmod 6))]) (fun N hN => ?_) ?_
  · simp only [tSeq, tNext, tRet, tRetN, tIfS, tAsg, gName, gSub, tDrop, tVar, tC, tTest, tB, tOp, tUn, tChain, tAnd, tOr, tNot, tAndV, tOrV, tNotV, tIf, tNil, tCons, tTupN, tLstN, tCall, tCB, tBM, tBM0, tSl, tPart, tNoPart, rI, rI0, rU, rIxL, rIxT, rIxS, rSlTN, rSlLN, rCatN, rEq, rNe, rEqD, rIn, rMulS, rAppend, rLen, rLenS, rIsiT, rIsiL, rIsi, rIsiA, rIsiT, rIsi, rAll, rAny, rSw, rFind, rIntS, rSetL, L2.start, List.map_cons, List.map_nil, List.length_cons, List.length_nil, Nat.reduceAdd, Nat.reduceSub, List.replicate_succ, List.replicate_zero, List.cons_append, List.nil_append, List.append_nil, List.getElem?_cons_zero, List.getElem?_cons_succ, List.set_cons_zero, List.set_cons_succ, Option.some.injEq, exists_eq_left', exists_eq_left, V.int.injEq, V.bl.injEq, V.str.injEq, V.ref.injEq, List.cons.injEq, and_true, true_and, Nat.zero_add, exists_and_left, exists_const, sp_sign, sp_name, sp_read, sp_whole, sp_mixedD, sp_kept, sp_sg, sp_take, sp_text, sp_due, sp_right, sp_wide, tFld, sFld, sFldAug, tMeth, tMake, rAdd, rSplit, rJoin, sp_readG, sp_init, sp_over, sp_taken, sp_words, sp_end, sp_expr, sp_readE, sp_lname, sp_lnum, sp_leaf, sp_cell, sp_rightE, tRaise, sp_wordX, sp_endX, sp_exprX, sp_readX, sp_works, sp_gleaf, sp_isleaf, sp_stands, sp_kindsX, sp_rightX, sp_noword, sp_spoilt, sp_blanks, rListOf]
    exact ⟨rfl, ite2 (fun _ => ⟨_, SqL.of hw, fun p1 H1 n1 => ⟨⟨by decide, by decide⟩, d0, fun w H2 g2 ww => ⟨by decide, fun p2 H3 n3 => ⟨_, n3.1 _ _ (g2 _ _ n1.2.2), _, n3.2.2, small (by have := len none (some t); have := len none (some (t + 1)); have := len (some t) none; have := len (some (t + 1)) none; first | omega | (simp only [List.length_append, List.length_cons, List.length_nil]; omega)), fun p3 H4 n4 => ⟨_, SqL.of (n4.1 _ _ (n3.1 _ _ (g2 _ _ (n1.1 _ _ hw)))), fun p4 H5 n5 => ⟨_, n5.1 _ _ n4.2.2, _, n5.2.2, small (by have := len none (some t); have := len none (some (t + 1)); have := len (some t) none; have := len (some (t + 1)) none; first | omega | (simp only [List.length_append, List.length_cons, List.length_nil]; omega)), fun p5 H6 n6 => fin (some (t + 1)) (some (t + 1)) [w] p5 H6 (by simp) (by simpa using ww) (n1.1.trans (g2.trans (n3.1.trans (n4.1.trans (n5.1.trans n6.1))))) (by rw [n6.2.2]; rfl)⟩⟩⟩⟩⟩⟩) (fun _ => hN _ _ ⟨rfl, rfl⟩)⟩
  rintro σ' H1 ⟨rfl, rfl⟩
  simp only [tSeq, tNext, tRet, tRetN, tIfS, tAsg, gName, gSub, tDrop, tVar, tC, tTest, tB, tOp, tUn, tChain, tAnd, tOr, tNot, tAndV, tOrV, tNotV, tIf, tNil, tCons, tTupN, tLstN, tCall, tCB, tBM, tBM0, tSl, tPart, tNoPart, rI, rI0, rU, rIxL, rIxT, rIxS, rSlTN, rSlLN, rCatN, rEq, rNe, rEqD, rIn, rMulS, rAppend, rLen, rLenS, rIsiT, rIsiL, rIsi, rIsiA, rIsiT, rIsi, rAll, rAny, rSw, rFind, rIntS, rSetL, L2.start, List.map_cons, List.map_nil, List.length_cons, List.length_nil, Nat.reduceAdd, Nat.reduceSub, List.replicate_succ, List.replicate_zero, List.cons_append, List.nil_append, List.append_nil, List.getElem?_cons_zero, List.getElem?_cons_succ, List.set_cons_zero, List.set_cons_succ, Option.some.injEq, exists_eq_left', exists_eq_left, V.int.injEq, V.bl.injEq, V.str.injEq, V.ref.injEq, List.cons.injEq, and_true, true_and, Nat.zero_add, exists_and_left, exists_const, sp_sign, sp_name, sp_read, sp_whole, sp_mixedD, sp_kept, sp_sg, sp_take, sp_text, sp_due, sp_right, sp_wide, tFld, sFld, sFldAug, tMeth, tMake, rAdd, rSplit, rJoin, sp_readG, sp_init, sp_over, sp_taken, sp_words, sp_end, sp_expr, sp_readE, sp_lname, sp_lnum, sp_leaf, sp_cell, sp_rightE, tRaise, sp_wordX, sp_endX, sp_exprX, sp_readX, sp_works, sp_gleaf, sp_isleaf, sp_stands, sp_kindsX, sp_rightX, sp_noword, sp_spoilt, sp_blanks, rListOf]
  exact ⟨_, .inl (SqL.of hw), fun p hp => q p ws _ (same_new hp _) upd_same (by omega) hd⟩
end
theorem sc__law_blanks : FnScope ["_law_words", "_law_cell", "_law_more", "_law_at"] ["_law_words", "_law_cell", "_law_more"] (defScope s__law_blanks) := ⟨rfl, rfl, rfl, by decide +kernel, rfl, by decide +kernel, by decide +kernel⟩
section
variable {P : Program} {w : World} {K : PySem.W.Frag} {mg : Str → Option Value} {base : Heap} {c_NoLine : Addr} {c_Walk : Addr}
set_option maxHeartbeats 4000000 in
theorem ok__law_blanks {f : Addr} {fd : FuncData} (F : Fun K "_law_blanks" "_law_blanks" s__law_blanks f fd) (z_len : mg "len" = none) : FnOk P w K mg base CX0 1 f fd ["_law_words", "_law_cell", "_law_more"] sp_blanks := by
  refine F.ok sc__law_blanks (fun vs H Q E h => ?_) (fun cdv A outer s H vs Q E hr h => ?_)
  · obtain ⟨l, ws, c, m, rfl, _⟩ := h
    rfl
  obtain ⟨l, ws, c, m, rfl, hw, hl, hc, hm, hd, q⟩ := h
  refine ⟨_, (@pss_cons _ _ _ _ _ (@ps_if _ _ _ _ _ _ _ _ (pt_cmpR op_ne (@pe_op _ _ _ _ _ _ _ _ op_modM (pv 1) pe_int) pe_int (nomark _))
      (@pss_one _ _ _ (@ps_ret _ _ _ _ (pv 0)))
      pss_nil)
    (@pss_cons _ _ _ _ _ (@ps_set _ _ 3 _ _ _ _ sc__law_blanks.nd rfl (Or.inl rfl) (@pe_op _ _ _ _ _ _ _ _ op_modM (pv 2) (@pe_op _ _ _ _ _ _ _ _ op_add (pe_callB (call_len_seqK (K := K) rfl) rfl z_len PySem.boot_len (@pa_cons _ _ _ _ _ (pv 0) pa_nil (by rfl))) pe_int)) (by rfl) (by first | exact .inl rfl | exact .inr rfl))
    (@pss_one _ _ _ (@ps_ret _ _ _ _ (@pe_op _ _ _ _ _ _ _ _ op_catN (@pe_op _ _ _ _ _ _ _ _ op_catN (pe_slice (sl_listN (K := K) rfl) (pv 0) po_none (po_some (pv 3))) (@pe_lstN _ _ _ _ (@pa_cons _ _ _ _ _ pe_str pa_nil (by rfl)))) (pe_slice (sl_listN (K := K) rfl) (pv 0) (po_some (pv 3)) po_none)))))), ?_⟩
  simp only [tSeq, tNext, tRet, tRetN, tIfS, tAsg, gName, gSub, tDrop, tVar, tC, tTest, tB, tOp, tUn, tChain, tAnd, tOr, tNot, tAndV, tOrV, tNotV, tIf, tNil, tCons, tTupN, tLstN, tCall, tCB, tBM, tBM0, tSl, tPart, tNoPart, rI, rI0, rU, rIxL, rIxT, rIxS, rSlTN, rSlLN, rCatN, rEq, rNe, rEqD, rIn, rMulS, rAppend, rLen, rLenS, rIsiT, rIsiL, rIsi, rIsiA, rIsiT, rIsi, rAll, rAny, rSw, rFind, rIntS, rSetL, L2.start, List.map_cons, List.map_nil, List.length_cons, List.length_nil, Nat.reduceAdd, Nat.reduceSub, List.replicate_succ, List.replicate_zero, List.cons_append, List.nil_append, List.append_nil, List.getElem?_cons_zero, List.getElem?_cons_succ, List.set_cons_zero, List.set_cons_succ, Option.some.injEq, exists_eq_left', exists_eq_left, V.int.injEq, V.bl.injEq, V.str.injEq, V.ref.injEq, List.cons.injEq, and_true, true_and, Nat.zero_add, exists_and_left, exists_const, sp_sign, sp_name, sp_read, sp_whole, sp_mixedD, sp_kept, sp_sg, sp_take, sp_text, sp_due, sp_right, sp_wide, tFld, sFld, sFldAug, tMeth, tMake, rAdd, rSplit, rJoin, sp_readG, sp_init, sp_over, sp_taken, sp_words, sp_end, sp_expr, sp_readE, sp_lname, sp_lnum, sp_leaf, sp_cell, sp_rightE, tRaise, sp_wordX, sp_endX, sp_exprX, sp_readX, sp_works, sp_gleaf, sp_isleaf, sp_stands, sp_kindsX, sp_rightX, sp_noword, sp_spoilt, sp_blanks]
  refine ⟨by decide, rfl, ite2 (fun _ => q l ws H (Same.refl _) hw (by omega) hd) (fun _ => ⟨_, .inl (SqL.of hw), by rw [List.length_map]; omega, _, SqL.of hw, fun p1 H1 n1 => ⟨by decide, fun p2 H2 n2 => ⟨_, n2.1 _ _ n1.2.2, _, n2.2.2, ?_, fun p3 H3 n3 => ⟨_, SqL.of (n3.1 _ _ (n2.1 _ _ (n1.1 _ _ hw))), fun p4 H4 n4 => ⟨_, n4.1 _ _ n3.2.2, _, n4.2.2, ?_, fun p5 H5 n5 => ?_⟩⟩⟩⟩⟩)⟩
  all_goals
    obtain ⟨xs, x1, x2, x3⟩ := cut_wd hd none (some (m.fmod (((ws.map V.str).length : Int) + 1)))
    obtain ⟨ys, y1, y2, y3⟩ := cut_wd hd (some (m.fmod (((ws.map V.str).length : Int) + 1))) none
  · rw [x1, List.length_map]
    exact small (by show _ + 1 ≤ _; omega)
  · rw [x1, y1, List.length_append, List.length_map, List.length_map]
    exact small (by show _ + 1 + _ ≤ _; omega)
  · have g := n1.1.trans (n2.1.trans (n3.1.trans (n4.1.trans n5.1)))
    refine q p5 (xs ++ [Str.ofString ""] ++ ys) H5 g (by rw [n5.2.2, x1, y1]; simp) (by simp; omega) fun w hw2 => ?_
    rcases List.mem_append.mp hw2 with h | h
    · rcases List.mem_append.mp h with h | h
      · exact x2 w h
      · rw [List.mem_singleton.mp h]
        exact .inr (.inl nb_empty)
    · exact y2 w h
end
theorem sc_law : FnScope ["_law_script", "_law_cells", "_law_at", "_law_first", "_law_more", "_law_words"] ["_law_script"] (defScope s_law) := ⟨rfl, rfl, rfl, by decide +kernel, rfl, by decide +kernel, by decide +kernel⟩
section
variable {P : Program} {w : World} {K : PySem.W.Frag} {mg : Str → Option Value} {base : Heap} {c_NoLine : Addr} {c_Walk : Addr}
set_option maxHeartbeats 4000000 in
theorem ok_law {f : Addr} {fd : FuncData} (F : Fun K "law" "law" s_law f fd) {f__law_mixed : Addr} {fd__law_mixed : FuncData} (d__law_mixed : Df K mg "_law_mixed" s__law_mixed ["_law_cell", "_law_k"] f__law_mixed fd__law_mixed) (G__law_mixed : FnOk P w K mg base CX0 1 f__law_mixed fd__law_mixed ["_law_cell", "_law_k"] sp_mixedD) {f__law_cell_at : Addr} {fd__law_cell_at : FuncData} (d__law_cell_at : Df K mg "_law_cell_at" s__law_cell_at ["_law_cells", "_law_k"] f__law_cell_at fd__law_cell_at) (G__law_cell_at : FnOk P w K mg base CX0 1 f__law_cell_at fd__law_cell_at ["_law_cells", "_law_k"] (sp_cell K)) {f__law_made : Addr} {fd__law_made : FuncData} (d__law_made : Df K mg "_law_made" s__law_made ["_law_cells", "_law_at", "_law_room"] f__law_made fd__law_made) (G__law_made : FnOk P w K mg base CX0 6 f__law_made fd__law_made ["_law_cells", "_law_at", "_law_room"] (sp_madeX K 5)) {f__law_spoilt : Addr} {fd__law_spoilt : FuncData} (d__law_spoilt : Df K mg "_law_spoilt" s__law_spoilt ["_law_words", "_law_cell", "_law_more"] f__law_spoilt fd__law_spoilt) (G__law_spoilt : FnOk P w K mg base CX0 3 f__law_spoilt fd__law_spoilt ["_law_words", "_law_cell", "_law_more"] sp_spoilt) {f__law_right : Addr} {fd__law_right : FuncData} (d__law_right : Df K mg "_law_right" s__law_right ["_law_text"] f__law_right fd__law_right) (G__law_right : FnOk P w K mg base CX0 13 f__law_right fd__law_right ["_law_text"] sp_rightX) {f__law_blanks : Addr} {fd__law_blanks : FuncData} (d__law_blanks : Df K mg "_law_blanks" s__law_blanks ["_law_words", "_law_cell", "_law_more"] f__law_blanks fd__law_blanks) (G__law_blanks : FnOk P w K mg base CX0 1 f__law_blanks fd__law_blanks ["_law_words", "_law_cell", "_law_more"] sp_blanks) (z_enumerate : mg "enumerate" = none) (z_len : mg "len" = none) : FnOk P w K mg base CX0 14 f fd ["_law_script"] (sp_law K) := by
  refine F.ok sc_law (fun vs H Q E h => ?_) (fun cdv A outer s H vs Q E hr h => ?_)
  · obtain ⟨a, ns, rfl, _⟩ := h
    rfl
  obtain ⟨a, ns, rfl, hS, h63, q⟩ := h
  refine ⟨_, (@pss_cons _ _ _ _ _ (ps_setC (i := 1) sc_law.nd rfl (Or.inl rfl) (N := ["_law_k", "_law_cell"]) (ix := [none, none]) (comp_scope rfl (by decide +kernel) (by decide +kernel) (by rfl) rfl (by decide +kernel) (by rfl)) rfl (pi_enumK (K := K) rfl rfl z_enumerate (@pa_cons _ _ _ _ _ (@pe_op _ _ _ _ _ _ _ _ op_catN (@pe_lstN _ _ _ _ (@pa_cons _ _ _ _ _ pe_int pa_nil (by rfl))) (pe_slice (sl_listN (K := K) rfl) (pv 0) po_none (po_some pe_int))) pa_nil (by rfl))) (gfree_two rfl rfl) fun _ _ _ _ => ⟨(pg_tupK (K := K) (n := 2) rfl rfl (pgs_cons (pg_name (i := 0) (show List.Nodup [Str.ofString "_law_k", Str.ofString "_law_cell"] by decide +kernel) rfl (Or.inl rfl) (.inr rfl)) (pgs_cons (pg_name (i := 1) (show List.Nodup [Str.ofString "_law_k", Str.ofString "_law_cell"] by decide +kernel) rfl (Or.inl rfl) (.inr rfl)) pgs_nil))), pifs_nil, (pe_call (G__law_mixed.mono (by decide)) hr rfl d__law_mixed.m d__law_mixed.fn.kp d__law_mixed.b .nil pass0 (@pa_cons _ _ _ _ _ (pv 1) (@pa_cons _ _ _ _ _ (pv 0) pa_nil (by rfl)) (by rfl)))⟩)
    (@pss_cons _ _ _ _ _ (@ps_set _ _ 2 _ _ _ _ sc_law.nd rfl (Or.inl rfl) pe_int (by rfl) (by first | exact .inl rfl | exact .inr rfl))
    (@pss_cons _ _ _ _ _ (ps_while PassesOwn.never (pt_cmpR op_lt (pv 2) (pe_callB (call_len_seqK (K := K) rfl) rfl z_len PySem.boot_len (@pa_cons _ _ _ _ _ (pv 1) pa_nil (by rfl))) (nomark _))
      (@pss_cons _ _ _ _ _ (@ps_set _ _ 3 _ _ _ _ sc_law.nd rfl (Or.inl rfl) (pe_ix (ix_listK (K := K) rfl) (pv 1) (pv 2) (fun _ _ => rfl)) (by rfl) (by first | exact .inl rfl | exact .inr rfl))
    (@pss_cons _ _ _ _ _ (@ps_set _ _ 4 _ _ _ _ sc_law.nd rfl (Or.inl rfl) (pe_call (G__law_cell_at.mono (by decide)) hr rfl d__law_cell_at.m d__law_cell_at.fn.kp d__law_cell_at.b .nil pass0 (@pa_cons _ _ _ _ _ (pv 1) (@pa_cons _ _ _ _ _ (@pe_op _ _ _ _ _ _ _ _ op_add (pv 2) pe_int) pa_nil (by rfl)) (by rfl))) (by rfl) (by first | exact .inl rfl | exact .inr rfl))
    (@pss_cons _ _ _ _ _ (ps_asg (pe_call (G__law_made.mono (by decide)) hr rfl d__law_made.m d__law_made.fn.kp d__law_made.b .nil pass0 (@pa_cons _ _ _ _ _ (pv 1) (@pa_cons _ _ _ _ _ (@pe_op _ _ _ _ _ _ _ _ op_add (pv 2) pe_int) (@pa_cons _ _ _ _ _ pe_int pa_nil (by rfl)) (by rfl)) (by rfl))) (pg_tupK (K := K) (n := 2) rfl rfl (pgs_cons (pg_name (i := 5) sc_law.nd rfl (Or.inl rfl)) (pgs_cons (pg_name (i := 2) sc_law.nd rfl (Or.inl rfl)) pgs_nil))))
    (@pss_cons _ _ _ _ _ (@ps_set _ _ 5 _ _ _ _ sc_law.nd rfl (Or.inl rfl) (@pe_op _ _ _ _ _ _ _ _ op_catN (@pe_op _ _ _ _ _ _ _ _ op_rep (@pe_lstN _ _ _ _ (@pa_cons _ _ _ _ _ pe_str pa_nil (by rfl))) (@pe_op _ _ _ _ _ _ _ _ op_modM (pv 3) pe_int)) (pv 5)) (by rfl) (by first | exact .inl rfl | exact .inr rfl))
    (@pss_cons _ _ _ _ _ (@ps_set _ _ 5 _ _ _ _ sc_law.nd rfl (Or.inl rfl) (pe_call (G__law_spoilt.mono (by decide)) hr rfl d__law_spoilt.m d__law_spoilt.fn.kp d__law_spoilt.b .nil pass0 (@pa_cons _ _ _ _ _ (pv 5) (@pa_cons _ _ _ _ _ (@pe_op _ _ _ _ _ _ _ _ op_fdivM (pv 3) pe_int) (@pa_cons _ _ _ _ _ (pv 4) pa_nil (by rfl)) (by rfl)) (by rfl))) (by rfl) (by first | exact .inl rfl | exact .inr rfl))
    (@pss_one _ _ _ (@ps_if _ _ _ _ _ _ _ _ (pt_not (pt_val (pe_call (G__law_right.mono (by decide)) hr rfl d__law_right.m d__law_right.fn.kp d__law_right.b .nil pass0 (@pa_cons _ _ _ _ _ (pe_bmK (K := K) rfl PySem.F.plainAttrs_str PySem.F.slot_str_join PySem.F.type_str_join (mt_join (K := K) rfl) pe_str (@pa_cons _ _ _ _ _ (pe_call (G__law_blanks.mono (by decide)) hr rfl d__law_blanks.m d__law_blanks.fn.kp d__law_blanks.b .nil pass0 (@pa_cons _ _ _ _ _ (pv 5) (@pa_cons _ _ _ _ _ (@pe_op _ _ _ _ _ _ _ _ op_fdivM (pv 4) pe_int) (@pa_cons _ _ _ _ _ (@pe_op _ _ _ _ _ _ _ _ op_fdivM (pv 3) pe_int) pa_nil (by rfl)) (by rfl)) (by rfl))) pa_nil (by rfl))) pa_nil (by rfl)))))
      (@pss_one _ _ _ (@ps_ret _ _ _ _ pe_bl))
      pss_nil))))))))
    (@pss_one _ _ _ (@ps_ret _ _ _ _ pe_bl))))), ?_⟩
  refine seq_cut (fun σ' H2 => ∃ p cs, SqL K H2 p (List.map V.int cs) ∧ cs.length ≤ 1000 ∧ (∀ c ∈ cs, 0 ≤ c) ∧ σ' = [some (V.ref a), some (V.ref p), none, none, none, none]) (fun N hN => ?_) ?_
  · refine ⟨by decide, fun p1 H1 n1 => ⟨_, rfl, 200, rfl, a, _, rfl, n1.1.seq hS, fun p2 H2 n2 => ⟨p1, p2, _, _, rfl, rfl, n2.1 _ _ n1.2.2, n2.2.2, ?_, fun p3 H3 n3 => ⟨p3, rfl, ⟨_, SqL.of n3.2.2⟩, ?_⟩⟩⟩⟩
    · have lc := cutV_length (ns.map V.int) none (some 200)
      rw [List.length_map] at lc
      exact small (by show 1 + _ ≤ _; omega)
    · have lc := cutV_length (ns.map V.int) none (some 200)
      rw [List.length_map] at lc
      have hcs : ∀ x ∈ [V.int 0] ++ cutV (ns.map V.int) none (some 200), ∃ c, x = V.int c := by
        intro x hx
        rcases List.mem_append.mp hx with h | h
        · exact ⟨0, by simpa using h⟩
        · exact cut_intK h
      have n32 := n3.2.2
      have ll : ([V.int 0] ++ cutV (ns.map V.int) none (some 200)).length ≤ 64 := by rw [List.length_append]; show 1 + _ ≤ _; omega
      generalize [V.int 0] ++ cutV (ns.map V.int) none (some 200) = L at hcs n32 ll
      show Exists _
      refine comp_enumW (K := K) (a := p3) (xs := L) (g := gTup K 2 (gCons (gName 0) (gCons (gName 1) gNil))) (tc := tYes) (te := tCall sp_mixedD [] E0 (tCons (tVar 1) (tCons (tVar 0) tNil))) (σ := lift [none, none] [some (V.ref a), none, none, none, none, none]) (H := H3) (Q := fun v H1 => gName 1 v [some (V.ref a), none, none, none, none, none] H1 N) (fun i zs H' => Same H3 H' ∧ ∃ cs : List Int, zs = cs.map V.int ∧ cs.length = i ∧ ∀ c ∈ cs, 0 ≤ c) ⟨Same.refl _, [], rfl, rfl, by simp⟩ (fun i zs H' _ h => h.1.seq (SqL.of n32)) (small (by omega)) ?_ ?_ ?_
      · rintro i zs H' ⟨_, cs, rfl, rfl, _⟩
        rw [List.length_map]
        exact Nat.le_refl _
      · rintro i x pp zs H4 hx hpp ⟨g4, cs, rfl, rfl, hc⟩
        have hi : cs.length < L.length := (List.getElem?_eq_some_iff.mp hx).1
        obtain ⟨c, rfl⟩ := hcs x (List.mem_of_getElem? hx)
        refine ⟨pp, _, rfl, SqT.of upd_same, rfl, _, _, rfl, _, _, rfl, rfl, _, rfl, _, rfl, c, (cs.length : Int), rfl, by omega, by omega, g4.trans (same_new hpp _), cs ++ [mx c cs.length], by rw [List.map_append]; rfl, by simp, fun y hy => ?_⟩
        rcases List.mem_append.mp hy with h | h
        · exact hc y h
        · rw [List.mem_singleton.mp h]
          exact mx_lo _ _
      · rintro zs H4 pp ⟨g4, cs, rfl, ec, hc⟩ hpp
        exact hN _ _ ⟨pp, cs, SqL.of upd_same, by omega, hc, rfl⟩
  rintro σ' H2 ⟨p, cs, hp, hcl, hc, rfl⟩
  refine seq_cut (fun σ' H3 => H2 = H3 ∧ σ' = [some (V.ref a), some (V.ref p), some (V.int 0), none, none, none]) (fun N hN => hN _ _ ⟨rfl, rfl⟩) ?_
  rintro σ' H3 ⟨rfl, rfl⟩
  refine seq_cut (fun σ' H3 => True) (fun N hN => ?_) (fun σ' H2 _ => q _)
  refine ⟨fun m σ' H' => ∃ (k : Nat) (u1 u2 u3 : Option V), m = cs.length - k ∧ SqL K H' p (List.map V.int cs) ∧ σ' = [some (V.ref a), some (V.ref p), some (V.int k), u1, u2, u3], ⟨cs.length, 0, none, none, none, rfl, hp, rfl⟩, ?_⟩
  clear hp
  rintro m σ' H4 ⟨k, u1, u2, u3, rfl, hp, rfl⟩
  refine ⟨_, rfl, _, rfl, p, _, rfl, .inl hp, _, _, rfl, rfl, _, rfl, ite2 (fun t => ?_) (fun t => hN _ _ trivial)⟩
  have kl : k < cs.length := by
    have := of_decide_eq_true t
    rw [List.length_map] at this
    omega
  refine ⟨fun σ' H' => ∃ (k' : Nat) (u1 u2 u3 : Option V), k < k' ∧ SqL K H' p (List.map V.int cs) ∧ σ' = [some (V.ref a), some (V.ref p), some (V.int k'), u1, u2, u3], ?_, ?_⟩
  · rintro σ' H' ⟨k', u1, u2, u3, h1, h2, rfl⟩
    exact ⟨cs.length - k', by omega, k', u1, u2, u3, rfl, h2, rfl⟩
  refine seq_cut (fun σ' H5 => H4 = H5 ∧ ∃ c, 0 ≤ c ∧ σ' = [some (V.ref a), some (V.ref p), some (V.int k), some (V.int c), u2, u3]) (fun N hN => ?_) ?_
  · obtain ⟨x, hx⟩ := at_ok (xs := List.map V.int cs) (i := (k : Int)) (by omega) (by rw [List.length_map]; omega)
    obtain ⟨c, hcm, rfl⟩ := List.mem_map.mp (at_mem hx)
    exact ⟨_, rfl, _, rfl, p, _, (k : Int), _, rfl, rfl, hp, hx, hN _ _ ⟨rfl, c, hc c hcm, rfl⟩⟩
  rintro σ' H5 ⟨rfl, c, c0, rfl⟩
  refine seq_cut (fun σ' H5 => H4 = H5 ∧ ∃ d, 0 ≤ d ∧ σ' = [some (V.ref a), some (V.ref p), some (V.int k), some (V.int c), some (V.int d), u3]) (fun N hN => ⟨_, rfl, _, rfl, (k : Int), 1, rfl, rfl, p, cs, k + 1, rfl, hp, hcl, hc, fun d hd => hN _ _ ⟨rfl, d, hd, rfl⟩⟩) ?_
  rintro σ' H5 ⟨rfl, d, d0, rfl⟩
  refine seq_cut (fun σ' H5 => Same H4 H5 ∧ ∃ (l : Addr) (ws : List Str) (k1 : Nat), H5 l = some (.lst (ws.map V.str)) ∧ (∀ w ∈ ws, Wd w) ∧ ws ≠ [] ∧ ws.length ≤ 32 ∧ k < k1 ∧ σ' = [some (V.ref a), some (V.ref p), some (V.int k1), some (V.int c), some (V.int d), some (V.ref l)]) (fun N hN => ?_) ?_
  · refine ⟨_, rfl, _, rfl, (k : Int), 2, rfl, rfl, p, cs, k + 2, 4, rfl, hp, hcl, hc, Nat.le_refl 4, Nat.le_refl 4, fun p2 l ws k1 H5 g5 hp2 hl2 gd ne ln kk => ?_⟩
    exact ⟨p2, _, rfl, SqT.of hp2, rfl, _, _, rfl, _, _, rfl, rfl, hN _ _ ⟨g5, l, ws, k1, hl2, fun w hw => .inl (gd w hw), ne, by omega, by omega, rfl⟩⟩
  rintro σ' H5 ⟨g5, l, ws, k1, hl2, gd, ne, ln, kk, rfl⟩
  refine seq_cut (fun σ' H6 => Same H5 H6 ∧ ∃ (l : Addr) (ws : List Str), H6 l = some (.lst (ws.map V.str)) ∧ (∀ w ∈ ws, Wd w) ∧ ws ≠ [] ∧ ws.length ≤ 100 ∧ σ' = [some (V.ref a), some (V.ref p), some (V.int k1), some (V.int c), some (V.int d), some (V.ref l)]) (fun N hN => ?_) ?_
  · simp only [tSeq, tNext, tRet, tRetN, tIfS, tAsg, gName, gSub, tDrop, tVar, tC, tTest, tB, tOp, tUn, tChain, tAnd, tOr, tNot, tAndV, tOrV, tNotV, tIf, tNil, tCons, tTupN, tLstN, tCall, tCB, tBM, tBM0, tSl, tPart, tNoPart, rI, rI0, rU, rIxL, rIxT, rIxS, rSlTN, rSlLN, rCatN, rEq, rNe, rEqD, rIn, rMulS, rAppend, rLen, rLenS, rIsiT, rIsiL, rIsi, rIsiA, rIsiT, rIsi, rAll, rAny, rSw, rFind, rIntS, rSetL, L2.start, List.map_cons, List.map_nil, List.length_cons, List.length_nil, Nat.reduceAdd, Nat.reduceSub, List.replicate_succ, List.replicate_zero, List.cons_append, List.nil_append, List.append_nil, List.getElem?_cons_zero, List.getElem?_cons_succ, List.set_cons_zero, List.set_cons_succ, Option.some.injEq, exists_eq_left', exists_eq_left, V.int.injEq, V.bl.injEq, V.str.injEq, V.ref.injEq, List.cons.injEq, and_true, true_and, Nat.zero_add, exists_and_left, exists_const, sp_sign, sp_name, sp_read, sp_whole, sp_mixedD, sp_kept, sp_sg, sp_take, sp_text, sp_due, sp_right, sp_wide, tFld, sFld, sFldAug, tMeth, tMake, rAdd, rSplit, rJoin, sp_readG, sp_init, sp_over, sp_taken, sp_words, sp_end, sp_expr, sp_readE, sp_lname, sp_lnum, sp_leaf, sp_cell, sp_rightE, tRaise, sp_wordX, sp_endX, sp_exprX, sp_readX, sp_works, sp_gleaf, sp_isleaf, sp_stands, sp_kindsX, sp_rightX, sp_noword, sp_spoilt, sp_blanks, rRep]
    have m0 := mod_lo c (m := 10) (by decide)
    have m1 := mod_hi c (m := 10) (by decide)
    have tn : (c.fmod 10).toNat ≤ 9 := by omega
    refine ⟨by decide, fun p1 H6 n6 => ⟨by decide, _, n6.2.2, by omega, by omega, small (by show 1 * _ ≤ _; omega), fun p2 hp2 => ⟨_, upd_same, _, (same_new hp2 _) _ _ (n6.1 _ _ hl2), small (by rw [len_rep, List.length_map]; show _ * 1 + _ ≤ _; omega), fun p3 H7 n7 => hN _ _ ⟨n6.1.trans ((same_new hp2 _).trans n7.1), p3, List.replicate (c.fmod 10).toNat (Str.ofString "box") ++ ws, by rw [n7.2.2, List.flatten_replicate_singleton]; simp, fun w hw => ?_, by simp [ne], by rw [List.length_append, List.length_replicate]; omega, rfl⟩⟩⟩⟩
    rcases List.mem_append.mp hw with h | h
    · exact .inl (.inl (List.eq_of_mem_replicate h))
    · exact gd w h
  clear hl2 gd ne ln
  rintro σ' H6 ⟨g6, l, ws, hl2, gd, ne, ln, rfl⟩
  refine seq_cut (fun σ' H7 => Same H6 H7 ∧ ∃ (l : Addr) (ws : List Str), H7 l = some (.lst (ws.map V.str)) ∧ (∀ w ∈ ws, Wd w) ∧ ws.length ≤ 201 ∧ σ' = [some (V.ref a), some (V.ref p), some (V.int k1), some (V.int c), some (V.int d), some (V.ref l)]) (fun N hN => ⟨_, rfl, _, rfl, c, 10, rfl, rfl, ⟨by decide, by decide⟩, _, rfl, l, ws, c.fdiv 10, d, rfl, hl2, ne, ln, div_lo c0 (by decide), d0, gd, fun l2 us H7 g7 h7 n7 w7 => hN _ _ ⟨g7, l2, us, h7, w7, n7, rfl⟩⟩) ?_
  clear hl2 gd ne ln
  rintro σ' H7 ⟨g7, l, ws, hl2, gd, ln, rfl⟩
  simp only [tSeq, tNext, tRet, tRetN, tIfS, tAsg, gName, gSub, tDrop, tVar, tC, tTest, tB, tOp, tUn, tChain, tAnd, tOr, tNot, tAndV, tOrV, tNotV, tIf, tNil, tCons, tTupN, tLstN, tCall, tCB, tBM, tBM0, tSl, tPart, tNoPart, rI, rI0, rU, rIxL, rIxT, rIxS, rSlTN, rSlLN, rCatN, rEq, rNe, rEqD, rIn, rMulS, rAppend, rLen, rLenS, rIsiT, rIsiL, rIsi, rIsiA, rIsiT, rIsi, rAll, rAny, rSw, rFind, rIntS, rSetL, L2.start, List.map_cons, List.map_nil, List.length_cons, List.length_nil, Nat.reduceAdd, Nat.reduceSub, List.replicate_succ, List.replicate_zero, List.cons_append, List.nil_append, List.append_nil, List.getElem?_cons_zero, List.getElem?_cons_succ, List.set_cons_zero, List.set_cons_succ, Option.some.injEq, exists_eq_left', exists_eq_left, V.int.injEq, V.bl.injEq, V.str.injEq, V.ref.injEq, List.cons.injEq, and_true, true_and, Nat.zero_add, exists_and_left, exists_const, sp_sign, sp_name, sp_read, sp_whole, sp_mixedD, sp_kept, sp_sg, sp_take, sp_text, sp_due, sp_right, sp_wide, tFld, sFld, sFldAug, tMeth, tMake, rAdd, rSplit, rJoin, sp_readG, sp_init, sp_over, sp_taken, sp_words, sp_end, sp_expr, sp_readE, sp_lname, sp_lnum, sp_leaf, sp_cell, sp_rightE, tRaise, sp_wordX, sp_endX, sp_exprX, sp_readX, sp_works, sp_gleaf, sp_isleaf, sp_stands, sp_kindsX, sp_rightX, sp_noword, sp_spoilt, sp_blanks, rRep]
  refine ⟨rfl, ⟨by decide, by decide⟩, ⟨by decide, by decide⟩, l, ws, _, _, ⟨rfl, rfl, rfl⟩, hl2, ln, div_lo d0 (by decide), div_lo c0 (by decide), gd, fun l2 vs H8 g8 h8 n8 w8 => ?_⟩
  obtain ⟨jo, us, j1, j2, j3, j4, j5, j6⟩ := txt_of n8 w8
  exact ⟨vs, SqL.of h8, jo, us, (by rw [join_eq, bl_eq]; exact j1), j2, j3, j4, j5, j6, fun H9 g9 => iteN (by simp) ⟨k1, kk, (g5.trans (g6.trans (g7.trans (g8.trans g9)))).seq hp, rfl, _, rfl⟩⟩
end
theorem all_mk {l : PySem.W.OpenLaw} {w : World} {K : PySem.W.Frag} {h : Heap} {mg : Str → Option Value} {fa : Addr} (X : K.In h) (G : h.Ns mainGlobals mg) (hfa : mg "law" = some (.ref fa)) {c_Walk : Addr} {f0 : Addr} {od0 an0 : Option Addr} {sl0 : Array (Option Value)} {oc0 kV0 dc0 pm0 cd0 ct0 : Value} {f1 : Addr} {od1 an1 : Option Addr} {sl1 : Array (Option Value)} {oc1 kV1 dc1 pm1 cd1 ct1 : Value} {f2 : Addr} {od2 an2 : Option Addr} {sl2 : Array (Option Value)} {oc2 kV2 dc2 pm2 cd2 ct2 : Value} {f3 : Addr} {od3 an3 : Option Addr} {sl3 : Array (Option Value)} {oc3 kV3 dc3 pm3 cd3 ct3 : Value} {f4 : Addr} {od4 an4 : Option Addr} {sl4 : Array (Option Value)} {oc4 kV4 dc4 pm4 cd4 ct4 : Value} {f5 : Addr} {od5 an5 : Option Addr} {sl5 : Array (Option Value)} {oc5 kV5 dc5 pm5 cd5 ct5 : Value} {f6 : Addr} {od6 an6 : Option Addr} {sl6 : Array (Option Value)} {oc6 kV6 dc6 pm6 cd6 ct6 : Value} {f7 : Addr} {od7 an7 : Option Addr} {sl7 : Array (Option Value)} {oc7 kV7 dc7 pm7 cd7 ct7 : Value} {f8 : Addr} {od8 an8 : Option Addr} {sl8 : Array (Option Value)} {oc8 kV8 dc8 pm8 cd8 ct8 : Value} {f9 : Addr} {od9 an9 : Option Addr} {sl9 : Array (Option Value)} {oc9 kV9 dc9 pm9 cd9 ct9 : Value} {f10 : Addr} {od10 an10 : Option Addr} {sl10 : Array (Option Value)} {oc10 kV10 dc10 pm10 cd10 ct10 : Value} {f11 : Addr} {od11 an11 : Option Addr} {sl11 : Array (Option Value)} {oc11 kV11 dc11 pm11 cd11 ct11 : Value} {f12 : Addr} {od12 an12 : Option Addr} {sl12 : Array (Option Value)} {oc12 kV12 dc12 pm12 cd12 ct12 : Value} {f13 : Addr} {od13 an13 : Option Addr} {sl13 : Array (Option Value)} {oc13 kV13 dc13 pm13 cd13 ct13 : Value} {f14 : Addr} {od14 an14 : Option Addr} {sl14 : Array (Option Value)} {oc14 kV14 dc14 pm14 cd14 ct14 : Value} {f15 : Addr} {od15 an15 : Option Addr} {sl15 : Array (Option Value)} {oc15 kV15 dc15 pm15 cd15 ct15 : Value} {f16 : Addr} {od16 an16 : Option Addr} {sl16 : Array (Option Value)} {oc16 kV16 dc16 pm16 cd16 ct16 : Value} {f17 : Addr} {od17 an17 : Option Addr} {sl17 : Array (Option Value)} {oc17 kV17 dc17 pm17 cd17 ct17 : Value} {f18 : Addr} {od18 an18 : Option Addr} {sl18 : Array (Option Value)} {oc18 kV18 dc18 pm18 cd18 ct18 : Value} {f19 : Addr} {od19 an19 : Option Addr} {sl19 : Array (Option Value)} {oc19 kV19 dc19 pm19 cd19 ct19 : Value} {f20 : Addr} {od20 an20 : Option Addr} {sl20 : Array (Option Value)} {oc20 kV20 dc20 pm20 cd20 ct20 : Value} {f21 : Addr} {od21 an21 : Option Addr} {sl21 : Array (Option Value)} {oc21 kV21 dc21 pm21 cd21 ct21 : Value} {f22 : Addr} {od22 an22 : Option Addr} {sl22 : Array (Option Value)} {oc22 kV22 dc22 pm22 cd22 ct22 : Value} {f23 : Addr} {od23 an23 : Option Addr} {sl23 : Array (Option Value)} {oc23 kV23 dc23 pm23 cd23 ct23 : Value} {f24 : Addr} {od24 an24 : Option Addr} {sl24 : Array (Option Value)} {oc24 kV24 dc24 pm24 cd24 ct24 : Value} {f25 : Addr} {od25 an25 : Option Addr} {sl25 : Array (Option Value)} {oc25 kV25 dc25 pm25 cd25 ct25 : Value} {f26 : Addr} {od26 an26 : Option Addr} {sl26 : Array (Option Value)} {oc26 kV26 dc26 pm26 cd26 ct26 : Value} {f27 : Addr} {od27 an27 : Option Addr} {sl27 : Array (Option Value)} {oc27 kV27 dc27 pm27 cd27 ct27 : Value} {a_KEPT : Addr} {o_KEPT : Obj} {t_LONGEST_NAME : Tok} {t_MOST_DEEP : Tok} {t_MOST_FIGURES : Tok} {a_SIGNS : Addr} {o_SIGNS : Obj} {a_WORKINGS : Addr} {o_WORKINGS : Obj} {c_LaneError : Addr} {c_NoHead : Addr} {c_NoLine : Addr} {c_NoName : Addr} {c_NoNest : Addr} {c_TooMuch : Addr} {c_Waits : Addr} {cd_NoLine : ClassData}
    (mm_Walk : PySem.W.nsIn K mainGlobals "Walk" = some (some (.ref c_Walk)))
    (a0 : PySem.W.nsIn K mainGlobals "is_letter" = some (some (.ref f0)))
    (l0 : K.lookup f0 = some ⟨oc0, od0, .func (PySem.W.fnOf "is_letter" "is_letter" (defArgs s_is_letter) (defBody s_is_letter) (defScope s_is_letter) .none kV0 dc0 pm0 an0 cd0 ct0), sl0⟩)
    (c0 : PySem.W.codeIn K cd0 "is_letter" = true)
    (k0 : PySem.W.keepIn K (.ref f0) = true)
    (a1 : PySem.W.nsIn K mainGlobals "is_figure" = some (some (.ref f1)))
    (l1 : K.lookup f1 = some ⟨oc1, od1, .func (PySem.W.fnOf "is_figure" "is_figure" (defArgs s_is_figure) (defBody s_is_figure) (defScope s_is_figure) .none kV1 dc1 pm1 an1 cd1 ct1), sl1⟩)
    (c1 : PySem.W.codeIn K cd1 "is_figure" = true)
    (k1 : PySem.W.keepIn K (.ref f1) = true)
    (a2 : PySem.W.nsIn K mainGlobals "is_name" = some (some (.ref f2)))
    (l2 : K.lookup f2 = some ⟨oc2, od2, .func (PySem.W.fnOf "is_name" "is_name" (defArgs s_is_name) (defBody s_is_name) (defScope s_is_name) .none kV2 dc2 pm2 an2 cd2 ct2), sl2⟩)
    (c2 : PySem.W.codeIn K cd2 "is_name" = true)
    (k2 : PySem.W.keepIn K (.ref f2) = true)
    (a3 : PySem.W.nsIn K mainGlobals "read_number" = some (some (.ref f3)))
    (l3 : K.lookup f3 = some ⟨oc3, od3, .func (PySem.W.fnOf "read_number" "read_number" (defArgs s_read_number) (defBody s_read_number) (defScope s_read_number) .none kV3 dc3 pm3 an3 cd3 ct3), sl3⟩)
    (c3 : PySem.W.codeIn K cd3 "read_number" = true)
    (k3 : PySem.W.keepIn K (.ref f3) = true)
    (a4 : PySem.W.findIn K (.ref c_Walk) "__init__" = some (some (.ref f4)))
    (ifn4 : PySem.W.isFn K (.ref f4) = true)
    (l4 : K.lookup f4 = some ⟨oc4, od4, .func (PySem.W.fnOf "__init__" "Walk.__init__" (defArgs s_Walk___init__) (defBody s_Walk___init__) (defScope s_Walk___init__) .none kV4 dc4 pm4 an4 cd4 ct4), sl4⟩)
    (c4 : PySem.W.codeIn K cd4 "Walk.__init__" = true)
    (k4 : PySem.W.keepIn K (.ref f4) = true)
    (a5 : PySem.W.findIn K (.ref c_Walk) "is_over" = some (some (.ref f5)))
    (ifn5 : PySem.W.isFn K (.ref f5) = true)
    (l5 : K.lookup f5 = some ⟨oc5, od5, .func (PySem.W.fnOf "is_over" "Walk.is_over" (defArgs s_Walk_is_over) (defBody s_Walk_is_over) (defScope s_Walk_is_over) .none kV5 dc5 pm5 an5 cd5 ct5), sl5⟩)
    (c5 : PySem.W.codeIn K cd5 "Walk.is_over" = true)
    (k5 : PySem.W.keepIn K (.ref f5) = true)
    (a6 : PySem.W.findIn K (.ref c_Walk) "taken" = some (some (.ref f6)))
    (ifn6 : PySem.W.isFn K (.ref f6) = true)
    (l6 : K.lookup f6 = some ⟨oc6, od6, .func (PySem.W.fnOf "taken" "Walk.taken" (defArgs s_Walk_taken) (defBody s_Walk_taken) (defScope s_Walk_taken) .none kV6 dc6 pm6 an6 cd6 ct6), sl6⟩)
    (c6 : PySem.W.codeIn K cd6 "Walk.taken" = true)
    (k6 : PySem.W.keepIn K (.ref f6) = true)
    (a7 : PySem.W.nsIn K mainGlobals "words_of" = some (some (.ref f7)))
    (l7 : K.lookup f7 = some ⟨oc7, od7, .func (PySem.W.fnOf "words_of" "words_of" (defArgs s_words_of) (defBody s_words_of) (defScope s_words_of) .none kV7 dc7 pm7 an7 cd7 ct7), sl7⟩)
    (c7 : PySem.W.codeIn K cd7 "words_of" = true)
    (k7 : PySem.W.keepIn K (.ref f7) = true)
    (a8 : PySem.W.nsIn K mainGlobals "word_from" = some (some (.ref f8)))
    (l8 : K.lookup f8 = some ⟨oc8, od8, .func (PySem.W.fnOf "word_from" "word_from" (defArgs s_word_from) (defBody s_word_from) (defScope s_word_from) .none kV8 dc8 pm8 an8 cd8 ct8), sl8⟩)
    (c8 : PySem.W.codeIn K cd8 "word_from" = true)
    (k8 : PySem.W.keepIn K (.ref f8) = true)
    (a9 : PySem.W.nsIn K mainGlobals "check_over" = some (some (.ref f9)))
    (l9 : K.lookup f9 = some ⟨oc9, od9, .func (PySem.W.fnOf "check_over" "check_over" (defArgs s_check_over) (defBody s_check_over) (defScope s_check_over) .none kV9 dc9 pm9 an9 cd9 ct9), sl9⟩)
    (c9 : PySem.W.codeIn K cd9 "check_over" = true)
    (k9 : PySem.W.keepIn K (.ref f9) = true)
    (a10 : PySem.W.nsIn K mainGlobals "part_from" = some (some (.ref f10)))
    (l10 : K.lookup f10 = some ⟨oc10, od10, .func (PySem.W.fnOf "part_from" "part_from" (defArgs s_part_from) (defBody s_part_from) (defScope s_part_from) .none kV10 dc10 pm10 an10 cd10 ct10), sl10⟩)
    (c10 : PySem.W.codeIn K cd10 "part_from" = true)
    (k10 : PySem.W.keepIn K (.ref f10) = true)
    (a11 : PySem.W.nsIn K mainGlobals "expression_from" = some (some (.ref f11)))
    (l11 : K.lookup f11 = some ⟨oc11, od11, .func (PySem.W.fnOf "expression_from" "expression_from" (defArgs s_expression_from) (defBody s_expression_from) (defScope s_expression_from) .none kV11 dc11 pm11 an11 cd11 ct11), sl11⟩)
    (c11 : PySem.W.codeIn K cd11 "expression_from" = true)
    (k11 : PySem.W.keepIn K (.ref f11) = true)
    (a12 : PySem.W.nsIn K mainGlobals "read_expression" = some (some (.ref f12)))
    (l12 : K.lookup f12 = some ⟨oc12, od12, .func (PySem.W.fnOf "read_expression" "read_expression" (defArgs s_read_expression) (defBody s_read_expression) (defScope s_read_expression) .none kV12 dc12 pm12 an12 cd12 ct12), sl12⟩)
    (c12 : PySem.W.codeIn K cd12 "read_expression" = true)
    (k12 : PySem.W.keepIn K (.ref f12) = true)
    (a13 : PySem.W.nsIn K mainGlobals "shown_expression" = some (some (.ref f13)))
    (l13 : K.lookup f13 = some ⟨oc13, od13, .func (PySem.W.fnOf "shown_expression" "shown_expression" (defArgs s_shown_expression) (defBody s_shown_expression) (defScope s_shown_expression) .none kV13 dc13 pm13 an13 cd13 ct13), sl13⟩)
    (c13 : PySem.W.codeIn K cd13 "shown_expression" = true)
    (k13 : PySem.W.keepIn K (.ref f13) = true)
    (a14 : PySem.W.nsIn K mainGlobals "_law_mixed" = some (some (.ref f14)))
    (l14 : K.lookup f14 = some ⟨oc14, od14, .func (PySem.W.fnOf "_law_mixed" "_law_mixed" (defArgs s__law_mixed) (defBody s__law_mixed) (defScope s__law_mixed) .none kV14 dc14 pm14 an14 cd14 ct14), sl14⟩)
    (c14 : PySem.W.codeIn K cd14 "_law_mixed" = true)
    (k14 : PySem.W.keepIn K (.ref f14) = true)
    (a15 : PySem.W.nsIn K mainGlobals "_law_cell_at" = some (some (.ref f15)))
    (l15 : K.lookup f15 = some ⟨oc15, od15, .func (PySem.W.fnOf "_law_cell_at" "_law_cell_at" (defArgs s__law_cell_at) (defBody s__law_cell_at) (defScope s__law_cell_at) .none kV15 dc15 pm15 an15 cd15 ct15), sl15⟩)
    (c15 : PySem.W.codeIn K cd15 "_law_cell_at" = true)
    (k15 : PySem.W.keepIn K (.ref f15) = true)
    (a16 : PySem.W.nsIn K mainGlobals "_law_workings" = some (some (.ref f16)))
    (l16 : K.lookup f16 = some ⟨oc16, od16, .func (PySem.W.fnOf "_law_workings" "_law_workings" (defArgs s__law_workings) (defBody s__law_workings) (defScope s__law_workings) .none kV16 dc16 pm16 an16 cd16 ct16), sl16⟩)
    (c16 : PySem.W.codeIn K cd16 "_law_workings" = true)
    (k16 : PySem.W.keepIn K (.ref f16) = true)
    (a17 : PySem.W.nsIn K mainGlobals "_law_good_leaf" = some (some (.ref f17)))
    (l17 : K.lookup f17 = some ⟨oc17, od17, .func (PySem.W.fnOf "_law_good_leaf" "_law_good_leaf" (defArgs s__law_good_leaf) (defBody s__law_good_leaf) (defScope s__law_good_leaf) .none kV17 dc17 pm17 an17 cd17 ct17), sl17⟩)
    (c17 : PySem.W.codeIn K cd17 "_law_good_leaf" = true)
    (k17 : PySem.W.keepIn K (.ref f17) = true)
    (a18 : PySem.W.nsIn K mainGlobals "_law_is_leaf" = some (some (.ref f18)))
    (l18 : K.lookup f18 = some ⟨oc18, od18, .func (PySem.W.fnOf "_law_is_leaf" "_law_is_leaf" (defArgs s__law_is_leaf) (defBody s__law_is_leaf) (defScope s__law_is_leaf) .none kV18 dc18 pm18 an18 cd18 ct18), sl18⟩)
    (c18 : PySem.W.codeIn K cd18 "_law_is_leaf" = true)
    (k18 : PySem.W.keepIn K (.ref f18) = true)
    (a19 : PySem.W.nsIn K mainGlobals "_law_stands" = some (some (.ref f19)))
    (l19 : K.lookup f19 = some ⟨oc19, od19, .func (PySem.W.fnOf "_law_stands" "_law_stands" (defArgs s__law_stands) (defBody s__law_stands) (defScope s__law_stands) .none kV19 dc19 pm19 an19 cd19 ct19), sl19⟩)
    (c19 : PySem.W.codeIn K cd19 "_law_stands" = true)
    (k19 : PySem.W.keepIn K (.ref f19) = true)
    (a20 : PySem.W.nsIn K mainGlobals "_law_kinds_of" = some (some (.ref f20)))
    (l20 : K.lookup f20 = some ⟨oc20, od20, .func (PySem.W.fnOf "_law_kinds_of" "_law_kinds_of" (defArgs s__law_kinds_of) (defBody s__law_kinds_of) (defScope s__law_kinds_of) .none kV20 dc20 pm20 an20 cd20 ct20), sl20⟩)
    (c20 : PySem.W.codeIn K cd20 "_law_kinds_of" = true)
    (k20 : PySem.W.keepIn K (.ref f20) = true)
    (a21 : PySem.W.nsIn K mainGlobals "_law_right" = some (some (.ref f21)))
    (l21 : K.lookup f21 = some ⟨oc21, od21, .func (PySem.W.fnOf "_law_right" "_law_right" (defArgs s__law_right) (defBody s__law_right) (defScope s__law_right) .none kV21 dc21 pm21 an21 cd21 ct21), sl21⟩)
    (c21 : PySem.W.codeIn K cd21 "_law_right" = true)
    (k21 : PySem.W.keepIn K (.ref f21) = true)
    (a22 : PySem.W.nsIn K mainGlobals "_law_no_word" = some (some (.ref f22)))
    (l22 : K.lookup f22 = some ⟨oc22, od22, .func (PySem.W.fnOf "_law_no_word" "_law_no_word" (defArgs s__law_no_word) (defBody s__law_no_word) (defScope s__law_no_word) .none kV22 dc22 pm22 an22 cd22 ct22), sl22⟩)
    (c22 : PySem.W.codeIn K cd22 "_law_no_word" = true)
    (k22 : PySem.W.keepIn K (.ref f22) = true)
    (a23 : PySem.W.nsIn K mainGlobals "_law_made" = some (some (.ref f23)))
    (l23 : K.lookup f23 = some ⟨oc23, od23, .func (PySem.W.fnOf "_law_made" "_law_made" (defArgs s__law_made) (defBody s__law_made) (defScope s__law_made) .none kV23 dc23 pm23 an23 cd23 ct23), sl23⟩)
    (c23 : PySem.W.codeIn K cd23 "_law_made" = true)
    (k23 : PySem.W.keepIn K (.ref f23) = true)
    (a24 : PySem.W.nsIn K mainGlobals "_law_any_word" = some (some (.ref f24)))
    (l24 : K.lookup f24 = some ⟨oc24, od24, .func (PySem.W.fnOf "_law_any_word" "_law_any_word" (defArgs s__law_any_word) (defBody s__law_any_word) (defScope s__law_any_word) .none kV24 dc24 pm24 an24 cd24 ct24), sl24⟩)
    (c24 : PySem.W.codeIn K cd24 "_law_any_word" = true)
    (k24 : PySem.W.keepIn K (.ref f24) = true)
    (a25 : PySem.W.nsIn K mainGlobals "_law_spoilt" = some (some (.ref f25)))
    (l25 : K.lookup f25 = some ⟨oc25, od25, .func (PySem.W.fnOf "_law_spoilt" "_law_spoilt" (defArgs s__law_spoilt) (defBody s__law_spoilt) (defScope s__law_spoilt) .none kV25 dc25 pm25 an25 cd25 ct25), sl25⟩)
    (c25 : PySem.W.codeIn K cd25 "_law_spoilt" = true)
    (k25 : PySem.W.keepIn K (.ref f25) = true)
    (a26 : PySem.W.nsIn K mainGlobals "_law_blanks" = some (some (.ref f26)))
    (l26 : K.lookup f26 = some ⟨oc26, od26, .func (PySem.W.fnOf "_law_blanks" "_law_blanks" (defArgs s__law_blanks) (defBody s__law_blanks) (defScope s__law_blanks) .none kV26 dc26 pm26 an26 cd26 ct26), sl26⟩)
    (c26 : PySem.W.codeIn K cd26 "_law_blanks" = true)
    (k26 : PySem.W.keepIn K (.ref f26) = true)
    (a27 : PySem.W.nsIn K mainGlobals "law" = some (some (.ref f27)))
    (l27 : K.lookup f27 = some ⟨oc27, od27, .func (PySem.W.fnOf "law" "law" (defArgs s_law) (defBody s_law) (defScope s_law) .none kV27 dc27 pm27 an27 cd27 ct27), sl27⟩)
    (c27 : PySem.W.codeIn K cd27 "law" = true)
    (k27 : PySem.W.keepIn K (.ref f27) = true)
    (pg_Walk : PySem.W.plainGet K c_Walk Str.empty = true)
    (hd_Walk : PySem.W.hasDictIn K c_Walk = true)
    (po_Walk : PySem.W.plainOver K c_Walk = true)
    (sa_Walk : PySem.W.findIn K (.ref c_Walk) "__setattr__" = some (some (.builtin "object.__setattr__")))
    (mk_Walk : PySem.W.makesIn K c_Walk = true)
    (kc_Walk : PySem.W.keepIn K (.ref c_Walk) = true)
    (n_Walk_row : PySem.W.findIn K (.ref c_Walk) "row" = some none)
    (n_Walk_at : PySem.W.findIn K (.ref c_Walk) "at" = some none)
    (zz_ValueError : PySem.W.nsIn K mainGlobals "ValueError" = some none)
    (zz_all : PySem.W.nsIn K mainGlobals "all" = some none)
    (zz_enumerate : PySem.W.nsIn K mainGlobals "enumerate" = some none)
    (zz_int : PySem.W.nsIn K mainGlobals "int" = some none)
    (zz_isinstance : PySem.W.nsIn K mainGlobals "isinstance" = some none)
    (zz_len : PySem.W.nsIn K mainGlobals "len" = some none)
    (zz_list : PySem.W.nsIn K mainGlobals "list" = some none)
    (zz_max : PySem.W.nsIn K mainGlobals "max" = some none)
    (zz_reversed : PySem.W.nsIn K mainGlobals "reversed" = some none)
    (zz_str : PySem.W.nsIn K mainGlobals "str" = some none)
    (mm_KEPT : PySem.W.nsIn K mainGlobals "KEPT" = some (some (.ref a_KEPT)))
    (lk_KEPT : K.lookup a_KEPT = some o_KEPT)
    (lc_KEPT : o_KEPT.cls = .type "tuple")
    (lt_KEPT : strTup o_KEPT keptW = true)
    (mm_LONGEST_NAME : PySem.W.nsIn K mainGlobals "LONGEST_NAME" = some (some (.int 8 t_LONGEST_NAME)))
    (mm_MOST_DEEP : PySem.W.nsIn K mainGlobals "MOST_DEEP" = some (some (.int 6 t_MOST_DEEP)))
    (mm_MOST_FIGURES : PySem.W.nsIn K mainGlobals "MOST_FIGURES" = some (some (.int 9 t_MOST_FIGURES)))
    (mm_SIGNS : PySem.W.nsIn K mainGlobals "SIGNS" = some (some (.ref a_SIGNS)))
    (lk_SIGNS : K.lookup a_SIGNS = some o_SIGNS)
    (lc_SIGNS : o_SIGNS.cls = .type "tuple")
    (lt_SIGNS : strTup o_SIGNS signW = true)
    (mm_WORKINGS : PySem.W.nsIn K mainGlobals "WORKINGS" = some (some (.ref a_WORKINGS)))
    (lk_WORKINGS : K.lookup a_WORKINGS = some o_WORKINGS)
    (lc_WORKINGS : o_WORKINGS.cls = .type "tuple")
    (lt_WORKINGS : strTup o_WORKINGS workW = true)
    (mm_LaneError : PySem.W.nsIn K mainGlobals "LaneError" = some (some (.ref c_LaneError)))
    (mm_NoHead : PySem.W.nsIn K mainGlobals "NoHead" = some (some (.ref c_NoHead)))
    (mm_NoLine : PySem.W.nsIn K mainGlobals "NoLine" = some (some (.ref c_NoLine)))
    (mm_NoName : PySem.W.nsIn K mainGlobals "NoName" = some (some (.ref c_NoName)))
    (mm_NoNest : PySem.W.nsIn K mainGlobals "NoNest" = some (some (.ref c_NoNest)))
    (mm_TooMuch : PySem.W.nsIn K mainGlobals "TooMuch" = some (some (.ref c_TooMuch)))
    (mm_Waits : PySem.W.nsIn K mainGlobals "Waits" = some (some (.ref c_Waits)))
    (x_NoLine : PySem.W.excIn K c_NoLine mroVE "ValueError.__new__" = true)
    (y1 : PySem.W.exmOne K (.ref c_NoLine) (.ref c_LaneError) = some true)
    (y2 : PySem.W.kitOne K (.ref c_NoLine) (.type "ValueError") = some true)
    (y_NoLine : PySem.W.kitOne K (.ref c_NoLine) (.ref c_NoLine) = some true)
    (y_TooMuch : PySem.W.kitOne K (.ref c_NoLine) (.ref c_TooMuch) = some false)
    (y_NoNest : PySem.W.kitOne K (.ref c_NoLine) (.ref c_NoNest) = some false)
    (y_NoName : PySem.W.kitOne K (.ref c_NoLine) (.ref c_NoName) = some false)
    (y_Waits : PySem.W.kitOne K (.ref c_NoLine) (.ref c_Waits) = some false)
    (y_NoHead : PySem.W.kitOne K (.ref c_NoLine) (.ref c_NoHead) = some false)
    (i1 : PySem.W.findIn K (.ref c_NoLine) "__getattribute__" = some (some (.builtin "BaseException.__getattribute__")))
    (i2 : PySem.W.findIn K (.ref c_NoLine) "__getattr__" = some none)
    (i3 : PySem.W.mroIn K c_NoLine (.type "BaseException") = some true)
    (i4 : PySem.W.clsIn K c_NoLine = some cd_NoLine)
    (i5 : PySem.W.findIn K (.ref c_NoLine) "__class__" = some (some (.builtin "object.__class__")))
    (i6 : PySem.W.specialIn K (.builtin "object.__class__") "__get__" = some (some (.builtin "getset_descriptor.__get__")))
    (i7 : PySem.W.takesIn K (.builtin "object.__class__") = some true)
    (i8 : PySem.W.mroIn K c_NoLine (.type "object") = some true) :
    ∃ fd : FuncData, (∀ (s : Shared) (v : Value), BindsTo s fd ⟨[v], []⟩ [("_law_script", v)]) ∧ ∀ base : Heap, K.In base → base.Ns mainGlobals mg → FnOk l.prog w K mg base CX0 14 fa fd ["_law_script"] (sp_law K) := by
  have e := hfa.symm.trans (PySem.W.mg_of X G a27)
  cases e
  have m_Walk := PySem.W.mg_of X G mm_Walk
  have F_is_letter := fun_mk (st := s_is_letter) l0 c0 k0
  have d_is_letter : Df K mg "is_letter" s_is_letter ["sign"] f0 _ := ⟨F_is_letter, F_is_letter.binds (ps := ["sign"]) fun _ _ _ _ _ _ us hl => match us, hl with | [_], _ => rfl, PySem.W.mg_of X G a0⟩
  have F_is_figure := fun_mk (st := s_is_figure) l1 c1 k1
  have d_is_figure : Df K mg "is_figure" s_is_figure ["sign"] f1 _ := ⟨F_is_figure, F_is_figure.binds (ps := ["sign"]) fun _ _ _ _ _ _ us hl => match us, hl with | [_], _ => rfl, PySem.W.mg_of X G a1⟩
  have F_is_name := fun_mk (st := s_is_name) l2 c2 k2
  have d_is_name : Df K mg "is_name" s_is_name ["text"] f2 _ := ⟨F_is_name, F_is_name.binds (ps := ["text"]) fun _ _ _ _ _ _ us hl => match us, hl with | [_], _ => rfl, PySem.W.mg_of X G a2⟩
  have F_read_number := fun_mk (st := s_read_number) l3 c3 k3
  have d_read_number : Df K mg "read_number" s_read_number ["text"] f3 _ := ⟨F_read_number, F_read_number.binds (ps := ["text"]) fun _ _ _ _ _ _ us hl => match us, hl with | [_], _ => rfl, PySem.W.mg_of X G a3⟩
  have F_Walk___init__ := fun_mk (st := s_Walk___init__) l4 c4 k4
  have b_Walk___init__ := F_Walk___init__.binds (ps := ["self", "row"]) fun _ _ _ _ _ _ us hl => match us, hl with | [_, _], _ => rfl
  have F_Walk_is_over := fun_mk (st := s_Walk_is_over) l5 c5 k5
  have b_Walk_is_over := F_Walk_is_over.binds (ps := ["self"]) fun _ _ _ _ _ _ us hl => match us, hl with | [_], _ => rfl
  have mt_Walk_is_over : Meth K c_Walk "is_over" f5 := ⟨a5, ifn5, k5⟩
  have F_Walk_taken := fun_mk (st := s_Walk_taken) l6 c6 k6
  have b_Walk_taken := F_Walk_taken.binds (ps := ["self"]) fun _ _ _ _ _ _ us hl => match us, hl with | [_], _ => rfl
  have mt_Walk_taken : Meth K c_Walk "taken" f6 := ⟨a6, ifn6, k6⟩
  have F_words_of := fun_mk (st := s_words_of) l7 c7 k7
  have d_words_of : Df K mg "words_of" s_words_of ["text"] f7 _ := ⟨F_words_of, F_words_of.binds (ps := ["text"]) fun _ _ _ _ _ _ us hl => match us, hl with | [_], _ => rfl, PySem.W.mg_of X G a7⟩
  have F_word_from := fun_mk (st := s_word_from) l8 c8 k8
  have d_word_from : Df K mg "word_from" s_word_from ["words"] f8 _ := ⟨F_word_from, F_word_from.binds (ps := ["words"]) fun _ _ _ _ _ _ us hl => match us, hl with | [_], _ => rfl, PySem.W.mg_of X G a8⟩
  have F_check_over := fun_mk (st := s_check_over) l9 c9 k9
  have d_check_over : Df K mg "check_over" s_check_over ["words"] f9 _ := ⟨F_check_over, F_check_over.binds (ps := ["words"]) fun _ _ _ _ _ _ us hl => match us, hl with | [_], _ => rfl, PySem.W.mg_of X G a9⟩
  have F_part_from := fun_mk (st := s_part_from) l10 c10 k10
  have d_part_from : Df K mg "part_from" s_part_from ["words", "deep"] f10 _ := ⟨F_part_from, F_part_from.binds (ps := ["words", "deep"]) fun _ _ _ _ _ _ us hl => match us, hl with | [_, _], _ => rfl, PySem.W.mg_of X G a10⟩
  have F_expression_from := fun_mk (st := s_expression_from) l11 c11 k11
  have d_expression_from : Df K mg "expression_from" s_expression_from ["words"] f11 _ := ⟨F_expression_from, F_expression_from.binds (ps := ["words"]) fun _ _ _ _ _ _ us hl => match us, hl with | [_], _ => rfl, PySem.W.mg_of X G a11⟩
  have F_read_expression := fun_mk (st := s_read_expression) l12 c12 k12
  have d_read_expression : Df K mg "read_expression" s_read_expression ["text"] f12 _ := ⟨F_read_expression, F_read_expression.binds (ps := ["text"]) fun _ _ _ _ _ _ us hl => match us, hl with | [_], _ => rfl, PySem.W.mg_of X G a12⟩
  have F_shown_expression := fun_mk (st := s_shown_expression) l13 c13 k13
  have d_shown_expression : Df K mg "shown_expression" s_shown_expression ["expression"] f13 _ := ⟨F_shown_expression, F_shown_expression.binds (ps := ["expression"]) fun _ _ _ _ _ _ us hl => match us, hl with | [_], _ => rfl, PySem.W.mg_of X G a13⟩
  have F__law_mixed := fun_mk (st := s__law_mixed) l14 c14 k14
  have d__law_mixed : Df K mg "_law_mixed" s__law_mixed ["_law_cell", "_law_k"] f14 _ := ⟨F__law_mixed, F__law_mixed.binds (ps := ["_law_cell", "_law_k"]) fun _ _ _ _ _ _ us hl => match us, hl with | [_, _], _ => rfl, PySem.W.mg_of X G a14⟩
  have F__law_cell_at := fun_mk (st := s__law_cell_at) l15 c15 k15
  have d__law_cell_at : Df K mg "_law_cell_at" s__law_cell_at ["_law_cells", "_law_k"] f15 _ := ⟨F__law_cell_at, F__law_cell_at.binds (ps := ["_law_cells", "_law_k"]) fun _ _ _ _ _ _ us hl => match us, hl with | [_, _], _ => rfl, PySem.W.mg_of X G a15⟩
  have F__law_workings := fun_mk (st := s__law_workings) l16 c16 k16
  have d__law_workings : Df K mg "_law_workings" s__law_workings [] f16 _ := ⟨F__law_workings, F__law_workings.binds (ps := []) fun _ _ _ _ _ _ us hl => match us, hl with | [], _ => rfl, PySem.W.mg_of X G a16⟩
  have F__law_good_leaf := fun_mk (st := s__law_good_leaf) l17 c17 k17
  have d__law_good_leaf : Df K mg "_law_good_leaf" s__law_good_leaf ["_law_cell"] f17 _ := ⟨F__law_good_leaf, F__law_good_leaf.binds (ps := ["_law_cell"]) fun _ _ _ _ _ _ us hl => match us, hl with | [_], _ => rfl, PySem.W.mg_of X G a17⟩
  have F__law_is_leaf := fun_mk (st := s__law_is_leaf) l18 c18 k18
  have d__law_is_leaf : Df K mg "_law_is_leaf" s__law_is_leaf ["_law_word"] f18 _ := ⟨F__law_is_leaf, F__law_is_leaf.binds (ps := ["_law_word"]) fun _ _ _ _ _ _ us hl => match us, hl with | [_], _ => rfl, PySem.W.mg_of X G a18⟩
  have F__law_stands := fun_mk (st := s__law_stands) l19 c19 k19
  have d__law_stands : Df K mg "_law_stands" s__law_stands ["_law_text"] f19 _ := ⟨F__law_stands, F__law_stands.binds (ps := ["_law_text"]) fun _ _ _ _ _ _ us hl => match us, hl with | [_], _ => rfl, PySem.W.mg_of X G a19⟩
  have F__law_kinds_of := fun_mk (st := s__law_kinds_of) l20 c20 k20
  have d__law_kinds_of : Df K mg "_law_kinds_of" s__law_kinds_of ["_law_text"] f20 _ := ⟨F__law_kinds_of, F__law_kinds_of.binds (ps := ["_law_text"]) fun _ _ _ _ _ _ us hl => match us, hl with | [_], _ => rfl, PySem.W.mg_of X G a20⟩
  have F__law_right := fun_mk (st := s__law_right) l21 c21 k21
  have d__law_right : Df K mg "_law_right" s__law_right ["_law_text"] f21 _ := ⟨F__law_right, F__law_right.binds (ps := ["_law_text"]) fun _ _ _ _ _ _ us hl => match us, hl with | [_], _ => rfl, PySem.W.mg_of X G a21⟩
  have F__law_no_word := fun_mk (st := s__law_no_word) l22 c22 k22
  have d__law_no_word : Df K mg "_law_no_word" s__law_no_word ["_law_cell"] f22 _ := ⟨F__law_no_word, F__law_no_word.binds (ps := ["_law_cell"]) fun _ _ _ _ _ _ us hl => match us, hl with | [_], _ => rfl, PySem.W.mg_of X G a22⟩
  have F__law_made := fun_mk (st := s__law_made) l23 c23 k23
  have d__law_made : Df K mg "_law_made" s__law_made ["_law_cells", "_law_at", "_law_room"] f23 _ := ⟨F__law_made, F__law_made.binds (ps := ["_law_cells", "_law_at", "_law_room"]) fun _ _ _ _ _ _ us hl => match us, hl with | [_, _, _], _ => rfl, PySem.W.mg_of X G a23⟩
  have F__law_any_word := fun_mk (st := s__law_any_word) l24 c24 k24
  have d__law_any_word : Df K mg "_law_any_word" s__law_any_word ["_law_cell"] f24 _ := ⟨F__law_any_word, F__law_any_word.binds (ps := ["_law_cell"]) fun _ _ _ _ _ _ us hl => match us, hl with | [_], _ => rfl, PySem.W.mg_of X G a24⟩
  have F__law_spoilt := fun_mk (st := s__law_spoilt) l25 c25 k25
  have d__law_spoilt : Df K mg "_law_spoilt" s__law_spoilt ["_law_words", "_law_cell", "_law_more"] f25 _ := ⟨F__law_spoilt, F__law_spoilt.binds (ps := ["_law_words", "_law_cell", "_law_more"]) fun _ _ _ _ _ _ us hl => match us, hl with | [_, _, _], _ => rfl, PySem.W.mg_of X G a25⟩
  have F__law_blanks := fun_mk (st := s__law_blanks) l26 c26 k26
  have d__law_blanks : Df K mg "_law_blanks" s__law_blanks ["_law_words", "_law_cell", "_law_more"] f26 _ := ⟨F__law_blanks, F__law_blanks.binds (ps := ["_law_words", "_law_cell", "_law_more"]) fun _ _ _ _ _ _ us hl => match us, hl with | [_, _, _], _ => rfl, PySem.W.mg_of X G a26⟩
  have F_law := fun_mk (st := s_law) l27 c27 k27
  have cl_Walk : Cls K c_Walk := ⟨pg_Walk, hd_Walk, po_Walk, sa_Walk⟩
  have M_Walk : Mk K c_Walk f4 := ⟨mk_Walk, a4, ifn4, kc_Walk⟩
  have z_ValueError := PySem.W.mg_none_of X G zz_ValueError
  have z_all := PySem.W.mg_none_of X G zz_all
  have z_enumerate := PySem.W.mg_none_of X G zz_enumerate
  have z_int := PySem.W.mg_none_of X G zz_int
  have z_isinstance := PySem.W.mg_none_of X G zz_isinstance
  have z_len := PySem.W.mg_none_of X G zz_len
  have z_list := PySem.W.mg_none_of X G zz_list
  have z_max := PySem.W.mg_none_of X G zz_max
  have z_reversed := PySem.W.mg_none_of X G zz_reversed
  have z_str := PySem.W.mg_none_of X G zz_str
  have m_KEPT := PySem.W.mg_of X G mm_KEPT
  have m_LONGEST_NAME := PySem.W.mg_of X G mm_LONGEST_NAME
  have m_MOST_DEEP := PySem.W.mg_of X G mm_MOST_DEEP
  have m_MOST_FIGURES := PySem.W.mg_of X G mm_MOST_FIGURES
  have m_SIGNS := PySem.W.mg_of X G mm_SIGNS
  have m_WORKINGS := PySem.W.mg_of X G mm_WORKINGS
  have m_LaneError := PySem.W.mg_of X G mm_LaneError
  have m_NoHead := PySem.W.mg_of X G mm_NoHead
  have m_NoLine := PySem.W.mg_of X G mm_NoLine
  have m_NoName := PySem.W.mg_of X G mm_NoName
  have m_NoNest := PySem.W.mg_of X G mm_NoNest
  have m_TooMuch := PySem.W.mg_of X G mm_TooMuch
  have m_Waits := PySem.W.mg_of X G mm_Waits
  refine ⟨PySem.W.fnOf "law" "law" (defArgs s_law) (defBody s_law) (defScope s_law) .none kV27 dc27 pm27 an27 cd27 ct27, fun s v => .of_eq rfl, fun base _ _ => ?_⟩
  have G_is_letter := ok_is_letter (P := l.prog) (w := w) (mg := mg) (base := base) F_is_letter
  have G_is_figure := ok_is_figure (P := l.prog) (w := w) (mg := mg) (base := base) F_is_figure
  have G_is_name := ok_is_name (P := l.prog) (w := w) (mg := mg) (base := base) F_is_name d_is_letter G_is_letter z_len z_all m_LONGEST_NAME m_KEPT lk_KEPT lc_KEPT lt_KEPT
  have G_read_number := ok_read_number (P := l.prog) (w := w) (mg := mg) (base := base) F_read_number d_is_figure G_is_figure z_all z_len z_int m_MOST_FIGURES m_NoLine x_NoLine
  have G_Walk___init__ := ok_Walk___init__ (P := l.prog) (w := w) (mg := mg) (base := base) F_Walk___init__ m_Walk cl_Walk n_Walk_row n_Walk_at
  have G_Walk_is_over := ok_Walk_is_over (P := l.prog) (w := w) (mg := mg) (base := base) F_Walk_is_over m_Walk cl_Walk n_Walk_row n_Walk_at z_len
  have G_Walk_taken := ok_Walk_taken (P := l.prog) (w := w) (mg := mg) (base := base) F_Walk_taken m_Walk cl_Walk n_Walk_row n_Walk_at
  have G_words_of := ok_words_of (P := l.prog) (w := w) (mg := mg) (base := base) F_words_of b_Walk___init__ M_Walk G_Walk___init__ m_Walk cl_Walk n_Walk_row n_Walk_at
  have G_word_from := ok_word_from (P := l.prog) (w := w) (mg := mg) (base := base) F_word_from b_Walk_is_over mt_Walk_is_over G_Walk_is_over b_Walk_taken mt_Walk_taken G_Walk_taken m_Walk cl_Walk n_Walk_row n_Walk_at m_NoLine x_NoLine
  have G_check_over := ok_check_over (P := l.prog) (w := w) (mg := mg) (base := base) F_check_over b_Walk_is_over mt_Walk_is_over G_Walk_is_over m_Walk cl_Walk n_Walk_row n_Walk_at m_NoLine x_NoLine
  have G_part_from := ok_part_from (P := l.prog) (w := w) (mg := mg) (base := base) d_part_from d_word_from G_word_from d_is_name G_is_name d_read_number G_read_number m_WORKINGS lk_WORKINGS lc_WORKINGS lt_WORKINGS m_SIGNS lk_SIGNS lc_SIGNS lt_SIGNS m_NoLine x_NoLine 7
  have G_expression_from := ok_expression_from (P := l.prog) (w := w) (mg := mg) (base := base) F_expression_from d_part_from G_part_from m_MOST_DEEP
  have G_read_expression := ok_read_expression (P := l.prog) (w := w) (mg := mg) (base := base) F_read_expression d_words_of G_words_of d_expression_from G_expression_from d_check_over G_check_over
  have G_shown_expression := ok_shown_expression (P := l.prog) (w := w) (mg := mg) (base := base) d_shown_expression z_str m_SIGNS lk_SIGNS lc_SIGNS lt_SIGNS 7
  have G__law_mixed := ok__law_mixed (P := l.prog) (w := w) (mg := mg) (base := base) F__law_mixed
  have G__law_cell_at := ok__law_cell_at (P := l.prog) (w := w) (mg := mg) (base := base) F__law_cell_at z_len
  have G__law_workings := ok__law_workings (P := l.prog) (w := w) (mg := mg) (base := base) F__law_workings
  have G__law_good_leaf := ok__law_good_leaf (P := l.prog) (w := w) (mg := mg) (base := base) F__law_good_leaf
  have G__law_is_leaf := ok__law_is_leaf (P := l.prog) (w := w) (mg := mg) (base := base) F__law_is_leaf
  have G__law_stands := ok__law_stands (P := l.prog) (w := w) (mg := mg) (base := base) F__law_stands d__law_workings G__law_workings d__law_is_leaf G__law_is_leaf z_reversed z_len z_max
  have G__law_kinds_of := ok__law_kinds_of (P := l.prog) (w := w) (mg := mg) (base := base) F__law_kinds_of d_read_expression G_read_expression z_isinstance z_ValueError m_LaneError m_NoHead m_Waits m_NoName m_NoNest m_TooMuch m_NoLine ⟨i1, i2, i3, ⟨_, i4⟩, i5, i6, i7, i8⟩ y1 y2 y_NoLine y_TooMuch y_NoNest y_NoName y_Waits y_NoHead
  have G__law_right := ok__law_right (P := l.prog) (w := w) (mg := mg) (base := base) F__law_right d__law_stands G__law_stands d__law_kinds_of G__law_kinds_of d_shown_expression G_shown_expression d_read_expression G_read_expression z_isinstance z_str
  have G__law_no_word := ok__law_no_word (P := l.prog) (w := w) (mg := mg) (base := base) F__law_no_word z_str
  have G__law_made := ok__law_made (P := l.prog) (w := w) (mg := mg) (base := base) d__law_made d__law_cell_at G__law_cell_at d__law_good_leaf G__law_good_leaf d__law_workings G__law_workings z_len 5
  have G__law_any_word := ok__law_any_word (P := l.prog) (w := w) (mg := mg) (base := base) F__law_any_word d__law_workings G__law_workings d__law_good_leaf G__law_good_leaf d__law_no_word G__law_no_word
  have G__law_spoilt := ok__law_spoilt (P := l.prog) (w := w) (mg := mg) (base := base) F__law_spoilt d__law_any_word G__law_any_word z_len z_list
  have G__law_blanks := ok__law_blanks (P := l.prog) (w := w) (mg := mg) (base := base) F__law_blanks z_len
  have G_law := ok_law (P := l.prog) (w := w) (mg := mg) (base := base) F_law d__law_mixed G__law_mixed d__law_cell_at G__law_cell_at d__law_made G__law_made d__law_spoilt G__law_spoilt d__law_right G__law_right d__law_blanks G__law_blanks z_enumerate z_len
  exact G_law
theorem walk {l : PySem.W.OpenLaw} {q : Program} {loose : List Str} {XP : (Str → Option Value) → Heap → Prop} {YP : World → Heap → Prop} {d : DefRec} {K : Params → PySem.W.Frag} (hn : l.most = some 63) (hdf : d.params.defaults = [])
    (hY : ∀ (w : World) (h : Heap), YP w h → (K w.params).In h)
    (F : ∀ (w : World) (mg : Str → Option Value) (fa : Addr) (h : Heap), (K w.params).In h → h.Ns mainGlobals mg → mg d.name = some (.ref fa) →
      ∃ fd : FuncData, (∀ (s : Shared) (u : Value), BindsTo s fd ⟨[u], []⟩ [("_law_script", u)]) ∧ ∀ base : Heap, (K w.params).In base → base.Ns mainGlobals mg → FnOk l.prog w (K w.params) mg base CX0 14 fa fd ["_law_script"] (sp_law (K w.params))) :
    PySem.W.WalkO q loose XP YP l.row.toRowW d [] (fun f vs => PySem.call f vs) :=
  L2.walk_of (n := 63) (k := 14) (x := "_law_script") (CX := fun _ => CX0) (sp := fun w => (sp_law (K w.params))) hn (by decide) hdf ⟨rfl, by decide, by decide⟩ hY F (fun _ _ a ns hl _ hS => ⟨a, ns, rfl, hS, hl, fun _ => rfl⟩) fun _ _ _ _ _ z => z
end My
open PySem PySem.W PyProof.Rows
set_option maxRecDepth 100000 in
set_option maxHeartbeats 0 in
theorem PySem.Challenge.cw_widelanes_k05_expressions_refused_holds : PySem.Challenge.rw_widelanes_k05_expressions_refused.Holds := by
  w_on; o_law; k_head; (case hw => w_witness2)
  k_fill
  refine My.walk (l := PySem.Challenge.rw_widelanes_k05_expressions_refused) rfl rfl (fun w h Y => PySem.W.kIn_of Y) ?F
  case F =>
    intro w mg fa h KX G hmg
    refine' My.all_mk KX G hmg ?mm_Walk ?a0 ?l0 ?c0 ?k0 ?a1 ?l1 ?c1 ?k1 ?a2 ?l2 ?c2 ?k2 ?a3 ?l3 ?c3 ?k3 ?a4 ?ifn4 ?l4 ?c4 ?k4 ?a5 ?ifn5 ?l5 ?c5 ?k5 ?a6 ?ifn6 ?l6 ?c6 ?k6 ?a7 ?l7 ?c7 ?k7 ?a8 ?l8 ?c8 ?k8 ?a9 ?l9 ?c9 ?k9 ?a10 ?l10 ?c10 ?k10 ?a11 ?l11 ?c11 ?k11 ?a12 ?l12 ?c12 ?k12 ?a13 ?l13 ?c13 ?k13 ?a14 ?l14 ?c14 ?k14 ?a15 ?l15 ?c15 ?k15 ?a16 ?l16 ?c16 ?k16 ?a17 ?l17 ?c17 ?k17 ?a18 ?l18 ?c18 ?k18 ?a19 ?l19 ?c19 ?k19 ?a20 ?l20 ?c20 ?k20 ?a21 ?l21 ?c21 ?k21 ?a22 ?l22 ?c22 ?k22 ?a23 ?l23 ?c23 ?k23 ?a24 ?l24 ?c24 ?k24 ?a25 ?l25 ?c25 ?k25 ?a26 ?l26 ?c26 ?k26 ?a27 ?l27 ?c27 ?k27 ?pg_Walk ?hd_Walk ?po_Walk ?sa_Walk ?mk_Walk ?kc_Walk ?n_Walk_row ?n_Walk_at ?zz_ValueError ?zz_all ?zz_enumerate ?zz_int ?zz_isinstance ?zz_len ?zz_list ?zz_max ?zz_reversed ?zz_str ?mm_KEPT ?lk_KEPT ?lc_KEPT ?lt_KEPT ?mm_LONGEST_NAME ?mm_MOST_DEEP ?mm_MOST_FIGURES ?mm_SIGNS ?lk_SIGNS ?lc_SIGNS ?lt_SIGNS ?mm_WORKINGS ?lk_WORKINGS ?lc_WORKINGS ?lt_WORKINGS ?mm_LaneError ?mm_NoHead ?mm_NoLine ?mm_NoName ?mm_NoNest ?mm_TooMuch ?mm_Waits ?x_NoLine ?y1 ?y2 ?y_NoLine ?y_TooMuch ?y_NoNest ?y_NoName ?y_Waits ?y_NoHead ?i1 ?i2 ?i3 ?i4 ?i5 ?i6 ?i7 ?i8
    (case mm_Walk => k_is)
    (case a0 => k_is)
    (case l0 => k_is)
    (case c0 => k_is)
    (case k0 => k_is)
    (case a1 => k_is)
    (case l1 => k_is)
    (case c1 => k_is)
    (case k1 => k_is)
    (case a2 => k_is)
    (case l2 => k_is)
    (case c2 => k_is)
    (case k2 => k_is)
    (case a3 => k_is)
    (case l3 => k_is)
    (case c3 => k_is)
    (case k3 => k_is)
    (case a4 => k_is)
    (case ifn4 => k_is)
    (case l4 => k_is)
    (case c4 => k_is)
    (case k4 => k_is)
    (case a5 => k_is)
    (case ifn5 => k_is)
    (case l5 => k_is)
    (case c5 => k_is)
    (case k5 => k_is)
    (case a6 => k_is)
    (case ifn6 => k_is)
    (case l6 => k_is)
    (case c6 => k_is)
    (case k6 => k_is)
    (case a7 => k_is)
    (case l7 => k_is)
    (case c7 => k_is)
    (case k7 => k_is)
    (case a8 => k_is)
    (case l8 => k_is)
    (case c8 => k_is)
    (case k8 => k_is)
    (case a9 => k_is)
    (case l9 => k_is)
    (case c9 => k_is)
    (case k9 => k_is)
    (case a10 => k_is)
    (case l10 => k_is)
    (case c10 => k_is)
    (case k10 => k_is)
    (case a11 => k_is)
    (case l11 => k_is)
    (case c11 => k_is)
    (case k11 => k_is)
    (case a12 => k_is)
    (case l12 => k_is)
    (case c12 => k_is)
    (case k12 => k_is)
    (case a13 => k_is)
    (case l13 => k_is)
    (case c13 => k_is)
    (case k13 => k_is)
    (case a14 => k_is)
    (case l14 => k_is)
    (case c14 => k_is)
    (case k14 => k_is)
    (case a15 => k_is)
    (case l15 => k_is)
    (case c15 => k_is)
    (case k15 => k_is)
    (case a16 => k_is)
    (case l16 => k_is)
    (case c16 => k_is)
    (case k16 => k_is)
    (case a17 => k_is)
    (case l17 => k_is)
    (case c17 => k_is)
    (case k17 => k_is)
    (case a18 => k_is)
    (case l18 => k_is)
    (case c18 => k_is)
    (case k18 => k_is)
    (case a19 => k_is)
    (case l19 => k_is)
    (case c19 => k_is)
    (case k19 => k_is)
    (case a20 => k_is)
    (case l20 => k_is)
    (case c20 => k_is)
    (case k20 => k_is)
    (case a21 => k_is)
    (case l21 => k_is)
    (case c21 => k_is)
    (case k21 => k_is)
    (case a22 => k_is)
    (case l22 => k_is)
    (case c22 => k_is)
    (case k22 => k_is)
    (case a23 => k_is)
    (case l23 => k_is)
    (case c23 => k_is)
    (case k23 => k_is)
    (case a24 => k_is)
    (case l24 => k_is)
    (case c24 => k_is)
    (case k24 => k_is)
    (case a25 => k_is)
    (case l25 => k_is)
    (case c25 => k_is)
    (case k25 => k_is)
    (case a26 => k_is)
    (case l26 => k_is)
    (case c26 => k_is)
    (case k26 => k_is)
    (case a27 => k_is)
    (case l27 => k_is)
    (case c27 => k_is)
    (case k27 => k_is)
    (case pg_Walk => k_is)
    (case hd_Walk => k_is)
    (case po_Walk => k_is)
    (case sa_Walk => k_is)
    (case mk_Walk => k_is)
    (case kc_Walk => k_is)
    (case n_Walk_row => k_is)
    (case n_Walk_at => k_is)
    (case zz_ValueError => k_is)
    (case zz_all => k_is)
    (case zz_enumerate => k_is)
    (case zz_int => k_is)
    (case zz_isinstance => k_is)
    (case zz_len => k_is)
    (case zz_list => k_is)
    (case zz_max => k_is)
    (case zz_reversed => k_is)
    (case zz_str => k_is)
    (case mm_KEPT => k_is)
    (case lk_KEPT => k_is)
    (case lc_KEPT => rfl)
    (case lt_KEPT => decide +kernel)
    (case mm_LONGEST_NAME => k_is)
    (case mm_MOST_DEEP => k_is)
    (case mm_MOST_FIGURES => k_is)
    (case mm_SIGNS => k_is)
    (case lk_SIGNS => k_is)
    (case lc_SIGNS => rfl)
    (case lt_SIGNS => decide +kernel)
    (case mm_WORKINGS => k_is)
    (case lk_WORKINGS => k_is)
    (case lc_WORKINGS => rfl)
    (case lt_WORKINGS => decide +kernel)
    (case mm_LaneError => k_is)
    (case mm_NoHead => k_is)
    (case mm_NoLine => k_is)
    (case mm_NoName => k_is)
    (case mm_NoNest => k_is)
    (case mm_TooMuch => k_is)
    (case mm_Waits => k_is)
    (case x_NoLine => k_exc)
    (case y1 => kts_exm)
    (case y2 => kit_is)
    (case y_NoLine => kit_is)
    (case y_TooMuch => kit_is)
    (case y_NoNest => kit_is)
    (case y_NoName => kit_is)
    (case y_Waits => kit_is)
    (case y_NoHead => kit_is)
    (case i1 => k_is)
    (case i2 => k_is)
    (case i3 => k_is)
    (case i4 => k_is)
    (case i5 => k_is)
    (case i6 => k_is)
    (case i7 => k_is)
    (case i8 => k_is)
