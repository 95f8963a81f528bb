import PyProof.Rows.All
import Wide.All
import OpenK.AllK
import Wide.FinOn
import Lean
import PyProof.EqAt
import PyProof.EqKinds
import PyProof.TupleCall
import PySem.Challenge.RW_widelanes_k51_shared_boxes
set_option Elab.async false
set_option linter.all false
set_option maxRecDepth 100000
namespace L2
open PySem PySem.Spec PyProof.Rows
abbrev Key := Sum Int Str
def keyIs : Key → Value → Bool
  | .inl k, v => Value.isInt k v
  | .inr x, v => Value.isStrOf x v
def keyH (w : World) : Key → Int
  | .inl k => hashInt k
  | .inr x => hashStr w x
theorem keyIs_shape : ∀ {k : Key} {v : Value}, keyIs k v = true → (∃ i t, k = Sum.inl i ∧ v = Value.int i t) ∨ (∃ x t, k = Sum.inr x ∧ v = Value.str x t)
  | .inl i, v, h => by
    obtain ⟨t, e⟩ := Value.isInt_shape (k := i) (v := v) h
    exact .inl ⟨i, t, rfl, e⟩
  | .inr x, v, h => by
    obtain ⟨t, e⟩ := Value.isStrOf_shape (x := x) (v := v) h
    exact .inr ⟨x, t, rfl, e⟩
theorem keyIs_int (i : Int) (t : Tok) : keyIs (.inl i) (.int i t) = true := by simp [keyIs, Value.isInt]
theorem keyIs_str (x : Str) (t : Tok) : keyIs (.inr x) (.str x t) = true := by simp [keyIs, Value.isStrOf]
theorem key_ll (a b : Int) : decide ((Sum.inl a : Key) = Sum.inl b) = (a == b) := by
  by_cases e : a = b
  · subst e; simp
  · have h : ¬ (Sum.inl a : Key) = Sum.inl b := fun q => e (Sum.inl.inj q)
    rw [decide_eq_false h]
    exact (beq_eq_false_iff_ne.mpr e).symm
theorem key_rr (a b : Str) : decide ((Sum.inr a : Key) = Sum.inr b) = decide (a = b) := by
  by_cases e : a = b
  · subst e; simp
  · have h : ¬ (Sum.inr a : Key) = Sum.inr b := fun q => e (Sum.inr.inj q)
    rw [decide_eq_false h, decide_eq_false e]
theorem key_lr (a : Int) (b : Str) : decide ((Sum.inl a : Key) = Sum.inr b) = false := decide_eq_false (fun q => nomatch q)
theorem key_rl (a : Str) (b : Int) : decide ((Sum.inr a : Key) = Sum.inl b) = false := decide_eq_false (fun q => nomatch q)
def mixKind (prog : Program) (w : World) : PySem.KeyKind prog w Key where
  is := keyIs
  hash := keyH w
  inj := fun v a b ha hb => by
    rcases keyIs_shape ha with ⟨i, t, rfl, rfl⟩ | ⟨x, t, rfl, rfl⟩
    · rcases keyIs_shape hb with ⟨j, u, rfl, e⟩ | ⟨y, u, rfl, e⟩
      · injection e with e1 _; rw [e1]
      · exact nomatch e
    · rcases keyIs_shape hb with ⟨j, u, rfl, e⟩ | ⟨y, u, rfl, e⟩
      · exact nomatch e
      · injection e with e1 _; rw [e1]
  byValue := fun k v h => by
    rcases keyIs_shape h with ⟨i, t, rfl, rfl⟩ | ⟨x, t, rfl, rfl⟩ <;> rfl
  pyHash := fun hv h => by
    rcases keyIs_shape hv with ⟨i, t, rfl, rfl⟩ | ⟨x, t, rfl, rfl⟩
    · exact wpAny_pyHash_int h
    · exact wpAny_pyHash_str h
  eqBool := fun hu hv h => by
    rcases keyIs_shape hu with ⟨i, t, rfl, rfl⟩ | ⟨x, t, rfl, rfl⟩
    · rcases keyIs_shape hv with ⟨j, u, rfl, rfl⟩ | ⟨y, u, rfl, rfl⟩
      · rw [key_ll] at h; exact wpAny_eqBool_int h
      · rw [key_lr] at h; exact SeqAt.EqAt.int_str i t y u _ _ _ _ h
    · rcases keyIs_shape hv with ⟨j, u, rfl, rfl⟩ | ⟨y, u, rfl, rfl⟩
      · rw [key_rl] at h; exact SeqAt.EqAt.str_int x t j u _ _ _ _ h
      · rw [key_rr] at h; exact wpAny_eqBool_str h
  «strs» := fun k x t v h => by
    rcases keyIs_shape h with ⟨i, u, rfl, e⟩ | ⟨y, u, rfl, e⟩
    · exact nomatch e
    · injection e with e1 _
      subst e1
      cases v <;> rfl
theorem mixKind_int (prog : Program) (w : World) (i : Int) (t : Tok) : (mixKind prog w).is (.inl i) (.int i t) = true := keyIs_int i t
theorem mixKind_str (prog : Program) (w : World) (x : Str) (t : Tok) : (mixKind prog w).is (.inr x) (.str x t) = true := keyIs_str x t
end L2
namespace L2
open PySem PySem.Spec PyProof.Rows
inductive V where
  | non | bl (b : Bool) | int (i : Int) | str (x : Str) | byt (b : Array UInt8) | flt (b : UInt64) | ref (a : Addr) | ty (n : String)
  deriving DecidableEq
def RelV : V → Value → Prop
  | .non, u => u = Value.none
  | .bl b, u => u = Value.bool b
  | .int i, u => ∃ t, u = Value.int i t
  | .str x, u => ∃ t, u = Value.str x t
  | .byt b, u => ∃ t, u = Value.bytes b t
  | .flt b, u => ∃ t, u = Value.float b t
  | .ref a, u => u = Value.ref a
  | .ty n, u => u = Value.type n
abbrev Vals : List V → List Value → Prop := Paired RelV
theorem Vals.length {xs : List V} {us : List Value} (r : Vals xs us) : xs.length = us.length := Paired.length r
theorem Vals.get : ∀ {xs : List V} {us : List Value} {i : Nat} {x : V}, Vals xs us → xs[i]? = some x → ∃ u, us[i]? = some u ∧ RelV x u
  | _, _, _, _, .nil, e => by simp at e
  | _, _, 0, _, .cons r _, e => by simp at e; subst e; exact ⟨_, rfl, r⟩
  | _, _, i + 1, x, .cons _ t, e => by
    obtain ⟨u, h1, h2⟩ := Vals.get (i := i) (x := x) t (by simpa using e)
    exact ⟨u, by simpa using h1, h2⟩
theorem Vals.set {x : V} {u : Value} (r : RelV x u) : ∀ {xs : List V} {us : List Value} (i : Nat), Vals xs us → Vals (xs.set i x) (us.set i u)
  | _, _, _, .nil => .nil
  | _, _, 0, .cons _ t => .cons r t
  | _, _, i + 1, .cons q t => .cons q (Vals.set r i t)
theorem Vals.append : ∀ {xs ys : List V} {us ws : List Value}, Vals xs us → Vals ys ws → Vals (xs ++ ys) (us ++ ws)
  | _, _, _, _, .nil, s => s
  | _, _, _, _, .cons r t, s => .cons r (Vals.append t s)
theorem Vals.take : ∀ {xs : List V} {us : List Value} (n : Nat), Vals xs us → Vals (xs.take n) (us.take n)
  | _, _, 0, _ => .nil
  | _, _, _ + 1, .nil => .nil
  | _, _, n + 1, .cons r t => .cons r (Vals.take n t)
theorem Vals.drop : ∀ {xs : List V} {us : List Value} (n : Nat), Vals xs us → Vals (xs.drop n) (us.drop n)
  | _, _, 0, r => r
  | _, _, _ + 1, .nil => .nil
  | _, _, n + 1, .cons _ t => Vals.drop n t
theorem Vals.none_of : ∀ {xs : List V} {us : List Value} {i : Nat}, Vals xs us → xs[i]? = none → us[i]? = none := fun {xs us i} r e => by
  have h1 := r.length
  have h2 : xs.length ≤ i := List.getElem?_eq_none_iff.mp e
  exact List.getElem?_eq_none_iff.mpr (by omega)
def RelO : Option V → Option Value → Prop
  | some v, some u => RelV v u
  | none, none => True
  | _, _ => False
def KV {κ : Type} : List (κ × V) → List (κ × Value) → Prop := Paired fun (p : κ × V) (q : κ × Value) => p.1 = q.1 ∧ RelV p.2 q.2
def kV : Key → V
  | .inl i => .int i
  | .inr x => .str x
inductive HO where
  /-- a list -/
  | lst (xs : List V)
  /-- a tuple (never changes) -/
  | tup (xs : List V)
  /-- a dict whose keys are ints and texts; one whose keys are tuples of ints and texts (the empty one is both) -/
  | dK (kvs : List (Key × V)) | dT (kvs : List (List Key × V))
  /-- a set of ints: its members, its size -/
  | set (S : Int → Bool) (n : Nat)
  /-- an instance of the class at C, its dict at dx, its attributes -/
  | ins (C dx : Addr) (fs : List (Str × V))
  /-- the dict of the instance at x -/
  | own (x : Addr)
  /-- the dict of an exception -/
  | xd (fs : List (Str × V))
  /-- a bound method, f of x -/
  | met (f x : Addr)
  /-- a range object lo, lo + 1, .. below hi -/
  | rng (lo hi : Int)
  /-- a thing that is known to the object (the script; a dict while a loop walks it): read, never written while it is so -/
  | frz (o : Obj) (u : HO)
  /-- a code object's table -/
  | tbl (ps : Array Value)
  /-- any other thing, by what is true of its one object (a def of one's own: SetO a S n := HO.ext fun h => ..) -/
  | ext (φ : Heap → Prop)
abbrev Hp := Addr → Option HO
def upd (H : Hp) (a : Addr) (o : HO) : Hp := fun b => if b = a then some o else H b
theorem upd_same {H : Hp} {a : Addr} {o : HO} : upd H a o a = some o := by unfold upd; rw [if_pos rfl]
theorem upd_ne {H : Hp} {a b : Addr} {o : HO} (h : b ≠ a) : upd H a o b = H b := by unfold upd; rw [if_neg h]
theorem ne_of_none {H : Hp} {a b : Addr} {o : HO} (h : H a = some o) (h' : H b = none) : a ≠ b := by
  intro e; subst e; rw [h] at h'; cases h'
section
variable (P : Program) (w : World)
def ObjOk (H : Hp) (h : Heap) (a : Addr) : HO → Prop
  | .lst xs => xs.length ≤ sizeLine ∧ ∃ (its : List Value) (n : Nat), Vals xs its ∧ h.get? a = some { cls := .type "list", data := .seq its.toArray n }
  | .tup xs => xs.length ≤ sizeLine ∧ ∃ its : List Value, Vals xs its ∧ IsTup h a its.toArray
  | .dK kvs => kvs.length ≤ sizeLine ∧ (a == sysModules) = false ∧ ∃ vs, KV kvs vs ∧ h.DictOf (mixKind P w) a vs
  | .dT kvs => kvs.length ≤ sizeLine ∧ (a == sysModules) = false ∧ ∃ xs : List (List Key × Addr × Value),
      Paired (fun (p : List Key × V) (q : List Key × Addr × Value) => p.1 = q.1 ∧ H q.2.1 = some (.tup (p.1.map kV)) ∧ RelV p.2 q.2.2) kvs xs ∧
      ∃ o es ep, h.get? a = some o ∧ o.ExactDict ∧ o.data = .dict es ep ∧ es.toList = xs.map (entryOfKey (tupleKind (mixKind P w))) ∧ (xs.map (·.1)).Nodup
  | .set S n => h.SetOf (intKind P w) a S n
  | .ins C dx fs => H dx = some (.own a) ∧ fs.length ≤ 1000 ∧ dx ≠ a ∧ h.get? a = some (PySem.W.instObj C dx) ∧
      ∃ mA, h.Ns1 dx mA ∧ (∀ f, RelO (fs.lookup f) (mA f)) ∧ PySem.Within mA (fs.map (·.1))
  | .own _ => ∃ o, h.get? a = some o
  | .xd fs => ∃ mA, h.Ns1 a mA ∧ ∀ f, RelO (fs.lookup f) (mA f)
  | .rng lo hi => ∃ t u v, h.get? a = some { cls := .type "range", data := .fields #[.int lo t, .int hi u, .int 1 v] }
  | .frz o u => h.get? a = some o ∧ ObjOk H h a u
  | .tbl ps => h.get? a = some { cls := .none, data := .fields ps }
  | .met f x => h.get? a = some (PySem.W.methodObj (.ref f) (.ref x))
  | .ext φ => φ h ∧ (∃ o, h.get? a = some o) ∧ ∀ h1 h2 : Heap, φ h1 → (∀ o, h1.get? a = some o → h2.get? a = some o) → φ h2
def HOk (H : Hp) (h : Heap) : Prop := ∀ a o, H a = some o → ObjOk P w H h a o
end
section
variable {P : Program} {w : World} {H H' : Hp} {h h' : Heap} {a : Addr} {o : HO}
theorem ObjOk.lt (x : ObjOk P w H h a o) : a < h.objs.size := by
  cases o with
  | lst xs => obtain ⟨_, _, _, _, e⟩ := x; exact Heap.lt_size e
  | tup xs => obtain ⟨_, _, _, p⟩ := x; exact p.lt
  | dK kvs => obtain ⟨_, _, _, _, o, _, _, e, _⟩ := x; exact Heap.lt_size e
  | dT kvs => obtain ⟨_, _, _, _, o, _, _, e, _⟩ := x; exact Heap.lt_size e
  | set S n => obtain ⟨o, _, _, _, e, _⟩ := x; exact Heap.lt_size e
  | ins C dx fs => obtain ⟨_, _, _, e, _⟩ := x; exact Heap.lt_size e
  | own y => obtain ⟨_, e⟩ := x; exact Heap.lt_size e
  | xd fs => obtain ⟨_, ⟨_, _, _, e, _⟩, _⟩ := x; exact Heap.lt_size e
  | rng lo hi => obtain ⟨_, _, _, e⟩ := x; exact Heap.lt_size e
  | frz ob u => obtain ⟨e, _⟩ := x; exact Heap.lt_size e
  | tbl ps => exact Heap.lt_size (show h.get? a = some _ from x)
  | met f y => exact Heap.lt_size (show h.get? a = some _ from x)
  | ext φ => obtain ⟨_, ⟨_, e⟩, _⟩ := x; exact Heap.lt_size e
theorem Paired.mapP {α β : Type} {F G : α → β → Prop} : ∀ {l₁ : List α} {l₂ : List β}, Paired F l₁ l₂ → (∀ a b, F a b → G a b) → Paired G l₁ l₂
  | _, _, .nil, _ => .nil
  | _, _, .cons r t, f => .cons (f _ _ r) (Paired.mapP t f)
theorem ObjOk.stay (x : ObjOk P w H h a o) (k : ∀ b u, (b = a ∨ H b = some (.own a)) → h.get? b = some u → h'.get? b = some u)
    (ho : ∀ b, H b = some (.own a) → H' b = some (.own a)) (ht : ∀ b xs, H b = some (.tup xs) → H' b = some (.tup xs)) : ObjOk P w H' h' a o := by
  induction o with
  | lst xs => obtain ⟨z, its, n, r, e⟩ := x; exact ⟨z, its, n, r, k _ _ (.inl rfl) e⟩
  | tup xs => obtain ⟨z, its, r, ob, e, c⟩ := x; exact ⟨z, its, r, ob, k _ _ (.inl rfl) e, c⟩
  | dK kvs => obtain ⟨z, y, vs, r, ob, es, ep, e, c⟩ := x; exact ⟨z, y, vs, r, ob, es, ep, k _ _ (.inl rfl) e, c⟩
  | dT kvs =>
    obtain ⟨z, y, xs, r, ob, es, ep, e, c⟩ := x
    exact ⟨z, y, xs, Paired.mapP r fun p q z => ⟨z.1, ht _ _ z.2.1, z.2.2⟩, ob, es, ep, k _ _ (.inl rfl) e, c⟩
  | set S n => obtain ⟨ob, es, ep, t, e, c⟩ := x; exact ⟨ob, es, ep, t, k _ _ (.inl rfl) e, c⟩
  | ins C dx fs =>
    obtain ⟨d, z, ne, e, mA, ⟨od, es, ep, e2, c⟩, r⟩ := x
    exact ⟨ho _ d, z, ne, k _ _ (.inl rfl) e, mA, ⟨od, es, ep, k _ _ (.inr d) e2, c⟩, r⟩
  | own y => obtain ⟨ob, e⟩ := x; exact ⟨ob, k _ _ (.inl rfl) e⟩
  | xd fs => obtain ⟨mA, ⟨od, es, ep, e, c⟩, r⟩ := x; exact ⟨mA, ⟨od, es, ep, k _ _ (.inl rfl) e, c⟩, r⟩
  | rng lo hi => obtain ⟨t, u, v, e⟩ := x; exact ⟨t, u, v, k _ _ (.inl rfl) e⟩
  | frz ob u ih => obtain ⟨e, q⟩ := x; exact ⟨k _ _ (.inl rfl) e, ih q⟩
  | tbl ps =>
    have e : h.get? a = some { cls := .none, data := .fields ps } := x
    show h'.get? a = some { cls := .none, data := .fields ps }
    exact k a _ (.inl rfl) e
  | met f y =>
    have e : h.get? a = some (PySem.W.methodObj (.ref f) (.ref y)) := x
    show h'.get? a = some (PySem.W.methodObj (.ref f) (.ref y))
    exact k a _ (.inl rfl) e
  | ext φ => obtain ⟨p, ⟨o, e⟩, st⟩ := x; exact ⟨st _ _ p fun o q => k _ _ (.inl rfl) q, ⟨o, k _ _ (.inl rfl) e⟩, st⟩
theorem HOk.lt (x : HOk P w H h) (e : H a = some o) : a < h.objs.size := (x a o e).lt
theorem HOk.fresh (x : HOk P w H h) (e : h.objs.size ≤ a) : H a = none := by
  cases q : H a with
  | none => rfl
  | some u => exact absurd (Nat.lt_of_lt_of_le (x.lt q) e) (Nat.lt_irrefl _)
theorem HOk.kept (x : HOk P w H h) (k : ∀ b u, h.get? b = some u → h'.get? b = some u) : HOk P w H h' := fun a o e =>
  (x a o e).stay (fun b u _ q => k b u q) (fun _ q => q) fun _ _ q => q
theorem HOk.laid (x : HOk P w H h) (k : ∀ b u, h.get? b = some u → h'.get? b = some u) (hp : h.objs.size ≤ a) (new : ObjOk P w (upd H a o) h' a o) : HOk P w (upd H a o) h' := fun b u e => by
  have hn := x.fresh hp
  by_cases hb : b = a
  · subst hb; rw [upd_same] at e; cases e; exact new
  · rw [upd_ne hb] at e
    exact (x b u e).stay (fun c v _ q => k c v q) (fun c q => by rw [upd_ne (ne_of_none q hn)]; exact q) fun c xs q => by rw [upd_ne (ne_of_none q hn)]; exact q
end
def Rd (H : Hp) (a : Addr) (u : HO) : Prop := H a = some u ∨ ∃ o, H a = some (.frz o u)
theorem Rd.of {H : Hp} {a : Addr} {u : HO} (h : H a = some u) : Rd H a u := .inl h
theorem Rd.ok {P : Program} {w : World} {H : Hp} {h : Heap} {a : Addr} {u : HO} (r : Rd H a u) (x : HOk P w H h) : ObjOk P w H h a u := by
  rcases r with r | ⟨o, r⟩
  · exact x a u r
  · obtain ⟨_, q⟩ := x a _ r
    exact q
def Mut : Option HO → Prop
  | some (.lst _) => True
  | some (.dK _) => True
  | some (.dT _) => True
  | some (.set _ _) => True
  | some (.ins _ _ _) => True
  | some (.ext _) => True
  | _ => False
section
variable {P : Program} {w : World} {H : Hp} {h h' : Heap} {x e : Addr} {o' : HO}
theorem HOk.write (ok : HOk P w H h) (mu : Mut (H x)) (he : e = x ∨ H e = some (.own x)) (k : ∀ b u, b ≠ e → h.get? b = some u → h'.get? b = some u) (heo : ∃ u, h'.get? e = some u)
    (new : ObjOk P w (upd H x o') h' x o') : HOk P w (upd H x o') h' := fun b u q => by
  have nown : ∀ c y, H c = some (.own y) → c ≠ x := fun c y r z => by subst z; rw [r] at mu; exact mu
  have ntup : ∀ c xs, H c = some (.tup xs) → c ≠ x := fun c xs r z => by subst z; rw [r] at mu; exact mu
  by_cases hb : b = x
  · subst hb; rw [upd_same] at q; cases q; exact new
  · rw [upd_ne hb] at q
    by_cases hbe : b = e
    · have q' : H b = some (.own x) := by
        rcases he with z | z
        · exact absurd (hbe.trans z) hb
        · rw [hbe]; exact z
      rw [q] at q'; cases q'
      obtain ⟨v, hv⟩ := heo
      exact ⟨v, by rw [hbe]; exact hv⟩
    · refine (ok b u q).stay (fun c v hc r => k c v ?_ r) (fun c r => by rw [upd_ne (nown c b r)]; exact r) fun c xs r => by rw [upd_ne (ntup c xs r)]; exact r
      rcases hc with rfl | hc
      · exact hbe
      · rintro rfl
        rcases he with z | z
        · exact nown c b hc z
        · rw [hc] at z; cases z; exact hb rfl
end
structure Un (fs ex : List Addr) (H H' : Hp) (h h' : Heap) : Prop where
  keep : ∀ b o, h.get? b = some o → H b = none → b ∉ fs → b ∉ ex → h'.get? b = some o
  slot : ∀ b o, h.get? b = some o → H b = none → b ∈ fs → b ∉ ex → ∃ sl, h'.get? b = some { o with slots := sl }
  free : ∀ b o, h.get? b = some o → H b = none → b ∉ ex → H' b = none
  there : ∀ b o, h.get? b = some o → b ∉ ex → ∃ o', h'.get? b = some o'
  tups : ∀ b xs, H b = some (.tup xs) → H' b = some (.tup xs)
  frzs : ∀ b o u, H b = some (.frz o u) → H' b = some (.frz o u)
  tbls : ∀ b ps, H b = some (.tbl ps) → ∃ more, H' b = some (.tbl (ps ++ more))
section
variable {fs fs' ex ex' : List Addr} {H H1 H2 : Hp} {h h1 h2 h' : Heap} {a x e : Addr} {o : HO}
theorem Un.any (u : Un fs ex H H1 h h1) {b : Addr} {ob : Obj} (q : h.get? b = some ob) (n : H b = none) (hx : b ∉ ex) : ∃ sl, h1.get? b = some { ob with slots := sl } := by
  by_cases hb : b ∈ fs
  · exact u.slot b ob q n hb hx
  · exact ⟨ob.slots, u.keep b ob q n hb hx⟩
theorem Un.trans (a : Un fs ex H H1 h h1) (b : Un fs ex H1 H2 h1 h2) : Un fs ex H H2 h h2 where
  keep := fun c ob q n hc hx => b.keep c ob (a.keep c ob q n hc hx) (a.free c ob q n hx) hc hx
  slot := fun c ob q n hc hx => by
    obtain ⟨sl, e1⟩ := a.slot c ob q n hc hx
    obtain ⟨sl', e2⟩ := b.slot c _ e1 (a.free c ob q n hx) hc hx
    exact ⟨sl', e2⟩
  free := fun c ob q n hx => by
    obtain ⟨o', e1⟩ := a.there c ob q hx
    exact b.free c o' e1 (a.free c ob q n hx) hx
  there := fun c ob q hx => by
    obtain ⟨o', e1⟩ := a.there c ob q hx
    exact b.there c o' e1 hx
  tups := fun c xs q => b.tups c xs (a.tups c xs q)
  frzs := fun c ob xs q => b.frzs c ob xs (a.frzs c ob xs q)
  tbls := fun c ps q => by
    obtain ⟨m1, e1⟩ := a.tbls c ps q
    obtain ⟨m2, e2⟩ := b.tbls c _ e1
    exact ⟨m1 ++ m2, by rw [e2, Array.append_assoc]⟩
theorem Un.kept (k : ∀ b u, h.get? b = some u → h'.get? b = some u) : Un fs ex H H h h' :=
  ⟨fun b ob q _ _ _ => k b ob q, fun b ob q _ _ _ => ⟨ob.slots, k b ob q⟩, fun _ _ _ n _ => n, fun b ob q _ => ⟨ob, k b ob q⟩, fun _ _ q => q, fun _ _ _ q => q, fun _ ps q => ⟨#[], by rw [q]; simp⟩⟩
theorem Un.refl : Un fs ex H H h h := Un.kept fun _ _ q => q
theorem Un.laid (k : ∀ b u, h.get? b = some u → h'.get? b = some u) (hp : h.objs.size ≤ a) (hn : H a = none) : Un fs ex H (upd H a o) h h' where
  keep := fun b u q _ _ _ => k b u q
  slot := fun b u q _ _ _ => ⟨u.slots, k b u q⟩
  free := fun b u q n _ => by rw [upd_ne (Nat.ne_of_lt (Nat.lt_of_lt_of_le (Heap.lt_size q) hp))]; exact n
  there := fun b u q _ => ⟨u, k b u q⟩
  tups := fun b xs q => by rw [upd_ne (ne_of_none q hn)]; exact q
  frzs := fun b u xs q => by rw [upd_ne (ne_of_none q hn)]; exact q
  tbls := fun b ps q => ⟨#[], by rw [upd_ne (ne_of_none q hn), q]; simp⟩
theorem Un.write (mu : Mut (H x)) (he : e = x ∨ H e = some (.own x)) (k : ∀ b u, b ≠ e → h.get? b = some u → h'.get? b = some u) (heo : ∃ u, h'.get? e = some u) : Un fs ex H (upd H x o) h h' := by
  have hx : ∀ b, H b = none → b ≠ x := fun b n z => by subst z; rw [n] at mu; exact mu
  have hb : ∀ b, H b = none → b ≠ e := fun b n z => by
    subst z
    rcases he with r | r
    · exact hx b n r
    · rw [n] at r; cases r
  have hm : ∀ b u, H b = some u → ¬ Mut (some u) → b ≠ x := fun b u q nm z => by subst z; rw [q] at mu; exact nm mu
  refine ⟨fun b u q n _ _ => k b u (hb b n) q, fun b u q n _ _ => ⟨u.slots, k b u (hb b n) q⟩, fun b u q n _ => by rw [upd_ne (hx b n)]; exact n, fun b u q _ => ?_,
    fun b xs q => by rw [upd_ne (hm b _ q fun z => z)]; exact q, fun b u xs q => by rw [upd_ne (hm b _ q fun z => z)]; exact q, fun b ps q => ⟨#[], by rw [upd_ne (hm b _ q fun z => z), q]; simp⟩⟩
  by_cases hbe : b = e
  · subst hbe; exact heo
  · exact ⟨u, k b u hbe q⟩
theorem Un.mono (u : Un fs ex H H1 h h1) (hs : ∀ b ∈ fs, b ∈ fs') (hx : ∀ b ∈ ex, b ∈ ex') : Un fs' ex' H H1 h h1 :=
  ⟨fun b ob q n hb he => u.keep b ob q n (fun z => hb (hs b z)) fun z => he (hx b z), fun _ _ q n _ he => u.any q n fun z => he (hx _ z), fun b ob q n he => u.free b ob q n fun z => he (hx b z), fun b ob q he => u.there b ob q fun z => he (hx b z), u.tups, u.frzs, u.tbls⟩
end
def trk (h : Heap) (H : Hp) : List Addr := (List.range h.objs.size).filter fun a => (H a).isSome
def hidT (h : Heap) (H : Hp) : Heap := PySem.W.hideAll h (trk h H)
theorem hidT_size (h : Heap) (H : Hp) : (hidT h H).objs.size = h.objs.size := PySem.W.hideAll_size _ _
theorem hidT_get {h : Heap} {H : Hp} {b : Addr} {o : Obj} (e : h.get? b = some o) (n : H b = none) : (hidT h H).get? b = some o :=
  PySem.W.hideAll_get _ e fun hm => by
    have q : (H b).isSome = true := (List.mem_filter.mp hm).2
    rw [n] at q; simp at q
theorem of_hidT {h : Heap} {H : Hp} {b : Addr} {o : Obj} (e : (hidT h H).get? b = some o) : h.get? b = some o ∧ H b = none := by
  have e' : h.get? b = some o := PySem.W.of_hideAll (trk h H) e
  refine ⟨e', ?_⟩
  cases q : H b with
  | none => rfl
  | some x =>
    have hm : b ∈ trk h H := List.mem_filter.mpr ⟨List.mem_range.mpr (Heap.lt_size e'), by simp [q]⟩
    have z : (hidT h H).get? b = none := PySem.W.hideAll_none (trk h H) hm
    rw [z] at e; cases e
def allNews (g h : Heap) (L : Addr) : List (Addr × Obj) := (List.range h.objs.size).filterMap fun a => if a = L ∨ (g.get? a).isSome = true then none else (h.get? a).map fun o => (a, o)
def rest (g h : Heap) (L d : Addr) : List (Addr × Obj) := (allNews g h L).filter fun p => decide (p.1 ≠ d)
end L2
namespace L2
open PySem PySem.Spec PyProof.Rows
structure Mod (K : PySem.W.Frag) (mg : Str → Option Value) (base : Heap) : Prop where
  kin : K.In base
  glob : base.Ns mainGlobals mg
  blt : ∃ mb, base.Ns builtinsNs mb ∧ ∀ x : Str, x ≠ "__name__" → mb x = bootBuiltins x
  nolimit : base.NoLimit
structure Cx where
  prog : Program
  w : World
  K : PySem.W.Frag
  mg : Str → Option Value
  base : Heap
  A : Around
  N : List Str
  s₀ : Shared
  H₀ : Hp
  env : Env
  outer : List Env
  stack : List Env
  ex : List Addr
  fn : Str → Bool
  calm : Bool
  pn : List (Addr × Obj)
  xe : Value → Shared → Prop
def frs (l : List Env) : List Addr := l.filterMap (·.frame)
abbrev Cx.fs (X : Cx) : List Addr := frs X.outer
def Vis (sc : Scope) (x : Str) : Prop := sc.names.lookup x = some .local ∨ sc.names.lookup x = some .cell ∨ sc.names.lookup x = some .free
def Loc (sc : Scope) (x : Str) : Prop := sc.names.lookup x = some .local ∨ sc.names.lookup x = some .cell
def Look (env : Env) (h : Heap) (m : Str → Option Value) (x : Str) (u : Value) : Prop :=
  (env.kindOf x = some .local ∧ m x = some u) ∨ ((env.kindOf x = some .cell ∨ env.kindOf x = some .free) ∧ ∃ c, env.cells.lookup x = some c ∧ h.IsCell c (some u))
structure Cx.Ok (X : Cx) : Prop where
  mod : Mod X.K X.mg X.base
  kind : X.env.scope.kind = .function
  glob : X.env.globals = mainGlobals
  blt : X.env.builtins = builtinsNs
  above : X.s₀.heap.objs.size ≤ X.env.locals
  inj : ∀ x y c, X.env.cells.lookup x = some c → X.env.cells.lookup y = some c → x = y
  has : ∀ x, (X.env.kindOf x = some .cell ∨ X.env.kindOf x = some .free) → ∃ c, X.env.cells.lookup x = some c
  cab : ∀ x c, X.fn x = true → X.env.cells.lookup x = some c → X.s₀.heap.objs.size ≤ c
  hd : X.calm = true → X.A.handled = none
  frames : X.A.frames = some X.stack
  stk : X.stack = X.outer ∨ (X.stack = X.env :: X.outer ∧ X.env.frame = some X.env.locals)
  exf : ∀ b ∈ X.ex, b ≠ X.env.locals ∧ ∀ x c, X.env.cells.lookup x = some c → c ≠ b
  bs : ∀ b o, X.base.get? b = some o → X.s₀.heap.get? b = some o ∧ X.H₀ b = none
  bsz : X.base.objs.size ≤ X.s₀.heap.objs.size
  noex : ∀ b o, X.base.get? b = some o → b ∉ X.ex
  exfs : ∀ b ∈ X.ex, b ∉ X.fs
  funs : X.s₀.heap.FunFrames X.base X.outer
  frf : ∀ b ∈ X.fs, X.H₀ b = none
structure Inv (X : Cx) (pins : List (Addr × Obj)) (σ : List (Option V)) (H : Hp) (s : Shared) : Prop where
  ok : X.Ok
  os : s.os = X.s₀.os
  bare : AllBare s.gens
  base : Un X.fs X.ex X.H₀ H X.s₀.heap s.heap
  loc : ∃ m, s.heap.Ns X.env.locals m ∧ ∀ (i : Nat) (x : Str) (v : V), X.N[i]? = some x → σ[i]? = some (some v) → Vis X.env.scope x → ∃ u, RelV v u ∧ Look X.env s.heap m x u
  cell : ∀ x c, X.env.cells.lookup x = some c → ∃ v, s.heap.IsCell c v
  free : H X.env.locals = none
  freeC : ∀ x c, X.env.cells.lookup x = some c → H c = none
  pin : ∀ p ∈ X.pn ++ pins, s.heap.get? p.1 = some p.2 ∧ H p.1 = none ∧ p.1 ≠ X.env.locals ∧ p.1 ∉ X.fs ∧ ∀ v, p.2.data ≠ .cell v
  hok : HOk X.prog X.w H s.heap
  len : σ.length = X.N.length
section
variable {X : Cx} {pins : List (Addr × Obj)} {σ : List (Option V)} {H H' : Hp} {s : Shared} {h' : Heap}
theorem Cx.Ok.nofr (ok : X.Ok) {b : Addr} {o : Obj} (e : X.base.get? b = some o) : b ∉ X.fs := fun hb => by
  have := (ok.funs.mem hb).1
  rw [e] at this; cases this
theorem Inv.bs (I : Inv X pins σ H s) : ∀ b o, X.base.get? b = some o → s.heap.get? b = some o ∧ H b = none := fun b o e =>
  ⟨I.base.keep b o (I.ok.bs b o e).1 (I.ok.bs b o e).2 (I.ok.nofr e) (I.ok.noex b o e), I.base.free b o (I.ok.bs b o e).1 (I.ok.bs b o e).2 (I.ok.noex b o e)⟩
theorem Inv.bk (I : Inv X pins σ H s) : ∀ b o, X.base.get? b = some o → s.heap.get? b = some o := fun b o e => (I.bs b o e).1
theorem Inv.mod (I : Inv X pins σ H s) : Mod X.K X.mg X.base := I.ok.mod
theorem Inv.kIn (I : Inv X pins σ H s) : X.K.In s.heap := I.ok.mod.kin.keeps I.bk
theorem Inv.nolimit (I : Inv X pins σ H s) : s.heap.NoLimit := I.ok.mod.nolimit.keeps I.bk
theorem Inv.fr (I : Inv X pins σ H s) : ∃ m, Fr X.base X.env.locals s.heap m :=
  let ⟨m, hn, _⟩ := I.loc
  ⟨m, hn, I.bk, Nat.le_trans I.ok.bsz I.ok.above⟩
theorem Inv.lt (I : Inv X pins σ H s) : X.env.locals < s.heap.objs.size := let ⟨_, hn, _⟩ := I.loc; hn.lt
theorem Inv.sz (I : Inv X pins σ H s) : X.s₀.heap.objs.size ≤ s.heap.objs.size := Nat.le_trans I.ok.above (Nat.le_of_lt I.lt)
theorem Inv.nofs (I : Inv X pins σ H s) {a : Addr} (h : s.heap.objs.size ≤ a) : a ∉ X.fs := fun hb => by
  obtain ⟨_, o, ho, _⟩ := I.ok.funs.mem hb
  exact absurd (Nat.lt_of_lt_of_le (Heap.lt_size ho) (Nat.le_trans I.sz h)) (Nat.lt_irrefl _)
theorem Inv.cne (I : Inv X pins σ H s) : ∀ x c, X.env.cells.lookup x = some c → c ≠ X.env.locals := fun x c e z => by
  obtain ⟨v, o, ho, hd⟩ := I.cell x c e
  obtain ⟨m, ⟨o', es, ep, ho', hd', _⟩, _⟩ := I.loc
  rw [z, ho'] at ho; cases ho; rw [hd'] at hd; cases hd
theorem Inv.funs (I : Inv X pins σ H s) : s.heap.FunFrames X.base X.outer := by
  have all : ∀ (l : List Env), (∀ b ∈ frs l, b ∈ X.fs) → X.s₀.heap.FunFrames X.base l → s.heap.FunFrames X.base l := by
    intro l
    induction l with
    | nil => intro _ _; trivial
    | cons env r ih =>
      intro hs hl
      obtain ⟨hk, ⟨L, o, hf, hn, ho, hd⟩, hr⟩ := hl
      have hL : L ∈ X.fs := hs L (by unfold frs; rw [List.filterMap_cons, hf]; exact List.mem_cons_self)
      obtain ⟨sl, e⟩ := I.base.slot L o ho (I.ok.frf L hL) hL fun z => I.ok.exfs L z hL
      exact ⟨hk, ⟨L, _, hf, hn, e, hd⟩, ih (fun b hb => hs b (by unfold frs; rw [List.filterMap_cons, hf]; exact List.mem_cons_of_mem _ hb)) hr⟩
  exact all X.outer (fun _ hb => hb) I.ok.funs
theorem Inv.stack (I : Inv X pins σ H s) : s.heap.FunFrames X.base X.stack := by
  rcases I.ok.stk with e | ⟨e, hf⟩
  · rw [e]; exact I.funs
  · rw [e]
    obtain ⟨m, hn, _⟩ := I.loc
    refine .cons (by rw [I.ok.kind]; decide) hf hn ?_ I.funs
    exact Heap.get?_none_of_le (Nat.le_trans I.ok.bsz I.ok.above)
theorem Inv.stkSub (I : Inv X pins σ H s) : ∀ b ∈ frs X.stack, b ∈ X.env.locals :: X.fs := fun b hb => by
  rcases I.ok.stk with e | ⟨e, hf⟩
  · rw [e] at hb; exact List.mem_cons_of_mem _ hb
  · rw [e] at hb
    unfold frs at hb
    rw [List.filterMap_cons, hf] at hb
    exact hb
theorem Inv.stkFree (I : Inv X pins σ H s) : ∀ b ∈ frs X.stack, H b = none := fun b hb => by
  rcases List.mem_cons.mp (I.stkSub b hb) with e | hb
  · rw [e]; exact I.free
  · obtain ⟨_, o, ho, _⟩ := I.ok.funs.mem hb
    exact I.base.free b o ho (I.ok.frf b hb) fun z => I.ok.exfs b z hb
theorem Inv.step {g' : Array GenState} {t' : Nat} {d' : Drawn} {ch : List Addr} (I : Inv X pins σ H s)
    (hch : ∀ b ∈ ch, (b ∈ X.ex ∨ X.s₀.heap.objs.size ≤ b) ∧ b ≠ X.env.locals ∧ (∀ x c, X.env.cells.lookup x = some c → c ≠ b) ∧ ∀ p ∈ X.pn ++ pins, p.1 ≠ b)
    (keep : ∀ b o, b ≠ X.env.locals → b ∉ X.fs → b ∉ ch → s.heap.get? b = some o → H b = none → h'.get? b = some o)
    (slot : ∀ b o, b ≠ X.env.locals → b ∈ X.fs → b ∉ ch → s.heap.get? b = some o → H b = none → ∃ sl, h'.get? b = some { o with slots := sl }) (free : ∀ b o, b ∉ ch → s.heap.get? b = some o → H b = none → H' b = none)
    (there : ∀ b o, b ∉ ch → s.heap.get? b = some o → ∃ o', h'.get? b = some o')
    (tups : ∀ b xs, H b = some (.tup xs) → H' b = some (.tup xs)) (frzs : ∀ b o u, H b = some (.frz o u) → H' b = some (.frz o u)) (tbls : ∀ b ps, H b = some (.tbl ps) → ∃ more, H' b = some (.tbl (ps ++ more)))
    (ns : ∀ m, s.heap.Ns X.env.locals m → h'.Ns X.env.locals m) (hok : HOk X.prog X.w H' h') (hg : AllBare g') :
    Inv X pins σ H' { s with heap := h', gens := g', drawn := d', toks := t' } := by
  have neL : ∀ b o, X.s₀.heap.get? b = some o → b ≠ X.env.locals := fun b o e => Nat.ne_of_lt (Nat.lt_of_lt_of_le (Heap.lt_size e) I.ok.above)
  have neC : ∀ b o, X.s₀.heap.get? b = some o → b ∉ X.ex → b ∉ ch := fun b o e hx hb => by
    rcases (hch b hb).1 with z | z
    · exact hx z
    · exact absurd (Nat.lt_of_lt_of_le (Heap.lt_size e) z) (Nat.lt_irrefl _)
  have cellK : ∀ x c, X.env.cells.lookup x = some c → ∀ v, s.heap.IsCell c v → h'.IsCell c v := fun x c e v ⟨o, ho, hd⟩ => by
    have nch : c ∉ ch := fun z => (hch c z).2.2.1 x c e rfl
    by_cases hc : c ∈ X.fs
    · obtain ⟨sl, q⟩ := slot c o (I.cne x c e) hc nch ho (I.freeC x c e)
      exact ⟨_, q, hd⟩
    · exact ⟨o, keep c o (I.cne x c e) hc nch ho (I.freeC x c e), hd⟩
  refine ⟨I.ok, I.os, hg, ⟨fun b o e n hb hx => ?_, fun b o e n hb hx => ?_, fun b o e n hx => ?_, fun b o e hx => ?_, fun b xs e => tups b xs (I.base.tups b xs e), fun b o xs e => frzs b o xs (I.base.frzs b o xs e), fun b ps e => ?_⟩, ?_, fun x c e => ?_, ?_, fun x c e => ?_, fun p hp => ?_, hok, I.len⟩
  · exact keep b o (neL b o e) hb (neC b o e hx) (I.base.keep b o e n hb hx) (I.base.free b o e n hx)
  · obtain ⟨sl, e1⟩ := I.base.slot b o e n hb hx
    obtain ⟨sl', e2⟩ := slot b _ (neL b o e) hb (neC b o e hx) e1 (I.base.free b o e n hx)
    exact ⟨sl', e2⟩
  · obtain ⟨o', e1⟩ := I.base.there b o e hx
    exact free b o' (neC b o e hx) e1 (I.base.free b o e n hx)
  · obtain ⟨o', e1⟩ := I.base.there b o e hx
    exact there b o' (neC b o e hx) e1
  · obtain ⟨m1, e1⟩ := I.base.tbls b ps e
    obtain ⟨m2, e2⟩ := tbls b _ e1
    exact ⟨m1 ++ m2, by rw [e2, Array.append_assoc]⟩
  · obtain ⟨m, hn, hl⟩ := I.loc
    refine ⟨m, ns m hn, fun i x v e1 e2 e3 => ?_⟩
    obtain ⟨u, r, l⟩ := hl i x v e1 e2 e3
    refine ⟨u, r, ?_⟩
    rcases l with l | ⟨k, c, e, z⟩
    · exact .inl l
    · exact .inr ⟨k, c, e, cellK x c e _ z⟩
  · obtain ⟨v, z⟩ := I.cell x c e
    exact ⟨v, cellK x c e v z⟩
  · obtain ⟨m, ⟨o, _, _, ho, _⟩, _⟩ := I.loc
    exact free _ o (fun z => (hch _ z).2.1 rfl) ho I.free
  · obtain ⟨v, o, ho, hd⟩ := I.cell x c e
    exact free c o (fun z => (hch c z).2.2.1 x c e rfl) ho (I.freeC x c e)
  · obtain ⟨e, n, ne, nf, d⟩ := I.pin p hp
    have nch : p.1 ∉ ch := fun z => (hch p.1 z).2.2.2 p hp rfl
    exact ⟨keep p.1 p.2 ne nf nch e n, free p.1 p.2 nch e n, ne, nf, d⟩
theorem Inv.un {t' : Nat} (I : Inv X pins σ H s) (u : Un X.fs [] H H' s.heap h') (hok : HOk X.prog X.w H' h') : Inv X pins σ H' { s with heap := h', toks := t' } := by
  obtain ⟨m, ⟨o, es, ep, ho, r⟩, _⟩ := id I.loc
  obtain ⟨sl, hL⟩ := u.any ho I.free (by simp)
  exact I.step (g' := s.gens) (d' := s.drawn) (ch := []) (fun _ z => nomatch z) (fun b o _ hb _ e n => u.keep b o e n hb (by simp)) (fun b o _ hb _ e n => u.slot b o e n hb (by simp)) (fun b o _ e n => u.free b o e n (by simp)) (fun b o _ e => u.there b o e (by simp)) u.tups u.frzs u.tbls (fun m' hm => by
    obtain ⟨o', es', ep', ho', r'⟩ := hm
    rw [ho] at ho'; cases ho'
    exact ⟨_, es', ep', hL, r'⟩) hok I.bare
theorem Inv.call {g' : Array GenState} {t' : Nat} {d' : Drawn} {ch : List Addr} (I : Inv X pins σ H s) (u : Un (frs X.stack) ch H H' s.heap h') (hok : HOk X.prog X.w H' h') (hg : AllBare g')
    (hch : ∀ b ∈ ch, (b ∈ X.ex ∨ X.s₀.heap.objs.size ≤ b) ∧ b ≠ X.env.locals ∧ (∀ x c, X.env.cells.lookup x = some c → c ≠ b) ∧ ∀ p ∈ X.pn ++ pins, p.1 ≠ b) :
    Inv X pins σ H' { s with heap := h', gens := g', drawn := d', toks := t' } := by
  obtain ⟨m, ⟨o, es, ep, ho, r⟩, _⟩ := id I.loc
  obtain ⟨sl, hL⟩ := u.any ho I.free fun z => (hch _ z).2.1 rfl
  exact I.step (ch := ch) hch (fun b o hL hb hc e n => u.keep b o e n (fun z => (List.mem_cons.mp (I.stkSub b z)).elim hL hb) hc) (fun b o _ _ hc e n => u.any e n hc) (fun b o hc e n => u.free b o e n hc) (fun b o hc e => u.there b o e hc) u.tups u.frzs u.tbls (fun m' hm => by
    obtain ⟨o', es', ep', ho', r'⟩ := hm
    rw [ho] at ho'; cases ho'
    exact ⟨_, es', ep', hL, r'⟩) hok hg
theorem Inv.turned {t' : Nat} {it : Addr} (I : Inv X pins σ H s) (k : ∀ b o, b ≠ it → s.heap.get? b = some o → h'.get? b = some o) (hn : H it = none) (hL : it ≠ X.env.locals)
    (h1 : it ∈ X.ex ∨ X.s₀.heap.objs.size ≤ it) (h2 : ∀ x c, X.env.cells.lookup x = some c → c ≠ it) (h3 : ∀ p ∈ X.pn ++ pins, p.1 ≠ it) : Inv X pins σ H { s with heap := h', toks := t' } := by
  have nit : ∀ b u, H b = some u → b ≠ it := fun b u e z => by rw [z, hn] at e; cases e
  refine I.step (g' := s.gens) (d' := s.drawn) (ch := [it]) (fun b hb => ?_) (fun b o _ _ hc e _ => k b o (fun z => hc (by simp [z])) e) (fun b o _ _ hc e _ => ⟨o.slots, k b o (fun z => hc (by simp [z])) e⟩) (fun _ _ _ _ n => n)
    (fun b o hc e => ⟨o, k b o (fun z => hc (by simp [z])) e⟩) (fun _ _ e => e) (fun _ _ _ e => e) (fun b ps e => ⟨#[], by rw [e]; simp⟩) (fun m hm => ?_) (fun b u e => ?_) I.bare
  · have e : b = it := by simpa using hb
    subst e
    exact ⟨h1, hL, h2, h3⟩
  · obtain ⟨o, es, ep, ho, r⟩ := hm
    exact ⟨o, es, ep, k _ o (Ne.symm hL) ho, r⟩
  · refine (I.hok b u e).stay (fun c v hc q => k c v ?_ q) (fun _ q => q) fun _ _ q => q
    rcases hc with z | z
    · rw [z]; exact nit b u e
    · exact nit c _ z
theorem Inv.tok (I : Inv X pins σ H s) (t : Nat) : Inv X pins σ H { s with toks := t } := I.un (h' := s.heap) (t' := t) Un.refl I.hok
theorem Inv.kept {t' : Nat} (I : Inv X pins σ H s) (k : ∀ b u, s.heap.get? b = some u → h'.get? b = some u) : Inv X pins σ H { s with heap := h', toks := t' } := I.un (Un.kept k) (I.hok.kept k)
theorem Inv.laid {a : Addr} {o : HO} {t' : Nat} (I : Inv X pins σ H s) (k : ∀ b u, s.heap.get? b = some u → h'.get? b = some u) (hp : s.heap.objs.size ≤ a) (new : ObjOk X.prog X.w (upd H a o) h' a o) :
    Inv X pins σ (upd H a o) { s with heap := h', toks := t' } := I.un (Un.laid k hp (I.hok.fresh hp)) (I.hok.laid k hp new)
theorem Inv.write {x e : Addr} {o : HO} {t' : Nat} (I : Inv X pins σ H s) (mu : Mut (H x)) (he : e = x ∨ H e = some (.own x)) (k : ∀ b u, b ≠ e → s.heap.get? b = some u → h'.get? b = some u) (heo : ∃ u, h'.get? e = some u)
    (new : ObjOk X.prog X.w (upd H x o) h' x o) : Inv X pins σ (upd H x o) { s with heap := h', toks := t' } := I.un (Un.write mu he k heo) (I.hok.write mu he k heo new)
theorem Inv.weak {σ' : List (Option V)} (I : Inv X pins σ H s) (hl : σ'.length = σ.length) (w : ∀ (i : Nat) v, σ'[i]? = some (some v) → σ[i]? = some (some v)) : Inv X pins σ' H s :=
  ⟨I.ok, I.os, I.bare, I.base, let ⟨m, hn, hl'⟩ := I.loc; ⟨m, hn, fun i x v e1 e2 e3 => hl' i x v e1 (w i v e2) e3⟩, I.cell, I.free, I.freeC, I.pin, I.hok, hl.trans I.len⟩
theorem Inv.pins_of {pins' : List (Addr × Obj)} (I : Inv X pins σ H s) (h : ∀ p ∈ pins', s.heap.get? p.1 = some p.2 ∧ H p.1 = none ∧ p.1 ≠ X.env.locals ∧ p.1 ∉ X.fs ∧ ∀ v, p.2.data ≠ .cell v) : Inv X pins' σ H s :=
  ⟨I.ok, I.os, I.bare, I.base, I.loc, I.cell, I.free, I.freeC, fun p hp => (List.mem_append.mp hp).elim (fun z => I.pin p (List.mem_append_left _ z)) (h p), I.hok, I.len⟩
theorem nodup_ix {N : List Str} (hN : N.Nodup) {i j : Nat} {x : Str} (a : N[i]? = some x) (b : N[j]? = some x) : i = j := by
  obtain ⟨h1, e1⟩ := List.getElem?_eq_some_iff.mp a
  obtain ⟨h2, e2⟩ := List.getElem?_eq_some_iff.mp b
  exact (List.getElem_inj hN).mp (e1.trans e2.symm)
theorem store_ok2 {M : Model} {A : Around} {E : Value → Shared → Prop} {i : Nat} {x : Str} {v : V} {u : Value} {Q : Unit → Shared → Prop} (I : Inv X pins σ H s) (hN : X.N.Nodup) (hi : X.N[i]? = some x) (hx : Loc X.env.scope x) (r : RelV v u)
    (h : ∀ s', Inv X pins (σ.set i (some v)) H s' → (∃ a, Heap.SameBut a s.heap s'.heap ∧ (a = X.env.locals ∨ X.env.cells.lookup x = some a)) → Q () s') (hf : X.fn x = true ∨ X.env.scope.names.lookup x = some .local := by first | exact .inl rfl | exact .inr rfl | assumption) : wpAny M A (storeName X.env x u) Q E s := by
  obtain ⟨m, hn, hl⟩ := id I.loc
  have hcls : (X.env.scope.kind == .class || (X.env.scope.kind == .module && X.env.locals != X.env.globals)) = false := by rw [I.ok.kind]; rfl
  have hiσ : i < σ.length := by rw [I.len]; exact (List.getElem?_eq_some_iff.mp hi).1
  have cne := I.cne
  have tracked : ∀ {a : Addr} {h' : Heap}, (∃ o, s.heap.get? a = some o ∧ H a = none) → Heap.SameBut a s.heap h' → HOk X.prog X.w H h' := fun {a h'} ha hs b ob e => by
    obtain ⟨_, _, hfree⟩ := ha
    refine (I.hok b ob e).stay (fun c w' hc q => (hs.2 c ?_).trans q) (fun _ q => q) fun _ _ q => q
    rintro rfl
    rcases hc with rfl | hc
    · rw [hfree] at e; cases e
    · rw [hfree] at hc; cases hc
  rcases hx with hk | hk
  · refine wpAny_storeName_local hk hn (fun h' hn' hs => ?_) hcls
    obtain ⟨oL, _, _, hoL, _⟩ := id hn
    refine h _ ⟨I.ok, I.os, I.bare, ⟨fun b o e n hb hx => ?_, fun b o e n hb hx => ?_, I.base.free, fun b o e hx => ?_, I.base.tups, I.base.frzs, I.base.tbls⟩, ⟨_, hn', fun j y v' e1 e2 e3 => ?_⟩, fun y c e => ?_, I.free, I.freeC, fun p hp => ?_, tracked ⟨oL, hoL, I.free⟩ hs, by simpa using I.len⟩ ⟨_, hs, .inl rfl⟩
    · exact (hs.2 b (Nat.ne_of_lt (Nat.lt_of_lt_of_le (Heap.lt_size e) I.ok.above))).trans (I.base.keep b o e n hb hx)
    · obtain ⟨sl, e1⟩ := I.base.slot b o e n hb hx
      exact ⟨sl, (hs.2 b (Nat.ne_of_lt (Nat.lt_of_lt_of_le (Heap.lt_size e) I.ok.above))).trans e1⟩
    · obtain ⟨o', e1⟩ := I.base.there b o e hx
      exact ⟨o', (hs.2 b (Nat.ne_of_lt (Nat.lt_of_lt_of_le (Heap.lt_size e) I.ok.above))).trans e1⟩
    · by_cases hj : j = i
      · subst hj
        rw [hi] at e1; cases e1
        rw [List.getElem?_set_self hiσ] at e2
        cases e2
        exact ⟨u, r, .inl ⟨hk, by simp⟩⟩
      · rw [List.getElem?_set_ne (Ne.symm hj)] at e2
        obtain ⟨u', r', q⟩ := hl j y v' e1 e2 e3
        refine ⟨u', r', ?_⟩
        rcases q with ⟨k, e⟩ | ⟨k, c, e, z⟩
        · refine .inl ⟨k, ?_⟩
          have : y ≠ x := fun e => hj (nodup_ix hN e1 (e ▸ hi))
          simp [this, e]
        · exact .inr ⟨k, c, e, z.sameBut hs (cne y c e)⟩
    · obtain ⟨w', z⟩ := I.cell y c e
      exact ⟨w', z.sameBut hs (cne y c e)⟩
    · obtain ⟨e, n, ne, nf, d⟩ := I.pin p hp
      exact ⟨(hs.2 p.1 ne).trans e, n, ne, nf, d⟩
  · have hfn : X.fn x = true := by
      rcases hf with z | z
      · exact z
      · rw [z] at hk; cases hk
    obtain ⟨c, hc⟩ := I.ok.has x (.inl hk)
    obtain ⟨w', z⟩ := I.cell x c hc
    refine wpAny_storeName_cell I.ok.kind hk hc z (fun h' hc' hs => ?_)
    obtain ⟨oc, hoc, hocd⟩ := id z
    refine h { s with heap := h' } ⟨I.ok, I.os, I.bare, ⟨fun b o e n hb hx => ?_, fun b o e n hb hx => ?_, I.base.free, fun b o e hx => ?_, I.base.tups, I.base.frzs, I.base.tbls⟩, ⟨m, hn.sameBut hs (Ne.symm (cne x c hc)), fun j y v' e1 e2 e3 => ?_⟩, fun y c' e => ?_, I.free, I.freeC, fun p hp => ?_, tracked ⟨oc, hoc, I.freeC x c hc⟩ hs, by simpa using I.len⟩ ⟨c, hs, .inr hc⟩
    · exact (hs.2 b (Nat.ne_of_lt (Nat.lt_of_lt_of_le (Heap.lt_size e) (I.ok.cab x c hfn hc)))).trans (I.base.keep b o e n hb hx)
    · obtain ⟨sl, e1⟩ := I.base.slot b o e n hb hx
      exact ⟨sl, (hs.2 b (Nat.ne_of_lt (Nat.lt_of_lt_of_le (Heap.lt_size e) (I.ok.cab x c hfn hc)))).trans e1⟩
    · obtain ⟨o', e1⟩ := I.base.there b o e hx
      exact ⟨o', (hs.2 b (Nat.ne_of_lt (Nat.lt_of_lt_of_le (Heap.lt_size e) (I.ok.cab x c hfn hc)))).trans e1⟩
    · by_cases hj : j = i
      · subst hj
        rw [hi] at e1; cases e1
        rw [List.getElem?_set_self hiσ] at e2
        cases e2
        exact ⟨u, r, .inr ⟨.inl hk, c, hc, hc'⟩⟩
      · rw [List.getElem?_set_ne (Ne.symm hj)] at e2
        obtain ⟨u', r', q⟩ := hl j y v' e1 e2 e3
        refine ⟨u', r', ?_⟩
        rcases q with q | ⟨k, c', e, z'⟩
        · exact .inl q
        · refine .inr ⟨k, c', e, z'.sameBut hs ?_⟩
          rintro rfl
          exact hj (nodup_ix hN e1 (I.ok.inj _ _ _ e hc ▸ hi))
    · by_cases hcc : c' = c
      · subst hcc; exact ⟨_, hc'⟩
      · obtain ⟨w2, z2⟩ := I.cell y c' e
        exact ⟨w2, z2.sameBut hs hcc⟩
    · obtain ⟨e, n, ne, nf, d⟩ := I.pin p hp
      refine ⟨(hs.2 p.1 ?_).trans e, n, ne, nf, d⟩
      intro q
      rw [q, hoc] at e
      have q' : oc = p.2 := Option.some.inj e
      exact d w' (by rw [← q']; exact hocd)
theorem store_ok {M : Model} {A : Around} {E : Value → Shared → Prop} {i : Nat} {x : Str} {v : V} {u : Value} {Q : Unit → Shared → Prop} (I : Inv X pins σ H s) (hN : X.N.Nodup) (hi : X.N[i]? = some x) (hx : Loc X.env.scope x) (r : RelV v u)
    (h : ∀ s', Inv X pins (σ.set i (some v)) H s' → Q () s') (hf : X.fn x = true ∨ X.env.scope.names.lookup x = some .local := by first | exact .inl rfl | exact .inr rfl | assumption) : wpAny M A (storeName X.env x u) Q E s :=
  store_ok2 I hN hi hx r (fun s' I' _ => h s' I') hf
theorem Inv.call' {s' : Shared} {ch : List Addr} (I : Inv X pins σ H s) (ho : s'.os = s.os) (u : Un (frs X.stack) ch H H' s.heap s'.heap) (hok : HOk X.prog X.w H' s'.heap) (hg : AllBare s'.gens)
    (hch : ∀ b ∈ ch, (b ∈ X.ex ∨ X.s₀.heap.objs.size ≤ b) ∧ b ≠ X.env.locals ∧ (∀ x c, X.env.cells.lookup x = some c → c ≠ b) ∧ ∀ p ∈ X.pn ++ pins, p.1 ≠ b) : Inv X pins σ H' s' := by
  obtain ⟨h', g', d', t', o'⟩ := s'
  have e : o' = s.os := ho
  subst e
  exact I.call (g' := g') (t' := t') (d' := d') u hok hg hch
end
abbrev XK := Value → Option Addr → Hp → Prop
abbrev St := List (Option V)
abbrev VK := V → Hp → Prop
abbrev TE := St → Hp → VK → Prop
abbrev TT := St → Hp → (Bool → Hp → Prop) → Prop
abbrev TA := St → Hp → (List V → Hp → Prop) → Prop
structure Ends where
  nx : St → Hp → Prop
  rt : VK
  bk : St → Hp → Prop := fun _ _ => False
  ct : St → Hp → Prop := fun _ _ => False
abbrev TS := Ends → St → Hp → Prop
def EP (X : Cx) (pins : List (Addr × Obj)) (σ : St) (Q : VK) (u : Value) (s' : Shared) : Prop := ∃ v H', Inv X pins σ H' s' ∧ RelV v u ∧ Q v H'
def TP (X : Cx) (pins : List (Addr × Obj)) (σ : St) (Q : Bool → Hp → Prop) (b : Bool) (s' : Shared) : Prop := ∃ H', Inv X pins σ H' s' ∧ Q b H'
def AP (X : Cx) (pins : List (Addr × Obj)) (σ : St) (Q : List V → Hp → Prop) (us : List Value) (s' : Shared) : Prop := ∃ vs H', Inv X pins σ H' s' ∧ Vals vs us ∧ Q vs H'
def SP (X : Cx) (pins : List (Addr × Obj)) (D : Ends) (f : Flow) (s' : Shared) : Prop :=
  match f with
  | .next => ∃ σ' H', Inv X pins σ' H' s' ∧ D.nx σ' H'
  | .brk => ∃ σ' H', Inv X pins σ' H' s' ∧ D.bk σ' H'
  | .cont => ∃ σ' H', Inv X pins σ' H' s' ∧ D.ct σ' H'
  | .ret u => ∃ v σ' H', Inv X pins σ' H' s' ∧ RelV v u ∧ D.rt v H'
def PE (X : Cx) (e : Expr) (t : TE) : Prop :=
  ∀ (pins : List (Addr × Obj)) (s : Shared) (σ : St) (H : Hp) (Q : VK), Inv X pins σ H s → t σ H Q → wpAny (model X.prog X.w) X.A (eval e X.env) (EP X pins σ Q) X.xe s
def PT (X : Cx) (e : Expr) (t : TT) : Prop :=
  ∀ (pins : List (Addr × Obj)) (s : Shared) (σ : St) (H : Hp) (Q : Bool → Hp → Prop), Inv X pins σ H s → t σ H Q → wpAny (model X.prog X.w) X.A (isTrue e X.env (eval e X.env)) (TP X pins σ Q) X.xe s
def PW (X : Cx) (e : Expr) (t : TT) : Prop :=
  ∀ (whole : Sem Value) (pins : List (Addr × Obj)) (s : Shared) (σ : St) (H : Hp) (Q : Bool → Hp → Prop), Inv X pins σ H s → t σ H Q → wpAny (model X.prog X.w) X.A (isTrue e X.env whole) (TP X pins σ Q) X.xe s
theorem PW.pt {X : Cx} {e : Expr} {t : TT} (h : PW X e t) : PT X e t := h _
def PA (X : Cx) (es : List Expr) (t : TA) : Prop :=
  ∀ (pos : Pos) (pins : List (Addr × Obj)) (s : Shared) (σ : St) (H : Hp) (Q : List V → Hp → Prop), Inv X pins σ H s → t σ H Q → wpAny (model X.prog X.w) X.A (spliced (backTo pos (starEach es X.env))) (AP X pins σ Q) X.xe s
def PS (X : Cx) (st : Stmt) (t : TS) : Prop :=
  ∀ (pins : List (Addr × Obj)) (s : Shared) (σ : St) (H : Hp) (D : Ends), Inv X pins σ H s → t D σ H → wpAny (model X.prog X.w) X.A (exec st X.env) (SP X pins D) X.xe s
def PSs (X : Cx) (st : List Stmt) (t : TS) : Prop :=
  ∀ (pins : List (Addr × Obj)) (s : Shared) (σ : St) (H : Hp) (D : Ends), Inv X pins σ H s → t D σ H → wpAny (model X.prog X.w) X.A (execs st X.env) (SP X pins D) X.xe s
theorem thn {α : Type} {t : Sem α} {Q Q' : α → Shared → Prop} {M : Model} {A : Around} {E : Value → Shared → Prop} {s : Shared} (h : wpAny M A t Q E s) (hQ : ∀ a s, Q a s → Q' a s) : wpAny M A t Q' E s := wpAny_mono h hQ fun _ _ x => x
end L2
namespace L2
open PySem PySem.Spec PyProof.Rows
section
variable {X : Cx}
def tVar (i : Nat) : TE := fun σ H Q => ∃ v, σ[i]? = some (some v) ∧ Q v H
def tC (v : V) : TE := fun _ H Q => Q v H
theorem pe_var {i : Nat} {x : Str} {pos : Pos} (hN : X.N[i]? = some x) (hv : Vis X.env.scope x) (hd : (x == ("__debug__" : Str)) = false := by decide) (hcd : (x == ("__classdict__" : Str)) = false := by decide) : PE X (.Name x pos) (tVar i) := by
  intro pins s σ H Q I h
  obtain ⟨v, e, h⟩ := h
  obtain ⟨m, hn, hl⟩ := I.loc
  obtain ⟨u, r, l⟩ := hl i x v hN e hv
  have fin : EP X pins σ Q u s := ⟨v, H, I, r, h⟩
  rcases l with ⟨hk, hm⟩ | ⟨hk, c, hc, hcell⟩
  · exact wpAny_Name (wpAny_loadName_local I.ok.kind hk hn hm fin) hd
  · rcases hk with hk | hk
    · exact wpAny_Name (wpAny_loadName_cell I.ok.kind hk hc hcell fin) hd
    · exact wpAny_Name (wpAny_loadName_free I.ok.kind hk hc hcell fin hcd) hd
theorem pe_int {i j pos} : PE X (.Constant (.int i) j pos) (tC (.int i)) := fun _ _ _ H _ I h => wpAny_Constant_int ⟨.int i, H, I.tok _, ⟨_, rfl⟩, h⟩
theorem pe_bl {b j pos} : PE X (.Constant (.bool b) j pos) (tC (.bl b)) := fun _ _ _ H _ I h => Constant_bool ⟨.bl b, H, I, rfl, h⟩
theorem pe_non {j pos} : PE X (.Constant .none j pos) (tC .non) := fun _ _ _ H _ I h => Constant_none ⟨.non, H, I, rfl, h⟩
theorem pe_str {x j pos} : PE X (.Constant (.str x) j pos) (tC (.str x)) := fun _ _ _ H _ I h => Calls.Constant_str ⟨.str x, H, I.tok _, ⟨_, rfl⟩, h⟩
def Gl (X : Cx) (x : Str) : Prop := X.env.kindOf x = some .globalImplicit
theorem ld_glob {E : Value → Shared → Prop} {pins : List (Addr × Obj)} {s : Shared} {σ : St} {H : Hp} {x : Str} {u : Value} {pos : Pos} {Q : Value → Shared → Prop} (I : Inv X pins σ H s) (hg : Gl X x) (hm : X.mg x = some u) (h : Q u s)
    (hd : (x == ("__debug__" : Str)) = false := by decide) : wpAny (model X.prog X.w) X.A (eval (.Name x pos) X.env) Q E s :=
  Calls.Name_function_global I.ok.kind hg (Calls.loadGlobal_global (by rw [I.ok.glob]; exact I.mod.glob.keeps I.bk) hm h) hd
theorem ld_blt {E : Value → Shared → Prop} {pins : List (Addr × Obj)} {s : Shared} {σ : St} {H : Hp} {x : Str} {u : Value} {pos : Pos} {Q : Value → Shared → Prop} (I : Inv X pins σ H s) (hg : Gl X x) (hm : X.mg x = none) (hv : bootBuiltins x = some u) (h : Q u s)
    (hn : x ≠ "__name__" := by decide) (hd : (x == ("__debug__" : Str)) = false := by decide) : wpAny (model X.prog X.w) X.A (eval (.Name x pos) X.env) Q E s := by
  obtain ⟨mb, h1, h2⟩ := I.mod.blt
  exact Calls.Name_function_global I.ok.kind hg (Calls.loadGlobal_builtin (by rw [I.ok.glob]; exact I.mod.glob.keeps I.bk) hm (by rw [I.ok.blt]; exact h1.keeps I.bk) ((h2 x hn).trans hv) h) hd
theorem pe_bltn {x : Str} {v : V} {u : Value} {pos : Pos} (hg : Gl X x) (hm : X.mg x = none) (hv : bootBuiltins x = some u) (r : RelV v u) (hn : x ≠ "__name__" := by decide) (hd : (x == ("__debug__" : Str)) = false := by decide) : PE X (.Name x pos) (tC v) :=
  fun _ _ _ H _ I h => ld_blt I hg hm hv ⟨v, H, I, r, h⟩ hn hd
variable {a b : Expr} {ta tb : TE} {pos : Pos}
def tB (t : TE) : TT := fun σ H Q => t σ H fun x H1 => ∃ c, x = .bl c ∧ Q c H1
theorem pt_val {e : Expr} {t : TE} (h : PE X e t) (he : ∀ whole, isTrue e X.env whole = (do let v ← whole; standAt e.pos; holding [v] (truthy v)) := by intro _; rfl) : PT X e (tB t) := by
  intro pins s σ H Q I hw
  refine isTrue_plain (thn (h pins s σ H _ I hw) fun v s1 ⟨x, H1, I1, r1, q1⟩ => ?_) (he _)
  obtain ⟨d, rfl, q⟩ := q1
  cases r1
  exact wpAny_truthy_bool ⟨H1, I1, q⟩
variable {tA tB' : TT} {rest : List Expr}
def tAnd (t u : TT) : TT := fun σ H Q => t σ H fun c H1 => if c = true then u σ H1 Q else Q false H1
def tOr (t u : TT) : TT := fun σ H Q => t σ H fun c H1 => if c = true then Q true H1 else u σ H1 Q
def tNot (t : TT) : TT := fun σ H Q => t σ H fun c H1 => Q (!c) H1
theorem pw_and1 (ha : PT X a tA) : PW X (.BoolOp .And [a] pos) tA := by
  intro wh pins s σ H Q I h
  refine isTrue_and (thn (ha pins s σ H Q I h) fun c s1 e => ?_)
  cases c with
  | true => exact isTrue_and_nil e
  | false => exact e
theorem pw_or1 (ha : PT X a tA) : PW X (.BoolOp .Or [a] pos) tA := by
  intro wh pins s σ H Q I h
  refine isTrue_or (thn (ha pins s σ H Q I h) fun c s1 e => ?_)
  cases c with
  | false => exact isTrue_or_nil e
  | true => exact e
theorem pw_and (ha : PT X a tA) (hb : PW X (.BoolOp .And (b :: rest) pos) tB') : PW X (.BoolOp .And (a :: b :: rest) pos) (tAnd tA tB') := by
  intro wh pins s σ H Q I h
  refine isTrue_and (thn (ha pins s σ H _ I h) fun c s1 ⟨H1, I1, q1⟩ => ?_)
  cases c with
  | true => exact hb wh pins s1 σ H1 Q I1 q1
  | false => exact ⟨H1, I1, q1⟩
theorem pw_or (ha : PT X a tA) (hb : PW X (.BoolOp .Or (b :: rest) pos) tB') : PW X (.BoolOp .Or (a :: b :: rest) pos) (tOr tA tB') := by
  intro wh pins s σ H Q I h
  refine isTrue_or (thn (ha pins s σ H _ I h) fun c s1 ⟨H1, I1, q1⟩ => ?_)
  cases c with
  | true => exact ⟨H1, I1, q1⟩
  | false => exact hb wh pins s1 σ H1 Q I1 q1
theorem pt_not (ha : PT X a tA) : PT X (.UnaryOp .Not a pos) (tNot tA) := by
  intro pins s σ H Q I h
  exact isTrue_not (ha pins s σ H (fun c H1 => Q (!c) H1) I h)
def tAndV (ta tb : TE) : TE := fun σ H Q => ta σ H fun x H1 => ∃ c, x = .bl c ∧ if c = true then tb σ H1 Q else Q (.bl false) H1
def tNotV (ta : TE) : TE := fun σ H Q => ta σ H fun x H1 => ∃ c, x = .bl c ∧ Q (.bl (!c)) H1
theorem pe_one {op} {t : TE} (h : PE X a t) : PE X (.BoolOp op [a] pos) t := fun pins s σ H Q I hw => BoolOp_one (h pins s σ H Q I hw)
theorem pe_and (ha : PE X a ta) (hb : PE X (.BoolOp .And (b :: rest) pos) tb) : PE X (.BoolOp .And (a :: b :: rest) pos) (tAndV ta tb) := by
  intro pins s σ H Q I h
  refine BoolOp_and (thn (ha pins s σ H _ I h) fun v s1 ⟨x, H1, I1, r1, q1⟩ => ?_)
  obtain ⟨c, rfl, q1⟩ := q1
  cases r1
  refine wpAny_truthy_bool ?_
  cases c with
  | true => exact hb pins s1 σ H1 Q I1 q1
  | false => exact ⟨.bl false, H1, I1, rfl, q1⟩
theorem pe_not (ha : PE X a ta) : PE X (.UnaryOp .Not a pos) (tNotV ta) := by
  intro pins s σ H Q I h
  refine UnaryOp_ (thn (ha pins s σ H _ I h) fun v s1 ⟨x, H1, I1, r1, q1⟩ => ?_)
  obtain ⟨c, rfl, q1⟩ := q1
  cases r1
  exact not_of (wpAny_truthy_bool ⟨.bl (!c), H1, I1, rfl, q1⟩)
end
end L2
namespace L2
open PySem PySem.Spec PyProof.Rows
def SqL (K : PySem.W.Frag) (H : Hp) (a : Addr) (xs : List V) : Prop :=
  Rd H a (.lst xs) ∨
    ∃ (o : Obj) (its : Array Value) (n : Nat), K.lookup a = some o ∧ o.cls = .type "list" ∧ o.dict = none ∧ o.data = .seq its n ∧ its.size ≤ sizeLine ∧ Vals xs its.toList
def SqT (K : PySem.W.Frag) (H : Hp) (a : Addr) (xs : List V) : Prop :=
  Rd H a (.tup xs) ∨
    ∃ (o : Obj) (its : Array Value) (n : Nat), K.lookup a = some o ∧ o.cls = .type "tuple" ∧ o.data = .seq its n ∧ its.size ≤ sizeLine ∧ Vals xs its.toList
def absV : Value → Option V
  | .none => some .non
  | .bool b => some (.bl b)
  | .int i _ => some (.int i)
  | .str x _ => some (.str x)
  | .bytes b _ => some (.byt b)
  | .float b _ => some (.flt b)
  | .ref a => some (.ref a)
  | .type n => some (.ty n)
  | _ => none
theorem RelV.abs {x : V} {u : Value} (r : RelV x u) : absV u = some x := by
  cases x with
  | non => cases r; rfl
  | bl _ => cases r; rfl
  | int _ => obtain ⟨t, rfl⟩ := r; rfl
  | str _ => obtain ⟨t, rfl⟩ := r; rfl
  | byt _ => obtain ⟨t, rfl⟩ := r; rfl
  | flt _ => obtain ⟨t, rfl⟩ := r; rfl
  | ref _ => cases r; rfl
  | ty _ => cases r; rfl
theorem RelV.inj {x y : V} {u : Value} (r : RelV x u) (q : RelV y u) : x = y := Option.some.inj (r.abs.symm.trans q.abs)
theorem Vals.inj : ∀ {xs ys : List V} {us : List Value}, Vals xs us → Vals ys us → xs = ys
  | _, _, _, .nil, .nil => rfl
  | _, _, _, .cons r t, .cons r' t' => by rw [r.inj r', Vals.inj t t']
section
variable {X : Cx} {pins : List (Addr × Obj)} {σ : St} {H : Hp} {s : Shared} {a : Addr} {xs ys : List V}
theorem SqL.of {K : PySem.W.Frag} (h : H a = some (.lst xs)) : SqL K H a xs := .inl (.inl h)
theorem SqT.of {K : PySem.W.Frag} (h : H a = some (.tup xs)) : SqT K H a xs := .inl (.inl h)
theorem Inv.list (I : Inv X pins σ H s) (h : SqL X.K H a xs) : ∃ its : List Value, Vals xs its ∧ PlainL s.heap a its.toArray ∧ xs.length ≤ sizeLine := by
  rcases h with h | ⟨o, its, n, hk, hc, hd, hs, hz, r⟩
  · obtain ⟨z, its, n, r, e⟩ := h.ok I.hok
    exact ⟨its, r, ⟨_, n, e, rfl, rfl, rfl⟩, z⟩
  · refine ⟨its.toList, r, ⟨o, n, I.kIn a o hk, hc, hd, by simpa using hs⟩, ?_⟩
    have e := r.length
    simp only [Array.length_toList] at e
    omega
theorem Inv.tuple (I : Inv X pins σ H s) (h : SqT X.K H a xs) : ∃ its : List Value, Vals xs its ∧ IsTup s.heap a its.toArray ∧ xs.length ≤ sizeLine := by
  rcases h with h | ⟨o, its, n, hk, hc, hs, hz, r⟩
  · obtain ⟨z, its, r, p⟩ := h.ok I.hok
    exact ⟨its, r, p, z⟩
  · refine ⟨its.toList, r, ⟨o, I.kIn a o hk, hc, n, by simpa using hs⟩, ?_⟩
    have e := r.length
    simp only [Array.length_toList] at e
    omega
theorem Inv.list_inj (I : Inv X pins σ H s) (h : SqL X.K H a xs) (h' : SqL X.K H a ys) : xs = ys := by
  obtain ⟨its, r, ⟨o, n, e, _, _, d⟩, _⟩ := I.list h
  obtain ⟨its', r', ⟨o', n', e', _, _, d'⟩, _⟩ := I.list h'
  rw [e] at e'; cases e'
  rw [d] at d'
  injection d' with d1 _
  have : its = its' := by simpa using congrArg Array.toList d1
  subst this
  exact r.inj r'
theorem Inv.tuple_inj (I : Inv X pins σ H s) (h : SqT X.K H a xs) (h' : SqT X.K H a ys) : xs = ys := by
  obtain ⟨its, r, ⟨o, e, _, n, d⟩, _⟩ := I.tuple h
  obtain ⟨its', r', ⟨o', e', _, n', d'⟩, _⟩ := I.tuple h'
  rw [e] at e'; cases e'
  rw [d] at d'
  injection d' with d1 _
  have : its = its' := by simpa using congrArg Array.toList d1
  subst this
  exact r.inj r'
end
abbrev Cx.wish (X : Cx) (E : Value → Shared → Prop) : Cx := { X with xe := E }
abbrev Cx.nox (X : Cx) : Cx := X.wish fun _ _ => False
theorem Cx.Ok.wish {X : Cx} (ok : X.Ok) (E : Value → Shared → Prop) : (X.wish E).Ok :=
  ⟨ok.mod, ok.kind, ok.glob, ok.blt, ok.above, ok.inj, ok.has, ok.cab, ok.hd, ok.frames, ok.stk, ok.exf, ok.bs, ok.bsz, ok.noex, ok.exfs, ok.funs, ok.frf⟩
theorem Cx.Ok.unwish {X : Cx} {E : Value → Shared → Prop} (ok : (X.wish E).Ok) : X.Ok :=
  ⟨ok.mod, ok.kind, ok.glob, ok.blt, ok.above, ok.inj, ok.has, ok.cab, ok.hd, ok.frames, ok.stk, ok.exf, ok.bs, ok.bsz, ok.noex, ok.exfs, ok.funs, ok.frf⟩
section
variable {X : Cx} {pins : List (Addr × Obj)} {σ : St} {H : Hp} {s : Shared} {E : Value → Shared → Prop}
theorem Inv.wish (I : Inv X pins σ H s) (E : Value → Shared → Prop) : Inv (X.wish E) pins σ H s := ⟨I.ok.wish E, I.os, I.bare, I.base, I.loc, I.cell, I.free, I.freeC, I.pin, I.hok, I.len⟩
theorem Inv.unwish (I : Inv (X.wish E) pins σ H s) : Inv X pins σ H s := ⟨I.ok.unwish, I.os, I.bare, I.base, I.loc, I.cell, I.free, I.freeC, I.pin, I.hok, I.len⟩
theorem SP.unwish {D : Ends} {f : Flow} {s' : Shared} (h : SP (X.wish E) pins D f s') : SP X pins D f s' := by
  cases f with
  | next => obtain ⟨σ', H', I, q⟩ := h; exact ⟨σ', H', I.unwish, q⟩
  | brk => obtain ⟨σ', H', I, q⟩ := h; exact ⟨σ', H', I.unwish, q⟩
  | cont => obtain ⟨σ', H', I, q⟩ := h; exact ⟨σ', H', I.unwish, q⟩
  | ret u => obtain ⟨v, σ', H', I, r, q⟩ := h; exact ⟨v, σ', H', I.unwish, r, q⟩
theorem PE.nox {e : Expr} {t : TE} (h : PE X.nox e t) : PE X e t := fun pins s σ H Q I hw =>
  wpAny_mono (h pins s σ H Q (I.wish _) hw) (fun _ _ ⟨v, H', I', r, q⟩ => ⟨v, H', I'.unwish, r, q⟩) fun _ _ z => False.elim z
theorem PT.nox {e : Expr} {t : TT} (h : PT X.nox e t) : PT X e t := fun pins s σ H Q I hw =>
  wpAny_mono (h pins s σ H Q (I.wish _) hw) (fun _ _ ⟨H', I', q⟩ => ⟨H', I'.unwish, q⟩) fun _ _ z => False.elim z
theorem PSs.nox {st : List Stmt} {t : TS} (h : PSs X.nox st t) : PSs X st t := fun pins s σ H D I hw =>
  wpAny_mono (h pins s σ H D (I.wish _) hw) (fun _ _ q => q.unwish) fun _ _ z => False.elim z
end
section
variable {X : Cx} {st : Stmt} {rest : List Stmt} {t u : TS} {e : Expr} {te : TE} {pos : Pos}
def tNext : TS := fun D σ H => D.nx σ H
def tSeq (t u : TS) : TS := fun D σ H => t { D with nx := u D } σ H
theorem pss_nil : PSs X [] tNext := fun _ _ σ H _ I h => wpAny_execs_nil ⟨σ, H, I, h⟩
theorem pss_cons (h1 : PS X st t) (h2 : PSs X rest u) : PSs X (st :: rest) (tSeq t u) := by
  intro pins s σ H D I h
  refine wpAny_execs_cons (thn (h1 pins s σ H { D with nx := u D } I h) fun f s1 q => ?_)
  cases f with
  | next =>
    obtain ⟨σ', H', I', q⟩ := q
    exact h2 pins s1 σ' H' D I' q
  | ret v => exact q
  | brk => exact q
  | cont => exact q
theorem pss_one (h1 : PS X st t) : PSs X [st] t := by
  intro pins s σ H D I h
  refine wpAny_execs_cons (thn (h1 pins s σ H D I h) fun f s1 q => ?_)
  cases f with
  | next => exact wpAny_execs_nil q
  | ret v => exact q
  | brk => exact q
  | cont => exact q
theorem Inv.quiet {pins : List (Addr × Obj)} {σ : St} {H : Hp} {s : Shared} (I : Inv X pins σ H s) : interactive X.env = false := by simp [interactive, I.ok.kind]
def tDrop (te : TE) : TS := fun D σ H => te σ H fun _ H1 => D.nx σ H1
theorem ps_expr (he : PE X e te) (hs : swapsWith e none pos.line X.env = pure false := by rfl) : PS X (.Expr e pos) (tDrop te) := by
  intro pins s σ H D I h
  exact wpAny_Expr_any (thn (he pins s σ H _ I h) fun v s1 ⟨x, H1, I1, r1, q1⟩ => ⟨σ, H1, I1, q1⟩) I.quiet hs
def tRet (te : TE) : TS := fun D σ H => te σ H D.rt
theorem ps_ret (he : PE X e te) : PS X (.Return (some e) pos) (tRet te) := by
  intro pins s σ H D I h
  exact wpAny_Return_some (thn (he pins s σ H _ I h) fun v s1 ⟨x, H1, I1, r1, q1⟩ => ⟨x, σ, H1, I1, r1, q1⟩)
def tIfS (c : TT) (t u : TS) : TS := fun D σ H => c σ H fun b H1 => if b = true then t D σ H1 else u D σ H1
theorem ps_if {c : Expr} {a b : List Stmt} {tc : TT} (hc : PT X c tc) (ha : PSs X a t) (hb : PSs X b u) : PS X (.If c a b pos) (tIfS tc t u) := by
  intro pins s σ H D I h
  refine wpAny_If (thn (hc pins s σ H _ I h) fun d s1 ⟨H1, I1, q1⟩ => ?_)
  cases d with
  | true => exact ha pins s1 σ H1 D I1 q1
  | false => exact hb pins s1 σ H1 D I1 q1
end
abbrev TG := V → St → Hp → (St → Hp → Prop) → Prop
abbrev TGs := List V → St → Hp → (St → Hp → Prop) → Prop
def PG (X : Cx) (target : Expr) (t : TG) : Prop :=
  ∀ (pins : List (Addr × Obj)) (s : Shared) (σ : St) (H : Hp) (v : V) (u : Value) (Q : St → Hp → Prop), Inv X pins σ H s → RelV v u → t v σ H Q →
    wpAny (model X.prog X.w) X.A (assign target X.env u) (fun _ s' => ∃ σ' H', Inv X pins σ' H' s' ∧ Q σ' H') X.xe s
def PGs (X : Cx) (ts : List Expr) (t : TGs) : Prop :=
  ∀ (pins : List (Addr × Obj)) (s : Shared) (σ : St) (H : Hp) (vs : List V) (us : List Value) (Q : St → Hp → Prop), Inv X pins σ H s → Vals vs us → t vs σ H Q →
    wpAny (model X.prog X.w) X.A (assignInOrder ((assignEach ts X.env).map (·.2)) us) (fun _ s' => ∃ σ' H', Inv X pins σ' H' s' ∧ Q σ' H') X.xe s
abbrev TSet := V → V → V → Hp → (Hp → Prop) → Prop
def PSet (X : Cx) (t : TSet) : Prop :=
  ∀ (pins : List (Addr × Obj)) (s : Shared) (σ : St) (H : Hp) (o i v : V) (ov iv u : Value) (Q : Hp → Prop), Inv X pins σ H s → RelV o ov → RelV i iv → RelV v u → t o i v H Q →
    wpAny (model X.prog X.w) X.A (setItem ov iv u) (fun _ s' => ∃ H', Inv X pins σ H' s' ∧ Q H') X.xe s
section
variable {X : Cx} {pos : Pos}
def gName (i : Nat) : TG := fun v σ H Q => Q (σ.set i (some v)) H
theorem pg_name {i : Nat} {x : Str} (hN : X.N.Nodup) (hi : X.N[i]? = some x) (hx : Loc X.env.scope x) (hf : X.fn x = true ∨ X.env.scope.names.lookup x = some .local := by first | exact .inl rfl | exact .inr rfl | assumption) : PG X (.Name x pos) (gName i) := by
  intro pins s σ H v u Q I r h
  exact wpAny_assign_Name (store_ok I hN hi hx r (fun s' I' => ⟨_, H, I', h⟩) hf)
def gNil : TGs := fun vs σ H Q => vs = [] ∧ Q σ H
def gCons (t : TG) (u : TGs) : TGs := fun vs σ H Q => ∃ v r, vs = v :: r ∧ t v σ H fun σ' H' => u r σ' H' Q
theorem pgs_nil : PGs X [] gNil := by
  intro pins s σ H vs us Q I r h
  obtain ⟨e, h⟩ := h
  subst e
  cases r
  exact assignInOrder_nil ⟨σ, H, I, h⟩
theorem pgs_cons {e : Expr} {es : List Expr} {t : TG} {u : TGs} (h1 : PG X e t) (h2 : PGs X es u)
    (hs : (assignEach (e :: es) X.env).map (·.2) = assign e X.env :: (assignEach es X.env).map (·.2) := by rfl) : PGs X (e :: es) (gCons t u) := by
  intro pins s σ H vs us Q I r h
  obtain ⟨v, vr, e1, h⟩ := h
  subst e1
  cases r with
  | cons r rr =>
    rw [hs]
    refine assignInOrder_cons (thn (h1 pins s σ H _ _ _ I r h) fun _ s1 ⟨σ1, H1, I1, q1⟩ => ?_)
    exact h2 pins s1 σ1 H1 _ _ Q I1 rr q1
def gTup (K : PySem.W.Frag) (n : Nat) (t : TGs) : TG := fun v σ H Q => ∃ a xs, v = .ref a ∧ SqT K H a xs ∧ xs.length = n ∧ t xs σ H Q
theorem pg_tup {es : List Expr} {k : Nat} {t : TGs} {n : Nat} (hc : X.calm = true) (h : PGs X es t)
    (hn : (assignEach es X.env).length = n := by rfl) (hst : (assignEach es X.env).findIdx? (·.1) = none := by rfl) : PG X (.Tuple es k pos) (gTup X.K n t) := by
  intro pins s σ H v u Q I r hw
  obtain ⟨a, xs, e1, hq, hl, hw⟩ := hw
  subst e1
  cases r
  obtain ⟨its, rv, ht, hz⟩ := I.tuple hq
  refine assign_Tuple_tuple (I.ok.hd hc) ht (by simp [hn, ← hl, rv.length]) hst fun h' hx => ?_
  have I1 : Inv X pins σ H { s with heap := h' } := I.kept (t' := s.toks) fun b o e => hx b o (Nat.ne_of_lt (Heap.lt_size e)) e
  exact h pins _ σ H xs _ Q I1 (by simpa using rv) hw
def gSub (to ti : TE) (t : TSet) : TG := fun v σ H Q => to σ H fun o H1 => ti σ H1 fun i H2 => t o i v H2 fun H3 => Q σ H3
theorem pg_sub {o i : Expr} {to ti : TE} {t : TSet} (ho : PE X o to) (hi : PE X i ti) (hs : PSet X t)
    (ha : ∀ v, assign (.Subscript o i pos) X.env v = (do
      let ov ← holding [v] (eval o X.env)
      let iv ← holding [v, ov] (eval i X.env)
      standAt pos
      holding [v, ov, iv] (setItem ov iv v)
      release [v, ov, iv] []) := by intro _; rfl) : PG X (.Subscript o i pos) (gSub to ti t) := by
  intro pins s σ H v u Q I r h
  rw [ha]
  refine wpAny_bind (wpAny_holding (thn (ho pins s σ H _ I h) fun ov s1 ⟨x, H1, I1, r1, q1⟩ => ?_))
  refine wpAny_bind (wpAny_holding (thn (hi pins s1 σ H1 _ I1 q1) fun iv s2 ⟨y, H2, I2, r2, q2⟩ => ?_))
  refine wpAny_bind (wpAny_standAt (wpAny_bind (wpAny_holding (thn (hs pins s2 σ H2 x y v ov iv u _ I2 r1 r2 r q2) fun _ s3 ⟨H3, I3, q3⟩ => ?_))))
  exact wpAny_release ⟨σ, H3, I3, q3⟩
def tAsg (te : TE) (g : TG) : TS := fun D σ H => te σ H fun x H1 => g x σ H1 D.nx
theorem ps_asg {tg e : Expr} {te : TE} {g : TG} (he : PE X e te) (hg : PG X tg g) (hs : swapsWithSole [tg] e pos.line X.env = pure false := by rfl) (hw : swappedStores [tg] e X.env = pure none := by rfl)
    (h1 : (assignEach [tg] X.env).map (·.2) = [assign tg X.env] := by rfl) : PS X (.Assign [tg] e pos) (tAsg te g) := by
  intro pins s σ H D I h
  refine wpAny_Assign_stores (thn (he pins s σ H _ I h) fun v s1 ⟨x, H1, I1, r1, q1⟩ => ?_) hs hw
  rw [h1]
  exact thn (hg pins s1 σ H1 x v _ I1 r1 q1) fun _ s2 q => q
theorem ps_set {i : Nat} {x : Str} {e : Expr} {te : TE} {pos' : Pos} (hN : X.N.Nodup) (hi : X.N[i]? = some x) (hx : Loc X.env.scope x) (he : PE X e te) (hs : swapsWith e (some (.Name x pos')) pos.line X.env = pure false := by rfl) (hf : X.fn x = true ∨ X.env.scope.names.lookup x = some .local := by first | exact .inl rfl | exact .inr rfl | assumption) :
    PS X (.Assign [.Name x pos'] e pos) (tAsg te (gName i)) := by
  intro pins s σ H D I h
  refine wpAny_Assign_Name (thn (he pins s σ H _ I h) fun v s1 ⟨y, H1, I1, r1, q1⟩ => ?_) hs
  exact store_ok I1 hN hi hx r1 (fun s2 I2 => ⟨_, H1, I2, q1⟩) hf
end
section
variable {X : Cx} {pos : Pos}
end
structure It where
  go : Nat → Hp → Prop
  yld : Nat → Hp → V → Hp → Prop
  stop : Nat → Hp → Prop
def FpOk (X : Cx) (pins : List (Addr × Obj)) (H : Hp) (b : Addr) : Prop :=
  H b = none ∧ b ≠ X.env.locals ∧ b ∉ X.fs ∧ (b ∈ X.ex ∨ X.s₀.heap.objs.size ≤ b) ∧ (∀ x c, X.env.cells.lookup x = some c → c ≠ b) ∧ ∀ p ∈ X.pn ++ pins, p.1 ≠ b
theorem Inv.fpOk {X : Cx} {pins : List (Addr × Obj)} {σ : St} {H H' : Hp} {s : Shared} {b : Addr} (I : Inv X pins σ H s) (hb : s.heap.objs.size ≤ b) (hn : H' b = none) : FpOk X pins H' b := by
  refine ⟨hn, Nat.ne_of_gt (Nat.lt_of_lt_of_le I.lt hb), I.nofs hb, .inr (Nat.le_trans I.sz hb), fun x c e z => ?_, fun p hp z => ?_⟩
  · obtain ⟨v, q⟩ := I.cell x c e
    exact absurd (Nat.lt_of_lt_of_le q.lt (by rw [z]; exact hb)) (Nat.lt_irrefl _)
  · exact absurd (Nat.lt_of_lt_of_le (Heap.lt_size (I.pin p hp).1) (by rw [z]; exact hb)) (Nat.lt_irrefl _)
structure Turn (P : Program) (w : World) (K : PySem.W.Frag) (tg : Expr) (J : It) (fp : List Addr) (it : Addr) (tn : Nat → Heap → Prop) : Prop where
  mem : it ∈ fp
  obj : ∀ i h, tn i h → ∀ b ∈ fp, ∃ o, h.get? b = some o ∧ ∀ v, o.data ≠ .cell v
  keep : ∀ i h h', tn i h → (∀ b ∈ fp, ∀ o, h.get? b = some o → h'.get? b = some o) → tn i h'
  item : ∀ (X : Cx), X.prog = P → X.w = w → X.K = K → X.calm = true → ∀ (i : Nat) (pins : List (Addr × Obj)) (s : Shared) (σ : St) (H : Hp) (E : Value → Shared → Prop), Inv X pins σ H s → (∀ b ∈ fp, FpOk X pins H b) → tn i s.heap → J.go i H →
    wpAny (model P w) X.A (pyNext (.ref it)) (fun r s1 => ∃ u, r = some u ∧
      wpAny (model P w) X.A (letOwnedTupleGo tg (.ref it) u) (fun _ s2 => ∃ x H', Inv X pins σ H' s2 ∧ RelV x u ∧ J.yld i H x H' ∧ tn (i + 1) s2.heap ∧ ∀ b ∈ fp, H' b = none) E s1) E s
  done : ∀ (X : Cx), X.prog = P → X.w = w → X.K = K → X.calm = true → ∀ (i : Nat) (pins : List (Addr × Obj)) (s : Shared) (σ : St) (H : Hp) (E : Value → Shared → Prop), Inv X pins σ H s → (∀ b ∈ fp, FpOk X pins H b) → tn i s.heap → J.stop i H →
    wpAny (model P w) X.A (pyNext (.ref it)) (fun r s1 => r = none ∧ Inv X pins σ H s1) E s
  self : ∀ (A : Around) (i : Nat) (s : Shared) (Q : Value → Shared → Prop) (E : Value → Shared → Prop), tn i s.heap → Q (.ref it) s → wpAny (model P w) A (pyIter (.ref it)) Q E s
abbrev TI := St → Hp → (It → Hp → Prop) → Prop
def PIE (X : Cx) (pins : List (Addr × Obj)) (σ : St) (tg : Expr) (R : It → Hp → Prop) (itv : Value) (s2 : Shared) : Prop :=
  ∃ (it : Addr) (fp : List Addr) (tn : Nat → Heap → Prop) (J : It) (H' : Hp), itv = .ref it ∧ Inv X pins σ H' s2 ∧ Turn X.prog X.w X.K tg J fp it tn ∧ tn 0 s2.heap ∧ (∀ b ∈ fp, FpOk X pins H' b) ∧ R J H'
def PI (X : Cx) (tg iter : Expr) (wi : TI) : Prop :=
  ∀ (pins : List (Addr × Obj)) (s : Shared) (σ : St) (H : Hp) (R : It → Hp → Prop), Inv X pins σ H s → wi σ H R →
    wpAny (model X.prog X.w) X.A (eval iter X.env) (fun v s1 => wpAny (model X.prog X.w) X.A (pyIter v) (PIE X pins σ tg R) X.xe s1) X.xe s
theorem go_of {M : Model} {A : Around} {E : Value → Shared → Prop} {s : Shared} {tg : Expr} {it : Addr} {u : Value} {o : Obj} {n : String} {vs : Array Value} {Q : Unit → Shared → Prop} (ho : s.heap.get? it = some o) (hc : o.cls = .type n) (hd : o.data = .fields vs)
    (hn : ["enumerate", "zip", "dict_itemiterator", "dict_reverseitemiterator", "odict_iterator", "itertools.zip_longest", "itertools.pairwise"].contains n = false) (hQ : Q () s) : wpAny M A (letOwnedTupleGo tg (.ref it) u) Q E s := by
  unfold letOwnedTupleGo
  cases tg <;> first
    | exact wpAny_pure hQ
    | (cases u <;> first
        | exact wpAny_pure hQ
        | (refine wpAny_bind (wpAny_load ho ?_)
           rw [hc, hd]
           show wpAny M A (if (["enumerate", "zip", "dict_itemiterator", "dict_reverseitemiterator", "odict_iterator", "itertools.zip_longest", "itertools.pairwise"].contains n && vs[0]? == some (rawInt _)) = true then _ else _) Q E s
           rw [if_neg (by intro h; rw [hn, Bool.false_and] at h; cases h)]
           exact wpAny_pure hQ))
def Itl (K : PySem.W.Frag) (a : Addr) : It :=
  ⟨fun i H => ∃ xs x, SqL K H a xs ∧ xs[i]? = some x, fun i H x H' => H' = H ∧ ∀ xs, SqL K H a xs → xs[i]? = some x, fun i H => ∃ xs, SqL K H a xs ∧ xs.length ≤ i⟩
def Itt (K : PySem.W.Frag) (a : Addr) : It :=
  ⟨fun i H => ∃ xs x, SqT K H a xs ∧ xs[i]? = some x, fun i H x H' => H' = H ∧ ∀ xs, SqT K H a xs → xs[i]? = some x, fun i H => ∃ xs, SqT K H a xs ∧ xs.length ≤ i⟩
def Itr (lo : Int) (n : Nat) : It := ⟨fun i _ => i < n, fun i H x H' => H' = H ∧ x = .int (lo + i), fun i _ => n ≤ i⟩
theorem turn_list {P : Program} {w : World} {K : PySem.W.Frag} {tg : Expr} (a it : Addr) : Turn P w K tg (Itl K a) [it] it (fun i h => h.IsListIter it a i) where
  mem := by simp
  obj := fun i h st b hb => by
    have e : b = it := by simpa using hb
    subst e
    obtain ⟨o, e, c, d⟩ := st
    exact ⟨o, e, fun v z => by rw [d] at z; cases z⟩
  keep := fun i h h' st k => st.at fun o e => k it (by simp) o e
  item := by
    intro X hP hw hK hc i pins s σ H E I hf st hg
    subst hP hw hK
    obtain ⟨xs, x, hq, hx⟩ := hg
    obtain ⟨its, rv, p, hz⟩ := I.list hq
    obtain ⟨u, hu, ru⟩ := rv.get hx
    obtain ⟨f0, f1, f2, f3, f4, f5⟩ := hf it (by simp)
    refine wpAny_pyNext_list_item st p.isList (x := u) (by simpa using hu) fun h' st' sb => ?_
    have I1 : Inv X pins σ H { s with heap := h' } := I.turned (t' := s.toks) (fun b o hb e => (sb.2 b hb).trans e) f0 f1 f3 f4 f5
    obtain ⟨o, e, c, d⟩ := id st'
    exact ⟨u, rfl, go_of (s := { s with heap := h' }) e c d (by decide) ⟨x, H, I1, ru, ⟨rfl, fun ys hy => by rw [I.list_inj hy hq]; exact hx⟩, st', fun b hb => (hf b hb).1⟩⟩
  done := by
    intro X hP hw hK hc i pins s σ H E I hf st hg
    subst hP hw hK
    obtain ⟨xs, hq, hx⟩ := hg
    obtain ⟨its, rv, p, hz⟩ := I.list hq
    obtain ⟨f0, f1, f2, f3, f4, f5⟩ := hf it (by simp)
    have hl := rv.length
    exact wpAny_pyNext_list_end (I.ok.hd hc) st p.isList (by simp; omega) fun h' eb => ⟨rfl, I.turned (t' := s.toks) (fun b o hb e => eb b o hb e) f0 f1 f3 f4 f5⟩
  self := fun _ _ _ _ _ st h => wpAny_pyIter_listiter st h
theorem turn_tuple {P : Program} {w : World} {K : PySem.W.Frag} {tg : Expr} (a it : Addr) : Turn P w K tg (Itt K a) [it] it (fun i h => h.IsTupleIter it a i) where
  mem := by simp
  obj := fun i h st b hb => by
    have e : b = it := by simpa using hb
    subst e
    obtain ⟨o, e, c, d⟩ := st
    exact ⟨o, e, fun v z => by rw [d] at z; cases z⟩
  keep := fun i h h' st k => st.at fun o e => k it (by simp) o e
  item := by
    intro X hP hw hK hc i pins s σ H E I hf st hg
    subst hP hw hK
    obtain ⟨xs, x, hq, hx⟩ := hg
    obtain ⟨its, rv, p, hz⟩ := I.tuple hq
    obtain ⟨u, hu, ru⟩ := rv.get hx
    obtain ⟨f0, f1, f2, f3, f4, f5⟩ := hf it (by simp)
    refine wpAny_pyNext_tuple_item st (show s.heap.IsTuple a its.toArray from p) (x := u) (by simpa using hu) fun h' st' sb => ?_
    have I1 : Inv X pins σ H { s with heap := h' } := I.turned (t' := s.toks) (fun b o hb e => (sb.2 b hb).trans e) f0 f1 f3 f4 f5
    obtain ⟨o, e, c, d⟩ := id st'
    exact ⟨u, rfl, go_of (s := { s with heap := h' }) e c d (by decide) ⟨x, H, I1, ru, ⟨rfl, fun ys hy => by rw [I.tuple_inj hy hq]; exact hx⟩, st', fun b hb => (hf b hb).1⟩⟩
  done := by
    intro X hP hw hK hc i pins s σ H E I hf st hg
    subst hP hw hK
    obtain ⟨xs, hq, hx⟩ := hg
    obtain ⟨its, rv, p, hz⟩ := I.tuple hq
    obtain ⟨f0, f1, f2, f3, f4, f5⟩ := hf it (by simp)
    have hl := rv.length
    exact wpAny_pyNext_tuple_end (I.ok.hd hc) st (show s.heap.IsTuple a its.toArray from p) (by simp; omega) fun h' eb => ⟨rfl, I.turned (t' := s.toks) (fun b o hb e => eb b o hb e) f0 f1 f3 f4 f5⟩
  self := fun _ _ _ _ _ st h => wpAny_pyIter_tupleiter st h
theorem turn_range {P : Program} {w : World} {K : PySem.W.Frag} {tg : Expr} (it : Addr) (lo : Int) (n : Nat) : Turn P w K tg (Itr lo n) [it] it (fun i h => IsRangeIter h it (lo + (i : Nat) * 1) ((n : Int) - (i : Nat)) 1) where
  mem := by simp
  obj := fun i h st b hb => by
    have e : b = it := by simpa using hb
    subst e
    exact ⟨_, st, fun v z => by
      have z' : Data.fields _ = Data.cell v := z
      cases z'⟩
  keep := fun i h h' st k => k it (by simp) _ st
  item := by
    intro X hP hw hK hc i pins s σ H E I hf st hg
    subst hP hw hK
    obtain ⟨f0, f1, f2, f3, f4, f5⟩ := hf it (by simp)
    have W := Walks.range (prog := X.prog) (w := X.w) (I.ok.hd hc) it lo 1 n
    refine W.item i s _ _ hg st fun v h' tk hv st' kk => ?_
    obtain ⟨t, rfl⟩ := hv
    have I1 : Inv X pins σ H { s with heap := h', toks := tk } := I.turned (fun b o hb e => kk b o (by simpa using hb) e) f0 f1 f3 f4 f5
    refine ⟨_, rfl, go_of (s := { s with heap := h', toks := tk }) (n := "range_iterator") st' rfl rfl (by decide) ⟨.int (lo + i), H, I1, ⟨t, ?_⟩, ⟨rfl, rfl⟩, st', fun b hb => (hf b hb).1⟩⟩
    rw [Int.mul_one]
  done := by
    intro X hP hw hK hc i pins s σ H E I hf st hg
    subst hP hw hK
    obtain ⟨f0, f1, f2, f3, f4, f5⟩ := hf it (by simp)
    exact wpAny_pyNext_range_end (I.ok.hd hc) st (by have : n ≤ i := hg; omega) fun h' eb => ⟨rfl, I.turned (t' := s.toks) (fun b o hb e => eb b o hb e) f0 f1 f3 f4 f5⟩
  self := fun _ _ _ _ _ st h => wpAny_pyIter_rangeiter st h
end L2
namespace L2
open PySem PySem.Spec PyProof.Rows
section
variable {X : Cx} {tg : Expr}
theorem range_it {pins : List (Addr × Obj)} {σ : St} {H : Hp} {s : Shared} {R : It → Hp → Prop} {E : Value → Shared → Prop} {lo hi : Int} {t u v : Tok} {tk : Nat} (I : Inv X pins σ H s) (h1 : -(2 ^ 62) ≤ lo) (h2 : lo < 2 ^ 62) (h3 : -(2 ^ 62) ≤ hi) (h4 : hi < 2 ^ 62)
    (q : R (Itr lo (hi - lo).toNat) H) : wpAny (model X.prog X.w) X.A (pyIter (.ref s.heap.objs.size)) (PIE X pins σ tg R) E { s with heap := s.heap.push { cls := .type "range", data := .fields #[.int lo t, .int hi u, .int 1 v] }, toks := tk } := by
  refine wpAny_pyIter_range (IsRange.new ..) (small_one h1 h2 h3 h4) ?_
  have I1 : Inv X pins σ H { s with heap := s.heap.push { cls := .type "range", data := .fields #[.int lo t, .int hi u, .int 1 v] }, toks := tk } := I.kept fun b o e => Heap.get?_push_of_some _ e
  refine ⟨(s.heap.push { cls := .type "range", data := .fields #[.int lo t, .int hi u, .int 1 v] }).objs.size, [(s.heap.push { cls := .type "range", data := .fields #[.int lo t, .int hi u, .int 1 v] }).objs.size], _, _, H, rfl,
    I1.kept (t' := tk) fun b o e => Heap.get?_push_of_some _ e, turn_range _ lo (hi - lo).toNat, ?_, fun b hb => ?_, q⟩
  · have e1 : lo + ((0 : Nat) : Int) * 1 = lo := by simp
    have e2 : (((hi - lo).toNat : Nat) : Int) - ((0 : Nat) : Int) = Builtin.Range.rangeSize lo hi 1 := by rw [rangeSize_one]; split <;> omega
    show IsRangeIter _ _ (lo + ((0 : Nat) : Int) * 1) ((((hi - lo).toNat : Nat) : Int) - ((0 : Nat) : Int)) 1
    rw [e1, e2]
    exact Heap.get?_push_size _ rfl
  · have e : b = (s.heap.push { cls := .type "range", data := .fields #[.int lo t, .int hi u, .int 1 v] }).objs.size := by simpa using hb
    subst e
    exact I1.fpOk (Nat.le_refl _) (I1.hok.fresh (Nat.le_refl _))
def iRng1 (ta : TA) : TI := fun σ H R => ta σ H fun vs H1 => ∃ j : Int, vs = [.int j] ∧ -(2 ^ 62) ≤ j ∧ j < 2 ^ 62 ∧ R (Itr 0 j.toNat) H1
theorem pi_range1 {a : Expr} {ta : TA} {p pos : Pos} (hg : Gl X "range") (hm : X.mg "range" = none) (ha : PA X [a] ta) (hs : starEach [a] X.env = [(false, eval a X.env)] := by rfl) : PI X tg (.Call (.Name "range" p) [a] [] pos) (iRng1 ta) := by
  intro pins s σ H R I h
  refine Call_ (ld_blt I hg hm boot_range (PyProof.Rows.callWith_type1 (thn (ha pos pins s σ H _ I h) fun us s1 ⟨vs, H1, I1, r1, q1⟩ => ?_) hs rfl))
  obtain ⟨j, e, q1, q2, q⟩ := q1
  subst e
  cases r1 with
  | cons r rr =>
    cases rr
    obtain ⟨t, rfl⟩ := r
    exact call_range_1 (range_it I1 (by omega) (by omega) q1 q2 (by simpa using q))
def tFor (wi : TI) (g : TG) (tb : TS) : TS := fun D σ H => wi σ H fun J H1 => ∃ W : Nat → Nat → St → Hp → Prop, (∃ m, W 0 m σ H1) ∧ ∀ i m σ H, W i m σ H →
  (J.stop i H ∧ D.nx σ H) ∨ (J.go i H ∧ ∃ N : St → Hp → Prop, (∀ σ' H', N σ' H' → ∃ m', m' < m ∧ W (i + 1) m' σ' H') ∧ ∀ x H', J.yld i H x H' → g x σ H' fun σ2 H2 => tb { D with nx := N, ct := N, bk := D.nx } σ2 H2)
def pinsAt (fp : List Addr) (h : Heap) : List (Addr × Obj) := fp.filterMap fun b => (h.get? b).map fun o => (b, o)
theorem mem_pinsAt {fp : List Addr} {h : Heap} {b : Addr} {o : Obj} (hb : b ∈ fp) (e : h.get? b = some o) : (b, o) ∈ pinsAt fp h := List.mem_filterMap.mpr ⟨b, hb, by rw [e]; rfl⟩
theorem of_pinsAt {fp : List Addr} {h : Heap} {p : Addr × Obj} (hp : p ∈ pinsAt fp h) : p.1 ∈ fp ∧ h.get? p.1 = some p.2 := by
  obtain ⟨b, hb, e⟩ := List.mem_filterMap.mp hp
  cases q : h.get? b with
  | none => rw [q] at e; cases e
  | some o =>
    rw [q] at e
    have e' : (b, o) = p := Option.some.inj e
    subst e'
    exact ⟨hb, q⟩
theorem Inv.pinned {pins : List (Addr × Obj)} {σ : St} {H : Hp} {s : Shared} {fp : List Addr} (I : Inv X pins σ H s) (hf : ∀ b ∈ fp, FpOk X pins H b) (ho : ∀ b ∈ fp, ∃ o, s.heap.get? b = some o ∧ ∀ v, o.data ≠ .cell v) : Inv X (pins ++ pinsAt fp s.heap) σ H s :=
  I.pins_of fun p hp => (List.mem_append.mp hp).elim (fun z => I.pin p (List.mem_append_right _ z)) fun z => by
    obtain ⟨hb, e⟩ := of_pinsAt z
    obtain ⟨f0, f1, f2, _⟩ := hf p.1 hb
    obtain ⟨o, e', d⟩ := ho p.1 hb
    rw [e] at e'; cases e'
    exact ⟨e, f0, f1, f2, d⟩
theorem Inv.unpinned {pins pl : List (Addr × Obj)} {σ : St} {H : Hp} {s : Shared} (I : Inv X (pins ++ pl) σ H s) : Inv X pins σ H s := I.pins_of fun p hp => I.pin p (List.mem_append_right _ (List.mem_append_left _ hp))
theorem ps_for {iter : Expr} {body : List Stmt} {wi : TI} {g : TG} {tb : TS} {pos : Pos} (hp : PassesOwn (model X.prog X.w) X.A X.env X.xe) (hc : X.calm = true) (hi : PI X tg iter wi) (hg : PG X tg g) (hb : PSs X body tb)
    (hs : ∀ x, foldedSetIterable iter X.env x = pure x := by intro _; rfl) : PS X (.For tg iter body [] pos) (tFor wi g tb) := by
  intro pins s σ H D I h
  refine wpAny_For (thn (hi pins s σ H _ I h) fun v s1 h1 => thn h1 fun itv s2 h2 => ?_) hs
  obtain ⟨it, fp, tn, J, H2, e, I2, T, st2, f2, W, ⟨m0, w0⟩, turn⟩ := h2
  subst e
  -- what stays true of the iterator's objects through the loop
  have stat : ∀ {H' : Hp}, (∀ b ∈ fp, H' b = none) → ∀ b ∈ fp, FpOk X pins H' b := fun hn b hb => ⟨hn b hb, (f2 b hb).2⟩
  refine codeAny_forLoop_any (fun n s' => ∃ i σ' H', Inv X pins σ' H' s' ∧ tn i s'.heap ∧ (∀ b ∈ fp, H' b = none) ∧ W i n σ' H') ?_ m0 ⟨0, σ, H2, I2, st2, fun b hb => (f2 b hb).1, w0⟩
  rintro n s3 ⟨i, σ3, H3, I3, st3, fr3, w3⟩
  rcases turn i n σ3 H3 w3 with ⟨stop, qn⟩ | ⟨go, N, hN, step⟩
  · refine wpAny_passesOwn hp (thn (T.done X rfl rfl rfl hc i pins s3 σ3 H3 X.xe I3 (stat fr3) st3 stop) fun r s4 ⟨hr, I4⟩ => ?_)
    subst hr
    exact wpAny_execs_nil ⟨σ3, H3, I4, qn⟩
  · refine wpAny_passesOwn hp (thn (T.item X rfl rfl rfl hc i pins s3 σ3 H3 X.xe I3 (stat fr3) st3 go) fun r s4 ⟨u, hr, h4⟩ => ?_)
    subst hr
    refine wpAny_passesOwn hp (thn h4 fun _ s5 ⟨x, H5, I5, r5, y5, st5, fr5⟩ => ?_)
    have I5' := I5.pinned (stat fr5) (T.obj _ _ st5)
    refine wpAny_passesOwn hp (thn (hg _ s5 σ3 H5 x u _ I5' r5 (step x H5 y5)) fun _ s6 ⟨σ6, H6, I6, q6⟩ => ?_)
    refine wpAny_passesOwn hp (thn (hb _ s6 σ6 H6 _ I6 q6) fun f s7 q7 => ?_)
    have again : ∀ {σ7 : St} {H7 : Hp}, Inv X (pins ++ pinsAt fp s5.heap) σ7 H7 s7 → N σ7 H7 → ∃ m, m < n ∧ ∃ i σ' H', Inv X pins σ' H' s7 ∧ tn i s7.heap ∧ (∀ b ∈ fp, H' b = none) ∧ W i m σ' H' := fun {σ7 H7} I7 n7 => by
      obtain ⟨m', hm, w7⟩ := hN σ7 H7 n7
      refine ⟨m', hm, i + 1, σ7, H7, I7.unpinned, T.keep _ _ _ st5 fun b hb o e => (I7.pin (b, o) (List.mem_append_right _ (List.mem_append_right _ (mem_pinsAt hb e)))).1, fun b hb => ?_, w7⟩
      obtain ⟨o, e, d⟩ := T.obj _ _ st5 b hb
      exact (I7.pin (b, o) (List.mem_append_right _ (List.mem_append_right _ (mem_pinsAt hb e)))).2.1
    cases f with
    | next => obtain ⟨σ7, H7, I7, n7⟩ := q7; exact again I7 n7
    | cont => obtain ⟨σ7, H7, I7, n7⟩ := q7; exact again I7 n7
    | brk => obtain ⟨σ7, H7, I7, q7⟩ := q7; exact ⟨σ7, H7, I7.unpinned, q7⟩
    | ret v => obtain ⟨x7, σ7, H7, I7, r7, q7⟩ := q7; exact ⟨x7, σ7, H7, I7.unpinned, r7, q7⟩
end
end L2
namespace L2
open PySem PySem.Spec PyProof.Rows
abbrev R2 := V → V → Hp → VK → Prop
def OpR (X : Cx) (f : Value → Value → Sem Value) (r : R2) : Prop :=
  ∀ (pins : List (Addr × Obj)) (s : Shared) (σ : St) (H : Hp) (x y : V) (v u : Value) (Q : VK), Inv X pins σ H s → RelV x v → RelV y u → r x y H Q →
    wpAny (model X.prog X.w) X.A (f v u) (EP X pins σ Q) X.xe s
def CallR (X : Cx) (f : Value) (r : List V → Hp → VK → Prop) : Prop :=
  ∀ (pins : List (Addr × Obj)) (s : Shared) (σ : St) (H : Hp) (xs : List V) (us : List Value) (Q : VK), Inv X pins σ H s → Vals xs us → r xs H Q →
    wpAny (model X.prog X.w) X.A (call f us) (EP X pins σ Q) X.xe s
def tOp (r : R2) (ta tb : TE) : TE := fun σ H Q => ta σ H fun x H1 => tb σ H1 fun y H2 => r x y H2 Q
def rI (C : Int → Int → Prop) (g : Int → Int → V) : R2 := fun x y H Q => ∃ i j, x = .int i ∧ y = .int j ∧ C i j ∧ Q (g i j) H
def rI0 (g : Int → Int → V) : R2 := fun x y H Q => ∃ i j, x = .int i ∧ y = .int j ∧ Q (g i j) H
section
variable {X : Cx} {a b c : Expr} {ta tb tc : TE} {pos : Pos}
theorem binT (ha : PE X a ta) (hb : PE X b tb) {pins : List (Addr × Obj)} {s : Shared} {σ : St} {H : Hp} {R : V → V → Hp → Prop} (I : Inv X pins σ H s)
    (h : ta σ H fun x H1 => tb σ H1 fun y H2 => R x y H2) {Q : Value → Shared → Prop} {f : Value → Value → Sem Value}
    (hf : ∀ v u s2 x y H2, Inv X pins σ H2 s2 → RelV x v → RelV y u → R x y H2 → wpAny (model X.prog X.w) X.A (f v u) Q X.xe s2) :
    wpAny (model X.prog X.w) X.A (eval a X.env) (fun v s₁ => wpAny (model X.prog X.w) X.A (eval b X.env) (fun u s₂ => wpAny (model X.prog X.w) X.A (f v u) Q X.xe s₂) X.xe s₁) X.xe s := by
  refine thn (ha pins s σ H _ I h) fun v s1 ⟨x, H1, I1, r1, q1⟩ => ?_
  refine thn (hb pins s1 σ H1 _ I1 q1) fun u s2 ⟨y, H2, I2, r2, q2⟩ => ?_
  exact hf v u s2 x y H2 I2 r1 r2 q2
theorem pe_op {op : Operator} {r : R2} (ho : OpR X (binaryOp op) r) (ha : PE X a ta) (hb : PE X b tb) : PE X (.BinOp a op b pos) (tOp r ta tb) := by
  intro pins s σ H Q I h
  exact wpAny_BinOp (binT ha hb I h fun v u s2 x y H2 I2 rx ry q => ho pins s2 σ H2 x y v u Q I2 rx ry q)
theorem opI {f : Value → Value → Sem Value} {C : Int → Int → Prop} {g : Int → Int → Int}
    (rule : ∀ (i j : Int) (t u : Tok) (s : Shared) (Q : Value → Shared → Prop) (E : Value → Shared → Prop), C i j → Q (.int (g i j) s.toks) { s with toks := s.toks + 1 } → wpAny (model X.prog X.w) X.A (f (.int i t) (.int j u)) Q E s) :
    OpR X f (rI C fun i j => .int (g i j)) := by
  intro pins s σ H x y v u Q I rx ry h
  obtain ⟨i, j, rfl, rfl, hc, q⟩ := h
  obtain ⟨t, rfl⟩ := rx
  obtain ⟨t', rfl⟩ := ry
  exact rule i j t t' s _ _ hc ⟨.int (g i j), H, I.tok _, ⟨_, rfl⟩, q⟩
theorem opI0 {f : Value → Value → Sem Value} {g : Int → Int → Int}
    (rule : ∀ (i j : Int) (t u : Tok) (s : Shared) (Q : Value → Shared → Prop) (E : Value → Shared → Prop), Q (.int (g i j) s.toks) { s with toks := s.toks + 1 } → wpAny (model X.prog X.w) X.A (f (.int i t) (.int j u)) Q E s) :
    OpR X f (rI0 fun i j => .int (g i j)) := by
  intro pins s σ H x y v u Q I rx ry h
  obtain ⟨i, j, rfl, rfl, q⟩ := h
  obtain ⟨t, rfl⟩ := rx
  obtain ⟨t', rfl⟩ := ry
  exact rule i j t t' s _ _ ⟨.int (g i j), H, I.tok _, ⟨_, rfl⟩, q⟩
theorem opB0 {f : Value → Value → Sem Value} {g : Int → Int → Bool}
    (rule : ∀ (i j : Int) (t u : Tok) (s : Shared) (Q : Value → Shared → Prop) (E : Value → Shared → Prop), Q (.bool (g i j)) s → wpAny (model X.prog X.w) X.A (f (.int i t) (.int j u)) Q E s) :
    OpR X f (rI0 fun i j => .bl (g i j)) := by
  intro pins s σ H x y v u Q I rx ry h
  obtain ⟨i, j, rfl, rfl, q⟩ := h
  obtain ⟨t, rfl⟩ := rx
  obtain ⟨t', rfl⟩ := ry
  exact rule i j t t' s _ _ ⟨.bl (g i j), H, I, rfl, q⟩
def CMul (i j : Int) : Prop := (-(2 ^ 64) < i ∧ i < 2 ^ 64) ∨ (-(2 ^ 64) < j ∧ j < 2 ^ 64)
theorem CMul.ok {i j : Int} (h : CMul i j) : IntMulOk i j := by
  rcases h with ⟨h1, h2⟩ | ⟨h1, h2⟩
  · exact .of_left (intBits_le_64 h1 h2)
  · exact .of_right (intBits_le_64 h1 h2)
theorem op_add : OpR X (binaryOp .Add) (rI0 fun i j => .int (i + j)) := opI0 fun _ _ _ _ _ _ _ q => add_int q
theorem op_sub : OpR X (binaryOp .Sub) (rI0 fun i j => .int (i - j)) := opI0 fun _ _ _ _ _ _ _ q => sub_int q
theorem op_mul : OpR X (binaryOp .Mult) (rI CMul fun i j => .int (i * j)) := opI fun _ _ _ _ _ _ _ hc q => mul_int q hc.ok
theorem op_modN : OpR X (binaryOp .Mod) (rI (fun _ j => j ≠ 0) fun i j => .int (i.fmod j)) := opI fun _ _ _ _ _ _ _ hc q => mod_int' hc q
end
def scal : V → V → Bool
  | .non, .non => true | .non, .int _ => true | .int _, .non => true | .non, .bl _ => true | .bl _, .non => true | .non, .str _ => true | .str _, .non => true
  | .int _, .int _ => true | .bl _, .bl _ => true | .str _, .str _ => true | .byt _, .byt _ => true
  | .int _, .str _ => true | .str _, .int _ => true | .bl _, .str _ => true | .str _, .bl _ => true
  | _, _ => false
def rEq : R2 := fun x y H Q => scal x y = true ∧ Q (.bl (decide (x = y))) H
def rNe : R2 := fun x y H Q => scal x y = true ∧ Q (.bl (!decide (x = y))) H
theorem dec_int {i j : Int} : decide (V.int i = V.int j) = (i == j) := by
  rw [Bool.eq_iff_iff]
  simp
theorem dec_bl {i j : Bool} : decide (V.bl i = V.bl j) = (i == j) := by
  rw [Bool.eq_iff_iff]
  simp
theorem dec_str {i j : Str} : decide (V.str i = V.str j) = (i == j) := by
  rw [Bool.eq_iff_iff]
  simp
theorem dec_byt {i j : Array UInt8} : decide (V.byt i = V.byt j) = (i.toList == j.toList) := by
  rw [Bool.eq_iff_iff]
  cases i
  cases j
  simp
section
variable {X : Cx} {a b c : Expr} {ta tb tc : TE} {pos : Pos}
theorem fin_bl {pins : List (Addr × Obj)} {σ : St} {H : Hp} {s : Shared} {Q : VK} {k k' : Bool} (I : Inv X pins σ H s) (q : Q (.bl k) H) (e : k = k') : EP X pins σ Q (.bool k') s := by
  subst e
  exact ⟨.bl k, H, I, rfl, q⟩
theorem op_eq : OpR X (compareOp .Eq) rEq := by
  intro pins s σ H x y v u Q I rx ry h
  obtain ⟨hs, q⟩ := h
  cases x with
  | non =>
    cases rx
    cases y with
    | non => cases ry; exact PySem.EqNone.eq_none_none (fin_bl I q (by simp))
    | bl j => cases ry; exact PySem.EqNone.eq_none_bool (fin_bl I q (by simp))
    | int j => obtain ⟨t', rfl⟩ := ry; exact PySem.EqNone.eq_none_int (fin_bl I q (by simp))
    | str j => obtain ⟨t', rfl⟩ := ry; exact PySem.EqNone.eq_none_str (fin_bl I q (by simp))
    | _ => exact absurd (show false = true from hs) Bool.false_ne_true
  | bl i =>
    cases rx
    cases y with
    | non => cases ry; exact PySem.EqNone.eq_bool_none (fin_bl I q (by simp))
    | bl j => cases ry; exact eq_bool (fin_bl I q dec_bl)
    | str j => obtain ⟨t', rfl⟩ := ry; exact PySem.EqMixed.eq_bool_str (fin_bl I q (by simp))
    | _ => exact absurd (show false = true from hs) Bool.false_ne_true
  | int i =>
    obtain ⟨t, rfl⟩ := rx
    cases y with
    | non => cases ry; exact PySem.EqNone.eq_int_none (fin_bl I q (by simp))
    | int j => obtain ⟨t', rfl⟩ := ry; exact eq_int (fin_bl I q dec_int)
    | str j => obtain ⟨t', rfl⟩ := ry; exact PySem.EqMixed.eq_int_str (fin_bl I q (by simp))
    | _ => exact absurd (show false = true from hs) Bool.false_ne_true
  | str i =>
    obtain ⟨t, rfl⟩ := rx
    cases y with
    | non => cases ry; exact PySem.EqNone.eq_str_none (fin_bl I q (by simp))
    | bl j => cases ry; exact PySem.EqMixed.eq_str_bool (fin_bl I q (by simp))
    | int j => obtain ⟨t', rfl⟩ := ry; exact PySem.EqMixed.eq_str_int (fin_bl I q (by simp))
    | str j => obtain ⟨t', rfl⟩ := ry; exact eq_str (fin_bl I q dec_str)
    | _ => exact absurd (show false = true from hs) Bool.false_ne_true
  | byt i =>
    obtain ⟨t, rfl⟩ := rx
    cases y with
    | byt j => obtain ⟨t', rfl⟩ := ry; exact PySem.W.eq_bytes (fin_bl I q dec_byt)
    | _ => exact absurd (show false = true from hs) Bool.false_ne_true
  | _ => cases y <;> exact absurd (show false = true from hs) Bool.false_ne_true
theorem op_ne : OpR X (compareOp .NotEq) rNe := by
  intro pins s σ H x y v u Q I rx ry h
  obtain ⟨hs, q⟩ := h
  cases x with
  | non =>
    cases rx
    cases y with
    | non => cases ry; exact PySem.EqNone.ne_none_none (fin_bl I q (by simp))
    | bl j => cases ry; exact PySem.EqNone.ne_none_bool (fin_bl I q (by simp))
    | int j => obtain ⟨t', rfl⟩ := ry; exact PySem.EqNone.ne_none_int (fin_bl I q (by simp))
    | str j => obtain ⟨t', rfl⟩ := ry; exact PySem.EqNone.ne_none_str (fin_bl I q (by simp))
    | _ => exact absurd (show false = true from hs) Bool.false_ne_true
  | bl i =>
    cases rx
    cases y with
    | non => cases ry; exact PySem.EqNone.ne_bool_none (fin_bl I q (by simp))
    | bl j => cases ry; exact ne_bool (fin_bl I q (congrArg not dec_bl))
    | str j => obtain ⟨t', rfl⟩ := ry; exact PySem.EqMixed.ne_bool_str (fin_bl I q (by simp))
    | _ => exact absurd (show false = true from hs) Bool.false_ne_true
  | int i =>
    obtain ⟨t, rfl⟩ := rx
    cases y with
    | non => cases ry; exact PySem.EqNone.ne_int_none (fin_bl I q (by simp))
    | int j => obtain ⟨t', rfl⟩ := ry; exact ne_int (fin_bl I q (congrArg not dec_int))
    | str j => obtain ⟨t', rfl⟩ := ry; exact PySem.EqMixed.ne_int_str (fin_bl I q (by simp))
    | _ => exact absurd (show false = true from hs) Bool.false_ne_true
  | str i =>
    obtain ⟨t, rfl⟩ := rx
    cases y with
    | non => cases ry; exact PySem.EqNone.ne_str_none (fin_bl I q (by simp))
    | bl j => cases ry; exact PySem.EqMixed.ne_str_bool (fin_bl I q (by simp))
    | int j => obtain ⟨t', rfl⟩ := ry; exact PySem.EqMixed.ne_str_int (fin_bl I q (by simp))
    | str j => obtain ⟨t', rfl⟩ := ry; exact ne_str (fin_bl I q (congrArg not dec_str))
    | _ => exact absurd (show false = true from hs) Bool.false_ne_true
  | byt i =>
    obtain ⟨t, rfl⟩ := rx
    cases y with
    | byt j => obtain ⟨t', rfl⟩ := ry; exact PySem.W.ne_bytes (fin_bl I q (congrArg not dec_byt))
    | _ => exact absurd (show false = true from hs) Bool.false_ne_true
  | _ => cases y <;> exact absurd (show false = true from hs) Bool.false_ne_true
theorem op_lt : OpR X (compareOp .Lt) (rI0 fun i j => .bl (decide (i < j))) := opB0 fun _ _ _ _ _ _ _ q => lt_int q
theorem op_gt : OpR X (compareOp .Gt) (rI0 fun i j => .bl (decide (j < i))) := opB0 fun _ _ _ _ _ _ _ q => gt_int q
theorem op_isN : OpR X (compareOp .Is) (fun x y H Q => y = .non ∧ Q (.bl (decide (x = .non))) H) := by
  intro pins s σ H x y v u Q I rx ry h
  obtain ⟨rfl, q⟩ := h
  cases ry
  refine is_none_gen (fin_bl I q ?_)
  cases x <;> first
    | (cases rx; rfl)
    | (obtain ⟨t, rfl⟩ := rx; rfl)
theorem op_notN : OpR X (compareOp .IsNot) (fun x y H Q => y = .non ∧ Q (.bl (!decide (x = .non))) H) := by
  intro pins s σ H x y v u Q I rx ry h
  obtain ⟨rfl, q⟩ := h
  cases ry
  refine isnot_none_gen (fin_bl I q ?_)
  cases x <;> first
    | (cases rx; rfl)
    | (obtain ⟨t, rfl⟩ := rx; rfl)
theorem OpR.or {f : Value → Value → Sem Value} {r r' : R2} (h : OpR X f r) (h' : OpR X f r') : OpR X f (fun x y H Q => r x y H Q ∨ r' x y H Q) := by
  intro pins s σ H x y v u Q I rx ry q
  rcases q with q | q
  · exact h pins s σ H x y v u Q I rx ry q
  · exact h' pins s σ H x y v u Q I rx ry q
theorem nomark (b : Expr) {op : CmpOp} (h : op ≠ .In := by decide) (h2 : op ≠ .NotIn := by decide) : behindInMarks op b = false := by
  have e1 : (op == CmpOp.In) = false := by cases op <;> first | rfl | exact absurd rfl h
  have e2 : (op == CmpOp.NotIn) = false := by cases op <;> first | rfl | exact absurd rfl h2
  cases b <;> simp [behindInMarks, e1, e2]
theorem pe_cmpR {op : CmpOp} {r : R2} (ho : OpR X (compareOp op) r) (ha : PE X a ta) (hb : PE X b tb) (hm : behindInMarks op b = false) : PE X (.Compare a [op] [b] pos) (tOp r ta tb) := by
  intro pins s σ H Q I h
  exact wpAny_Compare1 (binT ha hb I h fun v u s2 x y H2 I2 rx ry q => ho pins s2 σ H2 x y v u Q I2 rx ry q) hm
def tTest (t : TE) : TT := fun σ H Q => t σ H fun x H' => ∃ k, x = .bl k ∧ Q k H'
theorem pt_cmpR {op : CmpOp} {r : R2} (ho : OpR X (compareOp op) r) (ha : PE X a ta) (hb : PE X b tb) (hm : behindInMarks op b = false) : PT X (.Compare a [op] [b] pos) (tTest (tOp r ta tb)) := by
  intro pins s σ H Q I h
  refine wpAny_isTrue_Compare1 (thn (ha pins s σ H _ I h) fun v s1 ⟨x, H1, I1, r1, q1⟩ => thn (hb pins s1 σ H1 _ I1 q1) fun u s2 ⟨y, H2, I2, r2, q2⟩ =>
    thn (ho pins s2 σ H2 x y v u _ I2 r1 r2 q2) fun c s3 ⟨z, H3, I3, r3, k, e, q3⟩ => ?_) hm
  subst e
  cases r3
  exact wpAny_truthy_bool ⟨H3, I3, q3⟩
def tChain (r r' : R2) (ta tb tc : TE) : TE := fun σ H Q => ta σ H fun x H1 => tb σ H1 fun y H2 => r x y H2 fun z H3 => ∃ k, z = .bl k ∧
  (if k = true then tc σ H3 fun w' H4 => r' y w' H4 Q else Q (.bl false) H3)
theorem pe_chain {op op' : CmpOp} {r r' : R2} (ho : OpR X (compareOp op) r) (ho' : OpR X (compareOp op') r') (ha : PE X a ta) (hb : PE X b tb) (hc : PE X c tc)
    (hm : lastMarks [op, op'] [b, c] = false := by with_unfolding_all rfl) : PE X (.Compare a [op, op'] [b, c] pos) (tChain r r' ta tb tc) := by
  intro pins s σ H Q I h
  refine Compare_chain (thn (ha pins s σ H _ I h) fun v s1 ⟨x, H1, I1, r1, q1⟩ => chain_link (thn (hb pins s1 σ H1 _ I1 q1) fun u s2 ⟨y, H2, I2, r2, q2⟩ =>
    thn (ho pins s2 σ H2 x y v u _ I2 r1 r2 q2) fun d s3 ⟨z, H3, I3, r3, k, e, q3⟩ => ?_)) hm
  subst e
  cases r3
  refine wpAny_truthy_bool ?_
  cases k with
  | false => exact ite_ff ⟨.bl false, H3, I3, rfl, q3⟩
  | true => exact ite_tt (chain_last (thn (hc pins s3 σ H3 _ I3 q3) fun w' s4 ⟨z', H4, I4, r4, q4⟩ => ho' pins s4 σ H4 y z' u w' Q I4 r2 r4 q4))
theorem line63 : (sizeLine : Nat) < 2 ^ 63 := by rw [sizeLine_eq]; decide
theorem op_add_str : OpR X (binaryOp .Add) (fun x y H Q => ∃ i j, x = .str i ∧ y = .str j ∧ i.length + j.length ≤ sizeLine ∧ Q (.str (i ++ j)) H) := by
  intro pins s σ H x y v u Q I rx ry h
  obtain ⟨i, j, rfl, rfl, hz, q⟩ := h
  obtain ⟨t, rfl⟩ := rx
  obtain ⟨t', rfl⟩ := ry
  exact add_str (fun t' tk => ⟨.str (i ++ j), H, I.tok _, ⟨_, rfl⟩, q⟩) hz
theorem vals1 {x : V} {us : List Value} (r : Vals [x] us) : ∃ u, us = [u] ∧ RelV x u := by
  cases r with
  | cons r1 r2 => cases r2; exact ⟨_, rfl, r1⟩
end
end L2
namespace L2
open PySem PySem.Spec PyProof.Rows
structure ObjM (h : Heap) (x dx C : Addr) (mA : Str → Option Value) : Prop where
  obj : h.get? x = some (PySem.W.instObj C dx)
  ns : h.Ns1 dx mA
  ne : dx ≠ x
theorem lookIn_ns {h : Heap} {dx : Addr} {mA : Str → Option Value} (n : h.Ns1 dx mA) : ∃ od, h.get? dx = some od ∧ ∀ name, PySem.W.lookIn name od = some (mA name) := by
  obtain ⟨o, es, ep, ho, hd, hk, _, hm⟩ := n
  refine ⟨o, ho, fun name => ?_⟩
  have e := hm name
  unfold nsFind findBy at e
  rw [← Array.find?_toList] at e
  unfold PySem.W.lookIn
  rw [hd]
  dsimp only
  split
  · rename_i y q
    rw [q] at e
    exact congrArg some e
  · rename_i q
    rw [q] at e
    have a : es.toList.any (·.refKey) = false := by
      rw [List.any_eq_false]
      intro y hy
      obtain ⟨z, t, hkey⟩ := hk y (Array.mem_toList_iff.mp hy)
      simp [DictEntry.refKey, hkey]
    have a' : ¬ es.toList.any (·.refKey) = true := by rw [a]; exact Bool.false_ne_true
    rw [if_neg a']
    exact congrArg some e
theorem ObjM.look {h : Heap} {x dx C : Addr} {mA : Str → Option Value} (I : ObjM h x dx C mA) : ∃ od, PySem.W.InstAt h x (PySem.W.instObj C dx) C (some od) ∧ ∀ name, PySem.W.lookIn name od = some (mA name) :=
  let ⟨od, ho, hl⟩ := lookIn_ns I.ns
  ⟨od, ⟨I.obj, rfl, rfl, ho⟩, hl⟩
section
variable {prog : Program} {w : World} {A : Around} {E : Value → Shared → Prop} {s : Shared} {K : PySem.W.Frag} {x dx C f : Addr} {mA : Str → Option Value} {name : Str} {v : Value}
theorem get_map {expr : Bool} {Q : Value → Shared → Prop} (X : K.In s.heap) (I : ObjM s.heap x dx C mA) (hg : PySem.W.plainGet K C name = true) (hh : PySem.W.hasDictIn K C = true)
    (ha : PySem.W.findIn K (.ref C) name = some none) (hv : mA name = some v) (hv' : PySem.W.handedIn v = true) (h : Q v { s with toks := s.toks + 1 }) :
    wpAny (model prog w) A (getAttr (.ref x) name expr) Q E s := by
  obtain ⟨od, J, hl⟩ := I.look
  exact PySem.W.get_value X J (PySem.W.plainGet_of hg).1 (PySem.W.findObj_own hh ha rfl (by rw [hl, hv])) hv' h
theorem get_meth {pl : Sem Bool} {Q : Value × List Value → Shared → Prop} (X : K.In s.heap) (I : ObjM s.heap x dx C mA) (hg : PySem.W.plainGet K C name = true)
    (hf : PySem.W.findIn K (.ref C) name = some (some (.ref f))) (ht : PySem.W.isFn K (.ref f) = true) (hv : mA name = none) (h : Q (.ref f, [.ref x]) s) :
    wpAny (model prog w) A (getMethod (.ref x) name pl) Q E s := by
  obtain ⟨od, J, hl⟩ := I.look
  exact PySem.W.method_fn X J (PySem.W.plainGet_of hg).1 (PySem.W.plainGet_of hg).2 hf (beq_iff_eq.mp ht) (by show (PySem.W.lookIn name od).map (·.isSome) = some false; rw [hl, hv]; rfl) h
theorem set_map {ns : List Str} {Q : Unit → Shared → Prop} (X : K.In s.heap) (I : ObjM s.heap x dx C mA)
    (hs : PySem.W.findIn K (.ref C) "__setattr__" = some (some (.builtin "object.__setattr__"))) (hp : PySem.W.plainOver K C = true) (ht : PySem.W.takerIn K C name = some none) (hh : PySem.W.hasDictIn K C = true)
    (hw : PySem.Within mA ns) (hsz : ns.length ≤ sizeLine)
    (h : ∀ h', ObjM h' x dx C (fun y => if y = name then some v else mA y) → Heap.SameBut dx s.heap h' → Q () { s with heap := h', toks := s.toks + 2 }) :
    wpAny (model prog w) A (setAttr (.ref x) name v) Q E s := by
  obtain ⟨od, J, hl⟩ := I.look
  refine PySem.W.set_plain X J hs (PySem.W.osa_open (s := { s with toks := s.toks + 1 }) (r := none) X J hp ht fun b => ?_)
  obtain ⟨cd, hc, hd'⟩ := PySem.W.any_some hh
  have hx : s.heap.get? x = some ⟨.ref C, some dx, .plain, #[]⟩ := I.obj
  refine wpAny_bind (wpAny_pure (wpAny_bind (wpAny_bind (wpAny_loadPart hx (wpAny_bind (PySem.W.Looks.here (s := { s with toks := s.toks + 1 }) (PySem.W.looks_clsIn X hc) ?_))))))
  rw [hd']
  refine wpAny_pure (a := some dx) (wpAny_bind (wpAny_pure (wpAny_bind ?_)))
  refine wpAny_nsSet1 (s := { s with toks := s.toks + 1 }) I.ns fun h' hn2 hs2 => ?_
  obtain ⟨oD, esD, epD, hoD, hdD, hcD⟩ := hn2.count (PySem.Within.cons name v hw)
  refine wpAny_bind (wpAny_lookBehind hoD (by rw [hdD]; exact pastItsLine_dict (Nat.le_trans hcD (by rw [List.length_cons]; omega))) ?_)
  exact wpAny_pure (h _ ⟨(hs2.2 _ (Ne.symm I.ne)).trans I.obj, hn2, I.ne⟩ hs2)
theorem make_map {R : Result → Shared → Prop} {vs : List Value} {kw : List (Str × Value)} (X : K.In s.heap) (hm : PySem.W.makesIn K C = true)
    (hi : PySem.W.findIn K (.ref C) "__init__" = some (some (.ref f))) (hf : PySem.W.typeIn K (.ref f) = some (.type "function"))
    (h : codeAny (model prog w) (A.under (.builtin "type.__call__" ⟨.ref C :: vs, kw⟩)) (.call (.ref f) ⟨.ref (s.heap.objs.size + 1) :: vs, kw⟩) (PySem.W.InitBack (s.heap.objs.size + 1) R)
      { s with heap := (s.heap.push PySem.W.emptyDict).push (PySem.W.instObj C s.heap.objs.size) }) :
    codeAny (model prog w) A (.call (.ref C) ⟨vs, kw⟩) R s := by
  obtain ⟨hh, g, d, t, os⟩ := s
  exact PySem.W.make_core (PySem.W.makes_of X hm) (PySem.W.looks_findIn X hi) (fun self => PySem.W.bind_fn X self hf) (.inl rfl) h
end
def putF (f : Str) (v : V) : List (Str × V) → List (Str × V)
  | [] => [(f, v)]
  | (g, x) :: r => if g = f then (g, v) :: r else (g, x) :: putF f v r
theorem lookup_putF (f g : Str) (v : V) : ∀ fs : List (Str × V), (putF f v fs).lookup g = if g = f then some v else fs.lookup g
  | [] => by
    show List.lookup g [(f, v)] = _
    by_cases h : g = f
    · have hb : (g == f) = true := beq_iff_eq.mpr h
      simp only [List.lookup, hb, if_pos h]
    · have hb : (g == f) = false := beq_eq_false_iff_ne.mpr h
      simp only [List.lookup, hb, if_neg h]
  | (k, x) :: r => by
    have ih := lookup_putF f g v r
    rw [show putF f v ((k, x) :: r) = (if k = f then (k, v) :: r else (k, x) :: putF f v r) from rfl]
    by_cases hk : k = f
    · rw [if_pos hk]
      by_cases h : g = k
      · have hb : (g == k) = true := beq_iff_eq.mpr h
        simp only [List.lookup, hb, if_pos (h.trans hk)]
      · have hb : (g == k) = false := beq_eq_false_iff_ne.mpr h
        simp only [List.lookup, hb, if_neg (fun e : g = f => h (e.trans hk.symm))]
    · rw [if_neg hk]
      by_cases h : g = k
      · have hb : (g == k) = true := beq_iff_eq.mpr h
        simp only [List.lookup, hb, if_neg (fun e : g = f => hk (h.symm.trans e))]
      · have hb : (g == k) = false := beq_eq_false_iff_ne.mpr h
        simp only [List.lookup, hb]
        exact ih
theorem keys_putF (f : Str) (v : V) : ∀ fs : List (Str × V), f ∈ (putF f v fs).map (·.1) ∧ ∀ g, g ∈ fs.map (·.1) → g ∈ (putF f v fs).map (·.1)
  | [] => ⟨by simp [putF], fun g h => by simp at h⟩
  | (k, x) :: r => by
    obtain ⟨i1, i2⟩ := keys_putF f v r
    rw [show putF f v ((k, x) :: r) = (if k = f then (k, v) :: r else (k, x) :: putF f v r) from rfl]
    by_cases hk : k = f
    · rw [if_pos hk]
      subst hk
      exact ⟨by simp, fun g h => by simpa using h⟩
    · rw [if_neg hk]
      refine ⟨?_, fun g h => ?_⟩
      · rw [List.map_cons]
        exact List.mem_cons_of_mem _ i1
      · rw [List.map_cons] at h ⊢
        rcases List.mem_cons.mp h with e | e
        · exact List.mem_cons.mpr (.inl e)
        · exact List.mem_cons_of_mem _ (i2 g e)
theorem length_putF (f : Str) (v : V) : ∀ fs : List (Str × V), (putF f v fs).length ≤ fs.length + 1
  | [] => by simp [putF]
  | (k, x) :: r => by
    have ih := length_putF f v r
    rw [show putF f v ((k, x) :: r) = (if k = f then (k, v) :: r else (k, x) :: putF f v r) from rfl]
    by_cases hk : k = f
    · rw [if_pos hk, List.length_cons, List.length_cons]; omega
    · rw [if_neg hk, List.length_cons, List.length_cons]; omega
theorem RelO.some_of {v : V} {o : Option Value} (r : RelO (some v) o) : ∃ u, o = some u ∧ RelV v u := by
  cases o with
  | none => exact (show False from r).elim
  | some u => exact ⟨u, rfl, r⟩
theorem RelO.none_of {o : Option Value} (r : RelO none o) : o = none := by
  cases o with
  | none => rfl
  | some u => exact (show False from r).elim
theorem handed_of {v : V} {u : Value} (r : RelV v u) : PySem.W.handedIn u = true := by
  cases v with
  | non => cases (show u = Value.none from r); rfl
  | bl b => cases (show u = Value.bool b from r); rfl
  | int i => obtain ⟨t, e⟩ := (show ∃ t, u = Value.int i t from r); cases e; rfl
  | str x => obtain ⟨t, e⟩ := (show ∃ t, u = Value.str x t from r); cases e; rfl
  | byt b => obtain ⟨t, e⟩ := (show ∃ t, u = Value.bytes b t from r); cases e; rfl
  | flt b => obtain ⟨t, e⟩ := (show ∃ t, u = Value.float b t from r); cases e; rfl
  | ref a => cases (show u = Value.ref a from r); rfl
  | ty n => cases (show u = Value.type n from r); rfl
section
variable {P : Program} {w : World} {H H' : Hp} {h h' : Heap} {a C dx : Addr} {fs fs' : List (Str × V)}
theorem ins_get (hok : HOk P w H h) (e : H a = some (.ins C dx fs)) : ∃ mA, ObjM h a dx C mA ∧ (∀ f, RelO (fs.lookup f) (mA f)) ∧ PySem.Within mA (fs.map (·.1)) ∧ fs.length ≤ 1000 ∧ H dx = some (.own a) := by
  obtain ⟨d, z, ne, ob, mA, n, r, q⟩ := (show ObjOk P w H h a (.ins C dx fs) from hok a _ e)
  exact ⟨mA, ⟨ob, n, ne⟩, r, q, z, d⟩
end
structure Cls (K : PySem.W.Frag) (C : Addr) : Prop where
  pg : PySem.W.plainGet K C Str.empty = true
  hd : PySem.W.hasDictIn K C = true
  po : PySem.W.plainOver K C = true
  sa : PySem.W.findIn K (.ref C) "__setattr__" = some (some (.builtin "object.__setattr__"))
theorem Cls.get {K : PySem.W.Frag} {C : Addr} (c : Cls K C) (f : Str) : PySem.W.plainGet K C f = true := c.pg
def NoAttr (K : PySem.W.Frag) (C : Addr) (f : Str) : Prop := PySem.W.findIn K (.ref C) f = some none
theorem NoAttr.taker {K : PySem.W.Frag} {C : Addr} {f : Str} (n : NoAttr K C f) : PySem.W.takerIn K C f = some none := by
  unfold PySem.W.takerIn
  rw [show PySem.W.findIn K (.ref C) f = some none from n]
  rfl
structure Con (K : PySem.W.Frag) (C : Addr) (f : Str) (v : V) (u : Value) : Prop where
  at_ : PySem.W.findIn K (.ref C) f = some (some u)
  rel : RelV v u
  get : PySem.W.specialIn K u "__get__" = some none
  cp : PySem.W.copiedNames.contains f = false
structure Meth (K : PySem.W.Frag) (C : Addr) (m : Str) (f : Addr) : Prop where
  at_ : PySem.W.findIn K (.ref C) m = some (some (.ref f))
  fn : PySem.W.isFn K (.ref f) = true
  kp : PySem.W.keepIn K (.ref f) = true
section
variable {X : Cx} {pins : List (Addr × Obj)} {σ : St} {H : Hp} {s : Shared} {a C dx : Addr} {fs : List (Str × V)} {f : Str} {v : V} {A : Around} {E : Value → Shared → Prop}
theorem getattr_ok {b : Bool} {Q : Value → Shared → Prop} (I : Inv X pins σ H s) (e : H a = some (.ins C dx fs)) (c : Cls X.K C) (n : NoAttr X.K C f) (l : fs.lookup f = some v)
    (h : ∀ u s', Inv X pins σ H s' → RelV v u → Q u s') : wpAny (model X.prog X.w) A (getAttr (.ref a) f b) Q E s := by
  obtain ⟨mA, O, r, _, _, _⟩ := ins_get I.hok e
  obtain ⟨u, hu, ru⟩ := RelO.some_of (v := v) (o := mA f) (by rw [← l]; exact r f)
  exact get_map I.kIn O (c.get f) c.hd n hu (handed_of ru) (h u _ (I.tok _) ru)
theorem getmeth_ok {m : Str} {g : Addr} {pl : Sem Bool} {Q : Value × List Value → Shared → Prop} (I : Inv X pins σ H s) (e : H a = some (.ins C dx fs)) (c : Cls X.K C) (k : Meth X.K C m g) (l : fs.lookup m = none)
    (h : Q (.ref g, [.ref a]) s) : wpAny (model X.prog X.w) A (getMethod (.ref a) m pl) Q E s := by
  obtain ⟨mA, O, r, _, _, _⟩ := ins_get I.hok e
  have hn : mA m = none := RelO.none_of (by rw [← l]; exact r m)
  exact get_meth I.kIn O (c.get m) k.at_ k.fn hn h
theorem setattr_ok {y : V} {u : Value} {Q : Unit → Shared → Prop} (I : Inv X pins σ H s) (e : H a = some (.ins C dx fs)) (c : Cls X.K C) (n : NoAttr X.K C f) (hl : fs.length < 1000) (ry : RelV y u)
    (h : ∀ s', Inv X pins σ (upd H a (.ins C dx (putF f y fs))) s' → Q () s') : wpAny (model X.prog X.w) A (setAttr (.ref a) f u) Q E s := by
  obtain ⟨mA, O, r, wi, _, ho⟩ := ins_get I.hok e
  have hz : (fs.map (·.1)).length ≤ sizeLine := by rw [List.length_map, sizeLine_eq]; omega
  refine set_map I.kIn O c.sa c.po n.taker c.hd wi hz fun h' O' sb => h _ ?_
  have hd : ∃ o, h'.get? dx = some o := let ⟨o, _, _, e', _⟩ := O'.ns; ⟨o, e'⟩
  refine I.write (x := a) (e := dx) (by rw [e]; exact True.intro) (.inr ho) (fun b q hb z => (sb.2 b hb).trans z) hd ?_
  refine ⟨by rw [upd_ne O.ne]; exact ho, ?_, O.ne, O'.obj, _, O'.ns, fun g => ?_, fun g hg => ?_⟩
  · have := length_putF f y fs; omega
  · show RelO ((putF f y fs).lookup g) (if g = f then some u else mA g)
    rw [lookup_putF]
    by_cases q : g = f
    · rw [if_pos q, if_pos q]; exact ry
    · rw [if_neg q, if_neg q]; exact r g
  · by_cases q : g = f
    · rw [q]; exact (keys_putF f y fs).1
    · refine (keys_putF f y fs).2 g (wi g fun z => hg ?_)
      show (if g = f then some u else mA g) = none
      rw [if_neg q]; exact z
theorem Inv.made (I : Inv X pins σ H s) : Inv X pins σ (upd (upd H s.heap.objs.size (.own (s.heap.objs.size + 1))) (s.heap.objs.size + 1) (.ins C s.heap.objs.size []))
    { s with heap := (s.heap.push PySem.W.emptyDict).push (PySem.W.instObj C s.heap.objs.size) } := by
  have e1 : (s.heap.push PySem.W.emptyDict).get? s.heap.objs.size = some PySem.W.emptyDict := Heap.get?_push_size s.heap rfl
  have e2 : ((s.heap.push PySem.W.emptyDict).push (PySem.W.instObj C s.heap.objs.size)).get? (s.heap.objs.size + 1) = some (PySem.W.instObj C s.heap.objs.size) := by
    have := Heap.get?_push_size (s.heap.push PySem.W.emptyDict) (o := PySem.W.instObj C s.heap.objs.size) rfl
    rwa [Heap.size_push] at this
  have e3 : (s.heap.push PySem.W.emptyDict).Ns s.heap.objs.size (fun _ => none) := ⟨PySem.W.emptyDict, #[], _, e1, rfl, (fun e he => absurd he (by simp)), fun _ => rfl⟩
  have I1 := I.laid (a := s.heap.objs.size) (o := .own (s.heap.objs.size + 1)) (h' := s.heap.push PySem.W.emptyDict) (t' := s.toks) (fun b u q => Heap.get?_push_of_some _ q) (Nat.le_refl _) ⟨_, e1⟩
  refine I1.laid (a := s.heap.objs.size + 1) (o := .ins C s.heap.objs.size []) (t' := s.toks) (fun b u q => Heap.get?_push_of_some _ q) (Nat.le_of_eq (Heap.size_push _ _)) ?_
  have ne : s.heap.objs.size ≠ s.heap.objs.size + 1 := Nat.ne_of_lt (Nat.lt_succ_self _)
  refine ⟨by rw [upd_ne ne, upd_same], Nat.zero_le _, ne, e2, fun _ => none, (Heap.Ns1.of_empty e3).at fun o q => Heap.get?_push_of_some _ q, fun _ => True.intro, fun y hy => absurd rfl hy⟩
theorem attr_of {prog : Program} {w : World} {env : Env} {e : Expr} {f : Str} {pos : Pos} {s : Shared} {Q : Value → Shared → Prop} (hb : attributeBase e f env (eval e env) = eval e env)
    (h : wpAny (model prog w) A (eval e env) (fun o s₁ => wpAny (model prog w) A (getAttr o f true) Q E s₁) E s) : wpAny (model prog w) A (eval (.Attribute e f pos) env) Q E s :=
  Attribute_any_ h (by rw [arm_eval_Attribute, hb])
end
def tFld (K : PySem.W.Frag) (ta : TE) (f : Str) : TE := fun σ H Q => ta σ H fun x H1 => ∃ a C dx fs v, x = .ref a ∧ H1 a = some (.ins C dx fs) ∧ Cls K C ∧ NoAttr K C f ∧ fs.lookup f = some v ∧ Q v H1
def sFld (K : PySem.W.Frag) (ta tv : TE) (f : Str) : TS := fun D σ H => tv σ H fun y H1 => ta σ H1 fun x H2 => ∃ a C dx fs, x = .ref a ∧ H2 a = some (.ins C dx fs) ∧ Cls K C ∧ NoAttr K C f ∧ fs.length < 1000 ∧
  D.nx σ (upd H2 a (.ins C dx (putF f y fs)))
section
variable {X : Cx} {o e value : Expr} {f : Str} {pos pos' tpos : Pos} {ta tv : TE}
theorem pe_fld (he : PE X e ta) (hb : attributeBase e f X.env (eval e X.env) = eval e X.env) : PE X (.Attribute e f pos) (tFld X.K ta f) := by
  intro pins s σ H Q I h
  refine attr_of hb (thn (he pins s σ H _ I h) fun u s1 ⟨x, H1, I1, rx, a, C, dx, fs, v, ex, ea, c, n, l, q⟩ => ?_)
  subst ex
  obtain rfl : u = Value.ref a := rx
  exact getattr_ok I1 ea c n l fun u' s2 I2 ru => ⟨v, H1, I2, ru, q⟩
theorem ps_fld (ha : PE X o ta) (hv : PE X value tv) (hs : swapsWith value (some (.Attribute o f pos')) pos.line X.env = pure false) : PS X (.Assign [.Attribute o f pos'] value pos) (sFld X.K ta tv f) := by
  intro pins s σ H D I h
  refine plainObj_wpAny_Assign_Attribute (thn (hv pins s σ H _ I h) fun u s1 ⟨y, H1, I1, ry, q⟩ => thn (ha pins s1 σ H1 _ I1 q) fun ov s2 ⟨x, H2, I2, rx, a, C, dx, fs, ex, ea, c, n, l, q2⟩ => ?_) hs
  subst ex
  obtain rfl : ov = Value.ref a := rx
  exact setattr_ok I2 ea c n l ry fun s3 I3 => ⟨σ, _, I3, q2⟩
end
section
variable {X : Cx} {pins : List (Addr × Obj)} {σ : St} {H : Hp} {s : Shared} {A : Around} {E : Value → Shared → Prop} {Q : Value → Shared → Prop} {c : Value} {b : Bool}
inductive TyOf (K : PySem.W.Frag) (H : Hp) : V → Value → Prop where
  | non : TyOf K H .non (.type "NoneType")
  | bl (x : Bool) : TyOf K H (.bl x) (.type "bool")
  | int (i : Int) : TyOf K H (.int i) (.type "int")
  | str (x : Str) : TyOf K H (.str x) (.type "str")
  | flt (x : UInt64) : TyOf K H (.flt x) (.type "float")
  | lst {a : Addr} {xs : List V} (e : H a = some (.lst xs)) : TyOf K H (.ref a) (.type "list")
  | frz {a : Addr} {o : Obj} {xs : List V} (e : H a = some (.frz o (.lst xs))) : TyOf K H (.ref a) (.type "list")
  | tup {a : Addr} {xs : List V} (e : H a = some (.tup xs)) : TyOf K H (.ref a) (.type "tuple")
  | dK {a : Addr} {kvs : List (Key × V)} (e : H a = some (.dK kvs)) : TyOf K H (.ref a) (.type "dict")
  | dT {a : Addr} {kvs : List (List Key × V)} (e : H a = some (.dT kvs)) : TyOf K H (.ref a) (.type "dict")
  | ins {a C dx : Addr} {fs : List (Str × V)} (e : H a = some (.ins C dx fs)) (cl : Cls K C) (ha : PySem.W.findIn K (.ref C) "__class__" = some (some (.builtin "object.__class__")))
      (hn : PySem.W.specialIn K (.builtin "object.__class__") "__get__" = some (some (.builtin "getset_descriptor.__get__"))) (htk : PySem.W.takesIn K (.builtin "object.__class__") = some true)
      (hm : PySem.W.mroIn K C (.type "object") = some true) : TyOf K H (.ref a) (.ref C)
end
end L2
namespace L2
open PySem PySem.Spec PyProof.Rows
structure Room (k : Nat) (A : Around) : Prop where
  hd : A.handled = none
  dp : A.depth + 3 * k + 5 < recursionLimit
  un : A.units + 16 * k + 200 < cLine
theorem Room.mono {j k : Nat} {A : Around} (r : Room k A) (h : j ≤ k) : Room j A := ⟨r.hd, by have := r.dp; omega, by have := r.un; omega⟩
theorem Room.deeper {k : Nat} {A : Around} (r : Room (k + 1) A) (env : Env) : Room k (A.deeper env) :=
  ⟨r.hd, by have := r.dp; show A.depth + 1 + 3 * k + 5 < _; omega, by have := r.un; show A.units + 3 + 16 * k + 200 < _; omega⟩
theorem Room.in1 {k : Nat} {A : Around} (r : Room (k + 1) A) : Room k A.in1 :=
  ⟨r.hd, by have := r.dp; show A.depth + 3 * k + 5 < _; omega, by have := r.un; show A.units + 1 + 16 * k + 200 < _; omega⟩
theorem make_depth {A : Around} {C : Addr} {us : List Value} {kw : List (Str × Value)} : (A.under (.builtin "type.__call__" ⟨.ref C :: us, kw⟩)).depth = A.depth + 1 := by
  first | rfl | simp [Around.under, Code.weight, Code.isCreation, Code.isGuard, Code.isCaller, Code.frames, Code.isFrame, guardIds]
theorem make_units {A : Around} {C : Addr} {us : List Value} {kw : List (Str × Value)} : (A.under (.builtin "type.__call__" ⟨.ref C :: us, kw⟩)).units = A.units + 1 := by
  first | rfl | simp [Around.under, Code.cUnits, Code.frames, Code.isFrame]
theorem Room.make {k : Nat} {A : Around} (r : Room (k + 1) A) (C : Addr) (us : List Value) (kw : List (Str × Value)) : Room k (A.under (.builtin "type.__call__" ⟨.ref C :: us, kw⟩)) :=
  ⟨r.hd, by have := r.dp; rw [make_depth]; omega, by have := r.un; rw [make_units]; omega⟩
theorem Room.depth {k : Nat} {A : Around} (r : Room k A) : A.depth < recursionLimit := by have := r.dp; omega
theorem Room.units {k : Nat} {A : Around} (r : Room k A) : A.units + 64 < cLine := by have := r.un; omega
def tNil : TA := fun _ H Q => Q [] H
def tCons (ta : TE) (tr : TA) : TA := fun σ H Q => ta σ H fun x H1 => tr σ H1 fun xs H2 => Q (x :: xs) H2
section
variable {X : Cx} {e : Expr} {es : List Expr} {te : TE} {t : TA} {pos : Pos}
theorem pa_nil : PA X [] tNil := fun _ _ _ _ H Q I h => Calls.spliced_nil ⟨[], H, I, .nil, h⟩
theorem pa_cons (ha : PE X e te) (hr : PA X es t) (hs : starEach (e :: es) X.env = (false, eval e X.env) :: starEach es X.env := by rfl) : PA X (e :: es) (tCons te t) := by
  intro pos pins s σ H Q I h
  rw [hs]
  show wpAny _ _ (spliced ((false, eval e X.env) :: backTo pos (starEach es X.env))) _ _ s
  refine Calls.spliced_cons (thn (ha pins s σ H _ I h) fun u s1 ⟨x, H1, I1, r1, q1⟩ => ?_)
  exact thn (hr pos pins s1 σ H1 _ I1 q1) fun us s2 ⟨xs, H2, I2, r2, q2⟩ => ⟨x :: xs, H2, I2, .cons r1 r2, q2⟩
end
abbrev Sp := List V → Hp → VK → XK → Prop
abbrev CXT := List Env → Hp → Shared → XK → Value → Shared → Prop
structure Env0 (P : Program) (w : World) (K : PySem.W.Frag) (mg : Str → Option Value) (base : Heap) (A : Around) (outer : List Env) (s : Shared) (H : Hp) : Prop where
  frames : A.frames = some outer
  mod : Mod K mg base
  bs : ∀ b o, base.get? b = some o → s.heap.get? b = some o ∧ H b = none
  bsz : base.objs.size ≤ s.heap.objs.size
  funs : s.heap.FunFrames base outer
  frf : ∀ b ∈ frs outer, H b = none
  hok : HOk P w H s.heap
  bare : AllBare s.gens
def CE (outer : List Env) (P : Program) (w : World) (H : Hp) (s : Shared) (Q : VK) (u : Value) (s' : Shared) : Prop :=
  ∃ v H', s'.os = s.os ∧ AllBare s'.gens ∧ Un (frs outer) [] H H' s.heap s'.heap ∧ HOk P w H' s'.heap ∧ RelV v u ∧ Q v H'
def CR (CX : CXT) (outer : List Env) (P : Program) (w : World) (H : Hp) (s : Shared) (Q : VK) (E : XK) (r : Result) (s' : Shared) : Prop :=
  match r with
  | .ok (.ret u) => CE outer P w H s Q u s'
  | .ok _ => False
  | .error e => CX outer H s E e s'
structure FnOk (P : Program) (w : World) (K : PySem.W.Frag) (mg : Str → Option Value) (base : Heap) (CX : CXT) (k : Nat) (f : Addr) (fd : FuncData) (ps : List Str) (sp : Sp) : Prop where
  len : ∀ vs H Q E, sp vs H Q E → vs.length = ps.length
  run : ∀ (A : Around) (outer : List Env) (s : Shared) (H : Hp) (args : Args) (us : List Value) (vs : List V) (Q : VK) (E : XK), Room k A → Env0 P w K mg base A outer s H → BindsTo s fd args (ps.zip us) → Vals vs us → sp vs H Q E →
    codeAny (model P w) A (.call (.ref f) args) (CR CX outer P w H s Q E) s
theorem FnOk.mono {P : Program} {w : World} {K : PySem.W.Frag} {mg : Str → Option Value} {base : Heap} {CX : CXT} {j k : Nat} {f : Addr} {fd : FuncData} {ps : List Str} {sp : Sp} (F : FnOk P w K mg base CX j f fd ps sp) (h : j ≤ k) :
    FnOk P w K mg base CX k f fd ps sp := ⟨F.len, fun A outer s H args us vs Q E hr => F.run A outer s H args us vs Q E (hr.mono h)⟩
theorem Env0.make {P : Program} {w : World} {K : PySem.W.Frag} {mg : Str → Option Value} {base : Heap} {A : Around} {outer : List Env} {s : Shared} {H : Hp} (e : Env0 P w K mg base A outer s H) (C : Addr) (us : List Value) (kw : List (Str × Value)) :
    Env0 P w K mg base (A.under (.builtin "type.__call__" ⟨.ref C :: us, kw⟩)) outer s H := ⟨by first | exact e.frames | (simpa [Around.under, Code.envs, Code.isFrame, pushEnvs] using e.frames), e.mod, e.bs, e.bsz, e.funs, e.frf, e.hok, e.bare⟩
theorem Env0.in1 {P : Program} {w : World} {K : PySem.W.Frag} {mg : Str → Option Value} {base : Heap} {A : Around} {outer : List Env} {s : Shared} {H : Hp} (e : Env0 P w K mg base A outer s H) :
    Env0 P w K mg base A.in1 outer s H := ⟨e.frames, e.mod, e.bs, e.bsz, e.funs, e.frf, e.hok, e.bare⟩
section
variable {X : Cx} {pins : List (Addr × Obj)} {σ : St} {H : Hp} {s s' : Shared}
theorem Inv.env0 (I : Inv X pins σ H s) : Env0 X.prog X.w X.K X.mg X.base X.A X.stack s H :=
  ⟨I.ok.frames, I.ok.mod, I.bs, Nat.le_trans I.ok.bsz I.sz, I.stack, I.stkFree, I.hok, I.bare⟩
theorem Inv.after {Q : VK} {u : Value} (I : Inv X pins σ H s) (h : CE X.stack X.prog X.w H s Q u s') : EP X pins σ Q u s' := by
  obtain ⟨v, H', os, bare, un, hok, r, q⟩ := h
  obtain ⟨hh, g, d, t, os'⟩ := s'
  obtain rfl : os' = s.os := os
  exact ⟨v, H', I.call (h' := hh) (g' := g) (d' := d) (t' := t) (ch := []) un hok bare (fun b z => absurd z (by simp)), r, q⟩
end
def tCall (sp : Sp) (dvs : List V) (E : XK) (t : TA) : TE := fun σ H Q => t σ H fun vs H1 => sp (vs ++ dvs) H1 Q E
def tMeth (C : Addr) (m : Str) (sp : Sp) (dvs : List V) (E : XK) (ta : TE) (t : TA) : TE := fun σ H Q => ta σ H fun x H1 => ∃ a dx fs, x = .ref a ∧ H1 a = some (.ins C dx fs) ∧ fs.lookup m = none ∧
  t σ H1 fun vs H2 => sp (x :: (vs ++ dvs)) H2 Q E
def tMake (C : Addr) (sp : Sp) (dvs : List V) (E : XK) (t : TA) : TE := fun σ H Q => t σ H fun vs H1 => ∀ x dx, H1 x = none → H1 dx = none → dx ≠ x →
  sp (.ref x :: (vs ++ dvs)) (upd (upd H1 dx (.own x)) x (.ins C dx [])) (fun v H2 => v = .non ∧ Q (.ref x) H2) E
def Binds (K : PySem.W.Frag) (fd : FuncData) (ps : List Str) (ds : List Value) : Prop :=
  ∀ (s : Shared) (us : List Value), K.In s.heap → (us ++ ds).length = ps.length → BindsTo s fd ⟨us, []⟩ (ps.zip (us ++ ds))
theorem Binds.all {K : PySem.W.Frag} {fd : FuncData} {ps : List Str} (h : ∀ us : List Value, us.length = ps.length → bindArgs fd ⟨us, []⟩ = pure (ps.zip us)) : Binds K fd ps [] := fun s us _ hl => by
  rw [List.append_nil] at hl ⊢
  exact .of_eq (h us hl)
def Passes (CX : CXT) (X : Cx) (E : XK) : Prop := ∀ (pins : List (Addr × Obj)) (σ : St) (H : Hp) (s : Shared) (e : Value) (s' : Shared), Inv X pins σ H s → CX X.stack H s E e s' → X.xe e s'
section
variable {X : Cx} {CX : CXT} {k : Nat} {f C : Addr} {fd : FuncData} {ps : List Str} {sp : Sp} {dvs : List V} {ds : List Value} {E : XK} {x m : Str} {p pos apos : Pos} {e o : Expr} {es : List Expr} {ta : TE} {t : TA}
theorem run_fn {pins : List (Addr × Obj)} {σ : St} {H : Hp} {s : Shared} {Q : VK} {us : List Value} {vs : List V} (F : FnOk X.prog X.w X.K X.mg X.base CX k f fd ps sp) (hr : Room k X.A) (hb : Binds X.K fd ps ds) (hd : Vals dvs ds) (hx : Passes CX X E)
    (I : Inv X pins σ H s) (r : Vals vs us) (h : sp (vs ++ dvs) H Q E) : wpAny (model X.prog X.w) X.A (call (.ref f) us) (EP X pins σ Q) X.xe s := by
  have r2 : Vals (vs ++ dvs) (us ++ ds) := r.append hd
  have hl : (us ++ ds).length = ps.length := by rw [← r2.length]; exact F.len _ _ _ _ h
  refine wpAny_call (codeAny_mono (F.run X.A X.stack s H ⟨us, []⟩ (us ++ ds) (vs ++ dvs) Q E hr I.env0 (hb s us I.kIn hl) r2 h) fun r s' hq => ?_)
  cases r with
  | error e => exact hx pins σ H s e s' I hq
  | ok fl =>
    cases fl with
    | ret u => exact I.after hq
    | next => exact False.elim hq
    | brk => exact False.elim hq
    | cont => exact False.elim hq
theorem pe_call (F : FnOk X.prog X.w X.K X.mg X.base CX k f fd ps sp) (hr : Room k X.A) (hg : Gl X x) (hm : X.mg x = some (.ref f)) (hk : PySem.W.keepIn X.K (.ref f) = true) (hb : Binds X.K fd ps ds) (hd : Vals dvs ds) (hx : Passes CX X E)
    (ha : PA X (e :: es) t) (hdb : (x == ("__debug__" : Str)) = false := by decide) (he : starEach (e :: es) X.env = (false, eval e X.env) :: starEach es X.env := by rfl) (hpl : (backTo pos (starEach es X.env)).any (·.1) = false := by rfl) :
    PE X (.Call (.Name x p) (e :: es) [] pos) (tCall sp dvs E t) := by
  intro pins s σ H Q I h
  refine wpAny_Call_Name_kw (ld_glob I hg hm ?_ hdb)
  refine PySem.W.callWith_K (h₀ := X.base) I.ok.mod.kin hk (thn (ha pos pins s σ H _ I h) fun us s1 ⟨vs, H1, I1, r, q⟩ => ⟨I1.kIn, ?_⟩) he hpl
  exact run_fn F hr hb hd hx I1 r q
theorem pe_meth {pl : Sem Bool} (he : PE X o ta) (c : Cls X.K C) (hm : Meth X.K C m f) (F : FnOk X.prog X.w X.K X.mg X.base CX k f fd ps sp) (hr : Room k X.A) (hb : Binds X.K fd ps ds) (hd : Vals dvs ds) (hx : Passes CX X E) (ha : PA X (e :: es) t)
    (hst : starEach (e :: es) X.env = (false, eval e X.env) :: starEach es X.env := by rfl) (hpl : (backTo pos (starEach es X.env)).any (·.1) = false := by rfl)
    (ht : eval (.Call (.Attribute o m apos) (e :: es) [] pos) X.env = (do
      let ov ← eval o X.env
      standAt apos.atName
      let (f, first) ← holding [ov] (getMethod ov m pl)
      callWith pos f first (backTo pos (starEach (e :: es) X.env)) (backToKw pos (keywordEach [] X.env))) := by rfl) :
    PE X (.Call (.Attribute o m apos) (e :: es) [] pos) (tMeth C m sp dvs E ta t) := by
  intro pins s σ H Q I h
  refine PySem.W.methodCall_KW (pl := pl) (thn (he pins s σ H _ I h) fun u s1 ⟨x, H1, I1, rx, a, dx, fs, ex, ea, l, q⟩ => ?_) ht
  subst ex
  obtain rfl : u = Value.ref a := rx
  refine getmeth_ok I1 ea c hm l ?_
  refine PySem.W.callWith_K (first := [.ref a]) (h₀ := X.base) I.ok.mod.kin hm.kp (thn (ha pos pins s1 σ H1 _ I1 q) fun us s2 ⟨vs, H2, I2, r, q2⟩ => ⟨I2.kIn, ?_⟩) hst hpl
  exact run_fn (us := .ref a :: us) (vs := .ref a :: vs) F hr hb hd hx I2 (.cons rfl r) q2
theorem pe_meth0 {pl : Sem Bool} (he : PE X o ta) (c : Cls X.K C) (hm : Meth X.K C m f) (F : FnOk X.prog X.w X.K X.mg X.base CX k f fd ps sp) (hr : Room k X.A) (hb : Binds X.K fd ps ds) (hd : Vals dvs ds) (hx : Passes CX X E)
    (ht : eval (.Call (.Attribute o m apos) [] [] pos) X.env = (do
      let ov ← eval o X.env
      standAt apos.atName
      let (f, first) ← holding [ov] (getMethod ov m pl)
      callWith pos f first (backTo pos (starEach [] X.env)) (backToKw pos (keywordEach [] X.env))) := by rfl) :
    PE X (.Call (.Attribute o m apos) [] [] pos) (tMeth C m sp dvs E ta tNil) := by
  intro pins s σ H Q I h
  refine PySem.W.methodCall_KW (pl := pl) (thn (he pins s σ H _ I h) fun u s1 ⟨x, H1, I1, rx, a, dx, fs, ex, ea, l, q⟩ => ?_) ht
  subst ex
  obtain rfl : u = Value.ref a := rx
  refine getmeth_ok I1 ea c hm l ?_
  exact PySem.W.callWith_K0 (first := [.ref a]) I1.kIn hm.kp (run_fn (us := [.ref a]) (vs := [.ref a]) F hr hb hd hx I1 (.cons rfl .nil) q)
structure Mk (K : PySem.W.Frag) (C f : Addr) : Prop where
  makes : PySem.W.makesIn K C = true
  init : PySem.W.findIn K (.ref C) "__init__" = some (some (.ref f))
  fn : PySem.W.isFn K (.ref f) = true
  kp : PySem.W.keepIn K (.ref C) = true
theorem run_make {pins : List (Addr × Obj)} {σ : St} {H : Hp} {s : Shared} {Q : VK} {us : List Value} {vs : List V} (M : Mk X.K C f) (F : FnOk X.prog X.w X.K X.mg X.base CX k f fd ps sp) (hr : Room (k + 1) X.A) (hb : Binds X.K fd ps ds) (hd : Vals dvs ds)
    (hx : Passes CX X E) (I : Inv X pins σ H s) (r : Vals vs us)
    (h : ∀ x dx, H x = none → H dx = none → dx ≠ x → sp (.ref x :: (vs ++ dvs)) (upd (upd H dx (.own x)) x (.ins C dx [])) (fun v H2 => v = .non ∧ Q (.ref x) H2) E) :
    wpAny (model X.prog X.w) X.A (call (.ref C) us) (EP X pins σ Q) X.xe s := by
  have hq := h (s.heap.objs.size + 1) s.heap.objs.size (I.hok.fresh (Nat.le_succ _)) (I.hok.fresh (Nat.le_refl _)) (Nat.ne_of_lt (Nat.lt_succ_self _))
  have I2 := Inv.made (C := C) I
  have r2 : Vals (V.ref (s.heap.objs.size + 1) :: (vs ++ dvs)) (Value.ref (s.heap.objs.size + 1) :: (us ++ ds)) := .cons rfl (r.append hd)
  have hl : (Value.ref (s.heap.objs.size + 1) :: us ++ ds).length = ps.length := by
    have e := r2.length
    rw [F.len _ _ _ _ hq] at e
    exact e.symm
  refine wpAny_call (make_map (f := f) I.kIn M.makes M.init (beq_iff_eq.mp M.fn) (codeAny_mono (F.run _ X.stack _ _ ⟨Value.ref (s.heap.objs.size + 1) :: us, []⟩ (Value.ref (s.heap.objs.size + 1) :: (us ++ ds)) _ _ E (hr.make C us [])
    (I2.env0.make C us []) (hb _ (Value.ref (s.heap.objs.size + 1) :: us) I2.kIn hl) r2 hq) fun r s' hq' => ?_))
  cases r with
  | error e => exact hx pins σ _ _ e s' I2 hq'
  | ok fl =>
    cases fl with
    | ret u =>
      obtain ⟨v, H', I3, rv, ev, q3⟩ := I2.after hq'
      subst ev
      exact ⟨rv, ⟨V.ref (s.heap.objs.size + 1), H', I3, rfl, q3⟩⟩
    | next => exact False.elim hq'
    | brk => exact False.elim hq'
    | cont => exact False.elim hq'
theorem pe_make (M : Mk X.K C f) (F : FnOk X.prog X.w X.K X.mg X.base CX k f fd ps sp) (hr : Room (k + 1) X.A) (hg : Gl X x) (hm : X.mg x = some (.ref C)) (hb : Binds X.K fd ps ds) (hd : Vals dvs ds) (hx : Passes CX X E)
    (ha : PA X (e :: es) t) (hdb : (x == ("__debug__" : Str)) = false := by decide) (he : starEach (e :: es) X.env = (false, eval e X.env) :: starEach es X.env := by rfl) (hpl : (backTo pos (starEach es X.env)).any (·.1) = false := by rfl) :
    PE X (.Call (.Name x p) (e :: es) [] pos) (tMake C sp dvs E t) := by
  intro pins s σ H Q I h
  refine wpAny_Call_Name_kw (ld_glob I hg hm ?_ hdb)
  refine PySem.W.callWith_K (h₀ := X.base) I.ok.mod.kin M.kp (thn (ha pos pins s σ H _ I h) fun us s1 ⟨vs, H1, I1, r, q⟩ => ⟨I1.kIn, ?_⟩) he hpl
  exact run_make M F hr hb hd hx I1 r q
end
section
variable {X : Cx} {CX : CXT} {k : Nat} {f C : Addr} {fd : FuncData} {ps ks : List Str} {sp : Sp} {E : XK} {x m : Str} {p pos apos kpos : Pos} {e o : Expr} {es : List Expr} {kws : List Keyword} {te ta : TE} {t tk : TA} {nm : Option Str}
structure KBinds (K : PySem.W.Frag) (fd : FuncData) (ps ks : List Str) (g : List Value → List Value → List Value) (gV : List V → List V → List V) : Prop where
  to : ∀ (s : Shared) (us ws : List Value), K.In s.heap → (g us ws).length = ps.length → BindsTo s fd ⟨us, ks.zip ws⟩ (ps.zip (g us ws))
  rel : ∀ {vs : List V} {us : List Value} {zs : List V} {ws : List Value}, Vals vs us → Vals zs ws → Vals (gV vs zs) (g us ws)
variable {g : List Value → List Value → List Value} {gV : List V → List V → List V}
end
structure FnScope (N P : List Str) (sc : Scope) : Prop where
  kind : sc.kind = .function
  co : sc.isCoroutine = false
  gen : sc.isGenerator = false
  nd : N.Nodup
  pre : N.take P.length = P
  par : ∀ x ∈ P, sc.names.lookup x = some .local ∨ sc.names.lookup x = some .cell
  nofree : ∀ y ∈ sc.names, y.2 ≠ .free
theorem bindL_out {kindOf : Str → Option NameKind} {x : Str} : ∀ {binds : List (Str × Value)} {m : Str → Option Value}, (∀ v, (x, v) ∉ binds) → bindL kindOf binds m x = m x
  | [], _, _ => rfl
  | (n, v) :: r, m, h => by
    unfold bindL
    rw [bindL_out fun w hw => h w (List.mem_cons_of_mem _ hw)]
    split
    · have : x ≠ n := by rintro rfl; exact h v List.mem_cons_self
      simp [this]
    · rfl
theorem bindC_out {kindOf : Str → Option NameKind} {x : Str} : ∀ {binds : List (Str × Value)} {m : Str → Option Value}, (∀ v, (x, v) ∉ binds) → bindC kindOf binds m x = m x
  | [], _, _ => rfl
  | (n, v) :: r, m, h => by
    unfold bindC
    rw [bindC_out fun w hw => h w (List.mem_cons_of_mem _ hw)]
    split
    · rfl
    · have : x ≠ n := by rintro rfl; exact h v List.mem_cons_self
      simp [this]
theorem bindL_get {kindOf : Str → Option NameKind} {x : Str} {v : Value} : ∀ {P : List Str} {vs : List Value} {i : Nat} {m : Str → Option Value}, P.Nodup → P[i]? = some x → vs[i]? = some v → kindOf x = some .local →
    bindL kindOf (P.zip vs) m x = some v
  | [], _, _, _, _, h, _, _ => by simp at h
  | _ :: _, [], _, _, _, _, h, _ => by simp at h
  | p :: P, w :: vs, 0, m, nd, h1, h2, hk => by
    simp at h1 h2; subst h1; subst h2
    show bindL kindOf ((p, w) :: P.zip vs) m p = _
    unfold bindL
    rw [bindL_out fun v hv => (List.nodup_cons.mp nd).1 (List.of_mem_zip hv).1, if_pos hk]
    simp
  | p :: P, w :: vs, i + 1, m, nd, h1, h2, hk => by
    show bindL kindOf ((p, w) :: P.zip vs) m x = _
    unfold bindL
    exact bindL_get (i := i) (List.nodup_cons.mp nd).2 (by simpa using h1) (by simpa using h2) hk
theorem bindC_get {kindOf : Str → Option NameKind} {x : Str} {v : Value} : ∀ {P : List Str} {vs : List Value} {i : Nat} {m : Str → Option Value}, P.Nodup → P[i]? = some x → vs[i]? = some v → kindOf x ≠ some .local →
    bindC kindOf (P.zip vs) m x = some v
  | [], _, _, _, _, h, _, _ => by simp at h
  | _ :: _, [], _, _, _, _, h, _ => by simp at h
  | p :: P, w :: vs, 0, m, nd, h1, h2, hk => by
    simp at h1 h2; subst h1; subst h2
    show bindC kindOf ((p, w) :: P.zip vs) m p = _
    unfold bindC
    rw [bindC_out fun v hv => (List.nodup_cons.mp nd).1 (List.of_mem_zip hv).1, if_neg hk]
    simp
  | p :: P, w :: vs, i + 1, m, nd, h1, h2, hk => by
    show bindC kindOf ((p, w) :: P.zip vs) m x = _
    unfold bindC
    exact bindC_get (i := i) (List.nodup_cons.mp nd).2 (by simpa using h1) (by simpa using h2) hk
def start (N : List Str) (vs : List V) : St := vs.map some ++ List.replicate (N.length - vs.length) none
def cxOf (CX : CXT) (P : Program) (w : World) (K : PySem.W.Frag) (mg : Str → Option Value) (base : Heap) (N : List Str) (qual : Str) (scope : Scope) (f : Addr) (cd : Value) (A : Around) (outer : List Env) (s : Shared) (H : Hp) (E : XK) : Cx where
  prog := P
  w := w
  K := K
  mg := mg
  base := base
  A := A.deeper (envOfC qual scope s.heap.objs.size f cd)
  N := N
  s₀ := s
  H₀ := H
  env := envOfC qual scope s.heap.objs.size f cd
  outer := outer
  stack := envOfC qual scope s.heap.objs.size f cd :: outer
  ex := []
  calm := true
  fn := fun _ => true
  pn := []
  xe := fun e s' => wpAny (model P w) (A.deeper (envOfC qual scope s.heap.objs.size f cd)) (leaving (envOfC qual scope s.heap.objs.size f cd) e) (fun _ s'' => CX outer H s E e s'') (fun e' s'' => CX outer H s E e' s'') s'
theorem cell_has {sc : Scope} {n : Nat} {x : Str} (h : sc.names.lookup x = some .cell) : ∃ c, (cellsFrom n sc.names []).lookup x = some c := by
  have q := PySem.W.cellsFrom_some sc.names n [] (.inl h)
  exact Option.isSome_iff_exists.mp q
theorem inv_start {CX : CXT} {P : Program} {w : World} {K : PySem.W.Frag} {mg : Str → Option Value} {base : Heap} {N ps : List Str} {qual : Str} {scope : Scope} {f : Addr} {cd : Value} {A : Around} {outer : List Env} {s s1 : Shared} {H : Hp} {E : XK} {us : List Value} {vs : List V}
    (S : FnScope N ps scope) (hd : A.handled = none) (e0 : Env0 P w K mg base A outer s H) (hl : vs.length = ps.length) (r : Vals vs us)
    (x : InCallC s s.heap.objs.size (bindL (envOfC qual scope s.heap.objs.size f cd).kindOf (ps.zip us) fun _ => none) (cellsFrom (s.heap.objs.size + 1) scope.names []) (bindC (envOfC qual scope s.heap.objs.size f cd).kindOf (ps.zip us) fun _ => none) s1) :
    Inv (cxOf CX P w K mg base N qual scope f cd A outer s H E) [] (start N vs) H s1 := by
  have hpl : ps.length ≤ N.length := by have := congrArg List.length S.pre; rw [List.length_take] at this; omega
  obtain ⟨h1, tk, rfl, hk⟩ := x.done
  have noA : ∀ b : Addr, b ∉ (cxOf CX P w K mg base N qual scope f cd A outer s H E).ex := fun b z => absurd (show b ∈ ([] : List Addr) from z) (by simp)
  refine ⟨⟨e0.mod, S.kind, rfl, rfl, Nat.le_refl _, fun y z c h1 h2 => ?_, fun y hy => ?_, fun y c _ h => ?_, fun _ => hd, Around.frames_deeper e0.frames, .inr ⟨rfl, rfl⟩, fun b z => absurd z (noA b), e0.bs, e0.bsz, fun b _ _ => noA b, fun b z => absurd z (noA b), e0.funs, e0.frf⟩,
    rfl, e0.bare, Un.kept hk, ⟨_, x.toInCall.ns, fun i y v h1 h2 h3 => ?_⟩, fun y c h => ⟨_, x.cell y c h⟩, e0.hok.fresh (Nat.le_refl _), fun y c h => ?_, fun p hp => absurd (show p ∈ ([] : List (Addr × Obj)) from hp) (by simp), e0.hok.kept hk, ?_⟩
  · exact name_of_addr x.apart (PySem.mem_of_lookup h1) (PySem.mem_of_lookup h2)
  · have hy : scope.names.lookup y = some .cell ∨ scope.names.lookup y = some .free := hy
    rcases hy with hy | hy
    · exact cell_has hy
    · exact absurd rfl (S.nofree _ (PySem.mem_of_lookup hy))
  · exact Nat.le_of_lt (x.above y c (PySem.mem_of_lookup h))
  · have hi : i < vs.length := by
      unfold start at h2
      by_cases hi : i < vs.length
      · exact hi
      · rw [List.getElem?_append_right (by simpa using hi)] at h2
        rw [List.getElem?_replicate] at h2
        split at h2 <;> cases h2
    have ha : vs[i]? = some v := by
      unfold start at h2
      rw [List.getElem?_append_left (by simpa using hi), List.getElem?_map] at h2
      cases e : vs[i]? with
      | none => rw [e] at h2; cases h2
      | some a => rw [e] at h2; cases h2; rfl
    obtain ⟨u, hu, rv⟩ := r.get ha
    have hp : ps[i]? = some y := by
      rw [← S.pre, List.getElem?_take_of_lt (by omega)]; exact h1
    have ndP : ps.Nodup := by rw [← S.pre]; exact S.nd.sublist (List.take_sublist _ _)
    refine ⟨u, rv, ?_⟩
    rcases S.par y (List.mem_of_getElem? hp) with k | k
    · exact .inl ⟨k, bindL_get ndP hp hu k⟩
    · obtain ⟨c, e⟩ := cell_has (n := s.heap.objs.size + 1) k
      refine .inr ⟨.inl k, c, e, ?_⟩
      have q := x.cell y c e
      rw [bindC_get ndP hp hu (by show scope.names.lookup y ≠ _; rw [k]; decide)] at q
      exact q
  · exact e0.hok.fresh (Nat.le_of_lt (x.above y c (PySem.mem_of_lookup h)))
  · unfold start
    show _ = N.length
    rw [List.length_append, List.length_map, List.length_replicate]
    omega
theorem fn_of {CX : CXT} {P : Program} {w : World} {K : PySem.W.Frag} {mg : Str → Option Value} {base : Heap} {k : Nat} {f : Addr} {name qual : Str} {params : Arguments} {body : List Stmt} {scope : Scope} {dV kV doc pm cdv ct oc : Value} {an od : Option Addr}
    {osl : Array (Option Value)} {N ps : List Str} {sp : Sp} (lk : K.lookup f = some ⟨oc, od, .func (PySem.W.fnOf name qual params body scope dV kV doc pm an cdv ct), osl⟩) (hcd : PySem.W.codeIn K cdv qual = true) (S : FnScope N ps scope)
    (len : ∀ vs H Q E, sp vs H Q E → vs.length = ps.length)
    (hbody : ∀ (A : Around) (outer : List Env) (s : Shared) (H : Hp) (vs : List V) (Q : VK) (E : XK), Room k (A.deeper (envOfC qual scope s.heap.objs.size f cdv)) → sp vs H Q E →
      ∃ t, PSs (cxOf CX P w K mg base N qual scope f cdv A outer s H E) body t ∧ t { nx := fun _ H' => Q .non H', rt := Q } (start N vs) H) :
    FnOk P w K mg base CX (k + 1) f (PySem.W.fnOf name qual params body scope dV kV doc pm an cdv ct) ps sp := by
  refine ⟨len, fun A outer s H args us vs Q E hr e0 hb r hsp => ?_⟩
  have hl := len _ _ _ _ hsp
  have KX : K.In s.heap := e0.mod.kin.keeps fun b o e => (e0.bs b o e).1
  have lim : s.heap.NoLimit := e0.mod.nolimit.keeps fun b o e => (e0.bs b o e).1
  have hkind : ∀ y ∈ ps.zip us, scope.names.lookup y.1 = some .local ∨ (scope.names.lookup y.1 = some .cell ∧ ((cellsFrom (s.heap.objs.size + 1) scope.names []).lookup y.1).isSome = true) := fun ⟨n, v⟩ hy => by
    rcases S.par n (List.of_mem_zip hy).1 with q | q
    · exact .inl q
    · exact .inr ⟨q, PySem.W.cellsFrom_some _ _ _ (.inl q)⟩
  refine codeAny_call_function hr.depth (KX _ _ lk) rfl S.co S.gen rfl (PySem.W.codeRec_of KX hcd) (hb _ _ _ _ ?_)
  refine wpAny_newFunctionEnv_cells S.kind hkind fun env he s1 x => ?_
  subst he
  refine ⟨lim.keeps x.toInCall.keep, codeAny_func ?_⟩
  obtain ⟨t, ht, hq⟩ := hbody A outer s H vs Q E (hr.deeper _) hsp
  have I : Inv (cxOf CX P w K mg base N qual scope f cdv A outer s H E) [] (start N vs) H s1 := inv_start S hr.hd e0 hl r x
  refine wpAny_mono (ht [] s1 (start N vs) H _ I hq) (fun fl s' hs => ?_) fun e s' hs => hs
  have fin : ∀ {σ' : St} {H' : Hp} {v : V} {u : Value}, Inv (cxOf CX P w K mg base N qual scope f cdv A outer s H E) [] σ' H' s' → RelV v u → Q v H' → CE outer P w H s Q u s' :=
    fun {σ' H' v u} J rv q => ⟨v, H', J.os, J.bare, J.base, J.hok, rv, q⟩
  cases fl with
  | ret u =>
    obtain ⟨v, σ', H', J, rv, q⟩ := hs
    exact fin J rv q
  | next =>
    obtain ⟨σ', H', J, q⟩ := hs
    exact fin (v := V.non) (u := Value.none) J rfl q
  | brk =>
    obtain ⟨_, _, _, q⟩ := hs
    exact False.elim q
  | cont =>
    obtain ⟨_, _, _, q⟩ := hs
    exact False.elim q
end L2
namespace L2
open PySem PySem.Spec PyProof.Rows
section
variable {X : Cx} {x : Str} {p pos : Pos} {e : Expr} {es : List Expr} {t : TA} {id T : String} {r : List V → Hp → VK → Prop}
def tCB (r : List V → Hp → VK → Prop) (t : TA) : TE := fun σ H Q => t σ H fun vs H1 => r vs H1 Q
theorem pe_callB (hc : CallR X (.builtin id) r) (hg : Gl X x) (hm : X.mg x = none) (hv : bootBuiltins x = some (.builtin id)) (ha : PA X (e :: es) t) (hn : x ≠ "__name__" := by decide) (hdb : (x == ("__debug__" : Str)) = false := by decide)
    (he : starEach (e :: es) X.env = (false, eval e X.env) :: starEach es X.env := by rfl) (hpl : (backTo pos (starEach es X.env)).any (·.1) = false := by rfl) : PE X (.Call (.Name x p) (e :: es) [] pos) (tCB r t) := by
  intro pins s σ H Q I h
  refine wpAny_Call_Name_kw (ld_blt I hg hm hv ?_ hn hdb)
  exact PyProof.Rows.callWith_builtin1 (thn (ha pos pins s σ H _ I h) fun us s1 ⟨vs, H1, I1, r1, q1⟩ => hc pins s1 σ H1 vs us Q I1 r1 q1) he hpl
theorem pe_callTy (hc : CallR X (.type T) r) (hg : Gl X x) (hm : X.mg x = none) (hv : bootBuiltins x = some (.type T)) (ha : PA X (e :: es) t) (hn : x ≠ "__name__" := by decide) (hdb : (x == ("__debug__" : Str)) = false := by decide)
    (he : starEach (e :: es) X.env = (false, eval e X.env) :: starEach es X.env := by rfl) (hpl : (backTo pos (starEach es X.env)).any (·.1) = false := by rfl) : PE X (.Call (.Name x p) (e :: es) [] pos) (tCB r t) := by
  intro pins s σ H Q I h
  refine wpAny_Call_Name_kw (ld_blt I hg hm hv ?_ hn hdb)
  exact PyProof.Rows.callWith_type1 (thn (ha pos pins s σ H _ I h) fun us s1 ⟨vs, H1, I1, r1, q1⟩ => hc pins s1 σ H1 vs us Q I1 r1 q1) he hpl
end
end L2
namespace HT
open PySem PyProof.Rows
section
open PySem.SeqAt
open PySem.AutoSeq1 (wpAny_loadPart')
open PySem.MeetsSeq PySem.MeetsSeq2 PySem.MeetsSeq3
end
section
variable {prog : Program} {w : World} {A : Around} {E : Value → Shared → Prop} {s : Shared}
theorem cat_tup {t b : Addr} {vs ws : List Value} {Q : Value → Shared → Prop} (ht : IsTup s.heap t vs.toArray) (hb : IsTup s.heap b ws.toArray) (hv : vs ≠ [])
    (h1 : ws = [] → Q (.ref t) s) (h2 : ws ≠ [] → Q (.ref s.heap.objs.size) { s with heap := s.heap.push { cls := .type "tuple", data := .seq (vs ++ ws).toArray } })
    (hsz : vs.length + ws.length ≤ sizeLine) : wpAny (model prog w) A (binaryOp .Add (.ref t) (.ref b)) Q E s := by
  obtain ⟨⟨cls, dd, data, sl⟩, ho, hc, n, hd⟩ := id ht
  obtain ⟨⟨cls2, dd2, data2, sl2⟩, ho2, hc2, n2, hd2⟩ := id hb
  simp only at hc hd hc2 hd2
  subst hc hd hc2 hd2
  have e : vs.toArray ++ ws.toArray = (vs ++ ws).toArray := by simp
  by_cases hw : ws = []
  · exact concat_meets ⟨_, ho, rfl⟩ ⟨_, ho2, rfl⟩ noFill_tuple_add seq_tuple_add PySem.F.slot_tuple_add PySem.F.entry_tuple_add (PySem.F.args_tuple_add_2 _ _)
      (tuple_addW1 t b vs.toArray ws.toArray n n2 dd dd2 sl sl2 (by simpa using hv) (by simp [hw])) ⟨ho, ho2, h1 hw⟩
  · refine concat_meets ⟨_, ho, rfl⟩ ⟨_, ho2, rfl⟩ noFill_tuple_add seq_tuple_add PySem.F.slot_tuple_add PySem.F.entry_tuple_add (PySem.F.args_tuple_add_2 _ _)
      (tuple_addW2 t b vs.toArray ws.toArray n n2 dd dd2 sl sl2 (by simpa using hv) (by simpa using hw) (by rw [List.size_toArray, List.size_toArray]; exact hsz)) ⟨ho, ho2, ?_⟩
    rw [e]
    exact h2 hw
def sIx (n d : Nat) : Option Int → Nat
  | none => d
  | some v => if v < 0 then (v + (n : Int)).toNat else min v.toNat n
end
end HT
namespace L2
open PySem PySem.Spec PyProof.Rows
abbrev TO := St → Hp → (Option Int → Hp → Prop) → Prop
def PO (X : Cx) (e : Option Expr) (t : TO) : Prop :=
  ∀ (pins : List (Addr × Obj)) (s : Shared) (σ : St) (H : Hp) (Q : Option Int → Hp → Prop), Inv X pins σ H s → t σ H Q →
    wpAny (model X.prog X.w) X.A (evalPart e X.env) (fun u s' => ∃ o H', Inv X pins σ H' s' ∧ IsPart u o ∧ Q o H') X.xe s
def tNoPart : TO := fun _ H Q => Q none H
def tPart (t : TE) : TO := fun σ H Q => t σ H fun x H1 => ∃ i, x = .int i ∧ Q (some i) H1
section
variable {X : Cx} {e : Expr} {te : TE} {lo hi : Option Expr} {tl th : TO} {pos p2 : Pos}
theorem po_none : PO X none tNoPart := by
  intro pins s σ H Q I h
  rw [evalPart_none]
  exact wpAny_pure ⟨none, H, I, .none, h⟩
theorem po_some (h : PE X e te) : PO X (some e) (tPart te) := by
  intro pins s σ H Q I hw
  rw [evalPart_some]
  refine thn (h pins s σ H _ I hw) fun u s1 ⟨x, H1, I1, r1, q1⟩ => ?_
  obtain ⟨i, rfl, q⟩ := q1
  obtain ⟨t, rfl⟩ := r1
  exact ⟨some i, H1, I1, .int i t, q⟩
def SlR (X : Cx) (r : V → Option Int → Option Int → Hp → VK → Prop) : Prop :=
  ∀ (pins : List (Addr × Obj)) (s : Shared) (σ : St) (H : Hp) (x : V) (v vl vu : Value) (lo hi : Option Int) (sl : Addr) (Q : VK), Inv X pins σ H s → RelV x v → s.heap.IsSliceOf sl vl vu .none → IsPart vl lo → IsPart vu hi → r x lo hi H Q →
    ∃ T id, typeLookup (.type T) "__getitem__" = pure (some (.builtin id)) ∧ s.TypeIs v T ∧ wpAny (model X.prog X.w) X.A (getItem v (.ref sl)) (EP X pins σ Q) X.xe s
theorem SlR.or {r r' : V → Option Int → Option Int → Hp → VK → Prop} (h : SlR X r) (h' : SlR X r') : SlR X (fun x lo hi H Q => r x lo hi H Q ∨ r' x lo hi H Q) := by
  intro pins s σ H x v vl vu lo hi sl Q I rx hs pl pu q
  rcases q with q | q
  · exact h pins s σ H x v vl vu lo hi sl Q I rx hs pl pu q
  · exact h' pins s σ H x v vl vu lo hi sl Q I rx hs pl pu q
def tSl (r : V → Option Int → Option Int → Hp → VK → Prop) (te : TE) (tl th : TO) : TE := fun σ H Q => te σ H fun x H1 => tl σ H1 fun l H2 => th σ H2 fun u H3 => r x l u H3 Q
theorem pe_slice {r : V → Option Int → Option Int → Hp → VK → Prop} (hr : SlR X r) (he : PE X e te) (hl : PO X lo tl) (hu : PO X hi th) : PE X (.Subscript e (.Slice lo hi none p2) pos) (tSl r te tl th) := by
  intro pins s σ H Q I h
  refine Subscript_ (thn (he pins s σ H _ I h) fun v s1 ⟨x, H1, I1, r1, q1⟩ => ?_)
  refine wpAny_Slice (thn (hl pins s1 σ H1 _ I1 q1) fun vl s2 ⟨l, H2, I2, pl, q2⟩ => thn (hu pins s2 σ H2 _ I2 q2) fun vu s3 ⟨u, H3, I3, pu, q3⟩ => ?_)
  rw [evalPart_none]
  refine wpAny_pure ?_
  have I4 : Inv X pins σ H3 { s3 with heap := s3.heap.push { cls := .type "slice", data := .fields #[vl, vu, .none] } } := I3.kept (t' := s3.toks) fun b ob q => Heap.get?_push_of_some _ q
  obtain ⟨T, id, hT, ht, hg⟩ := hr pins { s3 with heap := s3.heap.push { cls := .type "slice", data := .fields #[vl, vu, .none] } } σ H3 x v vl vu l u s3.heap.objs.size Q I4 r1 (Heap.IsSliceOf.new ..) pl pu q3
  show wpAny (model X.prog X.w) X.A (subscriptTail e (.Slice lo hi none p2) v (.ref s3.heap.objs.size)) (EP X pins σ Q) X.xe { s3 with heap := s3.heap.push { cls := .type "slice", data := .fields #[vl, vu, .none] } }
  exact tail_any (ops := [.ref s3.heap.objs.size, v]) ht hT hg (by with_unfolding_all rfl)
def cutV (xs : List V) (lo hi : Option Int) : List V := (xs.drop (HT.sIx xs.length 0 lo)).take (HT.sIx xs.length xs.length hi - HT.sIx xs.length 0 lo)
theorem cutV_length (xs : List V) (lo hi : Option Int) : (cutV xs lo hi).length ≤ xs.length := by
  unfold cutV
  rw [List.length_take, List.length_drop]
  omega
def rCatT (K : PySem.W.Frag) : R2 := fun x y H Q => ∃ a b xs ys, x = .ref a ∧ y = .ref b ∧ SqT K H a xs ∧ SqT K H b ys ∧ xs ≠ [] ∧ xs.length + ys.length ≤ sizeLine ∧
  (ys = [] → Q (.ref a) H) ∧ (ys ≠ [] → ∀ p, H p = none → Q (.ref p) (upd H p (.tup (xs ++ ys))))
theorem Vals.nil_iff {xs : List V} {us : List Value} (r : Vals xs us) : us = [] ↔ xs = [] := by
  cases r with
  | nil => simp
  | cons _ _ => simp
theorem op_catT : OpR X (binaryOp .Add) (rCatT X.K) := by
  intro pins s σ H x y v u Q I rx ry h
  obtain ⟨a, b, xs, ys, rfl, rfl, ha, hb, hx, hz, q1, q2⟩ := h
  cases rx
  cases ry
  obtain ⟨its, r1, p1, _⟩ := I.tuple ha
  obtain ⟨its2, r2, p2, _⟩ := I.tuple hb
  refine HT.cat_tup p1 p2 (fun z => hx (r1.nil_iff.mp z)) (fun z => ⟨.ref a, H, I, rfl, q1 (r2.nil_iff.mp z)⟩) (fun z => ?_) (by rw [← r1.length, ← r2.length]; exact hz)
  refine ⟨.ref s.heap.objs.size, _, I.laid (t' := s.toks) (o := .tup (xs ++ ys)) (fun b ob q => Heap.get?_push_of_some _ q) (Nat.le_refl _) ?_, rfl, q2 (fun w => z (r2.nil_iff.mpr w)) _ (I.hok.fresh (Nat.le_refl _))⟩
  exact ⟨by rw [List.length_append]; exact hz, _, r1.append r2, IsTup.new _ _⟩
end
end L2
namespace L2
open PySem PySem.Spec PyProof.Rows
def ixN (n : Nat) (i : Int) : Option Nat := if 0 ≤ i then (if i < n then some i.toNat else none) else if -(n : Int) ≤ i then some (i + n).toNat else none
def atI {α : Type} (xs : List α) (i : Int) : Option α := (ixN xs.length i).bind fun j => xs[j]?
theorem ixN_seq {n : Nat} {i : Int} {j : Nat} (h : ixN n i = some j) : seqIndex? i n = some j ∧ j < n ∧ -(n : Int) ≤ i ∧ i < n := by
  unfold ixN at h
  by_cases h0 : 0 ≤ i
  · rw [if_pos h0] at h
    by_cases h1 : i < n
    · rw [if_pos h1] at h
      have e : i.toNat = j := Option.some.inj h
      exact ⟨by rw [seqIndex_of h0 h1, e], by omega, by omega, h1⟩
    · rw [if_neg h1] at h; cases h
  · rw [if_neg h0] at h
    by_cases h1 : -(n : Int) ≤ i
    · rw [if_pos h1] at h
      have e : (i + n).toNat = j := Option.some.inj h
      exact ⟨by rw [seqIndex_neg (by omega) h1, e], by omega, h1, by omega⟩
    · rw [if_neg h1] at h; cases h
theorem atI_get {α : Type} {xs : List α} {i : Int} {v : α} (h : atI xs i = some v) : ∃ j, seqIndex? i xs.length = some j ∧ xs[j]? = some v ∧ j < xs.length ∧ -(xs.length : Int) ≤ i ∧ i < xs.length := by
  unfold atI at h
  cases e : ixN xs.length i with
  | none => rw [e] at h; cases h
  | some j =>
    rw [e] at h
    obtain ⟨h1, h2, h3, h4⟩ := ixN_seq e
    exact ⟨j, h1, h, h2, h3, h4⟩
def PlainIx (b : Expr) : Prop := ∀ o i, subscripted b false o i = operate [o, i] (getItem o i)
def IxR (X : Cx) (r : R2) : Prop :=
  ∀ (value slice : Expr) (pins : List (Addr × Obj)) (s : Shared) (σ : St) (H : Hp) (x y : V) (v u : Value) (Q : VK), Inv X pins σ H s → RelV x v → RelV y u → r x y H Q →
    subscripted slice false v u = operate [v, u] (getItem v u) → wpAny (model X.prog X.w) X.A (subscriptTail value slice v u) (EP X pins σ Q) X.xe s
def MtR (X : Cx) (id : String) (r : V → List V → Hp → VK → Prop) : Prop :=
  ∀ (pins : List (Addr × Obj)) (s : Shared) (σ : St) (H : Hp) (x : V) (xs : List V) (v : Value) (us : List Value) (Q : VK), Inv X pins σ H s → RelV x v → Vals xs us → r x xs H Q →
    wpAny (model X.prog X.w) X.A (call (.builtin id) (v :: us)) (EP X pins σ Q) X.xe s
section
variable {X : Cx} {a b : Expr} {ta tb : TE} {pos : Pos}
theorem IxR.or {r r' : R2} (h : IxR X r) (h' : IxR X r') : IxR X (fun x y H Q => r x y H Q ∨ r' x y H Q) := by
  intro value slice pins s σ H x y v u Q I rx ry q hs
  rcases q with q | q
  · exact h value slice pins s σ H x y v u Q I rx ry q hs
  · exact h' value slice pins s σ H x y v u Q I rx ry q hs
theorem MtR.or {id : String} {r r' : V → List V → Hp → VK → Prop} (h : MtR X id r) (h' : MtR X id r') : MtR X id (fun x xs H Q => r x xs H Q ∨ r' x xs H Q) := by
  intro pins s σ H x xs v us Q I rx rs q
  rcases q with q | q
  · exact h pins s σ H x xs v us Q I rx rs q
  · exact h' pins s σ H x xs v us Q I rx rs q
theorem pe_ix {r : R2} (hr : IxR X r) (ha : PE X a ta) (hb : PE X b tb) (hs : PlainIx b) : PE X (.Subscript a b pos) (tOp r ta tb) := by
  intro pins s σ H Q I h
  exact Subscript_ (binT ha hb I h fun v u s2 x y H2 I2 rx ry q => hr a b pins s2 σ H2 x y v u Q I2 rx ry q (hs _ _))
def rIxL (K : PySem.W.Frag) : R2 := fun x y H Q => ∃ p xs i v, x = .ref p ∧ y = .int i ∧ SqL K H p xs ∧ atI xs i = some v ∧ Q v H
def rIxT (K : PySem.W.Frag) : R2 := fun x y H Q => ∃ p xs i v, x = .ref p ∧ y = .int i ∧ SqT K H p xs ∧ atI xs i = some v ∧ Q v H
def rIxS : R2 := fun x y H Q => ∃ z i c, x = .str z ∧ y = .int i ∧ z.length ≤ sizeLine ∧ atI z.cps.toList i = some c ∧ Q (.str ⟨#[c]⟩) H
theorem ix_list : IxR X (rIxL X.K) := by
  intro value slice pins s σ H x y v u Q I rx ry h hs
  obtain ⟨p, xs, i, z, rfl, rfl, hq, he, q⟩ := h
  cases rx
  obtain ⟨t, rfl⟩ := ry
  obtain ⟨its, r, pl, hz⟩ := I.list hq
  obtain ⟨j, h1, h2, h3, h4, h5⟩ := atI_get he
  obtain ⟨w, ew, rw'⟩ := r.get h2
  have hl := r.length
  have hn := line63
  have fin : EP X pins σ Q w s := ⟨z, H, I, rw', q⟩
  by_cases h0 : 0 ≤ i
  · have hj : i.toNat = j := by
      rw [seqIndex_of h0 h5] at h1
      exact Option.some.inj h1
    exact item_listR pl.isList h0 (by omega) (by rw [hj]; simpa using ew) fin hs
  · have hj : (i + (its.toArray.size : Int)).toNat = j := by
      rw [seqIndex_neg (by omega) h4] at h1
      rw [List.size_toArray, ← hl]
      exact Option.some.inj h1
    exact subscriptTail_builtinR (x := w) pl.isList.typeIs slot_list_getitem.lookup
      (wpAny_getItem_list_neg (Q := fun r s' => r = w ∧ EP X pins σ Q r s') pl.isList (by omega) (by rw [List.size_toArray] <;> omega) (by omega) (by rw [hj]; simpa using ew) ⟨rfl, fin⟩) hs
theorem ix_tup : IxR X (rIxT X.K) := by
  intro value slice pins s σ H x y v u Q I rx ry h hs
  obtain ⟨p, xs, i, z, rfl, rfl, hq, he, q⟩ := h
  cases rx
  obtain ⟨t, rfl⟩ := ry
  obtain ⟨its, r, pl, hz⟩ := I.tuple hq
  obtain ⟨j, h1, h2, h3, h4, h5⟩ := atI_get he
  obtain ⟨w, ew, rw'⟩ := r.get h2
  have hl := r.length
  have hn := line63
  have fin : EP X pins σ Q w s := ⟨z, H, I, rw', q⟩
  exact subscriptTail_builtinR (x := w) pl.typeIs slot_tuple_getitem.lookup
    (getItem_tuple (j := j) (Q := fun r s' => r = w ∧ EP X pins σ Q r s') pl (by omega) (by omega) (by rw [List.size_toArray, ← hl]; exact h1) (by simpa using ew) ⟨rfl, fin⟩) hs
theorem ix_str : IxR X rIxS := by
  intro value slice pins s σ H x y v u Q I rx ry h hs
  obtain ⟨z, i, c, rfl, rfl, hz, he, q⟩ := h
  obtain ⟨t, rfl⟩ := rx
  obtain ⟨t', rfl⟩ := ry
  obtain ⟨j, h1, h2, h3, h4, h5⟩ := atI_get he
  have hl : z.cps.toList.length = z.length := by simp [Str.length]
  rw [hl] at h1 h4 h5
  have hn := line63
  exact tail_any (typeIs_str s z t) slot_str_getitem.lookup (getItem_str (c := c) (by
    have e1 : decide (i < -(2 ^ 63 : Int)) = false := decide_eq_false (by omega)
    have e2 : decide (i ≥ 2 ^ 63) = false := decide_eq_false (by omega)
    rw [e1, e2, Bool.or_false]) (by rw [h1]; simpa using h2) ⟨.str ⟨#[c]⟩, H, I.tok _, ⟨_, rfl⟩, q⟩) hs
def rIx (K : PySem.W.Frag) : R2 := fun x y H Q => rIxL K x y H Q ∨ rIxT K x y H Q ∨ rIxS x y H Q
theorem ix_seq : IxR X (rIx X.K) := ix_list.or (ix_tup.or ix_str)
theorem mapSeq_set (its : List Value) (n j : Nat) (u : Value) : Obj.mapSeq (·.setIfInBounds j u) { cls := .type "list", data := .seq its.toArray n } = { cls := .type "list", data := .seq (its.set j u).toArray n } := by
  simp [Obj.mapSeq]
theorem Inv.lst {pins : List (Addr × Obj)} {σ : St} {H : Hp} {s : Shared} {p : Addr} {xs : List V} (I : Inv X pins σ H s) (h : H p = some (.lst xs)) :
    ∃ (its : List Value) (n : Nat), Vals xs its ∧ s.heap.get? p = some { cls := .type "list", data := .seq its.toArray n } ∧ xs.length ≤ sizeLine := by
  obtain ⟨z, its, n, r, e⟩ := I.hok p _ h
  exact ⟨its, n, r, e, z⟩
theorem Inv.lstUpd {pins : List (Addr × Obj)} {σ : St} {H : Hp} {s : Shared} {p : Addr} {xs ys : List V} {its its' : List Value} {n n' : Nat} {f : Obj → Obj} (I : Inv X pins σ H s) (h : H p = some (.lst xs))
    (ho : s.heap.get? p = some { cls := .type "list", data := .seq its.toArray n }) (hf : f { cls := .type "list", data := .seq its.toArray n } = { cls := .type "list", data := .seq its'.toArray n' }) (r : Vals ys its') (hz : ys.length ≤ sizeLine) (t : Nat) :
    Inv X pins σ (upd H p (.lst ys)) { s with heap := s.heap.update p f, toks := t } := by
  have e : (s.heap.update p f).get? p = some { cls := .type "list", data := .seq its'.toArray n' } := by
    rw [Heap.get?_update_self f ho (by rw [hf] <;> rfl), hf]
  refine I.write (x := p) (e := p) (by rw [h]; trivial) (.inl rfl) (fun b u hb q => (Heap.get?_update_other _ _ (Ne.symm hb)).trans q) ⟨_, e⟩ ?_
  exact ⟨hz, its', n', r, e⟩
def rSetL : V → V → V → Hp → (Hp → Prop) → Prop := fun o i v H Q => ∃ p xs k j, o = .ref p ∧ i = .int k ∧ H p = some (.lst xs) ∧ ixN xs.length k = some j ∧ Q (upd H p (.lst (xs.set j v)))
theorem set_list : PSet X rSetL := by
  intro pins s σ H o i v ov iv u Q I ro ri rv h
  obtain ⟨p, xs, k, j, rfl, rfl, hp, hj, q⟩ := h
  cases ro
  obtain ⟨t, rfl⟩ := ri
  obtain ⟨its, n, r, ho, hz⟩ := I.lst hp
  obtain ⟨h1, h2, h3, h4⟩ := ixN_seq hj
  have hl := r.length
  have hn := line63
  have I' : Inv X pins σ (upd H p (.lst (xs.set j v))) { s with heap := s.heap.update p (Obj.mapSeq (·.setIfInBounds j u)) } :=
    I.lstUpd hp ho (mapSeq_set its n j u) (r.set rv j) (by rw [List.length_set]; exact hz) s.toks
  by_cases h0 : 0 ≤ k
  · have hk : k.toNat = j := by
      rw [seqIndex_of h0 h4] at h1
      exact Option.some.inj h1
    exact PySem.W.ki_setAt ho h0 (by omega) (by rw [List.size_toArray, ← hl]; exact h4) (by rw [hk]; exact ⟨_, I', q⟩)
  · have hk : (k + (its.toArray.size : Int)).toNat = j := by
      rw [seqIndex_neg (by omega) h3] at h1
      rw [List.size_toArray, ← hl]
      exact Option.some.inj h1
    exact PySem.W.ki_setBack ho (by omega) (by rw [List.size_toArray, ← hl]; exact h3) (by omega) (by rw [hk]; exact ⟨_, I', q⟩)
theorem slice_bounds (lo hi : Option Int) (n : Nat) : (sliceBounds lo hi none n).1 = ((HT.sIx n 0 lo : Nat) : Int) ∧ (sliceBounds lo hi none n).2.1 = ((HT.sIx n n hi : Nat) : Int) ∧ (sliceBounds lo hi none n).2.2 = 1 := by
  refine ⟨?_, ?_, rfl⟩
  · cases lo with
    | none => simp [sliceBounds, HT.sIx]
    | some i =>
      simp only [sliceBounds, HT.sIx, Option.getD_none, show (1 : Int) > 0 by decide, if_true]
      by_cases h : i < 0
      · simp only [h, if_true] <;> omega
      · simp only [h, if_false] <;> omega
  · cases hi with
    | none => simp [sliceBounds, HT.sIx]
    | some i =>
      simp only [sliceBounds, HT.sIx, Option.getD_none, show (1 : Int) > 0 by decide, if_true]
      by_cases h : i < 0
      · simp only [h, if_true] <;> omega
      · simp only [h, if_false] <;> omega
theorem slicePick_cut (its : List Value) (lo hi : Option Int) : slicePick its.toArray lo hi none = ((its.drop (HT.sIx its.length 0 lo)).take (HT.sIx its.length its.length hi - HT.sIx its.length 0 lo)).toArray := by
  obtain ⟨h1, h2, h3⟩ := slice_bounds lo hi its.toArray.size
  unfold slicePick
  rw [h1, h2, h3]
  simp only [sliceRange_one, pick_run, List.size_toArray] <;> rfl
def rSlL (K : PySem.W.Frag) : V → Option Int → Option Int → Hp → VK → Prop := fun x lo hi H Q => ∃ a xs, x = .ref a ∧ SqL K H a xs ∧ ∀ p, H p = none → Q (.ref p) (upd H p (.lst (cutV xs lo hi)))
theorem sl_list : SlR X (rSlL X.K) := by
  intro pins s σ H x v vl vu lo hi sl Q I rx hs pl pu h
  obtain ⟨a, xs, rfl, hx, q⟩ := h
  cases rx
  obtain ⟨its, r, ht, hz⟩ := I.list hx
  have hlen := r.length
  refine ⟨"list", _, slot_list_getitem.lookup, ht.isList.typeIs, ?_⟩
  refine wpAny_getItem_list_slice ht.isList hs pl pu .none (by simp) ?_ (by rw [List.size_toArray] <;> omega)
  rw [slicePick_cut, ← hlen]
  refine ⟨.ref s.heap.objs.size, _, I.laid (t' := s.toks) (o := .lst (cutV xs lo hi)) (fun b ob q => Heap.get?_push_of_some _ q) (Nat.le_refl _) ?_, rfl, q _ (I.hok.fresh (Nat.le_refl _))⟩
  exact ⟨Nat.le_trans (cutV_length xs lo hi) hz, _, 0, (r.drop (HT.sIx xs.length 0 lo)).take (HT.sIx xs.length xs.length hi - HT.sIx xs.length 0 lo), Heap.get?_push_size _ rfl⟩
def flatV : V → Bool
  | .non => true
  | .bl _ => true
  | .int _ => true
  | .str _ => true
  | _ => false
def eqV : V → V → Bool
  | .non, .non => true
  | .bl a, .bl b => a == b
  | .bl a, .int b => (if a then 1 else 0) == b
  | .int a, .bl b => a == (if b then 1 else 0)
  | .int a, .int b => a == b
  | .str a, .str b => a == b
  | _, _ => false
theorem eqAt_V {A : Around} {s : Shared} {y x : V} {u v : Value} (ry : RelV y u) (rx : RelV x v) (fy : flatV y = true) (fx : flatV x = true) : SeqAt.EqAt A s u v (eqV y x) := by
  cases y with
  | non =>
    cases ry
    cases x with
    | non => cases rx; exact SeqAt.EqAt.same _
    | bl b => cases rx; exact SeqAt.EqAt.none_bool b
    | int b => obtain ⟨t, rfl⟩ := rx; exact SeqAt.EqAt.none_int b t
    | str b => obtain ⟨t, rfl⟩ := rx; exact SeqAt.EqAt.none_str b t
    | _ => exact absurd (show false = true from fx) Bool.false_ne_true
  | bl a =>
    cases ry
    cases x with
    | non => cases rx; exact SeqAt.EqAt.bool_none a
    | bl b => cases rx; exact SeqAt.EqAt.bool_bool a b
    | int b => obtain ⟨t, rfl⟩ := rx; exact SeqAt.EqAt.bool_int a b t
    | str b => obtain ⟨t, rfl⟩ := rx; exact SeqAt.EqAt.bool_str a b t
    | _ => exact absurd (show false = true from fx) Bool.false_ne_true
  | int a =>
    obtain ⟨t', rfl⟩ := ry
    cases x with
    | non => cases rx; exact SeqAt.EqAt.int_none a t'
    | bl b => cases rx; exact SeqAt.EqAt.int_bool a t' b
    | int b => obtain ⟨t, rfl⟩ := rx; exact SeqAt.EqAt.int_int a t' b t
    | str b => obtain ⟨t, rfl⟩ := rx; exact SeqAt.EqAt.int_str a t' b t
    | _ => exact absurd (show false = true from fx) Bool.false_ne_true
  | str a =>
    obtain ⟨t', rfl⟩ := ry
    cases x with
    | non => cases rx; exact SeqAt.EqAt.str_none a t'
    | bl b => cases rx; exact SeqAt.EqAt.str_bool a t' b
    | int b => obtain ⟨t, rfl⟩ := rx; exact SeqAt.EqAt.str_int a t' b t
    | str b => obtain ⟨t, rfl⟩ := rx; exact SeqAt.EqAt.str_str a t' b t
    | _ => exact absurd (show false = true from fx) Bool.false_ne_true
  | _ => exact absurd (show false = true from fy) Bool.false_ne_true
def eqU (x : V) (u : Value) : Bool := match u with
  | .none => eqV .non x
  | .bool b => eqV (.bl b) x
  | .int i _ => eqV (.int i) x
  | .str z _ => eqV (.str z) x
  | _ => false
theorem eqU_of {x y : V} {u : Value} (r : RelV y u) (f : flatV y = true) : eqU x u = eqV y x := by
  cases y with
  | non => cases r; rfl
  | bl b => cases r; rfl
  | int i => obtain ⟨t, rfl⟩ := r; rfl
  | str z => obtain ⟨t, rfl⟩ := r; rfl
  | _ => exact absurd (show false = true from f) Bool.false_ne_true
theorem any_eqU {x : V} : ∀ {xs : List V} {us : List Value}, Vals xs us → xs.all flatV = true → us.any (eqU x) = xs.any fun y => eqV y x
  | _, _, .nil, _ => rfl
  | y :: xs, u :: us, .cons r t, f => by
    rw [List.all_cons, Bool.and_eq_true] at f
    rw [List.any_cons, List.any_cons, eqU_of r f.1, any_eqU t f.2]
theorem mem_eqAt {A : Around} {s : Shared} {x : V} {v : Value} (rx : RelV x v) (fx : flatV x = true) : ∀ {xs : List V} {us : List Value}, Vals xs us → xs.all flatV = true → ∀ u ∈ us, SeqAt.EqAt A s u v (eqU x u)
  | _, _, .nil, _ => fun u hu => by cases hu
  | y :: xs, u :: us, .cons r t, f => fun u' hu => by
    rw [List.all_cons, Bool.and_eq_true] at f
    rcases List.mem_cons.mp hu with rfl | hu
    · rw [eqU_of r f.1]; exact eqAt_V r rx f.1 fx
    · exact mem_eqAt rx fx t f.2 u' hu
def inV (x : V) (xs : List V) : Bool := xs.any fun y => eqV y x
def rIn (K : PySem.W.Frag) (neg : Bool) : R2 := fun x y H Q => ∃ p xs, y = .ref p ∧ (SqL K H p xs ∨ SqT K H p xs) ∧ flatV x = true ∧ xs.all flatV = true ∧ Q (.bl (if neg then !inV x xs else inV x xs)) H
theorem op_in_seq : OpR X (compareOp .In) (rIn X.K false) := by
  intro pins s σ H x y v u Q I rx ry h
  obtain ⟨p, xs, rfl, hq, fx, fs, q⟩ := h
  cases ry
  rcases hq with hq | hq
  · obtain ⟨its, r, pl, hz⟩ := I.list hq
    refine SeqAt.in_listAt (eqU x) pl.isList (fun w hw => mem_eqAt rx fx r fs w (by simpa using hw)) ⟨.bl _, H, I, rfl, ?_⟩
    rw [show its.toArray.any (eqU x) = its.any (eqU x) by simp, any_eqU r fs]
    exact q
  · obtain ⟨its, r, pl, hz⟩ := I.tuple hq
    refine SeqAt.in_tupleAt (eqU x) pl (fun w hw => mem_eqAt rx fx r fs w (by simpa using hw)) ⟨.bl _, H, I, rfl, ?_⟩
    rw [show its.toArray.any (eqU x) = its.any (eqU x) by simp, any_eqU r fs]
    exact q
theorem call_len_seq : CallR X (.builtin "len") (fun xs H Q => ∃ p ys, xs = [.ref p] ∧ (SqL X.K H p ys ∨ SqT X.K H p ys) ∧ Q (.int ys.length) H) := by
  intro pins s σ H xs us Q I r h
  obtain ⟨p, ys, rfl, hq, q⟩ := h
  obtain ⟨u, rfl, rx⟩ := vals1 r
  cases rx
  have hn := line63
  rcases hq with hq | hq
  · obtain ⟨its, r', pl, hz⟩ := I.list hq
    have hlen := r'.length
    exact Calls.call_len_list pl.isList (by simp only [List.size_toArray] <;> omega) ⟨.int ys.length, H, I.tok _, ⟨s.toks + 1, by rw [List.size_toArray, hlen]⟩, q⟩
  · obtain ⟨its, r', pl, hz⟩ := I.tuple hq
    have hlen := r'.length
    exact len_tuple pl (by simp only [List.size_toArray] <;> omega) ⟨.int ys.length, H, I.tok _, ⟨s.toks + 1, by rw [List.size_toArray, hlen]⟩, q⟩
theorem call_len_str : CallR X (.builtin "len") (fun xs H Q => ∃ z, xs = [.str z] ∧ z.length ≤ sizeLine ∧ Q (.int z.length) H) := by
  intro pins s σ H xs us Q I r h
  obtain ⟨z, rfl, hz, q⟩ := h
  obtain ⟨u, rfl, t, rfl⟩ := vals1 r
  have hn := line63
  exact len_str (by omega) ⟨.int z.length, H, I.tok _, ⟨_, rfl⟩, q⟩
theorem CallR.or {f : Value} {r r' : List V → Hp → VK → Prop} (h : CallR X f r) (h' : CallR X f r') : CallR X f (fun xs H Q => r xs H Q ∨ r' xs H Q) := by
  intro pins s σ H xs us Q I rs q
  rcases q with q | q
  · exact h pins s σ H xs us Q I rs q
  · exact h' pins s σ H xs us Q I rs q
theorem call_list_of : CallR X (.type "list") (fun xs H Q => ∃ p ys, xs = [.ref p] ∧ (SqL X.K H p ys ∨ SqT X.K H p ys) ∧ ∀ l, H l = none → Q (.ref l) (upd H l (.lst ys))) := by
  intro pins s σ H xs us Q I r h
  obtain ⟨p, ys, rfl, hq, q⟩ := h
  obtain ⟨u, rfl, rx⟩ := vals1 r
  cases rx
  have fin : ∀ (its : List Value), Vals ys its → ys.length ≤ sizeLine → ∀ (h' : Heap) (c' : Nat), (∀ b o', s.heap.get? b = some o' → h'.get? b = some o') →
      h'.get? s.heap.objs.size = some { cls := .type "list", dict := none, data := .seq its.toArray c', slots := #[] } → EP X pins σ Q (.ref s.heap.objs.size) { s with heap := h' } := fun its r' hz h' c' kp e =>
    ⟨.ref s.heap.objs.size, _, I.laid (t' := s.toks) kp (Nat.le_refl _) (show ObjOk X.prog X.w _ h' _ (.lst ys) from ⟨hz, its, c', r', e⟩), rfl, q _ (I.hok.fresh (Nat.le_refl _))⟩
  rcases hq with hq | hq
  · obtain ⟨its, r', pl, hz⟩ := I.list hq
    have hlen := r'.length
    obtain ⟨o, ho, hc, n, hd⟩ := pl.isList
    exact call_list_seq p (.inl rfl) ho hc hd (fun h' c' kp e => fin its r' hz h' c' kp e) (by simp only [List.size_toArray] <;> omega)
  · obtain ⟨its, r', pl, hz⟩ := I.tuple hq
    have hlen := r'.length
    obtain ⟨o, ho, hc, n, hd⟩ := pl
    exact call_list_seq p (.inr rfl) ho hc hd (fun h' c' kp e => fin its r' hz h' c' kp e) (by simp only [List.size_toArray] <;> omega)
def tyV (K : PySem.W.Frag) (T : String) (x : V) (H : Hp) : Prop := match x with
  | .str _ => T = "str"
  | .int _ => T = "int"
  | .ref p => (T = "list" ∧ ∃ xs, SqL K H p xs) ∨ (T = "tuple" ∧ ∃ o, K.lookup p = some o ∧ o.cls = .type "tuple" ∧ o.dict = none) ∨
      (T = "dict" ∧ ((∃ kvs, H p = some (.dK kvs)) ∨ ∃ kvs, H p = some (.dT kvs))) ∨ (T = "set" ∧ ∃ S n, H p = some (.set S n))
  | _ => False
theorem tyV_is {pins : List (Addr × Obj)} {σ : St} {H : Hp} {s : Shared} {T : String} {x : V} {v : Value} (I : Inv X pins σ H s) (r : RelV x v) (ty : tyV X.K T x H) :
    s.TypeIs v T ∧ ∀ a, v = .ref a → ∃ ob, s.heap.get? a = some ob ∧ ob.dict = none := by
  cases x with
  | str z =>
    obtain ⟨t, rfl⟩ := r
    cases (show T = "str" from ty)
    exact ⟨typeIs_str s z t, fun _ e => nomatch e⟩
  | int i =>
    obtain ⟨t, rfl⟩ := r
    cases (show T = "int" from ty)
    exact ⟨typeIs_int s i t, fun _ e => nomatch e⟩
  | ref p =>
    cases r
    rcases ty with ⟨rfl, xs, hq⟩ | ⟨rfl, o, hk, hc, hd⟩ | ⟨rfl, hk⟩ | ⟨rfl, S, n, hk⟩
    · obtain ⟨its, _, pl, _⟩ := I.list hq
      refine ⟨pl.isList.typeIs, fun a e => ?_⟩
      cases e
      obtain ⟨o, n, e, c, hd, _⟩ := pl
      exact ⟨o, e, hd⟩
    · refine ⟨⟨o, I.kIn p o hk, hc⟩, fun a e => ?_⟩
      cases e
      exact ⟨o, I.kIn _ o hk, hd⟩
    · have z : ∃ o, s.heap.get? p = some o ∧ o.ExactDict := by
        rcases hk with ⟨kvs, hk⟩ | ⟨kvs, hk⟩
        · obtain ⟨_, _, _, _, o, _, _, e, ex, _⟩ := I.hok p _ hk
          exact ⟨o, e, ex⟩
        · obtain ⟨_, _, _, _, o, _, _, e, ex, _⟩ := I.hok p _ hk
          exact ⟨o, e, ex⟩
      obtain ⟨o, e, ex⟩ := z
      refine ⟨⟨o, e, ex.1⟩, fun a e2 => ?_⟩
      cases e2
      exact ⟨o, e, ex.2.1⟩
    · obtain ⟨o, _, _, _, e, ex, _⟩ := I.hok p _ hk
      refine ⟨⟨o, e, ex.1⟩, fun a e2 => ?_⟩
      cases e2
      exact ⟨o, e, ex.2.1⟩
  | _ => exact False.elim ty
def tBM0 (K : PySem.W.Frag) (T : String) (r : V → List V → Hp → VK → Prop) (to : TE) : TE := fun σ H Q => to σ H fun x H1 => tyV K T x H1 ∧ r x [] H1 Q
def tBM (K : PySem.W.Frag) (T : String) (r : V → List V → Hp → VK → Prop) (to : TE) (t : TA) : TE := fun σ H Q => to σ H fun x H1 => tyV K T x H1 ∧ t σ H1 fun xs H2 => r x xs H2 Q
variable {o e : Expr} {es : List Expr} {to : TE} {t : TA} {name : Str} {apos cpos : Pos} {T id : String} {r : V → List V → Hp → VK → Prop}
theorem pe_bm0 (pa : PlainAttrs T) (slot : Slot T name id) (hty : typeOf (.builtin id) = pure (.type "method_descriptor")) (hm : MtR X id r) (ho : PE X o to)
    (hbase : attributeBase o name X.env (eval o X.env) = eval o X.env := by rfl) (hline : (apos.endLine == cpos.line) = true := by rfl) : PE X (.Call (.Attribute o name apos) [] [] cpos) (tBM0 X.K T r to) := by
  intro pins s σ H Q I h
  refine wpAny_Call_method0_late hbase hline (thn (ho pins s σ H _ I h) fun v s1 ⟨x, H1, I1, r1, ty, q1⟩ => ?_)
  obtain ⟨h1, h2⟩ := tyV_is I1 r1 ty
  exact ⟨T, id, pa, slot, hty, h1, h2, Calls.callWith_builtin rfl (PySem.evalArgs_none (hm pins s1 σ H1 x [] v [] Q I1 r1 .nil q1))⟩
theorem pe_bm (pa : PlainAttrs T) (slot : Slot T name id) (hty : typeOf (.builtin id) = pure (.type "method_descriptor")) (hm : MtR X id r) (ho : PE X o to) (ha : PA X (e :: es) t)
    (hbase : attributeBase o name X.env (eval o X.env) = eval o X.env := by rfl)
    (hfew : ((backTo cpos (starEach (e :: es) X.env)).all (fun x => !x.1) && (backToKw cpos (keywordEach [] X.env)).all (fun x => x.1.isSome)
      && decide ((e :: es).length + ([] : List Keyword).length + (if ([] : List Keyword).isEmpty then 0 else 1) < 30)) = true := by rfl)
    (hline : (apos.endLine == cpos.line) = true := by rfl) (hs : starEach (e :: es) X.env = (false, eval e X.env) :: starEach es X.env := by rfl) (hplain : (backTo cpos (starEach es X.env)).any (·.1) = false := by rfl) :
    PE X (.Call (.Attribute o name apos) (e :: es) [] cpos) (tBM X.K T r to t) := by
  intro pins s σ H Q I h
  refine wpAny_Call_method_late hbase hfew hline rfl (thn (ho pins s σ H _ I h) fun v s1 ⟨x, H1, I1, r1, ty, q1⟩ => ?_)
  obtain ⟨h1, h2⟩ := tyV_is I1 r1 ty
  refine ⟨T, id, pa, slot, hty, h1, h2, ?_⟩
  have hA := ha cpos pins s1 σ H1 _ I1 q1
  rw [hs] at hA ⊢
  refine Calls.callWith_builtin (by show (false || (backTo cpos (starEach es X.env)).any (·.1)) = false; rw [hplain] <;> rfl) (Calls.evalArgs_plain ?_)
  exact thn hA fun us s2 ⟨vs, H2, I2, r2, q2⟩ => hm pins s2 σ H2 x vs v us Q I2 r1 r2 q2
end
end L2
namespace L2
open PySem PySem.Spec PyProof.Rows
def MtM (X : Cx) (id : String) (r : V → List V → Hp → VK → Prop) : Prop :=
  ∀ (pins : List (Addr × Obj)) (s : Shared) (σ : St) (H : Hp) (x : V) (xs : List V) (v : Value) (us : List Value) (Q : VK), Inv X pins σ H s → RelV x v → Vals xs us → r x xs H Q →
    wpAny (model X.prog X.w) X.A (call (.builtin id) (v :: us)) (EP X pins σ Q) X.xe s
theorem Vals.one : ∀ {x : V} {us : List Value}, Vals [x] us → ∃ u, us = [u] ∧ RelV x u
  | _, _, .cons r .nil => ⟨_, rfl, r⟩
theorem Vals.two : ∀ {x y : V} {us : List Value}, Vals [x, y] us → ∃ u v, us = [u, v] ∧ RelV x u ∧ RelV y v
  | _, _, _, .cons r (.cons q .nil) => ⟨_, _, rfl, r, q⟩
theorem Vals.zero : ∀ {us : List Value}, Vals [] us → us = []
  | _, .nil => rfl
section
variable {X : Cx} {pins : List (Addr × Obj)} {σ : St} {H : Hp} {s : Shared} {l b : Addr} {xs ys zs : List V}
theorem Inv.lset {its its' : List Value} {n : Nat} {f : Array Value → Array Value} {t' : Nat} (I : Inv X pins σ H s) (hH : H l = some (.lst xs))
    (e : s.heap.get? l = some { cls := .type "list", data := .seq its.toArray n }) (hf : f its.toArray = its'.toArray) (hv : Vals ys its') (hz : ys.length ≤ sizeLine) :
    Inv X pins σ (upd H l (.lst ys)) { s with heap := s.heap.update l (Obj.mapSeq f), toks := t' } := by
  have q := PySem.IsL.update e f
  rw [hf] at q
  refine I.write (x := l) (e := l) (by rw [hH]; exact trivial) (.inl rfl) (fun b' u hb hu => (Heap.get?_update_other s.heap (Obj.mapSeq f) (Ne.symm hb)).trans hu) ⟨_, q⟩ ?_
  exact ⟨hz, its', _, hv, q⟩
theorem Inv.lnew {its : List Value} {t' : Nat} (I : Inv X pins σ H s) (hv : Vals ys its) (hz : ys.length ≤ sizeLine) :
    Inv X pins σ (upd H s.heap.objs.size (.lst ys)) { s with heap := s.heap.push { cls := .type "list", data := .seq its.toArray }, toks := t' } :=
  I.laid (fun _ _ q => Heap.get?_push_of_some _ q) (Nat.le_refl _) ⟨hz, its, 0, hv, Heap.get?_push_size _ rfl⟩
theorem Inv.fresh (I : Inv X pins σ H s) : H s.heap.objs.size = none := I.hok.fresh (Nat.le_refl _)
theorem Inv.lstM (I : Inv X pins σ H s) (hH : H l = some (.lst xs)) : xs.length ≤ sizeLine ∧ ∃ (its : List Value) (n : Nat), Vals xs its ∧ xs.length = its.length ∧ s.heap.get? l = some { cls := .type "list", data := .seq its.toArray n } := by
  obtain ⟨z, its, n, r, e⟩ := I.hok l _ hH
  exact ⟨z, its, n, r, r.length, e⟩
end
section
variable {X : Cx}
def rAppend : V → List V → Hp → VK → Prop := fun x vs H Q => ∃ l xs y, x = .ref l ∧ vs = [y] ∧ H l = some (.lst xs) ∧ xs.length < sizeLine ∧ Q .non (upd H l (.lst (xs ++ [y])))
theorem mt_append : MtM X "list.append" rAppend := by
  intro pins s σ H x vs v us Q I rx rv h
  obtain ⟨l, xs, y, rfl, rfl, hH, hz, q⟩ := h
  cases rx
  obtain ⟨u, rfl, ru⟩ := rv.one
  obtain ⟨z, its, n, r, hl, e⟩ := I.lstM hH
  refine call_meets F.slot_list_append ⟨_, e, rfl⟩ F.entry_list_append (F.args_list_append_2 _ _) (PySem.list_append l its.toArray n u (by rw [List.size_toArray]; omega)) ⟨e, ?_⟩
  refine ⟨.non, _, I.lset (its' := its ++ [u]) hH e (by simp) (r.append (.cons ru .nil)) ?_, rfl, q⟩
  rw [List.length_append, List.length_singleton]
  omega
def rClear : V → List V → Hp → VK → Prop := fun x vs H Q => ∃ l xs, x = .ref l ∧ vs = [] ∧ H l = some (.lst xs) ∧ Q .non (upd H l (.lst []))
theorem mt_clear : MtM X "list.clear" rClear := by
  intro pins s σ H x vs v us Q I rx rv h
  obtain ⟨l, xs, rfl, rfl, hH, q⟩ := h
  cases rx
  have hus := rv.zero
  subst hus
  obtain ⟨z, its, n, r, hl, e⟩ := I.lstM hH
  refine call_meets F.slot_list_clear ⟨_, e, rfl⟩ F.entry_list_clear (F.args_list_clear_1 _) (AutoSeq1.list_clear_list_0 l its.toArray n (by rw [List.size_toArray]; omega)) ⟨e, ?_⟩
  exact ⟨.non, _, I.lset (its' := []) (ys := []) hH e rfl .nil (Nat.zero_le _), rfl, q⟩
end
section
variable {prog : Program} {w : World} {A : Around} {E : Value → Shared → Prop} {s : Shared}
end
section
variable {X : Cx}
end
end L2
namespace Att
open PySem PySem.W PySem.Calls PyProof.Rows
theorem ints_of_wellAll {P : Params} {h : Heap} : ∀ (ns : List Int) (vs : List Value), WellAll P h vs (ns.map WData.int) → IntsAre vs ns := by
  intro ns
  induction ns with
  | nil =>
    intro vs w
    rw [List.map_nil] at w
    cases w
    exact .nil
  | cons n ns ih =>
    intro vs w
    rw [List.map_cons] at w
    cases w with
    | cons a b =>
      cases a
      exact .cons _ _ (ih _ b)
theorem script_of {l : OpenLaw} {n : Nat} (hn : l.most = some n) {P : Params} {h : Heap} {args : List WData} {vals : List Value}
    (hpre : l.row.toRowW.claim.pre args = true) (hwl : WellAll P h vals args) :
    ∃ a vs ns, vals = [Value.ref a] ∧ args = [WData.list (ns.map WData.int)] ∧ h.get? a = some { cls := .type "list", data := .seq vs.toArray } ∧ IntsAre vs ns ∧ ns.length ≤ n := by
  have hsh : WShape.hasAll [] args [.list .int] = true := (pre_splitW hpre).1
  have hc : l.pre.holds [] { args := args } = true := (pre_splitW hpre).2
  obtain ⟨d, r, rfl, h1, h2⟩ := hasAllW_cons hsh
  obtain rfl := hasAllW_nil h2
  obtain ⟨xs, rfl, h3⟩ := hasW_list h1
  obtain ⟨ns, rfl⟩ := items_int h3
  have hlen : ns.length ≤ n := by
    unfold OpenLaw.pre at hc
    have h4 : (WTm.not (.lt (.lit (.int (n : Int))) (.len (.arg 0)))).holds [] { args := [.list (ns.map .int)] } = true := by
      have h4 := (holds_andW hc).1
      rw [hn] at h4
      exact h4
    have h5 := condW_of h4 (w_not (w_lt w_lit (w_len_list (w_arg rfl))))
    rw [List.length_map] at h5
    refine Nat.le_of_not_lt fun q => ?_
    have q' : (n : Int) < ((ns.length : Nat) : Int) := by omega
    first
      | (rw [decide_eq_true q'] at h5; exact absurd h5 (by decide))
      | (simp at h5; omega)
  cases hwl with
  | cons w1 w2 =>
    cases w2
    cases w1 with
    | list ho hall => exact ⟨_, _, ns, rfl, rfl, ho, ints_of_wellAll ns _ hall, hlen⟩
theorem post_true (l : OpenLaw) (args : List WData) : l.row.toRowW.claim.post args (.bool true) args = true :=
  postW_of (r := l.row.toRowW) (X := (true == true))
    (show WShape.has [] (.bool true) .bool = true by first | rfl | decide | simp [WShape.has, WShape.arms, WShape.armsAll])
    (show (WTm.eq .res (.lit (.bool true))).value [] { args := args, res := some (.bool true), after := args } = some (.bool (true == true)) from w_eq_bool (w_res rfl) w_lit) rfl
theorem attach_call {l : OpenLaw} {n : Nat} {q : Program} {loose : List Str} {XP : (Str → Option Value) → Heap → Prop} {YP : World → Heap → Prop} {d : DefRec}
    (hn : l.most = some n) (hdf : d.params.defaults = [])
    (call : ∀ (w : World) (s₀ s₁ : Shared) (mg mb : Str → Option Value) (fa : Addr) (o : Obj) (pm cd doc : Value) (a : Addr) (vs : List Value) (ns : List Int),
      Ground q loose [] XP w s₀ mg mb s₁.heap → YP w s₁.heap →
      s₁.heap.get? fa = some o → o.data = .func (docDef d.name d.params d.body d.scope pm cd doc) → s₁.heap.CodeRec cd d.name → mg d.name = some (.ref fa) →
      s₁.heap.get? a = some { cls := .type "list", data := .seq vs.toArray } → IntsAre vs ns → ns.length ≤ n → s₁.gens = #[] →
      codeAny (model l.prog w) callerA (.call (.ref fa) ⟨[.ref a], []⟩) (fun r s' => r = .ok (.ret (.bool true)) ∧ OldK s₁.heap s'.heap ∧ s'.os = s₁.os ∧ AllBare s'.gens) s₁) :
    WalkO q loose XP YP l.row.toRowW d [] (fun f vs => PySem.call f vs) := by
  intro w s₀ s₁ mg mb G Y fa o pm cd doc dV kV ho hd hcd hD hmg hg args vals as hpre hlay hrd hwl hlo
  obtain rfl : dV = .none := Dflts.none hD hdf
  obtain rfl : kV = .none := Dflts.noKw hD
  obtain ⟨a, vs, ns, rfl, rfl, hobj, hints, hlen⟩ := script_of hn hpre hwl
  refine enter_call (codeAny_mono (call w s₀ s₁ mg mb fa o pm cd doc a vs ns G Y ho (fd_plain hd) hcd hmg hobj hints hlen hg) fun r s' hq => ?_)
  obtain ⟨rfl, h2, h3, h4⟩ := hq
  exact ⟨.inl ⟨.bool true, .bool true, [], rfl, fun _ => rfl, .bool true, post_true l _, fun _ => ⟨List.Pairwise.nil, fun _ hm => (nomatch hm)⟩⟩, h2, h3, h4⟩
section
variable {prog : Program} {w : World} {A : Around} {E : Value → Shared → Prop} {s : Shared} {K : Frag}
end
end Att
namespace L2
open PySem PySem.Spec PyProof.Rows
theorem vals_ints : ∀ {vs : List Value} {ns : List Int}, IntsAre vs ns → Vals (ns.map V.int) vs
  | _, _, .nil => .nil
  | _, _, .cons n t h => .cons ⟨t, rfl⟩ (vals_ints h)
def Only (H : Hp) : Prop := ∀ b, H b = none ∨ ∃ o xs, H b = some (.frz o (.lst xs))
theorem law_call {P : Program} {w : World} {K : PySem.W.Frag} {mg mb : Str → Option Value} {CX : CXT} {k : Nat} {fa a : Addr} {fd : FuncData} {x : Str} {sp : Sp} {s₁ : Shared} {vs : List Value} {ns : List Int}
    (KX : K.In s₁.heap) (hns : s₁.heap.Ns mainGlobals mg) (hb : s₁.heap.Ns builtinsNs mb) (hbb : ∀ x : Str, x ≠ "__name__" → mb x = bootBuiltins x) (hlim : s₁.heap.NoLimit) (hg : s₁.gens = #[])
    (ha : s₁.heap.get? a = some { cls := .type "list", data := .seq vs.toArray }) (hi : IntsAre vs ns) (hl : ns.length ≤ sizeLine) (hr : Room k callerA)
    (F : ∀ base : Heap, K.In base → base.Ns mainGlobals mg → FnOk P w K mg base CX k fa fd [x] sp) (hbind : ∀ (s : Shared) (u : Value), BindsTo s fd ⟨[u], []⟩ [(x, u)])
    (hsp : ∀ H : Hp, Only H → SqL K H a (ns.map V.int) → sp [.ref a] H (fun v _ => v = .bl true) fun _ _ _ => False)
    (hCX : ∀ H e s', CX [] H s₁ (fun _ _ _ => False) e s' → False) :
    codeAny (model P w) callerA (.call (.ref fa) ⟨[.ref a], []⟩) (fun r s' => r = .ok (.ret (.bool true)) ∧ OldK s₁.heap s'.heap ∧ s'.os = s₁.os ∧ AllBare s'.gens) s₁ := by
  have rv := vals_ints hi
  have lenV := hi.length
  -- from an abstract heap in which nothing but the script may be tracked
  have core : ∀ H : Hp, Only H → SqL K H a (ns.map V.int) → HOk P w H s₁.heap → (∀ b, H b ≠ none → b = a) → (H a ≠ none → K.lookup a = none) →
      codeAny (model P w) callerA (.call (.ref fa) ⟨[.ref a], []⟩) (fun r s' => r = .ok (.ret (.bool true)) ∧ OldK s₁.heap s'.heap ∧ s'.os = s₁.os ∧ AllBare s'.gens) s₁ := by
    intro H hO hS hok hA hK
    have base_of : ∀ {b : Addr} {o : Obj}, s₁.heap.get? b = some o → H b = none → (hidT s₁.heap H).get? b = some o := fun e n => hidT_get e n
    have noA : ∀ {b : Addr} {o : Obj} {es : Array DictEntry} {ep : Nat}, s₁.heap.get? b = some o → o.data = .dict es ep → H b = none := fun {b o es ep} e d => by
      cases q : H b with
      | none => rfl
      | some u =>
        have e' : b = a := hA b (by rw [q]; simp)
        subst e'
        rw [ha] at e; cases e
        have d' : Data.seq vs.toArray _ = Data.dict es ep := d
        cases d'
    have nsK : ∀ {b : Addr} {m : Str → Option Value}, s₁.heap.Ns b m → (hidT s₁.heap H).Ns b m := fun {b m} ⟨o, es, ep, e, d, r⟩ => ⟨o, es, ep, base_of e (noA e d), d, r⟩
    have hKb : K.In (hidT s₁.heap H) := fun b o e => base_of (KX b o e) (by
      cases q : H b with
      | none => rfl
      | some u =>
        have e' : b = a := hA b (by rw [q]; simp)
        subst e'
        rw [hK (by rw [q]; simp)] at e; cases e)
    have hM : Mod K mg (hidT s₁.heap H) := ⟨hKb, nsK hns, ⟨mb, nsK hb, hbb⟩, let ⟨mc, h1, h2⟩ := hlim; ⟨mc, nsK h1, h2⟩⟩
    have e0 : Env0 P w K mg (hidT s₁.heap H) callerA [] s₁ H := ⟨rfl, hM, fun b o e => of_hidT e, Nat.le_of_eq (hidT_size _ _), trivial, fun b hb => absurd (show b ∈ ([] : List Addr) from hb) (by simp), hok, .of_eq hg⟩
    refine codeAny_mono ((F _ hKb (nsK hns)).run callerA [] s₁ H ⟨[.ref a], []⟩ [.ref a] [.ref a] _ _ hr e0 (hbind s₁ (.ref a)) (.cons rfl .nil) (hsp H hO hS)) fun r s' h => ?_
    cases r with
    | error e => exact (hCX H e s' h).elim
    | ok fl =>
      cases fl with
      | next => exact False.elim h
      | brk => exact False.elim h
      | cont => exact False.elim h
      | ret u =>
        obtain ⟨v, H', os, bare, un, hok', r', q⟩ := h
        have q' : v = .bl true := q
        subst q'
        obtain rfl : u = Value.bool true := r'
        refine ⟨rfl, OldK.of_keep fun b o e => ?_, os, bare⟩
        cases q : H b with
        | none => exact un.keep b o e q (by intro z; exact absurd (show b ∈ ([] : List Addr) from z) (by simp)) (by simp)
        | some u =>
          rcases hO b with z | ⟨ob, xs, z⟩
          · rw [q] at z; cases z
          · have z2 := un.frzs b ob _ z
            obtain ⟨e1, _⟩ := hok b _ z
            obtain ⟨e2, _⟩ := hok' b _ z2
            rw [e] at e1; cases e1
            exact e2
  cases hk : K.lookup a with
  | some o =>
    -- the script is one of the module's own objects
    have e := KX a o hk
    rw [ha] at e
    cases e
    refine core (fun _ => none) (fun _ => .inl rfl) (.inr ⟨_, vs.toArray, _, hk, rfl, rfl, rfl, by rw [List.size_toArray, lenV]; exact hl, by simpa using rv⟩) (fun b u z => by have z' : (none : Option HO) = some u := z; cases z') (fun b z => absurd rfl z) fun z => absurd rfl z
  | none =>
    refine core (fun b => if b = a then some (.frz { cls := .type "list", data := .seq vs.toArray } (.lst (ns.map V.int))) else none) (fun b => ?_) (.inl (.inr ⟨{ cls := .type "list", data := .seq vs.toArray }, if_pos rfl⟩)) (fun b u z => ?_) (fun b z => ?_) fun _ => hk
    · by_cases hb : b = a
      · exact .inr ⟨_, _, if_pos hb⟩
      · exact .inl (if_neg hb)
    · by_cases hb : b = a
      · have z' := (if_pos hb).symm.trans z
        cases z'
        subst hb
        exact ⟨ha, by rw [List.length_map]; exact hl, vs, _, rv, ha⟩
      · have z' := (if_neg hb).symm.trans z
        cases z'
    · by_cases hb : b = a
      · exact hb
      · exact absurd (if_neg hb) z
end L2
namespace L2
open PySem PySem.Spec PyProof.Rows
theorem walk_of {l : PySem.W.OpenLaw} {n k : Nat} {q : Program} {loose : List Str} {XP : (Str → Option Value) → Heap → Prop} {YP : World → Heap → Prop} {d : DefRec} {K : Params → PySem.W.Frag} {CX : World → CXT} {sp : World → Sp} {x : Str}
    (hn : l.most = some n) (hn2 : n ≤ sizeLine) (hdf : d.params.defaults = []) (hr : Room k callerA)
    (hY : ∀ (w : World) (h : Heap), YP w h → (K w.params).In h)
    (F : ∀ (w : World) (mg : Str → Option Value) (fa : Addr) (h : Heap), (K w.params).In h → h.Ns mainGlobals mg → mg d.name = some (.ref fa) →
      ∃ fd : FuncData, (∀ (s : Shared) (u : Value), BindsTo s fd ⟨[u], []⟩ [(x, u)]) ∧
        ∀ base : Heap, (K w.params).In base → base.Ns mainGlobals mg → FnOk l.prog w (K w.params) mg base (CX w) k fa fd [x] (sp w))
    (hsp : ∀ (w : World) (H : Hp) (a : Addr) (ns : List Int), ns.length ≤ n → Only H → SqL (K w.params) H a (ns.map V.int) → sp w [.ref a] H (fun v _ => v = .bl true) fun _ _ _ => False)
    (hCX : ∀ (w : World) (H : Hp) (s : Shared) (e : Value) (s' : Shared), CX w [] H s (fun _ _ _ => False) e s' → False) :
    PySem.W.WalkO q loose XP YP l.row.toRowW d [] (fun f vs => PySem.call f vs) := by
  refine Att.attach_call hn hdf fun w s₀ s₁ mg mb fa o pm cd doc a vs ns G Y ho hd hcd hmg hobj hints hlen hg => ?_
  have KX := hY w _ Y
  obtain ⟨fd, hb, hF⟩ := F w mg fa _ KX G.T.g hmg
  exact law_call KX G.T.g G.T.b G.T.builtins G.T.nolimit hg hobj hints (Nat.le_trans hlen hn2) hr hF hb (fun H hO hS => hsp w H a ns hlen hO hS) fun H e s' => hCX w H s₁ e s'
end L2
namespace L2
open PySem PySem.Spec PyProof.Rows
def inClass (s : Stmt) (j : Nat) : Stmt := match s with
  | .ClassDef _ _ _ body _ _ _ _ _ _ _ => body.getD j (.Pass ⟨0, 0, 0, 0⟩)
  | _ => .Pass ⟨0, 0, 0, 0⟩
def defArgs (s : Stmt) : Arguments := match s with
  | .FunctionDef _ a _ _ _ _ _ _ _ _ => a
  | _ => { posonlyargs := [], args := [], vararg := none, kwonlyargs := [], kw_defaults := [], kwarg := none, defaults := [] }
def defBody (s : Stmt) : List Stmt := match s with
  | .FunctionDef _ _ b _ _ _ _ _ _ _ => b
  | _ => []
def defScope (s : Stmt) : Scope := match s with
  | .FunctionDef _ _ _ _ _ _ sc _ _ _ => sc
  | _ => { kind := .function, names := [], isGenerator := false, isCoroutine := false }
abbrev CX0 : CXT := fun _ _ _ _ _ _ => False
abbrev E0 : XK := fun _ _ _ => False
theorem pass0 {X : Cx} : Passes CX0 X E0 := fun _ _ _ _ _ _ _ h => h.elim
structure Fun (K : PySem.W.Frag) (x qual : Str) (st : Stmt) (f : Addr) (fd : FuncData) : Prop where
  ex : ∃ (oc : Value) (od : Option Addr) (kV doc pm : Value) (an : Option Addr) (cdv ct : Value) (osl : Array (Option Value)),
    fd = PySem.W.fnOf x qual (defArgs st) (defBody st) (defScope st) .none kV doc pm an cdv ct ∧ K.lookup f = some ⟨oc, od, .func fd, osl⟩ ∧ PySem.W.codeIn K cdv qual = true
  kp : PySem.W.keepIn K (.ref f) = true
section
variable {P : Program} {w : World} {K : PySem.W.Frag} {mg : Str → Option Value} {base : Heap}
theorem Fun.ok {x qual : Str} {st : Stmt} {f : Addr} {fd : FuncData} {N ps : List Str} {k : Nat} {sp : Sp} (F : Fun K x qual st f fd) (S : FnScope N ps (defScope st)) (len : ∀ vs H Q E, sp vs H Q E → vs.length = ps.length)
    (hbody : ∀ (cdv : Value) (A : Around) (outer : List Env) (s : Shared) (H : Hp) (vs : List V) (Q : VK) (E : XK), Room k (A.deeper (envOfC qual (defScope st) s.heap.objs.size f cdv)) → sp vs H Q E →
      ∃ t, PSs (cxOf CX0 P w K mg base N qual (defScope st) f cdv A outer s H E).nox (defBody st) t ∧ t { nx := fun _ H' => Q .non H', rt := Q } (start N vs) H) : FnOk P w K mg base CX0 (k + 1) f fd ps sp := by
  obtain ⟨oc, od, kV, doc, pm, an, cdv, ct, osl, rfl, lk, hcd⟩ := F.ex
  refine fn_of lk hcd S len fun A outer s H vs Q E hr hsp => ?_
  obtain ⟨t, h, q⟩ := hbody cdv A outer s H vs Q E hr hsp
  exact ⟨t, h.nox, q⟩
theorem Fun.binds {x qual : Str} {st : Stmt} {f : Addr} {fd : FuncData} {ps : List Str} (F : Fun K x qual st f fd)
    (h : ∀ (kV doc pm : Value) (an : Option Addr) (cdv ct : Value) (us : List Value), us.length = ps.length → bindArgs (PySem.W.fnOf x qual (defArgs st) (defBody st) (defScope st) .none kV doc pm an cdv ct) ⟨us, []⟩ = pure (ps.zip us)) : Binds K fd ps [] := by
  obtain ⟨oc, od, kV, doc, pm, an, cdv, ct, osl, rfl, lk, hcd⟩ := F.ex
  exact .all (h kV doc pm an cdv ct)
theorem fun_mk {x qual : Str} {st : Stmt} {f : Addr} {oc : Value} {od an : Option Addr} {osl : Array (Option Value)} {kV doc pm cdv ct : Value} (l : K.lookup f = some ⟨oc, od, .func (PySem.W.fnOf x qual (defArgs st) (defBody st) (defScope st) .none kV doc pm an cdv ct), osl⟩)
    (c : PySem.W.codeIn K cdv qual = true) (k : PySem.W.keepIn K (.ref f) = true) : Fun K x qual st f (PySem.W.fnOf x qual (defArgs st) (defBody st) (defScope st) .none kV doc pm an cdv ct) := ⟨⟨oc, od, kV, doc, pm, an, cdv, ct, osl, rfl, l, c⟩, k⟩
end
section
variable {X : Cx}
theorem pv (i : Nat) {x : Str} {pos : Pos} (hN : X.N[i]? = some x := by rfl) (hv : Vis X.env.scope x := by first | exact Or.inl rfl | exact Or.inr (Or.inl rfl) | exact Or.inr (Or.inr rfl)) (hd : (x == ("__debug__" : Str)) = false := by decide)
    (hcd : (x == ("__classdict__" : Str)) = false := by decide) : PE X (.Name x pos) (tVar i) := pe_var hN hv hd hcd
end
def Same (H H' : Hp) : Prop := ∀ b o, H b = some o → H' b = some o
theorem Same.refl (H : Hp) : Same H H := fun _ _ h => h
theorem Same.trans {H H1 H2 : Hp} (a : Same H H1) (b : Same H1 H2) : Same H H2 := fun c o h => b c o (a c o h)
theorem Same.free {H H' : Hp} (e : Same H H') {l : Addr} (h : H' l = Option.none) : H l = Option.none := by
  cases q : H l with
  | none => rfl
  | some o =>
    rw [e l o q] at h
    cases h
theorem Same.seq {K : PySem.W.Frag} {H H' : Hp} {a : Addr} {xs : List V} (e : Same H H') (h : SqL K H a xs) : SqL K H' a xs := by
  rcases h with (h | ⟨o, h⟩) | h
  · exact .inl (.inl (e _ _ h))
  · exact .inl (.inr ⟨o, e _ _ h⟩)
  · exact .inr h
end L2
set_option Elab.async false
set_option linter.all false
set_option maxRecDepth 100000
namespace L2
open PySem PySem.Spec PyProof.Rows
def clGo (cells : List (Str × Addr)) : List (Str × NameKind) → List (Str × Addr) → List (Str × Addr)
  | [], cs => cs
  | (n, k) :: r, cs => clGo cells r (if k == .free then (n, (cells.lookup n).getD 0) :: cs else cs)
def clOf (scope : Scope) (env : Env) : List (Str × Addr) := clGo env.cells scope.names []
theorem clGo_eq {env : Env} : ∀ (names : List (Str × NameKind)) (cs : List (Str × Addr)), (∀ y ∈ names, y.2 = .free → ∃ c, env.cells.lookup y.1 = some c) →
    (forIn names cs fun (x : Str × NameKind) (r : List (Str × Addr)) => (match x with
      | (name, kind) => if (kind == NameKind.free) = true then do let a ← cellOf env name; pure (ForInStep.yield ((name, a) :: r)) else pure (ForInStep.yield r) : Sem (ForInStep (List (Str × Addr))))) = (pure (clGo env.cells names cs) : Sem _)
  | [], cs, _ => rfl
  | (n, k) :: r, cs, h => by
    have hr := fun cs' => clGo_eq (env := env) r cs' fun y hy => h y (List.mem_cons_of_mem _ hy)
    rw [List.forIn_cons]
    by_cases hk : (k == NameKind.free) = true
    · obtain ⟨c, hc⟩ := h (n, k) List.mem_cons_self (by simpa using hk)
      have e1 : cellOf env n = pure c := by unfold cellOf; rw [hc]
      simp only [hk, if_true, e1, pure_bind]
      rw [hr]
      unfold clGo
      rw [if_pos hk, hc]
      conv => rhs; unfold clGo
      rfl
    · simp only [hk, if_false, pure_bind, Bool.false_eq_true]
      rw [hr]
      conv => rhs; unfold clGo
      rw [if_neg hk]
theorem closure_of {scope : Scope} {env : Env} (h : ∀ y ∈ scope.names, y.2 = .free → ∃ c, env.cells.lookup y.1 = some c) : closureFor scope env = pure (clOf scope env) := by
  unfold closureFor clOf
  rw [← clGo_eq scope.names [] h]
  simp
theorem clGo_lookup {cells : List (Str × Addr)} {x : Str} {c : Addr} : ∀ (names : List (Str × NameKind)) (cs : List (Str × Addr)), (∀ y ∈ names, y.2 = .free → ∃ d, cells.lookup y.1 = some d) → (∀ d, cs.lookup x = some d → cells.lookup x = some d) →
    (clGo cells names cs).lookup x = some c → cells.lookup x = some c
  | [], cs, _, hc, h => hc c h
  | (n, k) :: r, cs, hn, hc, h => by
    unfold clGo at h
    refine clGo_lookup r _ (fun y hy => hn y (List.mem_cons_of_mem _ hy)) ?_ h
    intro d hd
    by_cases hk : (k == NameKind.free) = true
    · rw [if_pos hk] at hd
      obtain ⟨e, he⟩ := hn (n, k) List.mem_cons_self (by simpa using hk)
      simp only at he
      rw [List.lookup_cons] at hd
      cases hx : x == n with
      | true =>
        have : x = n := by simpa using hx
        subst this
        rw [hx] at hd
        simp only [Option.some.injEq] at hd
        rw [he] at hd ⊢
        simp at hd
        rw [hd]
      | false =>
        rw [hx] at hd
        exact hc d hd
    · rw [if_neg hk] at hd
      exact hc d hd
theorem clGo_has {cells : List (Str × Addr)} {x : Str} : ∀ (names : List (Str × NameKind)) (cs : List (Str × Addr)), ((x, NameKind.free) ∈ names ∨ ∃ d, cs.lookup x = some d) → ∃ d, (clGo cells names cs).lookup x = some d
  | [], cs, h => by
    rcases h with h | h
    · cases h
    · exact h
  | (n, k) :: r, cs, h => by
    unfold clGo
    refine clGo_has r _ ?_
    rcases h with h | ⟨d, h⟩
    · rcases List.mem_cons.mp h with e | h
      · cases e
        exact .inr ⟨_, by rw [if_pos (by rfl), List.lookup_cons, beq_self_eq_true]⟩
      · exact .inl h
    · refine .inr ?_
      split
      · rw [List.lookup_cons]
        cases hx : x == n with
        | true => exact ⟨_, rfl⟩
        | false => exact ⟨d, h⟩
      · exact ⟨d, h⟩
theorem mem_relabel {scope : Scope} {env : Env} {x : Str} {k : NameKind} (h : (relabel scope env).names.lookup x = some k) (hk : k = .cell ∨ k = .free) (hc : ∀ y ∈ scope.names, y.2 ≠ .cell) : (x, NameKind.free) ∈ scope.names := by
  have hm := PySem.mem_of_lookup h
  unfold relabel at hm
  obtain ⟨⟨n, k'⟩, hy, e⟩ := List.mem_map.mp hm
  by_cases q : (k' == NameKind.free && env.scope.kind == .function && env.kindOf n == some .cell) = true
  · simp only [q, if_true] at e
    cases e
    have : k' = .free := by
      simp only [Bool.and_eq_true, beq_iff_eq] at q
      exact q.1.1
    subst this
    exact hy
  · simp only [q, if_false, Bool.false_eq_true] at e
    cases e
    rcases hk with rfl | rfl
    · exact absurd rfl (hc _ hy)
    · exact hy
def lift (ix : List (Option Nat)) (σ : St) : St := ix.map fun o => match o with
  | none => none
  | some i => match σ[i]? with
    | some v => v
    | none => none
structure CompScope (X : Cx) (scope : Scope) (N : List Str) (ix : List (Option Nat)) : Prop where
  kind : scope.kind = .function
  nocell : ∀ y ∈ scope.names, y.2 ≠ .cell
  locs : ∀ y ∈ scope.names, y.2 = .local → scope.names.lookup y.1 = some .local
  free : ∀ y ∈ scope.names, y.2 = .free → X.env.kindOf y.1 = some .cell ∨ X.env.kindOf y.1 = some .free
  len : ix.length = N.length
  nd : N.Nodup
  from' : ∀ j i : Nat, ix[j]? = some (some i) → ∃ x, N[j]? = some x ∧ X.N[i]? = some x ∧ (X.env.kindOf x = some .cell ∨ X.env.kindOf x = some .free) ∧ ((relabel scope X.env).names.lookup x = some .cell ∨ (relabel scope X.env).names.lookup x = some .free)
def compCx (X : Cx) (scope : Scope) (N : List Str) (s₀ : Shared) (H₀ : Hp) (C : Addr) (ex : List Addr) : Cx where
  prog := X.prog
  w := X.w
  K := X.K
  mg := X.mg
  base := X.base
  A := X.A
  N := N
  s₀ := s₀
  H₀ := H₀
  env := compEnvC scope (clOf scope X.env) C X.env
  outer := X.stack
  stack := X.stack
  ex := ex
  fn := fun _ => false
  calm := X.calm
  pn := []
  xe := fun _ _ => False
section
variable {X : Cx} {pins : List (Addr × Obj)} {σ : St} {H : Hp} {s : Shared} {scope : Scope} {N : List Str} {ix : List (Option Nat)}
theorem CompScope.cells (S : CompScope X scope N ix) (I : Inv X pins σ H s) : ∀ y ∈ scope.names, y.2 = .free → ∃ c, X.env.cells.lookup y.1 = some c := fun y hy hk => I.ok.has y.1 (S.free y hy hk)
theorem CompScope.sub (S : CompScope X scope N ix) (I : Inv X pins σ H s) {x : Str} {c : Addr} (h : (clOf scope X.env).lookup x = some c) : X.env.cells.lookup x = some c :=
  clGo_lookup scope.names [] (S.cells I) (fun d h => by simp at h) h
theorem CompScope.start (S : CompScope X scope N ix) (I : Inv X pins σ H s) {fp : List Addr} {C D : Addr} {h' : Heap} {tk : Nat} (hf : ∀ b ∈ fp, FpOk X pins H b) (hfo : ∀ b ∈ fp, ∃ o, s.heap.get? b = some o) (hD : D = s.heap.objs.size) (hC : s.heap.objs.size < C)
    (k : ∀ b o, s.heap.get? b = some o → h'.get? b = some o) (hn : h'.Ns C fun _ => none) : Inv (compCx X scope N s H C (D :: fp)) [] (lift ix σ) H { s with heap := h', toks := tk } := by
  have ltC : ∀ x c, X.env.cells.lookup x = some c → c < s.heap.objs.size := fun x c e => let ⟨v, q⟩ := I.cell x c e; q.lt
  refine ⟨⟨I.ok.mod, S.kind, I.ok.glob, I.ok.blt, Nat.le_of_lt hC, fun x y c h1 h2 => I.ok.inj x y c (S.sub I h1) (S.sub I h2), fun x hx => ?_, fun x c z => ?_, I.ok.hd, I.ok.frames, .inl rfl, fun b hb => ?_, I.bs, Nat.le_trans I.ok.bsz I.sz, fun b o e hb => ?_, fun b hb hb' => ?_, I.stack, I.stkFree⟩,
    rfl, I.bare, Un.kept k, ⟨_, hn, fun j x v e1 e2 e3 => ?_⟩, fun x c e => ?_, I.hok.fresh (Nat.le_of_lt hC), fun x c e => I.freeC x c (S.sub I e), fun p hp => absurd (show p ∈ ([] : List (Addr × Obj)) from hp) (by simp), I.hok.kept k, ?_⟩
  · have hx : (relabel scope X.env).names.lookup x = some .cell ∨ (relabel scope X.env).names.lookup x = some .free := hx
    have hm : (x, NameKind.free) ∈ scope.names := by
      rcases hx with h | h
      · exact mem_relabel h (.inl rfl) S.nocell
      · exact mem_relabel h (.inr rfl) S.nocell
    exact clGo_has _ _ (.inl hm)
  · cases z
  · rcases List.mem_cons.mp hb with e | hb
    · subst e
      subst hD
      exact ⟨Nat.ne_of_lt hC, fun x c e z => absurd (ltC x c (S.sub I e)) (by rw [z]; exact Nat.lt_irrefl _)⟩
    · obtain ⟨o, e⟩ := hfo b hb
      exact ⟨Nat.ne_of_lt (Nat.lt_trans (Heap.lt_size e) hC), fun x c e => (hf b hb).2.2.2.2.1 x c (S.sub I e)⟩
  · have lb := Nat.lt_of_lt_of_le (Heap.lt_size e) I.ok.bsz
    rcases List.mem_cons.mp hb with z | hb
    · subst z
      subst hD
      exact absurd (Nat.lt_of_lt_of_le lb I.sz) (Nat.lt_irrefl _)
    · rcases (hf b hb).2.2.2.1 with z | z
      · exact I.ok.noex b o e z
      · exact absurd (Nat.lt_of_lt_of_le lb z) (Nat.lt_irrefl _)
  · have hs := I.stkSub b hb'
    rcases List.mem_cons.mp hb with z | hb
    · subst z
      subst hD
      rcases List.mem_cons.mp hs with z | z
      · exact absurd I.lt (by rw [← z]; exact Nat.lt_irrefl _)
      · exact I.nofs (Nat.le_refl _) z
    · rcases List.mem_cons.mp hs with z | z
      · exact (hf b hb).2.1 z
      · exact (hf b hb).2.2.1 z
  · unfold lift at e2
    rw [List.getElem?_map] at e2
    cases q : ix[j]? with
    | none => rw [q] at e2; cases e2
    | some o =>
      rw [q] at e2
      cases o with
      | none => cases e2
      | some i =>
        obtain ⟨y, f1, f2, f3, f4⟩ := S.from' j i q
        have e1' : N[j]? = some x := e1
        rw [f1] at e1'
        cases e1'
        simp only [Option.map_some, Option.some.injEq] at e2
        cases q2 : σ[i]? with
        | none => rw [q2] at e2; cases e2
        | some w =>
          rw [q2] at e2
          simp only at e2
          subst e2
          obtain ⟨m, hm, hl⟩ := I.loc
          have vis : Vis X.env.scope x := by
            rcases f3 with z | z
            · exact .inr (.inl z)
            · exact .inr (.inr z)
          obtain ⟨u, r, l⟩ := hl i x v f2 q2 vis
          refine ⟨u, r, .inr ⟨f4, ?_⟩⟩
          rcases l with ⟨l1, _⟩ | ⟨_, c, hc, hcell⟩
          · rw [l1] at f3
            rcases f3 with z | z <;> cases z
          · have hmf : (x, NameKind.free) ∈ scope.names := by
              rcases f4 with h | h
              · exact mem_relabel h (.inl rfl) S.nocell
              · exact mem_relabel h (.inr rfl) S.nocell
            obtain ⟨d, hd⟩ := clGo_has (cells := X.env.cells) scope.names [] (.inl hmf)
            have hd' := S.sub I hd
            rw [hc] at hd'
            cases hd'
            refine ⟨c, hd, ?_⟩
            obtain ⟨o, ho, hod⟩ := hcell
            exact ⟨o, k _ _ ho, hod⟩
  · obtain ⟨v, o, ho, hod⟩ := I.cell x c (S.sub I e)
    exact ⟨v, o, k _ _ ho, hod⟩
  · show (lift ix σ).length = N.length
    unfold lift
    rw [List.length_map, S.len]
end
end L2
set_option Elab.async false
set_option linter.all false
set_option maxRecDepth 100000
namespace L2
open PySem PySem.Spec PyProof.Rows
theorem codeAny_compLoop_own {prog : Program} {w : World} {A : Around} {R : Result → Shared → Prop} {s : Shared} {elt target iter : Expr} {ifs : List Expr} {scope : Scope} {pos : Pos} {it acc : Value} {env : Env} (I : Nat → Shared → Prop)
    (turn : ∀ n s, I n s → wpAny (model prog w) A (pyNext it) (fun r s₁ => match r with
      | none => R (.ok .next) s₁
      | some v => wpAny (model prog w) A (letOwnedTupleGo target it v) (fun _ s₁' => wpAny (model prog w) A (assign target env v) (fun _ s₂ =>
          wpAny (model prog w) A (forIn ifs true fun c r => if r = true then do let ok ← isTrue c env (eval c env); pure (ForInStep.yield ok) else pure (ForInStep.yield r)) (fun ok s₃ =>
            if ok = true then wpAny (model prog w) A (eval elt env) (fun x s₄ =>
              wpAny (model prog w) A (call (.builtin "list.append") [acc, x]) (fun _ s₅ => ∃ m, m < n ∧ I m s₅) (fun _ _ => False) s₄) (fun _ _ => False) s₃
            else ∃ m, m < n ∧ I m s₃) (fun _ _ => False) s₂) (fun _ _ => False) s₁') (fun _ _ => False) s₁) (fun _ _ => False) s)
    (n : Nat) (h : I n s) :
    codeAny (model prog w) A (.compLoop (.ListComp elt [⟨target, iter, ifs, 0⟩] scope pos) 0 it acc env) R s := by
  refine codeAny_loop rfl I (fun n s hI => ?_) n h
  show wpAny _ A ((compTurn (.ListComp elt [⟨target, iter, ifs, 0⟩] scope pos) 0 it acc env).onRaise (fun x => do noteFrame x env; theTreesLotGoes x)) _ _ s
  refine wpAny_noted ?_
  rw [compTurn_list]
  refine wpAny_bind (wpAny_standAt (wpAny_bind (wpAny_mono (turn n s hI) (fun r s₁ h₁ => ?_) fun _ _ h' => h'.elim)))
  cases r with
  | none => exact wpAny_pure h₁
  | some v =>
    refine wpAny_bind (wpAny_mono h₁ (fun _ s₁' h₁' => ?_) fun _ _ h' => h'.elim)
    refine wpAny_bind (wpAny_mono h₁' (fun _ s₂ h₂ => wpAny_bind (wpAny_mono h₂ (fun ok s₃ h₃ => ?_) fun _ _ h' => h'.elim)) fun _ _ h' => h'.elim)
    cases ok with
    | false => exact wpAny_pure ⟨rfl, h₃⟩
    | true =>
      exact wpAny_bind (wpAny_bind (wpAny_mono h₃ (fun x s₄ h₄ => wpAny_bind (wpAny_mono h₄ (fun _ s₅ h₅ => wpAny_pure (wpAny_pure ⟨rfl, h₅⟩)) fun _ _ h' => h'.elim)) fun _ _ h' => h'.elim))
def PIfs (X : Cx) (ifs : List Expr) (t : TT) : Prop :=
  ∀ (pins : List (Addr × Obj)) (s : Shared) (σ : St) (H : Hp) (Q : Bool → Hp → Prop), Inv X pins σ H s → t σ H Q →
    wpAny (model X.prog X.w) X.A (forIn ifs true fun c r => if r = true then do let ok ← isTrue c X.env (eval c X.env); pure (ForInStep.yield ok) else pure (ForInStep.yield r)) (TP X pins σ Q) X.xe s
def tYes : TT := fun _ H Q => Q true H
theorem pifs_nil {X : Cx} : PIfs X [] tYes := fun _ _ _ H _ I h => wpAny_tests_nil ⟨H, I, h⟩
def Ext (σ σ' : St) : Prop := σ.length = σ'.length ∧ ∀ (i : Nat) (v : V), σ[i]? = some (some v) → σ'[i]? = some (some v)
theorem Ext.refl (σ : St) : Ext σ σ := ⟨rfl, fun _ _ h => h⟩
theorem Ext.set {σ σ' : St} {j : Nat} {v : V} (e : Ext σ σ') (h : σ[j]? = some none) : Ext σ (σ'.set j (some v)) := by
  refine ⟨by rw [List.length_set]; exact e.1, fun i u q => ?_⟩
  have hne : j ≠ i := fun z => by subst z; rw [h] at q; cases q
  rw [List.getElem?_set_ne hne]
  exact e.2 i u q
theorem lift_none {ix : List (Option Nat)} {σ : St} {j : Nat} (h : ix[j]? = some none) : (lift ix σ)[j]? = some none := by
  unfold lift
  rw [List.getElem?_map, h]
  rfl
def GFree (ix : List (Option Nat)) (g : TG) : Prop := ∀ (v : V) (σ : St) (H : Hp) (Q : St → Hp → Prop), g v (lift ix σ) H Q → g v (lift ix σ) H fun σ2 H2 => Q σ2 H2 ∧ Ext (lift ix σ) σ2
theorem gfree_name {ix : List (Option Nat)} {j : Nat} (h : ix[j]? = some none) : GFree ix (gName j) := fun v σ H Q q => ⟨q, (Ext.refl _).set (lift_none h)⟩
def tComp (ix : List (Option Nat)) (wi : TI) (g : TG) (tc : TT) (te : TE) : TE := fun σ H Q => wi σ H fun J H1 => ∃ W : Nat → Nat → List V → Hp → Prop, (∃ m, W 0 m [] H1) ∧ ∀ i m ys H, W i m ys H →
  (J.stop i H ∧ ys.length ≤ sizeLine ∧ ∀ p, H p = none → Q (.ref p) (upd H p (.lst ys))) ∨
  (J.go i H ∧ ys.length < sizeLine ∧ ∃ N : List V → Hp → Prop, (∀ ys' H', N ys' H' → ∃ m', m' < m ∧ W (i + 1) m' ys' H') ∧ ∀ x H', J.yld i H x H' → g x (lift ix σ) H' fun σ2 H2 => tc σ2 H2 fun b H3 => if b = true then te σ2 H3 fun v H4 => N (ys ++ [v]) H4 else N ys H3)
theorem comp_end {X : Cx} {pins pins' : List (Addr × Obj)} {σ σ' : St} {H2 H' : Hp} {s2 s4 : Shared} {scope : Scope} {N : List Str} {C D : Addr} {fp : List Addr} {h' : Heap} {ys : List V} {its : List Value} {n : Nat}
    (I2 : Inv X pins σ H2 s2) (I' : Inv (compCx X scope N s2 H2 C (D :: fp)) pins' σ' H' s4) (f2 : ∀ b ∈ fp, FpOk X pins H2 b) (hD : D = s2.heap.objs.size) (hC : s2.heap.objs.size < C) (hDC : D ≠ C)
    (hs : Heap.SameBut C s4.heap h') (eD : s4.heap.get? D = some { cls := .type "list", data := .seq its.toArray n }) (fD : H' D = none) (rv : Vals ys its) (hz : ys.length ≤ sizeLine) :
    Inv X pins σ (upd H' D (.lst ys)) { s4 with heap := h' } := by
  have lt : ∀ b o, s2.heap.get? b = some o → b ≠ D ∧ b ≠ C := fun b o e =>
    ⟨by rw [hD]; exact Nat.ne_of_lt (Heap.lt_size e), Nat.ne_of_lt (Nat.lt_trans (Heap.lt_size e) hC)⟩
  have nex : ∀ b o, s2.heap.get? b = some o → b ∉ fp → b ∉ D :: fp := fun b o e hb z => by
    rcases List.mem_cons.mp z with z | z
    · exact (lt b o e).1 z
    · exact hb z
  have nD : ∀ b u, H' b = some u → b ≠ D := fun b u e => ne_of_none e fD
  have nC : ∀ b u, H' b = some u → b ≠ C := fun b u e => ne_of_none e I'.free
  have u := I'.base
  refine I2.call' (ch := fp) (show s4.os = s2.os from I'.os) ⟨fun b o e n hb hx => ?_, fun b o e n hb hx => ?_, fun b o e n hx => ?_, fun b o e hx => ?_, fun b xs e => ?_, fun b o xs e => ?_, fun b ps e => ?_⟩ (fun b o e => ?_) I'.bare fun b hb => ⟨(f2 b hb).2.2.2.1, (f2 b hb).2.1, (f2 b hb).2.2.2.2.1, (f2 b hb).2.2.2.2.2⟩
  · exact (hs.2 b (lt b o e).2).trans (u.keep b o e n hb (nex b o e hx))
  · obtain ⟨sl, q⟩ := u.slot b o e n hb (nex b o e hx)
    exact ⟨sl, (hs.2 b (lt b o e).2).trans q⟩
  · rw [upd_ne (lt b o e).1]
    exact u.free b o e n (nex b o e hx)
  · obtain ⟨o', q⟩ := u.there b o e (nex b o e hx)
    exact ⟨o', (hs.2 b (lt b o e).2).trans q⟩
  · have q := u.tups b xs e
    rw [upd_ne (nD b _ q)]
    exact q
  · have q := u.frzs b o xs e
    rw [upd_ne (nD b _ q)]
    exact q
  · obtain ⟨m, q⟩ := u.tbls b ps e
    exact ⟨m, by rw [upd_ne (nD b _ q)]; exact q⟩
  · by_cases hb : b = D
    · subst hb
      rw [upd_same] at e
      cases e
      exact ⟨hz, its, n, rv, (hs.2 b hDC).trans eD⟩
    · rw [upd_ne hb] at e
      refine (I'.hok b o e).stay (fun c v hc q => (hs.2 c ?_).trans q) (fun c q => by rw [upd_ne (nD c _ q)]; exact q) fun c xs q => by rw [upd_ne (nD c _ q)]; exact q
      rcases hc with z | z
      · rw [z]; exact nC b o e
      · exact nC c _ z
section
variable {X : Cx} {elt tg iter : Expr} {ifs : List Expr} {scope : Scope} {pos : Pos} {wi : TI} {g : TG} {tc : TT} {te : TE} {N : List Str} {ix : List (Option Nat)}
theorem comp_core {pins : List (Addr × Obj)} {σ : St} {Q : VK} {s2 : Shared} {itv : Value} {Rr : Value → Addr → Result → Shared → Prop} (S : CompScope X scope N ix) (hc : X.calm = true) (hG : GFree ix g)
    (hb : ∀ (s₀ : Shared) (H₀ : Hp) (C : Addr) (ex : List Addr), PG (compCx X scope N s₀ H₀ C ex) tg g ∧ PIfs (compCx X scope N s₀ H₀ C ex) ifs tc ∧ PE (compCx X scope N s₀ H₀ C ex) elt te)
    (h2 : PIE X pins σ tg (fun J H1 => ∃ W : Nat → Nat → List V → Hp → Prop, (∃ m, W 0 m [] H1) ∧ ∀ i m ys H, W i m ys H →
      (J.stop i H ∧ ys.length ≤ sizeLine ∧ ∀ p, H p = none → Q (.ref p) (upd H p (.lst ys))) ∨
      (J.go i H ∧ ys.length < sizeLine ∧ ∃ N : List V → Hp → Prop, (∀ ys' H', N ys' H' → ∃ m', m' < m ∧ W (i + 1) m' ys' H') ∧ ∀ x H', J.yld i H x H' → g x (lift ix σ) H' fun σ2 H2 => tc σ2 H2 fun b H3 => if b = true then te σ2 H3 fun v H4 => N (ys ++ [v]) H4 else N ys H3)) itv s2)
    (hR : ∀ (s4 : Shared) (H' : Hp) (D C : Addr) (m : Str → Option Value) (ys : List V), s4.heap.Ns C m → FpOk X pins H' C → (∀ h', Heap.SameBut C s4.heap h' → Inv X pins σ (upd H' D (.lst ys)) { s4 with heap := h' }) → Inv X pins σ (upd H' D (.lst ys)) s4 → D ≠ C → Q (.ref D) (upd H' D (.lst ys)) → Rr (.ref D) C (.ok .next) s4) :
    wpAny (model X.prog X.w) X.A (newList []) (fun acc s₃ => wpAny (model X.prog X.w) X.A (newFunctionEnv scope X.env.globals (clOf scope X.env) [] X.env.qual none .none (some X.env)) (fun cenv s₄ =>
      codeAny (model X.prog X.w) X.A (.compStart (.ListComp elt [⟨tg, iter, ifs, 0⟩] scope pos) 0 itv acc { cenv with scope := relabel scope X.env }) (Rr acc cenv.locals) s₄) X.xe s₃) X.xe s2 := by
  obtain ⟨it, fp, tn, J, H2, e, I2, T, st2, f2, W, ⟨m0, w0⟩, turn⟩ := h2
  subst e
  have fo : ∀ b ∈ fp, ∃ o, s2.heap.get? b = some o := fun b hb => let ⟨o, e, _⟩ := T.obj _ _ st2 b hb; ⟨o, e⟩
  refine wpAny_newObj_type (wpAny_newFunctionEnv S.nocell (by intro y hy; simp at hy) (fun h₁ hns₁ hsb₁ => ?_) S.kind)
  dsimp only at hns₁ hsb₁ ⊢
  generalize hH2 : s2.heap.push { cls := .type "list", dict := none, data := .seq ([] : List Value).toArray } = HH at hns₁ hsb₁ ⊢
  have hC : HH.objs.size = s2.heap.objs.size + 1 := by rw [← hH2, Heap.size_push]
  generalize hCC : HH.objs.size = C at hns₁ hsb₁ hC ⊢
  generalize hDD : s2.heap.objs.size = D at hC ⊢
  have hlt : s2.heap.objs.size < C := by rw [hDD, hC]; exact Nat.lt_succ_self _
  have hDC : D ≠ C := by rw [hC]; exact Nat.ne_of_lt (Nat.lt_succ_self _)
  have old : ∀ b o, s2.heap.get? b = some o → h₁.get? b = some o := fun b o e =>
    hsb₁.extBut b o (Nat.ne_of_lt (Nat.lt_trans (Heap.lt_size e) hlt)) (Heap.get?_push_of_some _ (hH2 ▸ Heap.get?_push_of_some _ e))
  have hacc : h₁.PlainList D #[] := ⟨_, hsb₁.extBut _ _ hDC (Heap.get?_push_of_some _ (hH2 ▸ hDD ▸ Heap.get?_push_size _ rfl))⟩
  have hns₂ : h₁.Ns C fun _ => none := hns₁
  have I4 := S.start (tk := s2.toks + ([] : List (Str × Value)).length) I2 f2 fo hDD.symm hlt old hns₂
  obtain ⟨hg, hif, hel⟩ := hb s2 H2 C (D :: fp)
  -- the records of the loop in the block's context
  have stat : ∀ {H' : Hp}, (∀ b ∈ D :: fp, H' b = none) → ∀ b ∈ D :: fp, FpOk (compCx X scope N s2 H2 C (D :: fp)) [] H' b := fun hn b hb =>
    ⟨hn b hb, (I4.ok.exf b hb).1, I4.ok.exfs b hb, .inl hb, (I4.ok.exf b hb).2, fun p hp => absurd (show p ∈ ([] : List (Addr × Obj)) from hp) (by simp)⟩
  have sub : ∀ b ∈ fp, b ∈ D :: fp := fun b hb => List.mem_cons_of_mem _ hb
  have nDf : ∀ b ∈ fp, b ≠ D := fun b hb z => by
    obtain ⟨o, e⟩ := fo b hb
    exact absurd (Heap.lt_size e) (by rw [z, hDD]; exact Nat.lt_irrefl _)
  have free0 : ∀ b ∈ D :: fp, H2 b = none := fun b hb => by
    rcases List.mem_cons.mp hb with z | hb
    · rw [z]; exact I2.hok.fresh (Nat.le_of_eq hDD)
    · exact (f2 b hb).1
  have loop : ∀ s₃ : Shared, s₃ = { s2 with heap := h₁, toks := s2.toks + ([] : List (Str × Value)).length } →
      codeAny (model X.prog X.w) X.A (.compLoop (.ListComp elt [⟨tg, iter, ifs, 0⟩] scope pos) 0 (.ref it) (.ref D) (compEnvC scope (clOf scope X.env) C X.env))
        (Rr (.ref D) C) s₃ := by
    rintro s₃ rfl
    refine codeAny_compLoop_own (fun n s' => ∃ i H' ys its, Inv (compCx X scope N s2 H2 C (D :: fp)) [] (lift ix σ) H' s' ∧ tn i s'.heap ∧ (∀ b ∈ D :: fp, H' b = none) ∧ s'.heap.PlainList D (List.toArray its) ∧ Vals ys its ∧ W i n ys H') ?_ m0
      ⟨0, H2, [], [], I4, T.keep _ _ _ st2 fun b _ o e => old b o e, free0, hacc, .nil, w0⟩
    rintro n s3 ⟨i, H3, ys, its, I3, st3, fr3, pl3, rv3, w3⟩
    obtain ⟨kk, plE⟩ := pl3
    have pinD : ∀ {pp : List (Addr × Obj)} {σ' : St} {H' : Hp} {s' : Shared}, Inv (compCx X scope N s2 H2 C (D :: fp)) pp σ' H' s' → H' D = none → s'.heap.get? D = some { cls := .type "list", data := .seq its.toArray kk } →
        Inv (compCx X scope N s2 H2 C (D :: fp)) [(D, { cls := .type "list", data := .seq its.toArray kk })] σ' H' s' := fun {pp σ' H' s'} J f e => J.pins_of fun p hp => by
      have z : p = (D, { cls := .type "list", data := .seq its.toArray kk }) := by simpa using hp
      subst z
      exact ⟨e, f, (J.ok.exf D List.mem_cons_self).1, J.ok.exfs D List.mem_cons_self, fun v z => by cases z⟩
    have fpD : ∀ {H' : Hp}, (∀ b ∈ D :: fp, H' b = none) → ∀ b ∈ fp, FpOk (compCx X scope N s2 H2 C (D :: fp)) [(D, { cls := .type "list", data := .seq its.toArray kk })] H' b := fun hn b hb => by
      obtain ⟨a1, a2, a3, a4, a5, a6⟩ := stat hn b (sub b hb)
      refine ⟨a1, a2, a3, a4, a5, fun p hp => ?_⟩
      have z : p = (D, { cls := .type "list", data := .seq its.toArray kk }) := by simpa [compCx] using hp
      subst z
      exact (nDf b hb).symm
    have frD : H3 D = none := fr3 D List.mem_cons_self
    rcases turn i n ys H3 w3 with ⟨stop, hz, qn⟩ | ⟨go, hz, NN, hN, step⟩
    · refine thn (T.done (compCx X scope N s2 H2 C (D :: fp)) rfl rfl rfl hc i _ s3 _ H3 (fun _ _ => False) (pinD I3 frD plE) (fpD fr3) st3 stop) fun r s4 ⟨hr, I4'⟩ => ?_
      subst hr
      obtain ⟨m, hm, _⟩ := I4'.loc
      have eD := (I4'.pin (D, _) (List.mem_append_right _ List.mem_cons_self)).1
      have fin : ∀ h', Heap.SameBut C s4.heap h' → Inv X pins σ (upd H3 D (.lst ys)) { s4 with heap := h' } := fun h' hs' => comp_end I2 I4' f2 hDD.symm hlt hDC hs' eD frD rv3 hz
      have hC0 : s2.heap.objs.size ≤ C := Nat.le_of_lt hlt
      have fC : FpOk X pins H3 C := by
        have q := I2.fpOk (H' := H3) hC0 I4'.free
        exact q
      exact hR s4 H3 D C m ys hm fC fin (by simpa using fin s4.heap (Heap.SameBut.refl ..)) hDC (qn D frD)
    · refine thn (T.item (compCx X scope N s2 H2 C (D :: fp)) rfl rfl rfl hc i _ s3 _ H3 (fun _ _ => False) (pinD I3 frD plE) (fpD fr3) st3 go) fun r s4 ⟨u, hr, h4⟩ => ?_
      subst hr
      refine thn h4 fun _ s5 ⟨x, H5, I5, r5, y5, st5, fr5⟩ => ?_
      have eD5 := (I5.pin (D, _) (List.mem_append_right _ List.mem_cons_self))
      have fr5' : ∀ b ∈ D :: fp, H5 b = none := fun b hb => by
        rcases List.mem_cons.mp hb with z | hb
        · rw [z]; exact eD5.2.1
        · exact fr5 b hb
      have I5' : Inv (compCx X scope N s2 H2 C (D :: fp)) ([] ++ pinsAt (D :: fp) s5.heap) (lift ix σ) H5 s5 := (I5.unpinned (pins := []) (pl := [_])).pinned (stat fr5') fun b hb => by
        rcases List.mem_cons.mp hb with z | hb
        · rw [z]; exact ⟨_, eD5.1, fun v z => by cases z⟩
        · exact T.obj _ _ st5 b hb
      -- what stays behind the turn
      have back : ∀ {σ7 : St} {H7 : Hp} {s7 : Shared}, Inv (compCx X scope N s2 H2 C (D :: fp)) ([] ++ pinsAt (D :: fp) s5.heap) σ7 H7 s7 → Ext (lift ix σ) σ7 →
          Inv (compCx X scope N s2 H2 C (D :: fp)) [] (lift ix σ) H7 s7 ∧ tn (i + 1) s7.heap ∧ (∀ b ∈ D :: fp, H7 b = none) ∧ s7.heap.get? D = some { cls := .type "list", data := .seq its.toArray kk } := fun {σ7 H7 s7} I7 ex => by
        have keepAt : ∀ b ∈ D :: fp, ∀ o, s5.heap.get? b = some o → s7.heap.get? b = some o ∧ H7 b = none := fun b hb o e =>
          ⟨(I7.pin (b, o) (List.mem_append_right _ (List.mem_append_right _ (mem_pinsAt hb e)))).1, (I7.pin (b, o) (List.mem_append_right _ (List.mem_append_right _ (mem_pinsAt hb e)))).2.1⟩
        refine ⟨I7.unpinned.weak ex.1 ex.2, T.keep _ _ _ st5 fun b hb o e => (keepAt b (sub b hb) o e).1, fun b hb => ?_, (keepAt D List.mem_cons_self _ eD5.1).1⟩
        rcases List.mem_cons.mp hb with z | hb'
        · rw [z]; exact (keepAt D List.mem_cons_self _ eD5.1).2
        · obtain ⟨o, e, _⟩ := T.obj _ _ st5 b hb'
          exact (keepAt b hb o e).2
      refine thn (hg _ s5 _ H5 x u _ I5' r5 (hG _ _ _ _ (step x H5 y5))) fun _ s6 ⟨σ6, H6, I6, q6, ex6⟩ => ?_
      refine thn (hif _ s6 σ6 H6 _ I6 q6) fun ok s7 ⟨H7, I7, q7⟩ => ?_
      cases ok with
      | false =>
        rw [if_neg Bool.false_ne_true] at q7 ⊢
        obtain ⟨m', hm, w7⟩ := hN _ _ q7
        obtain ⟨J1, J2, J3, J4⟩ := back I7 ex6
        exact ⟨m', hm, i + 1, H7, ys, its, J1, J2, J3, ⟨_, J4⟩, rv3, w7⟩
      | true =>
        rw [if_pos rfl] at q7 ⊢
        refine thn (hel _ s7 σ6 H7 _ I7 q7) fun uv s8 ⟨y, H8, I8, r8, q8⟩ => ?_
        obtain ⟨m', hm, w8⟩ := hN _ _ q8
        obtain ⟨J1, J2, J3, J4⟩ := back I8 ex6
        refine wpAny_list_append_plain (hsz := by rw [List.size_toArray, ← rv3.length]; exact Nat.le_of_lt hz) ⟨_, J4⟩ fun h₉ hl₉ hs₉ => ?_
        obtain ⟨a1, a2, a3, a4, a5, a6⟩ := stat J3 D List.mem_cons_self
        refine ⟨m', hm, i + 1, H8, ys ++ [y], its ++ [uv], J1.turned (t' := s8.toks) (fun b o hb e => hs₉.extBut b o hb e) a1 a2 a4 a5 a6, T.keep _ _ _ J2 fun b hb o e => hs₉.extBut b o (nDf b hb) e, J3, by simpa using hl₉, rv3.append (.cons r8 .nil), w8⟩
  exact codeAny_compStart_list (loop _ rfl) (T.self _ 0 _ _ _ (T.keep _ _ _ st2 fun b _ o e => old b o e) (loop _ rfl))
theorem pe_comp (S : CompScope X scope N ix) (hc : X.calm = true) (hi : PI X tg iter wi) (hG : GFree ix g)
    (hb : ∀ (s₀ : Shared) (H₀ : Hp) (C : Addr) (ex : List Addr), PG (compCx X scope N s₀ H₀ C ex) tg g ∧ PIfs (compCx X scope N s₀ H₀ C ex) ifs tc ∧ PE (compCx X scope N s₀ H₀ C ex) elt te)
    (hs : ∀ x, foldedSetIterable iter X.env x = pure x := by intro _; rfl) : PE X (.ListComp elt [⟨tg, iter, ifs, 0⟩] scope pos) (tComp ix wi g tc te) := by
  intro pins s σ H Q I h
  rw [eval_ListComp]
  refine wpAny_comprehension_free (use := none) rfl hs (closure_of (S.cells I)) S.kind S.locs ?_
  refine thn (hi pins s σ H _ I h) fun v s1 h1 => thn h1 fun itv s2 h2 => ?_
  refine comp_core (Rr := fun acc C => compPost (model X.prog X.w) X.A X.xe none (EP X pins σ Q) acc C) S hc hG hb h2 ?_
  intro s4 H' D C m ys hm _ fin _ _ q
  exact ⟨m, hm, fun h' hs' => ⟨.ref D, _, fin h' hs', rfl, q⟩⟩
theorem ps_setC {y : Str} {py spos : Pos} {i : Nat} (hN : X.N.Nodup) (hi : X.N[i]? = some y) (hy : Loc X.env.scope y) (S : CompScope X scope N ix) (hc : X.calm = true) (hit : PI X tg iter wi) (hG : GFree ix g)
    (hb : ∀ (s₀ : Shared) (H₀ : Hp) (C : Addr) (ex : List Addr), PG (compCx X scope N s₀ H₀ C ex) tg g ∧ PIfs (compCx X scope N s₀ H₀ C ex) ifs tc ∧ PE (compCx X scope N s₀ H₀ C ex) elt te)
    (hsw : swapsWith (.ListComp elt [⟨tg, iter, ifs, 0⟩] scope pos) (some (.Name y py)) spos.line X.env = pure true := by rfl) (hs : ∀ x, foldedSetIterable iter X.env x = pure x := by intro _; rfl)
    (hf : X.fn y = true ∨ X.env.scope.names.lookup y = some .local := by first | exact .inl rfl | exact .inr rfl | assumption) :
    PS X (.Assign [.Name y py] (.ListComp elt [⟨tg, iter, ifs, 0⟩] scope pos) spos) (tAsg (tComp ix wi g tc te) (gName i)) := by
  intro pins s σ H D0 I h
  rw [exec_Assign_Name_used _ _ _ _ hsw]
  refine wpAny_bind (wpAny_standAt (wpAny_bind ?_))
  show wpAny _ X.A (do let _ ← comprehension (.ListComp elt [⟨tg, iter, ifs, 0⟩] scope pos) scope X.env _ (newList []) false (eval iter X.env) (some (assign (.Name y py) X.env))) _ _ s
  refine wpAny_bind (wpAny_mono (wpAny_comprehension_free (use := some (assign (.Name y py) X.env)) (Q := fun _ s' => SP X pins D0 .next s') rfl hs (closure_of (S.cells I)) S.kind S.locs ?_) (fun _ s' hq => wpAny_pure (wpAny_pure hq)) fun _ _ e => e)
  refine thn (hit pins s σ H _ I h) fun v s1 h1 => thn h1 fun itv s2 h2 => ?_
  refine comp_core (Q := fun x H1 => gName i x σ H1 D0.nx) (Rr := fun acc C => compPost (model X.prog X.w) X.A X.xe (some (assign (.Name y py) X.env)) (fun _ s' => SP X pins D0 .next s') acc C) S hc hG hb h2 ?_
  intro s4 H' D C m ys hm fC _ I4 hDC q
  show wpAny _ X.A (assign (.Name y py) X.env (.ref D)) _ _ _
  obtain ⟨c0, c1, c2, c3, c4, c5⟩ := fC
  refine wpAny_assign_Name (store_ok2 (v := .ref D) I4 hN hi hy rfl (fun s5 I5 hsb => ?_) hf)
  obtain ⟨a, hsa, ha⟩ := hsb
  have haC : C ≠ a := by
    rcases ha with z | z
    · rw [z]; exact c1
    · exact fun e => c4 y a z e.symm
  refine ⟨m, hm.sameBut hsa haC, fun h' hs' => ?_⟩
  have hCn : (upd H' D (.lst ys)) C = none := by rw [upd_ne hDC.symm]; exact c0
  exact ⟨_, _, I5.turned (t' := s5.toks) (fun b o hb e => hs'.extBut b o hb e) hCn c1 c3 c4 c5, q⟩
end
end L2
set_option Elab.async false
set_option linter.all false
set_option maxRecDepth 100000
namespace L2
open PySem PySem.Spec PyProof.Rows
def isiV : V → String → Option Bool
  | .int _, "int" => some true
  | .int _, "bool" => some false
  | .int _, "str" => some false
  | .int _, "list" => some false
  | .int _, "tuple" => some false
  | .int _, "dict" => some false
  | .bl _, "int" => some true
  | .bl _, "bool" => some true
  | .bl _, "str" => some false
  | .bl _, "list" => some false
  | .bl _, "tuple" => some false
  | .bl _, "dict" => some false
  | .str _, "int" => some false
  | .str _, "bool" => some false
  | .str _, "str" => some true
  | .str _, "list" => some false
  | .str _, "tuple" => some false
  | .str _, "dict" => some false
  | _, _ => none
theorem call_isi {X : Cx} : CallR X (.builtin "isinstance") (fun xs H Q => ∃ v T k, xs = [v, .ty T] ∧ isiV v T = some k ∧ Q (.bl k) H) := by
  intro pins s σ H xs us Q I r h
  obtain ⟨v, T, k, rfl, hk, q⟩ := h
  cases r with
  | cons r rr =>
    cases rr with
    | cons r' rr =>
      cases rr
      cases r'
      unfold isiV at hk
      split at hk <;> first
        | (cases hk; done)
        | (cases hk; obtain ⟨t, rfl⟩ := r; first
            | exact IsiPair.int_int ⟨.bl _, H, I, rfl, q⟩
            | exact IsiPair.int_bool ⟨.bl _, H, I.tok _, rfl, q⟩
            | exact IsiPair.int_str ⟨.bl _, H, I.tok _, rfl, q⟩
            | exact IsiPair.int_list ⟨.bl _, H, I.tok _, rfl, q⟩
            | exact IsiPair.int_tuple ⟨.bl _, H, I.tok _, rfl, q⟩
            | exact IsiPair.int_dict ⟨.bl _, H, I.tok _, rfl, q⟩
            | exact IsiPair.str_int ⟨.bl _, H, I.tok _, rfl, q⟩
            | exact IsiPair.str_bool ⟨.bl _, H, I.tok _, rfl, q⟩
            | exact IsiPair.str_str ⟨.bl _, H, I, rfl, q⟩
            | exact IsiPair.str_list ⟨.bl _, H, I.tok _, rfl, q⟩
            | exact IsiPair.str_tuple ⟨.bl _, H, I.tok _, rfl, q⟩
            | exact IsiPair.str_dict ⟨.bl _, H, I.tok _, rfl, q⟩)
        | (cases hk; cases r; first
            | exact IsiPair.bool_int ⟨.bl _, H, I, rfl, q⟩
            | exact IsiPair.bool_int ⟨.bl _, H, I.tok _, rfl, q⟩
            | exact IsiPair.bool_bool ⟨.bl _, H, I, rfl, q⟩
            | exact IsiPair.bool_str ⟨.bl _, H, I.tok _, rfl, q⟩
            | exact IsiPair.bool_list ⟨.bl _, H, I.tok _, rfl, q⟩
            | exact IsiPair.bool_tuple ⟨.bl _, H, I.tok _, rfl, q⟩
            | exact IsiPair.bool_dict ⟨.bl _, H, I.tok _, rfl, q⟩)
end L2
set_option Elab.async false
set_option linter.all false
set_option maxRecDepth 100000
namespace L2
open PySem PySem.Spec PyProof.Rows
section
variable {X : Cx}
def CDivM (i j : Int) : Prop := j ≠ 0 ∧ j.natAbs < 2 ^ 512
theorem op_fdivM : OpR X (binaryOp .FloorDiv) (rI CDivM fun i j => .int (i.fdiv j)) := opI fun i j _ _ _ _ _ hc q => floordiv_int hc.1 q (.inl (PyProof.noPylong_of_log2 (by
  by_cases h0 : j.natAbs = 0
  · rw [h0]; decide +kernel
  · have := (Nat.log2_lt h0).mpr hc.2
    omega)))
theorem op_modM : OpR X (binaryOp .Mod) (rI (fun _ j => j ≠ 0) fun i j => .int (i.fmod j)) := op_modN
theorem comp_scope {scope : Scope} {N : List Str} {ix : List (Option Nat)} (kind : scope.kind = .function) (nocell : (scope.names.all fun y => y.2 != .cell) = true) (locs : (scope.names.all fun y => y.2 != .local || scope.names.lookup y.1 == some .local) = true)
    (free : (scope.names.all fun y => y.2 != .free || X.env.kindOf y.1 == some .cell || X.env.kindOf y.1 == some .free) = true) (len : ix.length = N.length) (nd : N.Nodup)
    (fr : ((ix.zip N).all fun p => match p.1 with
      | none => true
      | some i => X.N[i]? == some p.2 && (X.env.kindOf p.2 == some .cell || X.env.kindOf p.2 == some .free) && ((relabel scope X.env).names.lookup p.2 == some .cell || (relabel scope X.env).names.lookup p.2 == some .free)) = true) : CompScope X scope N ix := by
  refine ⟨kind, fun y hy => ?_, fun y hy hl => ?_, fun y hy hf => ?_, len, nd, fun j i e => ?_⟩
  · have := List.all_eq_true.mp nocell y hy
    simpa using this
  · have := List.all_eq_true.mp locs y hy
    rw [hl] at this
    simpa using this
  · have := List.all_eq_true.mp free y hy
    rw [hf] at this
    simpa using this
  · have hj : j < ix.length := (List.getElem?_eq_some_iff.mp e).1
    have hj' : j < N.length := by omega
    have hm : (ix.zip N)[j]? = some (some i, N[j]) := by
      rw [List.getElem?_zip_eq_some]
      exact ⟨e, by simp [hj']⟩
    have := List.all_eq_true.mp fr _ (List.mem_of_getElem? hm)
    simp only [Bool.and_eq_true, Bool.or_eq_true, beq_iff_eq] at this
    exact ⟨N[j], by simp [hj'], this.1.1, this.1.2, this.2⟩
end
structure Df (K : PySem.W.Frag) (mg : Str → Option Value) (x : Str) (st : Stmt) (ps : List Str) (f : Addr) (fd : FuncData) : Prop where
  fn : Fun K x x st f fd
  b : Binds K fd ps []
  m : mg x = some (.ref f)
section
variable {K : PySem.W.Frag} {a b : Addr} {xs ys : List V} {wi : TI} {g : TG} {tb : TS} {D : Ends} {σ : St} {H H1 : Hp} {ix : List (Option Nat)} {tc : TT} {te : TE} {Q : VK}
end
end L2
set_option Elab.async false
set_option linter.all false
set_option maxRecDepth 100000
namespace L2
open PySem PySem.Spec PyProof.Rows
theorem Inv.turnedTup {X : Cx} {pins : List (Addr × Obj)} {σ : St} {H : Hp} {s : Shared} {h' : Heap} {t' : Nat} {ch : List Addr} {T : Addr} {xs : List V} {its : List Value} (I : Inv X pins σ H s) (hf : ∀ b ∈ ch, FpOk X pins H b)
    (k : ∀ b o, b ∉ ch → s.heap.get? b = some o → h'.get? b = some o) (hT : s.heap.objs.size ≤ T) (eT : IsTup h' T its.toArray) (r : Vals xs its) (hz : xs.length ≤ sizeLine) : Inv X pins σ (upd H T (.tup xs)) { s with heap := h', toks := t' } := by
  have hTn : H T = none := I.hok.fresh hT
  have big : ∀ {c : Addr} {o : Obj}, s.heap.get? c = some o → c ≠ T := fun e => Nat.ne_of_lt (Nat.lt_of_lt_of_le (Heap.lt_size e) hT)
  have trk : ∀ c t, H c = some t → c ∉ ch := fun c t e hc => by rw [(hf c hc).1] at e; cases e
  refine I.step (g' := s.gens) (d' := s.drawn) (ch := ch) (fun c hc => ⟨(hf c hc).2.2.2.1, (hf c hc).2.1, (hf c hc).2.2.2.2.1, (hf c hc).2.2.2.2.2⟩) (fun c o _ _ hc e _ => k c o hc e) (fun c o _ _ hc e _ => ⟨o.slots, k c o hc e⟩) (fun c o hc e n => ?_) (fun c o hc e => ⟨o, k c o hc e⟩) (fun c t e => ?_) (fun c o t e => ?_) (fun c ps e => ?_) (fun m hm => ?_) (fun c t e => ?_) I.bare
  · rw [upd_ne (big e)]; exact n
  · rw [upd_ne (ne_of_none e hTn)]; exact e
  · rw [upd_ne (ne_of_none e hTn)]; exact e
  · exact ⟨#[], by rw [upd_ne (ne_of_none e hTn), e]; simp⟩
  · obtain ⟨o, es, ep, ho, r⟩ := hm
    exact ⟨o, es, ep, k _ o (fun hc => (hf _ hc).2.1 rfl) ho, r⟩
  · by_cases hcT : c = T
    · subst hcT
      rw [upd_same] at e
      cases e
      exact ⟨hz, its, r, eT⟩
    · rw [upd_ne hcT] at e
      refine (I.hok c t e).stay (fun d o hd q => k d o ?_ q) (fun d q => by rw [upd_ne (ne_of_none q hTn)]; exact q) fun d zs q => by rw [upd_ne (ne_of_none q hTn)]; exact q
      rcases hd with hd | hd
      · rw [hd]; exact trk c t e
      · exact trk d _ hd
def Ite (K : PySem.W.Frag) (a : Addr) : It :=
  ⟨fun i H => ∃ xs x, SqL K H a xs ∧ xs[i]? = some x,
   fun i H v H' => ∃ p x, H p = none ∧ v = .ref p ∧ H' = upd H p (.tup [.int i, x]) ∧ ∀ xs, SqL K H a xs → xs[i]? = some x,
   fun i H => ∃ xs, SqL K H a xs ∧ xs.length ≤ i⟩
theorem turn_enum {P : Program} {w : World} {K : PySem.W.Frag} {elts : List Expr} {x1} {pos : Pos} (a e it : Addr) (hei : e ≠ it) :
    Turn P w K (.Tuple elts x1 pos) (Ite K a) [e, it] e (fun i h => (∃ old, IsEnum h e it i old) ∧ h.IsListIter it a i) where
  mem := by simp
  obj := fun i h st c hc => by
    obtain ⟨⟨old, e1⟩, ⟨o4, e4, _, d4⟩⟩ := st
    simp only [List.mem_cons, List.not_mem_nil, or_false] at hc
    rcases hc with rfl | rfl
    · exact ⟨_, e1, fun v z => by cases z⟩
    · exact ⟨o4, e4, fun v z => by rw [d4] at z; cases z⟩
  keep := fun i h h' st k => by
    obtain ⟨⟨old, e1⟩, e4⟩ := st
    exact ⟨⟨old, k e (by simp) _ e1⟩, e4.at fun o q => k it (by simp) o q⟩
  item := by
    intro X hP hw hK hc i pins s σ H E I hf st hg
    subst hP hw hK
    obtain ⟨xs, x, qx, hx⟩ := hg
    obtain ⟨its, rvx, px, _⟩ := I.list qx
    obtain ⟨u, hu, ru⟩ := rvx.get hx
    obtain ⟨⟨old, e1⟩, e4⟩ := st
    have big : ∀ {c : Addr} {o : Obj}, s.heap.get? c = some o → c ≠ s.heap.objs.size := fun e => Nat.ne_of_lt (Heap.lt_size e)
    refine wpAny_pyNext_enum_item e1 e4 px.isList (x := u) (by simpa using hu) hei fun h' a1 a2 a3 a4 a5 => ?_
    refine ⟨_, rfl, wpAny_letOwnedTupleGo_enum (s := { s with heap := h', toks := s.toks + 1 }) a1 fun h'' b1 b2 => ?_⟩
    have k2 : ∀ c o, c ∉ [e, it] → s.heap.get? c = some o → h''.get? c = some o := fun c o hc q => by
      simp only [List.mem_cons, List.not_mem_nil, or_false, not_or] at hc
      exact (b2.2 c hc.1).trans (a5 c o hc.1 hc.2 q)
    have eT : IsTup h'' s.heap.objs.size (List.toArray [.int i s.toks, u]) := ⟨_, (b2.2 _ (big e1).symm).trans a3, rfl, _, rfl⟩
    have I1 := I.turnedTup (t' := s.toks + 1) (xs := [.int i, x]) hf k2 (Nat.le_refl _) eT (.cons ⟨_, rfl⟩ (.cons ru .nil)) (by show 2 ≤ sizeLine; decide)
    refine ⟨.ref s.heap.objs.size, _, I1, rfl, ⟨s.heap.objs.size, x, I.hok.fresh (Nat.le_refl _), rfl, rfl, fun zs hz => by rw [I.list_inj hz qx]; exact hx⟩, ⟨⟨u, by simpa using b1⟩, a2.at fun o q => (b2.2 _ hei.symm).trans q⟩, fun c hc => ?_⟩
    have hcn : c ≠ s.heap.objs.size := by
      obtain ⟨o4, g4, _⟩ := id e4
      simp only [List.mem_cons, List.not_mem_nil, or_false] at hc
      rcases hc with rfl | rfl
      · exact big e1
      · exact big g4
    rw [upd_ne hcn]
    exact (hf c hc).1
  done := by
    intro X hP hw hK hc i pins s σ H E I hf st hg
    subst hP hw hK
    obtain ⟨xs, qx, hl⟩ := hg
    obtain ⟨its, rvx, px, _⟩ := I.list qx
    obtain ⟨⟨old, e1⟩, e4⟩ := st
    have lx := rvx.length
    obtain ⟨f0, f1, f2, f3, f4, f5⟩ := hf it (by simp)
    exact wpAny_pyNext_enum_end (I.ok.hd hc) e1 e4 px.isList (by simp; omega) fun h' k => ⟨rfl, I.turned (t' := s.toks) (fun b o hb q => k b o hb q) f0 f1 f3 f4 f5⟩
  self := fun _ _ _ _ _ st h => by
    obtain ⟨⟨old, e1⟩, _⟩ := st
    exact wpAny_pyIter_enum e1 h
def iEnum (K : PySem.W.Frag) (ta : TA) : TI := fun σ H R => ta σ H fun vs H1 => ∃ a, vs = [.ref a] ∧ (∃ xs, SqL K H1 a xs) ∧ R (Ite K a) H1
theorem pi_enum {X : Cx} {elts : List Expr} {x1} {tpos : Pos} {a : Expr} {ta : TA} {p pos : Pos} (hg : Gl X "enumerate") (hm : X.mg "enumerate" = none) (ha : PA X [a] ta) (hs : starEach [a] X.env = [(false, eval a X.env)] := by rfl) :
    PI X (.Tuple elts x1 tpos) (.Call (.Name "enumerate" p) [a] [] pos) (iEnum X.K ta) := by
  intro pins s σ H R I h
  refine Call_ (ld_blt I hg hm boot_enumerate (PyProof.Rows.callWith_type1 (thn (ha pos pins s σ H _ I h) fun us s1 ⟨vs, H1, I1, r1, q1⟩ => ?_) hs rfl))
  obtain ⟨a, e, ⟨xs, qx⟩, q⟩ := q1
  subst e
  cases r1 with
  | cons r rr =>
    cases rr
    cases r
    obtain ⟨its, rvx, px, _⟩ := I1.list qx
    refine call_enumerate_list px.isList fun h' g5 g1 z5 k => ?_
    refine wpAny_pyIter_enum (s := { s1 with heap := h' }) g5 ?_
    refine ⟨s1.heap.objs.size + 1, [s1.heap.objs.size + 1, s1.heap.objs.size], _, _, H1, rfl, I1.kept (t' := s1.toks) k, turn_enum a _ _ (Nat.ne_of_gt (Nat.lt_succ_self _)), ⟨⟨_, g5⟩, g1⟩, fun c hc => ?_, q⟩
    have hc' : s1.heap.objs.size ≤ c := by
      simp only [List.mem_cons, List.not_mem_nil, or_false] at hc
      rcases hc with h | h <;> subst h <;> first
        | exact Nat.le_refl _
        | exact Nat.le_add_right _ _
    exact I1.fpOk hc' (I1.hok.fresh hc')
mutual
inductive Dp (K : PySem.W.Frag) (H : Hp) : V → PyData → Prop
  | non : Dp K H .non .none
  | bl (b : Bool) : Dp K H (.bl b) (.bool b)
  | int (i : Int) : Dp K H (.int i) (.int i)
  | str (x : Str) : Dp K H (.str x) (.str x)
  | lst {a : Addr} {xs : List V} {ds : List PyData} : SqL K H a xs → DpAll K H xs ds → Dp K H (.ref a) (.list ds)
  | tup {a : Addr} {xs : List V} {ds : List PyData} : SqT K H a xs → DpAll K H xs ds → Dp K H (.ref a) (.tuple ds)
inductive DpAll (K : PySem.W.Frag) (H : Hp) : List V → List PyData → Prop
  | nil : DpAll K H [] []
  | cons {v : V} {vs : List V} {d : PyData} {ds : List PyData} : Dp K H v d → DpAll K H vs ds → DpAll K H (v :: vs) (d :: ds)
end
mutual
theorem Dp.reads {X : Cx} {pins : List (Addr × Obj)} {σ : St} {H : Hp} {s : Shared} (I : Inv X pins σ H s) : ∀ {v : V} {d : PyData} {u : Value}, Dp X.K H v d → RelV v u → ∃ as, Reads s.heap u d as
  | _, _, u, .non, r => by cases r; exact ⟨_, .none⟩
  | _, _, u, .bl b, r => by cases r; exact ⟨_, .bool b⟩
  | _, _, u, .int i, r => by obtain ⟨t, rfl⟩ := r; exact ⟨_, .int i t⟩
  | _, _, u, .str x, r => by obtain ⟨t, rfl⟩ := r; exact ⟨_, .str x t⟩
  | _, _, u, .lst (xs := xs) q a, r => by
    cases r
    obtain ⟨its, rv, ⟨o, n, e, c, _, d⟩, _⟩ := I.list q
    obtain ⟨as, ra⟩ := DpAll.reads I a rv
    exact ⟨_, .list e c d (by simpa using ra)⟩
  | _, _, u, .tup (xs := xs) q a, r => by
    cases r
    obtain ⟨its, rv, ⟨o, e, c, n, d⟩, _⟩ := I.tuple q
    obtain ⟨as, ra⟩ := DpAll.reads I a rv
    exact ⟨_, .tuple e c d (by simpa using ra)⟩
theorem DpAll.reads {X : Cx} {pins : List (Addr × Obj)} {σ : St} {H : Hp} {s : Shared} (I : Inv X pins σ H s) : ∀ {vs : List V} {ds : List PyData} {us : List Value}, DpAll X.K H vs ds → Vals vs us → ∃ as, ReadsAll s.heap us ds as
  | _, _, _, .nil, .nil => ⟨_, .nil⟩
  | _, _, _, .cons h t, .cons r rr => by
    obtain ⟨as, ra⟩ := Dp.reads I h r
    obtain ⟨bs, rb⟩ := DpAll.reads I t rr
    exact ⟨_, .cons ra rb⟩
end
mutual
theorem Dp.same {K : PySem.W.Frag} {H H' : Hp} (g : Same H H') : ∀ {v : V} {d : PyData}, Dp K H v d → Dp K H' v d
  | _, _, .non => .non
  | _, _, .bl b => .bl b
  | _, _, .int i => .int i
  | _, _, .str x => .str x
  | _, _, .lst q a => .lst (g.seq q) (DpAll.same g a)
  | _, _, .tup q a => .tup (by
      rcases q with (h | ⟨o, h⟩) | h
      · exact .inl (.inl (g _ _ h))
      · exact .inl (.inr ⟨o, g _ _ h⟩)
      · exact .inr h) (DpAll.same g a)
theorem DpAll.same {K : PySem.W.Frag} {H H' : Hp} (g : Same H H') : ∀ {vs : List V} {ds : List PyData}, DpAll K H vs ds → DpAll K H' vs ds
  | _, _, .nil => .nil
  | _, _, .cons h t => .cons (Dp.same g h) (DpAll.same g t)
end
def rEqD (K : PySem.W.Frag) (neg : Bool) : R2 := fun x y H Q => ∃ d e, Dp K H x d ∧ Dp K H y e ∧ d.canLay0 = true ∧ e.canLay0 = true ∧ d.depth ≤ 64 ∧ Q (.bl (if neg then !(PyData.eqv d e) else PyData.eqv d e)) H
theorem op_eqD {X : Cx} (hu : X.A.units + 64 < cLine) : OpR X (compareOp .Eq) (rEqD X.K false) := by
  intro pins s σ H x y v u Q I rx ry h
  obtain ⟨d, e, hx, hy, cd, ce, dd, q⟩ := h
  obtain ⟨as, ra⟩ := hx.reads I rx
  obtain ⟨bs, rb⟩ := hy.reads I ry
  exact SeqAt.compareEq_reads ra rb cd ce (by omega) ⟨.bl _, H, I, rfl, by simpa using q⟩
theorem op_neD {X : Cx} (hu : X.A.units + 64 < cLine) : OpR X (compareOp .NotEq) (rEqD X.K true) := by
  intro pins s σ H x y v u Q I rx ry h
  obtain ⟨d, e, hx, hy, cd, ce, dd, q⟩ := h
  obtain ⟨as, ra⟩ := hx.reads I rx
  obtain ⟨bs, rb⟩ := hy.reads I ry
  exact SeqAt.compareNe_reads ra rb cd ce (by omega) ⟨.bl _, H, I, rfl, by simpa using q⟩
end L2
set_option Elab.async false
set_option linter.all false
set_option maxRecDepth 100000
namespace L2
open PySem PySem.Spec PyProof.Rows
theorem ObjOk.there {P : Program} {w : World} {H : Hp} {h : Heap} {a : Addr} {o : HO} (x : ObjOk P w H h a o) : ∃ ob, h.get? a = some ob := by
  cases o with
  | lst xs => obtain ⟨_, _, _, _, e⟩ := x; exact ⟨_, e⟩
  | tup xs => obtain ⟨_, _, _, ob, e, _⟩ := x; exact ⟨_, e⟩
  | dK kvs => obtain ⟨_, _, _, _, o, _, _, e, _⟩ := x; exact ⟨_, e⟩
  | dT kvs => obtain ⟨_, _, _, _, o, _, _, e, _⟩ := x; exact ⟨_, e⟩
  | set S n => obtain ⟨o, _, _, _, e, _⟩ := x; exact ⟨_, e⟩
  | ins C dx fs => obtain ⟨_, _, _, e, _⟩ := x; exact ⟨_, e⟩
  | own y => exact x
  | xd fs => obtain ⟨_, ⟨_, _, _, e, _⟩, _⟩ := x; exact ⟨_, e⟩
  | rng lo hi => obtain ⟨_, _, _, e⟩ := x; exact ⟨_, e⟩
  | frz ob u => obtain ⟨e, _⟩ := x; exact ⟨_, e⟩
  | tbl ps => exact ⟨_, (show h.get? a = some _ from x)⟩
  | met f y => exact ⟨_, (show h.get? a = some _ from x)⟩
  | ext φ => obtain ⟨_, e, _⟩ := x; exact e
theorem HOk.none_of {P : Program} {w : World} {H : Hp} {h : Heap} {a : Addr} (x : HOk P w H h) (e : h.get? a = none) : H a = none := by
  cases q : H a with
  | none => rfl
  | some o =>
    obtain ⟨ob, z⟩ := (x a o q).there
    rw [e] at z; cases z
section
variable {P : Program} {w : World} {K : PySem.W.Frag} {mg : Str → Option Value} {base : Heap} {N : List Str} {qual : Str} {scope : Scope} {f : Addr} {cd : Value} {A : Around} {outer : List Env} {s : Shared} {H : Hp} {E : XK}
end
end L2
set_option Elab.async false
set_option linter.all false
set_option maxRecDepth 100000
namespace L2
open PySem PySem.Spec PyProof.Rows
section
variable {X : Cx} {E : XK} {C : Addr} {x : Str} {np cpos pos : Pos} {e : Expr} {es : List Expr} {t : TA}
end
end L2
set_option Elab.async false
set_option linter.all false
set_option maxRecDepth 100000
namespace L2
open PySem PySem.Spec PyProof.Rows
abbrev Cx.at' (X : Cx) (pn : List (Addr × Obj)) (E : Value → Shared → Prop) : Cx := { X with pn := pn, xe := E }
theorem Inv.from' {X : Cx} {pins pins' : List (Addr × Obj)} {σ : St} {H : Hp} {s : Shared} {E : Value → Shared → Prop} (I : Inv (X.at' (X.pn ++ pins) E) pins' σ H s) : Inv X pins σ H s :=
  ⟨⟨I.ok.mod, I.ok.kind, I.ok.glob, I.ok.blt, I.ok.above, I.ok.inj, I.ok.has, I.ok.cab, I.ok.hd, I.ok.frames, I.ok.stk, I.ok.exf, I.ok.bs, I.ok.bsz, I.ok.noex, I.ok.exfs, I.ok.funs, I.ok.frf⟩, I.os, I.bare, I.base, I.loc, I.cell, I.free, I.freeC, fun p hp => I.pin p (List.mem_append_left _ hp), I.hok, I.len⟩
end L2
set_option Elab.async false
set_option linter.all false
set_option maxRecDepth 100000
namespace L2
open PySem PySem.Spec PyProof.Rows
structure XIs (K : PySem.W.Frag) (D : Addr) : Prop where
  hg : PySem.W.plainGet K D "__class__" = true
  hc : (PySem.W.clsIn K D).isSome = true
  ha : PySem.W.findIn K (.ref D) "__class__" = some (some (.builtin "object.__class__"))
  hn : PySem.W.specialIn K (.builtin "object.__class__") "__get__" = some (some (.builtin "getset_descriptor.__get__"))
  ht : PySem.W.takesIn K (.builtin "object.__class__") = some true
  hm : PySem.W.mroIn K D (.type "object") = some true
section
variable {K : PySem.W.Frag} {x D : Addr}
variable {prog : Program} {w : World} {A : Around} {E : Value → Shared → Prop} {s : Shared} {nm : Str}
end
section
variable {X : Cx}
end
end L2
set_option Elab.async false
set_option linter.all false
set_option maxRecDepth 100000
namespace L2
open PySem PySem.Spec PyProof.Rows
section
variable {κ : Type} [DecidableEq κ]
def valV (kvs : List (κ × V)) (k : κ) : Option V := (kvs.find? fun kv => decide (kv.1 = k)).map (·.2)
def putK (kvs : List (κ × V)) (k : κ) (v : V) : List (κ × V) :=
  if (kvs.any fun kv => decide (kv.1 = k)) = true then kvs.map (fun kv => if kv.1 = k then (kv.1, v) else kv) else kvs ++ [(k, v)]
def dropK (kvs : List (κ × V)) (k : κ) : List (κ × V) := kvs.filter fun kv => decide (kv.1 ≠ k)
theorem valV_pos {p : κ × V} {r : List (κ × V)} {k : κ} (e : p.1 = k) : valV (p :: r) k = some p.2 := by simp [valV, List.find?_cons, e]
theorem valV_neg {p : κ × V} {r : List (κ × V)} {k : κ} (e : ¬ p.1 = k) : valV (p :: r) k = valV r k := by simp [valV, List.find?_cons, e]
theorem valV_any (k : κ) : ∀ kvs : List (κ × V), (kvs.any fun kv => decide (kv.1 = k)) = (valV kvs k).isSome
  | [] => rfl
  | p :: r => by
    rw [List.any_cons]
    by_cases e : p.1 = k
    · simp only [valV_pos e, decide_eq_true e, Bool.true_or, Option.isSome_some]
    · rw [valV_neg e, decide_eq_false e, Bool.false_or]; exact valV_any k r
theorem length_putK (kvs : List (κ × V)) (k : κ) (v : V) : (putK kvs k v).length ≤ kvs.length + 1 := by
  unfold putK
  split
  · rw [List.length_map]; omega
  · rw [List.length_append, List.length_cons, List.length_nil]; omega
theorem RelO.isSome_eq {o : Option V} {u : Option Value} (r : RelO o u) : o.isSome = u.isSome := by
  cases o with
  | none => cases u with
    | none => rfl
    | some _ => exact (show False from r).elim
  | some _ => cases u with
    | none => exact (show False from r).elim
    | some _ => rfl
theorem RelO.getD {o : Option V} {u : Option Value} {d : V} {d' : Value} (r : RelO o u) (rd : RelV d d') : RelV (o.getD d) (u.getD d') := by
  cases o with
  | none => cases u with
    | none => exact rd
    | some _ => exact (show False from r).elim
  | some _ => cases u with
    | none => exact (show False from r).elim
    | some _ => exact r
theorem KV.val {kvs : List (κ × V)} {vs : List (κ × Value)} (r : KV kvs vs) (k : κ) : RelO (valV kvs k) (valueAt vs k) := by
  unfold KV at r
  induction r with
  | nil => exact True.intro
  | @cons p q ps qs h t ih =>
    obtain ⟨h1, h2⟩ := h
    by_cases e : p.1 = k
    · have e' : q.1 = k := h1.symm.trans e
      have b : valueAt (q :: qs) k = some q.2 := by simp [valueAt, List.find?_cons, e']
      rw [valV_pos e, b]; exact h2
    · have e' : ¬ q.1 = k := fun z => e (h1.trans z)
      have b : valueAt (q :: qs) k = valueAt qs k := by simp [valueAt, List.find?_cons, e']
      rw [valV_neg e, b]; exact ih
theorem KV.any {kvs : List (κ × V)} {vs : List (κ × Value)} (r : KV kvs vs) (k : κ) : (kvs.any fun kv => decide (kv.1 = k)) = vs.any fun kv => decide (kv.1 = k) := by
  unfold KV at r
  induction r with
  | nil => rfl
  | cons h t ih => rw [List.any_cons, List.any_cons, ih, h.1]
theorem KV.repl {kvs : List (κ × V)} {vs : List (κ × Value)} (r : KV kvs vs) (k : κ) {y : V} {u : Value} (ry : RelV y u) :
    KV (kvs.map fun kv => if kv.1 = k then (kv.1, y) else kv) (vs.map fun kv => if kv.1 = k then (kv.1, u) else kv) := by
  unfold KV at r ⊢
  induction r with
  | nil => exact .nil
  | @cons p q ps qs h t ih =>
    rw [List.map_cons, List.map_cons]
    refine .cons ?_ ih
    obtain ⟨h1, h2⟩ := h
    by_cases e : p.1 = k
    · rw [if_pos e, if_pos (h1.symm.trans e)]; exact ⟨h1, ry⟩
    · rw [if_neg e, if_neg (fun z => e (h1.trans z))]; exact ⟨h1, h2⟩
theorem KV.put {kvs : List (κ × V)} {vs : List (κ × Value)} (r : KV kvs vs) (k : κ) {y : V} {u : Value} (ry : RelV y u) : KV (putK kvs k y) (stored vs k u) := by
  unfold putK stored
  rw [r.any k]
  by_cases e : (vs.any fun kv => decide (kv.1 = k)) = true
  · rw [if_pos e, if_pos e]; exact r.repl k ry
  · rw [if_neg e, if_neg e]; exact Paired.snoc r ⟨rfl, ry⟩
theorem KV.drop {kvs : List (κ × V)} {vs : List (κ × Value)} (r : KV kvs vs) (k : κ) : KV (dropK kvs k) (without vs k) := by
  unfold KV at r ⊢
  unfold dropK without
  induction r with
  | nil => exact .nil
  | @cons p q ps qs h t ih =>
    obtain ⟨h1, h2⟩ := h
    rw [List.filter_cons, List.filter_cons]
    by_cases e : p.1 = k
    · have a : ¬ decide (p.1 ≠ k) = true := by simp [e]
      have b : ¬ decide (q.1 ≠ k) = true := by simp [h1.symm.trans e]
      rw [if_neg a, if_neg b]; exact ih
    · have e' : ¬ q.1 = k := fun z => e (h1.trans z)
      have a : decide (p.1 ≠ k) = true := by simp [e]
      have b : decide (q.1 ≠ k) = true := by simp [e']
      rw [if_pos a, if_pos b]; exact .cons ⟨h1, h2⟩ ih
theorem KV.keys {kvs : List (κ × V)} {vs : List (κ × Value)} (r : KV kvs vs) : kvs.map (·.1) = vs.map (·.1) := by
  unfold KV at r
  induction r with
  | nil => rfl
  | cons h t ih => rw [List.map_cons, List.map_cons, ih, h.1]
theorem KV.length {kvs : List (κ × V)} {vs : List (κ × Value)} (r : KV kvs vs) : kvs.length = vs.length := Paired.length r
end
theorem kV_is {P : Program} {w : World} {k : Key} {u : Value} (r : RelV (kV k) u) : (mixKind P w).is k u = true := by
  cases k with
  | inl i => obtain ⟨t, e⟩ := (show ∃ t, u = Value.int i t from r); subst e; exact mixKind_int P w i t
  | inr x => obtain ⟨t, e⟩ := (show ∃ t, u = Value.str x t from r); subst e; exact mixKind_str P w x t
theorem items_are {P : Program} {w : World} : ∀ {ks : List Key} {us : List Value}, Vals (ks.map kV) us → ItemsAre (mixKind P w) ks us
  | [], _, r => by rw [List.map_nil] at r; cases r; exact .nil
  | k :: ks, _, r => by
    rw [List.map_cons] at r
    cases r with
    | cons h t => exact .cons (kV_is h) (items_are t)
abbrev KT (H : Hp) : List (List Key × V) → List (List Key × Addr × Value) → Prop := Paired fun p q => p.1 = q.1 ∧ H q.2.1 = some (.tup (p.1.map kV)) ∧ RelV p.2 q.2.2
theorem KT.val {H : Hp} {kvs : List (List Key × V)} {xs : List (List Key × Addr × Value)} (r : KT H kvs xs) (k : List Key) : RelO (valV kvs k) ((atKey xs k).map (·.2)) := by
  induction r with
  | nil => exact True.intro
  | @cons p q ps qs h t ih =>
    obtain ⟨h1, _, h2⟩ := h
    by_cases e : p.1 = k
    · have e' : q.1 = k := h1.symm.trans e
      have b : atKey (q :: qs) k = some q.2 := by simp [atKey, List.find?_cons, e']
      rw [valV_pos e, b]; exact h2
    · have e' : ¬ q.1 = k := fun z => e (h1.trans z)
      have b : atKey (q :: qs) k = atKey qs k := by simp [atKey, List.find?_cons, e']
      rw [valV_neg e, b]; exact ih
theorem KT.repl {H : Hp} {kvs : List (List Key × V)} {xs : List (List Key × Addr × Value)} (r : KT H kvs xs) (k : List Key) {y : V} {u : Value} (ry : RelV y u) :
    KT H (kvs.map fun kv => if kv.1 = k then (kv.1, y) else kv) (xs.map (putAt k u)) := by
  induction r with
  | nil => exact .nil
  | @cons p q ps qs h t ih =>
    rw [List.map_cons, List.map_cons]
    refine .cons ?_ ih
    obtain ⟨h1, h2, h3⟩ := h
    unfold putAt
    by_cases e : p.1 = k
    · rw [if_pos e, if_pos (h1.symm.trans e)]; exact ⟨h1, h2, ry⟩
    · rw [if_neg e, if_neg (fun z => e (h1.trans z))]; exact ⟨h1, h2, h3⟩
theorem KT.put {H : Hp} {kvs : List (List Key × V)} {xs : List (List Key × Addr × Value)} (r : KT H kvs xs) (k : List Key) {b : Addr} {y : V} {u : Value} (hb : H b = some (.tup (k.map kV))) (ry : RelV y u) :
    KT H (putK kvs k y) (storedH xs k b u) := by
  have e : (kvs.any fun kv => decide (kv.1 = k)) = (atKey xs k).isSome := by
    rw [valV_any, (r.val k).isSome_eq, Option.isSome_map]
  unfold putK storedH
  rw [e]
  by_cases q : (atKey xs k).isSome = true
  · rw [if_pos q, if_pos q]; exact r.repl k ry
  · rw [if_neg q, if_neg q]; exact Paired.snoc r ⟨rfl, hb, ry⟩
theorem KT.keeps {H H' : Hp} {kvs : List (List Key × V)} {xs : List (List Key × Addr × Value)} (r : KT H kvs xs) (ht : ∀ b ys, H b = some (.tup ys) → H' b = some (.tup ys)) : KT H' kvs xs :=
  Paired.mapP r fun _ _ z => ⟨z.1, ht _ _ z.2.1, z.2.2⟩
section
variable {P : Program} {w : World} {H : Hp} {h : Heap} {a : Addr}
theorem rd_of {u : HO} (ok : HOk P w H h) (e : Rd H a u) : ObjOk P w H h a u := e.ok ok
theorem dk_rd {kvs : List (Key × V)} (ok : HOk P w H h) (e : Rd H a (.dK kvs)) : kvs.length ≤ sizeLine ∧ (a == sysModules) = false ∧ ∃ vs, KV kvs vs ∧ h.DictOf (mixKind P w) a vs :=
  show ObjOk P w H h a (.dK kvs) from rd_of ok e
theorem dk_of {kvs : List (Key × V)} (ok : HOk P w H h) (e : H a = some (.dK kvs)) : kvs.length ≤ sizeLine ∧ (a == sysModules) = false ∧ ∃ vs, KV kvs vs ∧ h.DictOf (mixKind P w) a vs := dk_rd ok (.inl e)
theorem key_of {ks : List Key} (ok : HOk P w H h) (e : H a = some (.tup (ks.map kV))) : (tupleKind (mixKind P w)).is h ks a := by
  obtain ⟨_, its, r, o, h1, h2, n, h3⟩ := (show ObjOk P w H h a (.tup (ks.map kV)) from ok a _ e)
  exact ⟨o, its.toArray, n, h1, h2, h3, by simpa using items_are r⟩
theorem dt_rd {kvs : List (List Key × V)} (ok : HOk P w H h) (e : Rd H a (.dT kvs)) : kvs.length ≤ sizeLine ∧ (a == sysModules) = false ∧
    ∃ xs, KT H kvs xs ∧ h.DictOfH (tupleKind (mixKind P w)) a xs := by
  obtain ⟨z, y, xs, r, o, es, ep, h1, h2, h3, h4, h5⟩ := (show ObjOk P w H h a (.dT kvs) from rd_of ok e)
  refine ⟨z, y, xs, r, o, es, ep, h1, h2, h3, h4, fun x hx => ?_, h5⟩
  have all : ∀ {l : List (List Key × V)} {m : List (List Key × Addr × Value)}, KT H l m → ∀ x ∈ m, (tupleKind (mixKind P w)).is h x.1 x.2.1 := by
    intro l m q
    induction q with
    | nil => intro x hx; exact nomatch hx
    | @cons p q ps qs hq t ih =>
      intro x hx
      rcases List.mem_cons.mp hx with e | hx
      · subst e
        exact key_of ok (by rw [← hq.1]; exact hq.2.1)
      · exact ih x hx
  exact all r x hx
end
def DGet (H : Hp) (a : Addr) (y : V) (r : Option V) : Prop :=
  (∃ kvs k, Rd H a (.dK kvs) ∧ y = kV k ∧ r = valV kvs k) ∨ ∃ kvs k b, Rd H a (.dT kvs) ∧ y = .ref b ∧ H b = some (.tup (k.map kV)) ∧ r = valV kvs k
def DPut (H : Hp) (a : Addr) (y v : V) (H' : Hp) : Prop :=
  (∃ kvs k, H a = some (.dK kvs) ∧ y = kV k ∧ kvs.length < sizeLine ∧ H' = upd H a (.dK (putK kvs k v))) ∨
  ∃ kvs k b, H a = some (.dT kvs) ∧ y = .ref b ∧ H b = some (.tup (k.map kV)) ∧ kvs.length < sizeLine ∧ H' = upd H a (.dT (putK kvs k v))
theorem DGet.k {H : Hp} {a : Addr} {kvs : List (Key × V)} {k : Key} (e : H a = some (.dK kvs)) : DGet H a (kV k) (valV kvs k) := .inl ⟨kvs, k, .inl e, rfl, rfl⟩
theorem DGet.t {H : Hp} {a b : Addr} {kvs : List (List Key × V)} {k : List Key} (e : H a = some (.dT kvs)) (eb : H b = some (.tup (k.map kV))) : DGet H a (.ref b) (valV kvs k) := .inr ⟨kvs, k, b, .inl e, rfl, eb, rfl⟩
theorem DPut.k {H : Hp} {a : Addr} {kvs : List (Key × V)} {k : Key} {v : V} (e : H a = some (.dK kvs)) (hl : kvs.length < sizeLine) : DPut H a (kV k) v (upd H a (.dK (putK kvs k v))) := .inl ⟨kvs, k, e, rfl, hl, rfl⟩
theorem DPut.t {H : Hp} {a b : Addr} {kvs : List (List Key × V)} {k : List Key} {v : V} (e : H a = some (.dT kvs)) (eb : H b = some (.tup (k.map kV))) (hl : kvs.length < sizeLine) :
    DPut H a (.ref b) v (upd H a (.dT (putK kvs k v))) := .inr ⟨kvs, k, b, e, rfl, eb, hl, rfl⟩
section
variable {X : Cx} {pins : List (Addr × Obj)} {σ : St} {H : Hp} {s : Shared} {a : Addr} {y v : V} {u r : Value} {o : Option V} {A : Around} {E : Value → Shared → Prop}
theorem Inv.big (I : Inv X pins σ H s) : sysModules < s.heap.objs.size := by
  have h : mainGlobals < s.heap.objs.size := (I.mod.glob.keeps I.bk).lt
  exact Nat.lt_trans (by decide) h
theorem d_write {h' : Heap} {t' : Nat} {ob : HO} (I : Inv X pins σ H s) (mu : Mut (H a)) (hs : Heap.SameBut a s.heap h') (he : ∃ q, h'.get? a = some q) (new : ObjOk X.prog X.w (upd H a ob) h' a ob) :
    Inv X pins σ (upd H a ob) { s with heap := h', toks := t' } :=
  I.write (x := a) (e := a) mu (.inl rfl) (fun b q hb z => (hs.2 b hb).trans z) he new
theorem dk_new {P : Program} {w : World} {H' : Hp} {h' : Heap} {kvs : List (Key × V)} {vs : List (Key × Value)} (z : kvs.length ≤ sizeLine) (hd : (a == sysModules) = false) (rel : KV kvs vs) (dd : h'.DictOf (mixKind P w) a vs) :
    ObjOk P w H' h' a (.dK kvs) := ⟨z, hd, vs, rel, dd⟩
end
section
variable {X : Cx} {pins : List (Addr × Obj)} {σ : St} {H : Hp} {s : Shared} {a : Addr} {kvs : List (Key × V)} {k : Key} {u : Value} {A : Around} {E : Value → Shared → Prop}
end
section
variable {X : Cx} {o i e value : Expr} {pos pos' tpos : Pos} {td ty tv : TE}
end
theorem dk_empty {P : Program} {w : World} {H : Hp} (h : Heap) (hb : sysModules < h.objs.size) : ObjOk P w H (h.push { cls := .type "dict", data := .dict #[] }) h.objs.size (.dK []) :=
  ⟨Nat.zero_le _, beq_eq_false_iff_ne.mpr (Ne.symm (Nat.ne_of_lt hb)), [], .nil, Heap.DictOf.new h⟩
def tDNewK : TE := fun _ H Q => ∀ p, H p = none → Q (.ref p) (upd H p (.dK []))
section
variable {X : Cx} {pos : Pos}
theorem pe_dnewK : PE X (.Dict [] [] pos) tDNewK := fun pins s σ H Q I h =>
  wpAny_Dict_empty ⟨.ref s.heap.objs.size, _, I.laid (a := s.heap.objs.size) (o := .dK []) (t' := s.toks) (fun _ _ q => Heap.get?_push_of_some _ q) (Nat.le_refl _) (dk_empty s.heap I.big), rfl, h _ (I.hok.fresh (Nat.le_refl _))⟩
end
structure M1 (X : Cx) (o : Expr) (m : Str) (apos : Pos) (e : Expr) (cpos : Pos) : Prop where
  base : attributeBase o m X.env (eval o X.env) = eval o X.env
  few : ((backTo cpos (starEach [e] X.env)).all (fun x => !x.1) && (backToKw cpos (keywordEach [] X.env)).all (fun x => x.1.isSome)
    && decide (([e] : List Expr).length + ([] : List Keyword).length + (if ([] : List Keyword).isEmpty then 0 else 1) < 30)) = true
  line : (apos.endLine == cpos.line) = true
  trees : backTo cpos (starEach [e] X.env) = [(false, eval e X.env)]
structure M2 (X : Cx) (o : Expr) (m : Str) (apos : Pos) (e f : Expr) (cpos : Pos) : Prop where
  base : attributeBase o m X.env (eval o X.env) = eval o X.env
  few : ((backTo cpos (starEach [e, f] X.env)).all (fun x => !x.1) && (backToKw cpos (keywordEach [] X.env)).all (fun x => x.1.isSome)
    && decide (([e, f] : List Expr).length + ([] : List Keyword).length + (if ([] : List Keyword).isEmpty then 0 else 1) < 30)) = true
  line : (apos.endLine == cpos.line) = true
  trees : backTo cpos (starEach [e, f] X.env) = [(false, eval e X.env), (false, eval f X.env)]
def IsD (H : Hp) (a : Addr) : Prop := (∃ kvs, Rd H a (.dK kvs)) ∨ ∃ kvs, Rd H a (.dT kvs)
theorem isD_at {X : Cx} {pins : List (Addr × Obj)} {σ : St} {H : Hp} {s : Shared} {a : Addr} (I : Inv X pins σ H s) (d : IsD H a) :
    s.TypeIs (.ref a) "dict" ∧ (∀ b, Value.ref a = .ref b → ∃ ob, s.heap.get? b = some ob ∧ ob.dict = none) ∧ (a == sysModules) = false := by
  rcases d with ⟨kvs, e⟩ | ⟨kvs, e⟩
  · obtain ⟨_, hd, vs, _, dd⟩ := dk_rd I.hok e
    refine ⟨dd.typeIs, fun b q => ?_, hd⟩
    cases q
    obtain ⟨ob, _, _, h1, h2, _⟩ := dd
    exact ⟨ob, h1, h2.2.1⟩
  · obtain ⟨_, hd, xs, _, dd⟩ := dt_rd I.hok e
    refine ⟨dd.typeIs, fun b q => ?_, hd⟩
    cases q
    obtain ⟨ob, _, _, h1, h2, _⟩ := dd
    exact ⟨ob, h1, h2.2.1⟩
section
variable {X : Cx} {pins : List (Addr × Obj)} {σ : St} {H : Hp} {s : Shared} {a : Addr} {y d : V} {u r : Value} {o : Option V} {A : Around} {E : Value → Shared → Prop}
end
section
variable {X : Cx} {o e f : Expr} {apos cpos : Pos} {td ty tx : TE}
end
section
variable {X : Cx} {pins : List (Addr × Obj)} {σ : St} {H : Hp} {s : Shared} {a : Addr} {kvs : List (Key × V)} {A : Around} {E : Value → Shared → Prop}
end
section
variable {X : Cx} {pins : List (Addr × Obj)} {σ : St} {H : Hp} {s : Shared} {a : Addr} {y : V} {u : Value} {A : Around} {E : Value → Shared → Prop}
end
end L2
namespace L2
open PySem PySem.Spec PyProof.Rows
section
variable {X : Cx}
end
section
variable {κ : Type} [DecidableEq κ]
end
end L2
set_option Elab.async false
set_option linter.all false
set_option maxRecDepth 100000
namespace L2
open PySem PySem.Spec PyProof.Rows
def Asc (z : Str) : Prop := z.cps.all (· < 128) = true
section
variable {z : Str} {wi : TI} {g : TG} {tb : TS} {D : Ends} {σ : St} {H H1 : Hp} {ix : List (Option Nat)} {tc : TT} {te : TE} {Q : VK}
end
section
variable {X : Cx}
theorem truth_bools {P : Program} {w : World} {A : Around} {its : Array Value} {bs : List Bool} (r : Vals (bs.map V.bl) its.toList) : TruthOf P w A (fun i v => its[i]? = some v) fun i => bs.getD i false := by
  intro i v s Q E hv hQ
  have hv' : its.toList[i]? = some v := by simpa using hv
  have hlen := r.length
  have hi : i < bs.length := by
    have := (List.getElem?_eq_some_iff.mp hv').1
    rw [← hlen, List.length_map] at this
    exact this
  have hb : (bs.map V.bl)[i]? = some (V.bl bs[i]) := by rw [List.getElem?_map, List.getElem?_eq_getElem hi]; rfl
  obtain ⟨u, hu, ru⟩ := r.get hb
  rw [hv'] at hu
  cases hu
  cases ru
  refine wpAny_truthy_bool ?_
  have e : bs.getD i false = bs[i] := by simp [hi]
  have hQ' : Q (bs.getD i false) s := hQ
  rw [e] at hQ'
  exact hQ'
theorem range_all (bs : List Bool) : (List.range bs.length).all (fun i => bs.getD i false) = bs.all id := by
  rw [Bool.eq_iff_iff, List.all_eq_true, List.all_eq_true]
  constructor
  · intro h b hb
    obtain ⟨i, hi, rfl⟩ := List.mem_iff_getElem.mp hb
    have := h i (List.mem_range.mpr hi)
    simpa [hi] using this
  · intro h i hi
    have hi' := List.mem_range.mp hi
    have := h bs[i] (List.getElem_mem hi')
    simpa [hi'] using this
theorem range_any (bs : List Bool) : (List.range bs.length).any (fun i => bs.getD i false) = bs.any id := by
  rw [Bool.eq_iff_iff, List.any_eq_true, List.any_eq_true]
  constructor
  · rintro ⟨i, hi, h⟩
    have hi' := List.mem_range.mp hi
    exact ⟨bs[i], List.getElem_mem hi', by simpa [hi'] using h⟩
  · rintro ⟨b, hb, h⟩
    obtain ⟨i, hi, rfl⟩ := List.mem_iff_getElem.mp hb
    exact ⟨i, List.mem_range.mpr hi, by simpa [hi] using h⟩
theorem call_all' (hc : X.calm = true) : CallR X (.builtin "all") (fun xs H Q => ∃ (a : Addr) (bs : List Bool), xs = [.ref a] ∧ SqL X.K H a (bs.map V.bl) ∧ Q (.bl (bs.all id)) H) := by
  intro pins s σ H xs us Q I r h
  obtain ⟨a, bs, rfl, hq, q⟩ := h
  obtain ⟨u, rfl, ru⟩ := vals1 r
  cases ru
  obtain ⟨its, rv, pl, _⟩ := I.list hq
  refine call_all_walk (wpAny_pyIter_list pl.isList ?_)
  have hne : a ≠ s.heap.objs.size := by
    obtain ⟨o, n, e, _⟩ := pl
    exact Nat.ne_of_lt (Heap.lt_size e)
  refine ⟨s.heap.objs.size, _, _, _, _, _, _, rfl, Walks.list (A := X.A.in1) (show X.A.in1.handled = none from I.ok.hd hc) _ a hne its.toArray, ⟨⟨_, Heap.get?_push_size _ rfl, rfl, rfl⟩, pl.isList.push _⟩, truth_bools (bs := bs) (by simpa using rv), fun h' tk k => ?_⟩
  have hsz : its.toArray.size = bs.length := by rw [List.size_toArray, ← rv.length, List.length_map]
  rw [hsz, range_all]
  exact ⟨.bl _, H, I.kept fun b o e => k b o (by
    simp only [List.mem_cons, List.not_mem_nil, or_false]
    exact Nat.ne_of_lt (Heap.lt_size e)) (Heap.get?_push_of_some _ e), rfl, q⟩
theorem call_any' (hc : X.calm = true) : CallR X (.builtin "any") (fun xs H Q => ∃ (a : Addr) (bs : List Bool), xs = [.ref a] ∧ SqL X.K H a (bs.map V.bl) ∧ Q (.bl (bs.any id)) H) := by
  intro pins s σ H xs us Q I r h
  obtain ⟨a, bs, rfl, hq, q⟩ := h
  obtain ⟨u, rfl, ru⟩ := vals1 r
  cases ru
  obtain ⟨its, rv, pl, _⟩ := I.list hq
  refine call_any_walk (wpAny_pyIter_list pl.isList ?_)
  have hne : a ≠ s.heap.objs.size := by
    obtain ⟨o, n, e, _⟩ := pl
    exact Nat.ne_of_lt (Heap.lt_size e)
  refine ⟨s.heap.objs.size, _, _, _, _, _, _, rfl, Walks.list (A := X.A.in1) (show X.A.in1.handled = none from I.ok.hd hc) _ a hne its.toArray, ⟨⟨_, Heap.get?_push_size _ rfl, rfl, rfl⟩, pl.isList.push _⟩, truth_bools (bs := bs) (by simpa using rv), fun h' tk k => ?_⟩
  have hsz : its.toArray.size = bs.length := by rw [List.size_toArray, ← rv.length, List.length_map]
  rw [hsz, range_any]
  exact ⟨.bl _, H, I.kept fun b o e => k b o (by
    simp only [List.mem_cons, List.not_mem_nil, or_false]
    exact Nat.ne_of_lt (Heap.lt_size e)) (Heap.get?_push_of_some _ e), rfl, q⟩
end
end L2
set_option Elab.async false
set_option linter.all false
set_option maxRecDepth 100000
namespace L2
open PySem PySem.Spec PyProof.Rows
section
variable {X : Cx}
def CMulM (i j : Int) : Prop := i.natAbs < 2 ^ 512 ∧ j.natAbs < 2 ^ 512
theorem op_mulM : OpR X (binaryOp .Mult) (rI CMulM fun i j => .int (i * j)) := opI fun _ _ _ _ _ _ _ hc q => mul_int q (IntMulOk.of_le (PySem.intBits_le_iff.mpr hc.1) (PySem.intBits_le_iff.mpr hc.2) (by decide))
theorem call_isiT : CallR X (.builtin "isinstance") (fun xs H Q => ∃ (a : Addr) (ys : List V) (T : String) (k : Bool), xs = [.ref a, .ty T] ∧ SqT X.K H a ys ∧ PySem.W.kitOne X.K (.type "tuple") (.type T) = some k ∧ Q (.bl k) H) := by
  intro pins s σ H xs us Q I r h
  obtain ⟨a, ys, T, k, rfl, ha, hk, q⟩ := h
  cases r with
  | cons r rr =>
    cases rr with
    | cons r' rr =>
      cases rr
      cases r
      cases r'
      obtain ⟨its, _, ⟨o, e, c, _⟩, _⟩ := I.tuple ha
      exact PySem.W.kia_one (PySem.W.kitx_tuple) I.kIn ⟨o, e, c⟩ hk (by intro z; cases z) fun tk => ⟨.bl k, H, I.tok tk, rfl, q⟩
theorem call_isiL : CallR X (.builtin "isinstance") (fun xs H Q => ∃ (a : Addr) (ys : List V) (T : String) (k : Bool), xs = [.ref a, .ty T] ∧ SqL X.K H a ys ∧ PySem.W.kitOne X.K (.type "list") (.type T) = some k ∧ Q (.bl k) H) := by
  intro pins s σ H xs us Q I r h
  obtain ⟨a, ys, T, k, rfl, ha, hk, q⟩ := h
  cases r with
  | cons r rr =>
    cases rr with
    | cons r' rr =>
      cases rr
      cases r
      cases r'
      obtain ⟨its, _, ⟨o, n, e, c, _⟩, _⟩ := I.list ha
      exact PySem.W.kia_one (PySem.W.kitx_list) I.kIn ⟨o, e, c⟩ hk (by intro z; cases z) fun tk => ⟨.bl k, H, I.tok tk, rfl, q⟩
end
end L2
set_option Elab.async false
set_option linter.all false
set_option maxRecDepth 100000
namespace L2
open PySem PySem.Spec PyProof.Rows
section
variable {X : Cx} {K : PySem.W.Frag}
theorem ix_seqK (h : X.K = K) : IxR X (rIx K) := h ▸ ix_seq
theorem sl_listK (h : X.K = K) : SlR X (rSlL K) := h ▸ sl_list
theorem op_in_seqK (h : X.K = K) : OpR X (compareOp .In) (rIn K false) := h ▸ op_in_seq
def rLen (K : PySem.W.Frag) : List V → Hp → VK → Prop := fun xs H Q => ∃ p ys, xs = [.ref p] ∧ (SqL K H p ys ∨ SqT K H p ys) ∧ Q (.int ys.length) H
theorem call_len_seqK (h : X.K = K) : CallR X (.builtin "len") (rLen K) := h ▸ call_len_seq
def rLenS : List V → Hp → VK → Prop := fun xs H Q => ∃ z, xs = [.str z] ∧ z.length ≤ sizeLine ∧ Q (.int z.length) H
theorem call_len_strK : CallR X (.builtin "len") rLenS := call_len_str
def rIsiT (K : PySem.W.Frag) : List V → Hp → VK → Prop := fun xs H Q => ∃ (a : Addr) (ys : List V) (T : String) (k : Bool), xs = [.ref a, .ty T] ∧ SqT K H a ys ∧ PySem.W.kitOne K (.type "tuple") (.type T) = some k ∧ Q (.bl k) H
theorem call_isiTK (h : X.K = K) : CallR X (.builtin "isinstance") (rIsiT K) := h ▸ call_isiT
def rIsiL (K : PySem.W.Frag) : List V → Hp → VK → Prop := fun xs H Q => ∃ (a : Addr) (ys : List V) (T : String) (k : Bool), xs = [.ref a, .ty T] ∧ SqL K H a ys ∧ PySem.W.kitOne K (.type "list") (.type T) = some k ∧ Q (.bl k) H
theorem call_isiLK (h : X.K = K) : CallR X (.builtin "isinstance") (rIsiL K) := h ▸ call_isiL
def rIsi : List V → Hp → VK → Prop := fun xs H Q => ∃ v T k, xs = [v, .ty T] ∧ isiV v T = some k ∧ Q (.bl k) H
theorem call_isiK : CallR X (.builtin "isinstance") rIsi := call_isi
def rListOf (K : PySem.W.Frag) : List V → Hp → VK → Prop := fun xs H Q => ∃ p ys, xs = [.ref p] ∧ (SqL K H p ys ∨ SqT K H p ys) ∧ ∀ l, H l = none → Q (.ref l) (upd H l (.lst ys))
theorem call_list_ofK (h : X.K = K) : CallR X (.type "list") (rListOf K) := h ▸ call_list_of
def rAll (K : PySem.W.Frag) : List V → Hp → VK → Prop := fun xs H Q => ∃ (a : Addr) (bs : List Bool), xs = [.ref a] ∧ SqL K H a (bs.map V.bl) ∧ Q (.bl (bs.all id)) H
theorem call_allK (h : X.K = K) (hc : X.calm = true) : CallR X (.builtin "all") (rAll K) := h ▸ call_all' hc
def rAny (K : PySem.W.Frag) : List V → Hp → VK → Prop := fun xs H Q => ∃ (a : Addr) (bs : List Bool), xs = [.ref a] ∧ SqL K H a (bs.map V.bl) ∧ Q (.bl (bs.any id)) H
theorem call_anyK (h : X.K = K) (hc : X.calm = true) : CallR X (.builtin "any") (rAny K) := h ▸ call_any' hc
theorem pg_tupK {pos : Pos} {es : List Expr} {k : Nat} {t : TGs} {n : Nat} (h : X.K = K) (hc : X.calm = true) (hh : PGs X es t)
    (hn : (assignEach es X.env).length = n := by rfl) (hst : (assignEach es X.env).findIdx? (·.1) = none := by rfl) : PG X (.Tuple es k pos) (gTup K n t) := h ▸ pg_tup hc hh hn hst
theorem pi_enumK {elts : List Expr} {x1} {tpos : Pos} {a : Expr} {ta : TA} {p pos : Pos} (h : X.K = K) (hg : Gl X "enumerate") (hm : X.mg "enumerate" = none) (ha : PA X [a] ta) (hs : starEach [a] X.env = [(false, eval a X.env)] := by rfl) :
    PI X (.Tuple elts x1 tpos) (.Call (.Name "enumerate" p) [a] [] pos) (iEnum K ta) := h ▸ pi_enum hg hm ha hs
variable {o e : Expr} {es : List Expr} {to : TE} {t : TA} {name : Str} {apos cpos : Pos} {T id : String} {r : V → List V → Hp → VK → Prop}
theorem pe_bm0K (h : X.K = K) (pa : PlainAttrs T) (slot : Slot T name id) (hty : typeOf (.builtin id) = pure (.type "method_descriptor")) (hm : MtR X id r) (ho : PE X o to)
    (hbase : attributeBase o name X.env (eval o X.env) = eval o X.env := by rfl) (hline : (apos.endLine == cpos.line) = true := by rfl) : PE X (.Call (.Attribute o name apos) [] [] cpos) (tBM0 K T r to) := h ▸ pe_bm0 pa slot hty hm ho hbase hline
theorem pe_bmK (h : X.K = K) (pa : PlainAttrs T) (slot : Slot T name id) (hty : typeOf (.builtin id) = pure (.type "method_descriptor")) (hm : MtR X id r) (ho : PE X o to) (ha : PA X (e :: es) t)
    (hbase : attributeBase o name X.env (eval o X.env) = eval o X.env := by rfl)
    (hfew : ((backTo cpos (starEach (e :: es) X.env)).all (fun x => !x.1) && (backToKw cpos (keywordEach [] X.env)).all (fun x => x.1.isSome)
      && decide ((e :: es).length + ([] : List Keyword).length + (if ([] : List Keyword).isEmpty then 0 else 1) < 30)) = true := by rfl)
    (hline : (apos.endLine == cpos.line) = true := by rfl) (hs : starEach (e :: es) X.env = (false, eval e X.env) :: starEach es X.env := by rfl) (hplain : (backTo cpos (starEach es X.env)).any (·.1) = false := by rfl) :
    PE X (.Call (.Attribute o name apos) (e :: es) [] cpos) (tBM K T r to t) := h ▸ pe_bm pa slot hty hm ho ha hbase hfew hline hs hplain
end
theorem same_new {H : Hp} {p : Addr} (h : H p = none) (o : HO) : Same H (upd H p o) := fun b u q => by rw [upd_ne (ne_of_none q h)]; exact q
theorem Same.upd {H H' : Hp} {p : Addr} (g : Same H H') (h : H p = none) (o : HO) : Same H (L2.upd H' p o) := fun b u q => by rw [upd_ne (ne_of_none q h)]; exact g b u q
theorem Same.tup {K : PySem.W.Frag} {H H' : Hp} {a : Addr} {xs : List V} (g : Same H H') (q : SqT K H a xs) : SqT K H' a xs := by
  rcases q with (h | ⟨o, h⟩) | h
  · exact .inl (.inl (g _ _ h))
  · exact .inl (.inr ⟨o, g _ _ h⟩)
  · exact .inr h
theorem asc_iff {z : Str} : Asc z ↔ ∀ c ∈ z.cps.toList, c < 128 := by
  unfold Asc
  rw [Array.all_eq_true']
  constructor
  · intro h c hc; simpa using h c (by simpa using hc)
  · intro h c hc; simpa using h c (by simpa using hc)
theorem Asc.app {a b : Str} (h : Asc a) (h' : Asc b) : Asc (a ++ b) := by
  rw [asc_iff] at *
  intro c hc
  have e : (a ++ b).cps = a.cps ++ b.cps := rfl
  rw [e, Array.toList_append, List.mem_append] at hc
  exact hc.elim (h c) (h' c)
theorem Asc.one {z : Str} (h : Asc z) {i : Int} {c : Nat} (e : atI z.cps.toList i = some c) : Asc ⟨#[c]⟩ := by
  rw [asc_iff] at *
  obtain ⟨j, _, hj, _⟩ := atI_get e
  have := h c (List.mem_of_getElem? hj)
  intro d hd
  have : d = c := by simpa using hd
  omega
theorem Asc.slice {z : Str} (h : Asc z) (lo hi : Option Int) : Asc (Txt.slice z lo hi) := by
  rw [asc_iff] at *
  intro c hc
  unfold Txt.slice at hc
  split at hc
  · exact h c hc
  refine h c ?_
  simp only [List.mem_filterMap] at hc
  obtain ⟨k, _, e⟩ := hc
  exact List.mem_of_getElem? (by simpa using e)
theorem Asc.ok {z : Str} (h : Asc z) : PyData.strOk z = true := by
  rw [asc_iff] at h
  unfold PyData.strOk
  rw [Array.all_eq_true']
  intro c hc
  have := h c (by simpa using hc)
  simp only [decide_eq_true_eq]
  omega
def Nw (H H' : Hp) (p : Addr) (o : HO) : Prop := Same H H' ∧ H p = none ∧ H' p = some o
theorem Nw.of {H : Hp} {p : Addr} {o : HO} (h : H p = none) : Nw H (upd H p o) p o := ⟨same_new h o, h, upd_same⟩
def tTupN (t : TA) : TE := fun σ H Q => t σ H fun xs H1 => xs.length ≤ sizeLine ∧ ∀ p H', Nw H1 H' p (.tup xs) → Q (.ref p) H'
def tLstN (t : TA) : TE := fun σ H Q => t σ H fun xs H1 => xs.length ≤ sizeLine ∧ ∀ p H', Nw H1 H' p (.lst xs) → Q (.ref p) H'
section
variable {X : Cx} {K : PySem.W.Frag} {es : List Expr} {t : TA} {pos : Pos}
theorem pe_tupN {x1} (h : PA X es t) : PE X (.Tuple es x1 pos) (tTupN t) := fun pins s σ H Q I hq => wpAny_Tuple_spliced (thn (h pos pins s σ H _ I hq) fun us s1 ⟨xs, H1, I1, r, z, q⟩ => ⟨by rw [← r.length]; exact z,
  .ref s1.heap.objs.size, _, I1.laid (t' := s1.toks) (o := .tup xs) (fun b u e => Heap.get?_push_of_some _ e) (Nat.le_refl _) ⟨z, us, r, ⟨_, Heap.get?_push_size _ rfl, rfl, _, rfl⟩⟩, rfl, q _ _ (.of (I1.hok.fresh (Nat.le_refl _)))⟩)
theorem pe_lstN (h : PA X es t) : PE X (.List es pos) (tLstN t) := fun pins s σ H Q I hq => wpAny_List_spliced (thn (h pos pins s σ H _ I hq) fun us s1 ⟨xs, H1, I1, r, z, q⟩ => ⟨by rw [← r.length]; exact z,
  .ref s1.heap.objs.size, _, I1.laid (t' := s1.toks) (o := .lst xs) (fun b u e => Heap.get?_push_of_some _ e) (Nat.le_refl _) ⟨z, us, 0, r, Heap.get?_push_size _ rfl⟩, rfl, q _ _ (.of (I1.hok.fresh (Nat.le_refl _)))⟩)
def rSlLN (K : PySem.W.Frag) : V → Option Int → Option Int → Hp → VK → Prop := fun x lo hi H Q => ∃ a xs, x = .ref a ∧ SqL K H a xs ∧ ∀ p H', Nw H H' p (.lst (cutV xs lo hi)) → Q (.ref p) H'
theorem sl_listN (h : X.K = K) : SlR X (rSlLN K) := fun pins s σ H x v vl vu lo hi sl Q I rx hs pl pu ⟨a, xs, e, q, r⟩ => sl_listK h pins s σ H x v vl vu lo hi sl Q I rx hs pl pu ⟨a, xs, e, q, fun p hp => r p _ (.of hp)⟩
end
end L2
set_option Elab.async false
set_option linter.all false
set_option maxRecDepth 100000
namespace L2
open PySem PySem.Spec PyProof.Rows
section
variable {X : Cx} {K : PySem.W.Frag}
theorem ps_setI {o i e : Expr} {to ti te : TE} {pos tpos : Pos} (he : PE X e te) (ho : PE X o to) (hi : PE X i ti)
    (ha : ∀ v, assign (.Subscript o i tpos) X.env v = (do
      let ov ← holding [v] (eval o X.env)
      let iv ← holding [v, ov] (eval i X.env)
      standAt tpos
      holding [v, ov, iv] (setItem ov iv v)
      release [v, ov, iv] []) := by intro _; rfl) (hs : swapsWithSole [.Subscript o i tpos] e pos.line X.env = pure false := by rfl) (hw : swappedStores [.Subscript o i tpos] e X.env = pure none := by rfl) : PS X (.Assign [.Subscript o i tpos] e pos) (tAsg te (gSub to ti rSetL)) := ps_asg he (pg_sub ho hi set_list ha) hs hw
end
end L2
set_option Elab.async false
set_option linter.all false
set_option maxRecDepth 100000
namespace L2
open PySem PySem.Spec PyProof.Rows
end L2
set_option Elab.async false
set_option linter.all false
set_option maxRecDepth 100000
namespace L2
open PySem PySem.Spec PyProof.Rows
section
variable {K : PySem.W.Frag} {x D : Addr} {prog : Program} {w : World} {A : Around} {E : Value → Shared → Prop} {s : Shared}
end
structure XIs2 (K : PySem.W.Frag) (D : Addr) : Prop where
  g1 : PySem.W.findIn K (.ref D) "__getattribute__" = some (some (.builtin "BaseException.__getattribute__"))
  g2 : PySem.W.findIn K (.ref D) "__getattr__" = some none
  hb : PySem.W.mroIn K D (.type "BaseException") = some true
  hc : ∃ cd, PySem.W.clsIn K D = some cd
  ha : PySem.W.findIn K (.ref D) "__class__" = some (some (.builtin "object.__class__"))
  hn : PySem.W.specialIn K (.builtin "object.__class__") "__get__" = some (some (.builtin "getset_descriptor.__get__"))
  ht : PySem.W.takesIn K (.builtin "object.__class__") = some true
  hm : PySem.W.mroIn K D (.type "object") = some true
section
variable {X : Cx} {K : PySem.W.Frag}
end
end L2
set_option Elab.async false
set_option linter.all false
set_option maxRecDepth 100000
namespace L2
open PySem PySem.Spec PyProof.Rows
section
variable {P : Program} {w : World} {A : Around} {E : Value → Shared → Prop} {s : Shared}
end
end L2
set_option Elab.async false
set_option linter.all false
set_option maxRecDepth 100000
namespace L2
open PySem PySem.Spec PyProof.Rows
section
variable {X : Cx} {K : PySem.W.Frag}
end
section
variable {K : PySem.W.Frag} {a b : Addr} {xs ys : List V} {wi : TI} {g : TG} {σ : St} {H H1 : Hp} {ix : List (Option Nat)} {tc : TT} {te : TE} {Q : VK}
end
end L2
set_option Elab.async false
set_option linter.all false
set_option maxRecDepth 100000
namespace L2
open PySem PySem.Spec PyProof.Rows
section
variable {K : PySem.W.Frag} {a : Addr} {xs : List V} {wi : TI} {g : TG} {σ : St} {H H1 : Hp} {ix : List (Option Nat)} {tc : TT} {te : TE} {Q : VK}
end
def spNever : Sp := fun _ _ _ _ => False
theorem FnOk.never {P : Program} {w : World} {K : PySem.W.Frag} {mg : Str → Option Value} {base : Heap} {CX : CXT} {k : Nat} {f : Addr} {fd : FuncData} {ps : List Str} : FnOk P w K mg base CX k f fd ps spNever := ⟨fun _ _ _ _ h => h.elim, fun _ _ _ _ _ _ _ _ _ _ _ _ _ h => h.elim⟩
end L2
set_option Elab.async false
set_option linter.all false
set_option maxRecDepth 100000
namespace L2
open PySem PySem.Spec PyProof.Rows
end L2
set_option Elab.async false
set_option linter.all false
set_option maxRecDepth 100000
namespace L2
open PySem PySem.Spec PyProof.Rows
inductive W where
  | none | bool (b : Bool) | int (i : Int) | str (x : Str) | list (ds : List W) | tuple (ds : List W) | ref (n : Nat)
mutual
inductive Dw (K : PySem.W.Frag) (ρ : List Addr) (H : Hp) : V → W → Prop
  | non : Dw K ρ H .non .none
  | bl (b : Bool) : Dw K ρ H (.bl b) (.bool b)
  | int (i : Int) : Dw K ρ H (.int i) (.int i)
  | str (x : Str) : Dw K ρ H (.str x) (.str x)
  | lst {a : Addr} {xs : List V} {ds : List W} : SqL K H a xs → DwAll K ρ H xs ds → Dw K ρ H (.ref a) (.list ds)
  | tup {a : Addr} {xs : List V} {ds : List W} : SqT K H a xs → DwAll K ρ H xs ds → Dw K ρ H (.ref a) (.tuple ds)
  | ref {a : Addr} {n : Nat} : ρ[n]? = some a → Dw K ρ H (.ref a) (.ref n)
inductive DwAll (K : PySem.W.Frag) (ρ : List Addr) (H : Hp) : List V → List W → Prop
  | nil : DwAll K ρ H [] []
  | cons {v : V} {vs : List V} {d : W} {ds : List W} : Dw K ρ H v d → DwAll K ρ H vs ds → DwAll K ρ H (v :: vs) (d :: ds)
end
mutual
theorem Dw.same {K : PySem.W.Frag} {ρ : List Addr} {H H' : Hp} (g : Same H H') : ∀ {v : V} {d : W}, Dw K ρ H v d → Dw K ρ H' v d
  | _, _, .non => .non
  | _, _, .bl b => .bl b
  | _, _, .int i => .int i
  | _, _, .str x => .str x
  | _, _, .lst q a => .lst (g.seq q) (DwAll.same g a)
  | _, _, .tup q a => .tup (g.tup q) (DwAll.same g a)
  | _, _, .ref e => .ref e
theorem DwAll.same {K : PySem.W.Frag} {ρ : List Addr} {H H' : Hp} (g : Same H H') : ∀ {vs : List V} {ds : List W}, DwAll K ρ H vs ds → DwAll K ρ H' vs ds
  | _, _, .nil => .nil
  | _, _, .cons h t => .cons (Dw.same g h) (DwAll.same g t)
end
mutual
def W.py : W → Option PyData
  | .none => some .none
  | .bool b => some (.bool b)
  | .int i => some (.int i)
  | .str x => some (.str x)
  | .list ds => (W.pys ds).map .list
  | .tuple ds => (W.pys ds).map .tuple
  | .ref _ => Option.none
def W.pys : List W → Option (List PyData)
  | [] => some []
  | d :: ds => (W.py d).bind fun x => (W.pys ds).map (x :: ·)
end
mutual
theorem Dw.dp {K : PySem.W.Frag} {ρ : List Addr} {H : Hp} : ∀ {v : V} {d : W} {x : PyData}, Dw K ρ H v d → d.py = some x → Dp K H v x
  | _, _, _, .non, e => by simp only [W.py] at e; cases e; exact .non
  | _, _, _, .bl b, e => by simp only [W.py] at e; cases e; exact .bl b
  | _, _, _, .int i, e => by simp only [W.py] at e; cases e; exact .int i
  | _, _, _, .str y, e => by simp only [W.py] at e; cases e; exact .str y
  | _, _, _, .lst q a, e => by
    simp only [W.py] at e
    obtain ⟨xs, e1, rfl⟩ := Option.map_eq_some_iff.mp e
    exact .lst q (DwAll.dp a e1)
  | _, _, _, .tup q a, e => by
    simp only [W.py] at e
    obtain ⟨xs, e1, rfl⟩ := Option.map_eq_some_iff.mp e
    exact .tup q (DwAll.dp a e1)
  | _, _, _, .ref _, e => by simp only [W.py] at e; cases e
theorem DwAll.dp {K : PySem.W.Frag} {ρ : List Addr} {H : Hp} : ∀ {vs : List V} {ds : List W} {xs : List PyData}, DwAll K ρ H vs ds → W.pys ds = some xs → DpAll K H vs xs
  | _, _, _, .nil, e => by simp only [W.pys] at e; cases e; exact .nil
  | _, _, _, .cons h t, e => by
    simp only [W.pys] at e
    obtain ⟨x, e1, e⟩ := Option.bind_eq_some_iff.mp e
    obtain ⟨ys, e2, rfl⟩ := Option.map_eq_some_iff.mp e
    exact .cons (Dw.dp h e1) (DwAll.dp t e2)
end
inductive Sl where
  | no
  | val (d : W)
  | own (ds : List W)
abbrev DS := List Sl
def SlOk (K : PySem.W.Frag) (ρ : List Addr) (G H : Hp) : Sl → Option V → Prop
  | .no, _ => True
  | .val d, o => ∃ v, o = some v ∧ Dw K ρ G v d
  | .own ds, o => ∃ p vs, o = some (.ref p) ∧ G p = none ∧ H p = some (.lst vs) ∧ DwAll K ρ G vs ds
structure Gr (G H G' H' : Hp) : Prop where
  g : Same G G'
  h : Same H H'
  s : Same G' H'
  n : ∀ b, H b ≠ none → G b = none → G' b = none
theorem same_ne {H H' : Hp} (s : Same H H') {b : Addr} (h : H b ≠ none) : H' b ≠ none := fun e => by
  cases q : H b with
  | none => exact h q
  | some o =>
    have := s b o q
    rw [e] at this
    cases this
theorem same_no {G H : Hp} (s : Same G H) {b : Addr} (h : H b = none) : G b = none := by
  cases q : G b with
  | none => rfl
  | some o =>
    have := s b o q
    rw [h] at this
    cases this
theorem Gr.refl {G H : Hp} (s : Same G H) : Gr G H G H := ⟨.refl _, .refl _, s, fun _ _ h => h⟩
theorem Gr.trans {G H G1 H1 G2 H2 : Hp} (a : Gr G H G1 H1) (b : Gr G1 H1 G2 H2) : Gr G H G2 H2 :=
  ⟨a.g.trans b.g, a.h.trans b.h, b.s, fun c h1 h2 => b.n c (same_ne a.h h1) (a.n c h1 h2)⟩
theorem same_upd2 {G H' : Hp} {p : Addr} {o : HO} (s : Same G H') (h : H' p = some o) : Same (upd G p o) H' := fun b u e => by
  by_cases hb : b = p
  · subst hb
    rw [upd_same] at e
    cases e
    exact h
  · rw [upd_ne hb] at e
    exact s _ _ e
theorem Gr.new {G H G' H' : Hp} {p : Addr} {o : HO} (a : Gr G H G' H') (h0 : H p = none) (g0 : G' p = none) (h : H' p = some o) : Gr G H (upd G' p o) H' :=
  ⟨a.g.trans (same_new g0 o), a.h, same_upd2 a.s h, fun b h1 h2 => by
    rw [upd_ne (fun e => h1 (by rw [e]; exact h0))]
    exact a.n b h1 h2⟩
theorem Gr.nw {G H H' : Hp} {p : Addr} {o : HO} (s : Same G H) (n : Nw H H' p o) : Gr G H (upd G p o) H' :=
  Gr.new ⟨.refl _, n.1, s.trans n.1, fun _ _ h => h⟩ n.2.1 (same_no s n.2.1) n.2.2
theorem Gr.nwO {G H H' : Hp} {p : Addr} {o : HO} (s : Same G H) (n : Nw H H' p o) : Gr G H G H' := ⟨.refl _, n.1, s.trans n.1, fun _ _ h => h⟩
structure Rl (K : PySem.W.Frag) (ρ : List Addr) (G H : Hp) (δ : DS) (σ : St) : Prop where
  sub : Same G H
  len : δ.length = σ.length
  sl : ∀ (i : Nat) s, δ[i]? = some s → ∃ o, σ[i]? = some o ∧ SlOk K ρ G H s o
  apart : ∀ (i j : Nat) p ds es, δ[i]? = some (.own ds) → δ[j]? = some (.own es) → σ[i]? = some (some (.ref p)) → σ[j]? = some (some (.ref p)) → i = j
theorem SlOk.grow {K : PySem.W.Frag} {ρ : List Addr} {G H G' H' : Hp} (g : Gr G H G' H') : ∀ {s : Sl} {o : Option V}, SlOk K ρ G H s o → SlOk K ρ G' H' s o
  | .no, _, _ => trivial
  | .val d, o, ⟨v, e, h⟩ => ⟨v, e, h.same g.g⟩
  | .own ds, o, ⟨p, vs, e, h1, h2, h3⟩ => ⟨p, vs, e, g.n p (by rw [h2]; simp) h1, g.h _ _ h2, h3.same g.g⟩
theorem Rl.grow {K : PySem.W.Frag} {ρ : List Addr} {G H G' H' : Hp} {δ : DS} {σ : St} (R : Rl K ρ G H δ σ) (g : Gr G H G' H') : Rl K ρ G' H' δ σ :=
  ⟨g.s, R.len, fun i s e => by
    obtain ⟨o, h1, h2⟩ := R.sl i s e
    exact ⟨o, h1, h2.grow g⟩, R.apart⟩
theorem getSet {α : Type} {xs : List α} {i j : Nat} {a b : α} (h : (xs.set i a)[j]? = some b) : (i = j ∧ a = b ∧ j < xs.length) ∨ (i ≠ j ∧ xs[j]? = some b) := by
  by_cases e : i = j
  · subst e
    rw [List.getElem?_set] at h
    simp only [if_true] at h
    split at h
    · rename_i hl
      cases h
      exact .inl ⟨rfl, rfl, hl⟩
    · cases h
  · rw [List.getElem?_set_ne e] at h
    exact .inr ⟨e, h⟩
theorem setGet {α : Type} {xs : List α} {i : Nat} {a : α} (h : i < xs.length) : (xs.set i a)[i]? = some a := by
  rw [List.getElem?_set]
  simp [h]
def OwnSub (δ' : DS) (σ' : St) (δ : DS) (σ : St) : Prop := ∀ (i : Nat) ds p, δ'[i]? = some (.own ds) → σ'[i]? = some (some (.ref p)) → ∃ es, δ[i]? = some (.own es) ∧ σ[i]? = some (some (.ref p))
theorem OwnSub.refl (δ : DS) (σ : St) : OwnSub δ σ δ σ := fun i ds p h1 h2 => ⟨ds, h1, h2⟩
theorem OwnSub.trans {δ δ1 δ2 : DS} {σ σ1 σ2 : St} (a : OwnSub δ2 σ2 δ1 σ1) (b : OwnSub δ1 σ1 δ σ) : OwnSub δ2 σ2 δ σ := fun i ds p h1 h2 => by
  obtain ⟨es, h3, h4⟩ := a i ds p h1 h2
  exact b i es p h3 h4
theorem ownsub_set {δ : DS} {σ : St} {i : Nat} {d : W} {v : V} (h : δ.length = σ.length) : OwnSub (δ.set i (.val d)) (σ.set i (some v)) δ σ := fun j ds p h1 h2 => by
  rcases getSet h1 with ⟨_, e, _⟩ | ⟨ne, h1⟩
  · cases e
  · rw [List.getElem?_set_ne ne] at h2
    exact ⟨ds, h1, h2⟩
theorem Rl.set {K : PySem.W.Frag} {ρ : List Addr} {G H : Hp} {δ : DS} {σ : St} {i : Nat} {d : W} {v : V} (R : Rl K ρ G H δ σ) (h : Dw K ρ G v d) : Rl K ρ G H (δ.set i (.val d)) (σ.set i (some v)) :=
  ⟨R.sub, by rw [List.length_set, List.length_set]; exact R.len, fun j s e => by
    rcases getSet e with ⟨rfl, rfl, hl⟩ | ⟨ne, e⟩
    · exact ⟨_, setGet (by rw [← R.len]; exact hl), v, rfl, h⟩
    · rw [List.getElem?_set_ne ne]
      exact R.sl j s e, fun j k p ds es h1 h2 h3 h4 => by
    obtain ⟨ds', a1, a2⟩ := ownsub_set (v := v) R.len j ds p h1 h3
    obtain ⟨es', b1, b2⟩ := ownsub_set (v := v) R.len k es p h2 h4
    exact R.apart j k p _ _ a1 b1 a2 b2⟩
theorem Rl.setO {K : PySem.W.Frag} {ρ : List Addr} {G H : Hp} {δ : DS} {σ : St} {i : Nat} {ds : List W} {p : Addr} {vs : List V} (R : Rl K ρ G H δ σ) (g0 : G p = none) (h : H p = some (.lst vs)) (hd : DwAll K ρ G vs ds)
    (hn : ∀ (j : Nat) es, j ≠ i → δ[j]? = some (.own es) → σ[j]? ≠ some (some (.ref p))) : Rl K ρ G H (δ.set i (.own ds)) (σ.set i (some (.ref p))) :=
  ⟨R.sub, by rw [List.length_set, List.length_set]; exact R.len, fun j s e => by
    rcases getSet e with ⟨rfl, rfl, hl⟩ | ⟨ne, e⟩
    · exact ⟨_, setGet (by rw [← R.len]; exact hl), p, vs, rfl, g0, h, hd⟩
    · rw [List.getElem?_set_ne ne]
      exact R.sl j s e, fun j k q ds' es' h1 h2 h3 h4 => by
    rcases getSet h1 with ⟨rfl, _, hl⟩ | ⟨ne, h1⟩ <;> rcases getSet h2 with ⟨rfl, _, hl2⟩ | ⟨ne2, h2⟩
    · rfl
    · rw [setGet (by rw [← R.len]; exact hl)] at h3
      rw [List.getElem?_set_ne ne2] at h4
      cases h3
      exact absurd h4 (hn k es' (Ne.symm ne2) h2)
    · rw [setGet (by rw [← R.len]; exact hl2)] at h4
      rw [List.getElem?_set_ne ne] at h3
      cases h4
      exact absurd h3 (hn j ds' (Ne.symm ne) h1)
    · rw [List.getElem?_set_ne ne] at h3
      rw [List.getElem?_set_ne ne2] at h4
      exact R.apart j k q _ _ h1 h2 h3 h4⟩
def DE (K : PySem.W.Frag) (ρ : List Addr) (t : TE) (f : DS → Option W) : Prop :=
  ∀ (G : Hp) (σ : St) (H : Hp) (δ : DS) (d : W) (Q : VK), Rl K ρ G H δ σ → f δ = some d → (∀ v G' H', Gr G H G' H' → Dw K ρ G' v d → Q v H') → t σ H Q
def DA (K : PySem.W.Frag) (ρ : List Addr) (t : TA) (f : DS → Option (List W)) : Prop :=
  ∀ (G : Hp) (σ : St) (H : Hp) (δ : DS) (ds : List W) (Q : List V → Hp → Prop), Rl K ρ G H δ σ → f δ = some ds → (∀ vs G' H', Gr G H G' H' → DwAll K ρ G' vs ds → Q vs H') → t σ H Q
def DT (K : PySem.W.Frag) (ρ : List Addr) (t : TT) (f : DS → Option Bool) : Prop :=
  ∀ (G : Hp) (σ : St) (H : Hp) (δ : DS) (b : Bool) (Q : Bool → Hp → Prop), Rl K ρ G H δ σ → f δ = some b → (∀ G' H', Gr G H G' H' → Q b H') → t σ H Q
def DO (K : PySem.W.Frag) (ρ : List Addr) (t : TE) (f : DS → Option (List W)) : Prop :=
  ∀ (G : Hp) (σ : St) (H : Hp) (δ : DS) (ds : List W) (Q : VK), Rl K ρ G H δ σ → f δ = some ds → (∀ p vs G' H', Gr G H G' H' → H p = none → G' p = none → H' p = some (.lst vs) → DwAll K ρ G' vs ds → Q (.ref p) H') → t σ H Q
def Pk (K : PySem.W.Frag) (ρ : List Addr) (G H : Hp) (v : V) (d : W) : Prop := Dw K ρ G v d ∨ ∃ p vs ds, v = .ref p ∧ d = .list ds ∧ H p = some (.lst vs) ∧ DwAll K ρ G vs ds
def DK (K : PySem.W.Frag) (ρ : List Addr) (t : TE) (f : DS → Option W) : Prop :=
  ∀ (G : Hp) (σ : St) (H : Hp) (δ : DS) (d : W) (Q : VK), Rl K ρ G H δ σ → f δ = some d → (∀ v G' H', Gr G H G' H' → Pk K ρ G' H' v d → Q v H') → t σ H Q
section
variable {K : PySem.W.Frag} {ρ : List Addr}
theorem Pk.dp {G H : Hp} {v : V} {d : W} (s : Same G H) (h : Pk K ρ G H v d) : Dw K ρ H v d := by
  rcases h with h | ⟨p, vs, ds, rfl, rfl, h1, h2⟩
  · exact h.same s
  · exact .lst (SqL.of h1) (h2.same s)
theorem Pk.grow {G H G' H' : Hp} {v : V} {d : W} (g : Gr G H G' H') (h : Pk K ρ G H v d) : Pk K ρ G' H' v d := by
  rcases h with h | ⟨p, vs, ds, rfl, rfl, h1, h2⟩
  · exact .inl (h.same g.g)
  · exact .inr ⟨p, vs, ds, rfl, rfl, g.h _ _ h1, h2.same g.g⟩
theorem DE.dk {t : TE} {f : DS → Option W} (h : DE K ρ t f) : DK K ρ t f := fun G σ H δ d Q R e q => h G σ H δ d Q R e fun v G' H' g dv => q v G' H' g (.inl dv)
def dOwn (f : DS → Option (List W)) : DS → Option W := fun δ => (f δ).map .list
theorem DO.de {t : TE} {f : DS → Option (List W)} (h : DO K ρ t f) : DE K ρ t (dOwn f) := fun G σ H δ d Q R e q => by
  obtain ⟨ds, e1, rfl⟩ := Option.map_eq_some_iff.mp e
  exact h G σ H δ ds Q R e1 fun p vs G' H' g h0 g0 hh da => q _ _ H' (g.new h0 g0 hh) (.lst (SqL.of upd_same) (da.same (same_new g0 _)))
def dVar (i : Nat) : DS → Option W := fun δ => match δ[i]? with
  | some (.val d) => some d
  | _ => none
theorem de_var {i : Nat} : DE K ρ (tVar i) (dVar i) := fun G σ H δ d Q R e q => by
  unfold dVar at e
  split at e
  · rename_i d' h
    cases e
    obtain ⟨o, h1, v, h2, h3⟩ := R.sl i _ h
    exact ⟨v, by rw [h1, h2], q v G H (.refl R.sub) h3⟩
  · cases e
def dPk (i : Nat) : DS → Option W := fun δ => match δ[i]? with
  | some (.val d) => some d
  | some (.own ds) => some (.list ds)
  | _ => none
theorem dk_var {i : Nat} : DK K ρ (tVar i) (dPk i) := fun G σ H δ d Q R e q => by
  unfold dPk at e
  split at e
  · rename_i d' h
    cases e
    obtain ⟨o, h1, v, h2, h3⟩ := R.sl i _ h
    exact ⟨v, by rw [h1, h2], q v G H (.refl R.sub) (.inl h3)⟩
  · rename_i ds h
    cases e
    obtain ⟨o, h1, p, vs, h2, h3, h4, h5⟩ := R.sl i _ h
    exact ⟨.ref p, by rw [h1, h2], q _ G H (.refl R.sub) (.inr ⟨p, vs, ds, rfl, rfl, h4, h5⟩)⟩
  · cases e
def dC (d : W) : DS → Option W := fun _ => some d
theorem de_c {v : V} {d : W} (h : ∀ G, Dw K ρ G v d) : DE K ρ (tC v) (dC d) := fun G σ H δ d' Q R e q => by
  cases e
  exact q v G H (.refl R.sub) (h G)
theorem de_int {i : Int} : DE K ρ (tC (.int i)) (dC (.int i)) := de_c fun _ => .int i
theorem de_bl {b : Bool} : DE K ρ (tC (.bl b)) (dC (.bool b)) := de_c fun _ => .bl b
theorem de_str {x : Str} : DE K ρ (tC (.str x)) (dC (.str x)) := de_c fun _ => .str x
theorem de_non : DE K ρ (tC .non) (dC .none) := de_c fun _ => .non
def DR (K : PySem.W.Frag) (ρ : List Addr) (r : R2) (g : W → W → Option W) : Prop :=
  ∀ (G H : Hp) (x y : V) (d e c : W) (Q : VK), Same G H → Pk K ρ G H x d → Dw K ρ G y e → g d e = some c → (∀ v G' H', Gr G H G' H' → Dw K ρ G' v c → Q v H') → r x y H Q
def dOp (g : W → W → Option W) (fa fb : DS → Option W) : DS → Option W := fun δ => (fa δ).bind fun x => (fb δ).bind fun y => g x y
theorem de_op {r : R2} {ta tb : TE} {fa fb : DS → Option W} {g : W → W → Option W} (hr : DR K ρ r g) (ha : DK K ρ ta fa) (hb : DE K ρ tb fb) : DE K ρ (tOp r ta tb) (dOp g fa fb) := fun G σ H δ d Q R e q => by
  obtain ⟨x, ex, e⟩ := Option.bind_eq_some_iff.mp e
  obtain ⟨y, ey, e⟩ := Option.bind_eq_some_iff.mp e
  exact ha G σ H δ x _ R ex fun v G1 H1 g1 dv => hb G1 σ H1 δ y _ (R.grow g1) ey fun u G2 H2 g2 du => hr G2 H2 v u x y d Q g2.s (dv.grow g2) du e fun w G3 H3 g3 dw => q w G3 H3 (g1.trans (g2.trans g3)) dw
def DB (K : PySem.W.Frag) (ρ : List Addr) (r : R2) (g : W → W → Option Bool) : Prop :=
  ∀ (H : Hp) (x y : V) (d e : W) (b : Bool) (Q : VK), Dw K ρ H x d → Dw K ρ H y e → g d e = some b → Q (.bl b) H → r x y H Q
def dCmp (g : W → W → Option Bool) (fa fb : DS → Option W) : DS → Option Bool := fun δ => (fa δ).bind fun x => (fb δ).bind fun y => g x y
def dB (f : DS → Option Bool) : DS → Option W := fun δ => (f δ).map .bool
theorem dcmp_core {r : R2} {ta tb : TE} {fa fb : DS → Option W} {g : W → W → Option Bool} (hr : DB K ρ r g) (ha : DK K ρ ta fa) (hb : DK K ρ tb fb) {G : Hp} {σ : St} {H : Hp} {δ : DS} {b : Bool} {Q : VK} (R : Rl K ρ G H δ σ) (e : dCmp g fa fb δ = some b) (q : ∀ G' H', Gr G H G' H' → Q (.bl b) H') : tOp r ta tb σ H Q := by
  obtain ⟨x, ex, e⟩ := Option.bind_eq_some_iff.mp e
  obtain ⟨y, ey, e⟩ := Option.bind_eq_some_iff.mp e
  exact ha G σ H δ x _ R ex fun v G1 H1 g1 dv => hb G1 σ H1 δ y _ (R.grow g1) ey fun u G2 H2 g2 du => hr H2 v u x y b Q ((dv.grow g2).dp g2.s) (du.dp g2.s) e (q G2 H2 (g1.trans g2))
theorem de_cmp {r : R2} {ta tb : TE} {fa fb : DS → Option W} {g : W → W → Option Bool} (hr : DB K ρ r g) (ha : DK K ρ ta fa) (hb : DK K ρ tb fb) : DE K ρ (tOp r ta tb) (dB (dCmp g fa fb)) := fun G σ H δ d Q R e q => by
  obtain ⟨b, e1, rfl⟩ := Option.map_eq_some_iff.mp e
  exact dcmp_core hr ha hb R e1 fun G' H' g => q _ G' H' g (.bl b)
theorem dt_cmp {r : R2} {ta tb : TE} {fa fb : DS → Option W} {g : W → W → Option Bool} (hr : DB K ρ r g) (ha : DK K ρ ta fa) (hb : DK K ρ tb fb) : DT K ρ (tTest (tOp r ta tb)) (dCmp g fa fb) := fun G σ H δ b Q R e q =>
  dcmp_core hr ha hb R e fun G' H' g => ⟨b, rfl, q G' H' g⟩
def asB : W → Option Bool
  | .bool b => some b
  | _ => none
def dTru (f : DS → Option W) : DS → Option Bool := fun δ => (f δ).bind asB
theorem asB_eq {d : W} {b : Bool} (h : asB d = some b) : d = .bool b := by
  cases d <;> first | (cases h; rfl) | cases h
theorem dt_val {t : TE} {f : DS → Option W} (h : DE K ρ t f) : DT K ρ (tB t) (dTru f) := fun G σ H δ b Q R e q => by
  obtain ⟨x, ex, e⟩ := Option.bind_eq_some_iff.mp e
  cases asB_eq e
  exact h G σ H δ _ _ R ex fun v G1 H1 g1 dv => by
    cases dv
    exact ⟨b, rfl, q G1 H1 g1⟩
def dAnd (f g : DS → Option Bool) : DS → Option Bool := fun δ => (f δ).bind fun b => if b = true then g δ else some false
def dOr (f g : DS → Option Bool) : DS → Option Bool := fun δ => (f δ).bind fun b => if b = true then some true else g δ
def dNot (f : DS → Option Bool) : DS → Option Bool := fun δ => (f δ).map (!·)
theorem dt_and {t u : TT} {f g : DS → Option Bool} (h1 : DT K ρ t f) (h2 : DT K ρ u g) : DT K ρ (tAnd t u) (dAnd f g) := fun G σ H δ b Q R e q => by
  obtain ⟨x, ex, e⟩ := Option.bind_eq_some_iff.mp e
  refine h1 G σ H δ x _ R ex fun G1 H1 g1 => ?_
  cases x with
  | true => exact h2 G1 σ H1 δ b Q (R.grow g1) e fun G2 H2 g2 => q G2 H2 (g1.trans g2)
  | false => cases e; exact q G1 H1 g1
theorem dt_or {t u : TT} {f g : DS → Option Bool} (h1 : DT K ρ t f) (h2 : DT K ρ u g) : DT K ρ (tOr t u) (dOr f g) := fun G σ H δ b Q R e q => by
  obtain ⟨x, ex, e⟩ := Option.bind_eq_some_iff.mp e
  refine h1 G σ H δ x _ R ex fun G1 H1 g1 => ?_
  cases x with
  | false => exact h2 G1 σ H1 δ b Q (R.grow g1) e fun G2 H2 g2 => q G2 H2 (g1.trans g2)
  | true => cases e; exact q G1 H1 g1
theorem dt_not {t : TT} {f : DS → Option Bool} (h : DT K ρ t f) : DT K ρ (tNot t) (dNot f) := fun G σ H δ b Q R e q => by
  obtain ⟨x, ex, rfl⟩ := Option.map_eq_some_iff.mp e
  exact h G σ H δ x _ R ex q
def dAndV (f g : DS → Option W) : DS → Option W := fun δ => (f δ).bind fun x => (asB x).bind fun b => if b = true then g δ else some (.bool false)
def dOrV (f g : DS → Option W) : DS → Option W := fun δ => (f δ).bind fun x => (asB x).bind fun b => if b = true then some (.bool true) else g δ
theorem de_and {t u : TE} {f g : DS → Option W} (h1 : DE K ρ t f) (h2 : DE K ρ u g) : DE K ρ (tAndV t u) (dAndV f g) := fun G σ H δ d Q R e q => by
  obtain ⟨x, ex, e⟩ := Option.bind_eq_some_iff.mp e
  obtain ⟨b, eb, e⟩ := Option.bind_eq_some_iff.mp e
  cases asB_eq eb
  refine h1 G σ H δ _ _ R ex fun v G1 H1 g1 dv => ?_
  cases dv
  refine ⟨b, rfl, ?_⟩
  cases b with
  | true => exact h2 G1 σ H1 δ d Q (R.grow g1) e fun v G2 H2 g2 dv => q v G2 H2 (g1.trans g2) dv
  | false => cases e; exact q _ G1 H1 g1 (.bl false)
def dNotV (f : DS → Option W) : DS → Option W := fun δ => (f δ).bind fun x => (asB x).map fun b => .bool (!b)
theorem de_not {t : TE} {f : DS → Option W} (h : DE K ρ t f) : DE K ρ (tNotV t) (dNotV f) := fun G σ H δ d Q R e q => by
  obtain ⟨x, ex, e⟩ := Option.bind_eq_some_iff.mp e
  obtain ⟨b, eb, rfl⟩ := Option.map_eq_some_iff.mp e
  cases asB_eq eb
  refine h G σ H δ _ _ R ex fun v G1 H1 g1 dv => ?_
  cases dv
  exact ⟨b, rfl, q _ G1 H1 g1 (.bl _)⟩
def dIf (c : DS → Option Bool) (f g : DS → Option W) : DS → Option W := fun δ => (c δ).bind fun b => if b = true then f δ else g δ
def dNil : DS → Option (List W) := fun _ => some []
def dCons (f : DS → Option W) (g : DS → Option (List W)) : DS → Option (List W) := fun δ => (f δ).bind fun d => (g δ).map (d :: ·)
theorem da_nil : DA K ρ tNil dNil := fun G σ H δ ds Q R e q => by
  cases e
  exact q [] G H (.refl R.sub) .nil
theorem da_cons {t : TE} {u : TA} {f : DS → Option W} {g : DS → Option (List W)} (h1 : DE K ρ t f) (h2 : DA K ρ u g) : DA K ρ (tCons t u) (dCons f g) := fun G σ H δ ds Q R e q => by
  obtain ⟨d, ed, e⟩ := Option.bind_eq_some_iff.mp e
  obtain ⟨es, ee, rfl⟩ := Option.map_eq_some_iff.mp e
  exact h1 G σ H δ d _ R ed fun v G1 H1 g1 dv => h2 G1 σ H1 δ es _ (R.grow g1) ee fun vs G2 H2 g2 da => q _ G2 H2 (g1.trans g2) (.cons (dv.same g2.g) da)
theorem DwAll.length {G : Hp} : ∀ {vs : List V} {ds : List W}, DwAll K ρ G vs ds → vs.length = ds.length
  | _, _, .nil => rfl
  | _, _, .cons _ t => by rw [List.length_cons, List.length_cons, DwAll.length t]
theorem DwAll.get {G : Hp} : ∀ {vs : List V} {ds : List W} {i : Nat} {d : W}, DwAll K ρ G vs ds → ds[i]? = some d → ∃ v, vs[i]? = some v ∧ Dw K ρ G v d
  | _, _, 0, _, .cons h t, e => by simp at e; subst e; exact ⟨_, rfl, h⟩
  | _, _, i + 1, _, .cons h t, e => by
    obtain ⟨v, h1, h2⟩ := DwAll.get (i := i) t (by simpa using e)
    exact ⟨v, by simpa using h1, h2⟩
theorem DwAll.app {G : Hp} : ∀ {vs ws : List V} {ds es : List W}, DwAll K ρ G vs ds → DwAll K ρ G ws es → DwAll K ρ G (vs ++ ws) (ds ++ es)
  | _, _, _, _, .nil, h => h
  | _, _, _, _, .cons a b, h => .cons a (DwAll.app b h)
theorem DwAll.drop {G : Hp} : ∀ {vs : List V} {ds : List W} (n : Nat), DwAll K ρ G vs ds → DwAll K ρ G (vs.drop n) (ds.drop n)
  | _, _, 0, h => h
  | _, _, _ + 1, .nil => .nil
  | _, _, n + 1, .cons _ t => DwAll.drop n t
theorem DwAll.take {G : Hp} : ∀ {vs : List V} {ds : List W} (n : Nat), DwAll K ρ G vs ds → DwAll K ρ G (vs.take n) (ds.take n)
  | _, _, 0, _ => .nil
  | _, _, _ + 1, .nil => .nil
  | _, _, n + 1, .cons h t => .cons h (DwAll.take n t)
theorem DwAll.set {G : Hp} {v : V} {d : W} (h : Dw K ρ G v d) : ∀ {vs : List V} {ds : List W} (n : Nat), DwAll K ρ G vs ds → DwAll K ρ G (vs.set n v) (ds.set n d)
  | _, _, _, .nil => .nil
  | _, _, 0, .cons _ t => .cons h t
  | _, _, n + 1, .cons a t => .cons a (DwAll.set h n t)
theorem DwAll.ints {G : Hp} : ∀ (ns : List Int), DwAll K ρ G (ns.map V.int) (ns.map .int)
  | [] => .nil
  | n :: r => .cons (.int n) (DwAll.ints r)
def dTup (f : DS → Option (List W)) : DS → Option W := fun δ => (f δ).bind fun ds => if ds.length ≤ sizeLine then some (.tuple ds) else none
theorem de_tup {t : TA} {f : DS → Option (List W)} (h : DA K ρ t f) : DE K ρ (tTupN t) (dTup f) := fun G σ H δ d Q R e q => by
  obtain ⟨ds, e1, e⟩ := Option.bind_eq_some_iff.mp e
  split at e
  · rename_i hz
    cases e
    refine h G σ H δ ds _ R e1 fun vs G1 H1 g1 da => ⟨by rw [da.length]; exact hz, fun p H' n => ?_⟩
    have g2 := Gr.nw g1.s n
    exact q _ _ H' (g1.trans g2) (.tup (SqT.of upd_same) (da.same g2.g))
  · cases e
def dLst (f : DS → Option (List W)) : DS → Option (List W) := fun δ => (f δ).bind fun ds => if ds.length ≤ sizeLine then some ds else none
theorem do_lst {t : TA} {f : DS → Option (List W)} (h : DA K ρ t f) : DO K ρ (tLstN t) (dLst f) := fun G σ H δ ds Q R e q => by
  obtain ⟨ds', e1, e⟩ := Option.bind_eq_some_iff.mp e
  split at e
  · rename_i hz
    cases e
    refine h G σ H δ _ _ R e1 fun vs G1 H1 g1 da => ⟨by rw [da.length]; exact hz, fun p H' n => ?_⟩
    exact q p vs G1 H' (g1.trans (.nwO g1.s n)) (by
      cases hp : H p with
      | none => rfl
      | some o => exact absurd (g1.h _ _ hp) (by rw [n.2.1]; simp)) (same_no g1.s n.2.1) n.2.2 da
  · cases e
end
end L2
set_option Elab.async false
set_option linter.all false
set_option maxRecDepth 100000
namespace L2
open PySem PySem.Spec PyProof.Rows
section
variable {X : Cx} {tg : Expr}
def iSeq (K : PySem.W.Frag) (tl : TE) : TI := fun σ H R => tl σ H fun x H1 => ∃ a, x = .ref a ∧ (((∃ xs, SqL K H1 a xs) ∧ R (Itl K a) H1) ∨ ((∃ xs, SqT K H1 a xs) ∧ R (Itt K a) H1))
theorem pi_seq {l : Expr} {tl : TE} (hl : PE X l tl) : PI X tg l (iSeq X.K tl) := by
  intro pins s σ H R I h
  refine thn (hl pins s σ H _ I h) fun v s1 ⟨x, H1, I1, r1, q1⟩ => ?_
  obtain ⟨a, e, ⟨⟨xs, hq⟩, q⟩ | ⟨⟨xs, hq⟩, q⟩⟩ := q1
  all_goals
    subst e
    cases r1
  · obtain ⟨its, rv, p, hz⟩ := I1.list hq
    refine wpAny_pyIter_list p.isList ?_
    refine ⟨s1.heap.objs.size, [s1.heap.objs.size], _, _, H1, rfl, I1.kept (t' := s1.toks) fun b o e => Heap.get?_push_of_some _ e, turn_list a _, ⟨_, Heap.get?_push_size _ rfl, rfl, rfl⟩, fun b hb => ?_, q⟩
    have e : b = s1.heap.objs.size := by simpa using hb
    subst e
    exact I1.fpOk (Nat.le_refl _) (I1.hok.fresh (Nat.le_refl _))
  · obtain ⟨its, rv, p, hz⟩ := I1.tuple hq
    refine wpAny_pyIter_tuple (show s1.heap.IsTuple a its.toArray from p) ?_
    refine ⟨s1.heap.objs.size, [s1.heap.objs.size], _, _, H1, rfl, I1.kept (t' := s1.toks) fun b o e => Heap.get?_push_of_some _ e, turn_tuple a _, ⟨_, Heap.get?_push_size _ rfl, rfl, rfl⟩, fun b hb => ?_, q⟩
    have e : b = s1.heap.objs.size := by simpa using hb
    subst e
    exact I1.fpOk (Nat.le_refl _) (I1.hok.fresh (Nat.le_refl _))
theorem pi_seqK {K : PySem.W.Frag} (h : X.K = K) {l : Expr} {tl : TE} (hl : PE X l tl) : PI X tg l (iSeq K tl) := h ▸ pi_seq hl
end
section
variable {K : PySem.W.Frag} {ρ : List Addr}
def ItA (K : PySem.W.Frag) (ρ : List Addr) (J : It) (ds : List W) (i : Nat) (G1 H1 : Hp) : Prop :=
  (∀ d, ds[i]? = some d → J.go i H1 ∧ ∀ x H', J.yld i H1 x H' → ∃ G', Gr G1 H1 G' H' ∧ Dw K ρ G' x d) ∧ (ds.length ≤ i → J.stop i H1)
def ItD (K : PySem.W.Frag) (ρ : List Addr) (J : It) (G H : Hp) (ds : List W) : Prop := ∀ i G1 H1, Gr G H G1 H1 → ItA K ρ J ds i G1 H1
def ItF (K : PySem.W.Frag) (ρ : List Addr) (J : It) (G : Hp) (ds : List W) : Prop := ∀ i G1 H1, Same G G1 → Same G1 H1 → ItA K ρ J ds i G1 H1
theorem ItF.d {J : It} {G H : Hp} {ds : List W} (h : ItF K ρ J G ds) : ItD K ρ J G H ds := fun i G1 H1 g => h i G1 H1 g.g g.s
def DI (K : PySem.W.Frag) (ρ : List Addr) (wi : TI) (f : DS → Option (List W)) : Prop :=
  ∀ (G : Hp) (σ : St) (H : Hp) (δ : DS) (ds : List W) (R' : It → Hp → Prop), Rl K ρ G H δ σ → f δ = some ds → (∀ J G' H', Gr G H G' H' → ItF K ρ J G' ds → R' J H') → wi σ H R'
def DIk (K : PySem.W.Frag) (ρ : List Addr) (wi : TI) (f : DS → Option (List W)) : Prop :=
  ∀ (G : Hp) (σ : St) (H : Hp) (δ : DS) (ds : List W) (R' : It → Hp → Prop), Rl K ρ G H δ σ → f δ = some ds → (∀ J G' H', Gr G H G' H' → ItD K ρ J G' H' ds → R' J H') → wi σ H R'
theorem DI.k {wi : TI} {f : DS → Option (List W)} (h : DI K ρ wi f) : DIk K ρ wi f := fun G σ H δ ds R' R e q => h G σ H δ ds R' R e fun J G' H' g i => q J G' H' g i.d
def seqD : W → Option (List W)
  | .list ds => some ds
  | .tuple ds => some ds
  | _ => none
def dSeqOf (f : DS → Option W) : DS → Option (List W) := fun δ => (f δ).bind seqD
theorem itl_at {G1 H1 : Hp} {a : Addr} {xs : List V} {ds : List W} {i : Nat} (s : Same G1 H1) (q : SqL K H1 a xs) (da : DwAll K ρ G1 xs ds) : ItA K ρ (Itl K a) ds i G1 H1 := by
  refine ⟨fun d hd => ?_, fun h => ⟨xs, q, by rw [da.length]; exact h⟩⟩
  obtain ⟨v, h1, h2⟩ := da.get hd
  refine ⟨⟨xs, v, q, h1⟩, fun x H' y => ?_⟩
  obtain ⟨rfl, y⟩ := y
  have := y xs q
  rw [h1] at this
  cases this
  exact ⟨G1, .refl s, h2⟩
theorem itt_at {G1 H1 : Hp} {a : Addr} {xs : List V} {ds : List W} {i : Nat} (s : Same G1 H1) (q : SqT K H1 a xs) (da : DwAll K ρ G1 xs ds) : ItA K ρ (Itt K a) ds i G1 H1 := by
  refine ⟨fun d hd => ?_, fun h => ⟨xs, q, by rw [da.length]; exact h⟩⟩
  obtain ⟨v, h1, h2⟩ := da.get hd
  refine ⟨⟨xs, v, q, h1⟩, fun x H' y => ?_⟩
  obtain ⟨rfl, y⟩ := y
  have := y xs q
  rw [h1] at this
  cases this
  exact ⟨G1, .refl s, h2⟩
def rngD (lo : Int) (n : Nat) : List W := (List.range n).map fun i => .int (lo + (i : Nat))
theorem itr_ok {G : Hp} {lo : Int} {n : Nat} : ItF K ρ (Itr lo n) G (rngD lo n) := fun i G1 H1 _ s => by
  refine ⟨fun d hd => ?_, fun h => show n ≤ i by simpa [rngD] using h⟩
  have hi : i < n := by
    have := (List.getElem?_eq_some_iff.mp hd).1
    simpa [rngD] using this
  refine ⟨hi, fun x H' y => ?_⟩
  obtain ⟨rfl, rfl⟩ := y
  have : d = .int (lo + i) := by
    unfold rngD at hd
    rw [List.getElem?_map, List.getElem?_range hi] at hd
    cases hd
    rfl
  subst this
  exact ⟨G1, .refl s, .int _⟩
def rngOk (j : Int) : Bool := decide (-(2 ^ 62) ≤ j) && decide (j < 2 ^ 62)
theorem rngOk_iff {j : Int} (h : rngOk j = true) : -(2 ^ 62) ≤ j ∧ j < 2 ^ 62 := by
  simp only [rngOk, Bool.and_eq_true, decide_eq_true_eq] at h
  exact h
theorem rngOk_of {j : Int} (h1 : -(2 ^ 62) ≤ j) (h2 : j < 2 ^ 62) : rngOk j = true := by
  simp only [rngOk, Bool.and_eq_true, decide_eq_true_eq]
  exact ⟨h1, h2⟩
theorem rngOk_nat {n : Nat} (h : n ≤ 16777216) : rngOk (n : Int) = true := rngOk_of (by omega) (by omega)
def rng1 (j : Int) : Option (List W) := if rngOk j = true then some (rngD 0 j.toNat) else none
def rng1L : List W → Option (List W)
  | [.int j] => rng1 j
  | _ => none
def dRng1 (f : DS → Option (List W)) : DS → Option (List W) := fun δ => (f δ).bind rng1L
theorem rng1_ok {j : Int} {ds : List W} (h : rng1 j = some ds) : (-(2 ^ 62) ≤ j ∧ j < 2 ^ 62) ∧ ds = rngD 0 j.toNat := by
  unfold rng1 at h
  split at h
  · rename_i hc
    cases h
    exact ⟨rngOk_iff hc, rfl⟩
  · cases h
theorem dp_int {G : Hp} {v : V} {i : Int} (h : Dw K ρ G v (.int i)) : v = .int i := by cases h; rfl
theorem dp_str {G : Hp} {v : V} {i : Str} (h : Dw K ρ G v (.str i)) : v = .str i := by cases h; rfl
theorem dp_bl {G : Hp} {v : V} {i : Bool} (h : Dw K ρ G v (.bool i)) : v = .bl i := by cases h; rfl
theorem dp_non {G : Hp} {v : V} (h : Dw K ρ G v .none) : v = .non := by cases h; rfl
theorem dp_one {G : Hp} {vs : List V} {d : W} (h : DwAll K ρ G vs [d]) : ∃ v, vs = [v] ∧ Dw K ρ G v d := by
  cases h with
  | cons a b => cases b; exact ⟨_, rfl, a⟩
theorem di_rng1 {t : TA} {f : DS → Option (List W)} (h : DA K ρ t f) : DI K ρ (iRng1 t) (dRng1 f) := fun G σ H δ ds R' R e q => by
  obtain ⟨es, ed, e⟩ := Option.bind_eq_some_iff.mp e
  refine h G σ H δ es _ R ed fun vs G1 H1 g1 da => ?_
  unfold rng1L at e
  split at e
  · obtain ⟨hc, rfl⟩ := rng1_ok e
    obtain ⟨v, rfl, dv⟩ := dp_one da
    cases dp_int dv
    exact ⟨_, rfl, hc.1, hc.2, q _ G1 H1 g1 itr_ok⟩
  · cases e
def enumD (ds : List W) : List W := (List.range ds.length).map fun (i : Nat) => .tuple [.int (i : Int), ds[i]?.getD .none]
theorem enumD_get {ds : List W} {i : Nat} {d : W} (h : (enumD ds)[i]? = some d) : ∃ x, ds[i]? = some x ∧ d = .tuple [.int i, x] := by
  have hi : i < ds.length := by
    have := (List.getElem?_eq_some_iff.mp h).1
    simpa [enumD] using this
  unfold enumD at h
  rw [List.getElem?_map, List.getElem?_range hi] at h
  cases h
  exact ⟨ds[i], List.getElem?_eq_getElem hi, by simp [List.getElem?_eq_getElem hi]⟩
theorem ite_at {G1 H1 : Hp} {a : Addr} {xs : List V} {ds : List W} {i : Nat} (s : Same G1 H1) (q : SqL K H1 a xs) (da : DwAll K ρ G1 xs ds) : ItA K ρ (Ite K a) (enumD ds) i G1 H1 := by
  refine ⟨fun d hd => ?_, fun h => ⟨xs, q, by rw [da.length]; simpa [enumD] using h⟩⟩
  obtain ⟨x, hx, rfl⟩ := enumD_get hd
  obtain ⟨v, h1, h2⟩ := da.get hx
  refine ⟨⟨xs, v, q, h1⟩, fun y H' w => ?_⟩
  obtain ⟨p, u, hp, rfl, rfl, w⟩ := w
  have := w xs q
  rw [h1] at this
  cases this
  have n : Nw H1 (upd H1 p (.tup [.int i, v])) p (.tup [.int i, v]) := .of hp
  have g := Gr.nw s n
  exact ⟨_, g, .tup (SqT.of upd_same) (.cons (.int i) (.cons (h2.same g.g) .nil))⟩
def dEnum (f : DS → Option (List W)) : DS → Option (List W) := fun δ => (f δ).bind fun ds => match ds with
  | [.list es] => some (enumD es)
  | _ => none
theorem di_enum {t : TA} {f : DS → Option (List W)} (h : DA K ρ t f) : DI K ρ (iEnum K t) (dEnum f) := fun G σ H δ ds R' R e q => by
  obtain ⟨es, ed, e⟩ := Option.bind_eq_some_iff.mp e
  refine h G σ H δ es _ R ed fun vs G1 H1 g1 da => ?_
  split at e
  · cases e
    obtain ⟨v, rfl, dv⟩ := dp_one da
    cases dv with
    | lst sq da => exact ⟨_, rfl, ⟨_, g1.s.seq sq⟩, q _ G1 H1 g1 fun i G2 H2 a b => ite_at b ((a.trans b).seq sq) (da.same a)⟩
  · cases e
def zipD (ds es : List W) : List W := List.zipWith (fun x y => .tuple [x, y]) ds es
def dZip (f : DS → Option (List W)) : DS → Option (List W) := fun δ => (f δ).bind fun ds => match ds with
  | [.list a, .list b] => some (zipD a b)
  | _ => none
def DG (K : PySem.W.Frag) (ρ : List Addr) (g : TG) (h : W → DS → Option DS) : Prop :=
  ∀ (G H : Hp) (δ : DS) (σ : St) (v : V) (d : W) (δ' : DS) (Q : St → Hp → Prop), Rl K ρ G H δ σ → Dw K ρ G v d → h d δ = some δ' → (∀ σ', Rl K ρ G H δ' σ' → OwnSub δ' σ' δ σ → Q σ' H) → g v σ H Q
def DGs (K : PySem.W.Frag) (ρ : List Addr) (g : TGs) (h : List W → DS → Option DS) : Prop :=
  ∀ (G H : Hp) (δ : DS) (σ : St) (vs : List V) (ds : List W) (δ' : DS) (Q : St → Hp → Prop), Rl K ρ G H δ σ → DwAll K ρ G vs ds → h ds δ = some δ' → (∀ σ', Rl K ρ G H δ' σ' → OwnSub δ' σ' δ σ → Q σ' H) → g vs σ H Q
def dgName (i : Nat) : W → DS → Option DS := fun d δ => some (δ.set i (.val d))
theorem dg_name {i : Nat} : DG K ρ (gName i) (dgName i) := fun G H δ σ v d δ' Q R dv e q => by
  cases e
  exact q _ (R.set dv) (ownsub_set R.len)
def dgNil : List W → DS → Option DS := fun ds δ => match ds with
  | [] => some δ
  | _ => none
def dgCons (h : W → DS → Option DS) (k : List W → DS → Option DS) : List W → DS → Option DS := fun ds δ => match ds with
  | d :: r => (h d δ).bind (k r)
  | _ => none
theorem dgs_nil : DGs K ρ gNil dgNil := fun G H δ σ vs ds δ' Q R dv e q => by
  cases dv with
  | nil => cases e; exact ⟨rfl, q _ R (.refl _ _)⟩
  | cons _ _ => cases e
theorem dgs_cons {g : TG} {u : TGs} {h : W → DS → Option DS} {k : List W → DS → Option DS} (h1 : DG K ρ g h) (h2 : DGs K ρ u k) : DGs K ρ (gCons g u) (dgCons h k) := fun G H δ σ vs ds δ' Q R dv e q => by
  cases dv with
  | nil => cases e
  | cons a b =>
    obtain ⟨δ1, e1, e⟩ := Option.bind_eq_some_iff.mp e
    exact ⟨_, _, rfl, h1 G H δ σ _ _ δ1 _ R a e1 fun σ1 R1 o1 => h2 G H δ1 σ1 _ _ δ' Q R1 b e fun σ2 R2 o2 => q σ2 R2 (o2.trans o1)⟩
def dgTup (n : Nat) (k : List W → DS → Option DS) : W → DS → Option DS := fun d δ => match d with
  | .tuple ds => if ds.length = n then k ds δ else none
  | _ => none
theorem dg_tup {n : Nat} {u : TGs} {k : List W → DS → Option DS} (h : DGs K ρ u k) : DG K ρ (gTup K n u) (dgTup n k) := fun G H δ σ v d δ' Q R dv e q => by
  cases dv with
  | tup sq da =>
    simp only [dgTup] at e
    split at e
    · rename_i hn
      exact ⟨_, _, rfl, R.sub.tup sq, by rw [da.length]; exact hn, h G H δ σ _ _ δ' Q R da e q⟩
    · cases e
  | _ => cases e
def slAt (δ : DS) : Option Nat → Sl
  | none => .no
  | some i => δ[i]?.getD .no
def vAt (σ : St) : Option Nat → Option V
  | none => none
  | some i => match σ[i]? with
    | some v => v
    | none => none
def liftD (ix : List (Option Nat)) (δ : DS) : DS := ix.map (slAt δ)
theorem lift_get {ix : List (Option Nat)} {σ : St} {j : Nat} {o : Option Nat} (h : ix[j]? = some o) : (lift ix σ)[j]? = some (vAt σ o) := by
  unfold lift
  rw [List.getElem?_map, h]
  cases o <;> rfl
theorem liftD_get {ix : List (Option Nat)} {δ : DS} {j : Nat} {s : Sl} (h : (liftD ix δ)[j]? = some s) : ∃ o, ix[j]? = some o ∧ s = slAt δ o := by
  unfold liftD at h
  rw [List.getElem?_map] at h
  obtain ⟨o, h1, h2⟩ := Option.map_eq_some_iff.mp h
  exact ⟨o, h1, h2.symm⟩
def ixOk (ix : List (Option Nat)) : Bool := decide ((ix.filterMap id).Nodup)
theorem ix_inj {ix : List (Option Nat)} (h : (ix.filterMap id).Nodup) : ∀ {i j k : Nat}, ix[i]? = some (some k) → ix[j]? = some (some k) → i = j := by
  induction ix with
  | nil => intro i j k h1; simp at h1
  | cons o r ih =>
    intro i j k h1 h2
    have hr : (r.filterMap id).Nodup := by
      cases o with
      | none => simpa using h
      | some a =>
        have h' : (a :: r.filterMap id).Nodup := h
        exact (List.nodup_cons.mp h').2
    have hm : ∀ m, r[m]? = some (some k) → k ∈ r.filterMap id := fun m hm => List.mem_filterMap.mpr ⟨some k, List.mem_of_getElem? hm, rfl⟩
    cases i with
    | zero =>
      cases j with
      | zero => rfl
      | succ j =>
        simp at h1 h2
        subst h1
        have h' : (k :: r.filterMap id).Nodup := h
        exact absurd (hm j h2) (List.nodup_cons.mp h').1
    | succ i =>
      cases j with
      | zero =>
        simp at h1 h2
        subst h2
        have h' : (k :: r.filterMap id).Nodup := h
        exact absurd (hm i h1) (List.nodup_cons.mp h').1
      | succ j =>
        simp at h1 h2
        rw [ih hr h1 h2]
theorem Rl.lift {G H : Hp} {δ : DS} {σ : St} {ix : List (Option Nat)} (hx : ixOk ix = true) (R : Rl K ρ G H δ σ) : Rl K ρ G H (liftD ix δ) (lift ix σ) := by
  have hx' : (ix.filterMap id).Nodup := by simpa [ixOk] using hx
  have own : ∀ {j : Nat} {ds : List W}, (liftD ix δ)[j]? = some (.own ds) → ∃ i, ix[j]? = some (some i) ∧ δ[i]? = some (.own ds) := fun {j ds} h => by
    obtain ⟨o, h1, h2⟩ := liftD_get h
    cases o with
    | none => cases h2
    | some i =>
      refine ⟨i, h1, ?_⟩
      cases e : δ[i]? with
      | none => simp [slAt, e] at h2
      | some s => simp [slAt, e] at h2; rw [h2]
  have at' : ∀ {j i : Nat} {v : V}, ix[j]? = some (some i) → (L2.lift ix σ)[j]? = some (some v) → σ[i]? = some (some v) := fun {j i v} h1 h2 => by
    rw [lift_get h1] at h2
    simp only [vAt] at h2
    split at h2
    · rename_i w e
      rw [e]
      simpa using h2
    · cases h2
  refine ⟨R.sub, by simp [liftD, L2.lift], fun j s h => ?_, fun j k p ds es h1 h2 h3 h4 => ?_⟩
  · obtain ⟨o, h1, rfl⟩ := liftD_get h
    refine ⟨_, lift_get h1, ?_⟩
    cases o with
    | none => trivial
    | some i =>
      cases e : δ[i]? with
      | none => simp only [slAt, e, Option.getD_none]; trivial
      | some s =>
        obtain ⟨o, k1, k2⟩ := R.sl i s e
        simp only [slAt, vAt, e, k1, Option.getD_some]
        exact k2
  · obtain ⟨i1, a1, a2⟩ := own h1
    obtain ⟨i2, b1, b2⟩ := own h2
    have := R.apart i1 i2 p ds es a2 b2 (at' a1 h3) (at' b1 h4)
    subst this
    exact ix_inj hx' a1 b1
def dYes : DS → Option Bool := fun _ => some true
theorem dt_yes : DT K ρ tYes dYes := fun G σ H δ b Q R e q => by
  cases e
  exact q G H (.refl R.sub)
def dCompGo (h : W → DS → Option DS) (c : DS → Option Bool) (fe : DS → Option W) (δ : DS) : List W → Option (List W)
  | [] => some []
  | d :: ds => (h d δ).bind fun δ2 => (c δ2).bind fun b => if b = true then (fe δ2).bind fun e => (dCompGo h c fe δ ds).map (e :: ·) else dCompGo h c fe δ ds
def dComp (ix : List (Option Nat)) (fi : DS → Option (List W)) (h : W → DS → Option DS) (c : DS → Option Bool) (fe : DS → Option W) : DS → Option (List W) := fun δ =>
  (fi δ).bind fun ds => if ds.length ≤ sizeLine then dCompGo h c fe (liftD ix δ) ds else none
inductive Out where
  | nx (δ : DS)
  | bk (δ : DS)
  | ct (δ : DS)
  | rt (d : W)
structure Iv (K : PySem.W.Frag) (ρ : List Addr) (G0 H0 G H : Hp) (δ : DS) (σ : St) : Prop where
  rl : Rl K ρ G H δ σ
  gr : Gr G0 H0 G H
  ow : ∀ (i : Nat) p ds, δ[i]? = some (.own ds) → σ[i]? = some (some (.ref p)) → H0 p = none
def Pst (K : PySem.W.Frag) (ρ : List Addr) (G0 H0 : Hp) (D : Ends) : Out → Prop
  | .nx δ => ∀ σ G H, Iv K ρ G0 H0 G H δ σ → D.nx σ H
  | .bk δ => ∀ σ G H, Iv K ρ G0 H0 G H δ σ → D.bk σ H
  | .ct δ => ∀ σ G H, Iv K ρ G0 H0 G H δ σ → D.ct σ H
  | .rt d => ∀ v G H, Gr G0 H0 G H → Dw K ρ G v d → D.rt v H
def DSt (K : PySem.W.Frag) (ρ : List Addr) (t : TS) (f : DS → Option Out) : Prop :=
  ∀ (G0 H0 G : Hp) (σ : St) (H : Hp) (δ : DS) (o : Out) (D : Ends), Iv K ρ G0 H0 G H δ σ → f δ = some o → Pst K ρ G0 H0 D o → t D σ H
theorem Iv.grow {G0 H0 G H G' H' : Hp} {δ : DS} {σ : St} (I : Iv K ρ G0 H0 G H δ σ) (g : Gr G H G' H') : Iv K ρ G0 H0 G' H' δ σ := ⟨I.rl.grow g, I.gr.trans g, I.ow⟩
theorem Iv.sub {G0 H0 G H : Hp} {δ δ' : DS} {σ σ' : St} (I : Iv K ρ G0 H0 G H δ σ) (R : Rl K ρ G H δ' σ') (o : OwnSub δ' σ' δ σ) : Iv K ρ G0 H0 G H δ' σ' := ⟨R, I.gr, fun i p ds h1 h2 => by
  obtain ⟨es, h3, h4⟩ := o i ds p h1 h2
  exact I.ow i p es h3 h4⟩
theorem Iv.base {G0 H0 G H : Hp} {δ : DS} {σ : St} (I : Iv K ρ G0 H0 G H δ σ) : Iv K ρ G H0 G H δ σ := ⟨I.rl, ⟨.refl _, I.gr.h, I.gr.s, fun _ _ h => h⟩, I.ow⟩
theorem Gr.rebase {G0 H0 G H G' H' : Hp} (a : Gr G0 H0 G H) (b : Gr G H0 G' H') : Gr G0 H0 G' H' := ⟨a.g.trans b.g, b.h, b.s, fun c h1 h2 => b.n c h1 (a.n c h1 h2)⟩
theorem Iv.rebase {G0 H0 G H G' H' : Hp} {δ : DS} {σ : St} (a : Gr G0 H0 G H) (I : Iv K ρ G H0 G' H' δ σ) : Iv K ρ G0 H0 G' H' δ σ := ⟨I.rl, a.rebase I.gr, I.ow⟩
def dsNext : DS → Option Out := fun δ => some (.nx δ)
theorem ds_next : DSt K ρ tNext dsNext := fun G0 H0 G σ H δ o D I e p => by
  cases e
  exact p σ G H I
def dsSeq (f g : DS → Option Out) : DS → Option Out := fun δ => match f δ with
  | some (.nx δ') => g δ'
  | o => o
theorem ds_seq {t u : TS} {f g : DS → Option Out} (h1 : DSt K ρ t f) (h2 : DSt K ρ u g) : DSt K ρ (tSeq t u) (dsSeq f g) := fun G0 H0 G σ H δ o D I e p => by
  unfold dsSeq at e
  cases ef : f δ with
  | none => rw [ef] at e; cases e
  | some o1 =>
    rw [ef] at e
    refine h1 G0 H0 G σ H δ o1 _ I ef ?_
    cases o1 with
    | nx δ' => exact fun σ' G' H' I' => h2 G0 H0 G' σ' H' δ' o D I' e p
    | bk δ' => cases e; exact p
    | ct δ' => cases e; exact p
    | rt d => cases e; exact p
def dsIf (c : DS → Option Bool) (f g : DS → Option Out) : DS → Option Out := fun δ => (c δ).bind fun b => if b = true then f δ else g δ
theorem ds_if {tc : TT} {t u : TS} {c : DS → Option Bool} {f g : DS → Option Out} (hc : DT K ρ tc c) (h1 : DSt K ρ t f) (h2 : DSt K ρ u g) : DSt K ρ (tIfS tc t u) (dsIf c f g) := fun G0 H0 G σ H δ o D I e p => by
  obtain ⟨b, eb, e⟩ := Option.bind_eq_some_iff.mp e
  refine hc G σ H δ b _ I.rl eb fun G1 H1 g1 => ?_
  cases b with
  | true => exact h1 G0 H0 G1 σ H1 δ o D (I.grow g1) e p
  | false => exact h2 G0 H0 G1 σ H1 δ o D (I.grow g1) e p
def dsRet (f : DS → Option W) : DS → Option Out := fun δ => (f δ).map .rt
theorem ds_ret {t : TE} {f : DS → Option W} (h : DE K ρ t f) : DSt K ρ (tRet t) (dsRet f) := fun G0 H0 G σ H δ o D I e p => by
  obtain ⟨d, ed, rfl⟩ := Option.map_eq_some_iff.mp e
  exact h G σ H δ d _ I.rl ed fun v G1 H1 g1 dv => p v G1 H1 (I.gr.trans g1) dv
def dsRetN : DS → Option Out := fun _ => some (.rt .none)
def dsAsg (f : DS → Option W) (h : W → DS → Option DS) : DS → Option Out := fun δ => (f δ).bind fun d => (h d δ).map .nx
theorem ds_asg {t : TE} {g : TG} {f : DS → Option W} {h : W → DS → Option DS} (h1 : DE K ρ t f) (h2 : DG K ρ g h) : DSt K ρ (tAsg t g) (dsAsg f h) := fun G0 H0 G σ H δ o D I e p => by
  obtain ⟨d, ed, e⟩ := Option.bind_eq_some_iff.mp e
  obtain ⟨δ', e2, rfl⟩ := Option.map_eq_some_iff.mp e
  exact h1 G σ H δ d _ I.rl ed fun v G1 H1 g1 dv => h2 G1 H1 δ σ v d δ' _ (I.rl.grow g1) dv e2 fun σ' R o => p σ' G1 H1 ((I.grow g1).sub R o)
def dsOwn (i : Nat) (f : DS → Option (List W)) : DS → Option Out := fun δ => (f δ).map fun ds => .nx (δ.set i (.own ds))
theorem ds_own {i : Nat} {t : TE} {f : DS → Option (List W)} (h : DO K ρ t f) : DSt K ρ (tAsg t (gName i)) (dsOwn i f) := fun G0 H0 G σ H δ o D I e p => by
  obtain ⟨ds, ed, rfl⟩ := Option.map_eq_some_iff.mp e
  refine h G σ H δ ds _ I.rl ed fun q vs G1 H1 g1 h0 g0 hh da => ?_
  have I1 := I.grow g1
  refine p _ G1 H1 ⟨I1.rl.setO g0 hh da fun j es hj h1 h2 => ?_, I1.gr, fun j q' ds' h1 h2 => ?_⟩
  · obtain ⟨o, k1, q1, vs1, k2, k3, k4, _⟩ := I.rl.sl j _ h1
    rw [h2] at k1
    cases k1
    cases k2
    rw [h0] at k4
    cases k4
  · rcases getSet h1 with ⟨rfl, _, hl⟩ | ⟨ne, h1⟩
    · rw [setGet (by rw [← I.rl.len]; exact hl)] at h2
      cases h2
      exact same_no I.gr.h h0
    · rw [List.getElem?_set_ne ne] at h2
      exact I.ow j q' _ h1 h2
def frz (i : Nat) (δ : DS) : DS := match δ[i]? with
  | some (.own ds) => δ.set i (.val (.list ds))
  | _ => δ
def dsFrz (i : Nat) (f : DS → Option Out) : DS → Option Out := fun δ => f (frz i δ)
theorem Iv.frz {G0 H0 G H : Hp} {δ : DS} {σ : St} (i : Nat) (I : Iv K ρ G0 H0 G H δ σ) : ∃ G', Iv K ρ G0 H0 G' H (L2.frz i δ) σ := by
  unfold L2.frz
  split
  · rename_i ds h
    obtain ⟨o, h1, p, vs, rfl, h3, h4, h5⟩ := I.rl.sl i _ h
    have h0 := I.ow i p ds h h1
    have g : Same G (upd G p (.lst vs)) := same_new h3 _
    have set1 : σ = σ.set i (some (.ref p)) := by
      apply List.ext_getElem?
      intro j
      by_cases e : i = j
      · subst e
        rw [setGet (List.getElem?_eq_some_iff.mp h1).1, h1]
      · rw [List.getElem?_set_ne e]
    refine ⟨upd G p (.lst vs), ⟨⟨same_upd2 I.gr.s h4, by rw [List.length_set]; exact I.rl.len, fun j s e => ?_, fun j k q ds' es' k1 k2 k3 k4 => ?_⟩, I.gr.new h0 h3 h4, fun j q ds' k1 k2 => ?_⟩⟩
    · rcases getSet e with ⟨rfl, rfl, hl⟩ | ⟨ne, e⟩
      · exact ⟨_, h1, .ref p, rfl, .lst (SqL.of upd_same) (h5.same g)⟩
      · obtain ⟨o, k1, k2⟩ := I.rl.sl j s e
        refine ⟨o, k1, ?_⟩
        cases s with
        | no => trivial
        | val d =>
          obtain ⟨v, e1, e2⟩ := k2
          exact ⟨v, e1, e2.same g⟩
        | own es =>
          obtain ⟨q, ws, rfl, e2, e3, e4⟩ := k2
          refine ⟨q, ws, rfl, ?_, e3, e4.same g⟩
          rw [upd_ne]
          · exact e2
          · rintro rfl
            exact ne (I.rl.apart i j q ds es h e h1 k1)
    all_goals
      rcases getSet k1 with ⟨_, z, _⟩ | ⟨ne, k1⟩
      · cases z
    · rcases getSet k2 with ⟨_, z, _⟩ | ⟨ne2, k2⟩
      · cases z
      · exact I.rl.apart j k q ds' es' k1 k2 k3 k4
    · exact I.ow j q ds' k1 k2
  · exact ⟨G, I⟩
def dsForGo (h : W → DS → Option DS) (fb : DS → Option Out) : List W → DS → Option Out
  | [], δ => some (.nx δ)
  | d :: ds, δ => (h d δ).bind fun δ2 => match fb δ2 with
    | some (.nx δ') => dsForGo h fb ds δ'
    | some (.ct δ') => dsForGo h fb ds δ'
    | some (.bk δ') => some (.nx δ')
    | some (.rt d) => some (.rt d)
    | none => none
def dsFor (fi : DS → Option (List W)) (h : W → DS → Option DS) (fb : DS → Option Out) : DS → Option Out := fun δ => (fi δ).bind fun ds => dsForGo h fb ds δ
def ownAt (i : Nat) (δ : DS) : Option (List W) := match δ[i]? with
  | some (.own ds) => some ds
  | _ => none
theorem ownAt_eq {i : Nat} {δ : DS} {ds : List W} (h : ownAt i δ = some ds) : δ[i]? = some (.own ds) := by
  unfold ownAt at h
  split at h
  · rename_i e; cases h; exact e
  · cases h
theorem Iv.put {G0 H0 G H : Hp} {δ : DS} {σ : St} {i : Nat} {ds es : List W} {p : Addr} {vs : List V} (I : Iv K ρ G0 H0 G H δ σ) (h : δ[i]? = some (.own ds)) (hp : σ[i]? = some (some (.ref p))) (g0 : G p = none) (da : DwAll K ρ G vs es) : Iv K ρ G0 H0 G (upd H p (.lst vs)) (δ.set i (.own es)) σ := by
  have h0 := I.ow i p ds h hp
  have sG : Same G (upd H p (.lst vs)) := fun b o e => by
    rw [upd_ne (fun z => by rw [z, g0] at e; cases e)]
    exact I.gr.s _ _ e
  refine ⟨⟨sG, by rw [List.length_set]; exact I.rl.len, fun j s e => ?_, fun j k q ds' es' k1 k2 k3 k4 => ?_⟩, ⟨I.gr.g, fun b o e => ?_, sG, I.gr.n⟩, fun j q ds' k1 k2 => ?_⟩
  · rcases getSet e with ⟨rfl, rfl, hl⟩ | ⟨ne, e⟩
    · exact ⟨_, hp, p, vs, rfl, g0, upd_same, da⟩
    · obtain ⟨o, k1, k2⟩ := I.rl.sl j s e
      refine ⟨o, k1, ?_⟩
      cases s with
      | no => trivial
      | val d => exact k2
      | own es2 =>
        obtain ⟨q, ws, rfl, e2, e3, e4⟩ := k2
        refine ⟨q, ws, rfl, e2, ?_, e4⟩
        rw [upd_ne]
        · exact e3
        · rintro rfl
          exact ne (I.rl.apart i j q ds es2 h e hp k1)
  · rcases getSet k1 with ⟨rfl, _, _⟩ | ⟨ne, k1⟩ <;> rcases getSet k2 with ⟨rfl, _, _⟩ | ⟨ne2, k2⟩
    · rfl
    · exact I.rl.apart _ _ q _ _ h k2 k3 k4
    · exact I.rl.apart _ _ q _ _ k1 h k3 k4
    · exact I.rl.apart _ _ q _ _ k1 k2 k3 k4
  · rw [upd_ne (fun z => by rw [z, h0] at e; cases e)]
    exact I.gr.h _ _ e
  · rcases getSet k1 with ⟨rfl, _, _⟩ | ⟨ne, k1⟩
    · exact I.ow _ q _ h k2
    · exact I.ow j q _ k1 k2
def dsAppend (i : Nat) (f : DS → Option W) : DS → Option Out := fun δ => (ownAt i δ).bind fun ds => (f δ).bind fun d => if ds.length < sizeLine then some (.nx (δ.set i (.own (ds ++ [d])))) else none
def dsSetI (i : Nat) (fi fv : DS → Option W) : DS → Option Out := fun δ => (fv δ).bind fun d => (ownAt i δ).bind fun ds => (fi δ).bind fun x => match x with
  | .int k => (ixN ds.length k).map fun j => .nx (δ.set i (.own (ds.set j d)))
  | _ => none
end
section
variable {K : PySem.W.Frag} {ρ : List Addr}
def spD (K : PySem.W.Frag) (f : List W → Option W) : Sp := fun vs H Q _ => ∃ ρ G ds d, Same G H ∧ DwAll K ρ G vs ds ∧ f ds = some d ∧ ∀ v G' H', Gr G H G' H' → Dw K ρ G' v d → Q v H'
def dCall (f : List W → Option W) (fa : DS → Option (List W)) : DS → Option W := fun δ => (fa δ).bind f
theorem de_call {f : List W → Option W} {t : TA} {fa : DS → Option (List W)} {E : XK} (h : DA K ρ t fa) : DE K ρ (tCall (spD K f) [] E t) (dCall f fa) := fun G σ H δ d Q R e q => by
  obtain ⟨ds, ed, e⟩ := Option.bind_eq_some_iff.mp e
  exact h G σ H δ ds _ R ed fun vs G1 H1 g1 da => by
    refine ⟨ρ, G1, ds, d, g1.s, ?_, e, fun v G2 H2 g2 dv => q v G2 H2 (g1.trans g2) dv⟩
    rw [List.append_nil]
    exact da
def startD (n : Nat) (ds : List W) : DS := ds.map .val ++ List.replicate (n - ds.length) .no
def outD : Option Out → Option W
  | some (.rt d) => some d
  | some (.nx _) => some .none
  | _ => none
def bodyD (a n : Nat) (fb : DS → Option Out) : List W → Option W := fun ds => if ds.length = a then outD (fb (startD n ds)) else none
theorem bodyD_len {a n : Nat} {fb : DS → Option Out} {ds : List W} {d : W} (h : bodyD a n fb ds = some d) : ds.length = a := by
  unfold bodyD at h
  split at h
  · assumption
  · cases h
theorem spD_len {f : List W → Option W} {a : Nat} {vs : List V} {H : Hp} {Q : VK} {E : XK} (hf : ∀ ds d, f ds = some d → ds.length = a) (h : spD K f vs H Q E) : vs.length = a := by
  obtain ⟨ρ, G, ds, d, s, da, e, q⟩ := h
  rw [da.length]
  exact hf ds d e
theorem startD_val {n : Nat} {ds : List W} {i : Nat} {es : List W} : (startD n ds)[i]? ≠ some (.own es) := by
  unfold startD
  intro h
  rcases Nat.lt_or_ge i (ds.map Sl.val).length with hl | hl
  · rw [List.getElem?_append_left hl, List.getElem?_map] at h
    obtain ⟨d, _, e⟩ := Option.map_eq_some_iff.mp h
    cases e
  · rw [List.getElem?_append_right hl, List.getElem?_replicate] at h
    split at h <;> cases h
theorem start_rl {G H : Hp} {N : List Str} {vs : List V} {ds : List W} (s : Same G H) (h : DwAll K ρ G vs ds) : Rl K ρ G H (startD N.length ds) (start N vs) := by
  refine ⟨s, by simp [startD, start, h.length], fun i sl e => ?_, fun i j p ds' es' h1 => absurd h1 startD_val⟩
  unfold startD at e
  unfold start
  rcases Nat.lt_or_ge i ds.length with hl | hl
  · rw [List.getElem?_append_left (by simpa using hl), List.getElem?_map] at e
    obtain ⟨d, e1, rfl⟩ := Option.map_eq_some_iff.mp e
    obtain ⟨v, h1, h2⟩ := h.get e1
    refine ⟨some v, ?_, v, rfl, h2⟩
    rw [List.getElem?_append_left (by simp [h.length]; exact hl), List.getElem?_map, h1]
    rfl
  · rw [List.getElem?_append_right (by simpa using hl), List.getElem?_replicate] at e
    split at e
    · cases e
      rename_i hlt
      refine ⟨none, ?_, trivial⟩
      rw [List.getElem?_append_right (by simp [h.length]; exact hl), List.getElem?_replicate, if_pos]
      simp only [List.length_map] at hlt ⊢
      rw [h.length]
      exact hlt
    · cases e
theorem d_fn {t : TS} {fb : DS → Option Out} {N : List Str} {a n : Nat} {vs : List V} {H : Hp} {Q : VK} {E : XK} (hn : N.length = n) (h : ∀ ρ, DSt K ρ t fb) (hsp : spD K (bodyD a n fb) vs H Q E) : t { nx := fun _ H' => Q .non H', rt := Q } (start N vs) H := by
  subst hn
  obtain ⟨ρ, G, ds, d, s, da, e, q⟩ := hsp
  have R := start_rl (N := N) s da
  have I : Iv K ρ G H G H (startD N.length ds) (start N vs) := ⟨R, .refl s, fun i p ds' h1 => absurd h1 startD_val⟩
  unfold bodyD at e
  rw [if_pos (bodyD_len (show bodyD a N.length fb ds = some d from e))] at e
  cases ef : fb (startD N.length ds) with
  | none => rw [ef] at e; cases e
  | some o =>
    rw [ef] at e
    refine h ρ G H G _ H _ o _ I ef ?_
    cases o with
    | nx δ => cases e; exact fun σ' G' H' I' => q _ G' H' I'.gr .non
    | rt d' => cases e; exact fun v G' H' g dv => q v G' H' g dv
    | bk _ => cases e
    | ct _ => cases e
end
end L2
set_option Elab.async false
set_option linter.all false
set_option maxRecDepth 100000
namespace L2
open PySem PySem.Spec PyProof.Rows
def rCatG (K : PySem.W.Frag) : R2 := fun x y H Q => ∃ l b xs zs, x = .ref l ∧ y = .ref b ∧ SqL K H l xs ∧ SqL K H b zs ∧ xs.length + zs.length ≤ sizeLine ∧ ∀ p H', Nw H H' p (.lst (xs ++ zs)) → Q (.ref p) H'
theorem op_catG {X : Cx} : OpR X (binaryOp .Add) (rCatG X.K) := by
  intro pins s σ H x y v u Q I rx ry h
  obtain ⟨l, b, xs, zs, rfl, rfl, hH, hB, hz, q⟩ := h
  cases rx
  cases ry
  obtain ⟨its, r, hl, _⟩ := I.list hH
  obtain ⟨its2, r2, hb, _⟩ := I.list hB
  obtain ⟨⟨cls, dd, data, sl⟩, n, ho, hc, hdd, hd⟩ := hl
  obtain ⟨⟨cls2, dd2, data2, sl2⟩, n2, ho2, hc2, hdd2, hd2⟩ := hb
  simp only at hc hd hc2 hd2
  subst hc hd hc2 hd2
  have e : its.toArray ++ its2.toArray = (its ++ its2).toArray := by simp
  refine concat_meets ⟨_, ho, rfl⟩ ⟨_, ho2, rfl⟩ noFill_list_add seq_list_add PySem.F.slot_list_add PySem.F.entry_list_add (PySem.F.args_list_add_2 _ _) (list_addW l b its.toArray its2.toArray n n2 dd dd2 sl sl2 (by rw [List.size_toArray, List.size_toArray, ← r.length, ← r2.length]; exact hz)) ⟨ho, ho2, ?_⟩
  rw [e]
  exact ⟨.ref _, _, I.lnew (t' := s.toks) (r.append r2) (by rw [List.length_append]; omega), rfl, q _ _ (.of I.fresh)⟩
def rStrAdd : R2 := fun x y H Q => ∃ i j, x = .str i ∧ y = .str j ∧ i.length + j.length ≤ sizeLine ∧ Q (.str (i ++ j)) H
def rAddA (K : PySem.W.Frag) : R2 := fun x y H Q => rI0 (fun i j => .int (i + j)) x y H Q ∨ rStrAdd x y H Q ∨ rCatG K x y H Q ∨ rCatT K x y H Q
theorem op_addA {X : Cx} {K : PySem.W.Frag} (h : X.K = K) : OpR X (binaryOp .Add) (rAddA K) := h ▸ op_add.or (op_add_str.or (op_catG.or op_catT))
section
variable {K : PySem.W.Frag} {ρ : List Addr}
def gAdd : W → W → Option W
  | .int i, .int j => some (.int (i + j))
  | .str i, .str j => if i.length + j.length ≤ sizeLine then some (.str (i ++ j)) else none
  | .list a, .list b => if a.length + b.length ≤ sizeLine then some (.list (a ++ b)) else none
  | .tuple a, .tuple b => if a ≠ [] ∧ a.length + b.length ≤ sizeLine then some (.tuple (a ++ b)) else none
  | _, _ => none
theorem pk_int {G H : Hp} {v : V} {i : Int} (h : Pk K ρ G H v (.int i)) : v = .int i := by
  rcases h with h | ⟨_, _, _, _, e, _⟩
  · exact dp_int h
  · cases e
theorem pk_str {G H : Hp} {v : V} {i : Str} (h : Pk K ρ G H v (.str i)) : v = .str i := by
  rcases h with h | ⟨_, _, _, _, e, _⟩
  · exact dp_str h
  · cases e
theorem pk_lst {G H : Hp} {v : V} {ds : List W} (s : Same G H) (h : Pk K ρ G H v (.list ds)) : ∃ p vs, v = .ref p ∧ SqL K H p vs ∧ DwAll K ρ G vs ds := by
  rcases h with h | ⟨p, vs, es, rfl, e, h1, h2⟩
  · cases h with
    | lst sq da => exact ⟨_, _, rfl, s.seq sq, da⟩
  · cases e
    exact ⟨p, vs, rfl, SqL.of h1, h2⟩
theorem dp_lst {G : Hp} {v : V} {ds : List W} (h : Dw K ρ G v (.list ds)) : ∃ p vs, v = .ref p ∧ SqL K G p vs ∧ DwAll K ρ G vs ds := by
  cases h with
  | lst sq da => exact ⟨_, _, rfl, sq, da⟩
theorem dp_tup {G : Hp} {v : V} {ds : List W} (h : Dw K ρ G v (.tuple ds)) : ∃ p vs, v = .ref p ∧ SqT K G p vs ∧ DwAll K ρ G vs ds := by
  cases h with
  | tup sq da => exact ⟨_, _, rfl, sq, da⟩
theorem pk_tup {G H : Hp} {v : V} {ds : List W} (h : Pk K ρ G H v (.tuple ds)) : ∃ p vs, v = .ref p ∧ SqT K G p vs ∧ DwAll K ρ G vs ds := by
  rcases h with h | ⟨_, _, _, _, e, _⟩
  · exact dp_tup h
  · cases e
theorem dr_add : DR K ρ (rAddA K) gAdd := fun G H x y d e c Q s hx hy hg q => by
  unfold gAdd at hg
  split at hg
  · cases hg
    cases pk_int hx
    cases dp_int hy
    exact .inl ⟨_, _, rfl, rfl, q _ G H (.refl s) (.int _)⟩
  · split at hg
    · rename_i hz
      cases hg
      cases pk_str hx
      cases dp_str hy
      exact .inr (.inl ⟨_, _, rfl, rfl, hz, q _ G H (.refl s) (.str _)⟩)
    · cases hg
  · split at hg
    · rename_i hz
      cases hg
      obtain ⟨p, vs, rfl, sq, da⟩ := pk_lst s hx
      obtain ⟨p2, vs2, rfl, sq2, da2⟩ := dp_lst hy
      refine .inr (.inr (.inl ⟨p, p2, vs, vs2, rfl, rfl, sq, s.seq sq2, by rw [da.length, da2.length]; exact hz, fun l H' n => ?_⟩))
      have g := Gr.nw s n
      exact q _ _ H' g (.lst (SqL.of upd_same) ((da.same g.g).app (da2.same g.g)))
    · cases hg
  · split at hg
    · rename_i hz
      cases hg
      obtain ⟨p, vs, rfl, sq, da⟩ := pk_tup hx
      obtain ⟨p2, vs2, rfl, sq2, da2⟩ := dp_tup hy
      refine .inr (.inr (.inr ⟨p, p2, vs, vs2, rfl, rfl, s.tup sq, s.tup sq2, ?_, by rw [da.length, da2.length]; exact hz.2, fun e => ?_, fun e l hl => ?_⟩))
      · rintro rfl
        cases da
        exact hz.1 rfl
      · subst e
        cases da2
        rw [List.append_nil] at q
        exact q _ G H (.refl s) (.tup sq da)
      · have g := Gr.nw s (Nw.of (o := .tup (vs ++ vs2)) hl)
        exact q _ _ _ g (.tup (SqT.of upd_same) ((da.same g.g).app (da2.same g.g)))
    · cases hg
  · cases hg
def gAddL : W → W → Option (List W)
  | .list a, .list b => if a.length + b.length ≤ sizeLine then some (a ++ b) else none
  | _, _ => none
def dAddL (fa fb : DS → Option W) : DS → Option (List W) := fun δ => (fa δ).bind fun x => (fb δ).bind fun y => gAddL x y
def gI (f : Int → Int → Int) : W → W → Option W
  | .int i, .int j => some (.int (f i j))
  | _, _ => none
def gIc (C : Int → Int → Bool) (f : Int → Int → Int) : W → W → Option W
  | .int i, .int j => if C i j = true then some (.int (f i j)) else none
  | _, _ => none
theorem dr_i0 {f : Int → Int → Int} : DR K ρ (rI0 fun i j => .int (f i j)) (gI f) := fun G H x y d e c Q s hx hy hg q => by
  unfold gI at hg
  split at hg
  · cases hg
    cases pk_int hx
    cases dp_int hy
    exact ⟨_, _, rfl, rfl, q _ G H (.refl s) (.int _)⟩
  · cases hg
theorem dr_ic {C : Int → Int → Prop} {Cb : Int → Int → Bool} {f : Int → Int → Int} (hC : ∀ i j, Cb i j = true → C i j) : DR K ρ (rI C fun i j => .int (f i j)) (gIc Cb f) := fun G H x y d e c Q s hx hy hg q => by
  unfold gIc at hg
  split at hg
  · split at hg
    · rename_i hc
      cases hg
      cases pk_int hx
      cases dp_int hy
      exact ⟨_, _, rfl, rfl, hC _ _ hc, q _ G H (.refl s) (.int _)⟩
    · cases hg
  · cases hg
def gSub' : W → W → Option W := gI fun i j => i - j
theorem dr_sub : DR K ρ (rI0 fun i j => .int (i - j)) gSub' := dr_i0
theorem big_lt : 2 ^ 200 < 2 ^ 512 := Nat.pow_lt_pow_right (by decide) (by decide)
def okMul (i j : Int) : Bool := decide (i.natAbs < 2 ^ 64) || decide (j.natAbs < 2 ^ 64) || (decide (i.natAbs < 2 ^ 200) && decide (j.natAbs < 2 ^ 200))
def CMulA (i j : Int) : Prop := CMul i j ∨ CMulM i j
theorem op_mulA {X : Cx} : OpR X (binaryOp .Mult) (rI CMulA fun i j => .int (i * j)) := fun pins s σ H x y v u Q I rx ry h => by
  obtain ⟨i, j, e1, e2, hc, q⟩ := h
  rcases hc with hc | hc
  · exact op_mul pins s σ H x y v u Q I rx ry ⟨i, j, e1, e2, hc, q⟩
  · exact op_mulM pins s σ H x y v u Q I rx ry ⟨i, j, e1, e2, hc, q⟩
def okDiv (i j : Int) : Bool := decide (j ≠ 0) && decide (j.natAbs < 2 ^ 200)
def okMod (i j : Int) : Bool := decide (j ≠ 0)
def gMul : W → W → Option W := gIc okMul fun i j => i * j
def gDiv : W → W → Option W := gIc okDiv fun i j => i.fdiv j
def gMod : W → W → Option W := gIc okMod fun i j => i.fmod j
theorem dr_mul : DR K ρ (rI CMulA fun i j => .int (i * j)) gMul := dr_ic fun i j h => by
  simp only [okMul, Bool.and_eq_true, Bool.or_eq_true, decide_eq_true_eq] at h
  rcases h with (h | h) | h
  · exact .inl (.inl ⟨by omega, by omega⟩)
  · exact .inl (.inr ⟨by omega, by omega⟩)
  · exact .inr ⟨Nat.lt_trans h.1 big_lt, Nat.lt_trans h.2 big_lt⟩
theorem dr_div : DR K ρ (rI CDivM fun i j => .int (i.fdiv j)) gDiv := dr_ic fun i j h => by
  simp only [okDiv, Bool.and_eq_true, decide_eq_true_eq] at h
  exact ⟨h.1, Nat.lt_trans h.2 big_lt⟩
theorem dr_mod : DR K ρ (rI (fun _ j => j ≠ 0) fun i j => .int (i.fmod j)) gMod := dr_ic fun i j h => by simpa [okMod] using h
def gNeg : W → Option W
  | .int i => some (.int (-i))
  | _ => none
def cI (p : Int → Int → Bool) : W → W → Option Bool
  | .int i, .int j => some (p i j)
  | _, _ => none
theorem db_i {p : Int → Int → Bool} : DB K ρ (rI0 fun i j => .bl (p i j)) (cI p) := fun H x y d e b Q hx hy hg q => by
  unfold cI at hg
  split at hg
  · cases hg
    cases dp_int hx
    cases dp_int hy
    exact ⟨_, _, rfl, rfl, q⟩
  · cases hg
def cLt : W → W → Option Bool := cI fun i j => decide (i < j)
def cLe : W → W → Option Bool := cI fun i j => decide (i ≤ j)
def cGt : W → W → Option Bool := cI fun i j => decide (j < i)
def cGe : W → W → Option Bool := cI fun i j => decide (j ≤ i)
theorem db_lt : DB K ρ (rI0 fun i j => .bl (decide (i < j))) cLt := db_i
theorem db_gt : DB K ρ (rI0 fun i j => .bl (decide (j < i))) cGt := db_i
def isN : W → Bool
  | .none => true
  | _ => false
def cIsN : W → W → Option Bool
  | d, .none => some (isN d)
  | _, _ => none
theorem non_iff {H : Hp} {x : V} {d : W} (h : Dw K ρ H x d) : decide (x = .non) = isN d := by
  cases h <;> simp [isN]
theorem db_isN : DB K ρ (fun x y H Q => y = .non ∧ Q (.bl (decide (x = .non))) H) cIsN := fun H x y d e b Q hx hy hg q => by
  unfold cIsN at hg
  split at hg
  · cases hg
    cases dp_non hy
    exact ⟨rfl, by rw [non_iff hx]; exact q⟩
  · cases hg
def cNotN : W → W → Option Bool
  | d, .none => some (!(isN d))
  | _, _ => none
theorem db_notN : DB K ρ (fun x y H Q => y = .non ∧ Q (.bl (!decide (x = .non))) H) cNotN := fun H x y d e b Q hx hy hg q => by
  unfold cNotN at hg
  split at hg
  · cases hg
    cases dp_non hy
    exact ⟨rfl, by rw [non_iff hx]; exact q⟩
  · cases hg
def scD : W → W → Option Bool
  | .none, .none => some true | .none, .int _ => some false | .int _, .none => some false | .none, .bool _ => some false | .bool _, .none => some false | .none, .str _ => some false | .str _, .none => some false
  | .int i, .int j => some (decide (i = j)) | .bool i, .bool j => some (decide (i = j)) | .str i, .str j => some (decide (i = j))
  | .int _, .str _ => some false | .str _, .int _ => some false | .bool _, .str _ => some false | .str _, .bool _ => some false
  | _, _ => none
theorem scD_ok {H : Hp} {x y : V} {d e : W} {b : Bool} (hx : Dw K ρ H x d) (hy : Dw K ρ H y e) (h : scD d e = some b) : scal x y = true ∧ decide (x = y) = b := by
  unfold scD at h
  split at h
  all_goals first
    | cases h
    | skip
  all_goals first
    | (cases hx; cases hy; exact ⟨rfl, by simp⟩)
def cEq (d e : W) : Option Bool := match scD d e with
  | some b => some b
  | none => d.py.bind fun a => e.py.bind fun b => if (a.canLay0 && b.canLay0 && decide (a.depth ≤ 64)) = true then some (PyData.eqv a b) else none
def rEqA (K : PySem.W.Frag) : R2 := fun x y H Q => rEq x y H Q ∨ rEqD K false x y H Q
def rNeA (K : PySem.W.Frag) : R2 := fun x y H Q => rNe x y H Q ∨ rEqD K true x y H Q
theorem op_eqA {X : Cx} {K : PySem.W.Frag} (h : X.K = K) (hu : X.A.units + 64 < cLine) : OpR X (compareOp .Eq) (rEqA K) := h ▸ op_eq.or (op_eqD hu)
theorem op_neA {X : Cx} {K : PySem.W.Frag} (h : X.K = K) (hu : X.A.units + 64 < cLine) : OpR X (compareOp .NotEq) (rNeA K) := h ▸ op_ne.or (op_neD hu)
theorem db_eq : DB K ρ (rEqA K) cEq := fun H x y d e b Q hx hy hg q => by
  unfold cEq at hg
  split at hg
  · rename_i b' hb
    cases hg
    obtain ⟨h1, h2⟩ := scD_ok hx hy hb
    exact .inl ⟨h1, by rw [h2]; exact q⟩
  · obtain ⟨a, ea, hg⟩ := Option.bind_eq_some_iff.mp hg
    obtain ⟨b, eb, hg⟩ := Option.bind_eq_some_iff.mp hg
    split at hg
    · rename_i hc
      cases hg
      simp only [Bool.and_eq_true, decide_eq_true_eq] at hc
      exact .inr ⟨a, b, hx.dp ea, hy.dp eb, hc.1.1, hc.1.2, hc.2, q⟩
    · cases hg
def cNe (d e : W) : Option Bool := (cEq d e).map (!·)
theorem db_ne : DB K ρ (rNeA K) cNe := fun H x y d e b Q hx hy hg q => by
  obtain ⟨c, hg', rfl⟩ := Option.map_eq_some_iff.mp hg
  unfold cEq at hg'
  split at hg'
  · rename_i b' hb
    cases hg'
    obtain ⟨h1, h2⟩ := scD_ok hx hy hb
    exact .inl ⟨h1, by rw [h2]; exact q⟩
  · obtain ⟨a, ea, hg'⟩ := Option.bind_eq_some_iff.mp hg'
    obtain ⟨b, eb, hg'⟩ := Option.bind_eq_some_iff.mp hg'
    split at hg'
    · rename_i hc
      cases hg'
      simp only [Bool.and_eq_true, decide_eq_true_eq] at hc
      exact .inr ⟨a, b, hx.dp ea, hy.dp eb, hc.1.1, hc.1.2, hc.2, q⟩
    · cases hg'
def gIx : W → W → Option W
  | .list ds, .int i => atI ds i
  | .tuple ds, .int i => atI ds i
  | .str z, .int i => if z.length ≤ sizeLine then (atI z.cps.toList i).map fun c => .str ⟨#[c]⟩ else none
  | _, _ => none
theorem DwAll.at {G : Hp} {vs : List V} {ds : List W} {i : Int} {d : W} (h : DwAll K ρ G vs ds) (e : atI ds i = some d) : ∃ v, atI vs i = some v ∧ Dw K ρ G v d := by
  unfold atI at e ⊢
  rw [h.length]
  obtain ⟨j, h1, h2⟩ := Option.bind_eq_some_iff.mp e
  obtain ⟨v, h3, h4⟩ := h.get h2
  exact ⟨v, Option.bind_eq_some_iff.mpr ⟨j, h1, h3⟩, h4⟩
theorem dr_ix : DR K ρ (rIx K) gIx := fun G H x y d e c Q s hx hy hg q => by
  unfold gIx at hg
  split at hg
  · cases dp_int hy
    obtain ⟨p, vs, rfl, sq, da⟩ := pk_lst s hx
    obtain ⟨v, h1, h2⟩ := da.at hg
    exact .inl ⟨p, vs, _, v, rfl, rfl, sq, h1, q v G H (.refl s) h2⟩
  · cases dp_int hy
    obtain ⟨p, vs, rfl, sq, da⟩ := pk_tup hx
    obtain ⟨v, h1, h2⟩ := da.at hg
    exact .inr (.inl ⟨p, vs, _, v, rfl, rfl, s.tup sq, h1, q v G H (.refl s) h2⟩)
  · split at hg
    · rename_i hz
      obtain ⟨c', h1, rfl⟩ := Option.map_eq_some_iff.mp hg
      cases dp_int hy
      cases pk_str hx
      exact .inr (.inr ⟨_, _, c', rfl, rfl, hz, h1, q _ G H (.refl s) (.str _)⟩)
    · cases hg
  · cases hg
def cutW (xs : List W) (lo hi : Option Int) : List W := (xs.drop (HT.sIx xs.length 0 lo)).take (HT.sIx xs.length xs.length hi - HT.sIx xs.length 0 lo)
theorem DwAll.cut {G : Hp} {vs : List V} {ds : List W} (h : DwAll K ρ G vs ds) (lo hi : Option Int) : DwAll K ρ G (cutV vs lo hi) (cutW ds lo hi) := by
  unfold cutV cutW
  rw [h.length]
  exact (h.drop _).take _
def DOp (K : PySem.W.Frag) (ρ : List Addr) (t : TO) (f : DS → Option (Option Int)) : Prop :=
  ∀ (G : Hp) (σ : St) (H : Hp) (δ : DS) (x : Option Int) (Q : Option Int → Hp → Prop), Rl K ρ G H δ σ → f δ = some x → (∀ G' H', Gr G H G' H' → Q x H') → t σ H Q
def dNoPart : DS → Option (Option Int) := fun _ => some none
def asI : W → Option Int
  | .int i => some i
  | _ => none
theorem asI_eq {d : W} {i : Int} (h : asI d = some i) : d = .int i := by
  cases d <;> first | (cases h; rfl) | cases h
def dPart (f : DS → Option W) : DS → Option (Option Int) := fun δ => (f δ).bind fun d => (asI d).map some
theorem dop_none : DOp K ρ tNoPart dNoPart := fun G σ H δ x Q R e q => by
  cases e
  exact q G H (.refl R.sub)
theorem dop_some {t : TE} {f : DS → Option W} (h : DE K ρ t f) : DOp K ρ (tPart t) (dPart f) := fun G σ H δ x Q R e q => by
  obtain ⟨d, ed, e⟩ := Option.bind_eq_some_iff.mp e
  obtain ⟨i, ei, rfl⟩ := Option.map_eq_some_iff.mp e
  cases asI_eq ei
  exact h G σ H δ _ _ R ed fun v G1 H1 g1 dv => by
    cases dp_int dv
    exact ⟨i, rfl, q G1 H1 g1⟩
def listD : W → Option (List W)
  | .list ds => some ds
  | _ => none
theorem listD_eq {d : W} {ds : List W} (h : listD d = some ds) : d = .list ds := by
  cases d <;> first | (cases h; rfl) | cases h
def dSlL (f : DS → Option W) (lo hi : DS → Option (Option Int)) : DS → Option (List W) := fun δ => (f δ).bind fun d => (listD d).bind fun ds => (lo δ).bind fun l => (hi δ).map fun u => cutW ds l u
theorem do_slL {t : TE} {tl th : TO} {f : DS → Option W} {lo hi : DS → Option (Option Int)} (h : DK K ρ t f) (hl : DOp K ρ tl lo) (hh : DOp K ρ th hi) : DO K ρ (tSl (rSlLN K) t tl th) (dSlL f lo hi) := fun G σ H δ ds Q R e q => by
  obtain ⟨d, ed, e⟩ := Option.bind_eq_some_iff.mp e
  obtain ⟨es, ee, e⟩ := Option.bind_eq_some_iff.mp e
  obtain ⟨l, el, e⟩ := Option.bind_eq_some_iff.mp e
  obtain ⟨u, eu, rfl⟩ := Option.map_eq_some_iff.mp e
  cases listD_eq ee
  refine h G σ H δ _ _ R ed fun v G1 H1 g1 dv => hl G1 σ H1 δ l _ (R.grow g1) el fun G2 H2 g2 => hh G2 σ H2 δ u _ ((R.grow g1).grow g2) eu fun G3 H3 g3 => ?_
  have g23 := g2.trans g3
  obtain ⟨p, vs, rfl, sq, da⟩ := pk_lst g23.s (dv.grow g23)
  refine ⟨p, vs, rfl, sq, fun r H' n => ?_⟩
  have g := g1.trans g23
  exact q r _ G3 H' (g.trans (.nwO g.s n)) (same_no g.h n.2.1) (same_no g.s n.2.1) n.2.2 (da.cut l u)
def DCk (K : PySem.W.Frag) (ρ : List Addr) (r : List V → Hp → VK → Prop) (g : W → Option W) : Prop :=
  ∀ (G H : Hp) (x : V) (d c : W) (Q : VK), Same G H → Pk K ρ G H x d → g d = some c → (∀ v G' H', Gr G H G' H' → Dw K ρ G' v c → Q v H') → r [x] H Q
def dC1 (g : W → Option W) (f : DS → Option W) : DS → Option W := fun δ => (f δ).bind g
theorem de_c1 {r : List V → Hp → VK → Prop} {g : W → Option W} {t : TE} {f : DS → Option W} (hr : DCk K ρ r g) (h : DK K ρ t f) : DE K ρ (tCB r (tCons t tNil)) (dC1 g f) := fun G σ H δ d Q R e q => by
  obtain ⟨x, ex, e⟩ := Option.bind_eq_some_iff.mp e
  exact h G σ H δ x _ R ex fun v G1 H1 g1 dv => hr G1 H1 v x d Q g1.s dv e fun u G2 H2 g2 du => q u G2 H2 (g1.trans g2) du
def rLenA (K : PySem.W.Frag) : List V → Hp → VK → Prop := fun xs H Q => rLen K xs H Q ∨ rLenS xs H Q
theorem call_lenA {X : Cx} {K : PySem.W.Frag} (h : X.K = K) : CallR X (.builtin "len") (rLenA K) := (call_len_seqK h).or call_len_strK
def gLen : W → Option W
  | .list ds => some (.int ds.length)
  | .tuple ds => some (.int ds.length)
  | .str z => if z.length ≤ sizeLine then some (.int z.length) else none
  | _ => none
theorem dc_len : DCk K ρ (rLenA K) gLen := fun G H x d c Q s hx hg q => by
  unfold gLen at hg
  split at hg
  · cases hg
    obtain ⟨p, vs, rfl, sq, da⟩ := pk_lst s hx
    exact .inl ⟨p, vs, rfl, .inl sq, by rw [da.length]; exact q _ G H (.refl s) (.int _)⟩
  · cases hg
    obtain ⟨p, vs, rfl, sq, da⟩ := pk_tup hx
    exact .inl ⟨p, vs, rfl, .inr (s.tup sq), by rw [da.length]; exact q _ G H (.refl s) (.int _)⟩
  · split at hg
    · rename_i hz
      cases hg
      cases pk_str hx
      exact .inr ⟨_, rfl, hz, q _ G H (.refl s) (.int _)⟩
    · cases hg
  · cases hg
def dListOf (f : DS → Option W) : DS → Option (List W) := fun δ => (f δ).bind seqD
def gIsi (T : String) : W → Option W
  | .int i => (isiV (.int i) T).map .bool
  | .bool i => (isiV (.bl i) T).map .bool
  | .str i => (isiV (.str i) T).map .bool
  | _ => none
theorem de_isi {T : String} {t : TE} {f : DS → Option W} (h : DE K ρ t f) : DE K ρ (tCB rIsi (tCons t (tCons (tC (.ty T)) tNil))) (dC1 (gIsi T) f) := fun G σ H δ d Q R e q => by
  obtain ⟨x, ex, e⟩ := Option.bind_eq_some_iff.mp e
  refine h G σ H δ x _ R ex fun v G1 H1 g1 dv => ?_
  unfold gIsi at e
  split at e
  all_goals first
    | cases e
    | (obtain ⟨k, ek, rfl⟩ := Option.map_eq_some_iff.mp e
       cases dv
       exact ⟨_, T, k, rfl, ek, q _ G1 H1 g1 (.bl k)⟩)
theorem ds_setI {i : Nat} {te ti : TE} {fv fi : DS → Option W} (hv : DE K ρ te fv) (hi : DE K ρ ti fi) : DSt K ρ (tAsg te (gSub (tVar i) ti rSetL)) (dsSetI i fi fv) := fun G0 H0 G σ H δ o D I e p => by
  obtain ⟨d, ed, e⟩ := Option.bind_eq_some_iff.mp e
  obtain ⟨ds, eo, e⟩ := Option.bind_eq_some_iff.mp e
  obtain ⟨x, ex, e⟩ := Option.bind_eq_some_iff.mp e
  have ho := ownAt_eq eo
  refine hv G σ H δ d _ I.rl ed fun v G1 H1 g1 dv => ?_
  have I1 := I.grow g1
  obtain ⟨o', h1, q, vs, rfl, h3, h4, h5⟩ := I1.rl.sl i _ ho
  refine ⟨.ref q, h1, hi G1 σ H1 δ x _ I1.rl ex fun u G2 H2 g2 du => ?_⟩
  have I2 := I1.grow g2
  split at e
  · obtain ⟨j, ej, rfl⟩ := Option.map_eq_some_iff.mp e
    cases dp_int du
    exact ⟨q, vs, _, j, rfl, rfl, g2.h _ _ h4, by rw [h5.length]; exact ej, p σ G2 _ (I2.put ho h1 (g2.n q (by rw [h4]; simp) h3) (DwAll.set (dv.same g2.g) j (h5.same g2.g)))⟩
  · cases e
end
end L2
set_option Elab.async false
set_option linter.all false
set_option maxRecDepth 100000
namespace L2
open PySem PySem.Spec PyProof.Rows
section
variable {X : Cx} {tg : Expr}
end
section
variable {K : PySem.W.Frag} {ρ : List Addr}
end
section
variable {X : Cx}
end
section
variable {K : PySem.W.Frag} {ρ : List Addr}
end
theorem gAdd_i (i j : Int) : gAdd (.int i) (.int j) = some (.int (i + j)) := rfl
theorem gSub_i (i j : Int) : gSub' (.int i) (.int j) = some (.int (i - j)) := rfl
theorem gMul_i {i j : Int} (h : okMul i j = true) : gMul (.int i) (.int j) = some (.int (i * j)) := by simp only [gMul, gIc, if_pos h]
theorem gDiv_i {i j : Int} (h : okDiv i j = true) : gDiv (.int i) (.int j) = some (.int (i.fdiv j)) := by simp only [gDiv, gIc, if_pos h]
theorem gMod_i {i j : Int} (h : okMod i j = true) : gMod (.int i) (.int j) = some (.int (i.fmod j)) := by simp only [gMod, gIc, if_pos h]
theorem gNeg_i (i : Int) : gNeg (.int i) = some (.int (-i)) := rfl
theorem okMul_l {i j : Int} (h1 : -(2 ^ 64) < i) (h2 : i < 2 ^ 64) : okMul i j = true := by
  simp only [okMul, Bool.and_eq_true, Bool.or_eq_true, decide_eq_true_eq]
  exact .inl (.inl (by omega))
theorem okMul_r {i j : Int} (h1 : -(2 ^ 64) < j) (h2 : j < 2 ^ 64) : okMul i j = true := by
  simp only [okMul, Bool.and_eq_true, Bool.or_eq_true, decide_eq_true_eq]
  exact .inl (.inr (by omega))
theorem okDiv_of {i j : Int} (h1 : 0 < j) (h2 : j < 2 ^ 64) : okDiv i j = true := by
  have e : (2 : Nat) ^ 64 < 2 ^ 200 := Nat.pow_lt_pow_right (by decide) (by decide)
  simp only [okDiv, Bool.and_eq_true, decide_eq_true_eq]
  exact ⟨by omega, Nat.lt_trans (by omega) e⟩
theorem okMod_of {i j : Int} (h : j ≠ 0) : okMod i j = true := by simp [okMod, h]
theorem gDiv_n (i : Int) {j : Int} (h1 : 0 < j) (h2 : j < 2 ^ 64) : gDiv (.int i) (.int j) = some (.int (i.fdiv j)) := gDiv_i (okDiv_of h1 h2)
theorem gMod_n (i : Int) {j : Int} (h1 : j ≠ 0) : gMod (.int i) (.int j) = some (.int (i.fmod j)) := gMod_i (okMod_of h1)
theorem asB_b (b : Bool) : asB (.bool b) = some b := rfl
theorem asI_i (i : Int) : asI (.int i) = some i := rfl
theorem listD_l (ds : List W) : listD (.list ds) = some ds := rfl
theorem seqD_l (ds : List W) : seqD (.list ds) = some ds := rfl
theorem seqD_t (ds : List W) : seqD (.tuple ds) = some ds := rfl
theorem gLen_l (ds : List W) : gLen (.list ds) = some (.int ds.length) := rfl
theorem gLen_t (ds : List W) : gLen (.tuple ds) = some (.int ds.length) := rfl
theorem gIx_l (ds : List W) (i : Int) : gIx (.list ds) (.int i) = atI ds i := rfl
theorem gIx_t (ds : List W) (i : Int) : gIx (.tuple ds) (.int i) = atI ds i := rfl
theorem cEq_i (i j : Int) : cEq (.int i) (.int j) = some (decide (i = j)) := rfl
theorem cEq_s (i j : Str) : cEq (.str i) (.str j) = some (decide (i = j)) := rfl
theorem cEq_b (i j : Bool) : cEq (.bool i) (.bool j) = some (decide (i = j)) := rfl
theorem cNe_i (i j : Int) : cNe (.int i) (.int j) = some (!decide (i = j)) := rfl
theorem cNe_s (i j : Str) : cNe (.str i) (.str j) = some (!decide (i = j)) := rfl
theorem cLt_i (i j : Int) : cLt (.int i) (.int j) = some (decide (i < j)) := rfl
theorem cLe_i (i j : Int) : cLe (.int i) (.int j) = some (decide (i ≤ j)) := rfl
theorem cGt_i (i j : Int) : cGt (.int i) (.int j) = some (decide (j < i)) := rfl
theorem cGe_i (i j : Int) : cGe (.int i) (.int j) = some (decide (j ≤ i)) := rfl
theorem cNotN_i (i : Int) : cNotN (.int i) .none = some true := rfl
theorem cNotN_n : cNotN .none .none = some false := rfl
theorem cNotN_s (i : Str) : cNotN (.str i) .none = some true := rfl
theorem cNotN_l (i : List W) : cNotN (.list i) .none = some true := rfl
theorem cNotN_t (i : List W) : cNotN (.tuple i) .none = some true := rfl
theorem cIsN_i (i : Int) : cIsN (.int i) .none = some false := rfl
theorem cIsN_n : cIsN .none .none = some true := rfl
theorem cIsN_s (i : Str) : cIsN (.str i) .none = some false := rfl
theorem cIsN_l (i : List W) : cIsN (.list i) .none = some false := rfl
theorem cIsN_t (i : List W) : cIsN (.tuple i) .none = some false := rfl
theorem isi_int (i : Int) : gIsi "int" (.int i) = some (.bool true) := rfl
theorem isi_bool (i : Int) : gIsi "bool" (.int i) = some (.bool false) := rfl
theorem isi_str (i : Str) : gIsi "str" (.str i) = some (.bool true) := rfl
theorem rng1_at {n : Nat} (hn : n ≤ 16777216) : rng1 (n : Int) = some (rngD 0 n) := by
  unfold rng1
  rw [if_pos (rngOk_nat hn), Int.toNat_natCast]
theorem rng1_run {f : DS → Option (List W)} {δ : DS} {n : Nat} (h : f δ = some [.int n]) (hn : n ≤ 16777216) : dRng1 f δ = some (rngD 0 n) := by
  unfold dRng1
  rw [h, Option.bind_some]
  exact rng1_at hn
theorem spD_no {K : PySem.W.Frag} {g : List W → Option W} {vs : List V} {H : Hp} {Q : VK} {E : XK} (hg : ∀ ds, g ds = none) (h : spD K g vs H Q E) : False := by
  obtain ⟨ρ, G, ds, d, _, _, e, _⟩ := h
  rw [hg] at e
  cases e
theorem FnOk.no {P : Program} {w : World} {K : PySem.W.Frag} {mg : Str → Option Value} {base : Heap} {CX : CXT} {k : Nat} {f : Addr} {fd : FuncData} {ps : List Str} {g : List W → Option W} (hg : ∀ ds, g ds = none) : FnOk P w K mg base CX k f fd ps (spD K g) :=
  ⟨fun _ _ _ _ h => (spD_no hg h).elim, fun _ _ _ _ _ _ _ _ _ _ _ _ _ h => (spD_no hg h).elim⟩
end L2
set_option Elab.async false
set_option linter.all false
set_option maxRecDepth 100000
namespace L2
open PySem PySem.Spec PyProof.Rows
inductive Ob where
  | lst (ds : List W)
  | dK (kvs : List (Key × W))
  | dT (kvs : List (List Key × W))
  | ins (c : Str) (fs : List (Str × W))
abbrev Sto := List Ob
inductive KvR (K : PySem.W.Frag) (ρ : List Addr) (G : Hp) {κ : Type} : List (κ × W) → List (κ × V) → Prop
  | nil : KvR K ρ G [] []
  | cons {k : κ} {d : W} {v : V} {l : List (κ × W)} {m : List (κ × V)} : Dw K ρ G v d → KvR K ρ G l m → KvR K ρ G ((k, d) :: l) ((k, v) :: m)
def ObR (K : PySem.W.Frag) (ρ : List Addr) (cl : Str → Addr) (G H : Hp) (a : Addr) : Ob → Prop
  | .lst ds => ∃ vs, H a = some (.lst vs) ∧ DwAll K ρ G vs ds
  | .dK kvs => ∃ ws, H a = some (.dK ws) ∧ KvR K ρ G kvs ws
  | .dT kvs => ∃ ws, H a = some (.dT ws) ∧ KvR K ρ G kvs ws
  | .ins c fs => ∃ dx ws, H a = some (.ins (cl c) dx ws) ∧ G dx = none ∧ H dx = some (.own a) ∧ KvR K ρ G fs ws
mutual
theorem Dw.ext {K : PySem.W.Frag} {ρ ρ' : List Addr} {G : Hp} (h : ρ <+: ρ') : ∀ {v : V} {d : W}, Dw K ρ G v d → Dw K ρ' G v d
  | _, _, .non => .non
  | _, _, .bl b => .bl b
  | _, _, .int i => .int i
  | _, _, .str x => .str x
  | _, _, .lst q a => .lst q (DwAll.ext h a)
  | _, _, .tup q a => .tup q (DwAll.ext h a)
  | _, _, .ref e => .ref (by
      obtain ⟨t, rfl⟩ := h
      rw [List.getElem?_append_left (List.getElem?_eq_some_iff.mp e).1]
      exact e)
theorem DwAll.ext {K : PySem.W.Frag} {ρ ρ' : List Addr} {G : Hp} (h : ρ <+: ρ') : ∀ {vs : List V} {ds : List W}, DwAll K ρ G vs ds → DwAll K ρ' G vs ds
  | _, _, .nil => .nil
  | _, _, .cons a b => .cons (Dw.ext h a) (DwAll.ext h b)
end
theorem KvR.ext {K : PySem.W.Frag} {ρ ρ' : List Addr} {G G' : Hp} {κ : Type} (h : ρ <+: ρ') (g : Same G G') : ∀ {l : List (κ × W)} {m : List (κ × V)}, KvR K ρ G l m → KvR K ρ' G' l m
  | _, _, .nil => .nil
  | _, _, .cons a b => .cons ((a.ext h).same g) (KvR.ext h g b)
theorem KvR.lookup {K : PySem.W.Frag} {ρ : List Addr} {G : Hp} {κ : Type} [BEq κ] {k : κ} : ∀ {l : List (κ × W)} {m : List (κ × V)} {d : W}, KvR K ρ G l m → l.lookup k = some d → ∃ v, m.lookup k = some v ∧ Dw K ρ G v d
  | _, _, _, .cons (k := j) (l := l) (m := m) a b, e => by
    simp only [List.lookup] at e ⊢
    split at e
    · cases e; exact ⟨_, rfl, a⟩
    · exact KvR.lookup b e
theorem KvR.lookup_none {K : PySem.W.Frag} {ρ : List Addr} {G : Hp} {κ : Type} [BEq κ] {k : κ} : ∀ {l : List (κ × W)} {m : List (κ × V)}, KvR K ρ G l m → l.lookup k = none → m.lookup k = none
  | _, _, .nil, _ => rfl
  | _, _, .cons (k := j) (l := l) (m := m) a b, e => by
    simp only [List.lookup] at e ⊢
    split at e
    · cases e
    · exact KvR.lookup_none b e
theorem KvR.length {K : PySem.W.Frag} {ρ : List Addr} {G : Hp} {κ : Type} : ∀ {l : List (κ × W)} {m : List (κ × V)}, KvR K ρ G l m → l.length = m.length
  | _, _, .nil => rfl
  | _, _, .cons a b => by rw [List.length_cons, List.length_cons, KvR.length b]
def putW (f : Str) (v : W) : List (Str × W) → List (Str × W)
  | [] => [(f, v)]
  | (g, x) :: r => if g = f then (g, v) :: r else (g, x) :: putW f v r
theorem KvR.putF {K : PySem.W.Frag} {ρ : List Addr} {G : Hp} {f : Str} {v : V} {d : W} (h : Dw K ρ G v d) : ∀ {l : List (Str × W)} {m : List (Str × V)}, KvR K ρ G l m → KvR K ρ G (putW f d l) (putF f v m)
  | _, _, .nil => .cons h .nil
  | _, _, .cons (k := j) a b => by
    unfold putW L2.putF
    split
    · exact .cons h b
    · exact .cons a (KvR.putF h b)
structure SR (K : PySem.W.Frag) (ρ : List Addr) (cl : Str → Addr) (G H : Hp) (S : Sto) : Prop where
  len : ρ.length = S.length
  nd : ρ.Nodup
  ob : ∀ (n : Nat) o, S[n]? = some o → ∃ a, ρ[n]? = some a ∧ G a = none ∧ ObR K ρ cl G H a o
structure GS (ρ : List Addr) (G H : Hp) (ρ' : List Addr) (G' H' : Hp) : Prop where
  r : ρ <+: ρ'
  g : Same G G'
  s : Same G' H'
  h : ∀ b o, b ∉ ρ → H b = some o → H' b = some o
  k : ∀ b, H b ≠ none → H' b ≠ none
  n : ∀ b, H b ≠ none → G b = none → G' b = none
  f : ∀ a, a ∈ ρ' → a ∉ ρ → H a = none
theorem GS.refl {ρ : List Addr} {G H : Hp} (s : Same G H) : GS ρ G H ρ G H := ⟨List.prefix_refl _, .refl _, s, fun _ _ _ e => e, fun _ e => e, fun _ _ e => e, fun a h1 h2 => absurd h1 h2⟩
theorem GS.of {ρ : List Addr} {G H G' H' : Hp} (g : Gr G H G' H') : GS ρ G H ρ G' H' := ⟨List.prefix_refl _, g.g, g.s, fun b o _ e => g.h b o e, fun b e => same_ne g.h e, g.n, fun a h1 h2 => absurd h1 h2⟩
theorem GS.trans {ρ ρ1 ρ2 : List Addr} {G H G1 H1 G2 H2 : Hp} (a : GS ρ G H ρ1 G1 H1) (b : GS ρ1 G1 H1 ρ2 G2 H2) : GS ρ G H ρ2 G2 H2 :=
  ⟨a.r.trans b.r, a.g.trans b.g, b.s, fun c o hc e => b.h c o (fun h1 => by rw [a.f c h1 hc] at e; cases e) (a.h c o hc e), fun c e => b.k c (a.k c e), fun c h1 h2 => b.n c (a.k c h1) (a.n c h1 h2), fun c h1 h2 => by
    by_cases h3 : c ∈ ρ1
    · exact a.f c h3 h2
    · have := b.f c h1 h3
      cases e : H c with
      | none => rfl
      | some o => exact absurd this (a.k c (by rw [e]; simp))⟩
section
variable {K : PySem.W.Frag} {cl : Str → Addr}
theorem ObR.move {ρ ρ' : List Addr} {G H G' H' : Hp} {a : Addr} (hr : ρ <+: ρ') (g : Same G G') (ha : H' a = H a) (hd : ∀ dx, G dx = none → H dx = some (.own a) → H' dx = some (.own a) ∧ G' dx = none) : ∀ {o : Ob}, ObR K ρ cl G H a o → ObR K ρ' cl G' H' a o
  | .lst ds, ⟨vs, h1, h2⟩ => ⟨vs, by rw [ha]; exact h1, (h2.ext hr).same g⟩
  | .dK kvs, ⟨ws, h1, h2⟩ => ⟨ws, by rw [ha]; exact h1, h2.ext hr g⟩
  | .dT kvs, ⟨ws, h1, h2⟩ => ⟨ws, by rw [ha]; exact h1, h2.ext hr g⟩
  | .ins c fs, ⟨dx, ws, h1, h2, h3, h4⟩ => ⟨dx, ws, by rw [ha]; exact h1, (hd dx h2 h3).2, (hd dx h2 h3).1, h4.ext hr g⟩
theorem ObR.some {ρ : List Addr} {G H : Hp} {a : Addr} : ∀ {o : Ob}, ObR K ρ cl G H a o → ∃ x, H a = some x ∧ ∀ b, x ≠ .own b
  | .lst ds, ⟨vs, h1, h2⟩ => ⟨_, h1, fun b e => by cases e⟩
  | .dK kvs, ⟨ws, h1, h2⟩ => ⟨_, h1, fun b e => by cases e⟩
  | .dT kvs, ⟨ws, h1, h2⟩ => ⟨_, h1, fun b e => by cases e⟩
  | .ins c fs, ⟨dx, ws, h1, h2, h3, h4⟩ => ⟨_, h1, fun b e => by cases e⟩
theorem SR.grow {ρ : List Addr} {G H G' H' : Hp} {S : Sto} (s : SR K ρ cl G H S) (g : Gr G H G' H') : SR K ρ cl G' H' S :=
  ⟨s.len, s.nd, fun n o e => by
    obtain ⟨a, h1, h2, h3⟩ := s.ob n o e
    obtain ⟨x, hx, _⟩ := h3.some
    exact ⟨a, h1, g.n a (by rw [hx]; simp) h2, h3.move (List.prefix_refl _) g.g (by rw [hx]; exact g.h _ _ hx) fun dx e1 e2 => ⟨g.h _ _ e2, g.n dx (by rw [e2]; simp) e1⟩⟩⟩
theorem SR.addr {ρ : List Addr} {G H : Hp} {S : Sto} (s : SR K ρ cl G H S) {n : Nat} {o : Ob} {a : Addr} (e : S[n]? = some o) (ea : ρ[n]? = some a) : G a = none ∧ ObR K ρ cl G H a o := by
  obtain ⟨b, h1, h2, h3⟩ := s.ob n o e
  rw [ea] at h1
  cases h1
  exact ⟨h2, h3⟩
theorem nodup_inj {l : List Addr} (h : l.Nodup) {i j : Nat} {a : Addr} (h1 : l[i]? = some a) (h2 : l[j]? = some a) : i = j := by
  obtain ⟨hi, e1⟩ := List.getElem?_eq_some_iff.mp h1
  obtain ⟨hj, e2⟩ := List.getElem?_eq_some_iff.mp h2
  have hp := List.pairwise_iff_getElem.mp h
  rcases Nat.lt_trichotomy i j with c | c | c
  · exact absurd (e1.trans e2.symm) (hp i j hi hj c)
  · exact c
  · exact absurd (e2.trans e1.symm) (hp j i hj hi c)
theorem SR.put {ρ : List Addr} {G H : Hp} {S : Sto} {n : Nat} {o o' : Ob} {a : Addr} {x : HO} (s : SR K ρ cl G H S) (sg : Same G H) (e : S[n]? = some o) (ea : ρ[n]? = some a) (hx : ∀ b, x ≠ .own b) (ho : ObR K ρ cl G (upd H a x) a o') : SR K ρ cl G (upd H a x) (S.set n o') ∧ GS ρ G H ρ G (upd H a x) := by
  obtain ⟨ga, ob⟩ := s.addr e ea
  obtain ⟨y, hy, hno⟩ := ob.some
  have am : a ∈ ρ := List.mem_of_getElem? ea
  refine ⟨⟨by rw [List.length_set]; exact s.len, s.nd, fun m q em => ?_⟩, ⟨List.prefix_refl _, .refl _, fun b u eb => ?_, fun b u hb eb => ?_, fun b hb => ?_, fun _ _ e => e, fun b h1 h2 => absurd h1 h2⟩⟩
  · rcases getSet em with ⟨rfl, rfl, _⟩ | ⟨ne, em⟩
    · exact ⟨a, ea, ga, ho⟩
    · obtain ⟨b, h1, h2, h3⟩ := s.ob m q em
      have hab : b ≠ a := fun z => ne (nodup_inj s.nd ea (z ▸ h1))
      exact ⟨b, h1, h2, h3.move (List.prefix_refl _) (.refl _) (upd_ne hab) fun dx e1 e2 => ⟨by
        rw [upd_ne (fun z => by rw [z, hy] at e2; cases e2; exact hno _ rfl)]
        exact e2, e1⟩⟩
  · rw [upd_ne (fun z => by rw [z, ga] at eb; cases eb)]
    exact sg _ _ eb
  · rw [upd_ne (fun z => hb (by rw [z]; exact am))]
    exact eb
  · by_cases z : b = a
    · subst z
      rw [upd_same]
      simp
    · rw [upd_ne z]
      exact hb
theorem SR.push {ρ : List Addr} {G H H' : Hp} {S : Sto} {p : Addr} {o : Ob} {x : HO} (s : SR K ρ cl G H S) (sg : Same G H) (n : Nw H H' p x) (ho : ∀ ρ', ρ <+: ρ' → ObR K ρ' cl G H' p o) : SR K (ρ ++ [p]) cl G H' (S ++ [o]) ∧ GS ρ G H (ρ ++ [p]) G H' := by
  have pm : p ∉ ρ := fun hp => by
    obtain ⟨i, hi, e⟩ := List.mem_iff_getElem.mp hp
    obtain ⟨b, h1, h2, h3⟩ := s.ob i (S[i]'(by rw [← s.len]; exact hi)) (List.getElem?_eq_getElem _)
    rw [List.getElem?_eq_getElem hi, e] at h1
    cases h1
    obtain ⟨y, hy, _⟩ := h3.some
    rw [n.2.1] at hy
    cases hy
  have pre : ρ <+: ρ ++ [p] := ⟨[p], rfl⟩
  refine ⟨⟨by simp [s.len], List.nodup_append.mpr ⟨s.nd, by simp, fun a ha b hb => by
      rw [List.mem_singleton.mp hb]
      exact fun z => pm (z ▸ ha)⟩, fun m q em => ?_⟩, ⟨pre, .refl _, sg.trans n.1, fun b u _ e => n.1 b u e, fun b e => same_ne n.1 e, fun _ _ e => e, fun a h1 h2 => ?_⟩⟩
  · rcases Nat.lt_or_ge m S.length with hm | hm
    · rw [List.getElem?_append_left hm] at em
      obtain ⟨b, h1, h2, h3⟩ := s.ob m q em
      obtain ⟨y, hy, _⟩ := h3.some
      exact ⟨b, by rw [List.getElem?_append_left (by rw [s.len]; exact hm)]; exact h1, h2, h3.move pre (.refl _) (by rw [hy]; exact n.1 _ _ hy) fun dx e1 e2 => ⟨n.1 _ _ e2, e1⟩⟩
    · rw [List.getElem?_append_right hm] at em
      have hz : m - S.length = 0 := by
        have := (List.getElem?_eq_some_iff.mp em).1
        simp at this
        omega
      rw [hz] at em
      cases em
      refine ⟨p, ?_, same_no sg n.2.1, ho _ pre⟩
      rw [List.getElem?_append_right (by rw [s.len]; exact hm), s.len, hz]
      rfl
  · rcases List.mem_append.mp h1 with h | h
    · exact absurd h h2
    · rw [List.mem_singleton.mp h]
      exact n.2.1
inductive Rs (α : Type) where
  | ok (a : α)
  | xc (c : Str)
abbrev SM (α : Type) := Option (Rs α × Sto)
def sBind {α β : Type} (m : SM α) (k : α → Sto → SM β) : SM β := match m with
  | some (.ok a, S) => k a S
  | some (.xc c, S) => some (.xc c, S)
  | none => none
theorem sBind_some {α β : Type} {m : SM α} {k : α → Sto → SM β} {r : Rs β} {S' : Sto} (h : sBind m k = some (r, S')) : (∃ c, m = some (.xc c, S') ∧ r = .xc c) ∨ ∃ a S1, m = some (.ok a, S1) ∧ k a S1 = some (r, S') := by
  unfold sBind at h
  split at h
  · exact .inr ⟨_, _, rfl, h⟩
  · cases h
    exact .inl ⟨_, rfl, rfl⟩
  · cases h
structure RS (K : PySem.W.Frag) (cl : Str → Addr) (ρ : List Addr) (G H : Hp) (δ : DS) (σ : St) (S : Sto) : Prop where
  rl : Rl K ρ G H δ σ
  st : SR K ρ cl G H S
  ap : ∀ (i : Nat) ds p, δ[i]? = some (.own ds) → σ[i]? = some (some (.ref p)) → p ∉ ρ
theorem SlOk.move {ρ ρ' : List Addr} {G H G' H' : Hp} (g : GS ρ G H ρ' G' H') : ∀ {s : Sl} {o : Option V}, (∀ ds p, s = .own ds → o = some (.ref p) → p ∉ ρ) → SlOk K ρ G H s o → SlOk K ρ' G' H' s o
  | .no, _, _, _ => trivial
  | .val d, o, _, ⟨v, e, h⟩ => ⟨v, e, (h.ext g.r).same g.g⟩
  | .own ds, o, ha, ⟨p, vs, e, h1, h2, h3⟩ => ⟨p, vs, e, g.n p (by rw [h2]; simp) h1, g.h _ _ (ha ds p rfl e) h2, (h3.ext g.r).same g.g⟩
theorem RS.grow {ρ ρ' : List Addr} {G H G' H' : Hp} {δ : DS} {σ : St} {S S' : Sto} (R : RS K cl ρ G H δ σ S) (g : GS ρ G H ρ' G' H') (s : SR K ρ' cl G' H' S') : RS K cl ρ' G' H' δ σ S' :=
  ⟨⟨g.s, R.rl.len, fun i sl e => by
    obtain ⟨o, h1, h2⟩ := R.rl.sl i sl e
    exact ⟨o, h1, h2.move g fun ds p e1 e2 => R.ap i ds p (e1 ▸ e) (e2 ▸ h1)⟩, R.rl.apart⟩, s, fun i ds p h1 h2 hp => by
    obtain ⟨o, k1, p', vs, rfl, k3, k4, k5⟩ := R.rl.sl i _ h1
    rw [h2] at k1
    cases k1
    rw [g.f p hp (R.ap i ds p h1 h2)] at k4
    cases k4⟩
def SE (K : PySem.W.Frag) (cl : Str → Addr) (E : XK) (t : TE) (f : DS → Sto → SM W) : Prop :=
  ∀ (ρ : List Addr) (G : Hp) (σ : St) (H : Hp) (δ : DS) (S : Sto) (r : Rs W) (S' : Sto) (Q : VK), RS K cl ρ G H δ σ S → f δ S = some (r, S') →
    (∀ d, r = .ok d → ∀ v ρ' G' H', GS ρ G H ρ' G' H' → SR K ρ' cl G' H' S' → Dw K ρ' G' v d → Q v H') →
    (∀ c, r = .xc c → ∀ ρ' G' H', GS ρ G H ρ' G' H' → SR K ρ' cl G' H' S' → E (.ref (cl c)) none H') → t σ H Q
def SA (K : PySem.W.Frag) (cl : Str → Addr) (E : XK) (t : TA) (f : DS → Sto → SM (List W)) : Prop :=
  ∀ (ρ : List Addr) (G : Hp) (σ : St) (H : Hp) (δ : DS) (S : Sto) (r : Rs (List W)) (S' : Sto) (Q : List V → Hp → Prop), RS K cl ρ G H δ σ S → f δ S = some (r, S') →
    (∀ ds, r = .ok ds → ∀ vs ρ' G' H', GS ρ G H ρ' G' H' → SR K ρ' cl G' H' S' → DwAll K ρ' G' vs ds → Q vs H') →
    (∀ c, r = .xc c → ∀ ρ' G' H', GS ρ G H ρ' G' H' → SR K ρ' cl G' H' S' → E (.ref (cl c)) none H') → t σ H Q
def ST (K : PySem.W.Frag) (cl : Str → Addr) (E : XK) (t : TT) (f : DS → Sto → SM Bool) : Prop :=
  ∀ (ρ : List Addr) (G : Hp) (σ : St) (H : Hp) (δ : DS) (S : Sto) (r : Rs Bool) (S' : Sto) (Q : Bool → Hp → Prop), RS K cl ρ G H δ σ S → f δ S = some (r, S') →
    (∀ b, r = .ok b → ∀ ρ' G' H', GS ρ G H ρ' G' H' → SR K ρ' cl G' H' S' → Q b H') →
    (∀ c, r = .xc c → ∀ ρ' G' H', GS ρ G H ρ' G' H' → SR K ρ' cl G' H' S' → E (.ref (cl c)) none H') → t σ H Q
variable {E : XK}
def sPure {α : Type} (f : DS → Option α) : DS → Sto → SM α := fun δ S => (f δ).map fun d => (.ok d, S)
theorem sPure_some {α : Type} {f : DS → Option α} {δ : DS} {S S' : Sto} {r : Rs α} (h : sPure f δ S = some (r, S')) : ∃ d, f δ = some d ∧ r = .ok d ∧ S' = S := by
  obtain ⟨d, e1, e2⟩ := Option.map_eq_some_iff.mp h
  cases e2
  exact ⟨d, e1, rfl, rfl⟩
theorem se_pure {t : TE} {f : DS → Option W} (h : ∀ ρ, DE K ρ t f) : SE K cl E t (sPure f) := fun ρ G σ H δ S r S' Q R e q _ => by
  obtain ⟨d, e1, rfl, rfl⟩ := sPure_some e
  exact h ρ G σ H δ d Q R.rl e1 fun v G' H' g dv => q d rfl v ρ G' H' (.of g) (R.st.grow g) dv
theorem sa_pure {t : TA} {f : DS → Option (List W)} (h : ∀ ρ, DA K ρ t f) : SA K cl E t (sPure f) := fun ρ G σ H δ S r S' Q R e q _ => by
  obtain ⟨d, e1, rfl, rfl⟩ := sPure_some e
  exact h ρ G σ H δ d Q R.rl e1 fun v G' H' g dv => q d rfl v ρ G' H' (.of g) (R.st.grow g) dv
theorem st_pure {t : TT} {f : DS → Option Bool} (h : ∀ ρ, DT K ρ t f) : ST K cl E t (sPure f) := fun ρ G σ H δ S r S' Q R e q _ => by
  obtain ⟨d, e1, rfl, rfl⟩ := sPure_some e
  exact h ρ G σ H δ d Q R.rl e1 fun G' H' g => q d rfl ρ G' H' (.of g) (R.st.grow g)
def sNil : DS → Sto → SM (List W) := fun _ S => some (.ok [], S)
def sCons (f : DS → Sto → SM W) (g : DS → Sto → SM (List W)) : DS → Sto → SM (List W) := fun δ S => sBind (f δ S) fun d S1 => sBind (g δ S1) fun ds S2 => some (.ok (d :: ds), S2)
theorem sa_nil : SA K cl E tNil sNil := fun ρ G σ H δ S r S' Q R e q _ => by
  cases e
  exact q [] rfl [] ρ G H (.refl R.rl.sub) R.st .nil
theorem sa_cons {t : TE} {u : TA} {f : DS → Sto → SM W} {g : DS → Sto → SM (List W)} (h1 : SE K cl E t f) (h2 : SA K cl E u g) : SA K cl E (tCons t u) (sCons f g) := fun ρ G σ H δ S r S' Q R e q qx => by
  rcases sBind_some e with ⟨c, em, rfl⟩ | ⟨d, S1, em, e⟩
  · exact h1 ρ G σ H δ S _ _ _ R em (fun d hd => by cases hd) (fun c' hc => by cases hc; exact qx c rfl)
  · refine h1 ρ G σ H δ S _ _ _ R em (fun d' hd => ?_) (fun c' hc => by cases hc)
    cases hd
    intro v ρ1 G1 H1 g1 s1 dv
    have R1 := R.grow g1 s1
    rcases sBind_some e with ⟨c, em, rfl⟩ | ⟨ds, S2, em, e⟩
    · exact h2 ρ1 G1 σ H1 δ S1 _ _ _ R1 em (fun d hd => by cases hd) (fun c' hc => by cases hc; exact fun ρ2 G2 H2 g2 s2 => qx c rfl ρ2 G2 H2 (g1.trans g2) s2)
    · refine h2 ρ1 G1 σ H1 δ S1 _ _ _ R1 em (fun d' hd => ?_) (fun c' hc => by cases hc)
      cases hd
      cases e
      intro vs ρ2 G2 H2 g2 s2 da
      exact q _ rfl _ ρ2 G2 H2 (g1.trans g2) s2 (.cons ((dv.ext g2.r).same g2.g) da)
end
end L2
set_option Elab.async false
set_option linter.all false
set_option maxRecDepth 100000
namespace L2
open PySem PySem.Spec PyProof.Rows
section
variable {K : PySem.W.Frag} {cl : Str → Addr} {E : XK}
theorem se_one {α : Type} {t : TE} {f : DS → Sto → SM W} (h : SE K cl E t f) {ρ : List Addr} {G : Hp} {σ : St} {H : Hp} {δ : DS} {S : Sto} {r : Rs α} {S' : Sto} {k : W → Sto → SM α} {P : V → Hp → Prop} (R : RS K cl ρ G H δ σ S) (e : sBind (f δ S) k = some (r, S'))
    (q : ∀ d S1, k d S1 = some (r, S') → ∀ v ρ' G' H', GS ρ G H ρ' G' H' → SR K ρ' cl G' H' S1 → Dw K ρ' G' v d → P v H')
    (qx : ∀ c, r = .xc c → ∀ ρ' G' H', GS ρ G H ρ' G' H' → SR K ρ' cl G' H' S' → E (.ref (cl c)) none H') : t σ H P := by
  rcases sBind_some e with ⟨c, em, rfl⟩ | ⟨d, S1, em, e⟩
  · exact h ρ G σ H δ S _ _ _ R em (fun d hd => by cases hd) (fun c' hc => by cases hc; exact qx c rfl)
  · exact h ρ G σ H δ S _ _ _ R em (fun d' hd => by cases hd; exact q _ _ e) (fun c' hc => by cases hc)
theorem sa_one {α : Type} {t : TA} {f : DS → Sto → SM (List W)} (h : SA K cl E t f) {ρ : List Addr} {G : Hp} {σ : St} {H : Hp} {δ : DS} {S : Sto} {r : Rs α} {S' : Sto} {k : List W → Sto → SM α} {P : List V → Hp → Prop} (R : RS K cl ρ G H δ σ S) (e : sBind (f δ S) k = some (r, S'))
    (q : ∀ d S1, k d S1 = some (r, S') → ∀ v ρ' G' H', GS ρ G H ρ' G' H' → SR K ρ' cl G' H' S1 → DwAll K ρ' G' v d → P v H')
    (qx : ∀ c, r = .xc c → ∀ ρ' G' H', GS ρ G H ρ' G' H' → SR K ρ' cl G' H' S' → E (.ref (cl c)) none H') : t σ H P := by
  rcases sBind_some e with ⟨c, em, rfl⟩ | ⟨d, S1, em, e⟩
  · exact h ρ G σ H δ S _ _ _ R em (fun d hd => by cases hd) (fun c' hc => by cases hc; exact qx c rfl)
  · exact h ρ G σ H δ S _ _ _ R em (fun d' hd => by cases hd; exact q _ _ e) (fun c' hc => by cases hc)
theorem st_one {α : Type} {t : TT} {f : DS → Sto → SM Bool} (h : ST K cl E t f) {ρ : List Addr} {G : Hp} {σ : St} {H : Hp} {δ : DS} {S : Sto} {r : Rs α} {S' : Sto} {k : Bool → Sto → SM α} {P : Bool → Hp → Prop} (R : RS K cl ρ G H δ σ S) (e : sBind (f δ S) k = some (r, S'))
    (q : ∀ d S1, k d S1 = some (r, S') → ∀ ρ' G' H', GS ρ G H ρ' G' H' → SR K ρ' cl G' H' S1 → P d H')
    (qx : ∀ c, r = .xc c → ∀ ρ' G' H', GS ρ G H ρ' G' H' → SR K ρ' cl G' H' S' → E (.ref (cl c)) none H') : t σ H P := by
  rcases sBind_some e with ⟨c, em, rfl⟩ | ⟨d, S1, em, e⟩
  · exact h ρ G σ H δ S _ _ _ R em (fun d hd => by cases hd) (fun c' hc => by cases hc; exact qx c rfl)
  · exact h ρ G σ H δ S _ _ _ R em (fun d' hd => by cases hd; exact q _ _ e) (fun c' hc => by cases hc)
theorem se_two {α : Type} {ta tb : TE} {fa fb : DS → Sto → SM W} (ha : SE K cl E ta fa) (hb : SE K cl E tb fb) {ρ : List Addr} {G : Hp} {σ : St} {H : Hp} {δ : DS} {S : Sto} {r : Rs α} {S' : Sto} {k : W → W → Sto → SM α} {P : V → V → Hp → Prop} (R : RS K cl ρ G H δ σ S)
    (e : sBind (fa δ S) (fun x S1 => sBind (fb δ S1) fun y S2 => k x y S2) = some (r, S'))
    (q : ∀ x y S2, k x y S2 = some (r, S') → ∀ v u ρ' G' H', GS ρ G H ρ' G' H' → SR K ρ' cl G' H' S2 → Dw K ρ' G' v x → Dw K ρ' G' u y → P v u H')
    (qx : ∀ c, r = .xc c → ∀ ρ' G' H', GS ρ G H ρ' G' H' → SR K ρ' cl G' H' S' → E (.ref (cl c)) none H') : ta σ H fun v H1 => tb σ H1 fun u H2 => P v u H2 :=
  se_one ha R e (fun x S1 e1 v ρ1 G1 H1 g1 s1 dv => se_one hb (R.grow g1 s1) e1 (fun y S2 e2 u ρ2 G2 H2 g2 s2 du => q x y S2 e2 v u ρ2 G2 H2 (g1.trans g2) s2 ((dv.ext g2.r).same g2.g) du) fun c hc ρ2 G2 H2 g2 s2 => qx c hc ρ2 G2 H2 (g1.trans g2) s2) qx
def sOk {α : Type} (x : Option α) (S : Sto) : SM α := x.map fun d => (.ok d, S)
theorem sOk_some {α : Type} {x : Option α} {S S' : Sto} {r : Rs α} (h : sOk x S = some (r, S')) : ∃ d, x = some d ∧ r = .ok d ∧ S' = S := by
  obtain ⟨d, e1, e2⟩ := Option.map_eq_some_iff.mp h
  cases e2
  exact ⟨d, e1, rfl, rfl⟩
def sOp (g : W → W → Option W) (fa fb : DS → Sto → SM W) : DS → Sto → SM W := fun δ S => sBind (fa δ S) fun x S1 => sBind (fb δ S1) fun y S2 => sOk (g x y) S2
theorem se_op {r : R2} {ta tb : TE} {fa fb : DS → Sto → SM W} {g : W → W → Option W} (hr : ∀ ρ, DR K ρ r g) (ha : SE K cl E ta fa) (hb : SE K cl E tb fb) : SE K cl E (tOp r ta tb) (sOp g fa fb) := fun ρ G σ H δ S r' S' Q R e q qx =>
  se_two ha hb R e (fun x y S2 e2 v u ρ2 G2 H2 g2 s2 dv du => by
    obtain ⟨c, e3, rfl, rfl⟩ := sOk_some e2
    exact hr ρ2 G2 H2 v u x y c Q g2.s (.inl dv) du e3 fun w G3 H3 g3 dw => q c rfl w ρ2 G3 H3 (g2.trans (.of g3)) (s2.grow g3) dw) qx
def sCmp (g : W → W → Option Bool) (fa fb : DS → Sto → SM W) : DS → Sto → SM Bool := fun δ S => sBind (fa δ S) fun x S1 => sBind (fb δ S1) fun y S2 => sOk (g x y) S2
def sB (f : DS → Sto → SM Bool) : DS → Sto → SM W := fun δ S => sBind (f δ S) fun b S1 => some (.ok (.bool b), S1)
theorem st_cmp {r : R2} {ta tb : TE} {fa fb : DS → Sto → SM W} {g : W → W → Option Bool} (hr : ∀ ρ, DB K ρ r g) (ha : SE K cl E ta fa) (hb : SE K cl E tb fb) : ST K cl E (tTest (tOp r ta tb)) (sCmp g fa fb) := fun ρ G σ H δ S r' S' Q R e q qx =>
  se_two ha hb R e (fun x y S2 e2 v u ρ2 G2 H2 g2 s2 dv du => by
    obtain ⟨c, e3, rfl, rfl⟩ := sOk_some e2
    exact hr ρ2 H2 v u x y c _ (dv.same g2.s) (du.same g2.s) e3 ⟨c, rfl, q c rfl ρ2 G2 H2 g2 s2⟩) qx
def sAnd (f g : DS → Sto → SM Bool) : DS → Sto → SM Bool := fun δ S => sBind (f δ S) fun b S1 => if b = true then g δ S1 else some (.ok false, S1)
def sOr (f g : DS → Sto → SM Bool) : DS → Sto → SM Bool := fun δ S => sBind (f δ S) fun b S1 => if b = true then some (.ok true, S1) else g δ S1
def sNot (f : DS → Sto → SM Bool) : DS → Sto → SM Bool := fun δ S => sBind (f δ S) fun b S1 => some (.ok (!b), S1)
theorem st_and {t u : TT} {f g : DS → Sto → SM Bool} (h1 : ST K cl E t f) (h2 : ST K cl E u g) : ST K cl E (tAnd t u) (sAnd f g) := fun ρ G σ H δ S r S' Q R e q qx =>
  st_one h1 R e (fun b S1 e1 ρ1 G1 H1 g1 s1 => by
    cases b with
    | true => exact h2 ρ1 G1 σ H1 δ S1 r S' Q (R.grow g1 s1) e1 (fun b hb ρ2 G2 H2 g2 s2 => q b hb ρ2 G2 H2 (g1.trans g2) s2) fun c hc ρ2 G2 H2 g2 s2 => qx c hc ρ2 G2 H2 (g1.trans g2) s2
    | false => cases e1; exact q false rfl ρ1 G1 H1 g1 s1) qx
theorem st_or {t u : TT} {f g : DS → Sto → SM Bool} (h1 : ST K cl E t f) (h2 : ST K cl E u g) : ST K cl E (tOr t u) (sOr f g) := fun ρ G σ H δ S r S' Q R e q qx =>
  st_one h1 R e (fun b S1 e1 ρ1 G1 H1 g1 s1 => by
    cases b with
    | false => exact h2 ρ1 G1 σ H1 δ S1 r S' Q (R.grow g1 s1) e1 (fun b hb ρ2 G2 H2 g2 s2 => q b hb ρ2 G2 H2 (g1.trans g2) s2) fun c hc ρ2 G2 H2 g2 s2 => qx c hc ρ2 G2 H2 (g1.trans g2) s2
    | true => cases e1; exact q true rfl ρ1 G1 H1 g1 s1) qx
theorem st_not {t : TT} {f : DS → Sto → SM Bool} (h : ST K cl E t f) : ST K cl E (tNot t) (sNot f) := fun ρ G σ H δ S r S' Q R e q qx =>
  st_one h R e (fun b S1 e1 ρ1 G1 H1 g1 s1 => by cases e1; exact q _ rfl ρ1 G1 H1 g1 s1) qx
def sTup (f : DS → Sto → SM (List W)) : DS → Sto → SM W := fun δ S => sBind (f δ S) fun ds S1 => if ds.length ≤ sizeLine then some (.ok (.tuple ds), S1) else none
def sLst (f : DS → Sto → SM (List W)) : DS → Sto → SM W := fun δ S => sBind (f δ S) fun ds S1 => if ds.length ≤ sizeLine then some (.ok (.list ds), S1) else none
theorem se_lst {t : TA} {f : DS → Sto → SM (List W)} (h : SA K cl E t f) : SE K cl E (tLstN t) (sLst f) := fun ρ G σ H δ S r S' Q R e q qx =>
  sa_one h R e (fun ds S1 e1 vs ρ1 G1 H1 g1 s1 da => by
    split at e1
    · rename_i hz
      cases e1
      refine ⟨by rw [da.length]; exact hz, fun p H' n => ?_⟩
      have g2 := Gr.nw g1.s n
      exact q _ rfl _ ρ1 _ H' (g1.trans (.of g2)) (s1.grow g2) (.lst (SqL.of upd_same) (da.same g2.g))
    · cases e1) qx
def sLstS (f : DS → Sto → SM (List W)) : DS → Sto → SM W := fun δ S => sBind (f δ S) fun ds S1 => if ds.length ≤ sizeLine then some (.ok (.ref S1.length), S1 ++ [.lst ds]) else none
theorem se_lstS {t : TA} {f : DS → Sto → SM (List W)} (h : SA K cl E t f) : SE K cl E (tLstN t) (sLstS f) := fun ρ G σ H δ S r S' Q R e q qx =>
  sa_one h R e (fun ds S1 e1 vs ρ1 G1 H1 g1 s1 da => by
    split at e1
    · rename_i hz
      cases e1
      refine ⟨by rw [da.length]; exact hz, fun p H' n => ?_⟩
      obtain ⟨s2, g2⟩ := s1.push (o := .lst ds) g1.s n fun ρ' hr => ⟨vs, n.2.2, da.ext hr⟩
      exact q _ rfl _ _ _ H' (g1.trans g2) s2 (.ref (by rw [← s1.len]; simp))
    · cases e1) qx
def sDK : DS → Sto → SM W := fun _ S => some (.ok (.ref S.length), S ++ [.dK []])
theorem se_dK : SE K cl E tDNewK sDK := fun ρ G σ H δ S r S' Q R e q qx => by
  cases e
  intro p hp
  obtain ⟨s2, g2⟩ := R.st.push (o := .dK []) R.rl.sub (Nw.of (o := .dK []) hp) fun ρ' hr => ⟨[], upd_same, .nil⟩
  exact q _ rfl _ _ _ _ g2 s2 (.ref (by rw [← R.st.len]; simp))
def obAt (x : W) (S : Sto) : Option (Nat × Ob) := match x with
  | .ref n => (S[n]?).map fun o => (n, o)
  | _ => none
theorem obAt_some {x : W} {S : Sto} {n : Nat} {o : Ob} (h : obAt x S = some (n, o)) : x = .ref n ∧ S[n]? = some o := by
  unfold obAt at h
  split at h
  · obtain ⟨o', e1, e2⟩ := Option.map_eq_some_iff.mp h
    cases e2
    exact ⟨rfl, e1⟩
  · cases h
def insAt (c : Str) (x : W) (S : Sto) : Option (Nat × List (Str × W)) := match obAt x S with
  | some (n, .ins c' fs) => if c' = c then some (n, fs) else none
  | _ => none
theorem insAt_some {c : Str} {x : W} {S : Sto} {n : Nat} {fs : List (Str × W)} (h : insAt c x S = some (n, fs)) : x = .ref n ∧ S[n]? = some (.ins c fs) := by
  unfold insAt at h
  split at h
  · rename_i n' c' fs' e
    split at h
    · rename_i hc
      subst hc
      cases h
      exact obAt_some e
    · cases h
  · cases h
def sFldR (c f : Str) (fa : DS → Sto → SM W) : DS → Sto → SM W := fun δ S => sBind (fa δ S) fun x S1 => (insAt c x S1).bind fun p => sOk (p.2.lookup f) S1
theorem dw_ref {ρ : List Addr} {G : Hp} {v : V} {n : Nat} (h : Dw K ρ G v (.ref n)) : ∃ a, v = .ref a ∧ ρ[n]? = some a := by
  cases h with
  | ref e => exact ⟨_, rfl, e⟩
theorem se_fld {c f : Str} {ta : TE} {fa : DS → Sto → SM W} (hc : Cls K (cl c)) (hn : NoAttr K (cl c) f) (ha : SE K cl E ta fa) : SE K cl E (tFld K ta f) (sFldR c f fa) := fun ρ G σ H δ S r S' Q R e q qx =>
  se_one ha R e (fun x S1 e1 v ρ1 G1 H1 g1 s1 dv => by
    obtain ⟨⟨n, fs⟩, e2, e3⟩ := Option.bind_eq_some_iff.mp e1
    obtain ⟨d, e4, rfl, rfl⟩ := sOk_some e3
    obtain ⟨rfl, e5⟩ := insAt_some e2
    obtain ⟨a, rfl, ea⟩ := dw_ref dv
    obtain ⟨ga, dx, ws, k1, k2, k3, k4⟩ := s1.addr e5 ea
    obtain ⟨u, k5, k6⟩ := k4.lookup e4
    exact ⟨a, _, dx, ws, u, rfl, k1, hc, hn, k5, q d rfl u ρ1 G1 H1 g1 s1 k6⟩) qx
def spX (K : PySem.W.Frag) (cl : Str → Addr) (f : List W → Sto → SM W) : Sp := fun vs H Q E => ∃ ρ G S ds r S', Same G H ∧ SR K ρ cl G H S ∧ DwAll K ρ G vs ds ∧ f ds S = some (r, S') ∧
  (∀ d, r = .ok d → ∀ v ρ' G' H', GS ρ G H ρ' G' H' → SR K ρ' cl G' H' S' → Dw K ρ' G' v d → Q v H') ∧ (∀ c, r = .xc c → ∀ ρ' G' H', GS ρ G H ρ' G' H' → SR K ρ' cl G' H' S' → E (.ref (cl c)) none H')
def sCallD (f : List W → Option W) (fa : DS → Sto → SM (List W)) : DS → Sto → SM W := fun δ S => sBind (fa δ S) fun ds S1 => sOk (f ds) S1
def sp0 (K : PySem.W.Frag) (cl : Str → Addr) (f : List W → Sto → SM W) : Sp := fun vs H Q _ => ∃ ρ G S ds d S', Same G H ∧ SR K ρ cl G H S ∧ DwAll K ρ G vs ds ∧ f ds S = some (.ok d, S') ∧
  ∀ v ρ' G' H', GS ρ G H ρ' G' H' → SR K ρ' cl G' H' S' → Dw K ρ' G' v d → Q v H'
def noX (m : SM W) : SM W := match m with
  | some (.ok d, S) => some (.ok d, S)
  | _ => none
theorem noX_some {m : SM W} {r : Rs W} {S' : Sto} (h : noX m = some (r, S')) : ∃ d, r = .ok d ∧ m = some (.ok d, S') := by
  unfold noX at h
  split at h
  · cases h; exact ⟨_, rfl, rfl⟩
  · cases h
def sCall (f : List W → Sto → SM W) (fa : DS → Sto → SM (List W)) : DS → Sto → SM W := fun δ S => sBind (fa δ S) fun ds S1 => noX (f ds S1)
theorem se_call {f : List W → Sto → SM W} {t : TA} {fa : DS → Sto → SM (List W)} {E' : XK} (h : SA K cl E t fa) : SE K cl E (tCall (sp0 K cl f) [] E' t) (sCall f fa) := fun ρ G σ H δ S r S' Q R e q qx =>
  sa_one h R e (fun ds S1 e1 vs ρ1 G1 H1 g1 s1 da => by
    obtain ⟨d, rfl, e2⟩ := noX_some e1
    exact ⟨ρ1, G1, S1, ds, d, S', g1.s, s1, by rw [List.append_nil]; exact da, e2, fun v ρ2 G2 H2 g2 s2 dv => q d rfl v ρ2 G2 H2 (g1.trans g2) s2 dv⟩) qx
def sMeth (c m : Str) (f : List W → Sto → SM W) (fo : DS → Sto → SM W) (fa : DS → Sto → SM (List W)) : DS → Sto → SM W := fun δ S => sBind (fo δ S) fun x S1 => (insAt c x S1).bind fun p => if p.2.lookup m = none then sBind (fa δ S1) fun ds S2 => noX (f (x :: ds) S2) else none
theorem se_meth {c m : Str} {f : List W → Sto → SM W} {to : TE} {t : TA} {fo : DS → Sto → SM W} {fa : DS → Sto → SM (List W)} {E' : XK} (ho : SE K cl E to fo) (h : SA K cl E t fa) : SE K cl E (tMeth (cl c) m (sp0 K cl f) [] E' to t) (sMeth c m f fo fa) := fun ρ G σ H δ S r S' Q R e q qx =>
  se_one ho R e (fun x S1 e1 v ρ1 G1 H1 g1 s1 dv => by
    obtain ⟨⟨n, fs⟩, e2, e3⟩ := Option.bind_eq_some_iff.mp e1
    split at e3
    case isFalse => cases e3
    rename_i hm
    obtain ⟨rfl, e5⟩ := insAt_some e2
    obtain ⟨a, rfl, ea⟩ := dw_ref dv
    obtain ⟨ga, dx, ws, k1, k2, k3, k4⟩ := s1.addr e5 ea
    refine ⟨a, dx, ws, rfl, k1, k4.lookup_none hm, ?_⟩
    exact sa_one h (R.grow g1 s1) e3 (fun ds S2 e6 vs ρ2 G2 H2 g2 s2 da => by
      obtain ⟨d, rfl, e7⟩ := noX_some e6
      exact ⟨ρ2, G2, S2, .ref n :: ds, d, S', g2.s, s2, by rw [List.append_nil]; exact .cons ((dv.ext g2.r).same g2.g) da, e7, fun v ρ3 G3 H3 g3 s3 dv => q d rfl v ρ3 G3 H3 (g1.trans (g2.trans g3)) s3 dv⟩) fun c hc ρ2 G2 H2 g2 s2 => qx c hc ρ2 G2 H2 (g1.trans g2) s2) qx
def sMake (c : Str) (f : List W → Sto → SM W) (fa : DS → Sto → SM (List W)) : DS → Sto → SM W := fun δ S => sBind (fa δ S) fun ds S1 => sBind (noX (f (.ref S1.length :: ds) (S1 ++ [.ins c []]))) fun d S2 => match d with
  | .none => some (.ok (.ref S1.length), S2)
  | _ => none
theorem se_make {c : Str} {f : List W → Sto → SM W} {t : TA} {fa : DS → Sto → SM (List W)} {E' : XK} (h : SA K cl E t fa) : SE K cl E (tMake (cl c) (sp0 K cl f) [] E' t) (sMake c f fa) := fun ρ G σ H δ S r S' Q R e q qx =>
  sa_one h R e (fun ds S1 e1 vs ρ1 G1 H1 g1 s1 da => by
    intro x dx hx hdx hne
    have na : Nw H1 (upd H1 dx (.own x)) dx (.own x) := .of hdx
    have gA : Gr G1 H1 G1 (upd H1 dx (.own x)) := .nwO g1.s na
    have hx' : (upd H1 dx (.own x)) x = none := by rw [upd_ne (Ne.symm hne)]; exact hx
    have nb : Nw (upd H1 dx (.own x)) (upd (upd H1 dx (.own x)) x (.ins (cl c) dx [])) x (.ins (cl c) dx []) := .of hx'
    obtain ⟨s2, g2⟩ := (s1.grow gA).push (o := .ins c []) gA.s nb fun ρ' hr => ⟨dx, [], upd_same, same_no g1.s hdx, by rw [upd_ne hne]; exact upd_same, .nil⟩
    have g12 := (GS.of (ρ := ρ1) gA).trans g2
    have dx1 : DwAll K (ρ1 ++ [x]) G1 (.ref x :: vs) (.ref S1.length :: ds) := .cons (.ref (by rw [← s1.len]; simp)) (da.ext ⟨[x], rfl⟩)
    rcases sBind_some e1 with ⟨c', em, rfl⟩ | ⟨d, S2, em, e2⟩
    · obtain ⟨_, z, _⟩ := noX_some em
      cases z
    · obtain ⟨d', z, em⟩ := noX_some em
      cases z
      refine ⟨_, G1, _, _, _, _, g2.s, s2, by rw [List.append_nil]; exact dx1, em, fun v ρ3 G3 H3 g3 s3 dv => ?_⟩
      split at e2
      · cases e2
        exact ⟨dp_non dv, q _ rfl _ ρ3 G3 H3 (g1.trans (g12.trans g3)) s3 (.ref (by
          have h1 : (ρ1 ++ [x])[S1.length]? = some x := by rw [← s1.len]; simp
          obtain ⟨t', ht⟩ := g3.r
          rw [← ht, List.getElem?_append_left (List.getElem?_eq_some_iff.mp h1).1]
          exact h1))⟩
      · cases e2) qx
def SIp (K : PySem.W.Frag) (cl : Str → Addr) (E : XK) (wi : TI) (f : DS → Sto → SM (List W)) : Prop :=
  ∀ (ρ : List Addr) (G : Hp) (σ : St) (H : Hp) (δ : DS) (S : Sto) (r : Rs (List W)) (S' : Sto) (R' : It → Hp → Prop), RS K cl ρ G H δ σ S → f δ S = some (r, S') →
    (∀ ds, r = .ok ds → ∀ J ρ' G' H', GS ρ G H ρ' G' H' → SR K ρ' cl G' H' S' → ItF K ρ' J G' ds → R' J H') →
    (∀ c, r = .xc c → ∀ ρ' G' H', GS ρ G H ρ' G' H' → SR K ρ' cl G' H' S' → E (.ref (cl c)) none H') → wi σ H R'
theorem sip_pure {wi : TI} {f : DS → Option (List W)} (h : ∀ ρ, DI K ρ wi f) : SIp K cl E wi (sPure f) := fun ρ G σ H δ S r S' R' R e q qx => by
  obtain ⟨ds, e1, rfl, rfl⟩ := sPure_some e
  exact h ρ G σ H δ ds R' R.rl e1 fun J G' H' g it => q ds rfl J ρ G' H' (.of g) (R.st.grow g) it
def siSeq (f : DS → Sto → SM W) : DS → Sto → SM (List W) := fun δ S => sBind (f δ S) fun x S1 => sOk (seqD x) S1
theorem sip_seq {t : TE} {f : DS → Sto → SM W} (h : SE K cl E t f) : SIp K cl E (iSeq K t) (siSeq f) := fun ρ G σ H δ S r S' R' R e q qx =>
  se_one h R e (fun x S1 e1 v ρ1 G1 H1 g1 s1 dv => by
    obtain ⟨ds, e2, rfl, rfl⟩ := sOk_some e1
    cases dv with
    | lst sq da =>
      cases e2
      exact ⟨_, rfl, .inl ⟨⟨_, g1.s.seq sq⟩, q _ rfl _ ρ1 G1 H1 g1 s1 fun i G2 H2 a b => itl_at b ((a.trans b).seq sq) (da.same a)⟩⟩
    | tup sq da =>
      cases e2
      exact ⟨_, rfl, .inr ⟨⟨_, g1.s.tup sq⟩, q _ rfl _ ρ1 G1 H1 g1 s1 fun i G2 H2 a b => itt_at b ((a.trans b).tup sq) (da.same a)⟩⟩
    | _ => cases e2) qx
def siRng1 (f : DS → Sto → SM (List W)) : DS → Sto → SM (List W) := fun δ S => sBind (f δ S) fun ds S1 => sOk (rng1L ds) S1
theorem sip_rng1 {t : TA} {f : DS → Sto → SM (List W)} (h : SA K cl E t f) : SIp K cl E (iRng1 t) (siRng1 f) := fun ρ G σ H δ S r S' R' R e q qx =>
  sa_one h R e (fun es S1 e1 vs ρ1 G1 H1 g1 s1 da => by
    obtain ⟨ds, e2, rfl, rfl⟩ := sOk_some e1
    unfold rng1L at e2
    split at e2
    · obtain ⟨hc, rfl⟩ := rng1_ok e2
      obtain ⟨v, rfl, dv⟩ := dp_one da
      cases dp_int dv
      exact ⟨_, rfl, hc.1, hc.2, q _ rfl _ ρ1 G1 H1 g1 s1 itr_ok⟩
    · cases e2) qx
end
end L2
set_option Elab.async false
set_option linter.all false
set_option maxRecDepth 100000
namespace L2
open PySem PySem.Spec PyProof.Rows
inductive OutS where
  | nx (δ : DS)
  | bk (δ : DS)
  | ct (δ : DS)
  | rt (d : W)
  | xc (c : Str)
abbrev SO := Option (OutS × Sto)
section
variable {K : PySem.W.Frag} {cl : Str → Addr} {E : XK}
structure IvS (K : PySem.W.Frag) (cl : Str → Addr) (ρ0 : List Addr) (G0 H0 : Hp) (ρ : List Addr) (G H : Hp) (δ : DS) (σ : St) (S : Sto) : Prop where
  rs : RS K cl ρ G H δ σ S
  gs : GS ρ0 G0 H0 ρ G H
  ow : ∀ (i : Nat) p ds, δ[i]? = some (.own ds) → σ[i]? = some (some (.ref p)) → H0 p = none
def PstS (K : PySem.W.Frag) (cl : Str → Addr) (E : XK) (ρ0 : List Addr) (G0 H0 : Hp) (D : Ends) (S : Sto) : OutS → Prop
  | .nx δ => ∀ σ ρ G H, IvS K cl ρ0 G0 H0 ρ G H δ σ S → D.nx σ H
  | .bk δ => ∀ σ ρ G H, IvS K cl ρ0 G0 H0 ρ G H δ σ S → D.bk σ H
  | .ct δ => ∀ σ ρ G H, IvS K cl ρ0 G0 H0 ρ G H δ σ S → D.ct σ H
  | .rt d => ∀ v ρ G H, GS ρ0 G0 H0 ρ G H → SR K ρ cl G H S → Dw K ρ G v d → D.rt v H
  | .xc c => ∀ ρ G H, GS ρ0 G0 H0 ρ G H → SR K ρ cl G H S → E (.ref (cl c)) none H
def SSt (K : PySem.W.Frag) (cl : Str → Addr) (E : XK) (t : TS) (f : DS → Sto → SO) : Prop :=
  ∀ (ρ0 : List Addr) (G0 H0 : Hp) (ρ : List Addr) (G : Hp) (σ : St) (H : Hp) (δ : DS) (S : Sto) (o : OutS) (S' : Sto) (D : Ends), IvS K cl ρ0 G0 H0 ρ G H δ σ S → f δ S = some (o, S') → PstS K cl E ρ0 G0 H0 D S' o → t D σ H
theorem IvS.grow {ρ0 : List Addr} {G0 H0 : Hp} {ρ ρ' : List Addr} {G H G' H' : Hp} {δ : DS} {σ : St} {S S' : Sto} (I : IvS K cl ρ0 G0 H0 ρ G H δ σ S) (g : GS ρ G H ρ' G' H') (s : SR K ρ' cl G' H' S') : IvS K cl ρ0 G0 H0 ρ' G' H' δ σ S' := ⟨I.rs.grow g s, I.gs.trans g, I.ow⟩
theorem IvS.sub {ρ0 : List Addr} {G0 H0 : Hp} {ρ : List Addr} {G H : Hp} {δ δ' : DS} {σ σ' : St} {S : Sto} (I : IvS K cl ρ0 G0 H0 ρ G H δ σ S) (R : Rl K ρ G H δ' σ') (o : OwnSub δ' σ' δ σ) : IvS K cl ρ0 G0 H0 ρ G H δ' σ' S :=
  ⟨⟨R, I.rs.st, fun i ds p h1 h2 => by
    obtain ⟨es, h3, h4⟩ := o i ds p h1 h2
    exact I.rs.ap i es p h3 h4⟩, I.gs, fun i p ds h1 h2 => by
    obtain ⟨es, h3, h4⟩ := o i ds p h1 h2
    exact I.ow i p es h3 h4⟩
theorem IvS.base {ρ0 : List Addr} {G0 H0 : Hp} {ρ : List Addr} {G H : Hp} {δ : DS} {σ : St} {S : Sto} (I : IvS K cl ρ0 G0 H0 ρ G H δ σ S) : IvS K cl ρ G H0 ρ G H δ σ S :=
  ⟨I.rs, ⟨List.prefix_refl _, .refl _, I.gs.s, fun b o hb e => I.gs.h b o (fun h => hb (I.gs.r.subset h)) e, I.gs.k, fun _ _ e => e, fun a h1 h2 => absurd h1 h2⟩, I.ow⟩
theorem GS.rebase {ρ0 : List Addr} {G0 H0 : Hp} {ρ : List Addr} {G H : Hp} {ρ' : List Addr} {G' H' : Hp} (a : GS ρ0 G0 H0 ρ G H) (b : GS ρ G H0 ρ' G' H') : GS ρ0 G0 H0 ρ' G' H' :=
  ⟨a.r.trans b.r, a.g.trans b.g, b.s, fun c o hc e => b.h c o (fun h => by rw [a.f c h hc] at e; cases e) e, b.k, fun c h1 h2 => b.n c h1 (a.n c h1 h2), fun c h1 h2 => by
    by_cases h3 : c ∈ ρ
    · exact a.f c h3 h2
    · exact b.f c h1 h3⟩
theorem IvS.rebase {ρ0 : List Addr} {G0 H0 : Hp} {ρ : List Addr} {G H : Hp} {ρ' : List Addr} {G' H' : Hp} {δ : DS} {σ : St} {S : Sto} (a : GS ρ0 G0 H0 ρ G H) (I : IvS K cl ρ G H0 ρ' G' H' δ σ S) : IvS K cl ρ0 G0 H0 ρ' G' H' δ σ S := ⟨I.rs, a.rebase I.gs, I.ow⟩
def OwnP (δ : DS) (σ : St) (b : Addr) : Prop := ∃ (i : Nat) (ds : List W), δ[i]? = some (.own ds) ∧ σ[i]? = some (some (.ref b))
noncomputable def hideO (δ : DS) (σ : St) (H : Hp) : Hp := fun b => @ite _ (OwnP δ σ b) (Classical.propDecidable _) none (H b)
theorem hideO_own {δ : DS} {σ : St} {H : Hp} {b : Addr} (h : OwnP δ σ b) : hideO δ σ H b = none := by
  unfold hideO
  rw [if_pos h]
theorem hideO_not {δ : DS} {σ : St} {H : Hp} {b : Addr} (h : ¬ OwnP δ σ b) : hideO δ σ H b = H b := by
  unfold hideO
  rw [if_neg h]
def outP : Out → OutS
  | .nx δ => .nx δ
  | .bk δ => .bk δ
  | .ct δ => .ct δ
  | .rt d => .rt d
def ssPure (f : DS → Option Out) : DS → Sto → SO := fun δ S => (f δ).map fun o => (outP o, S)
theorem ss_pure {t : TS} {f : DS → Option Out} (h : ∀ ρ, DSt K ρ t f) : SSt K cl E t (ssPure f) := fun ρ0 G0 H0 ρ G σ H δ S o S' D I e p => by
  obtain ⟨o', e1, e2⟩ := Option.map_eq_some_iff.mp e
  cases e2
  have same0 : Same (hideO δ σ H) H := fun b u hb => by
    by_cases ho : OwnP δ σ b
    · rw [hideO_own ho] at hb; cases hb
    · rw [hideO_not ho] at hb; exact hb
  have sameG : Same G (hideO δ σ H) := fun b u hb => by
    by_cases ho : OwnP δ σ b
    · obtain ⟨i, ds, k1, k2⟩ := ho
      obtain ⟨o, m1, q, vs, rfl, m3, m4, m5⟩ := I.rs.rl.sl i _ k1
      rw [k2] at m1
      cases m1
      rw [m3] at hb
      cases hb
    · rw [hideO_not ho]; exact I.gs.s b u hb
  have notown : ∀ a, a ∈ ρ → ¬ OwnP δ σ a := fun a ha ⟨i, ds, k1, k2⟩ => I.rs.ap i ds a k1 k2 ha
  have ownlst : ∀ b, OwnP δ σ b → ∃ vs, H b = some (.lst vs) := fun b ⟨i, ds, k1, k2⟩ => by
    obtain ⟨o, m1, q, vs, rfl, m3, m4, m5⟩ := I.rs.rl.sl i _ k1
    rw [k2] at m1
    cases m1
    exact ⟨vs, m4⟩
  have sr0 : SR K ρ cl G (hideO δ σ H) S := ⟨I.rs.st.len, I.rs.st.nd, fun n ob en => by
    obtain ⟨a, k1, k2, k3⟩ := I.rs.st.ob n ob en
    refine ⟨a, k1, k2, k3.move (List.prefix_refl _) (.refl _) (hideO_not (notown a (List.mem_of_getElem? k1))) fun dx d1 d2 => ⟨?_, d1⟩⟩
    rw [hideO_not fun ho => by
      obtain ⟨vs, hv⟩ := ownlst dx ho
      rw [d2] at hv
      cases hv]
    exact d2⟩
  have iv : Iv K ρ G (hideO δ σ H) G H δ σ := ⟨I.rs.rl, ⟨.refl _, same0, I.gs.s, fun _ _ e => e⟩, fun i q ds k1 k2 => hideO_own ⟨i, ds, k1, k2⟩⟩
  have h0own : ∀ b, H0 b ≠ none → ¬ OwnP δ σ b := fun b hb ⟨i, ds, k1, k2⟩ => hb (I.ow i b ds k1 k2)
  have gs : ∀ {G' H' : Hp}, Gr G (hideO δ σ H) G' H' → GS ρ0 G0 H0 ρ G' H' := fun {G' H'} g =>
    ⟨I.gs.r, I.gs.g.trans g.g, g.s, fun b u hb eb => g.h b u (by rw [hideO_not (h0own b (by rw [eb]; simp))]; exact I.gs.h b u hb eb), fun b hb => same_ne g.h (by rw [hideO_not (h0own b hb)]; exact I.gs.k b hb), fun b h1 h2 => g.n b (by rw [hideO_not (h0own b h1)]; exact I.gs.k b h1) (I.gs.n b h1 h2), I.gs.f⟩
  have nx : ∀ {δ' : DS} {σ' : St} {G' H' : Hp}, Iv K ρ G (hideO δ σ H) G' H' δ' σ' → IvS K cl ρ0 G0 H0 ρ G' H' δ' σ' S := fun {δ' σ' G' H'} I' =>
    ⟨⟨I'.rl, sr0.grow I'.gr, fun i ds q k1 k2 hq => by
      have := I'.ow i q ds k1 k2
      rw [hideO_not (notown q hq)] at this
      obtain ⟨j, hj, ej⟩ := List.mem_iff_getElem.mp hq
      obtain ⟨b, m1, m2, m3⟩ := I.rs.st.ob j (S[j]'(by rw [← I.rs.st.len]; exact hj)) (List.getElem?_eq_getElem _)
      rw [List.getElem?_eq_getElem hj, ej] at m1
      cases m1
      obtain ⟨y, hy, _⟩ := m3.some
      rw [this] at hy
      cases hy⟩, gs I'.gr, fun i q ds k1 k2 => by
      have h1 := I'.ow i q ds k1 k2
      cases h2 : H0 q with
      | none => rfl
      | some u =>
        exfalso
        have h3 := I.gs.k q (by rw [h2]; simp)
        rw [hideO_not (h0own q (by rw [h2]; simp))] at h1
        exact h3 h1⟩
  refine h ρ G (hideO δ σ H) G σ H δ o' D iv e1 ?_
  cases o' with
  | nx δ' => exact fun σ' G' H' I' => p σ' ρ G' H' (nx I')
  | bk δ' => exact fun σ' G' H' I' => p σ' ρ G' H' (nx I')
  | ct δ' => exact fun σ' G' H' I' => p σ' ρ G' H' (nx I')
  | rt d => exact fun v G' H' g dv => p v ρ G' H' (gs g) (sr0.grow g) dv
def ssSeq (f g : DS → Sto → SO) : DS → Sto → SO := fun δ S => match f δ S with
  | some (.nx δ', S') => g δ' S'
  | o => o
theorem ss_seq {t u : TS} {f g : DS → Sto → SO} (h1 : SSt K cl E t f) (h2 : SSt K cl E u g) : SSt K cl E (tSeq t u) (ssSeq f g) := fun ρ0 G0 H0 ρ G σ H δ S o S' D I e p => by
  unfold ssSeq at e
  cases ef : f δ S with
  | none => rw [ef] at e; cases e
  | some r =>
    obtain ⟨o1, S1⟩ := r
    rw [ef] at e
    refine h1 ρ0 G0 H0 ρ G σ H δ S o1 S1 _ I ef ?_
    cases o1 with
    | nx δ' => exact fun σ' ρ' G' H' I' => h2 ρ0 G0 H0 ρ' G' σ' H' δ' S1 o S' D I' e p
    | bk δ' => cases e; exact p
    | ct δ' => cases e; exact p
    | rt d => cases e; exact p
    | xc c => cases e; exact p
def soB {α : Type} (m : SM α) (k : α → Sto → SO) : SO := match m with
  | some (.ok a, S) => k a S
  | some (.xc c, S) => some (.xc c, S)
  | none => none
theorem soB_some {α : Type} {m : SM α} {k : α → Sto → SO} {o : OutS} {S' : Sto} (h : soB m k = some (o, S')) : (∃ c, m = some (.xc c, S') ∧ o = .xc c) ∨ ∃ a S1, m = some (.ok a, S1) ∧ k a S1 = some (o, S') := by
  unfold soB at h
  split at h
  · exact .inr ⟨_, _, rfl, h⟩
  · cases h
    exact .inl ⟨_, rfl, rfl⟩
  · cases h
theorem so_one {t : TE} {f : DS → Sto → SM W} (h : SE K cl E t f) {ρ0 : List Addr} {G0 H0 : Hp} {ρ : List Addr} {G : Hp} {σ : St} {H : Hp} {δ : DS} {S : Sto} {o : OutS} {S' : Sto} {D : Ends} {k : W → Sto → SO} {P : V → Hp → Prop} (I : IvS K cl ρ0 G0 H0 ρ G H δ σ S) (e : soB (f δ S) k = some (o, S')) (p : PstS K cl E ρ0 G0 H0 D S' o)
    (q : ∀ d S1, k d S1 = some (o, S') → ∀ v ρ' G' H', GS ρ G H ρ' G' H' → SR K ρ' cl G' H' S1 → Dw K ρ' G' v d → P v H') : t σ H P := by
  rcases soB_some e with ⟨c, em, rfl⟩ | ⟨d, S1, em, e⟩
  · exact h ρ G σ H δ S _ _ _ I.rs em (fun d hd => by cases hd) (fun c' hc ρ1 G1 H1 g1 s1 => by cases hc; exact p ρ1 G1 H1 (I.gs.trans g1) s1)
  · exact h ρ G σ H δ S _ _ _ I.rs em (fun d' hd => by cases hd; exact q _ _ e) (fun c' hc => by cases hc)
theorem so_test {t : TT} {f : DS → Sto → SM Bool} (h : ST K cl E t f) {ρ0 : List Addr} {G0 H0 : Hp} {ρ : List Addr} {G : Hp} {σ : St} {H : Hp} {δ : DS} {S : Sto} {o : OutS} {S' : Sto} {D : Ends} {k : Bool → Sto → SO} {P : Bool → Hp → Prop} (I : IvS K cl ρ0 G0 H0 ρ G H δ σ S) (e : soB (f δ S) k = some (o, S')) (p : PstS K cl E ρ0 G0 H0 D S' o)
    (q : ∀ d S1, k d S1 = some (o, S') → ∀ ρ' G' H', GS ρ G H ρ' G' H' → SR K ρ' cl G' H' S1 → P d H') : t σ H P := by
  rcases soB_some e with ⟨c, em, rfl⟩ | ⟨d, S1, em, e⟩
  · exact h ρ G σ H δ S _ _ _ I.rs em (fun d hd => by cases hd) (fun c' hc ρ1 G1 H1 g1 s1 => by cases hc; exact p ρ1 G1 H1 (I.gs.trans g1) s1)
  · exact h ρ G σ H δ S _ _ _ I.rs em (fun d' hd => by cases hd; exact q _ _ e) (fun c' hc => by cases hc)
def ssIf (c : DS → Sto → SM Bool) (f g : DS → Sto → SO) : DS → Sto → SO := fun δ S => soB (c δ S) fun b S1 => if b = true then f δ S1 else g δ S1
theorem ss_if {tc : TT} {t u : TS} {c : DS → Sto → SM Bool} {f g : DS → Sto → SO} (hc : ST K cl E tc c) (h1 : SSt K cl E t f) (h2 : SSt K cl E u g) : SSt K cl E (tIfS tc t u) (ssIf c f g) := fun ρ0 G0 H0 ρ G σ H δ S o S' D I e p =>
  so_test hc I e p fun b S1 e1 ρ1 G1 H1 g1 s1 => by
    cases b with
    | true => exact h1 ρ0 G0 H0 ρ1 G1 σ H1 δ S1 o S' D (I.grow g1 s1) e1 p
    | false => exact h2 ρ0 G0 H0 ρ1 G1 σ H1 δ S1 o S' D (I.grow g1 s1) e1 p
def ssRet (f : DS → Sto → SM W) : DS → Sto → SO := fun δ S => soB (f δ S) fun d S1 => some (.rt d, S1)
theorem ss_ret {t : TE} {f : DS → Sto → SM W} (h : SE K cl E t f) : SSt K cl E (tRet t) (ssRet f) := fun ρ0 G0 H0 ρ G σ H δ S o S' D I e p =>
  so_one h I e p fun d S1 e1 v ρ1 G1 H1 g1 s1 dv => by
    cases e1
    exact p v ρ1 G1 H1 (I.gs.trans g1) s1 dv
def ssAsg (f : DS → Sto → SM W) (h : W → DS → Option DS) : DS → Sto → SO := fun δ S => soB (f δ S) fun d S1 => (h d δ).map fun δ' => (.nx δ', S1)
theorem ss_asg {t : TE} {g : TG} {f : DS → Sto → SM W} {h : W → DS → Option DS} (h1 : SE K cl E t f) (h2 : ∀ ρ, DG K ρ g h) : SSt K cl E (tAsg t g) (ssAsg f h) := fun ρ0 G0 H0 ρ G σ H δ S o S' D I e p =>
  so_one h1 I e p fun d S1 e1 v ρ1 G1 H1 g1 s1 dv => by
    obtain ⟨δ', e2, e3⟩ := Option.map_eq_some_iff.mp e1
    cases e3
    have I1 := I.grow g1 s1
    exact h2 ρ1 G1 H1 δ σ v d δ' _ I1.rs.rl dv e2 fun σ' R o => p σ' ρ1 G1 H1 (I1.sub R o)
def ssExpr (f : DS → Sto → SM W) : DS → Sto → SO := fun δ S => soB (f δ S) fun _ S1 => some (.nx δ, S1)
theorem ss_expr {t : TE} {f : DS → Sto → SM W} (h : SE K cl E t f) : SSt K cl E (tDrop t) (ssExpr f) := fun ρ0 G0 H0 ρ G σ H δ S o S' D I e p =>
  so_one h I e p fun d S1 e1 v ρ1 G1 H1 g1 s1 dv => by
    cases e1
    exact p σ ρ1 G1 H1 (I.grow g1 s1)
def ssFrz (i : Nat) (f : DS → Sto → SO) : DS → Sto → SO := fun δ S => f (frz i δ) S
theorem IvS.frz {ρ0 : List Addr} {G0 H0 : Hp} {ρ : List Addr} {G H : Hp} {δ : DS} {σ : St} {S : Sto} (i : Nat) (I : IvS K cl ρ0 G0 H0 ρ G H δ σ S) : ∃ G', IvS K cl ρ0 G0 H0 ρ G' H (L2.frz i δ) σ S := by
  unfold L2.frz
  split
  · rename_i ds h
    obtain ⟨o, h1, p, vs, rfl, h3, h4, h5⟩ := I.rs.rl.sl i _ h
    have h0 := I.ow i p ds h h1
    have g : Same G (upd G p (.lst vs)) := same_new h3 _
    have pm := I.rs.ap i ds p h h1
    have sub : ∀ {j : Nat} {es : List W}, (δ.set i (.val (.list ds)))[j]? = some (.own es) → i ≠ j ∧ δ[j]? = some (.own es) := fun {j es} k => by
      rcases getSet k with ⟨_, z, _⟩ | ⟨ne, k⟩
      · cases z
      · exact ⟨ne, k⟩
    refine ⟨upd G p (.lst vs), ⟨⟨⟨same_upd2 I.gs.s h4, by rw [List.length_set]; exact I.rs.rl.len, fun j s e => ?_, fun j k q ds' es' k1 k2 k3 k4 => I.rs.rl.apart j k q _ _ (sub k1).2 (sub k2).2 k3 k4⟩, ?_, fun j es q k1 k2 => I.rs.ap j es q (sub k1).2 k2⟩, ?_, fun j q es k1 k2 => I.ow j q es (sub k1).2 k2⟩⟩
    · rcases getSet e with ⟨rfl, rfl, hl⟩ | ⟨ne, e⟩
      · exact ⟨_, h1, .ref p, rfl, .lst (SqL.of upd_same) (h5.same g)⟩
      · obtain ⟨o, k1, k2⟩ := I.rs.rl.sl j s e
        refine ⟨o, k1, ?_⟩
        cases s with
        | no => trivial
        | val d =>
          obtain ⟨v, e1, e2⟩ := k2
          exact ⟨v, e1, e2.same g⟩
        | own es =>
          obtain ⟨q, ws, rfl, e2, e3, e4⟩ := k2
          refine ⟨q, ws, rfl, ?_, e3, e4.same g⟩
          rw [upd_ne]
          · exact e2
          · rintro rfl
            exact ne (I.rs.rl.apart i j q ds es h e h1 k1)
    · refine ⟨I.rs.st.len, I.rs.st.nd, fun n ob en => ?_⟩
      obtain ⟨a, k1, k2, k3⟩ := I.rs.st.ob n ob en
      have hap : a ≠ p := fun z => pm (z ▸ List.mem_of_getElem? k1)
      exact ⟨a, k1, by rw [upd_ne hap]; exact k2, k3.move (List.prefix_refl _) g rfl fun dx d1 d2 => ⟨d2, by
        rw [upd_ne (fun z => by rw [z, h4] at d2; cases d2)]
        exact d1⟩⟩
    · exact ⟨I.gs.r, I.gs.g.trans g, same_upd2 I.gs.s h4, I.gs.h, I.gs.k, fun b k1 k2 => by
        rw [upd_ne (fun z => k1 (by rw [z]; exact h0))]
        exact I.gs.n b k1 k2, I.gs.f⟩
  · exact ⟨G, I⟩
theorem ss_frz {i : Nat} {t : TS} {f : DS → Sto → SO} (h : SSt K cl E t f) : SSt K cl E t (ssFrz i f) := fun ρ0 G0 H0 ρ G σ H δ S o S' D I e p => by
  obtain ⟨G', I'⟩ := I.frz i
  exact h ρ0 G0 H0 ρ G' σ H _ S o S' D I' e p
def ssFld (c f : Str) (fo fv : DS → Sto → SM W) : DS → Sto → SO := fun δ S => soB (fv δ S) fun d S1 => soB (fo δ S1) fun x S2 => (insAt c x S2).bind fun p => if p.2.length < 1000 then some (.nx δ, S2.set p.1 (.ins c (putW f d p.2))) else none
theorem ss_fld {c f : Str} {to tv : TE} {fo fv : DS → Sto → SM W} (hc : Cls K (cl c)) (hn : NoAttr K (cl c) f) (ho : SE K cl E to fo) (hv : SE K cl E tv fv) : SSt K cl E (sFld K to tv f) (ssFld c f fo fv) := fun ρ0 G0 H0 ρ G σ H δ S o S' D I e p =>
  so_one hv I e p fun d S1 e1 v ρ1 G1 H1 g1 s1 dv => by
    have I1 := I.grow g1 s1
    refine so_one ho I1 e1 p fun x S2 e2 u ρ2 G2 H2 g2 s2 du => ?_
    obtain ⟨⟨n, fs⟩, e3, e4⟩ := Option.bind_eq_some_iff.mp e2
    split at e4
    case isFalse => cases e4
    rename_i hl
    cases e4
    obtain ⟨rfl, e5⟩ := insAt_some e3
    obtain ⟨a, rfl, ea⟩ := dw_ref du
    obtain ⟨ga, dx, ws, k1, k2, k3, k4⟩ := s2.addr e5 ea
    have I2 := I1.grow g2 s2
    have hda : dx ≠ a := fun z => by rw [z, k1] at k3; cases k3
    obtain ⟨s3, g3⟩ := s2.put (x := .ins (cl c) dx (putF f v ws)) (o' := .ins c (putW f d fs)) g2.s e5 ea (fun b z => by cases z) ⟨dx, _, upd_same, k2, by rw [upd_ne hda]; exact k3, k4.putF ((dv.ext g2.r).same g2.g)⟩
    exact ⟨a, _, dx, ws, rfl, k1, hc, hn, by rw [← k4.length]; exact hl, p σ ρ2 G2 _ (I2.grow g3 s3)⟩
def ssForGo (h : W → DS → Option DS) (fb : DS → Sto → SO) : List W → DS → Sto → SO
  | [], δ, S => some (.nx δ, S)
  | d :: ds, δ, S => (h d δ).bind fun δ2 => match fb δ2 S with
    | some (.nx δ', S') => ssForGo h fb ds δ' S'
    | some (.ct δ', S') => ssForGo h fb ds δ' S'
    | some (.bk δ', S') => some (.nx δ', S')
    | some (.rt d, S') => some (.rt d, S')
    | some (.xc c, S') => some (.xc c, S')
    | none => none
def ssFor (fi : DS → Sto → SM (List W)) (h : W → DS → Option DS) (fb : DS → Sto → SO) : DS → Sto → SO := fun δ S => soB (fi δ S) fun ds S1 => ssForGo h fb ds δ S1
theorem ss_for {wi : TI} {g : TG} {tb : TS} {fi : DS → Sto → SM (List W)} {h : W → DS → Option DS} {fb : DS → Sto → SO} (hi : SIp K cl E wi fi) (hg : ∀ ρ, DG K ρ g h) (hb : SSt K cl E tb fb) : SSt K cl E (tFor wi g tb) (ssFor fi h fb) := fun ρ0 G0 H0 ρ G σ H δ S o S' D I e p => by
  rcases soB_some e with ⟨c, em, rfl⟩ | ⟨ds, S1, em, e⟩
  · exact hi ρ G σ H δ S _ _ _ I.rs em (fun d hd => by cases hd) (fun c' hc ρ1 G1 H1 g1 s1 => by cases hc; exact p ρ1 G1 H1 (I.gs.trans g1) s1)
  refine hi ρ G σ H δ S _ _ _ I.rs em (fun ds' hd => ?_) (fun c' hc => by cases hc)
  cases hd
  intro J ρ1 G1 H1 g1 s1 it
  refine ⟨fun i m σ H => m = ds.length - i ∧ i ≤ ds.length ∧ ∃ ρ2 G2 δ2 S2, IvS K cl ρ0 G0 H0 ρ2 G2 H δ2 σ S2 ∧ ρ1 <+: ρ2 ∧ Same G1 G2 ∧ ssForGo h fb (ds.drop i) δ2 S2 = some (o, S'), ⟨ds.length, by simp, Nat.zero_le _, ρ1, G1, δ, S1, I.grow g1 s1, List.prefix_refl _, .refl _, by simpa using e⟩, ?_⟩
  rintro i m σ2 H2 ⟨rfl, hil, ρ2, G2, δ2, S2, I2, pr2, s2, e2⟩
  have ia := it i G2 H2 s2 I2.gs.s
  by_cases hlt : i < ds.length
  · refine .inr ?_
    obtain ⟨go, step⟩ := ia.1 ds[i] (List.getElem?_eq_getElem hlt)
    rw [List.drop_eq_getElem_cons hlt] at e2
    obtain ⟨δ3, e3, e4⟩ := Option.bind_eq_some_iff.mp e2
    have turn : ∀ (P : Ends) (o1 : OutS) (S3 : Sto), fb δ3 S2 = some (o1, S3) → (∀ G3 H3, Gr G2 H2 G3 H3 → PstS K cl E ρ2 G3 H0 P S3 o1) → ∀ x H', J.yld i H2 x H' → g x σ2 H' fun σ2 H2 => tb P σ2 H2 := fun P o1 S3 ef hp x H' y => by
      obtain ⟨G3, g3, dx⟩ := step x H' y
      have I3 := I2.grow (.of g3) (I2.rs.st.grow g3)
      refine hg ρ2 G3 H' δ2 σ2 x _ δ3 _ I3.rs.rl (dx.ext pr2) e3 fun σ3 R3 o3 => ?_
      exact hb ρ2 G3 H0 ρ2 G3 σ3 H' δ3 S2 o1 S3 P (I3.sub R3 o3).base ef (hp G3 H' g3)
    have back : ∀ {G3 H3 : Hp}, Gr G2 H2 G3 H3 → ∀ {ρ4 : List Addr} {G4 H4 : Hp} {σ4 : St} {δ4 : DS} {S4 : Sto}, IvS K cl ρ2 G3 H0 ρ4 G4 H4 δ4 σ4 S4 → IvS K cl ρ0 G0 H0 ρ4 G4 H4 δ4 σ4 S4 ∧ ρ1 <+: ρ4 ∧ Same G1 G4 := fun {G3 H3} g3 {ρ4 G4 H4 σ4 δ4 S4} I4 => ⟨I4.rebase (I2.gs.trans (.of g3)), pr2.trans I4.gs.r, s2.trans (g3.g.trans I4.gs.g)⟩
    cases ef : fb δ3 S2 with
    | none => rw [ef] at e4; cases e4
    | some r =>
      obtain ⟨o1, S3⟩ := r
      rw [ef] at e4
      cases o1 with
      | nx δ' =>
        exact ⟨go, fun σ' H' => ∃ ρ' G', IvS K cl ρ0 G0 H0 ρ' G' H' δ' σ' S3 ∧ ρ1 <+: ρ' ∧ Same G1 G', fun σ' H' ⟨ρ', G', I', q1, q2⟩ => ⟨ds.length - (i + 1), by omega, rfl, hlt, ρ', G', δ', S3, I', q1, q2, e4⟩, turn _ _ _ ef fun G3 H3 g3 σ5 ρ5 G5 H5 I5 => ⟨ρ5, G5, back g3 I5⟩⟩
      | ct δ' =>
        exact ⟨go, fun σ' H' => ∃ ρ' G', IvS K cl ρ0 G0 H0 ρ' G' H' δ' σ' S3 ∧ ρ1 <+: ρ' ∧ Same G1 G', fun σ' H' ⟨ρ', G', I', q1, q2⟩ => ⟨ds.length - (i + 1), by omega, rfl, hlt, ρ', G', δ', S3, I', q1, q2, e4⟩, turn _ _ _ ef fun G3 H3 g3 σ5 ρ5 G5 H5 I5 => ⟨ρ5, G5, back g3 I5⟩⟩
      | bk δ' =>
        cases e4
        exact ⟨go, fun _ _ => False, fun _ _ z => z.elim, turn _ _ _ ef fun G3 H3 g3 σ5 ρ5 G5 H5 I5 => p σ5 ρ5 G5 H5 (back g3 I5).1⟩
      | rt d =>
        cases e4
        exact ⟨go, fun _ _ => False, fun _ _ z => z.elim, turn _ _ _ ef fun G3 H3 g3 v ρ5 G5 H5 g5 s5 dv => p v ρ5 G5 H5 ((I2.gs.trans (.of g3)).rebase g5) s5 dv⟩
      | xc c =>
        cases e4
        exact ⟨go, fun _ _ => False, fun _ _ z => z.elim, turn _ _ _ ef fun G3 H3 g3 ρ5 G5 H5 g5 s5 => p ρ5 G5 H5 ((I2.gs.trans (.of g3)).rebase g5) s5⟩
  · have hi' : i = ds.length := by omega
    subst hi'
    rw [List.drop_length] at e2
    cases e2
    exact .inl ⟨ia.2 (Nat.le_refl _), p σ2 ρ2 G2 H2 I2⟩
def outS : SO → SM W
  | some (.rt d, S) => some (.ok d, S)
  | some (.nx _, S) => some (.ok .none, S)
  | some (.xc c, S) => some (.xc c, S)
  | _ => none
def bodyS (a n : Nat) (fb : DS → Sto → SO) : List W → Sto → SM W := fun ds S => if ds.length = a then outS (fb (startD n ds) S) else none
theorem bodyS_len {a n : Nat} {fb : DS → Sto → SO} {ds : List W} {S : Sto} {r : Rs W × Sto} (h : bodyS a n fb ds S = some r) : ds.length = a := by
  unfold bodyS at h
  split at h
  · assumption
  · cases h
theorem s_fn {t : TS} {fb : DS → Sto → SO} {N : List Str} {a n : Nat} {vs : List V} {H : Hp} {Q : VK} {E : XK} (hn : N.length = n) (h : SSt K cl E t fb) (hsp : spX K cl (bodyS a n fb) vs H Q E) : t { nx := fun _ H' => Q .non H', rt := Q } (start N vs) H := by
  subst hn
  obtain ⟨ρ, G, S, ds, r, S', s, sr, da, e, q, qx⟩ := hsp
  have R := start_rl (N := N) s da
  have I : IvS K cl ρ G H ρ G H (startD N.length ds) (start N vs) S := ⟨⟨R, sr, fun i ds' p h1 => absurd h1 startD_val⟩, .refl s, fun i p ds' h1 => absurd h1 startD_val⟩
  unfold bodyS at e
  rw [if_pos (bodyS_len (show bodyS a N.length fb ds S = some (r, S') from e))] at e
  cases ef : fb (startD N.length ds) S with
  | none => rw [ef] at e; cases e
  | some o =>
    obtain ⟨o, S1⟩ := o
    rw [ef] at e
    refine h ρ G H ρ G _ H _ S o S1 _ I ef ?_
    cases o with
    | nx δ => cases e; exact fun σ' ρ' G' H' I' => q _ rfl _ ρ' G' H' I'.gs I'.rs.st .non
    | rt d' => cases e; exact fun v ρ' G' H' g s dv => q _ rfl v ρ' G' H' g s dv
    | xc c => cases e; exact fun ρ' G' H' g s => qx _ rfl ρ' G' H' g s
    | bk _ => cases e
    | ct _ => cases e
theorem sp0_len {f : List W → Sto → SM W} {a : Nat} {vs : List V} {H : Hp} {Q : VK} {E : XK} (hf : ∀ ds S r, f ds S = some r → ds.length = a) (h : sp0 K cl f vs H Q E) : vs.length = a := by
  obtain ⟨ρ, G, S, ds, r, S', s, sr, da, e, q⟩ := h
  rw [da.length]
  exact hf ds S _ e
theorem s_fn0 {t : TS} {fb : DS → Sto → SO} {N : List Str} {a n : Nat} {vs : List V} {H : Hp} {Q : VK} {E : XK} (hn : N.length = n) (h : SSt K cl E0 t fb) (hsp : sp0 K cl (bodyS a n fb) vs H Q E) : t { nx := fun _ H' => Q .non H', rt := Q } (start N vs) H := by
  obtain ⟨ρ, G, S, ds, d, S', s, sr, da, e, q⟩ := hsp
  exact s_fn (E := E0) hn h ⟨ρ, G, S, ds, .ok d, S', s, sr, da, e, (fun d' hd => by cases hd; exact q), (fun c hc => by cases hc)⟩
theorem spX_no {g : List W → Sto → SM W} {vs : List V} {H : Hp} {Q : VK} {E : XK} (hg : ∀ ds S, g ds S = none) (h : spX K cl g vs H Q E) : False := by
  obtain ⟨ρ, G, S, ds, r, S', s, sr, da, e, q⟩ := h
  rw [hg] at e
  cases e
theorem FnOk.noX {P : Program} {w : World} {mg : Str → Option Value} {base : Heap} {CX : CXT} {k : Nat} {f : Addr} {fd : FuncData} {ps : List Str} {g : List W → Sto → SM W} (hg : ∀ ds S, g ds S = none) : FnOk P w K mg base CX k f fd ps (spX K cl g) :=
  ⟨fun _ _ _ _ h => (spX_no hg h).elim, fun _ _ _ _ _ _ _ _ _ _ _ _ _ h => (spX_no hg h).elim⟩
end
end L2
set_option Elab.async false
set_option linter.all false
set_option maxRecDepth 100000
namespace L2
open PySem PySem.Spec PyProof.Rows
section
variable {X : Cx} {pins : List (Addr × Obj)} {σ : St} {H : Hp} {s : Shared} {a : Addr} {kvs : List (Key × V)} {k : Key} {u : Value} {A : Around} {E : Value → Shared → Prop}
theorem d_setdef {z : V} {dv : Value} {Q : Value → Shared → Prop} (I : Inv X pins σ H s) (e : H a = some (.dK kvs)) (ry : RelV (kV k) u) (rz : RelV z dv) (hl : kvs.length < sizeLine)
    (h1 : ∀ v w' s', valV kvs k = some v → Inv X pins σ H s' → RelV v w' → Q w' s') (h2 : valV kvs k = none → ∀ s', Inv X pins σ (upd H a (.dK (putK kvs k z))) s' → Q dv s') :
    wpAny (model X.prog X.w) A (call (.builtin "dict.setdefault") [.ref a, u, dv]) Q E s := by
  obtain ⟨zz, hd, vs, rel, dd⟩ := dk_of I.hok e
  refine call_meetsIn PySem.F.slot_dict_setdefault dd.typeIs PySem.F.entry_dict_setdefault (PySem.F.args_dict_setdefault_3 _ _ _) (kt_meets_setdefault (mixKind X.prog X.w) a (kV_is ry) hd dv)
    ⟨vs, dd, by rw [← rel.length]; exact zz, fun w' hw => ?_, fun hn h' dd' hs => ?_⟩
  · have r := rel.val k
    rw [hw] at r
    cases q : valV kvs k with
    | none => rw [q] at r; exact r.elim
    | some v =>
      rw [q] at r
      exact h1 v w' _ q (I.tok _) r
  · have r := rel.val k
    rw [hn] at r
    cases q : valV kvs k with
    | some v => rw [q] at r; exact r.elim
    | none =>
      have he : ∃ q, h'.get? a = some q := let ⟨q, _, _, hq, _⟩ := dd'; ⟨q, hq⟩
      have hl2 : (putK kvs k z).length ≤ sizeLine := by have := length_putK kvs k z; omega
      exact h2 q _ (d_write I (by rw [e]; exact True.intro) hs he (dk_new hl2 hd (rel.put k rz) dd'))
end
section
variable {X : Cx} {o e f : Expr} {td ty tx : TE} {apos cpos : Pos}
def tDDef (td ty tx : TE) : TE := fun σ H Q => td σ H fun x H1 => ∃ a, x = .ref a ∧ IsD H1 a ∧ ty σ H1 fun y H2 => tx σ H2 fun z H3 => ∃ kvs k, H3 a = some (.dK kvs) ∧ y = kV k ∧ kvs.length < sizeLine ∧
  (∀ v, valV kvs k = some v → Q v H3) ∧ (valV kvs k = none → Q z (upd H3 a (.dK (putK kvs k z))))
theorem pe_ddef (ho : PE X o td) (he : PE X e ty) (hf : PE X f tx) (m : M2 X o "setdefault" apos e f cpos) : PE X (.Call (.Attribute o "setdefault" apos) [e, f] [] cpos) (tDDef td ty tx) := by
  intro pins s σ H Q I h
  refine wpAny_Call_method m.base m.few m.line PySem.F.plainAttrs_dict PySem.F.slot_dict_setdefault PySem.F.type_dict_setdefault (thn (ho pins s σ H _ I h) fun u s1 ⟨x, H1, I1, rx, a, ex, d, q1⟩ => ?_)
  subst ex
  obtain rfl : u = Value.ref a := rx
  obtain ⟨t1, t2, _⟩ := isD_at I1 d
  refine ⟨t1, t2, ?_⟩
  rw [m.trees]
  refine Calls.callWith_builtin rfl (Calls.evalArgs_plain (Calls.spliced_cons (thn (he pins s1 σ H1 _ I1 q1) fun iv s2 ⟨y, H2, I2, ry, q2⟩ =>
    Calls.spliced_cons (thn (hf pins s2 σ H2 _ I2 q2) fun fv s3 ⟨z, H3, I3, rz, kvs, k, ea, ey, hl, q3, q4⟩ => Calls.spliced_nil ?_))))
  subst ey
  exact d_setdef I3 ea ry rz hl (fun v w' s4 hv I4 rw' => ⟨v, _, I4, rw', q3 v hv⟩) fun hn s4 I4 => ⟨z, _, I4, rz, q4 hn⟩
end
section
variable {prog : Program} {w : World} {A : Around} {E : Value → Shared → Prop} {s : Shared}
theorem drawL {it t : Addr} {items : Array Value} (hne : t ≠ it) : ∀ (n i : Nat) (s : Shared) (Q : List Value → Shared → Prop), s.heap.IsListIter it t i → s.heap.IsList t items → i + n ≤ items.size →
    (∀ h', h'.IsListIter it t (i + n) → Heap.SameBut it s.heap h' → Q ((items.toList.drop i).take n) { s with heap := h' }) → wpAny (model prog w) A (draw (.ref it) n) Q E s
  | 0, i, s, Q, hit, _, _, hQ => by
    show wpAny _ _ (pure []) Q E s
    exact wpAny_pure (by simpa using hQ s.heap hit (Heap.SameBut.refl ..))
  | n + 1, i, s, Q, hit, ht, hle, hQ => by
    have hlt : i < items.size := by omega
    show wpAny _ _ (pyNext (.ref it) >>= _) Q E s
    refine wpAny_bind (wpAny_pyNext_list_item hit ht (x := items[i]) (by simp [hlt]) fun h₁ hit₁ hs₁ => ?_)
    refine wpAny_bind (wpAny_holding (drawL hne n (i + 1) _ _ hit₁ (ht.extBut hs₁.extBut hne) (by omega) fun h₂ hit₂ hs₂ => wpAny_pure ?_))
    have hd : items.toList.drop i = items[i] :: items.toList.drop (i + 1) := by simp [List.drop_eq_getElem_cons, hlt]
    have := hQ h₂ (by rw [show i + (n + 1) = i + 1 + n by omega]; exact hit₂) (hs₁.trans hs₂)
    rw [hd, List.take_succ_cons] at this
    exact this
theorem unpackItemsL {t : Addr} {items : Array Value} {Q : List Value → Shared → Prop} (hh : A.handled = none) (ht : s.heap.IsList t items)
    (hQ : ∀ h', Heap.ExtBut s.heap.objs.size s.heap h' → Q items.toList { s with heap := h' }) : wpAny (model prog w) A (unpackItems (.ref t) items.size none) Q E s := by
  have hlt : t ≠ s.heap.objs.size := by obtain ⟨o, ho, _⟩ := ht; exact Nat.ne_of_lt (Heap.lt_size ho)
  have hT : s.TypeIs (.ref t) "list" := by obtain ⟨o, ho, hc, _⟩ := ht; exact ⟨o, ho, hc⟩
  unfold unpackItems
  refine wpAny_bind ?_
  · unfold notIterableAtAll
    refine wpAny_bind (wpAny_specialOf hT PySem.F.slot_list_iter.lookup ?_)
    refine wpAny_pure ?_
    simp only [Bool.false_eq_true, if_false]
    refine wpAny_bind (wpAny_holding (wpAny_pyIter_list ht ?_))
    refine wpAny_bind (wpAny_holding (drawL hlt items.size 0 _ _ ⟨_, Heap.get?_push_size _ rfl, rfl, rfl⟩ (ht.push _) (by omega) fun h₁ hit₁ hs₁ => ?_))
    have hall : List.take items.size (List.drop 0 items.toList) = items.toList := by
      rw [List.drop_zero]; exact List.take_of_length_le (by simp)
    rw [hall]
    rw [if_neg (by simp)]
    have ht₁ : h₁.IsList t items := (ht.push _).extBut hs₁.extBut hlt
    refine wpAny_bind (wpAny_holding (wpAny_pyNext_list_end hh hit₁ ht₁ (by simp) fun h₂ he₂ => ?_))
    simp only [Option.isSome_none, Bool.false_eq_true, if_false]
    refine wpAny_pure (hQ h₂ fun b o hb e => he₂ b o hb (hs₁.extBut b o hb (Heap.get?_push_of_some _ e)))
end
section
variable {X : Cx} {pos : Pos}
def gLst (K : PySem.W.Frag) (n : Nat) (t : TGs) : TG := fun v σ H Q => ∃ a xs, v = .ref a ∧ SqL K H a xs ∧ xs.length = n ∧ t xs σ H Q
theorem pg_lst {es : List Expr} {k : Nat} {t : TGs} {n : Nat} (hc : X.calm = true) (h : PGs X es t)
    (hn : (assignEach es X.env).length = n) (hst : (assignEach es X.env).findIdx? (·.1) = none) : PG X (.Tuple es k pos) (gLst X.K n t) := by
  intro pins s σ H v u Q I r hw
  obtain ⟨a, xs, e1, hq, hl, hw⟩ := hw
  subst e1
  cases r
  obtain ⟨its, rv, ht, hz⟩ := I.list hq
  rw [PyProof.Rows.assign_Tuple]
  refine wpAny_bind (wpAny_standAt ?_)
  unfold unpack
  have hsz : (assignEach es X.env).length = its.toArray.size := by rw [hn, List.size_toArray, ← rv.length, hl]
  rw [hsz, hst]
  refine wpAny_bind (wpAny_holding (unpackItemsL (I.ok.hd hc) ht.isList fun h' hx => ?_))
  have I1 : Inv X pins σ H { s with heap := h' } := I.kept (t' := s.toks) fun b o e => hx b o (Nat.ne_of_lt (Heap.lt_size e)) e
  exact h pins _ σ H xs _ Q I1 (by simpa using rv) hw
def gSeq (K : PySem.W.Frag) (n : Nat) (t : TGs) : TG := fun v σ H Q => gTup K n t v σ H Q ∨ gLst K n t v σ H Q
theorem pg_seqK {K : PySem.W.Frag} {es : List Expr} {k : Nat} {t : TGs} {n : Nat} (hK : X.K = K) (hc : X.calm = true) (h : PGs X es t)
    (hn : (assignEach es X.env).length = n := by rfl) (hst : (assignEach es X.env).findIdx? (·.1) = none := by rfl) : PG X (.Tuple es k pos) (gSeq K n t) := by
  subst hK
  intro pins s σ H v u Q I r hw
  rcases hw with hw | hw
  · exact pg_tup hc h hn hst pins s σ H v u Q I r hw
  · exact pg_lst hc h hn hst pins s σ H v u Q I r hw
end
end L2
set_option Elab.async false
set_option linter.all false
set_option maxRecDepth 100000
namespace L2
open PySem PySem.Spec PyProof.Rows
section
variable {K : PySem.W.Frag} {ρ : List Addr}
def vOf : W → Option V
  | .none => some .non
  | .bool b => some (.bl b)
  | .int i => some (.int i)
  | .str x => some (.str x)
  | _ => none
def vsOf : List W → Option (List V)
  | [] => some []
  | d :: ds => (vOf d).bind fun v => (vsOf ds).map (v :: ·)
theorem vOf_eq {H : Hp} {v u : V} {d : W} (h : Dw K ρ H v d) (e : vOf d = some u) : v = u ∧ flatV u = true := by
  cases h <;> first | (cases e; exact ⟨rfl, rfl⟩) | cases e
theorem vsOf_eq {H : Hp} : ∀ {vs us : List V} {ds : List W}, DwAll K ρ H vs ds → vsOf ds = some us → vs = us ∧ us.all flatV = true
  | _, _, _, .nil, e => by cases e; exact ⟨rfl, rfl⟩
  | _, _, _, .cons h t, e => by
    obtain ⟨u, e1, e⟩ := Option.bind_eq_some_iff.mp e
    obtain ⟨us, e2, rfl⟩ := Option.map_eq_some_iff.mp e
    obtain ⟨h1, h2⟩ := vOf_eq h e1
    obtain ⟨h3, h4⟩ := vsOf_eq t e2
    exact ⟨by rw [h1, h3], by rw [List.all_cons, h2, h4]; rfl⟩
def cIn (d e : W) : Option Bool := (seqD e).bind fun ds => (vOf d).bind fun v => (vsOf ds).map fun vs => inV v vs
theorem cIn_core {H : Hp} {x y : V} {d e : W} {b : Bool} (hx : Dw K ρ H x d) (hy : Dw K ρ H y e) (h : cIn d e = some b) : ∃ p xs, y = .ref p ∧ (SqL K H p xs ∨ SqT K H p xs) ∧ flatV x = true ∧ xs.all flatV = true ∧ inV x xs = b := by
  obtain ⟨ds, e1, h⟩ := Option.bind_eq_some_iff.mp h
  obtain ⟨v, e2, h⟩ := Option.bind_eq_some_iff.mp h
  obtain ⟨vs, e3, rfl⟩ := Option.map_eq_some_iff.mp h
  obtain ⟨rfl, f1⟩ := vOf_eq hx e2
  cases hy with
  | lst sq da =>
    cases e1
    obtain ⟨rfl, f2⟩ := vsOf_eq da e3
    exact ⟨_, _, rfl, .inl sq, f1, f2, rfl⟩
  | tup sq da =>
    cases e1
    obtain ⟨rfl, f2⟩ := vsOf_eq da e3
    exact ⟨_, _, rfl, .inr sq, f1, f2, rfl⟩
  | _ => cases e1
theorem db_in : DB K ρ (rIn K false) cIn := fun H x y d e b Q hx hy hg q => by
  obtain ⟨p, xs, h1, h2, h3, h4, rfl⟩ := cIn_core hx hy hg
  exact ⟨p, xs, h1, h2, h3, h4, q⟩
def bsOf : List W → Option (List Bool)
  | [] => some []
  | d :: ds => (asB d).bind fun b => (bsOf ds).map (b :: ·)
theorem bsOf_eq {G : Hp} : ∀ {vs : List V} {ds : List W} {bs : List Bool}, DwAll K ρ G vs ds → bsOf ds = some bs → vs = bs.map V.bl
  | _, _, _, .nil, e => by cases e; rfl
  | _, _, _, .cons h t, e => by
    obtain ⟨i, e1, e⟩ := Option.bind_eq_some_iff.mp e
    obtain ⟨ms, e2, rfl⟩ := Option.map_eq_some_iff.mp e
    cases asB_eq e1
    cases dp_bl h
    rw [bsOf_eq t e2]
    rfl
def gAll (d : W) : Option W := (listD d).bind fun ds => (bsOf ds).map fun bs => .bool (bs.all id)
def gAny (d : W) : Option W := (listD d).bind fun ds => (bsOf ds).map fun bs => .bool (bs.any id)
theorem dc_all : DCk K ρ (rAll K) gAll := fun G H x d c Q s hx hg q => by
  obtain ⟨ds, e1, hg⟩ := Option.bind_eq_some_iff.mp hg
  obtain ⟨bs, e2, rfl⟩ := Option.map_eq_some_iff.mp hg
  cases listD_eq e1
  obtain ⟨p, vs, rfl, sq, da⟩ := pk_lst s hx
  rw [bsOf_eq da e2] at sq
  exact ⟨p, bs, rfl, sq, q _ G H (.refl s) (.bl _)⟩
theorem dc_any : DCk K ρ (rAny K) gAny := fun G H x d c Q s hx hg q => by
  obtain ⟨ds, e1, hg⟩ := Option.bind_eq_some_iff.mp hg
  obtain ⟨bs, e2, rfl⟩ := Option.map_eq_some_iff.mp hg
  cases listD_eq e1
  obtain ⟨p, vs, rfl, sq, da⟩ := pk_lst s hx
  rw [bsOf_eq da e2] at sq
  exact ⟨p, bs, rfl, sq, q _ G H (.refl s) (.bl _)⟩
def dgSeq (n : Nat) (k : List W → DS → Option DS) : W → DS → Option DS := fun d δ => (seqD d).bind fun ds => if ds.length = n then k ds δ else none
theorem dg_seq {n : Nat} {u : TGs} {k : List W → DS → Option DS} (h : DGs K ρ u k) : DG K ρ (gSeq K n u) (dgSeq n k) := fun G H δ σ v d δ' Q R dv e q => by
  obtain ⟨ds, e1, e2⟩ := Option.bind_eq_some_iff.mp e
  split at e2
  case isFalse => cases e2
  rename_i hn
  clear e
  cases dv with
  | tup sq da =>
    cases e1
    exact .inl ⟨_, _, rfl, R.sub.tup sq, by rw [da.length]; exact hn, h G H δ σ _ _ δ' Q R da e2 q⟩
  | lst sq da =>
    cases e1
    exact .inr ⟨_, _, rfl, R.sub.seq sq, by rw [da.length]; exact hn, h G H δ σ _ _ δ' Q R da e2 q⟩
  | _ => cases e1
end
section
variable {K : PySem.W.Frag} {cl : Str → Addr} {E : XK}
def lstAt (x : W) (S : Sto) : Option (Nat × List W) := match obAt x S with
  | some (n, .lst ds) => some (n, ds)
  | _ => none
theorem lstAt_some {x : W} {S : Sto} {n : Nat} {ds : List W} (h : lstAt x S = some (n, ds)) : x = .ref n ∧ S[n]? = some (.lst ds) := by
  unfold lstAt at h
  split at h
  · rename_i n' ds' e
    cases h
    exact obAt_some e
  · cases h
def seqS (x : W) (S : Sto) : Option (List W) := match lstAt x S with
  | some (_, ds) => some ds
  | none => seqD x
theorem seqS_read {ρ : List Addr} {G H : Hp} {S : Sto} {v : V} {x : W} {ds : List W} (sg : Same G H) (s : SR K ρ cl G H S) (dv : Dw K ρ G v x) (h : seqS x S = some ds) : ∃ p vs, v = .ref p ∧ (SqL K H p vs ∨ SqT K H p vs) ∧ DwAll K ρ G vs ds := by
  unfold seqS at h
  split at h
  · rename_i n ds' e
    cases h
    obtain ⟨rfl, e2⟩ := lstAt_some e
    obtain ⟨a, rfl, ea⟩ := dw_ref dv
    obtain ⟨ga, vs, k1, k2⟩ := s.addr e2 ea
    exact ⟨a, vs, rfl, .inl (SqL.of k1), k2⟩
  · cases dv with
    | lst sq da => cases h; exact ⟨_, _, rfl, .inl (sg.seq sq), da⟩
    | tup sq da => cases h; exact ⟨_, _, rfl, .inr (sg.tup sq), da⟩
    | _ => cases h
def gIxS (x y : W) (S : Sto) : Option W := match lstAt x S with
  | some (_, ds) => (asI y).bind fun i => atI ds i
  | none => gIx x y
def sIx (fa fb : DS → Sto → SM W) : DS → Sto → SM W := fun δ S => sBind (fa δ S) fun x S1 => sBind (fb δ S1) fun y S2 => sOk (gIxS x y S2) S2
theorem se_ix {ta tb : TE} {fa fb : DS → Sto → SM W} (ha : SE K cl E ta fa) (hb : SE K cl E tb fb) : SE K cl E (tOp (rIx K) ta tb) (sIx fa fb) := fun ρ G σ H δ S r' S' Q R e q qx =>
  se_two ha hb R e (fun x y S2 e2 v u ρ2 G2 H2 g2 s2 dv du => by
    obtain ⟨c, e3, rfl, rfl⟩ := sOk_some e2
    unfold gIxS at e3
    split at e3
    · rename_i n ds e4
      obtain ⟨i, e5, e6⟩ := Option.bind_eq_some_iff.mp e3
      cases asI_eq e5
      cases dp_int du
      obtain ⟨rfl, e7⟩ := lstAt_some e4
      obtain ⟨a, rfl, ea⟩ := dw_ref dv
      obtain ⟨ga, vs, k1, k2⟩ := s2.addr e7 ea
      obtain ⟨w, h1, h2⟩ := k2.at e6
      exact .inl ⟨a, vs, _, w, rfl, rfl, SqL.of k1, h1, q c rfl w ρ2 G2 H2 g2 s2 h2⟩
    · exact dr_ix G2 H2 v u x y c Q g2.s (.inl dv) du e3 fun w G3 H3 g3 dw => q c rfl w ρ2 G3 H3 (g2.trans (.of g3)) (s2.grow g3) dw) qx
def gLenS (x : W) (S : Sto) : Option W := match lstAt x S with
  | some (_, ds) => some (.int ds.length)
  | none => gLen x
def sLen (fa : DS → Sto → SM W) : DS → Sto → SM W := fun δ S => sBind (fa δ S) fun x S1 => sOk (gLenS x S1) S1
theorem se_len {ta : TE} {fa : DS → Sto → SM W} (ha : SE K cl E ta fa) : SE K cl E (tCB (rLenA K) (tCons ta tNil)) (sLen fa) := fun ρ G σ H δ S r' S' Q R e q qx =>
  se_one ha R e (fun x S2 e2 v ρ2 G2 H2 g2 s2 dv => by
    obtain ⟨c, e3, rfl, rfl⟩ := sOk_some e2
    unfold gLenS at e3
    split at e3
    · rename_i n ds e4
      cases e3
      obtain ⟨rfl, e7⟩ := lstAt_some e4
      obtain ⟨a, rfl, ea⟩ := dw_ref dv
      obtain ⟨ga, vs, k1, k2⟩ := s2.addr e7 ea
      exact .inl ⟨a, vs, rfl, .inl (SqL.of k1), by rw [k2.length]; exact q _ rfl _ ρ2 G2 H2 g2 s2 (.int _)⟩
    · exact dc_len G2 H2 v x c Q g2.s (.inl dv) e3 fun w G3 H3 g3 dw => q c rfl w ρ2 G3 H3 (g2.trans (.of g3)) (s2.grow g3) dw) qx
def sC1 (g : W → Option W) (fa : DS → Sto → SM W) : DS → Sto → SM W := fun δ S => sBind (fa δ S) fun x S1 => sOk (g x) S1
theorem se_c1 {r : List V → Hp → VK → Prop} {g : W → Option W} {ta : TE} {fa : DS → Sto → SM W} (hr : ∀ ρ, DCk K ρ r g) (ha : SE K cl E ta fa) : SE K cl E (tCB r (tCons ta tNil)) (sC1 g fa) := fun ρ G σ H δ S r' S' Q R e q qx =>
  se_one ha R e (fun x S2 e2 v ρ2 G2 H2 g2 s2 dv => by
    obtain ⟨c, e3, rfl, rfl⟩ := sOk_some e2
    exact hr ρ2 G2 H2 v x c Q g2.s (.inl dv) e3 fun w G3 H3 g3 dw => q c rfl w ρ2 G3 H3 (g2.trans (.of g3)) (s2.grow g3) dw) qx
def sListS (fa : DS → Sto → SM W) : DS → Sto → SM W := fun δ S => sBind (fa δ S) fun x S1 => (seqS x S1).map fun ds => (.ok (.ref S1.length), S1 ++ [.lst ds])
theorem se_listS {ta : TE} {fa : DS → Sto → SM W} (ha : SE K cl E ta fa) : SE K cl E (tCB (rListOf K) (tCons ta tNil)) (sListS fa) := fun ρ G σ H δ S r' S' Q R e q qx =>
  se_one ha R e (fun x S2 e2 v ρ2 G2 H2 g2 s2 dv => by
    obtain ⟨ds, e4, e5⟩ := Option.map_eq_some_iff.mp e2
    cases e5
    obtain ⟨p, vs, rfl, sq, da⟩ := seqS_read g2.s s2 dv e4
    refine ⟨p, vs, rfl, sq, fun l hl => ?_⟩
    obtain ⟨s3, g3⟩ := s2.push (o := .lst ds) g2.s (Nw.of (o := .lst vs) hl) fun ρ' hr => ⟨vs, upd_same, da.ext hr⟩
    exact q _ rfl _ _ _ _ (g2.trans g3) s3 (.ref (by rw [← s2.len]; simp))) qx
def gIsiS (T : String) (x : W) (S : Sto) : Option W := match lstAt x S with
  | some _ => if T = "list" then some (.bool true) else none
  | none => match x with
    | .list _ => if T = "list" then some (.bool true) else none
    | .tuple _ => if T = "tuple" then some (.bool true) else none
    | _ => gIsi T x
def rIsiB (K : PySem.W.Frag) : List V → Hp → VK → Prop := fun xs H Q => rIsi xs H Q ∨ rIsiT K xs H Q ∨ rIsiL K xs H Q
theorem call_isiB {X : Cx} {K : PySem.W.Frag} (h : X.K = K) : CallR X (.builtin "isinstance") (rIsiB K) := call_isiK.or ((call_isiTK h).or (call_isiLK h))
def sIsi (T : String) (fa : DS → Sto → SM W) : DS → Sto → SM W := fun δ S => sBind (fa δ S) fun x S1 => sOk (gIsiS T x S1) S1
theorem kit_same (c : Value) (h : (c == c) = true) : PySem.W.kitOne K c c = some true := by
  unfold PySem.W.kitOne
  rw [if_pos h]
theorem se_isi {T : String} {ta : TE} {fa : DS → Sto → SM W} (ha : SE K cl E ta fa) : SE K cl E (tCB (rIsiB K) (tCons ta (tCons (tC (.ty T)) tNil))) (sIsi T fa) := fun ρ G σ H δ S r' S' Q R e q qx =>
  se_one ha R e (fun x S2 e2 v ρ2 G2 H2 g2 s2 dv => by
    obtain ⟨c, e3, rfl, rfl⟩ := sOk_some e2
    show rIsiB K [v, .ty T] H2 Q
    unfold gIsiS at e3
    split at e3
    · rename_i p e4
      obtain ⟨n, ds⟩ := p
      split at e3
      · rename_i hT
        subst hT
        cases e3
        obtain ⟨rfl, e7⟩ := lstAt_some e4
        obtain ⟨a, rfl, ea⟩ := dw_ref dv
        obtain ⟨ga, vs, k1, k2⟩ := s2.addr e7 ea
        exact .inr (.inr ⟨a, vs, "list", true, rfl, SqL.of k1, kit_same _ (by decide), q _ rfl _ ρ2 G2 H2 g2 s2 (.bl _)⟩)
      · cases e3
    · split at e3
      · split at e3
        · rename_i hT
          subst hT
          cases e3
          obtain ⟨a, vs, rfl, sq, da⟩ := dp_lst dv
          exact .inr (.inr ⟨a, vs, "list", true, rfl, g2.s.seq sq, kit_same _ (by decide), q _ rfl _ ρ2 G2 H2 g2 s2 (.bl _)⟩)
        · cases e3
      · split at e3
        · rename_i hT
          subst hT
          cases e3
          obtain ⟨a, vs, rfl, sq, da⟩ := dp_tup dv
          exact .inr (.inl ⟨a, vs, "tuple", true, rfl, g2.s.tup sq, kit_same _ (by decide), q _ rfl _ ρ2 G2 H2 g2 s2 (.bl _)⟩)
        · cases e3
      · unfold gIsi at e3
        split at e3
        all_goals first
          | cases e3
          | (obtain ⟨k, ek, rfl⟩ := Option.map_eq_some_iff.mp e3
             cases dv
             exact .inl ⟨_, T, k, rfl, ek, q _ rfl _ ρ2 G2 H2 g2 s2 (.bl k)⟩)) qx
def ssAppend (fo fv : DS → Sto → SM W) : DS → Sto → SO := fun δ S => soB (fo δ S) fun x S1 => if (lstAt x S1).isSome = true then soB (fv δ S1) fun d S2 => (lstAt x S2).bind fun p => if p.2.length < sizeLine then some (.nx δ, S2.set p.1 (.lst (p.2 ++ [d]))) else none else none
theorem ref_kept {ρ ρ' : List Addr} {n : Nat} {a : Addr} (h : ρ <+: ρ') (e : ρ[n]? = some a) : ρ'[n]? = some a := by
  obtain ⟨t, rfl⟩ := h
  rw [List.getElem?_append_left (List.getElem?_eq_some_iff.mp e).1]
  exact e
theorem ss_append {to tv : TE} {fo fv : DS → Sto → SM W} (ho : SE K cl E to fo) (hv : SE K cl E tv fv) : SSt K cl E (tDrop (tBM K "list" rAppend to (tCons tv tNil))) (ssAppend fo fv) := fun ρ0 G0 H0 ρ G σ H δ S o S' D I e p =>
  so_one ho I e p fun x S1 e1 u ρ1 G1 H1 g1 s1 du => by
    split at e1
    case isFalse => cases e1
    rename_i hx
    obtain ⟨⟨n, ds0⟩, hx0⟩ := Option.isSome_iff_exists.mp hx
    obtain ⟨rfl, h0⟩ := lstAt_some hx0
    obtain ⟨a, rfl, ea⟩ := dw_ref du
    obtain ⟨_, vs0, k0, _⟩ := s1.addr h0 ea
    have I1 := I.grow g1 s1
    refine ⟨.inl ⟨rfl, vs0, SqL.of k0⟩, so_one hv I1 e1 p fun d S2 e2 v ρ2 G2 H2 g2 s2 dv => ?_⟩
    obtain ⟨⟨m, ds⟩, e3, e4⟩ := Option.bind_eq_some_iff.mp e2
    split at e4
    case isFalse => cases e4
    rename_i hl
    cases e4
    obtain ⟨em, e5⟩ := lstAt_some e3
    cases em
    have ea2 := ref_kept g2.r ea
    obtain ⟨ga, vs, k1, k2⟩ := s2.addr e5 ea2
    obtain ⟨s3, g3⟩ := s2.put (x := .lst (vs ++ [v])) (o' := .lst (ds ++ [d])) g2.s e5 ea2 (fun b z => by cases z) ⟨_, upd_same, k2.app (.cons dv .nil)⟩
    exact ⟨a, vs, v, rfl, rfl, k1, by rw [k2.length]; exact hl, p σ ρ2 G2 _ ((I1.grow g2 s2).grow g3 s3)⟩
def ssClear (fo : DS → Sto → SM W) : DS → Sto → SO := fun δ S => soB (fo δ S) fun x S1 => (lstAt x S1).map fun p => (.nx δ, S1.set p.1 (.lst []))
theorem ss_clear {to : TE} {fo : DS → Sto → SM W} (ho : SE K cl E to fo) : SSt K cl E (tDrop (tBM0 K "list" rClear to)) (ssClear fo) := fun ρ0 G0 H0 ρ G σ H δ S o S' D I e p =>
  so_one ho I e p fun x S1 e1 u ρ1 G1 H1 g1 s1 du => by
    obtain ⟨⟨n, ds⟩, hx0, e2⟩ := Option.map_eq_some_iff.mp e1
    cases e2
    obtain ⟨rfl, h0⟩ := lstAt_some hx0
    obtain ⟨a, rfl, ea⟩ := dw_ref du
    obtain ⟨_, vs, k1, k2⟩ := s1.addr h0 ea
    obtain ⟨s3, g3⟩ := s1.put (x := .lst []) (o' := .lst []) g1.s h0 ea (fun b z => by cases z) ⟨_, upd_same, .nil⟩
    exact ⟨.inl ⟨rfl, vs, SqL.of k1⟩, a, vs, rfl, rfl, k1, p σ ρ1 G1 _ ((I.grow g1 s1).grow g3 s3)⟩
def ssSetI (fo fi fv : DS → Sto → SM W) : DS → Sto → SO := fun δ S => soB (fv δ S) fun d S1 => soB (fo δ S1) fun x S2 => soB (fi δ S2) fun y S3 => (lstAt x S3).bind fun p => (asI y).bind fun k => (ixN p.2.length k).map fun j => (.nx δ, S3.set p.1 (.lst (p.2.set j d)))
theorem ss_setI {to ti tv : TE} {fo fi fv : DS → Sto → SM W} (ho : SE K cl E to fo) (hi : SE K cl E ti fi) (hv : SE K cl E tv fv) : SSt K cl E (tAsg tv (gSub to ti rSetL)) (ssSetI fo fi fv) := fun ρ0 G0 H0 ρ G σ H δ S o S' D I e p =>
  so_one hv I e p fun d S1 e1 v ρ1 G1 H1 g1 s1 dv => by
    have I1 := I.grow g1 s1
    refine so_one ho I1 e1 p fun x S2 e2 u ρ2 G2 H2 g2 s2 du => ?_
    have I2 := I1.grow g2 s2
    refine so_one hi I2 e2 p fun y S3 e3 w ρ3 G3 H3 g3 s3 dw => ?_
    obtain ⟨⟨n, ds⟩, e4, e5⟩ := Option.bind_eq_some_iff.mp e3
    obtain ⟨k, e6, e7⟩ := Option.bind_eq_some_iff.mp e5
    obtain ⟨j, e8, e9⟩ := Option.map_eq_some_iff.mp e7
    cases e9
    cases asI_eq e6
    cases dp_int dw
    obtain ⟨rfl, e10⟩ := lstAt_some e4
    obtain ⟨a, rfl, ea⟩ := dw_ref du
    have ea3 := ref_kept g3.r ea
    obtain ⟨ga, vs, k1, k2⟩ := s3.addr e10 ea3
    have g23 := g2.trans g3
    obtain ⟨s4, g4⟩ := s3.put (x := .lst (vs.set j v)) (o' := .lst (ds.set j d)) g3.s e10 ea3 (fun b z => by cases z) ⟨_, upd_same, DwAll.set ((dv.ext g23.r).same g23.g) j k2⟩
    exact ⟨a, vs, k, j, rfl, rfl, k1, by rw [k2.length]; exact e8, p σ ρ3 G3 _ ((I2.grow g3 s3).grow g4 s4)⟩
def keyOf : W → Option Key
  | .int i => some (Sum.inl i)
  | .str x => some (Sum.inr x)
  | _ => none
theorem keyOf_eq {ρ : List Addr} {G : Hp} {v : V} {d : W} {k : Key} (h : Dw K ρ G v d) (e : keyOf d = some k) : v = kV k := by
  cases h <;> first | (cases e; rfl) | cases e
def dkAt (x : W) (S : Sto) : Option (Nat × List (Key × W)) := match obAt x S with
  | some (n, .dK kvs) => some (n, kvs)
  | _ => none
theorem dkAt_some {x : W} {S : Sto} {n : Nat} {kvs : List (Key × W)} (h : dkAt x S = some (n, kvs)) : x = .ref n ∧ S[n]? = some (.dK kvs) := by
  unfold dkAt at h
  split at h
  · rename_i n' ds' e
    cases h
    exact obAt_some e
  · cases h
def valW {κ : Type} [DecidableEq κ] (kvs : List (κ × W)) (k : κ) : Option W := (kvs.find? fun kv => decide (kv.1 = k)).map (·.2)
def putKW {κ : Type} [DecidableEq κ] (kvs : List (κ × W)) (k : κ) (v : W) : List (κ × W) := if (kvs.any fun kv => decide (kv.1 = k)) = true then kvs.map fun kv => if kv.1 = k then (kv.1, v) else kv else kvs ++ [(k, v)]
theorem KvR.val {κ : Type} [DecidableEq κ] {ρ : List Addr} {G : Hp} {k : κ} : ∀ {l : List (κ × W)} {m : List (κ × V)}, KvR K ρ G l m → (∀ d, valW l k = some d → ∃ v, valV m k = some v ∧ Dw K ρ G v d) ∧ (valW l k = none → valV m k = none)
  | _, _, .nil => ⟨(fun d e => by cases e), fun _ => rfl⟩
  | _, _, .cons (k := j) (d := x0) (l := l) (m := m) a b => by
    obtain ⟨h1, h2⟩ := KvR.val (k := k) b
    by_cases hj : j = k
    · subst hj
      refine ⟨fun d e => ?_, fun e => ?_⟩
      · have e' : valW ((j, x0) :: l) j = some x0 := by simp [valW, List.find?_cons]
        rw [e'] at e
        cases e
        exact ⟨_, valV_pos rfl, a⟩
      · simp [valW, List.find?_cons] at e
    · refine ⟨fun d e => ?_, fun e => ?_⟩
      · rw [valV_neg hj]
        exact h1 d (by simpa [valW, List.find?_cons, hj] using e)
      · rw [valV_neg hj]
        exact h2 (by simpa [valW, List.find?_cons, hj] using e)
theorem KvR.any {κ : Type} [DecidableEq κ] {ρ : List Addr} {G : Hp} {k : κ} : ∀ {l : List (κ × W)} {m : List (κ × V)}, KvR K ρ G l m → (l.any fun kv => decide (kv.1 = k)) = m.any fun kv => decide (kv.1 = k)
  | _, _, .nil => rfl
  | _, _, .cons a b => by rw [List.any_cons, List.any_cons, KvR.any b]
theorem KvR.repl {κ : Type} [DecidableEq κ] {ρ : List Addr} {G : Hp} {k : κ} {v : V} {d : W} (h : Dw K ρ G v d) : ∀ {l : List (κ × W)} {m : List (κ × V)}, KvR K ρ G l m → KvR K ρ G (l.map fun kv => if kv.1 = k then (kv.1, d) else kv) (m.map fun kv => if kv.1 = k then (kv.1, v) else kv)
  | _, _, .nil => .nil
  | _, _, .cons (k := j) a b => by
    rw [List.map_cons, List.map_cons]
    by_cases hj : j = k
    · simp only [if_pos hj]
      exact .cons h (KvR.repl h b)
    · simp only [if_neg hj]
      exact .cons a (KvR.repl h b)
theorem KvR.snoc {κ : Type} {ρ : List Addr} {G : Hp} {k : κ} {v : V} {d : W} (h : Dw K ρ G v d) : ∀ {l : List (κ × W)} {m : List (κ × V)}, KvR K ρ G l m → KvR K ρ G (l ++ [(k, d)]) (m ++ [(k, v)])
  | _, _, .nil => .cons h .nil
  | _, _, .cons a b => .cons a (KvR.snoc h b)
theorem KvR.put {κ : Type} [DecidableEq κ] {ρ : List Addr} {G : Hp} {k : κ} {v : V} {d : W} (h : Dw K ρ G v d) {l : List (κ × W)} {m : List (κ × V)} (r : KvR K ρ G l m) : KvR K ρ G (putKW l k d) (putK m k v) := by
  unfold putKW putK
  rw [r.any]
  split
  · exact r.repl h
  · exact r.snoc h
def sDDef (fo fk fx : DS → Sto → SM W) : DS → Sto → SM W := fun δ S => sBind (fo δ S) fun x S1 => if (dkAt x S1).isSome = true then sBind (fk δ S1) fun y S2 => sBind (fx δ S2) fun z S3 => (dkAt x S3).bind fun p => (keyOf y).bind fun k => if p.2.length < sizeLine then match valW p.2 k with
    | some d => some (.ok d, S3)
    | none => some (.ok z, S3.set p.1 (.dK (putKW p.2 k z)))
  else none else none
theorem se_ddef {to tk tx : TE} {fo fk fx : DS → Sto → SM W} (ho : SE K cl E to fo) (hk : SE K cl E tk fk) (hx : SE K cl E tx fx) : SE K cl E (tDDef to tk tx) (sDDef fo fk fx) := fun ρ G σ H δ S r S' Q R e q qx =>
  se_one ho R e (fun x S1 e1 v ρ1 G1 H1 g1 s1 dv => by
    split at e1
    case isFalse => cases e1
    rename_i hx1
    obtain ⟨⟨n, kvs0⟩, hx0⟩ := Option.isSome_iff_exists.mp hx1
    obtain ⟨rfl, h0⟩ := dkAt_some hx0
    obtain ⟨a, rfl, ea⟩ := dw_ref dv
    obtain ⟨_, ws0, k0, _⟩ := s1.addr h0 ea
    have R1 := R.grow g1 s1
    refine ⟨a, rfl, .inl ⟨ws0, .inl k0⟩, ?_⟩
    refine se_one hk R1 e1 (fun y S2 e2 u ρ2 G2 H2 g2 s2 du => ?_) fun c hc ρ2 G2 H2 g2 s2 => qx c hc ρ2 G2 H2 (g1.trans g2) s2
    refine se_one hx (R1.grow g2 s2) e2 (fun z S3 e3 w ρ3 G3 H3 g3 s3 dw => ?_) fun c hc ρ3 G3 H3 g3 s3 => qx c hc ρ3 G3 H3 (g1.trans (g2.trans g3)) s3
    obtain ⟨⟨m, kvs⟩, e4, e5⟩ := Option.bind_eq_some_iff.mp e3
    obtain ⟨k, e6, e7⟩ := Option.bind_eq_some_iff.mp e5
    split at e7
    case isFalse => cases e7
    rename_i hl
    obtain ⟨em, e8⟩ := dkAt_some e4
    cases em
    have g13 := g1.trans (g2.trans g3)
    have ea3 := ref_kept (g2.trans g3).r ea
    obtain ⟨ga, ws, k1, k2⟩ := s3.addr e8 ea3
    obtain ⟨v1, v2⟩ := k2.val (k := k)
    refine ⟨ws, k, k1, keyOf_eq du e6, by rw [← k2.length]; exact hl, fun v hv => ?_, fun hv => ?_⟩
    · split at e7
      · rename_i d hd
        cases e7
        obtain ⟨v', h1, h2⟩ := v1 d hd
        rw [hv] at h1
        cases h1
        exact q d rfl v ρ3 G3 H3 g13 s3 h2
      · rename_i hd
        rw [v2 hd] at hv
        cases hv
    · split at e7
      · rename_i d hd
        obtain ⟨v', h1, h2⟩ := v1 d hd
        rw [hv] at h1
        cases h1
      · rename_i hd
        cases e7
        obtain ⟨s4, g4⟩ := s3.put (x := .dK (putK ws k w)) (o' := .dK (putKW kvs k z)) g13.s e8 ea3 (fun b zz => by cases zz) ⟨_, upd_same, k2.put dw⟩
        exact q z rfl w ρ3 G3 _ (g13.trans g4) s4 dw) qx
def lookS (S : Sto) (n : Nat) : Option (List W) := match S[n]? with
  | some (.lst ds) => some ds
  | _ => none
def pysG (f : W → Option PyData) : List W → Option (List PyData)
  | [] => some []
  | d :: ds => (f d).bind fun x => (pysG f ds).map (x :: ·)
def pyS (S : Sto) : Nat → W → Option PyData
  | 0, _ => none
  | n + 1, d => match d with
    | .list ds => (pysG (pyS S n) ds).map .list
    | .tuple ds => (pysG (pyS S n) ds).map .tuple
    | .ref m => (lookS S m).bind fun ds => (pysG (pyS S n) ds).map .list
    | d => d.py
theorem pysG_dp {H : Hp} {ρ : List Addr} {G : Hp} {f : W → Option PyData} (hf : ∀ v d x, Dw K ρ G v d → f d = some x → Dp K H v x) : ∀ {vs : List V} {ds : List W} {xs : List PyData}, DwAll K ρ G vs ds → pysG f ds = some xs → DpAll K H vs xs
  | _, _, _, .nil, e => by cases e; exact .nil
  | _, _, _, .cons h t, e => by
    obtain ⟨x, e1, e⟩ := Option.bind_eq_some_iff.mp e
    obtain ⟨ys, e2, rfl⟩ := Option.map_eq_some_iff.mp e
    exact .cons (hf _ _ _ h e1) (pysG_dp hf t e2)
theorem pyS_dp {ρ : List Addr} {G H : Hp} {S : Sto} (sg : Same G H) (s : SR K ρ cl G H S) : ∀ (n : Nat) (v : V) (d : W) (x : PyData), Dw K ρ G v d → pyS S n d = some x → Dp K H v x
  | 0, _, _, _, _, e => by cases e
  | n + 1, v, d, x, h, e => by
    cases h with
    | lst sq da =>
      obtain ⟨xs, e1, rfl⟩ := Option.map_eq_some_iff.mp e
      exact .lst (sg.seq sq) (pysG_dp (fun v d x => pyS_dp sg s n v d x) da e1)
    | tup sq da =>
      obtain ⟨xs, e1, rfl⟩ := Option.map_eq_some_iff.mp e
      exact .tup (sg.tup sq) (pysG_dp (fun v d x => pyS_dp sg s n v d x) da e1)
    | ref ea =>
      obtain ⟨ds, e1, e2⟩ := Option.bind_eq_some_iff.mp e
      obtain ⟨xs, e3, rfl⟩ := Option.map_eq_some_iff.mp e2
      unfold lookS at e1
      split at e1
      · rename_i ds' h1
        cases e1
        obtain ⟨ga, vs, k1, k2⟩ := s.addr h1 ea
        exact .lst (SqL.of k1) (pysG_dp (fun v d x => pyS_dp sg s n v d x) k2 e3)
      · cases e1
    | non => exact Dw.dp (ρ := ρ) .non e
    | bl b => exact Dw.dp (ρ := ρ) (.bl b) e
    | int i => exact Dw.dp (ρ := ρ) (.int i) e
    | str y => exact Dw.dp (ρ := ρ) (.str y) e
def cEqS (neg : Bool) (d e : W) (S : Sto) : Option Bool := match scD d e with
  | some b => some (if neg then !b else b)
  | none => (pyS S 8 d).bind fun a => (pyS S 8 e).bind fun b => if (a.canLay0 && b.canLay0 && decide (a.depth ≤ 64)) = true then some (if neg then !(PyData.eqv a b) else PyData.eqv a b) else none
def rEqB (K : PySem.W.Frag) (neg : Bool) : R2 := if neg then rNeA K else rEqA K
def sEq (neg : Bool) (fa fb : DS → Sto → SM W) : DS → Sto → SM Bool := fun δ S => sBind (fa δ S) fun x S1 => sBind (fb δ S1) fun y S2 => sOk (cEqS neg x y S2) S2
theorem eqS_core {ρ : List Addr} {G H : Hp} {S : Sto} {neg : Bool} {v u : V} {x y : W} {b : Bool} {Q : VK} (sg : Same G H) (s : SR K ρ cl G H S) (dv : Dw K ρ G v x) (du : Dw K ρ G u y) (h : cEqS neg x y S = some b) (q : Q (.bl b) H) : rEqB K neg v u H Q := by
  unfold cEqS at h
  split at h
  · rename_i b' hb
    cases h
    obtain ⟨h1, h2⟩ := scD_ok (dv.same sg) (du.same sg) hb
    cases neg with
    | false => exact .inl ⟨h1, by rw [h2]; exact q⟩
    | true => exact .inl ⟨h1, by rw [h2]; exact q⟩
  · obtain ⟨a, ea, h⟩ := Option.bind_eq_some_iff.mp h
    obtain ⟨c, ec, h⟩ := Option.bind_eq_some_iff.mp h
    split at h
    · rename_i hc
      cases h
      simp only [Bool.and_eq_true, decide_eq_true_eq] at hc
      cases neg with
      | false => exact .inr ⟨a, c, pyS_dp sg s 8 _ _ _ dv ea, pyS_dp sg s 8 _ _ _ du ec, hc.1.1, hc.1.2, hc.2, q⟩
      | true => exact .inr ⟨a, c, pyS_dp sg s 8 _ _ _ dv ea, pyS_dp sg s 8 _ _ _ du ec, hc.1.1, hc.1.2, hc.2, q⟩
    · cases h
theorem st_eq {neg : Bool} {ta tb : TE} {fa fb : DS → Sto → SM W} (ha : SE K cl E ta fa) (hb : SE K cl E tb fb) : ST K cl E (tTest (tOp (rEqB K neg) ta tb)) (sEq neg fa fb) := fun ρ G σ H δ S r' S' Q R e q qx =>
  se_two ha hb R e (fun x y S2 e2 v u ρ2 G2 H2 g2 s2 dv du => by
    obtain ⟨c, e3, rfl, rfl⟩ := sOk_some e2
    exact eqS_core g2.s s2 dv du e3 ⟨c, rfl, q c rfl ρ2 G2 H2 g2 s2⟩) qx
theorem se_eq {neg : Bool} {ta tb : TE} {fa fb : DS → Sto → SM W} (ha : SE K cl E ta fa) (hb : SE K cl E tb fb) : SE K cl E (tOp (rEqB K neg) ta tb) (sB (sEq neg fa fb)) := fun ρ G σ H δ S r' S' Q R e q qx => by
  rcases sBind_some e with ⟨c, em, rfl⟩ | ⟨b, S1, em, e⟩
  · exact se_two (r := Rs.xc c) ha hb R em (fun x y S2 e2 => by obtain ⟨_, _, z, _⟩ := sOk_some e2; cases z) (fun c' hc => by cases hc; exact qx c rfl)
  · cases e
    exact se_two ha hb R em (fun x y S2 e2 v u ρ2 G2 H2 g2 s2 dv du => by
      obtain ⟨c, e3, z, rfl⟩ := sOk_some e2
      cases z
      exact eqS_core g2.s s2 dv du e3 (q _ rfl _ ρ2 G2 H2 g2 s2 (.bl _))) (fun c hc => by cases hc)
end
end L2
set_option Elab.async false
set_option linter.all false
set_option maxRecDepth 100000
namespace L2
open PySem PySem.Spec PyProof.Rows
section
variable {K : PySem.W.Frag} {cl : Str → Addr} {E : XK}
def sTru (f : DS → Sto → SM W) : DS → Sto → SM Bool := fun δ S => sBind (f δ S) fun x S1 => sOk (asB x) S1
theorem st_val {t : TE} {f : DS → Sto → SM W} (h : SE K cl E t f) : ST K cl E (tB t) (sTru f) := fun ρ G σ H δ S r S' Q R e q qx =>
  se_one h R e (fun x S1 e1 v ρ1 G1 H1 g1 s1 dv => by
    obtain ⟨b, e2, rfl, rfl⟩ := sOk_some e1
    cases asB_eq e2
    cases dp_bl dv
    exact ⟨b, rfl, q b rfl ρ1 G1 H1 g1 s1⟩) qx
def sAndV (f g : DS → Sto → SM W) : DS → Sto → SM W := fun δ S => sBind (f δ S) fun x S1 => (asB x).bind fun b => if b = true then g δ S1 else some (.ok (.bool false), S1)
def sOrV (f g : DS → Sto → SM W) : DS → Sto → SM W := fun δ S => sBind (f δ S) fun x S1 => (asB x).bind fun b => if b = true then some (.ok (.bool true), S1) else g δ S1
def sNotV (f : DS → Sto → SM W) : DS → Sto → SM W := fun δ S => sBind (f δ S) fun x S1 => (asB x).map fun b => (.ok (.bool (!b)), S1)
theorem se_and {t u : TE} {f g : DS → Sto → SM W} (h1 : SE K cl E t f) (h2 : SE K cl E u g) : SE K cl E (tAndV t u) (sAndV f g) := fun ρ G σ H δ S r S' Q R e q qx =>
  se_one h1 R e (fun x S1 e1 v ρ1 G1 H1 g1 s1 dv => by
    obtain ⟨b, e2, e3⟩ := Option.bind_eq_some_iff.mp e1
    cases asB_eq e2
    cases dp_bl dv
    refine ⟨b, rfl, ?_⟩
    cases b with
    | true => exact h2 ρ1 G1 σ H1 δ S1 r S' Q (R.grow g1 s1) e3 (fun d hd v ρ2 G2 H2 g2 s2 dv => q d hd v ρ2 G2 H2 (g1.trans g2) s2 dv) fun c hc ρ2 G2 H2 g2 s2 => qx c hc ρ2 G2 H2 (g1.trans g2) s2
    | false => cases e3; exact q _ rfl _ ρ1 G1 H1 g1 s1 (.bl _)) qx
def sEq3 (fa fb fc : DS → Sto → SM W) : DS → Sto → SM W := fun δ S => sBind (fa δ S) fun x S1 => sBind (fb δ S1) fun y S2 => (cEqS false x y S2).bind fun b => if b = true then sBind (fc δ S2) fun z S3 => sOk ((cEqS false y z S3).map .bool) S3 else some (.ok (.bool false), S2)
theorem se_eq3 {ta tb tc : TE} {fa fb fc : DS → Sto → SM W} (ha : SE K cl E ta fa) (hb : SE K cl E tb fb) (hc : SE K cl E tc fc) : SE K cl E (tChain (rEqB K false) (rEqB K false) ta tb tc) (sEq3 fa fb fc) := fun ρ G σ H δ S r' S' Q R e q qx =>
  se_two ha hb R e (fun x y S2 e2 v u ρ2 G2 H2 g2 s2 dv du => by
    obtain ⟨b, e3, e4⟩ := Option.bind_eq_some_iff.mp e2
    refine eqS_core g2.s s2 dv du e3 ⟨b, rfl, ?_⟩
    cases b with
    | false => cases e4; exact q _ rfl _ ρ2 G2 H2 g2 s2 (.bl _)
    | true =>
      rw [if_pos rfl] at e4 ⊢
      exact se_one hc (R.grow g2 s2) e4 (fun z S3 e5 w ρ3 G3 H3 g3 s3 dw => by
        obtain ⟨c, e6, rfl, rfl⟩ := sOk_some e5
        obtain ⟨b', e7, rfl⟩ := Option.map_eq_some_iff.mp e6
        exact eqS_core g3.s s3 ((du.ext g3.r).same g3.g) dw e7 (q _ rfl _ ρ3 G3 H3 (g2.trans g3) s3 (.bl _))) fun c hc ρ3 G3 H3 g3 s3 => qx c hc ρ3 G3 H3 (g2.trans g3) s3) qx
theorem ItA.ext {ρ ρ1 : List Addr} {J : It} {ds : List W} {i : Nat} {G H : Hp} (h : ρ <+: ρ1) (a : ItA K ρ J ds i G H) : ItA K ρ1 J ds i G H := ⟨fun d hd => ⟨(a.1 d hd).1, fun x H' y => by
  obtain ⟨G', g, dx⟩ := (a.1 d hd).2 x H' y
  exact ⟨G', g, dx.ext h⟩⟩, a.2⟩
def ItLv (K : PySem.W.Frag) (cl : Str → Addr) (ρ : List Addr) (J : It) (n : Nat) : Prop :=
  ∀ (i : Nat) (ρ1 : List Addr) (G1 H1 : Hp) (S1 : Sto) (es : List W), ρ <+: ρ1 → Same G1 H1 → SR K ρ1 cl G1 H1 S1 → S1[n]? = some (.lst es) → ItA K ρ1 J es i G1 H1
def SIl (K : PySem.W.Frag) (cl : Str → Addr) (E : XK) (wi : TI) (f : DS → Sto → SM Nat) : Prop :=
  ∀ (ρ : List Addr) (G : Hp) (σ : St) (H : Hp) (δ : DS) (S : Sto) (r : Rs Nat) (S' : Sto) (R' : It → Hp → Prop), RS K cl ρ G H δ σ S → f δ S = some (r, S') →
    (∀ n, r = .ok n → ∀ J ρ' G' H', GS ρ G H ρ' G' H' → SR K ρ' cl G' H' S' → ItLv K cl ρ' J n → R' J H') →
    (∀ c, r = .xc c → ∀ ρ' G' H', GS ρ G H ρ' G' H' → SR K ρ' cl G' H' S' → E (.ref (cl c)) none H') → wi σ H R'
def siLive (f : DS → Sto → SM W) : DS → Sto → SM Nat := fun δ S => sBind (f δ S) fun x S1 => (lstAt x S1).map fun p => (.ok p.1, S1)
theorem si_live {t : TE} {f : DS → Sto → SM W} (h : SE K cl E t f) : SIl K cl E (iSeq K t) (siLive f) := fun ρ G σ H δ S r S' R' R e q qx =>
  se_one h R e (fun x S1 e1 v ρ1 G1 H1 g1 s1 dv => by
    obtain ⟨⟨n, ds⟩, e2, e3⟩ := Option.map_eq_some_iff.mp e1
    cases e3
    obtain ⟨rfl, e4⟩ := lstAt_some e2
    obtain ⟨a, rfl, ea⟩ := dw_ref dv
    obtain ⟨ga, vs, k1, k2⟩ := s1.addr e4 ea
    refine ⟨a, rfl, .inl ⟨⟨vs, SqL.of k1⟩, q n rfl _ ρ1 G1 H1 g1 s1 fun i ρ2 G2 H2 S2 es pr s2 sr he => ?_⟩⟩
    obtain ⟨ga2, vs2, m1, m2⟩ := sr.addr he (ref_kept pr ea)
    exact itl_at s2 (SqL.of m1) m2) qx
def ssForLGo (n : Nat) (h : W → DS → Option DS) (fb : DS → Sto → SO) : Nat → Nat → DS → Sto → SO
  | 0, _, _, _ => none
  | f + 1, i, δ, S => (lookS S n).bind fun es => match es[i]? with
    | none => some (.nx δ, S)
    | some d => (h d δ).bind fun δ2 => match fb δ2 S with
      | some (.nx δ', S') => ssForLGo n h fb f (i + 1) δ' S'
      | some (.ct δ', S') => ssForLGo n h fb f (i + 1) δ' S'
      | some (.bk δ', S') => some (.nx δ', S')
      | some (.rt d, S') => some (.rt d, S')
      | some (.xc c, S') => some (.xc c, S')
      | none => none
def ssForL (m : Nat) (fi : DS → Sto → SM Nat) (h : W → DS → Option DS) (fb : DS → Sto → SO) : DS → Sto → SO := fun δ S => soB (fi δ S) fun n S1 => ssForLGo n h fb m 0 δ S1
theorem lookS_some {S : Sto} {n : Nat} {ds : List W} (h : lookS S n = some ds) : S[n]? = some (.lst ds) := by
  unfold lookS at h
  split at h
  · rename_i e; cases h; exact e
  · cases h
theorem ss_forL {m : Nat} {wi : TI} {g : TG} {tb : TS} {fi : DS → Sto → SM Nat} {h : W → DS → Option DS} {fb : DS → Sto → SO} (hi : SIl K cl E wi fi) (hg : ∀ ρ, DG K ρ g h) (hb : SSt K cl E tb fb) : SSt K cl E (tFor wi g tb) (ssForL m fi h fb) := fun ρ0 G0 H0 ρ G σ H δ S o S' D I e p => by
  rcases soB_some e with ⟨c, em, rfl⟩ | ⟨n, S1, em, e⟩
  · exact hi ρ G σ H δ S _ _ _ I.rs em (fun d hd => by cases hd) (fun c' hc ρ1 G1 H1 g1 s1 => by cases hc; exact p ρ1 G1 H1 (I.gs.trans g1) s1)
  refine hi ρ G σ H δ S _ _ _ I.rs em (fun n' hn => ?_) (fun c' hc => by cases hc)
  cases hn
  intro J ρ1 G1 H1 g1 s1 it
  refine ⟨fun i k σ H => ∃ ρ2 G2 δ2 S2, IvS K cl ρ0 G0 H0 ρ2 G2 H δ2 σ S2 ∧ ρ1 <+: ρ2 ∧ ssForLGo n h fb k i δ2 S2 = some (o, S'), ⟨m, ρ1, G1, δ, S1, I.grow g1 s1, List.prefix_refl _, e⟩, ?_⟩
  rintro i k σ2 H2 ⟨ρ2, G2, δ2, S2, I2, pr2, e2⟩
  cases k with
  | zero => cases e2
  | succ k =>
    obtain ⟨es, e3, e4⟩ := Option.bind_eq_some_iff.mp e2
    have ia := it i ρ2 G2 H2 S2 es pr2 I2.gs.s I2.rs.st (lookS_some e3)
    split at e4
    · rename_i hn
      cases e4
      exact .inl ⟨ia.2 (List.getElem?_eq_none_iff.mp hn), p σ2 ρ2 G2 H2 I2⟩
    · rename_i d hd
      refine .inr ?_
      obtain ⟨go, step⟩ := ia.1 d hd
      obtain ⟨δ3, e5, e6⟩ := Option.bind_eq_some_iff.mp e4
      have turn : ∀ (P : Ends) (o1 : OutS) (S3 : Sto), fb δ3 S2 = some (o1, S3) → (∀ G3 H3, Gr G2 H2 G3 H3 → PstS K cl E ρ2 G3 H0 P S3 o1) → ∀ x H', J.yld i H2 x H' → g x σ2 H' fun σ2 H2 => tb P σ2 H2 := fun P o1 S3 ef hp x H' y => by
        obtain ⟨G3, g3, dx⟩ := step x H' y
        have I3 := I2.grow (.of g3) (I2.rs.st.grow g3)
        refine hg ρ2 G3 H' δ2 σ2 x _ δ3 _ I3.rs.rl dx e5 fun σ3 R3 o3 => ?_
        exact hb ρ2 G3 H0 ρ2 G3 σ3 H' δ3 S2 o1 S3 P (I3.sub R3 o3).base ef (hp G3 H' g3)
      have back : ∀ {G3 H3 : Hp}, Gr G2 H2 G3 H3 → ∀ {ρ4 : List Addr} {G4 H4 : Hp} {σ4 : St} {δ4 : DS} {S4 : Sto}, IvS K cl ρ2 G3 H0 ρ4 G4 H4 δ4 σ4 S4 → IvS K cl ρ0 G0 H0 ρ4 G4 H4 δ4 σ4 S4 ∧ ρ1 <+: ρ4 := fun {G3 H3} g3 {ρ4 G4 H4 σ4 δ4 S4} I4 => ⟨I4.rebase (I2.gs.trans (.of g3)), pr2.trans I4.gs.r⟩
      cases ef : fb δ3 S2 with
      | none => rw [ef] at e6; cases e6
      | some r =>
        obtain ⟨o1, S3⟩ := r
        rw [ef] at e6
        cases o1 with
        | nx δ' => exact ⟨go, fun σ' H' => ∃ ρ' G', IvS K cl ρ0 G0 H0 ρ' G' H' δ' σ' S3 ∧ ρ1 <+: ρ', fun σ' H' ⟨ρ', G', I', q1⟩ => ⟨k, Nat.lt_succ_self _, ρ', G', δ', S3, I', q1, e6⟩, turn _ _ _ ef fun G3 H3 g3 σ5 ρ5 G5 H5 I5 => ⟨ρ5, G5, back g3 I5⟩⟩
        | ct δ' => exact ⟨go, fun σ' H' => ∃ ρ' G', IvS K cl ρ0 G0 H0 ρ' G' H' δ' σ' S3 ∧ ρ1 <+: ρ', fun σ' H' ⟨ρ', G', I', q1⟩ => ⟨k, Nat.lt_succ_self _, ρ', G', δ', S3, I', q1, e6⟩, turn _ _ _ ef fun G3 H3 g3 σ5 ρ5 G5 H5 I5 => ⟨ρ5, G5, back g3 I5⟩⟩
        | bk δ' =>
          cases e6
          exact ⟨go, fun _ _ => False, fun _ _ z => z.elim, turn _ _ _ ef fun G3 H3 g3 σ5 ρ5 G5 H5 I5 => p σ5 ρ5 G5 H5 (back g3 I5).1⟩
        | rt d =>
          cases e6
          exact ⟨go, fun _ _ => False, fun _ _ z => z.elim, turn _ _ _ ef fun G3 H3 g3 v ρ5 G5 H5 g5 s5 dv => p v ρ5 G5 H5 ((I2.gs.trans (.of g3)).rebase g5) s5 dv⟩
        | xc c =>
          cases e6
          exact ⟨go, fun _ _ => False, fun _ _ z => z.elim, turn _ _ _ ef fun G3 H3 g3 ρ5 G5 H5 g5 s5 => p ρ5 G5 H5 ((I2.gs.trans (.of g3)).rebase g5) s5⟩
theorem RS.lift {ρ : List Addr} {G H : Hp} {δ : DS} {σ : St} {S : Sto} {ix : List (Option Nat)} (hx : ixOk ix = true) (R : RS K cl ρ G H δ σ S) : RS K cl ρ G H (liftD ix δ) (lift ix σ) S :=
  ⟨R.rl.lift hx, R.st, fun j ds p h1 h2 => by
    obtain ⟨o, k1, k2⟩ := liftD_get h1
    cases o with
    | none => cases k2
    | some i =>
      have k3 : δ[i]? = some (.own ds) := by
        cases e : δ[i]? with
        | none => simp [slAt, e] at k2
        | some s => simp [slAt, e] at k2; rw [k2]
      rw [lift_get k1] at h2
      simp only [vAt] at h2
      split at h2
      · rename_i w e
        exact R.ap i ds p k3 (by rw [e]; simpa using h2)
      · cases h2⟩
def sCompGo (h : W → DS → Option DS) (c : DS → Sto → SM Bool) (fe : DS → Sto → SM W) (δ : DS) : List W → Sto → SM (List W)
  | [], S => some (.ok [], S)
  | d :: ds, S => (h d δ).bind fun δ2 => sBind (c δ2 S) fun b S1 => if b = true then sBind (fe δ2 S1) fun e S2 => sBind (sCompGo h c fe δ ds S2) fun es S3 => some (.ok (e :: es), S3) else sCompGo h c fe δ ds S1
def sComp (ix : List (Option Nat)) (fi : DS → Sto → SM (List W)) (h : W → DS → Option DS) (c : DS → Sto → SM Bool) (fe : DS → Sto → SM W) : DS → Sto → SM W := fun δ S =>
  sBind (fi δ S) fun ds S0 => if ds.length ≤ sizeLine then sBind (sCompGo h c fe (liftD ix δ) ds S0) fun es S1 => some (.ok (.list es), S1) else none
theorem se_comp {ix : List (Option Nat)} {wi : TI} {g : TG} {tc : TT} {te : TE} {fi : DS → Sto → SM (List W)} {h : W → DS → Option DS} {c : DS → Sto → SM Bool} {fe : DS → Sto → SM W}
    (hx : ixOk ix = true) (hi : SIp K cl E wi fi) (hg : ∀ ρ, DG K ρ g h) (hc : ST K cl E tc c) (he : SE K cl E te fe) : SE K cl E (tComp ix wi g tc te) (sComp ix fi h c fe) := fun ρ G σ H δ S r S' Q R e q qx => by
  rcases sBind_some e with ⟨c0, em, rfl⟩ | ⟨ds, S0, em, e⟩
  · exact hi ρ G σ H δ S _ _ _ R em (fun d hd => by cases hd) (fun c' hc => by cases hc; exact qx c0 rfl)
  split at e
  case isFalse => cases e
  rename_i hz
  refine hi ρ G σ H δ S _ _ _ R em (fun ds' hd => ?_) (fun c' hc => by cases hc)
  cases hd
  intro J ρ1 G1 H1 gs1 sr1 it
  have R1 := R.grow gs1 sr1
  -- what is left: the rest of the walk gives r
  refine ⟨fun i m ys H2 => m = ds.length - i ∧ i ≤ ds.length ∧ ys.length ≤ i ∧ ∃ ρ2 G2 as S2, GS ρ1 G1 H1 ρ2 G2 H2 ∧ SR K ρ2 cl G2 H2 S2 ∧ DwAll K ρ2 G2 ys as ∧ sBind (sCompGo h c fe (liftD ix δ) (ds.drop i) S2) (fun es S1 => some (.ok (.list (as ++ es)), S1)) = some (r, S'), ⟨ds.length, by simp, Nat.zero_le _, Nat.le_refl _, ρ1, G1, [], S0, .refl gs1.s, R1.st, .nil, by simpa using e⟩, ?_⟩
  rintro i m ys H2 ⟨rfl, hil, hyl, ρ2, G2, as, S2, g2, s2, da, eb⟩
  have ia := (it i G2 H2 g2.g g2.s).ext g2.r
  have R2 := R1.grow g2 s2
  have g12 := gs1.trans g2
  by_cases hlt : i < ds.length
  · refine .inr ?_
    obtain ⟨go, step⟩ := ia.1 ds[i] (List.getElem?_eq_getElem hlt)
    rw [List.drop_eq_getElem_cons hlt] at eb
    have eb' : ∃ δ2, h ds[i] (liftD ix δ) = some δ2 ∧ sBind (sBind (c δ2 S2) fun b S1 => if b = true then sBind (fe δ2 S1) fun e S2 => sBind (sCompGo h c fe (liftD ix δ) (ds.drop (i + 1)) S2) fun es S3 => some (.ok (e :: es), S3) else sCompGo h c fe (liftD ix δ) (ds.drop (i + 1)) S1) (fun es S1 => some (.ok (.list (as ++ es)), S1)) = some (r, S') := by
      simp only [sCompGo] at eb
      cases e2 : h ds[i] (liftD ix δ) with
      | none => rw [e2] at eb; cases eb
      | some δ2 => rw [e2] at eb; exact ⟨δ2, rfl, eb⟩
    obtain ⟨δ2, e2, e3⟩ := eb'
    refine ⟨go, by omega, fun ys' H' => ys'.length ≤ i + 1 ∧ ∃ ρ3 G3 as' S3, GS ρ1 G1 H1 ρ3 G3 H' ∧ SR K ρ3 cl G3 H' S3 ∧ DwAll K ρ3 G3 ys' as' ∧ sBind (sCompGo h c fe (liftD ix δ) (ds.drop (i + 1)) S3) (fun es S1 => some (.ok (.list (as' ++ es)), S1)) = some (r, S'), fun ys' H' ⟨l, z⟩ => ⟨ds.length - (i + 1), by omega, rfl, hlt, l, z⟩, fun x H' y => ?_⟩
    obtain ⟨G3, g3, dx⟩ := step x H' y
    have gs3 : GS ρ2 G2 H2 ρ2 G3 H' := .of g3
    have s3 := s2.grow g3
    have R3 := R2.grow gs3 s3
    refine hg ρ2 G3 H' (liftD ix δ) _ x _ δ2 _ (R3.lift hx).rl dx e2 fun σ2 R4 o4 => ?_
    have RS4 : RS K cl ρ2 G3 H' δ2 σ2 S2 := ⟨R4, s3, fun j ds' p h1 h2 => by
      obtain ⟨es', m1, m2⟩ := o4 j ds' p h1 h2
      exact (R3.lift hx).ap j es' p m1 m2⟩
    rcases sBind_some e3 with ⟨c', em, rfl⟩ | ⟨es, S5, em, e4⟩
    · -- an exception on the way
      rcases sBind_some em with ⟨c2, en, z⟩ | ⟨b, S4, en, e5⟩
      · cases z
        exact hc ρ2 G3 σ2 H' δ2 S2 _ _ _ RS4 en (fun d hd => by cases hd) (fun c3 h3 ρ5 G5 H5 g5 s5 => by cases h3; exact qx c' rfl ρ5 G5 H5 (g12.trans (gs3.trans g5)) s5)
      · refine hc ρ2 G3 σ2 H' δ2 S2 _ _ _ RS4 en (fun d hd => ?_) (fun c3 h3 => by cases h3)
        cases hd
        intro ρ5 G5 H5 g5 s5
        have g15 := g2.trans (gs3.trans g5)
        have da5 := ((da.ext (gs3.trans g5).r).same (gs3.trans g5).g)
        cases b with
        | false => exact ⟨by omega, ρ5, G5, as, S4, g15, s5, da5, by rw [show sCompGo h c fe (liftD ix δ) (ds.drop (i + 1)) S4 = some (.xc c', S') from e5]; rfl⟩
        | true =>
          rw [if_pos rfl] at e5 ⊢
          rcases sBind_some e5 with ⟨c2, en2, z⟩ | ⟨ev, S6, en2, e6⟩
          · cases z
            exact he ρ5 G5 σ2 H5 δ2 S4 _ _ _ (RS4.grow g5 s5) en2 (fun d hd => by cases hd) (fun c3 h3 ρ6 G6 H6 g6 s6 => by cases h3; exact qx c' rfl ρ6 G6 H6 (g12.trans (gs3.trans (g5.trans g6))) s6)
          · refine he ρ5 G5 σ2 H5 δ2 S4 _ _ _ (RS4.grow g5 s5) en2 (fun d hd => ?_) (fun c3 h3 => by cases h3)
            cases hd
            intro v ρ6 G6 H6 g6 s6 dv
            rcases sBind_some e6 with ⟨c2, en3, z⟩ | ⟨es2, S7, en3, e7⟩
            · cases z
              exact ⟨by simp; omega, ρ6, G6, as ++ [ev], S6, g15.trans g6, s6, ((da5.ext g6.r).same g6.g).app (.cons dv .nil), by rw [en3]; rfl⟩
            · cases e7
    · cases e4
      rcases sBind_some em with ⟨c2, en, z⟩ | ⟨b, S4, en, e5⟩
      · cases z
      · refine hc ρ2 G3 σ2 H' δ2 S2 _ _ _ RS4 en (fun d hd => ?_) (fun c3 h3 => by cases h3)
        cases hd
        intro ρ5 G5 H5 g5 s5
        have g15 := g2.trans (gs3.trans g5)
        have da5 := ((da.ext (gs3.trans g5).r).same (gs3.trans g5).g)
        cases b with
        | false => exact ⟨by omega, ρ5, G5, as, S4, g15, s5, da5, by rw [show sCompGo h c fe (liftD ix δ) (ds.drop (i + 1)) S4 = some (.ok es, S') from e5]; rfl⟩
        | true =>
          rw [if_pos rfl] at e5 ⊢
          rcases sBind_some e5 with ⟨c2, en2, z⟩ | ⟨ev, S6, en2, e6⟩
          · cases z
          · refine he ρ5 G5 σ2 H5 δ2 S4 _ _ _ (RS4.grow g5 s5) en2 (fun d hd => ?_) (fun c3 h3 => by cases h3)
            cases hd
            intro v ρ6 G6 H6 g6 s6 dv
            rcases sBind_some e6 with ⟨c2, en3, z⟩ | ⟨es2, S7, en3, e7⟩
            · cases z
            · cases e7
              exact ⟨by simp; omega, ρ6, G6, as ++ [ev], S6, g15.trans g6, s6, ((da5.ext g6.r).same g6.g).app (.cons dv .nil), by rw [en3]; simp [sBind]⟩
  · have hi' : i = ds.length := by omega
    subst hi'
    refine .inl ⟨ia.2 (Nat.le_refl _), by omega, fun p hp => ?_⟩
    rw [List.drop_length] at eb
    simp only [sCompGo, sBind, List.append_nil] at eb
    cases eb
    have n : Nw H2 (upd H2 p (.lst ys)) p (.lst ys) := .of hp
    have g3 := Gr.nw g2.s n
    exact q _ rfl _ ρ2 _ _ (g12.trans (.of g3)) (s2.grow g3) (.lst (SqL.of upd_same) (da.same g3.g))
end
end L2
set_option Elab.async false
set_option linter.all false
set_option maxRecDepth 100000
namespace L2
open PySem PySem.Spec PyProof.Rows
section
variable {K : PySem.W.Frag} {cl : Str → Addr} {E : XK}
def sCompS (ix : List (Option Nat)) (fi : DS → Sto → SM (List W)) (h : W → DS → Option DS) (c : DS → Sto → SM Bool) (fe : DS → Sto → SM W) : DS → Sto → SM W := fun δ S =>
  sBind (fi δ S) fun ds S0 => if ds.length ≤ sizeLine then sBind (sCompGo h c fe (liftD ix δ) ds S0) fun es S1 => some (.ok (.ref S1.length), S1 ++ [.lst es]) else none
theorem se_compS {ix : List (Option Nat)} {wi : TI} {g : TG} {tc : TT} {te : TE} {fi : DS → Sto → SM (List W)} {h : W → DS → Option DS} {c : DS → Sto → SM Bool} {fe : DS → Sto → SM W}
    (hx : ixOk ix = true) (hi : SIp K cl E wi fi) (hg : ∀ ρ, DG K ρ g h) (hc : ST K cl E tc c) (he : SE K cl E te fe) : SE K cl E (tComp ix wi g tc te) (sCompS ix fi h c fe) := fun ρ G σ H δ S r S' Q R e q qx => by
  rcases sBind_some e with ⟨c0, em, rfl⟩ | ⟨ds, S0, em, e⟩
  · exact hi ρ G σ H δ S _ _ _ R em (fun d hd => by cases hd) (fun c' hc => by cases hc; exact qx c0 rfl)
  split at e
  case isFalse => cases e
  rename_i hz
  refine hi ρ G σ H δ S _ _ _ R em (fun ds' hd => ?_) (fun c' hc => by cases hc)
  cases hd
  intro J ρ1 G1 H1 gs1 sr1 it
  have R1 := R.grow gs1 sr1
  -- what is left: the rest of the walk gives r
  refine ⟨fun i m ys H2 => m = ds.length - i ∧ i ≤ ds.length ∧ ys.length ≤ i ∧ ∃ ρ2 G2 as S2, GS ρ1 G1 H1 ρ2 G2 H2 ∧ SR K ρ2 cl G2 H2 S2 ∧ DwAll K ρ2 G2 ys as ∧ sBind (sCompGo h c fe (liftD ix δ) (ds.drop i) S2) (fun es S1 => some (.ok (.ref S1.length), S1 ++ [.lst (as ++ es)])) = some (r, S'), ⟨ds.length, by simp, Nat.zero_le _, Nat.le_refl _, ρ1, G1, [], S0, .refl gs1.s, R1.st, .nil, by simpa using e⟩, ?_⟩
  rintro i m ys H2 ⟨rfl, hil, hyl, ρ2, G2, as, S2, g2, s2, da, eb⟩
  have ia := (it i G2 H2 g2.g g2.s).ext g2.r
  have R2 := R1.grow g2 s2
  have g12 := gs1.trans g2
  by_cases hlt : i < ds.length
  · refine .inr ?_
    obtain ⟨go, step⟩ := ia.1 ds[i] (List.getElem?_eq_getElem hlt)
    rw [List.drop_eq_getElem_cons hlt] at eb
    have eb' : ∃ δ2, h ds[i] (liftD ix δ) = some δ2 ∧ sBind (sBind (c δ2 S2) fun b S1 => if b = true then sBind (fe δ2 S1) fun e S2 => sBind (sCompGo h c fe (liftD ix δ) (ds.drop (i + 1)) S2) fun es S3 => some (.ok (e :: es), S3) else sCompGo h c fe (liftD ix δ) (ds.drop (i + 1)) S1) (fun es S1 => some (.ok (.ref S1.length), S1 ++ [.lst (as ++ es)])) = some (r, S') := by
      simp only [sCompGo] at eb
      cases e2 : h ds[i] (liftD ix δ) with
      | none => rw [e2] at eb; cases eb
      | some δ2 => rw [e2] at eb; exact ⟨δ2, rfl, eb⟩
    obtain ⟨δ2, e2, e3⟩ := eb'
    refine ⟨go, by omega, fun ys' H' => ys'.length ≤ i + 1 ∧ ∃ ρ3 G3 as' S3, GS ρ1 G1 H1 ρ3 G3 H' ∧ SR K ρ3 cl G3 H' S3 ∧ DwAll K ρ3 G3 ys' as' ∧ sBind (sCompGo h c fe (liftD ix δ) (ds.drop (i + 1)) S3) (fun es S1 => some (.ok (.ref S1.length), S1 ++ [.lst (as' ++ es)])) = some (r, S'), fun ys' H' ⟨l, z⟩ => ⟨ds.length - (i + 1), by omega, rfl, hlt, l, z⟩, fun x H' y => ?_⟩
    obtain ⟨G3, g3, dx⟩ := step x H' y
    have gs3 : GS ρ2 G2 H2 ρ2 G3 H' := .of g3
    have s3 := s2.grow g3
    have R3 := R2.grow gs3 s3
    refine hg ρ2 G3 H' (liftD ix δ) _ x _ δ2 _ (R3.lift hx).rl dx e2 fun σ2 R4 o4 => ?_
    have RS4 : RS K cl ρ2 G3 H' δ2 σ2 S2 := ⟨R4, s3, fun j ds' p h1 h2 => by
      obtain ⟨es', m1, m2⟩ := o4 j ds' p h1 h2
      exact (R3.lift hx).ap j es' p m1 m2⟩
    rcases sBind_some e3 with ⟨c', em, rfl⟩ | ⟨es, S5, em, e4⟩
    · -- an exception on the way
      rcases sBind_some em with ⟨c2, en, z⟩ | ⟨b, S4, en, e5⟩
      · cases z
        exact hc ρ2 G3 σ2 H' δ2 S2 _ _ _ RS4 en (fun d hd => by cases hd) (fun c3 h3 ρ5 G5 H5 g5 s5 => by cases h3; exact qx c' rfl ρ5 G5 H5 (g12.trans (gs3.trans g5)) s5)
      · refine hc ρ2 G3 σ2 H' δ2 S2 _ _ _ RS4 en (fun d hd => ?_) (fun c3 h3 => by cases h3)
        cases hd
        intro ρ5 G5 H5 g5 s5
        have g15 := g2.trans (gs3.trans g5)
        have da5 := ((da.ext (gs3.trans g5).r).same (gs3.trans g5).g)
        cases b with
        | false => exact ⟨by omega, ρ5, G5, as, S4, g15, s5, da5, by rw [show sCompGo h c fe (liftD ix δ) (ds.drop (i + 1)) S4 = some (.xc c', S') from e5]; rfl⟩
        | true =>
          rw [if_pos rfl] at e5 ⊢
          rcases sBind_some e5 with ⟨c2, en2, z⟩ | ⟨ev, S6, en2, e6⟩
          · cases z
            exact he ρ5 G5 σ2 H5 δ2 S4 _ _ _ (RS4.grow g5 s5) en2 (fun d hd => by cases hd) (fun c3 h3 ρ6 G6 H6 g6 s6 => by cases h3; exact qx c' rfl ρ6 G6 H6 (g12.trans (gs3.trans (g5.trans g6))) s6)
          · refine he ρ5 G5 σ2 H5 δ2 S4 _ _ _ (RS4.grow g5 s5) en2 (fun d hd => ?_) (fun c3 h3 => by cases h3)
            cases hd
            intro v ρ6 G6 H6 g6 s6 dv
            rcases sBind_some e6 with ⟨c2, en3, z⟩ | ⟨es2, S7, en3, e7⟩
            · cases z
              exact ⟨by simp; omega, ρ6, G6, as ++ [ev], S6, g15.trans g6, s6, ((da5.ext g6.r).same g6.g).app (.cons dv .nil), by rw [en3]; rfl⟩
            · cases e7
    · cases e4
      rcases sBind_some em with ⟨c2, en, z⟩ | ⟨b, S4, en, e5⟩
      · cases z
      · refine hc ρ2 G3 σ2 H' δ2 S2 _ _ _ RS4 en (fun d hd => ?_) (fun c3 h3 => by cases h3)
        cases hd
        intro ρ5 G5 H5 g5 s5
        have g15 := g2.trans (gs3.trans g5)
        have da5 := ((da.ext (gs3.trans g5).r).same (gs3.trans g5).g)
        cases b with
        | false => exact ⟨by omega, ρ5, G5, as, S4, g15, s5, da5, by rw [show sCompGo h c fe (liftD ix δ) (ds.drop (i + 1)) S4 = some (.ok es, S5) from e5]; rfl⟩
        | true =>
          rw [if_pos rfl] at e5 ⊢
          rcases sBind_some e5 with ⟨c2, en2, z⟩ | ⟨ev, S6, en2, e6⟩
          · cases z
          · refine he ρ5 G5 σ2 H5 δ2 S4 _ _ _ (RS4.grow g5 s5) en2 (fun d hd => ?_) (fun c3 h3 => by cases h3)
            cases hd
            intro v ρ6 G6 H6 g6 s6 dv
            rcases sBind_some e6 with ⟨c2, en3, z⟩ | ⟨es2, S7, en3, e7⟩
            · cases z
            · cases e7
              exact ⟨by simp; omega, ρ6, G6, as ++ [ev], S6, g15.trans g6, s6, ((da5.ext g6.r).same g6.g).app (.cons dv .nil), by rw [en3]; simp [sBind]⟩
  · have hi' : i = ds.length := by omega
    subst hi'
    refine .inl ⟨ia.2 (Nat.le_refl _), by omega, fun p hp => ?_⟩
    rw [List.drop_length] at eb
    simp only [sCompGo, sBind, List.append_nil] at eb
    cases eb
    have n : Nw H2 (upd H2 p (.lst ys)) p (.lst ys) := .of hp
    obtain ⟨s3, g3⟩ := s2.push (o := .lst as) g2.s n fun ρ' hr => ⟨ys, upd_same, da.ext hr⟩
    exact q _ rfl _ _ _ _ (g12.trans g3) s3 (.ref (by rw [← s2.len]; simp))
def sCompLGo (n : Nat) (h : W → DS → Option DS) (c : DS → Sto → SM Bool) (fe : DS → Sto → SM W) (δ : DS) : Nat → Nat → Sto → SM (List W)
  | 0, _, _ => none
  | f + 1, i, S => (lookS S n).bind fun es => match es[i]? with
    | none => some (.ok [], S)
    | some d => (h d δ).bind fun δ2 => sBind (c δ2 S) fun b S1 => if b = true then sBind (fe δ2 S1) fun e S2 => sBind (sCompLGo n h c fe δ f (i + 1) S2) fun es S3 => some (.ok (e :: es), S3) else sCompLGo n h c fe δ f (i + 1) S1
def sCompL (m : Nat) (ix : List (Option Nat)) (fi : DS → Sto → SM Nat) (h : W → DS → Option DS) (c : DS → Sto → SM Bool) (fe : DS → Sto → SM W) : DS → Sto → SM W := fun δ S =>
  sBind (fi δ S) fun n S0 => if m ≤ sizeLine then sBind (sCompLGo n h c fe (liftD ix δ) m 0 S0) fun es S1 => some (.ok (.list es), S1) else none
theorem se_compL {m : Nat} {ix : List (Option Nat)} {wi : TI} {g : TG} {tc : TT} {te : TE} {fi : DS → Sto → SM Nat} {h : W → DS → Option DS} {c : DS → Sto → SM Bool} {fe : DS → Sto → SM W}
    (hx : ixOk ix = true) (hi : SIl K cl E wi fi) (hg : ∀ ρ, DG K ρ g h) (hc : ST K cl E tc c) (he : SE K cl E te fe) : SE K cl E (tComp ix wi g tc te) (sCompL m ix fi h c fe) := fun ρ G σ H δ S r S' Q R e q qx => by
  rcases sBind_some e with ⟨c0, em, rfl⟩ | ⟨n, S0, em, e⟩
  · exact hi ρ G σ H δ S _ _ _ R em (fun d hd => by cases hd) (fun c' hc => by cases hc; exact qx c0 rfl)
  split at e
  case isFalse => cases e
  rename_i hz
  refine hi ρ G σ H δ S _ _ _ R em (fun n' hn => ?_) (fun c' hc => by cases hc)
  cases hn
  intro J ρ1 G1 H1 gs1 sr1 it
  have R1 := R.grow gs1 sr1
  refine ⟨fun i k ys H2 => k + i = m ∧ ys.length ≤ i ∧ ∃ ρ2 G2 as S2, GS ρ1 G1 H1 ρ2 G2 H2 ∧ SR K ρ2 cl G2 H2 S2 ∧ DwAll K ρ2 G2 ys as ∧ sBind (sCompLGo n h c fe (liftD ix δ) k i S2) (fun es S1 => some (.ok (.list (as ++ es)), S1)) = some (r, S'), ⟨m, by simp, Nat.le_refl _, ρ1, G1, [], S0, .refl gs1.s, R1.st, .nil, by simpa using e⟩, ?_⟩
  rintro i k ys H2 ⟨hk, hyl, ρ2, G2, as, S2, g2, s2, da, eb⟩
  have R2 := R1.grow g2 s2
  have g12 := gs1.trans g2
  cases k with
  | zero => cases eb
  | succ k =>
    have eb0 : ∃ es0, lookS S2 n = some es0 := by
      cases hl : lookS S2 n with
      | none => simp only [sCompLGo, hl] at eb; cases eb
      | some es0 => exact ⟨es0, rfl⟩
    obtain ⟨es0, hl⟩ := eb0
    have ia := it i ρ2 G2 H2 S2 es0 g2.r g2.s s2 (lookS_some hl)
    cases hd : es0[i]? with
    | none =>
      refine .inl ⟨ia.2 (List.getElem?_eq_none_iff.mp hd), by omega, fun p hp => ?_⟩
      simp only [sCompLGo, hl, Option.bind_some, hd, sBind, List.append_nil] at eb
      cases eb
      have nn : Nw H2 (upd H2 p (.lst ys)) p (.lst ys) := .of hp
      have g3 := Gr.nw g2.s nn
      exact q _ rfl _ ρ2 _ _ (g12.trans (.of g3)) (s2.grow g3) (.lst (SqL.of upd_same) (da.same g3.g))
    | some d0 =>
      refine .inr ?_
      obtain ⟨go, step⟩ := ia.1 d0 hd
      have eb' : ∃ δ2, h d0 (liftD ix δ) = some δ2 ∧ sBind (sBind (c δ2 S2) fun b S1 => if b = true then sBind (fe δ2 S1) fun e S2 => sBind (sCompLGo n h c fe (liftD ix δ) k (i + 1) S2) fun es S3 => some (.ok (e :: es), S3) else sCompLGo n h c fe (liftD ix δ) k (i + 1) S1) (fun es S1 => some (.ok (.list (as ++ es)), S1)) = some (r, S') := by
        simp only [sCompLGo, hl, Option.bind_some, hd] at eb
        cases e2 : h d0 (liftD ix δ) with
        | none => rw [e2] at eb; cases eb
        | some δ2 => rw [e2] at eb; exact ⟨δ2, rfl, eb⟩
      obtain ⟨δ2, e2, e3⟩ := eb'
      refine ⟨go, by omega, fun ys' H' => ys'.length ≤ i + 1 ∧ ∃ ρ3 G3 as' S3, GS ρ1 G1 H1 ρ3 G3 H' ∧ SR K ρ3 cl G3 H' S3 ∧ DwAll K ρ3 G3 ys' as' ∧ sBind (sCompLGo n h c fe (liftD ix δ) k (i + 1) S3) (fun es S1 => some (.ok (.list (as' ++ es)), S1)) = some (r, S'), fun ys' H' ⟨l, z⟩ => ⟨k, Nat.lt_succ_self _, by omega, l, z⟩, fun x H' y => ?_⟩
      obtain ⟨G3, g3, dx⟩ := step x H' y
      have gs3 : GS ρ2 G2 H2 ρ2 G3 H' := .of g3
      have s3 := s2.grow g3
      have R3 := R2.grow gs3 s3
      refine hg ρ2 G3 H' (liftD ix δ) _ x _ δ2 _ (R3.lift hx).rl dx e2 fun σ2 R4 o4 => ?_
      have RS4 : RS K cl ρ2 G3 H' δ2 σ2 S2 := ⟨R4, s3, fun j ds' p h1 h2 => by
        obtain ⟨es', m1, m2⟩ := o4 j ds' p h1 h2
        exact (R3.lift hx).ap j es' p m1 m2⟩
      rcases sBind_some e3 with ⟨c', em, rfl⟩ | ⟨es, S5, em, e4⟩
      · -- an exception on the way
        rcases sBind_some em with ⟨c2, en, z⟩ | ⟨b, S4, en, e5⟩
        · cases z
          exact hc ρ2 G3 σ2 H' δ2 S2 _ _ _ RS4 en (fun d hd => by cases hd) (fun c3 h3 ρ5 G5 H5 g5 s5 => by cases h3; exact qx c' rfl ρ5 G5 H5 (g12.trans (gs3.trans g5)) s5)
        · refine hc ρ2 G3 σ2 H' δ2 S2 _ _ _ RS4 en (fun d hd => ?_) (fun c3 h3 => by cases h3)
          cases hd
          intro ρ5 G5 H5 g5 s5
          have g15 := g2.trans (gs3.trans g5)
          have da5 := ((da.ext (gs3.trans g5).r).same (gs3.trans g5).g)
          cases b with
          | false => exact ⟨by omega, ρ5, G5, as, S4, g15, s5, da5, by rw [show sCompLGo n h c fe (liftD ix δ) k (i + 1) S4 = some (.xc c', S') from e5]; rfl⟩
          | true =>
            rw [if_pos rfl] at e5 ⊢
            rcases sBind_some e5 with ⟨c2, en2, z⟩ | ⟨ev, S6, en2, e6⟩
            · cases z
              exact he ρ5 G5 σ2 H5 δ2 S4 _ _ _ (RS4.grow g5 s5) en2 (fun d hd => by cases hd) (fun c3 h3 ρ6 G6 H6 g6 s6 => by cases h3; exact qx c' rfl ρ6 G6 H6 (g12.trans (gs3.trans (g5.trans g6))) s6)
            · refine he ρ5 G5 σ2 H5 δ2 S4 _ _ _ (RS4.grow g5 s5) en2 (fun d hd => ?_) (fun c3 h3 => by cases h3)
              cases hd
              intro v ρ6 G6 H6 g6 s6 dv
              rcases sBind_some e6 with ⟨c2, en3, z⟩ | ⟨es2, S7, en3, e7⟩
              · cases z
                exact ⟨by simp; omega, ρ6, G6, as ++ [ev], S6, g15.trans g6, s6, ((da5.ext g6.r).same g6.g).app (.cons dv .nil), by rw [en3]; rfl⟩
              · cases e7
      · cases e4
        rcases sBind_some em with ⟨c2, en, z⟩ | ⟨b, S4, en, e5⟩
        · cases z
        · refine hc ρ2 G3 σ2 H' δ2 S2 _ _ _ RS4 en (fun d hd => ?_) (fun c3 h3 => by cases h3)
          cases hd
          intro ρ5 G5 H5 g5 s5
          have g15 := g2.trans (gs3.trans g5)
          have da5 := ((da.ext (gs3.trans g5).r).same (gs3.trans g5).g)
          cases b with
          | false => exact ⟨by omega, ρ5, G5, as, S4, g15, s5, da5, by rw [show sCompLGo n h c fe (liftD ix δ) k (i + 1) S4 = some (.ok es, S') from e5]; rfl⟩
          | true =>
            rw [if_pos rfl] at e5 ⊢
            rcases sBind_some e5 with ⟨c2, en2, z⟩ | ⟨ev, S6, en2, e6⟩
            · cases z
            · refine he ρ5 G5 σ2 H5 δ2 S4 _ _ _ (RS4.grow g5 s5) en2 (fun d hd => ?_) (fun c3 h3 => by cases h3)
              cases hd
              intro v ρ6 G6 H6 g6 s6 dv
              rcases sBind_some e6 with ⟨c2, en3, z⟩ | ⟨es2, S7, en3, e7⟩
              · cases z
              · cases e7
                exact ⟨by simp; omega, ρ6, G6, as ++ [ev], S6, g15.trans g6, s6, ((da5.ext g6.r).same g6.g).app (.cons dv .nil), by rw [en3]; simp [sBind]⟩
end
theorem gfree_seq2 {ix : List (Option Nat)} {j k : Nat} {K : PySem.W.Frag} {n : Nat} (h : ix[j]? = some none) (h' : ix[k]? = some none) : GFree ix (gSeq K n (gCons (gName j) (gCons (gName k) gNil))) := fun v σ H Q q => by
  rcases q with q | q
  · obtain ⟨a, xs, e1, e2, e3, v1, r1, e4, v2, r2, e5, e6, q⟩ := q
    exact .inl ⟨a, xs, e1, e2, e3, v1, r1, e4, v2, r2, e5, e6, q, ((Ext.refl _).set (lift_none h)).set (lift_none h')⟩
  · obtain ⟨a, xs, e1, e2, e3, v1, r1, e4, v2, r2, e5, e6, q⟩ := q
    exact .inr ⟨a, xs, e1, e2, e3, v1, r1, e4, v2, r2, e5, e6, q, ((Ext.refl _).set (lift_none h)).set (lift_none h')⟩
theorem sr_nil {K : PySem.W.Frag} {cl : Str → Addr} {G H : Hp} : SR K [] cl G H [] := ⟨rfl, List.nodup_nil, fun n o e => by simp at e⟩
end L2
set_option Elab.async false
set_option linter.all false
set_option maxRecDepth 100000
namespace My
open PySem PySem.Spec PyProof.Rows L2
def top (i : Nat) : Stmt := PySem.Challenge.pw_widelanes_k51_shared_boxes.main.body.getD i (.Pass ⟨0, 0, 0, 0⟩)
abbrev s_first_clash : Stmt := top 3
abbrev s_Shared_touch : Stmt := inClass (top 2) 5
abbrev s_Shared___init__ : Stmt := inClass (top 2) 0
abbrev s_Shared_taken : Stmt := inClass (top 2) 2
abbrev s_Shared_laid : Stmt := inClass (top 2) 3
abbrev s_Shared_met : Stmt := inClass (top 2) 4
abbrev s__law_whole : Stmt := top 5
abbrev s__law_mixed : Stmt := top 6
abbrev s__law_number_by : Stmt := top 7
abbrev s__law_deed_by : Stmt := top 8
abbrev s__law_clash : Stmt := top 9
abbrev s__law_same_list : Stmt := top 10
abbrev s__law_touched : Stmt := top 11
abbrev s__law_stays : Stmt := top 12
abbrev s__law_at_last : Stmt := top 13
abbrev s_law : Stmt := top 14
def clF (c_Shared : Addr) : Str → Addr := fun s => if s = "Shared" then c_Shared else 0
theorem clF_Shared (c_Shared : Addr) : clF c_Shared "Shared" = c_Shared := by
  unfold clF
  rw [if_pos rfl]
def b_first_clash_1 : DS → Sto → SO := (ssPure (dsIf (dAnd (dCmp cNe (dPk 6) (dPk 2)) (dCmp cIn (dC (.str (Str.ofString "put"))) (dTup (dCons (dVar 1) (dCons (dVar 5) dNil)))))
      (dsSeq (dsIf (dCmp cLt (dPk 2) (dPk 6))
      (dsRet (dTup (dCons (dVar 3) (dCons (dVar 2) (dCons (dVar 4) (dCons (dVar 6) (dCons (dVar 7) dNil)))))))
      dsNext)
    (dsRet (dTup (dCons (dVar 3) (dCons (dVar 6) (dCons (dVar 7) (dCons (dVar 2) (dCons (dVar 4) dNil))))))))
      dsNext))
def p_first_clash : List W → Sto → SM W := bodyS 5 8
    (ssSeq (ssForL 1000 (siLive (sPure (dVar 0))) (dgTup 3 (dgCons (dgName 5) (dgCons (dgName 6) (dgCons (dgName 7) dgNil)))) b_first_clash_1)
    (ssPure (dsRet (dC .none))))
def p_Shared_touch : List W → Sto → SM W := bodyS 5 6
    (ssSeq (ssAsg (sDDef (sFldR "Shared" "touches" (sPure (dVar 0))) (sPure (dVar 3)) (sLstS (sPure dNil))) (dgName 5))
    (ssSeq (ssIf (sCmp cIsN (sFldR "Shared" "clash" (sPure (dVar 0))) (sPure (dC .none)))
      (ssFld "Shared" "clash" (sPure (dVar 0)) (sCall p_first_clash (sPure (dCons (dVar 5) (dCons (dVar 1) (dCons (dVar 2) (dCons (dVar 3) (dCons (dVar 4) dNil))))))))
      (ssPure dsNext))
    (ssIf (sNot (sTru (sC1 gAny (sCompL 1000 [some 1, some 2, none] (siLive (sPure (dVar 5))) (dgName 2) (sPure dYes) (sPure (dAndV (dB (dCmp cEq (dOp gIx (dPk 2) (dC (.int (0)))) (dPk 0))) (dB (dCmp cEq (dOp gIx (dPk 2) (dC (.int (1)))) (dPk 1)))))))))
      (ssAppend (sPure (dVar 5)) (sPure (dTup (dCons (dVar 1) (dCons (dVar 2) (dCons (dVar 4) dNil))))))
      (ssPure dsNext))))
def p_Shared___init__ : List W → Sto → SM W := bodyS 2 2
    (ssSeq (ssFld "Shared" "boxes" (sPure (dVar 0)) (sListS (sPure (dVar 1))))
    (ssSeq (ssFld "Shared" "clash" (sPure (dVar 0)) (sPure (dC .none)))
    (ssFld "Shared" "touches" (sPure (dVar 0)) sDK)))
def p_Shared_taken : List W → Sto → SM W := bodyS 4 4
    (ssSeq (ssExpr (sMeth "Shared" "touch" p_Shared_touch (sPure (dVar 0)) (sPure (dCons (dC (.str (Str.ofString "get"))) (dCons (dVar 1) (dCons (dVar 2) (dCons (dVar 3) dNil)))))))
    (ssRet (sIx (sFldR "Shared" "boxes" (sPure (dVar 0))) (sPure (dVar 2)))))
def p_Shared_laid : List W → Sto → SM W := bodyS 5 5
    (ssSeq (ssExpr (sMeth "Shared" "touch" p_Shared_touch (sPure (dVar 0)) (sPure (dCons (dC (.str (Str.ofString "put"))) (dCons (dVar 1) (dCons (dVar 2) (dCons (dVar 3) dNil)))))))
    (ssSetI (sFldR "Shared" "boxes" (sPure (dVar 0))) (sPure (dVar 2)) (sPure (dVar 4))))
def p_Shared_met : List W → Sto → SM W := bodyS 1 1
    (ssSeq (ssFld "Shared" "touches" (sPure (dVar 0)) sDK)
    (ssRet (sListS (sFldR "Shared" "boxes" (sPure (dVar 0))))))
def p__law_whole : List W → Option W := bodyD 1 1
    (dsRet (dAndV (dC1 (gIsi "int") (dVar 0)) (dNotV (dC1 (gIsi "bool") (dVar 0)))))
def p__law_mixed : List W → Option W := bodyD 2 3
    (dsSeq (dsAsg (dOp gMod (dOp gAdd (dOp gAdd (dOp gMul (dPk 0) (dC (.int (48271)))) (dOp gMul (dOp gMul (dPk 1) (dVar 1)) (dC (.int (7919))))) (dC (.int (101)))) (dC (.int (2147483647)))) (dgName 2))
    (dsRet (dOp gMod (dOp gMul (dPk 2) (dVar 2)) (dC (.int (2147483629))))))
def p__law_number_by : List W → Option W := bodyD 1 1
    (dsRet (dOp gSub' (dOp gMod (dOp gMul (dPk 0) (dC (.int (69621)))) (dC (.int (4294967296)))) (dC (.int (2147483648)))))
def p__law_deed_by : List W → Option W := bodyD 2 5
    (dsSeq (dsAsg (dOp gMod (dPk 0) (dC (.int (8)))) (dgName 2))
    (dsSeq (dsAsg (dOp gMod (dOp gDiv (dPk 0) (dC (.int (8)))) (dC (.int (16)))) (dgName 3))
    (dsSeq (dsAsg (dOp gAdd (dC (.int (1))) (dOp gMod (dOp gDiv (dPk 0) (dC (.int (128)))) (dC (.int (200))))) (dgName 4))
    (dsSeq (dsIf (dCmp cEq (dPk 3) (dC (.int (0))))
      (dsRet (dOwn (dLst (dCons (dC (.str (Str.ofString "met"))) (dCons (dVar 2) (dCons (dC (.int (0))) (dCons (dVar 4) dNil)))))))
      dsNext)
    (dsSeq (dsIf (dCmp cLt (dPk 3) (dC (.int (3))))
      (dsRet (dOwn (dLst (dCons (dOp gIx (dOwn (dLst (dCons (dC (.str (Str.ofString "get"))) (dCons (dC (.str (Str.ofString "put"))) dNil)))) (dOp gSub' (dPk 3) (dC (.int (1))))) (dCons (dVar 2) (dCons (dOp gMod (dOp gDiv (dPk 0) (dC (.int (128)))) (dVar 1)) (dCons (dVar 4) dNil)))))))
      dsNext)
    (dsSeq (dsIf (dCmp cLt (dPk 3) (dC (.int (6))))
      (dsRet (dOwn (dLst (dCons (dC (.str (Str.ofString "get"))) (dCons (dVar 2) (dCons (dOp gSub' (dPk 1) (dC (.int (1)))) (dCons (dVar 4) dNil)))))))
      dsNext)
    (dsRet (dOwn (dLst (dCons (dOp gIx (dOwn (dLst (dCons (dC (.str (Str.ofString "get"))) (dCons (dC (.str (Str.ofString "put"))) dNil)))) (dOp gMod (dPk 3) (dC (.int (2))))) (dCons (dVar 2) (dCons (dVar 2) (dCons (dVar 4) dNil)))))))))))))
def b__law_clash_1 : DS → Sto → SO := (ssPure (dsIf (dAnd (dCmp cEq (dPk 8) (dPk 4)) (dAnd (dCmp cNe (dPk 7) (dPk 3)) (dOr (dCmp cEq (dPk 6) (dC (.str (Str.ofString "put")))) (dCmp cEq (dPk 2) (dC (.str (Str.ofString "put")))))))
      (dsSeq (dsIf (dCmp cLt (dPk 3) (dPk 7))
      (dsRet (dTup (dCons (dVar 4) (dCons (dVar 3) (dCons (dVar 5) (dCons (dVar 7) (dCons (dVar 9) dNil)))))))
      dsNext)
    (dsRet (dTup (dCons (dVar 4) (dCons (dVar 7) (dCons (dVar 9) (dCons (dVar 3) (dCons (dVar 5) dNil))))))))
      dsNext))
def p__law_clash : List W → Sto → SM W := bodyS 2 10
    (ssSeq (ssAsg (sPure (dVar 1)) (dgSeq 4 (dgCons (dgName 2) (dgCons (dgName 3) (dgCons (dgName 4) (dgCons (dgName 5) dgNil))))))
    (ssSeq (ssForL 1000 (siLive (sPure (dVar 0))) (dgSeq 4 (dgCons (dgName 6) (dgCons (dgName 7) (dgCons (dgName 8) (dgCons (dgName 9) dgNil))))) b__law_clash_1)
    (ssPure (dsRet (dC .none)))))
def p__law_same_list : List W → Sto → SM W := bodyS 2 2
    (ssRet (sAndV (sIsi "list" (sPure (dVar 0))) (sAndV (sC1 gAll (sCompL 1000 [none] (siLive (sPure (dVar 0))) (dgName 0) (sPure dYes) (sPure (dCall p__law_whole (dCons (dVar 0) dNil))))) (sB (sEq false (sPure (dVar 0)) (sPure (dVar 1)))))))
def p__law_touched : List W → Sto → SM W := bodyS 5 11
    (ssSeq (ssAsg (sPure (dVar 3)) (dgSeq 4 (dgCons (dgName 5) (dgCons (dgName 6) (dgCons (dgName 7) (dgCons (dgName 8) dgNil))))))
    (ssSeq (ssAsg (sCall p__law_clash (sPure (dCons (dVar 2) (dCons (dVar 3) dNil)))) (dgName 9))
    (ssSeq (ssAppend (sPure (dVar 2)) (sPure (dVar 3)))
    (ssSeq (ssIf (sPure (dCmp cEq (dPk 5) (dC (.str (Str.ofString "put")))))
      (ssSeq (ssExpr (sMeth "Shared" "laid" p_Shared_laid (sPure (dVar 0)) (sPure (dCons (dVar 6) (dCons (dVar 7) (dCons (dVar 8) (dCons (dVar 4) dNil)))))))
    (ssSetI (sPure (dVar 1)) (sPure (dVar 7)) (sPure (dVar 4))))
      (ssSeq (ssAsg (sMeth "Shared" "taken" p_Shared_taken (sPure (dVar 0)) (sPure (dCons (dVar 6) (dCons (dVar 7) (dCons (dVar 8) dNil))))) (dgName 10))
    (ssIf (sAnd (sPure (dCmp cIsN (dPk 9) (dC .none))) (sOr (sPure (dNot (dTru (dCall p__law_whole (dCons (dVar 10) dNil))))) (sEq true (sPure (dVar 10)) (sIx (sPure (dVar 1)) (sPure (dVar 7))))))
      (ssPure (dsRet (dC (.str (Str.ofString "wrong")))))
      (ssPure dsNext))))
    (ssSeq (ssIf (sEq true (sFldR "Shared" "clash" (sPure (dVar 0))) (sPure (dVar 9)))
      (ssPure (dsRet (dC (.str (Str.ofString "wrong")))))
      (ssPure dsNext))
    (ssSeq (ssPure (dsIf (dCmp cIsN (dPk 9) (dC .none))
      (dsRet (dC (.str (Str.ofString "well"))))
      dsNext))
    (ssSeq (ssIf (sOr (sNot (sTru (sIsi "tuple" (sFldR "Shared" "clash" (sPure (dVar 0)))))) (sNot (sTru (sC1 gAll (sComp [none] (siSeq (sFldR "Shared" "clash" (sPure (dVar 0)))) (dgName 0) (sPure dYes) (sPure (dCall p__law_whole (dCons (dVar 0) dNil))))))))
      (ssPure (dsRet (dC (.str (Str.ofString "wrong")))))
      (ssPure dsNext))
    (ssPure (dsRet (dC (.str (Str.ofString "clash"))))))))))))
def p__law_stays : List W → Sto → SM W := bodyS 1 7
    (ssSeq (ssAsg (sFldR "Shared" "clash" (sPure (dVar 0))) (dgTup 5 (dgCons (dgName 1) (dgCons (dgName 2) (dgCons (dgName 3) (dgCons (dgName 4) (dgCons (dgName 5) dgNil)))))))
    (ssSeq (ssAsg (sFldR "Shared" "clash" (sPure (dVar 0))) (dgName 6))
    (ssSeq (ssExpr (sMeth "Shared" "met" p_Shared_met (sPure (dVar 0)) (sPure dNil)))
    (ssSeq (ssExpr (sMeth "Shared" "laid" p_Shared_laid (sPure (dVar 0)) (sPure (dCons (dOp gMod (dOp gAdd (dPk 2) (dC (.int (3)))) (dC (.int (8)))) (dCons (dVar 1) (dCons (dOp gAdd (dPk 5) (dC (.int (1)))) (dCons (dC (.int (5))) dNil)))))))
    (ssSeq (ssExpr (sMeth "Shared" "taken" p_Shared_taken (sPure (dVar 0)) (sPure (dCons (dVar 4) (dCons (dVar 1) (dCons (dOp gAdd (dPk 3) (dC (.int (1)))) dNil))))))
    (ssSeq (ssExpr (sMeth "Shared" "laid" p_Shared_laid (sPure (dVar 0)) (sPure (dCons (dVar 2) (dCons (dC (.int (0))) (dCons (dVar 3) (dCons (dC (.int (5))) dNil)))))))
    (ssRet (sEq3 (sFldR "Shared" "clash" (sPure (dVar 0))) (sPure (dVar 6)) (sPure (dTup (dCons (dVar 1) (dCons (dVar 2) (dCons (dVar 3) (dCons (dVar 4) (dCons (dVar 5) dNil)))))))))))))))
def b__law_at_last_1 : DS → Sto → SO := (ssSeq (ssIf (sAnd (sPure (dTru (dOp gIx (dPk 2) (dVar 4)))) (sNot (sTru (sCall p__law_stays (sPure (dCons (dOp gIx (dPk 0) (dVar 4)) dNil))))))
      (ssPure (dsRet (dC (.bool false))))
      (ssPure dsNext))
    (ssIf (sPure (dNot (dTru (dOp gIx (dPk 2) (dVar 4)))))
      (ssAppend (sPure (dVar 3)) (sLst (sCons (sMeth "Shared" "met" p_Shared_met (sPure (dOp gIx (dPk 0) (dVar 4))) (sPure dNil)) (sCons (sListS (sPure (dOp gIx (dPk 1) (dVar 4)))) sNil))))
      (ssPure dsNext)))
def b__law_at_last_2 : DS → Sto → SO := (ssSeq (ssSetI (sPure (dVar 5)) (sPure (dC (.int (0)))) (sOp gSub' (sPure (dC (.int (1)))) (sIx (sPure (dVar 5)) (sPure (dC (.int (0)))))))
    (ssAppend (sPure (dVar 5)) (sPure (dC (.int (7))))))
def b__law_at_last_3 : DS → Sto → SO := (ssIf (sPure (dNot (dTru (dOp gIx (dPk 2) (dVar 4)))))
      (ssSeq (ssAsg (sComp [some 0, some 4, none] (siRng1 (sCons (sLen (sPure (dOp gIx (dPk 1) (dVar 4)))) sNil)) (dgName 2) (sPure dYes) (sMeth "Shared" "taken" p_Shared_taken (sPure (dOp gIx (dPk 0) (dVar 1))) (sPure (dCons (dC (.int (0))) (dCons (dVar 2) (dCons (dC (.int (1))) dNil)))))) (dgName 7))
    (ssIf (sEq true (sPure (dVar 7)) (sPure (dOp gIx (dPk 1) (dVar 4))))
      (ssPure (dsRet (dC (.bool false))))
      (ssPure dsNext)))
      (ssPure dsNext))
def p__law_at_last : List W → Sto → SM W := bodyS 4 8
    (ssSeq (ssFor (sPure (dRng1 (dCons (dC (.int (2))) dNil))) (dgName 4) b__law_at_last_1)
    (ssSeq (ssIf (sNot (sTru (sC1 gAll (sCompL 1000 [none, none] (siLive (sPure (dVar 3))) (dgSeq 2 (dgCons (dgName 0) (dgCons (dgName 1) dgNil))) (sPure dYes) (sCall p__law_same_list (sPure (dCons (dVar 0) (dCons (dVar 1) dNil))))))))
      (ssPure (dsRet (dC (.bool false))))
      (ssPure dsNext))
    (ssSeq (ssForL 1000 (siLive (sPure (dVar 3))) (dgSeq 2 (dgCons (dgName 5) (dgCons (dgName 6) dgNil))) b__law_at_last_2)
    (ssSeq (ssFor (sPure (dRng1 (dCons (dC (.int (2))) dNil))) (dgName 4) b__law_at_last_3)
    (ssPure (dsRet (dC (.bool true))))))))
def b_law_1 : DS → Sto → SO := (ssSeq (ssPure (dsAsg (dCall p__law_mixed (dCons (dVar 9) (dCons (dVar 8) dNil))) (dgName 10)))
    (ssSeq (ssPure (dsAsg (dOp gMod (dPk 10) (dC (.int (2)))) (dgName 11)))
    (ssSeq (ssPure (dsAsg (dCall p__law_deed_by (dCons (dOp gDiv (dPk 10) (dC (.int (2)))) (dCons (dVar 1) dNil))) (dgName 12)))
    (ssIf (sPure (dAnd (dNot (dTru (dOp gIx (dPk 6) (dVar 11)))) (dCmp cEq (dOp gIx (dPk 12) (dC (.int (0)))) (dC (.str (Str.ofString "met"))))))
      (ssSeq (ssAppend (sPure (dVar 7)) (sLst (sCons (sMeth "Shared" "met" p_Shared_met (sPure (dOp gIx (dPk 4) (dVar 11))) (sPure dNil)) (sCons (sListS (sPure (dOp gIx (dPk 3) (dVar 11)))) sNil))))
    (ssSeq (ssSetI (sPure (dVar 5)) (sPure (dVar 11)) (sLstS (sPure dNil)))
    (ssIf (sCmp cNotN (sFldR "Shared" "clash" (sPure (dOp gIx (dPk 4) (dVar 11)))) (sPure (dC .none)))
      (ssPure (dsRet (dC (.bool false))))
      (ssPure dsNext))))
      (ssIf (sPure (dNot (dTru (dOp gIx (dPk 6) (dVar 11)))))
      (ssSeq (ssAsg (sCall p__law_touched (sCons (sPure (dOp gIx (dPk 4) (dVar 11))) (sCons (sPure (dOp gIx (dPk 3) (dVar 11))) (sCons (sIx (sPure (dVar 5)) (sPure (dVar 11))) (sCons (sPure (dVar 12)) (sCons (sPure (dCall p__law_number_by (dCons (dVar 10) dNil))) sNil)))))) (dgName 13))
    (ssSeq (ssPure (dsSetI 6 (dVar 11) (dB (dCmp cEq (dPk 13) (dC (.str (Str.ofString "clash")))))))
    (ssPure (dsIf (dCmp cEq (dPk 13) (dC (.str (Str.ofString "wrong"))))
      (dsRet (dC (.bool false)))
      dsNext))))
      (ssPure dsNext))))))
def p_law : List W → Sto → SM W := bodyS 1 14
    (ssSeq (ssPure (dsAsg (dC (.int (13))) (dgName 1)))
    (ssSeq (ssPure (dsIf (dCmp cGt (dC1 gLen (dPk 0)) (dC (.int (0))))
      (dsAsg (dOp gAdd (dC (.int (13))) (dOp gMod (dOp gIx (dPk 0) (dC (.int (0)))) (dC (.int (6))))) (dgName 1))
      dsNext))
    (ssSeq (ssAsg (sLst (sCons (sCompS [none] (sPure (dRng1 (dCons (dVar 1) dNil))) (dgName 0) (sPure dYes) (sPure (dCall p__law_number_by (dCons (dOp gAdd (dOp gMul (dPk 0) (dVar 0)) (dC (.int (5)))) dNil)))) (sCons (sCompS [none] (sPure (dRng1 (dCons (dVar 1) dNil))) (dgName 0) (sPure dYes) (sPure (dCall p__law_number_by (dCons (dOp gMul (dOp gMul (dOp gMul (dC (.int (7))) (dVar 0)) (dVar 0)) (dVar 0)) dNil)))) sNil))) (dgName 2))
    (ssSeq (ssAsg (sLst (sCons (sListS (sPure (dOp gIx (dPk 2) (dC (.int (0)))))) (sCons (sListS (sPure (dOp gIx (dPk 2) (dC (.int (1)))))) sNil))) (dgName 3))
    (ssSeq (ssAsg (sLst (sCons (sMake "Shared" p_Shared___init__ (sPure (dCons (dOp gIx (dPk 2) (dC (.int (0)))) dNil))) (sCons (sMake "Shared" p_Shared___init__ (sPure (dCons (dOp gIx (dPk 2) (dC (.int (1)))) dNil))) sNil))) (dgName 4))
    (ssSeq (ssIf (sEq true (sPure (dVar 2)) (sPure (dVar 3)))
      (ssPure (dsRet (dC (.bool false))))
      (ssPure dsNext))
    (ssSeq (ssClear (sPure (dOp gIx (dPk 2) (dC (.int (0))))))
    (ssSeq (ssSetI (sPure (dOp gIx (dPk 2) (dC (.int (1))))) (sPure (dC (.int (0)))) (sPure (dC (.int (7)))))
    (ssSeq (ssAsg (sLstS (sCons (sLstS (sPure dNil)) (sCons (sLstS (sPure dNil)) sNil))) (dgName 5))
    (ssSeq (ssPure (dsOwn 6 (dLst (dCons (dC (.bool false)) (dCons (dC (.bool false)) dNil)))))
    (ssSeq (ssAsg (sLstS (sPure dNil)) (dgName 7))
    (ssSeq (ssFor (sPure (dEnum (dCons (dOwn (dSlL (dPk 0) dNoPart (dPart (dC (.int (120)))))) dNil))) (dgTup 2 (dgCons (dgName 8) (dgCons (dgName 9) dgNil))) b_law_1)
    (ssFrz 6 (ssRet (sCall p__law_at_last (sPure (dCons (dVar 4) (dCons (dVar 3) (dCons (dVar 6) (dCons (dVar 7) dNil))))))))))))))))))))
def sp_law (K : PySem.W.Frag) : Sp := fun vs H Q _ => ∃ (a : Addr) (ns : List Int), vs = [.ref a] ∧ SqL K H a (ns.map V.int) ∧ ns.length ≤ 63 ∧ ∀ H', Q (.bl true) H'
theorem sc_first_clash : FnScope ["touches", "word", "lane", "place", "line", "other_word", "other", "other_line"] ["touches", "word", "lane", "place", "line"] (defScope s_first_clash) := ⟨rfl, rfl, rfl, by decide +kernel, rfl, by decide +kernel, by decide +kernel⟩
section
variable {P : Program} {w : World} {K : PySem.W.Frag} {mg : Str → Option Value} {base : Heap} {cl : Str → Addr}
set_option maxHeartbeats 4000000 in
theorem ok_first_clash {f : Addr} {fd : FuncData} (F : Fun K "first_clash" "first_clash" s_first_clash f fd) : FnOk P w K mg base CX0 1 f fd ["touches", "word", "lane", "place", "line"] (sp0 K cl p_first_clash) := by
  refine F.ok sc_first_clash (fun vs H Q E h => sp0_len (fun ds S r e => bodyS_len e) h) (fun cdv A outer s H vs Q E hr h => ?_)
  refine ⟨_, (@pss_cons _ _ _ _ _ (@ps_for _ _ _ _ _ _ _ _ PassesOwn.never rfl (pi_seqK (K := K) rfl (pv 0)) (pg_tupK (K := K) (n := 3) rfl rfl (pgs_cons (pg_name (i := 5) sc_first_clash.nd rfl (Or.inl rfl)) (pgs_cons (pg_name (i := 6) sc_first_clash.nd rfl (Or.inl rfl)) (pgs_cons (pg_name (i := 7) sc_first_clash.nd rfl (Or.inl rfl)) pgs_nil))))
      (@pss_one _ _ _ (@ps_if _ _ _ _ _ _ _ _ (PW.pt (pw_and (pt_cmpR (op_neA (K := K) rfl hr.units) (pv 6) (pv 2) (nomark _)) (pw_and1 (pt_cmpR (op_in_seqK (K := K) rfl) pe_str (@pe_tupN _ _ _ _ _ (@pa_cons _ _ _ _ _ (pv 1) (@pa_cons _ _ _ _ _ (pv 5) pa_nil (by rfl)) (by rfl))) (by first | rfl | with_unfolding_all rfl)))))
      (@pss_cons _ _ _ _ _ (@ps_if _ _ _ _ _ _ _ _ (pt_cmpR op_lt (pv 2) (pv 6) (nomark _))
      (@pss_one _ _ _ (@ps_ret _ _ _ _ (@pe_tupN _ _ _ _ _ (@pa_cons _ _ _ _ _ (pv 3) (@pa_cons _ _ _ _ _ (pv 2) (@pa_cons _ _ _ _ _ (pv 4) (@pa_cons _ _ _ _ _ (pv 6) (@pa_cons _ _ _ _ _ (pv 7) pa_nil (by rfl)) (by rfl)) (by rfl)) (by rfl)) (by rfl)))))
      pss_nil)
    (@pss_one _ _ _ (@ps_ret _ _ _ _ (@pe_tupN _ _ _ _ _ (@pa_cons _ _ _ _ _ (pv 3) (@pa_cons _ _ _ _ _ (pv 6) (@pa_cons _ _ _ _ _ (pv 7) (@pa_cons _ _ _ _ _ (pv 2) (@pa_cons _ _ _ _ _ (pv 4) pa_nil (by rfl)) (by rfl)) (by rfl)) (by rfl)) (by rfl))))))
      pss_nil)) (by intro _; rfl))
    (@pss_one _ _ _ (@ps_ret _ _ _ _ pe_non))), ?_⟩
  exact s_fn0 (n := 8) rfl ((ss_seq (ss_forL (m := 1000) (si_live (se_pure fun ρ => (de_var (i := 0)))) (fun ρ => (dg_tup (n := 3) (dgs_cons dg_name (dgs_cons dg_name (dgs_cons dg_name dgs_nil)))))
      (ss_pure fun ρ => (ds_if (dt_and (dt_cmp db_ne (dk_var (i := 6)) (dk_var (i := 2))) (dt_cmp db_in (DE.dk de_str) (DE.dk (de_tup (da_cons (de_var (i := 1)) (da_cons (de_var (i := 5)) da_nil))))))
      (ds_seq (ds_if (dt_cmp db_lt (dk_var (i := 2)) (dk_var (i := 6)))
      (ds_ret (de_tup (da_cons (de_var (i := 3)) (da_cons (de_var (i := 2)) (da_cons (de_var (i := 4)) (da_cons (de_var (i := 6)) (da_cons (de_var (i := 7)) da_nil)))))))
      ds_next)
    (ds_ret (de_tup (da_cons (de_var (i := 3)) (da_cons (de_var (i := 6)) (da_cons (de_var (i := 7)) (da_cons (de_var (i := 2)) (da_cons (de_var (i := 4)) da_nil))))))))
      ds_next)))
    (ss_pure fun ρ => (ds_ret de_non)))) h
end
theorem sc_Shared_touch : FnScope ["self", "word", "lane", "place", "line", "touches"] ["self", "word", "lane", "place", "line"] (defScope s_Shared_touch) := ⟨rfl, rfl, rfl, by decide +kernel, rfl, by decide +kernel, by decide +kernel⟩
section
variable {P : Program} {w : World} {K : PySem.W.Frag} {mg : Str → Option Value} {base : Heap} {cl : Str → Addr}
set_option maxHeartbeats 4000000 in
theorem ok_Shared_touch {f : Addr} {fd : FuncData} (F : Fun K "touch" "Shared.touch" s_Shared_touch f fd) {f_first_clash : Addr} {fd_first_clash : FuncData} (d_first_clash : Df K mg "first_clash" s_first_clash ["touches", "word", "lane", "place", "line"] f_first_clash fd_first_clash) (G_first_clash : FnOk P w K mg base CX0 1 f_first_clash fd_first_clash ["touches", "word", "lane", "place", "line"] (sp0 K cl p_first_clash)) (m_Shared : mg "Shared" = some (.ref (cl "Shared"))) (cl_Shared : Cls K (cl "Shared")) (n_Shared_boxes : NoAttr K (cl "Shared") "boxes") (n_Shared_clash : NoAttr K (cl "Shared") "clash") (n_Shared_touches : NoAttr K (cl "Shared") "touches") (z_any : mg "any" = none) : FnOk P w K mg base CX0 2 f fd ["self", "word", "lane", "place", "line"] (sp0 K cl p_Shared_touch) := by
  refine F.ok sc_Shared_touch (fun vs H Q E h => sp0_len (fun ds S r e => bodyS_len e) h) (fun cdv A outer s H vs Q E hr h => ?_)
  refine ⟨_, (@pss_cons _ _ _ _ _ (@ps_set _ _ 5 _ _ _ _ sc_Shared_touch.nd rfl (Or.inl rfl) (pe_ddef (pe_fld (pv 0) rfl) (pv 3) (@pe_lstN _ _ _ _ pa_nil) ⟨by rfl, by rfl, by rfl, by rfl⟩) (by rfl) (by first | exact .inl rfl | exact .inr rfl))
    (@pss_cons _ _ _ _ _ (@ps_if _ _ _ _ _ _ _ _ (pt_cmpR op_isN (pe_fld (pv 0) rfl) pe_non (nomark _))
      (@pss_one _ _ _ (ps_fld (pv 0) (pe_call (G_first_clash.mono (by decide)) hr rfl d_first_clash.m d_first_clash.fn.kp d_first_clash.b .nil pass0 (@pa_cons _ _ _ _ _ (pv 5) (@pa_cons _ _ _ _ _ (pv 1) (@pa_cons _ _ _ _ _ (pv 2) (@pa_cons _ _ _ _ _ (pv 3) (@pa_cons _ _ _ _ _ (pv 4) pa_nil (by rfl)) (by rfl)) (by rfl)) (by rfl)) (by rfl))) rfl))
      pss_nil)
    (@pss_one _ _ _ (@ps_if _ _ _ _ _ _ _ _ (pt_not (pt_val (pe_callB (call_anyK (K := K) rfl rfl) rfl z_any boot_any (@pa_cons _ _ _ _ _ (pe_comp (N := ["word", "lane", "earlier"]) (ix := [some 1, some 2, none]) (comp_scope rfl (by decide +kernel) (by decide +kernel) (by rfl) rfl (by decide +kernel) (by rfl)) rfl (pi_seqK (K := K) rfl (pv 5)) (gfree_name rfl) fun _ _ _ _ => ⟨(pg_name (i := 2) (show List.Nodup [Str.ofString "word", Str.ofString "lane", Str.ofString "earlier"] by decide +kernel) rfl (Or.inl rfl) (.inr rfl)), pifs_nil, (pe_and (pe_cmpR (op_eqA (K := K) rfl hr.units) (pe_ix (ix_seqK (K := K) rfl) (pv 2) pe_int (fun _ _ => rfl)) (pv 0) (nomark _)) (pe_one (pe_cmpR (op_eqA (K := K) rfl hr.units) (pe_ix (ix_seqK (K := K) rfl) (pv 2) pe_int (fun _ _ => rfl)) (pv 1) (nomark _))))⟩) pa_nil (by rfl)))))
      (@pss_one _ _ _ (@ps_expr _ _ _ _ (pe_bmK (K := K) rfl PySem.F.plainAttrs_list PySem.F.slot_list_append PySem.F.type_list_append mt_append (pv 5) (@pa_cons _ _ _ _ _ (@pe_tupN _ _ _ _ _ (@pa_cons _ _ _ _ _ (pv 1) (@pa_cons _ _ _ _ _ (pv 2) (@pa_cons _ _ _ _ _ (pv 4) pa_nil (by rfl)) (by rfl)) (by rfl))) pa_nil (by rfl))) (by rfl)))
      pss_nil)))), ?_⟩
  exact s_fn0 (n := 6) rfl ((ss_seq (ss_asg (se_ddef (se_fld (c := "Shared") cl_Shared n_Shared_touches (se_pure fun ρ => (de_var (i := 0)))) (se_pure fun ρ => (de_var (i := 3))) (se_lstS (sa_pure fun ρ => da_nil))) (fun ρ => dg_name))
    (ss_seq (ss_if (st_cmp (fun ρ => db_isN) (se_fld (c := "Shared") cl_Shared n_Shared_clash (se_pure fun ρ => (de_var (i := 0)))) (se_pure fun ρ => de_non))
      (ss_fld (c := "Shared") cl_Shared n_Shared_clash (se_pure fun ρ => (de_var (i := 0))) (se_call (sa_pure fun ρ => (da_cons (de_var (i := 5)) (da_cons (de_var (i := 1)) (da_cons (de_var (i := 2)) (da_cons (de_var (i := 3)) (da_cons (de_var (i := 4)) da_nil))))))))
      (ss_pure fun ρ => ds_next))
    (ss_if (st_not (st_val (se_c1 (fun ρ => dc_any) (se_compL (m := 1000) (ix := [some 1, some 2, none]) (by decide) (si_live (se_pure fun ρ => (de_var (i := 5)))) (fun ρ => dg_name) (st_pure fun ρ => dt_yes) (se_pure fun ρ => (de_and (de_cmp db_eq (DE.dk (de_op dr_ix (dk_var (i := 2)) de_int)) (dk_var (i := 0))) (de_cmp db_eq (DE.dk (de_op dr_ix (dk_var (i := 2)) de_int)) (dk_var (i := 1)))))))))
      (ss_append (se_pure fun ρ => (de_var (i := 5))) (se_pure fun ρ => (de_tup (da_cons (de_var (i := 1)) (da_cons (de_var (i := 2)) (da_cons (de_var (i := 4)) da_nil))))))
      (ss_pure fun ρ => ds_next))))) h
end
theorem sc_Shared___init__ : FnScope ["self", "boxes"] ["self", "boxes"] (defScope s_Shared___init__) := ⟨rfl, rfl, rfl, by decide +kernel, rfl, by decide +kernel, by decide +kernel⟩
section
variable {P : Program} {w : World} {K : PySem.W.Frag} {mg : Str → Option Value} {base : Heap} {cl : Str → Addr}
set_option maxHeartbeats 4000000 in
theorem ok_Shared___init__ {f : Addr} {fd : FuncData} (F : Fun K "__init__" "Shared.__init__" s_Shared___init__ f fd) (m_Shared : mg "Shared" = some (.ref (cl "Shared"))) (cl_Shared : Cls K (cl "Shared")) (n_Shared_boxes : NoAttr K (cl "Shared") "boxes") (n_Shared_clash : NoAttr K (cl "Shared") "clash") (n_Shared_touches : NoAttr K (cl "Shared") "touches") (z_list : mg "list" = none) : FnOk P w K mg base CX0 1 f fd ["self", "boxes"] (sp0 K cl p_Shared___init__) := by
  refine F.ok sc_Shared___init__ (fun vs H Q E h => sp0_len (fun ds S r e => bodyS_len e) h) (fun cdv A outer s H vs Q E hr h => ?_)
  refine ⟨_, (@pss_cons _ _ _ _ _ (ps_fld (pv 0) (pe_callTy (call_list_ofK (K := K) rfl) rfl z_list boot_list (@pa_cons _ _ _ _ _ (pv 1) pa_nil (by rfl))) rfl)
    (@pss_cons _ _ _ _ _ (ps_fld (pv 0) pe_non rfl)
    (@pss_one _ _ _ (ps_fld (pv 0) pe_dnewK rfl)))), ?_⟩
  exact s_fn0 (n := 2) rfl ((ss_seq (ss_fld (c := "Shared") cl_Shared n_Shared_boxes (se_pure fun ρ => (de_var (i := 0))) (se_listS (se_pure fun ρ => (de_var (i := 1)))))
    (ss_seq (ss_fld (c := "Shared") cl_Shared n_Shared_clash (se_pure fun ρ => (de_var (i := 0))) (se_pure fun ρ => de_non))
    (ss_fld (c := "Shared") cl_Shared n_Shared_touches (se_pure fun ρ => (de_var (i := 0))) se_dK)))) h
end
theorem sc_Shared_taken : FnScope ["self", "lane", "place", "line"] ["self", "lane", "place", "line"] (defScope s_Shared_taken) := ⟨rfl, rfl, rfl, by decide +kernel, rfl, by decide +kernel, by decide +kernel⟩
section
variable {P : Program} {w : World} {K : PySem.W.Frag} {mg : Str → Option Value} {base : Heap} {cl : Str → Addr}
set_option maxHeartbeats 4000000 in
theorem ok_Shared_taken {f : Addr} {fd : FuncData} (F : Fun K "taken" "Shared.taken" s_Shared_taken f fd) {f_Shared_touch : Addr} {fd_Shared_touch : FuncData} (b_Shared_touch : Binds K fd_Shared_touch ["self", "word", "lane", "place", "line"] []) (mt_Shared_touch : Meth K (cl "Shared") "touch" f_Shared_touch) (G_Shared_touch : FnOk P w K mg base CX0 2 f_Shared_touch fd_Shared_touch ["self", "word", "lane", "place", "line"] (sp0 K cl p_Shared_touch)) (m_Shared : mg "Shared" = some (.ref (cl "Shared"))) (cl_Shared : Cls K (cl "Shared")) (n_Shared_boxes : NoAttr K (cl "Shared") "boxes") (n_Shared_clash : NoAttr K (cl "Shared") "clash") (n_Shared_touches : NoAttr K (cl "Shared") "touches") : FnOk P w K mg base CX0 3 f fd ["self", "lane", "place", "line"] (sp0 K cl p_Shared_taken) := by
  refine F.ok sc_Shared_taken (fun vs H Q E h => sp0_len (fun ds S r e => bodyS_len e) h) (fun cdv A outer s H vs Q E hr h => ?_)
  refine ⟨_, (@pss_cons _ _ _ _ _ (@ps_expr _ _ _ _ (pe_meth (pv 0) cl_Shared mt_Shared_touch (G_Shared_touch.mono (by decide)) hr b_Shared_touch .nil pass0 (@pa_cons _ _ _ _ _ pe_str (@pa_cons _ _ _ _ _ (pv 1) (@pa_cons _ _ _ _ _ (pv 2) (@pa_cons _ _ _ _ _ (pv 3) pa_nil (by rfl)) (by rfl)) (by rfl)) (by rfl))) (by rfl))
    (@pss_one _ _ _ (@ps_ret _ _ _ _ (pe_ix (ix_seqK (K := K) rfl) (pe_fld (pv 0) rfl) (pv 2) (fun _ _ => rfl))))), ?_⟩
  exact s_fn0 (n := 4) rfl ((ss_seq (ss_expr (se_meth (c := "Shared") (se_pure fun ρ => (de_var (i := 0))) (sa_pure fun ρ => (da_cons de_str (da_cons (de_var (i := 1)) (da_cons (de_var (i := 2)) (da_cons (de_var (i := 3)) da_nil)))))))
    (ss_ret (se_ix (se_fld (c := "Shared") cl_Shared n_Shared_boxes (se_pure fun ρ => (de_var (i := 0)))) (se_pure fun ρ => (de_var (i := 2))))))) h
end
theorem sc_Shared_laid : FnScope ["self", "lane", "place", "line", "number"] ["self", "lane", "place", "line", "number"] (defScope s_Shared_laid) := ⟨rfl, rfl, rfl, by decide +kernel, rfl, by decide +kernel, by decide +kernel⟩
section
variable {P : Program} {w : World} {K : PySem.W.Frag} {mg : Str → Option Value} {base : Heap} {cl : Str → Addr}
set_option maxHeartbeats 4000000 in
theorem ok_Shared_laid {f : Addr} {fd : FuncData} (F : Fun K "laid" "Shared.laid" s_Shared_laid f fd) {f_Shared_touch : Addr} {fd_Shared_touch : FuncData} (b_Shared_touch : Binds K fd_Shared_touch ["self", "word", "lane", "place", "line"] []) (mt_Shared_touch : Meth K (cl "Shared") "touch" f_Shared_touch) (G_Shared_touch : FnOk P w K mg base CX0 2 f_Shared_touch fd_Shared_touch ["self", "word", "lane", "place", "line"] (sp0 K cl p_Shared_touch)) (m_Shared : mg "Shared" = some (.ref (cl "Shared"))) (cl_Shared : Cls K (cl "Shared")) (n_Shared_boxes : NoAttr K (cl "Shared") "boxes") (n_Shared_clash : NoAttr K (cl "Shared") "clash") (n_Shared_touches : NoAttr K (cl "Shared") "touches") : FnOk P w K mg base CX0 3 f fd ["self", "lane", "place", "line", "number"] (sp0 K cl p_Shared_laid) := by
  refine F.ok sc_Shared_laid (fun vs H Q E h => sp0_len (fun ds S r e => bodyS_len e) h) (fun cdv A outer s H vs Q E hr h => ?_)
  refine ⟨_, (@pss_cons _ _ _ _ _ (@ps_expr _ _ _ _ (pe_meth (pv 0) cl_Shared mt_Shared_touch (G_Shared_touch.mono (by decide)) hr b_Shared_touch .nil pass0 (@pa_cons _ _ _ _ _ pe_str (@pa_cons _ _ _ _ _ (pv 1) (@pa_cons _ _ _ _ _ (pv 2) (@pa_cons _ _ _ _ _ (pv 3) pa_nil (by rfl)) (by rfl)) (by rfl)) (by rfl))) (by rfl))
    (@pss_one _ _ _ (ps_setI (pv 4) (pe_fld (pv 0) rfl) (pv 2)))), ?_⟩
  exact s_fn0 (n := 5) rfl ((ss_seq (ss_expr (se_meth (c := "Shared") (se_pure fun ρ => (de_var (i := 0))) (sa_pure fun ρ => (da_cons de_str (da_cons (de_var (i := 1)) (da_cons (de_var (i := 2)) (da_cons (de_var (i := 3)) da_nil)))))))
    (ss_setI (se_fld (c := "Shared") cl_Shared n_Shared_boxes (se_pure fun ρ => (de_var (i := 0)))) (se_pure fun ρ => (de_var (i := 2))) (se_pure fun ρ => (de_var (i := 4)))))) h
end
theorem sc_Shared_met : FnScope ["self"] ["self"] (defScope s_Shared_met) := ⟨rfl, rfl, rfl, by decide +kernel, rfl, by decide +kernel, by decide +kernel⟩
section
variable {P : Program} {w : World} {K : PySem.W.Frag} {mg : Str → Option Value} {base : Heap} {cl : Str → Addr}
set_option maxHeartbeats 4000000 in
theorem ok_Shared_met {f : Addr} {fd : FuncData} (F : Fun K "met" "Shared.met" s_Shared_met f fd) (m_Shared : mg "Shared" = some (.ref (cl "Shared"))) (cl_Shared : Cls K (cl "Shared")) (n_Shared_boxes : NoAttr K (cl "Shared") "boxes") (n_Shared_clash : NoAttr K (cl "Shared") "clash") (n_Shared_touches : NoAttr K (cl "Shared") "touches") (z_list : mg "list" = none) : FnOk P w K mg base CX0 1 f fd ["self"] (sp0 K cl p_Shared_met) := by
  refine F.ok sc_Shared_met (fun vs H Q E h => sp0_len (fun ds S r e => bodyS_len e) h) (fun cdv A outer s H vs Q E hr h => ?_)
  refine ⟨_, (@pss_cons _ _ _ _ _ (ps_fld (pv 0) pe_dnewK rfl)
    (@pss_one _ _ _ (@ps_ret _ _ _ _ (pe_callTy (call_list_ofK (K := K) rfl) rfl z_list boot_list (@pa_cons _ _ _ _ _ (pe_fld (pv 0) rfl) pa_nil (by rfl)))))), ?_⟩
  exact s_fn0 (n := 1) rfl ((ss_seq (ss_fld (c := "Shared") cl_Shared n_Shared_touches (se_pure fun ρ => (de_var (i := 0))) se_dK)
    (ss_ret (se_listS (se_fld (c := "Shared") cl_Shared n_Shared_boxes (se_pure fun ρ => (de_var (i := 0)))))))) h
end
theorem sc__law_whole : FnScope ["_law_found"] ["_law_found"] (defScope s__law_whole) := ⟨rfl, rfl, rfl, by decide +kernel, rfl, by decide +kernel, by decide +kernel⟩
section
variable {P : Program} {w : World} {K : PySem.W.Frag} {mg : Str → Option Value} {base : Heap} {cl : Str → Addr}
set_option maxHeartbeats 4000000 in
theorem ok__law_whole {f : Addr} {fd : FuncData} (F : Fun K "_law_whole" "_law_whole" s__law_whole f fd) (z_isinstance : mg "isinstance" = none) (z_bool : mg "bool" = none) (z_int : mg "int" = none) : FnOk P w K mg base CX0 1 f fd ["_law_found"] (spD K p__law_whole) := by
  refine F.ok sc__law_whole (fun vs H Q E h => spD_len (fun ds d e => bodyD_len e) h) (fun cdv A outer s H vs Q E hr h => ?_)
  refine ⟨_, (@pss_one _ _ _ (@ps_ret _ _ _ _ (pe_and (pe_callB call_isiK rfl z_isinstance boot_isinstance (@pa_cons _ _ _ _ _ (pv 0) (@pa_cons _ _ _ _ _ (pe_bltn (v := .ty "int") rfl z_int boot_int rfl) pa_nil (by rfl)) (by rfl))) (pe_one (pe_not (pe_callB call_isiK rfl z_isinstance boot_isinstance (@pa_cons _ _ _ _ _ (pv 0) (@pa_cons _ _ _ _ _ (pe_bltn (v := .ty "bool") rfl z_bool boot_bool rfl) pa_nil (by rfl)) (by rfl)))))))), ?_⟩
  exact d_fn (n := 1) rfl (fun ρ => (ds_ret (de_and (de_isi (de_var (i := 0))) (de_not (de_isi (de_var (i := 0))))))) h
end
theorem sc__law_mixed : FnScope ["_law_cell", "_law_k", "_law_number"] ["_law_cell", "_law_k"] (defScope s__law_mixed) := ⟨rfl, rfl, rfl, by decide +kernel, rfl, by decide +kernel, by decide +kernel⟩
section
variable {P : Program} {w : World} {K : PySem.W.Frag} {mg : Str → Option Value} {base : Heap} {cl : Str → Addr}
set_option maxHeartbeats 4000000 in
theorem ok__law_mixed {f : Addr} {fd : FuncData} (F : Fun K "_law_mixed" "_law_mixed" s__law_mixed f fd) : FnOk P w K mg base CX0 1 f fd ["_law_cell", "_law_k"] (spD K p__law_mixed) := by
  refine F.ok sc__law_mixed (fun vs H Q E h => spD_len (fun ds d e => bodyD_len e) h) (fun cdv A outer s H vs Q E hr h => ?_)
  refine ⟨_, (@pss_cons _ _ _ _ _ (@ps_set _ _ 2 _ _ _ _ sc__law_mixed.nd rfl (Or.inl rfl) (@pe_op _ _ _ _ _ _ _ _ op_modM (@pe_op _ _ _ _ _ _ _ _ (op_addA (K := K) rfl) (@pe_op _ _ _ _ _ _ _ _ (op_addA (K := K) rfl) (@pe_op _ _ _ _ _ _ _ _ op_mulA (pv 0) pe_int) (@pe_op _ _ _ _ _ _ _ _ op_mulA (@pe_op _ _ _ _ _ _ _ _ op_mulA (pv 1) (pv 1)) pe_int)) pe_int) pe_int) (by rfl) (by first | exact .inl rfl | exact .inr rfl))
    (@pss_one _ _ _ (@ps_ret _ _ _ _ (@pe_op _ _ _ _ _ _ _ _ op_modM (@pe_op _ _ _ _ _ _ _ _ op_mulA (pv 2) (pv 2)) pe_int)))), ?_⟩
  exact d_fn (n := 3) rfl (fun ρ => (ds_seq (ds_asg (de_op dr_mod (DE.dk (de_op dr_add (DE.dk (de_op dr_add (DE.dk (de_op dr_mul (dk_var (i := 0)) de_int)) (de_op dr_mul (DE.dk (de_op dr_mul (dk_var (i := 1)) (de_var (i := 1)))) de_int))) de_int)) de_int) dg_name)
    (ds_ret (de_op dr_mod (DE.dk (de_op dr_mul (dk_var (i := 2)) (de_var (i := 2)))) de_int)))) h
end
theorem sc__law_number_by : FnScope ["_law_cell"] ["_law_cell"] (defScope s__law_number_by) := ⟨rfl, rfl, rfl, by decide +kernel, rfl, by decide +kernel, by decide +kernel⟩
section
variable {P : Program} {w : World} {K : PySem.W.Frag} {mg : Str → Option Value} {base : Heap} {cl : Str → Addr}
set_option maxHeartbeats 4000000 in
theorem ok__law_number_by {f : Addr} {fd : FuncData} (F : Fun K "_law_number_by" "_law_number_by" s__law_number_by f fd) : FnOk P w K mg base CX0 1 f fd ["_law_cell"] (spD K p__law_number_by) := by
  refine F.ok sc__law_number_by (fun vs H Q E h => spD_len (fun ds d e => bodyD_len e) h) (fun cdv A outer s H vs Q E hr h => ?_)
  refine ⟨_, (@pss_one _ _ _ (@ps_ret _ _ _ _ (@pe_op _ _ _ _ _ _ _ _ op_sub (@pe_op _ _ _ _ _ _ _ _ op_modM (@pe_op _ _ _ _ _ _ _ _ op_mulA (pv 0) pe_int) pe_int) pe_int))), ?_⟩
  exact d_fn (n := 1) rfl (fun ρ => (ds_ret (de_op dr_sub (DE.dk (de_op dr_mod (DE.dk (de_op dr_mul (dk_var (i := 0)) de_int)) de_int)) de_int))) h
end
theorem sc__law_deed_by : FnScope ["_law_cell", "_law_room", "_law_lane", "_law_kind", "_law_line"] ["_law_cell", "_law_room"] (defScope s__law_deed_by) := ⟨rfl, rfl, rfl, by decide +kernel, rfl, by decide +kernel, by decide +kernel⟩
section
variable {P : Program} {w : World} {K : PySem.W.Frag} {mg : Str → Option Value} {base : Heap} {cl : Str → Addr}
set_option maxHeartbeats 4000000 in
theorem ok__law_deed_by {f : Addr} {fd : FuncData} (F : Fun K "_law_deed_by" "_law_deed_by" s__law_deed_by f fd) : FnOk P w K mg base CX0 1 f fd ["_law_cell", "_law_room"] (spD K p__law_deed_by) := by
  refine F.ok sc__law_deed_by (fun vs H Q E h => spD_len (fun ds d e => bodyD_len e) h) (fun cdv A outer s H vs Q E hr h => ?_)
  refine ⟨_, (@pss_cons _ _ _ _ _ (@ps_set _ _ 2 _ _ _ _ sc__law_deed_by.nd rfl (Or.inl rfl) (@pe_op _ _ _ _ _ _ _ _ op_modM (pv 0) pe_int) (by rfl) (by first | exact .inl rfl | exact .inr rfl))
    (@pss_cons _ _ _ _ _ (@ps_set _ _ 3 _ _ _ _ sc__law_deed_by.nd rfl (Or.inl rfl) (@pe_op _ _ _ _ _ _ _ _ op_modM (@pe_op _ _ _ _ _ _ _ _ op_fdivM (pv 0) pe_int) pe_int) (by rfl) (by first | exact .inl rfl | exact .inr rfl))
    (@pss_cons _ _ _ _ _ (@ps_set _ _ 4 _ _ _ _ sc__law_deed_by.nd rfl (Or.inl rfl) (@pe_op _ _ _ _ _ _ _ _ (op_addA (K := K) rfl) pe_int (@pe_op _ _ _ _ _ _ _ _ op_modM (@pe_op _ _ _ _ _ _ _ _ op_fdivM (pv 0) pe_int) pe_int)) (by rfl) (by first | exact .inl rfl | exact .inr rfl))
    (@pss_cons _ _ _ _ _ (@ps_if _ _ _ _ _ _ _ _ (pt_cmpR (op_eqA (K := K) rfl hr.units) (pv 3) pe_int (nomark _))
      (@pss_one _ _ _ (@ps_ret _ _ _ _ (@pe_lstN _ _ _ _ (@pa_cons _ _ _ _ _ pe_str (@pa_cons _ _ _ _ _ (pv 2) (@pa_cons _ _ _ _ _ pe_int (@pa_cons _ _ _ _ _ (pv 4) pa_nil (by rfl)) (by rfl)) (by rfl)) (by rfl)))))
      pss_nil)
    (@pss_cons _ _ _ _ _ (@ps_if _ _ _ _ _ _ _ _ (pt_cmpR op_lt (pv 3) pe_int (nomark _))
      (@pss_one _ _ _ (@ps_ret _ _ _ _ (@pe_lstN _ _ _ _ (@pa_cons _ _ _ _ _ (pe_ix (ix_seqK (K := K) rfl) (@pe_lstN _ _ _ _ (@pa_cons _ _ _ _ _ pe_str (@pa_cons _ _ _ _ _ pe_str pa_nil (by rfl)) (by rfl))) (@pe_op _ _ _ _ _ _ _ _ op_sub (pv 3) pe_int) (fun _ _ => rfl)) (@pa_cons _ _ _ _ _ (pv 2) (@pa_cons _ _ _ _ _ (@pe_op _ _ _ _ _ _ _ _ op_modM (@pe_op _ _ _ _ _ _ _ _ op_fdivM (pv 0) pe_int) (pv 1)) (@pa_cons _ _ _ _ _ (pv 4) pa_nil (by rfl)) (by rfl)) (by rfl)) (by rfl)))))
      pss_nil)
    (@pss_cons _ _ _ _ _ (@ps_if _ _ _ _ _ _ _ _ (pt_cmpR op_lt (pv 3) pe_int (nomark _))
      (@pss_one _ _ _ (@ps_ret _ _ _ _ (@pe_lstN _ _ _ _ (@pa_cons _ _ _ _ _ pe_str (@pa_cons _ _ _ _ _ (pv 2) (@pa_cons _ _ _ _ _ (@pe_op _ _ _ _ _ _ _ _ op_sub (pv 1) pe_int) (@pa_cons _ _ _ _ _ (pv 4) pa_nil (by rfl)) (by rfl)) (by rfl)) (by rfl)))))
      pss_nil)
    (@pss_one _ _ _ (@ps_ret _ _ _ _ (@pe_lstN _ _ _ _ (@pa_cons _ _ _ _ _ (pe_ix (ix_seqK (K := K) rfl) (@pe_lstN _ _ _ _ (@pa_cons _ _ _ _ _ pe_str (@pa_cons _ _ _ _ _ pe_str pa_nil (by rfl)) (by rfl))) (@pe_op _ _ _ _ _ _ _ _ op_modM (pv 3) pe_int) (fun _ _ => rfl)) (@pa_cons _ _ _ _ _ (pv 2) (@pa_cons _ _ _ _ _ (pv 2) (@pa_cons _ _ _ _ _ (pv 4) pa_nil (by rfl)) (by rfl)) (by rfl)) (by rfl))))))))))), ?_⟩
  exact d_fn (n := 5) rfl (fun ρ => (ds_seq (ds_asg (de_op dr_mod (dk_var (i := 0)) de_int) dg_name)
    (ds_seq (ds_asg (de_op dr_mod (DE.dk (de_op dr_div (dk_var (i := 0)) de_int)) de_int) dg_name)
    (ds_seq (ds_asg (de_op dr_add (DE.dk de_int) (de_op dr_mod (DE.dk (de_op dr_div (dk_var (i := 0)) de_int)) de_int)) dg_name)
    (ds_seq (ds_if (dt_cmp db_eq (dk_var (i := 3)) (DE.dk de_int))
      (ds_ret (DO.de (do_lst (da_cons de_str (da_cons (de_var (i := 2)) (da_cons de_int (da_cons (de_var (i := 4)) da_nil)))))))
      ds_next)
    (ds_seq (ds_if (dt_cmp db_lt (dk_var (i := 3)) (DE.dk de_int))
      (ds_ret (DO.de (do_lst (da_cons (de_op dr_ix (DE.dk (DO.de (do_lst (da_cons de_str (da_cons de_str da_nil))))) (de_op dr_sub (dk_var (i := 3)) de_int)) (da_cons (de_var (i := 2)) (da_cons (de_op dr_mod (DE.dk (de_op dr_div (dk_var (i := 0)) de_int)) (de_var (i := 1))) (da_cons (de_var (i := 4)) da_nil)))))))
      ds_next)
    (ds_seq (ds_if (dt_cmp db_lt (dk_var (i := 3)) (DE.dk de_int))
      (ds_ret (DO.de (do_lst (da_cons de_str (da_cons (de_var (i := 2)) (da_cons (de_op dr_sub (dk_var (i := 1)) de_int) (da_cons (de_var (i := 4)) da_nil)))))))
      ds_next)
    (ds_ret (DO.de (do_lst (da_cons (de_op dr_ix (DE.dk (DO.de (do_lst (da_cons de_str (da_cons de_str da_nil))))) (de_op dr_mod (dk_var (i := 3)) de_int)) (da_cons (de_var (i := 2)) (da_cons (de_var (i := 2)) (da_cons (de_var (i := 4)) da_nil)))))))))))))) h
end
theorem sc__law_clash : FnScope ["_law_touches", "_law_deed", "_law_word", "_law_lane", "_law_place", "_law_line", "_law_what", "_law_other", "_law_there", "_law_row"] ["_law_touches", "_law_deed"] (defScope s__law_clash) := ⟨rfl, rfl, rfl, by decide +kernel, rfl, by decide +kernel, by decide +kernel⟩
section
variable {P : Program} {w : World} {K : PySem.W.Frag} {mg : Str → Option Value} {base : Heap} {cl : Str → Addr}
set_option maxHeartbeats 4000000 in
theorem ok__law_clash {f : Addr} {fd : FuncData} (F : Fun K "_law_clash" "_law_clash" s__law_clash f fd) : FnOk P w K mg base CX0 1 f fd ["_law_touches", "_law_deed"] (sp0 K cl p__law_clash) := by
  refine F.ok sc__law_clash (fun vs H Q E h => sp0_len (fun ds S r e => bodyS_len e) h) (fun cdv A outer s H vs Q E hr h => ?_)
  refine ⟨_, (@pss_cons _ _ _ _ _ (ps_asg (pv 1) (pg_seqK (K := K) (n := 4) rfl rfl (pgs_cons (pg_name (i := 2) sc__law_clash.nd rfl (Or.inl rfl)) (pgs_cons (pg_name (i := 3) sc__law_clash.nd rfl (Or.inl rfl)) (pgs_cons (pg_name (i := 4) sc__law_clash.nd rfl (Or.inl rfl)) (pgs_cons (pg_name (i := 5) sc__law_clash.nd rfl (Or.inl rfl)) pgs_nil))))))
    (@pss_cons _ _ _ _ _ (@ps_for _ _ _ _ _ _ _ _ PassesOwn.never rfl (pi_seqK (K := K) rfl (pv 0)) (pg_seqK (K := K) (n := 4) rfl rfl (pgs_cons (pg_name (i := 6) sc__law_clash.nd rfl (Or.inl rfl)) (pgs_cons (pg_name (i := 7) sc__law_clash.nd rfl (Or.inl rfl)) (pgs_cons (pg_name (i := 8) sc__law_clash.nd rfl (Or.inl rfl)) (pgs_cons (pg_name (i := 9) sc__law_clash.nd rfl (Or.inl rfl)) pgs_nil)))))
      (@pss_one _ _ _ (@ps_if _ _ _ _ _ _ _ _ (PW.pt (pw_and (pt_cmpR (op_eqA (K := K) rfl hr.units) (pv 8) (pv 4) (nomark _)) (pw_and (pt_cmpR (op_neA (K := K) rfl hr.units) (pv 7) (pv 3) (nomark _)) (pw_and1 (PW.pt (pw_or (pt_cmpR (op_eqA (K := K) rfl hr.units) (pv 6) pe_str (nomark _)) (pw_or1 (pt_cmpR (op_eqA (K := K) rfl hr.units) (pv 2) pe_str (nomark _)))))))))
      (@pss_cons _ _ _ _ _ (@ps_if _ _ _ _ _ _ _ _ (pt_cmpR op_lt (pv 3) (pv 7) (nomark _))
      (@pss_one _ _ _ (@ps_ret _ _ _ _ (@pe_tupN _ _ _ _ _ (@pa_cons _ _ _ _ _ (pv 4) (@pa_cons _ _ _ _ _ (pv 3) (@pa_cons _ _ _ _ _ (pv 5) (@pa_cons _ _ _ _ _ (pv 7) (@pa_cons _ _ _ _ _ (pv 9) pa_nil (by rfl)) (by rfl)) (by rfl)) (by rfl)) (by rfl)))))
      pss_nil)
    (@pss_one _ _ _ (@ps_ret _ _ _ _ (@pe_tupN _ _ _ _ _ (@pa_cons _ _ _ _ _ (pv 4) (@pa_cons _ _ _ _ _ (pv 7) (@pa_cons _ _ _ _ _ (pv 9) (@pa_cons _ _ _ _ _ (pv 3) (@pa_cons _ _ _ _ _ (pv 5) pa_nil (by rfl)) (by rfl)) (by rfl)) (by rfl)) (by rfl))))))
      pss_nil)) (by intro _; rfl))
    (@pss_one _ _ _ (@ps_ret _ _ _ _ pe_non)))), ?_⟩
  exact s_fn0 (n := 10) rfl ((ss_seq (ss_asg (se_pure fun ρ => (de_var (i := 1))) (fun ρ => (dg_seq (n := 4) (dgs_cons dg_name (dgs_cons dg_name (dgs_cons dg_name (dgs_cons dg_name dgs_nil)))))))
    (ss_seq (ss_forL (m := 1000) (si_live (se_pure fun ρ => (de_var (i := 0)))) (fun ρ => (dg_seq (n := 4) (dgs_cons dg_name (dgs_cons dg_name (dgs_cons dg_name (dgs_cons dg_name dgs_nil))))))
      (ss_pure fun ρ => (ds_if (dt_and (dt_cmp db_eq (dk_var (i := 8)) (dk_var (i := 4))) (dt_and (dt_cmp db_ne (dk_var (i := 7)) (dk_var (i := 3))) (dt_or (dt_cmp db_eq (dk_var (i := 6)) (DE.dk de_str)) (dt_cmp db_eq (dk_var (i := 2)) (DE.dk de_str)))))
      (ds_seq (ds_if (dt_cmp db_lt (dk_var (i := 3)) (dk_var (i := 7)))
      (ds_ret (de_tup (da_cons (de_var (i := 4)) (da_cons (de_var (i := 3)) (da_cons (de_var (i := 5)) (da_cons (de_var (i := 7)) (da_cons (de_var (i := 9)) da_nil)))))))
      ds_next)
    (ds_ret (de_tup (da_cons (de_var (i := 4)) (da_cons (de_var (i := 7)) (da_cons (de_var (i := 9)) (da_cons (de_var (i := 3)) (da_cons (de_var (i := 5)) da_nil))))))))
      ds_next)))
    (ss_pure fun ρ => (ds_ret de_non))))) h
end
theorem sc__law_same_list : FnScope ["_law_found", "_law_due"] ["_law_found", "_law_due"] (defScope s__law_same_list) := ⟨rfl, rfl, rfl, by decide +kernel, rfl, by decide +kernel, by decide +kernel⟩
section
variable {P : Program} {w : World} {K : PySem.W.Frag} {mg : Str → Option Value} {base : Heap} {cl : Str → Addr}
set_option maxHeartbeats 4000000 in
theorem ok__law_same_list {f : Addr} {fd : FuncData} (F : Fun K "_law_same_list" "_law_same_list" s__law_same_list f fd) {f__law_whole : Addr} {fd__law_whole : FuncData} (d__law_whole : Df K mg "_law_whole" s__law_whole ["_law_found"] f__law_whole fd__law_whole) (G__law_whole : FnOk P w K mg base CX0 1 f__law_whole fd__law_whole ["_law_found"] (spD K p__law_whole)) (z_all : mg "all" = none) (z_isinstance : mg "isinstance" = none) (z_list : mg "list" = none) : FnOk P w K mg base CX0 2 f fd ["_law_found", "_law_due"] (sp0 K cl p__law_same_list) := by
  refine F.ok sc__law_same_list (fun vs H Q E h => sp0_len (fun ds S r e => bodyS_len e) h) (fun cdv A outer s H vs Q E hr h => ?_)
  refine ⟨_, (@pss_one _ _ _ (@ps_ret _ _ _ _ (pe_and (pe_callB (call_isiB (K := K) rfl) rfl z_isinstance boot_isinstance (@pa_cons _ _ _ _ _ (pv 0) (@pa_cons _ _ _ _ _ (pe_bltn (v := .ty "list") rfl z_list boot_list rfl) pa_nil (by rfl)) (by rfl))) (pe_and (pe_callB (call_allK (K := K) rfl rfl) rfl z_all boot_all (@pa_cons _ _ _ _ _ (pe_comp (N := ["_law_number"]) (ix := [none]) (comp_scope rfl (by decide +kernel) (by decide +kernel) (by rfl) rfl (by decide +kernel) (by rfl)) rfl (pi_seqK (K := K) rfl (pv 0)) (gfree_name rfl) fun _ _ _ _ => ⟨(pg_name (i := 0) (show List.Nodup [Str.ofString "_law_number"] by decide +kernel) rfl (Or.inl rfl) (.inr rfl)), pifs_nil, (pe_call (G__law_whole.mono (by decide)) hr rfl d__law_whole.m d__law_whole.fn.kp d__law_whole.b .nil pass0 (@pa_cons _ _ _ _ _ (pv 0) pa_nil (by rfl)))⟩) pa_nil (by rfl))) (pe_one (pe_cmpR (r := rEqB K false) (op_eqA (K := K) rfl hr.units) (pv 0) (pv 1) (nomark _))))))), ?_⟩
  exact s_fn0 (n := 2) rfl ((ss_ret (se_and (se_isi (se_pure fun ρ => (de_var (i := 0)))) (se_and (se_c1 (fun ρ => dc_all) (se_compL (m := 1000) (ix := [none]) (by decide) (si_live (se_pure fun ρ => (de_var (i := 0)))) (fun ρ => dg_name) (st_pure fun ρ => dt_yes) (se_pure fun ρ => (de_call (da_cons (de_var (i := 0)) da_nil))))) (se_eq (neg := false) (se_pure fun ρ => (de_var (i := 0))) (se_pure fun ρ => (de_var (i := 1)))))))) h
end
theorem sc__law_touched : FnScope ["_law_boxes", "_law_numbers", "_law_touches", "_law_deed", "_law_number", "_law_word", "_law_lane", "_law_place", "_law_line", "_law_due", "_law_found"] ["_law_boxes", "_law_numbers", "_law_touches", "_law_deed", "_law_number"] (defScope s__law_touched) := ⟨rfl, rfl, rfl, by decide +kernel, rfl, by decide +kernel, by decide +kernel⟩
section
variable {P : Program} {w : World} {K : PySem.W.Frag} {mg : Str → Option Value} {base : Heap} {cl : Str → Addr}
set_option maxHeartbeats 4000000 in
theorem ok__law_touched {f : Addr} {fd : FuncData} (F : Fun K "_law_touched" "_law_touched" s__law_touched f fd) {f__law_clash : Addr} {fd__law_clash : FuncData} (d__law_clash : Df K mg "_law_clash" s__law_clash ["_law_touches", "_law_deed"] f__law_clash fd__law_clash) (G__law_clash : FnOk P w K mg base CX0 1 f__law_clash fd__law_clash ["_law_touches", "_law_deed"] (sp0 K cl p__law_clash)) {f_Shared_laid : Addr} {fd_Shared_laid : FuncData} (b_Shared_laid : Binds K fd_Shared_laid ["self", "lane", "place", "line", "number"] []) (mt_Shared_laid : Meth K (cl "Shared") "laid" f_Shared_laid) (G_Shared_laid : FnOk P w K mg base CX0 3 f_Shared_laid fd_Shared_laid ["self", "lane", "place", "line", "number"] (sp0 K cl p_Shared_laid)) {f_Shared_taken : Addr} {fd_Shared_taken : FuncData} (b_Shared_taken : Binds K fd_Shared_taken ["self", "lane", "place", "line"] []) (mt_Shared_taken : Meth K (cl "Shared") "taken" f_Shared_taken) (G_Shared_taken : FnOk P w K mg base CX0 3 f_Shared_taken fd_Shared_taken ["self", "lane", "place", "line"] (sp0 K cl p_Shared_taken)) {f__law_whole : Addr} {fd__law_whole : FuncData} (d__law_whole : Df K mg "_law_whole" s__law_whole ["_law_found"] f__law_whole fd__law_whole) (G__law_whole : FnOk P w K mg base CX0 1 f__law_whole fd__law_whole ["_law_found"] (spD K p__law_whole)) (m_Shared : mg "Shared" = some (.ref (cl "Shared"))) (cl_Shared : Cls K (cl "Shared")) (n_Shared_boxes : NoAttr K (cl "Shared") "boxes") (n_Shared_clash : NoAttr K (cl "Shared") "clash") (n_Shared_touches : NoAttr K (cl "Shared") "touches") (z_all : mg "all" = none) (z_isinstance : mg "isinstance" = none) (z_tuple : mg "tuple" = none) : FnOk P w K mg base CX0 4 f fd ["_law_boxes", "_law_numbers", "_law_touches", "_law_deed", "_law_number"] (sp0 K cl p__law_touched) := by
  refine F.ok sc__law_touched (fun vs H Q E h => sp0_len (fun ds S r e => bodyS_len e) h) (fun cdv A outer s H vs Q E hr h => ?_)
  refine ⟨_, (@pss_cons _ _ _ _ _ (ps_asg (pv 3) (pg_seqK (K := K) (n := 4) rfl rfl (pgs_cons (pg_name (i := 5) sc__law_touched.nd rfl (Or.inl rfl)) (pgs_cons (pg_name (i := 6) sc__law_touched.nd rfl (Or.inl rfl)) (pgs_cons (pg_name (i := 7) sc__law_touched.nd rfl (Or.inl rfl)) (pgs_cons (pg_name (i := 8) sc__law_touched.nd rfl (Or.inl rfl)) pgs_nil))))))
    (@pss_cons _ _ _ _ _ (@ps_set _ _ 9 _ _ _ _ sc__law_touched.nd rfl (Or.inl rfl) (pe_call (G__law_clash.mono (by decide)) hr rfl d__law_clash.m d__law_clash.fn.kp d__law_clash.b .nil pass0 (@pa_cons _ _ _ _ _ (pv 2) (@pa_cons _ _ _ _ _ (pv 3) pa_nil (by rfl)) (by rfl))) (by rfl) (by first | exact .inl rfl | exact .inr rfl))
    (@pss_cons _ _ _ _ _ (@ps_expr _ _ _ _ (pe_bmK (K := K) rfl PySem.F.plainAttrs_list PySem.F.slot_list_append PySem.F.type_list_append mt_append (pv 2) (@pa_cons _ _ _ _ _ (pv 3) pa_nil (by rfl))) (by rfl))
    (@pss_cons _ _ _ _ _ (@ps_if _ _ _ _ _ _ _ _ (pt_cmpR (op_eqA (K := K) rfl hr.units) (pv 5) pe_str (nomark _))
      (@pss_cons _ _ _ _ _ (@ps_expr _ _ _ _ (pe_meth (pv 0) cl_Shared mt_Shared_laid (G_Shared_laid.mono (by decide)) hr b_Shared_laid .nil pass0 (@pa_cons _ _ _ _ _ (pv 6) (@pa_cons _ _ _ _ _ (pv 7) (@pa_cons _ _ _ _ _ (pv 8) (@pa_cons _ _ _ _ _ (pv 4) pa_nil (by rfl)) (by rfl)) (by rfl)) (by rfl))) (by rfl))
    (@pss_one _ _ _ (ps_setI (pv 4) (pv 1) (pv 7))))
      (@pss_cons _ _ _ _ _ (@ps_set _ _ 10 _ _ _ _ sc__law_touched.nd rfl (Or.inl rfl) (pe_meth (pv 0) cl_Shared mt_Shared_taken (G_Shared_taken.mono (by decide)) hr b_Shared_taken .nil pass0 (@pa_cons _ _ _ _ _ (pv 6) (@pa_cons _ _ _ _ _ (pv 7) (@pa_cons _ _ _ _ _ (pv 8) pa_nil (by rfl)) (by rfl)) (by rfl))) (by rfl) (by first | exact .inl rfl | exact .inr rfl))
    (@pss_one _ _ _ (@ps_if _ _ _ _ _ _ _ _ (PW.pt (pw_and (pt_cmpR op_isN (pv 9) pe_non (nomark _)) (pw_and1 (PW.pt (pw_or (pt_not (pt_val (pe_call (G__law_whole.mono (by decide)) hr rfl d__law_whole.m d__law_whole.fn.kp d__law_whole.b .nil pass0 (@pa_cons _ _ _ _ _ (pv 10) pa_nil (by rfl))))) (pw_or1 (pt_cmpR (r := rEqB K true) (op_neA (K := K) rfl hr.units) (pv 10) (pe_ix (ix_seqK (K := K) rfl) (pv 1) (pv 7) (fun _ _ => rfl)) (nomark _))))))))
      (@pss_one _ _ _ (@ps_ret _ _ _ _ pe_str))
      pss_nil))))
    (@pss_cons _ _ _ _ _ (@ps_if _ _ _ _ _ _ _ _ (pt_cmpR (r := rEqB K true) (op_neA (K := K) rfl hr.units) (pe_fld (pv 0) rfl) (pv 9) (nomark _))
      (@pss_one _ _ _ (@ps_ret _ _ _ _ pe_str))
      pss_nil)
    (@pss_cons _ _ _ _ _ (@ps_if _ _ _ _ _ _ _ _ (pt_cmpR op_isN (pv 9) pe_non (nomark _))
      (@pss_one _ _ _ (@ps_ret _ _ _ _ pe_str))
      pss_nil)
    (@pss_cons _ _ _ _ _ (@ps_if _ _ _ _ _ _ _ _ (PW.pt (pw_or (pt_not (pt_val (pe_callB (call_isiB (K := K) rfl) rfl z_isinstance boot_isinstance (@pa_cons _ _ _ _ _ (pe_fld (pv 0) rfl) (@pa_cons _ _ _ _ _ (pe_bltn (v := .ty "tuple") rfl z_tuple boot_tuple rfl) pa_nil (by rfl)) (by rfl))))) (pw_or1 (pt_not (pt_val (pe_callB (call_allK (K := K) rfl rfl) rfl z_all boot_all (@pa_cons _ _ _ _ _ (pe_comp (N := ["_law_number"]) (ix := [none]) (comp_scope rfl (by decide +kernel) (by decide +kernel) (by rfl) rfl (by decide +kernel) (by rfl)) rfl (pi_seqK (K := K) rfl (pe_fld (pv 0) rfl)) (gfree_name rfl) fun _ _ _ _ => ⟨(pg_name (i := 0) (show List.Nodup [Str.ofString "_law_number"] by decide +kernel) rfl (Or.inl rfl) (.inr rfl)), pifs_nil, (pe_call (G__law_whole.mono (by decide)) hr rfl d__law_whole.m d__law_whole.fn.kp d__law_whole.b .nil pass0 (@pa_cons _ _ _ _ _ (pv 0) pa_nil (by rfl)))⟩) pa_nil (by rfl))))))))
      (@pss_one _ _ _ (@ps_ret _ _ _ _ pe_str))
      pss_nil)
    (@pss_one _ _ _ (@ps_ret _ _ _ _ pe_str))))))))), ?_⟩
  exact s_fn0 (n := 11) rfl ((ss_seq (ss_asg (se_pure fun ρ => (de_var (i := 3))) (fun ρ => (dg_seq (n := 4) (dgs_cons dg_name (dgs_cons dg_name (dgs_cons dg_name (dgs_cons dg_name dgs_nil)))))))
    (ss_seq (ss_asg (se_call (sa_pure fun ρ => (da_cons (de_var (i := 2)) (da_cons (de_var (i := 3)) da_nil)))) (fun ρ => dg_name))
    (ss_seq (ss_append (se_pure fun ρ => (de_var (i := 2))) (se_pure fun ρ => (de_var (i := 3))))
    (ss_seq (ss_if (st_pure fun ρ => (dt_cmp db_eq (dk_var (i := 5)) (DE.dk de_str)))
      (ss_seq (ss_expr (se_meth (c := "Shared") (se_pure fun ρ => (de_var (i := 0))) (sa_pure fun ρ => (da_cons (de_var (i := 6)) (da_cons (de_var (i := 7)) (da_cons (de_var (i := 8)) (da_cons (de_var (i := 4)) da_nil)))))))
    (ss_setI (se_pure fun ρ => (de_var (i := 1))) (se_pure fun ρ => (de_var (i := 7))) (se_pure fun ρ => (de_var (i := 4)))))
      (ss_seq (ss_asg (se_meth (c := "Shared") (se_pure fun ρ => (de_var (i := 0))) (sa_pure fun ρ => (da_cons (de_var (i := 6)) (da_cons (de_var (i := 7)) (da_cons (de_var (i := 8)) da_nil))))) (fun ρ => dg_name))
    (ss_if (st_and (st_pure fun ρ => (dt_cmp db_isN (dk_var (i := 9)) (DE.dk de_non))) (st_or (st_pure fun ρ => (dt_not (dt_val (de_call (da_cons (de_var (i := 10)) da_nil))))) (st_eq (neg := true) (se_pure fun ρ => (de_var (i := 10))) (se_ix (se_pure fun ρ => (de_var (i := 1))) (se_pure fun ρ => (de_var (i := 7)))))))
      (ss_pure fun ρ => (ds_ret de_str))
      (ss_pure fun ρ => ds_next))))
    (ss_seq (ss_if (st_eq (neg := true) (se_fld (c := "Shared") cl_Shared n_Shared_clash (se_pure fun ρ => (de_var (i := 0)))) (se_pure fun ρ => (de_var (i := 9))))
      (ss_pure fun ρ => (ds_ret de_str))
      (ss_pure fun ρ => ds_next))
    (ss_seq (ss_pure fun ρ => (ds_if (dt_cmp db_isN (dk_var (i := 9)) (DE.dk de_non))
      (ds_ret de_str)
      ds_next))
    (ss_seq (ss_if (st_or (st_not (st_val (se_isi (se_fld (c := "Shared") cl_Shared n_Shared_clash (se_pure fun ρ => (de_var (i := 0))))))) (st_not (st_val (se_c1 (fun ρ => dc_all) (se_comp (ix := [none]) (by decide) (sip_seq (se_fld (c := "Shared") cl_Shared n_Shared_clash (se_pure fun ρ => (de_var (i := 0))))) (fun ρ => dg_name) (st_pure fun ρ => dt_yes) (se_pure fun ρ => (de_call (da_cons (de_var (i := 0)) da_nil))))))))
      (ss_pure fun ρ => (ds_ret de_str))
      (ss_pure fun ρ => ds_next))
    (ss_pure fun ρ => (ds_ret de_str)))))))))) h
end
theorem sc__law_stays : FnScope ["_law_boxes", "_law_place", "_law_lane", "_law_line", "_law_other", "_law_row", "_law_kept"] ["_law_boxes"] (defScope s__law_stays) := ⟨rfl, rfl, rfl, by decide +kernel, rfl, by decide +kernel, by decide +kernel⟩
section
variable {P : Program} {w : World} {K : PySem.W.Frag} {mg : Str → Option Value} {base : Heap} {cl : Str → Addr}
set_option maxHeartbeats 4000000 in
theorem ok__law_stays {f : Addr} {fd : FuncData} (F : Fun K "_law_stays" "_law_stays" s__law_stays f fd) {f_Shared_met : Addr} {fd_Shared_met : FuncData} (b_Shared_met : Binds K fd_Shared_met ["self"] []) (mt_Shared_met : Meth K (cl "Shared") "met" f_Shared_met) (G_Shared_met : FnOk P w K mg base CX0 1 f_Shared_met fd_Shared_met ["self"] (sp0 K cl p_Shared_met)) {f_Shared_laid : Addr} {fd_Shared_laid : FuncData} (b_Shared_laid : Binds K fd_Shared_laid ["self", "lane", "place", "line", "number"] []) (mt_Shared_laid : Meth K (cl "Shared") "laid" f_Shared_laid) (G_Shared_laid : FnOk P w K mg base CX0 3 f_Shared_laid fd_Shared_laid ["self", "lane", "place", "line", "number"] (sp0 K cl p_Shared_laid)) {f_Shared_taken : Addr} {fd_Shared_taken : FuncData} (b_Shared_taken : Binds K fd_Shared_taken ["self", "lane", "place", "line"] []) (mt_Shared_taken : Meth K (cl "Shared") "taken" f_Shared_taken) (G_Shared_taken : FnOk P w K mg base CX0 3 f_Shared_taken fd_Shared_taken ["self", "lane", "place", "line"] (sp0 K cl p_Shared_taken)) (m_Shared : mg "Shared" = some (.ref (cl "Shared"))) (cl_Shared : Cls K (cl "Shared")) (n_Shared_boxes : NoAttr K (cl "Shared") "boxes") (n_Shared_clash : NoAttr K (cl "Shared") "clash") (n_Shared_touches : NoAttr K (cl "Shared") "touches") : FnOk P w K mg base CX0 4 f fd ["_law_boxes"] (sp0 K cl p__law_stays) := by
  refine F.ok sc__law_stays (fun vs H Q E h => sp0_len (fun ds S r e => bodyS_len e) h) (fun cdv A outer s H vs Q E hr h => ?_)
  refine ⟨_, (@pss_cons _ _ _ _ _ (ps_asg (pe_fld (pv 0) rfl) (pg_tupK (K := K) (n := 5) rfl rfl (pgs_cons (pg_name (i := 1) sc__law_stays.nd rfl (Or.inl rfl)) (pgs_cons (pg_name (i := 2) sc__law_stays.nd rfl (Or.inl rfl)) (pgs_cons (pg_name (i := 3) sc__law_stays.nd rfl (Or.inl rfl)) (pgs_cons (pg_name (i := 4) sc__law_stays.nd rfl (Or.inl rfl)) (pgs_cons (pg_name (i := 5) sc__law_stays.nd rfl (Or.inl rfl)) pgs_nil)))))))
    (@pss_cons _ _ _ _ _ (@ps_set _ _ 6 _ _ _ _ sc__law_stays.nd rfl (Or.inl rfl) (pe_fld (pv 0) rfl) (by rfl) (by first | exact .inl rfl | exact .inr rfl))
    (@pss_cons _ _ _ _ _ (@ps_expr _ _ _ _ (pe_meth0 (pv 0) cl_Shared mt_Shared_met (G_Shared_met.mono (by decide)) hr b_Shared_met .nil pass0) (by rfl))
    (@pss_cons _ _ _ _ _ (@ps_expr _ _ _ _ (pe_meth (pv 0) cl_Shared mt_Shared_laid (G_Shared_laid.mono (by decide)) hr b_Shared_laid .nil pass0 (@pa_cons _ _ _ _ _ (@pe_op _ _ _ _ _ _ _ _ op_modM (@pe_op _ _ _ _ _ _ _ _ (op_addA (K := K) rfl) (pv 2) pe_int) pe_int) (@pa_cons _ _ _ _ _ (pv 1) (@pa_cons _ _ _ _ _ (@pe_op _ _ _ _ _ _ _ _ (op_addA (K := K) rfl) (pv 5) pe_int) (@pa_cons _ _ _ _ _ pe_int pa_nil (by rfl)) (by rfl)) (by rfl)) (by rfl))) (by rfl))
    (@pss_cons _ _ _ _ _ (@ps_expr _ _ _ _ (pe_meth (pv 0) cl_Shared mt_Shared_taken (G_Shared_taken.mono (by decide)) hr b_Shared_taken .nil pass0 (@pa_cons _ _ _ _ _ (pv 4) (@pa_cons _ _ _ _ _ (pv 1) (@pa_cons _ _ _ _ _ (@pe_op _ _ _ _ _ _ _ _ (op_addA (K := K) rfl) (pv 3) pe_int) pa_nil (by rfl)) (by rfl)) (by rfl))) (by rfl))
    (@pss_cons _ _ _ _ _ (@ps_expr _ _ _ _ (pe_meth (pv 0) cl_Shared mt_Shared_laid (G_Shared_laid.mono (by decide)) hr b_Shared_laid .nil pass0 (@pa_cons _ _ _ _ _ (pv 2) (@pa_cons _ _ _ _ _ pe_int (@pa_cons _ _ _ _ _ (pv 3) (@pa_cons _ _ _ _ _ pe_int pa_nil (by rfl)) (by rfl)) (by rfl)) (by rfl))) (by rfl))
    (@pss_one _ _ _ (@ps_ret _ _ _ _ (pe_chain (r := rEqB K false) (r' := rEqB K false) (op_eqA (K := K) rfl hr.units) (op_eqA (K := K) rfl hr.units) (pe_fld (pv 0) rfl) (pv 6) (@pe_tupN _ _ _ _ _ (@pa_cons _ _ _ _ _ (pv 1) (@pa_cons _ _ _ _ _ (pv 2) (@pa_cons _ _ _ _ _ (pv 3) (@pa_cons _ _ _ _ _ (pv 4) (@pa_cons _ _ _ _ _ (pv 5) pa_nil (by rfl)) (by rfl)) (by rfl)) (by rfl)) (by rfl)))))))))))), ?_⟩
  exact s_fn0 (n := 7) rfl ((ss_seq (ss_asg (se_fld (c := "Shared") cl_Shared n_Shared_clash (se_pure fun ρ => (de_var (i := 0)))) (fun ρ => (dg_tup (n := 5) (dgs_cons dg_name (dgs_cons dg_name (dgs_cons dg_name (dgs_cons dg_name (dgs_cons dg_name dgs_nil))))))))
    (ss_seq (ss_asg (se_fld (c := "Shared") cl_Shared n_Shared_clash (se_pure fun ρ => (de_var (i := 0)))) (fun ρ => dg_name))
    (ss_seq (ss_expr (se_meth (c := "Shared") (se_pure fun ρ => (de_var (i := 0))) (sa_pure fun ρ => da_nil)))
    (ss_seq (ss_expr (se_meth (c := "Shared") (se_pure fun ρ => (de_var (i := 0))) (sa_pure fun ρ => (da_cons (de_op dr_mod (DE.dk (de_op dr_add (dk_var (i := 2)) de_int)) de_int) (da_cons (de_var (i := 1)) (da_cons (de_op dr_add (dk_var (i := 5)) de_int) (da_cons de_int da_nil)))))))
    (ss_seq (ss_expr (se_meth (c := "Shared") (se_pure fun ρ => (de_var (i := 0))) (sa_pure fun ρ => (da_cons (de_var (i := 4)) (da_cons (de_var (i := 1)) (da_cons (de_op dr_add (dk_var (i := 3)) de_int) da_nil))))))
    (ss_seq (ss_expr (se_meth (c := "Shared") (se_pure fun ρ => (de_var (i := 0))) (sa_pure fun ρ => (da_cons (de_var (i := 2)) (da_cons de_int (da_cons (de_var (i := 3)) (da_cons de_int da_nil)))))))
    (ss_ret (se_eq3 (se_fld (c := "Shared") cl_Shared n_Shared_clash (se_pure fun ρ => (de_var (i := 0)))) (se_pure fun ρ => (de_var (i := 6))) (se_pure fun ρ => (de_tup (da_cons (de_var (i := 1)) (da_cons (de_var (i := 2)) (da_cons (de_var (i := 3)) (da_cons (de_var (i := 4)) (da_cons (de_var (i := 5)) da_nil)))))))))))))))) h
end
theorem sc__law_at_last : FnScope ["_law_boxes", "_law_numbers", "_law_closed", "_law_told", "_law_which", "_law_one", "_law_due", "_law_found"] ["_law_boxes", "_law_numbers", "_law_closed", "_law_told"] (defScope s__law_at_last) := ⟨rfl, rfl, rfl, by decide +kernel, rfl, by decide +kernel, by decide +kernel⟩
section
variable {P : Program} {w : World} {K : PySem.W.Frag} {mg : Str → Option Value} {base : Heap} {cl : Str → Addr}
set_option maxHeartbeats 4000000 in
theorem ok__law_at_last {f : Addr} {fd : FuncData} (F : Fun K "_law_at_last" "_law_at_last" s__law_at_last f fd) {f__law_stays : Addr} {fd__law_stays : FuncData} (d__law_stays : Df K mg "_law_stays" s__law_stays ["_law_boxes"] f__law_stays fd__law_stays) (G__law_stays : FnOk P w K mg base CX0 4 f__law_stays fd__law_stays ["_law_boxes"] (sp0 K cl p__law_stays)) {f_Shared_met : Addr} {fd_Shared_met : FuncData} (b_Shared_met : Binds K fd_Shared_met ["self"] []) (mt_Shared_met : Meth K (cl "Shared") "met" f_Shared_met) (G_Shared_met : FnOk P w K mg base CX0 1 f_Shared_met fd_Shared_met ["self"] (sp0 K cl p_Shared_met)) {f__law_same_list : Addr} {fd__law_same_list : FuncData} (d__law_same_list : Df K mg "_law_same_list" s__law_same_list ["_law_found", "_law_due"] f__law_same_list fd__law_same_list) (G__law_same_list : FnOk P w K mg base CX0 2 f__law_same_list fd__law_same_list ["_law_found", "_law_due"] (sp0 K cl p__law_same_list)) {f_Shared_taken : Addr} {fd_Shared_taken : FuncData} (b_Shared_taken : Binds K fd_Shared_taken ["self", "lane", "place", "line"] []) (mt_Shared_taken : Meth K (cl "Shared") "taken" f_Shared_taken) (G_Shared_taken : FnOk P w K mg base CX0 3 f_Shared_taken fd_Shared_taken ["self", "lane", "place", "line"] (sp0 K cl p_Shared_taken)) (m_Shared : mg "Shared" = some (.ref (cl "Shared"))) (cl_Shared : Cls K (cl "Shared")) (n_Shared_boxes : NoAttr K (cl "Shared") "boxes") (n_Shared_clash : NoAttr K (cl "Shared") "clash") (n_Shared_touches : NoAttr K (cl "Shared") "touches") (z_list : mg "list" = none) (z_range : mg "range" = none) (z_all : mg "all" = none) (z_len : mg "len" = none) : FnOk P w K mg base CX0 5 f fd ["_law_boxes", "_law_numbers", "_law_closed", "_law_told"] (sp0 K cl p__law_at_last) := by
  refine F.ok sc__law_at_last (fun vs H Q E h => sp0_len (fun ds S r e => bodyS_len e) h) (fun cdv A outer s H vs Q E hr h => ?_)
  refine ⟨_, (@pss_cons _ _ _ _ _ (@ps_for _ _ _ _ _ _ _ _ PassesOwn.never rfl (pi_range1 rfl z_range (@pa_cons _ _ _ _ _ pe_int pa_nil (by rfl))) (pg_name (i := 4) sc__law_at_last.nd rfl (Or.inr rfl))
      (@pss_cons _ _ _ _ _ (@ps_if _ _ _ _ _ _ _ _ (PW.pt (pw_and (pt_val (pe_ix (ix_seqK (K := K) rfl) (pv 2) (pv 4) (fun _ _ => rfl))) (pw_and1 (pt_not (pt_val (pe_call (G__law_stays.mono (by decide)) hr rfl d__law_stays.m d__law_stays.fn.kp d__law_stays.b .nil pass0 (@pa_cons _ _ _ _ _ (pe_ix (ix_seqK (K := K) rfl) (pv 0) (pv 4) (fun _ _ => rfl)) pa_nil (by rfl))))))))
      (@pss_one _ _ _ (@ps_ret _ _ _ _ pe_bl))
      pss_nil)
    (@pss_one _ _ _ (@ps_if _ _ _ _ _ _ _ _ (pt_not (pt_val (pe_ix (ix_seqK (K := K) rfl) (pv 2) (pv 4) (fun _ _ => rfl))))
      (@pss_one _ _ _ (@ps_expr _ _ _ _ (pe_bmK (K := K) rfl PySem.F.plainAttrs_list PySem.F.slot_list_append PySem.F.type_list_append mt_append (pv 3) (@pa_cons _ _ _ _ _ (@pe_lstN _ _ _ _ (@pa_cons _ _ _ _ _ (pe_meth0 (pe_ix (ix_seqK (K := K) rfl) (pv 0) (pv 4) (fun _ _ => rfl)) cl_Shared mt_Shared_met (G_Shared_met.mono (by decide)) hr b_Shared_met .nil pass0) (@pa_cons _ _ _ _ _ (pe_callTy (call_list_ofK (K := K) rfl) rfl z_list boot_list (@pa_cons _ _ _ _ _ (pe_ix (ix_seqK (K := K) rfl) (pv 1) (pv 4) (fun _ _ => rfl)) pa_nil (by rfl))) pa_nil (by rfl)) (by rfl))) pa_nil (by rfl))) (by rfl)))
      pss_nil))) (by intro _; rfl))
    (@pss_cons _ _ _ _ _ (@ps_if _ _ _ _ _ _ _ _ (pt_not (pt_val (pe_callB (call_allK (K := K) rfl rfl) rfl z_all boot_all (@pa_cons _ _ _ _ _ (pe_comp (N := ["_law_one", "_law_due"]) (ix := [none, none]) (comp_scope rfl (by decide +kernel) (by decide +kernel) (by rfl) rfl (by decide +kernel) (by rfl)) rfl (pi_seqK (K := K) rfl (pv 3)) (gfree_seq2 rfl rfl) fun _ _ _ _ => ⟨(pg_seqK (K := K) (n := 2) rfl rfl (pgs_cons (pg_name (i := 0) (show List.Nodup [Str.ofString "_law_one", Str.ofString "_law_due"] by decide +kernel) rfl (Or.inl rfl) (.inr rfl)) (pgs_cons (pg_name (i := 1) (show List.Nodup [Str.ofString "_law_one", Str.ofString "_law_due"] by decide +kernel) rfl (Or.inl rfl) (.inr rfl)) pgs_nil))), pifs_nil, (pe_call (G__law_same_list.mono (by decide)) hr rfl d__law_same_list.m d__law_same_list.fn.kp d__law_same_list.b .nil pass0 (@pa_cons _ _ _ _ _ (pv 0) (@pa_cons _ _ _ _ _ (pv 1) pa_nil (by rfl)) (by rfl)))⟩) pa_nil (by rfl)))))
      (@pss_one _ _ _ (@ps_ret _ _ _ _ pe_bl))
      pss_nil)
    (@pss_cons _ _ _ _ _ (@ps_for _ _ _ _ _ _ _ _ PassesOwn.never rfl (pi_seqK (K := K) rfl (pv 3)) (pg_seqK (K := K) (n := 2) rfl rfl (pgs_cons (pg_name (i := 5) sc__law_at_last.nd rfl (Or.inl rfl)) (pgs_cons (pg_name (i := 6) sc__law_at_last.nd rfl (Or.inl rfl)) pgs_nil)))
      (@pss_cons _ _ _ _ _ (ps_setI (@pe_op _ _ _ _ _ _ _ _ op_sub pe_int (pe_ix (ix_seqK (K := K) rfl) (pv 5) pe_int (fun _ _ => rfl))) (pv 5) pe_int)
    (@pss_one _ _ _ (@ps_expr _ _ _ _ (pe_bmK (K := K) rfl PySem.F.plainAttrs_list PySem.F.slot_list_append PySem.F.type_list_append mt_append (pv 5) (@pa_cons _ _ _ _ _ pe_int pa_nil (by rfl))) (by rfl)))) (by intro _; rfl))
    (@pss_cons _ _ _ _ _ (@ps_for _ _ _ _ _ _ _ _ PassesOwn.never rfl (pi_range1 rfl z_range (@pa_cons _ _ _ _ _ pe_int pa_nil (by rfl))) (pg_name (i := 4) sc__law_at_last.nd rfl (Or.inr rfl))
      (@pss_one _ _ _ (@ps_if _ _ _ _ _ _ _ _ (pt_not (pt_val (pe_ix (ix_seqK (K := K) rfl) (pv 2) (pv 4) (fun _ _ => rfl))))
      (@pss_cons _ _ _ _ _ (ps_setC (i := 7) sc__law_at_last.nd rfl (Or.inl rfl) (N := ["_law_boxes", "_law_which", "_law_k"]) (ix := [some 0, some 4, none]) (comp_scope rfl (by decide +kernel) (by decide +kernel) (by rfl) rfl (by decide +kernel) (by rfl)) rfl (pi_range1 rfl z_range (@pa_cons _ _ _ _ _ (pe_callB (call_lenA (K := K) rfl) rfl z_len PySem.boot_len (@pa_cons _ _ _ _ _ (pe_ix (ix_seqK (K := K) rfl) (pv 1) (pv 4) (fun _ _ => rfl)) pa_nil (by rfl))) pa_nil (by rfl))) (gfree_name rfl) fun _ _ _ _ => ⟨(pg_name (i := 2) (show List.Nodup [Str.ofString "_law_boxes", Str.ofString "_law_which", Str.ofString "_law_k"] by decide +kernel) rfl (Or.inl rfl) (.inr rfl)), pifs_nil, (pe_meth (pe_ix (ix_seqK (K := K) rfl) (pv 0) (pv 1) (fun _ _ => rfl)) cl_Shared mt_Shared_taken (G_Shared_taken.mono (by decide)) hr b_Shared_taken .nil pass0 (@pa_cons _ _ _ _ _ pe_int (@pa_cons _ _ _ _ _ (pv 2) (@pa_cons _ _ _ _ _ pe_int pa_nil (by rfl)) (by rfl)) (by rfl)))⟩)
    (@pss_one _ _ _ (@ps_if _ _ _ _ _ _ _ _ (pt_cmpR (r := rEqB K true) (op_neA (K := K) rfl hr.units) (pv 7) (pe_ix (ix_seqK (K := K) rfl) (pv 1) (pv 4) (fun _ _ => rfl)) (nomark _))
      (@pss_one _ _ _ (@ps_ret _ _ _ _ pe_bl))
      pss_nil)))
      pss_nil)) (by intro _; rfl))
    (@pss_one _ _ _ (@ps_ret _ _ _ _ pe_bl)))))), ?_⟩
  exact s_fn0 (n := 8) rfl ((ss_seq (ss_for (sip_pure fun ρ => (di_rng1 (da_cons de_int da_nil))) (fun ρ => dg_name)
      (ss_seq (ss_if (st_and (st_pure fun ρ => (dt_val (de_op dr_ix (dk_var (i := 2)) (de_var (i := 4))))) (st_not (st_val (se_call (sa_pure fun ρ => (da_cons (de_op dr_ix (dk_var (i := 0)) (de_var (i := 4))) da_nil))))))
      (ss_pure fun ρ => (ds_ret de_bl))
      (ss_pure fun ρ => ds_next))
    (ss_if (st_pure fun ρ => (dt_not (dt_val (de_op dr_ix (dk_var (i := 2)) (de_var (i := 4))))))
      (ss_append (se_pure fun ρ => (de_var (i := 3))) (se_lst (sa_cons (se_meth (c := "Shared") (se_pure fun ρ => (de_op dr_ix (dk_var (i := 0)) (de_var (i := 4)))) (sa_pure fun ρ => da_nil)) (sa_cons (se_listS (se_pure fun ρ => (de_op dr_ix (dk_var (i := 1)) (de_var (i := 4))))) sa_nil))))
      (ss_pure fun ρ => ds_next))))
    (ss_seq (ss_if (st_not (st_val (se_c1 (fun ρ => dc_all) (se_compL (m := 1000) (ix := [none, none]) (by decide) (si_live (se_pure fun ρ => (de_var (i := 3)))) (fun ρ => (dg_seq (n := 2) (dgs_cons dg_name (dgs_cons dg_name dgs_nil)))) (st_pure fun ρ => dt_yes) (se_call (sa_pure fun ρ => (da_cons (de_var (i := 0)) (da_cons (de_var (i := 1)) da_nil))))))))
      (ss_pure fun ρ => (ds_ret de_bl))
      (ss_pure fun ρ => ds_next))
    (ss_seq (ss_forL (m := 1000) (si_live (se_pure fun ρ => (de_var (i := 3)))) (fun ρ => (dg_seq (n := 2) (dgs_cons dg_name (dgs_cons dg_name dgs_nil))))
      (ss_seq (ss_setI (se_pure fun ρ => (de_var (i := 5))) (se_pure fun ρ => de_int) (se_op (fun ρ => dr_sub) (se_pure fun ρ => de_int) (se_ix (se_pure fun ρ => (de_var (i := 5))) (se_pure fun ρ => de_int))))
    (ss_append (se_pure fun ρ => (de_var (i := 5))) (se_pure fun ρ => de_int))))
    (ss_seq (ss_for (sip_pure fun ρ => (di_rng1 (da_cons de_int da_nil))) (fun ρ => dg_name)
      (ss_if (st_pure fun ρ => (dt_not (dt_val (de_op dr_ix (dk_var (i := 2)) (de_var (i := 4))))))
      (ss_seq (ss_asg (se_comp (ix := [some 0, some 4, none]) (by decide) (sip_rng1 (sa_cons (se_len (se_pure fun ρ => (de_op dr_ix (dk_var (i := 1)) (de_var (i := 4))))) sa_nil)) (fun ρ => dg_name) (st_pure fun ρ => dt_yes) (se_meth (c := "Shared") (se_pure fun ρ => (de_op dr_ix (dk_var (i := 0)) (de_var (i := 1)))) (sa_pure fun ρ => (da_cons de_int (da_cons (de_var (i := 2)) (da_cons de_int da_nil)))))) (fun ρ => dg_name))
    (ss_if (st_eq (neg := true) (se_pure fun ρ => (de_var (i := 7))) (se_pure fun ρ => (de_op dr_ix (dk_var (i := 1)) (de_var (i := 4)))))
      (ss_pure fun ρ => (ds_ret de_bl))
      (ss_pure fun ρ => ds_next)))
      (ss_pure fun ρ => ds_next)))
    (ss_pure fun ρ => (ds_ret de_bl))))))) h
end
theorem sc_law : FnScope ["_law_script", "_law_room", "_law_handed", "_law_numbers", "_law_boxes", "_law_touches", "_law_closed", "_law_told", "_law_k", "_law_one", "_law_cell", "_law_which", "_law_deed", "_law_word"] ["_law_script"] (defScope s_law) := ⟨rfl, rfl, rfl, by decide +kernel, rfl, by decide +kernel, by decide +kernel⟩
section
variable {P : Program} {w : World} {K : PySem.W.Frag} {mg : Str → Option Value} {base : Heap} {cl : Str → Addr}
set_option maxHeartbeats 4000000 in
theorem ok_law (hlaw : ∀ ns : List Int, ns.length ≤ 63 → ∃ S, p_law [.list (ns.map .int)] [] = some (.ok (.bool true), S)) {f : Addr} {fd : FuncData} (F : Fun K "law" "law" s_law f fd) {f__law_number_by : Addr} {fd__law_number_by : FuncData} (d__law_number_by : Df K mg "_law_number_by" s__law_number_by ["_law_cell"] f__law_number_by fd__law_number_by) (G__law_number_by : FnOk P w K mg base CX0 1 f__law_number_by fd__law_number_by ["_law_cell"] (spD K p__law_number_by)) {f_Shared___init__ : Addr} {fd_Shared___init__ : FuncData} (b_Shared___init__ : Binds K fd_Shared___init__ ["self", "boxes"] []) (M_Shared : Mk K (cl "Shared") f_Shared___init__) (G_Shared___init__ : FnOk P w K mg base CX0 1 f_Shared___init__ fd_Shared___init__ ["self", "boxes"] (sp0 K cl p_Shared___init__)) {f__law_mixed : Addr} {fd__law_mixed : FuncData} (d__law_mixed : Df K mg "_law_mixed" s__law_mixed ["_law_cell", "_law_k"] f__law_mixed fd__law_mixed) (G__law_mixed : FnOk P w K mg base CX0 1 f__law_mixed fd__law_mixed ["_law_cell", "_law_k"] (spD K p__law_mixed)) {f__law_deed_by : Addr} {fd__law_deed_by : FuncData} (d__law_deed_by : Df K mg "_law_deed_by" s__law_deed_by ["_law_cell", "_law_room"] f__law_deed_by fd__law_deed_by) (G__law_deed_by : FnOk P w K mg base CX0 1 f__law_deed_by fd__law_deed_by ["_law_cell", "_law_room"] (spD K p__law_deed_by)) {f_Shared_met : Addr} {fd_Shared_met : FuncData} (b_Shared_met : Binds K fd_Shared_met ["self"] []) (mt_Shared_met : Meth K (cl "Shared") "met" f_Shared_met) (G_Shared_met : FnOk P w K mg base CX0 1 f_Shared_met fd_Shared_met ["self"] (sp0 K cl p_Shared_met)) {f__law_touched : Addr} {fd__law_touched : FuncData} (d__law_touched : Df K mg "_law_touched" s__law_touched ["_law_boxes", "_law_numbers", "_law_touches", "_law_deed", "_law_number"] f__law_touched fd__law_touched) (G__law_touched : FnOk P w K mg base CX0 4 f__law_touched fd__law_touched ["_law_boxes", "_law_numbers", "_law_touches", "_law_deed", "_law_number"] (sp0 K cl p__law_touched)) {f__law_at_last : Addr} {fd__law_at_last : FuncData} (d__law_at_last : Df K mg "_law_at_last" s__law_at_last ["_law_boxes", "_law_numbers", "_law_closed", "_law_told"] f__law_at_last fd__law_at_last) (G__law_at_last : FnOk P w K mg base CX0 5 f__law_at_last fd__law_at_last ["_law_boxes", "_law_numbers", "_law_closed", "_law_told"] (sp0 K cl p__law_at_last)) (m_Shared : mg "Shared" = some (.ref (cl "Shared"))) (cl_Shared : Cls K (cl "Shared")) (n_Shared_boxes : NoAttr K (cl "Shared") "boxes") (n_Shared_clash : NoAttr K (cl "Shared") "clash") (n_Shared_touches : NoAttr K (cl "Shared") "touches") (z_len : mg "len" = none) (z_range : mg "range" = none) (z_list : mg "list" = none) (z_enumerate : mg "enumerate" = none) : FnOk P w K mg base CX0 6 f fd ["_law_script"] (sp_law K) := by
  refine F.ok sc_law (fun vs H Q E h => ?_) (fun cdv A outer s H vs Q E hr h => ?_)
  · obtain ⟨a, ns, rfl, _⟩ := h
    rfl
  obtain ⟨a, ns, rfl, hS, h63, q⟩ := h
  obtain ⟨Sf, hl⟩ := hlaw ns h63
  refine ⟨_, (@pss_cons _ _ _ _ _ (@ps_set _ _ 1 _ _ _ _ sc_law.nd rfl (Or.inl rfl) pe_int (by rfl) (by first | exact .inl rfl | exact .inr rfl))
    (@pss_cons _ _ _ _ _ (@ps_if _ _ _ _ _ _ _ _ (pt_cmpR op_gt (pe_callB (call_lenA (K := K) rfl) rfl z_len PySem.boot_len (@pa_cons _ _ _ _ _ (pv 0) pa_nil (by rfl))) pe_int (nomark _))
      (@pss_one _ _ _ (@ps_set _ _ 1 _ _ _ _ sc_law.nd rfl (Or.inl rfl) (@pe_op _ _ _ _ _ _ _ _ (op_addA (K := K) rfl) pe_int (@pe_op _ _ _ _ _ _ _ _ op_modM (pe_ix (ix_seqK (K := K) rfl) (pv 0) pe_int (fun _ _ => rfl)) pe_int)) (by rfl) (by first | exact .inl rfl | exact .inr rfl)))
      pss_nil)
    (@pss_cons _ _ _ _ _ (@ps_set _ _ 2 _ _ _ _ sc_law.nd rfl (Or.inl rfl) (@pe_lstN _ _ _ _ (@pa_cons _ _ _ _ _ (pe_comp (N := ["_law_k"]) (ix := [none]) (comp_scope rfl (by decide +kernel) (by decide +kernel) (by rfl) rfl (by decide +kernel) (by rfl)) rfl (pi_range1 rfl z_range (@pa_cons _ _ _ _ _ (pv 1) pa_nil (by rfl))) (gfree_name rfl) fun _ _ _ _ => ⟨(pg_name (i := 0) (show List.Nodup [Str.ofString "_law_k"] by decide +kernel) rfl (Or.inl rfl) (.inr rfl)), pifs_nil, (pe_call (G__law_number_by.mono (by decide)) hr rfl d__law_number_by.m d__law_number_by.fn.kp d__law_number_by.b .nil pass0 (@pa_cons _ _ _ _ _ (@pe_op _ _ _ _ _ _ _ _ (op_addA (K := K) rfl) (@pe_op _ _ _ _ _ _ _ _ op_mulA (pv 0) (pv 0)) pe_int) pa_nil (by rfl)))⟩) (@pa_cons _ _ _ _ _ (pe_comp (N := ["_law_k"]) (ix := [none]) (comp_scope rfl (by decide +kernel) (by decide +kernel) (by rfl) rfl (by decide +kernel) (by rfl)) rfl (pi_range1 rfl z_range (@pa_cons _ _ _ _ _ (pv 1) pa_nil (by rfl))) (gfree_name rfl) fun _ _ _ _ => ⟨(pg_name (i := 0) (show List.Nodup [Str.ofString "_law_k"] by decide +kernel) rfl (Or.inl rfl) (.inr rfl)), pifs_nil, (pe_call (G__law_number_by.mono (by decide)) hr rfl d__law_number_by.m d__law_number_by.fn.kp d__law_number_by.b .nil pass0 (@pa_cons _ _ _ _ _ (@pe_op _ _ _ _ _ _ _ _ op_mulA (@pe_op _ _ _ _ _ _ _ _ op_mulA (@pe_op _ _ _ _ _ _ _ _ op_mulA pe_int (pv 0)) (pv 0)) (pv 0)) pa_nil (by rfl)))⟩) pa_nil (by rfl)) (by rfl))) (by rfl) (by first | exact .inl rfl | exact .inr rfl))
    (@pss_cons _ _ _ _ _ (@ps_set _ _ 3 _ _ _ _ sc_law.nd rfl (Or.inl rfl) (@pe_lstN _ _ _ _ (@pa_cons _ _ _ _ _ (pe_callTy (call_list_ofK (K := K) rfl) rfl z_list boot_list (@pa_cons _ _ _ _ _ (pe_ix (ix_seqK (K := K) rfl) (pv 2) pe_int (fun _ _ => rfl)) pa_nil (by rfl))) (@pa_cons _ _ _ _ _ (pe_callTy (call_list_ofK (K := K) rfl) rfl z_list boot_list (@pa_cons _ _ _ _ _ (pe_ix (ix_seqK (K := K) rfl) (pv 2) pe_int (fun _ _ => rfl)) pa_nil (by rfl))) pa_nil (by rfl)) (by rfl))) (by rfl) (by first | exact .inl rfl | exact .inr rfl))
    (@pss_cons _ _ _ _ _ (@ps_set _ _ 4 _ _ _ _ sc_law.nd rfl (Or.inl rfl) (@pe_lstN _ _ _ _ (@pa_cons _ _ _ _ _ (pe_make M_Shared (G_Shared___init__.mono (by decide)) hr rfl m_Shared b_Shared___init__ .nil pass0 (@pa_cons _ _ _ _ _ (pe_ix (ix_seqK (K := K) rfl) (pv 2) pe_int (fun _ _ => rfl)) pa_nil (by rfl))) (@pa_cons _ _ _ _ _ (pe_make M_Shared (G_Shared___init__.mono (by decide)) hr rfl m_Shared b_Shared___init__ .nil pass0 (@pa_cons _ _ _ _ _ (pe_ix (ix_seqK (K := K) rfl) (pv 2) pe_int (fun _ _ => rfl)) pa_nil (by rfl))) pa_nil (by rfl)) (by rfl))) (by rfl) (by first | exact .inl rfl | exact .inr rfl))
    (@pss_cons _ _ _ _ _ (@ps_if _ _ _ _ _ _ _ _ (pt_cmpR (r := rEqB K true) (op_neA (K := K) rfl hr.units) (pv 2) (pv 3) (nomark _))
      (@pss_one _ _ _ (@ps_ret _ _ _ _ pe_bl))
      pss_nil)
    (@pss_cons _ _ _ _ _ (@ps_expr _ _ _ _ (pe_bm0K (K := K) rfl PySem.F.plainAttrs_list PySem.F.slot_list_clear PySem.F.type_list_clear mt_clear (pe_ix (ix_seqK (K := K) rfl) (pv 2) pe_int (fun _ _ => rfl))) (by rfl))
    (@pss_cons _ _ _ _ _ (ps_setI pe_int (pe_ix (ix_seqK (K := K) rfl) (pv 2) pe_int (fun _ _ => rfl)) pe_int)
    (@pss_cons _ _ _ _ _ (@ps_set _ _ 5 _ _ _ _ sc_law.nd rfl (Or.inl rfl) (@pe_lstN _ _ _ _ (@pa_cons _ _ _ _ _ (@pe_lstN _ _ _ _ pa_nil) (@pa_cons _ _ _ _ _ (@pe_lstN _ _ _ _ pa_nil) pa_nil (by rfl)) (by rfl))) (by rfl) (by first | exact .inl rfl | exact .inr rfl))
    (@pss_cons _ _ _ _ _ (@ps_set _ _ 6 _ _ _ _ sc_law.nd rfl (Or.inl rfl) (@pe_lstN _ _ _ _ (@pa_cons _ _ _ _ _ pe_bl (@pa_cons _ _ _ _ _ pe_bl pa_nil (by rfl)) (by rfl))) (by rfl) (by first | exact .inl rfl | exact .inr rfl))
    (@pss_cons _ _ _ _ _ (@ps_set _ _ 7 _ _ _ _ sc_law.nd rfl (Or.inl rfl) (@pe_lstN _ _ _ _ pa_nil) (by rfl) (by first | exact .inl rfl | exact .inr rfl))
    (@pss_cons _ _ _ _ _ (@ps_for _ _ _ _ _ _ _ _ PassesOwn.never rfl (pi_enumK (K := K) rfl rfl z_enumerate (@pa_cons _ _ _ _ _ (pe_slice (sl_listN (K := K) rfl) (pv 0) po_none (po_some pe_int)) pa_nil (by rfl))) (pg_tupK (K := K) (n := 2) rfl rfl (pgs_cons (pg_name (i := 8) sc_law.nd rfl (Or.inl rfl)) (pgs_cons (pg_name (i := 9) sc_law.nd rfl (Or.inl rfl)) pgs_nil)))
      (@pss_cons _ _ _ _ _ (@ps_set _ _ 10 _ _ _ _ sc_law.nd rfl (Or.inl rfl) (pe_call (G__law_mixed.mono (by decide)) hr rfl d__law_mixed.m d__law_mixed.fn.kp d__law_mixed.b .nil pass0 (@pa_cons _ _ _ _ _ (pv 9) (@pa_cons _ _ _ _ _ (pv 8) pa_nil (by rfl)) (by rfl))) (by rfl) (by first | exact .inl rfl | exact .inr rfl))
    (@pss_cons _ _ _ _ _ (@ps_set _ _ 11 _ _ _ _ sc_law.nd rfl (Or.inl rfl) (@pe_op _ _ _ _ _ _ _ _ op_modM (pv 10) pe_int) (by rfl) (by first | exact .inl rfl | exact .inr rfl))
    (@pss_cons _ _ _ _ _ (@ps_set _ _ 12 _ _ _ _ sc_law.nd rfl (Or.inl rfl) (pe_call (G__law_deed_by.mono (by decide)) hr rfl d__law_deed_by.m d__law_deed_by.fn.kp d__law_deed_by.b .nil pass0 (@pa_cons _ _ _ _ _ (@pe_op _ _ _ _ _ _ _ _ op_fdivM (pv 10) pe_int) (@pa_cons _ _ _ _ _ (pv 1) pa_nil (by rfl)) (by rfl))) (by rfl) (by first | exact .inl rfl | exact .inr rfl))
    (@pss_one _ _ _ (@ps_if _ _ _ _ _ _ _ _ (PW.pt (pw_and (pt_not (pt_val (pe_ix (ix_seqK (K := K) rfl) (pv 6) (pv 11) (fun _ _ => rfl)))) (pw_and1 (pt_cmpR (op_eqA (K := K) rfl hr.units) (pe_ix (ix_seqK (K := K) rfl) (pv 12) pe_int (fun _ _ => rfl)) pe_str (nomark _)))))
      (@pss_cons _ _ _ _ _ (@ps_expr _ _ _ _ (pe_bmK (K := K) rfl PySem.F.plainAttrs_list PySem.F.slot_list_append PySem.F.type_list_append mt_append (pv 7) (@pa_cons _ _ _ _ _ (@pe_lstN _ _ _ _ (@pa_cons _ _ _ _ _ (pe_meth0 (pe_ix (ix_seqK (K := K) rfl) (pv 4) (pv 11) (fun _ _ => rfl)) cl_Shared mt_Shared_met (G_Shared_met.mono (by decide)) hr b_Shared_met .nil pass0) (@pa_cons _ _ _ _ _ (pe_callTy (call_list_ofK (K := K) rfl) rfl z_list boot_list (@pa_cons _ _ _ _ _ (pe_ix (ix_seqK (K := K) rfl) (pv 3) (pv 11) (fun _ _ => rfl)) pa_nil (by rfl))) pa_nil (by rfl)) (by rfl))) pa_nil (by rfl))) (by rfl))
    (@pss_cons _ _ _ _ _ (ps_setI (@pe_lstN _ _ _ _ pa_nil) (pv 5) (pv 11))
    (@pss_one _ _ _ (@ps_if _ _ _ _ _ _ _ _ (pt_cmpR op_notN (pe_fld (pe_ix (ix_seqK (K := K) rfl) (pv 4) (pv 11) (fun _ _ => rfl)) rfl) pe_non (nomark _))
      (@pss_one _ _ _ (@ps_ret _ _ _ _ pe_bl))
      pss_nil))))
      (@pss_one _ _ _ (@ps_if _ _ _ _ _ _ _ _ (pt_not (pt_val (pe_ix (ix_seqK (K := K) rfl) (pv 6) (pv 11) (fun _ _ => rfl))))
      (@pss_cons _ _ _ _ _ (@ps_set _ _ 13 _ _ _ _ sc_law.nd rfl (Or.inl rfl) (pe_call (G__law_touched.mono (by decide)) hr rfl d__law_touched.m d__law_touched.fn.kp d__law_touched.b .nil pass0 (@pa_cons _ _ _ _ _ (pe_ix (ix_seqK (K := K) rfl) (pv 4) (pv 11) (fun _ _ => rfl)) (@pa_cons _ _ _ _ _ (pe_ix (ix_seqK (K := K) rfl) (pv 3) (pv 11) (fun _ _ => rfl)) (@pa_cons _ _ _ _ _ (pe_ix (ix_seqK (K := K) rfl) (pv 5) (pv 11) (fun _ _ => rfl)) (@pa_cons _ _ _ _ _ (pv 12) (@pa_cons _ _ _ _ _ (pe_call (G__law_number_by.mono (by decide)) hr rfl d__law_number_by.m d__law_number_by.fn.kp d__law_number_by.b .nil pass0 (@pa_cons _ _ _ _ _ (pv 10) pa_nil (by rfl))) pa_nil (by rfl)) (by rfl)) (by rfl)) (by rfl)) (by rfl))) (by rfl) (by first | exact .inl rfl | exact .inr rfl))
    (@pss_cons _ _ _ _ _ (ps_setI (pe_cmpR (op_eqA (K := K) rfl hr.units) (pv 13) pe_str (nomark _)) (pv 6) (pv 11))
    (@pss_one _ _ _ (@ps_if _ _ _ _ _ _ _ _ (pt_cmpR (op_eqA (K := K) rfl hr.units) (pv 13) pe_str (nomark _))
      (@pss_one _ _ _ (@ps_ret _ _ _ _ pe_bl))
      pss_nil))))
      pss_nil))))))) (by intro _; rfl))
    (@pss_one _ _ _ (@ps_ret _ _ _ _ (pe_call (G__law_at_last.mono (by decide)) hr rfl d__law_at_last.m d__law_at_last.fn.kp d__law_at_last.b .nil pass0 (@pa_cons _ _ _ _ _ (pv 4) (@pa_cons _ _ _ _ _ (pv 3) (@pa_cons _ _ _ _ _ (pv 6) (@pa_cons _ _ _ _ _ (pv 7) pa_nil (by rfl)) (by rfl)) (by rfl)) (by rfl))))))))))))))))), ?_⟩
  exact s_fn0 (E := E) (n := 14) (cl := cl) rfl ((ss_seq (ss_pure fun ρ => (ds_asg de_int dg_name))
    (ss_seq (ss_pure fun ρ => (ds_if (dt_cmp db_gt (DE.dk (de_c1 dc_len (dk_var (i := 0)))) (DE.dk de_int))
      (ds_asg (de_op dr_add (DE.dk de_int) (de_op dr_mod (DE.dk (de_op dr_ix (dk_var (i := 0)) de_int)) de_int)) dg_name)
      ds_next))
    (ss_seq (ss_asg (se_lst (sa_cons (se_compS (ix := [none]) (by decide) (sip_pure fun ρ => (di_rng1 (da_cons (de_var (i := 1)) da_nil))) (fun ρ => dg_name) (st_pure fun ρ => dt_yes) (se_pure fun ρ => (de_call (da_cons (de_op dr_add (DE.dk (de_op dr_mul (dk_var (i := 0)) (de_var (i := 0)))) de_int) da_nil)))) (sa_cons (se_compS (ix := [none]) (by decide) (sip_pure fun ρ => (di_rng1 (da_cons (de_var (i := 1)) da_nil))) (fun ρ => dg_name) (st_pure fun ρ => dt_yes) (se_pure fun ρ => (de_call (da_cons (de_op dr_mul (DE.dk (de_op dr_mul (DE.dk (de_op dr_mul (DE.dk de_int) (de_var (i := 0)))) (de_var (i := 0)))) (de_var (i := 0))) da_nil)))) sa_nil))) (fun ρ => dg_name))
    (ss_seq (ss_asg (se_lst (sa_cons (se_listS (se_pure fun ρ => (de_op dr_ix (dk_var (i := 2)) de_int))) (sa_cons (se_listS (se_pure fun ρ => (de_op dr_ix (dk_var (i := 2)) de_int))) sa_nil))) (fun ρ => dg_name))
    (ss_seq (ss_asg (se_lst (sa_cons (se_make (c := "Shared") (sa_pure fun ρ => (da_cons (de_op dr_ix (dk_var (i := 2)) de_int) da_nil))) (sa_cons (se_make (c := "Shared") (sa_pure fun ρ => (da_cons (de_op dr_ix (dk_var (i := 2)) de_int) da_nil))) sa_nil))) (fun ρ => dg_name))
    (ss_seq (ss_if (st_eq (neg := true) (se_pure fun ρ => (de_var (i := 2))) (se_pure fun ρ => (de_var (i := 3))))
      (ss_pure fun ρ => (ds_ret de_bl))
      (ss_pure fun ρ => ds_next))
    (ss_seq (ss_clear (se_pure fun ρ => (de_op dr_ix (dk_var (i := 2)) de_int)))
    (ss_seq (ss_setI (se_pure fun ρ => (de_op dr_ix (dk_var (i := 2)) de_int)) (se_pure fun ρ => de_int) (se_pure fun ρ => de_int))
    (ss_seq (ss_asg (se_lstS (sa_cons (se_lstS (sa_pure fun ρ => da_nil)) (sa_cons (se_lstS (sa_pure fun ρ => da_nil)) sa_nil))) (fun ρ => dg_name))
    (ss_seq (ss_pure fun ρ => (ds_own (do_lst (da_cons de_bl (da_cons de_bl da_nil)))))
    (ss_seq (ss_asg (se_lstS (sa_pure fun ρ => da_nil)) (fun ρ => dg_name))
    (ss_seq (ss_for (sip_pure fun ρ => (di_enum (da_cons (DO.de (do_slL (dk_var (i := 0)) dop_none (dop_some de_int))) da_nil))) (fun ρ => (dg_tup (n := 2) (dgs_cons dg_name (dgs_cons dg_name dgs_nil))))
      (ss_seq (ss_pure fun ρ => (ds_asg (de_call (da_cons (de_var (i := 9)) (da_cons (de_var (i := 8)) da_nil))) dg_name))
    (ss_seq (ss_pure fun ρ => (ds_asg (de_op dr_mod (dk_var (i := 10)) de_int) dg_name))
    (ss_seq (ss_pure fun ρ => (ds_asg (de_call (da_cons (de_op dr_div (dk_var (i := 10)) de_int) (da_cons (de_var (i := 1)) da_nil))) dg_name))
    (ss_if (st_pure fun ρ => (dt_and (dt_not (dt_val (de_op dr_ix (dk_var (i := 6)) (de_var (i := 11))))) (dt_cmp db_eq (DE.dk (de_op dr_ix (dk_var (i := 12)) de_int)) (DE.dk de_str))))
      (ss_seq (ss_append (se_pure fun ρ => (de_var (i := 7))) (se_lst (sa_cons (se_meth (c := "Shared") (se_pure fun ρ => (de_op dr_ix (dk_var (i := 4)) (de_var (i := 11)))) (sa_pure fun ρ => da_nil)) (sa_cons (se_listS (se_pure fun ρ => (de_op dr_ix (dk_var (i := 3)) (de_var (i := 11))))) sa_nil))))
    (ss_seq (ss_setI (se_pure fun ρ => (de_var (i := 5))) (se_pure fun ρ => (de_var (i := 11))) (se_lstS (sa_pure fun ρ => da_nil)))
    (ss_if (st_cmp (fun ρ => db_notN) (se_fld (c := "Shared") cl_Shared n_Shared_clash (se_pure fun ρ => (de_op dr_ix (dk_var (i := 4)) (de_var (i := 11))))) (se_pure fun ρ => de_non))
      (ss_pure fun ρ => (ds_ret de_bl))
      (ss_pure fun ρ => ds_next))))
      (ss_if (st_pure fun ρ => (dt_not (dt_val (de_op dr_ix (dk_var (i := 6)) (de_var (i := 11))))))
      (ss_seq (ss_asg (se_call (sa_cons (se_pure fun ρ => (de_op dr_ix (dk_var (i := 4)) (de_var (i := 11)))) (sa_cons (se_pure fun ρ => (de_op dr_ix (dk_var (i := 3)) (de_var (i := 11)))) (sa_cons (se_ix (se_pure fun ρ => (de_var (i := 5))) (se_pure fun ρ => (de_var (i := 11)))) (sa_cons (se_pure fun ρ => (de_var (i := 12))) (sa_cons (se_pure fun ρ => (de_call (da_cons (de_var (i := 10)) da_nil))) sa_nil)))))) (fun ρ => dg_name))
    (ss_seq (ss_pure fun ρ => (ds_setI (de_cmp db_eq (dk_var (i := 13)) (DE.dk de_str)) (de_var (i := 11))))
    (ss_pure fun ρ => (ds_if (dt_cmp db_eq (dk_var (i := 13)) (DE.dk de_str))
      (ds_ret de_bl)
      ds_next))))
      (ss_pure fun ρ => ds_next)))))))
    (ss_frz (i := 6) (ss_ret (se_call (sa_pure fun ρ => (da_cons (de_var (i := 4)) (da_cons (de_var (i := 3)) (da_cons (de_var (i := 6)) (da_cons (de_var (i := 7)) da_nil))))))))))))))))))))) ⟨[], H, [], [.list (ns.map .int)], .bool true, Sf, .refl _, sr_nil, .cons (.lst hS (.ints ns)) .nil, hl, fun v ρ' G' H' g s dv => by cases dv; exact q H'⟩
end
theorem forL_pure {n : Nat} {h : W → DS → Option DS} {f : DS → Option Out} {S : Sto} {es : List W} (hS : S[n]? = some (.lst es)) : ∀ (m i : Nat) (δ : DS), es.length - i < m → ssForLGo n h (ssPure f) m i δ S = (dsForGo h f (es.drop i) δ).map fun o => (outP o, S)
  | 0, i, δ, hm => by omega
  | m + 1, i, δ, hm => by
    have hl : lookS S n = some es := by unfold lookS; rw [hS]
    show (lookS S n).bind _ = _
    rw [hl]
    show (match es[i]? with | none => _ | some d => _) = _
    by_cases hi : i < es.length
    · rw [List.getElem?_eq_getElem hi, List.drop_eq_getElem_cons hi]
      show (h es[i] δ).bind _ = ((h es[i] δ).bind _).map _
      cases h es[i] δ with
      | none => rfl
      | some δ2 =>
        show (match ssPure f δ2 S with | some (.nx δ', S') => _ | some (.ct δ', S') => _ | some (.bk δ', S') => _ | some (.rt d, S') => _ | some (.xc c, S') => _ | none => _) = Option.map _ (match f δ2 with | some (.nx δ') => _ | some (.ct δ') => _ | some (.bk δ') => _ | some (.rt d) => _ | none => _)
        unfold ssPure
        cases f δ2 with
        | none => rfl
        | some o =>
          cases o with
          | nx δ' => exact forL_pure hS m (i + 1) δ' (by omega)
          | ct δ' => exact forL_pure hS m (i + 1) δ' (by omega)
          | bk δ' => rfl
          | rt d => rfl
    · rw [List.getElem?_eq_none (by omega), List.drop_of_length_le (by omega)]
      rfl
theorem compL_pure {n : Nat} {h : W → DS → Option DS} {c : DS → Option Bool} {fe : DS → Option W} {S : Sto} {es : List W} {δ : DS} (hS : S[n]? = some (.lst es)) : ∀ (m i : Nat), es.length - i < m → sCompLGo n h (sPure c) (sPure fe) δ m i S = (dCompGo h c fe δ (es.drop i)).map fun ds => (.ok ds, S)
  | 0, i, hm => by omega
  | m + 1, i, hm => by
    have hl : lookS S n = some es := by unfold lookS; rw [hS]
    show (lookS S n).bind _ = _
    rw [hl]
    show (match es[i]? with | none => _ | some d => _) = _
    by_cases hi : i < es.length
    · rw [List.getElem?_eq_getElem hi, List.drop_eq_getElem_cons hi]
      show (h es[i] δ).bind _ = ((h es[i] δ).bind _).map _
      cases h es[i] δ with
      | none => rfl
      | some δ2 =>
        have ih := compL_pure (c := c) (fe := fe) (h := h) (δ := δ) hS m (i + 1) (by omega)
        simp only [Option.bind_some]
        cases hc : c δ2 with
        | none => simp [sPure, hc, sBind]
        | some b =>
          cases b with
          | false => simp [sPure, hc, sBind] at ih ⊢; exact ih
          | true =>
            cases he : fe δ2 with
            | none => simp [sPure, hc, he, sBind]
            | some e =>
              simp [sPure, hc, he, sBind] at ih ⊢
              rw [ih]
              cases dCompGo h c fe δ (es.drop (i + 1)) <;> simp
    · rw [List.getElem?_eq_none (by omega), List.drop_of_length_le (by omega)]
      rfl
structure Dd where
  put : Bool
  lane : Int
  place : Int
  line : Int
def wd (b : Bool) : Str := if b then Str.ofString "put" else Str.ofString "get"
def enc4 (d : Dd) : W := .list [.str (wd d.put), .int d.lane, .int d.place, .int d.line]
def enc3 (d : Dd) : W := .tuple [.str (wd d.put), .int d.lane, .int d.line]
def hit (d x : Dd) : Bool := !decide (x.lane = d.lane) && (d.put || x.put)
def clashT (d x : Dd) : W := if d.lane < x.lane then .tuple [.int d.place, .int d.lane, .int d.line, .int x.lane, .int x.line] else .tuple [.int d.place, .int x.lane, .int x.line, .int d.lane, .int d.line]
def firstC (d : Dd) (ts : List Dd) : W := match ts.find? (hit d) with
  | some x => clashT d x
  | none => .none
theorem put_in (a b : Bool) : cIn (.str (Str.ofString "put")) (.tuple [.str (wd a), .str (wd b)]) = some (a || b) := by
  cases a <;> cases b <;> decide +kernel
theorem wd_put (a : Bool) : decide (wd a = Str.ofString "put") = a := by cases a <;> decide +kernel
theorem sz (n : Nat) (h : n ≤ 1000) : n ≤ sizeLine := Nat.le_trans h (by decide)
def bFC : DS → Option Out := (dsIf (dAnd (dCmp cNe (dPk 6) (dPk 2)) (dCmp cIn (dC (.str (Str.ofString "put"))) (dTup (dCons (dVar 1) (dCons (dVar 5) dNil)))))
      (dsSeq (dsIf (dCmp cLt (dPk 2) (dPk 6))
      (dsRet (dTup (dCons (dVar 3) (dCons (dVar 2) (dCons (dVar 4) (dCons (dVar 6) (dCons (dVar 7) dNil)))))))
      dsNext)
    (dsRet (dTup (dCons (dVar 3) (dCons (dVar 6) (dCons (dVar 7) (dCons (dVar 2) (dCons (dVar 4) dNil))))))))
      dsNext)
theorem bFC_run (s0 : Sl) (d x : Dd) : bFC [s0, .val (.str (wd d.put)), .val (.int d.lane), .val (.int d.place), .val (.int d.line), .val (.str (wd x.put)), .val (.int x.lane), .val (.int x.line)] = some (if hit d x = true then .rt (clashT d x) else .nx [s0, .val (.str (wd d.put)), .val (.int d.lane), .val (.int d.place), .val (.int d.line), .val (.str (wd x.put)), .val (.int x.lane), .val (.int x.line)]) := by
  have z2 := sz 2 (by decide)
  have z5 := sz 5 (by decide)
  unfold hit clashT
  by_cases h1 : x.lane = d.lane
  · simp only [bFC, bodyD, outD, startD, dsNext, dsSeq, dsIf, dsRet, dsRetN, dsAsg, dsOwn, dsFrz, frz, dsFor, dsAppend, dsSetI, ownAt, dVar, dPk, dC, dOp, dCmp, dB, dTru, dNot, dNotV, dAndV, dOrV, dAnd, dOr, dCall, dCons, dNil, dTup, dLst, dOwn, dComp, dC1, dSeqOf, dgName, dgTup, dgCons, dgNil, dSlL, dPart, dNoPart, dEnum, dZip, dListOf, dAddL, liftD, slAt, dYes, dIf, gAdd_i, gSub_i, gDiv_n, gMod_n, gNeg_i, asB_b, asI_i, listD_l, seqD_l, seqD_t, gLen_l, gLen_t, gIx_l, gIx_t, cEq_i, cEq_s, cEq_b, cNe_i, cNe_s, cLt_i, cLe_i, cGt_i, cGe_i, cNotN_i, cNotN_n, cNotN_s, cNotN_l, cNotN_t, cIsN_i, cIsN_n, cIsN_s, cIsN_l, cIsN_t, isi_int, isi_bool, isi_str, List.length_cons, List.length_nil, List.map_cons, List.map_nil, List.replicate, List.nil_append, List.cons_append, List.getElem?_cons_zero, List.getElem?_cons_succ, List.set_cons_zero, List.set_cons_succ, Option.bind_some, Option.map_some, Option.bind_none, Option.map_none, Option.getD_some, Option.getD_none, Nat.reduceAdd, Nat.reduceSub, if_true, reduceIte, Nat.reduceEqDiff, decide_true, decide_false, Bool.not_true, Bool.not_false, Bool.false_eq_true, ne_eq, not_false_eq_true, h1]
    rfl
  · cases hp : (d.put || x.put) with
    | false => simp only [bFC, bodyD, outD, startD, dsNext, dsSeq, dsIf, dsRet, dsRetN, dsAsg, dsOwn, dsFrz, frz, dsFor, dsAppend, dsSetI, ownAt, dVar, dPk, dC, dOp, dCmp, dB, dTru, dNot, dNotV, dAndV, dOrV, dAnd, dOr, dCall, dCons, dNil, dTup, dLst, dOwn, dComp, dC1, dSeqOf, dgName, dgTup, dgCons, dgNil, dSlL, dPart, dNoPart, dEnum, dZip, dListOf, dAddL, liftD, slAt, dYes, dIf, gAdd_i, gSub_i, gDiv_n, gMod_n, gNeg_i, asB_b, asI_i, listD_l, seqD_l, seqD_t, gLen_l, gLen_t, gIx_l, gIx_t, cEq_i, cEq_s, cEq_b, cNe_i, cNe_s, cLt_i, cLe_i, cGt_i, cGe_i, cNotN_i, cNotN_n, cNotN_s, cNotN_l, cNotN_t, cIsN_i, cIsN_n, cIsN_s, cIsN_l, cIsN_t, isi_int, isi_bool, isi_str, List.length_cons, List.length_nil, List.map_cons, List.map_nil, List.replicate, List.nil_append, List.cons_append, List.getElem?_cons_zero, List.getElem?_cons_succ, List.set_cons_zero, List.set_cons_succ, Option.bind_some, Option.map_some, Option.bind_none, Option.map_none, Option.getD_some, Option.getD_none, Nat.reduceAdd, Nat.reduceSub, if_true, reduceIte, Nat.reduceEqDiff, decide_true, decide_false, Bool.not_true, Bool.not_false, Bool.false_eq_true, ne_eq, not_false_eq_true, h1, put_in, hp, if_pos z2]; rfl
    | true =>
      by_cases h2 : d.lane < x.lane
      · simp only [bFC, bodyD, outD, startD, dsNext, dsSeq, dsIf, dsRet, dsRetN, dsAsg, dsOwn, dsFrz, frz, dsFor, dsAppend, dsSetI, ownAt, dVar, dPk, dC, dOp, dCmp, dB, dTru, dNot, dNotV, dAndV, dOrV, dAnd, dOr, dCall, dCons, dNil, dTup, dLst, dOwn, dComp, dC1, dSeqOf, dgName, dgTup, dgCons, dgNil, dSlL, dPart, dNoPart, dEnum, dZip, dListOf, dAddL, liftD, slAt, dYes, dIf, gAdd_i, gSub_i, gDiv_n, gMod_n, gNeg_i, asB_b, asI_i, listD_l, seqD_l, seqD_t, gLen_l, gLen_t, gIx_l, gIx_t, cEq_i, cEq_s, cEq_b, cNe_i, cNe_s, cLt_i, cLe_i, cGt_i, cGe_i, cNotN_i, cNotN_n, cNotN_s, cNotN_l, cNotN_t, cIsN_i, cIsN_n, cIsN_s, cIsN_l, cIsN_t, isi_int, isi_bool, isi_str, List.length_cons, List.length_nil, List.map_cons, List.map_nil, List.replicate, List.nil_append, List.cons_append, List.getElem?_cons_zero, List.getElem?_cons_succ, List.set_cons_zero, List.set_cons_succ, Option.bind_some, Option.map_some, Option.bind_none, Option.map_none, Option.getD_some, Option.getD_none, Nat.reduceAdd, Nat.reduceSub, if_true, reduceIte, Nat.reduceEqDiff, decide_true, decide_false, Bool.not_true, Bool.not_false, Bool.false_eq_true, ne_eq, not_false_eq_true, h1, put_in, hp, if_pos z2, h2, if_pos z5]; rfl
      · simp only [bFC, bodyD, outD, startD, dsNext, dsSeq, dsIf, dsRet, dsRetN, dsAsg, dsOwn, dsFrz, frz, dsFor, dsAppend, dsSetI, ownAt, dVar, dPk, dC, dOp, dCmp, dB, dTru, dNot, dNotV, dAndV, dOrV, dAnd, dOr, dCall, dCons, dNil, dTup, dLst, dOwn, dComp, dC1, dSeqOf, dgName, dgTup, dgCons, dgNil, dSlL, dPart, dNoPart, dEnum, dZip, dListOf, dAddL, liftD, slAt, dYes, dIf, gAdd_i, gSub_i, gDiv_n, gMod_n, gNeg_i, asB_b, asI_i, listD_l, seqD_l, seqD_t, gLen_l, gLen_t, gIx_l, gIx_t, cEq_i, cEq_s, cEq_b, cNe_i, cNe_s, cLt_i, cLe_i, cGt_i, cGe_i, cNotN_i, cNotN_n, cNotN_s, cNotN_l, cNotN_t, cIsN_i, cIsN_n, cIsN_s, cIsN_l, cIsN_t, isi_int, isi_bool, isi_str, List.length_cons, List.length_nil, List.map_cons, List.map_nil, List.replicate, List.nil_append, List.cons_append, List.getElem?_cons_zero, List.getElem?_cons_succ, List.set_cons_zero, List.set_cons_succ, Option.bind_some, Option.map_some, Option.bind_none, Option.map_none, Option.getD_some, Option.getD_none, Nat.reduceAdd, Nat.reduceSub, if_true, reduceIte, Nat.reduceEqDiff, decide_true, decide_false, Bool.not_true, Bool.not_false, Bool.false_eq_true, ne_eq, not_false_eq_true, h1, put_in, hp, if_pos z2, h2, if_pos z5]; rfl
theorem fc_loop (s0 : Sl) (d : Dd) : ∀ (ts : List Dd) (u v w : Sl), ∃ u' v' w', dsForGo (dgTup 3 (dgCons (dgName 5) (dgCons (dgName 6) (dgCons (dgName 7) dgNil)))) bFC (ts.map enc3) [s0, .val (.str (wd d.put)), .val (.int d.lane), .val (.int d.place), .val (.int d.line), u, v, w] = some (match ts.find? (hit d) with
    | some x => .rt (clashT d x)
    | none => .nx [s0, .val (.str (wd d.put)), .val (.int d.lane), .val (.int d.place), .val (.int d.line), u', v', w'])
  | [], u, v, w => ⟨u, v, w, rfl⟩
  | x :: ts, u, v, w => by
    obtain ⟨u', v', w', e⟩ := fc_loop s0 d ts (.val (.str (wd x.put))) (.val (.int x.lane)) (.val (.int x.line))
    refine ⟨u', v', w', ?_⟩
    rw [List.map_cons]
    show (match bFC [s0, .val (.str (wd d.put)), .val (.int d.lane), .val (.int d.place), .val (.int d.line), .val (.str (wd x.put)), .val (.int x.lane), .val (.int x.line)] with | some (.nx δ') => _ | some (.ct δ') => _ | some (.bk δ') => _ | some (.rt d) => _ | none => _) = _
    rw [bFC_run, List.find?_cons]
    cases hh : hit d x with
    | true => rfl
    | false => exact e
theorem fc_run {S : Sto} {l : Nat} {ts : List Dd} (d : Dd) (hS : S[l]? = some (.lst (ts.map enc3))) (hl : ts.length < 1000) : p_first_clash [.ref l, .str (wd d.put), .int d.lane, .int d.place, .int d.line] S = some (.ok (firstC d ts), S) := by
  obtain ⟨u', v', w', e⟩ := fc_loop (.val (.ref l)) d ts .no .no .no
  have e2 := forL_pure (h := dgTup 3 (dgCons (dgName 5) (dgCons (dgName 6) (dgCons (dgName 7) dgNil)))) (f := bFC) hS 1000 0 [.val (.ref l), .val (.str (wd d.put)), .val (.int d.lane), .val (.int d.place), .val (.int d.line), .no, .no, .no] (by rw [List.length_map]; omega)
  rw [List.drop_zero, e] at e2
  have hb : b_first_clash_1 = ssPure bFC := rfl
  have ha : lstAt (.ref l) S = some (l, ts.map enc3) := by simp [lstAt, obAt, hS]
  unfold firstC
  cases hf : ts.find? (hit d) with
  | none =>
    rw [hf] at e2
    simp only [p_first_clash, hb, bodyS, outS, ssSeq, ssIf, ssRet, ssAsg, ssExpr, ssPure, soB, sBind, sOk, sPure, sFldR, sMeth, sCall, sCallD, noX, outP, sNil, sCons, sTru, sNot, sAnd, sOr, sAndV, sOrV, sNotV, sB, sCmp, sC1, sTup, sLst, sLstS, sLen, gLenS, sIx, gIxS, sIsi, gIsiS, sEq, ssFrz, siLive, ssForL, sCompL, Option.map_eq_map, bodyD, outD, startD, dsNext, dsSeq, dsIf, dsRet, dsRetN, dsAsg, dsOwn, dsFrz, frz, dsFor, dsAppend, dsSetI, ownAt, dVar, dPk, dC, dOp, dCmp, dB, dTru, dNot, dNotV, dAndV, dOrV, dAnd, dOr, dCall, dCons, dNil, dTup, dLst, dOwn, dComp, dC1, dSeqOf, dgName, dgTup, dgCons, dgNil, dSlL, dPart, dNoPart, dEnum, dZip, dListOf, dAddL, liftD, slAt, dYes, dIf, gAdd_i, gSub_i, gDiv_n, gMod_n, gNeg_i, asB_b, asI_i, listD_l, seqD_l, seqD_t, gLen_l, gLen_t, gIx_l, gIx_t, cEq_i, cEq_s, cEq_b, cNe_i, cNe_s, cLt_i, cLe_i, cGt_i, cGe_i, cNotN_i, cNotN_n, cNotN_s, cNotN_l, cNotN_t, cIsN_i, cIsN_n, cIsN_s, cIsN_l, cIsN_t, isi_int, isi_bool, isi_str, List.length_cons, List.length_nil, List.map_cons, List.map_nil, List.replicate, List.nil_append, List.cons_append, List.getElem?_cons_zero, List.getElem?_cons_succ, List.set_cons_zero, List.set_cons_succ, Option.bind_some, Option.map_some, Option.bind_none, Option.map_none, Option.getD_some, Option.getD_none, Nat.reduceAdd, Nat.reduceSub, if_true, reduceIte, Nat.reduceEqDiff, decide_true, decide_false, Bool.not_true, Bool.not_false, Bool.false_eq_true, ne_eq, not_false_eq_true, ha, e2]
  | some x =>
    rw [hf] at e2
    simp only [p_first_clash, hb, bodyS, outS, ssSeq, ssIf, ssRet, ssAsg, ssExpr, ssPure, soB, sBind, sOk, sPure, sFldR, sMeth, sCall, sCallD, noX, outP, sNil, sCons, sTru, sNot, sAnd, sOr, sAndV, sOrV, sNotV, sB, sCmp, sC1, sTup, sLst, sLstS, sLen, gLenS, sIx, gIxS, sIsi, gIsiS, sEq, ssFrz, siLive, ssForL, sCompL, Option.map_eq_map, bodyD, outD, startD, dsNext, dsSeq, dsIf, dsRet, dsRetN, dsAsg, dsOwn, dsFrz, frz, dsFor, dsAppend, dsSetI, ownAt, dVar, dPk, dC, dOp, dCmp, dB, dTru, dNot, dNotV, dAndV, dOrV, dAnd, dOr, dCall, dCons, dNil, dTup, dLst, dOwn, dComp, dC1, dSeqOf, dgName, dgTup, dgCons, dgNil, dSlL, dPart, dNoPart, dEnum, dZip, dListOf, dAddL, liftD, slAt, dYes, dIf, gAdd_i, gSub_i, gDiv_n, gMod_n, gNeg_i, asB_b, asI_i, listD_l, seqD_l, seqD_t, gLen_l, gLen_t, gIx_l, gIx_t, cEq_i, cEq_s, cEq_b, cNe_i, cNe_s, cLt_i, cLe_i, cGt_i, cGe_i, cNotN_i, cNotN_n, cNotN_s, cNotN_l, cNotN_t, cIsN_i, cIsN_n, cIsN_s, cIsN_l, cIsN_t, isi_int, isi_bool, isi_str, List.length_cons, List.length_nil, List.map_cons, List.map_nil, List.replicate, List.nil_append, List.cons_append, List.getElem?_cons_zero, List.getElem?_cons_succ, List.set_cons_zero, List.set_cons_succ, Option.bind_some, Option.map_some, Option.bind_none, Option.map_none, Option.getD_some, Option.getD_none, Nat.reduceAdd, Nat.reduceSub, if_true, reduceIte, Nat.reduceEqDiff, decide_true, decide_false, Bool.not_true, Bool.not_false, Bool.false_eq_true, ne_eq, not_false_eq_true, ha, e2]
def bLC : DS → Option Out := (dsIf (dAnd (dCmp cEq (dPk 8) (dPk 4)) (dAnd (dCmp cNe (dPk 7) (dPk 3)) (dOr (dCmp cEq (dPk 6) (dC (.str (Str.ofString "put")))) (dCmp cEq (dPk 2) (dC (.str (Str.ofString "put")))))))
      (dsSeq (dsIf (dCmp cLt (dPk 3) (dPk 7))
      (dsRet (dTup (dCons (dVar 4) (dCons (dVar 3) (dCons (dVar 5) (dCons (dVar 7) (dCons (dVar 9) dNil)))))))
      dsNext)
    (dsRet (dTup (dCons (dVar 4) (dCons (dVar 7) (dCons (dVar 9) (dCons (dVar 3) (dCons (dVar 5) dNil))))))))
      dsNext)
def here (d x : Dd) : Bool := decide (x.place = d.place)
theorem bLC_run (s0 s1 : Sl) (d x : Dd) : bLC [s0, s1, .val (.str (wd d.put)), .val (.int d.lane), .val (.int d.place), .val (.int d.line), .val (.str (wd x.put)), .val (.int x.lane), .val (.int x.place), .val (.int x.line)] = some (if (here d x && hit d x) = true then .rt (clashT d x) else .nx [s0, s1, .val (.str (wd d.put)), .val (.int d.lane), .val (.int d.place), .val (.int d.line), .val (.str (wd x.put)), .val (.int x.lane), .val (.int x.place), .val (.int x.line)]) := by
  have z5 := sz 5 (by decide)
  unfold here hit clashT
  by_cases h0 : x.place = d.place
  · by_cases h1 : x.lane = d.lane
    · simp only [bLC, bodyD, outD, startD, dsNext, dsSeq, dsIf, dsRet, dsRetN, dsAsg, dsOwn, dsFrz, frz, dsFor, dsAppend, dsSetI, ownAt, dVar, dPk, dC, dOp, dCmp, dB, dTru, dNot, dNotV, dAndV, dOrV, dAnd, dOr, dCall, dCons, dNil, dTup, dLst, dOwn, dComp, dC1, dSeqOf, dgName, dgTup, dgCons, dgNil, dSlL, dPart, dNoPart, dEnum, dZip, dListOf, dAddL, liftD, slAt, dYes, dIf, gAdd_i, gSub_i, gDiv_n, gMod_n, gNeg_i, asB_b, asI_i, listD_l, seqD_l, seqD_t, gLen_l, gLen_t, gIx_l, gIx_t, cEq_i, cEq_s, cEq_b, cNe_i, cNe_s, cLt_i, cLe_i, cGt_i, cGe_i, cNotN_i, cNotN_n, cNotN_s, cNotN_l, cNotN_t, cIsN_i, cIsN_n, cIsN_s, cIsN_l, cIsN_t, isi_int, isi_bool, isi_str, List.length_cons, List.length_nil, List.map_cons, List.map_nil, List.replicate, List.nil_append, List.cons_append, List.getElem?_cons_zero, List.getElem?_cons_succ, List.set_cons_zero, List.set_cons_succ, Option.bind_some, Option.map_some, Option.bind_none, Option.map_none, Option.getD_some, Option.getD_none, Nat.reduceAdd, Nat.reduceSub, if_true, reduceIte, Nat.reduceEqDiff, decide_true, decide_false, Bool.not_true, Bool.not_false, Bool.false_eq_true, ne_eq, not_false_eq_true, h0, h1]
      rfl
    · cases hd : d.put <;> cases hx : x.put <;> by_cases h2 : d.lane < x.lane <;> simp only [bLC, bodyD, outD, startD, dsNext, dsSeq, dsIf, dsRet, dsRetN, dsAsg, dsOwn, dsFrz, frz, dsFor, dsAppend, dsSetI, ownAt, dVar, dPk, dC, dOp, dCmp, dB, dTru, dNot, dNotV, dAndV, dOrV, dAnd, dOr, dCall, dCons, dNil, dTup, dLst, dOwn, dComp, dC1, dSeqOf, dgName, dgTup, dgCons, dgNil, dSlL, dPart, dNoPart, dEnum, dZip, dListOf, dAddL, liftD, slAt, dYes, dIf, gAdd_i, gSub_i, gDiv_n, gMod_n, gNeg_i, asB_b, asI_i, listD_l, seqD_l, seqD_t, gLen_l, gLen_t, gIx_l, gIx_t, cEq_i, cEq_s, cEq_b, cNe_i, cNe_s, cLt_i, cLe_i, cGt_i, cGe_i, cNotN_i, cNotN_n, cNotN_s, cNotN_l, cNotN_t, cIsN_i, cIsN_n, cIsN_s, cIsN_l, cIsN_t, isi_int, isi_bool, isi_str, List.length_cons, List.length_nil, List.map_cons, List.map_nil, List.replicate, List.nil_append, List.cons_append, List.getElem?_cons_zero, List.getElem?_cons_succ, List.set_cons_zero, List.set_cons_succ, Option.bind_some, Option.map_some, Option.bind_none, Option.map_none, Option.getD_some, Option.getD_none, Nat.reduceAdd, Nat.reduceSub, if_true, reduceIte, Nat.reduceEqDiff, decide_true, decide_false, Bool.not_true, Bool.not_false, Bool.false_eq_true, ne_eq, not_false_eq_true, h0, h1, h2, wd_put, if_pos z5] <;> rfl
  · simp only [bLC, bodyD, outD, startD, dsNext, dsSeq, dsIf, dsRet, dsRetN, dsAsg, dsOwn, dsFrz, frz, dsFor, dsAppend, dsSetI, ownAt, dVar, dPk, dC, dOp, dCmp, dB, dTru, dNot, dNotV, dAndV, dOrV, dAnd, dOr, dCall, dCons, dNil, dTup, dLst, dOwn, dComp, dC1, dSeqOf, dgName, dgTup, dgCons, dgNil, dSlL, dPart, dNoPart, dEnum, dZip, dListOf, dAddL, liftD, slAt, dYes, dIf, gAdd_i, gSub_i, gDiv_n, gMod_n, gNeg_i, asB_b, asI_i, listD_l, seqD_l, seqD_t, gLen_l, gLen_t, gIx_l, gIx_t, cEq_i, cEq_s, cEq_b, cNe_i, cNe_s, cLt_i, cLe_i, cGt_i, cGe_i, cNotN_i, cNotN_n, cNotN_s, cNotN_l, cNotN_t, cIsN_i, cIsN_n, cIsN_s, cIsN_l, cIsN_t, isi_int, isi_bool, isi_str, List.length_cons, List.length_nil, List.map_cons, List.map_nil, List.replicate, List.nil_append, List.cons_append, List.getElem?_cons_zero, List.getElem?_cons_succ, List.set_cons_zero, List.set_cons_succ, Option.bind_some, Option.map_some, Option.bind_none, Option.map_none, Option.getD_some, Option.getD_none, Nat.reduceAdd, Nat.reduceSub, if_true, reduceIte, Nat.reduceEqDiff, decide_true, decide_false, Bool.not_true, Bool.not_false, Bool.false_eq_true, ne_eq, not_false_eq_true, h0]
    rfl
theorem lc_loop (s0 s1 : Sl) (d : Dd) : ∀ (ts : List Dd) (u v w y : Sl), ∃ u' v' w' y', dsForGo (dgSeq 4 (dgCons (dgName 6) (dgCons (dgName 7) (dgCons (dgName 8) (dgCons (dgName 9) dgNil))))) bLC (ts.map enc4) [s0, s1, .val (.str (wd d.put)), .val (.int d.lane), .val (.int d.place), .val (.int d.line), u, v, w, y] = some (match (ts.filter (here d)).find? (hit d) with
    | some x => .rt (clashT d x)
    | none => .nx [s0, s1, .val (.str (wd d.put)), .val (.int d.lane), .val (.int d.place), .val (.int d.line), u', v', w', y'])
  | [], u, v, w, y => ⟨u, v, w, y, rfl⟩
  | x :: ts, u, v, w, y => by
    obtain ⟨u', v', w', y', e⟩ := lc_loop s0 s1 d ts (.val (.str (wd x.put))) (.val (.int x.lane)) (.val (.int x.place)) (.val (.int x.line))
    refine ⟨u', v', w', y', ?_⟩
    rw [List.map_cons]
    show (match bLC [s0, s1, .val (.str (wd d.put)), .val (.int d.lane), .val (.int d.place), .val (.int d.line), .val (.str (wd x.put)), .val (.int x.lane), .val (.int x.place), .val (.int x.line)] with | some (.nx δ') => _ | some (.ct δ') => _ | some (.bk δ') => _ | some (.rt d) => _ | none => _) = _
    rw [bLC_run, List.filter_cons]
    cases hp : here d x with
    | false => exact e
    | true =>
      rw [if_pos rfl, List.find?_cons]
      cases hh : hit d x with
      | true => rfl
      | false => exact e
theorem lc_run {S : Sto} {l : Nat} {ts : List Dd} (d : Dd) (hS : S[l]? = some (.lst (ts.map enc4))) (hl : ts.length < 1000) : p__law_clash [.ref l, enc4 d] S = some (.ok (firstC d (ts.filter (here d))), S) := by
  obtain ⟨u', v', w', y', e⟩ := lc_loop (.val (.ref l)) (.val (enc4 d)) d ts .no .no .no .no
  have e2 := forL_pure (h := dgSeq 4 (dgCons (dgName 6) (dgCons (dgName 7) (dgCons (dgName 8) (dgCons (dgName 9) dgNil))))) (f := bLC) hS 1000 0 [.val (.ref l), .val (enc4 d), .val (.str (wd d.put)), .val (.int d.lane), .val (.int d.place), .val (.int d.line), .no, .no, .no, .no] (by rw [List.length_map]; omega)
  rw [List.drop_zero, e] at e2
  have hb : b__law_clash_1 = ssPure bLC := rfl
  have ha : lstAt (.ref l) S = some (l, ts.map enc4) := by simp [lstAt, obAt, hS]
  have hu : dgSeq 4 (dgCons (dgName 2) (dgCons (dgName 3) (dgCons (dgName 4) (dgCons (dgName 5) dgNil)))) (enc4 d) [.val (.ref l), .val (enc4 d), .no, .no, .no, .no, .no, .no, .no, .no] = some [.val (.ref l), .val (enc4 d), .val (.str (wd d.put)), .val (.int d.lane), .val (.int d.place), .val (.int d.line), .no, .no, .no, .no] := rfl
  unfold firstC
  cases hf : (ts.filter (here d)).find? (hit d) with
  | none =>
    rw [hf] at e2
    simp only [p__law_clash, hb, bodyS, outS, ssSeq, ssIf, ssRet, ssAsg, ssExpr, ssPure, soB, sBind, sOk, sPure, sFldR, sMeth, sCall, sCallD, noX, outP, sNil, sCons, sTru, sNot, sAnd, sOr, sAndV, sOrV, sNotV, sB, sCmp, sC1, sTup, sLst, sLstS, sLen, gLenS, sIx, gIxS, sIsi, gIsiS, sEq, ssFrz, siLive, ssForL, sCompL, Option.map_eq_map, bodyD, outD, startD, dsNext, dsSeq, dsIf, dsRet, dsRetN, dsAsg, dsOwn, dsFrz, frz, dsFor, dsAppend, dsSetI, ownAt, dVar, dPk, dC, dOp, dCmp, dB, dTru, dNot, dNotV, dAndV, dOrV, dAnd, dOr, dCall, dCons, dNil, dTup, dLst, dOwn, dComp, dC1, dSeqOf, dgName, dgTup, dgCons, dgNil, dSlL, dPart, dNoPart, dEnum, dZip, dListOf, dAddL, liftD, slAt, dYes, dIf, gAdd_i, gSub_i, gDiv_n, gMod_n, gNeg_i, asB_b, asI_i, listD_l, seqD_l, seqD_t, gLen_l, gLen_t, gIx_l, gIx_t, cEq_i, cEq_s, cEq_b, cNe_i, cNe_s, cLt_i, cLe_i, cGt_i, cGe_i, cNotN_i, cNotN_n, cNotN_s, cNotN_l, cNotN_t, cIsN_i, cIsN_n, cIsN_s, cIsN_l, cIsN_t, isi_int, isi_bool, isi_str, List.length_cons, List.length_nil, List.map_cons, List.map_nil, List.replicate, List.nil_append, List.cons_append, List.getElem?_cons_zero, List.getElem?_cons_succ, List.set_cons_zero, List.set_cons_succ, Option.bind_some, Option.map_some, Option.bind_none, Option.map_none, Option.getD_some, Option.getD_none, Nat.reduceAdd, Nat.reduceSub, if_true, reduceIte, Nat.reduceEqDiff, decide_true, decide_false, Bool.not_true, Bool.not_false, Bool.false_eq_true, ne_eq, not_false_eq_true, ha, hu, e2]
  | some x =>
    rw [hf] at e2
    simp only [p__law_clash, hb, bodyS, outS, ssSeq, ssIf, ssRet, ssAsg, ssExpr, ssPure, soB, sBind, sOk, sPure, sFldR, sMeth, sCall, sCallD, noX, outP, sNil, sCons, sTru, sNot, sAnd, sOr, sAndV, sOrV, sNotV, sB, sCmp, sC1, sTup, sLst, sLstS, sLen, gLenS, sIx, gIxS, sIsi, gIsiS, sEq, ssFrz, siLive, ssForL, sCompL, Option.map_eq_map, bodyD, outD, startD, dsNext, dsSeq, dsIf, dsRet, dsRetN, dsAsg, dsOwn, dsFrz, frz, dsFor, dsAppend, dsSetI, ownAt, dVar, dPk, dC, dOp, dCmp, dB, dTru, dNot, dNotV, dAndV, dOrV, dAnd, dOr, dCall, dCons, dNil, dTup, dLst, dOwn, dComp, dC1, dSeqOf, dgName, dgTup, dgCons, dgNil, dSlL, dPart, dNoPart, dEnum, dZip, dListOf, dAddL, liftD, slAt, dYes, dIf, gAdd_i, gSub_i, gDiv_n, gMod_n, gNeg_i, asB_b, asI_i, listD_l, seqD_l, seqD_t, gLen_l, gLen_t, gIx_l, gIx_t, cEq_i, cEq_s, cEq_b, cNe_i, cNe_s, cLt_i, cLe_i, cGt_i, cGe_i, cNotN_i, cNotN_n, cNotN_s, cNotN_l, cNotN_t, cIsN_i, cIsN_n, cIsN_s, cIsN_l, cIsN_t, isi_int, isi_bool, isi_str, List.length_cons, List.length_nil, List.map_cons, List.map_nil, List.replicate, List.nil_append, List.cons_append, List.getElem?_cons_zero, List.getElem?_cons_succ, List.set_cons_zero, List.set_cons_succ, Option.bind_some, Option.map_some, Option.bind_none, Option.map_none, Option.getD_some, Option.getD_none, Nat.reduceAdd, Nat.reduceSub, if_true, reduceIte, Nat.reduceEqDiff, decide_true, decide_false, Bool.not_true, Bool.not_false, Bool.false_eq_true, ne_eq, not_false_eq_true, ha, hu, e2]
def sameT (d x : Dd) : Bool := decide (wd x.put = wd d.put) && decide (x.lane = d.lane)
def addT (ts : List Dd) (d : Dd) : List Dd := if ts.any (sameT d) = true then ts else ts ++ [d]
def cAny : DS → Option W := (dAndV (dB (dCmp cEq (dOp gIx (dPk 2) (dC (.int (0)))) (dPk 0))) (dB (dCmp cEq (dOp gIx (dPk 2) (dC (.int (1)))) (dPk 1))))
theorem at1 {α : Type} (x y : α) (r : List α) : atI (x :: y :: r) 1 = some y := by
  unfold atI ixN
  rw [if_pos (by decide), if_pos (by simp; omega)]
  rfl
theorem at0 {α : Type} (x : α) (r : List α) : atI (x :: r) 0 = some x := by
  unfold atI ixN
  rw [if_pos (by decide), if_pos (by simp)]
  rfl
theorem any_loop (d : Dd) : ∀ (ts : List Dd), dCompGo (dgName 2) dYes cAny [.val (.str (wd d.put)), .val (.int d.lane), .no] (ts.map enc3) = some ((ts.map (sameT d)).map .bool)
  | [] => rfl
  | x :: ts => by
    have ih := any_loop d ts
    have e : cAny [.val (.str (wd d.put)), .val (.int d.lane), .val (enc3 x)] = some (.bool (sameT d x)) := by
      unfold sameT
      by_cases h1 : wd x.put = wd d.put <;> simp only [cAny, enc3, bodyD, outD, startD, dsNext, dsSeq, dsIf, dsRet, dsRetN, dsAsg, dsOwn, dsFrz, frz, dsFor, dsAppend, dsSetI, ownAt, dVar, dPk, dC, dOp, dCmp, dB, dTru, dNot, dNotV, dAndV, dOrV, dAnd, dOr, dCall, dCons, dNil, dTup, dLst, dOwn, dComp, dC1, dSeqOf, dgName, dgTup, dgCons, dgNil, dSlL, dPart, dNoPart, dEnum, dZip, dListOf, dAddL, liftD, slAt, dYes, dIf, gAdd_i, gSub_i, gDiv_n, gMod_n, gNeg_i, asB_b, asI_i, listD_l, seqD_l, seqD_t, gLen_l, gLen_t, gIx_l, gIx_t, cEq_i, cEq_s, cEq_b, cNe_i, cNe_s, cLt_i, cLe_i, cGt_i, cGe_i, cNotN_i, cNotN_n, cNotN_s, cNotN_l, cNotN_t, cIsN_i, cIsN_n, cIsN_s, cIsN_l, cIsN_t, isi_int, isi_bool, isi_str, List.length_cons, List.length_nil, List.map_cons, List.map_nil, List.replicate, List.nil_append, List.cons_append, List.getElem?_cons_zero, List.getElem?_cons_succ, List.set_cons_zero, List.set_cons_succ, Option.bind_some, Option.map_some, Option.bind_none, Option.map_none, Option.getD_some, Option.getD_none, Nat.reduceAdd, Nat.reduceSub, if_true, reduceIte, Nat.reduceEqDiff, decide_true, decide_false, Bool.not_true, Bool.not_false, Bool.false_eq_true, ne_eq, not_false_eq_true, at0, at1, h1] <;> rfl
    rw [List.map_cons, List.map_cons, List.map_cons]
    show (cAny [.val (.str (wd d.put)), .val (.int d.lane), .val (enc3 x)]).bind _ = _
    rw [e]
    show (dCompGo _ _ _ _ _).map _ = _
    rw [ih]
    rfl
theorem bs_map : ∀ (bs : List Bool), bsOf (bs.map .bool) = some bs
  | [] => rfl
  | b :: bs => by
    show (some b).bind _ = _
    rw [bs_map bs]
    rfl
theorem gAny_map (bs : List Bool) : gAny (.list (bs.map .bool)) = some (.bool (bs.any id)) := by
  simp only [gAny, listD_l, Option.bind_some, bs_map, Option.map_some]
theorem gAll_map (bs : List Bool) : gAll (.list (bs.map .bool)) = some (.bool (bs.all id)) := by
  simp only [gAll, listD_l, Option.bind_some, bs_map, Option.map_some]
theorem any_map (d : Dd) (ts : List Dd) : (ts.map (sameT d)).any id = ts.any (sameT d) := by
  induction ts with
  | nil => rfl
  | cons x ts ih => rw [List.map_cons, List.any_cons, List.any_cons, ih]; rfl
def shF (b dd : Nat) (c : W) : List (Str × W) := [(Str.ofString "boxes", .ref b), (Str.ofString "clash", c), (Str.ofString "touches", .ref dd)]
theorem ne_s : (Str.ofString "clash" == Str.ofString "boxes") = false ∧ (Str.ofString "touches" == Str.ofString "boxes") = false ∧ (Str.ofString "touches" == Str.ofString "clash") = false := by decide +kernel
theorem lk_b (b dd : Nat) (c : W) : (shF b dd c).lookup (Str.ofString "boxes") = some (.ref b) := by simp [shF, List.lookup]
theorem lk_c (b dd : Nat) (c : W) : (shF b dd c).lookup (Str.ofString "clash") = some c := by simp [shF, List.lookup, ne_s.1]
theorem lk_t (b dd : Nat) (c : W) : (shF b dd c).lookup (Str.ofString "touches") = some (.ref dd) := by simp [shF, List.lookup, ne_s.2.1, ne_s.2.2]
theorem lk_no {m : Str} (b dd : Nat) (c : W) (h : (m == Str.ofString "boxes") = false ∧ (m == Str.ofString "clash") = false ∧ (m == Str.ofString "touches") = false) : (shF b dd c).lookup m = none := by simp [shF, List.lookup, h.1, h.2.1, h.2.2]
theorem pw_c (b dd : Nat) (c x : W) : putW (Str.ofString "clash") x (shF b dd c) = shF b dd x := by
  have h1 : ¬ Str.ofString "boxes" = Str.ofString "clash" := by decide +kernel
  simp [shF, putW, h1]
theorem pw_t (b dd e : Nat) (c : W) : putW (Str.ofString "touches") (.ref e) (shF b dd c) = shF b e c := by
  have h1 : ¬ Str.ofString "boxes" = Str.ofString "touches" := by decide +kernel
  have h2 : ¬ Str.ofString "clash" = Str.ofString "touches" := by decide +kernel
  simp [shF, putW, h1, h2]
theorem ins_at {S : Sto} {I : Nat} {fs : List (Str × W)} (h : S[I]? = some (.ins (Str.ofString "Shared") fs)) : insAt (Str.ofString "Shared") (.ref I) S = some (I, fs) := by simp [insAt, obAt, h]
theorem lst_at {S : Sto} {l : Nat} {es : List W} (h : S[l]? = some (.lst es)) : lstAt (.ref l) S = some (l, es) := by simp [lstAt, obAt, h]
theorem dk_at {S : Sto} {l : Nat} {es : List (Key × W)} (h : S[l]? = some (.dK es)) : dkAt (.ref l) S = some (l, es) := by simp [dkAt, obAt, h]
def cl2 (c x : W) : W := if isN c = true then x else c
theorem isN_eq {c : W} (h : isN c = true) : c = .none := by cases c <;> first | rfl | cases h
theorem cIsN_w (c : W) : cIsN c .none = some (isN c) := rfl
theorem touch_rest {SA : Sto} {I b dd l : Nat} {c : W} {ts : List Dd} (d : Dd) (hI : SA[I]? = some (.ins (Str.ofString "Shared") (shF b dd c))) (hl : SA[l]? = some (.lst (ts.map enc3))) (hn : ts.length < 900) :
    ∃ SC, ssSeq (ssIf (sCmp cIsN (sFldR "Shared" "clash" (sPure (dVar 0))) (sPure (dC .none)))
      (ssFld "Shared" "clash" (sPure (dVar 0)) (sCall p_first_clash (sPure (dCons (dVar 5) (dCons (dVar 1) (dCons (dVar 2) (dCons (dVar 3) (dCons (dVar 4) dNil))))))))
      (ssPure dsNext))
    (ssIf (sNot (sTru (sC1 gAny (sCompL 1000 [some 1, some 2, none] (siLive (sPure (dVar 5))) (dgName 2) (sPure dYes) (sPure cAny)))))
      (ssAppend (sPure (dVar 5)) (sPure (dTup (dCons (dVar 1) (dCons (dVar 2) (dCons (dVar 4) dNil))))))
      (ssPure dsNext)) [.val (.ref I), .val (.str (wd d.put)), .val (.int d.lane), .val (.int d.place), .val (.int d.line), .val (.ref l)] SA = some (.nx [.val (.ref I), .val (.str (wd d.put)), .val (.int d.lane), .val (.int d.place), .val (.int d.line), .val (.ref l)], SC) ∧
      SC[I]? = some (.ins (Str.ofString "Shared") (shF b dd (cl2 c (firstC d ts)))) ∧ SC[l]? = some (.lst ((addT ts d).map enc3)) ∧ (∀ m, m ≠ I → m ≠ l → SC[m]? = SA[m]?) ∧ SC.length = SA.length := by
  have hIl : I ≠ l := fun z => by rw [z, hl] at hI; cases hI
  have iL := (List.getElem?_eq_some_iff.mp hI).1
  have lL := (List.getElem?_eq_some_iff.mp hl).1
  have z3 := sz 3 (by decide)
  have z1000 := sz 1000 (by decide)
  -- the clash
  have st1 : ∃ SB, ssIf (sCmp cIsN (sFldR "Shared" "clash" (sPure (dVar 0))) (sPure (dC .none)))
      (ssFld "Shared" "clash" (sPure (dVar 0)) (sCall p_first_clash (sPure (dCons (dVar 5) (dCons (dVar 1) (dCons (dVar 2) (dCons (dVar 3) (dCons (dVar 4) dNil))))))))
      (ssPure dsNext) [.val (.ref I), .val (.str (wd d.put)), .val (.int d.lane), .val (.int d.place), .val (.int d.line), .val (.ref l)] SA = some (.nx [.val (.ref I), .val (.str (wd d.put)), .val (.int d.lane), .val (.int d.place), .val (.int d.line), .val (.ref l)], SB) ∧ SB[I]? = some (.ins (Str.ofString "Shared") (shF b dd (cl2 c (firstC d ts)))) ∧ (∀ m, m ≠ I → SB[m]? = SA[m]?) ∧ SB.length = SA.length := by
    have e0 := fc_run d hl (by omega)
    have i0 := ins_at hI
    by_cases hc : isN c = true
    · cases isN_eq hc
      refine ⟨SA.set I (.ins (Str.ofString "Shared") (shF b dd (firstC d ts))), ?_, ?_, fun m hm => List.getElem?_set_ne (Ne.symm hm), List.length_set⟩
      · have l3 : (shF b dd .none).length < 1000 := by show 3 < 1000; decide
        simp only [bodyS, outS, ssSeq, ssIf, ssRet, ssAsg, ssExpr, ssPure, soB, sBind, sOk, sPure, sFldR, sMeth, sCall, sCallD, noX, outP, sNil, sCons, sTru, sNot, sAnd, sOr, sAndV, sOrV, sNotV, sB, sCmp, sC1, sTup, sLst, sLstS, sLen, gLenS, sIx, gIxS, sIsi, gIsiS, sEq, ssFrz, siLive, ssForL, sCompL, Option.map_eq_map, bodyD, outD, startD, dsNext, dsSeq, dsIf, dsRet, dsRetN, dsAsg, dsOwn, dsFrz, frz, dsFor, dsAppend, dsSetI, ownAt, dVar, dPk, dC, dOp, dCmp, dB, dTru, dNot, dNotV, dAndV, dOrV, dAnd, dOr, dCall, dCons, dNil, dTup, dLst, dOwn, dComp, dC1, dSeqOf, dgName, dgTup, dgCons, dgNil, dSlL, dPart, dNoPart, dEnum, dZip, dListOf, dAddL, liftD, slAt, dYes, dIf, gAdd_i, gSub_i, gDiv_n, gMod_n, gNeg_i, asB_b, asI_i, listD_l, seqD_l, seqD_t, gLen_l, gLen_t, gIx_l, gIx_t, cEq_i, cEq_s, cEq_b, cNe_i, cNe_s, cLt_i, cLe_i, cGt_i, cGe_i, cNotN_i, cNotN_n, cNotN_s, cNotN_l, cNotN_t, cIsN_i, cIsN_n, cIsN_s, cIsN_l, cIsN_t, isi_int, isi_bool, isi_str, List.length_cons, List.length_nil, List.map_cons, List.map_nil, List.replicate, List.nil_append, List.cons_append, List.getElem?_cons_zero, List.getElem?_cons_succ, List.set_cons_zero, List.set_cons_succ, Option.bind_some, Option.map_some, Option.bind_none, Option.map_none, Option.getD_some, Option.getD_none, Nat.reduceAdd, Nat.reduceSub, if_true, reduceIte, Nat.reduceEqDiff, decide_true, decide_false, Bool.not_true, Bool.not_false, Bool.false_eq_true, ne_eq, not_false_eq_true, i0, lk_c, cIsN_w, isN, ssFld, e0, pw_c, if_pos l3]
      · rw [List.getElem?_set]
        simp [iL, cl2, isN]
    · refine ⟨SA, ?_, ?_, fun m _ => rfl, rfl⟩
      · simp only [bodyS, outS, ssSeq, ssIf, ssRet, ssAsg, ssExpr, ssPure, soB, sBind, sOk, sPure, sFldR, sMeth, sCall, sCallD, noX, outP, sNil, sCons, sTru, sNot, sAnd, sOr, sAndV, sOrV, sNotV, sB, sCmp, sC1, sTup, sLst, sLstS, sLen, gLenS, sIx, gIxS, sIsi, gIsiS, sEq, ssFrz, siLive, ssForL, sCompL, Option.map_eq_map, bodyD, outD, startD, dsNext, dsSeq, dsIf, dsRet, dsRetN, dsAsg, dsOwn, dsFrz, frz, dsFor, dsAppend, dsSetI, ownAt, dVar, dPk, dC, dOp, dCmp, dB, dTru, dNot, dNotV, dAndV, dOrV, dAnd, dOr, dCall, dCons, dNil, dTup, dLst, dOwn, dComp, dC1, dSeqOf, dgName, dgTup, dgCons, dgNil, dSlL, dPart, dNoPart, dEnum, dZip, dListOf, dAddL, liftD, slAt, dYes, dIf, gAdd_i, gSub_i, gDiv_n, gMod_n, gNeg_i, asB_b, asI_i, listD_l, seqD_l, seqD_t, gLen_l, gLen_t, gIx_l, gIx_t, cEq_i, cEq_s, cEq_b, cNe_i, cNe_s, cLt_i, cLe_i, cGt_i, cGe_i, cNotN_i, cNotN_n, cNotN_s, cNotN_l, cNotN_t, cIsN_i, cIsN_n, cIsN_s, cIsN_l, cIsN_t, isi_int, isi_bool, isi_str, List.length_cons, List.length_nil, List.map_cons, List.map_nil, List.replicate, List.nil_append, List.cons_append, List.getElem?_cons_zero, List.getElem?_cons_succ, List.set_cons_zero, List.set_cons_succ, Option.bind_some, Option.map_some, Option.bind_none, Option.map_none, Option.getD_some, Option.getD_none, Nat.reduceAdd, Nat.reduceSub, if_true, reduceIte, Nat.reduceEqDiff, decide_true, decide_false, Bool.not_true, Bool.not_false, Bool.false_eq_true, ne_eq, not_false_eq_true, i0, lk_c, cIsN_w, hc]
      · rw [hI]
        simp [cl2, hc]
  obtain ⟨SB, eB, hBI, hBo, hBl⟩ := st1
  have hBl2 : SB[l]? = some (.lst (ts.map enc3)) := by rw [hBo l (Ne.symm hIl)]; exact hl
  -- the list
  have e1 := compL_pure (h := dgName 2) (c := dYes) (fe := cAny) (δ := [.val (.str (wd d.put)), .val (.int d.lane), .no]) hBl2 1000 0 (by rw [List.length_map]; omega)
  rw [List.drop_zero, any_loop] at e1
  have l0 := lst_at hBl2
  have hs : (ts.map enc3).length < sizeLine := by rw [List.length_map]; exact Nat.lt_of_lt_of_le (by omega) z1000
  by_cases ha : ts.any (sameT d) = true
  · refine ⟨SB, ?_, hBI, by unfold addT; rw [if_pos ha]; exact hBl2, fun m h1 _ => hBo m h1, hBl⟩
    unfold ssSeq
    rw [eB]
    simp only [bodyS, outS, ssSeq, ssIf, ssRet, ssAsg, ssExpr, ssPure, soB, sBind, sOk, sPure, sFldR, sMeth, sCall, sCallD, noX, outP, sNil, sCons, sTru, sNot, sAnd, sOr, sAndV, sOrV, sNotV, sB, sCmp, sC1, sTup, sLst, sLstS, sLen, gLenS, sIx, gIxS, sIsi, gIsiS, sEq, ssFrz, siLive, ssForL, sCompL, Option.map_eq_map, bodyD, outD, startD, dsNext, dsSeq, dsIf, dsRet, dsRetN, dsAsg, dsOwn, dsFrz, frz, dsFor, dsAppend, dsSetI, ownAt, dVar, dPk, dC, dOp, dCmp, dB, dTru, dNot, dNotV, dAndV, dOrV, dAnd, dOr, dCall, dCons, dNil, dTup, dLst, dOwn, dComp, dC1, dSeqOf, dgName, dgTup, dgCons, dgNil, dSlL, dPart, dNoPart, dEnum, dZip, dListOf, dAddL, liftD, slAt, dYes, dIf, gAdd_i, gSub_i, gDiv_n, gMod_n, gNeg_i, asB_b, asI_i, listD_l, seqD_l, seqD_t, gLen_l, gLen_t, gIx_l, gIx_t, cEq_i, cEq_s, cEq_b, cNe_i, cNe_s, cLt_i, cLe_i, cGt_i, cGe_i, cNotN_i, cNotN_n, cNotN_s, cNotN_l, cNotN_t, cIsN_i, cIsN_n, cIsN_s, cIsN_l, cIsN_t, isi_int, isi_bool, isi_str, List.length_cons, List.length_nil, List.map_cons, List.map_nil, List.replicate, List.nil_append, List.cons_append, List.getElem?_cons_zero, List.getElem?_cons_succ, List.set_cons_zero, List.set_cons_succ, Option.bind_some, Option.map_some, Option.bind_none, Option.map_none, Option.getD_some, Option.getD_none, Nat.reduceAdd, Nat.reduceSub, if_true, reduceIte, Nat.reduceEqDiff, decide_true, decide_false, Bool.not_true, Bool.not_false, Bool.false_eq_true, ne_eq, not_false_eq_true, l0, e1, if_pos z1000, gAny_map, any_map, ha]
  · refine ⟨SB.set l (.lst ((ts ++ [d]).map enc3)), ?_, by rw [List.getElem?_set_ne (Ne.symm hIl)]; exact hBI, ?_, fun m h1 h2 => by rw [List.getElem?_set_ne (Ne.symm h2)]; exact hBo m h1, by rw [List.length_set]; exact hBl⟩
    · unfold ssSeq
      rw [eB]
      simp only [bodyS, outS, ssSeq, ssIf, ssRet, ssAsg, ssExpr, ssPure, soB, sBind, sOk, sPure, sFldR, sMeth, sCall, sCallD, noX, outP, sNil, sCons, sTru, sNot, sAnd, sOr, sAndV, sOrV, sNotV, sB, sCmp, sC1, sTup, sLst, sLstS, sLen, gLenS, sIx, gIxS, sIsi, gIsiS, sEq, ssFrz, siLive, ssForL, sCompL, Option.map_eq_map, bodyD, outD, startD, dsNext, dsSeq, dsIf, dsRet, dsRetN, dsAsg, dsOwn, dsFrz, frz, dsFor, dsAppend, dsSetI, ownAt, dVar, dPk, dC, dOp, dCmp, dB, dTru, dNot, dNotV, dAndV, dOrV, dAnd, dOr, dCall, dCons, dNil, dTup, dLst, dOwn, dComp, dC1, dSeqOf, dgName, dgTup, dgCons, dgNil, dSlL, dPart, dNoPart, dEnum, dZip, dListOf, dAddL, liftD, slAt, dYes, dIf, gAdd_i, gSub_i, gDiv_n, gMod_n, gNeg_i, asB_b, asI_i, listD_l, seqD_l, seqD_t, gLen_l, gLen_t, gIx_l, gIx_t, cEq_i, cEq_s, cEq_b, cNe_i, cNe_s, cLt_i, cLe_i, cGt_i, cGe_i, cNotN_i, cNotN_n, cNotN_s, cNotN_l, cNotN_t, cIsN_i, cIsN_n, cIsN_s, cIsN_l, cIsN_t, isi_int, isi_bool, isi_str, List.length_cons, List.length_nil, List.map_cons, List.map_nil, List.replicate, List.nil_append, List.cons_append, List.getElem?_cons_zero, List.getElem?_cons_succ, List.set_cons_zero, List.set_cons_succ, Option.bind_some, Option.map_some, Option.bind_none, Option.map_none, Option.getD_some, Option.getD_none, Nat.reduceAdd, Nat.reduceSub, if_true, reduceIte, Nat.reduceEqDiff, decide_true, decide_false, Bool.not_true, Bool.not_false, Bool.false_eq_true, ne_eq, not_false_eq_true, l0, e1, if_pos z1000, gAny_map, any_map, ha, ssAppend, Option.isSome_some, if_pos z3, hs]
      simp [enc3]
    · unfold addT
      rw [if_neg ha, List.getElem?_set]
      simp [hBl, lL]
theorem valW_put {κ : Type} [DecidableEq κ] : ∀ (kvs : List (κ × W)) (k q : κ) (x : W), valW kvs k = none → valW (kvs ++ [(k, x)]) q = if q = k then some x else valW kvs q := fun kvs k q x h => by
  induction kvs with
  | nil =>
    by_cases e : q = k
    · subst e; simp [valW]
    · have e' : ¬ k = q := fun z => e z.symm
      simp [valW, e, e']
  | cons p r ih =>
    obtain ⟨j, y⟩ := p
    by_cases hj : j = k
    · subst hj
      simp [valW, List.find?_cons] at h
    · have h' : valW r k = none := by simpa [valW, List.find?_cons, hj] using h
      have ih' := ih h'
      by_cases hq : j = q
      · subst hq
        simp [valW, List.find?_cons, hj]
      · simp only [valW, List.cons_append, List.find?_cons, hq, decide_false] at ih' ⊢
        exact ih'
theorem putKW_new {κ : Type} [DecidableEq κ] {kvs : List (κ × W)} {k : κ} (x : W) (h : valW kvs k = none) : putKW kvs k x = kvs ++ [(k, x)] := by
  unfold putKW
  rw [if_neg]
  intro ha
  obtain ⟨kv, h1, h2⟩ := List.any_eq_true.mp ha
  unfold valW at h
  have h3 : kvs.find? (fun kv => decide (kv.1 = k)) = none := by
    cases hf : kvs.find? (fun kv => decide (kv.1 = k)) with
    | none => rfl
    | some z => rw [hf] at h; cases h
  exact absurd h2 (by simpa using List.find?_eq_none.mp h3 kv h1)
theorem get_app {S : Sto} {m : Nat} {o x : Ob} (h : S[m]? = some o) : (S ++ [x])[m]? = some o := by
  rw [List.getElem?_append_left (List.getElem?_eq_some_iff.mp h).1]
  exact h
theorem touch_run {S : Sto} {I b dd : Nat} {c : W} {kvs : List (Key × W)} {ts : List Dd} (d : Dd) (hI : S[I]? = some (.ins (Str.ofString "Shared") (shF b dd c))) (hd : S[dd]? = some (.dK kvs)) (hk : kvs.length < 1000)
    (hl : (∃ l, valW kvs (Sum.inl d.place) = some (.ref l) ∧ S[l]? = some (.lst (ts.map enc3))) ∨ (valW kvs (Sum.inl d.place) = none ∧ ts = [])) (hn : ts.length < 900) :
    ∃ S' l kvs', p_Shared_touch [.ref I, .str (wd d.put), .int d.lane, .int d.place, .int d.line] S = some (.ok .none, S') ∧
      S'[I]? = some (.ins (Str.ofString "Shared") (shF b dd (cl2 c (firstC d ts)))) ∧ S'[dd]? = some (.dK kvs') ∧ valW kvs' (Sum.inl d.place) = some (.ref l) ∧ S'[l]? = some (.lst ((addT ts d).map enc3)) ∧
      (∀ q, q ≠ d.place → valW kvs' (Sum.inl q) = valW kvs (Sum.inl q)) ∧ kvs'.length ≤ kvs.length + 1 ∧ (valW kvs (Sum.inl d.place) = some (.ref l) ∨ (l = S.length ∧ valW kvs (Sum.inl d.place) = none)) ∧
      (∀ m, m < S.length → m ≠ I → m ≠ dd → m ≠ l → S'[m]? = S[m]?) ∧ S.length ≤ S'.length := by
  have hID : I ≠ dd := fun z => by rw [z, hd] at hI; cases hI
  have z0 := sz 0 (by decide)
  have hks : kvs.length < sizeLine := Nat.lt_of_lt_of_le hk (sz 1000 (by decide))
  have i0 := ins_at hI
  have d0 := dk_at hd
  have hI1 : (S ++ [Ob.lst []])[I]? = some (.ins (Str.ofString "Shared") (shF b dd c)) := get_app hI
  have hd1 : (S ++ [Ob.lst []])[dd]? = some (.dK kvs) := get_app hd
  have d1 := dk_at hd1
  have hb : p_Shared_touch = bodyS 5 6 (ssSeq (ssAsg (sDDef (sFldR "Shared" "touches" (sPure (dVar 0))) (sPure (dVar 3)) (sLstS (sPure dNil))) (dgName 5)) (ssSeq (ssIf (sCmp cIsN (sFldR "Shared" "clash" (sPure (dVar 0))) (sPure (dC .none)))
      (ssFld "Shared" "clash" (sPure (dVar 0)) (sCall p_first_clash (sPure (dCons (dVar 5) (dCons (dVar 1) (dCons (dVar 2) (dCons (dVar 3) (dCons (dVar 4) dNil))))))))
      (ssPure dsNext))
    (ssIf (sNot (sTru (sC1 gAny (sCompL 1000 [some 1, some 2, none] (siLive (sPure (dVar 5))) (dgName 2) (sPure dYes) (sPure cAny)))))
      (ssAppend (sPure (dVar 5)) (sPure (dTup (dCons (dVar 1) (dCons (dVar 2) (dCons (dVar 4) dNil))))))
      (ssPure dsNext)))) := rfl
  -- the row of touches is found or made
  have st : ∃ SA l kvs', ssAsg (sDDef (sFldR "Shared" "touches" (sPure (dVar 0))) (sPure (dVar 3)) (sLstS (sPure dNil))) (dgName 5) [.val (.ref I), .val (.str (wd d.put)), .val (.int d.lane), .val (.int d.place), .val (.int d.line), .no] S = some (.nx [.val (.ref I), .val (.str (wd d.put)), .val (.int d.lane), .val (.int d.place), .val (.int d.line), .val (.ref l)], SA) ∧
      SA[I]? = some (.ins (Str.ofString "Shared") (shF b dd c)) ∧ SA[dd]? = some (.dK kvs') ∧ valW kvs' (Sum.inl d.place) = some (.ref l) ∧ SA[l]? = some (.lst (ts.map enc3)) ∧ l ≠ dd ∧
      (∀ q, q ≠ d.place → valW kvs' (Sum.inl q) = valW kvs (Sum.inl q)) ∧ kvs'.length ≤ kvs.length + 1 ∧ (valW kvs (Sum.inl d.place) = some (.ref l) ∨ (l = S.length ∧ valW kvs (Sum.inl d.place) = none)) ∧
      (∀ m, m < S.length → m ≠ dd → SA[m]? = S[m]?) ∧ S.length ≤ SA.length := by
    rcases hl with ⟨l, h1, h2⟩ | ⟨h1, rfl⟩
    · have h2a : (S ++ [Ob.lst []])[l]? = some (.lst (ts.map enc3)) := get_app h2
      refine ⟨S ++ [Ob.lst []], l, kvs, ?_, hI1, hd1, h1, h2a, (fun z => by rw [z, hd] at h2; cases h2), (fun q _ => rfl), by omega, .inl h1, (fun m hm _ => List.getElem?_append_left hm), by simp⟩
      simp only [bodyS, outS, ssSeq, ssIf, ssRet, ssAsg, ssExpr, ssPure, soB, sBind, sOk, sPure, sFldR, sMeth, sCall, sCallD, noX, outP, sNil, sCons, sTru, sNot, sAnd, sOr, sAndV, sOrV, sNotV, sB, sCmp, sC1, sTup, sLst, sLstS, sLen, gLenS, sIx, gIxS, sIsi, gIsiS, sEq, ssFrz, siLive, ssForL, sCompL, Option.map_eq_map, bodyD, outD, startD, dsNext, dsSeq, dsIf, dsRet, dsRetN, dsAsg, dsOwn, dsFrz, frz, dsFor, dsAppend, dsSetI, ownAt, dVar, dPk, dC, dOp, dCmp, dB, dTru, dNot, dNotV, dAndV, dOrV, dAnd, dOr, dCall, dCons, dNil, dTup, dLst, dOwn, dComp, dC1, dSeqOf, dgName, dgTup, dgCons, dgNil, dSlL, dPart, dNoPart, dEnum, dZip, dListOf, dAddL, liftD, slAt, dYes, dIf, gAdd_i, gSub_i, gDiv_n, gMod_n, gNeg_i, asB_b, asI_i, listD_l, seqD_l, seqD_t, gLen_l, gLen_t, gIx_l, gIx_t, cEq_i, cEq_s, cEq_b, cNe_i, cNe_s, cLt_i, cLe_i, cGt_i, cGe_i, cNotN_i, cNotN_n, cNotN_s, cNotN_l, cNotN_t, cIsN_i, cIsN_n, cIsN_s, cIsN_l, cIsN_t, isi_int, isi_bool, isi_str, List.length_cons, List.length_nil, List.map_cons, List.map_nil, List.replicate, List.nil_append, List.cons_append, List.getElem?_cons_zero, List.getElem?_cons_succ, List.set_cons_zero, List.set_cons_succ, Option.bind_some, Option.map_some, Option.bind_none, Option.map_none, Option.getD_some, Option.getD_none, Nat.reduceAdd, Nat.reduceSub, if_true, reduceIte, Nat.reduceEqDiff, decide_true, decide_false, Bool.not_true, Bool.not_false, Bool.false_eq_true, ne_eq, not_false_eq_true, sDDef, i0, lk_t, d0, Option.isSome_some, if_pos z0, d1, keyOf, if_pos hks, h1]
    · have hne : S.length ≠ dd := fun z => by
        have := (List.getElem?_eq_some_iff.mp hd).1
        omega
      refine ⟨(S ++ [Ob.lst []]).set dd (.dK (kvs ++ [(Sum.inl d.place, W.ref S.length)])), S.length, kvs ++ [(Sum.inl d.place, W.ref S.length)], ?_, (by rw [List.getElem?_set_ne (Ne.symm hID)]; exact hI1), ?_, (by rw [valW_put _ _ _ _ h1]; simp), ?_, hne, (fun q hq => by rw [valW_put _ _ _ _ h1, if_neg (fun z => hq (by cases z; rfl))]), by simp, .inr ⟨rfl, h1⟩, (fun m hm hmd => by rw [List.getElem?_set_ne (Ne.symm hmd)]; exact List.getElem?_append_left hm), by simp⟩
      · simp only [bodyS, outS, ssSeq, ssIf, ssRet, ssAsg, ssExpr, ssPure, soB, sBind, sOk, sPure, sFldR, sMeth, sCall, sCallD, noX, outP, sNil, sCons, sTru, sNot, sAnd, sOr, sAndV, sOrV, sNotV, sB, sCmp, sC1, sTup, sLst, sLstS, sLen, gLenS, sIx, gIxS, sIsi, gIsiS, sEq, ssFrz, siLive, ssForL, sCompL, Option.map_eq_map, bodyD, outD, startD, dsNext, dsSeq, dsIf, dsRet, dsRetN, dsAsg, dsOwn, dsFrz, frz, dsFor, dsAppend, dsSetI, ownAt, dVar, dPk, dC, dOp, dCmp, dB, dTru, dNot, dNotV, dAndV, dOrV, dAnd, dOr, dCall, dCons, dNil, dTup, dLst, dOwn, dComp, dC1, dSeqOf, dgName, dgTup, dgCons, dgNil, dSlL, dPart, dNoPart, dEnum, dZip, dListOf, dAddL, liftD, slAt, dYes, dIf, gAdd_i, gSub_i, gDiv_n, gMod_n, gNeg_i, asB_b, asI_i, listD_l, seqD_l, seqD_t, gLen_l, gLen_t, gIx_l, gIx_t, cEq_i, cEq_s, cEq_b, cNe_i, cNe_s, cLt_i, cLe_i, cGt_i, cGe_i, cNotN_i, cNotN_n, cNotN_s, cNotN_l, cNotN_t, cIsN_i, cIsN_n, cIsN_s, cIsN_l, cIsN_t, isi_int, isi_bool, isi_str, List.length_cons, List.length_nil, List.map_cons, List.map_nil, List.replicate, List.nil_append, List.cons_append, List.getElem?_cons_zero, List.getElem?_cons_succ, List.set_cons_zero, List.set_cons_succ, Option.bind_some, Option.map_some, Option.bind_none, Option.map_none, Option.getD_some, Option.getD_none, Nat.reduceAdd, Nat.reduceSub, if_true, reduceIte, Nat.reduceEqDiff, decide_true, decide_false, Bool.not_true, Bool.not_false, Bool.false_eq_true, ne_eq, not_false_eq_true, sDDef, i0, lk_t, d0, Option.isSome_some, if_pos z0, d1, keyOf, if_pos hks, h1, putKW_new _ h1]
      · rw [List.getElem?_set]
        simp [(List.getElem?_eq_some_iff.mp hd1).1]
        have := (List.getElem?_eq_some_iff.mp hd).1
        omega
      · rw [List.getElem?_set_ne (Ne.symm hne)]
        simp
  obtain ⟨SA, l, kvs', eA, a1, a2, a3, a4, a5, a6, a7, a8, a9, a10⟩ := st
  obtain ⟨SC, eC, c1, c2, c3, c4⟩ := touch_rest d a1 a4 hn
  refine ⟨SC, l, kvs', ?_, c1, (by rw [c3 dd (Ne.symm hID) (Ne.symm a5)]; exact a2), a3, c2, a6, a7, a8, (fun m h1 h2 h3 h4 => by rw [c3 m h2 h4]; exact a9 m h1 h3), by omega⟩
  rw [hb]
  unfold bodyS
  rw [if_pos (show [W.ref I, W.str (wd d.put), W.int d.lane, W.int d.place, W.int d.line].length = 5 from rfl)]
  show outS (ssSeq _ _ [.val (.ref I), .val (.str (wd d.put)), .val (.int d.lane), .val (.int d.place), .val (.int d.line), .no] S) = _
  rw [show ∀ (f g : DS → Sto → SO) (δ : DS) (S : Sto), ssSeq f g δ S = (match f δ S with | some (.nx δ', S') => g δ' S' | o => o) from fun _ _ _ _ => rfl, eA]
  show outS (ssSeq _ _ _ SA) = _
  rw [eC]
  rfl
def fst2 (D : List Dd) : List Dd := D.foldl addT []
theorem wd_inj {a b : Bool} (h : wd a = wd b) : a = b := by
  cases a <;> cases b <;> first | rfl | exact absurd h (by decide +kernel)
theorem hit_same {d x y : Dd} (h : sameT x y = true) : hit d y = hit d x := by
  simp only [sameT, Bool.and_eq_true, decide_eq_true_eq] at h
  unfold hit
  rw [wd_inj h.1, h.2]
theorem fst2_app (D : List Dd) (d : Dd) : fst2 (D ++ [d]) = addT (fst2 D) d := by simp [fst2, List.foldl_append]
theorem find_fold (d : Dd) : ∀ (D E : List Dd), (D.foldl addT E).find? (hit d) = (E ++ D).find? (hit d)
  | [], E => by simp
  | x :: D, E => by
    rw [List.foldl_cons, find_fold d D (addT E x)]
    unfold addT
    split
    · rename_i ha
      rw [List.find?_append, List.find?_append, List.find?_cons]
      cases hf : E.find? (hit d) with
      | some z => rfl
      | none =>
        obtain ⟨y, h1, h2⟩ := List.any_eq_true.mp ha
        have h3 := List.find?_eq_none.mp hf y h1
        rw [hit_same h2] at h3
        have h4 : hit d x = false := by cases hh : hit d x <;> simp_all
        rw [h4]
    · rw [List.append_assoc]
      rfl
theorem firstC_fst (d : Dd) (D : List Dd) : firstC d (fst2 D) = firstC d D := by
  unfold firstC fst2
  rw [find_fold]
  rfl
theorem fold_len : ∀ (D E : List Dd), (D.foldl addT E).length ≤ E.length + D.length
  | [], E => by simp
  | x :: D, E => by
    rw [List.foldl_cons]
    refine Nat.le_trans (fold_len D (addT E x)) ?_
    unfold addT
    split <;> simp <;> omega
theorem fst2_len (D : List Dd) : (fst2 D).length ≤ D.length := by
  have := fold_len D []
  simpa [fst2] using this
abbrev Rl := Nat × Nat × Int
structure RowOK (ρ : Nat → Rl) (S : Sto) (w I b dd : Nat) (B : List Int) (D : List Dd) (c : W) (kvs : List (Key × W)) : Prop where
  fi : S[I]? = some (.ins (Str.ofString "Shared") (shF b dd c))
  ri : ρ I = (w, 0, 0)
  fb : S[b]? = some (.lst (B.map .int))
  rb : ρ b = (w, 1, 0)
  fd : S[dd]? = some (.dK kvs)
  rd : ρ dd = (w, 4, 0)
  kl : kvs.length ≤ D.length
  tl : ∀ p : Int, (∃ l, valW kvs (Sum.inl p) = some (.ref l) ∧ S[l]? = some (.lst ((fst2 (D.filter fun x => decide (x.place = p))).map enc3)) ∧ ρ l = (w, 5, p)) ∨ (valW kvs (Sum.inl p) = none ∧ D.filter (fun x => decide (x.place = p)) = [])
structure Fr (P : Nat → Prop) (ρ : Nat → Rl) (S : Sto) (ρ' : Nat → Rl) (S' : Sto) : Prop where
  len : S.length ≤ S'.length
  rl : ∀ m, m < S.length → ρ' m = ρ m
  st : ∀ m, m < S.length → ¬ P (ρ m).1 → S'[m]? = S[m]?
theorem lt_of {S : Sto} {m : Nat} {o : Ob} (h : S[m]? = some o) : m < S.length := (List.getElem?_eq_some_iff.mp h).1
theorem Fr.refl (P : Nat → Prop) (ρ : Nat → Rl) (S : Sto) : Fr P ρ S ρ S := ⟨Nat.le_refl _, fun _ _ => rfl, fun _ _ _ => rfl⟩
theorem Fr.trans {P : Nat → Prop} {ρ1 ρ2 ρ3 : Nat → Rl} {S1 S2 S3 : Sto} (a : Fr P ρ1 S1 ρ2 S2) (b : Fr P ρ2 S2 ρ3 S3) : Fr P ρ1 S1 ρ3 S3 :=
  ⟨Nat.le_trans a.len b.len, fun m h => by rw [b.rl m (Nat.lt_of_lt_of_le h a.len), a.rl m h], fun m h hp => by rw [b.st m (Nat.lt_of_lt_of_le h a.len) (by rw [a.rl m h]; exact hp), a.st m h hp]⟩
theorem Fr.mono {P Q : Nat → Prop} {ρ1 ρ2 : Nat → Rl} {S1 S2 : Sto} (a : Fr P ρ1 S1 ρ2 S2) (h : ∀ t, P t → Q t) : Fr Q ρ1 S1 ρ2 S2 := ⟨a.len, a.rl, fun m hm hq => a.st m hm fun hp => hq (h _ hp)⟩
theorem Fr.get {P : Nat → Prop} {ρ ρ' : Nat → Rl} {S S' : Sto} (f : Fr P ρ S ρ' S') {m : Nat} {o : Ob} (h : S[m]? = some o) (hp : ¬ P (ρ m).1) : S'[m]? = some o := by rw [f.st m (lt_of h) hp]; exact h
theorem Fr.role {P : Nat → Prop} {ρ ρ' : Nat → Rl} {S S' : Sto} (f : Fr P ρ S ρ' S') {m : Nat} {o : Ob} {r : Rl} (h : S[m]? = some o) (e : ρ m = r) : ρ' m = r := by rw [f.rl m (lt_of h)]; exact e
theorem RowOK.fr {P : Nat → Prop} {ρ ρ' : Nat → Rl} {S S' : Sto} {w I b dd : Nat} {B : List Int} {D : List Dd} {c : W} {kvs : List (Key × W)} (r : RowOK ρ S w I b dd B D c kvs) (f : Fr P ρ S ρ' S') (hw : ¬ P w) : RowOK ρ' S' w I b dd B D c kvs :=
  ⟨f.get r.fi (by rw [r.ri]; exact hw), f.role r.fi r.ri, f.get r.fb (by rw [r.rb]; exact hw), f.role r.fb r.rb, f.get r.fd (by rw [r.rd]; exact hw), f.role r.fd r.rd, r.kl, fun p => by
    rcases r.tl p with ⟨l, a1, a2, a3⟩ | h
    · exact .inl ⟨l, a1, f.get a2 (by rw [a3]; exact hw), f.role a2 a3⟩
    · exact .inr h⟩
theorem Fr.set {ρ : Nat → Rl} (S : Sto) (m : Nat) (o : Ob) : Fr (· = (ρ m).1) ρ S ρ (S.set m o) := ⟨by simp, fun _ _ => rfl, fun k hk hp => by rw [List.getElem?_set_ne]; exact fun z => hp (by rw [z])⟩
def pushR (ρ : Nat → Rl) (n : Nat) (r : Rl) : Nat → Rl := fun m => if m = n then r else ρ m
theorem Fr.push {P : Nat → Prop} {ρ : Nat → Rl} (S : Sto) (o : Ob) (r : Rl) : Fr P ρ S (pushR ρ S.length r) (S ++ [o]) := ⟨by simp, fun m h => by unfold pushR; rw [if_neg (by omega)], fun m h _ => List.getElem?_append_left h⟩
theorem push_get (S : Sto) (o : Ob) : (S ++ [o])[S.length]? = some o := by simp
theorem push_role (ρ : Nat → Rl) (n : Nat) (r : Rl) : pushR ρ n r n = r := by simp [pushR]
theorem ne_role {ρ : Nat → Rl} {x y : Nat} {r1 r2 : Rl} (h1 : ρ x = r1) (h2 : ρ y = r2) (h : r1 ≠ r2) : x ≠ y := fun z => h (by rw [← h1, ← h2, z])
theorem row_touch {ρ : Nat → Rl} {S : Sto} {w I b dd : Nat} {B : List Int} {D : List Dd} {c : W} {kvs : List (Key × W)} (r : RowOK ρ S w I b dd B D c kvs) (d : Dd) (hD : D.length < 800) :
    ∃ S' ρ' kvs', p_Shared_touch [.ref I, .str (wd d.put), .int d.lane, .int d.place, .int d.line] S = some (.ok .none, S') ∧ RowOK ρ' S' w I b dd B (D ++ [d]) (cl2 c (firstC d (D.filter (here d)))) kvs' ∧ Fr (· = w) ρ S ρ' S' := by
  have hf : (D.filter (here d)).length ≤ D.length := List.length_filter_le _ _
  have hts : (fst2 (D.filter (here d))).length < 900 := by have := fst2_len (D.filter (here d)); omega
  obtain ⟨S', l, kvs', e, h1, h2, h3, h4, h5, h6, h7, h8, h9⟩ := touch_run (ts := fst2 (D.filter (here d))) d r.fi r.fd (by have := r.kl; omega) (by
    rcases r.tl d.place with ⟨l, a1, a2, a3⟩ | ⟨a1, a2⟩
    · exact .inl ⟨l, a1, a2⟩
    · exact .inr ⟨a1, by show fst2 (D.filter fun x => decide (x.place = d.place)) = []; rw [a2]; rfl⟩) hts
  rw [firstC_fst] at h1
  have hρ : ∀ m, m < S.length → (fun m => if m < S.length then ρ m else ((w, 5, d.place) : Rl)) m = ρ m := fun m hm => if_pos hm
  have hl : (fun m => if m < S.length then ρ m else ((w, 5, d.place) : Rl)) l = (w, 5, d.place) := by
    rcases h7 with h7 | ⟨rfl, h7⟩
    · rcases r.tl d.place with ⟨l', a1, a2, a3⟩ | ⟨a1, a2⟩
      · rw [h7] at a1
        cases a1
        rw [hρ l (lt_of a2)]
        exact a3
      · rw [h7] at a1; cases a1
    · exact if_neg (Nat.lt_irrefl _)
  have keep : ∀ m r', m < S.length → ρ m = r' → r' ≠ (w, 0, 0) → r' ≠ (w, 4, 0) → r' ≠ (w, 5, d.place) → S'[m]? = S[m]? := fun m r' hm e1 n1 n2 n3 => h8 m hm (ne_role e1 r.ri n1) (ne_role e1 r.rd n2) (ne_role (ρ := fun m => if m < S.length then ρ m else ((w, 5, d.place) : Rl)) ((hρ m hm).trans e1) hl n3)
  refine ⟨S', (fun m => if m < S.length then ρ m else (w, 5, d.place)), kvs', e, ⟨h1, (hρ _ (lt_of r.fi)).trans r.ri, ?_, (hρ _ (lt_of r.fb)).trans r.rb, h2, (hρ _ (lt_of r.fd)).trans r.rd, ?_, ?_⟩, ⟨h9, hρ, ?_⟩⟩
  · rw [keep b _ (lt_of r.fb) r.rb (by simp) (by simp) (by simp)]
    exact r.fb
  · have := r.kl
    simp
    omega
  · intro p
    by_cases hp : p = d.place
    · subst hp
      refine .inl ⟨l, h3, ?_, hl⟩
      rw [h4, List.filter_append]
      rw [show [d].filter (fun x => decide (x.place = d.place)) = [d] by simp, fst2_app]
      rfl
    · rw [List.filter_append, show [d].filter (fun x => decide (x.place = p)) = [] by simp; exact fun z => hp z.symm, List.append_nil, h5 p hp]
      rcases r.tl p with ⟨l', a1, a2, a3⟩ | h
      · refine .inl ⟨l', a1, ?_, (hρ _ (lt_of a2)).trans a3⟩
        rw [keep l' _ (lt_of a2) a3 (by simp) (by simp) (by simp; exact hp)]
        exact a2
      · exact .inr h
  · intro m hm hw
    exact keep m _ hm rfl (fun z => hw (by rw [z])) (fun z => hw (by rw [z])) (fun z => hw (by rw [z]))
theorem at_map (B : List Int) (i : Int) (h0 : 0 ≤ i) (h1 : i < B.length) : atI (B.map W.int) i = some (.int (B[i.toNat]?.getD 0)) := by
  unfold atI ixN
  rw [if_pos h0, if_pos (by simpa using h1)]
  have h2 : i.toNat < B.length := by omega
  simp [List.getElem?_eq_getElem h2]
theorem ixN_in {n : Nat} {i : Int} (h0 : 0 ≤ i) (h1 : i < n) : ixN n i = some i.toNat := by
  unfold ixN
  rw [if_pos h0, if_pos h1]
theorem meth_ne : (Str.ofString "touch" == Str.ofString "boxes") = false ∧ (Str.ofString "touch" == Str.ofString "clash") = false ∧ (Str.ofString "touch" == Str.ofString "touches") = false := by decide +kernel
theorem meth_ne2 : (Str.ofString "laid" == Str.ofString "boxes") = false ∧ (Str.ofString "laid" == Str.ofString "clash") = false ∧ (Str.ofString "laid" == Str.ofString "touches") = false := by decide +kernel
theorem meth_ne3 : (Str.ofString "taken" == Str.ofString "boxes") = false ∧ (Str.ofString "taken" == Str.ofString "clash") = false ∧ (Str.ofString "taken" == Str.ofString "touches") = false := by decide +kernel
theorem meth_ne4 : (Str.ofString "met" == Str.ofString "boxes") = false ∧ (Str.ofString "met" == Str.ofString "clash") = false ∧ (Str.ofString "met" == Str.ofString "touches") = false := by decide +kernel
theorem row_taken {ρ : Nat → Rl} {S : Sto} {w I b dd : Nat} {B : List Int} {D : List Dd} {c : W} {kvs : List (Key × W)} (r : RowOK ρ S w I b dd B D c kvs) (lane place line : Int) (hD : D.length < 800) (h0 : 0 ≤ place) (h1 : place < B.length) :
    ∃ S' ρ' kvs', p_Shared_taken [.ref I, .int lane, .int place, .int line] S = some (.ok (.int (B[place.toNat]?.getD 0)), S') ∧ RowOK ρ' S' w I b dd B (D ++ [⟨false, lane, place, line⟩]) (cl2 c (firstC ⟨false, lane, place, line⟩ (D.filter (here ⟨false, lane, place, line⟩)))) kvs' ∧ Fr (· = w) ρ S ρ' S' := by
  obtain ⟨S', ρ', kvs', e, r', f⟩ := row_touch r ⟨false, lane, place, line⟩ hD
  refine ⟨S', ρ', kvs', ?_, r', f⟩
  have e' : p_Shared_touch [.ref I, .str (Str.ofString "get"), .int lane, .int place, .int line] S = some (.ok .none, S') := e
  have a0 := at_map B place h0 h1
  simp only [p_Shared_taken, bodyS, outS, ssSeq, ssIf, ssRet, ssAsg, ssExpr, ssPure, soB, sBind, sOk, sPure, sFldR, sMeth, sCall, sCallD, noX, outP, sNil, sCons, sTru, sNot, sAnd, sOr, sAndV, sOrV, sNotV, sB, sCmp, sC1, sTup, sLst, sLstS, sLen, gLenS, sIx, gIxS, sIsi, gIsiS, sEq, ssFrz, siLive, ssForL, sCompL, Option.map_eq_map, bodyD, outD, startD, dsNext, dsSeq, dsIf, dsRet, dsRetN, dsAsg, dsOwn, dsFrz, frz, dsFor, dsAppend, dsSetI, ownAt, dVar, dPk, dC, dOp, dCmp, dB, dTru, dNot, dNotV, dAndV, dOrV, dAnd, dOr, dCall, dCons, dNil, dTup, dLst, dOwn, dComp, dC1, dSeqOf, dgName, dgTup, dgCons, dgNil, dSlL, dPart, dNoPart, dEnum, dZip, dListOf, dAddL, liftD, slAt, dYes, dIf, gAdd_i, gSub_i, gDiv_n, gMod_n, gNeg_i, asB_b, asI_i, listD_l, seqD_l, seqD_t, gLen_l, gLen_t, gIx_l, gIx_t, cEq_i, cEq_s, cEq_b, cNe_i, cNe_s, cLt_i, cLe_i, cGt_i, cGe_i, cNotN_i, cNotN_n, cNotN_s, cNotN_l, cNotN_t, cIsN_i, cIsN_n, cIsN_s, cIsN_l, cIsN_t, isi_int, isi_bool, isi_str, List.length_cons, List.length_nil, List.map_cons, List.map_nil, List.replicate, List.nil_append, List.cons_append, List.getElem?_cons_zero, List.getElem?_cons_succ, List.set_cons_zero, List.set_cons_succ, Option.bind_some, Option.map_some, Option.bind_none, Option.map_none, Option.getD_some, Option.getD_none, Nat.reduceAdd, Nat.reduceSub, if_true, reduceIte, Nat.reduceEqDiff, decide_true, decide_false, Bool.not_true, Bool.not_false, Bool.false_eq_true, ne_eq, not_false_eq_true, ins_at r.fi, lk_no _ _ _ meth_ne, e', ins_at r'.fi, lk_b, lst_at r'.fb, a0]
theorem row_setB {ρ : Nat → Rl} {S : Sto} {w I b dd : Nat} {B B' : List Int} {D : List Dd} {c : W} {kvs : List (Key × W)} (r : RowOK ρ S w I b dd B D c kvs) : RowOK ρ (S.set b (.lst (B'.map .int))) w I b dd B' D c kvs := by
  have keep : ∀ m r', ρ m = r' → r' ≠ (w, 1, 0) → (S.set b (.lst (B'.map .int)))[m]? = S[m]? := fun m r' e n => List.getElem?_set_ne (Ne.symm (ne_role e r.rb n))
  refine ⟨(keep I _ r.ri (by simp)).trans r.fi, r.ri, ?_, r.rb, (keep dd _ r.rd (by simp)).trans r.fd, r.rd, r.kl, fun p => ?_⟩
  · rw [List.getElem?_set_self (lt_of r.fb)]
  · rcases r.tl p with ⟨l, a1, a2, a3⟩ | h
    · exact .inl ⟨l, a1, (keep l _ a3 (by simp)).trans a2, a3⟩
    · exact .inr h
theorem row_laid {ρ : Nat → Rl} {S : Sto} {w I b dd : Nat} {B : List Int} {D : List Dd} {c : W} {kvs : List (Key × W)} (r : RowOK ρ S w I b dd B D c kvs) (lane place line number : Int) (hD : D.length < 800) (h0 : 0 ≤ place) (h1 : place < B.length) :
    ∃ S' ρ' kvs', p_Shared_laid [.ref I, .int lane, .int place, .int line, .int number] S = some (.ok .none, S') ∧ RowOK ρ' S' w I b dd (B.set place.toNat number) (D ++ [⟨true, lane, place, line⟩]) (cl2 c (firstC ⟨true, lane, place, line⟩ (D.filter (here ⟨true, lane, place, line⟩)))) kvs' ∧ Fr (· = w) ρ S ρ' S' := by
  obtain ⟨S', ρ', kvs', e, r', f⟩ := row_touch r ⟨true, lane, place, line⟩ hD
  refine ⟨S'.set b (.lst ((B.set place.toNat number).map .int)), ρ', kvs', ?_, row_setB r', f.trans ?_⟩
  · have e' : p_Shared_touch [.ref I, .str (Str.ofString "put"), .int lane, .int place, .int line] S = some (.ok .none, S') := e
    have a0 : ixN (B.map W.int).length place = some place.toNat := ixN_in h0 (by simpa using h1)
    simp only [p_Shared_laid, bodyS, outS, ssSeq, ssIf, ssRet, ssAsg, ssExpr, ssPure, soB, sBind, sOk, sPure, sFldR, sMeth, sCall, sCallD, noX, outP, sNil, sCons, sTru, sNot, sAnd, sOr, sAndV, sOrV, sNotV, sB, sCmp, sC1, sTup, sLst, sLstS, sLen, gLenS, sIx, gIxS, sIsi, gIsiS, sEq, ssFrz, siLive, ssForL, sCompL, Option.map_eq_map, bodyD, outD, startD, dsNext, dsSeq, dsIf, dsRet, dsRetN, dsAsg, dsOwn, dsFrz, frz, dsFor, dsAppend, dsSetI, ownAt, dVar, dPk, dC, dOp, dCmp, dB, dTru, dNot, dNotV, dAndV, dOrV, dAnd, dOr, dCall, dCons, dNil, dTup, dLst, dOwn, dComp, dC1, dSeqOf, dgName, dgTup, dgCons, dgNil, dSlL, dPart, dNoPart, dEnum, dZip, dListOf, dAddL, liftD, slAt, dYes, dIf, gAdd_i, gSub_i, gDiv_n, gMod_n, gNeg_i, asB_b, asI_i, listD_l, seqD_l, seqD_t, gLen_l, gLen_t, gIx_l, gIx_t, cEq_i, cEq_s, cEq_b, cNe_i, cNe_s, cLt_i, cLe_i, cGt_i, cGe_i, cNotN_i, cNotN_n, cNotN_s, cNotN_l, cNotN_t, cIsN_i, cIsN_n, cIsN_s, cIsN_l, cIsN_t, isi_int, isi_bool, isi_str, List.length_cons, List.length_nil, List.map_cons, List.map_nil, List.replicate, List.nil_append, List.cons_append, List.getElem?_cons_zero, List.getElem?_cons_succ, List.set_cons_zero, List.set_cons_succ, Option.bind_some, Option.map_some, Option.bind_none, Option.map_none, Option.getD_some, Option.getD_none, Nat.reduceAdd, Nat.reduceSub, if_true, reduceIte, Nat.reduceEqDiff, decide_true, decide_false, Bool.not_true, Bool.not_false, Bool.false_eq_true, ne_eq, not_false_eq_true, ins_at r.fi, lk_no _ _ _ meth_ne, e', ssSetI, ins_at r'.fi, lk_b, lst_at r'.fb, a0, List.map_set]
  · have := Fr.set (ρ := ρ') S' b (.lst ((B.set place.toNat number).map .int))
    rw [r'.rb] at this
    exact this
theorem row_met {ρ : Nat → Rl} {S : Sto} {w I b dd : Nat} {B : List Int} {D : List Dd} {c : W} {kvs : List (Key × W)} (r : RowOK ρ S w I b dd B D c kvs) :
    ∃ S' ρ' dd' k, p_Shared_met [.ref I] S = some (.ok (.ref k), S') ∧ RowOK ρ' S' w I b dd' B [] c [] ∧ Fr (· = w) ρ S ρ' S' ∧ S'[k]? = some (.lst (B.map .int)) ∧ ρ' k = (8, 0, 0) := by
  have i0 := ins_at r.fi
  have hI1 : (S ++ [Ob.dK []])[I]? = some (.ins (Str.ofString "Shared") (shF b dd c)) := get_app r.fi
  have i1 := ins_at hI1
  have l3 : (shF b dd c).length < 1000 := by show 3 < 1000; decide
  have f1 := Fr.push (P := (· = w)) (ρ := ρ) S (.dK []) (w, 4, 0)
  have f2 := Fr.set (ρ := pushR ρ S.length (w, 4, 0)) (S ++ [Ob.dK []]) I (.ins (Str.ofString "Shared") (shF b S.length c))
  have hr1 : pushR ρ S.length (w, 4, 0) I = (w, 0, 0) := f1.role r.fi r.ri
  rw [hr1] at f2
  have hIb : I ≠ b := ne_role r.ri r.rb (by simp)
  have hId : I ≠ S.length := by have := lt_of r.fi; omega
  have hB2 : ((S ++ [Ob.dK []]).set I (.ins (Str.ofString "Shared") (shF b S.length c)))[b]? = some (.lst (B.map .int)) := by
    rw [List.getElem?_set_ne hIb]
    exact get_app r.fb
  have hI2 : ((S ++ [Ob.dK []]).set I (.ins (Str.ofString "Shared") (shF b S.length c)))[I]? = some (.ins (Str.ofString "Shared") (shF b S.length c)) := List.getElem?_set_self (lt_of hI1)
  have hD2 : ((S ++ [Ob.dK []]).set I (.ins (Str.ofString "Shared") (shF b S.length c)))[S.length]? = some (.dK []) := by
    rw [List.getElem?_set_ne hId]
    exact push_get S _
  generalize hS2 : (S ++ [Ob.dK []]).set I (.ins (Str.ofString "Shared") (shF b S.length c)) = S2 at f2 hB2 hI2 hD2
  have f3 := Fr.push (P := (· = w)) (ρ := pushR ρ S.length (w, 4, 0)) S2 (.lst (B.map .int)) (8, 0, 0)
  refine ⟨S2 ++ [.lst (B.map .int)], pushR (pushR ρ S.length (w, 4, 0)) S2.length (8, 0, 0), S.length, S2.length, ?_, ⟨get_app hI2, ?_, get_app hB2, ?_, get_app hD2, ?_, Nat.zero_le _, fun p => .inr ⟨rfl, rfl⟩⟩, (f1.trans f2).trans f3, push_get _ _, push_role _ _ _⟩
  · simp only [p_Shared_met, bodyS, outS, ssSeq, ssIf, ssRet, ssAsg, ssExpr, ssPure, soB, sBind, sOk, sPure, sFldR, sMeth, sCall, sCallD, noX, outP, sNil, sCons, sTru, sNot, sAnd, sOr, sAndV, sOrV, sNotV, sB, sCmp, sC1, sTup, sLst, sLstS, sLen, gLenS, sIx, gIxS, sIsi, gIsiS, sEq, ssFrz, siLive, ssForL, sCompL, Option.map_eq_map, bodyD, outD, startD, dsNext, dsSeq, dsIf, dsRet, dsRetN, dsAsg, dsOwn, dsFrz, frz, dsFor, dsAppend, dsSetI, ownAt, dVar, dPk, dC, dOp, dCmp, dB, dTru, dNot, dNotV, dAndV, dOrV, dAnd, dOr, dCall, dCons, dNil, dTup, dLst, dOwn, dComp, dC1, dSeqOf, dgName, dgTup, dgCons, dgNil, dSlL, dPart, dNoPart, dEnum, dZip, dListOf, dAddL, liftD, slAt, dYes, dIf, gAdd_i, gSub_i, gDiv_n, gMod_n, gNeg_i, asB_b, asI_i, listD_l, seqD_l, seqD_t, gLen_l, gLen_t, gIx_l, gIx_t, cEq_i, cEq_s, cEq_b, cNe_i, cNe_s, cLt_i, cLe_i, cGt_i, cGe_i, cNotN_i, cNotN_n, cNotN_s, cNotN_l, cNotN_t, cIsN_i, cIsN_n, cIsN_s, cIsN_l, cIsN_t, isi_int, isi_bool, isi_str, List.length_cons, List.length_nil, List.map_cons, List.map_nil, List.replicate, List.nil_append, List.cons_append, List.getElem?_cons_zero, List.getElem?_cons_succ, List.set_cons_zero, List.set_cons_succ, Option.bind_some, Option.map_some, Option.bind_none, Option.map_none, Option.getD_some, Option.getD_none, Nat.reduceAdd, Nat.reduceSub, if_true, reduceIte, Nat.reduceEqDiff, decide_true, decide_false, Bool.not_true, Bool.not_false, Bool.false_eq_true, ne_eq, not_false_eq_true, ssFld, sDK, i0, i1, if_pos l3, pw_t, hS2, ins_at hI2, lk_b, sListS, seqS, lst_at hB2]
  · exact f3.role hI2 hr1
  · exact f3.role hB2 (f1.role r.fb r.rb)
  · exact f3.role hD2 (push_role _ _ _)
theorem pys_int (S : Sto) (n : Nat) : ∀ (X : List Int), pysG (pyS S (n + 1)) (X.map W.int) = some (X.map PyData.int)
  | [] => rfl
  | x :: X => by
    have e : pyS S (n + 1) (W.int x) = some (PyData.int x) := by simp only [pyS, W.py]
    rw [List.map_cons, List.map_cons]
    show (pyS S (n + 1) (W.int x)).bind _ = _
    rw [e]
    show (pysG _ _).map _ = _
    rw [pys_int S n X]
    rfl
theorem lay_int : ∀ X : List Int, PyData.canLayAll0 (X.map .int) = true
  | [] => by simp [PyData.canLayAll0]
  | x :: X => by simp [PyData.canLayAll0, PyData.canLay0, lay_int X]
theorem dep_int : ∀ X : List Int, PyData.depthAll (X.map .int) = 0
  | [] => by simp [PyData.depthAll]
  | x :: X => by simp [PyData.depthAll, PyData.depth, dep_int X]
theorem eqAll_int : ∀ X : List Int, PyData.eqvAll (X.map .int) (X.map .int) = true
  | [] => by simp [PyData.eqvAll]
  | x :: X => by simp [PyData.eqvAll, PyData.eqv, eqAll_int X]
theorem eqS_lst {S : Sto} {d e : W} {X : List Int} (neg : Bool) (h0 : scD d e = none) (h1 : pyS S 8 d = some (.list (X.map .int))) (h2 : pyS S 8 e = some (.list (X.map .int))) : cEqS neg d e S = some (!neg) := by
  unfold cEqS
  rw [h0]
  show (pyS S 8 d).bind _ = _
  rw [h1, Option.bind_some, h2, Option.bind_some]
  rw [if_pos (by simp [PyData.canLay0, lay_int, PyData.depth, dep_int])]
  cases neg <;> simp [PyData.eqv, eqAll_int]
theorem eqS_tup {S : Sto} (X : List Int) (neg : Bool) : cEqS neg (.tuple (X.map .int)) (.tuple (X.map .int)) S = some (!neg) := by
  have h1 : pyS S 8 (.tuple (X.map .int)) = some (.tuple (X.map .int)) := by
    show (pysG (pyS S 7) (X.map W.int)).map _ = _
    rw [pys_int]
    rfl
  unfold cEqS
  show (pyS S 8 _).bind _ = _
  rw [h1, Option.bind_some, Option.bind_some]
  rw [if_pos (by simp [PyData.canLay0, lay_int, PyData.depth, dep_int])]
  cases neg <;> simp [PyData.eqv, eqAll_int]
theorem eqS_t5 {S : Sto} (a b c d e : Int) (neg : Bool) : cEqS neg (.tuple [.int a, .int b, .int c, .int d, .int e]) (.tuple [.int a, .int b, .int c, .int d, .int e]) S = some (!neg) := eqS_tup [a, b, c, d, e] neg
theorem pyS_ref {S : Sto} {o : Nat} {X : List Int} (h : S[o]? = some (.lst (X.map .int))) : pyS S 8 (.ref o) = some (.list (X.map .int)) := by
  show (lookS S o).bind _ = _
  unfold lookS
  rw [h]
  show (pysG (pyS S 7) (X.map W.int)).map _ = _
  rw [pys_int]
  rfl
theorem pyS_lst {S : Sto} (X : List Int) : pyS S 8 (.list (X.map .int)) = some (.list (X.map .int)) := by
  show (pysG (pyS S 7) (X.map W.int)).map _ = _
  rw [pys_int]
  rfl
theorem eqS_rr {S : Sto} {o u : Nat} {X : List Int} (neg : Bool) (h1 : S[o]? = some (.lst (X.map .int))) (h2 : S[u]? = some (.lst (X.map .int))) : cEqS neg (.ref o) (.ref u) S = some (!neg) := eqS_lst neg rfl (pyS_ref h1) (pyS_ref h2)
theorem eqS_lr {S : Sto} {u : Nat} {X : List Int} (neg : Bool) (h2 : S[u]? = some (.lst (X.map .int))) : cEqS neg (.list (X.map .int)) (.ref u) S = some (!neg) := eqS_lst neg rfl (pyS_lst X) (pyS_ref h2)
theorem whole_i (i : Int) : p__law_whole [.int i] = some (.bool true) := by simp only [p__law_whole, bodyD, outD, startD, dsNext, dsSeq, dsIf, dsRet, dsRetN, dsAsg, dsOwn, dsFrz, frz, dsFor, dsAppend, dsSetI, ownAt, dVar, dPk, dC, dOp, dCmp, dB, dTru, dNot, dNotV, dAndV, dOrV, dAnd, dOr, dCall, dCons, dNil, dTup, dLst, dOwn, dComp, dC1, dSeqOf, dgName, dgTup, dgCons, dgNil, dSlL, dPart, dNoPart, dEnum, dZip, dListOf, dAddL, liftD, slAt, dYes, dIf, gAdd_i, gSub_i, gDiv_n, gMod_n, gNeg_i, asB_b, asI_i, listD_l, seqD_l, seqD_t, gLen_l, gLen_t, gIx_l, gIx_t, cEq_i, cEq_s, cEq_b, cNe_i, cNe_s, cLt_i, cLe_i, cGt_i, cGe_i, cNotN_i, cNotN_n, cNotN_s, cNotN_l, cNotN_t, cIsN_i, cIsN_n, cIsN_s, cIsN_l, cIsN_t, isi_int, isi_bool, isi_str, List.length_cons, List.length_nil, List.map_cons, List.map_nil, List.replicate, List.nil_append, List.cons_append, List.getElem?_cons_zero, List.getElem?_cons_succ, List.set_cons_zero, List.set_cons_succ, Option.bind_some, Option.map_some, Option.bind_none, Option.map_none, Option.getD_some, Option.getD_none, Nat.reduceAdd, Nat.reduceSub, if_true, reduceIte, Nat.reduceEqDiff, decide_true, decide_false, Bool.not_true, Bool.not_false, Bool.false_eq_true, ne_eq, not_false_eq_true]
theorem dComp0 (f : DS → Option W) (x : W) (l : List W) : dCompGo (dgName 0) dYes f [.no] (x :: l) = (f [.val x]).bind fun e => (dCompGo (dgName 0) dYes f [.no] l).map (e :: ·) := rfl
theorem lst_tup (S : Sto) (es : List W) : lstAt (.tuple es) S = none := rfl
theorem whole_loop : ∀ (X : List Int), dCompGo (dgName 0) dYes (dCall p__law_whole (dCons (dVar 0) dNil)) [.no] (X.map .int) = some ((X.map fun _ => true).map .bool)
  | [] => rfl
  | x :: X => by
    have ih := whole_loop X
    have e : dCall p__law_whole (dCons (dVar 0) dNil) [.val (.int x)] = some (.bool true) := by simp only [bodyD, outD, startD, dsNext, dsSeq, dsIf, dsRet, dsRetN, dsAsg, dsOwn, dsFrz, frz, dsFor, dsAppend, dsSetI, ownAt, dVar, dPk, dC, dOp, dCmp, dB, dTru, dNot, dNotV, dAndV, dOrV, dAnd, dOr, dCall, dCons, dNil, dTup, dLst, dOwn, dComp, dC1, dSeqOf, dgName, dgTup, dgCons, dgNil, dSlL, dPart, dNoPart, dEnum, dZip, dListOf, dAddL, liftD, slAt, dYes, dIf, gAdd_i, gSub_i, gDiv_n, gMod_n, gNeg_i, asB_b, asI_i, listD_l, seqD_l, seqD_t, gLen_l, gLen_t, gIx_l, gIx_t, cEq_i, cEq_s, cEq_b, cNe_i, cNe_s, cLt_i, cLe_i, cGt_i, cGe_i, cNotN_i, cNotN_n, cNotN_s, cNotN_l, cNotN_t, cIsN_i, cIsN_n, cIsN_s, cIsN_l, cIsN_t, isi_int, isi_bool, isi_str, List.length_cons, List.length_nil, List.map_cons, List.map_nil, List.replicate, List.nil_append, List.cons_append, List.getElem?_cons_zero, List.getElem?_cons_succ, List.set_cons_zero, List.set_cons_succ, Option.bind_some, Option.map_some, Option.bind_none, Option.map_none, Option.getD_some, Option.getD_none, Nat.reduceAdd, Nat.reduceSub, if_true, reduceIte, Nat.reduceEqDiff, decide_true, decide_false, Bool.not_true, Bool.not_false, Bool.false_eq_true, ne_eq, not_false_eq_true, whole_i]
    rw [List.map_cons, List.map_cons, List.map_cons, dComp0, e, Option.bind_some, ih]
    rfl
theorem all_true (X : List Int) : (X.map fun _ => true).all id = true := by induction X with
  | nil => rfl
  | cons x X ih => rw [List.map_cons, List.all_cons, ih]; rfl
theorem isi_ref {S : Sto} {o : Nat} {es : List W} (h : S[o]? = some (.lst es)) : gIsiS "list" (.ref o) S = some (.bool true) := by simp [gIsiS, lst_at h]
theorem same_run {S : Sto} {o u : Nat} {X : List Int} (h1 : S[o]? = some (.lst (X.map .int))) (h2 : S[u]? = some (.lst (X.map .int))) (hX : X.length < 900) : p__law_same_list [.ref o, .ref u] S = some (.ok (.bool true), S) := by
  have e1 := compL_pure (h := dgName 0) (c := dYes) (fe := dCall p__law_whole (dCons (dVar 0) dNil)) (δ := [.no]) h1 1000 0 (by rw [List.length_map]; omega)
  rw [List.drop_zero, whole_loop] at e1
  have z1000 := sz 1000 (by decide)
  have q := eqS_rr false h1 h2
  simp only [p__law_same_list, bodyS, outS, ssSeq, ssIf, ssRet, ssAsg, ssExpr, ssPure, soB, sBind, sOk, sPure, sFldR, sMeth, sCall, sCallD, noX, outP, sNil, sCons, sTru, sNot, sAnd, sOr, sAndV, sOrV, sNotV, sB, sCmp, sC1, sTup, sLst, sLstS, sLen, gLenS, sIx, gIxS, sIsi, gIsiS, sEq, ssFrz, siLive, ssForL, sCompL, Option.map_eq_map, bodyD, outD, startD, dsNext, dsSeq, dsIf, dsRet, dsRetN, dsAsg, dsOwn, dsFrz, frz, dsFor, dsAppend, dsSetI, ownAt, dVar, dPk, dC, dOp, dCmp, dB, dTru, dNot, dNotV, dAndV, dOrV, dAnd, dOr, dCall, dCons, dNil, dTup, dLst, dOwn, dComp, dC1, dSeqOf, dgName, dgTup, dgCons, dgNil, dSlL, dPart, dNoPart, dEnum, dZip, dListOf, dAddL, liftD, slAt, dYes, dIf, gAdd_i, gSub_i, gDiv_n, gMod_n, gNeg_i, asB_b, asI_i, listD_l, seqD_l, seqD_t, gLen_l, gLen_t, gIx_l, gIx_t, cEq_i, cEq_s, cEq_b, cNe_i, cNe_s, cLt_i, cLe_i, cGt_i, cGe_i, cNotN_i, cNotN_n, cNotN_s, cNotN_l, cNotN_t, cIsN_i, cIsN_n, cIsN_s, cIsN_l, cIsN_t, isi_int, isi_bool, isi_str, List.length_cons, List.length_nil, List.map_cons, List.map_nil, List.replicate, List.nil_append, List.cons_append, List.getElem?_cons_zero, List.getElem?_cons_succ, List.set_cons_zero, List.set_cons_succ, Option.bind_some, Option.map_some, Option.bind_none, Option.map_none, Option.getD_some, Option.getD_none, Nat.reduceAdd, Nat.reduceSub, if_true, reduceIte, Nat.reduceEqDiff, decide_true, decide_false, Bool.not_true, Bool.not_false, Bool.false_eq_true, ne_eq, not_false_eq_true, isi_ref h1, lst_at h1, e1, if_pos z1000, gAll_map, all_true, q]
theorem firstC_kind (d : Dd) (ts : List Dd) : firstC d ts = .none ∨ ∃ L ln O q, firstC d ts = .tuple [.int d.place, .int L, .int ln, .int O, .int q] := by
  unfold firstC
  cases ts.find? (hit d) with
  | none => exact .inl rfl
  | some x =>
    refine .inr ?_
    show ∃ L ln O q, clashT d x = _
    unfold clashT
    split
    · exact ⟨_, _, _, _, rfl⟩
    · exact ⟨_, _, _, _, rfl⟩
def tlT : DS → Sto → SO := (ssSeq (ssIf (sEq true (sFldR "Shared" "clash" (sPure (dVar 0))) (sPure (dVar 9)))
      (ssPure (dsRet (dC (.str (Str.ofString "wrong")))))
      (ssPure dsNext))
    (ssSeq (ssPure (dsIf (dCmp cIsN (dPk 9) (dC .none))
      (dsRet (dC (.str (Str.ofString "well"))))
      dsNext))
    (ssSeq (ssIf (sOr (sNot (sTru (sIsi "tuple" (sFldR "Shared" "clash" (sPure (dVar 0)))))) (sNot (sTru (sC1 gAll (sComp [none] (siSeq (sFldR "Shared" "clash" (sPure (dVar 0)))) (dgName 0) (sPure dYes) (sPure (dCall p__law_whole (dCons (dVar 0) dNil))))))))
      (ssPure (dsRet (dC (.str (Str.ofString "wrong")))))
      (ssPure dsNext))
    (ssPure (dsRet (dC (.str (Str.ofString "clash"))))))))
theorem tl_none {S : Sto} {I b dd : Nat} (h : S[I]? = some (.ins (Str.ofString "Shared") (shF b dd .none))) (s1 s2 s3 s4 s5 s6 s7 s8 s10 : Sl) : tlT [.val (.ref I), s1, s2, s3, s4, s5, s6, s7, s8, .val .none, s10] S = some (.rt (.str (Str.ofString "well")), S) := by
  have q : cEqS true .none .none S = some false := rfl
  simp only [tlT, bodyS, outS, ssSeq, ssIf, ssRet, ssAsg, ssExpr, ssPure, soB, sBind, sOk, sPure, sFldR, sMeth, sCall, sCallD, noX, outP, sNil, sCons, sTru, sNot, sAnd, sOr, sAndV, sOrV, sNotV, sB, sCmp, sC1, sTup, sLst, sLstS, sLen, gLenS, sIx, gIxS, sIsi, gIsiS, sEq, ssFrz, siLive, ssForL, sCompL, Option.map_eq_map, bodyD, outD, startD, dsNext, dsSeq, dsIf, dsRet, dsRetN, dsAsg, dsOwn, dsFrz, frz, dsFor, dsAppend, dsSetI, ownAt, dVar, dPk, dC, dOp, dCmp, dB, dTru, dNot, dNotV, dAndV, dOrV, dAnd, dOr, dCall, dCons, dNil, dTup, dLst, dOwn, dComp, dC1, dSeqOf, dgName, dgTup, dgCons, dgNil, dSlL, dPart, dNoPart, dEnum, dZip, dListOf, dAddL, liftD, slAt, dYes, dIf, gAdd_i, gSub_i, gDiv_n, gMod_n, gNeg_i, asB_b, asI_i, listD_l, seqD_l, seqD_t, gLen_l, gLen_t, gIx_l, gIx_t, cEq_i, cEq_s, cEq_b, cNe_i, cNe_s, cLt_i, cLe_i, cGt_i, cGe_i, cNotN_i, cNotN_n, cNotN_s, cNotN_l, cNotN_t, cIsN_i, cIsN_n, cIsN_s, cIsN_l, cIsN_t, isi_int, isi_bool, isi_str, List.length_cons, List.length_nil, List.map_cons, List.map_nil, List.replicate, List.nil_append, List.cons_append, List.getElem?_cons_zero, List.getElem?_cons_succ, List.set_cons_zero, List.set_cons_succ, Option.bind_some, Option.map_some, Option.bind_none, Option.map_none, Option.getD_some, Option.getD_none, Nat.reduceAdd, Nat.reduceSub, if_true, reduceIte, Nat.reduceEqDiff, decide_true, decide_false, Bool.not_true, Bool.not_false, Bool.false_eq_true, ne_eq, not_false_eq_true, ins_at h, lk_c, q]
theorem tl_tup {S : Sto} {I b dd : Nat} {x1 x2 x3 x4 x5 : Int} (h : S[I]? = some (.ins (Str.ofString "Shared") (shF b dd (.tuple [.int x1, .int x2, .int x3, .int x4, .int x5])))) (s1 s2 s3 s4 s5 s6 s7 s8 s10 : Sl) : tlT [.val (.ref I), s1, s2, s3, s4, s5, s6, s7, s8, .val (.tuple [.int x1, .int x2, .int x3, .int x4, .int x5]), s10] S = some (.rt (.str (Str.ofString "clash")), S) := by
  have q : cEqS true (.tuple [.int x1, .int x2, .int x3, .int x4, .int x5]) (.tuple [.int x1, .int x2, .int x3, .int x4, .int x5]) S = some false := eqS_t5 _ _ _ _ _ true
  have z5 := sz 5 (by decide)
  have g : gAll (.list [.bool true, .bool true, .bool true, .bool true, .bool true]) = some (.bool true) := gAll_map [true, true, true, true, true]
  simp only [tlT, bodyS, outS, ssSeq, ssIf, ssRet, ssAsg, ssExpr, ssPure, soB, sBind, sOk, sPure, sFldR, sMeth, sCall, sCallD, noX, outP, sNil, sCons, sTru, sNot, sAnd, sOr, sAndV, sOrV, sNotV, sB, sCmp, sC1, sTup, sLst, sLstS, sLen, gLenS, sIx, gIxS, sIsi, gIsiS, sEq, ssFrz, siLive, ssForL, sCompL, Option.map_eq_map, bodyD, outD, startD, dsNext, dsSeq, dsIf, dsRet, dsRetN, dsAsg, dsOwn, dsFrz, frz, dsFor, dsAppend, dsSetI, ownAt, dVar, dPk, dC, dOp, dCmp, dB, dTru, dNot, dNotV, dAndV, dOrV, dAnd, dOr, dCall, dCons, dNil, dTup, dLst, dOwn, dComp, dC1, dSeqOf, dgName, dgTup, dgCons, dgNil, dSlL, dPart, dNoPart, dEnum, dZip, dListOf, dAddL, liftD, slAt, dYes, dIf, gAdd_i, gSub_i, gDiv_n, gMod_n, gNeg_i, asB_b, asI_i, listD_l, seqD_l, seqD_t, gLen_l, gLen_t, gIx_l, gIx_t, cEq_i, cEq_s, cEq_b, cNe_i, cNe_s, cLt_i, cLe_i, cGt_i, cGe_i, cNotN_i, cNotN_n, cNotN_s, cNotN_l, cNotN_t, cIsN_i, cIsN_n, cIsN_s, cIsN_l, cIsN_t, isi_int, isi_bool, isi_str, List.length_cons, List.length_nil, List.map_cons, List.map_nil, List.replicate, List.nil_append, List.cons_append, List.getElem?_cons_zero, List.getElem?_cons_succ, List.set_cons_zero, List.set_cons_succ, Option.bind_some, Option.map_some, Option.bind_none, Option.map_none, Option.getD_some, Option.getD_none, Nat.reduceAdd, Nat.reduceSub, if_true, reduceIte, Nat.reduceEqDiff, decide_true, decide_false, Bool.not_true, Bool.not_false, Bool.false_eq_true, ne_eq, not_false_eq_true, ins_at h, lk_c, q, lst_tup, sComp, siSeq, if_pos z5, sCompGo, whole_i, g]
theorem cl2_n (x : W) : cl2 .none x = x := rfl
theorem cl2_t (l : List W) (x : W) : cl2 (.tuple l) x = .tuple l := rfl
def PT (w : Nat) (t : Nat) : Prop := t = w ∨ t = w + 2 ∨ t = w + 4
theorem touched_run {ρ : Nat → Rl} {S : Sto} {w I b dd n t : Nat} {B : List Int} {D : List Dd} {kvs : List (Key × W)} (r : RowOK ρ S w I b dd B D .none kvs) (hn : S[n]? = some (.lst (B.map .int))) (rn : ρ n = (w + 2, 0, 0)) (ht : S[t]? = some (.lst (D.map enc4))) (rt : ρ t = (w + 4, 0, 0)) (d : Dd) (number : Int) (hD : D.length < 800) (h0 : 0 ≤ d.place) (h1 : d.place < B.length) :
    ∃ S' ρ' kvs' B', p__law_touched [.ref I, .ref n, .ref t, enc4 d, .int number] S = some (.ok (.str (if isN (firstC d (D.filter (here d))) = true then Str.ofString "well" else Str.ofString "clash")), S') ∧ RowOK ρ' S' w I b dd B' (D ++ [d]) (firstC d (D.filter (here d))) kvs' ∧ Fr (PT w) ρ S ρ' S' ∧ B'.length = B.length ∧ S'[n]? = some (.lst (B'.map .int)) ∧ S'[t]? = some (.lst ((D ++ [d]).map enc4)) := by
  have hu : dgSeq 4 (dgCons (dgName 5) (dgCons (dgName 6) (dgCons (dgName 7) (dgCons (dgName 8) dgNil)))) (enc4 d) [.val (.ref I), .val (.ref n), .val (.ref t), .val (enc4 d), .val (.int number), .no, .no, .no, .no, .no, .no] = some [.val (.ref I), .val (.ref n), .val (.ref t), .val (enc4 d), .val (.int number), .val (.str (wd d.put)), .val (.int d.lane), .val (.int d.place), .val (.int d.line), .no, .no] := rfl
  have e1 := lc_run d ht (by omega)
  have hsz : (D.map enc4).length < sizeLine := by rw [List.length_map]; exact Nat.lt_of_lt_of_le (by omega) (sz 1000 (by decide))
  have f1 := Fr.set (ρ := ρ) S t (.lst (D.map enc4 ++ [enc4 d]))
  rw [rt] at f1
  have r1 := r.fr f1 (by show ¬ w = w + 4; omega)
  have hn1 := f1.get hn (by rw [rn]; show ¬ w + 2 = w + 4; omega)
  have ht1 : (S.set t (.lst (D.map enc4 ++ [enc4 d])))[t]? = some (.lst ((D ++ [d]).map enc4)) := by rw [List.getElem?_set_self (lt_of ht)]; simp
  have f1' : Fr (PT w) ρ S ρ (S.set t (.lst (D.map enc4 ++ [enc4 d]))) := f1.mono fun t h => .inr (.inr h)
  have hb : p__law_touched = bodyS 5 11 (ssSeq (ssAsg (sPure (dVar 3)) (dgSeq 4 (dgCons (dgName 5) (dgCons (dgName 6) (dgCons (dgName 7) (dgCons (dgName 8) dgNil))))))
    (ssSeq (ssAsg (sCall p__law_clash (sPure (dCons (dVar 2) (dCons (dVar 3) dNil)))) (dgName 9))
    (ssSeq (ssAppend (sPure (dVar 2)) (sPure (dVar 3)))
    (ssSeq (ssIf (sPure (dCmp cEq (dPk 5) (dC (.str (Str.ofString "put")))))
      (ssSeq (ssExpr (sMeth "Shared" "laid" p_Shared_laid (sPure (dVar 0)) (sPure (dCons (dVar 6) (dCons (dVar 7) (dCons (dVar 8) (dCons (dVar 4) dNil)))))))
    (ssSetI (sPure (dVar 1)) (sPure (dVar 7)) (sPure (dVar 4))))
      (ssSeq (ssAsg (sMeth "Shared" "taken" p_Shared_taken (sPure (dVar 0)) (sPure (dCons (dVar 6) (dCons (dVar 7) (dCons (dVar 8) dNil))))) (dgName 10))
    (ssIf (sAnd (sPure (dCmp cIsN (dPk 9) (dC .none))) (sOr (sPure (dNot (dTru (dCall p__law_whole (dCons (dVar 10) dNil))))) (sEq true (sPure (dVar 10)) (sIx (sPure (dVar 1)) (sPure (dVar 7))))))
      (ssPure (dsRet (dC (.str (Str.ofString "wrong")))))
      (ssPure dsNext)))) tlT)))) := rfl
  have tail : ∀ (S2 : Sto) (b2 dd2 : Nat) (s10 : Sl), S2[I]? = some (.ins (Str.ofString "Shared") (shF b2 dd2 (firstC d (D.filter (here d))))) → tlT [.val (.ref I), .val (.ref n), .val (.ref t), .val (enc4 d), .val (.int number), .val (.str (wd d.put)), .val (.int d.lane), .val (.int d.place), .val (.int d.line), .val (firstC d (D.filter (here d))), s10] S2 = some (.rt (.str (if isN (firstC d (D.filter (here d))) = true then Str.ofString "well" else Str.ofString "clash")), S2) := fun S2 b2 dd2 s10 h => by
    rcases firstC_kind d (D.filter (here d)) with e | ⟨L, ln, O, q, e⟩
    · rw [e] at h ⊢
      exact tl_none h _ _ _ _ _ _ _ _ _
    · rw [e] at h ⊢
      exact tl_tup h _ _ _ _ _ _ _ _ _
  have hwp := wd_put d.put
  cases hp : d.put with
  | true =>
    obtain ⟨S2, ρ2, kvs2, e2, r2, f2⟩ := row_laid r1 d.lane d.place d.line number hD h0 h1
    have f2' : Fr (PT w) ρ (S.set t (.lst (D.map enc4 ++ [enc4 d]))) ρ2 S2 := f2.mono fun t h => .inl h
    have hd : (⟨true, d.lane, d.place, d.line⟩ : Dd) = d := by cases d; cases hp; rfl
    rw [hd, cl2_n] at r2
    have hn2 := f2.get hn1 (by rw [rn]; show ¬ w + 2 = w; omega)
    have rn2 : ρ2 n = (w + 2, 0, 0) := f2.role hn1 rn
    have ht2 := f2.get ht1 (by rw [rt]; show ¬ w + 4 = w; omega)
    have rt2 : ρ2 t = (w + 4, 0, 0) := f2.role ht1 rt
    have f3 := Fr.set (ρ := ρ2) S2 n (.lst ((B.set d.place.toNat number).map .int))
    rw [rn2] at f3
    have f3' : Fr (PT w) ρ2 S2 ρ2 (S2.set n (.lst ((B.set d.place.toNat number).map .int))) := f3.mono fun t h => .inr (.inl h)
    have r3 := r2.fr f3 (by show ¬ w = w + 2; omega)
    refine ⟨S2.set n (.lst ((B.set d.place.toNat number).map .int)), ρ2, kvs2, B.set d.place.toNat number, ?_, r3, (f1'.trans f2').trans f3', by simp, List.getElem?_set_self (lt_of hn2), f3.get ht2 (by rw [rt2]; show ¬ w + 4 = w + 2; omega)⟩
    have a0 : ixN (B.map W.int).length d.place = some d.place.toNat := ixN_in h0 (by simpa using h1)
    rw [hp] at hwp
    have tl := tail _ _ _ .no r3.fi
    rw [hp] at tl hu
    rw [hb]
    simp only [bodyS, outS, ssSeq, ssIf, ssRet, ssAsg, ssExpr, ssPure, soB, sBind, sOk, sPure, sFldR, sMeth, sCall, sCallD, noX, outP, sNil, sCons, sTru, sNot, sAnd, sOr, sAndV, sOrV, sNotV, sB, sCmp, sC1, sTup, sLst, sLstS, sLen, gLenS, sIx, gIxS, sIsi, gIsiS, sEq, ssFrz, siLive, ssForL, sCompL, Option.map_eq_map, bodyD, outD, startD, dsNext, dsSeq, dsIf, dsRet, dsRetN, dsAsg, dsOwn, dsFrz, frz, dsFor, dsAppend, dsSetI, ownAt, dVar, dPk, dC, dOp, dCmp, dB, dTru, dNot, dNotV, dAndV, dOrV, dAnd, dOr, dCall, dCons, dNil, dTup, dLst, dOwn, dComp, dC1, dSeqOf, dgName, dgTup, dgCons, dgNil, dSlL, dPart, dNoPart, dEnum, dZip, dListOf, dAddL, liftD, slAt, dYes, dIf, gAdd_i, gSub_i, gDiv_n, gMod_n, gNeg_i, asB_b, asI_i, listD_l, seqD_l, seqD_t, gLen_l, gLen_t, gIx_l, gIx_t, cEq_i, cEq_s, cEq_b, cNe_i, cNe_s, cLt_i, cLe_i, cGt_i, cGe_i, cNotN_i, cNotN_n, cNotN_s, cNotN_l, cNotN_t, cIsN_i, cIsN_n, cIsN_s, cIsN_l, cIsN_t, isi_int, isi_bool, isi_str, List.length_cons, List.length_nil, List.map_cons, List.map_nil, List.replicate, List.nil_append, List.cons_append, List.getElem?_cons_zero, List.getElem?_cons_succ, List.set_cons_zero, List.set_cons_succ, Option.bind_some, Option.map_some, Option.bind_none, Option.map_none, Option.getD_some, Option.getD_none, Nat.reduceAdd, Nat.reduceSub, if_true, reduceIte, Nat.reduceEqDiff, decide_true, decide_false, Bool.not_true, Bool.not_false, Bool.false_eq_true, ne_eq, not_false_eq_true, hu, e1, ssAppend, lst_at ht, Option.isSome_some, if_pos hsz, hwp, ins_at r1.fi, lk_no _ _ _ meth_ne2, e2, ssSetI, lst_at hn2, a0]
    rw [List.map_set] at tl
    rw [tl]
    rw [List.map_set]
  | false =>
    obtain ⟨S2, ρ2, kvs2, e2, r2, f2⟩ := row_taken r1 d.lane d.place d.line hD h0 h1
    have f2' : Fr (PT w) ρ (S.set t (.lst (D.map enc4 ++ [enc4 d]))) ρ2 S2 := f2.mono fun t h => .inl h
    have hd : (⟨false, d.lane, d.place, d.line⟩ : Dd) = d := by cases d; cases hp; rfl
    rw [hd, cl2_n] at r2
    have hn2 := f2.get hn1 (by rw [rn]; show ¬ w + 2 = w; omega)
    have ht2 := f2.get ht1 (by rw [rt]; show ¬ w + 4 = w; omega)
    refine ⟨S2, ρ2, kvs2, B, ?_, r2, f1'.trans f2', rfl, hn2, ht2⟩
    have a0 := at_map B d.place h0 h1
    rw [hp] at hwp
    have tl := tail _ _ _ (.val (.int (B[d.place.toNat]?.getD 0))) r2.fi
    have q : ∀ (x : Int), cEqS true (.int x) (.int x) S2 = some false := fun x => by simp [cEqS, scD]
    rw [hp] at tl hu
    rw [hb]
    rcases firstC_kind d (D.filter (here d)) with e | ⟨L, ln, O, qq, e⟩
    · rw [e] at tl e1 ⊢
      simp only [bodyS, outS, ssSeq, ssIf, ssRet, ssAsg, ssExpr, ssPure, soB, sBind, sOk, sPure, sFldR, sMeth, sCall, sCallD, noX, outP, sNil, sCons, sTru, sNot, sAnd, sOr, sAndV, sOrV, sNotV, sB, sCmp, sC1, sTup, sLst, sLstS, sLen, gLenS, sIx, gIxS, sIsi, gIsiS, sEq, ssFrz, siLive, ssForL, sCompL, Option.map_eq_map, bodyD, outD, startD, dsNext, dsSeq, dsIf, dsRet, dsRetN, dsAsg, dsOwn, dsFrz, frz, dsFor, dsAppend, dsSetI, ownAt, dVar, dPk, dC, dOp, dCmp, dB, dTru, dNot, dNotV, dAndV, dOrV, dAnd, dOr, dCall, dCons, dNil, dTup, dLst, dOwn, dComp, dC1, dSeqOf, dgName, dgTup, dgCons, dgNil, dSlL, dPart, dNoPart, dEnum, dZip, dListOf, dAddL, liftD, slAt, dYes, dIf, gAdd_i, gSub_i, gDiv_n, gMod_n, gNeg_i, asB_b, asI_i, listD_l, seqD_l, seqD_t, gLen_l, gLen_t, gIx_l, gIx_t, cEq_i, cEq_s, cEq_b, cNe_i, cNe_s, cLt_i, cLe_i, cGt_i, cGe_i, cNotN_i, cNotN_n, cNotN_s, cNotN_l, cNotN_t, cIsN_i, cIsN_n, cIsN_s, cIsN_l, cIsN_t, isi_int, isi_bool, isi_str, List.length_cons, List.length_nil, List.map_cons, List.map_nil, List.replicate, List.nil_append, List.cons_append, List.getElem?_cons_zero, List.getElem?_cons_succ, List.set_cons_zero, List.set_cons_succ, Option.bind_some, Option.map_some, Option.bind_none, Option.map_none, Option.getD_some, Option.getD_none, Nat.reduceAdd, Nat.reduceSub, if_true, reduceIte, Nat.reduceEqDiff, decide_true, decide_false, Bool.not_true, Bool.not_false, Bool.false_eq_true, ne_eq, not_false_eq_true, hu, e1, ssAppend, lst_at ht, Option.isSome_some, if_pos hsz, hwp, ins_at r1.fi, lk_no _ _ _ meth_ne3, e2, whole_i, lst_at hn2, a0, q, tl]
    · rw [e] at tl e1 ⊢
      simp only [bodyS, outS, ssSeq, ssIf, ssRet, ssAsg, ssExpr, ssPure, soB, sBind, sOk, sPure, sFldR, sMeth, sCall, sCallD, noX, outP, sNil, sCons, sTru, sNot, sAnd, sOr, sAndV, sOrV, sNotV, sB, sCmp, sC1, sTup, sLst, sLstS, sLen, gLenS, sIx, gIxS, sIsi, gIsiS, sEq, ssFrz, siLive, ssForL, sCompL, Option.map_eq_map, bodyD, outD, startD, dsNext, dsSeq, dsIf, dsRet, dsRetN, dsAsg, dsOwn, dsFrz, frz, dsFor, dsAppend, dsSetI, ownAt, dVar, dPk, dC, dOp, dCmp, dB, dTru, dNot, dNotV, dAndV, dOrV, dAnd, dOr, dCall, dCons, dNil, dTup, dLst, dOwn, dComp, dC1, dSeqOf, dgName, dgTup, dgCons, dgNil, dSlL, dPart, dNoPart, dEnum, dZip, dListOf, dAddL, liftD, slAt, dYes, dIf, gAdd_i, gSub_i, gDiv_n, gMod_n, gNeg_i, asB_b, asI_i, listD_l, seqD_l, seqD_t, gLen_l, gLen_t, gIx_l, gIx_t, cEq_i, cEq_s, cEq_b, cNe_i, cNe_s, cLt_i, cLe_i, cGt_i, cGe_i, cNotN_i, cNotN_n, cNotN_s, cNotN_l, cNotN_t, cIsN_i, cIsN_n, cIsN_s, cIsN_l, cIsN_t, isi_int, isi_bool, isi_str, List.length_cons, List.length_nil, List.map_cons, List.map_nil, List.replicate, List.nil_append, List.cons_append, List.getElem?_cons_zero, List.getElem?_cons_succ, List.set_cons_zero, List.set_cons_succ, Option.bind_some, Option.map_some, Option.bind_none, Option.map_none, Option.getD_some, Option.getD_none, Nat.reduceAdd, Nat.reduceSub, if_true, reduceIte, Nat.reduceEqDiff, decide_true, decide_false, Bool.not_true, Bool.not_false, Bool.false_eq_true, ne_eq, not_false_eq_true, hu, e1, ssAppend, lst_at ht, Option.isSome_some, if_pos hsz, hwp, ins_at r1.fi, lk_no _ _ _ meth_ne3, e2, tl]
theorem stays_run {ρ : Nat → Rl} {S : Sto} {w I b dd : Nat} {B : List Int} {D : List Dd} {kvs : List (Key × W)} {P L ln O q : Int} (r : RowOK ρ S w I b dd B D (.tuple [.int P, .int L, .int ln, .int O, .int q]) kvs) (h0 : 0 ≤ P) (h1 : P < B.length) :
    ∃ S' ρ', p__law_stays [.ref I] S = some (.ok (.bool true), S') ∧ Fr (· = w) ρ S ρ' S' := by
  obtain ⟨S1, ρ1, dd1, k, e1, r1, f1, _, _⟩ := row_met r
  obtain ⟨S2, ρ2, kvs2, e2, r2, f2⟩ := row_laid r1 ((L + 3).fmod 8) P (q + 1) 5 (by decide) h0 h1
  rw [cl2_t] at r2
  obtain ⟨S3, ρ3, kvs3, e3, r3, f3⟩ := row_taken r2 O P (ln + 1) (by simp) h0 (by simpa using h1)
  rw [cl2_t] at r3
  obtain ⟨S4, ρ4, kvs4, e4, r4, f4⟩ := row_laid r3 L 0 ln 5 (by simp) (by omega) (by simp; omega)
  rw [cl2_t] at r4
  have z5 := sz 5 (by decide)
  have qq := fun (S : Sto) => eqS_t5 (S := S) P L ln O q false
  refine ⟨S4, ρ4, ?_, ((f1.trans f2).trans f3).trans f4⟩
  simp (config := {decide := true}) only [p__law_stays, bodyS, outS, ssSeq, ssIf, ssRet, ssAsg, ssExpr, ssPure, soB, sBind, sOk, sPure, sFldR, sMeth, sCall, sCallD, noX, outP, sNil, sCons, sTru, sNot, sAnd, sOr, sAndV, sOrV, sNotV, sB, sCmp, sC1, sTup, sLst, sLstS, sLen, gLenS, sIx, gIxS, sIsi, gIsiS, sEq, ssFrz, siLive, ssForL, sCompL, Option.map_eq_map, bodyD, outD, startD, dsNext, dsSeq, dsIf, dsRet, dsRetN, dsAsg, dsOwn, dsFrz, frz, dsFor, dsAppend, dsSetI, ownAt, dVar, dPk, dC, dOp, dCmp, dB, dTru, dNot, dNotV, dAndV, dOrV, dAnd, dOr, dCall, dCons, dNil, dTup, dLst, dOwn, dComp, dC1, dSeqOf, dgName, dgTup, dgCons, dgNil, dSlL, dPart, dNoPart, dEnum, dZip, dListOf, dAddL, liftD, slAt, dYes, dIf, gAdd_i, gSub_i, gDiv_n, gMod_n, gNeg_i, asB_b, asI_i, listD_l, seqD_l, seqD_t, gLen_l, gLen_t, gIx_l, gIx_t, cEq_i, cEq_s, cEq_b, cNe_i, cNe_s, cLt_i, cLe_i, cGt_i, cGe_i, cNotN_i, cNotN_n, cNotN_s, cNotN_l, cNotN_t, cIsN_i, cIsN_n, cIsN_s, cIsN_l, cIsN_t, isi_int, isi_bool, isi_str, List.length_cons, List.length_nil, List.map_cons, List.map_nil, List.replicate, List.nil_append, List.cons_append, List.getElem?_cons_zero, List.getElem?_cons_succ, List.set_cons_zero, List.set_cons_succ, Option.bind_some, Option.map_some, Option.bind_none, Option.map_none, Option.getD_some, Option.getD_none, Nat.reduceAdd, Nat.reduceSub, if_true, reduceIte, Nat.reduceEqDiff, decide_true, decide_false, Bool.not_true, Bool.not_false, Bool.false_eq_true, ne_eq, not_false_eq_true, ins_at r.fi, lk_c, lk_no _ _ _ meth_ne4, lk_no _ _ _ meth_ne2, lk_no _ _ _ meth_ne3, e1, ins_at r1.fi, e2, ins_at r2.fi, e3, ins_at r3.fi, e4, ins_at r4.fi, sEq3, qq, if_pos z5]
def encP (p : Nat × Nat) : W := .list [.ref p.1, .ref p.2]
structure TOLD (ρ : Nat → Rl) (S : Sto) (tld room : Nat) (told : List (Nat × Nat)) : Prop where
  ft : S[tld]? = some (.lst (told.map encP))
  rt : ρ tld = (7, 0, 0)
  el : ∀ p ∈ told, ∃ X : List Int, X.length = room ∧ S[p.1]? = some (.lst (X.map .int)) ∧ S[p.2]? = some (.lst (X.map .int)) ∧ ρ p.1 = (8, 0, 0) ∧ ρ p.2 = (8, 0, 0)
theorem TOLD.fr {P : Nat → Prop} {ρ ρ' : Nat → Rl} {S S' : Sto} {tld room : Nat} {told : List (Nat × Nat)} (T : TOLD ρ S tld room told) (f : Fr P ρ S ρ' S') (h7 : ¬ P 7) (h8 : ¬ P 8) : TOLD ρ' S' tld room told :=
  ⟨f.get T.ft (by rw [T.rt]; exact h7), f.role T.ft T.rt, fun p hp => by
    obtain ⟨X, a1, a2, a3, a4, a5⟩ := T.el p hp
    exact ⟨X, a1, f.get a2 (by rw [a4]; exact h8), f.get a3 (by rw [a5]; exact h8), f.role a2 a4, f.role a3 a5⟩⟩
theorem told_met {ρ : Nat → Rl} {S : Sto} {w I b dd n tld room : Nat} {B : List Int} {D : List Dd} {c : W} {kvs : List (Key × W)} {told : List (Nat × Nat)} (r : RowOK ρ S w I b dd B D c kvs) (hw : w < 2) (hn : S[n]? = some (.lst (B.map .int))) (rn : ρ n = (w + 2, 0, 0)) (hB : B.length = room) (T : TOLD ρ S tld room told) (hT : told.length < 900) (δ : DS) (ft fo fn : DS → Option W) (h1 : ft δ = some (.ref tld)) (h2 : fo δ = some (.ref I)) (h3 : fn δ = some (.ref n)) :
    ∃ S' ρ' dd' told', ssAppend (sPure ft) (sLst (sCons (sMeth "Shared" "met" p_Shared_met (sPure fo) (sPure dNil)) (sCons (sListS (sPure fn)) sNil))) δ S = some (.nx δ, S') ∧ RowOK ρ' S' w I b dd' B [] c [] ∧ Fr (fun t => t = w ∨ t = 7) ρ S ρ' S' ∧ TOLD ρ' S' tld room told' ∧ told'.length = told.length + 1 := by
  obtain ⟨S1, ρ1, dd', k, e1, r1, f1, hk, rk⟩ := row_met r
  have hn1 := f1.get hn (by rw [rn]; show ¬ w + 2 = w; omega)
  have rn1 := f1.role hn rn
  have f2 := Fr.push (P := fun t => t = w) (ρ := ρ1) S1 (.lst (B.map .int)) (8, 0, 0)
  have T2 := T.fr (f1.trans f2) (by show ¬ 7 = w; omega) (by show ¬ 8 = w; omega)
  have r2 := r1.fr (Fr.push (P := fun _ => False) (ρ := ρ1) S1 (.lst (B.map .int)) (8, 0, 0)) (fun h => h)
  have hk2 := get_app (x := .lst (B.map .int)) hk
  have rk2 := f2.role hk rk
  have hg := push_get S1 (.lst (B.map .int))
  have rg := push_role ρ1 S1.length (8, 0, 0)
  generalize hS2 : S1 ++ [Ob.lst (B.map .int)] = S2 at *
  generalize hρ2 : pushR ρ1 S1.length (8, 0, 0) = ρ2 at *
  have f3 := Fr.set (ρ := ρ2) S2 tld (.lst ((told ++ [(k, S1.length)]).map encP))
  rw [T2.rt] at f3
  have hs : (told.map encP).length < sizeLine := by rw [List.length_map]; exact Nat.lt_of_lt_of_le (by omega) (sz 1000 (by decide))
  have z2 := sz 2 (by decide)
  refine ⟨S2.set tld (.lst ((told ++ [(k, S1.length)]).map encP)), ρ2, dd', told ++ [(k, S1.length)], ?_, r2.fr f3 (by show ¬ w = 7; omega), ((f1.trans f2).mono fun t h => .inl h).trans (f3.mono fun t h => .inr h), ⟨List.getElem?_set_self (lt_of T2.ft), T2.rt, fun p hp => ?_⟩, by simp⟩
  · simp only [bodyS, outS, ssSeq, ssIf, ssRet, ssAsg, ssExpr, ssPure, soB, sBind, sOk, sPure, sFldR, sMeth, sCall, sCallD, noX, outP, sNil, sCons, sTru, sNot, sAnd, sOr, sAndV, sOrV, sNotV, sB, sCmp, sC1, sTup, sLst, sLstS, sLen, gLenS, sIx, gIxS, sIsi, gIsiS, sEq, ssFrz, siLive, ssForL, sCompL, Option.map_eq_map, bodyD, outD, startD, dsNext, dsSeq, dsIf, dsRet, dsRetN, dsAsg, dsOwn, dsFrz, frz, dsFor, dsAppend, dsSetI, ownAt, dVar, dPk, dC, dOp, dCmp, dB, dTru, dNot, dNotV, dAndV, dOrV, dAnd, dOr, dCall, dCons, dNil, dTup, dLst, dOwn, dComp, dC1, dSeqOf, dgName, dgTup, dgCons, dgNil, dSlL, dPart, dNoPart, dEnum, dZip, dListOf, dAddL, liftD, slAt, dYes, dIf, gAdd_i, gSub_i, gDiv_n, gMod_n, gNeg_i, asB_b, asI_i, listD_l, seqD_l, seqD_t, gLen_l, gLen_t, gIx_l, gIx_t, cEq_i, cEq_s, cEq_b, cNe_i, cNe_s, cLt_i, cLe_i, cGt_i, cGe_i, cNotN_i, cNotN_n, cNotN_s, cNotN_l, cNotN_t, cIsN_i, cIsN_n, cIsN_s, cIsN_l, cIsN_t, isi_int, isi_bool, isi_str, List.length_cons, List.length_nil, List.map_cons, List.map_nil, List.replicate, List.nil_append, List.cons_append, List.getElem?_cons_zero, List.getElem?_cons_succ, List.set_cons_zero, List.set_cons_succ, Option.bind_some, Option.map_some, Option.bind_none, Option.map_none, Option.getD_some, Option.getD_none, Nat.reduceAdd, Nat.reduceSub, if_true, reduceIte, Nat.reduceEqDiff, decide_true, decide_false, Bool.not_true, Bool.not_false, Bool.false_eq_true, ne_eq, not_false_eq_true, ssAppend, h1, h2, h3, lst_at T.ft, Option.isSome_some, ins_at r.fi, lk_no _ _ _ meth_ne4, e1, sListS, seqS, lst_at hn1, hS2, if_pos z2, lst_at T2.ft, if_pos hs]
    rw [List.map_append]
    rfl
  · rcases List.mem_append.mp hp with h | h
    · obtain ⟨X, a1, a2, a3, a4, a5⟩ := T2.el p h
      exact ⟨X, a1, f3.get a2 (by rw [a4]; decide), f3.get a3 (by rw [a5]; decide), a4, a5⟩
    · cases List.mem_singleton.mp h
      exact ⟨B, hB, f3.get hk2 (by rw [rk2]; decide), f3.get hg (by rw [rg]; decide), rk2, rg⟩
theorem same_loop {ρ : Nat → Rl} {S : Sto} {tld room : Nat} {told : List (Nat × Nat)} (T : TOLD ρ S tld room told) (hr : room < 900) : ∀ (m i : Nat), told.length - i < m → sCompLGo tld (dgSeq 2 (dgCons (dgName 0) (dgCons (dgName 1) dgNil))) (sPure dYes) (sCall p__law_same_list (sPure (dCons (dVar 0) (dCons (dVar 1) dNil)))) [.no, .no] m i S = some (.ok ((List.replicate (told.length - i) true).map .bool), S)
  | 0, i, hm => by omega
  | m + 1, i, hm => by
    have hl : lookS S tld = some (told.map encP) := by unfold lookS; rw [T.ft]
    show (lookS S tld).bind _ = _
    rw [hl]
    show (match (told.map encP)[i]? with | none => _ | some d => _) = _
    by_cases hi : i < told.length
    · have hp : told[i] ∈ told := List.getElem_mem hi
      obtain ⟨X, a1, a2, a3, _, _⟩ := T.el _ hp
      have ih := same_loop T hr m (i + 1) (by omega)
      rw [List.getElem?_map, List.getElem?_eq_getElem hi]
      have hd : dgSeq 2 (dgCons (dgName 0) (dgCons (dgName 1) dgNil)) (encP told[i]) [.no, .no] = some [.val (.ref told[i].1), .val (.ref told[i].2)] := rfl
      show (dgSeq 2 (dgCons (dgName 0) (dgCons (dgName 1) dgNil)) (encP told[i]) [.no, .no]).bind _ = _
      rw [hd]
      have hq := same_run a2 a3 (by omega)
      simp only [bodyS, outS, ssSeq, ssIf, ssRet, ssAsg, ssExpr, ssPure, soB, sBind, sOk, sPure, sFldR, sMeth, sCall, sCallD, noX, outP, sNil, sCons, sTru, sNot, sAnd, sOr, sAndV, sOrV, sNotV, sB, sCmp, sC1, sTup, sLst, sLstS, sLen, gLenS, sIx, gIxS, sIsi, gIsiS, sEq, ssFrz, siLive, ssForL, sCompL, Option.map_eq_map, bodyD, outD, startD, dsNext, dsSeq, dsIf, dsRet, dsRetN, dsAsg, dsOwn, dsFrz, frz, dsFor, dsAppend, dsSetI, ownAt, dVar, dPk, dC, dOp, dCmp, dB, dTru, dNot, dNotV, dAndV, dOrV, dAnd, dOr, dCall, dCons, dNil, dTup, dLst, dOwn, dComp, dC1, dSeqOf, dgName, dgTup, dgCons, dgNil, dSlL, dPart, dNoPart, dEnum, dZip, dListOf, dAddL, liftD, slAt, dYes, dIf, gAdd_i, gSub_i, gDiv_n, gMod_n, gNeg_i, asB_b, asI_i, listD_l, seqD_l, seqD_t, gLen_l, gLen_t, gIx_l, gIx_t, cEq_i, cEq_s, cEq_b, cNe_i, cNe_s, cLt_i, cLe_i, cGt_i, cGe_i, cNotN_i, cNotN_n, cNotN_s, cNotN_l, cNotN_t, cIsN_i, cIsN_n, cIsN_s, cIsN_l, cIsN_t, isi_int, isi_bool, isi_str, List.length_cons, List.length_nil, List.map_cons, List.map_nil, List.replicate, List.nil_append, List.cons_append, List.getElem?_cons_zero, List.getElem?_cons_succ, List.set_cons_zero, List.set_cons_succ, Option.bind_some, Option.map_some, Option.bind_none, Option.map_none, Option.getD_some, Option.getD_none, Nat.reduceAdd, Nat.reduceSub, if_true, reduceIte, Nat.reduceEqDiff, decide_true, decide_false, Bool.not_true, Bool.not_false, Bool.false_eq_true, ne_eq, not_false_eq_true, hq, ih]
      rw [show told.length - i = (told.length - (i + 1)) + 1 by omega, List.replicate_succ]
      rfl
    · rw [List.getElem?_eq_none (by simp; omega), show told.length - i = 0 by omega]
      rfl
theorem all_rep (k : Nat) : (List.replicate k true).all id = true := by induction k with
  | zero => rfl
  | succ k ih => rw [List.replicate_succ, List.all_cons, ih]; rfl
structure TOLE (ρ : Nat → Rl) (S : Sto) (tld k : Nat) (told : List (Nat × Nat)) : Prop where
  ft : S[tld]? = some (.lst (told.map encP))
  rt : ρ tld = (7, 0, 0)
  el : ∀ p ∈ told, ∃ X : List Int, X ≠ [] ∧ X.length ≤ k ∧ S[p.1]? = some (.lst (X.map .int)) ∧ ρ p.1 = (8, 0, 0)
theorem spoil_body {S : Sto} {o : Nat} {X : List Int} (h : S[o]? = some (.lst (X.map .int))) (hX : X ≠ []) (hl : X.length < 900) (s0 s1 s2 s3 s4 s6 s7 : Sl) : ∃ X' : List Int, X'.length = X.length + 1 ∧ b__law_at_last_2 [s0, s1, s2, s3, s4, .val (.ref o), s6, s7] S = some (.nx [s0, s1, s2, s3, s4, .val (.ref o), s6, s7], (S.set o (.lst ((X.set 0 (1 - X[0]?.getD 0)).map .int))).set o (.lst (X'.map .int))) := by
  have h0 : 0 < X.length := List.length_pos_iff.mpr hX
  have a0 := at_map X 0 (by decide) (by omega)
  have a1 : ixN (X.map W.int).length 0 = some 0 := ixN_in (by decide) (by simp; omega)
  have h2 : (S.set o (.lst ((X.set 0 (1 - X[0]?.getD 0)).map .int)))[o]? = some (.lst ((X.set 0 (1 - X[0]?.getD 0)).map .int)) := List.getElem?_set_self (lt_of h)
  have h2' := h2
  rw [List.map_set] at h2'
  have hs : (List.map W.int X).length < sizeLine := by rw [List.length_map]; exact Nat.lt_of_lt_of_le (by omega) (sz 1000 (by decide))
  refine ⟨X.set 0 (1 - X[0]?.getD 0) ++ [7], by simp, ?_⟩
  rw [List.map_append, List.map_set]
  simp only [b__law_at_last_2, bodyS, outS, ssSeq, ssIf, ssRet, ssAsg, ssExpr, ssPure, soB, sBind, sOk, sPure, sFldR, sMeth, sCall, sCallD, noX, outP, sNil, sCons, sTru, sNot, sAnd, sOr, sAndV, sOrV, sNotV, sB, sCmp, sC1, sTup, sLst, sLstS, sLen, gLenS, sIx, gIxS, sIsi, gIsiS, sEq, ssFrz, siLive, ssForL, sCompL, Option.map_eq_map, bodyD, outD, startD, dsNext, dsSeq, dsIf, dsRet, dsRetN, dsAsg, dsOwn, dsFrz, frz, dsFor, dsAppend, dsSetI, ownAt, dVar, dPk, dC, dOp, dCmp, dB, dTru, dNot, dNotV, dAndV, dOrV, dAnd, dOr, dCall, dCons, dNil, dTup, dLst, dOwn, dComp, dC1, dSeqOf, dgName, dgTup, dgCons, dgNil, dSlL, dPart, dNoPart, dEnum, dZip, dListOf, dAddL, liftD, slAt, dYes, dIf, gAdd_i, gSub_i, gDiv_n, gMod_n, gNeg_i, asB_b, asI_i, listD_l, seqD_l, seqD_t, gLen_l, gLen_t, gIx_l, gIx_t, cEq_i, cEq_s, cEq_b, cNe_i, cNe_s, cLt_i, cLe_i, cGt_i, cGe_i, cNotN_i, cNotN_n, cNotN_s, cNotN_l, cNotN_t, cIsN_i, cIsN_n, cIsN_s, cIsN_l, cIsN_t, isi_int, isi_bool, isi_str, List.length_cons, List.length_nil, List.map_cons, List.map_nil, List.replicate, List.nil_append, List.cons_append, List.getElem?_cons_zero, List.getElem?_cons_succ, List.set_cons_zero, List.set_cons_succ, Option.bind_some, Option.map_some, Option.bind_none, Option.map_none, Option.getD_some, Option.getD_none, Nat.reduceAdd, Nat.reduceSub, if_true, reduceIte, Nat.reduceEqDiff, decide_true, decide_false, Bool.not_true, Bool.not_false, Bool.false_eq_true, ne_eq, not_false_eq_true, sOp, ssSetI, ssAppend, lst_at h, a0, a1, Int.toNat_zero, lst_at h2', Option.isSome_some, List.length_set, hs]
theorem spoil_loop {ρ : Nat → Rl} {tld : Nat} {told : List (Nat × Nat)} : ∀ (m i k : Nat) (S : Sto) (s0 s1 s2 s3 s4 s5 s6 s7 : Sl), TOLE ρ S tld k told → told.length - i < m → k + (told.length - i) < 900 → ∃ S' t5 t6, ssForLGo tld (dgSeq 2 (dgCons (dgName 5) (dgCons (dgName 6) dgNil))) b__law_at_last_2 m i [s0, s1, s2, s3, s4, s5, s6, s7] S = some (.nx [s0, s1, s2, s3, s4, t5, t6, s7], S') ∧ Fr (· = 8) ρ S ρ S'
  | 0, i, k, S, _, _, _, _, _, _, _, _, T, hm, hk => by omega
  | m + 1, i, k, S, s0, s1, s2, s3, s4, s5, s6, s7, T, hm, hk => by
    have hl : lookS S tld = some (told.map encP) := by unfold lookS; rw [T.ft]
    by_cases hi : i < told.length
    · have hp : told[i] ∈ told := List.getElem_mem hi
      obtain ⟨X, a1, a2, a3, a4⟩ := T.el _ hp
      have hd : dgSeq 2 (dgCons (dgName 5) (dgCons (dgName 6) dgNil)) (encP told[i]) [s0, s1, s2, s3, s4, s5, s6, s7] = some [s0, s1, s2, s3, s4, .val (.ref told[i].1), .val (.ref told[i].2), s7] := rfl
      obtain ⟨X', x1, x2⟩ := spoil_body a3 a1 (by omega) s0 s1 s2 s3 s4 (.val (.ref told[i].2)) s7
      have f1 := Fr.set (ρ := ρ) S told[i].1 (.lst ((X.set 0 (1 - X[0]?.getD 0)).map .int))
      rw [a4] at f1
      have f2 := Fr.set (ρ := ρ) (S.set told[i].1 (.lst ((X.set 0 (1 - X[0]?.getD 0)).map .int))) told[i].1 (.lst (X'.map .int))
      rw [a4] at f2
      have f12 := f1.trans f2
      have T' : TOLE ρ ((S.set told[i].1 (.lst ((X.set 0 (1 - X[0]?.getD 0)).map .int))).set told[i].1 (.lst (X'.map .int))) tld (k + 1) told := by
        refine ⟨f12.get T.ft (by rw [T.rt]; decide), T.rt, fun p hp' => ?_⟩
        obtain ⟨Y, b1, b2, b3, b4⟩ := T.el p hp'
        by_cases he : p.1 = told[i].1
        · refine ⟨X', (fun z => by rw [z] at x1; cases x1), by omega, ?_, b4⟩
          rw [he, List.getElem?_set_self (by rw [List.length_set]; exact lt_of a3)]
        · refine ⟨Y, b1, by omega, ?_, b4⟩
          rw [List.getElem?_set_ne (Ne.symm he), List.getElem?_set_ne (Ne.symm he)]
          exact b3
      obtain ⟨S', t5, t6, e, f⟩ := spoil_loop m (i + 1) (k + 1) _ s0 s1 s2 s3 s4 (.val (.ref told[i].1)) (.val (.ref told[i].2)) s7 T' (by omega) (by omega)
      refine ⟨S', t5, t6, ?_, f12.trans f⟩
      show (lookS S tld).bind _ = _
      rw [hl]
      show (match (told.map encP)[i]? with | none => _ | some d => _) = _
      rw [List.getElem?_map, List.getElem?_eq_getElem hi]
      show (dgSeq 2 (dgCons (dgName 5) (dgCons (dgName 6) dgNil)) (encP told[i]) _).bind _ = _
      rw [hd]
      show (match b__law_at_last_2 _ S with | some (.nx δ', S') => _ | some (.ct δ', S') => _ | some (.bk δ', S') => _ | some (.rt d, S') => _ | some (.xc c, S') => _ | none => _) = _
      rw [x2]
      exact e
    · refine ⟨S, s5, s6, ?_, Fr.refl _ _ _⟩
      show (lookS S tld).bind _ = _
      rw [hl]
      show (match (told.map encP)[i]? with | none => _ | some d => _) = _
      rw [List.getElem?_eq_none (by simp; omega)]
theorem rngD_succ (lo : Int) (n : Nat) : rngD lo (n + 1) = .int lo :: rngD (lo + 1) n := by
  unfold rngD
  rw [List.range_succ_eq_map, List.map_cons, List.map_map]
  congr 1
  · simp
  · apply List.map_congr_left
    intro a _
    show W.int (lo + ((a + 1 : Nat) : Int)) = W.int (lo + 1 + (a : Int))
    congr 1
    omega
theorem sCompGo_step (h : W → DS → Option DS) (fe : DS → Sto → SM W) (δ δ2 : DS) (d e : W) (ds es : List W) (S S1 S2 : Sto) (h1 : h d δ = some δ2) (h2 : fe δ2 S = some (.ok e, S1)) (h3 : sCompGo h (sPure dYes) fe δ ds S1 = some (.ok es, S2)) : sCompGo h (sPure dYes) fe δ (d :: ds) S = some (.ok (e :: es), S2) := by
  show (h d δ).bind _ = _
  rw [h1]
  show sBind (fe δ2 S) _ = _
  rw [h2]
  show sBind (sCompGo h (sPure dYes) fe δ ds S1) _ = _
  rw [h3]
  rfl
theorem ask_loop {w I b dd : Nat} {B : List Int} (fo : DS → Option W) (s0 s1 : Sl) (hfo : ∀ s, fo [s0, s1, s] = some (.ref I)) : ∀ (m k : Nat) (ρ : Nat → Rl) (S : Sto) (D : List Dd) (c : W) (kvs : List (Key × W)), RowOK ρ S w I b dd B D c kvs → k + m = B.length → D.length + m < 800 → ∃ S' ρ', sCompGo (dgName 2) (sPure dYes) (sMeth "Shared" "taken" p_Shared_taken (sPure fo) (sPure (dCons (dC (.int (0))) (dCons (dVar 2) (dCons (dC (.int (1))) dNil))))) [s0, s1, .no] (rngD k m) S = some (.ok ((B.drop k).map .int), S') ∧ Fr (· = w) ρ S ρ' S'
  | 0, k, ρ, S, D, c, kvs, r, hk, hD => ⟨S, ρ, by rw [List.drop_of_length_le (by omega)]; rfl, Fr.refl _ _ _⟩
  | m + 1, k, ρ, S, D, c, kvs, r, hk, hD => by
    obtain ⟨S1, ρ1, kvs1, e1, r1, f1⟩ := row_taken r 0 (k : Int) 1 (by omega) (by omega) (by omega)
    obtain ⟨S2, ρ2, e2, f2⟩ := ask_loop fo s0 s1 hfo m (k + 1) ρ1 S1 _ _ _ r1 (by omega) (by simp; omega)
    refine ⟨S2, ρ2, ?_, f1.trans f2⟩
    rw [rngD_succ, List.drop_eq_getElem_cons (show k < B.length by omega), List.map_cons]
    refine sCompGo_step _ _ _ [s0, s1, .val (.int k)] _ _ _ _ _ S1 _ rfl ?_ e2
    rw [Int.toNat_natCast, List.getElem?_eq_getElem (show k < B.length by omega)] at e1
    simp only [bodyS, outS, ssSeq, ssIf, ssRet, ssAsg, ssExpr, ssPure, soB, sBind, sOk, sPure, sFldR, sMeth, sCall, sCallD, noX, outP, sNil, sCons, sTru, sNot, sAnd, sOr, sAndV, sOrV, sNotV, sB, sCmp, sC1, sTup, sLst, sLstS, sLen, gLenS, sIx, gIxS, sIsi, gIsiS, sEq, ssFrz, siLive, ssForL, sCompL, Option.map_eq_map, bodyD, outD, startD, dsNext, dsSeq, dsIf, dsRet, dsRetN, dsAsg, dsOwn, dsFrz, frz, dsFor, dsAppend, dsSetI, ownAt, dVar, dPk, dC, dOp, dCmp, dB, dTru, dNot, dNotV, dAndV, dOrV, dAnd, dOr, dCall, dCons, dNil, dTup, dLst, dOwn, dComp, dC1, dSeqOf, dgName, dgTup, dgCons, dgNil, dSlL, dPart, dNoPart, dEnum, dZip, dListOf, dAddL, liftD, slAt, dYes, dIf, gAdd_i, gSub_i, gDiv_n, gMod_n, gNeg_i, asB_b, asI_i, listD_l, seqD_l, seqD_t, gLen_l, gLen_t, gIx_l, gIx_t, cEq_i, cEq_s, cEq_b, cNe_i, cNe_s, cLt_i, cLe_i, cGt_i, cGe_i, cNotN_i, cNotN_n, cNotN_s, cNotN_l, cNotN_t, cIsN_i, cIsN_n, cIsN_s, cIsN_l, cIsN_t, isi_int, isi_bool, isi_str, List.length_cons, List.length_nil, List.map_cons, List.map_nil, List.replicate, List.nil_append, List.cons_append, List.getElem?_cons_zero, List.getElem?_cons_succ, List.set_cons_zero, List.set_cons_succ, Option.bind_some, Option.map_some, Option.bind_none, Option.map_none, Option.getD_some, Option.getD_none, Nat.reduceAdd, Nat.reduceSub, if_true, reduceIte, Nat.reduceEqDiff, decide_true, decide_false, Bool.not_true, Bool.not_false, Bool.false_eq_true, ne_eq, not_false_eq_true, hfo, ins_at r.fi, lk_no _ _ _ meth_ne3, e1]
theorem bodyS_run {a n : Nat} {fb : DS → Sto → SO} {ds : List W} {S : Sto} (h : ds.length = a) : bodyS a n fb ds S = outS (fb (startD n ds) S) := if_pos h
theorem ssSeq_nx {f g : DS → Sto → SO} {δ δ' : DS} {S S' : Sto} (h : f δ S = some (.nx δ', S')) : ssSeq f g δ S = g δ' S' := by unfold ssSeq; rw [h]
theorem ssIf_t {c : DS → Sto → SM Bool} {f g : DS → Sto → SO} {δ : DS} {S S1 : Sto} (h : c δ S = some (.ok true, S1)) : ssIf c f g δ S = f δ S1 := by unfold ssIf; rw [h]; rfl
theorem ssIf_f {c : DS → Sto → SM Bool} {f g : DS → Sto → SO} {δ : DS} {S S1 : Sto} (h : c δ S = some (.ok false, S1)) : ssIf c f g δ S = g δ S1 := by unfold ssIf; rw [h]; rfl
theorem ssAsg_of {f : DS → Sto → SM W} {h : W → DS → Option DS} {δ δ' : DS} {S S1 : Sto} {d : W} (h1 : f δ S = some (.ok d, S1)) (h2 : h d δ = some δ') : ssAsg f h δ S = some (.nx δ', S1) := by
  unfold ssAsg
  rw [h1]
  show (h d δ).map _ = _
  rw [h2]
  rfl
theorem ssFor_of {fi : DS → Sto → SM (List W)} {h : W → DS → Option DS} {fb : DS → Sto → SO} {δ : DS} {S S1 : Sto} {ds : List W} (h1 : fi δ S = some (.ok ds, S1)) : ssFor fi h fb δ S = ssForGo h fb ds δ S1 := by unfold ssFor; rw [h1]; rfl
theorem ssForGo_nx {h : W → DS → Option DS} {fb : DS → Sto → SO} {d : W} {ds : List W} {δ δ2 δ' : DS} {S S' : Sto} (h1 : h d δ = some δ2) (h2 : fb δ2 S = some (.nx δ', S')) : ssForGo h fb (d :: ds) δ S = ssForGo h fb ds δ' S' := by
  show (h d δ).bind _ = _
  rw [h1]
  show (match fb δ2 S with | some (.nx δ', S') => _ | some (.ct δ', S') => _ | some (.bk δ', S') => _ | some (.rt d, S') => _ | some (.xc c, S') => _ | none => _) = _
  rw [h2]
theorem sComp_of {ix : List (Option Nat)} {fi : DS → Sto → SM (List W)} {h : W → DS → Option DS} {c : DS → Sto → SM Bool} {fe : DS → Sto → SM W} {δ : DS} {S S0 S1 : Sto} {ds es : List W} (h1 : fi δ S = some (.ok ds, S0)) (h2 : ds.length ≤ sizeLine) (h3 : sCompGo h c fe (liftD ix δ) ds S0 = some (.ok es, S1)) : sComp ix fi h c fe δ S = some (.ok (.list es), S1) := by
  unfold sComp
  rw [h1]
  show (if ds.length ≤ sizeLine then _ else _) = _
  rw [if_pos h2, h3]
  rfl
theorem sCompL_of {m n : Nat} {ix : List (Option Nat)} {fi : DS → Sto → SM Nat} {h : W → DS → Option DS} {c : DS → Sto → SM Bool} {fe : DS → Sto → SM W} {δ : DS} {S S0 S1 : Sto} {es : List W} (h1 : fi δ S = some (.ok n, S0)) (h2 : m ≤ sizeLine) (h3 : sCompLGo n h c fe (liftD ix δ) m 0 S0 = some (.ok es, S1)) : sCompL m ix fi h c fe δ S = some (.ok (.list es), S1) := by
  unfold sCompL
  rw [h1]
  show (if m ≤ sizeLine then _ else _) = _
  rw [if_pos h2, h3]
  rfl
def wi (w : Bool) : Int := bif w then 1 else 0
def tg (w : Bool) : Nat := bif w then 1 else 0
theorem ix_ref (f : Bool → Nat) (w : Bool) : atI [W.ref (f false), .ref (f true)] (wi w) = some (.ref (f w)) := by cases w <;> first | exact at0 _ _ | exact at1 _ _ _
theorem ix_bool (f : Bool → Bool) (w : Bool) : atI [W.bool (f false), .bool (f true)] (wi w) = some (.bool (f w)) := by cases w <;> first | exact at0 _ _ | exact at1 _ _ _
theorem tg_lt (w : Bool) : tg w < 2 := by cases w <;> decide
theorem tg_ne {w v : Bool} (h : w ≠ v) : tg w ≠ tg v := by cases w <;> cases v <;> simp_all [tg]
theorem rngOk_of {j : Int} (h1 : 0 ≤ j) (h2 : j < 1000000) : rngOk j = true := by
  simp only [rngOk, Bool.and_eq_true, decide_eq_true_eq]
  omega
theorem rng1_of {j : Int} (h1 : 0 ≤ j) (h2 : j < 1000000) : rng1L [.int j] = some (rngD 0 j.toNat) := by
  show rng1 j = _
  unfold rng1
  rw [if_pos (rngOk_of h1 h2)]
theorem rng_two : rng1L [.int 2] = some [.int (wi false), .int (wi true)] := by
  rw [rng1_of (by decide) (by decide)]
  rfl
def RO (ρ : Nat → Rl) (S : Sto) (w : Bool) (room I n : Nat) : Prop := ∃ b dd B D c kvs, RowOK ρ S (tg w) I b dd B D c kvs ∧ B.length = room ∧ D.length ≤ 200 ∧ S[n]? = some (.lst (B.map .int)) ∧ ρ n = (tg w + 2, 0, 0)
def RC (ρ : Nat → Rl) (S : Sto) (w : Bool) (I : Nat) : Prop := ∃ b dd B D kvs P L ln O q, RowOK ρ S (tg w) I b dd B D (.tuple [.int P, .int L, .int ln, .int O, .int q]) kvs ∧ 0 ≤ P ∧ P < B.length
theorem RO.fr {P : Nat → Prop} {ρ ρ' : Nat → Rl} {S S' : Sto} {w : Bool} {room I n : Nat} (r : RO ρ S w room I n) (f : Fr P ρ S ρ' S') (h1 : ¬ P (tg w)) (h2 : ¬ P (tg w + 2)) : RO ρ' S' w room I n := by
  obtain ⟨b, dd, B, D, c, kvs, a1, a2, a3, a4, a5⟩ := r
  exact ⟨b, dd, B, D, c, kvs, a1.fr f h1, a2, a3, f.get a4 (by rw [a5]; exact h2), f.role a4 a5⟩
theorem RC.fr {P : Nat → Prop} {ρ ρ' : Nat → Rl} {S S' : Sto} {w : Bool} {I : Nat} (r : RC ρ S w I) (f : Fr P ρ S ρ' S') (h1 : ¬ P (tg w)) : RC ρ' S' w I := by
  obtain ⟨b, dd, B, D, kvs, P, L, ln, O, q, a1, a2, a3⟩ := r
  exact ⟨b, dd, B, D, kvs, P, L, ln, O, q, a1.fr f h1, a2, a3⟩
def dL (I n : Bool → Nat) (cl : Bool → Bool) (tld : Nat) (s4 s5 s6 s7 : Sl) : DS := [.val (.list [.ref (I false), .ref (I true)]), .val (.list [.ref (n false), .ref (n true)]), .val (.list [.bool (cl false), .bool (cl true)]), .val (.ref tld), s4, s5, s6, s7]
theorem last1 {I n : Bool → Nat} {cl : Bool → Bool} {tld room : Nat} {ρ : Nat → Rl} {S : Sto} {told : List (Nat × Nat)} (w : Bool) (h1 : cl w = false → RO ρ S w room (I w) (n w)) (h2 : cl w = true → RC ρ S w (I w)) (T : TOLD ρ S tld room told) (hT : told.length < 900) (s5 s6 s7 : Sl) :
    ∃ S' ρ' told', b__law_at_last_1 (dL I n cl tld (.val (.int (wi w))) s5 s6 s7) S = some (.nx (dL I n cl tld (.val (.int (wi w))) s5 s6 s7), S') ∧ (cl w = false → RO ρ' S' w room (I w) (n w)) ∧ Fr (fun t => t = tg w ∨ t = 7) ρ S ρ' S' ∧ TOLD ρ' S' tld room told' ∧ told'.length ≤ told.length + 1 := by
  have hw := tg_lt w
  cases hc : cl w with
  | true =>
    obtain ⟨b, dd, B, D, kvs, P, L, ln, O, q, a1, a2, a3⟩ := h2 hc
    obtain ⟨S', ρ', e, f⟩ := stays_run a1 a2 a3
    refine ⟨S', ρ', told, ?_, (fun h => by cases h), f.mono fun t h => .inl h, T.fr f (by show ¬ 7 = tg w; omega) (by show ¬ 8 = tg w; omega), by omega⟩
    simp only [b__law_at_last_1, dL, bodyS, outS, ssSeq, ssIf, ssRet, ssAsg, ssExpr, ssPure, soB, sBind, sOk, sPure, sFldR, sMeth, sCall, sCallD, noX, outP, sNil, sCons, sTru, sNot, sAnd, sOr, sAndV, sOrV, sNotV, sB, sCmp, sC1, sTup, sLst, sLstS, sLen, gLenS, sIx, gIxS, sIsi, gIsiS, sEq, ssFrz, siLive, ssForL, sCompL, Option.map_eq_map, bodyD, outD, startD, dsNext, dsSeq, dsIf, dsRet, dsRetN, dsAsg, dsOwn, dsFrz, frz, dsFor, dsAppend, dsSetI, ownAt, dVar, dPk, dC, dOp, dCmp, dB, dTru, dNot, dNotV, dAndV, dOrV, dAnd, dOr, dCall, dCons, dNil, dTup, dLst, dOwn, dComp, dC1, dSeqOf, dgName, dgTup, dgCons, dgNil, dSlL, dPart, dNoPart, dEnum, dZip, dListOf, dAddL, liftD, slAt, dYes, dIf, gAdd_i, gSub_i, gDiv_n, gMod_n, gNeg_i, asB_b, asI_i, listD_l, seqD_l, seqD_t, gLen_l, gLen_t, gIx_l, gIx_t, cEq_i, cEq_s, cEq_b, cNe_i, cNe_s, cLt_i, cLe_i, cGt_i, cGe_i, cNotN_i, cNotN_n, cNotN_s, cNotN_l, cNotN_t, cIsN_i, cIsN_n, cIsN_s, cIsN_l, cIsN_t, isi_int, isi_bool, isi_str, List.length_cons, List.length_nil, List.map_cons, List.map_nil, List.replicate, List.nil_append, List.cons_append, List.getElem?_cons_zero, List.getElem?_cons_succ, List.set_cons_zero, List.set_cons_succ, Option.bind_some, Option.map_some, Option.bind_none, Option.map_none, Option.getD_some, Option.getD_none, Nat.reduceAdd, Nat.reduceSub, if_true, reduceIte, Nat.reduceEqDiff, decide_true, decide_false, Bool.not_true, Bool.not_false, Bool.false_eq_true, ne_eq, not_false_eq_true, ix_bool, hc, ix_ref, e]
  | false =>
    obtain ⟨b, dd, B, D, c, kvs, a1, a2, a3, a4, a5⟩ := h1 hc
    obtain ⟨S', ρ', dd', told', e, r', f, T', hl⟩ := told_met a1 hw a4 a5 a2 T hT (dL I n cl tld (.val (.int (wi w))) s5 s6 s7) (dVar 3) (dOp gIx (dPk 0) (dVar 4)) (dOp gIx (dPk 1) (dVar 4)) rfl (by simp only [dL, bodyD, outD, startD, dsNext, dsSeq, dsIf, dsRet, dsRetN, dsAsg, dsOwn, dsFrz, frz, dsFor, dsAppend, dsSetI, ownAt, dVar, dPk, dC, dOp, dCmp, dB, dTru, dNot, dNotV, dAndV, dOrV, dAnd, dOr, dCall, dCons, dNil, dTup, dLst, dOwn, dComp, dC1, dSeqOf, dgName, dgTup, dgCons, dgNil, dSlL, dPart, dNoPart, dEnum, dZip, dListOf, dAddL, liftD, slAt, dYes, dIf, gAdd_i, gSub_i, gDiv_n, gMod_n, gNeg_i, asB_b, asI_i, listD_l, seqD_l, seqD_t, gLen_l, gLen_t, gIx_l, gIx_t, cEq_i, cEq_s, cEq_b, cNe_i, cNe_s, cLt_i, cLe_i, cGt_i, cGe_i, cNotN_i, cNotN_n, cNotN_s, cNotN_l, cNotN_t, cIsN_i, cIsN_n, cIsN_s, cIsN_l, cIsN_t, isi_int, isi_bool, isi_str, List.length_cons, List.length_nil, List.map_cons, List.map_nil, List.replicate, List.nil_append, List.cons_append, List.getElem?_cons_zero, List.getElem?_cons_succ, List.set_cons_zero, List.set_cons_succ, Option.bind_some, Option.map_some, Option.bind_none, Option.map_none, Option.getD_some, Option.getD_none, Nat.reduceAdd, Nat.reduceSub, if_true, reduceIte, Nat.reduceEqDiff, decide_true, decide_false, Bool.not_true, Bool.not_false, Bool.false_eq_true, ne_eq, not_false_eq_true, ix_ref]) (by simp only [dL, bodyD, outD, startD, dsNext, dsSeq, dsIf, dsRet, dsRetN, dsAsg, dsOwn, dsFrz, frz, dsFor, dsAppend, dsSetI, ownAt, dVar, dPk, dC, dOp, dCmp, dB, dTru, dNot, dNotV, dAndV, dOrV, dAnd, dOr, dCall, dCons, dNil, dTup, dLst, dOwn, dComp, dC1, dSeqOf, dgName, dgTup, dgCons, dgNil, dSlL, dPart, dNoPart, dEnum, dZip, dListOf, dAddL, liftD, slAt, dYes, dIf, gAdd_i, gSub_i, gDiv_n, gMod_n, gNeg_i, asB_b, asI_i, listD_l, seqD_l, seqD_t, gLen_l, gLen_t, gIx_l, gIx_t, cEq_i, cEq_s, cEq_b, cNe_i, cNe_s, cLt_i, cLe_i, cGt_i, cGe_i, cNotN_i, cNotN_n, cNotN_s, cNotN_l, cNotN_t, cIsN_i, cIsN_n, cIsN_s, cIsN_l, cIsN_t, isi_int, isi_bool, isi_str, List.length_cons, List.length_nil, List.map_cons, List.map_nil, List.replicate, List.nil_append, List.cons_append, List.getElem?_cons_zero, List.getElem?_cons_succ, List.set_cons_zero, List.set_cons_succ, Option.bind_some, Option.map_some, Option.bind_none, Option.map_none, Option.getD_some, Option.getD_none, Nat.reduceAdd, Nat.reduceSub, if_true, reduceIte, Nat.reduceEqDiff, decide_true, decide_false, Bool.not_true, Bool.not_false, Bool.false_eq_true, ne_eq, not_false_eq_true, ix_ref])
    refine ⟨S', ρ', told', ?_, (fun _ => ⟨b, dd', B, [], c, [], r', a2, Nat.zero_le _, f.get a4 (by rw [a5]; show ¬ (tg w + 2 = tg w ∨ tg w + 2 = 7); omega), f.role a4 a5⟩), f, T', by omega⟩
    refine (ssSeq_nx (δ' := dL I n cl tld (.val (.int (wi w))) s5 s6 s7) (S' := S) ?_).trans ((ssIf_t (S1 := S) ?_).trans e)
    · simp only [dL, bodyS, outS, ssSeq, ssIf, ssRet, ssAsg, ssExpr, ssPure, soB, sBind, sOk, sPure, sFldR, sMeth, sCall, sCallD, noX, outP, sNil, sCons, sTru, sNot, sAnd, sOr, sAndV, sOrV, sNotV, sB, sCmp, sC1, sTup, sLst, sLstS, sLen, gLenS, sIx, gIxS, sIsi, gIsiS, sEq, ssFrz, siLive, ssForL, sCompL, Option.map_eq_map, bodyD, outD, startD, dsNext, dsSeq, dsIf, dsRet, dsRetN, dsAsg, dsOwn, dsFrz, frz, dsFor, dsAppend, dsSetI, ownAt, dVar, dPk, dC, dOp, dCmp, dB, dTru, dNot, dNotV, dAndV, dOrV, dAnd, dOr, dCall, dCons, dNil, dTup, dLst, dOwn, dComp, dC1, dSeqOf, dgName, dgTup, dgCons, dgNil, dSlL, dPart, dNoPart, dEnum, dZip, dListOf, dAddL, liftD, slAt, dYes, dIf, gAdd_i, gSub_i, gDiv_n, gMod_n, gNeg_i, asB_b, asI_i, listD_l, seqD_l, seqD_t, gLen_l, gLen_t, gIx_l, gIx_t, cEq_i, cEq_s, cEq_b, cNe_i, cNe_s, cLt_i, cLe_i, cGt_i, cGe_i, cNotN_i, cNotN_n, cNotN_s, cNotN_l, cNotN_t, cIsN_i, cIsN_n, cIsN_s, cIsN_l, cIsN_t, isi_int, isi_bool, isi_str, List.length_cons, List.length_nil, List.map_cons, List.map_nil, List.replicate, List.nil_append, List.cons_append, List.getElem?_cons_zero, List.getElem?_cons_succ, List.set_cons_zero, List.set_cons_succ, Option.bind_some, Option.map_some, Option.bind_none, Option.map_none, Option.getD_some, Option.getD_none, Nat.reduceAdd, Nat.reduceSub, if_true, reduceIte, Nat.reduceEqDiff, decide_true, decide_false, Bool.not_true, Bool.not_false, Bool.false_eq_true, ne_eq, not_false_eq_true, ix_bool, hc]
    · simp only [dL, bodyS, outS, ssSeq, ssIf, ssRet, ssAsg, ssExpr, ssPure, soB, sBind, sOk, sPure, sFldR, sMeth, sCall, sCallD, noX, outP, sNil, sCons, sTru, sNot, sAnd, sOr, sAndV, sOrV, sNotV, sB, sCmp, sC1, sTup, sLst, sLstS, sLen, gLenS, sIx, gIxS, sIsi, gIsiS, sEq, ssFrz, siLive, ssForL, sCompL, Option.map_eq_map, bodyD, outD, startD, dsNext, dsSeq, dsIf, dsRet, dsRetN, dsAsg, dsOwn, dsFrz, frz, dsFor, dsAppend, dsSetI, ownAt, dVar, dPk, dC, dOp, dCmp, dB, dTru, dNot, dNotV, dAndV, dOrV, dAnd, dOr, dCall, dCons, dNil, dTup, dLst, dOwn, dComp, dC1, dSeqOf, dgName, dgTup, dgCons, dgNil, dSlL, dPart, dNoPart, dEnum, dZip, dListOf, dAddL, liftD, slAt, dYes, dIf, gAdd_i, gSub_i, gDiv_n, gMod_n, gNeg_i, asB_b, asI_i, listD_l, seqD_l, seqD_t, gLen_l, gLen_t, gIx_l, gIx_t, cEq_i, cEq_s, cEq_b, cNe_i, cNe_s, cLt_i, cLe_i, cGt_i, cGe_i, cNotN_i, cNotN_n, cNotN_s, cNotN_l, cNotN_t, cIsN_i, cIsN_n, cIsN_s, cIsN_l, cIsN_t, isi_int, isi_bool, isi_str, List.length_cons, List.length_nil, List.map_cons, List.map_nil, List.replicate, List.nil_append, List.cons_append, List.getElem?_cons_zero, List.getElem?_cons_succ, List.set_cons_zero, List.set_cons_succ, Option.bind_some, Option.map_some, Option.bind_none, Option.map_none, Option.getD_some, Option.getD_none, Nat.reduceAdd, Nat.reduceSub, if_true, reduceIte, Nat.reduceEqDiff, decide_true, decide_false, Bool.not_true, Bool.not_false, Bool.false_eq_true, ne_eq, not_false_eq_true, ix_bool, hc]
theorem last3 {I n : Bool → Nat} {cl : Bool → Bool} {tld room : Nat} {ρ : Nat → Rl} {S : Sto} (w : Bool) (h1 : cl w = false → RO ρ S w room (I w) (n w)) (hr : room ≤ 100) (s5 s6 s7 : Sl) :
    ∃ S' ρ' t7, b__law_at_last_3 (dL I n cl tld (.val (.int (wi w))) s5 s6 s7) S = some (.nx (dL I n cl tld (.val (.int (wi w))) s5 s6 t7), S') ∧ Fr (· = tg w) ρ S ρ' S' := by
  cases hc : cl w with
  | true => exact ⟨S, ρ, s7, by simp only [b__law_at_last_3, dL, bodyS, outS, ssSeq, ssIf, ssRet, ssAsg, ssExpr, ssPure, soB, sBind, sOk, sPure, sFldR, sMeth, sCall, sCallD, noX, outP, sNil, sCons, sTru, sNot, sAnd, sOr, sAndV, sOrV, sNotV, sB, sCmp, sC1, sTup, sLst, sLstS, sLen, gLenS, sIx, gIxS, sIsi, gIsiS, sEq, ssFrz, siLive, ssForL, sCompL, Option.map_eq_map, bodyD, outD, startD, dsNext, dsSeq, dsIf, dsRet, dsRetN, dsAsg, dsOwn, dsFrz, frz, dsFor, dsAppend, dsSetI, ownAt, dVar, dPk, dC, dOp, dCmp, dB, dTru, dNot, dNotV, dAndV, dOrV, dAnd, dOr, dCall, dCons, dNil, dTup, dLst, dOwn, dComp, dC1, dSeqOf, dgName, dgTup, dgCons, dgNil, dSlL, dPart, dNoPart, dEnum, dZip, dListOf, dAddL, liftD, slAt, dYes, dIf, gAdd_i, gSub_i, gDiv_n, gMod_n, gNeg_i, asB_b, asI_i, listD_l, seqD_l, seqD_t, gLen_l, gLen_t, gIx_l, gIx_t, cEq_i, cEq_s, cEq_b, cNe_i, cNe_s, cLt_i, cLe_i, cGt_i, cGe_i, cNotN_i, cNotN_n, cNotN_s, cNotN_l, cNotN_t, cIsN_i, cIsN_n, cIsN_s, cIsN_l, cIsN_t, isi_int, isi_bool, isi_str, List.length_cons, List.length_nil, List.map_cons, List.map_nil, List.replicate, List.nil_append, List.cons_append, List.getElem?_cons_zero, List.getElem?_cons_succ, List.set_cons_zero, List.set_cons_succ, Option.bind_some, Option.map_some, Option.bind_none, Option.map_none, Option.getD_some, Option.getD_none, Nat.reduceAdd, Nat.reduceSub, if_true, reduceIte, Nat.reduceEqDiff, decide_true, decide_false, Bool.not_true, Bool.not_false, Bool.false_eq_true, ne_eq, not_false_eq_true, ix_bool, hc], Fr.refl _ _ _⟩
  | false =>
    obtain ⟨b, dd, B, D, c, kvs, a1, a2, a3, a4, a5⟩ := h1 hc
    obtain ⟨S', ρ', e, f⟩ := ask_loop (dOp gIx (dPk 0) (dVar 1)) (.val (.list [.ref (I false), .ref (I true)])) (.val (.int (wi w))) (fun s => by simp only [bodyD, outD, startD, dsNext, dsSeq, dsIf, dsRet, dsRetN, dsAsg, dsOwn, dsFrz, frz, dsFor, dsAppend, dsSetI, ownAt, dVar, dPk, dC, dOp, dCmp, dB, dTru, dNot, dNotV, dAndV, dOrV, dAnd, dOr, dCall, dCons, dNil, dTup, dLst, dOwn, dComp, dC1, dSeqOf, dgName, dgTup, dgCons, dgNil, dSlL, dPart, dNoPart, dEnum, dZip, dListOf, dAddL, liftD, slAt, dYes, dIf, gAdd_i, gSub_i, gDiv_n, gMod_n, gNeg_i, asB_b, asI_i, listD_l, seqD_l, seqD_t, gLen_l, gLen_t, gIx_l, gIx_t, cEq_i, cEq_s, cEq_b, cNe_i, cNe_s, cLt_i, cLe_i, cGt_i, cGe_i, cNotN_i, cNotN_n, cNotN_s, cNotN_l, cNotN_t, cIsN_i, cIsN_n, cIsN_s, cIsN_l, cIsN_t, isi_int, isi_bool, isi_str, List.length_cons, List.length_nil, List.map_cons, List.map_nil, List.replicate, List.nil_append, List.cons_append, List.getElem?_cons_zero, List.getElem?_cons_succ, List.set_cons_zero, List.set_cons_succ, Option.bind_some, Option.map_some, Option.bind_none, Option.map_none, Option.getD_some, Option.getD_none, Nat.reduceAdd, Nat.reduceSub, if_true, reduceIte, Nat.reduceEqDiff, decide_true, decide_false, Bool.not_true, Bool.not_false, Bool.false_eq_true, ne_eq, not_false_eq_true, ix_ref]) B.length 0 ρ S D c kvs a1 (by omega) (by omega)
    rw [List.drop_zero] at e
    have hn' := f.get a4 (by rw [a5]; show ¬ tg w + 2 = tg w; omega)
    refine ⟨S', ρ', .val (.list (B.map .int)), ?_, f⟩
    refine (ssIf_t (S1 := S) ?_).trans ((ssSeq_nx (δ' := dL I n cl tld (.val (.int (wi w))) s5 s6 (.val (.list (B.map .int)))) (S' := S') (ssAsg_of (sComp_of (S0 := S) (ds := rngD 0 B.length) ?_ ?_ e) rfl)).trans ?_)
    · simp only [dL, bodyS, outS, ssSeq, ssIf, ssRet, ssAsg, ssExpr, ssPure, soB, sBind, sOk, sPure, sFldR, sMeth, sCall, sCallD, noX, outP, sNil, sCons, sTru, sNot, sAnd, sOr, sAndV, sOrV, sNotV, sB, sCmp, sC1, sTup, sLst, sLstS, sLen, gLenS, sIx, gIxS, sIsi, gIsiS, sEq, ssFrz, siLive, ssForL, sCompL, Option.map_eq_map, bodyD, outD, startD, dsNext, dsSeq, dsIf, dsRet, dsRetN, dsAsg, dsOwn, dsFrz, frz, dsFor, dsAppend, dsSetI, ownAt, dVar, dPk, dC, dOp, dCmp, dB, dTru, dNot, dNotV, dAndV, dOrV, dAnd, dOr, dCall, dCons, dNil, dTup, dLst, dOwn, dComp, dC1, dSeqOf, dgName, dgTup, dgCons, dgNil, dSlL, dPart, dNoPart, dEnum, dZip, dListOf, dAddL, liftD, slAt, dYes, dIf, gAdd_i, gSub_i, gDiv_n, gMod_n, gNeg_i, asB_b, asI_i, listD_l, seqD_l, seqD_t, gLen_l, gLen_t, gIx_l, gIx_t, cEq_i, cEq_s, cEq_b, cNe_i, cNe_s, cLt_i, cLe_i, cGt_i, cGe_i, cNotN_i, cNotN_n, cNotN_s, cNotN_l, cNotN_t, cIsN_i, cIsN_n, cIsN_s, cIsN_l, cIsN_t, isi_int, isi_bool, isi_str, List.length_cons, List.length_nil, List.map_cons, List.map_nil, List.replicate, List.nil_append, List.cons_append, List.getElem?_cons_zero, List.getElem?_cons_succ, List.set_cons_zero, List.set_cons_succ, Option.bind_some, Option.map_some, Option.bind_none, Option.map_none, Option.getD_some, Option.getD_none, Nat.reduceAdd, Nat.reduceSub, if_true, reduceIte, Nat.reduceEqDiff, decide_true, decide_false, Bool.not_true, Bool.not_false, Bool.false_eq_true, ne_eq, not_false_eq_true, ix_bool, hc]
    · have hg := rng1_of (j := ((B.map W.int).length : Int)) (by omega) (by rw [List.length_map]; omega)
      rw [Int.toNat_natCast] at hg
      simp only [siRng1, dL, bodyS, outS, ssSeq, ssIf, ssRet, ssAsg, ssExpr, ssPure, soB, sBind, sOk, sPure, sFldR, sMeth, sCall, sCallD, noX, outP, sNil, sCons, sTru, sNot, sAnd, sOr, sAndV, sOrV, sNotV, sB, sCmp, sC1, sTup, sLst, sLstS, sLen, gLenS, sIx, gIxS, sIsi, gIsiS, sEq, ssFrz, siLive, ssForL, sCompL, Option.map_eq_map, bodyD, outD, startD, dsNext, dsSeq, dsIf, dsRet, dsRetN, dsAsg, dsOwn, dsFrz, frz, dsFor, dsAppend, dsSetI, ownAt, dVar, dPk, dC, dOp, dCmp, dB, dTru, dNot, dNotV, dAndV, dOrV, dAnd, dOr, dCall, dCons, dNil, dTup, dLst, dOwn, dComp, dC1, dSeqOf, dgName, dgTup, dgCons, dgNil, dSlL, dPart, dNoPart, dEnum, dZip, dListOf, dAddL, liftD, slAt, dYes, dIf, gAdd_i, gSub_i, gDiv_n, gMod_n, gNeg_i, asB_b, asI_i, listD_l, seqD_l, seqD_t, gLen_l, gLen_t, gIx_l, gIx_t, cEq_i, cEq_s, cEq_b, cNe_i, cNe_s, cLt_i, cLe_i, cGt_i, cGe_i, cNotN_i, cNotN_n, cNotN_s, cNotN_l, cNotN_t, cIsN_i, cIsN_n, cIsN_s, cIsN_l, cIsN_t, isi_int, isi_bool, isi_str, List.length_cons, List.length_nil, List.map_cons, List.map_nil, List.replicate, List.nil_append, List.cons_append, List.getElem?_cons_zero, List.getElem?_cons_succ, List.set_cons_zero, List.set_cons_succ, Option.bind_some, Option.map_some, Option.bind_none, Option.map_none, Option.getD_some, Option.getD_none, Nat.reduceAdd, Nat.reduceSub, if_true, reduceIte, Nat.reduceEqDiff, decide_true, decide_false, Bool.not_true, Bool.not_false, Bool.false_eq_true, ne_eq, not_false_eq_true, ix_ref, lst_at a4, hg]
      rw [List.length_map]
    · simp only [rngD, List.length_map, List.length_range]
      exact sz _ (by omega)
    · have q := eqS_lr true hn'
      simp only [dL, bodyS, outS, ssSeq, ssIf, ssRet, ssAsg, ssExpr, ssPure, soB, sBind, sOk, sPure, sFldR, sMeth, sCall, sCallD, noX, outP, sNil, sCons, sTru, sNot, sAnd, sOr, sAndV, sOrV, sNotV, sB, sCmp, sC1, sTup, sLst, sLstS, sLen, gLenS, sIx, gIxS, sIsi, gIsiS, sEq, ssFrz, siLive, ssForL, sCompL, Option.map_eq_map, bodyD, outD, startD, dsNext, dsSeq, dsIf, dsRet, dsRetN, dsAsg, dsOwn, dsFrz, frz, dsFor, dsAppend, dsSetI, ownAt, dVar, dPk, dC, dOp, dCmp, dB, dTru, dNot, dNotV, dAndV, dOrV, dAnd, dOr, dCall, dCons, dNil, dTup, dLst, dOwn, dComp, dC1, dSeqOf, dgName, dgTup, dgCons, dgNil, dSlL, dPart, dNoPart, dEnum, dZip, dListOf, dAddL, liftD, slAt, dYes, dIf, gAdd_i, gSub_i, gDiv_n, gMod_n, gNeg_i, asB_b, asI_i, listD_l, seqD_l, seqD_t, gLen_l, gLen_t, gIx_l, gIx_t, cEq_i, cEq_s, cEq_b, cNe_i, cNe_s, cLt_i, cLe_i, cGt_i, cGe_i, cNotN_i, cNotN_n, cNotN_s, cNotN_l, cNotN_t, cIsN_i, cIsN_n, cIsN_s, cIsN_l, cIsN_t, isi_int, isi_bool, isi_str, List.length_cons, List.length_nil, List.map_cons, List.map_nil, List.replicate, List.nil_append, List.cons_append, List.getElem?_cons_zero, List.getElem?_cons_succ, List.set_cons_zero, List.set_cons_succ, Option.bind_some, Option.map_some, Option.bind_none, Option.map_none, Option.getD_some, Option.getD_none, Nat.reduceAdd, Nat.reduceSub, if_true, reduceIte, Nat.reduceEqDiff, decide_true, decide_false, Bool.not_true, Bool.not_false, Bool.false_eq_true, ne_eq, not_false_eq_true, ix_ref, q]
theorem at_last_run {I n : Bool → Nat} {cl : Bool → Bool} {tld room : Nat} {ρ : Nat → Rl} {S : Sto} {told : List (Nat × Nat)} (h1 : ∀ w, cl w = false → RO ρ S w room (I w) (n w)) (h2 : ∀ w, cl w = true → RC ρ S w (I w)) (T : TOLD ρ S tld room told) (hT : told.length ≤ 300) (hr : room ≤ 100) (hr0 : 0 < room) :
    ∃ S', p__law_at_last [.list [.ref (I false), .ref (I true)], .list [.ref (n false), .ref (n true)], .list [.bool (cl false), .bool (cl true)], .ref tld] S = some (.ok (.bool true), S') := by
  have t0 := tg_lt false
  -- the first loop
  obtain ⟨S1, ρ1, told1, e1, o1, f1, T1, l1⟩ := last1 (s5 := .no) (s6 := .no) (s7 := .no) false (h1 false) (h2 false) T (by omega)
  obtain ⟨S2, ρ2, told2, e2, o2, f2, T2, l2⟩ := last1 (s5 := .no) (s6 := .no) (s7 := .no) true (fun h => (h1 true h).fr f1 (by decide) (by decide)) (fun h => (h2 true h).fr f1 (by decide)) T1 (by omega)
  have o1' : cl false = false → RO ρ2 S2 false room (I false) (n false) := fun h => (o1 h).fr f2 (by decide) (by decide)
  -- the told lists
  have es := same_loop T2 (by omega) 1000 0 (by omega)
  have z1000 := sz 1000 (by decide)
  obtain ⟨S3, t5, t6, e3, f3⟩ := spoil_loop (ρ := ρ2) (tld := tld) (told := told2) 1000 0 room S2 (.val (.list [.ref (I false), .ref (I true)])) (.val (.list [.ref (n false), .ref (n true)])) (.val (.list [.bool (cl false), .bool (cl true)])) (.val (.ref tld)) (.val (.int (wi true))) .no .no .no ⟨T2.ft, T2.rt, fun p hp => by
    obtain ⟨X, a1, a2, a3, a4, a5⟩ := T2.el p hp
    exact ⟨X, (fun z => by rw [z] at a1; simp at a1; omega), by omega, a2, a4⟩⟩ (by omega) (by omega)
  have r1 : cl false = false → RO ρ2 S3 false room (I false) (n false) := fun h => (o1' h).fr f3 (by decide) (by decide)
  have r2 : cl true = false → RO ρ2 S3 true room (I true) (n true) := fun h => (o2 h).fr f3 (by decide) (by decide)
  obtain ⟨S4, ρ4, t7, e4, f4⟩ := last3 (tld := tld) (s5 := t5) (s6 := t6) (s7 := .no) false r1 hr
  obtain ⟨S5, ρ5, t7', e5, f5⟩ := last3 (tld := tld) (s5 := t5) (s6 := t6) (s7 := t7) true (fun h => (r2 h).fr f4 (by decide) (by decide)) hr
  refine ⟨S5, ?_⟩
  unfold p__law_at_last
  refine (bodyS_run rfl).trans ?_
  show outS (ssSeq _ _ (dL I n cl tld .no .no .no .no) S) = _
  have hrg : ∀ (δ : DS) (S : Sto), sPure (dRng1 (dCons (dC (.int 2)) dNil)) δ S = some (.ok [.int (wi false), .int (wi true)], S) := fun δ S => by
    simp only [sPure, dRng1, bodyD, outD, startD, dsNext, dsSeq, dsIf, dsRet, dsRetN, dsAsg, dsOwn, dsFrz, frz, dsFor, dsAppend, dsSetI, ownAt, dVar, dPk, dC, dOp, dCmp, dB, dTru, dNot, dNotV, dAndV, dOrV, dAnd, dOr, dCall, dCons, dNil, dTup, dLst, dOwn, dComp, dC1, dSeqOf, dgName, dgTup, dgCons, dgNil, dSlL, dPart, dNoPart, dEnum, dZip, dListOf, dAddL, liftD, slAt, dYes, dIf, gAdd_i, gSub_i, gDiv_n, gMod_n, gNeg_i, asB_b, asI_i, listD_l, seqD_l, seqD_t, gLen_l, gLen_t, gIx_l, gIx_t, cEq_i, cEq_s, cEq_b, cNe_i, cNe_s, cLt_i, cLe_i, cGt_i, cGe_i, cNotN_i, cNotN_n, cNotN_s, cNotN_l, cNotN_t, cIsN_i, cIsN_n, cIsN_s, cIsN_l, cIsN_t, isi_int, isi_bool, isi_str, List.length_cons, List.length_nil, List.map_cons, List.map_nil, List.replicate, List.nil_append, List.cons_append, List.getElem?_cons_zero, List.getElem?_cons_succ, List.set_cons_zero, List.set_cons_succ, Option.bind_some, Option.map_some, Option.bind_none, Option.map_none, Option.getD_some, Option.getD_none, Nat.reduceAdd, Nat.reduceSub, if_true, reduceIte, Nat.reduceEqDiff, decide_true, decide_false, Bool.not_true, Bool.not_false, Bool.false_eq_true, ne_eq, not_false_eq_true, rng_two]
  have g1 : ssFor (sPure (dRng1 (dCons (dC (.int (2))) dNil))) (dgName 4) b__law_at_last_1 (dL I n cl tld .no .no .no .no) S = some (.nx (dL I n cl tld (.val (.int (wi true))) .no .no .no), S2) := (ssFor_of (hrg _ _)).trans ((ssForGo_nx rfl e1).trans ((ssForGo_nx rfl e2).trans rfl))
  rw [ssSeq_nx g1]
  have g2 : ssIf (sNot (sTru (sC1 gAll (sCompL 1000 [none, none] (siLive (sPure (dVar 3))) (dgSeq 2 (dgCons (dgName 0) (dgCons (dgName 1) dgNil))) (sPure dYes) (sCall p__law_same_list (sPure (dCons (dVar 0) (dCons (dVar 1) dNil))))))))
      (ssPure (dsRet (dC (.bool false))))
      (ssPure dsNext) (dL I n cl tld (.val (.int (wi true))) .no .no .no) S2 = some (.nx (dL I n cl tld (.val (.int (wi true))) .no .no .no), S2) := by
    have g : sCompL 1000 [none, none] (siLive (sPure (dVar 3))) (dgSeq 2 (dgCons (dgName 0) (dgCons (dgName 1) dgNil))) (sPure dYes) (sCall p__law_same_list (sPure (dCons (dVar 0) (dCons (dVar 1) dNil)))) (dL I n cl tld (.val (.int (wi true))) .no .no .no) S2 = some (.ok (.list ((List.replicate (told2.length - 0) true).map .bool)), S2) := by
      have hv : siLive (sPure (dVar 3)) (dL I n cl tld (.val (.int (wi true))) .no .no .no) S2 = some (.ok tld, S2) := by simp only [dL, bodyS, outS, ssSeq, ssIf, ssRet, ssAsg, ssExpr, ssPure, soB, sBind, sOk, sPure, sFldR, sMeth, sCall, sCallD, noX, outP, sNil, sCons, sTru, sNot, sAnd, sOr, sAndV, sOrV, sNotV, sB, sCmp, sC1, sTup, sLst, sLstS, sLen, gLenS, sIx, gIxS, sIsi, gIsiS, sEq, ssFrz, siLive, ssForL, sCompL, Option.map_eq_map, bodyD, outD, startD, dsNext, dsSeq, dsIf, dsRet, dsRetN, dsAsg, dsOwn, dsFrz, frz, dsFor, dsAppend, dsSetI, ownAt, dVar, dPk, dC, dOp, dCmp, dB, dTru, dNot, dNotV, dAndV, dOrV, dAnd, dOr, dCall, dCons, dNil, dTup, dLst, dOwn, dComp, dC1, dSeqOf, dgName, dgTup, dgCons, dgNil, dSlL, dPart, dNoPart, dEnum, dZip, dListOf, dAddL, liftD, slAt, dYes, dIf, gAdd_i, gSub_i, gDiv_n, gMod_n, gNeg_i, asB_b, asI_i, listD_l, seqD_l, seqD_t, gLen_l, gLen_t, gIx_l, gIx_t, cEq_i, cEq_s, cEq_b, cNe_i, cNe_s, cLt_i, cLe_i, cGt_i, cGe_i, cNotN_i, cNotN_n, cNotN_s, cNotN_l, cNotN_t, cIsN_i, cIsN_n, cIsN_s, cIsN_l, cIsN_t, isi_int, isi_bool, isi_str, List.length_cons, List.length_nil, List.map_cons, List.map_nil, List.replicate, List.nil_append, List.cons_append, List.getElem?_cons_zero, List.getElem?_cons_succ, List.set_cons_zero, List.set_cons_succ, Option.bind_some, Option.map_some, Option.bind_none, Option.map_none, Option.getD_some, Option.getD_none, Nat.reduceAdd, Nat.reduceSub, if_true, reduceIte, Nat.reduceEqDiff, decide_true, decide_false, Bool.not_true, Bool.not_false, Bool.false_eq_true, ne_eq, not_false_eq_true, lst_at T2.ft]
      exact sCompL_of hv z1000 es
    refine ssIf_f ?_
    unfold sNot sTru sC1
    rw [g]
    simp only [sBind, sOk, gAll_map, all_rep, Option.map_some, asB_b, Bool.not_true]
  rw [ssSeq_nx g2]
  have g3 : ssForL 1000 (siLive (sPure (dVar 3))) (dgSeq 2 (dgCons (dgName 5) (dgCons (dgName 6) dgNil))) b__law_at_last_2 (dL I n cl tld (.val (.int (wi true))) .no .no .no) S2 = some (.nx (dL I n cl tld (.val (.int (wi true))) t5 t6 .no), S3) := by
    have hv : siLive (sPure (dVar 3)) (dL I n cl tld (.val (.int (wi true))) .no .no .no) S2 = some (.ok tld, S2) := by simp only [dL, bodyS, outS, ssSeq, ssIf, ssRet, ssAsg, ssExpr, ssPure, soB, sBind, sOk, sPure, sFldR, sMeth, sCall, sCallD, noX, outP, sNil, sCons, sTru, sNot, sAnd, sOr, sAndV, sOrV, sNotV, sB, sCmp, sC1, sTup, sLst, sLstS, sLen, gLenS, sIx, gIxS, sIsi, gIsiS, sEq, ssFrz, siLive, ssForL, sCompL, Option.map_eq_map, bodyD, outD, startD, dsNext, dsSeq, dsIf, dsRet, dsRetN, dsAsg, dsOwn, dsFrz, frz, dsFor, dsAppend, dsSetI, ownAt, dVar, dPk, dC, dOp, dCmp, dB, dTru, dNot, dNotV, dAndV, dOrV, dAnd, dOr, dCall, dCons, dNil, dTup, dLst, dOwn, dComp, dC1, dSeqOf, dgName, dgTup, dgCons, dgNil, dSlL, dPart, dNoPart, dEnum, dZip, dListOf, dAddL, liftD, slAt, dYes, dIf, gAdd_i, gSub_i, gDiv_n, gMod_n, gNeg_i, asB_b, asI_i, listD_l, seqD_l, seqD_t, gLen_l, gLen_t, gIx_l, gIx_t, cEq_i, cEq_s, cEq_b, cNe_i, cNe_s, cLt_i, cLe_i, cGt_i, cGe_i, cNotN_i, cNotN_n, cNotN_s, cNotN_l, cNotN_t, cIsN_i, cIsN_n, cIsN_s, cIsN_l, cIsN_t, isi_int, isi_bool, isi_str, List.length_cons, List.length_nil, List.map_cons, List.map_nil, List.replicate, List.nil_append, List.cons_append, List.getElem?_cons_zero, List.getElem?_cons_succ, List.set_cons_zero, List.set_cons_succ, Option.bind_some, Option.map_some, Option.bind_none, Option.map_none, Option.getD_some, Option.getD_none, Nat.reduceAdd, Nat.reduceSub, if_true, reduceIte, Nat.reduceEqDiff, decide_true, decide_false, Bool.not_true, Bool.not_false, Bool.false_eq_true, ne_eq, not_false_eq_true, lst_at T2.ft]
    unfold ssForL
    rw [hv]
    exact e3
  rw [ssSeq_nx g3]
  have g4 : ssFor (sPure (dRng1 (dCons (dC (.int (2))) dNil))) (dgName 4) b__law_at_last_3 (dL I n cl tld (.val (.int (wi true))) t5 t6 .no) S3 = some (.nx (dL I n cl tld (.val (.int (wi true))) t5 t6 t7'), S5) := (ssFor_of (hrg _ _)).trans ((ssForGo_nx rfl e4).trans ((ssForGo_nx rfl e5).trans rfl))
  rw [ssSeq_nx g4]
  rfl
theorem fmod_in (i : Int) {j : Int} (h : 0 < j) : 0 ≤ i.fmod j ∧ i.fmod j < j := ⟨Int.fmod_nonneg_of_pos i h, Int.fmod_lt_of_pos i h⟩
theorem mixed_run (one : Int) (k : Nat) (hk : k < 1000) : ∃ m : Int, p__law_mixed [.int one, .int k] = some (.int m) ∧ 0 ≤ m := by
  have g1 : gMul (.int one) (.int 48271) = some (.int (one * 48271)) := gMul_i (okMul_r (by decide) (by decide))
  have g2 : gMul (.int (k : Int)) (.int k) = some (.int ((k : Int) * k)) := gMul_i (okMul_l (by omega) (by omega))
  have g3 : gMul (.int ((k : Int) * k)) (.int 7919) = some (.int ((k : Int) * k * 7919)) := gMul_i (okMul_r (by decide) (by decide))
  have hm := fmod_in (one * 48271 + (k : Int) * k * 7919 + 101) (j := 2147483647) (by decide)
  generalize hx : (one * 48271 + (k : Int) * k * 7919 + 101).fmod 2147483647 = x at hm
  have g4 : gMul (.int x) (.int x) = some (.int (x * x)) := gMul_i (okMul_l (by omega) (by omega))
  refine ⟨(x * x).fmod 2147483629, ?_, (fmod_in (x * x) (by decide)).1⟩
  simp (config := {decide := true}) only [p__law_mixed, bodyD, outD, startD, dsNext, dsSeq, dsIf, dsRet, dsRetN, dsAsg, dsOwn, dsFrz, frz, dsFor, dsAppend, dsSetI, ownAt, dVar, dPk, dC, dOp, dCmp, dB, dTru, dNot, dNotV, dAndV, dOrV, dAnd, dOr, dCall, dCons, dNil, dTup, dLst, dOwn, dComp, dC1, dSeqOf, dgName, dgTup, dgCons, dgNil, dSlL, dPart, dNoPart, dEnum, dZip, dListOf, dAddL, liftD, slAt, dYes, dIf, gAdd_i, gSub_i, gDiv_n, gMod_n, gNeg_i, asB_b, asI_i, listD_l, seqD_l, seqD_t, gLen_l, gLen_t, gIx_l, gIx_t, cEq_i, cEq_s, cEq_b, cNe_i, cNe_s, cLt_i, cLe_i, cGt_i, cGe_i, cNotN_i, cNotN_n, cNotN_s, cNotN_l, cNotN_t, cIsN_i, cIsN_n, cIsN_s, cIsN_l, cIsN_t, isi_int, isi_bool, isi_str, List.length_cons, List.length_nil, List.map_cons, List.map_nil, List.replicate, List.nil_append, List.cons_append, List.getElem?_cons_zero, List.getElem?_cons_succ, List.set_cons_zero, List.set_cons_succ, Option.bind_some, Option.map_some, Option.bind_none, Option.map_none, Option.getD_some, Option.getD_none, Nat.reduceAdd, Nat.reduceSub, if_true, reduceIte, Nat.reduceEqDiff, decide_true, decide_false, Bool.not_true, Bool.not_false, Bool.false_eq_true, ne_eq, not_false_eq_true, g1, g2, g3, hx, g4]
theorem number_run (c : Int) : ∃ x : Int, p__law_number_by [.int c] = some (.int x) := by
  have g1 : gMul (.int c) (.int 69621) = some (.int (c * 69621)) := gMul_i (okMul_r (by decide) (by decide))
  refine ⟨(c * 69621).fmod 4294967296 - 2147483648, ?_⟩
  simp (config := {decide := true}) only [p__law_number_by, bodyD, outD, startD, dsNext, dsSeq, dsIf, dsRet, dsRetN, dsAsg, dsOwn, dsFrz, frz, dsFor, dsAppend, dsSetI, ownAt, dVar, dPk, dC, dOp, dCmp, dB, dTru, dNot, dNotV, dAndV, dOrV, dAnd, dOr, dCall, dCons, dNil, dTup, dLst, dOwn, dComp, dC1, dSeqOf, dgName, dgTup, dgCons, dgNil, dSlL, dPart, dNoPart, dEnum, dZip, dListOf, dAddL, liftD, slAt, dYes, dIf, gAdd_i, gSub_i, gDiv_n, gMod_n, gNeg_i, asB_b, asI_i, listD_l, seqD_l, seqD_t, gLen_l, gLen_t, gIx_l, gIx_t, cEq_i, cEq_s, cEq_b, cNe_i, cNe_s, cLt_i, cLe_i, cGt_i, cGe_i, cNotN_i, cNotN_n, cNotN_s, cNotN_l, cNotN_t, cIsN_i, cIsN_n, cIsN_s, cIsN_l, cIsN_t, isi_int, isi_bool, isi_str, List.length_cons, List.length_nil, List.map_cons, List.map_nil, List.replicate, List.nil_append, List.cons_append, List.getElem?_cons_zero, List.getElem?_cons_succ, List.set_cons_zero, List.set_cons_succ, Option.bind_some, Option.map_some, Option.bind_none, Option.map_none, Option.getD_some, Option.getD_none, Nat.reduceAdd, Nat.reduceSub, if_true, reduceIte, Nat.reduceEqDiff, decide_true, decide_false, Bool.not_true, Bool.not_false, Bool.false_eq_true, ne_eq, not_false_eq_true, g1]
theorem ix_gp (i : Int) (h0 : 0 ≤ i) (h1 : i < 2) : atI [W.str (Str.ofString "get"), .str (Str.ofString "put")] i = some (.str (wd (decide (i = 1)))) := by
  have : i = 0 ∨ i = 1 := by omega
  rcases this with rfl | rfl
  · exact at0 _ _
  · exact at1 _ _ _
theorem deed_run (c : Int) (room : Nat) (hr : 13 ≤ room) : (∃ l ln : W, p__law_deed_by [.int c, .int room] = some (.list [.str (Str.ofString "met"), l, .int 0, ln])) ∨ ∃ d : Dd, p__law_deed_by [.int c, .int room] = some (enc4 d) ∧ 0 ≤ d.place ∧ d.place < room := by
  have hl := fmod_in c (j := 8) (by decide)
  have hk := fmod_in (c.fdiv 8) (j := 16) (by decide)
  have hn : ¬ (room : Int) = 0 := by omega
  have hp := fmod_in (c.fdiv 128) (j := room) (by omega)
  have z4 := sz 4 (by decide)
  have z2 := sz 2 (by decide)
  by_cases h0 : (c.fdiv 8).fmod 16 = 0
  · left
    refine ⟨.int (c.fmod 8), .int (1 + (c.fdiv 128).fmod 200), ?_⟩
    simp (config := {decide := true}) only [p__law_deed_by, bodyD, outD, startD, dsNext, dsSeq, dsIf, dsRet, dsRetN, dsAsg, dsOwn, dsFrz, frz, dsFor, dsAppend, dsSetI, ownAt, dVar, dPk, dC, dOp, dCmp, dB, dTru, dNot, dNotV, dAndV, dOrV, dAnd, dOr, dCall, dCons, dNil, dTup, dLst, dOwn, dComp, dC1, dSeqOf, dgName, dgTup, dgCons, dgNil, dSlL, dPart, dNoPart, dEnum, dZip, dListOf, dAddL, liftD, slAt, dYes, dIf, gAdd_i, gSub_i, gDiv_n, gMod_n, gNeg_i, asB_b, asI_i, listD_l, seqD_l, seqD_t, gLen_l, gLen_t, gIx_l, gIx_t, cEq_i, cEq_s, cEq_b, cNe_i, cNe_s, cLt_i, cLe_i, cGt_i, cGe_i, cNotN_i, cNotN_n, cNotN_s, cNotN_l, cNotN_t, cIsN_i, cIsN_n, cIsN_s, cIsN_l, cIsN_t, isi_int, isi_bool, isi_str, List.length_cons, List.length_nil, List.map_cons, List.map_nil, List.replicate, List.nil_append, List.cons_append, List.getElem?_cons_zero, List.getElem?_cons_succ, List.set_cons_zero, List.set_cons_succ, Option.bind_some, Option.map_some, Option.bind_none, Option.map_none, Option.getD_some, Option.getD_none, Nat.reduceAdd, Nat.reduceSub, if_true, reduceIte, Nat.reduceEqDiff, decide_true, decide_false, Bool.not_true, Bool.not_false, Bool.false_eq_true, ne_eq, not_false_eq_true, h0, if_pos z4]
  · right
    by_cases h3 : (c.fdiv 8).fmod 16 < 3
    · refine ⟨⟨decide ((c.fdiv 8).fmod 16 - 1 = 1), c.fmod 8, (c.fdiv 128).fmod room, 1 + (c.fdiv 128).fmod 200⟩, ?_, hp.1, hp.2⟩
      have g := ix_gp ((c.fdiv 8).fmod 16 - 1) (by omega) (by omega)
      simp (config := {decide := true}) only [p__law_deed_by, bodyD, outD, startD, dsNext, dsSeq, dsIf, dsRet, dsRetN, dsAsg, dsOwn, dsFrz, frz, dsFor, dsAppend, dsSetI, ownAt, dVar, dPk, dC, dOp, dCmp, dB, dTru, dNot, dNotV, dAndV, dOrV, dAnd, dOr, dCall, dCons, dNil, dTup, dLst, dOwn, dComp, dC1, dSeqOf, dgName, dgTup, dgCons, dgNil, dSlL, dPart, dNoPart, dEnum, dZip, dListOf, dAddL, liftD, slAt, dYes, dIf, gAdd_i, gSub_i, gDiv_n, gMod_n, gNeg_i, asB_b, asI_i, listD_l, seqD_l, seqD_t, gLen_l, gLen_t, gIx_l, gIx_t, cEq_i, cEq_s, cEq_b, cNe_i, cNe_s, cLt_i, cLe_i, cGt_i, cGe_i, cNotN_i, cNotN_n, cNotN_s, cNotN_l, cNotN_t, cIsN_i, cIsN_n, cIsN_s, cIsN_l, cIsN_t, isi_int, isi_bool, isi_str, List.length_cons, List.length_nil, List.map_cons, List.map_nil, List.replicate, List.nil_append, List.cons_append, List.getElem?_cons_zero, List.getElem?_cons_succ, List.set_cons_zero, List.set_cons_succ, Option.bind_some, Option.map_some, Option.bind_none, Option.map_none, Option.getD_some, Option.getD_none, Nat.reduceAdd, Nat.reduceSub, if_true, reduceIte, Nat.reduceEqDiff, decide_true, decide_false, Bool.not_true, Bool.not_false, Bool.false_eq_true, ne_eq, not_false_eq_true, h0, h3, hn, if_pos z4, if_pos z2, g]
      rfl
    · by_cases h6 : (c.fdiv 8).fmod 16 < 6
      · refine ⟨⟨false, c.fmod 8, room - 1, 1 + (c.fdiv 128).fmod 200⟩, ?_, by show 0 ≤ (room : Int) - 1; omega, by show (room : Int) - 1 < room; omega⟩
        simp (config := {decide := true}) only [p__law_deed_by, bodyD, outD, startD, dsNext, dsSeq, dsIf, dsRet, dsRetN, dsAsg, dsOwn, dsFrz, frz, dsFor, dsAppend, dsSetI, ownAt, dVar, dPk, dC, dOp, dCmp, dB, dTru, dNot, dNotV, dAndV, dOrV, dAnd, dOr, dCall, dCons, dNil, dTup, dLst, dOwn, dComp, dC1, dSeqOf, dgName, dgTup, dgCons, dgNil, dSlL, dPart, dNoPart, dEnum, dZip, dListOf, dAddL, liftD, slAt, dYes, dIf, gAdd_i, gSub_i, gDiv_n, gMod_n, gNeg_i, asB_b, asI_i, listD_l, seqD_l, seqD_t, gLen_l, gLen_t, gIx_l, gIx_t, cEq_i, cEq_s, cEq_b, cNe_i, cNe_s, cLt_i, cLe_i, cGt_i, cGe_i, cNotN_i, cNotN_n, cNotN_s, cNotN_l, cNotN_t, cIsN_i, cIsN_n, cIsN_s, cIsN_l, cIsN_t, isi_int, isi_bool, isi_str, List.length_cons, List.length_nil, List.map_cons, List.map_nil, List.replicate, List.nil_append, List.cons_append, List.getElem?_cons_zero, List.getElem?_cons_succ, List.set_cons_zero, List.set_cons_succ, Option.bind_some, Option.map_some, Option.bind_none, Option.map_none, Option.getD_some, Option.getD_none, Nat.reduceAdd, Nat.reduceSub, if_true, reduceIte, Nat.reduceEqDiff, decide_true, decide_false, Bool.not_true, Bool.not_false, Bool.false_eq_true, ne_eq, not_false_eq_true, h0, h3, h6, if_pos z4]
        rfl
      · have hq := fmod_in ((c.fdiv 8).fmod 16) (j := 2) (by decide)
        have g := ix_gp (((c.fdiv 8).fmod 16).fmod 2) hq.1 hq.2
        refine ⟨⟨decide (((c.fdiv 8).fmod 16).fmod 2 = 1), c.fmod 8, c.fmod 8, 1 + (c.fdiv 128).fmod 200⟩, ?_, hl.1, by show c.fmod 8 < room; omega⟩
        simp (config := {decide := true}) only [p__law_deed_by, bodyD, outD, startD, dsNext, dsSeq, dsIf, dsRet, dsRetN, dsAsg, dsOwn, dsFrz, frz, dsFor, dsAppend, dsSetI, ownAt, dVar, dPk, dC, dOp, dCmp, dB, dTru, dNot, dNotV, dAndV, dOrV, dAnd, dOr, dCall, dCons, dNil, dTup, dLst, dOwn, dComp, dC1, dSeqOf, dgName, dgTup, dgCons, dgNil, dSlL, dPart, dNoPart, dEnum, dZip, dListOf, dAddL, liftD, slAt, dYes, dIf, gAdd_i, gSub_i, gDiv_n, gMod_n, gNeg_i, asB_b, asI_i, listD_l, seqD_l, seqD_t, gLen_l, gLen_t, gIx_l, gIx_t, cEq_i, cEq_s, cEq_b, cNe_i, cNe_s, cLt_i, cLe_i, cGt_i, cGe_i, cNotN_i, cNotN_n, cNotN_s, cNotN_l, cNotN_t, cIsN_i, cIsN_n, cIsN_s, cIsN_l, cIsN_t, isi_int, isi_bool, isi_str, List.length_cons, List.length_nil, List.map_cons, List.map_nil, List.replicate, List.nil_append, List.cons_append, List.getElem?_cons_zero, List.getElem?_cons_succ, List.set_cons_zero, List.set_cons_succ, Option.bind_some, Option.map_some, Option.bind_none, Option.map_none, Option.getD_some, Option.getD_none, Nat.reduceAdd, Nat.reduceSub, if_true, reduceIte, Nat.reduceEqDiff, decide_true, decide_false, Bool.not_true, Bool.not_false, Bool.false_eq_true, ne_eq, not_false_eq_true, h0, h3, h6, if_pos z4, if_pos z2, g]
        rfl
theorem nums_loop (fe : DS → Option W) (hf : ∀ k : Nat, k < 1000 → ∃ x : Int, fe [.val (.int k)] = some (.int x)) (S : Sto) : ∀ (m k : Nat), k + m < 1000 → ∃ B : List Int, B.length = m ∧ sCompGo (dgName 0) (sPure dYes) (sPure fe) [.no] (rngD k m) S = some (.ok (B.map .int), S)
  | 0, k, _ => ⟨[], rfl, rfl⟩
  | m + 1, k, hk => by
    obtain ⟨B, h1, h2⟩ := nums_loop fe hf S m (k + 1) (by omega)
    obtain ⟨x, hx⟩ := hf k (by omega)
    refine ⟨x :: B, by simp [h1], ?_⟩
    rw [rngD_succ, List.map_cons]
    refine sCompGo_step _ _ _ [.val (.int k)] _ _ _ _ _ S _ rfl ?_ h2
    simp only [sPure, hx, Option.map_some]
theorem sCompS_of {ix : List (Option Nat)} {fi : DS → Sto → SM (List W)} {h : W → DS → Option DS} {c : DS → Sto → SM Bool} {fe : DS → Sto → SM W} {δ : DS} {S S0 S1 : Sto} {ds es : List W} (h1 : fi δ S = some (.ok ds, S0)) (h2 : ds.length ≤ sizeLine) (h3 : sCompGo h c fe (liftD ix δ) ds S0 = some (.ok es, S1)) : sCompS ix fi h c fe δ S = some (.ok (.ref S1.length), S1 ++ [.lst es]) := by
  unfold sCompS
  rw [h1]
  show (if ds.length ≤ sizeLine then _ else _) = _
  rw [if_pos h2, h3]
  rfl
theorem nums_run (fe : DS → Option W) (hf : ∀ k : Nat, k < 1000 → ∃ x : Int, fe [.val (.int k)] = some (.int x)) (S : Sto) (room : Nat) (hr : room ≤ 100) (δ : DS) (hδ : dVar 1 δ = some (.int room)) : ∃ B : List Int, B.length = room ∧ sCompS [none] (sPure (dRng1 (dCons (dVar 1) dNil))) (dgName 0) (sPure dYes) (sPure fe) δ S = some (.ok (.ref S.length), S ++ [.lst (B.map .int)]) := by
  obtain ⟨B, h1, h2⟩ := nums_loop fe hf S room 0 (by omega)
  refine ⟨B, h1, sCompS_of (ds := rngD 0 room) (S0 := S) ?_ ?_ h2⟩
  · have hg := rng1_run (f := dCons (dVar 1) dNil) (δ := δ) (n := room) (by simp only [dCons, dNil, hδ, Option.bind_some, Option.map_some]) (by omega)
    show (dRng1 (dCons (dVar 1) dNil) δ).map _ = _
    rw [hg]
    rfl
  · simp only [rngD, List.length_map, List.length_range]
    exact sz _ (by omega)
theorem make_run {S : Sto} {h : Nat} {es : List W} (hS : S[h]? = some (.lst es)) (fa : DS → Option (List W)) (δ : DS) (hf : fa δ = some [.ref h]) : sMake "Shared" p_Shared___init__ (sPure fa) δ S = some (.ok (.ref S.length), S ++ [.ins (Str.ofString "Shared") (shF (S.length + 1) (S.length + 2) .none), .lst es, .dK []]) := by
  have e : p_Shared___init__ [.ref S.length, .ref h] (S ++ [.ins (Str.ofString "Shared") []]) = some (.ok .none, S ++ [.ins (Str.ofString "Shared") (shF (S.length + 1) (S.length + 2) .none), .lst es, .dK []]) := by
    have h1 : (S ++ [Ob.ins (Str.ofString "Shared") []])[h]? = some (.lst es) := get_app hS
    have a1 : ∀ fs r, insAt (Str.ofString "Shared") (.ref S.length) (S ++ .ins (Str.ofString "Shared") fs :: r) = some (S.length, fs) := fun fs r => by simp [insAt, obAt]
    have a2 : ∀ (x y : Ob) r, (S ++ x :: r).set S.length y = S ++ y :: r := fun x y r => by simp
    have n1 : ¬ Str.ofString "boxes" = Str.ofString "clash" := by decide +kernel
    have n2 : ¬ Str.ofString "boxes" = Str.ofString "touches" := by decide +kernel
    have n3 : ¬ Str.ofString "clash" = Str.ofString "touches" := by decide +kernel
    simp (config := {decide := true}) only [p_Shared___init__, bodyS, outS, ssSeq, ssIf, ssRet, ssAsg, ssExpr, ssPure, soB, sBind, sOk, sPure, sFldR, sMeth, sCall, sCallD, noX, outP, sNil, sCons, sTru, sNot, sAnd, sOr, sAndV, sOrV, sNotV, sB, sCmp, sC1, sTup, sLst, sLstS, sLen, gLenS, sIx, gIxS, sIsi, gIsiS, sEq, ssFrz, siLive, ssForL, sCompL, Option.map_eq_map, bodyD, outD, startD, dsNext, dsSeq, dsIf, dsRet, dsRetN, dsAsg, dsOwn, dsFrz, frz, dsFor, dsAppend, dsSetI, ownAt, dVar, dPk, dC, dOp, dCmp, dB, dTru, dNot, dNotV, dAndV, dOrV, dAnd, dOr, dCall, dCons, dNil, dTup, dLst, dOwn, dComp, dC1, dSeqOf, dgName, dgTup, dgCons, dgNil, dSlL, dPart, dNoPart, dEnum, dZip, dListOf, dAddL, liftD, slAt, dYes, dIf, gAdd_i, gSub_i, gDiv_n, gMod_n, gNeg_i, asB_b, asI_i, listD_l, seqD_l, seqD_t, gLen_l, gLen_t, gIx_l, gIx_t, cEq_i, cEq_s, cEq_b, cNe_i, cNe_s, cLt_i, cLe_i, cGt_i, cGe_i, cNotN_i, cNotN_n, cNotN_s, cNotN_l, cNotN_t, cIsN_i, cIsN_n, cIsN_s, cIsN_l, cIsN_t, isi_int, isi_bool, isi_str, List.length_cons, List.length_nil, List.map_cons, List.map_nil, List.replicate, List.nil_append, List.cons_append, List.getElem?_cons_zero, List.getElem?_cons_succ, List.set_cons_zero, List.set_cons_succ, Option.bind_some, Option.map_some, Option.bind_none, Option.map_none, Option.getD_some, Option.getD_none, Nat.reduceAdd, Nat.reduceSub, if_true, reduceIte, Nat.reduceEqDiff, decide_true, decide_false, Bool.not_true, Bool.not_false, Bool.false_eq_true, ne_eq, not_false_eq_true, ssFld, sListS, seqS, lst_at h1, List.append_assoc, a1, a2, putW, n1, n2, n3, sDK, List.length_append, shF]
  unfold sMake
  simp only [sPure, hf, Option.map_some, sBind, e, noX]
def upd2 {α : Type} (f : Bool → α) (w : Bool) (x : α) : Bool → α := fun v => if v = w then x else f v
theorem upd2_same {α : Type} (f : Bool → α) (w : Bool) (x : α) : upd2 f w x w = x := if_pos rfl
theorem upd2_ne {α : Type} (f : Bool → α) {w v : Bool} (x : α) (h : v ≠ w) : upd2 f w x v = f v := if_neg h
theorem set_ref (t : Bool → Nat) (w : Bool) (x : Nat) : [W.ref (t false), .ref (t true)].set (tg w) (.ref x) = [.ref (upd2 t w x false), .ref (upd2 t w x true)] := by cases w <;> rfl
theorem set_bool (t : Bool → Bool) (w : Bool) (x : Bool) : [W.bool (t false), .bool (t true)].set (tg w) (.bool x) = [.bool (upd2 t w x false), .bool (upd2 t w x true)] := by cases w <;> rfl
theorem ixN2 (w : Bool) : ixN 2 (wi w) = some (tg w) := by cases w <;> rfl
theorem wd_met (a : Bool) : ¬ wd a = Str.ofString "met" := by cases a <;> decide +kernel
def dM (scr hd : W) (room : Nat) (I n : Bool → Nat) (cl : Bool → Bool) (out tld : Nat) (s8 s9 s10 s11 s12 s13 : Sl) : DS := [.val scr, .val (.int room), .val hd, .val (.list [.ref (n false), .ref (n true)]), .val (.list [.ref (I false), .ref (I true)]), .val (.ref out), .own [.bool (cl false), .bool (cl true)], .val (.ref tld), s8, s9, s10, s11, s12, s13]
def RT (ρ : Nat → Rl) (S : Sto) (w : Bool) (room I n t rest : Nat) : Prop := ∃ b dd B D kvs, RowOK ρ S (tg w) I b dd B D .none kvs ∧ B.length = room ∧ D.length + rest ≤ 100 ∧ S[n]? = some (.lst (B.map .int)) ∧ ρ n = (tg w + 2, 0, 0) ∧ S[t]? = some (.lst (D.map enc4)) ∧ ρ t = (tg w + 4, 0, 0)
theorem RT.fr {P : Nat → Prop} {ρ ρ' : Nat → Rl} {S S' : Sto} {w : Bool} {room I n t rest : Nat} (r : RT ρ S w room I n t (rest + 1)) (f : Fr P ρ S ρ' S') (h1 : ¬ P (tg w)) (h2 : ¬ P (tg w + 2)) (h3 : ¬ P (tg w + 4)) : RT ρ' S' w room I n t rest := by
  obtain ⟨b, dd, B, D, kvs, a1, a2, a3, a4, a5, a6, a7⟩ := r
  exact ⟨b, dd, B, D, kvs, a1.fr f h1, a2, by omega, f.get a4 (by rw [a5]; exact h2), f.role a4 a5, f.get a6 (by rw [a7]; exact h3), f.role a6 a7⟩
structure Inv (ρ : Nat → Rl) (S : Sto) (room : Nat) (I n : Bool → Nat) (cl : Bool → Bool) (t : Bool → Nat) (out tld : Nat) (told : List (Nat × Nat)) (rest : Nat) : Prop where
  o : ∀ w, cl w = false → RT ρ S w room (I w) (n w) (t w) rest
  c : ∀ w, cl w = true → RC ρ S w (I w)
  ot : S[out]? = some (.lst [.ref (t false), .ref (t true)])
  ro : ρ out = (6, 0, 0)
  T : TOLD ρ S tld room told
  l : told.length + rest ≤ 100
def bR : DS → Sto → SO := (ssIf (sPure (dAnd (dNot (dTru (dOp gIx (dPk 6) (dVar 11)))) (dCmp cEq (dOp gIx (dPk 12) (dC (.int (0)))) (dC (.str (Str.ofString "met"))))))
      (ssSeq (ssAppend (sPure (dVar 7)) (sLst (sCons (sMeth "Shared" "met" p_Shared_met (sPure (dOp gIx (dPk 4) (dVar 11))) (sPure dNil)) (sCons (sListS (sPure (dOp gIx (dPk 3) (dVar 11)))) sNil))))
    (ssSeq (ssSetI (sPure (dVar 5)) (sPure (dVar 11)) (sLstS (sPure dNil)))
    (ssIf (sCmp cNotN (sFldR "Shared" "clash" (sPure (dOp gIx (dPk 4) (dVar 11)))) (sPure (dC .none)))
      (ssPure (dsRet (dC (.bool false))))
      (ssPure dsNext))))
      (ssIf (sPure (dNot (dTru (dOp gIx (dPk 6) (dVar 11)))))
      (ssSeq (ssAsg (sCall p__law_touched (sCons (sPure (dOp gIx (dPk 4) (dVar 11))) (sCons (sPure (dOp gIx (dPk 3) (dVar 11))) (sCons (sIx (sPure (dVar 5)) (sPure (dVar 11))) (sCons (sPure (dVar 12)) (sCons (sPure (dCall p__law_number_by (dCons (dVar 10) dNil))) sNil)))))) (dgName 13))
    (ssSeq (ssPure (dsSetI 6 (dVar 11) (dB (dCmp cEq (dPk 13) (dC (.str (Str.ofString "clash")))))))
    (ssPure (dsIf (dCmp cEq (dPk 13) (dC (.str (Str.ofString "wrong"))))
      (dsRet (dC (.bool false)))
      dsNext))))
      (ssPure dsNext)))
theorem w_of (m : Int) : ∃ w, m.fmod 2 = wi w := by
  have h := fmod_in m (j := 2) (by decide)
  have : m.fmod 2 = 0 ∨ m.fmod 2 = 1 := by omega
  rcases this with h | h
  · exact ⟨false, h⟩
  · exact ⟨true, h⟩
theorem pre_run {scr hd : W} {room : Nat} {I n : Bool → Nat} {cl : Bool → Bool} {out tld k : Nat} {one m : Int} {w : Bool} {deed : W} {S : Sto} (s10 s11 s12 s13 : Sl) (hm : p__law_mixed [.int one, .int k] = some (.int m)) (hw : m.fmod 2 = wi w) (hd' : p__law_deed_by [.int (m.fdiv 2), .int room] = some deed) :
    b_law_1 (dM scr hd room I n cl out tld (.val (.int k)) (.val (.int one)) s10 s11 s12 s13) S = bR (dM scr hd room I n cl out tld (.val (.int k)) (.val (.int one)) (.val (.int m)) (.val (.int (wi w))) (.val deed) s13) S := by
  show ssSeq _ (ssSeq _ (ssSeq _ bR)) _ S = _
  rw [ssSeq_nx (δ' := dM scr hd room I n cl out tld (.val (.int k)) (.val (.int one)) (.val (.int m)) s11 s12 s13) (S' := S) (by simp only [dM, bodyS, outS, ssSeq, ssIf, ssRet, ssAsg, ssExpr, ssPure, soB, sBind, sOk, sPure, sFldR, sMeth, sCall, sCallD, noX, outP, sNil, sCons, sTru, sNot, sAnd, sOr, sAndV, sOrV, sNotV, sB, sCmp, sC1, sTup, sLst, sLstS, sLen, gLenS, sIx, gIxS, sIsi, gIsiS, sEq, ssFrz, siLive, ssForL, sCompL, Option.map_eq_map, bodyD, outD, startD, dsNext, dsSeq, dsIf, dsRet, dsRetN, dsAsg, dsOwn, dsFrz, frz, dsFor, dsAppend, dsSetI, ownAt, dVar, dPk, dC, dOp, dCmp, dB, dTru, dNot, dNotV, dAndV, dOrV, dAnd, dOr, dCall, dCons, dNil, dTup, dLst, dOwn, dComp, dC1, dSeqOf, dgName, dgTup, dgCons, dgNil, dSlL, dPart, dNoPart, dEnum, dZip, dListOf, dAddL, liftD, slAt, dYes, dIf, gAdd_i, gSub_i, gDiv_n, gMod_n, gNeg_i, asB_b, asI_i, listD_l, seqD_l, seqD_t, gLen_l, gLen_t, gIx_l, gIx_t, cEq_i, cEq_s, cEq_b, cNe_i, cNe_s, cLt_i, cLe_i, cGt_i, cGe_i, cNotN_i, cNotN_n, cNotN_s, cNotN_l, cNotN_t, cIsN_i, cIsN_n, cIsN_s, cIsN_l, cIsN_t, isi_int, isi_bool, isi_str, List.length_cons, List.length_nil, List.map_cons, List.map_nil, List.replicate, List.nil_append, List.cons_append, List.getElem?_cons_zero, List.getElem?_cons_succ, List.set_cons_zero, List.set_cons_succ, Option.bind_some, Option.map_some, Option.bind_none, Option.map_none, Option.getD_some, Option.getD_none, Nat.reduceAdd, Nat.reduceSub, if_true, reduceIte, Nat.reduceEqDiff, decide_true, decide_false, Bool.not_true, Bool.not_false, Bool.false_eq_true, ne_eq, not_false_eq_true, hm])]
  rw [ssSeq_nx (δ' := dM scr hd room I n cl out tld (.val (.int k)) (.val (.int one)) (.val (.int m)) (.val (.int (wi w))) s12 s13) (S' := S) (by simp (config := {decide := true}) only [dM, bodyS, outS, ssSeq, ssIf, ssRet, ssAsg, ssExpr, ssPure, soB, sBind, sOk, sPure, sFldR, sMeth, sCall, sCallD, noX, outP, sNil, sCons, sTru, sNot, sAnd, sOr, sAndV, sOrV, sNotV, sB, sCmp, sC1, sTup, sLst, sLstS, sLen, gLenS, sIx, gIxS, sIsi, gIsiS, sEq, ssFrz, siLive, ssForL, sCompL, Option.map_eq_map, bodyD, outD, startD, dsNext, dsSeq, dsIf, dsRet, dsRetN, dsAsg, dsOwn, dsFrz, frz, dsFor, dsAppend, dsSetI, ownAt, dVar, dPk, dC, dOp, dCmp, dB, dTru, dNot, dNotV, dAndV, dOrV, dAnd, dOr, dCall, dCons, dNil, dTup, dLst, dOwn, dComp, dC1, dSeqOf, dgName, dgTup, dgCons, dgNil, dSlL, dPart, dNoPart, dEnum, dZip, dListOf, dAddL, liftD, slAt, dYes, dIf, gAdd_i, gSub_i, gDiv_n, gMod_n, gNeg_i, asB_b, asI_i, listD_l, seqD_l, seqD_t, gLen_l, gLen_t, gIx_l, gIx_t, cEq_i, cEq_s, cEq_b, cNe_i, cNe_s, cLt_i, cLe_i, cGt_i, cGe_i, cNotN_i, cNotN_n, cNotN_s, cNotN_l, cNotN_t, cIsN_i, cIsN_n, cIsN_s, cIsN_l, cIsN_t, isi_int, isi_bool, isi_str, List.length_cons, List.length_nil, List.map_cons, List.map_nil, List.replicate, List.nil_append, List.cons_append, List.getElem?_cons_zero, List.getElem?_cons_succ, List.set_cons_zero, List.set_cons_succ, Option.bind_some, Option.map_some, Option.bind_none, Option.map_none, Option.getD_some, Option.getD_none, Nat.reduceAdd, Nat.reduceSub, if_true, reduceIte, Nat.reduceEqDiff, decide_true, decide_false, Bool.not_true, Bool.not_false, Bool.false_eq_true, ne_eq, not_false_eq_true, hw])]
  rw [ssSeq_nx (δ' := dM scr hd room I n cl out tld (.val (.int k)) (.val (.int one)) (.val (.int m)) (.val (.int (wi w))) (.val deed) s13) (S' := S) (by simp (config := {decide := true}) only [dM, bodyS, outS, ssSeq, ssIf, ssRet, ssAsg, ssExpr, ssPure, soB, sBind, sOk, sPure, sFldR, sMeth, sCall, sCallD, noX, outP, sNil, sCons, sTru, sNot, sAnd, sOr, sAndV, sOrV, sNotV, sB, sCmp, sC1, sTup, sLst, sLstS, sLen, gLenS, sIx, gIxS, sIsi, gIsiS, sEq, ssFrz, siLive, ssForL, sCompL, Option.map_eq_map, bodyD, outD, startD, dsNext, dsSeq, dsIf, dsRet, dsRetN, dsAsg, dsOwn, dsFrz, frz, dsFor, dsAppend, dsSetI, ownAt, dVar, dPk, dC, dOp, dCmp, dB, dTru, dNot, dNotV, dAndV, dOrV, dAnd, dOr, dCall, dCons, dNil, dTup, dLst, dOwn, dComp, dC1, dSeqOf, dgName, dgTup, dgCons, dgNil, dSlL, dPart, dNoPart, dEnum, dZip, dListOf, dAddL, liftD, slAt, dYes, dIf, gAdd_i, gSub_i, gDiv_n, gMod_n, gNeg_i, asB_b, asI_i, listD_l, seqD_l, seqD_t, gLen_l, gLen_t, gIx_l, gIx_t, cEq_i, cEq_s, cEq_b, cNe_i, cNe_s, cLt_i, cLe_i, cGt_i, cGe_i, cNotN_i, cNotN_n, cNotN_s, cNotN_l, cNotN_t, cIsN_i, cIsN_n, cIsN_s, cIsN_l, cIsN_t, isi_int, isi_bool, isi_str, List.length_cons, List.length_nil, List.map_cons, List.map_nil, List.replicate, List.nil_append, List.cons_append, List.getElem?_cons_zero, List.getElem?_cons_succ, List.set_cons_zero, List.set_cons_succ, Option.bind_some, Option.map_some, Option.bind_none, Option.map_none, Option.getD_some, Option.getD_none, Nat.reduceAdd, Nat.reduceSub, if_true, reduceIte, Nat.reduceEqDiff, decide_true, decide_false, Bool.not_true, Bool.not_false, Bool.false_eq_true, ne_eq, not_false_eq_true, hd'])]
theorem cNot_none : cNotN .none .none = some false := rfl
theorem step_run {ρ : Nat → Rl} {S : Sto} {scr hd : W} {room : Nat} {I n : Bool → Nat} {cl : Bool → Bool} {t : Bool → Nat} {out tld rest k : Nat} {told : List (Nat × Nat)} (one : Int) (hr : 13 ≤ room) (hk : k < 1000) (V : Inv ρ S room I n cl t out tld told (rest + 1)) (s10 s11 s12 s13 : Sl) :
    ∃ S' ρ' cl' t' told' u10 u11 u12 u13, b_law_1 (dM scr hd room I n cl out tld (.val (.int k)) (.val (.int one)) s10 s11 s12 s13) S = some (.nx (dM scr hd room I n cl' out tld (.val (.int k)) (.val (.int one)) u10 u11 u12 u13), S') ∧ Inv ρ' S' room I n cl' t' out tld told' rest := by
  obtain ⟨m, hm, _⟩ := mixed_run one k hk
  obtain ⟨w, hw⟩ := w_of m
  have tw := tg_lt w
  cases hc : cl w with
  | true =>
    have hdd : ∃ deed, p__law_deed_by [.int (m.fdiv 2), .int room] = some deed := by
      rcases deed_run (m.fdiv 2) room hr with ⟨l, ln, e⟩ | ⟨d, e, _, _⟩
      · exact ⟨_, e⟩
      · exact ⟨_, e⟩
    obtain ⟨deed, hd'⟩ := hdd
    refine ⟨S, ρ, cl, t, told, .val (.int m), .val (.int (wi w)), .val deed, s13, ?_, ⟨fun v hv => (V.o v hv).fr (Fr.refl (fun _ => False) ρ S) id id id, V.c, V.ot, V.ro, V.T, by have := V.l; omega⟩⟩
    rw [pre_run s10 s11 s12 s13 hm hw hd']
    simp only [bR, dM, bodyS, outS, ssSeq, ssIf, ssRet, ssAsg, ssExpr, ssPure, soB, sBind, sOk, sPure, sFldR, sMeth, sCall, sCallD, noX, outP, sNil, sCons, sTru, sNot, sAnd, sOr, sAndV, sOrV, sNotV, sB, sCmp, sC1, sTup, sLst, sLstS, sLen, gLenS, sIx, gIxS, sIsi, gIsiS, sEq, ssFrz, siLive, ssForL, sCompL, Option.map_eq_map, bodyD, outD, startD, dsNext, dsSeq, dsIf, dsRet, dsRetN, dsAsg, dsOwn, dsFrz, frz, dsFor, dsAppend, dsSetI, ownAt, dVar, dPk, dC, dOp, dCmp, dB, dTru, dNot, dNotV, dAndV, dOrV, dAnd, dOr, dCall, dCons, dNil, dTup, dLst, dOwn, dComp, dC1, dSeqOf, dgName, dgTup, dgCons, dgNil, dSlL, dPart, dNoPart, dEnum, dZip, dListOf, dAddL, liftD, slAt, dYes, dIf, gAdd_i, gSub_i, gDiv_n, gMod_n, gNeg_i, asB_b, asI_i, listD_l, seqD_l, seqD_t, gLen_l, gLen_t, gIx_l, gIx_t, cEq_i, cEq_s, cEq_b, cNe_i, cNe_s, cLt_i, cLe_i, cGt_i, cGe_i, cNotN_i, cNotN_n, cNotN_s, cNotN_l, cNotN_t, cIsN_i, cIsN_n, cIsN_s, cIsN_l, cIsN_t, isi_int, isi_bool, isi_str, List.length_cons, List.length_nil, List.map_cons, List.map_nil, List.replicate, List.nil_append, List.cons_append, List.getElem?_cons_zero, List.getElem?_cons_succ, List.set_cons_zero, List.set_cons_succ, Option.bind_some, Option.map_some, Option.bind_none, Option.map_none, Option.getD_some, Option.getD_none, Nat.reduceAdd, Nat.reduceSub, if_true, reduceIte, Nat.reduceEqDiff, decide_true, decide_false, Bool.not_true, Bool.not_false, Bool.false_eq_true, ne_eq, not_false_eq_true, ix_bool, hc]
  | false =>
    obtain ⟨b, dd, B, D, kvs, a1, a2, a3, a4, a5, a6, a7⟩ := V.o w hc
    rcases deed_run (m.fdiv 2) room hr with ⟨l, ln, hd'⟩ | ⟨d, hd', p0, p1⟩
    · -- the lanes meet
      have hl := V.l
      obtain ⟨S1, ρ1, dd', told', e1, r1, f1, T1, l1⟩ := told_met a1 tw a4 a5 a2 V.T (by omega) (dM scr hd room I n cl out tld (.val (.int k)) (.val (.int one)) (.val (.int m)) (.val (.int (wi w))) (.val (.list [.str (Str.ofString "met"), l, .int 0, ln])) s13) (dVar 7) (dOp gIx (dPk 4) (dVar 11)) (dOp gIx (dPk 3) (dVar 11)) rfl (by simp only [dM, bodyD, outD, startD, dsNext, dsSeq, dsIf, dsRet, dsRetN, dsAsg, dsOwn, dsFrz, frz, dsFor, dsAppend, dsSetI, ownAt, dVar, dPk, dC, dOp, dCmp, dB, dTru, dNot, dNotV, dAndV, dOrV, dAnd, dOr, dCall, dCons, dNil, dTup, dLst, dOwn, dComp, dC1, dSeqOf, dgName, dgTup, dgCons, dgNil, dSlL, dPart, dNoPart, dEnum, dZip, dListOf, dAddL, liftD, slAt, dYes, dIf, gAdd_i, gSub_i, gDiv_n, gMod_n, gNeg_i, asB_b, asI_i, listD_l, seqD_l, seqD_t, gLen_l, gLen_t, gIx_l, gIx_t, cEq_i, cEq_s, cEq_b, cNe_i, cNe_s, cLt_i, cLe_i, cGt_i, cGe_i, cNotN_i, cNotN_n, cNotN_s, cNotN_l, cNotN_t, cIsN_i, cIsN_n, cIsN_s, cIsN_l, cIsN_t, isi_int, isi_bool, isi_str, List.length_cons, List.length_nil, List.map_cons, List.map_nil, List.replicate, List.nil_append, List.cons_append, List.getElem?_cons_zero, List.getElem?_cons_succ, List.set_cons_zero, List.set_cons_succ, Option.bind_some, Option.map_some, Option.bind_none, Option.map_none, Option.getD_some, Option.getD_none, Nat.reduceAdd, Nat.reduceSub, if_true, reduceIte, Nat.reduceEqDiff, decide_true, decide_false, Bool.not_true, Bool.not_false, Bool.false_eq_true, ne_eq, not_false_eq_true, ix_ref]) (by simp only [dM, bodyD, outD, startD, dsNext, dsSeq, dsIf, dsRet, dsRetN, dsAsg, dsOwn, dsFrz, frz, dsFor, dsAppend, dsSetI, ownAt, dVar, dPk, dC, dOp, dCmp, dB, dTru, dNot, dNotV, dAndV, dOrV, dAnd, dOr, dCall, dCons, dNil, dTup, dLst, dOwn, dComp, dC1, dSeqOf, dgName, dgTup, dgCons, dgNil, dSlL, dPart, dNoPart, dEnum, dZip, dListOf, dAddL, liftD, slAt, dYes, dIf, gAdd_i, gSub_i, gDiv_n, gMod_n, gNeg_i, asB_b, asI_i, listD_l, seqD_l, seqD_t, gLen_l, gLen_t, gIx_l, gIx_t, cEq_i, cEq_s, cEq_b, cNe_i, cNe_s, cLt_i, cLe_i, cGt_i, cGe_i, cNotN_i, cNotN_n, cNotN_s, cNotN_l, cNotN_t, cIsN_i, cIsN_n, cIsN_s, cIsN_l, cIsN_t, isi_int, isi_bool, isi_str, List.length_cons, List.length_nil, List.map_cons, List.map_nil, List.replicate, List.nil_append, List.cons_append, List.getElem?_cons_zero, List.getElem?_cons_succ, List.set_cons_zero, List.set_cons_succ, Option.bind_some, Option.map_some, Option.bind_none, Option.map_none, Option.getD_some, Option.getD_none, Nat.reduceAdd, Nat.reduceSub, if_true, reduceIte, Nat.reduceEqDiff, decide_true, decide_false, Bool.not_true, Bool.not_false, Bool.false_eq_true, ne_eq, not_false_eq_true, ix_ref])
      have ot1 := f1.get V.ot (by rw [V.ro]; show ¬ (6 = tg w ∨ 6 = 7); omega)
      have ro1 := f1.role V.ot V.ro
      have f2 := Fr.push (P := fun _ => False) (ρ := ρ1) S1 (.lst []) (tg w + 4, 0, 0)
      have ot2 := get_app (x := .lst []) ot1
      have ro2 := f2.role ot1 ro1
      have f3 := Fr.set (ρ := pushR ρ1 S1.length (tg w + 4, 0, 0)) (S1 ++ [Ob.lst []]) out (.lst [.ref (upd2 t w S1.length false), .ref (upd2 t w S1.length true)])
      rw [ro2] at f3
      have r3 := (r1.fr f2 id).fr f3 (by show ¬ tg w = 6; omega)
      have n1 := f1.get a4 (by rw [a5]; show ¬ (tg w + 2 = tg w ∨ tg w + 2 = 7); omega)
      have rn1 := f1.role a4 a5
      have n3 := f3.get (f2.get n1 id) (by rw [f2.role n1 rn1]; show ¬ tg w + 2 = 6; omega)
      have t3 := f3.get (push_get S1 (.lst [])) (by rw [push_role]; show ¬ tg w + 4 = 6; omega)
      have F : Fr (fun x => x = tg w ∨ x = 7 ∨ x = 6) ρ S (pushR ρ1 S1.length (tg w + 4, 0, 0)) ((S1 ++ [Ob.lst []]).set out (.lst [.ref (upd2 t w S1.length false), .ref (upd2 t w S1.length true)])) := ((f1.mono fun x h => by rcases h with h | h; exact .inl h; exact .inr (.inl h)).trans (f2.mono fun x h => h.elim)).trans (f3.mono fun x h => .inr (.inr h))
      refine ⟨_, _, cl, upd2 t w S1.length, told', .val (.int m), .val (.int (wi w)), .val (.list [.str (Str.ofString "met"), l, .int 0, ln]), s13, ?_, ⟨fun v hv => ?_, fun v hv => ?_, List.getElem?_set_self (lt_of ot2), ro2, (T1.fr f2 id id).fr f3 (by decide) (by decide), by omega⟩⟩
      · rw [pre_run s10 s11 s12 s13 hm hw hd']
        refine (ssIf_t (S1 := S) ?_).trans ((ssSeq_nx e1).trans ((ssSeq_nx (δ' := dM scr hd room I n cl out tld (.val (.int k)) (.val (.int one)) (.val (.int m)) (.val (.int (wi w))) (.val (.list [.str (Str.ofString "met"), l, .int 0, ln])) s13) (S' := (S1 ++ [Ob.lst []]).set out (.lst [.ref (upd2 t w S1.length false), .ref (upd2 t w S1.length true)])) ?_).trans ?_))
        · simp only [dM, bodyS, outS, ssSeq, ssIf, ssRet, ssAsg, ssExpr, ssPure, soB, sBind, sOk, sPure, sFldR, sMeth, sCall, sCallD, noX, outP, sNil, sCons, sTru, sNot, sAnd, sOr, sAndV, sOrV, sNotV, sB, sCmp, sC1, sTup, sLst, sLstS, sLen, gLenS, sIx, gIxS, sIsi, gIsiS, sEq, ssFrz, siLive, ssForL, sCompL, Option.map_eq_map, bodyD, outD, startD, dsNext, dsSeq, dsIf, dsRet, dsRetN, dsAsg, dsOwn, dsFrz, frz, dsFor, dsAppend, dsSetI, ownAt, dVar, dPk, dC, dOp, dCmp, dB, dTru, dNot, dNotV, dAndV, dOrV, dAnd, dOr, dCall, dCons, dNil, dTup, dLst, dOwn, dComp, dC1, dSeqOf, dgName, dgTup, dgCons, dgNil, dSlL, dPart, dNoPart, dEnum, dZip, dListOf, dAddL, liftD, slAt, dYes, dIf, gAdd_i, gSub_i, gDiv_n, gMod_n, gNeg_i, asB_b, asI_i, listD_l, seqD_l, seqD_t, gLen_l, gLen_t, gIx_l, gIx_t, cEq_i, cEq_s, cEq_b, cNe_i, cNe_s, cLt_i, cLe_i, cGt_i, cGe_i, cNotN_i, cNotN_n, cNotN_s, cNotN_l, cNotN_t, cIsN_i, cIsN_n, cIsN_s, cIsN_l, cIsN_t, isi_int, isi_bool, isi_str, List.length_cons, List.length_nil, List.map_cons, List.map_nil, List.replicate, List.nil_append, List.cons_append, List.getElem?_cons_zero, List.getElem?_cons_succ, List.set_cons_zero, List.set_cons_succ, Option.bind_some, Option.map_some, Option.bind_none, Option.map_none, Option.getD_some, Option.getD_none, Nat.reduceAdd, Nat.reduceSub, if_true, reduceIte, Nat.reduceEqDiff, decide_true, decide_false, Bool.not_true, Bool.not_false, Bool.false_eq_true, ne_eq, not_false_eq_true, ix_bool, hc, at0]
        · have z0 := sz 0 (by decide)
          simp only [dM, bodyS, outS, ssSeq, ssIf, ssRet, ssAsg, ssExpr, ssPure, soB, sBind, sOk, sPure, sFldR, sMeth, sCall, sCallD, noX, outP, sNil, sCons, sTru, sNot, sAnd, sOr, sAndV, sOrV, sNotV, sB, sCmp, sC1, sTup, sLst, sLstS, sLen, gLenS, sIx, gIxS, sIsi, gIsiS, sEq, ssFrz, siLive, ssForL, sCompL, Option.map_eq_map, bodyD, outD, startD, dsNext, dsSeq, dsIf, dsRet, dsRetN, dsAsg, dsOwn, dsFrz, frz, dsFor, dsAppend, dsSetI, ownAt, dVar, dPk, dC, dOp, dCmp, dB, dTru, dNot, dNotV, dAndV, dOrV, dAnd, dOr, dCall, dCons, dNil, dTup, dLst, dOwn, dComp, dC1, dSeqOf, dgName, dgTup, dgCons, dgNil, dSlL, dPart, dNoPart, dEnum, dZip, dListOf, dAddL, liftD, slAt, dYes, dIf, gAdd_i, gSub_i, gDiv_n, gMod_n, gNeg_i, asB_b, asI_i, listD_l, seqD_l, seqD_t, gLen_l, gLen_t, gIx_l, gIx_t, cEq_i, cEq_s, cEq_b, cNe_i, cNe_s, cLt_i, cLe_i, cGt_i, cGe_i, cNotN_i, cNotN_n, cNotN_s, cNotN_l, cNotN_t, cIsN_i, cIsN_n, cIsN_s, cIsN_l, cIsN_t, isi_int, isi_bool, isi_str, List.length_cons, List.length_nil, List.map_cons, List.map_nil, List.replicate, List.nil_append, List.cons_append, List.getElem?_cons_zero, List.getElem?_cons_succ, List.set_cons_zero, List.set_cons_succ, Option.bind_some, Option.map_some, Option.bind_none, Option.map_none, Option.getD_some, Option.getD_none, Nat.reduceAdd, Nat.reduceSub, if_true, reduceIte, Nat.reduceEqDiff, decide_true, decide_false, Bool.not_true, Bool.not_false, Bool.false_eq_true, ne_eq, not_false_eq_true, ssSetI, if_pos z0, lst_at ot2, ixN2, set_ref]
        · simp only [dM, bodyS, outS, ssSeq, ssIf, ssRet, ssAsg, ssExpr, ssPure, soB, sBind, sOk, sPure, sFldR, sMeth, sCall, sCallD, noX, outP, sNil, sCons, sTru, sNot, sAnd, sOr, sAndV, sOrV, sNotV, sB, sCmp, sC1, sTup, sLst, sLstS, sLen, gLenS, sIx, gIxS, sIsi, gIsiS, sEq, ssFrz, siLive, ssForL, sCompL, Option.map_eq_map, bodyD, outD, startD, dsNext, dsSeq, dsIf, dsRet, dsRetN, dsAsg, dsOwn, dsFrz, frz, dsFor, dsAppend, dsSetI, ownAt, dVar, dPk, dC, dOp, dCmp, dB, dTru, dNot, dNotV, dAndV, dOrV, dAnd, dOr, dCall, dCons, dNil, dTup, dLst, dOwn, dComp, dC1, dSeqOf, dgName, dgTup, dgCons, dgNil, dSlL, dPart, dNoPart, dEnum, dZip, dListOf, dAddL, liftD, slAt, dYes, dIf, gAdd_i, gSub_i, gDiv_n, gMod_n, gNeg_i, asB_b, asI_i, listD_l, seqD_l, seqD_t, gLen_l, gLen_t, gIx_l, gIx_t, cEq_i, cEq_s, cEq_b, cNe_i, cNe_s, cLt_i, cLe_i, cGt_i, cGe_i, cNotN_i, cNotN_n, cNotN_s, cNotN_l, cNotN_t, cIsN_i, cIsN_n, cIsN_s, cIsN_l, cIsN_t, isi_int, isi_bool, isi_str, List.length_cons, List.length_nil, List.map_cons, List.map_nil, List.replicate, List.nil_append, List.cons_append, List.getElem?_cons_zero, List.getElem?_cons_succ, List.set_cons_zero, List.set_cons_succ, Option.bind_some, Option.map_some, Option.bind_none, Option.map_none, Option.getD_some, Option.getD_none, Nat.reduceAdd, Nat.reduceSub, if_true, reduceIte, Nat.reduceEqDiff, decide_true, decide_false, Bool.not_true, Bool.not_false, Bool.false_eq_true, ne_eq, not_false_eq_true, ix_ref, ins_at r3.fi, lk_c, cNot_none]
      · by_cases hv' : v = w
        · subst hv'
          rw [upd2_same]
          exact ⟨b, dd', B, [], [], r3, a2, by simp; omega, n3, f2.role n1 rn1, t3, push_role _ _ _⟩
        · rw [upd2_ne _ _ hv']
          have h1 := tg_ne hv'
          have h2 := tg_lt v
          exact (V.o v hv).fr F (by show ¬ (tg v = tg w ∨ tg v = 7 ∨ tg v = 6); omega) (by show ¬ (tg v + 2 = tg w ∨ tg v + 2 = 7 ∨ tg v + 2 = 6); omega) (by show ¬ (tg v + 4 = tg w ∨ tg v + 4 = 7 ∨ tg v + 4 = 6); omega)
      · have hv' : v ≠ w := fun z => by rw [z, hc] at hv; cases hv
        have h1 := tg_ne hv'
        have h2 := tg_lt v
        exact (V.c v hv).fr F (by show ¬ (tg v = tg w ∨ tg v = 7 ∨ tg v = 6); omega)
    · -- a touch
      obtain ⟨x, hx⟩ := number_run m
      obtain ⟨S1, ρ1, kvs1, B1, e1, r1, f1, hB, n1, t1⟩ := touched_run a1 a4 a5 a6 a7 d x (by omega) p0 (by omega)
      have hl := V.l
      have ot1 := f1.get V.ot (by rw [V.ro]; show ¬ (6 = tg w ∨ 6 = tg w + 2 ∨ 6 = tg w + 4); omega)
      have others : ∀ v, v ≠ w → ¬ PT (tg w) (tg v) ∧ ¬ PT (tg w) (tg v + 2) ∧ ¬ PT (tg w) (tg v + 4) := fun v hv' => by
        have h1 := tg_ne hv'
        have h2 := tg_lt v
        refine ⟨?_, ?_, ?_⟩
        · show ¬ (tg v = tg w ∨ tg v = tg w + 2 ∨ tg v = tg w + 4); omega
        · show ¬ (tg v + 2 = tg w ∨ tg v + 2 = tg w + 2 ∨ tg v + 2 = tg w + 4); omega
        · show ¬ (tg v + 4 = tg w ∨ tg v + 4 = tg w + 2 ∨ tg v + 4 = tg w + 4); omega
      have w1 : ¬ Str.ofString "well" = Str.ofString "clash" := by decide +kernel
      have w2 : ¬ Str.ofString "well" = Str.ofString "wrong" := by decide +kernel
      have w3 : ¬ Str.ofString "clash" = Str.ofString "wrong" := by decide +kernel
      have T1 := V.T.fr f1 (by show ¬ (7 = tg w ∨ 7 = tg w + 2 ∨ 7 = tg w + 4); omega) (by show ¬ (8 = tg w ∨ 8 = tg w + 2 ∨ 8 = tg w + 4); omega)
      have run : ∀ (word : Str) (cb : Bool), (if isN (firstC d (D.filter (here d))) = true then Str.ofString "well" else Str.ofString "clash") = word → decide (word = Str.ofString "clash") = cb → (¬ word = Str.ofString "wrong") → b_law_1 (dM scr hd room I n cl out tld (.val (.int k)) (.val (.int one)) s10 s11 s12 s13) S = some (.nx (dM scr hd room I n (upd2 cl w cb) out tld (.val (.int k)) (.val (.int one)) (.val (.int m)) (.val (.int (wi w))) (.val (enc4 d)) (.val (.str word))), S1) := fun word cb h1 h2 h3 => by
        rw [h1] at e1
        rw [pre_run s10 s11 s12 s13 hm hw hd']
        refine (ssIf_f (S1 := S) ?_).trans ((ssIf_t (S1 := S) ?_).trans ((ssSeq_nx (δ' := dM scr hd room I n cl out tld (.val (.int k)) (.val (.int one)) (.val (.int m)) (.val (.int (wi w))) (.val (enc4 d)) (.val (.str word))) (S' := S1) ?_).trans ((ssSeq_nx (δ' := dM scr hd room I n (upd2 cl w cb) out tld (.val (.int k)) (.val (.int one)) (.val (.int m)) (.val (.int (wi w))) (.val (enc4 d)) (.val (.str word))) (S' := S1) ?_).trans ?_)))
        · simp only [dM, enc4, bodyS, outS, ssSeq, ssIf, ssRet, ssAsg, ssExpr, ssPure, soB, sBind, sOk, sPure, sFldR, sMeth, sCall, sCallD, noX, outP, sNil, sCons, sTru, sNot, sAnd, sOr, sAndV, sOrV, sNotV, sB, sCmp, sC1, sTup, sLst, sLstS, sLen, gLenS, sIx, gIxS, sIsi, gIsiS, sEq, ssFrz, siLive, ssForL, sCompL, Option.map_eq_map, bodyD, outD, startD, dsNext, dsSeq, dsIf, dsRet, dsRetN, dsAsg, dsOwn, dsFrz, frz, dsFor, dsAppend, dsSetI, ownAt, dVar, dPk, dC, dOp, dCmp, dB, dTru, dNot, dNotV, dAndV, dOrV, dAnd, dOr, dCall, dCons, dNil, dTup, dLst, dOwn, dComp, dC1, dSeqOf, dgName, dgTup, dgCons, dgNil, dSlL, dPart, dNoPart, dEnum, dZip, dListOf, dAddL, liftD, slAt, dYes, dIf, gAdd_i, gSub_i, gDiv_n, gMod_n, gNeg_i, asB_b, asI_i, listD_l, seqD_l, seqD_t, gLen_l, gLen_t, gIx_l, gIx_t, cEq_i, cEq_s, cEq_b, cNe_i, cNe_s, cLt_i, cLe_i, cGt_i, cGe_i, cNotN_i, cNotN_n, cNotN_s, cNotN_l, cNotN_t, cIsN_i, cIsN_n, cIsN_s, cIsN_l, cIsN_t, isi_int, isi_bool, isi_str, List.length_cons, List.length_nil, List.map_cons, List.map_nil, List.replicate, List.nil_append, List.cons_append, List.getElem?_cons_zero, List.getElem?_cons_succ, List.set_cons_zero, List.set_cons_succ, Option.bind_some, Option.map_some, Option.bind_none, Option.map_none, Option.getD_some, Option.getD_none, Nat.reduceAdd, Nat.reduceSub, if_true, reduceIte, Nat.reduceEqDiff, decide_true, decide_false, Bool.not_true, Bool.not_false, Bool.false_eq_true, ne_eq, not_false_eq_true, ix_bool, hc, at0, wd_met]
        · simp only [dM, bodyS, outS, ssSeq, ssIf, ssRet, ssAsg, ssExpr, ssPure, soB, sBind, sOk, sPure, sFldR, sMeth, sCall, sCallD, noX, outP, sNil, sCons, sTru, sNot, sAnd, sOr, sAndV, sOrV, sNotV, sB, sCmp, sC1, sTup, sLst, sLstS, sLen, gLenS, sIx, gIxS, sIsi, gIsiS, sEq, ssFrz, siLive, ssForL, sCompL, Option.map_eq_map, bodyD, outD, startD, dsNext, dsSeq, dsIf, dsRet, dsRetN, dsAsg, dsOwn, dsFrz, frz, dsFor, dsAppend, dsSetI, ownAt, dVar, dPk, dC, dOp, dCmp, dB, dTru, dNot, dNotV, dAndV, dOrV, dAnd, dOr, dCall, dCons, dNil, dTup, dLst, dOwn, dComp, dC1, dSeqOf, dgName, dgTup, dgCons, dgNil, dSlL, dPart, dNoPart, dEnum, dZip, dListOf, dAddL, liftD, slAt, dYes, dIf, gAdd_i, gSub_i, gDiv_n, gMod_n, gNeg_i, asB_b, asI_i, listD_l, seqD_l, seqD_t, gLen_l, gLen_t, gIx_l, gIx_t, cEq_i, cEq_s, cEq_b, cNe_i, cNe_s, cLt_i, cLe_i, cGt_i, cGe_i, cNotN_i, cNotN_n, cNotN_s, cNotN_l, cNotN_t, cIsN_i, cIsN_n, cIsN_s, cIsN_l, cIsN_t, isi_int, isi_bool, isi_str, List.length_cons, List.length_nil, List.map_cons, List.map_nil, List.replicate, List.nil_append, List.cons_append, List.getElem?_cons_zero, List.getElem?_cons_succ, List.set_cons_zero, List.set_cons_succ, Option.bind_some, Option.map_some, Option.bind_none, Option.map_none, Option.getD_some, Option.getD_none, Nat.reduceAdd, Nat.reduceSub, if_true, reduceIte, Nat.reduceEqDiff, decide_true, decide_false, Bool.not_true, Bool.not_false, Bool.false_eq_true, ne_eq, not_false_eq_true, ix_bool, hc]
        · simp only [dM, bodyS, outS, ssSeq, ssIf, ssRet, ssAsg, ssExpr, ssPure, soB, sBind, sOk, sPure, sFldR, sMeth, sCall, sCallD, noX, outP, sNil, sCons, sTru, sNot, sAnd, sOr, sAndV, sOrV, sNotV, sB, sCmp, sC1, sTup, sLst, sLstS, sLen, gLenS, sIx, gIxS, sIsi, gIsiS, sEq, ssFrz, siLive, ssForL, sCompL, Option.map_eq_map, bodyD, outD, startD, dsNext, dsSeq, dsIf, dsRet, dsRetN, dsAsg, dsOwn, dsFrz, frz, dsFor, dsAppend, dsSetI, ownAt, dVar, dPk, dC, dOp, dCmp, dB, dTru, dNot, dNotV, dAndV, dOrV, dAnd, dOr, dCall, dCons, dNil, dTup, dLst, dOwn, dComp, dC1, dSeqOf, dgName, dgTup, dgCons, dgNil, dSlL, dPart, dNoPart, dEnum, dZip, dListOf, dAddL, liftD, slAt, dYes, dIf, gAdd_i, gSub_i, gDiv_n, gMod_n, gNeg_i, asB_b, asI_i, listD_l, seqD_l, seqD_t, gLen_l, gLen_t, gIx_l, gIx_t, cEq_i, cEq_s, cEq_b, cNe_i, cNe_s, cLt_i, cLe_i, cGt_i, cGe_i, cNotN_i, cNotN_n, cNotN_s, cNotN_l, cNotN_t, cIsN_i, cIsN_n, cIsN_s, cIsN_l, cIsN_t, isi_int, isi_bool, isi_str, List.length_cons, List.length_nil, List.map_cons, List.map_nil, List.replicate, List.nil_append, List.cons_append, List.getElem?_cons_zero, List.getElem?_cons_succ, List.set_cons_zero, List.set_cons_succ, Option.bind_some, Option.map_some, Option.bind_none, Option.map_none, Option.getD_some, Option.getD_none, Nat.reduceAdd, Nat.reduceSub, if_true, reduceIte, Nat.reduceEqDiff, decide_true, decide_false, Bool.not_true, Bool.not_false, Bool.false_eq_true, ne_eq, not_false_eq_true, ix_ref, lst_at V.ot, hx, e1]
        · simp only [dM, bodyS, outS, ssSeq, ssIf, ssRet, ssAsg, ssExpr, ssPure, soB, sBind, sOk, sPure, sFldR, sMeth, sCall, sCallD, noX, outP, sNil, sCons, sTru, sNot, sAnd, sOr, sAndV, sOrV, sNotV, sB, sCmp, sC1, sTup, sLst, sLstS, sLen, gLenS, sIx, gIxS, sIsi, gIsiS, sEq, ssFrz, siLive, ssForL, sCompL, Option.map_eq_map, bodyD, outD, startD, dsNext, dsSeq, dsIf, dsRet, dsRetN, dsAsg, dsOwn, dsFrz, frz, dsFor, dsAppend, dsSetI, ownAt, dVar, dPk, dC, dOp, dCmp, dB, dTru, dNot, dNotV, dAndV, dOrV, dAnd, dOr, dCall, dCons, dNil, dTup, dLst, dOwn, dComp, dC1, dSeqOf, dgName, dgTup, dgCons, dgNil, dSlL, dPart, dNoPart, dEnum, dZip, dListOf, dAddL, liftD, slAt, dYes, dIf, gAdd_i, gSub_i, gDiv_n, gMod_n, gNeg_i, asB_b, asI_i, listD_l, seqD_l, seqD_t, gLen_l, gLen_t, gIx_l, gIx_t, cEq_i, cEq_s, cEq_b, cNe_i, cNe_s, cLt_i, cLe_i, cGt_i, cGe_i, cNotN_i, cNotN_n, cNotN_s, cNotN_l, cNotN_t, cIsN_i, cIsN_n, cIsN_s, cIsN_l, cIsN_t, isi_int, isi_bool, isi_str, List.length_cons, List.length_nil, List.map_cons, List.map_nil, List.replicate, List.nil_append, List.cons_append, List.getElem?_cons_zero, List.getElem?_cons_succ, List.set_cons_zero, List.set_cons_succ, Option.bind_some, Option.map_some, Option.bind_none, Option.map_none, Option.getD_some, Option.getD_none, Nat.reduceAdd, Nat.reduceSub, if_true, reduceIte, Nat.reduceEqDiff, decide_true, decide_false, Bool.not_true, Bool.not_false, Bool.false_eq_true, ne_eq, not_false_eq_true, ixN2, h2, set_bool]
        · simp only [dM, bodyS, outS, ssSeq, ssIf, ssRet, ssAsg, ssExpr, ssPure, soB, sBind, sOk, sPure, sFldR, sMeth, sCall, sCallD, noX, outP, sNil, sCons, sTru, sNot, sAnd, sOr, sAndV, sOrV, sNotV, sB, sCmp, sC1, sTup, sLst, sLstS, sLen, gLenS, sIx, gIxS, sIsi, gIsiS, sEq, ssFrz, siLive, ssForL, sCompL, Option.map_eq_map, bodyD, outD, startD, dsNext, dsSeq, dsIf, dsRet, dsRetN, dsAsg, dsOwn, dsFrz, frz, dsFor, dsAppend, dsSetI, ownAt, dVar, dPk, dC, dOp, dCmp, dB, dTru, dNot, dNotV, dAndV, dOrV, dAnd, dOr, dCall, dCons, dNil, dTup, dLst, dOwn, dComp, dC1, dSeqOf, dgName, dgTup, dgCons, dgNil, dSlL, dPart, dNoPart, dEnum, dZip, dListOf, dAddL, liftD, slAt, dYes, dIf, gAdd_i, gSub_i, gDiv_n, gMod_n, gNeg_i, asB_b, asI_i, listD_l, seqD_l, seqD_t, gLen_l, gLen_t, gIx_l, gIx_t, cEq_i, cEq_s, cEq_b, cNe_i, cNe_s, cLt_i, cLe_i, cGt_i, cGe_i, cNotN_i, cNotN_n, cNotN_s, cNotN_l, cNotN_t, cIsN_i, cIsN_n, cIsN_s, cIsN_l, cIsN_t, isi_int, isi_bool, isi_str, List.length_cons, List.length_nil, List.map_cons, List.map_nil, List.replicate, List.nil_append, List.cons_append, List.getElem?_cons_zero, List.getElem?_cons_succ, List.set_cons_zero, List.set_cons_succ, Option.bind_some, Option.map_some, Option.bind_none, Option.map_none, Option.getD_some, Option.getD_none, Nat.reduceAdd, Nat.reduceSub, if_true, reduceIte, Nat.reduceEqDiff, decide_true, decide_false, Bool.not_true, Bool.not_false, Bool.false_eq_true, ne_eq, not_false_eq_true, h3]
      rcases firstC_kind d (D.filter (here d)) with e | ⟨L, ln, O, q, e⟩
      · refine ⟨S1, ρ1, upd2 cl w false, t, told, _, _, _, _, run (Str.ofString "well") false (by rw [e]; rfl) (by simp [w1]) w2, ⟨fun v hv => ?_, fun v hv => ?_, ot1, f1.role V.ot V.ro, T1, by omega⟩⟩
        · by_cases hv' : v = w
          · subst hv'
            rw [e] at r1
            exact ⟨b, dd, B1, D ++ [d], kvs1, r1, by omega, by simp; omega, n1, f1.role a4 a5, t1, f1.role a6 a7⟩
          · rw [upd2_ne _ _ hv'] at hv
            have o := others v hv'
            exact (V.o v hv).fr f1 o.1 o.2.1 o.2.2
        · by_cases hv' : v = w
          · subst hv'
            rw [upd2_same] at hv
            cases hv
          · rw [upd2_ne _ _ hv'] at hv
            exact (V.c v hv).fr f1 (others v hv').1
      · refine ⟨S1, ρ1, upd2 cl w true, t, told, _, _, _, _, run (Str.ofString "clash") true (by rw [e]; rfl) (by simp) w3, ⟨fun v hv => ?_, fun v hv => ?_, ot1, f1.role V.ot V.ro, T1, by omega⟩⟩
        · by_cases hv' : v = w
          · subst hv'
            rw [upd2_same] at hv
            cases hv
          · rw [upd2_ne _ _ hv'] at hv
            have o := others v hv'
            exact (V.o v hv).fr f1 o.1 o.2.1 o.2.2
        · by_cases hv' : v = w
          · subst hv'
            rw [e] at r1
            exact ⟨b, dd, B1, D ++ [d], kvs1, d.place, L, ln, O, q, r1, p0, by omega⟩
          · rw [upd2_ne _ _ hv'] at hv
            exact (V.c v hv).fr f1 (others v hv').1
theorem law_loop {scr hd : W} {room : Nat} {I n : Bool → Nat} {out tld : Nat} (hr : 13 ≤ room) : ∀ (ps : List (Nat × Int)) (ρ : Nat → Rl) (S : Sto) (cl : Bool → Bool) (t : Bool → Nat) (told : List (Nat × Nat)) (s8 s9 s10 s11 s12 s13 : Sl), (∀ p ∈ ps, p.1 < 1000) → Inv ρ S room I n cl t out tld told ps.length → ∃ S' ρ' cl' t' told' u8 u9 u10 u11 u12 u13, ssForGo (dgTup 2 (dgCons (dgName 8) (dgCons (dgName 9) dgNil))) b_law_1 (ps.map fun p => .tuple [.int (p.1 : Int), .int p.2]) (dM scr hd room I n cl out tld s8 s9 s10 s11 s12 s13) S = some (.nx (dM scr hd room I n cl' out tld u8 u9 u10 u11 u12 u13), S') ∧ Inv ρ' S' room I n cl' t' out tld told' 0
  | [], ρ, S, cl, t, told, s8, s9, s10, s11, s12, s13, _, V => ⟨S, ρ, cl, t, told, s8, s9, s10, s11, s12, s13, rfl, V⟩
  | p :: ps, ρ, S, cl, t, told, s8, s9, s10, s11, s12, s13, hp, V => by
    obtain ⟨S1, ρ1, cl1, t1, told1, u10, u11, u12, u13, e1, V1⟩ := step_run (scr := scr) (hd := hd) p.2 hr (hp p (List.mem_cons_self)) V s10 s11 s12 s13
    obtain ⟨S', ρ', cl', t', told', v8, v9, v10, v11, v12, v13, e2, V2⟩ := law_loop (scr := scr) (hd := hd) hr ps ρ1 S1 cl1 t1 told1 (.val (.int p.1)) (.val (.int p.2)) u10 u11 u12 u13 (fun q hq => hp q (List.mem_cons_of_mem _ hq)) V1
    refine ⟨S', ρ', cl', t', told', v8, v9, v10, v11, v12, v13, ?_, V2⟩
    rw [List.map_cons]
    exact (ssForGo_nx rfl e1).trans e2
theorem sLst_two {f g : DS → Sto → SM W} {δ : DS} {S S1 S2 : Sto} {a b : W} (h1 : f δ S = some (.ok a, S1)) (h2 : g δ S1 = some (.ok b, S2)) : sLst (sCons f (sCons g sNil)) δ S = some (.ok (.list [a, b]), S2) := by
  have z2 := sz 2 (by decide)
  simp only [sLst, sCons, sNil, sBind, h1, h2, List.length_cons, List.length_nil, Nat.reduceAdd, if_pos z2]
theorem sListS_of {fa : DS → Option W} {δ : DS} {S : Sto} {m : Nat} {es : List W} (h : fa δ = some (.ref m)) (hS : S[m]? = some (.lst es)) : sListS (sPure fa) δ S = some (.ok (.ref S.length), S ++ [.lst es]) := by
  simp only [sListS, sPure, h, Option.map_some, sBind, seqS, lst_at hS]
theorem enum_ps (ms : List Int) : ∃ ps : List (Nat × Int), ps.length = ms.length ∧ (∀ p ∈ ps, p.1 < ms.length) ∧ enumD (ms.map .int) = ps.map fun p => .tuple [.int (p.1 : Int), .int p.2] := by
  refine ⟨(List.range ms.length).map fun i => (i, ms[i]?.getD 0), by simp, fun p hp => ?_, ?_⟩
  · obtain ⟨i, h1, rfl⟩ := List.mem_map.mp hp
    exact List.mem_range.mp h1
  · unfold enumD
    rw [List.length_map, List.map_map]
    apply List.map_congr_left
    intro i hi
    have hi' := List.mem_range.mp hi
    simp [List.getElem?_eq_getElem hi']
theorem cut_int (ns : List Int) (lo hi : Option Int) : ∃ ms : List Int, ms.length ≤ ns.length ∧ cutW (ns.map .int) lo hi = ms.map .int := by
  refine ⟨(ns.drop (HT.sIx (ns.map W.int).length 0 lo)).take (HT.sIx (ns.map W.int).length (ns.map W.int).length hi - HT.sIx (ns.map W.int).length 0 lo), ?_, ?_⟩
  · rw [List.length_take, List.length_drop]
    omega
  · unfold cutW
    rw [List.map_take, List.map_drop]
def dS (scr : W) (s1 s2 s3 s4 s5 s6 s7 : Sl) : DS := [.val scr, s1, s2, s3, s4, s5, s6, s7, .no, .no, .no, .no, .no, .no]
def SX (x0 x1 b0 b1 : List W) (r : Sto) : Sto := .lst x0 :: .lst x1 :: .lst b0 :: .lst b1 :: .ins (Str.ofString "Shared") (shF 5 6 .none) :: .lst b0 :: .dK [] :: .ins (Str.ofString "Shared") (shF 8 9 .none) :: .lst b1 :: .dK [] :: r
def ρ0 : Nat → Rl
  | 2 => (2, 0, 0) | 3 => (3, 0, 0) | 4 => (0, 0, 0) | 5 => (0, 1, 0) | 6 => (0, 4, 0) | 7 => (1, 0, 0) | 8 => (1, 1, 0) | 9 => (1, 4, 0)
  | 10 => (4, 0, 0) | 11 => (5, 0, 0) | 12 => (6, 0, 0) | 13 => (7, 0, 0) | _ => (9, 0, 0)
def I0 (w : Bool) : Nat := bif w then 7 else 4
def n0 (w : Bool) : Nat := bif w then 3 else 2
def t0 (w : Bool) : Nat := bif w then 11 else 10
theorem inv0 (x0 x1 : List W) (B0 B1 : List Int) (room k : Nat) (h0 : B0.length = room) (h1 : B1.length = room) (hk : k ≤ 100) : Inv ρ0 (SX x0 x1 (B0.map .int) (B1.map .int) [.lst [], .lst [], .lst [.ref 10, .ref 11], .lst []]) room I0 n0 (fun _ => false) t0 12 13 [] k := by
  refine ⟨fun w _ => ?_, (fun w h => by cases h), rfl, rfl, ⟨rfl, rfl, (fun p hp => by cases hp)⟩, by simpa using hk⟩
  cases w
  · exact ⟨5, 6, B0, [], [], ⟨rfl, rfl, rfl, rfl, rfl, rfl, Nat.zero_le _, fun p => .inr ⟨rfl, rfl⟩⟩, h0, by simpa using hk, rfl, rfl, rfl, rfl⟩
  · exact ⟨8, 9, B1, [], [], ⟨rfl, rfl, rfl, rfl, rfl, rfl, Nat.zero_le _, fun p => .inr ⟨rfl, rfl⟩⟩, h1, by simpa using hk, rfl, rfl, rfl, rfl⟩
theorem eqS_two {S : Sto} {a b c d : Nat} {X Y : List Int} (ha : S[a]? = some (.lst (X.map .int))) (hb : S[b]? = some (.lst (Y.map .int))) (hc : S[c]? = some (.lst (X.map .int))) (hd : S[d]? = some (.lst (Y.map .int))) : cEqS true (.list [.ref a, .ref b]) (.list [.ref c, .ref d]) S = some false := by
  have one : ∀ {o : Nat} {Z : List Int}, S[o]? = some (.lst (Z.map .int)) → pyS S 7 (.ref o) = some (.list (Z.map .int)) := fun {o Z} h => by
    show (lookS S o).bind _ = _
    unfold lookS
    rw [h]
    show (pysG (pyS S 6) (Z.map W.int)).map _ = _
    rw [pys_int]
    rfl
  have two : ∀ {a b : Nat}, S[a]? = some (.lst (X.map .int)) → S[b]? = some (.lst (Y.map .int)) → pyS S 8 (.list [.ref a, .ref b]) = some (.list [.list (X.map .int), .list (Y.map .int)]) := fun {a b} ha hb => by
    show (pysG (pyS S 7) [.ref a, .ref b]).map _ = _
    simp only [pysG, one ha, one hb, Option.bind_some, Option.map_some]
  unfold cEqS
  show (pyS S 8 _).bind _ = _
  rw [two ha hb, Option.bind_some, two hc hd, Option.bind_some]
  rw [if_pos (by simp [PyData.canLay0, PyData.canLayAll0, lay_int, PyData.depth, PyData.depthAll, dep_int])]
  simp [PyData.eqv, PyData.eqvAll, eqAll_int]
theorem room_run (ns : List Int) : ∃ room : Nat, 13 ≤ room ∧ room ≤ 18 ∧ ssPure (dsIf (dCmp cGt (dC1 gLen (dPk 0)) (dC (.int (0))))
      (dsAsg (dOp gAdd (dC (.int (13))) (dOp gMod (dOp gIx (dPk 0) (dC (.int (0)))) (dC (.int (6))))) (dgName 1))
      dsNext) (dS (.list (ns.map .int)) (.val (.int 13)) .no .no .no .no .no .no) [] = some (.nx (dS (.list (ns.map .int)) (.val (.int room)) .no .no .no .no .no .no), []) := by
  cases ns with
  | nil =>
    refine ⟨13, by decide, by decide, ?_⟩
    simp (config := {decide := true}) only [dS, bodyS, outS, ssSeq, ssIf, ssRet, ssAsg, ssExpr, ssPure, soB, sBind, sOk, sPure, sFldR, sMeth, sCall, sCallD, noX, outP, sNil, sCons, sTru, sNot, sAnd, sOr, sAndV, sOrV, sNotV, sB, sCmp, sC1, sTup, sLst, sLstS, sLen, gLenS, sIx, gIxS, sIsi, gIsiS, sEq, ssFrz, siLive, ssForL, sCompL, Option.map_eq_map, bodyD, outD, startD, dsNext, dsSeq, dsIf, dsRet, dsRetN, dsAsg, dsOwn, dsFrz, frz, dsFor, dsAppend, dsSetI, ownAt, dVar, dPk, dC, dOp, dCmp, dB, dTru, dNot, dNotV, dAndV, dOrV, dAnd, dOr, dCall, dCons, dNil, dTup, dLst, dOwn, dComp, dC1, dSeqOf, dgName, dgTup, dgCons, dgNil, dSlL, dPart, dNoPart, dEnum, dZip, dListOf, dAddL, liftD, slAt, dYes, dIf, gAdd_i, gSub_i, gDiv_n, gMod_n, gNeg_i, asB_b, asI_i, listD_l, seqD_l, seqD_t, gLen_l, gLen_t, gIx_l, gIx_t, cEq_i, cEq_s, cEq_b, cNe_i, cNe_s, cLt_i, cLe_i, cGt_i, cGe_i, cNotN_i, cNotN_n, cNotN_s, cNotN_l, cNotN_t, cIsN_i, cIsN_n, cIsN_s, cIsN_l, cIsN_t, isi_int, isi_bool, isi_str, List.length_cons, List.length_nil, List.map_cons, List.map_nil, List.replicate, List.nil_append, List.cons_append, List.getElem?_cons_zero, List.getElem?_cons_succ, List.set_cons_zero, List.set_cons_succ, Option.bind_some, Option.map_some, Option.bind_none, Option.map_none, Option.getD_some, Option.getD_none, Nat.reduceAdd, Nat.reduceSub, if_true, reduceIte, Nat.reduceEqDiff, decide_true, decide_false, Bool.not_true, Bool.not_false, Bool.false_eq_true, ne_eq, not_false_eq_true]
    rfl
  | cons x ns =>
    have h := fmod_in x (j := 6) (by decide)
    refine ⟨(13 + x.fmod 6).toNat, by omega, by omega, ?_⟩
    have hg : ((ns.map W.int).length + 1 : Nat) > (0 : Int) := by omega
    have e : (((13 + x.fmod 6).toNat : Nat) : Int) = 13 + x.fmod 6 := Int.toNat_of_nonneg (by omega)
    rw [e]
    simp (config := {decide := true}) only [dS, bodyS, outS, ssSeq, ssIf, ssRet, ssAsg, ssExpr, ssPure, soB, sBind, sOk, sPure, sFldR, sMeth, sCall, sCallD, noX, outP, sNil, sCons, sTru, sNot, sAnd, sOr, sAndV, sOrV, sNotV, sB, sCmp, sC1, sTup, sLst, sLstS, sLen, gLenS, sIx, gIxS, sIsi, gIsiS, sEq, ssFrz, siLive, ssForL, sCompL, Option.map_eq_map, bodyD, outD, startD, dsNext, dsSeq, dsIf, dsRet, dsRetN, dsAsg, dsOwn, dsFrz, frz, dsFor, dsAppend, dsSetI, ownAt, dVar, dPk, dC, dOp, dCmp, dB, dTru, dNot, dNotV, dAndV, dOrV, dAnd, dOr, dCall, dCons, dNil, dTup, dLst, dOwn, dComp, dC1, dSeqOf, dgName, dgTup, dgCons, dgNil, dSlL, dPart, dNoPart, dEnum, dZip, dListOf, dAddL, liftD, slAt, dYes, dIf, gAdd_i, gSub_i, gDiv_n, gMod_n, gNeg_i, asB_b, asI_i, listD_l, seqD_l, seqD_t, gLen_l, gLen_t, gIx_l, gIx_t, cEq_i, cEq_s, cEq_b, cNe_i, cNe_s, cLt_i, cLe_i, cGt_i, cGe_i, cNotN_i, cNotN_n, cNotN_s, cNotN_l, cNotN_t, cIsN_i, cIsN_n, cIsN_s, cIsN_l, cIsN_t, isi_int, isi_bool, isi_str, List.length_cons, List.length_nil, List.map_cons, List.map_nil, List.replicate, List.nil_append, List.cons_append, List.getElem?_cons_zero, List.getElem?_cons_succ, List.set_cons_zero, List.set_cons_succ, Option.bind_some, Option.map_some, Option.bind_none, Option.map_none, Option.getD_some, Option.getD_none, Nat.reduceAdd, Nat.reduceSub, if_true, reduceIte, Nat.reduceEqDiff, decide_true, decide_false, Bool.not_true, Bool.not_false, Bool.false_eq_true, ne_eq, not_false_eq_true, at0, hg]
theorem fe0 (k : Nat) (hk : k < 1000) : ∃ x : Int, dCall p__law_number_by (dCons (dOp gAdd (dOp gMul (dPk 0) (dVar 0)) (dC (.int (5)))) dNil) [.val (.int k)] = some (.int x) := by
  have g2 : gMul (.int (k : Int)) (.int k) = some (.int ((k : Int) * k)) := gMul_i (okMul_l (by omega) (by omega))
  obtain ⟨x, hx⟩ := number_run ((k : Int) * k + 5)
  exact ⟨x, by simp only [bodyD, outD, startD, dsNext, dsSeq, dsIf, dsRet, dsRetN, dsAsg, dsOwn, dsFrz, frz, dsFor, dsAppend, dsSetI, ownAt, dVar, dPk, dC, dOp, dCmp, dB, dTru, dNot, dNotV, dAndV, dOrV, dAnd, dOr, dCall, dCons, dNil, dTup, dLst, dOwn, dComp, dC1, dSeqOf, dgName, dgTup, dgCons, dgNil, dSlL, dPart, dNoPart, dEnum, dZip, dListOf, dAddL, liftD, slAt, dYes, dIf, gAdd_i, gSub_i, gDiv_n, gMod_n, gNeg_i, asB_b, asI_i, listD_l, seqD_l, seqD_t, gLen_l, gLen_t, gIx_l, gIx_t, cEq_i, cEq_s, cEq_b, cNe_i, cNe_s, cLt_i, cLe_i, cGt_i, cGe_i, cNotN_i, cNotN_n, cNotN_s, cNotN_l, cNotN_t, cIsN_i, cIsN_n, cIsN_s, cIsN_l, cIsN_t, isi_int, isi_bool, isi_str, List.length_cons, List.length_nil, List.map_cons, List.map_nil, List.replicate, List.nil_append, List.cons_append, List.getElem?_cons_zero, List.getElem?_cons_succ, List.set_cons_zero, List.set_cons_succ, Option.bind_some, Option.map_some, Option.bind_none, Option.map_none, Option.getD_some, Option.getD_none, Nat.reduceAdd, Nat.reduceSub, if_true, reduceIte, Nat.reduceEqDiff, decide_true, decide_false, Bool.not_true, Bool.not_false, Bool.false_eq_true, ne_eq, not_false_eq_true, g2, hx]⟩
theorem fe1 (k : Nat) (hk : k < 1000) : ∃ x : Int, dCall p__law_number_by (dCons (dOp gMul (dOp gMul (dOp gMul (dC (.int (7))) (dVar 0)) (dVar 0)) (dVar 0)) dNil) [.val (.int k)] = some (.int x) := by
  have g1 : gMul (.int 7) (.int k) = some (.int (7 * (k : Int))) := gMul_i (okMul_l (by decide) (by decide))
  have g2 : gMul (.int (7 * (k : Int))) (.int k) = some (.int (7 * (k : Int) * k)) := gMul_i (okMul_r (by omega) (by omega))
  have g3 : gMul (.int (7 * (k : Int) * k)) (.int k) = some (.int (7 * (k : Int) * k * k)) := gMul_i (okMul_r (by omega) (by omega))
  obtain ⟨x, hx⟩ := number_run (7 * (k : Int) * k * k)
  exact ⟨x, by simp only [bodyD, outD, startD, dsNext, dsSeq, dsIf, dsRet, dsRetN, dsAsg, dsOwn, dsFrz, frz, dsFor, dsAppend, dsSetI, ownAt, dVar, dPk, dC, dOp, dCmp, dB, dTru, dNot, dNotV, dAndV, dOrV, dAnd, dOr, dCall, dCons, dNil, dTup, dLst, dOwn, dComp, dC1, dSeqOf, dgName, dgTup, dgCons, dgNil, dSlL, dPart, dNoPart, dEnum, dZip, dListOf, dAddL, liftD, slAt, dYes, dIf, gAdd_i, gSub_i, gDiv_n, gMod_n, gNeg_i, asB_b, asI_i, listD_l, seqD_l, seqD_t, gLen_l, gLen_t, gIx_l, gIx_t, cEq_i, cEq_s, cEq_b, cNe_i, cNe_s, cLt_i, cLe_i, cGt_i, cGe_i, cNotN_i, cNotN_n, cNotN_s, cNotN_l, cNotN_t, cIsN_i, cIsN_n, cIsN_s, cIsN_l, cIsN_t, isi_int, isi_bool, isi_str, List.length_cons, List.length_nil, List.map_cons, List.map_nil, List.replicate, List.nil_append, List.cons_append, List.getElem?_cons_zero, List.getElem?_cons_succ, List.set_cons_zero, List.set_cons_succ, Option.bind_some, Option.map_some, Option.bind_none, Option.map_none, Option.getD_some, Option.getD_none, Nat.reduceAdd, Nat.reduceSub, if_true, reduceIte, Nat.reduceEqDiff, decide_true, decide_false, Bool.not_true, Bool.not_false, Bool.false_eq_true, ne_eq, not_false_eq_true, g1, g2, g3, hx]⟩
theorem law_true (ns : List Int) (h : ns.length ≤ 63) : ∃ S, p_law [.list (ns.map .int)] [] = some (.ok (.bool true), S) := by
  obtain ⟨room, r1, r2, eB⟩ := room_run ns
  obtain ⟨B0, l0, c0⟩ := nums_run _ fe0 [] room (by omega) (dS (.list (ns.map .int)) (.val (.int room)) .no .no .no .no .no .no) rfl
  obtain ⟨B1, l1, c1⟩ := nums_run _ fe1 [.lst (B0.map .int)] room (by omega) (dS (.list (ns.map .int)) (.val (.int room)) .no .no .no .no .no .no) rfl
  obtain ⟨ms, hm, em⟩ := cut_int ns none (some 120)
  obtain ⟨ps, p1, p2, p3⟩ := enum_ps ms
  have V0 := inv0 [] ((B1.map W.int).set 0 (.int 7)) B0 B1 room ps.length l0 l1 (by omega)
  obtain ⟨S', ρ', cl', t', told', u8, u9, u10, u11, u12, u13, eL, V⟩ := law_loop (scr := .list (ns.map .int)) (hd := .list [.ref 0, .ref 1]) r1 ps ρ0 _ (fun _ => false) t0 [] .no .no .no .no .no .no (fun p hp => by have := p2 p hp; omega) V0
  obtain ⟨Sf, eZ⟩ := at_last_run (I := I0) (n := n0) (cl := cl') (tld := 13) (room := room) (ρ := ρ') (S := S') (told := told') (fun w hw => by
    obtain ⟨b, dd, B, D, kvs, a1, a2, a3, a4, a5, a6, a7⟩ := V.o w hw
    exact ⟨b, dd, B, D, .none, kvs, a1, a2, by omega, a4, a5⟩) V.c V.T (by have := V.l; omega) (by omega) (by omega)
  refine ⟨Sf, ?_⟩
  unfold p_law
  refine (bodyS_run rfl).trans ((congrArg outS (?_ : _ = some (.rt (.bool true), Sf))).trans rfl)
  show ssSeq _ _ (dS (.list (ns.map .int)) .no .no .no .no .no .no .no) [] = _
  refine (ssSeq_nx (δ' := dS (.list (ns.map .int)) (.val (.int 13)) .no .no .no .no .no .no) (S' := []) rfl).trans ?_
  refine (ssSeq_nx eB).trans ?_
  refine (ssSeq_nx (δ' := dS (.list (ns.map .int)) (.val (.int room)) (.val (.list [.ref 0, .ref 1])) .no .no .no .no .no) (S' := [.lst (B0.map .int), .lst (B1.map .int)]) (ssAsg_of (sLst_two c0 c1) rfl)).trans ?_
  have hx0 : ∀ s1 s3 s4 s5 s6 s7 scr, dOp gIx (dPk 2) (dC (.int 0)) (dS scr s1 (.val (.list [.ref 0, .ref 1])) s3 s4 s5 s6 s7) = some (.ref 0) := fun s1 s3 s4 s5 s6 s7 scr => by simp only [dS, bodyD, outD, startD, dsNext, dsSeq, dsIf, dsRet, dsRetN, dsAsg, dsOwn, dsFrz, frz, dsFor, dsAppend, dsSetI, ownAt, dVar, dPk, dC, dOp, dCmp, dB, dTru, dNot, dNotV, dAndV, dOrV, dAnd, dOr, dCall, dCons, dNil, dTup, dLst, dOwn, dComp, dC1, dSeqOf, dgName, dgTup, dgCons, dgNil, dSlL, dPart, dNoPart, dEnum, dZip, dListOf, dAddL, liftD, slAt, dYes, dIf, gAdd_i, gSub_i, gDiv_n, gMod_n, gNeg_i, asB_b, asI_i, listD_l, seqD_l, seqD_t, gLen_l, gLen_t, gIx_l, gIx_t, cEq_i, cEq_s, cEq_b, cNe_i, cNe_s, cLt_i, cLe_i, cGt_i, cGe_i, cNotN_i, cNotN_n, cNotN_s, cNotN_l, cNotN_t, cIsN_i, cIsN_n, cIsN_s, cIsN_l, cIsN_t, isi_int, isi_bool, isi_str, List.length_cons, List.length_nil, List.map_cons, List.map_nil, List.replicate, List.nil_append, List.cons_append, List.getElem?_cons_zero, List.getElem?_cons_succ, List.set_cons_zero, List.set_cons_succ, Option.bind_some, Option.map_some, Option.bind_none, Option.map_none, Option.getD_some, Option.getD_none, Nat.reduceAdd, Nat.reduceSub, if_true, reduceIte, Nat.reduceEqDiff, decide_true, decide_false, Bool.not_true, Bool.not_false, Bool.false_eq_true, ne_eq, not_false_eq_true, at0]
  have hx1 : ∀ s1 s3 s4 s5 s6 s7 scr, dOp gIx (dPk 2) (dC (.int 1)) (dS scr s1 (.val (.list [.ref 0, .ref 1])) s3 s4 s5 s6 s7) = some (.ref 1) := fun s1 s3 s4 s5 s6 s7 scr => by simp only [dS, bodyD, outD, startD, dsNext, dsSeq, dsIf, dsRet, dsRetN, dsAsg, dsOwn, dsFrz, frz, dsFor, dsAppend, dsSetI, ownAt, dVar, dPk, dC, dOp, dCmp, dB, dTru, dNot, dNotV, dAndV, dOrV, dAnd, dOr, dCall, dCons, dNil, dTup, dLst, dOwn, dComp, dC1, dSeqOf, dgName, dgTup, dgCons, dgNil, dSlL, dPart, dNoPart, dEnum, dZip, dListOf, dAddL, liftD, slAt, dYes, dIf, gAdd_i, gSub_i, gDiv_n, gMod_n, gNeg_i, asB_b, asI_i, listD_l, seqD_l, seqD_t, gLen_l, gLen_t, gIx_l, gIx_t, cEq_i, cEq_s, cEq_b, cNe_i, cNe_s, cLt_i, cLe_i, cGt_i, cGe_i, cNotN_i, cNotN_n, cNotN_s, cNotN_l, cNotN_t, cIsN_i, cIsN_n, cIsN_s, cIsN_l, cIsN_t, isi_int, isi_bool, isi_str, List.length_cons, List.length_nil, List.map_cons, List.map_nil, List.replicate, List.nil_append, List.cons_append, List.getElem?_cons_zero, List.getElem?_cons_succ, List.set_cons_zero, List.set_cons_succ, Option.bind_some, Option.map_some, Option.bind_none, Option.map_none, Option.getD_some, Option.getD_none, Nat.reduceAdd, Nat.reduceSub, if_true, reduceIte, Nat.reduceEqDiff, decide_true, decide_false, Bool.not_true, Bool.not_false, Bool.false_eq_true, ne_eq, not_false_eq_true, at1]
  refine (ssSeq_nx (δ' := dS (.list (ns.map .int)) (.val (.int room)) (.val (.list [.ref 0, .ref 1])) (.val (.list [.ref 2, .ref 3])) .no .no .no .no) (S' := [.lst (B0.map .int), .lst (B1.map .int), .lst (B0.map .int), .lst (B1.map .int)]) (ssAsg_of (sLst_two (S1 := [.lst (B0.map .int), .lst (B1.map .int), .lst (B0.map .int)]) (sListS_of (hx0 _ _ _ _ _ _ _) rfl) (sListS_of (hx1 _ _ _ _ _ _ _) rfl)) rfl)).trans ?_
  refine (ssSeq_nx (δ' := dS (.list (ns.map .int)) (.val (.int room)) (.val (.list [.ref 0, .ref 1])) (.val (.list [.ref 2, .ref 3])) (.val (.list [.ref 4, .ref 7])) .no .no .no) (S' := SX (B0.map .int) (B1.map .int) (B0.map .int) (B1.map .int) []) (ssAsg_of (sLst_two (S1 := [.lst (B0.map .int), .lst (B1.map .int), .lst (B0.map .int), .lst (B1.map .int), .ins (Str.ofString "Shared") (shF 5 6 .none), .lst (B0.map .int), .dK []]) (make_run (h := 0) (es := B0.map .int) rfl _ _ (by simp only [dCons, dNil, hx0, Option.bind_some, Option.map_some])) (make_run (h := 1) (es := B1.map .int) rfl _ _ (by simp only [dCons, dNil, hx1, Option.bind_some, Option.map_some]))) rfl)).trans ?_
  refine (ssSeq_nx (δ' := dS (.list (ns.map .int)) (.val (.int room)) (.val (.list [.ref 0, .ref 1])) (.val (.list [.ref 2, .ref 3])) (.val (.list [.ref 4, .ref 7])) .no .no .no) (S' := SX (B0.map .int) (B1.map .int) (B0.map .int) (B1.map .int) []) ?_).trans ?_
  · have q := eqS_two (S := SX (B0.map .int) (B1.map .int) (B0.map .int) (B1.map .int) []) (a := 0) (b := 1) (c := 2) (d := 3) (X := B0) (Y := B1) rfl rfl rfl rfl
    simp only [dS, bodyS, outS, ssSeq, ssIf, ssRet, ssAsg, ssExpr, ssPure, soB, sBind, sOk, sPure, sFldR, sMeth, sCall, sCallD, noX, outP, sNil, sCons, sTru, sNot, sAnd, sOr, sAndV, sOrV, sNotV, sB, sCmp, sC1, sTup, sLst, sLstS, sLen, gLenS, sIx, gIxS, sIsi, gIsiS, sEq, ssFrz, siLive, ssForL, sCompL, Option.map_eq_map, bodyD, outD, startD, dsNext, dsSeq, dsIf, dsRet, dsRetN, dsAsg, dsOwn, dsFrz, frz, dsFor, dsAppend, dsSetI, ownAt, dVar, dPk, dC, dOp, dCmp, dB, dTru, dNot, dNotV, dAndV, dOrV, dAnd, dOr, dCall, dCons, dNil, dTup, dLst, dOwn, dComp, dC1, dSeqOf, dgName, dgTup, dgCons, dgNil, dSlL, dPart, dNoPart, dEnum, dZip, dListOf, dAddL, liftD, slAt, dYes, dIf, gAdd_i, gSub_i, gDiv_n, gMod_n, gNeg_i, asB_b, asI_i, listD_l, seqD_l, seqD_t, gLen_l, gLen_t, gIx_l, gIx_t, cEq_i, cEq_s, cEq_b, cNe_i, cNe_s, cLt_i, cLe_i, cGt_i, cGe_i, cNotN_i, cNotN_n, cNotN_s, cNotN_l, cNotN_t, cIsN_i, cIsN_n, cIsN_s, cIsN_l, cIsN_t, isi_int, isi_bool, isi_str, List.length_cons, List.length_nil, List.map_cons, List.map_nil, List.replicate, List.nil_append, List.cons_append, List.getElem?_cons_zero, List.getElem?_cons_succ, List.set_cons_zero, List.set_cons_succ, Option.bind_some, Option.map_some, Option.bind_none, Option.map_none, Option.getD_some, Option.getD_none, Nat.reduceAdd, Nat.reduceSub, if_true, reduceIte, Nat.reduceEqDiff, decide_true, decide_false, Bool.not_true, Bool.not_false, Bool.false_eq_true, ne_eq, not_false_eq_true, q]
  refine (ssSeq_nx (δ' := dS (.list (ns.map .int)) (.val (.int room)) (.val (.list [.ref 0, .ref 1])) (.val (.list [.ref 2, .ref 3])) (.val (.list [.ref 4, .ref 7])) .no .no .no) (S' := SX [] (B1.map .int) (B0.map .int) (B1.map .int) []) ?_).trans ?_
  · have q : lstAt (.ref 0) (SX (B0.map .int) (B1.map .int) (B0.map .int) (B1.map .int) []) = some (0, B0.map .int) := rfl
    simp only [ssClear, sPure, hx0, Option.map_some, soB, q]
    rfl
  refine (ssSeq_nx (δ' := dS (.list (ns.map .int)) (.val (.int room)) (.val (.list [.ref 0, .ref 1])) (.val (.list [.ref 2, .ref 3])) (.val (.list [.ref 4, .ref 7])) .no .no .no) (S' := SX [] ((B1.map W.int).set 0 (.int 7)) (B0.map .int) (B1.map .int) []) ?_).trans ?_
  · have q : lstAt (.ref 1) (SX [] (B1.map .int) (B0.map .int) (B1.map .int) []) = some (1, B1.map .int) := rfl
    have a1 : ixN (B1.map W.int).length 0 = some 0 := ixN_in (by decide) (by simp; omega)
    simp only [ssSetI, sPure, hx1, dC, Option.map_some, soB, q, Option.bind_some, asI_i, a1]
    rfl
  refine (ssSeq_nx (δ' := dS (.list (ns.map .int)) (.val (.int room)) (.val (.list [.ref 0, .ref 1])) (.val (.list [.ref 2, .ref 3])) (.val (.list [.ref 4, .ref 7])) (.val (.ref 12)) .no .no) (S' := SX [] ((B1.map W.int).set 0 (.int 7)) (B0.map .int) (B1.map .int) [.lst [], .lst [], .lst [.ref 10, .ref 11]]) ?_).trans ?_
  · have z0 := sz 0 (by decide)
    have z2 := sz 2 (by decide)
    simp only [dS, SX, bodyS, outS, ssSeq, ssIf, ssRet, ssAsg, ssExpr, ssPure, soB, sBind, sOk, sPure, sFldR, sMeth, sCall, sCallD, noX, outP, sNil, sCons, sTru, sNot, sAnd, sOr, sAndV, sOrV, sNotV, sB, sCmp, sC1, sTup, sLst, sLstS, sLen, gLenS, sIx, gIxS, sIsi, gIsiS, sEq, ssFrz, siLive, ssForL, sCompL, Option.map_eq_map, bodyD, outD, startD, dsNext, dsSeq, dsIf, dsRet, dsRetN, dsAsg, dsOwn, dsFrz, frz, dsFor, dsAppend, dsSetI, ownAt, dVar, dPk, dC, dOp, dCmp, dB, dTru, dNot, dNotV, dAndV, dOrV, dAnd, dOr, dCall, dCons, dNil, dTup, dLst, dOwn, dComp, dC1, dSeqOf, dgName, dgTup, dgCons, dgNil, dSlL, dPart, dNoPart, dEnum, dZip, dListOf, dAddL, liftD, slAt, dYes, dIf, gAdd_i, gSub_i, gDiv_n, gMod_n, gNeg_i, asB_b, asI_i, listD_l, seqD_l, seqD_t, gLen_l, gLen_t, gIx_l, gIx_t, cEq_i, cEq_s, cEq_b, cNe_i, cNe_s, cLt_i, cLe_i, cGt_i, cGe_i, cNotN_i, cNotN_n, cNotN_s, cNotN_l, cNotN_t, cIsN_i, cIsN_n, cIsN_s, cIsN_l, cIsN_t, isi_int, isi_bool, isi_str, List.length_cons, List.length_nil, List.map_cons, List.map_nil, List.replicate, List.nil_append, List.cons_append, List.getElem?_cons_zero, List.getElem?_cons_succ, List.set_cons_zero, List.set_cons_succ, Option.bind_some, Option.map_some, Option.bind_none, Option.map_none, Option.getD_some, Option.getD_none, Nat.reduceAdd, Nat.reduceSub, if_true, reduceIte, Nat.reduceEqDiff, decide_true, decide_false, Bool.not_true, Bool.not_false, Bool.false_eq_true, ne_eq, not_false_eq_true, if_pos z0, if_pos z2]
  refine (ssSeq_nx (δ' := dS (.list (ns.map .int)) (.val (.int room)) (.val (.list [.ref 0, .ref 1])) (.val (.list [.ref 2, .ref 3])) (.val (.list [.ref 4, .ref 7])) (.val (.ref 12)) (.own [.bool false, .bool false]) .no) (S' := SX [] ((B1.map W.int).set 0 (.int 7)) (B0.map .int) (B1.map .int) [.lst [], .lst [], .lst [.ref 10, .ref 11]]) ?_).trans ?_
  · have z2 := sz 2 (by decide)
    simp only [dS, bodyS, outS, ssSeq, ssIf, ssRet, ssAsg, ssExpr, ssPure, soB, sBind, sOk, sPure, sFldR, sMeth, sCall, sCallD, noX, outP, sNil, sCons, sTru, sNot, sAnd, sOr, sAndV, sOrV, sNotV, sB, sCmp, sC1, sTup, sLst, sLstS, sLen, gLenS, sIx, gIxS, sIsi, gIsiS, sEq, ssFrz, siLive, ssForL, sCompL, Option.map_eq_map, bodyD, outD, startD, dsNext, dsSeq, dsIf, dsRet, dsRetN, dsAsg, dsOwn, dsFrz, frz, dsFor, dsAppend, dsSetI, ownAt, dVar, dPk, dC, dOp, dCmp, dB, dTru, dNot, dNotV, dAndV, dOrV, dAnd, dOr, dCall, dCons, dNil, dTup, dLst, dOwn, dComp, dC1, dSeqOf, dgName, dgTup, dgCons, dgNil, dSlL, dPart, dNoPart, dEnum, dZip, dListOf, dAddL, liftD, slAt, dYes, dIf, gAdd_i, gSub_i, gDiv_n, gMod_n, gNeg_i, asB_b, asI_i, listD_l, seqD_l, seqD_t, gLen_l, gLen_t, gIx_l, gIx_t, cEq_i, cEq_s, cEq_b, cNe_i, cNe_s, cLt_i, cLe_i, cGt_i, cGe_i, cNotN_i, cNotN_n, cNotN_s, cNotN_l, cNotN_t, cIsN_i, cIsN_n, cIsN_s, cIsN_l, cIsN_t, isi_int, isi_bool, isi_str, List.length_cons, List.length_nil, List.map_cons, List.map_nil, List.replicate, List.nil_append, List.cons_append, List.getElem?_cons_zero, List.getElem?_cons_succ, List.set_cons_zero, List.set_cons_succ, Option.bind_some, Option.map_some, Option.bind_none, Option.map_none, Option.getD_some, Option.getD_none, Nat.reduceAdd, Nat.reduceSub, if_true, reduceIte, Nat.reduceEqDiff, decide_true, decide_false, Bool.not_true, Bool.not_false, Bool.false_eq_true, ne_eq, not_false_eq_true, if_pos z2]
  refine (ssSeq_nx (δ' := dM (.list (ns.map .int)) (.list [.ref 0, .ref 1]) room I0 n0 (fun _ => false) 12 13 .no .no .no .no .no .no) (S' := SX [] ((B1.map W.int).set 0 (.int 7)) (B0.map .int) (B1.map .int) [.lst [], .lst [], .lst [.ref 10, .ref 11], .lst []]) ?_).trans ?_
  · have z0 := sz 0 (by decide)
    simp only [dS, SX, bodyS, outS, ssSeq, ssIf, ssRet, ssAsg, ssExpr, ssPure, soB, sBind, sOk, sPure, sFldR, sMeth, sCall, sCallD, noX, outP, sNil, sCons, sTru, sNot, sAnd, sOr, sAndV, sOrV, sNotV, sB, sCmp, sC1, sTup, sLst, sLstS, sLen, gLenS, sIx, gIxS, sIsi, gIsiS, sEq, ssFrz, siLive, ssForL, sCompL, Option.map_eq_map, bodyD, outD, startD, dsNext, dsSeq, dsIf, dsRet, dsRetN, dsAsg, dsOwn, dsFrz, frz, dsFor, dsAppend, dsSetI, ownAt, dVar, dPk, dC, dOp, dCmp, dB, dTru, dNot, dNotV, dAndV, dOrV, dAnd, dOr, dCall, dCons, dNil, dTup, dLst, dOwn, dComp, dC1, dSeqOf, dgName, dgTup, dgCons, dgNil, dSlL, dPart, dNoPart, dEnum, dZip, dListOf, dAddL, liftD, slAt, dYes, dIf, gAdd_i, gSub_i, gDiv_n, gMod_n, gNeg_i, asB_b, asI_i, listD_l, seqD_l, seqD_t, gLen_l, gLen_t, gIx_l, gIx_t, cEq_i, cEq_s, cEq_b, cNe_i, cNe_s, cLt_i, cLe_i, cGt_i, cGe_i, cNotN_i, cNotN_n, cNotN_s, cNotN_l, cNotN_t, cIsN_i, cIsN_n, cIsN_s, cIsN_l, cIsN_t, isi_int, isi_bool, isi_str, List.length_cons, List.length_nil, List.map_cons, List.map_nil, List.replicate, List.nil_append, List.cons_append, List.getElem?_cons_zero, List.getElem?_cons_succ, List.set_cons_zero, List.set_cons_succ, Option.bind_some, Option.map_some, Option.bind_none, Option.map_none, Option.getD_some, Option.getD_none, Nat.reduceAdd, Nat.reduceSub, if_true, reduceIte, Nat.reduceEqDiff, decide_true, decide_false, Bool.not_true, Bool.not_false, Bool.false_eq_true, ne_eq, not_false_eq_true, if_pos z0]
    rfl
  refine (ssSeq_nx ((ssFor_of (S1 := SX [] ((B1.map W.int).set 0 (.int 7)) (B0.map .int) (B1.map .int) [.lst [], .lst [], .lst [.ref 10, .ref 11], .lst []]) (ds := enumD (ms.map .int)) ?_).trans (by rw [p3]; exact eL))).trans ?_
  · simp only [dM, bodyS, outS, ssSeq, ssIf, ssRet, ssAsg, ssExpr, ssPure, soB, sBind, sOk, sPure, sFldR, sMeth, sCall, sCallD, noX, outP, sNil, sCons, sTru, sNot, sAnd, sOr, sAndV, sOrV, sNotV, sB, sCmp, sC1, sTup, sLst, sLstS, sLen, gLenS, sIx, gIxS, sIsi, gIsiS, sEq, ssFrz, siLive, ssForL, sCompL, Option.map_eq_map, bodyD, outD, startD, dsNext, dsSeq, dsIf, dsRet, dsRetN, dsAsg, dsOwn, dsFrz, frz, dsFor, dsAppend, dsSetI, ownAt, dVar, dPk, dC, dOp, dCmp, dB, dTru, dNot, dNotV, dAndV, dOrV, dAnd, dOr, dCall, dCons, dNil, dTup, dLst, dOwn, dComp, dC1, dSeqOf, dgName, dgTup, dgCons, dgNil, dSlL, dPart, dNoPart, dEnum, dZip, dListOf, dAddL, liftD, slAt, dYes, dIf, gAdd_i, gSub_i, gDiv_n, gMod_n, gNeg_i, asB_b, asI_i, listD_l, seqD_l, seqD_t, gLen_l, gLen_t, gIx_l, gIx_t, cEq_i, cEq_s, cEq_b, cNe_i, cNe_s, cLt_i, cLe_i, cGt_i, cGe_i, cNotN_i, cNotN_n, cNotN_s, cNotN_l, cNotN_t, cIsN_i, cIsN_n, cIsN_s, cIsN_l, cIsN_t, isi_int, isi_bool, isi_str, List.length_cons, List.length_nil, List.map_cons, List.map_nil, List.replicate, List.nil_append, List.cons_append, List.getElem?_cons_zero, List.getElem?_cons_succ, List.set_cons_zero, List.set_cons_succ, Option.bind_some, Option.map_some, Option.bind_none, Option.map_none, Option.getD_some, Option.getD_none, Nat.reduceAdd, Nat.reduceSub, if_true, reduceIte, Nat.reduceEqDiff, decide_true, decide_false, Bool.not_true, Bool.not_false, Bool.false_eq_true, ne_eq, not_false_eq_true, em]
  · simp only [dM, bodyS, outS, ssSeq, ssIf, ssRet, ssAsg, ssExpr, ssPure, soB, sBind, sOk, sPure, sFldR, sMeth, sCall, sCallD, noX, outP, sNil, sCons, sTru, sNot, sAnd, sOr, sAndV, sOrV, sNotV, sB, sCmp, sC1, sTup, sLst, sLstS, sLen, gLenS, sIx, gIxS, sIsi, gIsiS, sEq, ssFrz, siLive, ssForL, sCompL, Option.map_eq_map, bodyD, outD, startD, dsNext, dsSeq, dsIf, dsRet, dsRetN, dsAsg, dsOwn, dsFrz, frz, dsFor, dsAppend, dsSetI, ownAt, dVar, dPk, dC, dOp, dCmp, dB, dTru, dNot, dNotV, dAndV, dOrV, dAnd, dOr, dCall, dCons, dNil, dTup, dLst, dOwn, dComp, dC1, dSeqOf, dgName, dgTup, dgCons, dgNil, dSlL, dPart, dNoPart, dEnum, dZip, dListOf, dAddL, liftD, slAt, dYes, dIf, gAdd_i, gSub_i, gDiv_n, gMod_n, gNeg_i, asB_b, asI_i, listD_l, seqD_l, seqD_t, gLen_l, gLen_t, gIx_l, gIx_t, cEq_i, cEq_s, cEq_b, cNe_i, cNe_s, cLt_i, cLe_i, cGt_i, cGe_i, cNotN_i, cNotN_n, cNotN_s, cNotN_l, cNotN_t, cIsN_i, cIsN_n, cIsN_s, cIsN_l, cIsN_t, isi_int, isi_bool, isi_str, List.length_cons, List.length_nil, List.map_cons, List.map_nil, List.replicate, List.nil_append, List.cons_append, List.getElem?_cons_zero, List.getElem?_cons_succ, List.set_cons_zero, List.set_cons_succ, Option.bind_some, Option.map_some, Option.bind_none, Option.map_none, Option.getD_some, Option.getD_none, Nat.reduceAdd, Nat.reduceSub, if_true, reduceIte, Nat.reduceEqDiff, decide_true, decide_false, Bool.not_true, Bool.not_false, Bool.false_eq_true, ne_eq, not_false_eq_true, eZ]
theorem all_mk {l : PySem.W.OpenLaw} {w : World} {K : PySem.W.Frag} {h : Heap} {mg : Str → Option Value} {fa : Addr} (X : K.In h) (G : h.Ns mainGlobals mg) (hfa : mg "law" = some (.ref fa)) {c_Shared : Addr} {f0 : Addr} {od0 an0 : Option Addr} {sl0 : Array (Option Value)} {oc0 kV0 dc0 pm0 cd0 ct0 : Value} {f1 : Addr} {od1 an1 : Option Addr} {sl1 : Array (Option Value)} {oc1 kV1 dc1 pm1 cd1 ct1 : Value} {f2 : Addr} {od2 an2 : Option Addr} {sl2 : Array (Option Value)} {oc2 kV2 dc2 pm2 cd2 ct2 : Value} {f3 : Addr} {od3 an3 : Option Addr} {sl3 : Array (Option Value)} {oc3 kV3 dc3 pm3 cd3 ct3 : Value} {f4 : Addr} {od4 an4 : Option Addr} {sl4 : Array (Option Value)} {oc4 kV4 dc4 pm4 cd4 ct4 : Value} {f5 : Addr} {od5 an5 : Option Addr} {sl5 : Array (Option Value)} {oc5 kV5 dc5 pm5 cd5 ct5 : Value} {f6 : Addr} {od6 an6 : Option Addr} {sl6 : Array (Option Value)} {oc6 kV6 dc6 pm6 cd6 ct6 : Value} {f7 : Addr} {od7 an7 : Option Addr} {sl7 : Array (Option Value)} {oc7 kV7 dc7 pm7 cd7 ct7 : Value} {f8 : Addr} {od8 an8 : Option Addr} {sl8 : Array (Option Value)} {oc8 kV8 dc8 pm8 cd8 ct8 : Value} {f9 : Addr} {od9 an9 : Option Addr} {sl9 : Array (Option Value)} {oc9 kV9 dc9 pm9 cd9 ct9 : Value} {f10 : Addr} {od10 an10 : Option Addr} {sl10 : Array (Option Value)} {oc10 kV10 dc10 pm10 cd10 ct10 : Value} {f11 : Addr} {od11 an11 : Option Addr} {sl11 : Array (Option Value)} {oc11 kV11 dc11 pm11 cd11 ct11 : Value} {f12 : Addr} {od12 an12 : Option Addr} {sl12 : Array (Option Value)} {oc12 kV12 dc12 pm12 cd12 ct12 : Value} {f13 : Addr} {od13 an13 : Option Addr} {sl13 : Array (Option Value)} {oc13 kV13 dc13 pm13 cd13 ct13 : Value} {f14 : Addr} {od14 an14 : Option Addr} {sl14 : Array (Option Value)} {oc14 kV14 dc14 pm14 cd14 ct14 : Value} {f15 : Addr} {od15 an15 : Option Addr} {sl15 : Array (Option Value)} {oc15 kV15 dc15 pm15 cd15 ct15 : Value}
    (mm_Shared : PySem.W.nsIn K mainGlobals "Shared" = some (some (.ref c_Shared)))
    (a0 : PySem.W.nsIn K mainGlobals "first_clash" = some (some (.ref f0)))
    (l0 : K.lookup f0 = some ⟨oc0, od0, .func (PySem.W.fnOf "first_clash" "first_clash" (defArgs s_first_clash) (defBody s_first_clash) (defScope s_first_clash) .none kV0 dc0 pm0 an0 cd0 ct0), sl0⟩)
    (c0 : PySem.W.codeIn K cd0 "first_clash" = true)
    (k0 : PySem.W.keepIn K (.ref f0) = true)
    (a1 : PySem.W.findIn K (.ref c_Shared) "touch" = some (some (.ref f1)))
    (ifn1 : PySem.W.isFn K (.ref f1) = true)
    (l1 : K.lookup f1 = some ⟨oc1, od1, .func (PySem.W.fnOf "touch" "Shared.touch" (defArgs s_Shared_touch) (defBody s_Shared_touch) (defScope s_Shared_touch) .none kV1 dc1 pm1 an1 cd1 ct1), sl1⟩)
    (c1 : PySem.W.codeIn K cd1 "Shared.touch" = true)
    (k1 : PySem.W.keepIn K (.ref f1) = true)
    (a2 : PySem.W.findIn K (.ref c_Shared) "__init__" = some (some (.ref f2)))
    (ifn2 : PySem.W.isFn K (.ref f2) = true)
    (l2 : K.lookup f2 = some ⟨oc2, od2, .func (PySem.W.fnOf "__init__" "Shared.__init__" (defArgs s_Shared___init__) (defBody s_Shared___init__) (defScope s_Shared___init__) .none kV2 dc2 pm2 an2 cd2 ct2), sl2⟩)
    (c2 : PySem.W.codeIn K cd2 "Shared.__init__" = true)
    (k2 : PySem.W.keepIn K (.ref f2) = true)
    (a3 : PySem.W.findIn K (.ref c_Shared) "taken" = some (some (.ref f3)))
    (ifn3 : PySem.W.isFn K (.ref f3) = true)
    (l3 : K.lookup f3 = some ⟨oc3, od3, .func (PySem.W.fnOf "taken" "Shared.taken" (defArgs s_Shared_taken) (defBody s_Shared_taken) (defScope s_Shared_taken) .none kV3 dc3 pm3 an3 cd3 ct3), sl3⟩)
    (c3 : PySem.W.codeIn K cd3 "Shared.taken" = true)
    (k3 : PySem.W.keepIn K (.ref f3) = true)
    (a4 : PySem.W.findIn K (.ref c_Shared) "laid" = some (some (.ref f4)))
    (ifn4 : PySem.W.isFn K (.ref f4) = true)
    (l4 : K.lookup f4 = some ⟨oc4, od4, .func (PySem.W.fnOf "laid" "Shared.laid" (defArgs s_Shared_laid) (defBody s_Shared_laid) (defScope s_Shared_laid) .none kV4 dc4 pm4 an4 cd4 ct4), sl4⟩)
    (c4 : PySem.W.codeIn K cd4 "Shared.laid" = true)
    (k4 : PySem.W.keepIn K (.ref f4) = true)
    (a5 : PySem.W.findIn K (.ref c_Shared) "met" = some (some (.ref f5)))
    (ifn5 : PySem.W.isFn K (.ref f5) = true)
    (l5 : K.lookup f5 = some ⟨oc5, od5, .func (PySem.W.fnOf "met" "Shared.met" (defArgs s_Shared_met) (defBody s_Shared_met) (defScope s_Shared_met) .none kV5 dc5 pm5 an5 cd5 ct5), sl5⟩)
    (c5 : PySem.W.codeIn K cd5 "Shared.met" = true)
    (k5 : PySem.W.keepIn K (.ref f5) = true)
    (a6 : PySem.W.nsIn K mainGlobals "_law_whole" = some (some (.ref f6)))
    (l6 : K.lookup f6 = some ⟨oc6, od6, .func (PySem.W.fnOf "_law_whole" "_law_whole" (defArgs s__law_whole) (defBody s__law_whole) (defScope s__law_whole) .none kV6 dc6 pm6 an6 cd6 ct6), sl6⟩)
    (c6 : PySem.W.codeIn K cd6 "_law_whole" = true)
    (k6 : PySem.W.keepIn K (.ref f6) = true)
    (a7 : PySem.W.nsIn K mainGlobals "_law_mixed" = some (some (.ref f7)))
    (l7 : K.lookup f7 = some ⟨oc7, od7, .func (PySem.W.fnOf "_law_mixed" "_law_mixed" (defArgs s__law_mixed) (defBody s__law_mixed) (defScope s__law_mixed) .none kV7 dc7 pm7 an7 cd7 ct7), sl7⟩)
    (c7 : PySem.W.codeIn K cd7 "_law_mixed" = true)
    (k7 : PySem.W.keepIn K (.ref f7) = true)
    (a8 : PySem.W.nsIn K mainGlobals "_law_number_by" = some (some (.ref f8)))
    (l8 : K.lookup f8 = some ⟨oc8, od8, .func (PySem.W.fnOf "_law_number_by" "_law_number_by" (defArgs s__law_number_by) (defBody s__law_number_by) (defScope s__law_number_by) .none kV8 dc8 pm8 an8 cd8 ct8), sl8⟩)
    (c8 : PySem.W.codeIn K cd8 "_law_number_by" = true)
    (k8 : PySem.W.keepIn K (.ref f8) = true)
    (a9 : PySem.W.nsIn K mainGlobals "_law_deed_by" = some (some (.ref f9)))
    (l9 : K.lookup f9 = some ⟨oc9, od9, .func (PySem.W.fnOf "_law_deed_by" "_law_deed_by" (defArgs s__law_deed_by) (defBody s__law_deed_by) (defScope s__law_deed_by) .none kV9 dc9 pm9 an9 cd9 ct9), sl9⟩)
    (c9 : PySem.W.codeIn K cd9 "_law_deed_by" = true)
    (k9 : PySem.W.keepIn K (.ref f9) = true)
    (a10 : PySem.W.nsIn K mainGlobals "_law_clash" = some (some (.ref f10)))
    (l10 : K.lookup f10 = some ⟨oc10, od10, .func (PySem.W.fnOf "_law_clash" "_law_clash" (defArgs s__law_clash) (defBody s__law_clash) (defScope s__law_clash) .none kV10 dc10 pm10 an10 cd10 ct10), sl10⟩)
    (c10 : PySem.W.codeIn K cd10 "_law_clash" = true)
    (k10 : PySem.W.keepIn K (.ref f10) = true)
    (a11 : PySem.W.nsIn K mainGlobals "_law_same_list" = some (some (.ref f11)))
    (l11 : K.lookup f11 = some ⟨oc11, od11, .func (PySem.W.fnOf "_law_same_list" "_law_same_list" (defArgs s__law_same_list) (defBody s__law_same_list) (defScope s__law_same_list) .none kV11 dc11 pm11 an11 cd11 ct11), sl11⟩)
    (c11 : PySem.W.codeIn K cd11 "_law_same_list" = true)
    (k11 : PySem.W.keepIn K (.ref f11) = true)
    (a12 : PySem.W.nsIn K mainGlobals "_law_touched" = some (some (.ref f12)))
    (l12 : K.lookup f12 = some ⟨oc12, od12, .func (PySem.W.fnOf "_law_touched" "_law_touched" (defArgs s__law_touched) (defBody s__law_touched) (defScope s__law_touched) .none kV12 dc12 pm12 an12 cd12 ct12), sl12⟩)
    (c12 : PySem.W.codeIn K cd12 "_law_touched" = true)
    (k12 : PySem.W.keepIn K (.ref f12) = true)
    (a13 : PySem.W.nsIn K mainGlobals "_law_stays" = some (some (.ref f13)))
    (l13 : K.lookup f13 = some ⟨oc13, od13, .func (PySem.W.fnOf "_law_stays" "_law_stays" (defArgs s__law_stays) (defBody s__law_stays) (defScope s__law_stays) .none kV13 dc13 pm13 an13 cd13 ct13), sl13⟩)
    (c13 : PySem.W.codeIn K cd13 "_law_stays" = true)
    (k13 : PySem.W.keepIn K (.ref f13) = true)
    (a14 : PySem.W.nsIn K mainGlobals "_law_at_last" = some (some (.ref f14)))
    (l14 : K.lookup f14 = some ⟨oc14, od14, .func (PySem.W.fnOf "_law_at_last" "_law_at_last" (defArgs s__law_at_last) (defBody s__law_at_last) (defScope s__law_at_last) .none kV14 dc14 pm14 an14 cd14 ct14), sl14⟩)
    (c14 : PySem.W.codeIn K cd14 "_law_at_last" = true)
    (k14 : PySem.W.keepIn K (.ref f14) = true)
    (a15 : PySem.W.nsIn K mainGlobals "law" = some (some (.ref f15)))
    (l15 : K.lookup f15 = some ⟨oc15, od15, .func (PySem.W.fnOf "law" "law" (defArgs s_law) (defBody s_law) (defScope s_law) .none kV15 dc15 pm15 an15 cd15 ct15), sl15⟩)
    (c15 : PySem.W.codeIn K cd15 "law" = true)
    (k15 : PySem.W.keepIn K (.ref f15) = true)
    (pg_Shared : PySem.W.plainGet K c_Shared Str.empty = true)
    (hd_Shared : PySem.W.hasDictIn K c_Shared = true)
    (po_Shared : PySem.W.plainOver K c_Shared = true)
    (sa_Shared : PySem.W.findIn K (.ref c_Shared) "__setattr__" = some (some (.builtin "object.__setattr__")))
    (mk_Shared : PySem.W.makesIn K c_Shared = true)
    (kc_Shared : PySem.W.keepIn K (.ref c_Shared) = true)
    (nn_Shared_boxes : PySem.W.findIn K (.ref c_Shared) "boxes" = some none)
    (nn_Shared_clash : PySem.W.findIn K (.ref c_Shared) "clash" = some none)
    (nn_Shared_touches : PySem.W.findIn K (.ref c_Shared) "touches" = some none)
    (zz_all : PySem.W.nsIn K mainGlobals "all" = some none)
    (zz_any : PySem.W.nsIn K mainGlobals "any" = some none)
    (zz_bool : PySem.W.nsIn K mainGlobals "bool" = some none)
    (zz_enumerate : PySem.W.nsIn K mainGlobals "enumerate" = some none)
    (zz_int : PySem.W.nsIn K mainGlobals "int" = some none)
    (zz_isinstance : PySem.W.nsIn K mainGlobals "isinstance" = some none)
    (zz_len : PySem.W.nsIn K mainGlobals "len" = some none)
    (zz_list : PySem.W.nsIn K mainGlobals "list" = some none)
    (zz_range : PySem.W.nsIn K mainGlobals "range" = some none)
    (zz_tuple : PySem.W.nsIn K mainGlobals "tuple" = some none) :
    ∃ fd : FuncData, (∀ (s : Shared) (v : Value), BindsTo s fd ⟨[v], []⟩ [("_law_script", v)]) ∧ ∀ base : Heap, K.In base → base.Ns mainGlobals mg → FnOk l.prog w K mg base CX0 6 fa fd ["_law_script"] (sp_law K) := by
  have e := hfa.symm.trans (PySem.W.mg_of X G a15)
  cases e
  have m_Shared : mg "Shared" = some (.ref ((clF c_Shared) "Shared")) := by rw [clF_Shared]; exact PySem.W.mg_of X G mm_Shared
  have F_first_clash := fun_mk (st := s_first_clash) l0 c0 k0
  have d_first_clash : Df K mg "first_clash" s_first_clash ["touches", "word", "lane", "place", "line"] f0 _ := ⟨F_first_clash, F_first_clash.binds (ps := ["touches", "word", "lane", "place", "line"]) fun _ _ _ _ _ _ us hl => match us, hl with | [_, _, _, _, _], _ => rfl, PySem.W.mg_of X G a0⟩
  have F_Shared_touch := fun_mk (st := s_Shared_touch) l1 c1 k1
  have b_Shared_touch := F_Shared_touch.binds (ps := ["self", "word", "lane", "place", "line"]) fun _ _ _ _ _ _ us hl => match us, hl with | [_, _, _, _, _], _ => rfl
  have mt_Shared_touch : Meth K ((clF c_Shared) "Shared") "touch" f1 := by rw [clF_Shared]; exact ⟨a1, ifn1, k1⟩
  have F_Shared___init__ := fun_mk (st := s_Shared___init__) l2 c2 k2
  have b_Shared___init__ := F_Shared___init__.binds (ps := ["self", "boxes"]) fun _ _ _ _ _ _ us hl => match us, hl with | [_, _], _ => rfl
  have F_Shared_taken := fun_mk (st := s_Shared_taken) l3 c3 k3
  have b_Shared_taken := F_Shared_taken.binds (ps := ["self", "lane", "place", "line"]) fun _ _ _ _ _ _ us hl => match us, hl with | [_, _, _, _], _ => rfl
  have mt_Shared_taken : Meth K ((clF c_Shared) "Shared") "taken" f3 := by rw [clF_Shared]; exact ⟨a3, ifn3, k3⟩
  have F_Shared_laid := fun_mk (st := s_Shared_laid) l4 c4 k4
  have b_Shared_laid := F_Shared_laid.binds (ps := ["self", "lane", "place", "line", "number"]) fun _ _ _ _ _ _ us hl => match us, hl with | [_, _, _, _, _], _ => rfl
  have mt_Shared_laid : Meth K ((clF c_Shared) "Shared") "laid" f4 := by rw [clF_Shared]; exact ⟨a4, ifn4, k4⟩
  have F_Shared_met := fun_mk (st := s_Shared_met) l5 c5 k5
  have b_Shared_met := F_Shared_met.binds (ps := ["self"]) fun _ _ _ _ _ _ us hl => match us, hl with | [_], _ => rfl
  have mt_Shared_met : Meth K ((clF c_Shared) "Shared") "met" f5 := by rw [clF_Shared]; exact ⟨a5, ifn5, k5⟩
  have F__law_whole := fun_mk (st := s__law_whole) l6 c6 k6
  have d__law_whole : Df K mg "_law_whole" s__law_whole ["_law_found"] f6 _ := ⟨F__law_whole, F__law_whole.binds (ps := ["_law_found"]) fun _ _ _ _ _ _ us hl => match us, hl with | [_], _ => rfl, PySem.W.mg_of X G a6⟩
  have F__law_mixed := fun_mk (st := s__law_mixed) l7 c7 k7
  have d__law_mixed : Df K mg "_law_mixed" s__law_mixed ["_law_cell", "_law_k"] f7 _ := ⟨F__law_mixed, F__law_mixed.binds (ps := ["_law_cell", "_law_k"]) fun _ _ _ _ _ _ us hl => match us, hl with | [_, _], _ => rfl, PySem.W.mg_of X G a7⟩
  have F__law_number_by := fun_mk (st := s__law_number_by) l8 c8 k8
  have d__law_number_by : Df K mg "_law_number_by" s__law_number_by ["_law_cell"] f8 _ := ⟨F__law_number_by, F__law_number_by.binds (ps := ["_law_cell"]) fun _ _ _ _ _ _ us hl => match us, hl with | [_], _ => rfl, PySem.W.mg_of X G a8⟩
  have F__law_deed_by := fun_mk (st := s__law_deed_by) l9 c9 k9
  have d__law_deed_by : Df K mg "_law_deed_by" s__law_deed_by ["_law_cell", "_law_room"] f9 _ := ⟨F__law_deed_by, F__law_deed_by.binds (ps := ["_law_cell", "_law_room"]) fun _ _ _ _ _ _ us hl => match us, hl with | [_, _], _ => rfl, PySem.W.mg_of X G a9⟩
  have F__law_clash := fun_mk (st := s__law_clash) l10 c10 k10
  have d__law_clash : Df K mg "_law_clash" s__law_clash ["_law_touches", "_law_deed"] f10 _ := ⟨F__law_clash, F__law_clash.binds (ps := ["_law_touches", "_law_deed"]) fun _ _ _ _ _ _ us hl => match us, hl with | [_, _], _ => rfl, PySem.W.mg_of X G a10⟩
  have F__law_same_list := fun_mk (st := s__law_same_list) l11 c11 k11
  have d__law_same_list : Df K mg "_law_same_list" s__law_same_list ["_law_found", "_law_due"] f11 _ := ⟨F__law_same_list, F__law_same_list.binds (ps := ["_law_found", "_law_due"]) fun _ _ _ _ _ _ us hl => match us, hl with | [_, _], _ => rfl, PySem.W.mg_of X G a11⟩
  have F__law_touched := fun_mk (st := s__law_touched) l12 c12 k12
  have d__law_touched : Df K mg "_law_touched" s__law_touched ["_law_boxes", "_law_numbers", "_law_touches", "_law_deed", "_law_number"] f12 _ := ⟨F__law_touched, F__law_touched.binds (ps := ["_law_boxes", "_law_numbers", "_law_touches", "_law_deed", "_law_number"]) fun _ _ _ _ _ _ us hl => match us, hl with | [_, _, _, _, _], _ => rfl, PySem.W.mg_of X G a12⟩
  have F__law_stays := fun_mk (st := s__law_stays) l13 c13 k13
  have d__law_stays : Df K mg "_law_stays" s__law_stays ["_law_boxes"] f13 _ := ⟨F__law_stays, F__law_stays.binds (ps := ["_law_boxes"]) fun _ _ _ _ _ _ us hl => match us, hl with | [_], _ => rfl, PySem.W.mg_of X G a13⟩
  have F__law_at_last := fun_mk (st := s__law_at_last) l14 c14 k14
  have d__law_at_last : Df K mg "_law_at_last" s__law_at_last ["_law_boxes", "_law_numbers", "_law_closed", "_law_told"] f14 _ := ⟨F__law_at_last, F__law_at_last.binds (ps := ["_law_boxes", "_law_numbers", "_law_closed", "_law_told"]) fun _ _ _ _ _ _ us hl => match us, hl with | [_, _, _, _], _ => rfl, PySem.W.mg_of X G a14⟩
  have F_law := fun_mk (st := s_law) l15 c15 k15
  have cl_Shared : Cls K ((clF c_Shared) "Shared") := by rw [clF_Shared]; exact ⟨pg_Shared, hd_Shared, po_Shared, sa_Shared⟩
  have n_Shared_boxes : NoAttr K ((clF c_Shared) "Shared") "boxes" := by rw [clF_Shared]; exact nn_Shared_boxes
  have n_Shared_clash : NoAttr K ((clF c_Shared) "Shared") "clash" := by rw [clF_Shared]; exact nn_Shared_clash
  have n_Shared_touches : NoAttr K ((clF c_Shared) "Shared") "touches" := by rw [clF_Shared]; exact nn_Shared_touches
  have M_Shared : Mk K ((clF c_Shared) "Shared") f2 := by rw [clF_Shared]; exact ⟨mk_Shared, a2, ifn2, kc_Shared⟩
  have z_all := PySem.W.mg_none_of X G zz_all
  have z_any := PySem.W.mg_none_of X G zz_any
  have z_bool := PySem.W.mg_none_of X G zz_bool
  have z_enumerate := PySem.W.mg_none_of X G zz_enumerate
  have z_int := PySem.W.mg_none_of X G zz_int
  have z_isinstance := PySem.W.mg_none_of X G zz_isinstance
  have z_len := PySem.W.mg_none_of X G zz_len
  have z_list := PySem.W.mg_none_of X G zz_list
  have z_range := PySem.W.mg_none_of X G zz_range
  have z_tuple := PySem.W.mg_none_of X G zz_tuple
  refine ⟨PySem.W.fnOf "law" "law" (defArgs s_law) (defBody s_law) (defScope s_law) .none kV15 dc15 pm15 an15 cd15 ct15, fun s v => .of_eq rfl, fun base _ _ => ?_⟩
  have G_first_clash := ok_first_clash (P := l.prog) (w := w) (mg := mg) (base := base) (cl := (clF c_Shared)) F_first_clash
  have G_Shared_touch := ok_Shared_touch (P := l.prog) (w := w) (mg := mg) (base := base) (cl := (clF c_Shared)) F_Shared_touch d_first_clash G_first_clash m_Shared cl_Shared n_Shared_boxes n_Shared_clash n_Shared_touches z_any
  have G_Shared___init__ := ok_Shared___init__ (P := l.prog) (w := w) (mg := mg) (base := base) (cl := (clF c_Shared)) F_Shared___init__ m_Shared cl_Shared n_Shared_boxes n_Shared_clash n_Shared_touches z_list
  have G_Shared_taken := ok_Shared_taken (P := l.prog) (w := w) (mg := mg) (base := base) (cl := (clF c_Shared)) F_Shared_taken b_Shared_touch mt_Shared_touch G_Shared_touch m_Shared cl_Shared n_Shared_boxes n_Shared_clash n_Shared_touches
  have G_Shared_laid := ok_Shared_laid (P := l.prog) (w := w) (mg := mg) (base := base) (cl := (clF c_Shared)) F_Shared_laid b_Shared_touch mt_Shared_touch G_Shared_touch m_Shared cl_Shared n_Shared_boxes n_Shared_clash n_Shared_touches
  have G_Shared_met := ok_Shared_met (P := l.prog) (w := w) (mg := mg) (base := base) (cl := (clF c_Shared)) F_Shared_met m_Shared cl_Shared n_Shared_boxes n_Shared_clash n_Shared_touches z_list
  have G__law_whole := ok__law_whole (P := l.prog) (w := w) (mg := mg) (base := base) F__law_whole z_isinstance z_bool z_int
  have G__law_mixed := ok__law_mixed (P := l.prog) (w := w) (mg := mg) (base := base) F__law_mixed
  have G__law_number_by := ok__law_number_by (P := l.prog) (w := w) (mg := mg) (base := base) F__law_number_by
  have G__law_deed_by := ok__law_deed_by (P := l.prog) (w := w) (mg := mg) (base := base) F__law_deed_by
  have G__law_clash := ok__law_clash (P := l.prog) (w := w) (mg := mg) (base := base) (cl := (clF c_Shared)) F__law_clash
  have G__law_same_list := ok__law_same_list (P := l.prog) (w := w) (mg := mg) (base := base) (cl := (clF c_Shared)) F__law_same_list d__law_whole G__law_whole z_all z_isinstance z_list
  have G__law_touched := ok__law_touched (P := l.prog) (w := w) (mg := mg) (base := base) (cl := (clF c_Shared)) F__law_touched d__law_clash G__law_clash b_Shared_laid mt_Shared_laid G_Shared_laid b_Shared_taken mt_Shared_taken G_Shared_taken d__law_whole G__law_whole m_Shared cl_Shared n_Shared_boxes n_Shared_clash n_Shared_touches z_all z_isinstance z_tuple
  have G__law_stays := ok__law_stays (P := l.prog) (w := w) (mg := mg) (base := base) (cl := (clF c_Shared)) F__law_stays b_Shared_met mt_Shared_met G_Shared_met b_Shared_laid mt_Shared_laid G_Shared_laid b_Shared_taken mt_Shared_taken G_Shared_taken m_Shared cl_Shared n_Shared_boxes n_Shared_clash n_Shared_touches
  have G__law_at_last := ok__law_at_last (P := l.prog) (w := w) (mg := mg) (base := base) (cl := (clF c_Shared)) F__law_at_last d__law_stays G__law_stays b_Shared_met mt_Shared_met G_Shared_met d__law_same_list G__law_same_list b_Shared_taken mt_Shared_taken G_Shared_taken m_Shared cl_Shared n_Shared_boxes n_Shared_clash n_Shared_touches z_list z_range z_all z_len
  exact ok_law (P := l.prog) (w := w) (mg := mg) (base := base) (cl := (clF c_Shared)) law_true F_law d__law_number_by G__law_number_by b_Shared___init__ M_Shared G_Shared___init__ d__law_mixed G__law_mixed d__law_deed_by G__law_deed_by b_Shared_met mt_Shared_met G_Shared_met d__law_touched G__law_touched d__law_at_last G__law_at_last m_Shared cl_Shared n_Shared_boxes n_Shared_clash n_Shared_touches z_len z_range z_list z_enumerate
theorem walk {l : PySem.W.OpenLaw} {q : Program} {loose : List Str} {XP : (Str → Option Value) → Heap → Prop} {YP : World → Heap → Prop} {d : DefRec} {K : Params → PySem.W.Frag} (hn : l.most = some 63) (hdf : d.params.defaults = [])
    (hY : ∀ (w : World) (h : Heap), YP w h → (K w.params).In h)
    (F : ∀ (w : World) (mg : Str → Option Value) (fa : Addr) (h : Heap), (K w.params).In h → h.Ns mainGlobals mg → mg d.name = some (.ref fa) →
      ∃ fd : FuncData, (∀ (s : Shared) (u : Value), BindsTo s fd ⟨[u], []⟩ [("_law_script", u)]) ∧ ∀ base : Heap, (K w.params).In base → base.Ns mainGlobals mg → FnOk l.prog w (K w.params) mg base CX0 6 fa fd ["_law_script"] (sp_law (K w.params))) :
    PySem.W.WalkO q loose XP YP l.row.toRowW d [] (fun f vs => PySem.call f vs) :=
  L2.walk_of (n := 63) (k := 6) (x := "_law_script") (CX := fun _ => CX0) (sp := fun w => (sp_law (K w.params))) hn (by decide) hdf ⟨rfl, by decide, by decide⟩ hY F (fun _ _ a ns hl _ hS => ⟨a, ns, rfl, hS, hl, fun _ => rfl⟩) fun _ _ _ _ _ z => z
end My
open PySem PySem.W PyProof.Rows
set_option maxRecDepth 100000 in
set_option maxHeartbeats 0 in
theorem PySem.Challenge.cw_widelanes_k51_shared_boxes_holds : PySem.Challenge.rw_widelanes_k51_shared_boxes.Holds := by
  w_on; o_law; k_head; (case hw => w_witness2)
  k_fill
  refine My.walk (l := PySem.Challenge.rw_widelanes_k51_shared_boxes) rfl rfl (fun w h Y => PySem.W.kIn_of Y) ?F
  case F =>
    intro w mg fa h KX G hmg
    refine' My.all_mk KX G hmg ?mm_Shared ?a0 ?l0 ?c0 ?k0 ?a1 ?ifn1 ?l1 ?c1 ?k1 ?a2 ?ifn2 ?l2 ?c2 ?k2 ?a3 ?ifn3 ?l3 ?c3 ?k3 ?a4 ?ifn4 ?l4 ?c4 ?k4 ?a5 ?ifn5 ?l5 ?c5 ?k5 ?a6 ?l6 ?c6 ?k6 ?a7 ?l7 ?c7 ?k7 ?a8 ?l8 ?c8 ?k8 ?a9 ?l9 ?c9 ?k9 ?a10 ?l10 ?c10 ?k10 ?a11 ?l11 ?c11 ?k11 ?a12 ?l12 ?c12 ?k12 ?a13 ?l13 ?c13 ?k13 ?a14 ?l14 ?c14 ?k14 ?a15 ?l15 ?c15 ?k15 ?pg_Shared ?hd_Shared ?po_Shared ?sa_Shared ?mk_Shared ?kc_Shared ?nn_Shared_boxes ?nn_Shared_clash ?nn_Shared_touches ?zz_all ?zz_any ?zz_bool ?zz_enumerate ?zz_int ?zz_isinstance ?zz_len ?zz_list ?zz_range ?zz_tuple
    (case mm_Shared => k_is)
    (case a0 => k_is)
    (case l0 => k_is)
    (case c0 => k_is)
    (case k0 => k_is)
    (case a1 => k_is)
    (case ifn1 => k_is)
    (case l1 => k_is)
    (case c1 => k_is)
    (case k1 => k_is)
    (case a2 => k_is)
    (case ifn2 => k_is)
    (case l2 => k_is)
    (case c2 => k_is)
    (case k2 => k_is)
    (case a3 => k_is)
    (case ifn3 => k_is)
    (case l3 => k_is)
    (case c3 => k_is)
    (case k3 => k_is)
    (case a4 => k_is)
    (case ifn4 => k_is)
    (case l4 => k_is)
    (case c4 => k_is)
    (case k4 => k_is)
    (case a5 => k_is)
    (case ifn5 => k_is)
    (case l5 => k_is)
    (case c5 => k_is)
    (case k5 => k_is)
    (case a6 => k_is)
    (case l6 => k_is)
    (case c6 => k_is)
    (case k6 => k_is)
    (case a7 => k_is)
    (case l7 => k_is)
    (case c7 => k_is)
    (case k7 => k_is)
    (case a8 => k_is)
    (case l8 => k_is)
    (case c8 => k_is)
    (case k8 => k_is)
    (case a9 => k_is)
    (case l9 => k_is)
    (case c9 => k_is)
    (case k9 => k_is)
    (case a10 => k_is)
    (case l10 => k_is)
    (case c10 => k_is)
    (case k10 => k_is)
    (case a11 => k_is)
    (case l11 => k_is)
    (case c11 => k_is)
    (case k11 => k_is)
    (case a12 => k_is)
    (case l12 => k_is)
    (case c12 => k_is)
    (case k12 => k_is)
    (case a13 => k_is)
    (case l13 => k_is)
    (case c13 => k_is)
    (case k13 => k_is)
    (case a14 => k_is)
    (case l14 => k_is)
    (case c14 => k_is)
    (case k14 => k_is)
    (case a15 => k_is)
    (case l15 => k_is)
    (case c15 => k_is)
    (case k15 => k_is)
    (case pg_Shared => k_is)
    (case hd_Shared => k_is)
    (case po_Shared => k_is)
    (case sa_Shared => k_is)
    (case mk_Shared => k_is)
    (case kc_Shared => k_is)
    (case nn_Shared_boxes => k_is)
    (case nn_Shared_clash => k_is)
    (case nn_Shared_touches => k_is)
    (case zz_all => k_is)
    (case zz_any => k_is)
    (case zz_bool => k_is)
    (case zz_enumerate => k_is)
    (case zz_int => k_is)
    (case zz_isinstance => k_is)
    (case zz_len => k_is)
    (case zz_list => k_is)
    (case zz_range => k_is)
    (case zz_tuple => k_is)
