import PyProof.Rows.All
import Wide.All
import OpenK.AllK
import Wide.FinOn
import Lean
import PyProof.EqAt
import PyProof.EqKinds
import PyProof.TupleCall
import PySem.Challenge.RW_widelanes_k22_rows_of_straight_lines
set_option Elab.async false
set_option linter.all false
set_option maxRecDepth 100000
namespace L2
open PySem PySem.Spec PyProof.Rows
noncomputable abbrev Key := Sum Int Str
noncomputable def keyIs : Key → Value → Bool
 | .inl k, v => Value.isInt k v
 | .inr x, v => Value.isStrOf x v
noncomputable def keyH (w : World) : Key → Int
 | .inl k => hashInt k
 | .inr x => hashStr w x
theorem zk2 : ∀ {k : Key} {v : Value}, keyIs k v = true → (∃ i t, k = Sum.inl i ∧ v = Value.int i t) ∨ (∃ x t, k = Sum.inr x ∧ v = Value.str x t)
 | .inl i, v, h => by
  obtain ⟨t, e⟩ := Value.isInt_shape (k := i) (v := v) h
  exact .inl ⟨i, t, rfl, e⟩
 | .inr x, v, h => by
  obtain ⟨t, e⟩ := Value.isStrOf_shape (x := x) (v := v) h
  exact .inr ⟨x, t, rfl, e⟩
theorem keyIs_int (i : Int) (t : Tok) : keyIs (.inl i) (.int i t) = true := by simp [keyIs, Value.isInt]
theorem keyIs_str (x : Str) (t : Tok) : keyIs (.inr x) (.str x t) = true := by simp [keyIs, Value.isStrOf]
theorem key_ll (a b : Int) : decide ((Sum.inl a : Key) = Sum.inl b) = (a == b) := by
 by_cases e : a = b
 · subst e; simp
 · have h : ¬ (Sum.inl a : Key) = Sum.inl b := fun q => e (Sum.inl.inj q)
   rw [decide_eq_false h]
   exact (beq_eq_false_iff_ne.mpr e).symm
theorem key_rr (a b : Str) : decide ((Sum.inr a : Key) = Sum.inr b) = decide (a = b) := by
 by_cases e : a = b
 · subst e; simp
 · have h : ¬ (Sum.inr a : Key) = Sum.inr b := fun q => e (Sum.inr.inj q)
   rw [decide_eq_false h, decide_eq_false e]
theorem key_lr (a : Int) (b : Str) : decide ((Sum.inl a : Key) = Sum.inr b) = false := decide_eq_false (fun q => nomatch q)
theorem key_rl (a : Str) (b : Int) : decide ((Sum.inr a : Key) = Sum.inl b) = false := decide_eq_false (fun q => nomatch q)
noncomputable def zo4 (prog : Program) (w : World) : PySem.KeyKind prog w Key where
 is := keyIs
 hash := keyH w
 inj := fun v a b ha hb => by
  rcases zk2 ha with ⟨i, t, rfl, rfl⟩ | ⟨x, t, rfl, rfl⟩
  · rcases zk2 hb with ⟨j, u, rfl, e⟩ | ⟨y, u, rfl, e⟩
    · injection e with e1 _; rw [e1]
    · exact nomatch e
  · rcases zk2 hb with ⟨j, u, rfl, e⟩ | ⟨y, u, rfl, e⟩
    · exact nomatch e
    · injection e with e1 _; rw [e1]
 byValue := fun k v h => by
  rcases zk2 h with ⟨i, t, rfl, rfl⟩ | ⟨x, t, rfl, rfl⟩ <;> rfl
 pyHash := fun hv h => by
  rcases zk2 hv with ⟨i, t, rfl, rfl⟩ | ⟨x, t, rfl, rfl⟩
  · exact wpAny_pyHash_int h
  · exact wpAny_pyHash_str h
 eqBool := fun hu hv h => by
  rcases zk2 hu with ⟨i, t, rfl, rfl⟩ | ⟨x, t, rfl, rfl⟩
  · rcases zk2 hv with ⟨j, u, rfl, rfl⟩ | ⟨y, u, rfl, rfl⟩
    · rw [key_ll] at h; exact wpAny_eqBool_int h
    · rw [key_lr] at h; exact SeqAt.EqAt.int_str i t y u _ _ _ _ h
  · rcases zk2 hv with ⟨j, u, rfl, rfl⟩ | ⟨y, u, rfl, rfl⟩
    · rw [key_rl] at h; exact SeqAt.EqAt.str_int x t j u _ _ _ _ h
    · rw [key_rr] at h; exact wpAny_eqBool_str h
 «strs» := fun k x t v h => by
  rcases zk2 h with ⟨i, u, rfl, e⟩ | ⟨y, u, rfl, e⟩
  · exact nomatch e
  · injection e with e1 _
    subst e1
    cases v <;> rfl
theorem mixKind_int (prog : Program) (w : World) (i : Int) (t : Tok) : (zo4 prog w).is (.inl i) (.int i t) = true := keyIs_int i t
theorem mixKind_str (prog : Program) (w : World) (x : Str) (t : Tok) : (zo4 prog w).is (.inr x) (.str x t) = true := keyIs_str x t
end L2
namespace L2
open PySem PySem.Spec PyProof.Rows
inductive V where
 | non | bl (b : Bool) | int (i : Int) | str (x : Str) | byt (b : Array UInt8) | flt (b : UInt64) | ref (a : Addr) | ty (n : String)
 deriving DecidableEq
noncomputable def RelV : V → Value → Prop
 | .non, u => u = Value.none
 | .bl b, u => u = Value.bool b
 | .int i, u => ∃ t, u = Value.int i t
 | .str x, u => ∃ t, u = Value.str x t
 | .byt b, u => ∃ t, u = Value.bytes b t
 | .flt b, u => ∃ t, u = Value.float b t
 | .ref a, u => u = Value.ref a
 | .ty n, u => u = Value.type n
noncomputable abbrev Vals : List V → List Value → Prop := Paired RelV
theorem Vals.length {xs : List V} {us : List Value} (r : Vals xs us) : xs.length = us.length := Paired.length r
theorem Vals.get : ∀ {xs : List V} {us : List Value} {i : Nat} {x : V}, Vals xs us → xs[i]? = some x → ∃ u, us[i]? = some u ∧ RelV x u
 | _, _, _, _, .nil, e => by simp at e
 | _, _, 0, _, .cons r _, e => by simp at e; subst e; exact ⟨_, rfl, r⟩
 | _, _, i + 1, x, .cons _ t, e => by
  obtain ⟨u, h1, h2⟩ := Vals.get (i := i) (x := x) t (by simpa using e)
  exact ⟨u, by simpa using h1, h2⟩
theorem Vals.append : ∀ {xs ys : List V} {us ws : List Value}, Vals xs us → Vals ys ws → Vals (xs ++ ys) (us ++ ws)
 | _, _, _, _, .nil, s => s
 | _, _, _, _, .cons r t, s => .cons r (Vals.append t s)
theorem Vals.take : ∀ {xs : List V} {us : List Value} (n : Nat), Vals xs us → Vals (xs.take n) (us.take n)
 | _, _, 0, _ => .nil
 | _, _, _ + 1, .nil => .nil
 | _, _, n + 1, .cons r t => .cons r (Vals.take n t)
theorem Vals.drop : ∀ {xs : List V} {us : List Value} (n : Nat), Vals xs us → Vals (xs.drop n) (us.drop n)
 | _, _, 0, r => r
 | _, _, _ + 1, .nil => .nil
 | _, _, n + 1, .cons _ t => Vals.drop n t
noncomputable def RelO : Option V → Option Value → Prop
 | some v, some u => RelV v u
 | none, none => True
 | _, _ => False
noncomputable def KV {κ : Type} : List (κ × V) → List (κ × Value) → Prop := Paired fun (p : κ × V) (q : κ × Value) => p.1 = q.1 ∧ RelV p.2 q.2
noncomputable def kV : Key → V
 | .inl i => .int i
 | .inr x => .str x
inductive HO where
 | lst (xs : List V)
 | tup (xs : List V)
 | dK (kvs : List (Key × V)) | dT (kvs : List (List Key × V))
 | set (S : Int → Bool) (n : Nat)
 | ins (C dx : Addr) (fs : List (Str × V))
 | own (x : Addr)
 | xd (fs : List (Str × V))
 | met (f x : Addr)
 | rng (lo hi : Int)
 | frz (o : Obj) (u : HO)
 | tbl (ps : Array Value)
 | ext (φ : Heap → Prop)
noncomputable abbrev Hp := Addr → Option HO
noncomputable def upd (H : Hp) (a : Addr) (o : HO) : Hp := fun b => if b = a then some o else H b
theorem zd1 {H : Hp} {a : Addr} {o : HO} : upd H a o a = some o := by unfold upd; rw [if_pos rfl]
theorem zd9 {H : Hp} {a b : Addr} {o : HO} (h : b ≠ a) : upd H a o b = H b := by unfold upd; rw [if_neg h]
theorem ne_of {H : Hp} {a b : Addr} {o u : HO} (h : H a = some o) (h' : H b = some u) (d : o ≠ u) : a ≠ b := by
 intro e; subst e; rw [h] at h'; exact d (Option.some.inj h')
theorem zh9 {H : Hp} {a b : Addr} {o : HO} (h : H a = some o) (h' : H b = none) : a ≠ b := by
 intro e; subst e; rw [h] at h'; cases h'
section
variable (P : Program) (w : World)
noncomputable def ObjOk (H : Hp) (h : Heap) (a : Addr) : HO → Prop
 | .lst xs => xs.length ≤ sizeLine ∧ ∃ (its : List Value) (n : Nat), Vals xs its ∧ h.get? a = some { cls := .type "list", data := .seq its.toArray n }
 | .tup xs => xs.length ≤ sizeLine ∧ ∃ its : List Value, Vals xs its ∧ IsTup h a its.toArray
 | .dK kvs => kvs.length ≤ sizeLine ∧ (a == sysModules) = false ∧ ∃ vs, KV kvs vs ∧ h.DictOf (zo4 P w) a vs
 | .dT kvs => kvs.length ≤ sizeLine ∧ (a == sysModules) = false ∧ ∃ xs : List (List Key × Addr × Value),
  Paired (fun (p : List Key × V) (q : List Key × Addr × Value) => p.1 = q.1 ∧ H q.2.1 = some (.tup (p.1.map kV)) ∧ RelV p.2 q.2.2) kvs xs ∧
  ∃ o es ep, h.get? a = some o ∧ o.ExactDict ∧ o.data = .dict es ep ∧ es.toList = xs.map (entryOfKey (tupleKind (zo4 P w))) ∧ (xs.map (·.1)).Nodup
 | .set S n => h.SetOf (intKind P w) a S n
 | .ins C dx fs => H dx = some (.own a) ∧ fs.length ≤ 1000 ∧ dx ≠ a ∧ h.get? a = some (PySem.W.instObj C dx) ∧
  ∃ mA, h.Ns1 dx mA ∧ (∀ f, RelO (fs.lookup f) (mA f)) ∧ PySem.Within mA (fs.map (·.1))
 | .own _ => ∃ o, h.get? a = some o
 | .xd fs => ∃ mA, h.Ns1 a mA ∧ ∀ f, RelO (fs.lookup f) (mA f)
 | .rng lo hi => ∃ t u v, h.get? a = some { cls := .type "range", data := .fields #[.int lo t, .int hi u, .int 1 v] }
 | .frz o u => h.get? a = some o ∧ ObjOk H h a u
 | .tbl ps => h.get? a = some { cls := .none, data := .fields ps }
 | .met f x => h.get? a = some (PySem.W.methodObj (.ref f) (.ref x))
 | .ext φ => φ h ∧ (∃ o, h.get? a = some o) ∧ ∀ h1 h2 : Heap, φ h1 → (∀ o, h1.get? a = some o → h2.get? a = some o) → φ h2
noncomputable def HOk (H : Hp) (h : Heap) : Prop := ∀ a o, H a = some o → ObjOk P w H h a o
end
section
variable {P : Program} {w : World} {H H' : Hp} {h h' : Heap} {a : Addr} {o : HO}
theorem ObjOk.lt (x : ObjOk P w H h a o) : a < h.objs.size := by
 cases o with
 | lst xs => obtain ⟨_, _, _, _, e⟩ := x; exact Heap.lt_size e
 | tup xs => obtain ⟨_, _, _, p⟩ := x; exact p.lt
 | dK kvs => obtain ⟨_, _, _, _, o, _, _, e, _⟩ := x; exact Heap.lt_size e
 | dT kvs => obtain ⟨_, _, _, _, o, _, _, e, _⟩ := x; exact Heap.lt_size e
 | set S n => obtain ⟨o, _, _, _, e, _⟩ := x; exact Heap.lt_size e
 | ins C dx fs => obtain ⟨_, _, _, e, _⟩ := x; exact Heap.lt_size e
 | own y => obtain ⟨_, e⟩ := x; exact Heap.lt_size e
 | xd fs => obtain ⟨_, ⟨_, _, _, e, _⟩, _⟩ := x; exact Heap.lt_size e
 | rng lo hi => obtain ⟨_, _, _, e⟩ := x; exact Heap.lt_size e
 | frz ob u => obtain ⟨e, _⟩ := x; exact Heap.lt_size e
 | tbl ps => exact Heap.lt_size (show h.get? a = some _ from x)
 | met f y => exact Heap.lt_size (show h.get? a = some _ from x)
 | ext φ => obtain ⟨_, ⟨_, e⟩, _⟩ := x; exact Heap.lt_size e
theorem Paired.mapP {α β : Type} {F G : α → β → Prop} : ∀ {l₁ : List α} {l₂ : List β}, Paired F l₁ l₂ → (∀ a b, F a b → G a b) → Paired G l₁ l₂
 | _, _, .nil, _ => .nil
 | _, _, .cons r t, f => .cons (f _ _ r) (Paired.mapP t f)
theorem ObjOk.stay (x : ObjOk P w H h a o) (k : ∀ b u, (b = a ∨ H b = some (.own a)) → h.get? b = some u → h'.get? b = some u)
 (ho : ∀ b, H b = some (.own a) → H' b = some (.own a)) (ht : ∀ b xs, H b = some (.tup xs) → H' b = some (.tup xs)) : ObjOk P w H' h' a o := by
 induction o with
 | lst xs => obtain ⟨z, its, n, r, e⟩ := x; exact ⟨z, its, n, r, k _ _ (.inl rfl) e⟩
 | tup xs => obtain ⟨z, its, r, ob, e, c⟩ := x; exact ⟨z, its, r, ob, k _ _ (.inl rfl) e, c⟩
 | dK kvs => obtain ⟨z, y, vs, r, ob, es, ep, e, c⟩ := x; exact ⟨z, y, vs, r, ob, es, ep, k _ _ (.inl rfl) e, c⟩
 | dT kvs =>
  obtain ⟨z, y, xs, r, ob, es, ep, e, c⟩ := x
  exact ⟨z, y, xs, Paired.mapP r fun p q z => ⟨z.1, ht _ _ z.2.1, z.2.2⟩, ob, es, ep, k _ _ (.inl rfl) e, c⟩
 | set S n => obtain ⟨ob, es, ep, t, e, c⟩ := x; exact ⟨ob, es, ep, t, k _ _ (.inl rfl) e, c⟩
 | ins C dx fs =>
  obtain ⟨d, z, ne, e, mA, ⟨od, es, ep, e2, c⟩, r⟩ := x
  exact ⟨ho _ d, z, ne, k _ _ (.inl rfl) e, mA, ⟨od, es, ep, k _ _ (.inr d) e2, c⟩, r⟩
 | own y => obtain ⟨ob, e⟩ := x; exact ⟨ob, k _ _ (.inl rfl) e⟩
 | xd fs => obtain ⟨mA, ⟨od, es, ep, e, c⟩, r⟩ := x; exact ⟨mA, ⟨od, es, ep, k _ _ (.inl rfl) e, c⟩, r⟩
 | rng lo hi => obtain ⟨t, u, v, e⟩ := x; exact ⟨t, u, v, k _ _ (.inl rfl) e⟩
 | frz ob u ih => obtain ⟨e, q⟩ := x; exact ⟨k _ _ (.inl rfl) e, ih q⟩
 | tbl ps =>
  have e : h.get? a = some { cls := .none, data := .fields ps } := x
  show h'.get? a = some { cls := .none, data := .fields ps }
  exact k a _ (.inl rfl) e
 | met f y =>
  have e : h.get? a = some (PySem.W.methodObj (.ref f) (.ref y)) := x
  show h'.get? a = some (PySem.W.methodObj (.ref f) (.ref y))
  exact k a _ (.inl rfl) e
 | ext φ => obtain ⟨p, ⟨o, e⟩, st⟩ := x; exact ⟨st _ _ p fun o q => k _ _ (.inl rfl) q, ⟨o, k _ _ (.inl rfl) e⟩, st⟩
theorem HOk.lt (x : HOk P w H h) (e : H a = some o) : a < h.objs.size := (x a o e).lt
theorem HOk.fresh (x : HOk P w H h) (e : h.objs.size ≤ a) : H a = none := by
 cases q : H a with
 | none => rfl
 | some u => exact absurd (Nat.lt_of_lt_of_le (x.lt q) e) (Nat.lt_irrefl _)
theorem HOk.kept (x : HOk P w H h) (k : ∀ b u, h.get? b = some u → h'.get? b = some u) : HOk P w H h' := fun a o e =>
 (x a o e).stay (fun b u _ q => k b u q) (fun _ q => q) fun _ _ q => q
theorem HOk.laid (x : HOk P w H h) (k : ∀ b u, h.get? b = some u → h'.get? b = some u) (hp : h.objs.size ≤ a) (new : ObjOk P w (upd H a o) h' a o) : HOk P w (upd H a o) h' := fun b u e => by
 have hn := x.fresh hp
 by_cases hb : b = a
 · subst hb; rw [zd1] at e; cases e; exact new
 · rw [zd9 hb] at e
   exact (x b u e).stay (fun c v _ q => k c v q) (fun c q => by rw [zd9 (zh9 q hn)]; exact q) fun c xs q => by rw [zd9 (zh9 q hn)]; exact q
end
noncomputable def Rd (H : Hp) (a : Addr) (u : HO) : Prop := H a = some u ∨ ∃ o, H a = some (.frz o u)
theorem Rd.ok {P : Program} {w : World} {H : Hp} {h : Heap} {a : Addr} {u : HO} (r : Rd H a u) (x : HOk P w H h) : ObjOk P w H h a u := by
 rcases r with r | ⟨o, r⟩
 · exact x a u r
 · obtain ⟨_, q⟩ := x a _ r
   exact q
noncomputable def Mut : Option HO → Prop
 | some (.lst _) => True
 | some (.dK _) => True
 | some (.dT _) => True
 | some (.set _ _) => True
 | some (.ins _ _ _) => True
 | some (.ext _) => True
 | _ => False
section
variable {P : Program} {w : World} {H : Hp} {h h' : Heap} {x e : Addr} {o' : HO}
theorem HOk.write (ok : HOk P w H h) (mu : Mut (H x)) (he : e = x ∨ H e = some (.own x)) (k : ∀ b u, b ≠ e → h.get? b = some u → h'.get? b = some u) (heo : ∃ u, h'.get? e = some u)
 (new : ObjOk P w (upd H x o') h' x o') : HOk P w (upd H x o') h' := fun b u q => by
 have nown : ∀ c y, H c = some (.own y) → c ≠ x := fun c y r z => by subst z; rw [r] at mu; exact mu
 have ntup : ∀ c xs, H c = some (.tup xs) → c ≠ x := fun c xs r z => by subst z; rw [r] at mu; exact mu
 by_cases hb : b = x
 · subst hb; rw [zd1] at q; cases q; exact new
 · rw [zd9 hb] at q
   by_cases hbe : b = e
   · have q' : H b = some (.own x) := by
      rcases he with z | z
      · exact absurd (hbe.trans z) hb
      · rw [hbe]; exact z
     rw [q] at q'; cases q'
     obtain ⟨v, hv⟩ := heo
     exact ⟨v, by rw [hbe]; exact hv⟩
   · refine (ok b u q).stay (fun c v hc r => k c v ?_ r) (fun c r => by rw [zd9 (nown c b r)]; exact r) fun c xs r => by rw [zd9 (ntup c xs r)]; exact r
     rcases hc with rfl | hc
     · exact hbe
     · rintro rfl
       rcases he with z | z
       · exact nown c b hc z
       · rw [hc] at z; cases z; exact hb rfl
end
structure Un (fs ex : List Addr) (H H' : Hp) (h h' : Heap) : Prop where
 keep : ∀ b o, h.get? b = some o → H b = none → b ∉ fs → b ∉ ex → h'.get? b = some o
 slot : ∀ b o, h.get? b = some o → H b = none → b ∈ fs → b ∉ ex → ∃ sl, h'.get? b = some { o with slots := sl }
 free : ∀ b o, h.get? b = some o → H b = none → b ∉ ex → H' b = none
 there : ∀ b o, h.get? b = some o → b ∉ ex → ∃ o', h'.get? b = some o'
 tups : ∀ b xs, H b = some (.tup xs) → H' b = some (.tup xs)
 frzs : ∀ b o u, H b = some (.frz o u) → H' b = some (.frz o u)
 tbls : ∀ b ps, H b = some (.tbl ps) → ∃ more, H' b = some (.tbl (ps ++ more))
section
variable {fs fs' ex ex' : List Addr} {H H1 H2 : Hp} {h h1 h2 h' : Heap} {a x e : Addr} {o : HO}
theorem Un.any (u : Un fs ex H H1 h h1) {b : Addr} {ob : Obj} (q : h.get? b = some ob) (n : H b = none) (hx : b ∉ ex) : ∃ sl, h1.get? b = some { ob with slots := sl } := by
 by_cases hb : b ∈ fs
 · exact u.slot b ob q n hb hx
 · exact ⟨ob.slots, u.keep b ob q n hb hx⟩
theorem Un.kept (k : ∀ b u, h.get? b = some u → h'.get? b = some u) : Un fs ex H H h h' :=
 ⟨fun b ob q _ _ _ => k b ob q, fun b ob q _ _ _ => ⟨ob.slots, k b ob q⟩, fun _ _ _ n _ => n, fun b ob q _ => ⟨ob, k b ob q⟩, fun _ _ q => q, fun _ _ _ q => q, fun _ ps q => ⟨#[], by rw [q]; simp⟩⟩
theorem Un.refl : Un fs ex H H h h := Un.kept fun _ _ q => q
theorem Un.laid (k : ∀ b u, h.get? b = some u → h'.get? b = some u) (hp : h.objs.size ≤ a) (hn : H a = none) : Un fs ex H (upd H a o) h h' where
 keep := fun b u q _ _ _ => k b u q
 slot := fun b u q _ _ _ => ⟨u.slots, k b u q⟩
 free := fun b u q n _ => by rw [zd9 (Nat.ne_of_lt (Nat.lt_of_lt_of_le (Heap.lt_size q) hp))]; exact n
 there := fun b u q _ => ⟨u, k b u q⟩
 tups := fun b xs q => by rw [zd9 (zh9 q hn)]; exact q
 frzs := fun b u xs q => by rw [zd9 (zh9 q hn)]; exact q
 tbls := fun b ps q => ⟨#[], by rw [zd9 (zh9 q hn), q]; simp⟩
theorem Un.write (mu : Mut (H x)) (he : e = x ∨ H e = some (.own x)) (k : ∀ b u, b ≠ e → h.get? b = some u → h'.get? b = some u) (heo : ∃ u, h'.get? e = some u) : Un fs ex H (upd H x o) h h' := by
 have hx : ∀ b, H b = none → b ≠ x := fun b n z => by subst z; rw [n] at mu; exact mu
 have hb : ∀ b, H b = none → b ≠ e := fun b n z => by
  subst z
  rcases he with r | r
  · exact hx b n r
  · rw [n] at r; cases r
 have hm : ∀ b u, H b = some u → ¬ Mut (some u) → b ≠ x := fun b u q nm z => by subst z; rw [q] at mu; exact nm mu
 refine ⟨fun b u q n _ _ => k b u (hb b n) q, fun b u q n _ _ => ⟨u.slots, k b u (hb b n) q⟩, fun b u q n _ => by rw [zd9 (hx b n)]; exact n, fun b u q _ => ?_,
  fun b xs q => by rw [zd9 (hm b _ q fun z => z)]; exact q, fun b u xs q => by rw [zd9 (hm b _ q fun z => z)]; exact q, fun b ps q => ⟨#[], by rw [zd9 (hm b _ q fun z => z), q]; simp⟩⟩
 by_cases hbe : b = e
 · subst hbe; exact heo
 · exact ⟨u, k b u hbe q⟩
end
noncomputable def trk (h : Heap) (H : Hp) : List Addr := (List.range h.objs.size).filter fun a => (H a).isSome
noncomputable def hidT (h : Heap) (H : Hp) : Heap := PySem.W.hideAll h (trk h H)
theorem hidT_size (h : Heap) (H : Hp) : (hidT h H).objs.size = h.objs.size := PySem.W.hideAll_size _ _
theorem hidT_get {h : Heap} {H : Hp} {b : Addr} {o : Obj} (e : h.get? b = some o) (n : H b = none) : (hidT h H).get? b = some o :=
 PySem.W.hideAll_get _ e fun hm => by
  have q : (H b).isSome = true := (List.mem_filter.mp hm).2
  rw [n] at q; simp at q
theorem of_hidT {h : Heap} {H : Hp} {b : Addr} {o : Obj} (e : (hidT h H).get? b = some o) : h.get? b = some o ∧ H b = none := by
 have e' : h.get? b = some o := PySem.W.of_hideAll (trk h H) e
 refine ⟨e', ?_⟩
 cases q : H b with
 | none => rfl
 | some x =>
  have hm : b ∈ trk h H := List.mem_filter.mpr ⟨List.mem_range.mpr (Heap.lt_size e'), by simp [q]⟩
  have z : (hidT h H).get? b = none := PySem.W.hideAll_none (trk h H) hm
  rw [z] at e; cases e
noncomputable def allNews (g h : Heap) (L : Addr) : List (Addr × Obj) := (List.range h.objs.size).filterMap fun a => if a = L ∨ (g.get? a).isSome = true then none else (h.get? a).map fun o => (a, o)
noncomputable def rest (g h : Heap) (L d : Addr) : List (Addr × Obj) := (allNews g h L).filter fun p => decide (p.1 ≠ d)
end L2
namespace L2
open PySem PySem.Spec PyProof.Rows
structure Mod (K : PySem.W.Frag) (mg : Str → Option Value) (base : Heap) : Prop where
 kin : K.In base
 glob : base.Ns mainGlobals mg
 blt : ∃ mb, base.Ns builtinsNs mb ∧ ∀ x : Str, x ≠ "__name__" → mb x = bootBuiltins x
 nolimit : base.NoLimit
structure Cx where
 prog : Program
 w : World
 K : PySem.W.Frag
 mg : Str → Option Value
 base : Heap
 A : Around
 N : List Str
 s₀ : Shared
 H₀ : Hp
 env : Env
 outer : List Env
 stack : List Env
 ex : List Addr
 fn : Str → Bool
 calm : Bool
 pn : List (Addr × Obj)
 xe : Value → Shared → Prop
noncomputable def frs (l : List Env) : List Addr := l.filterMap (·.frame)
noncomputable abbrev Cx.fs (X : Cx) : List Addr := frs X.outer
noncomputable def Vis (sc : Scope) (x : Str) : Prop := sc.names.lookup x = some .local ∨ sc.names.lookup x = some .cell ∨ sc.names.lookup x = some .free
noncomputable def Loc (sc : Scope) (x : Str) : Prop := sc.names.lookup x = some .local ∨ sc.names.lookup x = some .cell
noncomputable def Look (env : Env) (h : Heap) (m : Str → Option Value) (x : Str) (u : Value) : Prop :=
 (env.kindOf x = some .local ∧ m x = some u) ∨ ((env.kindOf x = some .cell ∨ env.kindOf x = some .free) ∧ ∃ c, env.cells.lookup x = some c ∧ h.IsCell c (some u))
structure Cx.Ok (X : Cx) : Prop where
 mod : Mod X.K X.mg X.base
 kind : X.env.scope.kind = .function
 glob : X.env.globals = mainGlobals
 blt : X.env.builtins = builtinsNs
 above : X.s₀.heap.objs.size ≤ X.env.locals
 inj : ∀ x y c, X.env.cells.lookup x = some c → X.env.cells.lookup y = some c → x = y
 has : ∀ x, (X.env.kindOf x = some .cell ∨ X.env.kindOf x = some .free) → ∃ c, X.env.cells.lookup x = some c
 cab : ∀ x c, X.fn x = true → X.env.cells.lookup x = some c → X.s₀.heap.objs.size ≤ c
 hd : X.calm = true → X.A.handled = none
 frames : X.A.frames = some X.stack
 stk : X.stack = X.outer ∨ (X.stack = X.env :: X.outer ∧ X.env.frame = some X.env.locals)
 exf : ∀ b ∈ X.ex, b ≠ X.env.locals ∧ ∀ x c, X.env.cells.lookup x = some c → c ≠ b
 bs : ∀ b o, X.base.get? b = some o → X.s₀.heap.get? b = some o ∧ X.H₀ b = none
 bsz : X.base.objs.size ≤ X.s₀.heap.objs.size
 noex : ∀ b o, X.base.get? b = some o → b ∉ X.ex
 exfs : ∀ b ∈ X.ex, b ∉ X.fs
 funs : X.s₀.heap.FunFrames X.base X.outer
 frf : ∀ b ∈ X.fs, X.H₀ b = none
structure Inv (X : Cx) (pins : List (Addr × Obj)) (σ : List (Option V)) (H : Hp) (s : Shared) : Prop where
 ok : X.Ok
 os : s.os = X.s₀.os
 bare : AllBare s.gens
 base : Un X.fs X.ex X.H₀ H X.s₀.heap s.heap
 loc : ∃ m, s.heap.Ns X.env.locals m ∧ ∀ (i : Nat) (x : Str) (v : V), X.N[i]? = some x → σ[i]? = some (some v) → Vis X.env.scope x → ∃ u, RelV v u ∧ Look X.env s.heap m x u
 cell : ∀ x c, X.env.cells.lookup x = some c → ∃ v, s.heap.IsCell c v
 free : H X.env.locals = none
 freeC : ∀ x c, X.env.cells.lookup x = some c → H c = none
 pin : ∀ p ∈ X.pn ++ pins, s.heap.get? p.1 = some p.2 ∧ H p.1 = none ∧ p.1 ≠ X.env.locals ∧ p.1 ∉ X.fs ∧ ∀ v, p.2.data ≠ .cell v
 hok : HOk X.prog X.w H s.heap
 len : σ.length = X.N.length
section
variable {X : Cx} {pins : List (Addr × Obj)} {σ : List (Option V)} {H H' : Hp} {s : Shared} {h' : Heap}
theorem Cx.Ok.nofr (ok : X.Ok) {b : Addr} {o : Obj} (e : X.base.get? b = some o) : b ∉ X.fs := fun hb => by
 have := (ok.funs.mem hb).1
 rw [e] at this; cases this
theorem Inv.bs (I : Inv X pins σ H s) : ∀ b o, X.base.get? b = some o → s.heap.get? b = some o ∧ H b = none := fun b o e =>
 ⟨I.base.keep b o (I.ok.bs b o e).1 (I.ok.bs b o e).2 (I.ok.nofr e) (I.ok.noex b o e), I.base.free b o (I.ok.bs b o e).1 (I.ok.bs b o e).2 (I.ok.noex b o e)⟩
theorem Inv.bk (I : Inv X pins σ H s) : ∀ b o, X.base.get? b = some o → s.heap.get? b = some o := fun b o e => (I.bs b o e).1
theorem Inv.mod (I : Inv X pins σ H s) : Mod X.K X.mg X.base := I.ok.mod
theorem Inv.kIn (I : Inv X pins σ H s) : X.K.In s.heap := I.ok.mod.kin.keeps I.bk
theorem Inv.fr (I : Inv X pins σ H s) : ∃ m, Fr X.base X.env.locals s.heap m :=
 let ⟨m, hn, _⟩ := I.loc
 ⟨m, hn, I.bk, Nat.le_trans I.ok.bsz I.ok.above⟩
theorem Inv.lt (I : Inv X pins σ H s) : X.env.locals < s.heap.objs.size := let ⟨_, hn, _⟩ := I.loc; hn.lt
theorem Inv.sz (I : Inv X pins σ H s) : X.s₀.heap.objs.size ≤ s.heap.objs.size := Nat.le_trans I.ok.above (Nat.le_of_lt I.lt)
theorem Inv.nofs (I : Inv X pins σ H s) {a : Addr} (h : s.heap.objs.size ≤ a) : a ∉ X.fs := fun hb => by
 obtain ⟨_, o, ho, _⟩ := I.ok.funs.mem hb
 exact absurd (Nat.lt_of_lt_of_le (Heap.lt_size ho) (Nat.le_trans I.sz h)) (Nat.lt_irrefl _)
theorem Inv.cne (I : Inv X pins σ H s) : ∀ x c, X.env.cells.lookup x = some c → c ≠ X.env.locals := fun x c e z => by
 obtain ⟨v, o, ho, hd⟩ := I.cell x c e
 obtain ⟨m, ⟨o', es, ep, ho', hd', _⟩, _⟩ := I.loc
 rw [z, ho'] at ho; cases ho; rw [hd'] at hd; cases hd
theorem Inv.funs (I : Inv X pins σ H s) : s.heap.FunFrames X.base X.outer := by
 have all : ∀ (l : List Env), (∀ b ∈ frs l, b ∈ X.fs) → X.s₀.heap.FunFrames X.base l → s.heap.FunFrames X.base l := by
  intro l
  induction l with
  | nil => intro _ _; trivial
  | cons env r ih =>
   intro hs hl
   obtain ⟨hk, ⟨L, o, hf, hn, ho, hd⟩, hr⟩ := hl
   have hL : L ∈ X.fs := hs L (by unfold frs; rw [List.filterMap_cons, hf]; exact List.mem_cons_self)
   obtain ⟨sl, e⟩ := I.base.slot L o ho (I.ok.frf L hL) hL fun z => I.ok.exfs L z hL
   exact ⟨hk, ⟨L, _, hf, hn, e, hd⟩, ih (fun b hb => hs b (by unfold frs; rw [List.filterMap_cons, hf]; exact List.mem_cons_of_mem _ hb)) hr⟩
 exact all X.outer (fun _ hb => hb) I.ok.funs
theorem Inv.stack (I : Inv X pins σ H s) : s.heap.FunFrames X.base X.stack := by
 rcases I.ok.stk with e | ⟨e, hf⟩
 · rw [e]; exact I.funs
 · rw [e]
   obtain ⟨m, hn, _⟩ := I.loc
   refine .cons (by rw [I.ok.kind]; decide) hf hn ?_ I.funs
   exact Heap.get?_none_of_le (Nat.le_trans I.ok.bsz I.ok.above)
theorem Inv.stkSub (I : Inv X pins σ H s) : ∀ b ∈ frs X.stack, b ∈ X.env.locals :: X.fs := fun b hb => by
 rcases I.ok.stk with e | ⟨e, hf⟩
 · rw [e] at hb; exact List.mem_cons_of_mem _ hb
 · rw [e] at hb
   unfold frs at hb
   rw [List.filterMap_cons, hf] at hb
   exact hb
theorem Inv.stkFree (I : Inv X pins σ H s) : ∀ b ∈ frs X.stack, H b = none := fun b hb => by
 rcases List.mem_cons.mp (I.stkSub b hb) with e | hb
 · rw [e]; exact I.free
 · obtain ⟨_, o, ho, _⟩ := I.ok.funs.mem hb
   exact I.base.free b o ho (I.ok.frf b hb) fun z => I.ok.exfs b z hb
theorem Inv.step {g' : Array GenState} {t' : Nat} {d' : Drawn} {ch : List Addr} (I : Inv X pins σ H s)
 (hch : ∀ b ∈ ch, (b ∈ X.ex ∨ X.s₀.heap.objs.size ≤ b) ∧ b ≠ X.env.locals ∧ (∀ x c, X.env.cells.lookup x = some c → c ≠ b) ∧ ∀ p ∈ X.pn ++ pins, p.1 ≠ b)
 (keep : ∀ b o, b ≠ X.env.locals → b ∉ X.fs → b ∉ ch → s.heap.get? b = some o → H b = none → h'.get? b = some o)
 (slot : ∀ b o, b ≠ X.env.locals → b ∈ X.fs → b ∉ ch → s.heap.get? b = some o → H b = none → ∃ sl, h'.get? b = some { o with slots := sl }) (free : ∀ b o, b ∉ ch → s.heap.get? b = some o → H b = none → H' b = none)
 (there : ∀ b o, b ∉ ch → s.heap.get? b = some o → ∃ o', h'.get? b = some o')
 (tups : ∀ b xs, H b = some (.tup xs) → H' b = some (.tup xs)) (frzs : ∀ b o u, H b = some (.frz o u) → H' b = some (.frz o u)) (tbls : ∀ b ps, H b = some (.tbl ps) → ∃ more, H' b = some (.tbl (ps ++ more)))
 (ns : ∀ m, s.heap.Ns X.env.locals m → h'.Ns X.env.locals m) (hok : HOk X.prog X.w H' h') (hg : AllBare g') :
 Inv X pins σ H' { s with heap := h', gens := g', drawn := d', toks := t' } := by
 have neL : ∀ b o, X.s₀.heap.get? b = some o → b ≠ X.env.locals := fun b o e => Nat.ne_of_lt (Nat.lt_of_lt_of_le (Heap.lt_size e) I.ok.above)
 have neC : ∀ b o, X.s₀.heap.get? b = some o → b ∉ X.ex → b ∉ ch := fun b o e hx hb => by
  rcases (hch b hb).1 with z | z
  · exact hx z
  · exact absurd (Nat.lt_of_lt_of_le (Heap.lt_size e) z) (Nat.lt_irrefl _)
 have cellK : ∀ x c, X.env.cells.lookup x = some c → ∀ v, s.heap.IsCell c v → h'.IsCell c v := fun x c e v ⟨o, ho, hd⟩ => by
  have nch : c ∉ ch := fun z => (hch c z).2.2.1 x c e rfl
  by_cases hc : c ∈ X.fs
  · obtain ⟨sl, q⟩ := slot c o (I.cne x c e) hc nch ho (I.freeC x c e)
    exact ⟨_, q, hd⟩
  · exact ⟨o, keep c o (I.cne x c e) hc nch ho (I.freeC x c e), hd⟩
 refine ⟨I.ok, I.os, hg, ⟨fun b o e n hb hx => ?_, fun b o e n hb hx => ?_, fun b o e n hx => ?_, fun b o e hx => ?_, fun b xs e => tups b xs (I.base.tups b xs e), fun b o xs e => frzs b o xs (I.base.frzs b o xs e), fun b ps e => ?_⟩, ?_, fun x c e => ?_, ?_, fun x c e => ?_, fun p hp => ?_, hok, I.len⟩
 · exact keep b o (neL b o e) hb (neC b o e hx) (I.base.keep b o e n hb hx) (I.base.free b o e n hx)
 · obtain ⟨sl, e1⟩ := I.base.slot b o e n hb hx
   obtain ⟨sl', e2⟩ := slot b _ (neL b o e) hb (neC b o e hx) e1 (I.base.free b o e n hx)
   exact ⟨sl', e2⟩
 · obtain ⟨o', e1⟩ := I.base.there b o e hx
   exact free b o' (neC b o e hx) e1 (I.base.free b o e n hx)
 · obtain ⟨o', e1⟩ := I.base.there b o e hx
   exact there b o' (neC b o e hx) e1
 · obtain ⟨m1, e1⟩ := I.base.tbls b ps e
   obtain ⟨m2, e2⟩ := tbls b _ e1
   exact ⟨m1 ++ m2, by rw [e2, Array.append_assoc]⟩
 · obtain ⟨m, hn, hl⟩ := I.loc
   refine ⟨m, ns m hn, fun i x v e1 e2 e3 => ?_⟩
   obtain ⟨u, r, l⟩ := hl i x v e1 e2 e3
   refine ⟨u, r, ?_⟩
   rcases l with l | ⟨k, c, e, z⟩
   · exact .inl l
   · exact .inr ⟨k, c, e, cellK x c e _ z⟩
 · obtain ⟨v, z⟩ := I.cell x c e
   exact ⟨v, cellK x c e v z⟩
 · obtain ⟨m, ⟨o, _, _, ho, _⟩, _⟩ := I.loc
   exact free _ o (fun z => (hch _ z).2.1 rfl) ho I.free
 · obtain ⟨v, o, ho, hd⟩ := I.cell x c e
   exact free c o (fun z => (hch c z).2.2.1 x c e rfl) ho (I.freeC x c e)
 · obtain ⟨e, n, ne, nf, d⟩ := I.pin p hp
   have nch : p.1 ∉ ch := fun z => (hch p.1 z).2.2.2 p hp rfl
   exact ⟨keep p.1 p.2 ne nf nch e n, free p.1 p.2 nch e n, ne, nf, d⟩
theorem Inv.un {t' : Nat} (I : Inv X pins σ H s) (u : Un X.fs [] H H' s.heap h') (hok : HOk X.prog X.w H' h') : Inv X pins σ H' { s with heap := h', toks := t' } := by
 obtain ⟨m, ⟨o, es, ep, ho, r⟩, _⟩ := id I.loc
 obtain ⟨sl, hL⟩ := u.any ho I.free (by simp)
 exact I.step (g' := s.gens) (d' := s.drawn) (ch := []) (fun _ z => nomatch z) (fun b o _ hb _ e n => u.keep b o e n hb (by simp)) (fun b o _ hb _ e n => u.slot b o e n hb (by simp)) (fun b o _ e n => u.free b o e n (by simp)) (fun b o _ e => u.there b o e (by simp)) u.tups u.frzs u.tbls (fun m' hm => by
  obtain ⟨o', es', ep', ho', r'⟩ := hm
  rw [ho] at ho'; cases ho'
  exact ⟨_, es', ep', hL, r'⟩) hok I.bare
theorem Inv.call {g' : Array GenState} {t' : Nat} {d' : Drawn} {ch : List Addr} (I : Inv X pins σ H s) (u : Un (frs X.stack) ch H H' s.heap h') (hok : HOk X.prog X.w H' h') (hg : AllBare g')
 (hch : ∀ b ∈ ch, (b ∈ X.ex ∨ X.s₀.heap.objs.size ≤ b) ∧ b ≠ X.env.locals ∧ (∀ x c, X.env.cells.lookup x = some c → c ≠ b) ∧ ∀ p ∈ X.pn ++ pins, p.1 ≠ b) :
 Inv X pins σ H' { s with heap := h', gens := g', drawn := d', toks := t' } := by
 obtain ⟨m, ⟨o, es, ep, ho, r⟩, _⟩ := id I.loc
 obtain ⟨sl, hL⟩ := u.any ho I.free fun z => (hch _ z).2.1 rfl
 exact I.step (ch := ch) hch (fun b o hL hb hc e n => u.keep b o e n (fun z => (List.mem_cons.mp (I.stkSub b z)).elim hL hb) hc) (fun b o _ _ hc e n => u.any e n hc) (fun b o hc e n => u.free b o e n hc) (fun b o hc e => u.there b o e hc) u.tups u.frzs u.tbls (fun m' hm => by
  obtain ⟨o', es', ep', ho', r'⟩ := hm
  rw [ho] at ho'; cases ho'
  exact ⟨_, es', ep', hL, r'⟩) hok hg
theorem Inv.turned {t' : Nat} {it : Addr} (I : Inv X pins σ H s) (k : ∀ b o, b ≠ it → s.heap.get? b = some o → h'.get? b = some o) (hn : H it = none) (hL : it ≠ X.env.locals)
 (h1 : it ∈ X.ex ∨ X.s₀.heap.objs.size ≤ it) (h2 : ∀ x c, X.env.cells.lookup x = some c → c ≠ it) (h3 : ∀ p ∈ X.pn ++ pins, p.1 ≠ it) : Inv X pins σ H { s with heap := h', toks := t' } := by
 have nit : ∀ b u, H b = some u → b ≠ it := fun b u e z => by rw [z, hn] at e; cases e
 refine I.step (g' := s.gens) (d' := s.drawn) (ch := [it]) (fun b hb => ?_) (fun b o _ _ hc e _ => k b o (fun z => hc (by simp [z])) e) (fun b o _ _ hc e _ => ⟨o.slots, k b o (fun z => hc (by simp [z])) e⟩) (fun _ _ _ _ n => n)
  (fun b o hc e => ⟨o, k b o (fun z => hc (by simp [z])) e⟩) (fun _ _ e => e) (fun _ _ _ e => e) (fun b ps e => ⟨#[], by rw [e]; simp⟩) (fun m hm => ?_) (fun b u e => ?_) I.bare
 · have e : b = it := by simpa using hb
   subst e
   exact ⟨h1, hL, h2, h3⟩
 · obtain ⟨o, es, ep, ho, r⟩ := hm
   exact ⟨o, es, ep, k _ o (Ne.symm hL) ho, r⟩
 · refine (I.hok b u e).stay (fun c v hc q => k c v ?_ q) (fun _ q => q) fun _ _ q => q
   rcases hc with z | z
   · rw [z]; exact nit b u e
   · exact nit c _ z
theorem Inv.tok (I : Inv X pins σ H s) (t : Nat) : Inv X pins σ H { s with toks := t } := I.un (h' := s.heap) (t' := t) Un.refl I.hok
theorem Inv.kept {t' : Nat} (I : Inv X pins σ H s) (k : ∀ b u, s.heap.get? b = some u → h'.get? b = some u) : Inv X pins σ H { s with heap := h', toks := t' } := I.un (Un.kept k) (I.hok.kept k)
theorem Inv.laid {a : Addr} {o : HO} {t' : Nat} (I : Inv X pins σ H s) (k : ∀ b u, s.heap.get? b = some u → h'.get? b = some u) (hp : s.heap.objs.size ≤ a) (new : ObjOk X.prog X.w (upd H a o) h' a o) :
 Inv X pins σ (upd H a o) { s with heap := h', toks := t' } := I.un (Un.laid k hp (I.hok.fresh hp)) (I.hok.laid k hp new)
theorem Inv.write {x e : Addr} {o : HO} {t' : Nat} (I : Inv X pins σ H s) (mu : Mut (H x)) (he : e = x ∨ H e = some (.own x)) (k : ∀ b u, b ≠ e → s.heap.get? b = some u → h'.get? b = some u) (heo : ∃ u, h'.get? e = some u)
 (new : ObjOk X.prog X.w (upd H x o) h' x o) : Inv X pins σ (upd H x o) { s with heap := h', toks := t' } := I.un (Un.write mu he k heo) (I.hok.write mu he k heo new)
theorem Inv.weak {σ' : List (Option V)} (I : Inv X pins σ H s) (hl : σ'.length = σ.length) (w : ∀ (i : Nat) v, σ'[i]? = some (some v) → σ[i]? = some (some v)) : Inv X pins σ' H s :=
 ⟨I.ok, I.os, I.bare, I.base, let ⟨m, hn, hl'⟩ := I.loc; ⟨m, hn, fun i x v e1 e2 e3 => hl' i x v e1 (w i v e2) e3⟩, I.cell, I.free, I.freeC, I.pin, I.hok, hl.trans I.len⟩
theorem Inv.pins_of {pins' : List (Addr × Obj)} (I : Inv X pins σ H s) (h : ∀ p ∈ pins', s.heap.get? p.1 = some p.2 ∧ H p.1 = none ∧ p.1 ≠ X.env.locals ∧ p.1 ∉ X.fs ∧ ∀ v, p.2.data ≠ .cell v) : Inv X pins' σ H s :=
 ⟨I.ok, I.os, I.bare, I.base, I.loc, I.cell, I.free, I.freeC, fun p hp => (List.mem_append.mp hp).elim (fun z => I.pin p (List.mem_append_left _ z)) (h p), I.hok, I.len⟩
theorem nodup_ix {N : List Str} (hN : N.Nodup) {i j : Nat} {x : Str} (a : N[i]? = some x) (b : N[j]? = some x) : i = j := by
 obtain ⟨h1, e1⟩ := List.getElem?_eq_some_iff.mp a
 obtain ⟨h2, e2⟩ := List.getElem?_eq_some_iff.mp b
 exact (List.getElem_inj hN).mp (e1.trans e2.symm)
theorem store_ok2 {M : Model} {A : Around} {E : Value → Shared → Prop} {i : Nat} {x : Str} {v : V} {u : Value} {Q : Unit → Shared → Prop} (I : Inv X pins σ H s) (hN : X.N.Nodup) (hi : X.N[i]? = some x) (hx : Loc X.env.scope x) (r : RelV v u)
 (h : ∀ s', Inv X pins (σ.set i (some v)) H s' → (∃ a, Heap.SameBut a s.heap s'.heap ∧ (a = X.env.locals ∨ X.env.cells.lookup x = some a)) → Q () s') (hf : X.fn x = true ∨ X.env.scope.names.lookup x = some .local := by first | exact .inl rfl | exact .inr rfl | assumption) : wpAny M A (storeName X.env x u) Q E s := by
 obtain ⟨m, hn, hl⟩ := id I.loc
 have hcls : (X.env.scope.kind == .class || (X.env.scope.kind == .module && X.env.locals != X.env.globals)) = false := by rw [I.ok.kind]; rfl
 have hiσ : i < σ.length := by rw [I.len]; exact (List.getElem?_eq_some_iff.mp hi).1
 have cne := I.cne
 have tracked : ∀ {a : Addr} {h' : Heap}, (∃ o, s.heap.get? a = some o ∧ H a = none) → Heap.SameBut a s.heap h' → HOk X.prog X.w H h' := fun {a h'} ha hs b ob e => by
  obtain ⟨_, _, hfree⟩ := ha
  refine (I.hok b ob e).stay (fun c w' hc q => (hs.2 c ?_).trans q) (fun _ q => q) fun _ _ q => q
  rintro rfl
  rcases hc with rfl | hc
  · rw [hfree] at e; cases e
  · rw [hfree] at hc; cases hc
 rcases hx with hk | hk
 · refine wpAny_storeName_local hk hn (fun h' hn' hs => ?_) hcls
   obtain ⟨oL, _, _, hoL, _⟩ := id hn
   refine h _ ⟨I.ok, I.os, I.bare, ⟨fun b o e n hb hx => ?_, fun b o e n hb hx => ?_, I.base.free, fun b o e hx => ?_, I.base.tups, I.base.frzs, I.base.tbls⟩, ⟨_, hn', fun j y v' e1 e2 e3 => ?_⟩, fun y c e => ?_, I.free, I.freeC, fun p hp => ?_, tracked ⟨oL, hoL, I.free⟩ hs, by simpa using I.len⟩ ⟨_, hs, .inl rfl⟩
   · exact (hs.2 b (Nat.ne_of_lt (Nat.lt_of_lt_of_le (Heap.lt_size e) I.ok.above))).trans (I.base.keep b o e n hb hx)
   · obtain ⟨sl, e1⟩ := I.base.slot b o e n hb hx
     exact ⟨sl, (hs.2 b (Nat.ne_of_lt (Nat.lt_of_lt_of_le (Heap.lt_size e) I.ok.above))).trans e1⟩
   · obtain ⟨o', e1⟩ := I.base.there b o e hx
     exact ⟨o', (hs.2 b (Nat.ne_of_lt (Nat.lt_of_lt_of_le (Heap.lt_size e) I.ok.above))).trans e1⟩
   · by_cases hj : j = i
     · subst hj
       rw [hi] at e1; cases e1
       rw [List.getElem?_set_self hiσ] at e2
       cases e2
       exact ⟨u, r, .inl ⟨hk, by simp⟩⟩
     · rw [List.getElem?_set_ne (Ne.symm hj)] at e2
       obtain ⟨u', r', q⟩ := hl j y v' e1 e2 e3
       refine ⟨u', r', ?_⟩
       rcases q with ⟨k, e⟩ | ⟨k, c, e, z⟩
       · refine .inl ⟨k, ?_⟩
         have : y ≠ x := fun e => hj (nodup_ix hN e1 (e ▸ hi))
         simp [this, e]
       · exact .inr ⟨k, c, e, z.sameBut hs (cne y c e)⟩
   · obtain ⟨w', z⟩ := I.cell y c e
     exact ⟨w', z.sameBut hs (cne y c e)⟩
   · obtain ⟨e, n, ne, nf, d⟩ := I.pin p hp
     exact ⟨(hs.2 p.1 ne).trans e, n, ne, nf, d⟩
 · have hfn : X.fn x = true := by
    rcases hf with z | z
    · exact z
    · rw [z] at hk; cases hk
   obtain ⟨c, hc⟩ := I.ok.has x (.inl hk)
   obtain ⟨w', z⟩ := I.cell x c hc
   refine wpAny_storeName_cell I.ok.kind hk hc z (fun h' hc' hs => ?_)
   obtain ⟨oc, hoc, hocd⟩ := id z
   refine h { s with heap := h' } ⟨I.ok, I.os, I.bare, ⟨fun b o e n hb hx => ?_, fun b o e n hb hx => ?_, I.base.free, fun b o e hx => ?_, I.base.tups, I.base.frzs, I.base.tbls⟩, ⟨m, hn.sameBut hs (Ne.symm (cne x c hc)), fun j y v' e1 e2 e3 => ?_⟩, fun y c' e => ?_, I.free, I.freeC, fun p hp => ?_, tracked ⟨oc, hoc, I.freeC x c hc⟩ hs, by simpa using I.len⟩ ⟨c, hs, .inr hc⟩
   · exact (hs.2 b (Nat.ne_of_lt (Nat.lt_of_lt_of_le (Heap.lt_size e) (I.ok.cab x c hfn hc)))).trans (I.base.keep b o e n hb hx)
   · obtain ⟨sl, e1⟩ := I.base.slot b o e n hb hx
     exact ⟨sl, (hs.2 b (Nat.ne_of_lt (Nat.lt_of_lt_of_le (Heap.lt_size e) (I.ok.cab x c hfn hc)))).trans e1⟩
   · obtain ⟨o', e1⟩ := I.base.there b o e hx
     exact ⟨o', (hs.2 b (Nat.ne_of_lt (Nat.lt_of_lt_of_le (Heap.lt_size e) (I.ok.cab x c hfn hc)))).trans e1⟩
   · by_cases hj : j = i
     · subst hj
       rw [hi] at e1; cases e1
       rw [List.getElem?_set_self hiσ] at e2
       cases e2
       exact ⟨u, r, .inr ⟨.inl hk, c, hc, hc'⟩⟩
     · rw [List.getElem?_set_ne (Ne.symm hj)] at e2
       obtain ⟨u', r', q⟩ := hl j y v' e1 e2 e3
       refine ⟨u', r', ?_⟩
       rcases q with q | ⟨k, c', e, z'⟩
       · exact .inl q
       · refine .inr ⟨k, c', e, z'.sameBut hs ?_⟩
         rintro rfl
         exact hj (nodup_ix hN e1 (I.ok.inj _ _ _ e hc ▸ hi))
   · by_cases hcc : c' = c
     · subst hcc; exact ⟨_, hc'⟩
     · obtain ⟨w2, z2⟩ := I.cell y c' e
       exact ⟨w2, z2.sameBut hs hcc⟩
   · obtain ⟨e, n, ne, nf, d⟩ := I.pin p hp
     refine ⟨(hs.2 p.1 ?_).trans e, n, ne, nf, d⟩
     intro q
     rw [q, hoc] at e
     have q' : oc = p.2 := Option.some.inj e
     exact d w' (by rw [← q']; exact hocd)
theorem store_ok {M : Model} {A : Around} {E : Value → Shared → Prop} {i : Nat} {x : Str} {v : V} {u : Value} {Q : Unit → Shared → Prop} (I : Inv X pins σ H s) (hN : X.N.Nodup) (hi : X.N[i]? = some x) (hx : Loc X.env.scope x) (r : RelV v u)
 (h : ∀ s', Inv X pins (σ.set i (some v)) H s' → Q () s') (hf : X.fn x = true ∨ X.env.scope.names.lookup x = some .local := by first | exact .inl rfl | exact .inr rfl | assumption) : wpAny M A (storeName X.env x u) Q E s :=
 store_ok2 I hN hi hx r (fun s' I' _ => h s' I') hf
theorem Inv.call' {s' : Shared} {ch : List Addr} (I : Inv X pins σ H s) (ho : s'.os = s.os) (u : Un (frs X.stack) ch H H' s.heap s'.heap) (hok : HOk X.prog X.w H' s'.heap) (hg : AllBare s'.gens)
 (hch : ∀ b ∈ ch, (b ∈ X.ex ∨ X.s₀.heap.objs.size ≤ b) ∧ b ≠ X.env.locals ∧ (∀ x c, X.env.cells.lookup x = some c → c ≠ b) ∧ ∀ p ∈ X.pn ++ pins, p.1 ≠ b) : Inv X pins σ H' s' := by
 obtain ⟨h', g', d', t', o'⟩ := s'
 have e : o' = s.os := ho
 subst e
 exact I.call (g' := g') (t' := t') (d' := d') u hok hg hch
end
noncomputable abbrev XK := Value → Option Addr → Hp → Prop
noncomputable abbrev St := List (Option V)
noncomputable abbrev VK := V → Hp → Prop
noncomputable abbrev TE := St → Hp → VK → Prop
noncomputable abbrev TT := St → Hp → (Bool → Hp → Prop) → Prop
noncomputable abbrev TA := St → Hp → (List V → Hp → Prop) → Prop
structure Ends where
 nx : St → Hp → Prop
 rt : VK
 bk : St → Hp → Prop := fun _ _ => False
 ct : St → Hp → Prop := fun _ _ => False
noncomputable abbrev TS := Ends → St → Hp → Prop
noncomputable def EP (X : Cx) (pins : List (Addr × Obj)) (σ : St) (Q : VK) (u : Value) (s' : Shared) : Prop := ∃ v H', Inv X pins σ H' s' ∧ RelV v u ∧ Q v H'
noncomputable def TP (X : Cx) (pins : List (Addr × Obj)) (σ : St) (Q : Bool → Hp → Prop) (b : Bool) (s' : Shared) : Prop := ∃ H', Inv X pins σ H' s' ∧ Q b H'
noncomputable def AP (X : Cx) (pins : List (Addr × Obj)) (σ : St) (Q : List V → Hp → Prop) (us : List Value) (s' : Shared) : Prop := ∃ vs H', Inv X pins σ H' s' ∧ Vals vs us ∧ Q vs H'
noncomputable def SP (X : Cx) (pins : List (Addr × Obj)) (D : Ends) (f : Flow) (s' : Shared) : Prop :=
 match f with
 | .next => ∃ σ' H', Inv X pins σ' H' s' ∧ D.nx σ' H'
 | .brk => ∃ σ' H', Inv X pins σ' H' s' ∧ D.bk σ' H'
 | .cont => ∃ σ' H', Inv X pins σ' H' s' ∧ D.ct σ' H'
 | .ret u => ∃ v σ' H', Inv X pins σ' H' s' ∧ RelV v u ∧ D.rt v H'
noncomputable def PE (X : Cx) (e : Expr) (t : TE) : Prop :=
 ∀ (pins : List (Addr × Obj)) (s : Shared) (σ : St) (H : Hp) (Q : VK), Inv X pins σ H s → t σ H Q → wpAny (model X.prog X.w) X.A (eval e X.env) (EP X pins σ Q) X.xe s
noncomputable def PT (X : Cx) (e : Expr) (t : TT) : Prop :=
 ∀ (pins : List (Addr × Obj)) (s : Shared) (σ : St) (H : Hp) (Q : Bool → Hp → Prop), Inv X pins σ H s → t σ H Q → wpAny (model X.prog X.w) X.A (isTrue e X.env (eval e X.env)) (TP X pins σ Q) X.xe s
noncomputable def PW (X : Cx) (e : Expr) (t : TT) : Prop :=
 ∀ (whole : Sem Value) (pins : List (Addr × Obj)) (s : Shared) (σ : St) (H : Hp) (Q : Bool → Hp → Prop), Inv X pins σ H s → t σ H Q → wpAny (model X.prog X.w) X.A (isTrue e X.env whole) (TP X pins σ Q) X.xe s
theorem PW.pt {X : Cx} {e : Expr} {t : TT} (h : PW X e t) : PT X e t := h _
noncomputable def PA (X : Cx) (es : List Expr) (t : TA) : Prop :=
 ∀ (pos : Pos) (pins : List (Addr × Obj)) (s : Shared) (σ : St) (H : Hp) (Q : List V → Hp → Prop), Inv X pins σ H s → t σ H Q → wpAny (model X.prog X.w) X.A (spliced (backTo pos (starEach es X.env))) (AP X pins σ Q) X.xe s
noncomputable def PS (X : Cx) (st : Stmt) (t : TS) : Prop :=
 ∀ (pins : List (Addr × Obj)) (s : Shared) (σ : St) (H : Hp) (D : Ends), Inv X pins σ H s → t D σ H → wpAny (model X.prog X.w) X.A (exec st X.env) (SP X pins D) X.xe s
noncomputable def PSs (X : Cx) (st : List Stmt) (t : TS) : Prop :=
 ∀ (pins : List (Addr × Obj)) (s : Shared) (σ : St) (H : Hp) (D : Ends), Inv X pins σ H s → t D σ H → wpAny (model X.prog X.w) X.A (execs st X.env) (SP X pins D) X.xe s
theorem thn {α : Type} {t : Sem α} {Q Q' : α → Shared → Prop} {M : Model} {A : Around} {E : Value → Shared → Prop} {s : Shared} (h : wpAny M A t Q E s) (hQ : ∀ a s, Q a s → Q' a s) : wpAny M A t Q' E s := wpAny_mono h hQ fun _ _ x => x
end L2
namespace L2
open PySem PySem.Spec PyProof.Rows
section
variable {X : Cx}
theorem bin {a b : Expr} {ta tb : TE} (ha : PE X a ta) (hb : PE X b tb) {pins : List (Addr × Obj)} {s : Shared} {σ : St} {H : Hp} {R : V → V → Hp → Prop} (I : Inv X pins σ H s) (h : ta σ H fun x H1 => tb σ H1 fun y H2 => R x y H2)
 {α : Type} {Q : α → Shared → Prop} {f : Value → Value → Sem α}
 (hf : ∀ v u s2 x y H2, Inv X pins σ H2 s2 → RelV x v → RelV y u → R x y H2 → wpAny (model X.prog X.w) X.A (f v u) Q X.xe s2) :
 wpAny (model X.prog X.w) X.A (eval a X.env) (fun v s₁ => wpAny (model X.prog X.w) X.A (eval b X.env) (fun u s₂ => wpAny (model X.prog X.w) X.A (f v u) Q X.xe s₂) X.xe s₁) X.xe s := by
 refine thn (ha pins s σ H _ I h) fun v s1 hq0 => ?_
 obtain ⟨x, H1, I1, r1, q1⟩ := hq0
 refine thn (hb pins s1 σ H1 _ I1 q1) fun u s2 hq0 => ?_
 obtain ⟨y, H2, I2, r2, q2⟩ := hq0
 exact hf v u s2 x y H2 I2 r1 r2 q2
noncomputable def tVar (i : Nat) : TE := fun σ H Q => ∃ v, σ[i]? = some (some v) ∧ Q v H
noncomputable def tC (v : V) : TE := fun _ H Q => Q v H
theorem pe_var {i : Nat} {x : Str} {pos : Pos} (hN : X.N[i]? = some x) (hv : Vis X.env.scope x) (hd : (x == ("__debug__" : Str)) = false := by decide) (hcd : (x == ("__classdict__" : Str)) = false := by decide) : PE X (.Name x pos) (tVar i) := by
 intro pins s σ H Q I h
 obtain ⟨v, e, h⟩ := h
 obtain ⟨m, hn, hl⟩ := I.loc
 obtain ⟨u, r, l⟩ := hl i x v hN e hv
 have fin : EP X pins σ Q u s := ⟨v, H, I, r, h⟩
 rcases l with ⟨hk, hm⟩ | ⟨hk, c, hc, hcell⟩
 · exact wpAny_Name (wpAny_loadName_local I.ok.kind hk hn hm fin) hd
 · rcases hk with hk | hk
   · exact wpAny_Name (wpAny_loadName_cell I.ok.kind hk hc hcell fin) hd
   · exact wpAny_Name (wpAny_loadName_free I.ok.kind hk hc hcell fin hcd) hd
theorem za8 {i j pos} : PE X (.Constant (.int i) j pos) (tC (.int i)) := fun _ _ _ H _ I h => wpAny_Constant_int ⟨.int i, H, I.tok _, ⟨_, rfl⟩, h⟩
theorem pe_bl {b j pos} : PE X (.Constant (.bool b) j pos) (tC (.bl b)) := fun _ _ _ H _ I h => Constant_bool ⟨.bl b, H, I, rfl, h⟩
theorem yb1 {j pos} : PE X (.Constant .none j pos) (tC .non) := fun _ _ _ H _ I h => Constant_none ⟨.non, H, I, rfl, h⟩
theorem zb1 {x j pos} : PE X (.Constant (.str x) j pos) (tC (.str x)) := fun _ _ _ H _ I h => Calls.Constant_str ⟨.str x, H, I.tok _, ⟨_, rfl⟩, h⟩
noncomputable def Gl (X : Cx) (x : Str) : Prop := X.env.kindOf x = some .globalImplicit
theorem yf7 {E : Value → Shared → Prop} {pins : List (Addr × Obj)} {s : Shared} {σ : St} {H : Hp} {x : Str} {u : Value} {pos : Pos} {Q : Value → Shared → Prop} (I : Inv X pins σ H s) (hg : Gl X x) (hm : X.mg x = some u) (h : Q u s)
 (hd : (x == ("__debug__" : Str)) = false := by decide) : wpAny (model X.prog X.w) X.A (eval (.Name x pos) X.env) Q E s :=
 Calls.Name_function_global I.ok.kind hg (Calls.loadGlobal_global (by rw [I.ok.glob]; exact I.mod.glob.keeps I.bk) hm h) hd
theorem yb5 {E : Value → Shared → Prop} {pins : List (Addr × Obj)} {s : Shared} {σ : St} {H : Hp} {x : Str} {u : Value} {pos : Pos} {Q : Value → Shared → Prop} (I : Inv X pins σ H s) (hg : Gl X x) (hm : X.mg x = none) (hv : bootBuiltins x = some u) (h : Q u s)
 (hn : x ≠ "__name__" := by decide) (hd : (x == ("__debug__" : Str)) = false := by decide) : wpAny (model X.prog X.w) X.A (eval (.Name x pos) X.env) Q E s := by
 obtain ⟨mb, h1, h2⟩ := I.mod.blt
 exact Calls.Name_function_global I.ok.kind hg (Calls.loadGlobal_builtin (by rw [I.ok.glob]; exact I.mod.glob.keeps I.bk) hm (by rw [I.ok.blt]; exact h1.keeps I.bk) ((h2 x hn).trans hv) h) hd
theorem pe_glob {x : Str} {v : V} {u : Value} {pos : Pos} (hg : Gl X x) (hm : X.mg x = some u) (r : RelV v u) (hd : (x == ("__debug__" : Str)) = false := by decide) : PE X (.Name x pos) (tC v) :=
 fun _ _ _ H _ I h => yf7 I hg hm ⟨v, H, I, r, h⟩ hd
theorem ya0 {x : Str} {v : V} {u : Value} {pos : Pos} (hg : Gl X x) (hm : X.mg x = none) (hv : bootBuiltins x = some u) (r : RelV v u) (hn : x ≠ "__name__" := by decide) (hd : (x == ("__debug__" : Str)) = false := by decide) : PE X (.Name x pos) (tC v) :=
 fun _ _ _ H _ I h => yb5 I hg hm hv ⟨v, H, I, r, h⟩ hn hd
variable {a b : Expr} {ta tb : TE} {pos : Pos}
noncomputable def PC (X : Cx) (op : CmpOp) (a b : Expr) (t : TE) : Prop :=
 ∀ (pins : List (Addr × Obj)) (s : Shared) (σ : St) (H : Hp) (Q : VK), Inv X pins σ H s → t σ H Q →
  wpAny (model X.prog X.w) X.A (eval a X.env) (fun v s₁ => wpAny (model X.prog X.w) X.A (eval b X.env) (fun u s₂ => wpAny (model X.prog X.w) X.A (compareOp op v u) (EP X pins σ Q) X.xe s₂) X.xe s₁) X.xe s
theorem nobehind (b : Expr) {op : CmpOp} (h : op ≠ .In) (h2 : op ≠ .NotIn) : behindInMarks op b = false := by
 have e1 : (op == CmpOp.In) = false := by cases op <;> first | rfl | exact absurd rfl h
 have e2 : (op == CmpOp.NotIn) = false := by cases op <;> first | rfl | exact absurd rfl h2
 cases b <;> simp [behindInMarks, e1, e2]
noncomputable def tB (t : TE) : TT := fun σ H Q => t σ H fun x H1 => ∃ c, x = .bl c ∧ Q c H1
theorem pt_cmp {op : CmpOp} {t : TE} (h : PC X op a b t) (h1 : behindInMarks op b = false := by first | exact nobehind _ (by decide) (by decide) | rfl) : PT X (.Compare a [op] [b] pos) (tB t) := by
 intro pins s σ H Q I hw
 refine wpAny_isTrue_Compare1 (thn (h pins s σ H _ I hw) fun v s1 h1 => thn h1 fun u s2 h2 => thn h2 fun c s3 hq0 => ?_) h1
 obtain ⟨x, H1, I1, r1, q1⟩ := hq0
 obtain ⟨d, rfl, q⟩ := q1
 cases r1
 exact wpAny_truthy_bool ⟨H1, I1, q⟩
theorem pt_val {e : Expr} {t : TE} (h : PE X e t) (he : ∀ whole, isTrue e X.env whole = (do let v ← whole; standAt e.pos; holding [v] (truthy v)) := by intro _; rfl) : PT X e (tB t) := by
 intro pins s σ H Q I hw
 refine isTrue_plain (thn (h pins s σ H _ I hw) fun v s1 hq0 => ?_) (he _)
 obtain ⟨x, H1, I1, r1, q1⟩ := hq0
 obtain ⟨d, rfl, q⟩ := q1
 cases r1
 exact wpAny_truthy_bool ⟨H1, I1, q⟩
variable {tA tB' : TT} {rest : List Expr}
noncomputable def tAnd (t u : TT) : TT := fun σ H Q => t σ H fun c H1 => if c = true then u σ H1 Q else Q false H1
noncomputable def tOr (t u : TT) : TT := fun σ H Q => t σ H fun c H1 => if c = true then Q true H1 else u σ H1 Q
noncomputable def tNot (t : TT) : TT := fun σ H Q => t σ H fun c H1 => Q (!c) H1
theorem yc7 (ha : PT X a tA) : PW X (.BoolOp .And [a] pos) tA := by
 intro wh pins s σ H Q I h
 refine isTrue_and (thn (ha pins s σ H Q I h) fun c s1 e => ?_)
 cases c with
 | true => exact isTrue_and_nil e
 | false => exact e
theorem yi5 (ha : PT X a tA) : PW X (.BoolOp .Or [a] pos) tA := by
 intro wh pins s σ H Q I h
 refine isTrue_or (thn (ha pins s σ H Q I h) fun c s1 e => ?_)
 cases c with
 | false => exact isTrue_or_nil e
 | true => exact e
theorem yi1 (ha : PT X a tA) (hb : PW X (.BoolOp .And (b :: rest) pos) tB') : PW X (.BoolOp .And (a :: b :: rest) pos) (tAnd tA tB') := by
 intro wh pins s σ H Q I h
 refine isTrue_and (thn (ha pins s σ H _ I h) fun c s1 hq0 => ?_)
 obtain ⟨H1, I1, q1⟩ := hq0
 cases c with
 | true => exact hb wh pins s1 σ H1 Q I1 q1
 | false => exact ⟨H1, I1, q1⟩
theorem pw_or (ha : PT X a tA) (hb : PW X (.BoolOp .Or (b :: rest) pos) tB') : PW X (.BoolOp .Or (a :: b :: rest) pos) (tOr tA tB') := by
 intro wh pins s σ H Q I h
 refine isTrue_or (thn (ha pins s σ H _ I h) fun c s1 hq0 => ?_)
 obtain ⟨H1, I1, q1⟩ := hq0
 cases c with
 | true => exact ⟨H1, I1, q1⟩
 | false => exact hb wh pins s1 σ H1 Q I1 q1
theorem pt_not (ha : PT X a tA) : PT X (.UnaryOp .Not a pos) (tNot tA) := by
 intro pins s σ H Q I h
 exact isTrue_not (ha pins s σ H (fun c H1 => Q (!c) H1) I h)
noncomputable def tAndV (ta tb : TE) : TE := fun σ H Q => ta σ H fun x H1 => ∃ c, x = .bl c ∧ if c = true then tb σ H1 Q else Q (.bl false) H1
noncomputable def tOrV (ta tb : TE) : TE := fun σ H Q => ta σ H fun x H1 => ∃ c, x = .bl c ∧ if c = true then Q (.bl true) H1 else tb σ H1 Q
noncomputable def tNotV (ta : TE) : TE := fun σ H Q => ta σ H fun x H1 => ∃ c, x = .bl c ∧ Q (.bl (!c)) H1
theorem yj7 {op} {t : TE} (h : PE X a t) : PE X (.BoolOp op [a] pos) t := fun pins s σ H Q I hw => BoolOp_one (h pins s σ H Q I hw)
theorem pe_and (ha : PE X a ta) (hb : PE X (.BoolOp .And (b :: rest) pos) tb) : PE X (.BoolOp .And (a :: b :: rest) pos) (tAndV ta tb) := by
 intro pins s σ H Q I h
 refine BoolOp_and (thn (ha pins s σ H _ I h) fun v s1 hq0 => ?_)
 obtain ⟨x, H1, I1, r1, q1⟩ := hq0
 obtain ⟨c, rfl, q1⟩ := q1
 cases r1
 refine wpAny_truthy_bool ?_
 cases c with
 | true => exact hb pins s1 σ H1 Q I1 q1
 | false => exact ⟨.bl false, H1, I1, rfl, q1⟩
theorem pe_or (ha : PE X a ta) (hb : PE X (.BoolOp .Or (b :: rest) pos) tb) : PE X (.BoolOp .Or (a :: b :: rest) pos) (tOrV ta tb) := by
 intro pins s σ H Q I h
 refine BoolOp_or (thn (ha pins s σ H _ I h) fun v s1 hq0 => ?_)
 obtain ⟨x, H1, I1, r1, q1⟩ := hq0
 obtain ⟨c, rfl, q1⟩ := q1
 cases r1
 refine wpAny_truthy_bool ?_
 cases c with
 | false => exact hb pins s1 σ H1 Q I1 q1
 | true => exact ⟨.bl true, H1, I1, rfl, q1⟩
theorem pe_not (ha : PE X a ta) : PE X (.UnaryOp .Not a pos) (tNotV ta) := by
 intro pins s σ H Q I h
 refine UnaryOp_ (thn (ha pins s σ H _ I h) fun v s1 hq0 => ?_)
 obtain ⟨x, H1, I1, r1, q1⟩ := hq0
 obtain ⟨c, rfl, q1⟩ := q1
 cases r1
 exact not_of (wpAny_truthy_bool ⟨.bl (!c), H1, I1, rfl, q1⟩)
noncomputable def tIf (t : TT) (ta tb : TE) : TE := fun σ H Q => t σ H fun c H1 => if c = true then ta σ H1 Q else tb σ H1 Q
theorem yd1 {c : Expr} (hc : PT X c tA) (ha : PE X a ta) (hb : PE X b tb) : PE X (.IfExp c a b pos) (tIf tA ta tb) := by
 intro pins s σ H Q I h
 refine wpAny_IfExp (thn (hc pins s σ H _ I h) fun d s1 hq0 => ?_)
 obtain ⟨H1, I1, q1⟩ := hq0
 cases d with
 | true => exact ha pins s1 σ H1 Q I1 q1
 | false => exact hb pins s1 σ H1 Q I1 q1
end
end L2
namespace L2
open PySem PySem.Spec PyProof.Rows
noncomputable def SqL (K : PySem.W.Frag) (H : Hp) (a : Addr) (xs : List V) : Prop :=
 Rd H a (.lst xs) ∨
  ∃ (o : Obj) (its : Array Value) (n : Nat), K.lookup a = some o ∧ o.cls = .type "list" ∧ o.dict = none ∧ o.data = .seq its n ∧ its.size ≤ sizeLine ∧ Vals xs its.toList
noncomputable def SqT (K : PySem.W.Frag) (H : Hp) (a : Addr) (xs : List V) : Prop :=
 Rd H a (.tup xs) ∨
  ∃ (o : Obj) (its : Array Value) (n : Nat), K.lookup a = some o ∧ o.cls = .type "tuple" ∧ o.data = .seq its n ∧ its.size ≤ sizeLine ∧ Vals xs its.toList
noncomputable def absV : Value → Option V
 | .none => some .non
 | .bool b => some (.bl b)
 | .int i _ => some (.int i)
 | .str x _ => some (.str x)
 | .bytes b _ => some (.byt b)
 | .float b _ => some (.flt b)
 | .ref a => some (.ref a)
 | .type n => some (.ty n)
 | _ => none
theorem RelV.abs {x : V} {u : Value} (r : RelV x u) : absV u = some x := by
 cases x with
 | non => cases r; rfl
 | bl _ => cases r; rfl
 | int _ => obtain ⟨t, rfl⟩ := r; rfl
 | str _ => obtain ⟨t, rfl⟩ := r; rfl
 | byt _ => obtain ⟨t, rfl⟩ := r; rfl
 | flt _ => obtain ⟨t, rfl⟩ := r; rfl
 | ref _ => cases r; rfl
 | ty _ => cases r; rfl
theorem RelV.inj {x y : V} {u : Value} (r : RelV x u) (q : RelV y u) : x = y := Option.some.inj (r.abs.symm.trans q.abs)
theorem Vals.inj : ∀ {xs ys : List V} {us : List Value}, Vals xs us → Vals ys us → xs = ys
 | _, _, _, .nil, .nil => rfl
 | _, _, _, .cons r t, .cons r' t' => by rw [r.inj r', Vals.inj t t']
section
variable {X : Cx} {pins : List (Addr × Obj)} {σ : St} {H : Hp} {s : Shared} {a : Addr} {xs ys : List V}
theorem SqL.of {K : PySem.W.Frag} (h : H a = some (.lst xs)) : SqL K H a xs := .inl (.inl h)
theorem SqT.of {K : PySem.W.Frag} (h : H a = some (.tup xs)) : SqT K H a xs := .inl (.inl h)
theorem Inv.list (I : Inv X pins σ H s) (h : SqL X.K H a xs) : ∃ its : List Value, Vals xs its ∧ PlainL s.heap a its.toArray ∧ xs.length ≤ sizeLine := by
 rcases h with h | ⟨o, its, n, hk, hc, hd, hs, hz, r⟩
 · obtain ⟨z, its, n, r, e⟩ := h.ok I.hok
   exact ⟨its, r, ⟨_, n, e, rfl, rfl, rfl⟩, z⟩
 · refine ⟨its.toList, r, ⟨o, n, I.kIn a o hk, hc, hd, by simpa using hs⟩, ?_⟩
   have e := r.length
   simp only [Array.length_toList] at e
   omega
theorem Inv.tuple (I : Inv X pins σ H s) (h : SqT X.K H a xs) : ∃ its : List Value, Vals xs its ∧ IsTup s.heap a its.toArray ∧ xs.length ≤ sizeLine := by
 rcases h with h | ⟨o, its, n, hk, hc, hs, hz, r⟩
 · obtain ⟨z, its, r, p⟩ := h.ok I.hok
   exact ⟨its, r, p, z⟩
 · refine ⟨its.toList, r, ⟨o, I.kIn a o hk, hc, n, by simpa using hs⟩, ?_⟩
   have e := r.length
   simp only [Array.length_toList] at e
   omega
theorem Inv.list_inj (I : Inv X pins σ H s) (h : SqL X.K H a xs) (h' : SqL X.K H a ys) : xs = ys := by
 obtain ⟨its, r, ⟨o, n, e, _, _, d⟩, _⟩ := I.list h
 obtain ⟨its', r', ⟨o', n', e', _, _, d'⟩, _⟩ := I.list h'
 rw [e] at e'; cases e'
 rw [d] at d'
 injection d' with d1 _
 have : its = its' := by simpa using congrArg Array.toList d1
 subst this
 exact r.inj r'
theorem Inv.tuple_inj (I : Inv X pins σ H s) (h : SqT X.K H a xs) (h' : SqT X.K H a ys) : xs = ys := by
 obtain ⟨its, r, ⟨o, e, _, n, d⟩, _⟩ := I.tuple h
 obtain ⟨its', r', ⟨o', e', _, n', d'⟩, _⟩ := I.tuple h'
 rw [e] at e'; cases e'
 rw [d] at d'
 injection d' with d1 _
 have : its = its' := by simpa using congrArg Array.toList d1
 subst this
 exact r.inj r'
end
noncomputable abbrev Cx.wish (X : Cx) (E : Value → Shared → Prop) : Cx := { X with xe := E }
noncomputable abbrev Cx.nox (X : Cx) : Cx := X.wish fun _ _ => False
theorem Cx.Ok.wish {X : Cx} (ok : X.Ok) (E : Value → Shared → Prop) : (X.wish E).Ok :=
 ⟨ok.mod, ok.kind, ok.glob, ok.blt, ok.above, ok.inj, ok.has, ok.cab, ok.hd, ok.frames, ok.stk, ok.exf, ok.bs, ok.bsz, ok.noex, ok.exfs, ok.funs, ok.frf⟩
theorem Cx.Ok.unwish {X : Cx} {E : Value → Shared → Prop} (ok : (X.wish E).Ok) : X.Ok :=
 ⟨ok.mod, ok.kind, ok.glob, ok.blt, ok.above, ok.inj, ok.has, ok.cab, ok.hd, ok.frames, ok.stk, ok.exf, ok.bs, ok.bsz, ok.noex, ok.exfs, ok.funs, ok.frf⟩
section
variable {X : Cx} {pins : List (Addr × Obj)} {σ : St} {H : Hp} {s : Shared} {E : Value → Shared → Prop}
theorem Inv.wish (I : Inv X pins σ H s) (E : Value → Shared → Prop) : Inv (X.wish E) pins σ H s := ⟨I.ok.wish E, I.os, I.bare, I.base, I.loc, I.cell, I.free, I.freeC, I.pin, I.hok, I.len⟩
theorem Inv.unwish (I : Inv (X.wish E) pins σ H s) : Inv X pins σ H s := ⟨I.ok.unwish, I.os, I.bare, I.base, I.loc, I.cell, I.free, I.freeC, I.pin, I.hok, I.len⟩
theorem SP.unwish {D : Ends} {f : Flow} {s' : Shared} (h : SP (X.wish E) pins D f s') : SP X pins D f s' := by
 cases f with
 | next => obtain ⟨σ', H', I, q⟩ := h; exact ⟨σ', H', I.unwish, q⟩
 | brk => obtain ⟨σ', H', I, q⟩ := h; exact ⟨σ', H', I.unwish, q⟩
 | cont => obtain ⟨σ', H', I, q⟩ := h; exact ⟨σ', H', I.unwish, q⟩
 | ret u => obtain ⟨v, σ', H', I, r, q⟩ := h; exact ⟨v, σ', H', I.unwish, r, q⟩
theorem PSs.nox {st : List Stmt} {t : TS} (h : PSs X.nox st t) : PSs X st t := fun pins s σ H D I hw =>
 wpAny_mono (h pins s σ H D (I.wish _) hw) (fun _ _ q => q.unwish) fun _ _ z => False.elim z
end
section
variable {X : Cx} {st : Stmt} {rest : List Stmt} {t u : TS} {e : Expr} {te : TE} {pos : Pos}
noncomputable def tNext : TS := fun D σ H => D.nx σ H
noncomputable def tSeq (t u : TS) : TS := fun D σ H => t { D with nx := u D } σ H
theorem zd4 : PSs X [] tNext := fun _ _ σ H _ I h => wpAny_execs_nil ⟨σ, H, I, h⟩
theorem za5 (h1 : PS X st t) (h2 : PSs X rest u) : PSs X (st :: rest) (tSeq t u) := by
 intro pins s σ H D I h
 refine wpAny_execs_cons (thn (h1 pins s σ H { D with nx := u D } I h) fun f s1 q => ?_)
 cases f with
 | next =>
  obtain ⟨σ', H', I', q⟩ := q
  exact h2 pins s1 σ' H' D I' q
 | ret v => exact q
 | brk => exact q
 | cont => exact q
theorem za9 (h1 : PS X st t) : PSs X [st] t := by
 intro pins s σ H D I h
 refine wpAny_execs_cons (thn (h1 pins s σ H D I h) fun f s1 q => ?_)
 cases f with
 | next => exact wpAny_execs_nil q
 | ret v => exact q
 | brk => exact q
 | cont => exact q
theorem Inv.quiet {pins : List (Addr × Obj)} {σ : St} {H : Hp} {s : Shared} (I : Inv X pins σ H s) : interactive X.env = false := by simp [interactive, I.ok.kind]
noncomputable def tDrop (te : TE) : TS := fun D σ H => te σ H fun _ H1 => D.nx σ H1
theorem zc7 (he : PE X e te) (hs : swapsWith e none pos.line X.env = pure false := by rfl) : PS X (.Expr e pos) (tDrop te) := by
 intro pins s σ H D I h
 exact wpAny_Expr_any (thn (he pins s σ H _ I h) fun v s1 ⟨x, H1, I1, r1, q1⟩ => ⟨σ, H1, I1, q1⟩) I.quiet hs
noncomputable def tRet (te : TE) : TS := fun D σ H => te σ H D.rt
theorem zc8 (he : PE X e te) : PS X (.Return (some e) pos) (tRet te) := by
 intro pins s σ H D I h
 exact wpAny_Return_some (thn (he pins s σ H _ I h) fun v s1 ⟨x, H1, I1, r1, q1⟩ => ⟨x, σ, H1, I1, r1, q1⟩)
noncomputable def tIfS (c : TT) (t u : TS) : TS := fun D σ H => c σ H fun b H1 => if b = true then t D σ H1 else u D σ H1
theorem ps_if {c : Expr} {a b : List Stmt} {tc : TT} (hc : PT X c tc) (ha : PSs X a t) (hb : PSs X b u) : PS X (.If c a b pos) (tIfS tc t u) := by
 intro pins s σ H D I h
 refine wpAny_If (thn (hc pins s σ H _ I h) fun d s1 hq0 => ?_)
 obtain ⟨H1, I1, q1⟩ := hq0
 cases d with
 | true => exact ha pins s1 σ H1 D I1 q1
 | false => exact hb pins s1 σ H1 D I1 q1
noncomputable def tNever : TS := fun _ _ _ => False
theorem ps_never : PS X st tNever := fun _ _ _ _ _ _ h => h.elim
end
noncomputable abbrev TG := V → St → Hp → (St → Hp → Prop) → Prop
noncomputable abbrev TGs := List V → St → Hp → (St → Hp → Prop) → Prop
noncomputable def PG (X : Cx) (target : Expr) (t : TG) : Prop :=
 ∀ (pins : List (Addr × Obj)) (s : Shared) (σ : St) (H : Hp) (v : V) (u : Value) (Q : St → Hp → Prop), Inv X pins σ H s → RelV v u → t v σ H Q →
  wpAny (model X.prog X.w) X.A (assign target X.env u) (fun _ s' => ∃ σ' H', Inv X pins σ' H' s' ∧ Q σ' H') X.xe s
noncomputable def PGs (X : Cx) (ts : List Expr) (t : TGs) : Prop :=
 ∀ (pins : List (Addr × Obj)) (s : Shared) (σ : St) (H : Hp) (vs : List V) (us : List Value) (Q : St → Hp → Prop), Inv X pins σ H s → Vals vs us → t vs σ H Q →
  wpAny (model X.prog X.w) X.A (assignInOrder ((assignEach ts X.env).map (·.2)) us) (fun _ s' => ∃ σ' H', Inv X pins σ' H' s' ∧ Q σ' H') X.xe s
section
variable {X : Cx} {pos : Pos}
noncomputable def gName (i : Nat) : TG := fun v σ H Q => Q (σ.set i (some v)) H
theorem ze8 {i : Nat} {x : Str} (hN : X.N.Nodup) (hi : X.N[i]? = some x) (hx : Loc X.env.scope x) (hf : X.fn x = true ∨ X.env.scope.names.lookup x = some .local := by first | exact .inl rfl | exact .inr rfl | assumption) : PG X (.Name x pos) (gName i) := by
 intro pins s σ H v u Q I r h
 exact wpAny_assign_Name (store_ok I hN hi hx r (fun s' I' => ⟨_, H, I', h⟩) hf)
noncomputable def gNil : TGs := fun vs σ H Q => vs = [] ∧ Q σ H
noncomputable def gCons (t : TG) (u : TGs) : TGs := fun vs σ H Q => ∃ v r, vs = v :: r ∧ t v σ H fun σ' H' => u r σ' H' Q
theorem ya2 : PGs X [] gNil := by
 intro pins s σ H vs us Q I r h
 obtain ⟨e, h⟩ := h
 subst e
 cases r
 exact assignInOrder_nil ⟨σ, H, I, h⟩
theorem zl9 {e : Expr} {es : List Expr} {t : TG} {u : TGs} (h1 : PG X e t) (h2 : PGs X es u)
 (hs : (assignEach (e :: es) X.env).map (·.2) = assign e X.env :: (assignEach es X.env).map (·.2) := by rfl) : PGs X (e :: es) (gCons t u) := by
 intro pins s σ H vs us Q I r h
 obtain ⟨v, vr, e1, h⟩ := h
 subst e1
 cases r with
 | cons r rr =>
  rw [hs]
  refine assignInOrder_cons (thn (h1 pins s σ H _ _ _ I r h) fun _ s1 hq0 => ?_)
  obtain ⟨σ1, H1, I1, q1⟩ := hq0
  exact h2 pins s1 σ1 H1 _ _ Q I1 rr q1
noncomputable def gTup (K : PySem.W.Frag) (n : Nat) (t : TGs) : TG := fun v σ H Q => ∃ a xs, v = .ref a ∧ SqT K H a xs ∧ xs.length = n ∧ t xs σ H Q
theorem pg_tup {es : List Expr} {k : Nat} {t : TGs} {n : Nat} (hc : X.calm = true) (h : PGs X es t)
 (hn : (assignEach es X.env).length = n := by rfl) (hst : (assignEach es X.env).findIdx? (·.1) = none := by rfl) : PG X (.Tuple es k pos) (gTup X.K n t) := by
 intro pins s σ H v u Q I r hw
 obtain ⟨a, xs, e1, hq, hl, hw⟩ := hw
 subst e1
 cases r
 obtain ⟨its, rv, ht, hz⟩ := I.tuple hq
 refine assign_Tuple_tuple (I.ok.hd hc) ht (by simp [hn, ← hl, rv.length]) hst fun h' hx => ?_
 have I1 : Inv X pins σ H { s with heap := h' } := I.kept (t' := s.toks) fun b o e => hx b o (Nat.ne_of_lt (Heap.lt_size e)) e
 exact h pins _ σ H xs _ Q I1 (by simpa using rv) hw
noncomputable def tAsg (te : TE) (g : TG) : TS := fun D σ H => te σ H fun x H1 => g x σ H1 D.nx
theorem zf2 {i : Nat} {x : Str} {e : Expr} {te : TE} {pos' : Pos} (hN : X.N.Nodup) (hi : X.N[i]? = some x) (hx : Loc X.env.scope x) (he : PE X e te) (hs : swapsWith e (some (.Name x pos')) pos.line X.env = pure false := by rfl) (hf : X.fn x = true ∨ X.env.scope.names.lookup x = some .local := by first | exact .inl rfl | exact .inr rfl | assumption) :
 PS X (.Assign [.Name x pos'] e pos) (tAsg te (gName i)) := by
 intro pins s σ H D I h
 refine wpAny_Assign_Name (thn (he pins s σ H _ I h) fun v s1 hq0 => ?_) hs
 obtain ⟨y, H1, I1, r1, q1⟩ := hq0
 exact store_ok I1 hN hi hx r1 (fun s2 I2 => ⟨_, H1, I2, q1⟩) hf
end
section
variable {X : Cx} {pos : Pos}
end
structure It where
 go : Nat → Hp → Prop
 yld : Nat → Hp → V → Hp → Prop
 stop : Nat → Hp → Prop
noncomputable def FpOk (X : Cx) (pins : List (Addr × Obj)) (H : Hp) (b : Addr) : Prop :=
 H b = none ∧ b ≠ X.env.locals ∧ b ∉ X.fs ∧ (b ∈ X.ex ∨ X.s₀.heap.objs.size ≤ b) ∧ (∀ x c, X.env.cells.lookup x = some c → c ≠ b) ∧ ∀ p ∈ X.pn ++ pins, p.1 ≠ b
theorem Inv.fpOk {X : Cx} {pins : List (Addr × Obj)} {σ : St} {H H' : Hp} {s : Shared} {b : Addr} (I : Inv X pins σ H s) (hb : s.heap.objs.size ≤ b) (hn : H' b = none) : FpOk X pins H' b := by
 refine ⟨hn, Nat.ne_of_gt (Nat.lt_of_lt_of_le I.lt hb), I.nofs hb, .inr (Nat.le_trans I.sz hb), fun x c e z => ?_, fun p hp z => ?_⟩
 · obtain ⟨v, q⟩ := I.cell x c e
   exact absurd (Nat.lt_of_lt_of_le q.lt (by rw [z]; exact hb)) (Nat.lt_irrefl _)
 · exact absurd (Nat.lt_of_lt_of_le (Heap.lt_size (I.pin p hp).1) (by rw [z]; exact hb)) (Nat.lt_irrefl _)
structure Turn (P : Program) (w : World) (K : PySem.W.Frag) (tg : Expr) (J : It) (fp : List Addr) (it : Addr) (tn : Nat → Heap → Prop) : Prop where
 mem : it ∈ fp
 obj : ∀ i h, tn i h → ∀ b ∈ fp, ∃ o, h.get? b = some o ∧ ∀ v, o.data ≠ .cell v
 keep : ∀ i h h', tn i h → (∀ b ∈ fp, ∀ o, h.get? b = some o → h'.get? b = some o) → tn i h'
 item : ∀ (X : Cx), X.prog = P → X.w = w → X.K = K → X.calm = true → ∀ (i : Nat) (pins : List (Addr × Obj)) (s : Shared) (σ : St) (H : Hp) (E : Value → Shared → Prop), Inv X pins σ H s → (∀ b ∈ fp, FpOk X pins H b) → tn i s.heap → J.go i H →
  wpAny (model P w) X.A (pyNext (.ref it)) (fun r s1 => ∃ u, r = some u ∧
   wpAny (model P w) X.A (letOwnedTupleGo tg (.ref it) u) (fun _ s2 => ∃ x H', Inv X pins σ H' s2 ∧ RelV x u ∧ J.yld i H x H' ∧ tn (i + 1) s2.heap ∧ ∀ b ∈ fp, H' b = none) E s1) E s
 done : ∀ (X : Cx), X.prog = P → X.w = w → X.K = K → X.calm = true → ∀ (i : Nat) (pins : List (Addr × Obj)) (s : Shared) (σ : St) (H : Hp) (E : Value → Shared → Prop), Inv X pins σ H s → (∀ b ∈ fp, FpOk X pins H b) → tn i s.heap → J.stop i H →
  wpAny (model P w) X.A (pyNext (.ref it)) (fun r s1 => r = none ∧ Inv X pins σ H s1) E s
 self : ∀ (A : Around) (i : Nat) (s : Shared) (Q : Value → Shared → Prop) (E : Value → Shared → Prop), tn i s.heap → Q (.ref it) s → wpAny (model P w) A (pyIter (.ref it)) Q E s
noncomputable abbrev TI := St → Hp → (It → Hp → Prop) → Prop
noncomputable def PIE (X : Cx) (pins : List (Addr × Obj)) (σ : St) (tg : Expr) (R : It → Hp → Prop) (itv : Value) (s2 : Shared) : Prop :=
 ∃ (it : Addr) (fp : List Addr) (tn : Nat → Heap → Prop) (J : It) (H' : Hp), itv = .ref it ∧ Inv X pins σ H' s2 ∧ Turn X.prog X.w X.K tg J fp it tn ∧ tn 0 s2.heap ∧ (∀ b ∈ fp, FpOk X pins H' b) ∧ R J H'
noncomputable def PI (X : Cx) (tg iter : Expr) (wi : TI) : Prop :=
 ∀ (pins : List (Addr × Obj)) (s : Shared) (σ : St) (H : Hp) (R : It → Hp → Prop), Inv X pins σ H s → wi σ H R →
  wpAny (model X.prog X.w) X.A (eval iter X.env) (fun v s1 => wpAny (model X.prog X.w) X.A (pyIter v) (PIE X pins σ tg R) X.xe s1) X.xe s
theorem go_of {M : Model} {A : Around} {E : Value → Shared → Prop} {s : Shared} {tg : Expr} {it : Addr} {u : Value} {o : Obj} {n : String} {vs : Array Value} {Q : Unit → Shared → Prop} (ho : s.heap.get? it = some o) (hc : o.cls = .type n) (hd : o.data = .fields vs)
 (hn : ["enumerate", "zip", "dict_itemiterator", "dict_reverseitemiterator", "odict_iterator", "itertools.zip_longest", "itertools.pairwise"].contains n = false) (hQ : Q () s) : wpAny M A (letOwnedTupleGo tg (.ref it) u) Q E s := by
 unfold letOwnedTupleGo
 cases tg <;> first
  | exact wpAny_pure hQ
  | (cases u <;> first
   | exact wpAny_pure hQ
   | (refine wpAny_bind (wpAny_load ho ?_)
      rw [hc, hd]
      show wpAny M A (if (["enumerate", "zip", "dict_itemiterator", "dict_reverseitemiterator", "odict_iterator", "itertools.zip_longest", "itertools.pairwise"].contains n && vs[0]? == some (rawInt _)) = true then _ else _) Q E s
      rw [if_neg (by intro h; rw [hn, Bool.false_and] at h; cases h)]
      exact wpAny_pure hQ))
noncomputable def Itl (K : PySem.W.Frag) (a : Addr) : It :=
 ⟨fun i H => ∃ xs x, SqL K H a xs ∧ xs[i]? = some x, fun i H x H' => H' = H ∧ ∀ xs, SqL K H a xs → xs[i]? = some x, fun i H => ∃ xs, SqL K H a xs ∧ xs.length ≤ i⟩
noncomputable def Itt (K : PySem.W.Frag) (a : Addr) : It :=
 ⟨fun i H => ∃ xs x, SqT K H a xs ∧ xs[i]? = some x, fun i H x H' => H' = H ∧ ∀ xs, SqT K H a xs → xs[i]? = some x, fun i H => ∃ xs, SqT K H a xs ∧ xs.length ≤ i⟩
noncomputable def Itr (lo : Int) (n : Nat) : It := ⟨fun i _ => i < n, fun i H x H' => H' = H ∧ x = .int (lo + i), fun i _ => n ≤ i⟩
theorem turn_list {P : Program} {w : World} {K : PySem.W.Frag} {tg : Expr} (a it : Addr) : Turn P w K tg (Itl K a) [it] it (fun i h => h.IsListIter it a i) where
 mem := by simp
 obj := fun i h st b hb => by
  have e : b = it := by simpa using hb
  subst e
  obtain ⟨o, e, c, d⟩ := st
  exact ⟨o, e, fun v z => by rw [d] at z; cases z⟩
 keep := fun i h h' st k => st.at fun o e => k it (by simp) o e
 item := by
  intro X hP hw hK hc i pins s σ H E I hf st hg
  subst hP hw hK
  obtain ⟨xs, x, hq, hx⟩ := hg
  obtain ⟨its, rv, p, hz⟩ := I.list hq
  obtain ⟨u, hu, ru⟩ := rv.get hx
  obtain ⟨f0, f1, f2, f3, f4, f5⟩ := hf it (by simp)
  refine wpAny_pyNext_list_item st p.isList (x := u) (by simpa using hu) fun h' st' sb => ?_
  have I1 : Inv X pins σ H { s with heap := h' } := I.turned (t' := s.toks) (fun b o hb e => (sb.2 b hb).trans e) f0 f1 f3 f4 f5
  obtain ⟨o, e, c, d⟩ := id st'
  exact ⟨u, rfl, go_of (s := { s with heap := h' }) e c d (by decide) ⟨x, H, I1, ru, ⟨rfl, fun ys hy => by rw [I.list_inj hy hq]; exact hx⟩, st', fun b hb => (hf b hb).1⟩⟩
 done := by
  intro X hP hw hK hc i pins s σ H E I hf st hg
  subst hP hw hK
  obtain ⟨xs, hq, hx⟩ := hg
  obtain ⟨its, rv, p, hz⟩ := I.list hq
  obtain ⟨f0, f1, f2, f3, f4, f5⟩ := hf it (by simp)
  have hl := rv.length
  exact wpAny_pyNext_list_end (I.ok.hd hc) st p.isList (by simp; omega) fun h' eb => ⟨rfl, I.turned (t' := s.toks) (fun b o hb e => eb b o hb e) f0 f1 f3 f4 f5⟩
 self := fun _ _ _ _ _ st h => wpAny_pyIter_listiter st h
theorem turn_tuple {P : Program} {w : World} {K : PySem.W.Frag} {tg : Expr} (a it : Addr) : Turn P w K tg (Itt K a) [it] it (fun i h => h.IsTupleIter it a i) where
 mem := by simp
 obj := fun i h st b hb => by
  have e : b = it := by simpa using hb
  subst e
  obtain ⟨o, e, c, d⟩ := st
  exact ⟨o, e, fun v z => by rw [d] at z; cases z⟩
 keep := fun i h h' st k => st.at fun o e => k it (by simp) o e
 item := by
  intro X hP hw hK hc i pins s σ H E I hf st hg
  subst hP hw hK
  obtain ⟨xs, x, hq, hx⟩ := hg
  obtain ⟨its, rv, p, hz⟩ := I.tuple hq
  obtain ⟨u, hu, ru⟩ := rv.get hx
  obtain ⟨f0, f1, f2, f3, f4, f5⟩ := hf it (by simp)
  refine wpAny_pyNext_tuple_item st (show s.heap.IsTuple a its.toArray from p) (x := u) (by simpa using hu) fun h' st' sb => ?_
  have I1 : Inv X pins σ H { s with heap := h' } := I.turned (t' := s.toks) (fun b o hb e => (sb.2 b hb).trans e) f0 f1 f3 f4 f5
  obtain ⟨o, e, c, d⟩ := id st'
  exact ⟨u, rfl, go_of (s := { s with heap := h' }) e c d (by decide) ⟨x, H, I1, ru, ⟨rfl, fun ys hy => by rw [I.tuple_inj hy hq]; exact hx⟩, st', fun b hb => (hf b hb).1⟩⟩
 done := by
  intro X hP hw hK hc i pins s σ H E I hf st hg
  subst hP hw hK
  obtain ⟨xs, hq, hx⟩ := hg
  obtain ⟨its, rv, p, hz⟩ := I.tuple hq
  obtain ⟨f0, f1, f2, f3, f4, f5⟩ := hf it (by simp)
  have hl := rv.length
  exact wpAny_pyNext_tuple_end (I.ok.hd hc) st (show s.heap.IsTuple a its.toArray from p) (by simp; omega) fun h' eb => ⟨rfl, I.turned (t' := s.toks) (fun b o hb e => eb b o hb e) f0 f1 f3 f4 f5⟩
 self := fun _ _ _ _ _ st h => wpAny_pyIter_tupleiter st h
theorem turn_range {P : Program} {w : World} {K : PySem.W.Frag} {tg : Expr} (it : Addr) (lo : Int) (n : Nat) : Turn P w K tg (Itr lo n) [it] it (fun i h => IsRangeIter h it (lo + (i : Nat) * 1) ((n : Int) - (i : Nat)) 1) where
 mem := by simp
 obj := fun i h st b hb => by
  have e : b = it := by simpa using hb
  subst e
  exact ⟨_, st, fun v z => by
   have z' : Data.fields _ = Data.cell v := z
   cases z'⟩
 keep := fun i h h' st k => k it (by simp) _ st
 item := by
  intro X hP hw hK hc i pins s σ H E I hf st hg
  subst hP hw hK
  obtain ⟨f0, f1, f2, f3, f4, f5⟩ := hf it (by simp)
  have W := Walks.range (prog := X.prog) (w := X.w) (I.ok.hd hc) it lo 1 n
  refine W.item i s _ _ hg st fun v h' tk hv st' kk => ?_
  obtain ⟨t, rfl⟩ := hv
  have I1 : Inv X pins σ H { s with heap := h', toks := tk } := I.turned (fun b o hb e => kk b o (by simpa using hb) e) f0 f1 f3 f4 f5
  refine ⟨_, rfl, go_of (s := { s with heap := h', toks := tk }) (n := "range_iterator") st' rfl rfl (by decide) ⟨.int (lo + i), H, I1, ⟨t, ?_⟩, ⟨rfl, rfl⟩, st', fun b hb => (hf b hb).1⟩⟩
  rw [Int.mul_one]
 done := by
  intro X hP hw hK hc i pins s σ H E I hf st hg
  subst hP hw hK
  obtain ⟨f0, f1, f2, f3, f4, f5⟩ := hf it (by simp)
  exact wpAny_pyNext_range_end (I.ok.hd hc) st (by have : n ≤ i := hg; omega) fun h' eb => ⟨rfl, I.turned (t' := s.toks) (fun b o hb e => eb b o hb e) f0 f1 f3 f4 f5⟩
 self := fun _ _ _ _ _ st h => wpAny_pyIter_rangeiter st h
end L2
namespace L2
open PySem PySem.Spec PyProof.Rows
section
variable {X : Cx} {tg : Expr}
theorem range_it {pins : List (Addr × Obj)} {σ : St} {H : Hp} {s : Shared} {R : It → Hp → Prop} {E : Value → Shared → Prop} {lo hi : Int} {t u v : Tok} {tk : Nat} (I : Inv X pins σ H s) (h1 : -(2 ^ 62) ≤ lo) (h2 : lo < 2 ^ 62) (h3 : -(2 ^ 62) ≤ hi) (h4 : hi < 2 ^ 62)
 (q : R (Itr lo (hi - lo).toNat) H) : wpAny (model X.prog X.w) X.A (pyIter (.ref s.heap.objs.size)) (PIE X pins σ tg R) E { s with heap := s.heap.push { cls := .type "range", data := .fields #[.int lo t, .int hi u, .int 1 v] }, toks := tk } := by
 refine wpAny_pyIter_range (IsRange.new ..) (small_one h1 h2 h3 h4) ?_
 have I1 : Inv X pins σ H { s with heap := s.heap.push { cls := .type "range", data := .fields #[.int lo t, .int hi u, .int 1 v] }, toks := tk } := I.kept fun b o e => Heap.get?_push_of_some _ e
 refine ⟨(s.heap.push { cls := .type "range", data := .fields #[.int lo t, .int hi u, .int 1 v] }).objs.size, [(s.heap.push { cls := .type "range", data := .fields #[.int lo t, .int hi u, .int 1 v] }).objs.size], _, _, H, rfl,
  I1.kept (t' := tk) fun b o e => Heap.get?_push_of_some _ e, turn_range _ lo (hi - lo).toNat, ?_, fun b hb => ?_, q⟩
 · have e1 : lo + ((0 : Nat) : Int) * 1 = lo := by simp
   have e2 : (((hi - lo).toNat : Nat) : Int) - ((0 : Nat) : Int) = Builtin.Range.rangeSize lo hi 1 := by rw [rangeSize_one]; split <;> omega
   show IsRangeIter _ _ (lo + ((0 : Nat) : Int) * 1) ((((hi - lo).toNat : Nat) : Int) - ((0 : Nat) : Int)) 1
   rw [e1, e2]
   exact Heap.get?_push_size _ rfl
 · have e : b = (s.heap.push { cls := .type "range", data := .fields #[.int lo t, .int hi u, .int 1 v] }).objs.size := by simpa using hb
   subst e
   exact I1.fpOk (Nat.le_refl _) (I1.hok.fresh (Nat.le_refl _))
noncomputable def iRng1 (ta : TA) : TI := fun σ H R => ta σ H fun vs H1 => ∃ j : Int, vs = [.int j] ∧ -(2 ^ 62) ≤ j ∧ j < 2 ^ 62 ∧ R (Itr 0 j.toNat) H1
theorem pi_range1 {a : Expr} {ta : TA} {p pos : Pos} (hg : Gl X "range") (hm : X.mg "range" = none) (ha : PA X [a] ta) (hs : starEach [a] X.env = [(false, eval a X.env)] := by rfl) : PI X tg (.Call (.Name "range" p) [a] [] pos) (iRng1 ta) := by
 intro pins s σ H R I h
 refine Call_ (yb5 I hg hm boot_range (PyProof.Rows.callWith_type1 (thn (ha pos pins s σ H _ I h) fun us s1 hq0 => ?_) hs rfl))
 obtain ⟨vs, H1, I1, r1, q1⟩ := hq0
 obtain ⟨j, e, q1, q2, q⟩ := q1
 subst e
 cases r1 with
 | cons r rr =>
  cases rr
  obtain ⟨t, rfl⟩ := r
  exact call_range_1 (range_it I1 (by omega) (by omega) q1 q2 (by simpa using q))
noncomputable def tFor (wi : TI) (g : TG) (tb : TS) : TS := fun D σ H => wi σ H fun J H1 => ∃ W : Nat → Nat → St → Hp → Prop, (∃ m, W 0 m σ H1) ∧ ∀ i m σ H, W i m σ H →
 (J.stop i H ∧ D.nx σ H) ∨ (J.go i H ∧ ∃ N : St → Hp → Prop, (∀ σ' H', N σ' H' → ∃ m', m' < m ∧ W (i + 1) m' σ' H') ∧ ∀ x H', J.yld i H x H' → g x σ H' fun σ2 H2 => tb { D with nx := N, ct := N, bk := D.nx } σ2 H2)
noncomputable def ya9 (fp : List Addr) (h : Heap) : List (Addr × Obj) := fp.filterMap fun b => (h.get? b).map fun o => (b, o)
theorem zt4 {fp : List Addr} {h : Heap} {b : Addr} {o : Obj} (hb : b ∈ fp) (e : h.get? b = some o) : (b, o) ∈ ya9 fp h := List.mem_filterMap.mpr ⟨b, hb, by rw [e]; rfl⟩
theorem of_pinsAt {fp : List Addr} {h : Heap} {p : Addr × Obj} (hp : p ∈ ya9 fp h) : p.1 ∈ fp ∧ h.get? p.1 = some p.2 := by
 obtain ⟨b, hb, e⟩ := List.mem_filterMap.mp hp
 cases q : h.get? b with
 | none => rw [q] at e; cases e
 | some o =>
  rw [q] at e
  have e' : (b, o) = p := Option.some.inj e
  subst e'
  exact ⟨hb, q⟩
theorem Inv.pinned {pins : List (Addr × Obj)} {σ : St} {H : Hp} {s : Shared} {fp : List Addr} (I : Inv X pins σ H s) (hf : ∀ b ∈ fp, FpOk X pins H b) (ho : ∀ b ∈ fp, ∃ o, s.heap.get? b = some o ∧ ∀ v, o.data ≠ .cell v) : Inv X (pins ++ ya9 fp s.heap) σ H s :=
 I.pins_of fun p hp => (List.mem_append.mp hp).elim (fun z => I.pin p (List.mem_append_right _ z)) fun z => by
  obtain ⟨hb, e⟩ := of_pinsAt z
  obtain ⟨f0, f1, f2, _⟩ := hf p.1 hb
  obtain ⟨o, e', d⟩ := ho p.1 hb
  rw [e] at e'; cases e'
  exact ⟨e, f0, f1, f2, d⟩
theorem Inv.unpinned {pins pl : List (Addr × Obj)} {σ : St} {H : Hp} {s : Shared} (I : Inv X (pins ++ pl) σ H s) : Inv X pins σ H s := I.pins_of fun p hp => I.pin p (List.mem_append_right _ (List.mem_append_left _ hp))
theorem zr1 {iter : Expr} {body : List Stmt} {wi : TI} {g : TG} {tb : TS} {pos : Pos} (hp : PassesOwn (model X.prog X.w) X.A X.env X.xe) (hc : X.calm = true) (hi : PI X tg iter wi) (hg : PG X tg g) (hb : PSs X body tb)
 (hs : ∀ x, foldedSetIterable iter X.env x = pure x := by intro _; rfl) : PS X (.For tg iter body [] pos) (tFor wi g tb) := by
 intro pins s σ H D I h
 refine wpAny_For (thn (hi pins s σ H _ I h) fun v s1 h1 => thn h1 fun itv s2 h2 => ?_) hs
 obtain ⟨it, fp, tn, J, H2, e, I2, T, st2, f2, W, ⟨m0, w0⟩, turn⟩ := h2
 subst e
 have stat : ∀ {H' : Hp}, (∀ b ∈ fp, H' b = none) → ∀ b ∈ fp, FpOk X pins H' b := fun hn b hb => ⟨hn b hb, (f2 b hb).2⟩
 refine codeAny_forLoop_any (fun n s' => ∃ i σ' H', Inv X pins σ' H' s' ∧ tn i s'.heap ∧ (∀ b ∈ fp, H' b = none) ∧ W i n σ' H') ?_ m0 ⟨0, σ, H2, I2, st2, fun b hb => (f2 b hb).1, w0⟩
 rintro n s3 ⟨i, σ3, H3, I3, st3, fr3, w3⟩
 rcases turn i n σ3 H3 w3 with ⟨stop, qn⟩ | ⟨go, N, hN, step⟩
 · refine wpAny_passesOwn hp (thn (T.done X rfl rfl rfl hc i pins s3 σ3 H3 X.xe I3 (stat fr3) st3 stop) fun r s4 ⟨hr, I4⟩ => ?_)
   subst hr
   exact wpAny_execs_nil ⟨σ3, H3, I4, qn⟩
 · refine wpAny_passesOwn hp (thn (T.item X rfl rfl rfl hc i pins s3 σ3 H3 X.xe I3 (stat fr3) st3 go) fun r s4 ⟨u, hr, h4⟩ => ?_)
   subst hr
   refine wpAny_passesOwn hp (thn h4 fun _ s5 hq0 => ?_)
   obtain ⟨x, H5, I5, r5, y5, st5, fr5⟩ := hq0
   have I5' := I5.pinned (stat fr5) (T.obj _ _ st5)
   refine wpAny_passesOwn hp (thn (hg _ s5 σ3 H5 x u _ I5' r5 (step x H5 y5)) fun _ s6 hq0 => ?_)
   obtain ⟨σ6, H6, I6, q6⟩ := hq0
   refine wpAny_passesOwn hp (thn (hb _ s6 σ6 H6 _ I6 q6) fun f s7 q7 => ?_)
   have again : ∀ {σ7 : St} {H7 : Hp}, Inv X (pins ++ ya9 fp s5.heap) σ7 H7 s7 → N σ7 H7 → ∃ m, m < n ∧ ∃ i σ' H', Inv X pins σ' H' s7 ∧ tn i s7.heap ∧ (∀ b ∈ fp, H' b = none) ∧ W i m σ' H' := fun {σ7 H7} I7 n7 => by
    obtain ⟨m', hm, w7⟩ := hN σ7 H7 n7
    refine ⟨m', hm, i + 1, σ7, H7, I7.unpinned, T.keep _ _ _ st5 fun b hb o e => (I7.pin (b, o) (List.mem_append_right _ (List.mem_append_right _ (zt4 hb e)))).1, fun b hb => ?_, w7⟩
    obtain ⟨o, e, d⟩ := T.obj _ _ st5 b hb
    exact (I7.pin (b, o) (List.mem_append_right _ (List.mem_append_right _ (zt4 hb e)))).2.1
   cases f with
   | next => obtain ⟨σ7, H7, I7, n7⟩ := q7; exact again I7 n7
   | cont => obtain ⟨σ7, H7, I7, n7⟩ := q7; exact again I7 n7
   | brk => obtain ⟨σ7, H7, I7, q7⟩ := q7; exact ⟨σ7, H7, I7.unpinned, q7⟩
   | ret v => obtain ⟨x7, σ7, H7, I7, r7, q7⟩ := q7; exact ⟨x7, σ7, H7, I7.unpinned, r7, q7⟩
end
end L2
namespace L2
open PySem PySem.Spec PyProof.Rows
noncomputable abbrev R2 := V → V → Hp → VK → Prop
noncomputable def OpR (X : Cx) (f : Value → Value → Sem Value) (r : R2) : Prop :=
 ∀ (pins : List (Addr × Obj)) (s : Shared) (σ : St) (H : Hp) (x y : V) (v u : Value) (Q : VK), Inv X pins σ H s → RelV x v → RelV y u → r x y H Q →
  wpAny (model X.prog X.w) X.A (f v u) (EP X pins σ Q) X.xe s
noncomputable def UnR (X : Cx) (f : Value → Sem Value) (r : V → Hp → VK → Prop) : Prop :=
 ∀ (pins : List (Addr × Obj)) (s : Shared) (σ : St) (H : Hp) (x : V) (v : Value) (Q : VK), Inv X pins σ H s → RelV x v → r x H Q →
  wpAny (model X.prog X.w) X.A (f v) (EP X pins σ Q) X.xe s
noncomputable def CallR (X : Cx) (f : Value) (r : List V → Hp → VK → Prop) : Prop :=
 ∀ (pins : List (Addr × Obj)) (s : Shared) (σ : St) (H : Hp) (xs : List V) (us : List Value) (Q : VK), Inv X pins σ H s → Vals xs us → r xs H Q →
  wpAny (model X.prog X.w) X.A (call f us) (EP X pins σ Q) X.xe s
noncomputable def tOp (r : R2) (ta tb : TE) : TE := fun σ H Q => ta σ H fun x H1 => tb σ H1 fun y H2 => r x y H2 Q
noncomputable def tUn (r : V → Hp → VK → Prop) (ta : TE) : TE := fun σ H Q => ta σ H fun x H1 => r x H1 Q
noncomputable def rI (C : Int → Int → Prop) (g : Int → Int → V) : R2 := fun x y H Q => ∃ i j, x = .int i ∧ y = .int j ∧ C i j ∧ Q (g i j) H
noncomputable def rI0 (g : Int → Int → V) : R2 := fun x y H Q => ∃ i j, x = .int i ∧ y = .int j ∧ Q (g i j) H
noncomputable def rU (g : Int → V) : V → Hp → VK → Prop := fun x H Q => ∃ i, x = .int i ∧ Q (g i) H
section
variable {X : Cx} {a b c : Expr} {ta tb tc : TE} {pos : Pos}
theorem binT (ha : PE X a ta) (hb : PE X b tb) {pins : List (Addr × Obj)} {s : Shared} {σ : St} {H : Hp} {R : V → V → Hp → Prop} (I : Inv X pins σ H s)
 (h : ta σ H fun x H1 => tb σ H1 fun y H2 => R x y H2) {Q : Value → Shared → Prop} {f : Value → Value → Sem Value}
 (hf : ∀ v u s2 x y H2, Inv X pins σ H2 s2 → RelV x v → RelV y u → R x y H2 → wpAny (model X.prog X.w) X.A (f v u) Q X.xe s2) :
 wpAny (model X.prog X.w) X.A (eval a X.env) (fun v s₁ => wpAny (model X.prog X.w) X.A (eval b X.env) (fun u s₂ => wpAny (model X.prog X.w) X.A (f v u) Q X.xe s₂) X.xe s₁) X.xe s := by
 refine thn (ha pins s σ H _ I h) fun v s1 hq0 => ?_
 obtain ⟨x, H1, I1, r1, q1⟩ := hq0
 refine thn (hb pins s1 σ H1 _ I1 q1) fun u s2 hq0 => ?_
 obtain ⟨y, H2, I2, r2, q2⟩ := hq0
 exact hf v u s2 x y H2 I2 r1 r2 q2
theorem pe_op {op : Operator} {r : R2} (ho : OpR X (binaryOp op) r) (ha : PE X a ta) (hb : PE X b tb) : PE X (.BinOp a op b pos) (tOp r ta tb) := by
 intro pins s σ H Q I h
 exact wpAny_BinOp (binT ha hb I h fun v u s2 x y H2 I2 rx ry q => ho pins s2 σ H2 x y v u Q I2 rx ry q)
theorem pe_un {op : UnaryOp} {r : V → Hp → VK → Prop} (ho : UnR X (unaryOp op) r) (ha : PE X a ta) : PE X (.UnaryOp op a pos) (tUn r ta) := by
 intro pins s σ H Q I h
 exact UnaryOp_ (thn (ha pins s σ H _ I h) fun v s1 ⟨x, H1, I1, r1, q1⟩ => ho pins s1 σ H1 x v Q I1 r1 q1)
theorem opI {f : Value → Value → Sem Value} {C : Int → Int → Prop} {g : Int → Int → Int}
 (rule : ∀ (i j : Int) (t u : Tok) (s : Shared) (Q : Value → Shared → Prop) (E : Value → Shared → Prop), C i j → Q (.int (g i j) s.toks) { s with toks := s.toks + 1 } → wpAny (model X.prog X.w) X.A (f (.int i t) (.int j u)) Q E s) :
 OpR X f (rI C fun i j => .int (g i j)) := by
 intro pins s σ H x y v u Q I rx ry h
 obtain ⟨i, j, rfl, rfl, hc, q⟩ := h
 obtain ⟨t, rfl⟩ := rx
 obtain ⟨t', rfl⟩ := ry
 exact rule i j t t' s _ _ hc ⟨.int (g i j), H, I.tok _, ⟨_, rfl⟩, q⟩
theorem opI0 {f : Value → Value → Sem Value} {g : Int → Int → Int}
 (rule : ∀ (i j : Int) (t u : Tok) (s : Shared) (Q : Value → Shared → Prop) (E : Value → Shared → Prop), Q (.int (g i j) s.toks) { s with toks := s.toks + 1 } → wpAny (model X.prog X.w) X.A (f (.int i t) (.int j u)) Q E s) :
 OpR X f (rI0 fun i j => .int (g i j)) := by
 intro pins s σ H x y v u Q I rx ry h
 obtain ⟨i, j, rfl, rfl, q⟩ := h
 obtain ⟨t, rfl⟩ := rx
 obtain ⟨t', rfl⟩ := ry
 exact rule i j t t' s _ _ ⟨.int (g i j), H, I.tok _, ⟨_, rfl⟩, q⟩
theorem opB0 {f : Value → Value → Sem Value} {g : Int → Int → Bool}
 (rule : ∀ (i j : Int) (t u : Tok) (s : Shared) (Q : Value → Shared → Prop) (E : Value → Shared → Prop), Q (.bool (g i j)) s → wpAny (model X.prog X.w) X.A (f (.int i t) (.int j u)) Q E s) :
 OpR X f (rI0 fun i j => .bl (g i j)) := by
 intro pins s σ H x y v u Q I rx ry h
 obtain ⟨i, j, rfl, rfl, q⟩ := h
 obtain ⟨t, rfl⟩ := rx
 obtain ⟨t', rfl⟩ := ry
 exact rule i j t t' s _ _ ⟨.bl (g i j), H, I, rfl, q⟩
noncomputable def CMul (i j : Int) : Prop := (-(2 ^ 64) < i ∧ i < 2 ^ 64) ∨ (-(2 ^ 64) < j ∧ j < 2 ^ 64)
theorem CMul.ok {i j : Int} (h : CMul i j) : IntMulOk i j := by
 rcases h with ⟨h1, h2⟩ | ⟨h1, h2⟩
 · exact .of_left (intBits_le_64 h1 h2)
 · exact .of_right (intBits_le_64 h1 h2)
theorem op_add : OpR X (binaryOp .Add) (rI0 fun i j => .int (i + j)) := opI0 fun _ _ _ _ _ _ _ q => add_int q
theorem yi3 : OpR X (binaryOp .Sub) (rI0 fun i j => .int (i - j)) := opI0 fun _ _ _ _ _ _ _ q => sub_int q
theorem op_mul : OpR X (binaryOp .Mult) (rI CMul fun i j => .int (i * j)) := opI fun _ _ _ _ _ _ _ hc q => mul_int q hc.ok
theorem op_modN : OpR X (binaryOp .Mod) (rI (fun _ j => j ≠ 0) fun i j => .int (i.fmod j)) := opI fun _ _ _ _ _ _ _ hc q => mod_int' hc q
theorem unI {f : Value → Sem Value} {g : Int → Int}
 (rule : ∀ (i : Int) (t : Tok) (s : Shared) (Q : Value → Shared → Prop) (E : Value → Shared → Prop), Q (.int (g i) s.toks) { s with toks := s.toks + 1 } → wpAny (model X.prog X.w) X.A (f (.int i t)) Q E s) :
 UnR X f (rU fun i => .int (g i)) := by
 intro pins s σ H x v Q I rx h
 obtain ⟨i, rfl, q⟩ := h
 obtain ⟨t, rfl⟩ := rx
 exact rule i t s _ _ ⟨.int (g i), H, I.tok _, ⟨_, rfl⟩, q⟩
theorem yk5 : UnR X (unaryOp .USub) (rU fun i => .int (-i)) := unI fun _ _ _ _ _ q => neg_int q
end
noncomputable def scal : V → V → Bool
 | .non, .non => true | .non, .int _ => true | .int _, .non => true | .non, .bl _ => true | .bl _, .non => true | .non, .str _ => true | .str _, .non => true
 | .int _, .int _ => true | .bl _, .bl _ => true | .str _, .str _ => true | .byt _, .byt _ => true
 | .int _, .str _ => true | .str _, .int _ => true | .bl _, .str _ => true | .str _, .bl _ => true
 | _, _ => false
noncomputable def rEq : R2 := fun x y H Q => scal x y = true ∧ Q (.bl (decide (x = y))) H
noncomputable def rNe : R2 := fun x y H Q => scal x y = true ∧ Q (.bl (!decide (x = y))) H
theorem dec_int {i j : Int} : decide (V.int i = V.int j) = (i == j) := by
 rw [Bool.eq_iff_iff]
 simp
theorem dec_bl {i j : Bool} : decide (V.bl i = V.bl j) = (i == j) := by
 rw [Bool.eq_iff_iff]
 simp
theorem dec_str {i j : Str} : decide (V.str i = V.str j) = (i == j) := by
 rw [Bool.eq_iff_iff]
 simp
theorem dec_byt {i j : Array UInt8} : decide (V.byt i = V.byt j) = (i.toList == j.toList) := by
 rw [Bool.eq_iff_iff]
 cases i
 cases j
 simp
section
variable {X : Cx} {a b c : Expr} {ta tb tc : TE} {pos : Pos}
theorem zh6 {pins : List (Addr × Obj)} {σ : St} {H : Hp} {s : Shared} {Q : VK} {k k' : Bool} (I : Inv X pins σ H s) (q : Q (.bl k) H) (e : k = k') : EP X pins σ Q (.bool k') s := by
 subst e
 exact ⟨.bl k, H, I, rfl, q⟩
theorem op_eq : OpR X (compareOp .Eq) rEq := by
 intro pins s σ H x y v u Q I rx ry h
 obtain ⟨hs, q⟩ := h
 cases x with
 | non =>
  cases rx
  cases y with
  | non => cases ry; exact PySem.EqNone.eq_none_none (zh6 I q (by simp))
  | bl j => cases ry; exact PySem.EqNone.eq_none_bool (zh6 I q (by simp))
  | int j => obtain ⟨t', rfl⟩ := ry; exact PySem.EqNone.eq_none_int (zh6 I q (by simp))
  | str j => obtain ⟨t', rfl⟩ := ry; exact PySem.EqNone.eq_none_str (zh6 I q (by simp))
  | _ => exact absurd (show false = true from hs) Bool.false_ne_true
 | bl i =>
  cases rx
  cases y with
  | non => cases ry; exact PySem.EqNone.eq_bool_none (zh6 I q (by simp))
  | bl j => cases ry; exact eq_bool (zh6 I q dec_bl)
  | str j => obtain ⟨t', rfl⟩ := ry; exact PySem.EqMixed.eq_bool_str (zh6 I q (by simp))
  | _ => exact absurd (show false = true from hs) Bool.false_ne_true
 | int i =>
  obtain ⟨t, rfl⟩ := rx
  cases y with
  | non => cases ry; exact PySem.EqNone.eq_int_none (zh6 I q (by simp))
  | int j => obtain ⟨t', rfl⟩ := ry; exact eq_int (zh6 I q dec_int)
  | str j => obtain ⟨t', rfl⟩ := ry; exact PySem.EqMixed.eq_int_str (zh6 I q (by simp))
  | _ => exact absurd (show false = true from hs) Bool.false_ne_true
 | str i =>
  obtain ⟨t, rfl⟩ := rx
  cases y with
  | non => cases ry; exact PySem.EqNone.eq_str_none (zh6 I q (by simp))
  | bl j => cases ry; exact PySem.EqMixed.eq_str_bool (zh6 I q (by simp))
  | int j => obtain ⟨t', rfl⟩ := ry; exact PySem.EqMixed.eq_str_int (zh6 I q (by simp))
  | str j => obtain ⟨t', rfl⟩ := ry; exact eq_str (zh6 I q dec_str)
  | _ => exact absurd (show false = true from hs) Bool.false_ne_true
 | byt i =>
  obtain ⟨t, rfl⟩ := rx
  cases y with
  | byt j => obtain ⟨t', rfl⟩ := ry; exact PySem.W.eq_bytes (zh6 I q dec_byt)
  | _ => exact absurd (show false = true from hs) Bool.false_ne_true
 | _ => cases y <;> exact absurd (show false = true from hs) Bool.false_ne_true
theorem op_ne : OpR X (compareOp .NotEq) rNe := by
 intro pins s σ H x y v u Q I rx ry h
 obtain ⟨hs, q⟩ := h
 cases x with
 | non =>
  cases rx
  cases y with
  | non => cases ry; exact PySem.EqNone.ne_none_none (zh6 I q (by simp))
  | bl j => cases ry; exact PySem.EqNone.ne_none_bool (zh6 I q (by simp))
  | int j => obtain ⟨t', rfl⟩ := ry; exact PySem.EqNone.ne_none_int (zh6 I q (by simp))
  | str j => obtain ⟨t', rfl⟩ := ry; exact PySem.EqNone.ne_none_str (zh6 I q (by simp))
  | _ => exact absurd (show false = true from hs) Bool.false_ne_true
 | bl i =>
  cases rx
  cases y with
  | non => cases ry; exact PySem.EqNone.ne_bool_none (zh6 I q (by simp))
  | bl j => cases ry; exact ne_bool (zh6 I q (congrArg not dec_bl))
  | str j => obtain ⟨t', rfl⟩ := ry; exact PySem.EqMixed.ne_bool_str (zh6 I q (by simp))
  | _ => exact absurd (show false = true from hs) Bool.false_ne_true
 | int i =>
  obtain ⟨t, rfl⟩ := rx
  cases y with
  | non => cases ry; exact PySem.EqNone.ne_int_none (zh6 I q (by simp))
  | int j => obtain ⟨t', rfl⟩ := ry; exact ne_int (zh6 I q (congrArg not dec_int))
  | str j => obtain ⟨t', rfl⟩ := ry; exact PySem.EqMixed.ne_int_str (zh6 I q (by simp))
  | _ => exact absurd (show false = true from hs) Bool.false_ne_true
 | str i =>
  obtain ⟨t, rfl⟩ := rx
  cases y with
  | non => cases ry; exact PySem.EqNone.ne_str_none (zh6 I q (by simp))
  | bl j => cases ry; exact PySem.EqMixed.ne_str_bool (zh6 I q (by simp))
  | int j => obtain ⟨t', rfl⟩ := ry; exact PySem.EqMixed.ne_str_int (zh6 I q (by simp))
  | str j => obtain ⟨t', rfl⟩ := ry; exact ne_str (zh6 I q (congrArg not dec_str))
  | _ => exact absurd (show false = true from hs) Bool.false_ne_true
 | byt i =>
  obtain ⟨t, rfl⟩ := rx
  cases y with
  | byt j => obtain ⟨t', rfl⟩ := ry; exact PySem.W.ne_bytes (zh6 I q (congrArg not dec_byt))
  | _ => exact absurd (show false = true from hs) Bool.false_ne_true
 | _ => cases y <;> exact absurd (show false = true from hs) Bool.false_ne_true
theorem op_gt : OpR X (compareOp .Gt) (rI0 fun i j => .bl (decide (j < i))) := opB0 fun _ _ _ _ _ _ _ q => gt_int q
theorem op_isN : OpR X (compareOp .Is) (fun x y H Q => y = .non ∧ Q (.bl (decide (x = .non))) H) := by
 intro pins s σ H x y v u Q I rx ry h
 obtain ⟨rfl, q⟩ := h
 cases ry
 refine is_none_gen (zh6 I q ?_)
 cases x <;> first
  | (cases rx; rfl)
  | (obtain ⟨t, rfl⟩ := rx; rfl)
theorem op_notN : OpR X (compareOp .IsNot) (fun x y H Q => y = .non ∧ Q (.bl (!decide (x = .non))) H) := by
 intro pins s σ H x y v u Q I rx ry h
 obtain ⟨rfl, q⟩ := h
 cases ry
 refine isnot_none_gen (zh6 I q ?_)
 cases x <;> first
  | (cases rx; rfl)
  | (obtain ⟨t, rfl⟩ := rx; rfl)
theorem OpR.or {f : Value → Value → Sem Value} {r r' : R2} (h : OpR X f r) (h' : OpR X f r') : OpR X f (fun x y H Q => r x y H Q ∨ r' x y H Q) := by
 intro pins s σ H x y v u Q I rx ry q
 rcases q with q | q
 · exact h pins s σ H x y v u Q I rx ry q
 · exact h' pins s σ H x y v u Q I rx ry q
theorem zc4 (b : Expr) {op : CmpOp} (h : op ≠ .In := by decide) (h2 : op ≠ .NotIn := by decide) : behindInMarks op b = false := by
 have e1 : (op == CmpOp.In) = false := by cases op <;> first | rfl | exact absurd rfl h
 have e2 : (op == CmpOp.NotIn) = false := by cases op <;> first | rfl | exact absurd rfl h2
 cases b <;> simp [behindInMarks, e1, e2]
theorem pe_cmpR {op : CmpOp} {r : R2} (ho : OpR X (compareOp op) r) (ha : PE X a ta) (hb : PE X b tb) (hm : behindInMarks op b = false) : PE X (.Compare a [op] [b] pos) (tOp r ta tb) := by
 intro pins s σ H Q I h
 exact wpAny_Compare1 (binT ha hb I h fun v u s2 x y H2 I2 rx ry q => ho pins s2 σ H2 x y v u Q I2 rx ry q) hm
noncomputable def tTest (t : TE) : TT := fun σ H Q => t σ H fun x H' => ∃ k, x = .bl k ∧ Q k H'
theorem zb7 {op : CmpOp} {r : R2} (ho : OpR X (compareOp op) r) (ha : PE X a ta) (hb : PE X b tb) (hm : behindInMarks op b = false) : PT X (.Compare a [op] [b] pos) (tTest (tOp r ta tb)) := by
 intro pins s σ H Q I h
 refine wpAny_isTrue_Compare1 (thn (ha pins s σ H _ I h) fun v s1 ⟨x, H1, I1, r1, q1⟩ => thn (hb pins s1 σ H1 _ I1 q1) fun u s2 ⟨y, H2, I2, r2, q2⟩ =>
  thn (ho pins s2 σ H2 x y v u _ I2 r1 r2 q2) fun c s3 ⟨z, H3, I3, r3, k, e, q3⟩ => ?_) hm
 subst e
 cases r3
 exact wpAny_truthy_bool ⟨H3, I3, q3⟩
theorem yf0 : (sizeLine : Nat) < 2 ^ 63 := by rw [sizeLine_eq]; decide
theorem op_add_str : OpR X (binaryOp .Add) (fun x y H Q => ∃ i j, x = .str i ∧ y = .str j ∧ i.length + j.length ≤ sizeLine ∧ Q (.str (i ++ j)) H) := by
 intro pins s σ H x y v u Q I rx ry h
 obtain ⟨i, j, rfl, rfl, hz, q⟩ := h
 obtain ⟨t, rfl⟩ := rx
 obtain ⟨t', rfl⟩ := ry
 exact add_str (fun t' tk => ⟨.str (i ++ j), H, I.tok _, ⟨_, rfl⟩, q⟩) hz
theorem vals1 {x : V} {us : List Value} (r : Vals [x] us) : ∃ u, us = [u] ∧ RelV x u := by
 cases r with
 | cons r1 r2 => cases r2; exact ⟨_, rfl, r1⟩
end
end L2
namespace L2
open PySem PySem.Spec PyProof.Rows
structure ObjM (h : Heap) (x dx C : Addr) (mA : Str → Option Value) : Prop where
 obj : h.get? x = some (PySem.W.instObj C dx)
 ns : h.Ns1 dx mA
 ne : dx ≠ x
theorem lookIn_ns {h : Heap} {dx : Addr} {mA : Str → Option Value} (n : h.Ns1 dx mA) : ∃ od, h.get? dx = some od ∧ ∀ name, PySem.W.lookIn name od = some (mA name) := by
 obtain ⟨o, es, ep, ho, hd, hk, _, hm⟩ := n
 refine ⟨o, ho, fun name => ?_⟩
 have e := hm name
 unfold nsFind findBy at e
 rw [← Array.find?_toList] at e
 unfold PySem.W.lookIn
 rw [hd]
 dsimp only
 split
 · rename_i y q
   rw [q] at e
   exact congrArg some e
 · rename_i q
   rw [q] at e
   have a : es.toList.any (·.refKey) = false := by
    rw [List.any_eq_false]
    intro y hy
    obtain ⟨z, t, hkey⟩ := hk y (Array.mem_toList_iff.mp hy)
    simp [DictEntry.refKey, hkey]
   have a' : ¬ es.toList.any (·.refKey) = true := by rw [a]; exact Bool.false_ne_true
   rw [if_neg a']
   exact congrArg some e
theorem ObjM.look {h : Heap} {x dx C : Addr} {mA : Str → Option Value} (I : ObjM h x dx C mA) : ∃ od, PySem.W.InstAt h x (PySem.W.instObj C dx) C (some od) ∧ ∀ name, PySem.W.lookIn name od = some (mA name) :=
 let ⟨od, ho, hl⟩ := lookIn_ns I.ns
 ⟨od, ⟨I.obj, rfl, rfl, ho⟩, hl⟩
section
variable {prog : Program} {w : World} {A : Around} {E : Value → Shared → Prop} {s : Shared} {K : PySem.W.Frag} {x dx C f : Addr} {mA : Str → Option Value} {name : Str} {v : Value}
theorem get_map {expr : Bool} {Q : Value → Shared → Prop} (X : K.In s.heap) (I : ObjM s.heap x dx C mA) (hg : PySem.W.plainGet K C name = true) (hh : PySem.W.hasDictIn K C = true)
 (ha : PySem.W.findIn K (.ref C) name = some none) (hv : mA name = some v) (hv' : PySem.W.handedIn v = true) (h : Q v { s with toks := s.toks + 1 }) :
 wpAny (model prog w) A (getAttr (.ref x) name expr) Q E s := by
 obtain ⟨od, J, hl⟩ := I.look
 exact PySem.W.get_value X J (PySem.W.plainGet_of hg).1 (PySem.W.findObj_own hh ha rfl (by rw [hl, hv])) hv' h
theorem get_meth {pl : Sem Bool} {Q : Value × List Value → Shared → Prop} (X : K.In s.heap) (I : ObjM s.heap x dx C mA) (hg : PySem.W.plainGet K C name = true)
 (hf : PySem.W.findIn K (.ref C) name = some (some (.ref f))) (ht : PySem.W.isFn K (.ref f) = true) (hv : mA name = none) (h : Q (.ref f, [.ref x]) s) :
 wpAny (model prog w) A (getMethod (.ref x) name pl) Q E s := by
 obtain ⟨od, J, hl⟩ := I.look
 exact PySem.W.method_fn X J (PySem.W.plainGet_of hg).1 (PySem.W.plainGet_of hg).2 hf (beq_iff_eq.mp ht) (by show (PySem.W.lookIn name od).map (·.isSome) = some false; rw [hl, hv]; rfl) h
theorem set_map {ns : List Str} {Q : Unit → Shared → Prop} (X : K.In s.heap) (I : ObjM s.heap x dx C mA)
 (hs : PySem.W.findIn K (.ref C) "__setattr__" = some (some (.builtin "object.__setattr__"))) (hp : PySem.W.plainOver K C = true) (ht : PySem.W.takerIn K C name = some none) (hh : PySem.W.hasDictIn K C = true)
 (hw : PySem.Within mA ns) (hsz : ns.length ≤ sizeLine)
 (h : ∀ h', ObjM h' x dx C (fun y => if y = name then some v else mA y) → Heap.SameBut dx s.heap h' → Q () { s with heap := h', toks := s.toks + 2 }) :
 wpAny (model prog w) A (setAttr (.ref x) name v) Q E s := by
 obtain ⟨od, J, hl⟩ := I.look
 refine PySem.W.set_plain X J hs (PySem.W.osa_open (s := { s with toks := s.toks + 1 }) (r := none) X J hp ht fun b => ?_)
 obtain ⟨cd, hc, hd'⟩ := PySem.W.any_some hh
 have hx : s.heap.get? x = some ⟨.ref C, some dx, .plain, #[]⟩ := I.obj
 refine wpAny_bind (wpAny_pure (wpAny_bind (wpAny_bind (wpAny_loadPart hx (wpAny_bind (PySem.W.Looks.here (s := { s with toks := s.toks + 1 }) (PySem.W.looks_clsIn X hc) ?_))))))
 rw [hd']
 refine wpAny_pure (a := some dx) (wpAny_bind (wpAny_pure (wpAny_bind ?_)))
 refine wpAny_nsSet1 (s := { s with toks := s.toks + 1 }) I.ns fun h' hn2 hs2 => ?_
 obtain ⟨oD, esD, epD, hoD, hdD, hcD⟩ := hn2.count (PySem.Within.cons name v hw)
 refine wpAny_bind (wpAny_lookBehind hoD (by rw [hdD]; exact pastItsLine_dict (Nat.le_trans hcD (by rw [List.length_cons]; omega))) ?_)
 exact wpAny_pure (h _ ⟨(hs2.2 _ (Ne.symm I.ne)).trans I.obj, hn2, I.ne⟩ hs2)
theorem make_map {R : Result → Shared → Prop} {vs : List Value} {kw : List (Str × Value)} (X : K.In s.heap) (hm : PySem.W.makesIn K C = true)
 (hi : PySem.W.findIn K (.ref C) "__init__" = some (some (.ref f))) (hf : PySem.W.typeIn K (.ref f) = some (.type "function"))
 (h : codeAny (model prog w) (A.under (.builtin "type.__call__" ⟨.ref C :: vs, kw⟩)) (.call (.ref f) ⟨.ref (s.heap.objs.size + 1) :: vs, kw⟩) (PySem.W.InitBack (s.heap.objs.size + 1) R)
  { s with heap := (s.heap.push PySem.W.emptyDict).push (PySem.W.instObj C s.heap.objs.size) }) :
 codeAny (model prog w) A (.call (.ref C) ⟨vs, kw⟩) R s := by
 obtain ⟨hh, g, d, t, os⟩ := s
 exact PySem.W.make_core (PySem.W.makes_of X hm) (PySem.W.looks_findIn X hi) (fun self => PySem.W.bind_fn X self hf) (.inl rfl) h
end
noncomputable def putF (f : Str) (v : V) : List (Str × V) → List (Str × V)
 | [] => [(f, v)]
 | (g, x) :: r => if g = f then (g, v) :: r else (g, x) :: putF f v r
theorem lookup_putF (f g : Str) (v : V) : ∀ fs : List (Str × V), (putF f v fs).lookup g = if g = f then some v else fs.lookup g
 | [] => by
  show List.lookup g [(f, v)] = _
  by_cases h : g = f
  · have hb : (g == f) = true := beq_iff_eq.mpr h
    simp only [List.lookup, hb, if_pos h]
  · have hb : (g == f) = false := beq_eq_false_iff_ne.mpr h
    simp only [List.lookup, hb, if_neg h]
 | (k, x) :: r => by
  have ih := lookup_putF f g v r
  rw [show putF f v ((k, x) :: r) = (if k = f then (k, v) :: r else (k, x) :: putF f v r) from rfl]
  by_cases hk : k = f
  · rw [if_pos hk]
    by_cases h : g = k
    · have hb : (g == k) = true := beq_iff_eq.mpr h
      simp only [List.lookup, hb, if_pos (h.trans hk)]
    · have hb : (g == k) = false := beq_eq_false_iff_ne.mpr h
      simp only [List.lookup, hb, if_neg (fun e : g = f => h (e.trans hk.symm))]
  · rw [if_neg hk]
    by_cases h : g = k
    · have hb : (g == k) = true := beq_iff_eq.mpr h
      simp only [List.lookup, hb, if_neg (fun e : g = f => hk (h.symm.trans e))]
    · have hb : (g == k) = false := beq_eq_false_iff_ne.mpr h
      simp only [List.lookup, hb]
      exact ih
theorem zz5 (f : Str) (v : V) : ∀ fs : List (Str × V), f ∈ (putF f v fs).map (·.1) ∧ ∀ g, g ∈ fs.map (·.1) → g ∈ (putF f v fs).map (·.1)
 | [] => ⟨by simp [putF], fun g h => by simp at h⟩
 | (k, x) :: r => by
  obtain ⟨i1, i2⟩ := zz5 f v r
  rw [show putF f v ((k, x) :: r) = (if k = f then (k, v) :: r else (k, x) :: putF f v r) from rfl]
  by_cases hk : k = f
  · rw [if_pos hk]
    subst hk
    exact ⟨by simp, fun g h => by simpa using h⟩
  · rw [if_neg hk]
    refine ⟨?_, fun g h => ?_⟩
    · rw [List.map_cons]
      exact List.mem_cons_of_mem _ i1
    · rw [List.map_cons] at h ⊢
      rcases List.mem_cons.mp h with e | e
      · exact List.mem_cons.mpr (.inl e)
      · exact List.mem_cons_of_mem _ (i2 g e)
theorem length_putF (f : Str) (v : V) : ∀ fs : List (Str × V), (putF f v fs).length ≤ fs.length + 1
 | [] => by simp [putF]
 | (k, x) :: r => by
  have ih := length_putF f v r
  rw [show putF f v ((k, x) :: r) = (if k = f then (k, v) :: r else (k, x) :: putF f v r) from rfl]
  by_cases hk : k = f
  · rw [if_pos hk, List.length_cons, List.length_cons]; omega
  · rw [if_neg hk, List.length_cons, List.length_cons]; omega
theorem RelO.some_of {v : V} {o : Option Value} (r : RelO (some v) o) : ∃ u, o = some u ∧ RelV v u := by
 cases o with
 | none => exact (show False from r).elim
 | some u => exact ⟨u, rfl, r⟩
theorem RelO.none_of {o : Option Value} (r : RelO none o) : o = none := by
 cases o with
 | none => rfl
 | some u => exact (show False from r).elim
theorem handed_of {v : V} {u : Value} (r : RelV v u) : PySem.W.handedIn u = true := by
 cases v with
 | non => cases (show u = Value.none from r); rfl
 | bl b => cases (show u = Value.bool b from r); rfl
 | int i => obtain ⟨t, e⟩ := (show ∃ t, u = Value.int i t from r); cases e; rfl
 | str x => obtain ⟨t, e⟩ := (show ∃ t, u = Value.str x t from r); cases e; rfl
 | byt b => obtain ⟨t, e⟩ := (show ∃ t, u = Value.bytes b t from r); cases e; rfl
 | flt b => obtain ⟨t, e⟩ := (show ∃ t, u = Value.float b t from r); cases e; rfl
 | ref a => cases (show u = Value.ref a from r); rfl
 | ty n => cases (show u = Value.type n from r); rfl
section
variable {P : Program} {w : World} {H H' : Hp} {h h' : Heap} {a C dx : Addr} {fs fs' : List (Str × V)}
theorem yg7 (hok : HOk P w H h) (e : H a = some (.ins C dx fs)) : ∃ mA, ObjM h a dx C mA ∧ (∀ f, RelO (fs.lookup f) (mA f)) ∧ PySem.Within mA (fs.map (·.1)) ∧ fs.length ≤ 1000 ∧ H dx = some (.own a) := by
 obtain ⟨d, z, ne, ob, mA, n, r, q⟩ := (show ObjOk P w H h a (.ins C dx fs) from hok a _ e)
 exact ⟨mA, ⟨ob, n, ne⟩, r, q, z, d⟩
end
structure Cls (K : PySem.W.Frag) (C : Addr) : Prop where
 pg : PySem.W.plainGet K C Str.empty = true
 hd : PySem.W.hasDictIn K C = true
 po : PySem.W.plainOver K C = true
 sa : PySem.W.findIn K (.ref C) "__setattr__" = some (some (.builtin "object.__setattr__"))
theorem Cls.get {K : PySem.W.Frag} {C : Addr} (c : Cls K C) (f : Str) : PySem.W.plainGet K C f = true := c.pg
noncomputable def NoAttr (K : PySem.W.Frag) (C : Addr) (f : Str) : Prop := PySem.W.findIn K (.ref C) f = some none
theorem NoAttr.taker {K : PySem.W.Frag} {C : Addr} {f : Str} (n : NoAttr K C f) : PySem.W.takerIn K C f = some none := by
 unfold PySem.W.takerIn
 rw [show PySem.W.findIn K (.ref C) f = some none from n]
 rfl
structure Meth (K : PySem.W.Frag) (C : Addr) (m : Str) (f : Addr) : Prop where
 at_ : PySem.W.findIn K (.ref C) m = some (some (.ref f))
 fn : PySem.W.isFn K (.ref f) = true
 kp : PySem.W.keepIn K (.ref f) = true
section
variable {X : Cx} {pins : List (Addr × Obj)} {σ : St} {H : Hp} {s : Shared} {a C dx : Addr} {fs : List (Str × V)} {f : Str} {v : V} {A : Around} {E : Value → Shared → Prop}
theorem getattr_ok {b : Bool} {Q : Value → Shared → Prop} (I : Inv X pins σ H s) (e : H a = some (.ins C dx fs)) (c : Cls X.K C) (n : NoAttr X.K C f) (l : fs.lookup f = some v)
 (h : ∀ u s', Inv X pins σ H s' → RelV v u → Q u s') : wpAny (model X.prog X.w) A (getAttr (.ref a) f b) Q E s := by
 obtain ⟨mA, O, r, _, _, _⟩ := yg7 I.hok e
 obtain ⟨u, hu, ru⟩ := RelO.some_of (v := v) (o := mA f) (by rw [← l]; exact r f)
 exact get_map I.kIn O (c.get f) c.hd n hu (handed_of ru) (h u _ (I.tok _) ru)
theorem getmeth_ok {m : Str} {g : Addr} {pl : Sem Bool} {Q : Value × List Value → Shared → Prop} (I : Inv X pins σ H s) (e : H a = some (.ins C dx fs)) (c : Cls X.K C) (k : Meth X.K C m g) (l : fs.lookup m = none)
 (h : Q (.ref g, [.ref a]) s) : wpAny (model X.prog X.w) A (getMethod (.ref a) m pl) Q E s := by
 obtain ⟨mA, O, r, _, _, _⟩ := yg7 I.hok e
 have hn : mA m = none := RelO.none_of (by rw [← l]; exact r m)
 exact get_meth I.kIn O (c.get m) k.at_ k.fn hn h
theorem setattr_ok {y : V} {u : Value} {Q : Unit → Shared → Prop} (I : Inv X pins σ H s) (e : H a = some (.ins C dx fs)) (c : Cls X.K C) (n : NoAttr X.K C f) (hl : fs.length < 1000) (ry : RelV y u)
 (h : ∀ s', Inv X pins σ (upd H a (.ins C dx (putF f y fs))) s' → Q () s') : wpAny (model X.prog X.w) A (setAttr (.ref a) f u) Q E s := by
 obtain ⟨mA, O, r, wi, _, ho⟩ := yg7 I.hok e
 have hz : (fs.map (·.1)).length ≤ sizeLine := by rw [List.length_map, sizeLine_eq]; omega
 refine set_map I.kIn O c.sa c.po n.taker c.hd wi hz fun h' O' sb => h _ ?_
 have hd : ∃ o, h'.get? dx = some o := let ⟨o, _, _, e', _⟩ := O'.ns; ⟨o, e'⟩
 refine I.write (x := a) (e := dx) (by rw [e]; exact True.intro) (.inr ho) (fun b q hb z => (sb.2 b hb).trans z) hd ?_
 refine ⟨by rw [zd9 O.ne]; exact ho, ?_, O.ne, O'.obj, _, O'.ns, fun g => ?_, fun g hg => ?_⟩
 · have := length_putF f y fs; omega
 · show RelO ((putF f y fs).lookup g) (if g = f then some u else mA g)
   rw [lookup_putF]
   by_cases q : g = f
   · rw [if_pos q, if_pos q]; exact ry
   · rw [if_neg q, if_neg q]; exact r g
 · by_cases q : g = f
   · rw [q]; exact (zz5 f y fs).1
   · refine (zz5 f y fs).2 g (wi g fun z => hg ?_)
     show (if g = f then some u else mA g) = none
     rw [if_neg q]; exact z
theorem Inv.made (I : Inv X pins σ H s) : Inv X pins σ (upd (upd H s.heap.objs.size (.own (s.heap.objs.size + 1))) (s.heap.objs.size + 1) (.ins C s.heap.objs.size []))
 { s with heap := (s.heap.push PySem.W.emptyDict).push (PySem.W.instObj C s.heap.objs.size) } := by
 have e1 : (s.heap.push PySem.W.emptyDict).get? s.heap.objs.size = some PySem.W.emptyDict := Heap.get?_push_size s.heap rfl
 have e2 : ((s.heap.push PySem.W.emptyDict).push (PySem.W.instObj C s.heap.objs.size)).get? (s.heap.objs.size + 1) = some (PySem.W.instObj C s.heap.objs.size) := by
  have := Heap.get?_push_size (s.heap.push PySem.W.emptyDict) (o := PySem.W.instObj C s.heap.objs.size) rfl
  rwa [Heap.size_push] at this
 have e3 : (s.heap.push PySem.W.emptyDict).Ns s.heap.objs.size (fun _ => none) := ⟨PySem.W.emptyDict, #[], _, e1, rfl, (fun e he => absurd he (by simp)), fun _ => rfl⟩
 have I1 := I.laid (a := s.heap.objs.size) (o := .own (s.heap.objs.size + 1)) (h' := s.heap.push PySem.W.emptyDict) (t' := s.toks) (fun b u q => Heap.get?_push_of_some _ q) (Nat.le_refl _) ⟨_, e1⟩
 refine I1.laid (a := s.heap.objs.size + 1) (o := .ins C s.heap.objs.size []) (t' := s.toks) (fun b u q => Heap.get?_push_of_some _ q) (Nat.le_of_eq (Heap.size_push _ _)) ?_
 have ne : s.heap.objs.size ≠ s.heap.objs.size + 1 := Nat.ne_of_lt (Nat.lt_succ_self _)
 refine ⟨by rw [zd9 ne, zd1], Nat.zero_le _, ne, e2, fun _ => none, (Heap.Ns1.of_empty e3).at fun o q => Heap.get?_push_of_some _ q, fun _ => True.intro, fun y hy => absurd rfl hy⟩
theorem attr_of {prog : Program} {w : World} {env : Env} {e : Expr} {f : Str} {pos : Pos} {s : Shared} {Q : Value → Shared → Prop} (hb : attributeBase e f env (eval e env) = eval e env)
 (h : wpAny (model prog w) A (eval e env) (fun o s₁ => wpAny (model prog w) A (getAttr o f true) Q E s₁) E s) : wpAny (model prog w) A (eval (.Attribute e f pos) env) Q E s :=
 Attribute_any_ h (by rw [arm_eval_Attribute, hb])
end
noncomputable def tFld (K : PySem.W.Frag) (ta : TE) (f : Str) : TE := fun σ H Q => ta σ H fun x H1 => ∃ a C dx fs v, x = .ref a ∧ H1 a = some (.ins C dx fs) ∧ Cls K C ∧ NoAttr K C f ∧ fs.lookup f = some v ∧ Q v H1
noncomputable def sFld (K : PySem.W.Frag) (ta tv : TE) (f : Str) : TS := fun D σ H => tv σ H fun y H1 => ta σ H1 fun x H2 => ∃ a C dx fs, x = .ref a ∧ H2 a = some (.ins C dx fs) ∧ Cls K C ∧ NoAttr K C f ∧ fs.length < 1000 ∧
 D.nx σ (upd H2 a (.ins C dx (putF f y fs)))
section
variable {X : Cx} {o e value : Expr} {f : Str} {pos pos' tpos : Pos} {ta tv : TE}
theorem pe_fld (he : PE X e ta) (hb : attributeBase e f X.env (eval e X.env) = eval e X.env) : PE X (.Attribute e f pos) (tFld X.K ta f) := by
 intro pins s σ H Q I h
 refine attr_of hb (thn (he pins s σ H _ I h) fun u s1 hq0 => ?_)
 obtain ⟨x, H1, I1, rx, a, C, dx, fs, v, ex, ea, c, n, l, q⟩ := hq0
 subst ex
 obtain rfl : u = Value.ref a := rx
 exact getattr_ok I1 ea c n l fun u' s2 I2 ru => ⟨v, H1, I2, ru, q⟩
theorem yb6 (ha : PE X o ta) (hv : PE X value tv) (hs : swapsWith value (some (.Attribute o f pos')) pos.line X.env = pure false) : PS X (.Assign [.Attribute o f pos'] value pos) (sFld X.K ta tv f) := by
 intro pins s σ H D I h
 refine plainObj_wpAny_Assign_Attribute (thn (hv pins s σ H _ I h) fun u s1 ⟨y, H1, I1, ry, q⟩ => thn (ha pins s1 σ H1 _ I1 q) fun ov s2 hq0 => ?_) hs
 obtain ⟨x, H2, I2, rx, a, C, dx, fs, ex, ea, c, n, l, q2⟩ := hq0
 subst ex
 obtain rfl : ov = Value.ref a := rx
 exact setattr_ok I2 ea c n l ry fun s3 I3 => ⟨σ, _, I3, q2⟩
end
section
variable {X : Cx} {pins : List (Addr × Obj)} {σ : St} {H : Hp} {s : Shared} {A : Around} {E : Value → Shared → Prop} {Q : Value → Shared → Prop} {c : Value} {b : Bool}
end
end L2
namespace L2
open PySem PySem.Spec PyProof.Rows
structure Room (k : Nat) (A : Around) : Prop where
 hd : A.handled = none
 dp : A.depth + 3 * k + 5 < recursionLimit
 un : A.units + 16 * k + 200 < cLine
theorem Room.mono {j k : Nat} {A : Around} (r : Room k A) (h : j ≤ k) : Room j A := ⟨r.hd, by have := r.dp; omega, by have := r.un; omega⟩
theorem Room.deeper {k : Nat} {A : Around} (r : Room (k + 1) A) (env : Env) : Room k (A.deeper env) :=
 ⟨r.hd, by have := r.dp; show A.depth + 1 + 3 * k + 5 < _; omega, by have := r.un; show A.units + 3 + 16 * k + 200 < _; omega⟩
theorem make_depth {A : Around} {C : Addr} {us : List Value} {kw : List (Str × Value)} : (A.under (.builtin "type.__call__" ⟨.ref C :: us, kw⟩)).depth = A.depth + 1 := by
 first | rfl | simp [Around.under, Code.weight, Code.isCreation, Code.isGuard, Code.isCaller, Code.frames, Code.isFrame, guardIds]
theorem make_units {A : Around} {C : Addr} {us : List Value} {kw : List (Str × Value)} : (A.under (.builtin "type.__call__" ⟨.ref C :: us, kw⟩)).units = A.units + 1 := by
 first | rfl | simp [Around.under, Code.cUnits, Code.frames, Code.isFrame]
theorem Room.make {k : Nat} {A : Around} (r : Room (k + 1) A) (C : Addr) (us : List Value) (kw : List (Str × Value)) : Room k (A.under (.builtin "type.__call__" ⟨.ref C :: us, kw⟩)) :=
 ⟨r.hd, by have := r.dp; rw [make_depth]; omega, by have := r.un; rw [make_units]; omega⟩
theorem Room.depth {k : Nat} {A : Around} (r : Room k A) : A.depth < recursionLimit := by have := r.dp; omega
theorem Room.units {k : Nat} {A : Around} (r : Room k A) : A.units + 64 < cLine := by have := r.un; omega
noncomputable def tNil : TA := fun _ H Q => Q [] H
noncomputable def tCons (ta : TE) (tr : TA) : TA := fun σ H Q => ta σ H fun x H1 => tr σ H1 fun xs H2 => Q (x :: xs) H2
section
variable {X : Cx} {e : Expr} {es : List Expr} {te : TE} {t : TA} {pos : Pos}
theorem za3 : PA X [] tNil := fun _ _ _ _ H Q I h => Calls.spliced_nil ⟨[], H, I, .nil, h⟩
theorem za0 (ha : PE X e te) (hr : PA X es t) (hs : starEach (e :: es) X.env = (false, eval e X.env) :: starEach es X.env := by rfl) : PA X (e :: es) (tCons te t) := by
 intro pos pins s σ H Q I h
 rw [hs]
 show wpAny _ _ (spliced ((false, eval e X.env) :: backTo pos (starEach es X.env))) _ _ s
 refine Calls.spliced_cons (thn (ha pins s σ H _ I h) fun u s1 hq0 => ?_)
 obtain ⟨x, H1, I1, r1, q1⟩ := hq0
 exact thn (hr pos pins s1 σ H1 _ I1 q1) fun us s2 ⟨xs, H2, I2, r2, q2⟩ => ⟨x :: xs, H2, I2, .cons r1 r2, q2⟩
end
noncomputable abbrev Sp := List V → Hp → VK → XK → Prop
noncomputable abbrev CXT := List Env → Hp → Shared → XK → Value → Shared → Prop
structure Env0 (P : Program) (w : World) (K : PySem.W.Frag) (mg : Str → Option Value) (base : Heap) (A : Around) (outer : List Env) (s : Shared) (H : Hp) : Prop where
 frames : A.frames = some outer
 mod : Mod K mg base
 bs : ∀ b o, base.get? b = some o → s.heap.get? b = some o ∧ H b = none
 bsz : base.objs.size ≤ s.heap.objs.size
 funs : s.heap.FunFrames base outer
 frf : ∀ b ∈ frs outer, H b = none
 hok : HOk P w H s.heap
 bare : AllBare s.gens
noncomputable def CE (outer : List Env) (P : Program) (w : World) (H : Hp) (s : Shared) (Q : VK) (u : Value) (s' : Shared) : Prop :=
 ∃ v H', s'.os = s.os ∧ AllBare s'.gens ∧ Un (frs outer) [] H H' s.heap s'.heap ∧ HOk P w H' s'.heap ∧ RelV v u ∧ Q v H'
noncomputable def CR (CX : CXT) (outer : List Env) (P : Program) (w : World) (H : Hp) (s : Shared) (Q : VK) (E : XK) (r : Result) (s' : Shared) : Prop :=
 match r with
 | .ok (.ret u) => CE outer P w H s Q u s'
 | .ok _ => False
 | .error e => CX outer H s E e s'
structure FnOk (P : Program) (w : World) (K : PySem.W.Frag) (mg : Str → Option Value) (base : Heap) (CX : CXT) (k : Nat) (f : Addr) (fd : FuncData) (ps : List Str) (sp : Sp) : Prop where
 len : ∀ vs H Q E, sp vs H Q E → vs.length = ps.length
 run : ∀ (A : Around) (outer : List Env) (s : Shared) (H : Hp) (args : Args) (us : List Value) (vs : List V) (Q : VK) (E : XK), Room k A → Env0 P w K mg base A outer s H → BindsTo s fd args (ps.zip us) → Vals vs us → sp vs H Q E →
  codeAny (model P w) A (.call (.ref f) args) (CR CX outer P w H s Q E) s
theorem FnOk.mono {P : Program} {w : World} {K : PySem.W.Frag} {mg : Str → Option Value} {base : Heap} {CX : CXT} {j k : Nat} {f : Addr} {fd : FuncData} {ps : List Str} {sp : Sp} (F : FnOk P w K mg base CX j f fd ps sp) (h : j ≤ k) :
 FnOk P w K mg base CX k f fd ps sp := ⟨F.len, fun A outer s H args us vs Q E hr => F.run A outer s H args us vs Q E (hr.mono h)⟩
theorem Env0.make {P : Program} {w : World} {K : PySem.W.Frag} {mg : Str → Option Value} {base : Heap} {A : Around} {outer : List Env} {s : Shared} {H : Hp} (e : Env0 P w K mg base A outer s H) (C : Addr) (us : List Value) (kw : List (Str × Value)) :
 Env0 P w K mg base (A.under (.builtin "type.__call__" ⟨.ref C :: us, kw⟩)) outer s H := ⟨by first | exact e.frames | (simpa [Around.under, Code.envs, Code.isFrame, pushEnvs] using e.frames), e.mod, e.bs, e.bsz, e.funs, e.frf, e.hok, e.bare⟩
section
variable {X : Cx} {pins : List (Addr × Obj)} {σ : St} {H : Hp} {s s' : Shared}
theorem Inv.env0 (I : Inv X pins σ H s) : Env0 X.prog X.w X.K X.mg X.base X.A X.stack s H :=
 ⟨I.ok.frames, I.ok.mod, I.bs, Nat.le_trans I.ok.bsz I.sz, I.stack, I.stkFree, I.hok, I.bare⟩
theorem Inv.after {Q : VK} {u : Value} (I : Inv X pins σ H s) (h : CE X.stack X.prog X.w H s Q u s') : EP X pins σ Q u s' := by
 obtain ⟨v, H', os, bare, un, hok, r, q⟩ := h
 obtain ⟨hh, g, d, t, os'⟩ := s'
 obtain rfl : os' = s.os := os
 exact ⟨v, H', I.call (h' := hh) (g' := g) (d' := d) (t' := t) (ch := []) un hok bare (fun b z => absurd z (by simp)), r, q⟩
end
noncomputable def tCall (sp : Sp) (dvs : List V) (E : XK) (t : TA) : TE := fun σ H Q => t σ H fun vs H1 => sp (vs ++ dvs) H1 Q E
noncomputable def tMeth (C : Addr) (m : Str) (sp : Sp) (dvs : List V) (E : XK) (ta : TE) (t : TA) : TE := fun σ H Q => ta σ H fun x H1 => ∃ a dx fs, x = .ref a ∧ H1 a = some (.ins C dx fs) ∧ fs.lookup m = none ∧
 t σ H1 fun vs H2 => sp (x :: (vs ++ dvs)) H2 Q E
noncomputable def tMake (C : Addr) (sp : Sp) (dvs : List V) (E : XK) (t : TA) : TE := fun σ H Q => t σ H fun vs H1 => ∀ x dx, H1 x = none → H1 dx = none → dx ≠ x →
 sp (.ref x :: (vs ++ dvs)) (upd (upd H1 dx (.own x)) x (.ins C dx [])) (fun v H2 => v = .non ∧ Q (.ref x) H2) E
noncomputable def Binds (K : PySem.W.Frag) (fd : FuncData) (ps : List Str) (ds : List Value) : Prop :=
 ∀ (s : Shared) (us : List Value), K.In s.heap → (us ++ ds).length = ps.length → BindsTo s fd ⟨us, []⟩ (ps.zip (us ++ ds))
theorem Binds.all {K : PySem.W.Frag} {fd : FuncData} {ps : List Str} (h : ∀ us : List Value, us.length = ps.length → bindArgs fd ⟨us, []⟩ = pure (ps.zip us)) : Binds K fd ps [] := fun s us _ hl => by
 rw [List.append_nil] at hl ⊢
 exact .of_eq (h us hl)
noncomputable def ya1 (CX : CXT) (X : Cx) (E : XK) : Prop := ∀ (pins : List (Addr × Obj)) (σ : St) (H : Hp) (s : Shared) (e : Value) (s' : Shared), Inv X pins σ H s → CX X.stack H s E e s' → X.xe e s'
section
variable {X : Cx} {CX : CXT} {k : Nat} {f C : Addr} {fd : FuncData} {ps : List Str} {sp : Sp} {dvs : List V} {ds : List Value} {E : XK} {x m : Str} {p pos apos : Pos} {e o : Expr} {es : List Expr} {ta : TE} {t : TA}
theorem yk1 {pins : List (Addr × Obj)} {σ : St} {H : Hp} {s : Shared} {Q : VK} {us : List Value} {vs : List V} (F : FnOk X.prog X.w X.K X.mg X.base CX k f fd ps sp) (hr : Room k X.A) (hb : Binds X.K fd ps ds) (hd : Vals dvs ds) (hx : ya1 CX X E)
 (I : Inv X pins σ H s) (r : Vals vs us) (h : sp (vs ++ dvs) H Q E) : wpAny (model X.prog X.w) X.A (call (.ref f) us) (EP X pins σ Q) X.xe s := by
 have r2 : Vals (vs ++ dvs) (us ++ ds) := r.append hd
 have hl : (us ++ ds).length = ps.length := by rw [← r2.length]; exact F.len _ _ _ _ h
 refine wpAny_call (codeAny_mono (F.run X.A X.stack s H ⟨us, []⟩ (us ++ ds) (vs ++ dvs) Q E hr I.env0 (hb s us I.kIn hl) r2 h) fun r s' hq => ?_)
 cases r with
 | error e => exact hx pins σ H s e s' I hq
 | ok fl =>
  cases fl with
  | ret u => exact I.after hq
  | next => exact False.elim hq
  | brk => exact False.elim hq
  | cont => exact False.elim hq
theorem zc3 (F : FnOk X.prog X.w X.K X.mg X.base CX k f fd ps sp) (hr : Room k X.A) (hg : Gl X x) (hm : X.mg x = some (.ref f)) (hk : PySem.W.keepIn X.K (.ref f) = true) (hb : Binds X.K fd ps ds) (hd : Vals dvs ds) (hx : ya1 CX X E)
 (ha : PA X (e :: es) t) (hdb : (x == ("__debug__" : Str)) = false := by decide) (he : starEach (e :: es) X.env = (false, eval e X.env) :: starEach es X.env := by rfl) (hpl : (backTo pos (starEach es X.env)).any (·.1) = false := by rfl) :
 PE X (.Call (.Name x p) (e :: es) [] pos) (tCall sp dvs E t) := by
 intro pins s σ H Q I h
 refine wpAny_Call_Name_kw (yf7 I hg hm ?_ hdb)
 refine PySem.W.callWith_K (h₀ := X.base) I.ok.mod.kin hk (thn (ha pos pins s σ H _ I h) fun us s1 ⟨vs, H1, I1, r, q⟩ => ⟨I1.kIn, ?_⟩) he hpl
 exact yk1 F hr hb hd hx I1 r q
theorem zj0 {pl : Sem Bool} (he : PE X o ta) (c : Cls X.K C) (hm : Meth X.K C m f) (F : FnOk X.prog X.w X.K X.mg X.base CX k f fd ps sp) (hr : Room k X.A) (hb : Binds X.K fd ps ds) (hd : Vals dvs ds) (hx : ya1 CX X E) (ha : PA X (e :: es) t)
 (hst : starEach (e :: es) X.env = (false, eval e X.env) :: starEach es X.env := by rfl) (hpl : (backTo pos (starEach es X.env)).any (·.1) = false := by rfl)
 (ht : eval (.Call (.Attribute o m apos) (e :: es) [] pos) X.env = (do
  let ov ← eval o X.env
  standAt apos.atName
  let (f, first) ← holding [ov] (getMethod ov m pl)
  callWith pos f first (backTo pos (starEach (e :: es) X.env)) (backToKw pos (keywordEach [] X.env))) := by rfl) :
 PE X (.Call (.Attribute o m apos) (e :: es) [] pos) (tMeth C m sp dvs E ta t) := by
 intro pins s σ H Q I h
 refine PySem.W.methodCall_KW (pl := pl) (thn (he pins s σ H _ I h) fun u s1 hq0 => ?_) ht
 obtain ⟨x, H1, I1, rx, a, dx, fs, ex, ea, l, q⟩ := hq0
 subst ex
 obtain rfl : u = Value.ref a := rx
 refine getmeth_ok I1 ea c hm l ?_
 refine PySem.W.callWith_K (first := [.ref a]) (h₀ := X.base) I.ok.mod.kin hm.kp (thn (ha pos pins s1 σ H1 _ I1 q) fun us s2 ⟨vs, H2, I2, r, q2⟩ => ⟨I2.kIn, ?_⟩) hst hpl
 exact yk1 (us := .ref a :: us) (vs := .ref a :: vs) F hr hb hd hx I2 (.cons rfl r) q2
theorem pe_meth0 {pl : Sem Bool} (he : PE X o ta) (c : Cls X.K C) (hm : Meth X.K C m f) (F : FnOk X.prog X.w X.K X.mg X.base CX k f fd ps sp) (hr : Room k X.A) (hb : Binds X.K fd ps ds) (hd : Vals dvs ds) (hx : ya1 CX X E)
 (ht : eval (.Call (.Attribute o m apos) [] [] pos) X.env = (do
  let ov ← eval o X.env
  standAt apos.atName
  let (f, first) ← holding [ov] (getMethod ov m pl)
  callWith pos f first (backTo pos (starEach [] X.env)) (backToKw pos (keywordEach [] X.env))) := by rfl) :
 PE X (.Call (.Attribute o m apos) [] [] pos) (tMeth C m sp dvs E ta tNil) := by
 intro pins s σ H Q I h
 refine PySem.W.methodCall_KW (pl := pl) (thn (he pins s σ H _ I h) fun u s1 hq0 => ?_) ht
 obtain ⟨x, H1, I1, rx, a, dx, fs, ex, ea, l, q⟩ := hq0
 subst ex
 obtain rfl : u = Value.ref a := rx
 refine getmeth_ok I1 ea c hm l ?_
 exact PySem.W.callWith_K0 (first := [.ref a]) I1.kIn hm.kp (yk1 (us := [.ref a]) (vs := [.ref a]) F hr hb hd hx I1 (.cons rfl .nil) q)
structure Mk (K : PySem.W.Frag) (C f : Addr) : Prop where
 makes : PySem.W.makesIn K C = true
 init : PySem.W.findIn K (.ref C) "__init__" = some (some (.ref f))
 fn : PySem.W.isFn K (.ref f) = true
 kp : PySem.W.keepIn K (.ref C) = true
theorem run_make {pins : List (Addr × Obj)} {σ : St} {H : Hp} {s : Shared} {Q : VK} {us : List Value} {vs : List V} (M : Mk X.K C f) (F : FnOk X.prog X.w X.K X.mg X.base CX k f fd ps sp) (hr : Room (k + 1) X.A) (hb : Binds X.K fd ps ds) (hd : Vals dvs ds)
 (hx : ya1 CX X E) (I : Inv X pins σ H s) (r : Vals vs us)
 (h : ∀ x dx, H x = none → H dx = none → dx ≠ x → sp (.ref x :: (vs ++ dvs)) (upd (upd H dx (.own x)) x (.ins C dx [])) (fun v H2 => v = .non ∧ Q (.ref x) H2) E) :
 wpAny (model X.prog X.w) X.A (call (.ref C) us) (EP X pins σ Q) X.xe s := by
 have hq := h (s.heap.objs.size + 1) s.heap.objs.size (I.hok.fresh (Nat.le_succ _)) (I.hok.fresh (Nat.le_refl _)) (Nat.ne_of_lt (Nat.lt_succ_self _))
 have I2 := Inv.made (C := C) I
 have r2 : Vals (V.ref (s.heap.objs.size + 1) :: (vs ++ dvs)) (Value.ref (s.heap.objs.size + 1) :: (us ++ ds)) := .cons rfl (r.append hd)
 have hl : (Value.ref (s.heap.objs.size + 1) :: us ++ ds).length = ps.length := by
  have e := r2.length
  rw [F.len _ _ _ _ hq] at e
  exact e.symm
 refine wpAny_call (make_map (f := f) I.kIn M.makes M.init (beq_iff_eq.mp M.fn) (codeAny_mono (F.run _ X.stack _ _ ⟨Value.ref (s.heap.objs.size + 1) :: us, []⟩ (Value.ref (s.heap.objs.size + 1) :: (us ++ ds)) _ _ E (hr.make C us [])
  (I2.env0.make C us []) (hb _ (Value.ref (s.heap.objs.size + 1) :: us) I2.kIn hl) r2 hq) fun r s' hq' => ?_))
 cases r with
 | error e => exact hx pins σ _ _ e s' I2 hq'
 | ok fl =>
  cases fl with
  | ret u =>
   obtain ⟨v, H', I3, rv, ev, q3⟩ := I2.after hq'
   subst ev
   exact ⟨rv, ⟨V.ref (s.heap.objs.size + 1), H', I3, rfl, q3⟩⟩
  | next => exact False.elim hq'
  | brk => exact False.elim hq'
  | cont => exact False.elim hq'
theorem pe_make0 (M : Mk X.K C f) (F : FnOk X.prog X.w X.K X.mg X.base CX k f fd ps sp) (hr : Room (k + 1) X.A) (hg : Gl X x) (hm : X.mg x = some (.ref C)) (hb : Binds X.K fd ps ds) (hd : Vals dvs ds) (hx : ya1 CX X E)
 (hdb : (x == ("__debug__" : Str)) = false := by decide) : PE X (.Call (.Name x p) [] [] pos) (tMake C sp dvs E tNil) := by
 intro pins s σ H Q I h
 refine wpAny_Call_Name_kw (yf7 I hg hm ?_ hdb)
 exact PySem.W.callWith_K0 I.kIn M.kp (run_make (us := []) M F hr hb hd hx I .nil h)
end
section
variable {X : Cx} {CX : CXT} {k : Nat} {f C : Addr} {fd : FuncData} {ps ks : List Str} {sp : Sp} {E : XK} {x m : Str} {p pos apos kpos : Pos} {e o : Expr} {es : List Expr} {kws : List Keyword} {te ta : TE} {t tk : TA} {nm : Option Str}
variable {g : List Value → List Value → List Value} {gV : List V → List V → List V}
end
structure FnScope (N P : List Str) (sc : Scope) : Prop where
 kind : sc.kind = .function
 co : sc.isCoroutine = false
 gen : sc.isGenerator = false
 nd : N.Nodup
 pre : N.take P.length = P
 par : ∀ x ∈ P, sc.names.lookup x = some .local ∨ sc.names.lookup x = some .cell
 nofree : ∀ y ∈ sc.names, y.2 ≠ .free
theorem bindL_out {kindOf : Str → Option NameKind} {x : Str} : ∀ {binds : List (Str × Value)} {m : Str → Option Value}, (∀ v, (x, v) ∉ binds) → bindL kindOf binds m x = m x
 | [], _, _ => rfl
 | (n, v) :: r, m, h => by
  unfold bindL
  rw [bindL_out fun w hw => h w (List.mem_cons_of_mem _ hw)]
  split
  · have : x ≠ n := by rintro rfl; exact h v List.mem_cons_self
    simp [this]
  · rfl
theorem bindC_out {kindOf : Str → Option NameKind} {x : Str} : ∀ {binds : List (Str × Value)} {m : Str → Option Value}, (∀ v, (x, v) ∉ binds) → bindC kindOf binds m x = m x
 | [], _, _ => rfl
 | (n, v) :: r, m, h => by
  unfold bindC
  rw [bindC_out fun w hw => h w (List.mem_cons_of_mem _ hw)]
  split
  · rfl
  · have : x ≠ n := by rintro rfl; exact h v List.mem_cons_self
    simp [this]
theorem bindL_get {kindOf : Str → Option NameKind} {x : Str} {v : Value} : ∀ {P : List Str} {vs : List Value} {i : Nat} {m : Str → Option Value}, P.Nodup → P[i]? = some x → vs[i]? = some v → kindOf x = some .local →
 bindL kindOf (P.zip vs) m x = some v
 | [], _, _, _, _, h, _, _ => by simp at h
 | _ :: _, [], _, _, _, _, h, _ => by simp at h
 | p :: P, w :: vs, 0, m, nd, h1, h2, hk => by
  simp at h1 h2; subst h1; subst h2
  show bindL kindOf ((p, w) :: P.zip vs) m p = _
  unfold bindL
  rw [bindL_out fun v hv => (List.nodup_cons.mp nd).1 (List.of_mem_zip hv).1, if_pos hk]
  simp
 | p :: P, w :: vs, i + 1, m, nd, h1, h2, hk => by
  show bindL kindOf ((p, w) :: P.zip vs) m x = _
  unfold bindL
  exact bindL_get (i := i) (List.nodup_cons.mp nd).2 (by simpa using h1) (by simpa using h2) hk
theorem bindC_get {kindOf : Str → Option NameKind} {x : Str} {v : Value} : ∀ {P : List Str} {vs : List Value} {i : Nat} {m : Str → Option Value}, P.Nodup → P[i]? = some x → vs[i]? = some v → kindOf x ≠ some .local →
 bindC kindOf (P.zip vs) m x = some v
 | [], _, _, _, _, h, _, _ => by simp at h
 | _ :: _, [], _, _, _, _, h, _ => by simp at h
 | p :: P, w :: vs, 0, m, nd, h1, h2, hk => by
  simp at h1 h2; subst h1; subst h2
  show bindC kindOf ((p, w) :: P.zip vs) m p = _
  unfold bindC
  rw [bindC_out fun v hv => (List.nodup_cons.mp nd).1 (List.of_mem_zip hv).1, if_neg hk]
  simp
 | p :: P, w :: vs, i + 1, m, nd, h1, h2, hk => by
  show bindC kindOf ((p, w) :: P.zip vs) m x = _
  unfold bindC
  exact bindC_get (i := i) (List.nodup_cons.mp nd).2 (by simpa using h1) (by simpa using h2) hk
noncomputable def start (N : List Str) (vs : List V) : St := vs.map some ++ List.replicate (N.length - vs.length) none
noncomputable def cxOf (CX : CXT) (P : Program) (w : World) (K : PySem.W.Frag) (mg : Str → Option Value) (base : Heap) (N : List Str) (qual : Str) (scope : Scope) (f : Addr) (cd : Value) (A : Around) (outer : List Env) (s : Shared) (H : Hp) (E : XK) : Cx where
 prog := P
 w := w
 K := K
 mg := mg
 base := base
 A := A.deeper (envOfC qual scope s.heap.objs.size f cd)
 N := N
 s₀ := s
 H₀ := H
 env := envOfC qual scope s.heap.objs.size f cd
 outer := outer
 stack := envOfC qual scope s.heap.objs.size f cd :: outer
 ex := []
 calm := true
 fn := fun _ => true
 pn := []
 xe := fun e s' => wpAny (model P w) (A.deeper (envOfC qual scope s.heap.objs.size f cd)) (leaving (envOfC qual scope s.heap.objs.size f cd) e) (fun _ s'' => CX outer H s E e s'') (fun e' s'' => CX outer H s E e' s'') s'
theorem cell_has {sc : Scope} {n : Nat} {x : Str} (h : sc.names.lookup x = some .cell) : ∃ c, (cellsFrom n sc.names []).lookup x = some c := by
 have q := PySem.W.cellsFrom_some sc.names n [] (.inl h)
 exact Option.isSome_iff_exists.mp q
theorem inv_start {CX : CXT} {P : Program} {w : World} {K : PySem.W.Frag} {mg : Str → Option Value} {base : Heap} {N ps : List Str} {qual : Str} {scope : Scope} {f : Addr} {cd : Value} {A : Around} {outer : List Env} {s s1 : Shared} {H : Hp} {E : XK} {us : List Value} {vs : List V}
 (S : FnScope N ps scope) (hd : A.handled = none) (e0 : Env0 P w K mg base A outer s H) (hl : vs.length = ps.length) (r : Vals vs us)
 (x : InCallC s s.heap.objs.size (bindL (envOfC qual scope s.heap.objs.size f cd).kindOf (ps.zip us) fun _ => none) (cellsFrom (s.heap.objs.size + 1) scope.names []) (bindC (envOfC qual scope s.heap.objs.size f cd).kindOf (ps.zip us) fun _ => none) s1) :
 Inv (cxOf CX P w K mg base N qual scope f cd A outer s H E) [] (start N vs) H s1 := by
 have hpl : ps.length ≤ N.length := by have := congrArg List.length S.pre; rw [List.length_take] at this; omega
 obtain ⟨h1, tk, rfl, hk⟩ := x.done
 have noA : ∀ b : Addr, b ∉ (cxOf CX P w K mg base N qual scope f cd A outer s H E).ex := fun b z => absurd (show b ∈ ([] : List Addr) from z) (by simp)
 refine ⟨⟨e0.mod, S.kind, rfl, rfl, Nat.le_refl _, fun y z c h1 h2 => ?_, fun y hy => ?_, fun y c _ h => ?_, fun _ => hd, Around.frames_deeper e0.frames, .inr ⟨rfl, rfl⟩, fun b z => absurd z (noA b), e0.bs, e0.bsz, fun b _ _ => noA b, fun b z => absurd z (noA b), e0.funs, e0.frf⟩,
  rfl, e0.bare, Un.kept hk, ⟨_, x.toInCall.ns, fun i y v h1 h2 h3 => ?_⟩, fun y c h => ⟨_, x.cell y c h⟩, e0.hok.fresh (Nat.le_refl _), fun y c h => ?_, fun p hp => absurd (show p ∈ ([] : List (Addr × Obj)) from hp) (by simp), e0.hok.kept hk, ?_⟩
 · exact name_of_addr x.apart (PySem.mem_of_lookup h1) (PySem.mem_of_lookup h2)
 · have hy : scope.names.lookup y = some .cell ∨ scope.names.lookup y = some .free := hy
   rcases hy with hy | hy
   · exact cell_has hy
   · exact absurd rfl (S.nofree _ (PySem.mem_of_lookup hy))
 · exact Nat.le_of_lt (x.above y c (PySem.mem_of_lookup h))
 · have hi : i < vs.length := by
    unfold start at h2
    by_cases hi : i < vs.length
    · exact hi
    · rw [List.getElem?_append_right (by simpa using hi)] at h2
      rw [List.getElem?_replicate] at h2
      split at h2 <;> cases h2
   have ha : vs[i]? = some v := by
    unfold start at h2
    rw [List.getElem?_append_left (by simpa using hi), List.getElem?_map] at h2
    cases e : vs[i]? with
    | none => rw [e] at h2; cases h2
    | some a => rw [e] at h2; cases h2; rfl
   obtain ⟨u, hu, rv⟩ := r.get ha
   have hp : ps[i]? = some y := by
    rw [← S.pre, List.getElem?_take_of_lt (by omega)]; exact h1
   have ndP : ps.Nodup := by rw [← S.pre]; exact S.nd.sublist (List.take_sublist _ _)
   refine ⟨u, rv, ?_⟩
   rcases S.par y (List.mem_of_getElem? hp) with k | k
   · exact .inl ⟨k, bindL_get ndP hp hu k⟩
   · obtain ⟨c, e⟩ := cell_has (n := s.heap.objs.size + 1) k
     refine .inr ⟨.inl k, c, e, ?_⟩
     have q := x.cell y c e
     rw [bindC_get ndP hp hu (by show scope.names.lookup y ≠ _; rw [k]; decide)] at q
     exact q
 · exact e0.hok.fresh (Nat.le_of_lt (x.above y c (PySem.mem_of_lookup h)))
 · unfold start
   show _ = N.length
   rw [List.length_append, List.length_map, List.length_replicate]
   omega
theorem fn_of {CX : CXT} {P : Program} {w : World} {K : PySem.W.Frag} {mg : Str → Option Value} {base : Heap} {k : Nat} {f : Addr} {name qual : Str} {params : Arguments} {body : List Stmt} {scope : Scope} {dV kV doc pm cdv ct oc : Value} {an od : Option Addr}
 {osl : Array (Option Value)} {N ps : List Str} {sp : Sp} (lk : K.lookup f = some ⟨oc, od, .func (PySem.W.fnOf name qual params body scope dV kV doc pm an cdv ct), osl⟩) (hcd : PySem.W.codeIn K cdv qual = true) (S : FnScope N ps scope)
 (len : ∀ vs H Q E, sp vs H Q E → vs.length = ps.length)
 (hbody : ∀ (A : Around) (outer : List Env) (s : Shared) (H : Hp) (vs : List V) (Q : VK) (E : XK), Room k (A.deeper (envOfC qual scope s.heap.objs.size f cdv)) → sp vs H Q E →
  ∃ t, PSs (cxOf CX P w K mg base N qual scope f cdv A outer s H E) body t ∧ t { nx := fun _ H' => Q .non H', rt := Q } (start N vs) H) :
 FnOk P w K mg base CX (k + 1) f (PySem.W.fnOf name qual params body scope dV kV doc pm an cdv ct) ps sp := by
 refine ⟨len, fun A outer s H args us vs Q E hr e0 hb r hsp => ?_⟩
 have hl := len _ _ _ _ hsp
 have KX : K.In s.heap := e0.mod.kin.keeps fun b o e => (e0.bs b o e).1
 have lim : s.heap.NoLimit := e0.mod.nolimit.keeps fun b o e => (e0.bs b o e).1
 have hkind : ∀ y ∈ ps.zip us, scope.names.lookup y.1 = some .local ∨ (scope.names.lookup y.1 = some .cell ∧ ((cellsFrom (s.heap.objs.size + 1) scope.names []).lookup y.1).isSome = true) := fun ⟨n, v⟩ hy => by
  rcases S.par n (List.of_mem_zip hy).1 with q | q
  · exact .inl q
  · exact .inr ⟨q, PySem.W.cellsFrom_some _ _ _ (.inl q)⟩
 refine codeAny_call_function hr.depth (KX _ _ lk) rfl S.co S.gen rfl (PySem.W.codeRec_of KX hcd) (hb _ _ _ _ ?_)
 refine wpAny_newFunctionEnv_cells S.kind hkind fun env he s1 x => ?_
 subst he
 refine ⟨lim.keeps x.toInCall.keep, codeAny_func ?_⟩
 obtain ⟨t, ht, hq⟩ := hbody A outer s H vs Q E (hr.deeper _) hsp
 have I : Inv (cxOf CX P w K mg base N qual scope f cdv A outer s H E) [] (start N vs) H s1 := inv_start S hr.hd e0 hl r x
 refine wpAny_mono (ht [] s1 (start N vs) H _ I hq) (fun fl s' hs => ?_) fun e s' hs => hs
 have fin : ∀ {σ' : St} {H' : Hp} {v : V} {u : Value}, Inv (cxOf CX P w K mg base N qual scope f cdv A outer s H E) [] σ' H' s' → RelV v u → Q v H' → CE outer P w H s Q u s' :=
  fun {σ' H' v u} J rv q => ⟨v, H', J.os, J.bare, J.base, J.hok, rv, q⟩
 cases fl with
 | ret u =>
  obtain ⟨v, σ', H', J, rv, q⟩ := hs
  exact fin J rv q
 | next =>
  obtain ⟨σ', H', J, q⟩ := hs
  exact fin (v := V.non) (u := Value.none) J rfl q
 | brk =>
  obtain ⟨_, _, _, q⟩ := hs
  exact False.elim q
 | cont =>
  obtain ⟨_, _, _, q⟩ := hs
  exact False.elim q
end L2
namespace L2
open PySem PySem.Spec PyProof.Rows
section
variable {X : Cx} {x : Str} {p pos : Pos} {e : Expr} {es : List Expr} {t : TA} {id T : String} {r : List V → Hp → VK → Prop}
noncomputable def tCB (r : List V → Hp → VK → Prop) (t : TA) : TE := fun σ H Q => t σ H fun vs H1 => r vs H1 Q
theorem zg3 (hc : CallR X (.builtin id) r) (hg : Gl X x) (hm : X.mg x = none) (hv : bootBuiltins x = some (.builtin id)) (ha : PA X (e :: es) t) (hn : x ≠ "__name__" := by decide) (hdb : (x == ("__debug__" : Str)) = false := by decide)
 (he : starEach (e :: es) X.env = (false, eval e X.env) :: starEach es X.env := by rfl) (hpl : (backTo pos (starEach es X.env)).any (·.1) = false := by rfl) : PE X (.Call (.Name x p) (e :: es) [] pos) (tCB r t) := by
 intro pins s σ H Q I h
 refine wpAny_Call_Name_kw (yb5 I hg hm hv ?_ hn hdb)
 exact PyProof.Rows.callWith_builtin1 (thn (ha pos pins s σ H _ I h) fun us s1 ⟨vs, H1, I1, r1, q1⟩ => hc pins s1 σ H1 vs us Q I1 r1 q1) he hpl
theorem pe_callTy (hc : CallR X (.type T) r) (hg : Gl X x) (hm : X.mg x = none) (hv : bootBuiltins x = some (.type T)) (ha : PA X (e :: es) t) (hn : x ≠ "__name__" := by decide) (hdb : (x == ("__debug__" : Str)) = false := by decide)
 (he : starEach (e :: es) X.env = (false, eval e X.env) :: starEach es X.env := by rfl) (hpl : (backTo pos (starEach es X.env)).any (·.1) = false := by rfl) : PE X (.Call (.Name x p) (e :: es) [] pos) (tCB r t) := by
 intro pins s σ H Q I h
 refine wpAny_Call_Name_kw (yb5 I hg hm hv ?_ hn hdb)
 exact PyProof.Rows.callWith_type1 (thn (ha pos pins s σ H _ I h) fun us s1 ⟨vs, H1, I1, r1, q1⟩ => hc pins s1 σ H1 vs us Q I1 r1 q1) he hpl
end
end L2
namespace HT
open PySem PyProof.Rows
section
open PySem.SeqAt
open PySem.AutoSeq1 (wpAny_loadPart')
open PySem.MeetsSeq PySem.MeetsSeq2 PySem.MeetsSeq3
end
section
variable {prog : Program} {w : World} {A : Around} {E : Value → Shared → Prop} {s : Shared}
theorem cat_tup {t b : Addr} {vs ws : List Value} {Q : Value → Shared → Prop} (ht : IsTup s.heap t vs.toArray) (hb : IsTup s.heap b ws.toArray) (hv : vs ≠ [])
 (h1 : ws = [] → Q (.ref t) s) (h2 : ws ≠ [] → Q (.ref s.heap.objs.size) { s with heap := s.heap.push { cls := .type "tuple", data := .seq (vs ++ ws).toArray } })
 (hsz : vs.length + ws.length ≤ sizeLine) : wpAny (model prog w) A (binaryOp .Add (.ref t) (.ref b)) Q E s := by
 obtain ⟨⟨cls, dd, data, sl⟩, ho, hc, n, hd⟩ := id ht
 obtain ⟨⟨cls2, dd2, data2, sl2⟩, ho2, hc2, n2, hd2⟩ := id hb
 simp only at hc hd hc2 hd2
 subst hc hd hc2 hd2
 have e : vs.toArray ++ ws.toArray = (vs ++ ws).toArray := by simp
 by_cases hw : ws = []
 · exact concat_meets ⟨_, ho, rfl⟩ ⟨_, ho2, rfl⟩ noFill_tuple_add seq_tuple_add PySem.F.slot_tuple_add PySem.F.entry_tuple_add (PySem.F.args_tuple_add_2 _ _)
    (tuple_addW1 t b vs.toArray ws.toArray n n2 dd dd2 sl sl2 (by simpa using hv) (by simp [hw])) ⟨ho, ho2, h1 hw⟩
 · refine concat_meets ⟨_, ho, rfl⟩ ⟨_, ho2, rfl⟩ noFill_tuple_add seq_tuple_add PySem.F.slot_tuple_add PySem.F.entry_tuple_add (PySem.F.args_tuple_add_2 _ _)
    (tuple_addW2 t b vs.toArray ws.toArray n n2 dd dd2 sl sl2 (by simpa using hv) (by simpa using hw) (by rw [List.size_toArray, List.size_toArray]; exact hsz)) ⟨ho, ho2, ?_⟩
   rw [e]
   exact h2 hw
noncomputable def sIx (n d : Nat) : Option Int → Nat
 | none => d
 | some v => if v < 0 then (v + (n : Int)).toNat else min v.toNat n
theorem sIx_none (n d : Nat) : sIx n d none = d := rfl
theorem sIx_nat (n d k : Nat) : sIx n d (some (k : Int)) = min k n := by
 show (if (k : Int) < 0 then ((k : Int) + (n : Int)).toNat else min (k : Int).toNat n) = min k n
 rw [if_neg (by omega), Int.toNat_natCast]
theorem sIx_le (n d : Nat) (hd : d ≤ n) (o : Option Int) : sIx n d o ≤ n := by
 cases o with
 | none => exact hd
 | some v =>
  show (if v < 0 then (v + (n : Int)).toNat else min v.toNat n) ≤ n
  by_cases hv : v < 0
  · rw [if_pos hv]; omega
  · rw [if_neg hv]; exact Nat.min_le_right _ _
theorem clip_eq (v : Int) (n d : Nat) : (if v < 0 then max (v + (n : Int)) 0 else min v (n : Int)) = ((sIx n d (some v) : Nat) : Int) := by
 show (if v < 0 then max (v + (n : Int)) 0 else min v (n : Int)) = (((if v < 0 then (v + (n : Int)).toNat else min v.toNat n) : Nat) : Int)
 by_cases hv : v < 0
 · simp only [if_pos hv]; omega
 · simp only [if_neg hv]; omega
theorem adjust_gen (lo hi : Option Int) (n : Nat) : Builtin.Slice.sliceAdjust lo hi 1 (n : Int) = (((sIx n 0 lo : Nat) : Int), ((sIx n n hi : Nat) : Int)) := by
 have h1 : ¬ ((1 : Int) < 0) := by omega
 unfold Builtin.Slice.sliceAdjust
 simp only [h1, if_false]
 refine Prod.ext ?_ ?_
 · cases lo with
   | none => rfl
   | some v => exact clip_eq v n 0
 · cases hi with
   | none => rfl
   | some v => exact clip_eq v n n
theorem places_gen (i j : Nat) : Builtin.Slice.slicePlaces (i : Int) (j : Int) 1 = j - i := by
 unfold Builtin.Slice.slicePlaces
 have h1 : (1 : Int) > 0 := by omega
 simp only [h1, if_true, Int.ediv_one]
 split <;> omega
theorem slicePart_ {v : Value} {o : Option Int} {Q : Option Int → Shared → Prop} (p : IsPart v o) (h : Q o s) : wpAny (model prog w) A (Builtin.Slice.slicePartIndex v) Q E s := by
 cases p with
 | none => exact slicePart_none h
 | int i t => exact slicePart_int h
theorem sliceApplied_gen {sl : Addr} {vl vu : Value} {lo hi : Option Int} {n : Nat} {Q : Int × Int × Nat → Shared → Prop} (hs : s.heap.IsSliceOf sl vl vu .none) (pl : IsPart vl lo) (pu : IsPart vu hi)
 (h : Q (((sIx n 0 lo : Nat) : Int), 1, sIx n n hi - sIx n 0 lo) s) : wpAny (model prog w) A (Builtin.Slice.sliceApplied (.ref sl) (pure (n : Int))) Q E s := by
 obtain ⟨os, hos, hcs, hds⟩ := id hs
 unfold Builtin.Slice.sliceApplied Builtin.Slice.sliceFields
 refine wpAny_bind (wpAny_bind (wpAny_field hos hds (x := vl) rfl (wpAny_bind (wpAny_field hos hds (x := vu) rfl (wpAny_bind (wpAny_field hos hds (x := .none) rfl (wpAny_pure ?_)))))))
 refine wpAny_bind (slicePart_none ?_)
 show wpAny _ _ (if ((1 : Int) == 0) = true then _ else _) _ _ s
 rw [if_neg (by decide)]
 refine wpAny_bind (slicePart_ pl (wpAny_bind (slicePart_ pu (wpAny_bind (wpAny_pure ?_)))))
 show wpAny _ _ (match Builtin.Slice.sliceAdjust lo hi 1 (n : Int) with | (lo, hi) => pure (lo, (1 : Int), Builtin.Slice.slicePlaces lo hi 1)) _ _ s
 rw [adjust_gen lo hi n]
 show wpAny _ _ (pure (((sIx n 0 lo : Nat) : Int), (1 : Int), Builtin.Slice.slicePlaces ((sIx n 0 lo : Nat) : Int) ((sIx n n hi : Nat) : Int) 1)) _ _ s
 rw [places_gen]
 exact wpAny_pure h
theorem pick_gen (xs : Array Value) (i k : Nat) : ((List.range k).filterMap fun (m : Nat) => xs[((i : Int) + (m : Int) * 1).toNat]?).toArray = ((xs.toList.drop i).take k).toArray := by
 have e : (fun (m : Nat) => xs[((i : Int) + (m : Int) * 1).toNat]?) = fun m => xs[i + m]? := by
  funext m
  have : ((i : Int) + (m : Int) * 1).toNat = i + m := by omega
  rw [this]
 rw [e]
 have := pick_run xs i k
 rw [List.filterMap_map] at this
 have e2 : ((fun x => xs[x]?) ∘ fun x => i + x) = fun m => xs[i + m]? := rfl
 rw [e2] at this
 rw [this]
theorem getItem_tuple_cut {t sl : Addr} {items : Array Value} {vl vu : Value} {lo hi : Option Int} {Q : Value → Shared → Prop} (ht : IsTup s.heap t items) (hs : s.heap.IsSliceOf sl vl vu .none) (pl : IsPart vl lo) (pu : IsPart vu hi)
 (hw : ¬ (sIx items.size 0 lo = 0 ∧ sIx items.size items.size hi = items.size))
 (h : Q (.ref s.heap.objs.size) { s with heap := s.heap.push { cls := .type "tuple", data := .seq ((items.toList.drop (sIx items.size 0 lo)).take (sIx items.size items.size hi - sIx items.size 0 lo)).toArray } })
 (hsz : items.size ≤ sizeLine) : wpAny (model prog w) A (getItem (.ref t) (.ref sl)) Q E s := by
 have htake : sizeOk (.seq ((items.toList.drop (sIx items.size 0 lo)).take (sIx items.size items.size hi - sIx items.size 0 lo)).toArray) := by
  show ((items.toList.drop (sIx items.size 0 lo)).take (sIx items.size items.size hi - sIx items.size 0 lo)).toArray.size ≤ sizeLine
  rw [List.size_toArray, List.length_take, List.length_drop, Array.length_toList]
  omega
 have hj : sIx items.size items.size hi ≤ items.size := sIx_le _ _ (Nat.le_refl _) hi
 obtain ⟨os, hos, hcs, hds⟩ := id hs
 have hTs : s.TypeIs (.ref sl) "slice" := ⟨os, hos, hcs⟩
 unfold getItem
 try with_reducible refine wpAny_holding ?_
 first | refine wpAny_bind (wpAny_pure ?_) | skip
 refine wpAny_bind (wpAny_sequenceKey ht.typeIs (by decide) ?_)
 refine wpAny_bind (wpAny_callSpecial?_slot (name := Str.ofString "__getitem__") ht.typeIs PyProof.Rows.slot_tuple_getitem
  (wpAny_call_entry PyProof.Rows.slot_tuple_getitem ht.typeIs entry_tuple_getitem ?_ (args_tuple_getitem _ _)))
 show wpAny _ _ (Builtin.Tuple.tupleItemsOf (.ref t) >>= _) _ _ s
 refine wpAny_bind (tupleItemsOf_ ht ?_)
 refine wpAny_bind (wpAny_typeOf hTs ?_)
 rw [if_pos (by decide)]
 refine wpAny_bind (sliceApplied_gen hs pl pu ?_)
 have hno : ¬ ((((sIx items.size 0 lo : Nat) : Int) == 0 && (1 : Int) == 1 && (sIx items.size items.size hi - sIx items.size 0 lo) == items.size) = true) := by
  intro q
  rw [Bool.and_eq_true, Bool.and_eq_true] at q
  have q1 : ((sIx items.size 0 lo : Nat) : Int) = 0 := eq_of_beq q.1.1
  have q2 : sIx items.size items.size hi - sIx items.size 0 lo = items.size := eq_of_beq q.2
  exact hw ⟨by omega, by omega⟩
 show wpAny _ _ (if (((sIx items.size 0 lo : Nat) : Int) == 0 && (1 : Int) == 1 && (sIx items.size items.size hi - sIx items.size 0 lo) == items.size) = true then _ else _) _ _ s
 rw [if_neg hno, pick_gen]
 first
  | exact wpAny_bind (m := Builtin.Tuple.tupleExact _) (wpAny_newObj_type (wpAny_pure ⟨_, rfl, wpAny_pure h⟩) htake)
  | exact wpAny_bind (m := Builtin.Tuple.tupleExact _) (wpAny_newObj_type (wpAny_bind (wpAny_pure (wpAny_pure ⟨_, rfl, wpAny_pure h⟩))) htake)
  | exact wpAny_bind (wpAny_bind (m := Builtin.Tuple.tupleExact _) (wpAny_newObj_type (wpAny_pure (wpAny_pure ⟨_, rfl, wpAny_pure h⟩)) htake))
  | exact wpAny_bind (wpAny_bind (m := Builtin.Tuple.tupleExact _) (wpAny_newObj_type (wpAny_pure ⟨_, rfl, wpAny_pure h⟩) htake))
end
end HT
namespace L2
open PySem PySem.Spec PyProof.Rows
noncomputable abbrev TO := St → Hp → (Option Int → Hp → Prop) → Prop
noncomputable def PO (X : Cx) (e : Option Expr) (t : TO) : Prop :=
 ∀ (pins : List (Addr × Obj)) (s : Shared) (σ : St) (H : Hp) (Q : Option Int → Hp → Prop), Inv X pins σ H s → t σ H Q →
  wpAny (model X.prog X.w) X.A (evalPart e X.env) (fun u s' => ∃ o H', Inv X pins σ H' s' ∧ IsPart u o ∧ Q o H') X.xe s
noncomputable def tNoPart : TO := fun _ H Q => Q none H
noncomputable def tPart (t : TE) : TO := fun σ H Q => t σ H fun x H1 => ∃ i, x = .int i ∧ Q (some i) H1
section
variable {X : Cx} {e : Expr} {te : TE} {lo hi : Option Expr} {tl th : TO} {pos p2 : Pos}
theorem zz9 : PO X none tNoPart := by
 intro pins s σ H Q I h
 rw [evalPart_none]
 exact wpAny_pure ⟨none, H, I, .none, h⟩
theorem zv4 (h : PE X e te) : PO X (some e) (tPart te) := by
 intro pins s σ H Q I hw
 rw [evalPart_some]
 refine thn (h pins s σ H _ I hw) fun u s1 hq0 => ?_
 obtain ⟨x, H1, I1, r1, q1⟩ := hq0
 obtain ⟨i, rfl, q⟩ := q1
 obtain ⟨t, rfl⟩ := r1
 exact ⟨some i, H1, I1, .int i t, q⟩
noncomputable def SlR (X : Cx) (r : V → Option Int → Option Int → Hp → VK → Prop) : Prop :=
 ∀ (pins : List (Addr × Obj)) (s : Shared) (σ : St) (H : Hp) (x : V) (v vl vu : Value) (lo hi : Option Int) (sl : Addr) (Q : VK), Inv X pins σ H s → RelV x v → s.heap.IsSliceOf sl vl vu .none → IsPart vl lo → IsPart vu hi → r x lo hi H Q →
  ∃ T id, typeLookup (.type T) "__getitem__" = pure (some (.builtin id)) ∧ s.TypeIs v T ∧ wpAny (model X.prog X.w) X.A (getItem v (.ref sl)) (EP X pins σ Q) X.xe s
noncomputable def tSl (r : V → Option Int → Option Int → Hp → VK → Prop) (te : TE) (tl th : TO) : TE := fun σ H Q => te σ H fun x H1 => tl σ H1 fun l H2 => th σ H2 fun u H3 => r x l u H3 Q
theorem zu2 {r : V → Option Int → Option Int → Hp → VK → Prop} (hr : SlR X r) (he : PE X e te) (hl : PO X lo tl) (hu : PO X hi th) : PE X (.Subscript e (.Slice lo hi none p2) pos) (tSl r te tl th) := by
 intro pins s σ H Q I h
 refine Subscript_ (thn (he pins s σ H _ I h) fun v s1 hq0 => ?_)
 obtain ⟨x, H1, I1, r1, q1⟩ := hq0
 refine wpAny_Slice (thn (hl pins s1 σ H1 _ I1 q1) fun vl s2 ⟨l, H2, I2, pl, q2⟩ => thn (hu pins s2 σ H2 _ I2 q2) fun vu s3 hq0 => ?_)
 obtain ⟨u, H3, I3, pu, q3⟩ := hq0
 rw [evalPart_none]
 refine wpAny_pure ?_
 have I4 : Inv X pins σ H3 { s3 with heap := s3.heap.push { cls := .type "slice", data := .fields #[vl, vu, .none] } } := I3.kept (t' := s3.toks) fun b ob q => Heap.get?_push_of_some _ q
 obtain ⟨T, id, hT, ht, hg⟩ := hr pins { s3 with heap := s3.heap.push { cls := .type "slice", data := .fields #[vl, vu, .none] } } σ H3 x v vl vu l u s3.heap.objs.size Q I4 r1 (Heap.IsSliceOf.new ..) pl pu q3
 show wpAny (model X.prog X.w) X.A (subscriptTail e (.Slice lo hi none p2) v (.ref s3.heap.objs.size)) (EP X pins σ Q) X.xe { s3 with heap := s3.heap.push { cls := .type "slice", data := .fields #[vl, vu, .none] } }
 exact tail_any (ops := [.ref s3.heap.objs.size, v]) ht hT hg (by with_unfolding_all rfl)
noncomputable def cutV (xs : List V) (lo hi : Option Int) : List V := (xs.drop (HT.sIx xs.length 0 lo)).take (HT.sIx xs.length xs.length hi - HT.sIx xs.length 0 lo)
theorem cutV_length (xs : List V) (lo hi : Option Int) : (cutV xs lo hi).length ≤ xs.length := by
 unfold cutV
 rw [List.length_take, List.length_drop]
 omega
noncomputable def rSlT (K : PySem.W.Frag) : V → Option Int → Option Int → Hp → VK → Prop := fun x lo hi H Q => ∃ a xs, x = .ref a ∧ SqT K H a xs ∧
 ¬ (HT.sIx xs.length 0 lo = 0 ∧ HT.sIx xs.length xs.length hi = xs.length) ∧ ∀ p, H p = none → Q (.ref p) (upd H p (.tup (cutV xs lo hi)))
theorem sl_tup : SlR X (rSlT X.K) := by
 intro pins s σ H x v vl vu lo hi sl Q I rx hs pl pu h
 obtain ⟨a, xs, rfl, hx, hw, q⟩ := h
 cases rx
 obtain ⟨its, r, ht, hz⟩ := I.tuple hx
 have hlen : its.toArray.size = xs.length := by rw [List.size_toArray]; exact r.length.symm
 refine ⟨"tuple", _, PyProof.Rows.slot_tuple_getitem.lookup, ht.typeIs, ?_⟩
 refine HT.getItem_tuple_cut ht hs pl pu (by rw [hlen]; exact hw) ?_ (by rw [hlen]; exact hz)
 rw [hlen]
 refine ⟨.ref s.heap.objs.size, _, I.laid (t' := s.toks) (o := .tup (cutV xs lo hi)) (fun b ob q => Heap.get?_push_of_some _ q) (Nat.le_refl _) ?_, rfl, q _ (I.hok.fresh (Nat.le_refl _))⟩
 exact ⟨Nat.le_trans (cutV_length xs lo hi) hz, _, (r.drop (HT.sIx xs.length 0 lo)).take (HT.sIx xs.length xs.length hi - HT.sIx xs.length 0 lo), IsTup.new _ _⟩
noncomputable def rCatT (K : PySem.W.Frag) : R2 := fun x y H Q => ∃ a b xs ys, x = .ref a ∧ y = .ref b ∧ SqT K H a xs ∧ SqT K H b ys ∧ xs ≠ [] ∧ xs.length + ys.length ≤ sizeLine ∧
 (ys = [] → Q (.ref a) H) ∧ (ys ≠ [] → ∀ p, H p = none → Q (.ref p) (upd H p (.tup (xs ++ ys))))
theorem Vals.nil_iff {xs : List V} {us : List Value} (r : Vals xs us) : us = [] ↔ xs = [] := by
 cases r with
 | nil => simp
 | cons _ _ => simp
theorem op_catT : OpR X (binaryOp .Add) (rCatT X.K) := by
 intro pins s σ H x y v u Q I rx ry h
 obtain ⟨a, b, xs, ys, rfl, rfl, ha, hb, hx, hz, q1, q2⟩ := h
 cases rx
 cases ry
 obtain ⟨its, r1, p1, _⟩ := I.tuple ha
 obtain ⟨its2, r2, p2, _⟩ := I.tuple hb
 refine HT.cat_tup p1 p2 (fun z => hx (r1.nil_iff.mp z)) (fun z => ⟨.ref a, H, I, rfl, q1 (r2.nil_iff.mp z)⟩) (fun z => ?_) (by rw [← r1.length, ← r2.length]; exact hz)
 refine ⟨.ref s.heap.objs.size, _, I.laid (t' := s.toks) (o := .tup (xs ++ ys)) (fun b ob q => Heap.get?_push_of_some _ q) (Nat.le_refl _) ?_, rfl, q2 (fun w => z (r2.nil_iff.mpr w)) _ (I.hok.fresh (Nat.le_refl _))⟩
 exact ⟨by rw [List.length_append]; exact hz, _, r1.append r2, IsTup.new _ _⟩
end
end L2
namespace L2
open PySem PySem.Spec PyProof.Rows
noncomputable def ixN (n : Nat) (i : Int) : Option Nat := if 0 ≤ i then (if i < n then some i.toNat else none) else if -(n : Int) ≤ i then some (i + n).toNat else none
noncomputable def atI {α : Type} (xs : List α) (i : Int) : Option α := (ixN xs.length i).bind fun j => xs[j]?
theorem ixN_seq {n : Nat} {i : Int} {j : Nat} (h : ixN n i = some j) : seqIndex? i n = some j ∧ j < n ∧ -(n : Int) ≤ i ∧ i < n := by
 unfold ixN at h
 by_cases h0 : 0 ≤ i
 · rw [if_pos h0] at h
   by_cases h1 : i < n
   · rw [if_pos h1] at h
     have e : i.toNat = j := Option.some.inj h
     exact ⟨by rw [seqIndex_of h0 h1, e], by omega, by omega, h1⟩
   · rw [if_neg h1] at h; cases h
 · rw [if_neg h0] at h
   by_cases h1 : -(n : Int) ≤ i
   · rw [if_pos h1] at h
     have e : (i + n).toNat = j := Option.some.inj h
     exact ⟨by rw [seqIndex_neg (by omega) h1, e], by omega, h1, by omega⟩
   · rw [if_neg h1] at h; cases h
theorem yf5 {α : Type} {xs : List α} {i : Int} {v : α} (h : atI xs i = some v) : ∃ j, seqIndex? i xs.length = some j ∧ xs[j]? = some v ∧ j < xs.length ∧ -(xs.length : Int) ≤ i ∧ i < xs.length := by
 unfold atI at h
 cases e : ixN xs.length i with
 | none => rw [e] at h; cases h
 | some j =>
  rw [e] at h
  obtain ⟨h1, h2, h3, h4⟩ := ixN_seq e
  exact ⟨j, h1, h, h2, h3, h4⟩
noncomputable def PlainIx (b : Expr) : Prop := ∀ o i, subscripted b false o i = operate [o, i] (getItem o i)
noncomputable def IxR (X : Cx) (r : R2) : Prop :=
 ∀ (value slice : Expr) (pins : List (Addr × Obj)) (s : Shared) (σ : St) (H : Hp) (x y : V) (v u : Value) (Q : VK), Inv X pins σ H s → RelV x v → RelV y u → r x y H Q →
  subscripted slice false v u = operate [v, u] (getItem v u) → wpAny (model X.prog X.w) X.A (subscriptTail value slice v u) (EP X pins σ Q) X.xe s
noncomputable def MtR (X : Cx) (id : String) (r : V → List V → Hp → VK → Prop) : Prop :=
 ∀ (pins : List (Addr × Obj)) (s : Shared) (σ : St) (H : Hp) (x : V) (xs : List V) (v : Value) (us : List Value) (Q : VK), Inv X pins σ H s → RelV x v → Vals xs us → r x xs H Q →
  wpAny (model X.prog X.w) X.A (call (.builtin id) (v :: us)) (EP X pins σ Q) X.xe s
section
variable {X : Cx} {a b : Expr} {ta tb : TE} {pos : Pos}
theorem IxR.or {r r' : R2} (h : IxR X r) (h' : IxR X r') : IxR X (fun x y H Q => r x y H Q ∨ r' x y H Q) := by
 intro value slice pins s σ H x y v u Q I rx ry q hs
 rcases q with q | q
 · exact h value slice pins s σ H x y v u Q I rx ry q hs
 · exact h' value slice pins s σ H x y v u Q I rx ry q hs
theorem pe_ix {r : R2} (hr : IxR X r) (ha : PE X a ta) (hb : PE X b tb) (hs : PlainIx b) : PE X (.Subscript a b pos) (tOp r ta tb) := by
 intro pins s σ H Q I h
 exact Subscript_ (binT ha hb I h fun v u s2 x y H2 I2 rx ry q => hr a b pins s2 σ H2 x y v u Q I2 rx ry q (hs _ _))
noncomputable def rIxL (K : PySem.W.Frag) : R2 := fun x y H Q => ∃ p xs i v, x = .ref p ∧ y = .int i ∧ SqL K H p xs ∧ atI xs i = some v ∧ Q v H
noncomputable def rIxT (K : PySem.W.Frag) : R2 := fun x y H Q => ∃ p xs i v, x = .ref p ∧ y = .int i ∧ SqT K H p xs ∧ atI xs i = some v ∧ Q v H
noncomputable def rIxS : R2 := fun x y H Q => ∃ z i c, x = .str z ∧ y = .int i ∧ z.length ≤ sizeLine ∧ atI z.cps.toList i = some c ∧ Q (.str ⟨#[c]⟩) H
theorem ix_list : IxR X (rIxL X.K) := by
 intro value slice pins s σ H x y v u Q I rx ry h hs
 obtain ⟨p, xs, i, z, rfl, rfl, hq, he, q⟩ := h
 cases rx
 obtain ⟨t, rfl⟩ := ry
 obtain ⟨its, r, pl, hz⟩ := I.list hq
 obtain ⟨j, h1, h2, h3, h4, h5⟩ := yf5 he
 obtain ⟨w, ew, rw'⟩ := r.get h2
 have hl := r.length
 have hn := yf0
 have fin : EP X pins σ Q w s := ⟨z, H, I, rw', q⟩
 by_cases h0 : 0 ≤ i
 · have hj : i.toNat = j := by
    rw [seqIndex_of h0 h5] at h1
    exact Option.some.inj h1
   exact item_listR pl.isList h0 (by omega) (by rw [hj]; simpa using ew) fin hs
 · have hj : (i + (its.toArray.size : Int)).toNat = j := by
    rw [seqIndex_neg (by omega) h4] at h1
    rw [List.size_toArray, ← hl]
    exact Option.some.inj h1
   exact subscriptTail_builtinR (x := w) pl.isList.typeIs slot_list_getitem.lookup
    (wpAny_getItem_list_neg (Q := fun r s' => r = w ∧ EP X pins σ Q r s') pl.isList (by omega) (by rw [List.size_toArray] <;> omega) (by omega) (by rw [hj]; simpa using ew) ⟨rfl, fin⟩) hs
theorem ix_tup : IxR X (rIxT X.K) := by
 intro value slice pins s σ H x y v u Q I rx ry h hs
 obtain ⟨p, xs, i, z, rfl, rfl, hq, he, q⟩ := h
 cases rx
 obtain ⟨t, rfl⟩ := ry
 obtain ⟨its, r, pl, hz⟩ := I.tuple hq
 obtain ⟨j, h1, h2, h3, h4, h5⟩ := yf5 he
 obtain ⟨w, ew, rw'⟩ := r.get h2
 have hl := r.length
 have hn := yf0
 have fin : EP X pins σ Q w s := ⟨z, H, I, rw', q⟩
 exact subscriptTail_builtinR (x := w) pl.typeIs slot_tuple_getitem.lookup
  (getItem_tuple (j := j) (Q := fun r s' => r = w ∧ EP X pins σ Q r s') pl (by omega) (by omega) (by rw [List.size_toArray, ← hl]; exact h1) (by simpa using ew) ⟨rfl, fin⟩) hs
theorem ix_str : IxR X rIxS := by
 intro value slice pins s σ H x y v u Q I rx ry h hs
 obtain ⟨z, i, c, rfl, rfl, hz, he, q⟩ := h
 obtain ⟨t, rfl⟩ := rx
 obtain ⟨t', rfl⟩ := ry
 obtain ⟨j, h1, h2, h3, h4, h5⟩ := yf5 he
 have hl : z.cps.toList.length = z.length := by simp [Str.length]
 rw [hl] at h1 h4 h5
 have hn := yf0
 exact tail_any (typeIs_str s z t) slot_str_getitem.lookup (getItem_str (c := c) (by
  have e1 : decide (i < -(2 ^ 63 : Int)) = false := decide_eq_false (by omega)
  have e2 : decide (i ≥ 2 ^ 63) = false := decide_eq_false (by omega)
  rw [e1, e2, Bool.or_false]) (by rw [h1]; simpa using h2) ⟨.str ⟨#[c]⟩, H, I.tok _, ⟨_, rfl⟩, q⟩) hs
noncomputable def rIx (K : PySem.W.Frag) : R2 := fun x y H Q => rIxL K x y H Q ∨ rIxT K x y H Q ∨ rIxS x y H Q
theorem ix_seq : IxR X (rIx X.K) := ix_list.or (ix_tup.or ix_str)
theorem slice_bounds (lo hi : Option Int) (n : Nat) : (sliceBounds lo hi none n).1 = ((HT.sIx n 0 lo : Nat) : Int) ∧ (sliceBounds lo hi none n).2.1 = ((HT.sIx n n hi : Nat) : Int) ∧ (sliceBounds lo hi none n).2.2 = 1 := by
 refine ⟨?_, ?_, rfl⟩
 · cases lo with
   | none => simp [sliceBounds, HT.sIx]
   | some i =>
    simp only [sliceBounds, HT.sIx, Option.getD_none, show (1 : Int) > 0 by decide, if_true]
    by_cases h : i < 0
    · simp only [h, if_true] <;> omega
    · simp only [h, if_false] <;> omega
 · cases hi with
   | none => simp [sliceBounds, HT.sIx]
   | some i =>
    simp only [sliceBounds, HT.sIx, Option.getD_none, show (1 : Int) > 0 by decide, if_true]
    by_cases h : i < 0
    · simp only [h, if_true] <;> omega
    · simp only [h, if_false] <;> omega
theorem slicePick_cut (its : List Value) (lo hi : Option Int) : slicePick its.toArray lo hi none = ((its.drop (HT.sIx its.length 0 lo)).take (HT.sIx its.length its.length hi - HT.sIx its.length 0 lo)).toArray := by
 obtain ⟨h1, h2, h3⟩ := slice_bounds lo hi its.toArray.size
 unfold slicePick
 rw [h1, h2, h3]
 simp only [sliceRange_one, pick_run, List.size_toArray] <;> rfl
noncomputable def rSlL (K : PySem.W.Frag) : V → Option Int → Option Int → Hp → VK → Prop := fun x lo hi H Q => ∃ a xs, x = .ref a ∧ SqL K H a xs ∧ ∀ p, H p = none → Q (.ref p) (upd H p (.lst (cutV xs lo hi)))
theorem sl_list : SlR X (rSlL X.K) := by
 intro pins s σ H x v vl vu lo hi sl Q I rx hs pl pu h
 obtain ⟨a, xs, rfl, hx, q⟩ := h
 cases rx
 obtain ⟨its, r, ht, hz⟩ := I.list hx
 have hlen := r.length
 refine ⟨"list", _, slot_list_getitem.lookup, ht.isList.typeIs, ?_⟩
 refine wpAny_getItem_list_slice ht.isList hs pl pu .none (by simp) ?_ (by rw [List.size_toArray] <;> omega)
 rw [slicePick_cut, ← hlen]
 refine ⟨.ref s.heap.objs.size, _, I.laid (t' := s.toks) (o := .lst (cutV xs lo hi)) (fun b ob q => Heap.get?_push_of_some _ q) (Nat.le_refl _) ?_, rfl, q _ (I.hok.fresh (Nat.le_refl _))⟩
 exact ⟨Nat.le_trans (cutV_length xs lo hi) hz, _, 0, (r.drop (HT.sIx xs.length 0 lo)).take (HT.sIx xs.length xs.length hi - HT.sIx xs.length 0 lo), Heap.get?_push_size _ rfl⟩
noncomputable def flatV : V → Bool
 | .non => true
 | .bl _ => true
 | .int _ => true
 | .str _ => true
 | _ => false
noncomputable def eqV : V → V → Bool
 | .non, .non => true
 | .bl a, .bl b => a == b
 | .bl a, .int b => (if a then 1 else 0) == b
 | .int a, .bl b => a == (if b then 1 else 0)
 | .int a, .int b => a == b
 | .str a, .str b => a == b
 | _, _ => false
theorem eqAt_V {A : Around} {s : Shared} {y x : V} {u v : Value} (ry : RelV y u) (rx : RelV x v) (fy : flatV y = true) (fx : flatV x = true) : SeqAt.EqAt A s u v (eqV y x) := by
 cases y with
 | non =>
  cases ry
  cases x with
  | non => cases rx; exact SeqAt.EqAt.same _
  | bl b => cases rx; exact SeqAt.EqAt.none_bool b
  | int b => obtain ⟨t, rfl⟩ := rx; exact SeqAt.EqAt.none_int b t
  | str b => obtain ⟨t, rfl⟩ := rx; exact SeqAt.EqAt.none_str b t
  | _ => exact absurd (show false = true from fx) Bool.false_ne_true
 | bl a =>
  cases ry
  cases x with
  | non => cases rx; exact SeqAt.EqAt.bool_none a
  | bl b => cases rx; exact SeqAt.EqAt.bool_bool a b
  | int b => obtain ⟨t, rfl⟩ := rx; exact SeqAt.EqAt.bool_int a b t
  | str b => obtain ⟨t, rfl⟩ := rx; exact SeqAt.EqAt.bool_str a b t
  | _ => exact absurd (show false = true from fx) Bool.false_ne_true
 | int a =>
  obtain ⟨t', rfl⟩ := ry
  cases x with
  | non => cases rx; exact SeqAt.EqAt.int_none a t'
  | bl b => cases rx; exact SeqAt.EqAt.int_bool a t' b
  | int b => obtain ⟨t, rfl⟩ := rx; exact SeqAt.EqAt.int_int a t' b t
  | str b => obtain ⟨t, rfl⟩ := rx; exact SeqAt.EqAt.int_str a t' b t
  | _ => exact absurd (show false = true from fx) Bool.false_ne_true
 | str a =>
  obtain ⟨t', rfl⟩ := ry
  cases x with
  | non => cases rx; exact SeqAt.EqAt.str_none a t'
  | bl b => cases rx; exact SeqAt.EqAt.str_bool a t' b
  | int b => obtain ⟨t, rfl⟩ := rx; exact SeqAt.EqAt.str_int a t' b t
  | str b => obtain ⟨t, rfl⟩ := rx; exact SeqAt.EqAt.str_str a t' b t
  | _ => exact absurd (show false = true from fx) Bool.false_ne_true
 | _ => exact absurd (show false = true from fy) Bool.false_ne_true
noncomputable def eqU (x : V) (u : Value) : Bool := match u with
 | .none => eqV .non x
 | .bool b => eqV (.bl b) x
 | .int i _ => eqV (.int i) x
 | .str z _ => eqV (.str z) x
 | _ => false
theorem yj0 {x y : V} {u : Value} (r : RelV y u) (f : flatV y = true) : eqU x u = eqV y x := by
 cases y with
 | non => cases r; rfl
 | bl b => cases r; rfl
 | int i => obtain ⟨t, rfl⟩ := r; rfl
 | str z => obtain ⟨t, rfl⟩ := r; rfl
 | _ => exact absurd (show false = true from f) Bool.false_ne_true
theorem ya8 {x : V} : ∀ {xs : List V} {us : List Value}, Vals xs us → xs.all flatV = true → us.any (eqU x) = xs.any fun y => eqV y x
 | _, _, .nil, _ => rfl
 | y :: xs, u :: us, .cons r t, f => by
  rw [List.all_cons, Bool.and_eq_true] at f
  rw [List.any_cons, List.any_cons, yj0 r f.1, ya8 t f.2]
theorem zt7 {A : Around} {s : Shared} {x : V} {v : Value} (rx : RelV x v) (fx : flatV x = true) : ∀ {xs : List V} {us : List Value}, Vals xs us → xs.all flatV = true → ∀ u ∈ us, SeqAt.EqAt A s u v (eqU x u)
 | _, _, .nil, _ => fun u hu => by cases hu
 | y :: xs, u :: us, .cons r t, f => fun u' hu => by
  rw [List.all_cons, Bool.and_eq_true] at f
  rcases List.mem_cons.mp hu with rfl | hu
  · rw [yj0 r f.1]; exact eqAt_V r rx f.1 fx
  · exact zt7 rx fx t f.2 u' hu
noncomputable def inV (x : V) (xs : List V) : Bool := xs.any fun y => eqV y x
noncomputable def rIn (K : PySem.W.Frag) (neg : Bool) : R2 := fun x y H Q => ∃ p xs, y = .ref p ∧ (SqL K H p xs ∨ SqT K H p xs) ∧ flatV x = true ∧ xs.all flatV = true ∧ Q (.bl (if neg then !inV x xs else inV x xs)) H
theorem op_in_seq : OpR X (compareOp .In) (rIn X.K false) := by
 intro pins s σ H x y v u Q I rx ry h
 obtain ⟨p, xs, rfl, hq, fx, fs, q⟩ := h
 cases ry
 rcases hq with hq | hq
 · obtain ⟨its, r, pl, hz⟩ := I.list hq
   refine SeqAt.in_listAt (eqU x) pl.isList (fun w hw => zt7 rx fx r fs w (by simpa using hw)) ⟨.bl _, H, I, rfl, ?_⟩
   rw [show its.toArray.any (eqU x) = its.any (eqU x) by simp, ya8 r fs]
   exact q
 · obtain ⟨its, r, pl, hz⟩ := I.tuple hq
   refine SeqAt.in_tupleAt (eqU x) pl (fun w hw => zt7 rx fx r fs w (by simpa using hw)) ⟨.bl _, H, I, rfl, ?_⟩
   rw [show its.toArray.any (eqU x) = its.any (eqU x) by simp, ya8 r fs]
   exact q
theorem op_notIn_seq : OpR X (compareOp .NotIn) (rIn X.K true) := by
 intro pins s σ H x y v u Q I rx ry h
 obtain ⟨p, xs, rfl, hq, fx, fs, q⟩ := h
 cases ry
 rcases hq with hq | hq
 · obtain ⟨its, r, pl, hz⟩ := I.list hq
   refine SeqAt.notIn_listAt (eqU x) pl.isList (fun w hw => zt7 rx fx r fs w (by simpa using hw)) ⟨.bl _, H, I, rfl, ?_⟩
   rw [show its.toArray.any (eqU x) = its.any (eqU x) by simp, ya8 r fs]
   exact q
 · obtain ⟨its, r, pl, hz⟩ := I.tuple hq
   refine SeqAt.notIn_tupleAt (eqU x) pl (fun w hw => zt7 rx fx r fs w (by simpa using hw)) ⟨.bl _, H, I, rfl, ?_⟩
   rw [show its.toArray.any (eqU x) = its.any (eqU x) by simp, ya8 r fs]
   exact q
theorem call_len_seq : CallR X (.builtin "len") (fun xs H Q => ∃ p ys, xs = [.ref p] ∧ (SqL X.K H p ys ∨ SqT X.K H p ys) ∧ Q (.int ys.length) H) := by
 intro pins s σ H xs us Q I r h
 obtain ⟨p, ys, rfl, hq, q⟩ := h
 obtain ⟨u, rfl, rx⟩ := vals1 r
 cases rx
 have hn := yf0
 rcases hq with hq | hq
 · obtain ⟨its, r', pl, hz⟩ := I.list hq
   have hlen := r'.length
   exact Calls.call_len_list pl.isList (by simp only [List.size_toArray] <;> omega) ⟨.int ys.length, H, I.tok _, ⟨s.toks + 1, by rw [List.size_toArray, hlen]⟩, q⟩
 · obtain ⟨its, r', pl, hz⟩ := I.tuple hq
   have hlen := r'.length
   exact len_tuple pl (by simp only [List.size_toArray] <;> omega) ⟨.int ys.length, H, I.tok _, ⟨s.toks + 1, by rw [List.size_toArray, hlen]⟩, q⟩
theorem call_len_str : CallR X (.builtin "len") (fun xs H Q => ∃ z, xs = [.str z] ∧ z.length ≤ sizeLine ∧ Q (.int z.length) H) := by
 intro pins s σ H xs us Q I r h
 obtain ⟨z, rfl, hz, q⟩ := h
 obtain ⟨u, rfl, t, rfl⟩ := vals1 r
 have hn := yf0
 exact len_str (by omega) ⟨.int z.length, H, I.tok _, ⟨_, rfl⟩, q⟩
theorem CallR.or {f : Value} {r r' : List V → Hp → VK → Prop} (h : CallR X f r) (h' : CallR X f r') : CallR X f (fun xs H Q => r xs H Q ∨ r' xs H Q) := by
 intro pins s σ H xs us Q I rs q
 rcases q with q | q
 · exact h pins s σ H xs us Q I rs q
 · exact h' pins s σ H xs us Q I rs q
theorem call_list_of : CallR X (.type "list") (fun xs H Q => ∃ p ys, xs = [.ref p] ∧ (SqL X.K H p ys ∨ SqT X.K H p ys) ∧ ∀ l, H l = none → Q (.ref l) (upd H l (.lst ys))) := by
 intro pins s σ H xs us Q I r h
 obtain ⟨p, ys, rfl, hq, q⟩ := h
 obtain ⟨u, rfl, rx⟩ := vals1 r
 cases rx
 have fin : ∀ (its : List Value), Vals ys its → ys.length ≤ sizeLine → ∀ (h' : Heap) (c' : Nat), (∀ b o', s.heap.get? b = some o' → h'.get? b = some o') →
  h'.get? s.heap.objs.size = some { cls := .type "list", dict := none, data := .seq its.toArray c', slots := #[] } → EP X pins σ Q (.ref s.heap.objs.size) { s with heap := h' } := fun its r' hz h' c' kp e =>
  ⟨.ref s.heap.objs.size, _, I.laid (t' := s.toks) kp (Nat.le_refl _) (show ObjOk X.prog X.w _ h' _ (.lst ys) from ⟨hz, its, c', r', e⟩), rfl, q _ (I.hok.fresh (Nat.le_refl _))⟩
 rcases hq with hq | hq
 · obtain ⟨its, r', pl, hz⟩ := I.list hq
   have hlen := r'.length
   obtain ⟨o, ho, hc, n, hd⟩ := pl.isList
   exact call_list_seq p (.inl rfl) ho hc hd (fun h' c' kp e => fin its r' hz h' c' kp e) (by simp only [List.size_toArray] <;> omega)
 · obtain ⟨its, r', pl, hz⟩ := I.tuple hq
   have hlen := r'.length
   obtain ⟨o, ho, hc, n, hd⟩ := pl
   exact call_list_seq p (.inr rfl) ho hc hd (fun h' c' kp e => fin its r' hz h' c' kp e) (by simp only [List.size_toArray] <;> omega)
noncomputable def tyV (K : PySem.W.Frag) (T : String) (x : V) (H : Hp) : Prop := match x with
 | .str _ => T = "str"
 | .int _ => T = "int"
 | .ref p => (T = "list" ∧ ∃ xs, SqL K H p xs) ∨ (T = "tuple" ∧ ∃ o, K.lookup p = some o ∧ o.cls = .type "tuple" ∧ o.dict = none) ∨
  (T = "dict" ∧ ((∃ kvs, H p = some (.dK kvs)) ∨ ∃ kvs, H p = some (.dT kvs))) ∨ (T = "set" ∧ ∃ S n, H p = some (.set S n))
 | _ => False
theorem tyV_is {pins : List (Addr × Obj)} {σ : St} {H : Hp} {s : Shared} {T : String} {x : V} {v : Value} (I : Inv X pins σ H s) (r : RelV x v) (ty : tyV X.K T x H) :
 s.TypeIs v T ∧ ∀ a, v = .ref a → ∃ ob, s.heap.get? a = some ob ∧ ob.dict = none := by
 cases x with
 | str z =>
  obtain ⟨t, rfl⟩ := r
  cases (show T = "str" from ty)
  exact ⟨typeIs_str s z t, fun _ e => nomatch e⟩
 | int i =>
  obtain ⟨t, rfl⟩ := r
  cases (show T = "int" from ty)
  exact ⟨typeIs_int s i t, fun _ e => nomatch e⟩
 | ref p =>
  cases r
  rcases ty with ⟨rfl, xs, hq⟩ | ⟨rfl, o, hk, hc, hd⟩ | ⟨rfl, hk⟩ | ⟨rfl, S, n, hk⟩
  · obtain ⟨its, _, pl, _⟩ := I.list hq
    refine ⟨pl.isList.typeIs, fun a e => ?_⟩
    cases e
    obtain ⟨o, n, e, c, hd, _⟩ := pl
    exact ⟨o, e, hd⟩
  · refine ⟨⟨o, I.kIn p o hk, hc⟩, fun a e => ?_⟩
    cases e
    exact ⟨o, I.kIn _ o hk, hd⟩
  · have z : ∃ o, s.heap.get? p = some o ∧ o.ExactDict := by
     rcases hk with ⟨kvs, hk⟩ | ⟨kvs, hk⟩
     · obtain ⟨_, _, _, _, o, _, _, e, ex, _⟩ := I.hok p _ hk
       exact ⟨o, e, ex⟩
     · obtain ⟨_, _, _, _, o, _, _, e, ex, _⟩ := I.hok p _ hk
       exact ⟨o, e, ex⟩
    obtain ⟨o, e, ex⟩ := z
    refine ⟨⟨o, e, ex.1⟩, fun a e2 => ?_⟩
    cases e2
    exact ⟨o, e, ex.2.1⟩
  · obtain ⟨o, _, _, _, e, ex, _⟩ := I.hok p _ hk
    refine ⟨⟨o, e, ex.1⟩, fun a e2 => ?_⟩
    cases e2
    exact ⟨o, e, ex.2.1⟩
 | _ => exact False.elim ty
noncomputable def tBM (K : PySem.W.Frag) (T : String) (r : V → List V → Hp → VK → Prop) (to : TE) (t : TA) : TE := fun σ H Q => to σ H fun x H1 => tyV K T x H1 ∧ t σ H1 fun xs H2 => r x xs H2 Q
variable {o e : Expr} {es : List Expr} {to : TE} {t : TA} {name : Str} {apos cpos : Pos} {T id : String} {r : V → List V → Hp → VK → Prop}
theorem pe_bm (pa : PlainAttrs T) (slot : Slot T name id) (hty : typeOf (.builtin id) = pure (.type "method_descriptor")) (hm : MtR X id r) (ho : PE X o to) (ha : PA X (e :: es) t)
 (hbase : attributeBase o name X.env (eval o X.env) = eval o X.env := by rfl)
 (hfew : ((backTo cpos (starEach (e :: es) X.env)).all (fun x => !x.1) && (backToKw cpos (keywordEach [] X.env)).all (fun x => x.1.isSome)
  && decide ((e :: es).length + ([] : List Keyword).length + (if ([] : List Keyword).isEmpty then 0 else 1) < 30)) = true := by rfl)
 (hline : (apos.endLine == cpos.line) = true := by rfl) (hs : starEach (e :: es) X.env = (false, eval e X.env) :: starEach es X.env := by rfl) (hplain : (backTo cpos (starEach es X.env)).any (·.1) = false := by rfl) :
 PE X (.Call (.Attribute o name apos) (e :: es) [] cpos) (tBM X.K T r to t) := by
 intro pins s σ H Q I h
 refine wpAny_Call_method_late hbase hfew hline rfl (thn (ho pins s σ H _ I h) fun v s1 hq0 => ?_)
 obtain ⟨x, H1, I1, r1, ty, q1⟩ := hq0
 obtain ⟨h1, h2⟩ := tyV_is I1 r1 ty
 refine ⟨T, id, pa, slot, hty, h1, h2, ?_⟩
 have hA := ha cpos pins s1 σ H1 _ I1 q1
 rw [hs] at hA ⊢
 refine Calls.callWith_builtin (by show (false || (backTo cpos (starEach es X.env)).any (·.1)) = false; rw [hplain] <;> rfl) (Calls.evalArgs_plain ?_)
 exact thn hA fun us s2 ⟨vs, H2, I2, r2, q2⟩ => hm pins s2 σ H2 x vs v us Q I2 r1 r2 q2
end
end L2
namespace L2
open PySem PySem.Spec PyProof.Rows
noncomputable def MtM (X : Cx) (id : String) (r : V → List V → Hp → VK → Prop) : Prop :=
 ∀ (pins : List (Addr × Obj)) (s : Shared) (σ : St) (H : Hp) (x : V) (xs : List V) (v : Value) (us : List Value) (Q : VK), Inv X pins σ H s → RelV x v → Vals xs us → r x xs H Q →
  wpAny (model X.prog X.w) X.A (call (.builtin id) (v :: us)) (EP X pins σ Q) X.xe s
theorem Vals.one : ∀ {x : V} {us : List Value}, Vals [x] us → ∃ u, us = [u] ∧ RelV x u
 | _, _, .cons r .nil => ⟨_, rfl, r⟩
section
variable {X : Cx} {pins : List (Addr × Obj)} {σ : St} {H : Hp} {s : Shared} {l b : Addr} {xs ys zs : List V}
theorem Inv.lset {its its' : List Value} {n : Nat} {f : Array Value → Array Value} {t' : Nat} (I : Inv X pins σ H s) (hH : H l = some (.lst xs))
 (e : s.heap.get? l = some { cls := .type "list", data := .seq its.toArray n }) (hf : f its.toArray = its'.toArray) (hv : Vals ys its') (hz : ys.length ≤ sizeLine) :
 Inv X pins σ (upd H l (.lst ys)) { s with heap := s.heap.update l (Obj.mapSeq f), toks := t' } := by
 have q := PySem.IsL.update e f
 rw [hf] at q
 refine I.write (x := l) (e := l) (by rw [hH]; exact trivial) (.inl rfl) (fun b' u hb hu => (Heap.get?_update_other s.heap (Obj.mapSeq f) (Ne.symm hb)).trans hu) ⟨_, q⟩ ?_
 exact ⟨hz, its', _, hv, q⟩
theorem Inv.lnew {its : List Value} {t' : Nat} (I : Inv X pins σ H s) (hv : Vals ys its) (hz : ys.length ≤ sizeLine) :
 Inv X pins σ (upd H s.heap.objs.size (.lst ys)) { s with heap := s.heap.push { cls := .type "list", data := .seq its.toArray }, toks := t' } :=
 I.laid (fun _ _ q => Heap.get?_push_of_some _ q) (Nat.le_refl _) ⟨hz, its, 0, hv, Heap.get?_push_size _ rfl⟩
theorem Inv.fresh (I : Inv X pins σ H s) : H s.heap.objs.size = none := I.hok.fresh (Nat.le_refl _)
theorem Inv.lstM (I : Inv X pins σ H s) (hH : H l = some (.lst xs)) : xs.length ≤ sizeLine ∧ ∃ (its : List Value) (n : Nat), Vals xs its ∧ xs.length = its.length ∧ s.heap.get? l = some { cls := .type "list", data := .seq its.toArray n } := by
 obtain ⟨z, its, n, r, e⟩ := I.hok l _ hH
 exact ⟨z, its, n, r, r.length, e⟩
theorem notLongL {n : Nat} (h : n ≤ sizeLine) : Builtin.List.listTooLong n = false := by
 unfold Builtin.List.listTooLong
 exact decide_eq_false (by omega)
end
section
variable {X : Cx}
noncomputable def yf6 : V → List V → Hp → VK → Prop := fun x vs H Q => ∃ l xs y, x = .ref l ∧ vs = [y] ∧ H l = some (.lst xs) ∧ xs.length < sizeLine ∧ Q .non (upd H l (.lst (xs ++ [y])))
theorem zq4 : MtM X "list.append" yf6 := by
 intro pins s σ H x vs v us Q I rx rv h
 obtain ⟨l, xs, y, rfl, rfl, hH, hz, q⟩ := h
 cases rx
 obtain ⟨u, rfl, ru⟩ := rv.one
 obtain ⟨z, its, n, r, hl, e⟩ := I.lstM hH
 refine call_meets F.slot_list_append ⟨_, e, rfl⟩ F.entry_list_append (F.args_list_append_2 _ _) (PySem.list_append l its.toArray n u (by rw [List.size_toArray]; omega)) ⟨e, ?_⟩
 refine ⟨.non, _, I.lset (its' := its ++ [u]) hH e (by simp) (r.append (.cons ru .nil)) ?_, rfl, q⟩
 rw [List.length_append, List.length_singleton]
 omega
noncomputable def rExtend : V → List V → Hp → VK → Prop := fun x vs H Q => ∃ l b xs zs, x = .ref l ∧ vs = [.ref b] ∧ H l = some (.lst xs) ∧ H b = some (.lst zs) ∧ xs.length + zs.length ≤ sizeLine ∧ Q .non (upd H l (.lst (xs ++ zs)))
theorem mt_extend : MtM X "list.extend" rExtend := by
 intro pins s σ H x vs v us Q I rx rv h
 obtain ⟨l, b, xs, zs, rfl, rfl, hH, hB, hz, q⟩ := h
 cases rx
 obtain ⟨u, rfl, ru⟩ := rv.one
 cases ru
 obtain ⟨z, its, n, r, hl, e⟩ := I.lstM hH
 obtain ⟨z2, its2, n2, r2, hl2, e2⟩ := I.lstM hB
 have hsz : its.toArray.size + its2.toArray.size ≤ sizeLine := by rw [List.size_toArray, List.size_toArray]; omega
 have hlong : ¬ (!its.toArray.isEmpty && Builtin.List.listTooLong (its.toArray.size + its2.toArray.size)) = true := by
  rw [notLongL hsz, Bool.and_false]
  exact Bool.false_ne_true
 refine call_meets F.slot_list_extend ⟨_, e, rfl⟩ F.entry_list_extend (F.args_list_extend_2 _ _)
  (AutoSeq1.list_extend_list_list_0 l its.toArray n b its2.toArray n2 hlong (by rw [List.size_toArray]; omega) (by omega)) ⟨e, e2, ?_⟩
 refine ⟨.non, _, I.lset (its' := its ++ its2) hH e (by simp) (r.append r2) ?_, rfl, q⟩
 rw [List.length_append]
 omega
end
section
variable {prog : Program} {w : World} {A : Around} {E : Value → Shared → Prop} {s : Shared}
end
section
variable {X : Cx}
end
end L2
namespace Att
open PySem PySem.W PySem.Calls PyProof.Rows
theorem ints_of_wellAll {P : Params} {h : Heap} : ∀ (ns : List Int) (vs : List Value), WellAll P h vs (ns.map WData.int) → IntsAre vs ns := by
 intro ns
 induction ns with
 | nil =>
  intro vs w
  rw [List.map_nil] at w
  cases w
  exact .nil
 | cons n ns ih =>
  intro vs w
  rw [List.map_cons] at w
  cases w with
  | cons a b =>
   cases a
   exact .cons _ _ (ih _ b)
theorem script_of {l : OpenLaw} {n : Nat} (hn : l.most = some n) {P : Params} {h : Heap} {args : List WData} {vals : List Value}
 (hpre : l.row.toRowW.claim.pre args = true) (hwl : WellAll P h vals args) :
 ∃ a vs ns, vals = [Value.ref a] ∧ args = [WData.list (ns.map WData.int)] ∧ h.get? a = some { cls := .type "list", data := .seq vs.toArray } ∧ IntsAre vs ns ∧ ns.length ≤ n := by
 have hsh : WShape.hasAll [] args [.list .int] = true := (pre_splitW hpre).1
 have hc : l.pre.holds [] { args := args } = true := (pre_splitW hpre).2
 obtain ⟨d, r, rfl, h1, h2⟩ := hasAllW_cons hsh
 obtain rfl := hasAllW_nil h2
 obtain ⟨xs, rfl, h3⟩ := hasW_list h1
 obtain ⟨ns, rfl⟩ := items_int h3
 have hlen : ns.length ≤ n := by
  unfold OpenLaw.pre at hc
  have h4 : (WTm.not (.lt (.lit (.int (n : Int))) (.len (.arg 0)))).holds [] { args := [.list (ns.map .int)] } = true := by
   have h4 := (holds_andW hc).1
   rw [hn] at h4
   exact h4
  have h5 := condW_of h4 (w_not (w_lt w_lit (w_len_list (w_arg rfl))))
  rw [List.length_map] at h5
  refine Nat.le_of_not_lt fun q => ?_
  have q' : (n : Int) < ((ns.length : Nat) : Int) := by omega
  first
   | (rw [decide_eq_true q'] at h5; exact absurd h5 (by decide))
   | (simp at h5; omega)
 cases hwl with
 | cons w1 w2 =>
  cases w2
  cases w1 with
  | list ho hall => exact ⟨_, _, ns, rfl, rfl, ho, ints_of_wellAll ns _ hall, hlen⟩
theorem post_true (l : OpenLaw) (args : List WData) : l.row.toRowW.claim.post args (.bool true) args = true :=
 postW_of (r := l.row.toRowW) (X := (true == true))
  (show WShape.has [] (.bool true) .bool = true by first | rfl | decide | simp [WShape.has, WShape.arms, WShape.armsAll])
  (show (WTm.eq .res (.lit (.bool true))).value [] { args := args, res := some (.bool true), after := args } = some (.bool (true == true)) from w_eq_bool (w_res rfl) w_lit) rfl
theorem attach_call {l : OpenLaw} {n : Nat} {q : Program} {loose : List Str} {XP : (Str → Option Value) → Heap → Prop} {YP : World → Heap → Prop} {d : DefRec}
 (hn : l.most = some n) (hdf : d.params.defaults = [])
 (call : ∀ (w : World) (s₀ s₁ : Shared) (mg mb : Str → Option Value) (fa : Addr) (o : Obj) (pm cd doc : Value) (a : Addr) (vs : List Value) (ns : List Int),
  Ground q loose [] XP w s₀ mg mb s₁.heap → YP w s₁.heap →
  s₁.heap.get? fa = some o → o.data = .func (docDef d.name d.params d.body d.scope pm cd doc) → s₁.heap.CodeRec cd d.name → mg d.name = some (.ref fa) →
  s₁.heap.get? a = some { cls := .type "list", data := .seq vs.toArray } → IntsAre vs ns → ns.length ≤ n → s₁.gens = #[] →
  codeAny (model l.prog w) callerA (.call (.ref fa) ⟨[.ref a], []⟩) (fun r s' => r = .ok (.ret (.bool true)) ∧ OldK s₁.heap s'.heap ∧ s'.os = s₁.os ∧ AllBare s'.gens) s₁) :
 WalkO q loose XP YP l.row.toRowW d [] (fun f vs => PySem.call f vs) := by
 intro w s₀ s₁ mg mb G Y fa o pm cd doc dV kV ho hd hcd hD hmg hg args vals as hpre hlay hrd hwl hlo
 obtain rfl : dV = .none := Dflts.none hD hdf
 obtain rfl : kV = .none := Dflts.noKw hD
 obtain ⟨a, vs, ns, rfl, rfl, hobj, hints, hlen⟩ := script_of hn hpre hwl
 refine enter_call (codeAny_mono (call w s₀ s₁ mg mb fa o pm cd doc a vs ns G Y ho (fd_plain hd) hcd hmg hobj hints hlen hg) fun r s' hq => ?_)
 obtain ⟨rfl, h2, h3, h4⟩ := hq
 exact ⟨.inl ⟨.bool true, .bool true, [], rfl, fun _ => rfl, .bool true, post_true l _, fun _ => ⟨List.Pairwise.nil, fun _ hm => (nomatch hm)⟩⟩, h2, h3, h4⟩
section
variable {prog : Program} {w : World} {A : Around} {E : Value → Shared → Prop} {s : Shared} {K : Frag}
end
end Att
namespace L2
open PySem PySem.Spec PyProof.Rows
theorem vals_ints : ∀ {vs : List Value} {ns : List Int}, IntsAre vs ns → Vals (ns.map V.int) vs
 | _, _, .nil => .nil
 | _, _, .cons n t h => .cons ⟨t, rfl⟩ (vals_ints h)
noncomputable def Only (H : Hp) : Prop := ∀ b, H b = none ∨ ∃ o xs, H b = some (.frz o (.lst xs))
theorem law_call {P : Program} {w : World} {K : PySem.W.Frag} {mg mb : Str → Option Value} {CX : CXT} {k : Nat} {fa a : Addr} {fd : FuncData} {x : Str} {sp : Sp} {s₁ : Shared} {vs : List Value} {ns : List Int}
 (KX : K.In s₁.heap) (hns : s₁.heap.Ns mainGlobals mg) (hb : s₁.heap.Ns builtinsNs mb) (hbb : ∀ x : Str, x ≠ "__name__" → mb x = bootBuiltins x) (hlim : s₁.heap.NoLimit) (hg : s₁.gens = #[])
 (ha : s₁.heap.get? a = some { cls := .type "list", data := .seq vs.toArray }) (hi : IntsAre vs ns) (hl : ns.length ≤ sizeLine) (hr : Room k callerA)
 (F : ∀ base : Heap, K.In base → base.Ns mainGlobals mg → FnOk P w K mg base CX k fa fd [x] sp) (hbind : ∀ (s : Shared) (u : Value), BindsTo s fd ⟨[u], []⟩ [(x, u)])
 (hsp : ∀ H : Hp, Only H → SqL K H a (ns.map V.int) → sp [.ref a] H (fun v _ => v = .bl true) fun _ _ _ => False)
 (hCX : ∀ H e s', CX [] H s₁ (fun _ _ _ => False) e s' → False) :
 codeAny (model P w) callerA (.call (.ref fa) ⟨[.ref a], []⟩) (fun r s' => r = .ok (.ret (.bool true)) ∧ OldK s₁.heap s'.heap ∧ s'.os = s₁.os ∧ AllBare s'.gens) s₁ := by
 have rv := vals_ints hi
 have lenV := hi.length
 have core : ∀ H : Hp, Only H → SqL K H a (ns.map V.int) → HOk P w H s₁.heap → (∀ b, H b ≠ none → b = a) → (H a ≠ none → K.lookup a = none) →
  codeAny (model P w) callerA (.call (.ref fa) ⟨[.ref a], []⟩) (fun r s' => r = .ok (.ret (.bool true)) ∧ OldK s₁.heap s'.heap ∧ s'.os = s₁.os ∧ AllBare s'.gens) s₁ := by
  intro H hO hS hok hA hK
  have base_of : ∀ {b : Addr} {o : Obj}, s₁.heap.get? b = some o → H b = none → (hidT s₁.heap H).get? b = some o := fun e n => hidT_get e n
  have noA : ∀ {b : Addr} {o : Obj} {es : Array DictEntry} {ep : Nat}, s₁.heap.get? b = some o → o.data = .dict es ep → H b = none := fun {b o es ep} e d => by
   cases q : H b with
   | none => rfl
   | some u =>
    have e' : b = a := hA b (by rw [q]; simp)
    subst e'
    rw [ha] at e; cases e
    have d' : Data.seq vs.toArray _ = Data.dict es ep := d
    cases d'
  have nsK : ∀ {b : Addr} {m : Str → Option Value}, s₁.heap.Ns b m → (hidT s₁.heap H).Ns b m := fun {b m} ⟨o, es, ep, e, d, r⟩ => ⟨o, es, ep, base_of e (noA e d), d, r⟩
  have hKb : K.In (hidT s₁.heap H) := fun b o e => base_of (KX b o e) (by
   cases q : H b with
   | none => rfl
   | some u =>
    have e' : b = a := hA b (by rw [q]; simp)
    subst e'
    rw [hK (by rw [q]; simp)] at e; cases e)
  have hM : Mod K mg (hidT s₁.heap H) := ⟨hKb, nsK hns, ⟨mb, nsK hb, hbb⟩, let ⟨mc, h1, h2⟩ := hlim; ⟨mc, nsK h1, h2⟩⟩
  have e0 : Env0 P w K mg (hidT s₁.heap H) callerA [] s₁ H := ⟨rfl, hM, fun b o e => of_hidT e, Nat.le_of_eq (hidT_size _ _), trivial, fun b hb => absurd (show b ∈ ([] : List Addr) from hb) (by simp), hok, .of_eq hg⟩
  refine codeAny_mono ((F _ hKb (nsK hns)).run callerA [] s₁ H ⟨[.ref a], []⟩ [.ref a] [.ref a] _ _ hr e0 (hbind s₁ (.ref a)) (.cons rfl .nil) (hsp H hO hS)) fun r s' h => ?_
  cases r with
  | error e => exact (hCX H e s' h).elim
  | ok fl =>
   cases fl with
   | next => exact False.elim h
   | brk => exact False.elim h
   | cont => exact False.elim h
   | ret u =>
    obtain ⟨v, H', os, bare, un, hok', r', q⟩ := h
    have q' : v = .bl true := q
    subst q'
    obtain rfl : u = Value.bool true := r'
    refine ⟨rfl, OldK.of_keep fun b o e => ?_, os, bare⟩
    cases q : H b with
    | none => exact un.keep b o e q (by intro z; exact absurd (show b ∈ ([] : List Addr) from z) (by simp)) (by simp)
    | some u =>
     rcases hO b with z | ⟨ob, xs, z⟩
     · rw [q] at z; cases z
     · have z2 := un.frzs b ob _ z
       obtain ⟨e1, _⟩ := hok b _ z
       obtain ⟨e2, _⟩ := hok' b _ z2
       rw [e] at e1; cases e1
       exact e2
 cases hk : K.lookup a with
 | some o =>
  have e := KX a o hk
  rw [ha] at e
  cases e
  refine core (fun _ => none) (fun _ => .inl rfl) (.inr ⟨_, vs.toArray, _, hk, rfl, rfl, rfl, by rw [List.size_toArray, lenV]; exact hl, by simpa using rv⟩) (fun b u z => by have z' : (none : Option HO) = some u := z; cases z') (fun b z => absurd rfl z) fun z => absurd rfl z
 | none =>
  refine core (fun b => if b = a then some (.frz { cls := .type "list", data := .seq vs.toArray } (.lst (ns.map V.int))) else none) (fun b => ?_) (.inl (.inr ⟨{ cls := .type "list", data := .seq vs.toArray }, if_pos rfl⟩)) (fun b u z => ?_) (fun b z => ?_) fun _ => hk
  · by_cases hb : b = a
    · exact .inr ⟨_, _, if_pos hb⟩
    · exact .inl (if_neg hb)
  · by_cases hb : b = a
    · have z' := (if_pos hb).symm.trans z
      cases z'
      subst hb
      exact ⟨ha, by rw [List.length_map]; exact hl, vs, _, rv, ha⟩
    · have z' := (if_neg hb).symm.trans z
      cases z'
  · by_cases hb : b = a
    · exact hb
    · exact absurd (if_neg hb) z
end L2
namespace L2
open PySem PySem.Spec PyProof.Rows
theorem walk_of {l : PySem.W.OpenLaw} {n k : Nat} {q : Program} {loose : List Str} {XP : (Str → Option Value) → Heap → Prop} {YP : World → Heap → Prop} {d : DefRec} {K : Params → PySem.W.Frag} {CX : World → CXT} {sp : World → Sp} {x : Str}
 (hn : l.most = some n) (hn2 : n ≤ sizeLine) (hdf : d.params.defaults = []) (hr : Room k callerA)
 (hY : ∀ (w : World) (h : Heap), YP w h → (K w.params).In h)
 (F : ∀ (w : World) (mg : Str → Option Value) (fa : Addr) (h : Heap), (K w.params).In h → h.Ns mainGlobals mg → mg d.name = some (.ref fa) →
  ∃ fd : FuncData, (∀ (s : Shared) (u : Value), BindsTo s fd ⟨[u], []⟩ [(x, u)]) ∧
   ∀ base : Heap, (K w.params).In base → base.Ns mainGlobals mg → FnOk l.prog w (K w.params) mg base (CX w) k fa fd [x] (sp w))
 (hsp : ∀ (w : World) (H : Hp) (a : Addr) (ns : List Int), ns.length ≤ n → Only H → SqL (K w.params) H a (ns.map V.int) → sp w [.ref a] H (fun v _ => v = .bl true) fun _ _ _ => False)
 (hCX : ∀ (w : World) (H : Hp) (s : Shared) (e : Value) (s' : Shared), CX w [] H s (fun _ _ _ => False) e s' → False) :
 PySem.W.WalkO q loose XP YP l.row.toRowW d [] (fun f vs => PySem.call f vs) := by
 refine Att.attach_call hn hdf fun w s₀ s₁ mg mb fa o pm cd doc a vs ns G Y ho hd hcd hmg hobj hints hlen hg => ?_
 have KX := hY w _ Y
 obtain ⟨fd, hb, hF⟩ := F w mg fa _ KX G.T.g hmg
 exact law_call KX G.T.g G.T.b G.T.builtins G.T.nolimit hg hobj hints (Nat.le_trans hlen hn2) hr hF hb (fun H hO hS => hsp w H a ns hlen hO hS) fun H e s' => hCX w H s₁ e s'
end L2
namespace L2
open PySem PySem.Spec PyProof.Rows
noncomputable def zz0 (s : Stmt) (j : Nat) : Stmt := match s with
 | .ClassDef _ _ _ body _ _ _ _ _ _ _ => body.getD j (.Pass ⟨0, 0, 0, 0⟩)
 | _ => .Pass ⟨0, 0, 0, 0⟩
noncomputable def zd2 (s : Stmt) : Arguments := match s with
 | .FunctionDef _ a _ _ _ _ _ _ _ _ => a
 | _ => { posonlyargs := [], args := [], vararg := none, kwonlyargs := [], kw_defaults := [], kwarg := none, defaults := [] }
noncomputable def zc6 (s : Stmt) : List Stmt := match s with
 | .FunctionDef _ _ b _ _ _ _ _ _ _ => b
 | _ => []
noncomputable def zb3 (s : Stmt) : Scope := match s with
 | .FunctionDef _ _ _ _ _ _ sc _ _ _ => sc
 | _ => { kind := .function, names := [], isGenerator := false, isCoroutine := false }
noncomputable abbrev CX0 : CXT := fun _ _ _ _ _ _ => False
noncomputable abbrev E0 : XK := fun _ _ _ => False
theorem pass0 {X : Cx} : ya1 CX0 X E0 := fun _ _ _ _ _ _ _ h => h.elim
structure Fun (K : PySem.W.Frag) (x qual : Str) (st : Stmt) (f : Addr) (fd : FuncData) : Prop where
 ex : ∃ (oc : Value) (od : Option Addr) (kV doc pm : Value) (an : Option Addr) (cdv ct : Value) (osl : Array (Option Value)),
  fd = PySem.W.fnOf x qual (zd2 st) (zc6 st) (zb3 st) .none kV doc pm an cdv ct ∧ K.lookup f = some ⟨oc, od, .func fd, osl⟩ ∧ PySem.W.codeIn K cdv qual = true
 kp : PySem.W.keepIn K (.ref f) = true
section
variable {P : Program} {w : World} {K : PySem.W.Frag} {mg : Str → Option Value} {base : Heap}
theorem Fun.ok {x qual : Str} {st : Stmt} {f : Addr} {fd : FuncData} {N ps : List Str} {k : Nat} {sp : Sp} (F : Fun K x qual st f fd) (S : FnScope N ps (zb3 st)) (len : ∀ vs H Q E, sp vs H Q E → vs.length = ps.length)
 (hbody : ∀ (cdv : Value) (A : Around) (outer : List Env) (s : Shared) (H : Hp) (vs : List V) (Q : VK) (E : XK), Room k (A.deeper (envOfC qual (zb3 st) s.heap.objs.size f cdv)) → sp vs H Q E →
  ∃ t, PSs (cxOf CX0 P w K mg base N qual (zb3 st) f cdv A outer s H E).nox (zc6 st) t ∧ t { nx := fun _ H' => Q .non H', rt := Q } (start N vs) H) : FnOk P w K mg base CX0 (k + 1) f fd ps sp := by
 obtain ⟨oc, od, kV, doc, pm, an, cdv, ct, osl, rfl, lk, hcd⟩ := F.ex
 refine fn_of lk hcd S len fun A outer s H vs Q E hr hsp => ?_
 obtain ⟨t, h, q⟩ := hbody cdv A outer s H vs Q E hr hsp
 exact ⟨t, h.nox, q⟩
theorem Fun.binds {x qual : Str} {st : Stmt} {f : Addr} {fd : FuncData} {ps : List Str} (F : Fun K x qual st f fd)
 (h : ∀ (kV doc pm : Value) (an : Option Addr) (cdv ct : Value) (us : List Value), us.length = ps.length → bindArgs (PySem.W.fnOf x qual (zd2 st) (zc6 st) (zb3 st) .none kV doc pm an cdv ct) ⟨us, []⟩ = pure (ps.zip us)) : Binds K fd ps [] := by
 obtain ⟨oc, od, kV, doc, pm, an, cdv, ct, osl, rfl, lk, hcd⟩ := F.ex
 exact .all (h kV doc pm an cdv ct)
theorem zi2 {x qual : Str} {st : Stmt} {f : Addr} {oc : Value} {od an : Option Addr} {osl : Array (Option Value)} {kV doc pm cdv ct : Value} (l : K.lookup f = some ⟨oc, od, .func (PySem.W.fnOf x qual (zd2 st) (zc6 st) (zb3 st) .none kV doc pm an cdv ct), osl⟩)
 (c : PySem.W.codeIn K cdv qual = true) (k : PySem.W.keepIn K (.ref f) = true) : Fun K x qual st f (PySem.W.fnOf x qual (zd2 st) (zc6 st) (zb3 st) .none kV doc pm an cdv ct) := ⟨⟨oc, od, kV, doc, pm, an, cdv, ct, osl, rfl, l, c⟩, k⟩
end
theorem small1000 {n : Nat} (h : n ≤ 1000) : n < sizeLine := Nat.lt_of_le_of_lt h (by decide)
section
variable {X : Cx}
theorem pv (i : Nat) {x : Str} {pos : Pos} (hN : X.N[i]? = some x := by rfl) (hv : Vis X.env.scope x := by first | exact Or.inl rfl | exact Or.inr (Or.inl rfl) | exact Or.inr (Or.inr rfl)) (hd : (x == ("__debug__" : Str)) = false := by decide)
 (hcd : (x == ("__classdict__" : Str)) = false := by decide) : PE X (.Name x pos) (tVar i) := pe_var hN hv hd hcd
end
noncomputable def Same (H H' : Hp) : Prop := ∀ b o, H b = some o → H' b = some o
theorem Same.refl (H : Hp) : Same H H := fun _ _ h => h
theorem Same.trans {H H1 H2 : Hp} (a : Same H H1) (b : Same H1 H2) : Same H H2 := fun c o h => b c o (a c o h)
theorem Same.seq {K : PySem.W.Frag} {H H' : Hp} {a : Addr} {xs : List V} (e : Same H H') (h : SqL K H a xs) : SqL K H' a xs := by
 rcases h with (h | ⟨o, h⟩) | h
 · exact .inl (.inl (e _ _ h))
 · exact .inl (.inr ⟨o, e _ _ h⟩)
 · exact .inr h
end L2
set_option Elab.async false
set_option linter.all false
set_option maxRecDepth 100000
namespace L2
open PySem PySem.Spec PyProof.Rows
noncomputable def clGo (cells : List (Str × Addr)) : List (Str × NameKind) → List (Str × Addr) → List (Str × Addr)
 | [], cs => cs
 | (n, k) :: r, cs => clGo cells r (if k == .free then (n, (cells.lookup n).getD 0) :: cs else cs)
noncomputable def clOf (scope : Scope) (env : Env) : List (Str × Addr) := clGo env.cells scope.names []
theorem clGo_eq {env : Env} : ∀ (names : List (Str × NameKind)) (cs : List (Str × Addr)), (∀ y ∈ names, y.2 = .free → ∃ c, env.cells.lookup y.1 = some c) →
 (forIn names cs fun (x : Str × NameKind) (r : List (Str × Addr)) => (match x with
  | (name, kind) => if (kind == NameKind.free) = true then do let a ← cellOf env name; pure (ForInStep.yield ((name, a) :: r)) else pure (ForInStep.yield r) : Sem (ForInStep (List (Str × Addr))))) = (pure (clGo env.cells names cs) : Sem _)
 | [], cs, _ => rfl
 | (n, k) :: r, cs, h => by
  have hr := fun cs' => clGo_eq (env := env) r cs' fun y hy => h y (List.mem_cons_of_mem _ hy)
  rw [List.forIn_cons]
  by_cases hk : (k == NameKind.free) = true
  · obtain ⟨c, hc⟩ := h (n, k) List.mem_cons_self (by simpa using hk)
    have e1 : cellOf env n = pure c := by unfold cellOf; rw [hc]
    simp only [hk, if_true, e1, pure_bind]
    rw [hr]
    unfold clGo
    rw [if_pos hk, hc]
    conv => rhs; unfold clGo
    rfl
  · simp only [hk, if_false, pure_bind, Bool.false_eq_true]
    rw [hr]
    conv => rhs; unfold clGo
    rw [if_neg hk]
theorem closure_of {scope : Scope} {env : Env} (h : ∀ y ∈ scope.names, y.2 = .free → ∃ c, env.cells.lookup y.1 = some c) : closureFor scope env = pure (clOf scope env) := by
 unfold closureFor clOf
 rw [← clGo_eq scope.names [] h]
 simp
theorem clGo_lookup {cells : List (Str × Addr)} {x : Str} {c : Addr} : ∀ (names : List (Str × NameKind)) (cs : List (Str × Addr)), (∀ y ∈ names, y.2 = .free → ∃ d, cells.lookup y.1 = some d) → (∀ d, cs.lookup x = some d → cells.lookup x = some d) →
 (clGo cells names cs).lookup x = some c → cells.lookup x = some c
 | [], cs, _, hc, h => hc c h
 | (n, k) :: r, cs, hn, hc, h => by
  unfold clGo at h
  refine clGo_lookup r _ (fun y hy => hn y (List.mem_cons_of_mem _ hy)) ?_ h
  intro d hd
  by_cases hk : (k == NameKind.free) = true
  · rw [if_pos hk] at hd
    obtain ⟨e, he⟩ := hn (n, k) List.mem_cons_self (by simpa using hk)
    simp only at he
    rw [List.lookup_cons] at hd
    cases hx : x == n with
    | true =>
     have : x = n := by simpa using hx
     subst this
     rw [hx] at hd
     simp only [Option.some.injEq] at hd
     rw [he] at hd ⊢
     simp at hd
     rw [hd]
    | false =>
     rw [hx] at hd
     exact hc d hd
  · rw [if_neg hk] at hd
    exact hc d hd
theorem yd9 {cells : List (Str × Addr)} {x : Str} : ∀ (names : List (Str × NameKind)) (cs : List (Str × Addr)), ((x, NameKind.free) ∈ names ∨ ∃ d, cs.lookup x = some d) → ∃ d, (clGo cells names cs).lookup x = some d
 | [], cs, h => by
  rcases h with h | h
  · cases h
  · exact h
 | (n, k) :: r, cs, h => by
  unfold clGo
  refine yd9 r _ ?_
  rcases h with h | ⟨d, h⟩
  · rcases List.mem_cons.mp h with e | h
    · cases e
      exact .inr ⟨_, by rw [if_pos (by rfl), List.lookup_cons, beq_self_eq_true]⟩
    · exact .inl h
  · refine .inr ?_
    split
    · rw [List.lookup_cons]
      cases hx : x == n with
      | true => exact ⟨_, rfl⟩
      | false => exact ⟨d, h⟩
    · exact ⟨d, h⟩
theorem zs4 {scope : Scope} {env : Env} {x : Str} {k : NameKind} (h : (relabel scope env).names.lookup x = some k) (hk : k = .cell ∨ k = .free) (hc : ∀ y ∈ scope.names, y.2 ≠ .cell) : (x, NameKind.free) ∈ scope.names := by
 have hm := PySem.mem_of_lookup h
 unfold relabel at hm
 obtain ⟨⟨n, k'⟩, hy, e⟩ := List.mem_map.mp hm
 by_cases q : (k' == NameKind.free && env.scope.kind == .function && env.kindOf n == some .cell) = true
 · simp only [q, if_true] at e
   cases e
   have : k' = .free := by
    simp only [Bool.and_eq_true, beq_iff_eq] at q
    exact q.1.1
   subst this
   exact hy
 · simp only [q, if_false, Bool.false_eq_true] at e
   cases e
   rcases hk with rfl | rfl
   · exact absurd rfl (hc _ hy)
   · exact hy
noncomputable def lift (ix : List (Option Nat)) (σ : St) : St := ix.map fun o => match o with
 | none => none
 | some i => match σ[i]? with
  | some v => v
  | none => none
structure CompScope (X : Cx) (scope : Scope) (N : List Str) (ix : List (Option Nat)) : Prop where
 kind : scope.kind = .function
 nocell : ∀ y ∈ scope.names, y.2 ≠ .cell
 locs : ∀ y ∈ scope.names, y.2 = .local → scope.names.lookup y.1 = some .local
 free : ∀ y ∈ scope.names, y.2 = .free → X.env.kindOf y.1 = some .cell ∨ X.env.kindOf y.1 = some .free
 len : ix.length = N.length
 nd : N.Nodup
 from' : ∀ j i : Nat, ix[j]? = some (some i) → ∃ x, N[j]? = some x ∧ X.N[i]? = some x ∧ (X.env.kindOf x = some .cell ∨ X.env.kindOf x = some .free) ∧ ((relabel scope X.env).names.lookup x = some .cell ∨ (relabel scope X.env).names.lookup x = some .free)
noncomputable def zm2 (X : Cx) (scope : Scope) (N : List Str) (s₀ : Shared) (H₀ : Hp) (C : Addr) (ex : List Addr) : Cx where
 prog := X.prog
 w := X.w
 K := X.K
 mg := X.mg
 base := X.base
 A := X.A
 N := N
 s₀ := s₀
 H₀ := H₀
 env := compEnvC scope (clOf scope X.env) C X.env
 outer := X.stack
 stack := X.stack
 ex := ex
 fn := fun _ => false
 calm := X.calm
 pn := []
 xe := fun _ _ => False
section
variable {X : Cx} {pins : List (Addr × Obj)} {σ : St} {H : Hp} {s : Shared} {scope : Scope} {N : List Str} {ix : List (Option Nat)}
theorem CompScope.cells (S : CompScope X scope N ix) (I : Inv X pins σ H s) : ∀ y ∈ scope.names, y.2 = .free → ∃ c, X.env.cells.lookup y.1 = some c := fun y hy hk => I.ok.has y.1 (S.free y hy hk)
theorem CompScope.sub (S : CompScope X scope N ix) (I : Inv X pins σ H s) {x : Str} {c : Addr} (h : (clOf scope X.env).lookup x = some c) : X.env.cells.lookup x = some c :=
 clGo_lookup scope.names [] (S.cells I) (fun d h => by simp at h) h
theorem CompScope.start (S : CompScope X scope N ix) (I : Inv X pins σ H s) {fp : List Addr} {C D : Addr} {h' : Heap} {tk : Nat} (hf : ∀ b ∈ fp, FpOk X pins H b) (hfo : ∀ b ∈ fp, ∃ o, s.heap.get? b = some o) (hD : D = s.heap.objs.size) (hC : s.heap.objs.size < C)
 (k : ∀ b o, s.heap.get? b = some o → h'.get? b = some o) (hn : h'.Ns C fun _ => none) : Inv (zm2 X scope N s H C (D :: fp)) [] (lift ix σ) H { s with heap := h', toks := tk } := by
 have ltC : ∀ x c, X.env.cells.lookup x = some c → c < s.heap.objs.size := fun x c e => let ⟨v, q⟩ := I.cell x c e; q.lt
 refine ⟨⟨I.ok.mod, S.kind, I.ok.glob, I.ok.blt, Nat.le_of_lt hC, fun x y c h1 h2 => I.ok.inj x y c (S.sub I h1) (S.sub I h2), fun x hx => ?_, fun x c z => ?_, I.ok.hd, I.ok.frames, .inl rfl, fun b hb => ?_, I.bs, Nat.le_trans I.ok.bsz I.sz, fun b o e hb => ?_, fun b hb hb' => ?_, I.stack, I.stkFree⟩,
  rfl, I.bare, Un.kept k, ⟨_, hn, fun j x v e1 e2 e3 => ?_⟩, fun x c e => ?_, I.hok.fresh (Nat.le_of_lt hC), fun x c e => I.freeC x c (S.sub I e), fun p hp => absurd (show p ∈ ([] : List (Addr × Obj)) from hp) (by simp), I.hok.kept k, ?_⟩
 · have hx : (relabel scope X.env).names.lookup x = some .cell ∨ (relabel scope X.env).names.lookup x = some .free := hx
   have hm : (x, NameKind.free) ∈ scope.names := by
    rcases hx with h | h
    · exact zs4 h (.inl rfl) S.nocell
    · exact zs4 h (.inr rfl) S.nocell
   exact yd9 _ _ (.inl hm)
 · cases z
 · rcases List.mem_cons.mp hb with e | hb
   · subst e
     subst hD
     exact ⟨Nat.ne_of_lt hC, fun x c e z => absurd (ltC x c (S.sub I e)) (by rw [z]; exact Nat.lt_irrefl _)⟩
   · obtain ⟨o, e⟩ := hfo b hb
     exact ⟨Nat.ne_of_lt (Nat.lt_trans (Heap.lt_size e) hC), fun x c e => (hf b hb).2.2.2.2.1 x c (S.sub I e)⟩
 · have lb := Nat.lt_of_lt_of_le (Heap.lt_size e) I.ok.bsz
   rcases List.mem_cons.mp hb with z | hb
   · subst z
     subst hD
     exact absurd (Nat.lt_of_lt_of_le lb I.sz) (Nat.lt_irrefl _)
   · rcases (hf b hb).2.2.2.1 with z | z
     · exact I.ok.noex b o e z
     · exact absurd (Nat.lt_of_lt_of_le lb z) (Nat.lt_irrefl _)
 · have hs := I.stkSub b hb'
   rcases List.mem_cons.mp hb with z | hb
   · subst z
     subst hD
     rcases List.mem_cons.mp hs with z | z
     · exact absurd I.lt (by rw [← z]; exact Nat.lt_irrefl _)
     · exact I.nofs (Nat.le_refl _) z
   · rcases List.mem_cons.mp hs with z | z
     · exact (hf b hb).2.1 z
     · exact (hf b hb).2.2.1 z
 · unfold lift at e2
   rw [List.getElem?_map] at e2
   cases q : ix[j]? with
   | none => rw [q] at e2; cases e2
   | some o =>
    rw [q] at e2
    cases o with
    | none => cases e2
    | some i =>
     obtain ⟨y, f1, f2, f3, f4⟩ := S.from' j i q
     have e1' : N[j]? = some x := e1
     rw [f1] at e1'
     cases e1'
     simp only [Option.map_some, Option.some.injEq] at e2
     cases q2 : σ[i]? with
     | none => rw [q2] at e2; cases e2
     | some w =>
      rw [q2] at e2
      simp only at e2
      subst e2
      obtain ⟨m, hm, hl⟩ := I.loc
      have vis : Vis X.env.scope x := by
       rcases f3 with z | z
       · exact .inr (.inl z)
       · exact .inr (.inr z)
      obtain ⟨u, r, l⟩ := hl i x v f2 q2 vis
      refine ⟨u, r, .inr ⟨f4, ?_⟩⟩
      rcases l with ⟨l1, _⟩ | ⟨_, c, hc, hcell⟩
      · rw [l1] at f3
        rcases f3 with z | z <;> cases z
      · have hmf : (x, NameKind.free) ∈ scope.names := by
         rcases f4 with h | h
         · exact zs4 h (.inl rfl) S.nocell
         · exact zs4 h (.inr rfl) S.nocell
        obtain ⟨d, hd⟩ := yd9 (cells := X.env.cells) scope.names [] (.inl hmf)
        have hd' := S.sub I hd
        rw [hc] at hd'
        cases hd'
        refine ⟨c, hd, ?_⟩
        obtain ⟨o, ho, hod⟩ := hcell
        exact ⟨o, k _ _ ho, hod⟩
 · obtain ⟨v, o, ho, hod⟩ := I.cell x c (S.sub I e)
   exact ⟨v, o, k _ _ ho, hod⟩
 · show (lift ix σ).length = N.length
   unfold lift
   rw [List.length_map, S.len]
end
end L2
set_option Elab.async false
set_option linter.all false
set_option maxRecDepth 100000
namespace L2
open PySem PySem.Spec PyProof.Rows
theorem codeAny_compLoop_own {prog : Program} {w : World} {A : Around} {R : Result → Shared → Prop} {s : Shared} {elt target iter : Expr} {ifs : List Expr} {scope : Scope} {pos : Pos} {it acc : Value} {env : Env} (I : Nat → Shared → Prop)
 (turn : ∀ n s, I n s → wpAny (model prog w) A (pyNext it) (fun r s₁ => match r with
  | none => R (.ok .next) s₁
  | some v => wpAny (model prog w) A (letOwnedTupleGo target it v) (fun _ s₁' => wpAny (model prog w) A (assign target env v) (fun _ s₂ =>
   wpAny (model prog w) A (forIn ifs true fun c r => if r = true then do let ok ← isTrue c env (eval c env); pure (ForInStep.yield ok) else pure (ForInStep.yield r)) (fun ok s₃ =>
    if ok = true then wpAny (model prog w) A (eval elt env) (fun x s₄ =>
     wpAny (model prog w) A (call (.builtin "list.append") [acc, x]) (fun _ s₅ => ∃ m, m < n ∧ I m s₅) (fun _ _ => False) s₄) (fun _ _ => False) s₃
    else ∃ m, m < n ∧ I m s₃) (fun _ _ => False) s₂) (fun _ _ => False) s₁') (fun _ _ => False) s₁) (fun _ _ => False) s)
 (n : Nat) (h : I n s) :
 codeAny (model prog w) A (.compLoop (.ListComp elt [⟨target, iter, ifs, 0⟩] scope pos) 0 it acc env) R s := by
 refine codeAny_loop rfl I (fun n s hI => ?_) n h
 show wpAny _ A ((compTurn (.ListComp elt [⟨target, iter, ifs, 0⟩] scope pos) 0 it acc env).onRaise (fun x => do noteFrame x env; theTreesLotGoes x)) _ _ s
 refine wpAny_noted ?_
 rw [compTurn_list]
 refine wpAny_bind (wpAny_standAt (wpAny_bind (wpAny_mono (turn n s hI) (fun r s₁ h₁ => ?_) fun _ _ h' => h'.elim)))
 cases r with
 | none => exact wpAny_pure h₁
 | some v =>
  refine wpAny_bind (wpAny_mono h₁ (fun _ s₁' h₁' => ?_) fun _ _ h' => h'.elim)
  refine wpAny_bind (wpAny_mono h₁' (fun _ s₂ h₂ => wpAny_bind (wpAny_mono h₂ (fun ok s₃ h₃ => ?_) fun _ _ h' => h'.elim)) fun _ _ h' => h'.elim)
  cases ok with
  | false => exact wpAny_pure ⟨rfl, h₃⟩
  | true =>
   exact wpAny_bind (wpAny_bind (wpAny_mono h₃ (fun x s₄ h₄ => wpAny_bind (wpAny_mono h₄ (fun _ s₅ h₅ => wpAny_pure (wpAny_pure ⟨rfl, h₅⟩)) fun _ _ h' => h'.elim)) fun _ _ h' => h'.elim))
noncomputable def PIfs (X : Cx) (ifs : List Expr) (t : TT) : Prop :=
 ∀ (pins : List (Addr × Obj)) (s : Shared) (σ : St) (H : Hp) (Q : Bool → Hp → Prop), Inv X pins σ H s → t σ H Q →
  wpAny (model X.prog X.w) X.A (forIn ifs true fun c r => if r = true then do let ok ← isTrue c X.env (eval c X.env); pure (ForInStep.yield ok) else pure (ForInStep.yield r)) (TP X pins σ Q) X.xe s
noncomputable def tYes : TT := fun _ H Q => Q true H
theorem zw5 {X : Cx} : PIfs X [] tYes := fun _ _ _ H _ I h => wpAny_tests_nil ⟨H, I, h⟩
theorem zu6 {X : Cx} {c : Expr} {t : TT} (h : PT X c t) : PIfs X [c] t := fun pins s σ H Q I q => wpAny_tests_one (h pins s σ H Q I q)
noncomputable def Ext (σ σ' : St) : Prop := σ.length = σ'.length ∧ ∀ (i : Nat) (v : V), σ[i]? = some (some v) → σ'[i]? = some (some v)
theorem Ext.refl (σ : St) : Ext σ σ := ⟨rfl, fun _ _ h => h⟩
theorem Ext.set {σ σ' : St} {j : Nat} {v : V} (e : Ext σ σ') (h : σ[j]? = some none) : Ext σ (σ'.set j (some v)) := by
 refine ⟨by rw [List.length_set]; exact e.1, fun i u q => ?_⟩
 have hne : j ≠ i := fun z => by subst z; rw [h] at q; cases q
 rw [List.getElem?_set_ne hne]
 exact e.2 i u q
theorem zz1 {ix : List (Option Nat)} {σ : St} {j : Nat} (h : ix[j]? = some none) : (lift ix σ)[j]? = some none := by
 unfold lift
 rw [List.getElem?_map, h]
 rfl
noncomputable def GFree (ix : List (Option Nat)) (g : TG) : Prop := ∀ (v : V) (σ : St) (H : Hp) (Q : St → Hp → Prop), g v (lift ix σ) H Q → g v (lift ix σ) H fun σ2 H2 => Q σ2 H2 ∧ Ext (lift ix σ) σ2
theorem zk8 {ix : List (Option Nat)} {j : Nat} (h : ix[j]? = some none) : GFree ix (gName j) := fun v σ H Q q => ⟨q, (Ext.refl _).set (zz1 h)⟩
theorem gfree_two {ix : List (Option Nat)} {j k : Nat} {K : PySem.W.Frag} {n : Nat} (h : ix[j]? = some none) (h' : ix[k]? = some none) : GFree ix (gTup K n (gCons (gName j) (gCons (gName k) gNil))) := fun v σ H Q q => by
 obtain ⟨a, xs, e1, e2, e3, v1, r1, e4, v2, r2, e5, e6, q⟩ := q
 exact ⟨a, xs, e1, e2, e3, v1, r1, e4, v2, r2, e5, e6, q, ((Ext.refl _).set (zz1 h)).set (zz1 h')⟩
noncomputable def tComp (ix : List (Option Nat)) (wi : TI) (g : TG) (tc : TT) (te : TE) : TE := fun σ H Q => wi σ H fun J H1 => ∃ W : Nat → Nat → List V → Hp → Prop, (∃ m, W 0 m [] H1) ∧ ∀ i m ys H, W i m ys H →
 (J.stop i H ∧ ys.length ≤ sizeLine ∧ ∀ p, H p = none → Q (.ref p) (upd H p (.lst ys))) ∨
 (J.go i H ∧ ys.length < sizeLine ∧ ∃ N : List V → Hp → Prop, (∀ ys' H', N ys' H' → ∃ m', m' < m ∧ W (i + 1) m' ys' H') ∧ ∀ x H', J.yld i H x H' → g x (lift ix σ) H' fun σ2 H2 => tc σ2 H2 fun b H3 => if b = true then te σ2 H3 fun v H4 => N (ys ++ [v]) H4 else N ys H3)
theorem comp_end {X : Cx} {pins pins' : List (Addr × Obj)} {σ σ' : St} {H2 H' : Hp} {s2 s4 : Shared} {scope : Scope} {N : List Str} {C D : Addr} {fp : List Addr} {h' : Heap} {ys : List V} {its : List Value} {n : Nat}
 (I2 : Inv X pins σ H2 s2) (I' : Inv (zm2 X scope N s2 H2 C (D :: fp)) pins' σ' H' s4) (f2 : ∀ b ∈ fp, FpOk X pins H2 b) (hD : D = s2.heap.objs.size) (hC : s2.heap.objs.size < C) (hDC : D ≠ C)
 (hs : Heap.SameBut C s4.heap h') (eD : s4.heap.get? D = some { cls := .type "list", data := .seq its.toArray n }) (fD : H' D = none) (rv : Vals ys its) (hz : ys.length ≤ sizeLine) :
 Inv X pins σ (upd H' D (.lst ys)) { s4 with heap := h' } := by
 have lt : ∀ b o, s2.heap.get? b = some o → b ≠ D ∧ b ≠ C := fun b o e =>
  ⟨by rw [hD]; exact Nat.ne_of_lt (Heap.lt_size e), Nat.ne_of_lt (Nat.lt_trans (Heap.lt_size e) hC)⟩
 have nex : ∀ b o, s2.heap.get? b = some o → b ∉ fp → b ∉ D :: fp := fun b o e hb z => by
  rcases List.mem_cons.mp z with z | z
  · exact (lt b o e).1 z
  · exact hb z
 have nD : ∀ b u, H' b = some u → b ≠ D := fun b u e => zh9 e fD
 have nC : ∀ b u, H' b = some u → b ≠ C := fun b u e => zh9 e I'.free
 have u := I'.base
 refine I2.call' (ch := fp) (show s4.os = s2.os from I'.os) ⟨fun b o e n hb hx => ?_, fun b o e n hb hx => ?_, fun b o e n hx => ?_, fun b o e hx => ?_, fun b xs e => ?_, fun b o xs e => ?_, fun b ps e => ?_⟩ (fun b o e => ?_) I'.bare fun b hb => ⟨(f2 b hb).2.2.2.1, (f2 b hb).2.1, (f2 b hb).2.2.2.2.1, (f2 b hb).2.2.2.2.2⟩
 · exact (hs.2 b (lt b o e).2).trans (u.keep b o e n hb (nex b o e hx))
 · obtain ⟨sl, q⟩ := u.slot b o e n hb (nex b o e hx)
   exact ⟨sl, (hs.2 b (lt b o e).2).trans q⟩
 · rw [zd9 (lt b o e).1]
   exact u.free b o e n (nex b o e hx)
 · obtain ⟨o', q⟩ := u.there b o e (nex b o e hx)
   exact ⟨o', (hs.2 b (lt b o e).2).trans q⟩
 · have q := u.tups b xs e
   rw [zd9 (nD b _ q)]
   exact q
 · have q := u.frzs b o xs e
   rw [zd9 (nD b _ q)]
   exact q
 · obtain ⟨m, q⟩ := u.tbls b ps e
   exact ⟨m, by rw [zd9 (nD b _ q)]; exact q⟩
 · by_cases hb : b = D
   · subst hb
     rw [zd1] at e
     cases e
     exact ⟨hz, its, n, rv, (hs.2 b hDC).trans eD⟩
   · rw [zd9 hb] at e
     refine (I'.hok b o e).stay (fun c v hc q => (hs.2 c ?_).trans q) (fun c q => by rw [zd9 (nD c _ q)]; exact q) fun c xs q => by rw [zd9 (nD c _ q)]; exact q
     rcases hc with z | z
     · rw [z]; exact nC b o e
     · exact nC c _ z
section
variable {X : Cx} {elt tg iter : Expr} {ifs : List Expr} {scope : Scope} {pos : Pos} {wi : TI} {g : TG} {tc : TT} {te : TE} {N : List Str} {ix : List (Option Nat)}
theorem comp_core {pins : List (Addr × Obj)} {σ : St} {Q : VK} {s2 : Shared} {itv : Value} {Rr : Value → Addr → Result → Shared → Prop} (S : CompScope X scope N ix) (hc : X.calm = true) (hG : GFree ix g)
 (hb : ∀ (s₀ : Shared) (H₀ : Hp) (C : Addr) (ex : List Addr), PG (zm2 X scope N s₀ H₀ C ex) tg g ∧ PIfs (zm2 X scope N s₀ H₀ C ex) ifs tc ∧ PE (zm2 X scope N s₀ H₀ C ex) elt te)
 (h2 : PIE X pins σ tg (fun J H1 => ∃ W : Nat → Nat → List V → Hp → Prop, (∃ m, W 0 m [] H1) ∧ ∀ i m ys H, W i m ys H →
  (J.stop i H ∧ ys.length ≤ sizeLine ∧ ∀ p, H p = none → Q (.ref p) (upd H p (.lst ys))) ∨
  (J.go i H ∧ ys.length < sizeLine ∧ ∃ N : List V → Hp → Prop, (∀ ys' H', N ys' H' → ∃ m', m' < m ∧ W (i + 1) m' ys' H') ∧ ∀ x H', J.yld i H x H' → g x (lift ix σ) H' fun σ2 H2 => tc σ2 H2 fun b H3 => if b = true then te σ2 H3 fun v H4 => N (ys ++ [v]) H4 else N ys H3)) itv s2)
 (hR : ∀ (s4 : Shared) (H' : Hp) (D C : Addr) (m : Str → Option Value) (ys : List V), s4.heap.Ns C m → FpOk X pins H' C → (∀ h', Heap.SameBut C s4.heap h' → Inv X pins σ (upd H' D (.lst ys)) { s4 with heap := h' }) → Inv X pins σ (upd H' D (.lst ys)) s4 → D ≠ C → Q (.ref D) (upd H' D (.lst ys)) → Rr (.ref D) C (.ok .next) s4) :
 wpAny (model X.prog X.w) X.A (newList []) (fun acc s₃ => wpAny (model X.prog X.w) X.A (newFunctionEnv scope X.env.globals (clOf scope X.env) [] X.env.qual none .none (some X.env)) (fun cenv s₄ =>
  codeAny (model X.prog X.w) X.A (.compStart (.ListComp elt [⟨tg, iter, ifs, 0⟩] scope pos) 0 itv acc { cenv with scope := relabel scope X.env }) (Rr acc cenv.locals) s₄) X.xe s₃) X.xe s2 := by
 obtain ⟨it, fp, tn, J, H2, e, I2, T, st2, f2, W, ⟨m0, w0⟩, turn⟩ := h2
 subst e
 have fo : ∀ b ∈ fp, ∃ o, s2.heap.get? b = some o := fun b hb => let ⟨o, e, _⟩ := T.obj _ _ st2 b hb; ⟨o, e⟩
 refine wpAny_newObj_type (wpAny_newFunctionEnv S.nocell (by intro y hy; simp at hy) (fun h₁ hns₁ hsb₁ => ?_) S.kind)
 dsimp only at hns₁ hsb₁ ⊢
 generalize hH2 : s2.heap.push { cls := .type "list", dict := none, data := .seq ([] : List Value).toArray } = HH at hns₁ hsb₁ ⊢
 have hC : HH.objs.size = s2.heap.objs.size + 1 := by rw [← hH2, Heap.size_push]
 generalize hCC : HH.objs.size = C at hns₁ hsb₁ hC ⊢
 generalize hDD : s2.heap.objs.size = D at hC ⊢
 have hlt : s2.heap.objs.size < C := by rw [hDD, hC]; exact Nat.lt_succ_self _
 have hDC : D ≠ C := by rw [hC]; exact Nat.ne_of_lt (Nat.lt_succ_self _)
 have old : ∀ b o, s2.heap.get? b = some o → h₁.get? b = some o := fun b o e =>
  hsb₁.extBut b o (Nat.ne_of_lt (Nat.lt_trans (Heap.lt_size e) hlt)) (Heap.get?_push_of_some _ (hH2 ▸ Heap.get?_push_of_some _ e))
 have hacc : h₁.PlainList D #[] := ⟨_, hsb₁.extBut _ _ hDC (Heap.get?_push_of_some _ (hH2 ▸ hDD ▸ Heap.get?_push_size _ rfl))⟩
 have hns₂ : h₁.Ns C fun _ => none := hns₁
 have I4 := S.start (tk := s2.toks + ([] : List (Str × Value)).length) I2 f2 fo hDD.symm hlt old hns₂
 obtain ⟨hg, hif, hel⟩ := hb s2 H2 C (D :: fp)
 have stat : ∀ {H' : Hp}, (∀ b ∈ D :: fp, H' b = none) → ∀ b ∈ D :: fp, FpOk (zm2 X scope N s2 H2 C (D :: fp)) [] H' b := fun hn b hb =>
  ⟨hn b hb, (I4.ok.exf b hb).1, I4.ok.exfs b hb, .inl hb, (I4.ok.exf b hb).2, fun p hp => absurd (show p ∈ ([] : List (Addr × Obj)) from hp) (by simp)⟩
 have sub : ∀ b ∈ fp, b ∈ D :: fp := fun b hb => List.mem_cons_of_mem _ hb
 have nDf : ∀ b ∈ fp, b ≠ D := fun b hb z => by
  obtain ⟨o, e⟩ := fo b hb
  exact absurd (Heap.lt_size e) (by rw [z, hDD]; exact Nat.lt_irrefl _)
 have free0 : ∀ b ∈ D :: fp, H2 b = none := fun b hb => by
  rcases List.mem_cons.mp hb with z | hb
  · rw [z]; exact I2.hok.fresh (Nat.le_of_eq hDD)
  · exact (f2 b hb).1
 have loop : ∀ s₃ : Shared, s₃ = { s2 with heap := h₁, toks := s2.toks + ([] : List (Str × Value)).length } →
  codeAny (model X.prog X.w) X.A (.compLoop (.ListComp elt [⟨tg, iter, ifs, 0⟩] scope pos) 0 (.ref it) (.ref D) (compEnvC scope (clOf scope X.env) C X.env))
   (Rr (.ref D) C) s₃ := by
  rintro s₃ rfl
  refine codeAny_compLoop_own (fun n s' => ∃ i H' ys its, Inv (zm2 X scope N s2 H2 C (D :: fp)) [] (lift ix σ) H' s' ∧ tn i s'.heap ∧ (∀ b ∈ D :: fp, H' b = none) ∧ s'.heap.PlainList D (List.toArray its) ∧ Vals ys its ∧ W i n ys H') ?_ m0
   ⟨0, H2, [], [], I4, T.keep _ _ _ st2 fun b _ o e => old b o e, free0, hacc, .nil, w0⟩
  rintro n s3 ⟨i, H3, ys, its, I3, st3, fr3, pl3, rv3, w3⟩
  obtain ⟨kk, plE⟩ := pl3
  have pinD : ∀ {pp : List (Addr × Obj)} {σ' : St} {H' : Hp} {s' : Shared}, Inv (zm2 X scope N s2 H2 C (D :: fp)) pp σ' H' s' → H' D = none → s'.heap.get? D = some { cls := .type "list", data := .seq its.toArray kk } →
   Inv (zm2 X scope N s2 H2 C (D :: fp)) [(D, { cls := .type "list", data := .seq its.toArray kk })] σ' H' s' := fun {pp σ' H' s'} J f e => J.pins_of fun p hp => by
   have z : p = (D, { cls := .type "list", data := .seq its.toArray kk }) := by simpa using hp
   subst z
   exact ⟨e, f, (J.ok.exf D List.mem_cons_self).1, J.ok.exfs D List.mem_cons_self, fun v z => by cases z⟩
  have fpD : ∀ {H' : Hp}, (∀ b ∈ D :: fp, H' b = none) → ∀ b ∈ fp, FpOk (zm2 X scope N s2 H2 C (D :: fp)) [(D, { cls := .type "list", data := .seq its.toArray kk })] H' b := fun hn b hb => by
   obtain ⟨a1, a2, a3, a4, a5, a6⟩ := stat hn b (sub b hb)
   refine ⟨a1, a2, a3, a4, a5, fun p hp => ?_⟩
   have z : p = (D, { cls := .type "list", data := .seq its.toArray kk }) := by simpa [zm2] using hp
   subst z
   exact (nDf b hb).symm
  have frD : H3 D = none := fr3 D List.mem_cons_self
  rcases turn i n ys H3 w3 with ⟨stop, hz, qn⟩ | ⟨go, hz, NN, hN, step⟩
  · refine thn (T.done (zm2 X scope N s2 H2 C (D :: fp)) rfl rfl rfl hc i _ s3 _ H3 (fun _ _ => False) (pinD I3 frD plE) (fpD fr3) st3 stop) fun r s4 ⟨hr, I4'⟩ => ?_
    subst hr
    obtain ⟨m, hm, _⟩ := I4'.loc
    have eD := (I4'.pin (D, _) (List.mem_append_right _ List.mem_cons_self)).1
    have fin : ∀ h', Heap.SameBut C s4.heap h' → Inv X pins σ (upd H3 D (.lst ys)) { s4 with heap := h' } := fun h' hs' => comp_end I2 I4' f2 hDD.symm hlt hDC hs' eD frD rv3 hz
    have hC0 : s2.heap.objs.size ≤ C := Nat.le_of_lt hlt
    have fC : FpOk X pins H3 C := by
     have q := I2.fpOk (H' := H3) hC0 I4'.free
     exact q
    exact hR s4 H3 D C m ys hm fC fin (by simpa using fin s4.heap (Heap.SameBut.refl ..)) hDC (qn D frD)
  · refine thn (T.item (zm2 X scope N s2 H2 C (D :: fp)) rfl rfl rfl hc i _ s3 _ H3 (fun _ _ => False) (pinD I3 frD plE) (fpD fr3) st3 go) fun r s4 ⟨u, hr, h4⟩ => ?_
    subst hr
    refine thn h4 fun _ s5 hq0 => ?_
    obtain ⟨x, H5, I5, r5, y5, st5, fr5⟩ := hq0
    have eD5 := (I5.pin (D, _) (List.mem_append_right _ List.mem_cons_self))
    have fr5' : ∀ b ∈ D :: fp, H5 b = none := fun b hb => by
     rcases List.mem_cons.mp hb with z | hb
     · rw [z]; exact eD5.2.1
     · exact fr5 b hb
    have I5' : Inv (zm2 X scope N s2 H2 C (D :: fp)) ([] ++ ya9 (D :: fp) s5.heap) (lift ix σ) H5 s5 := (I5.unpinned (pins := []) (pl := [_])).pinned (stat fr5') fun b hb => by
     rcases List.mem_cons.mp hb with z | hb
     · rw [z]; exact ⟨_, eD5.1, fun v z => by cases z⟩
     · exact T.obj _ _ st5 b hb
    have back : ∀ {σ7 : St} {H7 : Hp} {s7 : Shared}, Inv (zm2 X scope N s2 H2 C (D :: fp)) ([] ++ ya9 (D :: fp) s5.heap) σ7 H7 s7 → Ext (lift ix σ) σ7 →
     Inv (zm2 X scope N s2 H2 C (D :: fp)) [] (lift ix σ) H7 s7 ∧ tn (i + 1) s7.heap ∧ (∀ b ∈ D :: fp, H7 b = none) ∧ s7.heap.get? D = some { cls := .type "list", data := .seq its.toArray kk } := fun {σ7 H7 s7} I7 ex => by
     have keepAt : ∀ b ∈ D :: fp, ∀ o, s5.heap.get? b = some o → s7.heap.get? b = some o ∧ H7 b = none := fun b hb o e =>
      ⟨(I7.pin (b, o) (List.mem_append_right _ (List.mem_append_right _ (zt4 hb e)))).1, (I7.pin (b, o) (List.mem_append_right _ (List.mem_append_right _ (zt4 hb e)))).2.1⟩
     refine ⟨I7.unpinned.weak ex.1 ex.2, T.keep _ _ _ st5 fun b hb o e => (keepAt b (sub b hb) o e).1, fun b hb => ?_, (keepAt D List.mem_cons_self _ eD5.1).1⟩
     rcases List.mem_cons.mp hb with z | hb'
     · rw [z]; exact (keepAt D List.mem_cons_self _ eD5.1).2
     · obtain ⟨o, e, _⟩ := T.obj _ _ st5 b hb'
       exact (keepAt b hb o e).2
    refine thn (hg _ s5 _ H5 x u _ I5' r5 (hG _ _ _ _ (step x H5 y5))) fun _ s6 hq0 => ?_
    obtain ⟨σ6, H6, I6, q6, ex6⟩ := hq0
    refine thn (hif _ s6 σ6 H6 _ I6 q6) fun ok s7 hq0 => ?_
    obtain ⟨H7, I7, q7⟩ := hq0
    cases ok with
    | false =>
     rw [if_neg Bool.false_ne_true] at q7 ⊢
     obtain ⟨m', hm, w7⟩ := hN _ _ q7
     obtain ⟨J1, J2, J3, J4⟩ := back I7 ex6
     exact ⟨m', hm, i + 1, H7, ys, its, J1, J2, J3, ⟨_, J4⟩, rv3, w7⟩
    | true =>
     rw [if_pos rfl] at q7 ⊢
     refine thn (hel _ s7 σ6 H7 _ I7 q7) fun uv s8 hq0 => ?_
     obtain ⟨y, H8, I8, r8, q8⟩ := hq0
     obtain ⟨m', hm, w8⟩ := hN _ _ q8
     obtain ⟨J1, J2, J3, J4⟩ := back I8 ex6
     refine wpAny_list_append_plain (hsz := by rw [List.size_toArray, ← rv3.length]; exact Nat.le_of_lt hz) ⟨_, J4⟩ fun h₉ hl₉ hs₉ => ?_
     obtain ⟨a1, a2, a3, a4, a5, a6⟩ := stat J3 D List.mem_cons_self
     refine ⟨m', hm, i + 1, H8, ys ++ [y], its ++ [uv], J1.turned (t' := s8.toks) (fun b o hb e => hs₉.extBut b o hb e) a1 a2 a4 a5 a6, T.keep _ _ _ J2 fun b hb o e => hs₉.extBut b o (nDf b hb) e, J3, by simpa using hl₉, rv3.append (.cons r8 .nil), w8⟩
 exact codeAny_compStart_list (loop _ rfl) (T.self _ 0 _ _ _ (T.keep _ _ _ st2 fun b _ o e => old b o e) (loop _ rfl))
theorem zs5 (S : CompScope X scope N ix) (hc : X.calm = true) (hi : PI X tg iter wi) (hG : GFree ix g)
 (hb : ∀ (s₀ : Shared) (H₀ : Hp) (C : Addr) (ex : List Addr), PG (zm2 X scope N s₀ H₀ C ex) tg g ∧ PIfs (zm2 X scope N s₀ H₀ C ex) ifs tc ∧ PE (zm2 X scope N s₀ H₀ C ex) elt te)
 (hs : ∀ x, foldedSetIterable iter X.env x = pure x := by intro _; rfl) : PE X (.ListComp elt [⟨tg, iter, ifs, 0⟩] scope pos) (tComp ix wi g tc te) := by
 intro pins s σ H Q I h
 rw [eval_ListComp]
 refine wpAny_comprehension_free (use := none) rfl hs (closure_of (S.cells I)) S.kind S.locs ?_
 refine thn (hi pins s σ H _ I h) fun v s1 h1 => thn h1 fun itv s2 h2 => ?_
 refine comp_core (Rr := fun acc C => compPost (model X.prog X.w) X.A X.xe none (EP X pins σ Q) acc C) S hc hG hb h2 ?_
 intro s4 H' D C m ys hm _ fin _ _ q
 exact ⟨m, hm, fun h' hs' => ⟨.ref D, _, fin h' hs', rfl, q⟩⟩
theorem ps_setC {y : Str} {py spos : Pos} {i : Nat} (hN : X.N.Nodup) (hi : X.N[i]? = some y) (hy : Loc X.env.scope y) (S : CompScope X scope N ix) (hc : X.calm = true) (hit : PI X tg iter wi) (hG : GFree ix g)
 (hb : ∀ (s₀ : Shared) (H₀ : Hp) (C : Addr) (ex : List Addr), PG (zm2 X scope N s₀ H₀ C ex) tg g ∧ PIfs (zm2 X scope N s₀ H₀ C ex) ifs tc ∧ PE (zm2 X scope N s₀ H₀ C ex) elt te)
 (hsw : swapsWith (.ListComp elt [⟨tg, iter, ifs, 0⟩] scope pos) (some (.Name y py)) spos.line X.env = pure true := by rfl) (hs : ∀ x, foldedSetIterable iter X.env x = pure x := by intro _; rfl)
 (hf : X.fn y = true ∨ X.env.scope.names.lookup y = some .local := by first | exact .inl rfl | exact .inr rfl | assumption) :
 PS X (.Assign [.Name y py] (.ListComp elt [⟨tg, iter, ifs, 0⟩] scope pos) spos) (tAsg (tComp ix wi g tc te) (gName i)) := by
 intro pins s σ H D0 I h
 rw [exec_Assign_Name_used _ _ _ _ hsw]
 refine wpAny_bind (wpAny_standAt (wpAny_bind ?_))
 show wpAny _ X.A (do let _ ← comprehension (.ListComp elt [⟨tg, iter, ifs, 0⟩] scope pos) scope X.env _ (newList []) false (eval iter X.env) (some (assign (.Name y py) X.env))) _ _ s
 refine wpAny_bind (wpAny_mono (wpAny_comprehension_free (use := some (assign (.Name y py) X.env)) (Q := fun _ s' => SP X pins D0 .next s') rfl hs (closure_of (S.cells I)) S.kind S.locs ?_) (fun _ s' hq => wpAny_pure (wpAny_pure hq)) fun _ _ e => e)
 refine thn (hit pins s σ H _ I h) fun v s1 h1 => thn h1 fun itv s2 h2 => ?_
 refine comp_core (Q := fun x H1 => gName i x σ H1 D0.nx) (Rr := fun acc C => compPost (model X.prog X.w) X.A X.xe (some (assign (.Name y py) X.env)) (fun _ s' => SP X pins D0 .next s') acc C) S hc hG hb h2 ?_
 intro s4 H' D C m ys hm fC _ I4 hDC q
 show wpAny _ X.A (assign (.Name y py) X.env (.ref D)) _ _ _
 obtain ⟨c0, c1, c2, c3, c4, c5⟩ := fC
 refine wpAny_assign_Name (store_ok2 (v := .ref D) I4 hN hi hy rfl (fun s5 I5 hsb => ?_) hf)
 obtain ⟨a, hsa, ha⟩ := hsb
 have haC : C ≠ a := by
  rcases ha with z | z
  · rw [z]; exact c1
  · exact fun e => c4 y a z e.symm
 refine ⟨m, hm.sameBut hsa haC, fun h' hs' => ?_⟩
 have hCn : (upd H' D (.lst ys)) C = none := by rw [zd9 hDC.symm]; exact c0
 exact ⟨_, _, I5.turned (t' := s5.toks) (fun b o hb e => hs'.extBut b o hb e) hCn c1 c3 c4 c5, q⟩
end
end L2
set_option Elab.async false
set_option linter.all false
set_option maxRecDepth 100000
namespace L2
open PySem PySem.Spec PyProof.Rows
noncomputable def isiI (T : String) : Option Bool := if T = "int" then some true else if T = "bool" then some false else if T = "str" then some false else if T = "list" then some false else if T = "tuple" then some false else if T = "dict" then some false else none
noncomputable def isiB (T : String) : Option Bool := if T = "int" then some true else if T = "bool" then some true else if T = "str" then some false else if T = "list" then some false else if T = "tuple" then some false else if T = "dict" then some false else none
noncomputable def isiS (T : String) : Option Bool := if T = "int" then some false else if T = "bool" then some false else if T = "str" then some true else if T = "list" then some false else if T = "tuple" then some false else if T = "dict" then some false else none
noncomputable def isiV (v : V) (T : String) : Option Bool := match v with
 | .int _ => isiI T
 | .bl _ => isiB T
 | .str _ => isiS T
 | _ => none
theorem call_isi {X : Cx} : CallR X (.builtin "isinstance") (fun xs H Q => ∃ v T k, xs = [v, .ty T] ∧ isiV v T = some k ∧ Q (.bl k) H) := by
 intro pins s σ H xs us Q I r h
 obtain ⟨v, T, k, rfl, hk, q⟩ := h
 cases r with
 | cons r rr =>
  cases rr with
  | cons r' rr =>
   cases rr
   cases r'
   have fin : ∀ {n : Option Bool} {T' : String} {b : Bool}, (if T = T' then some b else n) = some k → (T = T' ∧ b = k) ∨ n = some k := fun {n T' b} h => by
    by_cases e : T = T'
    · rw [if_pos e] at h
      cases h
      exact .inl ⟨e, rfl⟩
    · rw [if_neg e] at h
      exact .inr h
   cases v with
   | int i =>
    obtain ⟨t, rfl⟩ := r
    replace hk : isiI T = some k := hk
    unfold isiI at hk
    rcases fin hk with ⟨rfl, rfl⟩ | hk
    · exact IsiPair.int_int ⟨.bl _, H, I, rfl, q⟩
    rcases fin hk with ⟨rfl, rfl⟩ | hk
    · exact IsiPair.int_bool ⟨.bl _, H, I.tok _, rfl, q⟩
    rcases fin hk with ⟨rfl, rfl⟩ | hk
    · exact IsiPair.int_str ⟨.bl _, H, I.tok _, rfl, q⟩
    rcases fin hk with ⟨rfl, rfl⟩ | hk
    · exact IsiPair.int_list ⟨.bl _, H, I.tok _, rfl, q⟩
    rcases fin hk with ⟨rfl, rfl⟩ | hk
    · exact IsiPair.int_tuple ⟨.bl _, H, I.tok _, rfl, q⟩
    rcases fin hk with ⟨rfl, rfl⟩ | hk
    · exact IsiPair.int_dict ⟨.bl _, H, I.tok _, rfl, q⟩
    cases hk
   | bl i =>
    cases r
    replace hk : isiB T = some k := hk
    unfold isiB at hk
    rcases fin hk with ⟨rfl, rfl⟩ | hk
    · first | exact IsiPair.bool_int ⟨.bl _, H, I, rfl, q⟩ | exact IsiPair.bool_int ⟨.bl _, H, I.tok _, rfl, q⟩
    rcases fin hk with ⟨rfl, rfl⟩ | hk
    · first | exact IsiPair.bool_bool ⟨.bl _, H, I, rfl, q⟩ | exact IsiPair.bool_bool ⟨.bl _, H, I.tok _, rfl, q⟩
    rcases fin hk with ⟨rfl, rfl⟩ | hk
    · first | exact IsiPair.bool_str ⟨.bl _, H, I, rfl, q⟩ | exact IsiPair.bool_str ⟨.bl _, H, I.tok _, rfl, q⟩
    rcases fin hk with ⟨rfl, rfl⟩ | hk
    · first | exact IsiPair.bool_list ⟨.bl _, H, I, rfl, q⟩ | exact IsiPair.bool_list ⟨.bl _, H, I.tok _, rfl, q⟩
    rcases fin hk with ⟨rfl, rfl⟩ | hk
    · first | exact IsiPair.bool_tuple ⟨.bl _, H, I, rfl, q⟩ | exact IsiPair.bool_tuple ⟨.bl _, H, I.tok _, rfl, q⟩
    rcases fin hk with ⟨rfl, rfl⟩ | hk
    · first | exact IsiPair.bool_dict ⟨.bl _, H, I, rfl, q⟩ | exact IsiPair.bool_dict ⟨.bl _, H, I.tok _, rfl, q⟩
    cases hk
   | str i =>
    obtain ⟨t, rfl⟩ := r
    replace hk : isiS T = some k := hk
    unfold isiS at hk
    rcases fin hk with ⟨rfl, rfl⟩ | hk
    · first | exact IsiPair.str_int ⟨.bl _, H, I, rfl, q⟩ | exact IsiPair.str_int ⟨.bl _, H, I.tok _, rfl, q⟩
    rcases fin hk with ⟨rfl, rfl⟩ | hk
    · first | exact IsiPair.str_bool ⟨.bl _, H, I, rfl, q⟩ | exact IsiPair.str_bool ⟨.bl _, H, I.tok _, rfl, q⟩
    rcases fin hk with ⟨rfl, rfl⟩ | hk
    · first | exact IsiPair.str_str ⟨.bl _, H, I, rfl, q⟩ | exact IsiPair.str_str ⟨.bl _, H, I.tok _, rfl, q⟩
    rcases fin hk with ⟨rfl, rfl⟩ | hk
    · first | exact IsiPair.str_list ⟨.bl _, H, I, rfl, q⟩ | exact IsiPair.str_list ⟨.bl _, H, I.tok _, rfl, q⟩
    rcases fin hk with ⟨rfl, rfl⟩ | hk
    · first | exact IsiPair.str_tuple ⟨.bl _, H, I, rfl, q⟩ | exact IsiPair.str_tuple ⟨.bl _, H, I.tok _, rfl, q⟩
    rcases fin hk with ⟨rfl, rfl⟩ | hk
    · first | exact IsiPair.str_dict ⟨.bl _, H, I, rfl, q⟩ | exact IsiPair.str_dict ⟨.bl _, H, I.tok _, rfl, q⟩
    cases hk
   | _ => cases hk
end L2
set_option Elab.async false
set_option linter.all false
set_option maxRecDepth 100000
namespace L2
open PySem PySem.Spec PyProof.Rows
section
variable {X : Cx}
noncomputable def CDivM (i j : Int) : Prop := j ≠ 0 ∧ j.natAbs < 2 ^ 512
theorem zo3 : OpR X (binaryOp .FloorDiv) (rI CDivM fun i j => .int (i.fdiv j)) := opI fun i j _ _ _ _ _ hc q => floordiv_int hc.1 q (.inl (PyProof.noPylong_of_log2 (by
 by_cases h0 : j.natAbs = 0
 · rw [h0]; decide +kernel
 · have := (Nat.log2_lt h0).mpr hc.2
   omega)))
theorem zi9 : OpR X (binaryOp .Mod) (rI (fun _ j => j ≠ 0) fun i j => .int (i.fmod j)) := op_modN
theorem zj2 {scope : Scope} {N : List Str} {ix : List (Option Nat)} (kind : scope.kind = .function) (nocell : (scope.names.all fun y => y.2 != .cell) = true) (locs : (scope.names.all fun y => y.2 != .local || scope.names.lookup y.1 == some .local) = true)
 (free : (scope.names.all fun y => y.2 != .free || X.env.kindOf y.1 == some .cell || X.env.kindOf y.1 == some .free) = true) (len : ix.length = N.length) (nd : N.Nodup)
 (fr : ((ix.zip N).all fun p => match p.1 with
  | none => true
  | some i => X.N[i]? == some p.2 && (X.env.kindOf p.2 == some .cell || X.env.kindOf p.2 == some .free) && ((relabel scope X.env).names.lookup p.2 == some .cell || (relabel scope X.env).names.lookup p.2 == some .free)) = true) : CompScope X scope N ix := by
 refine ⟨kind, fun y hy => ?_, fun y hy hl => ?_, fun y hy hf => ?_, len, nd, fun j i e => ?_⟩
 · have := List.all_eq_true.mp nocell y hy
   simpa using this
 · have := List.all_eq_true.mp locs y hy
   rw [hl] at this
   simpa using this
 · have := List.all_eq_true.mp free y hy
   rw [hf] at this
   simpa using this
 · have hj : j < ix.length := (List.getElem?_eq_some_iff.mp e).1
   have hj' : j < N.length := by omega
   have hm : (ix.zip N)[j]? = some (some i, N[j]) := by
    rw [List.getElem?_zip_eq_some]
    exact ⟨e, by simp [hj']⟩
   have := List.all_eq_true.mp fr _ (List.mem_of_getElem? hm)
   simp only [Bool.and_eq_true, Bool.or_eq_true, beq_iff_eq] at this
   exact ⟨N[j], by simp [hj'], this.1.1, this.1.2, this.2⟩
end
structure Df (K : PySem.W.Frag) (mg : Str → Option Value) (x : Str) (st : Stmt) (ps : List Str) (f : Addr) (fd : FuncData) : Prop where
 fn : Fun K x x st f fd
 b : Binds K fd ps []
 m : mg x = some (.ref f)
section
variable {K : PySem.W.Frag} {a b : Addr} {xs ys : List V} {wi : TI} {g : TG} {tb : TS} {D : Ends} {σ : St} {H H1 : Hp} {ix : List (Option Nat)} {tc : TT} {te : TE} {Q : VK}
end
end L2
set_option Elab.async false
set_option linter.all false
set_option maxRecDepth 100000
namespace L2
open PySem PySem.Spec PyProof.Rows
theorem Inv.turnedTup {X : Cx} {pins : List (Addr × Obj)} {σ : St} {H : Hp} {s : Shared} {h' : Heap} {t' : Nat} {ch : List Addr} {T : Addr} {xs : List V} {its : List Value} (I : Inv X pins σ H s) (hf : ∀ b ∈ ch, FpOk X pins H b)
 (k : ∀ b o, b ∉ ch → s.heap.get? b = some o → h'.get? b = some o) (hT : s.heap.objs.size ≤ T) (eT : IsTup h' T its.toArray) (r : Vals xs its) (hz : xs.length ≤ sizeLine) : Inv X pins σ (upd H T (.tup xs)) { s with heap := h', toks := t' } := by
 have hTn : H T = none := I.hok.fresh hT
 have big : ∀ {c : Addr} {o : Obj}, s.heap.get? c = some o → c ≠ T := fun e => Nat.ne_of_lt (Nat.lt_of_lt_of_le (Heap.lt_size e) hT)
 have trk : ∀ c t, H c = some t → c ∉ ch := fun c t e hc => by rw [(hf c hc).1] at e; cases e
 refine I.step (g' := s.gens) (d' := s.drawn) (ch := ch) (fun c hc => ⟨(hf c hc).2.2.2.1, (hf c hc).2.1, (hf c hc).2.2.2.2.1, (hf c hc).2.2.2.2.2⟩) (fun c o _ _ hc e _ => k c o hc e) (fun c o _ _ hc e _ => ⟨o.slots, k c o hc e⟩) (fun c o hc e n => ?_) (fun c o hc e => ⟨o, k c o hc e⟩) (fun c t e => ?_) (fun c o t e => ?_) (fun c ps e => ?_) (fun m hm => ?_) (fun c t e => ?_) I.bare
 · rw [zd9 (big e)]; exact n
 · rw [zd9 (zh9 e hTn)]; exact e
 · rw [zd9 (zh9 e hTn)]; exact e
 · exact ⟨#[], by rw [zd9 (zh9 e hTn), e]; simp⟩
 · obtain ⟨o, es, ep, ho, r⟩ := hm
   exact ⟨o, es, ep, k _ o (fun hc => (hf _ hc).2.1 rfl) ho, r⟩
 · by_cases hcT : c = T
   · subst hcT
     rw [zd1] at e
     cases e
     exact ⟨hz, its, r, eT⟩
   · rw [zd9 hcT] at e
     refine (I.hok c t e).stay (fun d o hd q => k d o ?_ q) (fun d q => by rw [zd9 (zh9 q hTn)]; exact q) fun d zs q => by rw [zd9 (zh9 q hTn)]; exact q
     rcases hd with hd | hd
     · rw [hd]; exact trk c t e
     · exact trk d _ hd
noncomputable def Ite (K : PySem.W.Frag) (a : Addr) : It :=
 ⟨fun i H => ∃ xs x, SqL K H a xs ∧ xs[i]? = some x,
  fun i H v H' => ∃ p x, H p = none ∧ v = .ref p ∧ H' = upd H p (.tup [.int i, x]) ∧ ∀ xs, SqL K H a xs → xs[i]? = some x,
  fun i H => ∃ xs, SqL K H a xs ∧ xs.length ≤ i⟩
theorem turn_enum {P : Program} {w : World} {K : PySem.W.Frag} {elts : List Expr} {x1} {pos : Pos} (a e it : Addr) (hei : e ≠ it) :
 Turn P w K (.Tuple elts x1 pos) (Ite K a) [e, it] e (fun i h => (∃ old, IsEnum h e it i old) ∧ h.IsListIter it a i) where
 mem := by simp
 obj := fun i h st c hc => by
  obtain ⟨⟨old, e1⟩, ⟨o4, e4, _, d4⟩⟩ := st
  simp only [List.mem_cons, List.not_mem_nil, or_false] at hc
  rcases hc with rfl | rfl
  · exact ⟨_, e1, fun v z => by cases z⟩
  · exact ⟨o4, e4, fun v z => by rw [d4] at z; cases z⟩
 keep := fun i h h' st k => by
  obtain ⟨⟨old, e1⟩, e4⟩ := st
  exact ⟨⟨old, k e (by simp) _ e1⟩, e4.at fun o q => k it (by simp) o q⟩
 item := by
  intro X hP hw hK hc i pins s σ H E I hf st hg
  subst hP hw hK
  obtain ⟨xs, x, qx, hx⟩ := hg
  obtain ⟨its, rvx, px, _⟩ := I.list qx
  obtain ⟨u, hu, ru⟩ := rvx.get hx
  obtain ⟨⟨old, e1⟩, e4⟩ := st
  have big : ∀ {c : Addr} {o : Obj}, s.heap.get? c = some o → c ≠ s.heap.objs.size := fun e => Nat.ne_of_lt (Heap.lt_size e)
  refine wpAny_pyNext_enum_item e1 e4 px.isList (x := u) (by simpa using hu) hei fun h' a1 a2 a3 a4 a5 => ?_
  refine ⟨_, rfl, wpAny_letOwnedTupleGo_enum (s := { s with heap := h', toks := s.toks + 1 }) a1 fun h'' b1 b2 => ?_⟩
  have k2 : ∀ c o, c ∉ [e, it] → s.heap.get? c = some o → h''.get? c = some o := fun c o hc q => by
   simp only [List.mem_cons, List.not_mem_nil, or_false, not_or] at hc
   exact (b2.2 c hc.1).trans (a5 c o hc.1 hc.2 q)
  have eT : IsTup h'' s.heap.objs.size (List.toArray [.int i s.toks, u]) := ⟨_, (b2.2 _ (big e1).symm).trans a3, rfl, _, rfl⟩
  have I1 := I.turnedTup (t' := s.toks + 1) (xs := [.int i, x]) hf k2 (Nat.le_refl _) eT (.cons ⟨_, rfl⟩ (.cons ru .nil)) (by show 2 ≤ sizeLine; decide)
  refine ⟨.ref s.heap.objs.size, _, I1, rfl, ⟨s.heap.objs.size, x, I.hok.fresh (Nat.le_refl _), rfl, rfl, fun zs hz => by rw [I.list_inj hz qx]; exact hx⟩, ⟨⟨u, by simpa using b1⟩, a2.at fun o q => (b2.2 _ hei.symm).trans q⟩, fun c hc => ?_⟩
  have hcn : c ≠ s.heap.objs.size := by
   obtain ⟨o4, g4, _⟩ := id e4
   simp only [List.mem_cons, List.not_mem_nil, or_false] at hc
   rcases hc with rfl | rfl
   · exact big e1
   · exact big g4
  rw [zd9 hcn]
  exact (hf c hc).1
 done := by
  intro X hP hw hK hc i pins s σ H E I hf st hg
  subst hP hw hK
  obtain ⟨xs, qx, hl⟩ := hg
  obtain ⟨its, rvx, px, _⟩ := I.list qx
  obtain ⟨⟨old, e1⟩, e4⟩ := st
  have lx := rvx.length
  obtain ⟨f0, f1, f2, f3, f4, f5⟩ := hf it (by simp)
  exact wpAny_pyNext_enum_end (I.ok.hd hc) e1 e4 px.isList (by simp; omega) fun h' k => ⟨rfl, I.turned (t' := s.toks) (fun b o hb q => k b o hb q) f0 f1 f3 f4 f5⟩
 self := fun _ _ _ _ _ st h => by
  obtain ⟨⟨old, e1⟩, _⟩ := st
  exact wpAny_pyIter_enum e1 h
noncomputable def iEnum (K : PySem.W.Frag) (ta : TA) : TI := fun σ H R => ta σ H fun vs H1 => ∃ a, vs = [.ref a] ∧ (∃ xs, SqL K H1 a xs) ∧ R (Ite K a) H1
theorem pi_enum {X : Cx} {elts : List Expr} {x1} {tpos : Pos} {a : Expr} {ta : TA} {p pos : Pos} (hg : Gl X "enumerate") (hm : X.mg "enumerate" = none) (ha : PA X [a] ta) (hs : starEach [a] X.env = [(false, eval a X.env)] := by rfl) :
 PI X (.Tuple elts x1 tpos) (.Call (.Name "enumerate" p) [a] [] pos) (iEnum X.K ta) := by
 intro pins s σ H R I h
 refine Call_ (yb5 I hg hm boot_enumerate (PyProof.Rows.callWith_type1 (thn (ha pos pins s σ H _ I h) fun us s1 hq0 => ?_) hs rfl))
 obtain ⟨vs, H1, I1, r1, q1⟩ := hq0
 obtain ⟨a, e, ⟨xs, qx⟩, q⟩ := q1
 subst e
 cases r1 with
 | cons r rr =>
  cases rr
  cases r
  obtain ⟨its, rvx, px, _⟩ := I1.list qx
  refine call_enumerate_list px.isList fun h' g5 g1 z5 k => ?_
  refine wpAny_pyIter_enum (s := { s1 with heap := h' }) g5 ?_
  refine ⟨s1.heap.objs.size + 1, [s1.heap.objs.size + 1, s1.heap.objs.size], _, _, H1, rfl, I1.kept (t' := s1.toks) k, turn_enum a _ _ (Nat.ne_of_gt (Nat.lt_succ_self _)), ⟨⟨_, g5⟩, g1⟩, fun c hc => ?_, q⟩
  have hc' : s1.heap.objs.size ≤ c := by
   simp only [List.mem_cons, List.not_mem_nil, or_false] at hc
   rcases hc with h | h <;> subst h <;> first
    | exact Nat.le_refl _
    | exact Nat.le_add_right _ _
  exact I1.fpOk hc' (I1.hok.fresh hc')
mutual
inductive Dp (K : PySem.W.Frag) (H : Hp) : V → PyData → Prop
 | non : Dp K H .non .none
 | bl (b : Bool) : Dp K H (.bl b) (.bool b)
 | int (i : Int) : Dp K H (.int i) (.int i)
 | str (x : Str) : Dp K H (.str x) (.str x)
 | lst {a : Addr} {xs : List V} {ds : List PyData} : SqL K H a xs → DpAll K H xs ds → Dp K H (.ref a) (.list ds)
 | tup {a : Addr} {xs : List V} {ds : List PyData} : SqT K H a xs → DpAll K H xs ds → Dp K H (.ref a) (.tuple ds)
inductive DpAll (K : PySem.W.Frag) (H : Hp) : List V → List PyData → Prop
 | nil : DpAll K H [] []
 | cons {v : V} {vs : List V} {d : PyData} {ds : List PyData} : Dp K H v d → DpAll K H vs ds → DpAll K H (v :: vs) (d :: ds)
end
mutual
theorem Dp.reads {X : Cx} {pins : List (Addr × Obj)} {σ : St} {H : Hp} {s : Shared} (I : Inv X pins σ H s) : ∀ {v : V} {d : PyData} {u : Value}, Dp X.K H v d → RelV v u → ∃ as, Reads s.heap u d as
 | _, _, u, .non, r => by cases r; exact ⟨_, .none⟩
 | _, _, u, .bl b, r => by cases r; exact ⟨_, .bool b⟩
 | _, _, u, .int i, r => by obtain ⟨t, rfl⟩ := r; exact ⟨_, .int i t⟩
 | _, _, u, .str x, r => by obtain ⟨t, rfl⟩ := r; exact ⟨_, .str x t⟩
 | _, _, u, .lst (xs := xs) q a, r => by
  cases r
  obtain ⟨its, rv, ⟨o, n, e, c, _, d⟩, _⟩ := I.list q
  obtain ⟨as, ra⟩ := DpAll.reads I a rv
  exact ⟨_, .list e c d (by simpa using ra)⟩
 | _, _, u, .tup (xs := xs) q a, r => by
  cases r
  obtain ⟨its, rv, ⟨o, e, c, n, d⟩, _⟩ := I.tuple q
  obtain ⟨as, ra⟩ := DpAll.reads I a rv
  exact ⟨_, .tuple e c d (by simpa using ra)⟩
theorem DpAll.reads {X : Cx} {pins : List (Addr × Obj)} {σ : St} {H : Hp} {s : Shared} (I : Inv X pins σ H s) : ∀ {vs : List V} {ds : List PyData} {us : List Value}, DpAll X.K H vs ds → Vals vs us → ∃ as, ReadsAll s.heap us ds as
 | _, _, _, .nil, .nil => ⟨_, .nil⟩
 | _, _, _, .cons h t, .cons r rr => by
  obtain ⟨as, ra⟩ := Dp.reads I h r
  obtain ⟨bs, rb⟩ := DpAll.reads I t rr
  exact ⟨_, .cons ra rb⟩
end
noncomputable def rEqD (K : PySem.W.Frag) (neg : Bool) : R2 := fun x y H Q => ∃ d e, Dp K H x d ∧ Dp K H y e ∧ d.canLay0 = true ∧ e.canLay0 = true ∧ d.depth ≤ 64 ∧ Q (.bl (if neg then !(PyData.eqv d e) else PyData.eqv d e)) H
theorem op_eqD {X : Cx} (hu : X.A.units + 64 < cLine) : OpR X (compareOp .Eq) (rEqD X.K false) := by
 intro pins s σ H x y v u Q I rx ry h
 obtain ⟨d, e, hx, hy, cd, ce, dd, q⟩ := h
 obtain ⟨as, ra⟩ := hx.reads I rx
 obtain ⟨bs, rb⟩ := hy.reads I ry
 exact SeqAt.compareEq_reads ra rb cd ce (by omega) ⟨.bl _, H, I, rfl, by simpa using q⟩
theorem op_neD {X : Cx} (hu : X.A.units + 64 < cLine) : OpR X (compareOp .NotEq) (rEqD X.K true) := by
 intro pins s σ H x y v u Q I rx ry h
 obtain ⟨d, e, hx, hy, cd, ce, dd, q⟩ := h
 obtain ⟨as, ra⟩ := hx.reads I rx
 obtain ⟨bs, rb⟩ := hy.reads I ry
 exact SeqAt.compareNe_reads ra rb cd ce (by omega) ⟨.bl _, H, I, rfl, by simpa using q⟩
end L2
set_option Elab.async false
set_option linter.all false
set_option maxRecDepth 100000
namespace L2
open PySem PySem.Spec PyProof.Rows
section
variable {P : Program} {w : World} {K : PySem.W.Frag} {mg : Str → Option Value} {base : Heap} {N : List Str} {qual : Str} {scope : Scope} {f : Addr} {cd : Value} {A : Around} {outer : List Env} {s : Shared} {H : Hp} {E : XK}
end
end L2
set_option Elab.async false
set_option linter.all false
set_option maxRecDepth 100000
namespace L2
open PySem PySem.Spec PyProof.Rows
section
variable {X : Cx} {E : XK} {C : Addr} {x : Str} {np cpos pos : Pos} {e : Expr} {es : List Expr} {t : TA}
end
end L2
set_option Elab.async false
set_option linter.all false
set_option maxRecDepth 100000
namespace L2
open PySem PySem.Spec PyProof.Rows
end L2
set_option Elab.async false
set_option linter.all false
set_option maxRecDepth 100000
namespace L2
open PySem PySem.Spec PyProof.Rows
section
variable {K : PySem.W.Frag} {x D : Addr}
variable {prog : Program} {w : World} {A : Around} {E : Value → Shared → Prop} {s : Shared} {nm : Str}
end
section
variable {X : Cx}
end
end L2
set_option Elab.async false
set_option linter.all false
set_option maxRecDepth 100000
namespace L2
open PySem PySem.Spec PyProof.Rows
section
variable {κ : Type} [DecidableEq κ]
noncomputable def valV (kvs : List (κ × V)) (k : κ) : Option V := (kvs.find? fun kv => decide (kv.1 = k)).map (·.2)
noncomputable def putK (kvs : List (κ × V)) (k : κ) (v : V) : List (κ × V) :=
 if (kvs.any fun kv => decide (kv.1 = k)) = true then kvs.map (fun kv => if kv.1 = k then (kv.1, v) else kv) else kvs ++ [(k, v)]
theorem zy0 {p : κ × V} {r : List (κ × V)} {k : κ} (e : p.1 = k) : valV (p :: r) k = some p.2 := by simp [valV, List.find?_cons, e]
theorem zw4 {p : κ × V} {r : List (κ × V)} {k : κ} (e : ¬ p.1 = k) : valV (p :: r) k = valV r k := by simp [valV, List.find?_cons, e]
theorem valV_any (k : κ) : ∀ kvs : List (κ × V), (kvs.any fun kv => decide (kv.1 = k)) = (valV kvs k).isSome
 | [] => rfl
 | p :: r => by
  rw [List.any_cons]
  by_cases e : p.1 = k
  · simp only [zy0 e, decide_eq_true e, Bool.true_or, Option.isSome_some]
  · rw [zw4 e, decide_eq_false e, Bool.false_or]; exact valV_any k r
theorem length_putK (kvs : List (κ × V)) (k : κ) (v : V) : (putK kvs k v).length ≤ kvs.length + 1 := by
 unfold putK
 split
 · rw [List.length_map]; omega
 · rw [List.length_append, List.length_cons, List.length_nil]; omega
theorem RelO.isSome_eq {o : Option V} {u : Option Value} (r : RelO o u) : o.isSome = u.isSome := by
 cases o with
 | none => cases u with
  | none => rfl
  | some _ => exact (show False from r).elim
 | some _ => cases u with
  | none => exact (show False from r).elim
  | some _ => rfl
theorem KV.val {kvs : List (κ × V)} {vs : List (κ × Value)} (r : KV kvs vs) (k : κ) : RelO (valV kvs k) (valueAt vs k) := by
 unfold KV at r
 induction r with
 | nil => exact True.intro
 | @cons p q ps qs h t ih =>
  obtain ⟨h1, h2⟩ := h
  by_cases e : p.1 = k
  · have e' : q.1 = k := h1.symm.trans e
    have b : valueAt (q :: qs) k = some q.2 := by simp [valueAt, List.find?_cons, e']
    rw [zy0 e, b]; exact h2
  · have e' : ¬ q.1 = k := fun z => e (h1.trans z)
    have b : valueAt (q :: qs) k = valueAt qs k := by simp [valueAt, List.find?_cons, e']
    rw [zw4 e, b]; exact ih
theorem KV.any {kvs : List (κ × V)} {vs : List (κ × Value)} (r : KV kvs vs) (k : κ) : (kvs.any fun kv => decide (kv.1 = k)) = vs.any fun kv => decide (kv.1 = k) := by
 unfold KV at r
 induction r with
 | nil => rfl
 | cons h t ih => rw [List.any_cons, List.any_cons, ih, h.1]
theorem KV.repl {kvs : List (κ × V)} {vs : List (κ × Value)} (r : KV kvs vs) (k : κ) {y : V} {u : Value} (ry : RelV y u) :
 KV (kvs.map fun kv => if kv.1 = k then (kv.1, y) else kv) (vs.map fun kv => if kv.1 = k then (kv.1, u) else kv) := by
 unfold KV at r ⊢
 induction r with
 | nil => exact .nil
 | @cons p q ps qs h t ih =>
  rw [List.map_cons, List.map_cons]
  refine .cons ?_ ih
  obtain ⟨h1, h2⟩ := h
  by_cases e : p.1 = k
  · rw [if_pos e, if_pos (h1.symm.trans e)]; exact ⟨h1, ry⟩
  · rw [if_neg e, if_neg (fun z => e (h1.trans z))]; exact ⟨h1, h2⟩
theorem KV.put {kvs : List (κ × V)} {vs : List (κ × Value)} (r : KV kvs vs) (k : κ) {y : V} {u : Value} (ry : RelV y u) : KV (putK kvs k y) (stored vs k u) := by
 unfold putK stored
 rw [r.any k]
 by_cases e : (vs.any fun kv => decide (kv.1 = k)) = true
 · rw [if_pos e, if_pos e]; exact r.repl k ry
 · rw [if_neg e, if_neg e]; exact Paired.snoc r ⟨rfl, ry⟩
theorem KV.length {kvs : List (κ × V)} {vs : List (κ × Value)} (r : KV kvs vs) : kvs.length = vs.length := Paired.length r
end
theorem kV_is {P : Program} {w : World} {k : Key} {u : Value} (r : RelV (kV k) u) : (zo4 P w).is k u = true := by
 cases k with
 | inl i => obtain ⟨t, e⟩ := (show ∃ t, u = Value.int i t from r); subst e; exact mixKind_int P w i t
 | inr x => obtain ⟨t, e⟩ := (show ∃ t, u = Value.str x t from r); subst e; exact mixKind_str P w x t
theorem items_are {P : Program} {w : World} : ∀ {ks : List Key} {us : List Value}, Vals (ks.map kV) us → ItemsAre (zo4 P w) ks us
 | [], _, r => by rw [List.map_nil] at r; cases r; exact .nil
 | k :: ks, _, r => by
  rw [List.map_cons] at r
  cases r with
  | cons h t => exact .cons (kV_is h) (items_are t)
noncomputable abbrev KT (H : Hp) : List (List Key × V) → List (List Key × Addr × Value) → Prop := Paired fun p q => p.1 = q.1 ∧ H q.2.1 = some (.tup (p.1.map kV)) ∧ RelV p.2 q.2.2
theorem KT.val {H : Hp} {kvs : List (List Key × V)} {xs : List (List Key × Addr × Value)} (r : KT H kvs xs) (k : List Key) : RelO (valV kvs k) ((atKey xs k).map (·.2)) := by
 induction r with
 | nil => exact True.intro
 | @cons p q ps qs h t ih =>
  obtain ⟨h1, _, h2⟩ := h
  by_cases e : p.1 = k
  · have e' : q.1 = k := h1.symm.trans e
    have b : atKey (q :: qs) k = some q.2 := by simp [atKey, List.find?_cons, e']
    rw [zy0 e, b]; exact h2
  · have e' : ¬ q.1 = k := fun z => e (h1.trans z)
    have b : atKey (q :: qs) k = atKey qs k := by simp [atKey, List.find?_cons, e']
    rw [zw4 e, b]; exact ih
theorem KT.repl {H : Hp} {kvs : List (List Key × V)} {xs : List (List Key × Addr × Value)} (r : KT H kvs xs) (k : List Key) {y : V} {u : Value} (ry : RelV y u) :
 KT H (kvs.map fun kv => if kv.1 = k then (kv.1, y) else kv) (xs.map (putAt k u)) := by
 induction r with
 | nil => exact .nil
 | @cons p q ps qs h t ih =>
  rw [List.map_cons, List.map_cons]
  refine .cons ?_ ih
  obtain ⟨h1, h2, h3⟩ := h
  unfold putAt
  by_cases e : p.1 = k
  · rw [if_pos e, if_pos (h1.symm.trans e)]; exact ⟨h1, h2, ry⟩
  · rw [if_neg e, if_neg (fun z => e (h1.trans z))]; exact ⟨h1, h2, h3⟩
theorem KT.put {H : Hp} {kvs : List (List Key × V)} {xs : List (List Key × Addr × Value)} (r : KT H kvs xs) (k : List Key) {b : Addr} {y : V} {u : Value} (hb : H b = some (.tup (k.map kV))) (ry : RelV y u) :
 KT H (putK kvs k y) (storedH xs k b u) := by
 have e : (kvs.any fun kv => decide (kv.1 = k)) = (atKey xs k).isSome := by
  rw [valV_any, (r.val k).isSome_eq, Option.isSome_map]
 unfold putK storedH
 rw [e]
 by_cases q : (atKey xs k).isSome = true
 · rw [if_pos q, if_pos q]; exact r.repl k ry
 · rw [if_neg q, if_neg q]; exact Paired.snoc r ⟨rfl, hb, ry⟩
theorem KT.keeps {H H' : Hp} {kvs : List (List Key × V)} {xs : List (List Key × Addr × Value)} (r : KT H kvs xs) (ht : ∀ b ys, H b = some (.tup ys) → H' b = some (.tup ys)) : KT H' kvs xs :=
 Paired.mapP r fun _ _ z => ⟨z.1, ht _ _ z.2.1, z.2.2⟩
section
variable {P : Program} {w : World} {H : Hp} {h : Heap} {a : Addr}
theorem rd_of {u : HO} (ok : HOk P w H h) (e : Rd H a u) : ObjOk P w H h a u := e.ok ok
theorem dk_rd {kvs : List (Key × V)} (ok : HOk P w H h) (e : Rd H a (.dK kvs)) : kvs.length ≤ sizeLine ∧ (a == sysModules) = false ∧ ∃ vs, KV kvs vs ∧ h.DictOf (zo4 P w) a vs :=
 show ObjOk P w H h a (.dK kvs) from rd_of ok e
theorem dk_of {kvs : List (Key × V)} (ok : HOk P w H h) (e : H a = some (.dK kvs)) : kvs.length ≤ sizeLine ∧ (a == sysModules) = false ∧ ∃ vs, KV kvs vs ∧ h.DictOf (zo4 P w) a vs := dk_rd ok (.inl e)
theorem yh7 {ks : List Key} (ok : HOk P w H h) (e : H a = some (.tup (ks.map kV))) : (tupleKind (zo4 P w)).is h ks a := by
 obtain ⟨_, its, r, o, h1, h2, n, h3⟩ := (show ObjOk P w H h a (.tup (ks.map kV)) from ok a _ e)
 exact ⟨o, its.toArray, n, h1, h2, h3, by simpa using items_are r⟩
theorem dt_rd {kvs : List (List Key × V)} (ok : HOk P w H h) (e : Rd H a (.dT kvs)) : kvs.length ≤ sizeLine ∧ (a == sysModules) = false ∧
 ∃ xs, KT H kvs xs ∧ h.DictOfH (tupleKind (zo4 P w)) a xs := by
 obtain ⟨z, y, xs, r, o, es, ep, h1, h2, h3, h4, h5⟩ := (show ObjOk P w H h a (.dT kvs) from rd_of ok e)
 refine ⟨z, y, xs, r, o, es, ep, h1, h2, h3, h4, fun x hx => ?_, h5⟩
 have all : ∀ {l : List (List Key × V)} {m : List (List Key × Addr × Value)}, KT H l m → ∀ x ∈ m, (tupleKind (zo4 P w)).is h x.1 x.2.1 := by
  intro l m q
  induction q with
  | nil => intro x hx; exact nomatch hx
  | @cons p q ps qs hq t ih =>
   intro x hx
   rcases List.mem_cons.mp hx with e | hx
   · subst e
     exact yh7 ok (by rw [← hq.1]; exact hq.2.1)
   · exact ih x hx
 exact all r x hx
theorem dt_of {kvs : List (List Key × V)} (ok : HOk P w H h) (e : H a = some (.dT kvs)) : kvs.length ≤ sizeLine ∧ (a == sysModules) = false ∧
 ∃ xs, KT H kvs xs ∧ h.DictOfH (tupleKind (zo4 P w)) a xs := dt_rd ok (.inl e)
end
noncomputable def DGet (H : Hp) (a : Addr) (y : V) (r : Option V) : Prop :=
 (∃ kvs k, Rd H a (.dK kvs) ∧ y = kV k ∧ r = valV kvs k) ∨ ∃ kvs k b, Rd H a (.dT kvs) ∧ y = .ref b ∧ H b = some (.tup (k.map kV)) ∧ r = valV kvs k
noncomputable def DPut (H : Hp) (a : Addr) (y v : V) (H' : Hp) : Prop :=
 (∃ kvs k, H a = some (.dK kvs) ∧ y = kV k ∧ kvs.length < sizeLine ∧ H' = upd H a (.dK (putK kvs k v))) ∨
 ∃ kvs k b, H a = some (.dT kvs) ∧ y = .ref b ∧ H b = some (.tup (k.map kV)) ∧ kvs.length < sizeLine ∧ H' = upd H a (.dT (putK kvs k v))
theorem DGet.k {H : Hp} {a : Addr} {kvs : List (Key × V)} {k : Key} (e : H a = some (.dK kvs)) : DGet H a (kV k) (valV kvs k) := .inl ⟨kvs, k, .inl e, rfl, rfl⟩
theorem DGet.t {H : Hp} {a b : Addr} {kvs : List (List Key × V)} {k : List Key} (e : H a = some (.dT kvs)) (eb : H b = some (.tup (k.map kV))) : DGet H a (.ref b) (valV kvs k) := .inr ⟨kvs, k, b, .inl e, rfl, eb, rfl⟩
theorem DPut.k {H : Hp} {a : Addr} {kvs : List (Key × V)} {k : Key} {v : V} (e : H a = some (.dK kvs)) (hl : kvs.length < sizeLine) : DPut H a (kV k) v (upd H a (.dK (putK kvs k v))) := .inl ⟨kvs, k, e, rfl, hl, rfl⟩
theorem DPut.t {H : Hp} {a b : Addr} {kvs : List (List Key × V)} {k : List Key} {v : V} (e : H a = some (.dT kvs)) (eb : H b = some (.tup (k.map kV))) (hl : kvs.length < sizeLine) :
 DPut H a (.ref b) v (upd H a (.dT (putK kvs k v))) := .inr ⟨kvs, k, b, e, rfl, eb, hl, rfl⟩
section
variable {X : Cx} {pins : List (Addr × Obj)} {σ : St} {H : Hp} {s : Shared} {a : Addr} {y v : V} {u r : Value} {o : Option V} {A : Around} {E : Value → Shared → Prop}
theorem Inv.big (I : Inv X pins σ H s) : sysModules < s.heap.objs.size := by
 have h : mainGlobals < s.heap.objs.size := (I.mod.glob.keeps I.bk).lt
 exact Nat.lt_trans (by decide) h
theorem d_getItem {Q : Value → Shared → Prop} (hu : A.units + 1 < cLine) (I : Inv X pins σ H s) (g : DGet H a y (some v)) (ry : RelV y u) (h : ∀ w' s', Inv X pins σ H s' → RelV v w' → Q w' s') :
 wpAny (model X.prog X.w) A (getItem (.ref a) u) Q E s := by
 rcases g with ⟨kvs, k, e, ey, l⟩ | ⟨kvs, k, b, e, ey, eb, l⟩
 · subst ey
   obtain ⟨z, hd, vs, rel, dd⟩ := dk_rd I.hok e
   obtain ⟨w', hw, rw'⟩ := RelO.some_of (v := v) (o := valueAt vs k) (by rw [l]; exact rel.val k)
   exact wpAny_getItem_of (kV_is ry) dd.mapOf hw (h w' _ (I.tok _) rw')
 · subst ey
   cases (show u = Value.ref b from ry)
   obtain ⟨z, hd, xs, rel, dd⟩ := dt_rd I.hok e
   obtain ⟨w', hw, rw'⟩ := RelO.some_of (v := v) (o := (atKey xs k).map (·.2)) (by rw [l]; exact rel.val k)
   obtain ⟨p, hp, hp2⟩ := Option.map_eq_some_iff.mp hw
   refine wpAny_getItem_heap (tupleKind_room_in1 hu) (yh7 I.hok eb) dd hp ?_
   rw [hp2]
   exact h w' _ (I.tok _) rw'
theorem d_notIn {Q : Value → Shared → Prop} (hu : A.units + 1 < cLine) (I : Inv X pins σ H s) (g : DGet H a y o) (ry : RelV y u) (h : ∀ s', Inv X pins σ H s' → Q (.bool (!o.isSome)) s') :
 wpAny (model X.prog X.w) A (compareOp .NotIn u (.ref a)) Q E s := by
 rcases g with ⟨kvs, k, e, ey, l⟩ | ⟨kvs, k, b, e, ey, eb, l⟩
 · subst ey
   obtain ⟨z, hd, vs, rel, dd⟩ := dk_rd I.hok e
   refine wpAny_notIn_of (kV_is ry) hd dd.mapOf ?_
   rw [← (rel.val k).isSome_eq, ← l]
   exact h _ (I.tok _)
 · subst ey
   cases (show u = Value.ref b from ry)
   obtain ⟨z, hd, xs, rel, dd⟩ := dt_rd I.hok e
   refine wpAny_notIn_heap (tupleKind_room_in1 hu) (yh7 I.hok eb) hd dd ?_
   have q := (rel.val k).isSome_eq
   rw [Option.isSome_map] at q
   rw [← q, ← l]
   exact h _ (I.tok _)
theorem d_write {h' : Heap} {t' : Nat} {ob : HO} (I : Inv X pins σ H s) (mu : Mut (H a)) (hs : Heap.SameBut a s.heap h') (he : ∃ q, h'.get? a = some q) (new : ObjOk X.prog X.w (upd H a ob) h' a ob) :
 Inv X pins σ (upd H a ob) { s with heap := h', toks := t' } :=
 I.write (x := a) (e := a) mu (.inl rfl) (fun b q hb z => (hs.2 b hb).trans z) he new
theorem dk_new {P : Program} {w : World} {H' : Hp} {h' : Heap} {kvs : List (Key × V)} {vs : List (Key × Value)} (z : kvs.length ≤ sizeLine) (hd : (a == sysModules) = false) (rel : KV kvs vs) (dd : h'.DictOf (zo4 P w) a vs) :
 ObjOk P w H' h' a (.dK kvs) := ⟨z, hd, vs, rel, dd⟩
theorem d_setItem {H' : Hp} {Q : Unit → Shared → Prop} (hu : A.units + 1 < cLine) (I : Inv X pins σ H s) (g : DPut H a y v H') (ry : RelV y u) (rv : RelV v r) (h : ∀ s', Inv X pins σ H' s' → Q () s') :
 wpAny (model X.prog X.w) A (setItem (.ref a) u r) Q E s := by
 rcases g with ⟨kvs, k, e, ey, l, eH⟩ | ⟨kvs, k, b, e, ey, eb, l, eH⟩
 · subst ey eH
   obtain ⟨z, hd, vs, rel, dd⟩ := dk_of I.hok e
   have hz : vs.length ≤ sizeLine := by rw [← rel.length]; exact z
   have hl : (putK kvs k v).length ≤ sizeLine := by have := length_putK kvs k v; omega
   refine wpAny_setItem_pairs (hsz := hz) (kV_is ry) dd fun h' dd' hs => h _ ?_
   have he : ∃ q, h'.get? a = some q := let ⟨q, _, _, hq, _⟩ := dd'; ⟨q, hq⟩
   exact d_write I (by rw [e]; exact True.intro) hs he (dk_new hl hd (rel.put k rv) dd')
 · subst ey eH
   cases (show u = Value.ref b from ry)
   obtain ⟨z, hd, xs, rel, dd⟩ := dt_of I.hok e
   have hz : xs.length ≤ sizeLine := by rw [← Paired.length rel]; exact z
   have hl : (putK kvs k v).length ≤ sizeLine := by have := length_putK kvs k v; omega
   refine wpAny_setItem_heap (hsz := hz) (tupleKind_room_in1 hu) (yh7 I.hok eb) dd fun h' dd' hs => h _ ?_
   obtain ⟨q, es, ep, hq, h2, h3, h4, _, h5⟩ := dd'
   refine d_write I (by rw [e]; exact True.intro) hs ⟨q, hq⟩ ⟨hl, hd, _, (rel.put k eb rv).keeps fun c ys ec => ?_, q, es, ep, hq, h2, h3, h4, h5⟩
   rw [zd9 (ne_of ec e (fun z => nomatch z))]
   exact ec
end
section
variable {X : Cx} {pins : List (Addr × Obj)} {σ : St} {H : Hp} {s : Shared} {a : Addr} {kvs : List (Key × V)} {k : Key} {u : Value} {A : Around} {E : Value → Shared → Prop}
theorem d_len {Q : Value → Shared → Prop} (I : Inv X pins σ H s) (e : Rd H a (.dK kvs)) (h : ∀ t s', Inv X pins σ H s' → Q (.int kvs.length t) s') : wpAny (model X.prog X.w) A (call (.builtin "len") [.ref a]) Q E s := by
 obtain ⟨z, hd, vs, rel, dd⟩ := dk_rd I.hok e
 refine call_len_dict hd dd (by rw [← rel.length]; rw [sizeLine_eq] at z; omega) ?_
 rw [← rel.length]
 exact h _ _ (I.tok _)
end
noncomputable def NoSl (i : Expr) : Prop := ∀ ov iv, subscripted i false ov iv = operate [ov, iv] (getItem ov iv)
theorem subD_of {prog : Program} {w : World} {A : Around} {E : Value → Shared → Prop} {s : Shared} {env : Env} {value slice : Expr} {pos : Pos} {T id : String} {Q : Value → Shared → Prop}
 (hl : typeLookup (.type T) "__getitem__" = pure (some (.builtin id))) (hs : NoSl slice)
 (h : wpAny (model prog w) A (eval value env) (fun o s₁ => wpAny (model prog w) A (eval slice env) (fun i s₂ => s₂.TypeIs o T ∧ wpAny (model prog w) A (getItem o i) Q E s₂) E s₁) E s) :
 wpAny (model prog w) A (eval (.Subscript value slice pos) env) Q E s := by
 refine Subscript_ (wpAny_mono h (fun o s₁ h₁ => wpAny_mono h₁ (fun i s₂ h₂ => ?_) fun _ _ x => x) fun _ _ x => x)
 obtain ⟨hT, h₂⟩ := h₂
 unfold subscriptTail
 refine wpAny_bind ?_
 rw [getitemInPython_of_ne hT.not_modules]
 refine wpAny_bind (wpAny_specialOf hT hl ?_)
 have fin : wpAny (model prog w) A (subscripted slice false o i) (fun r s₃ => wpAny (model prog w) A (letTemporaryGo value o r >>= fun _ => pure r) Q E s₃) E s₂ := by
  rw [hs o i]
  exact wpAny_operating (wpAny_mono h₂ (fun r s₃ h₃ => wpAny_bind (wpAny_letTemporaryGo (wpAny_pure h₃))) fun _ _ x => x)
 first
  | exact wpAny_pure (wpAny_bind fin)
  | exact wpAny_bind (wpAny_pure (wpAny_bind fin))
  | exact wpAny_bind fin
theorem dict_typeIs {X : Cx} {pins : List (Addr × Obj)} {σ : St} {H : Hp} {s : Shared} {a : Addr} {y : V} {o : Option V} (I : Inv X pins σ H s) (g : DGet H a y o) : s.TypeIs (.ref a) "dict" := by
 rcases g with ⟨kvs, k, e, _, _⟩ | ⟨kvs, k, b, e, _, _, _⟩
 · obtain ⟨_, _, vs, _, dd⟩ := dk_rd I.hok e
   exact dd.typeIs
 · obtain ⟨_, _, xs, _, dd⟩ := dt_rd I.hok e
   exact dd.typeIs
noncomputable def tDGet (td ty : TE) : TE := fun σ H Q => td σ H fun x H1 => ty σ H1 fun y H2 => ∃ a v, x = .ref a ∧ DGet H2 a y (some v) ∧ Q v H2
noncomputable def tDNotIn (ty td : TE) : TE := fun σ H Q => ty σ H fun y H1 => td σ H1 fun x H2 => ∃ a o, x = .ref a ∧ DGet H2 a y o ∧ Q (.bl (!o.isSome)) H2
noncomputable def sDPut (td ty tv : TE) : TS := fun D σ H => tv σ H fun v H1 => td σ H1 fun x H2 => ty σ H2 fun y H3 => ∃ a H4, x = .ref a ∧ DPut H3 a y v H4 ∧ D.nx σ H4
section
variable {X : Cx} {o i e value : Expr} {pos pos' tpos : Pos} {td ty tv : TE}
theorem zz8 (hu : X.A.units + 1 < cLine) (ho : PE X o td) (hi : PE X i ty) (hs : NoSl i) : PE X (.Subscript o i pos) (tDGet td ty) := by
 intro pins s σ H Q I h
 refine subD_of PySem.F.slot_dict_getitem.lookup hs (thn (ho pins s σ H _ I h) fun u s1 ⟨x, H1, I1, rx, q1⟩ => thn (hi pins s1 σ H1 _ I1 q1) fun iv s2 hq0 => ?_)
 obtain ⟨y, H2, I2, ry, a, v, ex, g, q2⟩ := hq0
 subst ex
 obtain rfl : u = Value.ref a := rx
 exact ⟨dict_typeIs I2 g, d_getItem hu I2 g ry fun w' s3 I3 rw' => ⟨v, H2, I3, rw', q2⟩⟩
theorem pc_dnotin (hu : X.A.units + 1 < cLine) (hi : PE X i ty) (ho : PE X o td) : PC X .NotIn i o (tDNotIn ty td) := by
 intro pins s σ H Q I h
 refine thn (hi pins s σ H _ I h) fun iv s1 ⟨y, H1, I1, ry, q1⟩ => thn (ho pins s1 σ H1 _ I1 q1) fun u s2 hq0 => ?_
 obtain ⟨x, H2, I2, rx, a, ov, ex, g, q2⟩ := hq0
 subst ex
 obtain rfl : u = Value.ref a := rx
 exact d_notIn hu I2 g ry fun s3 I3 => ⟨.bl (!ov.isSome), H2, I3, rfl, q2⟩
theorem ps_dput (hu : X.A.units + 1 < cLine) (ho : PE X o td) (hi : PE X i ty) (hv : PE X value tv) (hs : swapsWith value (some (.Subscript o i pos')) pos.line X.env = pure false) :
 PS X (.Assign [.Subscript o i pos'] value pos) (sDPut td ty tv) := by
 intro pins s σ H D I h
 refine wpAny_Assign_Subscript (thn (hv pins s σ H _ I h) fun r s1 ⟨v, H1, I1, rv, q1⟩ => thn (ho pins s1 σ H1 _ I1 q1) fun u s2 ⟨x, H2, I2, rx, q2⟩ => thn (hi pins s2 σ H2 _ I2 q2) fun iv s3 hq0 => ?_) hs
 obtain ⟨y, H3, I3, ry, a, H4, ex, g, q3⟩ := hq0
 subst ex
 obtain rfl : u = Value.ref a := rx
 exact d_setItem hu I3 g ry rv fun s4 I4 => ⟨σ, H4, I4, q3⟩
end
theorem dk_empty {P : Program} {w : World} {H : Hp} (h : Heap) (hb : sysModules < h.objs.size) : ObjOk P w H (h.push { cls := .type "dict", data := .dict #[] }) h.objs.size (.dK []) :=
 ⟨Nat.zero_le _, beq_eq_false_iff_ne.mpr (Ne.symm (Nat.ne_of_lt hb)), [], .nil, Heap.DictOf.new h⟩
theorem dt_empty {P : Program} {w : World} {H : Hp} (h : Heap) (hb : sysModules < h.objs.size) : ObjOk P w H (h.push { cls := .type "dict", data := .dict #[] }) h.objs.size (.dT []) :=
 ⟨Nat.zero_le _, beq_eq_false_iff_ne.mpr (Ne.symm (Nat.ne_of_lt hb)), [], .nil, _, #[], 0, Heap.get?_push_size _ rfl, ⟨rfl, rfl, rfl⟩, rfl, rfl, List.nodup_nil⟩
noncomputable def tDNewK : TE := fun _ H Q => ∀ p, H p = none → Q (.ref p) (upd H p (.dK []))
noncomputable def tDNewT : TE := fun _ H Q => ∀ p, H p = none → Q (.ref p) (upd H p (.dT []))
section
variable {X : Cx} {pos : Pos}
theorem pe_dnewK : PE X (.Dict [] [] pos) tDNewK := fun pins s σ H Q I h =>
 wpAny_Dict_empty ⟨.ref s.heap.objs.size, _, I.laid (a := s.heap.objs.size) (o := .dK []) (t' := s.toks) (fun _ _ q => Heap.get?_push_of_some _ q) (Nat.le_refl _) (dk_empty s.heap I.big), rfl, h _ (I.hok.fresh (Nat.le_refl _))⟩
theorem pe_dnewT : PE X (.Dict [] [] pos) tDNewT := fun pins s σ H Q I h =>
 wpAny_Dict_empty ⟨.ref s.heap.objs.size, _, I.laid (a := s.heap.objs.size) (o := .dT []) (t' := s.toks) (fun _ _ q => Heap.get?_push_of_some _ q) (Nat.le_refl _) (dt_empty s.heap I.big), rfl, h _ (I.hok.fresh (Nat.le_refl _))⟩
end
section
variable {X : Cx} {pins : List (Addr × Obj)} {σ : St} {H : Hp} {s : Shared} {a : Addr} {y d : V} {u r : Value} {o : Option V} {A : Around} {E : Value → Shared → Prop}
end
section
variable {X : Cx} {o e f : Expr} {apos cpos : Pos} {td ty tx : TE}
end
section
variable {X : Cx} {pins : List (Addr × Obj)} {σ : St} {H : Hp} {s : Shared} {a : Addr} {kvs : List (Key × V)} {A : Around} {E : Value → Shared → Prop}
end
section
variable {X : Cx} {pins : List (Addr × Obj)} {σ : St} {H : Hp} {s : Shared} {a : Addr} {y : V} {u : Value} {A : Around} {E : Value → Shared → Prop}
end
end L2
namespace L2
open PySem PySem.Spec PyProof.Rows
section
variable {X : Cx}
theorem call_lenD : CallR X (.builtin "len") (fun xs H Q => ∃ a kvs, xs = [V.ref a] ∧ H a = some (.dK kvs) ∧ Q (.int kvs.length) H) := by
 intro pins s σ H xs us Q I r h
 obtain ⟨a, kvs, rfl, ha, q⟩ := h
 obtain ⟨u, rfl, ru⟩ := vals1 r
 cases ru
 exact d_len I (.inl ha) fun t s' I' => ⟨.int kvs.length, H, I', ⟨t, rfl⟩, q⟩
end
section
variable {κ : Type} [DecidableEq κ]
end
end L2
set_option Elab.async false
set_option linter.all false
set_option maxRecDepth 100000
namespace L2
open PySem PySem.Spec PyProof.Rows
section
variable {z : Str} {wi : TI} {g : TG} {tb : TS} {D : Ends} {σ : St} {H H1 : Hp} {ix : List (Option Nat)} {tc : TT} {te : TE} {Q : VK}
end
section
variable {X : Cx}
theorem truth_bools {P : Program} {w : World} {A : Around} {its : Array Value} {bs : List Bool} (r : Vals (bs.map V.bl) its.toList) : TruthOf P w A (fun i v => its[i]? = some v) fun i => bs.getD i false := by
 intro i v s Q E hv hQ
 have hv' : its.toList[i]? = some v := by simpa using hv
 have hlen := r.length
 have hi : i < bs.length := by
  have := (List.getElem?_eq_some_iff.mp hv').1
  rw [← hlen, List.length_map] at this
  exact this
 have hb : (bs.map V.bl)[i]? = some (V.bl bs[i]) := by rw [List.getElem?_map, List.getElem?_eq_getElem hi]; rfl
 obtain ⟨u, hu, ru⟩ := r.get hb
 rw [hv'] at hu
 cases hu
 cases ru
 refine wpAny_truthy_bool ?_
 have e : bs.getD i false = bs[i] := by simp [hi]
 have hQ' : Q (bs.getD i false) s := hQ
 rw [e] at hQ'
 exact hQ'
theorem range_all (bs : List Bool) : (List.range bs.length).all (fun i => bs.getD i false) = bs.all id := by
 rw [Bool.eq_iff_iff, List.all_eq_true, List.all_eq_true]
 constructor
 · intro h b hb
   obtain ⟨i, hi, rfl⟩ := List.mem_iff_getElem.mp hb
   have := h i (List.mem_range.mpr hi)
   simpa [hi] using this
 · intro h i hi
   have hi' := List.mem_range.mp hi
   have := h bs[i] (List.getElem_mem hi')
   simpa [hi'] using this
theorem call_all' (hc : X.calm = true) : CallR X (.builtin "all") (fun xs H Q => ∃ (a : Addr) (bs : List Bool), xs = [.ref a] ∧ SqL X.K H a (bs.map V.bl) ∧ Q (.bl (bs.all id)) H) := by
 intro pins s σ H xs us Q I r h
 obtain ⟨a, bs, rfl, hq, q⟩ := h
 obtain ⟨u, rfl, ru⟩ := vals1 r
 cases ru
 obtain ⟨its, rv, pl, _⟩ := I.list hq
 refine call_all_walk (wpAny_pyIter_list pl.isList ?_)
 have hne : a ≠ s.heap.objs.size := by
  obtain ⟨o, n, e, _⟩ := pl
  exact Nat.ne_of_lt (Heap.lt_size e)
 refine ⟨s.heap.objs.size, _, _, _, _, _, _, rfl, Walks.list (A := X.A.in1) (show X.A.in1.handled = none from I.ok.hd hc) _ a hne its.toArray, ⟨⟨_, Heap.get?_push_size _ rfl, rfl, rfl⟩, pl.isList.push _⟩, truth_bools (bs := bs) (by simpa using rv), fun h' tk k => ?_⟩
 have hsz : its.toArray.size = bs.length := by rw [List.size_toArray, ← rv.length, List.length_map]
 rw [hsz, range_all]
 exact ⟨.bl _, H, I.kept fun b o e => k b o (by
  simp only [List.mem_cons, List.not_mem_nil, or_false]
  exact Nat.ne_of_lt (Heap.lt_size e)) (Heap.get?_push_of_some _ e), rfl, q⟩
end
end L2
set_option Elab.async false
set_option linter.all false
set_option maxRecDepth 100000
namespace L2
open PySem PySem.Spec PyProof.Rows
section
variable {X : Cx}
noncomputable def CMulM (i j : Int) : Prop := i.natAbs < 2 ^ 512 ∧ j.natAbs < 2 ^ 512
theorem op_mulM : OpR X (binaryOp .Mult) (rI CMulM fun i j => .int (i * j)) := opI fun _ _ _ _ _ _ _ hc q => mul_int q (IntMulOk.of_le (PySem.intBits_le_iff.mpr hc.1) (PySem.intBits_le_iff.mpr hc.2) (by decide))
theorem call_isiT : CallR X (.builtin "isinstance") (fun xs H Q => ∃ (a : Addr) (ys : List V) (T : String) (k : Bool), xs = [.ref a, .ty T] ∧ SqT X.K H a ys ∧ PySem.W.kitOne X.K (.type "tuple") (.type T) = some k ∧ Q (.bl k) H) := by
 intro pins s σ H xs us Q I r h
 obtain ⟨a, ys, T, k, rfl, ha, hk, q⟩ := h
 cases r with
 | cons r rr =>
  cases rr with
  | cons r' rr =>
   cases rr
   cases r
   cases r'
   obtain ⟨its, _, ⟨o, e, c, _⟩, _⟩ := I.tuple ha
   exact PySem.W.kia_one (PySem.W.kitx_tuple) I.kIn ⟨o, e, c⟩ hk (by intro z; cases z) fun tk => ⟨.bl k, H, I.tok tk, rfl, q⟩
theorem call_isiL : CallR X (.builtin "isinstance") (fun xs H Q => ∃ (a : Addr) (ys : List V) (T : String) (k : Bool), xs = [.ref a, .ty T] ∧ SqL X.K H a ys ∧ PySem.W.kitOne X.K (.type "list") (.type T) = some k ∧ Q (.bl k) H) := by
 intro pins s σ H xs us Q I r h
 obtain ⟨a, ys, T, k, rfl, ha, hk, q⟩ := h
 cases r with
 | cons r rr =>
  cases rr with
  | cons r' rr =>
   cases rr
   cases r
   cases r'
   obtain ⟨its, _, ⟨o, n, e, c, _⟩, _⟩ := I.list ha
   exact PySem.W.kia_one (PySem.W.kitx_list) I.kIn ⟨o, e, c⟩ hk (by intro z; cases z) fun tk => ⟨.bl k, H, I.tok tk, rfl, q⟩
end
end L2
set_option Elab.async false
set_option linter.all false
set_option maxRecDepth 100000
namespace L2
open PySem PySem.Spec PyProof.Rows
section
variable {X : Cx} {K : PySem.W.Frag}
theorem zb4 (h : X.K = K) : IxR X (rIx K) := h ▸ ix_seq
theorem sl_listK (h : X.K = K) : SlR X (rSlL K) := h ▸ sl_list
theorem sl_tupK (h : X.K = K) : SlR X (rSlT K) := h ▸ sl_tup
theorem zr6 (h : X.K = K) : OpR X (compareOp .In) (rIn K false) := h ▸ op_in_seq
theorem zr9 (h : X.K = K) : OpR X (compareOp .NotIn) (rIn K true) := h ▸ op_notIn_seq
noncomputable def rLen (K : PySem.W.Frag) : List V → Hp → VK → Prop := fun xs H Q => ∃ p ys, xs = [.ref p] ∧ (SqL K H p ys ∨ SqT K H p ys) ∧ Q (.int ys.length) H
theorem call_len_seqK (h : X.K = K) : CallR X (.builtin "len") (rLen K) := h ▸ call_len_seq
noncomputable def rLenS : List V → Hp → VK → Prop := fun xs H Q => ∃ z, xs = [.str z] ∧ z.length ≤ sizeLine ∧ Q (.int z.length) H
theorem call_len_strK : CallR X (.builtin "len") rLenS := call_len_str
noncomputable def rIsiT (K : PySem.W.Frag) : List V → Hp → VK → Prop := fun xs H Q => ∃ (a : Addr) (ys : List V) (T : String) (k : Bool), xs = [.ref a, .ty T] ∧ SqT K H a ys ∧ PySem.W.kitOne K (.type "tuple") (.type T) = some k ∧ Q (.bl k) H
theorem call_isiTK (h : X.K = K) : CallR X (.builtin "isinstance") (rIsiT K) := h ▸ call_isiT
noncomputable def rIsiL (K : PySem.W.Frag) : List V → Hp → VK → Prop := fun xs H Q => ∃ (a : Addr) (ys : List V) (T : String) (k : Bool), xs = [.ref a, .ty T] ∧ SqL K H a ys ∧ PySem.W.kitOne K (.type "list") (.type T) = some k ∧ Q (.bl k) H
theorem call_isiLK (h : X.K = K) : CallR X (.builtin "isinstance") (rIsiL K) := h ▸ call_isiL
noncomputable def rIsi : List V → Hp → VK → Prop := fun xs H Q => ∃ v T k, xs = [v, .ty T] ∧ isiV v T = some k ∧ Q (.bl k) H
theorem call_isiK : CallR X (.builtin "isinstance") rIsi := call_isi
noncomputable def rListOf (K : PySem.W.Frag) : List V → Hp → VK → Prop := fun xs H Q => ∃ p ys, xs = [.ref p] ∧ (SqL K H p ys ∨ SqT K H p ys) ∧ ∀ l, H l = none → Q (.ref l) (upd H l (.lst ys))
theorem call_list_ofK (h : X.K = K) : CallR X (.type "list") (rListOf K) := h ▸ call_list_of
noncomputable def rAll (K : PySem.W.Frag) : List V → Hp → VK → Prop := fun xs H Q => ∃ (a : Addr) (bs : List Bool), xs = [.ref a] ∧ SqL K H a (bs.map V.bl) ∧ Q (.bl (bs.all id)) H
theorem call_allK (h : X.K = K) (hc : X.calm = true) : CallR X (.builtin "all") (rAll K) := h ▸ call_all' hc
theorem zz2 {pos : Pos} {es : List Expr} {k : Nat} {t : TGs} {n : Nat} (h : X.K = K) (hc : X.calm = true) (hh : PGs X es t)
 (hn : (assignEach es X.env).length = n := by rfl) (hst : (assignEach es X.env).findIdx? (·.1) = none := by rfl) : PG X (.Tuple es k pos) (gTup K n t) := h ▸ pg_tup hc hh hn hst
theorem pi_enumK {elts : List Expr} {x1} {tpos : Pos} {a : Expr} {ta : TA} {p pos : Pos} (h : X.K = K) (hg : Gl X "enumerate") (hm : X.mg "enumerate" = none) (ha : PA X [a] ta) (hs : starEach [a] X.env = [(false, eval a X.env)] := by rfl) :
 PI X (.Tuple elts x1 tpos) (.Call (.Name "enumerate" p) [a] [] pos) (iEnum K ta) := h ▸ pi_enum hg hm ha hs
variable {o e : Expr} {es : List Expr} {to : TE} {t : TA} {name : Str} {apos cpos : Pos} {T id : String} {r : V → List V → Hp → VK → Prop}
theorem zp2 (h : X.K = K) (pa : PlainAttrs T) (slot : Slot T name id) (hty : typeOf (.builtin id) = pure (.type "method_descriptor")) (hm : MtR X id r) (ho : PE X o to) (ha : PA X (e :: es) t)
 (hbase : attributeBase o name X.env (eval o X.env) = eval o X.env := by rfl)
 (hfew : ((backTo cpos (starEach (e :: es) X.env)).all (fun x => !x.1) && (backToKw cpos (keywordEach [] X.env)).all (fun x => x.1.isSome)
  && decide ((e :: es).length + ([] : List Keyword).length + (if ([] : List Keyword).isEmpty then 0 else 1) < 30)) = true := by rfl)
 (hline : (apos.endLine == cpos.line) = true := by rfl) (hs : starEach (e :: es) X.env = (false, eval e X.env) :: starEach es X.env := by rfl) (hplain : (backTo cpos (starEach es X.env)).any (·.1) = false := by rfl) :
 PE X (.Call (.Attribute o name apos) (e :: es) [] cpos) (tBM K T r to t) := h ▸ pe_bm pa slot hty hm ho ha hbase hfew hline hs hplain
end
theorem zy5 {H : Hp} {p : Addr} (h : H p = none) (o : HO) : Same H (upd H p o) := fun b u q => by rw [zd9 (zh9 q h)]; exact q
theorem Same.tup {K : PySem.W.Frag} {H H' : Hp} {a : Addr} {xs : List V} (g : Same H H') (q : SqT K H a xs) : SqT K H' a xs := by
 rcases q with (h | ⟨o, h⟩) | h
 · exact .inl (.inl (g _ _ h))
 · exact .inl (.inr ⟨o, g _ _ h⟩)
 · exact .inr h
noncomputable def Nw (H H' : Hp) (p : Addr) (o : HO) : Prop := Same H H' ∧ H p = none ∧ H' p = some o
theorem Nw.of {H : Hp} {p : Addr} {o : HO} (h : H p = none) : Nw H (upd H p o) p o := ⟨zy5 h o, h, zd1⟩
noncomputable def tTupN (t : TA) : TE := fun σ H Q => t σ H fun xs H1 => xs.length ≤ sizeLine ∧ ∀ p H', Nw H1 H' p (.tup xs) → Q (.ref p) H'
noncomputable def tLstN (t : TA) : TE := fun σ H Q => t σ H fun xs H1 => xs.length ≤ sizeLine ∧ ∀ p H', Nw H1 H' p (.lst xs) → Q (.ref p) H'
section
variable {X : Cx} {K : PySem.W.Frag} {es : List Expr} {t : TA} {pos : Pos}
theorem zb9 {x1} (h : PA X es t) : PE X (.Tuple es x1 pos) (tTupN t) := fun pins s σ H Q I hq => wpAny_Tuple_spliced (thn (h pos pins s σ H _ I hq) fun us s1 ⟨xs, H1, I1, r, z, q⟩ => ⟨by rw [← r.length]; exact z,
 .ref s1.heap.objs.size, _, I1.laid (t' := s1.toks) (o := .tup xs) (fun b u e => Heap.get?_push_of_some _ e) (Nat.le_refl _) ⟨z, us, r, ⟨_, Heap.get?_push_size _ rfl, rfl, _, rfl⟩⟩, rfl, q _ _ (.of (I1.hok.fresh (Nat.le_refl _)))⟩)
theorem ze7 (h : PA X es t) : PE X (.List es pos) (tLstN t) := fun pins s σ H Q I hq => wpAny_List_spliced (thn (h pos pins s σ H _ I hq) fun us s1 ⟨xs, H1, I1, r, z, q⟩ => ⟨by rw [← r.length]; exact z,
 .ref s1.heap.objs.size, _, I1.laid (t' := s1.toks) (o := .lst xs) (fun b u e => Heap.get?_push_of_some _ e) (Nat.le_refl _) ⟨z, us, 0, r, Heap.get?_push_size _ rfl⟩, rfl, q _ _ (.of (I1.hok.fresh (Nat.le_refl _)))⟩)
noncomputable def rSlLN (K : PySem.W.Frag) : V → Option Int → Option Int → Hp → VK → Prop := fun x lo hi H Q => ∃ a xs, x = .ref a ∧ SqL K H a xs ∧ ∀ p H', Nw H H' p (.lst (cutV xs lo hi)) → Q (.ref p) H'
theorem sl_listN (h : X.K = K) : SlR X (rSlLN K) := fun pins s σ H x v vl vu lo hi sl Q I rx hs pl pu ⟨a, xs, e, q, r⟩ => sl_listK h pins s σ H x v vl vu lo hi sl Q I rx hs pl pu ⟨a, xs, e, q, fun p hp => r p _ (.of hp)⟩
noncomputable def rSlTN (K : PySem.W.Frag) : V → Option Int → Option Int → Hp → VK → Prop := fun x lo hi H Q => ∃ a xs, x = .ref a ∧ SqT K H a xs ∧
 ((HT.sIx xs.length 0 lo = 0 ∧ HT.sIx xs.length xs.length hi = xs.length ∧ Q (.ref a) H) ∨ (¬ (HT.sIx xs.length 0 lo = 0 ∧ HT.sIx xs.length xs.length hi = xs.length) ∧ ∀ p H', Nw H H' p (.tup (cutV xs lo hi)) → Q (.ref p) H'))
theorem tuple_all {prog : Program} {w : World} {A : Around} {E : Value → Shared → Prop} {s : Shared} {a sl : Addr} {its : Array Value} {vl vu : Value} {lo hi : Option Int} {Q : Value → Shared → Prop} (ht : IsTup s.heap a its) (hs : s.heap.IsSliceOf sl vl vu .none) (pl : IsPart vl lo) (pu : IsPart vu hi)
 (h1 : HT.sIx its.size 0 lo = 0) (h2 : HT.sIx its.size its.size hi = its.size) (h : Q (.ref a) s) : wpAny (model prog w) A (getItem (.ref a) (.ref sl)) Q E s := by
 obtain ⟨os, hos, hcs, hds⟩ := id hs
 unfold getItem
 try with_reducible refine wpAny_holding ?_
 first | refine wpAny_bind (wpAny_pure ?_) | skip
 refine wpAny_bind (wpAny_sequenceKey ht.typeIs (by decide) (wpAny_bind (wpAny_callSpecial?_slot (name := Str.ofString "__getitem__") ht.typeIs PyProof.Rows.slot_tuple_getitem (wpAny_call_entry PyProof.Rows.slot_tuple_getitem ht.typeIs entry_tuple_getitem ?_ (args_tuple_getitem _ _)))))
 show wpAny _ _ (Builtin.Tuple.tupleItemsOf (.ref a) >>= _) _ _ s
 refine wpAny_bind (PyProof.Rows.tupleItemsOf_ ht (wpAny_bind (wpAny_typeOf (show s.TypeIs (.ref sl) "slice" from ⟨os, hos, hcs⟩) ?_)))
 rw [if_pos (by decide)]
 refine wpAny_bind (HT.sliceApplied_gen hs pl pu ?_)
 have yes : (((HT.sIx its.size 0 lo : Nat) : Int) == 0 && (1 : Int) == 1 && (HT.sIx its.size its.size hi - HT.sIx its.size 0 lo) == its.size) = true := by
  rw [h1, h2]; simp
 show wpAny _ _ (if (((HT.sIx its.size 0 lo : Nat) : Int) == 0 && (1 : Int) == 1 && (HT.sIx its.size its.size hi - HT.sIx its.size 0 lo) == its.size) = true then _ else _) _ _ s
 rw [if_pos yes]
 refine wpAny_bind ?_
 unfold Builtin.Tuple.tupleIsExact
 refine wpAny_bind (wpAny_typeOf ht.typeIs (wpAny_pure ?_))
 rw [if_pos (by decide)]
 exact wpAny_bind (wpAny_rule (wpAny_pure ⟨_, rfl, wpAny_pure h⟩))
theorem yc1 (h : X.K = K) : SlR X (rSlTN K) := by
 intro pins s σ H x v vl vu lo hi sl Q I rx hs pl pu q
 obtain ⟨a, xs, e, hx, q | q⟩ := q
 · subst h e
   cases rx
   obtain ⟨its, r, ht, hz⟩ := I.tuple hx
   have hlen : its.toArray.size = xs.length := by rw [List.size_toArray]; exact r.length.symm
   exact ⟨"tuple", _, PyProof.Rows.slot_tuple_getitem.lookup, ht.typeIs, tuple_all ht hs pl pu (by rw [hlen]; exact q.1) (by rw [hlen]; exact q.2.1) ⟨.ref a, H, I, rfl, q.2.2⟩⟩
 · exact sl_tupK h pins s σ H x v vl vu lo hi sl Q I rx hs pl pu ⟨a, xs, e, hx, q.1, fun p hp => q.2 p _ (.of hp)⟩
end
end L2
set_option Elab.async false
set_option linter.all false
set_option maxRecDepth 100000
namespace L2
open PySem PySem.Spec PyProof.Rows
section
variable {X : Cx} {K : PySem.W.Frag}
end
end L2
set_option Elab.async false
set_option linter.all false
set_option maxRecDepth 100000
namespace L2
open PySem PySem.Spec PyProof.Rows
noncomputable def strOf : Value → Option Str
 | .str x _ => some x
 | _ => none
noncomputable def strsAre (us : List Value) (ws : List Str) : Bool := decide (us.map strOf = ws.map some)
theorem strOf_rel {u : Value} {y : Str} (h : strOf u = some y) : RelV (.str y) u := by
 unfold strOf at h
 split at h
 · cases h; exact ⟨_, rfl⟩
 · cases h
theorem strsAre_vals : ∀ {us : List Value} {ws : List Str}, us.map strOf = ws.map some → Vals (ws.map V.str) us
 | [], [], _ => .nil
 | u :: r, y :: s, h => by
  simp only [List.map_cons, List.cons.injEq] at h
  exact .cons (strOf_rel h.1) (strsAre_vals h.2)
 | [], _ :: _, h => by simp at h
 | _ :: _, [], h => by simp at h
noncomputable def yi2 (o : Obj) (ws : List Str) : Bool := match o.data with
 | .seq its _ => strsAre its.toList ws && decide (its.size ≤ 1000)
 | _ => false
theorem sq_strTup {K : PySem.W.Frag} {H : Hp} {a : Addr} {o : Obj} {ws : List Str} (h : K.lookup a = some o) (hc : o.cls = .type "tuple") (ht : yi2 o ws = true) : SqT K H a (ws.map V.str) := by
 unfold yi2 at ht
 split at ht
 · rename_i its n e
   rw [Bool.and_eq_true] at ht
   exact .inr ⟨o, its, n, h, hc, e, Nat.le_of_lt (small1000 (by simpa using ht.2)), strsAre_vals (of_decide_eq_true ht.1)⟩
 · cases ht
end L2
set_option Elab.async false
set_option linter.all false
set_option maxRecDepth 100000
namespace L2
open PySem PySem.Spec PyProof.Rows
section
variable {K : PySem.W.Frag} {x D : Addr} {prog : Program} {w : World} {A : Around} {E : Value → Shared → Prop} {s : Shared}
end
section
variable {X : Cx} {K : PySem.W.Frag}
end
end L2
set_option Elab.async false
set_option linter.all false
set_option maxRecDepth 100000
namespace L2
open PySem PySem.Spec PyProof.Rows
section
variable {P : Program} {w : World} {A : Around} {E : Value → Shared → Prop} {s : Shared}
end
end L2
set_option Elab.async false
set_option linter.all false
set_option maxRecDepth 100000
namespace L2
open PySem PySem.Spec PyProof.Rows
section
variable {X : Cx} {K : PySem.W.Frag}
end
section
variable {K : PySem.W.Frag} {a b : Addr} {xs ys : List V} {wi : TI} {g : TG} {σ : St} {H H1 : Hp} {ix : List (Option Nat)} {tc : TT} {te : TE} {Q : VK}
end
end L2
set_option Elab.async false
set_option linter.all false
set_option maxRecDepth 100000
namespace L2
open PySem PySem.Spec PyProof.Rows
section
variable {K : PySem.W.Frag} {a : Addr} {xs : List V} {wi : TI} {g : TG} {σ : St} {H H1 : Hp} {ix : List (Option Nat)} {tc : TT} {te : TE} {Q : VK}
end
end L2
set_option Elab.async false
set_option linter.all false
set_option maxRecDepth 100000
namespace L2
open PySem PySem.Spec PyProof.Rows
end L2
set_option Elab.async false
set_option linter.all false
set_option maxRecDepth 100000
namespace L2
open PySem PySem.Spec PyProof.Rows
inductive W where
 | none | bool (b : Bool) | int (i : Int) | str (x : Str) | list (ds : List W) | tuple (ds : List W) | ref (n : Nat)
mutual
inductive Dw (K : PySem.W.Frag) (ρ : List Addr) (H : Hp) : V → W → Prop
 | non : Dw K ρ H .non .none
 | bl (b : Bool) : Dw K ρ H (.bl b) (.bool b)
 | int (i : Int) : Dw K ρ H (.int i) (.int i)
 | str (x : Str) : Dw K ρ H (.str x) (.str x)
 | lst {a : Addr} {xs : List V} {ds : List W} : SqL K H a xs → DwAll K ρ H xs ds → Dw K ρ H (.ref a) (.list ds)
 | tup {a : Addr} {xs : List V} {ds : List W} : H a = some (.tup xs) → DwAll K ρ H xs ds → Dw K ρ H (.ref a) (.tuple ds)
 | ref {a : Addr} {n : Nat} : ρ[n]? = some a → Dw K ρ H (.ref a) (.ref n)
inductive DwAll (K : PySem.W.Frag) (ρ : List Addr) (H : Hp) : List V → List W → Prop
 | nil : DwAll K ρ H [] []
 | cons {v : V} {vs : List V} {d : W} {ds : List W} : Dw K ρ H v d → DwAll K ρ H vs ds → DwAll K ρ H (v :: vs) (d :: ds)
end
mutual
theorem Dw.same {K : PySem.W.Frag} {ρ : List Addr} {H H' : Hp} (g : Same H H') : ∀ {v : V} {d : W}, Dw K ρ H v d → Dw K ρ H' v d
 | _, _, .non => .non
 | _, _, .bl b => .bl b
 | _, _, .int i => .int i
 | _, _, .str x => .str x
 | _, _, .lst q a => .lst (g.seq q) (DwAll.same g a)
 | _, _, .tup q a => .tup (g _ _ q) (DwAll.same g a)
 | _, _, .ref e => .ref e
theorem DwAll.same {K : PySem.W.Frag} {ρ : List Addr} {H H' : Hp} (g : Same H H') : ∀ {vs : List V} {ds : List W}, DwAll K ρ H vs ds → DwAll K ρ H' vs ds
 | _, _, .nil => .nil
 | _, _, .cons h t => .cons (Dw.same g h) (DwAll.same g t)
end
mutual
noncomputable def W.py : W → Option PyData
 | .none => some .none
 | .bool b => some (.bool b)
 | .int i => some (.int i)
 | .str x => some (.str x)
 | .list ds => (W.pys ds).map .list
 | .tuple ds => (W.pys ds).map .tuple
 | .ref _ => Option.none
noncomputable def W.pys : List W → Option (List PyData)
 | [] => some []
 | d :: ds => (W.py d).bind fun x => (W.pys ds).map (x :: ·)
end
mutual
theorem Dw.dp {K : PySem.W.Frag} {ρ : List Addr} {H : Hp} : ∀ {v : V} {d : W} {x : PyData}, Dw K ρ H v d → d.py = some x → Dp K H v x
 | _, _, _, .non, e => by simp only [W.py] at e; cases e; exact .non
 | _, _, _, .bl b, e => by simp only [W.py] at e; cases e; exact .bl b
 | _, _, _, .int i, e => by simp only [W.py] at e; cases e; exact .int i
 | _, _, _, .str y, e => by simp only [W.py] at e; cases e; exact .str y
 | _, _, _, .lst q a, e => by
  simp only [W.py] at e
  obtain ⟨xs, e1, rfl⟩ := Option.map_eq_some_iff.mp e
  exact .lst q (DwAll.dp a e1)
 | _, _, _, .tup q a, e => by
  simp only [W.py] at e
  obtain ⟨xs, e1, rfl⟩ := Option.map_eq_some_iff.mp e
  exact .tup (SqT.of q) (DwAll.dp a e1)
 | _, _, _, .ref _, e => by simp only [W.py] at e; cases e
theorem DwAll.dp {K : PySem.W.Frag} {ρ : List Addr} {H : Hp} : ∀ {vs : List V} {ds : List W} {xs : List PyData}, DwAll K ρ H vs ds → W.pys ds = some xs → DpAll K H vs xs
 | _, _, _, .nil, e => by simp only [W.pys] at e; cases e; exact .nil
 | _, _, _, .cons h t, e => by
  simp only [W.pys] at e
  obtain ⟨x, e1, e⟩ := Option.bind_eq_some_iff.mp e
  obtain ⟨ys, e2, rfl⟩ := Option.map_eq_some_iff.mp e
  exact .cons (Dw.dp h e1) (DwAll.dp t e2)
end
inductive Sl where
 | no
 | val (d : W)
 | own (ds : List W)
noncomputable abbrev DS := List Sl
noncomputable def SlOk (K : PySem.W.Frag) (ρ : List Addr) (G H : Hp) : Sl → Option V → Prop
 | .no, _ => True
 | .val d, o => ∃ v, o = some v ∧ Dw K ρ G v d
 | .own ds, o => ∃ p vs, o = some (.ref p) ∧ G p = none ∧ H p = some (.lst vs) ∧ DwAll K ρ G vs ds
structure Gr (G H G' H' : Hp) : Prop where
 g : Same G G'
 h : Same H H'
 s : Same G' H'
 n : ∀ b, H b ≠ none → G b = none → G' b = none
theorem yc6 {H H' : Hp} (s : Same H H') {b : Addr} (h : H b ≠ none) : H' b ≠ none := fun e => by
 cases q : H b with
 | none => exact h q
 | some o =>
  have := s b o q
  rw [e] at this
  cases this
theorem zq2 {G H : Hp} (s : Same G H) {b : Addr} (h : H b = none) : G b = none := by
 cases q : G b with
 | none => rfl
 | some o =>
  have := s b o q
  rw [h] at this
  cases this
theorem Gr.refl {G H : Hp} (s : Same G H) : Gr G H G H := ⟨.refl _, .refl _, s, fun _ _ h => h⟩
theorem Gr.trans {G H G1 H1 G2 H2 : Hp} (a : Gr G H G1 H1) (b : Gr G1 H1 G2 H2) : Gr G H G2 H2 :=
 ⟨a.g.trans b.g, a.h.trans b.h, b.s, fun c h1 h2 => b.n c (yc6 a.h h1) (a.n c h1 h2)⟩
theorem same_upd2 {G H' : Hp} {p : Addr} {o : HO} (s : Same G H') (h : H' p = some o) : Same (upd G p o) H' := fun b u e => by
 by_cases hb : b = p
 · subst hb
   rw [zd1] at e
   cases e
   exact h
 · rw [zd9 hb] at e
   exact s _ _ e
theorem Gr.new {G H G' H' : Hp} {p : Addr} {o : HO} (a : Gr G H G' H') (h0 : H p = none) (g0 : G' p = none) (h : H' p = some o) : Gr G H (upd G' p o) H' :=
 ⟨a.g.trans (zy5 g0 o), a.h, same_upd2 a.s h, fun b h1 h2 => by
  rw [zd9 (fun e => h1 (by rw [e]; exact h0))]
  exact a.n b h1 h2⟩
theorem Gr.nw {G H H' : Hp} {p : Addr} {o : HO} (s : Same G H) (n : Nw H H' p o) : Gr G H (upd G p o) H' :=
 Gr.new ⟨.refl _, n.1, s.trans n.1, fun _ _ h => h⟩ n.2.1 (zq2 s n.2.1) n.2.2
theorem Gr.nwO {G H H' : Hp} {p : Addr} {o : HO} (s : Same G H) (n : Nw H H' p o) : Gr G H G H' := ⟨.refl _, n.1, s.trans n.1, fun _ _ h => h⟩
structure Rl (K : PySem.W.Frag) (ρ : List Addr) (G H : Hp) (δ : DS) (σ : St) : Prop where
 sub : Same G H
 len : δ.length = σ.length
 sl : ∀ (i : Nat) s, δ[i]? = some s → ∃ o, σ[i]? = some o ∧ SlOk K ρ G H s o
 apart : ∀ (i j : Nat) p ds es, δ[i]? = some (.own ds) → δ[j]? = some (.own es) → σ[i]? = some (some (.ref p)) → σ[j]? = some (some (.ref p)) → i = j
theorem SlOk.grow {K : PySem.W.Frag} {ρ : List Addr} {G H G' H' : Hp} (g : Gr G H G' H') : ∀ {s : Sl} {o : Option V}, SlOk K ρ G H s o → SlOk K ρ G' H' s o
 | .no, _, _ => trivial
 | .val d, o, ⟨v, e, h⟩ => ⟨v, e, h.same g.g⟩
 | .own ds, o, ⟨p, vs, e, h1, h2, h3⟩ => ⟨p, vs, e, g.n p (by rw [h2]; simp) h1, g.h _ _ h2, h3.same g.g⟩
theorem Rl.grow {K : PySem.W.Frag} {ρ : List Addr} {G H G' H' : Hp} {δ : DS} {σ : St} (R : Rl K ρ G H δ σ) (g : Gr G H G' H') : Rl K ρ G' H' δ σ :=
 ⟨g.s, R.len, fun i s e => by
  obtain ⟨o, h1, h2⟩ := R.sl i s e
  exact ⟨o, h1, h2.grow g⟩, R.apart⟩
theorem zr3 {α : Type} {xs : List α} {i j : Nat} {a b : α} (h : (xs.set i a)[j]? = some b) : (i = j ∧ a = b ∧ j < xs.length) ∨ (i ≠ j ∧ xs[j]? = some b) := by
 by_cases e : i = j
 · subst e
   rw [List.getElem?_set] at h
   simp only [if_true] at h
   split at h
   · rename_i hl
     cases h
     exact .inl ⟨rfl, rfl, hl⟩
   · cases h
 · rw [List.getElem?_set_ne e] at h
   exact .inr ⟨e, h⟩
theorem ya7 {α : Type} {xs : List α} {i : Nat} {a : α} (h : i < xs.length) : (xs.set i a)[i]? = some a := by
 rw [List.getElem?_set]
 simp [h]
noncomputable def OwnSub (δ' : DS) (σ' : St) (δ : DS) (σ : St) : Prop := ∀ (i : Nat) ds p, δ'[i]? = some (.own ds) → σ'[i]? = some (some (.ref p)) → ∃ es, δ[i]? = some (.own es) ∧ σ[i]? = some (some (.ref p))
theorem OwnSub.refl (δ : DS) (σ : St) : OwnSub δ σ δ σ := fun i ds p h1 h2 => ⟨ds, h1, h2⟩
theorem OwnSub.trans {δ δ1 δ2 : DS} {σ σ1 σ2 : St} (a : OwnSub δ2 σ2 δ1 σ1) (b : OwnSub δ1 σ1 δ σ) : OwnSub δ2 σ2 δ σ := fun i ds p h1 h2 => by
 obtain ⟨es, h3, h4⟩ := a i ds p h1 h2
 exact b i es p h3 h4
theorem zx2 {δ : DS} {σ : St} {i : Nat} {d : W} {v : V} (h : δ.length = σ.length) : OwnSub (δ.set i (.val d)) (σ.set i (some v)) δ σ := fun j ds p h1 h2 => by
 rcases zr3 h1 with ⟨_, e, _⟩ | ⟨ne, h1⟩
 · cases e
 · rw [List.getElem?_set_ne ne] at h2
   exact ⟨ds, h1, h2⟩
theorem Rl.set {K : PySem.W.Frag} {ρ : List Addr} {G H : Hp} {δ : DS} {σ : St} {i : Nat} {d : W} {v : V} (R : Rl K ρ G H δ σ) (h : Dw K ρ G v d) : Rl K ρ G H (δ.set i (.val d)) (σ.set i (some v)) :=
 ⟨R.sub, by rw [List.length_set, List.length_set]; exact R.len, fun j s e => by
  rcases zr3 e with ⟨rfl, rfl, hl⟩ | ⟨ne, e⟩
  · exact ⟨_, ya7 (by rw [← R.len]; exact hl), v, rfl, h⟩
  · rw [List.getElem?_set_ne ne]
    exact R.sl j s e, fun j k p ds es h1 h2 h3 h4 => by
  obtain ⟨ds', a1, a2⟩ := zx2 (v := v) R.len j ds p h1 h3
  obtain ⟨es', b1, b2⟩ := zx2 (v := v) R.len k es p h2 h4
  exact R.apart j k p _ _ a1 b1 a2 b2⟩
theorem Rl.setO {K : PySem.W.Frag} {ρ : List Addr} {G H : Hp} {δ : DS} {σ : St} {i : Nat} {ds : List W} {p : Addr} {vs : List V} (R : Rl K ρ G H δ σ) (g0 : G p = none) (h : H p = some (.lst vs)) (hd : DwAll K ρ G vs ds)
 (hn : ∀ (j : Nat) es, j ≠ i → δ[j]? = some (.own es) → σ[j]? ≠ some (some (.ref p))) : Rl K ρ G H (δ.set i (.own ds)) (σ.set i (some (.ref p))) :=
 ⟨R.sub, by rw [List.length_set, List.length_set]; exact R.len, fun j s e => by
  rcases zr3 e with ⟨rfl, rfl, hl⟩ | ⟨ne, e⟩
  · exact ⟨_, ya7 (by rw [← R.len]; exact hl), p, vs, rfl, g0, h, hd⟩
  · rw [List.getElem?_set_ne ne]
    exact R.sl j s e, fun j k q ds' es' h1 h2 h3 h4 => by
  rcases zr3 h1 with ⟨rfl, _, hl⟩ | ⟨ne, h1⟩ <;> rcases zr3 h2 with ⟨rfl, _, hl2⟩ | ⟨ne2, h2⟩
  · rfl
  · rw [ya7 (by rw [← R.len]; exact hl)] at h3
    rw [List.getElem?_set_ne ne2] at h4
    cases h3
    exact absurd h4 (hn k es' (Ne.symm ne2) h2)
  · rw [ya7 (by rw [← R.len]; exact hl2)] at h4
    rw [List.getElem?_set_ne ne] at h3
    cases h4
    exact absurd h3 (hn j ds' (Ne.symm ne) h1)
  · rw [List.getElem?_set_ne ne] at h3
    rw [List.getElem?_set_ne ne2] at h4
    exact R.apart j k q _ _ h1 h2 h3 h4⟩
noncomputable def DE (K : PySem.W.Frag) (ρ : List Addr) (t : TE) (f : DS → Option W) : Prop :=
 ∀ (G : Hp) (σ : St) (H : Hp) (δ : DS) (d : W) (Q : VK), Rl K ρ G H δ σ → f δ = some d → (∀ v G' H', Gr G H G' H' → Dw K ρ G' v d → Q v H') → t σ H Q
noncomputable def DA (K : PySem.W.Frag) (ρ : List Addr) (t : TA) (f : DS → Option (List W)) : Prop :=
 ∀ (G : Hp) (σ : St) (H : Hp) (δ : DS) (ds : List W) (Q : List V → Hp → Prop), Rl K ρ G H δ σ → f δ = some ds → (∀ vs G' H', Gr G H G' H' → DwAll K ρ G' vs ds → Q vs H') → t σ H Q
noncomputable def DT (K : PySem.W.Frag) (ρ : List Addr) (t : TT) (f : DS → Option Bool) : Prop :=
 ∀ (G : Hp) (σ : St) (H : Hp) (δ : DS) (b : Bool) (Q : Bool → Hp → Prop), Rl K ρ G H δ σ → f δ = some b → (∀ G' H', Gr G H G' H' → Q b H') → t σ H Q
noncomputable def DO (K : PySem.W.Frag) (ρ : List Addr) (t : TE) (f : DS → Option (List W)) : Prop :=
 ∀ (G : Hp) (σ : St) (H : Hp) (δ : DS) (ds : List W) (Q : VK), Rl K ρ G H δ σ → f δ = some ds → (∀ p vs G' H', Gr G H G' H' → H p = none → G' p = none → H' p = some (.lst vs) → DwAll K ρ G' vs ds → Q (.ref p) H') → t σ H Q
noncomputable def Pk (K : PySem.W.Frag) (ρ : List Addr) (G H : Hp) (v : V) (d : W) : Prop := Dw K ρ G v d ∨ ∃ p vs ds, v = .ref p ∧ d = .list ds ∧ H p = some (.lst vs) ∧ DwAll K ρ G vs ds
noncomputable def DK (K : PySem.W.Frag) (ρ : List Addr) (t : TE) (f : DS → Option W) : Prop :=
 ∀ (G : Hp) (σ : St) (H : Hp) (δ : DS) (d : W) (Q : VK), Rl K ρ G H δ σ → f δ = some d → (∀ v G' H', Gr G H G' H' → Pk K ρ G' H' v d → Q v H') → t σ H Q
section
variable {K : PySem.W.Frag} {ρ : List Addr}
theorem Pk.dp {G H : Hp} {v : V} {d : W} (s : Same G H) (h : Pk K ρ G H v d) : Dw K ρ H v d := by
 rcases h with h | ⟨p, vs, ds, rfl, rfl, h1, h2⟩
 · exact h.same s
 · exact .lst (SqL.of h1) (h2.same s)
theorem Pk.grow {G H G' H' : Hp} {v : V} {d : W} (g : Gr G H G' H') (h : Pk K ρ G H v d) : Pk K ρ G' H' v d := by
 rcases h with h | ⟨p, vs, ds, rfl, rfl, h1, h2⟩
 · exact .inl (h.same g.g)
 · exact .inr ⟨p, vs, ds, rfl, rfl, g.h _ _ h1, h2.same g.g⟩
theorem DE.dk {t : TE} {f : DS → Option W} (h : DE K ρ t f) : DK K ρ t f := fun G σ H δ d Q R e q => h G σ H δ d Q R e fun v G' H' g dv => q v G' H' g (.inl dv)
noncomputable def dOwn (f : DS → Option (List W)) : DS → Option W := fun δ => (f δ).map .list
theorem DO.de {t : TE} {f : DS → Option (List W)} (h : DO K ρ t f) : DE K ρ t (dOwn f) := fun G σ H δ d Q R e q => by
 obtain ⟨ds, e1, rfl⟩ := Option.map_eq_some_iff.mp e
 exact h G σ H δ ds Q R e1 fun p vs G' H' g h0 g0 hh da => q _ _ H' (g.new h0 g0 hh) (.lst (SqL.of zd1) (da.same (zy5 g0 _)))
noncomputable def dVar (i : Nat) : DS → Option W := fun δ => match δ[i]? with
 | some (.val d) => some d
 | _ => none
theorem za2 {i : Nat} : DE K ρ (tVar i) (dVar i) := fun G σ H δ d Q R e q => by
 unfold dVar at e
 split at e
 · rename_i d' h
   cases e
   obtain ⟨o, h1, v, h2, h3⟩ := R.sl i _ h
   exact ⟨v, by rw [h1, h2], q v G H (.refl R.sub) h3⟩
 · cases e
noncomputable def dPk (i : Nat) : DS → Option W := fun δ => match δ[i]? with
 | some (.val d) => some d
 | some (.own ds) => some (.list ds)
 | _ => none
theorem za6 {i : Nat} : DK K ρ (tVar i) (dPk i) := fun G σ H δ d Q R e q => by
 unfold dPk at e
 split at e
 · rename_i d' h
   cases e
   obtain ⟨o, h1, v, h2, h3⟩ := R.sl i _ h
   exact ⟨v, by rw [h1, h2], q v G H (.refl R.sub) (.inl h3)⟩
 · rename_i ds h
   cases e
   obtain ⟨o, h1, p, vs, h2, h3, h4, h5⟩ := R.sl i _ h
   exact ⟨.ref p, by rw [h1, h2], q _ G H (.refl R.sub) (.inr ⟨p, vs, ds, rfl, rfl, h4, h5⟩)⟩
 · cases e
noncomputable def dC (d : W) : DS → Option W := fun _ => some d
theorem de_c {v : V} {d : W} (h : ∀ G, Dw K ρ G v d) : DE K ρ (tC v) (dC d) := fun G σ H δ d' Q R e q => by
 cases e
 exact q v G H (.refl R.sub) (h G)
theorem za7 {i : Int} : DE K ρ (tC (.int i)) (dC (.int i)) := de_c fun _ => .int i
theorem de_bl {b : Bool} : DE K ρ (tC (.bl b)) (dC (.bool b)) := de_c fun _ => .bl b
theorem zb2 {x : Str} : DE K ρ (tC (.str x)) (dC (.str x)) := de_c fun _ => .str x
theorem yb7 : DE K ρ (tC .non) (dC .none) := de_c fun _ => .non
noncomputable def DR (K : PySem.W.Frag) (ρ : List Addr) (r : R2) (g : W → W → Option W) : Prop :=
 ∀ (G H : Hp) (x y : V) (d e c : W) (Q : VK), Same G H → Pk K ρ G H x d → Dw K ρ G y e → g d e = some c → (∀ v G' H', Gr G H G' H' → Dw K ρ G' v c → Q v H') → r x y H Q
noncomputable def dOp (g : W → W → Option W) (fa fb : DS → Option W) : DS → Option W := fun δ => (fa δ).bind fun x => (fb δ).bind fun y => g x y
theorem de_op {r : R2} {ta tb : TE} {fa fb : DS → Option W} {g : W → W → Option W} (hr : DR K ρ r g) (ha : DK K ρ ta fa) (hb : DE K ρ tb fb) : DE K ρ (tOp r ta tb) (dOp g fa fb) := fun G σ H δ d Q R e q => by
 obtain ⟨x, ex, e⟩ := Option.bind_eq_some_iff.mp e
 obtain ⟨y, ey, e⟩ := Option.bind_eq_some_iff.mp e
 exact ha G σ H δ x _ R ex fun v G1 H1 g1 dv => hb G1 σ H1 δ y _ (R.grow g1) ey fun u G2 H2 g2 du => hr G2 H2 v u x y d Q g2.s (dv.grow g2) du e fun w G3 H3 g3 dw => q w G3 H3 (g1.trans (g2.trans g3)) dw
noncomputable def DB (K : PySem.W.Frag) (ρ : List Addr) (r : R2) (g : W → W → Option Bool) : Prop :=
 ∀ (H : Hp) (x y : V) (d e : W) (b : Bool) (Q : VK), Dw K ρ H x d → Dw K ρ H y e → g d e = some b → Q (.bl b) H → r x y H Q
noncomputable def dCmp (g : W → W → Option Bool) (fa fb : DS → Option W) : DS → Option Bool := fun δ => (fa δ).bind fun x => (fb δ).bind fun y => g x y
noncomputable def dB (f : DS → Option Bool) : DS → Option W := fun δ => (f δ).map .bool
theorem dcmp_core {r : R2} {ta tb : TE} {fa fb : DS → Option W} {g : W → W → Option Bool} (hr : DB K ρ r g) (ha : DK K ρ ta fa) (hb : DK K ρ tb fb) {G : Hp} {σ : St} {H : Hp} {δ : DS} {b : Bool} {Q : VK} (R : Rl K ρ G H δ σ) (e : dCmp g fa fb δ = some b) (q : ∀ G' H', Gr G H G' H' → Q (.bl b) H') : tOp r ta tb σ H Q := by
 obtain ⟨x, ex, e⟩ := Option.bind_eq_some_iff.mp e
 obtain ⟨y, ey, e⟩ := Option.bind_eq_some_iff.mp e
 exact ha G σ H δ x _ R ex fun v G1 H1 g1 dv => hb G1 σ H1 δ y _ (R.grow g1) ey fun u G2 H2 g2 du => hr H2 v u x y b Q ((dv.grow g2).dp g2.s) (du.dp g2.s) e (q G2 H2 (g1.trans g2))
theorem zc2 {r : R2} {ta tb : TE} {fa fb : DS → Option W} {g : W → W → Option Bool} (hr : DB K ρ r g) (ha : DK K ρ ta fa) (hb : DK K ρ tb fb) : DT K ρ (tTest (tOp r ta tb)) (dCmp g fa fb) := fun G σ H δ b Q R e q =>
 dcmp_core hr ha hb R e fun G' H' g => ⟨b, rfl, q G' H' g⟩
noncomputable def asB : W → Option Bool
 | .bool b => some b
 | _ => none
noncomputable def dTru (f : DS → Option W) : DS → Option Bool := fun δ => (f δ).bind asB
theorem yb0 {d : W} {b : Bool} (h : asB d = some b) : d = .bool b := by
 cases d <;> first | (cases h; rfl) | cases h
theorem dt_val {t : TE} {f : DS → Option W} (h : DE K ρ t f) : DT K ρ (tB t) (dTru f) := fun G σ H δ b Q R e q => by
 obtain ⟨x, ex, e⟩ := Option.bind_eq_some_iff.mp e
 cases yb0 e
 exact h G σ H δ _ _ R ex fun v G1 H1 g1 dv => by
  cases dv
  exact ⟨b, rfl, q G1 H1 g1⟩
noncomputable def dAnd (f g : DS → Option Bool) : DS → Option Bool := fun δ => (f δ).bind fun b => if b = true then g δ else some false
noncomputable def dOr (f g : DS → Option Bool) : DS → Option Bool := fun δ => (f δ).bind fun b => if b = true then some true else g δ
noncomputable def dNot (f : DS → Option Bool) : DS → Option Bool := fun δ => (f δ).map (!·)
theorem dt_and {t u : TT} {f g : DS → Option Bool} (h1 : DT K ρ t f) (h2 : DT K ρ u g) : DT K ρ (tAnd t u) (dAnd f g) := fun G σ H δ b Q R e q => by
 obtain ⟨x, ex, e⟩ := Option.bind_eq_some_iff.mp e
 refine h1 G σ H δ x _ R ex fun G1 H1 g1 => ?_
 cases x with
 | true => exact h2 G1 σ H1 δ b Q (R.grow g1) e fun G2 H2 g2 => q G2 H2 (g1.trans g2)
 | false => cases e; exact q G1 H1 g1
theorem dt_or {t u : TT} {f g : DS → Option Bool} (h1 : DT K ρ t f) (h2 : DT K ρ u g) : DT K ρ (tOr t u) (dOr f g) := fun G σ H δ b Q R e q => by
 obtain ⟨x, ex, e⟩ := Option.bind_eq_some_iff.mp e
 refine h1 G σ H δ x _ R ex fun G1 H1 g1 => ?_
 cases x with
 | false => exact h2 G1 σ H1 δ b Q (R.grow g1) e fun G2 H2 g2 => q G2 H2 (g1.trans g2)
 | true => cases e; exact q G1 H1 g1
theorem dt_not {t : TT} {f : DS → Option Bool} (h : DT K ρ t f) : DT K ρ (tNot t) (dNot f) := fun G σ H δ b Q R e q => by
 obtain ⟨x, ex, rfl⟩ := Option.map_eq_some_iff.mp e
 exact h G σ H δ x _ R ex q
noncomputable def dAndV (f g : DS → Option W) : DS → Option W := fun δ => (f δ).bind fun x => (asB x).bind fun b => if b = true then g δ else some (.bool false)
noncomputable def dOrV (f g : DS → Option W) : DS → Option W := fun δ => (f δ).bind fun x => (asB x).bind fun b => if b = true then some (.bool true) else g δ
theorem de_and {t u : TE} {f g : DS → Option W} (h1 : DE K ρ t f) (h2 : DE K ρ u g) : DE K ρ (tAndV t u) (dAndV f g) := fun G σ H δ d Q R e q => by
 obtain ⟨x, ex, e⟩ := Option.bind_eq_some_iff.mp e
 obtain ⟨b, eb, e⟩ := Option.bind_eq_some_iff.mp e
 cases yb0 eb
 refine h1 G σ H δ _ _ R ex fun v G1 H1 g1 dv => ?_
 cases dv
 refine ⟨b, rfl, ?_⟩
 cases b with
 | true => exact h2 G1 σ H1 δ d Q (R.grow g1) e fun v G2 H2 g2 dv => q v G2 H2 (g1.trans g2) dv
 | false => cases e; exact q _ G1 H1 g1 (.bl false)
theorem de_or {t u : TE} {f g : DS → Option W} (h1 : DE K ρ t f) (h2 : DE K ρ u g) : DE K ρ (tOrV t u) (dOrV f g) := fun G σ H δ d Q R e q => by
 obtain ⟨x, ex, e⟩ := Option.bind_eq_some_iff.mp e
 obtain ⟨b, eb, e⟩ := Option.bind_eq_some_iff.mp e
 cases yb0 eb
 refine h1 G σ H δ _ _ R ex fun v G1 H1 g1 dv => ?_
 cases dv
 refine ⟨b, rfl, ?_⟩
 cases b with
 | false => exact h2 G1 σ H1 δ d Q (R.grow g1) e fun v G2 H2 g2 dv => q v G2 H2 (g1.trans g2) dv
 | true => cases e; exact q _ G1 H1 g1 (.bl true)
noncomputable def dNotV (f : DS → Option W) : DS → Option W := fun δ => (f δ).bind fun x => (asB x).map fun b => .bool (!b)
theorem de_not {t : TE} {f : DS → Option W} (h : DE K ρ t f) : DE K ρ (tNotV t) (dNotV f) := fun G σ H δ d Q R e q => by
 obtain ⟨x, ex, e⟩ := Option.bind_eq_some_iff.mp e
 obtain ⟨b, eb, rfl⟩ := Option.map_eq_some_iff.mp e
 cases yb0 eb
 refine h G σ H δ _ _ R ex fun v G1 H1 g1 dv => ?_
 cases dv
 exact ⟨b, rfl, q _ G1 H1 g1 (.bl _)⟩
noncomputable def dIf (c : DS → Option Bool) (f g : DS → Option W) : DS → Option W := fun δ => (c δ).bind fun b => if b = true then f δ else g δ
theorem de_if {tc : TT} {t u : TE} {c : DS → Option Bool} {f g : DS → Option W} (hc : DT K ρ tc c) (h1 : DE K ρ t f) (h2 : DE K ρ u g) : DE K ρ (tIf tc t u) (dIf c f g) := fun G σ H δ d Q R e q => by
 obtain ⟨b, eb, e⟩ := Option.bind_eq_some_iff.mp e
 refine hc G σ H δ b _ R eb fun G1 H1 g1 => ?_
 cases b with
 | true => exact h1 G1 σ H1 δ d Q (R.grow g1) e fun v G2 H2 g2 dv => q v G2 H2 (g1.trans g2) dv
 | false => exact h2 G1 σ H1 δ d Q (R.grow g1) e fun v G2 H2 g2 dv => q v G2 H2 (g1.trans g2) dv
noncomputable def dNil : DS → Option (List W) := fun _ => some []
noncomputable def dCons (f : DS → Option W) (g : DS → Option (List W)) : DS → Option (List W) := fun δ => (f δ).bind fun d => (g δ).map (d :: ·)
theorem zb0 : DA K ρ tNil dNil := fun G σ H δ ds Q R e q => by
 cases e
 exact q [] G H (.refl R.sub) .nil
theorem za1 {t : TE} {u : TA} {f : DS → Option W} {g : DS → Option (List W)} (h1 : DE K ρ t f) (h2 : DA K ρ u g) : DA K ρ (tCons t u) (dCons f g) := fun G σ H δ ds Q R e q => by
 obtain ⟨d, ed, e⟩ := Option.bind_eq_some_iff.mp e
 obtain ⟨es, ee, rfl⟩ := Option.map_eq_some_iff.mp e
 exact h1 G σ H δ d _ R ed fun v G1 H1 g1 dv => h2 G1 σ H1 δ es _ (R.grow g1) ee fun vs G2 H2 g2 da => q _ G2 H2 (g1.trans g2) (.cons (dv.same g2.g) da)
theorem DwAll.length {G : Hp} : ∀ {vs : List V} {ds : List W}, DwAll K ρ G vs ds → vs.length = ds.length
 | _, _, .nil => rfl
 | _, _, .cons _ t => by rw [List.length_cons, List.length_cons, DwAll.length t]
theorem DwAll.get {G : Hp} : ∀ {vs : List V} {ds : List W} {i : Nat} {d : W}, DwAll K ρ G vs ds → ds[i]? = some d → ∃ v, vs[i]? = some v ∧ Dw K ρ G v d
 | _, _, 0, _, .cons h t, e => by simp at e; subst e; exact ⟨_, rfl, h⟩
 | _, _, i + 1, _, .cons h t, e => by
  obtain ⟨v, h1, h2⟩ := DwAll.get (i := i) t (by simpa using e)
  exact ⟨v, by simpa using h1, h2⟩
theorem DwAll.app {G : Hp} : ∀ {vs ws : List V} {ds es : List W}, DwAll K ρ G vs ds → DwAll K ρ G ws es → DwAll K ρ G (vs ++ ws) (ds ++ es)
 | _, _, _, _, .nil, h => h
 | _, _, _, _, .cons a b, h => .cons a (DwAll.app b h)
theorem DwAll.drop {G : Hp} : ∀ {vs : List V} {ds : List W} (n : Nat), DwAll K ρ G vs ds → DwAll K ρ G (vs.drop n) (ds.drop n)
 | _, _, 0, h => h
 | _, _, _ + 1, .nil => .nil
 | _, _, n + 1, .cons _ t => DwAll.drop n t
theorem DwAll.take {G : Hp} : ∀ {vs : List V} {ds : List W} (n : Nat), DwAll K ρ G vs ds → DwAll K ρ G (vs.take n) (ds.take n)
 | _, _, 0, _ => .nil
 | _, _, _ + 1, .nil => .nil
 | _, _, n + 1, .cons h t => .cons h (DwAll.take n t)
theorem DwAll.ints {G : Hp} : ∀ (ns : List Int), DwAll K ρ G (ns.map V.int) (ns.map .int)
 | [] => .nil
 | n :: r => .cons (.int n) (DwAll.ints r)
noncomputable def dTup (f : DS → Option (List W)) : DS → Option W := fun δ => (f δ).bind fun ds => if ds.length ≤ sizeLine then some (.tuple ds) else none
theorem ze1 {t : TA} {f : DS → Option (List W)} (h : DA K ρ t f) : DE K ρ (tTupN t) (dTup f) := fun G σ H δ d Q R e q => by
 obtain ⟨ds, e1, e⟩ := Option.bind_eq_some_iff.mp e
 split at e
 · rename_i hz
   cases e
   refine h G σ H δ ds _ R e1 fun vs G1 H1 g1 da => ⟨by rw [da.length]; exact hz, fun p H' n => ?_⟩
   have g2 := Gr.nw g1.s n
   exact q _ _ H' (g1.trans g2) (.tup zd1 (da.same g2.g))
 · cases e
noncomputable def dLst (f : DS → Option (List W)) : DS → Option (List W) := fun δ => (f δ).bind fun ds => if ds.length ≤ sizeLine then some ds else none
theorem zi7 {t : TA} {f : DS → Option (List W)} (h : DA K ρ t f) : DO K ρ (tLstN t) (dLst f) := fun G σ H δ ds Q R e q => by
 obtain ⟨ds', e1, e⟩ := Option.bind_eq_some_iff.mp e
 split at e
 · rename_i hz
   cases e
   refine h G σ H δ _ _ R e1 fun vs G1 H1 g1 da => ⟨by rw [da.length]; exact hz, fun p H' n => ?_⟩
   exact q p vs G1 H' (g1.trans (.nwO g1.s n)) (by
    cases hp : H p with
    | none => rfl
    | some o => exact absurd (g1.h _ _ hp) (by rw [n.2.1]; simp)) (zq2 g1.s n.2.1) n.2.2 da
 · cases e
end
end L2
set_option Elab.async false
set_option linter.all false
set_option maxRecDepth 100000
namespace L2
open PySem PySem.Spec PyProof.Rows
section
variable {X : Cx} {tg : Expr}
noncomputable def iSeq (K : PySem.W.Frag) (tl : TE) : TI := fun σ H R => tl σ H fun x H1 => ∃ a, x = .ref a ∧ (((∃ xs, SqL K H1 a xs) ∧ R (Itl K a) H1) ∨ ((∃ xs, SqT K H1 a xs) ∧ R (Itt K a) H1))
theorem pi_seq {l : Expr} {tl : TE} (hl : PE X l tl) : PI X tg l (iSeq X.K tl) := by
 intro pins s σ H R I h
 refine thn (hl pins s σ H _ I h) fun v s1 hq0 => ?_
 obtain ⟨x, H1, I1, r1, q1⟩ := hq0
 obtain ⟨a, e, ⟨⟨xs, hq⟩, q⟩ | ⟨⟨xs, hq⟩, q⟩⟩ := q1
 all_goals
  subst e
  cases r1
 · obtain ⟨its, rv, p, hz⟩ := I1.list hq
   refine wpAny_pyIter_list p.isList ?_
   refine ⟨s1.heap.objs.size, [s1.heap.objs.size], _, _, H1, rfl, I1.kept (t' := s1.toks) fun b o e => Heap.get?_push_of_some _ e, turn_list a _, ⟨_, Heap.get?_push_size _ rfl, rfl, rfl⟩, fun b hb => ?_, q⟩
   have e : b = s1.heap.objs.size := by simpa using hb
   subst e
   exact I1.fpOk (Nat.le_refl _) (I1.hok.fresh (Nat.le_refl _))
 · obtain ⟨its, rv, p, hz⟩ := I1.tuple hq
   refine wpAny_pyIter_tuple (show s1.heap.IsTuple a its.toArray from p) ?_
   refine ⟨s1.heap.objs.size, [s1.heap.objs.size], _, _, H1, rfl, I1.kept (t' := s1.toks) fun b o e => Heap.get?_push_of_some _ e, turn_tuple a _, ⟨_, Heap.get?_push_size _ rfl, rfl, rfl⟩, fun b hb => ?_, q⟩
   have e : b = s1.heap.objs.size := by simpa using hb
   subst e
   exact I1.fpOk (Nat.le_refl _) (I1.hok.fresh (Nat.le_refl _))
theorem zj3 {K : PySem.W.Frag} (h : X.K = K) {l : Expr} {tl : TE} (hl : PE X l tl) : PI X tg l (iSeq K tl) := h ▸ pi_seq hl
end
section
variable {K : PySem.W.Frag} {ρ : List Addr}
noncomputable def ItA (K : PySem.W.Frag) (ρ : List Addr) (J : It) (ds : List W) (i : Nat) (G1 H1 : Hp) : Prop :=
 (∀ d, ds[i]? = some d → J.go i H1 ∧ ∀ x H', J.yld i H1 x H' → ∃ G', Gr G1 H1 G' H' ∧ Dw K ρ G' x d) ∧ (ds.length ≤ i → J.stop i H1)
noncomputable def ItD (K : PySem.W.Frag) (ρ : List Addr) (J : It) (G H : Hp) (ds : List W) : Prop := ∀ i G1 H1, Gr G H G1 H1 → ItA K ρ J ds i G1 H1
noncomputable def ItF (K : PySem.W.Frag) (ρ : List Addr) (J : It) (G : Hp) (ds : List W) : Prop := ∀ i G1 H1, Same G G1 → Same G1 H1 → ItA K ρ J ds i G1 H1
theorem ItF.d {J : It} {G H : Hp} {ds : List W} (h : ItF K ρ J G ds) : ItD K ρ J G H ds := fun i G1 H1 g => h i G1 H1 g.g g.s
noncomputable def DI (K : PySem.W.Frag) (ρ : List Addr) (wi : TI) (f : DS → Option (List W)) : Prop :=
 ∀ (G : Hp) (σ : St) (H : Hp) (δ : DS) (ds : List W) (R' : It → Hp → Prop), Rl K ρ G H δ σ → f δ = some ds → (∀ J G' H', Gr G H G' H' → ItF K ρ J G' ds → R' J H') → wi σ H R'
noncomputable def DIk (K : PySem.W.Frag) (ρ : List Addr) (wi : TI) (f : DS → Option (List W)) : Prop :=
 ∀ (G : Hp) (σ : St) (H : Hp) (δ : DS) (ds : List W) (R' : It → Hp → Prop), Rl K ρ G H δ σ → f δ = some ds → (∀ J G' H', Gr G H G' H' → ItD K ρ J G' H' ds → R' J H') → wi σ H R'
theorem DI.k {wi : TI} {f : DS → Option (List W)} (h : DI K ρ wi f) : DIk K ρ wi f := fun G σ H δ ds R' R e q => h G σ H δ ds R' R e fun J G' H' g i => q J G' H' g i.d
noncomputable def seqD : W → Option (List W)
 | .list ds => some ds
 | .tuple ds => some ds
 | _ => none
noncomputable def dSeqOf (f : DS → Option W) : DS → Option (List W) := fun δ => (f δ).bind seqD
theorem yh4 {G1 H1 : Hp} {a : Addr} {xs : List V} {ds : List W} {i : Nat} (s : Same G1 H1) (q : SqL K H1 a xs) (da : DwAll K ρ G1 xs ds) : ItA K ρ (Itl K a) ds i G1 H1 := by
 refine ⟨fun d hd => ?_, fun h => ⟨xs, q, by rw [da.length]; exact h⟩⟩
 obtain ⟨v, h1, h2⟩ := da.get hd
 refine ⟨⟨xs, v, q, h1⟩, fun x H' y => ?_⟩
 obtain ⟨rfl, y⟩ := y
 have := y xs q
 rw [h1] at this
 cases this
 exact ⟨G1, .refl s, h2⟩
theorem itt_at {G1 H1 : Hp} {a : Addr} {xs : List V} {ds : List W} {i : Nat} (s : Same G1 H1) (q : SqT K H1 a xs) (da : DwAll K ρ G1 xs ds) : ItA K ρ (Itt K a) ds i G1 H1 := by
 refine ⟨fun d hd => ?_, fun h => ⟨xs, q, by rw [da.length]; exact h⟩⟩
 obtain ⟨v, h1, h2⟩ := da.get hd
 refine ⟨⟨xs, v, q, h1⟩, fun x H' y => ?_⟩
 obtain ⟨rfl, y⟩ := y
 have := y xs q
 rw [h1] at this
 cases this
 exact ⟨G1, .refl s, h2⟩
theorem zs6 {t : TE} {f : DS → Option W} (h : DE K ρ t f) : DI K ρ (iSeq K t) (dSeqOf f) := fun G σ H δ ds R' R e q => by
 obtain ⟨d, ed, e⟩ := Option.bind_eq_some_iff.mp e
 refine h G σ H δ d _ R ed fun v G1 H1 g1 dv => ?_
 cases dv with
 | lst sq da =>
  cases e
  exact ⟨_, rfl, .inl ⟨⟨_, g1.s.seq sq⟩, q _ G1 H1 g1 fun i G2 H2 a b => yh4 b ((a.trans b).seq sq) (da.same a)⟩⟩
 | tup sq da =>
  cases e
  exact ⟨_, rfl, .inr ⟨⟨_, g1.s.tup (SqT.of sq)⟩, q _ G1 H1 g1 fun i G2 H2 a b => itt_at b ((a.trans b).tup (SqT.of sq)) (da.same a)⟩⟩
 | _ => cases e
theorem zv5 {t : TE} {f : DS → Option W} (h : DK K ρ t f) : DIk K ρ (iSeq K t) (dSeqOf f) := fun G σ H δ ds R' R e q => by
 obtain ⟨d, ed, e⟩ := Option.bind_eq_some_iff.mp e
 refine h G σ H δ d _ R ed fun v G1 H1 g1 dv => ?_
 rcases dv with dv | ⟨p, vs, es, rfl, rfl, hp, da⟩
 · cases dv with
   | lst sq da =>
    cases e
    exact ⟨_, rfl, .inl ⟨⟨_, g1.s.seq sq⟩, q _ G1 H1 g1 fun i G2 H2 g => yh4 g.s ((g.g.trans g.s).seq sq) (da.same g.g)⟩⟩
   | tup sq da =>
    cases e
    exact ⟨_, rfl, .inr ⟨⟨_, g1.s.tup (SqT.of sq)⟩, q _ G1 H1 g1 fun i G2 H2 g => itt_at g.s ((g.g.trans g.s).tup (SqT.of sq)) (da.same g.g)⟩⟩
   | _ => cases e
 · cases e
   exact ⟨p, rfl, .inl ⟨⟨_, SqL.of hp⟩, q _ G1 H1 g1 fun i G2 H2 g => yh4 g.s (SqL.of (g.h _ _ hp)) (da.same g.g)⟩⟩
noncomputable def rngD (lo : Int) (n : Nat) : List W := (List.range n).map fun i => .int (lo + (i : Nat))
theorem itr_ok {G : Hp} {lo : Int} {n : Nat} : ItF K ρ (Itr lo n) G (rngD lo n) := fun i G1 H1 _ s => by
 refine ⟨fun d hd => ?_, fun h => show n ≤ i by simpa [rngD] using h⟩
 have hi : i < n := by
  have := (List.getElem?_eq_some_iff.mp hd).1
  simpa [rngD] using this
 refine ⟨hi, fun x H' y => ?_⟩
 obtain ⟨rfl, rfl⟩ := y
 have : d = .int (lo + i) := by
  unfold rngD at hd
  rw [List.getElem?_map, List.getElem?_range hi] at hd
  cases hd
  rfl
 subst this
 exact ⟨G1, .refl s, .int _⟩
noncomputable def rngOk (j : Int) : Bool := decide (-(2 ^ 62) ≤ j) && decide (j < 2 ^ 62)
theorem rngOk_iff {j : Int} (h : rngOk j = true) : -(2 ^ 62) ≤ j ∧ j < 2 ^ 62 := by
 simp only [rngOk, Bool.and_eq_true, decide_eq_true_eq] at h
 exact h
theorem rngOk_of {j : Int} (h1 : -(2 ^ 62) ≤ j) (h2 : j < 2 ^ 62) : rngOk j = true := by
 simp only [rngOk, Bool.and_eq_true, decide_eq_true_eq]
 exact ⟨h1, h2⟩
theorem rngOk_nat {n : Nat} (h : n ≤ 16777216) : rngOk (n : Int) = true := rngOk_of (by omega) (by omega)
noncomputable def rng1 (j : Int) : Option (List W) := if rngOk j = true then some (rngD 0 j.toNat) else none
noncomputable def rng1L : List W → Option (List W)
 | [.int j] => rng1 j
 | _ => none
noncomputable def dRng1 (f : DS → Option (List W)) : DS → Option (List W) := fun δ => (f δ).bind rng1L
theorem rng1_ok {j : Int} {ds : List W} (h : rng1 j = some ds) : (-(2 ^ 62) ≤ j ∧ j < 2 ^ 62) ∧ ds = rngD 0 j.toNat := by
 unfold rng1 at h
 split at h
 · rename_i hc
   cases h
   exact ⟨rngOk_iff hc, rfl⟩
 · cases h
theorem zp7 {G : Hp} {v : V} {i : Int} (h : Dw K ρ G v (.int i)) : v = .int i := by cases h; rfl
theorem dp_str {G : Hp} {v : V} {i : Str} (h : Dw K ρ G v (.str i)) : v = .str i := by cases h; rfl
theorem dp_bl {G : Hp} {v : V} {i : Bool} (h : Dw K ρ G v (.bool i)) : v = .bl i := by cases h; rfl
theorem yj2 {G : Hp} {v : V} (h : Dw K ρ G v .none) : v = .non := by cases h; rfl
theorem yh3 {G : Hp} {vs : List V} {d : W} (h : DwAll K ρ G vs [d]) : ∃ v, vs = [v] ∧ Dw K ρ G v d := by
 cases h with
 | cons a b => cases b; exact ⟨_, rfl, a⟩
theorem di_rng1 {t : TA} {f : DS → Option (List W)} (h : DA K ρ t f) : DI K ρ (iRng1 t) (dRng1 f) := fun G σ H δ ds R' R e q => by
 obtain ⟨es, ed, e⟩ := Option.bind_eq_some_iff.mp e
 refine h G σ H δ es _ R ed fun vs G1 H1 g1 da => ?_
 unfold rng1L at e
 split at e
 · obtain ⟨hc, rfl⟩ := rng1_ok e
   obtain ⟨v, rfl, dv⟩ := yh3 da
   cases zp7 dv
   exact ⟨_, rfl, hc.1, hc.2, q _ G1 H1 g1 itr_ok⟩
 · cases e
noncomputable def enumD (ds : List W) : List W := (List.range ds.length).map fun (i : Nat) => .tuple [.int (i : Int), ds[i]?.getD .none]
theorem enumD_get {ds : List W} {i : Nat} {d : W} (h : (enumD ds)[i]? = some d) : ∃ x, ds[i]? = some x ∧ d = .tuple [.int i, x] := by
 have hi : i < ds.length := by
  have := (List.getElem?_eq_some_iff.mp h).1
  simpa [enumD] using this
 unfold enumD at h
 rw [List.getElem?_map, List.getElem?_range hi] at h
 cases h
 exact ⟨ds[i], List.getElem?_eq_getElem hi, by simp [List.getElem?_eq_getElem hi]⟩
theorem ite_at {G1 H1 : Hp} {a : Addr} {xs : List V} {ds : List W} {i : Nat} (s : Same G1 H1) (q : SqL K H1 a xs) (da : DwAll K ρ G1 xs ds) : ItA K ρ (Ite K a) (enumD ds) i G1 H1 := by
 refine ⟨fun d hd => ?_, fun h => ⟨xs, q, by rw [da.length]; simpa [enumD] using h⟩⟩
 obtain ⟨x, hx, rfl⟩ := enumD_get hd
 obtain ⟨v, h1, h2⟩ := da.get hx
 refine ⟨⟨xs, v, q, h1⟩, fun y H' w => ?_⟩
 obtain ⟨p, u, hp, rfl, rfl, w⟩ := w
 have := w xs q
 rw [h1] at this
 cases this
 have n : Nw H1 (upd H1 p (.tup [.int i, v])) p (.tup [.int i, v]) := .of hp
 have g := Gr.nw s n
 exact ⟨_, g, .tup zd1 (.cons (.int i) (.cons (h2.same g.g) .nil))⟩
noncomputable def dEnum (f : DS → Option (List W)) : DS → Option (List W) := fun δ => (f δ).bind fun ds => match ds with
 | [.list es] => some (enumD es)
 | _ => none
theorem di_enum {t : TA} {f : DS → Option (List W)} (h : DA K ρ t f) : DI K ρ (iEnum K t) (dEnum f) := fun G σ H δ ds R' R e q => by
 obtain ⟨es, ed, e⟩ := Option.bind_eq_some_iff.mp e
 refine h G σ H δ es _ R ed fun vs G1 H1 g1 da => ?_
 split at e
 · cases e
   obtain ⟨v, rfl, dv⟩ := yh3 da
   cases dv with
   | lst sq da => exact ⟨_, rfl, ⟨_, g1.s.seq sq⟩, q _ G1 H1 g1 fun i G2 H2 a b => ite_at b ((a.trans b).seq sq) (da.same a)⟩
 · cases e
noncomputable def zipD (ds es : List W) : List W := List.zipWith (fun x y => .tuple [x, y]) ds es
noncomputable def dZip (f : DS → Option (List W)) : DS → Option (List W) := fun δ => (f δ).bind fun ds => match ds with
 | [.list a, .list b] => some (zipD a b)
 | _ => none
noncomputable def DG (K : PySem.W.Frag) (ρ : List Addr) (g : TG) (h : W → DS → Option DS) : Prop :=
 ∀ (G H : Hp) (δ : DS) (σ : St) (v : V) (d : W) (δ' : DS) (Q : St → Hp → Prop), Rl K ρ G H δ σ → Dw K ρ G v d → h d δ = some δ' → (∀ σ', Rl K ρ G H δ' σ' → OwnSub δ' σ' δ σ → Q σ' H) → g v σ H Q
noncomputable def DGs (K : PySem.W.Frag) (ρ : List Addr) (g : TGs) (h : List W → DS → Option DS) : Prop :=
 ∀ (G H : Hp) (δ : DS) (σ : St) (vs : List V) (ds : List W) (δ' : DS) (Q : St → Hp → Prop), Rl K ρ G H δ σ → DwAll K ρ G vs ds → h ds δ = some δ' → (∀ σ', Rl K ρ G H δ' σ' → OwnSub δ' σ' δ σ → Q σ' H) → g vs σ H Q
noncomputable def dgName (i : Nat) : W → DS → Option DS := fun d δ => some (δ.set i (.val d))
theorem zb5 {i : Nat} : DG K ρ (gName i) (dgName i) := fun G H δ σ v d δ' Q R dv e q => by
 cases e
 exact q _ (R.set dv) (zx2 R.len)
noncomputable def dgNil : List W → DS → Option DS := fun ds δ => match ds with
 | [] => some δ
 | _ => none
noncomputable def dgCons (h : W → DS → Option DS) (k : List W → DS → Option DS) : List W → DS → Option DS := fun ds δ => match ds with
 | d :: r => (h d δ).bind (k r)
 | _ => none
theorem zz4 : DGs K ρ gNil dgNil := fun G H δ σ vs ds δ' Q R dv e q => by
 cases dv with
 | nil => cases e; exact ⟨rfl, q _ R (.refl _ _)⟩
 | cons _ _ => cases e
theorem zl7 {g : TG} {u : TGs} {h : W → DS → Option DS} {k : List W → DS → Option DS} (h1 : DG K ρ g h) (h2 : DGs K ρ u k) : DGs K ρ (gCons g u) (dgCons h k) := fun G H δ σ vs ds δ' Q R dv e q => by
 cases dv with
 | nil => cases e
 | cons a b =>
  obtain ⟨δ1, e1, e⟩ := Option.bind_eq_some_iff.mp e
  exact ⟨_, _, rfl, h1 G H δ σ _ _ δ1 _ R a e1 fun σ1 R1 o1 => h2 G H δ1 σ1 _ _ δ' Q R1 b e fun σ2 R2 o2 => q σ2 R2 (o2.trans o1)⟩
noncomputable def dgTup (n : Nat) (k : List W → DS → Option DS) : W → DS → Option DS := fun d δ => match d with
 | .tuple ds => if ds.length = n then k ds δ else none
 | _ => none
theorem ye1 {n : Nat} {u : TGs} {k : List W → DS → Option DS} (h : DGs K ρ u k) : DG K ρ (gTup K n u) (dgTup n k) := fun G H δ σ v d δ' Q R dv e q => by
 cases dv with
 | tup sq da =>
  simp only [dgTup] at e
  split at e
  · rename_i hn
    exact ⟨_, _, rfl, R.sub.tup (SqT.of sq), by rw [da.length]; exact hn, h G H δ σ _ _ δ' Q R da e q⟩
  · cases e
 | _ => cases e
noncomputable def slAt (δ : DS) : Option Nat → Sl
 | none => .no
 | some i => δ[i]?.getD .no
noncomputable def vAt (σ : St) : Option Nat → Option V
 | none => none
 | some i => match σ[i]? with
  | some v => v
  | none => none
noncomputable def liftD (ix : List (Option Nat)) (δ : DS) : DS := ix.map (slAt δ)
theorem yd8 {ix : List (Option Nat)} {σ : St} {j : Nat} {o : Option Nat} (h : ix[j]? = some o) : (lift ix σ)[j]? = some (vAt σ o) := by
 unfold lift
 rw [List.getElem?_map, h]
 cases o <;> rfl
theorem zy9 {ix : List (Option Nat)} {δ : DS} {j : Nat} {s : Sl} (h : (liftD ix δ)[j]? = some s) : ∃ o, ix[j]? = some o ∧ s = slAt δ o := by
 unfold liftD at h
 rw [List.getElem?_map] at h
 obtain ⟨o, h1, h2⟩ := Option.map_eq_some_iff.mp h
 exact ⟨o, h1, h2.symm⟩
noncomputable def ixOk (ix : List (Option Nat)) : Bool := decide ((ix.filterMap id).Nodup)
theorem ix_inj {ix : List (Option Nat)} (h : (ix.filterMap id).Nodup) : ∀ {i j k : Nat}, ix[i]? = some (some k) → ix[j]? = some (some k) → i = j := by
 induction ix with
 | nil => intro i j k h1; simp at h1
 | cons o r ih =>
  intro i j k h1 h2
  have hr : (r.filterMap id).Nodup := by
   cases o with
   | none => simpa using h
   | some a =>
    have h' : (a :: r.filterMap id).Nodup := h
    exact (List.nodup_cons.mp h').2
  have hm : ∀ m, r[m]? = some (some k) → k ∈ r.filterMap id := fun m hm => List.mem_filterMap.mpr ⟨some k, List.mem_of_getElem? hm, rfl⟩
  cases i with
  | zero =>
   cases j with
   | zero => rfl
   | succ j =>
    simp at h1 h2
    subst h1
    have h' : (k :: r.filterMap id).Nodup := h
    exact absurd (hm j h2) (List.nodup_cons.mp h').1
  | succ i =>
   cases j with
   | zero =>
    simp at h1 h2
    subst h2
    have h' : (k :: r.filterMap id).Nodup := h
    exact absurd (hm i h1) (List.nodup_cons.mp h').1
   | succ j =>
    simp at h1 h2
    rw [ih hr h1 h2]
theorem Rl.lift {G H : Hp} {δ : DS} {σ : St} {ix : List (Option Nat)} (hx : ixOk ix = true) (R : Rl K ρ G H δ σ) : Rl K ρ G H (liftD ix δ) (lift ix σ) := by
 have hx' : (ix.filterMap id).Nodup := by simpa [ixOk] using hx
 have own : ∀ {j : Nat} {ds : List W}, (liftD ix δ)[j]? = some (.own ds) → ∃ i, ix[j]? = some (some i) ∧ δ[i]? = some (.own ds) := fun {j ds} h => by
  obtain ⟨o, h1, h2⟩ := zy9 h
  cases o with
  | none => cases h2
  | some i =>
   refine ⟨i, h1, ?_⟩
   cases e : δ[i]? with
   | none => simp [slAt, e] at h2
   | some s => simp [slAt, e] at h2; rw [h2]
 have at' : ∀ {j i : Nat} {v : V}, ix[j]? = some (some i) → (L2.lift ix σ)[j]? = some (some v) → σ[i]? = some (some v) := fun {j i v} h1 h2 => by
  rw [yd8 h1] at h2
  simp only [vAt] at h2
  split at h2
  · rename_i w e
    rw [e]
    simpa using h2
  · cases h2
 refine ⟨R.sub, by simp [liftD, L2.lift], fun j s h => ?_, fun j k p ds es h1 h2 h3 h4 => ?_⟩
 · obtain ⟨o, h1, rfl⟩ := zy9 h
   refine ⟨_, yd8 h1, ?_⟩
   cases o with
   | none => trivial
   | some i =>
    cases e : δ[i]? with
    | none => simp only [slAt, e, Option.getD_none]; trivial
    | some s =>
     obtain ⟨o, k1, k2⟩ := R.sl i s e
     simp only [slAt, vAt, e, k1, Option.getD_some]
     exact k2
 · obtain ⟨i1, a1, a2⟩ := own h1
   obtain ⟨i2, b1, b2⟩ := own h2
   have := R.apart i1 i2 p ds es a2 b2 (at' a1 h3) (at' b1 h4)
   subst this
   exact ix_inj hx' a1 b1
noncomputable def dYes : DS → Option Bool := fun _ => some true
theorem ye4 : DT K ρ tYes dYes := fun G σ H δ b Q R e q => by
 cases e
 exact q G H (.refl R.sub)
noncomputable def zi3 (h : W → DS → Option DS) (c : DS → Option Bool) (fe : DS → Option W) (δ : DS) : List W → Option (List W)
 | [] => some []
 | d :: ds => (h d δ).bind fun δ2 => (c δ2).bind fun b => if b = true then (fe δ2).bind fun e => (zi3 h c fe δ ds).map (e :: ·) else zi3 h c fe δ ds
noncomputable def dComp (ix : List (Option Nat)) (fi : DS → Option (List W)) (h : W → DS → Option DS) (c : DS → Option Bool) (fe : DS → Option W) : DS → Option (List W) := fun δ =>
 (fi δ).bind fun ds => if ds.length ≤ sizeLine then zi3 h c fe (liftD ix δ) ds else none
theorem zs1 {ix : List (Option Nat)} {wi : TI} {g : TG} {tc : TT} {te : TE} {fi : DS → Option (List W)} {h : W → DS → Option DS} {c : DS → Option Bool} {fe : DS → Option W}
 (hx : ixOk ix = true) (hi : DIk K ρ wi fi) (hg : DG K ρ g h) (hc : DT K ρ tc c) (he : DE K ρ te fe) : DO K ρ (tComp ix wi g tc te) (dComp ix fi h c fe) := fun G σ H δ es Q R e q => by
 obtain ⟨ds, ed, e⟩ := Option.bind_eq_some_iff.mp e
 split at e
 case isFalse => cases e
 rename_i hz
 refine hi G σ H δ ds _ R ed fun J G1 H1 g1 it => ?_
 refine ⟨fun i m ys H2 => m = ds.length - i ∧ i ≤ ds.length ∧ ys.length ≤ i ∧ ∃ G2 as bs, Gr G1 H1 G2 H2 ∧ DwAll K ρ G2 ys as ∧ zi3 h c fe (liftD ix δ) (ds.drop i) = some bs ∧ as ++ bs = es, ⟨ds.length, by simp, Nat.zero_le _, Nat.le_refl _, G1, [], es, .refl g1.s, .nil, by simpa using e, rfl⟩, ?_⟩
 rintro i m ys H2 ⟨rfl, hil, hyl, G2, as, bs, g2, da, eb, rfl⟩
 have ia := it i G2 H2 g2
 by_cases hlt : i < ds.length
 · refine .inr ?_
   obtain ⟨go, step⟩ := ia.1 ds[i] (List.getElem?_eq_getElem hlt)
   rw [List.drop_eq_getElem_cons hlt] at eb
   obtain ⟨δ2, e2, eb⟩ := Option.bind_eq_some_iff.mp eb
   obtain ⟨b, e3, eb⟩ := Option.bind_eq_some_iff.mp eb
   refine ⟨go, by omega, fun ys' H' => ys'.length ≤ i + 1 ∧ ∃ G2 as' bs', Gr G1 H1 G2 H' ∧ DwAll K ρ G2 ys' as' ∧ zi3 h c fe (liftD ix δ) (ds.drop (i + 1)) = some bs' ∧ as' ++ bs' = as ++ bs, fun ys' H' ⟨l, z⟩ => ⟨ds.length - (i + 1), by omega, rfl, hlt, l, z⟩, fun x H' y => ?_⟩
   obtain ⟨G3, g3, dx⟩ := step x H' y
   have R3 := ((R.grow g1).grow g2).grow g3
   refine hg G3 H' (liftD ix δ) _ x _ δ2 _ (R3.lift hx) dx e2 fun σ2 R4 _ => ?_
   refine hc G3 σ2 H' δ2 b _ R4 e3 fun G5 H5 g5 => ?_
   have g25 := g2.trans (g3.trans g5)
   have da5 := da.same (g3.trans g5).g
   cases b with
   | false => exact ⟨by omega, G5, as, bs, g25, da5, eb, rfl⟩
   | true =>
    obtain ⟨ev, e6, eb⟩ := Option.bind_eq_some_iff.mp eb
    obtain ⟨bs', e7, rfl⟩ := Option.map_eq_some_iff.mp eb
    refine he G5 σ2 H5 δ2 ev _ (R4.grow g5) e6 fun v G6 H6 g6 dv => ?_
    exact ⟨by simp; omega, G6, as ++ [ev], bs', g25.trans g6, (da5.same g6.g).app (.cons dv .nil), e7, by simp⟩
 · have hi' : i = ds.length := by omega
   subst hi'
   refine .inl ⟨ia.2 (Nat.le_refl _), by omega, fun p hp => ?_⟩
   rw [List.drop_length] at eb
   cases eb
   rw [List.append_nil] at q
   have n : Nw H2 (upd H2 p (.lst ys)) p (.lst ys) := .of hp
   exact q p ys G2 _ (g1.trans (g2.trans (.nwO g2.s n))) (zq2 (g1.trans g2).h hp) (zq2 g2.s hp) zd1 da
inductive Out where
 | nx (δ : DS)
 | bk (δ : DS)
 | ct (δ : DS)
 | rt (d : W)
structure Iv (K : PySem.W.Frag) (ρ : List Addr) (G0 H0 G H : Hp) (δ : DS) (σ : St) : Prop where
 rl : Rl K ρ G H δ σ
 gr : Gr G0 H0 G H
 ow : ∀ (i : Nat) p ds, δ[i]? = some (.own ds) → σ[i]? = some (some (.ref p)) → H0 p = none
noncomputable def Pst (K : PySem.W.Frag) (ρ : List Addr) (G0 H0 : Hp) (D : Ends) : Out → Prop
 | .nx δ => ∀ σ G H, Iv K ρ G0 H0 G H δ σ → D.nx σ H
 | .bk δ => ∀ σ G H, Iv K ρ G0 H0 G H δ σ → D.bk σ H
 | .ct δ => ∀ σ G H, Iv K ρ G0 H0 G H δ σ → D.ct σ H
 | .rt d => ∀ v G H, Gr G0 H0 G H → Dw K ρ G v d → D.rt v H
noncomputable def DSt (K : PySem.W.Frag) (ρ : List Addr) (t : TS) (f : DS → Option Out) : Prop :=
 ∀ (G0 H0 G : Hp) (σ : St) (H : Hp) (δ : DS) (o : Out) (D : Ends), Iv K ρ G0 H0 G H δ σ → f δ = some o → Pst K ρ G0 H0 D o → t D σ H
theorem Iv.grow {G0 H0 G H G' H' : Hp} {δ : DS} {σ : St} (I : Iv K ρ G0 H0 G H δ σ) (g : Gr G H G' H') : Iv K ρ G0 H0 G' H' δ σ := ⟨I.rl.grow g, I.gr.trans g, I.ow⟩
theorem Iv.sub {G0 H0 G H : Hp} {δ δ' : DS} {σ σ' : St} (I : Iv K ρ G0 H0 G H δ σ) (R : Rl K ρ G H δ' σ') (o : OwnSub δ' σ' δ σ) : Iv K ρ G0 H0 G H δ' σ' := ⟨R, I.gr, fun i p ds h1 h2 => by
 obtain ⟨es, h3, h4⟩ := o i ds p h1 h2
 exact I.ow i p es h3 h4⟩
theorem Iv.base {G0 H0 G H : Hp} {δ : DS} {σ : St} (I : Iv K ρ G0 H0 G H δ σ) : Iv K ρ G H0 G H δ σ := ⟨I.rl, ⟨.refl _, I.gr.h, I.gr.s, fun _ _ h => h⟩, I.ow⟩
theorem Gr.rebase {G0 H0 G H G' H' : Hp} (a : Gr G0 H0 G H) (b : Gr G H0 G' H') : Gr G0 H0 G' H' := ⟨a.g.trans b.g, b.h, b.s, fun c h1 h2 => b.n c h1 (a.n c h1 h2)⟩
theorem Iv.rebase {G0 H0 G H G' H' : Hp} {δ : DS} {σ : St} (a : Gr G0 H0 G H) (I : Iv K ρ G H0 G' H' δ σ) : Iv K ρ G0 H0 G' H' δ σ := ⟨I.rl, a.rebase I.gr, I.ow⟩
noncomputable def dsNext : DS → Option Out := fun δ => some (.nx δ)
theorem zd3 : DSt K ρ tNext dsNext := fun G0 H0 G σ H δ o D I e p => by
 cases e
 exact p σ G H I
noncomputable def dsSeq (f g : DS → Option Out) : DS → Option Out := fun δ => match f δ with
 | some (.nx δ') => g δ'
 | o => o
theorem zd5 {t u : TS} {f g : DS → Option Out} (h1 : DSt K ρ t f) (h2 : DSt K ρ u g) : DSt K ρ (tSeq t u) (dsSeq f g) := fun G0 H0 G σ H δ o D I e p => by
 unfold dsSeq at e
 cases ef : f δ with
 | none => rw [ef] at e; cases e
 | some o1 =>
  rw [ef] at e
  refine h1 G0 H0 G σ H δ o1 _ I ef ?_
  cases o1 with
  | nx δ' => exact fun σ' G' H' I' => h2 G0 H0 G' σ' H' δ' o D I' e p
  | bk δ' => cases e; exact p
  | ct δ' => cases e; exact p
  | rt d => cases e; exact p
noncomputable def dsIf (c : DS → Option Bool) (f g : DS → Option Out) : DS → Option Out := fun δ => (c δ).bind fun b => if b = true then f δ else g δ
theorem ds_if {tc : TT} {t u : TS} {c : DS → Option Bool} {f g : DS → Option Out} (hc : DT K ρ tc c) (h1 : DSt K ρ t f) (h2 : DSt K ρ u g) : DSt K ρ (tIfS tc t u) (dsIf c f g) := fun G0 H0 G σ H δ o D I e p => by
 obtain ⟨b, eb, e⟩ := Option.bind_eq_some_iff.mp e
 refine hc G σ H δ b _ I.rl eb fun G1 H1 g1 => ?_
 cases b with
 | true => exact h1 G0 H0 G1 σ H1 δ o D (I.grow g1) e p
 | false => exact h2 G0 H0 G1 σ H1 δ o D (I.grow g1) e p
noncomputable def dsRet (f : DS → Option W) : DS → Option Out := fun δ => (f δ).map .rt
theorem ze2 {t : TE} {f : DS → Option W} (h : DE K ρ t f) : DSt K ρ (tRet t) (dsRet f) := fun G0 H0 G σ H δ o D I e p => by
 obtain ⟨d, ed, rfl⟩ := Option.map_eq_some_iff.mp e
 exact h G σ H δ d _ I.rl ed fun v G1 H1 g1 dv => p v G1 H1 (I.gr.trans g1) dv
noncomputable def dsRetN : DS → Option Out := fun _ => some (.rt .none)
noncomputable def yg1 : DS → Option Out := fun _ => none
theorem ds_never {t : TS} : DSt K ρ t yg1 := fun G0 H0 G σ H δ o D I e p => by cases e
noncomputable def dsAsg (f : DS → Option W) (h : W → DS → Option DS) : DS → Option Out := fun δ => (f δ).bind fun d => (h d δ).map .nx
theorem zh5 {t : TE} {g : TG} {f : DS → Option W} {h : W → DS → Option DS} (h1 : DE K ρ t f) (h2 : DG K ρ g h) : DSt K ρ (tAsg t g) (dsAsg f h) := fun G0 H0 G σ H δ o D I e p => by
 obtain ⟨d, ed, e⟩ := Option.bind_eq_some_iff.mp e
 obtain ⟨δ', e2, rfl⟩ := Option.map_eq_some_iff.mp e
 exact h1 G σ H δ d _ I.rl ed fun v G1 H1 g1 dv => h2 G1 H1 δ σ v d δ' _ (I.rl.grow g1) dv e2 fun σ' R o => p σ' G1 H1 ((I.grow g1).sub R o)
noncomputable def dsOwn (i : Nat) (f : DS → Option (List W)) : DS → Option Out := fun δ => (f δ).map fun ds => .nx (δ.set i (.own ds))
theorem yj9 {i : Nat} {t : TE} {f : DS → Option (List W)} (h : DO K ρ t f) : DSt K ρ (tAsg t (gName i)) (dsOwn i f) := fun G0 H0 G σ H δ o D I e p => by
 obtain ⟨ds, ed, rfl⟩ := Option.map_eq_some_iff.mp e
 refine h G σ H δ ds _ I.rl ed fun q vs G1 H1 g1 h0 g0 hh da => ?_
 have I1 := I.grow g1
 refine p _ G1 H1 ⟨I1.rl.setO g0 hh da fun j es hj h1 h2 => ?_, I1.gr, fun j q' ds' h1 h2 => ?_⟩
 · obtain ⟨o, k1, q1, vs1, k2, k3, k4, _⟩ := I.rl.sl j _ h1
   rw [h2] at k1
   cases k1
   cases k2
   rw [h0] at k4
   cases k4
 · rcases zr3 h1 with ⟨rfl, _, hl⟩ | ⟨ne, h1⟩
   · rw [ya7 (by rw [← I.rl.len]; exact hl)] at h2
     cases h2
     exact zq2 I.gr.h h0
   · rw [List.getElem?_set_ne ne] at h2
     exact I.ow j q' _ h1 h2
noncomputable def frz (i : Nat) (δ : DS) : DS := match δ[i]? with
 | some (.own ds) => δ.set i (.val (.list ds))
 | _ => δ
noncomputable def dsFrz (i : Nat) (f : DS → Option Out) : DS → Option Out := fun δ => f (frz i δ)
theorem Iv.frz {G0 H0 G H : Hp} {δ : DS} {σ : St} (i : Nat) (I : Iv K ρ G0 H0 G H δ σ) : ∃ G', Iv K ρ G0 H0 G' H (L2.frz i δ) σ := by
 unfold L2.frz
 split
 · rename_i ds h
   obtain ⟨o, h1, p, vs, rfl, h3, h4, h5⟩ := I.rl.sl i _ h
   have h0 := I.ow i p ds h h1
   have g : Same G (upd G p (.lst vs)) := zy5 h3 _
   have set1 : σ = σ.set i (some (.ref p)) := by
    apply List.ext_getElem?
    intro j
    by_cases e : i = j
    · subst e
      rw [ya7 (List.getElem?_eq_some_iff.mp h1).1, h1]
    · rw [List.getElem?_set_ne e]
   refine ⟨upd G p (.lst vs), ⟨⟨same_upd2 I.gr.s h4, by rw [List.length_set]; exact I.rl.len, fun j s e => ?_, fun j k q ds' es' k1 k2 k3 k4 => ?_⟩, I.gr.new h0 h3 h4, fun j q ds' k1 k2 => ?_⟩⟩
   · rcases zr3 e with ⟨rfl, rfl, hl⟩ | ⟨ne, e⟩
     · exact ⟨_, h1, .ref p, rfl, .lst (SqL.of zd1) (h5.same g)⟩
     · obtain ⟨o, k1, k2⟩ := I.rl.sl j s e
       refine ⟨o, k1, ?_⟩
       cases s with
       | no => trivial
       | val d =>
        obtain ⟨v, e1, e2⟩ := k2
        exact ⟨v, e1, e2.same g⟩
       | own es =>
        obtain ⟨q, ws, rfl, e2, e3, e4⟩ := k2
        refine ⟨q, ws, rfl, ?_, e3, e4.same g⟩
        rw [zd9]
        · exact e2
        · rintro rfl
          exact ne (I.rl.apart i j q ds es h e h1 k1)
   all_goals
    rcases zr3 k1 with ⟨_, z, _⟩ | ⟨ne, k1⟩
    · cases z
   · rcases zr3 k2 with ⟨_, z, _⟩ | ⟨ne2, k2⟩
     · cases z
     · exact I.rl.apart j k q ds' es' k1 k2 k3 k4
   · exact I.ow j q ds' k1 k2
 · exact ⟨G, I⟩
theorem yk4 {i : Nat} {t : TS} {f : DS → Option Out} (h : DSt K ρ t f) : DSt K ρ t (dsFrz i f) := fun G0 H0 G σ H δ o D I e p => by
 obtain ⟨G', I'⟩ := I.frz i
 exact h G0 H0 G' σ H _ o D I' e p
noncomputable def zk4 (h : W → DS → Option DS) (fb : DS → Option Out) : List W → DS → Option Out
 | [], δ => some (.nx δ)
 | d :: ds, δ => (h d δ).bind fun δ2 => match fb δ2 with
  | some (.nx δ') => zk4 h fb ds δ'
  | some (.ct δ') => zk4 h fb ds δ'
  | some (.bk δ') => some (.nx δ')
  | some (.rt d) => some (.rt d)
  | none => none
noncomputable def dsFor (fi : DS → Option (List W)) (h : W → DS → Option DS) (fb : DS → Option Out) : DS → Option Out := fun δ => (fi δ).bind fun ds => zk4 h fb ds δ
theorem ye3 {wi : TI} {g : TG} {tb : TS} {fi : DS → Option (List W)} {h : W → DS → Option DS} {fb : DS → Option Out} (hi : DI K ρ wi fi) (hg : DG K ρ g h) (hb : DSt K ρ tb fb) : DSt K ρ (tFor wi g tb) (dsFor fi h fb) := fun G0 H0 G σ H δ o D I e p => by
 obtain ⟨ds, ed, e⟩ := Option.bind_eq_some_iff.mp e
 refine hi G σ H δ ds _ I.rl ed fun J G1 H1 g1 it => ?_
 refine ⟨fun i m σ H => m = ds.length - i ∧ i ≤ ds.length ∧ ∃ G δ, Iv K ρ G0 H0 G H δ σ ∧ Same G1 G ∧ zk4 h fb (ds.drop i) δ = some o, ⟨ds.length, by simp, Nat.zero_le _, G1, δ, I.grow g1, .refl _, by simpa using e⟩, ?_⟩
 rintro i m σ2 H2 ⟨rfl, hil, G2, δ2, I2, s2, e2⟩
 have ia := it i G2 H2 s2 I2.gr.s
 by_cases hlt : i < ds.length
 · refine .inr ?_
   obtain ⟨go, step⟩ := ia.1 ds[i] (List.getElem?_eq_getElem hlt)
   rw [List.drop_eq_getElem_cons hlt] at e2
   obtain ⟨δ3, e3, e4⟩ := Option.bind_eq_some_iff.mp e2
   have back : ∀ {G3 H3 : Hp}, Gr G2 H2 G3 H3 → ∀ {G4 H4 : Hp} {σ4 : St} {δ4 : DS}, Iv K ρ G3 H0 G4 H4 δ4 σ4 → Iv K ρ G0 H0 G4 H4 δ4 σ4 ∧ Same G1 G4 := fun {G3 H3} g3 {G4 H4 σ4 δ4} I4 => ⟨I4.rebase (I2.gr.trans g3), s2.trans (g3.g.trans I4.gr.g)⟩
   have again : ∀ (δ' : DS), zk4 h fb (ds.drop (i + 1)) δ' = some o → (fb δ3 = some (.nx δ') ∨ fb δ3 = some (.ct δ')) → ∃ N : St → Hp → Prop, (∀ σ' H', N σ' H' → ∃ m', m' < ds.length - i ∧ m' = ds.length - (i + 1) ∧ i + 1 ≤ ds.length ∧ ∃ G δ, Iv K ρ G0 H0 G H' δ σ' ∧ Same G1 G ∧ zk4 h fb (ds.drop (i + 1)) δ = some o) ∧ ∀ x H', J.yld i H2 x H' → g x σ2 H' fun σ2 H2 => tb { D with nx := N, ct := N, bk := D.nx } σ2 H2 := fun δ' ed' ef => by
    refine ⟨fun σ' H' => ∃ G', Iv K ρ G0 H0 G' H' δ' σ' ∧ Same G1 G', fun σ' H' ⟨G', I', s'⟩ => ⟨ds.length - (i + 1), by omega, rfl, hlt, G', δ', I', s', ed'⟩, fun x H' y => ?_⟩
    obtain ⟨G3, g3, dx⟩ := step x H' y
    have I3 := I2.grow g3
    refine hg G3 H' δ2 σ2 x _ δ3 _ I3.rl dx e3 fun σ3 R3 o3 => ?_
    have I4 := (I3.sub R3 o3).base
    rcases ef with ef | ef
    · exact hb G3 H0 G3 σ3 H' δ3 _ _ I4 ef fun σ5 G5 H5 I5 => ⟨G5, back g3 I5⟩
    · exact hb G3 H0 G3 σ3 H' δ3 _ _ I4 ef fun σ5 G5 H5 I5 => ⟨G5, back g3 I5⟩
   cases ef : fb δ3 with
   | none => rw [ef] at e4; cases e4
   | some o1 =>
    rw [ef] at e4
    cases o1 with
    | nx δ' =>
     obtain ⟨N, n1, n2⟩ := again δ' e4 (.inl ef)
     exact ⟨go, N, n1, n2⟩
    | ct δ' =>
     obtain ⟨N, n1, n2⟩ := again δ' e4 (.inr ef)
     exact ⟨go, N, n1, n2⟩
    | bk δ' =>
     cases e4
     refine ⟨go, fun _ _ => False, fun _ _ z => z.elim, fun x H' y => ?_⟩
     obtain ⟨G3, g3, dx⟩ := step x H' y
     have I3 := I2.grow g3
     refine hg G3 H' δ2 σ2 x _ δ3 _ I3.rl dx e3 fun σ3 R3 o3 => ?_
     exact hb G3 H0 G3 σ3 H' δ3 _ _ (I3.sub R3 o3).base ef fun σ5 G5 H5 I5 => p σ5 G5 H5 (back g3 I5).1
    | rt d =>
     cases e4
     refine ⟨go, fun _ _ => False, fun _ _ z => z.elim, fun x H' y => ?_⟩
     obtain ⟨G3, g3, dx⟩ := step x H' y
     have I3 := I2.grow g3
     refine hg G3 H' δ2 σ2 x _ δ3 _ I3.rl dx e3 fun σ3 R3 o3 => ?_
     exact hb G3 H0 G3 σ3 H' δ3 _ _ (I3.sub R3 o3).base ef fun v G5 H5 g5 dv => p v G5 H5 ((I2.gr.trans g3).rebase g5) dv
 · have hi' : i = ds.length := by omega
   subst hi'
   rw [List.drop_length] at e2
   cases e2
   exact .inl ⟨ia.2 (Nat.le_refl _), p σ2 G2 H2 I2⟩
noncomputable def ownAt (i : Nat) (δ : DS) : Option (List W) := match δ[i]? with
 | some (.own ds) => some ds
 | _ => none
theorem yc9 {i : Nat} {δ : DS} {ds : List W} (h : ownAt i δ = some ds) : δ[i]? = some (.own ds) := by
 unfold ownAt at h
 split at h
 · rename_i e; cases h; exact e
 · cases h
theorem Iv.put {G0 H0 G H : Hp} {δ : DS} {σ : St} {i : Nat} {ds es : List W} {p : Addr} {vs : List V} (I : Iv K ρ G0 H0 G H δ σ) (h : δ[i]? = some (.own ds)) (hp : σ[i]? = some (some (.ref p))) (g0 : G p = none) (da : DwAll K ρ G vs es) : Iv K ρ G0 H0 G (upd H p (.lst vs)) (δ.set i (.own es)) σ := by
 have h0 := I.ow i p ds h hp
 have sG : Same G (upd H p (.lst vs)) := fun b o e => by
  rw [zd9 (fun z => by rw [z, g0] at e; cases e)]
  exact I.gr.s _ _ e
 refine ⟨⟨sG, by rw [List.length_set]; exact I.rl.len, fun j s e => ?_, fun j k q ds' es' k1 k2 k3 k4 => ?_⟩, ⟨I.gr.g, fun b o e => ?_, sG, I.gr.n⟩, fun j q ds' k1 k2 => ?_⟩
 · rcases zr3 e with ⟨rfl, rfl, hl⟩ | ⟨ne, e⟩
   · exact ⟨_, hp, p, vs, rfl, g0, zd1, da⟩
   · obtain ⟨o, k1, k2⟩ := I.rl.sl j s e
     refine ⟨o, k1, ?_⟩
     cases s with
     | no => trivial
     | val d => exact k2
     | own es2 =>
      obtain ⟨q, ws, rfl, e2, e3, e4⟩ := k2
      refine ⟨q, ws, rfl, e2, ?_, e4⟩
      rw [zd9]
      · exact e3
      · rintro rfl
        exact ne (I.rl.apart i j q ds es2 h e hp k1)
 · rcases zr3 k1 with ⟨rfl, _, _⟩ | ⟨ne, k1⟩ <;> rcases zr3 k2 with ⟨rfl, _, _⟩ | ⟨ne2, k2⟩
   · rfl
   · exact I.rl.apart _ _ q _ _ h k2 k3 k4
   · exact I.rl.apart _ _ q _ _ k1 h k3 k4
   · exact I.rl.apart _ _ q _ _ k1 k2 k3 k4
 · rw [zd9 (fun z => by rw [z, h0] at e; cases e)]
   exact I.gr.h _ _ e
 · rcases zr3 k1 with ⟨rfl, _, _⟩ | ⟨ne, k1⟩
   · exact I.ow _ q _ h k2
   · exact I.ow j q _ k1 k2
noncomputable def dsAppend (i : Nat) (f : DS → Option W) : DS → Option Out := fun δ => (ownAt i δ).bind fun ds => (f δ).bind fun d => if ds.length < sizeLine then some (.nx (δ.set i (.own (ds ++ [d])))) else none
theorem ds_append {i : Nat} {t : TE} {f : DS → Option W} (h : DE K ρ t f) : DSt K ρ (tDrop (tBM K "list" yf6 (tVar i) (tCons t tNil))) (dsAppend i f) := fun G0 H0 G σ H δ o D I e p => by
 obtain ⟨ds, eo, e⟩ := Option.bind_eq_some_iff.mp e
 obtain ⟨d, ed, e⟩ := Option.bind_eq_some_iff.mp e
 split at e
 case isFalse => cases e
 rename_i hz
 cases e
 have ho := yc9 eo
 obtain ⟨o, h1, q, vs, rfl, h3, h4, h5⟩ := I.rl.sl i _ ho
 refine ⟨.ref q, h1, .inl ⟨rfl, vs, SqL.of h4⟩, h G σ H δ d _ I.rl ed fun v G1 H1 g1 dv => ⟨q, vs, v, rfl, rfl, g1.h _ _ h4, by rw [h5.length]; exact hz, ?_⟩⟩
 have I1 := I.grow g1
 exact p σ G1 _ (I1.put ho h1 (g1.n q (by rw [h4]; simp) h3) ((h5.same g1.g).app (.cons dv .nil)))
noncomputable def yc4 (i : Nat) (f : DS → Option (List W)) : DS → Option Out := fun δ => (ownAt i δ).bind fun ds => (f δ).bind fun es => if ds.length + es.length ≤ sizeLine then some (.nx (δ.set i (.own (ds ++ es)))) else none
theorem ds_extend {i : Nat} {t : TE} {f : DS → Option (List W)} (h : DO K ρ t f) : DSt K ρ (tDrop (tBM K "list" rExtend (tVar i) (tCons t tNil))) (yc4 i f) := fun G0 H0 G σ H δ o D I e p => by
 obtain ⟨ds, eo, e⟩ := Option.bind_eq_some_iff.mp e
 obtain ⟨es, ed, e⟩ := Option.bind_eq_some_iff.mp e
 split at e
 case isFalse => cases e
 rename_i hz
 cases e
 have ho := yc9 eo
 obtain ⟨o, h1, q, vs, rfl, h3, h4, h5⟩ := I.rl.sl i _ ho
 refine ⟨.ref q, h1, .inl ⟨rfl, vs, SqL.of h4⟩, h G σ H δ es _ I.rl ed fun r ws G1 H1 g1 r0 gr0 hr da => ⟨q, r, vs, ws, rfl, rfl, g1.h _ _ h4, hr, by rw [h5.length, da.length]; exact hz, ?_⟩⟩
 have I1 := I.grow g1
 exact p σ G1 _ (I1.put ho h1 (g1.n q (by rw [h4]; simp) h3) ((h5.same g1.g).app da))
noncomputable def dsSetI (i : Nat) (fi fv : DS → Option W) : DS → Option Out := fun δ => (fv δ).bind fun d => (ownAt i δ).bind fun ds => (fi δ).bind fun x => match x with
 | .int k => (ixN ds.length k).map fun j => .nx (δ.set i (.own (ds.set j d)))
 | _ => none
end
section
variable {K : PySem.W.Frag} {ρ : List Addr}
noncomputable def spD (K : PySem.W.Frag) (f : List W → Option W) : Sp := fun vs H Q _ => ∃ ρ G ds d, Same G H ∧ DwAll K ρ G vs ds ∧ f ds = some d ∧ ∀ v G' H', Gr G H G' H' → Dw K ρ G' v d → Q v H'
noncomputable def dCall (f : List W → Option W) (fa : DS → Option (List W)) : DS → Option W := fun δ => (fa δ).bind f
theorem zf9 {f : List W → Option W} {t : TA} {fa : DS → Option (List W)} {E : XK} (h : DA K ρ t fa) : DE K ρ (tCall (spD K f) [] E t) (dCall f fa) := fun G σ H δ d Q R e q => by
 obtain ⟨ds, ed, e⟩ := Option.bind_eq_some_iff.mp e
 exact h G σ H δ ds _ R ed fun vs G1 H1 g1 da => by
  refine ⟨ρ, G1, ds, d, g1.s, ?_, e, fun v G2 H2 g2 dv => q v G2 H2 (g1.trans g2) dv⟩
  rw [List.append_nil]
  exact da
noncomputable def startD (n : Nat) (ds : List W) : DS := ds.map .val ++ List.replicate (n - ds.length) .no
noncomputable def outD : Option Out → Option W
 | some (.rt d) => some d
 | some (.nx _) => some .none
 | _ => none
noncomputable def bodyD (a n : Nat) (fb : DS → Option Out) : List W → Option W := fun ds => if ds.length = a then outD (fb (startD n ds)) else none
theorem zh0 {a n : Nat} {fb : DS → Option Out} {ds : List W} {d : W} (h : bodyD a n fb ds = some d) : ds.length = a := by
 unfold bodyD at h
 split at h
 · assumption
 · cases h
theorem zn5 {f : List W → Option W} {a : Nat} {vs : List V} {H : Hp} {Q : VK} {E : XK} (hf : ∀ ds d, f ds = some d → ds.length = a) (h : spD K f vs H Q E) : vs.length = a := by
 obtain ⟨ρ, G, ds, d, s, da, e, q⟩ := h
 rw [da.length]
 exact hf ds d e
theorem zt5 {n : Nat} {ds : List W} {i : Nat} {es : List W} : (startD n ds)[i]? ≠ some (.own es) := by
 unfold startD
 intro h
 rcases Nat.lt_or_ge i (ds.map Sl.val).length with hl | hl
 · rw [List.getElem?_append_left hl, List.getElem?_map] at h
   obtain ⟨d, _, e⟩ := Option.map_eq_some_iff.mp h
   cases e
 · rw [List.getElem?_append_right hl, List.getElem?_replicate] at h
   split at h <;> cases h
theorem start_rl {G H : Hp} {N : List Str} {vs : List V} {ds : List W} (s : Same G H) (h : DwAll K ρ G vs ds) : Rl K ρ G H (startD N.length ds) (start N vs) := by
 refine ⟨s, by simp [startD, start, h.length], fun i sl e => ?_, fun i j p ds' es' h1 => absurd h1 zt5⟩
 unfold startD at e
 unfold start
 rcases Nat.lt_or_ge i ds.length with hl | hl
 · rw [List.getElem?_append_left (by simpa using hl), List.getElem?_map] at e
   obtain ⟨d, e1, rfl⟩ := Option.map_eq_some_iff.mp e
   obtain ⟨v, h1, h2⟩ := h.get e1
   refine ⟨some v, ?_, v, rfl, h2⟩
   rw [List.getElem?_append_left (by simp [h.length]; exact hl), List.getElem?_map, h1]
   rfl
 · rw [List.getElem?_append_right (by simpa using hl), List.getElem?_replicate] at e
   split at e
   · cases e
     rename_i hlt
     refine ⟨none, ?_, trivial⟩
     rw [List.getElem?_append_right (by simp [h.length]; exact hl), List.getElem?_replicate, if_pos]
     simp only [List.length_map] at hlt ⊢
     rw [h.length]
     exact hlt
   · cases e
theorem d_fn {t : TS} {fb : DS → Option Out} {N : List Str} {a n : Nat} {vs : List V} {H : Hp} {Q : VK} {E : XK} (hn : N.length = n) (h : ∀ ρ, DSt K ρ t fb) (hsp : spD K (bodyD a n fb) vs H Q E) : t { nx := fun _ H' => Q .non H', rt := Q } (start N vs) H := by
 subst hn
 obtain ⟨ρ, G, ds, d, s, da, e, q⟩ := hsp
 have R := start_rl (N := N) s da
 have I : Iv K ρ G H G H (startD N.length ds) (start N vs) := ⟨R, .refl s, fun i p ds' h1 => absurd h1 zt5⟩
 unfold bodyD at e
 rw [if_pos (zh0 (show bodyD a N.length fb ds = some d from e))] at e
 cases ef : fb (startD N.length ds) with
 | none => rw [ef] at e; cases e
 | some o =>
  rw [ef] at e
  refine h ρ G H G _ H _ o _ I ef ?_
  cases o with
  | nx δ => cases e; exact fun σ' G' H' I' => q _ G' H' I'.gr .non
  | rt d' => cases e; exact fun v G' H' g dv => q v G' H' g dv
  | bk _ => cases e
  | ct _ => cases e
end
end L2
set_option Elab.async false
set_option linter.all false
set_option maxRecDepth 100000
namespace L2
open PySem PySem.Spec PyProof.Rows
noncomputable def rCatG (K : PySem.W.Frag) : R2 := fun x y H Q => ∃ l b xs zs, x = .ref l ∧ y = .ref b ∧ SqL K H l xs ∧ SqL K H b zs ∧ xs.length + zs.length ≤ sizeLine ∧ ∀ p H', Nw H H' p (.lst (xs ++ zs)) → Q (.ref p) H'
theorem op_catG {X : Cx} : OpR X (binaryOp .Add) (rCatG X.K) := by
 intro pins s σ H x y v u Q I rx ry h
 obtain ⟨l, b, xs, zs, rfl, rfl, hH, hB, hz, q⟩ := h
 cases rx
 cases ry
 obtain ⟨its, r, hl, _⟩ := I.list hH
 obtain ⟨its2, r2, hb, _⟩ := I.list hB
 obtain ⟨⟨cls, dd, data, sl⟩, n, ho, hc, hdd, hd⟩ := hl
 obtain ⟨⟨cls2, dd2, data2, sl2⟩, n2, ho2, hc2, hdd2, hd2⟩ := hb
 simp only at hc hd hc2 hd2
 subst hc hd hc2 hd2
 have e : its.toArray ++ its2.toArray = (its ++ its2).toArray := by simp
 refine concat_meets ⟨_, ho, rfl⟩ ⟨_, ho2, rfl⟩ noFill_list_add seq_list_add PySem.F.slot_list_add PySem.F.entry_list_add (PySem.F.args_list_add_2 _ _) (list_addW l b its.toArray its2.toArray n n2 dd dd2 sl sl2 (by rw [List.size_toArray, List.size_toArray, ← r.length, ← r2.length]; exact hz)) ⟨ho, ho2, ?_⟩
 rw [e]
 exact ⟨.ref _, _, I.lnew (t' := s.toks) (r.append r2) (by rw [List.length_append]; omega), rfl, q _ _ (.of I.fresh)⟩
noncomputable def rStrAdd : R2 := fun x y H Q => ∃ i j, x = .str i ∧ y = .str j ∧ i.length + j.length ≤ sizeLine ∧ Q (.str (i ++ j)) H
noncomputable def rAddA (K : PySem.W.Frag) : R2 := fun x y H Q => rI0 (fun i j => .int (i + j)) x y H Q ∨ rStrAdd x y H Q ∨ rCatG K x y H Q ∨ rCatT K x y H Q
theorem ze3 {X : Cx} {K : PySem.W.Frag} (h : X.K = K) : OpR X (binaryOp .Add) (rAddA K) := h ▸ op_add.or (op_add_str.or (op_catG.or op_catT))
section
variable {K : PySem.W.Frag} {ρ : List Addr}
noncomputable def gAdd : W → W → Option W
 | .int i, .int j => some (.int (i + j))
 | .str i, .str j => if i.length + j.length ≤ sizeLine then some (.str (i ++ j)) else none
 | .list a, .list b => if a.length + b.length ≤ sizeLine then some (.list (a ++ b)) else none
 | .tuple a, .tuple b => if a ≠ [] ∧ a.length + b.length ≤ sizeLine then some (.tuple (a ++ b)) else none
 | _, _ => none
theorem yi7 {G H : Hp} {v : V} {i : Int} (h : Pk K ρ G H v (.int i)) : v = .int i := by
 rcases h with h | ⟨_, _, _, _, e, _⟩
 · exact zp7 h
 · cases e
theorem yi8 {G H : Hp} {v : V} {i : Str} (h : Pk K ρ G H v (.str i)) : v = .str i := by
 rcases h with h | ⟨_, _, _, _, e, _⟩
 · exact dp_str h
 · cases e
theorem yb4 {G H : Hp} {v : V} {ds : List W} (s : Same G H) (h : Pk K ρ G H v (.list ds)) : ∃ p vs, v = .ref p ∧ SqL K H p vs ∧ DwAll K ρ G vs ds := by
 rcases h with h | ⟨p, vs, es, rfl, e, h1, h2⟩
 · cases h with
   | lst sq da => exact ⟨_, _, rfl, s.seq sq, da⟩
 · cases e
   exact ⟨p, vs, rfl, SqL.of h1, h2⟩
theorem yh0 {G : Hp} {v : V} {ds : List W} (h : Dw K ρ G v (.list ds)) : ∃ p vs, v = .ref p ∧ SqL K G p vs ∧ DwAll K ρ G vs ds := by
 cases h with
 | lst sq da => exact ⟨_, _, rfl, sq, da⟩
theorem yh9 {G : Hp} {v : V} {ds : List W} (h : Dw K ρ G v (.tuple ds)) : ∃ p vs, v = .ref p ∧ G p = some (.tup vs) ∧ DwAll K ρ G vs ds := by
 cases h with
 | tup sq da => exact ⟨_, _, rfl, sq, da⟩
theorem yh2 {G H : Hp} {v : V} {ds : List W} (h : Pk K ρ G H v (.tuple ds)) : ∃ p vs, v = .ref p ∧ G p = some (.tup vs) ∧ DwAll K ρ G vs ds := by
 rcases h with h | ⟨_, _, _, _, e, _⟩
 · exact yh9 h
 · cases e
theorem zg9 : DR K ρ (rAddA K) gAdd := fun G H x y d e c Q s hx hy hg q => by
 unfold gAdd at hg
 split at hg
 · cases hg
   cases yi7 hx
   cases zp7 hy
   exact .inl ⟨_, _, rfl, rfl, q _ G H (.refl s) (.int _)⟩
 · split at hg
   · rename_i hz
     cases hg
     cases yi8 hx
     cases dp_str hy
     exact .inr (.inl ⟨_, _, rfl, rfl, hz, q _ G H (.refl s) (.str _)⟩)
   · cases hg
 · split at hg
   · rename_i hz
     cases hg
     obtain ⟨p, vs, rfl, sq, da⟩ := yb4 s hx
     obtain ⟨p2, vs2, rfl, sq2, da2⟩ := yh0 hy
     refine .inr (.inr (.inl ⟨p, p2, vs, vs2, rfl, rfl, sq, s.seq sq2, by rw [da.length, da2.length]; exact hz, fun l H' n => ?_⟩))
     have g := Gr.nw s n
     exact q _ _ H' g (.lst (SqL.of zd1) ((da.same g.g).app (da2.same g.g)))
   · cases hg
 · split at hg
   · rename_i hz
     cases hg
     obtain ⟨p, vs, rfl, sq, da⟩ := yh2 hx
     obtain ⟨p2, vs2, rfl, sq2, da2⟩ := yh9 hy
     refine .inr (.inr (.inr ⟨p, p2, vs, vs2, rfl, rfl, s.tup (SqT.of sq), s.tup (SqT.of sq2), ?_, by rw [da.length, da2.length]; exact hz.2, fun e => ?_, fun e l hl => ?_⟩))
     · rintro rfl
       cases da
       exact hz.1 rfl
     · subst e
       cases da2
       rw [List.append_nil] at q
       exact q _ G H (.refl s) (.tup sq da)
     · have g := Gr.nw s (Nw.of (o := .tup (vs ++ vs2)) hl)
       exact q _ _ _ g (.tup zd1 ((da.same g.g).app (da2.same g.g)))
   · cases hg
 · cases hg
noncomputable def gAddL : W → W → Option (List W)
 | .list a, .list b => if a.length + b.length ≤ sizeLine then some (a ++ b) else none
 | _, _ => none
noncomputable def dAddL (fa fb : DS → Option W) : DS → Option (List W) := fun δ => (fa δ).bind fun x => (fb δ).bind fun y => gAddL x y
noncomputable def gI (f : Int → Int → Int) : W → W → Option W
 | .int i, .int j => some (.int (f i j))
 | _, _ => none
noncomputable def gIc (C : Int → Int → Bool) (f : Int → Int → Int) : W → W → Option W
 | .int i, .int j => if C i j = true then some (.int (f i j)) else none
 | _, _ => none
theorem dr_i0 {f : Int → Int → Int} : DR K ρ (rI0 fun i j => .int (f i j)) (gI f) := fun G H x y d e c Q s hx hy hg q => by
 unfold gI at hg
 split at hg
 · cases hg
   cases yi7 hx
   cases zp7 hy
   exact ⟨_, _, rfl, rfl, q _ G H (.refl s) (.int _)⟩
 · cases hg
theorem dr_ic {C : Int → Int → Prop} {Cb : Int → Int → Bool} {f : Int → Int → Int} (hC : ∀ i j, Cb i j = true → C i j) : DR K ρ (rI C fun i j => .int (f i j)) (gIc Cb f) := fun G H x y d e c Q s hx hy hg q => by
 unfold gIc at hg
 split at hg
 · split at hg
   · rename_i hc
     cases hg
     cases yi7 hx
     cases zp7 hy
     exact ⟨_, _, rfl, rfl, hC _ _ hc, q _ G H (.refl s) (.int _)⟩
   · cases hg
 · cases hg
noncomputable def gSub' : W → W → Option W := gI fun i j => i - j
theorem yh6 : DR K ρ (rI0 fun i j => .int (i - j)) gSub' := dr_i0
theorem yk0 : 2 ^ 200 < 2 ^ 512 := Nat.pow_lt_pow_right (by decide) (by decide)
noncomputable def okMul (i j : Int) : Bool := decide (i.natAbs < 2 ^ 64) || decide (j.natAbs < 2 ^ 64) || (decide (i.natAbs < 2 ^ 200) && decide (j.natAbs < 2 ^ 200))
noncomputable def CMulA (i j : Int) : Prop := CMul i j ∨ CMulM i j
theorem zr4 {X : Cx} : OpR X (binaryOp .Mult) (rI CMulA fun i j => .int (i * j)) := fun pins s σ H x y v u Q I rx ry h => by
 obtain ⟨i, j, e1, e2, hc, q⟩ := h
 rcases hc with hc | hc
 · exact op_mul pins s σ H x y v u Q I rx ry ⟨i, j, e1, e2, hc, q⟩
 · exact op_mulM pins s σ H x y v u Q I rx ry ⟨i, j, e1, e2, hc, q⟩
noncomputable def okDiv (i j : Int) : Bool := decide (j ≠ 0) && decide (j.natAbs < 2 ^ 200)
noncomputable def okMod (i j : Int) : Bool := decide (j ≠ 0)
noncomputable def gMul : W → W → Option W := gIc okMul fun i j => i * j
noncomputable def gDiv : W → W → Option W := gIc okDiv fun i j => i.fdiv j
noncomputable def gMod : W → W → Option W := gIc okMod fun i j => i.fmod j
theorem zu7 : DR K ρ (rI CMulA fun i j => .int (i * j)) gMul := dr_ic fun i j h => by
 simp only [okMul, Bool.and_eq_true, Bool.or_eq_true, decide_eq_true_eq] at h
 rcases h with (h | h) | h
 · exact .inl (.inl ⟨by omega, by omega⟩)
 · exact .inl (.inr ⟨by omega, by omega⟩)
 · exact .inr ⟨Nat.lt_trans h.1 yk0, Nat.lt_trans h.2 yk0⟩
theorem zt1 : DR K ρ (rI CDivM fun i j => .int (i.fdiv j)) gDiv := dr_ic fun i j h => by
 simp only [okDiv, Bool.and_eq_true, decide_eq_true_eq] at h
 exact ⟨h.1, Nat.lt_trans h.2 yk0⟩
theorem zm9 : DR K ρ (rI (fun _ j => j ≠ 0) fun i j => .int (i.fmod j)) gMod := dr_ic fun i j h => by simpa [okMod] using h
noncomputable def gNeg : W → Option W
 | .int i => some (.int (-i))
 | _ => none
noncomputable def dUn (g : W → Option W) (f : DS → Option W) : DS → Option W := fun δ => (f δ).bind g
theorem yj8 {t : TE} {f : DS → Option W} (h : DE K ρ t f) : DE K ρ (tUn (rU fun i => .int (-i)) t) (dUn gNeg f) := fun G σ H δ d Q R e q => by
 obtain ⟨x, ex, e⟩ := Option.bind_eq_some_iff.mp e
 refine h G σ H δ x _ R ex fun v G1 H1 g1 dv => ?_
 unfold gNeg at e
 split at e
 · cases e
   cases zp7 dv
   exact ⟨_, rfl, q _ G1 H1 g1 (.int _)⟩
 · cases e
noncomputable def cI (p : Int → Int → Bool) : W → W → Option Bool
 | .int i, .int j => some (p i j)
 | _, _ => none
theorem db_i {p : Int → Int → Bool} : DB K ρ (rI0 fun i j => .bl (p i j)) (cI p) := fun H x y d e b Q hx hy hg q => by
 unfold cI at hg
 split at hg
 · cases hg
   cases zp7 hx
   cases zp7 hy
   exact ⟨_, _, rfl, rfl, q⟩
 · cases hg
noncomputable def cLt : W → W → Option Bool := cI fun i j => decide (i < j)
noncomputable def cLe : W → W → Option Bool := cI fun i j => decide (i ≤ j)
noncomputable def cGt : W → W → Option Bool := cI fun i j => decide (j < i)
noncomputable def cGe : W → W → Option Bool := cI fun i j => decide (j ≤ i)
theorem db_gt : DB K ρ (rI0 fun i j => .bl (decide (j < i))) cGt := db_i
noncomputable def isN : W → Bool
 | .none => true
 | _ => false
noncomputable def cIsN : W → W → Option Bool
 | d, .none => some (isN d)
 | _, _ => none
theorem non_iff {H : Hp} {x : V} {d : W} (h : Dw K ρ H x d) : decide (x = .non) = isN d := by
 cases h <;> simp [isN]
theorem db_isN : DB K ρ (fun x y H Q => y = .non ∧ Q (.bl (decide (x = .non))) H) cIsN := fun H x y d e b Q hx hy hg q => by
 unfold cIsN at hg
 split at hg
 · cases hg
   cases yj2 hy
   exact ⟨rfl, by rw [non_iff hx]; exact q⟩
 · cases hg
noncomputable def cNotN : W → W → Option Bool
 | d, .none => some (!(isN d))
 | _, _ => none
theorem db_notN : DB K ρ (fun x y H Q => y = .non ∧ Q (.bl (!decide (x = .non))) H) cNotN := fun H x y d e b Q hx hy hg q => by
 unfold cNotN at hg
 split at hg
 · cases hg
   cases yj2 hy
   exact ⟨rfl, by rw [non_iff hx]; exact q⟩
 · cases hg
noncomputable def scN : W → Option Bool
 | .none => some true
 | .int _ => some false
 | .bool _ => some false
 | .str _ => some false
 | _ => none
noncomputable def scI (i : Int) : W → Option Bool
 | .none => some false
 | .int j => some (decide (i = j))
 | .str _ => some false
 | _ => none
noncomputable def scB (i : Bool) : W → Option Bool
 | .none => some false
 | .bool j => some (decide (i = j))
 | .str _ => some false
 | _ => none
noncomputable def scS (i : Str) : W → Option Bool
 | .none => some false
 | .int _ => some false
 | .bool _ => some false
 | .str j => some (decide (i = j))
 | _ => none
noncomputable def scD : W → W → Option Bool
 | .none, e => scN e
 | .int i, e => scI i e
 | .bool i, e => scB i e
 | .str i, e => scS i e
 | _, _ => none
theorem yj1 {H : Hp} {x y : V} {d e : W} {b : Bool} (hx : Dw K ρ H x d) (hy : Dw K ρ H y e) (h : scD d e = some b) : scal x y = true ∧ decide (x = y) = b := by
 cases hx with
 | non => cases hy <;> first | (cases h; exact ⟨rfl, by simp⟩) | cases h
 | int i => cases hy <;> first | (cases h; exact ⟨rfl, by simp⟩) | cases h
 | bl i => cases hy <;> first | (cases h; exact ⟨rfl, by simp⟩) | cases h
 | str i => cases hy <;> first | (cases h; exact ⟨rfl, by simp⟩) | cases h
 | _ => cases h
noncomputable def cEq (d e : W) : Option Bool := match scD d e with
 | some b => some b
 | none => d.py.bind fun a => e.py.bind fun b => if (a.canLay0 && b.canLay0 && decide (a.depth ≤ 64)) = true then some (PyData.eqv a b) else none
noncomputable def rEqA (K : PySem.W.Frag) : R2 := fun x y H Q => rEq x y H Q ∨ rEqD K false x y H Q
noncomputable def rNeA (K : PySem.W.Frag) : R2 := fun x y H Q => rNe x y H Q ∨ rEqD K true x y H Q
theorem zd7 {X : Cx} {K : PySem.W.Frag} (h : X.K = K) (hu : X.A.units + 64 < cLine) : OpR X (compareOp .Eq) (rEqA K) := h ▸ op_eq.or (op_eqD hu)
theorem ya3 {X : Cx} {K : PySem.W.Frag} (h : X.K = K) (hu : X.A.units + 64 < cLine) : OpR X (compareOp .NotEq) (rNeA K) := h ▸ op_ne.or (op_neD hu)
theorem db_eq : DB K ρ (rEqA K) cEq := fun H x y d e b Q hx hy hg q => by
 unfold cEq at hg
 split at hg
 · rename_i b' hb
   cases hg
   obtain ⟨h1, h2⟩ := yj1 hx hy hb
   exact .inl ⟨h1, by rw [h2]; exact q⟩
 · obtain ⟨a, ea, hg⟩ := Option.bind_eq_some_iff.mp hg
   obtain ⟨b, eb, hg⟩ := Option.bind_eq_some_iff.mp hg
   split at hg
   · rename_i hc
     cases hg
     simp only [Bool.and_eq_true, decide_eq_true_eq] at hc
     exact .inr ⟨a, b, hx.dp ea, hy.dp eb, hc.1.1, hc.1.2, hc.2, q⟩
   · cases hg
noncomputable def cNe (d e : W) : Option Bool := (cEq d e).map (!·)
theorem db_ne : DB K ρ (rNeA K) cNe := fun H x y d e b Q hx hy hg q => by
 obtain ⟨c, hg', rfl⟩ := Option.map_eq_some_iff.mp hg
 unfold cEq at hg'
 split at hg'
 · rename_i b' hb
   cases hg'
   obtain ⟨h1, h2⟩ := yj1 hx hy hb
   exact .inl ⟨h1, by rw [h2]; exact q⟩
 · obtain ⟨a, ea, hg'⟩ := Option.bind_eq_some_iff.mp hg'
   obtain ⟨b, eb, hg'⟩ := Option.bind_eq_some_iff.mp hg'
   split at hg'
   · rename_i hc
     cases hg'
     simp only [Bool.and_eq_true, decide_eq_true_eq] at hc
     exact .inr ⟨a, b, hx.dp ea, hy.dp eb, hc.1.1, hc.1.2, hc.2, q⟩
   · cases hg'
noncomputable def gIx : W → W → Option W
 | .list ds, .int i => atI ds i
 | .tuple ds, .int i => atI ds i
 | .str z, .int i => if z.length ≤ sizeLine then (atI z.cps.toList i).map fun c => .str ⟨#[c]⟩ else none
 | _, _ => none
theorem DwAll.at {G : Hp} {vs : List V} {ds : List W} {i : Int} {d : W} (h : DwAll K ρ G vs ds) (e : atI ds i = some d) : ∃ v, atI vs i = some v ∧ Dw K ρ G v d := by
 unfold atI at e ⊢
 rw [h.length]
 obtain ⟨j, h1, h2⟩ := Option.bind_eq_some_iff.mp e
 obtain ⟨v, h3, h4⟩ := h.get h2
 exact ⟨v, Option.bind_eq_some_iff.mpr ⟨j, h1, h3⟩, h4⟩
theorem dr_ix : DR K ρ (rIx K) gIx := fun G H x y d e c Q s hx hy hg q => by
 unfold gIx at hg
 split at hg
 · cases zp7 hy
   obtain ⟨p, vs, rfl, sq, da⟩ := yb4 s hx
   obtain ⟨v, h1, h2⟩ := da.at hg
   exact .inl ⟨p, vs, _, v, rfl, rfl, sq, h1, q v G H (.refl s) h2⟩
 · cases zp7 hy
   obtain ⟨p, vs, rfl, sq, da⟩ := yh2 hx
   obtain ⟨v, h1, h2⟩ := da.at hg
   exact .inr (.inl ⟨p, vs, _, v, rfl, rfl, s.tup (SqT.of sq), h1, q v G H (.refl s) h2⟩)
 · split at hg
   · rename_i hz
     obtain ⟨c', h1, rfl⟩ := Option.map_eq_some_iff.mp hg
     cases zp7 hy
     cases yi8 hx
     exact .inr (.inr ⟨_, _, c', rfl, rfl, hz, h1, q _ G H (.refl s) (.str _)⟩)
   · cases hg
 · cases hg
noncomputable def cutW (xs : List W) (lo hi : Option Int) : List W := (xs.drop (HT.sIx xs.length 0 lo)).take (HT.sIx xs.length xs.length hi - HT.sIx xs.length 0 lo)
theorem DwAll.cut {G : Hp} {vs : List V} {ds : List W} (h : DwAll K ρ G vs ds) (lo hi : Option Int) : DwAll K ρ G (cutV vs lo hi) (cutW ds lo hi) := by
 unfold cutV cutW
 rw [h.length]
 exact (h.drop _).take _
noncomputable def DOp (K : PySem.W.Frag) (ρ : List Addr) (t : TO) (f : DS → Option (Option Int)) : Prop :=
 ∀ (G : Hp) (σ : St) (H : Hp) (δ : DS) (x : Option Int) (Q : Option Int → Hp → Prop), Rl K ρ G H δ σ → f δ = some x → (∀ G' H', Gr G H G' H' → Q x H') → t σ H Q
noncomputable def dNoPart : DS → Option (Option Int) := fun _ => some none
noncomputable def asI : W → Option Int
 | .int i => some i
 | _ => none
theorem asI_eq {d : W} {i : Int} (h : asI d = some i) : d = .int i := by
 cases d <;> first | (cases h; rfl) | cases h
noncomputable def dPart (f : DS → Option W) : DS → Option (Option Int) := fun δ => (f δ).bind fun d => (asI d).map some
theorem zw9 : DOp K ρ tNoPart dNoPart := fun G σ H δ x Q R e q => by
 cases e
 exact q G H (.refl R.sub)
theorem zs2 {t : TE} {f : DS → Option W} (h : DE K ρ t f) : DOp K ρ (tPart t) (dPart f) := fun G σ H δ x Q R e q => by
 obtain ⟨d, ed, e⟩ := Option.bind_eq_some_iff.mp e
 obtain ⟨i, ei, rfl⟩ := Option.map_eq_some_iff.mp e
 cases asI_eq ei
 exact h G σ H δ _ _ R ed fun v G1 H1 g1 dv => by
  cases zp7 dv
  exact ⟨i, rfl, q G1 H1 g1⟩
noncomputable def listD : W → Option (List W)
 | .list ds => some ds
 | _ => none
theorem zw8 {d : W} {ds : List W} (h : listD d = some ds) : d = .list ds := by
 cases d <;> first | (cases h; rfl) | cases h
noncomputable def dSlL (f : DS → Option W) (lo hi : DS → Option (Option Int)) : DS → Option (List W) := fun δ => (f δ).bind fun d => (listD d).bind fun ds => (lo δ).bind fun l => (hi δ).map fun u => cutW ds l u
theorem do_slL {t : TE} {tl th : TO} {f : DS → Option W} {lo hi : DS → Option (Option Int)} (h : DK K ρ t f) (hl : DOp K ρ tl lo) (hh : DOp K ρ th hi) : DO K ρ (tSl (rSlLN K) t tl th) (dSlL f lo hi) := fun G σ H δ ds Q R e q => by
 obtain ⟨d, ed, e⟩ := Option.bind_eq_some_iff.mp e
 obtain ⟨es, ee, e⟩ := Option.bind_eq_some_iff.mp e
 obtain ⟨l, el, e⟩ := Option.bind_eq_some_iff.mp e
 obtain ⟨u, eu, rfl⟩ := Option.map_eq_some_iff.mp e
 cases zw8 ee
 refine h G σ H δ _ _ R ed fun v G1 H1 g1 dv => hl G1 σ H1 δ l _ (R.grow g1) el fun G2 H2 g2 => hh G2 σ H2 δ u _ ((R.grow g1).grow g2) eu fun G3 H3 g3 => ?_
 have g23 := g2.trans g3
 obtain ⟨p, vs, rfl, sq, da⟩ := yb4 g23.s (dv.grow g23)
 refine ⟨p, vs, rfl, sq, fun r H' n => ?_⟩
 have g := g1.trans g23
 exact q r _ G3 H' (g.trans (.nwO g.s n)) (zq2 g.h n.2.1) (zq2 g.s n.2.1) n.2.2 (da.cut l u)
noncomputable def DCk (K : PySem.W.Frag) (ρ : List Addr) (r : List V → Hp → VK → Prop) (g : W → Option W) : Prop :=
 ∀ (G H : Hp) (x : V) (d c : W) (Q : VK), Same G H → Pk K ρ G H x d → g d = some c → (∀ v G' H', Gr G H G' H' → Dw K ρ G' v c → Q v H') → r [x] H Q
noncomputable def dC1 (g : W → Option W) (f : DS → Option W) : DS → Option W := fun δ => (f δ).bind g
theorem de_c1 {r : List V → Hp → VK → Prop} {g : W → Option W} {t : TE} {f : DS → Option W} (hr : DCk K ρ r g) (h : DK K ρ t f) : DE K ρ (tCB r (tCons t tNil)) (dC1 g f) := fun G σ H δ d Q R e q => by
 obtain ⟨x, ex, e⟩ := Option.bind_eq_some_iff.mp e
 exact h G σ H δ x _ R ex fun v G1 H1 g1 dv => hr G1 H1 v x d Q g1.s dv e fun u G2 H2 g2 du => q u G2 H2 (g1.trans g2) du
noncomputable def rLenA (K : PySem.W.Frag) : List V → Hp → VK → Prop := fun xs H Q => rLen K xs H Q ∨ rLenS xs H Q
theorem zk7 {X : Cx} {K : PySem.W.Frag} (h : X.K = K) : CallR X (.builtin "len") (rLenA K) := (call_len_seqK h).or call_len_strK
noncomputable def gLen : W → Option W
 | .list ds => some (.int ds.length)
 | .tuple ds => some (.int ds.length)
 | .str z => if z.length ≤ sizeLine then some (.int z.length) else none
 | _ => none
theorem zx6 : DCk K ρ (rLenA K) gLen := fun G H x d c Q s hx hg q => by
 unfold gLen at hg
 split at hg
 · cases hg
   obtain ⟨p, vs, rfl, sq, da⟩ := yb4 s hx
   exact .inl ⟨p, vs, rfl, .inl sq, by rw [da.length]; exact q _ G H (.refl s) (.int _)⟩
 · cases hg
   obtain ⟨p, vs, rfl, sq, da⟩ := yh2 hx
   exact .inl ⟨p, vs, rfl, .inr (s.tup (SqT.of sq)), by rw [da.length]; exact q _ G H (.refl s) (.int _)⟩
 · split at hg
   · rename_i hz
     cases hg
     cases yi8 hx
     exact .inr ⟨_, rfl, hz, q _ G H (.refl s) (.int _)⟩
   · cases hg
 · cases hg
noncomputable def dListOf (f : DS → Option W) : DS → Option (List W) := fun δ => (f δ).bind seqD
theorem do_list {t : TE} {f : DS → Option W} (h : DK K ρ t f) : DO K ρ (tCB (rListOf K) (tCons t tNil)) (dListOf f) := fun G σ H δ ds Q R e q => by
 obtain ⟨x, ex, e⟩ := Option.bind_eq_some_iff.mp e
 refine h G σ H δ x _ R ex fun v G1 H1 g1 dv => ?_
 have fin : ∀ (vs : List V) (l : Addr), DwAll K ρ G1 vs ds → H1 l = none → Q (.ref l) (upd H1 l (.lst vs)) := fun vs l da hl => by
  have n : Nw H1 (upd H1 l (.lst vs)) l (.lst vs) := .of hl
  exact q l vs G1 _ (g1.trans (.nwO g1.s n)) (zq2 g1.h hl) (zq2 g1.s hl) zd1 da
 unfold seqD at e
 split at e
 · cases e
   obtain ⟨p, vs, rfl, sq, da⟩ := yb4 g1.s dv
   exact ⟨p, vs, rfl, .inl sq, fun l hl => fin vs l da hl⟩
 · cases e
   obtain ⟨p, vs, rfl, sq, da⟩ := yh2 dv
   exact ⟨p, vs, rfl, .inr (g1.s.tup (SqT.of sq)), fun l hl => fin vs l da hl⟩
 · cases e
noncomputable def gIsi (T : String) : W → Option W
 | .int i => (isiV (.int i) T).map .bool
 | .bool i => (isiV (.bl i) T).map .bool
 | .str i => (isiV (.str i) T).map .bool
 | _ => none
theorem yj6 {T : String} {t : TE} {f : DS → Option W} (h : DE K ρ t f) : DE K ρ (tCB rIsi (tCons t (tCons (tC (.ty T)) tNil))) (dC1 (gIsi T) f) := fun G σ H δ d Q R e q => by
 obtain ⟨x, ex, e⟩ := Option.bind_eq_some_iff.mp e
 refine h G σ H δ x _ R ex fun v G1 H1 g1 dv => ?_
 unfold gIsi at e
 split at e
 all_goals first
  | cases e
  | (obtain ⟨k, ek, rfl⟩ := Option.map_eq_some_iff.mp e
     cases dv
     exact ⟨_, T, k, rfl, ek, q _ G1 H1 g1 (.bl k)⟩)
end
end L2
set_option Elab.async false
set_option linter.all false
set_option maxRecDepth 100000
namespace L2
open PySem PySem.Spec PyProof.Rows
section
variable {X : Cx} {tg : Expr}
end
section
variable {K : PySem.W.Frag} {ρ : List Addr}
end
section
variable {X : Cx}
end
section
variable {K : PySem.W.Frag} {ρ : List Addr}
end
theorem gAdd_i (i j : Int) : gAdd (.int i) (.int j) = some (.int (i + j)) := rfl
theorem ye6 {a b : List W} (h : a.length + b.length ≤ sizeLine) : gAdd (.list a) (.list b) = some (.list (a ++ b)) := by simp only [gAdd, if_pos h]
theorem gAdd_t {a b : List W} (h0 : a ≠ []) (h : a.length + b.length ≤ sizeLine) : gAdd (.tuple a) (.tuple b) = some (.tuple (a ++ b)) := by simp only [gAdd, if_pos (And.intro h0 h)]
theorem gAdd_s {a b : Str} (h : a.length + b.length ≤ sizeLine) : gAdd (.str a) (.str b) = some (.str (a ++ b)) := by simp only [gAdd, if_pos h]
theorem gSub_i (i j : Int) : gSub' (.int i) (.int j) = some (.int (i - j)) := rfl
theorem zu9 {i j : Int} (h : okMul i j = true) : gMul (.int i) (.int j) = some (.int (i * j)) := by simp only [gMul, gIc, if_pos h]
theorem gDiv_i {i j : Int} (h : okDiv i j = true) : gDiv (.int i) (.int j) = some (.int (i.fdiv j)) := by simp only [gDiv, gIc, if_pos h]
theorem gMod_i {i j : Int} (h : okMod i j = true) : gMod (.int i) (.int j) = some (.int (i.fmod j)) := by simp only [gMod, gIc, if_pos h]
theorem gNeg_i (i : Int) : gNeg (.int i) = some (.int (-i)) := rfl
theorem yf2 {i j : Int} (h1 : -(2 ^ 64) < i) (h2 : i < 2 ^ 64) : okMul i j = true := by
 simp only [okMul, Bool.and_eq_true, Bool.or_eq_true, decide_eq_true_eq]
 exact .inl (.inl (by omega))
theorem zv3 {i j : Int} (h1 : -(2 ^ 64) < j) (h2 : j < 2 ^ 64) : okMul i j = true := by
 simp only [okMul, Bool.and_eq_true, Bool.or_eq_true, decide_eq_true_eq]
 exact .inl (.inr (by omega))
theorem okDiv_of {i j : Int} (h1 : 0 < j) (h2 : j < 2 ^ 64) : okDiv i j = true := by
 have e : (2 : Nat) ^ 64 < 2 ^ 200 := Nat.pow_lt_pow_right (by decide) (by decide)
 simp only [okDiv, Bool.and_eq_true, decide_eq_true_eq]
 exact ⟨by omega, Nat.lt_trans (by omega) e⟩
theorem okMod_of {i j : Int} (h : j ≠ 0) : okMod i j = true := by simp [okMod, h]
theorem gDiv_n (i : Int) {j : Int} (h1 : 0 < j) (h2 : j < 2 ^ 64) : gDiv (.int i) (.int j) = some (.int (i.fdiv j)) := gDiv_i (okDiv_of h1 h2)
theorem gMod_n (i : Int) {j : Int} (h1 : j ≠ 0) : gMod (.int i) (.int j) = some (.int (i.fmod j)) := gMod_i (okMod_of h1)
theorem asB_b (b : Bool) : asB (.bool b) = some b := rfl
theorem asI_i (i : Int) : asI (.int i) = some i := rfl
theorem yf3 (ds : List W) : listD (.list ds) = some ds := rfl
theorem seqD_l (ds : List W) : seqD (.list ds) = some ds := rfl
theorem seqD_t (ds : List W) : seqD (.tuple ds) = some ds := rfl
theorem gLen_l (ds : List W) : gLen (.list ds) = some (.int ds.length) := rfl
theorem gLen_t (ds : List W) : gLen (.tuple ds) = some (.int ds.length) := rfl
theorem gIx_l (ds : List W) (i : Int) : gIx (.list ds) (.int i) = atI ds i := rfl
theorem gIx_t (ds : List W) (i : Int) : gIx (.tuple ds) (.int i) = atI ds i := rfl
theorem cEq_i (i j : Int) : cEq (.int i) (.int j) = some (decide (i = j)) := rfl
theorem cEq_s (i j : Str) : cEq (.str i) (.str j) = some (decide (i = j)) := rfl
theorem cEq_b (i j : Bool) : cEq (.bool i) (.bool j) = some (decide (i = j)) := rfl
theorem cNe_i (i j : Int) : cNe (.int i) (.int j) = some (!decide (i = j)) := rfl
theorem cNe_s (i j : Str) : cNe (.str i) (.str j) = some (!decide (i = j)) := rfl
theorem cLt_i (i j : Int) : cLt (.int i) (.int j) = some (decide (i < j)) := rfl
theorem cLe_i (i j : Int) : cLe (.int i) (.int j) = some (decide (i ≤ j)) := rfl
theorem cGt_i (i j : Int) : cGt (.int i) (.int j) = some (decide (j < i)) := rfl
theorem cGe_i (i j : Int) : cGe (.int i) (.int j) = some (decide (j ≤ i)) := rfl
theorem cNotN_i (i : Int) : cNotN (.int i) .none = some true := rfl
theorem cNotN_n : cNotN .none .none = some false := rfl
theorem cNotN_s (i : Str) : cNotN (.str i) .none = some true := rfl
theorem cNotN_l (i : List W) : cNotN (.list i) .none = some true := rfl
theorem cNotN_t (i : List W) : cNotN (.tuple i) .none = some true := rfl
theorem cIsN_i (i : Int) : cIsN (.int i) .none = some false := rfl
theorem cIsN_n : cIsN .none .none = some true := rfl
theorem cIsN_s (i : Str) : cIsN (.str i) .none = some false := rfl
theorem cIsN_l (i : List W) : cIsN (.list i) .none = some false := rfl
theorem cIsN_t (i : List W) : cIsN (.tuple i) .none = some false := rfl
theorem isi_int (i : Int) : gIsi "int" (.int i) = some (.bool true) := rfl
theorem isi_bool (i : Int) : gIsi "bool" (.int i) = some (.bool false) := rfl
theorem isi_str (i : Str) : gIsi "str" (.str i) = some (.bool true) := rfl
theorem zd6 {f g : DS → Option Out} {δ δ1 : DS} {o : Option Out} (h1 : f δ = some (.nx δ1)) (h2 : g δ1 = o) : dsSeq f g δ = o := by
 unfold dsSeq
 rw [h1]
 exact h2
theorem zk6 {a n : Nat} {fb : DS → Option Out} {ds : List W} {d : W} (hl : ds.length = a) (h : fb (startD n ds) = some (.rt d)) : bodyD a n fb ds = some d := by
 unfold bodyD
 rw [if_pos hl, h]
 rfl
theorem for_run {fi : DS → Option (List W)} {h : W → DS → Option DS} {fb : DS → Option Out} {δ : DS} {ds : List W} {o : Option Out} (h1 : fi δ = some ds) (h2 : zk4 h fb ds δ = o) : dsFor fi h fb δ = o := by
 unfold dsFor
 rw [h1]
 exact h2
theorem zp1 {f : DS → Option W} {h : W → DS → Option DS} {δ δ' : DS} {d : W} (h1 : f δ = some d) (h2 : h d δ = some δ') : dsAsg f h δ = some (.nx δ') := by
 unfold dsAsg
 rw [h1]
 show (h d δ).map Out.nx = _
 rw [h2]
 rfl
theorem zf8 {f : DS → Option W} {δ : DS} {d : W} (h1 : f δ = some d) : dsRet f δ = some (.rt d) := by
 unfold dsRet
 rw [h1]
 rfl
theorem zj9 {c : DS → Option Bool} {f g : DS → Option Out} {δ : DS} {b : Bool} {o : Option Out} (h1 : c δ = some b) (h2 : (if b = true then f δ else g δ) = o) : dsIf c f g δ = o := by
 unfold dsIf
 rw [h1]
 exact h2
theorem rng1_at {n : Nat} (hn : n ≤ 16777216) : rng1 (n : Int) = some (rngD 0 n) := by
 unfold rng1
 rw [if_pos (rngOk_nat hn), Int.toNat_natCast]
theorem rng1_run {f : DS → Option (List W)} {δ : DS} {n : Nat} (h : f δ = some [.int n]) (hn : n ≤ 16777216) : dRng1 f δ = some (rngD 0 n) := by
 unfold dRng1
 rw [h, Option.bind_some]
 exact rng1_at hn
theorem spD_no {K : PySem.W.Frag} {g : List W → Option W} {vs : List V} {H : Hp} {Q : VK} {E : XK} (hg : ∀ ds, g ds = none) (h : spD K g vs H Q E) : False := by
 obtain ⟨ρ, G, ds, d, _, _, e, _⟩ := h
 rw [hg] at e
 cases e
theorem FnOk.no {P : Program} {w : World} {K : PySem.W.Frag} {mg : Str → Option Value} {base : Heap} {CX : CXT} {k : Nat} {f : Addr} {fd : FuncData} {ps : List Str} {g : List W → Option W} (hg : ∀ ds, g ds = none) : FnOk P w K mg base CX k f fd ps (spD K g) :=
 ⟨fun _ _ _ _ h => (spD_no hg h).elim, fun _ _ _ _ _ _ _ _ _ _ _ _ _ h => (spD_no hg h).elim⟩
end L2
set_option Elab.async false
set_option linter.all false
set_option maxRecDepth 100000
namespace L2
open PySem PySem.Spec PyProof.Rows
inductive Ob where
 | lst (ds : List W)
 | dK (kvs : List (Key × W))
 | dT (kvs : List (List Key × W))
 | ins (c : Str) (fs : List (Str × W))
noncomputable abbrev Sto := List Ob
inductive KvR (K : PySem.W.Frag) (ρ : List Addr) (G : Hp) {κ : Type} : List (κ × W) → List (κ × V) → Prop
 | nil : KvR K ρ G [] []
 | cons {k : κ} {d : W} {v : V} {l : List (κ × W)} {m : List (κ × V)} : Dw K ρ G v d → KvR K ρ G l m → KvR K ρ G ((k, d) :: l) ((k, v) :: m)
noncomputable def ObR (K : PySem.W.Frag) (ρ : List Addr) (cl : Str → Addr) (G H : Hp) (a : Addr) : Ob → Prop
 | .lst ds => ∃ vs, H a = some (.lst vs) ∧ DwAll K ρ G vs ds
 | .dK kvs => ∃ ws, H a = some (.dK ws) ∧ KvR K ρ G kvs ws
 | .dT kvs => ∃ ws, H a = some (.dT ws) ∧ KvR K ρ G kvs ws
 | .ins c fs => ∃ dx ws, H a = some (.ins (cl c) dx ws) ∧ G dx = none ∧ H dx = some (.own a) ∧ KvR K ρ G fs ws
mutual
theorem Dw.ext {K : PySem.W.Frag} {ρ ρ' : List Addr} {G : Hp} (h : ρ <+: ρ') : ∀ {v : V} {d : W}, Dw K ρ G v d → Dw K ρ' G v d
 | _, _, .non => .non
 | _, _, .bl b => .bl b
 | _, _, .int i => .int i
 | _, _, .str x => .str x
 | _, _, .lst q a => .lst q (DwAll.ext h a)
 | _, _, .tup q a => .tup q (DwAll.ext h a)
 | _, _, .ref e => .ref (by
  obtain ⟨t, rfl⟩ := h
  rw [List.getElem?_append_left (List.getElem?_eq_some_iff.mp e).1]
  exact e)
theorem DwAll.ext {K : PySem.W.Frag} {ρ ρ' : List Addr} {G : Hp} (h : ρ <+: ρ') : ∀ {vs : List V} {ds : List W}, DwAll K ρ G vs ds → DwAll K ρ' G vs ds
 | _, _, .nil => .nil
 | _, _, .cons a b => .cons (Dw.ext h a) (DwAll.ext h b)
end
theorem KvR.ext {K : PySem.W.Frag} {ρ ρ' : List Addr} {G G' : Hp} {κ : Type} (h : ρ <+: ρ') (g : Same G G') : ∀ {l : List (κ × W)} {m : List (κ × V)}, KvR K ρ G l m → KvR K ρ' G' l m
 | _, _, .nil => .nil
 | _, _, .cons a b => .cons ((a.ext h).same g) (KvR.ext h g b)
theorem KvR.lookup {K : PySem.W.Frag} {ρ : List Addr} {G : Hp} {κ : Type} [BEq κ] {k : κ} : ∀ {l : List (κ × W)} {m : List (κ × V)} {d : W}, KvR K ρ G l m → l.lookup k = some d → ∃ v, m.lookup k = some v ∧ Dw K ρ G v d
 | _, _, _, .cons (k := j) (l := l) (m := m) a b, e => by
  simp only [List.lookup] at e ⊢
  split at e
  · cases e; exact ⟨_, rfl, a⟩
  · exact KvR.lookup b e
theorem KvR.lookup_none {K : PySem.W.Frag} {ρ : List Addr} {G : Hp} {κ : Type} [BEq κ] {k : κ} : ∀ {l : List (κ × W)} {m : List (κ × V)}, KvR K ρ G l m → l.lookup k = none → m.lookup k = none
 | _, _, .nil, _ => rfl
 | _, _, .cons (k := j) (l := l) (m := m) a b, e => by
  simp only [List.lookup] at e ⊢
  split at e
  · cases e
  · exact KvR.lookup_none b e
theorem KvR.length {K : PySem.W.Frag} {ρ : List Addr} {G : Hp} {κ : Type} : ∀ {l : List (κ × W)} {m : List (κ × V)}, KvR K ρ G l m → l.length = m.length
 | _, _, .nil => rfl
 | _, _, .cons a b => by rw [List.length_cons, List.length_cons, KvR.length b]
noncomputable def putW (f : Str) (v : W) : List (Str × W) → List (Str × W)
 | [] => [(f, v)]
 | (g, x) :: r => if g = f then (g, v) :: r else (g, x) :: putW f v r
theorem KvR.putF {K : PySem.W.Frag} {ρ : List Addr} {G : Hp} {f : Str} {v : V} {d : W} (h : Dw K ρ G v d) : ∀ {l : List (Str × W)} {m : List (Str × V)}, KvR K ρ G l m → KvR K ρ G (putW f d l) (putF f v m)
 | _, _, .nil => .cons h .nil
 | _, _, .cons (k := j) a b => by
  unfold putW L2.putF
  split
  · exact .cons h b
  · exact .cons a (KvR.putF h b)
structure SR (K : PySem.W.Frag) (ρ : List Addr) (cl : Str → Addr) (G H : Hp) (S : Sto) : Prop where
 len : ρ.length = S.length
 nd : ρ.Nodup
 ob : ∀ (n : Nat) o, S[n]? = some o → ∃ a, ρ[n]? = some a ∧ G a = none ∧ ObR K ρ cl G H a o
structure GS (ρ : List Addr) (G H : Hp) (ρ' : List Addr) (G' H' : Hp) : Prop where
 r : ρ <+: ρ'
 g : Same G G'
 s : Same G' H'
 h : ∀ b o, b ∉ ρ → H b = some o → H' b = some o
 k : ∀ b, H b ≠ none → H' b ≠ none
 n : ∀ b, H b ≠ none → G b = none → G' b = none
 f : ∀ a, a ∈ ρ' → a ∉ ρ → H a = none
theorem GS.refl {ρ : List Addr} {G H : Hp} (s : Same G H) : GS ρ G H ρ G H := ⟨List.prefix_refl _, .refl _, s, fun _ _ _ e => e, fun _ e => e, fun _ _ e => e, fun a h1 h2 => absurd h1 h2⟩
theorem GS.of {ρ : List Addr} {G H G' H' : Hp} (g : Gr G H G' H') : GS ρ G H ρ G' H' := ⟨List.prefix_refl _, g.g, g.s, fun b o _ e => g.h b o e, fun b e => yc6 g.h e, g.n, fun a h1 h2 => absurd h1 h2⟩
theorem GS.trans {ρ ρ1 ρ2 : List Addr} {G H G1 H1 G2 H2 : Hp} (a : GS ρ G H ρ1 G1 H1) (b : GS ρ1 G1 H1 ρ2 G2 H2) : GS ρ G H ρ2 G2 H2 :=
 ⟨a.r.trans b.r, a.g.trans b.g, b.s, fun c o hc e => b.h c o (fun h1 => by rw [a.f c h1 hc] at e; cases e) (a.h c o hc e), fun c e => b.k c (a.k c e), fun c h1 h2 => b.n c (a.k c h1) (a.n c h1 h2), fun c h1 h2 => by
  by_cases h3 : c ∈ ρ1
  · exact a.f c h3 h2
  · have := b.f c h1 h3
    cases e : H c with
    | none => rfl
    | some o => exact absurd this (a.k c (by rw [e]; simp))⟩
section
variable {K : PySem.W.Frag} {cl : Str → Addr}
theorem ObR.move {ρ ρ' : List Addr} {G H G' H' : Hp} {a : Addr} (hr : ρ <+: ρ') (g : Same G G') (ha : H' a = H a) (hd : ∀ dx, G dx = none → H dx = some (.own a) → H' dx = some (.own a) ∧ G' dx = none) : ∀ {o : Ob}, ObR K ρ cl G H a o → ObR K ρ' cl G' H' a o
 | .lst ds, ⟨vs, h1, h2⟩ => ⟨vs, by rw [ha]; exact h1, (h2.ext hr).same g⟩
 | .dK kvs, ⟨ws, h1, h2⟩ => ⟨ws, by rw [ha]; exact h1, h2.ext hr g⟩
 | .dT kvs, ⟨ws, h1, h2⟩ => ⟨ws, by rw [ha]; exact h1, h2.ext hr g⟩
 | .ins c fs, ⟨dx, ws, h1, h2, h3, h4⟩ => ⟨dx, ws, by rw [ha]; exact h1, (hd dx h2 h3).2, (hd dx h2 h3).1, h4.ext hr g⟩
theorem ObR.some {ρ : List Addr} {G H : Hp} {a : Addr} : ∀ {o : Ob}, ObR K ρ cl G H a o → ∃ x, H a = some x ∧ ∀ b, x ≠ .own b
 | .lst ds, ⟨vs, h1, h2⟩ => ⟨_, h1, fun b e => by cases e⟩
 | .dK kvs, ⟨ws, h1, h2⟩ => ⟨_, h1, fun b e => by cases e⟩
 | .dT kvs, ⟨ws, h1, h2⟩ => ⟨_, h1, fun b e => by cases e⟩
 | .ins c fs, ⟨dx, ws, h1, h2, h3, h4⟩ => ⟨_, h1, fun b e => by cases e⟩
theorem SR.grow {ρ : List Addr} {G H G' H' : Hp} {S : Sto} (s : SR K ρ cl G H S) (g : Gr G H G' H') : SR K ρ cl G' H' S :=
 ⟨s.len, s.nd, fun n o e => by
  obtain ⟨a, h1, h2, h3⟩ := s.ob n o e
  obtain ⟨x, hx, _⟩ := h3.some
  exact ⟨a, h1, g.n a (by rw [hx]; simp) h2, h3.move (List.prefix_refl _) g.g (by rw [hx]; exact g.h _ _ hx) fun dx e1 e2 => ⟨g.h _ _ e2, g.n dx (by rw [e2]; simp) e1⟩⟩⟩
theorem SR.addr {ρ : List Addr} {G H : Hp} {S : Sto} (s : SR K ρ cl G H S) {n : Nat} {o : Ob} {a : Addr} (e : S[n]? = some o) (ea : ρ[n]? = some a) : G a = none ∧ ObR K ρ cl G H a o := by
 obtain ⟨b, h1, h2, h3⟩ := s.ob n o e
 rw [ea] at h1
 cases h1
 exact ⟨h2, h3⟩
theorem nodup_inj {l : List Addr} (h : l.Nodup) {i j : Nat} {a : Addr} (h1 : l[i]? = some a) (h2 : l[j]? = some a) : i = j := by
 obtain ⟨hi, e1⟩ := List.getElem?_eq_some_iff.mp h1
 obtain ⟨hj, e2⟩ := List.getElem?_eq_some_iff.mp h2
 have hp := List.pairwise_iff_getElem.mp h
 rcases Nat.lt_trichotomy i j with c | c | c
 · exact absurd (e1.trans e2.symm) (hp i j hi hj c)
 · exact c
 · exact absurd (e2.trans e1.symm) (hp j i hj hi c)
theorem SR.put {ρ : List Addr} {G H : Hp} {S : Sto} {n : Nat} {o o' : Ob} {a : Addr} {x : HO} (s : SR K ρ cl G H S) (sg : Same G H) (e : S[n]? = some o) (ea : ρ[n]? = some a) (hx : ∀ b, x ≠ .own b) (ho : ObR K ρ cl G (upd H a x) a o') : SR K ρ cl G (upd H a x) (S.set n o') ∧ GS ρ G H ρ G (upd H a x) := by
 obtain ⟨ga, ob⟩ := s.addr e ea
 obtain ⟨y, hy, hno⟩ := ob.some
 have am : a ∈ ρ := List.mem_of_getElem? ea
 refine ⟨⟨by rw [List.length_set]; exact s.len, s.nd, fun m q em => ?_⟩, ⟨List.prefix_refl _, .refl _, fun b u eb => ?_, fun b u hb eb => ?_, fun b hb => ?_, fun _ _ e => e, fun b h1 h2 => absurd h1 h2⟩⟩
 · rcases zr3 em with ⟨rfl, rfl, _⟩ | ⟨ne, em⟩
   · exact ⟨a, ea, ga, ho⟩
   · obtain ⟨b, h1, h2, h3⟩ := s.ob m q em
     have hab : b ≠ a := fun z => ne (nodup_inj s.nd ea (z ▸ h1))
     exact ⟨b, h1, h2, h3.move (List.prefix_refl _) (.refl _) (zd9 hab) fun dx e1 e2 => ⟨by
      rw [zd9 (fun z => by rw [z, hy] at e2; cases e2; exact hno _ rfl)]
      exact e2, e1⟩⟩
 · rw [zd9 (fun z => by rw [z, ga] at eb; cases eb)]
   exact sg _ _ eb
 · rw [zd9 (fun z => hb (by rw [z]; exact am))]
   exact eb
 · by_cases z : b = a
   · subst z
     rw [zd1]
     simp
   · rw [zd9 z]
     exact hb
theorem SR.push {ρ : List Addr} {G H H' : Hp} {S : Sto} {p : Addr} {o : Ob} {x : HO} (s : SR K ρ cl G H S) (sg : Same G H) (n : Nw H H' p x) (ho : ∀ ρ', ρ <+: ρ' → ObR K ρ' cl G H' p o) : SR K (ρ ++ [p]) cl G H' (S ++ [o]) ∧ GS ρ G H (ρ ++ [p]) G H' := by
 have pm : p ∉ ρ := fun hp => by
  obtain ⟨i, hi, e⟩ := List.mem_iff_getElem.mp hp
  obtain ⟨b, h1, h2, h3⟩ := s.ob i (S[i]'(by rw [← s.len]; exact hi)) (List.getElem?_eq_getElem _)
  rw [List.getElem?_eq_getElem hi, e] at h1
  cases h1
  obtain ⟨y, hy, _⟩ := h3.some
  rw [n.2.1] at hy
  cases hy
 have pre : ρ <+: ρ ++ [p] := ⟨[p], rfl⟩
 refine ⟨⟨by simp [s.len], List.nodup_append.mpr ⟨s.nd, by simp, fun a ha b hb => by
  rw [List.mem_singleton.mp hb]
  exact fun z => pm (z ▸ ha)⟩, fun m q em => ?_⟩, ⟨pre, .refl _, sg.trans n.1, fun b u _ e => n.1 b u e, fun b e => yc6 n.1 e, fun _ _ e => e, fun a h1 h2 => ?_⟩⟩
 · rcases Nat.lt_or_ge m S.length with hm | hm
   · rw [List.getElem?_append_left hm] at em
     obtain ⟨b, h1, h2, h3⟩ := s.ob m q em
     obtain ⟨y, hy, _⟩ := h3.some
     exact ⟨b, by rw [List.getElem?_append_left (by rw [s.len]; exact hm)]; exact h1, h2, h3.move pre (.refl _) (by rw [hy]; exact n.1 _ _ hy) fun dx e1 e2 => ⟨n.1 _ _ e2, e1⟩⟩
   · rw [List.getElem?_append_right hm] at em
     have hz : m - S.length = 0 := by
      have := (List.getElem?_eq_some_iff.mp em).1
      simp at this
      omega
     rw [hz] at em
     cases em
     refine ⟨p, ?_, zq2 sg n.2.1, ho _ pre⟩
     rw [List.getElem?_append_right (by rw [s.len]; exact hm), s.len, hz]
     rfl
 · rcases List.mem_append.mp h1 with h | h
   · exact absurd h h2
   · rw [List.mem_singleton.mp h]
     exact n.2.1
inductive Rs (α : Type) where
 | ok (a : α)
 | xc (c : Str)
noncomputable abbrev SM (α : Type) := Option (Rs α × Sto)
noncomputable def sBind {α β : Type} (m : SM α) (k : α → Sto → SM β) : SM β := match m with
 | some (.ok a, S) => k a S
 | some (.xc c, S) => some (.xc c, S)
 | none => none
theorem zd0 {α β : Type} {m : SM α} {k : α → Sto → SM β} {r : Rs β} {S' : Sto} (h : sBind m k = some (r, S')) : (∃ c, m = some (.xc c, S') ∧ r = .xc c) ∨ ∃ a S1, m = some (.ok a, S1) ∧ k a S1 = some (r, S') := by
 unfold sBind at h
 split at h
 · exact .inr ⟨_, _, rfl, h⟩
 · cases h
   exact .inl ⟨_, rfl, rfl⟩
 · cases h
structure RS (K : PySem.W.Frag) (cl : Str → Addr) (ρ : List Addr) (G H : Hp) (δ : DS) (σ : St) (S : Sto) : Prop where
 rl : Rl K ρ G H δ σ
 st : SR K ρ cl G H S
 ap : ∀ (i : Nat) ds p, δ[i]? = some (.own ds) → σ[i]? = some (some (.ref p)) → p ∉ ρ
theorem SlOk.move {ρ ρ' : List Addr} {G H G' H' : Hp} (g : GS ρ G H ρ' G' H') : ∀ {s : Sl} {o : Option V}, (∀ ds p, s = .own ds → o = some (.ref p) → p ∉ ρ) → SlOk K ρ G H s o → SlOk K ρ' G' H' s o
 | .no, _, _, _ => trivial
 | .val d, o, _, ⟨v, e, h⟩ => ⟨v, e, (h.ext g.r).same g.g⟩
 | .own ds, o, ha, ⟨p, vs, e, h1, h2, h3⟩ => ⟨p, vs, e, g.n p (by rw [h2]; simp) h1, g.h _ _ (ha ds p rfl e) h2, (h3.ext g.r).same g.g⟩
theorem RS.grow {ρ ρ' : List Addr} {G H G' H' : Hp} {δ : DS} {σ : St} {S S' : Sto} (R : RS K cl ρ G H δ σ S) (g : GS ρ G H ρ' G' H') (s : SR K ρ' cl G' H' S') : RS K cl ρ' G' H' δ σ S' :=
 ⟨⟨g.s, R.rl.len, fun i sl e => by
  obtain ⟨o, h1, h2⟩ := R.rl.sl i sl e
  exact ⟨o, h1, h2.move g fun ds p e1 e2 => R.ap i ds p (e1 ▸ e) (e2 ▸ h1)⟩, R.rl.apart⟩, s, fun i ds p h1 h2 hp => by
  obtain ⟨o, k1, p', vs, rfl, k3, k4, k5⟩ := R.rl.sl i _ h1
  rw [h2] at k1
  cases k1
  rw [g.f p hp (R.ap i ds p h1 h2)] at k4
  cases k4⟩
noncomputable def SE (K : PySem.W.Frag) (cl : Str → Addr) (E : XK) (t : TE) (f : DS → Sto → SM W) : Prop :=
 ∀ (ρ : List Addr) (G : Hp) (σ : St) (H : Hp) (δ : DS) (S : Sto) (r : Rs W) (S' : Sto) (Q : VK), RS K cl ρ G H δ σ S → f δ S = some (r, S') →
  (∀ d, r = .ok d → ∀ v ρ' G' H', GS ρ G H ρ' G' H' → SR K ρ' cl G' H' S' → Dw K ρ' G' v d → Q v H') →
  (∀ c, r = .xc c → ∀ ρ' G' H', GS ρ G H ρ' G' H' → SR K ρ' cl G' H' S' → E (.ref (cl c)) none H') → t σ H Q
noncomputable def SA (K : PySem.W.Frag) (cl : Str → Addr) (E : XK) (t : TA) (f : DS → Sto → SM (List W)) : Prop :=
 ∀ (ρ : List Addr) (G : Hp) (σ : St) (H : Hp) (δ : DS) (S : Sto) (r : Rs (List W)) (S' : Sto) (Q : List V → Hp → Prop), RS K cl ρ G H δ σ S → f δ S = some (r, S') →
  (∀ ds, r = .ok ds → ∀ vs ρ' G' H', GS ρ G H ρ' G' H' → SR K ρ' cl G' H' S' → DwAll K ρ' G' vs ds → Q vs H') →
  (∀ c, r = .xc c → ∀ ρ' G' H', GS ρ G H ρ' G' H' → SR K ρ' cl G' H' S' → E (.ref (cl c)) none H') → t σ H Q
noncomputable def ST (K : PySem.W.Frag) (cl : Str → Addr) (E : XK) (t : TT) (f : DS → Sto → SM Bool) : Prop :=
 ∀ (ρ : List Addr) (G : Hp) (σ : St) (H : Hp) (δ : DS) (S : Sto) (r : Rs Bool) (S' : Sto) (Q : Bool → Hp → Prop), RS K cl ρ G H δ σ S → f δ S = some (r, S') →
  (∀ b, r = .ok b → ∀ ρ' G' H', GS ρ G H ρ' G' H' → SR K ρ' cl G' H' S' → Q b H') →
  (∀ c, r = .xc c → ∀ ρ' G' H', GS ρ G H ρ' G' H' → SR K ρ' cl G' H' S' → E (.ref (cl c)) none H') → t σ H Q
variable {E : XK}
noncomputable def sPure {α : Type} (f : DS → Option α) : DS → Sto → SM α := fun δ S => (f δ).map fun d => (.ok d, S)
theorem zt9 {α : Type} {f : DS → Option α} {δ : DS} {S S' : Sto} {r : Rs α} (h : sPure f δ S = some (r, S')) : ∃ d, f δ = some d ∧ r = .ok d ∧ S' = S := by
 obtain ⟨d, e1, e2⟩ := Option.map_eq_some_iff.mp h
 cases e2
 exact ⟨d, e1, rfl, rfl⟩
theorem za4 {t : TE} {f : DS → Option W} (h : ∀ ρ, DE K ρ t f) : SE K cl E t (sPure f) := fun ρ G σ H δ S r S' Q R e q _ => by
 obtain ⟨d, e1, rfl, rfl⟩ := zt9 e
 exact h ρ G σ H δ d Q R.rl e1 fun v G' H' g dv => q d rfl v ρ G' H' (.of g) (R.st.grow g) dv
theorem zd8 {t : TA} {f : DS → Option (List W)} (h : ∀ ρ, DA K ρ t f) : SA K cl E t (sPure f) := fun ρ G σ H δ S r S' Q R e q _ => by
 obtain ⟨d, e1, rfl, rfl⟩ := zt9 e
 exact h ρ G σ H δ d Q R.rl e1 fun v G' H' g dv => q d rfl v ρ G' H' (.of g) (R.st.grow g) dv
theorem zh1 {t : TT} {f : DS → Option Bool} (h : ∀ ρ, DT K ρ t f) : ST K cl E t (sPure f) := fun ρ G σ H δ S r S' Q R e q _ => by
 obtain ⟨d, e1, rfl, rfl⟩ := zt9 e
 exact h ρ G σ H δ d Q R.rl e1 fun G' H' g => q d rfl ρ G' H' (.of g) (R.st.grow g)
noncomputable def sNil : DS → Sto → SM (List W) := fun _ S => some (.ok [], S)
noncomputable def sCons (f : DS → Sto → SM W) (g : DS → Sto → SM (List W)) : DS → Sto → SM (List W) := fun δ S => sBind (f δ S) fun d S1 => sBind (g δ S1) fun ds S2 => some (.ok (d :: ds), S2)
theorem zm1 : SA K cl E tNil sNil := fun ρ G σ H δ S r S' Q R e q _ => by
 cases e
 exact q [] rfl [] ρ G H (.refl R.rl.sub) R.st .nil
theorem zb8 {t : TE} {u : TA} {f : DS → Sto → SM W} {g : DS → Sto → SM (List W)} (h1 : SE K cl E t f) (h2 : SA K cl E u g) : SA K cl E (tCons t u) (sCons f g) := fun ρ G σ H δ S r S' Q R e q qx => by
 rcases zd0 e with ⟨c, em, rfl⟩ | ⟨d, S1, em, e⟩
 · exact h1 ρ G σ H δ S _ _ _ R em (fun d hd => by cases hd) (fun c' hc => by cases hc; exact qx c rfl)
 · refine h1 ρ G σ H δ S _ _ _ R em (fun d' hd => ?_) (fun c' hc => by cases hc)
   cases hd
   intro v ρ1 G1 H1 g1 s1 dv
   have R1 := R.grow g1 s1
   rcases zd0 e with ⟨c, em, rfl⟩ | ⟨ds, S2, em, e⟩
   · exact h2 ρ1 G1 σ H1 δ S1 _ _ _ R1 em (fun d hd => by cases hd) (fun c' hc => by cases hc; exact fun ρ2 G2 H2 g2 s2 => qx c rfl ρ2 G2 H2 (g1.trans g2) s2)
   · refine h2 ρ1 G1 σ H1 δ S1 _ _ _ R1 em (fun d' hd => ?_) (fun c' hc => by cases hc)
     cases hd
     cases e
     intro vs ρ2 G2 H2 g2 s2 da
     exact q _ rfl _ ρ2 G2 H2 (g1.trans g2) s2 (.cons ((dv.ext g2.r).same g2.g) da)
end
end L2
set_option Elab.async false
set_option linter.all false
set_option maxRecDepth 100000
namespace L2
open PySem PySem.Spec PyProof.Rows
section
variable {K : PySem.W.Frag} {cl : Str → Addr} {E : XK}
theorem zs8 {α : Type} {t : TE} {f : DS → Sto → SM W} (h : SE K cl E t f) {ρ : List Addr} {G : Hp} {σ : St} {H : Hp} {δ : DS} {S : Sto} {r : Rs α} {S' : Sto} {k : W → Sto → SM α} {P : V → Hp → Prop} (R : RS K cl ρ G H δ σ S) (e : sBind (f δ S) k = some (r, S'))
 (q : ∀ d S1, k d S1 = some (r, S') → ∀ v ρ' G' H', GS ρ G H ρ' G' H' → SR K ρ' cl G' H' S1 → Dw K ρ' G' v d → P v H')
 (qx : ∀ c, r = .xc c → ∀ ρ' G' H', GS ρ G H ρ' G' H' → SR K ρ' cl G' H' S' → E (.ref (cl c)) none H') : t σ H P := by
 rcases zd0 e with ⟨c, em, rfl⟩ | ⟨d, S1, em, e⟩
 · exact h ρ G σ H δ S _ _ _ R em (fun d hd => by cases hd) (fun c' hc => by cases hc; exact qx c rfl)
 · exact h ρ G σ H δ S _ _ _ R em (fun d' hd => by cases hd; exact q _ _ e) (fun c' hc => by cases hc)
theorem zw1 {α : Type} {t : TA} {f : DS → Sto → SM (List W)} (h : SA K cl E t f) {ρ : List Addr} {G : Hp} {σ : St} {H : Hp} {δ : DS} {S : Sto} {r : Rs α} {S' : Sto} {k : List W → Sto → SM α} {P : List V → Hp → Prop} (R : RS K cl ρ G H δ σ S) (e : sBind (f δ S) k = some (r, S'))
 (q : ∀ d S1, k d S1 = some (r, S') → ∀ v ρ' G' H', GS ρ G H ρ' G' H' → SR K ρ' cl G' H' S1 → DwAll K ρ' G' v d → P v H')
 (qx : ∀ c, r = .xc c → ∀ ρ' G' H', GS ρ G H ρ' G' H' → SR K ρ' cl G' H' S' → E (.ref (cl c)) none H') : t σ H P := by
 rcases zd0 e with ⟨c, em, rfl⟩ | ⟨d, S1, em, e⟩
 · exact h ρ G σ H δ S _ _ _ R em (fun d hd => by cases hd) (fun c' hc => by cases hc; exact qx c rfl)
 · exact h ρ G σ H δ S _ _ _ R em (fun d' hd => by cases hd; exact q _ _ e) (fun c' hc => by cases hc)
theorem st_one {α : Type} {t : TT} {f : DS → Sto → SM Bool} (h : ST K cl E t f) {ρ : List Addr} {G : Hp} {σ : St} {H : Hp} {δ : DS} {S : Sto} {r : Rs α} {S' : Sto} {k : Bool → Sto → SM α} {P : Bool → Hp → Prop} (R : RS K cl ρ G H δ σ S) (e : sBind (f δ S) k = some (r, S'))
 (q : ∀ d S1, k d S1 = some (r, S') → ∀ ρ' G' H', GS ρ G H ρ' G' H' → SR K ρ' cl G' H' S1 → P d H')
 (qx : ∀ c, r = .xc c → ∀ ρ' G' H', GS ρ G H ρ' G' H' → SR K ρ' cl G' H' S' → E (.ref (cl c)) none H') : t σ H P := by
 rcases zd0 e with ⟨c, em, rfl⟩ | ⟨d, S1, em, e⟩
 · exact h ρ G σ H δ S _ _ _ R em (fun d hd => by cases hd) (fun c' hc => by cases hc; exact qx c rfl)
 · exact h ρ G σ H δ S _ _ _ R em (fun d' hd => by cases hd; exact q _ _ e) (fun c' hc => by cases hc)
theorem zz6 {α : Type} {ta tb : TE} {fa fb : DS → Sto → SM W} (ha : SE K cl E ta fa) (hb : SE K cl E tb fb) {ρ : List Addr} {G : Hp} {σ : St} {H : Hp} {δ : DS} {S : Sto} {r : Rs α} {S' : Sto} {k : W → W → Sto → SM α} {P : V → V → Hp → Prop} (R : RS K cl ρ G H δ σ S)
 (e : sBind (fa δ S) (fun x S1 => sBind (fb δ S1) fun y S2 => k x y S2) = some (r, S'))
 (q : ∀ x y S2, k x y S2 = some (r, S') → ∀ v u ρ' G' H', GS ρ G H ρ' G' H' → SR K ρ' cl G' H' S2 → Dw K ρ' G' v x → Dw K ρ' G' u y → P v u H')
 (qx : ∀ c, r = .xc c → ∀ ρ' G' H', GS ρ G H ρ' G' H' → SR K ρ' cl G' H' S' → E (.ref (cl c)) none H') : ta σ H fun v H1 => tb σ H1 fun u H2 => P v u H2 :=
 zs8 ha R e (fun x S1 e1 v ρ1 G1 H1 g1 s1 dv => zs8 hb (R.grow g1 s1) e1 (fun y S2 e2 u ρ2 G2 H2 g2 s2 du => q x y S2 e2 v u ρ2 G2 H2 (g1.trans g2) s2 ((dv.ext g2.r).same g2.g) du) fun c hc ρ2 G2 H2 g2 s2 => qx c hc ρ2 G2 H2 (g1.trans g2) s2) qx
noncomputable def sOk {α : Type} (x : Option α) (S : Sto) : SM α := x.map fun d => (.ok d, S)
theorem zk1 {α : Type} {x : Option α} {S S' : Sto} {r : Rs α} (h : sOk x S = some (r, S')) : ∃ d, x = some d ∧ r = .ok d ∧ S' = S := by
 obtain ⟨d, e1, e2⟩ := Option.map_eq_some_iff.mp h
 cases e2
 exact ⟨d, e1, rfl, rfl⟩
noncomputable def sOp (g : W → W → Option W) (fa fb : DS → Sto → SM W) : DS → Sto → SM W := fun δ S => sBind (fa δ S) fun x S1 => sBind (fb δ S1) fun y S2 => sOk (g x y) S2
theorem se_op {r : R2} {ta tb : TE} {fa fb : DS → Sto → SM W} {g : W → W → Option W} (hr : ∀ ρ, DR K ρ r g) (ha : SE K cl E ta fa) (hb : SE K cl E tb fb) : SE K cl E (tOp r ta tb) (sOp g fa fb) := fun ρ G σ H δ S r' S' Q R e q qx =>
 zz6 ha hb R e (fun x y S2 e2 v u ρ2 G2 H2 g2 s2 dv du => by
  obtain ⟨c, e3, rfl, rfl⟩ := zk1 e2
  exact hr ρ2 G2 H2 v u x y c Q g2.s (.inl dv) du e3 fun w G3 H3 g3 dw => q c rfl w ρ2 G3 H3 (g2.trans (.of g3)) (s2.grow g3) dw) qx
noncomputable def sCmp (g : W → W → Option Bool) (fa fb : DS → Sto → SM W) : DS → Sto → SM Bool := fun δ S => sBind (fa δ S) fun x S1 => sBind (fb δ S1) fun y S2 => sOk (g x y) S2
noncomputable def sB (f : DS → Sto → SM Bool) : DS → Sto → SM W := fun δ S => sBind (f δ S) fun b S1 => some (.ok (.bool b), S1)
noncomputable def sAnd (f g : DS → Sto → SM Bool) : DS → Sto → SM Bool := fun δ S => sBind (f δ S) fun b S1 => if b = true then g δ S1 else some (.ok false, S1)
noncomputable def sOr (f g : DS → Sto → SM Bool) : DS → Sto → SM Bool := fun δ S => sBind (f δ S) fun b S1 => if b = true then some (.ok true, S1) else g δ S1
noncomputable def sNot (f : DS → Sto → SM Bool) : DS → Sto → SM Bool := fun δ S => sBind (f δ S) fun b S1 => some (.ok (!b), S1)
theorem st_and {t u : TT} {f g : DS → Sto → SM Bool} (h1 : ST K cl E t f) (h2 : ST K cl E u g) : ST K cl E (tAnd t u) (sAnd f g) := fun ρ G σ H δ S r S' Q R e q qx =>
 st_one h1 R e (fun b S1 e1 ρ1 G1 H1 g1 s1 => by
  cases b with
  | true => exact h2 ρ1 G1 σ H1 δ S1 r S' Q (R.grow g1 s1) e1 (fun b hb ρ2 G2 H2 g2 s2 => q b hb ρ2 G2 H2 (g1.trans g2) s2) fun c hc ρ2 G2 H2 g2 s2 => qx c hc ρ2 G2 H2 (g1.trans g2) s2
  | false => cases e1; exact q false rfl ρ1 G1 H1 g1 s1) qx
noncomputable def sTup (f : DS → Sto → SM (List W)) : DS → Sto → SM W := fun δ S => sBind (f δ S) fun ds S1 => if ds.length ≤ sizeLine then some (.ok (.tuple ds), S1) else none
theorem zt2 {t : TA} {f : DS → Sto → SM (List W)} (h : SA K cl E t f) : SE K cl E (tTupN t) (sTup f) := fun ρ G σ H δ S r S' Q R e q qx =>
 zw1 h R e (fun ds S1 e1 vs ρ1 G1 H1 g1 s1 da => by
  split at e1
  · rename_i hz
    cases e1
    refine ⟨by rw [da.length]; exact hz, fun p H' n => ?_⟩
    have g2 := Gr.nw g1.s n
    exact q _ rfl _ ρ1 _ H' (g1.trans (.of g2)) (s1.grow g2) (.tup zd1 (da.same g2.g))
  · cases e1) qx
noncomputable def sLst (f : DS → Sto → SM (List W)) : DS → Sto → SM W := fun δ S => sBind (f δ S) fun ds S1 => if ds.length ≤ sizeLine then some (.ok (.list ds), S1) else none
theorem se_lst {t : TA} {f : DS → Sto → SM (List W)} (h : SA K cl E t f) : SE K cl E (tLstN t) (sLst f) := fun ρ G σ H δ S r S' Q R e q qx =>
 zw1 h R e (fun ds S1 e1 vs ρ1 G1 H1 g1 s1 da => by
  split at e1
  · rename_i hz
    cases e1
    refine ⟨by rw [da.length]; exact hz, fun p H' n => ?_⟩
    have g2 := Gr.nw g1.s n
    exact q _ rfl _ ρ1 _ H' (g1.trans (.of g2)) (s1.grow g2) (.lst (SqL.of zd1) (da.same g2.g))
  · cases e1) qx
noncomputable def sLstS (f : DS → Sto → SM (List W)) : DS → Sto → SM W := fun δ S => sBind (f δ S) fun ds S1 => if ds.length ≤ sizeLine then some (.ok (.ref S1.length), S1 ++ [.lst ds]) else none
theorem yf9 {t : TA} {f : DS → Sto → SM (List W)} (h : SA K cl E t f) : SE K cl E (tLstN t) (sLstS f) := fun ρ G σ H δ S r S' Q R e q qx =>
 zw1 h R e (fun ds S1 e1 vs ρ1 G1 H1 g1 s1 da => by
  split at e1
  · rename_i hz
    cases e1
    refine ⟨by rw [da.length]; exact hz, fun p H' n => ?_⟩
    obtain ⟨s2, g2⟩ := s1.push (o := .lst ds) g1.s n fun ρ' hr => ⟨vs, n.2.2, da.ext hr⟩
    exact q _ rfl _ _ _ H' (g1.trans g2) s2 (.ref (by rw [← s1.len]; simp))
  · cases e1) qx
noncomputable def sDK : DS → Sto → SM W := fun _ S => some (.ok (.ref S.length), S ++ [.dK []])
noncomputable def sDT : DS → Sto → SM W := fun _ S => some (.ok (.ref S.length), S ++ [.dT []])
theorem se_dK : SE K cl E tDNewK sDK := fun ρ G σ H δ S r S' Q R e q qx => by
 cases e
 intro p hp
 obtain ⟨s2, g2⟩ := R.st.push (o := .dK []) R.rl.sub (Nw.of (o := .dK []) hp) fun ρ' hr => ⟨[], zd1, .nil⟩
 exact q _ rfl _ _ _ _ g2 s2 (.ref (by rw [← R.st.len]; simp))
theorem se_dT : SE K cl E tDNewT sDT := fun ρ G σ H δ S r S' Q R e q qx => by
 cases e
 intro p hp
 obtain ⟨s2, g2⟩ := R.st.push (o := .dT []) R.rl.sub (Nw.of (o := .dT []) hp) fun ρ' hr => ⟨[], zd1, .nil⟩
 exact q _ rfl _ _ _ _ g2 s2 (.ref (by rw [← R.st.len]; simp))
noncomputable def obAt (x : W) (S : Sto) : Option (Nat × Ob) := match x with
 | .ref n => (S[n]?).map fun o => (n, o)
 | _ => none
theorem zp8 {x : W} {S : Sto} {n : Nat} {o : Ob} (h : obAt x S = some (n, o)) : x = .ref n ∧ S[n]? = some o := by
 unfold obAt at h
 split at h
 · obtain ⟨o', e1, e2⟩ := Option.map_eq_some_iff.mp h
   cases e2
   exact ⟨rfl, e1⟩
 · cases h
noncomputable def insAt (c : Str) (x : W) (S : Sto) : Option (Nat × List (Str × W)) := match obAt x S with
 | some (n, .ins c' fs) => if c' = c then some (n, fs) else none
 | _ => none
theorem zx1 {c : Str} {x : W} {S : Sto} {n : Nat} {fs : List (Str × W)} (h : insAt c x S = some (n, fs)) : x = .ref n ∧ S[n]? = some (.ins c fs) := by
 unfold insAt at h
 split at h
 · rename_i n' c' fs' e
   split at h
   · rename_i hc
     subst hc
     cases h
     exact zp8 e
   · cases h
 · cases h
noncomputable def sFldR (c f : Str) (fa : DS → Sto → SM W) : DS → Sto → SM W := fun δ S => sBind (fa δ S) fun x S1 => (insAt c x S1).bind fun p => sOk (p.2.lookup f) S1
theorem zq3 {ρ : List Addr} {G : Hp} {v : V} {n : Nat} (h : Dw K ρ G v (.ref n)) : ∃ a, v = .ref a ∧ ρ[n]? = some a := by
 cases h with
 | ref e => exact ⟨_, rfl, e⟩
theorem zt3 {c f : Str} {ta : TE} {fa : DS → Sto → SM W} (hc : Cls K (cl c)) (hn : NoAttr K (cl c) f) (ha : SE K cl E ta fa) : SE K cl E (tFld K ta f) (sFldR c f fa) := fun ρ G σ H δ S r S' Q R e q qx =>
 zs8 ha R e (fun x S1 e1 v ρ1 G1 H1 g1 s1 dv => by
  obtain ⟨⟨n, fs⟩, e2, e3⟩ := Option.bind_eq_some_iff.mp e1
  obtain ⟨d, e4, rfl, rfl⟩ := zk1 e3
  obtain ⟨rfl, e5⟩ := zx1 e2
  obtain ⟨a, rfl, ea⟩ := zq3 dv
  obtain ⟨ga, dx, ws, k1, k2, k3, k4⟩ := s1.addr e5 ea
  obtain ⟨u, k5, k6⟩ := k4.lookup e4
  exact ⟨a, _, dx, ws, u, rfl, k1, hc, hn, k5, q d rfl u ρ1 G1 H1 g1 s1 k6⟩) qx
noncomputable def spX (K : PySem.W.Frag) (cl : Str → Addr) (f : List W → Sto → SM W) : Sp := fun vs H Q E => ∃ ρ G S ds r S', Same G H ∧ SR K ρ cl G H S ∧ DwAll K ρ G vs ds ∧ f ds S = some (r, S') ∧
 (∀ d, r = .ok d → ∀ v ρ' G' H', GS ρ G H ρ' G' H' → SR K ρ' cl G' H' S' → Dw K ρ' G' v d → Q v H') ∧ (∀ c, r = .xc c → ∀ ρ' G' H', GS ρ G H ρ' G' H' → SR K ρ' cl G' H' S' → E (.ref (cl c)) none H')
noncomputable def sCallD (f : List W → Option W) (fa : DS → Sto → SM (List W)) : DS → Sto → SM W := fun δ S => sBind (fa δ S) fun ds S1 => sOk (f ds) S1
theorem se_callD {f : List W → Option W} {t : TA} {fa : DS → Sto → SM (List W)} {E' : XK} (h : SA K cl E t fa) : SE K cl E (tCall (spD K f) [] E' t) (sCallD f fa) := fun ρ G σ H δ S r S' Q R e q qx =>
 zw1 h R e (fun ds S1 e1 vs ρ1 G1 H1 g1 s1 da => by
  obtain ⟨d, e2, rfl, rfl⟩ := zk1 e1
  exact ⟨ρ1, G1, ds, d, g1.s, by rw [List.append_nil]; exact da, e2, fun v G2 H2 g2 dv => q d rfl v ρ1 G2 H2 (g1.trans (.of g2)) (s1.grow g2) dv⟩) qx
noncomputable def sp0 (K : PySem.W.Frag) (cl : Str → Addr) (f : List W → Sto → SM W) : Sp := fun vs H Q _ => ∃ ρ G S ds d S', Same G H ∧ SR K ρ cl G H S ∧ DwAll K ρ G vs ds ∧ f ds S = some (.ok d, S') ∧
 ∀ v ρ' G' H', GS ρ G H ρ' G' H' → SR K ρ' cl G' H' S' → Dw K ρ' G' v d → Q v H'
noncomputable def noX (m : SM W) : SM W := match m with
 | some (.ok d, S) => some (.ok d, S)
 | _ => none
theorem zy7 {m : SM W} {r : Rs W} {S' : Sto} (h : noX m = some (r, S')) : ∃ d, r = .ok d ∧ m = some (.ok d, S') := by
 unfold noX at h
 split at h
 · cases h; exact ⟨_, rfl, rfl⟩
 · cases h
noncomputable def sCall (f : List W → Sto → SM W) (fa : DS → Sto → SM (List W)) : DS → Sto → SM W := fun δ S => sBind (fa δ S) fun ds S1 => noX (f ds S1)
theorem zk9 {f : List W → Sto → SM W} {t : TA} {fa : DS → Sto → SM (List W)} {E' : XK} (h : SA K cl E t fa) : SE K cl E (tCall (sp0 K cl f) [] E' t) (sCall f fa) := fun ρ G σ H δ S r S' Q R e q qx =>
 zw1 h R e (fun ds S1 e1 vs ρ1 G1 H1 g1 s1 da => by
  obtain ⟨d, rfl, e2⟩ := zy7 e1
  exact ⟨ρ1, G1, S1, ds, d, S', g1.s, s1, by rw [List.append_nil]; exact da, e2, fun v ρ2 G2 H2 g2 s2 dv => q d rfl v ρ2 G2 H2 (g1.trans g2) s2 dv⟩) qx
noncomputable def sMeth (c m : Str) (f : List W → Sto → SM W) (fo : DS → Sto → SM W) (fa : DS → Sto → SM (List W)) : DS → Sto → SM W := fun δ S => sBind (fo δ S) fun x S1 => (insAt c x S1).bind fun p => if p.2.lookup m = none then sBind (fa δ S1) fun ds S2 => noX (f (x :: ds) S2) else none
theorem zi1 {c m : Str} {f : List W → Sto → SM W} {to : TE} {t : TA} {fo : DS → Sto → SM W} {fa : DS → Sto → SM (List W)} {E' : XK} (ho : SE K cl E to fo) (h : SA K cl E t fa) : SE K cl E (tMeth (cl c) m (sp0 K cl f) [] E' to t) (sMeth c m f fo fa) := fun ρ G σ H δ S r S' Q R e q qx =>
 zs8 ho R e (fun x S1 e1 v ρ1 G1 H1 g1 s1 dv => by
  obtain ⟨⟨n, fs⟩, e2, e3⟩ := Option.bind_eq_some_iff.mp e1
  split at e3
  case isFalse => cases e3
  rename_i hm
  obtain ⟨rfl, e5⟩ := zx1 e2
  obtain ⟨a, rfl, ea⟩ := zq3 dv
  obtain ⟨ga, dx, ws, k1, k2, k3, k4⟩ := s1.addr e5 ea
  refine ⟨a, dx, ws, rfl, k1, k4.lookup_none hm, ?_⟩
  exact zw1 h (R.grow g1 s1) e3 (fun ds S2 e6 vs ρ2 G2 H2 g2 s2 da => by
   obtain ⟨d, rfl, e7⟩ := zy7 e6
   exact ⟨ρ2, G2, S2, .ref n :: ds, d, S', g2.s, s2, by rw [List.append_nil]; exact .cons ((dv.ext g2.r).same g2.g) da, e7, fun v ρ3 G3 H3 g3 s3 dv => q d rfl v ρ3 G3 H3 (g1.trans (g2.trans g3)) s3 dv⟩) fun c hc ρ2 G2 H2 g2 s2 => qx c hc ρ2 G2 H2 (g1.trans g2) s2) qx
noncomputable def sMake (c : Str) (f : List W → Sto → SM W) (fa : DS → Sto → SM (List W)) : DS → Sto → SM W := fun δ S => sBind (fa δ S) fun ds S1 => sBind (noX (f (.ref S1.length :: ds) (S1 ++ [.ins c []]))) fun d S2 => match d with
 | .none => some (.ok (.ref S1.length), S2)
 | _ => none
theorem se_make {c : Str} {f : List W → Sto → SM W} {t : TA} {fa : DS → Sto → SM (List W)} {E' : XK} (h : SA K cl E t fa) : SE K cl E (tMake (cl c) (sp0 K cl f) [] E' t) (sMake c f fa) := fun ρ G σ H δ S r S' Q R e q qx =>
 zw1 h R e (fun ds S1 e1 vs ρ1 G1 H1 g1 s1 da => by
  intro x dx hx hdx hne
  have na : Nw H1 (upd H1 dx (.own x)) dx (.own x) := .of hdx
  have gA : Gr G1 H1 G1 (upd H1 dx (.own x)) := .nwO g1.s na
  have hx' : (upd H1 dx (.own x)) x = none := by rw [zd9 (Ne.symm hne)]; exact hx
  have nb : Nw (upd H1 dx (.own x)) (upd (upd H1 dx (.own x)) x (.ins (cl c) dx [])) x (.ins (cl c) dx []) := .of hx'
  obtain ⟨s2, g2⟩ := (s1.grow gA).push (o := .ins c []) gA.s nb fun ρ' hr => ⟨dx, [], zd1, zq2 g1.s hdx, by rw [zd9 hne]; exact zd1, .nil⟩
  have g12 := (GS.of (ρ := ρ1) gA).trans g2
  have dx1 : DwAll K (ρ1 ++ [x]) G1 (.ref x :: vs) (.ref S1.length :: ds) := .cons (.ref (by rw [← s1.len]; simp)) (da.ext ⟨[x], rfl⟩)
  rcases zd0 e1 with ⟨c', em, rfl⟩ | ⟨d, S2, em, e2⟩
  · obtain ⟨_, z, _⟩ := zy7 em
    cases z
  · obtain ⟨d', z, em⟩ := zy7 em
    cases z
    refine ⟨_, G1, _, _, _, _, g2.s, s2, by rw [List.append_nil]; exact dx1, em, fun v ρ3 G3 H3 g3 s3 dv => ?_⟩
    split at e2
    · cases e2
      exact ⟨yj2 dv, q _ rfl _ ρ3 G3 H3 (g1.trans (g12.trans g3)) s3 (.ref (by
       have h1 : (ρ1 ++ [x])[S1.length]? = some x := by rw [← s1.len]; simp
       obtain ⟨t', ht⟩ := g3.r
       rw [← ht, List.getElem?_append_left (List.getElem?_eq_some_iff.mp h1).1]
       exact h1))⟩
    · cases e2) qx
noncomputable def SIp (K : PySem.W.Frag) (cl : Str → Addr) (E : XK) (wi : TI) (f : DS → Sto → SM (List W)) : Prop :=
 ∀ (ρ : List Addr) (G : Hp) (σ : St) (H : Hp) (δ : DS) (S : Sto) (r : Rs (List W)) (S' : Sto) (R' : It → Hp → Prop), RS K cl ρ G H δ σ S → f δ S = some (r, S') →
  (∀ ds, r = .ok ds → ∀ J ρ' G' H', GS ρ G H ρ' G' H' → SR K ρ' cl G' H' S' → ItF K ρ' J G' ds → R' J H') →
  (∀ c, r = .xc c → ∀ ρ' G' H', GS ρ G H ρ' G' H' → SR K ρ' cl G' H' S' → E (.ref (cl c)) none H') → wi σ H R'
theorem zr0 {wi : TI} {f : DS → Option (List W)} (h : ∀ ρ, DI K ρ wi f) : SIp K cl E wi (sPure f) := fun ρ G σ H δ S r S' R' R e q qx => by
 obtain ⟨ds, e1, rfl, rfl⟩ := zt9 e
 exact h ρ G σ H δ ds R' R.rl e1 fun J G' H' g it => q ds rfl J ρ G' H' (.of g) (R.st.grow g) it
noncomputable def yg8 (f : DS → Sto → SM (List W)) : DS → Sto → SM (List W) := fun δ S => sBind (f δ S) fun ds S1 => sOk (rng1L ds) S1
theorem sip_rng1 {t : TA} {f : DS → Sto → SM (List W)} (h : SA K cl E t f) : SIp K cl E (iRng1 t) (yg8 f) := fun ρ G σ H δ S r S' R' R e q qx =>
 zw1 h R e (fun es S1 e1 vs ρ1 G1 H1 g1 s1 da => by
  obtain ⟨ds, e2, rfl, rfl⟩ := zk1 e1
  unfold rng1L at e2
  split at e2
  · obtain ⟨hc, rfl⟩ := rng1_ok e2
    obtain ⟨v, rfl, dv⟩ := yh3 da
    cases zp7 dv
    exact ⟨_, rfl, hc.1, hc.2, q _ rfl _ ρ1 G1 H1 g1 s1 itr_ok⟩
  · cases e2) qx
end
end L2
set_option Elab.async false
set_option linter.all false
set_option maxRecDepth 100000
namespace L2
open PySem PySem.Spec PyProof.Rows
inductive OutS where
 | nx (δ : DS)
 | bk (δ : DS)
 | ct (δ : DS)
 | rt (d : W)
 | xc (c : Str)
noncomputable abbrev SO := Option (OutS × Sto)
section
variable {K : PySem.W.Frag} {cl : Str → Addr} {E : XK}
structure IvS (K : PySem.W.Frag) (cl : Str → Addr) (ρ0 : List Addr) (G0 H0 : Hp) (ρ : List Addr) (G H : Hp) (δ : DS) (σ : St) (S : Sto) : Prop where
 rs : RS K cl ρ G H δ σ S
 gs : GS ρ0 G0 H0 ρ G H
 ow : ∀ (i : Nat) p ds, δ[i]? = some (.own ds) → σ[i]? = some (some (.ref p)) → H0 p = none
noncomputable def PstS (K : PySem.W.Frag) (cl : Str → Addr) (E : XK) (ρ0 : List Addr) (G0 H0 : Hp) (D : Ends) (S : Sto) : OutS → Prop
 | .nx δ => ∀ σ ρ G H, IvS K cl ρ0 G0 H0 ρ G H δ σ S → D.nx σ H
 | .bk δ => ∀ σ ρ G H, IvS K cl ρ0 G0 H0 ρ G H δ σ S → D.bk σ H
 | .ct δ => ∀ σ ρ G H, IvS K cl ρ0 G0 H0 ρ G H δ σ S → D.ct σ H
 | .rt d => ∀ v ρ G H, GS ρ0 G0 H0 ρ G H → SR K ρ cl G H S → Dw K ρ G v d → D.rt v H
 | .xc c => ∀ ρ G H, GS ρ0 G0 H0 ρ G H → SR K ρ cl G H S → E (.ref (cl c)) none H
noncomputable def SSt (K : PySem.W.Frag) (cl : Str → Addr) (E : XK) (t : TS) (f : DS → Sto → SO) : Prop :=
 ∀ (ρ0 : List Addr) (G0 H0 : Hp) (ρ : List Addr) (G : Hp) (σ : St) (H : Hp) (δ : DS) (S : Sto) (o : OutS) (S' : Sto) (D : Ends), IvS K cl ρ0 G0 H0 ρ G H δ σ S → f δ S = some (o, S') → PstS K cl E ρ0 G0 H0 D S' o → t D σ H
theorem IvS.grow {ρ0 : List Addr} {G0 H0 : Hp} {ρ ρ' : List Addr} {G H G' H' : Hp} {δ : DS} {σ : St} {S S' : Sto} (I : IvS K cl ρ0 G0 H0 ρ G H δ σ S) (g : GS ρ G H ρ' G' H') (s : SR K ρ' cl G' H' S') : IvS K cl ρ0 G0 H0 ρ' G' H' δ σ S' := ⟨I.rs.grow g s, I.gs.trans g, I.ow⟩
theorem IvS.sub {ρ0 : List Addr} {G0 H0 : Hp} {ρ : List Addr} {G H : Hp} {δ δ' : DS} {σ σ' : St} {S : Sto} (I : IvS K cl ρ0 G0 H0 ρ G H δ σ S) (R : Rl K ρ G H δ' σ') (o : OwnSub δ' σ' δ σ) : IvS K cl ρ0 G0 H0 ρ G H δ' σ' S :=
 ⟨⟨R, I.rs.st, fun i ds p h1 h2 => by
  obtain ⟨es, h3, h4⟩ := o i ds p h1 h2
  exact I.rs.ap i es p h3 h4⟩, I.gs, fun i p ds h1 h2 => by
  obtain ⟨es, h3, h4⟩ := o i ds p h1 h2
  exact I.ow i p es h3 h4⟩
theorem IvS.base {ρ0 : List Addr} {G0 H0 : Hp} {ρ : List Addr} {G H : Hp} {δ : DS} {σ : St} {S : Sto} (I : IvS K cl ρ0 G0 H0 ρ G H δ σ S) : IvS K cl ρ G H0 ρ G H δ σ S :=
 ⟨I.rs, ⟨List.prefix_refl _, .refl _, I.gs.s, fun b o hb e => I.gs.h b o (fun h => hb (I.gs.r.subset h)) e, I.gs.k, fun _ _ e => e, fun a h1 h2 => absurd h1 h2⟩, I.ow⟩
theorem GS.rebase {ρ0 : List Addr} {G0 H0 : Hp} {ρ : List Addr} {G H : Hp} {ρ' : List Addr} {G' H' : Hp} (a : GS ρ0 G0 H0 ρ G H) (b : GS ρ G H0 ρ' G' H') : GS ρ0 G0 H0 ρ' G' H' :=
 ⟨a.r.trans b.r, a.g.trans b.g, b.s, fun c o hc e => b.h c o (fun h => by rw [a.f c h hc] at e; cases e) e, b.k, fun c h1 h2 => b.n c h1 (a.n c h1 h2), fun c h1 h2 => by
  by_cases h3 : c ∈ ρ
  · exact a.f c h3 h2
  · exact b.f c h1 h3⟩
theorem IvS.rebase {ρ0 : List Addr} {G0 H0 : Hp} {ρ : List Addr} {G H : Hp} {ρ' : List Addr} {G' H' : Hp} {δ : DS} {σ : St} {S : Sto} (a : GS ρ0 G0 H0 ρ G H) (I : IvS K cl ρ G H0 ρ' G' H' δ σ S) : IvS K cl ρ0 G0 H0 ρ' G' H' δ σ S := ⟨I.rs, a.rebase I.gs, I.ow⟩
noncomputable def OwnP (δ : DS) (σ : St) (b : Addr) : Prop := ∃ (i : Nat) (ds : List W), δ[i]? = some (.own ds) ∧ σ[i]? = some (some (.ref b))
noncomputable def hideO (δ : DS) (σ : St) (H : Hp) : Hp := fun b => @ite _ (OwnP δ σ b) (Classical.propDecidable _) none (H b)
theorem hideO_own {δ : DS} {σ : St} {H : Hp} {b : Addr} (h : OwnP δ σ b) : hideO δ σ H b = none := by
 unfold hideO
 rw [if_pos h]
theorem zo0 {δ : DS} {σ : St} {H : Hp} {b : Addr} (h : ¬ OwnP δ σ b) : hideO δ σ H b = H b := by
 unfold hideO
 rw [if_neg h]
noncomputable def outP : Out → OutS
 | .nx δ => .nx δ
 | .bk δ => .bk δ
 | .ct δ => .ct δ
 | .rt d => .rt d
noncomputable def ssPure (f : DS → Option Out) : DS → Sto → SO := fun δ S => (f δ).map fun o => (outP o, S)
theorem zf0 {t : TS} {f : DS → Option Out} (h : ∀ ρ, DSt K ρ t f) : SSt K cl E t (ssPure f) := fun ρ0 G0 H0 ρ G σ H δ S o S' D I e p => by
 obtain ⟨o', e1, e2⟩ := Option.map_eq_some_iff.mp e
 cases e2
 have same0 : Same (hideO δ σ H) H := fun b u hb => by
  by_cases ho : OwnP δ σ b
  · rw [hideO_own ho] at hb; cases hb
  · rw [zo0 ho] at hb; exact hb
 have sameG : Same G (hideO δ σ H) := fun b u hb => by
  by_cases ho : OwnP δ σ b
  · obtain ⟨i, ds, k1, k2⟩ := ho
    obtain ⟨o, m1, q, vs, rfl, m3, m4, m5⟩ := I.rs.rl.sl i _ k1
    rw [k2] at m1
    cases m1
    rw [m3] at hb
    cases hb
  · rw [zo0 ho]; exact I.gs.s b u hb
 have notown : ∀ a, a ∈ ρ → ¬ OwnP δ σ a := fun a ha ⟨i, ds, k1, k2⟩ => I.rs.ap i ds a k1 k2 ha
 have ownlst : ∀ b, OwnP δ σ b → ∃ vs, H b = some (.lst vs) := fun b ⟨i, ds, k1, k2⟩ => by
  obtain ⟨o, m1, q, vs, rfl, m3, m4, m5⟩ := I.rs.rl.sl i _ k1
  rw [k2] at m1
  cases m1
  exact ⟨vs, m4⟩
 have sr0 : SR K ρ cl G (hideO δ σ H) S := ⟨I.rs.st.len, I.rs.st.nd, fun n ob en => by
  obtain ⟨a, k1, k2, k3⟩ := I.rs.st.ob n ob en
  refine ⟨a, k1, k2, k3.move (List.prefix_refl _) (.refl _) (zo0 (notown a (List.mem_of_getElem? k1))) fun dx d1 d2 => ⟨?_, d1⟩⟩
  rw [zo0 fun ho => by
   obtain ⟨vs, hv⟩ := ownlst dx ho
   rw [d2] at hv
   cases hv]
  exact d2⟩
 have iv : Iv K ρ G (hideO δ σ H) G H δ σ := ⟨I.rs.rl, ⟨.refl _, same0, I.gs.s, fun _ _ e => e⟩, fun i q ds k1 k2 => hideO_own ⟨i, ds, k1, k2⟩⟩
 have h0own : ∀ b, H0 b ≠ none → ¬ OwnP δ σ b := fun b hb ⟨i, ds, k1, k2⟩ => hb (I.ow i b ds k1 k2)
 have gs : ∀ {G' H' : Hp}, Gr G (hideO δ σ H) G' H' → GS ρ0 G0 H0 ρ G' H' := fun {G' H'} g =>
  ⟨I.gs.r, I.gs.g.trans g.g, g.s, fun b u hb eb => g.h b u (by rw [zo0 (h0own b (by rw [eb]; simp))]; exact I.gs.h b u hb eb), fun b hb => yc6 g.h (by rw [zo0 (h0own b hb)]; exact I.gs.k b hb), fun b h1 h2 => g.n b (by rw [zo0 (h0own b h1)]; exact I.gs.k b h1) (I.gs.n b h1 h2), I.gs.f⟩
 have nx : ∀ {δ' : DS} {σ' : St} {G' H' : Hp}, Iv K ρ G (hideO δ σ H) G' H' δ' σ' → IvS K cl ρ0 G0 H0 ρ G' H' δ' σ' S := fun {δ' σ' G' H'} I' =>
  ⟨⟨I'.rl, sr0.grow I'.gr, fun i ds q k1 k2 hq => by
   have := I'.ow i q ds k1 k2
   rw [zo0 (notown q hq)] at this
   obtain ⟨j, hj, ej⟩ := List.mem_iff_getElem.mp hq
   obtain ⟨b, m1, m2, m3⟩ := I.rs.st.ob j (S[j]'(by rw [← I.rs.st.len]; exact hj)) (List.getElem?_eq_getElem _)
   rw [List.getElem?_eq_getElem hj, ej] at m1
   cases m1
   obtain ⟨y, hy, _⟩ := m3.some
   rw [this] at hy
   cases hy⟩, gs I'.gr, fun i q ds k1 k2 => by
   have h1 := I'.ow i q ds k1 k2
   cases h2 : H0 q with
   | none => rfl
   | some u =>
    exfalso
    have h3 := I.gs.k q (by rw [h2]; simp)
    rw [zo0 (h0own q (by rw [h2]; simp))] at h1
    exact h3 h1⟩
 refine h ρ G (hideO δ σ H) G σ H δ o' D iv e1 ?_
 cases o' with
 | nx δ' => exact fun σ' G' H' I' => p σ' ρ G' H' (nx I')
 | bk δ' => exact fun σ' G' H' I' => p σ' ρ G' H' (nx I')
 | ct δ' => exact fun σ' G' H' I' => p σ' ρ G' H' (nx I')
 | rt d => exact fun v G' H' g dv => p v ρ G' H' (gs g) (sr0.grow g) dv
noncomputable def ssSeq (f g : DS → Sto → SO) : DS → Sto → SO := fun δ S => match f δ S with
 | some (.nx δ', S') => g δ' S'
 | o => o
theorem zc9 {t u : TS} {f g : DS → Sto → SO} (h1 : SSt K cl E t f) (h2 : SSt K cl E u g) : SSt K cl E (tSeq t u) (ssSeq f g) := fun ρ0 G0 H0 ρ G σ H δ S o S' D I e p => by
 unfold ssSeq at e
 cases ef : f δ S with
 | none => rw [ef] at e; cases e
 | some r =>
  obtain ⟨o1, S1⟩ := r
  rw [ef] at e
  refine h1 ρ0 G0 H0 ρ G σ H δ S o1 S1 _ I ef ?_
  cases o1 with
  | nx δ' => exact fun σ' ρ' G' H' I' => h2 ρ0 G0 H0 ρ' G' σ' H' δ' S1 o S' D I' e p
  | bk δ' => cases e; exact p
  | ct δ' => cases e; exact p
  | rt d => cases e; exact p
  | xc c => cases e; exact p
noncomputable def soB {α : Type} (m : SM α) (k : α → Sto → SO) : SO := match m with
 | some (.ok a, S) => k a S
 | some (.xc c, S) => some (.xc c, S)
 | none => none
theorem yd2 {α : Type} {m : SM α} {k : α → Sto → SO} {o : OutS} {S' : Sto} (h : soB m k = some (o, S')) : (∃ c, m = some (.xc c, S') ∧ o = .xc c) ∨ ∃ a S1, m = some (.ok a, S1) ∧ k a S1 = some (o, S') := by
 unfold soB at h
 split at h
 · exact .inr ⟨_, _, rfl, h⟩
 · cases h
   exact .inl ⟨_, rfl, rfl⟩
 · cases h
theorem zs7 {t : TE} {f : DS → Sto → SM W} (h : SE K cl E t f) {ρ0 : List Addr} {G0 H0 : Hp} {ρ : List Addr} {G : Hp} {σ : St} {H : Hp} {δ : DS} {S : Sto} {o : OutS} {S' : Sto} {D : Ends} {k : W → Sto → SO} {P : V → Hp → Prop} (I : IvS K cl ρ0 G0 H0 ρ G H δ σ S) (e : soB (f δ S) k = some (o, S')) (p : PstS K cl E ρ0 G0 H0 D S' o)
 (q : ∀ d S1, k d S1 = some (o, S') → ∀ v ρ' G' H', GS ρ G H ρ' G' H' → SR K ρ' cl G' H' S1 → Dw K ρ' G' v d → P v H') : t σ H P := by
 rcases yd2 e with ⟨c, em, rfl⟩ | ⟨d, S1, em, e⟩
 · exact h ρ G σ H δ S _ _ _ I.rs em (fun d hd => by cases hd) (fun c' hc ρ1 G1 H1 g1 s1 => by cases hc; exact p ρ1 G1 H1 (I.gs.trans g1) s1)
 · exact h ρ G σ H δ S _ _ _ I.rs em (fun d' hd => by cases hd; exact q _ _ e) (fun c' hc => by cases hc)
theorem so_test {t : TT} {f : DS → Sto → SM Bool} (h : ST K cl E t f) {ρ0 : List Addr} {G0 H0 : Hp} {ρ : List Addr} {G : Hp} {σ : St} {H : Hp} {δ : DS} {S : Sto} {o : OutS} {S' : Sto} {D : Ends} {k : Bool → Sto → SO} {P : Bool → Hp → Prop} (I : IvS K cl ρ0 G0 H0 ρ G H δ σ S) (e : soB (f δ S) k = some (o, S')) (p : PstS K cl E ρ0 G0 H0 D S' o)
 (q : ∀ d S1, k d S1 = some (o, S') → ∀ ρ' G' H', GS ρ G H ρ' G' H' → SR K ρ' cl G' H' S1 → P d H') : t σ H P := by
 rcases yd2 e with ⟨c, em, rfl⟩ | ⟨d, S1, em, e⟩
 · exact h ρ G σ H δ S _ _ _ I.rs em (fun d hd => by cases hd) (fun c' hc ρ1 G1 H1 g1 s1 => by cases hc; exact p ρ1 G1 H1 (I.gs.trans g1) s1)
 · exact h ρ G σ H δ S _ _ _ I.rs em (fun d' hd => by cases hd; exact q _ _ e) (fun c' hc => by cases hc)
noncomputable def ssIf (c : DS → Sto → SM Bool) (f g : DS → Sto → SO) : DS → Sto → SO := fun δ S => soB (c δ S) fun b S1 => if b = true then f δ S1 else g δ S1
theorem ss_if {tc : TT} {t u : TS} {c : DS → Sto → SM Bool} {f g : DS → Sto → SO} (hc : ST K cl E tc c) (h1 : SSt K cl E t f) (h2 : SSt K cl E u g) : SSt K cl E (tIfS tc t u) (ssIf c f g) := fun ρ0 G0 H0 ρ G σ H δ S o S' D I e p =>
 so_test hc I e p fun b S1 e1 ρ1 G1 H1 g1 s1 => by
  cases b with
  | true => exact h1 ρ0 G0 H0 ρ1 G1 σ H1 δ S1 o S' D (I.grow g1 s1) e1 p
  | false => exact h2 ρ0 G0 H0 ρ1 G1 σ H1 δ S1 o S' D (I.grow g1 s1) e1 p
noncomputable def ssRet (f : DS → Sto → SM W) : DS → Sto → SO := fun δ S => soB (f δ S) fun d S1 => some (.rt d, S1)
theorem zw6 {t : TE} {f : DS → Sto → SM W} (h : SE K cl E t f) : SSt K cl E (tRet t) (ssRet f) := fun ρ0 G0 H0 ρ G σ H δ S o S' D I e p =>
 zs7 h I e p fun d S1 e1 v ρ1 G1 H1 g1 s1 dv => by
  cases e1
  exact p v ρ1 G1 H1 (I.gs.trans g1) s1 dv
noncomputable def ssAsg (f : DS → Sto → SM W) (h : W → DS → Option DS) : DS → Sto → SO := fun δ S => soB (f δ S) fun d S1 => (h d δ).map fun δ' => (.nx δ', S1)
theorem zw7 {t : TE} {g : TG} {f : DS → Sto → SM W} {h : W → DS → Option DS} (h1 : SE K cl E t f) (h2 : ∀ ρ, DG K ρ g h) : SSt K cl E (tAsg t g) (ssAsg f h) := fun ρ0 G0 H0 ρ G σ H δ S o S' D I e p =>
 zs7 h1 I e p fun d S1 e1 v ρ1 G1 H1 g1 s1 dv => by
  obtain ⟨δ', e2, e3⟩ := Option.map_eq_some_iff.mp e1
  cases e3
  have I1 := I.grow g1 s1
  exact h2 ρ1 G1 H1 δ σ v d δ' _ I1.rs.rl dv e2 fun σ' R o => p σ' ρ1 G1 H1 (I1.sub R o)
noncomputable def ssExpr (f : DS → Sto → SM W) : DS → Sto → SO := fun δ S => soB (f δ S) fun _ S1 => some (.nx δ, S1)
theorem zf4 {t : TE} {f : DS → Sto → SM W} (h : SE K cl E t f) : SSt K cl E (tDrop t) (ssExpr f) := fun ρ0 G0 H0 ρ G σ H δ S o S' D I e p =>
 zs7 h I e p fun d S1 e1 v ρ1 G1 H1 g1 s1 dv => by
  cases e1
  exact p σ ρ1 G1 H1 (I.grow g1 s1)
noncomputable def ssFrz (i : Nat) (f : DS → Sto → SO) : DS → Sto → SO := fun δ S => f (frz i δ) S
noncomputable def ssFld (c f : Str) (fo fv : DS → Sto → SM W) : DS → Sto → SO := fun δ S => soB (fv δ S) fun d S1 => soB (fo δ S1) fun x S2 => (insAt c x S2).bind fun p => if p.2.length < 1000 then some (.nx δ, S2.set p.1 (.ins c (putW f d p.2))) else none
theorem yc0 {c f : Str} {to tv : TE} {fo fv : DS → Sto → SM W} (hc : Cls K (cl c)) (hn : NoAttr K (cl c) f) (ho : SE K cl E to fo) (hv : SE K cl E tv fv) : SSt K cl E (sFld K to tv f) (ssFld c f fo fv) := fun ρ0 G0 H0 ρ G σ H δ S o S' D I e p =>
 zs7 hv I e p fun d S1 e1 v ρ1 G1 H1 g1 s1 dv => by
  have I1 := I.grow g1 s1
  refine zs7 ho I1 e1 p fun x S2 e2 u ρ2 G2 H2 g2 s2 du => ?_
  obtain ⟨⟨n, fs⟩, e3, e4⟩ := Option.bind_eq_some_iff.mp e2
  split at e4
  case isFalse => cases e4
  rename_i hl
  cases e4
  obtain ⟨rfl, e5⟩ := zx1 e3
  obtain ⟨a, rfl, ea⟩ := zq3 du
  obtain ⟨ga, dx, ws, k1, k2, k3, k4⟩ := s2.addr e5 ea
  have I2 := I1.grow g2 s2
  have hda : dx ≠ a := fun z => by rw [z, k1] at k3; cases k3
  obtain ⟨s3, g3⟩ := s2.put (x := .ins (cl c) dx (putF f v ws)) (o' := .ins c (putW f d fs)) g2.s e5 ea (fun b z => by cases z) ⟨dx, _, zd1, k2, by rw [zd9 hda]; exact k3, k4.putF ((dv.ext g2.r).same g2.g)⟩
  exact ⟨a, _, dx, ws, rfl, k1, hc, hn, by rw [← k4.length]; exact hl, p σ ρ2 G2 _ (I2.grow g3 s3)⟩
noncomputable def zn4 (h : W → DS → Option DS) (fb : DS → Sto → SO) : List W → DS → Sto → SO
 | [], δ, S => some (.nx δ, S)
 | d :: ds, δ, S => (h d δ).bind fun δ2 => match fb δ2 S with
  | some (.nx δ', S') => zn4 h fb ds δ' S'
  | some (.ct δ', S') => zn4 h fb ds δ' S'
  | some (.bk δ', S') => some (.nx δ', S')
  | some (.rt d, S') => some (.rt d, S')
  | some (.xc c, S') => some (.xc c, S')
  | none => none
noncomputable def ssFor (fi : DS → Sto → SM (List W)) (h : W → DS → Option DS) (fb : DS → Sto → SO) : DS → Sto → SO := fun δ S => soB (fi δ S) fun ds S1 => zn4 h fb ds δ S1
theorem zw0 {wi : TI} {g : TG} {tb : TS} {fi : DS → Sto → SM (List W)} {h : W → DS → Option DS} {fb : DS → Sto → SO} (hi : SIp K cl E wi fi) (hg : ∀ ρ, DG K ρ g h) (hb : SSt K cl E tb fb) : SSt K cl E (tFor wi g tb) (ssFor fi h fb) := fun ρ0 G0 H0 ρ G σ H δ S o S' D I e p => by
 rcases yd2 e with ⟨c, em, rfl⟩ | ⟨ds, S1, em, e⟩
 · exact hi ρ G σ H δ S _ _ _ I.rs em (fun d hd => by cases hd) (fun c' hc ρ1 G1 H1 g1 s1 => by cases hc; exact p ρ1 G1 H1 (I.gs.trans g1) s1)
 refine hi ρ G σ H δ S _ _ _ I.rs em (fun ds' hd => ?_) (fun c' hc => by cases hc)
 cases hd
 intro J ρ1 G1 H1 g1 s1 it
 refine ⟨fun i m σ H => m = ds.length - i ∧ i ≤ ds.length ∧ ∃ ρ2 G2 δ2 S2, IvS K cl ρ0 G0 H0 ρ2 G2 H δ2 σ S2 ∧ ρ1 <+: ρ2 ∧ Same G1 G2 ∧ zn4 h fb (ds.drop i) δ2 S2 = some (o, S'), ⟨ds.length, by simp, Nat.zero_le _, ρ1, G1, δ, S1, I.grow g1 s1, List.prefix_refl _, .refl _, by simpa using e⟩, ?_⟩
 rintro i m σ2 H2 ⟨rfl, hil, ρ2, G2, δ2, S2, I2, pr2, s2, e2⟩
 have ia := it i G2 H2 s2 I2.gs.s
 by_cases hlt : i < ds.length
 · refine .inr ?_
   obtain ⟨go, step⟩ := ia.1 ds[i] (List.getElem?_eq_getElem hlt)
   rw [List.drop_eq_getElem_cons hlt] at e2
   obtain ⟨δ3, e3, e4⟩ := Option.bind_eq_some_iff.mp e2
   have turn : ∀ (P : Ends) (o1 : OutS) (S3 : Sto), fb δ3 S2 = some (o1, S3) → (∀ G3 H3, Gr G2 H2 G3 H3 → PstS K cl E ρ2 G3 H0 P S3 o1) → ∀ x H', J.yld i H2 x H' → g x σ2 H' fun σ2 H2 => tb P σ2 H2 := fun P o1 S3 ef hp x H' y => by
    obtain ⟨G3, g3, dx⟩ := step x H' y
    have I3 := I2.grow (.of g3) (I2.rs.st.grow g3)
    refine hg ρ2 G3 H' δ2 σ2 x _ δ3 _ I3.rs.rl (dx.ext pr2) e3 fun σ3 R3 o3 => ?_
    exact hb ρ2 G3 H0 ρ2 G3 σ3 H' δ3 S2 o1 S3 P (I3.sub R3 o3).base ef (hp G3 H' g3)
   have back : ∀ {G3 H3 : Hp}, Gr G2 H2 G3 H3 → ∀ {ρ4 : List Addr} {G4 H4 : Hp} {σ4 : St} {δ4 : DS} {S4 : Sto}, IvS K cl ρ2 G3 H0 ρ4 G4 H4 δ4 σ4 S4 → IvS K cl ρ0 G0 H0 ρ4 G4 H4 δ4 σ4 S4 ∧ ρ1 <+: ρ4 ∧ Same G1 G4 := fun {G3 H3} g3 {ρ4 G4 H4 σ4 δ4 S4} I4 => ⟨I4.rebase (I2.gs.trans (.of g3)), pr2.trans I4.gs.r, s2.trans (g3.g.trans I4.gs.g)⟩
   cases ef : fb δ3 S2 with
   | none => rw [ef] at e4; cases e4
   | some r =>
    obtain ⟨o1, S3⟩ := r
    rw [ef] at e4
    cases o1 with
    | nx δ' =>
     exact ⟨go, fun σ' H' => ∃ ρ' G', IvS K cl ρ0 G0 H0 ρ' G' H' δ' σ' S3 ∧ ρ1 <+: ρ' ∧ Same G1 G', fun σ' H' ⟨ρ', G', I', q1, q2⟩ => ⟨ds.length - (i + 1), by omega, rfl, hlt, ρ', G', δ', S3, I', q1, q2, e4⟩, turn _ _ _ ef fun G3 H3 g3 σ5 ρ5 G5 H5 I5 => ⟨ρ5, G5, back g3 I5⟩⟩
    | ct δ' =>
     exact ⟨go, fun σ' H' => ∃ ρ' G', IvS K cl ρ0 G0 H0 ρ' G' H' δ' σ' S3 ∧ ρ1 <+: ρ' ∧ Same G1 G', fun σ' H' ⟨ρ', G', I', q1, q2⟩ => ⟨ds.length - (i + 1), by omega, rfl, hlt, ρ', G', δ', S3, I', q1, q2, e4⟩, turn _ _ _ ef fun G3 H3 g3 σ5 ρ5 G5 H5 I5 => ⟨ρ5, G5, back g3 I5⟩⟩
    | bk δ' =>
     cases e4
     exact ⟨go, fun _ _ => False, fun _ _ z => z.elim, turn _ _ _ ef fun G3 H3 g3 σ5 ρ5 G5 H5 I5 => p σ5 ρ5 G5 H5 (back g3 I5).1⟩
    | rt d =>
     cases e4
     exact ⟨go, fun _ _ => False, fun _ _ z => z.elim, turn _ _ _ ef fun G3 H3 g3 v ρ5 G5 H5 g5 s5 dv => p v ρ5 G5 H5 ((I2.gs.trans (.of g3)).rebase g5) s5 dv⟩
    | xc c =>
     cases e4
     exact ⟨go, fun _ _ => False, fun _ _ z => z.elim, turn _ _ _ ef fun G3 H3 g3 ρ5 G5 H5 g5 s5 => p ρ5 G5 H5 ((I2.gs.trans (.of g3)).rebase g5) s5⟩
 · have hi' : i = ds.length := by omega
   subst hi'
   rw [List.drop_length] at e2
   cases e2
   exact .inl ⟨ia.2 (Nat.le_refl _), p σ2 ρ2 G2 H2 I2⟩
noncomputable def outS : SO → SM W
 | some (.rt d, S) => some (.ok d, S)
 | some (.nx _, S) => some (.ok .none, S)
 | some (.xc c, S) => some (.xc c, S)
 | _ => none
noncomputable def bodyS (a n : Nat) (fb : DS → Sto → SO) : List W → Sto → SM W := fun ds S => if ds.length = a then outS (fb (startD n ds) S) else none
theorem zg5 {a n : Nat} {fb : DS → Sto → SO} {ds : List W} {S : Sto} {r : Rs W × Sto} (h : bodyS a n fb ds S = some r) : ds.length = a := by
 unfold bodyS at h
 split at h
 · assumption
 · cases h
theorem s_fn {t : TS} {fb : DS → Sto → SO} {N : List Str} {a n : Nat} {vs : List V} {H : Hp} {Q : VK} {E : XK} (hn : N.length = n) (h : SSt K cl E t fb) (hsp : spX K cl (bodyS a n fb) vs H Q E) : t { nx := fun _ H' => Q .non H', rt := Q } (start N vs) H := by
 subst hn
 obtain ⟨ρ, G, S, ds, r, S', s, sr, da, e, q, qx⟩ := hsp
 have R := start_rl (N := N) s da
 have I : IvS K cl ρ G H ρ G H (startD N.length ds) (start N vs) S := ⟨⟨R, sr, fun i ds' p h1 => absurd h1 zt5⟩, .refl s, fun i p ds' h1 => absurd h1 zt5⟩
 unfold bodyS at e
 rw [if_pos (zg5 (show bodyS a N.length fb ds S = some (r, S') from e))] at e
 cases ef : fb (startD N.length ds) S with
 | none => rw [ef] at e; cases e
 | some o =>
  obtain ⟨o, S1⟩ := o
  rw [ef] at e
  refine h ρ G H ρ G _ H _ S o S1 _ I ef ?_
  cases o with
  | nx δ => cases e; exact fun σ' ρ' G' H' I' => q _ rfl _ ρ' G' H' I'.gs I'.rs.st .non
  | rt d' => cases e; exact fun v ρ' G' H' g s dv => q _ rfl v ρ' G' H' g s dv
  | xc c => cases e; exact fun ρ' G' H' g s => qx _ rfl ρ' G' H' g s
  | bk _ => cases e
  | ct _ => cases e
theorem zm5 {f : List W → Sto → SM W} {a : Nat} {vs : List V} {H : Hp} {Q : VK} {E : XK} (hf : ∀ ds S r, f ds S = some r → ds.length = a) (h : sp0 K cl f vs H Q E) : vs.length = a := by
 obtain ⟨ρ, G, S, ds, r, S', s, sr, da, e, q⟩ := h
 rw [da.length]
 exact hf ds S _ e
theorem s_fn0 {t : TS} {fb : DS → Sto → SO} {N : List Str} {a n : Nat} {vs : List V} {H : Hp} {Q : VK} {E : XK} (hn : N.length = n) (h : SSt K cl E0 t fb) (hsp : sp0 K cl (bodyS a n fb) vs H Q E) : t { nx := fun _ H' => Q .non H', rt := Q } (start N vs) H := by
 obtain ⟨ρ, G, S, ds, d, S', s, sr, da, e, q⟩ := hsp
 exact s_fn (E := E0) hn h ⟨ρ, G, S, ds, .ok d, S', s, sr, da, e, (fun d' hd => by cases hd; exact q), (fun c hc => by cases hc)⟩
theorem sp0_no {g : List W → Sto → SM W} {vs : List V} {H : Hp} {Q : VK} {E : XK} (hg : ∀ ds S, g ds S = none) (h : sp0 K cl g vs H Q E) : False := by
 obtain ⟨ρ, G, S, ds, r, S', s, sr, da, e, q⟩ := h
 rw [hg] at e
 cases e
theorem FnOk.no0 {P : Program} {w : World} {mg : Str → Option Value} {base : Heap} {CX : CXT} {k : Nat} {f : Addr} {fd : FuncData} {ps : List Str} {g : List W → Sto → SM W} (hg : ∀ ds S, g ds S = none) : FnOk P w K mg base CX k f fd ps (sp0 K cl g) :=
 ⟨fun _ _ _ _ h => (sp0_no hg h).elim, fun _ _ _ _ _ _ _ _ _ _ _ _ _ h => (sp0_no hg h).elim⟩
end
end L2
set_option Elab.async false
set_option linter.all false
set_option maxRecDepth 100000
namespace L2
open PySem PySem.Spec PyProof.Rows
section
variable {X : Cx} {pins : List (Addr × Obj)} {σ : St} {H : Hp} {s : Shared} {a : Addr} {kvs : List (Key × V)} {k : Key} {u : Value} {A : Around} {E : Value → Shared → Prop}
end
section
variable {X : Cx} {o e f : Expr} {td ty tx : TE} {apos cpos : Pos}
end
section
variable {prog : Program} {w : World} {A : Around} {E : Value → Shared → Prop} {s : Shared}
end
section
variable {X : Cx} {pos : Pos}
end
end L2
set_option Elab.async false
set_option linter.all false
set_option maxRecDepth 100000
namespace L2
open PySem PySem.Spec PyProof.Rows
section
variable {K : PySem.W.Frag} {ρ : List Addr}
noncomputable def vOf : W → Option V
 | .none => some .non
 | .bool b => some (.bl b)
 | .int i => some (.int i)
 | .str x => some (.str x)
 | _ => none
noncomputable def vsOf : List W → Option (List V)
 | [] => some []
 | d :: ds => (vOf d).bind fun v => (vsOf ds).map (v :: ·)
theorem ye5 {H : Hp} {v u : V} {d : W} (h : Dw K ρ H v d) (e : vOf d = some u) : v = u ∧ flatV u = true := by
 cases h <;> first | (cases e; exact ⟨rfl, rfl⟩) | cases e
theorem zx3 {H : Hp} : ∀ {vs us : List V} {ds : List W}, DwAll K ρ H vs ds → vsOf ds = some us → vs = us ∧ us.all flatV = true
 | _, _, _, .nil, e => by cases e; exact ⟨rfl, rfl⟩
 | _, _, _, .cons h t, e => by
  obtain ⟨u, e1, e⟩ := Option.bind_eq_some_iff.mp e
  obtain ⟨us, e2, rfl⟩ := Option.map_eq_some_iff.mp e
  obtain ⟨h1, h2⟩ := ye5 h e1
  obtain ⟨h3, h4⟩ := zx3 t e2
  exact ⟨by rw [h1, h3], by rw [List.all_cons, h2, h4]; rfl⟩
noncomputable def cIn (d e : W) : Option Bool := (seqD e).bind fun ds => (vOf d).bind fun v => (vsOf ds).map fun vs => inV v vs
noncomputable def zx5 (d e : W) : Option Bool := (cIn d e).map (!·)
theorem cIn_core {H : Hp} {x y : V} {d e : W} {b : Bool} (hx : Dw K ρ H x d) (hy : Dw K ρ H y e) (h : cIn d e = some b) : ∃ p xs, y = .ref p ∧ (SqL K H p xs ∨ SqT K H p xs) ∧ flatV x = true ∧ xs.all flatV = true ∧ inV x xs = b := by
 obtain ⟨ds, e1, h⟩ := Option.bind_eq_some_iff.mp h
 obtain ⟨v, e2, h⟩ := Option.bind_eq_some_iff.mp h
 obtain ⟨vs, e3, rfl⟩ := Option.map_eq_some_iff.mp h
 obtain ⟨rfl, f1⟩ := ye5 hx e2
 cases hy with
 | lst sq da =>
  cases e1
  obtain ⟨rfl, f2⟩ := zx3 da e3
  exact ⟨_, _, rfl, .inl sq, f1, f2, rfl⟩
 | tup sq da =>
  cases e1
  obtain ⟨rfl, f2⟩ := zx3 da e3
  exact ⟨_, _, rfl, .inr (SqT.of sq), f1, f2, rfl⟩
 | _ => cases e1
theorem db_in : DB K ρ (rIn K false) cIn := fun H x y d e b Q hx hy hg q => by
 obtain ⟨p, xs, h1, h2, h3, h4, rfl⟩ := cIn_core hx hy hg
 exact ⟨p, xs, h1, h2, h3, h4, q⟩
noncomputable def bsOf : List W → Option (List Bool)
 | [] => some []
 | d :: ds => (asB d).bind fun b => (bsOf ds).map (b :: ·)
theorem bsOf_eq {G : Hp} : ∀ {vs : List V} {ds : List W} {bs : List Bool}, DwAll K ρ G vs ds → bsOf ds = some bs → vs = bs.map V.bl
 | _, _, _, .nil, e => by cases e; rfl
 | _, _, _, .cons h t, e => by
  obtain ⟨i, e1, e⟩ := Option.bind_eq_some_iff.mp e
  obtain ⟨ms, e2, rfl⟩ := Option.map_eq_some_iff.mp e
  cases yb0 e1
  cases dp_bl h
  rw [bsOf_eq t e2]
  rfl
noncomputable def gAll (d : W) : Option W := (listD d).bind fun ds => (bsOf ds).map fun bs => .bool (bs.all id)
theorem dc_all : DCk K ρ (rAll K) gAll := fun G H x d c Q s hx hg q => by
 obtain ⟨ds, e1, hg⟩ := Option.bind_eq_some_iff.mp hg
 obtain ⟨bs, e2, rfl⟩ := Option.map_eq_some_iff.mp hg
 cases zw8 e1
 obtain ⟨p, vs, rfl, sq, da⟩ := yb4 s hx
 rw [bsOf_eq da e2] at sq
 exact ⟨p, bs, rfl, sq, q _ G H (.refl s) (.bl _)⟩
end
section
variable {K : PySem.W.Frag} {cl : Str → Addr} {E : XK}
noncomputable def lstAt (x : W) (S : Sto) : Option (Nat × List W) := match obAt x S with
 | some (n, .lst ds) => some (n, ds)
 | _ => none
theorem zl6 {x : W} {S : Sto} {n : Nat} {ds : List W} (h : lstAt x S = some (n, ds)) : x = .ref n ∧ S[n]? = some (.lst ds) := by
 unfold lstAt at h
 split at h
 · rename_i n' ds' e
   cases h
   exact zp8 e
 · cases h
noncomputable def seqS (x : W) (S : Sto) : Option (List W) := match lstAt x S with
 | some (_, ds) => some ds
 | none => seqD x
theorem seqS_read {ρ : List Addr} {G H : Hp} {S : Sto} {v : V} {x : W} {ds : List W} (sg : Same G H) (s : SR K ρ cl G H S) (dv : Dw K ρ G v x) (h : seqS x S = some ds) : ∃ p vs, v = .ref p ∧ (SqL K H p vs ∨ SqT K H p vs) ∧ DwAll K ρ G vs ds := by
 unfold seqS at h
 split at h
 · rename_i n ds' e
   cases h
   obtain ⟨rfl, e2⟩ := zl6 e
   obtain ⟨a, rfl, ea⟩ := zq3 dv
   obtain ⟨ga, vs, k1, k2⟩ := s.addr e2 ea
   exact ⟨a, vs, rfl, .inl (SqL.of k1), k2⟩
 · cases dv with
   | lst sq da => cases h; exact ⟨_, _, rfl, .inl (sg.seq sq), da⟩
   | tup sq da => cases h; exact ⟨_, _, rfl, .inr (sg.tup (SqT.of sq)), da⟩
   | _ => cases h
noncomputable def gIxS (x y : W) (S : Sto) : Option W := match lstAt x S with
 | some (_, ds) => (asI y).bind fun i => atI ds i
 | none => gIx x y
noncomputable def sIx (fa fb : DS → Sto → SM W) : DS → Sto → SM W := fun δ S => sBind (fa δ S) fun x S1 => sBind (fb δ S1) fun y S2 => sOk (gIxS x y S2) S2
theorem se_ix {ta tb : TE} {fa fb : DS → Sto → SM W} (ha : SE K cl E ta fa) (hb : SE K cl E tb fb) : SE K cl E (tOp (rIx K) ta tb) (sIx fa fb) := fun ρ G σ H δ S r' S' Q R e q qx =>
 zz6 ha hb R e (fun x y S2 e2 v u ρ2 G2 H2 g2 s2 dv du => by
  obtain ⟨c, e3, rfl, rfl⟩ := zk1 e2
  unfold gIxS at e3
  split at e3
  · rename_i n ds e4
    obtain ⟨i, e5, e6⟩ := Option.bind_eq_some_iff.mp e3
    cases asI_eq e5
    cases zp7 du
    obtain ⟨rfl, e7⟩ := zl6 e4
    obtain ⟨a, rfl, ea⟩ := zq3 dv
    obtain ⟨ga, vs, k1, k2⟩ := s2.addr e7 ea
    obtain ⟨w, h1, h2⟩ := k2.at e6
    exact .inl ⟨a, vs, _, w, rfl, rfl, SqL.of k1, h1, q c rfl w ρ2 G2 H2 g2 s2 h2⟩
  · exact dr_ix G2 H2 v u x y c Q g2.s (.inl dv) du e3 fun w G3 H3 g3 dw => q c rfl w ρ2 G3 H3 (g2.trans (.of g3)) (s2.grow g3) dw) qx
noncomputable def gLenS (x : W) (S : Sto) : Option W := match lstAt x S with
 | some (_, ds) => some (.int ds.length)
 | none => gLen x
noncomputable def sLen (fa : DS → Sto → SM W) : DS → Sto → SM W := fun δ S => sBind (fa δ S) fun x S1 => sOk (gLenS x S1) S1
theorem ye0 {ta : TE} {fa : DS → Sto → SM W} (ha : SE K cl E ta fa) : SE K cl E (tCB (rLenA K) (tCons ta tNil)) (sLen fa) := fun ρ G σ H δ S r' S' Q R e q qx =>
 zs8 ha R e (fun x S2 e2 v ρ2 G2 H2 g2 s2 dv => by
  obtain ⟨c, e3, rfl, rfl⟩ := zk1 e2
  unfold gLenS at e3
  split at e3
  · rename_i n ds e4
    cases e3
    obtain ⟨rfl, e7⟩ := zl6 e4
    obtain ⟨a, rfl, ea⟩ := zq3 dv
    obtain ⟨ga, vs, k1, k2⟩ := s2.addr e7 ea
    exact .inl ⟨a, vs, rfl, .inl (SqL.of k1), by rw [k2.length]; exact q _ rfl _ ρ2 G2 H2 g2 s2 (.int _)⟩
  · exact zx6 G2 H2 v x c Q g2.s (.inl dv) e3 fun w G3 H3 g3 dw => q c rfl w ρ2 G3 H3 (g2.trans (.of g3)) (s2.grow g3) dw) qx
noncomputable def sC1 (g : W → Option W) (fa : DS → Sto → SM W) : DS → Sto → SM W := fun δ S => sBind (fa δ S) fun x S1 => sOk (g x) S1
theorem se_c1 {r : List V → Hp → VK → Prop} {g : W → Option W} {ta : TE} {fa : DS → Sto → SM W} (hr : ∀ ρ, DCk K ρ r g) (ha : SE K cl E ta fa) : SE K cl E (tCB r (tCons ta tNil)) (sC1 g fa) := fun ρ G σ H δ S r' S' Q R e q qx =>
 zs8 ha R e (fun x S2 e2 v ρ2 G2 H2 g2 s2 dv => by
  obtain ⟨c, e3, rfl, rfl⟩ := zk1 e2
  exact hr ρ2 G2 H2 v x c Q g2.s (.inl dv) e3 fun w G3 H3 g3 dw => q c rfl w ρ2 G3 H3 (g2.trans (.of g3)) (s2.grow g3) dw) qx
noncomputable def gIsiS (T : String) (x : W) (S : Sto) : Option W := match lstAt x S with
 | some _ => if T = "list" then some (.bool true) else none
 | none => match x with
  | .list _ => if T = "list" then some (.bool true) else none
  | .tuple _ => if T = "tuple" then some (.bool true) else none
  | _ => gIsi T x
noncomputable def rIsiB (K : PySem.W.Frag) : List V → Hp → VK → Prop := fun xs H Q => rIsi xs H Q ∨ rIsiT K xs H Q ∨ rIsiL K xs H Q
theorem call_isiB {X : Cx} {K : PySem.W.Frag} (h : X.K = K) : CallR X (.builtin "isinstance") (rIsiB K) := call_isiK.or ((call_isiTK h).or (call_isiLK h))
noncomputable def sIsi (T : String) (fa : DS → Sto → SM W) : DS → Sto → SM W := fun δ S => sBind (fa δ S) fun x S1 => sOk (gIsiS T x S1) S1
theorem kit_same (c : Value) (h : (c == c) = true) : PySem.W.kitOne K c c = some true := by
 unfold PySem.W.kitOne
 rw [if_pos h]
noncomputable def zo1 (fo fv : DS → Sto → SM W) : DS → Sto → SO := fun δ S => soB (fo δ S) fun x S1 => if (lstAt x S1).isSome = true then soB (fv δ S1) fun d S2 => (lstAt x S2).bind fun p => if p.2.length < sizeLine then some (.nx δ, S2.set p.1 (.lst (p.2 ++ [d]))) else none else none
theorem yc3 {ρ ρ' : List Addr} {n : Nat} {a : Addr} (h : ρ <+: ρ') (e : ρ[n]? = some a) : ρ'[n]? = some a := by
 obtain ⟨t, rfl⟩ := h
 rw [List.getElem?_append_left (List.getElem?_eq_some_iff.mp e).1]
 exact e
theorem zs9 {to tv : TE} {fo fv : DS → Sto → SM W} (ho : SE K cl E to fo) (hv : SE K cl E tv fv) : SSt K cl E (tDrop (tBM K "list" yf6 to (tCons tv tNil))) (zo1 fo fv) := fun ρ0 G0 H0 ρ G σ H δ S o S' D I e p =>
 zs7 ho I e p fun x S1 e1 u ρ1 G1 H1 g1 s1 du => by
  split at e1
  case isFalse => cases e1
  rename_i hx
  obtain ⟨⟨n, ds0⟩, hx0⟩ := Option.isSome_iff_exists.mp hx
  obtain ⟨rfl, h0⟩ := zl6 hx0
  obtain ⟨a, rfl, ea⟩ := zq3 du
  obtain ⟨_, vs0, k0, _⟩ := s1.addr h0 ea
  have I1 := I.grow g1 s1
  refine ⟨.inl ⟨rfl, vs0, SqL.of k0⟩, zs7 hv I1 e1 p fun d S2 e2 v ρ2 G2 H2 g2 s2 dv => ?_⟩
  obtain ⟨⟨m, ds⟩, e3, e4⟩ := Option.bind_eq_some_iff.mp e2
  split at e4
  case isFalse => cases e4
  rename_i hl
  cases e4
  obtain ⟨em, e5⟩ := zl6 e3
  cases em
  have ea2 := yc3 g2.r ea
  obtain ⟨ga, vs, k1, k2⟩ := s2.addr e5 ea2
  obtain ⟨s3, g3⟩ := s2.put (x := .lst (vs ++ [v])) (o' := .lst (ds ++ [d])) g2.s e5 ea2 (fun b z => by cases z) ⟨_, zd1, k2.app (.cons dv .nil)⟩
  exact ⟨a, vs, v, rfl, rfl, k1, by rw [k2.length]; exact hl, p σ ρ2 G2 _ ((I1.grow g2 s2).grow g3 s3)⟩
noncomputable def keyOf : W → Option Key
 | .int i => some (Sum.inl i)
 | .str x => some (Sum.inr x)
 | _ => none
theorem yc2 {ρ : List Addr} {G : Hp} {v : V} {d : W} {k : Key} (h : Dw K ρ G v d) (e : keyOf d = some k) : v = kV k := by
 cases h <;> first | (cases e; rfl) | cases e
noncomputable def dkAt (x : W) (S : Sto) : Option (Nat × List (Key × W)) := match obAt x S with
 | some (n, .dK kvs) => some (n, kvs)
 | _ => none
theorem dkAt_some {x : W} {S : Sto} {n : Nat} {kvs : List (Key × W)} (h : dkAt x S = some (n, kvs)) : x = .ref n ∧ S[n]? = some (.dK kvs) := by
 unfold dkAt at h
 split at h
 · rename_i n' ds' e
   cases h
   exact zp8 e
 · cases h
noncomputable def valW {κ : Type} [DecidableEq κ] (kvs : List (κ × W)) (k : κ) : Option W := (kvs.find? fun kv => decide (kv.1 = k)).map (·.2)
noncomputable def putKW {κ : Type} [DecidableEq κ] (kvs : List (κ × W)) (k : κ) (v : W) : List (κ × W) := if (kvs.any fun kv => decide (kv.1 = k)) = true then kvs.map fun kv => if kv.1 = k then (kv.1, v) else kv else kvs ++ [(k, v)]
theorem KvR.val {κ : Type} [DecidableEq κ] {ρ : List Addr} {G : Hp} {k : κ} : ∀ {l : List (κ × W)} {m : List (κ × V)}, KvR K ρ G l m → (∀ d, valW l k = some d → ∃ v, valV m k = some v ∧ Dw K ρ G v d) ∧ (valW l k = none → valV m k = none)
 | _, _, .nil => ⟨(fun d e => by cases e), fun _ => rfl⟩
 | _, _, .cons (k := j) (d := x0) (l := l) (m := m) a b => by
  obtain ⟨h1, h2⟩ := KvR.val (k := k) b
  by_cases hj : j = k
  · subst hj
    refine ⟨fun d e => ?_, fun e => ?_⟩
    · have e' : valW ((j, x0) :: l) j = some x0 := by simp [valW, List.find?_cons]
      rw [e'] at e
      cases e
      exact ⟨_, zy0 rfl, a⟩
    · simp [valW, List.find?_cons] at e
  · refine ⟨fun d e => ?_, fun e => ?_⟩
    · rw [zw4 hj]
      exact h1 d (by simpa [valW, List.find?_cons, hj] using e)
    · rw [zw4 hj]
      exact h2 (by simpa [valW, List.find?_cons, hj] using e)
theorem KvR.any {κ : Type} [DecidableEq κ] {ρ : List Addr} {G : Hp} {k : κ} : ∀ {l : List (κ × W)} {m : List (κ × V)}, KvR K ρ G l m → (l.any fun kv => decide (kv.1 = k)) = m.any fun kv => decide (kv.1 = k)
 | _, _, .nil => rfl
 | _, _, .cons a b => by rw [List.any_cons, List.any_cons, KvR.any b]
theorem KvR.repl {κ : Type} [DecidableEq κ] {ρ : List Addr} {G : Hp} {k : κ} {v : V} {d : W} (h : Dw K ρ G v d) : ∀ {l : List (κ × W)} {m : List (κ × V)}, KvR K ρ G l m → KvR K ρ G (l.map fun kv => if kv.1 = k then (kv.1, d) else kv) (m.map fun kv => if kv.1 = k then (kv.1, v) else kv)
 | _, _, .nil => .nil
 | _, _, .cons (k := j) a b => by
  rw [List.map_cons, List.map_cons]
  by_cases hj : j = k
  · simp only [if_pos hj]
    exact .cons h (KvR.repl h b)
  · simp only [if_neg hj]
    exact .cons a (KvR.repl h b)
theorem KvR.snoc {κ : Type} {ρ : List Addr} {G : Hp} {k : κ} {v : V} {d : W} (h : Dw K ρ G v d) : ∀ {l : List (κ × W)} {m : List (κ × V)}, KvR K ρ G l m → KvR K ρ G (l ++ [(k, d)]) (m ++ [(k, v)])
 | _, _, .nil => .cons h .nil
 | _, _, .cons a b => .cons a (KvR.snoc h b)
theorem KvR.put {κ : Type} [DecidableEq κ] {ρ : List Addr} {G : Hp} {k : κ} {v : V} {d : W} (h : Dw K ρ G v d) {l : List (κ × W)} {m : List (κ × V)} (r : KvR K ρ G l m) : KvR K ρ G (putKW l k d) (putK m k v) := by
 unfold putKW putK
 rw [r.any]
 split
 · exact r.repl h
 · exact r.snoc h
noncomputable def lookS (S : Sto) (n : Nat) : Option (List W) := match S[n]? with
 | some (.lst ds) => some ds
 | _ => none
noncomputable def pysG (f : W → Option PyData) : List W → Option (List PyData)
 | [] => some []
 | d :: ds => (f d).bind fun x => (pysG f ds).map (x :: ·)
noncomputable def pyS (S : Sto) : Nat → W → Option PyData
 | 0, _ => none
 | n + 1, d => match d with
  | .list ds => (pysG (pyS S n) ds).map .list
  | .tuple ds => (pysG (pyS S n) ds).map .tuple
  | .ref m => (lookS S m).bind fun ds => (pysG (pyS S n) ds).map .list
  | d => d.py
theorem yc5 {H : Hp} {ρ : List Addr} {G : Hp} {f : W → Option PyData} (hf : ∀ v d x, Dw K ρ G v d → f d = some x → Dp K H v x) : ∀ {vs : List V} {ds : List W} {xs : List PyData}, DwAll K ρ G vs ds → pysG f ds = some xs → DpAll K H vs xs
 | _, _, _, .nil, e => by cases e; exact .nil
 | _, _, _, .cons h t, e => by
  obtain ⟨x, e1, e⟩ := Option.bind_eq_some_iff.mp e
  obtain ⟨ys, e2, rfl⟩ := Option.map_eq_some_iff.mp e
  exact .cons (hf _ _ _ h e1) (yc5 hf t e2)
theorem zz3 {ρ : List Addr} {G H : Hp} {S : Sto} (sg : Same G H) (s : SR K ρ cl G H S) : ∀ (n : Nat) (v : V) (d : W) (x : PyData), Dw K ρ G v d → pyS S n d = some x → Dp K H v x
 | 0, _, _, _, _, e => by cases e
 | n + 1, v, d, x, h, e => by
  cases h with
  | lst sq da =>
   obtain ⟨xs, e1, rfl⟩ := Option.map_eq_some_iff.mp e
   exact .lst (sg.seq sq) (yc5 (fun v d x => zz3 sg s n v d x) da e1)
  | tup sq da =>
   obtain ⟨xs, e1, rfl⟩ := Option.map_eq_some_iff.mp e
   exact .tup (sg.tup (SqT.of sq)) (yc5 (fun v d x => zz3 sg s n v d x) da e1)
  | ref ea =>
   obtain ⟨ds, e1, e2⟩ := Option.bind_eq_some_iff.mp e
   obtain ⟨xs, e3, rfl⟩ := Option.map_eq_some_iff.mp e2
   unfold lookS at e1
   split at e1
   · rename_i ds' h1
     cases e1
     obtain ⟨ga, vs, k1, k2⟩ := s.addr h1 ea
     exact .lst (SqL.of k1) (yc5 (fun v d x => zz3 sg s n v d x) k2 e3)
   · cases e1
  | non => exact Dw.dp (ρ := ρ) .non e
  | bl b => exact Dw.dp (ρ := ρ) (.bl b) e
  | int i => exact Dw.dp (ρ := ρ) (.int i) e
  | str y => exact Dw.dp (ρ := ρ) (.str y) e
noncomputable def cEqS (neg : Bool) (d e : W) (S : Sto) : Option Bool := match scD d e with
 | some b => some (if neg then !b else b)
 | none => (pyS S 24 d).bind fun a => (pyS S 24 e).bind fun b => if (a.canLay0 && b.canLay0 && decide (a.depth ≤ 64)) = true then some (if neg then !(PyData.eqv a b) else PyData.eqv a b) else none
noncomputable def rEqB (K : PySem.W.Frag) (neg : Bool) : R2 := if neg then rNeA K else rEqA K
noncomputable def sEq (neg : Bool) (fa fb : DS → Sto → SM W) : DS → Sto → SM Bool := fun δ S => sBind (fa δ S) fun x S1 => sBind (fb δ S1) fun y S2 => sOk (cEqS neg x y S2) S2
theorem eqS_core {ρ : List Addr} {G H : Hp} {S : Sto} {neg : Bool} {v u : V} {x y : W} {b : Bool} {Q : VK} (sg : Same G H) (s : SR K ρ cl G H S) (dv : Dw K ρ G v x) (du : Dw K ρ G u y) (h : cEqS neg x y S = some b) (q : Q (.bl b) H) : rEqB K neg v u H Q := by
 unfold cEqS at h
 split at h
 · rename_i b' hb
   cases h
   obtain ⟨h1, h2⟩ := yj1 (dv.same sg) (du.same sg) hb
   cases neg with
   | false => exact .inl ⟨h1, by rw [h2]; exact q⟩
   | true => exact .inl ⟨h1, by rw [h2]; exact q⟩
 · obtain ⟨a, ea, h⟩ := Option.bind_eq_some_iff.mp h
   obtain ⟨c, ec, h⟩ := Option.bind_eq_some_iff.mp h
   split at h
   · rename_i hc
     cases h
     simp only [Bool.and_eq_true, decide_eq_true_eq] at hc
     cases neg with
     | false => exact .inr ⟨a, c, zz3 sg s 24 _ _ _ dv ea, zz3 sg s 24 _ _ _ du ec, hc.1.1, hc.1.2, hc.2, q⟩
     | true => exact .inr ⟨a, c, zz3 sg s 24 _ _ _ dv ea, zz3 sg s 24 _ _ _ du ec, hc.1.1, hc.1.2, hc.2, q⟩
   · cases h
theorem se_eq {neg : Bool} {ta tb : TE} {fa fb : DS → Sto → SM W} (ha : SE K cl E ta fa) (hb : SE K cl E tb fb) : SE K cl E (tOp (rEqB K neg) ta tb) (sB (sEq neg fa fb)) := fun ρ G σ H δ S r' S' Q R e q qx => by
 rcases zd0 e with ⟨c, em, rfl⟩ | ⟨b, S1, em, e⟩
 · exact zz6 (r := Rs.xc c) ha hb R em (fun x y S2 e2 => by obtain ⟨_, _, z, _⟩ := zk1 e2; cases z) (fun c' hc => by cases hc; exact qx c rfl)
 · cases e
   exact zz6 ha hb R em (fun x y S2 e2 v u ρ2 G2 H2 g2 s2 dv du => by
    obtain ⟨c, e3, z, rfl⟩ := zk1 e2
    cases z
    exact eqS_core g2.s s2 dv du e3 (q _ rfl _ ρ2 G2 H2 g2 s2 (.bl _))) (fun c hc => by cases hc)
end
end L2
set_option Elab.async false
set_option linter.all false
set_option maxRecDepth 100000
namespace L2
open PySem PySem.Spec PyProof.Rows
section
variable {K : PySem.W.Frag} {cl : Str → Addr} {E : XK}
noncomputable def sTru (f : DS → Sto → SM W) : DS → Sto → SM Bool := fun δ S => sBind (f δ S) fun x S1 => sOk (asB x) S1
noncomputable def sAndV (f g : DS → Sto → SM W) : DS → Sto → SM W := fun δ S => sBind (f δ S) fun x S1 => (asB x).bind fun b => if b = true then g δ S1 else some (.ok (.bool false), S1)
noncomputable def sOrV (f g : DS → Sto → SM W) : DS → Sto → SM W := fun δ S => sBind (f δ S) fun x S1 => (asB x).bind fun b => if b = true then some (.ok (.bool true), S1) else g δ S1
noncomputable def sNotV (f : DS → Sto → SM W) : DS → Sto → SM W := fun δ S => sBind (f δ S) fun x S1 => (asB x).map fun b => (.ok (.bool (!b)), S1)
theorem se_and {t u : TE} {f g : DS → Sto → SM W} (h1 : SE K cl E t f) (h2 : SE K cl E u g) : SE K cl E (tAndV t u) (sAndV f g) := fun ρ G σ H δ S r S' Q R e q qx =>
 zs8 h1 R e (fun x S1 e1 v ρ1 G1 H1 g1 s1 dv => by
  obtain ⟨b, e2, e3⟩ := Option.bind_eq_some_iff.mp e1
  cases yb0 e2
  cases dp_bl dv
  refine ⟨b, rfl, ?_⟩
  cases b with
  | true => exact h2 ρ1 G1 σ H1 δ S1 r S' Q (R.grow g1 s1) e3 (fun d hd v ρ2 G2 H2 g2 s2 dv => q d hd v ρ2 G2 H2 (g1.trans g2) s2 dv) fun c hc ρ2 G2 H2 g2 s2 => qx c hc ρ2 G2 H2 (g1.trans g2) s2
  | false => cases e3; exact q _ rfl _ ρ1 G1 H1 g1 s1 (.bl _)) qx
theorem ItA.ext {ρ ρ1 : List Addr} {J : It} {ds : List W} {i : Nat} {G H : Hp} (h : ρ <+: ρ1) (a : ItA K ρ J ds i G H) : ItA K ρ1 J ds i G H := ⟨fun d hd => ⟨(a.1 d hd).1, fun x H' y => by
 obtain ⟨G', g, dx⟩ := (a.1 d hd).2 x H' y
 exact ⟨G', g, dx.ext h⟩⟩, a.2⟩
theorem lookS_some {S : Sto} {n : Nat} {ds : List W} (h : lookS S n = some ds) : S[n]? = some (.lst ds) := by
 unfold lookS at h
 split at h
 · rename_i e; cases h; exact e
 · cases h
noncomputable def lookE (S : Sto) (n : Nat × Bool) : Option (List W) := (lookS S n.1).map fun es => if n.2 then enumD es else es
noncomputable def ItLv (K : PySem.W.Frag) (cl : Str → Addr) (ρ : List Addr) (J : It) (n : Nat × Bool) : Prop :=
 ∀ (i : Nat) (ρ1 : List Addr) (G1 H1 : Hp) (S1 : Sto) (es : List W), ρ <+: ρ1 → Same G1 H1 → SR K ρ1 cl G1 H1 S1 → lookE S1 n = some es → ItA K ρ1 J es i G1 H1
noncomputable def SIl (K : PySem.W.Frag) (cl : Str → Addr) (E : XK) (wi : TI) (f : DS → Sto → SM (Nat × Bool)) : Prop :=
 ∀ (ρ : List Addr) (G : Hp) (σ : St) (H : Hp) (δ : DS) (S : Sto) (r : Rs (Nat × Bool)) (S' : Sto) (R' : It → Hp → Prop), RS K cl ρ G H δ σ S → f δ S = some (r, S') →
  (∀ n, r = .ok n → ∀ J ρ' G' H', GS ρ G H ρ' G' H' → SR K ρ' cl G' H' S' → ItLv K cl ρ' J n → R' J H') →
  (∀ c, r = .xc c → ∀ ρ' G' H', GS ρ G H ρ' G' H' → SR K ρ' cl G' H' S' → E (.ref (cl c)) none H') → wi σ H R'
noncomputable def siLive (f : DS → Sto → SM W) : DS → Sto → SM (Nat × Bool) := fun δ S => sBind (f δ S) fun x S1 => (lstAt x S1).map fun p => (.ok (p.1, false), S1)
theorem si_live {t : TE} {f : DS → Sto → SM W} (h : SE K cl E t f) : SIl K cl E (iSeq K t) (siLive f) := fun ρ G σ H δ S r S' R' R e q qx =>
 zs8 h R e (fun x S1 e1 v ρ1 G1 H1 g1 s1 dv => by
  obtain ⟨⟨n, ds⟩, e2, e3⟩ := Option.map_eq_some_iff.mp e1
  cases e3
  obtain ⟨rfl, e4⟩ := zl6 e2
  obtain ⟨a, rfl, ea⟩ := zq3 dv
  obtain ⟨ga, vs, k1, k2⟩ := s1.addr e4 ea
  refine ⟨a, rfl, .inl ⟨⟨vs, SqL.of k1⟩, q (n, false) rfl _ ρ1 G1 H1 g1 s1 fun i ρ2 G2 H2 S2 es pr s2 sr he => ?_⟩⟩
  obtain ⟨es', hf, rfl⟩ := Option.map_eq_some_iff.mp he
  obtain ⟨ga2, vs2, m1, m2⟩ := sr.addr (lookS_some hf) (yc3 pr ea)
  exact yh4 s2 (SqL.of m1) m2) qx
noncomputable def yd7 (n : Nat × Bool) (h : W → DS → Option DS) (fb : DS → Sto → SO) : Nat → Nat → DS → Sto → SO
 | 0, _, _, _ => none
 | f + 1, i, δ, S => (lookE S n).bind fun es => match es[i]? with
  | none => some (.nx δ, S)
  | some d => (h d δ).bind fun δ2 => match fb δ2 S with
   | some (.nx δ', S') => yd7 n h fb f (i + 1) δ' S'
   | some (.ct δ', S') => yd7 n h fb f (i + 1) δ' S'
   | some (.bk δ', S') => some (.nx δ', S')
   | some (.rt d, S') => some (.rt d, S')
   | some (.xc c, S') => some (.xc c, S')
   | none => none
noncomputable def ssForL (m : Nat) (fi : DS → Sto → SM (Nat × Bool)) (h : W → DS → Option DS) (fb : DS → Sto → SO) : DS → Sto → SO := fun δ S => soB (fi δ S) fun n S1 => yd7 n h fb m 0 δ S1
theorem RS.lift {ρ : List Addr} {G H : Hp} {δ : DS} {σ : St} {S : Sto} {ix : List (Option Nat)} (hx : ixOk ix = true) (R : RS K cl ρ G H δ σ S) : RS K cl ρ G H (liftD ix δ) (lift ix σ) S :=
 ⟨R.rl.lift hx, R.st, fun j ds p h1 h2 => by
  obtain ⟨o, k1, k2⟩ := zy9 h1
  cases o with
  | none => cases k2
  | some i =>
   have k3 : δ[i]? = some (.own ds) := by
    cases e : δ[i]? with
    | none => simp [slAt, e] at k2
    | some s => simp [slAt, e] at k2; rw [k2]
   rw [yd8 k1] at h2
   simp only [vAt] at h2
   split at h2
   · rename_i w e
     exact R.ap i ds p k3 (by rw [e]; simpa using h2)
   · cases h2⟩
noncomputable def zm3 (h : W → DS → Option DS) (c : DS → Sto → SM Bool) (fe : DS → Sto → SM W) (δ : DS) : List W → Sto → SM (List W)
 | [], S => some (.ok [], S)
 | d :: ds, S => (h d δ).bind fun δ2 => sBind (c δ2 S) fun b S1 => if b = true then sBind (fe δ2 S1) fun e S2 => sBind (zm3 h c fe δ ds S2) fun es S3 => some (.ok (e :: es), S3) else zm3 h c fe δ ds S1
noncomputable def sComp (ix : List (Option Nat)) (fi : DS → Sto → SM (List W)) (h : W → DS → Option DS) (c : DS → Sto → SM Bool) (fe : DS → Sto → SM W) : DS → Sto → SM W := fun δ S =>
 sBind (fi δ S) fun ds S0 => if ds.length ≤ sizeLine then sBind (zm3 h c fe (liftD ix δ) ds S0) fun es S1 => some (.ok (.list es), S1) else none
theorem se_comp {ix : List (Option Nat)} {wi : TI} {g : TG} {tc : TT} {te : TE} {fi : DS → Sto → SM (List W)} {h : W → DS → Option DS} {c : DS → Sto → SM Bool} {fe : DS → Sto → SM W}
 (hx : ixOk ix = true) (hi : SIp K cl E wi fi) (hg : ∀ ρ, DG K ρ g h) (hc : ST K cl E tc c) (he : SE K cl E te fe) : SE K cl E (tComp ix wi g tc te) (sComp ix fi h c fe) := fun ρ G σ H δ S r S' Q R e q qx => by
 rcases zd0 e with ⟨c0, em, rfl⟩ | ⟨ds, S0, em, e⟩
 · exact hi ρ G σ H δ S _ _ _ R em (fun d hd => by cases hd) (fun c' hc => by cases hc; exact qx c0 rfl)
 split at e
 case isFalse => cases e
 rename_i hz
 refine hi ρ G σ H δ S _ _ _ R em (fun ds' hd => ?_) (fun c' hc => by cases hc)
 cases hd
 intro J ρ1 G1 H1 gs1 sr1 it
 have R1 := R.grow gs1 sr1
 refine ⟨fun i m ys H2 => m = ds.length - i ∧ i ≤ ds.length ∧ ys.length ≤ i ∧ ∃ ρ2 G2 as S2, GS ρ1 G1 H1 ρ2 G2 H2 ∧ SR K ρ2 cl G2 H2 S2 ∧ DwAll K ρ2 G2 ys as ∧ sBind (zm3 h c fe (liftD ix δ) (ds.drop i) S2) (fun es S1 => some (.ok (.list (as ++ es)), S1)) = some (r, S'), ⟨ds.length, by simp, Nat.zero_le _, Nat.le_refl _, ρ1, G1, [], S0, .refl gs1.s, R1.st, .nil, by simpa using e⟩, ?_⟩
 rintro i m ys H2 ⟨rfl, hil, hyl, ρ2, G2, as, S2, g2, s2, da, eb⟩
 have ia := (it i G2 H2 g2.g g2.s).ext g2.r
 have R2 := R1.grow g2 s2
 have g12 := gs1.trans g2
 by_cases hlt : i < ds.length
 · refine .inr ?_
   obtain ⟨go, step⟩ := ia.1 ds[i] (List.getElem?_eq_getElem hlt)
   rw [List.drop_eq_getElem_cons hlt] at eb
   have eb' : ∃ δ2, h ds[i] (liftD ix δ) = some δ2 ∧ sBind (sBind (c δ2 S2) fun b S1 => if b = true then sBind (fe δ2 S1) fun e S2 => sBind (zm3 h c fe (liftD ix δ) (ds.drop (i + 1)) S2) fun es S3 => some (.ok (e :: es), S3) else zm3 h c fe (liftD ix δ) (ds.drop (i + 1)) S1) (fun es S1 => some (.ok (.list (as ++ es)), S1)) = some (r, S') := by
    simp only [zm3] at eb
    cases e2 : h ds[i] (liftD ix δ) with
    | none => rw [e2] at eb; cases eb
    | some δ2 => rw [e2] at eb; exact ⟨δ2, rfl, eb⟩
   obtain ⟨δ2, e2, e3⟩ := eb'
   refine ⟨go, by omega, fun ys' H' => ys'.length ≤ i + 1 ∧ ∃ ρ3 G3 as' S3, GS ρ1 G1 H1 ρ3 G3 H' ∧ SR K ρ3 cl G3 H' S3 ∧ DwAll K ρ3 G3 ys' as' ∧ sBind (zm3 h c fe (liftD ix δ) (ds.drop (i + 1)) S3) (fun es S1 => some (.ok (.list (as' ++ es)), S1)) = some (r, S'), fun ys' H' ⟨l, z⟩ => ⟨ds.length - (i + 1), by omega, rfl, hlt, l, z⟩, fun x H' y => ?_⟩
   obtain ⟨G3, g3, dx⟩ := step x H' y
   have gs3 : GS ρ2 G2 H2 ρ2 G3 H' := .of g3
   have s3 := s2.grow g3
   have R3 := R2.grow gs3 s3
   refine hg ρ2 G3 H' (liftD ix δ) _ x _ δ2 _ (R3.lift hx).rl dx e2 fun σ2 R4 o4 => ?_
   have RS4 : RS K cl ρ2 G3 H' δ2 σ2 S2 := ⟨R4, s3, fun j ds' p h1 h2 => by
    obtain ⟨es', m1, m2⟩ := o4 j ds' p h1 h2
    exact (R3.lift hx).ap j es' p m1 m2⟩
   rcases zd0 e3 with ⟨c', em, rfl⟩ | ⟨es, S5, em, e4⟩
   · -- an exception on the way
     rcases zd0 em with ⟨c2, en, z⟩ | ⟨b, S4, en, e5⟩
     · cases z
       exact hc ρ2 G3 σ2 H' δ2 S2 _ _ _ RS4 en (fun d hd => by cases hd) (fun c3 h3 ρ5 G5 H5 g5 s5 => by cases h3; exact qx c' rfl ρ5 G5 H5 (g12.trans (gs3.trans g5)) s5)
     · refine hc ρ2 G3 σ2 H' δ2 S2 _ _ _ RS4 en (fun d hd => ?_) (fun c3 h3 => by cases h3)
       cases hd
       intro ρ5 G5 H5 g5 s5
       have g15 := g2.trans (gs3.trans g5)
       have da5 := ((da.ext (gs3.trans g5).r).same (gs3.trans g5).g)
       cases b with
       | false => exact ⟨by omega, ρ5, G5, as, S4, g15, s5, da5, by rw [show zm3 h c fe (liftD ix δ) (ds.drop (i + 1)) S4 = some (.xc c', S') from e5]; rfl⟩
       | true =>
        rw [if_pos rfl] at e5 ⊢
        rcases zd0 e5 with ⟨c2, en2, z⟩ | ⟨ev, S6, en2, e6⟩
        · cases z
          exact he ρ5 G5 σ2 H5 δ2 S4 _ _ _ (RS4.grow g5 s5) en2 (fun d hd => by cases hd) (fun c3 h3 ρ6 G6 H6 g6 s6 => by cases h3; exact qx c' rfl ρ6 G6 H6 (g12.trans (gs3.trans (g5.trans g6))) s6)
        · refine he ρ5 G5 σ2 H5 δ2 S4 _ _ _ (RS4.grow g5 s5) en2 (fun d hd => ?_) (fun c3 h3 => by cases h3)
          cases hd
          intro v ρ6 G6 H6 g6 s6 dv
          rcases zd0 e6 with ⟨c2, en3, z⟩ | ⟨es2, S7, en3, e7⟩
          · cases z
            exact ⟨by simp; omega, ρ6, G6, as ++ [ev], S6, g15.trans g6, s6, ((da5.ext g6.r).same g6.g).app (.cons dv .nil), by rw [en3]; rfl⟩
          · cases e7
   · cases e4
     rcases zd0 em with ⟨c2, en, z⟩ | ⟨b, S4, en, e5⟩
     · cases z
     · refine hc ρ2 G3 σ2 H' δ2 S2 _ _ _ RS4 en (fun d hd => ?_) (fun c3 h3 => by cases h3)
       cases hd
       intro ρ5 G5 H5 g5 s5
       have g15 := g2.trans (gs3.trans g5)
       have da5 := ((da.ext (gs3.trans g5).r).same (gs3.trans g5).g)
       cases b with
       | false => exact ⟨by omega, ρ5, G5, as, S4, g15, s5, da5, by rw [show zm3 h c fe (liftD ix δ) (ds.drop (i + 1)) S4 = some (.ok es, S') from e5]; rfl⟩
       | true =>
        rw [if_pos rfl] at e5 ⊢
        rcases zd0 e5 with ⟨c2, en2, z⟩ | ⟨ev, S6, en2, e6⟩
        · cases z
        · refine he ρ5 G5 σ2 H5 δ2 S4 _ _ _ (RS4.grow g5 s5) en2 (fun d hd => ?_) (fun c3 h3 => by cases h3)
          cases hd
          intro v ρ6 G6 H6 g6 s6 dv
          rcases zd0 e6 with ⟨c2, en3, z⟩ | ⟨es2, S7, en3, e7⟩
          · cases z
          · cases e7
            exact ⟨by simp; omega, ρ6, G6, as ++ [ev], S6, g15.trans g6, s6, ((da5.ext g6.r).same g6.g).app (.cons dv .nil), by rw [en3]; simp [sBind]⟩
 · have hi' : i = ds.length := by omega
   subst hi'
   refine .inl ⟨ia.2 (Nat.le_refl _), by omega, fun p hp => ?_⟩
   rw [List.drop_length] at eb
   simp only [zm3, sBind, List.append_nil] at eb
   cases eb
   have n : Nw H2 (upd H2 p (.lst ys)) p (.lst ys) := .of hp
   have g3 := Gr.nw g2.s n
   exact q _ rfl _ ρ2 _ _ (g12.trans (.of g3)) (s2.grow g3) (.lst (SqL.of zd1) (da.same g3.g))
end
end L2
set_option Elab.async false
set_option linter.all false
set_option maxRecDepth 100000
namespace L2
open PySem PySem.Spec PyProof.Rows
section
variable {K : PySem.W.Frag} {cl : Str → Addr} {E : XK}
noncomputable def zk0 (n : Nat × Bool) (h : W → DS → Option DS) (c : DS → Sto → SM Bool) (fe : DS → Sto → SM W) (δ : DS) : Nat → Nat → Sto → SM (List W)
 | 0, _, _ => none
 | f + 1, i, S => (lookE S n).bind fun es => match es[i]? with
  | none => some (.ok [], S)
  | some d => (h d δ).bind fun δ2 => sBind (c δ2 S) fun b S1 => if b = true then sBind (fe δ2 S1) fun e S2 => sBind (zk0 n h c fe δ f (i + 1) S2) fun es S3 => some (.ok (e :: es), S3) else zk0 n h c fe δ f (i + 1) S1
noncomputable def sCompL (m : Nat) (ix : List (Option Nat)) (fi : DS → Sto → SM (Nat × Bool)) (h : W → DS → Option DS) (c : DS → Sto → SM Bool) (fe : DS → Sto → SM W) : DS → Sto → SM W := fun δ S =>
 sBind (fi δ S) fun n S0 => if m ≤ sizeLine then sBind (zk0 n h c fe (liftD ix δ) m 0 S0) fun es S1 => some (.ok (.list es), S1) else none
theorem se_compL {m : Nat} {ix : List (Option Nat)} {wi : TI} {g : TG} {tc : TT} {te : TE} {fi : DS → Sto → SM (Nat × Bool)} {h : W → DS → Option DS} {c : DS → Sto → SM Bool} {fe : DS → Sto → SM W}
 (hx : ixOk ix = true) (hi : SIl K cl E wi fi) (hg : ∀ ρ, DG K ρ g h) (hc : ST K cl E tc c) (he : SE K cl E te fe) : SE K cl E (tComp ix wi g tc te) (sCompL m ix fi h c fe) := fun ρ G σ H δ S r S' Q R e q qx => by
 rcases zd0 e with ⟨c0, em, rfl⟩ | ⟨n, S0, em, e⟩
 · exact hi ρ G σ H δ S _ _ _ R em (fun d hd => by cases hd) (fun c' hc => by cases hc; exact qx c0 rfl)
 split at e
 case isFalse => cases e
 rename_i hz
 refine hi ρ G σ H δ S _ _ _ R em (fun n' hn => ?_) (fun c' hc => by cases hc)
 cases hn
 intro J ρ1 G1 H1 gs1 sr1 it
 have R1 := R.grow gs1 sr1
 refine ⟨fun i k ys H2 => k + i = m ∧ ys.length ≤ i ∧ ∃ ρ2 G2 as S2, GS ρ1 G1 H1 ρ2 G2 H2 ∧ SR K ρ2 cl G2 H2 S2 ∧ DwAll K ρ2 G2 ys as ∧ sBind (zk0 n h c fe (liftD ix δ) k i S2) (fun es S1 => some (.ok (.list (as ++ es)), S1)) = some (r, S'), ⟨m, by simp, Nat.le_refl _, ρ1, G1, [], S0, .refl gs1.s, R1.st, .nil, by simpa using e⟩, ?_⟩
 rintro i k ys H2 ⟨hk, hyl, ρ2, G2, as, S2, g2, s2, da, eb⟩
 have R2 := R1.grow g2 s2
 have g12 := gs1.trans g2
 cases k with
 | zero => cases eb
 | succ k =>
  have eb0 : ∃ es0, lookE S2 n = some es0 := by
   cases hl : lookE S2 n with
   | none => simp only [zk0, hl] at eb; cases eb
   | some es0 => exact ⟨es0, rfl⟩
  obtain ⟨es0, hl⟩ := eb0
  have ia := it i ρ2 G2 H2 S2 es0 g2.r g2.s s2 hl
  cases hd : es0[i]? with
  | none =>
   refine .inl ⟨ia.2 (List.getElem?_eq_none_iff.mp hd), by omega, fun p hp => ?_⟩
   simp only [zk0, hl, Option.bind_some, hd, sBind, List.append_nil] at eb
   cases eb
   have nn : Nw H2 (upd H2 p (.lst ys)) p (.lst ys) := .of hp
   have g3 := Gr.nw g2.s nn
   exact q _ rfl _ ρ2 _ _ (g12.trans (.of g3)) (s2.grow g3) (.lst (SqL.of zd1) (da.same g3.g))
  | some d0 =>
   refine .inr ?_
   obtain ⟨go, step⟩ := ia.1 d0 hd
   have eb' : ∃ δ2, h d0 (liftD ix δ) = some δ2 ∧ sBind (sBind (c δ2 S2) fun b S1 => if b = true then sBind (fe δ2 S1) fun e S2 => sBind (zk0 n h c fe (liftD ix δ) k (i + 1) S2) fun es S3 => some (.ok (e :: es), S3) else zk0 n h c fe (liftD ix δ) k (i + 1) S1) (fun es S1 => some (.ok (.list (as ++ es)), S1)) = some (r, S') := by
    simp only [zk0, hl, Option.bind_some, hd] at eb
    cases e2 : h d0 (liftD ix δ) with
    | none => rw [e2] at eb; cases eb
    | some δ2 => rw [e2] at eb; exact ⟨δ2, rfl, eb⟩
   obtain ⟨δ2, e2, e3⟩ := eb'
   refine ⟨go, by omega, fun ys' H' => ys'.length ≤ i + 1 ∧ ∃ ρ3 G3 as' S3, GS ρ1 G1 H1 ρ3 G3 H' ∧ SR K ρ3 cl G3 H' S3 ∧ DwAll K ρ3 G3 ys' as' ∧ sBind (zk0 n h c fe (liftD ix δ) k (i + 1) S3) (fun es S1 => some (.ok (.list (as' ++ es)), S1)) = some (r, S'), fun ys' H' ⟨l, z⟩ => ⟨k, Nat.lt_succ_self _, by omega, l, z⟩, fun x H' y => ?_⟩
   obtain ⟨G3, g3, dx⟩ := step x H' y
   have gs3 : GS ρ2 G2 H2 ρ2 G3 H' := .of g3
   have s3 := s2.grow g3
   have R3 := R2.grow gs3 s3
   refine hg ρ2 G3 H' (liftD ix δ) _ x _ δ2 _ (R3.lift hx).rl dx e2 fun σ2 R4 o4 => ?_
   have RS4 : RS K cl ρ2 G3 H' δ2 σ2 S2 := ⟨R4, s3, fun j ds' p h1 h2 => by
    obtain ⟨es', m1, m2⟩ := o4 j ds' p h1 h2
    exact (R3.lift hx).ap j es' p m1 m2⟩
   rcases zd0 e3 with ⟨c', em, rfl⟩ | ⟨es, S5, em, e4⟩
   · -- an exception on the way
     rcases zd0 em with ⟨c2, en, z⟩ | ⟨b, S4, en, e5⟩
     · cases z
       exact hc ρ2 G3 σ2 H' δ2 S2 _ _ _ RS4 en (fun d hd => by cases hd) (fun c3 h3 ρ5 G5 H5 g5 s5 => by cases h3; exact qx c' rfl ρ5 G5 H5 (g12.trans (gs3.trans g5)) s5)
     · refine hc ρ2 G3 σ2 H' δ2 S2 _ _ _ RS4 en (fun d hd => ?_) (fun c3 h3 => by cases h3)
       cases hd
       intro ρ5 G5 H5 g5 s5
       have g15 := g2.trans (gs3.trans g5)
       have da5 := ((da.ext (gs3.trans g5).r).same (gs3.trans g5).g)
       cases b with
       | false => exact ⟨by omega, ρ5, G5, as, S4, g15, s5, da5, by rw [show zk0 n h c fe (liftD ix δ) k (i + 1) S4 = some (.xc c', S') from e5]; rfl⟩
       | true =>
        rw [if_pos rfl] at e5 ⊢
        rcases zd0 e5 with ⟨c2, en2, z⟩ | ⟨ev, S6, en2, e6⟩
        · cases z
          exact he ρ5 G5 σ2 H5 δ2 S4 _ _ _ (RS4.grow g5 s5) en2 (fun d hd => by cases hd) (fun c3 h3 ρ6 G6 H6 g6 s6 => by cases h3; exact qx c' rfl ρ6 G6 H6 (g12.trans (gs3.trans (g5.trans g6))) s6)
        · refine he ρ5 G5 σ2 H5 δ2 S4 _ _ _ (RS4.grow g5 s5) en2 (fun d hd => ?_) (fun c3 h3 => by cases h3)
          cases hd
          intro v ρ6 G6 H6 g6 s6 dv
          rcases zd0 e6 with ⟨c2, en3, z⟩ | ⟨es2, S7, en3, e7⟩
          · cases z
            exact ⟨by simp; omega, ρ6, G6, as ++ [ev], S6, g15.trans g6, s6, ((da5.ext g6.r).same g6.g).app (.cons dv .nil), by rw [en3]; rfl⟩
          · cases e7
   · cases e4
     rcases zd0 em with ⟨c2, en, z⟩ | ⟨b, S4, en, e5⟩
     · cases z
     · refine hc ρ2 G3 σ2 H' δ2 S2 _ _ _ RS4 en (fun d hd => ?_) (fun c3 h3 => by cases h3)
       cases hd
       intro ρ5 G5 H5 g5 s5
       have g15 := g2.trans (gs3.trans g5)
       have da5 := ((da.ext (gs3.trans g5).r).same (gs3.trans g5).g)
       cases b with
       | false => exact ⟨by omega, ρ5, G5, as, S4, g15, s5, da5, by rw [show zk0 n h c fe (liftD ix δ) k (i + 1) S4 = some (.ok es, S') from e5]; rfl⟩
       | true =>
        rw [if_pos rfl] at e5 ⊢
        rcases zd0 e5 with ⟨c2, en2, z⟩ | ⟨ev, S6, en2, e6⟩
        · cases z
        · refine he ρ5 G5 σ2 H5 δ2 S4 _ _ _ (RS4.grow g5 s5) en2 (fun d hd => ?_) (fun c3 h3 => by cases h3)
          cases hd
          intro v ρ6 G6 H6 g6 s6 dv
          rcases zd0 e6 with ⟨c2, en3, z⟩ | ⟨es2, S7, en3, e7⟩
          · cases z
          · cases e7
            exact ⟨by simp; omega, ρ6, G6, as ++ [ev], S6, g15.trans g6, s6, ((da5.ext g6.r).same g6.g).app (.cons dv .nil), by rw [en3]; simp [sBind]⟩
end
theorem sr_nil {K : PySem.W.Frag} {cl : Str → Addr} {G H : Hp} : SR K [] cl G H [] := ⟨rfl, List.nodup_nil, fun n o e => by simp at e⟩
end L2
set_option Elab.async false
set_option linter.all false
set_option maxRecDepth 100000
namespace L2
open PySem PySem.Spec PyProof.Rows PySem.AutoSeq1
theorem ext_any (l b : Addr) (xs ys : Array Value) (n k : Nat) (sl : Array (Option Value)) (h1 : ¬(!xs.isEmpty && Builtin.List.listTooLong (xs.size + ys.size)) = true) (h2 : xs.size ≤ sizeLine) (h3 : xs.size + ys.size ≤ sizeLine + 1) :
 Meets (Builtin.«list.extend» ⟨[.ref l, .ref b], []⟩) (fun _ R s => s.heap.get? l = some { cls := .type "list", data := .seq xs n } ∧ s.heap.get? b = some { cls := .type "list", dict := none, data := .seq ys k, slots := sl } ∧ R (.ok (.ret .none)) { s with heap := s.heap.update l (Obj.mapSeq (· ++ ys)), toks := s.toks }) :=
 .of_wp fun prog w A R s h => by
  obtain ⟨hp, g, d, tk, os⟩ := s
  obtain ⟨hl, hb, h⟩ := h
  have e1 := idx_int
  have e2 := AutoSeq1.sub_tuple_tuple
  have e3 := AutoSeq1.sub_list_list
  have e4 := AutoSeq1.sub_tuple_list
  have e5 := AutoSeq1.sub_list_tuple
  have hz : (xs ++ ys).size ≤ sizeLine + 1 := by
   rw [Array.size_append]
   exact h3
  wp_walk using (wpAny_updateSeq hl rfl (hz := h2) (_hz' := hz)), wpAny_loadPart' hl, wpAny_loadPart' hb
  exact ⟨_, rfl, h⟩
section
variable {X : Cx}
noncomputable def yd0 (K : PySem.W.Frag) : V → List V → Hp → VK → Prop := fun x vs H Q => ∃ l b xs ys, x = .ref l ∧ vs = [.ref b] ∧ H l = some (.lst xs) ∧ SqL K H b ys ∧ xs.length + ys.length ≤ sizeLine ∧ Q .non (upd H l (.lst (xs ++ ys)))
theorem zt8 : MtM X "list.extend" (yd0 X.K) := by
 intro pins s σ H x vs v us Q I rx rv h
 obtain ⟨l, b, xs, ys, rfl, rfl, h1, h2, h3, q⟩ := h
 cases rx
 obtain ⟨u, rfl, ru⟩ := rv.one
 cases ru
 obtain ⟨z, its, n, r, hl, e⟩ := I.lstM h1
 obtain ⟨jts, r2, ⟨⟨oc, od, da, sl⟩, k, e2, c1, c2, c3⟩, z2⟩ := I.list h2
 simp only at c1 c2 c3
 subst c1 c2 c3
 have l2 := r2.length
 have hn : ¬ (!its.toArray.isEmpty && Builtin.List.listTooLong (its.toArray.size + jts.toArray.size)) = true := by
  rw [List.size_toArray, List.size_toArray, notLongL (by omega), Bool.and_false]
  exact Bool.false_ne_true
 refine call_meets F.slot_list_extend ⟨_, e, rfl⟩ F.entry_list_extend (F.args_list_extend_2 _ _) (ext_any l b its.toArray jts.toArray n k sl hn (by rw [List.size_toArray]; omega) (by rw [List.size_toArray, List.size_toArray]; omega)) ⟨e, e2, ?_⟩
 refine ⟨.non, _, I.lset (its' := its ++ jts) h1 e (by simp) (r.append r2) ?_, rfl, q⟩
 rw [List.length_append]
 omega
end
section
variable {K : PySem.W.Frag} {ρ : List Addr}
theorem dwAll_strs {G : Hp} : ∀ ws : List Str, DwAll K ρ G (ws.map V.str) (ws.map W.str)
 | [] => .nil
 | w :: ws => .cons (.str w) (dwAll_strs ws)
theorem inG_core {H : Hp} {x : V} {d : W} {a : Addr} {ws : List Str} {b : Bool} (h : SqT K H a (ws.map V.str)) (hx : Dw K ρ H x d) (e : cIn d (.tuple (ws.map W.str)) = some b) : flatV x = true ∧ (ws.map V.str).all flatV = true ∧ inV x (ws.map V.str) = b := by
 obtain ⟨ds, e1, e⟩ := Option.bind_eq_some_iff.mp e
 obtain ⟨v, e2, e⟩ := Option.bind_eq_some_iff.mp e
 obtain ⟨vs, e3, rfl⟩ := Option.map_eq_some_iff.mp e
 cases e1
 obtain ⟨rfl, f1⟩ := ye5 hx e2
 obtain ⟨rfl, f2⟩ := zx3 (K := K) (ρ := ρ) (H := H) (dwAll_strs ws) e3
 exact ⟨f1, f2, rfl⟩
theorem din_core {neg : Bool} {ta : TE} {fa : DS → Option W} {a : Addr} {ws : List Str} (hs : ∀ G, SqT K G a (ws.map V.str)) (ha : DK K ρ ta fa) {G : Hp} {σ : St} {H : Hp} {δ : DS} {b : Bool} {Q : VK} (R : Rl K ρ G H δ σ) (e : dCmp (if neg then zx5 else cIn) fa (dC (.tuple (ws.map W.str))) δ = some b) (q : ∀ G' H', Gr G H G' H' → Q (.bl b) H') : tOp (rIn K neg) ta (tC (.ref a)) σ H Q := by
 obtain ⟨x, ex, e⟩ := Option.bind_eq_some_iff.mp e
 have e : (if neg then zx5 else cIn) x (.tuple (ws.map W.str)) = some b := e
 refine ha G σ H δ x _ R ex fun v G1 H1 g1 dv => ?_
 have dv := dv.dp g1.s
 cases neg with
 | false =>
  obtain ⟨f1, f2, rfl⟩ := inG_core (hs H1) dv e
  exact ⟨a, _, rfl, .inr (hs H1), f1, f2, q G1 H1 g1⟩
 | true =>
  obtain ⟨b', e', rfl⟩ := Option.map_eq_some_iff.mp e
  obtain ⟨f1, f2, rfl⟩ := inG_core (hs H1) dv e'
  exact ⟨a, _, rfl, .inr (hs H1), f1, f2, q G1 H1 g1⟩
theorem dt_inG {ta : TE} {fa : DS → Option W} {a : Addr} {ws : List Str} (hs : ∀ G, SqT K G a (ws.map V.str)) (ha : DK K ρ ta fa) : DT K ρ (tTest (tOp (rIn K false) ta (tC (.ref a)))) (dCmp cIn fa (dC (.tuple (ws.map W.str)))) := fun G σ H δ b Q R e q =>
 din_core (neg := false) hs ha R e fun G' H' g => ⟨b, rfl, q G' H' g⟩
theorem dt_notInG {ta : TE} {fa : DS → Option W} {a : Addr} {ws : List Str} (hs : ∀ G, SqT K G a (ws.map V.str)) (ha : DK K ρ ta fa) : DT K ρ (tTest (tOp (rIn K true) ta (tC (.ref a)))) (dCmp zx5 fa (dC (.tuple (ws.map W.str)))) := fun G σ H δ b Q R e q =>
 din_core (neg := true) hs ha R e fun G' H' g => ⟨b, rfl, q G' H' g⟩
noncomputable def zw2 (i : Nat) (f : DS → Option W) : DS → Option Out := fun δ => (ownAt i δ).bind fun ds => (f δ).bind fun d => (listD d).bind fun es => if ds.length + es.length ≤ sizeLine then some (.nx (δ.set i (.own (ds ++ es)))) else none
theorem ds_extendV {i : Nat} {t : TE} {f : DS → Option W} (h : DE K ρ t f) : DSt K ρ (tDrop (tBM K "list" (yd0 K) (tVar i) (tCons t tNil))) (zw2 i f) := fun G0 H0 G σ H δ o D I e p => by
 obtain ⟨ds, eo, e⟩ := Option.bind_eq_some_iff.mp e
 obtain ⟨d, ed, e⟩ := Option.bind_eq_some_iff.mp e
 obtain ⟨es, ee, e⟩ := Option.bind_eq_some_iff.mp e
 split at e
 case isFalse => cases e
 rename_i hz
 cases e
 cases zw8 ee
 have ho := yc9 eo
 obtain ⟨o, h1, q, vs, rfl, h3, h4, h5⟩ := I.rl.sl i _ ho
 refine ⟨.ref q, h1, .inl ⟨rfl, vs, SqL.of h4⟩, h G σ H δ _ _ I.rl ed fun v G1 H1 g1 dv => ?_⟩
 have I1 := I.grow g1
 cases dv with
 | lst sq da =>
  refine ⟨q, _, vs, _, rfl, rfl, g1.h _ _ h4, g1.s.seq sq, by rw [h5.length, da.length]; exact hz, ?_⟩
  exact p σ G1 _ (I1.put ho h1 (g1.n q (by rw [h4]; simp) h3) ((h5.same g1.g).app da))
end
structure FunD (K : PySem.W.Frag) (x q : Str) (st : Stmt) (f : Addr) (fd : FuncData) : Prop where
 ex : ∃ (dV oc kV dc pm cd ct : Value) (od an : Option Addr) (sl : Array (Option Value)), fd = PySem.W.fnOf x q (zd2 st) (zc6 st) (zb3 st) dV kV dc pm an cd ct ∧ K.lookup f = some ⟨oc, od, .func fd, sl⟩ ∧ PySem.W.codeIn K cd q = true
 kp : PySem.W.keepIn K (.ref f) = true
structure DfD (K : PySem.W.Frag) (mg : Str → Option Value) (x : Str) (st : Stmt) (ps : List Str) (f : Addr) (fd : FuncData) : Prop where
 fn : FunD K x x st f fd
 b : Binds K fd ps []
 b1 : Binds K fd ps [.none]
 m : mg x = some (.ref f)
theorem FunD.ok {P : Program} {w : World} {K : PySem.W.Frag} {mg : Str → Option Value} {base : Heap} {x q : Str} {st : Stmt} {f : Addr} {fd : FuncData} {N ps : List Str} {k : Nat} {sp : Sp} (F : FunD K x q st f fd) (S : FnScope N ps (zb3 st)) (hl : ∀ vs H Q E, sp vs H Q E → vs.length = ps.length)
 (hb : ∀ (cd : Value) (A : Around) (outer : List Env) (s : Shared) (H : Hp) (vs : List V) (Q : VK) (E : XK), Room k (A.deeper (envOfC q (zb3 st) s.heap.objs.size f cd)) → sp vs H Q E →
  ∃ t, PSs (cxOf CX0 P w K mg base N q (zb3 st) f cd A outer s H E).nox (zc6 st) t ∧ t ({ nx := fun _ H' => Q V.non H', rt := Q } : Ends) (start N vs) H) : FnOk P w K mg base CX0 (k + 1) f fd ps sp := by
 obtain ⟨dV, oc, kV, dc, pm, cd, ct, od, an, sl, rfl, lk, hc⟩ := F.ex
 refine fn_of lk hc S hl fun A outer s H vs Q E hr hs => ?_
 obtain ⟨t, h, r⟩ := hb cd A outer s H vs Q E hr hs
 exact ⟨t, h.nox, r⟩
theorem funD_mk {K : PySem.W.Frag} {x q : Str} {st : Stmt} {f : Addr} {dV oc kV dc pm cd ct : Value} {od an : Option Addr} {sl : Array (Option Value)} (l : K.lookup f = some ⟨oc, od, .func (PySem.W.fnOf x q (zd2 st) (zc6 st) (zb3 st) dV kV dc pm an cd ct), sl⟩) (c : PySem.W.codeIn K cd q = true) (k : PySem.W.keepIn K (.ref f) = true) : FunD K x q st f (PySem.W.fnOf x q (zd2 st) (zc6 st) (zb3 st) dV kV dc pm an cd ct) := ⟨⟨dV, oc, kV, dc, pm, cd, ct, od, an, sl, rfl, l, c⟩, k⟩
section
variable {K : PySem.W.Frag} {ρ : List Addr}
noncomputable def yk2 (f : List W → Option W) (fa : DS → Option (List W)) : DS → Option W := fun δ => (fa δ).bind fun ds => f (ds ++ [.none])
theorem DwAll.appd {G : Hp} : ∀ {vs us : List V} {ds es : List W}, DwAll K ρ G vs ds → DwAll K ρ G us es → DwAll K ρ G (vs ++ us) (ds ++ es)
 | _, _, _, _, .nil, h => h
 | _, _, _, _, .cons a t, h => .cons a (t.appd h)
theorem de_callN {f : List W → Option W} {t : TA} {fa : DS → Option (List W)} {E : XK} (h : DA K ρ t fa) : DE K ρ (tCall (spD K f) [.non] E t) (yk2 f fa) := fun G σ H δ d Q R e q => by
 obtain ⟨ds, ed, e⟩ := Option.bind_eq_some_iff.mp e
 exact h G σ H δ ds _ R ed fun vs G1 H1 g1 da => ⟨ρ, G1, ds ++ [.none], d, g1.s, da.appd (.cons .non .nil), e, fun v G2 H2 g2 dv => q v G2 H2 (g1.trans g2) dv⟩
end
theorem vals_non : Vals [V.non] [Value.none] := .cons rfl .nil
end L2
set_option Elab.async false
set_option linter.all false
set_option maxRecDepth 100000
namespace L2
open PySem PySem.Spec PyProof.Rows
section
variable {K : PySem.W.Frag} {cl : Str → Addr} {E : XK}
noncomputable def keysL : List W → Option (List Key)
 | [] => some []
 | d :: ds => (keyOf d).bind fun k => (keysL ds).map (k :: ·)
noncomputable def ye7 : W → Option (List Key)
 | .tuple ds => keysL ds
 | _ => none
theorem keysL_eq {ρ : List Addr} {G : Hp} : ∀ {vs : List V} {ds : List W} {ks : List Key}, DwAll K ρ G vs ds → keysL ds = some ks → vs = ks.map kV
 | _, _, _, .nil, e => by cases e; rfl
 | _, _, _, .cons h t, e => by
  obtain ⟨k, e1, e⟩ := Option.bind_eq_some_iff.mp e
  obtain ⟨ks, e2, rfl⟩ := Option.map_eq_some_iff.mp e
  rw [yc2 h e1, keysL_eq t e2]
  rfl
theorem keysOf_eq {ρ : List Addr} {G : Hp} {v : V} {d : W} {ks : List Key} (h : Dw K ρ G v d) (e : ye7 d = some ks) : ∃ b, v = .ref b ∧ G b = some (.tup (ks.map kV)) := by
 cases h with
 | tup sq da => exact ⟨_, rfl, by rw [← keysL_eq da e]; exact sq⟩
 | _ => cases e
noncomputable def getK (x y : W) (S : Sto) : Option (Option W) := match obAt x S with
 | some (_, .dK kvs) => (keyOf y).map fun k => valW kvs k
 | some (_, .dT kvs) => (ye7 y).map fun k => valW kvs k
 | _ => none
theorem getK_ok {ρ : List Addr} {G H : Hp} {S : Sto} {v u : V} {x y : W} {o : Option W} (sg : Same G H) (s : SR K ρ cl G H S) (dv : Dw K ρ G v x) (du : Dw K ρ G u y) (h : getK x y S = some o) : ∃ a r, v = .ref a ∧ DGet H a u r ∧ (match o with | some d => ∃ z, r = some z ∧ Dw K ρ G z d | none => r = none) := by
 unfold getK at h
 split at h
 · rename_i n kvs e1
   obtain ⟨k, e3, e4⟩ := Option.map_eq_some_iff.mp h
   obtain ⟨rfl, e5⟩ := zp8 e1
   obtain ⟨a, rfl, ea⟩ := zq3 dv
   obtain ⟨ga, ws, k1, k2⟩ := s.addr e5 ea
   obtain ⟨v1, v2⟩ := k2.val (k := k)
   refine ⟨a, valV ws k, rfl, ?_, ?_⟩
   · rw [yc2 du e3]
     exact DGet.k k1
   · cases o with
     | some d => exact v1 d e4
     | none => exact v2 e4
 · rename_i n kvs e1
   obtain ⟨k, e3, e4⟩ := Option.map_eq_some_iff.mp h
   obtain ⟨rfl, e5⟩ := zp8 e1
   obtain ⟨a, rfl, ea⟩ := zq3 dv
   obtain ⟨ga, ws, k1, k2⟩ := s.addr e5 ea
   obtain ⟨v1, v2⟩ := k2.val (k := k)
   obtain ⟨b, rfl, hb⟩ := keysOf_eq du e3
   refine ⟨a, valV ws k, rfl, DGet.t k1 (sg _ _ hb), ?_⟩
   · cases o with
     | some d => exact v1 d e4
     | none => exact v2 e4
 · cases h
noncomputable def sDGet (fo fk : DS → Sto → SM W) : DS → Sto → SM W := fun δ S => sBind (fo δ S) fun x S1 => sBind (fk δ S1) fun y S2 => (getK x y S2).bind fun o => sOk o S2
theorem ya4 {to tk : TE} {fo fk : DS → Sto → SM W} (ho : SE K cl E to fo) (hk : SE K cl E tk fk) : SE K cl E (tDGet to tk) (sDGet fo fk) := fun ρ G σ H δ S r S' Q R e q qx =>
 zz6 ho hk R e (fun x y S2 e2 v u ρ2 G2 H2 g2 s2 dv du => by
  obtain ⟨o, e3, e4⟩ := Option.bind_eq_some_iff.mp e2
  obtain ⟨d, rfl, rfl, rfl⟩ := zk1 e4
  obtain ⟨a, r, rfl, h1, z, rfl, h2⟩ := getK_ok g2.s s2 dv du e3
  exact ⟨a, z, rfl, h1, q d rfl z ρ2 G2 H2 g2 s2 h2⟩) qx
noncomputable def sDIn (neg : Bool) (fk fo : DS → Sto → SM W) : DS → Sto → SM Bool := fun δ S => sBind (fk δ S) fun y S1 => sBind (fo δ S1) fun x S2 => sOk ((getK x y S2).map fun o => if neg then !o.isSome else o.isSome) S2
theorem st_dnotin {to tk : TE} {fo fk : DS → Sto → SM W} (hk : SE K cl E tk fk) (ho : SE K cl E to fo) : ST K cl E (tB (tDNotIn tk to)) (sDIn true fk fo) := fun ρ G σ H δ S r S' Q R e q qx =>
 zz6 hk ho R e (fun y x S2 e2 u v ρ2 G2 H2 g2 s2 du dv => by
  obtain ⟨b, e3, rfl, rfl⟩ := zk1 e2
  obtain ⟨o, e4, rfl⟩ := Option.map_eq_some_iff.mp e3
  obtain ⟨a, r, rfl, h1, h2⟩ := getK_ok g2.s s2 dv du e4
  have hb : r.isSome = o.isSome := by
   cases o with
   | some d => obtain ⟨z, rfl, _⟩ := h2; rfl
   | none => rw [show r = none from h2]; rfl
  refine ⟨a, r, rfl, h1, ?_⟩
  rw [hb]
  exact ⟨!o.isSome, rfl, q _ rfl ρ2 G2 H2 g2 s2⟩) qx
noncomputable def putA (x y d : W) (S : Sto) : Option Sto := match obAt x S with
 | some (n, .dK kvs) => (keyOf y).bind fun k => if kvs.length < sizeLine then some (S.set n (.dK (putKW kvs k d))) else none
 | some (n, .dT kvs) => (ye7 y).bind fun k => if kvs.length < sizeLine then some (S.set n (.dT (putKW kvs k d))) else none
 | _ => none
theorem putA_ok {ρ : List Addr} {G H : Hp} {S S' : Sto} {v u w : V} {x y d : W} (sg : Same G H) (s : SR K ρ cl G H S) (dv : Dw K ρ G v x) (du : Dw K ρ G u y) (dw : Dw K ρ G w d) (h : putA x y d S = some S') : ∃ a H', v = .ref a ∧ DPut H a u w H' ∧ SR K ρ cl G H' S' ∧ GS ρ G H ρ G H' := by
 unfold putA at h
 split at h
 · rename_i n kvs e1
   obtain ⟨k, e3, e4⟩ := Option.bind_eq_some_iff.mp h
   split at e4
   case isFalse => cases e4
   rename_i hl
   cases e4
   obtain ⟨rfl, e5⟩ := zp8 e1
   obtain ⟨a, rfl, ea⟩ := zq3 dv
   obtain ⟨ga, ws, k1, k2⟩ := s.addr e5 ea
   obtain ⟨s4, g4⟩ := s.put (x := .dK (putK ws k w)) (o' := .dK (putKW kvs k d)) sg e5 ea (fun b z => by cases z) ⟨_, zd1, k2.put dw⟩
   refine ⟨a, _, rfl, ?_, s4, g4⟩
   rw [yc2 du e3]
   exact DPut.k k1 (by rw [← k2.length]; exact hl)
 · rename_i n kvs e1
   obtain ⟨k, e3, e4⟩ := Option.bind_eq_some_iff.mp h
   split at e4
   case isFalse => cases e4
   rename_i hl
   cases e4
   obtain ⟨rfl, e5⟩ := zp8 e1
   obtain ⟨a, rfl, ea⟩ := zq3 dv
   obtain ⟨ga, ws, k1, k2⟩ := s.addr e5 ea
   obtain ⟨s4, g4⟩ := s.put (x := .dT (putK ws k w)) (o' := .dT (putKW kvs k d)) sg e5 ea (fun b z => by cases z) ⟨_, zd1, k2.put dw⟩
   obtain ⟨b, rfl, hb⟩ := keysOf_eq du e3
   exact ⟨a, _, rfl, DPut.t k1 (sg _ _ hb) (by rw [← k2.length]; exact hl), s4, g4⟩
 · cases h
noncomputable def ye9 (fo fk fv : DS → Sto → SM W) : DS → Sto → SO := fun δ S => soB (fv δ S) fun d S1 => soB (fo δ S1) fun x S2 => soB (fk δ S2) fun y S3 => (putA x y d S3).map fun S4 => (.nx δ, S4)
theorem ss_dput {to tk tv : TE} {fo fk fv : DS → Sto → SM W} (ho : SE K cl E to fo) (hk : SE K cl E tk fk) (hv : SE K cl E tv fv) : SSt K cl E (sDPut to tk tv) (ye9 fo fk fv) := fun ρ0 G0 H0 ρ G σ H δ S o S' D I e p =>
 zs7 hv I e p fun d S1 e1 v ρ1 G1 H1 g1 s1 dv => by
  have I1 := I.grow g1 s1
  refine zs7 ho I1 e1 p fun x S2 e2 u ρ2 G2 H2 g2 s2 du => ?_
  have I2 := I1.grow g2 s2
  refine zs7 hk I2 e2 p fun y S3 e3 w ρ3 G3 H3 g3 s3 dw => ?_
  obtain ⟨S4, e4, e5⟩ := Option.map_eq_some_iff.mp e3
  cases e5
  have g23 := g2.trans g3
  obtain ⟨a, H4, rfl, h1, s4, g4⟩ := putA_ok g3.s s3 ((du.ext g3.r).same g3.g) dw ((dv.ext g23.r).same g23.g) e4
  exact ⟨a, _, rfl, h1, p σ ρ3 G3 _ ((I2.grow g3 s3).grow g4 s4)⟩
end
theorem Room.units1 {k : Nat} {A : Around} (r : Room k A) : A.units + 1 < cLine := Nat.lt_of_le_of_lt (by omega) r.units
section
variable {K : PySem.W.Frag} {cl : Str → Addr} {E : XK}
noncomputable def rLenD : List V → Hp → VK → Prop := fun xs H Q => ∃ a kvs, xs = [V.ref a] ∧ H a = some (.dK kvs) ∧ Q (.int kvs.length) H
theorem call_lenDK {X : Cx} : CallR X (.builtin "len") rLenD := call_lenD
noncomputable def sDLen (fa : DS → Sto → SM W) : DS → Sto → SM W := fun δ S => sBind (fa δ S) fun x S1 => sOk ((dkAt x S1).map fun p => .int p.2.length) S1
theorem se_dlen {ta : TE} {fa : DS → Sto → SM W} (ha : SE K cl E ta fa) : SE K cl E (tCB rLenD (tCons ta tNil)) (sDLen fa) := fun ρ G σ H δ S r' S' Q R e q qx =>
 zs8 ha R e (fun x S2 e2 v ρ2 G2 H2 g2 s2 dv => by
  obtain ⟨c, e3, rfl, rfl⟩ := zk1 e2
  obtain ⟨⟨n, kvs⟩, e4, rfl⟩ := Option.map_eq_some_iff.mp e3
  obtain ⟨rfl, e5⟩ := dkAt_some e4
  obtain ⟨a, rfl, ea⟩ := zq3 dv
  obtain ⟨ga, ws, k1, k2⟩ := s2.addr e5 ea
  refine ⟨a, ws, rfl, k1, ?_⟩
  rw [← k2.length]
  exact q _ rfl _ ρ2 G2 H2 g2 s2 (.int _)) qx
end
section
variable {K : PySem.W.Frag} {ρ : List Addr}
end
section
variable {K : PySem.W.Frag} {cl : Str → Addr} {E : XK}
end
end L2
set_option Elab.async false
set_option linter.all false
set_option maxRecDepth 100000
namespace L2
open PySem PySem.Spec PyProof.Rows
open PySem.AutoSeq1 (wpAny_loadPart')
section
variable {prog : Program} {w : World} {A : Around} {E : Value → Shared → Prop} {s : Shared}
theorem initKw {T mk : String} {me : Value} {more : List Value} {kw : List (Str × Value)} (h1 : typeLookup (.type T) "__init__" = pure (some (.builtin "object.__init__")))
 (h2 : Bind.madeBy (.type T) = pure (some mk)) (h3 : (some mk != some "object.__new__") = true) : Meets (Builtin.«object.__init__» ⟨me :: more, kw⟩) (fun _ R s => s.TypeIs me T ∧ R (.ok (.ret .none)) s) := by
 refine .of_wp fun pr wo B R z hz => ?_
 obtain ⟨t1, t2⟩ := hz
 cases more with
 | nil =>
  cases kw with
  | nil => exact wpAny_pure ⟨_, rfl, t2⟩
  | cons k ks =>
   repeat (any_goals (first | assumption | wp_step))
   exact ⟨_, rfl, t2⟩
 | cons a as =>
  repeat (any_goals (first | assumption | wp_step))
  exact ⟨_, rfl, t2⟩
theorem callTyKw {T mk : String} {B : Builtin} {vs : List Value} {kw : List (Str × Value)} {S : PySem.Spec} {Q : Value → Shared → Prop} (ft : TypeCalled T mk "object.__init__") (hne : (some mk != some "object.__new__") = true)
 (c1 : checkTypeCall T ⟨vs, kw⟩ = pure ()) (c2 : checkBuiltinCall mk ⟨.type T :: vs, kw⟩ = pure ()) (c3 : ∀ o, argsOk "object.__init__" ⟨o :: vs, kw⟩) (eB : entryFor table mk = some B) (g : Meets (B ⟨.type T :: vs, kw⟩) S)
 (h : S A.in1 (wants (fun o z => z.TypeIs o T ∧ Q o z) E) s) : wpAny (model prog w) A (call (.type T) vs kw) Q E s := by
 obtain ⟨c, tl, m1⟩ := ft.mro
 have m2 := ft.made
 have m3 := ft.sub
 refine wpAny_call (codeAny_of_tree ?_)
 show wpAny _ _ (callAny (.type T) _) _ _ _
 refine wpAny_pure ⟨Code.quiet_builtin _ (by decide +kernel), codeAny_builtin F.entry_type_call ?_⟩
 rw [Around.under_plain (weight_type_call_type T vs kw) (units_type_call_type T vs kw)]
 have m4 := ft.notType
 have m5 := ft.canCreate
 repeat (any_goals (first | assumption | wp_step))
 refine codeAny_mono (codeAny_call_builtin ft.plain eB (wpAny_of_eq c2 (g prog w A.in1 _ s h))) fun r z hr => ?_
 cases r with
 | error e => exact hr
 | ok fl =>
  cases fl with
  | ret o =>
   obtain ⟨t1, t2⟩ := hr
   have l1 := ft.init.lookup
   have l2 := ft.init.bind o
   repeat (any_goals (first | assumption | wp_step))
   refine codeAny_mono (codeAny_call_builtin ft.init.plain F.entry_object_init (ft.init.check _ _ _ _ _ _ _ _ t1 (c3 o) (initKw ft.init.lookup ft.made hne prog w A.in1 (wants (fun r y => r = .none ∧ Q o y) E) z ⟨t1, rfl, t2⟩))) fun r2 z2 hr2 => ?_
   cases r2 with
   | error e => exact hr2
   | ok f2 =>
    cases f2 with
    | ret r =>
     obtain ⟨rfl, q⟩ := hr2
     repeat (any_goals (first | assumption | wp_step))
    | _ => exact hr2.elim
  | _ => exact hr.elim
theorem okTyKw (a b : Value) : checkTypeCall "enumerate" ⟨[a], [("start", b)]⟩ = pure () := by kernel_rfl
theorem okNewKw (a b : Value) : checkBuiltinCall "enumerate.__new__" ⟨[.type "enumerate", a], [("start", b)]⟩ = pure () := by kernel_rfl
end
end L2
set_option Elab.async false
set_option linter.all false
set_option maxRecDepth 100000
namespace L2
open PySem PySem.Spec PyProof.Rows
open PySem.AutoSeq1 (wpAny_loadPart')
noncomputable abbrev itObj (l : Addr) : Obj := { cls := .type "list_iterator", data := .fields #[.ref l, .int 0 0] }
noncomputable abbrev enObj (it : Addr) (z : Int) : Obj := { cls := .type "enumerate", data := .fields #[.none, .bool false, .ref it, rawInt z, .none, .none] }
theorem enumNewK (l : Addr) (items : Array Value) (n : Nat) (dct : Option Addr) (sl : Array (Option Value)) (z : Int) (t : Tok) (hf : Builtin.SmallTypes.fitsIndex z = true) :
 Meets (Builtin.«enumerate.__new__» ⟨[.type "enumerate", .ref l], [("start", .int z t)]⟩) (fun _ R s => s.heap.get? l = some { cls := .type "list", dict := dct, data := .seq items n, slots := sl } ∧
  R (.ok (.ret (.ref (s.heap.push (itObj l)).objs.size))) { s with heap := (s.heap.push (itObj l)).push (enObj s.heap.objs.size z) }) :=
 .of_wp fun prog w A R s h => by
  obtain ⟨hp, g, d, tk, os⟩ := s
  obtain ⟨hl, h⟩ := h
  have e0 := sub_enumerate
  have hL : Heap.IsList (Shared.heap ⟨hp, g, d, tk, os⟩) l items := ⟨_, hl, rfl, n, rfl⟩
  wp_walk using wpAny_loadPart' hl
  refine wpAny_stack_any fun st => wpAny_pure ?_
  have hf' : (!Builtin.SmallTypes.fitsIndex z) = false := by rw [hf]; rfl
  have f1 : ¬ (!Builtin.SmallTypes.fitsIndex z) = true := by rw [hf']; exact Bool.false_ne_true
  split
  · rename_i c _ _ _ _ _
    cases (c == Value.type "enumerate")
    · wp_walk using wpAny_loadPart' hl, wpAny_pyIter_list hL
      exact ⟨_, rfl, h⟩
    · wp_walk using wpAny_loadPart' hl, wpAny_pyIter_list hL
      exact ⟨_, rfl, h⟩
  · wp_walk using wpAny_loadPart' hl, wpAny_pyIter_list hL
    exact ⟨_, rfl, h⟩
section
variable {prog : Program} {w : World} {A : Around} {E : Value → Shared → Prop} {s : Shared}
theorem initStart (o a b : Value) : argsOk "object.__init__" ⟨[o, a], [("start", b)]⟩ := by
 unfold argsOk
 rw [signature?_of (id := "object.__init__") (n := "__tini__".toList) (o := "tcejbo".toList) (by kernel_rfl) F.owner_object]
 kernel_rfl
theorem callEnumK {l : Addr} {items : Array Value} {z : Int} {t : Tok} {Q : Value → Shared → Prop} (hf : Builtin.SmallTypes.fitsIndex z = true) (hL : s.heap.IsList l items)
 (h : ∀ h', IsEnum h' (s.heap.objs.size + 1) s.heap.objs.size z .none → h'.IsListIter s.heap.objs.size l 0 → (∀ b o, s.heap.get? b = some o → h'.get? b = some o) → Q (.ref (s.heap.objs.size + 1)) { s with heap := h' }) :
 wpAny (model prog w) A (call (.type "enumerate") [.ref l] [("start", .int z t)]) Q E s := by
 obtain ⟨⟨c, dct, dt, sl⟩, hl, hc, n, hd⟩ := hL
 replace hc : c = .type "list" := hc
 replace hd : dt = .seq items n := hd
 subst hc hd
 refine callTyKw F.called_enumerate (by decide) (okTyKw _ _) (okNewKw _ _) (fun o => initStart o _ _) F.entry_enumerate_new (enumNewK l items n dct sl z t hf) ⟨hl, ?_⟩
 have e1 : (s.heap.push (itObj l)).objs.size = s.heap.objs.size + 1 := Heap.size_push ..
 have e2 : IsEnum ((s.heap.push (itObj l)).push (enObj s.heap.objs.size z)) (s.heap.objs.size + 1) s.heap.objs.size z .none := by
  have e3 := Heap.get?_push_size (s.heap.push (itObj l)) (o := enObj s.heap.objs.size z) rfl
  rw [e1] at e3
  exact e3
 show _ ∧ _
 rw [e1]
 exact ⟨⟨_, e2, rfl⟩, h _ e2 ⟨_, Heap.get?_push_of_some _ (Heap.get?_push_size _ rfl), rfl, rfl⟩ fun b o x => Heap.get?_push_of_some _ (Heap.get?_push_of_some _ x)⟩
theorem drawsFrom {it l : Addr} {items : Array Value} (k m i0 : Nat) (hh : A.handled = none) (hil : l ≠ it) (h1 : ∀ i, i0 ≤ i → i < m → i < items.size) (h2 : items[m]? = none) :
 Draws prog w A it [it, l] (k + m) (fun j y => ∃ i, j = k + i ∧ items[i]? = some y) (fun j h => ∃ i, j = k + i ∧ i0 ≤ i ∧ h.IsListIter it l i ∧ h.IsList l items) where
 live := fun j h ⟨i, _, _, ⟨o, ho, _⟩, _⟩ => ⟨o, ho⟩
 frame := fun j h h' ⟨i, e, hi, a, b⟩ hk => ⟨i, e, hi, a.at fun o q => hk it (by simp) o q, b.at fun o q => hk l (by simp) o q⟩
 item := fun j s Q E hj ⟨i, e, hi, a, b⟩ hQ => by
  have hlt := h1 i hi (by omega)
  exact wpAny_nextOf_list_item a b (x := items[i]) (by simp [hlt]) fun h' a' s' => hQ _ h' s.toks ⟨i, e, by simp [hlt]⟩ ⟨i + 1, by omega, by omega, a', b.extBut s'.extBut hil⟩ s'
 done := fun s Q E ⟨i, e, hi, a, b⟩ hE => by
  have e' : i = m := by omega
  subst e'
  exact wpAny_nextOf_list_end hh a b h2 hE
theorem apartIt {h : Heap} {it l : Addr} {i : Nat} {items : Array Value} (a : h.IsListIter it l i) (b : h.IsList l items) : l ≠ it := fun z => by
 obtain ⟨o, e1, c1, _⟩ := a
 obtain ⟨o', e2, c2, _⟩ := b
 rw [z, e1] at e2
 cases e2
 rw [c1] at c2
 simp at c2
theorem apartEn {h : Heap} {e it l : Addr} {z : Int} {old : Value} {items : Array Value} (a : IsEnum h e it z old) (b : h.IsList l items) : e ≠ l := fun z => by
 obtain ⟨o', e2, c2, _⟩ := b
 rw [← z, a] at e2
 cases e2
 simp at c2
theorem nextFrom {e it l : Addr} {k i : Nat} {items : Array Value} {x old : Value} {Q : Option Value → Shared → Prop} (hh : A.handled = none) (he : IsEnum s.heap e it ((k + i : Nat) : Int) old) (hit : s.heap.IsListIter it l i) (hl : s.heap.IsList l items) (hx : items[i]? = some x) (hne : e ≠ it)
 (hQ : ∀ h' tk, IsEnumOut h' e it (((k + i : Nat) : Int) + 1) x s.heap.objs.size → h'.IsListIter it l (i + 1) → h'.get? s.heap.objs.size = some { cls := .type "tuple", data := .seq #[.int ((k + i : Nat) : Int) tk, x] } →
  (∀ b o, b ≠ e → b ≠ it → s.heap.get? b = some o → h'.get? b = some o) → Q (some (.ref s.heap.objs.size)) { s with heap := h', toks := tk + 1 }) : wpAny (model prog w) A (pyNext (.ref e)) Q E s := by
 have hlt : i < items.size := (Array.getElem?_eq_some_iff.mp hx).1
 have D := drawsFrom (prog := prog) (w := w) (A := A.in1) (items := items) k items.size 0 hh (apartIt hit hl) (fun _ _ h => h) (by simp)
 refine wpAny_pyNext_enum_itemD D he ⟨i, rfl, Nat.zero_le _, hit, hl⟩ (by omega) hne (by simp [hne, apartEn he hl]) fun y h' tk p1 p2 p3 p4 p5 p6 => ?_
 obtain ⟨j, q1, q2⟩ := p1
 obtain ⟨j', q3, _, q4, _⟩ := p3
 have z1 : j = i := by omega
 have z2 : j' = i + 1 := by omega
 subst z1 z2
 rw [hx] at q2
 cases q2
 exact hQ h' tk p2 q4 p4 p6
theorem endFrom {e it l : Addr} {k i : Nat} {items : Array Value} {old : Value} {Q : Option Value → Shared → Prop} (hh : A.handled = none) (he : IsEnum s.heap e it ((k + i : Nat) : Int) old) (hit : s.heap.IsListIter it l i) (hl : s.heap.IsList l items) (hx : items[i]? = none)
 (hQ : ∀ h', Heap.ExtBut it s.heap h' → Q none { s with heap := h' }) : wpAny (model prog w) A (pyNext (.ref e)) Q E s := by
 have D := drawsFrom (prog := prog) (w := w) (A := A.in1) (items := items) k i i hh (apartIt hit hl) (fun j h1 h2 => by omega) hx
 exact wpAny_pyNext_enum_endD D he ⟨i, rfl, Nat.le_refl _, hit, hl⟩ hQ
end
noncomputable def ItS (K : PySem.W.Frag) (a : Addr) (k : Nat) : It :=
 ⟨fun i H => ∃ xs x, SqL K H a xs ∧ xs[i]? = some x, fun i H v H' => ∃ p x, H p = none ∧ v = .ref p ∧ H' = upd H p (.tup [.int ((k + i : Nat) : Int), x]) ∧ ∀ xs, SqL K H a xs → xs[i]? = some x, fun i H => ∃ xs, SqL K H a xs ∧ xs.length ≤ i⟩
theorem turnS {P : Program} {w : World} {K : PySem.W.Frag} {elts : List Expr} {x1} {pos : Pos} (a e it : Addr) (k : Nat) (hei : e ≠ it) :
 Turn P w K (.Tuple elts x1 pos) (ItS K a k) [e, it] e (fun i h => (∃ old, IsEnum h e it ((k + i : Nat) : Int) old) ∧ h.IsListIter it a i) where
 mem := by simp
 obj := fun i h st c hc => by
  obtain ⟨⟨old, e1⟩, ⟨o4, e4, _, d4⟩⟩ := st
  simp only [List.mem_cons, List.not_mem_nil, or_false] at hc
  rcases hc with rfl | rfl
  · exact ⟨_, e1, fun v z => by cases z⟩
  · exact ⟨o4, e4, fun v z => by rw [d4] at z; cases z⟩
 keep := fun i h h' st kp => by
  obtain ⟨⟨old, e1⟩, e4⟩ := st
  exact ⟨⟨old, kp e (by simp) _ e1⟩, e4.at fun o q => kp it (by simp) o q⟩
 item := by
  intro X hP hw hK hc i pins s σ H E I hf st hg
  subst hP hw hK
  obtain ⟨xs, x, qx, hx⟩ := hg
  obtain ⟨its, rvx, px, _⟩ := I.list qx
  obtain ⟨u, hu, ru⟩ := rvx.get hx
  obtain ⟨⟨old, e1⟩, e4⟩ := st
  have big : ∀ {c : Addr} {o : Obj}, s.heap.get? c = some o → c ≠ s.heap.objs.size := fun e => Nat.ne_of_lt (Heap.lt_size e)
  refine nextFrom (I.ok.hd hc) e1 e4 px.isList (x := u) (by simpa using hu) hei fun h' tk a1 a2 a3 a5 => ?_
  refine ⟨_, rfl, wpAny_letOwnedTupleGo_enum (s := { s with heap := h', toks := tk + 1 }) a1 fun h'' b1 b2 => ?_⟩
  have k2 : ∀ c o, c ∉ [e, it] → s.heap.get? c = some o → h''.get? c = some o := fun c o hc q => by
   simp only [List.mem_cons, List.not_mem_nil, or_false, not_or] at hc
   exact (b2.2 c hc.1).trans (a5 c o hc.1 hc.2 q)
  have eT : IsTup h'' s.heap.objs.size (List.toArray [.int ((k + i : Nat) : Int) tk, u]) := ⟨_, (b2.2 _ (big e1).symm).trans a3, rfl, _, rfl⟩
  have I1 := I.turnedTup (t' := tk + 1) (xs := [.int ((k + i : Nat) : Int), x]) hf k2 (Nat.le_refl _) eT (.cons ⟨_, rfl⟩ (.cons ru .nil)) (by show 2 ≤ sizeLine; decide)
  refine ⟨.ref s.heap.objs.size, _, I1, rfl, ⟨s.heap.objs.size, x, I.hok.fresh (Nat.le_refl _), rfl, rfl, fun zs hz => by rw [I.list_inj hz qx]; exact hx⟩, ⟨⟨u, by simpa [Int.add_assoc] using b1⟩, a2.at fun o q => (b2.2 _ hei.symm).trans q⟩, fun c hc => ?_⟩
  have hcn : c ≠ s.heap.objs.size := by
   obtain ⟨o4, g4, _⟩ := id e4
   simp only [List.mem_cons, List.not_mem_nil, or_false] at hc
   rcases hc with rfl | rfl
   · exact big e1
   · exact big g4
  rw [zd9 hcn]
  exact (hf c hc).1
 done := by
  intro X hP hw hK hc i pins s σ H E I hf st hg
  subst hP hw hK
  obtain ⟨xs, qx, hl⟩ := hg
  obtain ⟨its, rvx, px, _⟩ := I.list qx
  obtain ⟨⟨old, e1⟩, e4⟩ := st
  have lx := rvx.length
  obtain ⟨f0, f1, f2, f3, f4, f5⟩ := hf it (by simp)
  exact endFrom (I.ok.hd hc) e1 e4 px.isList (by simp; omega) fun h' kp => ⟨rfl, I.turned (t' := s.toks) (fun b o hb q => kp b o hb q) f0 f1 f3 f4 f5⟩
 self := fun _ _ _ _ _ st h => by
  obtain ⟨⟨old, e1⟩, _⟩ := st
  exact wpAny_pyIter_enum e1 h
noncomputable def iEnumS (K : PySem.W.Frag) (ta : TA) (tx : TE) : TI := fun σ H R => ta σ H fun vs H1 => tx σ H1 fun y H2 => ∃ (a : Addr) (k : Nat), vs = [.ref a] ∧ y = .int k ∧ k < 2 ^ 62 ∧ (∃ xs, SqL K H2 a xs) ∧ R (ItS K a k) H2
section
variable {M : Model} {A : Around} {E : Value → Shared → Prop} {s : Shared} {env : Env}
theorem withKw {pos : Pos} {T : String} {e : Expr} {n : Str} {x : Expr} {kp : Pos} {Q : Value → Shared → Prop}
 (h : wpAny M A (spliced (backTo pos (starEach [e] env))) (fun vs s1 => wpAny M A (eval x env) (fun v s2 => wpAny M A (call (.type T) vs [(n, v)]) Q E s2) E s1) E s)
 (he : starEach [e] env = [(false, eval e env)] := by rfl) :
 wpAny M A (callWith pos (.type T) [] (backTo pos (starEach [e] env)) (backToKw pos (keywordEach [⟨some n, x, kp⟩] env))) Q E s := by
 rw [he] at h ⊢
 unfold callWith
 refine wpAny_bind (wpAny_holding (wpAny_mono (evalArgs_kwB (Q := fun a s1 => wpAny M A (call (.type T) ([] ++ a.pos) a.kw) Q E s1) rfl (wpAny_mono h (fun vs s1 h1 => ?_) fun _ _ z => z)) (fun a s1 h1 => wpAny_bind (wpAny_standAt ?_)) fun _ _ z => z))
 · exact kws_cons (wpAny_mono h1 (fun v s2 h2 => kws_nil h2) fun _ _ z => z)
 · refine wpAny_bind (wpAny_pure ?_)
   exact wpAny_bind (wpAny_mono h1 (fun r s2 hr => wpAny_bind (wpAny_holding (wpAny_point (wpAny_pure hr)))) fun _ _ z => z)
end
theorem pi_enumS {X : Cx} {K : PySem.W.Frag} {elts : List Expr} {x1} {tpos : Pos} {a x : Expr} {ta : TA} {tx : TE} {p pos kp : Pos} (hK : X.K = K) (hg : Gl X "enumerate") (hm : X.mg "enumerate" = none) (ha : PA X [a] ta) (hx : PE X x tx) (hs : starEach [a] X.env = [(false, eval a X.env)] := by rfl)
 (he : eval (.Call (.Name "enumerate" p) [a] [⟨some "start", x, kp⟩] pos) X.env = (do callWith pos (← eval (.Name "enumerate" p) X.env) [] (backTo pos (starEach [a] X.env)) (backToKw pos (keywordEach [⟨some "start", x, kp⟩] X.env))) := by rfl) :
 PI X (.Tuple elts x1 tpos) (.Call (.Name "enumerate" p) [a] [⟨some "start", x, kp⟩] pos) (iEnumS K ta tx) := by
 subst hK
 intro pins s σ H R I h
 rw [he]
 refine wpAny_bind (yb5 I hg hm boot_enumerate (withKw (thn (ha pos pins s σ H _ I h) fun us s1 ⟨vs, H1, I1, r1, q1⟩ => thn (hx pins s1 σ H1 _ I1 q1) fun u s2 hq0 => ?_) hs))
 obtain ⟨y, H2, I2, ry, q2⟩ := hq0
 obtain ⟨b, k, e1, e2, hk, ⟨xs, qx⟩, q⟩ := q2
 subst e1 e2
 obtain ⟨t, rfl⟩ : ∃ t, u = .int k t := ry
 cases r1 with
 | cons r rr =>
  cases rr
  cases r
  obtain ⟨its, rvx, px, _⟩ := I2.list qx
  refine callEnumK (by simp only [Builtin.SmallTypes.fitsIndex, Bool.and_eq_true, decide_eq_true_eq]; omega) px.isList fun h' g5 g1 kp => ?_
  refine wpAny_pyIter_enum (s := { s2 with heap := h' }) g5 ?_
  refine ⟨s2.heap.objs.size + 1, [s2.heap.objs.size + 1, s2.heap.objs.size], _, _, H2, rfl, I2.kept (t' := s2.toks) kp, turnS b _ _ k (Nat.ne_of_gt (Nat.lt_succ_self _)), ⟨⟨_, g5⟩, g1⟩, fun c hc => ?_, q⟩
  have hc' : s2.heap.objs.size ≤ c := by
   simp only [List.mem_cons, List.not_mem_nil, or_false] at hc
   rcases hc with h | h <;> subst h <;> first
    | exact Nat.le_refl _
    | exact Nat.le_add_right _ _
  exact I2.fpOk hc' (I2.hok.fresh hc')
noncomputable def zv9 (k : Nat) (ds : List W) : List W := (List.range ds.length).map fun (i : Nat) => .tuple [.int ((k + i : Nat) : Int), ds[i]?.getD .none]
section
variable {K : PySem.W.Frag} {ρ : List Addr}
theorem enumDS_get {k : Nat} {ds : List W} {i : Nat} {d : W} (h : (zv9 k ds)[i]? = some d) : ∃ x, ds[i]? = some x ∧ d = .tuple [.int ((k + i : Nat) : Int), x] := by
 have hi : i < ds.length := by
  have := (List.getElem?_eq_some_iff.mp h).1
  simpa [zv9] using this
 unfold zv9 at h
 rw [List.getElem?_map, List.getElem?_range hi] at h
 cases h
 exact ⟨ds[i], List.getElem?_eq_getElem hi, by simp [List.getElem?_eq_getElem hi]⟩
theorem itS_at {G1 H1 : Hp} {a : Addr} {k : Nat} {xs : List V} {ds : List W} {i : Nat} (s : Same G1 H1) (q : SqL K H1 a xs) (da : DwAll K ρ G1 xs ds) : ItA K ρ (ItS K a k) (zv9 k ds) i G1 H1 := by
 refine ⟨fun d hd => ?_, fun h => ⟨xs, q, by rw [da.length]; simpa [zv9] using h⟩⟩
 obtain ⟨x, hx, rfl⟩ := enumDS_get hd
 obtain ⟨v, h1, h2⟩ := da.get hx
 refine ⟨⟨xs, v, q, h1⟩, fun y H' w => ?_⟩
 obtain ⟨p, u, hp, rfl, rfl, w⟩ := w
 have := w xs q
 rw [h1] at this
 cases this
 have n : Nw H1 (upd H1 p (.tup [.int ((k + i : Nat) : Int), v])) p (.tup [.int ((k + i : Nat) : Int), v]) := .of hp
 have g := Gr.nw s n
 exact ⟨_, g, .tup zd1 (.cons (.int _) (.cons (h2.same g.g) .nil))⟩
noncomputable def tupD : W → Option (List W)
 | .tuple ds => some ds
 | _ => none
theorem tupD_eq {d : W} {ds : List W} (h : tupD d = some ds) : d = .tuple ds := by
 cases d <;> first | (cases h; rfl) | cases h
theorem tupD_t (ds : List W) : tupD (.tuple ds) = some ds := rfl
noncomputable def dSlT (f : DS → Option W) (lo hi : DS → Option (Option Int)) : DS → Option W := fun δ => (f δ).bind fun d => (tupD d).bind fun ds => (lo δ).bind fun l => (hi δ).map fun u => .tuple (cutW ds l u)
theorem yi4 {t : TE} {tl th : TO} {f : DS → Option W} {lo hi : DS → Option (Option Int)} (h : DE K ρ t f) (hl : DOp K ρ tl lo) (hh : DOp K ρ th hi) : DE K ρ (tSl (rSlTN K) t tl th) (dSlT f lo hi) := fun G σ H δ d Q R e q => by
 obtain ⟨x, ed, e⟩ := Option.bind_eq_some_iff.mp e
 obtain ⟨es, ee, e⟩ := Option.bind_eq_some_iff.mp e
 obtain ⟨l, el, e⟩ := Option.bind_eq_some_iff.mp e
 obtain ⟨u, eu, rfl⟩ := Option.map_eq_some_iff.mp e
 cases tupD_eq ee
 refine h G σ H δ _ _ R ed fun v G1 H1 g1 dv => hl G1 σ H1 δ l _ (R.grow g1) el fun G2 H2 g2 => hh G2 σ H2 δ u _ ((R.grow g1).grow g2) eu fun G3 H3 g3 => ?_
 have g23 := g2.trans g3
 have g := g1.trans g23
 obtain ⟨p, vs, rfl, sq, da⟩ := yh9 (dv.same g23.g)
 refine ⟨p, vs, rfl, SqT.of (g.s _ _ sq), ?_⟩
 by_cases hw : HT.sIx vs.length 0 l = 0 ∧ HT.sIx vs.length vs.length u = vs.length
 · refine .inl ⟨hw.1, hw.2, q _ G3 H3 g ?_⟩
   have e1 : cutW es l u = es := by
    unfold cutW
    rw [← da.length, hw.1, hw.2, da.length]
    simp
   rw [e1]
   exact .tup sq da
 · refine .inr ⟨hw, fun r H' n => ?_⟩
   have g4 := Gr.nw g.s n
   exact q _ _ H' (g.trans g4) (.tup zd1 ((da.cut l u).same g4.g))
noncomputable def gIsiB (T : String) : W → Option W
 | .list _ => if T = "list" then some (.bool true) else none
 | .tuple _ => if T = "tuple" then some (.bool true) else none
 | d => gIsi T d
theorem de_isiB {T : String} {t : TE} {f : DS → Option W} (h : DE K ρ t f) : DE K ρ (tCB (rIsiB K) (tCons t (tCons (tC (.ty T)) tNil))) (dC1 (gIsiB T) f) := fun G σ H δ d Q R e q => by
 obtain ⟨x, ex, e2⟩ := Option.bind_eq_some_iff.mp e
 clear e
 refine h G σ H δ x _ R ex fun v G1 H1 g1 dv => ?_
 show rIsiB K [v, .ty T] H1 Q
 unfold gIsiB at e2
 split at e2
 · split at e2
   · rename_i hT
     subst hT
     cases e2
     obtain ⟨a, vs, rfl, sq, da⟩ := yh0 dv
     exact .inr (.inr ⟨a, vs, "list", true, rfl, g1.s.seq sq, kit_same _ (by decide), q _ G1 H1 g1 (.bl _)⟩)
   · cases e2
 · split at e2
   · rename_i hT
     subst hT
     cases e2
     obtain ⟨a, vs, rfl, sq, da⟩ := yh9 dv
     exact .inr (.inl ⟨a, vs, "tuple", true, rfl, g1.s.tup (SqT.of sq), kit_same _ (by decide), q _ G1 H1 g1 (.bl _)⟩)
   · cases e2
 · unfold gIsi at e2
   split at e2
   all_goals first
    | cases e2
    | (obtain ⟨k, ek, rfl⟩ := Option.map_eq_some_iff.mp e2
       cases dv
       exact .inl ⟨_, T, k, rfl, ek, q _ G1 H1 g1 (.bl k)⟩)
theorem isiB_l (ds : List W) : gIsiB "list" (.list ds) = some (.bool true) := by simp [gIsiB]
theorem isiB_t (ds : List W) : gIsiB "tuple" (.tuple ds) = some (.bool true) := by simp [gIsiB]
end
section
variable {K : PySem.W.Frag} {cl : Str → Addr} {E : XK}
noncomputable def enS (x y : W) : Option (List W) := match x, y with
 | .list es, .int z => if 0 ≤ z ∧ z < 2 ^ 62 then some (zv9 z.toNat es) else none
 | _, _ => none
noncomputable def yd4 (fa : DS → Sto → SM (List W)) (fx : DS → Sto → SM W) : DS → Sto → SM (List W) := fun δ S => sBind (fa δ S) fun ds S1 => sBind (fx δ S1) fun y S2 => match ds with
 | [x] => sOk (enS x y) S2
 | _ => none
theorem sip_enumS {ta : TA} {tx : TE} {fa : DS → Sto → SM (List W)} {fx : DS → Sto → SM W} (ha : SA K cl E ta fa) (hx : SE K cl E tx fx) : SIp K cl E (iEnumS K ta tx) (yd4 fa fx) := fun ρ G σ H δ S r S' R' R e q qx =>
 zw1 ha R e (fun ds S1 e1 vs ρ1 G1 H1 g1 s1 da => zs8 hx (R.grow g1 s1) e1 (fun y S2 e2 u ρ2 G2 H2 g2 s2 du => by
  split at e2
  case h_2 => cases e2
  rename_i x
  obtain ⟨es, e3, rfl, rfl⟩ := zk1 e2
  unfold enS at e3
  split at e3
  case h_2 => cases e3
  rename_i xs z
  split at e3
  case isFalse => cases e3
  rename_i hz
  cases e3
  obtain ⟨v, rfl, dv⟩ := yh3 da
  cases zp7 du
  have g12 := g1.trans g2
  cases dv with
  | lst sq da' =>
   have sq2 := (g2.g.trans g2.s).seq sq
   have da2 := (da'.ext g2.r).same g2.g
   exact ⟨_, z.toNat, rfl, by rw [Int.toNat_of_nonneg hz.1], by omega, ⟨_, sq2⟩, q _ rfl _ ρ2 G2 H2 g12 s2 fun i G3 H3 a b => itS_at b ((a.trans b).seq (g2.g.seq sq)) (da2.same a)⟩) fun c hc ρ2 G2 H2 g2 s2 => qx c hc ρ2 G2 H2 (g1.trans g2) s2) qx
noncomputable def cInS (d e : W) (S : Sto) : Option Bool := (seqS e S).bind fun ds => (vOf d).bind fun v => (vsOf ds).map fun vs => inV v vs
noncomputable def sInS (neg : Bool) (fa fb : DS → Sto → SM W) : DS → Sto → SM Bool := fun δ S => sBind (fa δ S) fun x S1 => sBind (fb δ S1) fun y S2 => sOk ((cInS x y S2).map fun b => if neg then !b else b) S2
theorem st_inS {neg : Bool} {ta tb : TE} {fa fb : DS → Sto → SM W} (ha : SE K cl E ta fa) (hb : SE K cl E tb fb) : ST K cl E (tTest (tOp (rIn K neg) ta tb)) (sInS neg fa fb) := fun ρ G σ H δ S r' S' Q R e q qx =>
 zz6 ha hb R e (fun x y S2 e2 v u ρ2 G2 H2 g2 s2 dv du => by
  obtain ⟨b, e3, rfl, rfl⟩ := zk1 e2
  obtain ⟨b', e4, rfl⟩ := Option.map_eq_some_iff.mp e3
  obtain ⟨ds, e5, e4⟩ := Option.bind_eq_some_iff.mp e4
  obtain ⟨v', e6, e4⟩ := Option.bind_eq_some_iff.mp e4
  obtain ⟨vs, e7, rfl⟩ := Option.map_eq_some_iff.mp e4
  obtain ⟨p, xs, rfl, h2, da⟩ := seqS_read g2.s s2 du e5
  obtain ⟨rfl, f1⟩ := ye5 dv e6
  obtain ⟨rfl, f2⟩ := zx3 da e7
  cases neg with
  | false => exact ⟨p, xs, rfl, h2, f1, f2, _, rfl, q _ rfl ρ2 G2 H2 g2 s2⟩
  | true => exact ⟨p, xs, rfl, h2, f1, f2, _, rfl, q _ rfl ρ2 G2 H2 g2 s2⟩) qx
end
theorem zq0 {X : Cx} {K : PySem.W.Frag} {e : Expr} {f : Str} {pos : Pos} {ta : TE} (hK : X.K = K) (he : PE X e ta) (hb : attributeBase e f X.env (eval e X.env) = eval e X.env) : PE X (.Attribute e f pos) (tFld K ta f) := hK ▸ pe_fld he hb
end L2
set_option Elab.async false
set_option linter.all false
set_option maxRecDepth 100000
namespace L2
open PySem PySem.Spec PyProof.Rows
theorem at1 {α : Type} (x y : α) (r : List α) : atI (x :: y :: r) 1 = some y := by
 unfold atI ixN
 rw [if_pos (by decide), if_pos (by simp; omega)]
 rfl
theorem at0 {α : Type} (x : α) (r : List α) : atI (x :: r) 0 = some x := by
 unfold atI ixN
 rw [if_pos (by decide), if_pos (by simp)]
 rfl
theorem sz (n : Nat) (h : n ≤ 9000) : n ≤ sizeLine := Nat.le_trans h (by decide)
theorem zr7 {S : Sto} {l : Nat} {es : List W} (h : S[l]? = some (.lst es)) : lstAt (.ref l) S = some (l, es) := by simp [lstAt, obAt, h]
theorem dk_at {S : Sto} {l : Nat} {es : List (Key × W)} (h : S[l]? = some (.dK es)) : dkAt (.ref l) S = some (l, es) := by simp [dkAt, obAt, h]
theorem valW_put {κ : Type} [DecidableEq κ] : ∀ (kvs : List (κ × W)) (k q : κ) (x : W), valW kvs k = none → valW (kvs ++ [(k, x)]) q = if q = k then some x else valW kvs q := fun kvs k q x h => by
 induction kvs with
 | nil =>
  by_cases e : q = k
  · subst e; simp [valW]
  · have e' : ¬ k = q := fun z => e z.symm
    simp [valW, e, e']
 | cons p r ih =>
  obtain ⟨j, y⟩ := p
  by_cases hj : j = k
  · subst hj
    simp [valW, List.find?_cons] at h
  · have h' : valW r k = none := by simpa [valW, List.find?_cons, hj] using h
    have ih' := ih h'
    by_cases hq : j = q
    · subst hq
      simp [valW, List.find?_cons, hj]
    · simp only [valW, List.cons_append, List.find?_cons, hq, decide_false] at ih' ⊢
      exact ih'
theorem putKW_new {κ : Type} [DecidableEq κ] {kvs : List (κ × W)} {k : κ} (x : W) (h : valW kvs k = none) : putKW kvs k x = kvs ++ [(k, x)] := by
 unfold putKW
 rw [if_neg]
 intro ha
 obtain ⟨kv, h1, h2⟩ := List.any_eq_true.mp ha
 unfold valW at h
 have h3 : kvs.find? (fun kv => decide (kv.1 = k)) = none := by
  cases hf : kvs.find? (fun kv => decide (kv.1 = k)) with
  | none => rfl
  | some z => rw [hf] at h; cases h
 exact absurd h2 (by simpa using List.find?_eq_none.mp h3 kv h1)
theorem zq1 {S : Sto} {m : Nat} {o x : Ob} (h : S[m]? = some o) : (S ++ [x])[m]? = some o := by
 rw [List.getElem?_append_left (List.getElem?_eq_some_iff.mp h).1]
 exact h
theorem rngD_succ (lo : Int) (n : Nat) : rngD lo (n + 1) = .int lo :: rngD (lo + 1) n := by
 unfold rngD
 rw [List.range_succ_eq_map, List.map_cons, List.map_map]
 congr 1
 · simp
 · apply List.map_congr_left
   intro a _
   show W.int (lo + ((a + 1 : Nat) : Int)) = W.int (lo + 1 + (a : Int))
   congr 1
   omega
theorem sCompGo_step (h : W → DS → Option DS) (fe : DS → Sto → SM W) (δ δ2 : DS) (d e : W) (ds es : List W) (S S1 S2 : Sto) (h1 : h d δ = some δ2) (h2 : fe δ2 S = some (.ok e, S1)) (h3 : zm3 h (sPure dYes) fe δ ds S1 = some (.ok es, S2)) : zm3 h (sPure dYes) fe δ (d :: ds) S = some (.ok (e :: es), S2) := by
 show (h d δ).bind _ = _
 rw [h1]
 show sBind (fe δ2 S) _ = _
 rw [h2]
 show sBind (zm3 h (sPure dYes) fe δ ds S1) _ = _
 rw [h3]
 rfl
theorem ze6 {a n : Nat} {fb : DS → Sto → SO} {ds : List W} {S : Sto} (h : ds.length = a) : bodyS a n fb ds S = outS (fb (startD n ds) S) := if_pos h
theorem zb6 {f g : DS → Sto → SO} {δ δ' : DS} {S S' : Sto} (h : f δ S = some (.nx δ', S')) : ssSeq f g δ S = g δ' S' := by unfold ssSeq; rw [h]
theorem ya5 {c : DS → Sto → SM Bool} {f g : DS → Sto → SO} {δ : DS} {S S1 : Sto} (h : c δ S = some (.ok true, S1)) : ssIf c f g δ S = f δ S1 := by unfold ssIf; rw [h]; rfl
theorem zv6 {c : DS → Sto → SM Bool} {f g : DS → Sto → SO} {δ : DS} {S S1 : Sto} (h : c δ S = some (.ok false, S1)) : ssIf c f g δ S = g δ S1 := by unfold ssIf; rw [h]; rfl
theorem zp5 {f : DS → Sto → SM W} {h : W → DS → Option DS} {δ δ' : DS} {S S1 : Sto} {d : W} (h1 : f δ S = some (.ok d, S1)) (h2 : h d δ = some δ') : ssAsg f h δ S = some (.nx δ', S1) := by
 unfold ssAsg
 rw [h1]
 show (h d δ).map _ = _
 rw [h2]
 rfl
theorem zo8 {fi : DS → Sto → SM (List W)} {h : W → DS → Option DS} {fb : DS → Sto → SO} {δ : DS} {S S1 : Sto} {ds : List W} (h1 : fi δ S = some (.ok ds, S1)) : ssFor fi h fb δ S = zn4 h fb ds δ S1 := by unfold ssFor; rw [h1]; rfl
theorem zi0 {h : W → DS → Option DS} {fb : DS → Sto → SO} {d : W} {ds : List W} {δ δ2 δ' : DS} {S S' : Sto} (h1 : h d δ = some δ2) (h2 : fb δ2 S = some (.nx δ', S')) : zn4 h fb (d :: ds) δ S = zn4 h fb ds δ' S' := by
 show (h d δ).bind _ = _
 rw [h1]
 show (match fb δ2 S with | some (.nx δ', S') => _ | some (.ct δ', S') => _ | some (.bk δ', S') => _ | some (.rt d, S') => _ | some (.xc c, S') => _ | none => _) = _
 rw [h2]
theorem sComp_of {ix : List (Option Nat)} {fi : DS → Sto → SM (List W)} {h : W → DS → Option DS} {c : DS → Sto → SM Bool} {fe : DS → Sto → SM W} {δ : DS} {S S0 S1 : Sto} {ds es : List W} (h1 : fi δ S = some (.ok ds, S0)) (h2 : ds.length ≤ sizeLine) (h3 : zm3 h c fe (liftD ix δ) ds S0 = some (.ok es, S1)) : sComp ix fi h c fe δ S = some (.ok (.list es), S1) := by
 unfold sComp
 rw [h1]
 show (if ds.length ≤ sizeLine then _ else _) = _
 rw [if_pos h2, h3]
 rfl
theorem sCompL_of {m : Nat} {n : Nat × Bool} {ix : List (Option Nat)} {fi : DS → Sto → SM (Nat × Bool)} {h : W → DS → Option DS} {c : DS → Sto → SM Bool} {fe : DS → Sto → SM W} {δ : DS} {S S0 S1 : Sto} {es : List W} (h1 : fi δ S = some (.ok n, S0)) (h2 : m ≤ sizeLine) (h3 : zk0 n h c fe (liftD ix δ) m 0 S0 = some (.ok es, S1)) : sCompL m ix fi h c fe δ S = some (.ok (.list es), S1) := by
 unfold sCompL
 rw [h1]
 show (if m ≤ sizeLine then _ else _) = _
 rw [if_pos h2, h3]
 rfl
theorem rng1_of {j : Int} (h1 : 0 ≤ j) (h2 : j < 1000000) : rng1L [.int j] = some (rngD 0 j.toNat) := by
 show rng1 j = _
 unfold rng1
 rw [if_pos (rngOk_of (by omega) (by omega))]
theorem zs3 (i : Int) {j : Int} (h : 0 < j) : 0 ≤ i.fmod j ∧ i.fmod j < j := ⟨Int.fmod_nonneg_of_pos i h, Int.fmod_lt_of_pos i h⟩
theorem lookE_l {S : Sto} {l : Nat} {es : List W} (h : S[l]? = some (.lst es)) : lookE S (l, false) = some es := by simp [lookE, lookS, h]
mutual
noncomputable def okW : W → Bool
 | .none | .bool _ | .int _ => true
 | .str x => PyData.strOk x
 | .list ds | .tuple ds => okWs ds
 | .ref _ => false
noncomputable def okWs : List W → Bool
 | [] => true
 | d :: ds => okW d && okWs ds
end
mutual
noncomputable def depW : W → Nat
 | .list ds | .tuple ds => depWs ds + 1
 | _ => 0
noncomputable def depWs : List W → Nat
 | [] => 0
 | d :: ds => max (depW d) (depWs ds)
end
mutual
theorem yk3 : ∀ (d : W), okW d = true → ∃ a, d.py = some a ∧ a.canLay0 = true ∧ a.depth = depW d ∧ PyData.eqv a a = true
 | .none, _ => ⟨.none, rfl, by simp [PyData.canLay0], by simp [PyData.depth, depW], by simp [PyData.eqv]⟩
 | .bool b, _ => ⟨.bool b, rfl, by simp [PyData.canLay0], by simp [PyData.depth, depW], by simp [PyData.eqv]⟩
 | .int i, _ => ⟨.int i, rfl, by simp [PyData.canLay0], by simp [PyData.depth, depW], by simp [PyData.eqv]⟩
 | .str x, h => ⟨.str x, rfl, by simpa [PyData.canLay0, okW] using h, by simp [PyData.depth, depW], by simp [PyData.eqv]⟩
 | .list ds, h => by
  obtain ⟨xs, e1, e2, e3, e4⟩ := yf4 ds (by simpa [okW] using h)
  exact ⟨.list xs, by simp [W.py, e1], by simpa [PyData.canLay0] using e2, by simp [PyData.depth, depW, e3], by simpa [PyData.eqv] using e4⟩
 | .tuple ds, h => by
  obtain ⟨xs, e1, e2, e3, e4⟩ := yf4 ds (by simpa [okW] using h)
  exact ⟨.tuple xs, by simp [W.py, e1], by simpa [PyData.canLay0] using e2, by simp [PyData.depth, depW, e3], by simpa [PyData.eqv] using e4⟩
 | .ref _, h => by simp [okW] at h
theorem yf4 : ∀ (ds : List W), okWs ds = true → ∃ xs, W.pys ds = some xs ∧ PyData.canLayAll0 xs = true ∧ PyData.depthAll xs = depWs ds ∧ PyData.eqvAll xs xs = true
 | [], _ => ⟨[], rfl, by simp [PyData.canLayAll0], by simp [PyData.depthAll, depWs], by simp [PyData.eqvAll]⟩
 | d :: ds, h => by
  have h' : okW d = true ∧ okWs ds = true := by simpa [okWs] using h
  obtain ⟨a, a1, a2, a3, a4⟩ := yk3 d h'.1
  obtain ⟨xs, e1, e2, e3, e4⟩ := yf4 ds h'.2
  exact ⟨a :: xs, by simp [W.pys, a1, e1], by simp [PyData.canLayAll0, a2, e2], by simp [PyData.depthAll, depWs, a3, e3], by simp [PyData.eqvAll, a4, e4]⟩
end
theorem okWs_all {ds : List W} (h : ∀ d ∈ ds, okW d = true) : okWs ds = true := by
 induction ds with
 | nil => rfl
 | cons d ds ih => simp [okWs, h d (by simp), ih fun e he => h e (by simp [he])]
theorem depWs_all {ds : List W} {n : Nat} (h : ∀ d ∈ ds, depW d ≤ n) : depWs ds ≤ n := by
 induction ds with
 | nil => simp [depWs]
 | cons d ds ih =>
  have := h d (by simp)
  have := ih fun e he => h e (by simp [he])
  simp [depWs]
  omega
theorem scD_self {d : W} (h : okW d = true) (b : Bool) (e : scD d d = some b) : b = true := by
 cases d with
 | none => exact (Option.some.inj e).symm
 | int i => exact (Option.some.inj e).symm.trans (by simp)
 | bool i => exact (Option.some.inj e).symm.trans (by simp)
 | str i => exact (Option.some.inj e).symm.trans (by simp)
 | _ => cases e
theorem cEq_self {d : W} (h : okW d = true) (hd : depW d ≤ 64) : cEq d d = some true := by
 obtain ⟨a, a1, a2, a3, a4⟩ := yk3 d h
 unfold cEq
 split
 · rename_i b e
   rw [scD_self h b e]
 · simp [a1, a2, a3, a4, hd]
theorem cNe_self {d : W} (h : okW d = true) (hd : depW d ≤ 64) : cNe d d = some false := by
 unfold cNe
 rw [cEq_self h hd]
 rfl
mutual
theorem pyS_ok (S : Sto) : ∀ (n : Nat) (d : W), okW d = true → depW d < n → pyS S n d = d.py
 | 0, d, _, h => absurd h (Nat.not_lt_zero _)
 | n + 1, .none, _, _ => rfl
 | n + 1, .bool b, _, _ => rfl
 | n + 1, .int i, _, _ => rfl
 | n + 1, .str x, _, _ => rfl
 | n + 1, .list ds, h, hd => by
  show (pysG (pyS S n) ds).map PyData.list = (W.pys ds).map .list
  rw [yg4 S n ds (by simpa [okW] using h) (by simp [depW] at hd; omega)]
 | n + 1, .tuple ds, h, hd => by
  show (pysG (pyS S n) ds).map PyData.tuple = (W.pys ds).map .tuple
  rw [yg4 S n ds (by simpa [okW] using h) (by simp [depW] at hd; omega)]
 | n + 1, .ref m, h, _ => by simp [okW] at h
theorem yg4 (S : Sto) : ∀ (n : Nat) (ds : List W), okWs ds = true → depWs ds < n → pysG (pyS S n) ds = W.pys ds
 | n, [], _, _ => rfl
 | n, d :: ds, h, hd => by
  have h' : okW d = true ∧ okWs ds = true := by simpa [okWs] using h
  simp only [depWs] at hd
  show (pyS S n d).bind _ = (W.py d).bind _
  rw [pyS_ok S n d h'.1 (by omega), yg4 S n ds h'.2 (by omega)]
end
theorem eqS_self {S : Sto} {d : W} (neg : Bool) (h : okW d = true) (hd : depW d < 24) : cEqS neg d d S = some (!neg) := by
 obtain ⟨a, a1, a2, a3, a4⟩ := yk3 d h
 unfold cEqS
 split
 · rename_i b e
   rw [scD_self h b e]
   cases neg <;> rfl
 · rw [pyS_ok S 24 d h hd, a1]
   cases neg <;> simp [a2, a3, a4] <;> omega
theorem atN {α : Type} (l : List α) (k : Nat) (h : k < l.length) : atI l (k : Int) = l[k]? := by
 unfold atI ixN
 rw [if_pos (by omega), if_pos (by omega)]
 simp
theorem at2 {α : Type} (a b c : α) (r : List α) : atI (a :: b :: c :: r) 2 = some c := (atN _ 2 (by simp)).trans rfl
theorem at3 {α : Type} (a b c d : α) (r : List α) : atI (a :: b :: c :: d :: r) 3 = some d := (atN _ 3 (by simp)).trans rfl
theorem at4 {α : Type} (a b c d e : α) (r : List α) : atI (a :: b :: c :: d :: e :: r) 4 = some e := (atN _ 4 (by simp)).trans rfl
theorem at5 {α : Type} (a b c d e f : α) (r : List α) : atI (a :: b :: c :: d :: e :: f :: r) 5 = some f := (atN _ 5 (by simp)).trans rfl
theorem atM {α : Type} (l : List α) (k : Nat) (h0 : 0 < k) (h : k ≤ l.length) : atI l (-(k : Int)) = l[l.length - k]? := by
 unfold atI ixN
 rw [if_neg (by omega), if_pos (by omega)]
 have e2 : (-(k : Int) + (l.length : Int)).toNat = l.length - k := by omega
 simp [e2]
theorem cut_1 (x : W) (r : List W) : cutW (x :: r) (some 1) none = r := by
 unfold cutW
 rw [HT.sIx_none, show (some (1 : Int)) = some ((1 : Nat) : Int) from rfl, HT.sIx_nat]
 rw [show min 1 (x :: r).length = 1 by simp]
 simp
theorem zi6 {f : DS → Sto → SM W} {δ : DS} {S S1 : Sto} {d : W} (h : f δ S = some (.ok d, S1)) : ssExpr f δ S = some (.nx δ, S1) := by unfold ssExpr; rw [h]; rfl
theorem zg8 {f : List W → Sto → SM W} {fa : DS → Sto → SM (List W)} {δ : DS} {S S1 S2 : Sto} {ds : List W} {d : W} (h1 : fa δ S = some (.ok ds, S1)) (h2 : f ds S1 = some (.ok d, S2)) : sCall f fa δ S = some (.ok d, S2) := by
 unfold sCall
 rw [h1]
 show noX (f ds S1) = _
 rw [h2]
 rfl
theorem zy1 {c m : Str} {f : List W → Sto → SM W} {fo : DS → Option W} {fa : DS → Sto → SM (List W)} {δ : DS} {S S1 S2 : Sto} {I : Nat} {fs : List (Str × W)} {ds : List W} {d : W} (h1 : fo δ = some (.ref I)) (h2 : S[I]? = some (.ins c fs)) (h3 : fs.lookup m = none) (h4 : fa δ S = some (.ok ds, S1)) (h5 : f (.ref I :: ds) S1 = some (.ok d, S2)) : sMeth c m f (sPure fo) fa δ S = some (.ok d, S2) := by
 unfold sMeth sPure
 rw [h1]
 show (insAt c (.ref I) S).bind _ = _
 rw [show insAt c (.ref I) S = some (I, fs) by simp [insAt, obAt, h2]]
 show (if fs.lookup m = none then _ else _) = _
 rw [if_pos h3, h4]
 show noX (f (.ref I :: ds) S1) = _
 rw [h5]
 rfl
theorem zx8 {α : Type} {f : DS → Option α} {δ : DS} {S : Sto} {d : α} (h : f δ = some d) : sPure f δ S = some (.ok d, S) := by unfold sPure; rw [h]; rfl
theorem zm6 {f : DS → Option Out} {δ δ' : DS} {S : Sto} (h : f δ = some (.nx δ')) : ssPure f δ S = some (.nx δ', S) := by unfold ssPure; rw [h]; rfl
theorem ya6 {f : DS → Option Out} {δ : DS} {S : Sto} {d : W} (h : f δ = some (.rt d)) : ssPure f δ S = some (.rt d, S) := by unfold ssPure; rw [h]; rfl
theorem zq7 {f g : DS → Sto → SO} {δ : DS} {S S' : Sto} {d : W} (h : f δ S = some (.rt d, S')) : ssSeq f g δ S = some (.rt d, S') := by unfold ssSeq; rw [h]
theorem zr2 {f : DS → Sto → SM W} {δ : DS} {S S1 : Sto} {d : W} (h : f δ S = some (.ok d, S1)) : ssRet f δ S = some (.rt d, S1) := by unfold ssRet; rw [h]; rfl
theorem set_ne' {S : Sto} {m k : Nat} {o x : Ob} (h : S[k]? = some o) (hne : m ≠ k) : (S.set m x)[k]? = some o := by rw [List.getElem?_set_ne hne]; exact h
theorem set_eq' {S : Sto} {m : Nat} {o x : Ob} (h : S[m]? = some o) : (S.set m x)[m]? = some x := ya7 (List.getElem?_eq_some_iff.mp h).1
theorem zn1 {S : Sto} {m k : Nat} {o x : Ob} (h : S[m]? = some o) (h2 : S[k]? = some x) (hne : o ≠ x) : m ≠ k := fun e => hne (by rw [e, h2] at h; exact (Option.some.inj h).symm)
theorem zz7 {κ : Type} [DecidableEq κ] (kvs : List (κ × W)) (k : κ) (x : W) : (putKW kvs k x).length ≤ kvs.length + 1 := by
 unfold putKW
 split <;> simp
theorem zu5 (S : Sto) (o : Ob) : (S ++ [o])[S.length]? = some o := by simp
theorem zi8 {f : DS → Sto → SM W} {g : DS → Sto → SM (List W)} {δ : DS} {S S1 S2 : Sto} {d : W} {ds : List W} (h1 : f δ S = some (.ok d, S1)) (h2 : g δ S1 = some (.ok ds, S2)) : sCons f g δ S = some (.ok (d :: ds), S2) := by
 unfold sCons
 rw [h1]
 show sBind (g δ S1) _ = _
 rw [h2]
 rfl
theorem siEnumS_of {fa : DS → Sto → SM (List W)} {fx : DS → Sto → SM W} {δ : DS} {S S1 S2 : Sto} {x y : W} {ds : List W} (h1 : fa δ S = some (.ok [x], S1)) (h2 : fx δ S1 = some (.ok y, S2)) (h3 : enS x y = some ds) : yd4 fa fx δ S = some (.ok ds, S2) := by
 simp only [yd4, h1, sBind, h2, sOk, h3, Option.map_some]
theorem zu3 {c f : Str} {fo : DS → Option W} {fv : DS → Sto → SM W} {δ : DS} {S S1 : Sto} {d : W} {n : Nat} {fs : List (Str × W)} (h1 : fv δ S = some (.ok d, S1)) (h2 : fo δ = some (.ref n)) (h3 : S1[n]? = some (.ins c fs)) (h4 : fs.length < 1000) : ssFld c f (sPure fo) fv δ S = some (.nx δ, S1.set n (.ins c (putW f d fs))) := by
 have h5 : insAt c (.ref n) S1 = some (n, fs) := by simp [insAt, obAt, h3]
 simp only [ssFld, h1, soB, sPure, h2, Option.map_some, h5, Option.bind_some, if_pos h4]
theorem sMake_of {c : Str} {f : List W → Sto → SM W} {fa : DS → Sto → SM (List W)} {δ : DS} {S S1 S2 : Sto} {ds : List W} (h1 : fa δ S = some (.ok ds, S1)) (h2 : f (.ref S1.length :: ds) (S1 ++ [.ins c []]) = some (.ok .none, S2)) : sMake c f fa δ S = some (.ok (.ref S1.length), S2) := by
 simp only [sMake, h1, sBind, h2, noX]
theorem zx9 {S S' : Sto} {n m : Nat} {o : Ob} {x : Ob} (hk : ∀ k, k ≠ n → S'[k]? = (S ++ [x])[k]?) (hn : n = S.length) (h : S[m]? = some o) : S'[m]? = some o := by
 have hm : m < S.length := (List.getElem?_eq_some_iff.mp h).1
 rw [hk m (by omega)]
 exact zq1 h
theorem zv0 {fo : DS → Option W} {fv : DS → Sto → SM W} {δ : DS} {S : Sto} {l : Nat} {q : List W} {d : W} (h1 : fo δ = some (.ref l)) (h2 : S[l]? = some (.lst q)) (h3 : fv δ S = some (.ok d, S)) (h4 : q.length < 9000) : zo1 (sPure fo) fv δ S = some (.nx δ, S.set l (.lst (q ++ [d]))) := by
 have hz : q.length < sizeLine := Nat.lt_of_lt_of_le h4 (sz 9000 (by decide))
 simp only [zo1, sPure, h1, soB, zr7 h2, Option.isSome_some, if_true, h3, Option.bind_some, if_pos hz, Option.map_some]
theorem yj3 {f g : DS → Sto → SM Bool} {δ : DS} {S S1 : Sto} (h1 : f δ S = some (.ok false, S1)) : sAnd f g δ S = some (.ok false, S1) := by simp only [sAnd, h1, sBind, Bool.false_eq_true, if_false]
theorem sAnd_t {f g : DS → Sto → SM Bool} {δ : DS} {S S1 S2 : Sto} {b : Bool} (h1 : f δ S = some (.ok true, S1)) (h2 : g δ S1 = some (.ok b, S2)) : sAnd f g δ S = some (.ok b, S2) := by simp only [sAnd, h1, sBind, if_true, h2]
theorem atm1 {α : Type} (q : List α) (b : α) : atI (q ++ [b]) (-1) = some b := by
 have := atM (q ++ [b]) 1 (by decide) (by simp)
 simpa using this
theorem bs_map : ∀ (bs : List Bool), bsOf (bs.map .bool) = some bs
 | [] => rfl
 | b :: bs => by
  show ((some b).bind fun b => (bsOf (bs.map .bool)).map (b :: ·)) = _
  rw [bs_map bs]
  rfl
theorem gAll_t (xs : List W) : gAll (.list ((xs.map fun _ => true).map .bool)) = some (.bool true) := by
 have : (xs.map fun _ => true).all id = true := by simp
 simp only [gAll, yf3, Option.bind_some, bs_map, Option.map_some, this]
theorem yf8 {κ : Type} [DecidableEq κ] (kvs : List (κ × W)) (k q : κ) (x : W) : valW (putKW kvs k x) q = if q = k then some x else valW kvs q := by
 by_cases h : valW kvs k = none
 · rw [putKW_new x h, valW_put kvs k q x h]
 · have ha : (kvs.any fun kv => decide (kv.1 = k)) = true := by
    cases e : kvs.any fun kv => decide (kv.1 = k) with
    | true => rfl
    | false =>
     exact absurd (by
      unfold valW
      rw [List.find?_eq_none.mpr fun z hz => by simpa using List.any_eq_false.mp e z hz]
      rfl) h
   unfold putKW
   rw [if_pos ha]
   clear ha
   induction kvs with
   | nil => simp [valW] at h
   | cons p r ih =>
    obtain ⟨j, y⟩ := p
    by_cases hj : j = k
    · subst hj
      by_cases hq : q = j
      · subst hq; simp [valW, List.find?_cons]
      · have hq' : ¬ j = q := fun z => hq z.symm
        rw [if_neg hq]
        clear ih h
        simp only [valW, List.map_cons, if_true, List.find?_cons, hq', decide_false]
        induction r with
        | nil => rfl
        | cons p r ih =>
         obtain ⟨i, z⟩ := p
         by_cases hi : i = j
         · subst hi; simpa [List.find?_cons, hq'] using ih
         · by_cases hiq : i = q
           · subst hiq; simp [List.find?_cons, hi]
           · simpa [List.find?_cons, hi, hiq] using ih
    · have h' : ¬ valW r k = none := by simpa [valW, List.find?_cons, hj] using h
      have ih' := ih h'
      by_cases hjq : j = q
      · subst hjq; simp [valW, List.find?_cons, hj]
      · simpa [valW, List.find?_cons, hj, hjq] using ih'
inductive Al (R : W → W → Prop) : List W → List W → Prop
 | nil : Al R [] []
 | cons {x y : W} {a b : List W} : R x y → Al R a b → Al R (x :: a) (y :: b)
theorem Al.app {R : W → W → Prop} {a b c d : List W} (h : Al R a b) (g : Al R c d) : Al R (a ++ c) (b ++ d) := by
 induction h with
 | nil => exact g
 | cons r _ ih => exact .cons r ih
theorem Al.refl {R : W → W → Prop} : ∀ {a : List W}, (∀ x ∈ a, R x x) → Al R a a
 | [], _ => .nil
 | x :: a, h => .cons (h x (by simp)) (Al.refl fun y hy => h y (by simp [hy]))
theorem compL_al {n : Nat × Bool} {h : W → DS → Option DS} {fe : DS → Sto → SM W} {S : Sto} {es : List W} {δ : DS} {R : W → W → Prop} (hl : lookE S n = some es) (hh : ∀ x y, R x y → ∃ δ2, h x δ = some δ2 ∧ fe δ2 S = some (.ok y, S)) {a b : List W} (A : Al R a b) : ∀ (m i : Nat), es.drop i = a → a.length < m → zk0 n h (sPure dYes) fe δ m i S = some (.ok b, S) := by
 induction A with
 | nil =>
  intro m i e hm
  obtain ⟨m, rfl⟩ : ∃ k, m = k + 1 := ⟨m - 1, by omega⟩
  show (lookE S n).bind _ = _
  rw [hl]
  show (match es[i]? with | none => _ | some d => _) = _
  rw [List.getElem?_eq_none (by simpa using e)]
 | cons r _ ih =>
  rename_i x y a b _
  intro m i e hm
  obtain ⟨m, rfl⟩ : ∃ k, m = k + 1 := ⟨m - 1, by simp at hm; omega⟩
  have hi : i < es.length := Nat.lt_of_not_le fun hc => by rw [List.drop_of_length_le hc] at e; cases e
  rw [List.drop_eq_getElem_cons hi] at e
  obtain ⟨e1, e2⟩ := List.cons.inj e
  obtain ⟨δ2, h1, h2⟩ := hh x y r
  show (lookE S n).bind _ = _
  rw [hl]
  show (match es[i]? with | none => _ | some d => _) = _
  rw [List.getElem?_eq_getElem hi, e1]
  show (h x δ).bind _ = _
  rw [h1]
  show sBind (fe δ2 S) _ = _
  rw [h2]
  show sBind (zk0 n h (sPure dYes) fe δ m (i + 1) S) _ = _
  rw [ih m (i + 1) e2 (by simp at hm; omega)]
  rfl
noncomputable def enF : Nat → List W → List W
 | _, [] => []
 | k, x :: r => .tuple [.int (k : Int), x] :: enF (k + 1) r
theorem enF_get : ∀ (l : List W) (k i : Nat), (enF k l)[i]? = (l[i]?).map fun x => .tuple [.int ((k + i : Nat) : Int), x]
 | [], k, i => by simp [enF]
 | x :: l, k, 0 => by simp [enF]
 | x :: l, k, i + 1 => by
  simp only [enF, List.getElem?_cons_succ, enF_get l (k + 1) i]
  rw [show k + 1 + i = k + (i + 1) by omega]
theorem enDS_eq (l : List W) (k : Nat) : zv9 k l = enF k l := by
 apply List.ext_getElem?
 intro i
 rw [enF_get]
 unfold zv9
 rw [List.getElem?_map]
 by_cases h : i < l.length
 · rw [List.getElem?_range h]
   simp [List.getElem?_eq_getElem h]
 · rw [List.getElem?_eq_none (by simpa using h), List.getElem?_eq_none (by omega)]
   rfl
theorem yd6 (l : List W) : enumD l = enF 0 l := by
 rw [← enDS_eq]
 unfold enumD zv9
 simp
theorem en_l (l : List W) (n : Nat) (h : n ≤ 9000) : enS (.list l) (.int ((n : Int) + 1)) = some (enF (n + 1) l) := by
 have hz : 0 ≤ (n : Int) + 1 ∧ (n : Int) + 1 < 2 ^ 62 := by omega
 simp only [enS, if_pos hz, ← enDS_eq]
 rw [show ((n : Int) + 1).toNat = n + 1 by omega]
noncomputable def uD := And.intro @bodyD.eq_1 <| And.intro @outD.eq_1 <| And.intro @outD.eq_2 <| And.intro @outD.eq_3 <| And.intro @startD.eq_1 <| And.intro @dsNext.eq_1 <| And.intro @dsSeq.eq_1 <| And.intro @dsIf.eq_1 <| And.intro @dsRet.eq_1 <| And.intro @dsRetN.eq_1 <| And.intro @dsAsg.eq_1 <| And.intro @dsOwn.eq_1 <| And.intro @dsFrz.eq_1 <| And.intro @frz.eq_1 <| And.intro @dsFor.eq_1 <| And.intro @dsAppend.eq_1 <| And.intro @dsSetI.eq_1 <| And.intro @ownAt.eq_1 <| And.intro @dVar.eq_1 <| And.intro @dPk.eq_1 <| And.intro @dC.eq_1 <| And.intro @dOp.eq_1 <| And.intro @dCmp.eq_1 <| And.intro @dB.eq_1 <| And.intro @dTru.eq_1 <| And.intro @dNot.eq_1 <| And.intro @dNotV.eq_1 <| And.intro @dAndV.eq_1 <| And.intro @dOrV.eq_1 <| And.intro @dAnd.eq_1 <| And.intro @dOr.eq_1 <| And.intro @dCall.eq_1 <| And.intro @dCons.eq_1 <| And.intro @dNil.eq_1 <| And.intro @dTup.eq_1 <| And.intro @dLst.eq_1 <| And.intro @dOwn.eq_1 <| And.intro @dComp.eq_1 <| And.intro @dC1.eq_1 <| And.intro @dSeqOf.eq_1 <| And.intro @dgName.eq_1 <| And.intro @dgTup.eq_1 <| And.intro @dgTup.eq_2 <| And.intro @dgCons.eq_1 <| And.intro @dgCons.eq_2 <| And.intro @dgNil.eq_1 <| And.intro @dgNil.eq_2 <| And.intro @dSlL.eq_1 <| And.intro @dPart.eq_1 <| And.intro @dNoPart.eq_1 <| And.intro @dEnum.eq_1 <| And.intro @dZip.eq_1 <| And.intro @dListOf.eq_1 <| And.intro @dAddL.eq_1 <| And.intro @liftD.eq_1 <| And.intro @slAt.eq_1 <| And.intro @slAt.eq_2 <| And.intro @dYes.eq_1 <| And.intro @dIf.eq_1 <| And.intro @dSlT.eq_1 <| And.intro @tupD_t <| And.intro @gAdd_i <| And.intro @gSub_i <| And.intro @gDiv_n <| And.intro @gMod_n <| And.intro @gNeg_i <| And.intro @asB_b <| And.intro @asI_i <| And.intro @yf3 <| And.intro @seqD_l <| And.intro @seqD_t <| And.intro @gLen_l <| And.intro @gLen_t <| And.intro @gIx_l <| And.intro @gIx_t <| And.intro @cEq_i <| And.intro @cEq_s <| And.intro @cEq_b <| And.intro @cNe_i <| And.intro @cNe_s <| And.intro @cLt_i <| And.intro @cLe_i <| And.intro @cGt_i <| And.intro @cGe_i <| And.intro @cNotN_i <| And.intro @cNotN_n <| And.intro @cNotN_s <| And.intro @cNotN_l <| And.intro @cNotN_t <| And.intro @cIsN_i <| And.intro @cIsN_n <| And.intro @cIsN_s <| And.intro @cIsN_l <| And.intro @cIsN_t <| And.intro @isi_int <| And.intro @isi_bool <| And.intro @isi_str <| And.intro @isiB_l <| And.intro @isiB_t <| And.intro @List.length_cons.{0} <| And.intro @List.length_nil.{0} <| And.intro @List.map_cons.{0, 0} <| And.intro @List.map_nil.{0, 0} <| And.intro @List.nil_append.{0} <| And.intro @List.cons_append.{0} <| And.intro @List.getElem?_cons_zero.{0} <| And.intro @List.getElem?_cons_succ.{0} <| And.intro @List.set_cons_zero.{0} <| And.intro @List.set_cons_succ.{0} <| And.intro @Option.bind_some.{0, 0} <| And.intro @Option.map_some.{0, 0} <| And.intro @Option.bind_none.{0, 0} <| And.intro @Option.map_none.{0, 0} <| And.intro @Option.getD_some.{0} <| And.intro @Option.getD_none.{0} <| And.intro @if_true.{1} <| And.intro @decide_true <| And.intro @decide_false <| And.intro @Bool.not_true <| And.intro @Bool.not_false <| And.intro @Bool.false_eq_true <| And.intro @ne_eq.{1} <| @not_false_eq_true
noncomputable def uS := And.intro @bodyS.eq_1 <| And.intro @outS.eq_1 <| And.intro @outS.eq_2 <| And.intro @outS.eq_3 <| And.intro @outS.eq_4 <| And.intro @ssSeq.eq_1 <| And.intro @ssIf.eq_1 <| And.intro @ssRet.eq_1 <| And.intro @ssAsg.eq_1 <| And.intro @ssExpr.eq_1 <| And.intro @ssPure.eq_1 <| And.intro @soB.eq_1 <| And.intro @soB.eq_2 <| And.intro @soB.eq_3 <| And.intro @sBind.eq_1 <| And.intro @sBind.eq_2 <| And.intro @sBind.eq_3 <| And.intro @sOk.eq_1 <| And.intro @sPure.eq_1 <| And.intro @sFldR.eq_1 <| And.intro @sMeth.eq_1 <| And.intro @sCall.eq_1 <| And.intro @sCallD.eq_1 <| And.intro @noX.eq_1 <| And.intro @noX.eq_2 <| And.intro @outP.eq_1 <| And.intro @outP.eq_2 <| And.intro @outP.eq_3 <| And.intro @outP.eq_4 <| And.intro @sNil.eq_1 <| And.intro @sCons.eq_1 <| And.intro @sTru.eq_1 <| And.intro @sNot.eq_1 <| And.intro @sAnd.eq_1 <| And.intro @sOr.eq_1 <| And.intro @sAndV.eq_1 <| And.intro @sOrV.eq_1 <| And.intro @sNotV.eq_1 <| And.intro @sB.eq_1 <| And.intro @sCmp.eq_1 <| And.intro @sC1.eq_1 <| And.intro @sTup.eq_1 <| And.intro @sLst.eq_1 <| And.intro @sLstS.eq_1 <| And.intro @sLen.eq_1 <| And.intro @gLenS.eq_1 <| And.intro @sIx.eq_1 <| And.intro @gIxS.eq_1 <| And.intro @sIsi.eq_1 <| And.intro @gIsiS.eq_1 <| And.intro @gIsiS.eq_2 <| And.intro @gIsiS.eq_3 <| And.intro @sEq.eq_1 <| And.intro @ssFrz.eq_1 <| And.intro @siLive.eq_1 <| And.intro @ssForL.eq_1 <| And.intro @sCompL.eq_1 <| @Option.map_eq_map.{0}
end L2
set_option Elab.async false
set_option linter.all false
set_option maxRecDepth 100000
namespace L2
open PySem PySem.Spec PyProof.Rows
section
variable {X : Cx}
noncomputable def yk6 (K : PySem.W.Frag) : V → List V → Hp → VK → Prop := fun x vs H Q => ∃ l xs y j, x = .ref l ∧ vs = [y] ∧ SqL K H l xs ∧ flatV y = true ∧ xs.all flatV = true ∧ xs.findIdx? (fun z => eqV z y) = some j ∧ Q (.int (j : Nat)) H
theorem mt_index : MtM X "list.index" (yk6 X.K) := by
 intro pins s σ H x vs v us Q I rx rv h
 obtain ⟨l, xs, y, j, rfl, rfl, hq, fy, fs, hj, q⟩ := h
 cases rx
 obtain ⟨u, rfl, ru⟩ := rv.one
 obtain ⟨its, r, ⟨⟨oc, od, da, sl⟩, k, e2, c1, c2, c3⟩, hz⟩ := I.list hq
 simp only at c1 c2 c3
 subst c1 c2 c3
 obtain ⟨jl, j1, j2⟩ := List.findIdx?_eq_some_iff_getElem.mp hj
 have hl := r.length
 have at' : ∀ (m : Nat) (hm : m < its.length) (hm' : m < xs.length), eqU y its[m] = eqV xs[m] y := fun m hm hm' => by
  obtain ⟨w, e3, rw'⟩ := r.get (i := m) (x := xs[m]) (List.getElem?_eq_getElem hm')
  rw [List.getElem?_eq_getElem hm] at e3
  cases e3
  exact yj0 rw' (List.all_eq_true.mp fs _ (List.getElem_mem hm'))
 have hsz : its.toArray.size = its.length := List.size_toArray ..
 have h9 : sizeLine < 4611686018427387904 := by decide
 have hsm : (j : Int) < 2 ^ 63 - 1 := by omega
 refine call_meets F.slot_list_index ⟨_, e2, rfl⟩ F.entry_list_index (F.args_list_index_2 _ _) (SeqAt.list_indexAt l its.toArray k _ sl u (eqU y) j (by rw [hsz]; omega) hsm ?_ ?_) ⟨e2, fun w hw => zt7 ru fy r fs w (by simpa using hw), ?_⟩
 · have := at' j (by omega) jl
   simpa [this] using j1
 · intro m hm h
   rw [hsz] at hm
   have h1 := at' m hm (by omega)
   have h2 := j2 m h
   simpa [h1] using h2
 · exact ⟨.int (j : Nat), H, I.tok _, ⟨_, rfl⟩, q⟩
theorem zv8 {K : PySem.W.Frag} (h : X.K = K) : MtM X "list.index" (yk6 K) := h ▸ mt_index
end
section
variable {K : PySem.W.Frag} {cl : Str → Addr} {E : XK}
noncomputable def yb9 (x : W) (S : Sto) : Option (List W) := match lstAt x S with
 | some (_, ds) => some ds
 | none => listD x
theorem lstOrS_read {ρ : List Addr} {G H : Hp} {S : Sto} {v : V} {x : W} {ds : List W} (sg : Same G H) (s : SR K ρ cl G H S) (dv : Dw K ρ G v x) (h : yb9 x S = some ds) : ∃ p vs, v = .ref p ∧ SqL K H p vs ∧ DwAll K ρ G vs ds := by
 unfold yb9 at h
 split at h
 · rename_i n ds' e
   cases h
   obtain ⟨rfl, e2⟩ := zl6 e
   obtain ⟨a, rfl, ea⟩ := zq3 dv
   obtain ⟨ga, vs, k1, k2⟩ := s.addr e2 ea
   exact ⟨a, vs, rfl, SqL.of k1, k2⟩
 · cases zw8 h
   obtain ⟨p, vs, rfl, sq, da⟩ := yh0 dv
   exact ⟨p, vs, rfl, sg.seq sq, da⟩
noncomputable def yk8 (x y : W) (S : Sto) : Option W := (yb9 x S).bind fun ds => (vOf y).bind fun v => (vsOf ds).bind fun vs => (vs.findIdx? fun z => eqV z v).map fun j => .int (j : Nat)
noncomputable def zx7 (fo fk : DS → Sto → SM W) : DS → Sto → SM W := fun δ S => sBind (fo δ S) fun x S1 => if (yb9 x S1).isSome = true then sBind (fk δ S1) fun y S2 => sOk (yk8 x y S2) S2 else none
theorem zy2 {to tk : TE} {fo fk : DS → Sto → SM W} (ho : SE K cl E to fo) (hk : SE K cl E tk fk) : SE K cl E (tBM K "list" (yk6 K) to (tCons tk tNil)) (zx7 fo fk) := fun ρ G σ H δ S r S' Q R e q qx =>
 zs8 ho R e (fun x S1 e1 v ρ1 G1 H1 g1 s1 dv => by
  split at e1
  case isFalse => cases e1
  rename_i hx
  obtain ⟨ds0, h0⟩ := Option.isSome_iff_exists.mp hx
  obtain ⟨p, vs0, rfl, sq0, _⟩ := lstOrS_read g1.s s1 dv h0
  refine ⟨.inl ⟨rfl, vs0, sq0⟩, zs8 hk (R.grow g1 s1) e1 (fun y S2 e2 u ρ2 G2 H2 g2 s2 du => ?_) fun c hc ρ2 G2 H2 g2 s2 => qx c hc ρ2 G2 H2 (g1.trans g2) s2⟩
  obtain ⟨d, e3, rfl, rfl⟩ := zk1 e2
  obtain ⟨ds, e4, e3⟩ := Option.bind_eq_some_iff.mp e3
  obtain ⟨w, e5, e3⟩ := Option.bind_eq_some_iff.mp e3
  obtain ⟨ws, e6, e3⟩ := Option.bind_eq_some_iff.mp e3
  obtain ⟨j, e7, rfl⟩ := Option.map_eq_some_iff.mp e3
  obtain ⟨p', vs, ep, sq, da⟩ := lstOrS_read g2.s s2 ((dv.ext g2.r).same g2.g) e4
  cases ep
  obtain ⟨rfl, f1⟩ := ye5 du e5
  obtain ⟨rfl, f2⟩ := zx3 da e6
  exact ⟨p, vs, u, j, rfl, rfl, sq, f1, f2, e7, q _ rfl _ ρ2 G2 H2 (g1.trans g2) s2 (.int _)⟩) qx
noncomputable def zw3 (fo fv : DS → Sto → SM W) : DS → Sto → SO := fun δ S => soB (fo δ S) fun x S1 => if (lstAt x S1).isSome = true then soB (fv δ S1) fun d S2 => (listD d).bind fun es => (lstAt x S2).bind fun p => if p.2.length + es.length ≤ sizeLine then some (.nx δ, S2.set p.1 (.lst (p.2 ++ es))) else none else none
theorem ss_extend {to tv : TE} {fo fv : DS → Sto → SM W} (ho : SE K cl E to fo) (hv : SE K cl E tv fv) : SSt K cl E (tDrop (tBM K "list" (yd0 K) to (tCons tv tNil))) (zw3 fo fv) := fun ρ0 G0 H0 ρ G σ H δ S o S' D I e p =>
 zs7 ho I e p fun x S1 e1 u ρ1 G1 H1 g1 s1 du => by
  split at e1
  case isFalse => cases e1
  rename_i hx
  obtain ⟨⟨n, ds0⟩, hx0⟩ := Option.isSome_iff_exists.mp hx
  obtain ⟨rfl, h0⟩ := zl6 hx0
  obtain ⟨a, rfl, ea⟩ := zq3 du
  obtain ⟨_, vs0, k0, _⟩ := s1.addr h0 ea
  have I1 := I.grow g1 s1
  refine ⟨.inl ⟨rfl, vs0, SqL.of k0⟩, zs7 hv I1 e1 p fun d S2 e2 v ρ2 G2 H2 g2 s2 dv => ?_⟩
  obtain ⟨es, ee, e2⟩ := Option.bind_eq_some_iff.mp e2
  obtain ⟨⟨m, ds⟩, e3, e4⟩ := Option.bind_eq_some_iff.mp e2
  split at e4
  case isFalse => cases e4
  rename_i hl
  cases e4
  cases zw8 ee
  obtain ⟨b, ys, rfl, sq, da⟩ := yh0 dv
  obtain ⟨em, e5⟩ := zl6 e3
  cases em
  have ea2 := yc3 g2.r ea
  obtain ⟨ga, vs, k1, k2⟩ := s2.addr e5 ea2
  obtain ⟨s3, g3⟩ := s2.put (x := .lst (vs ++ ys)) (o' := .lst (ds ++ es)) g2.s e5 ea2 (fun b z => by cases z) ⟨_, zd1, k2.app da⟩
  exact ⟨a, b, vs, ys, rfl, rfl, k1, g2.s.seq sq, by rw [k2.length, da.length]; exact hl, p σ ρ2 G2 _ ((I1.grow g2 s2).grow g3 s3)⟩
end
end L2
set_option Elab.async false
set_option linter.all false
set_option maxRecDepth 100000
namespace My
open PySem PySem.Spec PyProof.Rows L2
noncomputable def top (i : Nat) : Stmt := PySem.Challenge.pw_widelanes_k22_rows_of_straight_lines.main.body.getD i (.Pass ⟨0, 0, 0, 0⟩)
noncomputable abbrev zk3 : Stmt := top 1
noncomputable abbrev zp4 : Stmt := top 2
noncomputable abbrev zf1 : Stmt := top 3
noncomputable abbrev zn9 : Stmt := top 4
noncomputable abbrev zk5 : Stmt := top 8
noncomputable abbrev zi5 : Stmt := zz0 (top 10) 0
noncomputable abbrev zo5 : Stmt := zz0 (top 10) 2
noncomputable abbrev zm0 : Stmt := zz0 (top 10) 1
noncomputable abbrev zo7 : Stmt := zz0 (top 10) 3
noncomputable abbrev zn7 : Stmt := zz0 (top 10) 4
noncomputable abbrev zo9 : Stmt := top 12
noncomputable abbrev zh3 : Stmt := top 14
noncomputable abbrev zn6 : Stmt := top 13
noncomputable abbrev ze4 : Stmt := top 17
noncomputable abbrev zl2 : Stmt := top 20
noncomputable abbrev zf7 : Stmt := top 16
noncomputable abbrev zl3 : Stmt := top 15
noncomputable abbrev zx4 : Stmt := top 11
noncomputable abbrev zj4 : Stmt := top 22
noncomputable abbrev zj7 : Stmt := top 23
noncomputable abbrev zg2 : Stmt := top 24
noncomputable abbrev zg4 : Stmt := top 25
noncomputable abbrev zg1 : Stmt := top 26
noncomputable abbrev zh2 : Stmt := top 27
noncomputable abbrev zh4 : Stmt := top 28
noncomputable abbrev ze0 : Stmt := top 29
noncomputable abbrev zf6 : Stmt := top 30
noncomputable abbrev zj6 : Stmt := top 31
noncomputable abbrev zg0 : Stmt := top 32
noncomputable abbrev zg6 : Stmt := top 33
noncomputable abbrev zl1 : Stmt := top 34
noncomputable abbrev s_law : Stmt := top 35
noncomputable def clF (c_Sheet : Addr) : Str → Addr := fun s => if s = "Sheet" then c_Sheet else 0
theorem zl0 (c_Sheet : Addr) : clF c_Sheet "Sheet" = c_Sheet := by
 unfold clF
 rw [if_pos rfl]
noncomputable def zq5 : List W → Option W := bodyD 1 1
 (dsSeq (dsIf (dCmp cEq (dOp gIx (dPk 0) (dC (.int (0)))) (dC (.str "while")))
  (dsRet (dOwn (dLst (dCons (dOp gIx (dPk 0) (dC (.int (3)))) dNil))))
  dsNext)
 (dsSeq (dsIf (dCmp cEq (dOp gIx (dPk 0) (dC (.int (0)))) (dC (.str "if")))
  (dsRet (dOwn (dComp [none] (dSeqOf (dSlT (dVar 0) (dPart (dC (.int (3)))) dNoPart)) (dgName 0) (dCmp cNotN (dPk 0) (dC .none)) (dVar 0))))
  dsNext)
 (dsRet (dOwn (dLst dNil)))))
noncomputable def b_placed_1 (pf : List W → Option W) : DS → Option Out := (zw2 3 (dCall pf (dCons (dVar 5) (dCons (dOp gAdd (dPk 2) (dTup (dCons (dVar 4) dNil))) dNil))))
noncomputable def zu1 (pf : List W → Option W) : DS → Option Out := (dsSeq (dsAppend 3 (dTup (dCons (dVar 4) (dCons (dVar 2) dNil))))
 (dsFor (dSeqOf (dCall zq5 (dCons (dVar 4) dNil))) (dgName 5) (b_placed_1 pf)))
noncomputable def zq9 : Nat → List W → Option W
 | 0, _ => none
 | n + 1, ds => bodyD 2 6
  (dsSeq (dsAsg (dIf (dCmp cIsN (dPk 1) (dC .none)) (dTup dNil) (dVar 1)) (dgName 2))
  (dsSeq (dsOwn 3 (dLst dNil))
  (dsSeq (dsFor (dSeqOf (dVar 0)) (dgName 4) (zu1 (zq9 n)))
  (dsFrz 3 (dsRet (dVar 3)))))) ds
noncomputable def zi4 : List W → Option W := bodyD 1 2
 (dsSeq (dsAsg (dOp gIx (dPk 0) (dC (.int (0)))) (dgName 1))
 (dsSeq (dsIf (dCmp cIn (dPk 1) (dTup (dCons (dC (.str "tell")) (dCons (dC (.str "if")) (dCons (dC (.str "while")) (dCons (dC (.str "return")) dNil))))))
  (dsRet (dOwn (dLst (dCons (dOp gIx (dPk 0) (dC (.int (2)))) dNil))))
  dsNext)
 (dsSeq (dsIf (dCmp cEq (dPk 1) (dC (.str "put")))
  (dsRet (dOwn (dLst (dCons (dOp gIx (dPk 0) (dC (.int (2)))) (dCons (dOp gIx (dPk 0) (dC (.int (3)))) dNil)))))
  dsNext)
 (dsSeq (dsIf (dCmp cEq (dPk 1) (dC (.str "set")))
  (dsRet (dOwn (dLst (dCons (dOp gIx (dPk 0) (dC (.int (3)))) dNil))))
  dsNext)
 (dsSeq (dsIf (dCmp cEq (dPk 1) (dC (.str "call")))
  (dsRet (dOwn (dListOf (dOp gIx (dPk 0) (dC (.int (4)))))))
  dsNext)
 (dsRet (dIf (dCmp cEq (dPk 1) (dC (.str "join"))) (dOwn (dLst (dCons (dOp gIx (dPk 0) (dC (.int (4)))) dNil))) (dOwn (dLst dNil)))))))))
noncomputable def zr5 : List W → Option W := bodyD 1 1
 (dsRet (dIf (dCmp cIn (dOp gIx (dPk 0) (dC (.int (0)))) (dTup (dCons (dC (.str "set")) (dCons (dC (.str "call")) (dCons (dC (.str "join")) dNil))))) (dOp gIx (dPk 0) (dC (.int (2)))) (dC .none)))
noncomputable def zl5 (pf : List W → Option W) : DS → Option Out := (zw2 1 (dCall pf (dCons (dVar 2) dNil)))
noncomputable def zf3 : Nat → List W → Option W
 | 0, _ => none
 | n + 1, ds => bodyD 1 3
  (dsSeq (dsIf (dAnd (dCmp cNe (dOp gIx (dPk 0) (dC (.int (0)))) (dC (.str "box"))) (dCmp zx5 (dOp gIx (dPk 0) (dC (.int (0)))) (dC (.tuple [.str "+", .str "-", .str "*", .str "div", .str "rem", .str "<", .str "="]))))
   (dsRet (dOwn (dLst (dCons (dVar 0) dNil))))
   dsNext)
  (dsSeq (dsOwn 1 (dLst dNil))
  (dsSeq (dsFor (dSeqOf (dSlT (dVar 0) (dPart (dC (.int (1)))) dNoPart)) (dgName 2) (zl5 (zf3 n)))
  (dsFrz 1 (dsRet (dVar 1)))))) ds
noncomputable def zn3 : List W → Sto → SM W := bodyS 1 1
 (ssSeq (ssFld "Sheet" "rows" (sPure (dVar 0)) (sLstS (sPure dNil)))
 (ssSeq (ssFld "Sheet" "spots" (sPure (dVar 0)) sDT)
 (ssSeq (ssFld "Sheet" "name" (sPure (dVar 0)) (sPure (dC .none)))
 (ssFld "Sheet" "slots" (sPure (dVar 0)) sDK))))
noncomputable def zj1 : List W → Sto → SM W := bodyS 2 2
 (ye9 (sFldR "Sheet" "spots" (sPure (dVar 0))) (sPure (dVar 1)) (sLen (sFldR "Sheet" "rows" (sPure (dVar 0)))))
noncomputable def zp3 : List W → Sto → SM W := bodyS 3 3
 (ssSeq (ssFld "Sheet" "name" (sPure (dVar 0)) (sPure (dVar 1)))
 (ssSeq (ssFld "Sheet" "slots" (sPure (dVar 0)) (sPure (dVar 2)))
 (ssExpr (sMeth "Sheet" "lay" zj1 (sPure (dVar 0)) (sPure (dCons (dTup (dCons (dC (.str "def")) (dCons (dVar 1) dNil))) dNil))))))
noncomputable def zc0 : List W → Sto → SM W := bodyS 2 2
 (zo1 (sFldR "Sheet" "rows" (sPure (dVar 0))) (sPure (dVar 1)))
noncomputable def zj5 : List W → Sto → SM W := bodyS 1 1
 (ssRet (sOp gAdd (sDLen (sFldR "Sheet" "slots" (sPure (dVar 0)))) (sPure (dC (.int (1))))))
noncomputable def zq6 : List W → Sto → SM W := bodyS 2 2
 (ssSeq (ssIf (sPure (dCmp cIn (dOp gIx (dPk 0) (dC (.int (0)))) (dTup (dCons (dC (.str "split")) (dCons (dC (.str "jump")) (dCons (dC (.str "call")) dNil))))))
  (ssRet (sOp gAdd (sPure (dSlT (dVar 0) dNoPart (dPart (dUn gNeg (dC (.int (1))))))) (sTup (sCons (sDGet (sPure (dVar 1)) (sPure (dOp gIx (dPk 0) (dUn gNeg (dC (.int (1))))))) sNil))))
  (ssPure dsNext))
 (ssPure (dsRet (dVar 0))))
noncomputable def zn2 : DS → Option Out := (yc4 1 (dComp [none] (dSeqOf (dCall (zf3 9) (dCons (dVar 5) dNil))) (dgName 0) (dCmp cEq (dOp gIx (dPk 0) (dC (.int (0)))) (dC (.str "name"))) (dOp gIx (dPk 0) (dC (.int (1))))))
noncomputable def zp0 : DS → Option Out := (dsSeq (dsAsg (dCall zr5 (dCons (dVar 2) dNil)) (dgName 4))
 (dsSeq (dsIf (dCmp cNotN (dPk 4) (dC .none))
  (dsAppend 1 (dVar 4))
  dsNext)
 (dsFor (dSeqOf (dCall zi4 (dCons (dVar 2) dNil))) (dgName 5) zn2)))
noncomputable def zm7 : List W → Option W := bodyD 1 6
 (dsSeq (dsOwn 1 (dLst dNil))
 (dsSeq (dsFor (dSeqOf (yk2 (zq9 8) (dCons (dVar 0) dNil))) (dgTup 2 (dgCons (dgName 2) (dgCons (dgName 3) dgNil))) zp0)
 (dsFrz 1 (dsRet (dVar 1)))))
noncomputable def zn8 : DS → Sto → SO := (ssIf (sDIn true (sPure (dVar 3)) (sPure (dVar 2)))
 (ye9 (sPure (dVar 2)) (sPure (dVar 3)) (sOp gAdd (sDLen (sPure (dVar 2))) (sPure (dC (.int (1))))))
 (ssPure dsNext))
noncomputable def zt6 : List W → Sto → SM W := bodyS 2 4
 (ssSeq (ssAsg sDK (dgName 2))
 (ssSeq (ssFor (sPure (dSeqOf (dOp gAdd (dPk 0) (dCall zm7 (dCons (dVar 1) dNil))))) (dgName 3) zn8)
 (ssPure (dsRet (dVar 2)))))
noncomputable def ze5 : Nat → List W → Sto → SM W
 | 0, _, _ => none
 | n + 1, ds, S => bodyS 4 5
  (ssSeq (ssPure (dsAsg (dOp gIx (dPk 2) (dC (.int (0)))) (dgName 4)))
  (ssIf (sPure (dCmp cEq (dPk 4) (dC (.str "num"))))
   (ssExpr (sMeth "Sheet" "add" zc0 (sPure (dVar 0)) (sPure (dCons (dTup (dCons (dC (.str "num")) (dCons (dVar 1) (dCons (dVar 3) (dCons (dOp gIx (dPk 2) (dC (.int (1)))) dNil))))) dNil))))
   (ssIf (sPure (dCmp cEq (dPk 4) (dC (.str "name"))))
   (ssExpr (sMeth "Sheet" "add" zc0 (sPure (dVar 0)) (sCons (sTup (sCons (sPure (dC (.str "copy"))) (sCons (sPure (dVar 1)) (sCons (sPure (dVar 3)) (sCons (sDGet (sFldR "Sheet" "slots" (sPure (dVar 0))) (sPure (dOp gIx (dPk 2) (dC (.int (1)))))) sNil))))) sNil)))
   (ssIf (sPure (dCmp cIn (dPk 4) (dC (.tuple [.str "lane", .str "lanes", .str "mine"]))))
   (ssExpr (sMeth "Sheet" "add" zc0 (sPure (dVar 0)) (sPure (dCons (dTup (dCons (dC (.str "sign")) (dCons (dVar 1) (dCons (dVar 3) (dCons (dVar 4) dNil))))) dNil))))
   (ssIf (sPure (dCmp cEq (dPk 4) (dC (.str "box"))))
   (ssSeq (ssExpr (sCall (ze5 n) (sPure (dCons (dVar 0) (dCons (dVar 1) (dCons (dOp gIx (dPk 2) (dC (.int (1)))) (dCons (dVar 3) dNil)))))))
  (ssExpr (sMeth "Sheet" "add" zc0 (sPure (dVar 0)) (sPure (dCons (dTup (dCons (dC (.str "get")) (dCons (dVar 1) (dCons (dVar 3) (dCons (dVar 3) dNil))))) dNil)))))
   (ssSeq (ssExpr (sCall (ze5 n) (sPure (dCons (dVar 0) (dCons (dVar 1) (dCons (dOp gIx (dPk 2) (dC (.int (1)))) (dCons (dVar 3) dNil)))))))
  (ssSeq (ssExpr (sCall (ze5 n) (sPure (dCons (dVar 0) (dCons (dVar 1) (dCons (dOp gIx (dPk 2) (dC (.int (2)))) (dCons (dOp gAdd (dPk 3) (dC (.int (1)))) dNil)))))))
  (ssExpr (sMeth "Sheet" "add" zc0 (sPure (dVar 0)) (sPure (dCons (dTup (dCons (dC (.str "op")) (dCons (dVar 1) (dCons (dVar 3) (dCons (dVar 4) (dCons (dVar 3) (dCons (dOp gAdd (dPk 3) (dC (.int (1)))) dNil))))))) dNil))))))))))) ds S
noncomputable def zr8 : List W → Sto → SM W := bodyS 2 5
 (ssSeq (ssPure (dsAsg (dOp gIx (dPk 1) (dC (.int (0)))) (dgName 2)))
 (ssSeq (ssPure (dsAsg (dOp gIx (dPk 1) (dC (.int (1)))) (dgName 3)))
 (ssSeq (ssAsg (sMeth "Sheet" "free" zj5 (sPure (dVar 0)) (sPure dNil)) (dgName 4))
 (ssIf (sPure (dCmp cEq (dPk 2) (dC (.str "set"))))
  (ssExpr (sMeth "Sheet" "add" zc0 (sPure (dVar 0)) (sCons (sTup (sCons (sPure (dC (.str "copy"))) (sCons (sPure (dVar 3)) (sCons (sDGet (sFldR "Sheet" "slots" (sPure (dVar 0))) (sPure (dOp gIx (dPk 1) (dC (.int (2)))))) (sCons (sPure (dVar 4)) sNil))))) sNil)))
  (ssIf (sPure (dCmp cEq (dPk 2) (dC (.str "put"))))
  (ssExpr (sMeth "Sheet" "add" zc0 (sPure (dVar 0)) (sPure (dCons (dTup (dCons (dC (.str "put")) (dCons (dVar 3) (dCons (dVar 4) (dCons (dOp gAdd (dPk 4) (dC (.int (1)))) dNil))))) dNil))))
  (ssIf (sPure (dCmp cEq (dPk 2) (dC (.str "tell"))))
  (ssExpr (sMeth "Sheet" "add" zc0 (sPure (dVar 0)) (sPure (dCons (dTup (dCons (dC (.str "tell")) (dCons (dVar 3) (dCons (dVar 4) dNil)))) dNil))))
  (ssIf (sPure (dCmp cEq (dPk 2) (dC (.str "call"))))
  (ssExpr (sMeth "Sheet" "add" zc0 (sPure (dVar 0)) (sCons (sTup (sCons (sPure (dC (.str "call"))) (sCons (sPure (dVar 3)) (sCons (sDGet (sFldR "Sheet" "slots" (sPure (dVar 0))) (sPure (dOp gIx (dPk 1) (dC (.int (2)))))) (sCons (sPure (dVar 4)) (sCons (sPure (dC1 gLen (dOp gIx (dPk 1) (dC (.int (4)))))) (sCons (sPure (dTup (dCons (dC (.str "def")) (dCons (dOp gIx (dPk 1) (dC (.int (3)))) dNil)))) sNil))))))) sNil)))
  (ssIf (sPure (dCmp cEq (dPk 2) (dC (.str "return"))))
  (ssSeq (ssExpr (sMeth "Sheet" "add" zc0 (sPure (dVar 0)) (sPure (dCons (dTup (dCons (dC (.str "copy")) (dCons (dVar 3) (dCons (dC (.int (0))) (dCons (dVar 4) dNil))))) dNil))))
 (ssExpr (sMeth "Sheet" "add" zc0 (sPure (dVar 0)) (sCons (sTup (sCons (sPure (dC (.str "jump"))) (sCons (sPure (dVar 3)) (sCons (sTup (sCons (sPure (dC (.str "last"))) (sCons (sFldR "Sheet" "name" (sPure (dVar 0))) sNil))) sNil)))) sNil))))
  (ssIf (sPure (dCmp cEq (dPk 2) (dC (.str "join"))))
  (ssExpr (sMeth "Sheet" "add" zc0 (sPure (dVar 0)) (sCons (sTup (sCons (sPure (dC (.str "join"))) (sCons (sPure (dVar 3)) (sCons (sDGet (sFldR "Sheet" "slots" (sPure (dVar 0))) (sPure (dOp gIx (dPk 1) (dC (.int (2)))))) (sCons (sPure (dOp gIx (dPk 1) (dC (.int (3))))) (sCons (sPure (dVar 4)) sNil)))))) sNil)))
  (ssExpr (sMeth "Sheet" "add" zc0 (sPure (dVar 0)) (sPure (dCons (dTup (dCons (dVar 2) (dCons (dVar 3) dNil))) dNil)))))))))))))
noncomputable def b_make_statement_1 : DS → Sto → SO := (ssExpr (sCall (ze5 9) (sPure (dCons (dVar 0) (dCons (dVar 4) (dCons (dVar 6) (dCons (dVar 5) dNil)))))))
noncomputable def zn0 : List W → Sto → SM W := bodyS 3 7
 (ssSeq (ssPure (dsAsg (dOp gIx (dPk 1) (dC (.int (0)))) (dgName 3)))
 (ssSeq (ssPure (dsAsg (dOp gIx (dPk 1) (dC (.int (1)))) (dgName 4)))
 (ssSeq (ssExpr (sMeth "Sheet" "lay" zj1 (sPure (dVar 0)) (sPure (dCons (dTup (dCons (dC (.str "tick")) (dCons (dVar 4) dNil))) dNil))))
 (ssSeq (ssExpr (sMeth "Sheet" "add" zc0 (sPure (dVar 0)) (sPure (dCons (dTup (dCons (dC (.str "tick")) (dCons (dVar 4) dNil))) dNil))))
 (ssSeq (ssFor (yd4 (sPure (dCons (dCall zi4 (dCons (dVar 1) dNil)) dNil)) (sMeth "Sheet" "free" zj5 (sPure (dVar 0)) (sPure dNil))) (dgTup 2 (dgCons (dgName 5) (dgCons (dgName 6) dgNil))) b_make_statement_1)
 (ssIf (sPure (dCmp cEq (dPk 3) (dC (.str "if"))))
  (ssPure yg1)
  (ssIf (sPure (dCmp cEq (dPk 3) (dC (.str "while"))))
  (ssPure yg1)
  (ssIf (sPure (dCmp cEq (dPk 3) (dC (.str "break"))))
  (ssExpr (sMeth "Sheet" "add" zc0 (sPure (dVar 0)) (sPure (dCons (dTup (dCons (dC (.str "jump")) (dCons (dVar 4) (dCons (dTup (dCons (dC (.str "behind")) (dCons (dVar 2) dNil))) dNil)))) dNil))))
  (ssIf (sPure (dCmp cEq (dPk 3) (dC (.str "again"))))
  (ssExpr (sMeth "Sheet" "add" zc0 (sPure (dVar 0)) (sPure (dCons (dTup (dCons (dC (.str "jump")) (dCons (dVar 4) (dCons (dTup (dCons (dC (.str "tick")) (dCons (dVar 2) dNil))) dNil)))) dNil))))
  (ssExpr (sCall zr8 (sPure (dCons (dVar 0) (dCons (dVar 1) dNil))))))))))))))
noncomputable def b_make_body_1 : DS → Sto → SO := (ssExpr (sCall zn0 (sPure (dCons (dVar 0) (dCons (dVar 3) (dCons (dVar 2) dNil))))))
noncomputable def zs0 : List W → Sto → SM W := bodyS 3 4
 (ssFor (sPure (dSeqOf (dVar 1))) (dgName 3) b_make_body_1)
noncomputable def b_made_1 : DS → Sto → SO := (ssSeq (ssExpr (sMeth "Sheet" "begin" zp3 (sPure (dVar 1)) (sCons (sPure (dVar 3)) (sCons (sCall zt6 (sPure (dCons (dVar 4) (dCons (dVar 5) dNil)))) sNil))))
 (ssSeq (ssExpr (sCall zs0 (sPure (dCons (dVar 1) (dCons (dVar 5) (dCons (dC .none) dNil))))))
 (ssSeq (ssExpr (sMeth "Sheet" "lay" zj1 (sPure (dVar 1)) (sPure (dCons (dTup (dCons (dC (.str "last")) (dCons (dVar 3) dNil))) dNil))))
 (ssExpr (sMeth "Sheet" "add" zc0 (sPure (dVar 1)) (sPure (dCons (dTup (dCons (dC (.str "back")) (dCons (dVar 7) dNil))) dNil)))))))
noncomputable def yh8 : List W → Sto → SM W := bodyS 1 8
 (ssSeq (ssAsg (sMake "Sheet" zn3 (sPure dNil)) (dgName 1))
 (ssSeq (ssPure (dsAsg (dOp gAdd (dOwn (dComp [none] (dSeqOf (dPk 0)) (dgName 0) (dCmp cEq (dOp gIx (dPk 0) (dC (.int (0)))) (dC (.str "main"))) (dVar 0))) (dOwn (dComp [none] (dSeqOf (dPk 0)) (dgName 0) (dCmp cNe (dOp gIx (dPk 0) (dC (.int (0)))) (dC (.str "main"))) (dVar 0)))) (dgName 2)))
 (ssSeq (ssFor (sPure (dSeqOf (dVar 2))) (dgTup 5 (dgCons (dgName 3) (dgCons (dgName 4) (dgCons (dgName 5) (dgCons (dgName 6) (dgCons (dgName 7) dgNil)))))) b_made_1)
 (ssRet (sCompL 9000 [some 1, none] (siLive (sFldR "Sheet" "rows" (sPure (dVar 1)))) (dgName 1) (sPure dYes) (sCall zq6 (sCons (sPure (dVar 1)) (sCons (sFldR "Sheet" "spots" (sPure (dVar 0))) sNil))))))))
noncomputable def zj8 : List W → Option W := bodyD 1 1
 (dsRet (dAndV (dC1 (gIsi "int") (dVar 0)) (dNotV (dC1 (gIsi "bool") (dVar 0)))))
noncomputable def zl4 : List W → Option W := bodyD 2 3
 (dsSeq (dsAsg (dOp gMod (dOp gAdd (dOp gAdd (dOp gMul (dPk 0) (dC (.int (48271)))) (dOp gMul (dOp gMul (dPk 1) (dVar 1)) (dC (.int (7919))))) (dC (.int (101)))) (dC (.int (2147483647)))) (dgName 2))
 (dsRet (dOp gMod (dOp gMul (dPk 2) (dVar 2)) (dC (.int (2147483629))))))
noncomputable def zf5 : List W → Option W := bodyD 1 2
 (dsSeq (dsAsg (dC (.str "vwxyz")) (dgName 1))
 (dsSeq (dsIf (dCmp cEq (dOp gMod (dOp gDiv (dPk 0) (dC (.int (5)))) (dC (.int (2)))) (dC (.int (0))))
  (dsRet (dOp gIx (dPk 1) (dOp gMod (dPk 0) (dC (.int (5))))))
  dsNext)
 (dsRet (dOp gAdd (dOp gIx (dPk 1) (dOp gMod (dOp gDiv (dPk 0) (dC (.int (10)))) (dC (.int (5))))) (dOp gIx (dPk 1) (dOp gMod (dPk 0) (dC (.int (5)))))))))
noncomputable def zh8 : List W → Option W := bodyD 1 1
 (dsSeq (dsIf (dCmp cEq (dOp gMod (dPk 0) (dC (.int (4)))) (dC (.int (0))))
  (dsRet (dTup (dCons (dC (.str "num")) (dCons (dOp gSub' (dOp gMod (dOp gMul (dOp gDiv (dPk 0) (dC (.int (4)))) (dC (.int (40692)))) (dC (.int (1999999999)))) (dC (.int (999999999)))) dNil))))
  dsNext)
 (dsSeq (dsIf (dCmp cEq (dOp gMod (dPk 0) (dC (.int (4)))) (dC (.int (1))))
  (dsRet (dTup (dCons (dOp gIx (dOwn (dLst (dCons (dC (.str "lane")) (dCons (dC (.str "lanes")) (dCons (dC (.str "mine")) dNil))))) (dOp gMod (dOp gDiv (dPk 0) (dC (.int (4)))) (dC (.int (3))))) dNil)))
  dsNext)
 (dsRet (dTup (dCons (dC (.str "name")) (dCons (dCall zf5 (dCons (dOp gDiv (dPk 0) (dC (.int (4)))) dNil)) dNil))))))
noncomputable def zc1 : Nat → List W → Option W
 | 0, _ => none
 | n + 1, ds => bodyD 2 5
  (dsSeq (dsAsg (dOp gDiv (dPk 0) (dC (.int (5)))) (dgName 2))
  (dsSeq (dsIf (dOr (dCmp cEq (dOp gMod (dPk 0) (dC (.int (5)))) (dC (.int (0)))) (dCmp cEq (dPk 1) (dC (.int (0)))))
   (dsRet (dCall zh8 (dCons (dVar 2) dNil)))
   dsNext)
  (dsSeq (dsAsg (dCall (zc1 n) (dCons (dOp gMod (dOp gAdd (dOp gMul (dPk 2) (dC (.int (16807)))) (dC (.int (3)))) (dC (.int (2147483647)))) (dCons (dOp gSub' (dPk 1) (dC (.int (1)))) dNil))) (dgName 3))
  (dsSeq (dsIf (dCmp cEq (dOp gMod (dPk 0) (dC (.int (5)))) (dC (.int (1))))
   (dsRet (dTup (dCons (dC (.str "box")) (dCons (dVar 3) dNil))))
   dsNext)
  (dsSeq (dsAsg (dOp gIx (dOwn (dLst (dCons (dC (.str "+")) (dCons (dC (.str "-")) (dCons (dC (.str "*")) (dCons (dC (.str "div")) (dCons (dC (.str "rem")) (dCons (dC (.str "<")) (dCons (dC (.str "=")) dNil))))))))) (dOp gMod (dPk 2) (dC (.int (7))))) (dgName 4))
  (dsRet (dTup (dCons (dVar 4) (dCons (dVar 3) (dCons (dCall (zc1 n) (dCons (dOp gMod (dOp gAdd (dOp gMul (dPk 2) (dC (.int (69621)))) (dC (.int (5)))) (dC (.int (2147483629)))) (dCons (dOp gSub' (dPk 1) (dC (.int (1)))) dNil))) dNil)))))))))) ds
noncomputable def zh7 : List W → Option W := bodyD 3 7
 (dsSeq (dsAsg (dOp gDiv (dPk 0) (dC (.int (9)))) (dgName 3))
 (dsSeq (dsAsg (dOp gIx (dOwn (dLst (dCons (dC (.str "set")) (dCons (dC (.str "put")) (dCons (dC (.str "tell")) (dCons (dC (.str "join")) (dCons (dC (.str "meet")) (dCons (dC (.str "stop")) (dCons (dC (.str "call")) (dCons (dC (.str "call")) (dCons (dC (.str "set")) dNil))))))))))) (dOp gMod (dPk 0) (dC (.int (9))))) (dgName 4))
 (dsSeq (dsIf (dCmp cEq (dPk 4) (dC (.str "set")))
  (dsRet (dTup (dCons (dC (.str "set")) (dCons (dVar 1) (dCons (dCall zf5 (dCons (dVar 3) dNil)) (dCons (dCall (zc1 5) (dCons (dOp gDiv (dPk 3) (dC (.int (50)))) (dCons (dC (.int (3))) dNil))) dNil))))))
  dsNext)
 (dsSeq (dsIf (dCmp cEq (dPk 4) (dC (.str "put")))
  (dsRet (dTup (dCons (dC (.str "put")) (dCons (dVar 1) (dCons (dCall (zc1 5) (dCons (dVar 3) (dCons (dC (.int (3))) dNil))) (dCons (dCall (zc1 5) (dCons (dOp gMod (dOp gMul (dPk 3) (dC (.int (69621)))) (dC (.int (2147483629)))) (dCons (dC (.int (3))) dNil))) dNil))))))
  dsNext)
 (dsSeq (dsIf (dCmp cEq (dPk 4) (dC (.str "tell")))
  (dsRet (dTup (dCons (dC (.str "tell")) (dCons (dVar 1) (dCons (dCall (zc1 5) (dCons (dVar 3) (dCons (dC (.int (3))) dNil))) dNil)))))
  dsNext)
 (dsSeq (dsIf (dCmp cEq (dPk 4) (dC (.str "join")))
  (dsSeq (dsAsg (dOp gIx (dOwn (dLst (dCons (dC (.str "sum")) (dCons (dC (.str "most")) (dCons (dC (.str "least")) (dCons (dC (.str "ahead")) dNil)))))) (dOp gMod (dPk 3) (dC (.int (4))))) (dgName 5))
 (dsRet (dTup (dCons (dC (.str "join")) (dCons (dVar 1) (dCons (dCall zf5 (dCons (dOp gDiv (dPk 3) (dC (.int (4)))) dNil)) (dCons (dVar 5) (dCons (dCall (zc1 5) (dCons (dOp gDiv (dPk 3) (dC (.int (200)))) (dCons (dC (.int (3))) dNil))) dNil))))))))
  dsNext)
 (dsSeq (dsIf (dCmp cEq (dPk 4) (dC (.str "call")))
  (dsSeq (dsAsg (dOwn (dComp [some 3, none] (dRng1 (dCons (dVar 2) dNil)) (dgName 1) dYes (dCall (zc1 5) (dCons (dOp gMod (dOp gMul (dOp gAdd (dPk 0) (dOp gMul (dPk 1) (dVar 1))) (dC (.int (16807)))) (dC (.int (2147483629)))) (dCons (dC (.int (1))) dNil))))) (dgName 6))
 (dsRet (dTup (dCons (dC (.str "call")) (dCons (dVar 1) (dCons (dCall zf5 (dCons (dVar 3) dNil)) (dCons (dC (.str "qq")) (dCons (dVar 6) dNil))))))))
  dsNext)
 (dsRet (dTup (dCons (dVar 4) (dCons (dVar 1) dNil)))))))))))
noncomputable def zm8 : List W → Option W := bodyD 1 8
 (dsSeq (dsAsg (dC (.int (0))) (dgName 1))
 (dsSeq (dsIf (dCmp cGt (dC1 gLen (dPk 0)) (dC (.int (0))))
  (dsAsg (dOp gIx (dPk 0) (dC (.int (0)))) (dgName 1))
  dsNext)
 (dsSeq (dsAsg (dOp gMod (dPk 1) (dC (.int (7)))) (dgName 2))
 (dsSeq (dsAsg (dOwn (dSlL (dOwn (dLst (dCons (dC (.str "v")) (dCons (dC (.str "zz")) (dCons (dC (.str "y")) (dCons (dC (.str "wv")) (dCons (dC (.str "k")) (dCons (dC (.str "x")) dNil)))))))) dNoPart (dPart (dVar 2)))) (dgName 3))
 (dsSeq (dsAsg (dC (.int (1))) (dgName 4))
 (dsSeq (dsIf (dCmp cEq (dOp gMod (dOp gDiv (dPk 1) (dC (.int (7)))) (dC (.int (2)))) (dC (.int (1))))
  (dsAsg (dC (.int (3))) (dgName 4))
  dsNext)
 (dsSeq (dsAsg (dOwn (dComp [some 2, some 4, none, none] (dEnum (dCons (dOwn (dSlL (dPk 0) (dPart (dC (.int (1)))) (dPart (dC (.int (61)))))) dNil)) (dgTup 2 (dgCons (dgName 2) (dgCons (dgName 3) dgNil))) dYes (dCall zh7 (dCons (dCall zl4 (dCons (dVar 3) (dCons (dVar 2) dNil))) (dCons (dOp gAdd (dOp gAdd (dPk 1) (dC (.int (1)))) (dVar 2)) (dCons (dVar 0) dNil)))))) (dgName 5))
 (dsSeq (dsAsg (dOp gAdd (dOp gAdd (dPk 4) (dC1 gLen (dPk 5))) (dC (.int (1)))) (dgName 6))
 (dsSeq (dsAsg (dTup (dCons (dC (.str "main")) (dCons (dOwn (dLst dNil)) (dCons (dVar 5) (dCons (dVar 4) (dCons (dVar 6) dNil)))))) (dgName 7))
 (dsSeq (dsIf (dCmp cEq (dPk 4) (dC (.int (3))))
  (dsRet (dOwn (dLst (dCons (dTup (dCons (dC (.str "qq")) (dCons (dVar 3) (dCons (dOwn (dLst dNil)) (dCons (dC (.int (1))) (dCons (dC (.int (2))) dNil)))))) (dCons (dVar 7) dNil)))))
  dsNext)
 (dsRet (dOwn (dLst (dCons (dVar 7) (dCons (dTup (dCons (dC (.str "qq")) (dCons (dVar 3) (dCons (dOwn (dLst dNil)) (dCons (dOp gAdd (dPk 6) (dC (.int (1)))) (dCons (dOp gAdd (dPk 6) (dC (.int (2)))) dNil)))))) dNil)))))))))))))))
noncomputable def zg7 : List W → Option W := bodyD 1 1
 (dsSeq (dsIf (dCmp cEq (dOp gIx (dPk 0) (dC (.int (0)))) (dC (.str "call")))
  (dsRet (dOp gIx (dPk 0) (dC (.int (4)))))
  dsNext)
 (dsSeq (dsIf (dCmp cEq (dOp gIx (dPk 0) (dC (.int (0)))) (dC (.str "put")))
  (dsRet (dOwn (dLst (dCons (dOp gIx (dPk 0) (dC (.int (2)))) (dCons (dOp gIx (dPk 0) (dC (.int (3)))) dNil)))))
  dsNext)
 (dsSeq (dsIf (dOr (dCmp cEq (dOp gIx (dPk 0) (dC (.int (0)))) (dC (.str "meet"))) (dCmp cEq (dOp gIx (dPk 0) (dC (.int (0)))) (dC (.str "stop"))))
  (dsRet (dOwn (dLst dNil)))
  dsNext)
 (dsRet (dOwn (dLst (dCons (dOp gIx (dPk 0) (dUn gNeg (dC (.int (1))))) dNil)))))))
noncomputable def zl8 (pf : List W → Sto → SM W) : DS → Sto → SO := (ssExpr (sCall pf (sPure (dCons (dVar 2) (dCons (dVar 1) dNil)))))
noncomputable def zc5 : Nat → List W → Sto → SM W
 | 0, _, _ => none
 | n + 1, ds, S => bodyS 2 3
  (ssSeq (ssIf (sAnd (sPure (dCmp cEq (dOp gIx (dPk 0) (dC (.int (0)))) (dC (.str "name")))) (sInS true (sPure (dOp gIx (dPk 0) (dC (.int (1))))) (sPure (dVar 1))))
   (zo1 (sPure (dVar 1)) (sPure (dOp gIx (dPk 0) (dC (.int (1))))))
   (ssPure dsNext))
  (ssIf (sPure (dAnd (dCmp cNe (dOp gIx (dPk 0) (dC (.int (0)))) (dC (.str "name"))) (dCmp cNe (dOp gIx (dPk 0) (dC (.int (0)))) (dC (.str "num")))))
   (ssFor (sPure (dSeqOf (dSlT (dVar 0) (dPart (dC (.int (1)))) dNoPart))) (dgName 2) (zl8 (zc5 n)))
   (ssPure dsNext))) ds S
noncomputable def b__law_names_1 : DS → Sto → SO := (ssExpr (sCall (zc5 9) (sPure (dCons (dVar 3) (dCons (dVar 1) dNil)))))
noncomputable def b__law_names_2 : DS → Sto → SO := (ssSeq (ssIf (sAnd (sPure (dCmp cIn (dOp gIx (dPk 2) (dC (.int (0)))) (dTup (dCons (dC (.str "set")) (dCons (dC (.str "join")) (dCons (dC (.str "call")) dNil)))))) (sInS true (sPure (dOp gIx (dPk 2) (dC (.int (2))))) (sPure (dVar 1))))
 (zo1 (sPure (dVar 1)) (sPure (dOp gIx (dPk 2) (dC (.int (2))))))
 (ssPure dsNext))
 (ssFor (sPure (dSeqOf (dCall zg7 (dCons (dVar 2) dNil)))) (dgName 3) b__law_names_1))
noncomputable def zq8 : List W → Sto → SM W := bodyS 1 4
 (ssSeq (ssAsg (sLstS (sPure dNil)) (dgName 1))
 (ssSeq (ssFor (sPure (dSeqOf (dVar 0))) (dgName 2) b__law_names_2)
 (ssPure (dsRet (dVar 1)))))
noncomputable def ze9 : Nat → List W → Sto → SM W
 | 0, _, _ => none
 | n + 1, ds, S => bodyS 4 5
  (ssSeq (ssPure (dsIf (dCmp cEq (dOp gIx (dPk 0) (dC (.int (0)))) (dC (.str "num")))
   (dsRet (dOwn (dLst (dCons (dTup (dCons (dC (.str "num")) (dCons (dVar 1) (dCons (dVar 2) (dCons (dOp gIx (dPk 0) (dC (.int (1)))) dNil))))) dNil))))
   dsNext))
  (ssSeq (ssIf (sPure (dCmp cEq (dOp gIx (dPk 0) (dC (.int (0)))) (dC (.str "name"))))
   (ssRet (sLst (sCons (sTup (sCons (sPure (dC (.str "copy"))) (sCons (sPure (dVar 1)) (sCons (sPure (dVar 2)) (sCons (sOp gAdd (zx7 (sPure (dVar 3)) (sPure (dOp gIx (dPk 0) (dC (.int (1)))))) (sPure (dC (.int (1))))) sNil))))) sNil)))
   (ssPure dsNext))
  (ssSeq (ssPure (dsIf (dCmp cEq (dC1 gLen (dPk 0)) (dC (.int (1))))
   (dsRet (dOwn (dLst (dCons (dTup (dCons (dC (.str "sign")) (dCons (dVar 1) (dCons (dVar 2) (dCons (dOp gIx (dPk 0) (dC (.int (0)))) dNil))))) dNil))))
   dsNext))
  (ssSeq (ssAsg (sCall (ze9 n) (sPure (dCons (dOp gIx (dPk 0) (dC (.int (1)))) (dCons (dVar 1) (dCons (dVar 2) (dCons (dVar 3) dNil)))))) (dgName 4))
  (ssSeq (ssPure (dsIf (dCmp cEq (dOp gIx (dPk 0) (dC (.int (0)))) (dC (.str "box")))
   (dsRet (dOp gAdd (dPk 4) (dOwn (dLst (dCons (dTup (dCons (dC (.str "get")) (dCons (dVar 1) (dCons (dVar 2) (dCons (dVar 2) dNil))))) dNil)))))
   dsNext))
  (ssRet (sOp gAdd (sOp gAdd (sPure (dVar 4)) (sCall (ze9 n) (sPure (dCons (dOp gIx (dPk 0) (dC (.int (2)))) (dCons (dVar 1) (dCons (dOp gAdd (dPk 2) (dC (.int (1)))) (dCons (dVar 3) dNil))))))) (sPure (dOwn (dLst (dCons (dTup (dCons (dC (.str "op")) (dCons (dVar 1) (dCons (dVar 2) (dCons (dOp gIx (dPk 0) (dC (.int (0)))) (dCons (dVar 2) (dCons (dOp gAdd (dPk 2) (dC (.int (1)))) dNil))))))) dNil))))))))))) ds S
noncomputable def zo2 : List W → Sto → SM W := bodyS 3 6
 (ssSeq (ssPure (dsAsg (dOp gIx (dPk 0) (dC (.int (0)))) (dgName 3)))
 (ssSeq (ssPure (dsAsg (dOp gIx (dPk 0) (dC (.int (1)))) (dgName 4)))
 (ssSeq (ssAsg (sOp gAdd (sLen (sPure (dVar 1))) (sPure (dC (.int (1))))) (dgName 5))
 (ssSeq (ssIf (sPure (dCmp cEq (dPk 3) (dC (.str "set"))))
  (ssRet (sTup (sCons (sPure (dC (.str "copy"))) (sCons (sPure (dVar 4)) (sCons (sOp gAdd (zx7 (sPure (dVar 1)) (sPure (dOp gIx (dPk 0) (dC (.int (2)))))) (sPure (dC (.int (1))))) (sCons (sPure (dVar 5)) sNil))))))
  (ssPure dsNext))
 (ssSeq (ssPure (dsIf (dCmp cEq (dPk 3) (dC (.str "put")))
  (dsRet (dTup (dCons (dC (.str "put")) (dCons (dVar 4) (dCons (dVar 5) (dCons (dOp gAdd (dPk 5) (dC (.int (1)))) dNil))))))
  dsNext))
 (ssSeq (ssPure (dsIf (dCmp cEq (dPk 3) (dC (.str "tell")))
  (dsRet (dTup (dCons (dC (.str "tell")) (dCons (dVar 4) (dCons (dVar 5) dNil)))))
  dsNext))
 (ssSeq (ssIf (sPure (dCmp cEq (dPk 3) (dC (.str "join"))))
  (ssRet (sTup (sCons (sPure (dC (.str "join"))) (sCons (sPure (dVar 4)) (sCons (sOp gAdd (zx7 (sPure (dVar 1)) (sPure (dOp gIx (dPk 0) (dC (.int (2)))))) (sPure (dC (.int (1))))) (sCons (sPure (dOp gIx (dPk 0) (dC (.int (3))))) (sCons (sPure (dVar 5)) sNil)))))))
  (ssPure dsNext))
 (ssSeq (ssIf (sPure (dCmp cEq (dPk 3) (dC (.str "call"))))
  (ssRet (sTup (sCons (sPure (dC (.str "call"))) (sCons (sPure (dVar 4)) (sCons (sOp gAdd (zx7 (sPure (dVar 1)) (sPure (dOp gIx (dPk 0) (dC (.int (2)))))) (sPure (dC (.int (1))))) (sCons (sPure (dVar 5)) (sCons (sPure (dC1 gLen (dOp gIx (dPk 0) (dC (.int (4)))))) (sCons (sPure (dVar 2)) sNil))))))))
  (ssPure dsNext))
 (ssPure (dsRet (dTup (dCons (dVar 3) (dCons (dVar 4) dNil)))))))))))))
noncomputable def zo6 : List W → Option W := bodyD 2 2
 (dsSeq (dsIf (dOr (dNot (dTru (dC1 (gIsiB "tuple") (dVar 0)))) (dCmp cNe (dPk 0) (dPk 1)))
  (dsRet (dC (.bool false)))
  dsNext)
 (dsRet (dC1 gAll (dOwn (dComp [none] (dSeqOf (dPk 0)) (dgName 0) dYes (dOrV (dC1 (gIsi "str") (dVar 0)) (dCall zj8 (dCons (dVar 0) dNil))))))))
noncomputable def b_law_1 : DS → Sto → SO := (zw3 (sPure (dVar 6)) (sCall (ze9 9) (sCons (sPure (dVar 9)) (sCons (sPure (dOp gIx (dPk 7) (dC (.int (1))))) (sCons (sOp gAdd (sOp gAdd (sLen (sPure (dVar 5))) (sPure (dC (.int (1))))) (sPure (dVar 8))) (sCons (sPure (dVar 5)) sNil))))))
noncomputable def yg0 : DS → Sto → SO := (ssSeq (zo1 (sPure (dVar 6)) (sPure (dTup (dCons (dC (.str "tick")) (dCons (dOp gIx (dPk 7) (dC (.int (1)))) dNil)))))
 (ssSeq (ssFor (sPure (dEnum (dCons (dCall zg7 (dCons (dVar 7) dNil)) dNil))) (dgTup 2 (dgCons (dgName 8) (dgCons (dgName 9) dgNil))) b_law_1)
 (zo1 (sPure (dVar 6)) (sCall zo2 (sPure (dCons (dVar 7) (dCons (dVar 5) (dCons (dOp gSub' (dC1 gLen (dPk 2)) (dC (.int (1)))) dNil))))))))
noncomputable def p_law : List W → Sto → SM W := bodyS 1 10
 (ssSeq (ssPure (dsAsg (dCall zm8 (dCons (dVar 0) dNil)) (dgName 1)))
 (ssSeq (ssAsg (sCall yh8 (sPure (dCons (dVar 1) dNil))) (dgName 2))
 (ssSeq (ssPure (dsIf (dOr (dCmp cNe (dPk 1) (dCall zm8 (dCons (dVar 0) dNil))) (dNot (dTru (dC1 (gIsiB "list") (dVar 2)))))
  (dsRet (dC (.bool false)))
  dsNext))
 (ssSeq (ssPure (dsAsg (dOp gIx (dOwn (dComp [none] (dSeqOf (dPk 1)) (dgName 0) (dCmp cEq (dOp gIx (dPk 0) (dC (.int (0)))) (dC (.str "main"))) (dVar 0))) (dC (.int (0)))) (dgName 3)))
 (ssSeq (ssPure (dsAsg (dOp gIx (dOwn (dComp [none] (dSeqOf (dPk 1)) (dgName 0) (dCmp cNe (dOp gIx (dPk 0) (dC (.int (0)))) (dC (.str "main"))) (dVar 0))) (dC (.int (0)))) (dgName 4)))
 (ssSeq (ssAsg (sCall zq8 (sPure (dCons (dOp gIx (dPk 3) (dC (.int (2)))) dNil))) (dgName 5))
 (ssSeq (ssAsg (sLstS (sPure dNil)) (dgName 6))
 (ssSeq (ssFor (sPure (dSeqOf (dOp gIx (dPk 3) (dC (.int (2)))))) (dgName 7) yg0)
 (ssSeq (zw3 (sPure (dVar 6)) (sPure (dOwn (dLst (dCons (dTup (dCons (dC (.str "back")) (dCons (dOp gIx (dPk 3) (dC (.int (4)))) dNil))) (dCons (dTup (dCons (dC (.str "back")) (dCons (dOp gIx (dPk 4) (dC (.int (4)))) dNil))) dNil))))))
 (ssRet (sAndV (sB (sEq false (sPure (dC1 gLen (dPk 2))) (sLen (sPure (dVar 6))))) (sC1 gAll (sComp [some 2, some 6, none] (yg8 (sCons (sLen (sPure (dVar 6))) sNil)) (dgName 2) (sPure dYes) (sCallD zo6 (sCons (sPure (dOp gIx (dPk 0) (dVar 2))) (sCons (sIx (sPure (dVar 1)) (sPure (dVar 2))) sNil))))))))))))))))
noncomputable def yh1 (K : PySem.W.Frag) : Sp := fun vs H Q _ => ∃ (a : Addr) (ns : List Int), vs = [.ref a] ∧ SqL K H a (ns.map V.int) ∧ ns.length ≤ 63 ∧ ∀ H', Q (.bl true) H'
theorem sc_bodies_of : FnScope ["statement"] ["statement"] (zb3 zk3) := ⟨rfl, rfl, rfl, by decide +kernel, rfl, by decide +kernel, by decide +kernel⟩
section
variable {P : Program} {w : World} {K : PySem.W.Frag} {mg : Str → Option Value} {base : Heap} {cl : Str → Addr}
set_option maxHeartbeats 4000000 in
theorem ok_bodies_of {f : Addr} {fd : FuncData} (F : Fun K "bodies_of" "bodies_of" zk3 f fd) : FnOk P w K mg base CX0 1 f fd ["statement"] (spD K zq5) := by
 refine F.ok sc_bodies_of (fun vs H Q E h => zn5 (fun ds d e => zh0 e) h) (fun cdv A outer s H vs Q E hr h => ?_)
 refine ⟨_, (@za5 _ _ _ _ _ (@ps_if _ _ _ _ _ _ _ _ (zb7 (zd7 (K := K) rfl hr.units) (pe_ix (zb4 (K := K) rfl) (pv 0) za8 (fun _ _ => rfl)) zb1 (zc4 _))
  (@za9 _ _ _ (@zc8 _ _ _ _ (@ze7 _ _ _ _ (@za0 _ _ _ _ _ (pe_ix (zb4 (K := K) rfl) (pv 0) za8 (fun _ _ => rfl)) za3 (by rfl)))))
  zd4)
  (@za5 _ _ _ _ _ (@ps_if _ _ _ _ _ _ _ _ (zb7 (zd7 (K := K) rfl hr.units) (pe_ix (zb4 (K := K) rfl) (pv 0) za8 (fun _ _ => rfl)) zb1 (zc4 _))
   (@za9 _ _ _ (@zc8 _ _ _ _ (zs5 (N := ["body"]) (ix := [none]) (zj2 rfl (by decide +kernel) (by decide +kernel) (by rfl) rfl (by decide +kernel) (by rfl)) rfl (zj3 (K := K) rfl (zu2 (yc1 (K := K) rfl) (pv 0) (zv4 za8) zz9)) (zk8 rfl) fun _ _ _ _ => ⟨(ze8 (i := 0) (show List.Nodup [Str.ofString "body"] by decide +kernel) rfl (Or.inl rfl) (.inr rfl)), (zu6 (zb7 op_notN (pv 0) yb1 (zc4 _))), (pv 0)⟩)))
   zd4)
  (@za9 _ _ _ (@zc8 _ _ _ _ (@ze7 _ _ _ _ za3))))), ?_⟩
 exact d_fn (n := 1) rfl (fun ρ => (zd5 (ds_if (zc2 db_eq (DE.dk (de_op dr_ix (za6 (i := 0)) za7)) (DE.dk zb2))
  (ze2 (DO.de (zi7 (za1 (de_op dr_ix (za6 (i := 0)) za7) zb0))))
  zd3)
  (zd5 (ds_if (zc2 db_eq (DE.dk (de_op dr_ix (za6 (i := 0)) za7)) (DE.dk zb2))
   (ze2 (DO.de (zs1 (ix := [none]) (by decide) (zv5 (DE.dk (yi4 (za2 (i := 0)) (zs2 za7) zw9))) zb5 (zc2 db_notN (za6 (i := 0)) (DE.dk yb7)) (za2 (i := 0)))))
   zd3)
  (ze2 (DO.de (zi7 zb0)))))) h
end
theorem sc_placed : FnScope ["body", "around", "outer", "found", "statement", "inner"] ["body", "around"] (zb3 zp4) := ⟨rfl, rfl, rfl, by decide +kernel, rfl, by decide +kernel, by decide +kernel⟩
section
variable {P : Program} {w : World} {K : PySem.W.Frag} {mg : Str → Option Value} {base : Heap} {cl : Str → Addr}
set_option maxHeartbeats 4000000 in
theorem okS_placed {n : Nat} {f_placed : Addr} {fd_placed : FuncData} (d_placed : DfD K mg "placed" zp4 ["body", "around"] f_placed fd_placed) {f_bodies_of : Addr} {fd_bodies_of : FuncData} (d_bodies_of : Df K mg "bodies_of" zk3 ["statement"] f_bodies_of fd_bodies_of) (G_bodies_of : FnOk P w K mg base CX0 1 f_bodies_of fd_bodies_of ["statement"] (spD K zq5)) (G_placed : FnOk P w K mg base CX0 (1 + n) f_placed fd_placed ["body", "around"] (spD K (zq9 n))) : FnOk P w K mg base CX0 (1 + n + 1) f_placed fd_placed ["body", "around"] (spD K (zq9 (n + 1))) := by
 have F := d_placed.fn
 refine F.ok sc_placed (fun vs H Q E h => zn5 (fun ds d e => zh0 e) h) (fun cdv A outer s H vs Q E hr h => ?_)
 refine ⟨_, (@za5 _ _ _ _ _ (@zf2 _ _ 2 _ _ _ _ sc_placed.nd rfl (Or.inl rfl) (yd1 (zb7 op_isN (pv 1) yb1 (zc4 _)) (@zb9 _ _ _ _ _ za3) (pv 1)) (by rfl) (by first | exact .inl rfl | exact .inr rfl))
  (@za5 _ _ _ _ _ (@zf2 _ _ 3 _ _ _ _ sc_placed.nd rfl (Or.inl rfl) (@ze7 _ _ _ _ za3) (by rfl) (by first | exact .inl rfl | exact .inr rfl))
  (@za5 _ _ _ _ _ (@zr1 _ _ _ _ _ _ _ _ PassesOwn.never rfl (zj3 (K := K) rfl (pv 0)) (ze8 (i := 4) sc_placed.nd rfl (Or.inl rfl))
   (@za5 _ _ _ _ _ (@zc7 _ _ _ _ (zp2 (K := K) rfl PySem.F.plainAttrs_list PySem.F.slot_list_append PySem.F.type_list_append zq4 (pv 3) (@za0 _ _ _ _ _ (@zb9 _ _ _ _ _ (@za0 _ _ _ _ _ (pv 4) (@za0 _ _ _ _ _ (pv 2) za3 (by rfl)) (by rfl))) za3 (by rfl))) (by rfl))
  (@za9 _ _ _ (@zr1 _ _ _ _ _ _ _ _ PassesOwn.never rfl (zj3 (K := K) rfl (zc3 (G_bodies_of.mono (by omega)) hr rfl d_bodies_of.m d_bodies_of.fn.kp d_bodies_of.b .nil pass0 (@za0 _ _ _ _ _ (pv 4) za3 (by rfl)))) (ze8 (i := 5) sc_placed.nd rfl (Or.inl rfl))
   (@za9 _ _ _ (@zc7 _ _ _ _ (zp2 (K := K) rfl PySem.F.plainAttrs_list PySem.F.slot_list_extend PySem.F.type_list_extend zt8 (pv 3) (@za0 _ _ _ _ _ (zc3 (G_placed.mono (by omega)) hr rfl d_placed.m d_placed.fn.kp d_placed.b .nil pass0 (@za0 _ _ _ _ _ (pv 5) (@za0 _ _ _ _ _ (@pe_op _ _ _ _ _ _ _ _ (ze3 (K := K) rfl) (pv 2) (@zb9 _ _ _ _ _ (@za0 _ _ _ _ _ (pv 4) za3 (by rfl)))) za3 (by rfl)) (by rfl))) za3 (by rfl))) (by rfl))) (by intro _; rfl)))) (by intro _; rfl))
  (@za9 _ _ _ (@zc8 _ _ _ _ (pv 3)))))), ?_⟩
 exact d_fn (n := 6) rfl (fun ρ => (zd5 (zh5 (de_if (zc2 db_isN (za6 (i := 1)) (DE.dk yb7)) (ze1 zb0) (za2 (i := 1))) zb5)
  (zd5 (yj9 (zi7 zb0))
  (zd5 (ye3 (zs6 (za2 (i := 0))) zb5
   (zd5 (ds_append (ze1 (za1 (za2 (i := 4)) (za1 (za2 (i := 2)) zb0))))
  (ye3 (zs6 (zf9 (za1 (za2 (i := 4)) zb0))) zb5
   (ds_extendV (zf9 (za1 (za2 (i := 5)) (za1 (de_op zg9 (za6 (i := 2)) (ze1 (za1 (za2 (i := 4)) zb0))) zb0)))))))
  (yk4 (i := 3) (ze2 (za2 (i := 3)))))))) h
theorem ok_placed {f_placed : Addr} {fd_placed : FuncData} (d_placed : DfD K mg "placed" zp4 ["body", "around"] f_placed fd_placed) {f_bodies_of : Addr} {fd_bodies_of : FuncData} (d_bodies_of : Df K mg "bodies_of" zk3 ["statement"] f_bodies_of fd_bodies_of) (G_bodies_of : FnOk P w K mg base CX0 1 f_bodies_of fd_bodies_of ["statement"] (spD K zq5)) : ∀ n, FnOk P w K mg base CX0 (1 + n) f_placed fd_placed ["body", "around"] (spD K (zq9 n))
 | 0 => FnOk.no fun _ => rfl
 | n + 1 => okS_placed d_placed d_bodies_of G_bodies_of (ok_placed d_placed d_bodies_of G_bodies_of n)
end
theorem sc_expressions_of : FnScope ["statement", "kind"] ["statement"] (zb3 zf1) := ⟨rfl, rfl, rfl, by decide +kernel, rfl, by decide +kernel, by decide +kernel⟩
section
variable {P : Program} {w : World} {K : PySem.W.Frag} {mg : Str → Option Value} {base : Heap} {cl : Str → Addr}
set_option maxHeartbeats 4000000 in
theorem ok_expressions_of {f : Addr} {fd : FuncData} (F : Fun K "expressions_of" "expressions_of" zf1 f fd) (z_list : mg "list" = none) : FnOk P w K mg base CX0 1 f fd ["statement"] (spD K zi4) := by
 refine F.ok sc_expressions_of (fun vs H Q E h => zn5 (fun ds d e => zh0 e) h) (fun cdv A outer s H vs Q E hr h => ?_)
 refine ⟨_, (@za5 _ _ _ _ _ (@zf2 _ _ 1 _ _ _ _ sc_expressions_of.nd rfl (Or.inl rfl) (pe_ix (zb4 (K := K) rfl) (pv 0) za8 (fun _ _ => rfl)) (by rfl) (by first | exact .inl rfl | exact .inr rfl))
  (@za5 _ _ _ _ _ (@ps_if _ _ _ _ _ _ _ _ (zb7 (zr6 (K := K) rfl) (pv 1) (@zb9 _ _ _ _ _ (@za0 _ _ _ _ _ zb1 (@za0 _ _ _ _ _ zb1 (@za0 _ _ _ _ _ zb1 (@za0 _ _ _ _ _ zb1 za3 (by rfl)) (by rfl)) (by rfl)) (by rfl))) (by first | rfl | with_unfolding_all rfl))
   (@za9 _ _ _ (@zc8 _ _ _ _ (@ze7 _ _ _ _ (@za0 _ _ _ _ _ (pe_ix (zb4 (K := K) rfl) (pv 0) za8 (fun _ _ => rfl)) za3 (by rfl)))))
   zd4)
  (@za5 _ _ _ _ _ (@ps_if _ _ _ _ _ _ _ _ (zb7 (zd7 (K := K) rfl hr.units) (pv 1) zb1 (zc4 _))
   (@za9 _ _ _ (@zc8 _ _ _ _ (@ze7 _ _ _ _ (@za0 _ _ _ _ _ (pe_ix (zb4 (K := K) rfl) (pv 0) za8 (fun _ _ => rfl)) (@za0 _ _ _ _ _ (pe_ix (zb4 (K := K) rfl) (pv 0) za8 (fun _ _ => rfl)) za3 (by rfl)) (by rfl)))))
   zd4)
  (@za5 _ _ _ _ _ (@ps_if _ _ _ _ _ _ _ _ (zb7 (zd7 (K := K) rfl hr.units) (pv 1) zb1 (zc4 _))
   (@za9 _ _ _ (@zc8 _ _ _ _ (@ze7 _ _ _ _ (@za0 _ _ _ _ _ (pe_ix (zb4 (K := K) rfl) (pv 0) za8 (fun _ _ => rfl)) za3 (by rfl)))))
   zd4)
  (@za5 _ _ _ _ _ (@ps_if _ _ _ _ _ _ _ _ (zb7 (zd7 (K := K) rfl hr.units) (pv 1) zb1 (zc4 _))
   (@za9 _ _ _ (@zc8 _ _ _ _ (pe_callTy (call_list_ofK (K := K) rfl) rfl z_list boot_list (@za0 _ _ _ _ _ (pe_ix (zb4 (K := K) rfl) (pv 0) za8 (fun _ _ => rfl)) za3 (by rfl)))))
   zd4)
  (@za9 _ _ _ (@zc8 _ _ _ _ (yd1 (zb7 (zd7 (K := K) rfl hr.units) (pv 1) zb1 (zc4 _)) (@ze7 _ _ _ _ (@za0 _ _ _ _ _ (pe_ix (zb4 (K := K) rfl) (pv 0) za8 (fun _ _ => rfl)) za3 (by rfl))) (@ze7 _ _ _ _ za3))))))))), ?_⟩
 exact d_fn (n := 2) rfl (fun ρ => (zd5 (zh5 (de_op dr_ix (za6 (i := 0)) za7) zb5)
  (zd5 (ds_if (zc2 db_in (za6 (i := 1)) (DE.dk (ze1 (za1 zb2 (za1 zb2 (za1 zb2 (za1 zb2 zb0)))))))
   (ze2 (DO.de (zi7 (za1 (de_op dr_ix (za6 (i := 0)) za7) zb0))))
   zd3)
  (zd5 (ds_if (zc2 db_eq (za6 (i := 1)) (DE.dk zb2))
   (ze2 (DO.de (zi7 (za1 (de_op dr_ix (za6 (i := 0)) za7) (za1 (de_op dr_ix (za6 (i := 0)) za7) zb0)))))
   zd3)
  (zd5 (ds_if (zc2 db_eq (za6 (i := 1)) (DE.dk zb2))
   (ze2 (DO.de (zi7 (za1 (de_op dr_ix (za6 (i := 0)) za7) zb0))))
   zd3)
  (zd5 (ds_if (zc2 db_eq (za6 (i := 1)) (DE.dk zb2))
   (ze2 (DO.de (do_list (DE.dk (de_op dr_ix (za6 (i := 0)) za7)))))
   zd3)
  (ze2 (de_if (zc2 db_eq (za6 (i := 1)) (DE.dk zb2)) (DO.de (zi7 (za1 (de_op dr_ix (za6 (i := 0)) za7) zb0))) (DO.de (zi7 zb0)))))))))) h
end
theorem sc_given_by : FnScope ["statement"] ["statement"] (zb3 zn9) := ⟨rfl, rfl, rfl, by decide +kernel, rfl, by decide +kernel, by decide +kernel⟩
section
variable {P : Program} {w : World} {K : PySem.W.Frag} {mg : Str → Option Value} {base : Heap} {cl : Str → Addr}
set_option maxHeartbeats 4000000 in
theorem ok_given_by {f : Addr} {fd : FuncData} (F : Fun K "given_by" "given_by" zn9 f fd) : FnOk P w K mg base CX0 1 f fd ["statement"] (spD K zr5) := by
 refine F.ok sc_given_by (fun vs H Q E h => zn5 (fun ds d e => zh0 e) h) (fun cdv A outer s H vs Q E hr h => ?_)
 refine ⟨_, (@za9 _ _ _ (@zc8 _ _ _ _ (yd1 (zb7 (zr6 (K := K) rfl) (pe_ix (zb4 (K := K) rfl) (pv 0) za8 (fun _ _ => rfl)) (@zb9 _ _ _ _ _ (@za0 _ _ _ _ _ zb1 (@za0 _ _ _ _ _ zb1 (@za0 _ _ _ _ _ zb1 za3 (by rfl)) (by rfl)) (by rfl))) (by first | rfl | with_unfolding_all rfl)) (pe_ix (zb4 (K := K) rfl) (pv 0) za8 (fun _ _ => rfl)) yb1))), ?_⟩
 exact d_fn (n := 1) rfl (fun ρ => (ze2 (de_if (zc2 db_in (DE.dk (de_op dr_ix (za6 (i := 0)) za7)) (DE.dk (ze1 (za1 zb2 (za1 zb2 (za1 zb2 zb0)))))) (de_op dr_ix (za6 (i := 0)) za7) yb7))) h
end
theorem sc_leaves_of : FnScope ["expression", "found", "part"] ["expression"] (zb3 zk5) := ⟨rfl, rfl, rfl, by decide +kernel, rfl, by decide +kernel, by decide +kernel⟩
section
variable {P : Program} {w : World} {K : PySem.W.Frag} {mg : Str → Option Value} {base : Heap} {cl : Str → Addr}
set_option maxHeartbeats 4000000 in
theorem okS_leaves_of {n : Nat} {f_leaves_of : Addr} {fd_leaves_of : FuncData} (d_leaves_of : Df K mg "leaves_of" zk5 ["expression"] f_leaves_of fd_leaves_of) {a_WORKINGS : Addr} (m_WORKINGS : mg "WORKINGS" = some (.ref a_WORKINGS)) (g_WORKINGS : ∀ G, SqT K G a_WORKINGS (([(Str.ofString "+"), (Str.ofString "-"), (Str.ofString "*"), (Str.ofString "div"), (Str.ofString "rem"), (Str.ofString "<"), (Str.ofString "=")]).map V.str)) (G_leaves_of : FnOk P w K mg base CX0 (0 + n) f_leaves_of fd_leaves_of ["expression"] (spD K (zf3 n))) : FnOk P w K mg base CX0 (0 + n + 1) f_leaves_of fd_leaves_of ["expression"] (spD K (zf3 (n + 1))) := by
 have F := d_leaves_of.fn
 refine F.ok sc_leaves_of (fun vs H Q E h => zn5 (fun ds d e => zh0 e) h) (fun cdv A outer s H vs Q E hr h => ?_)
 refine ⟨_, (@za5 _ _ _ _ _ (@ps_if _ _ _ _ _ _ _ _ (PW.pt (yi1 (zb7 (ya3 (K := K) rfl hr.units) (pe_ix (zb4 (K := K) rfl) (pv 0) za8 (fun _ _ => rfl)) zb1 (zc4 _)) (yc7 (zb7 (zr9 (K := K) rfl) (pe_ix (zb4 (K := K) rfl) (pv 0) za8 (fun _ _ => rfl)) (pe_glob (v := .ref a_WORKINGS) rfl m_WORKINGS rfl) (by first | rfl | with_unfolding_all rfl)))))
  (@za9 _ _ _ (@zc8 _ _ _ _ (@ze7 _ _ _ _ (@za0 _ _ _ _ _ (pv 0) za3 (by rfl)))))
  zd4)
  (@za5 _ _ _ _ _ (@zf2 _ _ 1 _ _ _ _ sc_leaves_of.nd rfl (Or.inl rfl) (@ze7 _ _ _ _ za3) (by rfl) (by first | exact .inl rfl | exact .inr rfl))
  (@za5 _ _ _ _ _ (@zr1 _ _ _ _ _ _ _ _ PassesOwn.never rfl (zj3 (K := K) rfl (zu2 (yc1 (K := K) rfl) (pv 0) (zv4 za8) zz9)) (ze8 (i := 2) sc_leaves_of.nd rfl (Or.inl rfl))
   (@za9 _ _ _ (@zc7 _ _ _ _ (zp2 (K := K) rfl PySem.F.plainAttrs_list PySem.F.slot_list_extend PySem.F.type_list_extend zt8 (pv 1) (@za0 _ _ _ _ _ (zc3 (G_leaves_of.mono (by omega)) hr rfl d_leaves_of.m d_leaves_of.fn.kp d_leaves_of.b .nil pass0 (@za0 _ _ _ _ _ (pv 2) za3 (by rfl))) za3 (by rfl))) (by rfl))) (by intro _; rfl))
  (@za9 _ _ _ (@zc8 _ _ _ _ (pv 1)))))), ?_⟩
 exact d_fn (n := 3) rfl (fun ρ => (zd5 (ds_if (dt_and (zc2 db_ne (DE.dk (de_op dr_ix (za6 (i := 0)) za7)) (DE.dk zb2)) (dt_notInG (ws := [(Str.ofString "+"), (Str.ofString "-"), (Str.ofString "*"), (Str.ofString "div"), (Str.ofString "rem"), (Str.ofString "<"), (Str.ofString "=")]) g_WORKINGS (DE.dk (de_op dr_ix (za6 (i := 0)) za7))))
  (ze2 (DO.de (zi7 (za1 (za2 (i := 0)) zb0))))
  zd3)
  (zd5 (yj9 (zi7 zb0))
  (zd5 (ye3 (zs6 (yi4 (za2 (i := 0)) (zs2 za7) zw9)) zb5
   (ds_extendV (zf9 (za1 (za2 (i := 2)) zb0))))
  (yk4 (i := 1) (ze2 (za2 (i := 1)))))))) h
theorem ok_leaves_of {f_leaves_of : Addr} {fd_leaves_of : FuncData} (d_leaves_of : Df K mg "leaves_of" zk5 ["expression"] f_leaves_of fd_leaves_of) {a_WORKINGS : Addr} (m_WORKINGS : mg "WORKINGS" = some (.ref a_WORKINGS)) (g_WORKINGS : ∀ G, SqT K G a_WORKINGS (([(Str.ofString "+"), (Str.ofString "-"), (Str.ofString "*"), (Str.ofString "div"), (Str.ofString "rem"), (Str.ofString "<"), (Str.ofString "=")]).map V.str)) : ∀ n, FnOk P w K mg base CX0 (0 + n) f_leaves_of fd_leaves_of ["expression"] (spD K (zf3 n))
 | 0 => FnOk.no fun _ => rfl
 | n + 1 => okS_leaves_of d_leaves_of m_WORKINGS g_WORKINGS (ok_leaves_of d_leaves_of m_WORKINGS g_WORKINGS n)
end
theorem sc_Sheet___init__ : FnScope ["self"] ["self"] (zb3 zi5) := ⟨rfl, rfl, rfl, by decide +kernel, rfl, by decide +kernel, by decide +kernel⟩
section
variable {P : Program} {w : World} {K : PySem.W.Frag} {mg : Str → Option Value} {base : Heap} {cl : Str → Addr}
set_option maxHeartbeats 4000000 in
theorem ok_Sheet___init__ {f : Addr} {fd : FuncData} (F : Fun K "__init__" "Sheet.__init__" zi5 f fd) (m_Sheet : mg "Sheet" = some (.ref (cl "Sheet"))) (cl_Sheet : Cls K (cl "Sheet")) (n_Sheet_rows : NoAttr K (cl "Sheet") "rows") (n_Sheet_spots : NoAttr K (cl "Sheet") "spots") (n_Sheet_name : NoAttr K (cl "Sheet") "name") (n_Sheet_slots : NoAttr K (cl "Sheet") "slots") : FnOk P w K mg base CX0 1 f fd ["self"] (sp0 K cl zn3) := by
 refine F.ok sc_Sheet___init__ (fun vs H Q E h => zm5 (fun ds S r e => zg5 e) h) (fun cdv A outer s H vs Q E hr h => ?_)
 refine ⟨_, (@za5 _ _ _ _ _ (yb6 (pv 0) (@ze7 _ _ _ _ za3) rfl)
  (@za5 _ _ _ _ _ (yb6 (pv 0) pe_dnewT rfl)
  (@za5 _ _ _ _ _ (yb6 (pv 0) yb1 rfl)
  (@za9 _ _ _ (yb6 (pv 0) pe_dnewK rfl))))), ?_⟩
 exact s_fn0 (n := 1) rfl ((zc9 (yc0 (c := "Sheet") cl_Sheet n_Sheet_rows (za4 fun ρ => (za2 (i := 0))) (yf9 (zd8 fun ρ => zb0)))
  (zc9 (yc0 (c := "Sheet") cl_Sheet n_Sheet_spots (za4 fun ρ => (za2 (i := 0))) se_dT)
  (zc9 (yc0 (c := "Sheet") cl_Sheet n_Sheet_name (za4 fun ρ => (za2 (i := 0))) (za4 fun ρ => yb7))
  (yc0 (c := "Sheet") cl_Sheet n_Sheet_slots (za4 fun ρ => (za2 (i := 0))) se_dK))))) h
end
theorem sc_Sheet_lay : FnScope ["self", "key"] ["self", "key"] (zb3 zo5) := ⟨rfl, rfl, rfl, by decide +kernel, rfl, by decide +kernel, by decide +kernel⟩
section
variable {P : Program} {w : World} {K : PySem.W.Frag} {mg : Str → Option Value} {base : Heap} {cl : Str → Addr}
set_option maxHeartbeats 4000000 in
theorem ok_Sheet_lay {f : Addr} {fd : FuncData} (F : Fun K "lay" "Sheet.lay" zo5 f fd) (m_Sheet : mg "Sheet" = some (.ref (cl "Sheet"))) (cl_Sheet : Cls K (cl "Sheet")) (n_Sheet_rows : NoAttr K (cl "Sheet") "rows") (n_Sheet_spots : NoAttr K (cl "Sheet") "spots") (n_Sheet_name : NoAttr K (cl "Sheet") "name") (n_Sheet_slots : NoAttr K (cl "Sheet") "slots") (z_len : mg "len" = none) : FnOk P w K mg base CX0 1 f fd ["self", "key"] (sp0 K cl zj1) := by
 refine F.ok sc_Sheet_lay (fun vs H Q E h => zm5 (fun ds S r e => zg5 e) h) (fun cdv A outer s H vs Q E hr h => ?_)
 refine ⟨_, (@za9 _ _ _ (ps_dput hr.units1 (zq0 (K := K) rfl (pv 0) rfl) (pv 1) (zg3 (zk7 (K := K) rfl) rfl z_len PySem.boot_len (@za0 _ _ _ _ _ (zq0 (K := K) rfl (pv 0) rfl) za3 (by rfl))) (by rfl))), ?_⟩
 exact s_fn0 (n := 2) rfl ((ss_dput (zt3 (c := "Sheet") cl_Sheet n_Sheet_spots (za4 fun ρ => (za2 (i := 0)))) (za4 fun ρ => (za2 (i := 1))) (ye0 (zt3 (c := "Sheet") cl_Sheet n_Sheet_rows (za4 fun ρ => (za2 (i := 0))))))) h
end
theorem sc_Sheet_begin : FnScope ["self", "name", "slots"] ["self", "name", "slots"] (zb3 zm0) := ⟨rfl, rfl, rfl, by decide +kernel, rfl, by decide +kernel, by decide +kernel⟩
section
variable {P : Program} {w : World} {K : PySem.W.Frag} {mg : Str → Option Value} {base : Heap} {cl : Str → Addr}
set_option maxHeartbeats 4000000 in
theorem ok_Sheet_begin {f : Addr} {fd : FuncData} (F : Fun K "begin" "Sheet.begin" zm0 f fd) {f_Sheet_lay : Addr} {fd_Sheet_lay : FuncData} (b_Sheet_lay : Binds K fd_Sheet_lay ["self", "key"] []) (mt_Sheet_lay : Meth K (cl "Sheet") "lay" f_Sheet_lay) (G_Sheet_lay : FnOk P w K mg base CX0 1 f_Sheet_lay fd_Sheet_lay ["self", "key"] (sp0 K cl zj1)) (m_Sheet : mg "Sheet" = some (.ref (cl "Sheet"))) (cl_Sheet : Cls K (cl "Sheet")) (n_Sheet_rows : NoAttr K (cl "Sheet") "rows") (n_Sheet_spots : NoAttr K (cl "Sheet") "spots") (n_Sheet_name : NoAttr K (cl "Sheet") "name") (n_Sheet_slots : NoAttr K (cl "Sheet") "slots") : FnOk P w K mg base CX0 2 f fd ["self", "name", "slots"] (sp0 K cl zp3) := by
 refine F.ok sc_Sheet_begin (fun vs H Q E h => zm5 (fun ds S r e => zg5 e) h) (fun cdv A outer s H vs Q E hr h => ?_)
 refine ⟨_, (@za5 _ _ _ _ _ (yb6 (pv 0) (pv 1) rfl)
  (@za5 _ _ _ _ _ (yb6 (pv 0) (pv 2) rfl)
  (@za9 _ _ _ (@zc7 _ _ _ _ (zj0 (pv 0) cl_Sheet mt_Sheet_lay (G_Sheet_lay.mono (by decide)) hr b_Sheet_lay .nil pass0 (@za0 _ _ _ _ _ (@zb9 _ _ _ _ _ (@za0 _ _ _ _ _ zb1 (@za0 _ _ _ _ _ (pv 1) za3 (by rfl)) (by rfl))) za3 (by rfl))) (by rfl))))), ?_⟩
 exact s_fn0 (n := 3) rfl ((zc9 (yc0 (c := "Sheet") cl_Sheet n_Sheet_name (za4 fun ρ => (za2 (i := 0))) (za4 fun ρ => (za2 (i := 1))))
  (zc9 (yc0 (c := "Sheet") cl_Sheet n_Sheet_slots (za4 fun ρ => (za2 (i := 0))) (za4 fun ρ => (za2 (i := 2))))
  (zf4 (zi1 (c := "Sheet") (za4 fun ρ => (za2 (i := 0))) (zd8 fun ρ => (za1 (ze1 (za1 zb2 (za1 (za2 (i := 1)) zb0))) zb0))))))) h
end
theorem sc_Sheet_add : FnScope ["self", "row"] ["self", "row"] (zb3 zo7) := ⟨rfl, rfl, rfl, by decide +kernel, rfl, by decide +kernel, by decide +kernel⟩
section
variable {P : Program} {w : World} {K : PySem.W.Frag} {mg : Str → Option Value} {base : Heap} {cl : Str → Addr}
set_option maxHeartbeats 4000000 in
theorem ok_Sheet_add {f : Addr} {fd : FuncData} (F : Fun K "add" "Sheet.add" zo7 f fd) (m_Sheet : mg "Sheet" = some (.ref (cl "Sheet"))) (cl_Sheet : Cls K (cl "Sheet")) (n_Sheet_rows : NoAttr K (cl "Sheet") "rows") (n_Sheet_spots : NoAttr K (cl "Sheet") "spots") (n_Sheet_name : NoAttr K (cl "Sheet") "name") (n_Sheet_slots : NoAttr K (cl "Sheet") "slots") : FnOk P w K mg base CX0 1 f fd ["self", "row"] (sp0 K cl zc0) := by
 refine F.ok sc_Sheet_add (fun vs H Q E h => zm5 (fun ds S r e => zg5 e) h) (fun cdv A outer s H vs Q E hr h => ?_)
 refine ⟨_, (@za9 _ _ _ (@zc7 _ _ _ _ (zp2 (K := K) rfl PySem.F.plainAttrs_list PySem.F.slot_list_append PySem.F.type_list_append zq4 (zq0 (K := K) rfl (pv 0) rfl) (@za0 _ _ _ _ _ (pv 1) za3 (by rfl))) (by rfl))), ?_⟩
 exact s_fn0 (n := 2) rfl ((zs9 (zt3 (c := "Sheet") cl_Sheet n_Sheet_rows (za4 fun ρ => (za2 (i := 0)))) (za4 fun ρ => (za2 (i := 1))))) h
end
theorem sc_Sheet_free : FnScope ["self"] ["self"] (zb3 zn7) := ⟨rfl, rfl, rfl, by decide +kernel, rfl, by decide +kernel, by decide +kernel⟩
section
variable {P : Program} {w : World} {K : PySem.W.Frag} {mg : Str → Option Value} {base : Heap} {cl : Str → Addr}
set_option maxHeartbeats 4000000 in
theorem ok_Sheet_free {f : Addr} {fd : FuncData} (F : Fun K "free" "Sheet.free" zn7 f fd) (m_Sheet : mg "Sheet" = some (.ref (cl "Sheet"))) (cl_Sheet : Cls K (cl "Sheet")) (n_Sheet_rows : NoAttr K (cl "Sheet") "rows") (n_Sheet_spots : NoAttr K (cl "Sheet") "spots") (n_Sheet_name : NoAttr K (cl "Sheet") "name") (n_Sheet_slots : NoAttr K (cl "Sheet") "slots") (z_len : mg "len" = none) : FnOk P w K mg base CX0 1 f fd ["self"] (sp0 K cl zj5) := by
 refine F.ok sc_Sheet_free (fun vs H Q E h => zm5 (fun ds S r e => zg5 e) h) (fun cdv A outer s H vs Q E hr h => ?_)
 refine ⟨_, (@za9 _ _ _ (@zc8 _ _ _ _ (@pe_op _ _ _ _ _ _ _ _ (ze3 (K := K) rfl) (zg3 call_lenDK rfl z_len PySem.boot_len (@za0 _ _ _ _ _ (zq0 (K := K) rfl (pv 0) rfl) za3 (by rfl))) za8))), ?_⟩
 exact s_fn0 (n := 1) rfl ((zw6 (se_op (fun ρ => zg9) (se_dlen (zt3 (c := "Sheet") cl_Sheet n_Sheet_slots (za4 fun ρ => (za2 (i := 0))))) (za4 fun ρ => za7)))) h
end
theorem sc_settled : FnScope ["row", "spots"] ["row", "spots"] (zb3 zo9) := ⟨rfl, rfl, rfl, by decide +kernel, rfl, by decide +kernel, by decide +kernel⟩
section
variable {P : Program} {w : World} {K : PySem.W.Frag} {mg : Str → Option Value} {base : Heap} {cl : Str → Addr}
set_option maxHeartbeats 4000000 in
theorem ok_settled {f : Addr} {fd : FuncData} (F : Fun K "settled" "settled" zo9 f fd) : FnOk P w K mg base CX0 1 f fd ["row", "spots"] (sp0 K cl zq6) := by
 refine F.ok sc_settled (fun vs H Q E h => zm5 (fun ds S r e => zg5 e) h) (fun cdv A outer s H vs Q E hr h => ?_)
 refine ⟨_, (@za5 _ _ _ _ _ (@ps_if _ _ _ _ _ _ _ _ (zb7 (zr6 (K := K) rfl) (pe_ix (zb4 (K := K) rfl) (pv 0) za8 (fun _ _ => rfl)) (@zb9 _ _ _ _ _ (@za0 _ _ _ _ _ zb1 (@za0 _ _ _ _ _ zb1 (@za0 _ _ _ _ _ zb1 za3 (by rfl)) (by rfl)) (by rfl))) (by first | rfl | with_unfolding_all rfl))
  (@za9 _ _ _ (@zc8 _ _ _ _ (@pe_op _ _ _ _ _ _ _ _ (ze3 (K := K) rfl) (zu2 (yc1 (K := K) rfl) (pv 0) zz9 (zv4 (pe_un yk5 za8))) (@zb9 _ _ _ _ _ (@za0 _ _ _ _ _ (zz8 hr.units1 (pv 1) (pe_ix (zb4 (K := K) rfl) (pv 0) (pe_un yk5 za8) (fun _ _ => rfl)) (fun _ _ => rfl)) za3 (by rfl))))))
  zd4)
  (@za9 _ _ _ (@zc8 _ _ _ _ (pv 0)))), ?_⟩
 exact s_fn0 (n := 2) rfl ((zc9 (ss_if (zh1 fun ρ => (zc2 db_in (DE.dk (de_op dr_ix (za6 (i := 0)) za7)) (DE.dk (ze1 (za1 zb2 (za1 zb2 (za1 zb2 zb0)))))))
  (zw6 (se_op (fun ρ => zg9) (za4 fun ρ => (yi4 (za2 (i := 0)) zw9 (zs2 (yj8 za7)))) (zt2 (zb8 (ya4 (za4 fun ρ => (za2 (i := 1))) (za4 fun ρ => (de_op dr_ix (za6 (i := 0)) (yj8 za7)))) zm1))))
  (zf0 fun ρ => zd3))
  (zf0 fun ρ => (ze2 (za2 (i := 0)))))) h
end
theorem sc_names_within : FnScope ["body", "names", "statement", "around", "given", "expression"] ["body"] (zb3 zh3) := ⟨rfl, rfl, rfl, by decide +kernel, rfl, by decide +kernel, by decide +kernel⟩
section
variable {P : Program} {w : World} {K : PySem.W.Frag} {mg : Str → Option Value} {base : Heap} {cl : Str → Addr}
set_option maxHeartbeats 4000000 in
theorem ok_names_within {f : Addr} {fd : FuncData} (F : Fun K "names_within" "names_within" zh3 f fd) {f_placed : Addr} {fd_placed : FuncData} (d_placed : DfD K mg "placed" zp4 ["body", "around"] f_placed fd_placed) (G_placed : FnOk P w K mg base CX0 9 f_placed fd_placed ["body", "around"] (spD K (zq9 8))) {f_given_by : Addr} {fd_given_by : FuncData} (d_given_by : Df K mg "given_by" zn9 ["statement"] f_given_by fd_given_by) (G_given_by : FnOk P w K mg base CX0 1 f_given_by fd_given_by ["statement"] (spD K zr5)) {f_expressions_of : Addr} {fd_expressions_of : FuncData} (d_expressions_of : Df K mg "expressions_of" zf1 ["statement"] f_expressions_of fd_expressions_of) (G_expressions_of : FnOk P w K mg base CX0 1 f_expressions_of fd_expressions_of ["statement"] (spD K zi4)) {f_leaves_of : Addr} {fd_leaves_of : FuncData} (d_leaves_of : Df K mg "leaves_of" zk5 ["expression"] f_leaves_of fd_leaves_of) (G_leaves_of : FnOk P w K mg base CX0 9 f_leaves_of fd_leaves_of ["expression"] (spD K (zf3 9))) : FnOk P w K mg base CX0 10 f fd ["body"] (spD K zm7) := by
 refine F.ok sc_names_within (fun vs H Q E h => zn5 (fun ds d e => zh0 e) h) (fun cdv A outer s H vs Q E hr h => ?_)
 refine ⟨_, (@za5 _ _ _ _ _ (@zf2 _ _ 1 _ _ _ _ sc_names_within.nd rfl (Or.inl rfl) (@ze7 _ _ _ _ za3) (by rfl) (by first | exact .inl rfl | exact .inr rfl))
  (@za5 _ _ _ _ _ (@zr1 _ _ _ _ _ _ _ _ PassesOwn.never rfl (zj3 (K := K) rfl (zc3 (G_placed.mono (by decide)) hr rfl d_placed.m d_placed.fn.kp d_placed.b1 vals_non pass0 (@za0 _ _ _ _ _ (pv 0) za3 (by rfl)))) (zz2 (K := K) (n := 2) rfl rfl (zl9 (ze8 (i := 2) sc_names_within.nd rfl (Or.inl rfl)) (zl9 (ze8 (i := 3) sc_names_within.nd rfl (Or.inl rfl)) ya2)))
   (@za5 _ _ _ _ _ (@zf2 _ _ 4 _ _ _ _ sc_names_within.nd rfl (Or.inl rfl) (zc3 (G_given_by.mono (by decide)) hr rfl d_given_by.m d_given_by.fn.kp d_given_by.b .nil pass0 (@za0 _ _ _ _ _ (pv 2) za3 (by rfl))) (by rfl) (by first | exact .inl rfl | exact .inr rfl))
  (@za5 _ _ _ _ _ (@ps_if _ _ _ _ _ _ _ _ (zb7 op_notN (pv 4) yb1 (zc4 _))
   (@za9 _ _ _ (@zc7 _ _ _ _ (zp2 (K := K) rfl PySem.F.plainAttrs_list PySem.F.slot_list_append PySem.F.type_list_append zq4 (pv 1) (@za0 _ _ _ _ _ (pv 4) za3 (by rfl))) (by rfl)))
   zd4)
  (@za9 _ _ _ (@zr1 _ _ _ _ _ _ _ _ PassesOwn.never rfl (zj3 (K := K) rfl (zc3 (G_expressions_of.mono (by decide)) hr rfl d_expressions_of.m d_expressions_of.fn.kp d_expressions_of.b .nil pass0 (@za0 _ _ _ _ _ (pv 2) za3 (by rfl)))) (ze8 (i := 5) sc_names_within.nd rfl (Or.inl rfl))
   (@za9 _ _ _ (@zc7 _ _ _ _ (zp2 (K := K) rfl PySem.F.plainAttrs_list PySem.F.slot_list_extend PySem.F.type_list_extend mt_extend (pv 1) (@za0 _ _ _ _ _ (zs5 (N := ["leaf"]) (ix := [none]) (zj2 rfl (by decide +kernel) (by decide +kernel) (by rfl) rfl (by decide +kernel) (by rfl)) rfl (zj3 (K := K) rfl (zc3 (G_leaves_of.mono (by decide)) hr rfl d_leaves_of.m d_leaves_of.fn.kp d_leaves_of.b .nil pass0 (@za0 _ _ _ _ _ (pv 5) za3 (by rfl)))) (zk8 rfl) fun _ _ _ _ => ⟨(ze8 (i := 0) (show List.Nodup [Str.ofString "leaf"] by decide +kernel) rfl (Or.inl rfl) (.inr rfl)), (zu6 (zb7 (zd7 (K := K) rfl hr.units) (pe_ix (zb4 (K := K) rfl) (pv 0) za8 (fun _ _ => rfl)) zb1 (zc4 _))), (pe_ix (zb4 (K := K) rfl) (pv 0) za8 (fun _ _ => rfl))⟩) za3 (by rfl))) (by rfl))) (by intro _; rfl))))) (by intro _; rfl))
  (@za9 _ _ _ (@zc8 _ _ _ _ (pv 1))))), ?_⟩
 exact d_fn (n := 6) rfl (fun ρ => (zd5 (yj9 (zi7 zb0))
  (zd5 (ye3 (zs6 (de_callN (za1 (za2 (i := 0)) zb0))) (ye1 (n := 2) (zl7 zb5 (zl7 zb5 zz4)))
   (zd5 (zh5 (zf9 (za1 (za2 (i := 2)) zb0)) zb5)
  (zd5 (ds_if (zc2 db_notN (za6 (i := 4)) (DE.dk yb7))
   (ds_append (za2 (i := 4)))
   zd3)
  (ye3 (zs6 (zf9 (za1 (za2 (i := 2)) zb0))) zb5
   (ds_extend (zs1 (ix := [none]) (by decide) (zv5 (DE.dk (zf9 (za1 (za2 (i := 5)) zb0)))) zb5 (zc2 db_eq (DE.dk (de_op dr_ix (za6 (i := 0)) za7)) (DE.dk zb2)) (de_op dr_ix (za6 (i := 0)) za7)))))))
  (yk4 (i := 1) (ze2 (za2 (i := 1))))))) h
end
theorem sc_slots_of : FnScope ["params", "body", "slots", "name"] ["params", "body"] (zb3 zn6) := ⟨rfl, rfl, rfl, by decide +kernel, rfl, by decide +kernel, by decide +kernel⟩
section
variable {P : Program} {w : World} {K : PySem.W.Frag} {mg : Str → Option Value} {base : Heap} {cl : Str → Addr}
set_option maxHeartbeats 4000000 in
theorem ok_slots_of {f : Addr} {fd : FuncData} (F : Fun K "slots_of" "slots_of" zn6 f fd) {f_names_within : Addr} {fd_names_within : FuncData} (d_names_within : Df K mg "names_within" zh3 ["body"] f_names_within fd_names_within) (G_names_within : FnOk P w K mg base CX0 10 f_names_within fd_names_within ["body"] (spD K zm7)) (z_len : mg "len" = none) : FnOk P w K mg base CX0 11 f fd ["params", "body"] (sp0 K cl zt6) := by
 refine F.ok sc_slots_of (fun vs H Q E h => zm5 (fun ds S r e => zg5 e) h) (fun cdv A outer s H vs Q E hr h => ?_)
 refine ⟨_, (@za5 _ _ _ _ _ (@zf2 _ _ 2 _ _ _ _ sc_slots_of.nd rfl (Or.inl rfl) pe_dnewK (by rfl) (by first | exact .inl rfl | exact .inr rfl))
  (@za5 _ _ _ _ _ (@zr1 _ _ _ _ _ _ _ _ PassesOwn.never rfl (zj3 (K := K) rfl (@pe_op _ _ _ _ _ _ _ _ (ze3 (K := K) rfl) (pv 0) (zc3 (G_names_within.mono (by decide)) hr rfl d_names_within.m d_names_within.fn.kp d_names_within.b .nil pass0 (@za0 _ _ _ _ _ (pv 1) za3 (by rfl))))) (ze8 (i := 3) sc_slots_of.nd rfl (Or.inl rfl))
   (@za9 _ _ _ (@ps_if _ _ _ _ _ _ _ _ (pt_cmp (pc_dnotin hr.units1 (pv 3) (pv 2)) (by first | rfl | with_unfolding_all rfl))
   (@za9 _ _ _ (ps_dput hr.units1 (pv 2) (pv 3) (@pe_op _ _ _ _ _ _ _ _ (ze3 (K := K) rfl) (zg3 call_lenDK rfl z_len PySem.boot_len (@za0 _ _ _ _ _ (pv 2) za3 (by rfl))) za8) (by rfl)))
   zd4)) (by intro _; rfl))
  (@za9 _ _ _ (@zc8 _ _ _ _ (pv 2))))), ?_⟩
 exact s_fn0 (n := 4) rfl ((zc9 (zw7 se_dK (fun ρ => zb5))
  (zc9 (zw0 (zr0 fun ρ => (zs6 (de_op zg9 (za6 (i := 0)) (zf9 (za1 (za2 (i := 1)) zb0))))) (fun ρ => zb5)
   (ss_if (st_dnotin (za4 fun ρ => (za2 (i := 3))) (za4 fun ρ => (za2 (i := 2))))
   (ss_dput (za4 fun ρ => (za2 (i := 2))) (za4 fun ρ => (za2 (i := 3))) (se_op (fun ρ => zg9) (se_dlen (za4 fun ρ => (za2 (i := 2)))) (za4 fun ρ => za7)))
   (zf0 fun ρ => zd3)))
  (zf0 fun ρ => (ze2 (za2 (i := 2))))))) h
end
theorem sc_make_expression : FnScope ["sheet", "line", "expression", "at", "kind"] ["sheet", "line", "expression", "at"] (zb3 ze4) := ⟨rfl, rfl, rfl, by decide +kernel, rfl, by decide +kernel, by decide +kernel⟩
section
variable {P : Program} {w : World} {K : PySem.W.Frag} {mg : Str → Option Value} {base : Heap} {cl : Str → Addr}
set_option maxHeartbeats 4000000 in
theorem okS_make_expression {n : Nat} {f_make_expression : Addr} {fd_make_expression : FuncData} (d_make_expression : Df K mg "make_expression" ze4 ["sheet", "line", "expression", "at"] f_make_expression fd_make_expression) {f_Sheet_add : Addr} {fd_Sheet_add : FuncData} (b_Sheet_add : Binds K fd_Sheet_add ["self", "row"] []) (mt_Sheet_add : Meth K (cl "Sheet") "add" f_Sheet_add) (G_Sheet_add : FnOk P w K mg base CX0 1 f_Sheet_add fd_Sheet_add ["self", "row"] (sp0 K cl zc0)) (m_Sheet : mg "Sheet" = some (.ref (cl "Sheet"))) (cl_Sheet : Cls K (cl "Sheet")) (n_Sheet_rows : NoAttr K (cl "Sheet") "rows") (n_Sheet_spots : NoAttr K (cl "Sheet") "spots") (n_Sheet_name : NoAttr K (cl "Sheet") "name") (n_Sheet_slots : NoAttr K (cl "Sheet") "slots") {a_SIGNS : Addr} (m_SIGNS : mg "SIGNS" = some (.ref a_SIGNS)) (g_SIGNS : ∀ G, SqT K G a_SIGNS (([(Str.ofString "lane"), (Str.ofString "lanes"), (Str.ofString "mine")]).map V.str)) (G_make_expression : FnOk P w K mg base CX0 (1 + n) f_make_expression fd_make_expression ["sheet", "line", "expression", "at"] (sp0 K cl (ze5 n))) : FnOk P w K mg base CX0 (1 + n + 1) f_make_expression fd_make_expression ["sheet", "line", "expression", "at"] (sp0 K cl (ze5 (n + 1))) := by
 have F := d_make_expression.fn
 refine F.ok sc_make_expression (fun vs H Q E h => zm5 (fun ds S r e => zg5 e) h) (fun cdv A outer s H vs Q E hr h => ?_)
 refine ⟨_, (@za5 _ _ _ _ _ (@zf2 _ _ 4 _ _ _ _ sc_make_expression.nd rfl (Or.inl rfl) (pe_ix (zb4 (K := K) rfl) (pv 2) za8 (fun _ _ => rfl)) (by rfl) (by first | exact .inl rfl | exact .inr rfl))
  (@za9 _ _ _ (@ps_if _ _ _ _ _ _ _ _ (zb7 (zd7 (K := K) rfl hr.units) (pv 4) zb1 (zc4 _))
   (@za9 _ _ _ (@zc7 _ _ _ _ (zj0 (pv 0) cl_Sheet mt_Sheet_add (G_Sheet_add.mono (by omega)) hr b_Sheet_add .nil pass0 (@za0 _ _ _ _ _ (@zb9 _ _ _ _ _ (@za0 _ _ _ _ _ zb1 (@za0 _ _ _ _ _ (pv 1) (@za0 _ _ _ _ _ (pv 3) (@za0 _ _ _ _ _ (pe_ix (zb4 (K := K) rfl) (pv 2) za8 (fun _ _ => rfl)) za3 (by rfl)) (by rfl)) (by rfl)) (by rfl))) za3 (by rfl))) (by rfl)))
   (@za9 _ _ _ (@ps_if _ _ _ _ _ _ _ _ (zb7 (zd7 (K := K) rfl hr.units) (pv 4) zb1 (zc4 _))
   (@za9 _ _ _ (@zc7 _ _ _ _ (zj0 (pv 0) cl_Sheet mt_Sheet_add (G_Sheet_add.mono (by omega)) hr b_Sheet_add .nil pass0 (@za0 _ _ _ _ _ (@zb9 _ _ _ _ _ (@za0 _ _ _ _ _ zb1 (@za0 _ _ _ _ _ (pv 1) (@za0 _ _ _ _ _ (pv 3) (@za0 _ _ _ _ _ (zz8 hr.units1 (zq0 (K := K) rfl (pv 0) rfl) (pe_ix (zb4 (K := K) rfl) (pv 2) za8 (fun _ _ => rfl)) (fun _ _ => rfl)) za3 (by rfl)) (by rfl)) (by rfl)) (by rfl))) za3 (by rfl))) (by rfl)))
   (@za9 _ _ _ (@ps_if _ _ _ _ _ _ _ _ (zb7 (zr6 (K := K) rfl) (pv 4) (pe_glob (v := .ref a_SIGNS) rfl m_SIGNS rfl) (by first | rfl | with_unfolding_all rfl))
   (@za9 _ _ _ (@zc7 _ _ _ _ (zj0 (pv 0) cl_Sheet mt_Sheet_add (G_Sheet_add.mono (by omega)) hr b_Sheet_add .nil pass0 (@za0 _ _ _ _ _ (@zb9 _ _ _ _ _ (@za0 _ _ _ _ _ zb1 (@za0 _ _ _ _ _ (pv 1) (@za0 _ _ _ _ _ (pv 3) (@za0 _ _ _ _ _ (pv 4) za3 (by rfl)) (by rfl)) (by rfl)) (by rfl))) za3 (by rfl))) (by rfl)))
   (@za9 _ _ _ (@ps_if _ _ _ _ _ _ _ _ (zb7 (zd7 (K := K) rfl hr.units) (pv 4) zb1 (zc4 _))
   (@za5 _ _ _ _ _ (@zc7 _ _ _ _ (zc3 (G_make_expression.mono (by omega)) hr rfl d_make_expression.m d_make_expression.fn.kp d_make_expression.b .nil pass0 (@za0 _ _ _ _ _ (pv 0) (@za0 _ _ _ _ _ (pv 1) (@za0 _ _ _ _ _ (pe_ix (zb4 (K := K) rfl) (pv 2) za8 (fun _ _ => rfl)) (@za0 _ _ _ _ _ (pv 3) za3 (by rfl)) (by rfl)) (by rfl)) (by rfl))) (by rfl))
  (@za9 _ _ _ (@zc7 _ _ _ _ (zj0 (pv 0) cl_Sheet mt_Sheet_add (G_Sheet_add.mono (by omega)) hr b_Sheet_add .nil pass0 (@za0 _ _ _ _ _ (@zb9 _ _ _ _ _ (@za0 _ _ _ _ _ zb1 (@za0 _ _ _ _ _ (pv 1) (@za0 _ _ _ _ _ (pv 3) (@za0 _ _ _ _ _ (pv 3) za3 (by rfl)) (by rfl)) (by rfl)) (by rfl))) za3 (by rfl))) (by rfl))))
   (@za5 _ _ _ _ _ (@zc7 _ _ _ _ (zc3 (G_make_expression.mono (by omega)) hr rfl d_make_expression.m d_make_expression.fn.kp d_make_expression.b .nil pass0 (@za0 _ _ _ _ _ (pv 0) (@za0 _ _ _ _ _ (pv 1) (@za0 _ _ _ _ _ (pe_ix (zb4 (K := K) rfl) (pv 2) za8 (fun _ _ => rfl)) (@za0 _ _ _ _ _ (pv 3) za3 (by rfl)) (by rfl)) (by rfl)) (by rfl))) (by rfl))
  (@za5 _ _ _ _ _ (@zc7 _ _ _ _ (zc3 (G_make_expression.mono (by omega)) hr rfl d_make_expression.m d_make_expression.fn.kp d_make_expression.b .nil pass0 (@za0 _ _ _ _ _ (pv 0) (@za0 _ _ _ _ _ (pv 1) (@za0 _ _ _ _ _ (pe_ix (zb4 (K := K) rfl) (pv 2) za8 (fun _ _ => rfl)) (@za0 _ _ _ _ _ (@pe_op _ _ _ _ _ _ _ _ (ze3 (K := K) rfl) (pv 3) za8) za3 (by rfl)) (by rfl)) (by rfl)) (by rfl))) (by rfl))
  (@za9 _ _ _ (@zc7 _ _ _ _ (zj0 (pv 0) cl_Sheet mt_Sheet_add (G_Sheet_add.mono (by omega)) hr b_Sheet_add .nil pass0 (@za0 _ _ _ _ _ (@zb9 _ _ _ _ _ (@za0 _ _ _ _ _ zb1 (@za0 _ _ _ _ _ (pv 1) (@za0 _ _ _ _ _ (pv 3) (@za0 _ _ _ _ _ (pv 4) (@za0 _ _ _ _ _ (pv 3) (@za0 _ _ _ _ _ (@pe_op _ _ _ _ _ _ _ _ (ze3 (K := K) rfl) (pv 3) za8) za3 (by rfl)) (by rfl)) (by rfl)) (by rfl)) (by rfl)) (by rfl))) za3 (by rfl))) (by rfl)))))))))))))), ?_⟩
 exact s_fn0 (n := 5) rfl ((zc9 (zf0 fun ρ => (zh5 (de_op dr_ix (za6 (i := 2)) za7) zb5))
  (ss_if (zh1 fun ρ => (zc2 db_eq (za6 (i := 4)) (DE.dk zb2)))
   (zf4 (zi1 (c := "Sheet") (za4 fun ρ => (za2 (i := 0))) (zd8 fun ρ => (za1 (ze1 (za1 zb2 (za1 (za2 (i := 1)) (za1 (za2 (i := 3)) (za1 (de_op dr_ix (za6 (i := 2)) za7) zb0))))) zb0))))
   (ss_if (zh1 fun ρ => (zc2 db_eq (za6 (i := 4)) (DE.dk zb2)))
   (zf4 (zi1 (c := "Sheet") (za4 fun ρ => (za2 (i := 0))) (zb8 (zt2 (zb8 (za4 fun ρ => zb2) (zb8 (za4 fun ρ => (za2 (i := 1))) (zb8 (za4 fun ρ => (za2 (i := 3))) (zb8 (ya4 (zt3 (c := "Sheet") cl_Sheet n_Sheet_slots (za4 fun ρ => (za2 (i := 0)))) (za4 fun ρ => (de_op dr_ix (za6 (i := 2)) za7))) zm1))))) zm1)))
   (ss_if (zh1 fun ρ => (dt_inG (ws := [(Str.ofString "lane"), (Str.ofString "lanes"), (Str.ofString "mine")]) g_SIGNS (za6 (i := 4))))
   (zf4 (zi1 (c := "Sheet") (za4 fun ρ => (za2 (i := 0))) (zd8 fun ρ => (za1 (ze1 (za1 zb2 (za1 (za2 (i := 1)) (za1 (za2 (i := 3)) (za1 (za2 (i := 4)) zb0))))) zb0))))
   (ss_if (zh1 fun ρ => (zc2 db_eq (za6 (i := 4)) (DE.dk zb2)))
   (zc9 (zf4 (zk9 (zd8 fun ρ => (za1 (za2 (i := 0)) (za1 (za2 (i := 1)) (za1 (de_op dr_ix (za6 (i := 2)) za7) (za1 (za2 (i := 3)) zb0)))))))
  (zf4 (zi1 (c := "Sheet") (za4 fun ρ => (za2 (i := 0))) (zd8 fun ρ => (za1 (ze1 (za1 zb2 (za1 (za2 (i := 1)) (za1 (za2 (i := 3)) (za1 (za2 (i := 3)) zb0))))) zb0)))))
   (zc9 (zf4 (zk9 (zd8 fun ρ => (za1 (za2 (i := 0)) (za1 (za2 (i := 1)) (za1 (de_op dr_ix (za6 (i := 2)) za7) (za1 (za2 (i := 3)) zb0)))))))
  (zc9 (zf4 (zk9 (zd8 fun ρ => (za1 (za2 (i := 0)) (za1 (za2 (i := 1)) (za1 (de_op dr_ix (za6 (i := 2)) za7) (za1 (de_op zg9 (za6 (i := 3)) za7) zb0)))))))
  (zf4 (zi1 (c := "Sheet") (za4 fun ρ => (za2 (i := 0))) (zd8 fun ρ => (za1 (ze1 (za1 zb2 (za1 (za2 (i := 1)) (za1 (za2 (i := 3)) (za1 (za2 (i := 4)) (za1 (za2 (i := 3)) (za1 (de_op zg9 (za6 (i := 3)) za7) zb0))))))) zb0)))))))))))) h
theorem ok_make_expression {f_make_expression : Addr} {fd_make_expression : FuncData} (d_make_expression : Df K mg "make_expression" ze4 ["sheet", "line", "expression", "at"] f_make_expression fd_make_expression) {f_Sheet_add : Addr} {fd_Sheet_add : FuncData} (b_Sheet_add : Binds K fd_Sheet_add ["self", "row"] []) (mt_Sheet_add : Meth K (cl "Sheet") "add" f_Sheet_add) (G_Sheet_add : FnOk P w K mg base CX0 1 f_Sheet_add fd_Sheet_add ["self", "row"] (sp0 K cl zc0)) (m_Sheet : mg "Sheet" = some (.ref (cl "Sheet"))) (cl_Sheet : Cls K (cl "Sheet")) (n_Sheet_rows : NoAttr K (cl "Sheet") "rows") (n_Sheet_spots : NoAttr K (cl "Sheet") "spots") (n_Sheet_name : NoAttr K (cl "Sheet") "name") (n_Sheet_slots : NoAttr K (cl "Sheet") "slots") {a_SIGNS : Addr} (m_SIGNS : mg "SIGNS" = some (.ref a_SIGNS)) (g_SIGNS : ∀ G, SqT K G a_SIGNS (([(Str.ofString "lane"), (Str.ofString "lanes"), (Str.ofString "mine")]).map V.str)) : ∀ n, FnOk P w K mg base CX0 (1 + n) f_make_expression fd_make_expression ["sheet", "line", "expression", "at"] (sp0 K cl (ze5 n))
 | 0 => FnOk.no0 fun _ _ => rfl
 | n + 1 => okS_make_expression d_make_expression b_Sheet_add mt_Sheet_add G_Sheet_add m_Sheet cl_Sheet n_Sheet_rows n_Sheet_spots n_Sheet_name n_Sheet_slots m_SIGNS g_SIGNS (ok_make_expression d_make_expression b_Sheet_add mt_Sheet_add G_Sheet_add m_Sheet cl_Sheet n_Sheet_rows n_Sheet_spots n_Sheet_name n_Sheet_slots m_SIGNS g_SIGNS n)
end
theorem sc_make_rest : FnScope ["sheet", "statement", "kind", "line", "first"] ["sheet", "statement"] (zb3 zl2) := ⟨rfl, rfl, rfl, by decide +kernel, rfl, by decide +kernel, by decide +kernel⟩
section
variable {P : Program} {w : World} {K : PySem.W.Frag} {mg : Str → Option Value} {base : Heap} {cl : Str → Addr}
set_option maxHeartbeats 4000000 in
theorem ok_make_rest {f : Addr} {fd : FuncData} (F : Fun K "make_rest" "make_rest" zl2 f fd) {f_Sheet_free : Addr} {fd_Sheet_free : FuncData} (b_Sheet_free : Binds K fd_Sheet_free ["self"] []) (mt_Sheet_free : Meth K (cl "Sheet") "free" f_Sheet_free) (G_Sheet_free : FnOk P w K mg base CX0 1 f_Sheet_free fd_Sheet_free ["self"] (sp0 K cl zj5)) {f_Sheet_add : Addr} {fd_Sheet_add : FuncData} (b_Sheet_add : Binds K fd_Sheet_add ["self", "row"] []) (mt_Sheet_add : Meth K (cl "Sheet") "add" f_Sheet_add) (G_Sheet_add : FnOk P w K mg base CX0 1 f_Sheet_add fd_Sheet_add ["self", "row"] (sp0 K cl zc0)) (m_Sheet : mg "Sheet" = some (.ref (cl "Sheet"))) (cl_Sheet : Cls K (cl "Sheet")) (n_Sheet_rows : NoAttr K (cl "Sheet") "rows") (n_Sheet_spots : NoAttr K (cl "Sheet") "spots") (n_Sheet_name : NoAttr K (cl "Sheet") "name") (n_Sheet_slots : NoAttr K (cl "Sheet") "slots") (z_len : mg "len" = none) : FnOk P w K mg base CX0 2 f fd ["sheet", "statement"] (sp0 K cl zr8) := by
 refine F.ok sc_make_rest (fun vs H Q E h => zm5 (fun ds S r e => zg5 e) h) (fun cdv A outer s H vs Q E hr h => ?_)
 refine ⟨_, (@za5 _ _ _ _ _ (@zf2 _ _ 2 _ _ _ _ sc_make_rest.nd rfl (Or.inl rfl) (pe_ix (zb4 (K := K) rfl) (pv 1) za8 (fun _ _ => rfl)) (by rfl) (by first | exact .inl rfl | exact .inr rfl))
  (@za5 _ _ _ _ _ (@zf2 _ _ 3 _ _ _ _ sc_make_rest.nd rfl (Or.inl rfl) (pe_ix (zb4 (K := K) rfl) (pv 1) za8 (fun _ _ => rfl)) (by rfl) (by first | exact .inl rfl | exact .inr rfl))
  (@za5 _ _ _ _ _ (@zf2 _ _ 4 _ _ _ _ sc_make_rest.nd rfl (Or.inl rfl) (pe_meth0 (pv 0) cl_Sheet mt_Sheet_free (G_Sheet_free.mono (by decide)) hr b_Sheet_free .nil pass0) (by rfl) (by first | exact .inl rfl | exact .inr rfl))
  (@za9 _ _ _ (@ps_if _ _ _ _ _ _ _ _ (zb7 (zd7 (K := K) rfl hr.units) (pv 2) zb1 (zc4 _))
   (@za9 _ _ _ (@zc7 _ _ _ _ (zj0 (pv 0) cl_Sheet mt_Sheet_add (G_Sheet_add.mono (by decide)) hr b_Sheet_add .nil pass0 (@za0 _ _ _ _ _ (@zb9 _ _ _ _ _ (@za0 _ _ _ _ _ zb1 (@za0 _ _ _ _ _ (pv 3) (@za0 _ _ _ _ _ (zz8 hr.units1 (zq0 (K := K) rfl (pv 0) rfl) (pe_ix (zb4 (K := K) rfl) (pv 1) za8 (fun _ _ => rfl)) (fun _ _ => rfl)) (@za0 _ _ _ _ _ (pv 4) za3 (by rfl)) (by rfl)) (by rfl)) (by rfl))) za3 (by rfl))) (by rfl)))
   (@za9 _ _ _ (@ps_if _ _ _ _ _ _ _ _ (zb7 (zd7 (K := K) rfl hr.units) (pv 2) zb1 (zc4 _))
   (@za9 _ _ _ (@zc7 _ _ _ _ (zj0 (pv 0) cl_Sheet mt_Sheet_add (G_Sheet_add.mono (by decide)) hr b_Sheet_add .nil pass0 (@za0 _ _ _ _ _ (@zb9 _ _ _ _ _ (@za0 _ _ _ _ _ zb1 (@za0 _ _ _ _ _ (pv 3) (@za0 _ _ _ _ _ (pv 4) (@za0 _ _ _ _ _ (@pe_op _ _ _ _ _ _ _ _ (ze3 (K := K) rfl) (pv 4) za8) za3 (by rfl)) (by rfl)) (by rfl)) (by rfl))) za3 (by rfl))) (by rfl)))
   (@za9 _ _ _ (@ps_if _ _ _ _ _ _ _ _ (zb7 (zd7 (K := K) rfl hr.units) (pv 2) zb1 (zc4 _))
   (@za9 _ _ _ (@zc7 _ _ _ _ (zj0 (pv 0) cl_Sheet mt_Sheet_add (G_Sheet_add.mono (by decide)) hr b_Sheet_add .nil pass0 (@za0 _ _ _ _ _ (@zb9 _ _ _ _ _ (@za0 _ _ _ _ _ zb1 (@za0 _ _ _ _ _ (pv 3) (@za0 _ _ _ _ _ (pv 4) za3 (by rfl)) (by rfl)) (by rfl))) za3 (by rfl))) (by rfl)))
   (@za9 _ _ _ (@ps_if _ _ _ _ _ _ _ _ (zb7 (zd7 (K := K) rfl hr.units) (pv 2) zb1 (zc4 _))
   (@za9 _ _ _ (@zc7 _ _ _ _ (zj0 (pv 0) cl_Sheet mt_Sheet_add (G_Sheet_add.mono (by decide)) hr b_Sheet_add .nil pass0 (@za0 _ _ _ _ _ (@zb9 _ _ _ _ _ (@za0 _ _ _ _ _ zb1 (@za0 _ _ _ _ _ (pv 3) (@za0 _ _ _ _ _ (zz8 hr.units1 (zq0 (K := K) rfl (pv 0) rfl) (pe_ix (zb4 (K := K) rfl) (pv 1) za8 (fun _ _ => rfl)) (fun _ _ => rfl)) (@za0 _ _ _ _ _ (pv 4) (@za0 _ _ _ _ _ (zg3 (zk7 (K := K) rfl) rfl z_len PySem.boot_len (@za0 _ _ _ _ _ (pe_ix (zb4 (K := K) rfl) (pv 1) za8 (fun _ _ => rfl)) za3 (by rfl))) (@za0 _ _ _ _ _ (@zb9 _ _ _ _ _ (@za0 _ _ _ _ _ zb1 (@za0 _ _ _ _ _ (pe_ix (zb4 (K := K) rfl) (pv 1) za8 (fun _ _ => rfl)) za3 (by rfl)) (by rfl))) za3 (by rfl)) (by rfl)) (by rfl)) (by rfl)) (by rfl)) (by rfl))) za3 (by rfl))) (by rfl)))
   (@za9 _ _ _ (@ps_if _ _ _ _ _ _ _ _ (zb7 (zd7 (K := K) rfl hr.units) (pv 2) zb1 (zc4 _))
   (@za5 _ _ _ _ _ (@zc7 _ _ _ _ (zj0 (pv 0) cl_Sheet mt_Sheet_add (G_Sheet_add.mono (by decide)) hr b_Sheet_add .nil pass0 (@za0 _ _ _ _ _ (@zb9 _ _ _ _ _ (@za0 _ _ _ _ _ zb1 (@za0 _ _ _ _ _ (pv 3) (@za0 _ _ _ _ _ za8 (@za0 _ _ _ _ _ (pv 4) za3 (by rfl)) (by rfl)) (by rfl)) (by rfl))) za3 (by rfl))) (by rfl))
  (@za9 _ _ _ (@zc7 _ _ _ _ (zj0 (pv 0) cl_Sheet mt_Sheet_add (G_Sheet_add.mono (by decide)) hr b_Sheet_add .nil pass0 (@za0 _ _ _ _ _ (@zb9 _ _ _ _ _ (@za0 _ _ _ _ _ zb1 (@za0 _ _ _ _ _ (pv 3) (@za0 _ _ _ _ _ (@zb9 _ _ _ _ _ (@za0 _ _ _ _ _ zb1 (@za0 _ _ _ _ _ (zq0 (K := K) rfl (pv 0) rfl) za3 (by rfl)) (by rfl))) za3 (by rfl)) (by rfl)) (by rfl))) za3 (by rfl))) (by rfl))))
   (@za9 _ _ _ (@ps_if _ _ _ _ _ _ _ _ (zb7 (zd7 (K := K) rfl hr.units) (pv 2) zb1 (zc4 _))
   (@za9 _ _ _ (@zc7 _ _ _ _ (zj0 (pv 0) cl_Sheet mt_Sheet_add (G_Sheet_add.mono (by decide)) hr b_Sheet_add .nil pass0 (@za0 _ _ _ _ _ (@zb9 _ _ _ _ _ (@za0 _ _ _ _ _ zb1 (@za0 _ _ _ _ _ (pv 3) (@za0 _ _ _ _ _ (zz8 hr.units1 (zq0 (K := K) rfl (pv 0) rfl) (pe_ix (zb4 (K := K) rfl) (pv 1) za8 (fun _ _ => rfl)) (fun _ _ => rfl)) (@za0 _ _ _ _ _ (pe_ix (zb4 (K := K) rfl) (pv 1) za8 (fun _ _ => rfl)) (@za0 _ _ _ _ _ (pv 4) za3 (by rfl)) (by rfl)) (by rfl)) (by rfl)) (by rfl))) za3 (by rfl))) (by rfl)))
   (@za9 _ _ _ (@zc7 _ _ _ _ (zj0 (pv 0) cl_Sheet mt_Sheet_add (G_Sheet_add.mono (by decide)) hr b_Sheet_add .nil pass0 (@za0 _ _ _ _ _ (@zb9 _ _ _ _ _ (@za0 _ _ _ _ _ (pv 2) (@za0 _ _ _ _ _ (pv 3) za3 (by rfl)) (by rfl))) za3 (by rfl))) (by rfl)))))))))))))))))), ?_⟩
 exact s_fn0 (n := 5) rfl ((zc9 (zf0 fun ρ => (zh5 (de_op dr_ix (za6 (i := 1)) za7) zb5))
  (zc9 (zf0 fun ρ => (zh5 (de_op dr_ix (za6 (i := 1)) za7) zb5))
  (zc9 (zw7 (zi1 (c := "Sheet") (za4 fun ρ => (za2 (i := 0))) (zd8 fun ρ => zb0)) (fun ρ => zb5))
  (ss_if (zh1 fun ρ => (zc2 db_eq (za6 (i := 2)) (DE.dk zb2)))
   (zf4 (zi1 (c := "Sheet") (za4 fun ρ => (za2 (i := 0))) (zb8 (zt2 (zb8 (za4 fun ρ => zb2) (zb8 (za4 fun ρ => (za2 (i := 3))) (zb8 (ya4 (zt3 (c := "Sheet") cl_Sheet n_Sheet_slots (za4 fun ρ => (za2 (i := 0)))) (za4 fun ρ => (de_op dr_ix (za6 (i := 1)) za7))) (zb8 (za4 fun ρ => (za2 (i := 4))) zm1))))) zm1)))
   (ss_if (zh1 fun ρ => (zc2 db_eq (za6 (i := 2)) (DE.dk zb2)))
   (zf4 (zi1 (c := "Sheet") (za4 fun ρ => (za2 (i := 0))) (zd8 fun ρ => (za1 (ze1 (za1 zb2 (za1 (za2 (i := 3)) (za1 (za2 (i := 4)) (za1 (de_op zg9 (za6 (i := 4)) za7) zb0))))) zb0))))
   (ss_if (zh1 fun ρ => (zc2 db_eq (za6 (i := 2)) (DE.dk zb2)))
   (zf4 (zi1 (c := "Sheet") (za4 fun ρ => (za2 (i := 0))) (zd8 fun ρ => (za1 (ze1 (za1 zb2 (za1 (za2 (i := 3)) (za1 (za2 (i := 4)) zb0)))) zb0))))
   (ss_if (zh1 fun ρ => (zc2 db_eq (za6 (i := 2)) (DE.dk zb2)))
   (zf4 (zi1 (c := "Sheet") (za4 fun ρ => (za2 (i := 0))) (zb8 (zt2 (zb8 (za4 fun ρ => zb2) (zb8 (za4 fun ρ => (za2 (i := 3))) (zb8 (ya4 (zt3 (c := "Sheet") cl_Sheet n_Sheet_slots (za4 fun ρ => (za2 (i := 0)))) (za4 fun ρ => (de_op dr_ix (za6 (i := 1)) za7))) (zb8 (za4 fun ρ => (za2 (i := 4))) (zb8 (za4 fun ρ => (de_c1 zx6 (DE.dk (de_op dr_ix (za6 (i := 1)) za7)))) (zb8 (za4 fun ρ => (ze1 (za1 zb2 (za1 (de_op dr_ix (za6 (i := 1)) za7) zb0)))) zm1))))))) zm1)))
   (ss_if (zh1 fun ρ => (zc2 db_eq (za6 (i := 2)) (DE.dk zb2)))
   (zc9 (zf4 (zi1 (c := "Sheet") (za4 fun ρ => (za2 (i := 0))) (zd8 fun ρ => (za1 (ze1 (za1 zb2 (za1 (za2 (i := 3)) (za1 za7 (za1 (za2 (i := 4)) zb0))))) zb0))))
  (zf4 (zi1 (c := "Sheet") (za4 fun ρ => (za2 (i := 0))) (zb8 (zt2 (zb8 (za4 fun ρ => zb2) (zb8 (za4 fun ρ => (za2 (i := 3))) (zb8 (zt2 (zb8 (za4 fun ρ => zb2) (zb8 (zt3 (c := "Sheet") cl_Sheet n_Sheet_name (za4 fun ρ => (za2 (i := 0)))) zm1))) zm1)))) zm1))))
   (ss_if (zh1 fun ρ => (zc2 db_eq (za6 (i := 2)) (DE.dk zb2)))
   (zf4 (zi1 (c := "Sheet") (za4 fun ρ => (za2 (i := 0))) (zb8 (zt2 (zb8 (za4 fun ρ => zb2) (zb8 (za4 fun ρ => (za2 (i := 3))) (zb8 (ya4 (zt3 (c := "Sheet") cl_Sheet n_Sheet_slots (za4 fun ρ => (za2 (i := 0)))) (za4 fun ρ => (de_op dr_ix (za6 (i := 1)) za7))) (zb8 (za4 fun ρ => (de_op dr_ix (za6 (i := 1)) za7)) (zb8 (za4 fun ρ => (za2 (i := 4))) zm1)))))) zm1)))
   (zf4 (zi1 (c := "Sheet") (za4 fun ρ => (za2 (i := 0))) (zd8 fun ρ => (za1 (ze1 (za1 (za2 (i := 2)) (za1 (za2 (i := 3)) zb0))) zb0)))))))))))))) h
end
theorem sc_make_statement : FnScope ["sheet", "statement", "loop", "kind", "line", "at", "expression"] ["sheet", "statement", "loop"] (zb3 zf7) := ⟨rfl, rfl, rfl, by decide +kernel, rfl, by decide +kernel, by decide +kernel⟩
section
variable {P : Program} {w : World} {K : PySem.W.Frag} {mg : Str → Option Value} {base : Heap} {cl : Str → Addr}
set_option maxHeartbeats 4000000 in
theorem ok_make_statement {f : Addr} {fd : FuncData} (F : Fun K "make_statement" "make_statement" zf7 f fd) {f_Sheet_lay : Addr} {fd_Sheet_lay : FuncData} (b_Sheet_lay : Binds K fd_Sheet_lay ["self", "key"] []) (mt_Sheet_lay : Meth K (cl "Sheet") "lay" f_Sheet_lay) (G_Sheet_lay : FnOk P w K mg base CX0 1 f_Sheet_lay fd_Sheet_lay ["self", "key"] (sp0 K cl zj1)) {f_Sheet_add : Addr} {fd_Sheet_add : FuncData} (b_Sheet_add : Binds K fd_Sheet_add ["self", "row"] []) (mt_Sheet_add : Meth K (cl "Sheet") "add" f_Sheet_add) (G_Sheet_add : FnOk P w K mg base CX0 1 f_Sheet_add fd_Sheet_add ["self", "row"] (sp0 K cl zc0)) {f_make_expression : Addr} {fd_make_expression : FuncData} (d_make_expression : Df K mg "make_expression" ze4 ["sheet", "line", "expression", "at"] f_make_expression fd_make_expression) (G_make_expression : FnOk P w K mg base CX0 10 f_make_expression fd_make_expression ["sheet", "line", "expression", "at"] (sp0 K cl (ze5 9))) {f_expressions_of : Addr} {fd_expressions_of : FuncData} (d_expressions_of : Df K mg "expressions_of" zf1 ["statement"] f_expressions_of fd_expressions_of) (G_expressions_of : FnOk P w K mg base CX0 1 f_expressions_of fd_expressions_of ["statement"] (spD K zi4)) {f_Sheet_free : Addr} {fd_Sheet_free : FuncData} (b_Sheet_free : Binds K fd_Sheet_free ["self"] []) (mt_Sheet_free : Meth K (cl "Sheet") "free" f_Sheet_free) (G_Sheet_free : FnOk P w K mg base CX0 1 f_Sheet_free fd_Sheet_free ["self"] (sp0 K cl zj5)) {f_make_rest : Addr} {fd_make_rest : FuncData} (d_make_rest : Df K mg "make_rest" zl2 ["sheet", "statement"] f_make_rest fd_make_rest) (G_make_rest : FnOk P w K mg base CX0 2 f_make_rest fd_make_rest ["sheet", "statement"] (sp0 K cl zr8)) (m_Sheet : mg "Sheet" = some (.ref (cl "Sheet"))) (cl_Sheet : Cls K (cl "Sheet")) (n_Sheet_rows : NoAttr K (cl "Sheet") "rows") (n_Sheet_spots : NoAttr K (cl "Sheet") "spots") (n_Sheet_name : NoAttr K (cl "Sheet") "name") (n_Sheet_slots : NoAttr K (cl "Sheet") "slots") (z_enumerate : mg "enumerate" = none) : FnOk P w K mg base CX0 11 f fd ["sheet", "statement", "loop"] (sp0 K cl zn0) := by
 refine F.ok sc_make_statement (fun vs H Q E h => zm5 (fun ds S r e => zg5 e) h) (fun cdv A outer s H vs Q E hr h => ?_)
 refine ⟨_, (@za5 _ _ _ _ _ (@zf2 _ _ 3 _ _ _ _ sc_make_statement.nd rfl (Or.inl rfl) (pe_ix (zb4 (K := K) rfl) (pv 1) za8 (fun _ _ => rfl)) (by rfl) (by first | exact .inl rfl | exact .inr rfl))
  (@za5 _ _ _ _ _ (@zf2 _ _ 4 _ _ _ _ sc_make_statement.nd rfl (Or.inl rfl) (pe_ix (zb4 (K := K) rfl) (pv 1) za8 (fun _ _ => rfl)) (by rfl) (by first | exact .inl rfl | exact .inr rfl))
  (@za5 _ _ _ _ _ (@zc7 _ _ _ _ (zj0 (pv 0) cl_Sheet mt_Sheet_lay (G_Sheet_lay.mono (by decide)) hr b_Sheet_lay .nil pass0 (@za0 _ _ _ _ _ (@zb9 _ _ _ _ _ (@za0 _ _ _ _ _ zb1 (@za0 _ _ _ _ _ (pv 4) za3 (by rfl)) (by rfl))) za3 (by rfl))) (by rfl))
  (@za5 _ _ _ _ _ (@zc7 _ _ _ _ (zj0 (pv 0) cl_Sheet mt_Sheet_add (G_Sheet_add.mono (by decide)) hr b_Sheet_add .nil pass0 (@za0 _ _ _ _ _ (@zb9 _ _ _ _ _ (@za0 _ _ _ _ _ zb1 (@za0 _ _ _ _ _ (pv 4) za3 (by rfl)) (by rfl))) za3 (by rfl))) (by rfl))
  (@za5 _ _ _ _ _ (@zr1 _ _ _ _ _ _ _ _ PassesOwn.never rfl (pi_enumS (K := K) rfl rfl z_enumerate (@za0 _ _ _ _ _ (zc3 (G_expressions_of.mono (by decide)) hr rfl d_expressions_of.m d_expressions_of.fn.kp d_expressions_of.b .nil pass0 (@za0 _ _ _ _ _ (pv 1) za3 (by rfl))) za3 (by rfl)) (pe_meth0 (pv 0) cl_Sheet mt_Sheet_free (G_Sheet_free.mono (by decide)) hr b_Sheet_free .nil pass0)) (zz2 (K := K) (n := 2) rfl rfl (zl9 (ze8 (i := 5) sc_make_statement.nd rfl (Or.inl rfl)) (zl9 (ze8 (i := 6) sc_make_statement.nd rfl (Or.inl rfl)) ya2)))
   (@za9 _ _ _ (@zc7 _ _ _ _ (zc3 (G_make_expression.mono (by decide)) hr rfl d_make_expression.m d_make_expression.fn.kp d_make_expression.b .nil pass0 (@za0 _ _ _ _ _ (pv 0) (@za0 _ _ _ _ _ (pv 4) (@za0 _ _ _ _ _ (pv 6) (@za0 _ _ _ _ _ (pv 5) za3 (by rfl)) (by rfl)) (by rfl)) (by rfl))) (by rfl))) (by intro _; rfl))
  (@za9 _ _ _ (@ps_if _ _ _ _ _ _ _ _ (zb7 (zd7 (K := K) rfl hr.units) (pv 3) zb1 (zc4 _))
   (@za9 _ _ _ ps_never)
   (@za9 _ _ _ (@ps_if _ _ _ _ _ _ _ _ (zb7 (zd7 (K := K) rfl hr.units) (pv 3) zb1 (zc4 _))
   (@za9 _ _ _ ps_never)
   (@za9 _ _ _ (@ps_if _ _ _ _ _ _ _ _ (zb7 (zd7 (K := K) rfl hr.units) (pv 3) zb1 (zc4 _))
   (@za9 _ _ _ (@zc7 _ _ _ _ (zj0 (pv 0) cl_Sheet mt_Sheet_add (G_Sheet_add.mono (by decide)) hr b_Sheet_add .nil pass0 (@za0 _ _ _ _ _ (@zb9 _ _ _ _ _ (@za0 _ _ _ _ _ zb1 (@za0 _ _ _ _ _ (pv 4) (@za0 _ _ _ _ _ (@zb9 _ _ _ _ _ (@za0 _ _ _ _ _ zb1 (@za0 _ _ _ _ _ (pv 2) za3 (by rfl)) (by rfl))) za3 (by rfl)) (by rfl)) (by rfl))) za3 (by rfl))) (by rfl)))
   (@za9 _ _ _ (@ps_if _ _ _ _ _ _ _ _ (zb7 (zd7 (K := K) rfl hr.units) (pv 3) zb1 (zc4 _))
   (@za9 _ _ _ (@zc7 _ _ _ _ (zj0 (pv 0) cl_Sheet mt_Sheet_add (G_Sheet_add.mono (by decide)) hr b_Sheet_add .nil pass0 (@za0 _ _ _ _ _ (@zb9 _ _ _ _ _ (@za0 _ _ _ _ _ zb1 (@za0 _ _ _ _ _ (pv 4) (@za0 _ _ _ _ _ (@zb9 _ _ _ _ _ (@za0 _ _ _ _ _ zb1 (@za0 _ _ _ _ _ (pv 2) za3 (by rfl)) (by rfl))) za3 (by rfl)) (by rfl)) (by rfl))) za3 (by rfl))) (by rfl)))
   (@za9 _ _ _ (@zc7 _ _ _ _ (zc3 (G_make_rest.mono (by decide)) hr rfl d_make_rest.m d_make_rest.fn.kp d_make_rest.b .nil pass0 (@za0 _ _ _ _ _ (pv 0) (@za0 _ _ _ _ _ (pv 1) za3 (by rfl)) (by rfl))) (by rfl)))))))))))))))), ?_⟩
 exact s_fn0 (n := 7) rfl ((zc9 (zf0 fun ρ => (zh5 (de_op dr_ix (za6 (i := 1)) za7) zb5))
  (zc9 (zf0 fun ρ => (zh5 (de_op dr_ix (za6 (i := 1)) za7) zb5))
  (zc9 (zf4 (zi1 (c := "Sheet") (za4 fun ρ => (za2 (i := 0))) (zd8 fun ρ => (za1 (ze1 (za1 zb2 (za1 (za2 (i := 4)) zb0))) zb0))))
  (zc9 (zf4 (zi1 (c := "Sheet") (za4 fun ρ => (za2 (i := 0))) (zd8 fun ρ => (za1 (ze1 (za1 zb2 (za1 (za2 (i := 4)) zb0))) zb0))))
  (zc9 (zw0 (sip_enumS (zd8 fun ρ => (za1 (zf9 (za1 (za2 (i := 1)) zb0)) zb0)) (zi1 (c := "Sheet") (za4 fun ρ => (za2 (i := 0))) (zd8 fun ρ => zb0))) (fun ρ => (ye1 (n := 2) (zl7 zb5 (zl7 zb5 zz4))))
   (zf4 (zk9 (zd8 fun ρ => (za1 (za2 (i := 0)) (za1 (za2 (i := 4)) (za1 (za2 (i := 6)) (za1 (za2 (i := 5)) zb0))))))))
  (ss_if (zh1 fun ρ => (zc2 db_eq (za6 (i := 3)) (DE.dk zb2)))
   (zf0 fun ρ => ds_never)
   (ss_if (zh1 fun ρ => (zc2 db_eq (za6 (i := 3)) (DE.dk zb2)))
   (zf0 fun ρ => ds_never)
   (ss_if (zh1 fun ρ => (zc2 db_eq (za6 (i := 3)) (DE.dk zb2)))
   (zf4 (zi1 (c := "Sheet") (za4 fun ρ => (za2 (i := 0))) (zd8 fun ρ => (za1 (ze1 (za1 zb2 (za1 (za2 (i := 4)) (za1 (ze1 (za1 zb2 (za1 (za2 (i := 2)) zb0))) zb0)))) zb0))))
   (ss_if (zh1 fun ρ => (zc2 db_eq (za6 (i := 3)) (DE.dk zb2)))
   (zf4 (zi1 (c := "Sheet") (za4 fun ρ => (za2 (i := 0))) (zd8 fun ρ => (za1 (ze1 (za1 zb2 (za1 (za2 (i := 4)) (za1 (ze1 (za1 zb2 (za1 (za2 (i := 2)) zb0))) zb0)))) zb0))))
   (zf4 (zk9 (zd8 fun ρ => (za1 (za2 (i := 0)) (za1 (za2 (i := 1)) zb0))))))))))))))) h
end
theorem sc_make_body : FnScope ["sheet", "body", "loop", "statement"] ["sheet", "body", "loop"] (zb3 zl3) := ⟨rfl, rfl, rfl, by decide +kernel, rfl, by decide +kernel, by decide +kernel⟩
section
variable {P : Program} {w : World} {K : PySem.W.Frag} {mg : Str → Option Value} {base : Heap} {cl : Str → Addr}
set_option maxHeartbeats 4000000 in
theorem ok_make_body {f : Addr} {fd : FuncData} (F : Fun K "make_body" "make_body" zl3 f fd) {f_make_statement : Addr} {fd_make_statement : FuncData} (d_make_statement : Df K mg "make_statement" zf7 ["sheet", "statement", "loop"] f_make_statement fd_make_statement) (G_make_statement : FnOk P w K mg base CX0 11 f_make_statement fd_make_statement ["sheet", "statement", "loop"] (sp0 K cl zn0)) : FnOk P w K mg base CX0 12 f fd ["sheet", "body", "loop"] (sp0 K cl zs0) := by
 refine F.ok sc_make_body (fun vs H Q E h => zm5 (fun ds S r e => zg5 e) h) (fun cdv A outer s H vs Q E hr h => ?_)
 refine ⟨_, (@za9 _ _ _ (@zr1 _ _ _ _ _ _ _ _ PassesOwn.never rfl (zj3 (K := K) rfl (pv 1)) (ze8 (i := 3) sc_make_body.nd rfl (Or.inl rfl))
  (@za9 _ _ _ (@zc7 _ _ _ _ (zc3 (G_make_statement.mono (by decide)) hr rfl d_make_statement.m d_make_statement.fn.kp d_make_statement.b .nil pass0 (@za0 _ _ _ _ _ (pv 0) (@za0 _ _ _ _ _ (pv 3) (@za0 _ _ _ _ _ (pv 2) za3 (by rfl)) (by rfl)) (by rfl))) (by rfl))) (by intro _; rfl))), ?_⟩
 exact s_fn0 (n := 4) rfl ((zw0 (zr0 fun ρ => (zs6 (za2 (i := 1)))) (fun ρ => zb5)
  (zf4 (zk9 (zd8 fun ρ => (za1 (za2 (i := 0)) (za1 (za2 (i := 3)) (za1 (za2 (i := 2)) zb0)))))))) h
end
theorem sc_made : FnScope ["program", "sheet", "ordered", "name", "params", "body", "line", "last"] ["program"] (zb3 zx4) := ⟨rfl, rfl, rfl, by decide +kernel, rfl, by decide +kernel, by decide +kernel⟩
section
variable {P : Program} {w : World} {K : PySem.W.Frag} {mg : Str → Option Value} {base : Heap} {cl : Str → Addr}
set_option maxHeartbeats 4000000 in
theorem ok_made {f : Addr} {fd : FuncData} (F : Fun K "made" "made" zx4 f fd) {f_Sheet___init__ : Addr} {fd_Sheet___init__ : FuncData} (b_Sheet___init__ : Binds K fd_Sheet___init__ ["self"] []) (M_Sheet : Mk K (cl "Sheet") f_Sheet___init__) (G_Sheet___init__ : FnOk P w K mg base CX0 1 f_Sheet___init__ fd_Sheet___init__ ["self"] (sp0 K cl zn3)) {f_Sheet_begin : Addr} {fd_Sheet_begin : FuncData} (b_Sheet_begin : Binds K fd_Sheet_begin ["self", "name", "slots"] []) (mt_Sheet_begin : Meth K (cl "Sheet") "begin" f_Sheet_begin) (G_Sheet_begin : FnOk P w K mg base CX0 2 f_Sheet_begin fd_Sheet_begin ["self", "name", "slots"] (sp0 K cl zp3)) {f_slots_of : Addr} {fd_slots_of : FuncData} (d_slots_of : Df K mg "slots_of" zn6 ["params", "body"] f_slots_of fd_slots_of) (G_slots_of : FnOk P w K mg base CX0 11 f_slots_of fd_slots_of ["params", "body"] (sp0 K cl zt6)) {f_make_body : Addr} {fd_make_body : FuncData} (d_make_body : Df K mg "make_body" zl3 ["sheet", "body", "loop"] f_make_body fd_make_body) (G_make_body : FnOk P w K mg base CX0 12 f_make_body fd_make_body ["sheet", "body", "loop"] (sp0 K cl zs0)) {f_Sheet_lay : Addr} {fd_Sheet_lay : FuncData} (b_Sheet_lay : Binds K fd_Sheet_lay ["self", "key"] []) (mt_Sheet_lay : Meth K (cl "Sheet") "lay" f_Sheet_lay) (G_Sheet_lay : FnOk P w K mg base CX0 1 f_Sheet_lay fd_Sheet_lay ["self", "key"] (sp0 K cl zj1)) {f_Sheet_add : Addr} {fd_Sheet_add : FuncData} (b_Sheet_add : Binds K fd_Sheet_add ["self", "row"] []) (mt_Sheet_add : Meth K (cl "Sheet") "add" f_Sheet_add) (G_Sheet_add : FnOk P w K mg base CX0 1 f_Sheet_add fd_Sheet_add ["self", "row"] (sp0 K cl zc0)) {f_settled : Addr} {fd_settled : FuncData} (d_settled : Df K mg "settled" zo9 ["row", "spots"] f_settled fd_settled) (G_settled : FnOk P w K mg base CX0 1 f_settled fd_settled ["row", "spots"] (sp0 K cl zq6)) (m_Sheet : mg "Sheet" = some (.ref (cl "Sheet"))) (cl_Sheet : Cls K (cl "Sheet")) (n_Sheet_rows : NoAttr K (cl "Sheet") "rows") (n_Sheet_spots : NoAttr K (cl "Sheet") "spots") (n_Sheet_name : NoAttr K (cl "Sheet") "name") (n_Sheet_slots : NoAttr K (cl "Sheet") "slots") : FnOk P w K mg base CX0 13 f fd ["program"] (sp0 K cl yh8) := by
 refine F.ok sc_made (fun vs H Q E h => zm5 (fun ds S r e => zg5 e) h) (fun cdv A outer s H vs Q E hr h => ?_)
 refine ⟨_, (@za5 _ _ _ _ _ (@zf2 _ _ 1 _ _ _ _ sc_made.nd rfl (Or.inr rfl) (pe_make0 M_Sheet (G_Sheet___init__.mono (by decide)) hr rfl m_Sheet b_Sheet___init__ .nil pass0) (by rfl) (by first | exact .inl rfl | exact .inr rfl))
  (@za5 _ _ _ _ _ (@zf2 _ _ 2 _ _ _ _ sc_made.nd rfl (Or.inl rfl) (@pe_op _ _ _ _ _ _ _ _ (ze3 (K := K) rfl) (zs5 (N := ["each"]) (ix := [none]) (zj2 rfl (by decide +kernel) (by decide +kernel) (by rfl) rfl (by decide +kernel) (by rfl)) rfl (zj3 (K := K) rfl (pv 0)) (zk8 rfl) fun _ _ _ _ => ⟨(ze8 (i := 0) (show List.Nodup [Str.ofString "each"] by decide +kernel) rfl (Or.inl rfl) (.inr rfl)), (zu6 (zb7 (zd7 (K := K) rfl hr.units) (pe_ix (zb4 (K := K) rfl) (pv 0) za8 (fun _ _ => rfl)) zb1 (zc4 _))), (pv 0)⟩) (zs5 (N := ["each"]) (ix := [none]) (zj2 rfl (by decide +kernel) (by decide +kernel) (by rfl) rfl (by decide +kernel) (by rfl)) rfl (zj3 (K := K) rfl (pv 0)) (zk8 rfl) fun _ _ _ _ => ⟨(ze8 (i := 0) (show List.Nodup [Str.ofString "each"] by decide +kernel) rfl (Or.inl rfl) (.inr rfl)), (zu6 (zb7 (ya3 (K := K) rfl hr.units) (pe_ix (zb4 (K := K) rfl) (pv 0) za8 (fun _ _ => rfl)) zb1 (zc4 _))), (pv 0)⟩)) (by rfl) (by first | exact .inl rfl | exact .inr rfl))
  (@za5 _ _ _ _ _ (@zr1 _ _ _ _ _ _ _ _ PassesOwn.never rfl (zj3 (K := K) rfl (pv 2)) (zz2 (K := K) (n := 5) rfl rfl (zl9 (ze8 (i := 3) sc_made.nd rfl (Or.inl rfl)) (zl9 (ze8 (i := 4) sc_made.nd rfl (Or.inl rfl)) (zl9 (ze8 (i := 5) sc_made.nd rfl (Or.inl rfl)) (zl9 (ze8 (i := 6) sc_made.nd rfl (Or.inl rfl)) (zl9 (ze8 (i := 7) sc_made.nd rfl (Or.inl rfl)) ya2))))))
   (@za5 _ _ _ _ _ (@zc7 _ _ _ _ (zj0 (pv 1) cl_Sheet mt_Sheet_begin (G_Sheet_begin.mono (by decide)) hr b_Sheet_begin .nil pass0 (@za0 _ _ _ _ _ (pv 3) (@za0 _ _ _ _ _ (zc3 (G_slots_of.mono (by decide)) hr rfl d_slots_of.m d_slots_of.fn.kp d_slots_of.b .nil pass0 (@za0 _ _ _ _ _ (pv 4) (@za0 _ _ _ _ _ (pv 5) za3 (by rfl)) (by rfl))) za3 (by rfl)) (by rfl))) (by rfl))
  (@za5 _ _ _ _ _ (@zc7 _ _ _ _ (zc3 (G_make_body.mono (by decide)) hr rfl d_make_body.m d_make_body.fn.kp d_make_body.b .nil pass0 (@za0 _ _ _ _ _ (pv 1) (@za0 _ _ _ _ _ (pv 5) (@za0 _ _ _ _ _ yb1 za3 (by rfl)) (by rfl)) (by rfl))) (by rfl))
  (@za5 _ _ _ _ _ (@zc7 _ _ _ _ (zj0 (pv 1) cl_Sheet mt_Sheet_lay (G_Sheet_lay.mono (by decide)) hr b_Sheet_lay .nil pass0 (@za0 _ _ _ _ _ (@zb9 _ _ _ _ _ (@za0 _ _ _ _ _ zb1 (@za0 _ _ _ _ _ (pv 3) za3 (by rfl)) (by rfl))) za3 (by rfl))) (by rfl))
  (@za9 _ _ _ (@zc7 _ _ _ _ (zj0 (pv 1) cl_Sheet mt_Sheet_add (G_Sheet_add.mono (by decide)) hr b_Sheet_add .nil pass0 (@za0 _ _ _ _ _ (@zb9 _ _ _ _ _ (@za0 _ _ _ _ _ zb1 (@za0 _ _ _ _ _ (pv 7) za3 (by rfl)) (by rfl))) za3 (by rfl))) (by rfl)))))) (by intro _; rfl))
  (@za9 _ _ _ (@zc8 _ _ _ _ (zs5 (N := ["sheet", "row"]) (ix := [some 1, none]) (zj2 rfl (by decide +kernel) (by decide +kernel) (by rfl) rfl (by decide +kernel) (by rfl)) rfl (zj3 (K := K) rfl (zq0 (K := K) rfl (pv 1) rfl)) (zk8 rfl) fun _ _ _ _ => ⟨(ze8 (i := 1) (show List.Nodup [Str.ofString "sheet", Str.ofString "row"] by decide +kernel) rfl (Or.inl rfl) (.inr rfl)), zw5, (zc3 (G_settled.mono (by decide)) hr rfl d_settled.m d_settled.fn.kp d_settled.b .nil pass0 (@za0 _ _ _ _ _ (pv 1) (@za0 _ _ _ _ _ (zq0 (K := K) rfl (pv 0) rfl) za3 (by rfl)) (by rfl)))⟩)))))), ?_⟩
 exact s_fn0 (n := 8) rfl ((zc9 (zw7 (se_make (c := "Sheet") (zd8 fun ρ => zb0)) (fun ρ => zb5))
  (zc9 (zf0 fun ρ => (zh5 (de_op zg9 (DE.dk (DO.de (zs1 (ix := [none]) (by decide) (zv5 (za6 (i := 0))) zb5 (zc2 db_eq (DE.dk (de_op dr_ix (za6 (i := 0)) za7)) (DE.dk zb2)) (za2 (i := 0))))) (DO.de (zs1 (ix := [none]) (by decide) (zv5 (za6 (i := 0))) zb5 (zc2 db_ne (DE.dk (de_op dr_ix (za6 (i := 0)) za7)) (DE.dk zb2)) (za2 (i := 0))))) zb5))
  (zc9 (zw0 (zr0 fun ρ => (zs6 (za2 (i := 2)))) (fun ρ => (ye1 (n := 5) (zl7 zb5 (zl7 zb5 (zl7 zb5 (zl7 zb5 (zl7 zb5 zz4)))))))
   (zc9 (zf4 (zi1 (c := "Sheet") (za4 fun ρ => (za2 (i := 1))) (zb8 (za4 fun ρ => (za2 (i := 3))) (zb8 (zk9 (zd8 fun ρ => (za1 (za2 (i := 4)) (za1 (za2 (i := 5)) zb0)))) zm1))))
  (zc9 (zf4 (zk9 (zd8 fun ρ => (za1 (za2 (i := 1)) (za1 (za2 (i := 5)) (za1 yb7 zb0))))))
  (zc9 (zf4 (zi1 (c := "Sheet") (za4 fun ρ => (za2 (i := 1))) (zd8 fun ρ => (za1 (ze1 (za1 zb2 (za1 (za2 (i := 3)) zb0))) zb0))))
  (zf4 (zi1 (c := "Sheet") (za4 fun ρ => (za2 (i := 1))) (zd8 fun ρ => (za1 (ze1 (za1 zb2 (za1 (za2 (i := 7)) zb0))) zb0))))))))
  (zw6 (se_compL (m := 9000) (ix := [some 1, none]) (by decide) (si_live (zt3 (c := "Sheet") cl_Sheet n_Sheet_rows (za4 fun ρ => (za2 (i := 1))))) (fun ρ => zb5) (zh1 fun ρ => ye4) (zk9 (zb8 (za4 fun ρ => (za2 (i := 1))) (zb8 (zt3 (c := "Sheet") cl_Sheet n_Sheet_spots (za4 fun ρ => (za2 (i := 0)))) zm1))))))))) h
end
theorem sc__law_whole : FnScope ["_law_found"] ["_law_found"] (zb3 zj4) := ⟨rfl, rfl, rfl, by decide +kernel, rfl, by decide +kernel, by decide +kernel⟩
section
variable {P : Program} {w : World} {K : PySem.W.Frag} {mg : Str → Option Value} {base : Heap} {cl : Str → Addr}
set_option maxHeartbeats 4000000 in
theorem ok__law_whole {f : Addr} {fd : FuncData} (F : Fun K "_law_whole" "_law_whole" zj4 f fd) (z_isinstance : mg "isinstance" = none) (z_bool : mg "bool" = none) (z_int : mg "int" = none) : FnOk P w K mg base CX0 1 f fd ["_law_found"] (spD K zj8) := by
 refine F.ok sc__law_whole (fun vs H Q E h => zn5 (fun ds d e => zh0 e) h) (fun cdv A outer s H vs Q E hr h => ?_)
 refine ⟨_, (@za9 _ _ _ (@zc8 _ _ _ _ (pe_and (zg3 call_isiK rfl z_isinstance boot_isinstance (@za0 _ _ _ _ _ (pv 0) (@za0 _ _ _ _ _ (ya0 (v := .ty "int") rfl z_int boot_int rfl) za3 (by rfl)) (by rfl))) (yj7 (pe_not (zg3 call_isiK rfl z_isinstance boot_isinstance (@za0 _ _ _ _ _ (pv 0) (@za0 _ _ _ _ _ (ya0 (v := .ty "bool") rfl z_bool boot_bool rfl) za3 (by rfl)) (by rfl)))))))), ?_⟩
 exact d_fn (n := 1) rfl (fun ρ => (ze2 (de_and (yj6 (za2 (i := 0))) (de_not (yj6 (za2 (i := 0))))))) h
end
theorem sc__law_mixed : FnScope ["_law_cell", "_law_k", "_law_number"] ["_law_cell", "_law_k"] (zb3 zj7) := ⟨rfl, rfl, rfl, by decide +kernel, rfl, by decide +kernel, by decide +kernel⟩
section
variable {P : Program} {w : World} {K : PySem.W.Frag} {mg : Str → Option Value} {base : Heap} {cl : Str → Addr}
set_option maxHeartbeats 4000000 in
theorem ok__law_mixed {f : Addr} {fd : FuncData} (F : Fun K "_law_mixed" "_law_mixed" zj7 f fd) : FnOk P w K mg base CX0 1 f fd ["_law_cell", "_law_k"] (spD K zl4) := by
 refine F.ok sc__law_mixed (fun vs H Q E h => zn5 (fun ds d e => zh0 e) h) (fun cdv A outer s H vs Q E hr h => ?_)
 refine ⟨_, (@za5 _ _ _ _ _ (@zf2 _ _ 2 _ _ _ _ sc__law_mixed.nd rfl (Or.inl rfl) (@pe_op _ _ _ _ _ _ _ _ zi9 (@pe_op _ _ _ _ _ _ _ _ (ze3 (K := K) rfl) (@pe_op _ _ _ _ _ _ _ _ (ze3 (K := K) rfl) (@pe_op _ _ _ _ _ _ _ _ zr4 (pv 0) za8) (@pe_op _ _ _ _ _ _ _ _ zr4 (@pe_op _ _ _ _ _ _ _ _ zr4 (pv 1) (pv 1)) za8)) za8) za8) (by rfl) (by first | exact .inl rfl | exact .inr rfl))
  (@za9 _ _ _ (@zc8 _ _ _ _ (@pe_op _ _ _ _ _ _ _ _ zi9 (@pe_op _ _ _ _ _ _ _ _ zr4 (pv 2) (pv 2)) za8)))), ?_⟩
 exact d_fn (n := 3) rfl (fun ρ => (zd5 (zh5 (de_op zm9 (DE.dk (de_op zg9 (DE.dk (de_op zg9 (DE.dk (de_op zu7 (za6 (i := 0)) za7)) (de_op zu7 (DE.dk (de_op zu7 (za6 (i := 1)) (za2 (i := 1)))) za7))) za7)) za7) zb5)
  (ze2 (de_op zm9 (DE.dk (de_op zu7 (za6 (i := 2)) (za2 (i := 2)))) za7)))) h
end
theorem sc__law_name_by : FnScope ["_law_cell", "_law_some"] ["_law_cell"] (zb3 zg2) := ⟨rfl, rfl, rfl, by decide +kernel, rfl, by decide +kernel, by decide +kernel⟩
section
variable {P : Program} {w : World} {K : PySem.W.Frag} {mg : Str → Option Value} {base : Heap} {cl : Str → Addr}
set_option maxHeartbeats 4000000 in
theorem ok__law_name_by {f : Addr} {fd : FuncData} (F : Fun K "_law_name_by" "_law_name_by" zg2 f fd) : FnOk P w K mg base CX0 1 f fd ["_law_cell"] (spD K zf5) := by
 refine F.ok sc__law_name_by (fun vs H Q E h => zn5 (fun ds d e => zh0 e) h) (fun cdv A outer s H vs Q E hr h => ?_)
 refine ⟨_, (@za5 _ _ _ _ _ (@zf2 _ _ 1 _ _ _ _ sc__law_name_by.nd rfl (Or.inl rfl) zb1 (by rfl) (by first | exact .inl rfl | exact .inr rfl))
  (@za5 _ _ _ _ _ (@ps_if _ _ _ _ _ _ _ _ (zb7 (zd7 (K := K) rfl hr.units) (@pe_op _ _ _ _ _ _ _ _ zi9 (@pe_op _ _ _ _ _ _ _ _ zo3 (pv 0) za8) za8) za8 (zc4 _))
   (@za9 _ _ _ (@zc8 _ _ _ _ (pe_ix (zb4 (K := K) rfl) (pv 1) (@pe_op _ _ _ _ _ _ _ _ zi9 (pv 0) za8) (fun _ _ => rfl))))
   zd4)
  (@za9 _ _ _ (@zc8 _ _ _ _ (@pe_op _ _ _ _ _ _ _ _ (ze3 (K := K) rfl) (pe_ix (zb4 (K := K) rfl) (pv 1) (@pe_op _ _ _ _ _ _ _ _ zi9 (@pe_op _ _ _ _ _ _ _ _ zo3 (pv 0) za8) za8) (fun _ _ => rfl)) (pe_ix (zb4 (K := K) rfl) (pv 1) (@pe_op _ _ _ _ _ _ _ _ zi9 (pv 0) za8) (fun _ _ => rfl))))))), ?_⟩
 exact d_fn (n := 2) rfl (fun ρ => (zd5 (zh5 zb2 zb5)
  (zd5 (ds_if (zc2 db_eq (DE.dk (de_op zm9 (DE.dk (de_op zt1 (za6 (i := 0)) za7)) za7)) (DE.dk za7))
   (ze2 (de_op dr_ix (za6 (i := 1)) (de_op zm9 (za6 (i := 0)) za7)))
   zd3)
  (ze2 (de_op zg9 (DE.dk (de_op dr_ix (za6 (i := 1)) (de_op zm9 (DE.dk (de_op zt1 (za6 (i := 0)) za7)) za7))) (de_op dr_ix (za6 (i := 1)) (de_op zm9 (za6 (i := 0)) za7))))))) h
end
theorem sc__law_leaf_by : FnScope ["_law_cell"] ["_law_cell"] (zb3 zg4) := ⟨rfl, rfl, rfl, by decide +kernel, rfl, by decide +kernel, by decide +kernel⟩
section
variable {P : Program} {w : World} {K : PySem.W.Frag} {mg : Str → Option Value} {base : Heap} {cl : Str → Addr}
set_option maxHeartbeats 4000000 in
theorem ok__law_leaf_by {f : Addr} {fd : FuncData} (F : Fun K "_law_leaf_by" "_law_leaf_by" zg4 f fd) {f__law_name_by : Addr} {fd__law_name_by : FuncData} (d__law_name_by : Df K mg "_law_name_by" zg2 ["_law_cell"] f__law_name_by fd__law_name_by) (G__law_name_by : FnOk P w K mg base CX0 1 f__law_name_by fd__law_name_by ["_law_cell"] (spD K zf5)) : FnOk P w K mg base CX0 2 f fd ["_law_cell"] (spD K zh8) := by
 refine F.ok sc__law_leaf_by (fun vs H Q E h => zn5 (fun ds d e => zh0 e) h) (fun cdv A outer s H vs Q E hr h => ?_)
 refine ⟨_, (@za5 _ _ _ _ _ (@ps_if _ _ _ _ _ _ _ _ (zb7 (zd7 (K := K) rfl hr.units) (@pe_op _ _ _ _ _ _ _ _ zi9 (pv 0) za8) za8 (zc4 _))
  (@za9 _ _ _ (@zc8 _ _ _ _ (@zb9 _ _ _ _ _ (@za0 _ _ _ _ _ zb1 (@za0 _ _ _ _ _ (@pe_op _ _ _ _ _ _ _ _ yi3 (@pe_op _ _ _ _ _ _ _ _ zi9 (@pe_op _ _ _ _ _ _ _ _ zr4 (@pe_op _ _ _ _ _ _ _ _ zo3 (pv 0) za8) za8) za8) za8) za3 (by rfl)) (by rfl)))))
  zd4)
  (@za5 _ _ _ _ _ (@ps_if _ _ _ _ _ _ _ _ (zb7 (zd7 (K := K) rfl hr.units) (@pe_op _ _ _ _ _ _ _ _ zi9 (pv 0) za8) za8 (zc4 _))
   (@za9 _ _ _ (@zc8 _ _ _ _ (@zb9 _ _ _ _ _ (@za0 _ _ _ _ _ (pe_ix (zb4 (K := K) rfl) (@ze7 _ _ _ _ (@za0 _ _ _ _ _ zb1 (@za0 _ _ _ _ _ zb1 (@za0 _ _ _ _ _ zb1 za3 (by rfl)) (by rfl)) (by rfl))) (@pe_op _ _ _ _ _ _ _ _ zi9 (@pe_op _ _ _ _ _ _ _ _ zo3 (pv 0) za8) za8) (fun _ _ => rfl)) za3 (by rfl)))))
   zd4)
  (@za9 _ _ _ (@zc8 _ _ _ _ (@zb9 _ _ _ _ _ (@za0 _ _ _ _ _ zb1 (@za0 _ _ _ _ _ (zc3 (G__law_name_by.mono (by decide)) hr rfl d__law_name_by.m d__law_name_by.fn.kp d__law_name_by.b .nil pass0 (@za0 _ _ _ _ _ (@pe_op _ _ _ _ _ _ _ _ zo3 (pv 0) za8) za3 (by rfl))) za3 (by rfl)) (by rfl))))))), ?_⟩
 exact d_fn (n := 1) rfl (fun ρ => (zd5 (ds_if (zc2 db_eq (DE.dk (de_op zm9 (za6 (i := 0)) za7)) (DE.dk za7))
  (ze2 (ze1 (za1 zb2 (za1 (de_op yh6 (DE.dk (de_op zm9 (DE.dk (de_op zu7 (DE.dk (de_op zt1 (za6 (i := 0)) za7)) za7)) za7)) za7) zb0))))
  zd3)
  (zd5 (ds_if (zc2 db_eq (DE.dk (de_op zm9 (za6 (i := 0)) za7)) (DE.dk za7))
   (ze2 (ze1 (za1 (de_op dr_ix (DE.dk (DO.de (zi7 (za1 zb2 (za1 zb2 (za1 zb2 zb0)))))) (de_op zm9 (DE.dk (de_op zt1 (za6 (i := 0)) za7)) za7)) zb0)))
   zd3)
  (ze2 (ze1 (za1 zb2 (za1 (zf9 (za1 (de_op zt1 (za6 (i := 0)) za7) zb0)) zb0))))))) h
end
theorem sc__law_told_by : FnScope ["_law_cell", "_law_room", "_law_rest", "_law_first", "_law_word"] ["_law_cell", "_law_room"] (zb3 zg1) := ⟨rfl, rfl, rfl, by decide +kernel, rfl, by decide +kernel, by decide +kernel⟩
section
variable {P : Program} {w : World} {K : PySem.W.Frag} {mg : Str → Option Value} {base : Heap} {cl : Str → Addr}
set_option maxHeartbeats 4000000 in
theorem okS__law_told_by {n : Nat} {f__law_told_by : Addr} {fd__law_told_by : FuncData} (d__law_told_by : Df K mg "_law_told_by" zg1 ["_law_cell", "_law_room"] f__law_told_by fd__law_told_by) {f__law_leaf_by : Addr} {fd__law_leaf_by : FuncData} (d__law_leaf_by : Df K mg "_law_leaf_by" zg4 ["_law_cell"] f__law_leaf_by fd__law_leaf_by) (G__law_leaf_by : FnOk P w K mg base CX0 2 f__law_leaf_by fd__law_leaf_by ["_law_cell"] (spD K zh8)) (G__law_told_by : FnOk P w K mg base CX0 (2 + n) f__law_told_by fd__law_told_by ["_law_cell", "_law_room"] (spD K (zc1 n))) : FnOk P w K mg base CX0 (2 + n + 1) f__law_told_by fd__law_told_by ["_law_cell", "_law_room"] (spD K (zc1 (n + 1))) := by
 have F := d__law_told_by.fn
 refine F.ok sc__law_told_by (fun vs H Q E h => zn5 (fun ds d e => zh0 e) h) (fun cdv A outer s H vs Q E hr h => ?_)
 refine ⟨_, (@za5 _ _ _ _ _ (@zf2 _ _ 2 _ _ _ _ sc__law_told_by.nd rfl (Or.inl rfl) (@pe_op _ _ _ _ _ _ _ _ zo3 (pv 0) za8) (by rfl) (by first | exact .inl rfl | exact .inr rfl))
  (@za5 _ _ _ _ _ (@ps_if _ _ _ _ _ _ _ _ (PW.pt (pw_or (zb7 (zd7 (K := K) rfl hr.units) (@pe_op _ _ _ _ _ _ _ _ zi9 (pv 0) za8) za8 (zc4 _)) (yi5 (zb7 (zd7 (K := K) rfl hr.units) (pv 1) za8 (zc4 _)))))
   (@za9 _ _ _ (@zc8 _ _ _ _ (zc3 (G__law_leaf_by.mono (by omega)) hr rfl d__law_leaf_by.m d__law_leaf_by.fn.kp d__law_leaf_by.b .nil pass0 (@za0 _ _ _ _ _ (pv 2) za3 (by rfl)))))
   zd4)
  (@za5 _ _ _ _ _ (@zf2 _ _ 3 _ _ _ _ sc__law_told_by.nd rfl (Or.inl rfl) (zc3 (G__law_told_by.mono (by omega)) hr rfl d__law_told_by.m d__law_told_by.fn.kp d__law_told_by.b .nil pass0 (@za0 _ _ _ _ _ (@pe_op _ _ _ _ _ _ _ _ zi9 (@pe_op _ _ _ _ _ _ _ _ (ze3 (K := K) rfl) (@pe_op _ _ _ _ _ _ _ _ zr4 (pv 2) za8) za8) za8) (@za0 _ _ _ _ _ (@pe_op _ _ _ _ _ _ _ _ yi3 (pv 1) za8) za3 (by rfl)) (by rfl))) (by rfl) (by first | exact .inl rfl | exact .inr rfl))
  (@za5 _ _ _ _ _ (@ps_if _ _ _ _ _ _ _ _ (zb7 (zd7 (K := K) rfl hr.units) (@pe_op _ _ _ _ _ _ _ _ zi9 (pv 0) za8) za8 (zc4 _))
   (@za9 _ _ _ (@zc8 _ _ _ _ (@zb9 _ _ _ _ _ (@za0 _ _ _ _ _ zb1 (@za0 _ _ _ _ _ (pv 3) za3 (by rfl)) (by rfl)))))
   zd4)
  (@za5 _ _ _ _ _ (@zf2 _ _ 4 _ _ _ _ sc__law_told_by.nd rfl (Or.inl rfl) (pe_ix (zb4 (K := K) rfl) (@ze7 _ _ _ _ (@za0 _ _ _ _ _ zb1 (@za0 _ _ _ _ _ zb1 (@za0 _ _ _ _ _ zb1 (@za0 _ _ _ _ _ zb1 (@za0 _ _ _ _ _ zb1 (@za0 _ _ _ _ _ zb1 (@za0 _ _ _ _ _ zb1 za3 (by rfl)) (by rfl)) (by rfl)) (by rfl)) (by rfl)) (by rfl)) (by rfl))) (@pe_op _ _ _ _ _ _ _ _ zi9 (pv 2) za8) (fun _ _ => rfl)) (by rfl) (by first | exact .inl rfl | exact .inr rfl))
  (@za9 _ _ _ (@zc8 _ _ _ _ (@zb9 _ _ _ _ _ (@za0 _ _ _ _ _ (pv 4) (@za0 _ _ _ _ _ (pv 3) (@za0 _ _ _ _ _ (zc3 (G__law_told_by.mono (by omega)) hr rfl d__law_told_by.m d__law_told_by.fn.kp d__law_told_by.b .nil pass0 (@za0 _ _ _ _ _ (@pe_op _ _ _ _ _ _ _ _ zi9 (@pe_op _ _ _ _ _ _ _ _ (ze3 (K := K) rfl) (@pe_op _ _ _ _ _ _ _ _ zr4 (pv 2) za8) za8) za8) (@za0 _ _ _ _ _ (@pe_op _ _ _ _ _ _ _ _ yi3 (pv 1) za8) za3 (by rfl)) (by rfl))) za3 (by rfl)) (by rfl)) (by rfl)))))))))), ?_⟩
 exact d_fn (n := 5) rfl (fun ρ => (zd5 (zh5 (de_op zt1 (za6 (i := 0)) za7) zb5)
  (zd5 (ds_if (dt_or (zc2 db_eq (DE.dk (de_op zm9 (za6 (i := 0)) za7)) (DE.dk za7)) (zc2 db_eq (za6 (i := 1)) (DE.dk za7)))
   (ze2 (zf9 (za1 (za2 (i := 2)) zb0)))
   zd3)
  (zd5 (zh5 (zf9 (za1 (de_op zm9 (DE.dk (de_op zg9 (DE.dk (de_op zu7 (za6 (i := 2)) za7)) za7)) za7) (za1 (de_op yh6 (za6 (i := 1)) za7) zb0))) zb5)
  (zd5 (ds_if (zc2 db_eq (DE.dk (de_op zm9 (za6 (i := 0)) za7)) (DE.dk za7))
   (ze2 (ze1 (za1 zb2 (za1 (za2 (i := 3)) zb0))))
   zd3)
  (zd5 (zh5 (de_op dr_ix (DE.dk (DO.de (zi7 (za1 zb2 (za1 zb2 (za1 zb2 (za1 zb2 (za1 zb2 (za1 zb2 (za1 zb2 zb0)))))))))) (de_op zm9 (za6 (i := 2)) za7)) zb5)
  (ze2 (ze1 (za1 (za2 (i := 4)) (za1 (za2 (i := 3)) (za1 (zf9 (za1 (de_op zm9 (DE.dk (de_op zg9 (DE.dk (de_op zu7 (za6 (i := 2)) za7)) za7)) za7) (za1 (de_op yh6 (za6 (i := 1)) za7) zb0))) zb0))))))))))) h
theorem ok__law_told_by {f__law_told_by : Addr} {fd__law_told_by : FuncData} (d__law_told_by : Df K mg "_law_told_by" zg1 ["_law_cell", "_law_room"] f__law_told_by fd__law_told_by) {f__law_leaf_by : Addr} {fd__law_leaf_by : FuncData} (d__law_leaf_by : Df K mg "_law_leaf_by" zg4 ["_law_cell"] f__law_leaf_by fd__law_leaf_by) (G__law_leaf_by : FnOk P w K mg base CX0 2 f__law_leaf_by fd__law_leaf_by ["_law_cell"] (spD K zh8)) : ∀ n, FnOk P w K mg base CX0 (2 + n) f__law_told_by fd__law_told_by ["_law_cell", "_law_room"] (spD K (zc1 n))
 | 0 => FnOk.no fun _ => rfl
 | n + 1 => okS__law_told_by d__law_told_by d__law_leaf_by G__law_leaf_by (ok__law_told_by d__law_told_by d__law_leaf_by G__law_leaf_by n)
end
theorem sc__law_deed_by : FnScope ["_law_cell", "_law_line", "_law_many", "_law_rest", "_law_word", "_law_joint", "_law_handed"] ["_law_cell", "_law_line", "_law_many"] (zb3 zh2) := ⟨rfl, rfl, rfl, by decide +kernel, rfl, by decide +kernel, by decide +kernel⟩
section
variable {P : Program} {w : World} {K : PySem.W.Frag} {mg : Str → Option Value} {base : Heap} {cl : Str → Addr}
set_option maxHeartbeats 4000000 in
theorem ok__law_deed_by {f : Addr} {fd : FuncData} (F : Fun K "_law_deed_by" "_law_deed_by" zh2 f fd) {f__law_told_by : Addr} {fd__law_told_by : FuncData} (d__law_told_by : Df K mg "_law_told_by" zg1 ["_law_cell", "_law_room"] f__law_told_by fd__law_told_by) (G__law_told_by : FnOk P w K mg base CX0 7 f__law_told_by fd__law_told_by ["_law_cell", "_law_room"] (spD K (zc1 5))) {f__law_name_by : Addr} {fd__law_name_by : FuncData} (d__law_name_by : Df K mg "_law_name_by" zg2 ["_law_cell"] f__law_name_by fd__law_name_by) (G__law_name_by : FnOk P w K mg base CX0 1 f__law_name_by fd__law_name_by ["_law_cell"] (spD K zf5)) (z_range : mg "range" = none) : FnOk P w K mg base CX0 8 f fd ["_law_cell", "_law_line", "_law_many"] (spD K zh7) := by
 refine F.ok sc__law_deed_by (fun vs H Q E h => zn5 (fun ds d e => zh0 e) h) (fun cdv A outer s H vs Q E hr h => ?_)
 refine ⟨_, (@za5 _ _ _ _ _ (@zf2 _ _ 3 _ _ _ _ sc__law_deed_by.nd rfl (Or.inr rfl) (@pe_op _ _ _ _ _ _ _ _ zo3 (pv 0) za8) (by rfl) (by first | exact .inl rfl | exact .inr rfl))
  (@za5 _ _ _ _ _ (@zf2 _ _ 4 _ _ _ _ sc__law_deed_by.nd rfl (Or.inl rfl) (pe_ix (zb4 (K := K) rfl) (@ze7 _ _ _ _ (@za0 _ _ _ _ _ zb1 (@za0 _ _ _ _ _ zb1 (@za0 _ _ _ _ _ zb1 (@za0 _ _ _ _ _ zb1 (@za0 _ _ _ _ _ zb1 (@za0 _ _ _ _ _ zb1 (@za0 _ _ _ _ _ zb1 (@za0 _ _ _ _ _ zb1 (@za0 _ _ _ _ _ zb1 za3 (by rfl)) (by rfl)) (by rfl)) (by rfl)) (by rfl)) (by rfl)) (by rfl)) (by rfl)) (by rfl))) (@pe_op _ _ _ _ _ _ _ _ zi9 (pv 0) za8) (fun _ _ => rfl)) (by rfl) (by first | exact .inl rfl | exact .inr rfl))
  (@za5 _ _ _ _ _ (@ps_if _ _ _ _ _ _ _ _ (zb7 (zd7 (K := K) rfl hr.units) (pv 4) zb1 (zc4 _))
   (@za9 _ _ _ (@zc8 _ _ _ _ (@zb9 _ _ _ _ _ (@za0 _ _ _ _ _ zb1 (@za0 _ _ _ _ _ (pv 1) (@za0 _ _ _ _ _ (zc3 (G__law_name_by.mono (by decide)) hr rfl d__law_name_by.m d__law_name_by.fn.kp d__law_name_by.b .nil pass0 (@za0 _ _ _ _ _ (pv 3) za3 (by rfl))) (@za0 _ _ _ _ _ (zc3 (G__law_told_by.mono (by decide)) hr rfl d__law_told_by.m d__law_told_by.fn.kp d__law_told_by.b .nil pass0 (@za0 _ _ _ _ _ (@pe_op _ _ _ _ _ _ _ _ zo3 (pv 3) za8) (@za0 _ _ _ _ _ za8 za3 (by rfl)) (by rfl))) za3 (by rfl)) (by rfl)) (by rfl)) (by rfl)))))
   zd4)
  (@za5 _ _ _ _ _ (@ps_if _ _ _ _ _ _ _ _ (zb7 (zd7 (K := K) rfl hr.units) (pv 4) zb1 (zc4 _))
   (@za9 _ _ _ (@zc8 _ _ _ _ (@zb9 _ _ _ _ _ (@za0 _ _ _ _ _ zb1 (@za0 _ _ _ _ _ (pv 1) (@za0 _ _ _ _ _ (zc3 (G__law_told_by.mono (by decide)) hr rfl d__law_told_by.m d__law_told_by.fn.kp d__law_told_by.b .nil pass0 (@za0 _ _ _ _ _ (pv 3) (@za0 _ _ _ _ _ za8 za3 (by rfl)) (by rfl))) (@za0 _ _ _ _ _ (zc3 (G__law_told_by.mono (by decide)) hr rfl d__law_told_by.m d__law_told_by.fn.kp d__law_told_by.b .nil pass0 (@za0 _ _ _ _ _ (@pe_op _ _ _ _ _ _ _ _ zi9 (@pe_op _ _ _ _ _ _ _ _ zr4 (pv 3) za8) za8) (@za0 _ _ _ _ _ za8 za3 (by rfl)) (by rfl))) za3 (by rfl)) (by rfl)) (by rfl)) (by rfl)))))
   zd4)
  (@za5 _ _ _ _ _ (@ps_if _ _ _ _ _ _ _ _ (zb7 (zd7 (K := K) rfl hr.units) (pv 4) zb1 (zc4 _))
   (@za9 _ _ _ (@zc8 _ _ _ _ (@zb9 _ _ _ _ _ (@za0 _ _ _ _ _ zb1 (@za0 _ _ _ _ _ (pv 1) (@za0 _ _ _ _ _ (zc3 (G__law_told_by.mono (by decide)) hr rfl d__law_told_by.m d__law_told_by.fn.kp d__law_told_by.b .nil pass0 (@za0 _ _ _ _ _ (pv 3) (@za0 _ _ _ _ _ za8 za3 (by rfl)) (by rfl))) za3 (by rfl)) (by rfl)) (by rfl)))))
   zd4)
  (@za5 _ _ _ _ _ (@ps_if _ _ _ _ _ _ _ _ (zb7 (zd7 (K := K) rfl hr.units) (pv 4) zb1 (zc4 _))
   (@za5 _ _ _ _ _ (@zf2 _ _ 5 _ _ _ _ sc__law_deed_by.nd rfl (Or.inl rfl) (pe_ix (zb4 (K := K) rfl) (@ze7 _ _ _ _ (@za0 _ _ _ _ _ zb1 (@za0 _ _ _ _ _ zb1 (@za0 _ _ _ _ _ zb1 (@za0 _ _ _ _ _ zb1 za3 (by rfl)) (by rfl)) (by rfl)) (by rfl))) (@pe_op _ _ _ _ _ _ _ _ zi9 (pv 3) za8) (fun _ _ => rfl)) (by rfl) (by first | exact .inl rfl | exact .inr rfl))
  (@za9 _ _ _ (@zc8 _ _ _ _ (@zb9 _ _ _ _ _ (@za0 _ _ _ _ _ zb1 (@za0 _ _ _ _ _ (pv 1) (@za0 _ _ _ _ _ (zc3 (G__law_name_by.mono (by decide)) hr rfl d__law_name_by.m d__law_name_by.fn.kp d__law_name_by.b .nil pass0 (@za0 _ _ _ _ _ (@pe_op _ _ _ _ _ _ _ _ zo3 (pv 3) za8) za3 (by rfl))) (@za0 _ _ _ _ _ (pv 5) (@za0 _ _ _ _ _ (zc3 (G__law_told_by.mono (by decide)) hr rfl d__law_told_by.m d__law_told_by.fn.kp d__law_told_by.b .nil pass0 (@za0 _ _ _ _ _ (@pe_op _ _ _ _ _ _ _ _ zo3 (pv 3) za8) (@za0 _ _ _ _ _ za8 za3 (by rfl)) (by rfl))) za3 (by rfl)) (by rfl)) (by rfl)) (by rfl)) (by rfl))))))
   zd4)
  (@za5 _ _ _ _ _ (@ps_if _ _ _ _ _ _ _ _ (zb7 (zd7 (K := K) rfl hr.units) (pv 4) zb1 (zc4 _))
   (@za5 _ _ _ _ _ (ps_setC (i := 6) sc__law_deed_by.nd rfl (Or.inl rfl) (N := ["_law_rest", "_law_k"]) (ix := [some 3, none]) (zj2 rfl (by decide +kernel) (by decide +kernel) (by rfl) rfl (by decide +kernel) (by rfl)) rfl (pi_range1 rfl z_range (@za0 _ _ _ _ _ (pv 2) za3 (by rfl))) (zk8 rfl) fun _ _ _ _ => ⟨(ze8 (i := 1) (show List.Nodup [Str.ofString "_law_rest", Str.ofString "_law_k"] by decide +kernel) rfl (Or.inl rfl) (.inr rfl)), zw5, (zc3 (G__law_told_by.mono (by decide)) hr rfl d__law_told_by.m d__law_told_by.fn.kp d__law_told_by.b .nil pass0 (@za0 _ _ _ _ _ (@pe_op _ _ _ _ _ _ _ _ zi9 (@pe_op _ _ _ _ _ _ _ _ zr4 (@pe_op _ _ _ _ _ _ _ _ (ze3 (K := K) rfl) (pv 0) (@pe_op _ _ _ _ _ _ _ _ zr4 (pv 1) (pv 1))) za8) za8) (@za0 _ _ _ _ _ za8 za3 (by rfl)) (by rfl)))⟩)
  (@za9 _ _ _ (@zc8 _ _ _ _ (@zb9 _ _ _ _ _ (@za0 _ _ _ _ _ zb1 (@za0 _ _ _ _ _ (pv 1) (@za0 _ _ _ _ _ (zc3 (G__law_name_by.mono (by decide)) hr rfl d__law_name_by.m d__law_name_by.fn.kp d__law_name_by.b .nil pass0 (@za0 _ _ _ _ _ (pv 3) za3 (by rfl))) (@za0 _ _ _ _ _ zb1 (@za0 _ _ _ _ _ (pv 6) za3 (by rfl)) (by rfl)) (by rfl)) (by rfl)) (by rfl))))))
   zd4)
  (@za9 _ _ _ (@zc8 _ _ _ _ (@zb9 _ _ _ _ _ (@za0 _ _ _ _ _ (pv 4) (@za0 _ _ _ _ _ (pv 1) za3 (by rfl)) (by rfl)))))))))))), ?_⟩
 exact d_fn (n := 7) rfl (fun ρ => (zd5 (zh5 (de_op zt1 (za6 (i := 0)) za7) zb5)
  (zd5 (zh5 (de_op dr_ix (DE.dk (DO.de (zi7 (za1 zb2 (za1 zb2 (za1 zb2 (za1 zb2 (za1 zb2 (za1 zb2 (za1 zb2 (za1 zb2 (za1 zb2 zb0)))))))))))) (de_op zm9 (za6 (i := 0)) za7)) zb5)
  (zd5 (ds_if (zc2 db_eq (za6 (i := 4)) (DE.dk zb2))
   (ze2 (ze1 (za1 zb2 (za1 (za2 (i := 1)) (za1 (zf9 (za1 (za2 (i := 3)) zb0)) (za1 (zf9 (za1 (de_op zt1 (za6 (i := 3)) za7) (za1 za7 zb0))) zb0))))))
   zd3)
  (zd5 (ds_if (zc2 db_eq (za6 (i := 4)) (DE.dk zb2))
   (ze2 (ze1 (za1 zb2 (za1 (za2 (i := 1)) (za1 (zf9 (za1 (za2 (i := 3)) (za1 za7 zb0))) (za1 (zf9 (za1 (de_op zm9 (DE.dk (de_op zu7 (za6 (i := 3)) za7)) za7) (za1 za7 zb0))) zb0))))))
   zd3)
  (zd5 (ds_if (zc2 db_eq (za6 (i := 4)) (DE.dk zb2))
   (ze2 (ze1 (za1 zb2 (za1 (za2 (i := 1)) (za1 (zf9 (za1 (za2 (i := 3)) (za1 za7 zb0))) zb0)))))
   zd3)
  (zd5 (ds_if (zc2 db_eq (za6 (i := 4)) (DE.dk zb2))
   (zd5 (zh5 (de_op dr_ix (DE.dk (DO.de (zi7 (za1 zb2 (za1 zb2 (za1 zb2 (za1 zb2 zb0))))))) (de_op zm9 (za6 (i := 3)) za7)) zb5)
  (ze2 (ze1 (za1 zb2 (za1 (za2 (i := 1)) (za1 (zf9 (za1 (de_op zt1 (za6 (i := 3)) za7) zb0)) (za1 (za2 (i := 5)) (za1 (zf9 (za1 (de_op zt1 (za6 (i := 3)) za7) (za1 za7 zb0))) zb0))))))))
   zd3)
  (zd5 (ds_if (zc2 db_eq (za6 (i := 4)) (DE.dk zb2))
   (zd5 (zh5 (DO.de (zs1 (ix := [some 3, none]) (by decide) (DI.k (di_rng1 (za1 (za2 (i := 2)) zb0))) zb5 ye4 (zf9 (za1 (de_op zm9 (DE.dk (de_op zu7 (DE.dk (de_op zg9 (za6 (i := 0)) (de_op zu7 (za6 (i := 1)) (za2 (i := 1))))) za7)) za7) (za1 za7 zb0))))) zb5)
  (ze2 (ze1 (za1 zb2 (za1 (za2 (i := 1)) (za1 (zf9 (za1 (za2 (i := 3)) zb0)) (za1 zb2 (za1 (za2 (i := 6)) zb0))))))))
   zd3)
  (ze2 (ze1 (za1 (za2 (i := 4)) (za1 (za2 (i := 1)) zb0)))))))))))) h
end
theorem sc__law_program : FnScope ["_law_script", "_law_cell", "_law_many", "_law_params", "_law_begin", "_law_body", "_law_last", "_law_main"] ["_law_script"] (zb3 zh4) := ⟨rfl, rfl, rfl, by decide +kernel, rfl, by decide +kernel, by decide +kernel⟩
section
variable {P : Program} {w : World} {K : PySem.W.Frag} {mg : Str → Option Value} {base : Heap} {cl : Str → Addr}
set_option maxHeartbeats 4000000 in
theorem ok__law_program {f : Addr} {fd : FuncData} (F : Fun K "_law_program" "_law_program" zh4 f fd) {f__law_deed_by : Addr} {fd__law_deed_by : FuncData} (d__law_deed_by : Df K mg "_law_deed_by" zh2 ["_law_cell", "_law_line", "_law_many"] f__law_deed_by fd__law_deed_by) (G__law_deed_by : FnOk P w K mg base CX0 8 f__law_deed_by fd__law_deed_by ["_law_cell", "_law_line", "_law_many"] (spD K zh7)) {f__law_mixed : Addr} {fd__law_mixed : FuncData} (d__law_mixed : Df K mg "_law_mixed" zj7 ["_law_cell", "_law_k"] f__law_mixed fd__law_mixed) (G__law_mixed : FnOk P w K mg base CX0 1 f__law_mixed fd__law_mixed ["_law_cell", "_law_k"] (spD K zl4)) (z_len : mg "len" = none) (z_enumerate : mg "enumerate" = none) : FnOk P w K mg base CX0 9 f fd ["_law_script"] (spD K zm8) := by
 refine F.ok sc__law_program (fun vs H Q E h => zn5 (fun ds d e => zh0 e) h) (fun cdv A outer s H vs Q E hr h => ?_)
 refine ⟨_, (@za5 _ _ _ _ _ (@zf2 _ _ 1 _ _ _ _ sc__law_program.nd rfl (Or.inl rfl) za8 (by rfl) (by first | exact .inl rfl | exact .inr rfl))
  (@za5 _ _ _ _ _ (@ps_if _ _ _ _ _ _ _ _ (zb7 op_gt (zg3 (zk7 (K := K) rfl) rfl z_len PySem.boot_len (@za0 _ _ _ _ _ (pv 0) za3 (by rfl))) za8 (zc4 _))
   (@za9 _ _ _ (@zf2 _ _ 1 _ _ _ _ sc__law_program.nd rfl (Or.inl rfl) (pe_ix (zb4 (K := K) rfl) (pv 0) za8 (fun _ _ => rfl)) (by rfl) (by first | exact .inl rfl | exact .inr rfl)))
   zd4)
  (@za5 _ _ _ _ _ (@zf2 _ _ 2 _ _ _ _ sc__law_program.nd rfl (Or.inr rfl) (@pe_op _ _ _ _ _ _ _ _ zi9 (pv 1) za8) (by rfl) (by first | exact .inl rfl | exact .inr rfl))
  (@za5 _ _ _ _ _ (@zf2 _ _ 3 _ _ _ _ sc__law_program.nd rfl (Or.inl rfl) (zu2 (sl_listN (K := K) rfl) (@ze7 _ _ _ _ (@za0 _ _ _ _ _ zb1 (@za0 _ _ _ _ _ zb1 (@za0 _ _ _ _ _ zb1 (@za0 _ _ _ _ _ zb1 (@za0 _ _ _ _ _ zb1 (@za0 _ _ _ _ _ zb1 za3 (by rfl)) (by rfl)) (by rfl)) (by rfl)) (by rfl)) (by rfl))) zz9 (zv4 (pv 2))) (by rfl) (by first | exact .inl rfl | exact .inr rfl))
  (@za5 _ _ _ _ _ (@zf2 _ _ 4 _ _ _ _ sc__law_program.nd rfl (Or.inr rfl) za8 (by rfl) (by first | exact .inl rfl | exact .inr rfl))
  (@za5 _ _ _ _ _ (@ps_if _ _ _ _ _ _ _ _ (zb7 (zd7 (K := K) rfl hr.units) (@pe_op _ _ _ _ _ _ _ _ zi9 (@pe_op _ _ _ _ _ _ _ _ zo3 (pv 1) za8) za8) za8 (zc4 _))
   (@za9 _ _ _ (@zf2 _ _ 4 _ _ _ _ sc__law_program.nd rfl (Or.inr rfl) za8 (by rfl) (by first | exact .inl rfl | exact .inr rfl)))
   zd4)
  (@za5 _ _ _ _ _ (ps_setC (i := 5) sc__law_program.nd rfl (Or.inl rfl) (N := ["_law_many", "_law_begin", "_law_k", "_law_one"]) (ix := [some 2, some 4, none, none]) (zj2 rfl (by decide +kernel) (by decide +kernel) (by rfl) rfl (by decide +kernel) (by rfl)) rfl (pi_enumK (K := K) rfl rfl z_enumerate (@za0 _ _ _ _ _ (zu2 (sl_listN (K := K) rfl) (pv 0) (zv4 za8) (zv4 za8)) za3 (by rfl))) (gfree_two rfl rfl) fun _ _ _ _ => ⟨(zz2 (K := K) (n := 2) rfl rfl (zl9 (ze8 (i := 2) (show List.Nodup [Str.ofString "_law_many", Str.ofString "_law_begin", Str.ofString "_law_k", Str.ofString "_law_one"] by decide +kernel) rfl (Or.inl rfl) (.inr rfl)) (zl9 (ze8 (i := 3) (show List.Nodup [Str.ofString "_law_many", Str.ofString "_law_begin", Str.ofString "_law_k", Str.ofString "_law_one"] by decide +kernel) rfl (Or.inl rfl) (.inr rfl)) ya2))), zw5, (zc3 (G__law_deed_by.mono (by decide)) hr rfl d__law_deed_by.m d__law_deed_by.fn.kp d__law_deed_by.b .nil pass0 (@za0 _ _ _ _ _ (zc3 (G__law_mixed.mono (by decide)) hr rfl d__law_mixed.m d__law_mixed.fn.kp d__law_mixed.b .nil pass0 (@za0 _ _ _ _ _ (pv 3) (@za0 _ _ _ _ _ (pv 2) za3 (by rfl)) (by rfl))) (@za0 _ _ _ _ _ (@pe_op _ _ _ _ _ _ _ _ (ze3 (K := K) rfl) (@pe_op _ _ _ _ _ _ _ _ (ze3 (K := K) rfl) (pv 1) za8) (pv 2)) (@za0 _ _ _ _ _ (pv 0) za3 (by rfl)) (by rfl)) (by rfl)))⟩)
  (@za5 _ _ _ _ _ (@zf2 _ _ 6 _ _ _ _ sc__law_program.nd rfl (Or.inl rfl) (@pe_op _ _ _ _ _ _ _ _ (ze3 (K := K) rfl) (@pe_op _ _ _ _ _ _ _ _ (ze3 (K := K) rfl) (pv 4) (zg3 (zk7 (K := K) rfl) rfl z_len PySem.boot_len (@za0 _ _ _ _ _ (pv 5) za3 (by rfl)))) za8) (by rfl) (by first | exact .inl rfl | exact .inr rfl))
  (@za5 _ _ _ _ _ (@zf2 _ _ 7 _ _ _ _ sc__law_program.nd rfl (Or.inl rfl) (@zb9 _ _ _ _ _ (@za0 _ _ _ _ _ zb1 (@za0 _ _ _ _ _ (@ze7 _ _ _ _ za3) (@za0 _ _ _ _ _ (pv 5) (@za0 _ _ _ _ _ (pv 4) (@za0 _ _ _ _ _ (pv 6) za3 (by rfl)) (by rfl)) (by rfl)) (by rfl)) (by rfl))) (by rfl) (by first | exact .inl rfl | exact .inr rfl))
  (@za5 _ _ _ _ _ (@ps_if _ _ _ _ _ _ _ _ (zb7 (zd7 (K := K) rfl hr.units) (pv 4) za8 (zc4 _))
   (@za9 _ _ _ (@zc8 _ _ _ _ (@ze7 _ _ _ _ (@za0 _ _ _ _ _ (@zb9 _ _ _ _ _ (@za0 _ _ _ _ _ zb1 (@za0 _ _ _ _ _ (pv 3) (@za0 _ _ _ _ _ (@ze7 _ _ _ _ za3) (@za0 _ _ _ _ _ za8 (@za0 _ _ _ _ _ za8 za3 (by rfl)) (by rfl)) (by rfl)) (by rfl)) (by rfl))) (@za0 _ _ _ _ _ (pv 7) za3 (by rfl)) (by rfl)))))
   zd4)
  (@za9 _ _ _ (@zc8 _ _ _ _ (@ze7 _ _ _ _ (@za0 _ _ _ _ _ (pv 7) (@za0 _ _ _ _ _ (@zb9 _ _ _ _ _ (@za0 _ _ _ _ _ zb1 (@za0 _ _ _ _ _ (pv 3) (@za0 _ _ _ _ _ (@ze7 _ _ _ _ za3) (@za0 _ _ _ _ _ (@pe_op _ _ _ _ _ _ _ _ (ze3 (K := K) rfl) (pv 6) za8) (@za0 _ _ _ _ _ (@pe_op _ _ _ _ _ _ _ _ (ze3 (K := K) rfl) (pv 6) za8) za3 (by rfl)) (by rfl)) (by rfl)) (by rfl)) (by rfl))) za3 (by rfl)) (by rfl))))))))))))))), ?_⟩
 exact d_fn (n := 8) rfl (fun ρ => (zd5 (zh5 za7 zb5)
  (zd5 (ds_if (zc2 db_gt (DE.dk (de_c1 zx6 (za6 (i := 0)))) (DE.dk za7))
   (zh5 (de_op dr_ix (za6 (i := 0)) za7) zb5)
   zd3)
  (zd5 (zh5 (de_op zm9 (za6 (i := 1)) za7) zb5)
  (zd5 (zh5 (DO.de (do_slL (DE.dk (DO.de (zi7 (za1 zb2 (za1 zb2 (za1 zb2 (za1 zb2 (za1 zb2 (za1 zb2 zb0))))))))) zw9 (zs2 (za2 (i := 2))))) zb5)
  (zd5 (zh5 za7 zb5)
  (zd5 (ds_if (zc2 db_eq (DE.dk (de_op zm9 (DE.dk (de_op zt1 (za6 (i := 1)) za7)) za7)) (DE.dk za7))
   (zh5 za7 zb5)
   zd3)
  (zd5 (zh5 (DO.de (zs1 (ix := [some 2, some 4, none, none]) (by decide) (DI.k (di_enum (za1 (DO.de (do_slL (za6 (i := 0)) (zs2 za7) (zs2 za7))) zb0))) (ye1 (n := 2) (zl7 zb5 (zl7 zb5 zz4))) ye4 (zf9 (za1 (zf9 (za1 (za2 (i := 3)) (za1 (za2 (i := 2)) zb0))) (za1 (de_op zg9 (DE.dk (de_op zg9 (za6 (i := 1)) za7)) (za2 (i := 2))) (za1 (za2 (i := 0)) zb0)))))) zb5)
  (zd5 (zh5 (de_op zg9 (DE.dk (de_op zg9 (za6 (i := 4)) (de_c1 zx6 (za6 (i := 5))))) za7) zb5)
  (zd5 (zh5 (ze1 (za1 zb2 (za1 (DO.de (zi7 zb0)) (za1 (za2 (i := 5)) (za1 (za2 (i := 4)) (za1 (za2 (i := 6)) zb0)))))) zb5)
  (zd5 (ds_if (zc2 db_eq (za6 (i := 4)) (DE.dk za7))
   (ze2 (DO.de (zi7 (za1 (ze1 (za1 zb2 (za1 (za2 (i := 3)) (za1 (DO.de (zi7 zb0)) (za1 za7 (za1 za7 zb0)))))) (za1 (za2 (i := 7)) zb0)))))
   zd3)
  (ze2 (DO.de (zi7 (za1 (za2 (i := 7)) (za1 (ze1 (za1 zb2 (za1 (za2 (i := 3)) (za1 (DO.de (zi7 zb0)) (za1 (de_op zg9 (za6 (i := 6)) za7) (za1 (de_op zg9 (za6 (i := 6)) za7) zb0)))))) zb0)))))))))))))))) h
end
theorem sc__law_expressions : FnScope ["_law_deed"] ["_law_deed"] (zb3 ze0) := ⟨rfl, rfl, rfl, by decide +kernel, rfl, by decide +kernel, by decide +kernel⟩
section
variable {P : Program} {w : World} {K : PySem.W.Frag} {mg : Str → Option Value} {base : Heap} {cl : Str → Addr}
set_option maxHeartbeats 4000000 in
theorem ok__law_expressions {f : Addr} {fd : FuncData} (F : Fun K "_law_expressions" "_law_expressions" ze0 f fd) : FnOk P w K mg base CX0 1 f fd ["_law_deed"] (spD K zg7) := by
 refine F.ok sc__law_expressions (fun vs H Q E h => zn5 (fun ds d e => zh0 e) h) (fun cdv A outer s H vs Q E hr h => ?_)
 refine ⟨_, (@za5 _ _ _ _ _ (@ps_if _ _ _ _ _ _ _ _ (zb7 (zd7 (K := K) rfl hr.units) (pe_ix (zb4 (K := K) rfl) (pv 0) za8 (fun _ _ => rfl)) zb1 (zc4 _))
  (@za9 _ _ _ (@zc8 _ _ _ _ (pe_ix (zb4 (K := K) rfl) (pv 0) za8 (fun _ _ => rfl))))
  zd4)
  (@za5 _ _ _ _ _ (@ps_if _ _ _ _ _ _ _ _ (zb7 (zd7 (K := K) rfl hr.units) (pe_ix (zb4 (K := K) rfl) (pv 0) za8 (fun _ _ => rfl)) zb1 (zc4 _))
   (@za9 _ _ _ (@zc8 _ _ _ _ (@ze7 _ _ _ _ (@za0 _ _ _ _ _ (pe_ix (zb4 (K := K) rfl) (pv 0) za8 (fun _ _ => rfl)) (@za0 _ _ _ _ _ (pe_ix (zb4 (K := K) rfl) (pv 0) za8 (fun _ _ => rfl)) za3 (by rfl)) (by rfl)))))
   zd4)
  (@za5 _ _ _ _ _ (@ps_if _ _ _ _ _ _ _ _ (PW.pt (pw_or (zb7 (zd7 (K := K) rfl hr.units) (pe_ix (zb4 (K := K) rfl) (pv 0) za8 (fun _ _ => rfl)) zb1 (zc4 _)) (yi5 (zb7 (zd7 (K := K) rfl hr.units) (pe_ix (zb4 (K := K) rfl) (pv 0) za8 (fun _ _ => rfl)) zb1 (zc4 _)))))
   (@za9 _ _ _ (@zc8 _ _ _ _ (@ze7 _ _ _ _ za3)))
   zd4)
  (@za9 _ _ _ (@zc8 _ _ _ _ (@ze7 _ _ _ _ (@za0 _ _ _ _ _ (pe_ix (zb4 (K := K) rfl) (pv 0) (pe_un yk5 za8) (fun _ _ => rfl)) za3 (by rfl)))))))), ?_⟩
 exact d_fn (n := 1) rfl (fun ρ => (zd5 (ds_if (zc2 db_eq (DE.dk (de_op dr_ix (za6 (i := 0)) za7)) (DE.dk zb2))
  (ze2 (de_op dr_ix (za6 (i := 0)) za7))
  zd3)
  (zd5 (ds_if (zc2 db_eq (DE.dk (de_op dr_ix (za6 (i := 0)) za7)) (DE.dk zb2))
   (ze2 (DO.de (zi7 (za1 (de_op dr_ix (za6 (i := 0)) za7) (za1 (de_op dr_ix (za6 (i := 0)) za7) zb0)))))
   zd3)
  (zd5 (ds_if (dt_or (zc2 db_eq (DE.dk (de_op dr_ix (za6 (i := 0)) za7)) (DE.dk zb2)) (zc2 db_eq (DE.dk (de_op dr_ix (za6 (i := 0)) za7)) (DE.dk zb2)))
   (ze2 (DO.de (zi7 zb0)))
   zd3)
  (ze2 (DO.de (zi7 (za1 (de_op dr_ix (za6 (i := 0)) (yj8 za7)) zb0)))))))) h
end
theorem sc__law_names_in : FnScope ["_law_told", "_law_names_here", "_law_part"] ["_law_told", "_law_names_here"] (zb3 zf6) := ⟨rfl, rfl, rfl, by decide +kernel, rfl, by decide +kernel, by decide +kernel⟩
section
variable {P : Program} {w : World} {K : PySem.W.Frag} {mg : Str → Option Value} {base : Heap} {cl : Str → Addr}
set_option maxHeartbeats 4000000 in
theorem okS__law_names_in {n : Nat} {f__law_names_in : Addr} {fd__law_names_in : FuncData} (d__law_names_in : Df K mg "_law_names_in" zf6 ["_law_told", "_law_names_here"] f__law_names_in fd__law_names_in) (G__law_names_in : FnOk P w K mg base CX0 (0 + n) f__law_names_in fd__law_names_in ["_law_told", "_law_names_here"] (sp0 K cl (zc5 n))) : FnOk P w K mg base CX0 (0 + n + 1) f__law_names_in fd__law_names_in ["_law_told", "_law_names_here"] (sp0 K cl (zc5 (n + 1))) := by
 have F := d__law_names_in.fn
 refine F.ok sc__law_names_in (fun vs H Q E h => zm5 (fun ds S r e => zg5 e) h) (fun cdv A outer s H vs Q E hr h => ?_)
 refine ⟨_, (@za5 _ _ _ _ _ (@ps_if _ _ _ _ _ _ _ _ (PW.pt (yi1 (zb7 (zd7 (K := K) rfl hr.units) (pe_ix (zb4 (K := K) rfl) (pv 0) za8 (fun _ _ => rfl)) zb1 (zc4 _)) (yc7 (zb7 (zr9 (K := K) rfl) (pe_ix (zb4 (K := K) rfl) (pv 0) za8 (fun _ _ => rfl)) (pv 1) (by first | rfl | with_unfolding_all rfl)))))
  (@za9 _ _ _ (@zc7 _ _ _ _ (zp2 (K := K) rfl PySem.F.plainAttrs_list PySem.F.slot_list_append PySem.F.type_list_append zq4 (pv 1) (@za0 _ _ _ _ _ (pe_ix (zb4 (K := K) rfl) (pv 0) za8 (fun _ _ => rfl)) za3 (by rfl))) (by rfl)))
  zd4)
  (@za9 _ _ _ (@ps_if _ _ _ _ _ _ _ _ (PW.pt (yi1 (zb7 (ya3 (K := K) rfl hr.units) (pe_ix (zb4 (K := K) rfl) (pv 0) za8 (fun _ _ => rfl)) zb1 (zc4 _)) (yc7 (zb7 (ya3 (K := K) rfl hr.units) (pe_ix (zb4 (K := K) rfl) (pv 0) za8 (fun _ _ => rfl)) zb1 (zc4 _)))))
   (@za9 _ _ _ (@zr1 _ _ _ _ _ _ _ _ PassesOwn.never rfl (zj3 (K := K) rfl (zu2 (yc1 (K := K) rfl) (pv 0) (zv4 za8) zz9)) (ze8 (i := 2) sc__law_names_in.nd rfl (Or.inl rfl))
   (@za9 _ _ _ (@zc7 _ _ _ _ (zc3 (G__law_names_in.mono (by omega)) hr rfl d__law_names_in.m d__law_names_in.fn.kp d__law_names_in.b .nil pass0 (@za0 _ _ _ _ _ (pv 2) (@za0 _ _ _ _ _ (pv 1) za3 (by rfl)) (by rfl))) (by rfl))) (by intro _; rfl)))
   zd4))), ?_⟩
 exact s_fn0 (n := 3) rfl ((zc9 (ss_if (st_and (zh1 fun ρ => (zc2 db_eq (DE.dk (de_op dr_ix (za6 (i := 0)) za7)) (DE.dk zb2))) (st_inS (neg := true) (za4 fun ρ => (de_op dr_ix (za6 (i := 0)) za7)) (za4 fun ρ => (za2 (i := 1)))))
  (zs9 (za4 fun ρ => (za2 (i := 1))) (za4 fun ρ => (de_op dr_ix (za6 (i := 0)) za7)))
  (zf0 fun ρ => zd3))
  (ss_if (zh1 fun ρ => (dt_and (zc2 db_ne (DE.dk (de_op dr_ix (za6 (i := 0)) za7)) (DE.dk zb2)) (zc2 db_ne (DE.dk (de_op dr_ix (za6 (i := 0)) za7)) (DE.dk zb2))))
   (zw0 (zr0 fun ρ => (zs6 (yi4 (za2 (i := 0)) (zs2 za7) zw9))) (fun ρ => zb5)
   (zf4 (zk9 (zd8 fun ρ => (za1 (za2 (i := 2)) (za1 (za2 (i := 1)) zb0))))))
   (zf0 fun ρ => zd3)))) h
theorem ok__law_names_in {f__law_names_in : Addr} {fd__law_names_in : FuncData} (d__law_names_in : Df K mg "_law_names_in" zf6 ["_law_told", "_law_names_here"] f__law_names_in fd__law_names_in) : ∀ n, FnOk P w K mg base CX0 (0 + n) f__law_names_in fd__law_names_in ["_law_told", "_law_names_here"] (sp0 K cl (zc5 n))
 | 0 => FnOk.no0 fun _ _ => rfl
 | n + 1 => okS__law_names_in d__law_names_in (ok__law_names_in d__law_names_in n)
end
theorem sc__law_names : FnScope ["_law_body", "_law_names_here", "_law_deed", "_law_told"] ["_law_body"] (zb3 zj6) := ⟨rfl, rfl, rfl, by decide +kernel, rfl, by decide +kernel, by decide +kernel⟩
section
variable {P : Program} {w : World} {K : PySem.W.Frag} {mg : Str → Option Value} {base : Heap} {cl : Str → Addr}
set_option maxHeartbeats 4000000 in
theorem ok__law_names {f : Addr} {fd : FuncData} (F : Fun K "_law_names" "_law_names" zj6 f fd) {f__law_names_in : Addr} {fd__law_names_in : FuncData} (d__law_names_in : Df K mg "_law_names_in" zf6 ["_law_told", "_law_names_here"] f__law_names_in fd__law_names_in) (G__law_names_in : FnOk P w K mg base CX0 9 f__law_names_in fd__law_names_in ["_law_told", "_law_names_here"] (sp0 K cl (zc5 9))) {f__law_expressions : Addr} {fd__law_expressions : FuncData} (d__law_expressions : Df K mg "_law_expressions" ze0 ["_law_deed"] f__law_expressions fd__law_expressions) (G__law_expressions : FnOk P w K mg base CX0 1 f__law_expressions fd__law_expressions ["_law_deed"] (spD K zg7)) : FnOk P w K mg base CX0 10 f fd ["_law_body"] (sp0 K cl zq8) := by
 refine F.ok sc__law_names (fun vs H Q E h => zm5 (fun ds S r e => zg5 e) h) (fun cdv A outer s H vs Q E hr h => ?_)
 refine ⟨_, (@za5 _ _ _ _ _ (@zf2 _ _ 1 _ _ _ _ sc__law_names.nd rfl (Or.inl rfl) (@ze7 _ _ _ _ za3) (by rfl) (by first | exact .inl rfl | exact .inr rfl))
  (@za5 _ _ _ _ _ (@zr1 _ _ _ _ _ _ _ _ PassesOwn.never rfl (zj3 (K := K) rfl (pv 0)) (ze8 (i := 2) sc__law_names.nd rfl (Or.inl rfl))
   (@za5 _ _ _ _ _ (@ps_if _ _ _ _ _ _ _ _ (PW.pt (yi1 (zb7 (zr6 (K := K) rfl) (pe_ix (zb4 (K := K) rfl) (pv 2) za8 (fun _ _ => rfl)) (@zb9 _ _ _ _ _ (@za0 _ _ _ _ _ zb1 (@za0 _ _ _ _ _ zb1 (@za0 _ _ _ _ _ zb1 za3 (by rfl)) (by rfl)) (by rfl))) (by first | rfl | with_unfolding_all rfl)) (yc7 (zb7 (zr9 (K := K) rfl) (pe_ix (zb4 (K := K) rfl) (pv 2) za8 (fun _ _ => rfl)) (pv 1) (by first | rfl | with_unfolding_all rfl)))))
   (@za9 _ _ _ (@zc7 _ _ _ _ (zp2 (K := K) rfl PySem.F.plainAttrs_list PySem.F.slot_list_append PySem.F.type_list_append zq4 (pv 1) (@za0 _ _ _ _ _ (pe_ix (zb4 (K := K) rfl) (pv 2) za8 (fun _ _ => rfl)) za3 (by rfl))) (by rfl)))
   zd4)
  (@za9 _ _ _ (@zr1 _ _ _ _ _ _ _ _ PassesOwn.never rfl (zj3 (K := K) rfl (zc3 (G__law_expressions.mono (by decide)) hr rfl d__law_expressions.m d__law_expressions.fn.kp d__law_expressions.b .nil pass0 (@za0 _ _ _ _ _ (pv 2) za3 (by rfl)))) (ze8 (i := 3) sc__law_names.nd rfl (Or.inl rfl))
   (@za9 _ _ _ (@zc7 _ _ _ _ (zc3 (G__law_names_in.mono (by decide)) hr rfl d__law_names_in.m d__law_names_in.fn.kp d__law_names_in.b .nil pass0 (@za0 _ _ _ _ _ (pv 3) (@za0 _ _ _ _ _ (pv 1) za3 (by rfl)) (by rfl))) (by rfl))) (by intro _; rfl)))) (by intro _; rfl))
  (@za9 _ _ _ (@zc8 _ _ _ _ (pv 1))))), ?_⟩
 exact s_fn0 (n := 4) rfl ((zc9 (zw7 (yf9 (zd8 fun ρ => zb0)) (fun ρ => zb5))
  (zc9 (zw0 (zr0 fun ρ => (zs6 (za2 (i := 0)))) (fun ρ => zb5)
   (zc9 (ss_if (st_and (zh1 fun ρ => (zc2 db_in (DE.dk (de_op dr_ix (za6 (i := 2)) za7)) (DE.dk (ze1 (za1 zb2 (za1 zb2 (za1 zb2 zb0))))))) (st_inS (neg := true) (za4 fun ρ => (de_op dr_ix (za6 (i := 2)) za7)) (za4 fun ρ => (za2 (i := 1)))))
   (zs9 (za4 fun ρ => (za2 (i := 1))) (za4 fun ρ => (de_op dr_ix (za6 (i := 2)) za7)))
   (zf0 fun ρ => zd3))
  (zw0 (zr0 fun ρ => (zs6 (zf9 (za1 (za2 (i := 2)) zb0)))) (fun ρ => zb5)
   (zf4 (zk9 (zd8 fun ρ => (za1 (za2 (i := 3)) (za1 (za2 (i := 1)) zb0))))))))
  (zf0 fun ρ => (ze2 (za2 (i := 1))))))) h
end
theorem sc__law_rows_of : FnScope ["_law_told", "_law_line", "_law_at", "_law_names_here", "_law_rows"] ["_law_told", "_law_line", "_law_at", "_law_names_here"] (zb3 zg0) := ⟨rfl, rfl, rfl, by decide +kernel, rfl, by decide +kernel, by decide +kernel⟩
section
variable {P : Program} {w : World} {K : PySem.W.Frag} {mg : Str → Option Value} {base : Heap} {cl : Str → Addr}
set_option maxHeartbeats 4000000 in
theorem okS__law_rows_of {n : Nat} {f__law_rows_of : Addr} {fd__law_rows_of : FuncData} (d__law_rows_of : Df K mg "_law_rows_of" zg0 ["_law_told", "_law_line", "_law_at", "_law_names_here"] f__law_rows_of fd__law_rows_of) (z_len : mg "len" = none) (G__law_rows_of : FnOk P w K mg base CX0 (0 + n) f__law_rows_of fd__law_rows_of ["_law_told", "_law_line", "_law_at", "_law_names_here"] (sp0 K cl (ze9 n))) : FnOk P w K mg base CX0 (0 + n + 1) f__law_rows_of fd__law_rows_of ["_law_told", "_law_line", "_law_at", "_law_names_here"] (sp0 K cl (ze9 (n + 1))) := by
 have F := d__law_rows_of.fn
 refine F.ok sc__law_rows_of (fun vs H Q E h => zm5 (fun ds S r e => zg5 e) h) (fun cdv A outer s H vs Q E hr h => ?_)
 refine ⟨_, (@za5 _ _ _ _ _ (@ps_if _ _ _ _ _ _ _ _ (zb7 (zd7 (K := K) rfl hr.units) (pe_ix (zb4 (K := K) rfl) (pv 0) za8 (fun _ _ => rfl)) zb1 (zc4 _))
  (@za9 _ _ _ (@zc8 _ _ _ _ (@ze7 _ _ _ _ (@za0 _ _ _ _ _ (@zb9 _ _ _ _ _ (@za0 _ _ _ _ _ zb1 (@za0 _ _ _ _ _ (pv 1) (@za0 _ _ _ _ _ (pv 2) (@za0 _ _ _ _ _ (pe_ix (zb4 (K := K) rfl) (pv 0) za8 (fun _ _ => rfl)) za3 (by rfl)) (by rfl)) (by rfl)) (by rfl))) za3 (by rfl)))))
  zd4)
  (@za5 _ _ _ _ _ (@ps_if _ _ _ _ _ _ _ _ (zb7 (zd7 (K := K) rfl hr.units) (pe_ix (zb4 (K := K) rfl) (pv 0) za8 (fun _ _ => rfl)) zb1 (zc4 _))
   (@za9 _ _ _ (@zc8 _ _ _ _ (@ze7 _ _ _ _ (@za0 _ _ _ _ _ (@zb9 _ _ _ _ _ (@za0 _ _ _ _ _ zb1 (@za0 _ _ _ _ _ (pv 1) (@za0 _ _ _ _ _ (pv 2) (@za0 _ _ _ _ _ (@pe_op _ _ _ _ _ _ _ _ (ze3 (K := K) rfl) (zp2 (K := K) rfl PySem.F.plainAttrs_list PySem.F.slot_list_index PySem.F.type_list_index (zv8 rfl) (pv 3) (@za0 _ _ _ _ _ (pe_ix (zb4 (K := K) rfl) (pv 0) za8 (fun _ _ => rfl)) za3 (by rfl))) za8) za3 (by rfl)) (by rfl)) (by rfl)) (by rfl))) za3 (by rfl)))))
   zd4)
  (@za5 _ _ _ _ _ (@ps_if _ _ _ _ _ _ _ _ (zb7 (zd7 (K := K) rfl hr.units) (zg3 (zk7 (K := K) rfl) rfl z_len PySem.boot_len (@za0 _ _ _ _ _ (pv 0) za3 (by rfl))) za8 (zc4 _))
   (@za9 _ _ _ (@zc8 _ _ _ _ (@ze7 _ _ _ _ (@za0 _ _ _ _ _ (@zb9 _ _ _ _ _ (@za0 _ _ _ _ _ zb1 (@za0 _ _ _ _ _ (pv 1) (@za0 _ _ _ _ _ (pv 2) (@za0 _ _ _ _ _ (pe_ix (zb4 (K := K) rfl) (pv 0) za8 (fun _ _ => rfl)) za3 (by rfl)) (by rfl)) (by rfl)) (by rfl))) za3 (by rfl)))))
   zd4)
  (@za5 _ _ _ _ _ (@zf2 _ _ 4 _ _ _ _ sc__law_rows_of.nd rfl (Or.inl rfl) (zc3 (G__law_rows_of.mono (by omega)) hr rfl d__law_rows_of.m d__law_rows_of.fn.kp d__law_rows_of.b .nil pass0 (@za0 _ _ _ _ _ (pe_ix (zb4 (K := K) rfl) (pv 0) za8 (fun _ _ => rfl)) (@za0 _ _ _ _ _ (pv 1) (@za0 _ _ _ _ _ (pv 2) (@za0 _ _ _ _ _ (pv 3) za3 (by rfl)) (by rfl)) (by rfl)) (by rfl))) (by rfl) (by first | exact .inl rfl | exact .inr rfl))
  (@za5 _ _ _ _ _ (@ps_if _ _ _ _ _ _ _ _ (zb7 (zd7 (K := K) rfl hr.units) (pe_ix (zb4 (K := K) rfl) (pv 0) za8 (fun _ _ => rfl)) zb1 (zc4 _))
   (@za9 _ _ _ (@zc8 _ _ _ _ (@pe_op _ _ _ _ _ _ _ _ (ze3 (K := K) rfl) (pv 4) (@ze7 _ _ _ _ (@za0 _ _ _ _ _ (@zb9 _ _ _ _ _ (@za0 _ _ _ _ _ zb1 (@za0 _ _ _ _ _ (pv 1) (@za0 _ _ _ _ _ (pv 2) (@za0 _ _ _ _ _ (pv 2) za3 (by rfl)) (by rfl)) (by rfl)) (by rfl))) za3 (by rfl))))))
   zd4)
  (@za9 _ _ _ (@zc8 _ _ _ _ (@pe_op _ _ _ _ _ _ _ _ (ze3 (K := K) rfl) (@pe_op _ _ _ _ _ _ _ _ (ze3 (K := K) rfl) (pv 4) (zc3 (G__law_rows_of.mono (by omega)) hr rfl d__law_rows_of.m d__law_rows_of.fn.kp d__law_rows_of.b .nil pass0 (@za0 _ _ _ _ _ (pe_ix (zb4 (K := K) rfl) (pv 0) za8 (fun _ _ => rfl)) (@za0 _ _ _ _ _ (pv 1) (@za0 _ _ _ _ _ (@pe_op _ _ _ _ _ _ _ _ (ze3 (K := K) rfl) (pv 2) za8) (@za0 _ _ _ _ _ (pv 3) za3 (by rfl)) (by rfl)) (by rfl)) (by rfl)))) (@ze7 _ _ _ _ (@za0 _ _ _ _ _ (@zb9 _ _ _ _ _ (@za0 _ _ _ _ _ zb1 (@za0 _ _ _ _ _ (pv 1) (@za0 _ _ _ _ _ (pv 2) (@za0 _ _ _ _ _ (pe_ix (zb4 (K := K) rfl) (pv 0) za8 (fun _ _ => rfl)) (@za0 _ _ _ _ _ (pv 2) (@za0 _ _ _ _ _ (@pe_op _ _ _ _ _ _ _ _ (ze3 (K := K) rfl) (pv 2) za8) za3 (by rfl)) (by rfl)) (by rfl)) (by rfl)) (by rfl)) (by rfl))) za3 (by rfl))))))))))), ?_⟩
 exact s_fn0 (n := 5) rfl ((zc9 (zf0 fun ρ => (ds_if (zc2 db_eq (DE.dk (de_op dr_ix (za6 (i := 0)) za7)) (DE.dk zb2))
  (ze2 (DO.de (zi7 (za1 (ze1 (za1 zb2 (za1 (za2 (i := 1)) (za1 (za2 (i := 2)) (za1 (de_op dr_ix (za6 (i := 0)) za7) zb0))))) zb0))))
  zd3))
  (zc9 (ss_if (zh1 fun ρ => (zc2 db_eq (DE.dk (de_op dr_ix (za6 (i := 0)) za7)) (DE.dk zb2)))
   (zw6 (se_lst (zb8 (zt2 (zb8 (za4 fun ρ => zb2) (zb8 (za4 fun ρ => (za2 (i := 1))) (zb8 (za4 fun ρ => (za2 (i := 2))) (zb8 (se_op (fun ρ => zg9) (zy2 (za4 fun ρ => (za2 (i := 3))) (za4 fun ρ => (de_op dr_ix (za6 (i := 0)) za7))) (za4 fun ρ => za7)) zm1))))) zm1)))
   (zf0 fun ρ => zd3))
  (zc9 (zf0 fun ρ => (ds_if (zc2 db_eq (DE.dk (de_c1 zx6 (za6 (i := 0)))) (DE.dk za7))
   (ze2 (DO.de (zi7 (za1 (ze1 (za1 zb2 (za1 (za2 (i := 1)) (za1 (za2 (i := 2)) (za1 (de_op dr_ix (za6 (i := 0)) za7) zb0))))) zb0))))
   zd3))
  (zc9 (zw7 (zk9 (zd8 fun ρ => (za1 (de_op dr_ix (za6 (i := 0)) za7) (za1 (za2 (i := 1)) (za1 (za2 (i := 2)) (za1 (za2 (i := 3)) zb0)))))) (fun ρ => zb5))
  (zc9 (zf0 fun ρ => (ds_if (zc2 db_eq (DE.dk (de_op dr_ix (za6 (i := 0)) za7)) (DE.dk zb2))
   (ze2 (de_op zg9 (za6 (i := 4)) (DO.de (zi7 (za1 (ze1 (za1 zb2 (za1 (za2 (i := 1)) (za1 (za2 (i := 2)) (za1 (za2 (i := 2)) zb0))))) zb0)))))
   zd3))
  (zw6 (se_op (fun ρ => zg9) (se_op (fun ρ => zg9) (za4 fun ρ => (za2 (i := 4))) (zk9 (zd8 fun ρ => (za1 (de_op dr_ix (za6 (i := 0)) za7) (za1 (za2 (i := 1)) (za1 (de_op zg9 (za6 (i := 2)) za7) (za1 (za2 (i := 3)) zb0))))))) (za4 fun ρ => (DO.de (zi7 (za1 (ze1 (za1 zb2 (za1 (za2 (i := 1)) (za1 (za2 (i := 2)) (za1 (de_op dr_ix (za6 (i := 0)) za7) (za1 (za2 (i := 2)) (za1 (de_op zg9 (za6 (i := 2)) za7) zb0))))))) zb0)))))))))))) h
theorem ok__law_rows_of {f__law_rows_of : Addr} {fd__law_rows_of : FuncData} (d__law_rows_of : Df K mg "_law_rows_of" zg0 ["_law_told", "_law_line", "_law_at", "_law_names_here"] f__law_rows_of fd__law_rows_of) (z_len : mg "len" = none) : ∀ n, FnOk P w K mg base CX0 (0 + n) f__law_rows_of fd__law_rows_of ["_law_told", "_law_line", "_law_at", "_law_names_here"] (sp0 K cl (ze9 n))
 | 0 => FnOk.no0 fun _ _ => rfl
 | n + 1 => okS__law_rows_of d__law_rows_of z_len (ok__law_rows_of d__law_rows_of z_len n)
end
theorem sc__law_last_row : FnScope ["_law_deed", "_law_names_here", "_law_goal", "_law_word", "_law_line", "_law_free"] ["_law_deed", "_law_names_here", "_law_goal"] (zb3 zg6) := ⟨rfl, rfl, rfl, by decide +kernel, rfl, by decide +kernel, by decide +kernel⟩
section
variable {P : Program} {w : World} {K : PySem.W.Frag} {mg : Str → Option Value} {base : Heap} {cl : Str → Addr}
set_option maxHeartbeats 4000000 in
theorem ok__law_last_row {f : Addr} {fd : FuncData} (F : Fun K "_law_last_row" "_law_last_row" zg6 f fd) (z_len : mg "len" = none) : FnOk P w K mg base CX0 1 f fd ["_law_deed", "_law_names_here", "_law_goal"] (sp0 K cl zo2) := by
 refine F.ok sc__law_last_row (fun vs H Q E h => zm5 (fun ds S r e => zg5 e) h) (fun cdv A outer s H vs Q E hr h => ?_)
 refine ⟨_, (@za5 _ _ _ _ _ (@zf2 _ _ 3 _ _ _ _ sc__law_last_row.nd rfl (Or.inl rfl) (pe_ix (zb4 (K := K) rfl) (pv 0) za8 (fun _ _ => rfl)) (by rfl) (by first | exact .inl rfl | exact .inr rfl))
  (@za5 _ _ _ _ _ (@zf2 _ _ 4 _ _ _ _ sc__law_last_row.nd rfl (Or.inl rfl) (pe_ix (zb4 (K := K) rfl) (pv 0) za8 (fun _ _ => rfl)) (by rfl) (by first | exact .inl rfl | exact .inr rfl))
  (@za5 _ _ _ _ _ (@zf2 _ _ 5 _ _ _ _ sc__law_last_row.nd rfl (Or.inl rfl) (@pe_op _ _ _ _ _ _ _ _ (ze3 (K := K) rfl) (zg3 (zk7 (K := K) rfl) rfl z_len PySem.boot_len (@za0 _ _ _ _ _ (pv 1) za3 (by rfl))) za8) (by rfl) (by first | exact .inl rfl | exact .inr rfl))
  (@za5 _ _ _ _ _ (@ps_if _ _ _ _ _ _ _ _ (zb7 (zd7 (K := K) rfl hr.units) (pv 3) zb1 (zc4 _))
   (@za9 _ _ _ (@zc8 _ _ _ _ (@zb9 _ _ _ _ _ (@za0 _ _ _ _ _ zb1 (@za0 _ _ _ _ _ (pv 4) (@za0 _ _ _ _ _ (@pe_op _ _ _ _ _ _ _ _ (ze3 (K := K) rfl) (zp2 (K := K) rfl PySem.F.plainAttrs_list PySem.F.slot_list_index PySem.F.type_list_index (zv8 rfl) (pv 1) (@za0 _ _ _ _ _ (pe_ix (zb4 (K := K) rfl) (pv 0) za8 (fun _ _ => rfl)) za3 (by rfl))) za8) (@za0 _ _ _ _ _ (pv 5) za3 (by rfl)) (by rfl)) (by rfl)) (by rfl)))))
   zd4)
  (@za5 _ _ _ _ _ (@ps_if _ _ _ _ _ _ _ _ (zb7 (zd7 (K := K) rfl hr.units) (pv 3) zb1 (zc4 _))
   (@za9 _ _ _ (@zc8 _ _ _ _ (@zb9 _ _ _ _ _ (@za0 _ _ _ _ _ zb1 (@za0 _ _ _ _ _ (pv 4) (@za0 _ _ _ _ _ (pv 5) (@za0 _ _ _ _ _ (@pe_op _ _ _ _ _ _ _ _ (ze3 (K := K) rfl) (pv 5) za8) za3 (by rfl)) (by rfl)) (by rfl)) (by rfl)))))
   zd4)
  (@za5 _ _ _ _ _ (@ps_if _ _ _ _ _ _ _ _ (zb7 (zd7 (K := K) rfl hr.units) (pv 3) zb1 (zc4 _))
   (@za9 _ _ _ (@zc8 _ _ _ _ (@zb9 _ _ _ _ _ (@za0 _ _ _ _ _ zb1 (@za0 _ _ _ _ _ (pv 4) (@za0 _ _ _ _ _ (pv 5) za3 (by rfl)) (by rfl)) (by rfl)))))
   zd4)
  (@za5 _ _ _ _ _ (@ps_if _ _ _ _ _ _ _ _ (zb7 (zd7 (K := K) rfl hr.units) (pv 3) zb1 (zc4 _))
   (@za9 _ _ _ (@zc8 _ _ _ _ (@zb9 _ _ _ _ _ (@za0 _ _ _ _ _ zb1 (@za0 _ _ _ _ _ (pv 4) (@za0 _ _ _ _ _ (@pe_op _ _ _ _ _ _ _ _ (ze3 (K := K) rfl) (zp2 (K := K) rfl PySem.F.plainAttrs_list PySem.F.slot_list_index PySem.F.type_list_index (zv8 rfl) (pv 1) (@za0 _ _ _ _ _ (pe_ix (zb4 (K := K) rfl) (pv 0) za8 (fun _ _ => rfl)) za3 (by rfl))) za8) (@za0 _ _ _ _ _ (pe_ix (zb4 (K := K) rfl) (pv 0) za8 (fun _ _ => rfl)) (@za0 _ _ _ _ _ (pv 5) za3 (by rfl)) (by rfl)) (by rfl)) (by rfl)) (by rfl)))))
   zd4)
  (@za5 _ _ _ _ _ (@ps_if _ _ _ _ _ _ _ _ (zb7 (zd7 (K := K) rfl hr.units) (pv 3) zb1 (zc4 _))
   (@za9 _ _ _ (@zc8 _ _ _ _ (@zb9 _ _ _ _ _ (@za0 _ _ _ _ _ zb1 (@za0 _ _ _ _ _ (pv 4) (@za0 _ _ _ _ _ (@pe_op _ _ _ _ _ _ _ _ (ze3 (K := K) rfl) (zp2 (K := K) rfl PySem.F.plainAttrs_list PySem.F.slot_list_index PySem.F.type_list_index (zv8 rfl) (pv 1) (@za0 _ _ _ _ _ (pe_ix (zb4 (K := K) rfl) (pv 0) za8 (fun _ _ => rfl)) za3 (by rfl))) za8) (@za0 _ _ _ _ _ (pv 5) (@za0 _ _ _ _ _ (zg3 (zk7 (K := K) rfl) rfl z_len PySem.boot_len (@za0 _ _ _ _ _ (pe_ix (zb4 (K := K) rfl) (pv 0) za8 (fun _ _ => rfl)) za3 (by rfl))) (@za0 _ _ _ _ _ (pv 2) za3 (by rfl)) (by rfl)) (by rfl)) (by rfl)) (by rfl)) (by rfl)))))
   zd4)
  (@za9 _ _ _ (@zc8 _ _ _ _ (@zb9 _ _ _ _ _ (@za0 _ _ _ _ _ (pv 3) (@za0 _ _ _ _ _ (pv 4) za3 (by rfl)) (by rfl))))))))))))), ?_⟩
 exact s_fn0 (n := 6) rfl ((zc9 (zf0 fun ρ => (zh5 (de_op dr_ix (za6 (i := 0)) za7) zb5))
  (zc9 (zf0 fun ρ => (zh5 (de_op dr_ix (za6 (i := 0)) za7) zb5))
  (zc9 (zw7 (se_op (fun ρ => zg9) (ye0 (za4 fun ρ => (za2 (i := 1)))) (za4 fun ρ => za7)) (fun ρ => zb5))
  (zc9 (ss_if (zh1 fun ρ => (zc2 db_eq (za6 (i := 3)) (DE.dk zb2)))
   (zw6 (zt2 (zb8 (za4 fun ρ => zb2) (zb8 (za4 fun ρ => (za2 (i := 4))) (zb8 (se_op (fun ρ => zg9) (zy2 (za4 fun ρ => (za2 (i := 1))) (za4 fun ρ => (de_op dr_ix (za6 (i := 0)) za7))) (za4 fun ρ => za7)) (zb8 (za4 fun ρ => (za2 (i := 5))) zm1))))))
   (zf0 fun ρ => zd3))
  (zc9 (zf0 fun ρ => (ds_if (zc2 db_eq (za6 (i := 3)) (DE.dk zb2))
   (ze2 (ze1 (za1 zb2 (za1 (za2 (i := 4)) (za1 (za2 (i := 5)) (za1 (de_op zg9 (za6 (i := 5)) za7) zb0))))))
   zd3))
  (zc9 (zf0 fun ρ => (ds_if (zc2 db_eq (za6 (i := 3)) (DE.dk zb2))
   (ze2 (ze1 (za1 zb2 (za1 (za2 (i := 4)) (za1 (za2 (i := 5)) zb0)))))
   zd3))
  (zc9 (ss_if (zh1 fun ρ => (zc2 db_eq (za6 (i := 3)) (DE.dk zb2)))
   (zw6 (zt2 (zb8 (za4 fun ρ => zb2) (zb8 (za4 fun ρ => (za2 (i := 4))) (zb8 (se_op (fun ρ => zg9) (zy2 (za4 fun ρ => (za2 (i := 1))) (za4 fun ρ => (de_op dr_ix (za6 (i := 0)) za7))) (za4 fun ρ => za7)) (zb8 (za4 fun ρ => (de_op dr_ix (za6 (i := 0)) za7)) (zb8 (za4 fun ρ => (za2 (i := 5))) zm1)))))))
   (zf0 fun ρ => zd3))
  (zc9 (ss_if (zh1 fun ρ => (zc2 db_eq (za6 (i := 3)) (DE.dk zb2)))
   (zw6 (zt2 (zb8 (za4 fun ρ => zb2) (zb8 (za4 fun ρ => (za2 (i := 4))) (zb8 (se_op (fun ρ => zg9) (zy2 (za4 fun ρ => (za2 (i := 1))) (za4 fun ρ => (de_op dr_ix (za6 (i := 0)) za7))) (za4 fun ρ => za7)) (zb8 (za4 fun ρ => (za2 (i := 5))) (zb8 (za4 fun ρ => (de_c1 zx6 (DE.dk (de_op dr_ix (za6 (i := 0)) za7)))) (zb8 (za4 fun ρ => (za2 (i := 2))) zm1))))))))
   (zf0 fun ρ => zd3))
  (zf0 fun ρ => (ze2 (ze1 (za1 (za2 (i := 3)) (za1 (za2 (i := 4)) zb0)))))))))))))) h
end
theorem sc__law_same : FnScope ["_law_found", "_law_due"] ["_law_found", "_law_due"] (zb3 zl1) := ⟨rfl, rfl, rfl, by decide +kernel, rfl, by decide +kernel, by decide +kernel⟩
section
variable {P : Program} {w : World} {K : PySem.W.Frag} {mg : Str → Option Value} {base : Heap} {cl : Str → Addr}
set_option maxHeartbeats 4000000 in
theorem ok__law_same {f : Addr} {fd : FuncData} (F : Fun K "_law_same" "_law_same" zl1 f fd) {f__law_whole : Addr} {fd__law_whole : FuncData} (d__law_whole : Df K mg "_law_whole" zj4 ["_law_found"] f__law_whole fd__law_whole) (G__law_whole : FnOk P w K mg base CX0 1 f__law_whole fd__law_whole ["_law_found"] (spD K zj8)) (z_isinstance : mg "isinstance" = none) (z_tuple : mg "tuple" = none) (z_all : mg "all" = none) (z_str : mg "str" = none) : FnOk P w K mg base CX0 2 f fd ["_law_found", "_law_due"] (spD K zo6) := by
 refine F.ok sc__law_same (fun vs H Q E h => zn5 (fun ds d e => zh0 e) h) (fun cdv A outer s H vs Q E hr h => ?_)
 refine ⟨_, (@za5 _ _ _ _ _ (@ps_if _ _ _ _ _ _ _ _ (PW.pt (pw_or (pt_not (pt_val (zg3 (call_isiB (K := K) rfl) rfl z_isinstance boot_isinstance (@za0 _ _ _ _ _ (pv 0) (@za0 _ _ _ _ _ (ya0 (v := .ty "tuple") rfl z_tuple boot_tuple rfl) za3 (by rfl)) (by rfl))))) (yi5 (zb7 (ya3 (K := K) rfl hr.units) (pv 0) (pv 1) (zc4 _)))))
  (@za9 _ _ _ (@zc8 _ _ _ _ pe_bl))
  zd4)
  (@za9 _ _ _ (@zc8 _ _ _ _ (zg3 (call_allK (K := K) rfl rfl) rfl z_all boot_all (@za0 _ _ _ _ _ (zs5 (N := ["_law_part"]) (ix := [none]) (zj2 rfl (by decide +kernel) (by decide +kernel) (by rfl) rfl (by decide +kernel) (by rfl)) rfl (zj3 (K := K) rfl (pv 0)) (zk8 rfl) fun _ _ _ _ => ⟨(ze8 (i := 0) (show List.Nodup [Str.ofString "_law_part"] by decide +kernel) rfl (Or.inl rfl) (.inr rfl)), zw5, (pe_or (zg3 call_isiK rfl z_isinstance boot_isinstance (@za0 _ _ _ _ _ (pv 0) (@za0 _ _ _ _ _ (ya0 (v := .ty "str") rfl z_str boot_str rfl) za3 (by rfl)) (by rfl))) (yj7 (zc3 (G__law_whole.mono (by decide)) hr rfl d__law_whole.m d__law_whole.fn.kp d__law_whole.b .nil pass0 (@za0 _ _ _ _ _ (pv 0) za3 (by rfl)))))⟩) za3 (by rfl)))))), ?_⟩
 exact d_fn (n := 2) rfl (fun ρ => (zd5 (ds_if (dt_or (dt_not (dt_val (de_isiB (za2 (i := 0))))) (zc2 db_ne (za6 (i := 0)) (za6 (i := 1))))
  (ze2 de_bl)
  zd3)
  (ze2 (de_c1 dc_all (DE.dk (DO.de (zs1 (ix := [none]) (by decide) (zv5 (za6 (i := 0))) zb5 ye4 (de_or (yj6 (za2 (i := 0))) (zf9 (za1 (za2 (i := 0)) zb0)))))))))) h
end
theorem sc_law : FnScope ["_law_script", "_law_program_here", "_law_rows", "_law_main", "_law_other", "_law_names_here", "_law_due", "_law_deed", "_law_k", "_law_told"] ["_law_script"] (zb3 s_law) := ⟨rfl, rfl, rfl, by decide +kernel, rfl, by decide +kernel, by decide +kernel⟩
section
variable {P : Program} {w : World} {K : PySem.W.Frag} {mg : Str → Option Value} {base : Heap} {cl : Str → Addr}
set_option maxHeartbeats 4000000 in
theorem ok_law (hlaw : ∀ ns : List Int, ns.length ≤ 63 → ∃ S, p_law [.list (ns.map .int)] [] = some (.ok (.bool true), S)) {f : Addr} {fd : FuncData} (F : Fun K "law" "law" s_law f fd) {f__law_program : Addr} {fd__law_program : FuncData} (d__law_program : Df K mg "_law_program" zh4 ["_law_script"] f__law_program fd__law_program) (G__law_program : FnOk P w K mg base CX0 9 f__law_program fd__law_program ["_law_script"] (spD K zm8)) {f_made : Addr} {fd_made : FuncData} (d_made : Df K mg "made" zx4 ["program"] f_made fd_made) (G_made : FnOk P w K mg base CX0 13 f_made fd_made ["program"] (sp0 K cl yh8)) {f__law_names : Addr} {fd__law_names : FuncData} (d__law_names : Df K mg "_law_names" zj6 ["_law_body"] f__law_names fd__law_names) (G__law_names : FnOk P w K mg base CX0 10 f__law_names fd__law_names ["_law_body"] (sp0 K cl zq8)) {f__law_rows_of : Addr} {fd__law_rows_of : FuncData} (d__law_rows_of : Df K mg "_law_rows_of" zg0 ["_law_told", "_law_line", "_law_at", "_law_names_here"] f__law_rows_of fd__law_rows_of) (G__law_rows_of : FnOk P w K mg base CX0 9 f__law_rows_of fd__law_rows_of ["_law_told", "_law_line", "_law_at", "_law_names_here"] (sp0 K cl (ze9 9))) {f__law_expressions : Addr} {fd__law_expressions : FuncData} (d__law_expressions : Df K mg "_law_expressions" ze0 ["_law_deed"] f__law_expressions fd__law_expressions) (G__law_expressions : FnOk P w K mg base CX0 1 f__law_expressions fd__law_expressions ["_law_deed"] (spD K zg7)) {f__law_last_row : Addr} {fd__law_last_row : FuncData} (d__law_last_row : Df K mg "_law_last_row" zg6 ["_law_deed", "_law_names_here", "_law_goal"] f__law_last_row fd__law_last_row) (G__law_last_row : FnOk P w K mg base CX0 1 f__law_last_row fd__law_last_row ["_law_deed", "_law_names_here", "_law_goal"] (sp0 K cl zo2)) {f__law_same : Addr} {fd__law_same : FuncData} (d__law_same : Df K mg "_law_same" zl1 ["_law_found", "_law_due"] f__law_same fd__law_same) (G__law_same : FnOk P w K mg base CX0 2 f__law_same fd__law_same ["_law_found", "_law_due"] (spD K zo6)) (z_isinstance : mg "isinstance" = none) (z_list : mg "list" = none) (z_len : mg "len" = none) (z_enumerate : mg "enumerate" = none) (z_all : mg "all" = none) (z_range : mg "range" = none) : FnOk P w K mg base CX0 14 f fd ["_law_script"] (yh1 K) := by
 refine F.ok sc_law (fun vs H Q E h => ?_) (fun cdv A outer s H vs Q E hr h => ?_)
 · obtain ⟨a, ns, rfl, _⟩ := h
   rfl
 obtain ⟨a, ns, rfl, hS, h63, q⟩ := h
 obtain ⟨Sf, hl⟩ := hlaw ns h63
 refine ⟨_, (@za5 _ _ _ _ _ (@zf2 _ _ 1 _ _ _ _ sc_law.nd rfl (Or.inl rfl) (zc3 (G__law_program.mono (by decide)) hr rfl d__law_program.m d__law_program.fn.kp d__law_program.b .nil pass0 (@za0 _ _ _ _ _ (pv 0) za3 (by rfl))) (by rfl) (by first | exact .inl rfl | exact .inr rfl))
  (@za5 _ _ _ _ _ (@zf2 _ _ 2 _ _ _ _ sc_law.nd rfl (Or.inr rfl) (zc3 (G_made.mono (by decide)) hr rfl d_made.m d_made.fn.kp d_made.b .nil pass0 (@za0 _ _ _ _ _ (pv 1) za3 (by rfl))) (by rfl) (by first | exact .inl rfl | exact .inr rfl))
  (@za5 _ _ _ _ _ (@ps_if _ _ _ _ _ _ _ _ (PW.pt (pw_or (zb7 (ya3 (K := K) rfl hr.units) (pv 1) (zc3 (G__law_program.mono (by decide)) hr rfl d__law_program.m d__law_program.fn.kp d__law_program.b .nil pass0 (@za0 _ _ _ _ _ (pv 0) za3 (by rfl))) (zc4 _)) (yi5 (pt_not (pt_val (zg3 (call_isiB (K := K) rfl) rfl z_isinstance boot_isinstance (@za0 _ _ _ _ _ (pv 2) (@za0 _ _ _ _ _ (ya0 (v := .ty "list") rfl z_list boot_list rfl) za3 (by rfl)) (by rfl))))))))
   (@za9 _ _ _ (@zc8 _ _ _ _ pe_bl))
   zd4)
  (@za5 _ _ _ _ _ (@zf2 _ _ 3 _ _ _ _ sc_law.nd rfl (Or.inl rfl) (pe_ix (zb4 (K := K) rfl) (zs5 (N := ["_law_one"]) (ix := [none]) (zj2 rfl (by decide +kernel) (by decide +kernel) (by rfl) rfl (by decide +kernel) (by rfl)) rfl (zj3 (K := K) rfl (pv 1)) (zk8 rfl) fun _ _ _ _ => ⟨(ze8 (i := 0) (show List.Nodup [Str.ofString "_law_one"] by decide +kernel) rfl (Or.inl rfl) (.inr rfl)), (zu6 (zb7 (zd7 (K := K) rfl hr.units) (pe_ix (zb4 (K := K) rfl) (pv 0) za8 (fun _ _ => rfl)) zb1 (zc4 _))), (pv 0)⟩) za8 (fun _ _ => rfl)) (by rfl) (by first | exact .inl rfl | exact .inr rfl))
  (@za5 _ _ _ _ _ (@zf2 _ _ 4 _ _ _ _ sc_law.nd rfl (Or.inl rfl) (pe_ix (zb4 (K := K) rfl) (zs5 (N := ["_law_one"]) (ix := [none]) (zj2 rfl (by decide +kernel) (by decide +kernel) (by rfl) rfl (by decide +kernel) (by rfl)) rfl (zj3 (K := K) rfl (pv 1)) (zk8 rfl) fun _ _ _ _ => ⟨(ze8 (i := 0) (show List.Nodup [Str.ofString "_law_one"] by decide +kernel) rfl (Or.inl rfl) (.inr rfl)), (zu6 (zb7 (ya3 (K := K) rfl hr.units) (pe_ix (zb4 (K := K) rfl) (pv 0) za8 (fun _ _ => rfl)) zb1 (zc4 _))), (pv 0)⟩) za8 (fun _ _ => rfl)) (by rfl) (by first | exact .inl rfl | exact .inr rfl))
  (@za5 _ _ _ _ _ (@zf2 _ _ 5 _ _ _ _ sc_law.nd rfl (Or.inl rfl) (zc3 (G__law_names.mono (by decide)) hr rfl d__law_names.m d__law_names.fn.kp d__law_names.b .nil pass0 (@za0 _ _ _ _ _ (pe_ix (zb4 (K := K) rfl) (pv 3) za8 (fun _ _ => rfl)) za3 (by rfl))) (by rfl) (by first | exact .inl rfl | exact .inr rfl))
  (@za5 _ _ _ _ _ (@zf2 _ _ 6 _ _ _ _ sc_law.nd rfl (Or.inr rfl) (@ze7 _ _ _ _ za3) (by rfl) (by first | exact .inl rfl | exact .inr rfl))
  (@za5 _ _ _ _ _ (@zr1 _ _ _ _ _ _ _ _ PassesOwn.never rfl (zj3 (K := K) rfl (pe_ix (zb4 (K := K) rfl) (pv 3) za8 (fun _ _ => rfl))) (ze8 (i := 7) sc_law.nd rfl (Or.inl rfl))
   (@za5 _ _ _ _ _ (@zc7 _ _ _ _ (zp2 (K := K) rfl PySem.F.plainAttrs_list PySem.F.slot_list_append PySem.F.type_list_append zq4 (pv 6) (@za0 _ _ _ _ _ (@zb9 _ _ _ _ _ (@za0 _ _ _ _ _ zb1 (@za0 _ _ _ _ _ (pe_ix (zb4 (K := K) rfl) (pv 7) za8 (fun _ _ => rfl)) za3 (by rfl)) (by rfl))) za3 (by rfl))) (by rfl))
  (@za5 _ _ _ _ _ (@zr1 _ _ _ _ _ _ _ _ PassesOwn.never rfl (pi_enumK (K := K) rfl rfl z_enumerate (@za0 _ _ _ _ _ (zc3 (G__law_expressions.mono (by decide)) hr rfl d__law_expressions.m d__law_expressions.fn.kp d__law_expressions.b .nil pass0 (@za0 _ _ _ _ _ (pv 7) za3 (by rfl))) za3 (by rfl))) (zz2 (K := K) (n := 2) rfl rfl (zl9 (ze8 (i := 8) sc_law.nd rfl (Or.inl rfl)) (zl9 (ze8 (i := 9) sc_law.nd rfl (Or.inl rfl)) ya2)))
   (@za9 _ _ _ (@zc7 _ _ _ _ (zp2 (K := K) rfl PySem.F.plainAttrs_list PySem.F.slot_list_extend PySem.F.type_list_extend zt8 (pv 6) (@za0 _ _ _ _ _ (zc3 (G__law_rows_of.mono (by decide)) hr rfl d__law_rows_of.m d__law_rows_of.fn.kp d__law_rows_of.b .nil pass0 (@za0 _ _ _ _ _ (pv 9) (@za0 _ _ _ _ _ (pe_ix (zb4 (K := K) rfl) (pv 7) za8 (fun _ _ => rfl)) (@za0 _ _ _ _ _ (@pe_op _ _ _ _ _ _ _ _ (ze3 (K := K) rfl) (@pe_op _ _ _ _ _ _ _ _ (ze3 (K := K) rfl) (zg3 (zk7 (K := K) rfl) rfl z_len PySem.boot_len (@za0 _ _ _ _ _ (pv 5) za3 (by rfl))) za8) (pv 8)) (@za0 _ _ _ _ _ (pv 5) za3 (by rfl)) (by rfl)) (by rfl)) (by rfl))) za3 (by rfl))) (by rfl))) (by intro _; rfl))
  (@za9 _ _ _ (@zc7 _ _ _ _ (zp2 (K := K) rfl PySem.F.plainAttrs_list PySem.F.slot_list_append PySem.F.type_list_append zq4 (pv 6) (@za0 _ _ _ _ _ (zc3 (G__law_last_row.mono (by decide)) hr rfl d__law_last_row.m d__law_last_row.fn.kp d__law_last_row.b .nil pass0 (@za0 _ _ _ _ _ (pv 7) (@za0 _ _ _ _ _ (pv 5) (@za0 _ _ _ _ _ (@pe_op _ _ _ _ _ _ _ _ yi3 (zg3 (zk7 (K := K) rfl) rfl z_len PySem.boot_len (@za0 _ _ _ _ _ (pv 2) za3 (by rfl))) za8) za3 (by rfl)) (by rfl)) (by rfl))) za3 (by rfl))) (by rfl))))) (by intro _; rfl))
  (@za5 _ _ _ _ _ (@zc7 _ _ _ _ (zp2 (K := K) rfl PySem.F.plainAttrs_list PySem.F.slot_list_extend PySem.F.type_list_extend zt8 (pv 6) (@za0 _ _ _ _ _ (@ze7 _ _ _ _ (@za0 _ _ _ _ _ (@zb9 _ _ _ _ _ (@za0 _ _ _ _ _ zb1 (@za0 _ _ _ _ _ (pe_ix (zb4 (K := K) rfl) (pv 3) za8 (fun _ _ => rfl)) za3 (by rfl)) (by rfl))) (@za0 _ _ _ _ _ (@zb9 _ _ _ _ _ (@za0 _ _ _ _ _ zb1 (@za0 _ _ _ _ _ (pe_ix (zb4 (K := K) rfl) (pv 4) za8 (fun _ _ => rfl)) za3 (by rfl)) (by rfl))) za3 (by rfl)) (by rfl))) za3 (by rfl))) (by rfl))
  (@za9 _ _ _ (@zc8 _ _ _ _ (pe_and (pe_cmpR (r := rEqB K false) (zd7 (K := K) rfl hr.units) (zg3 (zk7 (K := K) rfl) rfl z_len PySem.boot_len (@za0 _ _ _ _ _ (pv 2) za3 (by rfl))) (zg3 (zk7 (K := K) rfl) rfl z_len PySem.boot_len (@za0 _ _ _ _ _ (pv 6) za3 (by rfl))) (zc4 _)) (yj7 (zg3 (call_allK (K := K) rfl rfl) rfl z_all boot_all (@za0 _ _ _ _ _ (zs5 (N := ["_law_rows", "_law_due", "_law_k"]) (ix := [some 2, some 6, none]) (zj2 rfl (by decide +kernel) (by decide +kernel) (by rfl) rfl (by decide +kernel) (by rfl)) rfl (pi_range1 rfl z_range (@za0 _ _ _ _ _ (zg3 (zk7 (K := K) rfl) rfl z_len PySem.boot_len (@za0 _ _ _ _ _ (pv 6) za3 (by rfl))) za3 (by rfl))) (zk8 rfl) fun _ _ _ _ => ⟨(ze8 (i := 2) (show List.Nodup [Str.ofString "_law_rows", Str.ofString "_law_due", Str.ofString "_law_k"] by decide +kernel) rfl (Or.inl rfl) (.inr rfl)), zw5, (zc3 (G__law_same.mono (by decide)) hr rfl d__law_same.m d__law_same.fn.kp d__law_same.b .nil pass0 (@za0 _ _ _ _ _ (pe_ix (zb4 (K := K) rfl) (pv 0) (pv 2) (fun _ _ => rfl)) (@za0 _ _ _ _ _ (pe_ix (zb4 (K := K) rfl) (pv 1) (pv 2) (fun _ _ => rfl)) za3 (by rfl)) (by rfl)))⟩) za3 (by rfl)))))))))))))))), ?_⟩
 exact s_fn0 (E := E) (n := 10) (cl := cl) rfl ((zc9 (zf0 fun ρ => (zh5 (zf9 (za1 (za2 (i := 0)) zb0)) zb5))
  (zc9 (zw7 (zk9 (zd8 fun ρ => (za1 (za2 (i := 1)) zb0))) (fun ρ => zb5))
  (zc9 (zf0 fun ρ => (ds_if (dt_or (zc2 db_ne (za6 (i := 1)) (DE.dk (zf9 (za1 (za2 (i := 0)) zb0)))) (dt_not (dt_val (de_isiB (za2 (i := 2))))))
   (ze2 de_bl)
   zd3))
  (zc9 (zf0 fun ρ => (zh5 (de_op dr_ix (DE.dk (DO.de (zs1 (ix := [none]) (by decide) (zv5 (za6 (i := 1))) zb5 (zc2 db_eq (DE.dk (de_op dr_ix (za6 (i := 0)) za7)) (DE.dk zb2)) (za2 (i := 0))))) za7) zb5))
  (zc9 (zf0 fun ρ => (zh5 (de_op dr_ix (DE.dk (DO.de (zs1 (ix := [none]) (by decide) (zv5 (za6 (i := 1))) zb5 (zc2 db_ne (DE.dk (de_op dr_ix (za6 (i := 0)) za7)) (DE.dk zb2)) (za2 (i := 0))))) za7) zb5))
  (zc9 (zw7 (zk9 (zd8 fun ρ => (za1 (de_op dr_ix (za6 (i := 3)) za7) zb0))) (fun ρ => zb5))
  (zc9 (zw7 (yf9 (zd8 fun ρ => zb0)) (fun ρ => zb5))
  (zc9 (zw0 (zr0 fun ρ => (zs6 (de_op dr_ix (za6 (i := 3)) za7))) (fun ρ => zb5)
   (zc9 (zs9 (za4 fun ρ => (za2 (i := 6))) (za4 fun ρ => (ze1 (za1 zb2 (za1 (de_op dr_ix (za6 (i := 7)) za7) zb0)))))
  (zc9 (zw0 (zr0 fun ρ => (di_enum (za1 (zf9 (za1 (za2 (i := 7)) zb0)) zb0))) (fun ρ => (ye1 (n := 2) (zl7 zb5 (zl7 zb5 zz4))))
   (ss_extend (za4 fun ρ => (za2 (i := 6))) (zk9 (zb8 (za4 fun ρ => (za2 (i := 9))) (zb8 (za4 fun ρ => (de_op dr_ix (za6 (i := 7)) za7)) (zb8 (se_op (fun ρ => zg9) (se_op (fun ρ => zg9) (ye0 (za4 fun ρ => (za2 (i := 5)))) (za4 fun ρ => za7)) (za4 fun ρ => (za2 (i := 8)))) (zb8 (za4 fun ρ => (za2 (i := 5))) zm1)))))))
  (zs9 (za4 fun ρ => (za2 (i := 6))) (zk9 (zd8 fun ρ => (za1 (za2 (i := 7)) (za1 (za2 (i := 5)) (za1 (de_op yh6 (DE.dk (de_c1 zx6 (za6 (i := 2)))) za7) zb0)))))))))
  (zc9 (ss_extend (za4 fun ρ => (za2 (i := 6))) (za4 fun ρ => (DO.de (zi7 (za1 (ze1 (za1 zb2 (za1 (de_op dr_ix (za6 (i := 3)) za7) zb0))) (za1 (ze1 (za1 zb2 (za1 (de_op dr_ix (za6 (i := 4)) za7) zb0))) zb0))))))
  (zw6 (se_and (se_eq (neg := false) (za4 fun ρ => (de_c1 zx6 (za6 (i := 2)))) (ye0 (za4 fun ρ => (za2 (i := 6))))) (se_c1 (fun ρ => dc_all) (se_comp (ix := [some 2, some 6, none]) (by decide) (sip_rng1 (zb8 (ye0 (za4 fun ρ => (za2 (i := 6)))) zm1)) (fun ρ => zb5) (zh1 fun ρ => ye4) (se_callD (zb8 (za4 fun ρ => (de_op dr_ix (za6 (i := 0)) (za2 (i := 2)))) (zb8 (se_ix (za4 fun ρ => (za2 (i := 1))) (za4 fun ρ => (za2 (i := 2)))) zm1))))))))))))))))) ⟨[], H, [], [.list (ns.map .int)], .bool true, Sf, .refl _, sr_nil, .cons (.lst hS (.ints ns)) .nil, hl, fun v ρ' G' H' g s dv => by cases dv; exact q H'⟩
end
inductive Tr where
 | num (v : Int) | sig (k : Fin 3) | nam (x : Str) | box (t : Tr) | op (k : Fin 7) (a b : Tr)
noncomputable def sgW : Fin 3 → Str
 | 0 => Str.ofString "lane" | 1 => Str.ofString "lanes" | 2 => Str.ofString "mine"
noncomputable def opW : Fin 7 → Str
 | 0 => Str.ofString "+" | 1 => Str.ofString "-" | 2 => Str.ofString "*" | 3 => Str.ofString "div" | 4 => Str.ofString "rem" | 5 => Str.ofString "<" | 6 => Str.ofString "="
noncomputable def tw : Tr → W
 | .num v => .tuple [.str "num", .int v]
 | .sig k => .tuple [.str (sgW k)]
 | .nam x => .tuple [.str "name", .str x]
 | .box t => .tuple [.str "box", tw t]
 | .op k a b => .tuple [.str (opW k), tw a, tw b]
noncomputable def dep : Tr → Nat
 | .box t => dep t + 1
 | .op _ a b => max (dep a) (dep b) + 1
 | _ => 0
noncomputable def cnt : Tr → Nat
 | .box t => cnt t + 1
 | .op _ a b => cnt a + cnt b + 1
 | _ => 1
noncomputable def lvs : Tr → List Tr
 | .box t => lvs t
 | .op _ a b => lvs a ++ lvs b
 | t => [t]
theorem zt0 : ∀ t, (lvs t).length ≤ cnt t
 | .num _ => by simp [lvs, cnt]
 | .sig _ => by simp [lvs, cnt]
 | .nam _ => by simp [lvs, cnt]
 | .box t => by have := zt0 t; simp [lvs, cnt]; omega
 | .op _ a b => by have := zt0 a; have := zt0 b; simp [lvs, cnt]; omega
theorem sg1 : ∀ k, decide (sgW k = Str.ofString "num") = false := by decide +kernel
theorem sg2 : ∀ k, decide (sgW k = Str.ofString "name") = false := by decide +kernel
theorem sg3 : ∀ k, decide (sgW k = Str.ofString "box") = false := by decide +kernel
theorem sg4 : ∀ k, zx5 (.str (sgW k)) (.tuple [.str "+", .str "-", .str "*", .str "div", .str "rem", .str "<", .str "="]) = some true := by decide +kernel
theorem sg5 : ∀ k, cIn (.str (sgW k)) (.tuple [.str "lane", .str "lanes", .str "mine"]) = some true := by decide +kernel
theorem op1 : ∀ k, decide (opW k = Str.ofString "num") = false := by decide +kernel
theorem op2 : ∀ k, decide (opW k = Str.ofString "name") = false := by decide +kernel
theorem op3 : ∀ k, decide (opW k = Str.ofString "box") = false := by decide +kernel
theorem op4 : ∀ k, zx5 (.str (opW k)) (.tuple [.str "+", .str "-", .str "*", .str "div", .str "rem", .str "<", .str "="]) = some false := by decide +kernel
theorem op5 : ∀ k, cIn (.str (opW k)) (.tuple [.str "lane", .str "lanes", .str "mine"]) = some false := by decide +kernel
theorem nu1 : decide (Str.ofString "num" = Str.ofString "box") = false := by decide +kernel
theorem nu2 : decide (Str.ofString "num" = Str.ofString "name") = false := by decide +kernel
theorem nu4 : zx5 (.str "num") (.tuple [.str "+", .str "-", .str "*", .str "div", .str "rem", .str "<", .str "="]) = some true := by decide +kernel
theorem na1 : decide (Str.ofString "name" = Str.ofString "box") = false := by decide +kernel
theorem na2 : decide (Str.ofString "name" = Str.ofString "num") = false := by decide +kernel
theorem na4 : zx5 (.str "name") (.tuple [.str "+", .str "-", .str "*", .str "div", .str "rem", .str "<", .str "="]) = some true := by decide +kernel
theorem bx1 : decide (Str.ofString "box" = Str.ofString "num") = false := by decide +kernel
theorem bx2 : decide (Str.ofString "box" = Str.ofString "name") = false := by decide +kernel
theorem bx5 : cIn (.str "box") (.tuple [.str "lane", .str "lanes", .str "mine"]) = some false := by decide +kernel
theorem yg2 {pf : List W → Option W} {e x : W} {ds es : List W} (h : pf [x] = some (.list es)) (hz : ds.length + es.length ≤ 9000) : zl5 pf [.val e, .own ds, .val x] = some (.nx [.val e, .own (ds ++ es), .val x]) := by
 have hz := sz _ hz
 first | rfl | simp only [zl5, zw2, uD, Nat.reduceAdd, Nat.reduceSub, reduceIte, Nat.reduceEqDiff, List.replicate, h, if_pos hz]
theorem zu4 : ∀ (t : Tr) (n : Nat), dep t < n → cnt t ≤ 500 → zf3 n [tw t] = some (.list ((lvs t).map tw))
 | _, 0, h, _ => absurd h (Nat.not_lt_zero _)
 | .num v, n + 1, _, _ => by
  have z1 := sz 1 (by decide)
  first | rfl | simp only [zf3, tw, lvs, uD, Nat.reduceAdd, Nat.reduceSub, reduceIte, Nat.reduceEqDiff, List.replicate, at0, nu1, nu4, if_pos z1]
 | .sig k, n + 1, _, _ => by
  have z1 := sz 1 (by decide)
  first | rfl | simp only [zf3, tw, lvs, uD, Nat.reduceAdd, Nat.reduceSub, reduceIte, Nat.reduceEqDiff, List.replicate, at0, sg3, sg4, if_pos z1]
 | .nam x, n + 1, _, _ => by
  have z1 := sz 1 (by decide)
  first | rfl | simp only [zf3, tw, lvs, uD, Nat.reduceAdd, Nat.reduceSub, reduceIte, Nat.reduceEqDiff, List.replicate, at0, na1, na4, if_pos z1]
 | .box t, n + 1, h, hc => by
  have z0 := sz 0 (by decide)
  have ih := zu4 t n (by simp only [dep] at h; omega) (by simp only [cnt] at hc; omega)
  have l := zt0 t
  have st : ∀ e, zl5 (zf3 n) [.val e, .own [], .val (tw t)] = some (.nx [.val e, .own ([] ++ (lvs t).map tw), .val (tw t)]) := fun e => yg2 ih (by simp only [cnt] at hc; simp; omega)
  first | rfl | simp only [zf3, tw, lvs, uD, Nat.reduceAdd, Nat.reduceSub, reduceIte, Nat.reduceEqDiff, List.replicate, at0, decide_true, Bool.not_true, dSlT, cut_1, if_pos z0, zk4, st]
 | .op k a b, n + 1, h, hc => by
  have z0 := sz 0 (by decide)
  have iha := zu4 a n (by simp only [dep] at h; omega) (by simp only [cnt] at hc; omega)
  have ihb := zu4 b n (by simp only [dep] at h; omega) (by simp only [cnt] at hc; omega)
  have la := zt0 a
  have lb := zt0 b
  have s1 : ∀ e, zl5 (zf3 n) [.val e, .own [], .val (tw a)] = some (.nx [.val e, .own ([] ++ (lvs a).map tw), .val (tw a)]) := fun e => yg2 iha (by simp only [cnt] at hc; simp; omega)
  have s2 : ∀ e, zl5 (zf3 n) [.val e, .own ((lvs a).map tw), .val (tw b)] = some (.nx [.val e, .own ((lvs a).map tw ++ (lvs b).map tw), .val (tw b)]) := fun e => yg2 ihb (by simp only [cnt] at hc; simp; omega)
  first | rfl | simp only [zf3, tw, lvs, uD, Nat.reduceAdd, Nat.reduceSub, reduceIte, Nat.reduceEqDiff, List.replicate, at0, op3, op4, dSlT, cut_1, if_pos z0, zk4, s1, s2, List.map_append]
noncomputable def nmL (l : List Tr) : List Str := l.filterMap fun t => match t with | .nam x => some x | _ => none
noncomputable def nms (t : Tr) : List Str := nmL (lvs t)
theorem nms_run : ∀ (l : List Tr), zi3 (dgName 0) (dCmp cEq (dOp gIx (dPk 0) (dC (.int (0)))) (dC (.str "name"))) (dOp gIx (dPk 0) (dC (.int (1)))) [.no] (l.map tw) = some ((nmL l).map .str)
 | [] => rfl
 | t :: l => by
  have ih := nms_run l
  cases t with
  | num v => simp only [List.map_cons, zi3, tw, uD, Nat.reduceAdd, Nat.reduceSub, reduceIte, Nat.reduceEqDiff, List.replicate, at0, nu2, ih]; simp [nmL]
  | sig k => simp only [List.map_cons, zi3, tw, uD, Nat.reduceAdd, Nat.reduceSub, reduceIte, Nat.reduceEqDiff, List.replicate, at0, sg2, ih]; simp [nmL]
  | nam x => simp only [List.map_cons, zi3, tw, uD, Nat.reduceAdd, Nat.reduceSub, reduceIte, Nat.reduceEqDiff, List.replicate, at0, at1, decide_true, ih]; simp [nmL]
  | box t => simp only [List.map_cons, zi3, tw, uD, Nat.reduceAdd, Nat.reduceSub, reduceIte, Nat.reduceEqDiff, List.replicate, at0, bx2, ih]; simp [nmL]
  | op k a b => simp only [List.map_cons, zi3, tw, uD, Nat.reduceAdd, Nat.reduceSub, reduceIte, Nat.reduceEqDiff, List.replicate, at0, op2, ih]; simp [nmL]
theorem q_set : decide (Str.ofString "set" = Str.ofString "while") = false ∧ decide (Str.ofString "set" = Str.ofString "if") = false ∧ decide (Str.ofString "set" = Str.ofString "break") = false ∧ decide (Str.ofString "set" = Str.ofString "again") = false ∧ decide (Str.ofString "set" = Str.ofString "put") = false ∧ decide (Str.ofString "set" = Str.ofString "call") = false ∧ decide (Str.ofString "set" = Str.ofString "join") = false ∧ decide (Str.ofString "set" = Str.ofString "tell") = false ∧ decide (Str.ofString "set" = Str.ofString "return") = false ∧ decide (Str.ofString "set" = Str.ofString "meet") = false ∧ decide (Str.ofString "set" = Str.ofString "stop") = false := by decide +kernel
theorem q_put : decide (Str.ofString "put" = Str.ofString "while") = false ∧ decide (Str.ofString "put" = Str.ofString "if") = false ∧ decide (Str.ofString "put" = Str.ofString "break") = false ∧ decide (Str.ofString "put" = Str.ofString "again") = false ∧ decide (Str.ofString "put" = Str.ofString "set") = false ∧ decide (Str.ofString "put" = Str.ofString "call") = false ∧ decide (Str.ofString "put" = Str.ofString "join") = false ∧ decide (Str.ofString "put" = Str.ofString "tell") = false ∧ decide (Str.ofString "put" = Str.ofString "return") = false ∧ decide (Str.ofString "put" = Str.ofString "meet") = false ∧ decide (Str.ofString "put" = Str.ofString "stop") = false := by decide +kernel
theorem q_tell : decide (Str.ofString "tell" = Str.ofString "while") = false ∧ decide (Str.ofString "tell" = Str.ofString "if") = false ∧ decide (Str.ofString "tell" = Str.ofString "break") = false ∧ decide (Str.ofString "tell" = Str.ofString "again") = false ∧ decide (Str.ofString "tell" = Str.ofString "put") = false ∧ decide (Str.ofString "tell" = Str.ofString "set") = false ∧ decide (Str.ofString "tell" = Str.ofString "call") = false ∧ decide (Str.ofString "tell" = Str.ofString "join") = false ∧ decide (Str.ofString "tell" = Str.ofString "return") = false ∧ decide (Str.ofString "tell" = Str.ofString "meet") = false ∧ decide (Str.ofString "tell" = Str.ofString "stop") = false := by decide +kernel
theorem q_join : decide (Str.ofString "join" = Str.ofString "while") = false ∧ decide (Str.ofString "join" = Str.ofString "if") = false ∧ decide (Str.ofString "join" = Str.ofString "break") = false ∧ decide (Str.ofString "join" = Str.ofString "again") = false ∧ decide (Str.ofString "join" = Str.ofString "put") = false ∧ decide (Str.ofString "join" = Str.ofString "set") = false ∧ decide (Str.ofString "join" = Str.ofString "call") = false ∧ decide (Str.ofString "join" = Str.ofString "tell") = false ∧ decide (Str.ofString "join" = Str.ofString "return") = false ∧ decide (Str.ofString "join" = Str.ofString "meet") = false ∧ decide (Str.ofString "join" = Str.ofString "stop") = false := by decide +kernel
theorem q_meet : decide (Str.ofString "meet" = Str.ofString "while") = false ∧ decide (Str.ofString "meet" = Str.ofString "if") = false ∧ decide (Str.ofString "meet" = Str.ofString "break") = false ∧ decide (Str.ofString "meet" = Str.ofString "again") = false ∧ decide (Str.ofString "meet" = Str.ofString "put") = false ∧ decide (Str.ofString "meet" = Str.ofString "set") = false ∧ decide (Str.ofString "meet" = Str.ofString "call") = false ∧ decide (Str.ofString "meet" = Str.ofString "join") = false ∧ decide (Str.ofString "meet" = Str.ofString "tell") = false ∧ decide (Str.ofString "meet" = Str.ofString "return") = false ∧ decide (Str.ofString "meet" = Str.ofString "stop") = false := by decide +kernel
theorem q_stop : decide (Str.ofString "stop" = Str.ofString "while") = false ∧ decide (Str.ofString "stop" = Str.ofString "if") = false ∧ decide (Str.ofString "stop" = Str.ofString "break") = false ∧ decide (Str.ofString "stop" = Str.ofString "again") = false ∧ decide (Str.ofString "stop" = Str.ofString "put") = false ∧ decide (Str.ofString "stop" = Str.ofString "set") = false ∧ decide (Str.ofString "stop" = Str.ofString "call") = false ∧ decide (Str.ofString "stop" = Str.ofString "join") = false ∧ decide (Str.ofString "stop" = Str.ofString "tell") = false ∧ decide (Str.ofString "stop" = Str.ofString "return") = false ∧ decide (Str.ofString "stop" = Str.ofString "meet") = false := by decide +kernel
theorem q_call : decide (Str.ofString "call" = Str.ofString "while") = false ∧ decide (Str.ofString "call" = Str.ofString "if") = false ∧ decide (Str.ofString "call" = Str.ofString "break") = false ∧ decide (Str.ofString "call" = Str.ofString "again") = false ∧ decide (Str.ofString "call" = Str.ofString "put") = false ∧ decide (Str.ofString "call" = Str.ofString "set") = false ∧ decide (Str.ofString "call" = Str.ofString "join") = false ∧ decide (Str.ofString "call" = Str.ofString "tell") = false ∧ decide (Str.ofString "call" = Str.ofString "return") = false ∧ decide (Str.ofString "call" = Str.ofString "meet") = false ∧ decide (Str.ofString "call" = Str.ofString "stop") = false := by decide +kernel
theorem i1 : cIn (.str "set") (.tuple [.str "tell", .str "if", .str "while", .str "return"]) = some false ∧ cIn (.str "put") (.tuple [.str "tell", .str "if", .str "while", .str "return"]) = some false ∧ cIn (.str "tell") (.tuple [.str "tell", .str "if", .str "while", .str "return"]) = some true ∧ cIn (.str "join") (.tuple [.str "tell", .str "if", .str "while", .str "return"]) = some false ∧ cIn (.str "meet") (.tuple [.str "tell", .str "if", .str "while", .str "return"]) = some false ∧ cIn (.str "stop") (.tuple [.str "tell", .str "if", .str "while", .str "return"]) = some false ∧ cIn (.str "call") (.tuple [.str "tell", .str "if", .str "while", .str "return"]) = some false := by decide +kernel
theorem i2 : cIn (.str "set") (.tuple [.str "set", .str "call", .str "join"]) = some true ∧ cIn (.str "put") (.tuple [.str "set", .str "call", .str "join"]) = some false ∧ cIn (.str "tell") (.tuple [.str "set", .str "call", .str "join"]) = some false ∧ cIn (.str "join") (.tuple [.str "set", .str "call", .str "join"]) = some true ∧ cIn (.str "meet") (.tuple [.str "set", .str "call", .str "join"]) = some false ∧ cIn (.str "stop") (.tuple [.str "set", .str "call", .str "join"]) = some false ∧ cIn (.str "call") (.tuple [.str "set", .str "call", .str "join"]) = some true := by decide +kernel
theorem i3 : cIn (.str "set") (.tuple [.str "set", .str "join", .str "call"]) = some true ∧ cIn (.str "put") (.tuple [.str "set", .str "join", .str "call"]) = some false ∧ cIn (.str "tell") (.tuple [.str "set", .str "join", .str "call"]) = some false ∧ cIn (.str "join") (.tuple [.str "set", .str "join", .str "call"]) = some true ∧ cIn (.str "meet") (.tuple [.str "set", .str "join", .str "call"]) = some false ∧ cIn (.str "stop") (.tuple [.str "set", .str "join", .str "call"]) = some false ∧ cIn (.str "call") (.tuple [.str "set", .str "join", .str "call"]) = some true := by decide +kernel
theorem tF {f : DS → Option W} {δ : DS} {a b : Str} (h1 : f δ = some (.str a)) (h2 : decide (a = b) = false) : dCmp cEq f (dC (.str b)) δ = some false := by simp only [uD, Nat.reduceAdd, Nat.reduceSub, reduceIte, Nat.reduceEqDiff, List.replicate, h1, h2]
theorem tT {f : DS → Option W} {δ : DS} {a : Str} (h1 : f δ = some (.str a)) : dCmp cEq f (dC (.str a)) δ = some true := by simp only [uD, Nat.reduceAdd, Nat.reduceSub, reduceIte, Nat.reduceEqDiff, List.replicate, h1]
theorem sF {f : DS → Option W} {δ : DS} {a b : Str} {S : Sto} (h1 : f δ = some (.str a)) (h2 : decide (a = b) = false) : sPure (dCmp cEq f (dC (.str b))) δ S = some (.ok false, S) := zx8 (tF h1 h2)
theorem sT {f : DS → Option W} {δ : DS} {a : Str} {S : Sto} (h1 : f δ = some (.str a)) : sPure (dCmp cEq f (dC (.str a))) δ S = some (.ok true, S) := zx8 (tT h1)
theorem x0 {f : DS → Option W} {δ : DS} {w : W} {l : List W} (h : f δ = some (.tuple (w :: l))) : dOp gIx f (dC (.int (0))) δ = some w := by simp only [dOp, h, dC, Option.bind_some, gIx_t, at0]
theorem x1 {f : DS → Option W} {δ : DS} {v w : W} {l : List W} (h : f δ = some (.tuple (v :: w :: l))) : dOp gIx f (dC (.int (1))) δ = some w := by simp only [dOp, h, dC, Option.bind_some, gIx_t, at1]
theorem x4 {f : DS → Option W} {δ : DS} {s t u v w : W} {l : List W} (h : f δ = some (.tuple (s :: t :: u :: v :: w :: l))) : dOp gIx f (dC (.int (4))) δ = some w := by simp only [dOp, h, dC, Option.bind_some, gIx_t, at4]
theorem yb2 {f g : DS → Option Out} {δ : DS} {d : W} (h : f δ = some (.rt d)) : dsSeq f g δ = some (.rt d) := by unfold dsSeq; rw [h]
theorem iF {f : DS → Option W} {δ : DS} {a b : Str} {g k : DS → Option Out} (h1 : f δ = some (.str a)) (h2 : decide (a = b) = false) : dsSeq (dsIf (dCmp cEq f (dC (.str b))) g dsNext) k δ = k δ := zd6 (zj9 (b := false) (tF h1 h2) rfl) rfl
theorem iT {f : DS → Option W} {δ : DS} {a : Str} {d : W} {g k : DS → Option Out} (h1 : f δ = some (.str a)) (h2 : g δ = some (.rt d)) : dsSeq (dsIf (dCmp cEq f (dC (.str a))) g dsNext) k δ = some (.rt d) := yb2 (zj9 (b := true) (tT h1) h2)
theorem pF {f : DS → Option W} {δ : DS} {a b : Str} {S : Sto} {g : DS → Option Out} {k : DS → Sto → SO} (h1 : f δ = some (.str a)) (h2 : decide (a = b) = false) : ssSeq (ssPure (dsIf (dCmp cEq f (dC (.str b))) g dsNext)) k δ S = k δ S := zb6 (zm6 (zj9 (b := false) (tF h1 h2) rfl))
theorem cF {f : DS → Option W} {δ : DS} {a b : Str} {S : Sto} {g k : DS → Sto → SO} (h1 : f δ = some (.str a)) (h2 : decide (a = b) = false) : ssSeq (ssIf (sPure (dCmp cEq f (dC (.str b)))) g (ssPure dsNext)) k δ S = k δ S := zb6 ((zv6 (sF h1 h2)).trans rfl)
theorem fF {f : DS → Option W} {δ : DS} {a b : Str} {S : Sto} {g k : DS → Sto → SO} (h1 : f δ = some (.str a)) (h2 : decide (a = b) = false) : ssIf (sPure (dCmp cEq f (dC (.str b)))) g k δ S = k δ S := zv6 (sF h1 h2)
theorem fT {f : DS → Option W} {δ : DS} {a : Str} {S : Sto} {g k : DS → Sto → SO} (h1 : f δ = some (.str a)) : ssIf (sPure (dCmp cEq f (dC (.str a)))) g k δ S = g δ S := ya5 (sT h1)
inductive De where
 | set (x : Str) (t : Tr) | put (a b : Tr) | tell (t : Tr) | join (x j : Str) (t : Tr) | meet | stop | call (x : Str) (ts : List Tr)
noncomputable def exps : De → List Tr
 | .set _ t => [t] | .put a b => [a, b] | .tell t => [t] | .join _ _ t => [t] | .meet => [] | .stop => [] | .call _ ts => ts
noncomputable def giv : De → List Str
 | .set x _ => [x] | .join x _ _ => [x] | .call x _ => [x] | .put _ _ => [] | .tell _ => [] | .meet => [] | .stop => []
noncomputable def kw : De → Str
 | .set _ _ => Str.ofString "set" | .put _ _ => Str.ofString "put" | .tell _ => Str.ofString "tell" | .join _ _ _ => Str.ofString "join" | .meet => Str.ofString "meet" | .stop => Str.ofString "stop" | .call _ _ => Str.ofString "call"
noncomputable def rs : De → List W
 | .set x t => [.str x, tw t] | .put a b => [tw a, tw b] | .tell t => [tw t] | .join x j t => [.str x, .str j, tw t] | .meet => [] | .stop => [] | .call x ts => [.str x, .str "qq", .list (ts.map tw)]
theorem kwn (d : De) : decide (kw d = Str.ofString "while") = false ∧ decide (kw d = Str.ofString "if") = false ∧ decide (kw d = Str.ofString "break") = false ∧ decide (kw d = Str.ofString "again") = false := by
 cases d
 · exact ⟨q_set.1, q_set.2.1, q_set.2.2.1, q_set.2.2.2.1⟩
 · exact ⟨q_put.1, q_put.2.1, q_put.2.2.1, q_put.2.2.2.1⟩
 · exact ⟨q_tell.1, q_tell.2.1, q_tell.2.2.1, q_tell.2.2.2.1⟩
 · exact ⟨q_join.1, q_join.2.1, q_join.2.2.1, q_join.2.2.2.1⟩
 · exact ⟨q_meet.1, q_meet.2.1, q_meet.2.2.1, q_meet.2.2.2.1⟩
 · exact ⟨q_stop.1, q_stop.2.1, q_stop.2.2.1, q_stop.2.2.2.1⟩
 · exact ⟨q_call.1, q_call.2.1, q_call.2.2.1, q_call.2.2.2.1⟩
noncomputable def stW (k : Int) (d : De) : W := .tuple (.str (kw d) :: .int k :: rs d)
noncomputable def bodyW : Int → List De → List W
 | _, [] => []
 | k, t :: ts => stW k t :: bodyW (k + 1) ts
noncomputable def plW (s : W) : W := .tuple [s, .tuple []]
theorem bodies_run (k : Int) (d : De) : zq5 [stW k d] = some (.list []) := by
 have z0 := sz 0 (by decide)
 exact zk6 rfl ((iF (x0 rfl) (kwn d).1).trans ((iF (x0 rfl) (kwn d).2.1).trans (zf8 (by first | rfl | simp only [uD, Nat.reduceAdd, Nat.reduceSub, reduceIte, Nat.reduceEqDiff, List.replicate, if_pos z0]))))
theorem exprs_run (k : Int) (d : De) : zi4 [stW k d] = some (.list ((exps d).map tw)) := by
 have z4 := sz 4 (by decide)
 have z0 := sz 0 (by decide)
 have z1 := sz 1 (by decide)
 have z2 := sz 2 (by decide)
 refine zk6 rfl (zd6 (δ1 := [.val (stW k d), .val (.str (kw d))]) (zp1 (x0 rfl) rfl) ?_)
 have hin : ∀ b, cIn (.str (kw d)) (.tuple [.str "tell", .str "if", .str "while", .str "return"]) = some b → dCmp cIn (dPk 1) (dTup (dCons (dC (.str "tell")) (dCons (dC (.str "if")) (dCons (dC (.str "while")) (dCons (dC (.str "return")) dNil))))) [.val (stW k d), .val (.str (kw d))] = some b := fun b hb => by simp only [uD, Nat.reduceAdd, Nat.reduceSub, reduceIte, Nat.reduceEqDiff, List.replicate, if_pos z4, hb]
 cases d with
 | set x t =>
  refine zd6 (zj9 (b := false) (hin _ i1.1) rfl) ?_
  refine (iF rfl q_set.2.2.2.2.1).trans ?_
  exact iT rfl (zf8 (by first | rfl | simp only [stW, rs, exps, uD, Nat.reduceAdd, Nat.reduceSub, reduceIte, Nat.reduceEqDiff, List.replicate, at2, at3, at4, if_pos z1, if_pos z2]))
 | put a b =>
  refine zd6 (zj9 (b := false) (hin _ i1.2.1) rfl) ?_
  exact iT rfl (zf8 (by first | rfl | simp only [stW, rs, exps, uD, Nat.reduceAdd, Nat.reduceSub, reduceIte, Nat.reduceEqDiff, List.replicate, at2, at3, at4, if_pos z1, if_pos z2]))
 | tell t =>
  exact yb2 (zj9 (b := true) (hin _ i1.2.2.1) (zf8 (by first | rfl | simp only [stW, rs, exps, uD, Nat.reduceAdd, Nat.reduceSub, reduceIte, Nat.reduceEqDiff, List.replicate, at2, if_pos z1])))
 | join x j t =>
  refine zd6 (zj9 (b := false) (hin _ i1.2.2.2.1) rfl) ?_
  refine (iF rfl q_join.2.2.2.2.1).trans ?_
  refine (iF rfl q_join.2.2.2.2.2.1).trans ?_
  refine (iF rfl q_join.2.2.2.2.2.2.1).trans ?_
  exact zf8 (by first | rfl | simp only [stW, kw, rs, exps, uD, Nat.reduceAdd, Nat.reduceSub, reduceIte, Nat.reduceEqDiff, List.replicate, at4, decide_true, if_pos z1, if_pos z0])
 | meet =>
  refine zd6 (zj9 (b := false) (hin _ i1.2.2.2.2.1) rfl) ?_
  refine (iF rfl q_meet.2.2.2.2.1).trans ?_
  refine (iF rfl q_meet.2.2.2.2.2.1).trans ?_
  refine (iF rfl q_meet.2.2.2.2.2.2.1).trans ?_
  exact zf8 (by first | rfl | simp only [stW, kw, rs, exps, uD, Nat.reduceAdd, Nat.reduceSub, reduceIte, Nat.reduceEqDiff, List.replicate, at4, q_meet.2.2.2.2.2.2.2.1, if_pos z1, if_pos z0])
 | stop =>
  refine zd6 (zj9 (b := false) (hin _ i1.2.2.2.2.2.1) rfl) ?_
  refine (iF rfl q_stop.2.2.2.2.1).trans ?_
  refine (iF rfl q_stop.2.2.2.2.2.1).trans ?_
  refine (iF rfl q_stop.2.2.2.2.2.2.1).trans ?_
  exact zf8 (by first | rfl | simp only [stW, kw, rs, exps, uD, Nat.reduceAdd, Nat.reduceSub, reduceIte, Nat.reduceEqDiff, List.replicate, at4, q_stop.2.2.2.2.2.2.2.1, if_pos z1, if_pos z0])
 | call x ts =>
  refine zd6 (zj9 (b := false) (hin _ i1.2.2.2.2.2.2) rfl) ?_
  refine (iF rfl q_call.2.2.2.2.1).trans ?_
  refine (iF rfl q_call.2.2.2.2.2.1).trans ?_
  exact iT rfl (zf8 (by first | rfl | simp only [stW, rs, exps, uD, Nat.reduceAdd, Nat.reduceSub, reduceIte, Nat.reduceEqDiff, List.replicate, at2, at3, at4, if_pos z1, if_pos z2]))
noncomputable def gvW : List Str → W
 | [] => .none
 | x :: _ => .str x
theorem given_run (k : Int) (d : De) : zr5 [stW k d] = some (gvW (giv d)) := by
 have z3 := sz 3 (by decide)
 cases d <;> simp only [zr5, stW, kw, rs, giv, gvW, uD, Nat.reduceAdd, Nat.reduceSub, reduceIte, Nat.reduceEqDiff, List.replicate, at0, at2, i2, if_pos z3]
theorem bodyW_len : ∀ (ts : List De) (k : Int), (bodyW k ts).length = ts.length
 | [], _ => rfl
 | t :: ts, k => by simp [bodyW, bodyW_len ts]
theorem pl_loop (pf : List W → Option W) : ∀ (ts : List De) (k : Int) (s0 s1 : Sl) (acc : List W) (s4 s5 : Sl), acc.length + ts.length ≤ 900 → ∃ s4', zk4 (dgName 4) (zu1 pf) (bodyW k ts) [s0, s1, .val (.tuple []), .own acc, s4, s5] = some (.nx [s0, s1, .val (.tuple []), .own (acc ++ (bodyW k ts).map plW), s4', s5])
 | [], k, s0, s1, acc, s4, s5, _ => ⟨s4, by simp [bodyW, zk4]⟩
 | t :: ts, k, s0, s1, acc, s4, s5, h => by
  have hl : acc.length < sizeLine := Nat.lt_of_lt_of_le (by simp at h; omega) (sz 9000 (by decide))
  have z2 := sz 2 (by decide)
  obtain ⟨s4', e⟩ := pl_loop pf ts (k + 1) s0 s1 (acc ++ [plW (stW k t)]) (.val (stW k t)) s5 (by simp at h ⊢; omega)
  have st : zu1 pf [s0, s1, .val (.tuple []), .own acc, .val (stW k t), s5] = some (.nx [s0, s1, .val (.tuple []), .own (acc ++ [plW (stW k t)]), .val (stW k t), s5]) := by
   first | rfl | simp only [zu1, uD, Nat.reduceAdd, Nat.reduceSub, reduceIte, Nat.reduceEqDiff, List.replicate, bodies_run, zk4, if_pos hl, if_pos z2, plW]
  refine ⟨s4', ?_⟩
  first | rfl | simp only [bodyW, zk4, uD, Nat.reduceAdd, Nat.reduceSub, reduceIte, Nat.reduceEqDiff, List.replicate, st, e]
  simp
theorem placed_run (ts : List De) (k : Int) (h : ts.length ≤ 900) : zq9 8 [.list (bodyW k ts), .none] = some (.list ((bodyW k ts).map plW)) := by
 have z0 := sz 0 (by decide)
 obtain ⟨s4', e⟩ := pl_loop (zq9 7) ts k (.val (.list (bodyW k ts))) (.val .none) [] .no .no (by simpa using h)
 show bodyD 2 6 _ _ = _
 refine zk6 rfl ?_
 refine zd6 (δ1 := [.val (.list (bodyW k ts)), .val .none, .val (.tuple []), .no, .no, .no]) (by first | rfl | simp only [uD, Nat.reduceAdd, Nat.reduceSub, reduceIte, Nat.reduceEqDiff, List.replicate, if_pos z0]) ?_
 refine zd6 (δ1 := [.val (.list (bodyW k ts)), .val .none, .val (.tuple []), .own [], .no, .no]) (by first | rfl | simp only [uD, Nat.reduceAdd, Nat.reduceSub, reduceIte, Nat.reduceEqDiff, List.replicate, if_pos z0]) ?_
 refine zd6 (for_run (ds := bodyW k ts) (by first | rfl | simp only [uD, Nat.reduceAdd, Nat.reduceSub, reduceIte, Nat.reduceEqDiff, List.replicate]) e) ?_
 first | rfl | simp only [uD, Nat.reduceAdd, Nat.reduceSub, reduceIte, Nat.reduceEqDiff, List.replicate, List.nil_append]
noncomputable def cntL (ts : List Tr) : Nat := (ts.map cnt).sum
noncomputable def eN (ts : List Tr) : List Str := ts.flatMap nms
noncomputable def dN (d : De) : List Str := giv d ++ eN (exps d)
noncomputable def allN (ds : List De) : List Str := ds.flatMap dN
noncomputable def okT (t : Tr) : Prop := dep t < 9 ∧ cnt t ≤ 300
structure okD (d : De) : Prop where
 t : ∀ t ∈ exps d, okT t
 c : cntL (exps d) ≤ 31
theorem nmL_len (l : List Tr) : (nmL l).length ≤ l.length := List.length_filterMap_le _ _
theorem yd3 (t : Tr) : (nms t).length ≤ cnt t := Nat.le_trans (nmL_len _) (zt0 t)
theorem eN_len : ∀ (ts : List Tr), (eN ts).length ≤ cntL ts
 | [] => by simp [eN]
 | t :: ts => by
  have := eN_len ts
  have := yd3 t
  simp [eN, cntL] at *
  omega
theorem yg3 (d : De) : (giv d).length ≤ 1 := by cases d <;> simp [giv]
theorem yk7 {d : De} (h : okD d) : (dN d).length ≤ 32 := by
 have := eN_len (exps d)
 have := yg3 d
 have := h.c
 simp [dN]
 omega
theorem yc8 : ∀ {ds : List De}, (∀ d ∈ ds, okD d) → (allN ds).length ≤ 32 * ds.length
 | [], _ => by simp [allN]
 | d :: ds, h => by
  have := yc8 fun e he => h e (List.mem_cons_of_mem _ he)
  have := yk7 (h d (by simp))
  simp [allN] at *
  omega
theorem nx_loop : ∀ (ts : List Tr) (acc : List W) (s0 s2 s3 s4 s5 : Sl), (∀ t ∈ ts, okT t) → acc.length + cntL ts ≤ 8000 → ∃ s5', zk4 (dgName 5) zn2 (ts.map tw) [s0, .own acc, s2, s3, s4, s5] = some (.nx [s0, .own (acc ++ (eN ts).map .str), s2, s3, s4, s5'])
 | [], acc, s0, s2, s3, s4, s5, _, _ => ⟨s5, by simp [zk4, eN]⟩
 | t :: ts, acc, s0, s2, s3, s4, s5, ht, h => by
  have hc : cntL (t :: ts) = cnt t + cntL ts := by simp [cntL]
  have hn := yd3 t
  have hk := ht t (by simp)
  have zl : ((lvs t).map tw).length ≤ sizeLine := sz _ (by have := zt0 t; have := hk.2; simp; omega)
  have ze : acc.length + ((nms t).map W.str).length ≤ sizeLine := sz _ (by simp; omega)
  obtain ⟨s5', e⟩ := nx_loop ts (acc ++ (nms t).map .str) s0 s2 s3 s4 (.val (tw t)) (fun u hu => ht u (by simp [hu])) (by simp; omega)
  have lv := zu4 t 9 hk.1 (by have := hk.2; omega)
  have nr := nms_run (lvs t)
  have st1 : zn2 [s0, .own acc, s2, s3, s4, .val (tw t)] = some (.nx [s0, .own (acc ++ (nms t).map .str), s2, s3, s4, .val (tw t)]) := by
   first | rfl | simp only [zn2, yc4, dComp, uD, Nat.reduceAdd, Nat.reduceSub, reduceIte, Nat.reduceEqDiff, List.replicate, lv, if_pos zl]
   rw [nr]
   first | rfl | simp only [Option.bind_some]
   rw [if_pos (show acc.length + ((nmL (lvs t)).map W.str).length ≤ sizeLine from ze)]
   rfl
  refine ⟨s5', ?_⟩
  first | rfl | simp only [List.map_cons, zk4, uD, Nat.reduceAdd, Nat.reduceSub, reduceIte, Nat.reduceEqDiff, List.replicate, st1, e]
  simp [eN]
theorem gv_step (s0 s2 s3 s5 : Sl) (acc : List W) (d : De) (h : acc.length < 9000) : dsIf (dCmp cNotN (dPk 4) (dC .none)) (dsAppend 1 (dVar 4)) dsNext [s0, .own acc, s2, s3, .val (gvW (giv d)), s5] = some (.nx [s0, .own (acc ++ (giv d).map .str), s2, s3, .val (gvW (giv d)), s5]) := by
 have hl : acc.length < sizeLine := Nat.lt_of_lt_of_le h (sz 9000 (by decide))
 cases d <;> simp only [giv, gvW, uD, Nat.reduceAdd, Nat.reduceSub, reduceIte, Nat.reduceEqDiff, List.replicate, if_pos hl, List.append_nil]
theorem nw_loop : ∀ (ds : List De) (k : Int) (s0 : Sl) (acc : List W) (s2 s3 s4 s5 : Sl), (∀ d ∈ ds, okD d) → acc.length + 32 * ds.length ≤ 8000 → ∃ s2' s3' s4' s5', zk4 (dgTup 2 (dgCons (dgName 2) (dgCons (dgName 3) dgNil))) zp0 ((bodyW k ds).map plW) [s0, .own acc, s2, s3, s4, s5] = some (.nx [s0, .own (acc ++ (allN ds).map .str), s2', s3', s4', s5'])
 | [], k, s0, acc, s2, s3, s4, s5, _, _ => ⟨s2, s3, s4, s5, by simp [bodyW, zk4, allN]⟩
 | d :: ds, k, s0, acc, s2, s3, s4, s5, ht, h => by
  have hd := ht d (by simp)
  have h1 := yg3 d
  have h2 := yk7 hd
  have h3 := hd.c
  simp only [List.length_cons] at h
  obtain ⟨s5a, e1⟩ := nx_loop (exps d) (acc ++ (giv d).map .str) s0 (.val (stW k d)) (.val (.tuple [])) (.val (gvW (giv d))) s5 hd.t (by simp; omega)
  obtain ⟨s2', s3', s4', s5', e⟩ := nw_loop ds (k + 1) s0 (acc ++ (dN d).map .str) (.val (stW k d)) (.val (.tuple [])) (.val (gvW (giv d))) s5a (fun u hu => ht u (by simp [hu])) (by simp; omega)
  have st : zp0 [s0, .own acc, .val (stW k d), .val (.tuple []), s4, s5] = some (.nx [s0, .own (acc ++ (dN d).map .str), .val (stW k d), .val (.tuple []), .val (gvW (giv d)), s5a]) := by
   refine zd6 (δ1 := [s0, .own acc, .val (stW k d), .val (.tuple []), .val (gvW (giv d)), s5]) (by first | rfl | simp only [uD, Nat.reduceAdd, Nat.reduceSub, reduceIte, Nat.reduceEqDiff, List.replicate, given_run]) ?_
   refine zd6 (gv_step _ _ _ _ _ d (by omega)) ?_
   refine (for_run (ds := (exps d).map tw) (by first | rfl | simp only [uD, Nat.reduceAdd, Nat.reduceSub, reduceIte, Nat.reduceEqDiff, List.replicate, exprs_run]) e1).trans ?_
   simp [dN]
  refine ⟨s2', s3', s4', s5', ?_⟩
  simp only [bodyW, List.map_cons, plW, zk4, uD, Nat.reduceAdd, Nat.reduceSub, reduceIte, Nat.reduceEqDiff, List.replicate, st] at e ⊢
  rw [e]
  simp [allN]
theorem names_run (ds : List De) (k : Int) (ht : ∀ t ∈ ds, okD t) (h : ds.length ≤ 200) : zm7 [.list (bodyW k ds)] = some (.list ((allN ds).map .str)) := by
 have z0 := sz 0 (by decide)
 obtain ⟨s2', s3', s4', s5', e⟩ := nw_loop ds k (.val (.list (bodyW k ds))) [] .no .no .no .no ht (by simp; omega)
 have pr := placed_run ds k (by omega)
 first | rfl | simp only [zm7, yk2, uD, Nat.reduceAdd, Nat.reduceSub, reduceIte, Nat.reduceEqDiff, List.replicate, if_pos z0, pr, e, List.nil_append]
noncomputable def dd : List Str → List Str → List Str
 | acc, [] => acc
 | acc, x :: r => dd (if x ∈ acc then acc else acc ++ [x]) r
noncomputable def kvF : Nat → List Str → List (Key × W)
 | _, [] => []
 | i, x :: r => (Sum.inr x, .int ((i + 1 : Nat) : Int)) :: kvF (i + 1) r
theorem kvF_app : ∀ (N : List Str) (i : Nat) (x : Str), kvF i (N ++ [x]) = kvF i N ++ [(Sum.inr x, .int ((i + N.length + 1 : Nat) : Int))]
 | [], i, x => by simp [kvF]
 | y :: N, i, x => by
  first | rfl | simp only [List.cons_append, kvF, kvF_app N (i + 1) x, List.length_cons]
  rw [show i + 1 + N.length + 1 = i + (N.length + 1) + 1 by omega]
theorem yg6 : ∀ (N : List Str) (i : Nat), (kvF i N).length = N.length
 | [], _ => rfl
 | y :: N, i => by simp [kvF, yg6 N]
theorem kv_none : ∀ (N : List Str) (i : Nat) (x : Str), x ∉ N → valW (kvF i N) (Sum.inr x) = none
 | [], i, x, _ => rfl
 | y :: N, i, x, h => by
  have h' : ¬ y = x ∧ x ∉ N := ⟨fun e => h (by simp [e]), fun e => h (by simp [e])⟩
  have ih := kv_none N (i + 1) x h'.2
  simp only [valW, kvF, List.find?_cons, Sum.inr.injEq, h'.1, decide_false] at ih ⊢
  exact ih
theorem zv2 : ∀ (N : List Str) (i : Nat) (x : Str), x ∈ N → ∃ j, N[j]? = some x ∧ valW (kvF i N) (Sum.inr x) = some (.int ((i + j + 1 : Nat) : Int))
 | y :: N, i, x, h => by
  by_cases e : y = x
  · subst e
    exact ⟨0, rfl, by simp [valW, kvF, List.find?_cons]⟩
  · obtain ⟨j, h1, h2⟩ := zv2 N (i + 1) x ((List.mem_cons.mp h).resolve_left fun z => e z.symm)
    refine ⟨j + 1, by simpa using h1, ?_⟩
    have h3 : valW (kvF i (y :: N)) (Sum.inr x) = valW (kvF (i + 1) N) (Sum.inr x) := by simp [valW, kvF, List.find?_cons, e]
    rw [h3, h2, show i + 1 + j + 1 = i + (j + 1) + 1 by omega]
theorem yb8 {S : Sto} {d : Nat} {kvs : List (Key × W)} {x : Str} (h : S[d]? = some (.dK kvs)) : getK (.ref d) (.str x) S = some (valW kvs (Sum.inr x)) := by simp [getK, obAt, h, keyOf]
theorem putA_s {S : Sto} {d : Nat} {kvs : List (Key × W)} {x : Str} {v : W} (h : S[d]? = some (.dK kvs)) (hl : kvs.length < 9000) : putA (.ref d) (.str x) v S = some (S.set d (.dK (putKW kvs (Sum.inr x) v))) := by
 have hl' : kvs.length < sizeLine := Nat.lt_of_lt_of_le hl (sz 9000 (by decide))
 simp [putA, obAt, h, keyOf, hl']
theorem yb3 : ∀ (l acc : List Str), (dd acc l).length ≤ acc.length + l.length
 | [], acc => by simp [dd]
 | x :: l, acc => by
  unfold dd
  have := yb3 l (if x ∈ acc then acc else acc ++ [x])
  split at this <;> split <;> simp_all <;> omega
theorem zx0 : ∀ (l acc : List Str) (S : Sto) (d : Nat) (s0 s1 s3 : Sl), S[d]? = some (.dK (kvF 0 acc)) → acc.length + l.length ≤ 8000 → ∃ S' s3', zn4 (dgName 3) zn8 (l.map .str) [s0, s1, .val (.ref d), s3] S = some (.nx [s0, s1, .val (.ref d), s3'], S') ∧ S'[d]? = some (.dK (kvF 0 (dd acc l))) ∧ ∀ m, m ≠ d → S'[m]? = S[m]?
 | [], acc, S, d, s0, s1, s3, hd, _ => ⟨S, s3, rfl, hd, fun _ _ => rfl⟩
 | x :: l, acc, S, d, s0, s1, s3, hd, hl => by
  simp only [List.length_cons] at hl
  have kl := yg6 acc 0
  by_cases hx : x ∈ acc
  · obtain ⟨j, j1, j2⟩ := zv2 acc 0 x hx
    obtain ⟨S', s3', e1, e2, e3⟩ := zx0 l acc S d s0 s1 (.val (.str x)) hd (by omega)
    refine ⟨S', s3', ?_, by simpa [dd, hx] using e2, e3⟩
    have st : zn8 [s0, s1, .val (.ref d), .val (.str x)] S = some (.nx [s0, s1, .val (.ref d), .val (.str x)], S) := by
     first | rfl | simp only [zn8, sDIn, uS, uD, Nat.reduceAdd, Nat.reduceSub, reduceIte, Nat.reduceEqDiff, List.replicate, yb8 hd, j2, Option.isSome_some]
    exact (zi0 rfl st).trans e1
  · have n0 := kv_none acc 0 x hx
    have h1 : (S.set d (.dK (kvF 0 (acc ++ [x]))))[d]? = some (.dK (kvF 0 (acc ++ [x]))) := set_eq' hd
    obtain ⟨S', s3', e1, e2, e3⟩ := zx0 l (acc ++ [x]) _ d s0 s1 (.val (.str x)) h1 (by simp; omega)
    refine ⟨S', s3', ?_, by simpa [dd, hx] using e2, fun m hm => (e3 m hm).trans (List.getElem?_set_ne (fun z => hm z.symm))⟩
    have st : zn8 [s0, s1, .val (.ref d), .val (.str x)] S = some (.nx [s0, s1, .val (.ref d), .val (.str x)], S.set d (.dK (kvF 0 (acc ++ [x])))) := by
     have pa := putA_s (x := x) (v := .int ((kvF 0 acc).length + 1)) hd (by omega)
     rw [putKW_new _ n0] at pa
     have ev : kvF 0 acc ++ [(Sum.inr x, W.int ((kvF 0 acc).length + 1))] = kvF 0 (acc ++ [x]) := by
      rw [kvF_app, kl]
      simp
     rw [ev] at pa
     first | rfl | simp only [zn8, sDIn, ye9, sDLen, sOp, uS, uD, Nat.reduceAdd, Nat.reduceSub, reduceIte, Nat.reduceEqDiff, List.replicate, yb8 hd, n0, Option.isSome_none, dk_at hd, pa]
    exact (zi0 rfl st).trans e1
theorem slots_run (ps : List Str) (ts : List De) (k : Int) (S : Sto) (ht : ∀ t ∈ ts, okD t) (h : ts.length ≤ 200) (hp : ps.length ≤ 10) : ∃ S', zt6 [.list (ps.map .str), .list (bodyW k ts)] S = some (.ok (.ref S.length), S') ∧ S'[S.length]? = some (.dK (kvF 0 (dd [] (ps ++ allN ts)))) ∧ ∀ m, m ≠ S.length → S'[m]? = (S ++ [.dK []])[m]? := by
 have nr := names_run ts k ht h
 have hn := yc8 ht
 obtain ⟨S', s3', e1, e2, e3⟩ := zx0 (ps ++ allN ts) [] (S ++ [.dK []]) S.length (.val (.list (ps.map .str))) (.val (.list (bodyW k ts))) .no (by simp [kvF]) (by simp; omega)
 refine ⟨S', ?_, e2, e3⟩
 have za : (ps.map W.str).length + ((allN ts).map W.str).length ≤ sizeLine := sz _ (by simp; omega)
 have ga : gAdd (.list (ps.map W.str)) (.list ((allN ts).map W.str)) = some (.list ((ps ++ allN ts).map W.str)) := by rw [ye6 za, List.map_append]
 refine (ze6 rfl).trans ?_
 refine (congrArg outS (?_ : _ = some (.rt (.ref S.length), S'))).trans rfl
 refine (zb6 (zp5 (d := .ref S.length) (S1 := S ++ [.dK []]) rfl rfl)).trans ?_
 refine (zb6 ((zo8 (S1 := S ++ [.dK []]) (ds := (ps ++ allN ts).map W.str) ?_).trans e1)).trans ?_
 · first | rfl | simp only [uS, uD, Nat.reduceAdd, Nat.reduceSub, reduceIte, Nat.reduceEqDiff, List.replicate, startD, nr, ga]
 · first | rfl | simp only [uS, uD, Nat.reduceAdd, Nat.reduceSub, reduceIte, Nat.reduceEqDiff, List.replicate]
noncomputable def shF (r p d : Nat) (nm : W) : List (Str × W) := [(Str.ofString "rows", .ref r), (Str.ofString "spots", .ref p), (Str.ofString "name", nm), (Str.ofString "slots", .ref d)]
theorem nf1 : (Str.ofString "spots" == Str.ofString "rows") = false ∧ (Str.ofString "name" == Str.ofString "rows") = false ∧ (Str.ofString "name" == Str.ofString "spots") = false ∧ (Str.ofString "slots" == Str.ofString "rows") = false ∧ (Str.ofString "slots" == Str.ofString "spots") = false ∧ (Str.ofString "slots" == Str.ofString "name") = false := by decide +kernel
theorem lk_r (r p d : Nat) (nm : W) : (shF r p d nm).lookup (Str.ofString "rows") = some (.ref r) := by simp [shF, List.lookup]
theorem lk_p (r p d : Nat) (nm : W) : (shF r p d nm).lookup (Str.ofString "spots") = some (.ref p) := by simp [shF, List.lookup, nf1.1]
theorem lk_s (r p d : Nat) (nm : W) : (shF r p d nm).lookup (Str.ofString "slots") = some (.ref d) := by simp [shF, List.lookup, nf1.2.2.2.1, nf1.2.2.2.2.1, nf1.2.2.2.2.2]
theorem lk_m (m : Str) (h : (m == Str.ofString "rows") = false ∧ (m == Str.ofString "spots") = false ∧ (m == Str.ofString "name") = false ∧ (m == Str.ofString "slots") = false) (r p d : Nat) (nm : W) : (shF r p d nm).lookup m = none := by simp [shF, List.lookup, h.1, h.2.1, h.2.2.1, h.2.2.2]
theorem m_add : (Str.ofString "add" == Str.ofString "rows") = false ∧ (Str.ofString "add" == Str.ofString "spots") = false ∧ (Str.ofString "add" == Str.ofString "name") = false ∧ (Str.ofString "add" == Str.ofString "slots") = false := by decide +kernel
theorem m_lay : (Str.ofString "lay" == Str.ofString "rows") = false ∧ (Str.ofString "lay" == Str.ofString "spots") = false ∧ (Str.ofString "lay" == Str.ofString "name") = false ∧ (Str.ofString "lay" == Str.ofString "slots") = false := by decide +kernel
theorem m_free : (Str.ofString "free" == Str.ofString "rows") = false ∧ (Str.ofString "free" == Str.ofString "spots") = false ∧ (Str.ofString "free" == Str.ofString "name") = false ∧ (Str.ofString "free" == Str.ofString "slots") = false := by decide +kernel
theorem m_begin : (Str.ofString "begin" == Str.ofString "rows") = false ∧ (Str.ofString "begin" == Str.ofString "spots") = false ∧ (Str.ofString "begin" == Str.ofString "name") = false ∧ (Str.ofString "begin" == Str.ofString "slots") = false := by decide +kernel
structure SH (S : Sto) (I r p d : Nat) (nm : W) (rows : List W) (kv : List (List Key × W)) (sl : List (Key × W)) : Prop where
 hI : S[I]? = some (.ins (Str.ofString "Sheet") (shF r p d nm))
 hr : S[r]? = some (.lst rows)
 hp : S[p]? = some (.dT kv)
 hd : S[d]? = some (.dK sl)
theorem zv7 {S : Sto} {I : Nat} {fs : List (Str × W)} (h : S[I]? = some (.ins (Str.ofString "Sheet") fs)) : insAt (Str.ofString "Sheet") (.ref I) S = some (I, fs) := by simp [insAt, obAt, h]
section
variable {S : Sto} {I r p d : Nat} {nm : W} {rows : List W} {kv : List (List Key × W)} {sl : List (Key × W)} {N : List Str}
theorem SH.row (h : SH S I r p d nm rows kv sl) (x : List W) : SH (S.set r (.lst x)) I r p d nm x kv sl :=
 ⟨set_ne' h.hI (zn1 h.hr h.hI (by simp)), set_eq' h.hr, set_ne' h.hp (zn1 h.hr h.hp (by simp)), set_ne' h.hd (zn1 h.hr h.hd (by simp))⟩
theorem SH.spot (h : SH S I r p d nm rows kv sl) (x : List (List Key × W)) : SH (S.set p (.dT x)) I r p d nm rows x sl :=
 ⟨set_ne' h.hI (zn1 h.hp h.hI (by simp)), set_ne' h.hr (zn1 h.hp h.hr (by simp)), set_eq' h.hp, set_ne' h.hd (zn1 h.hp h.hd (by simp))⟩
theorem add_run (h : SH S I r p d nm rows kv sl) (row : W) (hl : rows.length < 9000) : zc0 [.ref I, row] S = some (.ok .none, S.set r (.lst (rows ++ [row]))) := by
 have hl' : rows.length < sizeLine := Nat.lt_of_lt_of_le hl (sz 9000 (by decide))
 first | rfl | simp only [zc0, zo1, uS, uD, Nat.reduceAdd, Nat.reduceSub, reduceIte, Nat.reduceEqDiff, List.replicate, zv7 h.hI, lk_r, zr7 h.hr, Option.isSome_some, if_pos hl']
theorem putA_t {x : List W} {ks : List Key} {v : W} (hk : keysL x = some ks) (h : S[p]? = some (.dT kv)) (hl : kv.length < 9000) : putA (.ref p) (.tuple x) v S = some (S.set p (.dT (putKW kv ks v))) := by
 have hl' : kv.length < sizeLine := Nat.lt_of_lt_of_le hl (sz 9000 (by decide))
 simp [putA, obAt, h, ye7, hk, hl']
theorem lay_run (h : SH S I r p d nm rows kv sl) {x : List W} {ks : List Key} (hk : keysL x = some ks) (hl : kv.length < 9000) : zj1 [.ref I, .tuple x] S = some (.ok .none, S.set p (.dT (putKW kv ks (.int rows.length)))) := by
 first | rfl | simp only [zj1, ye9, uS, uD, Nat.reduceAdd, Nat.reduceSub, reduceIte, Nat.reduceEqDiff, List.replicate, zv7 h.hI, lk_r, lk_p, zr7 h.hr, putA_t hk h.hp hl]
theorem free_run (h : SH S I r p d nm rows kv sl) : zj5 [.ref I] S = some (.ok (.int (sl.length + 1)), S) := by
 first | rfl | simp only [zj5, sOp, sDLen, uS, uD, Nat.reduceAdd, Nat.reduceSub, reduceIte, Nat.reduceEqDiff, List.replicate, zv7 h.hI, lk_s, dk_at h.hd]
theorem addM (h : SH S I r p d nm rows kv sl) (row : W) (hl : rows.length < 9000) {fo : DS → Option W} {fa : DS → Sto → SM (List W)} {δ : DS} (h1 : fo δ = some (.ref I)) (h2 : fa δ S = some (.ok [row], S)) : ssExpr (sMeth "Sheet" "add" zc0 (sPure fo) fa) δ S = some (.nx δ, S.set r (.lst (rows ++ [row]))) :=
 zi6 (zy1 h1 h.hI (lk_m _ m_add _ _ _ _) h2 (add_run h row hl))
theorem layM (h : SH S I r p d nm rows kv sl) {x : List W} {ks : List Key} (hk : keysL x = some ks) (hl : kv.length < 9000) {fo : DS → Option W} {fa : DS → Sto → SM (List W)} {δ : DS} (h1 : fo δ = some (.ref I)) (h2 : fa δ S = some (.ok [.tuple x], S)) : ssExpr (sMeth "Sheet" "lay" zj1 (sPure fo) fa) δ S = some (.nx δ, S.set p (.dT (putKW kv ks (.int rows.length)))) :=
 zi6 (zy1 h1 h.hI (lk_m _ m_lay _ _ _ _) h2 (lay_run h hk hl))
theorem freeM (h : SH S I r p d nm rows kv (kvF 0 N)) {fo : DS → Option W} {δ : DS} (h1 : fo δ = some (.ref I)) : sMeth "Sheet" "free" zj5 (sPure fo) (sPure dNil) δ S = some (.ok (.int ((N.length : Int) + 1)), S) := by
 have fr := free_run h
 rw [yg6] at fr
 exact zy1 (ds := []) (S1 := S) h1 h.hI (lk_m _ m_free _ _ _ _) rfl fr
end
noncomputable def rws (ln : Int) (f : Str → W) : Tr → Int → List W
 | .num v, a => [.tuple [.str "num", .int ln, .int a, .int v]]
 | .sig k, a => [.tuple [.str "sign", .int ln, .int a, .str (sgW k)]]
 | .nam x, a => [.tuple [.str "copy", .int ln, .int a, f x]]
 | .box t, a => rws ln f t a ++ [.tuple [.str "get", .int ln, .int a, .int a]]
 | .op k t u, a => rws ln f t a ++ (rws ln f u (a + 1) ++ [.tuple [.str "op", .int ln, .int a, .str (opW k), .int a, .int (a + 1)]])
theorem zm4 (ln : Int) (f : Str → W) : ∀ (t : Tr) (a : Int), (rws ln f t a).length = cnt t
 | .num _, _ => rfl
 | .sig _, _ => rfl
 | .nam _, _ => rfl
 | .box t, a => by simp [rws, cnt, zm4 ln f t]
 | .op _ t u, a => by simp [rws, cnt, zm4 ln f t, zm4 ln f u]; omega
noncomputable def fN (N : List Str) (x : Str) : W := (valW (kvF 0 N) (Sum.inr x)).getD .none
noncomputable def inN (N : List Str) (t : Tr) : Prop := ∀ x ∈ nms t, x ∈ N
theorem zu8 (k : Fin 7) (a b : Tr) : nms (.op k a b) = nms a ++ nms b := by simp [nms, nmL, lvs, List.filterMap_append]
section
variable {I r p d : Nat} {nm : W} {kv : List (List Key × W)} {N : List Str}
theorem zy8 (ln : Int) : ∀ (t : Tr) (n : Nat) (a : Int) (S : Sto) (rows : List W), dep t < n → inN N t → rows.length + cnt t ≤ 8000 → SH S I r p d nm rows kv (kvF 0 N) → ze5 n [.ref I, .int ln, tw t, .int a] S = some (.ok .none, S.set r (.lst (rows ++ rws ln (fN N) t a)))
 | _, 0, _, _, _, h, _, _, _ => absurd h (Nat.not_lt_zero _)
 | .num v, n + 1, a, S, rows, hd, hi, hl, h => by
  simp only [cnt] at hl
  have z4 := sz 4 (by decide)
  show bodyS 4 5 _ _ _ = _
  let δ : DS := [.val (.ref I), .val (.int ln), .val (tw (.num v)), .val (.int a), .val (.str "num")]
  refine (ze6 rfl).trans ((congrArg outS (?_ : _ = some (.nx δ, _))).trans rfl)
  refine (zb6 (δ' := δ) (S' := S) (zm6 (zp1 (x0 rfl) rfl))).trans ?_
  exact (fT rfl).trans (addM h _ (by omega) rfl (by first | rfl | simp only [δ, tw, uS, uD, Nat.reduceAdd, Nat.reduceSub, reduceIte, Nat.reduceEqDiff, List.replicate, at1, if_pos z4]))
 | .sig k, n + 1, a, S, rows, hd, hi, hl, h => by
  simp only [cnt] at hl
  have z4 := sz 4 (by decide)
  show bodyS 4 5 _ _ _ = _
  let δ : DS := [.val (.ref I), .val (.int ln), .val (tw (.sig k)), .val (.int a), .val (.str (sgW k))]
  refine (ze6 rfl).trans ((congrArg outS (?_ : _ = some (.nx δ, _))).trans rfl)
  refine (zb6 (δ' := δ) (S' := S) (zm6 (zp1 (x0 rfl) rfl))).trans ?_
  refine (fF rfl (sg1 k)).trans ?_
  refine (fF rfl (sg2 k)).trans ?_
  exact (ya5 (S1 := S) (by first | rfl | simp only [δ, uS, uD, Nat.reduceAdd, Nat.reduceSub, reduceIte, Nat.reduceEqDiff, List.replicate, sg5])).trans (addM h _ (by omega) rfl (by first | rfl | simp only [δ, tw, uS, uD, Nat.reduceAdd, Nat.reduceSub, reduceIte, Nat.reduceEqDiff, List.replicate, if_pos z4]))
 | .nam x, n + 1, a, S, rows, hd, hi, hl, h => by
  simp only [cnt] at hl
  have z4 := sz 4 (by decide)
  obtain ⟨j, j1, j2⟩ := zv2 N 0 x (hi x (by simp [nms, nmL, lvs]))
  have hf : fN N x = .int ((0 + j + 1 : Nat) : Int) := by simp [fN, j2]
  show bodyS 4 5 _ _ _ = _
  let δ : DS := [.val (.ref I), .val (.int ln), .val (tw (.nam x)), .val (.int a), .val (.str "name")]
  refine (ze6 rfl).trans ((congrArg outS (?_ : _ = some (.nx δ, _))).trans rfl)
  refine (zb6 (δ' := δ) (S' := S) (zm6 (zp1 (x0 rfl) rfl))).trans ?_
  refine (fF rfl (na2)).trans ?_
  exact (fT rfl).trans (addM h (.tuple [.str "copy", .int ln, .int a, fN N x]) (by omega) rfl (by rw [hf]; simp only [δ, tw, sDGet, uS, uD, Nat.reduceAdd, Nat.reduceSub, reduceIte, Nat.reduceEqDiff, List.replicate, at1, zv7 h.hI, lk_s, yb8 h.hd, j2, if_pos z4]))
 | .box t, n + 1, a, S, rows, hd, hi, hl, h => by
  simp only [cnt] at hl
  simp only [dep] at hd
  have z4 := sz 4 (by decide)
  let δ : DS := [.val (.ref I), .val (.int ln), .val (tw (.box t)), .val (.int a), .val (.str "box")]
  have e1 := zy8 ln t n a S rows (by omega) (fun x hx => hi x (by simpa [nms, lvs] using hx)) (by omega) h
  show bodyS 4 5 _ _ _ = _
  refine (ze6 rfl).trans ((congrArg outS (?_ : _ = some (.nx δ, _))).trans rfl)
  refine (zb6 (δ' := δ) (S' := S) (zm6 (zp1 (x0 rfl) rfl))).trans ?_
  refine (fF rfl (bx1)).trans ?_
  refine (fF rfl (bx2)).trans ?_
  refine (zv6 (S1 := S) (by first | rfl | simp only [δ, uS, uD, Nat.reduceAdd, Nat.reduceSub, reduceIte, Nat.reduceEqDiff, List.replicate, bx5])).trans ?_
  refine (fT rfl).trans ?_
  refine (zb6 (zi6 (zg8 (S1 := S) (by first | rfl | simp only [δ, tw, uS, uD, Nat.reduceAdd, Nat.reduceSub, reduceIte, Nat.reduceEqDiff, List.replicate, at1]) e1))).trans ?_
  refine (addM (h.row _) (.tuple [.str "get", .int ln, .int a, .int a]) (by rw [List.length_append, zm4]; omega) rfl (by first | rfl | simp only [δ, tw, uS, uD, Nat.reduceAdd, Nat.reduceSub, reduceIte, Nat.reduceEqDiff, List.replicate, if_pos z4])).trans ?_
  simp [rws]
 | .op k t u, n + 1, a, S, rows, hd, hi, hl, h => by
  simp only [cnt] at hl
  simp only [dep] at hd
  have z6 := sz 6 (by decide)
  let δ : DS := [.val (.ref I), .val (.int ln), .val (tw (.op k t u)), .val (.int a), .val (.str (opW k))]
  have e1 := zy8 ln t n a S rows (by omega) (fun x hx => hi x (by rw [zu8]; simp [hx])) (by omega) h
  have g1 := h.row (rows ++ rws ln (fN N) t a)
  have e2 := zy8 ln u n (a + 1) _ _ (by omega) (fun x hx => hi x (by rw [zu8]; simp [hx])) (by rw [List.length_append, zm4]; omega) g1
  show bodyS 4 5 _ _ _ = _
  refine (ze6 rfl).trans ((congrArg outS (?_ : _ = some (.nx δ, _))).trans rfl)
  refine (zb6 (δ' := δ) (S' := S) (zm6 (zp1 (x0 rfl) rfl))).trans ?_
  refine (fF rfl (op1 k)).trans ?_
  refine (fF rfl (op2 k)).trans ?_
  refine (zv6 (S1 := S) (by first | rfl | simp only [δ, uS, uD, Nat.reduceAdd, Nat.reduceSub, reduceIte, Nat.reduceEqDiff, List.replicate, op5])).trans ?_
  refine (fF rfl (op3 k)).trans ?_
  refine (zb6 (zi6 (zg8 (S1 := S) (by first | rfl | simp only [δ, tw, uS, uD, Nat.reduceAdd, Nat.reduceSub, reduceIte, Nat.reduceEqDiff, List.replicate, at1]) e1))).trans ?_
  refine (zb6 (zi6 (zg8 (S1 := S.set r (.lst (rows ++ rws ln (fN N) t a))) (by first | rfl | simp only [δ, tw, uS, uD, Nat.reduceAdd, Nat.reduceSub, reduceIte, Nat.reduceEqDiff, List.replicate, at2]) e2))).trans ?_
  refine (addM (g1.row _) (.tuple [.str "op", .int ln, .int a, .str (opW k), .int a, .int (a + 1)]) (by rw [List.length_append, List.length_append, zm4, zm4]; omega) rfl (by first | rfl | simp only [δ, tw, uS, uD, Nat.reduceAdd, Nat.reduceSub, reduceIte, Nat.reduceEqDiff, List.replicate, if_pos z6])).trans ?_
  simp [rws]
end
noncomputable def g0W : W := .tuple [.str "def", .str "qq"]
noncomputable def lastR (N : List Str) (g : W) (ln : Int) : De → W
 | .set x _ => .tuple [.str "copy", .int ln, fN N x, .int ((N.length : Int) + 1)]
 | .put _ _ => .tuple [.str "put", .int ln, .int ((N.length : Int) + 1), .int ((N.length : Int) + 1 + 1)]
 | .tell _ => .tuple [.str "tell", .int ln, .int ((N.length : Int) + 1)]
 | .join x j _ => .tuple [.str "join", .int ln, fN N x, .str j, .int ((N.length : Int) + 1)]
 | .meet => .tuple [.str "meet", .int ln]
 | .stop => .tuple [.str "stop", .int ln]
 | .call x ts => .tuple [.str "call", .int ln, fN N x, .int ((N.length : Int) + 1), .int (ts.length : Nat), g]
structure inD (N : List Str) (d : De) : Prop where
 g : ∀ x ∈ giv d, x ∈ N
 t : ∀ t ∈ exps d, inN N t
section
variable {S : Sto} {I r p d : Nat} {nm : W} {rows : List W} {kv : List (List Key × W)} {N : List Str}
theorem rest_run (h : SH S I r p d nm rows kv (kvF 0 N)) (ln : Int) (e : De) (hi : inD N e) (hl : rows.length < 9000) : zr8 [.ref I, stW ln e] S = some (.ok .none, S.set r (.lst (rows ++ [lastR N g0W ln e]))) := by
 have z2 := sz 2 (by decide)
 have z3 := sz 3 (by decide)
 have z4 := sz 4 (by decide)
 have z5 := sz 5 (by decide)
 have z6 := sz 6 (by decide)
 have ll : ∀ ts : List Tr, (ts.map tw).length = ts.length := fun ts => by simp
 let δ : DS := [.val (.ref I), .val (stW ln e), .val (.str (kw e)), .val (.int ln), .val (.int ((N.length : Int) + 1))]
 refine (ze6 rfl).trans ((congrArg outS (?_ : _ = some (.nx δ, _))).trans rfl)
 refine (zb6 (δ' := [.val (.ref I), .val (stW ln e), .val (.str (kw e)), .no, .no]) (S' := S) (by first | rfl | simp only [stW, uS, uD, Nat.reduceAdd, Nat.reduceSub, reduceIte, Nat.reduceEqDiff, List.replicate, startD, at0])).trans ?_
 refine (zb6 (δ' := [.val (.ref I), .val (stW ln e), .val (.str (kw e)), .val (.int ln), .no]) (S' := S) (by first | rfl | simp only [stW, uS, uD, Nat.reduceAdd, Nat.reduceSub, reduceIte, Nat.reduceEqDiff, List.replicate, at1])).trans ?_
 refine (zb6 (δ' := δ) (S' := S) (zp5 (freeM h rfl) rfl)).trans ?_
 cases e with
 | set x t =>
  obtain ⟨j', j1, j2⟩ := zv2 N 0 x (hi.g x (by simp [giv]))
  have hf : fN N x = .int ((0 + j' + 1 : Nat) : Int) := by simp [fN, j2]
  refine (fT rfl).trans ?_
  refine addM h (.tuple [.str "copy", .int ln, fN N x, .int ((N.length : Int) + 1)]) hl rfl ?_
  rw [hf]
  first | rfl | simp only [δ, stW, kw, rs, sDGet, uS, uD, Nat.reduceAdd, Nat.reduceSub, reduceIte, Nat.reduceEqDiff, List.replicate, at2, zv7 h.hI, lk_s, yb8 h.hd, j2, if_pos z4]
 | put a b =>
  refine (fF rfl q_put.2.2.2.2.1).trans ?_
  refine (fT rfl).trans ?_
  exact addM h _ hl rfl (by first | rfl | simp only [δ, stW, kw, rs, lastR, uS, uD, Nat.reduceAdd, Nat.reduceSub, reduceIte, Nat.reduceEqDiff, List.replicate, if_pos z4])
 | tell t =>
  refine (fF rfl q_tell.2.2.2.2.2.1).trans ?_
  refine (fF rfl q_tell.2.2.2.2.1).trans ?_
  refine (fT rfl).trans ?_
  exact addM h _ hl rfl (by first | rfl | simp only [δ, stW, kw, rs, lastR, uS, uD, Nat.reduceAdd, Nat.reduceSub, reduceIte, Nat.reduceEqDiff, List.replicate, if_pos z3])
 | join x j t =>
  obtain ⟨j', j1, j2⟩ := zv2 N 0 x (hi.g x (by simp [giv]))
  have hf : fN N x = .int ((0 + j' + 1 : Nat) : Int) := by simp [fN, j2]
  refine (fF rfl q_join.2.2.2.2.2.1).trans ?_
  refine (fF rfl q_join.2.2.2.2.1).trans ?_
  refine (fF rfl q_join.2.2.2.2.2.2.2.1).trans ?_
  refine (fF rfl q_join.2.2.2.2.2.2.1).trans ?_
  refine (fF rfl q_join.2.2.2.2.2.2.2.2.1).trans ?_
  refine (fT rfl).trans ?_
  refine addM h (.tuple [.str "join", .int ln, fN N x, .str j, .int ((N.length : Int) + 1)]) hl rfl ?_
  rw [hf]
  first | rfl | simp only [δ, stW, kw, rs, sDGet, uS, uD, Nat.reduceAdd, Nat.reduceSub, reduceIte, Nat.reduceEqDiff, List.replicate, at2, at3, zv7 h.hI, lk_s, yb8 h.hd, j2, if_pos z5]
 | meet =>
  refine (fF rfl q_meet.2.2.2.2.2.1).trans ?_
  refine (fF rfl q_meet.2.2.2.2.1).trans ?_
  refine (fF rfl q_meet.2.2.2.2.2.2.2.2.1).trans ?_
  refine (fF rfl q_meet.2.2.2.2.2.2.1).trans ?_
  refine (fF rfl q_meet.2.2.2.2.2.2.2.2.2.1).trans ?_
  refine (fF rfl q_meet.2.2.2.2.2.2.2.1).trans ?_
  exact addM h _ hl rfl (by first | rfl | simp only [δ, stW, kw, rs, lastR, uS, uD, Nat.reduceAdd, Nat.reduceSub, reduceIte, Nat.reduceEqDiff, List.replicate, if_pos z2])
 | stop =>
  refine (fF rfl q_stop.2.2.2.2.2.1).trans ?_
  refine (fF rfl q_stop.2.2.2.2.1).trans ?_
  refine (fF rfl q_stop.2.2.2.2.2.2.2.2.1).trans ?_
  refine (fF rfl q_stop.2.2.2.2.2.2.1).trans ?_
  refine (fF rfl q_stop.2.2.2.2.2.2.2.2.2.1).trans ?_
  refine (fF rfl q_stop.2.2.2.2.2.2.2.1).trans ?_
  exact addM h _ hl rfl (by first | rfl | simp only [δ, stW, kw, rs, lastR, uS, uD, Nat.reduceAdd, Nat.reduceSub, reduceIte, Nat.reduceEqDiff, List.replicate, if_pos z2])
 | call x ts =>
  obtain ⟨j', j1, j2⟩ := zv2 N 0 x (hi.g x (by simp [giv]))
  have hf : fN N x = .int ((0 + j' + 1 : Nat) : Int) := by simp [fN, j2]
  refine (fF rfl q_call.2.2.2.2.2.1).trans ?_
  refine (fF rfl q_call.2.2.2.2.1).trans ?_
  refine (fF rfl q_call.2.2.2.2.2.2.2.1).trans ?_
  refine (fT rfl).trans ?_
  refine addM h (.tuple [.str "call", .int ln, fN N x, .int ((N.length : Int) + 1), .int (ts.length : Nat), g0W]) hl rfl ?_
  rw [hf]
  first | rfl | simp only [δ, stW, kw, rs, sDGet, uS, uD, Nat.reduceAdd, Nat.reduceSub, reduceIte, Nat.reduceEqDiff, List.replicate, at2, at3, at4, g0W, ll, if_pos z2, zv7 h.hI, lk_s, yb8 h.hd, j2, if_pos z6]
noncomputable def rE (N : List Str) (ln : Int) : Nat → List Tr → List W
 | _, [] => []
 | a, t :: ts => rws ln (fN N) t (a : Int) ++ rE N ln (a + 1) ts
theorem yi0 (N : List Str) (ln : Int) : ∀ (ts : List Tr) (a : Nat), (rE N ln a ts).length = cntL ts
 | [], _ => rfl
 | t :: ts, a => by simp [rE, zm4, yi0 N ln ts, cntL]
noncomputable def stR (N : List Str) (g : W) (ln : Int) (e : De) : List W := .tuple [.str "tick", .int ln] :: (rE N ln (N.length + 1) (exps e) ++ [lastR N g ln e])
theorem ms_loop {ln : Int} {s1 s2 s3 : Sl} : ∀ (ts : List Tr) (a : Nat) (S : Sto) (rows : List W) (s5 s6 : Sl), (∀ t ∈ ts, okT t ∧ inN N t) → rows.length + cntL ts ≤ 8000 → SH S I r p d nm rows kv (kvF 0 N) →
 ∃ S' s5' s6', zn4 (dgTup 2 (dgCons (dgName 5) (dgCons (dgName 6) dgNil))) b_make_statement_1 (enF a (ts.map tw)) [.val (.ref I), s1, s2, s3, .val (.int ln), s5, s6] S = some (.nx [.val (.ref I), s1, s2, s3, .val (.int ln), s5', s6'], S') ∧ SH S' I r p d nm (rows ++ rE N ln a ts) kv (kvF 0 N)
 | [], a, S, rows, s5, s6, _, _, h => ⟨S, s5, s6, rfl, by simpa [rE] using h⟩
 | t :: ts, a, S, rows, s5, s6, ht, hl, h => by
  have hc : cntL (t :: ts) = cnt t + cntL ts := by simp [cntL]
  have h1 := ht t (by simp)
  have e1 := zy8 ln t 9 (a : Int) S rows h1.1.1 h1.2 (by omega) h
  obtain ⟨S', s5', s6', e2, g⟩ := ms_loop ts (a + 1) _ _ (.val (.int (a : Int))) (.val (tw t)) (fun u hu => ht u (by simp [hu])) (by rw [List.length_append, zm4]; omega) (h.row (rows ++ rws ln (fN N) t (a : Int)))
  refine ⟨S', s5', s6', ?_, by simpa [rE] using g⟩
  exact (zi0 (δ2 := [.val (.ref I), s1, s2, s3, .val (.int ln), .val (.int (a : Int)), .val (tw t)]) rfl (zi6 (zg8 (S1 := S) (by first | rfl | simp only [uS, uD, Nat.reduceAdd, Nat.reduceSub, reduceIte, Nat.reduceEqDiff, List.replicate]) e1))).trans e2
noncomputable def KD (kv kv' : List (List Key × W)) : Prop := ∀ y : Str, valW kv' [Sum.inr (Str.ofString "def"), Sum.inr y] = valW kv [Sum.inr (Str.ofString "def"), Sum.inr y]
theorem kd_tick (kv : List (List Key × W)) (ln : Int) (v : W) : KD kv (putKW kv [Sum.inr (Str.ofString "tick"), Sum.inl ln] v) := fun y => by
 rw [yf8, if_neg (by simp)]
theorem stmt_run (h : SH S I r p d nm rows kv (kvF 0 N)) (ln : Int) (e : De) (lp : W) (ho : okD e) (hi : inD N e) (hl : rows.length + 40 ≤ 8000) (hk : kv.length < 900) (hN : N.length ≤ 8000) : ∃ S' kv', zn0 [.ref I, stW ln e, lp] S = some (.ok .none, S') ∧ SH S' I r p d nm (rows ++ stR N g0W ln e) kv' (kvF 0 N) ∧ kv'.length ≤ kv.length + 1 ∧ KD kv kv' := by
 have z2 := sz 2 (by decide)
 have hc := ho.c
 let δ : DS := [.val (.ref I), .val (stW ln e), .val lp, .val (.str (kw e)), .val (.int ln), .no, .no]
 have g1 := h.spot (putKW kv [Sum.inr (Str.ofString "tick"), Sum.inl ln] (.int rows.length))
 have g2 := g1.row (rows ++ [.tuple [.str "tick", .int ln]])
 obtain ⟨S3, s5, s6, e3, g3⟩ := ms_loop (ln := ln) (s1 := .val (stW ln e)) (s2 := .val lp) (s3 := .val (.str (kw e))) (exps e) (N.length + 1) _ _ .no .no (fun t ht => ⟨ho.t t ht, hi.t t ht⟩) (by simp; omega) g2
 have e4 := rest_run g3 ln e hi (by rw [List.length_append, List.length_append, yi0]; simp; omega)
 rw [show rows ++ [.tuple [.str "tick", .int ln]] ++ rE N ln (N.length + 1) (exps e) ++ [lastR N g0W ln e] = rows ++ stR N g0W ln e by simp [stR]] at e4
 refine ⟨_, _, ?_, g3.row (rows ++ stR N g0W ln e), zz7 _ _ _, kd_tick _ _ _⟩
 refine (ze6 rfl).trans ((congrArg outS (?_ : _ = some (.nx [.val (.ref I), .val (stW ln e), .val lp, .val (.str (kw e)), .val (.int ln), s5, s6], _))).trans rfl)
 refine (zb6 (δ' := [.val (.ref I), .val (stW ln e), .val lp, .val (.str (kw e)), .no, .no, .no]) (S' := S) (by first | rfl | simp only [stW, uS, uD, Nat.reduceAdd, Nat.reduceSub, reduceIte, Nat.reduceEqDiff, List.replicate, startD, at0])).trans ?_
 refine (zb6 (δ' := δ) (S' := S) (by first | rfl | simp only [δ, stW, uS, uD, Nat.reduceAdd, Nat.reduceSub, reduceIte, Nat.reduceEqDiff, List.replicate, at1])).trans ?_
 refine (zb6 (layM h (x := [.str "tick", .int ln]) (ks := [Sum.inr (Str.ofString "tick"), Sum.inl ln]) rfl (by omega) rfl (by first | rfl | simp only [δ, uS, uD, Nat.reduceAdd, Nat.reduceSub, reduceIte, Nat.reduceEqDiff, List.replicate, if_pos z2]))).trans ?_
 refine (zb6 (addM g1 (.tuple [.str "tick", .int ln]) (by omega) rfl (by first | rfl | simp only [δ, uS, uD, Nat.reduceAdd, Nat.reduceSub, reduceIte, Nat.reduceEqDiff, List.replicate, if_pos z2]))).trans ?_
 refine (zb6 ((zo8 (ds := enF (N.length + 1) ((exps e).map tw)) (siEnumS_of (zx8 (by first | rfl | simp only [δ, uD, Nat.reduceAdd, Nat.reduceSub, reduceIte, Nat.reduceEqDiff, List.replicate, exprs_run])) (freeM g2 rfl) (en_l _ _ (by omega)))).trans e3)).trans ?_
 refine (fF rfl (kwn e).2.1).trans ?_
 refine (fF rfl (kwn e).1).trans ?_
 refine (fF rfl (kwn e).2.2.1).trans ?_
 refine (fF rfl (kwn e).2.2.2).trans ?_
 exact zi6 (zg8 (S1 := S3) (ds := [.ref I, stW ln e]) (by first | rfl | simp only [uS, uD, Nat.reduceAdd, Nat.reduceSub, reduceIte, Nat.reduceEqDiff, List.replicate]) e4)
end
noncomputable def allR (N : List Str) (g : W) : Int → List De → List W
 | _, [] => []
 | k, t :: ts => stR N g k t ++ allR N g (k + 1) ts
theorem yf1 (N : List Str) (g : W) (k : Int) {e : De} (h : okD e) : (stR N g k e).length ≤ 33 := by
 have := h.c
 simp [stR, yi0]
 omega
theorem zy3 (N : List Str) (g : W) : ∀ (ts : List De) (k : Int), (∀ e ∈ ts, okD e) → (allR N g k ts).length ≤ 33 * ts.length
 | [], _, _ => by simp [allR]
 | t :: ts, k, h => by
  have := yf1 N g k (h t (by simp))
  have := zy3 N g ts (k + 1) fun e he => h e (by simp [he])
  simp [allR]
  omega
theorem mb_loop {I r p d : Nat} {nm : W} {N : List Str} (s1 lp : W) (hN : N.length ≤ 8000) : ∀ (ts : List De) (k : Int) (S : Sto) (rows : List W) (kv : List (List Key × W)) (s3 : Sl), (∀ t ∈ ts, okD t ∧ inD N t) → rows.length + 40 * ts.length ≤ 7000 → kv.length + ts.length ≤ 800 → SH S I r p d nm rows kv (kvF 0 N) →
 ∃ S' kv' s3', zn4 (dgName 3) b_make_body_1 (bodyW k ts) [.val (.ref I), .val s1, .val lp, s3] S = some (.nx [.val (.ref I), .val s1, .val lp, s3'], S') ∧ SH S' I r p d nm (rows ++ allR N g0W k ts) kv' (kvF 0 N) ∧ kv'.length ≤ kv.length + ts.length ∧ KD kv kv'
 | [], k, S, rows, kv, s3, _, _, _, h => ⟨S, kv, s3, rfl, by simpa [allR] using h, by simp, fun _ => rfl⟩
 | t :: ts, k, S, rows, kv, s3, ht, hl, hk, h => by
  simp only [List.length_cons] at hl hk
  have h1 := ht t (by simp)
  have h2 := yf1 N g0W k h1.1
  obtain ⟨S1, kv1, e1, g1, l1, d1⟩ := stmt_run h k t lp h1.1 h1.2 (by omega) (by omega) hN
  obtain ⟨S', kv', s3', e2, g2, l2, d2⟩ := mb_loop s1 lp hN ts (k + 1) S1 (rows ++ stR N g0W k t) kv1 (.val (stW k t)) (fun u hu => ht u (by simp [hu])) (by rw [List.length_append]; omega) (by omega) g1
  refine ⟨S', kv', s3', ?_, by simpa [allR] using g2, by simp; omega, fun y => (d2 y).trans (d1 y)⟩
  refine (zi0 (δ2 := [.val (.ref I), .val s1, .val lp, .val (stW k t)]) (δ' := [.val (.ref I), .val s1, .val lp, .val (stW k t)]) (S' := S1) rfl ?_).trans e2
  exact zi6 (zg8 (S1 := S) (by first | rfl | simp only [uS, uD, Nat.reduceAdd, Nat.reduceSub, reduceIte, Nat.reduceEqDiff, List.replicate]) e1)
theorem mbody_run {I r p d : Nat} {nm : W} {N : List Str} (lp : W) (hN : N.length ≤ 8000) (ts : List De) (k : Int) (S : Sto) (rows : List W) (kv : List (List Key × W)) (ht : ∀ t ∈ ts, okD t ∧ inD N t) (hl : rows.length + 40 * ts.length ≤ 7000) (hk : kv.length + ts.length ≤ 800) (h : SH S I r p d nm rows kv (kvF 0 N)) :
 ∃ S' kv', zs0 [.ref I, .list (bodyW k ts), lp] S = some (.ok .none, S') ∧ SH S' I r p d nm (rows ++ allR N g0W k ts) kv' (kvF 0 N) ∧ kv'.length ≤ kv.length + ts.length ∧ KD kv kv' := by
 obtain ⟨S', kv', s3', e, g, l, dd⟩ := mb_loop (.list (bodyW k ts)) lp hN ts k S rows kv .no ht hl hk h
 refine ⟨S', kv', ?_, g, l, dd⟩
 refine (ze6 rfl).trans ((congrArg outS (?_ : _ = some (.nx [.val (.ref I), .val (.list (bodyW k ts)), .val lp, s3'], S'))).trans rfl)
 exact (zo8 (S1 := S) (ds := bodyW k ts) (by first | rfl | simp only [uS, uD, Nat.reduceAdd, Nat.reduceSub, reduceIte, Nat.reduceEqDiff, List.replicate, startD])).trans e
theorem nq : Str.ofString "rows" ≠ Str.ofString "spots" ∧ Str.ofString "rows" ≠ Str.ofString "name" ∧ Str.ofString "spots" ≠ Str.ofString "name" ∧ Str.ofString "rows" ≠ Str.ofString "slots" ∧ Str.ofString "spots" ≠ Str.ofString "slots" ∧ Str.ofString "name" ≠ Str.ofString "slots" := by decide +kernel
theorem pw_n (r p d : Nat) (nm x : W) : putW (Str.ofString "name") x (shF r p d nm) = shF r p d x := by simp [shF, putW, nq.2.1, nq.2.2.1]
theorem pw_s (r p d e : Nat) (nm : W) : putW (Str.ofString "slots") (.ref e) (shF r p d nm) = shF r p e nm := by simp [shF, putW, nq.2.2.2.1, nq.2.2.2.2.1, nq.2.2.2.2.2]
theorem init_run (S : Sto) : ∃ S', zn3 [.ref S.length] (S ++ [.ins (Str.ofString "Sheet") []]) = some (.ok .none, S') ∧ SH S' S.length (S.length + 1) (S.length + 2) (S.length + 3) .none [] [] [] := by
 have z0 := sz 0 (by decide)
 let δ : DS := [.val (.ref S.length)]
 let c : Str := Str.ofString "Sheet"
 let S0 : Sto := S ++ [.ins c []]
 have l0 : S0.length = S.length + 1 := by simp [S0]
 have a0 : S0[S.length]? = some (.ins c []) := zu5 _ _
 let S1 : Sto := S0 ++ [.lst []]
 have b1 : S1[S.length + 1]? = some (.lst []) := by rw [← l0]; exact zu5 _ _
 have e1 : ssFld "Sheet" "rows" (sPure (dVar 0)) (sLstS (sPure dNil)) δ S0 = some (.nx δ, S1.set S.length (.ins c (putW (Str.ofString "rows") (.ref (S.length + 1)) []))) := zu3 (by rw [← l0]; simp only [S1, uS, uD, Nat.reduceAdd, Nat.reduceSub, reduceIte, Nat.reduceEqDiff, List.replicate, if_pos z0]) rfl (zq1 a0) (by simp)
 let S2 : Sto := S1.set S.length (.ins c (putW (Str.ofString "rows") (.ref (S.length + 1)) []))
 have l2 : S2.length = S.length + 2 := by simp [S2, S1, l0]
 have a2 : S2[S.length]? = some (.ins c [(Str.ofString "rows", .ref (S.length + 1))]) := set_eq' (zq1 a0)
 have b2 : S2[S.length + 1]? = some (.lst []) := set_ne' b1 (by omega)
 let S3 : Sto := S2 ++ [.dT []]
 have c3 : S3[S.length + 2]? = some (.dT []) := by rw [← l2]; exact zu5 _ _
 have e2 : ssFld "Sheet" "spots" (sPure (dVar 0)) sDT δ S2 = some (.nx δ, S3.set S.length (.ins c (putW (Str.ofString "spots") (.ref (S.length + 2)) [(Str.ofString "rows", .ref (S.length + 1))]))) := zu3 (by rw [← l2]; rfl) rfl (zq1 a2) (by simp)
 let S4 : Sto := S3.set S.length (.ins c (putW (Str.ofString "spots") (.ref (S.length + 2)) [(Str.ofString "rows", .ref (S.length + 1))]))
 have p4 : putW (Str.ofString "spots") (.ref (S.length + 2)) [(Str.ofString "rows", .ref (S.length + 1))] = [(Str.ofString "rows", .ref (S.length + 1)), (Str.ofString "spots", .ref (S.length + 2))] := by simp [putW, nq.1]
 have l4 : S4.length = S.length + 3 := by simp [S4, S3, l2]
 have a4 : S4[S.length]? = some (.ins c [(Str.ofString "rows", .ref (S.length + 1)), (Str.ofString "spots", .ref (S.length + 2))]) := by rw [← p4]; exact set_eq' (zq1 a2)
 have b4 : S4[S.length + 1]? = some (.lst []) := set_ne' (zq1 b2) (by omega)
 have c4 : S4[S.length + 2]? = some (.dT []) := set_ne' c3 (by omega)
 have e3 : ssFld "Sheet" "name" (sPure (dVar 0)) (sPure (dC .none)) δ S4 = some (.nx δ, S4.set S.length (.ins c (putW (Str.ofString "name") .none [(Str.ofString "rows", .ref (S.length + 1)), (Str.ofString "spots", .ref (S.length + 2))]))) := zu3 rfl rfl a4 (by simp)
 let S5 : Sto := S4.set S.length (.ins c (putW (Str.ofString "name") .none [(Str.ofString "rows", .ref (S.length + 1)), (Str.ofString "spots", .ref (S.length + 2))]))
 have p5 : putW (Str.ofString "name") .none [(Str.ofString "rows", .ref (S.length + 1)), (Str.ofString "spots", .ref (S.length + 2))] = [(Str.ofString "rows", .ref (S.length + 1)), (Str.ofString "spots", .ref (S.length + 2)), (Str.ofString "name", .none)] := by simp [putW, nq.2.1, nq.2.2.1]
 have l5 : S5.length = S.length + 3 := by simp [S5, l4]
 have a5 : S5[S.length]? = some (.ins c [(Str.ofString "rows", .ref (S.length + 1)), (Str.ofString "spots", .ref (S.length + 2)), (Str.ofString "name", .none)]) := by rw [← p5]; exact set_eq' a4
 have b5 : S5[S.length + 1]? = some (.lst []) := set_ne' b4 (by omega)
 have c5 : S5[S.length + 2]? = some (.dT []) := set_ne' c4 (by omega)
 let S6 : Sto := S5 ++ [.dK []]
 have d6 : S6[S.length + 3]? = some (.dK []) := by rw [← l5]; exact zu5 _ _
 have e4 : ssFld "Sheet" "slots" (sPure (dVar 0)) sDK δ S5 = some (.nx δ, S6.set S.length (.ins c (putW (Str.ofString "slots") (.ref (S.length + 3)) [(Str.ofString "rows", .ref (S.length + 1)), (Str.ofString "spots", .ref (S.length + 2)), (Str.ofString "name", .none)]))) := zu3 (by rw [← l5]; rfl) rfl (zq1 a5) (by simp)
 have p6 : putW (Str.ofString "slots") (.ref (S.length + 3)) [(Str.ofString "rows", .ref (S.length + 1)), (Str.ofString "spots", .ref (S.length + 2)), (Str.ofString "name", .none)] = shF (S.length + 1) (S.length + 2) (S.length + 3) .none := by simp [shF, putW, nq.2.2.2.1, nq.2.2.2.2.1, nq.2.2.2.2.2]
 rw [p6] at e4
 refine ⟨_, ?_, ⟨set_eq' (zq1 a5), set_ne' (zq1 b5) (by omega), set_ne' (zq1 c5) (by omega), set_ne' d6 (by omega)⟩⟩
 refine (ze6 rfl).trans ((congrArg outS (?_ : _ = some (.nx δ, _))).trans rfl)
 exact (zb6 e1).trans ((zb6 e2).trans ((zb6 e3).trans e4))
theorem yj4 : ∀ (l acc : List Str) (x : Str), x ∈ acc ∨ x ∈ l → x ∈ dd acc l
 | [], acc, x, h => by simpa [dd] using h
 | y :: l, acc, x, h => by
  unfold dd
  refine yj4 l _ x ?_
  rcases h with h | h
  · left
    split
    · exact h
    · simp [h]
  · rcases List.mem_cons.mp h with rfl | h
    · left
      split
      · assumption
      · simp
    · exact .inr h
theorem begin_run {S : Sto} {I r p d e : Nat} {nm : W} {rows : List W} {kv : List (List Key × W)} {sl sl' : List (Key × W)} (h : SH S I r p d nm rows kv sl) (he : S[e]? = some (.dK sl')) (x : Str) (hk : kv.length < 9000) : ∃ S', zp3 [.ref I, .str x, .ref e] S = some (.ok .none, S') ∧ SH S' I r p e (.str x) rows (putKW kv [Sum.inr (Str.ofString "def"), Sum.inr x] (.int rows.length)) sl' := by
 have z2 := sz 2 (by decide)
 let δ : DS := [.val (.ref I), .val (.str x), .val (.ref e)]
 have e1 : ssFld "Sheet" "name" (sPure (dVar 0)) (sPure (dVar 1)) δ S = some (.nx δ, S.set I (.ins (Str.ofString "Sheet") (putW (Str.ofString "name") (.str x) (shF r p d nm)))) := zu3 rfl rfl h.hI (by simp [shF])
 rw [pw_n] at e1
 have i1 : (S.set I (.ins (Str.ofString "Sheet") (shF r p d (.str x))))[I]? = some (.ins (Str.ofString "Sheet") (shF r p d (.str x))) := set_eq' h.hI
 have e2 : ssFld "Sheet" "slots" (sPure (dVar 0)) (sPure (dVar 2)) δ (S.set I (.ins (Str.ofString "Sheet") (shF r p d (.str x)))) = some (.nx δ, (S.set I (.ins (Str.ofString "Sheet") (shF r p d (.str x)))).set I (.ins (Str.ofString "Sheet") (putW (Str.ofString "slots") (.ref e) (shF r p d (.str x))))) := zu3 rfl rfl i1 (by simp [shF])
 rw [pw_s] at e2
 have g : SH ((S.set I (.ins (Str.ofString "Sheet") (shF r p d (.str x)))).set I (.ins (Str.ofString "Sheet") (shF r p e (.str x)))) I r p e (.str x) rows kv sl' :=
  ⟨set_eq' i1, set_ne' (set_ne' h.hr (zn1 h.hI h.hr (by simp))) (zn1 h.hI h.hr (by simp)), set_ne' (set_ne' h.hp (zn1 h.hI h.hp (by simp))) (zn1 h.hI h.hp (by simp)), set_ne' (set_ne' he (zn1 h.hI he (by simp))) (zn1 h.hI he (by simp))⟩
 refine ⟨_, ?_, g.spot _⟩
 refine (ze6 rfl).trans ((congrArg outS (?_ : _ = some (.nx δ, _))).trans rfl)
 exact (zb6 e1).trans ((zb6 e2).trans (layM g (x := [.str "def", .str x]) rfl hk rfl (by first | rfl | simp only [δ, uS, uD, Nat.reduceAdd, Nat.reduceSub, reduceIte, Nat.reduceEqDiff, List.replicate, if_pos z2])))
noncomputable def hdOK (x : W) : Prop := ∃ w xs, x = .tuple (.str w :: xs) ∧ cIn (.str w) (.tuple [.str "split", .str "jump", .str "call"]) = some false
theorem zp6 {x : W} (h : hdOK x) (d : W) (S : Sto) : zq6 [x, d] S = some (.ok x, S) := by
 obtain ⟨w, xs, rfl, h⟩ := h
 have z3 := sz 3 (by decide)
 refine (ze6 rfl).trans ((congrArg outS (?_ : _ = some (.rt (.tuple (.str w :: xs)), S))).trans rfl)
 refine (zb6 (δ' := [.val (.tuple (.str w :: xs)), .val d]) (S' := S) ?_).trans (by first | rfl | simp only [uS, uD, Nat.reduceAdd, Nat.reduceSub, reduceIte, Nat.reduceEqDiff, List.replicate])
 refine (zv6 (S1 := S) (by first | rfl | simp only [uS, uD, Nat.reduceAdd, Nat.reduceSub, reduceIte, Nat.reduceEqDiff, List.replicate, startD, at0, h, if_pos z3])).trans ?_
 first | rfl | simp only [uS, uD, Nat.reduceAdd, Nat.reduceSub, reduceIte, Nat.reduceEqDiff, List.replicate, startD]
theorem yg9 (ln : Int) (f : Str → W) : ∀ (t : Tr) (a : Int), ∀ x ∈ rws ln f t a, hdOK x
 | .num _, _, x, h => by simp only [rws, List.mem_singleton] at h; exact ⟨_, _, h, by decide +kernel⟩
 | .sig _, _, x, h => by simp only [rws, List.mem_singleton] at h; exact ⟨_, _, h, by decide +kernel⟩
 | .nam _, _, x, h => by simp only [rws, List.mem_singleton] at h; exact ⟨_, _, h, by decide +kernel⟩
 | .box t, a, x, h => by
  simp only [rws, List.mem_append, List.mem_singleton] at h
  rcases h with h | h
  · exact yg9 ln f t a x h
  · exact ⟨_, _, h, by decide +kernel⟩
 | .op _ t u, a, x, h => by
  simp only [rws, List.mem_append, List.mem_singleton] at h
  rcases h with h | h | h
  · exact yg9 ln f t a x h
  · exact yg9 ln f u (a + 1) x h
  · exact ⟨_, _, h, by decide +kernel⟩
theorem hd_rE (N : List Str) (ln : Int) : ∀ (ts : List Tr) (a : Nat), ∀ x ∈ rE N ln a ts, hdOK x
 | [], _, x, h => by simp [rE] at h
 | t :: ts, a, x, h => by
  simp only [rE, List.mem_append] at h
  rcases h with h | h
  · exact yg9 _ _ _ _ x h
  · exact hd_rE N ln ts (a + 1) x h
theorem ca_in : cIn (.str "call") (.tuple [.str "split", .str "jump", .str "call"]) = some true := by decide +kernel
theorem settled_call {S : Sto} {p : Nat} {kv : List (List Key × W)} {v w x y z : W} (hp : S[p]? = some (.dT kv)) (hv : valW kv [Sum.inr (Str.ofString "def"), Sum.inr (Str.ofString "qq")] = some v) : zq6 [.tuple [.str "call", w, x, y, z, g0W], .ref p] S = some (.ok (.tuple [.str "call", w, x, y, z, v]), S) := by
 have z3 := sz 3 (by decide)
 have z1 := sz 1 (by decide)
 have z6 := sz 6 (by decide)
 let q : List W := [.str "call", w, x, y, z]
 have a1 : atI [.str "call", w, x, y, z, g0W] (-1) = some g0W := atm1 q g0W
 have c1 : cutW [.str "call", w, x, y, z, g0W] none (some (-1)) = [.str "call", w, x, y, z] := rfl
 have gk : getK (.ref p) g0W S = some (some v) := by simp [getK, obAt, hp, g0W, ye7, keysL, keyOf, hv]
 have ga : gAdd (.tuple [.str "call", w, x, y, z]) (.tuple [v]) = some (.tuple [.str "call", w, x, y, z, v]) := gAdd_t (a := [.str "call", w, x, y, z]) (b := [v]) (by simp) (sz 6 (by decide))
 refine (ze6 rfl).trans ((congrArg outS (?_ : _ = some (.rt (.tuple [.str "call", w, x, y, z, v]), S))).trans rfl)
 refine zq7 ((ya5 (S1 := S) (by first | rfl | simp only [uS, uD, Nat.reduceAdd, Nat.reduceSub, reduceIte, Nat.reduceEqDiff, List.replicate, startD, at0, ca_in, if_pos z3])).trans (zr2 ?_))
 first | rfl | simp only [sOp, sDGet, dUn, uS, uD, Nat.reduceAdd, Nat.reduceSub, reduceIte, Nat.reduceEqDiff, List.replicate, startD, a1, c1, gk, ga, if_pos z1]
section
variable {S : Sto} {p : Nat} {kv : List (List Key × W)} {v : W} (hp : S[p]? = some (.dT kv)) (hv : valW kv [Sum.inr (Str.ofString "def"), Sum.inr (Str.ofString "qq")] = some v)
include hp hv
noncomputable def setR (S : Sto) (p : Nat) (x y : W) : Prop := zq6 [x, .ref p] S = some (.ok y, S)
theorem last_set (N : List Str) (ln : Int) (e : De) : setR S p (lastR N g0W ln e) (lastR N v ln e) := by
 cases e with
 | call x ts => exact settled_call hp hv
 | _ => exact zp6 ⟨_, _, rfl, by decide +kernel⟩ _ _
theorem st_set (N : List Str) (ln : Int) (e : De) : Al (setR S p) (stR N g0W ln e) (stR N v ln e) :=
 .cons (zp6 ⟨_, _, rfl, by decide +kernel⟩ _ _) ((Al.refl fun x h => zp6 (hd_rE _ _ _ _ x h) _ _).app (.cons (last_set hp hv N ln e) .nil))
theorem all_set (N : List Str) : ∀ (ts : List De) (k : Int), Al (setR S p) (allR N g0W k ts) (allR N v k ts)
 | [], _ => .nil
 | t :: ts, k => (st_set hp hv N k t).app (all_set N ts (k + 1))
end
theorem inDN {ps : List Str} {ds : List De} {d : De} (h : d ∈ ds) : inD (dd [] (ps ++ allN ds)) d :=
 ⟨fun x hx => yj4 _ _ _ (.inr (List.mem_append.mpr (.inr (List.mem_flatMap.mpr ⟨d, h, by simp [dN, hx]⟩)))), fun t ht x hx => yj4 _ _ _ (.inr (List.mem_append.mpr (.inr (List.mem_flatMap.mpr ⟨d, h, List.mem_append.mpr (.inr (List.mem_flatMap.mpr ⟨t, ht, hx⟩))⟩))))⟩
theorem dd0_len {ps : List Str} {ds : List De} (hp : ps.length ≤ 10) (hl : ds.length ≤ 100) (ho : ∀ d ∈ ds, okD d) : (dd [] (ps ++ allN ds)).length ≤ 8000 := by
 have := yb3 (ps ++ allN ds) []
 have := yc8 ho
 simp at *
 omega
noncomputable def backW (l : Int) : W := .tuple [.str "back", .int l]
theorem nd1 : Str.ofString "last" ≠ Str.ofString "def" := by decide +kernel
theorem md_step {S : Sto} {I r p d : Nat} {nm : W} {rows : List W} {kv : List (List Key × W)} {sl : List (Key × W)} (h : SH S I r p d nm rows kv sl) (x : Str) (ps : List Str) (ds : List De) (k last : Int) (s0 s2 s6 : Sl) (hp : ps.length ≤ 10) (hl : ds.length ≤ 100) (ho : ∀ d ∈ ds, okD d) (hr : rows.length ≤ 2900) (hk : kv.length ≤ 400) :
 ∃ S' d' kv', b_made_1 [s0, .val (.ref I), s2, .val (.str x), .val (.list (ps.map .str)), .val (.list (bodyW k ds)), s6, .val (.int last)] S = some (.nx [s0, .val (.ref I), s2, .val (.str x), .val (.list (ps.map .str)), .val (.list (bodyW k ds)), s6, .val (.int last)], S') ∧ SH S' I r p d' (.str x) (rows ++ allR (dd [] (ps ++ allN ds)) g0W k ds ++ [backW last]) kv' (kvF 0 (dd [] (ps ++ allN ds))) ∧ kv'.length ≤ kv.length + ds.length + 2 ∧ valW kv' [Sum.inr (Str.ofString "def"), Sum.inr x] = some (.int rows.length) := by
 have z2 := sz 2 (by decide)
 obtain ⟨S1, e1, h1, k1⟩ := slots_run ps ds k S ho (by omega) hp
 have g1 : SH S1 I r p d nm rows kv sl := ⟨zx9 k1 rfl h.hI, zx9 k1 rfl h.hr, zx9 k1 rfl h.hp, zx9 k1 rfl h.hd⟩
 obtain ⟨S2, e2, g2⟩ := begin_run g1 h1 x (by omega)
 have l2 := zz7 kv [Sum.inr (Str.ofString "def"), Sum.inr x] (.int rows.length)
 obtain ⟨S3, kv3, e3, g3, l3, d3⟩ := mbody_run .none (dd0_len hp hl ho) ds k S2 rows _ (fun t ht => ⟨ho t ht, inDN ht⟩) (by omega) (by omega) g2
 have al := zy3 (dd [] (ps ++ allN ds)) g0W ds k ho
 have l4 := zz7 kv3 [Sum.inr (Str.ofString "last"), Sum.inr x] (.int (rows ++ allR (dd [] (ps ++ allN ds)) g0W k ds).length)
 have g4 := g3.spot (putKW kv3 [Sum.inr (Str.ofString "last"), Sum.inr x] (.int (rows ++ allR (dd [] (ps ++ allN ds)) g0W k ds).length))
 refine ⟨_, S.length, _, ?_, g4.row _, by omega, ?_⟩
 · refine (zb6 (zi6 (zy1 (S1 := S1) (fs := shF r p d nm) (I := I) (ds := [.str x, .ref S.length]) rfl h.hI (lk_m _ m_begin _ _ _ _) (zi8 (S1 := S) rfl (zi8 (S1 := S1) (zg8 (S1 := S) (by first | rfl | simp only [uS, uD, Nat.reduceAdd, Nat.reduceSub, reduceIte, Nat.reduceEqDiff, List.replicate]) e1) rfl)) e2))).trans ?_
   refine (zb6 (zi6 (zg8 (S1 := S2) (by first | rfl | simp only [uS, uD, Nat.reduceAdd, Nat.reduceSub, reduceIte, Nat.reduceEqDiff, List.replicate]) e3))).trans ?_
   refine (zb6 (layM g3 (x := [.str "last", .str x]) rfl (by omega) rfl (by first | rfl | simp only [uS, uD, Nat.reduceAdd, Nat.reduceSub, reduceIte, Nat.reduceEqDiff, List.replicate, if_pos z2]))).trans ?_
   exact addM g4 (backW last) (by simp; omega) rfl (by first | rfl | simp only [backW, uS, uD, Nat.reduceAdd, Nat.reduceSub, reduceIte, Nat.reduceEqDiff, List.replicate, if_pos z2])
 · rw [yf8, if_neg (by simp [nd1.symm]), d3, yf8, if_pos rfl]
noncomputable def mW (N : List De) (b e : Int) : W := .tuple [.str "main", .list [], .list (bodyW (b + 1) N), .int b, .int e]
noncomputable def qW (ps : List Str) (b e : Int) : W := .tuple [.str "qq", .list (ps.map .str), .list [], .int b, .int e]
noncomputable def prW (o : Bool) (m q : W) : List W := if o then [q, m] else [m, q]
theorem mq1 : decide (Str.ofString "qq" = Str.ofString "main") = false := by decide +kernel
theorem f_main (o : Bool) (ds : List De) (ps : List Str) (b e b' e' : Int) : zi3 (dgName 0) (dCmp cEq (dOp gIx (dPk 0) (dC (.int (0)))) (dC (.str "main"))) (dVar 0) [.no] (prW o (mW ds b e) (qW ps b' e')) = some [mW ds b e] := by
 cases o <;> simp only [prW, if_true, Bool.false_eq_true, if_false, zi3, mW, qW, uD, Nat.reduceAdd, Nat.reduceSub, reduceIte, Nat.reduceEqDiff, List.replicate, at0, mq1, decide_true]
theorem f_other (o : Bool) (ds : List De) (ps : List Str) (b e b' e' : Int) : zi3 (dgName 0) (dCmp cNe (dOp gIx (dPk 0) (dC (.int (0)))) (dC (.str "main"))) (dVar 0) [.no] (prW o (mW ds b e) (qW ps b' e')) = some [qW ps b' e'] := by
 cases o <;> simp only [prW, if_true, Bool.false_eq_true, if_false, zi3, mW, qW, uD, Nat.reduceAdd, Nat.reduceSub, reduceIte, Nat.reduceEqDiff, List.replicate, at0, mq1, decide_true]
theorem prW_len (o : Bool) (m q : W) : (prW o m q).length = 2 := by cases o <;> rfl
noncomputable def NN (ds : List De) : List Str := dd [] (allN ds)
noncomputable def topR (ds : List De) (g : W) (b e : Int) : List W := allR (NN ds) g (b + 1) ds ++ [backW e]
noncomputable def gW (ds : List De) (b e : Int) : W := .int (topR ds g0W b e).length
noncomputable def zv1 (ds : List De) (b e e' : Int) : List W := topR ds (gW ds b e) b e ++ [backW e']
theorem made_run (o : Bool) (ds : List De) (ps : List Str) (b e b' e' : Int) (S : Sto) (ho : ∀ d ∈ ds, okD d) (hl : ds.length ≤ 63) (hp : ps.length ≤ 10) : ∃ S', yh8 [.list (prW o (mW ds b e) (qW ps b' e'))] S = some (.ok (.list (zv1 ds b e e')), S') := by
 have z2 := sz 2 (by decide)
 obtain ⟨S0, e0, g0⟩ := init_run S
 let pr : W := .list (prW o (mW ds b e) (qW ps b' e'))
 let od : W := .list [mW ds b e, qW ps b' e']
 obtain ⟨S1, d1, kv1, e1, g1, l1, v1⟩ := md_step g0 (Str.ofString "main") [] ds (b + 1) e (.val pr) (.val od) (.val (.int b)) (by simp) (by omega) ho (by simp) (by simp)
 have al := zy3 (dd [] ([] ++ allN ds)) g0W ds (b + 1) ho
 obtain ⟨S2, d2, kv2, e2, g2, l2, v2⟩ := md_step g1 (Str.ofString "qq") ps [] 0 e' (.val pr) (.val od) (.val (.int b')) hp (by simp) (by simp) (by simp at al ⊢; omega) (by simp at l1; omega)
 have er : [] ++ allR (dd [] ([] ++ allN ds)) g0W (b + 1) ds ++ [backW e] = topR ds g0W b e := by simp [topR, NN]
 rw [er] at g2 v2
 have er2 : topR ds g0W b e ++ allR (dd [] (ps ++ allN [])) g0W 0 [] ++ [backW e'] = topR ds g0W b e ++ [backW e'] := by simp [allR]
 rw [er2] at g2
 have g5 := g2
 refine ⟨S2, ?_⟩
 refine (ze6 rfl).trans ((congrArg outS (?_ : _ = some (.rt (.list (zv1 ds b e e')), S2))).trans rfl)
 refine (zb6 (δ' := [.val pr, .val (.ref S.length), .no, .no, .no, .no, .no, .no]) (S' := S0) (zp5 (sMake_of (S1 := S) (ds := []) rfl e0) rfl)).trans ?_
 refine (zb6 (δ' := [.val pr, .val (.ref S.length), .val od, .no, .no, .no, .no, .no]) (S' := S0) ?_).trans ?_
 · have ga : gAdd (.list [mW ds b e]) (.list [qW ps b' e']) = some od := ye6 (a := [mW ds b e]) (b := [qW ps b' e']) (sz 2 (by decide))
   have zp : (prW o (mW ds b e) (qW ps b' e')).length ≤ sizeLine := sz _ (by rw [prW_len]; decide)
   refine zm6 (zp1 (d := od) ?_ rfl)
   first | rfl | simp only [pr, uD, Nat.reduceAdd, Nat.reduceSub, reduceIte, Nat.reduceEqDiff, List.replicate, if_pos zp]
   rw [f_main, f_other]
   first | rfl | simp only [Option.bind_some, Option.map_some, ga]
 refine (zb6 ((zo8 (S1 := S0) (ds := [mW ds b e, qW ps b' e']) (by first | rfl | simp only [od, uS, uD, Nat.reduceAdd, Nat.reduceSub, reduceIte, Nat.reduceEqDiff, List.replicate])).trans ((zi0 (by simp only [mW, uD, Nat.reduceAdd, Nat.reduceSub, reduceIte, Nat.reduceEqDiff, List.replicate] <;> rfl) e1).trans ((zi0 (by simp only [qW, uD, Nat.reduceAdd, Nat.reduceSub, reduceIte, Nat.reduceEqDiff, List.replicate] <;> rfl) e2).trans rfl)))).trans ?_
 refine zr2 (sCompL_of (n := (S.length + 1, false)) (S0 := S2) ?_ (by decide) ?_)
 · first | rfl | simp only [uS, uD, Nat.reduceAdd, Nat.reduceSub, reduceIte, Nat.reduceEqDiff, List.replicate, zv7 g5.hI, lk_r, zr7 g5.hr]
 · have A : Al (setR S2 (S.length + 2)) (topR ds g0W b e ++ [backW e']) (zv1 ds b e e') := ((all_set g5.hp v2 _ _ _).app (.cons (zp6 ⟨_, _, rfl, by decide +kernel⟩ _ _) .nil)).app (.cons (zp6 ⟨_, _, rfl, by decide +kernel⟩ _ _) .nil)
   have hs : ∀ x y, setR S2 (S.length + 2) x y → ∃ δ2, dgName 1 x [.val (.ref S.length), .no] = some δ2 ∧ sCall zq6 (sCons (sPure (dVar 1)) (sCons (sFldR "Sheet" "spots" (sPure (dVar 0))) sNil)) δ2 S2 = some (.ok y, S2) := fun x y hxy => by
    refine ⟨_, rfl, zg8 (S1 := S2) (ds := [x, .ref (S.length + 2)]) ?_ hxy⟩
    first | rfl | simp only [uS, uD, Nat.reduceAdd, Nat.reduceSub, reduceIte, Nat.reduceEqDiff, List.replicate, zv7 g5.hI, lk_p]
   have := compL_al (lookE_l g5.hr) hs A 9000 0 rfl (by simp [topR, NN] at al ⊢; omega)
   rw [show liftD [some 1, none] [.val pr, .val (.ref S.length), .val od, .val (.str "qq"), .val (.list (ps.map .str)), .val (.list (bodyW 0 [])), .val (.int b'), .val (.int e')] = [.val (.ref S.length), .no] from rfl]
   exact this
theorem yi9 : ∀ (acc : List Str), vsOf (acc.map .str) = some (acc.map V.str)
 | [] => rfl
 | x :: acc => by
  show ((some (V.str x)).bind fun v => (vsOf (acc.map .str)).map (v :: ·)) = _
  rw [yi9 acc]
  rfl
theorem in_str (x : Str) : ∀ (acc : List Str), inV (.str x) (acc.map V.str) = decide (x ∈ acc)
 | [] => rfl
 | y :: acc => by
  have ih := in_str x acc
  unfold inV at ih ⊢
  rw [List.map_cons, List.any_cons, ih]
  have : eqV (V.str y) (V.str x) = decide (y = x) := by
   show (y == x) = _
   by_cases h : y = x <;> simp [h]
  rw [this]
  by_cases h : y = x
  · subst h; simp
  · have h' : ¬ x = y := fun z => h z.symm
    simp [h, h']
theorem yj5 {S : Sto} {l : Nat} {acc : List Str} (h : S[l]? = some (.lst (acc.map .str))) (x : Str) : cInS (.str x) (.ref l) S = some (decide (x ∈ acc)) := by
 have e1 : seqS (.ref l) S = some (acc.map .str) := by simp [seqS, zr7 h]
 first | rfl | simp only [cInS, e1, Option.bind_some, vOf, yi9, Option.map_some, in_str]
theorem ye2 : ∀ (a acc b : List Str), dd acc (a ++ b) = dd (dd acc a) b
 | [], acc, b => rfl
 | x :: a, acc, b => by simp only [List.cons_append, dd, ye2 a]
theorem zu0 : ∀ (t : Tr) (n : Nat) (acc : List Str) (S : Sto) (l : Nat), dep t < n → acc.length + cnt t ≤ 8000 → S[l]? = some (.lst (acc.map .str)) → ∃ S', zc5 n [tw t, .ref l] S = some (.ok .none, S') ∧ S'[l]? = some (.lst ((dd acc (nms t)).map .str))
 | _, 0, _, _, _, h, _, _ => absurd h (Nat.not_lt_zero _)
 | .num v, n + 1, acc, S, l, _, hl, h => by
  refine ⟨S, ?_, by simpa [nms, nmL, lvs, dd] using h⟩
  first | rfl | simp only [zc5, tw, uS, uD, Nat.reduceAdd, Nat.reduceSub, reduceIte, Nat.reduceEqDiff, List.replicate, at0, nu2, decide_true]
 | .sig k, n + 1, acc, S, l, _, hl, h => by
  refine ⟨S, ?_, by simpa [nms, nmL, lvs, dd] using h⟩
  first | rfl | simp only [zc5, tw, ssFor, zn4, uS, uD, Nat.reduceAdd, Nat.reduceSub, reduceIte, Nat.reduceEqDiff, List.replicate, at0, sg1, sg2, cut_1]
 | .nam x, n + 1, acc, S, l, _, hl, h => by
  simp only [cnt] at hl
  have hz : (acc.map W.str).length < sizeLine := Nat.lt_of_lt_of_le (by simp; omega) (sz 9000 (by decide))
  by_cases hx : x ∈ acc
  · refine ⟨S, ?_, by simpa [nms, nmL, lvs, dd, hx] using h⟩
    first | rfl | simp only [zc5, tw, sInS, uS, uD, Nat.reduceAdd, Nat.reduceSub, reduceIte, Nat.reduceEqDiff, List.replicate, at0, at1, decide_true, yj5 h, hx]
  · refine ⟨S.set l (.lst (acc.map .str ++ [.str x])), ?_, by simpa [nms, nmL, lvs, dd, hx] using set_eq' h⟩
    first | rfl | simp only [zc5, tw, sInS, zo1, uS, uD, Nat.reduceAdd, Nat.reduceSub, reduceIte, Nat.reduceEqDiff, List.replicate, at0, at1, decide_true, yj5 h, hx, zr7 h, Option.isSome_some, if_pos hz]
 | .box t, n + 1, acc, S, l, hd, hl, h => by
  simp only [cnt] at hl
  simp only [dep] at hd
  obtain ⟨S', e, g⟩ := zu0 t n acc S l (by omega) (by omega) h
  refine ⟨S', ?_, by simpa [nms, lvs] using g⟩
  have st : zl8 (zc5 n) [.val (tw (.box t)), .val (.ref l), .val (tw t)] S = some (.nx [.val (tw (.box t)), .val (.ref l), .val (tw t)], S') := zi6 (zg8 (S1 := S) (by first | rfl | simp only [uS, uD, Nat.reduceAdd, Nat.reduceSub, reduceIte, Nat.reduceEqDiff, List.replicate]) e)
  show bodyS 2 3 _ _ _ = _
  refine (ze6 rfl).trans ((congrArg outS (?_ : _ = some (.nx [.val (tw (.box t)), .val (.ref l), .val (tw t)], S'))).trans rfl)
  refine (zb6 (δ' := [.val (tw (.box t)), .val (.ref l), .no]) (S' := S) ?_).trans ?_
  · exact (zv6 (S1 := S) (yj3 (sF (x0 rfl) bx2))).trans rfl
  refine (ya5 (S1 := S) (by first | rfl | simp only [tw, uS, uD, Nat.reduceAdd, Nat.reduceSub, reduceIte, Nat.reduceEqDiff, List.replicate, at0, bx1, bx2])).trans ?_
  refine (zo8 (S1 := S) (ds := [tw t]) (by first | rfl | simp only [tw, uS, uD, Nat.reduceAdd, Nat.reduceSub, reduceIte, Nat.reduceEqDiff, List.replicate, cut_1])).trans ?_
  exact (zi0 rfl st).trans rfl
 | .op k t u, n + 1, acc, S, l, hd, hl, h => by
  simp only [cnt] at hl
  simp only [dep] at hd
  obtain ⟨S1, e1, g1⟩ := zu0 t n acc S l (by omega) (by omega) h
  have l1 := yb3 (nms t) acc
  have l2 := yd3 t
  obtain ⟨S', e, g⟩ := zu0 u n (dd acc (nms t)) S1 l (by omega) (by omega) g1
  refine ⟨S', ?_, by rw [zu8, ye2]; exact g⟩
  have s1 : zl8 (zc5 n) [.val (tw (.op k t u)), .val (.ref l), .val (tw t)] S = some (.nx [.val (tw (.op k t u)), .val (.ref l), .val (tw t)], S1) := zi6 (zg8 (S1 := S) (by first | rfl | simp only [uS, uD, Nat.reduceAdd, Nat.reduceSub, reduceIte, Nat.reduceEqDiff, List.replicate]) e1)
  have s2 : zl8 (zc5 n) [.val (tw (.op k t u)), .val (.ref l), .val (tw u)] S1 = some (.nx [.val (tw (.op k t u)), .val (.ref l), .val (tw u)], S') := zi6 (zg8 (S1 := S1) (by first | rfl | simp only [uS, uD, Nat.reduceAdd, Nat.reduceSub, reduceIte, Nat.reduceEqDiff, List.replicate]) e)
  show bodyS 2 3 _ _ _ = _
  refine (ze6 rfl).trans ((congrArg outS (?_ : _ = some (.nx [.val (tw (.op k t u)), .val (.ref l), .val (tw u)], S'))).trans rfl)
  refine (zb6 (δ' := [.val (tw (.op k t u)), .val (.ref l), .no]) (S' := S) ?_).trans ?_
  · exact (zv6 (S1 := S) (yj3 (sF (x0 rfl) (op2 k)))).trans rfl
  refine (ya5 (S1 := S) (by first | rfl | simp only [tw, uS, uD, Nat.reduceAdd, Nat.reduceSub, reduceIte, Nat.reduceEqDiff, List.replicate, at0, op1, op2])).trans ?_
  refine (zo8 (S1 := S) (ds := [tw t, tw u]) (by first | rfl | simp only [tw, uS, uD, Nat.reduceAdd, Nat.reduceSub, reduceIte, Nat.reduceEqDiff, List.replicate, cut_1])).trans ?_
  exact (zi0 rfl s1).trans ((zi0 rfl s2).trans rfl)
theorem am3 (a b c : W) : atI [a, b, c] (-1) = some c := atm1 [a, b] c
theorem am4 (a b c d : W) : atI [a, b, c, d] (-1) = some d := atm1 [a, b, c] d
theorem am5 (a b c d e : W) : atI [a, b, c, d, e] (-1) = some e := atm1 [a, b, c, d] e
theorem orT {f g : DS → Option Bool} {δ : DS} (h1 : f δ = some true) : dOr f g δ = some true := by simp only [dOr, h1, Option.bind_some, if_true]
theorem orF {f g : DS → Option Bool} {δ : DS} {b : Bool} (h1 : f δ = some false) (h2 : g δ = some b) : dOr f g δ = some b := by simp only [dOr, h1, Option.bind_some, Bool.false_eq_true, if_false, h2]
theorem lexp_run (k : Int) (d : De) : zg7 [stW k d] = some (.list ((exps d).map tw)) := by
 have z0 := sz 0 (by decide)
 have z1 := sz 1 (by decide)
 have z2 := sz 2 (by decide)
 refine zk6 rfl ?_
 cases d with
 | set x t =>
  refine (iF (x0 rfl) q_set.2.2.2.2.2.1).trans ?_
  refine (iF (x0 rfl) q_set.2.2.2.2.1).trans ?_
  refine zd6 (zj9 (b := false) (orF (tF (x0 rfl) q_set.2.2.2.2.2.2.2.2.2.1) (tF (x0 rfl) q_set.2.2.2.2.2.2.2.2.2.2)) rfl) ?_
  exact zf8 (by first | rfl | simp only [dUn, stW, rs, exps, uD, Nat.reduceAdd, Nat.reduceSub, reduceIte, Nat.reduceEqDiff, List.replicate, am4, if_pos z1])
 | put a b =>
  refine (iF (x0 rfl) q_put.2.2.2.2.2.1).trans ?_
  exact iT (x0 rfl) (zf8 (by first | rfl | simp only [stW, rs, exps, uD, Nat.reduceAdd, Nat.reduceSub, reduceIte, Nat.reduceEqDiff, List.replicate, at2, at3, if_pos z2]))
 | tell t =>
  refine (iF (x0 rfl) q_tell.2.2.2.2.2.2.1).trans ?_
  refine (iF (x0 rfl) q_tell.2.2.2.2.1).trans ?_
  refine zd6 (zj9 (b := false) (orF (tF (x0 rfl) q_tell.2.2.2.2.2.2.2.2.2.1) (tF (x0 rfl) q_tell.2.2.2.2.2.2.2.2.2.2)) rfl) ?_
  exact zf8 (by first | rfl | simp only [dUn, stW, rs, exps, uD, Nat.reduceAdd, Nat.reduceSub, reduceIte, Nat.reduceEqDiff, List.replicate, am3, if_pos z1])
 | join x j t =>
  refine (iF (x0 rfl) q_join.2.2.2.2.2.2.1).trans ?_
  refine (iF (x0 rfl) q_join.2.2.2.2.1).trans ?_
  refine zd6 (zj9 (b := false) (orF (tF (x0 rfl) q_join.2.2.2.2.2.2.2.2.2.1) (tF (x0 rfl) q_join.2.2.2.2.2.2.2.2.2.2)) rfl) ?_
  exact zf8 (by first | rfl | simp only [dUn, stW, rs, exps, uD, Nat.reduceAdd, Nat.reduceSub, reduceIte, Nat.reduceEqDiff, List.replicate, am5, if_pos z1])
 | meet =>
  refine (iF (x0 rfl) q_meet.2.2.2.2.2.2.1).trans ?_
  refine (iF (x0 rfl) q_meet.2.2.2.2.1).trans ?_
  exact yb2 (zj9 (b := true) (orT (tT (x0 rfl))) (zf8 (by first | rfl | simp only [exps, uD, Nat.reduceAdd, Nat.reduceSub, reduceIte, Nat.reduceEqDiff, List.replicate, if_pos z0])))
 | stop =>
  refine (iF (x0 rfl) q_stop.2.2.2.2.2.2.1).trans ?_
  refine (iF (x0 rfl) q_stop.2.2.2.2.1).trans ?_
  exact yb2 (zj9 (b := true) (orF (tF (x0 rfl) q_stop.2.2.2.2.2.2.2.2.2.2) (tT (x0 rfl))) (zf8 (by first | rfl | simp only [exps, uD, Nat.reduceAdd, Nat.reduceSub, reduceIte, Nat.reduceEqDiff, List.replicate, if_pos z0])))
 | call x ts =>
  exact iT (x0 rfl) (zf8 (x4 rfl))
theorem lx_loop : ∀ (ts : List Tr) (acc : List Str) (S : Sto) (l : Nat) (s0 s2 s3 : Sl), (∀ t ∈ ts, okT t) → acc.length + cntL ts ≤ 8000 → S[l]? = some (.lst (acc.map .str)) → ∃ S' s3', zn4 (dgName 3) b__law_names_1 (ts.map tw) [s0, .val (.ref l), s2, s3] S = some (.nx [s0, .val (.ref l), s2, s3'], S') ∧ S'[l]? = some (.lst ((dd acc (eN ts)).map .str))
 | [], acc, S, l, s0, s2, s3, _, _, h => ⟨S, s3, rfl, by simpa [eN, dd] using h⟩
 | t :: ts, acc, S, l, s0, s2, s3, ht, hl, h => by
  have hc : cntL (t :: ts) = cnt t + cntL ts := by simp [cntL]
  obtain ⟨S1, e1, h1⟩ := zu0 t 9 acc S l (ht t (by simp)).1 (by omega) h
  have l1 := yb3 (nms t) acc
  have l2 := yd3 t
  obtain ⟨S', s3', e2, h2⟩ := lx_loop ts (dd acc (nms t)) S1 l s0 s2 (.val (tw t)) (fun u hu => ht u (by simp [hu])) (by omega) h1
  refine ⟨S', s3', ?_, by simpa [eN, ye2] using h2⟩
  exact (zi0 (δ2 := [s0, .val (.ref l), s2, .val (tw t)]) rfl (zi6 (zg8 (S1 := S) (ds := [tw t, .ref l]) (by first | rfl | simp only [uS, uD, Nat.reduceAdd, Nat.reduceSub, reduceIte, Nat.reduceEqDiff, List.replicate]) e1))).trans e2
theorem lg_step (k : Int) (d : De) (acc : List Str) (S : Sto) (l : Nat) (s0 s3 : Sl) (hl : acc.length < 8000) (h : S[l]? = some (.lst (acc.map .str))) : ∃ S', ssIf (sAnd (sPure (dCmp cIn (dOp gIx (dPk 2) (dC (.int (0)))) (dTup (dCons (dC (.str "set")) (dCons (dC (.str "join")) (dCons (dC (.str "call")) dNil)))))) (sInS true (sPure (dOp gIx (dPk 2) (dC (.int (2))))) (sPure (dVar 1)))) (zo1 (sPure (dVar 1)) (sPure (dOp gIx (dPk 2) (dC (.int (2)))))) (ssPure dsNext) [s0, .val (.ref l), .val (stW k d), s3] S = some (.nx [s0, .val (.ref l), .val (stW k d), s3], S') ∧ S'[l]? = some (.lst ((dd acc (giv d)).map .str)) := by
 have z3 := sz 3 (by decide)
 cases hg : giv d with
 | nil =>
  refine ⟨S, (zv6 (S1 := S) (yj3 ?_)).trans rfl, by simpa [dd] using h⟩
  cases d <;> first | (simp [giv] at hg; done) | simp only [stW, kw, uS, uD, Nat.reduceAdd, Nat.reduceSub, reduceIte, Nat.reduceEqDiff, List.replicate, at0, i3, if_pos z3]
 | cons x r =>
  have hr : r = [] := by cases d <;> simp_all [giv]
  subst hr
  have c1 : sPure (dCmp cIn (dOp gIx (dPk 2) (dC (.int (0)))) (dTup (dCons (dC (.str "set")) (dCons (dC (.str "join")) (dCons (dC (.str "call")) dNil))))) [s0, .val (.ref l), .val (stW k d), s3] S = some (.ok true, S) := by
   cases d <;> first | (simp [giv] at hg; done) | simp only [stW, kw, uS, uD, Nat.reduceAdd, Nat.reduceSub, reduceIte, Nat.reduceEqDiff, List.replicate, at0, i3, if_pos z3]
  have a2 : dOp gIx (dPk 2) (dC (.int (2))) [s0, .val (.ref l), .val (stW k d), s3] = some (.str x) := by
   cases d <;> first | (simp [giv] at hg; done) | (simp only [giv, List.cons.injEq, and_true] at hg; subst hg; simp only [stW, rs, uD, Nat.reduceAdd, Nat.reduceSub, reduceIte, Nat.reduceEqDiff, List.replicate, at2])
  have c2 : sInS true (sPure (dOp gIx (dPk 2) (dC (.int (2))))) (sPure (dVar 1)) [s0, .val (.ref l), .val (stW k d), s3] S = some (.ok (!decide (x ∈ acc)), S) := by
   first | rfl | simp only [sInS, sPure, a2, uS, uD, Nat.reduceAdd, Nat.reduceSub, reduceIte, Nat.reduceEqDiff, List.replicate, yj5 h]
  by_cases hx : x ∈ acc
  · refine ⟨S, (zv6 (S1 := S) (sAnd_t c1 (by rw [c2]; simp [hx]))).trans rfl, by simpa [dd, hx] using h⟩
  · refine ⟨_, (ya5 (S1 := S) (sAnd_t c1 (by rw [c2]; simp [hx]))).trans (zv0 rfl h (zx8 a2) (by simp; omega)), by simpa [dd, hx] using set_eq' h⟩
theorem ln_loop : ∀ (ds : List De) (k : Int) (acc : List Str) (S : Sto) (l : Nat) (s0 s2 s3 : Sl), (∀ t ∈ ds, okD t) → acc.length + 32 * ds.length ≤ 7900 → S[l]? = some (.lst (acc.map .str)) → ∃ S' s2' s3', zn4 (dgName 2) b__law_names_2 (bodyW k ds) [s0, .val (.ref l), s2, s3] S = some (.nx [s0, .val (.ref l), s2', s3'], S') ∧ S'[l]? = some (.lst ((dd acc (allN ds)).map .str))
 | [], k, acc, S, l, s0, s2, s3, _, _, h => ⟨S, s2, s3, rfl, by simpa [allN, dd] using h⟩
 | d :: ds, k, acc, S, l, s0, s2, s3, ht, hl, h => by
  have hd := ht d (by simp)
  have hc := hd.c
  have hg := yg3 d
  have hn := yk7 hd
  simp only [List.length_cons] at hl
  obtain ⟨S1, e1, h1⟩ := lg_step k d acc S l s0 s3 (by omega) h
  have l1 := yb3 (giv d) acc
  obtain ⟨S2, s3a, e2, h2⟩ := lx_loop (exps d) (dd acc (giv d)) S1 l s0 (.val (stW k d)) s3 hd.t (by omega) h1
  rw [← ye2] at h2
  have l2 := yb3 (dN d) acc
  obtain ⟨S', s2', s3', e3, h3⟩ := ln_loop ds (k + 1) (dd acc (dN d)) S2 l s0 (.val (stW k d)) s3a (fun u hu => ht u (by simp [hu])) (by omega) h2
  refine ⟨S', s2', s3', ?_, by simpa [allN, ye2] using h3⟩
  refine (zi0 (δ2 := [s0, .val (.ref l), .val (stW k d), s3]) rfl ((zb6 e1).trans ((zo8 (S1 := S1) (ds := (exps d).map tw) (by first | rfl | simp only [uS, uD, Nat.reduceAdd, Nat.reduceSub, reduceIte, Nat.reduceEqDiff, List.replicate, lexp_run])).trans e2))).trans e3
theorem lawn_run (ds : List De) (k : Int) (S : Sto) (ht : ∀ t ∈ ds, okD t) (hl : ds.length ≤ 100) : ∃ S', zq8 [.list (bodyW k ds)] S = some (.ok (.ref S.length), S') ∧ S'[S.length]? = some (.lst ((NN ds).map .str)) := by
 have z0 := sz 0 (by decide)
 obtain ⟨S', s2', s3', e, h⟩ := ln_loop ds k [] (S ++ [.lst []]) S.length (.val (.list (bodyW k ds))) .no .no ht (by simp; omega) (zu5 _ _)
 refine ⟨S', ?_, h⟩
 refine (ze6 rfl).trans ((congrArg outS (?_ : _ = some (.rt (.ref S.length), S'))).trans rfl)
 refine (zb6 (δ' := [.val (.list (bodyW k ds)), .val (.ref S.length), .no, .no]) (S' := S ++ [.lst []]) (zp5 (d := .ref S.length) (by first | rfl | simp only [uS, uD, Nat.reduceAdd, Nat.reduceSub, reduceIte, Nat.reduceEqDiff, List.replicate, startD, if_pos z0]) rfl)).trans ?_
 refine (zb6 ((zo8 (S1 := S ++ [.lst []]) (ds := bodyW k ds) (by first | rfl | simp only [uS, uD, Nat.reduceAdd, Nat.reduceSub, reduceIte, Nat.reduceEqDiff, List.replicate])).trans e)).trans ?_
 first | rfl | simp only [uS, uD, Nat.reduceAdd, Nat.reduceSub, reduceIte, Nat.reduceEqDiff, List.replicate]
theorem sOp_of {g : W → W → Option W} {fa fb : DS → Sto → SM W} {δ : DS} {S S1 S2 : Sto} {x y z : W} (h1 : fa δ S = some (.ok x, S1)) (h2 : fb δ S1 = some (.ok y, S2)) (h3 : g x y = some z) : sOp g fa fb δ S = some (.ok z, S2) := by
 first | rfl | simp only [sOp, h1, sBind, h2, sOk, h3, Option.map_some]
theorem yg5 {fa : DS → Sto → SM (List W)} {δ : DS} {S S1 : Sto} {ds : List W} (h : fa δ S = some (.ok ds, S1)) (hl : ds.length ≤ sizeLine) : sTup fa δ S = some (.ok (.tuple ds), S1) := by
 first | rfl | simp only [sTup, h, sBind, if_pos hl]
theorem fi_some : ∀ (N : List Str) (i : Nat) (x : Str), x ∈ N → ∃ j, (N.map V.str).findIdx? (fun z => eqV z (.str x)) = some j ∧ valW (kvF i N) (Sum.inr x) = some (.int ((i + j + 1 : Nat) : Int))
 | y :: N, i, x, h => by
  have eq1 : eqV (V.str y) (V.str x) = decide (y = x) := by
   show (y == x) = _
   by_cases h : y = x <;> simp [h]
  by_cases e : y = x
  · subst e
    exact ⟨0, by simp [List.findIdx?_cons, eq1], by simp [valW, kvF, List.find?_cons]⟩
  · obtain ⟨j, h1, h2⟩ := fi_some N (i + 1) x ((List.mem_cons.mp h).resolve_left fun z => e z.symm)
    refine ⟨j + 1, by simp [List.findIdx?_cons, eq1, e, h1], ?_⟩
    have h3 : valW (kvF i (y :: N)) (Sum.inr x) = valW (kvF (i + 1) N) (Sum.inr x) := by simp [valW, kvF, List.find?_cons, e]
    rw [h3, h2, show i + 1 + j + 1 = i + (j + 1) + 1 by omega]
section
variable {S : Sto} {nl : Nat} {N : List Str} (hn : S[nl]? = some (.lst (N.map .str)))
include hn
theorem ix_run {fk : DS → Sto → SM W} {fo : DS → Option W} {δ : DS} {x : Str} (hx : x ∈ N) (h1 : fo δ = some (.ref nl)) (h2 : fk δ S = some (.ok (.str x), S)) : sOp gAdd (zx7 (sPure fo) fk) (sPure (dC (.int (1)))) δ S = some (.ok (fN N x), S) := by
 obtain ⟨j, j1, j2⟩ := fi_some N 0 x hx
 have lo : yb9 (.ref nl) S = some (N.map .str) := by simp [yb9, zr7 hn]
 have gi : yk8 (.ref nl) (.str x) S = some (.int (j : Nat)) := by simp only [yk8, lo, Option.bind_some, vOf, yi9, j1, Option.map_some]
 have hf : fN N x = .int ((j : Int) + 1) := by
  first | rfl | simp only [fN, j2, Option.getD_some, Nat.zero_add]
  rfl
 rw [hf]
 first | rfl | simp only [sOp, zx7, sPure, h1, h2, uS, uD, Nat.reduceAdd, Nat.reduceSub, reduceIte, Nat.reduceEqDiff, List.replicate, lo, Option.isSome_some, gi]
theorem zy6 (ln : Int) : ∀ (t : Tr) (n : Nat) (a : Int), dep t < n → inN N t → cnt t ≤ 300 → ze9 n [tw t, .int ln, .int a, .ref nl] S = some (.ok (.list (rws ln (fN N) t a)), S)
 | _, 0, _, h, _, _ => absurd h (Nat.not_lt_zero _)
 | .num v, n + 1, a, _, _, _ => by
  have z1 := sz 1 (by decide)
  have z4 := sz 4 (by decide)
  first | rfl | simp only [ze9, tw, rws, uS, uD, Nat.reduceAdd, Nat.reduceSub, reduceIte, Nat.reduceEqDiff, List.replicate, at0, at1, decide_true, if_pos z1, if_pos z4]
 | .nam x, n + 1, a, _, hi, _ => by
  have z1 := sz 1 (by decide)
  have z4 := sz 4 (by decide)
  have ix := ix_run hn (x := x) (δ := [.val (tw (.nam x)), .val (.int ln), .val (.int a), .val (.ref nl), .no]) (fo := dVar 3) (fk := sPure (dOp gIx (dPk 0) (dC (.int (1))))) (hi x (by simp [nms, nmL, lvs])) rfl (by first | rfl | simp only [tw, uS, uD, Nat.reduceAdd, Nat.reduceSub, reduceIte, Nat.reduceEqDiff, List.replicate, at1])
  show bodyS 4 5 _ _ _ = _
  refine (ze6 rfl).trans ((congrArg outS (?_ : _ = some (.rt (.list (rws ln (fN N) (.nam x) a)), S))).trans rfl)
  refine (zb6 (δ' := [.val (tw (.nam x)), .val (.int ln), .val (.int a), .val (.ref nl), .no]) (S' := S) (by first | rfl | simp only [tw, uS, uD, Nat.reduceAdd, Nat.reduceSub, reduceIte, Nat.reduceEqDiff, List.replicate, startD, at0, na2])).trans ?_
  refine zq7 ((ya5 (S1 := S) (by first | rfl | simp only [tw, uS, uD, Nat.reduceAdd, Nat.reduceSub, reduceIte, Nat.reduceEqDiff, List.replicate, at0, decide_true])).trans (zr2 ?_))
  first | rfl | simp only [sLst, sTup, sCons, ix, sPure, uS, uD, Nat.reduceAdd, Nat.reduceSub, reduceIte, Nat.reduceEqDiff, List.replicate, if_pos z4, if_pos z1, rws]
 | .sig k, n + 1, a, _, _, _ => by
  have z1 := sz 1 (by decide)
  have z4 := sz 4 (by decide)
  first | rfl | simp +decide only [ze9, tw, rws, uS, uD, Nat.reduceAdd, Nat.reduceSub, reduceIte, Nat.reduceEqDiff, List.replicate, at0, sg1, sg2, if_pos z1, if_pos z4]
 | .box t, n + 1, a, hd, hi, hc => by
  have z1 := sz 1 (by decide)
  have z4 := sz 4 (by decide)
  simp only [cnt] at hc
  simp only [dep] at hd
  have e1 := zy6 ln t n a (by omega) (fun x hx => hi x (by simpa [nms, lvs] using hx)) (by omega)
  have ga : gAdd (.list (rws ln (fN N) t a)) (.list [.tuple [.str "get", .int ln, .int a, .int a]]) = some (.list (rws ln (fN N) (.box t) a)) := by rw [ye6 (sz _ (by rw [zm4]; simp; omega)), rws]
  show bodyS 4 5 _ _ _ = _
  let δ : DS := [.val (tw (.box t)), .val (.int ln), .val (.int a), .val (.ref nl), .no]
  refine (ze6 rfl).trans ((congrArg outS (?_ : _ = some (.rt (.list (rws ln (fN N) (.box t) a)), S))).trans rfl)
  refine (pF (x0 rfl) bx1).trans ?_
  refine (cF (x0 rfl) bx2).trans ?_
  refine (zb6 (δ' := δ) (S' := S) (by first | rfl | simp +decide only [δ, tw, uS, uD, Nat.reduceAdd, Nat.reduceSub, reduceIte, Nat.reduceEqDiff, List.replicate])).trans ?_
  refine (zb6 (δ' := [.val (tw (.box t)), .val (.int ln), .val (.int a), .val (.ref nl), .val (.list (rws ln (fN N) t a))]) (S' := S) (zp5 (zg8 (S1 := S) (ds := [tw t, .int ln, .int a, .ref nl]) (by first | rfl | simp only [δ, tw, uS, uD, Nat.reduceAdd, Nat.reduceSub, reduceIte, Nat.reduceEqDiff, List.replicate, at1]) e1) rfl)).trans ?_
  refine zq7 (ya6 ?_)
  first | rfl | simp only [tw, uD, Nat.reduceAdd, Nat.reduceSub, reduceIte, Nat.reduceEqDiff, List.replicate, at0, decide_true, if_pos z1, if_pos z4, ga]
 | .op k t u, n + 1, a, hd, hi, hc => by
  have z1 := sz 1 (by decide)
  have z6 := sz 6 (by decide)
  simp only [cnt] at hc
  simp only [dep] at hd
  have e1 := zy6 ln t n a (by omega) (fun x hx => hi x (by rw [zu8]; simp [hx])) (by omega)
  have e2 := zy6 ln u n (a + 1) (by omega) (fun x hx => hi x (by rw [zu8]; simp [hx])) (by omega)
  have ga : gAdd (.list (rws ln (fN N) t a)) (.list (rws ln (fN N) u (a + 1))) = some (.list (rws ln (fN N) t a ++ rws ln (fN N) u (a + 1))) := ye6 (sz _ (by rw [zm4, zm4]; omega))
  have gb : gAdd (.list (rws ln (fN N) t a ++ rws ln (fN N) u (a + 1))) (.list [.tuple [.str "op", .int ln, .int a, .str (opW k), .int a, .int (a + 1)]]) = some (.list (rws ln (fN N) (.op k t u) a)) := by rw [ye6 (sz _ (by rw [List.length_append, zm4, zm4]; simp; omega)), rws, List.append_assoc]
  show bodyS 4 5 _ _ _ = _
  let δ : DS := [.val (tw (.op k t u)), .val (.int ln), .val (.int a), .val (.ref nl), .no]
  let δ2 : DS := [.val (tw (.op k t u)), .val (.int ln), .val (.int a), .val (.ref nl), .val (.list (rws ln (fN N) t a))]
  refine (ze6 rfl).trans ((congrArg outS (?_ : _ = some (.rt (.list (rws ln (fN N) (.op k t u) a)), S))).trans rfl)
  refine (pF (x0 rfl) (op1 k)).trans ?_
  refine (cF (x0 rfl) (op2 k)).trans ?_
  refine (zb6 (δ' := δ) (S' := S) (by first | rfl | simp +decide only [δ, tw, uS, uD, Nat.reduceAdd, Nat.reduceSub, reduceIte, Nat.reduceEqDiff, List.replicate])).trans ?_
  refine (zb6 (δ' := δ2) (S' := S) (zp5 (zg8 (S1 := S) (ds := [tw t, .int ln, .int a, .ref nl]) (by first | rfl | simp only [δ, tw, uS, uD, Nat.reduceAdd, Nat.reduceSub, reduceIte, Nat.reduceEqDiff, List.replicate, at1]) e1) rfl)).trans ?_
  refine (pF (x0 rfl) (op3 k)).trans ?_
  have c2 : sCall (ze9 n) (sPure (dCons (dOp gIx (dPk 0) (dC (.int (2)))) (dCons (dVar 1) (dCons (dOp gAdd (dPk 2) (dC (.int (1)))) (dCons (dVar 3) dNil))))) δ2 S = some (.ok (.list (rws ln (fN N) u (a + 1))), S) := zg8 (S1 := S) (ds := [tw u, .int ln, .int (a + 1), .ref nl]) (by first | rfl | simp only [δ2, tw, uS, uD, Nat.reduceAdd, Nat.reduceSub, reduceIte, Nat.reduceEqDiff, List.replicate, at2]) e2
  exact zr2 (sOp_of (S1 := S) (sOp_of (S1 := S) (x := .list (rws ln (fN N) t a)) rfl c2 ga) (by first | rfl | simp only [δ2, tw, uS, uD, Nat.reduceAdd, Nat.reduceSub, reduceIte, Nat.reduceEqDiff, List.replicate, at0, if_pos z1, if_pos z6]) gb)
theorem last_run (g : W) (ln : Int) (e : De) (hi : inD N e) : zo2 [stW ln e, .ref nl, g] S = some (.ok (lastR N g ln e), S) := by
 have z2 := sz 2 (by decide)
 have z3 := sz 3 (by decide)
 have z4 := sz 4 (by decide)
 have z5 := sz 5 (by decide)
 have z6 := sz 6 (by decide)
 have ll : (((N.map W.str).length : Nat) : Int) = N.length := by simp
 have lt : ∀ ts : List Tr, (ts.map tw).length = ts.length := fun ts => by simp
 let δ : DS := [.val (stW ln e), .val (.ref nl), .val g, .val (.str (kw e)), .val (.int ln), .val (.int ((N.length : Int) + 1))]
 refine (ze6 rfl).trans ((congrArg outS (?_ : _ = some (.rt (lastR N g ln e), S))).trans rfl)
 refine (zb6 (δ' := [.val (stW ln e), .val (.ref nl), .val g, .val (.str (kw e)), .no, .no]) (S' := S) (by first | rfl | simp only [stW, uS, uD, Nat.reduceAdd, Nat.reduceSub, reduceIte, Nat.reduceEqDiff, List.replicate, startD, at0])).trans ?_
 refine (zb6 (δ' := [.val (stW ln e), .val (.ref nl), .val g, .val (.str (kw e)), .val (.int ln), .no]) (S' := S) (by first | rfl | simp only [stW, uS, uD, Nat.reduceAdd, Nat.reduceSub, reduceIte, Nat.reduceEqDiff, List.replicate, at1])).trans ?_
 refine (zb6 (δ' := δ) (S' := S) (by first | rfl | simp only [δ, sOp, uS, uD, Nat.reduceAdd, Nat.reduceSub, reduceIte, Nat.reduceEqDiff, List.replicate, zr7 hn, ll])).trans ?_
 have a2 : ∀ x r, rs e = .str x :: r → sPure (dOp gIx (dPk 0) (dC (.int (2)))) δ S = some (.ok (.str x), S) := fun x r h => by simp only [δ, stW, h, uS, uD, Nat.reduceAdd, Nat.reduceSub, reduceIte, Nat.reduceEqDiff, List.replicate, at2]
 have ix : ∀ x r, rs e = .str x :: r → x ∈ N → sOp gAdd (zx7 (sPure (dVar 1)) (sPure (dOp gIx (dPk 0) (dC (.int (2)))))) (sPure (dC (.int (1)))) δ S = some (.ok (fN N x), S) := fun x r h hx => ix_run hn hx rfl (a2 x r h)
 cases e with
 | set x t =>
  have ix := ix x _ rfl (hi.g x (by simp [giv]))
  refine zq7 ((fT rfl).trans (zr2 ?_))
  exact yg5 (zi8 (S1 := S) rfl (zi8 (S1 := S) rfl (zi8 ix (zi8 (S1 := S) rfl rfl)))) z4
 | put a b =>
  refine (cF rfl q_put.2.2.2.2.1).trans ?_
  exact zq7 (ya6 (zj9 (b := true) (tT rfl) (zf8 (by first | rfl | simp only [δ, lastR, uD, Nat.reduceAdd, Nat.reduceSub, reduceIte, Nat.reduceEqDiff, List.replicate, if_pos z4]))))
 | tell t =>
  refine (cF rfl q_tell.2.2.2.2.2.1).trans ?_
  refine (pF rfl q_tell.2.2.2.2.1).trans ?_
  exact zq7 (ya6 (zj9 (b := true) (tT rfl) (zf8 (by first | rfl | simp only [δ, lastR, uD, Nat.reduceAdd, Nat.reduceSub, reduceIte, Nat.reduceEqDiff, List.replicate, if_pos z3]))))
 | join x j t =>
  have ix := ix x _ rfl (hi.g x (by simp [giv]))
  refine (cF rfl q_join.2.2.2.2.2.1).trans ?_
  refine (pF rfl q_join.2.2.2.2.1).trans ?_
  refine (pF rfl q_join.2.2.2.2.2.2.2.1).trans ?_
  refine zq7 ((fT rfl).trans (zr2 ?_))
  exact yg5 (zi8 (S1 := S) rfl (zi8 (S1 := S) rfl (zi8 ix (zi8 (S1 := S) (d := .str j) (by first | rfl | simp only [δ, stW, rs, uS, uD, Nat.reduceAdd, Nat.reduceSub, reduceIte, Nat.reduceEqDiff, List.replicate, at3]) (zi8 (S1 := S) rfl rfl))))) z5
 | meet =>
  refine (cF rfl q_meet.2.2.2.2.2.1).trans ?_
  refine (pF rfl q_meet.2.2.2.2.1).trans ?_
  refine (pF rfl q_meet.2.2.2.2.2.2.2.2.1).trans ?_
  refine (cF rfl q_meet.2.2.2.2.2.2.2.1).trans ?_
  refine (cF rfl q_meet.2.2.2.2.2.2.1).trans ?_
  first | rfl | simp only [δ, kw, uS, uD, Nat.reduceAdd, Nat.reduceSub, reduceIte, Nat.reduceEqDiff, List.replicate, lastR, if_pos z2]
 | stop =>
  refine (cF rfl q_stop.2.2.2.2.2.1).trans ?_
  refine (pF rfl q_stop.2.2.2.2.1).trans ?_
  refine (pF rfl q_stop.2.2.2.2.2.2.2.2.1).trans ?_
  refine (cF rfl q_stop.2.2.2.2.2.2.2.1).trans ?_
  refine (cF rfl q_stop.2.2.2.2.2.2.1).trans ?_
  first | rfl | simp only [δ, kw, uS, uD, Nat.reduceAdd, Nat.reduceSub, reduceIte, Nat.reduceEqDiff, List.replicate, lastR, if_pos z2]
 | call x ts =>
  have ix := ix x _ rfl (hi.g x (by simp [giv]))
  refine (cF rfl q_call.2.2.2.2.2.1).trans ?_
  refine (pF rfl q_call.2.2.2.2.1).trans ?_
  refine (pF rfl q_call.2.2.2.2.2.2.2.1).trans ?_
  refine (cF rfl q_call.2.2.2.2.2.2.1).trans ?_
  refine zq7 ((fT rfl).trans (zr2 ?_))
  exact yg5 (zi8 (S1 := S) rfl (zi8 (S1 := S) rfl (zi8 ix (zi8 (S1 := S) rfl (zi8 (S1 := S) (d := .int (ts.length : Nat)) (by first | rfl | simp only [δ, stW, rs, uS, uD, Nat.reduceAdd, Nat.reduceSub, reduceIte, Nat.reduceEqDiff, List.replicate, at4, lt]) (zi8 (S1 := S) rfl rfl)))))) z6
end
theorem ssExtend_of {fo : DS → Option W} {fv : DS → Sto → SM W} {δ : DS} {S : Sto} {l : Nat} {q es : List W} (h1 : fo δ = some (.ref l)) (h2 : S[l]? = some (.lst q)) (h3 : fv δ S = some (.ok (.list es), S)) (h4 : q.length + es.length ≤ 9000) : zw3 (sPure fo) fv δ S = some (.nx δ, S.set l (.lst (q ++ es))) := by
 have hz := sz _ h4
 first | rfl | simp only [zw3, sPure, h1, soB, zr7 h2, Option.isSome_some, if_true, h3, yf3, Option.bind_some, if_pos hz, Option.map_some]
noncomputable def dL (scr pr rw mn ot : W) (nl dl : Nat) (s7 s8 s9 : Sl) : DS := [.val scr, .val pr, .val rw, .val mn, .val ot, .val (.ref nl), .val (.ref dl), s7, s8, s9]
section
variable {scr pr mn ot : W} {nl dl : Nat} {N : List Str} {R : List W}
theorem bi_loop {ln : Int} {e : De} : ∀ (ts : List Tr) (k : Nat) (S : Sto) (acc : List W) (s8 s9 : Sl), (∀ t ∈ ts, okT t ∧ inN N t) → acc.length + cntL ts ≤ 8000 → dl ≠ nl → S[nl]? = some (.lst (N.map .str)) → S[dl]? = some (.lst acc) →
 ∃ S' s8' s9', zn4 (dgTup 2 (dgCons (dgName 8) (dgCons (dgName 9) dgNil))) b_law_1 (enF k (ts.map tw)) (dL scr pr (.list R) mn ot nl dl (.val (stW ln e)) s8 s9) S = some (.nx (dL scr pr (.list R) mn ot nl dl (.val (stW ln e)) s8' s9'), S') ∧ S'[nl]? = some (.lst (N.map .str)) ∧ S'[dl]? = some (.lst (acc ++ rE N ln (N.length + 1 + k) ts))
 | [], k, S, acc, s8, s9, _, _, _, hn, h => ⟨S, s8, s9, rfl, hn, by simpa [rE] using h⟩
 | t :: ts, k, S, acc, s8, s9, ht, hl, hne, hn, h => by
  have hc : cntL (t :: ts) = cnt t + cntL ts := by simp [cntL]
  have h1 := ht t (by simp)
  have ll : (((N.map W.str).length : Nat) : Int) = N.length := by simp
  have hcast : ((N.length + 1 + k : Nat) : Int) = (N.length : Int) + 1 + (k : Int) := by omega
  have e1 := zy6 hn ln t 9 ((N.length + 1 + k : Nat) : Int) h1.1.1 h1.2 h1.1.2
  obtain ⟨S', s8', s9', e2, n2, d2⟩ := bi_loop (ln := ln) (e := e) ts (k + 1) (S.set dl (.lst (acc ++ rws ln (fN N) t ((N.length + 1 + k : Nat) : Int)))) _ (.val (.int (k : Int))) (.val (tw t)) (fun u hu => ht u (by simp [hu])) (by rw [List.length_append, zm4]; omega) hne (set_ne' hn hne) (set_eq' h)
  refine ⟨S', s8', s9', ?_, n2, by simpa [rE, Nat.add_assoc] using d2⟩
  refine (zi0 (δ2 := dL scr pr (.list R) mn ot nl dl (.val (stW ln e)) (.val (.int (k : Int))) (.val (tw t))) rfl ?_).trans e2
  refine ssExtend_of rfl h (zg8 (S1 := S) (ds := [tw t, .int ln, .int ((N.length + 1 + k : Nat) : Int), .ref nl]) ?_ e1) (by rw [zm4]; omega)
  rw [hcast]
  first | rfl | simp only [dL, stW, sOp, uS, uD, Nat.reduceAdd, Nat.reduceSub, reduceIte, Nat.reduceEqDiff, List.replicate, at1, zr7 hn, ll]
theorem bo_step {ln : Int} {e : De} {g : W} (S : Sto) (acc : List W) (s8 s9 : Sl) (ho : okD e) (hi : inD N e) (hl : acc.length ≤ 7000) (hne : dl ≠ nl) (hg : W.int ((R.length : Int) - 1) = g) (hn : S[nl]? = some (.lst (N.map .str))) (h : S[dl]? = some (.lst acc)) :
 ∃ S' s8' s9', yg0 (dL scr pr (.list R) mn ot nl dl (.val (stW ln e)) s8 s9) S = some (.nx (dL scr pr (.list R) mn ot nl dl (.val (stW ln e)) s8' s9'), S') ∧ S'[nl]? = some (.lst (N.map .str)) ∧ S'[dl]? = some (.lst (acc ++ stR N g ln e)) := by
 have z2 := sz 2 (by decide)
 have hc := ho.c
 obtain ⟨S1, s8', s9', e1, n1, d1⟩ := bi_loop (scr := scr) (pr := pr) (mn := mn) (ot := ot) (R := R) (ln := ln) (e := e) (exps e) 0 (S.set dl (.lst (acc ++ [.tuple [.str "tick", .int ln]]))) _ s8 s9 (fun t ht => ⟨ho.t t ht, hi.t t ht⟩) (by simp; omega) hne (set_ne' hn hne) (set_eq' h)
 have e2 := last_run n1 g ln e hi
 have er : acc ++ [.tuple [.str "tick", .int ln]] ++ rE N ln (N.length + 1 + 0) (exps e) ++ [lastR N g ln e] = acc ++ stR N g ln e := by simp [stR]
 refine ⟨S1.set dl (.lst (acc ++ [.tuple [.str "tick", .int ln]] ++ rE N ln (N.length + 1 + 0) (exps e) ++ [lastR N g ln e])), s8', s9', ?_, set_ne' n1 hne, by rw [set_eq' d1, er]⟩
 refine (zb6 (zv0 (d := .tuple [.str "tick", .int ln]) rfl h (by first | rfl | simp only [dL, stW, uS, uD, Nat.reduceAdd, Nat.reduceSub, reduceIte, Nat.reduceEqDiff, List.replicate, at1, if_pos z2]) (by omega))).trans ?_
 refine (zb6 ((zo8 (ds := enF 0 ((exps e).map tw)) (by first | rfl | simp only [dL, uS, uD, Nat.reduceAdd, Nat.reduceSub, reduceIte, Nat.reduceEqDiff, List.replicate, lexp_run, yd6])).trans e1)).trans ?_
 exact zv0 rfl d1 (zg8 (S1 := S1) (ds := [stW ln e, .ref nl, g]) (by rw [← hg]; simp only [dL, uS, uD, Nat.reduceAdd, Nat.reduceSub, reduceIte, Nat.reduceEqDiff, List.replicate]) e2) (by rw [List.length_append, List.length_append, yi0]; simp; omega)
theorem bo_loop {g : W} (hne : dl ≠ nl) (hg : W.int ((R.length : Int) - 1) = g) : ∀ (es : List De) (k : Int) (S : Sto) (acc : List W) (s7 s8 s9 : Sl), (∀ e ∈ es, okD e ∧ inD N e) → acc.length + 33 * es.length ≤ 6000 → S[nl]? = some (.lst (N.map .str)) → S[dl]? = some (.lst acc) →
 ∃ S' s7' s8' s9', zn4 (dgName 7) yg0 (bodyW k es) (dL scr pr (.list R) mn ot nl dl s7 s8 s9) S = some (.nx (dL scr pr (.list R) mn ot nl dl s7' s8' s9'), S') ∧ S'[dl]? = some (.lst (acc ++ allR N g k es))
 | [], k, S, acc, s7, s8, s9, _, _, _, h => ⟨S, s7, s8, s9, rfl, by simpa [allR] using h⟩
 | e :: es, k, S, acc, s7, s8, s9, ht, hl, hn, h => by
  simp only [List.length_cons] at hl
  have h1 := ht e (by simp)
  have h2 := yf1 N g k h1.1
  obtain ⟨S1, t8, t9, e1, n1, d1⟩ := bo_step (scr := scr) (pr := pr) (mn := mn) (ot := ot) (R := R) (ln := k) S acc s8 s9 h1.1 h1.2 (by omega) hne hg hn h
  obtain ⟨S', s7', s8', s9', e2, d2⟩ := bo_loop hne hg es (k + 1) S1 _ (.val (stW k e)) t8 t9 (fun u hu => ht u (by simp [hu])) (by rw [List.length_append]; omega) n1 d1
  exact ⟨S', s7', s8', s9', (zi0 rfl e1).trans e2, by simpa [allR] using d2⟩
end
noncomputable def atK : W → Bool
 | .str s => PyData.strOk s
 | .int _ => true
 | _ => false
noncomputable def rowK (x : W) : Prop := ∃ l, x = .tuple l ∧ l.all atK = true ∧ l.length ≤ 10
theorem rk {s : Str} {l : List W} (hs : PyData.strOk s = true) (h : l.all atK = true) (hl : l.length ≤ 9) : rowK (.tuple (.str s :: l)) := ⟨_, rfl, by simp only [List.all_cons, atK, hs, h, Bool.and_self], by simp; omega⟩
theorem whole_i (i : Int) : zj8 [.int i] = some (.bool true) := by simp only [zj8, uD, Nat.reduceAdd, Nat.reduceSub, reduceIte, Nat.reduceEqDiff, List.replicate]
theorem at_loop : ∀ (xs : List W), xs.all atK = true → zi3 (dgName 0) dYes (dOrV (dC1 (gIsi "str") (dVar 0)) (dCall zj8 (dCons (dVar 0) dNil))) [.no] xs = some ((xs.map fun _ => true).map .bool)
 | [], _ => rfl
 | x :: xs, h => by
  have h' : atK x = true ∧ xs.all atK = true := by simpa using h
  have ih := at_loop xs h'.2
  cases x with
  | str s => simp only [zi3, uD, Nat.reduceAdd, Nat.reduceSub, reduceIte, Nat.reduceEqDiff, List.replicate, ih, List.map_cons]
  | int i =>
   have is : gIsi "str" (.int i) = some (.bool false) := rfl
   first | rfl | simp only [zi3, uD, Nat.reduceAdd, Nat.reduceSub, reduceIte, Nat.reduceEqDiff, List.replicate, ih, whole_i, List.map_cons, is]
  | _ => simp [atK] at h'
theorem atK_ok : ∀ (l : List W), l.all atK = true → okWs l = true ∧ depWs l = 0
 | [], _ => ⟨rfl, rfl⟩
 | x :: l, h => by
  have h' : atK x = true ∧ l.all atK = true := by simpa using h
  obtain ⟨a, b⟩ := atK_ok l h'.2
  cases x with
  | str s => exact ⟨by simp [okWs, okW, a]; exact h'.1, by simp [depWs, depW, b]⟩
  | int i => exact ⟨by simp [okWs, okW, a], by simp [depWs, depW, b]⟩
  | _ => simp [atK] at h'
theorem same_run {x : W} (h : rowK x) : zo6 [x, x] = some (.bool true) := by
 obtain ⟨l, rfl, ha, hl⟩ := h
 obtain ⟨o, d⟩ := atK_ok l ha
 have ne := cNe_self (d := .tuple l) (by simpa [okW] using o) (by simp [depW, d])
 have z : l.length ≤ sizeLine := sz _ (by omega)
 have al := at_loop l ha
 have ga := gAll_t l
 refine zk6 rfl ?_
 refine zd6 (δ1 := [.val (.tuple l), .val (.tuple l)]) (zj9 (b := false) (by first | rfl | simp only [uD, Nat.reduceAdd, Nat.reduceSub, reduceIte, Nat.reduceEqDiff, List.replicate, startD, ne]) rfl) (zf8 ?_)
 have hc : dComp [none] (dSeqOf (dPk 0)) (dgName 0) dYes (dOrV (dC1 (gIsi "str") (dVar 0)) (dCall zj8 (dCons (dVar 0) dNil))) [.val (.tuple l), .val (.tuple l)] = some ((l.map fun _ => true).map .bool) := by
  show (if l.length ≤ sizeLine then _ else _) = _
  rw [if_pos z]
  exact al
 show (((dComp [none] (dSeqOf (dPk 0)) (dgName 0) dYes (dOrV (dC1 (gIsi "str") (dVar 0)) (dCall zj8 (dCons (dVar 0) dNil))) [.val (.tuple l), .val (.tuple l)]).map W.list).bind gAll) = _
 rw [hc]
 first | rfl | simp only [Option.map_some, Option.bind_some, ga]
noncomputable def okN (t : Tr) : Prop := ∀ x ∈ nms t, PyData.strOk x = true
theorem sgOk : ∀ k : Fin 3, PyData.strOk (sgW k) = true := by decide +kernel
theorem opOk : ∀ k : Fin 7, PyData.strOk (opW k) = true := by decide +kernel
theorem yi6 {N : List Str} {x : Str} (h : x ∈ N) : ∃ j : Int, fN N x = .int j := by
 obtain ⟨j, j1, j2⟩ := zv2 N 0 x h
 exact ⟨((0 + j + 1 : Nat) : Int), by simp [fN, j2]⟩
theorem k_rws (ln : Int) (N : List Str) : ∀ (t : Tr) (a : Int), inN N t → ∀ x ∈ rws ln (fN N) t a, rowK x
 | .num _, _, _, x, h => by rw [List.mem_singleton.mp h]; exact rk (by decide +kernel) rfl (by simp)
 | .sig k, _, _, x, h => by rw [List.mem_singleton.mp h]; exact rk (by decide +kernel) (by simp [atK, sgOk]) (by simp)
 | .nam y, _, hi, x, h => by
  obtain ⟨j, e⟩ := yi6 (hi y (by simp [nms, nmL, lvs]))
  rw [List.mem_singleton.mp h, e]
  exact rk (by decide +kernel) rfl (by simp)
 | .box t, a, hi, x, h => by
  simp only [rws, List.mem_append, List.mem_singleton] at h
  rcases h with h | rfl
  · exact k_rws ln N t a (fun x hx => hi x (by simpa [nms, lvs] using hx)) x h
  · exact rk (by decide +kernel) rfl (by simp)
 | .op k t u, a, hi, x, h => by
  simp only [rws, List.mem_append, List.mem_singleton] at h
  rcases h with h | h | rfl
  · exact k_rws ln N t a (fun x hx => hi x (by rw [zu8]; simp [hx])) x h
  · exact k_rws ln N u (a + 1) (fun x hx => hi x (by rw [zu8]; simp [hx])) x h
  · exact rk (by decide +kernel) (by simp [atK, opOk]) (by simp)
noncomputable def jn : De → List Str
 | .join _ j _ => [j] | .set _ _ => [] | .put _ _ => [] | .tell _ => [] | .meet => [] | .stop => [] | .call _ _ => []
structure gD (d : De) : Prop where
 g : ∀ x ∈ giv d, PyData.strOk x = true
 j : ∀ x ∈ jn d, PyData.strOk x = true
 t : ∀ t ∈ exps d, okN t ∧ dep t ≤ 3
theorem k_last {N : List Str} {i : Int} (ln : Int) {e : De} (hi : inD N e) (hg : gD e) : rowK (lastR N (.int i) ln e) := by
 cases e with
 | set x t => obtain ⟨j, q⟩ := yi6 (hi.g x (by simp [giv])); simp only [lastR, q]; exact rk (by decide +kernel) rfl (by simp)
 | put a b => exact rk (by decide +kernel) rfl (by simp)
 | tell t => exact rk (by decide +kernel) rfl (by simp)
 | join x w t => obtain ⟨j, q⟩ := yi6 (hi.g x (by simp [giv])); simp only [lastR, q]; exact rk (by decide +kernel) (by simp [atK, hg.j w (by simp [jn])]) (by simp)
 | meet => exact rk (by decide +kernel) rfl (by simp)
 | stop => exact rk (by decide +kernel) rfl (by simp)
 | call x ts => obtain ⟨j, q⟩ := yi6 (hi.g x (by simp [giv])); simp only [lastR, q]; exact rk (by decide +kernel) rfl (by simp)
theorem k_rE (N : List Str) (ln : Int) : ∀ (ts : List Tr) (a : Nat), (∀ t ∈ ts, inN N t) → ∀ x ∈ rE N ln a ts, rowK x
 | [], _, _, x, h => by simp [rE] at h
 | t :: ts, a, hi, x, h => by
  rcases List.mem_append.mp h with h | h
  · exact k_rws ln N t _ (hi t (by simp)) x h
  · exact k_rE N ln ts (a + 1) (fun u hu => hi u (by simp [hu])) x h
theorem k_allR (N : List Str) (i : Int) : ∀ (ts : List De) (k : Int), (∀ t ∈ ts, inD N t ∧ gD t) → ∀ x ∈ allR N (.int i) k ts, rowK x
 | [], _, _, x, h => by simp [allR] at h
 | t :: ts, k, hi, x, h => by
  simp only [allR, List.mem_append, stR, List.mem_cons, List.not_mem_nil, or_false] at h
  have h1 := hi t (by simp)
  rcases h with (rfl | h | rfl) | h
  · exact rk (by decide +kernel) rfl (by simp)
  · exact k_rE N k _ _ h1.1.t x h
  · exact k_last k h1.1 h1.2
  · exact k_allR N i ts (k + 1) (fun u hu => hi u (by simp [hu])) x h
theorem sc_loop {R : List W} {S : Sto} {dl : Nat} (hR : ∀ x ∈ R, rowK x) (h : S[dl]? = some (.lst R)) : ∀ (m lo : Nat), lo + m = R.length → zm3 (dgName 2) (sPure dYes) (sCallD zo6 (sCons (sPure (dOp gIx (dPk 0) (dVar 2))) (sCons (sIx (sPure (dVar 1)) (sPure (dVar 2))) sNil))) [.val (.list R), .val (.ref dl), .no] (rngD (lo : Int) m) S = some (.ok (((rngD (lo : Int) m).map fun _ => true).map .bool), S)
 | 0, lo, _ => rfl
 | m + 1, lo, hm => by
  have ih := sc_loop hR h m (lo + 1) (by omega)
  rw [show ((lo + 1 : Nat) : Int) = (lo : Int) + 1 by omega] at ih
  have hlt : lo < R.length := by omega
  have a1 : atI R (lo : Int) = some R[lo] := by rw [atN R lo hlt, List.getElem?_eq_getElem hlt]
  have sr := same_run (hR R[lo] (List.getElem_mem hlt))
  rw [rngD_succ, List.map_cons, List.map_cons]
  refine sCompGo_step (δ2 := [.val (.list R), .val (.ref dl), .val (.int (lo : Int))]) (S1 := S) (h1 := rfl) (h2 := ?_) (h3 := ih)
  first | rfl | simp only [sCallD, sCons, sIx, uS, uD, Nat.reduceAdd, Nat.reduceSub, reduceIte, Nat.reduceEqDiff, List.replicate, a1, zr7 h, sr]
theorem cut_int (ns : List Int) (lo hi : Option Int) : ∃ ms : List Int, ms.length ≤ ns.length ∧ cutW (ns.map .int) lo hi = ms.map .int := by
 refine ⟨(ns.drop (HT.sIx (ns.map W.int).length 0 lo)).take (HT.sIx (ns.map W.int).length (ns.map W.int).length hi - HT.sIx (ns.map W.int).length 0 lo), ?_, ?_⟩
 · rw [List.length_take, List.length_drop]
   omega
 · unfold cutW
   rw [List.map_take, List.map_drop]
theorem mixed_run (one : Int) (k : Nat) (hk : k < 9000) : ∃ m : Int, zl4 [.int one, .int k] = some (.int m) ∧ 0 ≤ m := by
 have g1 : gMul (.int one) (.int 48271) = some (.int (one * 48271)) := zu9 (zv3 (by decide) (by decide))
 have g2 : gMul (.int (k : Int)) (.int k) = some (.int ((k : Int) * k)) := zu9 (yf2 (by omega) (by omega))
 have g3 : gMul (.int ((k : Int) * k)) (.int 7919) = some (.int ((k : Int) * k * 7919)) := zu9 (zv3 (by decide) (by decide))
 have hm := zs3 (one * 48271 + (k : Int) * k * 7919 + 101) (j := 2147483647) (by decide)
 generalize hx : (one * 48271 + (k : Int) * k * 7919 + 101).fmod 2147483647 = x at hm
 have g4 : gMul (.int x) (.int x) = some (.int (x * x)) := zu9 (yf2 (by omega) (by omega))
 refine ⟨(x * x).fmod 2147483629, ?_, (zs3 (x * x) (by decide)).1⟩
 first | rfl | simp +decide only [zl4, uD, Nat.reduceAdd, Nat.reduceSub, reduceIte, Nat.reduceEqDiff, List.replicate, g1, g2, g3, hx, g4]
noncomputable def abcW : Str := Str.ofString "vwxyz"
theorem abc_len : abcW.cps.toList.length = 5 := by decide +kernel
theorem abc_ok : (abcW.cps.toList.all fun c => decide (c < 0x110000)) = true := by decide +kernel
theorem abc_at (i : Int) (h0 : 0 ≤ i) (h1 : i < 5) : ∃ c : Nat, gIx (.str "vwxyz") (.int i) = some (.str ⟨#[c]⟩) ∧ c < 0x110000 := by
 have hz : abcW.length ≤ sizeLine := sz _ (by decide +kernel)
 obtain ⟨k, rfl⟩ : ∃ k : Nat, i = k := ⟨i.toNat, by omega⟩
 have hk : k < abcW.cps.toList.length := by rw [abc_len]; omega
 refine ⟨abcW.cps.toList[k], ?_, ?_⟩
 · show (if abcW.length ≤ sizeLine then (atI abcW.cps.toList (k : Int)).map fun c => W.str ⟨#[c]⟩ else none) = _
   rw [if_pos hz, atN _ k hk, List.getElem?_eq_getElem hk]
   rfl
 · have := List.all_eq_true.mp abc_ok _ (List.getElem_mem hk)
   simpa using this
theorem ok_app (a : Str) (c : Nat) (h : PyData.strOk a = true) (hc : c < 0x110000) : PyData.strOk (a ++ ⟨#[c]⟩) = true := by
 show (a.cps ++ #[c]).all _ = true
 have h' : a.cps.all (fun x => decide (x < 0x110000)) = true := h
 rw [Array.all_append]
 first | rfl | simp only [Bool.and_eq_true]
 exact ⟨h', by simp [hc]⟩
theorem yd5 (c : Int) : ∃ w, zf5 [.int c] = some (.str w) ∧ PyData.strOk w = true := by
 have h1 := zs3 c (j := 5) (by decide)
 have h2 := zs3 (c.fdiv 10) (j := 5) (by decide)
 obtain ⟨a, ea, ha⟩ := abc_at _ h1.1 h1.2
 obtain ⟨b, eb, hb⟩ := abc_at _ h2.1 h2.2
 have ka : PyData.strOk ⟨#[a]⟩ = true := by show (#[a]).all _ = true; simp [ha]
 have kb : PyData.strOk ⟨#[b]⟩ = true := by show (#[b]).all _ = true; simp [hb]
 by_cases h : (c.fdiv 5).fmod 2 = 0
 · refine ⟨⟨#[a]⟩, ?_, ka⟩
   have e1 : decide ((c.fdiv 5).fmod 2 = 0) = true := by simp [h]
   first | rfl | simp +decide only [zf5, uD, Nat.reduceAdd, Nat.reduceSub, reduceIte, Nat.reduceEqDiff, List.replicate, e1, ea]
 · have e1 : decide ((c.fdiv 5).fmod 2 = 0) = false := by simp [h]
   have ga : gAdd (.str ⟨#[b]⟩) (.str ⟨#[a]⟩) = some (.str ((⟨#[b]⟩ : Str) ++ ⟨#[a]⟩)) := gAdd_s (sz 2 (by decide))
   refine ⟨(⟨#[b]⟩ : Str) ++ ⟨#[a]⟩, ?_, ok_app _ _ kb ha⟩
   first | rfl | simp +decide only [zf5, uD, Nat.reduceAdd, Nat.reduceSub, reduceIte, Nat.reduceEqDiff, List.replicate, e1, ea, eb, ga]
theorem sg_at (i : Int) (h0 : 0 ≤ i) (h1 : i < 3) : ∃ k : Fin 3, atI [W.str "lane", .str "lanes", .str "mine"] i = some (.str (sgW k)) := by
 have : i = 0 ∨ i = 1 ∨ i = 2 := by omega
 rcases this with rfl | rfl | rfl
 · exact ⟨0, at0 _ _⟩
 · exact ⟨1, at1 _ _ _⟩
 · exact ⟨2, at2 _ _ _ _⟩
theorem op_at (i : Int) (h0 : 0 ≤ i) (h1 : i < 7) : ∃ k : Fin 7, atI [W.str "+", .str "-", .str "*", .str "div", .str "rem", .str "<", .str "="] i = some (.str (opW k)) := by
 have : i = 0 ∨ i = 1 ∨ i = 2 ∨ i = 3 ∨ i = 4 ∨ i = 5 ∨ i = 6 := by omega
 rcases this with rfl | rfl | rfl | rfl | rfl | rfl | rfl
 · exact ⟨0, at0 _ _⟩
 · exact ⟨1, at1 _ _ _⟩
 · exact ⟨2, at2 _ _ _ _⟩
 · exact ⟨3, at3 _ _ _ _ _⟩
 · exact ⟨4, at4 _ _ _ _ _ _⟩
 · exact ⟨5, at5 _ _ _ _ _ _ _⟩
 · exact ⟨6, (atN _ 6 (by simp)).trans rfl⟩
theorem leaf_run (c : Int) : ∃ t : Tr, zh8 [.int c] = some (tw t) ∧ dep t = 0 ∧ cnt t = 1 ∧ okN t := by
 have z1 := sz 1 (by decide)
 have z2 := sz 2 (by decide)
 have z3 := sz 3 (by decide)
 by_cases h1 : c.fmod 4 = 0
 · have g1 : gMul (.int (c.fdiv 4)) (.int 40692) = some (.int (c.fdiv 4 * 40692)) := zu9 (zv3 (by decide) (by decide))
   have e1 : decide (c.fmod 4 = 0) = true := by simp [h1]
   refine ⟨.num ((c.fdiv 4 * 40692).fmod 1999999999 - 999999999), ?_, rfl, rfl, fun x hx => by simp [nms, nmL, lvs] at hx⟩
   first | rfl | simp +decide only [zh8, uD, Nat.reduceAdd, Nat.reduceSub, reduceIte, Nat.reduceEqDiff, List.replicate, e1, g1, if_pos z2, tw]
 · have e1 : decide (c.fmod 4 = 0) = false := by simp [h1]
   by_cases h2 : c.fmod 4 = 1
   · have e2 : decide (c.fmod 4 = 1) = true := by simp [h2]
     have hm := zs3 (c.fdiv 4) (j := 3) (by decide)
     obtain ⟨s, es⟩ := sg_at ((c.fdiv 4).fmod 3) hm.1 hm.2
     refine ⟨.sig s, ?_, rfl, rfl, fun x hx => by simp [nms, nmL, lvs] at hx⟩
     first | rfl | simp +decide only [zh8, uD, Nat.reduceAdd, Nat.reduceSub, reduceIte, Nat.reduceEqDiff, List.replicate, e1, e2, if_pos z3, if_pos z1, es, tw]
   · have e2 : decide (c.fmod 4 = 1) = false := by simp [h2]
     obtain ⟨w, ew, hw⟩ := yd5 (c.fdiv 4)
     refine ⟨.nam w, ?_, rfl, rfl, fun x hx => by simp [nms, nmL, lvs] at hx; rw [hx]; exact hw⟩
     first | rfl | simp +decide only [zh8, uD, Nat.reduceAdd, Nat.reduceSub, reduceIte, Nat.reduceEqDiff, List.replicate, e1, e2, if_pos z2, ew, tw]
noncomputable def mxC : Nat → Nat
 | 0 => 1
 | n + 1 => 2 * mxC n + 1
theorem mx_pos : ∀ n, 1 ≤ mxC n
 | 0 => by simp [mxC]
 | n + 1 => by simp [mxC]
theorem zy4 : ∀ (r n : Nat) (c : Int), r < n → ∃ t : Tr, zc1 n [.int c, .int (r : Int)] = some (tw t) ∧ dep t ≤ r ∧ cnt t ≤ mxC r ∧ okN t
 | _, 0, _, h => absurd h (Nat.not_lt_zero _)
 | r, n + 1, c, hr => by
  have z2 := sz 2 (by decide)
  have z3 := sz 3 (by decide)
  have z7 := sz 7 (by decide)
  by_cases h0 : c.fmod 5 = 0 ∨ r = 0
  · obtain ⟨t, e, d0, c1, o⟩ := leaf_run (c.fdiv 5)
    refine ⟨t, ?_, by omega, by rw [c1]; exact mx_pos r, o⟩
    show bodyD 2 5 _ _ = _
    refine zk6 rfl (zd6 (δ1 := [.val (.int c), .val (.int (r : Int)), .val (.int (c.fdiv 5)), .no, .no]) (by first | rfl | simp +decide only [uD, Nat.reduceAdd, Nat.reduceSub, reduceIte, Nat.reduceEqDiff, List.replicate, startD]) ?_)
    have tt : dOr (dCmp cEq (dOp gMod (dPk 0) (dC (.int (5)))) (dC (.int (0)))) (dCmp cEq (dPk 1) (dC (.int (0)))) [.val (.int c), .val (.int (r : Int)), .val (.int (c.fdiv 5)), .no, .no] = some true := by
     by_cases h1 : c.fmod 5 = 0
     · have e1 : decide (c.fmod 5 = 0) = true := by simp [h1]
       first | rfl | simp +decide only [uD, Nat.reduceAdd, Nat.reduceSub, reduceIte, Nat.reduceEqDiff, List.replicate, e1]
     · have e1 : decide (c.fmod 5 = 0) = false := by simp [h1]
       have e2 : decide ((r : Int) = 0) = true := by have : r = 0 := h0.resolve_left h1; simp [this]
       first | rfl | simp +decide only [uD, Nat.reduceAdd, Nat.reduceSub, reduceIte, Nat.reduceEqDiff, List.replicate, e1, e2]
    exact yb2 (zj9 (b := true) tt (zf8 (by first | rfl | simp only [uD, Nat.reduceAdd, Nat.reduceSub, reduceIte, Nat.reduceEqDiff, List.replicate, e])))
  · have h1 : ¬ c.fmod 5 = 0 := fun h => h0 (.inl h)
    obtain ⟨r, rfl⟩ : ∃ k, r = k + 1 := ⟨r - 1, by omega⟩
    have e1 : decide (c.fmod 5 = 0) = false := by simp [h1]
    have e2 : decide (((r + 1 : Nat) : Int) = 0) = false := by simp; omega
    have e3 : ((r + 1 : Nat) : Int) - 1 = (r : Int) := by omega
    have g1 : gMul (.int (c.fdiv 5)) (.int 16807) = some (.int (c.fdiv 5 * 16807)) := zu9 (zv3 (by decide) (by decide))
    have g2 : gMul (.int (c.fdiv 5)) (.int 69621) = some (.int (c.fdiv 5 * 69621)) := zu9 (zv3 (by decide) (by decide))
    obtain ⟨a, ea, da, ca, oa⟩ := zy4 r n ((c.fdiv 5 * 16807 + 3).fmod 2147483647) (by omega)
    obtain ⟨b, eb, db, cb, ob⟩ := zy4 r n ((c.fdiv 5 * 69621 + 5).fmod 2147483629) (by omega)
    by_cases h2 : c.fmod 5 = 1
    · have e4 : decide (c.fmod 5 = 1) = true := by simp [h2]
      refine ⟨.box a, ?_, by simp only [dep]; omega, by simp only [cnt, mxC]; omega, fun x hx => oa x (by simpa [nms, lvs] using hx)⟩
      first | rfl | simp +decide only [zc1, uD, Nat.reduceAdd, Nat.reduceSub, reduceIte, Nat.reduceEqDiff, List.replicate, e1, e2, e3, e4, g1, ea, tw, if_pos z2]
    · have e4 : decide (c.fmod 5 = 1) = false := by simp [h2]
      have hm := zs3 (c.fdiv 5) (j := 7) (by decide)
      obtain ⟨k, ek⟩ := op_at ((c.fdiv 5).fmod 7) hm.1 hm.2
      refine ⟨.op k a b, ?_, by simp only [dep]; omega, by simp only [cnt, mxC]; omega, fun x hx => ?_⟩
      · first | rfl | simp +decide only [zc1, uD, Nat.reduceAdd, Nat.reduceSub, reduceIte, Nat.reduceEqDiff, List.replicate, e1, e2, e3, e4, g1, g2, ea, eb, ek, tw, if_pos z3, if_pos z7]
      · rw [zu8] at hx
        rcases List.mem_append.mp hx with h | h
        · exact oa x h
        · exact ob x h
theorem mx3 : mxC 3 = 15 := rfl
theorem mx1 : mxC 1 = 3 := rfl
theorem told3 (c : Int) : ∃ t : Tr, zc1 5 [.int c, .int 3] = some (tw t) ∧ okT t ∧ cnt t ≤ 15 ∧ okN t ∧ dep t ≤ 3 := by
 obtain ⟨t, e, d, n, o⟩ := zy4 3 5 c (by decide)
 rw [mx3] at n
 exact ⟨t, e, ⟨by omega, by omega⟩, n, o, d⟩
theorem told1 (c : Int) : ∃ t : Tr, zc1 5 [.int c, .int 1] = some (tw t) ∧ okT t ∧ cnt t ≤ 3 ∧ okN t ∧ dep t ≤ 3 := by
 obtain ⟨t, e, d, n, o⟩ := zy4 1 5 c (by decide)
 rw [mx1] at n
 exact ⟨t, e, ⟨by omega, by omega⟩, n, o, by omega⟩
theorem ca_loop (rest : Int) : ∀ (m lo : Nat), lo + m ≤ 100 → ∃ ts : List Tr, zi3 (dgName 1) dYes (dCall (zc1 5) (dCons (dOp gMod (dOp gMul (dOp gAdd (dPk 0) (dOp gMul (dPk 1) (dVar 1))) (dC (.int (16807)))) (dC (.int (2147483629)))) (dCons (dC (.int (1))) dNil))) [.val (.int rest), .no] (rngD (lo : Int) m) = some (ts.map tw) ∧ ts.length = m ∧ cntL ts ≤ 3 * m ∧ ∀ t ∈ ts, okT t ∧ okN t ∧ dep t ≤ 3
 | 0, lo, _ => ⟨[], rfl, rfl, by simp [cntL], by simp⟩
 | m + 1, lo, h => by
  obtain ⟨ts, e, l, c, k⟩ := ca_loop rest m (lo + 1) (by omega)
  rw [show ((lo + 1 : Nat) : Int) = (lo : Int) + 1 by omega] at e
  have g1 : gMul (.int (lo : Int)) (.int lo) = some (.int ((lo : Int) * lo)) := zu9 (yf2 (by omega) (by omega))
  have g2 : gMul (.int (rest + (lo : Int) * lo)) (.int 16807) = some (.int ((rest + (lo : Int) * lo) * 16807)) := zu9 (zv3 (by decide) (by decide))
  obtain ⟨t, et, k1, n1, o1, d1⟩ := told1 (((rest + (lo : Int) * lo) * 16807).fmod 2147483629)
  refine ⟨t :: ts, ?_, by simp [l], by simp [cntL] at c ⊢; omega, fun u hu => ?_⟩
  · rw [rngD_succ]
    simp +decide only [zi3, uD, Nat.reduceAdd, Nat.reduceSub, reduceIte, Nat.reduceEqDiff, List.replicate, g1, g2, et, e]
  · rcases List.mem_cons.mp hu with rfl | hu
    · exact ⟨k1, o1, d1⟩
    · exact k u hu
theorem cnt1 (a : Tr) : cntL [a] = cnt a := by simp [cntL]
theorem cnt2 (a b : Tr) : cntL [a, b] = cnt a + cnt b := by simp [cntL]
noncomputable def wdW : List W := [.str "set", .str "put", .str "tell", .str "join", .str "meet", .str "stop", .str "call", .str "call", .str "set"]
noncomputable def dD (c ln : Int) (many : Nat) (s4 s5 s6 : Sl) : DS := [.val (.int c), .val (.int ln), .val (.int (many : Int)), .val (.int (c.fdiv 9)), s4, s5, s6]
theorem zp9 {c ln : Int} {many : Nat} {w : Str} {d : W} (hw : atI wdW (c.fmod 9) = some (.str w)) {f : DS → Option Out} (h : f (dD c ln many (.val (.str w)) .no .no) = some (.rt d)) : dsSeq (dsAsg (dOp gDiv (dPk 0) (dC (.int (9)))) (dgName 3)) (dsSeq (dsAsg (dOp gIx (dOwn (dLst (dCons (dC (.str "set")) (dCons (dC (.str "put")) (dCons (dC (.str "tell")) (dCons (dC (.str "join")) (dCons (dC (.str "meet")) (dCons (dC (.str "stop")) (dCons (dC (.str "call")) (dCons (dC (.str "call")) (dCons (dC (.str "set")) dNil))))))))))) (dOp gMod (dPk 0) (dC (.int (9))))) (dgName 4)) f) (startD 7 [.int c, .int ln, .int (many : Int)]) = some (.rt d) := by
 have z9 := sz 9 (by decide)
 have hw' := hw
 unfold wdW at hw'
 refine zd6 (δ1 := dD c ln many .no .no .no) (by first | rfl | simp +decide only [dD, uD, Nat.reduceAdd, Nat.reduceSub, reduceIte, Nat.reduceEqDiff, List.replicate, startD]) ?_
 exact zd6 (δ1 := dD c ln many (.val (.str w)) .no .no) (by first | rfl | simp +decide only [dD, uD, Nat.reduceAdd, Nat.reduceSub, reduceIte, Nat.reduceEqDiff, List.replicate, if_pos z9, hw']) h
theorem jo_at (i : Int) (h0 : 0 ≤ i) (h1 : i < 4) : ∃ w, atI [W.str "sum", .str "most", .str "least", .str "ahead"] i = some (.str w) ∧ PyData.strOk w = true := by
 have : i = 0 ∨ i = 1 ∨ i = 2 ∨ i = 3 := by omega
 rcases this with rfl | rfl | rfl | rfl
 · exact ⟨_, at0 _ _, by decide +kernel⟩
 · exact ⟨_, at1 _ _ _, by decide +kernel⟩
 · exact ⟨_, at2 _ _ _ _, by decide +kernel⟩
 · exact ⟨_, at3 _ _ _ _ _, by decide +kernel⟩
theorem deed_run (c ln : Int) (many : Nat) (hm : many ≤ 6) : ∃ e : De, zh7 [.int c, .int ln, .int (many : Int)] = some (stW ln e) ∧ okD e ∧ gD e := by
 have z2 := sz 2 (by decide)
 have z3 := sz 3 (by decide)
 have z4 := sz 4 (by decide)
 have z5 := sz 5 (by decide)
 have h9 := zs3 c (j := 9) (by decide)
 obtain ⟨w, ew, kw'⟩ := yd5 (c.fdiv 9)
 have hs : ∀ i : Int, c.fmod 9 = i → atI wdW i = some (.str "set") → ∃ e : De, zh7 [.int c, .int ln, .int (many : Int)] = some (stW ln e) ∧ okD e ∧ gD e := fun i hi ha => by
  obtain ⟨t, et, k1, n1, o1, d1⟩ := told3 ((c.fdiv 9).fdiv 50)
  refine ⟨.set w t, zk6 rfl (zp9 (by rw [hi]; exact ha) ?_), ⟨by simpa [exps] using k1, by simp only [exps, cnt1]; omega⟩, ⟨by simpa [giv] using kw', by simp [jn], by simpa [exps] using ⟨o1, d1⟩⟩⟩
  exact iT rfl (zf8 (by first | rfl | simp +decide only [dD, uD, Nat.reduceAdd, Nat.reduceSub, reduceIte, Nat.reduceEqDiff, List.replicate, ew, et, stW, kw, rs, if_pos z4]))
 have hc : ∀ i : Int, c.fmod 9 = i → atI wdW i = some (.str "call") → ∃ e : De, zh7 [.int c, .int ln, .int (many : Int)] = some (stW ln e) ∧ okD e ∧ gD e := fun i hi ha => by
  obtain ⟨ts, e, l, n, k⟩ := ca_loop (c.fdiv 9) many 0 (by omega)
  refine ⟨.call w ts, zk6 rfl (zp9 (by rw [hi]; exact ha) ?_), ⟨fun t ht => (k t ht).1, by simp only [exps]; omega⟩, ⟨by simpa [giv] using kw', by simp [jn], fun t ht => (k t ht).2⟩⟩
  refine (iF rfl q_call.2.2.2.2.2.1).trans ?_
  refine (iF rfl q_call.2.2.2.2.1).trans ?_
  refine (iF rfl q_call.2.2.2.2.2.2.2.1).trans ?_
  refine (iF rfl q_call.2.2.2.2.2.2.1).trans ?_
  refine iT rfl ?_
  refine zd6 (δ1 := dD c ln many (.val (.str "call")) .no (.val (.list (ts.map tw)))) (zp1 (d := .list (ts.map tw)) ?_ rfl) (zf8 (by first | rfl | simp only [dD, uD, Nat.reduceAdd, Nat.reduceSub, reduceIte, Nat.reduceEqDiff, List.replicate, ew, stW, kw, rs, if_pos z5]))
  have r1 : dRng1 (dCons (dVar 2) dNil) (dD c ln many (.val (.str "call")) .no .no) = some (rngD ((0 : Nat) : Int) many) := rng1_run (n := many) (by first | rfl | simp only [dD, uD, Nat.reduceAdd, Nat.reduceSub, reduceIte, Nat.reduceEqDiff, List.replicate]) (by omega)
  have zl : (rngD ((0 : Nat) : Int) many).length ≤ sizeLine := sz _ (by simp [rngD]; omega)
  simp only [dOwn, dComp, r1, Option.bind_some, if_pos zl]
  rw [show liftD [some 3, none] (dD c ln many (.val (.str "call")) .no .no) = [.val (.int (c.fdiv 9)), .no] from rfl, e]
  rfl
 have : c.fmod 9 = 0 ∨ c.fmod 9 = 1 ∨ c.fmod 9 = 2 ∨ c.fmod 9 = 3 ∨ c.fmod 9 = 4 ∨ c.fmod 9 = 5 ∨ c.fmod 9 = 6 ∨ c.fmod 9 = 7 ∨ c.fmod 9 = 8 := by omega
 rcases this with h | h | h | h | h | h | h | h | h
 · exact hs 0 h (at0 _ _)
 · obtain ⟨a, ea, k1, n1, o1, d1⟩ := told3 (c.fdiv 9)
   obtain ⟨b, eb, k2, n2, o2, d2⟩ := told3 ((c.fdiv 9 * 69621).fmod 2147483629)
   have g1 : gMul (.int (c.fdiv 9)) (.int 69621) = some (.int (c.fdiv 9 * 69621)) := zu9 (zv3 (by decide) (by decide))
   refine ⟨.put a b, zk6 rfl (zp9 (by rw [h]; exact at1 _ _ _) ?_), ⟨by simpa [exps] using ⟨k1, k2⟩, by simp only [exps, cnt2]; omega⟩, ⟨by simp [giv], by simp [jn], by simpa [exps] using ⟨⟨o1, d1⟩, o2, d2⟩⟩⟩
   refine (iF rfl q_put.2.2.2.2.1).trans ?_
   exact iT rfl (zf8 (by first | rfl | simp +decide only [dD, uD, Nat.reduceAdd, Nat.reduceSub, reduceIte, Nat.reduceEqDiff, List.replicate, ea, eb, g1, stW, kw, rs, if_pos z4]))
 · obtain ⟨t, et, k1, n1, o1, d1⟩ := told3 (c.fdiv 9)
   refine ⟨.tell t, zk6 rfl (zp9 (by rw [h]; exact at2 _ _ _ _) ?_), ⟨by simpa [exps] using k1, by simp only [exps, cnt1]; omega⟩, ⟨by simp [giv], by simp [jn], by simpa [exps] using ⟨o1, d1⟩⟩⟩
   refine (iF rfl q_tell.2.2.2.2.2.1).trans ?_
   refine (iF rfl q_tell.2.2.2.2.1).trans ?_
   exact iT rfl (zf8 (by first | rfl | simp only [dD, uD, Nat.reduceAdd, Nat.reduceSub, reduceIte, Nat.reduceEqDiff, List.replicate, et, stW, kw, rs, if_pos z3]))
 · obtain ⟨t, et, k1, n1, o1, d1⟩ := told3 ((c.fdiv 9).fdiv 200)
   obtain ⟨x, ex, kx⟩ := yd5 ((c.fdiv 9).fdiv 4)
   have h4 := zs3 (c.fdiv 9) (j := 4) (by decide)
   obtain ⟨j, ej, kj⟩ := jo_at _ h4.1 h4.2
   refine ⟨.join x j t, zk6 rfl (zp9 (by rw [h]; exact at3 _ _ _ _ _) ?_), ⟨by simpa [exps] using k1, by simp only [exps, cnt1]; omega⟩, ⟨by simpa [giv] using kx, by simpa [jn] using kj, by simpa [exps] using ⟨o1, d1⟩⟩⟩
   refine (iF rfl q_join.2.2.2.2.2.1).trans ?_
   refine (iF rfl q_join.2.2.2.2.1).trans ?_
   refine (iF rfl q_join.2.2.2.2.2.2.2.1).trans ?_
   exact iT rfl (zd6 (δ1 := dD c ln many (.val (.str "join")) (.val (.str j)) .no) (by first | rfl | simp +decide only [dD, uD, Nat.reduceAdd, Nat.reduceSub, reduceIte, Nat.reduceEqDiff, List.replicate, ej, if_pos z4]) (zf8 (by first | rfl | simp +decide only [dD, uD, Nat.reduceAdd, Nat.reduceSub, reduceIte, Nat.reduceEqDiff, List.replicate, et, ex, stW, kw, rs, if_pos z5])))
 · refine ⟨.meet, zk6 rfl (zp9 (by rw [h]; exact at4 _ _ _ _ _ _) ?_), ⟨by simp [exps], by simp [exps, cntL]⟩, ⟨by simp [giv], by simp [jn], by simp [exps]⟩⟩
   refine (iF rfl q_meet.2.2.2.2.2.1).trans ?_
   refine (iF rfl q_meet.2.2.2.2.1).trans ?_
   refine (iF rfl q_meet.2.2.2.2.2.2.2.2.1).trans ?_
   refine (iF rfl q_meet.2.2.2.2.2.2.2.1).trans ?_
   refine (iF rfl q_meet.2.2.2.2.2.2.1).trans ?_
   exact zf8 (by first | rfl | simp only [dD, uD, Nat.reduceAdd, Nat.reduceSub, reduceIte, Nat.reduceEqDiff, List.replicate, stW, kw, rs, if_pos z2])
 · refine ⟨.stop, zk6 rfl (zp9 (by rw [h]; exact at5 _ _ _ _ _ _ _) ?_), ⟨by simp [exps], by simp [exps, cntL]⟩, ⟨by simp [giv], by simp [jn], by simp [exps]⟩⟩
   refine (iF rfl q_stop.2.2.2.2.2.1).trans ?_
   refine (iF rfl q_stop.2.2.2.2.1).trans ?_
   refine (iF rfl q_stop.2.2.2.2.2.2.2.2.1).trans ?_
   refine (iF rfl q_stop.2.2.2.2.2.2.2.1).trans ?_
   refine (iF rfl q_stop.2.2.2.2.2.2.1).trans ?_
   exact zf8 (by first | rfl | simp only [dD, uD, Nat.reduceAdd, Nat.reduceSub, reduceIte, Nat.reduceEqDiff, List.replicate, stW, kw, rs, if_pos z2])
 · exact hc 6 h ((atN _ 6 (by simp [wdW])).trans rfl)
 · exact hc 7 h ((atN _ 7 (by simp [wdW])).trans rfl)
 · exact hs 8 h ((atN _ 8 (by simp [wdW])).trans rfl)
theorem bd_loop (many : Nat) (hm : many ≤ 6) (b : Int) : ∀ (ms : List Int) (k : Nat), k + ms.length ≤ 100 → ∃ ds : List De, zi3 (dgTup 2 (dgCons (dgName 2) (dgCons (dgName 3) dgNil))) dYes (dCall zh7 (dCons (dCall zl4 (dCons (dVar 3) (dCons (dVar 2) dNil))) (dCons (dOp gAdd (dOp gAdd (dPk 1) (dC (.int (1)))) (dVar 2)) (dCons (dVar 0) dNil)))) [.val (.int (many : Int)), .val (.int b), .no, .no] (enF k (ms.map .int)) = some (bodyW (b + 1 + (k : Int)) ds) ∧ ds.length = ms.length ∧ ∀ d ∈ ds, okD d ∧ gD d
 | [], k, _ => ⟨[], rfl, rfl, by simp⟩
 | x :: ms, k, h => by
  simp only [List.length_cons] at h
  obtain ⟨ds, e, l, g⟩ := bd_loop many hm b ms (k + 1) (by omega)
  obtain ⟨c, ec, _⟩ := mixed_run x k (by omega)
  obtain ⟨d, ed, o1, g1⟩ := deed_run c (b + 1 + (k : Int)) many hm
  refine ⟨d :: ds, ?_, by simp [l], fun u hu => ?_⟩
  · rw [show b + 1 + ((k + 1 : Nat) : Int) = b + 1 + (k : Int) + 1 by omega] at e
    simp only [List.map_cons, enF, zi3, uD, Nat.reduceAdd, Nat.reduceSub, reduceIte, Nat.reduceEqDiff, List.replicate, ec, ed, bodyW] at e ⊢
    rw [e]
    rfl
  · rcases List.mem_cons.mp hu with rfl | hu
    · exact ⟨o1, g1⟩
    · exact g u hu
noncomputable def parW : List Str := [Str.ofString "v", Str.ofString "zz", Str.ofString "y", Str.ofString "wv", Str.ofString "k", Str.ofString "x"]
theorem par_cut (m : Nat) : ∃ ps : List Str, cutW [W.str "v", .str "zz", .str "y", .str "wv", .str "k", .str "x"] none (some (m : Int)) = ps.map .str ∧ ps.length ≤ 6 ∧ ∀ x ∈ ps, PyData.strOk x = true := by
 refine ⟨parW.take m, ?_, by simp [parW]; omega, fun x hx => ?_⟩
 · show cutW (parW.map W.str) none (some (m : Int)) = _
   unfold cutW
   rw [HT.sIx_none, HT.sIx_nat, List.map_take]
   first | rfl | simp only [List.drop_zero, Nat.sub_zero]
   rcases Nat.lt_or_ge (parW.map W.str).length m with h | h
   · rw [show min m (parW.map W.str).length = (parW.map W.str).length by omega, List.take_of_length_le (Nat.le_refl _), List.take_of_length_le (by omega)]
   · rw [show min m (parW.map W.str).length = m by omega]
 · have hk : (parW.all fun x => PyData.strOk x) = true := by decide +kernel
   exact List.all_eq_true.mp hk x (List.mem_of_mem_take hx)
noncomputable def dPr (scr : W) (c : Int) (many : Nat) (ps : List Str) (s4 s5 s6 s7 : Sl) : DS := [.val scr, .val (.int c), .val (.int (many : Int)), .val (.list (ps.map .str)), s4, s5, s6, s7]
theorem prog_run (ns : List Int) (h : ns.length ≤ 63) : ∃ (o : Bool) (ds : List De) (ps : List Str) (b e b' e' : Int), zm8 [.list (ns.map .int)] = some (.list (prW o (mW ds b e) (qW ps b' e'))) ∧ ds.length ≤ 63 ∧ ps.length ≤ 10 ∧ (∀ d ∈ ds, okD d ∧ gD d) ∧ ∀ x ∈ ps, PyData.strOk x = true := by
 have z0 := sz 0 (by decide)
 have z2 := sz 2 (by decide)
 have z5 := sz 5 (by decide)
 have z6 := sz 6 (by decide)
 let scr : W := .list (ns.map .int)
 obtain ⟨c, hc⟩ : ∃ c : Int, ∀ {f : DS → Option Out} {d : W}, f [.val scr, .val (.int c), .no, .no, .no, .no, .no, .no] = some (.rt d) → dsSeq (dsIf (dCmp cGt (dC1 gLen (dPk 0)) (dC (.int (0)))) (dsAsg (dOp gIx (dPk 0) (dC (.int (0)))) (dgName 1)) dsNext) f [.val scr, .val (.int 0), .no, .no, .no, .no, .no, .no] = some (.rt d) := by
  cases ns with
  | nil =>
   refine ⟨0, fun {f d} hf => zd6 (zj9 (b := false) (by first | rfl | simp +decide only [scr, uD, Nat.reduceAdd, Nat.reduceSub, reduceIte, Nat.reduceEqDiff, List.replicate]) rfl) hf⟩
  | cons x r =>
   have l1 : decide ((0 : Int) < (((W.int x) :: r.map W.int).length : Nat)) = true := by simp <;> omega
   refine ⟨x, fun {f d} hf => zd6 (zj9 (b := true) ?_ (zp1 (d := .int x) (by first | rfl | simp only [scr, uD, Nat.reduceAdd, Nat.reduceSub, reduceIte, Nat.reduceEqDiff, List.replicate, at0]) rfl)) hf⟩
   simp only [scr, uD, Nat.reduceAdd, Nat.reduceSub, reduceIte, Nat.reduceEqDiff, List.replicate] at l1 ⊢
   first | rfl | simp only [l1]
 have h7 := zs3 c (j := 7) (by decide)
 obtain ⟨many, hmany⟩ : ∃ k : Nat, c.fmod 7 = (k : Int) := ⟨(c.fmod 7).toNat, by omega⟩
 obtain ⟨ps, ep, lp, kp⟩ := par_cut many
 obtain ⟨ms, lm, em⟩ := cut_int ns (some 1) (some 61)
 have main : ∀ (b : Int), ∃ ds : List De, ds.length ≤ 63 ∧ (∀ d ∈ ds, okD d ∧ gD d) ∧ ∀ {f : DS → Option Out} {d : W}, f (dPr scr c many ps (.val (.int b)) (.val (.list (bodyW (b + 1) ds))) (.val (.int (b + (ds.length : Nat) + 1))) (.val (mW ds b (b + (ds.length : Nat) + 1)))) = some (.rt d) → dsSeq (dsAsg (dOwn (dComp [some 2, some 4, none, none] (dEnum (dCons (dOwn (dSlL (dPk 0) (dPart (dC (.int (1)))) (dPart (dC (.int (61)))))) dNil)) (dgTup 2 (dgCons (dgName 2) (dgCons (dgName 3) dgNil))) dYes (dCall zh7 (dCons (dCall zl4 (dCons (dVar 3) (dCons (dVar 2) dNil))) (dCons (dOp gAdd (dOp gAdd (dPk 1) (dC (.int (1)))) (dVar 2)) (dCons (dVar 0) dNil)))))) (dgName 5)) (dsSeq (dsAsg (dOp gAdd (dOp gAdd (dPk 4) (dC1 gLen (dPk 5))) (dC (.int (1)))) (dgName 6)) (dsSeq (dsAsg (dTup (dCons (dC (.str "main")) (dCons (dOwn (dLst dNil)) (dCons (dVar 5) (dCons (dVar 4) (dCons (dVar 6) dNil)))))) (dgName 7)) f)) (dPr scr c many ps (.val (.int b)) .no .no .no) = some (.rt d) := fun b => by
  obtain ⟨ds, e, l, g⟩ := bd_loop many (by omega) b ms 0 (by omega)
  rw [show b + 1 + ((0 : Nat) : Int) = b + 1 by omega] at e
  refine ⟨ds, by omega, g, fun {f d} hf => ?_⟩
  refine zd6 (δ1 := dPr scr c many ps (.val (.int b)) (.val (.list (bodyW (b + 1) ds))) .no .no) (zp1 (d := .list (bodyW (b + 1) ds)) ?_ rfl) ?_
  · have ei : dEnum (dCons (dOwn (dSlL (dPk 0) (dPart (dC (.int (1)))) (dPart (dC (.int (61)))))) dNil) (dPr scr c many ps (.val (.int b)) .no .no .no) = some (enF 0 (ms.map .int)) := by
     first | rfl | simp only [dPr, scr, uD, Nat.reduceAdd, Nat.reduceSub, reduceIte, Nat.reduceEqDiff, List.replicate, em, yd6]
    have zl : (enF 0 (ms.map W.int)).length ≤ sizeLine := sz _ (by rw [← yd6]; simp [enumD]; omega)
    first | rfl | simp only [dOwn, dComp, ei, Option.bind_some, if_pos zl]
    rw [show liftD [some 2, some 4, none, none] (dPr scr c many ps (.val (.int b)) .no .no .no) = [.val (.int (many : Int)), .val (.int b), .no, .no] from rfl, e]
    rfl
  · have bl := bodyW_len ds (b + 1)
    refine zd6 (δ1 := dPr scr c many ps (.val (.int b)) (.val (.list (bodyW (b + 1) ds))) (.val (.int (b + (ds.length : Nat) + 1))) .no) (by first | rfl | simp only [dPr, uD, Nat.reduceAdd, Nat.reduceSub, reduceIte, Nat.reduceEqDiff, List.replicate, bl]) ?_
    exact zd6 (by first | rfl | simp only [dPr, mW, uD, Nat.reduceAdd, Nat.reduceSub, reduceIte, Nat.reduceEqDiff, List.replicate, if_pos z0, if_pos z5]) hf
 by_cases ho : (c.fdiv 7).fmod 2 = 1
 · obtain ⟨ds, l1, g1, r1⟩ := main 3
   have eo : decide ((c.fdiv 7).fmod 2 = 1) = true := by simp [ho]
   refine ⟨true, ds, ps, 3, 3 + (ds.length : Nat) + 1, 1, 2, ?_, l1, by omega, g1, kp⟩
   refine zk6 rfl (zd6 (δ1 := [.val scr, .val (.int 0), .no, .no, .no, .no, .no, .no]) rfl (hc ?_))
   refine zd6 (δ1 := [.val scr, .val (.int c), .val (.int (many : Int)), .no, .no, .no, .no, .no]) (by first | rfl | simp +decide only [uD, Nat.reduceAdd, Nat.reduceSub, reduceIte, Nat.reduceEqDiff, List.replicate, hmany]) ?_
   refine zd6 (δ1 := dPr scr c many ps .no .no .no .no) (by first | rfl | simp only [dPr, uD, Nat.reduceAdd, Nat.reduceSub, reduceIte, Nat.reduceEqDiff, List.replicate, ep, if_pos z6]) ?_
   refine zd6 (δ1 := dPr scr c many ps (.val (.int 1)) .no .no .no) rfl ?_
   refine zd6 (δ1 := dPr scr c many ps (.val (.int 3)) .no .no .no) (zj9 (b := true) (by first | rfl | simp +decide only [dPr, uD, Nat.reduceAdd, Nat.reduceSub, reduceIte, Nat.reduceEqDiff, List.replicate, eo]) rfl) (r1 ?_)
   refine yb2 (zj9 (b := true) (by first | rfl | simp only [dPr, uD, Nat.reduceAdd, Nat.reduceSub, reduceIte, Nat.reduceEqDiff, List.replicate, decide_true]) (zf8 ?_))
   first | rfl | simp only [dPr, uD, Nat.reduceAdd, Nat.reduceSub, reduceIte, Nat.reduceEqDiff, List.replicate, prW, qW, if_pos z0, if_pos z2, if_pos z5]
 · obtain ⟨ds, l1, g1, r1⟩ := main 1
   have eo : decide ((c.fdiv 7).fmod 2 = 1) = false := by simp [ho]
   refine ⟨false, ds, ps, 1, 1 + (ds.length : Nat) + 1, 1 + (ds.length : Nat) + 1 + 1, 1 + (ds.length : Nat) + 1 + 2, ?_, l1, by omega, g1, kp⟩
   refine zk6 rfl (zd6 (δ1 := [.val scr, .val (.int 0), .no, .no, .no, .no, .no, .no]) rfl (hc ?_))
   refine zd6 (δ1 := [.val scr, .val (.int c), .val (.int (many : Int)), .no, .no, .no, .no, .no]) (by first | rfl | simp +decide only [uD, Nat.reduceAdd, Nat.reduceSub, reduceIte, Nat.reduceEqDiff, List.replicate, hmany]) ?_
   refine zd6 (δ1 := dPr scr c many ps .no .no .no .no) (by first | rfl | simp only [dPr, uD, Nat.reduceAdd, Nat.reduceSub, reduceIte, Nat.reduceEqDiff, List.replicate, ep, if_pos z6]) ?_
   refine zd6 (δ1 := dPr scr c many ps (.val (.int 1)) .no .no .no) rfl ?_
   refine zd6 (δ1 := dPr scr c many ps (.val (.int 1)) .no .no .no) (zj9 (b := false) (by first | rfl | simp +decide only [dPr, uD, Nat.reduceAdd, Nat.reduceSub, reduceIte, Nat.reduceEqDiff, List.replicate, eo]) rfl) (r1 ?_)
   refine zd6 (zj9 (b := false) (by first | rfl | simp +decide only [dPr, uD, Nat.reduceAdd, Nat.reduceSub, reduceIte, Nat.reduceEqDiff, List.replicate]) rfl) (zf8 ?_)
   first | rfl | simp +decide only [dPr, uD, Nat.reduceAdd, Nat.reduceSub, reduceIte, Nat.reduceEqDiff, List.replicate, prW, qW, if_pos z0, if_pos z2, if_pos z5]
theorem tw_ok : ∀ (t : Tr), okN t → okW (tw t) = true
 | .num v, _ => by simp only [tw, okW, okWs, Bool.and_true]; decide +kernel
 | .sig k, _ => by simp only [tw, okW, okWs, Bool.and_true]; exact sgOk k
 | .nam x, h => by
  have := h x (by simp [nms, nmL, lvs])
  simp only [tw, okW, okWs, Bool.and_true, this]
  decide +kernel
 | .box t, h => by
  have := tw_ok t (fun x hx => h x (by simpa [nms, lvs] using hx))
  simp only [tw, okW, okWs, Bool.and_true, this]
  decide +kernel
 | .op k t u, h => by
  have h1 := tw_ok t (fun x hx => h x (by rw [zu8]; simp [hx]))
  have h2 := tw_ok u (fun x hx => h x (by rw [zu8]; simp [hx]))
  simp only [tw, okW, okWs, Bool.and_true, h1, h2]
  exact opOk k
theorem yh5 : ∀ (t : Tr), depW (tw t) ≤ dep t + 1
 | .num v => by simp [tw, depW, depWs, dep]
 | .sig k => by simp [tw, depW, depWs, dep]
 | .nam x => by simp [tw, depW, depWs, dep]
 | .box t => by have := yh5 t; simp [tw, depW, depWs, dep]; omega
 | .op k t u => by have := yh5 t; have := yh5 u; simp [tw, depW, depWs, dep]; omega
theorem kw_ok (d : De) : PyData.strOk (kw d) = true := by cases d <;> (simp only [kw]; decide +kernel)
theorem qq_ok : PyData.strOk (Str.ofString "qq") = true := by decide +kernel
theorem ye8 {ts : List Tr} (h : ∀ t ∈ ts, okN t ∧ dep t ≤ 3) : okWs (ts.map tw) = true ∧ depWs (ts.map tw) ≤ 4 :=
 ⟨okWs_all fun d hd => by obtain ⟨t, h1, rfl⟩ := List.mem_map.mp hd; exact tw_ok t (h t h1).1, depWs_all fun d hd => by
  obtain ⟨t, h1, rfl⟩ := List.mem_map.mp hd
  have := yh5 t
  have := (h t h1).2
  omega⟩
theorem st_ok (k : Int) {d : De} (h : gD d) : okW (stW k d) = true ∧ depW (stW k d) ≤ 6 := by
 have q := kw_ok d
 have r : okWs (rs d) = true ∧ depWs (rs d) ≤ 5 := by
  cases d with
  | set x t =>
   obtain ⟨a, b⟩ := ye8 h.t
   have g := h.g x (by simp [giv])
   simp [exps, okWs, depWs] at a b
   simp [rs, okWs, okW, depWs, depW, a, g]
   omega
  | put s t =>
   obtain ⟨a, b⟩ := ye8 h.t
   simp [exps, okWs, depWs] at a b
   simp [rs, okWs, depWs, a]
   omega
  | tell t =>
   obtain ⟨a, b⟩ := ye8 h.t
   simp [exps, okWs, depWs] at a b
   simp [rs, okWs, depWs, a]
   omega
  | join x j t =>
   obtain ⟨a, b⟩ := ye8 h.t
   have g := h.g x (by simp [giv])
   have j := h.j j (by simp [jn])
   simp [exps, okWs, depWs] at a b
   simp [rs, okWs, okW, depWs, depW, a, g, j]
   omega
  | meet => exact ⟨rfl, by simp [rs, depWs]⟩
  | stop => exact ⟨rfl, by simp [rs, depWs]⟩
  | call x ts =>
   obtain ⟨a, b⟩ := ye8 h.t
   have g := h.g x (by simp [giv])
   simp only [exps] at a b
   simp [rs, okWs, okW, depWs, depW, a, g, qq_ok]
   omega
 refine ⟨by simp [stW, okW, okWs, q, r.1], ?_⟩
 have := r.2
 simp [stW, depW, depWs]
 omega
theorem bodyW_ok : ∀ (ds : List De) (k : Int), (∀ t ∈ ds, gD t) → okWs (bodyW k ds) = true ∧ depWs (bodyW k ds) ≤ 6
 | [], k, _ => ⟨rfl, by simp [bodyW, depWs]⟩
 | t :: ts, k, h => by
  obtain ⟨a, b⟩ := bodyW_ok ts (k + 1) fun u hu => h u (by simp [hu])
  obtain ⟨c, d⟩ := st_ok k (h t (by simp))
  refine ⟨by simp [bodyW, okWs, a, c], ?_⟩
  simp [bodyW, depWs]
  omega
theorem prog_ok (o : Bool) (ds : List De) (ps : List Str) (b e b' e' : Int) (h : ∀ t ∈ ds, gD t) (hp : ∀ x ∈ ps, PyData.strOk x = true) : okW (.list (prW o (mW ds b e) (qW ps b' e'))) = true ∧ depW (.list (prW o (mW ds b e) (qW ps b' e'))) ≤ 64 := by
 obtain ⟨k, d⟩ := bodyW_ok ds (b + 1) h
 have s : PyData.strOk (Str.ofString "main") = true := by decide +kernel
 have p1 : okWs (ps.map .str) = true := okWs_all fun d hd => by obtain ⟨x, h1, rfl⟩ := List.mem_map.mp hd; exact hp x h1
 have p2 : depWs (ps.map .str) ≤ 0 := depWs_all fun d hd => by obtain ⟨x, h1, rfl⟩ := List.mem_map.mp hd; simp [depW]
 cases o
 · refine ⟨by simp [prW, mW, qW, okW, okWs, k, s, p1, qq_ok], ?_⟩
   simp [prW, mW, qW, depW, depWs]
   omega
 · refine ⟨by simp [prW, mW, qW, okW, okWs, k, s, p1, qq_ok], ?_⟩
   simp [prW, mW, qW, depW, depWs]
   omega
theorem allR_eq (N : List Str) (g g' : W) : ∀ (ds : List De) (k : Int), (allR N g k ds).length = (allR N g' k ds).length
 | [], _ => rfl
 | d :: ds, k => by simp [allR, stR, allR_eq N g g' ds (k + 1)]
theorem law_true (ns : List Int) (h : ns.length ≤ 63) : ∃ S, p_law [.list (ns.map .int)] [] = some (.ok (.bool true), S) := by
 have z0 := sz 0 (by decide)
 have z2 := sz 2 (by decide)
 obtain ⟨o, ds, ps, b, e, b', e', ep, hl, lp, hd, kp⟩ := prog_run ns h
 have ho : ∀ d ∈ ds, okD d := fun d h => (hd d h).1
 have hi : ∀ d ∈ ds, inD (NN ds) d := fun d h => inDN (ps := []) h
 obtain ⟨S1, e1⟩ := made_run o ds ps b e b' e' [] ho hl (by omega)
 obtain ⟨po, pd⟩ := prog_ok o ds ps b e b' e' (fun d h => (hd d h).2) kp
 have ne := cNe_self po pd
 let scr : W := .list (ns.map .int)
 let pr : W := .list (prW o (mW ds b e) (qW ps b' e'))
 let R : List W := zv1 ds b e e'
 let mn := mW ds b e
 let ot := qW ps b' e'
 obtain ⟨S2, e2, h2⟩ := lawn_run ds (b + 1) S1 ho (by omega)
 have al := zy3 (NN ds) (gW ds b e) ds (b + 1) ho
 have hR : R.length = (topR ds g0W b e).length + 1 := by
  have := allR_eq (NN ds) (gW ds b e) g0W ds (b + 1)
  simp [R, zv1, topR, this]
 have hg : W.int ((R.length : Int) - 1) = gW ds b e := by
  rw [hR, gW]
  congr 1
  omega
 have hlt : S1.length < S2.length := (List.getElem?_eq_some_iff.mp h2).1
 obtain ⟨S3, s7, s8, s9, e3, h3⟩ := bo_loop (scr := scr) (pr := pr) (mn := mn) (ot := ot) (nl := S1.length) (dl := S2.length) (N := NN ds) (R := R) (by omega) hg ds (b + 1) (S2 ++ [.lst []]) [] .no .no .no (fun d h => ⟨ho d h, hi d h⟩) (by simp; omega) (zq1 h2) (zu5 _ _)
 rw [List.nil_append] at h3
 have hk : ∀ x ∈ R, rowK x := fun x hx => by
  simp only [R, zv1, topR, List.mem_append, List.mem_singleton] at hx
  rcases hx with (hx | rfl) | rfl
  · exact k_allR _ _ ds _ (fun d h => ⟨hi d h, (hd d h).2⟩) x hx
  · exact rk (by decide +kernel) rfl (by simp)
  · exact rk (by decide +kernel) rfl (by simp)
 have er : allR (NN ds) (gW ds b e) (b + 1) ds ++ [backW e, backW e'] = R := by simp [R, zv1, topR]
 have h4 : (S3.set S2.length (.lst (allR (NN ds) (gW ds b e) (b + 1) ds ++ [backW e, backW e'])))[S2.length]? = some (.lst R) := by rw [set_eq' h3, er]
 have zp : (prW o (mW ds b e) (qW ps b' e')).length ≤ sizeLine := sz _ (by rw [prW_len]; decide)
 refine ⟨S3.set S2.length (.lst (allR (NN ds) (gW ds b e) (b + 1) ds ++ [backW e, backW e'])), ?_⟩
 unfold p_law
 refine (ze6 rfl).trans ((congrArg outS (?_ : _ = some (.rt (.bool true), _))).trans rfl)
 refine (zb6 (δ' := [.val scr, .val pr, .no, .no, .no, .no, .no, .no, .no, .no]) (S' := []) (by first | rfl | simp only [scr, pr, uS, uD, Nat.reduceAdd, Nat.reduceSub, reduceIte, Nat.reduceEqDiff, List.replicate, startD, ep])).trans ?_
 refine (zb6 (δ' := [.val scr, .val pr, .val (.list R), .no, .no, .no, .no, .no, .no, .no]) (S' := S1) (zp5 (zg8 (S1 := []) (ds := [pr]) rfl e1) rfl)).trans ?_
 refine (zb6 (δ' := [.val scr, .val pr, .val (.list R), .no, .no, .no, .no, .no, .no, .no]) (S' := S1) (zm6 (zj9 (b := false) (by first | rfl | simp only [scr, pr, uD, Nat.reduceAdd, Nat.reduceSub, reduceIte, Nat.reduceEqDiff, List.replicate, ep, ne]) rfl))).trans ?_
 refine (zb6 (δ' := [.val scr, .val pr, .val (.list R), .val mn, .no, .no, .no, .no, .no, .no]) (S' := S1) (zm6 (zp1 (d := mn) ?_ rfl))).trans ?_
 · simp only [pr, uD, Nat.reduceAdd, Nat.reduceSub, reduceIte, Nat.reduceEqDiff, List.replicate, if_pos zp]
   rw [f_main]
   simp only [Option.bind_some, Option.map_some, gIx_l, at0]
   rfl
 refine (zb6 (δ' := [.val scr, .val pr, .val (.list R), .val mn, .val ot, .no, .no, .no, .no, .no]) (S' := S1) (zm6 (zp1 (d := ot) ?_ rfl))).trans ?_
 · simp only [pr, uD, Nat.reduceAdd, Nat.reduceSub, reduceIte, Nat.reduceEqDiff, List.replicate, if_pos zp]
   rw [f_other]
   simp only [Option.bind_some, Option.map_some, gIx_l, at0]
   rfl
 refine (zb6 (δ' := [.val scr, .val pr, .val (.list R), .val mn, .val ot, .val (.ref S1.length), .no, .no, .no, .no]) (S' := S2) (zp5 (zg8 (S1 := S1) (ds := [.list (bodyW (b + 1) ds)]) (by first | rfl | simp only [mn, mW, uS, uD, Nat.reduceAdd, Nat.reduceSub, reduceIte, Nat.reduceEqDiff, List.replicate, at2]) e2) rfl)).trans ?_
 refine (zb6 (δ' := dL scr pr (.list R) mn ot S1.length S2.length .no .no .no) (S' := S2 ++ [.lst []]) (zp5 (d := .ref S2.length) (by first | rfl | simp only [uS, uD, Nat.reduceAdd, Nat.reduceSub, reduceIte, Nat.reduceEqDiff, List.replicate, if_pos z0]) rfl)).trans ?_
 refine (zb6 ((zo8 (S1 := S2 ++ [.lst []]) (ds := bodyW (b + 1) ds) (by first | rfl | simp only [dL, mn, mW, uS, uD, Nat.reduceAdd, Nat.reduceSub, reduceIte, Nat.reduceEqDiff, List.replicate, at2])).trans e3)).trans ?_
 refine (zb6 (ssExtend_of (es := [backW e, backW e']) rfl h3 (by first | rfl | simp only [dL, mn, ot, mW, qW, backW, uS, uD, Nat.reduceAdd, Nat.reduceSub, reduceIte, Nat.reduceEqDiff, List.replicate, at4, if_pos z2]) (by simp; omega))).trans ?_
 have rb : R.length < 9000 := by rw [← er]; simp; omega
 have c1 : sB (sEq false (sPure (dC1 gLen (dPk 2))) (sLen (sPure (dVar 6)))) (dL scr pr (.list R) mn ot S1.length S2.length s7 s8 s9) (S3.set S2.length (.lst (allR (NN ds) (gW ds b e) (b + 1) ds ++ [backW e, backW e']))) = some (.ok (.bool true), S3.set S2.length (.lst (allR (NN ds) (gW ds b e) (b + 1) ds ++ [backW e, backW e']))) := by
  have q := eqS_self (S := S3.set S2.length (.lst (allR (NN ds) (gW ds b e) (b + 1) ds ++ [backW e, backW e']))) (d := .int (R.length : Nat)) false rfl (by simp [depW])
  simp only [dL, uS, uD, Nat.reduceAdd, Nat.reduceSub, reduceIte, Nat.reduceEqDiff, List.replicate, zr7 h4, q]
 have c2 : sComp [some 2, some 6, none] (yg8 (sCons (sLen (sPure (dVar 6))) sNil)) (dgName 2) (sPure dYes) (sCallD zo6 (sCons (sPure (dOp gIx (dPk 0) (dVar 2))) (sCons (sIx (sPure (dVar 1)) (sPure (dVar 2))) sNil))) (dL scr pr (.list R) mn ot S1.length S2.length s7 s8 s9) (S3.set S2.length (.lst (allR (NN ds) (gW ds b e) (b + 1) ds ++ [backW e, backW e']))) = some (.ok (.list (((rngD ((0 : Nat) : Int) R.length).map fun _ => true).map .bool)), S3.set S2.length (.lst (allR (NN ds) (gW ds b e) (b + 1) ds ++ [backW e, backW e']))) := by
  refine sComp_of (S0 := S3.set S2.length (.lst (allR (NN ds) (gW ds b e) (b + 1) ds ++ [backW e, backW e']))) (ds := rngD ((0 : Nat) : Int) R.length) ?_ (sz _ (by simp [rngD]; omega)) (sc_loop hk h4 R.length 0 (by omega))
  have r1 := rng1_of (j := (R.length : Nat)) (by omega) (by omega)
  simp only [yg8, dL, uS, uD, Nat.reduceAdd, Nat.reduceSub, reduceIte, Nat.reduceEqDiff, List.replicate, zr7 h4, r1]
  rfl
 have ga := gAll_t (rngD ((0 : Nat) : Int) R.length)
 refine zr2 ?_
 simp only [sAndV, c1, sBind, asB_b, Option.bind_some, if_true, sC1, c2, sOk, ga, Option.map_some]
theorem ln1 {α : Type} {P : List α → Prop} (h : ∀ a0, P [a0]) : ∀ us : List α, us.length = 1 → P us := fun us hl => match us, hl with | [a0], _ => h a0
theorem ln2 {α : Type} {P : List α → Prop} (h : ∀ a0 a1, P [a0, a1]) : ∀ us : List α, us.length = 2 → P us := fun us hl => match us, hl with | [a0, a1], _ => h a0 a1
theorem ln3 {α : Type} {P : List α → Prop} (h : ∀ a0 a1 a2, P [a0, a1, a2]) : ∀ us : List α, us.length = 3 → P us := fun us hl => match us, hl with | [a0, a1, a2], _ => h a0 a1 a2
theorem ln4 {α : Type} {P : List α → Prop} (h : ∀ a0 a1 a2 a3, P [a0, a1, a2, a3]) : ∀ us : List α, us.length = 4 → P us := fun us hl => match us, hl with | [a0, a1, a2, a3], _ => h a0 a1 a2 a3
set_option maxHeartbeats 0 in
theorem all_mk {l : PySem.W.OpenLaw} {w : World} {K : PySem.W.Frag} {h : Heap} {mg : Str → Option Value} {fa : Addr} (X : K.In h) (G : h.Ns mainGlobals mg) (hfa : mg "law" = some (.ref fa)) {c_Sheet : Addr} {f0 : Addr} {od0 an0 : Option Addr} {sl0 : Array (Option Value)} {oc0 kV0 dc0 pm0 cd0 ct0 : Value} {f1 : Addr} {od1 an1 : Option Addr} {sl1 : Array (Option Value)} {oc1 kV1 dc1 pm1 cd1 ct1 : Value} {dT1 : Addr} {oT1 : Obj} {nT1 : Nat} {f2 : Addr} {od2 an2 : Option Addr} {sl2 : Array (Option Value)} {oc2 kV2 dc2 pm2 cd2 ct2 : Value} {f3 : Addr} {od3 an3 : Option Addr} {sl3 : Array (Option Value)} {oc3 kV3 dc3 pm3 cd3 ct3 : Value} {f4 : Addr} {od4 an4 : Option Addr} {sl4 : Array (Option Value)} {oc4 kV4 dc4 pm4 cd4 ct4 : Value} {f5 : Addr} {od5 an5 : Option Addr} {sl5 : Array (Option Value)} {oc5 kV5 dc5 pm5 cd5 ct5 : Value} {f6 : Addr} {od6 an6 : Option Addr} {sl6 : Array (Option Value)} {oc6 kV6 dc6 pm6 cd6 ct6 : Value} {f7 : Addr} {od7 an7 : Option Addr} {sl7 : Array (Option Value)} {oc7 kV7 dc7 pm7 cd7 ct7 : Value} {f8 : Addr} {od8 an8 : Option Addr} {sl8 : Array (Option Value)} {oc8 kV8 dc8 pm8 cd8 ct8 : Value} {f9 : Addr} {od9 an9 : Option Addr} {sl9 : Array (Option Value)} {oc9 kV9 dc9 pm9 cd9 ct9 : Value} {f10 : Addr} {od10 an10 : Option Addr} {sl10 : Array (Option Value)} {oc10 kV10 dc10 pm10 cd10 ct10 : Value} {f11 : Addr} {od11 an11 : Option Addr} {sl11 : Array (Option Value)} {oc11 kV11 dc11 pm11 cd11 ct11 : Value} {f12 : Addr} {od12 an12 : Option Addr} {sl12 : Array (Option Value)} {oc12 kV12 dc12 pm12 cd12 ct12 : Value} {f13 : Addr} {od13 an13 : Option Addr} {sl13 : Array (Option Value)} {oc13 kV13 dc13 pm13 cd13 ct13 : Value} {f14 : Addr} {od14 an14 : Option Addr} {sl14 : Array (Option Value)} {oc14 kV14 dc14 pm14 cd14 ct14 : Value} {f15 : Addr} {od15 an15 : Option Addr} {sl15 : Array (Option Value)} {oc15 kV15 dc15 pm15 cd15 ct15 : Value} {f16 : Addr} {od16 an16 : Option Addr} {sl16 : Array (Option Value)} {oc16 kV16 dc16 pm16 cd16 ct16 : Value} {f17 : Addr} {od17 an17 : Option Addr} {sl17 : Array (Option Value)} {oc17 kV17 dc17 pm17 cd17 ct17 : Value} {f18 : Addr} {od18 an18 : Option Addr} {sl18 : Array (Option Value)} {oc18 kV18 dc18 pm18 cd18 ct18 : Value} {f19 : Addr} {od19 an19 : Option Addr} {sl19 : Array (Option Value)} {oc19 kV19 dc19 pm19 cd19 ct19 : Value} {f20 : Addr} {od20 an20 : Option Addr} {sl20 : Array (Option Value)} {oc20 kV20 dc20 pm20 cd20 ct20 : Value} {f21 : Addr} {od21 an21 : Option Addr} {sl21 : Array (Option Value)} {oc21 kV21 dc21 pm21 cd21 ct21 : Value} {f22 : Addr} {od22 an22 : Option Addr} {sl22 : Array (Option Value)} {oc22 kV22 dc22 pm22 cd22 ct22 : Value} {f23 : Addr} {od23 an23 : Option Addr} {sl23 : Array (Option Value)} {oc23 kV23 dc23 pm23 cd23 ct23 : Value} {f24 : Addr} {od24 an24 : Option Addr} {sl24 : Array (Option Value)} {oc24 kV24 dc24 pm24 cd24 ct24 : Value} {f25 : Addr} {od25 an25 : Option Addr} {sl25 : Array (Option Value)} {oc25 kV25 dc25 pm25 cd25 ct25 : Value} {f26 : Addr} {od26 an26 : Option Addr} {sl26 : Array (Option Value)} {oc26 kV26 dc26 pm26 cd26 ct26 : Value} {f27 : Addr} {od27 an27 : Option Addr} {sl27 : Array (Option Value)} {oc27 kV27 dc27 pm27 cd27 ct27 : Value} {f28 : Addr} {od28 an28 : Option Addr} {sl28 : Array (Option Value)} {oc28 kV28 dc28 pm28 cd28 ct28 : Value} {f29 : Addr} {od29 an29 : Option Addr} {sl29 : Array (Option Value)} {oc29 kV29 dc29 pm29 cd29 ct29 : Value} {f30 : Addr} {od30 an30 : Option Addr} {sl30 : Array (Option Value)} {oc30 kV30 dc30 pm30 cd30 ct30 : Value} {f31 : Addr} {od31 an31 : Option Addr} {sl31 : Array (Option Value)} {oc31 kV31 dc31 pm31 cd31 ct31 : Value} {a_SIGNS : Addr} {o_SIGNS : Obj} {a_WORKINGS : Addr} {o_WORKINGS : Obj}
 (mm_Sheet : PySem.W.nsIn K mainGlobals "Sheet" = some (some (.ref c_Sheet)))
 (a0 : PySem.W.nsIn K mainGlobals "bodies_of" = some (some (.ref f0)))
 (l0 : K.lookup f0 = some ⟨oc0, od0, .func (PySem.W.fnOf "bodies_of" "bodies_of" (zd2 zk3) (zc6 zk3) (zb3 zk3) .none kV0 dc0 pm0 an0 cd0 ct0), sl0⟩)
 (c0 : PySem.W.codeIn K cd0 "bodies_of" = true)
 (k0 : PySem.W.keepIn K (.ref f0) = true)
 (a1 : PySem.W.nsIn K mainGlobals "placed" = some (some (.ref f1)))
 (l1 : K.lookup f1 = some ⟨oc1, od1, .func (PySem.W.fnOf "placed" "placed" (zd2 zp4) (zc6 zp4) (zb3 zp4) (.ref dT1) kV1 dc1 pm1 an1 cd1 ct1), sl1⟩)
 (lT1 : K.lookup dT1 = some oT1)
 (hT1 : oT1.data = .seq #[.none] nT1)
 (c1 : PySem.W.codeIn K cd1 "placed" = true)
 (k1 : PySem.W.keepIn K (.ref f1) = true)
 (a2 : PySem.W.nsIn K mainGlobals "expressions_of" = some (some (.ref f2)))
 (l2 : K.lookup f2 = some ⟨oc2, od2, .func (PySem.W.fnOf "expressions_of" "expressions_of" (zd2 zf1) (zc6 zf1) (zb3 zf1) .none kV2 dc2 pm2 an2 cd2 ct2), sl2⟩)
 (c2 : PySem.W.codeIn K cd2 "expressions_of" = true)
 (k2 : PySem.W.keepIn K (.ref f2) = true)
 (a3 : PySem.W.nsIn K mainGlobals "given_by" = some (some (.ref f3)))
 (l3 : K.lookup f3 = some ⟨oc3, od3, .func (PySem.W.fnOf "given_by" "given_by" (zd2 zn9) (zc6 zn9) (zb3 zn9) .none kV3 dc3 pm3 an3 cd3 ct3), sl3⟩)
 (c3 : PySem.W.codeIn K cd3 "given_by" = true)
 (k3 : PySem.W.keepIn K (.ref f3) = true)
 (a4 : PySem.W.nsIn K mainGlobals "leaves_of" = some (some (.ref f4)))
 (l4 : K.lookup f4 = some ⟨oc4, od4, .func (PySem.W.fnOf "leaves_of" "leaves_of" (zd2 zk5) (zc6 zk5) (zb3 zk5) .none kV4 dc4 pm4 an4 cd4 ct4), sl4⟩)
 (c4 : PySem.W.codeIn K cd4 "leaves_of" = true)
 (k4 : PySem.W.keepIn K (.ref f4) = true)
 (a5 : PySem.W.findIn K (.ref c_Sheet) "__init__" = some (some (.ref f5)))
 (ifn5 : PySem.W.isFn K (.ref f5) = true)
 (l5 : K.lookup f5 = some ⟨oc5, od5, .func (PySem.W.fnOf "__init__" "Sheet.__init__" (zd2 zi5) (zc6 zi5) (zb3 zi5) .none kV5 dc5 pm5 an5 cd5 ct5), sl5⟩)
 (c5 : PySem.W.codeIn K cd5 "Sheet.__init__" = true)
 (k5 : PySem.W.keepIn K (.ref f5) = true)
 (a6 : PySem.W.findIn K (.ref c_Sheet) "lay" = some (some (.ref f6)))
 (ifn6 : PySem.W.isFn K (.ref f6) = true)
 (l6 : K.lookup f6 = some ⟨oc6, od6, .func (PySem.W.fnOf "lay" "Sheet.lay" (zd2 zo5) (zc6 zo5) (zb3 zo5) .none kV6 dc6 pm6 an6 cd6 ct6), sl6⟩)
 (c6 : PySem.W.codeIn K cd6 "Sheet.lay" = true)
 (k6 : PySem.W.keepIn K (.ref f6) = true)
 (a7 : PySem.W.findIn K (.ref c_Sheet) "begin" = some (some (.ref f7)))
 (ifn7 : PySem.W.isFn K (.ref f7) = true)
 (l7 : K.lookup f7 = some ⟨oc7, od7, .func (PySem.W.fnOf "begin" "Sheet.begin" (zd2 zm0) (zc6 zm0) (zb3 zm0) .none kV7 dc7 pm7 an7 cd7 ct7), sl7⟩)
 (c7 : PySem.W.codeIn K cd7 "Sheet.begin" = true)
 (k7 : PySem.W.keepIn K (.ref f7) = true)
 (a8 : PySem.W.findIn K (.ref c_Sheet) "add" = some (some (.ref f8)))
 (ifn8 : PySem.W.isFn K (.ref f8) = true)
 (l8 : K.lookup f8 = some ⟨oc8, od8, .func (PySem.W.fnOf "add" "Sheet.add" (zd2 zo7) (zc6 zo7) (zb3 zo7) .none kV8 dc8 pm8 an8 cd8 ct8), sl8⟩)
 (c8 : PySem.W.codeIn K cd8 "Sheet.add" = true)
 (k8 : PySem.W.keepIn K (.ref f8) = true)
 (a9 : PySem.W.findIn K (.ref c_Sheet) "free" = some (some (.ref f9)))
 (ifn9 : PySem.W.isFn K (.ref f9) = true)
 (l9 : K.lookup f9 = some ⟨oc9, od9, .func (PySem.W.fnOf "free" "Sheet.free" (zd2 zn7) (zc6 zn7) (zb3 zn7) .none kV9 dc9 pm9 an9 cd9 ct9), sl9⟩)
 (c9 : PySem.W.codeIn K cd9 "Sheet.free" = true)
 (k9 : PySem.W.keepIn K (.ref f9) = true)
 (a10 : PySem.W.nsIn K mainGlobals "settled" = some (some (.ref f10)))
 (l10 : K.lookup f10 = some ⟨oc10, od10, .func (PySem.W.fnOf "settled" "settled" (zd2 zo9) (zc6 zo9) (zb3 zo9) .none kV10 dc10 pm10 an10 cd10 ct10), sl10⟩)
 (c10 : PySem.W.codeIn K cd10 "settled" = true)
 (k10 : PySem.W.keepIn K (.ref f10) = true)
 (a11 : PySem.W.nsIn K mainGlobals "names_within" = some (some (.ref f11)))
 (l11 : K.lookup f11 = some ⟨oc11, od11, .func (PySem.W.fnOf "names_within" "names_within" (zd2 zh3) (zc6 zh3) (zb3 zh3) .none kV11 dc11 pm11 an11 cd11 ct11), sl11⟩)
 (c11 : PySem.W.codeIn K cd11 "names_within" = true)
 (k11 : PySem.W.keepIn K (.ref f11) = true)
 (a12 : PySem.W.nsIn K mainGlobals "slots_of" = some (some (.ref f12)))
 (l12 : K.lookup f12 = some ⟨oc12, od12, .func (PySem.W.fnOf "slots_of" "slots_of" (zd2 zn6) (zc6 zn6) (zb3 zn6) .none kV12 dc12 pm12 an12 cd12 ct12), sl12⟩)
 (c12 : PySem.W.codeIn K cd12 "slots_of" = true)
 (k12 : PySem.W.keepIn K (.ref f12) = true)
 (a13 : PySem.W.nsIn K mainGlobals "make_expression" = some (some (.ref f13)))
 (l13 : K.lookup f13 = some ⟨oc13, od13, .func (PySem.W.fnOf "make_expression" "make_expression" (zd2 ze4) (zc6 ze4) (zb3 ze4) .none kV13 dc13 pm13 an13 cd13 ct13), sl13⟩)
 (c13 : PySem.W.codeIn K cd13 "make_expression" = true)
 (k13 : PySem.W.keepIn K (.ref f13) = true)
 (a14 : PySem.W.nsIn K mainGlobals "make_rest" = some (some (.ref f14)))
 (l14 : K.lookup f14 = some ⟨oc14, od14, .func (PySem.W.fnOf "make_rest" "make_rest" (zd2 zl2) (zc6 zl2) (zb3 zl2) .none kV14 dc14 pm14 an14 cd14 ct14), sl14⟩)
 (c14 : PySem.W.codeIn K cd14 "make_rest" = true)
 (k14 : PySem.W.keepIn K (.ref f14) = true)
 (a15 : PySem.W.nsIn K mainGlobals "make_statement" = some (some (.ref f15)))
 (l15 : K.lookup f15 = some ⟨oc15, od15, .func (PySem.W.fnOf "make_statement" "make_statement" (zd2 zf7) (zc6 zf7) (zb3 zf7) .none kV15 dc15 pm15 an15 cd15 ct15), sl15⟩)
 (c15 : PySem.W.codeIn K cd15 "make_statement" = true)
 (k15 : PySem.W.keepIn K (.ref f15) = true)
 (a16 : PySem.W.nsIn K mainGlobals "make_body" = some (some (.ref f16)))
 (l16 : K.lookup f16 = some ⟨oc16, od16, .func (PySem.W.fnOf "make_body" "make_body" (zd2 zl3) (zc6 zl3) (zb3 zl3) .none kV16 dc16 pm16 an16 cd16 ct16), sl16⟩)
 (c16 : PySem.W.codeIn K cd16 "make_body" = true)
 (k16 : PySem.W.keepIn K (.ref f16) = true)
 (a17 : PySem.W.nsIn K mainGlobals "made" = some (some (.ref f17)))
 (l17 : K.lookup f17 = some ⟨oc17, od17, .func (PySem.W.fnOf "made" "made" (zd2 zx4) (zc6 zx4) (zb3 zx4) .none kV17 dc17 pm17 an17 cd17 ct17), sl17⟩)
 (c17 : PySem.W.codeIn K cd17 "made" = true)
 (k17 : PySem.W.keepIn K (.ref f17) = true)
 (a18 : PySem.W.nsIn K mainGlobals "_law_whole" = some (some (.ref f18)))
 (l18 : K.lookup f18 = some ⟨oc18, od18, .func (PySem.W.fnOf "_law_whole" "_law_whole" (zd2 zj4) (zc6 zj4) (zb3 zj4) .none kV18 dc18 pm18 an18 cd18 ct18), sl18⟩)
 (c18 : PySem.W.codeIn K cd18 "_law_whole" = true)
 (k18 : PySem.W.keepIn K (.ref f18) = true)
 (a19 : PySem.W.nsIn K mainGlobals "_law_mixed" = some (some (.ref f19)))
 (l19 : K.lookup f19 = some ⟨oc19, od19, .func (PySem.W.fnOf "_law_mixed" "_law_mixed" (zd2 zj7) (zc6 zj7) (zb3 zj7) .none kV19 dc19 pm19 an19 cd19 ct19), sl19⟩)
 (c19 : PySem.W.codeIn K cd19 "_law_mixed" = true)
 (k19 : PySem.W.keepIn K (.ref f19) = true)
 (a20 : PySem.W.nsIn K mainGlobals "_law_name_by" = some (some (.ref f20)))
 (l20 : K.lookup f20 = some ⟨oc20, od20, .func (PySem.W.fnOf "_law_name_by" "_law_name_by" (zd2 zg2) (zc6 zg2) (zb3 zg2) .none kV20 dc20 pm20 an20 cd20 ct20), sl20⟩)
 (c20 : PySem.W.codeIn K cd20 "_law_name_by" = true)
 (k20 : PySem.W.keepIn K (.ref f20) = true)
 (a21 : PySem.W.nsIn K mainGlobals "_law_leaf_by" = some (some (.ref f21)))
 (l21 : K.lookup f21 = some ⟨oc21, od21, .func (PySem.W.fnOf "_law_leaf_by" "_law_leaf_by" (zd2 zg4) (zc6 zg4) (zb3 zg4) .none kV21 dc21 pm21 an21 cd21 ct21), sl21⟩)
 (c21 : PySem.W.codeIn K cd21 "_law_leaf_by" = true)
 (k21 : PySem.W.keepIn K (.ref f21) = true)
 (a22 : PySem.W.nsIn K mainGlobals "_law_told_by" = some (some (.ref f22)))
 (l22 : K.lookup f22 = some ⟨oc22, od22, .func (PySem.W.fnOf "_law_told_by" "_law_told_by" (zd2 zg1) (zc6 zg1) (zb3 zg1) .none kV22 dc22 pm22 an22 cd22 ct22), sl22⟩)
 (c22 : PySem.W.codeIn K cd22 "_law_told_by" = true)
 (k22 : PySem.W.keepIn K (.ref f22) = true)
 (a23 : PySem.W.nsIn K mainGlobals "_law_deed_by" = some (some (.ref f23)))
 (l23 : K.lookup f23 = some ⟨oc23, od23, .func (PySem.W.fnOf "_law_deed_by" "_law_deed_by" (zd2 zh2) (zc6 zh2) (zb3 zh2) .none kV23 dc23 pm23 an23 cd23 ct23), sl23⟩)
 (c23 : PySem.W.codeIn K cd23 "_law_deed_by" = true)
 (k23 : PySem.W.keepIn K (.ref f23) = true)
 (a24 : PySem.W.nsIn K mainGlobals "_law_program" = some (some (.ref f24)))
 (l24 : K.lookup f24 = some ⟨oc24, od24, .func (PySem.W.fnOf "_law_program" "_law_program" (zd2 zh4) (zc6 zh4) (zb3 zh4) .none kV24 dc24 pm24 an24 cd24 ct24), sl24⟩)
 (c24 : PySem.W.codeIn K cd24 "_law_program" = true)
 (k24 : PySem.W.keepIn K (.ref f24) = true)
 (a25 : PySem.W.nsIn K mainGlobals "_law_expressions" = some (some (.ref f25)))
 (l25 : K.lookup f25 = some ⟨oc25, od25, .func (PySem.W.fnOf "_law_expressions" "_law_expressions" (zd2 ze0) (zc6 ze0) (zb3 ze0) .none kV25 dc25 pm25 an25 cd25 ct25), sl25⟩)
 (c25 : PySem.W.codeIn K cd25 "_law_expressions" = true)
 (k25 : PySem.W.keepIn K (.ref f25) = true)
 (a26 : PySem.W.nsIn K mainGlobals "_law_names_in" = some (some (.ref f26)))
 (l26 : K.lookup f26 = some ⟨oc26, od26, .func (PySem.W.fnOf "_law_names_in" "_law_names_in" (zd2 zf6) (zc6 zf6) (zb3 zf6) .none kV26 dc26 pm26 an26 cd26 ct26), sl26⟩)
 (c26 : PySem.W.codeIn K cd26 "_law_names_in" = true)
 (k26 : PySem.W.keepIn K (.ref f26) = true)
 (a27 : PySem.W.nsIn K mainGlobals "_law_names" = some (some (.ref f27)))
 (l27 : K.lookup f27 = some ⟨oc27, od27, .func (PySem.W.fnOf "_law_names" "_law_names" (zd2 zj6) (zc6 zj6) (zb3 zj6) .none kV27 dc27 pm27 an27 cd27 ct27), sl27⟩)
 (c27 : PySem.W.codeIn K cd27 "_law_names" = true)
 (k27 : PySem.W.keepIn K (.ref f27) = true)
 (a28 : PySem.W.nsIn K mainGlobals "_law_rows_of" = some (some (.ref f28)))
 (l28 : K.lookup f28 = some ⟨oc28, od28, .func (PySem.W.fnOf "_law_rows_of" "_law_rows_of" (zd2 zg0) (zc6 zg0) (zb3 zg0) .none kV28 dc28 pm28 an28 cd28 ct28), sl28⟩)
 (c28 : PySem.W.codeIn K cd28 "_law_rows_of" = true)
 (k28 : PySem.W.keepIn K (.ref f28) = true)
 (a29 : PySem.W.nsIn K mainGlobals "_law_last_row" = some (some (.ref f29)))
 (l29 : K.lookup f29 = some ⟨oc29, od29, .func (PySem.W.fnOf "_law_last_row" "_law_last_row" (zd2 zg6) (zc6 zg6) (zb3 zg6) .none kV29 dc29 pm29 an29 cd29 ct29), sl29⟩)
 (c29 : PySem.W.codeIn K cd29 "_law_last_row" = true)
 (k29 : PySem.W.keepIn K (.ref f29) = true)
 (a30 : PySem.W.nsIn K mainGlobals "_law_same" = some (some (.ref f30)))
 (l30 : K.lookup f30 = some ⟨oc30, od30, .func (PySem.W.fnOf "_law_same" "_law_same" (zd2 zl1) (zc6 zl1) (zb3 zl1) .none kV30 dc30 pm30 an30 cd30 ct30), sl30⟩)
 (c30 : PySem.W.codeIn K cd30 "_law_same" = true)
 (k30 : PySem.W.keepIn K (.ref f30) = true)
 (a31 : PySem.W.nsIn K mainGlobals "law" = some (some (.ref f31)))
 (l31 : K.lookup f31 = some ⟨oc31, od31, .func (PySem.W.fnOf "law" "law" (zd2 s_law) (zc6 s_law) (zb3 s_law) .none kV31 dc31 pm31 an31 cd31 ct31), sl31⟩)
 (c31 : PySem.W.codeIn K cd31 "law" = true)
 (k31 : PySem.W.keepIn K (.ref f31) = true)
 (pg_Sheet : PySem.W.plainGet K c_Sheet Str.empty = true)
 (hd_Sheet : PySem.W.hasDictIn K c_Sheet = true)
 (po_Sheet : PySem.W.plainOver K c_Sheet = true)
 (sa_Sheet : PySem.W.findIn K (.ref c_Sheet) "__setattr__" = some (some (.builtin "object.__setattr__")))
 (mk_Sheet : PySem.W.makesIn K c_Sheet = true)
 (kc_Sheet : PySem.W.keepIn K (.ref c_Sheet) = true)
 (nn_Sheet_rows : PySem.W.findIn K (.ref c_Sheet) "rows" = some none)
 (nn_Sheet_spots : PySem.W.findIn K (.ref c_Sheet) "spots" = some none)
 (nn_Sheet_name : PySem.W.findIn K (.ref c_Sheet) "name" = some none)
 (nn_Sheet_slots : PySem.W.findIn K (.ref c_Sheet) "slots" = some none)
 (zz_all : PySem.W.nsIn K mainGlobals "all" = some none)
 (zz_bool : PySem.W.nsIn K mainGlobals "bool" = some none)
 (zz_enumerate : PySem.W.nsIn K mainGlobals "enumerate" = some none)
 (zz_int : PySem.W.nsIn K mainGlobals "int" = some none)
 (zz_isinstance : PySem.W.nsIn K mainGlobals "isinstance" = some none)
 (zz_len : PySem.W.nsIn K mainGlobals "len" = some none)
 (zz_list : PySem.W.nsIn K mainGlobals "list" = some none)
 (zz_range : PySem.W.nsIn K mainGlobals "range" = some none)
 (zz_str : PySem.W.nsIn K mainGlobals "str" = some none)
 (zz_tuple : PySem.W.nsIn K mainGlobals "tuple" = some none)
 (mm_SIGNS : PySem.W.nsIn K mainGlobals "SIGNS" = some (some (.ref a_SIGNS)))
 (lk_SIGNS : K.lookup a_SIGNS = some o_SIGNS)
 (lc_SIGNS : o_SIGNS.cls = .type "tuple")
 (lt_SIGNS : yi2 o_SIGNS [(Str.ofString "lane"), (Str.ofString "lanes"), (Str.ofString "mine")] = true)
 (mm_WORKINGS : PySem.W.nsIn K mainGlobals "WORKINGS" = some (some (.ref a_WORKINGS)))
 (lk_WORKINGS : K.lookup a_WORKINGS = some o_WORKINGS)
 (lc_WORKINGS : o_WORKINGS.cls = .type "tuple")
 (lt_WORKINGS : yi2 o_WORKINGS [(Str.ofString "+"), (Str.ofString "-"), (Str.ofString "*"), (Str.ofString "div"), (Str.ofString "rem"), (Str.ofString "<"), (Str.ofString "=")] = true) :
 ∃ fd : FuncData, (∀ (s : Shared) (v : Value), BindsTo s fd ⟨[v], []⟩ [("_law_script", v)]) ∧ ∀ base : Heap, K.In base → base.Ns mainGlobals mg → FnOk l.prog w K mg base CX0 14 fa fd ["_law_script"] (yh1 K) := by
 have e := hfa.symm.trans (PySem.W.mg_of X G a31)
 cases e
 have m_Sheet : mg "Sheet" = some (.ref ((clF c_Sheet) "Sheet")) := by rw [zl0]; exact PySem.W.mg_of X G mm_Sheet
 have F_bodies_of := zi2 (st := zk3) l0 c0 k0
 have d_bodies_of : Df K mg "bodies_of" zk3 ["statement"] f0 _ := ⟨F_bodies_of, F_bodies_of.binds (ps := ["statement"]) fun _ _ _ _ _ _ => ln1 fun _ => rfl, PySem.W.mg_of X G a0⟩
 have F_placed := funD_mk (st := zp4) l1 c1 k1
 have d_placed : DfD K mg "placed" zp4 ["body", "around"] f1 _ := ⟨F_placed, (fun s us Xs hl => match us, (show us.length = 2 by simpa using hl) with | [_, _], _ => PySem.W.binds_K Xs rfl lT1 hT1 rfl rfl), (fun s us Xs hl => match us, (show us.length = 1 by simpa using hl) with | [_], _ => PySem.W.binds_K Xs rfl lT1 hT1 rfl rfl), PySem.W.mg_of X G a1⟩
 have F_expressions_of := zi2 (st := zf1) l2 c2 k2
 have d_expressions_of : Df K mg "expressions_of" zf1 ["statement"] f2 _ := ⟨F_expressions_of, F_expressions_of.binds (ps := ["statement"]) fun _ _ _ _ _ _ => ln1 fun _ => rfl, PySem.W.mg_of X G a2⟩
 have F_given_by := zi2 (st := zn9) l3 c3 k3
 have d_given_by : Df K mg "given_by" zn9 ["statement"] f3 _ := ⟨F_given_by, F_given_by.binds (ps := ["statement"]) fun _ _ _ _ _ _ => ln1 fun _ => rfl, PySem.W.mg_of X G a3⟩
 have F_leaves_of := zi2 (st := zk5) l4 c4 k4
 have d_leaves_of : Df K mg "leaves_of" zk5 ["expression"] f4 _ := ⟨F_leaves_of, F_leaves_of.binds (ps := ["expression"]) fun _ _ _ _ _ _ => ln1 fun _ => rfl, PySem.W.mg_of X G a4⟩
 have F_Sheet___init__ := zi2 (st := zi5) l5 c5 k5
 have b_Sheet___init__ := F_Sheet___init__.binds (ps := ["self"]) fun _ _ _ _ _ _ => ln1 fun _ => rfl
 have F_Sheet_lay := zi2 (st := zo5) l6 c6 k6
 have b_Sheet_lay := F_Sheet_lay.binds (ps := ["self", "key"]) fun _ _ _ _ _ _ => ln2 fun _ _ => rfl
 have mt_Sheet_lay : Meth K ((clF c_Sheet) "Sheet") "lay" f6 := by rw [zl0]; exact ⟨a6, ifn6, k6⟩
 have F_Sheet_begin := zi2 (st := zm0) l7 c7 k7
 have b_Sheet_begin := F_Sheet_begin.binds (ps := ["self", "name", "slots"]) fun _ _ _ _ _ _ => ln3 fun _ _ _ => rfl
 have mt_Sheet_begin : Meth K ((clF c_Sheet) "Sheet") "begin" f7 := by rw [zl0]; exact ⟨a7, ifn7, k7⟩
 have F_Sheet_add := zi2 (st := zo7) l8 c8 k8
 have b_Sheet_add := F_Sheet_add.binds (ps := ["self", "row"]) fun _ _ _ _ _ _ => ln2 fun _ _ => rfl
 have mt_Sheet_add : Meth K ((clF c_Sheet) "Sheet") "add" f8 := by rw [zl0]; exact ⟨a8, ifn8, k8⟩
 have F_Sheet_free := zi2 (st := zn7) l9 c9 k9
 have b_Sheet_free := F_Sheet_free.binds (ps := ["self"]) fun _ _ _ _ _ _ => ln1 fun _ => rfl
 have mt_Sheet_free : Meth K ((clF c_Sheet) "Sheet") "free" f9 := by rw [zl0]; exact ⟨a9, ifn9, k9⟩
 have F_settled := zi2 (st := zo9) l10 c10 k10
 have d_settled : Df K mg "settled" zo9 ["row", "spots"] f10 _ := ⟨F_settled, F_settled.binds (ps := ["row", "spots"]) fun _ _ _ _ _ _ => ln2 fun _ _ => rfl, PySem.W.mg_of X G a10⟩
 have F_names_within := zi2 (st := zh3) l11 c11 k11
 have d_names_within : Df K mg "names_within" zh3 ["body"] f11 _ := ⟨F_names_within, F_names_within.binds (ps := ["body"]) fun _ _ _ _ _ _ => ln1 fun _ => rfl, PySem.W.mg_of X G a11⟩
 have F_slots_of := zi2 (st := zn6) l12 c12 k12
 have d_slots_of : Df K mg "slots_of" zn6 ["params", "body"] f12 _ := ⟨F_slots_of, F_slots_of.binds (ps := ["params", "body"]) fun _ _ _ _ _ _ => ln2 fun _ _ => rfl, PySem.W.mg_of X G a12⟩
 have F_make_expression := zi2 (st := ze4) l13 c13 k13
 have d_make_expression : Df K mg "make_expression" ze4 ["sheet", "line", "expression", "at"] f13 _ := ⟨F_make_expression, F_make_expression.binds (ps := ["sheet", "line", "expression", "at"]) fun _ _ _ _ _ _ => ln4 fun _ _ _ _ => rfl, PySem.W.mg_of X G a13⟩
 have F_make_rest := zi2 (st := zl2) l14 c14 k14
 have d_make_rest : Df K mg "make_rest" zl2 ["sheet", "statement"] f14 _ := ⟨F_make_rest, F_make_rest.binds (ps := ["sheet", "statement"]) fun _ _ _ _ _ _ => ln2 fun _ _ => rfl, PySem.W.mg_of X G a14⟩
 have F_make_statement := zi2 (st := zf7) l15 c15 k15
 have d_make_statement : Df K mg "make_statement" zf7 ["sheet", "statement", "loop"] f15 _ := ⟨F_make_statement, F_make_statement.binds (ps := ["sheet", "statement", "loop"]) fun _ _ _ _ _ _ => ln3 fun _ _ _ => rfl, PySem.W.mg_of X G a15⟩
 have F_make_body := zi2 (st := zl3) l16 c16 k16
 have d_make_body : Df K mg "make_body" zl3 ["sheet", "body", "loop"] f16 _ := ⟨F_make_body, F_make_body.binds (ps := ["sheet", "body", "loop"]) fun _ _ _ _ _ _ => ln3 fun _ _ _ => rfl, PySem.W.mg_of X G a16⟩
 have F_made := zi2 (st := zx4) l17 c17 k17
 have d_made : Df K mg "made" zx4 ["program"] f17 _ := ⟨F_made, F_made.binds (ps := ["program"]) fun _ _ _ _ _ _ => ln1 fun _ => rfl, PySem.W.mg_of X G a17⟩
 have F__law_whole := zi2 (st := zj4) l18 c18 k18
 have d__law_whole : Df K mg "_law_whole" zj4 ["_law_found"] f18 _ := ⟨F__law_whole, F__law_whole.binds (ps := ["_law_found"]) fun _ _ _ _ _ _ => ln1 fun _ => rfl, PySem.W.mg_of X G a18⟩
 have F__law_mixed := zi2 (st := zj7) l19 c19 k19
 have d__law_mixed : Df K mg "_law_mixed" zj7 ["_law_cell", "_law_k"] f19 _ := ⟨F__law_mixed, F__law_mixed.binds (ps := ["_law_cell", "_law_k"]) fun _ _ _ _ _ _ => ln2 fun _ _ => rfl, PySem.W.mg_of X G a19⟩
 have F__law_name_by := zi2 (st := zg2) l20 c20 k20
 have d__law_name_by : Df K mg "_law_name_by" zg2 ["_law_cell"] f20 _ := ⟨F__law_name_by, F__law_name_by.binds (ps := ["_law_cell"]) fun _ _ _ _ _ _ => ln1 fun _ => rfl, PySem.W.mg_of X G a20⟩
 have F__law_leaf_by := zi2 (st := zg4) l21 c21 k21
 have d__law_leaf_by : Df K mg "_law_leaf_by" zg4 ["_law_cell"] f21 _ := ⟨F__law_leaf_by, F__law_leaf_by.binds (ps := ["_law_cell"]) fun _ _ _ _ _ _ => ln1 fun _ => rfl, PySem.W.mg_of X G a21⟩
 have F__law_told_by := zi2 (st := zg1) l22 c22 k22
 have d__law_told_by : Df K mg "_law_told_by" zg1 ["_law_cell", "_law_room"] f22 _ := ⟨F__law_told_by, F__law_told_by.binds (ps := ["_law_cell", "_law_room"]) fun _ _ _ _ _ _ => ln2 fun _ _ => rfl, PySem.W.mg_of X G a22⟩
 have F__law_deed_by := zi2 (st := zh2) l23 c23 k23
 have d__law_deed_by : Df K mg "_law_deed_by" zh2 ["_law_cell", "_law_line", "_law_many"] f23 _ := ⟨F__law_deed_by, F__law_deed_by.binds (ps := ["_law_cell", "_law_line", "_law_many"]) fun _ _ _ _ _ _ => ln3 fun _ _ _ => rfl, PySem.W.mg_of X G a23⟩
 have F__law_program := zi2 (st := zh4) l24 c24 k24
 have d__law_program : Df K mg "_law_program" zh4 ["_law_script"] f24 _ := ⟨F__law_program, F__law_program.binds (ps := ["_law_script"]) fun _ _ _ _ _ _ => ln1 fun _ => rfl, PySem.W.mg_of X G a24⟩
 have F__law_expressions := zi2 (st := ze0) l25 c25 k25
 have d__law_expressions : Df K mg "_law_expressions" ze0 ["_law_deed"] f25 _ := ⟨F__law_expressions, F__law_expressions.binds (ps := ["_law_deed"]) fun _ _ _ _ _ _ => ln1 fun _ => rfl, PySem.W.mg_of X G a25⟩
 have F__law_names_in := zi2 (st := zf6) l26 c26 k26
 have d__law_names_in : Df K mg "_law_names_in" zf6 ["_law_told", "_law_names_here"] f26 _ := ⟨F__law_names_in, F__law_names_in.binds (ps := ["_law_told", "_law_names_here"]) fun _ _ _ _ _ _ => ln2 fun _ _ => rfl, PySem.W.mg_of X G a26⟩
 have F__law_names := zi2 (st := zj6) l27 c27 k27
 have d__law_names : Df K mg "_law_names" zj6 ["_law_body"] f27 _ := ⟨F__law_names, F__law_names.binds (ps := ["_law_body"]) fun _ _ _ _ _ _ => ln1 fun _ => rfl, PySem.W.mg_of X G a27⟩
 have F__law_rows_of := zi2 (st := zg0) l28 c28 k28
 have d__law_rows_of : Df K mg "_law_rows_of" zg0 ["_law_told", "_law_line", "_law_at", "_law_names_here"] f28 _ := ⟨F__law_rows_of, F__law_rows_of.binds (ps := ["_law_told", "_law_line", "_law_at", "_law_names_here"]) fun _ _ _ _ _ _ => ln4 fun _ _ _ _ => rfl, PySem.W.mg_of X G a28⟩
 have F__law_last_row := zi2 (st := zg6) l29 c29 k29
 have d__law_last_row : Df K mg "_law_last_row" zg6 ["_law_deed", "_law_names_here", "_law_goal"] f29 _ := ⟨F__law_last_row, F__law_last_row.binds (ps := ["_law_deed", "_law_names_here", "_law_goal"]) fun _ _ _ _ _ _ => ln3 fun _ _ _ => rfl, PySem.W.mg_of X G a29⟩
 have F__law_same := zi2 (st := zl1) l30 c30 k30
 have d__law_same : Df K mg "_law_same" zl1 ["_law_found", "_law_due"] f30 _ := ⟨F__law_same, F__law_same.binds (ps := ["_law_found", "_law_due"]) fun _ _ _ _ _ _ => ln2 fun _ _ => rfl, PySem.W.mg_of X G a30⟩
 have F_law := zi2 (st := s_law) l31 c31 k31
 have cl_Sheet : Cls K ((clF c_Sheet) "Sheet") := by rw [zl0]; exact ⟨pg_Sheet, hd_Sheet, po_Sheet, sa_Sheet⟩
 have n_Sheet_rows : NoAttr K ((clF c_Sheet) "Sheet") "rows" := by rw [zl0]; exact nn_Sheet_rows
 have n_Sheet_spots : NoAttr K ((clF c_Sheet) "Sheet") "spots" := by rw [zl0]; exact nn_Sheet_spots
 have n_Sheet_name : NoAttr K ((clF c_Sheet) "Sheet") "name" := by rw [zl0]; exact nn_Sheet_name
 have n_Sheet_slots : NoAttr K ((clF c_Sheet) "Sheet") "slots" := by rw [zl0]; exact nn_Sheet_slots
 have M_Sheet : Mk K ((clF c_Sheet) "Sheet") f5 := by rw [zl0]; exact ⟨mk_Sheet, a5, ifn5, kc_Sheet⟩
 have z_all := PySem.W.mg_none_of X G zz_all
 have z_bool := PySem.W.mg_none_of X G zz_bool
 have z_enumerate := PySem.W.mg_none_of X G zz_enumerate
 have z_int := PySem.W.mg_none_of X G zz_int
 have z_isinstance := PySem.W.mg_none_of X G zz_isinstance
 have z_len := PySem.W.mg_none_of X G zz_len
 have z_list := PySem.W.mg_none_of X G zz_list
 have z_range := PySem.W.mg_none_of X G zz_range
 have z_str := PySem.W.mg_none_of X G zz_str
 have z_tuple := PySem.W.mg_none_of X G zz_tuple
 have m_SIGNS := PySem.W.mg_of X G mm_SIGNS
 have g_SIGNS : ∀ G, SqT K G a_SIGNS (([(Str.ofString "lane"), (Str.ofString "lanes"), (Str.ofString "mine")]).map V.str) := fun _ => sq_strTup lk_SIGNS lc_SIGNS lt_SIGNS
 have m_WORKINGS := PySem.W.mg_of X G mm_WORKINGS
 have g_WORKINGS : ∀ G, SqT K G a_WORKINGS (([(Str.ofString "+"), (Str.ofString "-"), (Str.ofString "*"), (Str.ofString "div"), (Str.ofString "rem"), (Str.ofString "<"), (Str.ofString "=")]).map V.str) := fun _ => sq_strTup lk_WORKINGS lc_WORKINGS lt_WORKINGS
 refine ⟨PySem.W.fnOf "law" "law" (zd2 s_law) (zc6 s_law) (zb3 s_law) .none kV31 dc31 pm31 an31 cd31 ct31, fun s v => .of_eq rfl, fun base _ _ => ?_⟩
 have G_bodies_of := ok_bodies_of (P := l.prog) (w := w) (mg := mg) (base := base) F_bodies_of
 have G_placed := ok_placed (P := l.prog) (w := w) (mg := mg) (base := base) d_placed d_bodies_of G_bodies_of 8
 have G_expressions_of := ok_expressions_of (P := l.prog) (w := w) (mg := mg) (base := base) F_expressions_of z_list
 have G_given_by := ok_given_by (P := l.prog) (w := w) (mg := mg) (base := base) F_given_by
 have G_leaves_of := ok_leaves_of (P := l.prog) (w := w) (mg := mg) (base := base) d_leaves_of m_WORKINGS g_WORKINGS 9
 have G_Sheet___init__ := ok_Sheet___init__ (P := l.prog) (w := w) (mg := mg) (base := base) (cl := (clF c_Sheet)) F_Sheet___init__ m_Sheet cl_Sheet n_Sheet_rows n_Sheet_spots n_Sheet_name n_Sheet_slots
 have G_Sheet_lay := ok_Sheet_lay (P := l.prog) (w := w) (mg := mg) (base := base) (cl := (clF c_Sheet)) F_Sheet_lay m_Sheet cl_Sheet n_Sheet_rows n_Sheet_spots n_Sheet_name n_Sheet_slots z_len
 have G_Sheet_begin := ok_Sheet_begin (P := l.prog) (w := w) (mg := mg) (base := base) (cl := (clF c_Sheet)) F_Sheet_begin b_Sheet_lay mt_Sheet_lay G_Sheet_lay m_Sheet cl_Sheet n_Sheet_rows n_Sheet_spots n_Sheet_name n_Sheet_slots
 have G_Sheet_add := ok_Sheet_add (P := l.prog) (w := w) (mg := mg) (base := base) (cl := (clF c_Sheet)) F_Sheet_add m_Sheet cl_Sheet n_Sheet_rows n_Sheet_spots n_Sheet_name n_Sheet_slots
 have G_Sheet_free := ok_Sheet_free (P := l.prog) (w := w) (mg := mg) (base := base) (cl := (clF c_Sheet)) F_Sheet_free m_Sheet cl_Sheet n_Sheet_rows n_Sheet_spots n_Sheet_name n_Sheet_slots z_len
 have G_settled := ok_settled (P := l.prog) (w := w) (mg := mg) (base := base) (cl := (clF c_Sheet)) F_settled
 have G_names_within := ok_names_within (P := l.prog) (w := w) (mg := mg) (base := base) F_names_within d_placed G_placed d_given_by G_given_by d_expressions_of G_expressions_of d_leaves_of G_leaves_of
 have G_slots_of := ok_slots_of (P := l.prog) (w := w) (mg := mg) (base := base) (cl := (clF c_Sheet)) F_slots_of d_names_within G_names_within z_len
 have G_make_expression := ok_make_expression (P := l.prog) (w := w) (mg := mg) (base := base) (cl := (clF c_Sheet)) d_make_expression b_Sheet_add mt_Sheet_add G_Sheet_add m_Sheet cl_Sheet n_Sheet_rows n_Sheet_spots n_Sheet_name n_Sheet_slots m_SIGNS g_SIGNS 9
 have G_make_rest := ok_make_rest (P := l.prog) (w := w) (mg := mg) (base := base) (cl := (clF c_Sheet)) F_make_rest b_Sheet_free mt_Sheet_free G_Sheet_free b_Sheet_add mt_Sheet_add G_Sheet_add m_Sheet cl_Sheet n_Sheet_rows n_Sheet_spots n_Sheet_name n_Sheet_slots z_len
 have G_make_statement := ok_make_statement (P := l.prog) (w := w) (mg := mg) (base := base) (cl := (clF c_Sheet)) F_make_statement b_Sheet_lay mt_Sheet_lay G_Sheet_lay b_Sheet_add mt_Sheet_add G_Sheet_add d_make_expression G_make_expression d_expressions_of G_expressions_of b_Sheet_free mt_Sheet_free G_Sheet_free d_make_rest G_make_rest m_Sheet cl_Sheet n_Sheet_rows n_Sheet_spots n_Sheet_name n_Sheet_slots z_enumerate
 have G_make_body := ok_make_body (P := l.prog) (w := w) (mg := mg) (base := base) (cl := (clF c_Sheet)) F_make_body d_make_statement G_make_statement
 have G_made := ok_made (P := l.prog) (w := w) (mg := mg) (base := base) (cl := (clF c_Sheet)) F_made b_Sheet___init__ M_Sheet G_Sheet___init__ b_Sheet_begin mt_Sheet_begin G_Sheet_begin d_slots_of G_slots_of d_make_body G_make_body b_Sheet_lay mt_Sheet_lay G_Sheet_lay b_Sheet_add mt_Sheet_add G_Sheet_add d_settled G_settled m_Sheet cl_Sheet n_Sheet_rows n_Sheet_spots n_Sheet_name n_Sheet_slots
 have G__law_whole := ok__law_whole (P := l.prog) (w := w) (mg := mg) (base := base) F__law_whole z_isinstance z_bool z_int
 have G__law_mixed := ok__law_mixed (P := l.prog) (w := w) (mg := mg) (base := base) F__law_mixed
 have G__law_name_by := ok__law_name_by (P := l.prog) (w := w) (mg := mg) (base := base) F__law_name_by
 have G__law_leaf_by := ok__law_leaf_by (P := l.prog) (w := w) (mg := mg) (base := base) F__law_leaf_by d__law_name_by G__law_name_by
 have G__law_told_by := ok__law_told_by (P := l.prog) (w := w) (mg := mg) (base := base) d__law_told_by d__law_leaf_by G__law_leaf_by 5
 have G__law_deed_by := ok__law_deed_by (P := l.prog) (w := w) (mg := mg) (base := base) F__law_deed_by d__law_told_by G__law_told_by d__law_name_by G__law_name_by z_range
 have G__law_program := ok__law_program (P := l.prog) (w := w) (mg := mg) (base := base) F__law_program d__law_deed_by G__law_deed_by d__law_mixed G__law_mixed z_len z_enumerate
 have G__law_expressions := ok__law_expressions (P := l.prog) (w := w) (mg := mg) (base := base) F__law_expressions
 have G__law_names_in := ok__law_names_in (P := l.prog) (w := w) (mg := mg) (base := base) (cl := (clF c_Sheet)) d__law_names_in 9
 have G__law_names := ok__law_names (P := l.prog) (w := w) (mg := mg) (base := base) (cl := (clF c_Sheet)) F__law_names d__law_names_in G__law_names_in d__law_expressions G__law_expressions
 have G__law_rows_of := ok__law_rows_of (P := l.prog) (w := w) (mg := mg) (base := base) (cl := (clF c_Sheet)) d__law_rows_of z_len 9
 have G__law_last_row := ok__law_last_row (P := l.prog) (w := w) (mg := mg) (base := base) (cl := (clF c_Sheet)) F__law_last_row z_len
 have G__law_same := ok__law_same (P := l.prog) (w := w) (mg := mg) (base := base) F__law_same d__law_whole G__law_whole z_isinstance z_tuple z_all z_str
 exact ok_law (P := l.prog) (w := w) (mg := mg) (base := base) (cl := (clF c_Sheet)) law_true F_law d__law_program G__law_program d_made G_made d__law_names G__law_names d__law_rows_of G__law_rows_of d__law_expressions G__law_expressions d__law_last_row G__law_last_row d__law_same G__law_same z_isinstance z_list z_len z_enumerate z_all z_range
theorem walk {l : PySem.W.OpenLaw} {q : Program} {loose : List Str} {XP : (Str → Option Value) → Heap → Prop} {YP : World → Heap → Prop} {d : DefRec} {K : Params → PySem.W.Frag} (hn : l.most = some 63) (hdf : d.params.defaults = [])
 (hY : ∀ (w : World) (h : Heap), YP w h → (K w.params).In h)
 (F : ∀ (w : World) (mg : Str → Option Value) (fa : Addr) (h : Heap), (K w.params).In h → h.Ns mainGlobals mg → mg d.name = some (.ref fa) →
  ∃ fd : FuncData, (∀ (s : Shared) (u : Value), BindsTo s fd ⟨[u], []⟩ [("_law_script", u)]) ∧ ∀ base : Heap, (K w.params).In base → base.Ns mainGlobals mg → FnOk l.prog w (K w.params) mg base CX0 14 fa fd ["_law_script"] (yh1 (K w.params))) :
 PySem.W.WalkO q loose XP YP l.row.toRowW d [] (fun f vs => PySem.call f vs) :=
 L2.walk_of (n := 63) (k := 14) (x := "_law_script") (CX := fun _ => CX0) (sp := fun w => (yh1 (K w.params))) hn (by decide) hdf ⟨rfl, by decide, by decide⟩ hY F (fun _ _ a ns hl _ hS => ⟨a, ns, rfl, hS, hl, fun _ => rfl⟩) fun _ _ _ _ _ z => z
end My
open PySem PySem.W PyProof.Rows
set_option maxRecDepth 100000 in
set_option maxHeartbeats 0 in
theorem PySem.Challenge.cw_widelanes_k22_rows_of_straight_lines_holds : PySem.Challenge.rw_widelanes_k22_rows_of_straight_lines.Holds := by
 w_on; o_law; k_head; (case hw => w_witness2)
 k_fill
 refine My.walk (l := PySem.Challenge.rw_widelanes_k22_rows_of_straight_lines) rfl rfl (fun w h Y => PySem.W.kIn_of Y) ?F
 case F =>
  intro w mg fa h KX G hmg
  refine' My.all_mk KX G hmg ?mm_Sheet ?a0 ?l0 ?c0 ?k0 ?a1 ?l1 ?lT1 ?hT1 ?c1 ?k1 ?a2 ?l2 ?c2 ?k2 ?a3 ?l3 ?c3 ?k3 ?a4 ?l4 ?c4 ?k4 ?a5 ?ifn5 ?l5 ?c5 ?k5 ?a6 ?ifn6 ?l6 ?c6 ?k6 ?a7 ?ifn7 ?l7 ?c7 ?k7 ?a8 ?ifn8 ?l8 ?c8 ?k8 ?a9 ?ifn9 ?l9 ?c9 ?k9 ?a10 ?l10 ?c10 ?k10 ?a11 ?l11 ?c11 ?k11 ?a12 ?l12 ?c12 ?k12 ?a13 ?l13 ?c13 ?k13 ?a14 ?l14 ?c14 ?k14 ?a15 ?l15 ?c15 ?k15 ?a16 ?l16 ?c16 ?k16 ?a17 ?l17 ?c17 ?k17 ?a18 ?l18 ?c18 ?k18 ?a19 ?l19 ?c19 ?k19 ?a20 ?l20 ?c20 ?k20 ?a21 ?l21 ?c21 ?k21 ?a22 ?l22 ?c22 ?k22 ?a23 ?l23 ?c23 ?k23 ?a24 ?l24 ?c24 ?k24 ?a25 ?l25 ?c25 ?k25 ?a26 ?l26 ?c26 ?k26 ?a27 ?l27 ?c27 ?k27 ?a28 ?l28 ?c28 ?k28 ?a29 ?l29 ?c29 ?k29 ?a30 ?l30 ?c30 ?k30 ?a31 ?l31 ?c31 ?k31 ?pg_Sheet ?hd_Sheet ?po_Sheet ?sa_Sheet ?mk_Sheet ?kc_Sheet ?nn_Sheet_rows ?nn_Sheet_spots ?nn_Sheet_name ?nn_Sheet_slots ?zz_all ?zz_bool ?zz_enumerate ?zz_int ?zz_isinstance ?zz_len ?zz_list ?zz_range ?zz_str ?zz_tuple ?mm_SIGNS ?lk_SIGNS ?lc_SIGNS ?lt_SIGNS ?mm_WORKINGS ?lk_WORKINGS ?lc_WORKINGS ?lt_WORKINGS
  (case mm_Sheet => k_is)
  (case a0 => k_is)
  (case l0 => k_is)
  (case c0 => k_is)
  (case k0 => k_is)
  (case a1 => k_is)
  (case l1 => k_is)
  (case lT1 => k_is)
  (case hT1 => rfl)
  (case c1 => k_is)
  (case k1 => k_is)
  (case a2 => k_is)
  (case l2 => k_is)
  (case c2 => k_is)
  (case k2 => k_is)
  (case a3 => k_is)
  (case l3 => k_is)
  (case c3 => k_is)
  (case k3 => k_is)
  (case a4 => k_is)
  (case l4 => k_is)
  (case c4 => k_is)
  (case k4 => k_is)
  (case a5 => k_is)
  (case ifn5 => k_is)
  (case l5 => k_is)
  (case c5 => k_is)
  (case k5 => k_is)
  (case a6 => k_is)
  (case ifn6 => k_is)
  (case l6 => k_is)
  (case c6 => k_is)
  (case k6 => k_is)
  (case a7 => k_is)
  (case ifn7 => k_is)
  (case l7 => k_is)
  (case c7 => k_is)
  (case k7 => k_is)
  (case a8 => k_is)
  (case ifn8 => k_is)
  (case l8 => k_is)
  (case c8 => k_is)
  (case k8 => k_is)
  (case a9 => k_is)
  (case ifn9 => k_is)
  (case l9 => k_is)
  (case c9 => k_is)
  (case k9 => k_is)
  (case a10 => k_is)
  (case l10 => k_is)
  (case c10 => k_is)
  (case k10 => k_is)
  (case a11 => k_is)
  (case l11 => k_is)
  (case c11 => k_is)
  (case k11 => k_is)
  (case a12 => k_is)
  (case l12 => k_is)
  (case c12 => k_is)
  (case k12 => k_is)
  (case a13 => k_is)
  (case l13 => k_is)
  (case c13 => k_is)
  (case k13 => k_is)
  (case a14 => k_is)
  (case l14 => k_is)
  (case c14 => k_is)
  (case k14 => k_is)
  (case a15 => k_is)
  (case l15 => k_is)
  (case c15 => k_is)
  (case k15 => k_is)
  (case a16 => k_is)
  (case l16 => k_is)
  (case c16 => k_is)
  (case k16 => k_is)
  (case a17 => k_is)
  (case l17 => k_is)
  (case c17 => k_is)
  (case k17 => k_is)
  (case a18 => k_is)
  (case l18 => k_is)
  (case c18 => k_is)
  (case k18 => k_is)
  (case a19 => k_is)
  (case l19 => k_is)
  (case c19 => k_is)
  (case k19 => k_is)
  (case a20 => k_is)
  (case l20 => k_is)
  (case c20 => k_is)
  (case k20 => k_is)
  (case a21 => k_is)
  (case l21 => k_is)
  (case c21 => k_is)
  (case k21 => k_is)
  (case a22 => k_is)
  (case l22 => k_is)
  (case c22 => k_is)
  (case k22 => k_is)
  (case a23 => k_is)
  (case l23 => k_is)
  (case c23 => k_is)
  (case k23 => k_is)
  (case a24 => k_is)
  (case l24 => k_is)
  (case c24 => k_is)
  (case k24 => k_is)
  (case a25 => k_is)
  (case l25 => k_is)
  (case c25 => k_is)
  (case k25 => k_is)
  (case a26 => k_is)
  (case l26 => k_is)
  (case c26 => k_is)
  (case k26 => k_is)
  (case a27 => k_is)
  (case l27 => k_is)
  (case c27 => k_is)
  (case k27 => k_is)
  (case a28 => k_is)
  (case l28 => k_is)
  (case c28 => k_is)
  (case k28 => k_is)
  (case a29 => k_is)
  (case l29 => k_is)
  (case c29 => k_is)
  (case k29 => k_is)
  (case a30 => k_is)
  (case l30 => k_is)
  (case c30 => k_is)
  (case k30 => k_is)
  (case a31 => k_is)
  (case l31 => k_is)
  (case c31 => k_is)
  (case k31 => k_is)
  (case pg_Sheet => k_is)
  (case hd_Sheet => k_is)
  (case po_Sheet => k_is)
  (case sa_Sheet => k_is)
  (case mk_Sheet => k_is)
  (case kc_Sheet => k_is)
  (case nn_Sheet_rows => k_is)
  (case nn_Sheet_spots => k_is)
  (case nn_Sheet_name => k_is)
  (case nn_Sheet_slots => k_is)
  (case zz_all => k_is)
  (case zz_bool => k_is)
  (case zz_enumerate => k_is)
  (case zz_int => k_is)
  (case zz_isinstance => k_is)
  (case zz_len => k_is)
  (case zz_list => k_is)
  (case zz_range => k_is)
  (case zz_str => k_is)
  (case zz_tuple => k_is)
  (case mm_SIGNS => k_is)
  (case lk_SIGNS => k_is)
  (case lc_SIGNS => rfl)
  (case lt_SIGNS => decide +kernel)
  (case mm_WORKINGS => k_is)
  (case lk_WORKINGS => k_is)
  (case lc_WORKINGS => rfl)
  (case lt_WORKINGS => decide +kernel)
