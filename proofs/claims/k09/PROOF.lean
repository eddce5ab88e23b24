import PyProof.Rows.All
import Wide.All
import OpenK.AllK
import Wide.FinOn
import Lean
import PyProof.EqAt
import PyProof.EqKinds
import PyProof.TupleCall
import PySem.Challenge.RW_redo_k09_recipes_written
set_option Elab.async false
set_option linter.all false
set_option maxRecDepth 100000
namespace L2
open PySem PySem.Spec PyProof.Rows
noncomputable abbrev Key := Sum Int Str
noncomputable def keyIs : Key → Value → Bool
  | .inl k, v => Value.isInt k v
  | .inr x, v => Value.isStrOf x v
noncomputable def keyH (w : World) : Key → Int
  | .inl k => hashInt k
  | .inr x => hashStr w x
theorem keyIs_shape : ∀ {k : Key} {v : Value}, keyIs k v = true → (∃ i t, k = Sum.inl i ∧ v = Value.int i t) ∨ (∃ x t, k = Sum.inr x ∧ v = Value.str x t)
  | .inl i, v, h => by
    obtain ⟨t, e⟩ := Value.isInt_shape (k := i) (v := v) h
    exact .inl ⟨i, t, rfl, e⟩
  | .inr x, v, h => by
    obtain ⟨t, e⟩ := Value.isStrOf_shape (x := x) (v := v) h
    exact .inr ⟨x, t, rfl, e⟩
theorem key_ll (a b : Int) : decide ((Sum.inl a : Key) = Sum.inl b) = (a == b) := by
  by_cases e : a = b
  · subst e; simp
  · have h : ¬ (Sum.inl a : Key) = Sum.inl b := fun q => e (Sum.inl.inj q)
    rw [decide_eq_false h]
    exact (beq_eq_false_iff_ne.mpr e).symm
theorem key_rr (a b : Str) : decide ((Sum.inr a : Key) = Sum.inr b) = decide (a = b) := by
  by_cases e : a = b
  · subst e; simp
  · have h : ¬ (Sum.inr a : Key) = Sum.inr b := fun q => e (Sum.inr.inj q)
    rw [decide_eq_false h, decide_eq_false e]
theorem key_lr (a : Int) (b : Str) : decide ((Sum.inl a : Key) = Sum.inr b) = false := decide_eq_false (fun q => nomatch q)
theorem key_rl (a : Str) (b : Int) : decide ((Sum.inr a : Key) = Sum.inl b) = false := decide_eq_false (fun q => nomatch q)
noncomputable def mixKind (prog : Program) (w : World) : PySem.KeyKind prog w Key where
  is := keyIs
  hash := keyH w
  inj := fun v a b ha hb => by
    rcases keyIs_shape ha with ⟨i, t, rfl, rfl⟩ | ⟨x, t, rfl, rfl⟩
    · rcases keyIs_shape hb with ⟨j, u, rfl, e⟩ | ⟨y, u, rfl, e⟩
      · injection e with e1 _; rw [e1]
      · exact nomatch e
    · rcases keyIs_shape hb with ⟨j, u, rfl, e⟩ | ⟨y, u, rfl, e⟩
      · exact nomatch e
      · injection e with e1 _; rw [e1]
  byValue := fun k v h => by
    rcases keyIs_shape h with ⟨i, t, rfl, rfl⟩ | ⟨x, t, rfl, rfl⟩ <;> rfl
  pyHash := fun hv h => by
    rcases keyIs_shape hv with ⟨i, t, rfl, rfl⟩ | ⟨x, t, rfl, rfl⟩
    · exact wpAny_pyHash_int h
    · exact wpAny_pyHash_str h
  eqBool := fun hu hv h => by
    rcases keyIs_shape hu with ⟨i, t, rfl, rfl⟩ | ⟨x, t, rfl, rfl⟩
    · rcases keyIs_shape hv with ⟨j, u, rfl, rfl⟩ | ⟨y, u, rfl, rfl⟩
      · rw [key_ll] at h; exact wpAny_eqBool_int h
      · rw [key_lr] at h; exact SeqAt.EqAt.int_str i t y u _ _ _ _ h
    · rcases keyIs_shape hv with ⟨j, u, rfl, rfl⟩ | ⟨y, u, rfl, rfl⟩
      · rw [key_rl] at h; exact SeqAt.EqAt.str_int x t j u _ _ _ _ h
      · rw [key_rr] at h; exact wpAny_eqBool_str h
  «strs» := fun k x t v h => by
    rcases keyIs_shape h with ⟨i, u, rfl, e⟩ | ⟨y, u, rfl, e⟩
    · exact nomatch e
    · injection e with e1 _
      subst e1
      cases v <;> rfl
end L2
namespace L2
open PySem PySem.Spec PyProof.Rows
inductive V where
  | non | bl (b : Bool) | int (i : Int) | str (x : Str) | byt (b : Array UInt8) | flt (b : UInt64) | ref (a : Addr) | ty (n : String)
  deriving DecidableEq
noncomputable def RelV : V → Value → Prop
  | .non, u => u = Value.none
  | .bl b, u => u = Value.bool b
  | .int i, u => ∃ t, u = Value.int i t
  | .str x, u => ∃ t, u = Value.str x t
  | .byt b, u => ∃ t, u = Value.bytes b t
  | .flt b, u => ∃ t, u = Value.float b t
  | .ref a, u => u = Value.ref a
  | .ty n, u => u = Value.type n
noncomputable abbrev Vals : List V → List Value → Prop := Paired RelV
theorem Vals.length {xs : List V} {us : List Value} (r : Vals xs us) : xs.length = us.length := Paired.length r
theorem Vals.get : ∀ {xs : List V} {us : List Value} {i : Nat} {x : V}, Vals xs us → xs[i]? = some x → ∃ u, us[i]? = some u ∧ RelV x u
  | _, _, _, _, .nil, e => by simp at e
  | _, _, 0, _, .cons r _, e => by simp at e; subst e; exact ⟨_, rfl, r⟩
  | _, _, i + 1, x, .cons _ t, e => by
    obtain ⟨u, h1, h2⟩ := Vals.get (i := i) (x := x) t (by simpa using e)
    exact ⟨u, by simpa using h1, h2⟩
theorem Vals.set {x : V} {u : Value} (r : RelV x u) : ∀ {xs : List V} {us : List Value} (i : Nat), Vals xs us → Vals (xs.set i x) (us.set i u)
  | _, _, _, .nil => .nil
  | _, _, 0, .cons _ t => .cons r t
  | _, _, i + 1, .cons q t => .cons q (Vals.set r i t)
theorem Vals.append : ∀ {xs ys : List V} {us ws : List Value}, Vals xs us → Vals ys ws → Vals (xs ++ ys) (us ++ ws)
  | _, _, _, _, .nil, s => s
  | _, _, _, _, .cons r t, s => .cons r (Vals.append t s)
theorem Vals.take : ∀ {xs : List V} {us : List Value} (n : Nat), Vals xs us → Vals (xs.take n) (us.take n)
  | _, _, 0, _ => .nil
  | _, _, _ + 1, .nil => .nil
  | _, _, n + 1, .cons r t => .cons r (Vals.take n t)
theorem Vals.drop : ∀ {xs : List V} {us : List Value} (n : Nat), Vals xs us → Vals (xs.drop n) (us.drop n)
  | _, _, 0, r => r
  | _, _, _ + 1, .nil => .nil
  | _, _, n + 1, .cons _ t => Vals.drop n t
theorem Vals.none_of : ∀ {xs : List V} {us : List Value} {i : Nat}, Vals xs us → xs[i]? = none → us[i]? = none := fun {xs us i} r e => by
  have h1 := r.length
  have h2 : xs.length ≤ i := List.getElem?_eq_none_iff.mp e
  exact List.getElem?_eq_none_iff.mpr (by omega)
noncomputable def RelO : Option V → Option Value → Prop
  | some v, some u => RelV v u
  | none, none => True
  | _, _ => False
noncomputable def KV {κ : Type} : List (κ × V) → List (κ × Value) → Prop := Paired fun (p : κ × V) (q : κ × Value) => p.1 = q.1 ∧ RelV p.2 q.2
noncomputable def kV : Key → V
  | .inl i => .int i
  | .inr x => .str x
inductive HO where
    | lst (xs : List V)
    | tup (xs : List V)
    | dK (kvs : List (Key × V)) | dT (kvs : List (List Key × V))
    | set (S : Int → Bool) (n : Nat)
    | ins (C dx : Addr) (fs : List (Str × V))
    | own (x : Addr)
    | xd (fs : List (Str × V))
    | met (f x : Addr)
    | rng (lo hi : Int)
    | frz (o : Obj) (u : HO)
    | tbl (ps : Array Value)
    | ext (φ : Heap → Prop)
noncomputable abbrev Hp := Addr → Option HO
noncomputable def upd (H : Hp) (a : Addr) (o : HO) : Hp := fun b => if b = a then some o else H b
theorem upd_same {H : Hp} {a : Addr} {o : HO} : upd H a o a = some o := by unfold upd; rw [if_pos rfl]
theorem upd_ne {H : Hp} {a b : Addr} {o : HO} (h : b ≠ a) : upd H a o b = H b := by unfold upd; rw [if_neg h]
theorem ne_of_none {H : Hp} {a b : Addr} {o : HO} (h : H a = some o) (h' : H b = none) : a ≠ b := by
  intro e; subst e; rw [h] at h'; cases h'
section
variable (P : Program) (w : World)
noncomputable def ObjOk (H : Hp) (h : Heap) (a : Addr) : HO → Prop
  | .lst xs => xs.length ≤ sizeLine ∧ ∃ (its : List Value) (n : Nat), Vals xs its ∧ h.get? a = some { cls := .type "list", data := .seq its.toArray n }
  | .tup xs => xs.length ≤ sizeLine ∧ ∃ its : List Value, Vals xs its ∧ IsTup h a its.toArray
  | .dK kvs => kvs.length ≤ sizeLine ∧ (a == sysModules) = false ∧ ∃ vs, KV kvs vs ∧ h.DictOf (mixKind P w) a vs
  | .dT kvs => kvs.length ≤ sizeLine ∧ (a == sysModules) = false ∧ ∃ xs : List (List Key × Addr × Value),
      Paired (fun (p : List Key × V) (q : List Key × Addr × Value) => p.1 = q.1 ∧ H q.2.1 = some (.tup (p.1.map kV)) ∧ RelV p.2 q.2.2) kvs xs ∧
      ∃ o es ep, h.get? a = some o ∧ o.ExactDict ∧ o.data = .dict es ep ∧ es.toList = xs.map (entryOfKey (tupleKind (mixKind P w))) ∧ (xs.map (·.1)).Nodup
  | .set S n => h.SetOf (intKind P w) a S n
  | .ins C dx fs => H dx = some (.own a) ∧ fs.length ≤ 1000 ∧ dx ≠ a ∧ h.get? a = some (PySem.W.instObj C dx) ∧
      ∃ mA, h.Ns1 dx mA ∧ (∀ f, RelO (fs.lookup f) (mA f)) ∧ PySem.Within mA (fs.map (·.1))
  | .own _ => ∃ o, h.get? a = some o
  | .xd fs => ∃ mA, h.Ns1 a mA ∧ ∀ f, RelO (fs.lookup f) (mA f)
  | .rng lo hi => ∃ t u v, h.get? a = some { cls := .type "range", data := .fields #[.int lo t, .int hi u, .int 1 v] }
  | .frz o u => h.get? a = some o ∧ ObjOk H h a u
  | .tbl ps => h.get? a = some { cls := .none, data := .fields ps }
  | .met f x => h.get? a = some (PySem.W.methodObj (.ref f) (.ref x))
  | .ext φ => φ h ∧ (∃ o, h.get? a = some o) ∧ ∀ h1 h2 : Heap, φ h1 → (∀ o, h1.get? a = some o → h2.get? a = some o) → φ h2
noncomputable def HOk (H : Hp) (h : Heap) : Prop := ∀ a o, H a = some o → ObjOk P w H h a o
end
section
variable {P : Program} {w : World} {H H' : Hp} {h h' : Heap} {a : Addr} {o : HO}
theorem ObjOk.lt (x : ObjOk P w H h a o) : a < h.objs.size := by
  cases o with
  | lst xs => obtain ⟨_, _, _, _, e⟩ := x; exact Heap.lt_size e
  | tup xs => obtain ⟨_, _, _, p⟩ := x; exact p.lt
  | dK kvs => obtain ⟨_, _, _, _, o, _, _, e, _⟩ := x; exact Heap.lt_size e
  | dT kvs => obtain ⟨_, _, _, _, o, _, _, e, _⟩ := x; exact Heap.lt_size e
  | set S n => obtain ⟨o, _, _, _, e, _⟩ := x; exact Heap.lt_size e
  | ins C dx fs => obtain ⟨_, _, _, e, _⟩ := x; exact Heap.lt_size e
  | own y => obtain ⟨_, e⟩ := x; exact Heap.lt_size e
  | xd fs => obtain ⟨_, ⟨_, _, _, e, _⟩, _⟩ := x; exact Heap.lt_size e
  | rng lo hi => obtain ⟨_, _, _, e⟩ := x; exact Heap.lt_size e
  | frz ob u => obtain ⟨e, _⟩ := x; exact Heap.lt_size e
  | tbl ps => exact Heap.lt_size (show h.get? a = some _ from x)
  | met f y => exact Heap.lt_size (show h.get? a = some _ from x)
  | ext φ => obtain ⟨_, ⟨_, e⟩, _⟩ := x; exact Heap.lt_size e
theorem Paired.mapP {α β : Type} {F G : α → β → Prop} : ∀ {l₁ : List α} {l₂ : List β}, Paired F l₁ l₂ → (∀ a b, F a b → G a b) → Paired G l₁ l₂
  | _, _, .nil, _ => .nil
  | _, _, .cons r t, f => .cons (f _ _ r) (Paired.mapP t f)
theorem ObjOk.stay (x : ObjOk P w H h a o) (k : ∀ b u, (b = a ∨ H b = some (.own a)) → h.get? b = some u → h'.get? b = some u)
    (ho : ∀ b, H b = some (.own a) → H' b = some (.own a)) (ht : ∀ b xs, H b = some (.tup xs) → H' b = some (.tup xs)) : ObjOk P w H' h' a o := by
  induction o with
  | lst xs => obtain ⟨z, its, n, r, e⟩ := x; exact ⟨z, its, n, r, k _ _ (.inl rfl) e⟩
  | tup xs => obtain ⟨z, its, r, ob, e, c⟩ := x; exact ⟨z, its, r, ob, k _ _ (.inl rfl) e, c⟩
  | dK kvs => obtain ⟨z, y, vs, r, ob, es, ep, e, c⟩ := x; exact ⟨z, y, vs, r, ob, es, ep, k _ _ (.inl rfl) e, c⟩
  | dT kvs =>
    obtain ⟨z, y, xs, r, ob, es, ep, e, c⟩ := x
    exact ⟨z, y, xs, Paired.mapP r fun p q z => ⟨z.1, ht _ _ z.2.1, z.2.2⟩, ob, es, ep, k _ _ (.inl rfl) e, c⟩
  | set S n => obtain ⟨ob, es, ep, t, e, c⟩ := x; exact ⟨ob, es, ep, t, k _ _ (.inl rfl) e, c⟩
  | ins C dx fs =>
    obtain ⟨d, z, ne, e, mA, ⟨od, es, ep, e2, c⟩, r⟩ := x
    exact ⟨ho _ d, z, ne, k _ _ (.inl rfl) e, mA, ⟨od, es, ep, k _ _ (.inr d) e2, c⟩, r⟩
  | own y => obtain ⟨ob, e⟩ := x; exact ⟨ob, k _ _ (.inl rfl) e⟩
  | xd fs => obtain ⟨mA, ⟨od, es, ep, e, c⟩, r⟩ := x; exact ⟨mA, ⟨od, es, ep, k _ _ (.inl rfl) e, c⟩, r⟩
  | rng lo hi => obtain ⟨t, u, v, e⟩ := x; exact ⟨t, u, v, k _ _ (.inl rfl) e⟩
  | frz ob u ih => obtain ⟨e, q⟩ := x; exact ⟨k _ _ (.inl rfl) e, ih q⟩
  | tbl ps =>
    have e : h.get? a = some { cls := .none, data := .fields ps } := x
    show h'.get? a = some { cls := .none, data := .fields ps }
    exact k a _ (.inl rfl) e
  | met f y =>
    have e : h.get? a = some (PySem.W.methodObj (.ref f) (.ref y)) := x
    show h'.get? a = some (PySem.W.methodObj (.ref f) (.ref y))
    exact k a _ (.inl rfl) e
  | ext φ => obtain ⟨p, ⟨o, e⟩, st⟩ := x; exact ⟨st _ _ p fun o q => k _ _ (.inl rfl) q, ⟨o, k _ _ (.inl rfl) e⟩, st⟩
theorem HOk.lt (x : HOk P w H h) (e : H a = some o) : a < h.objs.size := (x a o e).lt
theorem HOk.fresh (x : HOk P w H h) (e : h.objs.size ≤ a) : H a = none := by
  cases q : H a with
  | none => rfl
  | some u => exact absurd (Nat.lt_of_lt_of_le (x.lt q) e) (Nat.lt_irrefl _)
theorem HOk.kept (x : HOk P w H h) (k : ∀ b u, h.get? b = some u → h'.get? b = some u) : HOk P w H h' := fun a o e =>
  (x a o e).stay (fun b u _ q => k b u q) (fun _ q => q) fun _ _ q => q
theorem HOk.laid (x : HOk P w H h) (k : ∀ b u, h.get? b = some u → h'.get? b = some u) (hp : h.objs.size ≤ a) (new : ObjOk P w (upd H a o) h' a o) : HOk P w (upd H a o) h' := fun b u e => by
  have hn := x.fresh hp
  by_cases hb : b = a
  · subst hb; rw [upd_same] at e; cases e; exact new
  · rw [upd_ne hb] at e
    exact (x b u e).stay (fun c v _ q => k c v q) (fun c q => by rw [upd_ne (ne_of_none q hn)]; exact q) fun c xs q => by rw [upd_ne (ne_of_none q hn)]; exact q
end
noncomputable def Rd (H : Hp) (a : Addr) (u : HO) : Prop := H a = some u ∨ ∃ o, H a = some (.frz o u)
theorem Rd.of {H : Hp} {a : Addr} {u : HO} (h : H a = some u) : Rd H a u := .inl h
theorem Rd.ok {P : Program} {w : World} {H : Hp} {h : Heap} {a : Addr} {u : HO} (r : Rd H a u) (x : HOk P w H h) : ObjOk P w H h a u := by
  rcases r with r | ⟨o, r⟩
  · exact x a u r
  · obtain ⟨_, q⟩ := x a _ r
    exact q
noncomputable def Mut : Option HO → Prop
  | some (.lst _) => True
  | some (.dK _) => True
  | some (.dT _) => True
  | some (.set _ _) => True
  | some (.ins _ _ _) => True
  | some (.ext _) => True
  | _ => False
section
variable {P : Program} {w : World} {H : Hp} {h h' : Heap} {x e : Addr} {o' : HO}
theorem HOk.write (ok : HOk P w H h) (mu : Mut (H x)) (he : e = x ∨ H e = some (.own x)) (k : ∀ b u, b ≠ e → h.get? b = some u → h'.get? b = some u) (heo : ∃ u, h'.get? e = some u)
    (new : ObjOk P w (upd H x o') h' x o') : HOk P w (upd H x o') h' := fun b u q => by
  have nown : ∀ c y, H c = some (.own y) → c ≠ x := fun c y r z => by subst z; rw [r] at mu; exact mu
  have ntup : ∀ c xs, H c = some (.tup xs) → c ≠ x := fun c xs r z => by subst z; rw [r] at mu; exact mu
  by_cases hb : b = x
  · subst hb; rw [upd_same] at q; cases q; exact new
  · rw [upd_ne hb] at q
    by_cases hbe : b = e
    · have q' : H b = some (.own x) := by
        rcases he with z | z
        · exact absurd (hbe.trans z) hb
        · rw [hbe]; exact z
      rw [q] at q'; cases q'
      obtain ⟨v, hv⟩ := heo
      exact ⟨v, by rw [hbe]; exact hv⟩
    · refine (ok b u q).stay (fun c v hc r => k c v ?_ r) (fun c r => by rw [upd_ne (nown c b r)]; exact r) fun c xs r => by rw [upd_ne (ntup c xs r)]; exact r
      rcases hc with rfl | hc
      · exact hbe
      · rintro rfl
        rcases he with z | z
        · exact nown c b hc z
        · rw [hc] at z; cases z; exact hb rfl
end
structure Un (fs ex : List Addr) (H H' : Hp) (h h' : Heap) : Prop where
  keep : ∀ b o, h.get? b = some o → H b = none → b ∉ fs → b ∉ ex → h'.get? b = some o
  slot : ∀ b o, h.get? b = some o → H b = none → b ∈ fs → b ∉ ex → ∃ sl, h'.get? b = some { o with slots := sl }
  free : ∀ b o, h.get? b = some o → H b = none → b ∉ ex → H' b = none
  there : ∀ b o, h.get? b = some o → b ∉ ex → ∃ o', h'.get? b = some o'
  tups : ∀ b xs, H b = some (.tup xs) → H' b = some (.tup xs)
  frzs : ∀ b o u, H b = some (.frz o u) → H' b = some (.frz o u)
  tbls : ∀ b ps, H b = some (.tbl ps) → ∃ more, H' b = some (.tbl (ps ++ more))
section
variable {fs fs' ex ex' : List Addr} {H H1 H2 : Hp} {h h1 h2 h' : Heap} {a x e : Addr} {o : HO}
theorem Un.any (u : Un fs ex H H1 h h1) {b : Addr} {ob : Obj} (q : h.get? b = some ob) (n : H b = none) (hx : b ∉ ex) : ∃ sl, h1.get? b = some { ob with slots := sl } := by
  by_cases hb : b ∈ fs
  · exact u.slot b ob q n hb hx
  · exact ⟨ob.slots, u.keep b ob q n hb hx⟩
theorem Un.trans (a : Un fs ex H H1 h h1) (b : Un fs ex H1 H2 h1 h2) : Un fs ex H H2 h h2 where
  keep := fun c ob q n hc hx => b.keep c ob (a.keep c ob q n hc hx) (a.free c ob q n hx) hc hx
  slot := fun c ob q n hc hx => by
    obtain ⟨sl, e1⟩ := a.slot c ob q n hc hx
    obtain ⟨sl', e2⟩ := b.slot c _ e1 (a.free c ob q n hx) hc hx
    exact ⟨sl', e2⟩
  free := fun c ob q n hx => by
    obtain ⟨o', e1⟩ := a.there c ob q hx
    exact b.free c o' e1 (a.free c ob q n hx) hx
  there := fun c ob q hx => by
    obtain ⟨o', e1⟩ := a.there c ob q hx
    exact b.there c o' e1 hx
  tups := fun c xs q => b.tups c xs (a.tups c xs q)
  frzs := fun c ob xs q => b.frzs c ob xs (a.frzs c ob xs q)
  tbls := fun c ps q => by
    obtain ⟨m1, e1⟩ := a.tbls c ps q
    obtain ⟨m2, e2⟩ := b.tbls c _ e1
    exact ⟨m1 ++ m2, by rw [e2, Array.append_assoc]⟩
theorem Un.kept (k : ∀ b u, h.get? b = some u → h'.get? b = some u) : Un fs ex H H h h' :=
  ⟨fun b ob q _ _ _ => k b ob q, fun b ob q _ _ _ => ⟨ob.slots, k b ob q⟩, fun _ _ _ n _ => n, fun b ob q _ => ⟨ob, k b ob q⟩, fun _ _ q => q, fun _ _ _ q => q, fun _ ps q => ⟨#[], by rw [q]; simp⟩⟩
theorem Un.refl : Un fs ex H H h h := Un.kept fun _ _ q => q
theorem Un.laid (k : ∀ b u, h.get? b = some u → h'.get? b = some u) (hp : h.objs.size ≤ a) (hn : H a = none) : Un fs ex H (upd H a o) h h' where
  keep := fun b u q _ _ _ => k b u q
  slot := fun b u q _ _ _ => ⟨u.slots, k b u q⟩
  free := fun b u q n _ => by rw [upd_ne (Nat.ne_of_lt (Nat.lt_of_lt_of_le (Heap.lt_size q) hp))]; exact n
  there := fun b u q _ => ⟨u, k b u q⟩
  tups := fun b xs q => by rw [upd_ne (ne_of_none q hn)]; exact q
  frzs := fun b u xs q => by rw [upd_ne (ne_of_none q hn)]; exact q
  tbls := fun b ps q => ⟨#[], by rw [upd_ne (ne_of_none q hn), q]; simp⟩
theorem Un.write (mu : Mut (H x)) (he : e = x ∨ H e = some (.own x)) (k : ∀ b u, b ≠ e → h.get? b = some u → h'.get? b = some u) (heo : ∃ u, h'.get? e = some u) : Un fs ex H (upd H x o) h h' := by
  have hx : ∀ b, H b = none → b ≠ x := fun b n z => by subst z; rw [n] at mu; exact mu
  have hb : ∀ b, H b = none → b ≠ e := fun b n z => by
    subst z
    rcases he with r | r
    · exact hx b n r
    · rw [n] at r; cases r
  have hm : ∀ b u, H b = some u → ¬ Mut (some u) → b ≠ x := fun b u q nm z => by subst z; rw [q] at mu; exact nm mu
  refine ⟨fun b u q n _ _ => k b u (hb b n) q, fun b u q n _ _ => ⟨u.slots, k b u (hb b n) q⟩, fun b u q n _ => by rw [upd_ne (hx b n)]; exact n, fun b u q _ => ?_,
    fun b xs q => by rw [upd_ne (hm b _ q fun z => z)]; exact q, fun b u xs q => by rw [upd_ne (hm b _ q fun z => z)]; exact q, fun b ps q => ⟨#[], by rw [upd_ne (hm b _ q fun z => z), q]; simp⟩⟩
  by_cases hbe : b = e
  · subst hbe; exact heo
  · exact ⟨u, k b u hbe q⟩
theorem Un.mono (u : Un fs ex H H1 h h1) (hs : ∀ b ∈ fs, b ∈ fs') (hx : ∀ b ∈ ex, b ∈ ex') : Un fs' ex' H H1 h h1 :=
  ⟨fun b ob q n hb he => u.keep b ob q n (fun z => hb (hs b z)) fun z => he (hx b z), fun _ _ q n _ he => u.any q n fun z => he (hx _ z), fun b ob q n he => u.free b ob q n fun z => he (hx b z), fun b ob q he => u.there b ob q fun z => he (hx b z), u.tups, u.frzs, u.tbls⟩
end
noncomputable def trk (h : Heap) (H : Hp) : List Addr := (List.range h.objs.size).filter fun a => (H a).isSome
noncomputable def hidT (h : Heap) (H : Hp) : Heap := PySem.W.hideAll h (trk h H)
theorem hidT_size (h : Heap) (H : Hp) : (hidT h H).objs.size = h.objs.size := PySem.W.hideAll_size _ _
theorem hidT_get {h : Heap} {H : Hp} {b : Addr} {o : Obj} (e : h.get? b = some o) (n : H b = none) : (hidT h H).get? b = some o :=
  PySem.W.hideAll_get _ e fun hm => by
    have q : (H b).isSome = true := (List.mem_filter.mp hm).2
    rw [n] at q; simp at q
theorem of_hidT {h : Heap} {H : Hp} {b : Addr} {o : Obj} (e : (hidT h H).get? b = some o) : h.get? b = some o ∧ H b = none := by
  have e' : h.get? b = some o := PySem.W.of_hideAll (trk h H) e
  refine ⟨e', ?_⟩
  cases q : H b with
  | none => rfl
  | some x =>
    have hm : b ∈ trk h H := List.mem_filter.mpr ⟨List.mem_range.mpr (Heap.lt_size e'), by simp [q]⟩
    have z : (hidT h H).get? b = none := PySem.W.hideAll_none (trk h H) hm
    rw [z] at e; cases e
noncomputable def allNews (g h : Heap) (L : Addr) : List (Addr × Obj) := (List.range h.objs.size).filterMap fun a => if a = L ∨ (g.get? a).isSome = true then none else (h.get? a).map fun o => (a, o)
noncomputable def rest (g h : Heap) (L d : Addr) : List (Addr × Obj) := (allNews g h L).filter fun p => decide (p.1 ≠ d)
end L2
namespace L2
open PySem PySem.Spec PyProof.Rows
structure Mod (K : PySem.W.Frag) (mg : Str → Option Value) (base : Heap) : Prop where
  kin : K.In base
  glob : base.Ns mainGlobals mg
  blt : ∃ mb, base.Ns builtinsNs mb ∧ ∀ x : Str, x ≠ "__name__" → mb x = bootBuiltins x
  nolimit : base.NoLimit
structure Cx where
  prog : Program
  w : World
  K : PySem.W.Frag
  mg : Str → Option Value
  base : Heap
  A : Around
  N : List Str
  s₀ : Shared
  H₀ : Hp
  env : Env
  outer : List Env
  stack : List Env
  ex : List Addr
  fn : Str → Bool
  calm : Bool
  pn : List (Addr × Obj)
  xe : Value → Shared → Prop
noncomputable def frs (l : List Env) : List Addr := l.filterMap (·.frame)
noncomputable abbrev Cx.fs (X : Cx) : List Addr := frs X.outer
noncomputable def Vis (sc : Scope) (x : Str) : Prop := sc.names.lookup x = some .local ∨ sc.names.lookup x = some .cell ∨ sc.names.lookup x = some .free
noncomputable def Loc (sc : Scope) (x : Str) : Prop := sc.names.lookup x = some .local ∨ sc.names.lookup x = some .cell
noncomputable def Look (env : Env) (h : Heap) (m : Str → Option Value) (x : Str) (u : Value) : Prop :=
  (env.kindOf x = some .local ∧ m x = some u) ∨ ((env.kindOf x = some .cell ∨ env.kindOf x = some .free) ∧ ∃ c, env.cells.lookup x = some c ∧ h.IsCell c (some u))
structure Cx.Ok (X : Cx) : Prop where
  mod : Mod X.K X.mg X.base
  kind : X.env.scope.kind = .function
  glob : X.env.globals = mainGlobals
  blt : X.env.builtins = builtinsNs
  above : X.s₀.heap.objs.size ≤ X.env.locals
  inj : ∀ x y c, X.env.cells.lookup x = some c → X.env.cells.lookup y = some c → x = y
  has : ∀ x, (X.env.kindOf x = some .cell ∨ X.env.kindOf x = some .free) → ∃ c, X.env.cells.lookup x = some c
  cab : ∀ x c, X.fn x = true → X.env.cells.lookup x = some c → X.s₀.heap.objs.size ≤ c
  hd : X.calm = true → X.A.handled = none
  frames : X.A.frames = some X.stack
  stk : X.stack = X.outer ∨ (X.stack = X.env :: X.outer ∧ X.env.frame = some X.env.locals)
  exf : ∀ b ∈ X.ex, b ≠ X.env.locals ∧ ∀ x c, X.env.cells.lookup x = some c → c ≠ b
  bs : ∀ b o, X.base.get? b = some o → X.s₀.heap.get? b = some o ∧ X.H₀ b = none
  bsz : X.base.objs.size ≤ X.s₀.heap.objs.size
  noex : ∀ b o, X.base.get? b = some o → b ∉ X.ex
  exfs : ∀ b ∈ X.ex, b ∉ X.fs
  funs : X.s₀.heap.FunFrames X.base X.outer
  frf : ∀ b ∈ X.fs, X.H₀ b = none
structure Inv (X : Cx) (pins : List (Addr × Obj)) (σ : List (Option V)) (H : Hp) (s : Shared) : Prop where
  ok : X.Ok
  os : s.os = X.s₀.os
  bare : AllBare s.gens
  base : Un X.fs X.ex X.H₀ H X.s₀.heap s.heap
  loc : ∃ m, s.heap.Ns X.env.locals m ∧ ∀ (i : Nat) (x : Str) (v : V), X.N[i]? = some x → σ[i]? = some (some v) → Vis X.env.scope x → ∃ u, RelV v u ∧ Look X.env s.heap m x u
  cell : ∀ x c, X.env.cells.lookup x = some c → ∃ v, s.heap.IsCell c v
  free : H X.env.locals = none
  freeC : ∀ x c, X.env.cells.lookup x = some c → H c = none
  pin : ∀ p ∈ X.pn ++ pins, s.heap.get? p.1 = some p.2 ∧ H p.1 = none ∧ p.1 ≠ X.env.locals ∧ p.1 ∉ X.fs ∧ ∀ v, p.2.data ≠ .cell v
  hok : HOk X.prog X.w H s.heap
  len : σ.length = X.N.length
section
variable {X : Cx} {pins : List (Addr × Obj)} {σ : List (Option V)} {H H' : Hp} {s : Shared} {h' : Heap}
theorem Cx.Ok.nofr (ok : X.Ok) {b : Addr} {o : Obj} (e : X.base.get? b = some o) : b ∉ X.fs := fun hb => by
  have := (ok.funs.mem hb).1
  rw [e] at this; cases this
theorem Inv.bs (I : Inv X pins σ H s) : ∀ b o, X.base.get? b = some o → s.heap.get? b = some o ∧ H b = none := fun b o e =>
  ⟨I.base.keep b o (I.ok.bs b o e).1 (I.ok.bs b o e).2 (I.ok.nofr e) (I.ok.noex b o e), I.base.free b o (I.ok.bs b o e).1 (I.ok.bs b o e).2 (I.ok.noex b o e)⟩
theorem Inv.bk (I : Inv X pins σ H s) : ∀ b o, X.base.get? b = some o → s.heap.get? b = some o := fun b o e => (I.bs b o e).1
theorem Inv.mod (I : Inv X pins σ H s) : Mod X.K X.mg X.base := I.ok.mod
theorem Inv.kIn (I : Inv X pins σ H s) : X.K.In s.heap := I.ok.mod.kin.keeps I.bk
theorem Inv.nolimit (I : Inv X pins σ H s) : s.heap.NoLimit := I.ok.mod.nolimit.keeps I.bk
theorem Inv.fr (I : Inv X pins σ H s) : ∃ m, Fr X.base X.env.locals s.heap m :=
  let ⟨m, hn, _⟩ := I.loc
  ⟨m, hn, I.bk, Nat.le_trans I.ok.bsz I.ok.above⟩
theorem Inv.lt (I : Inv X pins σ H s) : X.env.locals < s.heap.objs.size := let ⟨_, hn, _⟩ := I.loc; hn.lt
theorem Inv.sz (I : Inv X pins σ H s) : X.s₀.heap.objs.size ≤ s.heap.objs.size := Nat.le_trans I.ok.above (Nat.le_of_lt I.lt)
theorem Inv.nofs (I : Inv X pins σ H s) {a : Addr} (h : s.heap.objs.size ≤ a) : a ∉ X.fs := fun hb => by
  obtain ⟨_, o, ho, _⟩ := I.ok.funs.mem hb
  exact absurd (Nat.lt_of_lt_of_le (Heap.lt_size ho) (Nat.le_trans I.sz h)) (Nat.lt_irrefl _)
theorem Inv.cne (I : Inv X pins σ H s) : ∀ x c, X.env.cells.lookup x = some c → c ≠ X.env.locals := fun x c e z => by
  obtain ⟨v, o, ho, hd⟩ := I.cell x c e
  obtain ⟨m, ⟨o', es, ep, ho', hd', _⟩, _⟩ := I.loc
  rw [z, ho'] at ho; cases ho; rw [hd'] at hd; cases hd
theorem Inv.funs (I : Inv X pins σ H s) : s.heap.FunFrames X.base X.outer := by
  have all : ∀ (l : List Env), (∀ b ∈ frs l, b ∈ X.fs) → X.s₀.heap.FunFrames X.base l → s.heap.FunFrames X.base l := by
    intro l
    induction l with
    | nil => intro _ _; trivial
    | cons env r ih =>
      intro hs hl
      obtain ⟨hk, ⟨L, o, hf, hn, ho, hd⟩, hr⟩ := hl
      have hL : L ∈ X.fs := hs L (by unfold frs; rw [List.filterMap_cons, hf]; exact List.mem_cons_self)
      obtain ⟨sl, e⟩ := I.base.slot L o ho (I.ok.frf L hL) hL fun z => I.ok.exfs L z hL
      exact ⟨hk, ⟨L, _, hf, hn, e, hd⟩, ih (fun b hb => hs b (by unfold frs; rw [List.filterMap_cons, hf]; exact List.mem_cons_of_mem _ hb)) hr⟩
  exact all X.outer (fun _ hb => hb) I.ok.funs
theorem Inv.stack (I : Inv X pins σ H s) : s.heap.FunFrames X.base X.stack := by
  rcases I.ok.stk with e | ⟨e, hf⟩
  · rw [e]; exact I.funs
  · rw [e]
    obtain ⟨m, hn, _⟩ := I.loc
    refine .cons (by rw [I.ok.kind]; decide) hf hn ?_ I.funs
    exact Heap.get?_none_of_le (Nat.le_trans I.ok.bsz I.ok.above)
theorem Inv.stkSub (I : Inv X pins σ H s) : ∀ b ∈ frs X.stack, b ∈ X.env.locals :: X.fs := fun b hb => by
  rcases I.ok.stk with e | ⟨e, hf⟩
  · rw [e] at hb; exact List.mem_cons_of_mem _ hb
  · rw [e] at hb
    unfold frs at hb
    rw [List.filterMap_cons, hf] at hb
    exact hb
theorem Inv.stkFree (I : Inv X pins σ H s) : ∀ b ∈ frs X.stack, H b = none := fun b hb => by
  rcases List.mem_cons.mp (I.stkSub b hb) with e | hb
  · rw [e]; exact I.free
  · obtain ⟨_, o, ho, _⟩ := I.ok.funs.mem hb
    exact I.base.free b o ho (I.ok.frf b hb) fun z => I.ok.exfs b z hb
theorem Inv.step {g' : Array GenState} {t' : Nat} {d' : Drawn} {ch : List Addr} (I : Inv X pins σ H s)
    (hch : ∀ b ∈ ch, (b ∈ X.ex ∨ X.s₀.heap.objs.size ≤ b) ∧ b ≠ X.env.locals ∧ (∀ x c, X.env.cells.lookup x = some c → c ≠ b) ∧ ∀ p ∈ X.pn ++ pins, p.1 ≠ b)
    (keep : ∀ b o, b ≠ X.env.locals → b ∉ X.fs → b ∉ ch → s.heap.get? b = some o → H b = none → h'.get? b = some o)
    (slot : ∀ b o, b ≠ X.env.locals → b ∈ X.fs → b ∉ ch → s.heap.get? b = some o → H b = none → ∃ sl, h'.get? b = some { o with slots := sl }) (free : ∀ b o, b ∉ ch → s.heap.get? b = some o → H b = none → H' b = none)
    (there : ∀ b o, b ∉ ch → s.heap.get? b = some o → ∃ o', h'.get? b = some o')
    (tups : ∀ b xs, H b = some (.tup xs) → H' b = some (.tup xs)) (frzs : ∀ b o u, H b = some (.frz o u) → H' b = some (.frz o u)) (tbls : ∀ b ps, H b = some (.tbl ps) → ∃ more, H' b = some (.tbl (ps ++ more)))
    (ns : ∀ m, s.heap.Ns X.env.locals m → h'.Ns X.env.locals m) (hok : HOk X.prog X.w H' h') (hg : AllBare g') :
    Inv X pins σ H' { s with heap := h', gens := g', drawn := d', toks := t' } := by
  have neL : ∀ b o, X.s₀.heap.get? b = some o → b ≠ X.env.locals := fun b o e => Nat.ne_of_lt (Nat.lt_of_lt_of_le (Heap.lt_size e) I.ok.above)
  have neC : ∀ b o, X.s₀.heap.get? b = some o → b ∉ X.ex → b ∉ ch := fun b o e hx hb => by
    rcases (hch b hb).1 with z | z
    · exact hx z
    · exact absurd (Nat.lt_of_lt_of_le (Heap.lt_size e) z) (Nat.lt_irrefl _)
  have cellK : ∀ x c, X.env.cells.lookup x = some c → ∀ v, s.heap.IsCell c v → h'.IsCell c v := fun x c e v ⟨o, ho, hd⟩ => by
    have nch : c ∉ ch := fun z => (hch c z).2.2.1 x c e rfl
    by_cases hc : c ∈ X.fs
    · obtain ⟨sl, q⟩ := slot c o (I.cne x c e) hc nch ho (I.freeC x c e)
      exact ⟨_, q, hd⟩
    · exact ⟨o, keep c o (I.cne x c e) hc nch ho (I.freeC x c e), hd⟩
  refine ⟨I.ok, I.os, hg, ⟨fun b o e n hb hx => ?_, fun b o e n hb hx => ?_, fun b o e n hx => ?_, fun b o e hx => ?_, fun b xs e => tups b xs (I.base.tups b xs e), fun b o xs e => frzs b o xs (I.base.frzs b o xs e), fun b ps e => ?_⟩, ?_, fun x c e => ?_, ?_, fun x c e => ?_, fun p hp => ?_, hok, I.len⟩
  · exact keep b o (neL b o e) hb (neC b o e hx) (I.base.keep b o e n hb hx) (I.base.free b o e n hx)
  · obtain ⟨sl, e1⟩ := I.base.slot b o e n hb hx
    obtain ⟨sl', e2⟩ := slot b _ (neL b o e) hb (neC b o e hx) e1 (I.base.free b o e n hx)
    exact ⟨sl', e2⟩
  · obtain ⟨o', e1⟩ := I.base.there b o e hx
    exact free b o' (neC b o e hx) e1 (I.base.free b o e n hx)
  · obtain ⟨o', e1⟩ := I.base.there b o e hx
    exact there b o' (neC b o e hx) e1
  · obtain ⟨m1, e1⟩ := I.base.tbls b ps e
    obtain ⟨m2, e2⟩ := tbls b _ e1
    exact ⟨m1 ++ m2, by rw [e2, Array.append_assoc]⟩
  · obtain ⟨m, hn, hl⟩ := I.loc
    refine ⟨m, ns m hn, fun i x v e1 e2 e3 => ?_⟩
    obtain ⟨u, r, l⟩ := hl i x v e1 e2 e3
    refine ⟨u, r, ?_⟩
    rcases l with l | ⟨k, c, e, z⟩
    · exact .inl l
    · exact .inr ⟨k, c, e, cellK x c e _ z⟩
  · obtain ⟨v, z⟩ := I.cell x c e
    exact ⟨v, cellK x c e v z⟩
  · obtain ⟨m, ⟨o, _, _, ho, _⟩, _⟩ := I.loc
    exact free _ o (fun z => (hch _ z).2.1 rfl) ho I.free
  · obtain ⟨v, o, ho, hd⟩ := I.cell x c e
    exact free c o (fun z => (hch c z).2.2.1 x c e rfl) ho (I.freeC x c e)
  · obtain ⟨e, n, ne, nf, d⟩ := I.pin p hp
    have nch : p.1 ∉ ch := fun z => (hch p.1 z).2.2.2 p hp rfl
    exact ⟨keep p.1 p.2 ne nf nch e n, free p.1 p.2 nch e n, ne, nf, d⟩
theorem Inv.un {t' : Nat} (I : Inv X pins σ H s) (u : Un X.fs [] H H' s.heap h') (hok : HOk X.prog X.w H' h') : Inv X pins σ H' { s with heap := h', toks := t' } := by
  obtain ⟨m, ⟨o, es, ep, ho, r⟩, _⟩ := id I.loc
  obtain ⟨sl, hL⟩ := u.any ho I.free (by simp)
  exact I.step (g' := s.gens) (d' := s.drawn) (ch := []) (fun _ z => nomatch z) (fun b o _ hb _ e n => u.keep b o e n hb (by simp)) (fun b o _ hb _ e n => u.slot b o e n hb (by simp)) (fun b o _ e n => u.free b o e n (by simp)) (fun b o _ e => u.there b o e (by simp)) u.tups u.frzs u.tbls (fun m' hm => by
    obtain ⟨o', es', ep', ho', r'⟩ := hm
    rw [ho] at ho'; cases ho'
    exact ⟨_, es', ep', hL, r'⟩) hok I.bare
theorem Inv.call {g' : Array GenState} {t' : Nat} {d' : Drawn} {ch : List Addr} (I : Inv X pins σ H s) (u : Un (frs X.stack) ch H H' s.heap h') (hok : HOk X.prog X.w H' h') (hg : AllBare g')
    (hch : ∀ b ∈ ch, (b ∈ X.ex ∨ X.s₀.heap.objs.size ≤ b) ∧ b ≠ X.env.locals ∧ (∀ x c, X.env.cells.lookup x = some c → c ≠ b) ∧ ∀ p ∈ X.pn ++ pins, p.1 ≠ b) :
    Inv X pins σ H' { s with heap := h', gens := g', drawn := d', toks := t' } := by
  obtain ⟨m, ⟨o, es, ep, ho, r⟩, _⟩ := id I.loc
  obtain ⟨sl, hL⟩ := u.any ho I.free fun z => (hch _ z).2.1 rfl
  exact I.step (ch := ch) hch (fun b o hL hb hc e n => u.keep b o e n (fun z => (List.mem_cons.mp (I.stkSub b z)).elim hL hb) hc) (fun b o _ _ hc e n => u.any e n hc) (fun b o hc e n => u.free b o e n hc) (fun b o hc e => u.there b o e hc) u.tups u.frzs u.tbls (fun m' hm => by
    obtain ⟨o', es', ep', ho', r'⟩ := hm
    rw [ho] at ho'; cases ho'
    exact ⟨_, es', ep', hL, r'⟩) hok hg
theorem Inv.turned {t' : Nat} {it : Addr} (I : Inv X pins σ H s) (k : ∀ b o, b ≠ it → s.heap.get? b = some o → h'.get? b = some o) (hn : H it = none) (hL : it ≠ X.env.locals)
    (h1 : it ∈ X.ex ∨ X.s₀.heap.objs.size ≤ it) (h2 : ∀ x c, X.env.cells.lookup x = some c → c ≠ it) (h3 : ∀ p ∈ X.pn ++ pins, p.1 ≠ it) : Inv X pins σ H { s with heap := h', toks := t' } := by
  have nit : ∀ b u, H b = some u → b ≠ it := fun b u e z => by rw [z, hn] at e; cases e
  refine I.step (g' := s.gens) (d' := s.drawn) (ch := [it]) (fun b hb => ?_) (fun b o _ _ hc e _ => k b o (fun z => hc (by simp [z])) e) (fun b o _ _ hc e _ => ⟨o.slots, k b o (fun z => hc (by simp [z])) e⟩) (fun _ _ _ _ n => n)
    (fun b o hc e => ⟨o, k b o (fun z => hc (by simp [z])) e⟩) (fun _ _ e => e) (fun _ _ _ e => e) (fun b ps e => ⟨#[], by rw [e]; simp⟩) (fun m hm => ?_) (fun b u e => ?_) I.bare
  · have e : b = it := by simpa using hb
    subst e
    exact ⟨h1, hL, h2, h3⟩
  · obtain ⟨o, es, ep, ho, r⟩ := hm
    exact ⟨o, es, ep, k _ o (Ne.symm hL) ho, r⟩
  · refine (I.hok b u e).stay (fun c v hc q => k c v ?_ q) (fun _ q => q) fun _ _ q => q
    rcases hc with z | z
    · rw [z]; exact nit b u e
    · exact nit c _ z
theorem Inv.tok (I : Inv X pins σ H s) (t : Nat) : Inv X pins σ H { s with toks := t } := I.un (h' := s.heap) (t' := t) Un.refl I.hok
theorem Inv.kept {t' : Nat} (I : Inv X pins σ H s) (k : ∀ b u, s.heap.get? b = some u → h'.get? b = some u) : Inv X pins σ H { s with heap := h', toks := t' } := I.un (Un.kept k) (I.hok.kept k)
theorem Inv.laid {a : Addr} {o : HO} {t' : Nat} (I : Inv X pins σ H s) (k : ∀ b u, s.heap.get? b = some u → h'.get? b = some u) (hp : s.heap.objs.size ≤ a) (new : ObjOk X.prog X.w (upd H a o) h' a o) :
    Inv X pins σ (upd H a o) { s with heap := h', toks := t' } := I.un (Un.laid k hp (I.hok.fresh hp)) (I.hok.laid k hp new)
theorem Inv.write {x e : Addr} {o : HO} {t' : Nat} (I : Inv X pins σ H s) (mu : Mut (H x)) (he : e = x ∨ H e = some (.own x)) (k : ∀ b u, b ≠ e → s.heap.get? b = some u → h'.get? b = some u) (heo : ∃ u, h'.get? e = some u)
    (new : ObjOk X.prog X.w (upd H x o) h' x o) : Inv X pins σ (upd H x o) { s with heap := h', toks := t' } := I.un (Un.write mu he k heo) (I.hok.write mu he k heo new)
theorem Inv.pins_of {pins' : List (Addr × Obj)} (I : Inv X pins σ H s) (h : ∀ p ∈ pins', s.heap.get? p.1 = some p.2 ∧ H p.1 = none ∧ p.1 ≠ X.env.locals ∧ p.1 ∉ X.fs ∧ ∀ v, p.2.data ≠ .cell v) : Inv X pins' σ H s :=
  ⟨I.ok, I.os, I.bare, I.base, I.loc, I.cell, I.free, I.freeC, fun p hp => (List.mem_append.mp hp).elim (fun z => I.pin p (List.mem_append_left _ z)) (h p), I.hok, I.len⟩
theorem nodup_ix {N : List Str} (hN : N.Nodup) {i j : Nat} {x : Str} (a : N[i]? = some x) (b : N[j]? = some x) : i = j := by
  obtain ⟨h1, e1⟩ := List.getElem?_eq_some_iff.mp a
  obtain ⟨h2, e2⟩ := List.getElem?_eq_some_iff.mp b
  exact (List.getElem_inj hN).mp (e1.trans e2.symm)
theorem store_ok2 {M : Model} {A : Around} {E : Value → Shared → Prop} {i : Nat} {x : Str} {v : V} {u : Value} {Q : Unit → Shared → Prop} (I : Inv X pins σ H s) (hN : X.N.Nodup) (hi : X.N[i]? = some x) (hx : Loc X.env.scope x) (r : RelV v u)
    (h : ∀ s', Inv X pins (σ.set i (some v)) H s' → (∃ a, Heap.SameBut a s.heap s'.heap ∧ (a = X.env.locals ∨ X.env.cells.lookup x = some a)) → Q () s') (hf : X.fn x = true ∨ X.env.scope.names.lookup x = some .local := by first | exact .inl rfl | exact .inr rfl | assumption) : wpAny M A (storeName X.env x u) Q E s := by
  obtain ⟨m, hn, hl⟩ := id I.loc
  have hcls : (X.env.scope.kind == .class || (X.env.scope.kind == .module && X.env.locals != X.env.globals)) = false := by rw [I.ok.kind]; rfl
  have hiσ : i < σ.length := by rw [I.len]; exact (List.getElem?_eq_some_iff.mp hi).1
  have cne := I.cne
  have tracked : ∀ {a : Addr} {h' : Heap}, (∃ o, s.heap.get? a = some o ∧ H a = none) → Heap.SameBut a s.heap h' → HOk X.prog X.w H h' := fun {a h'} ha hs b ob e => by
    obtain ⟨_, _, hfree⟩ := ha
    refine (I.hok b ob e).stay (fun c w' hc q => (hs.2 c ?_).trans q) (fun _ q => q) fun _ _ q => q
    rintro rfl
    rcases hc with rfl | hc
    · rw [hfree] at e; cases e
    · rw [hfree] at hc; cases hc
  rcases hx with hk | hk
  · refine wpAny_storeName_local hk hn (fun h' hn' hs => ?_) hcls
    obtain ⟨oL, _, _, hoL, _⟩ := id hn
    refine h _ ⟨I.ok, I.os, I.bare, ⟨fun b o e n hb hx => ?_, fun b o e n hb hx => ?_, I.base.free, fun b o e hx => ?_, I.base.tups, I.base.frzs, I.base.tbls⟩, ⟨_, hn', fun j y v' e1 e2 e3 => ?_⟩, fun y c e => ?_, I.free, I.freeC, fun p hp => ?_, tracked ⟨oL, hoL, I.free⟩ hs, by simpa using I.len⟩ ⟨_, hs, .inl rfl⟩
    · exact (hs.2 b (Nat.ne_of_lt (Nat.lt_of_lt_of_le (Heap.lt_size e) I.ok.above))).trans (I.base.keep b o e n hb hx)
    · obtain ⟨sl, e1⟩ := I.base.slot b o e n hb hx
      exact ⟨sl, (hs.2 b (Nat.ne_of_lt (Nat.lt_of_lt_of_le (Heap.lt_size e) I.ok.above))).trans e1⟩
    · obtain ⟨o', e1⟩ := I.base.there b o e hx
      exact ⟨o', (hs.2 b (Nat.ne_of_lt (Nat.lt_of_lt_of_le (Heap.lt_size e) I.ok.above))).trans e1⟩
    · by_cases hj : j = i
      · subst hj
        rw [hi] at e1; cases e1
        rw [List.getElem?_set_self hiσ] at e2
        cases e2
        exact ⟨u, r, .inl ⟨hk, by simp⟩⟩
      · rw [List.getElem?_set_ne (Ne.symm hj)] at e2
        obtain ⟨u', r', q⟩ := hl j y v' e1 e2 e3
        refine ⟨u', r', ?_⟩
        rcases q with ⟨k, e⟩ | ⟨k, c, e, z⟩
        · refine .inl ⟨k, ?_⟩
          have : y ≠ x := fun e => hj (nodup_ix hN e1 (e ▸ hi))
          simp [this, e]
        · exact .inr ⟨k, c, e, z.sameBut hs (cne y c e)⟩
    · obtain ⟨w', z⟩ := I.cell y c e
      exact ⟨w', z.sameBut hs (cne y c e)⟩
    · obtain ⟨e, n, ne, nf, d⟩ := I.pin p hp
      exact ⟨(hs.2 p.1 ne).trans e, n, ne, nf, d⟩
  · have hfn : X.fn x = true := by
      rcases hf with z | z
      · exact z
      · rw [z] at hk; cases hk
    obtain ⟨c, hc⟩ := I.ok.has x (.inl hk)
    obtain ⟨w', z⟩ := I.cell x c hc
    refine wpAny_storeName_cell I.ok.kind hk hc z (fun h' hc' hs => ?_)
    obtain ⟨oc, hoc, hocd⟩ := id z
    refine h { s with heap := h' } ⟨I.ok, I.os, I.bare, ⟨fun b o e n hb hx => ?_, fun b o e n hb hx => ?_, I.base.free, fun b o e hx => ?_, I.base.tups, I.base.frzs, I.base.tbls⟩, ⟨m, hn.sameBut hs (Ne.symm (cne x c hc)), fun j y v' e1 e2 e3 => ?_⟩, fun y c' e => ?_, I.free, I.freeC, fun p hp => ?_, tracked ⟨oc, hoc, I.freeC x c hc⟩ hs, by simpa using I.len⟩ ⟨c, hs, .inr hc⟩
    · exact (hs.2 b (Nat.ne_of_lt (Nat.lt_of_lt_of_le (Heap.lt_size e) (I.ok.cab x c hfn hc)))).trans (I.base.keep b o e n hb hx)
    · obtain ⟨sl, e1⟩ := I.base.slot b o e n hb hx
      exact ⟨sl, (hs.2 b (Nat.ne_of_lt (Nat.lt_of_lt_of_le (Heap.lt_size e) (I.ok.cab x c hfn hc)))).trans e1⟩
    · obtain ⟨o', e1⟩ := I.base.there b o e hx
      exact ⟨o', (hs.2 b (Nat.ne_of_lt (Nat.lt_of_lt_of_le (Heap.lt_size e) (I.ok.cab x c hfn hc)))).trans e1⟩
    · by_cases hj : j = i
      · subst hj
        rw [hi] at e1; cases e1
        rw [List.getElem?_set_self hiσ] at e2
        cases e2
        exact ⟨u, r, .inr ⟨.inl hk, c, hc, hc'⟩⟩
      · rw [List.getElem?_set_ne (Ne.symm hj)] at e2
        obtain ⟨u', r', q⟩ := hl j y v' e1 e2 e3
        refine ⟨u', r', ?_⟩
        rcases q with q | ⟨k, c', e, z'⟩
        · exact .inl q
        · refine .inr ⟨k, c', e, z'.sameBut hs ?_⟩
          rintro rfl
          exact hj (nodup_ix hN e1 (I.ok.inj _ _ _ e hc ▸ hi))
    · by_cases hcc : c' = c
      · subst hcc; exact ⟨_, hc'⟩
      · obtain ⟨w2, z2⟩ := I.cell y c' e
        exact ⟨w2, z2.sameBut hs hcc⟩
    · obtain ⟨e, n, ne, nf, d⟩ := I.pin p hp
      refine ⟨(hs.2 p.1 ?_).trans e, n, ne, nf, d⟩
      intro q
      rw [q, hoc] at e
      have q' : oc = p.2 := Option.some.inj e
      exact d w' (by rw [← q']; exact hocd)
theorem store_ok {M : Model} {A : Around} {E : Value → Shared → Prop} {i : Nat} {x : Str} {v : V} {u : Value} {Q : Unit → Shared → Prop} (I : Inv X pins σ H s) (hN : X.N.Nodup) (hi : X.N[i]? = some x) (hx : Loc X.env.scope x) (r : RelV v u)
    (h : ∀ s', Inv X pins (σ.set i (some v)) H s' → Q () s') (hf : X.fn x = true ∨ X.env.scope.names.lookup x = some .local := by first | exact .inl rfl | exact .inr rfl | assumption) : wpAny M A (storeName X.env x u) Q E s :=
  store_ok2 I hN hi hx r (fun s' I' _ => h s' I') hf
theorem Inv.call' {s' : Shared} {ch : List Addr} (I : Inv X pins σ H s) (ho : s'.os = s.os) (u : Un (frs X.stack) ch H H' s.heap s'.heap) (hok : HOk X.prog X.w H' s'.heap) (hg : AllBare s'.gens)
    (hch : ∀ b ∈ ch, (b ∈ X.ex ∨ X.s₀.heap.objs.size ≤ b) ∧ b ≠ X.env.locals ∧ (∀ x c, X.env.cells.lookup x = some c → c ≠ b) ∧ ∀ p ∈ X.pn ++ pins, p.1 ≠ b) : Inv X pins σ H' s' := by
  obtain ⟨h', g', d', t', o'⟩ := s'
  have e : o' = s.os := ho
  subst e
  exact I.call (g' := g') (t' := t') (d' := d') u hok hg hch
end
noncomputable abbrev XK := Value → Option Addr → Hp → Prop
noncomputable abbrev St := List (Option V)
noncomputable abbrev VK := V → Hp → Prop
noncomputable abbrev TE := St → Hp → VK → Prop
noncomputable abbrev TT := St → Hp → (Bool → Hp → Prop) → Prop
noncomputable abbrev TA := St → Hp → (List V → Hp → Prop) → Prop
structure Ends where
  nx : St → Hp → Prop
  rt : VK
  bk : St → Hp → Prop := fun _ _ => False
  ct : St → Hp → Prop := fun _ _ => False
noncomputable abbrev TS := Ends → St → Hp → Prop
noncomputable def EP (X : Cx) (pins : List (Addr × Obj)) (σ : St) (Q : VK) (u : Value) (s' : Shared) : Prop := ∃ v H', Inv X pins σ H' s' ∧ RelV v u ∧ Q v H'
noncomputable def TP (X : Cx) (pins : List (Addr × Obj)) (σ : St) (Q : Bool → Hp → Prop) (b : Bool) (s' : Shared) : Prop := ∃ H', Inv X pins σ H' s' ∧ Q b H'
noncomputable def AP (X : Cx) (pins : List (Addr × Obj)) (σ : St) (Q : List V → Hp → Prop) (us : List Value) (s' : Shared) : Prop := ∃ vs H', Inv X pins σ H' s' ∧ Vals vs us ∧ Q vs H'
noncomputable def SP (X : Cx) (pins : List (Addr × Obj)) (D : Ends) (f : Flow) (s' : Shared) : Prop :=
  match f with
  | .next => ∃ σ' H', Inv X pins σ' H' s' ∧ D.nx σ' H'
  | .brk => ∃ σ' H', Inv X pins σ' H' s' ∧ D.bk σ' H'
  | .cont => ∃ σ' H', Inv X pins σ' H' s' ∧ D.ct σ' H'
  | .ret u => ∃ v σ' H', Inv X pins σ' H' s' ∧ RelV v u ∧ D.rt v H'
noncomputable def PE (X : Cx) (e : Expr) (t : TE) : Prop :=
  ∀ (pins : List (Addr × Obj)) (s : Shared) (σ : St) (H : Hp) (Q : VK), Inv X pins σ H s → t σ H Q → wpAny (model X.prog X.w) X.A (eval e X.env) (EP X pins σ Q) X.xe s
noncomputable def PT (X : Cx) (e : Expr) (t : TT) : Prop :=
  ∀ (pins : List (Addr × Obj)) (s : Shared) (σ : St) (H : Hp) (Q : Bool → Hp → Prop), Inv X pins σ H s → t σ H Q → wpAny (model X.prog X.w) X.A (isTrue e X.env (eval e X.env)) (TP X pins σ Q) X.xe s
noncomputable def PW (X : Cx) (e : Expr) (t : TT) : Prop :=
  ∀ (whole : Sem Value) (pins : List (Addr × Obj)) (s : Shared) (σ : St) (H : Hp) (Q : Bool → Hp → Prop), Inv X pins σ H s → t σ H Q → wpAny (model X.prog X.w) X.A (isTrue e X.env whole) (TP X pins σ Q) X.xe s
theorem PW.pt {X : Cx} {e : Expr} {t : TT} (h : PW X e t) : PT X e t := h _
noncomputable def PA (X : Cx) (es : List Expr) (t : TA) : Prop :=
  ∀ (pos : Pos) (pins : List (Addr × Obj)) (s : Shared) (σ : St) (H : Hp) (Q : List V → Hp → Prop), Inv X pins σ H s → t σ H Q → wpAny (model X.prog X.w) X.A (spliced (backTo pos (starEach es X.env))) (AP X pins σ Q) X.xe s
noncomputable def PS (X : Cx) (st : Stmt) (t : TS) : Prop :=
  ∀ (pins : List (Addr × Obj)) (s : Shared) (σ : St) (H : Hp) (D : Ends), Inv X pins σ H s → t D σ H → wpAny (model X.prog X.w) X.A (exec st X.env) (SP X pins D) X.xe s
noncomputable def PSs (X : Cx) (st : List Stmt) (t : TS) : Prop :=
  ∀ (pins : List (Addr × Obj)) (s : Shared) (σ : St) (H : Hp) (D : Ends), Inv X pins σ H s → t D σ H → wpAny (model X.prog X.w) X.A (execs st X.env) (SP X pins D) X.xe s
theorem thn {α : Type} {t : Sem α} {Q Q' : α → Shared → Prop} {M : Model} {A : Around} {E : Value → Shared → Prop} {s : Shared} (h : wpAny M A t Q E s) (hQ : ∀ a s, Q a s → Q' a s) : wpAny M A t Q' E s := wpAny_mono h hQ fun _ _ x => x
end L2
namespace L2
open PySem PySem.Spec PyProof.Rows
section
variable {X : Cx}
noncomputable def tVar (i : Nat) : TE := fun σ H Q => ∃ v, σ[i]? = some (some v) ∧ Q v H
noncomputable def tC (v : V) : TE := fun _ H Q => Q v H
theorem pe_var {i : Nat} {x : Str} {pos : Pos} (hN : X.N[i]? = some x) (hv : Vis X.env.scope x) (hd : (x == ("__debug__" : Str)) = false := by decide) (hcd : (x == ("__classdict__" : Str)) = false := by decide) : PE X (.Name x pos) (tVar i) := by
  intro pins s σ H Q I h
  obtain ⟨v, e, h⟩ := h
  obtain ⟨m, hn, hl⟩ := I.loc
  obtain ⟨u, r, l⟩ := hl i x v hN e hv
  have fin : EP X pins σ Q u s := ⟨v, H, I, r, h⟩
  rcases l with ⟨hk, hm⟩ | ⟨hk, c, hc, hcell⟩
  · exact wpAny_Name (wpAny_loadName_local I.ok.kind hk hn hm fin) hd
  · rcases hk with hk | hk
    · exact wpAny_Name (wpAny_loadName_cell I.ok.kind hk hc hcell fin) hd
    · exact wpAny_Name (wpAny_loadName_free I.ok.kind hk hc hcell fin hcd) hd
theorem pe_int {i j pos} : PE X (.Constant (.int i) j pos) (tC (.int i)) := fun _ _ _ H _ I h => wpAny_Constant_int ⟨.int i, H, I.tok _, ⟨_, rfl⟩, h⟩
theorem pe_bl {b j pos} : PE X (.Constant (.bool b) j pos) (tC (.bl b)) := fun _ _ _ H _ I h => Constant_bool ⟨.bl b, H, I, rfl, h⟩
theorem pe_non {j pos} : PE X (.Constant .none j pos) (tC .non) := fun _ _ _ H _ I h => Constant_none ⟨.non, H, I, rfl, h⟩
theorem pe_str {x j pos} : PE X (.Constant (.str x) j pos) (tC (.str x)) := fun _ _ _ H _ I h => Calls.Constant_str ⟨.str x, H, I.tok _, ⟨_, rfl⟩, h⟩
noncomputable def Gl (X : Cx) (x : Str) : Prop := X.env.kindOf x = some .globalImplicit
theorem ld_glob {E : Value → Shared → Prop} {pins : List (Addr × Obj)} {s : Shared} {σ : St} {H : Hp} {x : Str} {u : Value} {pos : Pos} {Q : Value → Shared → Prop} (I : Inv X pins σ H s) (hg : Gl X x) (hm : X.mg x = some u) (h : Q u s)
    (hd : (x == ("__debug__" : Str)) = false := by decide) : wpAny (model X.prog X.w) X.A (eval (.Name x pos) X.env) Q E s :=
  Calls.Name_function_global I.ok.kind hg (Calls.loadGlobal_global (by rw [I.ok.glob]; exact I.mod.glob.keeps I.bk) hm h) hd
theorem ld_blt {E : Value → Shared → Prop} {pins : List (Addr × Obj)} {s : Shared} {σ : St} {H : Hp} {x : Str} {u : Value} {pos : Pos} {Q : Value → Shared → Prop} (I : Inv X pins σ H s) (hg : Gl X x) (hm : X.mg x = none) (hv : bootBuiltins x = some u) (h : Q u s)
    (hn : x ≠ "__name__" := by decide) (hd : (x == ("__debug__" : Str)) = false := by decide) : wpAny (model X.prog X.w) X.A (eval (.Name x pos) X.env) Q E s := by
  obtain ⟨mb, h1, h2⟩ := I.mod.blt
  exact Calls.Name_function_global I.ok.kind hg (Calls.loadGlobal_builtin (by rw [I.ok.glob]; exact I.mod.glob.keeps I.bk) hm (by rw [I.ok.blt]; exact h1.keeps I.bk) ((h2 x hn).trans hv) h) hd
theorem pe_glob {x : Str} {v : V} {u : Value} {pos : Pos} (hg : Gl X x) (hm : X.mg x = some u) (r : RelV v u) (hd : (x == ("__debug__" : Str)) = false := by decide) : PE X (.Name x pos) (tC v) :=
  fun _ _ _ H _ I h => ld_glob I hg hm ⟨v, H, I, r, h⟩ hd
theorem pe_bltn {x : Str} {v : V} {u : Value} {pos : Pos} (hg : Gl X x) (hm : X.mg x = none) (hv : bootBuiltins x = some u) (r : RelV v u) (hn : x ≠ "__name__" := by decide) (hd : (x == ("__debug__" : Str)) = false := by decide) : PE X (.Name x pos) (tC v) :=
  fun _ _ _ H _ I h => ld_blt I hg hm hv ⟨v, H, I, r, h⟩ hn hd
variable {a b : Expr} {ta tb : TE} {pos : Pos}
variable {tA tB' : TT} {rest : List Expr}
noncomputable def tAnd (t u : TT) : TT := fun σ H Q => t σ H fun c H1 => if c = true then u σ H1 Q else Q false H1
noncomputable def tOr (t u : TT) : TT := fun σ H Q => t σ H fun c H1 => if c = true then Q true H1 else u σ H1 Q
noncomputable def tNot (t : TT) : TT := fun σ H Q => t σ H fun c H1 => Q (!c) H1
theorem pw_and1 (ha : PT X a tA) : PW X (.BoolOp .And [a] pos) tA := by
  intro wh pins s σ H Q I h
  refine isTrue_and (thn (ha pins s σ H Q I h) fun c s1 e => ?_)
  cases c with
  | true => exact isTrue_and_nil e
  | false => exact e
theorem pw_or1 (ha : PT X a tA) : PW X (.BoolOp .Or [a] pos) tA := by
  intro wh pins s σ H Q I h
  refine isTrue_or (thn (ha pins s σ H Q I h) fun c s1 e => ?_)
  cases c with
  | false => exact isTrue_or_nil e
  | true => exact e
theorem pw_and (ha : PT X a tA) (hb : PW X (.BoolOp .And (b :: rest) pos) tB') : PW X (.BoolOp .And (a :: b :: rest) pos) (tAnd tA tB') := by
  intro wh pins s σ H Q I h
  refine isTrue_and (thn (ha pins s σ H _ I h) fun c s1 ⟨H1, I1, q1⟩ => ?_)
  cases c with
  | true => exact hb wh pins s1 σ H1 Q I1 q1
  | false => exact ⟨H1, I1, q1⟩
theorem pw_or (ha : PT X a tA) (hb : PW X (.BoolOp .Or (b :: rest) pos) tB') : PW X (.BoolOp .Or (a :: b :: rest) pos) (tOr tA tB') := by
  intro wh pins s σ H Q I h
  refine isTrue_or (thn (ha pins s σ H _ I h) fun c s1 ⟨H1, I1, q1⟩ => ?_)
  cases c with
  | true => exact ⟨H1, I1, q1⟩
  | false => exact hb wh pins s1 σ H1 Q I1 q1
theorem pt_not (ha : PT X a tA) : PT X (.UnaryOp .Not a pos) (tNot tA) := by
  intro pins s σ H Q I h
  exact isTrue_not (ha pins s σ H (fun c H1 => Q (!c) H1) I h)
noncomputable def tAndV (ta tb : TE) : TE := fun σ H Q => ta σ H fun x H1 => ∃ c, x = .bl c ∧ if c = true then tb σ H1 Q else Q (.bl false) H1
noncomputable def tOrV (ta tb : TE) : TE := fun σ H Q => ta σ H fun x H1 => ∃ c, x = .bl c ∧ if c = true then Q (.bl true) H1 else tb σ H1 Q
noncomputable def tNotV (ta : TE) : TE := fun σ H Q => ta σ H fun x H1 => ∃ c, x = .bl c ∧ Q (.bl (!c)) H1
theorem pe_one {op} {t : TE} (h : PE X a t) : PE X (.BoolOp op [a] pos) t := fun pins s σ H Q I hw => BoolOp_one (h pins s σ H Q I hw)
theorem pe_and (ha : PE X a ta) (hb : PE X (.BoolOp .And (b :: rest) pos) tb) : PE X (.BoolOp .And (a :: b :: rest) pos) (tAndV ta tb) := by
  intro pins s σ H Q I h
  refine BoolOp_and (thn (ha pins s σ H _ I h) fun v s1 ⟨x, H1, I1, r1, q1⟩ => ?_)
  obtain ⟨c, rfl, q1⟩ := q1
  cases r1
  refine wpAny_truthy_bool ?_
  cases c with
  | true => exact hb pins s1 σ H1 Q I1 q1
  | false => exact ⟨.bl false, H1, I1, rfl, q1⟩
theorem pe_or (ha : PE X a ta) (hb : PE X (.BoolOp .Or (b :: rest) pos) tb) : PE X (.BoolOp .Or (a :: b :: rest) pos) (tOrV ta tb) := by
  intro pins s σ H Q I h
  refine BoolOp_or (thn (ha pins s σ H _ I h) fun v s1 ⟨x, H1, I1, r1, q1⟩ => ?_)
  obtain ⟨c, rfl, q1⟩ := q1
  cases r1
  refine wpAny_truthy_bool ?_
  cases c with
  | false => exact hb pins s1 σ H1 Q I1 q1
  | true => exact ⟨.bl true, H1, I1, rfl, q1⟩
theorem pe_not (ha : PE X a ta) : PE X (.UnaryOp .Not a pos) (tNotV ta) := by
  intro pins s σ H Q I h
  refine UnaryOp_ (thn (ha pins s σ H _ I h) fun v s1 ⟨x, H1, I1, r1, q1⟩ => ?_)
  obtain ⟨c, rfl, q1⟩ := q1
  cases r1
  exact not_of (wpAny_truthy_bool ⟨.bl (!c), H1, I1, rfl, q1⟩)
noncomputable def tIf (t : TT) (ta tb : TE) : TE := fun σ H Q => t σ H fun c H1 => if c = true then ta σ H1 Q else tb σ H1 Q
theorem pe_ifExp {c : Expr} (hc : PT X c tA) (ha : PE X a ta) (hb : PE X b tb) : PE X (.IfExp c a b pos) (tIf tA ta tb) := by
  intro pins s σ H Q I h
  refine wpAny_IfExp (thn (hc pins s σ H _ I h) fun d s1 ⟨H1, I1, q1⟩ => ?_)
  cases d with
  | true => exact ha pins s1 σ H1 Q I1 q1
  | false => exact hb pins s1 σ H1 Q I1 q1
end
end L2
namespace L2
open PySem PySem.Spec PyProof.Rows
noncomputable def SqL (K : PySem.W.Frag) (H : Hp) (a : Addr) (xs : List V) : Prop :=
  Rd H a (.lst xs) ∨
    ∃ (o : Obj) (its : Array Value) (n : Nat), K.lookup a = some o ∧ o.cls = .type "list" ∧ o.dict = none ∧ o.data = .seq its n ∧ its.size ≤ sizeLine ∧ Vals xs its.toList
noncomputable def SqT (K : PySem.W.Frag) (H : Hp) (a : Addr) (xs : List V) : Prop :=
  Rd H a (.tup xs) ∨
    ∃ (o : Obj) (its : Array Value) (n : Nat), K.lookup a = some o ∧ o.cls = .type "tuple" ∧ o.data = .seq its n ∧ its.size ≤ sizeLine ∧ Vals xs its.toList
noncomputable def absV : Value → Option V
  | .none => some .non
  | .bool b => some (.bl b)
  | .int i _ => some (.int i)
  | .str x _ => some (.str x)
  | .bytes b _ => some (.byt b)
  | .float b _ => some (.flt b)
  | .ref a => some (.ref a)
  | .type n => some (.ty n)
  | _ => none
theorem RelV.abs {x : V} {u : Value} (r : RelV x u) : absV u = some x := by
  cases x with
  | non => cases r; rfl
  | bl _ => cases r; rfl
  | int _ => obtain ⟨t, rfl⟩ := r; rfl
  | str _ => obtain ⟨t, rfl⟩ := r; rfl
  | byt _ => obtain ⟨t, rfl⟩ := r; rfl
  | flt _ => obtain ⟨t, rfl⟩ := r; rfl
  | ref _ => cases r; rfl
  | ty _ => cases r; rfl
theorem RelV.inj {x y : V} {u : Value} (r : RelV x u) (q : RelV y u) : x = y := Option.some.inj (r.abs.symm.trans q.abs)
theorem Vals.inj : ∀ {xs ys : List V} {us : List Value}, Vals xs us → Vals ys us → xs = ys
  | _, _, _, .nil, .nil => rfl
  | _, _, _, .cons r t, .cons r' t' => by rw [r.inj r', Vals.inj t t']
section
variable {X : Cx} {pins : List (Addr × Obj)} {σ : St} {H : Hp} {s : Shared} {a : Addr} {xs ys : List V}
theorem SqL.of {K : PySem.W.Frag} (h : H a = some (.lst xs)) : SqL K H a xs := .inl (.inl h)
theorem SqT.of {K : PySem.W.Frag} (h : H a = some (.tup xs)) : SqT K H a xs := .inl (.inl h)
theorem Inv.list (I : Inv X pins σ H s) (h : SqL X.K H a xs) : ∃ its : List Value, Vals xs its ∧ PlainL s.heap a its.toArray ∧ xs.length ≤ sizeLine := by
  rcases h with h | ⟨o, its, n, hk, hc, hd, hs, hz, r⟩
  · obtain ⟨z, its, n, r, e⟩ := h.ok I.hok
    exact ⟨its, r, ⟨_, n, e, rfl, rfl, rfl⟩, z⟩
  · refine ⟨its.toList, r, ⟨o, n, I.kIn a o hk, hc, hd, by simpa using hs⟩, ?_⟩
    have e := r.length
    simp only [Array.length_toList] at e
    omega
theorem Inv.tuple (I : Inv X pins σ H s) (h : SqT X.K H a xs) : ∃ its : List Value, Vals xs its ∧ IsTup s.heap a its.toArray ∧ xs.length ≤ sizeLine := by
  rcases h with h | ⟨o, its, n, hk, hc, hs, hz, r⟩
  · obtain ⟨z, its, r, p⟩ := h.ok I.hok
    exact ⟨its, r, p, z⟩
  · refine ⟨its.toList, r, ⟨o, I.kIn a o hk, hc, n, by simpa using hs⟩, ?_⟩
    have e := r.length
    simp only [Array.length_toList] at e
    omega
theorem Inv.list_inj (I : Inv X pins σ H s) (h : SqL X.K H a xs) (h' : SqL X.K H a ys) : xs = ys := by
  obtain ⟨its, r, ⟨o, n, e, _, _, d⟩, _⟩ := I.list h
  obtain ⟨its', r', ⟨o', n', e', _, _, d'⟩, _⟩ := I.list h'
  rw [e] at e'; cases e'
  rw [d] at d'
  injection d' with d1 _
  have : its = its' := by simpa using congrArg Array.toList d1
  subst this
  exact r.inj r'
theorem Inv.tuple_inj (I : Inv X pins σ H s) (h : SqT X.K H a xs) (h' : SqT X.K H a ys) : xs = ys := by
  obtain ⟨its, r, ⟨o, e, _, n, d⟩, _⟩ := I.tuple h
  obtain ⟨its', r', ⟨o', e', _, n', d'⟩, _⟩ := I.tuple h'
  rw [e] at e'; cases e'
  rw [d] at d'
  injection d' with d1 _
  have : its = its' := by simpa using congrArg Array.toList d1
  subst this
  exact r.inj r'
end
noncomputable abbrev Cx.wish (X : Cx) (E : Value → Shared → Prop) : Cx := { X with xe := E }
noncomputable abbrev Cx.nox (X : Cx) : Cx := X.wish fun _ _ => False
theorem Cx.Ok.wish {X : Cx} (ok : X.Ok) (E : Value → Shared → Prop) : (X.wish E).Ok :=
  ⟨ok.mod, ok.kind, ok.glob, ok.blt, ok.above, ok.inj, ok.has, ok.cab, ok.hd, ok.frames, ok.stk, ok.exf, ok.bs, ok.bsz, ok.noex, ok.exfs, ok.funs, ok.frf⟩
theorem Cx.Ok.unwish {X : Cx} {E : Value → Shared → Prop} (ok : (X.wish E).Ok) : X.Ok :=
  ⟨ok.mod, ok.kind, ok.glob, ok.blt, ok.above, ok.inj, ok.has, ok.cab, ok.hd, ok.frames, ok.stk, ok.exf, ok.bs, ok.bsz, ok.noex, ok.exfs, ok.funs, ok.frf⟩
section
variable {X : Cx} {pins : List (Addr × Obj)} {σ : St} {H : Hp} {s : Shared} {E : Value → Shared → Prop}
theorem Inv.wish (I : Inv X pins σ H s) (E : Value → Shared → Prop) : Inv (X.wish E) pins σ H s := ⟨I.ok.wish E, I.os, I.bare, I.base, I.loc, I.cell, I.free, I.freeC, I.pin, I.hok, I.len⟩
theorem Inv.unwish (I : Inv (X.wish E) pins σ H s) : Inv X pins σ H s := ⟨I.ok.unwish, I.os, I.bare, I.base, I.loc, I.cell, I.free, I.freeC, I.pin, I.hok, I.len⟩
theorem SP.unwish {D : Ends} {f : Flow} {s' : Shared} (h : SP (X.wish E) pins D f s') : SP X pins D f s' := by
  cases f with
  | next => obtain ⟨σ', H', I, q⟩ := h; exact ⟨σ', H', I.unwish, q⟩
  | brk => obtain ⟨σ', H', I, q⟩ := h; exact ⟨σ', H', I.unwish, q⟩
  | cont => obtain ⟨σ', H', I, q⟩ := h; exact ⟨σ', H', I.unwish, q⟩
  | ret u => obtain ⟨v, σ', H', I, r, q⟩ := h; exact ⟨v, σ', H', I.unwish, r, q⟩
theorem PE.nox {e : Expr} {t : TE} (h : PE X.nox e t) : PE X e t := fun pins s σ H Q I hw =>
  wpAny_mono (h pins s σ H Q (I.wish _) hw) (fun _ _ ⟨v, H', I', r, q⟩ => ⟨v, H', I'.unwish, r, q⟩) fun _ _ z => False.elim z
theorem PT.nox {e : Expr} {t : TT} (h : PT X.nox e t) : PT X e t := fun pins s σ H Q I hw =>
  wpAny_mono (h pins s σ H Q (I.wish _) hw) (fun _ _ ⟨H', I', q⟩ => ⟨H', I'.unwish, q⟩) fun _ _ z => False.elim z
theorem PSs.nox {st : List Stmt} {t : TS} (h : PSs X.nox st t) : PSs X st t := fun pins s σ H D I hw =>
  wpAny_mono (h pins s σ H D (I.wish _) hw) (fun _ _ q => q.unwish) fun _ _ z => False.elim z
end
section
variable {X : Cx} {st : Stmt} {rest : List Stmt} {t u : TS} {e : Expr} {te : TE} {pos : Pos}
noncomputable def tNext : TS := fun D σ H => D.nx σ H
noncomputable def tSeq (t u : TS) : TS := fun D σ H => t { D with nx := u D } σ H
theorem pss_nil : PSs X [] tNext := fun _ _ σ H _ I h => wpAny_execs_nil ⟨σ, H, I, h⟩
theorem pss_cons (h1 : PS X st t) (h2 : PSs X rest u) : PSs X (st :: rest) (tSeq t u) := by
  intro pins s σ H D I h
  refine wpAny_execs_cons (thn (h1 pins s σ H { D with nx := u D } I h) fun f s1 q => ?_)
  cases f with
  | next =>
    obtain ⟨σ', H', I', q⟩ := q
    exact h2 pins s1 σ' H' D I' q
  | ret v => exact q
  | brk => exact q
  | cont => exact q
theorem pss_one (h1 : PS X st t) : PSs X [st] t := by
  intro pins s σ H D I h
  refine wpAny_execs_cons (thn (h1 pins s σ H D I h) fun f s1 q => ?_)
  cases f with
  | next => exact wpAny_execs_nil q
  | ret v => exact q
  | brk => exact q
  | cont => exact q
theorem Inv.quiet {pins : List (Addr × Obj)} {σ : St} {H : Hp} {s : Shared} (I : Inv X pins σ H s) : interactive X.env = false := by simp [interactive, I.ok.kind]
noncomputable def tDrop (te : TE) : TS := fun D σ H => te σ H fun _ H1 => D.nx σ H1
theorem ps_expr (he : PE X e te) (hs : swapsWith e none pos.line X.env = pure false := by rfl) : PS X (.Expr e pos) (tDrop te) := by
  intro pins s σ H D I h
  exact wpAny_Expr_any (thn (he pins s σ H _ I h) fun v s1 ⟨x, H1, I1, r1, q1⟩ => ⟨σ, H1, I1, q1⟩) I.quiet hs
noncomputable def tRet (te : TE) : TS := fun D σ H => te σ H D.rt
theorem ps_ret (he : PE X e te) : PS X (.Return (some e) pos) (tRet te) := by
  intro pins s σ H D I h
  exact wpAny_Return_some (thn (he pins s σ H _ I h) fun v s1 ⟨x, H1, I1, r1, q1⟩ => ⟨x, σ, H1, I1, r1, q1⟩)
noncomputable def tIfS (c : TT) (t u : TS) : TS := fun D σ H => c σ H fun b H1 => if b = true then t D σ H1 else u D σ H1
theorem ps_if {c : Expr} {a b : List Stmt} {tc : TT} (hc : PT X c tc) (ha : PSs X a t) (hb : PSs X b u) : PS X (.If c a b pos) (tIfS tc t u) := by
  intro pins s σ H D I h
  refine wpAny_If (thn (hc pins s σ H _ I h) fun d s1 ⟨H1, I1, q1⟩ => ?_)
  cases d with
  | true => exact ha pins s1 σ H1 D I1 q1
  | false => exact hb pins s1 σ H1 D I1 q1
end
noncomputable abbrev TG := V → St → Hp → (St → Hp → Prop) → Prop
noncomputable def PG (X : Cx) (target : Expr) (t : TG) : Prop :=
  ∀ (pins : List (Addr × Obj)) (s : Shared) (σ : St) (H : Hp) (v : V) (u : Value) (Q : St → Hp → Prop), Inv X pins σ H s → RelV v u → t v σ H Q →
    wpAny (model X.prog X.w) X.A (assign target X.env u) (fun _ s' => ∃ σ' H', Inv X pins σ' H' s' ∧ Q σ' H') X.xe s
noncomputable abbrev TSet := V → V → V → Hp → (Hp → Prop) → Prop
noncomputable def PSet (X : Cx) (t : TSet) : Prop :=
  ∀ (pins : List (Addr × Obj)) (s : Shared) (σ : St) (H : Hp) (o i v : V) (ov iv u : Value) (Q : Hp → Prop), Inv X pins σ H s → RelV o ov → RelV i iv → RelV v u → t o i v H Q →
    wpAny (model X.prog X.w) X.A (setItem ov iv u) (fun _ s' => ∃ H', Inv X pins σ H' s' ∧ Q H') X.xe s
section
variable {X : Cx} {pos : Pos}
noncomputable def gName (i : Nat) : TG := fun v σ H Q => Q (σ.set i (some v)) H
theorem pg_name {i : Nat} {x : Str} (hN : X.N.Nodup) (hi : X.N[i]? = some x) (hx : Loc X.env.scope x) (hf : X.fn x = true ∨ X.env.scope.names.lookup x = some .local := by first | exact .inl rfl | exact .inr rfl | assumption) : PG X (.Name x pos) (gName i) := by
  intro pins s σ H v u Q I r h
  exact wpAny_assign_Name (store_ok I hN hi hx r (fun s' I' => ⟨_, H, I', h⟩) hf)
noncomputable def gSub (to ti : TE) (t : TSet) : TG := fun v σ H Q => to σ H fun o H1 => ti σ H1 fun i H2 => t o i v H2 fun H3 => Q σ H3
theorem pg_sub {o i : Expr} {to ti : TE} {t : TSet} (ho : PE X o to) (hi : PE X i ti) (hs : PSet X t)
    (ha : ∀ v, assign (.Subscript o i pos) X.env v = (do
      let ov ← holding [v] (eval o X.env)
      let iv ← holding [v, ov] (eval i X.env)
      standAt pos
      holding [v, ov, iv] (setItem ov iv v)
      release [v, ov, iv] []) := by intro _; rfl) : PG X (.Subscript o i pos) (gSub to ti t) := by
  intro pins s σ H v u Q I r h
  rw [ha]
  refine wpAny_bind (wpAny_holding (thn (ho pins s σ H _ I h) fun ov s1 ⟨x, H1, I1, r1, q1⟩ => ?_))
  refine wpAny_bind (wpAny_holding (thn (hi pins s1 σ H1 _ I1 q1) fun iv s2 ⟨y, H2, I2, r2, q2⟩ => ?_))
  refine wpAny_bind (wpAny_standAt (wpAny_bind (wpAny_holding (thn (hs pins s2 σ H2 x y v ov iv u _ I2 r1 r2 r q2) fun _ s3 ⟨H3, I3, q3⟩ => ?_))))
  exact wpAny_release ⟨σ, H3, I3, q3⟩
noncomputable def tAsg (te : TE) (g : TG) : TS := fun D σ H => te σ H fun x H1 => g x σ H1 D.nx
theorem ps_asg {tg e : Expr} {te : TE} {g : TG} (he : PE X e te) (hg : PG X tg g) (hs : swapsWithSole [tg] e pos.line X.env = pure false := by rfl) (hw : swappedStores [tg] e X.env = pure none := by rfl)
    (h1 : (assignEach [tg] X.env).map (·.2) = [assign tg X.env] := by rfl) : PS X (.Assign [tg] e pos) (tAsg te g) := by
  intro pins s σ H D I h
  refine wpAny_Assign_stores (thn (he pins s σ H _ I h) fun v s1 ⟨x, H1, I1, r1, q1⟩ => ?_) hs hw
  rw [h1]
  exact thn (hg pins s1 σ H1 x v _ I1 r1 q1) fun _ s2 q => q
theorem ps_set {i : Nat} {x : Str} {e : Expr} {te : TE} {pos' : Pos} (hN : X.N.Nodup) (hi : X.N[i]? = some x) (hx : Loc X.env.scope x) (he : PE X e te) (hs : swapsWith e (some (.Name x pos')) pos.line X.env = pure false := by rfl) (hf : X.fn x = true ∨ X.env.scope.names.lookup x = some .local := by first | exact .inl rfl | exact .inr rfl | assumption) :
    PS X (.Assign [.Name x pos'] e pos) (tAsg te (gName i)) := by
  intro pins s σ H D I h
  refine wpAny_Assign_Name (thn (he pins s σ H _ I h) fun v s1 ⟨y, H1, I1, r1, q1⟩ => ?_) hs
  exact store_ok I1 hN hi hx r1 (fun s2 I2 => ⟨_, H1, I2, q1⟩) hf
end
section
variable {X : Cx} {pos : Pos}
noncomputable def tWhile (c : TT) (tb : TS) : TS := fun D σ H => ∃ W : Nat → St → Hp → Prop, (∃ m, W m σ H) ∧ ∀ m σ H, W m σ H →
  c σ H fun b H1 => if b = true then ∃ N : St → Hp → Prop, (∀ σ' H', N σ' H' → ∃ m', m' < m ∧ W m' σ' H') ∧ tb { D with nx := N, ct := N, bk := D.nx } σ H1 else D.nx σ H1
theorem ps_while {c : Expr} {body : List Stmt} {tc : TT} {tb : TS} (hp : PassesOwn (model X.prog X.w) X.A X.env X.xe) (hc : PT X c tc) (hb : PSs X body tb) : PS X (.While c body [] pos) (tWhile tc tb) := by
  intro pins s σ H D I h
  obtain ⟨W, ⟨m0, w0⟩, turn⟩ := h
  refine wpAny_While (codeAny_whileLoop (fun n s' => ∃ σ' H', Inv X pins σ' H' s' ∧ W n σ' H') ?_ m0 ⟨σ, H, I, w0⟩)
  rintro n s1 ⟨σ1, H1, I1, w1⟩
  refine wpAny_passesOwn hp (thn (hc pins s1 σ1 H1 _ I1 (turn n σ1 H1 w1)) fun b s2 ⟨H2, I2, q2⟩ => ?_)
  cases b with
  | true =>
    obtain ⟨N, hN, q2⟩ := q2
    rw [if_pos rfl]
    refine wpAny_passesOwn hp (thn (hb pins s2 σ1 H2 _ I2 q2) fun f s3 q3 => ?_)
    cases f with
    | next =>
      obtain ⟨σ3, H3, I3, n3⟩ := q3
      obtain ⟨m', hm, w3⟩ := hN σ3 H3 n3
      exact ⟨m', hm, σ3, H3, I3, w3⟩
    | cont =>
      obtain ⟨σ3, H3, I3, n3⟩ := q3
      obtain ⟨m', hm, w3⟩ := hN σ3 H3 n3
      exact ⟨m', hm, σ3, H3, I3, w3⟩
    | brk => exact q3
    | ret v => exact q3
  | false =>
    rw [if_neg Bool.false_ne_true]
    exact wpAny_execs_nil ⟨σ1, H2, I2, q2⟩
end
structure It where
  go : Nat → Hp → Prop
  yld : Nat → Hp → V → Hp → Prop
  stop : Nat → Hp → Prop
noncomputable def FpOk (X : Cx) (pins : List (Addr × Obj)) (H : Hp) (b : Addr) : Prop :=
  H b = none ∧ b ≠ X.env.locals ∧ b ∉ X.fs ∧ (b ∈ X.ex ∨ X.s₀.heap.objs.size ≤ b) ∧ (∀ x c, X.env.cells.lookup x = some c → c ≠ b) ∧ ∀ p ∈ X.pn ++ pins, p.1 ≠ b
theorem Inv.fpOk {X : Cx} {pins : List (Addr × Obj)} {σ : St} {H H' : Hp} {s : Shared} {b : Addr} (I : Inv X pins σ H s) (hb : s.heap.objs.size ≤ b) (hn : H' b = none) : FpOk X pins H' b := by
  refine ⟨hn, Nat.ne_of_gt (Nat.lt_of_lt_of_le I.lt hb), I.nofs hb, .inr (Nat.le_trans I.sz hb), fun x c e z => ?_, fun p hp z => ?_⟩
  · obtain ⟨v, q⟩ := I.cell x c e
    exact absurd (Nat.lt_of_lt_of_le q.lt (by rw [z]; exact hb)) (Nat.lt_irrefl _)
  · exact absurd (Nat.lt_of_lt_of_le (Heap.lt_size (I.pin p hp).1) (by rw [z]; exact hb)) (Nat.lt_irrefl _)
structure Turn (P : Program) (w : World) (K : PySem.W.Frag) (tg : Expr) (J : It) (fp : List Addr) (it : Addr) (tn : Nat → Heap → Prop) : Prop where
  mem : it ∈ fp
  obj : ∀ i h, tn i h → ∀ b ∈ fp, ∃ o, h.get? b = some o ∧ ∀ v, o.data ≠ .cell v
  keep : ∀ i h h', tn i h → (∀ b ∈ fp, ∀ o, h.get? b = some o → h'.get? b = some o) → tn i h'
  item : ∀ (X : Cx), X.prog = P → X.w = w → X.K = K → X.calm = true → ∀ (i : Nat) (pins : List (Addr × Obj)) (s : Shared) (σ : St) (H : Hp) (E : Value → Shared → Prop), Inv X pins σ H s → (∀ b ∈ fp, FpOk X pins H b) → tn i s.heap → J.go i H →
    wpAny (model P w) X.A (pyNext (.ref it)) (fun r s1 => ∃ u, r = some u ∧
      wpAny (model P w) X.A (letOwnedTupleGo tg (.ref it) u) (fun _ s2 => ∃ x H', Inv X pins σ H' s2 ∧ RelV x u ∧ J.yld i H x H' ∧ tn (i + 1) s2.heap ∧ ∀ b ∈ fp, H' b = none) E s1) E s
  done : ∀ (X : Cx), X.prog = P → X.w = w → X.K = K → X.calm = true → ∀ (i : Nat) (pins : List (Addr × Obj)) (s : Shared) (σ : St) (H : Hp) (E : Value → Shared → Prop), Inv X pins σ H s → (∀ b ∈ fp, FpOk X pins H b) → tn i s.heap → J.stop i H →
    wpAny (model P w) X.A (pyNext (.ref it)) (fun r s1 => r = none ∧ Inv X pins σ H s1) E s
  self : ∀ (A : Around) (i : Nat) (s : Shared) (Q : Value → Shared → Prop) (E : Value → Shared → Prop), tn i s.heap → Q (.ref it) s → wpAny (model P w) A (pyIter (.ref it)) Q E s
noncomputable abbrev TI := St → Hp → (It → Hp → Prop) → Prop
noncomputable def PIE (X : Cx) (pins : List (Addr × Obj)) (σ : St) (tg : Expr) (R : It → Hp → Prop) (itv : Value) (s2 : Shared) : Prop :=
  ∃ (it : Addr) (fp : List Addr) (tn : Nat → Heap → Prop) (J : It) (H' : Hp), itv = .ref it ∧ Inv X pins σ H' s2 ∧ Turn X.prog X.w X.K tg J fp it tn ∧ tn 0 s2.heap ∧ (∀ b ∈ fp, FpOk X pins H' b) ∧ R J H'
noncomputable def PI (X : Cx) (tg iter : Expr) (wi : TI) : Prop :=
  ∀ (pins : List (Addr × Obj)) (s : Shared) (σ : St) (H : Hp) (R : It → Hp → Prop), Inv X pins σ H s → wi σ H R →
    wpAny (model X.prog X.w) X.A (eval iter X.env) (fun v s1 => wpAny (model X.prog X.w) X.A (pyIter v) (PIE X pins σ tg R) X.xe s1) X.xe s
theorem go_of {M : Model} {A : Around} {E : Value → Shared → Prop} {s : Shared} {tg : Expr} {it : Addr} {u : Value} {o : Obj} {n : String} {vs : Array Value} {Q : Unit → Shared → Prop} (ho : s.heap.get? it = some o) (hc : o.cls = .type n) (hd : o.data = .fields vs)
    (hn : ["enumerate", "zip", "dict_itemiterator", "dict_reverseitemiterator", "odict_iterator", "itertools.zip_longest", "itertools.pairwise"].contains n = false) (hQ : Q () s) : wpAny M A (letOwnedTupleGo tg (.ref it) u) Q E s := by
  unfold letOwnedTupleGo
  cases tg <;> first
    | exact wpAny_pure hQ
    | (cases u <;> first
        | exact wpAny_pure hQ
        | (refine wpAny_bind (wpAny_load ho ?_)
           rw [hc, hd]
           show wpAny M A (if (["enumerate", "zip", "dict_itemiterator", "dict_reverseitemiterator", "odict_iterator", "itertools.zip_longest", "itertools.pairwise"].contains n && vs[0]? == some (rawInt _)) = true then _ else _) Q E s
           rw [if_neg (by intro h; rw [hn, Bool.false_and] at h; cases h)]
           exact wpAny_pure hQ))
noncomputable def Itl (K : PySem.W.Frag) (a : Addr) : It :=
  ⟨fun i H => ∃ xs x, SqL K H a xs ∧ xs[i]? = some x, fun i H x H' => H' = H ∧ ∀ xs, SqL K H a xs → xs[i]? = some x, fun i H => ∃ xs, SqL K H a xs ∧ xs.length ≤ i⟩
noncomputable def Itt (K : PySem.W.Frag) (a : Addr) : It :=
  ⟨fun i H => ∃ xs x, SqT K H a xs ∧ xs[i]? = some x, fun i H x H' => H' = H ∧ ∀ xs, SqT K H a xs → xs[i]? = some x, fun i H => ∃ xs, SqT K H a xs ∧ xs.length ≤ i⟩
noncomputable def Itr (lo : Int) (n : Nat) : It := ⟨fun i _ => i < n, fun i H x H' => H' = H ∧ x = .int (lo + i), fun i _ => n ≤ i⟩
theorem turn_list {P : Program} {w : World} {K : PySem.W.Frag} {tg : Expr} (a it : Addr) : Turn P w K tg (Itl K a) [it] it (fun i h => h.IsListIter it a i) where
  mem := by simp
  obj := fun i h st b hb => by
    have e : b = it := by simpa using hb
    subst e
    obtain ⟨o, e, c, d⟩ := st
    exact ⟨o, e, fun v z => by rw [d] at z; cases z⟩
  keep := fun i h h' st k => st.at fun o e => k it (by simp) o e
  item := by
    intro X hP hw hK hc i pins s σ H E I hf st hg
    subst hP hw hK
    obtain ⟨xs, x, hq, hx⟩ := hg
    obtain ⟨its, rv, p, hz⟩ := I.list hq
    obtain ⟨u, hu, ru⟩ := rv.get hx
    obtain ⟨f0, f1, f2, f3, f4, f5⟩ := hf it (by simp)
    refine wpAny_pyNext_list_item st p.isList (x := u) (by simpa using hu) fun h' st' sb => ?_
    have I1 : Inv X pins σ H { s with heap := h' } := I.turned (t' := s.toks) (fun b o hb e => (sb.2 b hb).trans e) f0 f1 f3 f4 f5
    obtain ⟨o, e, c, d⟩ := id st'
    exact ⟨u, rfl, go_of (s := { s with heap := h' }) e c d (by decide) ⟨x, H, I1, ru, ⟨rfl, fun ys hy => by rw [I.list_inj hy hq]; exact hx⟩, st', fun b hb => (hf b hb).1⟩⟩
  done := by
    intro X hP hw hK hc i pins s σ H E I hf st hg
    subst hP hw hK
    obtain ⟨xs, hq, hx⟩ := hg
    obtain ⟨its, rv, p, hz⟩ := I.list hq
    obtain ⟨f0, f1, f2, f3, f4, f5⟩ := hf it (by simp)
    have hl := rv.length
    exact wpAny_pyNext_list_end (I.ok.hd hc) st p.isList (by simp; omega) fun h' eb => ⟨rfl, I.turned (t' := s.toks) (fun b o hb e => eb b o hb e) f0 f1 f3 f4 f5⟩
  self := fun _ _ _ _ _ st h => wpAny_pyIter_listiter st h
theorem turn_tuple {P : Program} {w : World} {K : PySem.W.Frag} {tg : Expr} (a it : Addr) : Turn P w K tg (Itt K a) [it] it (fun i h => h.IsTupleIter it a i) where
  mem := by simp
  obj := fun i h st b hb => by
    have e : b = it := by simpa using hb
    subst e
    obtain ⟨o, e, c, d⟩ := st
    exact ⟨o, e, fun v z => by rw [d] at z; cases z⟩
  keep := fun i h h' st k => st.at fun o e => k it (by simp) o e
  item := by
    intro X hP hw hK hc i pins s σ H E I hf st hg
    subst hP hw hK
    obtain ⟨xs, x, hq, hx⟩ := hg
    obtain ⟨its, rv, p, hz⟩ := I.tuple hq
    obtain ⟨u, hu, ru⟩ := rv.get hx
    obtain ⟨f0, f1, f2, f3, f4, f5⟩ := hf it (by simp)
    refine wpAny_pyNext_tuple_item st (show s.heap.IsTuple a its.toArray from p) (x := u) (by simpa using hu) fun h' st' sb => ?_
    have I1 : Inv X pins σ H { s with heap := h' } := I.turned (t' := s.toks) (fun b o hb e => (sb.2 b hb).trans e) f0 f1 f3 f4 f5
    obtain ⟨o, e, c, d⟩ := id st'
    exact ⟨u, rfl, go_of (s := { s with heap := h' }) e c d (by decide) ⟨x, H, I1, ru, ⟨rfl, fun ys hy => by rw [I.tuple_inj hy hq]; exact hx⟩, st', fun b hb => (hf b hb).1⟩⟩
  done := by
    intro X hP hw hK hc i pins s σ H E I hf st hg
    subst hP hw hK
    obtain ⟨xs, hq, hx⟩ := hg
    obtain ⟨its, rv, p, hz⟩ := I.tuple hq
    obtain ⟨f0, f1, f2, f3, f4, f5⟩ := hf it (by simp)
    have hl := rv.length
    exact wpAny_pyNext_tuple_end (I.ok.hd hc) st (show s.heap.IsTuple a its.toArray from p) (by simp; omega) fun h' eb => ⟨rfl, I.turned (t' := s.toks) (fun b o hb e => eb b o hb e) f0 f1 f3 f4 f5⟩
  self := fun _ _ _ _ _ st h => wpAny_pyIter_tupleiter st h
theorem turn_range {P : Program} {w : World} {K : PySem.W.Frag} {tg : Expr} (it : Addr) (lo : Int) (n : Nat) : Turn P w K tg (Itr lo n) [it] it (fun i h => IsRangeIter h it (lo + (i : Nat) * 1) ((n : Int) - (i : Nat)) 1) where
  mem := by simp
  obj := fun i h st b hb => by
    have e : b = it := by simpa using hb
    subst e
    exact ⟨_, st, fun v z => by
      have z' : Data.fields _ = Data.cell v := z
      cases z'⟩
  keep := fun i h h' st k => k it (by simp) _ st
  item := by
    intro X hP hw hK hc i pins s σ H E I hf st hg
    subst hP hw hK
    obtain ⟨f0, f1, f2, f3, f4, f5⟩ := hf it (by simp)
    have W := Walks.range (prog := X.prog) (w := X.w) (I.ok.hd hc) it lo 1 n
    refine W.item i s _ _ hg st fun v h' tk hv st' kk => ?_
    obtain ⟨t, rfl⟩ := hv
    have I1 : Inv X pins σ H { s with heap := h', toks := tk } := I.turned (fun b o hb e => kk b o (by simpa using hb) e) f0 f1 f3 f4 f5
    refine ⟨_, rfl, go_of (s := { s with heap := h', toks := tk }) (n := "range_iterator") st' rfl rfl (by decide) ⟨.int (lo + i), H, I1, ⟨t, ?_⟩, ⟨rfl, rfl⟩, st', fun b hb => (hf b hb).1⟩⟩
    rw [Int.mul_one]
  done := by
    intro X hP hw hK hc i pins s σ H E I hf st hg
    subst hP hw hK
    obtain ⟨f0, f1, f2, f3, f4, f5⟩ := hf it (by simp)
    exact wpAny_pyNext_range_end (I.ok.hd hc) st (by have : n ≤ i := hg; omega) fun h' eb => ⟨rfl, I.turned (t' := s.toks) (fun b o hb e => eb b o hb e) f0 f1 f3 f4 f5⟩
  self := fun _ _ _ _ _ st h => wpAny_pyIter_rangeiter st h
end L2
namespace L2
open PySem PySem.Spec PyProof.Rows
section
variable {X : Cx} {tg : Expr}
theorem range_it {pins : List (Addr × Obj)} {σ : St} {H : Hp} {s : Shared} {R : It → Hp → Prop} {E : Value → Shared → Prop} {lo hi : Int} {t u v : Tok} {tk : Nat} (I : Inv X pins σ H s) (h1 : -(2 ^ 62) ≤ lo) (h2 : lo < 2 ^ 62) (h3 : -(2 ^ 62) ≤ hi) (h4 : hi < 2 ^ 62)
    (q : R (Itr lo (hi - lo).toNat) H) : wpAny (model X.prog X.w) X.A (pyIter (.ref s.heap.objs.size)) (PIE X pins σ tg R) E { s with heap := s.heap.push { cls := .type "range", data := .fields #[.int lo t, .int hi u, .int 1 v] }, toks := tk } := by
  refine wpAny_pyIter_range (IsRange.new ..) (small_one h1 h2 h3 h4) ?_
  have I1 : Inv X pins σ H { s with heap := s.heap.push { cls := .type "range", data := .fields #[.int lo t, .int hi u, .int 1 v] }, toks := tk } := I.kept fun b o e => Heap.get?_push_of_some _ e
  refine ⟨(s.heap.push { cls := .type "range", data := .fields #[.int lo t, .int hi u, .int 1 v] }).objs.size, [(s.heap.push { cls := .type "range", data := .fields #[.int lo t, .int hi u, .int 1 v] }).objs.size], _, _, H, rfl,
    I1.kept (t' := tk) fun b o e => Heap.get?_push_of_some _ e, turn_range _ lo (hi - lo).toNat, ?_, fun b hb => ?_, q⟩
  · have e1 : lo + ((0 : Nat) : Int) * 1 = lo := by simp
    have e2 : (((hi - lo).toNat : Nat) : Int) - ((0 : Nat) : Int) = Builtin.Range.rangeSize lo hi 1 := by rw [rangeSize_one]; split <;> omega
    show IsRangeIter _ _ (lo + ((0 : Nat) : Int) * 1) ((((hi - lo).toNat : Nat) : Int) - ((0 : Nat) : Int)) 1
    rw [e1, e2]
    exact Heap.get?_push_size _ rfl
  · have e : b = (s.heap.push { cls := .type "range", data := .fields #[.int lo t, .int hi u, .int 1 v] }).objs.size := by simpa using hb
    subst e
    exact I1.fpOk (Nat.le_refl _) (I1.hok.fresh (Nat.le_refl _))
noncomputable def iRng1 (ta : TA) : TI := fun σ H R => ta σ H fun vs H1 => ∃ j : Int, vs = [.int j] ∧ -(2 ^ 62) ≤ j ∧ j < 2 ^ 62 ∧ R (Itr 0 j.toNat) H1
theorem pi_range1 {a : Expr} {ta : TA} {p pos : Pos} (hg : Gl X "range") (hm : X.mg "range" = none) (ha : PA X [a] ta) (hs : starEach [a] X.env = [(false, eval a X.env)] := by rfl) : PI X tg (.Call (.Name "range" p) [a] [] pos) (iRng1 ta) := by
  intro pins s σ H R I h
  refine Call_ (ld_blt I hg hm boot_range (PyProof.Rows.callWith_type1 (thn (ha pos pins s σ H _ I h) fun us s1 ⟨vs, H1, I1, r1, q1⟩ => ?_) hs rfl))
  obtain ⟨j, e, q1, q2, q⟩ := q1
  subst e
  cases r1 with
  | cons r rr =>
    cases rr
    obtain ⟨t, rfl⟩ := r
    exact call_range_1 (range_it I1 (by omega) (by omega) q1 q2 (by simpa using q))
noncomputable def tFor (wi : TI) (g : TG) (tb : TS) : TS := fun D σ H => wi σ H fun J H1 => ∃ W : Nat → Nat → St → Hp → Prop, (∃ m, W 0 m σ H1) ∧ ∀ i m σ H, W i m σ H →
  (J.stop i H ∧ D.nx σ H) ∨ (J.go i H ∧ ∃ N : St → Hp → Prop, (∀ σ' H', N σ' H' → ∃ m', m' < m ∧ W (i + 1) m' σ' H') ∧ ∀ x H', J.yld i H x H' → g x σ H' fun σ2 H2 => tb { D with nx := N, ct := N, bk := D.nx } σ2 H2)
noncomputable def pinsAt (fp : List Addr) (h : Heap) : List (Addr × Obj) := fp.filterMap fun b => (h.get? b).map fun o => (b, o)
theorem mem_pinsAt {fp : List Addr} {h : Heap} {b : Addr} {o : Obj} (hb : b ∈ fp) (e : h.get? b = some o) : (b, o) ∈ pinsAt fp h := List.mem_filterMap.mpr ⟨b, hb, by rw [e]; rfl⟩
theorem of_pinsAt {fp : List Addr} {h : Heap} {p : Addr × Obj} (hp : p ∈ pinsAt fp h) : p.1 ∈ fp ∧ h.get? p.1 = some p.2 := by
  obtain ⟨b, hb, e⟩ := List.mem_filterMap.mp hp
  cases q : h.get? b with
  | none => rw [q] at e; cases e
  | some o =>
    rw [q] at e
    have e' : (b, o) = p := Option.some.inj e
    subst e'
    exact ⟨hb, q⟩
theorem Inv.pinned {pins : List (Addr × Obj)} {σ : St} {H : Hp} {s : Shared} {fp : List Addr} (I : Inv X pins σ H s) (hf : ∀ b ∈ fp, FpOk X pins H b) (ho : ∀ b ∈ fp, ∃ o, s.heap.get? b = some o ∧ ∀ v, o.data ≠ .cell v) : Inv X (pins ++ pinsAt fp s.heap) σ H s :=
  I.pins_of fun p hp => (List.mem_append.mp hp).elim (fun z => I.pin p (List.mem_append_right _ z)) fun z => by
    obtain ⟨hb, e⟩ := of_pinsAt z
    obtain ⟨f0, f1, f2, _⟩ := hf p.1 hb
    obtain ⟨o, e', d⟩ := ho p.1 hb
    rw [e] at e'; cases e'
    exact ⟨e, f0, f1, f2, d⟩
theorem Inv.unpinned {pins pl : List (Addr × Obj)} {σ : St} {H : Hp} {s : Shared} (I : Inv X (pins ++ pl) σ H s) : Inv X pins σ H s := I.pins_of fun p hp => I.pin p (List.mem_append_right _ (List.mem_append_left _ hp))
theorem ps_for {iter : Expr} {body : List Stmt} {wi : TI} {g : TG} {tb : TS} {pos : Pos} (hp : PassesOwn (model X.prog X.w) X.A X.env X.xe) (hc : X.calm = true) (hi : PI X tg iter wi) (hg : PG X tg g) (hb : PSs X body tb)
    (hs : ∀ x, foldedSetIterable iter X.env x = pure x := by intro _; rfl) : PS X (.For tg iter body [] pos) (tFor wi g tb) := by
  intro pins s σ H D I h
  refine wpAny_For (thn (hi pins s σ H _ I h) fun v s1 h1 => thn h1 fun itv s2 h2 => ?_) hs
  obtain ⟨it, fp, tn, J, H2, e, I2, T, st2, f2, W, ⟨m0, w0⟩, turn⟩ := h2
  subst e
  have stat : ∀ {H' : Hp}, (∀ b ∈ fp, H' b = none) → ∀ b ∈ fp, FpOk X pins H' b := fun hn b hb => ⟨hn b hb, (f2 b hb).2⟩
  refine codeAny_forLoop_any (fun n s' => ∃ i σ' H', Inv X pins σ' H' s' ∧ tn i s'.heap ∧ (∀ b ∈ fp, H' b = none) ∧ W i n σ' H') ?_ m0 ⟨0, σ, H2, I2, st2, fun b hb => (f2 b hb).1, w0⟩
  rintro n s3 ⟨i, σ3, H3, I3, st3, fr3, w3⟩
  rcases turn i n σ3 H3 w3 with ⟨stop, qn⟩ | ⟨go, N, hN, step⟩
  · refine wpAny_passesOwn hp (thn (T.done X rfl rfl rfl hc i pins s3 σ3 H3 X.xe I3 (stat fr3) st3 stop) fun r s4 ⟨hr, I4⟩ => ?_)
    subst hr
    exact wpAny_execs_nil ⟨σ3, H3, I4, qn⟩
  · refine wpAny_passesOwn hp (thn (T.item X rfl rfl rfl hc i pins s3 σ3 H3 X.xe I3 (stat fr3) st3 go) fun r s4 ⟨u, hr, h4⟩ => ?_)
    subst hr
    refine wpAny_passesOwn hp (thn h4 fun _ s5 ⟨x, H5, I5, r5, y5, st5, fr5⟩ => ?_)
    have I5' := I5.pinned (stat fr5) (T.obj _ _ st5)
    refine wpAny_passesOwn hp (thn (hg _ s5 σ3 H5 x u _ I5' r5 (step x H5 y5)) fun _ s6 ⟨σ6, H6, I6, q6⟩ => ?_)
    refine wpAny_passesOwn hp (thn (hb _ s6 σ6 H6 _ I6 q6) fun f s7 q7 => ?_)
    have again : ∀ {σ7 : St} {H7 : Hp}, Inv X (pins ++ pinsAt fp s5.heap) σ7 H7 s7 → N σ7 H7 → ∃ m, m < n ∧ ∃ i σ' H', Inv X pins σ' H' s7 ∧ tn i s7.heap ∧ (∀ b ∈ fp, H' b = none) ∧ W i m σ' H' := fun {σ7 H7} I7 n7 => by
      obtain ⟨m', hm, w7⟩ := hN σ7 H7 n7
      refine ⟨m', hm, i + 1, σ7, H7, I7.unpinned, T.keep _ _ _ st5 fun b hb o e => (I7.pin (b, o) (List.mem_append_right _ (List.mem_append_right _ (mem_pinsAt hb e)))).1, fun b hb => ?_, w7⟩
      obtain ⟨o, e, d⟩ := T.obj _ _ st5 b hb
      exact (I7.pin (b, o) (List.mem_append_right _ (List.mem_append_right _ (mem_pinsAt hb e)))).2.1
    cases f with
    | next => obtain ⟨σ7, H7, I7, n7⟩ := q7; exact again I7 n7
    | cont => obtain ⟨σ7, H7, I7, n7⟩ := q7; exact again I7 n7
    | brk => obtain ⟨σ7, H7, I7, q7⟩ := q7; exact ⟨σ7, H7, I7.unpinned, q7⟩
    | ret v => obtain ⟨x7, σ7, H7, I7, r7, q7⟩ := q7; exact ⟨x7, σ7, H7, I7.unpinned, r7, q7⟩
end
end L2
namespace L2
open PySem PySem.Spec PyProof.Rows
noncomputable abbrev R2 := V → V → Hp → VK → Prop
noncomputable def OpR (X : Cx) (f : Value → Value → Sem Value) (r : R2) : Prop :=
  ∀ (pins : List (Addr × Obj)) (s : Shared) (σ : St) (H : Hp) (x y : V) (v u : Value) (Q : VK), Inv X pins σ H s → RelV x v → RelV y u → r x y H Q →
    wpAny (model X.prog X.w) X.A (f v u) (EP X pins σ Q) X.xe s
noncomputable def UnR (X : Cx) (f : Value → Sem Value) (r : V → Hp → VK → Prop) : Prop :=
  ∀ (pins : List (Addr × Obj)) (s : Shared) (σ : St) (H : Hp) (x : V) (v : Value) (Q : VK), Inv X pins σ H s → RelV x v → r x H Q →
    wpAny (model X.prog X.w) X.A (f v) (EP X pins σ Q) X.xe s
noncomputable def CallR (X : Cx) (f : Value) (r : List V → Hp → VK → Prop) : Prop :=
  ∀ (pins : List (Addr × Obj)) (s : Shared) (σ : St) (H : Hp) (xs : List V) (us : List Value) (Q : VK), Inv X pins σ H s → Vals xs us → r xs H Q →
    wpAny (model X.prog X.w) X.A (call f us) (EP X pins σ Q) X.xe s
noncomputable def TruR (X : Cx) (r : V → Hp → (Bool → Hp → Prop) → Prop) : Prop :=
  ∀ (pins : List (Addr × Obj)) (s : Shared) (σ : St) (H : Hp) (x : V) (v : Value) (Q : Bool → Hp → Prop), Inv X pins σ H s → RelV x v → r x H Q →
    wpAny (model X.prog X.w) X.A (truthy v) (TP X pins σ Q) X.xe s
noncomputable def tOp (r : R2) (ta tb : TE) : TE := fun σ H Q => ta σ H fun x H1 => tb σ H1 fun y H2 => r x y H2 Q
noncomputable def tUn (r : V → Hp → VK → Prop) (ta : TE) : TE := fun σ H Q => ta σ H fun x H1 => r x H1 Q
noncomputable def rI (C : Int → Int → Prop) (g : Int → Int → V) : R2 := fun x y H Q => ∃ i j, x = .int i ∧ y = .int j ∧ C i j ∧ Q (g i j) H
noncomputable def rI0 (g : Int → Int → V) : R2 := fun x y H Q => ∃ i j, x = .int i ∧ y = .int j ∧ Q (g i j) H
noncomputable def rU (g : Int → V) : V → Hp → VK → Prop := fun x H Q => ∃ i, x = .int i ∧ Q (g i) H
section
variable {X : Cx} {a b c : Expr} {ta tb tc : TE} {pos : Pos}
theorem binT (ha : PE X a ta) (hb : PE X b tb) {pins : List (Addr × Obj)} {s : Shared} {σ : St} {H : Hp} {R : V → V → Hp → Prop} (I : Inv X pins σ H s)
    (h : ta σ H fun x H1 => tb σ H1 fun y H2 => R x y H2) {Q : Value → Shared → Prop} {f : Value → Value → Sem Value}
    (hf : ∀ v u s2 x y H2, Inv X pins σ H2 s2 → RelV x v → RelV y u → R x y H2 → wpAny (model X.prog X.w) X.A (f v u) Q X.xe s2) :
    wpAny (model X.prog X.w) X.A (eval a X.env) (fun v s₁ => wpAny (model X.prog X.w) X.A (eval b X.env) (fun u s₂ => wpAny (model X.prog X.w) X.A (f v u) Q X.xe s₂) X.xe s₁) X.xe s := by
  refine thn (ha pins s σ H _ I h) fun v s1 ⟨x, H1, I1, r1, q1⟩ => ?_
  refine thn (hb pins s1 σ H1 _ I1 q1) fun u s2 ⟨y, H2, I2, r2, q2⟩ => ?_
  exact hf v u s2 x y H2 I2 r1 r2 q2
theorem pe_op {op : Operator} {r : R2} (ho : OpR X (binaryOp op) r) (ha : PE X a ta) (hb : PE X b tb) : PE X (.BinOp a op b pos) (tOp r ta tb) := by
  intro pins s σ H Q I h
  exact wpAny_BinOp (binT ha hb I h fun v u s2 x y H2 I2 rx ry q => ho pins s2 σ H2 x y v u Q I2 rx ry q)
theorem pe_un {op : UnaryOp} {r : V → Hp → VK → Prop} (ho : UnR X (unaryOp op) r) (ha : PE X a ta) : PE X (.UnaryOp op a pos) (tUn r ta) := by
  intro pins s σ H Q I h
  exact UnaryOp_ (thn (ha pins s σ H _ I h) fun v s1 ⟨x, H1, I1, r1, q1⟩ => ho pins s1 σ H1 x v Q I1 r1 q1)
theorem opI {f : Value → Value → Sem Value} {C : Int → Int → Prop} {g : Int → Int → Int}
    (rule : ∀ (i j : Int) (t u : Tok) (s : Shared) (Q : Value → Shared → Prop) (E : Value → Shared → Prop), C i j → Q (.int (g i j) s.toks) { s with toks := s.toks + 1 } → wpAny (model X.prog X.w) X.A (f (.int i t) (.int j u)) Q E s) :
    OpR X f (rI C fun i j => .int (g i j)) := by
  intro pins s σ H x y v u Q I rx ry h
  obtain ⟨i, j, rfl, rfl, hc, q⟩ := h
  obtain ⟨t, rfl⟩ := rx
  obtain ⟨t', rfl⟩ := ry
  exact rule i j t t' s _ _ hc ⟨.int (g i j), H, I.tok _, ⟨_, rfl⟩, q⟩
theorem opI0 {f : Value → Value → Sem Value} {g : Int → Int → Int}
    (rule : ∀ (i j : Int) (t u : Tok) (s : Shared) (Q : Value → Shared → Prop) (E : Value → Shared → Prop), Q (.int (g i j) s.toks) { s with toks := s.toks + 1 } → wpAny (model X.prog X.w) X.A (f (.int i t) (.int j u)) Q E s) :
    OpR X f (rI0 fun i j => .int (g i j)) := by
  intro pins s σ H x y v u Q I rx ry h
  obtain ⟨i, j, rfl, rfl, q⟩ := h
  obtain ⟨t, rfl⟩ := rx
  obtain ⟨t', rfl⟩ := ry
  exact rule i j t t' s _ _ ⟨.int (g i j), H, I.tok _, ⟨_, rfl⟩, q⟩
theorem opB0 {f : Value → Value → Sem Value} {g : Int → Int → Bool}
    (rule : ∀ (i j : Int) (t u : Tok) (s : Shared) (Q : Value → Shared → Prop) (E : Value → Shared → Prop), Q (.bool (g i j)) s → wpAny (model X.prog X.w) X.A (f (.int i t) (.int j u)) Q E s) :
    OpR X f (rI0 fun i j => .bl (g i j)) := by
  intro pins s σ H x y v u Q I rx ry h
  obtain ⟨i, j, rfl, rfl, q⟩ := h
  obtain ⟨t, rfl⟩ := rx
  obtain ⟨t', rfl⟩ := ry
  exact rule i j t t' s _ _ ⟨.bl (g i j), H, I, rfl, q⟩
noncomputable def CDiv (i j : Int) : Prop := 0 < j ∧ j < 1073741824
noncomputable def CPow (i j : Int) : Prop := 0 ≤ j ∧ j ≤ 1000000 ∧ i.natAbs < 2 ^ 64
noncomputable def CMul (i j : Int) : Prop := (-(2 ^ 64) < i ∧ i < 2 ^ 64) ∨ (-(2 ^ 64) < j ∧ j < 2 ^ 64)
theorem CMul.ok {i j : Int} (h : CMul i j) : IntMulOk i j := by
  rcases h with ⟨h1, h2⟩ | ⟨h1, h2⟩
  · exact .of_left (intBits_le_64 h1 h2)
  · exact .of_right (intBits_le_64 h1 h2)
theorem op_add : OpR X (binaryOp .Add) (rI0 fun i j => .int (i + j)) := opI0 fun _ _ _ _ _ _ _ q => add_int q
theorem op_sub : OpR X (binaryOp .Sub) (rI0 fun i j => .int (i - j)) := opI0 fun _ _ _ _ _ _ _ q => sub_int q
theorem op_mul : OpR X (binaryOp .Mult) (rI CMul fun i j => .int (i * j)) := opI fun _ _ _ _ _ _ _ hc q => mul_int q hc.ok
theorem op_fdiv : OpR X (binaryOp .FloorDiv) (rI CDiv fun i j => .int (i / j)) := opI fun i j _ _ _ _ _ hc q => by
  have h1 : (0 : Int) < j := hc.1
  have h2 : j < 1073741824 := hc.2
  exact floordiv_int (by omega) (by rw [Int.fdiv_eq_ediv_of_nonneg i (by omega)]; exact q) (.inl (PyProof.noPylong_small (by omega)))
theorem op_mod : OpR X (binaryOp .Mod) (rI (fun _ j => 0 < j) fun i j => .int (i % j)) := opI fun i j _ _ _ _ _ hc q => by
  have h1 : (0 : Int) < j := hc
  exact mod_int' (by omega) (by rw [Int.fmod_eq_emod_of_nonneg i (by omega)]; exact q)
theorem op_pow : OpR X (binaryOp .Pow) (rI CPow fun i j => .int (i ^ j.toNat)) := opI fun _ _ _ _ _ _ _ hc q => pow_int_small hc.1 hc.2.1 hc.2.2 q
theorem unI {f : Value → Sem Value} {g : Int → Int}
    (rule : ∀ (i : Int) (t : Tok) (s : Shared) (Q : Value → Shared → Prop) (E : Value → Shared → Prop), Q (.int (g i) s.toks) { s with toks := s.toks + 1 } → wpAny (model X.prog X.w) X.A (f (.int i t)) Q E s) :
    UnR X f (rU fun i => .int (g i)) := by
  intro pins s σ H x v Q I rx h
  obtain ⟨i, rfl, q⟩ := h
  obtain ⟨t, rfl⟩ := rx
  exact rule i t s _ _ ⟨.int (g i), H, I.tok _, ⟨_, rfl⟩, q⟩
theorem un_neg : UnR X (unaryOp .USub) (rU fun i => .int (-i)) := unI fun _ _ _ _ _ q => neg_int q
end
noncomputable def scal : V → V → Bool
  | .non, .non => true | .non, .int _ => true | .int _, .non => true | .non, .bl _ => true | .bl _, .non => true | .non, .str _ => true | .str _, .non => true
  | .int _, .int _ => true | .bl _, .bl _ => true | .str _, .str _ => true | .byt _, .byt _ => true
  | .int _, .str _ => true | .str _, .int _ => true | .bl _, .str _ => true | .str _, .bl _ => true
  | _, _ => false
noncomputable def rEq : R2 := fun x y H Q => scal x y = true ∧ Q (.bl (decide (x = y))) H
noncomputable def rNe : R2 := fun x y H Q => scal x y = true ∧ Q (.bl (!decide (x = y))) H
theorem dec_int {i j : Int} : decide (V.int i = V.int j) = (i == j) := by
  rw [Bool.eq_iff_iff]
  simp
theorem dec_bl {i j : Bool} : decide (V.bl i = V.bl j) = (i == j) := by
  rw [Bool.eq_iff_iff]
  simp
theorem dec_str {i j : Str} : decide (V.str i = V.str j) = (i == j) := by
  rw [Bool.eq_iff_iff]
  simp
theorem dec_byt {i j : Array UInt8} : decide (V.byt i = V.byt j) = (i.toList == j.toList) := by
  rw [Bool.eq_iff_iff]
  cases i
  cases j
  simp
section
variable {X : Cx} {a b c : Expr} {ta tb tc : TE} {pos : Pos}
theorem fin_bl {pins : List (Addr × Obj)} {σ : St} {H : Hp} {s : Shared} {Q : VK} {k k' : Bool} (I : Inv X pins σ H s) (q : Q (.bl k) H) (e : k = k') : EP X pins σ Q (.bool k') s := by
  subst e
  exact ⟨.bl k, H, I, rfl, q⟩
theorem op_eq : OpR X (compareOp .Eq) rEq := by
  intro pins s σ H x y v u Q I rx ry h
  obtain ⟨hs, q⟩ := h
  cases x with
  | non =>
    cases rx
    cases y with
    | non => cases ry; exact PySem.EqNone.eq_none_none (fin_bl I q (by simp))
    | bl j => cases ry; exact PySem.EqNone.eq_none_bool (fin_bl I q (by simp))
    | int j => obtain ⟨t', rfl⟩ := ry; exact PySem.EqNone.eq_none_int (fin_bl I q (by simp))
    | str j => obtain ⟨t', rfl⟩ := ry; exact PySem.EqNone.eq_none_str (fin_bl I q (by simp))
    | _ => exact absurd (show false = true from hs) Bool.false_ne_true
  | bl i =>
    cases rx
    cases y with
    | non => cases ry; exact PySem.EqNone.eq_bool_none (fin_bl I q (by simp))
    | bl j => cases ry; exact eq_bool (fin_bl I q dec_bl)
    | str j => obtain ⟨t', rfl⟩ := ry; exact PySem.EqMixed.eq_bool_str (fin_bl I q (by simp))
    | _ => exact absurd (show false = true from hs) Bool.false_ne_true
  | int i =>
    obtain ⟨t, rfl⟩ := rx
    cases y with
    | non => cases ry; exact PySem.EqNone.eq_int_none (fin_bl I q (by simp))
    | int j => obtain ⟨t', rfl⟩ := ry; exact eq_int (fin_bl I q dec_int)
    | str j => obtain ⟨t', rfl⟩ := ry; exact PySem.EqMixed.eq_int_str (fin_bl I q (by simp))
    | _ => exact absurd (show false = true from hs) Bool.false_ne_true
  | str i =>
    obtain ⟨t, rfl⟩ := rx
    cases y with
    | non => cases ry; exact PySem.EqNone.eq_str_none (fin_bl I q (by simp))
    | bl j => cases ry; exact PySem.EqMixed.eq_str_bool (fin_bl I q (by simp))
    | int j => obtain ⟨t', rfl⟩ := ry; exact PySem.EqMixed.eq_str_int (fin_bl I q (by simp))
    | str j => obtain ⟨t', rfl⟩ := ry; exact eq_str (fin_bl I q dec_str)
    | _ => exact absurd (show false = true from hs) Bool.false_ne_true
  | byt i =>
    obtain ⟨t, rfl⟩ := rx
    cases y with
    | byt j => obtain ⟨t', rfl⟩ := ry; exact PySem.W.eq_bytes (fin_bl I q dec_byt)
    | _ => exact absurd (show false = true from hs) Bool.false_ne_true
  | _ => cases y <;> exact absurd (show false = true from hs) Bool.false_ne_true
theorem op_ne : OpR X (compareOp .NotEq) rNe := by
  intro pins s σ H x y v u Q I rx ry h
  obtain ⟨hs, q⟩ := h
  cases x with
  | non =>
    cases rx
    cases y with
    | non => cases ry; exact PySem.EqNone.ne_none_none (fin_bl I q (by simp))
    | bl j => cases ry; exact PySem.EqNone.ne_none_bool (fin_bl I q (by simp))
    | int j => obtain ⟨t', rfl⟩ := ry; exact PySem.EqNone.ne_none_int (fin_bl I q (by simp))
    | str j => obtain ⟨t', rfl⟩ := ry; exact PySem.EqNone.ne_none_str (fin_bl I q (by simp))
    | _ => exact absurd (show false = true from hs) Bool.false_ne_true
  | bl i =>
    cases rx
    cases y with
    | non => cases ry; exact PySem.EqNone.ne_bool_none (fin_bl I q (by simp))
    | bl j => cases ry; exact ne_bool (fin_bl I q (congrArg not dec_bl))
    | str j => obtain ⟨t', rfl⟩ := ry; exact PySem.EqMixed.ne_bool_str (fin_bl I q (by simp))
    | _ => exact absurd (show false = true from hs) Bool.false_ne_true
  | int i =>
    obtain ⟨t, rfl⟩ := rx
    cases y with
    | non => cases ry; exact PySem.EqNone.ne_int_none (fin_bl I q (by simp))
    | int j => obtain ⟨t', rfl⟩ := ry; exact ne_int (fin_bl I q (congrArg not dec_int))
    | str j => obtain ⟨t', rfl⟩ := ry; exact PySem.EqMixed.ne_int_str (fin_bl I q (by simp))
    | _ => exact absurd (show false = true from hs) Bool.false_ne_true
  | str i =>
    obtain ⟨t, rfl⟩ := rx
    cases y with
    | non => cases ry; exact PySem.EqNone.ne_str_none (fin_bl I q (by simp))
    | bl j => cases ry; exact PySem.EqMixed.ne_str_bool (fin_bl I q (by simp))
    | int j => obtain ⟨t', rfl⟩ := ry; exact PySem.EqMixed.ne_str_int (fin_bl I q (by simp))
    | str j => obtain ⟨t', rfl⟩ := ry; exact ne_str (fin_bl I q (congrArg not dec_str))
    | _ => exact absurd (show false = true from hs) Bool.false_ne_true
  | byt i =>
    obtain ⟨t, rfl⟩ := rx
    cases y with
    | byt j => obtain ⟨t', rfl⟩ := ry; exact PySem.W.ne_bytes (fin_bl I q (congrArg not dec_byt))
    | _ => exact absurd (show false = true from hs) Bool.false_ne_true
  | _ => cases y <;> exact absurd (show false = true from hs) Bool.false_ne_true
theorem op_lt : OpR X (compareOp .Lt) (rI0 fun i j => .bl (decide (i < j))) := opB0 fun _ _ _ _ _ _ _ q => lt_int q
theorem op_le : OpR X (compareOp .LtE) (rI0 fun i j => .bl (decide (i ≤ j))) := opB0 fun _ _ _ _ _ _ _ q => le_int q
theorem op_gt : OpR X (compareOp .Gt) (rI0 fun i j => .bl (decide (j < i))) := opB0 fun _ _ _ _ _ _ _ q => gt_int q
theorem op_ge : OpR X (compareOp .GtE) (rI0 fun i j => .bl (decide (j ≤ i))) := opB0 fun _ _ _ _ _ _ _ q => ge_int q
theorem op_in_str : OpR X (compareOp .In) (fun x y H Q => ∃ i j, x = .str i ∧ y = .str j ∧ Q (.bl (!(Builtin.Str.occurrences j i 0 j.length 1).isEmpty)) H) := by
  intro pins s σ H x y v u Q I rx ry h
  obtain ⟨i, j, rfl, rfl, q⟩ := h
  obtain ⟨t, rfl⟩ := rx
  obtain ⟨t', rfl⟩ := ry
  exact in_str (fin_bl I q rfl)
theorem op_isN : OpR X (compareOp .Is) (fun x y H Q => y = .non ∧ Q (.bl (decide (x = .non))) H) := by
  intro pins s σ H x y v u Q I rx ry h
  obtain ⟨rfl, q⟩ := h
  cases ry
  refine is_none_gen (fin_bl I q ?_)
  cases x <;> first
    | (cases rx; rfl)
    | (obtain ⟨t, rfl⟩ := rx; rfl)
theorem op_notN : OpR X (compareOp .IsNot) (fun x y H Q => y = .non ∧ Q (.bl (!decide (x = .non))) H) := by
  intro pins s σ H x y v u Q I rx ry h
  obtain ⟨rfl, q⟩ := h
  cases ry
  refine isnot_none_gen (fin_bl I q ?_)
  cases x <;> first
    | (cases rx; rfl)
    | (obtain ⟨t, rfl⟩ := rx; rfl)
theorem op_notin_str : OpR X (compareOp .NotIn) (fun x y H Q => ∃ i j, x = .str i ∧ y = .str j ∧ Q (.bl (!(!(Builtin.Str.occurrences j i 0 j.length 1).isEmpty))) H) := by
  intro pins s σ H x y v u Q I rx ry h
  obtain ⟨i, j, rfl, rfl, q⟩ := h
  obtain ⟨t, rfl⟩ := rx
  obtain ⟨t', rfl⟩ := ry
  exact notIn_str (fin_bl I q rfl)
theorem OpR.or {f : Value → Value → Sem Value} {r r' : R2} (h : OpR X f r) (h' : OpR X f r') : OpR X f (fun x y H Q => r x y H Q ∨ r' x y H Q) := by
  intro pins s σ H x y v u Q I rx ry q
  rcases q with q | q
  · exact h pins s σ H x y v u Q I rx ry q
  · exact h' pins s σ H x y v u Q I rx ry q
theorem nomark (b : Expr) {op : CmpOp} (h : op ≠ .In := by decide) (h2 : op ≠ .NotIn := by decide) : behindInMarks op b = false := by
  have e1 : (op == CmpOp.In) = false := by cases op <;> first | rfl | exact absurd rfl h
  have e2 : (op == CmpOp.NotIn) = false := by cases op <;> first | rfl | exact absurd rfl h2
  cases b <;> simp [behindInMarks, e1, e2]
theorem pe_cmpR {op : CmpOp} {r : R2} (ho : OpR X (compareOp op) r) (ha : PE X a ta) (hb : PE X b tb) (hm : behindInMarks op b = false) : PE X (.Compare a [op] [b] pos) (tOp r ta tb) := by
  intro pins s σ H Q I h
  exact wpAny_Compare1 (binT ha hb I h fun v u s2 x y H2 I2 rx ry q => ho pins s2 σ H2 x y v u Q I2 rx ry q) hm
noncomputable def tTest (t : TE) : TT := fun σ H Q => t σ H fun x H' => ∃ k, x = .bl k ∧ Q k H'
theorem pt_cmpR {op : CmpOp} {r : R2} (ho : OpR X (compareOp op) r) (ha : PE X a ta) (hb : PE X b tb) (hm : behindInMarks op b = false) : PT X (.Compare a [op] [b] pos) (tTest (tOp r ta tb)) := by
  intro pins s σ H Q I h
  refine wpAny_isTrue_Compare1 (thn (ha pins s σ H _ I h) fun v s1 ⟨x, H1, I1, r1, q1⟩ => thn (hb pins s1 σ H1 _ I1 q1) fun u s2 ⟨y, H2, I2, r2, q2⟩ =>
    thn (ho pins s2 σ H2 x y v u _ I2 r1 r2 q2) fun c s3 ⟨z, H3, I3, r3, k, e, q3⟩ => ?_) hm
  subst e
  cases r3
  exact wpAny_truthy_bool ⟨H3, I3, q3⟩
noncomputable def tChain (r r' : R2) (ta tb tc : TE) : TE := fun σ H Q => ta σ H fun x H1 => tb σ H1 fun y H2 => r x y H2 fun z H3 => ∃ k, z = .bl k ∧
  (if k = true then tc σ H3 fun w' H4 => r' y w' H4 Q else Q (.bl false) H3)
theorem pe_chain {op op' : CmpOp} {r r' : R2} (ho : OpR X (compareOp op) r) (ho' : OpR X (compareOp op') r') (ha : PE X a ta) (hb : PE X b tb) (hc : PE X c tc)
    (hm : lastMarks [op, op'] [b, c] = false := by with_unfolding_all rfl) : PE X (.Compare a [op, op'] [b, c] pos) (tChain r r' ta tb tc) := by
  intro pins s σ H Q I h
  refine Compare_chain (thn (ha pins s σ H _ I h) fun v s1 ⟨x, H1, I1, r1, q1⟩ => chain_link (thn (hb pins s1 σ H1 _ I1 q1) fun u s2 ⟨y, H2, I2, r2, q2⟩ =>
    thn (ho pins s2 σ H2 x y v u _ I2 r1 r2 q2) fun d s3 ⟨z, H3, I3, r3, k, e, q3⟩ => ?_)) hm
  subst e
  cases r3
  refine wpAny_truthy_bool ?_
  cases k with
  | false => exact ite_ff ⟨.bl false, H3, I3, rfl, q3⟩
  | true => exact ite_tt (chain_last (thn (hc pins s3 σ H3 _ I3 q3) fun w' s4 ⟨z', H4, I4, r4, q4⟩ => ho' pins s4 σ H4 y z' u w' Q I4 r2 r4 q4))
noncomputable def TruV (K : PySem.W.Frag) (x : V) (H : Hp) (k : Bool) : Prop :=
  match x with
  | .non => k = false
  | .bl b => k = b
  | .int i => k = (i != 0)
  | .str y => y.length ≤ sizeLine ∧ k = ((y.length : Int) != 0)
  | .byt y => y.size ≤ sizeLine ∧ k = ((y.size : Int) != 0)
  | .ref p => (∃ xs, SqL K H p xs ∧ k = !xs.isEmpty) ∨ (∃ xs, SqT K H p xs ∧ k = !xs.isEmpty) ∨ ∃ kvs, H p = some (.dK kvs) ∧ k = !kvs.isEmpty
  | _ => False
theorem isEmpty_kv {κ : Type} {kvs : List (κ × V)} {vs : List (κ × Value)} (r : KV kvs vs) : (!vs.isEmpty) = !kvs.isEmpty := by
  cases r <;> rfl
theorem isEmpty_of {xs : List V} {its : List Value} (r : Vals xs its) : (!its.toArray.isEmpty) = !xs.isEmpty := by
  cases r <;> simp
theorem line63 : (sizeLine : Nat) < 2 ^ 63 := by rw [sizeLine_eq]; decide
theorem tru_ok : TruR X (fun x H Q => ∃ k, TruV X.K x H k ∧ Q k H) := by
  intro pins s σ H x v Q I rx h
  obtain ⟨k, e, q⟩ := h
  have hl := line63
  have hs : sizeLine = 16777216 := sizeLine_eq
  cases x with
  | non =>
    cases rx
    have e' : k = false := e
    subst e'
    exact truthy_none ⟨H, I, q⟩
  | bl b =>
    cases rx
    have e' : k = b := e
    subst e'
    exact wpAny_truthy_bool ⟨H, I, q⟩
  | int i =>
    obtain ⟨t, rfl⟩ := rx
    have e' : k = (i != 0) := e
    subst e'
    exact PySem.P.truthy_int ⟨H, I, q⟩
  | str y =>
    obtain ⟨t, rfl⟩ := rx
    obtain ⟨hy, e'⟩ : y.length ≤ sizeLine ∧ k = ((y.length : Int) != 0) := e
    subst e'
    exact PySem.P.truthy_str (by omega) ⟨H, I.tok _, q⟩
  | byt y =>
    obtain ⟨t, rfl⟩ := rx
    obtain ⟨hy, e'⟩ : y.size ≤ sizeLine ∧ k = ((y.size : Int) != 0) := e
    subst e'
    exact PySem.W.truthy_bytes (by omega) ⟨H, I.tok _, q⟩
  | ref p =>
    cases rx
    have e' : (∃ xs, SqL X.K H p xs ∧ k = !xs.isEmpty) ∨ (∃ xs, SqT X.K H p xs ∧ k = !xs.isEmpty) ∨ ∃ kvs, H p = some (.dK kvs) ∧ k = !kvs.isEmpty := e
    rcases e' with ⟨xs, hx, e'⟩ | ⟨xs, hx, e'⟩ | ⟨kvs, hx, e'⟩
    · subst e'
      obtain ⟨its, r, pl, hz⟩ := I.list hx
      have hlen := r.length
      exact wpAny_truthy_list pl.isList (by simp only [List.size_toArray]; omega) ⟨H, I.tok _, by rw [isEmpty_of r]; exact q⟩
    · subst e'
      obtain ⟨its, r, pl, hz⟩ := I.tuple hx
      have hlen := r.length
      exact truthy_tuple pl (by simp only [List.size_toArray]; omega) ⟨H, I.tok _, by rw [isEmpty_of r]; exact q⟩
    · subst e'
      obtain ⟨hz, hS, vs, r, m⟩ : kvs.length ≤ sizeLine ∧ (p == sysModules) = false ∧ ∃ vs, KV kvs vs ∧ s.heap.DictOf (mixKind X.prog X.w) p vs := I.hok p _ hx
      have hlen : kvs.length = vs.length := Paired.length r
      exact wpAny_truthy_dict hS m (by omega) ⟨H, I.tok _, by rw [isEmpty_kv r]; exact q⟩
  | _ => exact (show False from e).elim
theorem pt_truth (ha : PE X a ta) (he : ∀ whole, isTrue a X.env whole = (do let v ← whole; standAt a.pos; holding [v] (truthy v))) :
    PT X a (fun σ H Q => ta σ H fun x H' => ∃ k, TruV X.K x H' k ∧ Q k H') := by
  intro pins s σ H Q I h
  exact isTrue_plain (thn (ha pins s σ H _ I h) fun v s1 ⟨x, H1, I1, r1, q1⟩ => tru_ok pins s1 σ H1 x v Q I1 r1 q1) (he _)
theorem op_add_str : OpR X (binaryOp .Add) (fun x y H Q => ∃ i j, x = .str i ∧ y = .str j ∧ i.length + j.length ≤ sizeLine ∧ Q (.str (i ++ j)) H) := by
  intro pins s σ H x y v u Q I rx ry h
  obtain ⟨i, j, rfl, rfl, hz, q⟩ := h
  obtain ⟨t, rfl⟩ := rx
  obtain ⟨t', rfl⟩ := ry
  exact add_str (fun t' tk => ⟨.str (i ++ j), H, I.tok _, ⟨_, rfl⟩, q⟩) hz
theorem vals1 {x : V} {us : List Value} (r : Vals [x] us) : ∃ u, us = [u] ∧ RelV x u := by
  cases r with
  | cons r1 r2 => cases r2; exact ⟨_, rfl, r1⟩
theorem vals2 {x y : V} {us : List Value} (r : Vals [x, y] us) : ∃ u w', us = [u, w'] ∧ RelV x u ∧ RelV y w' := by
  cases r with
  | cons r1 r2 =>
    cases r2 with
    | cons r3 r4 => cases r4; exact ⟨_, _, rfl, r1, r3⟩
theorem call_abs : CallR X (.builtin "abs") (fun xs H Q => ∃ i, xs = [.int i] ∧ Q (.int (if i < 0 then -i else i)) H) := by
  intro pins s σ H xs us Q I r h
  obtain ⟨i, rfl, q⟩ := h
  obtain ⟨u, rfl, t, rfl⟩ := vals1 r
  exact call_abs_int fun u tk => ⟨.int (if i < 0 then -i else i), H, I.tok _, ⟨_, rfl⟩, q⟩
theorem call_min2 (hc : X.calm = true) : CallR X (.builtin "min") (fun xs H Q => ∃ i j, xs = [.int i, .int j] ∧ Q (.int (if j < i then j else i)) H) := by
  intro pins s σ H xs us Q I r h
  obtain ⟨i, j, rfl, q⟩ := h
  obtain ⟨u, w', rfl, ⟨t, rfl⟩, ⟨t', rfl⟩⟩ := vals2 r
  refine min_two_ints (I.ok.hd hc) fun h' tk k => ⟨_, H, I.kept k, ?_, q⟩
  by_cases hj : j < i
  · rw [if_pos hj, if_pos hj]; exact ⟨_, rfl⟩
  · rw [if_neg hj, if_neg hj]; exact ⟨_, rfl⟩
theorem call_int1 : CallR X (.type "int") (fun xs H Q => (∃ i, xs = [.int i] ∧ Q (.int i) H) ∨ ∃ k, xs = [.bl k] ∧ Q (.int (if k then 1 else 0)) H) := by
  intro pins s σ H xs us Q I r h
  rcases h with ⟨i, rfl, q⟩ | ⟨k, rfl, q⟩
  · obtain ⟨u, rfl, t, rfl⟩ := vals1 r
    exact call_int_int ⟨.int i, H, I, ⟨_, rfl⟩, q⟩
  · obtain ⟨u, rfl, r1⟩ := vals1 r
    cases r1
    exact call_int_bool ⟨.int (if k then 1 else 0), H, I.tok _, ⟨_, rfl⟩, q⟩
theorem call_str_int : CallR X (.type "str") (fun xs H Q => ∃ i, xs = [.int i] ∧ i.natAbs.log2 < 1920 ∧ Q (.str (toString i)) H) := by
  intro pins s σ H xs us Q I r h
  obtain ⟨i, rfl, hz, q⟩ := h
  obtain ⟨u, rfl, t, rfl⟩ := vals1 r
  exact PySem.P.str_of_int hz ⟨.str _, H, I.tok _, ⟨_, rfl⟩, q⟩
end
end L2
namespace L2
open PySem PySem.Spec PyProof.Rows
structure ObjM (h : Heap) (x dx C : Addr) (mA : Str → Option Value) : Prop where
  obj : h.get? x = some (PySem.W.instObj C dx)
  ns : h.Ns1 dx mA
  ne : dx ≠ x
theorem lookIn_ns {h : Heap} {dx : Addr} {mA : Str → Option Value} (n : h.Ns1 dx mA) : ∃ od, h.get? dx = some od ∧ ∀ name, PySem.W.lookIn name od = some (mA name) := by
  obtain ⟨o, es, ep, ho, hd, hk, _, hm⟩ := n
  refine ⟨o, ho, fun name => ?_⟩
  have e := hm name
  unfold nsFind findBy at e
  rw [← Array.find?_toList] at e
  unfold PySem.W.lookIn
  rw [hd]
  dsimp only
  split
  · rename_i y q
    rw [q] at e
    exact congrArg some e
  · rename_i q
    rw [q] at e
    have a : es.toList.any (·.refKey) = false := by
      rw [List.any_eq_false]
      intro y hy
      obtain ⟨z, t, hkey⟩ := hk y (Array.mem_toList_iff.mp hy)
      simp [DictEntry.refKey, hkey]
    have a' : ¬ es.toList.any (·.refKey) = true := by rw [a]; exact Bool.false_ne_true
    rw [if_neg a']
    exact congrArg some e
theorem ObjM.look {h : Heap} {x dx C : Addr} {mA : Str → Option Value} (I : ObjM h x dx C mA) : ∃ od, PySem.W.InstAt h x (PySem.W.instObj C dx) C (some od) ∧ ∀ name, PySem.W.lookIn name od = some (mA name) :=
  let ⟨od, ho, hl⟩ := lookIn_ns I.ns
  ⟨od, ⟨I.obj, rfl, rfl, ho⟩, hl⟩
section
variable {prog : Program} {w : World} {A : Around} {E : Value → Shared → Prop} {s : Shared} {K : PySem.W.Frag} {x dx C f : Addr} {mA : Str → Option Value} {name : Str} {v : Value}
theorem get_map {expr : Bool} {Q : Value → Shared → Prop} (X : K.In s.heap) (I : ObjM s.heap x dx C mA) (hg : PySem.W.plainGet K C name = true) (hh : PySem.W.hasDictIn K C = true)
    (ha : PySem.W.findIn K (.ref C) name = some none) (hv : mA name = some v) (hv' : PySem.W.handedIn v = true) (h : Q v { s with toks := s.toks + 1 }) :
    wpAny (model prog w) A (getAttr (.ref x) name expr) Q E s := by
  obtain ⟨od, J, hl⟩ := I.look
  exact PySem.W.get_value X J (PySem.W.plainGet_of hg).1 (PySem.W.findObj_own hh ha rfl (by rw [hl, hv])) hv' h
theorem get_meth {pl : Sem Bool} {Q : Value × List Value → Shared → Prop} (X : K.In s.heap) (I : ObjM s.heap x dx C mA) (hg : PySem.W.plainGet K C name = true)
    (hf : PySem.W.findIn K (.ref C) name = some (some (.ref f))) (ht : PySem.W.isFn K (.ref f) = true) (hv : mA name = none) (h : Q (.ref f, [.ref x]) s) :
    wpAny (model prog w) A (getMethod (.ref x) name pl) Q E s := by
  obtain ⟨od, J, hl⟩ := I.look
  exact PySem.W.method_fn X J (PySem.W.plainGet_of hg).1 (PySem.W.plainGet_of hg).2 hf (beq_iff_eq.mp ht) (by show (PySem.W.lookIn name od).map (·.isSome) = some false; rw [hl, hv]; rfl) h
theorem set_map {ns : List Str} {Q : Unit → Shared → Prop} (X : K.In s.heap) (I : ObjM s.heap x dx C mA)
    (hs : PySem.W.findIn K (.ref C) "__setattr__" = some (some (.builtin "object.__setattr__"))) (hp : PySem.W.plainOver K C = true) (ht : PySem.W.takerIn K C name = some none) (hh : PySem.W.hasDictIn K C = true)
    (hw : PySem.Within mA ns) (hsz : ns.length ≤ sizeLine)
    (h : ∀ h', ObjM h' x dx C (fun y => if y = name then some v else mA y) → Heap.SameBut dx s.heap h' → Q () { s with heap := h', toks := s.toks + 2 }) :
    wpAny (model prog w) A (setAttr (.ref x) name v) Q E s := by
  obtain ⟨od, J, hl⟩ := I.look
  refine PySem.W.set_plain X J hs (PySem.W.osa_open (s := { s with toks := s.toks + 1 }) (r := none) X J hp ht fun b => ?_)
  obtain ⟨cd, hc, hd'⟩ := PySem.W.any_some hh
  have hx : s.heap.get? x = some ⟨.ref C, some dx, .plain, #[]⟩ := I.obj
  refine wpAny_bind (wpAny_pure (wpAny_bind (wpAny_bind (wpAny_loadPart hx (wpAny_bind (PySem.W.Looks.here (s := { s with toks := s.toks + 1 }) (PySem.W.looks_clsIn X hc) ?_))))))
  rw [hd']
  refine wpAny_pure (a := some dx) (wpAny_bind (wpAny_pure (wpAny_bind ?_)))
  refine wpAny_nsSet1 (s := { s with toks := s.toks + 1 }) I.ns fun h' hn2 hs2 => ?_
  obtain ⟨oD, esD, epD, hoD, hdD, hcD⟩ := hn2.count (PySem.Within.cons name v hw)
  refine wpAny_bind (wpAny_lookBehind hoD (by rw [hdD]; exact pastItsLine_dict (Nat.le_trans hcD (by rw [List.length_cons]; omega))) ?_)
  exact wpAny_pure (h _ ⟨(hs2.2 _ (Ne.symm I.ne)).trans I.obj, hn2, I.ne⟩ hs2)
theorem make_map {R : Result → Shared → Prop} {vs : List Value} {kw : List (Str × Value)} (X : K.In s.heap) (hm : PySem.W.makesIn K C = true)
    (hi : PySem.W.findIn K (.ref C) "__init__" = some (some (.ref f))) (hf : PySem.W.typeIn K (.ref f) = some (.type "function"))
    (h : codeAny (model prog w) (A.under (.builtin "type.__call__" ⟨.ref C :: vs, kw⟩)) (.call (.ref f) ⟨.ref (s.heap.objs.size + 1) :: vs, kw⟩) (PySem.W.InitBack (s.heap.objs.size + 1) R)
      { s with heap := (s.heap.push PySem.W.emptyDict).push (PySem.W.instObj C s.heap.objs.size) }) :
    codeAny (model prog w) A (.call (.ref C) ⟨vs, kw⟩) R s := by
  obtain ⟨hh, g, d, t, os⟩ := s
  exact PySem.W.make_core (PySem.W.makes_of X hm) (PySem.W.looks_findIn X hi) (fun self => PySem.W.bind_fn X self hf) (.inl rfl) h
end
noncomputable def putF (f : Str) (v : V) : List (Str × V) → List (Str × V)
  | [] => [(f, v)]
  | (g, x) :: r => if g = f then (g, v) :: r else (g, x) :: putF f v r
theorem lookup_putF (f g : Str) (v : V) : ∀ fs : List (Str × V), (putF f v fs).lookup g = if g = f then some v else fs.lookup g
  | [] => by
    show List.lookup g [(f, v)] = _
    by_cases h : g = f
    · have hb : (g == f) = true := beq_iff_eq.mpr h
      simp only [List.lookup, hb, if_pos h]
    · have hb : (g == f) = false := beq_eq_false_iff_ne.mpr h
      simp only [List.lookup, hb, if_neg h]
  | (k, x) :: r => by
    have ih := lookup_putF f g v r
    rw [show putF f v ((k, x) :: r) = (if k = f then (k, v) :: r else (k, x) :: putF f v r) from rfl]
    by_cases hk : k = f
    · rw [if_pos hk]
      by_cases h : g = k
      · have hb : (g == k) = true := beq_iff_eq.mpr h
        simp only [List.lookup, hb, if_pos (h.trans hk)]
      · have hb : (g == k) = false := beq_eq_false_iff_ne.mpr h
        simp only [List.lookup, hb, if_neg (fun e : g = f => h (e.trans hk.symm))]
    · rw [if_neg hk]
      by_cases h : g = k
      · have hb : (g == k) = true := beq_iff_eq.mpr h
        simp only [List.lookup, hb, if_neg (fun e : g = f => hk (h.symm.trans e))]
      · have hb : (g == k) = false := beq_eq_false_iff_ne.mpr h
        simp only [List.lookup, hb]
        exact ih
theorem keys_putF (f : Str) (v : V) : ∀ fs : List (Str × V), f ∈ (putF f v fs).map (·.1) ∧ ∀ g, g ∈ fs.map (·.1) → g ∈ (putF f v fs).map (·.1)
  | [] => ⟨by simp [putF], fun g h => by simp at h⟩
  | (k, x) :: r => by
    obtain ⟨i1, i2⟩ := keys_putF f v r
    rw [show putF f v ((k, x) :: r) = (if k = f then (k, v) :: r else (k, x) :: putF f v r) from rfl]
    by_cases hk : k = f
    · rw [if_pos hk]
      subst hk
      exact ⟨by simp, fun g h => by simpa using h⟩
    · rw [if_neg hk]
      refine ⟨?_, fun g h => ?_⟩
      · rw [List.map_cons]
        exact List.mem_cons_of_mem _ i1
      · rw [List.map_cons] at h ⊢
        rcases List.mem_cons.mp h with e | e
        · exact List.mem_cons.mpr (.inl e)
        · exact List.mem_cons_of_mem _ (i2 g e)
theorem length_putF (f : Str) (v : V) : ∀ fs : List (Str × V), (putF f v fs).length ≤ fs.length + 1
  | [] => by simp [putF]
  | (k, x) :: r => by
    have ih := length_putF f v r
    rw [show putF f v ((k, x) :: r) = (if k = f then (k, v) :: r else (k, x) :: putF f v r) from rfl]
    by_cases hk : k = f
    · rw [if_pos hk, List.length_cons, List.length_cons]; omega
    · rw [if_neg hk, List.length_cons, List.length_cons]; omega
theorem RelO.some_of {v : V} {o : Option Value} (r : RelO (some v) o) : ∃ u, o = some u ∧ RelV v u := by
  cases o with
  | none => exact (show False from r).elim
  | some u => exact ⟨u, rfl, r⟩
theorem RelO.none_of {o : Option Value} (r : RelO none o) : o = none := by
  cases o with
  | none => rfl
  | some u => exact (show False from r).elim
theorem handed_of {v : V} {u : Value} (r : RelV v u) : PySem.W.handedIn u = true := by
  cases v with
  | non => cases (show u = Value.none from r); rfl
  | bl b => cases (show u = Value.bool b from r); rfl
  | int i => obtain ⟨t, e⟩ := (show ∃ t, u = Value.int i t from r); cases e; rfl
  | str x => obtain ⟨t, e⟩ := (show ∃ t, u = Value.str x t from r); cases e; rfl
  | byt b => obtain ⟨t, e⟩ := (show ∃ t, u = Value.bytes b t from r); cases e; rfl
  | flt b => obtain ⟨t, e⟩ := (show ∃ t, u = Value.float b t from r); cases e; rfl
  | ref a => cases (show u = Value.ref a from r); rfl
  | ty n => cases (show u = Value.type n from r); rfl
section
variable {P : Program} {w : World} {H H' : Hp} {h h' : Heap} {a C dx : Addr} {fs fs' : List (Str × V)}
theorem ins_get (hok : HOk P w H h) (e : H a = some (.ins C dx fs)) : ∃ mA, ObjM h a dx C mA ∧ (∀ f, RelO (fs.lookup f) (mA f)) ∧ PySem.Within mA (fs.map (·.1)) ∧ fs.length ≤ 1000 ∧ H dx = some (.own a) := by
  obtain ⟨d, z, ne, ob, mA, n, r, q⟩ := (show ObjOk P w H h a (.ins C dx fs) from hok a _ e)
  exact ⟨mA, ⟨ob, n, ne⟩, r, q, z, d⟩
end
structure Cls (K : PySem.W.Frag) (C : Addr) : Prop where
  pg : PySem.W.plainGet K C Str.empty = true
  hd : PySem.W.hasDictIn K C = true
  po : PySem.W.plainOver K C = true
  sa : PySem.W.findIn K (.ref C) "__setattr__" = some (some (.builtin "object.__setattr__"))
theorem Cls.get {K : PySem.W.Frag} {C : Addr} (c : Cls K C) (f : Str) : PySem.W.plainGet K C f = true := c.pg
noncomputable def NoAttr (K : PySem.W.Frag) (C : Addr) (f : Str) : Prop := PySem.W.findIn K (.ref C) f = some none
theorem NoAttr.taker {K : PySem.W.Frag} {C : Addr} {f : Str} (n : NoAttr K C f) : PySem.W.takerIn K C f = some none := by
  unfold PySem.W.takerIn
  rw [show PySem.W.findIn K (.ref C) f = some none from n]
  rfl
structure Con (K : PySem.W.Frag) (C : Addr) (f : Str) (v : V) (u : Value) : Prop where
  at_ : PySem.W.findIn K (.ref C) f = some (some u)
  rel : RelV v u
  get : PySem.W.specialIn K u "__get__" = some none
  cp : PySem.W.copiedNames.contains f = false
structure Meth (K : PySem.W.Frag) (C : Addr) (m : Str) (f : Addr) : Prop where
  at_ : PySem.W.findIn K (.ref C) m = some (some (.ref f))
  fn : PySem.W.isFn K (.ref f) = true
  kp : PySem.W.keepIn K (.ref f) = true
section
variable {X : Cx} {pins : List (Addr × Obj)} {σ : St} {H : Hp} {s : Shared} {a C dx : Addr} {fs : List (Str × V)} {f : Str} {v : V} {A : Around} {E : Value → Shared → Prop}
theorem getattr_ok {b : Bool} {Q : Value → Shared → Prop} (I : Inv X pins σ H s) (e : H a = some (.ins C dx fs)) (c : Cls X.K C) (n : NoAttr X.K C f) (l : fs.lookup f = some v)
    (h : ∀ u s', Inv X pins σ H s' → RelV v u → Q u s') : wpAny (model X.prog X.w) A (getAttr (.ref a) f b) Q E s := by
  obtain ⟨mA, O, r, _, _, _⟩ := ins_get I.hok e
  obtain ⟨u, hu, ru⟩ := RelO.some_of (v := v) (o := mA f) (by rw [← l]; exact r f)
  exact get_map I.kIn O (c.get f) c.hd n hu (handed_of ru) (h u _ (I.tok _) ru)
theorem getmeth_ok {m : Str} {g : Addr} {pl : Sem Bool} {Q : Value × List Value → Shared → Prop} (I : Inv X pins σ H s) (e : H a = some (.ins C dx fs)) (c : Cls X.K C) (k : Meth X.K C m g) (l : fs.lookup m = none)
    (h : Q (.ref g, [.ref a]) s) : wpAny (model X.prog X.w) A (getMethod (.ref a) m pl) Q E s := by
  obtain ⟨mA, O, r, _, _, _⟩ := ins_get I.hok e
  have hn : mA m = none := RelO.none_of (by rw [← l]; exact r m)
  exact get_meth I.kIn O (c.get m) k.at_ k.fn hn h
theorem setattr_ok {y : V} {u : Value} {Q : Unit → Shared → Prop} (I : Inv X pins σ H s) (e : H a = some (.ins C dx fs)) (c : Cls X.K C) (n : NoAttr X.K C f) (hl : fs.length < 1000) (ry : RelV y u)
    (h : ∀ s', Inv X pins σ (upd H a (.ins C dx (putF f y fs))) s' → Q () s') : wpAny (model X.prog X.w) A (setAttr (.ref a) f u) Q E s := by
  obtain ⟨mA, O, r, wi, _, ho⟩ := ins_get I.hok e
  have hz : (fs.map (·.1)).length ≤ sizeLine := by rw [List.length_map, sizeLine_eq]; omega
  refine set_map I.kIn O c.sa c.po n.taker c.hd wi hz fun h' O' sb => h _ ?_
  have hd : ∃ o, h'.get? dx = some o := let ⟨o, _, _, e', _⟩ := O'.ns; ⟨o, e'⟩
  refine I.write (x := a) (e := dx) (by rw [e]; exact True.intro) (.inr ho) (fun b q hb z => (sb.2 b hb).trans z) hd ?_
  refine ⟨by rw [upd_ne O.ne]; exact ho, ?_, O.ne, O'.obj, _, O'.ns, fun g => ?_, fun g hg => ?_⟩
  · have := length_putF f y fs; omega
  · show RelO ((putF f y fs).lookup g) (if g = f then some u else mA g)
    rw [lookup_putF]
    by_cases q : g = f
    · rw [if_pos q, if_pos q]; exact ry
    · rw [if_neg q, if_neg q]; exact r g
  · by_cases q : g = f
    · rw [q]; exact (keys_putF f y fs).1
    · refine (keys_putF f y fs).2 g (wi g fun z => hg ?_)
      show (if g = f then some u else mA g) = none
      rw [if_neg q]; exact z
theorem Inv.made (I : Inv X pins σ H s) : Inv X pins σ (upd (upd H s.heap.objs.size (.own (s.heap.objs.size + 1))) (s.heap.objs.size + 1) (.ins C s.heap.objs.size []))
    { s with heap := (s.heap.push PySem.W.emptyDict).push (PySem.W.instObj C s.heap.objs.size) } := by
  have e1 : (s.heap.push PySem.W.emptyDict).get? s.heap.objs.size = some PySem.W.emptyDict := Heap.get?_push_size s.heap rfl
  have e2 : ((s.heap.push PySem.W.emptyDict).push (PySem.W.instObj C s.heap.objs.size)).get? (s.heap.objs.size + 1) = some (PySem.W.instObj C s.heap.objs.size) := by
    have := Heap.get?_push_size (s.heap.push PySem.W.emptyDict) (o := PySem.W.instObj C s.heap.objs.size) rfl
    rwa [Heap.size_push] at this
  have e3 : (s.heap.push PySem.W.emptyDict).Ns s.heap.objs.size (fun _ => none) := ⟨PySem.W.emptyDict, #[], _, e1, rfl, (fun e he => absurd he (by simp)), fun _ => rfl⟩
  have I1 := I.laid (a := s.heap.objs.size) (o := .own (s.heap.objs.size + 1)) (h' := s.heap.push PySem.W.emptyDict) (t' := s.toks) (fun b u q => Heap.get?_push_of_some _ q) (Nat.le_refl _) ⟨_, e1⟩
  refine I1.laid (a := s.heap.objs.size + 1) (o := .ins C s.heap.objs.size []) (t' := s.toks) (fun b u q => Heap.get?_push_of_some _ q) (Nat.le_of_eq (Heap.size_push _ _)) ?_
  have ne : s.heap.objs.size ≠ s.heap.objs.size + 1 := Nat.ne_of_lt (Nat.lt_succ_self _)
  refine ⟨by rw [upd_ne ne, upd_same], Nat.zero_le _, ne, e2, fun _ => none, (Heap.Ns1.of_empty e3).at fun o q => Heap.get?_push_of_some _ q, fun _ => True.intro, fun y hy => absurd rfl hy⟩
theorem attr_of {prog : Program} {w : World} {env : Env} {e : Expr} {f : Str} {pos : Pos} {s : Shared} {Q : Value → Shared → Prop} (hb : attributeBase e f env (eval e env) = eval e env)
    (h : wpAny (model prog w) A (eval e env) (fun o s₁ => wpAny (model prog w) A (getAttr o f true) Q E s₁) E s) : wpAny (model prog w) A (eval (.Attribute e f pos) env) Q E s :=
  Attribute_any_ h (by rw [arm_eval_Attribute, hb])
end
noncomputable def tFld (K : PySem.W.Frag) (ta : TE) (f : Str) : TE := fun σ H Q => ta σ H fun x H1 => ∃ a C dx fs v, x = .ref a ∧ H1 a = some (.ins C dx fs) ∧ Cls K C ∧ NoAttr K C f ∧ fs.lookup f = some v ∧ Q v H1
noncomputable def sFld (K : PySem.W.Frag) (ta tv : TE) (f : Str) : TS := fun D σ H => tv σ H fun y H1 => ta σ H1 fun x H2 => ∃ a C dx fs, x = .ref a ∧ H2 a = some (.ins C dx fs) ∧ Cls K C ∧ NoAttr K C f ∧ fs.length < 1000 ∧
  D.nx σ (upd H2 a (.ins C dx (putF f y fs)))
section
variable {X : Cx} {o e value : Expr} {f : Str} {pos pos' tpos : Pos} {ta tv : TE}
theorem pe_fld (he : PE X e ta) (hb : attributeBase e f X.env (eval e X.env) = eval e X.env) : PE X (.Attribute e f pos) (tFld X.K ta f) := by
  intro pins s σ H Q I h
  refine attr_of hb (thn (he pins s σ H _ I h) fun u s1 ⟨x, H1, I1, rx, a, C, dx, fs, v, ex, ea, c, n, l, q⟩ => ?_)
  subst ex
  obtain rfl : u = Value.ref a := rx
  exact getattr_ok I1 ea c n l fun u' s2 I2 ru => ⟨v, H1, I2, ru, q⟩
theorem ps_fld (ha : PE X o ta) (hv : PE X value tv) (hs : swapsWith value (some (.Attribute o f pos')) pos.line X.env = pure false) : PS X (.Assign [.Attribute o f pos'] value pos) (sFld X.K ta tv f) := by
  intro pins s σ H D I h
  refine plainObj_wpAny_Assign_Attribute (thn (hv pins s σ H _ I h) fun u s1 ⟨y, H1, I1, ry, q⟩ => thn (ha pins s1 σ H1 _ I1 q) fun ov s2 ⟨x, H2, I2, rx, a, C, dx, fs, ex, ea, c, n, l, q2⟩ => ?_) hs
  subst ex
  obtain rfl : ov = Value.ref a := rx
  exact setattr_ok I2 ea c n l ry fun s3 I3 => ⟨σ, _, I3, q2⟩
end
section
variable {X : Cx} {pins : List (Addr × Obj)} {σ : St} {H : Hp} {s : Shared} {A : Around} {E : Value → Shared → Prop} {Q : Value → Shared → Prop} {c : Value} {b : Bool}
inductive TyOf (K : PySem.W.Frag) (H : Hp) : V → Value → Prop where
  | non : TyOf K H .non (.type "NoneType")
  | bl (x : Bool) : TyOf K H (.bl x) (.type "bool")
  | int (i : Int) : TyOf K H (.int i) (.type "int")
  | str (x : Str) : TyOf K H (.str x) (.type "str")
  | flt (x : UInt64) : TyOf K H (.flt x) (.type "float")
  | lst {a : Addr} {xs : List V} (e : H a = some (.lst xs)) : TyOf K H (.ref a) (.type "list")
  | frz {a : Addr} {o : Obj} {xs : List V} (e : H a = some (.frz o (.lst xs))) : TyOf K H (.ref a) (.type "list")
  | tup {a : Addr} {xs : List V} (e : H a = some (.tup xs)) : TyOf K H (.ref a) (.type "tuple")
  | dK {a : Addr} {kvs : List (Key × V)} (e : H a = some (.dK kvs)) : TyOf K H (.ref a) (.type "dict")
  | dT {a : Addr} {kvs : List (List Key × V)} (e : H a = some (.dT kvs)) : TyOf K H (.ref a) (.type "dict")
  | ins {a C dx : Addr} {fs : List (Str × V)} (e : H a = some (.ins C dx fs)) (cl : Cls K C) (ha : PySem.W.findIn K (.ref C) "__class__" = some (some (.builtin "object.__class__")))
      (hn : PySem.W.specialIn K (.builtin "object.__class__") "__get__" = some (some (.builtin "getset_descriptor.__get__"))) (htk : PySem.W.takesIn K (.builtin "object.__class__") = some true)
      (hm : PySem.W.mroIn K C (.type "object") = some true) : TyOf K H (.ref a) (.ref C)
theorem isinst_ok {x : V} {u t : Value} (I : Inv X pins σ H s) (rx : RelV x u) (ty : TyOf X.K H x t) (e : PySem.W.kitOne X.K t c = some b) (h : ∀ tk, Q (.bool b) { s with toks := tk }) :
    wpAny (model X.prog X.w) A (call (.builtin "isinstance") [u, c]) Q E s := by
  cases ty with
  | non => cases (show u = Value.none from rx); exact PySem.W.kia_one PySem.W.kitx_none I.kIn True.intro e (fun z => nomatch z) h
  | bl y => cases (show u = Value.bool y from rx); exact PySem.W.kia_one PySem.W.kitx_bool I.kIn True.intro e (fun z => nomatch z) h
  | int i => obtain ⟨t, q⟩ := (show ∃ t, u = Value.int i t from rx); cases q; exact PySem.W.kia_one PySem.W.kitx_int I.kIn True.intro e (fun z => nomatch z) h
  | str y => obtain ⟨t, q⟩ := (show ∃ t, u = Value.str y t from rx); cases q; exact PySem.W.kia_one PySem.W.kitx_str I.kIn True.intro e (fun z => nomatch z) h
  | flt y => obtain ⟨t, q⟩ := (show ∃ t, u = Value.float y t from rx); cases q; exact PySem.W.kia_one PySem.W.kitx_float I.kIn True.intro e (fun z => nomatch z) h
  | @lst a xs ea =>
    cases (show u = Value.ref a from rx)
    obtain ⟨_, _, n, _, h1⟩ := (show ObjOk X.prog X.w H s.heap a (.lst xs) from I.hok a _ ea)
    exact PySem.W.kia_one PySem.W.kitx_list I.kIn ⟨_, h1, rfl⟩ e (fun z => nomatch z) h
  | @frz a ob xs ea =>
    cases (show u = Value.ref a from rx)
    obtain ⟨_, _, _, n, _, h1⟩ := (show ObjOk X.prog X.w H s.heap a (.frz ob (.lst xs)) from I.hok a _ ea)
    exact PySem.W.kia_one PySem.W.kitx_list I.kIn ⟨_, h1, rfl⟩ e (fun z => nomatch z) h
  | @tup a xs ea =>
    cases (show u = Value.ref a from rx)
    obtain ⟨_, _, _, p⟩ := (show ObjOk X.prog X.w H s.heap a (.tup xs) from I.hok a _ ea)
    obtain ⟨o, h1, h2, _⟩ := p
    exact PySem.W.kia_one PySem.W.kitx_tuple I.kIn ⟨o, h1, h2⟩ e (fun z => nomatch z) h
  | @dK a kvs ea =>
    cases (show u = Value.ref a from rx)
    obtain ⟨_, _, vs, _, p⟩ := (show ObjOk X.prog X.w H s.heap a (.dK kvs) from I.hok a _ ea)
    obtain ⟨o, es, ep, h1, h2, _⟩ := p
    exact PySem.W.kia_one PySem.W.kitx_dict I.kIn ⟨o, h1, h2.1⟩ e (fun z => nomatch z) h
  | @dT a kvs ea =>
    cases (show u = Value.ref a from rx)
    obtain ⟨_, _, xs, _, o, es, ep, h1, h2, _⟩ := (show ObjOk X.prog X.w H s.heap a (.dT kvs) from I.hok a _ ea)
    exact PySem.W.kia_one PySem.W.kitx_dict I.kIn ⟨o, h1, h2.1⟩ e (fun z => nomatch z) h
  | @ins a C dx fs ea cl ha hn htk hm =>
    cases (show u = Value.ref a from rx)
    obtain ⟨mA, O, _⟩ := ins_get I.hok ea
    obtain ⟨od, J, _⟩ := O.look
    exact PySem.W.kia_one (PySem.W.kitx_own (cl.get _) cl.hd ha hn htk hm) I.kIn J e (fun z => nomatch z) h
end
end L2
namespace L2
open PySem PySem.Spec PyProof.Rows
structure Room (k : Nat) (A : Around) : Prop where
  hd : A.handled = none
  dp : A.depth + 3 * k + 5 < recursionLimit
  un : A.units + 16 * k + 200 < cLine
  gd : A.guards = some []
theorem Room.mono {j k : Nat} {A : Around} (r : Room k A) (h : j ≤ k) : Room j A := ⟨r.hd, by have := r.dp; omega, by have := r.un; omega, r.gd⟩
theorem Room.deeper {k : Nat} {A : Around} (r : Room (k + 1) A) (env : Env) : Room k (A.deeper env) :=
  ⟨r.hd, by have := r.dp; show A.depth + 1 + 3 * k + 5 < _; omega, by have := r.un; show A.units + 3 + 16 * k + 200 < _; omega, r.gd⟩
theorem Room.in1 {k : Nat} {A : Around} (r : Room (k + 1) A) : Room k A.in1 :=
  ⟨r.hd, by have := r.dp; show A.depth + 3 * k + 5 < _; omega, by have := r.un; show A.units + 1 + 16 * k + 200 < _; omega, r.gd⟩
theorem make_depth {A : Around} {C : Addr} {us : List Value} {kw : List (Str × Value)} : (A.under (.builtin "type.__call__" ⟨.ref C :: us, kw⟩)).depth = A.depth + 1 := by
  first | rfl | simp [Around.under, Code.weight, Code.isCreation, Code.isGuard, Code.isCaller, Code.frames, Code.isFrame, guardIds]
theorem make_units {A : Around} {C : Addr} {us : List Value} {kw : List (Str × Value)} : (A.under (.builtin "type.__call__" ⟨.ref C :: us, kw⟩)).units = A.units + 1 := by
  first | rfl | simp [Around.under, Code.cUnits, Code.frames, Code.isFrame]
theorem Room.make {k : Nat} {A : Around} (r : Room (k + 1) A) (C : Addr) (us : List Value) (kw : List (Str × Value)) : Room k (A.under (.builtin "type.__call__" ⟨.ref C :: us, kw⟩)) :=
  ⟨r.hd, by have := r.dp; rw [make_depth]; omega, by have := r.un; rw [make_units]; omega, by first | exact r.gd | (simpa [Around.under, Code.isGuard, guardIds] using r.gd)⟩
theorem Room.depth {k : Nat} {A : Around} (r : Room k A) : A.depth < recursionLimit := by have := r.dp; omega
theorem Room.units {k : Nat} {A : Around} (r : Room k A) : A.units + 64 < cLine := by have := r.un; omega
noncomputable def tNil : TA := fun _ H Q => Q [] H
noncomputable def tCons (ta : TE) (tr : TA) : TA := fun σ H Q => ta σ H fun x H1 => tr σ H1 fun xs H2 => Q (x :: xs) H2
section
variable {X : Cx} {e : Expr} {es : List Expr} {te : TE} {t : TA} {pos : Pos}
theorem pa_nil : PA X [] tNil := fun _ _ _ _ H Q I h => Calls.spliced_nil ⟨[], H, I, .nil, h⟩
theorem pa_cons (ha : PE X e te) (hr : PA X es t) (hs : starEach (e :: es) X.env = (false, eval e X.env) :: starEach es X.env := by rfl) : PA X (e :: es) (tCons te t) := by
  intro pos pins s σ H Q I h
  rw [hs]
  show wpAny _ _ (spliced ((false, eval e X.env) :: backTo pos (starEach es X.env))) _ _ s
  refine Calls.spliced_cons (thn (ha pins s σ H _ I h) fun u s1 ⟨x, H1, I1, r1, q1⟩ => ?_)
  exact thn (hr pos pins s1 σ H1 _ I1 q1) fun us s2 ⟨xs, H2, I2, r2, q2⟩ => ⟨x :: xs, H2, I2, .cons r1 r2, q2⟩
noncomputable def tTup (t : TA) : TE := fun σ H Q => t σ H fun xs H1 => xs.length ≤ sizeLine ∧ ∀ p, H1 p = none → Q (.ref p) (upd H1 p (.tup xs))
noncomputable def tLst (t : TA) : TE := fun σ H Q => t σ H fun xs H1 => xs.length ≤ sizeLine ∧ ∀ p, H1 p = none → Q (.ref p) (upd H1 p (.lst xs))
theorem pe_tup {x1} (h : PA X es t) : PE X (.Tuple es x1 pos) (tTup t) := by
  intro pins s σ H Q I hq
  refine wpAny_Tuple_spliced (thn (h pos pins s σ H _ I hq) fun us s1 ⟨xs, H1, I1, r, z, q⟩ => ⟨by rw [← r.length]; exact z, ?_⟩)
  have hf : H1 s1.heap.objs.size = none := I1.hok.fresh (Nat.le_refl _)
  refine ⟨.ref s1.heap.objs.size, upd H1 s1.heap.objs.size (.tup xs), I1.laid (t' := s1.toks) (fun b u e => Heap.get?_push_of_some _ e) (Nat.le_refl _) ?_, rfl, q _ hf⟩
  exact ⟨z, us, r, ⟨_, Heap.get?_push_size _ rfl, rfl, _, rfl⟩⟩
theorem pe_lst (h : PA X es t) : PE X (.List es pos) (tLst t) := by
  intro pins s σ H Q I hq
  refine wpAny_List_spliced (thn (h pos pins s σ H _ I hq) fun us s1 ⟨xs, H1, I1, r, z, q⟩ => ⟨by rw [← r.length]; exact z, ?_⟩)
  have hf : H1 s1.heap.objs.size = none := I1.hok.fresh (Nat.le_refl _)
  refine ⟨.ref s1.heap.objs.size, upd H1 s1.heap.objs.size (.lst xs), I1.laid (t' := s1.toks) (fun b u e => Heap.get?_push_of_some _ e) (Nat.le_refl _) ?_, rfl, q _ hf⟩
  exact ⟨z, us, 0, r, Heap.get?_push_size _ rfl⟩
end
noncomputable abbrev Sp := List V → Hp → VK → XK → Prop
noncomputable abbrev CXT := List Env → Hp → Shared → XK → Value → Shared → Prop
structure Env0 (P : Program) (w : World) (K : PySem.W.Frag) (mg : Str → Option Value) (base : Heap) (A : Around) (outer : List Env) (s : Shared) (H : Hp) : Prop where
  frames : A.frames = some outer
  mod : Mod K mg base
  bs : ∀ b o, base.get? b = some o → s.heap.get? b = some o ∧ H b = none
  bsz : base.objs.size ≤ s.heap.objs.size
  funs : s.heap.FunFrames base outer
  frf : ∀ b ∈ frs outer, H b = none
  hok : HOk P w H s.heap
  bare : AllBare s.gens
noncomputable def CE (outer : List Env) (P : Program) (w : World) (H : Hp) (s : Shared) (Q : VK) (u : Value) (s' : Shared) : Prop :=
  ∃ v H', s'.os = s.os ∧ AllBare s'.gens ∧ Un (frs outer) [] H H' s.heap s'.heap ∧ HOk P w H' s'.heap ∧ RelV v u ∧ Q v H'
noncomputable def CR (CX : CXT) (outer : List Env) (P : Program) (w : World) (H : Hp) (s : Shared) (Q : VK) (E : XK) (r : Result) (s' : Shared) : Prop :=
  match r with
  | .ok (.ret u) => CE outer P w H s Q u s'
  | .ok _ => False
  | .error e => CX outer H s E e s'
structure FnOk (P : Program) (w : World) (K : PySem.W.Frag) (mg : Str → Option Value) (base : Heap) (CX : CXT) (k : Nat) (f : Addr) (fd : FuncData) (ps : List Str) (sp : Sp) : Prop where
  len : ∀ vs H Q E, sp vs H Q E → vs.length = ps.length
  run : ∀ (A : Around) (outer : List Env) (s : Shared) (H : Hp) (args : Args) (us : List Value) (vs : List V) (Q : VK) (E : XK), Room k A → Env0 P w K mg base A outer s H → BindsTo s fd args (ps.zip us) → Vals vs us → sp vs H Q E →
    codeAny (model P w) A (.call (.ref f) args) (CR CX outer P w H s Q E) s
theorem FnOk.mono {P : Program} {w : World} {K : PySem.W.Frag} {mg : Str → Option Value} {base : Heap} {CX : CXT} {j k : Nat} {f : Addr} {fd : FuncData} {ps : List Str} {sp : Sp} (F : FnOk P w K mg base CX j f fd ps sp) (h : j ≤ k) :
    FnOk P w K mg base CX k f fd ps sp := ⟨F.len, fun A outer s H args us vs Q E hr => F.run A outer s H args us vs Q E (hr.mono h)⟩
theorem Env0.make {P : Program} {w : World} {K : PySem.W.Frag} {mg : Str → Option Value} {base : Heap} {A : Around} {outer : List Env} {s : Shared} {H : Hp} (e : Env0 P w K mg base A outer s H) (C : Addr) (us : List Value) (kw : List (Str × Value)) :
    Env0 P w K mg base (A.under (.builtin "type.__call__" ⟨.ref C :: us, kw⟩)) outer s H := ⟨by first | exact e.frames | (simpa [Around.under, Code.envs, Code.isFrame, pushEnvs] using e.frames), e.mod, e.bs, e.bsz, e.funs, e.frf, e.hok, e.bare⟩
theorem Env0.in1 {P : Program} {w : World} {K : PySem.W.Frag} {mg : Str → Option Value} {base : Heap} {A : Around} {outer : List Env} {s : Shared} {H : Hp} (e : Env0 P w K mg base A outer s H) :
    Env0 P w K mg base A.in1 outer s H := ⟨e.frames, e.mod, e.bs, e.bsz, e.funs, e.frf, e.hok, e.bare⟩
section
variable {X : Cx} {pins : List (Addr × Obj)} {σ : St} {H : Hp} {s s' : Shared}
theorem Inv.env0 (I : Inv X pins σ H s) : Env0 X.prog X.w X.K X.mg X.base X.A X.stack s H :=
  ⟨I.ok.frames, I.ok.mod, I.bs, Nat.le_trans I.ok.bsz I.sz, I.stack, I.stkFree, I.hok, I.bare⟩
theorem Inv.after {Q : VK} {u : Value} (I : Inv X pins σ H s) (h : CE X.stack X.prog X.w H s Q u s') : EP X pins σ Q u s' := by
  obtain ⟨v, H', os, bare, un, hok, r, q⟩ := h
  obtain ⟨hh, g, d, t, os'⟩ := s'
  obtain rfl : os' = s.os := os
  exact ⟨v, H', I.call (h' := hh) (g' := g) (d' := d) (t' := t) (ch := []) un hok bare (fun b z => absurd z (by simp)), r, q⟩
end
noncomputable def tCall (sp : Sp) (dvs : List V) (E : XK) (t : TA) : TE := fun σ H Q => t σ H fun vs H1 => sp (vs ++ dvs) H1 Q E
noncomputable def tMeth (C : Addr) (m : Str) (sp : Sp) (dvs : List V) (E : XK) (ta : TE) (t : TA) : TE := fun σ H Q => ta σ H fun x H1 => ∃ a dx fs, x = .ref a ∧ H1 a = some (.ins C dx fs) ∧ fs.lookup m = none ∧
  t σ H1 fun vs H2 => sp (x :: (vs ++ dvs)) H2 Q E
noncomputable def tMake (C : Addr) (sp : Sp) (dvs : List V) (E : XK) (t : TA) : TE := fun σ H Q => t σ H fun vs H1 => ∀ x dx, H1 x = none → H1 dx = none → dx ≠ x →
  sp (.ref x :: (vs ++ dvs)) (upd (upd H1 dx (.own x)) x (.ins C dx [])) (fun v H2 => v = .non ∧ Q (.ref x) H2) E
noncomputable def Binds (K : PySem.W.Frag) (fd : FuncData) (ps : List Str) (ds : List Value) : Prop :=
  ∀ (s : Shared) (us : List Value), K.In s.heap → (us ++ ds).length = ps.length → BindsTo s fd ⟨us, []⟩ (ps.zip (us ++ ds))
theorem Binds.all {K : PySem.W.Frag} {fd : FuncData} {ps : List Str} (h : ∀ us : List Value, us.length = ps.length → bindArgs fd ⟨us, []⟩ = pure (ps.zip us)) : Binds K fd ps [] := fun s us _ hl => by
  rw [List.append_nil] at hl ⊢
  exact .of_eq (h us hl)
noncomputable def Passes (CX : CXT) (X : Cx) (E : XK) : Prop := ∀ (pins : List (Addr × Obj)) (σ : St) (H : Hp) (s : Shared) (e : Value) (s' : Shared), Inv X pins σ H s → CX X.stack H s E e s' → X.xe e s'
section
variable {X : Cx} {CX : CXT} {k : Nat} {f C : Addr} {fd : FuncData} {ps : List Str} {sp : Sp} {dvs : List V} {ds : List Value} {E : XK} {x m : Str} {p pos apos : Pos} {e o : Expr} {es : List Expr} {ta : TE} {t : TA}
theorem run_fn {pins : List (Addr × Obj)} {σ : St} {H : Hp} {s : Shared} {Q : VK} {us : List Value} {vs : List V} (F : FnOk X.prog X.w X.K X.mg X.base CX k f fd ps sp) (hr : Room k X.A) (hb : Binds X.K fd ps ds) (hd : Vals dvs ds) (hx : Passes CX X E)
    (I : Inv X pins σ H s) (r : Vals vs us) (h : sp (vs ++ dvs) H Q E) : wpAny (model X.prog X.w) X.A (call (.ref f) us) (EP X pins σ Q) X.xe s := by
  have r2 : Vals (vs ++ dvs) (us ++ ds) := r.append hd
  have hl : (us ++ ds).length = ps.length := by rw [← r2.length]; exact F.len _ _ _ _ h
  refine wpAny_call (codeAny_mono (F.run X.A X.stack s H ⟨us, []⟩ (us ++ ds) (vs ++ dvs) Q E hr I.env0 (hb s us I.kIn hl) r2 h) fun r s' hq => ?_)
  cases r with
  | error e => exact hx pins σ H s e s' I hq
  | ok fl =>
    cases fl with
    | ret u => exact I.after hq
    | next => exact False.elim hq
    | brk => exact False.elim hq
    | cont => exact False.elim hq
theorem pe_call (F : FnOk X.prog X.w X.K X.mg X.base CX k f fd ps sp) (hr : Room k X.A) (hg : Gl X x) (hm : X.mg x = some (.ref f)) (hk : PySem.W.keepIn X.K (.ref f) = true) (hb : Binds X.K fd ps ds) (hd : Vals dvs ds) (hx : Passes CX X E)
    (ha : PA X (e :: es) t) (hdb : (x == ("__debug__" : Str)) = false := by decide) (he : starEach (e :: es) X.env = (false, eval e X.env) :: starEach es X.env := by rfl) (hpl : (backTo pos (starEach es X.env)).any (·.1) = false := by rfl) :
    PE X (.Call (.Name x p) (e :: es) [] pos) (tCall sp dvs E t) := by
  intro pins s σ H Q I h
  refine wpAny_Call_Name_kw (ld_glob I hg hm ?_ hdb)
  refine PySem.W.callWith_K (h₀ := X.base) I.ok.mod.kin hk (thn (ha pos pins s σ H _ I h) fun us s1 ⟨vs, H1, I1, r, q⟩ => ⟨I1.kIn, ?_⟩) he hpl
  exact run_fn F hr hb hd hx I1 r q
theorem pe_meth {pl : Sem Bool} (he : PE X o ta) (c : Cls X.K C) (hm : Meth X.K C m f) (F : FnOk X.prog X.w X.K X.mg X.base CX k f fd ps sp) (hr : Room k X.A) (hb : Binds X.K fd ps ds) (hd : Vals dvs ds) (hx : Passes CX X E) (ha : PA X (e :: es) t)
    (hst : starEach (e :: es) X.env = (false, eval e X.env) :: starEach es X.env := by rfl) (hpl : (backTo pos (starEach es X.env)).any (·.1) = false := by rfl)
    (ht : eval (.Call (.Attribute o m apos) (e :: es) [] pos) X.env = (do
      let ov ← eval o X.env
      standAt apos.atName
      let (f, first) ← holding [ov] (getMethod ov m pl)
      callWith pos f first (backTo pos (starEach (e :: es) X.env)) (backToKw pos (keywordEach [] X.env))) := by rfl) :
    PE X (.Call (.Attribute o m apos) (e :: es) [] pos) (tMeth C m sp dvs E ta t) := by
  intro pins s σ H Q I h
  refine PySem.W.methodCall_KW (pl := pl) (thn (he pins s σ H _ I h) fun u s1 ⟨x, H1, I1, rx, a, dx, fs, ex, ea, l, q⟩ => ?_) ht
  subst ex
  obtain rfl : u = Value.ref a := rx
  refine getmeth_ok I1 ea c hm l ?_
  refine PySem.W.callWith_K (first := [.ref a]) (h₀ := X.base) I.ok.mod.kin hm.kp (thn (ha pos pins s1 σ H1 _ I1 q) fun us s2 ⟨vs, H2, I2, r, q2⟩ => ⟨I2.kIn, ?_⟩) hst hpl
  exact run_fn (us := .ref a :: us) (vs := .ref a :: vs) F hr hb hd hx I2 (.cons rfl r) q2
theorem pe_meth0 {pl : Sem Bool} (he : PE X o ta) (c : Cls X.K C) (hm : Meth X.K C m f) (F : FnOk X.prog X.w X.K X.mg X.base CX k f fd ps sp) (hr : Room k X.A) (hb : Binds X.K fd ps ds) (hd : Vals dvs ds) (hx : Passes CX X E)
    (ht : eval (.Call (.Attribute o m apos) [] [] pos) X.env = (do
      let ov ← eval o X.env
      standAt apos.atName
      let (f, first) ← holding [ov] (getMethod ov m pl)
      callWith pos f first (backTo pos (starEach [] X.env)) (backToKw pos (keywordEach [] X.env))) := by rfl) :
    PE X (.Call (.Attribute o m apos) [] [] pos) (tMeth C m sp dvs E ta tNil) := by
  intro pins s σ H Q I h
  refine PySem.W.methodCall_KW (pl := pl) (thn (he pins s σ H _ I h) fun u s1 ⟨x, H1, I1, rx, a, dx, fs, ex, ea, l, q⟩ => ?_) ht
  subst ex
  obtain rfl : u = Value.ref a := rx
  refine getmeth_ok I1 ea c hm l ?_
  exact PySem.W.callWith_K0 (first := [.ref a]) I1.kIn hm.kp (run_fn (us := [.ref a]) (vs := [.ref a]) F hr hb hd hx I1 (.cons rfl .nil) q)
structure Mk (K : PySem.W.Frag) (C f : Addr) : Prop where
  makes : PySem.W.makesIn K C = true
  init : PySem.W.findIn K (.ref C) "__init__" = some (some (.ref f))
  fn : PySem.W.isFn K (.ref f) = true
  kp : PySem.W.keepIn K (.ref C) = true
theorem run_make {pins : List (Addr × Obj)} {σ : St} {H : Hp} {s : Shared} {Q : VK} {us : List Value} {vs : List V} (M : Mk X.K C f) (F : FnOk X.prog X.w X.K X.mg X.base CX k f fd ps sp) (hr : Room (k + 1) X.A) (hb : Binds X.K fd ps ds) (hd : Vals dvs ds)
    (hx : Passes CX X E) (I : Inv X pins σ H s) (r : Vals vs us)
    (h : ∀ x dx, H x = none → H dx = none → dx ≠ x → sp (.ref x :: (vs ++ dvs)) (upd (upd H dx (.own x)) x (.ins C dx [])) (fun v H2 => v = .non ∧ Q (.ref x) H2) E) :
    wpAny (model X.prog X.w) X.A (call (.ref C) us) (EP X pins σ Q) X.xe s := by
  have hq := h (s.heap.objs.size + 1) s.heap.objs.size (I.hok.fresh (Nat.le_succ _)) (I.hok.fresh (Nat.le_refl _)) (Nat.ne_of_lt (Nat.lt_succ_self _))
  have I2 := Inv.made (C := C) I
  have r2 : Vals (V.ref (s.heap.objs.size + 1) :: (vs ++ dvs)) (Value.ref (s.heap.objs.size + 1) :: (us ++ ds)) := .cons rfl (r.append hd)
  have hl : (Value.ref (s.heap.objs.size + 1) :: us ++ ds).length = ps.length := by
    have e := r2.length
    rw [F.len _ _ _ _ hq] at e
    exact e.symm
  refine wpAny_call (make_map (f := f) I.kIn M.makes M.init (beq_iff_eq.mp M.fn) (codeAny_mono (F.run _ X.stack _ _ ⟨Value.ref (s.heap.objs.size + 1) :: us, []⟩ (Value.ref (s.heap.objs.size + 1) :: (us ++ ds)) _ _ E (hr.make C us [])
    (I2.env0.make C us []) (hb _ (Value.ref (s.heap.objs.size + 1) :: us) I2.kIn hl) r2 hq) fun r s' hq' => ?_))
  cases r with
  | error e => exact hx pins σ _ _ e s' I2 hq'
  | ok fl =>
    cases fl with
    | ret u =>
      obtain ⟨v, H', I3, rv, ev, q3⟩ := I2.after hq'
      subst ev
      exact ⟨rv, ⟨V.ref (s.heap.objs.size + 1), H', I3, rfl, q3⟩⟩
    | next => exact False.elim hq'
    | brk => exact False.elim hq'
    | cont => exact False.elim hq'
theorem pe_make (M : Mk X.K C f) (F : FnOk X.prog X.w X.K X.mg X.base CX k f fd ps sp) (hr : Room (k + 1) X.A) (hg : Gl X x) (hm : X.mg x = some (.ref C)) (hb : Binds X.K fd ps ds) (hd : Vals dvs ds) (hx : Passes CX X E)
    (ha : PA X (e :: es) t) (hdb : (x == ("__debug__" : Str)) = false := by decide) (he : starEach (e :: es) X.env = (false, eval e X.env) :: starEach es X.env := by rfl) (hpl : (backTo pos (starEach es X.env)).any (·.1) = false := by rfl) :
    PE X (.Call (.Name x p) (e :: es) [] pos) (tMake C sp dvs E t) := by
  intro pins s σ H Q I h
  refine wpAny_Call_Name_kw (ld_glob I hg hm ?_ hdb)
  refine PySem.W.callWith_K (h₀ := X.base) I.ok.mod.kin M.kp (thn (ha pos pins s σ H _ I h) fun us s1 ⟨vs, H1, I1, r, q⟩ => ⟨I1.kIn, ?_⟩) he hpl
  exact run_make M F hr hb hd hx I1 r q
end
section
variable {X : Cx} {CX : CXT} {k : Nat} {f C : Addr} {fd : FuncData} {ps ks : List Str} {sp : Sp} {E : XK} {x m : Str} {p pos apos kpos : Pos} {e o : Expr} {es : List Expr} {kws : List Keyword} {te ta : TE} {t tk : TA} {nm : Option Str}
structure KBinds (K : PySem.W.Frag) (fd : FuncData) (ps ks : List Str) (g : List Value → List Value → List Value) (gV : List V → List V → List V) : Prop where
  to : ∀ (s : Shared) (us ws : List Value), K.In s.heap → (g us ws).length = ps.length → BindsTo s fd ⟨us, ks.zip ws⟩ (ps.zip (g us ws))
  rel : ∀ {vs : List V} {us : List Value} {zs : List V} {ws : List Value}, Vals vs us → Vals zs ws → Vals (gV vs zs) (g us ws)
variable {g : List Value → List Value → List Value} {gV : List V → List V → List V}
end
structure FnScope (N P : List Str) (sc : Scope) : Prop where
  kind : sc.kind = .function
  co : sc.isCoroutine = false
  gen : sc.isGenerator = false
  nd : N.Nodup
  pre : N.take P.length = P
  par : ∀ x ∈ P, sc.names.lookup x = some .local ∨ sc.names.lookup x = some .cell
  nofree : ∀ y ∈ sc.names, y.2 ≠ .free
theorem bindL_out {kindOf : Str → Option NameKind} {x : Str} : ∀ {binds : List (Str × Value)} {m : Str → Option Value}, (∀ v, (x, v) ∉ binds) → bindL kindOf binds m x = m x
  | [], _, _ => rfl
  | (n, v) :: r, m, h => by
    unfold bindL
    rw [bindL_out fun w hw => h w (List.mem_cons_of_mem _ hw)]
    split
    · have : x ≠ n := by rintro rfl; exact h v List.mem_cons_self
      simp [this]
    · rfl
theorem bindC_out {kindOf : Str → Option NameKind} {x : Str} : ∀ {binds : List (Str × Value)} {m : Str → Option Value}, (∀ v, (x, v) ∉ binds) → bindC kindOf binds m x = m x
  | [], _, _ => rfl
  | (n, v) :: r, m, h => by
    unfold bindC
    rw [bindC_out fun w hw => h w (List.mem_cons_of_mem _ hw)]
    split
    · rfl
    · have : x ≠ n := by rintro rfl; exact h v List.mem_cons_self
      simp [this]
theorem bindL_get {kindOf : Str → Option NameKind} {x : Str} {v : Value} : ∀ {P : List Str} {vs : List Value} {i : Nat} {m : Str → Option Value}, P.Nodup → P[i]? = some x → vs[i]? = some v → kindOf x = some .local →
    bindL kindOf (P.zip vs) m x = some v
  | [], _, _, _, _, h, _, _ => by simp at h
  | _ :: _, [], _, _, _, _, h, _ => by simp at h
  | p :: P, w :: vs, 0, m, nd, h1, h2, hk => by
    simp at h1 h2; subst h1; subst h2
    show bindL kindOf ((p, w) :: P.zip vs) m p = _
    unfold bindL
    rw [bindL_out fun v hv => (List.nodup_cons.mp nd).1 (List.of_mem_zip hv).1, if_pos hk]
    simp
  | p :: P, w :: vs, i + 1, m, nd, h1, h2, hk => by
    show bindL kindOf ((p, w) :: P.zip vs) m x = _
    unfold bindL
    exact bindL_get (i := i) (List.nodup_cons.mp nd).2 (by simpa using h1) (by simpa using h2) hk
theorem bindC_get {kindOf : Str → Option NameKind} {x : Str} {v : Value} : ∀ {P : List Str} {vs : List Value} {i : Nat} {m : Str → Option Value}, P.Nodup → P[i]? = some x → vs[i]? = some v → kindOf x ≠ some .local →
    bindC kindOf (P.zip vs) m x = some v
  | [], _, _, _, _, h, _, _ => by simp at h
  | _ :: _, [], _, _, _, _, h, _ => by simp at h
  | p :: P, w :: vs, 0, m, nd, h1, h2, hk => by
    simp at h1 h2; subst h1; subst h2
    show bindC kindOf ((p, w) :: P.zip vs) m p = _
    unfold bindC
    rw [bindC_out fun v hv => (List.nodup_cons.mp nd).1 (List.of_mem_zip hv).1, if_neg hk]
    simp
  | p :: P, w :: vs, i + 1, m, nd, h1, h2, hk => by
    show bindC kindOf ((p, w) :: P.zip vs) m x = _
    unfold bindC
    exact bindC_get (i := i) (List.nodup_cons.mp nd).2 (by simpa using h1) (by simpa using h2) hk
noncomputable def start (N : List Str) (vs : List V) : St := vs.map some ++ List.replicate (N.length - vs.length) none
noncomputable def cxOf (CX : CXT) (P : Program) (w : World) (K : PySem.W.Frag) (mg : Str → Option Value) (base : Heap) (N : List Str) (qual : Str) (scope : Scope) (f : Addr) (cd : Value) (A : Around) (outer : List Env) (s : Shared) (H : Hp) (E : XK) : Cx where
  prog := P
  w := w
  K := K
  mg := mg
  base := base
  A := A.deeper (envOfC qual scope s.heap.objs.size f cd)
  N := N
  s₀ := s
  H₀ := H
  env := envOfC qual scope s.heap.objs.size f cd
  outer := outer
  stack := envOfC qual scope s.heap.objs.size f cd :: outer
  ex := []
  calm := true
  fn := fun _ => true
  pn := []
  xe := fun e s' => wpAny (model P w) (A.deeper (envOfC qual scope s.heap.objs.size f cd)) (leaving (envOfC qual scope s.heap.objs.size f cd) e) (fun _ s'' => CX outer H s E e s'') (fun e' s'' => CX outer H s E e' s'') s'
theorem cell_has {sc : Scope} {n : Nat} {x : Str} (h : sc.names.lookup x = some .cell) : ∃ c, (cellsFrom n sc.names []).lookup x = some c := by
  have q := PySem.W.cellsFrom_some sc.names n [] (.inl h)
  exact Option.isSome_iff_exists.mp q
theorem inv_start {CX : CXT} {P : Program} {w : World} {K : PySem.W.Frag} {mg : Str → Option Value} {base : Heap} {N ps : List Str} {qual : Str} {scope : Scope} {f : Addr} {cd : Value} {A : Around} {outer : List Env} {s s1 : Shared} {H : Hp} {E : XK} {us : List Value} {vs : List V}
    (S : FnScope N ps scope) (hd : A.handled = none) (e0 : Env0 P w K mg base A outer s H) (hl : vs.length = ps.length) (r : Vals vs us)
    (x : InCallC s s.heap.objs.size (bindL (envOfC qual scope s.heap.objs.size f cd).kindOf (ps.zip us) fun _ => none) (cellsFrom (s.heap.objs.size + 1) scope.names []) (bindC (envOfC qual scope s.heap.objs.size f cd).kindOf (ps.zip us) fun _ => none) s1) :
    Inv (cxOf CX P w K mg base N qual scope f cd A outer s H E) [] (start N vs) H s1 := by
  have hpl : ps.length ≤ N.length := by have := congrArg List.length S.pre; rw [List.length_take] at this; omega
  obtain ⟨h1, tk, rfl, hk⟩ := x.done
  have noA : ∀ b : Addr, b ∉ (cxOf CX P w K mg base N qual scope f cd A outer s H E).ex := fun b z => absurd (show b ∈ ([] : List Addr) from z) (by simp)
  refine ⟨⟨e0.mod, S.kind, rfl, rfl, Nat.le_refl _, fun y z c h1 h2 => ?_, fun y hy => ?_, fun y c _ h => ?_, fun _ => hd, Around.frames_deeper e0.frames, .inr ⟨rfl, rfl⟩, fun b z => absurd z (noA b), e0.bs, e0.bsz, fun b _ _ => noA b, fun b z => absurd z (noA b), e0.funs, e0.frf⟩,
    rfl, e0.bare, Un.kept hk, ⟨_, x.toInCall.ns, fun i y v h1 h2 h3 => ?_⟩, fun y c h => ⟨_, x.cell y c h⟩, e0.hok.fresh (Nat.le_refl _), fun y c h => ?_, fun p hp => absurd (show p ∈ ([] : List (Addr × Obj)) from hp) (by simp), e0.hok.kept hk, ?_⟩
  · exact name_of_addr x.apart (PySem.mem_of_lookup h1) (PySem.mem_of_lookup h2)
  · have hy : scope.names.lookup y = some .cell ∨ scope.names.lookup y = some .free := hy
    rcases hy with hy | hy
    · exact cell_has hy
    · exact absurd rfl (S.nofree _ (PySem.mem_of_lookup hy))
  · exact Nat.le_of_lt (x.above y c (PySem.mem_of_lookup h))
  · have hi : i < vs.length := by
      unfold start at h2
      by_cases hi : i < vs.length
      · exact hi
      · rw [List.getElem?_append_right (by simpa using hi)] at h2
        rw [List.getElem?_replicate] at h2
        split at h2 <;> cases h2
    have ha : vs[i]? = some v := by
      unfold start at h2
      rw [List.getElem?_append_left (by simpa using hi), List.getElem?_map] at h2
      cases e : vs[i]? with
      | none => rw [e] at h2; cases h2
      | some a => rw [e] at h2; cases h2; rfl
    obtain ⟨u, hu, rv⟩ := r.get ha
    have hp : ps[i]? = some y := by
      rw [← S.pre, List.getElem?_take_of_lt (by omega)]; exact h1
    have ndP : ps.Nodup := by rw [← S.pre]; exact S.nd.sublist (List.take_sublist _ _)
    refine ⟨u, rv, ?_⟩
    rcases S.par y (List.mem_of_getElem? hp) with k | k
    · exact .inl ⟨k, bindL_get ndP hp hu k⟩
    · obtain ⟨c, e⟩ := cell_has (n := s.heap.objs.size + 1) k
      refine .inr ⟨.inl k, c, e, ?_⟩
      have q := x.cell y c e
      rw [bindC_get ndP hp hu (by show scope.names.lookup y ≠ _; rw [k]; decide)] at q
      exact q
  · exact e0.hok.fresh (Nat.le_of_lt (x.above y c (PySem.mem_of_lookup h)))
  · unfold start
    show _ = N.length
    rw [List.length_append, List.length_map, List.length_replicate]
    omega
theorem fn_of {CX : CXT} {P : Program} {w : World} {K : PySem.W.Frag} {mg : Str → Option Value} {base : Heap} {k : Nat} {f : Addr} {name qual : Str} {params : Arguments} {body : List Stmt} {scope : Scope} {dV kV doc pm cdv ct oc : Value} {an od : Option Addr}
    {osl : Array (Option Value)} {N ps : List Str} {sp : Sp} (lk : K.lookup f = some ⟨oc, od, .func (PySem.W.fnOf name qual params body scope dV kV doc pm an cdv ct), osl⟩) (hcd : PySem.W.codeIn K cdv qual = true) (S : FnScope N ps scope)
    (len : ∀ vs H Q E, sp vs H Q E → vs.length = ps.length)
    (hbody : ∀ (A : Around) (outer : List Env) (s : Shared) (H : Hp) (vs : List V) (Q : VK) (E : XK), Room k (A.deeper (envOfC qual scope s.heap.objs.size f cdv)) → sp vs H Q E →
      ∃ t, PSs (cxOf CX P w K mg base N qual scope f cdv A outer s H E) body t ∧ t { nx := fun _ H' => Q .non H', rt := Q } (start N vs) H) :
    FnOk P w K mg base CX (k + 1) f (PySem.W.fnOf name qual params body scope dV kV doc pm an cdv ct) ps sp := by
  refine ⟨len, fun A outer s H args us vs Q E hr e0 hb r hsp => ?_⟩
  have hl := len _ _ _ _ hsp
  have KX : K.In s.heap := e0.mod.kin.keeps fun b o e => (e0.bs b o e).1
  have lim : s.heap.NoLimit := e0.mod.nolimit.keeps fun b o e => (e0.bs b o e).1
  have hkind : ∀ y ∈ ps.zip us, scope.names.lookup y.1 = some .local ∨ (scope.names.lookup y.1 = some .cell ∧ ((cellsFrom (s.heap.objs.size + 1) scope.names []).lookup y.1).isSome = true) := fun ⟨n, v⟩ hy => by
    rcases S.par n (List.of_mem_zip hy).1 with q | q
    · exact .inl q
    · exact .inr ⟨q, PySem.W.cellsFrom_some _ _ _ (.inl q)⟩
  refine codeAny_call_function hr.depth (KX _ _ lk) rfl S.co S.gen rfl (PySem.W.codeRec_of KX hcd) (hb _ _ _ _ ?_)
  refine wpAny_newFunctionEnv_cells S.kind hkind fun env he s1 x => ?_
  subst he
  refine ⟨lim.keeps x.toInCall.keep, codeAny_func ?_⟩
  obtain ⟨t, ht, hq⟩ := hbody A outer s H vs Q E (hr.deeper _) hsp
  have I : Inv (cxOf CX P w K mg base N qual scope f cdv A outer s H E) [] (start N vs) H s1 := inv_start S hr.hd e0 hl r x
  refine wpAny_mono (ht [] s1 (start N vs) H _ I hq) (fun fl s' hs => ?_) fun e s' hs => hs
  have fin : ∀ {σ' : St} {H' : Hp} {v : V} {u : Value}, Inv (cxOf CX P w K mg base N qual scope f cdv A outer s H E) [] σ' H' s' → RelV v u → Q v H' → CE outer P w H s Q u s' :=
    fun {σ' H' v u} J rv q => ⟨v, H', J.os, J.bare, J.base, J.hok, rv, q⟩
  cases fl with
  | ret u =>
    obtain ⟨v, σ', H', J, rv, q⟩ := hs
    exact fin J rv q
  | next =>
    obtain ⟨σ', H', J, q⟩ := hs
    exact fin (v := V.non) (u := Value.none) J rfl q
  | brk =>
    obtain ⟨_, _, _, q⟩ := hs
    exact False.elim q
  | cont =>
    obtain ⟨_, _, _, q⟩ := hs
    exact False.elim q
end L2
namespace L2
open PySem PySem.Spec PyProof.Rows
section
variable {X : Cx} {x : Str} {p pos : Pos} {e : Expr} {es : List Expr} {t : TA} {id T : String} {r : List V → Hp → VK → Prop}
noncomputable def tCB (r : List V → Hp → VK → Prop) (t : TA) : TE := fun σ H Q => t σ H fun vs H1 => r vs H1 Q
theorem pe_callB (hc : CallR X (.builtin id) r) (hg : Gl X x) (hm : X.mg x = none) (hv : bootBuiltins x = some (.builtin id)) (ha : PA X (e :: es) t) (hn : x ≠ "__name__" := by decide) (hdb : (x == ("__debug__" : Str)) = false := by decide)
    (he : starEach (e :: es) X.env = (false, eval e X.env) :: starEach es X.env := by rfl) (hpl : (backTo pos (starEach es X.env)).any (·.1) = false := by rfl) : PE X (.Call (.Name x p) (e :: es) [] pos) (tCB r t) := by
  intro pins s σ H Q I h
  refine wpAny_Call_Name_kw (ld_blt I hg hm hv ?_ hn hdb)
  exact PyProof.Rows.callWith_builtin1 (thn (ha pos pins s σ H _ I h) fun us s1 ⟨vs, H1, I1, r1, q1⟩ => hc pins s1 σ H1 vs us Q I1 r1 q1) he hpl
theorem pe_callTy (hc : CallR X (.type T) r) (hg : Gl X x) (hm : X.mg x = none) (hv : bootBuiltins x = some (.type T)) (ha : PA X (e :: es) t) (hn : x ≠ "__name__" := by decide) (hdb : (x == ("__debug__" : Str)) = false := by decide)
    (he : starEach (e :: es) X.env = (false, eval e X.env) :: starEach es X.env := by rfl) (hpl : (backTo pos (starEach es X.env)).any (·.1) = false := by rfl) : PE X (.Call (.Name x p) (e :: es) [] pos) (tCB r t) := by
  intro pins s σ H Q I h
  refine wpAny_Call_Name_kw (ld_blt I hg hm hv ?_ hn hdb)
  exact PyProof.Rows.callWith_type1 (thn (ha pos pins s σ H _ I h) fun us s1 ⟨vs, H1, I1, r1, q1⟩ => hc pins s1 σ H1 vs us Q I1 r1 q1) he hpl
end
end L2
namespace HT
open PySem PyProof.Rows
section
open PySem.SeqAt
open PySem.AutoSeq1 (wpAny_loadPart')
open PySem.MeetsSeq PySem.MeetsSeq2 PySem.MeetsSeq3
end
section
variable {prog : Program} {w : World} {A : Around} {E : Value → Shared → Prop} {s : Shared}
theorem cat_tup {t b : Addr} {vs ws : List Value} {Q : Value → Shared → Prop} (ht : IsTup s.heap t vs.toArray) (hb : IsTup s.heap b ws.toArray) (hv : vs ≠ [])
    (h1 : ws = [] → Q (.ref t) s) (h2 : ws ≠ [] → Q (.ref s.heap.objs.size) { s with heap := s.heap.push { cls := .type "tuple", data := .seq (vs ++ ws).toArray } })
    (hsz : vs.length + ws.length ≤ sizeLine) : wpAny (model prog w) A (binaryOp .Add (.ref t) (.ref b)) Q E s := by
  obtain ⟨⟨cls, dd, data, sl⟩, ho, hc, n, hd⟩ := id ht
  obtain ⟨⟨cls2, dd2, data2, sl2⟩, ho2, hc2, n2, hd2⟩ := id hb
  simp only at hc hd hc2 hd2
  subst hc hd hc2 hd2
  have e : vs.toArray ++ ws.toArray = (vs ++ ws).toArray := by simp
  by_cases hw : ws = []
  · exact concat_meets ⟨_, ho, rfl⟩ ⟨_, ho2, rfl⟩ noFill_tuple_add seq_tuple_add PySem.F.slot_tuple_add PySem.F.entry_tuple_add (PySem.F.args_tuple_add_2 _ _)
      (tuple_addW1 t b vs.toArray ws.toArray n n2 dd dd2 sl sl2 (by simpa using hv) (by simp [hw])) ⟨ho, ho2, h1 hw⟩
  · refine concat_meets ⟨_, ho, rfl⟩ ⟨_, ho2, rfl⟩ noFill_tuple_add seq_tuple_add PySem.F.slot_tuple_add PySem.F.entry_tuple_add (PySem.F.args_tuple_add_2 _ _)
      (tuple_addW2 t b vs.toArray ws.toArray n n2 dd dd2 sl sl2 (by simpa using hv) (by simpa using hw) (by rw [List.size_toArray, List.size_toArray]; exact hsz)) ⟨ho, ho2, ?_⟩
    rw [e]
    exact h2 hw
noncomputable def sIx (n d : Nat) : Option Int → Nat
  | none => d
  | some v => if v < 0 then (v + (n : Int)).toNat else min v.toNat n
theorem sIx_none (n d : Nat) : sIx n d none = d := rfl
theorem sIx_nat (n d k : Nat) : sIx n d (some (k : Int)) = min k n := by
  show (if (k : Int) < 0 then ((k : Int) + (n : Int)).toNat else min (k : Int).toNat n) = min k n
  rw [if_neg (by omega), Int.toNat_natCast]
theorem sIx_le (n d : Nat) (hd : d ≤ n) (o : Option Int) : sIx n d o ≤ n := by
  cases o with
  | none => exact hd
  | some v =>
    show (if v < 0 then (v + (n : Int)).toNat else min v.toNat n) ≤ n
    by_cases hv : v < 0
    · rw [if_pos hv]; omega
    · rw [if_neg hv]; exact Nat.min_le_right _ _
theorem clip_eq (v : Int) (n d : Nat) : (if v < 0 then max (v + (n : Int)) 0 else min v (n : Int)) = ((sIx n d (some v) : Nat) : Int) := by
  show (if v < 0 then max (v + (n : Int)) 0 else min v (n : Int)) = (((if v < 0 then (v + (n : Int)).toNat else min v.toNat n) : Nat) : Int)
  by_cases hv : v < 0
  · simp only [if_pos hv]; omega
  · simp only [if_neg hv]; omega
theorem adjust_gen (lo hi : Option Int) (n : Nat) : Builtin.Slice.sliceAdjust lo hi 1 (n : Int) = (((sIx n 0 lo : Nat) : Int), ((sIx n n hi : Nat) : Int)) := by
  have h1 : ¬ ((1 : Int) < 0) := by omega
  unfold Builtin.Slice.sliceAdjust
  simp only [h1, if_false]
  refine Prod.ext ?_ ?_
  · cases lo with
    | none => rfl
    | some v => exact clip_eq v n 0
  · cases hi with
    | none => rfl
    | some v => exact clip_eq v n n
theorem places_gen (i j : Nat) : Builtin.Slice.slicePlaces (i : Int) (j : Int) 1 = j - i := by
  unfold Builtin.Slice.slicePlaces
  have h1 : (1 : Int) > 0 := by omega
  simp only [h1, if_true, Int.ediv_one]
  split <;> omega
theorem slicePart_ {v : Value} {o : Option Int} {Q : Option Int → Shared → Prop} (p : IsPart v o) (h : Q o s) : wpAny (model prog w) A (Builtin.Slice.slicePartIndex v) Q E s := by
  cases p with
  | none => exact slicePart_none h
  | int i t => exact slicePart_int h
theorem sliceApplied_gen {sl : Addr} {vl vu : Value} {lo hi : Option Int} {n : Nat} {Q : Int × Int × Nat → Shared → Prop} (hs : s.heap.IsSliceOf sl vl vu .none) (pl : IsPart vl lo) (pu : IsPart vu hi)
    (h : Q (((sIx n 0 lo : Nat) : Int), 1, sIx n n hi - sIx n 0 lo) s) : wpAny (model prog w) A (Builtin.Slice.sliceApplied (.ref sl) (pure (n : Int))) Q E s := by
  obtain ⟨os, hos, hcs, hds⟩ := id hs
  unfold Builtin.Slice.sliceApplied Builtin.Slice.sliceFields
  refine wpAny_bind (wpAny_bind (wpAny_field hos hds (x := vl) rfl (wpAny_bind (wpAny_field hos hds (x := vu) rfl (wpAny_bind (wpAny_field hos hds (x := .none) rfl (wpAny_pure ?_)))))))
  refine wpAny_bind (slicePart_none ?_)
  show wpAny _ _ (if ((1 : Int) == 0) = true then _ else _) _ _ s
  rw [if_neg (by decide)]
  refine wpAny_bind (slicePart_ pl (wpAny_bind (slicePart_ pu (wpAny_bind (wpAny_pure ?_)))))
  show wpAny _ _ (match Builtin.Slice.sliceAdjust lo hi 1 (n : Int) with | (lo, hi) => pure (lo, (1 : Int), Builtin.Slice.slicePlaces lo hi 1)) _ _ s
  rw [adjust_gen lo hi n]
  show wpAny _ _ (pure (((sIx n 0 lo : Nat) : Int), (1 : Int), Builtin.Slice.slicePlaces ((sIx n 0 lo : Nat) : Int) ((sIx n n hi : Nat) : Int) 1)) _ _ s
  rw [places_gen]
  exact wpAny_pure h
theorem pick_gen (xs : Array Value) (i k : Nat) : ((List.range k).filterMap fun (m : Nat) => xs[((i : Int) + (m : Int) * 1).toNat]?).toArray = ((xs.toList.drop i).take k).toArray := by
  have e : (fun (m : Nat) => xs[((i : Int) + (m : Int) * 1).toNat]?) = fun m => xs[i + m]? := by
    funext m
    have : ((i : Int) + (m : Int) * 1).toNat = i + m := by omega
    rw [this]
  rw [e]
  have := pick_run xs i k
  rw [List.filterMap_map] at this
  have e2 : ((fun x => xs[x]?) ∘ fun x => i + x) = fun m => xs[i + m]? := rfl
  rw [e2] at this
  rw [this]
theorem getItem_tuple_cut {t sl : Addr} {items : Array Value} {vl vu : Value} {lo hi : Option Int} {Q : Value → Shared → Prop} (ht : IsTup s.heap t items) (hs : s.heap.IsSliceOf sl vl vu .none) (pl : IsPart vl lo) (pu : IsPart vu hi)
    (hw : ¬ (sIx items.size 0 lo = 0 ∧ sIx items.size items.size hi = items.size))
    (h : Q (.ref s.heap.objs.size) { s with heap := s.heap.push { cls := .type "tuple", data := .seq ((items.toList.drop (sIx items.size 0 lo)).take (sIx items.size items.size hi - sIx items.size 0 lo)).toArray } })
    (hsz : items.size ≤ sizeLine) : wpAny (model prog w) A (getItem (.ref t) (.ref sl)) Q E s := by
  have htake : sizeOk (.seq ((items.toList.drop (sIx items.size 0 lo)).take (sIx items.size items.size hi - sIx items.size 0 lo)).toArray) := by
    show ((items.toList.drop (sIx items.size 0 lo)).take (sIx items.size items.size hi - sIx items.size 0 lo)).toArray.size ≤ sizeLine
    rw [List.size_toArray, List.length_take, List.length_drop, Array.length_toList]
    omega
  have hj : sIx items.size items.size hi ≤ items.size := sIx_le _ _ (Nat.le_refl _) hi
  obtain ⟨os, hos, hcs, hds⟩ := id hs
  have hTs : s.TypeIs (.ref sl) "slice" := ⟨os, hos, hcs⟩
  unfold getItem
  try with_reducible refine wpAny_holding ?_
  first | refine wpAny_bind (wpAny_pure ?_) | skip
  refine wpAny_bind (wpAny_sequenceKey ht.typeIs (by decide) ?_)
  refine wpAny_bind (wpAny_callSpecial?_slot (name := Str.ofString "__getitem__") ht.typeIs PyProof.Rows.slot_tuple_getitem
    (wpAny_call_entry PyProof.Rows.slot_tuple_getitem ht.typeIs entry_tuple_getitem ?_ (args_tuple_getitem _ _)))
  show wpAny _ _ (Builtin.Tuple.tupleItemsOf (.ref t) >>= _) _ _ s
  refine wpAny_bind (tupleItemsOf_ ht ?_)
  refine wpAny_bind (wpAny_typeOf hTs ?_)
  rw [if_pos (by decide)]
  refine wpAny_bind (sliceApplied_gen hs pl pu ?_)
  have hno : ¬ ((((sIx items.size 0 lo : Nat) : Int) == 0 && (1 : Int) == 1 && (sIx items.size items.size hi - sIx items.size 0 lo) == items.size) = true) := by
    intro q
    rw [Bool.and_eq_true, Bool.and_eq_true] at q
    have q1 : ((sIx items.size 0 lo : Nat) : Int) = 0 := eq_of_beq q.1.1
    have q2 : sIx items.size items.size hi - sIx items.size 0 lo = items.size := eq_of_beq q.2
    exact hw ⟨by omega, by omega⟩
  show wpAny _ _ (if (((sIx items.size 0 lo : Nat) : Int) == 0 && (1 : Int) == 1 && (sIx items.size items.size hi - sIx items.size 0 lo) == items.size) = true then _ else _) _ _ s
  rw [if_neg hno, pick_gen]
  first
    | exact wpAny_bind (m := Builtin.Tuple.tupleExact _) (wpAny_newObj_type (wpAny_pure ⟨_, rfl, wpAny_pure h⟩) htake)
    | exact wpAny_bind (m := Builtin.Tuple.tupleExact _) (wpAny_newObj_type (wpAny_bind (wpAny_pure (wpAny_pure ⟨_, rfl, wpAny_pure h⟩))) htake)
    | exact wpAny_bind (wpAny_bind (m := Builtin.Tuple.tupleExact _) (wpAny_newObj_type (wpAny_pure (wpAny_pure ⟨_, rfl, wpAny_pure h⟩)) htake))
    | exact wpAny_bind (wpAny_bind (m := Builtin.Tuple.tupleExact _) (wpAny_newObj_type (wpAny_pure ⟨_, rfl, wpAny_pure h⟩) htake))
end
end HT
namespace L2
open PySem PySem.Spec PyProof.Rows
noncomputable abbrev TO := St → Hp → (Option Int → Hp → Prop) → Prop
noncomputable def PO (X : Cx) (e : Option Expr) (t : TO) : Prop :=
  ∀ (pins : List (Addr × Obj)) (s : Shared) (σ : St) (H : Hp) (Q : Option Int → Hp → Prop), Inv X pins σ H s → t σ H Q →
    wpAny (model X.prog X.w) X.A (evalPart e X.env) (fun u s' => ∃ o H', Inv X pins σ H' s' ∧ IsPart u o ∧ Q o H') X.xe s
noncomputable def tNoPart : TO := fun _ H Q => Q none H
noncomputable def tPart (t : TE) : TO := fun σ H Q => t σ H fun x H1 => ∃ i, x = .int i ∧ Q (some i) H1
section
variable {X : Cx} {e : Expr} {te : TE} {lo hi : Option Expr} {tl th : TO} {pos p2 : Pos}
theorem po_none : PO X none tNoPart := by
  intro pins s σ H Q I h
  rw [evalPart_none]
  exact wpAny_pure ⟨none, H, I, .none, h⟩
theorem po_some (h : PE X e te) : PO X (some e) (tPart te) := by
  intro pins s σ H Q I hw
  rw [evalPart_some]
  refine thn (h pins s σ H _ I hw) fun u s1 ⟨x, H1, I1, r1, q1⟩ => ?_
  obtain ⟨i, rfl, q⟩ := q1
  obtain ⟨t, rfl⟩ := r1
  exact ⟨some i, H1, I1, .int i t, q⟩
noncomputable def SlR (X : Cx) (r : V → Option Int → Option Int → Hp → VK → Prop) : Prop :=
  ∀ (pins : List (Addr × Obj)) (s : Shared) (σ : St) (H : Hp) (x : V) (v vl vu : Value) (lo hi : Option Int) (sl : Addr) (Q : VK), Inv X pins σ H s → RelV x v → s.heap.IsSliceOf sl vl vu .none → IsPart vl lo → IsPart vu hi → r x lo hi H Q →
    ∃ T id, typeLookup (.type T) "__getitem__" = pure (some (.builtin id)) ∧ s.TypeIs v T ∧ wpAny (model X.prog X.w) X.A (getItem v (.ref sl)) (EP X pins σ Q) X.xe s
theorem SlR.or {r r' : V → Option Int → Option Int → Hp → VK → Prop} (h : SlR X r) (h' : SlR X r') : SlR X (fun x lo hi H Q => r x lo hi H Q ∨ r' x lo hi H Q) := by
  intro pins s σ H x v vl vu lo hi sl Q I rx hs pl pu q
  rcases q with q | q
  · exact h pins s σ H x v vl vu lo hi sl Q I rx hs pl pu q
  · exact h' pins s σ H x v vl vu lo hi sl Q I rx hs pl pu q
noncomputable def tSl (r : V → Option Int → Option Int → Hp → VK → Prop) (te : TE) (tl th : TO) : TE := fun σ H Q => te σ H fun x H1 => tl σ H1 fun l H2 => th σ H2 fun u H3 => r x l u H3 Q
theorem pe_slice {r : V → Option Int → Option Int → Hp → VK → Prop} (hr : SlR X r) (he : PE X e te) (hl : PO X lo tl) (hu : PO X hi th) : PE X (.Subscript e (.Slice lo hi none p2) pos) (tSl r te tl th) := by
  intro pins s σ H Q I h
  refine Subscript_ (thn (he pins s σ H _ I h) fun v s1 ⟨x, H1, I1, r1, q1⟩ => ?_)
  refine wpAny_Slice (thn (hl pins s1 σ H1 _ I1 q1) fun vl s2 ⟨l, H2, I2, pl, q2⟩ => thn (hu pins s2 σ H2 _ I2 q2) fun vu s3 ⟨u, H3, I3, pu, q3⟩ => ?_)
  rw [evalPart_none]
  refine wpAny_pure ?_
  have I4 : Inv X pins σ H3 { s3 with heap := s3.heap.push { cls := .type "slice", data := .fields #[vl, vu, .none] } } := I3.kept (t' := s3.toks) fun b ob q => Heap.get?_push_of_some _ q
  obtain ⟨T, id, hT, ht, hg⟩ := hr pins { s3 with heap := s3.heap.push { cls := .type "slice", data := .fields #[vl, vu, .none] } } σ H3 x v vl vu l u s3.heap.objs.size Q I4 r1 (Heap.IsSliceOf.new ..) pl pu q3
  show wpAny (model X.prog X.w) X.A (subscriptTail e (.Slice lo hi none p2) v (.ref s3.heap.objs.size)) (EP X pins σ Q) X.xe { s3 with heap := s3.heap.push { cls := .type "slice", data := .fields #[vl, vu, .none] } }
  exact tail_any (ops := [.ref s3.heap.objs.size, v]) ht hT hg (by with_unfolding_all rfl)
noncomputable def cutV (xs : List V) (lo hi : Option Int) : List V := (xs.drop (HT.sIx xs.length 0 lo)).take (HT.sIx xs.length xs.length hi - HT.sIx xs.length 0 lo)
theorem cutV_length (xs : List V) (lo hi : Option Int) : (cutV xs lo hi).length ≤ xs.length := by
  unfold cutV
  rw [List.length_take, List.length_drop]
  omega
noncomputable def rSlT (K : PySem.W.Frag) : V → Option Int → Option Int → Hp → VK → Prop := fun x lo hi H Q => ∃ a xs, x = .ref a ∧ SqT K H a xs ∧
  ¬ (HT.sIx xs.length 0 lo = 0 ∧ HT.sIx xs.length xs.length hi = xs.length) ∧ ∀ p, H p = none → Q (.ref p) (upd H p (.tup (cutV xs lo hi)))
theorem sl_tup : SlR X (rSlT X.K) := by
  intro pins s σ H x v vl vu lo hi sl Q I rx hs pl pu h
  obtain ⟨a, xs, rfl, hx, hw, q⟩ := h
  cases rx
  obtain ⟨its, r, ht, hz⟩ := I.tuple hx
  have hlen : its.toArray.size = xs.length := by rw [List.size_toArray]; exact r.length.symm
  refine ⟨"tuple", _, PyProof.Rows.slot_tuple_getitem.lookup, ht.typeIs, ?_⟩
  refine HT.getItem_tuple_cut ht hs pl pu (by rw [hlen]; exact hw) ?_ (by rw [hlen]; exact hz)
  rw [hlen]
  refine ⟨.ref s.heap.objs.size, _, I.laid (t' := s.toks) (o := .tup (cutV xs lo hi)) (fun b ob q => Heap.get?_push_of_some _ q) (Nat.le_refl _) ?_, rfl, q _ (I.hok.fresh (Nat.le_refl _))⟩
  exact ⟨Nat.le_trans (cutV_length xs lo hi) hz, _, (r.drop (HT.sIx xs.length 0 lo)).take (HT.sIx xs.length xs.length hi - HT.sIx xs.length 0 lo), IsTup.new _ _⟩
noncomputable def rCatT (K : PySem.W.Frag) : R2 := fun x y H Q => ∃ a b xs ys, x = .ref a ∧ y = .ref b ∧ SqT K H a xs ∧ SqT K H b ys ∧ xs ≠ [] ∧ xs.length + ys.length ≤ sizeLine ∧
  (ys = [] → Q (.ref a) H) ∧ (ys ≠ [] → ∀ p, H p = none → Q (.ref p) (upd H p (.tup (xs ++ ys))))
theorem Vals.nil_iff {xs : List V} {us : List Value} (r : Vals xs us) : us = [] ↔ xs = [] := by
  cases r with
  | nil => simp
  | cons _ _ => simp
theorem op_catT : OpR X (binaryOp .Add) (rCatT X.K) := by
  intro pins s σ H x y v u Q I rx ry h
  obtain ⟨a, b, xs, ys, rfl, rfl, ha, hb, hx, hz, q1, q2⟩ := h
  cases rx
  cases ry
  obtain ⟨its, r1, p1, _⟩ := I.tuple ha
  obtain ⟨its2, r2, p2, _⟩ := I.tuple hb
  refine HT.cat_tup p1 p2 (fun z => hx (r1.nil_iff.mp z)) (fun z => ⟨.ref a, H, I, rfl, q1 (r2.nil_iff.mp z)⟩) (fun z => ?_) (by rw [← r1.length, ← r2.length]; exact hz)
  refine ⟨.ref s.heap.objs.size, _, I.laid (t' := s.toks) (o := .tup (xs ++ ys)) (fun b ob q => Heap.get?_push_of_some _ q) (Nat.le_refl _) ?_, rfl, q2 (fun w => z (r2.nil_iff.mpr w)) _ (I.hok.fresh (Nat.le_refl _))⟩
  exact ⟨by rw [List.length_append]; exact hz, _, r1.append r2, IsTup.new _ _⟩
end
end L2
namespace L2
open PySem PySem.Spec PyProof.Rows
noncomputable def ixN (n : Nat) (i : Int) : Option Nat := if 0 ≤ i then (if i < n then some i.toNat else none) else if -(n : Int) ≤ i then some (i + n).toNat else none
noncomputable def atI {α : Type} (xs : List α) (i : Int) : Option α := (ixN xs.length i).bind fun j => xs[j]?
theorem ixN_seq {n : Nat} {i : Int} {j : Nat} (h : ixN n i = some j) : seqIndex? i n = some j ∧ j < n ∧ -(n : Int) ≤ i ∧ i < n := by
  unfold ixN at h
  by_cases h0 : 0 ≤ i
  · rw [if_pos h0] at h
    by_cases h1 : i < n
    · rw [if_pos h1] at h
      have e : i.toNat = j := Option.some.inj h
      exact ⟨by rw [seqIndex_of h0 h1, e], by omega, by omega, h1⟩
    · rw [if_neg h1] at h; cases h
  · rw [if_neg h0] at h
    by_cases h1 : -(n : Int) ≤ i
    · rw [if_pos h1] at h
      have e : (i + n).toNat = j := Option.some.inj h
      exact ⟨by rw [seqIndex_neg (by omega) h1, e], by omega, h1, by omega⟩
    · rw [if_neg h1] at h; cases h
theorem atI_get {α : Type} {xs : List α} {i : Int} {v : α} (h : atI xs i = some v) : ∃ j, seqIndex? i xs.length = some j ∧ xs[j]? = some v ∧ j < xs.length ∧ -(xs.length : Int) ≤ i ∧ i < xs.length := by
  unfold atI at h
  cases e : ixN xs.length i with
  | none => rw [e] at h; cases h
  | some j =>
    rw [e] at h
    obtain ⟨h1, h2, h3, h4⟩ := ixN_seq e
    exact ⟨j, h1, h, h2, h3, h4⟩
theorem atI_nat {α : Type} {xs : List α} {j : Nat} {v : α} (h : xs[j]? = some v) : atI xs (j : Int) = some v := by
  have hj : j < xs.length := (List.getElem?_eq_some_iff.mp h).1
  have e : ixN xs.length (j : Int) = some j := by
    unfold ixN
    rw [if_pos (by omega), if_pos (by omega)]; simp
  unfold atI; rw [e]; exact h
noncomputable def PlainIx (b : Expr) : Prop := ∀ o i, subscripted b false o i = operate [o, i] (getItem o i)
noncomputable def IxR (X : Cx) (r : R2) : Prop :=
  ∀ (value slice : Expr) (pins : List (Addr × Obj)) (s : Shared) (σ : St) (H : Hp) (x y : V) (v u : Value) (Q : VK), Inv X pins σ H s → RelV x v → RelV y u → r x y H Q →
    subscripted slice false v u = operate [v, u] (getItem v u) → wpAny (model X.prog X.w) X.A (subscriptTail value slice v u) (EP X pins σ Q) X.xe s
noncomputable def MtR (X : Cx) (id : String) (r : V → List V → Hp → VK → Prop) : Prop :=
  ∀ (pins : List (Addr × Obj)) (s : Shared) (σ : St) (H : Hp) (x : V) (xs : List V) (v : Value) (us : List Value) (Q : VK), Inv X pins σ H s → RelV x v → Vals xs us → r x xs H Q →
    wpAny (model X.prog X.w) X.A (call (.builtin id) (v :: us)) (EP X pins σ Q) X.xe s
section
variable {X : Cx} {a b : Expr} {ta tb : TE} {pos : Pos}
theorem IxR.or {r r' : R2} (h : IxR X r) (h' : IxR X r') : IxR X (fun x y H Q => r x y H Q ∨ r' x y H Q) := by
  intro value slice pins s σ H x y v u Q I rx ry q hs
  rcases q with q | q
  · exact h value slice pins s σ H x y v u Q I rx ry q hs
  · exact h' value slice pins s σ H x y v u Q I rx ry q hs
theorem MtR.or {id : String} {r r' : V → List V → Hp → VK → Prop} (h : MtR X id r) (h' : MtR X id r') : MtR X id (fun x xs H Q => r x xs H Q ∨ r' x xs H Q) := by
  intro pins s σ H x xs v us Q I rx rs q
  rcases q with q | q
  · exact h pins s σ H x xs v us Q I rx rs q
  · exact h' pins s σ H x xs v us Q I rx rs q
theorem pe_ix {r : R2} (hr : IxR X r) (ha : PE X a ta) (hb : PE X b tb) (hs : PlainIx b) : PE X (.Subscript a b pos) (tOp r ta tb) := by
  intro pins s σ H Q I h
  exact Subscript_ (binT ha hb I h fun v u s2 x y H2 I2 rx ry q => hr a b pins s2 σ H2 x y v u Q I2 rx ry q (hs _ _))
noncomputable def rIxL (K : PySem.W.Frag) : R2 := fun x y H Q => ∃ p xs i v, x = .ref p ∧ y = .int i ∧ SqL K H p xs ∧ atI xs i = some v ∧ Q v H
noncomputable def rIxT (K : PySem.W.Frag) : R2 := fun x y H Q => ∃ p xs i v, x = .ref p ∧ y = .int i ∧ SqT K H p xs ∧ atI xs i = some v ∧ Q v H
noncomputable def rIxS : R2 := fun x y H Q => ∃ z i c, x = .str z ∧ y = .int i ∧ z.length ≤ sizeLine ∧ atI z.cps.toList i = some c ∧ Q (.str ⟨#[c]⟩) H
theorem ix_list : IxR X (rIxL X.K) := by
  intro value slice pins s σ H x y v u Q I rx ry h hs
  obtain ⟨p, xs, i, z, rfl, rfl, hq, he, q⟩ := h
  cases rx
  obtain ⟨t, rfl⟩ := ry
  obtain ⟨its, r, pl, hz⟩ := I.list hq
  obtain ⟨j, h1, h2, h3, h4, h5⟩ := atI_get he
  obtain ⟨w, ew, rw'⟩ := r.get h2
  have hl := r.length
  have hn := line63
  have fin : EP X pins σ Q w s := ⟨z, H, I, rw', q⟩
  by_cases h0 : 0 ≤ i
  · have hj : i.toNat = j := by
      rw [seqIndex_of h0 h5] at h1
      exact Option.some.inj h1
    exact item_listR pl.isList h0 (by omega) (by rw [hj]; simpa using ew) fin hs
  · have hj : (i + (its.toArray.size : Int)).toNat = j := by
      rw [seqIndex_neg (by omega) h4] at h1
      rw [List.size_toArray, ← hl]
      exact Option.some.inj h1
    exact subscriptTail_builtinR (x := w) pl.isList.typeIs slot_list_getitem.lookup
      (wpAny_getItem_list_neg (Q := fun r s' => r = w ∧ EP X pins σ Q r s') pl.isList (by omega) (by rw [List.size_toArray] <;> omega) (by omega) (by rw [hj]; simpa using ew) ⟨rfl, fin⟩) hs
theorem ix_tup : IxR X (rIxT X.K) := by
  intro value slice pins s σ H x y v u Q I rx ry h hs
  obtain ⟨p, xs, i, z, rfl, rfl, hq, he, q⟩ := h
  cases rx
  obtain ⟨t, rfl⟩ := ry
  obtain ⟨its, r, pl, hz⟩ := I.tuple hq
  obtain ⟨j, h1, h2, h3, h4, h5⟩ := atI_get he
  obtain ⟨w, ew, rw'⟩ := r.get h2
  have hl := r.length
  have hn := line63
  have fin : EP X pins σ Q w s := ⟨z, H, I, rw', q⟩
  exact subscriptTail_builtinR (x := w) pl.typeIs slot_tuple_getitem.lookup
    (getItem_tuple (j := j) (Q := fun r s' => r = w ∧ EP X pins σ Q r s') pl (by omega) (by omega) (by rw [List.size_toArray, ← hl]; exact h1) (by simpa using ew) ⟨rfl, fin⟩) hs
theorem ix_str : IxR X rIxS := by
  intro value slice pins s σ H x y v u Q I rx ry h hs
  obtain ⟨z, i, c, rfl, rfl, hz, he, q⟩ := h
  obtain ⟨t, rfl⟩ := rx
  obtain ⟨t', rfl⟩ := ry
  obtain ⟨j, h1, h2, h3, h4, h5⟩ := atI_get he
  have hl : z.cps.toList.length = z.length := by simp [Str.length]
  rw [hl] at h1 h4 h5
  have hn := line63
  exact tail_any (typeIs_str s z t) slot_str_getitem.lookup (getItem_str (c := c) (by
    have e1 : decide (i < -(2 ^ 63 : Int)) = false := decide_eq_false (by omega)
    have e2 : decide (i ≥ 2 ^ 63) = false := decide_eq_false (by omega)
    rw [e1, e2, Bool.or_false]) (by rw [h1]; simpa using h2) ⟨.str ⟨#[c]⟩, H, I.tok _, ⟨_, rfl⟩, q⟩) hs
noncomputable def rIx (K : PySem.W.Frag) : R2 := fun x y H Q => rIxL K x y H Q ∨ rIxT K x y H Q ∨ rIxS x y H Q
theorem ix_seq : IxR X (rIx X.K) := ix_list.or (ix_tup.or ix_str)
theorem mapSeq_set (its : List Value) (n j : Nat) (u : Value) : Obj.mapSeq (·.setIfInBounds j u) { cls := .type "list", data := .seq its.toArray n } = { cls := .type "list", data := .seq (its.set j u).toArray n } := by
  simp [Obj.mapSeq]
theorem Inv.lst {pins : List (Addr × Obj)} {σ : St} {H : Hp} {s : Shared} {p : Addr} {xs : List V} (I : Inv X pins σ H s) (h : H p = some (.lst xs)) :
    ∃ (its : List Value) (n : Nat), Vals xs its ∧ s.heap.get? p = some { cls := .type "list", data := .seq its.toArray n } ∧ xs.length ≤ sizeLine := by
  obtain ⟨z, its, n, r, e⟩ := I.hok p _ h
  exact ⟨its, n, r, e, z⟩
theorem Inv.lstUpd {pins : List (Addr × Obj)} {σ : St} {H : Hp} {s : Shared} {p : Addr} {xs ys : List V} {its its' : List Value} {n n' : Nat} {f : Obj → Obj} (I : Inv X pins σ H s) (h : H p = some (.lst xs))
    (ho : s.heap.get? p = some { cls := .type "list", data := .seq its.toArray n }) (hf : f { cls := .type "list", data := .seq its.toArray n } = { cls := .type "list", data := .seq its'.toArray n' }) (r : Vals ys its') (hz : ys.length ≤ sizeLine) (t : Nat) :
    Inv X pins σ (upd H p (.lst ys)) { s with heap := s.heap.update p f, toks := t } := by
  have e : (s.heap.update p f).get? p = some { cls := .type "list", data := .seq its'.toArray n' } := by
    rw [Heap.get?_update_self f ho (by rw [hf] <;> rfl), hf]
  refine I.write (x := p) (e := p) (by rw [h]; trivial) (.inl rfl) (fun b u hb q => (Heap.get?_update_other _ _ (Ne.symm hb)).trans q) ⟨_, e⟩ ?_
  exact ⟨hz, its', n', r, e⟩
noncomputable def rSetL : V → V → V → Hp → (Hp → Prop) → Prop := fun o i v H Q => ∃ p xs k j, o = .ref p ∧ i = .int k ∧ H p = some (.lst xs) ∧ ixN xs.length k = some j ∧ Q (upd H p (.lst (xs.set j v)))
theorem set_list : PSet X rSetL := by
  intro pins s σ H o i v ov iv u Q I ro ri rv h
  obtain ⟨p, xs, k, j, rfl, rfl, hp, hj, q⟩ := h
  cases ro
  obtain ⟨t, rfl⟩ := ri
  obtain ⟨its, n, r, ho, hz⟩ := I.lst hp
  obtain ⟨h1, h2, h3, h4⟩ := ixN_seq hj
  have hl := r.length
  have hn := line63
  have I' : Inv X pins σ (upd H p (.lst (xs.set j v))) { s with heap := s.heap.update p (Obj.mapSeq (·.setIfInBounds j u)) } :=
    I.lstUpd hp ho (mapSeq_set its n j u) (r.set rv j) (by rw [List.length_set]; exact hz) s.toks
  by_cases h0 : 0 ≤ k
  · have hk : k.toNat = j := by
      rw [seqIndex_of h0 h4] at h1
      exact Option.some.inj h1
    exact PySem.W.ki_setAt ho h0 (by omega) (by rw [List.size_toArray, ← hl]; exact h4) (by rw [hk]; exact ⟨_, I', q⟩)
  · have hk : (k + (its.toArray.size : Int)).toNat = j := by
      rw [seqIndex_neg (by omega) h3] at h1
      rw [List.size_toArray, ← hl]
      exact Option.some.inj h1
    exact PySem.W.ki_setBack ho (by omega) (by rw [List.size_toArray, ← hl]; exact h3) (by omega) (by rw [hk]; exact ⟨_, I', q⟩)
theorem slice_bounds (lo hi : Option Int) (n : Nat) : (sliceBounds lo hi none n).1 = ((HT.sIx n 0 lo : Nat) : Int) ∧ (sliceBounds lo hi none n).2.1 = ((HT.sIx n n hi : Nat) : Int) ∧ (sliceBounds lo hi none n).2.2 = 1 := by
  refine ⟨?_, ?_, rfl⟩
  · cases lo with
    | none => simp [sliceBounds, HT.sIx]
    | some i =>
      simp only [sliceBounds, HT.sIx, Option.getD_none, show (1 : Int) > 0 by decide, if_true]
      by_cases h : i < 0
      · simp only [h, if_true] <;> omega
      · simp only [h, if_false] <;> omega
  · cases hi with
    | none => simp [sliceBounds, HT.sIx]
    | some i =>
      simp only [sliceBounds, HT.sIx, Option.getD_none, show (1 : Int) > 0 by decide, if_true]
      by_cases h : i < 0
      · simp only [h, if_true] <;> omega
      · simp only [h, if_false] <;> omega
theorem slicePick_cut (its : List Value) (lo hi : Option Int) : slicePick its.toArray lo hi none = ((its.drop (HT.sIx its.length 0 lo)).take (HT.sIx its.length its.length hi - HT.sIx its.length 0 lo)).toArray := by
  obtain ⟨h1, h2, h3⟩ := slice_bounds lo hi its.toArray.size
  unfold slicePick
  rw [h1, h2, h3]
  simp only [sliceRange_one, pick_run, List.size_toArray] <;> rfl
noncomputable def rSlL (K : PySem.W.Frag) : V → Option Int → Option Int → Hp → VK → Prop := fun x lo hi H Q => ∃ a xs, x = .ref a ∧ SqL K H a xs ∧ ∀ p, H p = none → Q (.ref p) (upd H p (.lst (cutV xs lo hi)))
theorem sl_list : SlR X (rSlL X.K) := by
  intro pins s σ H x v vl vu lo hi sl Q I rx hs pl pu h
  obtain ⟨a, xs, rfl, hx, q⟩ := h
  cases rx
  obtain ⟨its, r, ht, hz⟩ := I.list hx
  have hlen := r.length
  refine ⟨"list", _, slot_list_getitem.lookup, ht.isList.typeIs, ?_⟩
  refine wpAny_getItem_list_slice ht.isList hs pl pu .none (by simp) ?_ (by rw [List.size_toArray] <;> omega)
  rw [slicePick_cut, ← hlen]
  refine ⟨.ref s.heap.objs.size, _, I.laid (t' := s.toks) (o := .lst (cutV xs lo hi)) (fun b ob q => Heap.get?_push_of_some _ q) (Nat.le_refl _) ?_, rfl, q _ (I.hok.fresh (Nat.le_refl _))⟩
  exact ⟨Nat.le_trans (cutV_length xs lo hi) hz, _, 0, (r.drop (HT.sIx xs.length 0 lo)).take (HT.sIx xs.length xs.length hi - HT.sIx xs.length 0 lo), Heap.get?_push_size _ rfl⟩
noncomputable def flatV : V → Bool
  | .non => true
  | .bl _ => true
  | .int _ => true
  | .str _ => true
  | _ => false
noncomputable def eqV : V → V → Bool
  | .non, .non => true
  | .bl a, .bl b => a == b
  | .bl a, .int b => (if a then 1 else 0) == b
  | .int a, .bl b => a == (if b then 1 else 0)
  | .int a, .int b => a == b
  | .str a, .str b => a == b
  | _, _ => false
theorem eqAt_V {A : Around} {s : Shared} {y x : V} {u v : Value} (ry : RelV y u) (rx : RelV x v) (fy : flatV y = true) (fx : flatV x = true) : SeqAt.EqAt A s u v (eqV y x) := by
  cases y with
  | non =>
    cases ry
    cases x with
    | non => cases rx; exact SeqAt.EqAt.same _
    | bl b => cases rx; exact SeqAt.EqAt.none_bool b
    | int b => obtain ⟨t, rfl⟩ := rx; exact SeqAt.EqAt.none_int b t
    | str b => obtain ⟨t, rfl⟩ := rx; exact SeqAt.EqAt.none_str b t
    | _ => exact absurd (show false = true from fx) Bool.false_ne_true
  | bl a =>
    cases ry
    cases x with
    | non => cases rx; exact SeqAt.EqAt.bool_none a
    | bl b => cases rx; exact SeqAt.EqAt.bool_bool a b
    | int b => obtain ⟨t, rfl⟩ := rx; exact SeqAt.EqAt.bool_int a b t
    | str b => obtain ⟨t, rfl⟩ := rx; exact SeqAt.EqAt.bool_str a b t
    | _ => exact absurd (show false = true from fx) Bool.false_ne_true
  | int a =>
    obtain ⟨t', rfl⟩ := ry
    cases x with
    | non => cases rx; exact SeqAt.EqAt.int_none a t'
    | bl b => cases rx; exact SeqAt.EqAt.int_bool a t' b
    | int b => obtain ⟨t, rfl⟩ := rx; exact SeqAt.EqAt.int_int a t' b t
    | str b => obtain ⟨t, rfl⟩ := rx; exact SeqAt.EqAt.int_str a t' b t
    | _ => exact absurd (show false = true from fx) Bool.false_ne_true
  | str a =>
    obtain ⟨t', rfl⟩ := ry
    cases x with
    | non => cases rx; exact SeqAt.EqAt.str_none a t'
    | bl b => cases rx; exact SeqAt.EqAt.str_bool a t' b
    | int b => obtain ⟨t, rfl⟩ := rx; exact SeqAt.EqAt.str_int a t' b t
    | str b => obtain ⟨t, rfl⟩ := rx; exact SeqAt.EqAt.str_str a t' b t
    | _ => exact absurd (show false = true from fx) Bool.false_ne_true
  | _ => exact absurd (show false = true from fy) Bool.false_ne_true
noncomputable def eqU (x : V) (u : Value) : Bool := match u with
  | .none => eqV .non x
  | .bool b => eqV (.bl b) x
  | .int i _ => eqV (.int i) x
  | .str z _ => eqV (.str z) x
  | _ => false
theorem eqU_of {x y : V} {u : Value} (r : RelV y u) (f : flatV y = true) : eqU x u = eqV y x := by
  cases y with
  | non => cases r; rfl
  | bl b => cases r; rfl
  | int i => obtain ⟨t, rfl⟩ := r; rfl
  | str z => obtain ⟨t, rfl⟩ := r; rfl
  | _ => exact absurd (show false = true from f) Bool.false_ne_true
theorem any_eqU {x : V} : ∀ {xs : List V} {us : List Value}, Vals xs us → xs.all flatV = true → us.any (eqU x) = xs.any fun y => eqV y x
  | _, _, .nil, _ => rfl
  | y :: xs, u :: us, .cons r t, f => by
    rw [List.all_cons, Bool.and_eq_true] at f
    rw [List.any_cons, List.any_cons, eqU_of r f.1, any_eqU t f.2]
theorem mem_eqAt {A : Around} {s : Shared} {x : V} {v : Value} (rx : RelV x v) (fx : flatV x = true) : ∀ {xs : List V} {us : List Value}, Vals xs us → xs.all flatV = true → ∀ u ∈ us, SeqAt.EqAt A s u v (eqU x u)
  | _, _, .nil, _ => fun u hu => by cases hu
  | y :: xs, u :: us, .cons r t, f => fun u' hu => by
    rw [List.all_cons, Bool.and_eq_true] at f
    rcases List.mem_cons.mp hu with rfl | hu
    · rw [eqU_of r f.1]; exact eqAt_V r rx f.1 fx
    · exact mem_eqAt rx fx t f.2 u' hu
noncomputable def inV (x : V) (xs : List V) : Bool := xs.any fun y => eqV y x
noncomputable def rIn (K : PySem.W.Frag) (neg : Bool) : R2 := fun x y H Q => ∃ p xs, y = .ref p ∧ (SqL K H p xs ∨ SqT K H p xs) ∧ flatV x = true ∧ xs.all flatV = true ∧ Q (.bl (if neg then !inV x xs else inV x xs)) H
theorem op_in_seq : OpR X (compareOp .In) (rIn X.K false) := by
  intro pins s σ H x y v u Q I rx ry h
  obtain ⟨p, xs, rfl, hq, fx, fs, q⟩ := h
  cases ry
  rcases hq with hq | hq
  · obtain ⟨its, r, pl, hz⟩ := I.list hq
    refine SeqAt.in_listAt (eqU x) pl.isList (fun w hw => mem_eqAt rx fx r fs w (by simpa using hw)) ⟨.bl _, H, I, rfl, ?_⟩
    rw [show its.toArray.any (eqU x) = its.any (eqU x) by simp, any_eqU r fs]
    exact q
  · obtain ⟨its, r, pl, hz⟩ := I.tuple hq
    refine SeqAt.in_tupleAt (eqU x) pl (fun w hw => mem_eqAt rx fx r fs w (by simpa using hw)) ⟨.bl _, H, I, rfl, ?_⟩
    rw [show its.toArray.any (eqU x) = its.any (eqU x) by simp, any_eqU r fs]
    exact q
theorem op_notIn_seq : OpR X (compareOp .NotIn) (rIn X.K true) := by
  intro pins s σ H x y v u Q I rx ry h
  obtain ⟨p, xs, rfl, hq, fx, fs, q⟩ := h
  cases ry
  rcases hq with hq | hq
  · obtain ⟨its, r, pl, hz⟩ := I.list hq
    refine SeqAt.notIn_listAt (eqU x) pl.isList (fun w hw => mem_eqAt rx fx r fs w (by simpa using hw)) ⟨.bl _, H, I, rfl, ?_⟩
    rw [show its.toArray.any (eqU x) = its.any (eqU x) by simp, any_eqU r fs]
    exact q
  · obtain ⟨its, r, pl, hz⟩ := I.tuple hq
    refine SeqAt.notIn_tupleAt (eqU x) pl (fun w hw => mem_eqAt rx fx r fs w (by simpa using hw)) ⟨.bl _, H, I, rfl, ?_⟩
    rw [show its.toArray.any (eqU x) = its.any (eqU x) by simp, any_eqU r fs]
    exact q
theorem call_len_seq : CallR X (.builtin "len") (fun xs H Q => ∃ p ys, xs = [.ref p] ∧ (SqL X.K H p ys ∨ SqT X.K H p ys) ∧ Q (.int ys.length) H) := by
  intro pins s σ H xs us Q I r h
  obtain ⟨p, ys, rfl, hq, q⟩ := h
  obtain ⟨u, rfl, rx⟩ := vals1 r
  cases rx
  have hn := line63
  rcases hq with hq | hq
  · obtain ⟨its, r', pl, hz⟩ := I.list hq
    have hlen := r'.length
    exact Calls.call_len_list pl.isList (by simp only [List.size_toArray] <;> omega) ⟨.int ys.length, H, I.tok _, ⟨s.toks + 1, by rw [List.size_toArray, hlen]⟩, q⟩
  · obtain ⟨its, r', pl, hz⟩ := I.tuple hq
    have hlen := r'.length
    exact len_tuple pl (by simp only [List.size_toArray] <;> omega) ⟨.int ys.length, H, I.tok _, ⟨s.toks + 1, by rw [List.size_toArray, hlen]⟩, q⟩
theorem call_len_str : CallR X (.builtin "len") (fun xs H Q => ∃ z, xs = [.str z] ∧ z.length ≤ sizeLine ∧ Q (.int z.length) H) := by
  intro pins s σ H xs us Q I r h
  obtain ⟨z, rfl, hz, q⟩ := h
  obtain ⟨u, rfl, t, rfl⟩ := vals1 r
  have hn := line63
  exact len_str (by omega) ⟨.int z.length, H, I.tok _, ⟨_, rfl⟩, q⟩
theorem CallR.or {f : Value} {r r' : List V → Hp → VK → Prop} (h : CallR X f r) (h' : CallR X f r') : CallR X f (fun xs H Q => r xs H Q ∨ r' xs H Q) := by
  intro pins s σ H xs us Q I rs q
  rcases q with q | q
  · exact h pins s σ H xs us Q I rs q
  · exact h' pins s σ H xs us Q I rs q
theorem call_list_of : CallR X (.type "list") (fun xs H Q => ∃ p ys, xs = [.ref p] ∧ (SqL X.K H p ys ∨ SqT X.K H p ys) ∧ ∀ l, H l = none → Q (.ref l) (upd H l (.lst ys))) := by
  intro pins s σ H xs us Q I r h
  obtain ⟨p, ys, rfl, hq, q⟩ := h
  obtain ⟨u, rfl, rx⟩ := vals1 r
  cases rx
  have fin : ∀ (its : List Value), Vals ys its → ys.length ≤ sizeLine → ∀ (h' : Heap) (c' : Nat), (∀ b o', s.heap.get? b = some o' → h'.get? b = some o') →
      h'.get? s.heap.objs.size = some { cls := .type "list", dict := none, data := .seq its.toArray c', slots := #[] } → EP X pins σ Q (.ref s.heap.objs.size) { s with heap := h' } := fun its r' hz h' c' kp e =>
    ⟨.ref s.heap.objs.size, _, I.laid (t' := s.toks) kp (Nat.le_refl _) (show ObjOk X.prog X.w _ h' _ (.lst ys) from ⟨hz, its, c', r', e⟩), rfl, q _ (I.hok.fresh (Nat.le_refl _))⟩
  rcases hq with hq | hq
  · obtain ⟨its, r', pl, hz⟩ := I.list hq
    have hlen := r'.length
    obtain ⟨o, ho, hc, n, hd⟩ := pl.isList
    exact call_list_seq p (.inl rfl) ho hc hd (fun h' c' kp e => fin its r' hz h' c' kp e) (by simp only [List.size_toArray] <;> omega)
  · obtain ⟨its, r', pl, hz⟩ := I.tuple hq
    have hlen := r'.length
    obtain ⟨o, ho, hc, n, hd⟩ := pl
    exact call_list_seq p (.inr rfl) ho hc hd (fun h' c' kp e => fin its r' hz h' c' kp e) (by simp only [List.size_toArray] <;> omega)
theorem call_tuple_of : CallR X (.type "tuple") (fun xs H Q => ∃ p ys, xs = [.ref p] ∧ ((SqL X.K H p ys ∧ ∀ l, H l = none → Q (.ref l) (upd H l (.tup ys))) ∨ (SqT X.K H p ys ∧ Q (.ref p) H))) := by
  intro pins s σ H xs us Q I r h
  obtain ⟨p, ys, rfl, h⟩ := h
  obtain ⟨u, rfl, rx⟩ := vals1 r
  cases rx
  rcases h with ⟨hq, q⟩ | ⟨hq, q⟩
  · obtain ⟨its, r', pl, hz⟩ := I.list hq
    have hlen := r'.length
    refine call_tuple_list pl.isList (fun h' kp => ?_) (by simp only [List.size_toArray] <;> omega)
    have I1 : Inv X pins σ H { s with heap := h' } := I.kept (t' := s.toks) kp
    have I2 : Inv X pins σ (upd H h'.objs.size (.tup ys)) { s with heap := h'.push { cls := .type "tuple", data := .seq its.toArray } } :=
      I1.laid (t' := s.toks) (fun b o e => Heap.get?_push_of_some _ e) (Nat.le_refl _) (show ObjOk X.prog X.w _ _ _ (.tup ys) from ⟨hz, its, r', IsTup.new _ _⟩)
    exact ⟨.ref h'.objs.size, _, I2, rfl, q _ (I1.hok.fresh (Nat.le_refl _))⟩
  · obtain ⟨its, r', pl, hz⟩ := I.tuple hq
    exact call_tuple_same pl ⟨.ref p, H, I, rfl, q⟩
noncomputable def tyV (K : PySem.W.Frag) (T : String) (x : V) (H : Hp) : Prop := match x with
  | .str _ => T = "str"
  | .int _ => T = "int"
  | .ref p => (T = "list" ∧ ∃ xs, SqL K H p xs) ∨ (T = "tuple" ∧ ∃ o, K.lookup p = some o ∧ o.cls = .type "tuple" ∧ o.dict = none) ∨
      (T = "dict" ∧ ((∃ kvs, H p = some (.dK kvs)) ∨ ∃ kvs, H p = some (.dT kvs))) ∨ (T = "set" ∧ ∃ S n, H p = some (.set S n))
  | _ => False
theorem tyV_is {pins : List (Addr × Obj)} {σ : St} {H : Hp} {s : Shared} {T : String} {x : V} {v : Value} (I : Inv X pins σ H s) (r : RelV x v) (ty : tyV X.K T x H) :
    s.TypeIs v T ∧ ∀ a, v = .ref a → ∃ ob, s.heap.get? a = some ob ∧ ob.dict = none := by
  cases x with
  | str z =>
    obtain ⟨t, rfl⟩ := r
    cases (show T = "str" from ty)
    exact ⟨typeIs_str s z t, fun _ e => nomatch e⟩
  | int i =>
    obtain ⟨t, rfl⟩ := r
    cases (show T = "int" from ty)
    exact ⟨typeIs_int s i t, fun _ e => nomatch e⟩
  | ref p =>
    cases r
    rcases ty with ⟨rfl, xs, hq⟩ | ⟨rfl, o, hk, hc, hd⟩ | ⟨rfl, hk⟩ | ⟨rfl, S, n, hk⟩
    · obtain ⟨its, _, pl, _⟩ := I.list hq
      refine ⟨pl.isList.typeIs, fun a e => ?_⟩
      cases e
      obtain ⟨o, n, e, c, hd, _⟩ := pl
      exact ⟨o, e, hd⟩
    · refine ⟨⟨o, I.kIn p o hk, hc⟩, fun a e => ?_⟩
      cases e
      exact ⟨o, I.kIn _ o hk, hd⟩
    · have z : ∃ o, s.heap.get? p = some o ∧ o.ExactDict := by
        rcases hk with ⟨kvs, hk⟩ | ⟨kvs, hk⟩
        · obtain ⟨_, _, _, _, o, _, _, e, ex, _⟩ := I.hok p _ hk
          exact ⟨o, e, ex⟩
        · obtain ⟨_, _, _, _, o, _, _, e, ex, _⟩ := I.hok p _ hk
          exact ⟨o, e, ex⟩
      obtain ⟨o, e, ex⟩ := z
      refine ⟨⟨o, e, ex.1⟩, fun a e2 => ?_⟩
      cases e2
      exact ⟨o, e, ex.2.1⟩
    · obtain ⟨o, _, _, _, e, ex, _⟩ := I.hok p _ hk
      refine ⟨⟨o, e, ex.1⟩, fun a e2 => ?_⟩
      cases e2
      exact ⟨o, e, ex.2.1⟩
  | _ => exact False.elim ty
noncomputable def tBM (K : PySem.W.Frag) (T : String) (r : V → List V → Hp → VK → Prop) (to : TE) (t : TA) : TE := fun σ H Q => to σ H fun x H1 => tyV K T x H1 ∧ t σ H1 fun xs H2 => r x xs H2 Q
variable {o e : Expr} {es : List Expr} {to : TE} {t : TA} {name : Str} {apos cpos : Pos} {T id : String} {r : V → List V → Hp → VK → Prop}
theorem pe_bm (pa : PlainAttrs T) (slot : Slot T name id) (hty : typeOf (.builtin id) = pure (.type "method_descriptor")) (hm : MtR X id r) (ho : PE X o to) (ha : PA X (e :: es) t)
    (hbase : attributeBase o name X.env (eval o X.env) = eval o X.env := by rfl)
    (hfew : ((backTo cpos (starEach (e :: es) X.env)).all (fun x => !x.1) && (backToKw cpos (keywordEach [] X.env)).all (fun x => x.1.isSome)
      && decide ((e :: es).length + ([] : List Keyword).length + (if ([] : List Keyword).isEmpty then 0 else 1) < 30)) = true := by rfl)
    (hline : (apos.endLine == cpos.line) = true := by rfl) (hs : starEach (e :: es) X.env = (false, eval e X.env) :: starEach es X.env := by rfl) (hplain : (backTo cpos (starEach es X.env)).any (·.1) = false := by rfl) :
    PE X (.Call (.Attribute o name apos) (e :: es) [] cpos) (tBM X.K T r to t) := by
  intro pins s σ H Q I h
  refine wpAny_Call_method_late hbase hfew hline rfl (thn (ho pins s σ H _ I h) fun v s1 ⟨x, H1, I1, r1, ty, q1⟩ => ?_)
  obtain ⟨h1, h2⟩ := tyV_is I1 r1 ty
  refine ⟨T, id, pa, slot, hty, h1, h2, ?_⟩
  have hA := ha cpos pins s1 σ H1 _ I1 q1
  rw [hs] at hA ⊢
  refine Calls.callWith_builtin (by show (false || (backTo cpos (starEach es X.env)).any (·.1)) = false; rw [hplain] <;> rfl) (Calls.evalArgs_plain ?_)
  exact thn hA fun us s2 ⟨vs, H2, I2, r2, q2⟩ => hm pins s2 σ H2 x vs v us Q I2 r1 r2 q2
end
end L2
namespace L2
open PySem PySem.Spec PyProof.Rows
noncomputable def MtM (X : Cx) (id : String) (r : V → List V → Hp → VK → Prop) : Prop :=
  ∀ (pins : List (Addr × Obj)) (s : Shared) (σ : St) (H : Hp) (x : V) (xs : List V) (v : Value) (us : List Value) (Q : VK), Inv X pins σ H s → RelV x v → Vals xs us → r x xs H Q →
    wpAny (model X.prog X.w) X.A (call (.builtin id) (v :: us)) (EP X pins σ Q) X.xe s
theorem Vals.one : ∀ {x : V} {us : List Value}, Vals [x] us → ∃ u, us = [u] ∧ RelV x u
  | _, _, .cons r .nil => ⟨_, rfl, r⟩
theorem Vals.zero : ∀ {us : List Value}, Vals [] us → us = []
  | _, .nil => rfl
theorem Vals.dropLast {xs : List V} {us : List Value} (h : Vals xs us) : Vals xs.dropLast us.dropLast := by
  induction h with
  | nil => exact .nil
  | cons r t ih =>
    cases t with
    | nil => exact .nil
    | cons q t' => exact .cons r ih
theorem Vals.reverse {xs : List V} {us : List Value} (h : Vals xs us) : Vals xs.reverse us.reverse := by
  induction h with
  | nil => exact .nil
  | cons r t ih => rw [List.reverse_cons, List.reverse_cons]; exact Vals.append ih (.cons r .nil)
theorem Vals.rep {xs : List V} {us : List Value} (h : Vals xs us) : ∀ k : Nat, Vals (List.replicate k xs).flatten (List.replicate k us).flatten
  | 0 => .nil
  | k + 1 => by
    rw [List.replicate_succ, List.replicate_succ, List.flatten_cons, List.flatten_cons]
    exact Vals.append h (Vals.rep h k)
theorem foldl_rep (its : List Value) : ∀ (k : Nat) (acc : List Value),
    List.foldl (fun x1 x2 => x1 ++ x2) acc.toArray (List.replicate k its.toArray) = (acc ++ (List.replicate k its).flatten).toArray
  | 0, acc => by simp
  | k + 1, acc => by
    have e : acc.toArray ++ its.toArray = (acc ++ its).toArray := by simp
    have e2 : (acc ++ its) ++ (List.replicate k its).flatten = acc ++ (List.replicate (k + 1) its).flatten := by
      rw [List.replicate_succ, List.flatten_cons, List.append_assoc]
    rw [← e2, ← foldl_rep its k (acc ++ its), ← e, List.replicate_succ, List.foldl_cons]
section
variable {X : Cx} {pins : List (Addr × Obj)} {σ : St} {H : Hp} {s : Shared} {l b : Addr} {xs ys zs : List V}
theorem Inv.lset {its its' : List Value} {n : Nat} {f : Array Value → Array Value} {t' : Nat} (I : Inv X pins σ H s) (hH : H l = some (.lst xs))
    (e : s.heap.get? l = some { cls := .type "list", data := .seq its.toArray n }) (hf : f its.toArray = its'.toArray) (hv : Vals ys its') (hz : ys.length ≤ sizeLine) :
    Inv X pins σ (upd H l (.lst ys)) { s with heap := s.heap.update l (Obj.mapSeq f), toks := t' } := by
  have q := PySem.IsL.update e f
  rw [hf] at q
  refine I.write (x := l) (e := l) (by rw [hH]; exact trivial) (.inl rfl) (fun b' u hb hu => (Heap.get?_update_other s.heap (Obj.mapSeq f) (Ne.symm hb)).trans hu) ⟨_, q⟩ ?_
  exact ⟨hz, its', _, hv, q⟩
theorem Inv.lnew {its : List Value} {t' : Nat} (I : Inv X pins σ H s) (hv : Vals ys its) (hz : ys.length ≤ sizeLine) :
    Inv X pins σ (upd H s.heap.objs.size (.lst ys)) { s with heap := s.heap.push { cls := .type "list", data := .seq its.toArray }, toks := t' } :=
  I.laid (fun _ _ q => Heap.get?_push_of_some _ q) (Nat.le_refl _) ⟨hz, its, 0, hv, Heap.get?_push_size _ rfl⟩
theorem Inv.fresh (I : Inv X pins σ H s) : H s.heap.objs.size = none := I.hok.fresh (Nat.le_refl _)
theorem Inv.lstM (I : Inv X pins σ H s) (hH : H l = some (.lst xs)) : xs.length ≤ sizeLine ∧ ∃ (its : List Value) (n : Nat), Vals xs its ∧ xs.length = its.length ∧ s.heap.get? l = some { cls := .type "list", data := .seq its.toArray n } := by
  obtain ⟨z, its, n, r, e⟩ := I.hok l _ hH
  exact ⟨z, its, n, r, r.length, e⟩
theorem notLongL {n : Nat} (h : n ≤ sizeLine) : Builtin.List.listTooLong n = false := by
  unfold Builtin.List.listTooLong
  exact decide_eq_false (by omega)
end
section
variable {X : Cx}
noncomputable def rAppend : V → List V → Hp → VK → Prop := fun x vs H Q => ∃ l xs y, x = .ref l ∧ vs = [y] ∧ H l = some (.lst xs) ∧ xs.length < sizeLine ∧ Q .non (upd H l (.lst (xs ++ [y])))
theorem mt_append : MtM X "list.append" rAppend := by
  intro pins s σ H x vs v us Q I rx rv h
  obtain ⟨l, xs, y, rfl, rfl, hH, hz, q⟩ := h
  cases rx
  obtain ⟨u, rfl, ru⟩ := rv.one
  obtain ⟨z, its, n, r, hl, e⟩ := I.lstM hH
  refine call_meets F.slot_list_append ⟨_, e, rfl⟩ F.entry_list_append (F.args_list_append_2 _ _) (PySem.list_append l its.toArray n u (by rw [List.size_toArray]; omega)) ⟨e, ?_⟩
  refine ⟨.non, _, I.lset (its' := its ++ [u]) hH e (by simp) (r.append (.cons ru .nil)) ?_, rfl, q⟩
  rw [List.length_append, List.length_singleton]
  omega
theorem len_rep {α : Type} (xs : List α) (k : Nat) : (List.replicate k xs).flatten.length = k * xs.length := by
  induction k with
  | zero => simp
  | succ k ih => rw [List.replicate_succ, List.flatten_cons, List.length_append, ih, Nat.succ_mul, Nat.add_comm]
end
section
variable {prog : Program} {w : World} {A : Around} {E : Value → Shared → Prop} {s : Shared}
end
section
variable {X : Cx}
end
end L2
namespace L2
open PySem PySem.Spec PyProof.Rows
section
variable {κ : Type} [DecidableEq κ]
noncomputable def valV (kvs : List (κ × V)) (k : κ) : Option V := (kvs.find? fun kv => decide (kv.1 = k)).map (·.2)
noncomputable def putK (kvs : List (κ × V)) (k : κ) (v : V) : List (κ × V) :=
  if (kvs.any fun kv => decide (kv.1 = k)) = true then kvs.map (fun kv => if kv.1 = k then (kv.1, v) else kv) else kvs ++ [(k, v)]
noncomputable def dropK (kvs : List (κ × V)) (k : κ) : List (κ × V) := kvs.filter fun kv => decide (kv.1 ≠ k)
theorem valV_pos {p : κ × V} {r : List (κ × V)} {k : κ} (e : p.1 = k) : valV (p :: r) k = some p.2 := by simp [valV, List.find?_cons, e]
theorem valV_neg {p : κ × V} {r : List (κ × V)} {k : κ} (e : ¬ p.1 = k) : valV (p :: r) k = valV r k := by simp [valV, List.find?_cons, e]
theorem valV_any (k : κ) : ∀ kvs : List (κ × V), (kvs.any fun kv => decide (kv.1 = k)) = (valV kvs k).isSome
  | [] => rfl
  | p :: r => by
    rw [List.any_cons]
    by_cases e : p.1 = k
    · simp only [valV_pos e, decide_eq_true e, Bool.true_or, Option.isSome_some]
    · rw [valV_neg e, decide_eq_false e, Bool.false_or]; exact valV_any k r
theorem RelO.isSome_eq {o : Option V} {u : Option Value} (r : RelO o u) : o.isSome = u.isSome := by
  cases o with
  | none => cases u with
    | none => rfl
    | some _ => exact (show False from r).elim
  | some _ => cases u with
    | none => exact (show False from r).elim
    | some _ => rfl
theorem RelO.getD {o : Option V} {u : Option Value} {d : V} {d' : Value} (r : RelO o u) (rd : RelV d d') : RelV (o.getD d) (u.getD d') := by
  cases o with
  | none => cases u with
    | none => exact rd
    | some _ => exact (show False from r).elim
  | some _ => cases u with
    | none => exact (show False from r).elim
    | some _ => exact r
theorem KV.val {kvs : List (κ × V)} {vs : List (κ × Value)} (r : KV kvs vs) (k : κ) : RelO (valV kvs k) (valueAt vs k) := by
  unfold KV at r
  induction r with
  | nil => exact True.intro
  | @cons p q ps qs h t ih =>
    obtain ⟨h1, h2⟩ := h
    by_cases e : p.1 = k
    · have e' : q.1 = k := h1.symm.trans e
      have b : valueAt (q :: qs) k = some q.2 := by simp [valueAt, List.find?_cons, e']
      rw [valV_pos e, b]; exact h2
    · have e' : ¬ q.1 = k := fun z => e (h1.trans z)
      have b : valueAt (q :: qs) k = valueAt qs k := by simp [valueAt, List.find?_cons, e']
      rw [valV_neg e, b]; exact ih
theorem KV.any {kvs : List (κ × V)} {vs : List (κ × Value)} (r : KV kvs vs) (k : κ) : (kvs.any fun kv => decide (kv.1 = k)) = vs.any fun kv => decide (kv.1 = k) := by
  unfold KV at r
  induction r with
  | nil => rfl
  | cons h t ih => rw [List.any_cons, List.any_cons, ih, h.1]
theorem KV.repl {kvs : List (κ × V)} {vs : List (κ × Value)} (r : KV kvs vs) (k : κ) {y : V} {u : Value} (ry : RelV y u) :
    KV (kvs.map fun kv => if kv.1 = k then (kv.1, y) else kv) (vs.map fun kv => if kv.1 = k then (kv.1, u) else kv) := by
  unfold KV at r ⊢
  induction r with
  | nil => exact .nil
  | @cons p q ps qs h t ih =>
    rw [List.map_cons, List.map_cons]
    refine .cons ?_ ih
    obtain ⟨h1, h2⟩ := h
    by_cases e : p.1 = k
    · rw [if_pos e, if_pos (h1.symm.trans e)]; exact ⟨h1, ry⟩
    · rw [if_neg e, if_neg (fun z => e (h1.trans z))]; exact ⟨h1, h2⟩
theorem KV.put {kvs : List (κ × V)} {vs : List (κ × Value)} (r : KV kvs vs) (k : κ) {y : V} {u : Value} (ry : RelV y u) : KV (putK kvs k y) (stored vs k u) := by
  unfold putK stored
  rw [r.any k]
  by_cases e : (vs.any fun kv => decide (kv.1 = k)) = true
  · rw [if_pos e, if_pos e]; exact r.repl k ry
  · rw [if_neg e, if_neg e]; exact Paired.snoc r ⟨rfl, ry⟩
theorem KV.drop {kvs : List (κ × V)} {vs : List (κ × Value)} (r : KV kvs vs) (k : κ) : KV (dropK kvs k) (without vs k) := by
  unfold KV at r ⊢
  unfold dropK without
  induction r with
  | nil => exact .nil
  | @cons p q ps qs h t ih =>
    obtain ⟨h1, h2⟩ := h
    rw [List.filter_cons, List.filter_cons]
    by_cases e : p.1 = k
    · have a : ¬ decide (p.1 ≠ k) = true := by simp [e]
      have b : ¬ decide (q.1 ≠ k) = true := by simp [h1.symm.trans e]
      rw [if_neg a, if_neg b]; exact ih
    · have e' : ¬ q.1 = k := fun z => e (h1.trans z)
      have a : decide (p.1 ≠ k) = true := by simp [e]
      have b : decide (q.1 ≠ k) = true := by simp [e']
      rw [if_pos a, if_pos b]; exact .cons ⟨h1, h2⟩ ih
theorem KV.length {kvs : List (κ × V)} {vs : List (κ × Value)} (r : KV kvs vs) : kvs.length = vs.length := Paired.length r
end
noncomputable abbrev KT (H : Hp) : List (List Key × V) → List (List Key × Addr × Value) → Prop := Paired fun p q => p.1 = q.1 ∧ H q.2.1 = some (.tup (p.1.map kV)) ∧ RelV p.2 q.2.2
theorem KT.val {H : Hp} {kvs : List (List Key × V)} {xs : List (List Key × Addr × Value)} (r : KT H kvs xs) (k : List Key) : RelO (valV kvs k) ((atKey xs k).map (·.2)) := by
  induction r with
  | nil => exact True.intro
  | @cons p q ps qs h t ih =>
    obtain ⟨h1, _, h2⟩ := h
    by_cases e : p.1 = k
    · have e' : q.1 = k := h1.symm.trans e
      have b : atKey (q :: qs) k = some q.2 := by simp [atKey, List.find?_cons, e']
      rw [valV_pos e, b]; exact h2
    · have e' : ¬ q.1 = k := fun z => e (h1.trans z)
      have b : atKey (q :: qs) k = atKey qs k := by simp [atKey, List.find?_cons, e']
      rw [valV_neg e, b]; exact ih
theorem KT.repl {H : Hp} {kvs : List (List Key × V)} {xs : List (List Key × Addr × Value)} (r : KT H kvs xs) (k : List Key) {y : V} {u : Value} (ry : RelV y u) :
    KT H (kvs.map fun kv => if kv.1 = k then (kv.1, y) else kv) (xs.map (putAt k u)) := by
  induction r with
  | nil => exact .nil
  | @cons p q ps qs h t ih =>
    rw [List.map_cons, List.map_cons]
    refine .cons ?_ ih
    obtain ⟨h1, h2, h3⟩ := h
    unfold putAt
    by_cases e : p.1 = k
    · rw [if_pos e, if_pos (h1.symm.trans e)]; exact ⟨h1, h2, ry⟩
    · rw [if_neg e, if_neg (fun z => e (h1.trans z))]; exact ⟨h1, h2, h3⟩
theorem KT.put {H : Hp} {kvs : List (List Key × V)} {xs : List (List Key × Addr × Value)} (r : KT H kvs xs) (k : List Key) {b : Addr} {y : V} {u : Value} (hb : H b = some (.tup (k.map kV))) (ry : RelV y u) :
    KT H (putK kvs k y) (storedH xs k b u) := by
  have e : (kvs.any fun kv => decide (kv.1 = k)) = (atKey xs k).isSome := by
    rw [valV_any, (r.val k).isSome_eq, Option.isSome_map]
  unfold putK storedH
  rw [e]
  by_cases q : (atKey xs k).isSome = true
  · rw [if_pos q, if_pos q]; exact r.repl k ry
  · rw [if_neg q, if_neg q]; exact Paired.snoc r ⟨rfl, hb, ry⟩
theorem KT.keeps {H H' : Hp} {kvs : List (List Key × V)} {xs : List (List Key × Addr × Value)} (r : KT H kvs xs) (ht : ∀ b ys, H b = some (.tup ys) → H' b = some (.tup ys)) : KT H' kvs xs :=
  Paired.mapP r fun _ _ z => ⟨z.1, ht _ _ z.2.1, z.2.2⟩
section
variable {P : Program} {w : World} {H : Hp} {h : Heap} {a : Addr}
theorem rd_of {u : HO} (ok : HOk P w H h) (e : Rd H a u) : ObjOk P w H h a u := e.ok ok
theorem dk_rd {kvs : List (Key × V)} (ok : HOk P w H h) (e : Rd H a (.dK kvs)) : kvs.length ≤ sizeLine ∧ (a == sysModules) = false ∧ ∃ vs, KV kvs vs ∧ h.DictOf (mixKind P w) a vs :=
  show ObjOk P w H h a (.dK kvs) from rd_of ok e
end
noncomputable def DGet (H : Hp) (a : Addr) (y : V) (r : Option V) : Prop :=
  (∃ kvs k, Rd H a (.dK kvs) ∧ y = kV k ∧ r = valV kvs k) ∨ ∃ kvs k b, Rd H a (.dT kvs) ∧ y = .ref b ∧ H b = some (.tup (k.map kV)) ∧ r = valV kvs k
noncomputable def DPut (H : Hp) (a : Addr) (y v : V) (H' : Hp) : Prop :=
  (∃ kvs k, H a = some (.dK kvs) ∧ y = kV k ∧ kvs.length < sizeLine ∧ H' = upd H a (.dK (putK kvs k v))) ∨
  ∃ kvs k b, H a = some (.dT kvs) ∧ y = .ref b ∧ H b = some (.tup (k.map kV)) ∧ kvs.length < sizeLine ∧ H' = upd H a (.dT (putK kvs k v))
theorem DGet.k {H : Hp} {a : Addr} {kvs : List (Key × V)} {k : Key} (e : H a = some (.dK kvs)) : DGet H a (kV k) (valV kvs k) := .inl ⟨kvs, k, .inl e, rfl, rfl⟩
theorem DGet.t {H : Hp} {a b : Addr} {kvs : List (List Key × V)} {k : List Key} (e : H a = some (.dT kvs)) (eb : H b = some (.tup (k.map kV))) : DGet H a (.ref b) (valV kvs k) := .inr ⟨kvs, k, b, .inl e, rfl, eb, rfl⟩
theorem DPut.k {H : Hp} {a : Addr} {kvs : List (Key × V)} {k : Key} {v : V} (e : H a = some (.dK kvs)) (hl : kvs.length < sizeLine) : DPut H a (kV k) v (upd H a (.dK (putK kvs k v))) := .inl ⟨kvs, k, e, rfl, hl, rfl⟩
theorem DPut.t {H : Hp} {a b : Addr} {kvs : List (List Key × V)} {k : List Key} {v : V} (e : H a = some (.dT kvs)) (eb : H b = some (.tup (k.map kV))) (hl : kvs.length < sizeLine) :
    DPut H a (.ref b) v (upd H a (.dT (putK kvs k v))) := .inr ⟨kvs, k, b, e, rfl, eb, hl, rfl⟩
section
variable {X : Cx} {pins : List (Addr × Obj)} {σ : St} {H : Hp} {s : Shared} {a : Addr} {y v : V} {u r : Value} {o : Option V} {A : Around} {E : Value → Shared → Prop}
theorem Inv.big (I : Inv X pins σ H s) : sysModules < s.heap.objs.size := by
  have h : mainGlobals < s.heap.objs.size := (I.mod.glob.keeps I.bk).lt
  exact Nat.lt_trans (by decide) h
end
section
variable {X : Cx} {pins : List (Addr × Obj)} {σ : St} {H : Hp} {s : Shared} {a : Addr} {kvs : List (Key × V)} {k : Key} {u : Value} {A : Around} {E : Value → Shared → Prop}
theorem d_len {Q : Value → Shared → Prop} (I : Inv X pins σ H s) (e : Rd H a (.dK kvs)) (h : ∀ t s', Inv X pins σ H s' → Q (.int kvs.length t) s') : wpAny (model X.prog X.w) A (call (.builtin "len") [.ref a]) Q E s := by
  obtain ⟨z, hd, vs, rel, dd⟩ := dk_rd I.hok e
  refine call_len_dict hd dd (by rw [← rel.length]; rw [sizeLine_eq] at z; omega) ?_
  rw [← rel.length]
  exact h _ _ (I.tok _)
end
section
variable {X : Cx} {o i e value : Expr} {pos pos' tpos : Pos} {td ty tv : TE}
end
section
variable {X : Cx} {pos : Pos}
end
structure M1 (X : Cx) (o : Expr) (m : Str) (apos : Pos) (e : Expr) (cpos : Pos) : Prop where
  base : attributeBase o m X.env (eval o X.env) = eval o X.env
  few : ((backTo cpos (starEach [e] X.env)).all (fun x => !x.1) && (backToKw cpos (keywordEach [] X.env)).all (fun x => x.1.isSome)
    && decide (([e] : List Expr).length + ([] : List Keyword).length + (if ([] : List Keyword).isEmpty then 0 else 1) < 30)) = true
  line : (apos.endLine == cpos.line) = true
  trees : backTo cpos (starEach [e] X.env) = [(false, eval e X.env)]
structure M2 (X : Cx) (o : Expr) (m : Str) (apos : Pos) (e f : Expr) (cpos : Pos) : Prop where
  base : attributeBase o m X.env (eval o X.env) = eval o X.env
  few : ((backTo cpos (starEach [e, f] X.env)).all (fun x => !x.1) && (backToKw cpos (keywordEach [] X.env)).all (fun x => x.1.isSome)
    && decide (([e, f] : List Expr).length + ([] : List Keyword).length + (if ([] : List Keyword).isEmpty then 0 else 1) < 30)) = true
  line : (apos.endLine == cpos.line) = true
  trees : backTo cpos (starEach [e, f] X.env) = [(false, eval e X.env), (false, eval f X.env)]
section
variable {X : Cx} {pins : List (Addr × Obj)} {σ : St} {H : Hp} {s : Shared} {a : Addr} {y d : V} {u r : Value} {o : Option V} {A : Around} {E : Value → Shared → Prop}
end
section
variable {X : Cx} {o e f : Expr} {apos cpos : Pos} {td ty tx : TE}
end
section
variable {X : Cx} {pins : List (Addr × Obj)} {σ : St} {H : Hp} {s : Shared} {a : Addr} {kvs : List (Key × V)} {A : Around} {E : Value → Shared → Prop}
end
section
variable {X : Cx} {pins : List (Addr × Obj)} {σ : St} {H : Hp} {s : Shared} {a : Addr} {y : V} {u : Value} {A : Around} {E : Value → Shared → Prop}
end
end L2
namespace Att
open PySem PySem.W PySem.Calls PyProof.Rows
theorem ints_of_wellAll {P : Params} {h : Heap} : ∀ (ns : List Int) (vs : List Value), WellAll P h vs (ns.map WData.int) → IntsAre vs ns := by
  intro ns
  induction ns with
  | nil =>
    intro vs w
    rw [List.map_nil] at w
    cases w
    exact .nil
  | cons n ns ih =>
    intro vs w
    rw [List.map_cons] at w
    cases w with
    | cons a b =>
      cases a
      exact .cons _ _ (ih _ b)
theorem script_of {l : OpenLaw} {n : Nat} (hn : l.most = some n) {P : Params} {h : Heap} {args : List WData} {vals : List Value}
    (hpre : l.row.toRowW.claim.pre args = true) (hwl : WellAll P h vals args) :
    ∃ a vs ns, vals = [Value.ref a] ∧ args = [WData.list (ns.map WData.int)] ∧ h.get? a = some { cls := .type "list", data := .seq vs.toArray } ∧ IntsAre vs ns ∧ ns.length ≤ n := by
  have hsh : WShape.hasAll [] args [.list .int] = true := (pre_splitW hpre).1
  have hc : l.pre.holds [] { args := args } = true := (pre_splitW hpre).2
  obtain ⟨d, r, rfl, h1, h2⟩ := hasAllW_cons hsh
  obtain rfl := hasAllW_nil h2
  obtain ⟨xs, rfl, h3⟩ := hasW_list h1
  obtain ⟨ns, rfl⟩ := items_int h3
  have hlen : ns.length ≤ n := by
    unfold OpenLaw.pre at hc
    have h4 : (WTm.not (.lt (.lit (.int (n : Int))) (.len (.arg 0)))).holds [] { args := [.list (ns.map .int)] } = true := by
      have h4 := (holds_andW hc).1
      rw [hn] at h4
      exact h4
    have h5 := condW_of h4 (w_not (w_lt w_lit (w_len_list (w_arg rfl))))
    rw [List.length_map] at h5
    refine Nat.le_of_not_lt fun q => ?_
    have q' : (n : Int) < ((ns.length : Nat) : Int) := by omega
    first
      | (rw [decide_eq_true q'] at h5; exact absurd h5 (by decide))
      | (simp at h5; omega)
  cases hwl with
  | cons w1 w2 =>
    cases w2
    cases w1 with
    | list ho hall => exact ⟨_, _, ns, rfl, rfl, ho, ints_of_wellAll ns _ hall, hlen⟩
theorem post_true (l : OpenLaw) (args : List WData) : l.row.toRowW.claim.post args (.bool true) args = true :=
  postW_of (r := l.row.toRowW) (X := (true == true))
    (show WShape.has [] (.bool true) .bool = true by first | rfl | decide | simp [WShape.has, WShape.arms, WShape.armsAll])
    (show (WTm.eq .res (.lit (.bool true))).value [] { args := args, res := some (.bool true), after := args } = some (.bool (true == true)) from w_eq_bool (w_res rfl) w_lit) rfl
theorem attach_call {l : OpenLaw} {n : Nat} {q : Program} {loose : List Str} {XP : (Str → Option Value) → Heap → Prop} {YP : World → Heap → Prop} {d : DefRec}
    (hn : l.most = some n) (hdf : d.params.defaults = [])
    (call : ∀ (w : World) (s₀ s₁ : Shared) (mg mb : Str → Option Value) (fa : Addr) (o : Obj) (pm cd doc : Value) (a : Addr) (vs : List Value) (ns : List Int),
      Ground q loose [] XP w s₀ mg mb s₁.heap → YP w s₁.heap →
      s₁.heap.get? fa = some o → o.data = .func (docDef d.name d.params d.body d.scope pm cd doc) → s₁.heap.CodeRec cd d.name → mg d.name = some (.ref fa) →
      s₁.heap.get? a = some { cls := .type "list", data := .seq vs.toArray } → IntsAre vs ns → ns.length ≤ n → s₁.gens = #[] →
      codeAny (model l.prog w) callerA (.call (.ref fa) ⟨[.ref a], []⟩) (fun r s' => r = .ok (.ret (.bool true)) ∧ OldK s₁.heap s'.heap ∧ s'.os = s₁.os ∧ AllBare s'.gens) s₁) :
    WalkO q loose XP YP l.row.toRowW d [] (fun f vs => PySem.call f vs) := by
  intro w s₀ s₁ mg mb G Y fa o pm cd doc dV kV ho hd hcd hD hmg hg args vals as hpre hlay hrd hwl hlo
  obtain rfl : dV = .none := Dflts.none hD hdf
  obtain rfl : kV = .none := Dflts.noKw hD
  obtain ⟨a, vs, ns, rfl, rfl, hobj, hints, hlen⟩ := script_of hn hpre hwl
  refine enter_call (codeAny_mono (call w s₀ s₁ mg mb fa o pm cd doc a vs ns G Y ho (fd_plain hd) hcd hmg hobj hints hlen hg) fun r s' hq => ?_)
  obtain ⟨rfl, h2, h3, h4⟩ := hq
  exact ⟨.inl ⟨.bool true, .bool true, [], rfl, fun _ => rfl, .bool true, post_true l _, fun _ => ⟨List.Pairwise.nil, fun _ hm => (nomatch hm)⟩⟩, h2, h3, h4⟩
section
variable {prog : Program} {w : World} {A : Around} {E : Value → Shared → Prop} {s : Shared} {K : Frag}
end
end Att
namespace L2
open PySem PySem.Spec PyProof.Rows
theorem vals_ints : ∀ {vs : List Value} {ns : List Int}, IntsAre vs ns → Vals (ns.map V.int) vs
  | _, _, .nil => .nil
  | _, _, .cons n t h => .cons ⟨t, rfl⟩ (vals_ints h)
noncomputable def Only (H : Hp) : Prop := ∀ b, H b = none ∨ ∃ o xs, H b = some (.frz o (.lst xs))
theorem law_call {P : Program} {w : World} {K : PySem.W.Frag} {mg mb : Str → Option Value} {CX : CXT} {k : Nat} {fa a : Addr} {fd : FuncData} {x : Str} {sp : Sp} {s₁ : Shared} {vs : List Value} {ns : List Int}
    (KX : K.In s₁.heap) (hns : s₁.heap.Ns mainGlobals mg) (hb : s₁.heap.Ns builtinsNs mb) (hbb : ∀ x : Str, x ≠ "__name__" → mb x = bootBuiltins x) (hlim : s₁.heap.NoLimit) (hg : s₁.gens = #[])
    (ha : s₁.heap.get? a = some { cls := .type "list", data := .seq vs.toArray }) (hi : IntsAre vs ns) (hl : ns.length ≤ sizeLine) (hr : Room k callerA)
    (F : ∀ base : Heap, K.In base → base.Ns mainGlobals mg → FnOk P w K mg base CX k fa fd [x] sp) (hbind : ∀ (s : Shared) (u : Value), BindsTo s fd ⟨[u], []⟩ [(x, u)])
    (hsp : ∀ H : Hp, Only H → SqL K H a (ns.map V.int) → sp [.ref a] H (fun v _ => v = .bl true) fun _ _ _ => False)
    (hCX : ∀ H e s', CX [] H s₁ (fun _ _ _ => False) e s' → False) :
    codeAny (model P w) callerA (.call (.ref fa) ⟨[.ref a], []⟩) (fun r s' => r = .ok (.ret (.bool true)) ∧ OldK s₁.heap s'.heap ∧ s'.os = s₁.os ∧ AllBare s'.gens) s₁ := by
  have rv := vals_ints hi
  have lenV := hi.length
  have core : ∀ H : Hp, Only H → SqL K H a (ns.map V.int) → HOk P w H s₁.heap → (∀ b, H b ≠ none → b = a) → (H a ≠ none → K.lookup a = none) →
      codeAny (model P w) callerA (.call (.ref fa) ⟨[.ref a], []⟩) (fun r s' => r = .ok (.ret (.bool true)) ∧ OldK s₁.heap s'.heap ∧ s'.os = s₁.os ∧ AllBare s'.gens) s₁ := by
    intro H hO hS hok hA hK
    have base_of : ∀ {b : Addr} {o : Obj}, s₁.heap.get? b = some o → H b = none → (hidT s₁.heap H).get? b = some o := fun e n => hidT_get e n
    have noA : ∀ {b : Addr} {o : Obj} {es : Array DictEntry} {ep : Nat}, s₁.heap.get? b = some o → o.data = .dict es ep → H b = none := fun {b o es ep} e d => by
      cases q : H b with
      | none => rfl
      | some u =>
        have e' : b = a := hA b (by rw [q]; simp)
        subst e'
        rw [ha] at e; cases e
        have d' : Data.seq vs.toArray _ = Data.dict es ep := d
        cases d'
    have nsK : ∀ {b : Addr} {m : Str → Option Value}, s₁.heap.Ns b m → (hidT s₁.heap H).Ns b m := fun {b m} ⟨o, es, ep, e, d, r⟩ => ⟨o, es, ep, base_of e (noA e d), d, r⟩
    have hKb : K.In (hidT s₁.heap H) := fun b o e => base_of (KX b o e) (by
      cases q : H b with
      | none => rfl
      | some u =>
        have e' : b = a := hA b (by rw [q]; simp)
        subst e'
        rw [hK (by rw [q]; simp)] at e; cases e)
    have hM : Mod K mg (hidT s₁.heap H) := ⟨hKb, nsK hns, ⟨mb, nsK hb, hbb⟩, let ⟨mc, h1, h2⟩ := hlim; ⟨mc, nsK h1, h2⟩⟩
    have e0 : Env0 P w K mg (hidT s₁.heap H) callerA [] s₁ H := ⟨rfl, hM, fun b o e => of_hidT e, Nat.le_of_eq (hidT_size _ _), trivial, fun b hb => absurd (show b ∈ ([] : List Addr) from hb) (by simp), hok, .of_eq hg⟩
    refine codeAny_mono ((F _ hKb (nsK hns)).run callerA [] s₁ H ⟨[.ref a], []⟩ [.ref a] [.ref a] _ _ hr e0 (hbind s₁ (.ref a)) (.cons rfl .nil) (hsp H hO hS)) fun r s' h => ?_
    cases r with
    | error e => exact (hCX H e s' h).elim
    | ok fl =>
      cases fl with
      | next => exact False.elim h
      | brk => exact False.elim h
      | cont => exact False.elim h
      | ret u =>
        obtain ⟨v, H', os, bare, un, hok', r', q⟩ := h
        have q' : v = .bl true := q
        subst q'
        obtain rfl : u = Value.bool true := r'
        refine ⟨rfl, OldK.of_keep fun b o e => ?_, os, bare⟩
        cases q : H b with
        | none => exact un.keep b o e q (by intro z; exact absurd (show b ∈ ([] : List Addr) from z) (by simp)) (by simp)
        | some u =>
          rcases hO b with z | ⟨ob, xs, z⟩
          · rw [q] at z; cases z
          · have z2 := un.frzs b ob _ z
            obtain ⟨e1, _⟩ := hok b _ z
            obtain ⟨e2, _⟩ := hok' b _ z2
            rw [e] at e1; cases e1
            exact e2
  cases hk : K.lookup a with
  | some o =>
    have e := KX a o hk
    rw [ha] at e
    cases e
    refine core (fun _ => none) (fun _ => .inl rfl) (.inr ⟨_, vs.toArray, _, hk, rfl, rfl, rfl, by rw [List.size_toArray, lenV]; exact hl, by simpa using rv⟩) (fun b u z => by have z' : (none : Option HO) = some u := z; cases z') (fun b z => absurd rfl z) fun z => absurd rfl z
  | none =>
    refine core (fun b => if b = a then some (.frz { cls := .type "list", data := .seq vs.toArray } (.lst (ns.map V.int))) else none) (fun b => ?_) (.inl (.inr ⟨{ cls := .type "list", data := .seq vs.toArray }, if_pos rfl⟩)) (fun b u z => ?_) (fun b z => ?_) fun _ => hk
    · by_cases hb : b = a
      · exact .inr ⟨_, _, if_pos hb⟩
      · exact .inl (if_neg hb)
    · by_cases hb : b = a
      · have z' := (if_pos hb).symm.trans z
        cases z'
        subst hb
        exact ⟨ha, by rw [List.length_map]; exact hl, vs, _, rv, ha⟩
      · have z' := (if_neg hb).symm.trans z
        cases z'
    · by_cases hb : b = a
      · exact hb
      · exact absurd (if_neg hb) z
end L2
namespace L2
open PySem PySem.Spec PyProof.Rows
theorem walk_of {l : PySem.W.OpenLaw} {n k : Nat} {q : Program} {loose : List Str} {XP : (Str → Option Value) → Heap → Prop} {YP : World → Heap → Prop} {d : DefRec} {K : Params → PySem.W.Frag} {CX : World → CXT} {sp : World → Sp} {x : Str}
    (hn : l.most = some n) (hn2 : n ≤ sizeLine) (hdf : d.params.defaults = []) (hr : Room k callerA)
    (hY : ∀ (w : World) (h : Heap), YP w h → (K w.params).In h)
    (F : ∀ (w : World) (mg : Str → Option Value) (fa : Addr) (h : Heap), (K w.params).In h → h.Ns mainGlobals mg → mg d.name = some (.ref fa) →
      ∃ fd : FuncData, (∀ (s : Shared) (u : Value), BindsTo s fd ⟨[u], []⟩ [(x, u)]) ∧
        ∀ base : Heap, (K w.params).In base → base.Ns mainGlobals mg → FnOk l.prog w (K w.params) mg base (CX w) k fa fd [x] (sp w))
    (hsp : ∀ (w : World) (H : Hp) (a : Addr) (ns : List Int), ns.length ≤ n → Only H → SqL (K w.params) H a (ns.map V.int) → sp w [.ref a] H (fun v _ => v = .bl true) fun _ _ _ => False)
    (hCX : ∀ (w : World) (H : Hp) (s : Shared) (e : Value) (s' : Shared), CX w [] H s (fun _ _ _ => False) e s' → False) :
    PySem.W.WalkO q loose XP YP l.row.toRowW d [] (fun f vs => PySem.call f vs) := by
  refine Att.attach_call hn hdf fun w s₀ s₁ mg mb fa o pm cd doc a vs ns G Y ho hd hcd hmg hobj hints hlen hg => ?_
  have KX := hY w _ Y
  obtain ⟨fd, hb, hF⟩ := F w mg fa _ KX G.T.g hmg
  exact law_call KX G.T.g G.T.b G.T.builtins G.T.nolimit hg hobj hints (Nat.le_trans hlen hn2) hr hF hb (fun H hO hS => hsp w H a ns hlen hO hS) fun H e s' => hCX w H s₁ e s'
end L2
namespace L2
open PySem PySem.Spec PyProof.Rows
noncomputable def defArgs (s : Stmt) : Arguments := match s with
  | .FunctionDef _ a _ _ _ _ _ _ _ _ => a
  | _ => { posonlyargs := [], args := [], vararg := none, kwonlyargs := [], kw_defaults := [], kwarg := none, defaults := [] }
noncomputable def defBody (s : Stmt) : List Stmt := match s with
  | .FunctionDef _ _ b _ _ _ _ _ _ _ => b
  | _ => []
noncomputable def defScope (s : Stmt) : Scope := match s with
  | .FunctionDef _ _ _ _ _ _ sc _ _ _ => sc
  | _ => { kind := .function, names := [], isGenerator := false, isCoroutine := false }
noncomputable abbrev CX0 : CXT := fun _ _ _ _ _ _ => False
noncomputable abbrev E0 : XK := fun _ _ _ => False
theorem pass0 {X : Cx} : Passes CX0 X E0 := fun _ _ _ _ _ _ _ h => h.elim
structure Fun (K : PySem.W.Frag) (x qual : Str) (st : Stmt) (f : Addr) (fd : FuncData) : Prop where
  ex : ∃ (oc : Value) (od : Option Addr) (kV doc pm : Value) (an : Option Addr) (cdv ct : Value) (osl : Array (Option Value)),
    fd = PySem.W.fnOf x qual (defArgs st) (defBody st) (defScope st) .none kV doc pm an cdv ct ∧ K.lookup f = some ⟨oc, od, .func fd, osl⟩ ∧ PySem.W.codeIn K cdv qual = true
  kp : PySem.W.keepIn K (.ref f) = true
section
variable {P : Program} {w : World} {K : PySem.W.Frag} {mg : Str → Option Value} {base : Heap}
theorem Fun.ok {x qual : Str} {st : Stmt} {f : Addr} {fd : FuncData} {N ps : List Str} {k : Nat} {sp : Sp} (F : Fun K x qual st f fd) (S : FnScope N ps (defScope st)) (len : ∀ vs H Q E, sp vs H Q E → vs.length = ps.length)
    (hbody : ∀ (cdv : Value) (A : Around) (outer : List Env) (s : Shared) (H : Hp) (vs : List V) (Q : VK) (E : XK), Room k (A.deeper (envOfC qual (defScope st) s.heap.objs.size f cdv)) → sp vs H Q E →
      ∃ t, PSs (cxOf CX0 P w K mg base N qual (defScope st) f cdv A outer s H E).nox (defBody st) t ∧ t { nx := fun _ H' => Q .non H', rt := Q } (start N vs) H) : FnOk P w K mg base CX0 (k + 1) f fd ps sp := by
  obtain ⟨oc, od, kV, doc, pm, an, cdv, ct, osl, rfl, lk, hcd⟩ := F.ex
  refine fn_of lk hcd S len fun A outer s H vs Q E hr hsp => ?_
  obtain ⟨t, h, q⟩ := hbody cdv A outer s H vs Q E hr hsp
  exact ⟨t, h.nox, q⟩
theorem Fun.binds {x qual : Str} {st : Stmt} {f : Addr} {fd : FuncData} {ps : List Str} (F : Fun K x qual st f fd)
    (h : ∀ (kV doc pm : Value) (an : Option Addr) (cdv ct : Value) (us : List Value), us.length = ps.length → bindArgs (PySem.W.fnOf x qual (defArgs st) (defBody st) (defScope st) .none kV doc pm an cdv ct) ⟨us, []⟩ = pure (ps.zip us)) : Binds K fd ps [] := by
  obtain ⟨oc, od, kV, doc, pm, an, cdv, ct, osl, rfl, lk, hcd⟩ := F.ex
  exact .all (h kV doc pm an cdv ct)
theorem fun_mk {x qual : Str} {st : Stmt} {f : Addr} {oc : Value} {od an : Option Addr} {osl : Array (Option Value)} {kV doc pm cdv ct : Value} (l : K.lookup f = some ⟨oc, od, .func (PySem.W.fnOf x qual (defArgs st) (defBody st) (defScope st) .none kV doc pm an cdv ct), osl⟩)
    (c : PySem.W.codeIn K cdv qual = true) (k : PySem.W.keepIn K (.ref f) = true) : Fun K x qual st f (PySem.W.fnOf x qual (defArgs st) (defBody st) (defScope st) .none kV doc pm an cdv ct) := ⟨⟨oc, od, kV, doc, pm, an, cdv, ct, osl, rfl, l, c⟩, k⟩
end
section
variable {X : Cx}
theorem pv (i : Nat) {x : Str} {pos : Pos} (hN : X.N[i]? = some x := by rfl) (hv : Vis X.env.scope x := by first | exact Or.inl rfl | exact Or.inr (Or.inl rfl) | exact Or.inr (Or.inr rfl)) (hd : (x == ("__debug__" : Str)) = false := by decide)
    (hcd : (x == ("__classdict__" : Str)) = false := by decide) : PE X (.Name x pos) (tVar i) := pe_var hN hv hd hcd
end
theorem iteF {A B : Prop} (h : B) : if false = true then A else B := by
  rw [if_neg Bool.false_ne_true]
  exact h
theorem iteT {A B : Prop} (h : A) : if true = true then A else B := by
  rw [if_pos rfl]
  exact h
noncomputable def Same (H H' : Hp) : Prop := ∀ b o, H b = some o → H' b = some o
theorem Same.refl (H : Hp) : Same H H := fun _ _ h => h
theorem Same.trans {H H1 H2 : Hp} (a : Same H H1) (b : Same H1 H2) : Same H H2 := fun c o h => b c o (a c o h)
theorem Same.free {H H' : Hp} (e : Same H H') {l : Addr} (h : H' l = Option.none) : H l = Option.none := by
  cases q : H l with
  | none => rfl
  | some o =>
    rw [e l o q] at h
    cases h
theorem Same.seq {K : PySem.W.Frag} {H H' : Hp} {a : Addr} {xs : List V} (e : Same H H') (h : SqL K H a xs) : SqL K H' a xs := by
  rcases h with (h | ⟨o, h⟩) | h
  · exact .inl (.inl (e _ _ h))
  · exact .inl (.inr ⟨o, e _ _ h⟩)
  · exact .inr h
end L2
set_option maxHeartbeats 4000000
namespace K1
open PySem
noncomputable def has (signs x : Str) : Bool := x.cps.toList.all fun c => decide (c ∈ signs.cps.toList)
noncomputable def LET : Str := "abcdefghijklmnopqrstuvwxyz"
noncomputable def TXT : Str := "abcdefghijklmnopqrstuvwxyz0123456789-"
noncomputable def single : PyData → Bool
  | .int i => decide ((if i < 0 then -i else i) ≤ 10 ^ 18)
  | .str x => decide (x.length ≤ 20) && has TXT x
  | _ => false
noncomputable def built : Nat → PyData → Bool
  | 0, .tuple _ => false
  | n + 1, .tuple ds => decide (ds.length ≤ 8) && ds.all (built n)
  | _, d => single d
noncomputable def manyF : Nat → PyData → Int
  | n + 1, .tuple ds => 1 + (ds.map (manyF n)).sum
  | _, _ => 1
noncomputable def lsz : Nat → PyData → Int
  | n + 1, .tuple ds => if ds.length > 8 then 100 else 1 + (ds.map (lsz n)).sum
  | _, d => if single d = true then 1 else 100
noncomputable def isName : PyData → Bool
  | .str x => decide (1 ≤ x.length) && decide (x.length ≤ 8) && has LET x
  | _ => false
noncomputable def isVal (d : PyData) : Bool := built 4 d && decide (manyF 4 d ≤ 40)
theorem sum_ge {α : Type} (f : α → Int) (h : ∀ a, 1 ≤ f a) : ∀ l : List α, (l.length : Int) ≤ (l.map f).sum
  | [] => by simp
  | a :: r => by
    have := sum_ge f h r
    have := h a
    simp only [List.map_cons, List.sum_cons, List.length_cons]
    omega
noncomputable def tdp : Nat → PyData → Bool
  | 0, .tuple _ => false
  | n + 1, .tuple ds => ds.all (tdp n)
  | _, _ => true
theorem built_tdp : ∀ (n : Nat) (d : PyData), built n d = true → tdp n d = true
  | 0, d, h => by cases d <;> first | rfl | cases h
  | n + 1, d, h => by
    cases d with
    | tuple ds =>
      have e : built (n + 1) (.tuple ds) = (decide (ds.length ≤ 8) && ds.all (built n)) := rfl
      rw [e, Bool.and_eq_true] at h
      show ds.all (tdp n) = true
      exact List.all_eq_true.mpr fun x hx => built_tdp n x (List.all_eq_true.mp h.2 x hx)
    | _ => rfl
noncomputable def maxFrom (best : Int) : List Int → Int
  | [] => best
  | n :: r => maxFrom (if n > best then n else best) r
noncomputable def maxD (d : Int) : List Int → Int
  | [] => d
  | n :: r => maxFrom n r
noncomputable def deepF : Nat → PyData → Int
  | n + 1, .tuple ds => 1 + maxD 0 (ds.map (deepF n))
  | _, _ => 0
noncomputable def loopD (acc : Int) : List Int → Int
  | [] => acc
  | n :: r => loopD (if 1 + n > acc then 1 + n else acc) r
noncomputable def ldp : Nat → PyData → Int
  | n + 1, .tuple ds => loopD 1 (ds.map (ldp n))
  | _, _ => 0
end K1
namespace L2
open PySem
noncomputable def closOf (env : Env) : List (Str × NameKind) → List (Str × Addr) → List (Str × Addr)
  | [], acc => acc
  | (n, k) :: r, acc => closOf env r (if (k == .free) = true then (n, (env.cells.lookup n).getD 0) :: acc else acc)
theorem clos_fold {env : Env} : ∀ (l : List (Str × NameKind)) (acc : List (Str × Addr)), (∀ x ∈ l, x.2 = .free → ∃ c, env.cells.lookup x.1 = some c) →
    (forIn l acc (fun x r => match x with
      | (name, kind) => if (kind == NameKind.free) = true then (do
          let c ← cellOf env name
          pure (ForInStep.yield ((name, c) :: r))) else pure (ForInStep.yield r)) : Sem (List (Str × Addr))) = pure (closOf env l acc)
  | [], acc, _ => rfl
  | (n, k) :: r, acc, h => by
    rw [List.forIn_cons]
    have hr : ∀ x ∈ r, x.2 = .free → ∃ c, env.cells.lookup x.1 = some c := fun x hx => h x (List.mem_cons_of_mem _ hx)
    cases hk : (k == NameKind.free) with
    | false =>
      have ih := clos_fold r acc hr
      have e : closOf env ((n, k) :: r) acc = closOf env r acc := by simp [closOf, hk]
      rw [e]
      dsimp only
      rw [if_neg (by rw [hk]; exact Bool.false_ne_true)]
      exact ih
    | true =>
      obtain ⟨c, hc⟩ := h (n, k) List.mem_cons_self (by simpa using hk)
      have ih := clos_fold r ((n, c) :: acc) hr
      have hc' : env.cells.lookup n = some c := hc
      have e : closOf env ((n, k) :: r) acc = closOf env r ((n, c) :: acc) := by simp [closOf, hk, hc']
      have e2 : cellOf env n = pure c := by unfold cellOf; rw [hc']
      rw [e]
      dsimp only
      rw [if_pos hk, e2]
      exact ih
theorem closure_eq {scope : Scope} {env : Env} (h : ∀ x ∈ scope.names, x.2 = .free → ∃ c, env.cells.lookup x.1 = some c) : closureFor scope env = pure (closOf env scope.names []) := by
  have q := clos_fold (env := env) scope.names [] h
  unfold closureFor
  exact congrArg (fun t => t >>= fun z => pure z) q
theorem closOf_look {env : Env} : ∀ (l : List (Str × NameKind)) (acc : List (Str × Addr)) (x : Str) (c : Addr), (∀ y d, acc.lookup y = some d → env.cells.lookup y = some d) →
    (∀ y ∈ l, y.2 = .free → ∃ c, env.cells.lookup y.1 = some c) → (closOf env l acc).lookup x = some c → env.cells.lookup x = some c
  | [], acc, x, c, ha, _, e => ha x c e
  | (n, k) :: r, acc, x, c, ha, h, e => by
    have hr : ∀ x ∈ r, x.2 = .free → ∃ c, env.cells.lookup x.1 = some c := fun x hx => h x (List.mem_cons_of_mem _ hx)
    refine closOf_look r _ x c ?_ hr e
    intro y d q
    cases hk : (k == NameKind.free) with
    | false => rw [hk, if_neg Bool.false_ne_true] at q; exact ha y d q
    | true =>
      rw [hk, if_pos rfl] at q
      obtain ⟨c', hc⟩ := h (n, k) List.mem_cons_self (by simpa using hk)
      have hc' : env.cells.lookup n = some c' := hc
      rw [List.lookup_cons] at q
      by_cases z : y = n
      · subst z
        simp [hc'] at q
        rw [hc', q]
      · have z' : (y == n) = false := beq_eq_false_iff_ne.mpr z
        rw [z'] at q
        exact ha y d q
theorem closOf_acc {env : Env} : ∀ (l : List (Str × NameKind)) (acc : List (Str × Addr)) (x : Str), (acc.lookup x).isSome = true → ((closOf env l acc).lookup x).isSome = true
  | [], _, _, h => h
  | (n, k) :: r, acc, x, h => by
    refine closOf_acc r _ x ?_
    cases hk : (k == NameKind.free) with
    | false => rw [if_neg Bool.false_ne_true]; exact h
    | true =>
      rw [if_pos rfl, List.lookup_cons]
      cases z : (x == n) with
      | true => rfl
      | false => exact h
theorem closOf_has {env : Env} : ∀ (l : List (Str × NameKind)) (acc : List (Str × Addr)) (x : Str), (x, NameKind.free) ∈ l → ((closOf env l acc).lookup x).isSome = true
  | [], _, _, h => absurd h (by simp)
  | (n, k) :: r, acc, x, h => by
    rcases List.mem_cons.mp h with e | e
    · cases e
      refine closOf_acc r _ _ ?_
      rw [if_pos (by decide), List.lookup_cons]
      simp
    · exact closOf_has r _ x e
end L2
namespace L2
open PySem PySem.Spec PyProof.Rows
structure CS (osc : Scope) (N : List Str) (x : Str) (scope : Scope) (N' : List Str) : Prop where
  kind : scope.kind = .function
  nocell : ∀ y ∈ scope.names, y.2 ≠ .cell
  names : ∀ y ∈ scope.names, y.2 = .local → scope.names.lookup y.1 = some .local
  hx : scope.names.lookup x = some .local
  only : ∀ y ∈ scope.names, y.2 = .local → y.1 = x ∨ y.1 = ".0"
  free : ∀ y ∈ scope.names, y.2 = .free → osc.names.lookup y.1 = some .cell ∨ osc.names.lookup y.1 = some .free
  nd : (x :: N').Nodup
  n0 : (".0" : Str) ∉ N'
  len : N'.length = N.length
  rel : ∀ p ∈ N'.zip N, p.1 = p.2 ∨ ∀ q ∈ scope.names, q.1 ≠ p.1
theorem CS.at {osc : Scope} {N N' : List Str} {x : Str} {scope : Scope} (S : CS osc N x scope N') {j : Nat} {y : Str} (h : N'[j]? = some y) : N[j]? = some y ∨ ∀ q ∈ scope.names, q.1 ≠ y := by
  have hl : j < N'.length := (List.getElem?_eq_some_iff.mp h).1
  have hl2 : j < N.length := by rw [← S.len]; exact hl
  have m : (N'.zip N)[j]? = some (y, N[j]) := by
    rw [List.getElem?_zip_eq_some]
    exact ⟨h, List.getElem?_eq_getElem hl2⟩
  rcases S.rel _ (List.mem_of_getElem? m) with z | z
  · left
    rw [List.getElem?_eq_getElem hl2]
    exact congrArg some z.symm
  · exact .inr z
theorem look_map {c : Str × NameKind → Bool} : ∀ {names : List (Str × NameKind)} {y : Str} {k' : NameKind},
    (names.map fun p => if (p.2 == NameKind.free && c p) = true then (p.1, NameKind.cell) else (p.1, p.2)).lookup y = some k' → ∃ k, (y, k) ∈ names ∧ (k' = k ∨ (k = .free ∧ k' = .cell))
  | [], _, _, h => by simp at h
  | (n, k) :: r, y, k', h => by
    rw [List.map_cons] at h
    by_cases hy : y = n
    · subst hy
      cases hc : (k == NameKind.free && c (y, k)) with
      | false =>
        simp only [hc, Bool.false_eq_true, if_false, List.lookup_cons, beq_self_eq_true] at h
        cases h
        exact ⟨k, List.mem_cons_self, .inl rfl⟩
      | true =>
        simp only [hc, if_true, List.lookup_cons, beq_self_eq_true] at h
        cases h
        have e : k = .free := by
          have := (Bool.and_eq_true _ _).mp hc
          simpa using this.1
        exact ⟨k, List.mem_cons_self, .inr ⟨e, rfl⟩⟩
    · have hb : (y == n) = false := beq_eq_false_iff_ne.mpr hy
      have h' : (r.map fun p => if (p.2 == NameKind.free && c p) = true then (p.1, NameKind.cell) else (p.1, p.2)).lookup y = some k' := by
        cases hc : (k == NameKind.free && c (n, k)) with
        | false => simp only [hc, Bool.false_eq_true, if_false, List.lookup_cons, hb] at h; exact h
        | true => simp only [hc, if_true, List.lookup_cons, hb] at h; exact h
      obtain ⟨k2, m, e⟩ := look_map h'
      exact ⟨k2, List.mem_cons_of_mem _ m, e⟩
theorem look_relabel {scope : Scope} {env : Env} {y : Str} {k' : NameKind} (h : (relabel scope env).names.lookup y = some k') : ∃ k, (y, k) ∈ scope.names ∧ (k' = k ∨ (k = .free ∧ k' = .cell)) := by
  refine look_map (c := fun p => env.scope.kind == .function && env.kindOf p.1 == some .cell) ?_
  rw [← h]
  unfold relabel
  congr 1
  refine List.map_congr_left fun p _ => ?_
  obtain ⟨n, k⟩ := p
  simp only [Bool.and_assoc]
noncomputable abbrev compCx (X : Cx) (x : Str) (scope : Scope) (C : Addr) (s0 : Shared) (H0 : Hp) (ex : List Addr) (N' : List Str) : Cx where
  prog := X.prog
  w := X.w
  K := X.K
  mg := X.mg
  base := X.base
  A := X.A
  N := x :: N'
  s₀ := s0
  H₀ := H0
  env := compEnvC scope (closOf X.env scope.names []) C X.env
  outer := X.stack
  stack := X.stack
  ex := ex
  fn := fun _ => false
  calm := X.calm
  pn := []
  xe := fun _ _ => False
section
variable {X : Cx} {pins : List (Addr × Obj)} {σ : St} {H : Hp} {s : Shared} {x : Str} {scope : Scope} {N' : List Str}
theorem free_has (I : Inv X pins σ H s) (S : CS X.env.scope X.N x scope N') : ∀ y ∈ scope.names, y.2 = .free → ∃ c, X.env.cells.lookup y.1 = some c := fun y hy e =>
  I.ok.has y.1 (S.free y hy e)
theorem clos_look (I : Inv X pins σ H s) (S : CS X.env.scope X.N x scope N') {y : Str} {c : Addr} (e : (closOf X.env scope.names []).lookup y = some c) : X.env.cells.lookup y = some c :=
  closOf_look scope.names [] y c (fun _ _ z => by simp at z) (free_has I S) e
theorem clos_has (I : Inv X pins σ H s) (S : CS X.env.scope X.N x scope N') {y : Str} (e : (y, NameKind.free) ∈ scope.names) : ∃ c, (closOf X.env scope.names []).lookup y = some c ∧ X.env.cells.lookup y = some c := by
  obtain ⟨c, hc⟩ := Option.isSome_iff_exists.mp (closOf_has (env := X.env) scope.names [] y e)
  exact ⟨c, hc, clos_look I S hc⟩
theorem comp_enter {fp : List Addr} {h' : Heap} {m : Str → Option Value} {tk : Nat} {oD oC : Obj} (I : Inv X pins σ H s) (S : CS X.env.scope X.N x scope N') (hf : ∀ b ∈ fp, FpOk X pins H b) (ho : ∀ b ∈ fp, ∃ o, s.heap.get? b = some o)
    (hns : h'.Ns (s.heap.push oD).objs.size m) (hsb : Heap.SameBut (s.heap.push oD).objs.size ((s.heap.push oD).push oC) h') :
    Inv (compCx X x scope (s.heap.push oD).objs.size { s with heap := s.heap.push oD } H (s.heap.objs.size :: fp) N') [] (none :: σ) H { s with heap := h', toks := tk } := by
  have I3 : Inv X pins σ H { s with heap := s.heap.push oD, toks := s.toks } := I.kept fun b o e => Heap.get?_push_of_some _ e
  have hC : (s.heap.push oD).objs.size = s.heap.objs.size + 1 := Heap.size_push ..
  have up3 : ∀ b o, (s.heap.push oD).get? b = some o → h'.get? b = some o := fun b o e =>
    (hsb.2 b (Nat.ne_of_lt (Heap.lt_size e))).trans (Heap.get?_push_of_some _ e)
  have up : ∀ b o, s.heap.get? b = some o → h'.get? b = some o := fun b o e => up3 b o (Heap.get?_push_of_some _ e)
  have cl := fun {y c} e => clos_look (y := y) (c := c) I S e
  have clt : ∀ y c, X.env.cells.lookup y = some c → c < s.heap.objs.size := fun y c e => let ⟨v, q⟩ := I.cell y c e; q.lt
  have inner : ∀ {y : Str} {k' : NameKind}, (relabel scope X.env).names.lookup y = some k' → (k' = .cell ∨ k' = .free) → (y, NameKind.free) ∈ scope.names := fun {y k'} e hk => by
    obtain ⟨k, mem, r⟩ := look_relabel e
    rcases r with r | ⟨r, _⟩
    · rcases hk with z | z
      · exact absurd (r.symm.trans z) (S.nocell _ mem)
      · rw [← r.symm.trans z]; exact mem
    · rw [← r]; exact mem
  have ok : (compCx X x scope (s.heap.push oD).objs.size { s with heap := s.heap.push oD } H (s.heap.objs.size :: fp) N').Ok := by
    refine ⟨I.ok.mod, S.kind, I.ok.glob, I.ok.blt, Nat.le_refl _, fun y z c e1 e2 => I.ok.inj y z c (cl e1) (cl e2), fun y hk => ?_, fun y c e => (nomatch e), I.ok.hd, I.ok.frames, .inl rfl, fun b hb => ?_, fun b o e => ?_,
      Nat.le_trans (Nat.le_trans I.ok.bsz I.sz) (by show s.heap.objs.size ≤ (s.heap.push oD).objs.size; omega), fun b o e hb => ?_, fun b hb z => ?_, I3.stack, I.stkFree⟩
    · have mem : (y, NameKind.free) ∈ scope.names := by
        rcases hk with z | z
        · exact inner z (.inl rfl)
        · exact inner z (.inr rfl)
      obtain ⟨c, hc, _⟩ := clos_has I S mem
      exact ⟨c, hc⟩
    · rcases List.mem_cons.mp hb with e | e
      · subst e
        exact ⟨by show s.heap.objs.size ≠ (s.heap.push oD).objs.size; omega, fun y c e => Nat.ne_of_lt (clt y c (cl e))⟩
      · obtain ⟨o, q⟩ := ho b e
        have q2 := Heap.lt_size q
        exact ⟨by show b ≠ (s.heap.push oD).objs.size; rw [hC]; exact Nat.ne_of_lt (Nat.lt_succ_of_lt q2), fun y c e' => (hf b e).2.2.2.2.1 y c (cl e')⟩
    · exact ⟨Heap.get?_push_of_some _ (I.bs b o e).1, (I.bs b o e).2⟩
    · rcases List.mem_cons.mp hb with z | z
      · have q2 := Heap.lt_size (I.bs b o e).1
        rw [z] at q2
        exact Nat.lt_irrefl _ q2
      · rcases (hf b z).2.2.2.1 with q | q
        · exact I.ok.noex b o e q
        · have q2 := Heap.lt_size (I.ok.bs b o e).1
          exact Nat.lt_irrefl _ (Nat.lt_of_lt_of_le q2 q)
    · have z' := I.stkSub b z
      rcases List.mem_cons.mp hb with e | e
      · subst e
        rcases List.mem_cons.mp z' with q | q
        · have q2 := I.lt
          rw [← q] at q2
          exact Nat.lt_irrefl _ q2
        · exact I.nofs (Nat.le_refl _) q
      · rcases List.mem_cons.mp z' with q | q
        · exact (hf b e).2.1 q
        · exact (hf b e).2.2.1 q
  obtain ⟨mo, hno, hlo⟩ := I.loc
  refine ⟨ok, rfl, I.bare, Un.kept up3, ⟨m, hns, fun i y v e1 e2 e3 => ?_⟩, fun y c e => ?_, I.hok.fresh (by show s.heap.objs.size ≤ (s.heap.push oD).objs.size; omega), fun y c e => I.freeC y c (cl e), fun p hp => absurd hp (by simp), I.hok.kept up, ?_⟩
  · cases i with
    | zero => simp at e2
    | succ j =>
      have e1n : N'[j]? = some y := by simpa using e1
      have vis : ∃ k, (y, k) ∈ scope.names := by
        rcases (show Vis (relabel scope X.env) y from e3) with z | z | z <;> exact let ⟨k, mem, _⟩ := look_relabel z; ⟨k, mem⟩
      have e1' : X.N[j]? = some y := by
        rcases S.at e1n with z | z
        · exact z
        · obtain ⟨k, mem⟩ := vis
          exact absurd rfl (z _ mem)
      have e2' : σ[j]? = some (some v) := by simpa using e2
      have yx : y ≠ x := fun z => by
        have nd := S.nd
        rw [List.nodup_cons] at nd
        refine nd.1 ?_
        rw [← z]
        exact List.mem_of_getElem? e1n
      have kin : ((relabel scope X.env).names.lookup y = some .cell ∨ (relabel scope X.env).names.lookup y = some .free) := by
        rcases (show Vis (relabel scope X.env) y from e3) with z | z | z
        · obtain ⟨k, mem, r⟩ := look_relabel z
          rcases r with r | ⟨_, r⟩
          · rcases S.only _ mem r.symm with z2 | z2
            · exact absurd z2 yx
            · exact absurd (List.mem_of_getElem? e1n) (by rw [show y = (".0" : Str) from z2]; exact S.n0)
          · cases r
        · exact .inl z
        · exact .inr z
      have mem : (y, NameKind.free) ∈ scope.names := by
        rcases kin with z | z
        · exact inner z (.inl rfl)
        · exact inner z (.inr rfl)
      have vo : Vis X.env.scope y := by
        rcases S.free _ mem rfl with z | z
        · exact .inr (.inl z)
        · exact .inr (.inr z)
      obtain ⟨u, ru, lk⟩ := hlo j y v e1' e2' vo
      refine ⟨u, ru, .inr ⟨kin, ?_⟩⟩
      obtain ⟨c, hc, hc'⟩ := clos_has I S mem
      refine ⟨c, hc, ?_⟩
      rcases lk with ⟨z, _⟩ | ⟨_, c2, z2, q⟩
      · exfalso
        have z' : X.env.scope.names.lookup y = some .local := z
        rcases S.free _ mem rfl with r | r <;> (rw [z'] at r; cases r)
      · rw [hc'] at z2
        cases z2
        obtain ⟨o, q1, q2⟩ := q
        exact ⟨o, up _ _ q1, q2⟩
  · obtain ⟨v, o, q1, q2⟩ := I.cell y c (cl e)
    exact ⟨v, o, up _ _ q1, q2⟩
  · have := I.len
    simp [this, S.len]
theorem comp_leave {fp : List Addr} {σ' : St} {pins' : List (Addr × Obj)} {H1 : Hp} {s1 : Shared} {h' : Heap} {C : Addr} {oD : Obj} {ys : List V} (I : Inv X pins σ H s) (hf : ∀ b ∈ fp, FpOk X pins H b)
    (hCd : C = (s.heap.push oD).objs.size) (J : Inv (compCx X x scope C { s with heap := s.heap.push oD } H (s.heap.objs.size :: fp) N') pins' σ' H1 s1) (hsb : Heap.SameBut C s1.heap h') (hD0 : H1 s.heap.objs.size = none)
    (new : ∃ its n, Vals ys its ∧ s1.heap.get? s.heap.objs.size = some { cls := .type "list", data := .seq its.toArray n }) (hz : ys.length ≤ sizeLine) :
    Inv X pins σ (upd H1 s.heap.objs.size (.lst ys)) { s1 with heap := h' } := by
  have hC : C = s.heap.objs.size + 1 := by rw [hCd]; exact Heap.size_push ..
  have nD : ∀ b o, s.heap.get? b = some o → b ≠ s.heap.objs.size := fun b o e => Nat.ne_of_lt (Heap.lt_size e)
  have nC : ∀ b o, s.heap.get? b = some o → b ≠ C := fun b o e => by rw [hC]; exact Nat.ne_of_lt (Nat.lt_succ_of_lt (Heap.lt_size e))
  have up : ∀ b o, s.heap.get? b = some o → (s.heap.push oD).get? b = some o := fun b o e => Heap.get?_push_of_some _ e
  have nx : ∀ b, b ∉ fp → b ≠ s.heap.objs.size → b ∉ s.heap.objs.size :: fp := fun b h1 h2 z => (List.mem_cons.mp z).elim h2 h1
  have hDC : s.heap.objs.size ≠ C := by rw [hC]; exact Nat.ne_of_lt (Nat.lt_succ_self _)
  have tr : ∀ b u, H1 b = some u → b ≠ s.heap.objs.size := fun b u e z => by rw [z, hD0] at e; cases e
  have trC : ∀ b u, H1 b = some u → b ≠ C := fun b u e z => by
    have := J.free
    rw [z] at e
    have q : H1 C = none := J.free
    rw [q] at e; cases e
  obtain ⟨its, n, rv, eD⟩ := new
  have B : Un (frs X.stack) (s.heap.objs.size :: fp) H H1 (s.heap.push oD) s1.heap := J.base
  refine I.call' (s' := { s1 with heap := h' }) (ch := fp) J.os ⟨fun b o e q h1 h2 => ?_, fun b o e q h1 h2 => ?_, fun b o e q h2 => ?_, fun b o e h2 => ?_, fun b xs e => ?_, fun b o u e => ?_, fun b ps e => ?_⟩ (fun b u e => ?_) J.bare fun b hb => ?_
  · exact (hsb.2 b (nC b o e)).trans (B.keep b o (up b o e) q h1 (nx b h2 (nD b o e)))
  · obtain ⟨sl, z⟩ := B.slot b o (up b o e) q h1 (nx b h2 (nD b o e))
    exact ⟨sl, (hsb.2 b (nC b o e)).trans z⟩
  · rw [upd_ne (nD b o e)]
    exact B.free b o (up b o e) q (nx b h2 (nD b o e))
  · obtain ⟨o', z⟩ := B.there b o (up b o e) (nx b h2 (nD b o e))
    exact ⟨o', (hsb.2 b (nC b o e)).trans z⟩
  · have z := B.tups b xs e
    rw [upd_ne (tr b _ z)]; exact z
  · have z := B.frzs b o u e
    rw [upd_ne (tr b _ z)]; exact z
  · obtain ⟨more, z⟩ := B.tbls b ps e
    exact ⟨more, by rw [upd_ne (tr b _ z)]; exact z⟩
  · by_cases hb : b = s.heap.objs.size
    · subst hb
      rw [upd_same] at e
      cases e
      exact ⟨hz, its, n, rv, (hsb.2 _ hDC).trans eD⟩
    · rw [upd_ne hb] at e
      refine (J.hok b u e).stay (fun c v hc q => (hsb.2 c ?_).trans q) (fun c q => by rw [upd_ne (tr c _ q)]; exact q) fun c xs q => by rw [upd_ne (tr c _ q)]; exact q
      rcases hc with z | z
      · rw [z]; exact trC b u e
      · exact trC c _ z
  · obtain ⟨_, f1, _, f3, f4, f5⟩ := hf b hb
    exact ⟨f3, f1, f4, f5⟩
end
noncomputable def PTs (X : Cx) (ifs : List Expr) (t : TT) : Prop :=
  ∀ (pins : List (Addr × Obj)) (s : Shared) (σ : St) (H : Hp) (Q : Bool → Hp → Prop) (E : Value → Shared → Prop), Inv X pins σ H s → t σ H Q →
    wpAny (model X.prog X.w) X.A (forIn ifs true fun c r => if r = true then do
      let ok ← isTrue c X.env (eval c X.env)
      pure (ForInStep.yield ok) else pure (ForInStep.yield r)) (TP X pins σ Q) E s
theorem pts_nil {X : Cx} : PTs X [] (fun _ H Q => Q true H) := fun _ _ _ H _ _ I h => wpAny_tests_nil ⟨H, I, h⟩
noncomputable def cLoop (σ : St) (J : It) (tt : TT) (te : TE) (W : Nat → Nat → List V → Hp → Prop) (D : List V → Hp → Prop) : Prop := ∀ i m ys H, W i m ys H →
  (J.stop i H ∧ ys.length ≤ sizeLine ∧ D ys H) ∨ (J.go i H ∧ ys.length < sizeLine ∧ ∃ N : List V → Hp → Prop, (∀ ys' H', N ys' H' → ∃ m', m' < m ∧ W (i + 1) m' ys' H') ∧ ∀ v H', J.yld i H v H' → tt (some v :: σ) H' fun b H2 =>
    if b = true then te (some v :: σ) H2 fun y H3 => N (ys ++ [y]) H3 else N ys H2)
section
variable {X : Cx} {pins : List (Addr × Obj)} {σ : St} {H : Hp} {s : Shared} {x : Str} {scope : Scope} {N' : List Str}
theorem comp_loop {fp : List Addr} {it C : Addr} {tn : Nat → Heap → Prop} {J : It} {oD : Obj} {elt iter : Expr} {ifs : List Expr} {px pos : Pos} {te : TE} {tt : TT} {W : Nat → Nat → List V → Hp → Prop} {Dn : List V → Hp → Prop}
    {R : Result → Shared → Prop} {σ' : St} {s4 : Shared} {m0 : Nat} (hcalm : X.calm = true) (S : CS X.env.scope X.N x scope N') (hf : ∀ b ∈ fp, FpOk X pins H b) (ho : ∀ b ∈ fp, ∃ o, s.heap.get? b = some o) (hCd : C = (s.heap.push oD).objs.size)
    (T : Turn X.prog X.w X.K (.Name x px) J fp it tn) (I4 : Inv (compCx X x scope C { s with heap := s.heap.push oD } H (s.heap.objs.size :: fp) N') [] (none :: σ) H s4) (st4 : tn 0 s4.heap) (hD4 : s4.heap.get? s.heap.objs.size = some { cls := .type "list", data := .seq #[] 0 })
    (hDn : H s.heap.objs.size = none) (hte : PE (compCx X x scope C { s with heap := s.heap.push oD } H (s.heap.objs.size :: fp) N') elt te) (htt : PTs (compCx X x scope C { s with heap := s.heap.push oD } H (s.heap.objs.size :: fp) N') ifs tt)
    (w0 : W 0 m0 [] H) (turn : cLoop σ J tt te W Dn)
    (hR : ∀ s1 H1 σ1 ys its n, Inv (compCx X x scope C { s with heap := s.heap.push oD } H (s.heap.objs.size :: fp) N') [] σ1 H1 s1 → H1 s.heap.objs.size = none → Vals ys its → s1.heap.get? s.heap.objs.size = some { cls := .type "list", data := .seq its.toArray n } → ys.length ≤ sizeLine → Dn ys H1 → R (.ok .next) s1) :
    codeAny (model X.prog X.w) X.A (.compLoop (.ListComp elt [⟨.Name x px, iter, ifs, 0⟩] scope pos) 0 (.ref it) (.ref s.heap.objs.size) (compEnvC scope (closOf X.env scope.names []) C X.env)) R s4 := by
  have hC : C = s.heap.objs.size + 1 := by rw [hCd]; exact Heap.size_push ..
  generalize hX : compCx X x scope C { s with heap := s.heap.push oD } H (s.heap.objs.size :: fp) N' = X' at *
  have xP : X'.prog = X.prog := by rw [← hX]
  have xW : X'.w = X.w := by rw [← hX]
  have xK : X'.K = X.K := by rw [← hX]
  have xA : X'.A = X.A := by rw [← hX]
  have xE : X'.env = compEnvC scope (closOf X.env scope.names []) C X.env := by rw [← hX]
  have xC : X'.calm = true := by rw [← hX]; exact hcalm
  have xex : X'.ex = s.heap.objs.size :: fp := by rw [← hX]
  have xpn : X'.pn = [] := by rw [← hX]
  have xxe : X'.xe = fun _ _ => False := by rw [← hX]
  have xN : X'.N = x :: N' := by rw [← hX]
  have xL : X'.env.locals = C := by rw [xE]; rfl
  have xloc : X'.env.scope.names.lookup x = some .local := by rw [xE]; exact lookup_relabel_local S.hx
  have lt : ∀ b ∈ fp, b < s.heap.objs.size := fun b hb => let ⟨_, e⟩ := ho b hb; Heap.lt_size e
  have fpk : ∀ {pl : List (Addr × Obj)} {H' : Hp}, (∀ p ∈ pl, p.1 = s.heap.objs.size) → (∀ b ∈ fp, H' b = none) → ∀ b ∈ fp, FpOk X' pl H' b := fun {pl H'} hp hn b hb => by
    have okk := I4.ok
    have hm : b ∈ X'.ex := by rw [xex]; exact List.mem_cons_of_mem _ hb
    refine ⟨hn b hb, (okk.exf b hm).1, okk.exfs b hm, .inl hm, (okk.exf b hm).2, fun p hpl z => ?_⟩
    rw [xpn] at hpl
    have q1 := hp p (by simpa using hpl)
    have q2 := lt b hb
    rw [← z, q1] at q2
    exact Nat.lt_irrefl _ q2
  have dok : ∀ {pl : List (Addr × Obj)} {H' : Hp}, (∀ p ∈ pl, p.1 ∈ fp) → H' s.heap.objs.size = none → FpOk X' pl H' s.heap.objs.size := fun {pl H'} hp hn => by
    have okk := I4.ok
    have hm : s.heap.objs.size ∈ X'.ex := by rw [xex]; exact List.mem_cons_self
    refine ⟨hn, (okk.exf _ hm).1, okk.exfs _ hm, .inl hm, (okk.exf _ hm).2, fun p hpl z => ?_⟩
    rw [xpn] at hpl
    have q2 := lt p.1 (hp p (by simpa using hpl))
    rw [z] at q2
    exact Nat.lt_irrefl _ q2
  refine codeAny_compLoop_tests (I := fun m s' => ∃ i σx H' ys its n, Inv X' [] (σx :: σ) H' s' ∧ tn i s'.heap ∧ (∀ b ∈ fp, H' b = none) ∧ H' s.heap.objs.size = none ∧ Vals ys its ∧ s'.heap.get? s.heap.objs.size = some { cls := .type "list", data := .seq its.toArray n } ∧ W i m ys H') ?_ m0
    ⟨0, none, H, [], [], 0, I4, st4, fun b hb => (hf b hb).1, hDn, .nil, hD4, w0⟩
  rintro m s5 ⟨i, σx, H5, ys, its, n, I5, st5, fr5, d5, rv, e5, w5⟩
  have I5d : Inv X' ([] ++ pinsAt [s.heap.objs.size] s5.heap) (σx :: σ) H5 s5 := I5.pinned (fun b hb => by
      have e : b = s.heap.objs.size := by simpa using hb
      rw [e]; exact dok (fun p hp => absurd hp (by simp)) d5) fun b hb => by
      have e : b = s.heap.objs.size := by simpa using hb
      rw [e]; exact ⟨_, e5, fun v z => by cases z⟩
  have pD : ([] ++ pinsAt [s.heap.objs.size] s5.heap : List (Addr × Obj)) = [(s.heap.objs.size, { cls := .type "list", data := .seq its.toArray n })] := by
    simp [pinsAt, e5]
  rw [pD] at I5d
  have p1 : ∀ p ∈ [(s.heap.objs.size, ({ cls := .type "list", data := .seq its.toArray n } : Obj))], p.1 = s.heap.objs.size := fun p hp => by
    have e : p = (s.heap.objs.size, { cls := .type "list", data := .seq its.toArray n }) := by simpa using hp
    rw [e]
  have hsz : its.length = ys.length := rv.length.symm
  rcases turn i m ys H5 w5 with ⟨stop, hz, dn⟩ | ⟨go, hz, N, hN, step⟩
  · have q := T.done X' xP xW xK xC i _ s5 (σx :: σ) H5 (notedBy (model X.prog X.w) X.A (compEnvC scope (closOf X.env scope.names []) C X.env) fun e s' => R (.error e) s') I5d (fpk p1 fr5) st5 stop
    rw [xA] at q
    refine wpAny_mono q (fun r s6 z => ?_) fun _ _ z => z
    obtain ⟨rfl, I6⟩ := z
    refine hR s6 H5 (σx :: σ) ys its n ?_ d5 rv (I6.pin _ (List.mem_append_right _ (List.mem_singleton.mpr rfl))).1 hz dn
    exact I6.pins_of fun p hp => absurd hp (by simp)
  · have q := T.item X' xP xW xK xC i _ s5 (σx :: σ) H5 (notedBy (model X.prog X.w) X.A (compEnvC scope (closOf X.env scope.names []) C X.env) fun e s' => R (.error e) s') I5d (fpk p1 fr5) st5 go
    rw [xA] at q
    refine wpAny_mono q (fun r s6 z => ?_) fun _ _ z => z
    obtain ⟨u, rfl, z⟩ := z
    dsimp only
    have z' : wpAny (model X.prog X.w) X.A (pure ()) _ _ s6 := z
    refine wpAny_bind (m := pure ()) (f := fun _ => assign (.Name x px) (compEnvC scope (closOf X.env scope.names []) C X.env) u) (wpAny_mono z' (fun _ s7 z => ?_) fun _ _ z => z)
    obtain ⟨v, H7, I7, rv7, y7, st7, fr7⟩ := z
    have I7p := I7.pinned (fpk p1 fr7) (T.obj _ _ st7)
    rw [← xE]
    have nd : X'.N.Nodup := by rw [xN]; exact S.nd
    have hi0 : X'.N[0]? = some x := by rw [xN]; rfl
    refine wpAny_assign_Name (store_ok (E := notedBy (model X.prog X.w) X.A X'.env fun e s' => R (.error e) s') (i := 0) I7p nd hi0 (.inl xloc) rv7 (fun s8 I8 => ?_) (.inr xloc))
    have I8' : Inv X' _ (some v :: σ) H7 s8 := I8
    have t8 := htt _ s8 (some v :: σ) H7 _ (notedBy (model X.prog X.w) X.A X'.env fun e s' => R (.error e) s') I8' (step v H7 y7)
    rw [xP, xW, xA] at t8
    refine wpAny_mono t8 (fun ok s9 z => ?_) fun _ _ z => z
    obtain ⟨H9, I9, q9⟩ := z
    have back : ∀ {s' : Shared} {H' : Hp} {σ2 : St}, Inv X' ([(s.heap.objs.size, ({ cls := .type "list", data := .seq its.toArray n } : Obj))] ++ pinsAt fp s7.heap) σ2 H' s' →
        tn (i + 1) s'.heap ∧ (∀ b ∈ fp, H' b = none) ∧ H' s.heap.objs.size = none ∧ s'.heap.get? s.heap.objs.size = some { cls := .type "list", data := .seq its.toArray n } ∧ Inv X' [] σ2 H' s' := fun {s' H' σ2} I' => by
      refine ⟨T.keep _ _ _ st7 fun b hb o e => (I'.pin (b, o) (List.mem_append_right _ (List.mem_append_right _ (mem_pinsAt hb e)))).1, fun b hb => ?_, ?_, ?_, I'.pins_of fun p hp => absurd hp (by simp)⟩
      · obtain ⟨o, e, _⟩ := T.obj _ _ st7 b hb
        exact (I'.pin (b, o) (List.mem_append_right _ (List.mem_append_right _ (mem_pinsAt hb e)))).2.1
      · exact (I'.pin (s.heap.objs.size, _) (List.mem_append_right _ (List.mem_append_left _ (List.mem_singleton.mpr rfl)))).2.1
      · exact (I'.pin (s.heap.objs.size, _) (List.mem_append_right _ (List.mem_append_left _ (List.mem_singleton.mpr rfl)))).1
    cases ok with
    | false =>
      simp only [Bool.false_eq_true, if_false] at q9 ⊢
      obtain ⟨m', hm, w9⟩ := hN _ _ q9
      obtain ⟨a1, a2, a3, a4, a5⟩ := back I9
      exact ⟨m', hm, i + 1, some v, H9, ys, its, n, a5, a1, a2, a3, rv, a4, w9⟩
    | true =>
      simp only [if_true] at q9 ⊢
      have t9 := hte _ s9 (some v :: σ) H9 _ I9 q9
      rw [xP, xW, xA, xxe] at t9
      refine wpAny_mono t9 (fun u2 s10 z => ?_) fun _ _ z => z.elim
      obtain ⟨y, H10, I10, r10, q10⟩ := z
      obtain ⟨m', hm, w10⟩ := hN _ _ q10
      obtain ⟨a1, a2, a3, a4, a5⟩ := back I10
      refine wpAny_list_append_plain ⟨n, a4⟩ (fun h' pl sb => ?_) (by rw [List.size_toArray]; omega)
      obtain ⟨n', e'⟩ := pl
      have D0 := dok (pl := []) (fun p hp => absurd hp (by simp)) a3
      refine ⟨m', hm, i + 1, some v, H10, ys ++ [y], its ++ [u2], n', a5.turned (t' := s10.toks) (fun b o hb e => (sb.2 b hb).trans e) D0.1 D0.2.1 D0.2.2.2.1 D0.2.2.2.2.1 D0.2.2.2.2.2, ?_, a2, a3, rv.append (.cons r10 .nil), by simpa using e', w10⟩
      exact T.keep _ _ _ a1 fun b hb o e => (sb.2 b (Nat.ne_of_lt (lt b hb))).trans e
end
end L2
namespace L2
open PySem PySem.Spec PyProof.Rows
section
variable {X : Cx} {x : Str} {scope : Scope} {N' : List Str} {elt iter : Expr} {ifs : List Expr} {px pos : Pos} {wi : TI} {te : TE} {tt : TT}
noncomputable def tComp (wi : TI) (tt : TT) (te : TE) : TE := fun σ H Q => wi σ H fun J H1 => ∃ W : Nat → Nat → List V → Hp → Prop, (∃ m, W 0 m [] H1) ∧ cLoop σ J tt te W fun ys H => ∀ p, H p = none → Q (.ref p) (upd H p (.lst ys))
theorem pe_comp (hc : X.calm = true) (S : CS X.env.scope X.N x scope N') (hi : PI X (.Name x px) iter wi) (he : ∀ C s0 H0 ex, PE (compCx X x scope C s0 H0 ex N') elt te)
    (ht : ∀ C s0 H0 ex, PTs (compCx X x scope C s0 H0 ex N') ifs tt) (hs : ∀ v, foldedSetIterable iter X.env v = pure v := by intro _; rfl) : PE X (.ListComp elt [⟨.Name x px, iter, ifs, 0⟩] scope pos) (tComp wi tt te) := by
  intro pins s σ H Q I h
  rw [eval_ListComp]
  refine wpAny_comprehension_free (use := none) rfl hs (closure_eq (free_has I S)) S.kind S.names (thn (hi pins s σ H _ I h) fun v s1 h1 => thn h1 fun itv s2 h2 => ?_)
  obtain ⟨it, fp, tn, J, H2, rfl, I2, T, st2, f2, W, ⟨m0, w0⟩, turn⟩ := h2
  have ho : ∀ b ∈ fp, ∃ o, s2.heap.get? b = some o := fun b hb => let ⟨o, e, _⟩ := T.obj _ _ st2 b hb; ⟨o, e⟩
  refine wpAny_newObj_type (wpAny_newFunctionEnv S.nocell (by intro y hy; simp at hy) (fun h' hns hsb => ?_) S.kind)
  have I4 := comp_enter (x := x) (scope := scope) (tk := s2.toks + ([] : List (Str × Value)).length) I2 S f2 ho hns hsb
  have up3 : ∀ b o, (s2.heap.push { cls := .type "list", dict := none, data := .seq ([] : List Value).toArray }).get? b = some o → h'.get? b = some o := fun b o e =>
    (hsb.2 b (Nat.ne_of_lt (Heap.lt_size e))).trans (Heap.get?_push_of_some _ e)
  have st4 : tn 0 h' := T.keep _ _ _ st2 fun b _ o e => up3 b o (Heap.get?_push_of_some _ e)
  have loop := comp_loop (elt := elt) (iter := iter) (ifs := ifs) (pos := pos) (R := compPost (model X.prog X.w) X.A X.xe none (EP X pins σ Q) (.ref s2.heap.objs.size) (s2.heap.push { cls := .type "list", dict := none, data := .seq ([] : List Value).toArray }).objs.size) (σ' := σ)
    hc S f2 ho rfl T I4 st4 (up3 _ _ (Heap.get?_push_size _ rfl)) (I2.hok.fresh (Nat.le_refl _)) (he _ _ _ _) (ht _ _ _ _) w0 turn fun s5 H5 σ5 ys its n J5 d5 rv e5 hz dn => by
      obtain ⟨m, hn, _⟩ := J5.loc
      exact ⟨m, hn, fun h'' sb => ⟨.ref s2.heap.objs.size, _, comp_leave I2 f2 rfl J5 sb d5 ⟨its, n, rv, e5⟩ hz, rfl, dn _ d5⟩⟩
  exact codeAny_compStart_list loop (T.self X.A 0 _ _ _ st4 loop)
noncomputable def sComp (i : Nat) (wi : TI) (tt : TT) (te : TE) : TS := fun D σ H => wi σ H fun J H1 => ∃ W : Nat → Nat → List V → Hp → Prop, (∃ m, W 0 m [] H1) ∧ cLoop σ J tt te W fun ys H => ∀ p, H p = none → D.nx (σ.set i (some (.ref p))) (upd H p (.lst ys))
theorem ps_setC {i : Nat} {y : Str} {py spos : Pos} (hc : X.calm = true) (S : CS X.env.scope X.N x scope N') (hN : X.N.Nodup) (hi' : X.N[i]? = some y) (hy : Loc X.env.scope y) (hf' : X.fn y = true ∨ X.env.scope.names.lookup y = some .local)
    (hi : PI X (.Name x px) iter wi) (he : ∀ C s0 H0 ex, PE (compCx X x scope C s0 H0 ex N') elt te)
    (ht : ∀ C s0 H0 ex, PTs (compCx X x scope C s0 H0 ex N') ifs tt) (hsw : swapsWith (.ListComp elt [⟨.Name x px, iter, ifs, 0⟩] scope pos) (some (.Name y py)) spos.line X.env = pure true) (hs : ∀ v, foldedSetIterable iter X.env v = pure v := by intro _; rfl) :
    PS X (.Assign [.Name y py] (.ListComp elt [⟨.Name x px, iter, ifs, 0⟩] scope pos) spos) (sComp i wi tt te) := by
  intro pins s σ H D I h
  rw [exec_Assign_Name_used _ _ _ _ hsw]
  refine wpAny_bind (wpAny_standAt (wpAny_bind ?_))
  show wpAny _ _ (do let _ ← comprehension (.ListComp elt [⟨.Name x px, iter, ifs, 0⟩] scope pos) scope X.env _ (newList []) false (eval iter X.env) (some (assign (.Name y py) X.env))) _ _ s
  refine wpAny_bind (wpAny_mono (wpAny_comprehension_free (use := some (assign (.Name y py) X.env)) (Q := fun _ s' => SP X pins D .next s') rfl hs (closure_eq (free_has I S)) S.kind S.names (thn (hi pins s σ H _ I h) fun v s1 h1 => thn h1 fun itv s2 h2 => ?_)) (fun _ _ q => wpAny_pure (wpAny_pure q)) fun _ _ q => q)
  obtain ⟨it, fp, tn, J, H2, rfl, I2, T, st2, f2, W, ⟨m0, w0⟩, turn⟩ := h2
  have ho : ∀ b ∈ fp, ∃ o, s2.heap.get? b = some o := fun b hb => let ⟨o, e, _⟩ := T.obj _ _ st2 b hb; ⟨o, e⟩
  refine wpAny_newObj_type (wpAny_newFunctionEnv S.nocell (by intro y hy; simp at hy) (fun h' hns hsb => ?_) S.kind)
  have I4 := comp_enter (x := x) (scope := scope) (tk := s2.toks + ([] : List (Str × Value)).length) I2 S f2 ho hns hsb
  have up3 : ∀ b o, (s2.heap.push { cls := .type "list", dict := none, data := .seq ([] : List Value).toArray }).get? b = some o → h'.get? b = some o := fun b o e =>
    (hsb.2 b (Nat.ne_of_lt (Heap.lt_size e))).trans (Heap.get?_push_of_some _ e)
  have st4 : tn 0 h' := T.keep _ _ _ st2 fun b _ o e => up3 b o (Heap.get?_push_of_some _ e)
  have hCs : s2.heap.objs.size ≤ (s2.heap.push { cls := .type "list", dict := none, data := .seq ([] : List Value).toArray }).objs.size := by rw [Heap.size_push]; omega
  have hDC : (s2.heap.push { cls := .type "list", dict := none, data := .seq ([] : List Value).toArray }).objs.size ≠ s2.heap.objs.size := by rw [Heap.size_push]; omega
  have loop := comp_loop (elt := elt) (iter := iter) (ifs := ifs) (pos := pos) (R := compPost (model X.prog X.w) X.A X.xe (some (assign (.Name y py) X.env)) (fun _ s' => SP X pins D .next s') (.ref s2.heap.objs.size) (s2.heap.push { cls := .type "list", dict := none, data := .seq ([] : List Value).toArray }).objs.size) (σ' := σ)
    hc S f2 ho rfl T I4 st4 (up3 _ _ (Heap.get?_push_size _ rfl)) (I2.hok.fresh (Nat.le_refl _)) (he _ _ _ _) (ht _ _ _ _) w0 turn fun s5 H5 σ5 ys its n J5 d5 rv e5 hz dn => by
      have J6 := comp_leave I2 f2 rfl J5 (Heap.SameBut.refl _ _) d5 ⟨its, n, rv, e5⟩ hz
      obtain ⟨m, hn, _⟩ := J5.loc
      refine wpAny_assign_Name (store_ok2 (u := .ref s2.heap.objs.size) J6 hN hi' hy (show RelV (.ref s2.heap.objs.size) _ from rfl) (fun s7 I7 ⟨a, sb, ha⟩ => ?_) hf')
      have hCa : (s2.heap.push { cls := .type "list", dict := none, data := .seq ([] : List Value).toArray }).objs.size ≠ a := by
        rcases ha with z | z
        · rw [z]
          exact Nat.ne_of_gt (Nat.lt_of_lt_of_le I2.lt hCs)
        · obtain ⟨v, q⟩ := I2.cell _ _ z
          exact Nat.ne_of_gt (Nat.lt_of_lt_of_le q.lt hCs)
      have hn5 : H5 (s2.heap.push { cls := .type "list", dict := none, data := .seq ([] : List Value).toArray }).objs.size = none := J5.free
      have fk := I2.fpOk (b := (s2.heap.push { cls := .type "list", dict := none, data := .seq ([] : List Value).toArray }).objs.size) (H' := upd H5 s2.heap.objs.size (.lst ys)) hCs (by rw [upd_ne hDC]; exact hn5)
      refine ⟨m, hn.sameBut sb hCa, fun h'' sb2 => ⟨_, _, I7.turned (t' := s7.toks) (fun b o hb e => (sb2.2 b hb).trans e) fk.1 fk.2.1 fk.2.2.2.1 fk.2.2.2.2.1 fk.2.2.2.2.2, dn _ d5⟩⟩
  exact codeAny_compStart_list loop (T.self X.A 0 _ _ _ st4 loop)
end
section
variable {σ : St} {tt : TT} {te : TE}
end
noncomputable def Its (z : Str) : It := ⟨fun i _ => i < z.cps.size, fun i H v H' => H' = H ∧ ∃ c, z.cps[i]? = some c ∧ v = .str ⟨#[c]⟩, fun i _ => z.cps.size ≤ i⟩
end L2
namespace L2
open PySem PySem.Spec PyProof.Rows
theorem turn_str {P : Program} {w : World} {K : PySem.W.Frag} {tg : Expr} (z : Str) (t : Tok) (ty : String) (it : Addr) (hty : ty = "str_ascii_iterator" ∨ ty = "str_iterator") :
    Turn P w K tg (Its z) [it] it (fun i h => h.IsStrIter it ty z t i) where
  mem := by simp
  obj := fun i h st b hb => by
    have e : b = it := by simpa using hb
    subst e
    obtain ⟨o, e, c, d⟩ := st
    exact ⟨o, e, fun v q => by rw [d] at q; cases q⟩
  keep := fun i h h' st k => let ⟨o, e, r⟩ := st; ⟨o, k it (by simp) o e, r⟩
  item := by
    intro X hP hw hK hc i pins s σ H E I hf st hg
    subst hP hw hK
    have hi : i < z.cps.size := hg
    obtain ⟨f0, f1, f2, f3, f4, f5⟩ := hf it (by simp)
    have fin : ∀ h', h'.IsStrIter it ty z t (i + 1) → Heap.SameBut it s.heap h' → ∃ u, (some (Value.str ⟨#[z.cps[i]]⟩ s.toks) : Option Value) = some u ∧
        wpAny (model X.prog X.w) X.A (letOwnedTupleGo tg (.ref it) u) (fun _ s2 => ∃ x H', Inv X pins σ H' s2 ∧ RelV x u ∧ (Its z).yld i H x H' ∧ s2.heap.IsStrIter it ty z t (i + 1) ∧ ∀ b ∈ [it], H' b = none) E { s with heap := h', toks := s.toks + 1 } := fun h' st' sb => by
      have I1 : Inv X pins σ H { s with heap := h', toks := s.toks + 1 } := I.turned (fun b o hb e => (sb.2 b hb).trans e) f0 f1 f3 f4 f5
      obtain ⟨o, e, c, d⟩ := id st'
      refine ⟨_, rfl, go_of (s := { s with heap := h', toks := s.toks + 1 }) (n := ty) e c d ?_ ⟨.str ⟨#[z.cps[i]]⟩, H, I1, ⟨_, rfl⟩, ⟨rfl, z.cps[i], by simp [hi], rfl⟩, st', fun b hb => (hf b hb).1⟩⟩
      rcases hty with e | e <;> (rw [e]; decide)
    rcases hty with e | e
    · subst e
      exact wpAny_pyNext_ascii_item st (c := z.cps[i]) (by simp [hi]) fin
    · subst e
      exact wpAny_pyNext_wide_item st (c := z.cps[i]) (by simp [hi]) fin
  done := by
    intro X hP hw hK hc i pins s σ H E I hf st hg
    subst hP hw hK
    have hi : z.cps.size ≤ i := hg
    obtain ⟨f0, f1, f2, f3, f4, f5⟩ := hf it (by simp)
    have fin : ∀ h', Heap.ExtBut it s.heap h' → (none : Option Value) = none ∧ Inv X pins σ H { s with heap := h' } := fun h' eb => ⟨rfl, I.turned (t' := s.toks) (fun b o hb e => eb b o hb e) f0 f1 f3 f4 f5⟩
    rcases hty with e | e
    · subst e
      exact wpAny_pyNext_ascii_end (I.ok.hd hc) st (by simp; omega) fin
    · subst e
      exact wpAny_pyNext_wide_end (I.ok.hd hc) st (by simp; omega) fin
  self := fun _ _ _ _ _ st h => by
    rcases hty with e | e
    · subst e
      exact wpAny_pyIter_striter_ascii st h
    · subst e
      exact wpAny_pyIter_striter_wide st h
section
variable {X : Cx} {tg : Expr}
end
theorem all_range (bs : List Bool) (n : Nat) (hn : n = bs.length) : (List.range n).all (fun i => bs.getD i false) = bs.all id := by
  subst hn
  rw [Bool.eq_iff_iff, List.all_eq_true, List.all_eq_true]
  constructor
  · intro h b hb
    obtain ⟨i, hi, rfl⟩ := List.getElem_of_mem hb
    have := h i (List.mem_range.mpr hi)
    simpa [List.getD, hi] using this
  · intro h i hi
    have hi' := List.mem_range.mp hi
    have := h bs[i] (List.getElem_mem hi')
    simpa [List.getD, hi'] using this
theorem preSum_sum : ∀ (ns : List Int) (k : Nat), k ≤ ns.length → preSum (fun i => ns.getD i 0) k = (ns.take k).sum
  | ns, 0, _ => by simp [preSum]
  | ns, k + 1, h => by
    have hk : k < ns.length := h
    have ih := preSum_sum ns k (Nat.le_of_lt hk)
    have e : (ns.take (k + 1)).sum = (ns.take k).sum + ns.getD k 0 := by
      rw [List.take_add_one, List.sum_append]
      simp [List.getD, hk]
    rw [e, ← ih]
    rfl
section
variable {X : Cx}
theorem call_all (hc : X.calm = true) : CallR X (.builtin "all") (fun xs H Q => ∃ (p : Addr) (bs : List Bool), xs = [.ref p] ∧ SqL X.K H p (bs.map V.bl) ∧ Q (.bl (bs.all id)) H) := by
  intro pins s σ H xs us Q I r h
  obtain ⟨p, bs, rfl, hq, q⟩ := h
  obtain ⟨u, rfl, ru⟩ := vals1 r
  cases ru
  obtain ⟨its, rv, pl, hz⟩ := I.list hq
  have hlen : its.length = bs.length := by have := rv.length; simpa using this.symm
  have hlt : p < s.heap.objs.size := by
    obtain ⟨o, n, e, _⟩ := pl
    exact Heap.lt_size e
  refine call_all_walk (wpAny_pyIter_list pl.isList ?_)
  refine ⟨s.heap.objs.size, _, _, _, _, _, fun i => bs.getD i false, rfl, Walks.list (A := X.A.in1) (I.ok.hd hc) _ p (Nat.ne_of_lt hlt) its.toArray, ⟨⟨_, Heap.get?_push_size _ rfl, rfl, rfl⟩, ?_⟩, fun i v s' Q' E' hv hQ' => ?_, fun h' tk hk => ?_⟩
  · obtain ⟨o, n, e, r⟩ := pl.isList
    exact ⟨o, Heap.get?_push_of_some _ n, e, r⟩
  · have hi : i < its.length := by
      have := (Array.getElem?_eq_some_iff.mp hv).1
      simpa using this
    have hi2 : i < bs.length := by omega
    obtain ⟨u, hu, ru⟩ := rv.get (i := i) (x := .bl bs[i]) (by simp [hi2])
    have e : v = u := by
      have hv' : its[i]? = some v := by simpa using hv
      rw [hu] at hv'
      exact (Option.some.inj hv').symm
    subst e
    cases (show v = Value.bool bs[i] from ru)
    refine wpAny_truthy_bool ?_
    have e : bs[i] = bs.getD i false := by simp [List.getD, hi2]
    rw [e]
    exact hQ'
  · have e : (List.range its.toArray.size).all (fun i => bs.getD i false) = bs.all id := all_range bs _ (by simpa using hlen)
    rw [e]
    exact ⟨.bl _, H, I.kept (t' := tk) fun b o q => hk b o (by simp; exact Nat.ne_of_lt (Heap.lt_size q)) (Heap.get?_push_of_some _ q), rfl, q⟩
theorem ints_at {ns : List Int} {its : List Value} (rv : Vals (ns.map V.int) its) {i : Nat} {v : Value} (hv : its.toArray[i]? = some v) : ∃ t, v = .int (ns.getD i 0) t := by
  have hlen : its.length = ns.length := by have := rv.length; simpa using this.symm
  have hi : i < its.length := by
    have := (Array.getElem?_eq_some_iff.mp hv).1
    simpa using this
  have hi2 : i < ns.length := by omega
  obtain ⟨u, hu, ru⟩ := rv.get (i := i) (x := .int ns[i]) (by simp [hi2])
  have e : v = u := by
    have hv' : its[i]? = some v := by simpa using hv
    rw [hu] at hv'
    exact (Option.some.inj hv').symm
  subst e
  obtain ⟨t, e⟩ := (show ∃ t, v = Value.int ns[i] t from ru)
  refine ⟨t, ?_⟩
  rw [e]
  simp [List.getD, hi2]
theorem call_sum (hc : X.calm = true) : CallR X (.builtin "sum") (fun xs H Q => ∃ (p : Addr) (ns : List Int), xs = [.ref p] ∧ SqL X.K H p (ns.map V.int) ∧ Q (.int ns.sum) H) := by
  intro pins s σ H xs us Q I r h
  obtain ⟨p, ns, rfl, hq, q⟩ := h
  obtain ⟨u, rfl, ru⟩ := vals1 r
  cases ru
  obtain ⟨its, rv, pl, hz⟩ := I.list hq
  have hlen : its.length = ns.length := by have := rv.length; simpa using this.symm
  have hlt : p < s.heap.objs.size := by
    obtain ⟨o, n, e, _⟩ := pl
    exact Heap.lt_size e
  refine call_sum_walkG (wpAny_pyIter_list pl.isList ?_)
  refine ⟨s.heap.objs.size, _, _, _, _, _, fun i => ns.getD i 0, rfl, Walks.list (A := X.A.in1) (I.ok.hd hc) _ p (Nat.ne_of_lt hlt) its.toArray, ⟨⟨_, Heap.get?_push_size _ rfl, rfl, rfl⟩, ?_⟩, fun b hb => ?_, fun i v hv => ints_at rv hv, fun h' tk t' hk => ?_⟩
  · obtain ⟨o, n, e, r⟩ := pl.isList
    exact ⟨o, Heap.get?_push_of_some _ n, e, r⟩
  · rw [Heap.size_push]
    rcases (by simpa using hb : b = s.heap.objs.size ∨ b = p) with e | e
    · rw [e]; exact Nat.lt_succ_self _
    · rw [e]; exact Nat.lt_succ_of_lt hlt
  · have e : preSum (fun i => ns.getD i 0) its.toArray.size = ns.sum := by
      rw [preSum_sum ns _ (by simp; omega)]
      rw [List.take_of_length_le (by simp; omega)]
    rw [e]
    exact ⟨.int _, H, I.kept (t' := tk) fun b o q => hk b o (by simp; exact Nat.ne_of_lt (Heap.lt_size q)) (Heap.get?_push_of_some _ q), ⟨t', rfl⟩, q⟩
end
end L2
namespace L2
open PySem PySem.Spec PyProof.Rows
open K1 (maxFrom maxD)
section
variable {prog : Program} {w : World} {A : Around} {R : Result → Shared → Prop} {it S : Addr} {fp wr : List Addr} {P : Nat → Value → Prop} {St : Nat → Heap → Prop} {ns : List Int} {kw : List (Str × Value)}
end
section
variable {X : Cx}
end
end L2
namespace L2
open PySem PySem.Spec PyProof.Rows
open K1 (maxFrom maxD)
section
variable {X : Cx} {e ed : Expr} {te td : TE} {p pos kpos : Pos}
end
end L2
namespace L2
open PySem PySem.Spec PyProof.Rows
section
variable {X : Cx}
theorem op_isnotB : OpR X (compareOp .IsNot) (fun x y H Q => ∃ b c, x = .bl b ∧ y = .bl c ∧ Q (.bl (b != c)) H) := by
  intro pins s σ H x y v u Q I rx ry h
  obtain ⟨b, c, rfl, rfl, q⟩ := h
  cases rx
  cases ry
  exact isnot_bool ⟨.bl (b != c), H, I, rfl, q⟩
theorem op_catG : OpR X (binaryOp .Add) (fun x y H Q => ∃ a b xs ys, x = .ref a ∧ y = .ref b ∧ SqT X.K H a xs ∧ SqT X.K H b ys ∧ xs.length + ys.length ≤ sizeLine ∧
    (xs = [] → Q (.ref b) H) ∧ (xs ≠ [] → ys = [] → Q (.ref a) H) ∧ (xs ≠ [] → ys ≠ [] → ∀ p, H p = none → Q (.ref p) (upd H p (.tup (xs ++ ys))))) := by
  intro pins s σ H x y v u Q I rx ry h
  obtain ⟨a, b, xs, ys, rfl, rfl, ha, hb, hz, q0, q1, q2⟩ := h
  by_cases hx : xs = []
  · cases rx
    cases ry
    obtain ⟨its, r1, p1, _⟩ := I.tuple ha
    obtain ⟨its2, r2, p2, _⟩ := I.tuple hb
    have hv : its = [] := r1.nil_iff.mpr hx
    obtain ⟨⟨cls, dd, data, sl⟩, ho, hc, n, hd⟩ := id p1
    obtain ⟨⟨cls2, dd2, data2, sl2⟩, ho2, hc2, n2, hd2⟩ := id p2
    simp only at hc hd hc2 hd2
    subst hc hd hc2 hd2
    exact concat_meets ⟨_, ho, rfl⟩ ⟨_, ho2, rfl⟩ noFill_tuple_add seq_tuple_add PySem.F.slot_tuple_add PySem.F.entry_tuple_add (PySem.F.args_tuple_add_2 _ _)
      (tuple_addW0 a b its.toArray its2.toArray n n2 dd dd2 sl sl2 (by simp [hv])) ⟨ho, ho2, ⟨.ref b, H, I, rfl, q0 hx⟩⟩
  · exact op_catT pins s σ H _ _ v u Q I rx ry ⟨a, b, xs, ys, rfl, rfl, ha, hb, hx, hz, q1 hx, q2 hx⟩
theorem sl_str : SlR X (fun x lo hi H Q => ∃ z : Str, x = .str z ∧ z.length ≤ sizeLine ∧ Q (.str (Txt.slice z lo hi)) H) := by
  intro pins s σ H x v vl vu lo hi sl Q I rx hs pl pu h
  obtain ⟨z, rfl, hz, q⟩ := h
  obtain ⟨t, rfl⟩ := rx
  have fin : ∀ l u : Option (Int × Tok), l.map (·.1) = lo → u.map (·.1) = hi → s.heap.IsSlice sl l u none → wpAny (model X.prog X.w) X.A (getItem (.str z t) (.ref sl)) (EP X pins σ Q) X.xe s := fun l u el eu h => by
    refine wpAny_getItem_str_slice h rfl ?_
    refine post_val_or_made (fun _ => ?_) fun t' k => ?_
    · have := sliceIndices_le (l.map (·.1)) (u.map (·.1)) z.length
      have e := List.length_filterMap_le (fun i => z.cps[i]?) (slicePicked z l u none)
      show ((slicePicked z l u none).filterMap (z.cps[·]?)).toArray.size ≤ sizeLine
      rw [List.size_toArray]
      unfold slicePicked at e ⊢
      simp only [Option.map_none, Option.getD_none] at e ⊢
      omega
    · refine ⟨.str (Txt.slice z lo hi), H, I.tok _, ⟨t', ?_⟩, q⟩
      rw [← el, ← eu]
      rfl
  refine ⟨"str", _, PySem.F.slot_str_getitem.lookup, typeIs_str s z t, ?_⟩
  cases pl with
  | none =>
    cases pu with
    | none => exact fin none none rfl rfl hs
    | int j u => exact fin none (some (j, u)) rfl rfl hs
  | int i u =>
    cases pu with
    | none => exact fin (some (i, u)) none rfl rfl hs
    | int j u' => exact fin (some (i, u)) (some (j, u')) rfl rfl hs
theorem op_mulS : OpR X (binaryOp .Mult) (fun x y H Q => ∃ z k, x = .str z ∧ y = .int k ∧ 1 ≤ k ∧ k ≤ 2000 ∧ z.length ≤ 1000 ∧ Q (.str (Txt.mul z k)) H) := by
  intro pins s σ H x y v u Q I rx ry h
  obtain ⟨z, k, rfl, rfl, h1, h2, h3, q⟩ := h
  obtain ⟨t, rfl⟩ := rx
  obtain ⟨t', rfl⟩ := ry
  have hm : z.length * k.toNat ≤ 1000 * 2000 := Nat.mul_le_mul h3 (by omega)
  refine SB.mul ⟨?_, fun _ _ => ?_, fun _ _ => ?_⟩ fun t' k' => ⟨.str _, H, I.tok _, ⟨t', rfl⟩, q⟩
  · simp; omega
  · have e1 : (1000 : Int) ≤ (2 ^ 63 - 1) / k := by
      rw [Int.le_ediv_iff_mul_le (by omega)]
      omega
    omega
  · unfold Builtin.Str.tooLong
    simp [sizeLine]
    omega
end
end L2
namespace L2
open PySem PySem.Spec PyProof.Rows
theorem strsAre_of {ys : List Str} : ∀ {us : List Value}, Vals (ys.map V.str) us → StrsAre us ys := by
  induction ys with
  | nil => intro us r; rw [List.map_nil] at r; cases r; exact .nil
  | cons y ys ih =>
    intro us r
    rw [List.map_cons] at r
    cases r with
    | cons r1 r2 =>
      obtain ⟨t, e⟩ := r1
      subst e
      exact .cons y t (ih r2)
section
variable {X : Cx}
end
theorem join_codes {z : Str} (hz : z.cps.toList = []) : ∀ ys : List Str, (Str.join z ys).cps.toList = (ys.map (·.cps.toList)).flatten
  | [] => rfl
  | [x] => by simp [Str.join]
  | x :: y :: r => by
    have ih := join_codes hz (y :: r)
    show ((x ++ z) ++ Str.join z (y :: r)).cps.toList = _
    rw [cps_toList_append, cps_toList_append, hz, ih]
    simp
end L2
namespace L2
open PySem PySem.Spec PyProof.Rows
structure Fn (P : Program) (w : World) (K : PySem.W.Frag) (mg : Str → Option Value) (base : Heap) (name : Str) (ps : List Str) (k : Nat) (sp : Sp) : Prop where
  ex : ∃ f fd, FnOk P w K mg base CX0 k f fd ps sp ∧ Binds K fd ps [] ∧ PySem.W.keepIn K (.ref f) = true ∧ mg name = some (.ref f)
section
variable {X : Cx} {name : Str} {ps : List Str} {k : Nat} {sp : Sp} {e : Expr} {es : List Expr} {t : TA} {p pos : Pos}
theorem pe_fn (F : Fn X.prog X.w X.K X.mg X.base name ps k sp) (hr : Room k X.A) (hg : Gl X name) (ha : PA X (e :: es) t) (hdb : (name == ("__debug__" : Str)) = false := by decide)
    (he : starEach (e :: es) X.env = (false, eval e X.env) :: starEach es X.env := by rfl) (hpl : (backTo pos (starEach es X.env)).any (·.1) = false := by rfl) : PE X (.Call (.Name name p) (e :: es) [] pos) (tCall sp [] E0 t) := by
  obtain ⟨f, fd, h1, h2, h3, h4⟩ := F.ex
  exact pe_call h1 hr hg h4 h3 h2 .nil pass0 ha hdb he hpl
end
theorem Fn.mono {P : Program} {w : World} {K : PySem.W.Frag} {mg : Str → Option Value} {base : Heap} {name : Str} {ps : List Str} {k k' : Nat} {sp : Sp} (F : Fn P w K mg base name ps k sp) (h : k ≤ k') : Fn P w K mg base name ps k' sp := by
  obtain ⟨f, fd, h1, h2⟩ := F.ex
  exact ⟨f, fd, h1.mono h, h2⟩
theorem pe_compD {X : Cx} {x : Str} {scope osc : Scope} {N N' : List Str} {elt iter : Expr} {ifs : List Expr} {px pos : Pos} {wi : TI} {te : TE} {tt : TT} (S : CS osc N x scope N') (hi : PI X (.Name x px) iter wi)
    (he : ∀ C s0 H0 ex, PE (compCx X x scope C s0 H0 ex N') elt te) (ht : ∀ C s0 H0 ex, PTs (compCx X x scope C s0 H0 ex N') ifs tt) (hc : X.calm = true := by rfl) (hs : X.env.scope = osc := by rfl) (hN : X.N = N := by rfl)
    (hf : ∀ v, foldedSetIterable iter X.env v = pure v := by intro _; rfl) : PE X (.ListComp elt [⟨.Name x px, iter, ifs, 0⟩] scope pos) (tComp wi tt te) := by
  subst hs hN
  exact pe_comp hc S hi he ht hf
end L2
namespace D
open PySem PySem.Spec PyProof.Rows L2
inductive W where
  | d (x : PyData) | tp (i : Nat) | loc (x : PyData)
noncomputable abbrev Tp := List (List PyData)
noncomputable abbrev Rho := List (Option W)
noncomputable def bnd {α β : Type} (o : Option (α × Tp)) (k : α → Tp → Option β) : Option β := match o with
  | some (a, T) => k a T
  | none => none
theorem bnd_of {α β : Type} {o : Option (α × Tp)} {k : α → Tp → Option β} {b : β} (h : bnd o k = some b) : ∃ a T, o = some (a, T) ∧ k a T = some b := by
  cases o with
  | none => cases h
  | some p => exact ⟨p.1, p.2, rfl, h⟩
noncomputable def keyD : Key → PyData
  | .inl i => .int i
  | .inr x => .str x
noncomputable def TupAt (K : PySem.W.Frag) (O : Addr → Prop) (H : Hp) (a : Addr) (vs : List V) : Prop := (¬ O a ∧ Rd H a (.tup vs)) ∨ SqT K (fun _ => none) a vs
noncomputable def LstAt (K : PySem.W.Frag) (O : Addr → Prop) (H : Hp) (a : Addr) (vs : List V) : Prop := (¬ O a ∧ Rd H a (.lst vs)) ∨ SqL K (fun _ => none) a vs
theorem sqT_of {K : PySem.W.Frag} {H : Hp} {a : Addr} {vs : List V} (h : SqT K (fun _ => none) a vs) : SqT K H a vs := by
  rcases h with (h | ⟨o, h⟩) | h
  · cases h
  · cases h
  · exact .inr h
theorem sqL_of {K : PySem.W.Frag} {H : Hp} {a : Addr} {vs : List V} (h : SqL K (fun _ => none) a vs) : SqL K H a vs := by
  rcases h with (h | ⟨o, h⟩) | h
  · cases h
  · cases h
  · exact .inr h
theorem TupAt.sq {K : PySem.W.Frag} {O : Addr → Prop} {H : Hp} {a : Addr} {vs : List V} (h : TupAt K O H a vs) : SqT K H a vs := by
  rcases h with h | h
  · exact .inl h.2
  · exact sqT_of h
theorem LstAt.sq {K : PySem.W.Frag} {O : Addr → Prop} {H : Hp} {a : Addr} {vs : List V} (h : LstAt K O H a vs) : SqL K H a vs := by
  rcases h with h | h
  · exact .inl h.2
  · exact sqL_of h
mutual
inductive Rep (K : PySem.W.Frag) (O : Addr → Prop) (H : Hp) : V → PyData → Prop where
  | non : Rep K O H .non .none
  | bl (b : Bool) : Rep K O H (.bl b) (.bool b)
  | int (i : Int) : Rep K O H (.int i) (.int i)
  | str (x : Str) : Rep K O H (.str x) (.str x)
  | tup {a : Addr} {vs : List V} {ds : List PyData} : TupAt K O H a vs → Reps K O H vs ds → Rep K O H (.ref a) (.tuple ds)
  | lst {a : Addr} {vs : List V} {ds : List PyData} : LstAt K O H a vs → Reps K O H vs ds → Rep K O H (.ref a) (.list ds)
  | dct {a : Addr} {kvs : List (Key × V)} {ds : List (PyData × PyData)} : ¬ O a → H a = some (.dK kvs) → RepK K O H kvs ds → Rep K O H (.ref a) (.dict ds)
inductive Reps (K : PySem.W.Frag) (O : Addr → Prop) (H : Hp) : List V → List PyData → Prop where
  | nil : Reps K O H [] []
  | cons {v : V} {d : PyData} {vs : List V} {ds : List PyData} : Rep K O H v d → Reps K O H vs ds → Reps K O H (v :: vs) (d :: ds)
inductive RepK (K : PySem.W.Frag) (O : Addr → Prop) (H : Hp) : List (Key × V) → List (PyData × PyData) → Prop where
  | nil : RepK K O H [] []
  | cons {k : Key} {v : V} {d : PyData} {kvs : List (Key × V)} {ds : List (PyData × PyData)} : Rep K O H v d → RepK K O H kvs ds → RepK K O H ((k, v) :: kvs) ((keyD k, d) :: ds)
end
noncomputable def Le (O : Addr → Prop) (H : Hp) (O' : Addr → Prop) (H' : Hp) : Prop := ∀ a o, ¬ O a → H a = some o → ¬ O' a ∧ H' a = some o
theorem Le.trans {O O1 O2 : Addr → Prop} {H H1 H2 : Hp} (h : Le O H O1 H1) (g : Le O1 H1 O2 H2) : Le O H O2 H2 := fun a o n e => let ⟨n1, e1⟩ := h a o n e; g a o n1 e1
theorem TupAt.mono {K : PySem.W.Frag} {O O' : Addr → Prop} {H H' : Hp} (h : Le O H O' H') {a : Addr} {vs : List V} (t : TupAt K O H a vs) : TupAt K O' H' a vs := by
  rcases t with ⟨n, t | ⟨o, t⟩⟩ | t
  · exact .inl ⟨(h _ _ n t).1, .inl (h _ _ n t).2⟩
  · exact .inl ⟨(h _ _ n t).1, .inr ⟨o, (h _ _ n t).2⟩⟩
  · exact .inr t
theorem LstAt.mono {K : PySem.W.Frag} {O O' : Addr → Prop} {H H' : Hp} (h : Le O H O' H') {a : Addr} {vs : List V} (t : LstAt K O H a vs) : LstAt K O' H' a vs := by
  rcases t with ⟨n, t | ⟨o, t⟩⟩ | t
  · exact .inl ⟨(h _ _ n t).1, .inl (h _ _ n t).2⟩
  · exact .inl ⟨(h _ _ n t).1, .inr ⟨o, (h _ _ n t).2⟩⟩
  · exact .inr t
mutual
theorem Rep.mono {K : PySem.W.Frag} {O O' : Addr → Prop} {H H' : Hp} (e : Le O H O' H') : ∀ {v : V} {d : PyData}, Rep K O H v d → Rep K O' H' v d
  | _, _, .non => .non
  | _, _, .bl b => .bl b
  | _, _, .int i => .int i
  | _, _, .str x => .str x
  | _, _, .tup t r => .tup (t.mono e) (Reps.mono e r)
  | _, _, .lst t r => .lst (t.mono e) (Reps.mono e r)
  | _, _, .dct n h r => .dct (e _ _ n h).1 (e _ _ n h).2 (RepK.mono e r)
theorem Reps.mono {K : PySem.W.Frag} {O O' : Addr → Prop} {H H' : Hp} (e : Le O H O' H') : ∀ {vs : List V} {ds : List PyData}, Reps K O H vs ds → Reps K O' H' vs ds
  | _, _, .nil => .nil
  | _, _, .cons r t => .cons (Rep.mono e r) (Reps.mono e t)
theorem RepK.mono {K : PySem.W.Frag} {O O' : Addr → Prop} {H H' : Hp} (e : Le O H O' H') : ∀ {vs : List (Key × V)} {ds : List (PyData × PyData)}, RepK K O H vs ds → RepK K O' H' vs ds
  | _, _, .nil => .nil
  | _, _, .cons r t => .cons (Rep.mono e r) (RepK.mono e t)
end
section
variable {K : PySem.W.Frag} {O : Addr → Prop} {H : Hp}
theorem Reps.length : ∀ {vs : List V} {ds : List PyData}, Reps K O H vs ds → vs.length = ds.length
  | _, _, .nil => rfl
  | _, _, .cons _ t => congrArg (· + 1) (Reps.length t)
theorem Reps.get : ∀ {vs : List V} {ds : List PyData} {i : Nat} {v : V}, Reps K O H vs ds → vs[i]? = some v → ∃ d, ds[i]? = some d ∧ Rep K O H v d
  | _, _, _, _, .nil, e => by simp at e
  | _, _, 0, _, .cons r _, e => by simp at e; subst e; exact ⟨_, rfl, r⟩
  | _, _, i + 1, v, .cons _ t, e => by
    obtain ⟨d, h1, h2⟩ := Reps.get (i := i) (v := v) t (by simpa using e)
    exact ⟨d, by simpa using h1, h2⟩
theorem Reps.getD : ∀ {vs : List V} {ds : List PyData} {i : Nat} {d : PyData}, Reps K O H vs ds → ds[i]? = some d → ∃ v, vs[i]? = some v ∧ Rep K O H v d
  | _, _, _, _, .nil, e => by simp at e
  | _, _, 0, _, .cons r _, e => by simp at e; subst e; exact ⟨_, rfl, r⟩
  | _, _, i + 1, v, .cons _ t, e => by
    obtain ⟨d, h1, h2⟩ := Reps.getD (i := i) (d := v) t (by simpa using e)
    exact ⟨d, by simpa using h1, h2⟩
theorem Reps.set {v : V} {d : PyData} (r : Rep K O H v d) : ∀ {vs : List V} {ds : List PyData} (i : Nat), Reps K O H vs ds → Reps K O H (vs.set i v) (ds.set i d)
  | _, _, _, .nil => .nil
  | _, _, 0, .cons _ t => .cons r t
  | _, _, i + 1, .cons q t => .cons q (Reps.set r i t)
theorem Reps.append {ws : List V} {es : List PyData} : ∀ {vs : List V} {ds : List PyData}, Reps K O H vs ds → Reps K O H ws es → Reps K O H (vs ++ ws) (ds ++ es)
  | _, _, .nil, r => r
  | _, _, .cons q t, r => .cons q (Reps.append t r)
theorem Reps.take : ∀ {vs : List V} {ds : List PyData} (n : Nat), Reps K O H vs ds → Reps K O H (vs.take n) (ds.take n)
  | _, _, 0, _ => .nil
  | _, _, _ + 1, .nil => .nil
  | _, _, n + 1, .cons r t => .cons r (Reps.take n t)
theorem Reps.drop : ∀ {vs : List V} {ds : List PyData} (n : Nat), Reps K O H vs ds → Reps K O H (vs.drop n) (ds.drop n)
  | _, _, 0, r => r
  | _, _, _ + 1, .nil => .nil
  | _, _, n + 1, .cons _ t => Reps.drop n t
theorem Reps.rep {vs : List V} {ds : List PyData} (r : Reps K O H vs ds) : ∀ n : Nat, Reps K O H (List.replicate n vs).flatten (List.replicate n ds).flatten
  | 0 => .nil
  | n + 1 => by
    rw [List.replicate_succ, List.replicate_succ, List.flatten_cons, List.flatten_cons]
    exact r.append (r.rep n)
end
noncomputable def SameX (ts : List Addr) (H H' : Hp) : Prop := ∀ b o, b ∉ ts → H b = some o → H' b = some o
theorem SameX.refl (ts : List Addr) (H : Hp) : SameX ts H H := fun _ _ _ h => h
theorem SameX.trans {ts : List Addr} {H H1 H2 : Hp} (a : SameX ts H H1) (b : SameX ts H1 H2) : SameX ts H H2 := fun c o n h => b c o n (a c o n h)
theorem SameX.new {ts : List Addr} {H : Hp} {p : Addr} (h : H p = none) (o : HO) : SameX ts H (upd H p o) := fun b u _ q => by rw [upd_ne (ne_of_none q h)]; exact q
noncomputable def Mut (o : Option HO) : Prop := (∃ vs, o = some (.lst vs)) ∨ (∃ kvs, o = some (.dK kvs)) ∨ ∃ C dx fs, o = some (.ins C dx fs)
theorem Mut.ex {o : Option HO} (h : Mut o) : ∃ u, o = some u := by
  rcases h with ⟨vs, e⟩ | ⟨vs, e⟩ | ⟨C, dx, fs, e⟩ <;> exact ⟨_, e⟩
theorem Mut.to {o o' : Option HO} (h : Mut o) (k : ∀ u, o = some u → o' = some u) : Mut o' := by
  rcases h with ⟨vs, e⟩ | ⟨vs, e⟩ | ⟨C, dx, fs, e⟩
  · exact .inl ⟨vs, k _ e⟩
  · exact .inr (.inl ⟨vs, k _ e⟩)
  · exact .inr (.inr ⟨C, dx, fs, k _ e⟩)
noncomputable def tagO (C : Addr) : PyData := .dict [(.none, .int (C : Int))]
noncomputable def isO : List PyData → Bool
  | .dict [(.none, _)] :: _ => true
  | _ => false
noncomputable def pairF (p : Str × PyData) : PyData := .tuple [.str p.1, p.2]
inductive RepF (K : PySem.W.Frag) (O : Addr → Prop) (H : Hp) : List (Str × V) → List (Str × PyData) → Prop where
  | nil : RepF K O H [] []
  | cons {n : Str} {v : V} {d : PyData} {vs : List (Str × V)} {ds : List (Str × PyData)} : Rep K O H v d → RepF K O H vs ds → RepF K O H ((n, v) :: vs) ((n, d) :: ds)
theorem RepF.mono {K : PySem.W.Frag} {O O' : Addr → Prop} {H H' : Hp} (e : Le O H O' H') {vs : List (Str × V)} {ds : List (Str × PyData)} (r : RepF K O H vs ds) : RepF K O' H' vs ds := by
  induction r with
  | nil => exact .nil
  | cons r _ ih => exact .cons (Rep.mono e r) ih
noncomputable def RowAt (K : PySem.W.Frag) (O : Addr → Prop) (H : Hp) (a : Addr) (xs : List PyData) : Prop :=
  (isO xs = false ∧ ∃ vs, H a = some (.lst vs) ∧ Reps K O H vs xs) ∨ ∃ C dx fs fd, H a = some (.ins C dx fs) ∧ xs = tagO C :: fd.map pairF ∧ RepF K O H fs fd
theorem RowAt.mono {K : PySem.W.Frag} {O O' : Addr → Prop} {H H' : Hp} {a : Addr} {xs : List PyData} (h : RowAt K O H a xs) (k : ∀ o, H a = some o → H' a = some o) (l : Le O H O' H') : RowAt K O' H' a xs := by
  rcases h with ⟨n, vs, h1, h2⟩ | ⟨C, dx, fs, fd, h1, h2, h3⟩
  · exact .inl ⟨n, vs, k _ h1, h2.mono l⟩
  · exact .inr ⟨C, dx, fs, fd, k _ h1, h2, h3.mono l⟩
theorem RowAt.lst {K : PySem.W.Frag} {O : Addr → Prop} {H : Hp} {a : Addr} {xs : List PyData} (h : RowAt K O H a xs) (n : isO xs = false) : ∃ vs, H a = some (.lst vs) ∧ Reps K O H vs xs := by
  rcases h with ⟨_, h⟩ | ⟨C, dx, fs, fd, h1, h2, h3⟩
  · exact h
  · rw [h2] at n
    cases n
theorem rep_tag {K : PySem.W.Frag} {O : Addr → Prop} {H : Hp} {v : V} {y : PyData} (h : Rep K O H v (.dict [(.none, y)])) : False := by
  cases h with
  | dct _ _ r =>
    generalize hl : [(PyData.none, y)] = l at r
    cases r with
    | nil => cases hl
    | @cons k _ _ _ _ _ _ =>
      injection hl with h1 _
      injection h1 with h1 _
      rcases k with i | x
      · cases h1
      · cases h1
theorem Reps.notO {K : PySem.W.Frag} {O : Addr → Prop} {H : Hp} {vs : List V} {xs : List PyData} (r : Reps K O H vs xs) : isO xs = false := by
  cases r with
  | nil => rfl
  | cons h _ =>
    rename_i d _ _ _
    unfold isO
    split
    · rename_i e
      cases e
      exact (rep_tag h).elim
    · rfl
structure HC (K : PySem.W.Frag) (O : Addr → Prop) (ts : List Addr) (H : Hp) (T : Tp) : Prop where
  own : ∀ b ∈ ts, O b
  trk : ∀ b, O b → Mut (H b)
  nd : ts.Nodup
  len : ts.length = T.length
  tape : ∀ (i : Nat) (a : Addr) (xs : List PyData), ts[i]? = some a → T[i]? = some xs → RowAt K O H a xs
section
variable {K : PySem.W.Frag} {O : Addr → Prop} {ts : List Addr} {H H' : Hp} {T : Tp}
theorem HC.le (c : HC K O ts H T) (s : SameX ts H H') : Le O H O H' := fun a o n e => ⟨n, s a o (fun z => n (c.own a z)) e⟩
theorem HC.step (c : HC K O ts H T) (s : SameX ts H H') (t : ∀ b ∈ ts, H' b = H b) : HC K O ts H' T where
  own := c.own
  trk := fun b hb => by
    by_cases z : b ∈ ts
    · rw [t b z]; exact c.trk b hb
    · exact (c.trk b hb).to fun u e => s b _ z e
  nd := c.nd
  len := c.len
  tape := fun i a xs e1 e2 => by
    exact (c.tape i a xs e1 e2).mono (fun o h1 => by rw [t a (List.mem_of_getElem? e1)]; exact h1) (c.le s)
theorem HC.fresh (c : HC K O ts H T) {p : Addr} (h : H p = none) : ¬ O p := fun z => by
  obtain ⟨u, e⟩ := (c.trk p z).ex
  rw [h] at e
  cases e
theorem HC.new (c : HC K O ts H T) {p : Addr} (h : H p = none) (o : HO) : HC K O ts (upd H p o) T :=
  c.step (.new h o) fun b hb => upd_ne fun z => c.fresh h (z ▸ c.own b hb)
theorem HC.leNew (c : HC K O ts H T) {p : Addr} (h : H p = none) (o : HO) : Le O H O (upd H p o) := c.le (.new h o)
theorem HC.newT (c : HC K O ts H T) {p : Addr} (h : H p = none) {vs : List V} {ds : List PyData} (r : Reps K O H vs ds) : Rep K O (upd H p (.tup vs)) (.ref p) (.tuple ds) :=
  .tup (.inl ⟨c.fresh h, .inl upd_same⟩) (r.mono (c.leNew h _))
theorem HC.newL (c : HC K O ts H T) {p : Addr} (h : H p = none) {vs : List V} {ds : List PyData} (r : Reps K O H vs ds) : Rep K O (upd H p (.lst vs)) (.ref p) (.list ds) :=
  .lst (.inl ⟨c.fresh h, .inl upd_same⟩) (r.mono (c.leNew h _))
end
inductive Vw (K : PySem.W.Frag) (O : Addr → Prop) (H : Hp) : V → PyData → Prop where
  | rep {v : V} {x : PyData} : Rep K O H v x → Vw K O H v x
  | raw {a : Addr} {vs : List V} {xs : List PyData} : H a = some (.lst vs) → Reps K O H vs xs → Vw K O H (.ref a) (.list xs)
  | rawD {a : Addr} {kvs : List (Key × V)} {ds : List (PyData × PyData)} : H a = some (.dK kvs) → RepK K O H kvs ds → Vw K O H (.ref a) (.dict ds)
section
variable {K : PySem.W.Frag} {O : Addr → Prop} {H : Hp} {v : V}
theorem Vw.int {i : Int} (h : Vw K O H v (.int i)) : v = .int i := by cases h with | rep h => cases h; rfl
theorem Vw.str {x : Str} (h : Vw K O H v (.str x)) : v = .str x := by cases h with | rep h => cases h; rfl
theorem Vw.bl {b : Bool} (h : Vw K O H v (.bool b)) : v = .bl b := by cases h with | rep h => cases h; rfl
theorem Vw.non (h : Vw K O H v .none) : v = .non := by cases h with | rep h => cases h; rfl
theorem Vw.tup {ds : List PyData} (h : Vw K O H v (.tuple ds)) : ∃ a vs, v = .ref a ∧ TupAt K O H a vs ∧ Reps K O H vs ds := by
  cases h with | rep h => cases h with | tup t r => exact ⟨_, _, rfl, t, r⟩
theorem Vw.tupR {ds : List PyData} (h : Vw K O H v (.tuple ds)) : Rep K O H v (.tuple ds) := by cases h with | rep h => exact h
theorem Vw.lst {ds : List PyData} (h : Vw K O H v (.list ds)) : ∃ a vs, v = .ref a ∧ SqL K H a vs ∧ Reps K O H vs ds := by
  cases h with
  | rep h => cases h with | lst t r => exact ⟨_, _, rfl, t.sq, r⟩
  | raw h r => exact ⟨_, _, rfl, SqL.of h, r⟩
theorem Vw.dct {ds : List (PyData × PyData)} (h : Vw K O H v (.dict ds)) : ∃ a kvs, v = .ref a ∧ H a = some (.dK kvs) ∧ RepK K O H kvs ds := by
  cases h with
  | rep h => cases h with | dct n t r => exact ⟨_, _, rfl, t, r⟩
  | rawD t r => exact ⟨_, _, rfl, t, r⟩
end
noncomputable def OwnAt (K : PySem.W.Frag) (O : Addr → Prop) (H : Hp) (a : Addr) : PyData → Prop
  | .list xs => ∃ vs, H a = some (.lst vs) ∧ Reps K O H vs xs
  | .dict ds => ∃ kvs, H a = some (.dK kvs) ∧ RepK K O H kvs ds
  | _ => False
theorem OwnAt.mono {K : PySem.W.Frag} {O O' : Addr → Prop} {H H' : Hp} {a : Addr} {x : PyData} (h : OwnAt K O H a x) (k : ∀ o, H a = some o → H' a = some o) (l : Le O H O' H') : OwnAt K O' H' a x := by
  cases x with
  | list xs => obtain ⟨vs, h1, h2⟩ := h; exact ⟨vs, k _ h1, h2.mono l⟩
  | dict ds => obtain ⟨vs, h1, h2⟩ := h; exact ⟨vs, k _ h1, h2.mono l⟩
  | _ => cases h
theorem OwnAt.some {K : PySem.W.Frag} {O : Addr → Prop} {H : Hp} {a : Addr} {x : PyData} (h : OwnAt K O H a x) : ∃ o, H a = some o := by
  cases x with
  | list xs => obtain ⟨vs, h1, h2⟩ := h; exact ⟨_, h1⟩
  | dict ds => obtain ⟨vs, h1, h2⟩ := h; exact ⟨_, h1⟩
  | _ => cases h
noncomputable def RepW (K : PySem.W.Frag) (O : Addr → Prop) (ts : List Addr) (H : Hp) (v : V) : W → Prop
  | .d x => Rep K O H v x
  | .tp i => ∃ a, ts[i]? = some a ∧ v = .ref a
  | .loc x => ∃ a, v = .ref a ∧ O a ∧ a ∉ ts ∧ OwnAt K O H a x
noncomputable def rowV (xs : List PyData) : Option PyData := if isO xs = true then none else some (.list xs)
noncomputable def view (T : Tp) : W → Option PyData
  | .d x => some x
  | .tp i => (T[i]?).bind rowV
  | .loc (.list xs) => some (.list xs)
  | .loc (.dict ds) => some (.dict ds)
  | .loc _ => none
noncomputable def views (T : Tp) : List W → Option (List PyData)
  | [] => some []
  | w :: r => match view T w with
    | some x => (match views T r with
      | some xs => some (x :: xs)
      | none => none)
    | none => none
noncomputable def RepWs (K : PySem.W.Frag) (O : Addr → Prop) (ts : List Addr) (H : Hp) : List V → List W → Prop := Paired fun v w => RepW K O ts H v w
noncomputable def Vws (K : PySem.W.Frag) (O : Addr → Prop) (H : Hp) : List V → List PyData → Prop := Paired fun v x => Vw K O H v x
noncomputable def RelE (K : PySem.W.Frag) (O : Addr → Prop) (ts : List Addr) (H : Hp) (σ : L2.St) (ρ : Rho) : Prop := ∀ (i : Nat) (w : W), ρ[i]? = some (some w) → ∃ v, σ[i]? = some (some v) ∧ RepW K O ts H v w
section
variable {K : PySem.W.Frag} {O : Addr → Prop} {ts : List Addr} {H H' : Hp} {T : Tp} {v : V} {w : W}
theorem RepW.mono (r : RepW K O ts H v w) (c : HC K O ts H T) (s : SameX ts H H') : RepW K O ts H' v w := by
  cases w with
  | d x => exact Rep.mono (c.le s) r
  | tp i => exact r
  | loc xs =>
    obtain ⟨a, e, h1, h2, h3⟩ := r
    exact ⟨a, e, h1, h2, h3.mono (fun o q => s _ _ h2 q) (c.le s)⟩
theorem RelE.mono {σ : L2.St} {ρ : Rho} (r : RelE K O ts H σ ρ) (c : HC K O ts H T) (s : SameX ts H H') : RelE K O ts H' σ ρ := fun i w e =>
  let ⟨v, h1, h2⟩ := r i w e; ⟨v, h1, h2.mono c s⟩
theorem RepWs.mono {vs : List V} {ws : List W} (r : RepWs K O ts H vs ws) (c : HC K O ts H T) (s : SameX ts H H') : RepWs K O ts H' vs ws := Paired.mapP r fun _ _ h => h.mono c s
theorem HC.view (c : HC K O ts H T) {x : PyData} (r : RepW K O ts H v w) (e : view T w = some x) : Vw K O H v x := by
  cases w with
  | d y => cases e; exact .rep r
  | tp i =>
    obtain ⟨a, h1, rfl⟩ := r
    have e' : (T[i]?).bind rowV = some x := e
    cases ht : T[i]? with
    | none => rw [ht] at e'; cases e'
    | some xs =>
      rw [ht] at e'
      have e2 : (if isO xs = true then none else some (PyData.list xs)) = some x := e'
      split at e2
      · cases e2
      · rename_i hn
        cases e2
        obtain ⟨vs, h2, h3⟩ := (c.tape i a xs h1 ht).lst (by simpa using hn)
        exact .raw h2 h3
  | loc xs =>
    obtain ⟨a, rfl, _, _, h3⟩ := r
    cases xs with
    | list xs => cases e; obtain ⟨vs, h1, h2⟩ := h3; exact .raw h1 h2
    | dict ds => cases e; obtain ⟨vs, h1, h2⟩ := h3; exact .rawD h1 h2
    | _ => cases h3
theorem HC.views (c : HC K O ts H T) : ∀ {vs : List V} {ws : List W} {xs : List PyData}, RepWs K O ts H vs ws → views T ws = some xs → Vws K O H vs xs
  | _, [], xs, .nil, e => by cases e; exact .nil
  | _, w :: r, xs, .cons h t, e => by
    unfold D.views at e
    split at e
    · rename_i x h1
      split at e
      · rename_i ys h2
        cases e
        exact .cons (c.view h h1) (HC.views c t h2)
      · cases e
    · cases e
end
end D
namespace D
open PySem PySem.Spec PyProof.Rows L2
noncomputable def noStar : Expr → Bool
  | .Starred _ _ => false
  | _ => true
theorem star_cons {e : Expr} {es : List Expr} {env : Env} (h : noStar e = true) : starEach (e :: es) env = (false, eval e env) :: starEach es env := by
  cases e <;> first | rfl | cases h
theorem star_one {e : Expr} {env : Env} (h : noStar e = true) : starEach [e] env = [(false, eval e env)] := star_cons h
theorem star_any {env : Env} {pos : Pos} : ∀ {es : List Expr}, es.all noStar = true → (backTo pos (starEach es env)).any (·.1) = false
  | [], _ => rfl
  | e :: r, h => by
    rw [List.all_cons, Bool.and_eq_true] at h
    rw [star_cons h.1]
    show (false || (backTo pos (starEach r env)).any (·.1)) = false
    rw [star_any h.2]
    rfl
theorem few1 {e : Expr} {env : Env} {cpos : Pos} (h : noStar e = true) : ((backTo cpos (starEach [e] env)).all (fun x => !x.1) && (backToKw cpos (keywordEach [] env)).all (fun x => x.1.isSome)
      && decide (([e] : List Expr).length + ([] : List Keyword).length + (if ([] : List Keyword).isEmpty then 0 else 1) < 30)) = true := by
  rw [star_one h]
  rfl
noncomputable abbrev FE := Rho → Tp → Option (W × Tp)
noncomputable abbrev FT := Rho → Tp → Option (Bool × Tp)
noncomputable abbrev FA := Rho → Tp → Option (List W × Tp)
inductive LiftP (K : PySem.W.Frag) (f : FE) (σ : L2.St) (H : Hp) (Q : VK) : Prop where
  | mk (O : Addr → Prop) (ts : List Addr) (ρ : Rho) (T : Tp) (w : W) (T' : Tp) (hc : HC K O ts H T) (re : RelE K O ts H σ ρ) (e : f ρ T = some (w, T')) (q : ∀ v H', SameX ts H H' → HC K O ts H' T' → RepW K O ts H' v w → Q v H') : LiftP K f σ H Q
noncomputable def lift (K : PySem.W.Frag) (f : FE) : TE := fun σ H Q => LiftP K f σ H Q
inductive LiftTP (K : PySem.W.Frag) (f : FT) (σ : L2.St) (H : Hp) (Q : Bool → Hp → Prop) : Prop where
  | mk (O : Addr → Prop) (ts : List Addr) (ρ : Rho) (T : Tp) (b : Bool) (T' : Tp) (hc : HC K O ts H T) (re : RelE K O ts H σ ρ) (e : f ρ T = some (b, T')) (q : ∀ H', SameX ts H H' → HC K O ts H' T' → Q b H') : LiftTP K f σ H Q
noncomputable def liftT (K : PySem.W.Frag) (f : FT) : TT := fun σ H Q => LiftTP K f σ H Q
inductive LiftAP (K : PySem.W.Frag) (f : FA) (σ : L2.St) (H : Hp) (Q : List V → Hp → Prop) : Prop where
  | mk (O : Addr → Prop) (ts : List Addr) (ρ : Rho) (T : Tp) (ws : List W) (T' : Tp) (hc : HC K O ts H T) (re : RelE K O ts H σ ρ) (e : f ρ T = some (ws, T')) (q : ∀ vs H', SameX ts H H' → HC K O ts H' T' → RepWs K O ts H' vs ws → Q vs H') : LiftAP K f σ H Q
noncomputable def liftA (K : PySem.W.Frag) (f : FA) : TA := fun σ H Q => LiftAP K f σ H Q
structure DE (X : Cx) (e : Expr) (f : FE) : Prop where
  pe : PE X e (lift X.K f)
structure DT (X : Cx) (e : Expr) (f : FT) : Prop where
  pe : PT X e (liftT X.K f)
structure DW (X : Cx) (e : Expr) (f : FT) : Prop where
  pe : PW X e (liftT X.K f)
structure DA (X : Cx) (es : List Expr) (f : FA) : Prop where
  pe : PA X es (liftA X.K f)
theorem pe_imp {X : Cx} {e : Expr} {t t' : TE} (h : PE X e t) (i : ∀ σ H Q, t' σ H Q → t σ H Q) : PE X e t' := fun pins s σ H Q I q => h pins s σ H Q I (i σ H Q q)
theorem pt_imp {X : Cx} {e : Expr} {t t' : TT} (h : PT X e t) (i : ∀ σ H Q, t' σ H Q → t σ H Q) : PT X e t' := fun pins s σ H Q I q => h pins s σ H Q I (i σ H Q q)
theorem pw_imp {X : Cx} {e : Expr} {t t' : TT} (h : PW X e t) (i : ∀ σ H Q, t' σ H Q → t σ H Q) : PW X e t' := fun wh pins s σ H Q I q => h wh pins s σ H Q I (i σ H Q q)
theorem pa_imp {X : Cx} {e : List Expr} {t t' : TA} (h : PA X e t) (i : ∀ σ H Q, t' σ H Q → t σ H Q) : PA X e t' := fun po pins s σ H Q I q => h po pins s σ H Q I (i σ H Q q)
noncomputable def fVar (i : Nat) : FE := fun ρ T => match ρ[i]? with
  | some (some w) => some (w, T)
  | _ => none
noncomputable def fC (x : PyData) : FE := fun _ T => some (.d x, T)
section
variable {X : Cx} {pos : Pos}
theorem de_var (i : Nat) {x : Str} (hN : X.N[i]? = some x := by rfl) (hv : Vis X.env.scope x := by first | exact Or.inl rfl | exact Or.inr (Or.inl rfl) | exact Or.inr (Or.inr rfl)) (hd : (x == ("__debug__" : Str)) = false := by decide)
    (hcd : (x == ("__classdict__" : Str)) = false := by decide) : DE X (.Name x pos) (fVar i) := by
  refine ⟨?_⟩
  refine pe_imp (pv i hN hv hd hcd) fun σ H Q => ?_
  rintro ⟨O, ts, ρ, T, w, T', hc, re, e, q⟩
  unfold fVar at e
  split at e
  · rename_i w' he
    cases e
    obtain ⟨v, h1, h2⟩ := re i _ he
    exact ⟨v, h1, q v H (.refl _ _) hc h2⟩
  · cases e
theorem lift_c {x : PyData} {v : V} (h : ∀ O H, Rep X.K O H v x) : ∀ σ H Q, lift X.K (fC x) σ H Q → tC v σ H Q := by
  rintro σ H Q ⟨O, ts, ρ, T, w, T', hc, re, e, q⟩
  cases e
  exact q v H (.refl _ _) hc (h O H)
theorem de_int {i j} : DE X (.Constant (.int i) j pos) (fC (.int i)) := ⟨pe_imp pe_int (lift_c fun _ _ => .int i)⟩
theorem de_bl {i j} : DE X (.Constant (.bool i) j pos) (fC (.bool i)) := ⟨pe_imp pe_bl (lift_c fun _ _ => .bl i)⟩
theorem de_str {i j} : DE X (.Constant (.str i) j pos) (fC (.str i)) := ⟨pe_imp pe_str (lift_c fun _ _ => .str i)⟩
theorem de_non {j} : DE X (.Constant .none j pos) (fC .none) := ⟨pe_imp pe_non (lift_c fun _ _ => .non)⟩
theorem de_globI {x : Str} {i : Int} (hg : Gl X x) (hm : ∃ t, X.mg x = some (.int i t)) (hd : (x == ("__debug__" : Str)) = false := by decide) : DE X (.Name x pos) (fC (.int i)) := by
  refine ⟨?_⟩
  obtain ⟨t, hm⟩ := hm
  exact pe_imp (pe_glob (v := .int i) hg hm ⟨t, rfl⟩ hd) (lift_c fun _ _ => .int i)
theorem de_globS {x : Str} {i : Str} (hg : Gl X x) (hm : ∃ t, X.mg x = some (.str i t)) (hd : (x == ("__debug__" : Str)) = false := by decide) : DE X (.Name x pos) (fC (.str i)) := by
  refine ⟨?_⟩
  obtain ⟨t, hm⟩ := hm
  exact pe_imp (pe_glob (v := .str i) hg hm ⟨t, rfl⟩ hd) (lift_c fun _ _ => .str i)
end
noncomputable def op1 (g : PyData → Option PyData) (T : Tp) (w : W) : Option (W × Tp) := match view T w with
  | some x => match g x with
    | some d => some (.d d, T)
    | none => none
  | none => none
noncomputable def op2 (g : PyData → PyData → Option PyData) (T : Tp) (w1 w2 : W) : Option (W × Tp) := match view T w1, view T w2 with
  | some x, some y => match g x y with
    | some d => some (.d d, T)
    | none => none
  | _, _ => none
theorem op1_of {g : PyData → Option PyData} {T T' : Tp} {w1 w : W} (e : op1 g T w1 = some (w, T')) : ∃ x d, view T w1 = some x ∧ g x = some d ∧ w = .d d ∧ T' = T := by
  unfold op1 at e
  split at e
  · rename_i x h1
    split at e
    · rename_i d h3
      cases e
      exact ⟨x, d, h1, h3, rfl, rfl⟩
    · cases e
  · cases e
theorem op2_of {g : PyData → PyData → Option PyData} {T T' : Tp} {w1 w2 w : W} (e : op2 g T w1 w2 = some (w, T')) : ∃ x y d, view T w1 = some x ∧ view T w2 = some y ∧ g x y = some d ∧ w = .d d ∧ T' = T := by
  unfold op2 at e
  split at e
  · rename_i x y h1 h2
    split at e
    · rename_i d h3
      cases e
      exact ⟨x, y, d, h1, h2, h3, rfl, rfl⟩
    · cases e
  · cases e
noncomputable def fBin (g : PyData → PyData → Option PyData) (fa fb : FE) : FE := fun ρ T => bnd (fa ρ T) fun w1 T1 => bnd (fb ρ T1) fun w2 T2 => op2 g T2 w1 w2
noncomputable def fUn (g : PyData → Option PyData) (fa : FE) : FE := fun ρ T => bnd (fa ρ T) fun w1 T1 => op1 g T1 w1
noncomputable def Snd2 (K : PySem.W.Frag) (r : R2) (g : PyData → PyData → Option PyData) : Prop := ∀ (O : Addr → Prop) (ts : List Addr) (H : Hp) (T : Tp) (v1 v2 : V) (x y d : PyData) (Q : VK), HC K O ts H T → Vw K O H v1 x → Vw K O H v2 y → g x y = some d →
  (∀ v H', SameX ts H H' → HC K O ts H' T → Rep K O H' v d → Q v H') → r v1 v2 H Q
noncomputable def Snd1 (K : PySem.W.Frag) (r : V → Hp → VK → Prop) (g : PyData → Option PyData) : Prop := ∀ (O : Addr → Prop) (ts : List Addr) (H : Hp) (T : Tp) (v1 : V) (x d : PyData) (Q : VK), HC K O ts H T → Vw K O H v1 x → g x = some d →
  (∀ v H', SameX ts H H' → HC K O ts H' T → Rep K O H' v d → Q v H') → r v1 H Q
noncomputable def OpD (X : Cx) (f : Value → Value → Sem Value) (g : PyData → PyData → Option PyData) : Prop := ∃ r, OpR X f r ∧ Snd2 X.K r g
noncomputable def IxD (X : Cx) (g : PyData → PyData → Option PyData) : Prop := ∃ r, IxR X r ∧ Snd2 X.K r g
theorem bin_imp {K : PySem.W.Frag} {r : R2} {g : PyData → PyData → Option PyData} {fa fb : FE} (snd : Snd2 K r g) {σ : L2.St} {H : Hp} {Q : VK} (h : lift K (fBin g fa fb) σ H Q) : tOp r (lift K fa) (lift K fb) σ H Q := by
  obtain ⟨O, ts, ρ, T, w, T', hc, re, e, q⟩ := h
  obtain ⟨w1, T1, e1, e⟩ := bnd_of e
  obtain ⟨w2, T2, e2, e⟩ := bnd_of e
  obtain ⟨x, y, d, h1, h2, h3, rfl, rfl⟩ := op2_of e
  refine ⟨O, ts, ρ, T, w1, T1, hc, re, e1, fun v1 H1 s1 hc1 r1 => ?_⟩
  refine ⟨O, ts, ρ, T1, w2, T', hc1, re.mono hc s1, e2, fun v2 H2 s2 hc2 r2 => ?_⟩
  exact snd O ts H2 T' v1 v2 x y d Q hc2 (hc2.view (r1.mono hc1 s2) h1) (hc2.view r2 h2) h3 fun v H' s3 hc3 r3 => q v H' (s1.trans (s2.trans s3)) hc3 r3
noncomputable def asB : W → Option Bool
  | .d (.bool b) => some b
  | _ => none
theorem asB_of {w : W} {b : Bool} (h : asB w = some b) : w = .d (.bool b) := by
  unfold asB at h
  split at h
  · cases h; rfl
  · cases h
noncomputable def fTst (f : FE) : FT := fun ρ T => bnd (f ρ T) fun w T1 => match asB w with
  | some b => some (b, T1)
  | none => none
theorem tst_imp {K : PySem.W.Frag} {f : FE} {σ : L2.St} {H : Hp} {Q : Bool → Hp → Prop} (h : liftT K (fTst f) σ H Q) : lift K f σ H fun x H' => ∃ k, x = .bl k ∧ Q k H' := by
  obtain ⟨O, ts, ρ, T, w, T', hc, re, e, q⟩ := h
  obtain ⟨w1, T1, e1, e⟩ := bnd_of e
  refine ⟨O, ts, ρ, T, w1, T1, hc, re, e1, fun v1 H1 s1 hc1 r1 => ?_⟩
  split at e
  · rename_i b hb
    cases e
    have hw := asB_of hb
    subst hw
    cases (show Rep K O H1 v1 _ from r1)
    exact ⟨_, rfl, q H1 s1 hc1⟩
  · cases e
section
variable {X : Cx} {pos : Pos} {a b c : Expr} {fa fb fc : FE} {g g' : PyData → PyData → Option PyData}
theorem de_bin {op : Operator} (ho : OpD X (binaryOp op) g) (ha : DE X a fa) (hb : DE X b fb) : DE X (.BinOp a op b pos) (fBin g fa fb) := by
  refine ⟨?_⟩
  obtain ⟨r, hr, snd⟩ := ho
  exact pe_imp (pe_op hr ha.pe hb.pe) fun σ H Q => bin_imp snd
theorem de_cmp {op : CmpOp} (ho : OpD X (compareOp op) g) (ha : DE X a fa) (hb : DE X b fb) (hm : behindInMarks op b = false := by first | exact nomark _ | with_unfolding_all rfl) : DE X (.Compare a [op] [b] pos) (fBin g fa fb) := by
  refine ⟨?_⟩
  obtain ⟨r, hr, snd⟩ := ho
  exact pe_imp (pe_cmpR hr ha.pe hb.pe hm) fun σ H Q => bin_imp snd
theorem dt_cmp {op : CmpOp} (ho : OpD X (compareOp op) g) (ha : DE X a fa) (hb : DE X b fb) (hm : behindInMarks op b = false := by first | exact nomark _ | with_unfolding_all rfl) : DT X (.Compare a [op] [b] pos) (fTst (fBin g fa fb)) := by
  refine ⟨?_⟩
  obtain ⟨r, hr, snd⟩ := ho
  exact pt_imp (pt_cmpR hr ha.pe hb.pe hm) fun σ H Q h => bin_imp snd (tst_imp h)
theorem de_ix (ho : IxD X g) (ha : DE X a fa) (hb : DE X b fb) (hs : PlainIx b := by exact fun _ _ => rfl) : DE X (.Subscript a b pos) (fBin g fa fb) := by
  refine ⟨?_⟩
  obtain ⟨r, hr, snd⟩ := ho
  exact pe_imp (pe_ix hr ha.pe hb.pe hs) fun σ H Q => bin_imp snd
noncomputable def fChain (g g' : PyData → PyData → Option PyData) (fa fb fc : FE) : FE := fun ρ T => bnd (fa ρ T) fun w1 T1 => bnd (fb ρ T1) fun w2 T2 => bnd (op2 g T2 w1 w2) fun w T3 => match asB w with
  | some b => if b = true then bnd (fc ρ T3) fun w3 T4 => op2 g' T4 w2 w3 else some (.d (.bool false), T3)
  | none => none
theorem chain_imp {K : PySem.W.Frag} {r r' : R2} (snd : Snd2 K r g) (snd' : Snd2 K r' g') {σ : L2.St} {H : Hp} {Q : VK} (h : lift K (fChain g g' fa fb fc) σ H Q) : tChain r r' (lift K fa) (lift K fb) (lift K fc) σ H Q := by
  obtain ⟨O, ts, ρ, T, w, T', hc, re, e, q⟩ := h
  obtain ⟨w1, T1, e1, e⟩ := bnd_of e
  obtain ⟨w2, T2, e2, e⟩ := bnd_of e
  obtain ⟨wz, T3, e3, ez⟩ := bnd_of e
  obtain ⟨x, y, d, h1, h2, h3, rfl, rfl⟩ := op2_of e3
  clear e
  refine ⟨O, ts, ρ, T, w1, T1, hc, re, e1, fun v1 H1 s1 hc1 r1 => ?_⟩
  refine ⟨O, ts, ρ, T1, w2, T3, hc1, re.mono hc s1, e2, fun v2 H2 s2 hc2 r2 => ?_⟩
  refine snd O ts H2 T3 v1 v2 x y d _ hc2 (hc2.view (r1.mono hc1 s2) h1) (hc2.view r2 h2) h3 fun v H3 s3 hc3 r3 => ?_
  split at ez
  · rename_i b hb
    have hd := asB_of hb
    injection hd with hd
    subst hd
    cases r3
    cases b with
    | true =>
      rw [if_pos rfl] at ez
      refine ⟨true, rfl, iteT ?_⟩
      obtain ⟨w3, T4, e4, e5⟩ := bnd_of ez
      obtain ⟨x', y', d', h1', h2', h3', rfl, rfl⟩ := op2_of e5
      refine ⟨O, ts, ρ, T3, w3, T', hc3, (re.mono hc (s1.trans (s2.trans s3))), e4, fun v3 H4 s4 hc4 r4 => ?_⟩
      exact snd' O ts H4 T' v2 v3 x' y' d' Q hc4 (hc4.view (r2.mono hc2 (s3.trans s4)) h1') (hc4.view r4 h2') h3' fun v H' s5 hc5 r5 => q v H' (s1.trans (s2.trans (s3.trans (s4.trans s5)))) hc5 r5
    | false =>
      rw [if_neg Bool.false_ne_true] at ez
      cases ez
      exact ⟨false, rfl, iteF (q _ H3 (s1.trans (s2.trans s3)) hc3 (.bl false))⟩
  · cases ez
theorem de_chain {op op' : CmpOp} (ho : OpD X (compareOp op) g) (ho' : OpD X (compareOp op') g') (ha : DE X a fa) (hb : DE X b fb) (hc : DE X c fc)
    (hm : lastMarks [op, op'] [b, c] = false := by with_unfolding_all rfl) : DE X (.Compare a [op, op'] [b, c] pos) (fChain g g' fa fb fc) := by
  refine ⟨?_⟩
  obtain ⟨r, hr, snd⟩ := ho
  obtain ⟨r', hr', snd'⟩ := ho'
  exact pe_imp (pe_chain hr hr' ha.pe hb.pe hc.pe hm) fun σ H Q => chain_imp snd snd'
noncomputable def truD : PyData → Option Bool
  | .none => some false
  | .bool b => some b
  | .int i => some (i != 0)
  | .str y => if y.length ≤ sizeLine then some ((y.length : Int) != 0) else none
  | .list xs => some (!xs.isEmpty)
  | .tuple xs => some (!xs.isEmpty)
  | .dict kvs => some (!kvs.isEmpty)
noncomputable def tru1 (T : Tp) (w : W) : Option (Bool × Tp) := match view T w with
  | some x => match truD x with
    | some b => some (b, T)
    | none => none
  | none => none
noncomputable def fTru (f : FE) : FT := fun ρ T => bnd (f ρ T) fun w T1 => tru1 T1 w
theorem reps_empty {K : PySem.W.Frag} {O : Addr → Prop} {H : Hp} {vs : List V} {ds : List PyData} (r : Reps K O H vs ds) : vs.isEmpty = ds.isEmpty := by cases r <;> rfl
theorem repk_empty {K : PySem.W.Frag} {O : Addr → Prop} {H : Hp} {vs : List (Key × V)} {ds : List (PyData × PyData)} (r : RepK K O H vs ds) : vs.isEmpty = ds.isEmpty := by cases r <;> rfl
theorem tru_of {K : PySem.W.Frag} {O : Addr → Prop} {H : Hp} {v : V} {x : PyData} {b : Bool} (h : Vw K O H v x) (e : truD x = some b) : TruV K v H b := by
  cases x with
  | none => cases h.non; cases e; rfl
  | bool c => cases h.bl; cases e; rfl
  | int i => cases h.int; cases e; rfl
  | str y =>
    cases h.str
    have e' : (if y.length ≤ sizeLine then some ((y.length : Int) != 0) else none) = some b := e
    split at e'
    · rename_i hl
      cases e'
      exact ⟨hl, rfl⟩
    · cases e'
  | list xs =>
    obtain ⟨a, vs, rfl, h1, h2⟩ := h.lst
    cases e
    exact .inl ⟨vs, h1, by rw [reps_empty h2]⟩
  | tuple xs =>
    obtain ⟨a, vs, rfl, h1, h2⟩ := h.tup
    cases e
    exact .inr (.inl ⟨vs, h1.sq, by rw [reps_empty h2]⟩)
  | dict kvs =>
    obtain ⟨a, vs, rfl, h1, h2⟩ := h.dct
    cases e
    exact .inr (.inr ⟨vs, h1, by rw [repk_empty h2]⟩)
theorem dt_tru (ha : DE X a fa) (he : ∀ whole, isTrue a X.env whole = (do let v ← whole; standAt a.pos; holding [v] (truthy v)) := by intro _; rfl) : DT X a (fTru fa) := by
  refine ⟨?_⟩
  refine pt_imp (pt_truth ha.pe he) fun σ H Q => ?_
  rintro ⟨O, ts, ρ, T, b, T', hc, re, e, q⟩
  obtain ⟨w1, T1, e1, e⟩ := bnd_of e
  refine ⟨O, ts, ρ, T, w1, T1, hc, re, e1, fun v1 H1 s1 hc1 r1 => ?_⟩
  unfold tru1 at e
  split at e
  · rename_i x h1
    split at e
    · rename_i k h2
      cases e
      exact ⟨b, tru_of (hc1.view r1 h1) h2, q H1 s1 hc1⟩
    · cases e
  · cases e
noncomputable def fAndT (f g : FT) : FT := fun ρ T => bnd (f ρ T) fun b T1 => if b = true then g ρ T1 else some (false, T1)
noncomputable def fOrT (f g : FT) : FT := fun ρ T => bnd (f ρ T) fun b T1 => if b = true then some (true, T1) else g ρ T1
noncomputable def fNotT (f : FT) : FT := fun ρ T => bnd (f ρ T) fun b T1 => some (!b, T1)
variable {ta tb : FT} {rest : List Expr}
theorem dw_pt {f : FT} (h : DW X a f) : DT X a f := ⟨PW.pt h.pe⟩
theorem dw_and1 (ha : DT X a ta) : DW X (.BoolOp .And [a] pos) ta := ⟨pw_and1 ha.pe⟩
theorem dw_or1 (ha : DT X a ta) : DW X (.BoolOp .Or [a] pos) ta := ⟨pw_or1 ha.pe⟩
theorem dw_and (ha : DT X a ta) (hb : DW X (.BoolOp .And (b :: rest) pos) tb) : DW X (.BoolOp .And (a :: b :: rest) pos) (fAndT ta tb) := by
  refine ⟨?_⟩
  refine pw_imp (pw_and ha.pe hb.pe) fun σ H Q => ?_
  rintro ⟨O, ts, ρ, T, b, T', hc, re, e, q⟩
  obtain ⟨b1, T1, e1, e⟩ := bnd_of e
  refine ⟨O, ts, ρ, T, b1, T1, hc, re, e1, fun H1 s1 hc1 => ?_⟩
  cases b1 with
  | true => exact iteT ⟨O, ts, ρ, T1, b, T', hc1, re.mono hc s1, by simpa using e, fun H2 s2 hc2 => q H2 (s1.trans s2) hc2⟩
  | false =>
    have e' : some (false, T1) = some (b, T') := by simpa using e
    cases e'
    exact iteF (q H1 s1 hc1)
theorem dw_or (ha : DT X a ta) (hb : DW X (.BoolOp .Or (b :: rest) pos) tb) : DW X (.BoolOp .Or (a :: b :: rest) pos) (fOrT ta tb) := by
  refine ⟨?_⟩
  refine pw_imp (pw_or ha.pe hb.pe) fun σ H Q => ?_
  rintro ⟨O, ts, ρ, T, b, T', hc, re, e, q⟩
  obtain ⟨b1, T1, e1, e⟩ := bnd_of e
  refine ⟨O, ts, ρ, T, b1, T1, hc, re, e1, fun H1 s1 hc1 => ?_⟩
  cases b1 with
  | false => exact iteF ⟨O, ts, ρ, T1, b, T', hc1, re.mono hc s1, by simpa using e, fun H2 s2 hc2 => q H2 (s1.trans s2) hc2⟩
  | true =>
    have e' : some (true, T1) = some (b, T') := by simpa using e
    cases e'
    exact iteT (q H1 s1 hc1)
theorem dt_not (ha : DT X a ta) : DT X (.UnaryOp .Not a pos) (fNotT ta) := by
  refine ⟨?_⟩
  refine pt_imp (pt_not ha.pe) fun σ H Q => ?_
  rintro ⟨O, ts, ρ, T, b, T', hc, re, e, q⟩
  obtain ⟨b1, T1, e1, e⟩ := bnd_of e
  cases e
  exact ⟨O, ts, ρ, T, b1, T', hc, re, e1, fun H1 s1 hc1 => q H1 s1 hc1⟩
noncomputable def fAndV (f g : FE) : FE := fun ρ T => bnd (f ρ T) fun w T1 => match asB w with
  | some b => if b = true then g ρ T1 else some (.d (.bool false), T1)
  | none => none
noncomputable def fOrV (f g : FE) : FE := fun ρ T => bnd (f ρ T) fun w T1 => match asB w with
  | some b => if b = true then some (.d (.bool true), T1) else g ρ T1
  | none => none
noncomputable def fNotV (f : FE) : FE := fun ρ T => bnd (f ρ T) fun w T1 => match asB w with
  | some b => some (.d (.bool (!b)), T1)
  | none => none
theorem de_one {op} (h : DE X a fa) : DE X (.BoolOp op [a] pos) fa := ⟨pe_one h.pe⟩
theorem de_and (ha : DE X a fa) (hb : DE X (.BoolOp .And (b :: rest) pos) fb) : DE X (.BoolOp .And (a :: b :: rest) pos) (fAndV fa fb) := by
  refine ⟨?_⟩
  refine pe_imp (pe_and ha.pe hb.pe) fun σ H Q => ?_
  rintro ⟨O, ts, ρ, T, w, T', hc, re, e, q⟩
  obtain ⟨w1, T1, e1, e⟩ := bnd_of e
  refine ⟨O, ts, ρ, T, w1, T1, hc, re, e1, fun v1 H1 s1 hc1 r1 => ?_⟩
  split at e
  · rename_i b hb
    have hw := asB_of hb
    subst hw
    cases (show Rep X.K O H1 v1 _ from r1)
    cases b with
    | true => exact ⟨_, rfl, iteT ⟨O, ts, ρ, T1, w, T', hc1, re.mono hc s1, by simpa using e, fun v H2 s2 hc2 r2 => q v H2 (s1.trans s2) hc2 r2⟩⟩
    | false =>
      rw [if_neg Bool.false_ne_true] at e
      cases e
      exact ⟨_, rfl, iteF (q _ H1 s1 hc1 (.bl false))⟩
  · cases e
theorem de_or (ha : DE X a fa) (hb : DE X (.BoolOp .Or (b :: rest) pos) fb) : DE X (.BoolOp .Or (a :: b :: rest) pos) (fOrV fa fb) := by
  refine ⟨?_⟩
  refine pe_imp (pe_or ha.pe hb.pe) fun σ H Q => ?_
  rintro ⟨O, ts, ρ, T, w, T', hc, re, e, q⟩
  obtain ⟨w1, T1, e1, e⟩ := bnd_of e
  refine ⟨O, ts, ρ, T, w1, T1, hc, re, e1, fun v1 H1 s1 hc1 r1 => ?_⟩
  split at e
  · rename_i b hb
    have hw := asB_of hb
    subst hw
    cases (show Rep X.K O H1 v1 _ from r1)
    cases b with
    | false => exact ⟨_, rfl, iteF ⟨O, ts, ρ, T1, w, T', hc1, re.mono hc s1, by simpa using e, fun v H2 s2 hc2 r2 => q v H2 (s1.trans s2) hc2 r2⟩⟩
    | true =>
      rw [if_pos rfl] at e
      cases e
      exact ⟨_, rfl, iteT (q _ H1 s1 hc1 (.bl true))⟩
  · cases e
theorem de_not (ha : DE X a fa) : DE X (.UnaryOp .Not a pos) (fNotV fa) := by
  refine ⟨?_⟩
  refine pe_imp (pe_not ha.pe) fun σ H Q => ?_
  rintro ⟨O, ts, ρ, T, w, T', hc, re, e, q⟩
  obtain ⟨w1, T1, e1, e⟩ := bnd_of e
  refine ⟨O, ts, ρ, T, w1, T1, hc, re, e1, fun v1 H1 s1 hc1 r1 => ?_⟩
  split at e
  · rename_i b hb
    have hw := asB_of hb
    subst hw
    cases (show Rep X.K O H1 v1 _ from r1)
    cases e
    exact ⟨_, rfl, q _ H1 s1 hc1 (.bl _)⟩
  · cases e
noncomputable def fIfE (c : FT) (f g : FE) : FE := fun ρ T => bnd (c ρ T) fun b T1 => if b = true then f ρ T1 else g ρ T1
theorem de_if (hc : DT X c ta) (ha : DE X a fa) (hb : DE X b fb) : DE X (.IfExp c a b pos) (fIfE ta fa fb) := by
  refine ⟨?_⟩
  refine pe_imp (pe_ifExp hc.pe ha.pe hb.pe) fun σ H Q => ?_
  rintro ⟨O, ts, ρ, T, w, T', hc, re, e, q⟩
  obtain ⟨b1, T1, e1, e⟩ := bnd_of e
  refine ⟨O, ts, ρ, T, b1, T1, hc, re, e1, fun H1 s1 hc1 => ?_⟩
  cases b1 with
  | true => exact iteT ⟨O, ts, ρ, T1, w, T', hc1, re.mono hc s1, by simpa using e, fun v H2 s2 hc2 r2 => q v H2 (s1.trans s2) hc2 r2⟩
  | false => exact iteF ⟨O, ts, ρ, T1, w, T', hc1, re.mono hc s1, by simpa using e, fun v H2 s2 hc2 r2 => q v H2 (s1.trans s2) hc2 r2⟩
theorem de_un {op : UnaryOp} {r : V → Hp → VK → Prop} {g1 : PyData → Option PyData} (hr : UnR X (unaryOp op) r) (snd : Snd1 X.K r g1) (ha : DE X a fa) : DE X (.UnaryOp op a pos) (fUn g1 fa) := by
  refine ⟨?_⟩
  refine pe_imp (pe_un hr ha.pe) fun σ H Q => ?_
  rintro ⟨O, ts, ρ, T, w, T', hc, re, e, q⟩
  obtain ⟨w1, T1, e1, e⟩ := bnd_of e
  obtain ⟨x, d, h1, h3, rfl, rfl⟩ := op1_of e
  refine ⟨O, ts, ρ, T, w1, T', hc, re, e1, fun v1 H1 s1 hc1 r1 => ?_⟩
  exact snd O ts H1 T' v1 x d Q hc1 (hc1.view r1 h1) h3 fun v H' s3 hc3 r3 => q v H' (s1.trans s3) hc3 r3
end
noncomputable def fNil : FA := fun _ T => some ([], T)
noncomputable def fCons (f : FE) (g : FA) : FA := fun ρ T => bnd (f ρ T) fun w T1 => bnd (g ρ T1) fun ws T2 => some (w :: ws, T2)
noncomputable def datas : List W → Option (List PyData)
  | [] => some []
  | .d x :: r => match datas r with
    | some xs => some (x :: xs)
    | none => none
  | _ :: _ => none
theorem datas_of {K : PySem.W.Frag} {O : Addr → Prop} {ts : List Addr} {H : Hp} : ∀ {vs : List V} {ws : List W} {xs : List PyData}, RepWs K O ts H vs ws → datas ws = some xs → Reps K O H vs xs
  | _, [], _, .nil, e => by cases e; exact .nil
  | _, .d x :: r, xs, .cons h t, e => by
    unfold datas at e
    split at e
    · rename_i ys h2
      cases e
      exact .cons h (datas_of t h2)
    · cases e
  | _, .tp _ :: _, _, .cons _ _, e => by cases e
  | _, .loc _ :: _, _, .cons _ _, e => by cases e
noncomputable def fSeqD (mk : List PyData → PyData) (f : FA) : FE := fun ρ T => bnd (f ρ T) fun ws T1 => match datas ws with
  | some xs => if xs.length ≤ 1000 then some (.d (mk xs), T1) else none
  | none => none
theorem le_line {n : Nat} (h : n ≤ 1000) : n ≤ sizeLine := Nat.le_trans h (by decide)
noncomputable def CallD (X : Cx) (f : Value) (g : List PyData → Option PyData) : Prop := ∃ r, CallR X f r ∧ ∀ (O : Addr → Prop) (ts : List Addr) (H : Hp) (T : Tp) (vs : List V) (xs : List PyData) (d : PyData) (Q : VK), HC X.K O ts H T → Vws X.K O H vs xs → g xs = some d →
  (∀ v H', SameX ts H H' → HC X.K O ts H' T → Rep X.K O H' v d → Q v H') → r vs H Q
noncomputable def fCB (g : List PyData → Option PyData) (f : FA) : FE := fun ρ T => bnd (f ρ T) fun ws T1 => match views T1 ws with
  | some xs => match g xs with
    | some d => some (.d d, T1)
    | none => none
  | none => none
section
variable {X : Cx} {pos p : Pos} {e : Expr} {es : List Expr} {f : FE} {g : FA}
theorem da_nil : DA X [] fNil := by
  refine ⟨?_⟩
  refine pa_imp pa_nil fun σ H Q => ?_
  rintro ⟨O, ts, ρ, T, w, T', hc, re, e, q⟩
  cases e
  exact q [] H (.refl _ _) hc .nil
theorem da_cons (ha : DE X e f) (hr : DA X es g) (hs : starEach (e :: es) X.env = (false, eval e X.env) :: starEach es X.env := by exact star_cons rfl) : DA X (e :: es) (fCons f g) := by
  refine ⟨?_⟩
  refine pa_imp (pa_cons ha.pe hr.pe hs) fun σ H Q => ?_
  rintro ⟨O, ts, ρ, T, w, T', hc, re, e, q⟩
  obtain ⟨w1, T1, e1, e⟩ := bnd_of e
  obtain ⟨ws, T2, e2, e⟩ := bnd_of e
  cases e
  refine ⟨O, ts, ρ, T, w1, T1, hc, re, e1, fun v1 H1 s1 hc1 r1 => ?_⟩
  exact ⟨O, ts, ρ, T1, ws, _, hc1, re.mono hc s1, e2, fun vs H2 s2 hc2 r2 => q _ H2 (s1.trans s2) hc2 (.cons (r1.mono hc1 s2) r2)⟩
theorem seqD_of {mk : List PyData → PyData} {g : FA} {ρ : Rho} {T T' : Tp} {w : W} (e : fSeqD mk g ρ T = some (w, T')) : ∃ ws xs, g ρ T = some (ws, T') ∧ datas ws = some xs ∧ xs.length ≤ 1000 ∧ w = .d (mk xs) := by
  obtain ⟨ws, T1, e1, e⟩ := bnd_of e
  split at e
  · rename_i xs h1
    split at e
    · rename_i h2
      cases e
      exact ⟨ws, xs, e1, h1, h2, rfl⟩
    · cases e
  · cases e
theorem de_tup {x1} (h : DA X es g) : DE X (.Tuple es x1 pos) (fSeqD .tuple g) := by
  refine ⟨?_⟩
  refine pe_imp (pe_tup h.pe) fun σ H Q => ?_
  rintro ⟨O, ts, ρ, T, w, T', hc, re, e, q⟩
  obtain ⟨ws, xs, e1, h1, h2, rfl⟩ := seqD_of e
  refine ⟨O, ts, ρ, T, ws, T', hc, re, e1, fun vs H1 s1 hc1 r1 => ?_⟩
  have rs := datas_of r1 h1
  refine ⟨le_line (by rw [rs.length]; exact h2), fun p hp => ?_⟩
  exact q _ _ (s1.trans (.new hp _)) (hc1.new hp _) (hc1.newT hp rs)
theorem de_lst (h : DA X es g) : DE X (.List es pos) (fSeqD .list g) := by
  refine ⟨?_⟩
  refine pe_imp (pe_lst h.pe) fun σ H Q => ?_
  rintro ⟨O, ts, ρ, T, w, T', hc, re, e, q⟩
  obtain ⟨ws, xs, e1, h1, h2, rfl⟩ := seqD_of e
  refine ⟨O, ts, ρ, T, ws, T', hc, re, e1, fun vs H1 s1 hc1 r1 => ?_⟩
  have rs := datas_of r1 h1
  refine ⟨le_line (by rw [rs.length]; exact h2), fun p hp => ?_⟩
  exact q _ _ (s1.trans (.new hp _)) (hc1.new hp _) (hc1.newL hp rs)
theorem cb_imp {K : PySem.W.Frag} {r : List V → Hp → VK → Prop} {gg : List PyData → Option PyData} (snd : ∀ (O : Addr → Prop) (ts : List Addr) (H : Hp) (T : Tp) (vs : List V) (xs : List PyData) (d : PyData) (Q : VK), HC K O ts H T → Vws K O H vs xs → gg xs = some d →
    (∀ v H', SameX ts H H' → HC K O ts H' T → Rep K O H' v d → Q v H') → r vs H Q) {σ : L2.St} {H : Hp} {Q : VK} (h : lift K (fCB gg g) σ H Q) : tCB r (liftA K g) σ H Q := by
  obtain ⟨O, ts, ρ, T, w, T', hc, re, e, q⟩ := h
  obtain ⟨ws, T1, e1, e⟩ := bnd_of e
  refine ⟨O, ts, ρ, T, ws, T1, hc, re, e1, fun vs H1 s1 hc1 r1 => ?_⟩
  split at e
  · rename_i xs h1
    split at e
    · rename_i d h2
      cases e
      exact snd O ts H1 T' vs xs d Q hc1 (hc1.views r1 h1) h2 fun v H' s3 hc3 r3 => q v H' (s1.trans s3) hc3 r3
    · cases e
  · cases e
theorem de_callB {x : Str} {id : String} {gg : List PyData → Option PyData} (hc : CallD X (.builtin id) gg) (hg : Gl X x) (hm : X.mg x = none) (hv : bootBuiltins x = some (.builtin id)) (ha : DA X (e :: es) g) (hn : x ≠ "__name__" := by decide) (hdb : (x == ("__debug__" : Str)) = false := by decide)
    (he : starEach (e :: es) X.env = (false, eval e X.env) :: starEach es X.env := by exact star_cons rfl) (hpl : (backTo pos (starEach es X.env)).any (·.1) = false := by exact star_any rfl) : DE X (.Call (.Name x p) (e :: es) [] pos) (fCB gg g) := by
  refine ⟨?_⟩
  obtain ⟨r, hr, snd⟩ := hc
  exact pe_imp (pe_callB hr hg hm hv ha.pe hn hdb he hpl) fun σ H Q h => cb_imp snd h
theorem de_callTy {x : Str} {id : String} {gg : List PyData → Option PyData} (hc : CallD X (.type id) gg) (hg : Gl X x) (hm : X.mg x = none) (hv : bootBuiltins x = some (.type id)) (ha : DA X (e :: es) g) (hn : x ≠ "__name__" := by decide) (hdb : (x == ("__debug__" : Str)) = false := by decide)
    (he : starEach (e :: es) X.env = (false, eval e X.env) :: starEach es X.env := by exact star_cons rfl) (hpl : (backTo pos (starEach es X.env)).any (·.1) = false := by exact star_any rfl) : DE X (.Call (.Name x p) (e :: es) [] pos) (fCB gg g) := by
  refine ⟨?_⟩
  obtain ⟨r, hr, snd⟩ := hc
  exact pe_imp (pe_callTy hr hg hm hv ha.pe hn hdb he hpl) fun σ H Q h => cb_imp snd h
end
end D
namespace D
open PySem PySem.Spec PyProof.Rows L2
noncomputable abbrev FI := Rho → Tp → Option (List PyData × Tp)
noncomputable def iAny (K : PySem.W.Frag) (tl : TE) : TI := fun σ H R => tl σ H fun x H1 => (∃ a xs, x = .ref a ∧ SqL K H1 a xs ∧ (xs.length ≤ sizeLine → R (Itl K a) H1)) ∨ (∃ a xs, x = .ref a ∧ SqT K H1 a xs ∧ (xs.length ≤ sizeLine → R (Itt K a) H1)) ∨ ∃ z, x = .str z ∧ R (Its z) H1
theorem pi_any {X : Cx} {tg l : Expr} {tl : TE} (hl : PE X l tl) : PI X tg l (iAny X.K tl) := by
  intro pins s σ H R I h
  refine thn (hl pins s σ H _ I h) fun v s1 ⟨x, H1, I1, r1, q1⟩ => ?_
  have fk : ∀ b ∈ [s1.heap.objs.size], FpOk X pins H1 b := fun b hb => by
    have e : b = s1.heap.objs.size := by simpa using hb
    subst e
    exact I1.fpOk (Nat.le_refl _) (I1.hok.fresh (Nat.le_refl _))
  rcases q1 with ⟨a, xs, e, hq, q⟩ | ⟨a, xs, e, hq, q⟩ | ⟨z, e, q⟩
  · subst e
    cases r1
    obtain ⟨its, rv, p, hz⟩ := I1.list hq
    refine wpAny_pyIter_list p.isList ?_
    exact ⟨s1.heap.objs.size, [s1.heap.objs.size], _, _, H1, rfl, I1.kept (t' := s1.toks) fun b o e => Heap.get?_push_of_some _ e, turn_list a _, ⟨_, Heap.get?_push_size _ rfl, rfl, rfl⟩, fk, q hz⟩
  · subst e
    cases r1
    obtain ⟨its, rv, p, hz⟩ := I1.tuple hq
    refine wpAny_pyIter_tuple (show s1.heap.IsTuple a its.toArray from p) ?_
    exact ⟨s1.heap.objs.size, [s1.heap.objs.size], _, _, H1, rfl, I1.kept (t' := s1.toks) fun b o e => Heap.get?_push_of_some _ e, turn_tuple a _, ⟨_, Heap.get?_push_size _ rfl, rfl, rfl⟩, fk, q hz⟩
  · subst e
    obtain ⟨t, rfl⟩ := r1
    cases ha : z.cps.all (· < 128) with
    | false =>
      refine wpAny_pyIter_wide ha ?_
      exact ⟨s1.heap.objs.size, [s1.heap.objs.size], _, _, H1, rfl, I1.kept (t' := s1.toks) fun b o e => Heap.get?_push_of_some _ e, turn_str z t "str_iterator" _ (.inr rfl), ⟨_, Heap.get?_push_size _ rfl, rfl, rfl⟩, fk, q⟩
    | true =>
      refine wpAny_pyIter_ascii ha ?_
      exact ⟨s1.heap.objs.size, [s1.heap.objs.size], _, _, H1, rfl, I1.kept (t' := s1.toks) fun b o e => Heap.get?_push_of_some _ e, turn_str z t "str_ascii_iterator" _ (.inl rfl), ⟨_, Heap.get?_push_size _ rfl, rfl, rfl⟩, fk, q⟩
noncomputable def ItOk (K : PySem.W.Frag) (O : Addr → Prop) (H1 : Hp) (J : It) (ds : List PyData) : Prop := ∀ O' H', Le O H1 O' H' → (∀ i, i < ds.length → J.go i H') ∧ J.stop ds.length H' ∧ ∀ i v H'', J.yld i H' v H'' → i < ds.length → H'' = H' ∧ ∃ d, ds[i]? = some d ∧ Rep K O' H' v d
inductive LiftIP (K : PySem.W.Frag) (f : FI) (σ : L2.St) (H : Hp) (R : It → Hp → Prop) : Prop where
  | mk (O : Addr → Prop) (ts : List Addr) (ρ : Rho) (T : Tp) (ds : List PyData) (T' : Tp) (hc : HC K O ts H T) (re : RelE K O ts H σ ρ) (e : f ρ T = some (ds, T')) (q : ∀ J H1, SameX ts H H1 → HC K O ts H1 T' → ItOk K O H1 J ds → ds.length ≤ sizeLine → R J H1) : LiftIP K f σ H R
noncomputable def liftI (K : PySem.W.Frag) (f : FI) : TI := fun σ H R => LiftIP K f σ H R
structure DI (X : Cx) (tg e : Expr) (f : FI) : Prop where
  pe : PI X tg e (liftI X.K f)
theorem pi_imp {X : Cx} {tg e : Expr} {t t' : TI} (h : PI X tg e t) (i : ∀ σ H Q, t' σ H Q → t σ H Q) : PI X tg e t' := fun pins s σ H Q I q => h pins s σ H Q I (i σ H Q q)
noncomputable def signs (z : Str) : List PyData := z.cps.toList.map fun c => .str ⟨#[c]⟩
noncomputable def itemsD : PyData → Option (List PyData)
  | .list xs => some xs
  | .tuple xs => some xs
  | .str z => if z.length ≤ sizeLine then some (signs z) else none
  | _ => none
noncomputable def fIter (f : FE) : FI := fun ρ T => bnd (f ρ T) fun w T1 => match w with
  | .d x => match itemsD x with
    | some xs => some (xs, T1)
    | none => none
  | _ => none
theorem ItOk.lst {K : PySem.W.Frag} {O : Addr → Prop} {H1 : Hp} {a : Addr} {vs : List V} {ds : List PyData} (h : LstAt K O H1 a vs) (r : Reps K O H1 vs ds) : ItOk K O H1 (Itl K a) ds := fun O' H' le => by
  have sq := (h.mono le).sq
  have hl := r.length
  refine ⟨fun i hi => ⟨vs, vs[i]'(by omega), sq, by simp⟩, ⟨vs, sq, by omega⟩, fun i v H'' y hi => ?_⟩
  obtain ⟨e, y⟩ := y
  obtain ⟨d, h1, h2⟩ := r.get (y vs sq)
  exact ⟨e, d, h1, h2.mono le⟩
theorem ItOk.tup {K : PySem.W.Frag} {O : Addr → Prop} {H1 : Hp} {a : Addr} {vs : List V} {ds : List PyData} (h : TupAt K O H1 a vs) (r : Reps K O H1 vs ds) : ItOk K O H1 (Itt K a) ds := fun O' H' le => by
  have sq := (h.mono le).sq
  have hl := r.length
  refine ⟨fun i hi => ⟨vs, vs[i]'(by omega), sq, by simp⟩, ⟨vs, sq, by omega⟩, fun i v H'' y hi => ?_⟩
  obtain ⟨e, y⟩ := y
  obtain ⟨d, h1, h2⟩ := r.get (y vs sq)
  exact ⟨e, d, h1, h2.mono le⟩
theorem ItOk.str {K : PySem.W.Frag} {O : Addr → Prop} {H1 : Hp} {z : Str} : ItOk K O H1 (Its z) (signs z) := fun O' H' le => by
  have hl : (signs z).length = z.cps.size := by simp [signs]
  refine ⟨fun i hi => by rw [hl] at hi; exact hi, by rw [hl]; exact Nat.le_refl _, fun i v H'' y hi => ?_⟩
  obtain ⟨e, c, hc, y⟩ := y
  subst y
  refine ⟨e, .str ⟨#[c]⟩, ?_, .str _⟩
  unfold signs
  rw [List.getElem?_map]
  have : z.cps.toList[i]? = some c := by simpa using hc
  rw [this]
  rfl
theorem di_iter {X : Cx} {tg e : Expr} {f : FE} (h : DE X e f) : DI X tg e (fIter f) := by
  refine ⟨?_⟩
  refine pi_imp (pi_any h.pe) fun σ H R => ?_
  rintro ⟨O, ts, ρ, T, ds, T', hc, re, e, q⟩
  obtain ⟨w1, T1, e1, e⟩ := bnd_of e
  refine ⟨O, ts, ρ, T, w1, T1, hc, re, e1, fun v1 H1 s1 hc1 r1 => ?_⟩
  split at e
  · rename_i x
    split at e
    · rename_i xs h1
      cases e
      have rr : Rep X.K O H1 v1 x := r1
      cases x with
      | list ys =>
        cases h1
        cases rr with
        | lst t r => exact .inl ⟨_, _, rfl, t.sq, fun hz => q _ H1 s1 hc1 (.lst t r) (by rw [← r.length]; exact hz)⟩
      | tuple ys =>
        cases h1
        cases rr with
        | tup t r => exact .inr (.inl ⟨_, _, rfl, t.sq, fun hz => q _ H1 s1 hc1 (.tup t r) (by rw [← r.length]; exact hz)⟩)
      | str z =>
        have h1' : (if z.length ≤ sizeLine then some (signs z) else none) = some _ := h1
        split at h1'
        · rename_i hz
          cases h1'
          cases rr
          exact .inr (.inr ⟨z, rfl, q _ H1 s1 hc1 .str (by have : (signs z).length = z.cps.size := by simp [signs]
                                                           rw [this]; exact hz)⟩)
        · cases h1'
      | _ => cases h1
    · cases e
  · cases e
noncomputable def numsD (lo : Int) (n : Nat) : List PyData := (List.range n).map fun (i : Nat) => .int (lo + (i : Int))
theorem ItOk.rng {K : PySem.W.Frag} {O : Addr → Prop} {H1 : Hp} {lo : Int} {n : Nat} : ItOk K O H1 (Itr lo n) (numsD lo n) := fun O' H' le => by
  have hl : (numsD lo n).length = n := by simp [numsD]
  refine ⟨fun i hi => by rw [hl] at hi; exact hi, by rw [hl]; exact Nat.le_refl _, fun i v H'' y hi => ?_⟩
  obtain ⟨e, y⟩ := y
  subst y
  rw [hl] at hi
  exact ⟨e, .int (lo + i), by simp [numsD, hi], .int _⟩
noncomputable def rngOk (j : Int) : Bool := decide (-1000000 ≤ j ∧ j ≤ 16777216)
theorem rng_ok {j : Int} (h : rngOk j = true) : -(2 ^ 62) ≤ j ∧ j < 2 ^ 62 ∧ j.toNat ≤ sizeLine := by
  have h' := of_decide_eq_true h
  have e : sizeLine = 16777216 := by decide
  omega
noncomputable def fRng1 (f : FE) : FI := fun ρ T => bnd (f ρ T) fun w T1 => match w with
  | .d (.int j) => if rngOk j = true then some (numsD 0 j.toNat, T1) else none
  | _ => none
theorem di_rng1 {X : Cx} {tg a : Expr} {f : FE} {p pos : Pos} (hg : Gl X "range") (hm : X.mg "range" = none) (ha : DE X a f) (hs : starEach [a] X.env = [(false, eval a X.env)] := by exact star_one rfl) : DI X tg (.Call (.Name "range" p) [a] [] pos) (fRng1 f) := by
  refine ⟨?_⟩
  refine pi_imp (pi_range1 (ta := tCons (lift X.K f) tNil) hg hm (pa_cons ha.pe pa_nil (by rw [hs]; rfl)) hs) fun σ H R => ?_
  rintro ⟨O, ts, ρ, T, ds, T', hc, re, e, q⟩
  obtain ⟨w1, T1, e1, e⟩ := bnd_of e
  refine ⟨O, ts, ρ, T, w1, T1, hc, re, e1, fun v1 H1 s1 hc1 r1 => ?_⟩
  split at e
  · rename_i j
    split at e
    · rename_i h1
      cases e
      cases (show Rep X.K O H1 v1 _ from r1)
      obtain ⟨b1, b2, b3⟩ := rng_ok h1
      exact ⟨j, rfl, b1, b2, q _ H1 s1 hc1 .rng (by simpa [numsD] using b3)⟩
    · cases e
  · cases e
noncomputable def compL (c : FT) (e : FE) (ρ : Rho) : List PyData → Tp → Option (List PyData × Tp)
  | [], T => some ([], T)
  | d :: r, T => bnd (c (some (.d d) :: ρ) T) fun b T1 => if b = true then bnd (e (some (.d d) :: ρ) T1) fun w T2 => match w with
      | .d y => bnd (compL c e ρ r T2) fun ys T3 => some (y :: ys, T3)
      | _ => none
    else compL c e ρ r T1
noncomputable def fComp (it : FI) (c : FT) (e : FE) : FE := fun ρ T => bnd (it ρ T) fun ds T1 => bnd (compL c e ρ ds T1) fun ys T2 => some (.d (.list ys), T2)
noncomputable def fTrue : FT := fun _ T => some (true, T)
theorem RelE.cons {K : PySem.W.Frag} {O : Addr → Prop} {ts : List Addr} {H : Hp} {σ : L2.St} {ρ : Rho} {v : V} {d : PyData} (re : RelE K O ts H σ ρ) (r : Rep K O H v d) : RelE K O ts H (some v :: σ) (some (.d d) :: ρ) := fun i w e => by
  cases i with
  | zero => cases e; exact ⟨v, rfl, r⟩
  | succ i =>
    obtain ⟨u, h1, h2⟩ := re i w (by simpa using e)
    exact ⟨u, by simpa using h1, h2⟩
theorem comp_ok {K : PySem.W.Frag} {O : Addr → Prop} {ts : List Addr} {H1 : Hp} {σ : L2.St} {ρ : Rho} {J : It} {c : FT} {e : FE} {ds ys : List PyData} {T1 T2 : Tp} {Dn : List V → Hp → Prop} (hc : HC K O ts H1 T1) (re : RelE K O ts H1 σ ρ) (ok : ItOk K O H1 J ds) (hz : ds.length ≤ sizeLine)
    (ee : compL c e ρ ds T1 = some (ys, T2)) (q : ∀ vs H', SameX ts H1 H' → HC K O ts H' T2 → Reps K O H' vs ys → Dn vs H') :
    ∃ W : Nat → Nat → List V → Hp → Prop, (∃ m, W 0 m [] H1) ∧ cLoop σ J (liftT K c) (lift K e) W Dn := by
  refine ⟨fun i m vs H' => m = ds.length - i ∧ i ≤ ds.length ∧ vs.length ≤ i ∧ ∃ T dn rs, SameX ts H1 H' ∧ HC K O ts H' T ∧ Reps K O H' vs dn ∧ compL c e ρ (ds.drop i) T = some (rs, T2) ∧ ys = dn ++ rs, ⟨_, rfl, Nat.zero_le _, Nat.le_refl _, T1, [], ys, .refl _ _, hc, .nil, ee, rfl⟩, ?_⟩
  rintro i m vs H' ⟨rfl, hi, hv, T, dn, rs, s1, hc1, rv, ec, ey⟩
  obtain ⟨k1, k2, k3⟩ := ok O H' (hc.le s1)
  by_cases hlt : i < ds.length
  · refine .inr ⟨k1 i hlt, by omega, fun vs' H2 => i + 1 ≤ ds.length ∧ vs'.length ≤ i + 1 ∧ ∃ T dn rs, SameX ts H1 H2 ∧ HC K O ts H2 T ∧ Reps K O H2 vs' dn ∧ compL c e ρ (ds.drop (i + 1)) T = some (rs, T2) ∧ ys = dn ++ rs, fun vs' H2 n => ⟨ds.length - (i + 1), by omega, rfl, n⟩, fun v H2 y => ?_⟩
    obtain ⟨e2, d, hd, rd⟩ := k3 i v H2 y hlt
    subst e2
    have hdr : ds.drop i = d :: ds.drop (i + 1) := by
      rw [List.drop_eq_getElem_cons hlt]
      have := (List.getElem?_eq_some_iff.mp hd).2
      rw [this]
    rw [hdr] at ec
    obtain ⟨b, T3, e3, ec⟩ := bnd_of ec
    refine ⟨O, ts, some (.d d) :: ρ, T, b, T3, hc1, (re.mono hc s1).cons rd, e3, fun H3 s3 hc3 => ?_⟩
    cases b with
    | false =>
      rw [if_neg Bool.false_ne_true] at ec
      exact iteF ⟨hlt, by omega, T3, dn, rs, s1.trans s3, hc3, rv.mono (hc1.le s3), ec, ey⟩
    | true =>
      rw [if_pos rfl] at ec
      obtain ⟨w, T4, e4, ec⟩ := bnd_of ec
      refine iteT ⟨O, ts, some (.d d) :: ρ, T3, w, T4, hc3, ((re.mono hc s1).cons rd).mono hc1 s3, e4, fun u H4 s4 hc4 r4 => ?_⟩
      split at ec
      · rename_i y
        obtain ⟨zs, T5, e5, ec⟩ := bnd_of ec
        cases ec
        refine ⟨hlt, by simp; omega, T4, dn ++ [y], zs, s1.trans (s3.trans s4), hc4, (rv.mono (hc1.le (s3.trans s4))).append (.cons r4 .nil), e5, by rw [ey]; simp⟩
      · cases ec
  · have e : i = ds.length := by omega
    subst e
    rw [List.drop_eq_nil_of_le (Nat.le_refl _)] at ec
    cases ec
    rw [List.append_nil] at ey
    subst ey
    exact .inl ⟨k2, by omega, q vs H' s1 hc1 rv⟩
structure DTs (X : Cx) (es : List Expr) (f : FT) : Prop where
  pe : PTs X es (liftT X.K f)
theorem dts_nil {X : Cx} : DTs X [] fTrue := ⟨fun pins s σ H Q E I h => by
  refine pts_nil pins s σ H Q E I ?_
  obtain ⟨O, ts, ρ, T, w, T', hc, re, e, q⟩ := h
  cases e
  exact q H (.refl _ _) hc⟩
theorem de_comp {X : Cx} {x : Str} {scope osc : Scope} {N N' : List Str} {elt iter : Expr} {ifs : List Expr} {px pos : Pos} {it : FI} {c : FT} {f : FE} (S : CS osc N x scope N') (hi : DI X (.Name x px) iter it)
    (he : ∀ C s0 H0 ex, DE (compCx X x scope C s0 H0 ex N') elt f) (ht : ∀ C s0 H0 ex, DTs (compCx X x scope C s0 H0 ex N') ifs c) (hc : X.calm = true := by rfl) (hs : X.env.scope = osc := by rfl) (hN : X.N = N := by rfl)
    (hf : ∀ v, foldedSetIterable iter X.env v = pure v := by intro _; rfl) : DE X (.ListComp elt [⟨.Name x px, iter, ifs, 0⟩] scope pos) (fComp it c f) := by
  refine ⟨?_⟩
  refine pe_imp (pe_compD (wi := liftI X.K it) (tt := liftT X.K c) (te := lift X.K f) S hi.pe (fun C s0 H0 ex => (he C s0 H0 ex).pe) (fun C s0 H0 ex => (ht C s0 H0 ex).pe) hc hs hN hf) fun σ H Q => ?_
  rintro ⟨O, ts, ρ, T, w, T', hc, re, e, q⟩
  obtain ⟨ds, T1, e1, e⟩ := bnd_of e
  obtain ⟨ys, T2, e2, e⟩ := bnd_of e
  cases e
  refine ⟨O, ts, ρ, T, ds, T1, hc, re, e1, fun J H1 s1 hc1 ok hz => ?_⟩
  exact comp_ok hc1 (re.mono hc s1) ok hz e2 fun vs H' s2 hc2 r2 p hp => q _ _ (s1.trans (s2.trans (.new hp _))) (hc2.new hp _) (hc2.newL hp r2)
end D
namespace D
open PySem PySem.Spec PyProof.Rows L2
inductive Fl where
  | nx | rt (x : PyData) | bk | ct
noncomputable abbrev FS := Rho → Tp → Option ((Fl × Rho) × Tp)
structure RS (K : PySem.W.Frag) (O₀ : Addr → Prop) (H₀ : Hp) (F : List ((Addr → Prop) × Hp)) (ts : List Addr) (O : Addr → Prop) (H : Hp) (σ : L2.St) (ρ : Rho) (T : Tp) : Prop where
  hc : HC K O ts H T
  re : RelE K O ts H σ ρ
  sub : ∀ b, O₀ b → O b
  ots : ∀ b ∈ ts, O₀ b
  same : SameX ts H₀ H
  fresh : ∀ (i : Nat) (xs : PyData) (a : Addr), ρ[i]? = some (some (.loc xs)) → σ[i]? = some (some (.ref a)) → H₀ a = none ∧ ¬ O₀ a
  dist : ∀ (i j : Nat) (xs ys : PyData) (v : V), ρ[i]? = some (some (.loc xs)) → ρ[j]? = some (some (.loc ys)) → σ[i]? = some (some v) → σ[j]? = some (some v) → i = j
  frs : ∀ f ∈ F, Le f.1 f.2 O H
  len : σ.length = ρ.length
noncomputable def EndsD (K : PySem.W.Frag) (O₀ : Addr → Prop) (H₀ : Hp) (F : List ((Addr → Prop) × Hp)) (ts : List Addr) (D : Ends) (ρ' : Rho) (T' : Tp) : Fl → Prop
  | .nx => ∀ O' σ' H', RS K O₀ H₀ F ts O' H' σ' ρ' T' → D.nx σ' H'
  | .bk => ∀ O' σ' H', RS K O₀ H₀ F ts O' H' σ' ρ' T' → D.bk σ' H'
  | .ct => ∀ O' σ' H', RS K O₀ H₀ F ts O' H' σ' ρ' T' → D.ct σ' H'
  | .rt x => ∀ v H', SameX ts H₀ H' → HC K O₀ ts H' T' → Rep K O₀ H' v x → D.rt v H'
inductive LiftSP (K : PySem.W.Frag) (f : FS) (D : Ends) (σ : L2.St) (H : Hp) : Prop where
  | mk (O₀ : Addr → Prop) (H₀ : Hp) (F : List ((Addr → Prop) × Hp)) (ts : List Addr) (O : Addr → Prop) (ρ : Rho) (T : Tp) (fl : Fl) (ρ' : Rho) (T' : Tp) (rs : RS K O₀ H₀ F ts O H σ ρ T) (e : f ρ T = some ((fl, ρ'), T')) (q : EndsD K O₀ H₀ F ts D ρ' T' fl) : LiftSP K f D σ H
noncomputable def liftS (K : PySem.W.Frag) (f : FS) : TS := fun D σ H => LiftSP K f D σ H
structure DS (X : Cx) (s : Stmt) (f : FS) : Prop where
  pe : PS X s (liftS X.K f)
structure DSs (X : Cx) (s : List Stmt) (f : FS) : Prop where
  pe : PSs X s (liftS X.K f)
theorem ps_imp {X : Cx} {e : Stmt} {t t' : TS} (h : PS X e t) (i : ∀ D σ H, t' D σ H → t D σ H) : PS X e t' := fun pins s σ H D I q => h pins s σ H D I (i D σ H q)
theorem pss_imp {X : Cx} {e : List Stmt} {t t' : TS} (h : PSs X e t) (i : ∀ D σ H, t' D σ H → t D σ H) : PSs X e t' := fun pins s σ H D I q => h pins s σ H D I (i D σ H q)
section
variable {K : PySem.W.Frag} {O₀ : Addr → Prop} {H₀ : Hp} {F : List ((Addr → Prop) × Hp)} {ts : List Addr} {O : Addr → Prop} {H H1 : Hp} {σ : L2.St} {ρ : Rho} {T T1 : Tp}
theorem RS.step (r : RS K O₀ H₀ F ts O H σ ρ T) (s : SameX ts H H1) (c : HC K O ts H1 T1) : RS K O₀ H₀ F ts O H1 σ ρ T1 where
  hc := c
  re := r.re.mono r.hc s
  sub := r.sub
  ots := r.ots
  same := r.same.trans s
  fresh := r.fresh
  dist := r.dist
  frs := fun f hf => (r.frs f hf).trans (r.hc.le s)
  len := r.len
theorem set_loc {i j : Nat} {w : W} {xs : PyData} (hw : ∀ ys, w ≠ .loc ys) (e : (ρ.set i (some w))[j]? = some (some (.loc xs))) : j ≠ i ∧ ρ[j]? = some (some (.loc xs)) := by
  by_cases z : i = j
  · subst z
    rw [List.getElem?_set_self'] at e
    cases h : ρ[i]? with
    | none => rw [h] at e; cases e
    | some u =>
      rw [h] at e
      have e' : some (some w) = some (some (W.loc xs)) := e
      cases e'
      exact absurd rfl (hw xs)
  · rw [List.getElem?_set_ne z] at e
    exact ⟨fun q => z q.symm, e⟩
theorem RS.set {i : Nat} {v : V} {w : W} (r : RS K O₀ H₀ F ts O H σ ρ T) (rw' : RepW K O ts H v w) (hw : ∀ ys, w ≠ .loc ys) : RS K O₀ H₀ F ts O H (σ.set i (some v)) (ρ.set i (some w)) T where
  hc := r.hc
  re := fun j u e => by
    by_cases z : i = j
    · subst z
      have hl : i < ρ.length := by
        have := (List.getElem?_eq_some_iff.mp e).1
        simpa using this
      rw [List.getElem?_set_self hl] at e
      cases e
      exact ⟨v, by rw [List.getElem?_set_self (by rw [r.len]; exact hl)], rw'⟩
    · rw [List.getElem?_set_ne z] at e
      obtain ⟨x, h1, h2⟩ := r.re j u e
      exact ⟨x, by rw [List.getElem?_set_ne z]; exact h1, h2⟩
  sub := r.sub
  ots := r.ots
  same := r.same
  fresh := fun j xs a e1 e2 => by
    obtain ⟨n, e⟩ := set_loc hw e1
    rw [List.getElem?_set_ne (Ne.symm n)] at e2
    exact r.fresh j xs a e e2
  dist := fun j k xs ys u e1 e2 e3 e4 => by
    obtain ⟨n1, e1⟩ := set_loc hw e1
    obtain ⟨n2, e2⟩ := set_loc hw e2
    rw [List.getElem?_set_ne (Ne.symm n1)] at e3
    rw [List.getElem?_set_ne (Ne.symm n2)] at e4
    exact r.dist j k xs ys u e1 e2 e3 e4
  frs := r.frs
  len := by simp [r.len]
theorem RS.ownO {i : Nat} {p : Addr} {o : HO} {xs : PyData} (r : RS K O₀ H₀ F ts O H σ ρ T) (hp : H p = none) (hm : Mut (some o)) (rv : Le O H (fun b => O b ∨ b = p) (upd H p o) → OwnAt K (fun b => O b ∨ b = p) (upd H p o) p xs) : RS K O₀ H₀ F ts (fun b => O b ∨ b = p) (upd H p o) (σ.set i (some (.ref p))) (ρ.set i (some (.loc xs))) T := by
  have le : Le O H (fun b => O b ∨ b = p) (upd H p o) := fun a o n e => by
    have z : a ≠ p := ne_of_none e hp
    exact ⟨fun q => q.elim n z, by rw [upd_ne z]; exact e⟩
  have h0 : ∀ {G : Hp}, SameX ts G H → p ∉ ts → G p = none := fun {G} s nt => by
    cases e : G p with
    | none => rfl
    | some o => rw [s p o nt e] at hp; cases hp
  have nO := r.hc.fresh hp
  have nt : p ∉ ts := fun z => nO (r.hc.own p z)
  have old : ∀ {j : Nat} {v : V} {w : W}, σ[j]? = some (some v) → RepW K O ts H v w → RepW K (fun b => O b ∨ b = p) ts (upd H p o) v w := fun {j v w} e q => by
    cases w with
    | d x => exact Rep.mono le q
    | tp k => exact q
    | loc ys =>
      obtain ⟨a, e1, h1, h2, h3⟩ := q
      exact ⟨a, e1, .inl h1, h2, h3.mono (fun o' q => by rw [upd_ne (ne_of_none q hp)]; exact q) le⟩
  have notp : ∀ {j : Nat} {ys : PyData}, ρ[j]? = some (some (.loc ys)) → σ[j]? = some (some (.ref p)) → False := fun {j ys} e1 e2 => by
    obtain ⟨v, h1, a, ea, h2, h3, h4⟩ := r.re j _ e1
    rw [e2] at h1
    cases h1
    cases ea
    obtain ⟨o', h5⟩ := h4.some
    rw [hp] at h5
    cases h5
  refine ⟨⟨fun b hb => .inl (r.hc.own b hb), fun b hb => ?_, r.hc.nd, r.hc.len, fun j a ys e1 e2 => ?_⟩, fun j w e => ?_, fun b hb => .inl (r.sub b hb), r.ots, r.same.trans (.new hp _), fun j ys a e1 e2 => ?_, fun j k ys zs v e1 e2 e3 e4 => ?_, fun f hf => (r.frs f hf).trans le, by simp [r.len]⟩
  · by_cases z : b = p
    · subst z; rw [upd_same]; exact hm
    · rw [upd_ne z]
      exact r.hc.trk b (hb.resolve_right z)
  · exact (r.hc.tape j a ys e1 e2).mono (fun o' h1 => by rw [upd_ne (ne_of_none h1 hp)]; exact h1) le
  · by_cases z : i = j
    · subst z
      have hl : i < ρ.length := by
        have := (List.getElem?_eq_some_iff.mp e).1
        simpa using this
      rw [List.getElem?_set_self hl] at e
      cases e
      exact ⟨.ref p, by rw [List.getElem?_set_self (by rw [r.len]; exact hl)], p, rfl, .inr rfl, nt, rv le⟩
    · rw [List.getElem?_set_ne z] at e
      obtain ⟨x, h1, h2⟩ := r.re j w e
      exact ⟨x, by rw [List.getElem?_set_ne z]; exact h1, old h1 h2⟩
  · by_cases z : i = j
    · subst z
      have hl : i < ρ.length := by
        have := (List.getElem?_eq_some_iff.mp e1).1
        simpa using this
      rw [List.getElem?_set_self (by rw [r.len]; exact hl)] at e2
      cases e2
      exact ⟨h0 r.same nt, fun q => nO (r.sub _ q)⟩
    · rw [List.getElem?_set_ne z] at e1 e2
      exact r.fresh j ys a e1 e2
  · by_cases z : i = j
    · by_cases z' : i = k
      · rw [← z, ← z']
      · exfalso
        subst z
        have hl : i < ρ.length := by
          have := (List.getElem?_eq_some_iff.mp e1).1
          simpa using this
        rw [List.getElem?_set_self (by rw [r.len]; exact hl)] at e3
        cases e3
        rw [List.getElem?_set_ne z'] at e2 e4
        exact notp e2 e4
    · by_cases z' : i = k
      · exfalso
        subst z'
        have hl : i < ρ.length := by
          have := (List.getElem?_eq_some_iff.mp e2).1
          simpa using this
        rw [List.getElem?_set_self (by rw [r.len]; exact hl)] at e4
        cases e4
        rw [List.getElem?_set_ne z] at e1 e3
        exact notp e1 e3
      · rw [List.getElem?_set_ne z] at e1 e3
        rw [List.getElem?_set_ne z'] at e2 e4
        exact r.dist j k ys zs v e1 e2 e3 e4
theorem RS.own {i : Nat} {p : Addr} {vs : List V} {xs : List PyData} (r : RS K O₀ H₀ F ts O H σ ρ T) (hp : H p = none) (rv : Reps K O H vs xs) : RS K O₀ H₀ F ts (fun b => O b ∨ b = p) (upd H p (.lst vs)) (σ.set i (some (.ref p))) (ρ.set i (some (.loc (.list xs)))) T :=
  r.ownO hp (.inl ⟨_, rfl⟩) fun le => ⟨vs, upd_same, rv.mono le⟩
theorem RS.putO {i : Nat} {a : Addr} {o : HO} {xs ys : PyData} (r : RS K O₀ H₀ F ts O H σ ρ T) (e1 : ρ[i]? = some (some (.loc xs))) (e2 : σ[i]? = some (some (.ref a))) (hm : Mut (some o)) (rv : Le O H O (upd H a o) → OwnAt K O (upd H a o) a ys) : RS K O₀ H₀ F ts O (upd H a o) σ (ρ.set i (some (.loc ys))) T := by
  obtain ⟨v, z1, a', ea, oa, nt, ha⟩ := r.re i _ e1
  rw [e2] at z1
  cases z1
  cases ea
  have hl : i < ρ.length := (List.getElem?_eq_some_iff.mp e1).1
  obtain ⟨f1, f2⟩ := r.fresh i xs a e1 e2
  have le : Le O H O (upd H a o) := fun b o n e => ⟨n, by rw [upd_ne (show b ≠ a from fun z => n (by rw [z]; exact oa))]; exact e⟩
  have back : ∀ {j : Nat} {zs : PyData}, (ρ.set i (some (W.loc ys)))[j]? = some (some (.loc zs)) → ∃ ws, ρ[j]? = some (some (.loc ws)) := fun {j zs} e => by
    by_cases z : i = j
    · subst z; exact ⟨xs, e1⟩
    · rw [List.getElem?_set_ne z] at e; exact ⟨zs, e⟩
  refine ⟨⟨r.hc.own, fun b hb => ?_, r.hc.nd, r.hc.len, fun j b zs q1 q2 => ?_⟩, fun j w e => ?_, r.sub, r.ots, fun b o n e => ?_, fun j zs b q1 q2 => ?_, fun j k zs zs' v q1 q2 q3 q4 => ?_, fun f hf => (r.frs f hf).trans le, by simp [r.len]⟩
  · by_cases z : b = a
    · subst z; rw [upd_same]; exact hm
    · rw [upd_ne z]; exact r.hc.trk b hb
  · exact (r.hc.tape j b zs q1 q2).mono (fun o' h1 => by rw [upd_ne (show b ≠ a from fun z => nt (by rw [← z]; exact List.mem_of_getElem? q1))]; exact h1) le
  · by_cases z : i = j
    · subst z
      rw [List.getElem?_set_self hl] at e
      cases e
      exact ⟨.ref a, e2, a, rfl, oa, nt, rv le⟩
    · rw [List.getElem?_set_ne z] at e
      obtain ⟨x, h1, h2⟩ := r.re j w e
      refine ⟨x, h1, ?_⟩
      cases w with
      | d x => exact Rep.mono le h2
      | tp k => exact h2
      | loc zs =>
        obtain ⟨b, eb, k1, k2, k3⟩ := h2
        have n : b ≠ a := fun q => z (r.dist i j xs zs (.ref a) e1 e e2 (by rw [h1, eb, q]))
        exact ⟨b, eb, k1, k2, k3.mono (fun o' q => by rw [upd_ne n]; exact q) le⟩
  · have := r.same b o n e
    rw [upd_ne (show b ≠ a from fun z => by rw [z, f1] at e; cases e)]
    exact this
  · obtain ⟨ws, q⟩ := back q1
    exact r.fresh j ws b q q2
  · obtain ⟨ws, q⟩ := back q1
    obtain ⟨ws', q'⟩ := back q2
    exact r.dist j k ws ws' v q q' q3 q4
theorem RS.put {i : Nat} {a : Addr} {vs us : List V} {xs ys : List PyData} (r : RS K O₀ H₀ F ts O H σ ρ T) (e1 : ρ[i]? = some (some (.loc (.list xs)))) (e2 : σ[i]? = some (some (.ref a))) (rv : Reps K O H vs ys) : RS K O₀ H₀ F ts O (upd H a (.lst vs)) σ (ρ.set i (some (.loc (.list ys)))) T :=
  r.putO e1 e2 (.inl ⟨_, rfl⟩) fun le => ⟨vs, upd_same, rv.mono le⟩
theorem RS.tapeO {n : Nat} {a : Addr} {o : HO} {ys : List PyData} (r : RS K O₀ H₀ F ts O H σ ρ T) (e : ts[n]? = some a) (hm : Mut (some o)) (rv : Le O H O (upd H a o) → RowAt K O (upd H a o) a ys) : RS K O₀ H₀ F ts O (upd H a o) σ ρ (T.set n ys) := by
  have am : a ∈ ts := List.mem_of_getElem? e
  have le : Le O H O (upd H a o) := fun b o' k q => ⟨k, by rw [upd_ne (show b ≠ a from fun z => k (by rw [z]; exact r.hc.own a am))]; exact q⟩
  have sx : SameX ts H (upd H a o) := fun b o' k q => by rw [upd_ne (show b ≠ a from fun z => k (by rw [z]; exact am))]; exact q
  refine ⟨⟨r.hc.own, fun b hb => ?_, r.hc.nd, by simp [r.hc.len], fun j b zs q1 q2 => ?_⟩, r.re.mono r.hc sx, r.sub, r.ots, r.same.trans sx, r.fresh, r.dist, fun f hf => (r.frs f hf).trans le, r.len⟩
  · by_cases z : b = a
    · subst z; rw [upd_same]; exact hm
    · rw [upd_ne z]; exact r.hc.trk b hb
  · by_cases z : n = j
    · subst z
      rw [e] at q1
      cases q1
      have hl : n < T.length := by
        have := (List.getElem?_eq_some_iff.mp e).1
        rw [← r.hc.len]; exact this
      rw [List.getElem?_set_self hl] at q2
      cases q2
      exact rv le
    · rw [List.getElem?_set_ne z] at q2
      refine (r.hc.tape j b zs q1 q2).mono (fun o' h1 => ?_) le
      have nb : b ≠ a := fun q => by
        rw [q] at q1
        exact z ((List.getElem?_inj (List.getElem?_eq_some_iff.mp e).1 r.hc.nd).mp (e.trans q1.symm))
      rw [upd_ne nb]
      exact h1
theorem RS.tape {n : Nat} {a : Addr} {vs : List V} {ys : List PyData} (r : RS K O₀ H₀ F ts O H σ ρ T) (e : ts[n]? = some a) (rv : Reps K O H vs ys) : RS K O₀ H₀ F ts O (upd H a (.lst vs)) σ ρ (T.set n ys) :=
  r.tapeO e (.inl ⟨_, rfl⟩) fun le => .inl ⟨rv.notO, vs, upd_same, rv.mono le⟩
noncomputable def frzW : W → W
  | .loc x => .d x
  | w => w
noncomputable def frzR (ρ : Rho) : Rho := ρ.map (Option.map frzW)
theorem RS.frz (r : RS K O₀ H₀ F ts O H σ ρ T) : HC K O₀ ts H T ∧ RelE K O₀ ts H σ (frzR ρ) := by
  have le : Le O H O₀ H := fun a o n e => ⟨fun z => n (r.sub a z), e⟩
  refine ⟨⟨r.ots, fun b hb => r.hc.trk b (r.sub b hb), r.hc.nd, r.hc.len, fun i a xs e1 e2 => ?_⟩, fun i w e => ?_⟩
  · exact (r.hc.tape i a xs e1 e2).mono (fun _ h => h) le
  · unfold frzR at e
    rw [List.getElem?_map] at e
    cases hu : ρ[i]? with
    | none => rw [hu] at e; cases e
    | some u =>
      cases u with
      | none => rw [hu] at e; cases e
      | some u =>
        rw [hu] at e
        cases e
        obtain ⟨v, h1, h2⟩ := r.re i u hu
        refine ⟨v, h1, ?_⟩
        cases u with
        | d x => exact Rep.mono le h2
        | tp k => exact h2
        | loc xs =>
          obtain ⟨a, rfl, k1, k2, k3⟩ := h2
          cases xs with
          | list xs => obtain ⟨vs, k3, k4⟩ := k3; exact .lst (.inl ⟨(r.fresh i _ a hu h1).2, .inl k3⟩) (k4.mono le)
          | dict xs => obtain ⟨vs, k3, k4⟩ := k3; exact .dct (r.fresh i _ a hu h1).2 k3 (k4.mono le)
          | _ => cases k3
end
noncomputable def fNext : FS := fun ρ T => some ((.nx, ρ), T)
noncomputable def fSeq (f g : FS) : FS := fun ρ T => bnd (f ρ T) fun p T1 => match p with
  | (.nx, ρ1) => g ρ1 T1
  | (fl, ρ1) => some ((fl, ρ1), T1)
noncomputable def fSet (i : Nat) (f : FE) : FS := fun ρ T => bnd (f ρ T) fun w T1 => match w with
  | .d x => some ((.nx, ρ.set i (some (.d x))), T1)
  | .tp k => some ((.nx, ρ.set i (some (.tp k))), T1)
  | .loc _ => none
noncomputable def fSetL (i : Nat) (g : FA) : FS := fun ρ T => bnd (g ρ T) fun ws T1 => match datas ws with
  | some xs => if xs.length ≤ 1000 then some ((.nx, ρ.set i (some (.loc (.list xs)))), T1) else none
  | none => none
noncomputable def fApp (i : Nat) (f : FE) : FS := fun ρ T => bnd (f ρ T) fun w T1 => match w with
  | .d x => (match ρ[i]? with
    | some (some (.loc (.list xs))) => if xs.length < sizeLine then some ((.nx, ρ.set i (some (.loc (.list (xs ++ [x]))))), T1) else none
    | _ => none)
  | _ => none
noncomputable def fPut (fo fk fe : FE) : FS := fun ρ T => bnd (fe ρ T) fun w T1 => bnd (fo ρ T1) fun o T2 => bnd (fk ρ T2) fun k T3 => match w, o, k with
  | .d x, .tp n, .d (.int i) => match T3[n]? with
    | some xs => if isO xs = true then none else match ixN xs.length i with
      | some j => some ((.nx, ρ), T3.set n (xs.set j x))
      | none => none
    | none => none
  | _, _, _ => none
noncomputable def fIf (c : FT) (f g : FS) : FS := fun ρ T => bnd (c ρ T) fun b T1 => if b = true then f ρ T1 else g ρ T1
noncomputable def fRet (f : FE) : FS := fun ρ T => bnd (f (frzR ρ) T) fun w T1 => match w with
  | .d x => some ((.rt x, ρ), T1)
  | _ => none
noncomputable def fDrop (f : FE) : FS := fun ρ T => bnd (f ρ T) fun _ T1 => some ((.nx, ρ), T1)
noncomputable def forL (i : Nat) (body : FS) : List PyData → FS
  | [] => fNext
  | d :: r => fun ρ T => bnd (body (ρ.set i (some (.d d))) T) fun p T1 => match p with
    | (.nx, ρ1) => forL i body r ρ1 T1
    | (.ct, ρ1) => forL i body r ρ1 T1
    | (.bk, ρ1) => some ((.nx, ρ1), T1)
    | (.rt x, ρ1) => some ((.rt x, ρ1), T1)
noncomputable def fFor (i : Nat) (it : FI) (body : FS) : FS := fun ρ T => bnd (it ρ T) fun ds T1 => forL i body ds ρ T1
noncomputable def whileF (c : FT) (body : FS) : Nat → FS
  | 0 => fun _ _ => none
  | n + 1 => fun ρ T => bnd (c ρ T) fun b T1 => if b = true then bnd (body ρ T1) fun p T2 => match p with
      | (.nx, ρ1) => whileF c body n ρ1 T2
      | (.ct, ρ1) => whileF c body n ρ1 T2
      | (.bk, ρ1) => some ((.nx, ρ1), T2)
      | (.rt x, ρ1) => some ((.rt x, ρ1), T2)
    else some ((.nx, ρ), T1)
section
variable {X : Cx} {pos : Pos} {st : Stmt} {rest : List Stmt} {f g : FS} {e : Expr} {fe : FE} {c : FT}
theorem dss_nil : DSs X [] fNext := by
  refine ⟨?_⟩
  refine pss_imp pss_nil fun D σ H => ?_
  rintro ⟨O₀, H₀, F, ts, O, ρ, T, fl, ρ', T', rs, e, q⟩
  cases e
  exact q O σ H rs
theorem dss_cons (h1 : DS X st f) (h2 : DSs X rest g) : DSs X (st :: rest) (fSeq f g) := by
  refine ⟨?_⟩
  refine pss_imp (pss_cons h1.pe h2.pe) fun D σ H => ?_
  rintro ⟨O₀, H₀, F, ts, O, ρ, T, fl, ρ', T', rs, e, q⟩
  obtain ⟨⟨fl1, ρ1⟩, T1, e1, e⟩ := bnd_of e
  refine ⟨O₀, H₀, F, ts, O, ρ, T, fl1, ρ1, T1, rs, e1, ?_⟩
  cases fl1 with
  | nx => exact fun O' σ' H' rs' => ⟨O₀, H₀, F, ts, O', ρ1, T1, fl, ρ', T', rs', e, q⟩
  | rt x => cases e; exact q
  | bk => cases e; exact q
  | ct => cases e; exact q
theorem dss_one (h1 : DS X st f) : DSs X [st] f := ⟨pss_one h1.pe⟩
theorem ds_set {i : Nat} {x : Str} {pos' : Pos} (hN : X.N.Nodup) (he : DE X e fe) (hi : X.N[i]? = some x := by rfl) (hx : Loc X.env.scope x := by first | exact Or.inl rfl | exact Or.inr rfl) (hs : swapsWith e (some (.Name x pos')) pos.line X.env = pure false := by rfl)
    (hf : X.fn x = true ∨ X.env.scope.names.lookup x = some .local := by first | exact .inl rfl | exact .inr rfl | assumption) : DS X (.Assign [.Name x pos'] e pos) (fSet i fe) := by
  refine ⟨?_⟩
  refine ps_imp (ps_set hN hi hx he.pe hs hf) fun D σ H => ?_
  rintro ⟨O₀, H₀, F, ts, O, ρ, T, fl, ρ', T', rs, e, q⟩
  obtain ⟨w, T1, e1, e⟩ := bnd_of e
  refine ⟨O, ts, ρ, T, w, T1, rs.hc, rs.re, e1, fun v H1 s1 hc1 r1 => ?_⟩
  cases w with
  | d x => cases e; exact q O _ _ ((rs.step s1 hc1).set r1 fun _ z => nomatch z)
  | tp k => cases e; exact q O _ _ ((rs.step s1 hc1).set r1 fun _ z => nomatch z)
  | loc xs => cases e
theorem ds_setC {i : Nat} {x y : Str} {scope osc : Scope} {N N' : List Str} {elt iter : Expr} {ifs : List Expr} {px py spos : Pos} {it : FI} {c : FT} {f : FE} (S : CS osc N x scope N') (hN : X.N.Nodup) (hi : DI X (.Name x px) iter it)
    (he : ∀ C s0 H0 ex, DE (compCx X x scope C s0 H0 ex N') elt f) (ht : ∀ C s0 H0 ex, DTs (compCx X x scope C s0 H0 ex N') ifs c) (hi' : X.N[i]? = some y := by rfl) (hy : Loc X.env.scope y := by first | exact Or.inl rfl | exact Or.inr rfl)
    (hf' : X.fn y = true ∨ X.env.scope.names.lookup y = some .local := by first | exact .inl rfl | exact .inr rfl | assumption) (hc : X.calm = true := by rfl) (hs : X.env.scope = osc := by rfl) (hN' : X.N = N := by rfl)
    (hsw : swapsWith (.ListComp elt [⟨.Name x px, iter, ifs, 0⟩] scope pos) (some (.Name y py)) spos.line X.env = pure true := by rfl) (hf : ∀ v, foldedSetIterable iter X.env v = pure v := by intro _; rfl) :
    DS X (.Assign [.Name y py] (.ListComp elt [⟨.Name x px, iter, ifs, 0⟩] scope pos) spos) (fSet i (fComp it c f)) := by
  refine ⟨?_⟩
  subst hs hN'
  refine ps_imp (ps_setC (wi := liftI X.K it) (tt := liftT X.K c) (te := lift X.K f) hc S hN hi' hy hf' hi.pe (fun C s0 H0 ex => (he C s0 H0 ex).pe) (fun C s0 H0 ex => (ht C s0 H0 ex).pe) hsw hf) fun D σ H => ?_
  rintro ⟨O₀, H₀, F, ts, O, ρ, T, fl, ρ', T', rs, e, q⟩
  obtain ⟨w, T1, e1, e⟩ := bnd_of e
  obtain ⟨ds, T2, e2, e1⟩ := bnd_of e1
  obtain ⟨ys, T3, e3, e1⟩ := bnd_of e1
  cases e1
  cases e
  refine ⟨O, ts, ρ, T, ds, T2, rs.hc, rs.re, e2, fun J H1 s1 hc1 ok hz => ?_⟩
  exact comp_ok hc1 (rs.re.mono rs.hc s1) ok hz e3 fun vs H' s2 hc2 r2 p hp => q O _ _ ((rs.step (s1.trans (s2.trans (.new hp _))) (hc2.new hp _)).set (hc2.newL hp r2) fun _ z => nomatch z)
theorem ds_setL {i : Nat} {x : Str} {pos' : Pos} {es : List Expr} {lpos : Pos} {g : FA} (hN : X.N.Nodup) (he : DA X es g) (hi : X.N[i]? = some x := by rfl) (hx : Loc X.env.scope x := by first | exact Or.inl rfl | exact Or.inr rfl)
    (hs : swapsWith (.List es lpos) (some (.Name x pos')) pos.line X.env = pure false := by rfl) (hf : X.fn x = true ∨ X.env.scope.names.lookup x = some .local := by first | exact .inl rfl | exact .inr rfl | assumption) : DS X (.Assign [.Name x pos'] (.List es lpos) pos) (fSetL i g) := by
  refine ⟨?_⟩
  refine ps_imp (ps_set hN hi hx (pe_lst he.pe) hs hf) fun D σ H => ?_
  rintro ⟨O₀, H₀, F, ts, O, ρ, T, fl, ρ', T', rs, e, q⟩
  obtain ⟨ws, T1, e1, e⟩ := bnd_of e
  refine ⟨O, ts, ρ, T, ws, T1, rs.hc, rs.re, e1, fun vs H1 s1 hc1 r1 => ?_⟩
  split at e
  · rename_i xs h1
    split at e
    · rename_i h2
      cases e
      have rv := datas_of r1 h1
      exact ⟨le_line (by rw [rv.length]; exact h2), fun p hp => q _ _ _ ((rs.step s1 hc1).own hp rv)⟩
    · cases e
  · cases e
theorem ds_if {ce : Expr} {a b : List Stmt} (hc : DT X ce c) (ha : DSs X a f) (hb : DSs X b g) : DS X (.If ce a b pos) (fIf c f g) := by
  refine ⟨?_⟩
  refine ps_imp (ps_if hc.pe ha.pe hb.pe) fun D σ H => ?_
  rintro ⟨O₀, H₀, F, ts, O, ρ, T, fl, ρ', T', rs, e, q⟩
  obtain ⟨b1, T1, e1, e⟩ := bnd_of e
  refine ⟨O, ts, ρ, T, b1, T1, rs.hc, rs.re, e1, fun H1 s1 hc1 => ?_⟩
  cases b1 with
  | true => exact iteT ⟨O₀, H₀, F, ts, O, ρ, T1, fl, ρ', T', rs.step s1 hc1, by simpa using e, q⟩
  | false => exact iteF ⟨O₀, H₀, F, ts, O, ρ, T1, fl, ρ', T', rs.step s1 hc1, by simpa using e, q⟩
theorem ds_ret (he : DE X e fe) : DS X (.Return (some e) pos) (fRet fe) := by
  refine ⟨?_⟩
  refine ps_imp (ps_ret he.pe) fun D σ H => ?_
  rintro ⟨O₀, H₀, F, ts, O, ρ, T, fl, ρ', T', rs, e, q⟩
  obtain ⟨w, T1, e1, e⟩ := bnd_of e
  obtain ⟨c0, re0⟩ := rs.frz
  refine ⟨O₀, ts, frzR ρ, T, w, T1, c0, re0, e1, fun v H1 s1 hc1 r1 => ?_⟩
  cases w with
  | d x => cases e; exact q v H1 (rs.same.trans s1) hc1 r1
  | tp k => cases e
  | loc xs => cases e
theorem ds_drop (he : DE X e fe) (hs : swapsWith e none pos.line X.env = pure false := by rfl) : DS X (.Expr e pos) (fDrop fe) := by
  refine ⟨?_⟩
  refine ps_imp (ps_expr he.pe hs) fun D σ H => ?_
  rintro ⟨O₀, H₀, F, ts, O, ρ, T, fl, ρ', T', rs, e, q⟩
  obtain ⟨w, T1, e1, e⟩ := bnd_of e
  cases e
  exact ⟨O, ts, ρ, T, w, _, rs.hc, rs.re, e1, fun v H1 s1 hc1 r1 => q O _ _ (rs.step s1 hc1)⟩
theorem ds_app {i : Nat} {x : Str} {p apos : Pos} (he : DE X e fe) (hN : X.N[i]? = some x := by rfl) (hv : Vis X.env.scope x := by first | exact Or.inl rfl | exact Or.inr (Or.inl rfl) | exact Or.inr (Or.inr rfl)) (hd : (x == ("__debug__" : Str)) = false := by decide)
    (hcd : (x == ("__classdict__" : Str)) = false := by decide) {cpos : Pos}
    (hbase : attributeBase (.Name x p) "append" X.env (eval (.Name x p) X.env) = eval (.Name x p) X.env := by rfl)
    (hfew : ((backTo cpos (starEach [e] X.env)).all (fun x => !x.1) && (backToKw cpos (keywordEach [] X.env)).all (fun x => x.1.isSome)
      && decide (([e] : List Expr).length + ([] : List Keyword).length + (if ([] : List Keyword).isEmpty then 0 else 1) < 30)) = true := by exact few1 rfl)
    (hline : (apos.endLine == cpos.line) = true := by rfl) (hse : starEach [e] X.env = (false, eval e X.env) :: starEach [] X.env := by exact star_cons rfl) (hplain : (backTo cpos (starEach [] X.env)).any (·.1) = false := by exact star_any rfl)
    (hs : swapsWith (.Call (.Attribute (.Name x p) "append" apos) [e] [] cpos) none pos.line X.env = pure false := by rfl) :
    DS X (.Expr (.Call (.Attribute (.Name x p) "append" apos) [e] [] cpos) pos) (fApp i fe) := by
  refine ⟨?_⟩
  refine ps_imp (ps_expr (pe_bm PySem.F.plainAttrs_list PySem.F.slot_list_append PySem.F.type_list_append mt_append (pv i hN hv hd hcd) (pa_cons he.pe pa_nil hse) hbase hfew hline hse hplain) hs) fun D σ H => ?_
  rintro ⟨O₀, H₀, F, ts, O, ρ, T, fl, ρ', T', rs, e, q⟩
  obtain ⟨w, T1, e1, e⟩ := bnd_of e
  split at e
  · rename_i x0
    split at e
    · rename_i xs h1
      split at e
      · rename_i h2
        cases e
        obtain ⟨v, k1, a, rfl, k2, k3, vs, k4, k5⟩ := rs.re i _ h1
        refine ⟨_, k1, .inl ⟨rfl, vs, SqL.of k4⟩, O, ts, ρ, T, _, _, rs.hc, rs.re, e1, fun u H1 s1 hc1 r1 => ?_⟩
        have rs1 := rs.step s1 hc1
        exact ⟨a, vs, u, rfl, rfl, s1 _ _ k3 k4, by rw [k5.length]; exact h2, q O _ _ (rs1.put (us := []) h1 k1 ((k5.mono (rs.hc.le s1)).append (.cons r1 .nil)))⟩
      · cases e
    · cases e
  · cases e
theorem ds_put {o k : Expr} {fo fk : FE} {tpos : Pos} (ho : DE X o fo) (hk : DE X k fk) (he : DE X e fe) (ha : ∀ v, assign (.Subscript o k tpos) X.env v = (do
      let ov ← holding [v] (eval o X.env)
      let iv ← holding [v, ov] (eval k X.env)
      standAt tpos
      holding [v, ov, iv] (setItem ov iv v)
      release [v, ov, iv] []) := by intro _; rfl)
    (hs : swapsWithSole [.Subscript o k tpos] e pos.line X.env = pure false := by rfl) (hw : swappedStores [.Subscript o k tpos] e X.env = pure none := by rfl)
    (h1 : (assignEach [.Subscript o k tpos] X.env).map (·.2) = [assign (.Subscript o k tpos) X.env] := by rfl) : DS X (.Assign [.Subscript o k tpos] e pos) (fPut fo fk fe) := by
  refine ⟨?_⟩
  refine ps_imp (ps_asg he.pe (pg_sub ho.pe hk.pe set_list ha) hs hw h1) fun D σ H => ?_
  rintro ⟨O₀, H₀, F, ts, O, ρ, T, fl, ρ', T', rs, e, q⟩
  obtain ⟨w, T1, e1, e⟩ := bnd_of e
  obtain ⟨wo, T2, e2, e⟩ := bnd_of e
  obtain ⟨wk, T3, e3, e⟩ := bnd_of e
  refine ⟨O, ts, ρ, T, w, T1, rs.hc, rs.re, e1, fun v H1 s1 hc1 r1 => ?_⟩
  have rs1 := rs.step s1 hc1
  refine ⟨O, ts, ρ, T1, wo, T2, hc1, rs1.re, e2, fun vo H2 s2 hc2 r2 => ?_⟩
  have rs2 := rs1.step s2 hc2
  refine ⟨O, ts, ρ, T2, wk, T3, hc2, rs2.re, e3, fun vk H3 s3 hc3 r3 => ?_⟩
  have rs3 := rs2.step s3 hc3
  split at e
  · split at e
    · rename_i xs h1
      split at e
      · cases e
      · rename_i hn
        split at e
        · rename_i j h2
          cases e
          obtain ⟨a, k1, rfl⟩ := r2
          cases (show Rep X.K O H3 vk (.int _) from r3)
          obtain ⟨vs, k2, k3⟩ := (hc3.tape _ a xs k1 h1).lst (by simpa using hn)
          refine ⟨a, vs, _, j, rfl, rfl, k2, by rw [k3.length]; exact h2, q O _ _ (rs3.tape k1 (Reps.set ?_ j k3))⟩
          exact Rep.mono ((hc1.le s2).trans (hc2.le s3)) r1
        · cases e
    · cases e
  · cases e
end
end D
namespace D
open PySem PySem.Spec PyProof.Rows L2
section
variable {K : PySem.W.Frag} {O₀ : Addr → Prop} {H₀ : Hp} {F : List ((Addr → Prop) × Hp)} {ts : List Addr} {O : Addr → Prop} {H H1 : Hp} {σ : L2.St} {ρ : Rho} {T T1 : Tp}
theorem RS.less {f : (Addr → Prop) × Hp} (r : RS K O₀ H₀ (f :: F) ts O H σ ρ T) : RS K O₀ H₀ F ts O H σ ρ T := ⟨r.hc, r.re, r.sub, r.ots, r.same, r.fresh, r.dist, fun f hf => r.frs f (List.mem_cons_of_mem _ hf), r.len⟩
theorem RS.more (r : RS K O₀ H₀ F ts O H σ ρ T) : RS K O₀ H₀ ((O, H) :: F) ts O H σ ρ T := ⟨r.hc, r.re, r.sub, r.ots, r.same, r.fresh, r.dist, fun f hf => by
  rcases List.mem_cons.mp hf with z | z
  · subst z; exact fun a o n e => ⟨n, e⟩
  · exact r.frs f z, r.len⟩
end
section
variable {X : Cx} {pos : Pos} {st : Stmt} {rest : List Stmt} {f g : FS} {e : Expr} {fe : FE} {c : FT}
theorem ds_for {i : Nat} {x : Str} {iter : Expr} {body : List Stmt} {tpos : Pos} {it : FI} (hN : X.N.Nodup) (hi : DI X (.Name x tpos) iter it) (hb : DSs X body f) (hix : X.N[i]? = some x := by rfl) (hx : Loc X.env.scope x := by first | exact Or.inl rfl | exact Or.inr rfl)
    (hf : X.fn x = true ∨ X.env.scope.names.lookup x = some .local := by first | exact .inl rfl | exact .inr rfl | assumption) (hp : PassesOwn (model X.prog X.w) X.A X.env X.xe := by exact PassesOwn.never) (hc : X.calm = true := by rfl)
    (hs : ∀ x, foldedSetIterable iter X.env x = pure x := by intro _; rfl) : DS X (.For (.Name x tpos) iter body [] pos) (fFor i it f) := by
  refine ⟨?_⟩
  refine ps_imp (ps_for hp hc hi.pe (pg_name hN hix hx hf) hb.pe hs) fun D σ H => ?_
  rintro ⟨O₀, H₀, F, ts, O, ρ, T, fl, ρ', T', rs, e, q⟩
  obtain ⟨ds, T1, e1, e⟩ := bnd_of e
  refine ⟨O, ts, ρ, T, ds, T1, rs.hc, rs.re, e1, fun J H1 s1 hc1 ok hz => ?_⟩
  refine ⟨fun k m σ H => m = ds.length - k ∧ k ≤ ds.length ∧ ∃ O' ρk Tk, RS X.K O₀ H₀ ((O, H1) :: F) ts O' H σ ρk Tk ∧ forL i f (ds.drop k) ρk Tk = some ((fl, ρ'), T'), ⟨_, rfl, Nat.zero_le _, O, ρ, T1, (rs.step s1 hc1).more, e⟩, ?_⟩
  rintro k m σ2 H2 ⟨rfl, hk, O', ρk, Tk, rs2, ek⟩
  obtain ⟨k1, k2, k3⟩ := ok O' H2 (rs2.frs _ List.mem_cons_self)
  by_cases hlt : k < ds.length
  · refine .inr ⟨k1 k hlt, fun σ3 H3 => ∃ O' ρk Tk, RS X.K O₀ H₀ ((O, H1) :: F) ts O' H3 σ3 ρk Tk ∧ forL i f (ds.drop (k + 1)) ρk Tk = some ((fl, ρ'), T'), fun σ3 H3 n => ⟨ds.length - (k + 1), by omega, rfl, hlt, n⟩, fun v H3 y => ?_⟩
    obtain ⟨e2, d, hd, rd⟩ := k3 k v H3 y hlt
    subst e2
    have hdr : ds.drop k = d :: ds.drop (k + 1) := by
      rw [List.drop_eq_getElem_cons hlt]
      have := (List.getElem?_eq_some_iff.mp hd).2
      rw [this]
    rw [hdr] at ek
    obtain ⟨⟨fl1, ρ1⟩, T3, e3, ek⟩ := bnd_of ek
    refine ⟨O₀, H₀, (O, H1) :: F, ts, O', _, Tk, fl1, ρ1, T3, rs2.set (i := i) (w := .d d) rd (fun _ z => nomatch z), e3, ?_⟩
    cases fl1 with
    | nx => exact fun O3 σ3 H3 rs3 => ⟨O3, ρ1, T3, rs3, ek⟩
    | ct => exact fun O3 σ3 H3 rs3 => ⟨O3, ρ1, T3, rs3, ek⟩
    | bk =>
      cases ek
      exact fun O3 σ3 H3 rs3 => q O3 σ3 H3 rs3.less
    | rt x =>
      cases ek
      exact q
  · have e : k = ds.length := by omega
    subst e
    rw [List.drop_eq_nil_of_le (Nat.le_refl _)] at ek
    cases ek
    exact .inl ⟨k2, q O' σ2 H2 rs2.less⟩
theorem ds_while {ce : Expr} {body : List Stmt} (n : Nat) (hc : DT X ce c) (hb : DSs X body f) (hp : PassesOwn (model X.prog X.w) X.A X.env X.xe := by exact PassesOwn.never) : DS X (.While ce body [] pos) (whileF c f n) := by
  refine ⟨?_⟩
  refine ps_imp (ps_while hp hc.pe hb.pe) fun D σ H => ?_
  rintro ⟨O₀, H₀, F, ts, O, ρ, T, fl, ρ', T', rs, e, q⟩
  refine ⟨fun m σ H => ∃ O' ρm Tm, RS X.K O₀ H₀ F ts O' H σ ρm Tm ∧ whileF c f m ρm Tm = some ((fl, ρ'), T'), ⟨n, O, ρ, T, rs, e⟩, ?_⟩
  rintro m σ2 H2 ⟨O', ρm, Tm, rs2, em⟩
  cases m with
  | zero => cases em
  | succ m =>
    obtain ⟨b, T3, e3, em⟩ := bnd_of em
    refine ⟨O', ts, ρm, Tm, b, T3, rs2.hc, rs2.re, e3, fun H3 s3 hc3 => ?_⟩
    have rs3 := rs2.step s3 hc3
    cases b with
    | false =>
      rw [if_neg Bool.false_ne_true] at em
      cases em
      exact iteF (q O' σ2 H3 rs3)
    | true =>
      rw [if_pos rfl] at em
      obtain ⟨⟨fl1, ρ1⟩, T4, e4, em⟩ := bnd_of em
      refine iteT ⟨fun σ3 H3 => ∃ O' ρm Tm, RS X.K O₀ H₀ F ts O' H3 σ3 ρm Tm ∧ whileF c f m ρm Tm = some ((fl, ρ'), T'), fun σ3 H3 n => ⟨m, Nat.lt_succ_self m, n⟩, O₀, H₀, F, ts, O', ρm, T3, fl1, ρ1, T4, rs3, e4, ?_⟩
      cases fl1 with
      | nx => exact fun O3 σ3 H3 rs3 => ⟨O3, ρ1, T4, rs3, em⟩
      | ct => exact fun O3 σ3 H3 rs3 => ⟨O3, ρ1, T4, rs3, em⟩
      | bk =>
        cases em
        exact fun O3 σ3 H3 rs3 => q O3 σ3 H3 rs3
      | rt x =>
        cases em
        exact q
end
noncomputable abbrev FnM := List W → Tp → Option (PyData × Tp)
noncomputable def noLoc : List W → Bool
  | [] => true
  | .loc _ :: _ => false
  | _ :: r => noLoc r
noncomputable def fnEnd (o : Option ((Fl × Rho) × Tp)) : Option (PyData × Tp) := bnd o fun p T => match p with
  | (.rt x, _) => some (x, T)
  | (.nx, _) => some (.none, T)
  | _ => none
noncomputable def mkFn (N : Nat) (f : FS) : FnM := fun ws T => if noLoc ws = true then fnEnd (f (ws.map some ++ List.replicate (N - ws.length) none) T) else none
inductive SpMP (K : PySem.W.Frag) (n : Nat) (m : FnM) (vs : List V) (H : Hp) (Q : VK) : Prop where
  | mk (O : Addr → Prop) (ts : List Addr) (T : Tp) (ws : List W) (x : PyData) (T' : Tp) (hc : HC K O ts H T) (r : RepWs K O ts H vs ws) (hl : ws.length = n) (e : m ws T = some (x, T')) (q : ∀ v H', SameX ts H H' → HC K O ts H' T' → Rep K O H' v x → Q v H') : SpMP K n m vs H Q
noncomputable def spM (K : PySem.W.Frag) (n : Nat) (m : FnM) : Sp := fun vs H Q _ => SpMP K n m vs H Q
theorem repws_get {K : PySem.W.Frag} {O : Addr → Prop} {ts : List Addr} {H : Hp} : ∀ {vs : List V} {ws : List W} {i : Nat} {w : W}, RepWs K O ts H vs ws → ws[i]? = some w → ∃ v, vs[i]? = some v ∧ RepW K O ts H v w
  | _, _, _, _, .nil, e => by simp at e
  | _, _, 0, _, .cons r _, e => by simp at e; subst e; exact ⟨_, rfl, r⟩
  | _, _, i + 1, w, .cons _ t, e => by
    obtain ⟨d, h1, h2⟩ := repws_get (i := i) (w := w) t (by simpa using e)
    exact ⟨d, by simpa using h1, h2⟩
theorem noLoc_mem : ∀ {ws : List W} {xs : PyData}, noLoc ws = true → W.loc xs ∉ ws
  | [], _, _, h => by cases h
  | .loc _ :: _, _, e, _ => by cases e
  | .d _ :: r, _, e, h => by
    rcases List.mem_cons.mp h with z | z
    · cases z
    · exact noLoc_mem (ws := r) e z
  | .tp _ :: r, _, e, h => by
    rcases List.mem_cons.mp h with z | z
    · cases z
    · exact noLoc_mem (ws := r) e z
theorem start_get {ws : List W} {n i : Nat} {w : W} (e : (ws.map some ++ List.replicate n none)[i]? = some (some w)) : ws[i]? = some w := by
  by_cases h : i < ws.length
  · rw [List.getElem?_append_left (by simpa using h), List.getElem?_map] at e
    cases q : ws[i]? with
    | none => rw [q] at e; cases e
    | some u => rw [q] at e; cases e; rfl
  · rw [List.getElem?_append_right (by simpa using h)] at e
    have := List.mem_of_getElem? e
    rw [List.mem_replicate] at this
    cases this.2
theorem dfn {P : Program} {w : World} {K : PySem.W.Frag} {mg : Str → Option Value} {base : Heap} {x qual : Str} {st : Stmt} {f : Addr} {fd : FuncData} {N ps : List Str} {k : Nat} {m : FS} (F : Fun K x qual st f fd) (S : FnScope N ps (defScope st))
    (hbody : ∀ (cdv : Value) (A : Around) (outer : List Env) (s : Shared) (H : Hp) (E : XK), Room k (A.deeper (envOfC qual (defScope st) s.heap.objs.size f cdv)) → DSs (cxOf CX0 P w K mg base N qual (defScope st) f cdv A outer s H E).nox (defBody st) m) :
    FnOk P w K mg base CX0 (k + 1) f fd ps (spM K ps.length (mkFn N.length m)) := by
  refine F.ok S (fun vs H Q E h => ?_) (fun cdv A outer s H vs Q E hr h => ⟨_, (hbody cdv A outer s H E hr).pe, ?_⟩)
  · obtain ⟨O, ts, T, ws, x, T', hc, rw', hl, _⟩ := h
    rw [← hl]
    exact Paired.length rw'
  obtain ⟨O, ts, T, ws, x, T', hc, rw', hl, e, q⟩ := h
  unfold mkFn at e
  split at e
  · rename_i hn
    obtain ⟨⟨fl, ρ'⟩, T1, e1, e⟩ := bnd_of e
    have hlen : vs.length = ws.length := Paired.length rw'
    have noL : ∀ {i : Nat} {xs : PyData}, (ws.map some ++ List.replicate (N.length - ws.length) none)[i]? = some (some (W.loc xs)) → False := fun {i xs} e => noLoc_mem hn (List.mem_of_getElem? (start_get e))
    refine ⟨O, H, [], ts, O, _, T, fl, ρ', T1, ⟨hc, fun i u e => ?_, fun _ h => h, hc.own, .refl _ _, fun i xs a e1 _ => (noL e1).elim, fun i j xs ys v e1 _ _ _ => (noL e1).elim, fun f hf => absurd hf (by simp), by simp [L2.start, hlen]⟩, e1, ?_⟩
    · obtain ⟨v, h1, h2⟩ := repws_get rw' (start_get e)
      refine ⟨v, ?_, h2⟩
      unfold L2.start
      have hi : i < vs.length := (List.getElem?_eq_some_iff.mp h1).1
      rw [List.getElem?_append_left (by simpa using hi), List.getElem?_map, h1]
      rfl
    · cases fl with
      | rt y => cases e; exact fun v H' s1 c1 r1 => q v H' s1 c1 r1
      | nx =>
        cases e
        exact fun O' σ' H' rs => q _ _ rs.same (rs.frz).1 .non
      | bk => cases e
      | ct => cases e
  · cases e
noncomputable def fCall (m : FnM) (g : FA) : FE := fun ρ T => bnd (g ρ T) fun ws T1 => bnd (m ws T1) fun x T2 => some (.d x, T2)
noncomputable def LenA (g : FA) (n : Nat) : Prop := ∀ ρ T ws T', g ρ T = some (ws, T') → ws.length = n
theorem len_nil : LenA fNil 0 := fun ρ T ws T' e => by cases e; rfl
theorem len_cons {f : FE} {g : FA} {n : Nat} (h : LenA g n) : LenA (fCons f g) (n + 1) := fun ρ T ws T' e => by
  obtain ⟨w1, T1, e1, e⟩ := bnd_of e
  obtain ⟨ws, T2, e2, e⟩ := bnd_of e
  cases e
  rw [List.length_cons, h _ _ _ _ e2]
theorem de_call {X : Cx} {name : Str} {ps : List Str} {k : Nat} {m : FnM} {e : Expr} {es : List Expr} {g : FA} {p pos : Pos} (F : Fn X.prog X.w X.K X.mg X.base name ps k (spM X.K ps.length m)) (hr : Room k X.A) (hg : Gl X name) (ha : DA X (e :: es) g) (hl : LenA g ps.length) (hdb : (name == ("__debug__" : Str)) = false := by decide)
    (he : starEach (e :: es) X.env = (false, eval e X.env) :: starEach es X.env := by exact star_cons rfl) (hpl : (backTo pos (starEach es X.env)).any (·.1) = false := by exact star_any rfl) : DE X (.Call (.Name name p) (e :: es) [] pos) (fCall m g) := by
  refine ⟨?_⟩
  refine pe_imp (pe_fn F hr hg ha.pe hdb he hpl) fun σ H Q => ?_
  rintro ⟨O, ts, ρ, T, w, T', hc, re, e, q⟩
  obtain ⟨ws, T1, e1, e⟩ := bnd_of e
  obtain ⟨x, T2, e2, e⟩ := bnd_of e
  cases e
  refine ⟨O, ts, ρ, T, ws, T1, hc, re, e1, fun vs H1 s1 hc1 r1 => ?_⟩
  refine ⟨O, ts, T1, ws, x, _, hc1, by rw [List.append_nil]; exact r1, hl _ _ _ _ e1, e2, fun v H2 s2 hc2 r2 => q v H2 (s1.trans s2) hc2 r2⟩
end D
namespace D
open PySem PySem.Spec PyProof.Rows L2
noncomputable def iop (g : Int → Int → Option PyData) : PyData → PyData → Option PyData
  | .int i, .int j => g i j
  | _, _ => none
noncomputable def subD : PyData → PyData → Option PyData := iop fun i j => some (.int (i - j))
noncomputable def modD : PyData → PyData → Option PyData := iop fun i j => if 0 < j then some (.int (i % j)) else none
noncomputable def fdivD : PyData → PyData → Option PyData := iop fun i j => if 0 < j ∧ j < 1073741824 then some (.int (i / j)) else none
noncomputable def powD : PyData → PyData → Option PyData := iop fun i j => if 0 ≤ j ∧ j ≤ 1000000 ∧ i.natAbs < 2 ^ 64 then some (.int (i ^ j.toNat)) else none
noncomputable def ltD : PyData → PyData → Option PyData := iop fun i j => some (.bool (decide (i < j)))
noncomputable def leD : PyData → PyData → Option PyData := iop fun i j => some (.bool (decide (i ≤ j)))
noncomputable def gtD : PyData → PyData → Option PyData := iop fun i j => some (.bool (decide (j < i)))
noncomputable def geD : PyData → PyData → Option PyData := iop fun i j => some (.bool (decide (j ≤ i)))
theorem iop_of {g : Int → Int → Option PyData} {x y d : PyData} (e : iop g x y = some d) : ∃ i j, x = .int i ∧ y = .int j ∧ g i j = some d := by
  unfold iop at e
  split at e
  · exact ⟨_, _, rfl, rfl, e⟩
  · cases e
theorem snd_rI {K : PySem.W.Frag} {C : Int → Int → Prop} {g : Int → Int → V} {gd : Int → Int → Option PyData} (h : ∀ i j d, gd i j = some d → C i j ∧ ∀ O H, Rep K O H (g i j) d) : Snd2 K (rI C g) (iop gd) := fun O ts H T v1 v2 x y d Q hc h1 h2 e q => by
  obtain ⟨i, j, rfl, rfl, e⟩ := iop_of e
  obtain ⟨c, r⟩ := h i j d e
  exact ⟨i, j, h1.int, h2.int, c, q _ H (.refl _ _) hc (r O H)⟩
theorem snd_rI0 {K : PySem.W.Frag} {g : Int → Int → V} {gd : Int → Int → Option PyData} (h : ∀ i j d, gd i j = some d → ∀ O H, Rep K O H (g i j) d) : Snd2 K (rI0 g) (iop gd) := fun O ts H T v1 v2 x y d Q hc h1 h2 e q => by
  obtain ⟨i, j, rfl, rfl, e⟩ := iop_of e
  exact ⟨i, j, h1.int, h2.int, q _ H (.refl _ _) hc (h i j d e O H)⟩
section
variable {X : Cx}
theorem o_sub : OpD X (binaryOp .Sub) subD := ⟨_, op_sub, snd_rI0 fun i j d e O H => by cases e; exact .int _⟩
theorem o_mod : OpD X (binaryOp .Mod) modD := ⟨_, op_mod, snd_rI fun i j d e => by
  split at e
  · rename_i h; cases e; exact ⟨h, fun _ _ => .int _⟩
  · cases e⟩
theorem o_fdiv : OpD X (binaryOp .FloorDiv) fdivD := ⟨_, op_fdiv, snd_rI fun i j d e => by
  split at e
  · rename_i h; cases e; exact ⟨h, fun _ _ => .int _⟩
  · cases e⟩
theorem o_pow : OpD X (binaryOp .Pow) powD := ⟨_, op_pow, snd_rI fun i j d e => by
  split at e
  · rename_i h; cases e; exact ⟨h, fun _ _ => .int _⟩
  · cases e⟩
theorem o_lt : OpD X (compareOp .Lt) ltD := ⟨_, op_lt, snd_rI0 fun i j d e O H => by cases e; exact .bl _⟩
theorem o_le : OpD X (compareOp .LtE) leD := ⟨_, op_le, snd_rI0 fun i j d e O H => by cases e; exact .bl _⟩
theorem o_gt : OpD X (compareOp .Gt) gtD := ⟨_, op_gt, snd_rI0 fun i j d e O H => by cases e; exact .bl _⟩
theorem o_ge : OpD X (compareOp .GtE) geD := ⟨_, op_ge, snd_rI0 fun i j d e O H => by cases e; exact .bl _⟩
noncomputable def addD : PyData → PyData → Option PyData
  | .int i, .int j => some (.int (i + j))
  | .str x, .str y => if x.length + y.length ≤ sizeLine then some (.str (x ++ y)) else none
  | .tuple xs, .tuple ys => if xs.length + ys.length ≤ sizeLine then some (.tuple (xs ++ ys)) else none
  | .list xs, .list ys => if xs.length + ys.length ≤ sizeLine then some (.list (xs ++ ys)) else none
  | _, _ => none
noncomputable def rCatL (K : PySem.W.Frag) : R2 := fun x y H Q => ∃ l b xs zs, x = .ref l ∧ y = .ref b ∧ SqL K H l xs ∧ SqL K H b zs ∧ xs.length + zs.length ≤ sizeLine ∧ ∀ p, H p = none → Q (.ref p) (upd H p (.lst (xs ++ zs)))
theorem op_catL : OpR X (binaryOp .Add) (rCatL X.K) := by
  intro pins s σ H x y v u Q I rx ry h
  obtain ⟨l, b, xs, zs, rfl, rfl, hH, hB, hz, q⟩ := h
  cases rx
  cases ry
  obtain ⟨its, r, p1, _⟩ := I.list hH
  obtain ⟨its2, r2, p2, _⟩ := I.list hB
  have hl := r.length
  have hl2 := r2.length
  obtain ⟨⟨cls, dd, data, sl⟩, ho, hc, n, hd⟩ := id p1.isList
  obtain ⟨⟨cls2, dd2, data2, sl2⟩, ho2, hc2, n2, hd2⟩ := id p2.isList
  simp only at hc hd hc2 hd2
  subst hc hd hc2 hd2
  have ea : its.toArray ++ its2.toArray = (its ++ its2).toArray := by simp
  refine concat_meets ⟨_, ho, rfl⟩ ⟨_, ho2, rfl⟩ noFill_list_add seq_list_add PySem.F.slot_list_add PySem.F.entry_list_add (PySem.F.args_list_add_2 _ _) (list_addW l b its.toArray its2.toArray n n2 dd dd2 sl sl2 (by rw [List.size_toArray, List.size_toArray]; omega)) ⟨ho, ho2, ?_⟩
  rw [ea]
  exact ⟨.ref _, _, I.lnew (t' := s.toks) (r.append r2) (by rw [List.length_append]; omega), rfl, q _ I.fresh⟩
theorem o_add : OpD X (binaryOp .Add) addD := by
  refine ⟨_, op_add.or (op_add_str.or (op_catG.or op_catL)), fun O ts H T v1 v2 x y d Q hc h1 h2 e q => ?_⟩
  unfold addD at e
  split at e
  · cases e
    exact .inl ⟨_, _, h1.int, h2.int, q _ H (.refl _ _) hc (.int _)⟩
  · split at e
    · rename_i hz
      cases e
      exact .inr (.inl ⟨_, _, h1.str, h2.str, hz, q _ H (.refl _ _) hc (.str _)⟩)
    · cases e
  · split at e
    · rename_i xs ys hz
      cases e
      obtain ⟨a, vs, rfl, t1, r1⟩ := h1.tup
      obtain ⟨b, us, rfl, t2, r2⟩ := h2.tup
      refine .inr (.inr (.inl ⟨a, b, vs, us, rfl, rfl, t1.sq, t2.sq, by rw [r1.length, r2.length]; exact hz, fun z => ?_, fun _ z => ?_, fun _ _ p hp => ?_⟩))
      · subst z
        cases r1
        exact q _ H (.refl _ _) hc (.tup t2 r2)
      · subst z
        cases r2
        rw [List.append_nil] at q
        exact q _ H (.refl _ _) hc (.tup t1 r1)
      · exact q _ _ (.new hp _) (hc.new hp _) (hc.newT hp (r1.append r2))
    · cases e
  · split at e
    · rename_i xs ys hz
      cases e
      obtain ⟨a, vs, rfl, t1, r1⟩ := h1.lst
      obtain ⟨b, us, rfl, t2, r2⟩ := h2.lst
      exact .inr (.inr (.inr ⟨a, b, vs, us, rfl, rfl, t1, t2, by rw [r1.length, r2.length]; exact hz, fun p hp => q _ _ (.new hp _) (hc.new hp _) (hc.newL hp (r1.append r2))⟩))
    · cases e
  · cases e
theorem noFill_tuple_mul : fillsNumberSlot (.type "tuple") "mul" = pure false :=
  PySem.fillsNumberSlot_seq (id := "tuple.__mul__") (r := some (.builtin "tuple.__rmul__")) PySem.F.slot_tuple_mul.lookup (by decide +kernel) PySem.F.slot_tuple_rmul.lookup (by decide +kernel)
theorem repeat_tuple : seqRepeat? (.type "tuple") = pure (some (.builtin "tuple.__mul__")) := by
  unfold seqRepeat?
  rw [PySem.seqSlot_of (T := "tuple") (name := "__mul__") (id := "tuple.__mul__") PySem.F.slot_tuple_mul.lookup (by decide +kernel), PySem.seqSlot_of (T := "tuple") (name := "__rmul__") (id := "tuple.__rmul__") PySem.F.slot_tuple_rmul.lookup (by decide +kernel)]
  rfl
theorem int_rmul_tuple (a : Int) (t : Tok) (l : Addr) (items : Array Value) (n : Nat) (dd : Option Addr) (sl : Array (Option Value)) :
    Meets (Builtin.«int.__rmul__» ⟨[.int a t, .ref l], []⟩) (fun _ R s => s.heap.get? l = some { cls := .type "tuple", dict := dd, data := .seq items n, slots := sl } ∧ R (.ok (.ret Value.notImplemented)) s) :=
  .of_wp fun prog w A R s h => by obtain ⟨hp, g, d, tk, os⟩ := s; obtain ⟨hl, h⟩ := h; wp_walk; exact ⟨_, rfl, h⟩
theorem tuple_mulW (l : Addr) (items : Array Value) (n : Nat) (dd : Option Addr) (sl : Array (Option Value)) (k : Int) (t : Tok) (h1 : 2 ≤ k) (h2 : k ≤ 1000) (h3 : items.isEmpty = false) (h4 : items.size ≤ 1000) :
    Meets (Builtin.«tuple.__mul__» ⟨[.ref l, .int k t], []⟩) (fun _ R s => s.heap.get? l = some { cls := .type "tuple", dict := dd, data := .seq items n, slots := sl } ∧ R (.ok (.ret (Value.ref s.heap.objs.size))) { s with heap := s.heap.push { cls := Value.type "tuple", data := Data.seq (List.foldl (fun x1 x2 => x1 ++ x2) #[] (List.replicate k.toNat items)) }, toks := s.toks }) :=
  .of_wp fun prog w A R s h => by
    obtain ⟨hp, g, d, tk, os⟩ := s
    obtain ⟨hl, h⟩ := h
    have hc0 : ¬ (decide (k < -(2 ^ 63)) || decide (k ≥ 2 ^ 63)) = true := by simp; omega
    have hc1 : ¬ (items.isEmpty || k == 1) = true := by rw [h3]; simp; omega
    have hc2 : ¬ (decide (k ≤ 0) || items.isEmpty) = true := by rw [h3]; simp; omega
    have hm : items.size * k.toNat ≤ 1000 * 1000 := Nat.mul_le_mul h4 (by omega)
    have hm' : (items.size : Int) * k ≤ 1000000 := by
      have e : ((items.size * k.toNat : Nat) : Int) = (items.size : Int) * k := by rw [Int.natCast_mul, Int.toNat_of_nonneg (by omega)]
      omega
    have hc3 : ¬ (items.size : Int) * k > (2 ^ 63 - 1) / 8 := by
      have : (1000000 : Int) ≤ (2 ^ 63 - 1) / 8 := by decide
      omega
    have hc4 : ¬ Builtin.Tuple.tupleTooMany ((items.size : Int) * k) = true := by
      unfold Builtin.Tuple.tupleTooMany
      have : sizeLine = 16777216 := by decide
      simp
      omega
    have ht : IsTup hp l items := ⟨_, hl, rfl, n, rfl⟩
    wp_walk
    rw [if_neg hc0]
    dsimp only
    refine wpAny_bind (tupleItemsOf_ ht ?_)
    rw [if_neg hc1, if_neg hc2, if_neg hc3, if_neg hc4]
    have fit : sizeOk (.seq (List.foldl (fun x1 x2 => x1 ++ x2) #[] (List.replicate k.toNat items))) := by
      show (List.foldl (fun x1 x2 => x1 ++ x2) #[] (List.replicate k.toNat items)).size ≤ sizeLine
      have q := foldl_rep items.toList k.toNat []
      rw [List.nil_append] at q
      have q' : List.foldl (fun x1 x2 => x1 ++ x2) #[] (List.replicate k.toNat items) = (List.replicate k.toNat items.toList).flatten.toArray := by simpa using q
      rw [q', List.size_toArray, len_rep]
      have : sizeLine = 16777216 := by decide
      rw [Array.length_toList, Nat.mul_comm]
      omega
    first
    | exact wpAny_bind (m := Builtin.Tuple.tupleExact _) (wpAny_newObj_type (wpAny_pure ⟨_, rfl, h⟩) fit)
    | exact wpAny_bind (m := Builtin.Tuple.tupleExact _) (wpAny_newObj_type (wpAny_bind (wpAny_pure (wpAny_pure ⟨_, rfl, h⟩))) fit)
theorem op_repT : OpR X (binaryOp .Mult) (fun x y H Q => ∃ a k xs, x = .ref a ∧ y = .int k ∧ SqT X.K H a xs ∧ 2 ≤ k ∧ k ≤ 1000 ∧ xs ≠ [] ∧ xs.length ≤ 1000 ∧ ∀ p, H p = none → Q (.ref p) (upd H p (.tup (List.replicate k.toNat xs).flatten))) := by
  intro pins s σ H x y v u Q I rx ry h
  obtain ⟨a, k, xs, rfl, rfl, hq, h1, h2, h3, h4, q⟩ := h
  cases rx
  obtain ⟨t, rfl⟩ := ry
  obtain ⟨its, r, p1, _⟩ := I.tuple hq
  have hl := r.length
  have hv : its ≠ [] := fun z => h3 (r.nil_iff.mp z)
  obtain ⟨⟨cls, dd, data, sl⟩, ho, hc, n, hd⟩ := id p1
  simp only at hc hd
  subst hc hd
  have hnew : List.foldl (fun x1 x2 => x1 ++ x2) #[] (List.replicate k.toNat its.toArray) = (List.replicate k.toNat its).flatten.toArray := by
    have q := foldl_rep its k.toNat []
    rw [List.nil_append] at q
    exact q
  have he : its.toArray.isEmpty = false := by
    cases its with
    | nil => exact absurd rfl hv
    | cons _ _ => simp
  refine wpAny_binaryOp_repeat_ref (T := "tuple") (U := "int") (by decide) ⟨_, ho, rfl⟩ (fun s' => typeIs_int s' k t) noFill_tuple_mul F.fills_int_mul F.slot_int_rmul repeat_tuple F.slot_int_index.lookup
    (call_meets F.slot_int_rmul (typeIs_int s k t) F.entry_int_rmul (F.args_int_rmul_2 _ _) (int_rmul_tuple k t a its.toArray n dd sl)
      ⟨ho, rfl, ⟨_, ho, rfl⟩, call_meets PySem.F.slot_tuple_mul ⟨_, ho, rfl⟩ PySem.F.entry_tuple_mul (PySem.F.args_tuple_mul_2 _ _) (tuple_mulW a its.toArray n dd sl k t h1 h2 he (by rw [List.size_toArray]; omega)) ⟨ho, ?_⟩⟩)
  rw [hnew]
  refine ⟨.ref s.heap.objs.size, _, I.laid (t' := s.toks) (o := .tup (List.replicate k.toNat xs).flatten) (fun b ob q => Heap.get?_push_of_some _ q) (Nat.le_refl _) ?_, rfl, q _ (I.hok.fresh (Nat.le_refl _))⟩
  refine ⟨?_, _, r.rep k.toNat, IsTup.new _ _⟩
  rw [len_rep]
  have : k.toNat * xs.length ≤ 1000 * 1000 := Nat.mul_le_mul (by omega) h4
  have : sizeLine = 16777216 := by decide
  omega
noncomputable def mulD : PyData → PyData → Option PyData
  | .int i, .int j => if (-(2 ^ 64) < i ∧ i < 2 ^ 64) ∨ (-(2 ^ 64) < j ∧ j < 2 ^ 64) then some (.int (i * j)) else none
  | .str z, .int k => if 1 ≤ k ∧ k ≤ 2000 ∧ z.length ≤ 1000 then some (.str (Txt.mul z k)) else none
  | .tuple xs, .int k => if 2 ≤ k ∧ k ≤ 1000 ∧ xs.isEmpty = false ∧ xs.length ≤ 1000 then some (.tuple (List.replicate k.toNat xs).flatten) else none
  | _, _ => none
theorem o_mul : OpD X (binaryOp .Mult) mulD := by
  refine ⟨_, op_mul.or (op_mulS.or op_repT), fun O ts H T v1 v2 x y d Q hc h1 h2 e q => ?_⟩
  unfold mulD at e
  split at e
  · split at e
    · rename_i hz
      cases e
      exact .inl ⟨_, _, h1.int, h2.int, hz, q _ H (.refl _ _) hc (.int _)⟩
    · cases e
  · split at e
    · rename_i hz
      cases e
      exact .inr (.inl ⟨_, _, h1.str, h2.int, hz.1, hz.2.1, hz.2.2, q _ H (.refl _ _) hc (.str _)⟩)
    · cases e
  · split at e
    · rename_i xs k hz
      cases e
      obtain ⟨a, vs, rfl, t1, r1⟩ := h1.tup
      exact .inr (.inr ⟨a, _, vs, rfl, h2.int, t1.sq, hz.1, hz.2.1, fun z => by subst z; cases r1; exact absurd hz.2.2.1 (by simp), by rw [r1.length]; exact hz.2.2.2, fun p hp => q _ _ (.new hp _) (hc.new hp _) (hc.newT hp (r1.rep _))⟩)
    · cases e
  · cases e
noncomputable def eqS : PyData → PyData → Option Bool
  | .int i, .int j => some (decide (i = j))
  | .str x, .str y => some (decide (x = y))
  | .bool a, .bool b => some (decide (a = b))
  | .none, .none => some true
  | .none, .int _ => some false | .int _, .none => some false | .none, .bool _ => some false | .bool _, .none => some false | .none, .str _ => some false | .str _, .none => some false
  | .int _, .str _ => some false | .str _, .int _ => some false | .bool _, .str _ => some false | .str _, .bool _ => some false
  | _, _ => none
theorem eqS_of {K : PySem.W.Frag} {O : Addr → Prop} {H : Hp} {v1 v2 : V} {x y : PyData} {b : Bool} (h1 : Vw K O H v1 x) (h2 : Vw K O H v2 y) (e : eqS x y = some b) : scal v1 v2 = true ∧ decide (v1 = v2) = b := by
  unfold eqS at e
  split at e
  all_goals first | (cases e; done) | skip
  · cases h1.int; cases h2.int; cases e; exact ⟨rfl, by simp⟩
  · cases h1.str; cases h2.str; cases e; exact ⟨rfl, by simp⟩
  · cases h1.bl; cases h2.bl; cases e; exact ⟨rfl, by simp⟩
  · cases h1.non; cases h2.non; cases e; exact ⟨rfl, by simp⟩
  · cases h1.non; cases h2.int; cases e; exact ⟨rfl, by simp⟩
  · cases h1.int; cases h2.non; cases e; exact ⟨rfl, by simp⟩
  · cases h1.non; cases h2.bl; cases e; exact ⟨rfl, by simp⟩
  · cases h1.bl; cases h2.non; cases e; exact ⟨rfl, by simp⟩
  · cases h1.non; cases h2.str; cases e; exact ⟨rfl, by simp⟩
  · cases h1.str; cases h2.non; cases e; exact ⟨rfl, by simp⟩
  · cases h1.int; cases h2.str; cases e; exact ⟨rfl, by simp⟩
  · cases h1.str; cases h2.int; cases e; exact ⟨rfl, by simp⟩
  · cases h1.bl; cases h2.str; cases e; exact ⟨rfl, by simp⟩
  · cases h1.str; cases h2.bl; cases e; exact ⟨rfl, by simp⟩
noncomputable def eqD (x y : PyData) : Option PyData := (eqS x y).map .bool
noncomputable def neD (x y : PyData) : Option PyData := (eqS x y).map fun b => .bool (!b)
theorem o_eq : OpD X (compareOp .Eq) eqD := ⟨_, op_eq, fun O ts H T v1 v2 x y d Q hc h1 h2 e q => by
  unfold eqD at e
  obtain ⟨b, e1, rfl⟩ := Option.map_eq_some_iff.mp e
  obtain ⟨k1, k2⟩ := eqS_of h1 h2 e1
  exact ⟨k1, by rw [k2]; exact q _ H (.refl _ _) hc (.bl _)⟩⟩
theorem o_ne : OpD X (compareOp .NotEq) neD := ⟨_, op_ne, fun O ts H T v1 v2 x y d Q hc h1 h2 e q => by
  unfold neD at e
  obtain ⟨b, e1, rfl⟩ := Option.map_eq_some_iff.mp e
  obtain ⟨k1, k2⟩ := eqS_of h1 h2 e1
  exact ⟨k1, by rw [k2]; exact q _ H (.refl _ _) hc (.bl _)⟩⟩
noncomputable def isNone : PyData → Bool
  | .none => true
  | _ => false
theorem isNone_of {K : PySem.W.Frag} {O : Addr → Prop} {H : Hp} {v : V} {x : PyData} (h : Vw K O H v x) : decide (v = .non) = isNone x := by
  cases h with
  | rep h => cases h <;> rfl
  | raw _ _ => rfl
  | rawD _ _ => rfl
noncomputable def isD : PyData → PyData → Option PyData
  | x, .none => some (.bool (isNone x))
  | _, _ => none
theorem o_is : OpD X (compareOp .Is) isD := ⟨_, op_isN, fun O ts H T v1 v2 x y d Q hc h1 h2 e q => by
  unfold isD at e
  split at e
  · cases e
    exact ⟨h2.non, by rw [isNone_of h1]; exact q _ H (.refl _ _) hc (.bl _)⟩
  · cases e⟩
noncomputable def isNotD : PyData → PyData → Option PyData
  | x, .none => some (.bool (!isNone x))
  | .bool a, .bool b => some (.bool (a != b))
  | _, _ => none
theorem o_isnot : OpD X (compareOp .IsNot) isNotD := ⟨_, op_notN.or op_isnotB, fun O ts H T v1 v2 x y d Q hc h1 h2 e q => by
  unfold isNotD at e
  split at e
  · cases e
    exact .inl ⟨h2.non, by rw [isNone_of h1]; exact q _ H (.refl _ _) hc (.bl _)⟩
  · cases e
    exact .inr ⟨_, _, h1.bl, h2.bl, q _ H (.refl _ _) hc (.bl _)⟩
  · cases e⟩
noncomputable def flatD : PyData → Bool
  | .none => true | .bool _ => true | .int _ => true | .str _ => true
  | _ => false
noncomputable def eqF : PyData → PyData → Bool
  | .none, .none => true
  | .bool a, .bool b => a == b
  | .bool a, .int b => (if a then 1 else 0) == b
  | .int a, .bool b => a == (if b then 1 else 0)
  | .int a, .int b => a == b
  | .str a, .str b => a == b
  | _, _ => false
noncomputable def hasS (y x : Str) : Bool := !(Builtin.Str.occurrences y x 0 y.length 1).isEmpty
noncomputable def inS : PyData → PyData → Option Bool
  | .str x, .str y => some (hasS y x)
  | x, .list ys => if flatD x && ys.all flatD then some (ys.any fun y => eqF y x) else none
  | x, .tuple ys => if flatD x && ys.all flatD then some (ys.any fun y => eqF y x) else none
  | _, _ => none
theorem flat_of {K : PySem.W.Frag} {O : Addr → Prop} {H : Hp} {v : V} {x : PyData} (h : Rep K O H v x) (e : flatD x = true) : flatV v = true := by
  cases h <;> first | rfl | cases e
theorem eqF_of {K : PySem.W.Frag} {O : Addr → Prop} {H : Hp} {v u : V} {x y : PyData} (h : Rep K O H v x) (g : Rep K O H u y) (ex : flatD x = true) (ey : flatD y = true) : eqV v u = eqF x y := by
  cases h <;> cases g <;> first | rfl | cases ex | cases ey
theorem flats_of {K : PySem.W.Frag} {O : Addr → Prop} {H : Hp} : ∀ {vs : List V} {xs : List PyData}, Reps K O H vs xs → xs.all flatD = true → vs.all flatV = true
  | _, _, .nil, _ => rfl
  | _, _, .cons r t, e => by
    rw [List.all_cons, Bool.and_eq_true] at e
    rw [List.all_cons, flat_of r e.1, flats_of t e.2]
    rfl
theorem anys_of {K : PySem.W.Frag} {O : Addr → Prop} {H : Hp} {v : V} {x : PyData} (h : Rep K O H v x) (ex : flatD x = true) : ∀ {vs : List V} {xs : List PyData}, Reps K O H vs xs → xs.all flatD = true → (vs.any fun y => eqV y v) = xs.any fun y => eqF y x
  | _, _, .nil, _ => rfl
  | _, _, .cons r t, e => by
    rw [List.all_cons, Bool.and_eq_true] at e
    rw [List.any_cons, List.any_cons, eqF_of r h e.1 ex, anys_of h ex t e.2]
theorem Vw.flat {K : PySem.W.Frag} {O : Addr → Prop} {H : Hp} {v : V} {x : PyData} (h : Vw K O H v x) (e : flatD x = true) : Rep K O H v x := by
  cases h with
  | rep h => exact h
  | raw _ _ => cases e
  | rawD _ _ => cases e
noncomputable def inD (x y : PyData) : Option PyData := (inS x y).map .bool
noncomputable def notInD (x y : PyData) : Option PyData := (inS x y).map fun b => .bool (!b)
theorem snd_in {K : PySem.W.Frag} (neg : Bool) : Snd2 K (fun x y H Q => (∃ i j, x = .str i ∧ y = .str j ∧ Q (.bl (if neg then !(hasS j i) else hasS j i)) H) ∨ rIn K neg x y H Q) (fun x y => (inS x y).map fun b => .bool (if neg then !b else b)) := fun O ts H T v1 v2 x y d Q hc h1 h2 e q => by
  obtain ⟨b, e1, rfl⟩ := Option.map_eq_some_iff.mp e
  unfold inS at e1
  split at e1
  · cases e1
    exact .inl ⟨_, _, h1.str, h2.str, q _ H (.refl _ _) hc (.bl _)⟩
  · split at e1
    · rename_i hf
      cases e1
      rw [Bool.and_eq_true] at hf
      obtain ⟨a, vs, rfl, t, r⟩ := h2.lst
      have r1 := h1.flat hf.1
      refine .inr ⟨a, vs, rfl, .inl t, flat_of r1 hf.1, flats_of r hf.2, ?_⟩
      have z : inV v1 vs = _ := anys_of r1 hf.1 r hf.2
      rw [z]
      exact q _ H (.refl _ _) hc (.bl _)
    · cases e1
  · split at e1
    · rename_i hf
      cases e1
      rw [Bool.and_eq_true] at hf
      obtain ⟨a, vs, rfl, t, r⟩ := h2.tup
      have r1 := h1.flat hf.1
      refine .inr ⟨a, vs, rfl, .inr t.sq, flat_of r1 hf.1, flats_of r hf.2, ?_⟩
      have z : inV v1 vs = _ := anys_of r1 hf.1 r hf.2
      rw [z]
      exact q _ H (.refl _ _) hc (.bl _)
    · cases e1
  · cases e1
theorem o_in : OpD X (compareOp .In) inD := ⟨_, op_in_str.or op_in_seq, snd_in false⟩
theorem o_notin : OpD X (compareOp .NotIn) notInD := ⟨_, op_notin_str.or op_notIn_seq, snd_in true⟩
noncomputable def negD : PyData → Option PyData
  | .int i => some (.int (-i))
  | _ => none
theorem de_neg {a : Expr} {fa : FE} {pos : Pos} (ha : DE X a fa) : DE X (.UnaryOp .USub a pos) (fUn negD fa) := de_un un_neg (fun O ts H T v x d Q hc h e q => by
  unfold negD at e
  split at e
  · cases e
    exact ⟨_, h.int, q _ H (.refl _ _) hc (.int _)⟩
  · cases e) ha
noncomputable def ixD : PyData → PyData → Option PyData
  | .list xs, .int i => atI xs i
  | .tuple xs, .int i => atI xs i
  | .str z, .int i => if z.length ≤ sizeLine then (atI z.cps.toList i).map fun c => .str ⟨#[c]⟩ else none
  | _, _ => none
theorem reps_at {K : PySem.W.Frag} {O : Addr → Prop} {H : Hp} {vs : List V} {xs : List PyData} {i : Int} {d : PyData} (r : Reps K O H vs xs) (e : atI xs i = some d) : ∃ v, atI vs i = some v ∧ Rep K O H v d := by
  unfold atI at e ⊢
  rw [r.length]
  cases h : ixN xs.length i with
  | none => rw [h] at e; cases e
  | some j =>
    rw [h] at e
    exact r.getD e
theorem x_seq : IxD X ixD := ⟨_, ix_seq, fun O ts H T v1 v2 x y d Q hc h1 h2 e q => by
  unfold ixD at e
  split at e
  · obtain ⟨a, vs, rfl, t, r⟩ := h1.lst
    obtain ⟨v, k1, k2⟩ := reps_at r e
    exact .inl ⟨a, vs, _, v, rfl, h2.int, t, k1, q _ H (.refl _ _) hc k2⟩
  · obtain ⟨a, vs, rfl, t, r⟩ := h1.tup
    obtain ⟨v, k1, k2⟩ := reps_at r e
    exact .inr (.inl ⟨a, vs, _, v, rfl, h2.int, t.sq, k1, q _ H (.refl _ _) hc k2⟩)
  · split at e
    · rename_i hz
      obtain ⟨c, k1, rfl⟩ := Option.map_eq_some_iff.mp e
      exact .inr (.inr ⟨_, _, c, h1.str, h2.int, hz, k1, q _ H (.refl _ _) hc (.str _)⟩)
    · cases e
  · cases e⟩
end
end D
namespace D
open PySem PySem.Spec PyProof.Rows L2
theorem getItem_tuple_whole {prog : Program} {w : World} {A : Around} {E : Value → Shared → Prop} {s : Shared} {t sl : Addr} {items : Array Value} {vl vu : Value} {lo hi : Option Int} {Q : Value → Shared → Prop} (ht : IsTup s.heap t items) (hs : s.heap.IsSliceOf sl vl vu .none) (pl : IsPart vl lo) (pu : IsPart vu hi)
    (hw : HT.sIx items.size 0 lo = 0 ∧ HT.sIx items.size items.size hi = items.size) (h : Q (.ref t) s) : wpAny (model prog w) A (getItem (.ref t) (.ref sl)) Q E s := by
  obtain ⟨os, hos, hcs, hds⟩ := id hs
  have hTs : s.TypeIs (.ref sl) "slice" := ⟨os, hos, hcs⟩
  unfold getItem
  try with_reducible refine wpAny_holding ?_
  first | refine wpAny_bind (wpAny_pure ?_) | skip
  refine wpAny_bind (wpAny_sequenceKey ht.typeIs (by decide) ?_)
  refine wpAny_bind (wpAny_callSpecial?_slot (name := Str.ofString "__getitem__") ht.typeIs PyProof.Rows.slot_tuple_getitem
    (wpAny_call_entry PyProof.Rows.slot_tuple_getitem ht.typeIs entry_tuple_getitem ?_ (args_tuple_getitem _ _)))
  show wpAny _ _ (Builtin.Tuple.tupleItemsOf (.ref t) >>= _) _ _ s
  refine wpAny_bind (tupleItemsOf_ ht ?_)
  refine wpAny_bind (wpAny_typeOf hTs ?_)
  rw [if_pos (by decide)]
  refine wpAny_bind (HT.sliceApplied_gen hs pl pu ?_)
  have hyes : ((((HT.sIx items.size 0 lo : Nat) : Int) == 0 && (1 : Int) == 1 && (HT.sIx items.size items.size hi - HT.sIx items.size 0 lo) == items.size) = true) := by
    rw [hw.1, hw.2]
    simp
  show wpAny _ _ (if (((HT.sIx items.size 0 lo : Nat) : Int) == 0 && (1 : Int) == 1 && (HT.sIx items.size items.size hi - HT.sIx items.size 0 lo) == items.size) = true then _ else _) _ _ s
  rw [if_pos hyes]
  refine wpAny_bind (m := Builtin.Tuple.tupleIsExact (.ref t)) (wpAny_bind (wpAny_typeOf ht.typeIs (wpAny_pure ?_)))
  first
  | exact wpAny_bind (wpAny_rule (wpAny_bind (wpAny_pure ⟨_, rfl, wpAny_pure h⟩)))
  | (simp only [beq_self_eq_true, if_true]; exact wpAny_bind (wpAny_rule (wpAny_pure ⟨_, rfl, wpAny_pure h⟩)))
noncomputable def cutL {α : Type} (xs : List α) (lo hi : Option Int) : List α := (xs.drop (HT.sIx xs.length 0 lo)).take (HT.sIx xs.length xs.length hi - HT.sIx xs.length 0 lo)
theorem Reps.cut {K : PySem.W.Frag} {O : Addr → Prop} {H : Hp} {vs : List V} {ds : List PyData} (r : Reps K O H vs ds) (lo hi : Option Int) : Reps K O H (cutV vs lo hi) (cutL ds lo hi) := by
  unfold cutV cutL
  rw [r.length]
  exact (r.drop _).take _
theorem cut_whole {α : Type} {xs : List α} {lo hi : Option Int} (h : HT.sIx xs.length 0 lo = 0 ∧ HT.sIx xs.length xs.length hi = xs.length) : cutL xs lo hi = xs := by
  unfold cutL
  rw [h.1, h.2]
  simp
section
variable {X : Cx}
theorem sl_tupA : SlR X (fun x lo hi H Q => ∃ a xs, x = .ref a ∧ SqT X.K H a xs ∧ ((HT.sIx xs.length 0 lo = 0 ∧ HT.sIx xs.length xs.length hi = xs.length) → Q (.ref a) H) ∧
    (¬ (HT.sIx xs.length 0 lo = 0 ∧ HT.sIx xs.length xs.length hi = xs.length) → ∀ p, H p = none → Q (.ref p) (upd H p (.tup (cutV xs lo hi))))) := by
  intro pins s σ H x v vl vu lo hi sl Q I rx hs pl pu h
  obtain ⟨a, xs, rfl, hx, q1, q2⟩ := h
  by_cases hw : HT.sIx xs.length 0 lo = 0 ∧ HT.sIx xs.length xs.length hi = xs.length
  · cases rx
    obtain ⟨its, r, ht, hz⟩ := I.tuple hx
    have hlen : its.toArray.size = xs.length := by rw [List.size_toArray]; exact r.length.symm
    refine ⟨"tuple", _, PyProof.Rows.slot_tuple_getitem.lookup, ht.typeIs, ?_⟩
    exact getItem_tuple_whole ht hs pl pu (by rw [hlen]; exact hw) ⟨.ref a, H, I, rfl, q1 hw⟩
  · exact sl_tup pins s σ H _ v vl vu lo hi sl Q I rx hs pl pu ⟨a, xs, rfl, hx, hw, q2 hw⟩
noncomputable def sliceD (x : PyData) (lo hi : Option Int) : Option PyData := match x with
  | .list xs => some (.list (cutL xs lo hi))
  | .tuple xs => some (.tuple (cutL xs lo hi))
  | .str z => if z.length ≤ sizeLine then some (.str (Txt.slice z lo hi)) else none
  | _ => none
noncomputable abbrev FO := Rho → Tp → Option (Option Int × Tp)
noncomputable def fNoP : FO := fun _ T => some (none, T)
noncomputable def fP (f : FE) : FO := fun ρ T => bnd (f ρ T) fun w T1 => match w with
  | .d (.int i) => some (some i, T1)
  | _ => none
inductive LiftOP (K : PySem.W.Frag) (f : FO) (σ : L2.St) (H : Hp) (Q : Option Int → Hp → Prop) : Prop where
  | mk (O : Addr → Prop) (ts : List Addr) (ρ : Rho) (T : Tp) (o : Option Int) (T' : Tp) (hc : HC K O ts H T) (re : RelE K O ts H σ ρ) (e : f ρ T = some (o, T')) (q : ∀ H', SameX ts H H' → HC K O ts H' T' → Q o H') : LiftOP K f σ H Q
noncomputable def liftO (K : PySem.W.Frag) (f : FO) : TO := fun σ H Q => LiftOP K f σ H Q
structure DO (X : Cx) (e : Option Expr) (f : FO) : Prop where
  pe : PO X e (liftO X.K f)
theorem po_imp {e : Option Expr} {t t' : TO} (h : PO X e t) (i : ∀ σ H Q, t' σ H Q → t σ H Q) : PO X e t' := fun pins s σ H Q I q => h pins s σ H Q I (i σ H Q q)
theorem dp_none : DO X none fNoP := by
  refine ⟨?_⟩
  refine po_imp po_none fun σ H Q => ?_
  rintro ⟨O, ts, ρ, T, o, T', hc, re, e, q⟩
  cases e
  exact q H (.refl _ _) hc
theorem dp_some {e : Expr} {f : FE} (h : DE X e f) : DO X (some e) (fP f) := by
  refine ⟨?_⟩
  refine po_imp (po_some h.pe) fun σ H Q => ?_
  rintro ⟨O, ts, ρ, T, o, T', hc, re, e, q⟩
  obtain ⟨w1, T1, e1, e⟩ := bnd_of e
  refine ⟨O, ts, ρ, T, w1, T1, hc, re, e1, fun v1 H1 s1 hc1 r1 => ?_⟩
  split at e
  · cases e
    cases (show Rep X.K O H1 v1 _ from r1)
    exact ⟨_, rfl, q H1 s1 hc1⟩
  · cases e
noncomputable def fSl (f : FE) (l u : FO) : FE := fun ρ T => bnd (f ρ T) fun w T1 => bnd (l ρ T1) fun lo T2 => bnd (u ρ T2) fun hi T3 => op1 (fun x => sliceD x lo hi) T3 w
theorem de_sl {e : Expr} {lo hi : Option Expr} {f : FE} {l u : FO} {pos p2 : Pos} (he : DE X e f) (hl : DO X lo l) (hu : DO X hi u) : DE X (.Subscript e (.Slice lo hi none p2) pos) (fSl f l u) := by
  refine ⟨?_⟩
  refine pe_imp (pe_slice (sl_list.or (sl_tupA.or sl_str)) he.pe hl.pe hu.pe) fun σ H Q => ?_
  rintro ⟨O, ts, ρ, T, w, T', hc, re, e, q⟩
  obtain ⟨w1, T1, e1, e⟩ := bnd_of e
  obtain ⟨o1, T2, e2, e⟩ := bnd_of e
  obtain ⟨o2, T3, e3, e⟩ := bnd_of e
  obtain ⟨x, d, h1, h3, rfl, rfl⟩ := op1_of e
  refine ⟨O, ts, ρ, T, w1, T1, hc, re, e1, fun v1 H1 s1 hc1 r1 => ?_⟩
  refine ⟨O, ts, ρ, T1, o1, T2, hc1, re.mono hc s1, e2, fun H2 s2 hc2 => ?_⟩
  refine ⟨O, ts, ρ, T2, o2, T', hc2, re.mono hc (s1.trans s2), e3, fun H3 s3 hc3 => ?_⟩
  have vw := hc3.view (r1.mono hc1 (s2.trans s3)) h1
  have q' : ∀ v H', SameX ts H3 H' → HC X.K O ts H' T' → Rep X.K O H' v d → Q v H' := fun v H' s c r => q v H' (s1.trans (s2.trans (s3.trans s))) c r
  clear q
  cases x with
  | list xs =>
    cases h3
    obtain ⟨a, vs, rfl, t, r⟩ := vw.lst
    exact .inl ⟨a, vs, rfl, t, fun p hp => q' _ _ (.new hp _) (hc3.new hp _) (hc3.newL hp (r.cut _ _))⟩
  | tuple xs =>
    cases h3
    obtain ⟨a, vs, rfl, t, r⟩ := vw.tup
    refine .inr (.inl ⟨a, vs, rfl, t.sq, fun hw => ?_, fun hw p hp => ?_⟩)
    · rw [r.length] at hw
      rw [cut_whole hw] at q'
      exact q' _ H3 (.refl _ _) hc3 vw.tupR
    · exact q' _ _ (.new hp _) (hc3.new hp _) (hc3.newT hp (r.cut _ _))
  | str z =>
    have h3' : (if z.length ≤ sizeLine then some (PyData.str (Txt.slice z o1 o2)) else none) = some d := h3
    split at h3'
    · rename_i hz
      cases h3'
      exact .inr (.inr ⟨z, vw.str, hz, q' _ H3 (.refl _ _) hc3 (.str _)⟩)
    · cases h3'
  | _ => cases h3
end
inductive Kd where
  | non | bl | int | str | tup | lst | dct
  deriving DecidableEq
noncomputable def Kd.name : Kd → String
  | .non => "NoneType" | .bl => "bool" | .int => "int" | .str => "str" | .tup => "tuple" | .lst => "list" | .dct => "dict"
noncomputable def kd : PyData → Kd
  | .none => .non | .bool _ => .bl | .int _ => .int | .str _ => .str | .list _ => .lst | .tuple _ => .tup | .dict _ => .dct
noncomputable def isiK (a b : Kd) : Bool := decide (a = b) || (decide (a = .bl) && decide (b = .int))
noncomputable def isiT (t c : String) : Option Bool := if (Value.type t == Value.type c) = true then some true else if PySem.W.kitMeta c = true then (fastBuiltinMro t).map (·.contains (.type c)) else none
theorem isi_all (a b : Kd) : b ≠ .non → isiT a.name b.name = some (isiK a b) := by
  cases a <;> cases b <;> first | (intro h; exact absurd rfl h) | (intro _; decide +kernel)
section
variable {X : Cx}
theorem call_isi : CallR X (.builtin "isinstance") (fun xs H Q => ∃ (x : V) (c : Kd) (O : Addr → Prop) (d : PyData), xs = [x, .ty c.name] ∧ Vw X.K O H x d ∧ c ≠ .non ∧ Q (.bl (isiK (kd d) c)) H) := by
  intro pins s σ H xs us Q I r h
  obtain ⟨x, c, O, d, rfl, vw, hc, q⟩ := h
  obtain ⟨u, w', rfl, ru, rw'⟩ := vals2 r
  cases (show w' = Value.type c.name from rw')
  have fin : ∀ tk, EP X pins σ Q (.bool (isiK (kd d) c)) { s with toks := tk } := fun tk => ⟨.bl _, H, I.tok _, rfl, q⟩
  cases d with
  | none => cases vw.non; exact isinst_ok I ru .non (show PySem.W.kitOne X.K (.type (Kd.name .non)) (.type c.name) = some _ from isi_all .non c hc) fin
  | bool b => cases vw.bl; exact isinst_ok I ru (.bl b) (show PySem.W.kitOne X.K (.type (Kd.name .bl)) (.type c.name) = some _ from isi_all .bl c hc) fin
  | int i => cases vw.int; exact isinst_ok I ru (.int i) (show PySem.W.kitOne X.K (.type (Kd.name .int)) (.type c.name) = some _ from isi_all .int c hc) fin
  | str z => cases vw.str; exact isinst_ok I ru (.str z) (show PySem.W.kitOne X.K (.type (Kd.name .str)) (.type c.name) = some _ from isi_all .str c hc) fin
  | list ds =>
    obtain ⟨a, vs, rfl, t, r⟩ := vw.lst
    cases (show u = Value.ref a from ru)
    obtain ⟨its, _, pl, _⟩ := I.list t
    obtain ⟨o, n, e, c1, _⟩ := pl
    exact PySem.W.kia_one PySem.W.kitx_list I.kIn ⟨o, e, c1⟩ (show PySem.W.kitOne X.K (.type (Kd.name .lst)) (.type c.name) = some _ from isi_all .lst c hc) (fun z => nomatch z) fin
  | tuple ds =>
    obtain ⟨a, vs, rfl, t, r⟩ := vw.tup
    cases (show u = Value.ref a from ru)
    obtain ⟨its, _, pl, _⟩ := I.tuple t.sq
    obtain ⟨o, e, c1, _⟩ := pl
    exact PySem.W.kia_one PySem.W.kitx_tuple I.kIn ⟨o, e, c1⟩ (show PySem.W.kitOne X.K (.type (Kd.name .tup)) (.type c.name) = some _ from isi_all .tup c hc) (fun z => nomatch z) fin
  | dict ds =>
    obtain ⟨a, vs, rfl, t, r⟩ := vw.dct
    exact isinst_ok I ru (.dK t) (show PySem.W.kitOne X.K (.type (Kd.name .dct)) (.type c.name) = some _ from isi_all .dct c hc) fin
noncomputable def isiD (c : Kd) (x : PyData) : Option PyData := some (.bool (isiK (kd x) c))
theorem de_isi {e : Expr} {f : FE} {p p' pos : Pos} {T : Str} (c : Kd) (hi : X.mg "isinstance" = none) (he : DE X e f) (hm : X.mg T = none) (hb : bootBuiltins T = some (.type c.name)) (hcn : c ≠ .non := by decide) (hg : Gl X "isinstance" := by rfl) (hT : Gl X T := by rfl) (hn : T ≠ "__name__" := by decide) (hdb : (T == ("__debug__" : Str)) = false := by decide)
    (hs : starEach [e, .Name T p] X.env = (false, eval e X.env) :: starEach [.Name T p] X.env := by exact star_cons rfl) (hs2 : starEach [.Name T p] X.env = (false, eval (.Name T p) X.env) :: starEach [] X.env := by exact star_cons rfl)
    (hpl : (backTo pos (starEach [.Name T p] X.env)).any (·.1) = false := by exact star_any rfl) : DE X (.Call (.Name "isinstance" p') [e, .Name T p] [] pos) (fUn (isiD c) f) := by
  refine ⟨?_⟩
  refine pe_imp (pe_callB call_isi hg hi PyProof.Rows.boot_isinstance (pa_cons he.pe (pa_cons (pe_bltn (v := .ty c.name) hT hm hb rfl hn hdb) pa_nil hs2) hs) (by decide) (by decide) hs hpl) fun σ H Q => ?_
  rintro ⟨O, ts, ρ, T, w, T', hc, re, e, q⟩
  obtain ⟨w1, T1, e1, e⟩ := bnd_of e
  obtain ⟨x, d, h1, h3, rfl, rfl⟩ := op1_of e
  cases h3
  refine ⟨O, ts, ρ, T, w1, T', hc, re, e1, fun v1 H1 s1 hc1 r1 => ?_⟩
  exact ⟨v1, c, O, x, rfl, hc1.view r1 h1, hcn, q _ H1 s1 hc1 (.bl _)⟩
noncomputable def lenD : List PyData → Option PyData
  | [.list xs] => some (.int xs.length)
  | [.tuple xs] => some (.int xs.length)
  | [.str z] => if z.length ≤ sizeLine then some (.int z.length) else none
  | [.dict kvs] => some (.int kvs.length)
  | _ => none
theorem vws1 {K : PySem.W.Frag} {O : Addr → Prop} {H : Hp} {vs : List V} {x : PyData} (h : Vws K O H vs [x]) : ∃ v, vs = [v] ∧ Vw K O H v x := by
  cases h with | cons h t => cases t; exact ⟨_, rfl, h⟩
theorem vws2 {K : PySem.W.Frag} {O : Addr → Prop} {H : Hp} {vs : List V} {x y : PyData} (h : Vws K O H vs [x, y]) : ∃ v u, vs = [v, u] ∧ Vw K O H v x ∧ Vw K O H u y := by
  cases h with | cons h t => cases t with | cons h' t => cases t; exact ⟨_, _, rfl, h, h'⟩
theorem repk_len {K : PySem.W.Frag} {O : Addr → Prop} {H : Hp} : ∀ {kvs : List (Key × V)} {ds : List (PyData × PyData)}, RepK K O H kvs ds → kvs.length = ds.length
  | _, _, .nil => rfl
  | _, _, .cons _ t => congrArg (· + 1) (repk_len t)
theorem call_lenD : CallR X (.builtin "len") (fun xs H Q => ∃ a kvs, xs = [V.ref a] ∧ H a = some (.dK kvs) ∧ Q (.int kvs.length) H) := by
  intro pins s σ H xs us Q I r h
  obtain ⟨a, kvs, rfl, ha, q⟩ := h
  obtain ⟨u, rfl, ru⟩ := vals1 r
  cases ru
  exact d_len I (.inl ha) fun t s' I' => ⟨.int kvs.length, H, I', ⟨t, rfl⟩, q⟩
theorem c_len : CallD X (.builtin "len") lenD := ⟨_, call_len_seq.or (call_len_str.or call_lenD), fun O ts H T vs xs d Q hc h e q => by
  unfold lenD at e
  split at e
  · cases e
    obtain ⟨v, rfl, g⟩ := vws1 h
    obtain ⟨a, vs, rfl, t, r⟩ := g.lst
    exact .inl ⟨a, vs, rfl, .inl t, by rw [r.length]; exact q _ H (.refl _ _) hc (.int _)⟩
  · cases e
    obtain ⟨v, rfl, g⟩ := vws1 h
    obtain ⟨a, vs, rfl, t, r⟩ := g.tup
    exact .inl ⟨a, vs, rfl, .inr t.sq, by rw [r.length]; exact q _ H (.refl _ _) hc (.int _)⟩
  · split at e
    · rename_i hz
      cases e
      obtain ⟨v, rfl, g⟩ := vws1 h
      cases g.str
      exact .inr (.inl ⟨_, rfl, hz, q _ H (.refl _ _) hc (.int _)⟩)
    · cases e
  · cases e
    obtain ⟨v, rfl, g⟩ := vws1 h
    obtain ⟨a, kvs, rfl, t, r⟩ := g.dct
    exact .inr (.inr ⟨a, kvs, rfl, t, by rw [repk_len r]; exact q _ H (.refl _ _) hc (.int _)⟩)
  · cases e⟩
noncomputable def absD : List PyData → Option PyData
  | [.int i] => some (.int (if i < 0 then -i else i))
  | _ => none
theorem c_abs : CallD X (.builtin "abs") absD := ⟨_, call_abs, fun O ts H T vs xs d Q hc h e q => by
  unfold absD at e
  split at e
  · cases e
    obtain ⟨v, rfl, g⟩ := vws1 h
    cases g.int
    exact ⟨_, rfl, q _ H (.refl _ _) hc (.int _)⟩
  · cases e⟩
noncomputable def maxD2 : List PyData → Option PyData
  | [.int i, .int j] => some (.int (if j > i then j else i))
  | _ => none
noncomputable def minD2 : List PyData → Option PyData
  | [.int i, .int j] => some (.int (if j < i then j else i))
  | _ => none
theorem c_min (hc : X.calm = true := by rfl) : CallD X (.builtin "min") minD2 := ⟨_, call_min2 hc, fun O ts H T vs xs d Q hc h e q => by
  unfold minD2 at e
  split at e
  · cases e
    obtain ⟨v, u, rfl, g, g'⟩ := vws2 h
    cases g.int
    cases g'.int
    exact ⟨_, _, rfl, q _ H (.refl _ _) hc (.int _)⟩
  · cases e⟩
noncomputable def boolsD : List PyData → Option (List Bool)
  | [] => some []
  | .bool b :: r => (boolsD r).map (b :: ·)
  | _ => none
noncomputable def intsD : List PyData → Option (List Int)
  | [] => some []
  | .int b :: r => (intsD r).map (b :: ·)
  | _ => none
noncomputable def strsD : List PyData → Option (List Str)
  | [] => some []
  | .str b :: r => (strsD r).map (b :: ·)
  | _ => none
theorem bools_of {K : PySem.W.Frag} {O : Addr → Prop} {H : Hp} : ∀ {vs : List V} {xs : List PyData} {bs : List Bool}, Reps K O H vs xs → boolsD xs = some bs → vs = bs.map V.bl
  | _, _, _, .nil, e => by cases e; rfl
  | _, x :: r, bs, .cons h t, e => by
    cases x with
    | bool b =>
      obtain ⟨cs, e1, rfl⟩ := Option.map_eq_some_iff.mp (show (boolsD r).map (b :: ·) = some bs from e)
      cases h
      rw [bools_of t e1]
      rfl
    | _ => cases e
theorem ints_of' {K : PySem.W.Frag} {O : Addr → Prop} {H : Hp} : ∀ {vs : List V} {xs : List PyData} {bs : List Int}, Reps K O H vs xs → intsD xs = some bs → vs = bs.map V.int
  | _, _, _, .nil, e => by cases e; rfl
  | _, x :: r, bs, .cons h t, e => by
    cases x with
    | int b =>
      obtain ⟨cs, e1, rfl⟩ := Option.map_eq_some_iff.mp (show (intsD r).map (b :: ·) = some bs from e)
      cases h
      rw [ints_of' t e1]
      rfl
    | _ => cases e
theorem strs_of {K : PySem.W.Frag} {O : Addr → Prop} {H : Hp} : ∀ {vs : List V} {xs : List PyData} {bs : List Str}, Reps K O H vs xs → strsD xs = some bs → vs = bs.map V.str
  | _, _, _, .nil, e => by cases e; rfl
  | _, x :: r, bs, .cons h t, e => by
    cases x with
    | str b =>
      obtain ⟨cs, e1, rfl⟩ := Option.map_eq_some_iff.mp (show (strsD r).map (b :: ·) = some bs from e)
      cases h
      rw [strs_of t e1]
      rfl
    | _ => cases e
noncomputable def allD : List PyData → Option PyData
  | [.list xs] => (boolsD xs).map fun bs => .bool (bs.all id)
  | _ => none
theorem c_all (hc : X.calm = true := by rfl) : CallD X (.builtin "all") allD := ⟨_, call_all hc, fun O ts H T vs xs d Q hc h e q => by
  unfold allD at e
  split at e
  · obtain ⟨bs, e1, rfl⟩ := Option.map_eq_some_iff.mp e
    obtain ⟨v, rfl, g⟩ := vws1 h
    obtain ⟨a, vs, rfl, t, r⟩ := g.lst
    rw [bools_of r e1] at t
    exact ⟨a, bs, rfl, t, q _ H (.refl _ _) hc (.bl _)⟩
  · cases e⟩
noncomputable def sumD : List PyData → Option PyData
  | [.list xs] => (intsD xs).map fun bs => .int bs.sum
  | _ => none
theorem c_sum (hc : X.calm = true := by rfl) : CallD X (.builtin "sum") sumD := ⟨_, call_sum hc, fun O ts H T vs xs d Q hc h e q => by
  unfold sumD at e
  split at e
  · obtain ⟨bs, e1, rfl⟩ := Option.map_eq_some_iff.mp e
    obtain ⟨v, rfl, g⟩ := vws1 h
    obtain ⟨a, vs, rfl, t, r⟩ := g.lst
    rw [ints_of' r e1] at t
    exact ⟨a, bs, rfl, t, q _ H (.refl _ _) hc (.int _)⟩
  · cases e⟩
noncomputable def maxdD : PyData → PyData → Option PyData
  | .list xs, .int d => (intsD xs).map fun bs => .int (K1.maxD d bs)
  | _, _ => none
noncomputable def strD : List PyData → Option PyData
  | [.int i] => if i.natAbs.log2 < 1920 then some (.str (toString i)) else none
  | _ => none
theorem c_str : CallD X (.type "str") strD := ⟨_, call_str_int, fun O ts H T vs xs d Q hc h e q => by
  unfold strD at e
  split at e
  · split at e
    · rename_i hz
      cases e
      obtain ⟨v, rfl, g⟩ := vws1 h
      cases g.int
      exact ⟨_, rfl, hz, q _ H (.refl _ _) hc (.str _)⟩
    · cases e
  · cases e⟩
noncomputable def tupleD : List PyData → Option PyData
  | [.list xs] => some (.tuple xs)
  | [.tuple xs] => some (.tuple xs)
  | _ => none
theorem c_tuple : CallD X (.type "tuple") tupleD := ⟨_, call_tuple_of, fun O ts H T vs xs d Q hc h e q => by
  unfold tupleD at e
  split at e
  · cases e
    obtain ⟨v, rfl, g⟩ := vws1 h
    obtain ⟨a, vs, rfl, t, r⟩ := g.lst
    exact ⟨a, vs, rfl, .inl ⟨t, fun p hp => q _ _ (.new hp _) (hc.new hp _) (hc.newT hp r)⟩⟩
  · cases e
    obtain ⟨v, rfl, g⟩ := vws1 h
    obtain ⟨a, vs, e1, t, r⟩ := g.tup
    subst e1
    exact ⟨a, vs, rfl, .inr ⟨t.sq, q _ H (.refl _ _) hc (.tup t r)⟩⟩
  · cases e⟩
noncomputable def listD : List PyData → Option PyData
  | [.list xs] => some (.list xs)
  | [.tuple xs] => some (.list xs)
  | _ => none
theorem c_list : CallD X (.type "list") listD := ⟨_, call_list_of, fun O ts H T vs xs d Q hc h e q => by
  unfold listD at e
  split at e
  · cases e
    obtain ⟨v, rfl, g⟩ := vws1 h
    obtain ⟨a, vs, rfl, t, r⟩ := g.lst
    exact ⟨a, vs, rfl, .inl t, fun p hp => q _ _ (.new hp _) (hc.new hp _) (hc.newL hp r)⟩
  · cases e
    obtain ⟨v, rfl, g⟩ := vws1 h
    obtain ⟨a, vs, rfl, t, r⟩ := g.tup
    exact ⟨a, vs, rfl, .inr t.sq, fun p hp => q _ _ (.new hp _) (hc.new hp _) (hc.newL hp r)⟩
  · cases e⟩
theorem mt_joinG : MtR X "str.join" (fun x vs H Q => ∃ (z : Str) (l : Addr) (ys : List Str), x = .str z ∧ vs = [.ref l] ∧ SqL X.K H l (ys.map V.str) ∧ (ys.map (·.length)).sum + ys.length * z.length ≤ 16777216 ∧ Q (.str (Str.join z ys)) H) := by
  intro pins s σ H x vs v us Q I rx rv h
  obtain ⟨z, l, ys, rfl, rfl, hq, hz, q⟩ := h
  obtain ⟨t, rfl⟩ := rx
  obtain ⟨u, rfl, ru⟩ := vals1 rv
  cases ru
  obtain ⟨its, rw', pl, _⟩ := I.list hq
  refine join_list (ys := ys) pl.isList (by simpa using strsAre_of rw') hz fun t' k => ⟨.str _, H, I.tok _, ⟨t', ?_⟩, q⟩
  show Value.str (Builtin.Str.glued z ys) t' = _
  rw [StrLaws.glued_eq_join]
noncomputable def joinD : PyData → PyData → Option PyData
  | .str z, .list xs => match strsD xs with
    | some ys => if (ys.map (·.length)).sum + ys.length * z.length ≤ 16777216 then some (.str (Str.join z ys)) else none
    | none => none
  | _, _ => none
theorem de_join {o e : Expr} {fo fe : FE} {apos cpos : Pos} (ho : DE X o fo) (he : DE X e fe)
    (hbase : attributeBase o "join" X.env (eval o X.env) = eval o X.env := by rfl)
    (hfew : ((backTo cpos (starEach [e] X.env)).all (fun x => !x.1) && (backToKw cpos (keywordEach [] X.env)).all (fun x => x.1.isSome)
      && decide (([e] : List Expr).length + ([] : List Keyword).length + (if ([] : List Keyword).isEmpty then 0 else 1) < 30)) = true := by exact few1 rfl)
    (hline : (apos.endLine == cpos.line) = true := by rfl) (hse : starEach [e] X.env = (false, eval e X.env) :: starEach [] X.env := by exact star_cons rfl) (hplain : (backTo cpos (starEach [] X.env)).any (·.1) = false := by exact star_any rfl) :
    DE X (.Call (.Attribute o "join" apos) [e] [] cpos) (fBin joinD fo fe) := by
  refine ⟨?_⟩
  refine pe_imp (pe_bm PySem.F.plainAttrs_str PySem.F.slot_str_join PySem.F.type_str_join mt_joinG ho.pe (pa_cons he.pe pa_nil hse) hbase hfew hline hse hplain) fun σ H Q => ?_
  rintro ⟨O, ts, ρ, T, w, T', hc, re, e, q⟩
  obtain ⟨w1, T1, e1, e⟩ := bnd_of e
  obtain ⟨w2, T2, e2, e⟩ := bnd_of e
  obtain ⟨x, y, d, h1, h2, h3, rfl, rfl⟩ := op2_of e
  unfold joinD at h3
  split at h3
  · rename_i z xs
    split at h3
    · rename_i ys hy
      split at h3
      · rename_i hz
        cases h3
        refine ⟨O, ts, ρ, T, w1, T1, hc, re, e1, fun v1 H1 s1 hc1 r1 => ?_⟩
        have ev : v1 = .str z := by
          cases w1 with
          | d x => cases h1; cases (show Rep X.K O H1 v1 _ from r1); rfl
          | tp k => exact (by
              have h1' : (T'[k]?).bind rowV = some (PyData.str z) := h1
              cases hk : T'[k]? with
              | none => rw [hk] at h1'; cases h1'
              | some xs =>
                rw [hk] at h1'
                have e2 : (if isO xs = true then none else some (PyData.list xs)) = some (PyData.str z) := h1'
                split at e2 <;> cases e2)
          | loc zs => cases zs <;> cases h1
        subst ev
        refine ⟨rfl, O, ts, ρ, T1, w2, T', hc1, re.mono hc s1, e2, fun v2 H2 s2 hc2 r2 => ?_⟩
        obtain ⟨a, vs, rfl, t, r⟩ := (hc2.view r2 h2).lst
        rw [strs_of r hy] at t
        exact ⟨z, a, ys, rfl, rfl, t, hz, q _ H2 (s1.trans s2) hc2 (.str _)⟩
      · cases h3
    · cases h3
  · cases h3
end
end D
namespace D
open PySem PySem.Spec PyProof.Rows L2
mutual
noncomputable def noLst : PyData → Bool
  | .list _ => false
  | .tuple ds => noLsts ds
  | .dict kvs => noLstK kvs
  | .none | .bool _ | .int _ | .str _ => true
noncomputable def noLsts : List PyData → Bool
  | [] => true
  | d :: r => noLst d && noLsts r
noncomputable def noLstK : List (PyData × PyData) → Bool
  | [] => true
  | (_, v) :: r => noLst v && noLstK r
end
section
variable {X : Cx} {pins : List (Addr × Obj)} {σ : L2.St} {H : Hp} {s : Shared} {O : Addr → Prop}
theorem key_reads {h : Heap} {k : Key} {v : Value} (e : keyIs k v = true) : Reads h v (keyD k) [] := by
  rcases keyIs_shape e with ⟨i, t, rfl, rfl⟩ | ⟨x, t, rfl, rfl⟩
  · exact .int i t
  · exact .str x t
mutual
theorem Rep.reads (I : Inv X pins σ H s) : ∀ {v : V} {d : PyData} {u : Value}, Rep X.K O H v d → RelV v u → ∃ as, Reads s.heap u d as ∧ (noLst d = true → sysModules ∉ as)
  | _, _, _, .non, r => by cases r; exact ⟨_, .none, fun _ => by simp⟩
  | _, _, _, .bl b, r => by cases r; exact ⟨_, .bool b, fun _ => by simp⟩
  | _, _, _, .int i, r => by obtain ⟨t, rfl⟩ := r; exact ⟨_, .int i t, fun _ => by simp⟩
  | _, _, _, .str x, r => by obtain ⟨t, rfl⟩ := r; exact ⟨_, .str x t, fun _ => by simp⟩
  | _, _, _, .tup (a := a) (vs := vs) h rs, r => by
    cases r
    obtain ⟨its, rv, ⟨o, e, c, n, dd⟩, _⟩ := I.tuple h.sq
    obtain ⟨as, q, f⟩ := Reps.reads I rs rv
    exact ⟨as, .tuple e c dd (by simpa using q), f⟩
  | _, _, _, .lst (a := a) (vs := vs) h rs, r => by
    cases r
    obtain ⟨its, rv, pl, _⟩ := I.list h.sq
    obtain ⟨o, n, e, c, _, dd⟩ := pl
    obtain ⟨as, q, f⟩ := Reps.reads I rs rv
    exact ⟨_, .list e c dd (by simpa using q), fun z => by cases z⟩
  | _, _, _, .dct (a := a) (kvs := kvs) (ds := ds) _ h rk, r => by
    cases r
    obtain ⟨z, y, vs, kv, o, es, ep, e, ed, dd, _, ek, _⟩ := (show ObjOk X.prog X.w H s.heap a (.dK kvs) from I.hok a _ h)
    obtain ⟨bs, q1, q2, f⟩ := RepK.reads I rk kv ek
    refine ⟨_, .dict (kvs := ds) (as := []) (bs := bs) e ed.1 dd q1 q2, fun zz hm => ?_⟩
    rcases List.mem_cons.mp (by simpa using hm : sysModules ∈ a :: bs) with q | q
    · rw [q] at y
      simp at y
    · exact f zz q
theorem Reps.reads (I : Inv X pins σ H s) : ∀ {vs : List V} {ds : List PyData} {us : List Value}, Reps X.K O H vs ds → Vals vs us → ∃ as, ReadsAll s.heap us ds as ∧ (noLsts ds = true → sysModules ∉ as)
  | _, _, _, .nil, r => by cases r; exact ⟨_, .nil, fun _ => by simp⟩
  | _, _, _, .cons (d := d) (ds := ds) q t, r => by
    cases r with
    | cons r1 r2 =>
      obtain ⟨as, h1, f1⟩ := Rep.reads I q r1
      obtain ⟨bs, h2, f2⟩ := Reps.reads I t r2
      refine ⟨as ++ bs, .cons h1 h2, fun z => ?_⟩
      have z' : (noLst d && noLsts ds) = true := z
      rw [Bool.and_eq_true] at z'
      intro hm
      rcases List.mem_append.mp hm with hm | hm
      · exact f1 z'.1 hm
      · exact f2 z'.2 hm
theorem RepK.reads (I : Inv X pins σ H s) : ∀ {kvs : List (Key × V)} {ds : List (PyData × PyData)} {vs : List (Key × Value)} {es : List DictEntry}, RepK X.K O H kvs ds → KV kvs vs → Pairs (mixKind X.prog X.w) es vs →
    ∃ bs, ReadsAll s.heap (es.map (·.key)) (ds.map (·.1)) [] ∧ ReadsAll s.heap (es.map (·.val)) (ds.map (·.2)) bs ∧ (noLstK ds = true → sysModules ∉ bs)
  | _, _, _, _, .nil, r, ek => by
    cases r
    cases ek
    exact ⟨[], .nil, .nil, fun _ => by simp⟩
  | _, _, _, _, .cons (k := k) (d := d) (ds := ds) q t, r, ek => by
    cases r with
    | cons r1 r2 =>
      cases ek with
      | cons e1 e1' e2 =>
        obtain ⟨as, h1, f1⟩ := Rep.reads I q r1.2
        obtain ⟨bs, h2, h3, f2⟩ := RepK.reads I t r2 e2
        rw [← e1'] at h1
        have k1 := key_reads (h := s.heap) (show keyIs _ _ = true from e1)
        rw [← r1.1] at k1
        refine ⟨as ++ bs, .cons (as := []) (bs := []) k1 h2, .cons h1 h3, fun z => ?_⟩
        have z' : (noLst d && noLstK ds) = true := z
        rw [Bool.and_eq_true] at z'
        intro hm
        rcases List.mem_append.mp hm with hm | hm
        · exact f1 z'.1 hm
        · exact f2 z'.2 hm
end
end
noncomputable def goodB (d : PyData) : Bool := d.showable && d.leavesShort 200 && decide (d.depth ≤ 60) && decide (d.weight ≤ 60000) && (!d.hasDict || noLst d)
section
variable {X : Cx}
noncomputable def reprW (T : Tp) (w : W) : Option (W × Tp) := match w with
  | .d x => if goodB x = true then some (.d (.str x.shown), T) else none
  | _ => none
noncomputable def fRepr (f : FE) : FE := fun ρ T => bnd (f ρ T) fun w T1 => reprW T1 w
end
end D
namespace D
open PySem PySem.Spec PyProof.Rows L2
structure Df (K : PySem.W.Frag) (name : Str) (st : Stmt) : Prop where
  ex : ∃ (f : Addr) (oc : Value) (od an : Option Addr) (sl : Array (Option Value)) (kV dc pm cd ct : Value), PySem.W.nsIn K mainGlobals name = some (some (.ref f)) ∧
    K.lookup f = some ⟨oc, od, .func (PySem.W.fnOf name name (defArgs st) (defBody st) (defScope st) .none kV dc pm an cd ct), sl⟩ ∧ PySem.W.codeIn K cd name = true ∧ PySem.W.keepIn K (.ref f) = true
theorem df_mk {K : PySem.W.Frag} {name : Str} {st : Stmt} {f : Addr} {oc : Value} {od an : Option Addr} {sl : Array (Option Value)} {kV dc pm cd ct : Value} (a : PySem.W.nsIn K mainGlobals name = some (some (.ref f)))
    (l : K.lookup f = some ⟨oc, od, .func (PySem.W.fnOf name name (defArgs st) (defBody st) (defScope st) .none kV dc pm an cd ct), sl⟩) (c : PySem.W.codeIn K cd name = true) (k : PySem.W.keepIn K (.ref f) = true) : Df K name st :=
  ⟨f, oc, od, an, sl, kV, dc, pm, cd, ct, a, l, c, k⟩
theorem Df.fn {P : Program} {w : World} {K : PySem.W.Frag} {mg : Str → Option Value} {base h : Heap} {name : Str} {st : Stmt} {ps : List Str} {k : Nat} {sp : Sp} (d : Df K name st) (X : K.In h) (G : h.Ns mainGlobals mg)
    (hb : ∀ (kV doc pm : Value) (an : Option Addr) (cdv ct : Value) (us : List Value), us.length = ps.length → bindArgs (PySem.W.fnOf name name (defArgs st) (defBody st) (defScope st) .none kV doc pm an cdv ct) ⟨us, []⟩ = pure (ps.zip us))
    (ok : ∀ f fd, Fun K name name st f fd → FnOk P w K mg base CX0 k f fd ps sp) : Fn P w K mg base name ps k sp := by
  obtain ⟨f, oc, od, an, sl, kV, dc, pm, cd, ct, a, l, c, kp⟩ := d.ex
  have F := fun_mk (st := st) l c kp
  exact ⟨f, _, ok f _ F, F.binds hb, kp, PySem.W.mg_of X G a⟩
theorem fn_none {P : Program} {w : World} {K : PySem.W.Frag} {mg : Str → Option Value} {base : Heap} {k n : Nat} {f : Addr} {fd : FuncData} {ps : List Str} : FnOk P w K mg base CX0 k f fd ps (spM K n fun _ _ => none) := by
  have no : ∀ vs H Q E, ¬ spM K n (fun _ _ => none) vs H Q E := fun vs H Q E h => by
    obtain ⟨O, ts, T, ws, x, T', _, _, _, e, _⟩ := h
    cases e
  exact ⟨fun vs H Q E h => absurd h (no vs H Q E), fun A outer s H args us vs Q E _ _ _ _ h => absurd h (no vs H Q E)⟩
noncomputable def spTape (K : PySem.W.Frag) : Sp := fun vs H Q _ => ∃ s, vs = [.ref s] ∧ ∀ p, H p = none → Q (.ref p) (upd H p (.lst [.ref s, .int 0, .int 0]))
noncomputable def spLaw (K : PySem.W.Frag) : Sp := fun vs H Q _ => ∃ (a : Addr) (ns : List Int), vs = [.ref a] ∧ SqL K H a (ns.map V.int) ∧ ns.length ≤ 63 ∧ ∀ H', Q (.bl true) H'
noncomputable def script (ns : List Int) : PyData := .list (ns.map .int)
theorem reps_ints {K : PySem.W.Frag} {O : Addr → Prop} {H : Hp} : ∀ ns : List Int, Reps K O H (ns.map V.int) (ns.map PyData.int)
  | [] => .nil
  | _ :: r => .cons (.int _) (reps_ints r)
theorem law_start {K : PySem.W.Frag} {H : Hp} {vs : List V} {Q : VK} {E : XK} {nx : L2.St → Hp → Prop} {N : List Str} {fl : FS} (h : spLaw K vs H Q E) (h2 : 2 ≤ N.length)
    (hm : ∀ ns : List Int, ns.length ≤ 63 → ∃ ρ' T', fl (some (.d (script ns)) :: some (.tp 0) :: List.replicate (N.length - 2) none) [[script ns, .int 0, .int 0]] = some ((.rt (.bool true), ρ'), T')) :
    tSeq (tAsg (tCall (spTape K) [] E0 (tCons (tVar 0) tNil)) (gName 1)) (liftS K fl) { nx := nx, rt := Q } (L2.start N vs) H := by
  obtain ⟨a, ns, rfl, hS, hl, q⟩ := h
  obtain ⟨ρ', T', e⟩ := hm ns hl
  have es : (L2.start N [V.ref a]) = some (.ref a) :: none :: List.replicate (N.length - 2) none := by
    unfold L2.start
    have : N.length - [V.ref a].length = (N.length - 2) + 1 := by simp; omega
    rw [this, List.replicate_succ]
    rfl
  rw [es]
  refine ⟨.ref a, rfl, a, rfl, fun p hp => ?_⟩
  have np : ∀ {o : HO}, H a = some o → a ≠ p := fun e => ne_of_none e hp
  have ra : LstAt K (fun b => b = p) (upd H p (.lst [.ref a, .int 0, .int 0])) a (ns.map V.int) := by
    rcases hS with (h | ⟨o, h⟩) | h
    · exact .inl ⟨np h, .inl (by rw [upd_ne (np h)]; exact h)⟩
    · exact .inl ⟨np h, .inr ⟨o, by rw [upd_ne (np h)]; exact h⟩⟩
    · exact .inr (.inr h)
  have rs : Rep K (fun b => b = p) (upd H p (.lst [.ref a, .int 0, .int 0])) (.ref a) (script ns) := .lst ra (reps_ints ns)
  refine ⟨fun b => b = p, upd H p (.lst [.ref a, .int 0, .int 0]), [], [p], fun b => b = p, _, [[script ns, .int 0, .int 0]], _, ρ', T',
    ⟨⟨fun b hb => by simpa using hb, fun b hb => ?_, by simp, rfl, fun i c xs e1 e2 => ?_⟩, fun i w e => ?_, fun _ h => h, fun b hb => by simpa using hb, .refl _ _, fun i xs c e1 _ => ?_, fun i j xs ys v e1 _ _ _ => ?_, fun f hf => absurd hf (by simp), by simp⟩, e, fun v H' _ _ r => ?_⟩
  · rw [hb, upd_same]; exact .inl ⟨_, rfl⟩
  · cases i with
    | zero =>
      cases e1
      cases e2
      exact .inl ⟨rfl, _, upd_same, .cons rs (.cons (.int 0) (.cons (.int 0) .nil))⟩
    | succ i => simp at e1
  · match i, e with
    | 0, e => cases e; exact ⟨.ref a, rfl, rs⟩
    | 1, e => cases e; exact ⟨.ref p, rfl, p, rfl, rfl⟩
    | i + 2, e =>
      have e' : (List.replicate (N.length - 2) none)[i]? = some (some w) := by simpa using e
      have := List.mem_of_getElem? e'
      rw [List.mem_replicate] at this
      cases this.2
  · match i, e1 with
    | 0, e1 => cases e1
    | 1, e1 => cases e1
    | i + 2, e1 =>
      have e' : (List.replicate (N.length - 2) none)[i]? = some (some (W.loc xs)) := by simpa using e1
      have := List.mem_of_getElem? e'
      rw [List.mem_replicate] at this
      cases this.2
  · match i, e1 with
    | 0, e1 => cases e1
    | 1, e1 => cases e1
    | i + 2, e1 =>
      have e' : (List.replicate (N.length - 2) none)[i]? = some (some (W.loc xs)) := by simpa using e1
      have := List.mem_of_getElem? e'
      rw [List.mem_replicate] at this
      cases this.2
  · cases r
    exact q H'
end D
namespace D
open PySem PySem.Spec PyProof.Rows L2
section
variable {α β : Type} {ρ : Rho} {T : Tp} {f g : FE} {c c' : FT} {s s' : FS} {a : FA} {w w' : W} {x y : PyData}
@[simp] theorem ev_bnd {b : α} {k : α → Tp → Option β} : bnd (some (b, T)) k = k b T := rfl
@[simp] theorem ev_bndN {k : α → Tp → Option β} : bnd none k = none := rfl
@[simp] theorem ev_bndI {p : Prop} [Decidable p] {u v : Option (α × Tp)} {k : α → Tp → Option β} : bnd (if p then u else v) k = if p then bnd u k else bnd v k := by split <;> rfl
@[simp] theorem ev_mk {N : Nat} {ws : List W} : mkFn N s ws T = if noLoc ws = true then fnEnd (s (ws.map some ++ List.replicate (N - ws.length) none) T) else none := rfl
@[simp] theorem ev_noLoc0 : noLoc [] = true := rfl
@[simp] theorem ev_noLocD {r : List W} : noLoc (.d x :: r) = noLoc r := rfl
@[simp] theorem ev_noLocT {i : Nat} {r : List W} : noLoc (.tp i :: r) = noLoc r := rfl
@[simp] theorem ev_endR {r : Rho} : fnEnd (some ((.rt x, r), T)) = some (x, T) := rfl
@[simp] theorem ev_endN {r : Rho} : fnEnd (some ((.nx, r), T)) = some (.none, T) := rfl
@[simp] theorem ev_endI {p : Prop} [Decidable p] {u v : Option ((Fl × Rho) × Tp)} : fnEnd (if p then u else v) = if p then fnEnd u else fnEnd v := by split <;> rfl
noncomputable def seqK (s' : FS) (p : Fl × Rho) (T : Tp) : Option ((Fl × Rho) × Tp) := match p with
  | (.nx, ρ1) => s' ρ1 T
  | (fl, ρ1) => some ((fl, ρ1), T)
@[simp] theorem ev_seq : fSeq s s' ρ T = bnd (s ρ T) (seqK s') := rfl
@[simp] theorem ev_seqN {ρ1 : Rho} : seqK s' (.nx, ρ1) T = s' ρ1 T := rfl
@[simp] theorem ev_seqR {ρ1 : Rho} : seqK s' (.rt x, ρ1) T = some ((.rt x, ρ1), T) := rfl
@[simp] theorem ev_seqB {ρ1 : Rho} : seqK s' (.bk, ρ1) T = some ((.bk, ρ1), T) := rfl
@[simp] theorem ev_seqC {ρ1 : Rho} : seqK s' (.ct, ρ1) T = some ((.ct, ρ1), T) := rfl
@[simp] theorem ev_next : fNext ρ T = some ((.nx, ρ), T) := rfl
noncomputable def ifK (s s' : FS) (ρ : Rho) (b : Bool) (T1 : Tp) : Option ((Fl × Rho) × Tp) := if b = true then s ρ T1 else s' ρ T1
@[simp] theorem ev_if : fIf c s s' ρ T = bnd (c ρ T) (ifK s s' ρ) := rfl
@[simp] theorem ev_ifK {b : Bool} : ifK s s' ρ b T = if b = true then s ρ T else s' ρ T := rfl
noncomputable def retK (ρ : Rho) : W → Tp → Option ((Fl × Rho) × Tp) := fun w T1 => match w with
  | .d x => some ((.rt x, ρ), T1)
  | _ => none
@[simp] theorem ev_ret : fRet f ρ T = bnd (f (frzR ρ) T) (retK ρ) := rfl
@[simp] theorem ev_retD : retK ρ (.d x) T = some ((.rt x, ρ), T) := rfl
@[simp] theorem ev_frz0 : frzR [] = [] := rfl
@[simp] theorem ev_frzN {r : Rho} : frzR (none :: r) = none :: frzR r := rfl
@[simp] theorem ev_frzD {r : Rho} : frzR (some (.d x) :: r) = some (.d x) :: frzR r := rfl
@[simp] theorem ev_frzT {i : Nat} {r : Rho} : frzR (some (.tp i) :: r) = some (.tp i) :: frzR r := rfl
@[simp] theorem ev_frzL {x : PyData} {r : Rho} : frzR (some (.loc x) :: r) = some (.d x) :: frzR r := rfl
noncomputable def setK (i : Nat) (ρ : Rho) : W → Tp → Option ((Fl × Rho) × Tp) := fun w T1 => match w with
  | .d x => some ((.nx, ρ.set i (some (.d x))), T1)
  | .tp k => some ((.nx, ρ.set i (some (.tp k))), T1)
  | .loc _ => none
@[simp] theorem ev_set {i : Nat} : fSet i f ρ T = bnd (f ρ T) (setK i ρ) := rfl
@[simp] theorem ev_setD {i : Nat} : setK i ρ (.d x) T = some ((.nx, ρ.set i (some (.d x))), T) := rfl
@[simp] theorem ev_setT {i k : Nat} : setK i ρ (.tp k) T = some ((.nx, ρ.set i (some (.tp k))), T) := rfl
noncomputable def setLK (i : Nat) (ρ : Rho) (T : Tp) : Option (List PyData) → Option ((Fl × Rho) × Tp)
  | some xs => if xs.length ≤ 1000 then some ((.nx, ρ.set i (some (.loc (.list xs)))), T) else none
  | none => none
@[simp] theorem ev_setL {i : Nat} : fSetL i a ρ T = bnd (a ρ T) fun ws T1 => setLK i ρ T1 (datas ws) := rfl
@[simp] theorem ev_setLK {i : Nat} {xs : List PyData} : setLK i ρ T (some xs) = if xs.length ≤ 1000 then some ((.nx, ρ.set i (some (.loc (.list xs)))), T) else none := rfl
noncomputable def appK (i : Nat) (ρ : Rho) (x : PyData) (T : Tp) (o : Option (Option W)) : Option ((Fl × Rho) × Tp) := match o with
  | some (some (.loc (.list xs))) => if xs.length < sizeLine then some ((.nx, ρ.set i (some (.loc (.list (xs ++ [x]))))), T) else none
  | _ => none
noncomputable def appW (i : Nat) (ρ : Rho) : W → Tp → Option ((Fl × Rho) × Tp) := fun w T1 => match w with
  | .d x => (match ρ[i]? with
    | some (some (.loc (.list xs))) => if xs.length < sizeLine then some ((.nx, ρ.set i (some (.loc (.list (xs ++ [x]))))), T1) else none
    | _ => none)
  | _ => none
@[simp] theorem ev_app {i : Nat} : fApp i f ρ T = bnd (f ρ T) (appW i ρ) := rfl
@[simp] theorem ev_appW {i : Nat} : appW i ρ (.d x) T = appK i ρ x T ρ[i]? := rfl
@[simp] theorem ev_appK {i : Nat} {xs : List PyData} : appK i ρ x T (some (some (.loc (.list xs)))) = if xs.length < sizeLine then some ((.nx, ρ.set i (some (.loc (.list (xs ++ [x]))))), T) else none := rfl
@[simp] theorem ev_sl {l u : FO} : fSl f l u ρ T = bnd (f ρ T) fun w T1 => bnd (l ρ T1) fun lo T2 => bnd (u ρ T2) fun hi T3 => op1 (fun x => sliceD x lo hi) T3 w := rfl
@[simp] theorem ev_noP : fNoP ρ T = some (none, T) := rfl
noncomputable def pK : W → Tp → Option (Option Int × Tp) := fun w T1 => match w with
  | .d (.int i) => some (some i, T1)
  | _ => none
@[simp] theorem ev_P : fP f ρ T = bnd (f ρ T) pK := rfl
@[simp] theorem ev_pK {i : Int} : pK (.d (.int i)) T = some (some i, T) := rfl
@[simp] theorem ev_slS {z : Str} {lo hi : Option Int} : sliceD (.str z) lo hi = if z.length ≤ sizeLine then some (.str (Txt.slice z lo hi)) else none := rfl
@[simp] theorem ev_slT {xs : List PyData} {lo hi : Option Int} : sliceD (.tuple xs) lo hi = some (.tuple (cutL xs lo hi)) := rfl
@[simp] theorem ev_slL {xs : List PyData} {lo hi : Option Int} : sliceD (.list xs) lo hi = some (.list (cutL xs lo hi)) := rfl
@[simp] theorem ev_drop : fDrop f ρ T = bnd (f ρ T) fun _ T1 => some ((.nx, ρ), T1) := rfl
@[simp] theorem ev_var0 {o : W} {r : Rho} : fVar 0 (some o :: r) T = some (o, T) := rfl
@[simp] theorem ev_varS {i : Nat} {o : Option W} {r : Rho} : fVar (i + 1) (o :: r) T = fVar i r T := rfl
@[simp] theorem ev_var1 {o : Option W} {r : Rho} : fVar 1 (o :: r) T = fVar 0 r T := ev_varS
@[simp] theorem ev_var2 {o : Option W} {r : Rho} : fVar 2 (o :: r) T = fVar 1 r T := ev_varS
@[simp] theorem ev_var3 {o : Option W} {r : Rho} : fVar 3 (o :: r) T = fVar 2 r T := ev_varS
@[simp] theorem ev_var4 {o : Option W} {r : Rho} : fVar 4 (o :: r) T = fVar 3 r T := ev_varS
@[simp] theorem ev_var5 {o : Option W} {r : Rho} : fVar 5 (o :: r) T = fVar 4 r T := ev_varS
@[simp] theorem ev_var6 {o : Option W} {r : Rho} : fVar 6 (o :: r) T = fVar 5 r T := ev_varS
@[simp] theorem ev_var7 {o : Option W} {r : Rho} : fVar 7 (o :: r) T = fVar 6 r T := ev_varS
@[simp] theorem ev_var8 {o : Option W} {r : Rho} : fVar 8 (o :: r) T = fVar 7 r T := ev_varS
@[simp] theorem ev_var9 {o : Option W} {r : Rho} : fVar 9 (o :: r) T = fVar 8 r T := ev_varS
@[simp] theorem ev_C : fC x ρ T = some (.d x, T) := rfl
@[simp] theorem ev_view : view T (.d x) = some x := rfl
@[simp] theorem ev_viewT {i : Nat} : view T (.tp i) = (T[i]?).bind rowV := rfl
@[simp] theorem ev_rowV {xs : List PyData} : rowV xs = if isO xs = true then none else some (.list xs) := rfl
@[simp] theorem isO_lst {xs r : List PyData} : isO (.list xs :: r) = false := rfl
@[simp] theorem ev_viewL {xs : List PyData} : view T (.loc (.list xs)) = some (.list xs) := rfl
@[simp] theorem ev_viewLD {xs : List (PyData × PyData)} : view T (.loc (.dict xs)) = some (.dict xs) := rfl
noncomputable def mkD (T : Tp) (o : Option PyData) : Option (W × Tp) := match o with
  | some d => some (.d d, T)
  | none => none
@[simp] theorem ev_mkD : mkD T (some x) = some (.d x, T) := rfl
@[simp] theorem ev_mkDN : mkD T none = none := rfl
@[simp] theorem ev_mkDI {p : Prop} [Decidable p] {u v : Option PyData} : mkD T (if p then u else v) = if p then mkD T u else mkD T v := by split <;> rfl
noncomputable def binK (o : PyData → PyData → Option PyData) (g : FE) (ρ : Rho) (w1 : W) (T1 : Tp) : Option (W × Tp) := bnd (g ρ T1) fun w2 T2 => op2 o T2 w1 w2
@[simp] theorem ev_bin {o : PyData → PyData → Option PyData} : fBin o f g ρ T = bnd (f ρ T) (binK o g ρ) := rfl
@[simp] theorem ev_binK {o : PyData → PyData → Option PyData} : binK o g ρ w T = bnd (g ρ T) fun w2 T2 => op2 o T2 w w2 := rfl
@[simp] theorem ev_op2 {o : PyData → PyData → Option PyData} : op2 o T (.d x) (.d y) = mkD T (o x y) := rfl
@[simp] theorem ev_op2T {o : PyData → PyData → Option PyData} {zs xs : List PyData} {r : Tp} : op2 o ((.list zs :: xs) :: r) (.tp 0) (.d y) = mkD ((.list zs :: xs) :: r) (o (.list (.list zs :: xs)) y) := rfl
@[simp] theorem ev_un {o : PyData → Option PyData} : fUn o f ρ T = bnd (f ρ T) fun w1 T1 => op1 o T1 w1 := rfl
@[simp] theorem ev_op1 {o : PyData → Option PyData} : op1 o T (.d x) = mkD T (o x) := rfl
@[simp] theorem ev_asB {b : Bool} : asB (.d (.bool b)) = some b := rfl
noncomputable def tstK : W → Tp → Option (Bool × Tp) := fun w T1 => match asB w with
  | some b => some (b, T1)
  | none => none
@[simp] theorem ev_tst : fTst f ρ T = bnd (f ρ T) tstK := rfl
@[simp] theorem ev_tstK {b : Bool} : tstK (.d (.bool b)) T = some (b, T) := rfl
@[simp] theorem ev_tru : fTru f ρ T = bnd (f ρ T) fun w T1 => tru1 T1 w := rfl
noncomputable def truK (T : Tp) (o : Option Bool) : Option (Bool × Tp) := match o with
  | some b => some (b, T)
  | none => none
@[simp] theorem ev_tru1 : tru1 T (.d x) = truK T (truD x) := rfl
@[simp] theorem ev_truK {b : Bool} : truK T (some b) = some (b, T) := rfl
@[simp] theorem ev_truB {b : Bool} : truD (.bool b) = some b := rfl
noncomputable def andTK (c' : FT) (ρ : Rho) (b : Bool) (T1 : Tp) : Option (Bool × Tp) := if b = true then c' ρ T1 else some (false, T1)
@[simp] theorem ev_andT : fAndT c c' ρ T = bnd (c ρ T) (andTK c' ρ) := rfl
@[simp] theorem ev_andTK {b : Bool} : andTK c' ρ b T = if b = true then c' ρ T else some (false, T) := rfl
noncomputable def orTK (c' : FT) (ρ : Rho) (b : Bool) (T1 : Tp) : Option (Bool × Tp) := if b = true then some (true, T1) else c' ρ T1
@[simp] theorem ev_orT : fOrT c c' ρ T = bnd (c ρ T) (orTK c' ρ) := rfl
@[simp] theorem ev_orTK {b : Bool} : orTK c' ρ b T = if b = true then some (true, T) else c' ρ T := rfl
@[simp] theorem ev_notT : fNotT c ρ T = bnd (c ρ T) fun b T1 => some (!b, T1) := rfl
@[simp] theorem ev_trueT : fTrue ρ T = some (true, T) := rfl
noncomputable def andK (g : FE) (ρ : Rho) (w : W) (T : Tp) : Option (W × Tp) := match asB w with
  | some b => if b = true then g ρ T else some (.d (.bool false), T)
  | none => none
@[simp] theorem ev_andV : fAndV f g ρ T = bnd (f ρ T) (andK g ρ) := rfl
@[simp] theorem ev_andK {b : Bool} : andK g ρ (.d (.bool b)) T = if b = true then g ρ T else some (.d (.bool false), T) := rfl
noncomputable def orK (g : FE) (ρ : Rho) (w : W) (T : Tp) : Option (W × Tp) := match asB w with
  | some b => if b = true then some (.d (.bool true), T) else g ρ T
  | none => none
@[simp] theorem ev_orV : fOrV f g ρ T = bnd (f ρ T) (orK g ρ) := rfl
@[simp] theorem ev_orK {b : Bool} : orK g ρ (.d (.bool b)) T = if b = true then some (.d (.bool true), T) else g ρ T := rfl
noncomputable def notK (w : W) (T : Tp) : Option (W × Tp) := match asB w with
  | some b => some (.d (.bool (!b)), T)
  | none => none
@[simp] theorem ev_notV : fNotV f ρ T = bnd (f ρ T) notK := rfl
@[simp] theorem ev_notK {b : Bool} : notK (.d (.bool b)) T = some (.d (.bool (!b)), T) := rfl
noncomputable def ifEK (f g : FE) (ρ : Rho) (b : Bool) (T1 : Tp) : Option (W × Tp) := if b = true then f ρ T1 else g ρ T1
@[simp] theorem ev_ifE : fIfE c f g ρ T = bnd (c ρ T) (ifEK f g ρ) := rfl
@[simp] theorem ev_ifEK {b : Bool} : ifEK f g ρ b T = if b = true then f ρ T else g ρ T := rfl
noncomputable def chK (o' : PyData → PyData → Option PyData) (h : FE) (ρ : Rho) (w2 w : W) (T : Tp) : Option (W × Tp) := match asB w with
  | some b => if b = true then bnd (h ρ T) fun w3 T4 => op2 o' T4 w2 w3 else some (.d (.bool false), T)
  | none => none
@[simp] theorem ev_chain {o o' : PyData → PyData → Option PyData} {h : FE} : fChain o o' f g h ρ T = bnd (f ρ T) fun w1 T1 => bnd (g ρ T1) fun w2 T2 => bnd (op2 o T2 w1 w2) (chK o' h ρ w2) := rfl
@[simp] theorem ev_chK {o' : PyData → PyData → Option PyData} {h : FE} {b : Bool} : chK o' h ρ w (.d (.bool b)) T = if b = true then bnd (h ρ T) fun w3 T4 => op2 o' T4 w w3 else some (.d (.bool false), T) := rfl
@[simp] theorem ev_nil : fNil ρ T = some ([], T) := rfl
noncomputable def consK (a : FA) (ρ : Rho) (w : W) (T1 : Tp) : Option (List W × Tp) := bnd (a ρ T1) fun ws T2 => some (w :: ws, T2)
@[simp] theorem ev_cons : fCons f a ρ T = bnd (f ρ T) (consK a ρ) := rfl
@[simp] theorem ev_consK : consK a ρ w T = bnd (a ρ T) fun ws T2 => some (w :: ws, T2) := rfl
@[simp] theorem ev_views0 : views T [] = some [] := rfl
noncomputable def consO (x : PyData) (o : Option (List PyData)) : Option (List PyData) := match o with
  | some xs => some (x :: xs)
  | none => none
@[simp] theorem ev_consO {xs : List PyData} : consO x (some xs) = some (x :: xs) := rfl
@[simp] theorem ev_views {r : List W} : views T (.d x :: r) = consO x (views T r) := rfl
@[simp] theorem ev_viewsL {xs : List PyData} {r : List W} : views T (.loc (.list xs) :: r) = consO (.list xs) (views T r) := rfl
@[simp] theorem ev_datas0 : datas [] = some [] := rfl
@[simp] theorem ev_datas {r : List W} : datas (.d x :: r) = consO x (datas r) := rfl
noncomputable def sqK (mk : List PyData → PyData) (T : Tp) : Option (List PyData) → Option (W × Tp)
  | some xs => if xs.length ≤ 1000 then some (.d (mk xs), T) else none
  | none => none
@[simp] theorem ev_seqD {mk : List PyData → PyData} : fSeqD mk a ρ T = bnd (a ρ T) fun ws T1 => sqK mk T1 (datas ws) := rfl
@[simp] theorem ev_sqK {mk : List PyData → PyData} {xs : List PyData} : sqK mk T (some xs) = if xs.length ≤ 1000 then some (.d (mk xs), T) else none := rfl
noncomputable def cbK (o : List PyData → Option PyData) (T : Tp) (v : Option (List PyData)) : Option (W × Tp) := match v with
  | some xs => (match o xs with
    | some d => some (.d d, T)
    | none => none)
  | none => none
@[simp] theorem ev_CB {o : List PyData → Option PyData} : fCB o a ρ T = bnd (a ρ T) fun ws T1 => cbK o T1 (views T1 ws) := rfl
@[simp] theorem ev_cbK {o : List PyData → Option PyData} {xs : List PyData} : cbK o T (some xs) = mkD T (o xs) := rfl
@[simp] theorem ev_call {m : FnM} : fCall m a ρ T = bnd (a ρ T) fun ws T1 => bnd (m ws T1) fun x T2 => some (.d x, T2) := rfl
@[simp] theorem ev_comp {it : FI} : fComp it c f ρ T = bnd (it ρ T) fun ds T1 => bnd (compL c f ρ ds T1) fun ys T2 => some (.d (.list ys), T2) := rfl
noncomputable def itK (T : Tp) (o : Option (List PyData)) : Option (List PyData × Tp) := match o with
  | some xs => some (xs, T)
  | none => none
noncomputable def itW : W → Tp → Option (List PyData × Tp) := fun w T1 => match w with
  | .d x => (match itemsD x with
    | some xs => some (xs, T1)
    | none => none)
  | _ => none
@[simp] theorem ev_iter : fIter f ρ T = bnd (f ρ T) itW := rfl
@[simp] theorem ev_itW : itW (.d x) T = itK T (itemsD x) := rfl
@[simp] theorem ev_itK {xs : List PyData} : itK T (some xs) = some (xs, T) := rfl
@[simp] theorem ev_itemsL {xs : List PyData} : itemsD (.list xs) = some xs := rfl
@[simp] theorem ev_itemsT {xs : List PyData} : itemsD (.tuple xs) = some xs := rfl
@[simp] theorem ev_itemsS {z : Str} : itemsD (.str z) = if z.length ≤ sizeLine then some (signs z) else none := rfl
noncomputable def rngK : W → Tp → Option (List PyData × Tp) := fun w T1 => match w with
  | .d (.int j) => if rngOk j = true then some (numsD 0 j.toNat, T1) else none
  | _ => none
@[simp] theorem ev_rng1 : fRng1 f ρ T = bnd (f ρ T) rngK := rfl
@[simp] theorem ev_rngK {j : Int} : rngK (.d (.int j)) T = if rngOk j = true then some (numsD 0 j.toNat, T) else none := rfl
@[simp] theorem ev_for {i : Nat} {it : FI} : fFor i it s ρ T = bnd (it ρ T) fun ds T1 => forL i s ds ρ T1 := rfl
@[simp] theorem ev_sub {i j : Int} : subD (.int i) (.int j) = some (.int (i - j)) := rfl
@[simp] theorem ev_mod {i j : Int} : modD (.int i) (.int j) = if 0 < j then some (.int (i % j)) else none := rfl
@[simp] theorem ev_fdiv {i j : Int} : fdivD (.int i) (.int j) = if 0 < j ∧ j < 1073741824 then some (.int (i / j)) else none := rfl
@[simp] theorem ev_pow {i j : Int} : powD (.int i) (.int j) = if 0 ≤ j ∧ j ≤ 1000000 ∧ i.natAbs < 2 ^ 64 then some (.int (i ^ j.toNat)) else none := rfl
@[simp] theorem ev_lt {i j : Int} : ltD (.int i) (.int j) = some (.bool (decide (i < j))) := rfl
@[simp] theorem ev_le {i j : Int} : leD (.int i) (.int j) = some (.bool (decide (i ≤ j))) := rfl
@[simp] theorem ev_gt {i j : Int} : gtD (.int i) (.int j) = some (.bool (decide (j < i))) := rfl
@[simp] theorem ev_ge {i j : Int} : geD (.int i) (.int j) = some (.bool (decide (j ≤ i))) := rfl
@[simp] theorem ev_addI {i j : Int} : addD (.int i) (.int j) = some (.int (i + j)) := rfl
@[simp] theorem ev_addS {u v : Str} : addD (.str u) (.str v) = if u.length + v.length ≤ sizeLine then some (.str (u ++ v)) else none := rfl
@[simp] theorem ev_addT {u v : List PyData} : addD (.tuple u) (.tuple v) = if u.length + v.length ≤ sizeLine then some (.tuple (u ++ v)) else none := rfl
@[simp] theorem ev_addL {u v : List PyData} : addD (.list u) (.list v) = if u.length + v.length ≤ sizeLine then some (.list (u ++ v)) else none := rfl
@[simp] theorem ev_mulI {i j : Int} : mulD (.int i) (.int j) = if (-(2 ^ 64) < i ∧ i < 2 ^ 64) ∨ (-(2 ^ 64) < j ∧ j < 2 ^ 64) then some (.int (i * j)) else none := rfl
@[simp] theorem ev_mulS {z : Str} {k : Int} : mulD (.str z) (.int k) = if 1 ≤ k ∧ k ≤ 2000 ∧ z.length ≤ 1000 then some (.str (Txt.mul z k)) else none := rfl
@[simp] theorem ev_mulT {xs : List PyData} {k : Int} : mulD (.tuple xs) (.int k) = if 2 ≤ k ∧ k ≤ 1000 ∧ xs.isEmpty = false ∧ xs.length ≤ 1000 then some (.tuple (List.replicate k.toNat xs).flatten) else none := rfl
@[simp] theorem ev_eqI {i j : Int} : eqD (.int i) (.int j) = some (.bool (decide (i = j))) := rfl
@[simp] theorem ev_eqS {i j : Str} : eqD (.str i) (.str j) = some (.bool (decide (i = j))) := rfl
@[simp] theorem ev_eqB {i j : Bool} : eqD (.bool i) (.bool j) = some (.bool (decide (i = j))) := rfl
@[simp] theorem ev_neI {i j : Int} : neD (.int i) (.int j) = some (.bool (!decide (i = j))) := rfl
@[simp] theorem ev_neS {i j : Str} : neD (.str i) (.str j) = some (.bool (!decide (i = j))) := rfl
@[simp] theorem ev_neB {i j : Bool} : neD (.bool i) (.bool j) = some (.bool (!decide (i = j))) := rfl
@[simp] theorem ev_is : isD x .none = some (.bool (isNone x)) := by cases x <;> rfl
@[simp] theorem ev_isnot {i j : Bool} : isNotD (.bool i) (.bool j) = some (.bool (i != j)) := rfl
@[simp] theorem ev_neg {i : Int} : negD (.int i) = some (.int (-i)) := rfl
@[simp] theorem ev_isi {k : Kd} : isiD k x = some (.bool (isiK (kd x) k)) := rfl
@[simp] theorem ev_ixL {xs : List PyData} {i : Int} : ixD (.list xs) (.int i) = atI xs i := rfl
@[simp] theorem ev_ixT {xs : List PyData} {i : Int} : ixD (.tuple xs) (.int i) = atI xs i := rfl
@[simp] theorem ev_ixS {z : Str} {i : Int} : ixD (.str z) (.int i) = if z.length ≤ sizeLine then (atI z.cps.toList i).map (fun c => .str ⟨#[c]⟩) else none := rfl
@[simp] theorem ev_lenL {xs : List PyData} : lenD [.list xs] = some (.int xs.length) := rfl
@[simp] theorem ev_lenT {xs : List PyData} : lenD [.tuple xs] = some (.int xs.length) := rfl
@[simp] theorem ev_lenS {z : Str} : lenD [.str z] = if z.length ≤ sizeLine then some (.int z.length) else none := rfl
@[simp] theorem ev_abs {i : Int} : absD [.int i] = some (.int (if i < 0 then -i else i)) := rfl
@[simp] theorem ev_max {i j : Int} : maxD2 [.int i, .int j] = some (.int (if j > i then j else i)) := rfl
@[simp] theorem ev_min {i j : Int} : minD2 [.int i, .int j] = some (.int (if j < i then j else i)) := rfl
@[simp] theorem ev_tupleL {xs : List PyData} : tupleD [.list xs] = some (.tuple xs) := rfl
@[simp] theorem ev_tupleT {xs : List PyData} : tupleD [.tuple xs] = some (.tuple xs) := rfl
@[simp] theorem ev_listL {xs : List PyData} : listD [.list xs] = some (.list xs) := rfl
@[simp] theorem ev_listT {xs : List PyData} : listD [.tuple xs] = some (.list xs) := rfl
@[simp] theorem ev_kdI {i : Int} : kd (.int i) = .int := rfl
@[simp] theorem ev_kdB {i : Bool} : kd (.bool i) = .bl := rfl
@[simp] theorem ev_kdS {i : Str} : kd (.str i) = .str := rfl
@[simp] theorem ev_kdT {i : List PyData} : kd (.tuple i) = .tup := rfl
@[simp] theorem ev_kdL {i : List PyData} : kd (.list i) = .lst := rfl
@[simp] theorem ev_kdD {i : List (PyData × PyData)} : kd (.dict i) = .dct := rfl
@[simp] theorem ev_kdN : kd .none = .non := rfl
end
theorem at0 {α : Type} {a b c : α} : atI [a, b, c] 0 = some a := rfl
theorem at1 {α : Type} {a b c : α} : atI [a, b, c] 1 = some b := rfl
theorem at2 {α : Type} {a b c : α} : atI [a, b, c] 2 = some c := rfl
theorem ix1 : ixN 3 1 = some 1 := rfl
theorem ix2 : ixN 3 2 = some 2 := rfl
theorem compL_map {e : FE} {ρ : Rho} {T : Tp} {g : PyData → PyData} : ∀ {ds : List PyData}, (∀ d ∈ ds, e (some (.d d) :: ρ) T = some (.d (g d), T)) → compL fTrue e ρ ds T = some (ds.map g, T)
  | [], _ => rfl
  | d :: r, h => by
    have ih := compL_map (ds := r) fun x hx => h x (List.mem_cons_of_mem _ hx)
    have h0 := h d List.mem_cons_self
    unfold compL
    simp [h0, ih]
theorem compL_inv {e : FE} {ρ : Rho} {P : Tp → Prop} {Q : PyData → Prop} : ∀ {ds : List PyData} {T : Tp}, P T → (∀ d ∈ ds, ∀ T, P T → ∃ y T', e (some (.d d) :: ρ) T = some (.d y, T') ∧ P T' ∧ Q y) → ∃ ys T', compL fTrue e ρ ds T = some (ys, T') ∧ P T' ∧ ys.length = ds.length ∧ ∀ y ∈ ys, Q y
  | [], T, p, _ => ⟨[], T, rfl, p, rfl, fun y hy => by cases hy⟩
  | d :: r, T, p, h => by
    obtain ⟨y, T1, e1, p1, q1⟩ := h d List.mem_cons_self T p
    obtain ⟨ys, T2, e2, p2, l2, q2⟩ := compL_inv (ds := r) p1 fun x hx => h x (List.mem_cons_of_mem _ hx)
    refine ⟨y :: ys, T2, ?_, p2, by simp [l2], fun z hz => ?_⟩
    · unfold compL
      simp [e1, e2]
    · rcases List.mem_cons.mp hz with k | k
      · subst k; exact q1
      · exact q2 z k
theorem boolsD_map {α : Type} (p : α → Bool) : ∀ l : List α, boolsD (l.map fun d => .bool (p d)) = some (l.map p)
  | [] => rfl
  | d :: r => by
    show (boolsD (r.map fun d => .bool (p d))).map (p d :: ·) = _
    rw [boolsD_map p r]
    rfl
theorem intsD_map {α : Type} (p : α → Int) : ∀ l : List α, intsD (l.map fun d => .int (p d)) = some (l.map p)
  | [] => rfl
  | d :: r => by
    show (intsD (r.map fun d => .int (p d))).map (p d :: ·) = _
    rw [intsD_map p r]
    rfl
theorem strsD_map {α : Type} (p : α → Str) : ∀ l : List α, strsD (l.map fun d => .str (p d)) = some (l.map p)
  | [] => rfl
  | d :: r => by
    show (strsD (r.map fun d => .str (p d))).map (p d :: ·) = _
    rw [strsD_map p r]
    rfl
@[simp] theorem ev_all {α : Type} (p : α → Bool) (l : List α) : allD [.list (l.map fun d => .bool (p d))] = some (.bool (l.all p)) := by
  show (boolsD _).map (fun bs => PyData.bool (bs.all id)) = _
  rw [boolsD_map, Option.map_some, List.all_map]
  rfl
@[simp] theorem ev_sum {α : Type} (p : α → Int) (l : List α) : sumD [.list (l.map fun d => .int (p d))] = some (.int (l.map p).sum) := by
  show (intsD _).map (fun bs => PyData.int bs.sum) = _
  rw [intsD_map, Option.map_some]
@[simp] theorem ev_maxd {α : Type} (p : α → Int) (l : List α) (k : Int) : maxdD (.list (l.map fun d => .int (p d))) (.int k) = some (.int (K1.maxD k (l.map p))) := by
  show (intsD _).map (fun bs => PyData.int (K1.maxD k bs)) = _
  rw [intsD_map, Option.map_some]
noncomputable def strHas (y : Str) : PyData → Bool
  | .str z => hasS y z
  | _ => false
theorem hasS_one (y : Str) (c : Nat) : hasS y ⟨#[c]⟩ = decide (c ∈ y.cps.toList) := StrLaws.found_one ..
@[simp] theorem ev_inS {x y : Str} : inD (.str x) (.str y) = some (.bool (hasS y x)) := rfl
theorem signs_mem {x : Str} {d : PyData} (h : d ∈ D.signs x) : ∃ c, c ∈ x.cps.toList ∧ d = .str ⟨#[c]⟩ := by
  obtain ⟨c, hc, rfl⟩ := List.mem_map.mp h
  exact ⟨c, hc, rfl⟩
end D
namespace D
open PySem PySem.Spec PyProof.Rows L2
section
variable {X : Cx}
theorem mt_starts : MtR X "str.startswith" (fun x vs H Q => ∃ z y : Str, x = .str z ∧ vs = [.str y] ∧ Q (.bl (Txt.startswith z y)) H) := by
  intro pins s σ H x vs v us Q I rx rv h
  obtain ⟨z, y, rfl, rfl, q⟩ := h
  obtain ⟨t, rfl⟩ := rx
  obtain ⟨u, rfl, ru⟩ := vals1 rv
  obtain ⟨t', rfl⟩ := ru
  exact call_gives PySem.F.slot_str_startswith (typeIs_str _ _ _) PySem.F.entry_str_startswith (PySem.F.args_str_startswith_2 _ _) (gives_str_startswith z y t t') ⟨.bl _, H, I, rfl, q⟩
noncomputable def startsD : PyData → PyData → Option PyData
  | .str z, .str y => some (.bool (Txt.startswith z y))
  | _, _ => none
theorem view_str {T : Tp} {w : W} {z : Str} (h : view T w = some (.str z)) : w = .d (.str z) := by
  cases w with
  | d x => cases h; rfl
  | tp k =>
    have h' : (T[k]?).bind rowV = some (PyData.str z) := h
    cases hk : T[k]? with
    | none => rw [hk] at h'; cases h'
    | some xs =>
      rw [hk] at h'
      have e2 : (if isO xs = true then none else some (PyData.list xs)) = some (PyData.str z) := h'
      split at e2 <;> cases e2
  | loc zs => cases zs <;> cases h
theorem de_starts {o e : Expr} {fo fe : FE} {apos cpos : Pos} (ho : DE X o fo) (he : DE X e fe)
    (hbase : attributeBase o "startswith" X.env (eval o X.env) = eval o X.env := by rfl)
    (hfew : ((backTo cpos (starEach [e] X.env)).all (fun x => !x.1) && (backToKw cpos (keywordEach [] X.env)).all (fun x => x.1.isSome)
      && decide (([e] : List Expr).length + ([] : List Keyword).length + (if ([] : List Keyword).isEmpty then 0 else 1) < 30)) = true := by exact few1 rfl)
    (hline : (apos.endLine == cpos.line) = true := by rfl) (hse : starEach [e] X.env = (false, eval e X.env) :: starEach [] X.env := by exact star_cons rfl) (hplain : (backTo cpos (starEach [] X.env)).any (·.1) = false := by exact star_any rfl) :
    DE X (.Call (.Attribute o "startswith" apos) [e] [] cpos) (fBin startsD fo fe) := by
  refine ⟨?_⟩
  refine pe_imp (pe_bm PySem.F.plainAttrs_str PySem.F.slot_str_startswith PySem.F.type_str_startswith mt_starts ho.pe (pa_cons he.pe pa_nil hse) hbase hfew hline hse hplain) fun σ H Q => ?_
  rintro ⟨O, ts, ρ, T, w, T', hc, re, e, q⟩
  obtain ⟨w1, T1, e1, e⟩ := bnd_of e
  obtain ⟨w2, T2, e2, e⟩ := bnd_of e
  obtain ⟨x, y, d, h1, h2, h3, rfl, rfl⟩ := op2_of e
  unfold startsD at h3
  split at h3
  · rename_i z y
    cases h3
    have ew := view_str h1
    subst ew
    refine ⟨O, ts, ρ, T, _, T1, hc, re, e1, fun v1 H1 s1 hc1 r1 => ?_⟩
    cases (show Rep X.K O H1 v1 _ from r1)
    refine ⟨rfl, O, ts, ρ, T1, w2, T', hc1, re.mono hc s1, e2, fun v2 H2 s2 hc2 r2 => ?_⟩
    cases (hc2.view r2 h2).str
    exact ⟨z, _, rfl, rfl, q _ H2 (s1.trans s2) hc2 (.bl _)⟩
  · cases h3
theorem call_intS : CallR X (.type "int") (fun xs H Q => ∃ x n, xs = [.str x] ∧ PySem.intText? x = some n ∧ x.length ≤ 640 ∧ Q (.int n) H) := by
  intro pins s σ H xs us Q I r h
  obtain ⟨x, n, rfl, hn, hl, q⟩ := h
  obtain ⟨u, rfl, ru⟩ := vals1 r
  obtain ⟨t, rfl⟩ := ru
  exact PySem.W.KIN.call_text hn hl ⟨.int n, H, I.tok _, ⟨_, rfl⟩, q⟩
noncomputable def intD : List PyData → Option PyData
  | [.int i] => some (.int i)
  | [.bool b] => some (.int (if b then 1 else 0))
  | [.str x] => if x.length ≤ 640 then (PySem.intText? x).map .int else none
  | _ => none
theorem c_int : CallD X (.type "int") intD := ⟨_, call_int1.or call_intS, fun O ts H T vs xs d Q hc h e q => by
  unfold intD at e
  split at e
  · cases e
    obtain ⟨v, rfl, g⟩ := vws1 h
    cases g.int
    exact .inl (.inl ⟨_, rfl, q _ H (.refl _ _) hc (.int _)⟩)
  · cases e
    obtain ⟨v, rfl, g⟩ := vws1 h
    cases g.bl
    exact .inl (.inr ⟨_, rfl, q _ H (.refl _ _) hc (.int _)⟩)
  · split at e
    · rename_i hz
      obtain ⟨n, e1, rfl⟩ := Option.map_eq_some_iff.mp e
      obtain ⟨v, rfl, g⟩ := vws1 h
      cases g.str
      exact .inr ⟨_, n, rfl, e1, hz, q _ H (.refl _ _) hc (.int _)⟩
    · cases e
  · cases e⟩
noncomputable def revD : PyData → Option PyData
  | .tuple xs => some (.tuple xs.reverse)
  | _ => none
end
@[simp] theorem ev_starts {z y : Str} : startsD (.str z) (.str y) = some (.bool (Txt.startswith z y)) := rfl
@[simp] theorem ev_intS {x : Str} : intD [.str x] = if x.length ≤ 640 then (PySem.intText? x).map .int else none := rfl
@[simp] theorem ev_intI {i : Int} : intD [.int i] = some (.int i) := rfl
@[simp] theorem ev_intB {b : Bool} : intD [.bool b] = some (.int (if b then 1 else 0)) := rfl
@[simp] theorem ev_rev {xs : List PyData} : revD (.tuple xs) = some (.tuple xs.reverse) := rfl
end D
namespace D
open PySem PySem.Spec PyProof.Rows L2
section
variable {X : Cx}
theorem Vw.reads {pins : List (Addr × Obj)} {σ : L2.St} {H : Hp} {s : Shared} {O : Addr → Prop} {v : V} {d : PyData} {u : Value} (I : Inv X pins σ H s) (h : Vw X.K O H v d) (r : RelV v u) : ∃ as, Reads s.heap u d as := by
  cases h with
  | rep h => obtain ⟨as, rd, _⟩ := h.reads I r; exact ⟨as, rd⟩
  | raw h hs =>
    cases r
    obtain ⟨its, rv, pl, _⟩ := I.list (SqL.of h)
    obtain ⟨o, n, e, c, _, dd⟩ := pl
    obtain ⟨as, rd, _⟩ := hs.reads I rv
    exact ⟨_, .list e c dd (by simpa using rd)⟩
  | rawD h rk =>
    cases r
    obtain ⟨z, y, vs, kv, o, es, ep, e, ed, dd, _, ek, _⟩ := (show ObjOk X.prog X.w H s.heap _ (.dK _) from I.hok _ _ h)
    obtain ⟨bs, q1, q2, f⟩ := RepK.reads I rk kv ek
    exact ⟨_, .dict (as := []) (bs := bs) e ed.1 dd q1 q2⟩
open Classical in
noncomputable def eqBy (h : Heap) (x : PyData) (v : Value) : Bool := if e : ∃ p : PyData × List Addr, Reads h v p.1 p.2 then PyData.eqv e.choose.1 x else false
end
end D
namespace D
open PySem PySem.Spec PyProof.Rows L2
theorem list_extW (l : Addr) (items : Array Value) (n : Nat) (b : Addr) (items2 : Array Value) (n2 : Nat) (dd : Option Addr) (sl : Array (Option Value)) (hc0 : ¬(!items.isEmpty && Builtin.List.listTooLong (items.size + items2.size)) = true) (hc1 : items.size ≤ sizeLine) (hs2 : items.size + items2.size ≤ sizeLine + 1) :
    Meets (Builtin.«list.extend» ⟨[.ref l, .ref b], []⟩) (fun _ R s => s.heap.get? l = some { cls := .type "list", dict := none, data := .seq items n, slots := #[] } ∧ s.heap.get? b = some { cls := .type "list", dict := dd, data := .seq items2 n2, slots := sl } ∧ R (.ok (.ret Value.none)) { s with heap := s.heap.update l (Obj.mapSeq fun x => x ++ items2), toks := s.toks }) :=
  .of_wp fun prog w A R s h => by
    obtain ⟨hp, g, d, tk, os⟩ := s
    obtain ⟨hl, hb, h⟩ := h
    have f1 := AutoSeq1.idx_int
    have f2 := AutoSeq1.sub_tuple_tuple
    have f3 := AutoSeq1.sub_list_list
    have f4 := AutoSeq1.sub_tuple_list
    have f5 := AutoSeq1.sub_list_tuple
    have hz' : (items ++ items2).size ≤ sizeLine + 1 := by rw [Array.size_append]; exact hs2
    wp_walk using (wpAny_updateSeq hl rfl (hz := hc1) (_hz' := hz')), wpAny_loadPart' hl, wpAny_loadPart' hb
    exact ⟨_, rfl, h⟩
section
variable {X : Cx}
theorem mt_ext : MtM X "list.extend" (fun x vs H Q => ∃ l b xs zs, x = .ref l ∧ vs = [.ref b] ∧ H l = some (.lst xs) ∧ SqL X.K H b zs ∧ xs.length + zs.length ≤ sizeLine ∧ Q .non (upd H l (.lst (xs ++ zs)))) := by
  intro pins s σ H x vs v us Q I rx rv h
  obtain ⟨l, b, xs, zs, rfl, rfl, hH, hB, hz, q⟩ := h
  cases rx
  obtain ⟨u, rfl, ru⟩ := rv.one
  cases ru
  obtain ⟨z, its, n, r, hl, e⟩ := I.lstM hH
  obtain ⟨its2, r2, pl, _⟩ := I.list hB
  obtain ⟨⟨cls2, dd2, data2, sl2⟩, n2, e2, c2, _, d2⟩ := pl
  simp only at c2 d2
  subst c2 d2
  have hl2 := r2.length
  have hsz : its.toArray.size + its2.toArray.size ≤ sizeLine := by rw [List.size_toArray, List.size_toArray]; omega
  have hlong : ¬ (!its.toArray.isEmpty && Builtin.List.listTooLong (its.toArray.size + its2.toArray.size)) = true := by
    rw [notLongL hsz, Bool.and_false]
    exact Bool.false_ne_true
  refine call_meets F.slot_list_extend ⟨_, e, rfl⟩ F.entry_list_extend (F.args_list_extend_2 _ _)
    (list_extW l its.toArray n b its2.toArray n2 dd2 sl2 hlong (by rw [List.size_toArray]; omega) (by omega)) ⟨e, e2, ?_⟩
  refine ⟨.non, _, I.lset (its' := its ++ its2) hH e (by simp) (r.append r2) ?_, rfl, q⟩
  rw [List.length_append]
  omega
variable {pos : Pos} {e : Expr} {fe : FE}
noncomputable def fExt (i : Nat) (f : FE) : FS := fun ρ T => bnd (f ρ T) fun w T1 => match w, ρ[i]? with
  | .d (.list ys), some (some (.loc (.list xs))) => if xs.length + ys.length ≤ sizeLine then some ((.nx, ρ.set i (some (.loc (.list (xs ++ ys))))), T1) else none
  | _, _ => none
theorem ds_ext {i : Nat} {x : Str} {p apos : Pos} (he : DE X e fe) (hN : X.N[i]? = some x := by rfl) (hv : Vis X.env.scope x := by first | exact Or.inl rfl | exact Or.inr (Or.inl rfl) | exact Or.inr (Or.inr rfl)) (hd : (x == ("__debug__" : Str)) = false := by decide)
    (hcd : (x == ("__classdict__" : Str)) = false := by decide) {cpos : Pos}
    (hbase : attributeBase (.Name x p) "extend" X.env (eval (.Name x p) X.env) = eval (.Name x p) X.env := by rfl)
    (hfew : ((backTo cpos (starEach [e] X.env)).all (fun x => !x.1) && (backToKw cpos (keywordEach [] X.env)).all (fun x => x.1.isSome)
      && decide (([e] : List Expr).length + ([] : List Keyword).length + (if ([] : List Keyword).isEmpty then 0 else 1) < 30)) = true := by exact few1 rfl)
    (hline : (apos.endLine == cpos.line) = true := by rfl) (hse : starEach [e] X.env = (false, eval e X.env) :: starEach [] X.env := by exact star_cons rfl) (hplain : (backTo cpos (starEach [] X.env)).any (·.1) = false := by exact star_any rfl)
    (hs : swapsWith (.Call (.Attribute (.Name x p) "extend" apos) [e] [] cpos) none pos.line X.env = pure false := by rfl) :
    DS X (.Expr (.Call (.Attribute (.Name x p) "extend" apos) [e] [] cpos) pos) (fExt i fe) := by
  refine ⟨?_⟩
  refine ps_imp (ps_expr (pe_bm PySem.F.plainAttrs_list PySem.F.slot_list_extend PySem.F.type_list_extend mt_ext (pv i hN hv hd hcd) (pa_cons he.pe pa_nil hse) hbase hfew hline hse hplain) hs) fun D σ H => ?_
  rintro ⟨O₀, H₀, F, ts, O, ρ, T, fl, ρ', T', rs, e, q⟩
  obtain ⟨w, T1, e1, e⟩ := bnd_of e
  split at e
  · rename_i ys xs h1
    split at e
    · rename_i h2
      cases e
      obtain ⟨v, k1, a, rfl, k2, k3, vs, k4, k5⟩ := rs.re i _ h1
      refine ⟨_, k1, .inl ⟨rfl, vs, SqL.of k4⟩, O, ts, ρ, T, _, _, rs.hc, rs.re, e1, fun u H1 s1 hc1 r1 => ?_⟩
      have rs1 := rs.step s1 hc1
      have r1' : Rep X.K O H1 u (.list ys) := r1
      cases r1' with
      | lst t r =>
        rename_i b us
        exact ⟨a, b, vs, us, rfl, rfl, s1 _ _ k3 k4, t.sq, by rw [k5.length, r.length]; exact h2, q O _ _ (rs1.put (us := []) h1 k1 ((k5.mono (rs.hc.le s1)).append r))⟩
    · cases e
  · cases e
end
end D
namespace D
open PySem PySem.Spec PyProof.Rows L2
noncomputable def tabD (B : List (Str × Int)) : List (Str × PyProof.Rows.KTD.Dat) := B.map fun p => (p.1, .flat (.int p.2))
noncomputable def TabK (K : PySem.W.Frag) (mg : Str → Option Value) (x : Str) (B : List (Str × Int)) : Prop := ∃ a, mg x = some (.ref a) ∧ PyProof.Rows.KTD.tabLook (PyProof.Rows.KTD.datLooks fun b => K.lookup b) (fun b => K.lookup b) a (tabD B) = true
noncomputable def inT (B : List (Str × Int)) : PyData → Option PyData
  | .str s => some (.bool (B.any fun p => decide (s = p.1)))
  | _ => none
noncomputable def atT (B : List (Str × Int)) : PyData → Option PyData
  | .str s => (B.find? fun p => decide (s = p.1)).map fun p => .int p.2
  | _ => none
theorem inKeys_tab (s : Str) : ∀ B : List (Str × Int), PyProof.Rows.KTD.inKeys s (tabD B) = B.any fun p => decide (s = p.1)
  | [] => rfl
  | (x, d) :: B => by
    show (decide (s = x) || PyProof.Rows.KTD.inKeys s (tabD B)) = _
    rw [inKeys_tab s B]
    rfl
theorem datum_tab (s : Str) : ∀ B : List (Str × Int), PyProof.Rows.KTD.datumAt s (tabD B) = (B.find? fun p => decide (s = p.1)).map fun p => .flat (.int p.2)
  | [] => rfl
  | (x, d) :: B => by
    show (if decide (s = x) = true then some _ else PyProof.Rows.KTD.datumAt s (tabD B)) = _
    rw [datum_tab s B, List.find?_cons]
    cases decide (s = x) <;> rfl
section
variable {X : Cx} {pos : Pos} {e : Expr} {f : FE} {x : Str} {p : Pos} {B : List (Str × Int)}
theorem eachL_tab {h : Heap} {P : Value → Prop} {s : Str} : ∀ {B : List (Str × Int)} {d : Str × Int}, (B.find? fun p => decide (s = p.1)) = some d → (∀ t, P (.int d.2 t)) → PyProof.Rows.KTD.EachL h s P (tabD B)
  | [], d, e, _ => by cases e
  | (x, i) :: B, d, e, hp => by
    rw [List.find?_cons] at e
    by_cases hx : s = x
    · have : decide (s = x) = true := decide_eq_true hx
      simp only [this] at e
      cases e
      exact PyProof.Rows.KTD.eachL_hit hx (PyProof.Rows.KTD.opened_int hp)
    · have : decide (s = x) = false := decide_eq_false hx
      simp only [this] at e
      exact PyProof.Rows.KTD.eachL_miss hx (eachL_tab e hp)
theorem op_inT {a : Addr} (hl : PyProof.Rows.KTD.tabLook (PyProof.Rows.KTD.datLooks fun b => X.K.lookup b) (fun b => X.K.lookup b) a (tabD B) = true) : OpR X (compareOp .In) (fun x y H Q => ∃ s, x = .str s ∧ y = .ref a ∧ Q (.bl (B.any fun p => decide (s = p.1))) H) := by
  intro pins s σ H x y v u Q I rx ry h
  obtain ⟨z, rfl, rfl, q⟩ := h
  obtain ⟨t, rfl⟩ := rx
  cases ry
  refine PyProof.Rows.KTD.in_text (h₀ := s.heap) ⟨PySem.W.kt_text_in I.kIn hl, fun _ _ e => e⟩ ?_
  rw [inKeys_tab]
  exact ⟨.bl _, H, I.tok _, rfl, q⟩
theorem de_inT (ht : TabK X.K X.mg x B) (hg : Gl X x) (he : DE X e f) (hd : (x == ("__debug__" : Str)) = false := by decide) (hm : behindInMarks .In (.Name x p) = false := by first | exact nomark _ | with_unfolding_all rfl) : DE X (.Compare e [.In] [.Name x p] pos) (fUn (inT B) f) := by
  obtain ⟨a, hx, hl⟩ := ht
  refine ⟨?_⟩
  refine pe_imp (pe_cmpR (op_inT hl) he.pe (pe_glob (v := .ref a) hg hx rfl hd) hm) fun σ H Q => ?_
  rintro ⟨O, ts, ρ, T, w, T', hc, re, e, q⟩
  obtain ⟨w1, T1, e1, e⟩ := bnd_of e
  obtain ⟨x, d, h1, h3, rfl, rfl⟩ := op1_of e
  refine ⟨O, ts, ρ, T, w1, T', hc, re, e1, fun v1 H1 s1 hc1 r1 => ?_⟩
  have vw := hc1.view r1 h1
  unfold inT at h3
  split at h3
  · cases h3
    cases vw.str
    exact ⟨_, rfl, rfl, q _ H1 s1 hc1 (.bl _)⟩
  · cases h3
theorem ix_tab {a : Addr} (hl : PyProof.Rows.KTD.tabLook (PyProof.Rows.KTD.datLooks fun b => X.K.lookup b) (fun b => X.K.lookup b) a (tabD B) = true) : IxR X (fun x y H Q => ∃ s p, x = .ref a ∧ y = .str s ∧ (B.find? fun p => decide (s = p.1)) = some p ∧ Q (.int p.2) H) := by
  intro value slice pins s σ H x y v u Q I rx ry h hs
  obtain ⟨z, d, rfl, rfl, hf, q⟩ := h
  obtain ⟨t, rfl⟩ := ry
  cases rx
  have hk : PyProof.Rows.KTD.inKeys z (tabD B) = true := by
    rw [← PyProof.Rows.KTD.isSome_datumAt, datum_tab, hf]
    rfl
  have hp : ((tabD B).all fun p => PyProof.Rows.KTD.plain p.2) = true := by
    rw [List.all_eq_true]
    intro p hp
    obtain ⟨q, _, rfl⟩ := List.mem_map.mp hp
    rfl
  exact PyProof.Rows.KTD.item_textA (h₀ := s.heap) ⟨PySem.W.kt_text_in I.kIn hl, fun _ _ e => e⟩ hp hk (eachL_tab hf fun t => ⟨.int d.2, H, I.tok _, ⟨t, rfl⟩, q⟩) hs
theorem de_ixT (ht : TabK X.K X.mg x B) (hg : Gl X x) (he : DE X e f) (hd : (x == ("__debug__" : Str)) = false := by decide) (hs : PlainIx e := by exact fun _ _ => rfl) : DE X (.Subscript (.Name x p) e pos) (fUn (atT B) f) := by
  obtain ⟨a, hx, hl⟩ := ht
  refine ⟨?_⟩
  refine pe_imp (pe_ix (ix_tab hl) (pe_glob (v := .ref a) hg hx rfl hd) he.pe hs) fun σ H Q => ?_
  rintro ⟨O, ts, ρ, T, w, T', hc, re, e, q⟩
  obtain ⟨w1, T1, e1, e⟩ := bnd_of e
  obtain ⟨x, d, h1, h3, rfl, rfl⟩ := op1_of e
  refine ⟨O, ts, ρ, T, w1, T', hc, re, e1, fun v1 H1 s1 hc1 r1 => ?_⟩
  have vw := hc1.view r1 h1
  unfold atT at h3
  split at h3
  · obtain ⟨p, hp, rfl⟩ := Option.map_eq_some_iff.mp h3
    cases vw.str
    exact ⟨_, p, rfl, rfl, hp, q _ H1 s1 hc1 (.int _)⟩
  · cases h3
end
end D
namespace D
open PySem PySem.Spec PyProof.Rows L2
end D
namespace L2
open PySem PySem.Spec PyProof.Rows
open K1 (maxFrom maxD)
section
variable {prog : Program} {w : World} {A : Around} {R : Result → Shared → Prop} {it S : Addr} {fp wr : List Addr} {P : Nat → Value → Prop} {St : Nat → Heap → Prop} {ns : List Int} {kw : List (Str × Value)}
end
section
variable {X : Cx}
end
end L2
namespace D
open PySem PySem.Spec PyProof.Rows L2
section
variable {X : Cx} {pos : Pos} {e : Expr} {f : FE} {x : Str} {p : Pos}
variable {B : List (Str × Int)}
noncomputable def strsAre : List Value → List Str → Bool
  | [], [] => true
  | .str x _ :: r, y :: s => decide (x = y) && strsAre r s
  | _, _ => false
noncomputable def tupLook (look : Addr → Option Obj) (a : Addr) (ss : List Str) : Bool := match look a with
  | some ⟨.type n, _, .seq its _, _⟩ => decide (n = "tuple") && strsAre its.toList ss
  | _ => false
noncomputable def TupK (K : PySem.W.Frag) (mg : Str → Option Value) (x : Str) (ss : List Str) : Prop := ∃ a, mg x = some (.ref a) ∧ tupLook (fun b => K.lookup b) a ss = true
theorem strs_vals : ∀ {vs : List Value} {ss : List Str}, strsAre vs ss = true → Vals (ss.map V.str) vs
  | [], [], _ => .nil
  | .str x t :: r, y :: s, h => by
    have h' : (decide (x = y) && strsAre r s) = true := h
    rw [Bool.and_eq_true] at h'
    exact .cons ⟨t, by rw [of_decide_eq_true h'.1]⟩ (strs_vals h'.2)
theorem reps_strs {K : PySem.W.Frag} {O : Addr → Prop} {H : Hp} : ∀ ss : List Str, Reps K O H (ss.map V.str) (ss.map PyData.str)
  | [] => .nil
  | x :: r => .cons (.str x) (reps_strs r)
theorem de_globU {ss : List Str} (hg : Gl X x) (ht : TupK X.K X.mg x ss) (hz : ss.length ≤ sizeLine := by decide) (hd : (x == ("__debug__" : Str)) = false := by decide) : DE X (.Name x p) (fC (.tuple (ss.map PyData.str))) := by
  obtain ⟨a, hx, hl⟩ := ht
  refine ⟨?_⟩
  refine pe_imp (pe_glob (v := .ref a) hg hx rfl hd) (lift_c fun O H => ?_)
  unfold tupLook at hl
  split at hl
  · rename_i n dd its c sl hk
    rw [Bool.and_eq_true] at hl
    have rv := strs_vals hl.2
    have hn := of_decide_eq_true hl.1
    subst hn
    refine .tup (vs := ss.map V.str) (.inr (.inr ⟨_, its, c, hk, rfl, rfl, ?_, rv⟩)) (reps_strs ss)
    have := rv.length
    rw [List.length_map] at this
    have e2 : its.toList.length = its.size := Array.length_toList
    omega
  · cases hl
noncomputable def tabO (a : Addr) (o : Obj) (B : List (Str × Int)) : Bool := PyProof.Rows.KTD.tabLook (PyProof.Rows.KTD.datLooks fun _ => none) (fun _ => some o) a (tabD B)
theorem rows_same {g g' : Addr → Option Obj} : ∀ (es : List DictEntry) (B : List (Str × Int)), PyProof.Rows.KTD.rowsLook (PyProof.Rows.KTD.datLooks g) es (tabD B) = PyProof.Rows.KTD.rowsLook (PyProof.Rows.KTD.datLooks g') es (tabD B)
  | [], [] => rfl
  | [], (_, _) :: _ => rfl
  | _ :: _, [] => rfl
  | e :: es, (x, i) :: B => by
    have ih := rows_same (g := g) (g' := g') es B
    unfold tabD at ih ⊢
    rw [List.map_cons]
    unfold PyProof.Rows.KTD.rowsLook
    rw [ih]
    rfl
theorem tabO_look {K : PySem.W.Frag} {a : Addr} {o : Obj} (h : K.lookup a = some o) (g : tabO a o B = true) : PyProof.Rows.KTD.tabLook (PyProof.Rows.KTD.datLooks fun b => K.lookup b) (fun b => K.lookup b) a (tabD B) = true := by
  unfold tabO PyProof.Rows.KTD.tabLook at g
  unfold PyProof.Rows.KTD.tabLook
  dsimp only at g ⊢
  rw [h]
  rw [← g]
  dsimp only
  cases o.data <;> first | rfl | (dsimp only; rw [rows_same (g' := fun _ => none)])
noncomputable def tupO (o : Obj) (ss : List Str) : Bool := tupLook (fun _ => some o) 0 ss
theorem tupO_look {K : PySem.W.Frag} {a : Addr} {o : Obj} {ss : List Str} (h : K.lookup a = some o) (g : tupO o ss = true) : tupLook (fun b => K.lookup b) a ss = true := by
  unfold tupO tupLook at g
  unfold tupLook
  dsimp only
  rw [h]
  exact g
end
end D
namespace D
open PySem PySem.Spec PyProof.Rows L2
mutual
noncomputable def tupB : PyData → Bool
  | .tuple ds => tupBs ds
  | .list _ => false
  | .dict _ => false
  | _ => true
noncomputable def tupBs : List PyData → Bool
  | [] => true
  | d :: r => tupB d && tupBs r
end
section
variable {K : PySem.W.Frag} {O : Addr → Prop} {H : Hp}
theorem TupAt.own (hm : ∀ b, O b → Mut (H b)) {a : Addr} {vs : List V} (t : TupAt K (fun _ => False) H a vs) : TupAt K O H a vs := by
  rcases t with ⟨_, t⟩ | t
  · refine .inl ⟨fun z => ?_, t⟩
    rcases hm a z with ⟨us, e⟩ | ⟨us, e⟩ | ⟨C, dx, us, e⟩ <;> rcases t with t | ⟨o, t⟩ <;> (rw [e] at t; cases t)
  · exact .inr t
mutual
theorem Rep.own (hm : ∀ b, O b → Mut (H b)) : ∀ {v : V} {d : PyData}, Rep K (fun _ => False) H v d → tupB d = true → Rep K O H v d
  | _, _, .non, _ => .non
  | _, _, .bl b, _ => .bl b
  | _, _, .int i, _ => .int i
  | _, _, .str x, _ => .str x
  | _, _, .tup t r, h => .tup (t.own hm) (Reps.own hm r (by simpa [tupB] using h))
  | _, _, .lst t r, h => by simp [tupB] at h
  | _, _, .dct n t r, h => by simp [tupB] at h
theorem Reps.own (hm : ∀ b, O b → Mut (H b)) : ∀ {vs : List V} {ds : List PyData}, Reps K (fun _ => False) H vs ds → tupBs ds = true → Reps K O H vs ds
  | _, _, .nil, _ => .nil
  | _, _, .cons (d := d) (ds := ds) r t, h => by
    have h' : (tupB d && tupBs ds) = true := by simpa [tupBs] using h
    rw [Bool.and_eq_true] at h'
    exact .cons (Rep.own hm r h'.1) (Reps.own hm t h'.2)
end
end
section
variable {X : Cx} {pos : Pos} {k : Nat}
end
section
variable {K : PySem.W.Frag} {O₀ : Addr → Prop} {H₀ : Hp} {F : List ((Addr → Prop) × Hp)} {ts : List Addr} {O : Addr → Prop} {H H1 : Hp} {σ : L2.St} {ρ : Rho} {T T1 : Tp}
theorem RS.take {i : Nat} {p : Addr} {o : HO} {y : PyData} (r : RS K O₀ H₀ F ts O H σ ρ T) (oa : O p) (nt : p ∉ ts) (h0 : H₀ p = none ∧ ¬ O₀ p) (nh : ∀ (j : Nat) (ys : PyData), ρ[j]? = some (some (W.loc ys)) → σ[j]? = some (some (V.ref p)) → False) (hm : Mut (some o)) (rv : Le O H O (upd H p o) → OwnAt K O (upd H p o) p y) :
    RS K O₀ H₀ F ts O (upd H p o) (σ.set i (some (.ref p))) (ρ.set i (some (.loc y))) T := by
  have le : Le O H O (upd H p o) := fun b o n e => ⟨n, by rw [upd_ne (show b ≠ p from fun z => n (by rw [z]; exact oa))]; exact e⟩
  have at_i : ∀ {w : W}, (ρ.set i (some w))[i]? = some (some w) ∨ (ρ.set i (some w))[i]? = none := fun {w} => by
    by_cases hl : i < ρ.length
    · exact .inl (List.getElem?_set_self hl)
    · exact .inr (List.getElem?_eq_none (by simp; omega))
  refine ⟨⟨r.hc.own, fun b hb => ?_, r.hc.nd, r.hc.len, fun j a ys e1 e2 => ?_⟩, fun j w e => ?_, r.sub, r.ots, fun b o n e => ?_, fun j ys a e1 e2 => ?_, fun j k ys zs v e1 e2 e3 e4 => ?_, fun f hf => (r.frs f hf).trans le, by simp [r.len]⟩
  · by_cases z : b = p
    · subst z; rw [upd_same]; exact hm
    · rw [upd_ne z]; exact r.hc.trk b hb
  · exact (r.hc.tape j a ys e1 e2).mono (fun o' h1 => by rw [upd_ne (show a ≠ p from fun z => nt (by rw [← z]; exact List.mem_of_getElem? e1))]; exact h1) le
  · by_cases z : i = j
    · subst z
      have hl : i < ρ.length := by
        have := (List.getElem?_eq_some_iff.mp e).1
        simpa using this
      rw [List.getElem?_set_self hl] at e
      cases e
      exact ⟨.ref p, by rw [List.getElem?_set_self (by rw [r.len]; exact hl)], p, rfl, oa, nt, rv le⟩
    · rw [List.getElem?_set_ne z] at e
      obtain ⟨x, h1, h2⟩ := r.re j w e
      refine ⟨x, by rw [List.getElem?_set_ne z]; exact h1, ?_⟩
      cases w with
      | d x => exact Rep.mono le h2
      | tp k => exact h2
      | loc zs =>
        obtain ⟨b, eb, k1, k2, k3⟩ := h2
        have n : b ≠ p := fun q => nh j zs e (by rw [h1, eb, q])
        exact ⟨b, eb, k1, k2, k3.mono (fun o' q => by rw [upd_ne n]; exact q) le⟩
  · have := r.same b o n e
    rw [upd_ne (show b ≠ p from fun z => by rw [z, h0.1] at e; cases e)]
    exact this
  · by_cases z : i = j
    · subst z
      have hl : i < ρ.length := by
        have := (List.getElem?_eq_some_iff.mp e1).1
        simpa using this
      rw [List.getElem?_set_self (by rw [r.len]; exact hl)] at e2
      cases e2
      exact h0
    · rw [List.getElem?_set_ne z] at e1 e2
      exact r.fresh j ys a e1 e2
  · by_cases z : i = j
    · by_cases z' : i = k
      · rw [← z, ← z']
      · exfalso
        subst z
        have hl : i < ρ.length := by
          have := (List.getElem?_eq_some_iff.mp e1).1
          simpa using this
        rw [List.getElem?_set_self (by rw [r.len]; exact hl)] at e3
        cases e3
        rw [List.getElem?_set_ne z'] at e2 e4
        exact nh k zs e2 e4
    · by_cases z' : i = k
      · exfalso
        subst z'
        have hl : i < ρ.length := by
          have := (List.getElem?_eq_some_iff.mp e2).1
          simpa using this
        rw [List.getElem?_set_self (by rw [r.len]; exact hl)] at e4
        cases e4
        rw [List.getElem?_set_ne z] at e1 e3
        exact nh j ys e1 e3
      · rw [List.getElem?_set_ne z] at e1 e3
        rw [List.getElem?_set_ne z'] at e2 e4
        exact r.dist j k ys zs v e1 e2 e3 e4
end
section
variable {X : Cx} {pos : Pos}
end
end D
namespace D
open PySem PySem.Spec PyProof.Rows L2
section
variable {X : Cx} {pos : Pos} {e : Expr} {f : FE} {x : Str} {p : Pos} {B : List (Str × Str)}
end
end D
namespace D
open PySem PySem.Spec PyProof.Rows L2
noncomputable def lookP (f : Str) : List PyData → Option PyData
  | .tuple [.str g, y] :: r => if g = f then some y else lookP f r
  | _ => none
noncomputable def putP (f : Str) (y : PyData) : List PyData → List PyData
  | .tuple [.str g, z] :: r => if g = f then .tuple [.str g, y] :: r else .tuple [.str g, z] :: putP f y r
  | _ => [.tuple [.str f, y]]
noncomputable def objR (C : Addr) : List PyData → Option (List PyData)
  | .dict [(.none, .int c)] :: ps => if c = (C : Int) then some ps else none
  | _ => none
noncomputable def objAt (C : Addr) (T : Tp) (n : Nat) : Option (List PyData) := (T[n]?).bind (objR C)
section
variable {K : PySem.W.Frag} {O : Addr → Prop} {ts : List Addr} {H H' : Hp} {T : Tp} {n : Nat} {a C : Addr} {ps : List PyData}
theorem objR_of {xs : List PyData} (h : objR C xs = some ps) : xs = tagO C :: ps := by
  unfold objR at h
  split at h
  · split at h
    · rename_i hc
      cases h
      rw [hc]
      rfl
    · cases h
  · cases h
theorem objAt_of (h : objAt C T n = some ps) : T[n]? = some (tagO C :: ps) := by
  unfold objAt at h
  cases hT : T[n]? with
  | none => rw [hT] at h; cases h
  | some xs =>
    rw [hT] at h
    have h' : objR C xs = some ps := h
    rw [objR_of h']
theorem HC.obj (c : HC K O ts H T) (e : ts[n]? = some a) (h : objAt C T n = some ps) : ∃ dx fs fd, H a = some (.ins C dx fs) ∧ ps = fd.map pairF ∧ RepF K O H fs fd := by
  rcases c.tape n a _ e (objAt_of h) with ⟨no, _⟩ | ⟨C', dx, fs, fd, h1, h2, h3⟩
  · cases no
  · injection h2 with e1 e2
    have e3 : (C : Int) = (C' : Int) := by
      have z : PyData.dict [(.none, .int (C : Int))] = .dict [(.none, .int (C' : Int))] := e1
      injection z with z
      injection z with z _
      injection z with _ z
      injection z
    have e4 : C = C' := by exact Int.ofNat.inj e3
    subst e4
    exact ⟨dx, fs, fd, h1, e2, h3⟩
theorem RepF.look {f : Str} {fs : List (Str × V)} {fd : List (Str × PyData)} (r : RepF K O H fs fd) : (lookP f (fd.map pairF) = none ∧ fs.lookup f = none) ∨ ∃ v y, lookP f (fd.map pairF) = some y ∧ fs.lookup f = some v ∧ Rep K O H v y := by
  induction r with
  | nil => exact .inl ⟨rfl, rfl⟩
  | cons r _ ih =>
    rename_i g v d vs ds _
    by_cases hg : g = f
    · subst hg
      refine .inr ⟨v, d, ?_, ?_, r⟩
      · show (if g = g then some d else _) = _
        rw [if_pos rfl]
      · rw [List.lookup_cons, beq_self_eq_true]
    · have e1 : lookP f (((g, d) :: ds).map pairF) = lookP f (ds.map pairF) := if_neg hg
      have e2 : List.lookup f ((g, v) :: vs) = List.lookup f vs := by
        rw [List.lookup_cons, show (f == g) = false from beq_false_of_ne (Ne.symm hg)]
      rw [e1, e2]
      exact ih
noncomputable def putFD (f : Str) (y : PyData) : List (Str × PyData) → List (Str × PyData)
  | [] => [(f, y)]
  | (g, x) :: r => if g = f then (g, y) :: r else (g, x) :: putFD f y r
theorem RepF.put {f : Str} {v : V} {y : PyData} (ry : Rep K O H v y) {fs : List (Str × V)} {fd : List (Str × PyData)} (r : RepF K O H fs fd) : RepF K O H (putF f v fs) (putFD f y fd) := by
  induction r with
  | nil => exact .cons ry .nil
  | cons r t ih =>
    rename_i g v' d vs ds
    unfold putF putFD
    by_cases hg : g = f
    · rw [if_pos hg, if_pos hg]
      exact .cons ry t
    · rw [if_neg hg, if_neg hg]
      exact .cons r ih
theorem putP_map {f : Str} {y : PyData} : ∀ fd : List (Str × PyData), putP f y (fd.map pairF) = (putFD f y fd).map pairF
  | [] => rfl
  | (g, x) :: r => by
    have e : putP f y (((g, x) :: r).map pairF) = if g = f then .tuple [.str g, y] :: r.map pairF else .tuple [.str g, x] :: putP f y (r.map pairF) := rfl
    have e' : putFD f y ((g, x) :: r) = if g = f then (g, y) :: r else (g, x) :: putFD f y r := rfl
    rw [e, e', putP_map r]
    by_cases hg : g = f
    · rw [if_pos hg, if_pos hg]; rfl
    · rw [if_neg hg, if_neg hg]; rfl
end
section
variable {X : Cx} {C : Addr} {o e : Expr} {f m : Str} {pos pos' apos : Pos} {fo fe : FE}
noncomputable def fldK (C : Addr) (f : Str) (w : W) (T : Tp) : Option (W × Tp) := match w with
  | .tp n => (match objAt C T n with
    | some ps => (match lookP f ps with
      | some y => some (.d y, T)
      | none => none)
    | none => none)
  | _ => none
noncomputable def fFld (C : Addr) (f : Str) (fo : FE) : FE := fun ρ T => bnd (fo ρ T) (fldK C f)
theorem de_fld (c : Cls X.K C) (n : NoAttr X.K C f) (ho : DE X o fo) (hb : attributeBase o f X.env (eval o X.env) = eval o X.env := by rfl) : DE X (.Attribute o f pos) (fFld C f fo) := by
  refine ⟨?_⟩
  refine pe_imp (pe_fld ho.pe hb) fun σ H Q => ?_
  rintro ⟨O, ts, ρ, T, w, T', hc, re, e, q⟩
  obtain ⟨w1, T1, e1, e⟩ := bnd_of e
  refine ⟨O, ts, ρ, T, w1, T1, hc, re, e1, fun v1 H1 s1 hc1 r1 => ?_⟩
  cases w1 with
  | tp k =>
    unfold fldK at e
    dsimp only at e
    split at e
    · rename_i ps h1
      split at e
      · rename_i y h2
        cases e
        obtain ⟨a, k1, rfl⟩ := r1
        obtain ⟨dx, fs, fd, g1, g2, g3⟩ := hc1.obj k1 h1
        subst g2
        rcases g3.look (f := f) with ⟨z, _⟩ | ⟨v, y', z1, z2, z3⟩
        · rw [z] at h2; cases h2
        · rw [z1] at h2
          cases h2
          exact ⟨a, C, dx, fs, v, rfl, g1, c, n, z2, q v H1 s1 hc1 z3⟩
      · cases e
    · cases e
  | d x => cases e
  | loc x => cases e
noncomputable def setFK (C : Addr) (f : Str) (ρ : Rho) (w o : W) (T : Tp) : Option ((Fl × Rho) × Tp) := match w, o with
  | .d y, .tp n => (match objAt C T n with
    | some ps => if ps.length < 1000 then some ((.nx, ρ), T.set n (tagO C :: putP f y ps)) else none
    | none => none)
  | _, _ => none
noncomputable def fSetF (C : Addr) (f : Str) (fo fe : FE) : FS := fun ρ T => bnd (fe ρ T) fun w T1 => bnd (fo ρ T1) (setFK C f ρ w)
theorem ds_fld (c : Cls X.K C) (n : NoAttr X.K C f) (ho : DE X o fo) (he : DE X e fe) (hs : swapsWith e (some (.Attribute o f pos')) pos.line X.env = pure false := by rfl) : DS X (.Assign [.Attribute o f pos'] e pos) (fSetF C f fo fe) := by
  refine ⟨?_⟩
  refine ps_imp (ps_fld ho.pe he.pe hs) fun D σ H => ?_
  rintro ⟨O₀, H₀, F, ts, O, ρ, T, fl, ρ', T', rs, e, q⟩
  obtain ⟨w, T1, e1, e⟩ := bnd_of e
  obtain ⟨wo, T2, e2, e⟩ := bnd_of e
  refine ⟨O, ts, ρ, T, w, T1, rs.hc, rs.re, e1, fun v H1 s1 hc1 r1 => ?_⟩
  have rs1 := rs.step s1 hc1
  refine ⟨O, ts, ρ, T1, wo, T2, hc1, rs1.re, e2, fun vo H2 s2 hc2 r2 => ?_⟩
  have rs2 := rs1.step s2 hc2
  cases w with
  | tp j => cases e
  | loc j => cases e
  | d y =>
  cases wo with
  | d j => cases e
  | loc j => cases e
  | tp k =>
    unfold setFK at e
    dsimp only at e
    split at e
    · rename_i ps h1
      split at e
      · rename_i hl
        cases e
        obtain ⟨a, k1, rfl⟩ := r2
        obtain ⟨dx, fs, fd, g1, g2, g3⟩ := hc2.obj k1 h1
        have hlen : fs.length = fd.length := by
          clear g1 g2
          induction g3 with
          | nil => rfl
          | cons _ _ ih => simp [ih]
        refine ⟨a, C, dx, fs, rfl, g1, c, n, by rw [hlen]; rw [g2] at hl; simpa using hl, ?_⟩
        have ry : Rep X.K O H2 v y := Rep.mono (hc1.le s2) r1
        refine q O _ _ (rs2.tapeO k1 (.inr (.inr ⟨_, _, _, rfl⟩)) fun le => .inr ⟨C, dx, _, putFD f y fd, upd_same, ?_, (g3.mono le).put (Rep.mono le ry)⟩)
        rw [g2, putP_map]
      · cases e
    · cases e
structure Mth (P : Program) (w : World) (K : PySem.W.Frag) (mg : Str → Option Value) (base : Heap) (C : Addr) (m : Str) (ps : List Str) (k : Nat) (sp : Sp) : Prop where
  ex : ∃ f fd, FnOk P w K mg base CX0 k f fd ps sp ∧ Binds K fd ps [] ∧ Meth K C m f
theorem Mth.mono {P : Program} {w : World} {K : PySem.W.Frag} {mg : Str → Option Value} {base : Heap} {ps : List Str} {k k' : Nat} {sp : Sp} (F : Mth P w K mg base C m ps k sp) (h : k ≤ k') : Mth P w K mg base C m ps k' sp := by
  obtain ⟨f, fd, h1, h2⟩ := F.ex
  exact ⟨f, fd, h1.mono h, h2⟩
noncomputable def methK (C : Addr) (m : Str) (mm : FnM) (g : FA) (ρ : Rho) (w : W) (T : Tp) : Option (W × Tp) := match w with
  | .tp n => (match objAt C T n with
    | some ps => if (lookP m ps).isNone = true then bnd (g ρ T) fun ws T2 => bnd (mm (.tp n :: ws) T2) fun x T3 => some (.d x, T3) else none
    | none => none)
  | _ => none
noncomputable def fMeth (C : Addr) (m : Str) (mm : FnM) (fo : FE) (g : FA) : FE := fun ρ T => bnd (fo ρ T) (methK C m mm g ρ)
variable {ps : List Str} {k : Nat} {mm : FnM} {g : FA} {es : List Expr} {pl : Sem Bool}
theorem meth_imp {lv : Nat} (hl : LenA g lv) (h1 : ps.length = lv + 1) {σ : L2.St} {H : Hp} {Q : VK} (h : lift X.K (fMeth C m mm fo g) σ H Q) : tMeth C m (spM X.K ps.length mm) [] E0 (lift X.K fo) (liftA X.K g) σ H Q := by
  obtain ⟨O, ts, ρ, T, w, T', hc, re, e, q⟩ := h
  obtain ⟨w1, T1, e1, e⟩ := bnd_of e
  refine ⟨O, ts, ρ, T, w1, T1, hc, re, e1, fun v1 H1 s1 hc1 r1 => ?_⟩
  cases w1 with
  | tp n =>
    unfold methK at e
    dsimp only at e
    split at e
    · rename_i qs o1
      split at e
      · rename_i hn
        obtain ⟨ws, T2, e2, e⟩ := bnd_of e
        obtain ⟨x, T3, e3, e⟩ := bnd_of e
        cases e
        obtain ⟨a, k1, rfl⟩ := r1
        obtain ⟨dx, fs, fd, g1, g2, g3⟩ := hc1.obj k1 o1
        subst g2
        have l0 : fs.lookup m = none := by
          rcases g3.look (f := m) with ⟨_, z⟩ | ⟨v, y', z1, z2, z3⟩
          · exact z
          · rw [z1] at hn; cases hn
        refine ⟨a, dx, fs, rfl, g1, l0, O, ts, ρ, T1, ws, T2, hc1, re.mono hc s1, e2, fun vs H2 s2 hc2 r2 => ?_⟩
        refine ⟨O, ts, T2, .tp n :: ws, x, _, hc2, ?_, by rw [h1, List.length_cons, hl _ _ _ _ e2], e3, fun v H3 s3 hc3 r3 => q v H3 (s1.trans (s2.trans s3)) hc3 r3⟩
        rw [List.append_nil]
        exact .cons ⟨a, k1, rfl⟩ r2
      · cases e
    · cases e
  | d x => cases e
  | loc x => cases e
theorem de_meth {lv : Nat} (F : Mth X.prog X.w X.K X.mg X.base C m ps k (spM X.K ps.length mm)) (c : Cls X.K C) (hr : Room k X.A) (ho : DE X o fo) (ha : DA X (e :: es) g) (hl : LenA g lv) (h1 : ps.length = lv + 1 := by rfl)
    (he : starEach (e :: es) X.env = (false, eval e X.env) :: starEach es X.env := by exact star_cons rfl) (hpl : (backTo pos (starEach es X.env)).any (·.1) = false := by exact star_any rfl)
    (ht : eval (.Call (.Attribute o m apos) (e :: es) [] pos) X.env = (do
      let ov ← eval o X.env
      standAt apos.atName
      let (f, first) ← holding [ov] (getMethod ov m pl)
      callWith pos f first (backTo pos (starEach (e :: es) X.env)) (backToKw pos (keywordEach [] X.env))) := by rfl) : DE X (.Call (.Attribute o m apos) (e :: es) [] pos) (fMeth C m mm fo g) := by
  obtain ⟨f, fd, F1, F2, F3⟩ := F.ex
  refine ⟨?_⟩
  exact pe_imp (pe_meth ho.pe c F3 F1 hr F2 .nil pass0 ha.pe he hpl ht) fun σ H Q h => meth_imp hl h1 h
theorem de_meth0 (F : Mth X.prog X.w X.K X.mg X.base C m ps k (spM X.K ps.length mm)) (c : Cls X.K C) (hr : Room k X.A) (ho : DE X o fo) (h1 : ps.length = 1 := by rfl)
    (ht : eval (.Call (.Attribute o m apos) [] [] pos) X.env = (do
      let ov ← eval o X.env
      standAt apos.atName
      let (f, first) ← holding [ov] (getMethod ov m pl)
      callWith pos f first (backTo pos (starEach [] X.env)) (backToKw pos (keywordEach [] X.env))) := by rfl) : DE X (.Call (.Attribute o m apos) [] [] pos) (fMeth C m mm fo fNil) := by
  obtain ⟨f, fd, F1, F2, F3⟩ := F.ex
  refine ⟨?_⟩
  exact pe_imp (pe_meth0 ho.pe c F3 F1 hr F2 .nil pass0 ht) fun σ H Q h => by
    have := meth_imp (X := X) (ps := ps) len_nil h1 h
    obtain ⟨O, ts, ρ, T, w, T', hc, re, e, q⟩ := this
    refine ⟨O, ts, ρ, T, w, T', hc, re, e, fun v H1 s1 hc1 r1 => ?_⟩
    obtain ⟨a, dx, fs, ea, e1, e2, O2, ts2, ρ2, T2, ws, T3, hc2, re2, e3, q2⟩ := q v H1 s1 hc1 r1
    cases e3
    exact ⟨a, dx, fs, ea, e1, e2, q2 [] H1 (.refl _ _) hc2 .nil⟩
noncomputable def fNone : FS := fun _ _ => none
theorem ds_none {st : Stmt} : DS X st fNone := ⟨fun _ _ _ _ _ _ h => by
  obtain ⟨O₀, H₀, F, ts, O, ρ, T, fl, ρ', T', rs, e, q⟩ := h
  cases e⟩
end
end D
namespace D
open PySem PySem.Spec PyProof.Rows L2
noncomputable def lastR (T : Tp) : Option (Tp × List PyData) := match T.getLast? with
  | some xs => some (T.dropLast, xs)
  | none => none
theorem lastR_of {T T1 : Tp} {ys : List PyData} (h : lastR T = some (T1, ys)) : T = T1 ++ [ys] := by
  unfold lastR at h
  split at h
  · rename_i xs e
    cases h
    obtain ⟨zs, hl⟩ := List.getLast?_eq_some_iff.mp e
    rw [hl]
    simp
  · cases h
noncomputable def plainR : Rho → Bool
  | [] => true
  | none :: r => plainR r
  | some (.d _) :: r => plainR r
  | _ :: _ => false
theorem plainR_at : ∀ {ρ : Rho} {j : Nat} {w : W}, plainR ρ = true → ρ[j]? = some (some w) → ∃ x, w = .d x
  | [], _, _, _, e => by simp at e
  | none :: r, 0, _, h, e => by simp at e
  | some (.d x) :: r, 0, _, h, e => by simp at e; exact ⟨x, e.symm⟩
  | some (.tp _) :: _, _, _, h, _ => by cases h
  | some (.loc _) :: _, _, _, h, _ => by cases h
  | none :: r, j + 1, w, h, e => plainR_at (ρ := r) (j := j) h (by simpa using e)
  | some (.d x) :: r, j + 1, w, h, e => plainR_at (ρ := r) (j := j) h (by simpa using e)
theorem frz_plain : ∀ {ρ : Rho}, plainR ρ = true → frzR ρ = ρ
  | [], _ => rfl
  | none :: r, h => by
    show none :: frzR r = none :: r
    rw [frz_plain (ρ := r) h]
  | some (.d x) :: r, h => by
    show some (W.d x) :: frzR r = some (W.d x) :: r
    rw [frz_plain (ρ := r) h]
  | some (.tp _) :: _, h => by cases h
  | some (.loc _) :: _, h => by cases h
noncomputable def mkEnd (o : Option ((Fl × Rho) × Tp)) : Option ((Fl × Rho) × Tp) := match o with
  | some ((.rt y, ρ'), T3) => (match lastR T3 with
    | some (T4, _) => some ((.rt y, ρ'), T4)
    | none => none)
  | _ => none
noncomputable def mkK (i : Nat) (C : Addr) (m : FnM) (fr : FS) (ρ : Rho) (w : W) (T1 : Tp) : Option ((Fl × Rho) × Tp) := match w with
  | .d x0 => (match m [.tp T1.length, .d x0] (T1 ++ [[tagO C]]) with
    | some (.none, T2) => mkEnd (fr (ρ.set i (some (.tp T1.length))) T2)
    | _ => none)
  | _ => none
noncomputable def fMake (i : Nat) (C : Addr) (m : FnM) (fe : FE) (fr : FS) : FS := fun ρ T => if plainR ρ = true then bnd (fe ρ T) (mkK i C m fr ρ) else none
section
variable {X : Cx} {C f : Addr} {e : Expr} {fe : FE} {fr : FS} {rest : List Stmt} {cn x : Str} {p pos pos' cpos : Pos} {ps : List Str} {k i : Nat} {m : FnM} {fd : FuncData}
theorem dss_make (M : Mk X.K C f) (Fi : FnOk X.prog X.w X.K X.mg X.base CX0 k f fd ps (spM X.K ps.length m)) (hb : Binds X.K fd ps []) (hr : Room (k + 1) X.A) (hg : Gl X cn) (hm : X.mg cn = some (.ref C)) (hN : X.N.Nodup) (he : DE X e fe) (hrest : DSs X rest fr)
    (h2 : ps.length = 2 := by rfl) (hi : X.N[i]? = some x := by rfl) (hx : Loc X.env.scope x := by first | exact Or.inl rfl | exact Or.inr rfl) (hdb : (cn == ("__debug__" : Str)) = false := by decide)
    (hse : starEach [e] X.env = (false, eval e X.env) :: starEach [] X.env := by exact star_cons rfl) (hpl : (backTo cpos (starEach [] X.env)).any (·.1) = false := by exact star_any rfl)
    (hs : swapsWith (.Call (.Name cn p) [e] [] cpos) (some (.Name x pos')) pos.line X.env = pure false := by rfl) (hf : X.fn x = true ∨ X.env.scope.names.lookup x = some .local := by first | exact .inl rfl | exact .inr rfl | assumption) :
    DSs X (.Assign [.Name x pos'] (.Call (.Name cn p) [e] [] cpos) pos :: rest) (fMake i C m fe fr) := by
  refine ⟨?_⟩
  refine pss_imp (pss_cons (ps_set hN hi hx (pe_make M Fi hr hg hm hb .nil pass0 (pa_cons he.pe pa_nil hse) hdb hse hpl) hs hf) hrest.pe) fun D σ H => ?_
  rintro ⟨O₀, H₀, F, ts, O, ρ, T, fl, ρ', T', rs, e, q⟩
  unfold fMake at e
  split at e
  · rename_i hp
    obtain ⟨w, T1, e1, e⟩ := bnd_of e
    obtain ⟨c0, re0⟩ := rs.frz
    rw [frz_plain hp] at re0
    refine ⟨O₀, ts, ρ, T, w, T1, c0, re0, e1, fun v1 H1 s1 hc1 r1 => ?_⟩
    cases w with
    | tp j => cases e
    | loc y => cases e
    | d x0 =>
      unfold mkK at e
      dsimp only at e
      split at e
      · rename_i T2 em
        intro px dx hpx hdx hne
        have re1 := re0.mono c0 s1
        have nO := hc1.fresh hpx
        have nOd := hc1.fresh hdx
        have nt : px ∉ ts := fun z => nO (hc1.own _ z)
        have U : ∀ b, b ≠ px → b ≠ dx → upd (upd H1 dx (.own px)) px (.ins C dx []) b = H1 b := fun b n1 n2 => by rw [upd_ne n1, upd_ne n2]
        have le : Le O₀ H1 (fun b => O₀ b ∨ b = px) (upd (upd H1 dx (.own px)) px (.ins C dx [])) := fun a o n e => by
          have z1 : a ≠ px := ne_of_none e hpx
          have z2 : a ≠ dx := ne_of_none e hdx
          exact ⟨fun q => q.elim n z1, by rw [U a z1 z2]; exact e⟩
        have hcN : HC X.K (fun b => O₀ b ∨ b = px) (ts ++ [px]) (upd (upd H1 dx (.own px)) px (.ins C dx [])) (T1 ++ [[tagO C]]) := by
          refine ⟨fun b hb => ?_, fun b hb => ?_, ?_, by simp [hc1.len], fun j b zs q1 q2 => ?_⟩
          · rcases List.mem_append.mp hb with z | z
            · exact .inl (hc1.own b z)
            · exact .inr (List.mem_singleton.mp z)
          · by_cases z : b = px
            · rw [z, upd_same]; exact .inr (.inr ⟨_, _, _, rfl⟩)
            · have hb' := hb.resolve_right z
              have z2 : b ≠ dx := fun z2 => nOd (z2 ▸ hb')
              rw [U b z z2]
              exact hc1.trk b hb'
          · rw [List.nodup_append]
            exact ⟨hc1.nd, by simp, fun b hb c hc z => nt (by rw [← List.mem_singleton.mp hc, ← z]; exact hb)⟩
          · by_cases hj : j < ts.length
            · rw [List.getElem?_append_left hj] at q1
              rw [List.getElem?_append_left (by rw [← hc1.len]; exact hj)] at q2
              exact (hc1.tape j b zs q1 q2).mono (fun o h1 => by rw [U b (ne_of_none h1 hpx) (ne_of_none h1 hdx)]; exact h1) le
            · have hj2 : j = ts.length := by
                have := (List.getElem?_eq_some_iff.mp q1).1
                simp at this
                omega
              subst hj2
              have e1 : b = px := by simpa using q1.symm
              have e2 : zs = [tagO C] := by rw [hc1.len] at q2; simpa using q2.symm
              subst e1 e2
              exact .inr ⟨C, dx, [], [], upd_same, rfl, .nil⟩
        refine ⟨fun b => O₀ b ∨ b = px, ts ++ [px], T1 ++ [[tagO C]], [.tp T1.length, .d x0], .none, T2, hcN, .cons ⟨px, by rw [← hc1.len]; simp, rfl⟩ (.cons (Rep.mono le r1) .nil), by rw [h2]; rfl, em, fun v H2 s2 hc2 r2 => ?_⟩
        cases r2
        refine ⟨rfl, ?_⟩
        have dxn : dx ∉ ts ++ [px] := fun z => by
          rcases List.mem_append.mp z with z | z
          · exact nOd (hc1.own _ z)
          · exact hne (List.mem_singleton.mp z)
        have le2 : Le O₀ H1 (fun b => O₀ b ∨ b = px) H2 := le.trans (hcN.le s2)
        generalize hE : fr (ρ.set i (some (.tp T1.length))) T2 = E at e
        unfold mkEnd at e
        split at e
        · rename_i y ρ3 T3
          split at e
          · rename_i T4 row hT
            have eT := lastR_of hT
            subst eT
            cases e
            refine ⟨fun b => O₀ b ∨ b = px, H2, [], ts ++ [px], fun b => O₀ b ∨ b = px, _, T2, _, _, _, ⟨hc2, fun j u ej => ?_, fun _ h => h, hc2.own, .refl _ _, fun j xs a ej _ => ?_, fun j l xs ys v' ej _ _ _ => ?_, fun f hf => absurd hf (by simp), by simp [rs.len]⟩, hE, ?_⟩
            · by_cases z : i = j
              · subst z
                have hl : i < ρ.length := by
                  have := (List.getElem?_eq_some_iff.mp ej).1
                  simpa using this
                rw [List.getElem?_set_self hl] at ej
                cases ej
                exact ⟨.ref px, by rw [List.getElem?_set_self (by rw [rs.len]; exact hl)], px, by rw [← hc1.len]; simp, rfl⟩
              · rw [List.getElem?_set_ne z] at ej
                obtain ⟨y', rfl⟩ := plainR_at hp ej
                obtain ⟨x', k1, k2⟩ := re1 j _ ej
                exact ⟨x', by rw [List.getElem?_set_ne z]; exact k1, Rep.mono le2 k2⟩
            · exfalso
              obtain ⟨_, ej⟩ := set_loc (w := .tp T1.length) (fun _ z => by cases z) ej
              obtain ⟨_, z⟩ := plainR_at hp ej
              cases z
            · exfalso
              obtain ⟨_, ej⟩ := set_loc (w := .tp T1.length) (fun _ z => by cases z) ej
              obtain ⟨_, z⟩ := plainR_at hp ej
              cases z
            · intro v' H3 s3 hc3 r3
              have lb : Le (fun b => O₀ b ∨ b = px) H3 O₀ H3 := fun a o n e => ⟨fun z => n (.inl z), e⟩
              have lenT : ts.length = T'.length := by have := hc3.len; simp at this; exact this
              refine q v' H3 (fun b o n eb => ?_) ⟨rs.ots, fun b hb => hc3.trk b (.inl hb), rs.hc.nd, lenT, fun j b zs q1 q2 => ?_⟩ (Rep.mono lb r3)
              · have eb1 := s1 b o n (rs.same b o n eb)
                have z1 : b ≠ px := ne_of_none eb1 hpx
                have z2 : b ≠ dx := ne_of_none eb1 hdx
                have nb : b ∉ ts ++ [px] := fun z => by
                  rcases List.mem_append.mp z with z | z
                  · exact n z
                  · exact z1 (List.mem_singleton.mp z)
                exact s3 b o nb (s2 b o nb (by rw [U b z1 z2]; exact eb1))
              · have hj : j < ts.length := (List.getElem?_eq_some_iff.mp q1).1
                exact (hc3.tape j b zs (by rw [List.getElem?_append_left hj]; exact q1) (by rw [List.getElem?_append_left (by rw [← lenT]; exact hj)]; exact q2)).mono (fun _ h => h) lb
          · cases e
        · cases e
      · cases e
  · cases e
end
end D
namespace L2
open PySem PySem.Spec PyProof.Rows
section
variable {X : Cx}
theorem vals_strs : ∀ (l : List (Str × Tok)), Vals ((l.map (·.1)).map V.str) (strValues l)
  | [] => .nil
  | p :: r => .cons ⟨p.2, rfl⟩ (vals_strs r)
theorem mt_split : MtR X "str.split" (fun x vs H Q => ∃ z y : Str, x = .str z ∧ vs = [.str y] ∧ (y.length == 0) = false ∧ z.length + 2 ≤ sizeLine ∧ ∀ l, H l = none → Q (.ref l) (upd H l (.lst ((Txt.split z y).map V.str)))) := by
  intro pins s σ H x vs v us Q I rx rv h
  obtain ⟨z, y, rfl, rfl, hy, hz, q⟩ := h
  obtain ⟨t, rfl⟩ := rx
  obtain ⟨u, rfl, ru⟩ := vals1 rv
  obtain ⟨t', rfl⟩ := ru
  have np : (Builtin.Str.partsBetween z (Builtin.Str.occurrences z y 0 z.length (z.length + 1)) y.length).length ≤ sizeLine := by
    have o1 := StrLaws.occ_length_le z y 0 z.length (z.length + 1)
    rw [length_partsBetween]; omega
  have fin : ∀ (l : List (Str × Tok)) (k : Nat), l.map (·.1) = Txt.split z y → l.length ≤ sizeLine → EP X pins σ Q (.ref s.heap.objs.size) { s with toks := k, heap := s.heap.push { cls := .type "list", data := .seq (strValues l).toArray } } := fun l k e hl => by
    have hn : ((Txt.split z y).map V.str).length ≤ sizeLine := by rw [← e]; simpa using hl
    refine ⟨.ref s.heap.objs.size, _, I.laid (t' := k) (fun b o w => Heap.get?_push_of_some _ w) (Nat.le_refl _) (show ObjOk X.prog X.w _ _ _ (.lst ((Txt.split z y).map V.str)) from ⟨hn, strValues l, 0, ?_, Heap.get?_push_size _ rfl⟩), rfl, q _ (I.hok.fresh (Nat.le_refl _))⟩
    rw [← e]
    exact vals_strs l
  cases c1 : (decide (z.length < y.length) || decide (Builtin.Str.strKind z < Builtin.Str.strKind y))
  · cases c2 : (Builtin.Str.occurrences z y 0 z.length (z.length + 1)).isEmpty
    · refine call_meets PySem.F.slot_str_split (typeIs_str _ _ _) PySem.F.entry_str_split (PySem.F.args_str_split_2 _ _) (meets_str_split_sep z y t t' c1 hy c2 (by omega) np) ?_
      show wants _ _ _ { s with toks := _, heap := s.heap.push { cls := .type "list", data := .seq (strsFrom s.toks (Builtin.Str.partsBetween z (Builtin.Str.occurrences z y 0 z.length (z.length + 1)) y.length)).toArray } }
      rw [strsFrom_eq]
      have e : (numbered s.toks (Builtin.Str.partsBetween z (Builtin.Str.occurrences z y 0 z.length (z.length + 1)) y.length)).map (·.1) = Txt.split z y := (numbered_texts s.toks (Builtin.Str.partsBetween z (Builtin.Str.occurrences z y 0 z.length (z.length + 1)) y.length)).trans ((if_neg (ne_true_of_eq_false c1)).trans (if_neg (ne_true_of_eq_false c2))).symm
      refine fin (numbered s.toks _) _ e ?_
      have e2 := congrArg List.length (numbered_texts s.toks (Builtin.Str.partsBetween z (Builtin.Str.occurrences z y 0 z.length (z.length + 1)) y.length))
      rw [List.length_map] at e2
      rw [e2]
      exact np
    · exact call_meets PySem.F.slot_str_split (typeIs_str _ _ _) PySem.F.entry_str_split (PySem.F.args_str_split_2 _ _) (meets_str_split_not_found z y t t' c1 hy c2) (fin [(z, t)] s.toks ((if_neg (ne_true_of_eq_false c1)).trans (if_pos c2)).symm (by show 1 ≤ sizeLine; decide))
  · exact call_meets PySem.F.slot_str_split (typeIs_str _ _ _) PySem.F.entry_str_split (PySem.F.args_str_split_2 _ _) (meets_str_split_cannot_occur z y t t' c1) (fin [(z, t)] s.toks (if_pos c1).symm (by show 1 ≤ sizeLine; decide))
noncomputable def eqT (y : Str) : Value → Bool
  | .str a _ => a == y
  | _ => false
theorem vals_at : ∀ {xs : List V} {us : List Value} {i : Nat} {x : V}, Vals xs us → xs[i]? = some x → ∃ u, us[i]? = some u ∧ RelV x u
  | _, _, _, _, .nil, e => by simp at e
  | _, _, 0, _, .cons r _, e => by simp at e; subst e; exact ⟨_, rfl, r⟩
  | _, _, i + 1, x, .cons _ t, e => by
    obtain ⟨u, h1, h2⟩ := vals_at (i := i) (x := x) t (by simpa using e)
    exact ⟨u, by simpa using h1, h2⟩
theorem mt_index : MtR X "list.index" (fun x vs H Q => ∃ (a : Addr) (ys : List Str) (y : Str) (j : Nat), x = .ref a ∧ vs = [.str y] ∧ SqL X.K H a (ys.map V.str) ∧ ys[j]? = some y ∧ (∀ m, m < j → ys[m]? ≠ some y) ∧ Q (.int j) H) := by
  intro pins s σ H x vs v us Q I rx rv h
  obtain ⟨a, ys, y, j, rfl, rfl, hq, hj, hno, q⟩ := h
  cases rx
  obtain ⟨u, rfl, ru⟩ := vals1 rv
  obtain ⟨t', rfl⟩ := ru
  obtain ⟨its, rw', pl, hz⟩ := I.list hq
  have hlen : ys.length = its.length := by have := rw'.length; simpa using this
  have at_ : ∀ m (h : m < its.length), ∃ t, its[m] = .str (ys[m]'(by omega)) t := fun m h => by
    obtain ⟨u, k1, k2⟩ := vals_at rw' (i := m) (x := .str (ys[m]'(by omega))) (by simp)
    rw [List.getElem?_eq_getElem h] at k1
    cases k1
    exact k2
  have ht := pl.isList.typeIs
  obtain ⟨⟨c, d, dt, sl⟩, n, eo, hc, hd, hs⟩ := pl
  dsimp only at hc hd hs
  subst hc hd hs
  have hjl : j < ys.length := (List.getElem?_eq_some_iff.mp hj).1
  have hjy : ys[j] = y := (List.getElem?_eq_some_iff.mp hj).2
  have hz' : (j : Int) < 2 ^ 63 - 1 := by
    have h1 : j < sizeLine := Nat.lt_of_lt_of_le hjl (by simpa using hz)
    have h2 : (sizeLine : Int) ≤ 2 ^ 63 - 1 := by decide
    omega
  refine call_meets PySem.F.slot_list_index ht PySem.F.entry_list_index (PySem.F.args_list_index_2 _ _) (PySem.SeqAt.list_indexAt a its.toArray n none sl (.str y t') (eqT y) j (by simpa [← hlen] using hjl) hz' ?_ fun m hm hmj => ?_) ⟨eo, fun v hv => ?_, ⟨.int j, H, I.tok _, ⟨_, rfl⟩, q⟩⟩
  · obtain ⟨t, k⟩ := at_ j (by omega)
    show eqT y its[j] = true
    rw [k, hjy]
    exact beq_self_eq_true y
  · have hm' : m < its.length := by simpa using hm
    obtain ⟨t, k⟩ := at_ m hm'
    show eqT y its[m] = false
    rw [k]
    exact beq_false_of_ne fun z => hno m hmj (by rw [List.getElem?_eq_getElem (by omega), z])
  · obtain ⟨m, hm, hv'⟩ := List.getElem_of_mem (show v ∈ its by simpa using hv)
    obtain ⟨t, k⟩ := at_ m hm
    rw [← hv', k]
    exact PySem.SeqAt.EqAt.str_str _ t y t'
theorem call_str_str : CallR X (.type "str") (fun xs H Q => ∃ x, xs = [.str x] ∧ Q (.str x) H) := by
  intro pins s σ H xs us Q I r h
  obtain ⟨x, rfl, q⟩ := h
  obtain ⟨u, rfl, t, rfl⟩ := vals1 r
  exact PySem.P.str_of_str ⟨.str x, H, I, ⟨t, rfl⟩, q⟩
end
end L2
namespace D
open PySem PySem.Spec PyProof.Rows L2
section
variable {X : Cx} {pos : Pos}
noncomputable def splitD : PyData → PyData → Option PyData
  | .str z, .str y => if (y.length == 0) = false ∧ z.length + 2 ≤ sizeLine then some (.list ((Txt.split z y).map .str)) else none
  | _, _ => none
theorem de_split {o e : Expr} {fo fe : FE} {apos cpos : Pos} (ho : DE X o fo) (he : DE X e fe)
    (hbase : attributeBase o "split" X.env (eval o X.env) = eval o X.env := by rfl)
    (hfew : ((backTo cpos (starEach [e] X.env)).all (fun x => !x.1) && (backToKw cpos (keywordEach [] X.env)).all (fun x => x.1.isSome)
      && decide (([e] : List Expr).length + ([] : List Keyword).length + (if ([] : List Keyword).isEmpty then 0 else 1) < 30)) = true := by exact few1 rfl)
    (hline : (apos.endLine == cpos.line) = true := by rfl) (hse : starEach [e] X.env = (false, eval e X.env) :: starEach [] X.env := by exact star_cons rfl) (hplain : (backTo cpos (starEach [] X.env)).any (·.1) = false := by exact star_any rfl) :
    DE X (.Call (.Attribute o "split" apos) [e] [] cpos) (fBin splitD fo fe) := by
  refine ⟨?_⟩
  refine pe_imp (pe_bm PySem.F.plainAttrs_str PySem.F.slot_str_split PySem.F.type_str_split mt_split ho.pe (pa_cons he.pe pa_nil hse) hbase hfew hline hse hplain) fun σ H Q => ?_
  rintro ⟨O, ts, ρ, T, w, T', hc, re, e, q⟩
  obtain ⟨w1, T1, e1, e⟩ := bnd_of e
  obtain ⟨w2, T2, e2, e⟩ := bnd_of e
  obtain ⟨x, y, d, h1, h2, h3, rfl, rfl⟩ := op2_of e
  unfold splitD at h3
  split at h3
  · rename_i z y
    split at h3
    · rename_i hz
      cases h3
      cases view_str h1
      refine ⟨O, ts, ρ, T, _, T1, hc, re, e1, fun v1 H1 s1 hc1 r1 => ?_⟩
      cases (show Rep X.K O H1 v1 _ from r1)
      refine ⟨rfl, O, ts, ρ, T1, w2, T', hc1, re.mono hc s1, e2, fun v2 H2 s2 hc2 r2 => ?_⟩
      cases (hc2.view r2 h2).str
      exact ⟨z, y, rfl, rfl, hz.1, hz.2, fun l hl => q _ _ (s1.trans (s2.trans (.new hl _))) (hc2.new hl _) (hc2.newL hl (reps_strs _))⟩
    · cases h3
  · cases h3
noncomputable def idxT (y : Str) : List Str → Option Nat
  | [] => none
  | x :: r => if x = y then some 0 else (idxT y r).map (· + 1)
theorem idxT_of {y : Str} : ∀ {ys : List Str} {j : Nat}, idxT y ys = some j → ys[j]? = some y ∧ ∀ m, m < j → ys[m]? ≠ some y
  | [], _, h => by cases h
  | x :: r, j, h => by
    unfold idxT at h
    split at h
    · rename_i hx
      cases h
      exact ⟨by simp [hx], fun m hm => absurd hm (Nat.not_lt_zero _)⟩
    · rename_i hx
      obtain ⟨i, h1, rfl⟩ := Option.map_eq_some_iff.mp h
      obtain ⟨k1, k2⟩ := idxT_of h1
      refine ⟨by simpa using k1, fun m hm => ?_⟩
      cases m with
      | zero => simpa using hx
      | succ m => simpa using k2 m (by omega)
noncomputable def idxK (xs : List PyData) (w : W) (T : Tp) : Option (W × Tp) := match w with
  | .d (.str y) => (match strsD xs with
    | some ys => (match idxT y ys with
      | some j => some (.d (.int (j : Int)), T)
      | none => none)
    | none => none)
  | _ => none
noncomputable def fIdx (fo fe : FE) : FE := fun ρ T => bnd (fo ρ T) fun w T1 => match w with
  | .d (.list xs) => bnd (fe ρ T1) (idxK xs)
  | _ => none
theorem de_index {o e : Expr} {fo fe : FE} {apos cpos : Pos} (ho : DE X o fo) (he : DE X e fe)
    (hbase : attributeBase o "index" X.env (eval o X.env) = eval o X.env := by rfl)
    (hfew : ((backTo cpos (starEach [e] X.env)).all (fun x => !x.1) && (backToKw cpos (keywordEach [] X.env)).all (fun x => x.1.isSome)
      && decide (([e] : List Expr).length + ([] : List Keyword).length + (if ([] : List Keyword).isEmpty then 0 else 1) < 30)) = true := by exact few1 rfl)
    (hline : (apos.endLine == cpos.line) = true := by rfl) (hse : starEach [e] X.env = (false, eval e X.env) :: starEach [] X.env := by exact star_cons rfl) (hplain : (backTo cpos (starEach [] X.env)).any (·.1) = false := by exact star_any rfl) :
    DE X (.Call (.Attribute o "index" apos) [e] [] cpos) (fIdx fo fe) := by
  refine ⟨?_⟩
  refine pe_imp (pe_bm PySem.F.plainAttrs_list PySem.F.slot_list_index PySem.F.type_list_index mt_index ho.pe (pa_cons he.pe pa_nil hse) hbase hfew hline hse hplain) fun σ H Q => ?_
  rintro ⟨O, ts, ρ, T, w, T', hc, re, e, q⟩
  obtain ⟨w1, T1, e1, e⟩ := bnd_of e
  split at e
  · rename_i xs
    obtain ⟨w2, T2, e2, e⟩ := bnd_of e
    refine ⟨O, ts, ρ, T, _, T1, hc, re, e1, fun v1 H1 s1 hc1 r1 => ?_⟩
    obtain ⟨a1, vs1, rfl, t1, q1⟩ := (Vw.rep (show Rep X.K O H1 v1 (.list xs) from r1)).lst
    refine ⟨.inl ⟨rfl, vs1, t1⟩, O, ts, ρ, T1, w2, T2, hc1, re.mono hc s1, e2, fun v2 H2 s2 hc2 r2 => ?_⟩
    have r1' := Rep.mono (hc1.le s2) r1
    obtain ⟨a2, vs2, ea, t2, q2⟩ := (Vw.rep (show Rep X.K O H2 (.ref a1) (.list xs) from r1')).lst
    cases ea
    unfold idxK at e
    split at e
    · rename_i y
      split at e
      · rename_i ss hs
        split at e
        · rename_i j h1
          cases e
          obtain ⟨k1, k2⟩ := idxT_of h1
          rw [strs_of q2 hs] at t2
          cases (show Rep X.K O H2 v2 _ from r2)
          exact ⟨a1, ss, _, j, rfl, rfl, t2, k1, k2, q _ H2 (s1.trans s2) hc2 (.int _)⟩
        · cases e
      · cases e
    · cases e
  · cases e
noncomputable def strS : List PyData → Option PyData
  | [.int i] => if i.natAbs.log2 < 1920 then some (.str (toString i)) else none
  | [.str x] => some (.str x)
  | _ => none
theorem c_strS : CallD X (.type "str") strS := ⟨_, call_str_int.or call_str_str, fun O ts H T vs xs d Q hc h e q => by
  unfold strS at e
  split at e
  · split at e
    · rename_i hz
      cases e
      obtain ⟨v, rfl, g⟩ := vws1 h
      cases g.int
      exact .inl ⟨_, rfl, hz, q _ H (.refl _ _) hc (.str _)⟩
    · cases e
  · cases e
    obtain ⟨v, rfl, g⟩ := vws1 h
    cases g.str
    exact .inr ⟨_, rfl, q _ H (.refl _ _) hc (.str _)⟩
  · cases e⟩
noncomputable def setAK (i : Nat) (ρ : Rho) (x y : Option PyData) (T : Tp) : Option ((Fl × Rho) × Tp) := match x, y with
  | some (.list xs), some (.list ys) => if xs.length + ys.length ≤ sizeLine then some ((.nx, ρ.set i (some (.loc (.list (xs ++ ys))))), T) else none
  | _, _ => none
noncomputable def fSetA (i : Nat) (fa fb : FE) : FS := fun ρ T => bnd (fa ρ T) fun w1 T1 => bnd (fb ρ T1) fun w2 T2 => setAK i ρ (view T2 w1) (view T2 w2) T2
theorem ds_setA {i : Nat} {x : Str} {a b : Expr} {fa fb : FE} {pos' bpos : Pos} (hN : X.N.Nodup) (ha : DE X a fa) (hb : DE X b fb) (hi : X.N[i]? = some x := by rfl) (hx : Loc X.env.scope x := by first | exact Or.inl rfl | exact Or.inr rfl) (hs : swapsWith (.BinOp a .Add b bpos) (some (.Name x pos')) pos.line X.env = pure false := by rfl)
    (hf : X.fn x = true ∨ X.env.scope.names.lookup x = some .local := by first | exact .inl rfl | exact .inr rfl | assumption) : DS X (.Assign [.Name x pos'] (.BinOp a .Add b bpos) pos) (fSetA i fa fb) := by
  refine ⟨?_⟩
  refine ps_imp (ps_set hN hi hx (pe_op op_catL ha.pe hb.pe) hs hf) fun D σ H => ?_
  rintro ⟨O₀, H₀, F, ts, O, ρ, T, fl, ρ', T', rs, e, q⟩
  obtain ⟨w1, T1, e1, e⟩ := bnd_of e
  obtain ⟨w2, T2, e2, e⟩ := bnd_of e
  refine ⟨O, ts, ρ, T, w1, T1, rs.hc, rs.re, e1, fun v1 H1 s1 hc1 r1 => ?_⟩
  have rs1 := rs.step s1 hc1
  refine ⟨O, ts, ρ, T1, w2, T2, hc1, rs1.re, e2, fun v2 H2 s2 hc2 r2 => ?_⟩
  have rs2 := rs1.step s2 hc2
  unfold setAK at e
  split at e
  · rename_i xs ys h1 h2
    split at e
    · rename_i hz
      cases e
      obtain ⟨a1, vs, rfl, t1, q1⟩ := (hc2.view (r1.mono hc1 s2) h1).lst
      obtain ⟨b1, us, rfl, t2, q2⟩ := (hc2.view r2 h2).lst
      exact ⟨a1, b1, vs, us, rfl, rfl, t1, t2, by rw [q1.length, q2.length]; exact hz, fun p hp => q _ _ _ (rs2.own hp (q1.append q2))⟩
    · cases e
  · cases e
structure Ini (P : Program) (w : World) (K : PySem.W.Frag) (mg : Str → Option Value) (base : Heap) (C : Addr) (ps : List Str) (k : Nat) (sp : Sp) : Prop where
  ex : ∃ f fd, FnOk P w K mg base CX0 k f fd ps sp ∧ L2.Binds K fd ps [] ∧ Mk K C f
noncomputable def clsB (K : PySem.W.Frag) (C : Addr) : Bool := PySem.W.plainGet K C Str.empty && PySem.W.hasDictIn K C && PySem.W.plainOver K C && (match PySem.W.findIn K (.ref C) "__setattr__" with
  | some (some (.builtin s)) => s == "object.__setattr__"
  | _ => false)
theorem clsB_of {K : PySem.W.Frag} {C : Addr} (h : clsB K C = true) : Cls K C := by
  unfold clsB at h
  rw [Bool.and_eq_true, Bool.and_eq_true, Bool.and_eq_true] at h
  obtain ⟨⟨⟨h1, h2⟩, h3⟩, h4⟩ := h
  refine ⟨h1, h2, h3, ?_⟩
  split at h4
  · rename_i s e
    rw [e, beq_iff_eq.mp h4]
  · cases h4
noncomputable def noB (K : PySem.W.Frag) (C : Addr) (f : Str) : Bool := match PySem.W.findIn K (.ref C) f with
  | some none => true
  | _ => false
theorem noB_of {K : PySem.W.Frag} {C : Addr} {f : Str} (h : noB K C f = true) : NoAttr K C f := by
  unfold noB at h
  split at h
  · rename_i e
    exact e
  · cases h
noncomputable def mkB (K : PySem.W.Frag) (C : Addr) : Bool := PySem.W.makesIn K C && PySem.W.keepIn K (.ref C)
structure DfM (K : PySem.W.Frag) (C : Addr) (name qual : Str) (st : Stmt) : Prop where
  ex : ∃ (f : Addr) (oc : Value) (od an : Option Addr) (sl : Array (Option Value)) (kV dc pm cd ct : Value), PySem.W.findIn K (.ref C) name = some (some (.ref f)) ∧
    K.lookup f = some ⟨oc, od, .func (PySem.W.fnOf name qual (defArgs st) (defBody st) (defScope st) .none kV dc pm an cd ct), sl⟩ ∧ PySem.W.codeIn K cd qual = true ∧ PySem.W.keepIn K (.ref f) = true ∧ PySem.W.isFn K (.ref f) = true
theorem dfm_mk {K : PySem.W.Frag} {C : Addr} {name qual : Str} {st : Stmt} {f : Addr} {oc : Value} {od an : Option Addr} {sl : Array (Option Value)} {kV dc pm cd ct : Value} (a : PySem.W.findIn K (.ref C) name = some (some (.ref f)))
    (l : K.lookup f = some ⟨oc, od, .func (PySem.W.fnOf name qual (defArgs st) (defBody st) (defScope st) .none kV dc pm an cd ct), sl⟩) (c : PySem.W.codeIn K cd qual = true) (k : PySem.W.keepIn K (.ref f) = true) (n : PySem.W.isFn K (.ref f) = true) : DfM K C name qual st :=
  ⟨f, oc, od, an, sl, kV, dc, pm, cd, ct, a, l, c, k, n⟩
theorem DfM.mth {P : Program} {w : World} {K : PySem.W.Frag} {mg : Str → Option Value} {base : Heap} {C : Addr} {name qual : Str} {st : Stmt} {ps : List Str} {k : Nat} {sp : Sp} (d : DfM K C name qual st)
    (hb : ∀ (kV doc pm : Value) (an : Option Addr) (cdv ct : Value) (us : List Value), us.length = ps.length → bindArgs (PySem.W.fnOf name qual (defArgs st) (defBody st) (defScope st) .none kV doc pm an cdv ct) ⟨us, []⟩ = pure (ps.zip us))
    (ok : ∀ f fd, Fun K name qual st f fd → FnOk P w K mg base CX0 k f fd ps sp) : Mth P w K mg base C name ps k sp := by
  obtain ⟨f, oc, od, an, sl, kV, dc, pm, cd, ct, a, l, c, kp, fn⟩ := d.ex
  have F := fun_mk (st := st) l c kp
  exact ⟨f, _, ok f _ F, F.binds hb, ⟨a, fn, kp⟩⟩
theorem DfM.ini {P : Program} {w : World} {K : PySem.W.Frag} {mg : Str → Option Value} {base : Heap} {C : Addr} {qual : Str} {st : Stmt} {ps : List Str} {k : Nat} {sp : Sp} (d : DfM K C "__init__" qual st) (m : mkB K C = true)
    (hb : ∀ (kV doc pm : Value) (an : Option Addr) (cdv ct : Value) (us : List Value), us.length = ps.length → bindArgs (PySem.W.fnOf "__init__" qual (defArgs st) (defBody st) (defScope st) .none kV doc pm an cdv ct) ⟨us, []⟩ = pure (ps.zip us))
    (ok : ∀ f fd, Fun K "__init__" qual st f fd → FnOk P w K mg base CX0 k f fd ps sp) : Ini P w K mg base C ps k sp := by
  obtain ⟨f, oc, od, an, sl, kV, dc, pm, cd, ct, a, l, c, kp, fn⟩ := d.ex
  have F := fun_mk (st := st) l c kp
  unfold mkB at m
  rw [Bool.and_eq_true] at m
  exact ⟨f, _, ok f _ F, F.binds hb, ⟨m.1, a, fn, m.2⟩⟩
theorem dss_mk {C : Addr} {e : Expr} {fe : FE} {fr : FS} {rest : List Stmt} {cn x : Str} {p pos' cpos : Pos} {ps : List Str} {k i : Nat} {m : FnM} (G : Ini X.prog X.w X.K X.mg X.base C ps k (spM X.K ps.length m)) (hr : Room (k + 1) X.A) (hg : Gl X cn) (hm : X.mg cn = some (.ref C)) (hN : X.N.Nodup) (he : DE X e fe) (hrest : DSs X rest fr)
    (h2 : ps.length = 2 := by rfl) (hi : X.N[i]? = some x := by rfl) (hx : Loc X.env.scope x := by first | exact Or.inl rfl | exact Or.inr rfl) (hdb : (cn == ("__debug__" : Str)) = false := by decide)
    (hse : starEach [e] X.env = (false, eval e X.env) :: starEach [] X.env := by exact star_cons rfl) (hpl : (backTo cpos (starEach [] X.env)).any (·.1) = false := by exact star_any rfl)
    (hs : swapsWith (.Call (.Name cn p) [e] [] cpos) (some (.Name x pos')) pos.line X.env = pure false := by rfl) (hf : X.fn x = true ∨ X.env.scope.names.lookup x = some .local := by first | exact .inl rfl | exact .inr rfl | assumption) :
    DSs X (.Assign [.Name x pos'] (.Call (.Name cn p) [e] [] cpos) pos :: rest) (fMake i C m fe fr) := by
  obtain ⟨f, fd, F1, F2, M⟩ := G.ex
  exact dss_make M F1 F2 hr hg hm hN he hrest h2 hi hx hdb hse hpl hs hf
end
end D
namespace G
open PySem PySem.Spec PyProof.Rows L2 D
noncomputable def m_Words____init__ (C : Addr) : FnM := mkFn 2 (fSeq (fSetF C (Str.ofString "parted") (fVar 0) (fBin splitD (fVar 1) (fC (.str (Str.ofString " "))))) (fSeq (fSetF C (Str.ofString "place") (fVar 0) (fC (.int 0))) (fSetF C (Str.ofString "begun") (fVar 0) (fC (.int 0)))))
noncomputable def m_Words__ahead (C : Addr) : FnM := mkFn 1 (fRet (fIfE (fTst (fBin ltD (fFld C (Str.ofString "place") (fVar 0)) (fCB lenD (fCons (fFld C (Str.ofString "parted") (fVar 0)) fNil)))) (fBin ixD (fFld C (Str.ofString "parted") (fVar 0)) (fFld C (Str.ofString "place") (fVar 0))) (fC (.str (Str.ofString "")))))
noncomputable def m_Words__take (C : Addr) : FnM := mkFn 2 (fSeq (fIf (fNotT (fTru (fVar 1))) fNone fNext) (fSetF C (Str.ofString "place") (fVar 0) (fBin addD (fFld C (Str.ofString "place") (fVar 0)) (fC (.int 1)))))
noncomputable def m_Words__begin (C : Addr) : FnM := mkFn 3 (fSeq (fDrop (fMeth C (Str.ofString "take") (m_Words__take C) (fVar 0) (fCons (fAndV (fVar 1) (fAndV (fBin ltD (fVar 2) (fC (.int 20))) (fBin ltD (fFld C (Str.ofString "begun") (fVar 0)) (fC (.int 60))))) fNil))) (fSetF C (Str.ofString "begun") (fVar 0) (fBin addD (fFld C (Str.ofString "begun") (fVar 0)) (fC (.int 1)))))
noncomputable def m_Words__finish (C : Addr) : FnM := mkFn 1 (fIf (fTst (fBin ltD (fFld C (Str.ofString "place") (fVar 0)) (fCB lenD (fCons (fFld C (Str.ofString "parted") (fVar 0)) fNil)))) fNone fNext)
noncomputable def m_is_whole : FnM := mkFn 1 (fRet (fAndV (fUn (isiD .int) (fVar 0)) (fNotV (fUn (isiD .bl) (fVar 0)))))
noncomputable def m_has_only : FnM := mkFn 2 (fRet (fCB allD (fCons (fComp (fIter (fVar 0)) fTrue (fBin inD (fVar 0) (fVar 2))) fNil)))
noncomputable def m_is_name : FnM := mkFn 1 (fRet (fAndV (fUn (isiD .str) (fVar 0)) (fAndV (fChain leD leD (fC (.int 1)) (fCB lenD (fCons (fVar 0) fNil)) (fC (.int 8))) (fCall m_has_only (fCons (fVar 0) (fCons (fC (.str (Str.ofString "abcdefghijklmnopqrstuvwxyz"))) fNil))))))
noncomputable def m_is_single : FnM := mkFn 1 (fSeq (fIf (fTru (fCall m_is_whole (fCons (fVar 0) fNil))) (fRet (fBin leD (fCB absD (fCons (fVar 0) fNil)) (fBin powD (fC (.int 10)) (fC (.int 18))))) fNext) (fRet (fAndV (fUn (isiD .str) (fVar 0)) (fAndV (fBin leD (fCB lenD (fCons (fVar 0) fNil)) (fC (.int 20))) (fCall m_has_only (fCons (fVar 0) (fCons (fC (.str (Str.ofString "abcdefghijklmnopqrstuvwxyz0123456789-"))) fNil)))))))
noncomputable def m_is_built : Nat → FnM
  | 0 => fun _ _ => none
  | n + 1 => mkFn 2 (fSeq (fIf (fNotT (fTru (fUn (isiD .tup) (fVar 0)))) (fRet (fCall m_is_single (fCons (fVar 0) fNil))) fNext) (fSeq (fIf (fOrT (fTst (fBin eqD (fVar 1) (fC (.int 0)))) (fTst (fBin gtD (fCB lenD (fCons (fVar 0) fNil)) (fC (.int 8))))) (fRet (fC (.bool false))) fNext) (fRet (fCB allD (fCons (fComp (fIter (fVar 0)) fTrue (fCall (m_is_built n) (fCons (fVar 0) (fCons (fBin subD (fVar 2) (fC (.int 1))) fNil)))) fNil)))))
noncomputable def m_many_of : Nat → FnM
  | 0 => fun _ _ => none
  | n + 1 => mkFn 1 (fSeq (fIf (fNotT (fTru (fUn (isiD .tup) (fVar 0)))) (fRet (fC (.int 1))) fNext) (fRet (fBin addD (fC (.int 1)) (fCB sumD (fCons (fComp (fIter (fVar 0)) fTrue (fCall (m_many_of n) (fCons (fVar 0) fNil))) fNil)))))
noncomputable def m_is_value : FnM := mkFn 1 (fRet (fAndV (fCall (m_is_built 25) (fCons (fVar 0) (fCons (fC (.int 4)) fNil))) (fBin leD (fCall (m_many_of 25) (fCons (fVar 0) fNil)) (fC (.int 40)))))
noncomputable def m_exprs_within : FnM := mkFn 1 (fSeq (fIf (fOrT (fTst (fBin eqD (fBin ixD (fVar 0) (fC (.int 0))) (fC (.str (Str.ofString "put"))))) (fTst (fBin eqD (fBin ixD (fVar 0) (fC (.int 0))) (fC (.str (Str.ofString "got")))))) (fRet (fSeqD .list fNil)) fNext) (fSeq (fIf (fTst (fBin eqD (fBin ixD (fVar 0) (fC (.int 0))) (fC (.str (Str.ofString "row"))))) (fRet (fCB listD (fCons (fBin ixD (fVar 0) (fC (.int 1))) fNil))) fNext) (fRet (fCB listD (fCons (fSl (fVar 0) (fP (fC (.int 1))) fNoP) fNil)))))
noncomputable def m_got_behind : FnM := mkFn 2 (fRet (fIfE (fTst (fBin inD (fVar 0) (fC (.tuple [.str (Str.ofString "want"), .str (Str.ofString "peek")])))) (fBin addD (fVar 1) (fC (.int 1))) (fVar 1)))
noncomputable def m_stamp_of : Nat → FnM
  | 0 => fun _ _ => none
  | n + 1 => mkFn 1 (fSeq (fIf (fTru (fCall m_is_whole (fCons (fVar 0) fNil))) (fRet (fCB strD (fCons (fVar 0) fNil))) fNext) (fSeq (fIf (fTru (fUn (isiD .str) (fVar 0))) (fRet (fBin addD (fC (.str (Str.ofString "'"))) (fVar 0))) fNext) (fRet (fBin addD (fBin addD (fC (.str (Str.ofString "("))) (fBin joinD (fC (.str (Str.ofString ","))) (fComp (fIter (fVar 0)) fTrue (fCall (m_stamp_of n) (fCons (fVar 0) fNil))))) (fC (.str (Str.ofString ")")))))))
noncomputable def m_is_figures : FnM := mkFn 1 (fSeq (fIf (fOrT (fTst (fBin eqD (fVar 0) (fC (.str (Str.ofString ""))))) (fNotT (fTru (fCall m_has_only (fCons (fVar 0) (fCons (fC (.str (Str.ofString "0123456789"))) fNil)))))) (fRet (fC (.bool false))) fNext) (fRet (fOrV (fBin eqD (fVar 0) (fC (.str (Str.ofString "0")))) (fNotV (fBin startsD (fVar 0) (fC (.str (Str.ofString "0"))))))))
noncomputable def m_number_by : FnM := mkFn 2 (fSeq (fSet 1 (fIfE (fTru (fBin startsD (fVar 0) (fC (.str (Str.ofString "-"))))) (fSl (fVar 0) (fP (fC (.int 1))) fNoP) (fVar 0))) (fSeq (fIf (fOrT (fTst (fBin eqD (fVar 0) (fC (.str (Str.ofString "-0"))))) (fOrT (fTst (fBin gtD (fCB lenD (fCons (fVar 1) fNil)) (fC (.int 19)))) (fNotT (fTru (fCall m_is_figures (fCons (fVar 1) fNil)))))) (fRet (fC .none)) fNext) (fRet (fCB intD (fCons (fVar 0) fNil)))))
noncomputable def m_single_by : FnM := mkFn 1 (fSeq (fIf (fTru (fBin startsD (fVar 0) (fC (.str (Str.ofString "'"))))) (fRet (fSl (fVar 0) (fP (fC (.int 1))) fNoP)) fNext) (fRet (fCall m_number_by (fCons (fVar 0) fNil))))
noncomputable def m_single_at : FnM := mkFn 4 (fSeq (fSet 2 (fVar 1)) (fSeq (whileF (fAndT (fTst (fBin ltD (fVar 2) (fCB lenD (fCons (fVar 0) fNil)))) (fTst (fBin notInD (fBin ixD (fVar 0) (fVar 2)) (fC (.str (Str.ofString "(),")))))) (fSet 2 (fBin addD (fVar 2) (fC (.int 1)))) 100000) (fSeq (fSet 3 (fCall m_single_by (fCons (fSl (fVar 0) (fP (fVar 1)) (fP (fVar 2))) fNil))) (fRet (fIfE (fTst (fBin isD (fVar 3) (fC .none))) (fC .none) (fSeqD .tuple (fCons (fVar 3) (fCons (fVar 2) fNil))))))))
mutual
noncomputable def m_row_at : Nat → FnM
  | 0 => fun _ _ => none
  | n + 1 => mkFn 6 (fSeq (fIf (fTst (fBin eqD (fSl (fVar 0) (fP (fVar 1)) (fP (fBin addD (fVar 1) (fC (.int 1))))) (fC (.str (Str.ofString ")"))))) (fRet (fSeqD .tuple (fCons (fSeqD .tuple fNil) (fCons (fBin addD (fVar 1) (fC (.int 1))) fNil)))) fNext) (fSeq (fSetL 3 fNil) (whileF (fTru (fC (.bool true))) (fSeq (fSet 4 (fCall (m_value_at n) (fCons (fVar 0) (fCons (fVar 1) (fCons (fVar 2) fNil))))) (fSeq (fIf (fTst (fBin isD (fVar 4) (fC .none))) (fRet (fC .none)) fNext) (fSeq (fApp 3 (fBin ixD (fVar 4) (fC (.int 0)))) (fSeq (fSet 1 (fBin addD (fBin ixD (fVar 4) (fC (.int 1))) (fC (.int 1)))) (fSeq (fSet 5 (fSl (fVar 0) (fP (fBin ixD (fVar 4) (fC (.int 1)))) (fP (fVar 1)))) (fSeq (fIf (fTst (fBin eqD (fVar 5) (fC (.str (Str.ofString ")"))))) (fRet (fSeqD .tuple (fCons (fCB tupleD (fCons (fVar 3) fNil)) (fCons (fVar 1) fNil)))) fNext) (fIf (fTst (fBin neD (fVar 5) (fC (.str (Str.ofString ","))))) (fRet (fC .none)) fNext))))))) 100000)))
noncomputable def m_value_at : Nat → FnM
  | 0 => fun _ _ => none
  | n + 1 => mkFn 3 (fSeq (fIf (fTst (fBin neD (fSl (fVar 0) (fP (fVar 1)) (fP (fBin addD (fVar 1) (fC (.int 1))))) (fC (.str (Str.ofString "("))))) (fRet (fCall m_single_at (fCons (fVar 0) (fCons (fVar 1) fNil)))) fNext) (fSeq (fIf (fTst (fBin eqD (fVar 2) (fC (.int 0)))) (fRet (fC .none)) fNext) (fRet (fCall (m_row_at n) (fCons (fVar 0) (fCons (fBin addD (fVar 1) (fC (.int 1))) (fCons (fBin subD (fVar 2) (fC (.int 1))) fNil)))))))
end
noncomputable def m_value_by : FnM := mkFn 2 (fSeq (fSet 1 (fCall (m_value_at 25) (fCons (fVar 0) (fCons (fC (.int 0)) (fCons (fC (.int 4)) fNil))))) (fSeq (fIf (fOrT (fTst (fBin isD (fVar 1) (fC .none))) (fTst (fBin ltD (fBin ixD (fVar 1) (fC (.int 1))) (fCB lenD (fCons (fVar 0) fNil))))) (fRet (fC .none)) fNext) (fRet (fIfE (fTru (fCall m_is_value (fCons (fBin ixD (fVar 1) (fC (.int 0))) fNil))) (fBin ixD (fVar 1) (fC (.int 0))) (fC .none)))))
noncomputable def m_filling_words : FnM := mkFn 1 (fSeq (fIf (fTst (fBin eqD (fBin ixD (fVar 0) (fC (.int 0))) (fC (.str (Str.ofString "put"))))) (fRet (fSeqD .list (fCons (fCall (m_stamp_of 25) (fCons (fBin ixD (fVar 0) (fC (.int 1))) fNil)) fNil))) fNext) (fSeq (fIf (fTst (fBin eqD (fBin ixD (fVar 0) (fC (.int 0))) (fC (.str (Str.ofString "got"))))) (fRet (fSeqD .list (fCons (fCB strD (fCons (fBin ixD (fVar 0) (fC (.int 1))) fNil)) fNil))) fNext) (fSeq (fIf (fTst (fBin eqD (fBin ixD (fVar 0) (fC (.int 0))) (fC (.str (Str.ofString "row"))))) (fRet (fSeqD .list (fCons (fCB strD (fCons (fCB lenD (fCons (fBin ixD (fVar 0) (fC (.int 1))) fNil)) fNil)) fNil))) fNext) (fRet (fSeqD .list fNil)))))
noncomputable def m_expr_words : Nat → FnM
  | 0 => fun _ _ => none
  | n + 1 => mkFn 3 (fSeq (fSetA 1 (fSeqD .list (fCons (fBin ixD (fVar 0) (fC (.int 0))) fNil)) (fCall m_filling_words (fCons (fVar 0) fNil))) (fSeq (fFor 2 (fIter (fCall m_exprs_within (fCons (fVar 0) fNil))) (fExt 1 (fCall (m_expr_words n) (fCons (fVar 2) fNil)))) (fRet (fVar 1))))
noncomputable def m_recipe_words : Nat → FnM
  | 0 => fun _ _ => none
  | n + 1 => mkFn 3 (fSeq (fIf (fTst (fBin eqD (fBin ixD (fVar 0) (fC (.int 0))) (fC (.str (Str.ofString "fail"))))) (fRet (fSeqD .list (fCons (fBin ixD (fVar 0) (fC (.int 0))) (fCons (fBin ixD (fVar 0) (fC (.int 1))) fNil)))) fNext) (fSeq (fSetA 1 (fSeqD .list (fCons (fBin ixD (fVar 0) (fC (.int 0))) fNil)) (fCall (m_expr_words 25) (fCons (fBin ixD (fVar 0) (fC (.int 1))) fNil))) (fSeq (fFor 2 (fIter (fSl (fVar 0) (fP (fC (.int 2))) fNoP)) (fExt 1 (fCall (m_recipe_words n) (fCons (fVar 2) fNil)))) (fRet (fVar 1)))))
noncomputable def m_show_recipe : FnM := mkFn 1 (fRet (fBin joinD (fC (.str (Str.ofString " "))) (fCall (m_recipe_words 25) (fCons (fVar 0) fNil))))
noncomputable def m_put_by (C : Addr) : FnM := mkFn 2 (fSeq (fSet 1 (fCall m_value_by (fCons (fMeth C (Str.ofString "ahead") (m_Words__ahead C) (fVar 0) fNil) fNil))) (fSeq (fDrop (fMeth C (Str.ofString "take") (m_Words__take C) (fVar 0) (fCons (fBin isNotD (fVar 1) (fC .none)) fNil))) (fRet (fVar 1))))
noncomputable def m_number_below (C : Addr) : FnM := mkFn 4 (fSeq (fSet 2 (fComp (fRng1 (fVar 1)) fTrue (fCB strD (fCons (fVar 0) fNil)))) (fSeq (fSet 3 (fMeth C (Str.ofString "ahead") (m_Words__ahead C) (fVar 0) fNil)) (fSeq (fDrop (fMeth C (Str.ofString "take") (m_Words__take C) (fVar 0) (fCons (fBin inD (fVar 3) (fVar 2)) fNil))) (fRet (fIdx (fVar 2) (fVar 3))))))
mutual
noncomputable def m_exprs_by (C : Addr) : Nat → FnM
  | 0 => fun _ _ => none
  | n + 1 => mkFn 4 (fRet (fCB tupleD (fCons (fComp (fRng1 (fVar 1)) fTrue (fCall (m_expr_by C n) (fCons (fVar 1) (fCons (fVar 3) (fCons (fVar 4) fNil))))) fNil)))
noncomputable def m_expr_by (C : Addr) : Nat → FnM
  | 0 => fun _ _ => none
  | n + 1 => mkFn 4 (fSeq (fSet 3 (fMeth C (Str.ofString "ahead") (m_Words__ahead C) (fVar 0) fNil)) (fSeq (fDrop (fMeth C (Str.ofString "begin") (m_Words__begin C) (fVar 0) (fCons (fOrV (fBin inD (fVar 3) (fC (.tuple [.str (Str.ofString "put"), .str (Str.ofString "got"), .str (Str.ofString "row")]))) (fUn (inT [((Str.ofString "many"), 1), ((Str.ofString "part"), 2), ((Str.ofString "sum"), 2), ((Str.ofString "join"), 2), ((Str.ofString "same"), 2), ((Str.ofString "less"), 2)]) (fVar 3))) (fCons (fVar 1) fNil)))) (fSeq (fIf (fTst (fBin eqD (fVar 3) (fC (.str (Str.ofString "put"))))) (fRet (fSeqD .tuple (fCons (fVar 3) (fCons (fCall (m_put_by C) (fCons (fVar 0) fNil)) fNil)))) fNext) (fSeq (fIf (fTst (fBin eqD (fVar 3) (fC (.str (Str.ofString "got"))))) (fRet (fSeqD .tuple (fCons (fVar 3) (fCons (fCall (m_number_below C) (fCons (fVar 0) (fCons (fVar 2) fNil))) fNil)))) fNext) (fSeq (fIf (fTst (fBin eqD (fVar 3) (fC (.str (Str.ofString "row"))))) (fRet (fSeqD .tuple (fCons (fVar 3) (fCons (fCall (m_exprs_by C n) (fCons (fVar 0) (fCons (fCall (m_number_below C) (fCons (fVar 0) (fCons (fBin addD (fC (.int 8)) (fC (.int 1))) fNil))) (fCons (fBin addD (fVar 1) (fC (.int 1))) (fCons (fVar 2) fNil))))) fNil)))) fNext) (fRet (fBin addD (fSeqD .tuple (fCons (fVar 3) fNil)) (fCall (m_exprs_by C n) (fCons (fVar 0) (fCons (fUn (atT [((Str.ofString "many"), 1), ((Str.ofString "part"), 2), ((Str.ofString "sum"), 2), ((Str.ofString "join"), 2), ((Str.ofString "same"), 2), ((Str.ofString "less"), 2)]) (fVar 3)) (fCons (fBin addD (fVar 1) (fC (.int 1))) (fCons (fVar 2) fNil))))))))))))
end
noncomputable def m_name_by (C : Addr) : FnM := mkFn 2 (fSeq (fSet 1 (fMeth C (Str.ofString "ahead") (m_Words__ahead C) (fVar 0) fNil)) (fSeq (fDrop (fMeth C (Str.ofString "take") (m_Words__take C) (fVar 0) (fCons (fCall m_is_name (fCons (fVar 1) fNil)) fNil))) (fRet (fVar 1))))
noncomputable def m_recipe_by (C : Addr) : Nat → FnM
  | 0 => fun _ _ => none
  | n + 1 => mkFn 6 (fSeq (fSet 3 (fMeth C (Str.ofString "ahead") (m_Words__ahead C) (fVar 0) fNil)) (fSeq (fDrop (fMeth C (Str.ofString "begin") (m_Words__begin C) (fVar 0) (fCons (fAndV (fUn (inT [((Str.ofString "say"), 0), ((Str.ofString "fail"), 0), ((Str.ofString "want"), 1), ((Str.ofString "peek"), 1), ((Str.ofString "when"), 2)]) (fVar 3)) (fNotV (fAndV (fBin inD (fVar 3) (fC (.tuple [.str (Str.ofString "want"), .str (Str.ofString "peek")]))) (fBin eqD (fVar 2) (fC (.int 12)))))) (fCons (fVar 1) fNil)))) (fSeq (fIf (fTst (fBin eqD (fVar 3) (fC (.str (Str.ofString "fail"))))) (fRet (fSeqD .tuple (fCons (fVar 3) (fCons (fCall (m_name_by C) (fCons (fVar 0) fNil)) fNil)))) fNext) (fSeq (fSet 4 (fCall (m_expr_by C 50) (fCons (fVar 0) (fCons (fBin addD (fVar 1) (fC (.int 1))) (fCons (fVar 2) fNil))))) (fSeq (fSet 5 (fCall m_got_behind (fCons (fVar 3) (fCons (fVar 2) fNil)))) (fRet (fBin addD (fSeqD .tuple (fCons (fVar 3) (fCons (fVar 4) fNil))) (fCB tupleD (fCons (fComp (fRng1 (fUn (atT [((Str.ofString "say"), 0), ((Str.ofString "fail"), 0), ((Str.ofString "want"), 1), ((Str.ofString "peek"), 1), ((Str.ofString "when"), 2)]) (fVar 3))) fTrue (fCall (m_recipe_by C n) (fCons (fVar 1) (fCons (fBin addD (fVar 2) (fC (.int 1))) (fCons (fVar 6) fNil))))) fNil)))))))))
noncomputable def m_read_recipe (C : Addr) : FnM := mkFn 3 (fMake 1 C (m_Words____init__ C) (fVar 0) (fSeq (fSet 2 (fCall (m_recipe_by C 25) (fCons (fVar 1) (fCons (fC (.int 0)) (fCons (fC (.int 0)) fNil))))) (fSeq (fDrop (fMeth C (Str.ofString "finish") (m_Words__finish C) (fVar 1) fNil)) (fRet (fVar 2)))))
noncomputable def m__law_draw : FnM := mkFn 6 (fSeq (fIf (fTst (fBin eqD (fBin ixD (fVar 0) (fC (.int 2))) (fC (.int 0)))) (fSeq (fSet 2 (fBin ixD (fVar 0) (fC (.int 1)))) (fSeq (fPut (fVar 0) (fC (.int 1)) (fBin addD (fVar 2) (fC (.int 1)))) (fSeq (fSet 3 (fVar 2)) (fSeq (fIf (fTst (fBin gtD (fCB lenD (fCons (fBin ixD (fVar 0) (fC (.int 0))) fNil)) (fC (.int 0)))) (fSet 3 (fBin ixD (fBin ixD (fVar 0) (fC (.int 0))) (fBin modD (fVar 2) (fCB lenD (fCons (fBin ixD (fVar 0) (fC (.int 0))) fNil))))) fNext) (fSeq (fIf (fOrT (fTst (fBin ltD (fVar 3) (fBin powD (fC (.int 10)) (fC (.int 18))))) (fTst (fBin geD (fVar 2) (fCB lenD (fCons (fBin ixD (fVar 0) (fC (.int 0))) fNil))))) (fSeq (fSet 4 (fBin modD (fBin mulD (fBin addD (fBin modD (fVar 3) (fC (.int 1000003))) (fC (.int 1))) (fBin addD (fC (.int 48271)) (fBin mulD (fC (.int 2)) (fBin modD (fVar 2) (fC (.int 997)))))) (fC (.int 2147483647)))) (fRet (fBin modD (fBin fdivD (fBin modD (fBin mulD (fBin addD (fVar 4) (fBin mulD (fC (.int 104729)) (fVar 2))) (fC (.int 69621))) (fC (.int 2147483629))) (fC (.int 7))) (fVar 1)))) fNext) (fPut (fVar 0) (fC (.int 2)) (fVar 3))))))) fNext) (fSeq (fSet 5 (fBin modD (fBin ixD (fVar 0) (fC (.int 2))) (fVar 1))) (fSeq (fPut (fVar 0) (fC (.int 2)) (fBin fdivD (fBin ixD (fVar 0) (fC (.int 2))) (fVar 1))) (fRet (fVar 5)))))
noncomputable def m__law_name : FnM := mkFn 4 (fSeq (fSet 1 (fSeqD .list (fCons (fC (.str (Str.ofString "a"))) (fCons (fC (.str (Str.ofString "ab"))) (fCons (fC (.str (Str.ofString "abc"))) (fCons (fC (.str (Str.ofString "b"))) (fCons (fC (.str (Str.ofString "say"))) (fCons (fC (.str (Str.ofString "want"))) (fCons (fC (.str (Str.ofString "put"))) (fCons (fC (.str (Str.ofString "got"))) (fCons (fC (.str (Str.ofString "row"))) (fCons (fC (.str (Str.ofString "made"))) (fCons (fC (.str (Str.ofString "told"))) (fCons (fC (.str (Str.ofString "fail"))) (fCons (fC (.str (Str.ofString "fails"))) (fCons (fC (.str (Str.ofString "when"))) fNil)))))))))))))))) (fSeq (fSet 1 (fBin addD (fVar 1) (fSeqD .list (fCons (fC (.str (Str.ofString "many"))) fNil)))) (fSeq (fSet 1 (fBin addD (fVar 1) (fSeqD .list (fCons (fC (.str (Str.ofString "peek"))) (fCons (fC (.str (Str.ofString "part"))) (fCons (fC (.str (Str.ofString "sum"))) (fCons (fC (.str (Str.ofString "kind"))) (fCons (fC (.str (Str.ofString "name"))) (fCons (fC (.str (Str.ofString "zzzzzzzz"))) (fCons (fC (.str (Str.ofString "lacks"))) (fCons (fC (.str (Str.ofString "x"))) fNil))))))))))) (fSeq (fSet 2 (fCall m__law_draw (fCons (fVar 0) (fCons (fC (.int 30)) fNil)))) (fSeq (fIf (fTst (fBin ltD (fVar 2) (fC (.int 23)))) (fRet (fBin ixD (fVar 1) (fVar 2))) fNext) (fSeq (fSet 3 (fC (.str (Str.ofString "abcdefghijklmnopqrstuvwxyz")))) (fRet (fBin joinD (fC (.str (Str.ofString ""))) (fComp (fRng1 (fBin addD (fC (.int 1)) (fCall m__law_draw (fCons (fVar 0) (fCons (fC (.int 8)) fNil))))) fTrue (fBin ixD (fVar 4) (fCall m__law_draw (fCons (fVar 1) (fCons (fC (.int 26)) fNil)))))))))))))
noncomputable def m__law_text : FnM := mkFn 3 (fSeq (fSet 1 (fC (.str (Str.ofString "abcdefghijklmnopqrstuvwxyz0123456789-")))) (fSeq (fSet 2 (fCall m__law_draw (fCons (fVar 0) (fCons (fC (.int 8)) fNil)))) (fSeq (fIf (fTst (fBin ltD (fVar 2) (fC (.int 3)))) (fRet (fBin ixD (fSeqD .list (fCons (fC (.str (Str.ofString ""))) (fCons (fC (.str (Str.ofString "a"))) (fCons (fC (.str (Str.ofString "-5"))) fNil)))) (fVar 2))) fNext) (fSeq (fIf (fTst (fBin ltD (fVar 2) (fC (.int 6)))) (fRet (fCall m__law_name (fCons (fVar 0) fNil))) fNext) (fRet (fBin joinD (fC (.str (Str.ofString ""))) (fComp (fRng1 (fBin ixD (fSeqD .list (fCons (fCall m__law_draw (fCons (fVar 0) (fCons (fC (.int 21)) fNil))) (fCons (fC (.int 20)) fNil))) (fBin subD (fVar 2) (fC (.int 6))))) fTrue (fBin ixD (fVar 2) (fCall m__law_draw (fCons (fVar 1) (fCons (fC (.int 37)) fNil)))))))))))
noncomputable def m__law_number : FnM := mkFn 2 (fSeq (fSet 1 (fCall m__law_draw (fCons (fVar 0) (fCons (fC (.int 12)) fNil)))) (fSeq (fIf (fTst (fBin ltD (fVar 1) (fC (.int 9)))) (fRet (fBin ixD (fSeqD .list (fCons (fC (.int 0)) (fCons (fC (.int 1)) (fCons (fUn negD (fC (.int 1))) (fCons (fC (.int 2)) (fCons (fC (.int 3)) (fCons (fC (.int 10)) (fCons (fBin powD (fC (.int 10)) (fC (.int 18))) (fCons (fUn negD (fBin powD (fC (.int 10)) (fC (.int 18)))) (fCons (fBin subD (fBin powD (fC (.int 10)) (fC (.int 18))) (fC (.int 1))) fNil)))))))))) (fVar 1))) fNext) (fRet (fBin mulD (fBin addD (fBin mulD (fCall m__law_draw (fCons (fVar 0) (fCons (fBin powD (fC (.int 10)) (fC (.int 9))) fNil))) (fBin powD (fC (.int 10)) (fC (.int 9)))) (fCall m__law_draw (fCons (fVar 0) (fCons (fBin powD (fC (.int 10)) (fC (.int 9))) fNil)))) (fBin ixD (fSeqD .list (fCons (fC (.int 1)) (fCons (fUn negD (fC (.int 1))) fNil))) (fCall m__law_draw (fCons (fVar 0) (fCons (fC (.int 2)) fNil))))))))
noncomputable def m__law_value : Nat → FnM
  | 0 => fun _ _ => none
  | n + 1 => mkFn 5 (fSeq (fSet 3 (fCall m__law_draw (fCons (fVar 0) (fCons (fC (.int 7)) fNil)))) (fSeq (fIf (fTst (fBin ltD (fVar 3) (fC (.int 2)))) (fRet (fCall m__law_number (fCons (fVar 0) fNil))) fNext) (fSeq (fIf (fOrT (fTst (fBin ltD (fVar 3) (fC (.int 4)))) (fTst (fBin eqD (fVar 1) (fC (.int 0))))) (fRet (fCall m__law_text (fCons (fVar 0) fNil))) fNext) (fSeq (fSet 4 (fCall m__law_draw (fCons (fVar 0) (fCons (fCB minD2 (fCons (fC (.int 9)) (fCons (fVar 2) fNil))) fNil)))) (fRet (fCB tupleD (fCons (fComp (fRng1 (fVar 4)) fTrue (fCall (m__law_value n) (fCons (fVar 1) (fCons (fBin subD (fVar 2) (fC (.int 1))) (fCons (fBin fdivD (fBin subD (fVar 3) (fC (.int 1))) (fVar 5)) fNil))))) fNil)))))))
noncomputable def m__law_alike : Nat → FnM
  | 0 => fun _ _ => none
  | n + 1 => mkFn 2 (fSeq (fIf (fOrT (fTru (fUn (isiD .tup) (fVar 0))) (fTru (fUn (isiD .lst) (fVar 0)))) (fSeq (fIf (fTst (fBin neD (fUn (isiD .tup) (fVar 0)) (fUn (isiD .tup) (fVar 1)))) (fRet (fC (.bool false))) fNext) (fSeq (fIf (fTst (fBin neD (fUn (isiD .lst) (fVar 0)) (fUn (isiD .lst) (fVar 1)))) (fRet (fC (.bool false))) fNext) (fSeq (fIf (fTst (fBin neD (fCB lenD (fCons (fVar 0) fNil)) (fCB lenD (fCons (fVar 1) fNil)))) (fRet (fC (.bool false))) fNext) (fRet (fCB allD (fCons (fComp (fRng1 (fCB lenD (fCons (fVar 0) fNil))) fTrue (fCall (m__law_alike n) (fCons (fBin ixD (fVar 1) (fVar 0)) (fCons (fBin ixD (fVar 2) (fVar 0)) fNil)))) fNil)))))) fNext) (fSeq (fIf (fTst (fBin isD (fVar 0) (fC .none))) (fRet (fBin isD (fVar 1) (fC .none))) fNext) (fSeq (fIf (fTru (fUn (isiD .str) (fVar 0))) (fRet (fAndV (fUn (isiD .str) (fVar 1)) (fBin eqD (fVar 1) (fVar 0)))) fNext) (fSeq (fIf (fTru (fUn (isiD .bl) (fVar 0))) (fRet (fAndV (fUn (isiD .bl) (fVar 1)) (fBin eqD (fVar 1) (fVar 0)))) fNext) (fRet (fAndV (fUn (isiD .int) (fVar 1)) (fAndV (fNotV (fUn (isiD .bl) (fVar 1))) (fBin eqD (fVar 1) (fVar 0)))))))))
noncomputable def m__law_stamp : Nat → FnM
  | 0 => fun _ _ => none
  | n + 1 => mkFn 3 (fSeq (fIf (fTru (fUn (isiD .tup) (fVar 0))) (fSeq (fSet 1 (fC (.str (Str.ofString "")))) (fSeq (fFor 2 (fIter (fVar 0)) (fSet 1 (fBin addD (fBin addD (fVar 1) (fC (.str (Str.ofString ",")))) (fCall (m__law_stamp n) (fCons (fVar 2) fNil))))) (fRet (fBin addD (fBin addD (fC (.str (Str.ofString "("))) (fSl (fVar 1) (fP (fC (.int 1))) fNoP)) (fC (.str (Str.ofString ")"))))))) fNext) (fSeq (fIf (fTru (fUn (isiD .str) (fVar 0))) (fRet (fBin addD (fC (.str (Str.ofString "'"))) (fVar 0))) fNext) (fRet (fCB strD (fCons (fVar 0) fNil)))))
noncomputable def m__law_leaf : FnM := mkFn 2 (fSeq (fIf (fAndT (fTst (fBin gtD (fVar 1) (fC (.int 0)))) (fTst (fBin gtD (fCall m__law_draw (fCons (fVar 0) (fCons (fC (.int 3)) fNil))) (fC (.int 0))))) (fRet (fSeqD .tuple (fCons (fC (.str (Str.ofString "got"))) (fCons (fCall m__law_draw (fCons (fVar 0) (fCons (fVar 1) fNil))) fNil)))) fNext) (fRet (fSeqD .tuple (fCons (fC (.str (Str.ofString "put"))) (fCons (fCall (m__law_value 25) (fCons (fVar 0) (fCons (fC (.int 2)) (fCons (fC (.int 8)) fNil)))) fNil)))))
noncomputable def m__law_expr : Nat → FnM
  | 0 => fun _ _ => none
  | n + 1 => mkFn 8 (fSeq (fSet 4 (fCall m__law_draw (fCons (fVar 0) (fCons (fC (.int 11)) fNil)))) (fSeq (fIf (fOrT (fTst (fBin ltD (fVar 4) (fC (.int 4)))) (fOrT (fTst (fBin ltD (fVar 2) (fC (.int 3)))) (fTst (fBin ltD (fVar 3) (fC (.int 2)))))) (fRet (fCall m__law_leaf (fCons (fVar 0) (fCons (fVar 1) fNil)))) fNext) (fSeq (fIf (fTst (fBin ltD (fVar 4) (fC (.int 6)))) (fSeq (fSet 5 (fCall m__law_draw (fCons (fVar 0) (fCons (fCB minD2 (fCons (fC (.int 9)) (fCons (fVar 2) fNil))) fNil)))) (fRet (fSeqD .tuple (fCons (fC (.str (Str.ofString "row"))) (fCons (fCB tupleD (fCons (fComp (fRng1 (fVar 5)) fTrue (fCall (m__law_expr n) (fCons (fVar 1) (fCons (fVar 2) (fCons (fBin fdivD (fBin subD (fVar 3) (fC (.int 1))) (fVar 6)) (fCons (fBin subD (fVar 4) (fC (.int 1))) fNil)))))) fNil)) fNil))))) fNext) (fSeq (fIf (fTst (fBin eqD (fVar 4) (fC (.int 6)))) (fRet (fSeqD .tuple (fCons (fC (.str (Str.ofString "many"))) (fCons (fCall (m__law_expr n) (fCons (fVar 0) (fCons (fVar 1) (fCons (fBin subD (fVar 2) (fC (.int 1))) (fCons (fBin subD (fVar 3) (fC (.int 1))) fNil))))) fNil)))) fNext) (fSeq (fSet 6 (fBin ixD (fSeqD .list (fCons (fC (.str (Str.ofString "part"))) (fCons (fC (.str (Str.ofString "sum"))) (fCons (fC (.str (Str.ofString "join"))) (fCons (fC (.str (Str.ofString "same"))) (fCons (fC (.str (Str.ofString "less"))) fNil)))))) (fCall m__law_draw (fCons (fVar 0) (fCons (fC (.int 5)) fNil))))) (fSeq (fSet 7 (fCall (m__law_expr n) (fCons (fVar 0) (fCons (fVar 1) (fCons (fBin fdivD (fBin subD (fVar 2) (fC (.int 1))) (fC (.int 2))) (fCons (fBin subD (fVar 3) (fC (.int 1))) fNil)))))) (fRet (fSeqD .tuple (fCons (fVar 6) (fCons (fVar 7) (fCons (fCall (m__law_expr n) (fCons (fVar 0) (fCons (fVar 1) (fCons (fBin fdivD (fBin subD (fVar 2) (fC (.int 1))) (fC (.int 2))) (fCons (fBin subD (fVar 3) (fC (.int 1))) fNil))))) fNil)))))))))))
noncomputable def m__law_within : FnM := mkFn 1 (fSeq (fIf (fTst (fBin inD (fBin ixD (fVar 0) (fC (.int 0))) (fSeqD .list (fCons (fC (.str (Str.ofString "put"))) (fCons (fC (.str (Str.ofString "got"))) (fCons (fC (.str (Str.ofString "fail"))) fNil)))))) (fRet (fSeqD .list fNil)) fNext) (fSeq (fIf (fTst (fBin eqD (fBin ixD (fVar 0) (fC (.int 0))) (fC (.str (Str.ofString "row"))))) (fRet (fCB listD (fCons (fBin ixD (fVar 0) (fC (.int 1))) fNil))) fNext) (fRet (fCB listD (fCons (fSl (fVar 0) (fP (fC (.int 1))) fNoP) fNil)))))
noncomputable def m__law_many : Nat → FnM
  | 0 => fun _ _ => none
  | n + 1 => mkFn 1 (fRet (fBin addD (fC (.int 1)) (fCB sumD (fCons (fComp (fIter (fCall m__law_within (fCons (fVar 0) fNil))) fTrue (fCall (m__law_many n) (fCons (fVar 0) fNil))) fNil))))
noncomputable def m__law_asked : FnM := mkFn 4 (fSeq (fIf (fTst (fBin gtD (fCall m__law_draw (fCons (fVar 0) (fCons (fC (.int 6)) fNil))) (fC (.int 0)))) (fRet (fSeqD .tuple (fCons (fC (.str (Str.ofString "put"))) (fCons (fCall m__law_name (fCons (fVar 0) fNil)) fNil)))) fNext) (fRet (fCall (m__law_expr 25) (fCons (fVar 0) (fCons (fVar 1) (fCons (fCB minD2 (fCons (fVar 2) (fCons (fC (.int 5)) fNil))) (fCons (fVar 3) fNil)))))))
noncomputable def m__law_recipe : Nat → FnM
  | 0 => fun _ _ => none
  | n + 1 => mkFn 9 (fSeq (fSet 4 (fCall m__law_draw (fCons (fVar 0) (fCons (fC (.int 10)) fNil)))) (fSeq (fIf (fOrT (fTst (fBin ltD (fVar 2) (fC (.int 2)))) (fOrT (fTst (fBin ltD (fVar 3) (fC (.int 2)))) (fTst (fBin eqD (fVar 4) (fC (.int 0)))))) (fRet (fSeqD .tuple (fCons (fC (.str (Str.ofString "fail"))) (fCons (fCall m__law_name (fCons (fVar 0) fNil)) fNil)))) fNext) (fSeq (fIf (fOrT (fTst (fBin ltD (fVar 2) (fC (.int 5)))) (fOrT (fTst (fBin ltD (fVar 4) (fC (.int 3)))) (fAndT (fTst (fBin ltD (fVar 4) (fC (.int 8)))) (fTst (fBin eqD (fVar 1) (fC (.int 12))))))) (fRet (fSeqD .tuple (fCons (fC (.str (Str.ofString "say"))) (fCons (fCall (m__law_expr 25) (fCons (fVar 0) (fCons (fVar 1) (fCons (fBin subD (fVar 2) (fC (.int 1))) (fCons (fBin subD (fVar 3) (fC (.int 1))) fNil))))) fNil)))) fNext) (fSeq (fIf (fTst (fBin ltD (fVar 4) (fC (.int 8)))) (fSeq (fSet 5 (fCall m__law_asked (fCons (fVar 0) (fCons (fVar 1) (fCons (fBin subD (fVar 2) (fC (.int 3))) (fCons (fBin subD (fVar 3) (fC (.int 1))) fNil)))))) (fSeq (fSet 6 (fBin subD (fBin subD (fVar 2) (fC (.int 1))) (fCall (m__law_many 25) (fCons (fVar 5) fNil)))) (fRet (fSeqD .tuple (fCons (fBin ixD (fSeqD .list (fCons (fC (.str (Str.ofString "want"))) (fCons (fC (.str (Str.ofString "want"))) (fCons (fC (.str (Str.ofString "peek"))) fNil)))) (fCall m__law_draw (fCons (fVar 0) (fCons (fC (.int 3)) fNil)))) (fCons (fVar 5) (fCons (fCall (m__law_recipe n) (fCons (fVar 0) (fCons (fBin addD (fVar 1) (fC (.int 1))) (fCons (fVar 6) (fCons (fBin subD (fVar 3) (fC (.int 1))) fNil))))) fNil))))))) fNext) (fSeq (fSet 7 (fCall (m__law_expr 25) (fCons (fVar 0) (fCons (fVar 1) (fCons (fBin fdivD (fVar 2) (fC (.int 4))) (fCons (fBin subD (fVar 3) (fC (.int 1))) fNil)))))) (fSeq (fSet 6 (fBin fdivD (fBin subD (fBin subD (fVar 2) (fC (.int 1))) (fCall (m__law_many 25) (fCons (fVar 7) fNil))) (fC (.int 2)))) (fSeq (fSet 8 (fCall (m__law_recipe n) (fCons (fVar 0) (fCons (fVar 1) (fCons (fVar 6) (fCons (fBin subD (fVar 3) (fC (.int 1))) fNil)))))) (fRet (fSeqD .tuple (fCons (fC (.str (Str.ofString "when"))) (fCons (fVar 7) (fCons (fVar 8) (fCons (fCall (m__law_recipe n) (fCons (fVar 0) (fCons (fVar 1) (fCons (fVar 6) (fCons (fBin subD (fVar 3) (fC (.int 1))) fNil))))) fNil)))))))))))))
noncomputable def m__law_words : Nat → FnM
  | 0 => fun _ _ => none
  | n + 1 => mkFn 3 (fSeq (fSetL 1 (fCons (fBin ixD (fVar 0) (fC (.int 0))) fNil)) (fSeq (fIf (fTst (fBin eqD (fBin ixD (fVar 0) (fC (.int 0))) (fC (.str (Str.ofString "put"))))) (fApp 1 (fCall (m__law_stamp 25) (fCons (fBin ixD (fVar 0) (fC (.int 1))) fNil))) (fIf (fOrT (fTst (fBin eqD (fBin ixD (fVar 0) (fC (.int 0))) (fC (.str (Str.ofString "got"))))) (fTst (fBin eqD (fBin ixD (fVar 0) (fC (.int 0))) (fC (.str (Str.ofString "fail")))))) (fApp 1 (fCB strS (fCons (fBin ixD (fVar 0) (fC (.int 1))) fNil))) (fIf (fTst (fBin eqD (fBin ixD (fVar 0) (fC (.int 0))) (fC (.str (Str.ofString "row"))))) (fApp 1 (fCB strS (fCons (fCB lenD (fCons (fBin ixD (fVar 0) (fC (.int 1))) fNil)) fNil))) fNext))) (fSeq (fFor 2 (fIter (fCall m__law_within (fCons (fVar 0) fNil))) (fExt 1 (fCall (m__law_words n) (fCons (fVar 2) fNil)))) (fRet (fVar 1)))))
noncomputable def m__law_great : FnM := mkFn 2 (fSeq (fSet 1 (fSeqD .tuple (fCons (fC (.str (Str.ofString "say"))) (fCons (fSeqD .tuple (fCons (fC (.str (Str.ofString "put"))) (fCons (fCall (m__law_value 25) (fCons (fVar 0) (fCons (fC (.int 4)) (fCons (fC (.int 40)) fNil)))) fNil))) fNil)))) (fRet (fSeqD .tuple (fCons (fC (.str (Str.ofString "when"))) (fCons (fSeqD .tuple (fCons (fC (.str (Str.ofString "put"))) (fCons (fCall (m__law_value 25) (fCons (fVar 0) (fCons (fC (.int 4)) (fCons (fC (.int 40)) fNil)))) fNil))) (fCons (fVar 1) (fCons (fSeqD .tuple (fCons (fC (.str (Str.ofString "fail"))) (fCons (fCall m__law_name (fCons (fVar 0) fNil)) fNil))) fNil)))))))
noncomputable def m__law_wants : FnM := mkFn 3 (fSeq (fSet 1 (fSeqD .tuple (fCons (fC (.str (Str.ofString "say"))) (fCons (fSeqD .tuple (fCons (fC (.str (Str.ofString "sum"))) (fCons (fSeqD .tuple (fCons (fC (.str (Str.ofString "got"))) (fCons (fC (.int 11)) fNil))) (fCons (fSeqD .tuple (fCons (fC (.str (Str.ofString "got"))) (fCons (fBin addD (fC (.int 8)) (fCall m__law_draw (fCons (fVar 0) (fCons (fC (.int 4)) fNil)))) fNil))) fNil)))) fNil)))) (fSeq (fFor 2 (fRng1 (fC (.int 12))) (fSet 1 (fSeqD .tuple (fCons (fBin ixD (fSeqD .list (fCons (fC (.str (Str.ofString "want"))) (fCons (fC (.str (Str.ofString "peek"))) fNil))) (fCall m__law_draw (fCons (fVar 0) (fCons (fC (.int 2)) fNil)))) (fCons (fSeqD .tuple (fCons (fC (.str (Str.ofString "put"))) (fCons (fCall m__law_name (fCons (fVar 0) fNil)) fNil))) (fCons (fVar 1) fNil)))))) (fRet (fVar 1))))
noncomputable def m_law (C : Addr) : FS := (fSeq (fSet 2 (fBin addD (fSeqD .list (fCons (fCall m__law_great (fCons (fVar 1) fNil)) fNil)) (fComp (fRng1 (fC (.int 5))) fTrue (fCall (m__law_recipe 25) (fCons (fVar 2) (fCons (fC (.int 0)) (fCons (fC (.int 60)) (fCons (fC (.int 20)) fNil)))))))) (fSeq (fSet 2 (fBin addD (fBin addD (fVar 2) (fComp (fRng1 (fC (.int 3))) fTrue (fCall (m__law_recipe 25) (fCons (fVar 2) (fCons (fC (.int 0)) (fCons (fC (.int 3)) (fCons (fC (.int 20)) fNil))))))) (fSeqD .list (fCons (fCall m__law_wants (fCons (fVar 1) fNil)) fNil)))) (fSeq (fFor 3 (fIter (fVar 2)) (fSeq (fSet 4 (fBin joinD (fC (.str (Str.ofString " "))) (fCall (m__law_words 25) (fCons (fVar 3) fNil)))) (fIf (fOrT (fNotT (fTru (fCall (m__law_alike 60) (fCons (fVar 4) (fCons (fCall m_show_recipe (fCons (fVar 3) fNil)) fNil))))) (fNotT (fTru (fCall (m__law_alike 60) (fCons (fVar 3) (fCons (fCall (m_read_recipe C) (fCons (fVar 4) fNil)) fNil)))))) (fRet (fC (.bool false))) fNext))) (fSeq (fFor 5 (fIter (fVar 2)) (fFor 6 (fIter (fVar 2)) (fIf (fTst (fBin neD (fBin eqD (fCall m_show_recipe (fCons (fVar 5) fNil)) (fCall m_show_recipe (fCons (fVar 6) fNil))) (fCall (m__law_alike 60) (fCons (fVar 5) (fCons (fVar 6) fNil))))) (fRet (fC (.bool false))) fNext))) (fRet (fC (.bool true)))))))
end G
namespace K1
open PySem
structure Sh (d : PyData) (k n : Nat) : Prop where
  sh : d.showable = true
  lv : d.leavesShort 200 = true
  dp : d.depth ≤ k
  wt : d.weight ≤ n
theorem Sh.mono {d : PyData} {k n k' n' : Nat} (h : Sh d k n) (hk : k ≤ k') (hn : n ≤ n') : Sh d k' n' := ⟨h.sh, h.lv, Nat.le_trans h.dp hk, Nat.le_trans h.wt hn⟩
theorem Sh.fits {d : PyData} {k n : Nat} (h : Sh d k n) (hn : n ≤ 60000) : d.shown.length ≤ sizeLine := by
  have q := PyData.shown_le 200 (by decide) d h.lv
  have hw := h.wt
  have e : sizeLine = 16777216 := by decide
  have : (200 + 2) * d.weight ≤ 202 * 60000 := Nat.mul_le_mul_left _ (Nat.le_trans hw hn)
  omega
theorem Sh.none : Sh .none 0 0 := ⟨rfl, rfl, Nat.le_refl _, Nat.le_refl _⟩
theorem Sh.bool (b : Bool) : Sh (.bool b) 0 0 := ⟨rfl, rfl, Nat.le_refl _, Nat.le_refl _⟩
theorem Sh.int {i : Int} (h : i.natAbs < 10 ^ 40) : Sh (.int i) 0 200 := by
  have l : i.natAbs.log2 < 150 := by
    by_cases h0 : i.natAbs = 0
    · rw [h0]; decide
    · exact (Nat.log2_lt h0).mpr (Nat.lt_trans h (by decide))
  refine ⟨?_, ?_, Nat.le_refl _, ?_⟩
  · show decide (i.natAbs.log2 < 1920) = true
    exact decide_eq_true (by omega)
  · show decide ((PyData.shown (.int i)).length ≤ 200) = true
    refine decide_eq_true ?_
    have e := int_text_length_le10 (k := 40) (by decide) h
    show (Str.ofString (toString i)).length ≤ 200
    rw [ofString_length]
    omega
  · show (if i == 0 then 0 else i.natAbs.log2 + 1) ≤ 200
    split <;> omega
theorem Sh.str {x : Str} {n : Nat} (h : ∀ c ∈ x.cps.toList, c < 128) (hn : x.length ≤ n) : Sh (.str x) 0 n := by
  refine ⟨rfl, ?_, Nat.le_refl _, hn⟩
  show (x.cps.toList.all fun c => decide (c < 16 ^ 8)) = true
  exact List.all_eq_true.mpr fun c hc => decide_eq_true (Nat.lt_trans (h c hc) (by decide))
structure Shs (ds : List PyData) (k n : Nat) : Prop where
  sh : PyData.showableAll ds = true
  lv : PyData.leavesShortAll 200 ds = true
  dp : PyData.depthAll ds ≤ k
  wt : PyData.weightAll ds ≤ n
theorem Shs.nil (k n : Nat) : Shs [] k n := ⟨rfl, rfl, Nat.zero_le _, Nat.zero_le _⟩
theorem Shs.cons {d : PyData} {ds : List PyData} {k n m : Nat} (h : Sh d k n) (t : Shs ds k m) : Shs (d :: ds) k (n + 1 + m) := by
  refine ⟨?_, ?_, ?_, ?_⟩
  · show (d.showable && PyData.showableAll ds) = true
    rw [h.sh, t.sh]; rfl
  · show (d.leavesShort 200 && PyData.leavesShortAll 200 ds) = true
    rw [h.lv, t.lv]; rfl
  · show max d.depth (PyData.depthAll ds) ≤ k
    exact Nat.max_le.mpr ⟨h.dp, t.dp⟩
  · show d.weight + 1 + PyData.weightAll ds ≤ n + 1 + m
    have := h.wt
    have := t.wt
    omega
theorem Shs.mono {ds : List PyData} {k n k' n' : Nat} (h : Shs ds k n) (hk : k ≤ k') (hn : n ≤ n') : Shs ds k' n' := ⟨h.sh, h.lv, Nat.le_trans h.dp hk, Nat.le_trans h.wt hn⟩
theorem Shs.append {ds es : List PyData} {k n m : Nat} (h : Shs ds k n) (t : Shs es k m) : Shs (ds ++ es) k (n + m) := by
  induction ds generalizing n with
  | nil => exact t.mono (Nat.le_refl _) (Nat.le_add_left _ _)
  | cons d r ih =>
    have hs : (d.showable && PyData.showableAll r) = true := h.sh
    have hl : (d.leavesShort 200 && PyData.leavesShortAll 200 r) = true := h.lv
    rw [Bool.and_eq_true] at hs hl
    have hd : max d.depth (PyData.depthAll r) ≤ k := h.dp
    have hw : d.weight + 1 + PyData.weightAll r ≤ n := h.wt
    have q := ih (n := PyData.weightAll r) ⟨hs.2, hl.2, Nat.le_trans (Nat.le_max_right _ _) hd, Nat.le_refl _⟩
    have z := Shs.cons (d := d) (n := d.weight) ⟨hs.1, hl.1, Nat.le_trans (Nat.le_max_left _ _) hd, Nat.le_refl _⟩ q
    exact z.mono (Nat.le_refl _) (by omega)
theorem Shs.of : ∀ {ds : List PyData} {k : Nat} {f : PyData → Nat}, (∀ d ∈ ds, Sh d k (f d)) → Shs ds k ((ds.map fun d => f d + 1).sum)
  | [], k, f, _ => Shs.nil _ _
  | d :: r, k, f, h => by
    have q := Shs.of (ds := r) (f := f) fun x hx => h x (List.mem_cons_of_mem _ hx)
    have z := Shs.cons (h d List.mem_cons_self) q
    simpa using z
theorem Sh.tuple {ds : List PyData} {k n : Nat} (h : Shs ds k n) : Sh (.tuple ds) (k + 1) n := ⟨h.sh, h.lv, Nat.succ_le_succ h.dp, h.wt⟩
theorem Sh.list {ds : List PyData} {k n : Nat} (h : Shs ds k n) : Sh (.list ds) (k + 1) n := ⟨h.sh, h.lv, Nat.succ_le_succ h.dp, h.wt⟩
theorem has_lt {s x : Str} (hs : ∀ c ∈ s.cps.toList, c < 128) (h : has s x = true) : ∀ c ∈ x.cps.toList, c < 128 := fun c hc =>
  hs c (of_decide_eq_true (List.all_eq_true.mp h c hc))
theorem TXT_lt : ∀ c ∈ TXT.cps.toList, c < 128 := by decide +kernel
end K1
namespace K1
open PySem
noncomputable def Good (d : PyData) : Prop := Sh d 60 60000
theorem Good.str {x : Str} (h : Good (.str x)) : x.cps.size ≤ 60000 := h.wt
theorem weight_mem : ∀ {ds : List PyData} {d : PyData}, d ∈ ds → d.weight + 1 ≤ PyData.weightAll ds ∧ d.depth ≤ PyData.depthAll ds ∧ (PyData.showableAll ds = true → d.showable = true) ∧ (PyData.leavesShortAll 200 ds = true → d.leavesShort 200 = true)
  | e :: r, d, h => by
    have e1 : PyData.weightAll (e :: r) = e.weight + 1 + PyData.weightAll r := rfl
    have e2 : PyData.depthAll (e :: r) = max e.depth (PyData.depthAll r) := rfl
    have e3 : PyData.showableAll (e :: r) = (e.showable && PyData.showableAll r) := rfl
    have e4 : PyData.leavesShortAll 200 (e :: r) = (e.leavesShort 200 && PyData.leavesShortAll 200 r) := rfl
    rw [e1, e2, e3, e4, Bool.and_eq_true, Bool.and_eq_true]
    rcases List.mem_cons.mp h with z | z
    · subst z
      exact ⟨by omega, Nat.le_max_left _ _, fun q => q.1, fun q => q.1⟩
    · obtain ⟨q1, q2, q3, q4⟩ := weight_mem z
      exact ⟨by omega, Nat.le_trans q2 (Nat.le_max_right _ _), fun q => q3 q.2, fun q => q4 q.2⟩
theorem weight_len : ∀ ds : List PyData, ds.length ≤ PyData.weightAll ds
  | [] => Nat.zero_le _
  | e :: r => by
    have := weight_len r
    have e1 : PyData.weightAll (e :: r) = e.weight + 1 + PyData.weightAll r := rfl
    rw [e1, List.length_cons]
    omega
theorem Good.part {ds : List PyData} {d : PyData} (h : Good (.tuple ds)) (hd : d ∈ ds) : Good d := by
  obtain ⟨q1, q2, q3, q4⟩ := weight_mem hd
  have w := h.wt
  have p := h.dp
  have e1 : (PyData.tuple ds).weight = PyData.weightAll ds := rfl
  have e2 : (PyData.tuple ds).depth = PyData.depthAll ds + 1 := rfl
  rw [e1] at w
  rw [e2] at p
  exact ⟨q3 h.sh, q4 h.lv, by omega, by omega⟩
theorem Good.len {ds : List PyData} (h : Good (.tuple ds)) : ds.length ≤ 60000 := Nat.le_trans (weight_len ds) h.wt
theorem Good.fits {d : PyData} (h : Good d) : d.shown.length ≤ sizeLine := Sh.fits h (Nat.le_refl _)
end K1
namespace G
open PySem PySem.Spec PyProof.Rows L2 D
open K1 (has LET TXT single built manyF lsz isName isVal tdp deepF ldp)
mutual
noncomputable def smB : PyData → Bool
  | .str x => decide (x.length ≤ 60000) && x.cps.toList.all fun c => decide (c < 128)
  | .tuple ds => smBs ds
  | _ => true
noncomputable def smBs : List PyData → Bool
  | [] => true
  | d :: r => smB d && smBs r
end
noncomputable def Sm (d : PyData) : Prop := smB d = true
theorem Sm.both {x : Str} (h : Sm (.str x)) : x.length ≤ 60000 ∧ ∀ c ∈ x.cps.toList, c < 128 := by
  have h' : (decide (x.length ≤ 60000) && x.cps.toList.all fun c => decide (c < 128)) = true := by
    have : smB (.str x) = true := h
    rw [smB] at this
    exact this
  rw [Bool.and_eq_true, List.all_eq_true] at h'
  exact ⟨of_decide_eq_true h'.1, fun c hc => of_decide_eq_true (h'.2 c hc)⟩
theorem Sm.str {x : Str} (h : Sm (.str x)) : x.cps.size ≤ 60000 := h.both.1
theorem Sm.mkS {x : Str} (h : x.length ≤ 60000) (h2 : ∀ c ∈ x.cps.toList, c < 128) : Sm (.str x) := by
  show smB (.str x) = true
  rw [smB, Bool.and_eq_true, List.all_eq_true]
  exact ⟨decide_eq_true h, fun c hc => decide_eq_true (h2 c hc)⟩
theorem Sm.ok {x : Str} (h : Sm (.str x)) : PyData.strOk x = true := by
  unfold PyData.strOk
  rw [Array.all_eq_true']
  intro c hc
  exact decide_eq_true (Nat.lt_trans (h.both.2 c (by simpa using hc)) (by decide))
theorem smBs_mem : ∀ {ds : List PyData} {d : PyData}, smBs ds = true → d ∈ ds → smB d = true
  | e :: r, d, h, hd => by
    have h' : (smB e && smBs r) = true := by simpa [smBs] using h
    rw [Bool.and_eq_true] at h'
    rcases List.mem_cons.mp hd with z | z
    · rw [z]; exact h'.1
    · exact smBs_mem h'.2 z
theorem Sm.part {ds : List PyData} {d : PyData} (h : Sm (.tuple ds)) (hd : d ∈ ds) : Sm d := smBs_mem (by simpa [Sm, smB] using h) hd
theorem smBs_of : ∀ {ds : List PyData}, (∀ d ∈ ds, Sm d) → smBs ds = true
  | [], _ => by simp [smBs]
  | d :: r, h => by
    have h1 : smB d = true := h d List.mem_cons_self
    simp [smBs, h1, smBs_of (ds := r) fun x hx => h x (List.mem_cons_of_mem _ hx)]
theorem Sm.tup {ds : List PyData} (h : ∀ d ∈ ds, Sm d) : Sm (.tuple ds) := by simp [Sm, smB, smBs_of h]
noncomputable def whole : PyData → Bool
  | .int _ => true
  | _ => false
theorem L_whole (x : PyData) (T : Tp) : m_is_whole [.d x] T = some (.bool (whole x), T) := by cases x <;> rfl
theorem signs_all (y x : Str) : (D.signs x).all (strHas y) = has y x := by
  unfold D.signs has
  rw [List.all_map]
  congr 1
  funext c
  exact hasS_one y c
theorem L_has {x y : Str} (T : Tp) (h : x.length ≤ sizeLine) : m_has_only [.d (.str x), .d (.str y)] T = some (.bool (has y x), T) := by
  have hc : compL fTrue (fBin inD (fVar 0) (fVar 2)) [some (.d (.str x)), some (.d (.str y))] (D.signs x) T = some ((D.signs x).map fun d => .bool (strHas y d), T) := compL_map fun d hd => by
    obtain ⟨c, _, rfl⟩ := signs_mem hd
    rfl
  simp [m_has_only, h, hc, signs_all]
theorem L_single {d : PyData} (T : Tp) (h : Sm d) : m_is_single [.d d] T = some (.bool (single d), T) := by
  cases d with
  | str x =>
    have hz : x.length ≤ sizeLine := Nat.le_trans h.str (by decide)
    have hh : ∀ T, m_has_only [.d (.str x), .d (.str (Str.ofString "abcdefghijklmnopqrstuvwxyz0123456789-"))] T = some (.bool (has TXT x), T) := fun T => L_has T hz
    have e : single (.str x) = (decide (x.length ≤ 20) && has TXT x) := rfl
    have hi : isiK .str .str = true := rfl
    by_cases hk : x.length ≤ 20
    · have hk' : (x.length : Int) ≤ 20 := by omega
      simp [m_is_single, L_whole, whole, hh, hz, hi, e, hk, hk']
    · have hk' : ¬ (x.length : Int) ≤ 20 := by omega
      simp [m_is_single, L_whole, whole, hh, hz, hi, e, hk, hk']
  | _ => rfl
theorem kd_tup {d : PyData} (h : kd d = .tup) : ∃ ds, d = .tuple ds := by cases d <;> first | exact ⟨_, rfl⟩ | cases h
theorem not_tup {d : PyData} (h : kd d ≠ .tup) : isiK (kd d) .tup = false := by
  revert h
  cases kd d <;> simp [isiK]
theorem built_other {n : Nat} {d : PyData} (h : kd d ≠ .tup) : built n d = single d := by
  cases d <;> first | (cases n <;> rfl) | exact absurd rfl h
theorem many_other {n : Nat} {d : PyData} (h : kd d ≠ .tup) : manyF n d = 1 := by
  cases d <;> first | (cases n <;> rfl) | exact absurd rfl h
theorem tdp0 {d : PyData} (h : tdp 0 d = true) : kd d ≠ .tup := by
  intro z
  cases d <;> first | cases h; done | cases z
theorem isi_tt : isiK .tup .tup = true := rfl
theorem L_built : ∀ (n k : Nat) (d : PyData) (T : Tp), Sm d → n < k → m_is_built k [.d d, .d (.int n)] T = some (.bool (built n d), T)
  | n, 0, d, T, _, hk => absurd hk (Nat.not_lt_zero _)
  | n, k + 1, d, T, hg, hk => by
    by_cases ht : kd d = .tup
    · obtain ⟨ds, rfl⟩ := kd_tup ht
      cases n with
      | zero => simp [m_is_built, isi_tt, built]
      | succ n =>
        have e : built (n + 1) (.tuple ds) = (decide (ds.length ≤ 8) && ds.all (built n)) := rfl
        have h0 : ¬ ((n + 1 : Nat) : Int) = 0 := by omega
        have h0' : ¬ (n : Int) + 1 = 0 := by omega
        by_cases h8 : ds.length ≤ 8
        · have h8' : ¬ (8 : Int) < (ds.length : Int) := by omega
          have hs : ((n + 1 : Nat) : Int) - 1 = (n : Int) := by omega
          have hc : compL fTrue (fCall (m_is_built k) (fCons (fVar 0) (fCons (fBin subD (fVar 2) (fC (.int 1))) fNil))) [some (.d (.tuple ds)), some (.d (.int ((n + 1 : Nat) : Int)))] ds T = some (ds.map fun x => .bool (built n x), T) := compL_map fun x hx => by
            have := L_built n k x T (hg.part hx) (by omega)
            simp [hs, this]
          simp [m_is_built, isi_tt, e, h0, h0', h8, h8'] at hc ⊢
          simp [hc]
        · have h8' : (8 : Int) < (ds.length : Int) := by omega
          simp [m_is_built, isi_tt, e, h0, h0', h8, h8']
    · simp [m_is_built, not_tup ht, built_other ht, L_single T hg]
theorem L_many : ∀ (n k : Nat) (d : PyData) (T : Tp), tdp n d = true → n < k → m_many_of k [.d d] T = some (.int (manyF n d), T)
  | n, 0, d, T, _, hk => absurd hk (Nat.not_lt_zero _)
  | n, k + 1, d, T, hg, hk => by
    by_cases ht : kd d = .tup
    · cases n with
      | zero => exact absurd ht (tdp0 hg)
      | succ n =>
        obtain ⟨ds, rfl⟩ := kd_tup ht
        have hg' : ds.all (tdp n) = true := hg
        have e : manyF (n + 1) (.tuple ds) = 1 + (ds.map (manyF n)).sum := rfl
        have hc : compL fTrue (fCall (m_many_of k) (fCons (fVar 0) fNil)) [some (.d (.tuple ds))] ds T = some (ds.map fun x => .int (manyF n x), T) := compL_map fun x hx => by
          have := L_many n k x T (List.all_eq_true.mp hg' x hx) (by omega)
          simp [this]
        simp [m_many_of, isi_tt, e, hc]
    · simp [m_many_of, not_tup ht, many_other ht]
theorem L_value {d : PyData} (T : Tp) (h : Sm d) : m_is_value [.d d] T = some (.bool (isVal d), T) := by
  have h1 := L_built 4 25 d T h (by decide)
  have h1' : m_is_built 25 [.d d, .d (.int 4)] T = some (.bool (built 4 d), T) := h1
  have e : isVal d = (built 4 d && decide (manyF 4 d ≤ 40)) := rfl
  cases hb : built 4 d with
  | false => simp [m_is_value, h1', e, hb]
  | true =>
    have h2 := L_many 4 25 d T (K1.built_tdp 4 d hb) (by decide)
    simp [m_is_value, h1', h2, e, hb]
end G
namespace G
open PySem PySem.Spec PyProof.Rows L2 D
variable {R : Tp}
noncomputable def TapeOk (R T : Tp) : Prop := ∃ ns spot rest, T = [script ns, .int spot, .int rest] :: R ∧ ns.length ≤ 63 ∧ (0 : Int) ≤ spot ∧ (0 : Int) ≤ rest
theorem cell_at {ns : List Int} {spot : Int} (h : 0 < ns.length) : ∃ c, atI (ns.map PyData.int) (spot % (ns.length : Int)) = some (.int c) := by
  have h1 : 0 ≤ spot % (ns.length : Int) := Int.emod_nonneg _ (by omega)
  have h2 : spot % (ns.length : Int) < (ns.length : Int) := Int.emod_lt_of_pos _ (by omega)
  have h3 : (spot % (ns.length : Int)).toNat < ns.length := by omega
  refine ⟨ns[(spot % (ns.length : Int)).toNat], ?_⟩
  unfold atI ixN
  rw [List.length_map, if_pos h1, if_pos h2]
  show (ns.map PyData.int)[(spot % (ns.length : Int)).toNat]? = _
  rw [List.getElem?_map, List.getElem?_eq_getElem h3]
  rfl
noncomputable def mixV (c spot m : Int) : Int := (((c % 1000003 + 1) * (48271 + 2 * (spot % 997)) % 2147483647 + 104729 * spot) * 69621 % 2147483629 / 7) % m
theorem L_draw {T : Tp} {m : Int} (t : (TapeOk R) T) (h1 : 0 < m) (h2 : m < 1073741824) : ∃ r T', m__law_draw [.tp 0, .d (.int m)] T = some (.int r, T') ∧ (TapeOk R) T' ∧ 0 ≤ r ∧ r < m := by
  obtain ⟨ns, spot, rest, rfl, hl, hs, hr⟩ := t
  have big : ∀ x : Int, (0 : Int) ≤ x % m ∧ x % m < m := fun x => ⟨Int.emod_nonneg _ (by omega), Int.emod_lt_of_pos _ h1⟩
  have dv : ∀ x : Int, 0 ≤ x → 0 ≤ x / m := fun x hx => Int.ediv_nonneg hx (by omega)
  have mu1 : ∀ c : Int, (-18446744073709551616 < c % 1000003 + 1 ∧ c % 1000003 + 1 < 18446744073709551616) := fun c => by omega
  by_cases h0 : rest = 0
  · subst h0
    by_cases hn : 0 < ns.length
    · obtain ⟨c, hc⟩ := cell_at (spot := spot) hn
      by_cases hc1 : c < 1000000000000000000
      · refine ⟨mixV c spot m, _, ?_, ⟨ns, spot + 1, 0, rfl, hl, by omega, by omega⟩, big _⟩
        simp [m__law_draw, eqD, eqS, at0, at1, at2, ix1, ix2, fPut, script, hn, hc, hc1, h1, mu1 c, mixV]
      · by_cases hsp : (ns.length : Int) ≤ spot
        · refine ⟨mixV c spot m, _, ?_, ⟨ns, spot + 1, 0, rfl, hl, by omega, by omega⟩, big _⟩
          simp [m__law_draw, eqD, eqS, at0, at1, at2, ix1, ix2, fPut, script, hn, hc, hc1, hsp, h1, mu1 c, mixV]
        · refine ⟨c % m, _, ?_, ⟨ns, spot + 1, c / m, rfl, hl, by omega, dv _ (by omega)⟩, big _⟩
          simp [m__law_draw, eqD, eqS, at0, at1, at2, ix1, ix2, fPut, script, hn, hc, hc1, hsp, h1, h2]
    · have hz : ns = [] := List.length_eq_zero_iff.mp (by omega)
      subst hz
      refine ⟨mixV spot spot m, _, ?_, ⟨[], spot + 1, 0, rfl, hl, by omega, by omega⟩, big _⟩
      simp [m__law_draw, eqD, eqS, at0, at1, at2, ix1, ix2, fPut, script, hs, h1, mu1 spot, mixV]
  · refine ⟨rest % m, _, ?_, ⟨ns, spot, rest / m, rfl, hl, hs, dv _ hr⟩, big _⟩
    simp [m__law_draw, eqD, eqS, at0, at1, at2, ix1, ix2, fPut, script, h0, h1, h2]
end G
namespace G
open PySem PySem.Spec PyProof.Rows L2 D
open K1 (has LET TXT single built manyF lsz isName isVal tdp deepF ldp Good Sh Shs)
variable {R : Tp}
theorem at_mem {α : Type} {xs : List α} {i : Int} (h0 : 0 ≤ i) (h1 : i < (xs.length : Int)) : ∃ a, atI xs i = some a ∧ a ∈ xs := by
  have h : i.toNat < xs.length := by omega
  refine ⟨xs[i.toNat], ?_, List.getElem_mem h⟩
  unfold atI ixN
  rw [if_pos h0, if_pos h1]
  show xs[i.toNat]? = _
  rw [List.getElem?_eq_getElem h]
theorem let_len : (LET.cps.toList.length : Int) = 26 := by decide +kernel
theorem txt_len : (TXT.cps.toList.length : Int) = 37 := by decide +kernel
theorem flat_ones (cs : List Nat) : ((cs.map fun c => (⟨#[c]⟩ : Str)).map (·.cps.toList)).flatten = cs := by
  induction cs with
  | nil => rfl
  | cons a r ih =>
    rw [List.map_cons, List.map_cons, List.flatten_cons, ih]
    rfl
theorem join_has {y : Str} : ∀ {ys : List PyData}, (∀ d ∈ ys, ∃ c, c ∈ y.cps.toList ∧ d = .str ⟨#[c]⟩) → ∃ x, strsD ys = some x ∧ (x.map (·.length)).sum = ys.length ∧ x.length = ys.length ∧ has y (Str.join (Str.ofString "") x) = true ∧ (Str.join (Str.ofString "") x).length = ys.length := by
  intro ys h
  have key : ∃ cs : List Nat, (∀ c ∈ cs, c ∈ y.cps.toList) ∧ ys = cs.map (fun c => PyData.str ⟨#[c]⟩) := by
    induction ys with
    | nil => exact ⟨[], by simp, rfl⟩
    | cons d r ih =>
      obtain ⟨cs, h1, h2⟩ := ih fun x hx => h x (List.mem_cons_of_mem _ hx)
      obtain ⟨c, hc, rfl⟩ := h d List.mem_cons_self
      refine ⟨c :: cs, fun x hx => ?_, by rw [h2]; rfl⟩
      rcases List.mem_cons.mp hx with z | z
      · rw [z]; exact hc
      · exact h1 x z
  obtain ⟨cs, h1, rfl⟩ := key
  refine ⟨cs.map fun c => ⟨#[c]⟩, strsD_map (fun c : Nat => (⟨#[c]⟩ : Str)) cs, ?_, by simp, ?_, ?_⟩
  · rw [List.map_map, List.length_map]
    have : ∀ l : List Nat, (l.map ((fun x : Str => x.length) ∘ fun c => (⟨#[c]⟩ : Str))).sum = l.length := fun l => by
      induction l with
      | nil => rfl
      | cons a r ih =>
        rw [List.map_cons, List.sum_cons, ih, List.length_cons, Nat.add_comm]
        rfl
    exact this cs
  · have jc := join_codes (z := Str.ofString "") (by decide +kernel) (cs.map fun c => (⟨#[c]⟩ : Str))
    unfold has
    rw [jc, flat_ones]
    exact List.all_eq_true.mpr fun c hc => decide_eq_true (h1 c hc)
  · have jc := join_codes (z := Str.ofString "") (by decide +kernel) (cs.map fun c => (⟨#[c]⟩ : Str))
    rw [List.length_map]
    show (Str.join (Str.ofString "") _).cps.size = _
    rw [← Array.length_toList, jc, flat_ones]
theorem ev_joinD {z : Str} {xs : List PyData} {ys : List Str} (h : strsD xs = some ys) : joinD (.str z) (.list xs) = if (ys.map (·.length)).sum + ys.length * z.length ≤ 16777216 then some (.str (Str.join z ys)) else none := by
  show (match strsD xs with | some (ys : List Str) => if (ys.map fun x : Str => x.length).sum + ys.length * z.length ≤ 16777216 then some (PyData.str (Str.join z ys)) else none | none => none) = _
  rw [h]
theorem nums_len (n : Nat) : (numsD 0 n).length = n := by simp [numsD]
theorem rng_small {j : Int} (h0 : 0 ≤ j) (h1 : j ≤ 1000) : rngOk j = true := decide_eq_true (by omega)
theorem L_signs {y : Str} {T : Tp} {ρ : Rho} {e : FE} {k : Int} (t : (TapeOk R) T) (hk : 0 ≤ k) (hk2 : k ≤ 100) (he : ∀ d T, (TapeOk R) T → ∃ c T', e (some (.d d) :: ρ) T = some (.d (.str ⟨#[c]⟩), T') ∧ (TapeOk R) T' ∧ c ∈ y.cps.toList) :
    ∃ x ys T', compL fTrue e ρ (numsD 0 k.toNat) T = some (ys, T') ∧ (TapeOk R) T' ∧ joinD (.str (Str.ofString "")) (.list ys) = some (.str x) ∧ has y x = true ∧ (x.length : Int) = k := by
  obtain ⟨ys, T', e1, t1, l1, q1⟩ := compL_inv (P := (TapeOk R)) (Q := fun d => ∃ c, c ∈ y.cps.toList ∧ d = .str ⟨#[c]⟩) (ds := numsD 0 k.toNat) t fun d _ T t => by
    obtain ⟨c, T', e1, t1, h1⟩ := he d T t
    exact ⟨_, T', e1, t1, c, h1, rfl⟩
  obtain ⟨x, h1, h2, h3, h4, h5⟩ := join_has q1
  rw [nums_len] at l1
  refine ⟨_, ys, T', e1, t1, ?_, h4, by rw [h5, l1]; omega⟩
  rw [ev_joinD h1, if_pos ?_]
  have : (Str.ofString "").length = 0 := by decide +kernel
  rw [h2, this, l1]
  omega
theorem sign_at {y : Str} {i : Int} (h0 : 0 ≤ i) (h1 : i < (y.cps.toList.length : Int)) : ∃ c, atI y.cps.toList i = some c ∧ c ∈ y.cps.toList := at_mem h0 h1
theorem len_let : LET.length ≤ sizeLine := by decide +kernel
theorem len_txt : TXT.length ≤ sizeLine := by decide +kernel
noncomputable def words : List PyData := ["a", "ab", "abc", "b", "say", "want", "put", "got", "row", "made", "told", "fail", "fails", "when", "many", "peek", "part", "sum", "kind", "name", "zzzzzzzz", "lacks", "x"].map fun s => .str (Str.ofString s)
theorem words_ok : ∀ d ∈ words, ∃ x, d = .str x ∧ isName (.str x) = true := by
  intro d hd
  obtain ⟨s, hs, rfl⟩ := List.mem_map.mp hd
  refine ⟨_, rfl, ?_⟩
  clear hd
  revert s
  decide +kernel
theorem Lg_name {T : Tp} (t : (TapeOk R) T) : ∃ x T', m__law_name [.tp 0] T = some (.str x, T') ∧ (TapeOk R) T' ∧ isName (.str x) = true := by
  obtain ⟨w, T1, e1, t1, w0, w1⟩ := L_draw (m := 30) t (by decide) (by decide)
  by_cases hw : w < 23
  · obtain ⟨d, hd, hm⟩ := at_mem (xs := words) w0 (by show w < 23; exact hw)
    obtain ⟨x, rfl, hx⟩ := words_ok d hm
    refine ⟨x, T1, ?_, t1, hx⟩
    have hd' : atI words w = some (.str x) := hd
    simp [words] at hd'
    simp [m__law_name, e1, hw, hd', sizeLine_eq]
  · obtain ⟨k, T2, e2, t2, k0, k1⟩ := L_draw (m := 8) t1 (by decide) (by decide)
    obtain ⟨x, ys, T3, e3, t3, e4, hx, hl⟩ := L_signs (y := LET) (k := 1 + k) (e := fBin ixD (fVar 4) (fCall m__law_draw (fCons (fVar 1) (fCons (fC (.int 26)) fNil)))) (ρ := [some (.tp 0), some (.d (.list words)), some (.d (.int w)), some (.d (.str LET))]) t2 (by omega) (by omega) fun d T t => by
      obtain ⟨r, T', e1, t1, r0, r1⟩ := L_draw (m := 26) t (by decide) (by decide)
      obtain ⟨c, hc, hm⟩ := sign_at (y := LET) r0 (by rw [let_len]; exact r1)
      exact ⟨c, T', by simp [e1, hc, len_let], t1, hm⟩
    have hr := rng_small (j := 1 + k) (by omega) (by omega)
    refine ⟨x, T3, ?_, t3, ?_⟩
    · have e3' := e3
      simp [words, LET] at e3'
      simp [m__law_name, e1, hw, e2, hr, e3', e4, sizeLine_eq]
    · show (decide (1 ≤ x.length) && decide (x.length ≤ 8) && has LET x) = true
      rw [hx, decide_eq_true (by omega), decide_eq_true (by omega)]
      rfl
theorem name_single {x : Str} (h : isName (.str x) = true) : single (.str x) = true := by
  have h' : (decide (1 ≤ x.length) && decide (x.length ≤ 8) && has LET x) = true := h
  rw [Bool.and_eq_true, Bool.and_eq_true] at h'
  have h8 := of_decide_eq_true h'.1.2
  show (decide (x.length ≤ 20) && has TXT x) = true
  rw [decide_eq_true (by omega)]
  have sub : ∀ c ∈ LET.cps.toList, c ∈ TXT.cps.toList := by decide +kernel
  exact List.all_eq_true.mpr fun c hc => decide_eq_true (sub c (of_decide_eq_true (List.all_eq_true.mp h'.2 c hc)))
theorem txts_ok : ∀ d ∈ [PyData.str (Str.ofString ""), .str (Str.ofString "a"), .str (Str.ofString "-5")], ∃ x, d = .str x ∧ single (.str x) = true := by
  intro d hd
  simp at hd
  rcases hd with rfl | rfl | rfl
  · exact ⟨_, rfl, by decide +kernel⟩
  · exact ⟨_, rfl, by decide +kernel⟩
  · exact ⟨_, rfl, by decide +kernel⟩
theorem Lg_text {T : Tp} (t : (TapeOk R) T) : ∃ x T', m__law_text [.tp 0] T = some (.str x, T') ∧ (TapeOk R) T' ∧ single (.str x) = true := by
  obtain ⟨w, T1, e1, t1, w0, w1⟩ := L_draw (m := 8) t (by decide) (by decide)
  by_cases hw : w < 3
  · obtain ⟨d, hd, hm⟩ := at_mem (xs := [PyData.str (Str.ofString ""), .str (Str.ofString "a"), .str (Str.ofString "-5")]) w0 (by show w < 3; exact hw)
    obtain ⟨x, rfl, hx⟩ := txts_ok d hm
    exact ⟨x, T1, by simp [m__law_text, e1, hw, hd], t1, hx⟩
  · by_cases hw6 : w < 6
    · obtain ⟨x, T2, e2, t2, hx⟩ := Lg_name t1
      exact ⟨x, T2, by simp [m__law_text, e1, hw, hw6, e2], t2, name_single hx⟩
    · obtain ⟨k, T2, e2, t2, k0, k1⟩ := L_draw (m := 21) t1 (by decide) (by decide)
      obtain ⟨n, hn, hm⟩ := at_mem (xs := [PyData.int k, .int 20]) (i := w - 6) (by omega) (by show w - 6 < 2; omega)
      have : ∃ j : Int, n = .int j ∧ 0 ≤ j ∧ j ≤ 20 := by
        simp at hm
        rcases hm with rfl | rfl
        · exact ⟨k, rfl, k0, by omega⟩
        · exact ⟨20, rfl, by omega, by omega⟩
      obtain ⟨j, rfl, j0, j1⟩ := this
      obtain ⟨x, ys, T3, e3, t3, e4, hx, hl⟩ := L_signs (y := TXT) (k := j) (e := fBin ixD (fVar 2) (fCall m__law_draw (fCons (fVar 1) (fCons (fC (.int 37)) fNil)))) (ρ := [some (.tp 0), some (.d (.str TXT)), some (.d (.int w))]) t2 j0 (by omega) fun d T t => by
        obtain ⟨r, T', e1, t1, r0, r1⟩ := L_draw (m := 37) t (by decide) (by decide)
        obtain ⟨c, hc, hm⟩ := sign_at (y := TXT) r0 (by rw [txt_len]; exact r1)
        exact ⟨c, T', by simp [e1, hc, len_txt], t1, hm⟩
      have hr := rng_small (j := j) j0 (by omega)
      refine ⟨x, T3, ?_, t3, ?_⟩
      · have e3' := e3
        simp [TXT] at e3'
        simp [m__law_text, e1, hw, hw6, e2, hn, hr, e3', e4]
      · show (decide (x.length ≤ 20) && has TXT x) = true
        rw [hx, decide_eq_true (by omega)]
        rfl
theorem single_int {i : Int} (h : -1000000000000000000 ≤ i) (h' : i ≤ 1000000000000000000) : single (.int i) = true := by
  show decide ((if i < 0 then -i else i) ≤ 10 ^ 18) = true
  refine decide_eq_true ?_
  split <;> omega
theorem nums_ok : ∀ d ∈ [PyData.int 0, .int 1, .int (-1), .int 2, .int 3, .int 10, .int 1000000000000000000, .int (-1000000000000000000), .int 999999999999999999], ∃ i : Int, d = .int i ∧ single (.int i) = true := by
  intro d hd
  simp at hd
  rcases hd with rfl | rfl | rfl | rfl | rfl | rfl | rfl | rfl | rfl <;> exact ⟨_, rfl, single_int (by decide) (by decide)⟩
theorem Lg_number {T : Tp} (t : (TapeOk R) T) : ∃ i T', m__law_number [.tp 0] T = some (.int i, T') ∧ (TapeOk R) T' ∧ single (.int i) = true := by
  obtain ⟨w, T1, e1, t1, w0, w1⟩ := L_draw (m := 12) t (by decide) (by decide)
  by_cases hw : w < 9
  · obtain ⟨d, hd, hm⟩ := at_mem (xs := [PyData.int 0, .int 1, .int (-1), .int 2, .int 3, .int 10, .int 1000000000000000000, .int (-1000000000000000000), .int 999999999999999999]) w0 (by show w < 9; exact hw)
    obtain ⟨i, rfl, hi⟩ := nums_ok d hm
    exact ⟨i, T1, by simp [m__law_number, e1, hw, hd], t1, hi⟩
  · obtain ⟨a, T2, e2, t2, a0, a1⟩ := L_draw (m := 1000000000) t1 (by decide) (by decide)
    obtain ⟨b, T3, e3, t3, b0, b1⟩ := L_draw (m := 1000000000) t2 (by decide) (by decide)
    obtain ⟨c, T4, e4, t4, c0, c1⟩ := L_draw (m := 2) t3 (by decide) (by decide)
    have hab : 0 ≤ a * 1000000000 + b ∧ a * 1000000000 + b < 1000000000000000000 := by omega
    have cm : (-18446744073709551616 < a * 1000000000 + b ∧ a * 1000000000 + b < 18446744073709551616) := by omega
    have cc : c = 0 ∨ c = 1 := by omega
    rcases cc with rfl | rfl
    · have h0 : atI [PyData.int 1, .int (-1)] 0 = some (.int 1) := rfl
      exact ⟨a * 1000000000 + b, T4, by simp [m__law_number, e1, hw, e2, e3, e4, h0, cm], t4, single_int (by omega) (by omega)⟩
    · have h0 : atI [PyData.int 1, .int (-1)] 1 = some (.int (-1)) := rfl
      exact ⟨-(a * 1000000000 + b), T4, by simp [m__law_number, e1, hw, e2, e3, e4, h0, cm], t4, single_int (by omega) (by omega)⟩
theorem built_single {n : Nat} {d : PyData} (h : single d = true) : built n d = true ∧ manyF n d = 1 := by
  cases d with
  | int i => exact ⟨by cases n <;> exact h, by cases n <;> rfl⟩
  | str x => exact ⟨by cases n <;> exact h, by cases n <;> rfl⟩
  | _ => cases h
theorem sum_le {f : PyData → Int} {q : Int} : ∀ {l : List PyData}, (∀ d ∈ l, f d ≤ q) → (l.map f).sum ≤ l.length * q
  | [], _ => by simp
  | a :: r, h => by
    have h1 := h a List.mem_cons_self
    have h2 := sum_le (l := r) fun d hd => h d (List.mem_cons_of_mem _ hd)
    rw [List.map_cons, List.sum_cons, List.length_cons]
    have : ((r.length + 1 : Nat) : Int) * q = r.length * q + q := by rw [Int.natCast_add, Int.add_mul]; simp
    omega
theorem Lg_value : ∀ (n k : Nat) (T : Tp) (room : Int), (TapeOk R) T → n < k → 1 ≤ room → ∃ d T', m__law_value k [.tp 0, .d (.int n), .d (.int room)] T = some (d, T') ∧ (TapeOk R) T' ∧ built n d = true ∧ manyF n d ≤ room
  | n, 0, T, room, _, hk, _ => absurd hk (Nat.not_lt_zero _)
  | n, k + 1, T, room, t, hk, hr => by
    obtain ⟨w, T1, e1, t1, w0, w1⟩ := L_draw (m := 7) t (by decide) (by decide)
    by_cases hw : w < 2
    · obtain ⟨i, T2, e2, t2, hi⟩ := Lg_number t1
      obtain ⟨b1, b2⟩ := built_single (n := n) hi
      exact ⟨.int i, T2, by simp [m__law_value, e1, hw, e2], t2, b1, by omega⟩
    · by_cases hw4 : w < 4
      · obtain ⟨i, T2, e2, t2, hi⟩ := Lg_text t1
        obtain ⟨b1, b2⟩ := built_single (n := n) hi
        exact ⟨.str i, T2, by simp [m__law_value, e1, hw, hw4, e2], t2, b1, by omega⟩
      · cases n with
        | zero =>
          obtain ⟨i, T2, e2, t2, hi⟩ := Lg_text t1
          obtain ⟨b1, b2⟩ := built_single (n := 0) hi
          exact ⟨.str i, T2, by simp [m__law_value, e1, hw, hw4, e2], t2, b1, by omega⟩
        | succ n =>
          have h0 : ¬ (n : Int) + 1 = 0 := by omega
          obtain ⟨m, hm, hm1, hm2, hm3⟩ : ∃ m : Int, (if room < 9 then room else 9) = m ∧ 1 ≤ m ∧ m ≤ 9 ∧ m ≤ room := ⟨_, rfl, by split <;> omega, by split <;> omega, by split <;> omega⟩
          obtain ⟨j, T2, e2, t2, j0, j1⟩ := L_draw (m := m) t1 (by omega) (by omega)
          have hrj := rng_small (j := j) j0 (by omega)
          by_cases hj : j = 0
          · subst hj
            refine ⟨.tuple [], T2, ?_, t2, rfl, ?_⟩
            · simp [m__law_value, e1, hw, hw4, h0, hm, e2, hrj, numsD, compL]
            · show (1 : Int) + 0 ≤ room
              omega
          · have hj1 : 0 < j := by omega
            have hq : 1 ≤ (room - 1) / j := by
              rw [Int.le_ediv_iff_mul_le hj1]
              omega
            obtain ⟨ys, T3, e3, t3, l3, q3⟩ := compL_inv (P := (TapeOk R)) (Q := fun d => built n d = true ∧ manyF n d ≤ (room - 1) / j) (ds := numsD 0 j.toNat)
              (e := fCall (m__law_value k) (fCons (fVar 1) (fCons (fBin subD (fVar 2) (fC (.int 1))) (fCons (fBin fdivD (fBin subD (fVar 3) (fC (.int 1))) (fVar 5)) fNil)))) (ρ := [some (.tp 0), some (.d (.int ((n + 1 : Nat) : Int))), some (.d (.int room)), some (.d (.int w)), some (.d (.int j))]) t2 fun d _ T t => by
              obtain ⟨d', T', e1, t1, b1, b2⟩ := Lg_value n k T ((room - 1) / j) t (by omega) hq
              have hs : ((n + 1 : Nat) : Int) - 1 = (n : Int) := by omega
              have hj2 : j < 1073741824 := by omega
              refine ⟨d', T', ?_, t1, b1, b2⟩
              simp only [ev_call, ev_cons, ev_var0, ev_var1, ev_var2, ev_var3, ev_var4, ev_var5, ev_bin, ev_C, ev_bnd, ev_op2, ev_sub, ev_mkD, hs]
              simp [hj1, hj2, e1]
            have hl : (ys.length : Int) = j := by rw [l3, nums_len]; omega
            refine ⟨.tuple ys, T3, ?_, t3, ?_, ?_⟩
            · simp only [Int.natCast_add, Int.cast_ofNat_Int] at e3
              simp [m__law_value, e1, hw, hw4, h0, hm, e2, hrj, e3]
            · show (decide (ys.length ≤ 8) && ys.all (built n)) = true
              rw [decide_eq_true (by omega)]
              exact List.all_eq_true.mpr fun d hd => (q3 d hd).1
            · show 1 + (ys.map (manyF n)).sum ≤ room
              have s1 := sum_le (f := manyF n) (q := (room - 1) / j) fun d hd => (q3 d hd).2
              rw [hl] at s1
              have s2 : j * ((room - 1) / j) ≤ room - 1 := Int.mul_ediv_self_le (by omega)
              omega
end G
namespace D
open PySem PySem.Spec PyProof.Rows L2
noncomputable def cd (x : Str) : List Nat := x.cps.toList
theorem cd_inj {x y : Str} (h : cd x = cd y) : x = y := by
  obtain ⟨x⟩ := x
  obtain ⟨y⟩ := y
  have h' : x.toList = y.toList := h
  exact congrArg Str.mk (Array.toList_inj.mp h')
theorem cd_len (x : Str) : (cd x).length = x.length := Array.length_toList
theorem cd_app (x y : Str) : cd (x ++ y) = cd x ++ cd y := cps_toList_append x y
theorem pick_list {α : Type} (xs : List α) (a : Nat) : ∀ k : Nat, (List.range k).filterMap (fun m => xs[a + m]?) = (xs.drop a).take k
  | 0 => by simp
  | k + 1 => by
    rw [List.range_succ, List.filterMap_append, pick_list xs a k, List.take_add_one]
    congr 1
    simp only [List.filterMap_cons, List.filterMap_nil, List.getElem?_drop]
    cases xs[a + k]? <;> rfl
theorem slice_cd {x : Str} {i j : Int} (h0 : 0 ≤ i) (h1 : 0 ≤ j) : cd (Txt.slice x (some i) (some j)) = ((cd x).drop i.toNat).take (j.toNat - i.toNat) := by
  have hl : x.cps.toList.length = x.length := Array.length_toList
  have e : Builtin.Str.strSliceIndices (some i) (some j) 1 x.length = (List.range ((min j.toNat x.length) - (min i.toNat x.length))).map fun k => min i.toNat x.length + k := by
    unfold Builtin.Str.strSliceIndices sliceRange
    simp only [show (1 : Int) > 0 by decide, if_true, show ¬ i < 0 by omega, show ¬ j < 0 by omega, if_false]
    have ea : max 0 (min i (x.length : Int)) = ((min i.toNat x.length : Nat) : Int) := by omega
    have eb : max 0 (min j (x.length : Int)) = ((min j.toNat x.length : Nat) : Int) := by omega
    rw [ea, eb]
    have ec : (if ((min i.toNat x.length : Nat) : Int) < ((min j.toNat x.length : Nat) : Int) then (((min j.toNat x.length : Nat) : Int) - ((min i.toNat x.length : Nat) : Int) + 1 - 1) / 1 else 0).toNat = (min j.toNat x.length) - (min i.toNat x.length) := by
      split
      · rw [Int.ediv_one]; omega
      · omega
    rw [ec]
    refine List.map_congr_left fun k _ => ?_
    omega
  have pk : (Builtin.Str.strSliceIndices (some i) (some j) 1 x.length).filterMap (x.cps[·]?) = (x.cps.toList.drop (min i.toNat x.length)).take ((min j.toNat x.length) - (min i.toNat x.length)) := by
    rw [e, List.filterMap_map, ← pick_list]
    congr 1
    funext m
    simp
  have fin : (x.cps.toList.drop (min i.toNat x.length)).take ((min j.toNat x.length) - (min i.toNat x.length)) = ((cd x).drop i.toNat).take (j.toNat - i.toNat) := by
    unfold cd
    by_cases hi : i.toNat ≤ x.length
    · have e1 : min i.toNat x.length = i.toNat := by omega
      rw [e1]
      by_cases hj : j.toNat ≤ x.length
      · have e2 : min j.toNat x.length = j.toNat := by omega
        rw [e2]
      · have e2 : min j.toNat x.length = x.length := by omega
        rw [e2, List.take_of_length_le (by rw [List.length_drop, hl]; omega), List.take_of_length_le (by rw [List.length_drop, hl]; omega)]
    · have e1 : min i.toNat x.length = x.length := by omega
      rw [e1, List.drop_eq_nil_of_le (by omega), List.drop_eq_nil_of_le (by omega)]
      simp
  unfold Txt.slice
  split
  · rename_i h
    have h' : (Builtin.Str.strSliceIndices (some i) (some j) 1 x.length).length = x.length := by simpa using h
    rw [e, List.length_map, List.length_range] at h'
    rw [← fin]
    show x.cps.toList = _
    by_cases hz : x.length = 0
    · have : x.cps.toList = [] := List.length_eq_zero_iff.mp (by omega)
      rw [this]; simp
    · have e1 : min i.toNat x.length = 0 := by omega
      have e2 : min j.toNat x.length = x.length := by omega
      rw [e1, e2, List.drop_zero, Nat.sub_zero, List.take_of_length_le (by omega)]
  · rw [← fin, ← pk]
    rfl
theorem slice_from {x : Str} {i : Int} (h0 : 0 ≤ i) (h1 : i ≤ (x.length : Int)) : cd (Txt.slice x (some i) none) = (cd x).drop i.toNat := by
  rw [slice_from_eq h0 h1 rfl]
  show (List.take _ _) = _
  refine List.take_of_length_le ?_
  rw [List.length_drop]
  have : x.cps.toList.length = x.length := Array.length_toList
  omega
noncomputable def commas (c : List Nat) : List (List Nat) → List Nat
  | [] => []
  | [x] => x
  | x :: y :: r => x ++ c ++ commas c (y :: r)
theorem join_cd (z : Str) : ∀ ys : List Str, cd (Str.join z ys) = commas (cd z) (ys.map cd)
  | [] => rfl
  | [x] => by
    show cd (Str.join z [x]) = cd x
    simp [Str.join]
  | x :: y :: r => by
    have ih := join_cd z (y :: r)
    show cd ((x ++ z) ++ Str.join z (y :: r)) = _
    rw [cd_app, cd_app, ih]
    rfl
theorem commas_cons (c x : List Nat) (r : List (List Nat)) : commas c (x :: r) = x ++ (r.map (c ++ ·)).flatten := by
  induction r generalizing x with
  | nil => simp [commas]
  | cons y r ih =>
    show x ++ c ++ commas c (y :: r) = _
    rw [ih y]
    simp
theorem starts_one {x : Str} {c : Nat} : Txt.startswith x ⟨#[c]⟩ = decide ((cd x).head? = some c) := by
  unfold Txt.startswith
  have hl : (⟨#[c]⟩ : Str).length = 1 := rfl
  rw [hl]
  obtain ⟨⟨l⟩⟩ := x
  cases l with
  | nil => rfl
  | cons a r =>
    have h1 : (0 + 1 ≤ (⟨⟨a :: r⟩⟩ : Str).length) := by show 0 + 1 ≤ (a :: r).length; simp
    rw [decide_eq_true h1, Bool.true_and]
    show Builtin.Str.subAt ⟨⟨a :: r⟩⟩ ⟨#[c]⟩ 0 = decide ((a :: r).head? = some c)
    have e : (⟨⟨a :: r⟩⟩ : Str).cps.extract 0 (0 + (⟨#[c]⟩ : Str).length) = #[a] := by
      rw [hl]
      apply Array.toList_inj.mp
      rw [Array.toList_extract]
      rfl
    unfold Builtin.Str.subAt
    rw [e, Bool.eq_iff_iff]
    simp
end D
namespace G
open PySem PySem.Spec PyProof.Rows L2 D
open K1 (has LET TXT single built manyF lsz isName isVal tdp deepF ldp)
noncomputable def mk (l : List Nat) : Str := ⟨l.toArray⟩
theorem cd_mk (l : List Nat) : cd (mk l) = l := by simp [cd, mk]
theorem mk_cd (x : Str) : mk (cd x) = x := cd_inj (cd_mk _)
theorem mk_len (l : List Nat) : (mk l).length = l.length := by simp [mk, Str.length]
noncomputable def FIG : Str := Str.ofString "0123456789"
noncomputable def dl (c : Nat) : Bool := decide (c ∈ cd (Str.ofString "(),"))
theorem dl_iff (c : Nat) : dl c = decide (c = 40 ∨ c = 41 ∨ c = 44) := by
  have e : cd (Str.ofString "(),") = [40, 41, 44] := by decide +kernel
  unfold dl
  rw [e]
  simp
noncomputable def W (l : List Nat) : List Nat := l.takeWhile fun c => !dl c
noncomputable def figs (w : List Nat) : Bool := !decide (w = []) && w.all (fun c => decide (c ∈ cd FIG)) && (decide (w = [48]) || !decide (w.head? = some 48))
theorem eq_cd {x : Str} {y : Str} {l : List Nat} (h : cd y = l) : decide (x = y) = decide (cd x = l) := by
  refine decide_eq_decide.mpr ⟨fun e => by rw [e, h], fun e => cd_inj (by rw [e, h])⟩
theorem L_figs {x : Str} (T : Tp) (h : x.length ≤ sizeLine) : m_is_figures [.d (.str x)] T = some (.bool (figs (cd x)), T) := by
  have h1 : ∀ T, m_has_only [.d (.str x), .d (.str (Str.ofString "0123456789"))] T = some (.bool (has FIG x), T) := fun T => L_has T h
  have e1 : decide (x = Str.ofString "") = decide (cd x = []) := eq_cd (by decide +kernel)
  have e2 : decide (x = Str.ofString "0") = decide (cd x = [48]) := eq_cd (by decide +kernel)
  have e3 : Txt.startswith x (Str.ofString "0") = decide ((cd x).head? = some 48) := by
    have : Str.ofString "0" = ⟨#[48]⟩ := cd_inj (by decide +kernel)
    rw [this, starts_one]
  have e4 : has FIG x = (cd x).all (fun c => decide (c ∈ cd FIG)) := rfl
  have p1 : (x = Str.ofString "") = (cd x = []) := propext (by simpa using e1)
  have p2 : (x = Str.ofString "0") = (cd x = [48]) := propext (by simpa using e2)
  unfold figs
  rw [← e4]
  by_cases hn : cd x = []
  · simp [m_is_figures, h1, p1, p2, e3, hn]
  · cases hf : has FIG x with
    | false => simp [m_is_figures, h1, p1, p2, e3, hn, hf]
    | true =>
      by_cases h0 : cd x = [48]
      · simp [m_is_figures, h1, p1, p2, e3, hn, hf, h0]
      · simp [m_is_figures, h1, p1, p2, e3, hn, hf, h0]
noncomputable def optI : Option Int → PyData
  | some i => .int i
  | none => .none
noncomputable def optD : Option PyData → PyData
  | some i => i
  | none => .none
noncomputable def digB (w : List Nat) : Bool := w.all (fun c => decide (c ∈ cd FIG))
theorem fig_codes : cd FIG = [48, 49, 50, 51, 52, 53, 54, 55, 56, 57] := by decide +kernel
theorem dig_of {w : List Nat} (h : digB w = true) : NumText.AllDigits w := fun c hc => by
  have := of_decide_eq_true (List.all_eq_true.mp h c hc)
  rw [fig_codes] at this
  simp at this
  omega
theorem figs_dig {w : List Nat} (h : figs w = true) : NumText.AllDigits w ∧ w ≠ [] := by
  unfold figs at h
  rw [Bool.and_eq_true, Bool.and_eq_true] at h
  exact ⟨dig_of h.1.2, by simpa using h.1.1⟩
noncomputable def fg (w : List Nat) : List Nat := if w.head? = some 45 then w.tail else w
noncomputable def numP (w : List Nat) : Option Int := if w = [45, 48] ∨ 19 < (fg w).length ∨ figs (fg w) = false then none else some (if w.head? = some 45 then -((NumText.digitsVal w.tail : Nat) : Int) else ((NumText.digitsVal w : Nat) : Int))
theorem starts_lit {x y : Str} {c : Nat} (h : cd y = [c]) : Txt.startswith x y = decide ((cd x).head? = some c) := by
  have : y = ⟨#[c]⟩ := cd_inj (by rw [h]; rfl)
  rw [this, starts_one]
theorem L_number {x : Str} (T : Tp) (h : x.length ≤ sizeLine) : m_number_by [.d (.str x)] T = some (optI (numP (cd x)), T) := by
  have e1 : Txt.startswith x (Str.ofString "-") = decide ((cd x).head? = some 45) := starts_lit (by decide +kernel)
  have p2 : (x = Str.ofString "-0") = (cd x = [45, 48]) := propext ⟨fun e => by rw [e]; decide +kernel, fun e => cd_inj (by rw [e]; decide +kernel)⟩
  have hl := cd_len x
  obtain ⟨f, hf, hfl, hfe⟩ : ∃ f : Str, cd f = fg (cd x) ∧ f.length ≤ x.length ∧ ∀ T, fIfE (fTru (fBin startsD (fVar 0) (fC (.str (Str.ofString "-"))))) (fSl (fVar 0) (fP (fC (.int 1))) fNoP) (fVar 0) [some (.d (.str x)), none] T = some (.d (.str f), T) := by
    by_cases hm : (cd x).head? = some 45
    · have hne : 1 ≤ x.length := by
        rw [← hl]
        cases hx : cd x with
        | nil => rw [hx] at hm; cases hm
        | cons _ _ => simp
      refine ⟨Txt.slice x (some 1) none, ?_, Txt.slice_le _ _ _, fun T => by simp [e1, hm, h]⟩
      rw [slice_from (by decide) (by omega)]
      unfold fg
      rw [if_pos hm]
      simp
    · refine ⟨x, ?_, Nat.le_refl _, fun T => by simp [e1, hm]⟩
      unfold fg
      rw [if_neg hm]
  have hfz : f.length ≤ sizeLine := Nat.le_trans hfl h
  have h1 := fun T => L_figs (x := f) T hfz
  have hfl' : f.length = (fg (cd x)).length := by rw [← hf, cd_len]
  unfold numP
  have start : m_number_by [.d (.str x)] T = fnEnd (bnd (bnd (fIfE (fTru (fBin startsD (fVar 0) (fC (.str (Str.ofString "-"))))) (fSl (fVar 0) (fP (fC (.int 1))) fNoP) (fVar 0) [some (.d (.str x)), none] T) (setK 1 [some (.d (.str x)), none])) (seqK (fSeq (fIf (fOrT (fTst (fBin eqD (fVar 0) (fC (.str (Str.ofString "-0"))))) (fOrT (fTst (fBin gtD (fCB lenD (fCons (fVar 1) fNil)) (fC (.int 19)))) (fNotT (fTru (fCall m_is_figures (fCons (fVar 1) fNil)))))) (fRet (fC .none)) fNext) (fRet (fCB intD (fCons (fVar 0) fNil)))))) := by
    simp only [m_number_by, ev_mk, ev_noLocD, ev_noLoc0, if_true, ev_seq, ev_set]
    rfl
  rw [start, hfe]
  by_cases c1 : cd x = [45, 48]
  · rw [if_pos (.inl c1)]
    simp [p2, c1, optI]
  · by_cases c2 : 19 < (fg (cd x)).length
    · rw [if_pos (.inr (.inl c2))]
      have c2' : (19 : Int) < (f.length : Int) := by omega
      simp [p2, c1, hfz, c2', optI]
    · have c2' : ¬ (19 : Int) < (f.length : Int) := by omega
      cases c3 : figs (fg (cd x)) with
      | false =>
        rw [if_pos (.inr (.inr rfl))]
        simp [p2, c1, hfz, c2', h1, hf, c3, optI]
      | true =>
        rw [if_neg (by simp [c1, c2])]
        obtain ⟨ad, ne⟩ := figs_dig c3
        have xl : x.length ≤ 640 := by
          rw [← hl]
          have : (cd x).length ≤ (fg (cd x)).length + 1 := by
            unfold fg
            split
            · rw [List.length_tail]; omega
            · omega
          omega
        by_cases hm : (cd x).head? = some 45
        · have ht : ∃ cs, cd x = 45 :: cs := by
            cases hx : cd x with
            | nil => rw [hx] at hm; cases hm
            | cons a r => rw [hx] at hm; cases hm; exact ⟨r, rfl⟩
          obtain ⟨cs, hcs⟩ := ht
          have hfg : fg (cd x) = cs := by unfold fg; rw [if_pos hm, hcs]; rfl
          rw [hfg] at ad ne
          have it := intText_neg (x := x) (cs := cs) hcs ad ne (by omega)
          have it' : intText? x = some (-((NumText.digitsVal (cd x).tail : Nat) : Int)) := by rw [it, hcs]; rfl
          simp [p2, c1, hfz, c2', h1, hf, c3, optI, xl, it', hm]
        · have hfg : fg (cd x) = cd x := by unfold fg; rw [if_neg hm]
          rw [hfg] at ad ne
          have it := intText_digits (x := x) ad ne (by omega)
          have it' : intText? x = some ((NumText.digitsVal (cd x) : Nat) : Int) := it
          simp [p2, c1, hfz, c2', h1, hf, c3, optI, xl, it', hm]
noncomputable def singP (w : List Nat) : Option PyData := if w.head? = some 39 then some (.str (mk w.tail)) else (numP w).map .int
theorem optI_map (o : Option Int) : optI o = optD (o.map .int) := by cases o <;> rfl
theorem L_singby {x : Str} (T : Tp) (h : x.length ≤ sizeLine) : m_single_by [.d (.str x)] T = some (optD (singP (cd x)), T) := by
  have e1 : Txt.startswith x (Str.ofString "'") = decide ((cd x).head? = some 39) := starts_lit (by decide +kernel)
  unfold singP
  by_cases hm : (cd x).head? = some 39
  · have hne : 1 ≤ x.length := by
      rw [← cd_len]
      cases hx : cd x with
      | nil => rw [hx] at hm; cases hm
      | cons _ _ => simp
    have es : Txt.slice x (some 1) none = mk (cd x).tail := cd_inj (by
      rw [slice_from (by decide) (by omega), cd_mk]
      simp)
    rw [if_pos hm]
    simp [m_single_by, e1, hm, h, es, optD]
  · rw [if_neg hm, ← optI_map]
    simp [m_single_by, e1, hm, L_number T h]
theorem at_cd {x : Str} {b : Nat} {a : Nat} {r : List Nat} (h : (cd x).drop b = a :: r) : atI x.cps.toList (b : Int) = some a ∧ b < x.length := by
  have hb : b < (cd x).length := by
    apply Decidable.byContradiction
    intro z
    rw [List.drop_eq_nil_of_le (by omega)] at h
    cases h
  refine ⟨atI_nat ?_, by rw [← cd_len]; exact hb⟩
  have : (cd x)[b]? = ((cd x).drop b)[0]? := by simp
  show (cd x)[b]? = some a
  rw [this, h]
  rfl
theorem scan_ok {t : Str} {at' : PyData} {T : Tp} (ht : t.length ≤ sizeLine) : ∀ (n b : Nat), ((cd t).drop b).length < n → b ≤ t.length →
    whileF (fAndT (fTst (fBin ltD (fVar 2) (fCB lenD (fCons (fVar 0) fNil)))) (fTst (fBin notInD (fBin ixD (fVar 0) (fVar 2)) (fC (.str (Str.ofString "(),")))))) (fSet 2 (fBin addD (fVar 2) (fC (.int 1)))) n [some (.d (.str t)), some (.d at'), some (.d (.int b)), none] T
      = some ((.nx, [some (.d (.str t)), some (.d at'), some (.d (.int ((b + (W ((cd t).drop b)).length : Nat) : Int))), none]), T)
  | 0, b, h, _ => absurd h (Nat.not_lt_zero _)
  | n + 1, b, h, hb => by
    unfold whileF
    cases hd : (cd t).drop b with
    | nil =>
      have hl : t.length ≤ b := by
        have := congrArg List.length hd
        rw [List.length_drop, cd_len] at this
        simp at this
        omega
      have hn : ¬ (b : Int) < (t.length : Int) := by omega
      simp [ht, hn, W]
    | cons a r =>
      obtain ⟨h1, h2⟩ := at_cd hd
      have hn : (b : Int) < (t.length : Int) := by omega
      have hin : notInD (.str ⟨#[a]⟩) (.str (Str.ofString "(),")) = some (.bool (!dl a)) := by
        show some (PyData.bool (!hasS (Str.ofString "(),") ⟨#[a]⟩)) = _
        rw [hasS_one]
        rfl
      cases hdl : dl a with
      | true => simp [ht, hn, h1, hin, hdl, W]
      | false =>
        have hr : (cd t).drop (b + 1) = r := by
          have := congrArg List.tail hd
          simpa using this
        have ih := scan_ok (at' := at') (T := T) ht n (b + 1) (by rw [hr]; rw [hd] at h; simpa using h) (by omega)
        rw [hr] at ih
        have eb : ((b + 1 : Nat) : Int) = (b : Int) + 1 := by omega
        rw [eb] at ih
        have ew : W (a :: r) = a :: W r := by simp [W, hdl]
        have el : b + (a :: W r).length = b + 1 + (W r).length := by simp; omega
        rw [ew, el]
        simp [ht, hn, h1, hin, hdl, ih]
theorem L_singat {t : Str} {b : Nat} (T : Tp) (ht : t.length ≤ 60000) (hb : b ≤ t.length) : m_single_at [.d (.str t), .d (.int b)] T = some ((match singP (W ((cd t).drop b)) with | none => PyData.none | some v => .tuple [v, .int ((b + (W ((cd t).drop b)).length : Nat) : Int)]), T) := by
  have ht' : t.length ≤ sizeLine := Nat.le_trans ht (by decide)
  have hsc := scan_ok (at' := .int b) (T := T) ht' 100000 b (by rw [List.length_drop, cd_len]; omega) hb
  have hsl : cd (Txt.slice t (some (b : Int)) (some ((b + (W ((cd t).drop b)).length : Nat) : Int))) = W ((cd t).drop b) := by
    rw [slice_cd (by omega) (by omega)]
    have e : ((b + (W ((cd t).drop b)).length : Nat) : Int).toNat - ((b : Nat) : Int).toNat = (W ((cd t).drop b)).length := by omega
    rw [e]
    have e2 : ((b : Nat) : Int).toNat = b := by omega
    rw [e2]
    exact List.prefix_iff_eq_take.mp (List.takeWhile_prefix _) |>.symm
  have hlen : (Txt.slice t (some (b : Int)) (some ((b + (W ((cd t).drop b)).length : Nat) : Int))).length ≤ sizeLine := Nat.le_trans (Txt.slice_le _ _ _) ht'
  have hsb := L_singby (x := Txt.slice t (some (b : Int)) (some ((b + (W ((cd t).drop b)).length : Nat) : Int))) T hlen
  rw [hsl] at hsb
  rw [Int.natCast_add] at hsb hsl hlen hsc
  rw [Int.natCast_add]
  cases hs : singP (W ((cd t).drop b)) with
  | none =>
    rw [hs] at hsb
    simp only [m_single_at, ev_mk, ev_noLocD, ev_noLoc0, if_true]
    simp [hsc, ht', hsb, optD, isNone]
  | some v =>
    have hv : isNone v = false := by
      unfold singP at hs
      split at hs
      · cases hs; rfl
      · obtain ⟨i, _, rfl⟩ := Option.map_eq_some_iff.mp hs
        rfl
    rw [hs] at hsb
    simp only [m_single_at, ev_mk, ev_noLocD, ev_noLoc0, if_true]
    simp [hsc, ht', hsb, optD, hv]
end G
namespace G
open PySem PySem.Spec PyProof.Rows L2 D
open K1 (has LET TXT single built manyF lsz isName isVal tdp deepF ldp)
noncomputable def outP (n : Nat) : Option (PyData × List Nat) → PyData
  | none => .none
  | some (v, r) => .tuple [v, .int ((n - r.length : Nat) : Int)]
noncomputable def loopP (val : List Nat → Option (PyData × List Nat)) : Nat → List PyData → List Nat → Option (PyData × List Nat)
  | 0, _, _ => none
  | n + 1, acc, l => match val l with
    | none => none
    | some (v, r) => if r.head? = some 41 then some (.tuple (acc ++ [v]), r.tail) else if r.head? = some 44 then loopP val n (acc ++ [v]) r.tail else none
noncomputable def singR (l : List Nat) : Option (PyData × List Nat) := (singP (W l)).map fun v => (v, l.drop (W l).length)
noncomputable def valP : Nat → List Nat → Option (PyData × List Nat)
  | 0, l => if l.head? = some 40 then none else singR l
  | n + 1, l => if l.head? = some 40 then (if l.tail.head? = some 41 then some (.tuple [], l.tail.tail) else loopP (valP n) 100000 [] l.tail) else singR l
noncomputable def Suf (val : List Nat → Option (PyData × List Nat)) : Prop := ∀ l v r, val l = some (v, r) → r <:+ l
theorem suf_loop {val : List Nat → Option (PyData × List Nat)} (h : Suf val) : ∀ n acc l v r, loopP val n acc l = some (v, r) → r <:+ l
  | 0, acc, l, v, r, e => by cases e
  | n + 1, acc, l, v, r, e => by
    unfold loopP at e
    cases hv : val l with
    | none => rw [hv] at e; cases e
    | some p =>
      obtain ⟨v1, r1⟩ := p
      have s1 := h l v1 r1 hv
      rw [hv] at e
      dsimp only at e
      split at e
      · cases e
        exact (List.tail_suffix _).trans s1
      · split at e
        · exact ((suf_loop h n _ _ _ _ e).trans (List.tail_suffix _)).trans s1
        · cases e
theorem suf_sing : Suf singR := fun l v r e => by
  obtain ⟨v', _, e'⟩ := Option.map_eq_some_iff.mp e
  cases e'
  exact List.drop_suffix _ _
theorem suf_val : ∀ n, Suf (valP n)
  | 0 => fun l v r e => by
    unfold valP at e
    split at e
    · cases e
    · exact suf_sing _ _ _ e
  | n + 1 => fun l v r e => by
    unfold valP at e
    split at e
    · split at e
      · cases e
        exact (List.tail_suffix _).trans (List.tail_suffix _)
      · exact (suf_loop (suf_val n) _ _ _ _ _ e).trans (List.tail_suffix _)
    · exact suf_sing _ _ _ e
theorem tail_len {l : List Nat} {c : Nat} (h : l.head? = some c) : l.length = l.tail.length + 1 := by
  cases l with
  | nil => cases h
  | cons => simp
theorem one_eq {t y : Str} {l : List Nat} {c : Nat} (hl : l <:+ cd t) (hy : cd y = [c]) : (Txt.slice t (some ((t.length - l.length : Nat) : Int)) (some (((t.length - l.length : Nat) : Int) + 1)) = y) = (l.head? = some c) := by
  have hd : (cd t).drop (t.length - l.length) = l := by
    have := List.suffix_iff_eq_drop.mp hl
    rw [cd_len] at this
    exact this.symm
  have e : cd (Txt.slice t (some ((t.length - l.length : Nat) : Int)) (some (((t.length - l.length : Nat) : Int) + 1))) = l.take 1 := by
    rw [slice_cd (by omega) (by omega)]
    have e1 : ((t.length - l.length : Nat) : Int).toNat = t.length - l.length := by omega
    have e2 : (((t.length - l.length : Nat) : Int) + 1).toNat - (t.length - l.length) = 1 := by omega
    rw [e1, e2, hd]
  refine propext ⟨fun z => ?_, fun z => cd_inj ?_⟩
  · rw [z, hy] at e
    cases l with
    | nil => cases e
    | cons a r => simp at e; simp [e]
  · rw [e, hy]
    cases l with
    | nil => cases z
    | cons a r => simp at z; simp [z]
theorem at20 {α : Type} {a b : α} : atI [a, b] 0 = some a := rfl
theorem at21 {α : Type} {a b : α} : atI [a, b] 1 = some b := rfl
theorem singR_out {t : Str} {l : List Nat} (hl : l <:+ cd t) (T : Tp) (ht : t.length ≤ 60000) : m_single_at [.d (.str t), .d (.int ((t.length - l.length : Nat) : Int))] T = some (outP t.length (singR l), T) := by
  have hd : (cd t).drop (t.length - l.length) = l := by
    have := List.suffix_iff_eq_drop.mp hl
    rw [cd_len] at this
    exact this.symm
  have hn := hl.length_le
  rw [cd_len] at hn
  have h := L_singat (t := t) (b := t.length - l.length) T ht (by omega)
  rw [hd] at h
  rw [h]
  unfold singR
  have hw : (W l).length ≤ l.length := (List.takeWhile_prefix _).length_le
  cases singP (W l) with
  | none => rfl
  | some v =>
    show some (PyData.tuple [v, .int ((t.length - l.length + (W l).length : Nat) : Int)], T) = some (PyData.tuple [v, .int ((t.length - (l.drop (W l).length).length : Nat) : Int)], T)
    rw [List.length_drop]
    have : t.length - l.length + (W l).length = t.length - (l.length - (W l).length) := by omega
    rw [this]
noncomputable def rowB (n : Nat) : FS := (fSeq (fSet 4 (fCall (m_value_at n) (fCons (fVar 0) (fCons (fVar 1) (fCons (fVar 2) fNil))))) (fSeq (fIf (fTst (fBin isD (fVar 4) (fC .none))) (fRet (fC .none)) fNext) (fSeq (fApp 3 (fBin ixD (fVar 4) (fC (.int 0)))) (fSeq (fSet 1 (fBin addD (fBin ixD (fVar 4) (fC (.int 1))) (fC (.int 1)))) (fSeq (fSet 5 (fSl (fVar 0) (fP (fBin ixD (fVar 4) (fC (.int 1)))) (fP (fVar 1)))) (fSeq (fIf (fTst (fBin eqD (fVar 5) (fC (.str (Str.ofString ")"))))) (fRet (fSeqD .tuple (fCons (fCB tupleD (fCons (fVar 3) fNil)) (fCons (fVar 1) fNil)))) fNext) (fIf (fTst (fBin neD (fVar 5) (fC (.str (Str.ofString ","))))) (fRet (fC .none)) fNext)))))))
theorem row_ok {t : Str} {T : Tp} {val : List Nat → Option (PyData × List Nat)} {n rows : Nat} (ht : t.length ≤ 60000) (hs : Suf val) (hv : ∀ l, l <:+ cd t → m_value_at n [.d (.str t), .d (.int ((t.length - l.length : Nat) : Int)), .d (.int rows)] T = some (outP t.length (val l), T)) :
    ∀ (k : Nat) (l : List Nat) (acc : List PyData) (o4 o5 : Option D.W), l <:+ cd t → l.length < k → acc.length + l.length ≤ 60000 →
    fnEnd (whileF (fTru (fC (.bool true))) (rowB n) k [some (.d (.str t)), some (.d (.int ((t.length - l.length : Nat) : Int))), some (.d (.int rows)), some (.loc (.list acc)), o4, o5] T) = some (outP t.length (loopP val k acc l), T)
  | 0, l, acc, o4, o5, hl, hk, ha => absurd hk (Nat.not_lt_zero _)
  | k + 1, l, acc, o4, o5, hl, hk, ha => by
    have ht' : t.length ≤ sizeLine := Nat.le_trans ht (by decide)
    have ha' : acc.length < sizeLine := Nat.lt_of_le_of_lt (by omega : acc.length ≤ 60000) (by decide)
    have h1 := hv l hl
    unfold whileF loopP
    cases hvl : val l with
    | none =>
      rw [hvl] at h1
      simp [rowB, h1, outP, isNone]
    | some p =>
      obtain ⟨v, r⟩ := p
      have hr := (hs l v r hvl)
      have hrt := hr.trans hl
      have hrl := hr.length_le
      have hll := hl.length_le
      rw [cd_len] at hll
      have s1 := one_eq (c := 41) hrt (y := Str.ofString ")") (by decide +kernel)
      have s2 := one_eq (c := 44) hrt (y := Str.ofString ",") (by decide +kernel)
      rw [hvl] at h1
      have step : ∀ c, r.head? = some c → (((t.length - r.length : Nat) : Int) + 1) = ((t.length - r.tail.length : Nat) : Int) := fun c hc => by
        have := tail_len hc
        omega
      dsimp only
      by_cases c1 : r.head? = some 41
      · have e1 := step _ c1
        rw [if_pos c1]
        have goal : outP t.length (some (PyData.tuple (acc ++ [v]), r.tail)) = .tuple [.tuple (acc ++ [v]), .int (((t.length - r.length : Nat) : Int) + 1)] := by
          rw [e1]
          rfl
        rw [goal]
        simp [rowB, h1, outP, isNone, at20, at21, ha', ht', s1, c1]
      · rw [if_neg c1]
        by_cases c2 : r.head? = some 44
        · have e1 := step _ c2
          have e2 := tail_len c2
          have ih := row_ok ht hs hv k r.tail (acc ++ [v]) (some (.d (.tuple [v, .int ((t.length - r.length : Nat) : Int)]))) (some (.d (.str (Txt.slice t (some ((t.length - r.length : Nat) : Int)) (some (((t.length - r.length : Nat) : Int) + 1)))))) ((List.tail_suffix _).trans hrt) (by omega) (by simp; omega)
          rw [← e1] at ih
          rw [if_pos c2, ← ih]
          simp [rowB, h1, outP, isNone, at20, at21, ha', ht', s1, s2, c1, c2]
        · rw [if_neg c2]
          simp [rowB, h1, outP, isNone, at20, at21, ha', ht', s1, s2, c1, c2]
noncomputable def rowP (val : List Nat → Option (PyData × List Nat)) (l : List Nat) : Option (PyData × List Nat) := if l.head? = some 41 then some (.tuple [], l.tail) else loopP val 100000 [] l
theorem L_rowat {t : Str} {T : Tp} {val : List Nat → Option (PyData × List Nat)} {n rows : Nat} (ht : t.length ≤ 60000) (hs : Suf val) (hv : ∀ l, l <:+ cd t → m_value_at n [.d (.str t), .d (.int ((t.length - l.length : Nat) : Int)), .d (.int rows)] T = some (outP t.length (val l), T)) {l : List Nat} (hl : l <:+ cd t) :
    m_row_at (n + 1) [.d (.str t), .d (.int ((t.length - l.length : Nat) : Int)), .d (.int rows)] T = some (outP t.length (rowP val l), T) := by
  have ht' : t.length ≤ sizeLine := Nat.le_trans ht (by decide)
  have hll := hl.length_le
  rw [cd_len] at hll
  have s1 := one_eq (c := 41) hl (y := Str.ofString ")") (by decide +kernel)
  have hr := row_ok (T := T) ht hs hv 100000 l [] none none hl (by omega) (by simp; omega)
  unfold rowP
  by_cases c1 : l.head? = some 41
  · rw [if_pos c1]
    have goal : outP t.length (some (PyData.tuple [], l.tail)) = .tuple [.tuple [], .int (((t.length - l.length : Nat) : Int) + 1)] := by
      have := tail_len c1
      have e : (((t.length - l.length : Nat) : Int) + 1) = ((t.length - l.tail.length : Nat) : Int) := by omega
      rw [e]
      rfl
    rw [goal]
    simp [m_row_at, ht', s1, c1]
  · rw [if_neg c1, ← hr]
    have : m_row_at (n + 1) = mkFn 6 (fSeq (fIf (fTst (fBin eqD (fSl (fVar 0) (fP (fVar 1)) (fP (fBin addD (fVar 1) (fC (.int 1))))) (fC (.str (Str.ofString ")"))))) (fRet (fSeqD .tuple (fCons (fSeqD .tuple fNil) (fCons (fBin addD (fVar 1) (fC (.int 1))) fNil)))) fNext) (fSeq (fSetL 3 fNil) (whileF (fTru (fC (.bool true))) (rowB n) 100000))) := by rw [m_row_at]; rfl
    rw [this]
    simp [ht', s1, c1]
theorem L_valat {t : Str} {T : Tp} (ht : t.length ≤ 60000) : ∀ (rows n : Nat), 2 * rows + 1 ≤ n → ∀ l, l <:+ cd t → m_value_at n [.d (.str t), .d (.int ((t.length - l.length : Nat) : Int)), .d (.int rows)] T = some (outP t.length (valP rows l), T)
  | _, 0, h, _, _ => absurd h (by omega)
  | 0, n + 1, h, l, hl => by
    have ht' : t.length ≤ sizeLine := Nat.le_trans ht (by decide)
    have s1 := one_eq (c := 40) hl (y := Str.ofString "(") (by decide +kernel)
    have sg := singR_out hl T ht
    unfold valP
    by_cases c1 : l.head? = some 40
    · simp [m_value_at, ht', s1, c1, outP]
    · simp [m_value_at, ht', s1, c1, sg]
  | rows + 1, n + 1, h, l, hl => by
    have ht' : t.length ≤ sizeLine := Nat.le_trans ht (by decide)
    have s1 := one_eq (c := 40) hl (y := Str.ofString "(") (by decide +kernel)
    have sg := singR_out hl T ht
    have hll := hl.length_le
    rw [cd_len] at hll
    unfold valP
    by_cases c1 : l.head? = some 40
    · obtain ⟨m, rfl⟩ : ∃ m, n = m + 1 := ⟨n - 1, by omega⟩
      have rr := L_rowat ht (suf_val rows) (L_valat (T := T) ht rows m (by omega)) ((List.tail_suffix l).trans hl)
      have := tail_len c1
      have e : (((t.length - l.length : Nat) : Int) + 1) = ((t.length - l.tail.length : Nat) : Int) := by omega
      rw [← e] at rr
      have e2 : ((rows + 1 : Nat) : Int) - 1 = (rows : Int) := by omega
      have e3 : ¬ ((rows + 1 : Nat) : Int) = 0 := by omega
      rw [if_pos c1]
      show _ = some (outP t.length (rowP (valP rows) l.tail), T)
      rw [← e2] at rr
      generalize ((rows + 1 : Nat) : Int) = R at e3 rr
      simp [m_value_at, ht', s1, c1, e3, rr]
    · rw [if_neg c1]
      simp [m_value_at, ht', s1, c1, sg]
end G
namespace G
open PySem PySem.Spec PyProof.Rows L2 D
open K1 (has LET TXT single built manyF lsz isName isVal tdp deepF ldp)
noncomputable def dg (m : Nat) : List Nat := (Nat.toDigits 10 m).map Char.toNat
theorem dg_ad (m : Nat) : NumText.AllDigits (dg m) := fun c hc => by
  obtain ⟨ch, hch, e⟩ := List.mem_map.mp hc
  rw [← e]
  exact digit_range (Nat.isDigit_of_mem_toDigits (by decide) (by decide) hch)
theorem dg_val (m : Nat) : NumText.digitsVal (dg m) = m := W.KIN.val_back m
theorem dg_ne (m : Nat) : dg m ≠ [] := fun e => by
  have h := toDigits_len_ge 10 m
  rw [List.map_eq_nil_iff.mp e] at h
  exact absurd h (by decide)
theorem dg_len {m : Nat} (h : m ≤ 10 ^ 18) : (dg m).length ≤ 19 := by
  unfold dg
  rw [List.length_map]
  exact toDigits_len_pow (by decide) (by decide) (Nat.lt_of_le_of_lt h (by decide))
theorem dg_head (m : Nat) : 0 < m → (dg m).head? ≠ some 48 := by
  induction m using Nat.strongRecOn with
  | _ m ih =>
    intro hm
    by_cases h : m < 10
    · have : ∀ m : Nat, m < 10 → 0 < m → ((Nat.toDigits 10 m).map Char.toNat).head? ≠ some 48 := by decide
      exact this m h hm
    · have hm : m % 10 < 10 := Nat.mod_lt m (by decide)
      have t : Nat.toDigits 10 (m / 10) ++ Nat.toDigits 10 (m % 10) = Nat.toDigits 10 (10 * (m / 10) + m % 10) := Nat.toDigits_append_toDigits (by decide) (by omega) hm
      rw [Nat.div_add_mod] at t
      have e : dg m = dg (m / 10) ++ dg (m % 10) := by
        unfold dg
        rw [← t, List.map_append]
      have i1 := ih (m / 10) (by omega) (by omega)
      have i2 := dg_ne (m / 10)
      rw [e]
      cases hd : dg (m / 10) with
      | nil => exact absurd hd i2
      | cons a r => rw [hd] at i1; simpa using i1
theorem dg_zero : dg 0 = [48] := by decide
theorem dg_figs (m : Nat) : figs (dg m) = true := by
  unfold figs
  rw [Bool.and_eq_true, Bool.and_eq_true]
  refine ⟨⟨by simpa using dg_ne m, List.all_eq_true.mpr fun c hc => decide_eq_true ?_⟩, ?_⟩
  · rw [fig_codes]
    have := dg_ad m c hc
    simp
    omega
  · rcases Nat.eq_zero_or_pos m with h | h
    · subst h
      rw [dg_zero]
      rfl
    · rw [Bool.or_eq_true]
      right
      simpa using dg_head m h
noncomputable def nc : Int → List Nat
  | .ofNat m => dg m
  | .negSucc m => 45 :: dg (m + 1)
theorem nc_cd (i : Int) : cd (Str.ofString (toString i)) = nc i := by
  cases i with
  | ofNat m => exact W.KIN.signs_num m
  | negSucc m =>
    have e : toString (Int.negSucc m) = "-" ++ toString (m + 1) := rfl
    unfold cd
    rw [e, signs_ofString]
    show ("-" ++ Nat.repr (m + 1)).toList.map Char.toNat = _
    rw [String.toList_append, List.map_append, Nat.toList_repr]
    rfl
theorem nc_sign (i : Int) : ∀ c ∈ nc i, c = 45 ∨ (48 ≤ c ∧ c ≤ 57) := by
  cases i with
  | ofNat m => exact fun c hc => .inr (dg_ad m c hc)
  | negSucc m =>
    intro c hc
    rcases List.mem_cons.mp hc with h | h
    · exact .inl h
    · exact .inr (dg_ad _ c h)
theorem nc_ne (i : Int) : nc i ≠ [] := by
  cases i with
  | ofNat m => exact dg_ne m
  | negSucc m => exact fun h => nomatch h
theorem single_abs {i : Int} (h : single (.int i) = true) : i.natAbs ≤ 10 ^ 18 := by
  have h' : (if i < 0 then -i else i) ≤ 10 ^ 18 := of_decide_eq_true h
  have e : ((10 : Int) ^ 18) = 1000000000000000000 := by decide
  have e2 : ((10 : Nat) ^ 18) = 1000000000000000000 := by decide
  rw [e] at h'
  rw [e2]
  split at h' <;> omega
theorem nc_len {i : Int} (h : single (.int i) = true) : (nc i).length ≤ 20 := by
  have h := single_abs h
  cases i with
  | ofNat m =>
    have := dg_len (m := m) h
    show (dg m).length ≤ 20
    omega
  | negSucc m =>
    have := dg_len (m := m + 1) h
    show (dg (m + 1)).length + 1 ≤ 20
    omega
theorem dg_minus (m : Nat) : (dg m).head? ≠ some 45 := fun h => by
  cases hd : dg m with
  | nil => rw [hd] at h; cases h
  | cons a r =>
    rw [hd] at h
    cases h
    have := dg_ad m 45 (by rw [hd]; exact List.mem_cons_self)
    omega
theorem numP_nc {i : Int} (h : single (.int i) = true) : numP (nc i) = some i := by
  have h := single_abs h
  unfold numP
  cases i with
  | ofNat m =>
    show (if dg m = [45, 48] ∨ 19 < (fg (dg m)).length ∨ figs (fg (dg m)) = false then none else some (if (dg m).head? = some 45 then -((NumText.digitsVal (dg m).tail : Nat) : Int) else ((NumText.digitsVal (dg m) : Nat) : Int))) = _
    have e : fg (dg m) = dg m := by unfold fg; rw [if_neg (dg_minus m)]
    have l := dg_len (m := m) h
    rw [e, if_neg (dg_minus m), dg_val, dg_figs, if_neg]
    · rfl
    · rintro (z | z | z)
      · exact dg_minus m (by rw [z]; rfl)
      · omega
      · cases z
  | negSucc m =>
    show (if 45 :: dg (m + 1) = [45, 48] ∨ 19 < (fg (45 :: dg (m + 1))).length ∨ figs (fg (45 :: dg (m + 1))) = false then none else some (if (45 :: dg (m + 1)).head? = some 45 then -((NumText.digitsVal (45 :: dg (m + 1)).tail : Nat) : Int) else ((NumText.digitsVal (45 :: dg (m + 1)) : Nat) : Int))) = _
    have e : fg (45 :: dg (m + 1)) = dg (m + 1) := rfl
    have l := dg_len (m := m + 1) h
    have e2 : (45 :: dg (m + 1)).tail = dg (m + 1) := rfl
    rw [e, e2, dg_val, dg_figs, if_pos (by rfl : (45 :: dg (m + 1)).head? = some 45), if_neg]
    · rfl
    · rintro (z | z | z)
      · have z' : dg (m + 1) = [48] := (List.cons.inj z).2
        have := dg_head (m + 1) (by omega)
        rw [z'] at this
        exact this rfl
      · omega
      · cases z
noncomputable def cst : Nat → PyData → List Nat
  | n + 1, .tuple ds => 40 :: (commas [44] (ds.map (cst n)) ++ [41])
  | 0, .tuple _ => []
  | _, .int i => nc i
  | _, .str x => 39 :: cd x
  | _, _ => []
theorem cst_int (n : Nat) (i : Int) : cst n (.int i) = nc i := by cases n <;> rfl
theorem cst_str (n : Nat) (x : Str) : cst n (.str x) = 39 :: cd x := by cases n <;> rfl
theorem single_cases {d : PyData} (h : single d = true) : (∃ i, d = .int i) ∨ ∃ x, d = .str x := by
  cases d <;> first | exact .inl ⟨_, rfl⟩ | exact .inr ⟨_, rfl⟩ | cases h
theorem built_cases {n : Nat} {d : PyData} (h : built n d = true) : single d = true ∨ ∃ m ds, n = m + 1 ∧ d = .tuple ds ∧ ds.length ≤ 8 ∧ ∀ x ∈ ds, built m x = true := by
  by_cases k : kd d = .tup
  · obtain ⟨ds, rfl⟩ := kd_tup k
    cases n with
    | zero => cases h
    | succ m =>
      right
      have h' : (decide (ds.length ≤ 8) && ds.all (built m)) = true := h
      rw [Bool.and_eq_true] at h'
      exact ⟨m, ds, rfl, rfl, of_decide_eq_true h'.1, List.all_eq_true.mp h'.2⟩
  · left
    rw [built_other k] at h
    exact h
theorem txt_codes {x : Str} (h : has TXT x = true) : ∀ c ∈ cd x, dl c = false := fun c hc => by
  have h1 := of_decide_eq_true (List.all_eq_true.mp h c hc)
  have h2 : ∀ c ∈ TXT.cps.toList, dl c = false := by decide +kernel
  exact h2 c h1
theorem nc_codes (i : Int) : ∀ c ∈ nc i, dl c = false := fun c hc => by
  rw [dl_iff]
  have := nc_sign i c hc
  exact decide_eq_false (by omega)
theorem head_app {a b : List Nat} (h : a ≠ []) : (a ++ b).head? = a.head? := by
  cases a with
  | nil => exact absurd rfl h
  | cons => rfl
noncomputable def Post (l : List Nat) : Prop := ∀ c, l.head? = some c → dl c = true
theorem W_app {w l : List Nat} (hw : ∀ c ∈ w, dl c = false) (hl : Post l) : W (w ++ l) = w := by
  unfold W
  rw [List.takeWhile_append_of_pos (fun c hc => by rw [hw c hc]; rfl)]
  cases l with
  | nil => simp
  | cons a r =>
    have := hl a rfl
    rw [List.takeWhile_cons, this]
    simp
theorem sing_back {d : PyData} {n : Nat} {l : List Nat} (h : single d = true) (hl : Post l) : (cst n d ++ l).head? ≠ some 40 ∧ (cst n d).head? ≠ some 41 ∧ cst n d ≠ [] ∧ singR (cst n d ++ l) = some (d, l) ∧ (cst n d).length ≤ 21 := by
  rcases single_cases h with ⟨i, rfl⟩ | ⟨x, rfl⟩
  · rw [cst_int]
    have hne := nc_ne i
    have hs := nc_sign i
    have hh : ∀ c, (nc i).head? = some c → c = 45 ∨ (48 ≤ c ∧ c ≤ 57) := fun c hc => hs c (List.mem_of_head? hc)
    have h39 : (nc i).head? ≠ some 39 := fun z => by have := hh _ z; omega
    refine ⟨?_, fun z => by have := hh _ z; omega, hne, ?_, by have := nc_len h; omega⟩
    · rw [head_app hne]
      exact fun z => by have := hh _ z; omega
    · unfold singR
      rw [W_app (nc_codes i) hl]
      unfold singP
      rw [if_neg h39, numP_nc h]
      simp
  · rw [cst_str]
    have h' : (decide (x.length ≤ 20) && has TXT x) = true := h
    rw [Bool.and_eq_true] at h'
    refine ⟨by simp, by simp, by simp, ?_, ?_⟩
    · unfold singR
      rw [W_app (w := 39 :: cd x) (fun c hc => by
        rcases List.mem_cons.mp hc with z | z
        · subst z; rw [dl_iff]; rfl
        · exact txt_codes h'.2 c z) hl]
      unfold singP
      rw [if_pos (by rfl : (39 :: cd x).head? = some 39)]
      show (some (PyData.str (mk (cd x)))).map _ = _
      rw [mk_cd]
      simp
    · have := of_decide_eq_true h'.1
      rw [List.length_cons, cd_len]
      omega
theorem loop_back {val : List Nat → Option (PyData × List Nat)} {f : PyData → List Nat} {post : List Nat} : ∀ (ds : List PyData) (d : PyData) (k : Nat) (acc : List PyData), ds.length < k → (∀ x ∈ d :: ds, ∀ l, Post l → val (f x ++ l) = some (x, l)) →
    loopP val k acc (commas [44] ((d :: ds).map f) ++ 41 :: post) = some (.tuple (acc ++ d :: ds), post)
  | ds, d, 0, acc, h, _ => absurd h (Nat.not_lt_zero _)
  | [], d, k + 1, acc, h, hv => by
    have := hv d List.mem_cons_self (41 :: post) (fun c hc => by cases hc; rw [dl_iff]; rfl)
    unfold loopP
    show (match val (f d ++ 41 :: post) with | none => none | some (v, r) => _) = _
    rw [this]
    rfl
  | e :: ds, d, k + 1, acc, h, hv => by
    have h1 := hv d List.mem_cons_self (44 :: (commas [44] ((e :: ds).map f) ++ 41 :: post)) (fun c hc => by cases hc; rw [dl_iff]; rfl)
    have ih := loop_back (post := post) ds e k (acc ++ [d]) (by simpa using h) (fun x hx => hv x (List.mem_cons_of_mem _ hx))
    have e1 : commas [44] ((d :: e :: ds).map f) ++ 41 :: post = f d ++ 44 :: (commas [44] ((e :: ds).map f) ++ 41 :: post) := by
      show (f d ++ [44] ++ commas [44] ((e :: ds).map f)) ++ 41 :: post = _
      simp
    unfold loopP
    rw [e1, h1]
    simp only [List.append_assoc, List.cons_append, List.nil_append] at ih
    simpa using ih
theorem cst_head : ∀ (n : Nat) (d : PyData), built n d = true → cst n d ≠ [] ∧ (cst n d).head? ≠ some 41 := fun n d h => by
  rcases built_cases h with h1 | ⟨m, ds, rfl, rfl, _, _⟩
  · have := sing_back (n := n) (l := []) h1 (fun c hc => by cases hc)
    exact ⟨this.2.2.1, this.2.1⟩
  · exact ⟨by simp [cst], by simp [cst]⟩
theorem val_sing {n : Nat} {l : List Nat} (h : l.head? ≠ some 40) : valP n l = singR l := by
  cases n with
  | zero => unfold valP; rw [if_neg h]
  | succ n => unfold valP; rw [if_neg h]
theorem val_back : ∀ (n : Nat) (d : PyData), built n d = true → ∀ l, Post l → valP n (cst n d ++ l) = some (d, l)
  | n, d, h, l, hl => by
    rcases built_cases h with h1 | ⟨m, ds, rfl, rfl, h8, hb⟩
    · have := sing_back (n := n) h1 hl
      rw [val_sing this.1, this.2.2.2.1]
    · have ih := val_back m
      have e : cst (m + 1) (.tuple ds) ++ l = 40 :: (commas [44] (ds.map (cst m)) ++ 41 :: l) := by
        show (40 :: (commas [44] (ds.map (cst m)) ++ [41])) ++ l = _
        simp
      rw [e]
      unfold valP
      rw [if_pos (by rfl : (40 :: (commas [44] (ds.map (cst m)) ++ 41 :: l)).head? = some 40)]
      cases ds with
      | nil => rfl
      | cons d ds =>
        have hh := cst_head m d (hb d List.mem_cons_self)
        have e2 : (40 :: (commas [44] ((d :: ds).map (cst m)) ++ 41 :: l)).tail = commas [44] ((d :: ds).map (cst m)) ++ 41 :: l := rfl
        have e3 : (commas [44] ((d :: ds).map (cst m)) ++ 41 :: l).head? ≠ some 41 := by
          rw [List.map_cons, commas_cons, List.append_assoc, head_app hh.1]
          exact hh.2
        rw [e2, if_neg e3]
        have := loop_back (val := valP m) (f := cst m) (post := l) ds d 100000 [] (by simp at h8; omega) (fun x hx l hl => ih x (hb x hx) l hl)
        rw [this]
        rfl
termination_by n => n
end G
namespace G
open PySem PySem.Spec PyProof.Rows L2 D
open K1 (has LET TXT single built manyF lsz isName isVal tdp deepF ldp)
theorem many_pos (n : Nat) : ∀ d, 1 ≤ manyF n d := by
  induction n with
  | zero => intro d; cases d <;> exact Int.le_refl _
  | succ n ih =>
    intro d
    by_cases k : kd d = .tup
    · obtain ⟨ds, rfl⟩ := kd_tup k
      have := K1.sum_ge (manyF n) ih ds
      show 1 ≤ 1 + (ds.map (manyF n)).sum
      omega
    · rw [many_other k]
      exact Int.le_refl _
theorem sum_part {f : PyData → Int} (h : ∀ d, 0 ≤ f d) : ∀ {ds : List PyData} {d : PyData}, d ∈ ds → f d ≤ (ds.map f).sum
  | e :: r, d, hd => by
    have nn : ∀ l : List PyData, 0 ≤ (l.map f).sum := fun l => by
      induction l with
      | nil => exact Int.le_refl _
      | cons a l ih => rw [List.map_cons, List.sum_cons]; have := h a; omega
    rw [List.map_cons, List.sum_cons]
    rcases List.mem_cons.mp hd with z | z
    · subst z
      have := nn r
      omega
    · have := sum_part h (ds := r) z
      have := h e
      omega
theorem many_part {n : Nat} {ds : List PyData} {d : PyData} (h : d ∈ ds) : manyF n d ≤ manyF (n + 1) (.tuple ds) := by
  have := sum_part (f := manyF n) (fun d => by have := many_pos n d; omega) h
  show manyF n d ≤ 1 + (ds.map (manyF n)).sum
  omega
theorem commas_len (f : PyData → List Nat) : ∀ ds : List PyData, (ds.map fun d => (f d).length).sum + ds.length ≤ (commas [44] (ds.map f)).length + 1 ∧ (commas [44] (ds.map f)).length ≤ (ds.map fun d => (f d).length).sum + ds.length
  | [] => by simp [commas]
  | [d] => by simp [commas]
  | d :: e :: r => by
    have ih := commas_len f (e :: r)
    have e1 : commas [44] ((d :: e :: r).map f) = f d ++ [44] ++ commas [44] ((e :: r).map f) := rfl
    rw [e1]
    simp only [List.map_cons, List.sum_cons, List.length_cons, List.length_append, List.length_nil] at ih ⊢
    omega
theorem lens_le {n : Nat} : ∀ {ds : List PyData}, (∀ d ∈ ds, ((cst n d).length : Int) + 1 ≤ 25 * manyF n d) → (((ds.map fun d => (cst n d).length).sum + ds.length : Nat) : Int) ≤ 25 * (ds.map (manyF n)).sum
  | [], _ => by simp
  | d :: r, h => by
    have h1 := h d List.mem_cons_self
    have h2 := lens_le (ds := r) fun x hx => h x (List.mem_cons_of_mem _ hx)
    simp only [List.map_cons, List.sum_cons, List.length_cons]
    omega
theorem cst_len : ∀ (n : Nat) (d : PyData), built n d = true → ((cst n d).length : Int) + 1 ≤ 25 * manyF n d
  | n, d, h => by
    rcases built_cases h with h1 | ⟨m, ds, rfl, rfl, h8, hb⟩
    · have := (sing_back (n := n) (l := []) h1 (fun c hc => by cases hc)).2.2.2.2
      have := many_pos n d
      omega
    · have ih := cst_len m
      have h1 := lens_le (ds := ds) fun d hd => ih d (hb d hd)
      have h2 := (commas_len (cst m) ds).2
      show (((40 :: (commas [44] (ds.map (cst m)) ++ [41])).length : Nat) : Int) + 1 ≤ 25 * (1 + (ds.map (manyF m)).sum)
      simp only [List.length_cons, List.length_append, List.length_nil]
      omega
termination_by n => n
theorem ev_strN {i : Int} (h : single (.int i) = true) : strD [.int i] = some (.str (mk (nc i))) := by
  have h1 := single_abs h
  have h2 : i.natAbs.log2 < 1920 := by
    by_cases z : i.natAbs = 0
    · rw [z]; decide
    · exact Nat.lt_of_lt_of_le ((Nat.log2_lt (k := 64) z).mpr (Nat.lt_of_le_of_lt h1 (by decide))) (by decide)
  have e : Str.ofString (toString i) = mk (nc i) := cd_inj (by rw [nc_cd, cd_mk])
  show (if i.natAbs.log2 < 1920 then some (PyData.str (Str.ofString (toString i))) else none) = _
  rw [if_pos h2, e]
theorem mk_app (a b : List Nat) : mk a ++ mk b = mk (a ++ b) := cd_inj (by rw [cd_app, cd_mk, cd_mk, cd_mk])
theorem lit {s : String} {l : List Nat} (h : cd (Str.ofString s) = l) : Str.ofString s = mk l := cd_inj (by rw [h, cd_mk])
theorem sz_line {n : Nat} (h : n ≤ 2000) : n ≤ sizeLine := Nat.le_trans h (by decide)
theorem mk_lens (f : PyData → List Nat) (ds : List PyData) : ((ds.map fun d => mk (f d)).map (·.length)).sum = (ds.map fun d => (f d).length).sum := by
  rw [List.map_map]
  exact congrArg List.sum (List.map_congr_left fun d _ => mk_len _)
theorem join_mk (f : PyData → List Nat) (ds : List PyData) : Str.join (mk [44]) (ds.map fun d => mk (f d)) = mk (commas [44] (ds.map f)) := cd_inj (by
  rw [join_cd, cd_mk, cd_mk, List.map_map]
  exact congrArg (commas [44]) (List.map_congr_left fun d _ => cd_mk _))
theorem isi_ss : isiK .str .str = true := rfl
theorem isi_ts : isiK .tup .str = false := rfl
theorem isi_st : isiK .str .tup = false := rfl
theorem isi_it : isiK .int .tup = false := rfl
theorem isi_is : isiK .int .str = false := rfl
theorem cst_lens {m : Nat} {ds : List PyData} (hm : manyF (m + 1) (.tuple ds) ≤ 40) (hb : ∀ x ∈ ds, built m x = true) : (commas [44] (ds.map (cst m))).length ≤ 1000 ∧ (ds.map fun d => (cst m d).length).sum + ds.length ≤ 1000 := by
  have h1 := lens_le (ds := ds) fun d hd => cst_len m d (hb d hd)
  have h2 := (commas_len (cst m) ds).2
  have h3 : 1 + (ds.map (manyF m)).sum ≤ 40 := hm
  omega
theorem str_len {n : Nat} {x : Str} (h : single (.str x) = true) : x.length ≤ 20 := by
  have h' : (decide (x.length ≤ 20) && has TXT x) = true := h
  rw [Bool.and_eq_true] at h'
  exact of_decide_eq_true h'.1
theorem L_stamp : ∀ (n k : Nat) (d : PyData) (T : Tp), built n d = true → manyF n d ≤ 40 → n < k → m_stamp_of k [.d d] T = some (.str (mk (cst n d)), T)
  | n, 0, d, T, h, hm, hk => absurd hk (Nat.not_lt_zero _)
  | n, k + 1, d, T, h, hm, hk => by
    have q1 := lit (s := "'") (l := [39]) (by decide +kernel)
    have q2 := lit (s := "(") (l := [40]) (by decide +kernel)
    have q3 := lit (s := ")") (l := [41]) (by decide +kernel)
    have q4 := lit (s := ",") (l := [44]) (by decide +kernel)
    rcases built_cases h with h1 | ⟨m, ds, rfl, rfl, h8, hb⟩
    · rcases single_cases h1 with ⟨i, rfl⟩ | ⟨x, rfl⟩
      · simp [m_stamp_of, L_whole, whole, ev_strN h1, cst_int]
      · have e : mk [39] ++ x = mk (39 :: cd x) := by rw [← mk_cd x, mk_app, cd_mk]; rfl
        have l : (mk [39]).length + x.length ≤ sizeLine := sz_line (by rw [mk_len]; have := str_len (n := 0) h1; simp; omega)
        simp [m_stamp_of, L_whole, whole, cst_str, isi_ss, q1, l, e]
    · obtain ⟨l1, l2⟩ := cst_lens hm hb
      have c := compL_map (e := fCall (m_stamp_of k) (fCons (fVar 0) fNil)) (ρ := [some (.d (.tuple ds))]) (T := T) (g := fun d => .str (mk (cst m d))) (ds := ds) fun d hd => by
        have := L_stamp m k d T (hb d hd) (Int.le_trans (many_part hd) hm) (by omega)
        simp [this]
      have j := ev_joinD (z := mk [44]) (strsD_map (fun d => mk (cst m d)) ds)
      rw [mk_lens, join_mk, List.length_map, mk_len] at j
      rw [if_pos (by simp; omega)] at j
      have a1 : (mk [40]).length + (mk (commas [44] (ds.map (cst m)))).length ≤ sizeLine := sz_line (by rw [mk_len, mk_len]; simp; omega)
      have a2 : (mk (40 :: commas [44] (ds.map (cst m)))).length + (mk [41]).length ≤ sizeLine := sz_line (by rw [mk_len, mk_len]; simp; omega)
      have e1 : mk [40] ++ mk (commas [44] (ds.map (cst m))) = mk (40 :: commas [44] (ds.map (cst m))) := by rw [mk_app]; rfl
      have e2 : mk (40 :: commas [44] (ds.map (cst m))) ++ mk [41] = mk (cst (m + 1) (.tuple ds)) := by rw [mk_app]; rfl
      simp [m_stamp_of, L_whole, whole, isi_ts, q2, q3, q4, c, j, a1, a2, e1, e2]
theorem forL_text {k n : Nat} {T : Tp} {x : PyData} : ∀ (ds : List PyData) (acc : List Nat) (o : Option D.W), (∀ d ∈ ds, m__law_stamp k [.d d] T = some (.str (mk (cst n d)), T)) → acc.length + (ds.map fun d => (cst n d).length).sum + ds.length ≤ 2000 →
    ∃ o', forL 2 (fSet 1 (fBin addD (fBin addD (fVar 1) (fC (.str (Str.ofString ",")))) (fCall (m__law_stamp k) (fCons (fVar 2) fNil)))) ds [some (.d x), some (.d (.str (mk acc))), o] T = some ((.nx, [some (.d x), some (.d (.str (mk (acc ++ (ds.map fun d => 44 :: cst n d).flatten)))), o']), T)
  | [], acc, o, _, _ => ⟨o, by simp [forL]⟩
  | d :: ds, acc, o, h, hl => by
    have q4 := lit (s := ",") (l := [44]) (by decide +kernel)
    simp only [List.map_cons, List.sum_cons, List.length_cons] at hl
    have h1 := h d List.mem_cons_self
    obtain ⟨o', ih⟩ := forL_text (x := x) ds (acc ++ 44 :: cst n d) (some (.d d)) (fun x hx => h x (List.mem_cons_of_mem _ hx)) (by simp; omega)
    refine ⟨o', ?_⟩
    have a1 : (mk acc).length + (mk [44]).length ≤ sizeLine := sz_line (by rw [mk_len, mk_len]; simp; omega)
    have a2 : (mk (acc ++ [44])).length + (mk (cst n d)).length ≤ sizeLine := sz_line (by rw [mk_len, mk_len]; simp; omega)
    have e : acc ++ [44] ++ cst n d = acc ++ 44 :: cst n d := by simp
    unfold forL
    simp [q4, h1, a1, a2, mk_app]
    simp [q4] at ih
    rw [ih]
theorem commas_tail (f : PyData → List Nat) (ds : List PyData) : (ds.map fun d => 44 :: f d).flatten.drop 1 = commas [44] (ds.map f) := by
  cases ds with
  | nil => rfl
  | cons d r =>
    rw [List.map_cons, List.map_cons, commas_cons, List.flatten_cons]
    show f d ++ (r.map fun d => 44 :: f d).flatten = _
    rw [List.map_map]
    rfl
theorem slice_tail {x : Str} : cd (Txt.slice x (some 1) none) = (cd x).drop 1 := by
  by_cases h : 1 ≤ x.length
  · rw [slice_from (by decide) (by omega)]
    rfl
  · have hl := Txt.slice_le x (some 1) none
    have : (cd (Txt.slice x (some 1) none)).length = 0 := by rw [cd_len]; omega
    rw [List.length_eq_zero_iff.mp this, List.drop_eq_nil_of_le (by rw [cd_len]; omega)]
theorem L_lstamp : ∀ (n k : Nat) (d : PyData) (T : Tp), built n d = true → manyF n d ≤ 40 → n < k → m__law_stamp k [.d d] T = some (.str (mk (cst n d)), T)
  | n, 0, d, T, h, hm, hk => absurd hk (Nat.not_lt_zero _)
  | n, k + 1, d, T, h, hm, hk => by
    have q1 := lit (s := "'") (l := [39]) (by decide +kernel)
    have q2 := lit (s := "(") (l := [40]) (by decide +kernel)
    have q3 := lit (s := ")") (l := [41]) (by decide +kernel)
    have q0 := lit (s := "") (l := []) (by decide +kernel)
    rcases built_cases h with h1 | ⟨m, ds, rfl, rfl, h8, hb⟩
    · rcases single_cases h1 with ⟨i, rfl⟩ | ⟨x, rfl⟩
      · simp [m__law_stamp, isi_it, isi_is, ev_strN h1, cst_int]
      · have e : mk [39] ++ x = mk (39 :: cd x) := by rw [← mk_cd x, mk_app, cd_mk]; rfl
        have l : (mk [39]).length + x.length ≤ sizeLine := sz_line (by rw [mk_len]; have := str_len (n := 0) h1; simp; omega)
        simp [m__law_stamp, cst_str, isi_ss, isi_st, q1, l, e]
    · obtain ⟨l1, l2⟩ := cst_lens hm hb
      obtain ⟨o', c⟩ := forL_text (k := k) (n := m) (T := T) (x := .tuple ds) ds [] none (fun d hd => L_lstamp m k d T (hb d hd) (Int.le_trans (many_part hd) hm) (by omega)) (by simp; omega)
      rw [List.nil_append] at c
      have es : Txt.slice (mk (ds.map fun d => 44 :: cst m d).flatten) (some 1) none = mk (commas [44] (ds.map (cst m))) := cd_inj (by rw [slice_tail, cd_mk, cd_mk, commas_tail])
      have fl : (ds.map fun d => 44 :: cst m d).flatten.length ≤ (commas [44] (ds.map (cst m))).length + 1 := by
        rw [← commas_tail, List.length_drop]
        omega
      have a0 : (mk (ds.map fun d => 44 :: cst m d).flatten).length ≤ sizeLine := sz_line (by rw [mk_len]; omega)
      have a1 : (mk [40]).length + (mk (commas [44] (ds.map (cst m)))).length ≤ sizeLine := sz_line (by rw [mk_len, mk_len]; simp; omega)
      have a2 : (mk (40 :: commas [44] (ds.map (cst m)))).length + (mk [41]).length ≤ sizeLine := sz_line (by rw [mk_len, mk_len]; simp; omega)
      have e1 : mk [40] ++ mk (commas [44] (ds.map (cst m))) = mk (40 :: commas [44] (ds.map (cst m))) := by rw [mk_app]; rfl
      have e2 : mk (40 :: commas [44] (ds.map (cst m))) ++ mk [41] = mk (cst (m + 1) (.tuple ds)) := by rw [mk_app]; rfl
      generalize hF : (ds.map fun d => 44 :: cst m d).flatten = F at c es a0
      simp [m__law_stamp, isi_tt, q0, q2, q3, c, es, a0, a1, a2, e1, e2]
end G
namespace G
open PySem PySem.Spec PyProof.Rows L2 D
open K1 (has LET TXT single built manyF lsz isName isVal tdp deepF ldp)
noncomputable def sam (a b : PyData) : Bool := @decide (a = b) (Classical.propDecidable _)
theorem sam_iff {a b : PyData} : sam a b = true ↔ a = b := by
  unfold sam
  exact @decide_eq_true_iff _ (Classical.propDecidable _)
theorem sam_self (a : PyData) : sam a a = true := sam_iff.mpr rfl
theorem sam_no {a b : PyData} (h : a ≠ b) : sam a b = false := by
  cases e : sam a b with
  | false => rfl
  | true => exact absurd (sam_iff.mp e) h
theorem sam_eq {a b : PyData} {p : Prop} [Decidable p] (h : a = b ↔ p) : sam a b = decide p := by
  rw [Bool.eq_iff_iff, sam_iff, decide_eq_true_iff, h]
noncomputable def gt (ds : List PyData) (i : Int) : PyData := (ds[i.toNat]?).getD .none
theorem gt_at {ds : List PyData} {i : Nat} (h : i < ds.length) : atI ds (i : Int) = some (gt ds i) ∧ gt ds i ∈ ds := by
  have e : ds[i]? = some ds[i] := List.getElem?_eq_getElem h
  have g : gt ds i = ds[i] := by
    unfold gt
    rw [Int.toNat_natCast, e]
    rfl
  exact ⟨by rw [g]; exact atI_nat e, by rw [g]; exact List.getElem_mem h⟩
noncomputable def both (ds es : List PyData) : PyData → Bool
  | .int i => sam (gt ds i) (gt es i)
  | _ => true
theorem all_both {ds es : List PyData} (h : es.length = ds.length) : (numsD 0 ds.length).all (both ds es) = sam (.tuple ds) (.tuple es) := by
  rw [Bool.eq_iff_iff, sam_iff, List.all_eq_true]
  constructor
  · intro a
    refine congrArg PyData.tuple (List.ext_getElem? fun i => ?_)
    by_cases hi : i < ds.length
    · have := a (.int (0 + (i : Int))) (List.mem_map.mpr ⟨i, List.mem_range.mpr hi, rfl⟩)
      have e : gt ds (0 + (i : Int)) = gt es (0 + (i : Int)) := sam_iff.mp this
      unfold gt at e
      rw [Int.zero_add, Int.toNat_natCast, List.getElem?_eq_getElem hi, List.getElem?_eq_getElem (by omega)] at e
      rw [List.getElem?_eq_getElem hi, List.getElem?_eq_getElem (by omega)]
      exact congrArg some e
    · rw [List.getElem?_eq_none (by omega), List.getElem?_eq_none (by omega)]
  · intro e d hd
    cases e
    obtain ⟨i, _, rfl⟩ := List.mem_map.mp hd
    exact sam_self _
theorem isi_tl : isiK .tup .lst = false := rfl
theorem isi_il : isiK .int .lst = false := rfl
theorem isi_sl : isiK .str .lst = false := rfl
theorem isi_ib : isiK .int .bl = false := rfl
theorem isi_ii : isiK .int .int = true := rfl
theorem isi_si : isiK .str .int = false := rfl
theorem isi_ti : isiK .tup .int = false := rfl
theorem A_str (k : Nat) (x y : Str) (T : Tp) : m__law_alike (k + 1) [.d (.str x), .d (.str y)] T = some (.bool (sam (.str x) (.str y)), T) := by
  rw [sam_eq (p := y = x) ⟨fun e => by cases e; rfl, fun e => by rw [e]⟩]
  simp [m__law_alike, isi_st, isi_sl, isi_ss, isNone]
theorem L_alike : ∀ (n k : Nat) (a b : PyData) (T : Tp), built n a = true → built n b = true → n < k → m__law_alike k [.d a, .d b] T = some (.bool (sam a b), T)
  | n, 0, a, b, T, ha, hb, hk => absurd hk (Nat.not_lt_zero _)
  | n, k + 1, a, b, T, ha, hb, hk => by
    rcases built_cases ha with h1 | ⟨m, ds, rfl, rfl, h8, hd⟩
    · rcases single_cases h1 with ⟨i, rfl⟩ | ⟨x, rfl⟩
      · rcases built_cases hb with h2 | ⟨m, es, rfl, rfl, g8, he⟩
        · rcases single_cases h2 with ⟨j, rfl⟩ | ⟨y, rfl⟩
          · rw [sam_eq (p := j = i) ⟨fun e => by cases e; rfl, fun e => by rw [e]⟩]
            simp [m__law_alike, isi_it, isi_il, isi_is, isi_ib, isi_ii, isNone]
          · refine Eq.trans ?_ (congrArg (fun z => some (PyData.bool z, T)) (sam_no (by intro e; cases e)).symm)
            simp [m__law_alike, isi_it, isi_il, isi_is, isi_ib, isi_ii, isi_si, isNone]
        · refine Eq.trans ?_ (congrArg (fun z => some (PyData.bool z, T)) (sam_no (by intro e; cases e)).symm)
          simp [m__law_alike, isi_it, isi_il, isi_is, isi_ib, isi_ii, isi_ti, isNone]
      · rcases built_cases hb with h2 | ⟨m, es, rfl, rfl, g8, he⟩
        · rcases single_cases h2 with ⟨j, rfl⟩ | ⟨y, rfl⟩
          · refine Eq.trans ?_ (congrArg (fun z => some (PyData.bool z, T)) (sam_no (by intro e; cases e)).symm)
            simp [m__law_alike, isi_st, isi_sl, isi_ss, isi_is, isNone]
          · exact A_str k x y T
        · refine Eq.trans ?_ (congrArg (fun z => some (PyData.bool z, T)) (sam_no (by intro e; cases e)).symm)
          simp [m__law_alike, isi_st, isi_sl, isi_ss, isi_ts, isNone]
    · rcases built_cases hb with h2 | ⟨m', es, e, rfl, g8, he⟩
      · rcases single_cases h2 with ⟨j, rfl⟩ | ⟨y, rfl⟩
        · refine Eq.trans ?_ (congrArg (fun z => some (PyData.bool z, T)) (sam_no (by intro e; cases e)).symm)
          simp [m__law_alike, isi_tt, isi_it]
        · refine Eq.trans ?_ (congrArg (fun z => some (PyData.bool z, T)) (sam_no (by intro e; cases e)).symm)
          simp [m__law_alike, isi_tt, isi_st]
      · cases e
        by_cases hl : es.length = ds.length
        · have c := compL_map (e := fCall (m__law_alike k) (fCons (fBin ixD (fVar 1) (fVar 0)) (fCons (fBin ixD (fVar 2) (fVar 0)) fNil))) (ρ := [some (.d (.tuple ds)), some (.d (.tuple es))]) (T := T) (g := fun d => .bool (both ds es d)) (ds := numsD 0 ds.length) fun d hd' => by
            obtain ⟨i, hi, rfl⟩ := List.mem_map.mp hd'
            have hi' := List.mem_range.mp hi
            obtain ⟨p1, q1⟩ := gt_at (ds := ds) (i := i) hi'
            obtain ⟨p2, q2⟩ := gt_at (ds := es) (i := i) (by omega)
            have := L_alike m k (gt ds i) (gt es i) T (hd _ q1) (he _ q2) (by omega)
            simp [p1, p2, this, both]
          have r := rng_small (j := (ds.length : Int)) (by omega) (by omega)
          have ab := all_both hl
          simp [m__law_alike, isi_tt, isi_tl, hl, r, c, ab]
        · rw [sam_no (fun e => by cases e; exact hl rfl)]
          have hl' : ¬ (ds.length : Int) = (es.length : Int) := by omega
          simp [m__law_alike, isi_tt, isi_tl, hl']
theorem built_sm : ∀ (n : Nat) (v : PyData), built n v = true → Sm v
  | n, v, h => by
    rcases built_cases h with h1 | ⟨m, ds, rfl, rfl, _, hd⟩
    · rcases single_cases h1 with ⟨i, rfl⟩ | ⟨x, rfl⟩
      · show smB (.int i) = true
        rw [smB]
        intro _ z; cases z
        intro _ z; cases z
      · have h2 : (decide (x.length ≤ 20) && has TXT x) = true := h1
        rw [Bool.and_eq_true] at h2
        exact Sm.mkS (Nat.le_trans (of_decide_eq_true h2.1) (by decide)) (K1.has_lt K1.TXT_lt h2.2)
    · exact Sm.tup fun d hx => built_sm m d (hd d hx)
termination_by n => n
theorem val_sm {v : PyData} (h : isVal v = true) : Sm v := by
  have h' : (built 4 v && decide (manyF 4 v ≤ 40)) = true := h
  rw [Bool.and_eq_true] at h'
  exact built_sm 4 v h'.1
theorem val_split {v : PyData} (h : isVal v = true) : built 4 v = true ∧ manyF 4 v ≤ 40 := by
  have h' : (built 4 v && decide (manyF 4 v ≤ 40)) = true := h
  rw [Bool.and_eq_true] at h'
  exact ⟨h'.1, of_decide_eq_true h'.2⟩
end G
namespace G
open PySem PySem.Spec PyProof.Rows L2 D
open K1 (has LET TXT single built manyF lsz isName isVal tdp deepF ldp)
theorem L_back {v : PyData} (T : Tp) (h : isVal v = true) : m_value_by [.d (.str (mk (cst 4 v)))] T = some (v, T) := by
  obtain ⟨hb, hm⟩ := val_split h
  have hl := cst_len 4 v hb
  have ht : (mk (cst 4 v)).length ≤ 60000 := by rw [mk_len]; omega
  have ht' : (mk (cst 4 v)).length ≤ sizeLine := Nat.le_trans ht (by decide)
  have e := L_valat (T := T) ht 4 25 (by decide) (cst 4 v) (by rw [cd_mk]; exact List.suffix_refl _)
  have b := val_back 4 v hb [] (fun c hc => by cases hc)
  rw [List.append_nil] at b
  rw [b, mk_len, Nat.sub_self] at e
  have e' : m_value_at 25 [.d (.str (mk (cst 4 v))), .d (.int 0), .d (.int 4)] T = some (.tuple [v, .int ((cst 4 v).length : Int)], T) := e
  have iv := L_value T (val_sm h)
  rw [h] at iv
  have hn : ¬ ((cst 4 v).length : Int) < ((cst 4 v).length : Int) := by omega
  have hz : (mk (cst 4 v)).length = (cst 4 v).length := mk_len _
  simp [m_value_by, e', isNone, at20, at21, ht', iv, hz]
  intro z
  rw [hz] at ht'
  omega
theorem com_cons (x : List Nat) (r : List (List Nat)) : commas [32] (x :: r) = x ++ (r.map ([32] ++ ·)).flatten := commas_cons [32] x r
theorem app_inj {a b u v : List Nat} (ha : 32 ∉ a) (hb : 32 ∉ b) (hu : u = [] ∨ u.head? = some 32) (hv : v = [] ∨ v.head? = some 32) (h : a ++ u = b ++ v) : a = b ∧ u = v := by
  induction a generalizing b with
  | nil =>
    cases b with
    | nil => exact ⟨rfl, h⟩
    | cons c b =>
      exfalso
      rw [List.nil_append] at h
      rcases hu with hu | hu
      · rw [hu] at h; cases h
      · rw [h] at hu
        have : c = 32 := by simpa using hu
        exact hb (by simp [this])
  | cons x a ih =>
    cases b with
    | nil =>
      exfalso
      rw [List.nil_append] at h
      rcases hv with hv | hv
      · rw [hv] at h; cases h
      · rw [← h] at hv
        have : x = 32 := by simpa using hv
        exact ha (by simp [this])
    | cons c b =>
      rw [List.cons_append, List.cons_append] at h
      injection h with h1 h2
      obtain ⟨k1, k2⟩ := ih (b := b) (fun z => ha (List.mem_cons_of_mem _ z)) (fun z => hb (List.mem_cons_of_mem _ z)) h2
      exact ⟨by rw [h1, k1], k2⟩
theorem fl_head (r : List (List Nat)) : (r.map ([32] ++ ·)).flatten = [] ∨ ((r.map ([32] ++ ·)).flatten).head? = some 32 := by
  cases r with
  | nil => exact .inl rfl
  | cons a r => exact .inr rfl
theorem com_inj : ∀ (A B : List (List Nat)), A ≠ [] → B ≠ [] → (∀ a ∈ A, 32 ∉ a) → (∀ b ∈ B, 32 ∉ b) → commas [32] A = commas [32] B → A = B
  | [], _, h, _, _, _, _ => absurd rfl h
  | _ :: _, [], _, h, _, _, _ => absurd rfl h
  | a :: A, b :: B, _, _, hA, hB, h => by
    rw [com_cons, com_cons] at h
    obtain ⟨h1, h2⟩ := app_inj (hA a List.mem_cons_self) (hB b List.mem_cons_self) (fl_head A) (fl_head B) h
    rw [h1]
    congr 1
    cases A with
    | nil =>
      cases B with
      | nil => rfl
      | cons b' B => cases h2
    | cons a' A =>
      cases B with
      | nil => cases h2
      | cons b' B =>
        have h3 : a' ++ (A.map ([32] ++ ·)).flatten = b' ++ (B.map ([32] ++ ·)).flatten := by
          have e : ∀ (x : List Nat) (r : List (List Nat)), ((x :: r).map ([32] ++ ·)).flatten = 32 :: (x ++ (r.map ([32] ++ ·)).flatten) := fun x r => by simp
          rw [e, e] at h2
          injection h2
        refine com_inj (a' :: A) (b' :: B) (by simp) (by simp) (fun x hx => hA x (List.mem_cons_of_mem _ hx)) (fun x hx => hB x (List.mem_cons_of_mem _ hx)) ?_
        rw [com_cons, com_cons]
        exact h3
theorem split_ne (x y : Str) : Txt.split x y ≠ [] := by
  unfold Txt.split
  split
  · simp
  · split
    · simp
    · rw [StrLaws.partsBetween_eq]
      obtain ⟨p, r, e⟩ := StrLaws.partsFrom_ne x y.length 0 (Builtin.Str.occurrences x y 0 x.length (x.length + 1))
      rw [e]
      simp
noncomputable def BL : Str := Str.ofString " "
theorem BL_eq : BL = ⟨#[32]⟩ := by decide +kernel
theorem map_cd {A B : List Str} (h : A.map cd = B.map cd) : A = B := by
  induction A generalizing B with
  | nil => cases B with
    | nil => rfl
    | cons b B => cases h
  | cons a A ih => cases B with
    | nil => cases h
    | cons b B =>
      simp only [List.map_cons] at h
      injection h with h1 h2
      rw [cd_inj h1, ih h2]
theorem split_back {ws : List Str} (hne : ws ≠ []) (h : ∀ w ∈ ws, 32 ∉ cd w) : Txt.split (Str.join BL ws) BL = ws := by
  have j := StrLaws.join_split (Str.join BL ws) BL
  have f : ∀ p ∈ Txt.split (Str.join BL ws) BL, 32 ∉ cd p := by
    rw [BL_eq]
    exact StrLaws.split_free _ 32
  generalize hA : Txt.split (Str.join BL ws) BL = A at j f
  have hA' : A ≠ [] := by rw [← hA]; exact split_ne _ _
  have c : cd (Str.join BL A) = cd (Str.join BL ws) := by rw [j]
  have b : cd BL = [32] := by rw [BL_eq]; rfl
  rw [join_cd, join_cd, b] at c
  refine map_cd (com_inj _ _ (by simpa using hA') (by simpa using hne) (fun a ha => ?_) (fun a ha => ?_) c)
  · obtain ⟨p, hp, rfl⟩ := List.mem_map.mp ha
    exact f p hp
  · obtain ⟨p, hp, rfl⟩ := List.mem_map.mp ha
    exact h p hp
end G
namespace G
open PySem PySem.Spec PyProof.Rows L2 D
open K1 (has LET TXT single built manyF lsz isName isVal tdp deepF ldp Good Sh Shs)
@[simp] theorem ofs_inj {a b : String} : Str.ofString a = Str.ofString b ↔ a = b := by
  constructor
  · intro h
    have h2 : (Str.ofString a).cps.toList = (Str.ofString b).cps.toList := by rw [h]
    rw [signs_ofString, signs_ofString] at h2
    have inj : Function.Injective Char.toNat := fun x y e => Char.ext (UInt32.toNat_inj.mp e)
    exact String.toList_inj.mp ((List.map_inj_right (fun x y e => inj e)).mp h2)
  · rintro rfl; rfl
theorem built_up : ∀ (n : Nat) (d : PyData), built n d = true → built (n + 1) d = true ∧ manyF (n + 1) d = manyF n d
  | n, d, h => by
    rcases built_cases h with h1 | ⟨m, ds, rfl, rfl, h8, hd⟩
    · exact ⟨(built_single h1).1, by rw [(built_single (n := n + 1) h1).2, (built_single (n := n) h1).2]⟩
    · have ih := fun d hd' => built_up m d (hd d hd')
      refine ⟨?_, ?_⟩
      · show (decide (ds.length ≤ 8) && ds.all (built (m + 1))) = true
        rw [decide_eq_true h8, List.all_eq_true.mpr fun d hd' => (ih d hd').1]
        rfl
      · show 1 + (ds.map (manyF (m + 1))).sum = 1 + (ds.map (manyF m)).sum
        rw [List.map_congr_left fun d hd' => (ih d hd').2]
termination_by n => n
@[simp] theorem ev_repr {f : FE} {ρ : Rho} {T : Tp} : fRepr f ρ T = bnd (f ρ T) fun w T1 => reprW T1 w := rfl
end G
namespace G
open PySem PySem.Spec PyProof.Rows L2 D
open K1 (has LET TXT single built manyF lsz isName isVal tdp deepF ldp)
noncomputable def sl (L : List Str) : List PyData := L.map .str
noncomputable def rowW (C : Addr) (L : List Str) (p b : Int) : List PyData := [tagO C, .tuple [.str (Str.ofString "parted"), .list (sl L)], .tuple [.str (Str.ofString "place"), .int p], .tuple [.str (Str.ofString "begun"), .int b]]
noncomputable abbrev TW (C : Addr) (t0 : List PyData) (L : List Str) (p b : Int) : Tp := [t0, rowW C L p b]
section
variable {C : Addr} {t0 : List PyData} {L : List Str} {p b : Int}
theorem obj_W : objAt C (TW C t0 L p b) 1 = some [.tuple [.str (Str.ofString "parted"), .list (sl L)], .tuple [.str (Str.ofString "place"), .int p], .tuple [.str (Str.ofString "begun"), .int b]] := by
  simp [objAt, rowW, objR, tagO]
theorem f_parted : fldK C (Str.ofString "parted") (.tp 1) (TW C t0 L p b) = some (.d (.list (sl L)), TW C t0 L p b) := by
  unfold fldK
  dsimp only
  rw [obj_W]
  simp [lookP]
theorem f_place : fldK C (Str.ofString "place") (.tp 1) (TW C t0 L p b) = some (.d (.int p), TW C t0 L p b) := by
  unfold fldK
  dsimp only
  rw [obj_W]
  simp [lookP]
theorem f_begun : fldK C (Str.ofString "begun") (.tp 1) (TW C t0 L p b) = some (.d (.int b), TW C t0 L p b) := by
  unfold fldK
  dsimp only
  rw [obj_W]
  simp [lookP]
theorem s_place {ρ : Rho} {q : Int} : setFK C (Str.ofString "place") ρ (.d (.int q)) (.tp 1) (TW C t0 L p b) = some ((.nx, ρ), TW C t0 L q b) := by
  unfold setFK
  dsimp only
  rw [obj_W]
  simp [putP, rowW]
theorem s_begun {ρ : Rho} {q : Int} : setFK C (Str.ofString "begun") ρ (.d (.int q)) (.tp 1) (TW C t0 L p b) = some ((.nx, ρ), TW C t0 L p q) := by
  unfold setFK
  dsimp only
  rw [obj_W]
  simp [putP, rowW]
theorem ev_fFld {f : Str} {fo : FE} {ρ : Rho} {T : Tp} : fFld C f fo ρ T = bnd (fo ρ T) (fldK C f) := rfl
theorem ev_fSetF {f : Str} {fo fe : FE} {ρ : Rho} {T : Tp} : fSetF C f fo fe ρ T = bnd (fe ρ T) fun w T1 => bnd (fo ρ T1) (setFK C f ρ w) := rfl
theorem ev_fMeth {m : Str} {mm : FnM} {fo : FE} {g : FA} {ρ : Rho} {T : Tp} : fMeth C m mm fo g ρ T = bnd (fo ρ T) (methK C m mm g ρ) := rfl
theorem m_W {m : String} {mm : FnM} {g : FA} {ρ : Rho} (h : ¬ m = "parted" ∧ ¬ m = "place" ∧ ¬ m = "begun") : methK C (Str.ofString m) mm g ρ (.tp 1) (TW C t0 L p b) = bnd (g ρ (TW C t0 L p b)) fun ws T2 => bnd (mm (.tp 1 :: ws) T2) fun x T3 => some (.d x, T3) := by
  unfold methK
  dsimp only
  rw [obj_W]
  have h1 : ¬ "parted" = m := fun z => h.1 z.symm
  have h2 : ¬ "place" = m := fun z => h.2.1 z.symm
  have h3 : ¬ "begun" = m := fun z => h.2.2 z.symm
  simp [lookP, h1, h2, h3]
theorem sl_len : (sl L).length = L.length := by simp [sl]
theorem sl_at {k : Nat} {w : Str} (h : L[k]? = some w) : atI (sl L) (k : Int) = some (.str w) := by
  refine atI_nat ?_
  unfold sl
  rw [List.getElem?_map, h]
  rfl
theorem M_ahead {k : Nat} {w : Str} (h : L[k]? = some w) : m_Words__ahead C [.tp 1] (TW C t0 L (k : Int) b) = some (.str w, TW C t0 L (k : Int) b) := by
  have hk : k < L.length := (List.getElem?_eq_some_iff.mp h).1
  have hk' : (k : Int) < (L.length : Int) := by omega
  have a := sl_at h
  have ln := sl_len (L := L)
  simp [m_Words__ahead, ev_fFld, f_parted, f_place, ln, hk', a]
theorem M_take : m_Words__take C [.tp 1, .d (.bool true)] (TW C t0 L p b) = some (.none, TW C t0 L (p + 1) b) := by
  simp [m_Words__take, ev_fFld, ev_fSetF, f_place, s_place]
theorem M_begin {a : Int} (ha : a < 20) (hb : b < 60) : m_Words__begin C [.tp 1, .d (.bool true), .d (.int a)] (TW C t0 L p b) = some (.none, TW C t0 L (p + 1) (b + 1)) := by
  simp [m_Words__begin, ev_fFld, ev_fSetF, ev_fMeth, f_begun, m_W, ha, hb, M_take, s_begun]
theorem M_finish {k : Nat} (h : L.length ≤ k) : m_Words__finish C [.tp 1] (TW C t0 L (k : Int) b) = some (.none, TW C t0 L (k : Int) b) := by
  have hk' : ¬ (k : Int) < (L.length : Int) := by omega
  have ln := sl_len (L := L)
  simp [m_Words__finish, ev_fFld, f_parted, f_place, ln, hk']
end
end G
namespace G
open PySem PySem.Spec PyProof.Rows L2 D
open K1 (has LET TXT single built manyF lsz isName isVal tdp deepF ldp)
section
variable {C : Addr} {t0 : List PyData} {L : List Str} {p b : Int}
theorem L_isnameX {x : Str} (T : Tp) (h : isName (.str x) = true) : m_is_name [.d (.str x)] T = some (.bool true, T) := by
  have h' : (decide (1 ≤ x.length) && decide (x.length ≤ 8) && has LET x) = true := h
  rw [Bool.and_eq_true, Bool.and_eq_true] at h'
  have l1 := of_decide_eq_true h'.1.1
  have l8 := of_decide_eq_true h'.1.2
  have l1' : (1 : Int) ≤ (x.length : Int) := by omega
  have l8' : (x.length : Int) ≤ 8 := by omega
  have hz : x.length ≤ sizeLine := Nat.le_trans l8 (by decide)
  have hh := L_has (y := LET) T hz
  rw [h'.2] at hh
  have hh' : m_has_only [.d (.str x), .d (.str (Str.ofString "abcdefghijklmnopqrstuvwxyz"))] T = some (.bool true, T) := hh
  simp [m_is_name, isi_ss, hz, l1', l8', hh']
theorem M_name {k : Nat} {w : Str} (h : L[k]? = some w) (hn : isName (.str w) = true) : m_name_by C [.tp 1] (TW C t0 L (k : Int) b) = some (.str w, TW C t0 L ((k : Int) + 1) b) := by
  have a := M_ahead (C := C) (t0 := t0) (b := b) h
  have i := L_isnameX (TW C t0 L (k : Int) b) hn
  simp [m_name_by, ev_fMeth, m_W, a, i, M_take]
theorem notnone {v : PyData} (h : isVal v = true) : isNone v = false := by
  cases v with
  | none => cases h
  | _ => rfl
theorem M_put {k : Nat} {v : PyData} (h : L[k]? = some (mk (cst 4 v))) (hv : isVal v = true) : m_put_by C [.tp 1] (TW C t0 L (k : Int) b) = some (v, TW C t0 L ((k : Int) + 1) b) := by
  have a := M_ahead (C := C) (t0 := t0) (b := b) h
  have i := L_back (TW C t0 L (k : Int) b) hv
  have n : isNotD v .none = some (.bool true) := by
    have e : isNotD v .none = some (.bool (!isNone v)) := by cases v <;> rfl
    rw [e, notnone hv]
    rfl
  simp [m_put_by, ev_fMeth, m_W, a, i, M_take, n]
noncomputable def ns (j : Nat) : Str := mk (nc (j : Int))
theorem ns_inj {i j : Nat} (h1 : i ≤ 1000) (h2 : j ≤ 1000) (h : ns i = ns j) : i = j := by
  have e : cd (ns i) = cd (ns j) := by rw [h]
  unfold ns at e
  rw [cd_mk, cd_mk] at e
  have a := numP_nc (i := (i : Int)) (single_int (by omega) (by omega))
  have b := numP_nc (i := (j : Int)) (single_int (by omega) (by omega))
  rw [e, b] at a
  have := Option.some.inj a
  omega
theorem idx_ns {n j : Nat} (hn : n ≤ 1000) (hj : j < n) : idxT (ns j) ((List.range n).map ns) = some j := by
  have key : ∀ (l a : Nat), a + l ≤ 1000 → a ≤ j → j < a + l → idxT (ns j) ((List.range' a l).map ns) = some (j - a) := by
    intro l
    induction l with
    | zero => intro a _ h1 h2; omega
    | succ l ih =>
      intro a h0 h1 h2
      rw [List.range'_succ, List.map_cons]
      unfold idxT
      by_cases z : a = j
      · rw [if_pos (by rw [z]), z, Nat.sub_self]
      · rw [if_neg (fun e => z (ns_inj (by omega) (by omega) e)), ih (a + 1) (by omega) (by omega) (by omega)]
        show some (j - (a + 1) + 1) = some (j - a)
        congr 1
        omega
  have := key n 0 (by omega) (Nat.zero_le _) (by omega)
  rw [Nat.sub_zero] at this
  rw [List.range_eq_range']
  exact this
theorem strs_sl : ∀ l : List Str, strsD (sl l) = some l
  | [] => rfl
  | x :: r => by
    have ih := strs_sl r
    unfold sl at ih ⊢
    rw [List.map_cons, strsD, ih]
    rfl
theorem in_sl {w : Str} {l : List Str} (h : w ∈ l) : inD (.str w) (.list (sl l)) = some (.bool true) := by
  have e1 : (sl l).all flatD = true := List.all_eq_true.mpr fun d hd => by
    obtain ⟨x, _, rfl⟩ := List.mem_map.mp hd
    rfl
  have e2 : ((sl l).any fun y => eqF y (.str w)) = true := List.any_eq_true.mpr ⟨.str w, List.mem_map.mpr ⟨w, h, rfl⟩, beq_self_eq_true w⟩
  have e3 : inS (.str w) (.list (sl l)) = if (flatD (.str w) && (sl l).all flatD) = true then some ((sl l).any fun y => eqF y (.str w)) else none := rfl
  unfold inD
  rw [e3, e1, e2]
  rfl
theorem M_num {k n j : Nat} (h : L[k]? = some (ns j)) (hn : n ≤ 100) (hj : j < n) : m_number_below C [.tp 1, .d (.int (n : Int))] (TW C t0 L (k : Int) b) = some (.int (j : Int), TW C t0 L ((k : Int) + 1) b) := by
  have a := M_ahead (C := C) (t0 := t0) (b := b) h
  have r := rng_small (j := (n : Int)) (by omega) (by omega)
  have c := compL_map (e := fCB strD (fCons (fVar 0) fNil)) (ρ := [some (.tp 1), some (.d (.int (n : Int))), none, none]) (T := TW C t0 L (k : Int) b) (g := fun d => match d with | .int i => .str (mk (nc i)) | _ => .none) (ds := numsD 0 n) fun d hd => by
    obtain ⟨i, hi, rfl⟩ := List.mem_map.mp hd
    have hi' := List.mem_range.mp hi
    have z := ev_strN (i := (0 : Int) + (i : Int)) (single_int (by omega) (by omega))
    simp only [Int.zero_add] at z ⊢
    simp [z]
  have m : (numsD 0 n).map (fun d => match d with | .int i => .str (mk (nc i)) | _ => PyData.none) = sl ((List.range n).map ns) := by
    unfold sl numsD
    rw [List.map_map, List.map_map]
    refine List.map_congr_left fun i _ => ?_
    simp [ns]
  rw [m] at c
  have i1 := in_sl (w := ns j) (l := (List.range n).map ns) (List.mem_map.mpr ⟨j, List.mem_range.mpr hj, rfl⟩)
  have i2 := idx_ns (n := n) (j := j) (by omega) hj
  have i3 := strs_sl ((List.range n).map ns)
  simp [m_number_below, ev_fMeth, m_W, r, c, a, i1, M_take, fIdx, idxK, i3, i2]
end
end G
namespace G
open PySem PySem.Spec PyProof.Rows L2 D
open K1 (has LET TXT single built manyF lsz isName isVal tdp deepF ldp)
section
variable {C : Addr} {t0 : List PyData} {L : List Str}
theorem drop_at {p : Nat} {w : Str} {r : List Str} (h : L.drop p = w :: r) : L[p]? = some w ∧ L.drop (p + 1) = r := by
  have h1 : (L.drop p)[0]? = some w := by rw [h]; rfl
  have h2 : (L.drop p).tail = r := by rw [h]; rfl
  exact ⟨by simpa using h1, by rw [← h2, List.tail_drop]⟩
noncomputable def Rdx (C : Addr) (k : Nat) (m a : Int) (c : Nat) (ws : List Str) (e : PyData) : Prop :=
  ∀ (t0 : List PyData) (L : List Str) (p b : Nat) (post : List Str), b + c ≤ 60 → L.drop p = ws ++ post → m_expr_by C k [.tp 1, .d (.int a), .d (.int m)] (TW C t0 L (p : Int) (b : Int)) = some (e, TW C t0 L ((p + ws.length : Nat) : Int) ((b + c : Nat) : Int))
theorem comp_read {k : Nat} {m a : Int} {o1 : Option D.W} {f : PyData → Nat × List Str} {post : List Str} : ∀ (es ds : List PyData) (p b : Nat), ds.length = es.length → (∀ e ∈ es, Rdx C k m a (f e).1 (f e).2 e) → L.drop p = (es.map fun e => (f e).2).flatten ++ post → b + (es.map fun e => (f e).1).sum ≤ 60 →
    compL fTrue (fCall (m_expr_by C k) (fCons (fVar 1) (fCons (fVar 3) (fCons (fVar 4) fNil)))) [some (.tp 1), o1, some (.d (.int a)), some (.d (.int m))] ds (TW C t0 L (p : Int) (b : Int)) = some (es, TW C t0 L ((p + (es.map fun e => (f e).2).flatten.length : Nat) : Int) ((b + (es.map fun e => (f e).1).sum : Nat) : Int))
  | [], [], p, b, _, _, _, _ => by simp [compL]
  | [], _ :: _, _, _, h, _, _, _ => by cases h
  | _ :: _, [], _, _, h, _, _, _ => by cases h
  | e :: es, d :: ds, p, b, hl, hr, hd, hb => by
    have h0 := hr e List.mem_cons_self
    simp only [List.map_cons, List.flatten_cons, List.sum_cons, List.append_assoc] at hd hb ⊢
    have r0 := h0 t0 L p b _ (by omega) hd
    have hd' : L.drop (p + (f e).2.length) = (es.map fun e => (f e).2).flatten ++ post := by
      rw [← List.drop_drop, hd, List.drop_left]
    have ih := comp_read (k := k) (m := m) (a := a) (o1 := o1) (f := f) (post := post) es ds (p + (f e).2.length) (b + (f e).1) (by simpa using hl) (fun x hx => hr x (List.mem_cons_of_mem _ hx)) hd' (by omega)
    have e1 : p + ((f e).2 ++ (es.map fun e => (f e).2).flatten).length = p + (f e).2.length + (es.map fun e => (f e).2).flatten.length := by rw [List.length_append]; omega
    have e2 : b + ((f e).1 + (es.map fun e => (f e).1).sum) = b + (f e).1 + (es.map fun e => (f e).1).sum := by omega
    rw [e1, e2]
    generalize TW C t0 L ((p + (f e).2.length : Nat) : Int) ((b + (f e).1 : Nat) : Int) = T1 at r0 ih
    simp [compL, r0, ih]
theorem M_exprs {k : Nat} {m a : Int} {f : PyData → Nat × List Str} {post : List Str} {es : List PyData} {p b : Nat} (hl : es.length ≤ 8) (hr : ∀ e ∈ es, Rdx C k m a (f e).1 (f e).2 e) (hd : L.drop p = (es.map fun e => (f e).2).flatten ++ post) (hb : b + (es.map fun e => (f e).1).sum ≤ 60) :
    m_exprs_by C (k + 1) [.tp 1, .d (.int (es.length : Int)), .d (.int a), .d (.int m)] (TW C t0 L (p : Int) (b : Int)) = some (.tuple es, TW C t0 L ((p + (es.map fun e => (f e).2).flatten.length : Nat) : Int) ((b + (es.map fun e => (f e).1).sum : Nat) : Int)) := by
  have c := comp_read (C := C) (t0 := t0) (o1 := some (.d (.int (es.length : Int)))) (post := post) es (numsD 0 es.length) p b (nums_len _) hr hd hb
  have r := rng_small (j := (es.length : Int)) (by omega) (by omega)
  generalize TW C t0 L ((p + (es.map fun e => (f e).2).flatten.length : Nat) : Int) ((b + (es.map fun e => (f e).1).sum : Nat) : Int) = T1 at c ⊢
  simp [m_exprs_by, r, c]
end
end G
namespace G
open PySem PySem.Spec PyProof.Rows L2 D
open K1 (has LET TXT single built manyF lsz isName isVal tdp deepF ldp)
noncomputable def extK (i : Nat) (ρ : Rho) (w : D.W) (T1 : Tp) (o : Option (Option D.W)) : Option ((Fl × Rho) × Tp) := match w, o with
  | .d (.list ys), some (some (.loc (.list xs))) => if xs.length + ys.length ≤ sizeLine then some ((.nx, ρ.set i (some (.loc (.list (xs ++ ys))))), T1) else none
  | _, _ => none
theorem ev_ext {i : Nat} {f : FE} {ρ : Rho} {T : Tp} : fExt i f ρ T = bnd (f ρ T) fun w T1 => extK i ρ w T1 ρ[i]? := rfl
theorem extK_ok {i : Nat} {ρ : Rho} {xs ys : List PyData} {T : Tp} (h : xs.length + ys.length ≤ sizeLine) : extK i ρ (.d (.list ys)) T (some (some (.loc (.list xs)))) = some ((.nx, ρ.set i (some (.loc (.list (xs ++ ys))))), T) := if_pos h
theorem sl_app (a b : List Str) : sl a ++ sl b = sl (a ++ b) := by simp [sl]
theorem sz_k {n : Nat} (h : n ≤ 100000) : n ≤ sizeLine := Nat.le_trans h (by decide)
theorem loop_ext {mw : FnM} {e0 : PyData} {T : Tp} {g : PyData → List Str} : ∀ (es : List PyData) (acc : List Str) (o2 : Option D.W), (∀ e ∈ es, mw [.d e] T = some (.list (sl (g e)), T)) → acc.length + (es.map g).flatten.length ≤ 100000 →
    ∃ o2', forL 2 (fExt 1 (fCall mw (fCons (fVar 2) fNil))) es [some (.d e0), some (.loc (.list (sl acc))), o2] T = some ((.nx, [some (.d e0), some (.loc (.list (sl (acc ++ (es.map g).flatten)))), o2']), T)
  | [], acc, o2, _, _ => ⟨o2, by simp [forL]⟩
  | e :: es, acc, o2, h, hl => by
    simp only [List.map_cons, List.flatten_cons, List.length_append] at hl
    have h0 := h e List.mem_cons_self
    obtain ⟨o', ih⟩ := loop_ext (mw := mw) (e0 := e0) (T := T) (g := g) es (acc ++ g e) (some (.d e)) (fun x hx => h x (List.mem_cons_of_mem _ hx)) (by rw [List.length_append]; omega)
    refine ⟨o', ?_⟩
    have z : (sl acc).length + (sl (g e)).length ≤ sizeLine := by rw [sl_len, sl_len]; exact sz_k (by omega)
    have k := extK_ok (i := 1) (ρ := [some (.d e0), some (.loc (.list (sl acc))), some (.d e)]) (T := T) z
    rw [sl_app] at k
    have st : fExt 1 (fCall mw (fCons (fVar 2) fNil)) [some (.d e0), some (.loc (.list (sl acc))), some (.d e)] T = some ((.nx, [some (.d e0), some (.loc (.list (sl (acc ++ g e)))), some (.d e)]), T) := by
      rw [ev_ext]
      simp [h0]
      exact k
    rw [forL]
    show bnd (fExt 1 (fCall mw (fCons (fVar 2) fNil)) [some (.d e0), some (.loc (.list (sl acc))), some (.d e)] T) _ = _
    rw [st]
    simp only [List.map_cons, List.flatten_cons]
    rw [← List.append_assoc]
    exact ih
theorem at_hdX {a : PyData} {r : List PyData} : atI (a :: r) 0 = some a := by simp [atI, ixN]
theorem node_words {k : Nat} {T : Tp} {w0 : Str} {rest : List PyData} {fl : List Str} {es : List PyData} {g : PyData → List Str} (hf : m_filling_words [.d (.tuple (.str w0 :: rest))] T = some (.list (sl fl), T)) (hi : m_exprs_within [.d (.tuple (.str w0 :: rest))] T = some (.list es, T))
    (hr : ∀ e ∈ es, m_expr_words k [.d e] T = some (.list (sl (g e)), T)) (hl : fl.length + (es.map g).flatten.length ≤ 90000) : m_expr_words (k + 1) [.d (.tuple (.str w0 :: rest))] T = some (.list (sl (w0 :: (fl ++ (es.map g).flatten))), T) := by
  obtain ⟨o2, lp⟩ := loop_ext (mw := m_expr_words k) (e0 := .tuple (.str w0 :: rest)) es (w0 :: fl) none hr (by rw [List.length_cons]; omega)
  have z : (sl fl).length + 1 ≤ sizeLine := by rw [sl_len]; exact sz_k (by omega)
  have z' : 1 + (sl fl).length ≤ sizeLine := by omega
  have st : fSetA 1 (fSeqD .list (fCons (fBin ixD (fVar 0) (fC (.int 0))) fNil)) (fCall m_filling_words (fCons (fVar 0) fNil)) [some (.d (.tuple (.str w0 :: rest))), none, none] T = some ((.nx, [some (.d (.tuple (.str w0 :: rest))), some (.loc (.list (sl (w0 :: fl)))), none]), T) := by
    unfold fSetA
    simp [at_hdX, hf, setAK, z']
    rfl
  have e0 : m_expr_words (k + 1) = mkFn 3 (fSeq (fSetA 1 (fSeqD .list (fCons (fBin ixD (fVar 0) (fC (.int 0))) fNil)) (fCall m_filling_words (fCons (fVar 0) fNil))) (fSeq (fFor 2 (fIter (fCall m_exprs_within (fCons (fVar 0) fNil))) (fExt 1 (fCall (m_expr_words k) (fCons (fVar 2) fNil)))) (fRet (fVar 1)))) := rfl
  rw [e0]
  simp [st, hi, lp]
end G
namespace G
open PySem PySem.Spec PyProof.Rows L2 D
open K1 (has LET TXT single built manyF lsz isName isVal tdp deepF ldp)
noncomputable def fillQ : FS := (fIf (fTst (fBin eqD (fBin ixD (fVar 0) (fC (.int 0))) (fC (.str (Str.ofString "put"))))) (fApp 1 (fCall (m__law_stamp 25) (fCons (fBin ixD (fVar 0) (fC (.int 1))) fNil))) (fIf (fOrT (fTst (fBin eqD (fBin ixD (fVar 0) (fC (.int 0))) (fC (.str (Str.ofString "got"))))) (fTst (fBin eqD (fBin ixD (fVar 0) (fC (.int 0))) (fC (.str (Str.ofString "fail")))))) (fApp 1 (fCB strS (fCons (fBin ixD (fVar 0) (fC (.int 1))) fNil))) (fIf (fTst (fBin eqD (fBin ixD (fVar 0) (fC (.int 0))) (fC (.str (Str.ofString "row"))))) (fApp 1 (fCB strS (fCons (fCB lenD (fCons (fBin ixD (fVar 0) (fC (.int 1))) fNil)) fNil))) fNext)))
theorem lw_eq (k : Nat) : m__law_words (k + 1) = mkFn 3 (fSeq (fSetL 1 (fCons (fBin ixD (fVar 0) (fC (.int 0))) fNil)) (fSeq fillQ (fSeq (fFor 2 (fIter (fCall m__law_within (fCons (fVar 0) fNil))) (fExt 1 (fCall (m__law_words k) (fCons (fVar 2) fNil)))) (fRet (fVar 1))))) := rfl
theorem node_law {k : Nat} {T : Tp} {w0 : Str} {rest : List PyData} {fl : List Str} {es : List PyData} {g : PyData → List Str} (hf : fillQ [some (.d (.tuple (.str w0 :: rest))), some (.loc (.list [.str w0])), none] T = some ((.nx, [some (.d (.tuple (.str w0 :: rest))), some (.loc (.list (sl (w0 :: fl)))), none]), T)) (hi : m__law_within [.d (.tuple (.str w0 :: rest))] T = some (.list es, T))
    (hr : ∀ e ∈ es, m__law_words k [.d e] T = some (.list (sl (g e)), T)) (hl : fl.length + (es.map g).flatten.length ≤ 90000) : m__law_words (k + 1) [.d (.tuple (.str w0 :: rest))] T = some (.list (sl (w0 :: (fl ++ (es.map g).flatten))), T) := by
  obtain ⟨o2, lp⟩ := loop_ext (mw := m__law_words k) (e0 := .tuple (.str w0 :: rest)) es (w0 :: fl) none hr (by rw [List.length_cons]; omega)
  rw [lw_eq]
  simp [at_hdX, hf, hi, lp]
theorem in3X {x : String} : inD (.str (Str.ofString x)) (.list [.str (Str.ofString "put"), .str (Str.ofString "got"), .str (Str.ofString "fail")]) = some (.bool (decide (x = "put") || (decide (x = "got") || decide (x = "fail")))) := by
  have e : inD (.str (Str.ofString x)) (.list [.str (Str.ofString "put"), .str (Str.ofString "got"), .str (Str.ofString "fail")]) = some (.bool (eqF (.str (Str.ofString "put")) (.str (Str.ofString x)) || (eqF (.str (Str.ofString "got")) (.str (Str.ofString x)) || (eqF (.str (Str.ofString "fail")) (.str (Str.ofString x)) || false)))) := rfl
  have f : ∀ a b : String, eqF (.str (Str.ofString a)) (.str (Str.ofString b)) = decide (b = a) := fun a b => by
    rw [Bool.eq_iff_iff, decide_eq_true_iff]
    simp [eqF]
    exact ⟨fun h => h.symm, fun h => h.symm⟩
  rw [e, f, f, f, Bool.or_false]
theorem cut1X {a : PyData} {r : List PyData} : cutL (a :: r) (some 1) none = r := by
  have e : cutL (a :: r) (some ((1 : Nat) : Int)) none = r := by
    unfold cutL
    rw [HT.sIx_none, HT.sIx_nat]
    simp
  exact e
theorem sum0X : sumD [.list []] = some (.int 0) := rfl
theorem sumX (f : PyData → Nat) : ∀ es : List PyData, (es.map fun e => (f e : Int)).sum = (((es.map f).sum : Nat) : Int)
  | [] => rfl
  | e :: es => by
    have := sumX f es
    simp only [List.map_cons, List.sum_cons, this]
    omega
theorem many_x {n : Nat} {e0 : PyData} {es : List PyData} {f : PyData → Nat} (w : ∀ T, m__law_within [.d e0] T = some (.list es, T)) (h : ∀ e ∈ es, ∀ k T, n < k → m__law_many k [.d e] T = some (.int (f e : Int), T)) : ∀ k T, n + 1 < k → m__law_many k [.d e0] T = some (.int ((1 + (es.map f).sum : Nat) : Int), T) := by
  intro k T hk
  obtain ⟨k, rfl⟩ : ∃ j, k = j + 1 := ⟨k - 1, by omega⟩
  have c := compL_map (e := fCall (m__law_many k) (fCons (fVar 0) fNil)) (ρ := [some (.d e0)]) (T := T) (g := fun e => .int ((fun e => (f e : Int)) e)) (ds := es) fun e he => by
    have := h e he k T (by omega)
    simp [this]
  have s := sumX f es
  simp [m__law_many, w, c, s]
structure EX (C : Addr) (m : Int) (n c : Nat) (ws : List Str) (e : PyData) : Prop where
  n1 : 1 ≤ n
  c1 : 1 ≤ c
  c6 : c ≤ 60
  ln : ws.length ≤ 2 * c
  ne : ws ≠ []
  ok : ∀ w ∈ ws, 32 ∉ cd w ∧ w.length ≤ 1100
  my : ∀ k T, n < k → m__law_many k [.d e] T = some (.int (c : Int), T)
  pw : ∀ k T, n < k → m_expr_words k [.d e] T = some (.list (sl ws), T)
  lw : ∀ k T, n < k → m__law_words k [.d e] T = some (.list (sl ws), T)
  rd : ∀ k a, 2 * n ≤ k → a + (n : Int) ≤ 20 → Rdx C k m a c ws e
  bt : built (2 * n + 5) e = true
noncomputable def litOk (w : String) : Bool := decide (32 ∉ cd (Str.ofString w)) && decide ((Str.ofString w).length ≤ 1100)
theorem lit_ok {w : String} (h : litOk w = true) : 32 ∉ cd (Str.ofString w) ∧ (Str.ofString w).length ≤ 1100 := by
  unfold litOk at h
  rw [Bool.and_eq_true] at h
  exact ⟨of_decide_eq_true h.1, of_decide_eq_true h.2⟩
theorem built_more : ∀ (k n : Nat) (d : PyData), built n d = true → built (n + k) d = true
  | 0, _, _, h => h
  | k + 1, n, d, h => by
    have := (built_up (n + k) d (built_more k n d h)).1
    rw [← Nat.add_assoc]
    exact this
theorem built_ge {n m : Nat} {d : PyData} (h : built n d = true) (l : n ≤ m) : built m d = true := by
  have := built_more (m - n) n d h
  rwa [show n + (m - n) = m by omega] at this
theorem built_tup {n : Nat} {ds : List PyData} (hl : ds.length ≤ 8) (h : ∀ d ∈ ds, built n d = true) : built (n + 1) (.tuple ds) = true := by
  show (decide (ds.length ≤ 8) && ds.all (built n)) = true
  rw [decide_eq_true hl, List.all_eq_true.mpr h]
  rfl
theorem lit_b {w : String} (h : single (.str (Str.ofString w)) = true) (n : Nat) : built n (.str (Str.ofString w)) = true := (built_single h).1
theorem com_mem {c : Nat} : ∀ (ls : List (List Nat)), c ∈ commas [44] ls → c = 44 ∨ ∃ l ∈ ls, c ∈ l
  | [], h => by cases h
  | x :: r, h => by
    rw [commas_cons] at h
    rcases List.mem_append.mp h with h | h
    · exact .inr ⟨x, List.mem_cons_self, h⟩
    · obtain ⟨y, hy, hc⟩ := List.mem_flatten.mp h
      obtain ⟨l, hl, rfl⟩ := List.mem_map.mp hy
      rcases List.mem_append.mp hc with z | z
      · exact .inl (List.mem_singleton.mp z)
      · exact .inr ⟨l, List.mem_cons_of_mem _ hl, z⟩
theorem txt_no32 : 32 ∉ cd TXT := by decide +kernel
theorem cst_no32 : ∀ (n : Nat) (d : PyData), built n d = true → 32 ∉ cst n d
  | n, d, h => by
    rcases built_cases h with h1 | ⟨m, ds, rfl, rfl, _, hd⟩
    · rcases single_cases h1 with ⟨i, rfl⟩ | ⟨x, rfl⟩
      · rw [cst_int]
        intro z
        have := nc_sign i 32 z
        omega
      · rw [cst_str]
        have h2 : (decide (x.length ≤ 20) && has TXT x) = true := h1
        rw [Bool.and_eq_true] at h2
        intro z
        rcases List.mem_cons.mp z with z | z
        · cases z
        · exact txt_no32 (of_decide_eq_true (List.all_eq_true.mp h2.2 32 z))
    · have e : cst (m + 1) (.tuple ds) = 40 :: (commas [44] (ds.map (cst m)) ++ [41]) := rfl
      rw [e]
      intro z
      rcases List.mem_cons.mp z with z | z
      · cases z
      · rcases List.mem_append.mp z with z | z
        · rcases com_mem _ z with z | ⟨l, hl, hc⟩
          · cases z
          · obtain ⟨d, hd', rfl⟩ := List.mem_map.mp hl
            exact cst_no32 m d (hd d hd') hc
        · exact absurd (List.mem_singleton.mp z) (by decide)
termination_by n => n
theorem stamp_ok {v : PyData} (h : isVal v = true) : 32 ∉ cd (mk (cst 4 v)) ∧ (mk (cst 4 v)).length ≤ 1100 := by
  obtain ⟨hb, hm⟩ := val_split h
  have hl := cst_len 4 v hb
  refine ⟨?_, by rw [mk_len]; omega⟩
  rw [cd_mk]
  exact cst_no32 4 v hb
theorem ns_ok (j : Nat) (h : j ≤ 1000) : 32 ∉ cd (ns j) ∧ (ns j).length ≤ 1100 := by
  have s := nc_sign (j : Int)
  have l := nc_len (i := (j : Int)) (single_int (by omega) (by omega))
  unfold ns
  rw [cd_mk, mk_len]
  exact ⟨fun z => by have := s 32 z; omega, by omega⟩
end G
namespace G
open PySem PySem.Spec PyProof.Rows L2 D
open K1 (has LET TXT single built manyF lsz isName isVal tdp deepF ldp)
@[simp] theorem at_0S {α : Type} {a : α} {r : List α} : atI (a :: r) 0 = some a := by simp [atI, ixN]
@[simp] theorem at_1S {α : Type} {a b : α} {r : List α} : atI (a :: b :: r) 1 = some b := atI_nat (show (a :: b :: r)[1]? = some b from rfl)
@[simp] theorem at_2S {α : Type} {a b c : α} {r : List α} : atI (a :: b :: c :: r) 2 = some c := atI_nat (show (a :: b :: c :: r)[2]? = some c from rfl)
theorem in3T {x : String} : inD (.str (Str.ofString x)) (.tuple [.str (Str.ofString "put"), .str (Str.ofString "got"), .str (Str.ofString "row")]) = some (.bool (decide (x = "put") || (decide (x = "got") || decide (x = "row")))) := by
  have e : inD (.str (Str.ofString x)) (.tuple [.str (Str.ofString "put"), .str (Str.ofString "got"), .str (Str.ofString "row")]) = some (.bool (eqF (.str (Str.ofString "put")) (.str (Str.ofString x)) || (eqF (.str (Str.ofString "got")) (.str (Str.ofString x)) || (eqF (.str (Str.ofString "row")) (.str (Str.ofString x)) || false)))) := rfl
  have f : ∀ a b : String, eqF (.str (Str.ofString a)) (.str (Str.ofString b)) = decide (b = a) := fun a b => by
    rw [Bool.eq_iff_iff, decide_eq_true_iff]
    simp [eqF]
    exact ⟨fun h => h.symm, fun h => h.symm⟩
  rw [e, f, f, f, Bool.or_false]
section
variable {C : Addr} {m : Int} {n : Nat}
theorem TW_eq {t0 : List PyData} {L : List Str} {p p' b b' : Int} (h1 : p = p') (h2 : b = b') : TW C t0 L p b = TW C t0 L p' b' := by rw [h1, h2]
theorem EX_put {v : PyData} (hn : 1 ≤ n) (h : isVal v = true) : EX C m n 1 [Str.ofString "put", mk (cst 4 v)] (.tuple [.str (Str.ofString "put"), v]) := by
  obtain ⟨hb, hm⟩ := val_split h
  have st : ∀ T, m_stamp_of 25 [.d v] T = some (.str (mk (cst 4 v)), T) := fun T => L_stamp 4 25 v T hb hm (by decide)
  have ls : ∀ T, m__law_stamp 25 [.d v] T = some (.str (mk (cst 4 v)), T) := fun T => L_lstamp 4 25 v T hb hm (by decide)
  refine ⟨hn, by decide, by decide, by simp, by simp, fun w hw => ?_, fun k T hk => ?_, fun k T hk => ?_, fun k T hk => ?_, fun k a hk ha t0 L p b post hb hd => ?_, ?_⟩
  · simp at hw
    rcases hw with rfl | rfl
    · exact lit_ok (by decide +kernel)
    · exact stamp_ok h
  · obtain ⟨k, rfl⟩ : ∃ j, k = j + 1 := ⟨k - 1, by omega⟩
    simp [m__law_many, m__law_within, in3X, compL, sum0X]
  · obtain ⟨k, rfl⟩ : ∃ j, k = j + 1 := ⟨k - 1, by omega⟩
    exact node_words (k := k) (T := T) (fl := [mk (cst 4 v)]) (es := []) (g := fun _ => []) (by simp [m_filling_words, st, sl]) (by simp [m_exprs_within]) (fun e he => by cases he) (by simp)
  · obtain ⟨k, rfl⟩ : ∃ j, k = j + 1 := ⟨k - 1, by omega⟩
    have z : 1 < sizeLine := by decide
    exact node_law (k := k) (T := T) (fl := [mk (cst 4 v)]) (es := []) (g := fun _ => []) (by simp [fillQ, ls, sl, z]) (by simp [m__law_within, in3X]) (fun e he => by cases he) (by simp)
  · obtain ⟨k, rfl⟩ : ∃ j, k = j + 1 := ⟨k - 1, by omega⟩
    obtain ⟨a0, d0⟩ := drop_at (w := Str.ofString "put") (r := mk (cst 4 v) :: post) hd
    obtain ⟨a1, _⟩ := drop_at d0
    have b1 := M_ahead (C := C) (t0 := t0) (b := (b : Int)) a0
    have b2 := M_begin (C := C) (t0 := t0) (L := L) (p := (p : Int)) (b := (b : Int)) (a := a) (by omega) (by omega)
    have b3 := M_put (C := C) (t0 := t0) (b := (b : Int) + 1) a1 h
    simp only [Int.natCast_add, Int.cast_ofNat_Int] at b3
    have fin : TW C t0 L ((p + [Str.ofString "put", mk (cst 4 v)].length : Nat) : Int) ((b + 1 : Nat) : Int) = TW C t0 L ((p : Int) + 1 + 1) ((b : Int) + 1) := TW_eq (by show ((p + 2 : Nat) : Int) = _; omega) (by omega)
    rw [fin]
    simp [m_expr_by, ev_fMeth, m_W, b1, in3T, b2, b3]
  · exact built_ge (built_tup (n := 4) (by simp) fun d hd => by
      simp at hd
      rcases hd with rfl | rfl
      · exact lit_b (by decide +kernel) 4
      · exact hb) (by omega)
theorem str_ns {j : Nat} (h : j ≤ 1000) : strD [.int (j : Int)] = some (.str (ns j)) := ev_strN (single_int (by omega) (by omega))
theorem strS_ns {j : Nat} (h : j ≤ 1000) : strS [.int (j : Int)] = some (.str (ns j)) := str_ns h
theorem EX_got {g j : Nat} (hn : 1 ≤ n) (hg : g ≤ 12) (hj : j < g) : EX C (g : Int) n 1 [Str.ofString "got", ns j] (.tuple [.str (Str.ofString "got"), .int (j : Int)]) := by
  have s1 := str_ns (j := j) (by omega)
  have s2 := strS_ns (j := j) (by omega)
  refine ⟨hn, by decide, by decide, by simp, by simp, fun w hw => ?_, fun k T hk => ?_, fun k T hk => ?_, fun k T hk => ?_, fun k a hk ha t0 L p b post hb hd => ?_, ?_⟩
  · simp at hw
    rcases hw with rfl | rfl
    · exact lit_ok (by decide +kernel)
    · exact ns_ok j (by omega)
  · obtain ⟨k, rfl⟩ : ∃ j, k = j + 1 := ⟨k - 1, by omega⟩
    simp [m__law_many, m__law_within, in3X, compL, sum0X]
  · obtain ⟨k, rfl⟩ : ∃ j, k = j + 1 := ⟨k - 1, by omega⟩
    exact node_words (k := k) (T := T) (fl := [ns j]) (es := []) (g := fun _ => []) (by simp [m_filling_words, s1, sl]) (by simp [m_exprs_within]) (fun e he => by cases he) (by simp)
  · obtain ⟨k, rfl⟩ : ∃ j, k = j + 1 := ⟨k - 1, by omega⟩
    have z : 1 < sizeLine := by decide
    exact node_law (k := k) (T := T) (fl := [ns j]) (es := []) (g := fun _ => []) (by simp [fillQ, s2, sl, z]) (by simp [m__law_within, in3X]) (fun e he => by cases he) (by simp)
  · obtain ⟨k, rfl⟩ : ∃ j, k = j + 1 := ⟨k - 1, by omega⟩
    obtain ⟨a0, d0⟩ := drop_at (w := Str.ofString "got") (r := ns j :: post) hd
    obtain ⟨a1, _⟩ := drop_at d0
    have b1 := M_ahead (C := C) (t0 := t0) (b := (b : Int)) a0
    have b2 := M_begin (C := C) (t0 := t0) (L := L) (p := (p : Int)) (b := (b : Int)) (a := a) (by omega) (by omega)
    have b3 := M_num (C := C) (t0 := t0) (b := (b : Int) + 1) (n := g) a1 (by omega) hj
    simp only [Int.natCast_add, Int.cast_ofNat_Int] at b3
    have fin : TW C t0 L ((p + [Str.ofString "got", ns j].length : Nat) : Int) ((b + 1 : Nat) : Int) = TW C t0 L ((p : Int) + 1 + 1) ((b : Int) + 1) := TW_eq (by show ((p + 2 : Nat) : Int) = _; omega) (by omega)
    rw [fin]
    simp [m_expr_by, ev_fMeth, m_W, b1, in3T, b2, b3]
  · exact built_ge (built_tup (n := 0) (by simp) fun d hd => by
      simp at hd
      rcases hd with rfl | rfl
      · exact lit_b (by decide +kernel) 0
      · exact (built_single (single_int (by omega) (by omega))).1) (by omega)
theorem fl_len {f : PyData → Nat × List Str} : ∀ {es : List PyData}, (∀ e ∈ es, (f e).2.length ≤ 2 * (f e).1) → (es.map fun e => (f e).2).flatten.length ≤ 2 * (es.map fun e => (f e).1).sum
  | [], _ => by simp
  | e :: es, h => by
    have := fl_len (es := es) fun x hx => h x (List.mem_cons_of_mem _ hx)
    have h0 := h e List.mem_cons_self
    simp only [List.map_cons, List.flatten_cons, List.sum_cons, List.length_append]
    omega
theorem fl_ok {f : PyData → Nat × List Str} {P : Str → Prop} {es : List PyData} (h : ∀ e ∈ es, ∀ w ∈ (f e).2, P w) : ∀ w ∈ (es.map fun e => (f e).2).flatten, P w := fun w hw => by
  obtain ⟨l, hl, hw'⟩ := List.mem_flatten.mp hw
  obtain ⟨e, he, rfl⟩ := List.mem_map.mp hl
  exact h e he w hw'
theorem EX_row {f : PyData → Nat × List Str} {es : List PyData} (hl : es.length ≤ 8) (h : ∀ e ∈ es, EX C m n (f e).1 (f e).2 e) (hc : 1 + (es.map fun e => (f e).1).sum ≤ 60) :
    EX C m (n + 1) (1 + (es.map fun e => (f e).1).sum) (Str.ofString "row" :: ns es.length :: (es.map fun e => (f e).2).flatten) (.tuple [.str (Str.ofString "row"), .tuple es]) := by
  have fl := fl_len (f := f) (es := es) fun e he => (h e he).ln
  have s1 := str_ns (j := es.length) (by omega)
  have s2 := strS_ns (j := es.length) (by omega)
  refine ⟨by omega, by omega, hc, by simp only [List.length_cons]; omega, by simp, fun w hw => ?_, ?_, fun k T hk => ?_, fun k T hk => ?_, fun k a hk ha t0 L p b post hb hd => ?_, ?_⟩
  · rcases List.mem_cons.mp hw with rfl | hw
    · exact lit_ok (by decide +kernel)
    · rcases List.mem_cons.mp hw with rfl | hw
      · exact ns_ok _ (by omega)
      · exact fl_ok (P := fun w => 32 ∉ cd w ∧ w.length ≤ 1100) (fun e he => (h e he).ok) w hw
  · exact many_x (f := fun e => (f e).1) (fun T => by simp [m__law_within, in3X]) fun e he => (h e he).my
  · obtain ⟨k, rfl⟩ : ∃ j, k = j + 1 := ⟨k - 1, by omega⟩
    exact node_words (k := k) (T := T) (fl := [ns es.length]) (es := es) (g := fun e => (f e).2) (by simp [m_filling_words, s1, sl]) (by simp [m_exprs_within]) (fun e he => (h e he).pw k T (by omega)) (by simp only [List.length_cons, List.length_nil]; omega)
  · obtain ⟨k, rfl⟩ : ∃ j, k = j + 1 := ⟨k - 1, by omega⟩
    have z : 1 < sizeLine := by decide
    exact node_law (k := k) (T := T) (fl := [ns es.length]) (es := es) (g := fun e => (f e).2) (by simp [fillQ, s2, sl, z]) (by simp [m__law_within, in3X]) (fun e he => (h e he).lw k T (by omega)) (by simp only [List.length_cons, List.length_nil]; omega)
  · obtain ⟨k, rfl⟩ : ∃ j, k = j + 2 := ⟨k - 2, by omega⟩
    obtain ⟨a0, d0⟩ := drop_at (w := Str.ofString "row") (r := ns es.length :: ((es.map fun e => (f e).2).flatten ++ post)) hd
    obtain ⟨a1, d1⟩ := drop_at d0
    have b1 := M_ahead (C := C) (t0 := t0) (b := (b : Int)) a0
    have b2 := M_begin (C := C) (t0 := t0) (L := L) (p := (p : Int)) (b := (b : Int)) (a := a) (by omega) (by omega)
    have b3 := M_num (C := C) (t0 := t0) (b := (b : Int) + 1) (n := 9) a1 (by omega) (by omega)
    have b4 := M_exprs (C := C) (t0 := t0) (L := L) (k := k) (m := m) (a := a + 1) (f := f) (post := post) (es := es) (p := p + 2) (b := b + 1) hl (fun e he => (h e he).rd k (a + 1) (by omega) (by omega)) d1 (by omega)
    have e4 : TW C t0 L ((p + 2 : Nat) : Int) ((b + 1 : Nat) : Int) = TW C t0 L ((p : Int) + 1 + 1) ((b : Int) + 1) := TW_eq (by omega) (by omega)
    rw [e4] at b4
    simp only [Int.natCast_add, Int.cast_ofNat_Int] at b3
    have fin : TW C t0 L ((p + (Str.ofString "row" :: ns es.length :: (es.map fun e => (f e).2).flatten).length : Nat) : Int) ((b + (1 + (es.map fun e => (f e).1).sum) : Nat) : Int) = TW C t0 L ((p + 2 + (es.map fun e => (f e).2).flatten.length : Nat) : Int) ((b + 1 + (es.map fun e => (f e).1).sum : Nat) : Int) := TW_eq (by simp only [List.length_cons]; omega) (by omega)
    rw [fin]
    generalize TW C t0 L ((p + 2 + (es.map fun e => (f e).2).flatten.length : Nat) : Int) ((b + 1 + (es.map fun e => (f e).1).sum : Nat) : Int) = T9 at b4 ⊢
    simp [m_expr_by, ev_fMeth, m_W, b1, in3T, b2, b3, b4]
  · exact built_ge (built_tup (n := 2 * n + 6) (by simp) fun d hd => by
      simp at hd
      rcases hd with rfl | rfl
      · exact lit_b (by decide +kernel) _
      · exact built_tup hl fun e he => (h e he).bt) (by omega)
end
end G
namespace G
open PySem PySem.Spec PyProof.Rows L2 D
open K1 (has LET TXT single built manyF lsz isName isVal tdp deepF ldp)
noncomputable def PWX : List String := ["part", "sum", "join", "same", "less"]
noncomputable def TABX : List (Str × Int) := [((Str.ofString "many"), 1), ((Str.ofString "part"), 2), ((Str.ofString "sum"), 2), ((Str.ofString "join"), 2), ((Str.ofString "same"), 2), ((Str.ofString "less"), 2)]
noncomputable def Wide (w : String) (k : Nat) : Prop := (w = "many" ∧ k = 1) ∨ (w ∈ PWX ∧ k = 2)
theorem wide_tab {w : String} {k : Nat} (h : Wide w k) : inT TABX (.str (Str.ofString w)) = some (.bool true) ∧ D.atT TABX (.str (Str.ofString w)) = some (.int (k : Int)) := by
  rcases h with ⟨rfl, rfl⟩ | ⟨hw, rfl⟩
  · simp [inT, D.atT, TABX]
  · simp [PWX] at hw
    rcases hw with rfl | rfl | rfl | rfl | rfl <;> simp [inT, D.atT, TABX]
theorem wide_ne {w : String} {k : Nat} (h : Wide w k) : ¬ w = "put" ∧ ¬ w = "got" ∧ ¬ w = "row" ∧ ¬ w = "fail" := by
  rcases h with ⟨rfl, _⟩ | ⟨hw, _⟩
  · simp
  · simp [PWX] at hw
    rcases hw with rfl | rfl | rfl | rfl | rfl <;> simp
theorem wide_lit {w : String} {k : Nat} (h : Wide w k) : litOk w = true ∧ single (.str (Str.ofString w)) = true ∧ k ≤ 2 := by
  have key : ∀ w ∈ "many" :: PWX, litOk w = true ∧ single (.str (Str.ofString w)) = true := by decide +kernel
  rcases h with ⟨rfl, rfl⟩ | ⟨hw, rfl⟩
  · obtain ⟨a, b⟩ := key "many" (by simp)
    exact ⟨a, b, by decide⟩
  · obtain ⟨a, b⟩ := key w (List.mem_cons_of_mem _ hw)
    exact ⟨a, b, by decide⟩
section
variable {C : Addr} {m : Int} {n : Nat}
theorem EX_wide {w : String} {f : PyData → Nat × List Str} {es : List PyData} (hw : Wide w es.length) (h : ∀ e ∈ es, EX C m n (f e).1 (f e).2 e) (hc : 1 + (es.map fun e => (f e).1).sum ≤ 60) :
    EX C m (n + 1) (1 + (es.map fun e => (f e).1).sum) (Str.ofString w :: (es.map fun e => (f e).2).flatten) (.tuple (.str (Str.ofString w) :: es)) := by
  have fl := fl_len (f := f) (es := es) fun e he => (h e he).ln
  obtain ⟨n1, n2, n3, n4⟩ := wide_ne hw
  obtain ⟨t1, t2⟩ := wide_tab hw
  obtain ⟨l1, l2, l3⟩ := wide_lit hw
  unfold TABX at t1 t2
  refine ⟨by omega, by omega, hc, by simp only [List.length_cons]; omega, by simp, fun w hw => ?_, ?_, fun k T hk => ?_, fun k T hk => ?_, fun k a hk ha t0 L p b post hb hd => ?_, ?_⟩
  · rcases List.mem_cons.mp hw with rfl | hw
    · exact lit_ok l1
    · exact fl_ok (P := fun w => 32 ∉ cd w ∧ w.length ≤ 1100) (fun e he => (h e he).ok) w hw
  · exact many_x (f := fun e => (f e).1) (fun T => by simp [m__law_within, in3X, cut1X, n1, n2, n3, n4]) fun e he => (h e he).my
  · obtain ⟨k, rfl⟩ : ∃ j, k = j + 1 := ⟨k - 1, by omega⟩
    exact node_words (k := k) (T := T) (fl := []) (es := es) (g := fun e => (f e).2) (by simp [m_filling_words, n1, n2, n3, sl]) (by simp [m_exprs_within, n1, n2, n3, cut1X]) (fun e he => (h e he).pw k T (by omega)) (by simp only [List.length_nil]; omega)
  · obtain ⟨k, rfl⟩ : ∃ j, k = j + 1 := ⟨k - 1, by omega⟩
    exact node_law (k := k) (T := T) (fl := []) (es := es) (g := fun e => (f e).2) (by simp [fillQ, n1, n2, n3, n4, sl]) (by simp [m__law_within, in3X, cut1X, n1, n2, n3, n4]) (fun e he => (h e he).lw k T (by omega)) (by simp only [List.length_nil]; omega)
  · obtain ⟨k, rfl⟩ : ∃ j, k = j + 2 := ⟨k - 2, by omega⟩
    obtain ⟨a0, d0⟩ := drop_at (w := Str.ofString w) (r := (es.map fun e => (f e).2).flatten ++ post) hd
    have b1 := M_ahead (C := C) (t0 := t0) (b := (b : Int)) a0
    have b2 := M_begin (C := C) (t0 := t0) (L := L) (p := (p : Int)) (b := (b : Int)) (a := a) (by omega) (by omega)
    have b4 := M_exprs (C := C) (t0 := t0) (L := L) (k := k) (m := m) (a := a + 1) (f := f) (post := post) (es := es) (p := p + 1) (b := b + 1) (by omega) (fun e he => (h e he).rd k (a + 1) (by omega) (by omega)) d0 (by omega)
    have e4 : TW C t0 L ((p + 1 : Nat) : Int) ((b + 1 : Nat) : Int) = TW C t0 L ((p : Int) + 1) ((b : Int) + 1) := TW_eq (by omega) (by omega)
    rw [e4] at b4
    have fin : TW C t0 L ((p + (Str.ofString w :: (es.map fun e => (f e).2).flatten).length : Nat) : Int) ((b + (1 + (es.map fun e => (f e).1).sum) : Nat) : Int) = TW C t0 L ((p + 1 + (es.map fun e => (f e).2).flatten.length : Nat) : Int) ((b + 1 + (es.map fun e => (f e).1).sum : Nat) : Int) := TW_eq (by simp only [List.length_cons]; omega) (by omega)
    rw [fin]
    have z : 1 + es.length ≤ sizeLine := sz_k (by omega)
    have z' : es.length + 1 ≤ sizeLine := sz_k (by omega)
    generalize TW C t0 L ((p + 1 + (es.map fun e => (f e).2).flatten.length : Nat) : Int) ((b + 1 + (es.map fun e => (f e).1).sum : Nat) : Int) = T9 at b4 ⊢
    simp [m_expr_by, ev_fMeth, m_W, b1, in3T, n1, n2, n3, t1, t2, b2, b4, z, z']
  · exact built_ge (built_tup (n := 2 * n + 5) (by simp only [List.length_cons]; omega) fun d hd => by
      rcases List.mem_cons.mp hd with rfl | hd
      · exact lit_b l2 _
      · exact (h d hd).bt) (by omega)
noncomputable def EW (C : Addr) (m : Int) (n : Nat) (q : Int) (e : PyData) : Prop := ∃ c ws, EX C m n c ws e ∧ (c : Int) ≤ q
theorem EW_ch {q : Int} {es : List PyData} (h : ∀ d ∈ es, EW C m n q d) : ∃ f : PyData → Nat × List Str, ∀ d ∈ es, EX C m n (f d).1 (f d).2 d ∧ ((f d).1 : Int) ≤ q := by
  classical
  refine ⟨fun d => if h' : d ∈ es then ((h d h').choose, (h d h').choose_spec.choose) else (0, []), fun d hd => ?_⟩
  simp only [dif_pos hd]
  exact (h d hd).choose_spec.choose_spec
theorem sums_x {f : PyData → Nat × List Str} {q : Int} : ∀ {l : List PyData}, (∀ d ∈ l, ((f d).1 : Int) ≤ q) → (((l.map fun d => (f d).1).sum : Nat) : Int) ≤ l.length * q
  | [], _ => by simp
  | d :: l, h => by
    have h2 := h d List.mem_cons_self
    have i1 := sums_x (l := l) fun x hx => h x (List.mem_cons_of_mem _ hx)
    simp only [List.map_cons, List.sum_cons, List.length_cons]
    have e : ((l.length + 1 : Nat) : Int) * q = l.length * q + q := by
      rw [Int.natCast_add, Int.add_mul]
      simp
    rw [e]
    omega
theorem EW_up {q q' : Int} {e : PyData} (h : EW C m n q e) (hq : q ≤ q') : EW C m n q' e := by
  obtain ⟨c, ws, h1, h2⟩ := h
  exact ⟨c, ws, h1, Int.le_trans h2 hq⟩
theorem EW_row {q Q : Int} {es : List PyData} (hl : es.length ≤ 8) (h : ∀ d ∈ es, EW C m n q d) (hQ : es.length * q + 1 ≤ Q) (hQ2 : Q ≤ 60) : EW C m (n + 1) Q (.tuple [.str (Str.ofString "row"), .tuple es]) := by
  obtain ⟨f, hf⟩ := EW_ch h
  have s := sums_x (f := f) (q := q) (l := es) fun d hd => (hf d hd).2
  exact ⟨_, _, EX_row hl (fun d hd => (hf d hd).1) (by omega), by omega⟩
theorem EW_many {q Q : Int} {e : PyData} (h : EW C m n q e) (hQ : q + 1 ≤ Q) (hQ2 : Q ≤ 60) : EW C m (n + 1) Q (.tuple [.str (Str.ofString "many"), e]) := by
  obtain ⟨f, hf⟩ := EW_ch (es := [e]) fun d hd => by rw [List.mem_singleton.mp hd]; exact h
  have s := sums_x (f := f) (q := q) (l := [e]) fun d hd => (hf d hd).2
  simp only [List.length_cons, List.length_nil] at s
  exact ⟨_, _, EX_wide (w := "many") (es := [e]) (.inl ⟨rfl, rfl⟩) (fun d hd => (hf d hd).1) (by omega), by omega⟩
theorem EW_pair {q Q : Int} {w : String} {a b : PyData} (hw : w ∈ PWX) (ha : EW C m n q a) (hb : EW C m n q b) (hQ : q + q + 1 ≤ Q) (hQ2 : Q ≤ 60) : EW C m (n + 1) Q (.tuple [.str (Str.ofString w), a, b]) := by
  obtain ⟨f, hf⟩ := EW_ch (es := [a, b]) fun d hd => by
    simp at hd
    rcases hd with rfl | rfl
    · exact ha
    · exact hb
  have s := sums_x (f := f) (q := q) (l := [a, b]) fun d hd => (hf d hd).2
  simp only [List.length_cons, List.length_nil] at s
  exact ⟨_, _, EX_wide (w := w) (es := [a, b]) (.inr ⟨hw, rfl⟩) (fun d hd => (hf d hd).1) (by omega), by omega⟩
end
end G
namespace G
open PySem PySem.Spec PyProof.Rows L2 D
open K1 (has LET TXT single built manyF lsz isName isVal tdp deepF ldp)
variable {R : Tp} {C : Addr}
theorem val_up {v : PyData} (hb : built 2 v = true) (hm : manyF 2 v ≤ 8) : isVal v = true := by
  obtain ⟨u1, u2⟩ := built_up 2 v hb
  obtain ⟨u3, u4⟩ := built_up 3 v u1
  show (built 4 v && decide (manyF 4 v ≤ 40)) = true
  rw [u3, u4, u2, decide_eq_true (by omega)]
  rfl
theorem Lq_value {T : Tp} (t : TapeOk R T) : ∃ v T', m__law_value 25 [.tp 0, .d (.int 2), .d (.int 8)] T = some (v, T') ∧ TapeOk R T' ∧ isVal v = true := by
  obtain ⟨v, T', e, t', hb, hm⟩ := Lg_value 2 25 T 8 t (by decide) (by decide)
  exact ⟨v, T', e, t', val_up hb hm⟩
theorem Lq_leaf {T : Tp} {m n : Nat} (t : TapeOk R T) (h1 : m ≤ 12) (hn : 1 ≤ n) : ∃ e T', m__law_leaf [.tp 0, .d (.int (m : Int))] T = some (e, T') ∧ TapeOk R T' ∧ EW C (m : Int) n 1 e := by
  by_cases hm : (0 : Int) < (m : Int)
  · obtain ⟨r, T1, e1, t1, r0, r1⟩ := L_draw (m := 3) t (by decide) (by decide)
    by_cases hr : 0 < r
    · obtain ⟨i, T2, e2, t2, i0, i1⟩ := L_draw (m := (m : Int)) t1 hm (by omega)
      obtain ⟨j, rfl⟩ : ∃ j : Nat, i = (j : Int) := ⟨i.toNat, by omega⟩
      refine ⟨_, T2, ?_, t2, _, _, EX_got (j := j) hn h1 (by omega), by decide⟩
      generalize (m : Int) = M at *
      simp [m__law_leaf, hm, e1, hr, e2]
    · obtain ⟨v, T2, e2, t2, x⟩ := Lq_value t1
      refine ⟨_, T2, ?_, t2, _, _, EX_put hn x, by decide⟩
      generalize (m : Int) = M at *
      simp [m__law_leaf, hm, e1, hr, e2]
  · obtain ⟨v, T2, e2, t2, x⟩ := Lq_value t
    refine ⟨_, T2, ?_, t2, _, _, EX_put hn x, by decide⟩
    generalize (m : Int) = M at *
    simp [m__law_leaf, hm, e2]
theorem Lq_expr {m : Nat} (h1 : m ≤ 12) : ∀ (n k : Nat) (T : Tp) (room : Int), TapeOk R T → n < k → 1 ≤ n → 1 ≤ room → room ≤ 60 → ∃ e T', m__law_expr k [.tp 0, .d (.int (m : Int)), .d (.int room), .d (.int n)] T = some (e, T') ∧ TapeOk R T' ∧ EW C (m : Int) n room e
  | n, 0, T, room, _, hk, _, _, _ => absurd hk (Nat.not_lt_zero _)
  | n, k + 1, T, room, t, hk, hn1, hroom, hroom2 => by
    obtain ⟨w, T1, e1, t1, w0, w1⟩ := L_draw (m := 11) t (by decide) (by decide)
    obtain ⟨ef, T2, f1, t2, xf⟩ := Lq_leaf (C := C) (n := n) t1 h1 hn1
    by_cases c1 : w < 4
    · exact ⟨ef, T2, by simp [m__law_expr, e1, c1, f1], t2, EW_up xf hroom⟩
    by_cases c2 : room < 3
    · exact ⟨ef, T2, by simp [m__law_expr, e1, c1, c2, f1], t2, EW_up xf hroom⟩
    by_cases c3 : (n : Int) < 2
    · exact ⟨ef, T2, by simp [m__law_expr, e1, c1, c2, c3, f1], t2, EW_up xf hroom⟩
    obtain ⟨n, rfl⟩ : ∃ j, n = j + 1 := ⟨n - 1, by omega⟩
    have hs : ((n + 1 : Nat) : Int) - 1 = (n : Int) := by omega
    clear f1 t2 xf
    by_cases c4 : w < 6
    · obtain ⟨b, hb, hb1, hb2, hb3⟩ : ∃ b : Int, (if room < 9 then room else 9) = b ∧ 1 ≤ b ∧ b ≤ 9 ∧ b ≤ room := ⟨_, rfl, by split <;> omega, by split <;> omega, by split <;> omega⟩
      obtain ⟨j, T2, e2, t2, j0, j1⟩ := L_draw (m := b) t1 (by omega) (by omega)
      have hrj := rng_small (j := j) j0 (by omega)
      have hj2 : j < 1073741824 := by omega
      have dv : 0 < j → 1 ≤ (room - 1) / j := fun hj => by
        rw [Int.le_ediv_iff_mul_le hj]
        omega
      have dv2 : 0 < j → (room - 1) / j ≤ 60 := fun hj => by
        have : (room - 1) / j ≤ room - 1 := Int.ediv_le_self _ (by omega)
        omega
      obtain ⟨ys, T3, e3, t3, l3, q3⟩ := compL_inv (P := TapeOk R) (Q := fun d => EW C (m : Int) n ((room - 1) / j) d) (ds := numsD 0 j.toNat)
        (e := fCall (m__law_expr k) (fCons (fVar 1) (fCons (fVar 2) (fCons (fBin fdivD (fBin subD (fVar 3) (fC (.int 1))) (fVar 6)) (fCons (fBin subD (fVar 4) (fC (.int 1))) fNil))))) (ρ := [some (.tp 0), some (.d (.int (m : Int))), some (.d (.int room)), some (.d (.int ((n + 1 : Nat) : Int))), some (.d (.int w)), some (.d (.int j)), none, none]) (T := T2) t2 fun d hd T t => by
          have hj1 : 0 < j := by
            obtain ⟨i, hi, _⟩ := List.mem_map.mp hd
            have := List.mem_range.mp hi
            omega
          obtain ⟨e', T', e1, t1, x⟩ := Lq_expr h1 n k T ((room - 1) / j) t (by omega) (by omega) (dv hj1) (dv2 hj1)
          refine ⟨e', T', ?_, t1, x⟩
          simp only [ev_call, ev_cons, ev_var0, ev_var1, ev_var2, ev_var3, ev_var4, ev_var5, ev_var6, ev_bin, ev_C, ev_bnd, ev_op2, ev_sub, ev_mkD, hs]
          simp [hj1, hj2, e1]
      have hl : (ys.length : Int) = j := by rw [l3, nums_len]; omega
      have hQ : (ys.length : Int) * ((room - 1) / j) + 1 ≤ room := by
        rw [hl]
        have := Int.mul_ediv_self_le (x := room - 1) (k := j)
        by_cases hj : j = 0
        · subst hj; simp; omega
        · have := this hj
          omega
      refine ⟨.tuple [.str (Str.ofString "row"), .tuple ys], T3, ?_, t3, EW_row (by omega) q3 hQ hroom2⟩
      simp only [Int.natCast_add, Int.cast_ofNat_Int] at e3 c3
      simp [m__law_expr, e1, c1, c2, c3, c4, hb, e2, hrj, e3]
    by_cases c5 : w = 6
    · obtain ⟨e', T2, f2, t2, x⟩ := Lq_expr h1 n k T1 (room - 1) t1 (by omega) (by omega) (by omega) (by omega)
      refine ⟨.tuple [.str (Str.ofString "many"), e'], T2, ?_, t2, EW_many x (by omega) hroom2⟩
      rw [← hs] at f2
      generalize ((n + 1 : Nat) : Int) = N at f2 c3
      simp [m__law_expr, e1, c1, c2, c3, c4, c5, f2]
    · obtain ⟨i, T2, e2, t2, i0, i1⟩ := L_draw (m := 5) t1 (by decide) (by decide)
      obtain ⟨a, T3, f3, t3, xa⟩ := Lq_expr h1 n k T2 ((room - 1) / 2) t2 (by omega) (by omega) (by omega) (by omega)
      obtain ⟨b, T4, f4, t4, xb⟩ := Lq_expr h1 n k T3 ((room - 1) / 2) t3 (by omega) (by omega) (by omega) (by omega)
      obtain ⟨wd, hwd, hat⟩ : ∃ wd ∈ PWX, atI [PyData.str (Str.ofString "part"), .str (Str.ofString "sum"), .str (Str.ofString "join"), .str (Str.ofString "same"), .str (Str.ofString "less")] i = some (.str (Str.ofString wd)) := by
        obtain ⟨d, h, hm⟩ := at_mem (xs := [PyData.str (Str.ofString "part"), .str (Str.ofString "sum"), .str (Str.ofString "join"), .str (Str.ofString "same"), .str (Str.ofString "less")]) i0 (by simpa using i1)
        simp at hm
        rcases hm with rfl | rfl | rfl | rfl | rfl
        · exact ⟨"part", by simp [PWX], h⟩
        · exact ⟨"sum", by simp [PWX], h⟩
        · exact ⟨"join", by simp [PWX], h⟩
        · exact ⟨"same", by simp [PWX], h⟩
        · exact ⟨"less", by simp [PWX], h⟩
      refine ⟨.tuple [.str (Str.ofString wd), a, b], T4, ?_, t4, EW_pair hwd xa xb (by omega) hroom2⟩
      rw [← hs] at f3 f4
      generalize ((n + 1 : Nat) : Int) = N at f3 f4 c3
      simp [m__law_expr, e1, c1, c2, c3, c4, c5, e2, hat, f3, f4]
theorem Lq_asked {T : Tp} {g n : Nat} {room : Int} (t : TapeOk R T) (hg : g ≤ 12) (hn : n < 25) (hn1 : 1 ≤ n) (hr : 1 ≤ room) : ∃ e T', m__law_asked [.tp 0, .d (.int (g : Int)), .d (.int room), .d (.int (n : Int))] T = some (e, T') ∧ TapeOk R T' ∧ EW C (g : Int) n room e := by
  obtain ⟨w, T1, e1, t1, w0, w1⟩ := L_draw (m := 6) t (by decide) (by decide)
  by_cases hw : 0 < w
  · obtain ⟨x, T2, e2, t2, hx⟩ := Lg_name t1
    have iv : isVal (.str x) = true := by
      obtain ⟨u1, u2⟩ := built_single (n := 4) (name_single hx)
      show (built 4 (.str x) && decide (manyF 4 (.str x) ≤ 40)) = true
      rw [u1, u2]
      rfl
    exact ⟨_, T2, by simp [m__law_asked, e1, hw, e2], t2, _, _, EX_put hn1 iv, by simpa using hr⟩
  · obtain ⟨e, T2, e2, t2, x⟩ := Lq_expr (C := C) hg n 25 T1 (if (5 : Int) < room then 5 else room) t1 hn hn1 (by split <;> omega) (by split <;> omega)
    exact ⟨e, T2, by simp [m__law_asked, e1, hw, e2], t2, EW_up x (by split <;> omega)⟩
end G
namespace G
open PySem PySem.Spec PyProof.Rows L2 D
open K1 (has LET TXT single built manyF lsz isName isVal tdp deepF ldp)
theorem loop_ext2 {mw : FnM} {e0 : PyData} {T : Tp} : ∀ (ps : List (PyData × List Str)) (acc : List Str) (o2 : Option D.W), (∀ q ∈ ps, mw [.d q.1] T = some (.list (sl q.2), T)) → acc.length + (ps.map (·.2)).flatten.length ≤ 100000 →
    ∃ o2', forL 2 (fExt 1 (fCall mw (fCons (fVar 2) fNil))) (ps.map (·.1)) [some (.d e0), some (.loc (.list (sl acc))), o2] T = some ((.nx, [some (.d e0), some (.loc (.list (sl (acc ++ (ps.map (·.2)).flatten)))), o2']), T)
  | [], acc, o2, _, _ => ⟨o2, by simp [forL]⟩
  | q :: ps, acc, o2, h, hl => by
    simp only [List.map_cons, List.flatten_cons, List.length_append] at hl ⊢
    have h0 := h q List.mem_cons_self
    obtain ⟨o', ih⟩ := loop_ext2 (mw := mw) (e0 := e0) (T := T) ps (acc ++ q.2) (some (.d q.1)) (fun x hx => h x (List.mem_cons_of_mem _ hx)) (by rw [List.length_append]; omega)
    refine ⟨o', ?_⟩
    have z : (sl acc).length + (sl q.2).length ≤ sizeLine := by rw [sl_len, sl_len]; exact sz_k (by omega)
    have k := extK_ok (i := 1) (ρ := [some (.d e0), some (.loc (.list (sl acc))), some (.d q.1)]) (T := T) z
    rw [sl_app] at k
    have st : fExt 1 (fCall mw (fCons (fVar 2) fNil)) [some (.d e0), some (.loc (.list (sl acc))), some (.d q.1)] T = some ((.nx, [some (.d e0), some (.loc (.list (sl (acc ++ q.2)))), some (.d q.1)]), T) := by
      rw [ev_ext]
      simp [h0]
      exact k
    rw [forL]
    show bnd (fExt 1 (fCall mw (fCons (fVar 2) fNil)) [some (.d e0), some (.loc (.list (sl acc))), some (.d q.1)] T) _ = _
    rw [st, ← List.append_assoc]
    exact ih
theorem cut2X {a b : PyData} {r : List PyData} : cutL (a :: b :: r) (some 2) none = r := by
  have e : cutL (a :: b :: r) (some ((2 : Nat) : Int)) none = r := by
    unfold cutL
    rw [HT.sIx_none, HT.sIx_nat]
    simp
  exact e
theorem rec_words {k : Nat} {T : Tp} {w : String} {e : PyData} {we : List Str} {ps : List (PyData × List Str)} (hw : ¬ w = "fail") (he : m_expr_words 25 [.d e] T = some (.list (sl we), T)) (hr : ∀ q ∈ ps, m_recipe_words k [.d q.1] T = some (.list (sl q.2), T)) (hl : we.length + (ps.map (·.2)).flatten.length ≤ 90000) :
    m_recipe_words (k + 1) [.d (.tuple (.str (Str.ofString w) :: e :: ps.map (·.1)))] T = some (.list (sl (Str.ofString w :: (we ++ (ps.map (·.2)).flatten))), T) := by
  obtain ⟨o2, lp⟩ := loop_ext2 (mw := m_recipe_words k) (e0 := .tuple (.str (Str.ofString w) :: e :: ps.map (·.1))) ps (Str.ofString w :: we) none hr (by rw [List.length_cons]; omega)
  have z' : 1 + (sl we).length ≤ sizeLine := by rw [sl_len]; exact sz_k (by omega)
  have st : fSetA 1 (fSeqD .list (fCons (fBin ixD (fVar 0) (fC (.int 0))) fNil)) (fCall (m_expr_words 25) (fCons (fBin ixD (fVar 0) (fC (.int 1))) fNil)) [some (.d (.tuple (.str (Str.ofString w) :: e :: ps.map (·.1)))), none, none] T = some ((.nx, [some (.d (.tuple (.str (Str.ofString w) :: e :: ps.map (·.1)))), some (.loc (.list (sl (Str.ofString w :: we)))), none]), T) := by
    unfold fSetA
    simp [he, setAK, z']
    rfl
  have e0 : m_recipe_words (k + 1) = mkFn 3 (fSeq (fIf (fTst (fBin eqD (fBin ixD (fVar 0) (fC (.int 0))) (fC (.str (Str.ofString "fail"))))) (fRet (fSeqD .list (fCons (fBin ixD (fVar 0) (fC (.int 0))) (fCons (fBin ixD (fVar 0) (fC (.int 1))) fNil)))) fNext) (fSeq (fSetA 1 (fSeqD .list (fCons (fBin ixD (fVar 0) (fC (.int 0))) fNil)) (fCall (m_expr_words 25) (fCons (fBin ixD (fVar 0) (fC (.int 1))) fNil))) (fSeq (fFor 2 (fIter (fSl (fVar 0) (fP (fC (.int 2))) fNoP)) (fExt 1 (fCall (m_recipe_words k) (fCons (fVar 2) fNil)))) (fRet (fVar 1))))) := rfl
  rw [e0]
  simp [hw, st, cut2X, lp]
theorem rec_law {k : Nat} {T : Tp} {w : String} {ps : List (PyData × List Str)} (hw : ¬ w = "put" ∧ ¬ w = "got" ∧ ¬ w = "row" ∧ ¬ w = "fail") (hr : ∀ q ∈ ps, m__law_words k [.d q.1] T = some (.list (sl q.2), T)) (hl : (ps.map (·.2)).flatten.length ≤ 90000) :
    m__law_words (k + 1) [.d (.tuple (.str (Str.ofString w) :: ps.map (·.1)))] T = some (.list (sl (Str.ofString w :: (ps.map (·.2)).flatten)), T) := by
  obtain ⟨n1, n2, n3, n4⟩ := hw
  obtain ⟨o2, lp⟩ := loop_ext2 (mw := m__law_words k) (e0 := .tuple (.str (Str.ofString w) :: ps.map (·.1))) ps [Str.ofString w] none hr (by simp only [List.length_cons, List.length_nil]; omega)
  have hi : m__law_within [.d (.tuple (.str (Str.ofString w) :: ps.map (·.1)))] T = some (.list (ps.map (·.1)), T) := by simp [m__law_within, in3X, cut1X, n1, n2, n3, n4]
  have hf : fillQ [some (.d (.tuple (.str (Str.ofString w) :: ps.map (·.1)))), some (.loc (.list [.str (Str.ofString w)])), none] T = some ((.nx, [some (.d (.tuple (.str (Str.ofString w) :: ps.map (·.1)))), some (.loc (.list (sl [Str.ofString w]))), none]), T) := by
    simp [fillQ, n1, n2, n3, n4, sl]
  rw [lw_eq]
  simp [hf, hi, lp]
noncomputable def RdR (C : Addr) (k : Nat) (g : Nat) (a : Int) (c : Nat) (ws : List Str) (r : PyData) : Prop :=
  ∀ (t0 : List PyData) (L : List Str) (p b : Nat) (post : List Str), b + c ≤ 60 → L.drop p = ws ++ post → m_recipe_by C k [.tp 1, .d (.int a), .d (.int (g : Int))] (TW C t0 L (p : Int) (b : Int)) = some (r, TW C t0 L ((p + ws.length : Nat) : Int) ((b + c : Nat) : Int))
section
variable {C : Addr} {t0 : List PyData} {L : List Str}
theorem comp_readR {k g : Nat} {a : Int} {o3 o4 o5 : Option D.W} {post : List Str} : ∀ (qs : List (PyData × Nat × List Str)) (ds : List PyData) (p b : Nat), ds.length = qs.length → (∀ q ∈ qs, RdR C k g (a + 1) q.2.1 q.2.2 q.1) → L.drop p = (qs.map (·.2.2)).flatten ++ post → b + (qs.map (·.2.1)).sum ≤ 60 →
    compL fTrue (fCall (m_recipe_by C k) (fCons (fVar 1) (fCons (fBin addD (fVar 2) (fC (.int 1))) (fCons (fVar 6) fNil)))) [some (.tp 1), some (.d (.int a)), o3, o4, o5, some (.d (.int (g : Int)))] ds (TW C t0 L (p : Int) (b : Int)) = some (qs.map (·.1), TW C t0 L ((p + (qs.map (·.2.2)).flatten.length : Nat) : Int) ((b + (qs.map (·.2.1)).sum : Nat) : Int))
  | [], [], p, b, _, _, _, _ => by simp [compL]
  | [], _ :: _, _, _, h, _, _, _ => by cases h
  | _ :: _, [], _, _, h, _, _, _ => by cases h
  | q :: qs, d :: ds, p, b, hl, hr, hd, hb => by
    have h0 := hr q List.mem_cons_self
    simp only [List.map_cons, List.flatten_cons, List.sum_cons, List.append_assoc] at hd hb ⊢
    have r0 := h0 t0 L p b _ (by omega) hd
    have hd' : L.drop (p + q.2.2.length) = (qs.map (·.2.2)).flatten ++ post := by
      rw [← List.drop_drop, hd, List.drop_left]
    have ih := comp_readR (k := k) (g := g) (a := a) (o3 := o3) (o4 := o4) (o5 := o5) (post := post) qs ds (p + q.2.2.length) (b + q.2.1) (by simpa using hl) (fun x hx => hr x (List.mem_cons_of_mem _ hx)) hd' (by omega)
    have e1 : p + (q.2.2 ++ (qs.map (·.2.2)).flatten).length = p + q.2.2.length + (qs.map (·.2.2)).flatten.length := by rw [List.length_append]; omega
    have e2 : b + (q.2.1 + (qs.map (·.2.1)).sum) = b + q.2.1 + (qs.map (·.2.1)).sum := by omega
    rw [e1, e2]
    generalize TW C t0 L ((p + q.2.2.length : Nat) : Int) ((b + q.2.1 : Nat) : Int) = T1 at r0 ih
    generalize (g : Int) = G at *
    simp [compL, r0, ih]
end
end G
namespace G
open PySem PySem.Spec PyProof.Rows L2 D
open K1 (has LET TXT single built manyF lsz isName isVal tdp deepF ldp)
theorem in2T {x : String} : inD (.str (Str.ofString x)) (.tuple [.str (Str.ofString "want"), .str (Str.ofString "peek")]) = some (.bool (decide (x = "want") || decide (x = "peek"))) := by
  have e : inD (.str (Str.ofString x)) (.tuple [.str (Str.ofString "want"), .str (Str.ofString "peek")]) = some (.bool (eqF (.str (Str.ofString "want")) (.str (Str.ofString x)) || (eqF (.str (Str.ofString "peek")) (.str (Str.ofString x)) || false))) := rfl
  have f : ∀ a b : String, eqF (.str (Str.ofString a)) (.str (Str.ofString b)) = decide (b = a) := fun a b => by
    rw [Bool.eq_iff_iff, decide_eq_true_iff]
    simp [eqF]
    exact ⟨fun h => h.symm, fun h => h.symm⟩
  rw [e, f, f, Bool.or_false]
structure RX (C : Addr) (g n c : Nat) (ws : List Str) (r : PyData) : Prop where
  n1 : 1 ≤ n
  c1 : 1 ≤ c
  c6 : c ≤ 60
  ln : ws.length ≤ 2 * c
  ne : ws ≠ []
  ok : ∀ w ∈ ws, 32 ∉ cd w ∧ w.length ≤ 1100
  pw : ∀ k T, n < k → m_recipe_words k [.d r] T = some (.list (sl ws), T)
  lw : ∀ k T, n < k → m__law_words k [.d r] T = some (.list (sl ws), T)
  rd : ∀ k a, n ≤ k → a + (n : Int) ≤ 20 → RdR C k g a c ws r
  bt : built (2 * n + 6) r = true
section
variable {C : Addr} {g n : Nat}
theorem name_ok {x : Str} (h : isName (.str x) = true) : 32 ∉ cd x ∧ x.length ≤ 1100 := by
  have h' : (decide (1 ≤ x.length) && decide (x.length ≤ 8) && has LET x) = true := h
  rw [Bool.and_eq_true, Bool.and_eq_true] at h'
  have l8 := of_decide_eq_true h'.1.2
  have no : 32 ∉ cd LET := by decide +kernel
  exact ⟨fun z => no (of_decide_eq_true (List.all_eq_true.mp h'.2 32 z)), by omega⟩
noncomputable def RTAB : List (Str × Int) := [((Str.ofString "say"), 0), ((Str.ofString "fail"), 0), ((Str.ofString "want"), 1), ((Str.ofString "peek"), 1), ((Str.ofString "when"), 2)]
theorem RX_fail {x : Str} (hn : 1 ≤ n) (hg : g ≤ 12) (h : isName (.str x) = true) : RX C g n 1 [Str.ofString "fail", x] (.tuple [.str (Str.ofString "fail"), .str x]) := by
  refine ⟨hn, by decide, by decide, by simp, by simp, fun w hw => ?_, fun k T hk => ?_, fun k T hk => ?_, fun k a hk ha t0 L p b post hb hd => ?_, ?_⟩
  · simp at hw
    rcases hw with rfl | rfl
    · exact lit_ok (by decide +kernel)
    · exact name_ok h
  · obtain ⟨k, rfl⟩ : ∃ j, k = j + 1 := ⟨k - 1, by omega⟩
    simp [m_recipe_words, sl]
  · obtain ⟨k, rfl⟩ : ∃ j, k = j + 1 := ⟨k - 1, by omega⟩
    have z : 1 < sizeLine := by decide
    exact node_law (k := k) (T := T) (fl := [x]) (es := []) (g := fun _ => []) (by simp [fillQ, strS, sl, z]) (by simp [m__law_within, in3X]) (fun e he => by cases he) (by simp)
  · obtain ⟨k, rfl⟩ : ∃ j, k = j + 1 := ⟨k - 1, by omega⟩
    obtain ⟨a0, d0⟩ := drop_at (w := Str.ofString "fail") (r := x :: post) hd
    obtain ⟨a1, _⟩ := drop_at d0
    have b1 := M_ahead (C := C) (t0 := t0) (b := (b : Int)) a0
    have b2 := M_begin (C := C) (t0 := t0) (L := L) (p := (p : Int)) (b := (b : Int)) (a := a) (by omega) (by omega)
    have b3 := M_name (C := C) (t0 := t0) (b := (b : Int) + 1) a1 h
    simp only [Int.natCast_add, Int.cast_ofNat_Int] at b3
    have fin : TW C t0 L ((p + [Str.ofString "fail", x].length : Nat) : Int) ((b + 1 : Nat) : Int) = TW C t0 L ((p : Int) + 1 + 1) ((b : Int) + 1) := TW_eq (by show ((p + 2 : Nat) : Int) = _; omega) (by omega)
    rw [fin]
    simp [m_recipe_by, ev_fMeth, m_W, b1, inT, in2T, b2, b3]
  · exact built_ge (built_tup (n := 0) (by simp) fun d hd => by
      simp at hd
      rcases hd with rfl | rfl
      · exact lit_b (by decide +kernel) 0
      · exact (built_single (name_single h)).1) (by omega)
theorem RX_node {w : String} {e : PyData} {ce : Nat} {we : List Str} {qs : List (PyData × Nat × List Str)} {g' : Nat} (hw : ¬ w = "put" ∧ ¬ w = "got" ∧ ¬ w = "row" ∧ ¬ w = "fail") (hlit : litOk w = true ∧ single (.str (Str.ofString w)) = true) (hq : qs.length ≤ 2)
    (hfit : inT RTAB (.str (Str.ofString w)) = some (.bool true)) (htab : D.atT RTAB (.str (Str.ofString w)) = some (.int (qs.length : Int))) (hgot : (w = "want" ∨ w = "peek") → g < 12) (hg' : g' = if w = "want" ∨ w = "peek" then g + 1 else g) (hn20 : n ≤ 20)
    (he : EX C (g : Int) n ce we e) (hr : ∀ q ∈ qs, RX C g' n q.2.1 q.2.2 q.1) (hc : 1 + ce + (qs.map (·.2.1)).sum ≤ 60) :
    RX C g (n + 1) (1 + ce + (qs.map (·.2.1)).sum) (Str.ofString w :: (we ++ (qs.map (·.2.2)).flatten)) (.tuple (.str (Str.ofString w) :: e :: qs.map (·.1))) := by
  obtain ⟨n1, n2, n3, n4⟩ := hw
  have fl : (qs.map (·.2.2)).flatten.length ≤ 2 * (qs.map (·.2.1)).sum := by
    clear htab hq hc
    induction qs with
    | nil => simp
    | cons q qs ih =>
      have h0 := (hr q List.mem_cons_self).ln
      have := ih fun x hx => hr x (List.mem_cons_of_mem _ hx)
      simp only [List.map_cons, List.flatten_cons, List.sum_cons, List.length_append]
      omega
  have hel := he.ln
  refine ⟨by omega, by omega, hc, by simp only [List.length_cons, List.length_append]; omega, by simp, fun u hu => ?_, fun k T hk => ?_, fun k T hk => ?_, fun k a hk ha t0 L p b post hb hd => ?_, ?_⟩
  · rcases List.mem_cons.mp hu with rfl | hu
    · exact lit_ok hlit.1
    · rcases List.mem_append.mp hu with hu | hu
      · exact he.ok u hu
      · obtain ⟨l, hl, hu'⟩ := List.mem_flatten.mp hu
        obtain ⟨q, hq', rfl⟩ := List.mem_map.mp hl
        exact (hr q hq').ok u hu'
  · obtain ⟨k, rfl⟩ : ∃ j, k = j + 1 := ⟨k - 1, by omega⟩
    have := rec_words (k := k) (T := T) (w := w) (e := e) (we := we) (ps := qs.map fun q => (q.1, q.2.2)) n4 (he.pw 25 T (by omega)) (fun q hq' => by
      obtain ⟨q', h1, rfl⟩ := List.mem_map.mp hq'
      exact (hr q' h1).pw k T (by omega)) (by simp only [List.map_map]; show we.length + (qs.map (·.2.2)).flatten.length ≤ 90000; omega)
    simp only [List.map_map] at this
    exact this
  · obtain ⟨k, rfl⟩ : ∃ j, k = j + 1 := ⟨k - 1, by omega⟩
    have := rec_law (k := k) (T := T) (w := w) (ps := (e, we) :: qs.map fun q => (q.1, q.2.2)) ⟨n1, n2, n3, n4⟩ (fun q hq' => by
      rcases List.mem_cons.mp hq' with rfl | hq'
      · exact he.lw k T (by omega)
      · obtain ⟨q', h1, rfl⟩ := List.mem_map.mp hq'
        exact (hr q' h1).lw k T (by omega)) (by simp only [List.map_cons, List.map_map, List.flatten_cons, List.length_append]; show we.length + (qs.map (·.2.2)).flatten.length ≤ 90000; omega)
    simp only [List.map_cons, List.map_map, List.flatten_cons] at this
    exact this
  · obtain ⟨k, rfl⟩ : ∃ j, k = j + 1 := ⟨k - 1, by omega⟩
    have hd1 : L.drop p = Str.ofString w :: (we ++ ((qs.map (·.2.2)).flatten ++ post)) := by rw [hd]; simp
    obtain ⟨a0, d0⟩ := drop_at hd1
    have b1 := M_ahead (C := C) (t0 := t0) (b := (b : Int)) a0
    have b2 := M_begin (C := C) (t0 := t0) (L := L) (p := (p : Int)) (b := (b : Int)) (a := a) (by omega) (by omega)
    have b3 := he.rd 50 (a + 1) (by omega) (by omega) t0 L (p + 1) (b + 1) _ (by omega) d0
    have e3 : TW C t0 L ((p + 1 : Nat) : Int) ((b + 1 : Nat) : Int) = TW C t0 L ((p : Int) + 1) ((b : Int) + 1) := TW_eq (by omega) (by omega)
    rw [e3] at b3
    have d1 : L.drop (p + 1 + we.length) = (qs.map (·.2.2)).flatten ++ post := by rw [← List.drop_drop, d0, List.drop_left]
    have b4 := comp_readR (C := C) (t0 := t0) (L := L) (k := k) (g := g') (a := a) (o3 := some (.d (.int (g : Int)))) (o4 := some (.d (.str (Str.ofString w)))) (o5 := some (.d e)) (post := post) qs (numsD 0 qs.length) (p + 1 + we.length) (b + 1 + ce) (nums_len _) (fun q hq' => (hr q hq').rd k (a + 1) (by omega) (by omega)) d1 (by omega)
    have r := rng_small (j := (qs.length : Int)) (by omega) (by omega)
    have fin : TW C t0 L ((p + (Str.ofString w :: (we ++ (qs.map (·.2.2)).flatten)).length : Nat) : Int) ((b + (1 + ce + (qs.map (·.2.1)).sum) : Nat) : Int) = TW C t0 L ((p + 1 + we.length + (qs.map (·.2.2)).flatten.length : Nat) : Int) ((b + 1 + ce + (qs.map (·.2.1)).sum : Nat) : Int) := TW_eq (by simp only [List.length_cons, List.length_append]; omega) (by omega)
    rw [fin]
    have z : 2 + (qs.map (·.1)).length ≤ sizeLine := sz_k (by rw [List.length_map]; omega)
    rw [List.length_map] at z
    unfold RTAB at hfit htab
    have gb : ∀ T, m_got_behind [.d (.str (Str.ofString w)), .d (.int (g : Int))] T = some (.int (g' : Int), T) := fun T => by
      by_cases hq : w = "want" ∨ w = "peek"
      · rw [if_pos hq] at hg'
        have e2 : ((g' : Nat) : Int) = (g : Int) + 1 := by omega
        rw [e2]
        rcases hq with rfl | rfl <;> simp [m_got_behind, in2T]
      · rw [if_neg hq] at hg'
        rw [hg']
        obtain ⟨q1, q2⟩ := not_or.mp hq
        simp [m_got_behind, in2T, q1, q2]
    have ft : ∀ T : Tp, (if (decide (w = "want") || decide (w = "peek")) = true then decide ((g : Int) = 12) else false) = false := fun _ => by
      split
      · rename_i hq
        have : w = "want" ∨ w = "peek" := by simpa using hq
        have := hgot this
        exact decide_eq_false (by omega)
      · rfl
    generalize TW C t0 L ((p + 1 + we.length + (qs.map (·.2.2)).flatten.length : Nat) : Int) ((b + 1 + ce + (qs.map (·.2.1)).sum : Nat) : Int) = T9 at b4 ⊢
    generalize TW C t0 L ((p + 1 + we.length : Nat) : Int) ((b + 1 + ce : Nat) : Int) = T8 at b3 b4
    by_cases hq : w = "want" ∨ w = "peek"
    · have g12 : ¬ (g : Int) = 12 := by have := hgot hq; omega
      generalize (g : Int) = G at *
      rcases hq with rfl | rfl <;> simp [m_recipe_by, ev_fMeth, m_W, b1, hfit, in2T, g12, b2, b3, gb, htab, r, b4, z]
    · obtain ⟨q1, q2⟩ := not_or.mp hq
      generalize (g : Int) = G at *
      simp [m_recipe_by, ev_fMeth, m_W, b1, hfit, in2T, q1, q2, n4, b2, b3, gb, htab, r, b4, z]
  · exact built_ge (built_tup (n := 2 * n + 6) (by simp only [List.length_cons, List.length_map]; omega) fun d hd => by
      rcases List.mem_cons.mp hd with rfl | hd
      · exact lit_b hlit.2 _
      · rcases List.mem_cons.mp hd with rfl | hd
        · exact built_ge he.bt (by omega)
        · obtain ⟨q, hq', rfl⟩ := List.mem_map.mp hd
          exact (hr q hq').bt) (by omega)
end
end G
namespace G
open PySem PySem.Spec PyProof.Rows L2 D
open K1 (has LET TXT single built manyF lsz isName isVal tdp deepF ldp)
variable {R : Tp} {C : Addr}
noncomputable def RW (C : Addr) (g n : Nat) (q : Int) (r : PyData) : Prop := ∃ c ws, RX C g n c ws r ∧ (c : Int) ≤ q
theorem RW_say {g n : Nat} {q Q : Int} {e : PyData} (hn : n ≤ 20) (h : EW C (g : Int) n q e) (hQ : q + 1 ≤ Q) (hQ2 : Q ≤ 60) : RW C g (n + 1) Q (.tuple [.str (Str.ofString "say"), e]) := by
  obtain ⟨c, ws, h1, h2⟩ := h
  exact ⟨_, _, RX_node (w := "say") (qs := []) (g' := g) (by simp) (by decide +kernel) (by simp) (by simp [inT, RTAB]) (by simp [D.atT, RTAB]) (by simp) (by simp) hn h1 (fun q hq => by cases hq) (by simp; omega), by simp; omega⟩
theorem RW_ask {g n c : Nat} {ws : List Str} {q Q : Int} {w : String} {e r : PyData} (hn : n ≤ 20) (hw : w = "want" ∨ w = "peek") (hg : g < 12) (h : EX C (g : Int) n c ws e) (hr : RW C (g + 1) n q r) (hQ : 1 + (c : Int) + q ≤ Q) (hQ2 : Q ≤ 60) : RW C g (n + 1) Q (.tuple [.str (Str.ofString w), e, r]) := by
  obtain ⟨d, us, h1, h2⟩ := hr
  have a1 : ¬ w = "put" ∧ ¬ w = "got" ∧ ¬ w = "row" ∧ ¬ w = "fail" := by rcases hw with rfl | rfl <;> simp
  have a2 : litOk w = true ∧ single (.str (Str.ofString w)) = true := by rcases hw with rfl | rfl <;> decide +kernel
  have a3 : inT RTAB (.str (Str.ofString w)) = some (.bool true) := by rcases hw with rfl | rfl <;> simp [inT, RTAB]
  have a4 : D.atT RTAB (.str (Str.ofString w)) = some (.int (([(r, d, us)] : List (PyData × Nat × List Str)).length : Int)) := by rcases hw with rfl | rfl <;> simp [D.atT, RTAB]
  exact ⟨_, _, RX_node (w := w) (qs := [(r, d, us)]) (g' := g + 1) a1 a2 (by simp) a3 a4 (fun _ => hg) (by rw [if_pos hw]) hn h (fun q hq => by rw [List.mem_singleton.mp hq]; exact h1) (by simp; omega), by simp; omega⟩
theorem RW_when {g n c : Nat} {ws : List Str} {q Q : Int} {e r s : PyData} (hn : n ≤ 20) (h : EX C (g : Int) n c ws e) (hr : RW C g n q r) (hs : RW C g n q s) (hQ : 1 + (c : Int) + q + q ≤ Q) (hQ2 : Q ≤ 60) : RW C g (n + 1) Q (.tuple [.str (Str.ofString "when"), e, r, s]) := by
  obtain ⟨d, us, h1, h2⟩ := hr
  obtain ⟨f, vs, h3, h4⟩ := hs
  exact ⟨_, _, RX_node (w := "when") (qs := [(r, d, us), (s, f, vs)]) (g' := g) (by simp) (by decide +kernel) (by simp) (by simp [inT, RTAB]) (by simp [D.atT, RTAB]) (by simp) (by simp) hn h (fun q hq => by
    simp at hq
    rcases hq with rfl | rfl
    · exact h1
    · exact h3) (by simp; omega), by simp; omega⟩
theorem Lq_recipe : ∀ (n k : Nat) (T : Tp) (room : Int) (g : Nat), TapeOk R T → n < k → k ≤ 25 → 1 ≤ n → n ≤ 20 → g ≤ 12 → 1 ≤ room → room ≤ 60 → ∃ r T', m__law_recipe k [.tp 0, .d (.int (g : Int)), .d (.int room), .d (.int (n : Int))] T = some (r, T') ∧ TapeOk R T' ∧ RW C g n room r
  | n, 0, T, room, g, _, hk, _, _, _, _, _, _ => absurd hk (Nat.not_lt_zero _)
  | n, k + 1, T, room, g, t, hk, hk2, hn1, hn20, hg, hroom, hroom2 => by
    obtain ⟨w, T1, e1, t1, w0, w1⟩ := L_draw (m := 10) t (by decide) (by decide)
    obtain ⟨x, Tx, ex, tx, hx⟩ := Lg_name t1
    have fl : RW C g n room (.tuple [.str (Str.ofString "fail"), .str x]) := ⟨_, _, RX_fail hn1 hg hx, by simpa using hroom⟩
    by_cases c1 : room < 2
    · exact ⟨_, Tx, by simp [m__law_recipe, e1, c1, ex], tx, fl⟩
    by_cases c2 : (n : Int) < 2
    · exact ⟨_, Tx, by simp [m__law_recipe, e1, c1, c2, ex], tx, fl⟩
    by_cases c3 : w = 0
    · exact ⟨_, Tx, by simp [m__law_recipe, e1, c1, c2, c3, ex], tx, fl⟩
    clear ex tx fl
    obtain ⟨n, rfl⟩ : ∃ j, n = j + 1 := ⟨n - 1, by omega⟩
    have hs : ((n + 1 : Nat) : Int) - 1 = (n : Int) := by omega
    have say : (room < 5 ∨ w < 3 ∨ (w < 8 ∧ (g : Int) = 12)) → ∃ r T', m__law_recipe (k + 1) [.tp 0, .d (.int (g : Int)), .d (.int room), .d (.int ((n + 1 : Nat) : Int))] T = some (r, T') ∧ TapeOk R T' ∧ RW C g (n + 1) room r := fun hc => by
      obtain ⟨e, T2, e2, t2, xe⟩ := Lq_expr (C := C) hg n 25 T1 (room - 1) t1 (by omega) (by omega) (by omega) (by omega)
      refine ⟨.tuple [.str (Str.ofString "say"), e], T2, ?_, t2, RW_say (by omega) xe (by omega) hroom2⟩
      rw [← hs] at e2
      generalize ((n + 1 : Nat) : Int) = N at e2 c2
      by_cases d1 : room < 5
      · simp [m__law_recipe, e1, c1, c2, c3, d1, e2]
      by_cases d2 : w < 3
      · simp [m__law_recipe, e1, c1, c2, c3, d1, d2, e2]
      · obtain ⟨d3, d4⟩ : w < 8 ∧ (g : Int) = 12 := by
          rcases hc with z | z | z
          · exact absurd z d1
          · exact absurd z d2
          · exact z
        simp [m__law_recipe, e1, c1, c2, c3, d1, d2, d3]
        simp [d4] at e2 ⊢
        simp [e2]
    by_cases c4 : room < 5
    · exact say (.inl c4)
    by_cases c5 : w < 3
    · exact say (.inr (.inl c5))
    by_cases c6 : w < 8 ∧ (g : Int) = 12
    · exact say (.inr (.inr c6))
    clear say
    by_cases c7 : w < 8
    · have hg2 : g < 12 := by
        have : ¬ (g : Int) = 12 := fun z => c6 ⟨c7, z⟩
        omega
      have hg2' : ¬ (g : Int) = 12 := by omega
      obtain ⟨e, T2, e2, t2, xe⟩ := Lq_asked (C := C) (g := g) (n := n) (room := room - 3) t1 hg (by omega) (by omega) (by omega)
      obtain ⟨A, we, xx, k2⟩ := xe
      have f1 := xx.my 25 T2 (by omega)
      obtain ⟨i, T3, e3, t3, i0, i1⟩ := L_draw (m := 3) t2 (by decide) (by decide)
      obtain ⟨y, T4, e4, t4, xy⟩ := Lq_recipe n k T3 (room - 1 - (A : Int)) (g + 1) t3 (by omega) (by omega) (by omega) (by omega) (by omega) (by omega) (by omega)
      obtain ⟨wd, hwd, hat⟩ : ∃ wd : String, (wd = "want" ∨ wd = "peek") ∧ atI [PyData.str (Str.ofString "want"), .str (Str.ofString "want"), .str (Str.ofString "peek")] i = some (.str (Str.ofString wd)) := by
        obtain ⟨d, h, hm⟩ := at_mem (xs := [PyData.str (Str.ofString "want"), .str (Str.ofString "want"), .str (Str.ofString "peek")]) i0 (by simpa using i1)
        simp at hm
        rcases hm with rfl | rfl
        · exact ⟨"want", .inl rfl, h⟩
        · exact ⟨"peek", .inr rfl, h⟩
      have xl := xx.c1
      refine ⟨.tuple [.str (Str.ofString wd), e, y], T4, ?_, t4, RW_ask (by omega) hwd hg2 xx xy (by omega) hroom2⟩
      rw [← hs] at e2 e4
      rw [show ((g + 1 : Nat) : Int) = (g : Int) + 1 by omega] at e4
      generalize ((n + 1 : Nat) : Int) = N at e2 e4 c2
      generalize (A : Int) = A' at *
      generalize (g : Int) = G at *
      simp [m__law_recipe, e1, c1, c2, c3, c4, c5, c7, hg2', e2, f1, e3, hat, e4]
    · obtain ⟨e, T2, e2, t2, xe⟩ := Lq_expr (C := C) hg n 25 T1 (room / 4) t1 (by omega) (by omega) (by omega) (by omega)
      obtain ⟨A, we, xx, k2⟩ := xe
      have xl := xx.c1
      have f1 := xx.my 25 T2 (by omega)
      obtain ⟨y, T3, e3, t3, xy⟩ := Lq_recipe n k T2 ((room - 1 - (A : Int)) / 2) g t2 (by omega) (by omega) (by omega) (by omega) hg (by omega) (by omega)
      obtain ⟨z, T4, e4, t4, xz⟩ := Lq_recipe n k T3 ((room - 1 - (A : Int)) / 2) g t3 (by omega) (by omega) (by omega) (by omega) hg (by omega) (by omega)
      refine ⟨.tuple [.str (Str.ofString "when"), e, y, z], T4, ?_, t4, RW_when (by omega) xx xy xz (by omega) hroom2⟩
      rw [← hs] at e2 e3 e4
      generalize ((n + 1 : Nat) : Int) = N at e2 e3 e4 c2
      generalize (A : Int) = A' at *
      generalize (g : Int) = G at *
      simp [m__law_recipe, e1, c1, c2, c3, c4, c5, c7, e2, f1, e3, e4]
end G
namespace G
open PySem PySem.Spec PyProof.Rows L2 D
open K1 (has LET TXT single built manyF lsz isName isVal tdp deepF ldp)
theorem com_len : ∀ ls : List (List Nat), (commas [32] ls).length ≤ (ls.map (·.length)).sum + ls.length
  | [] => by simp [commas]
  | [x] => by simp [commas]
  | x :: y :: r => by
    have ih := com_len (y :: r)
    have e : commas [32] (x :: y :: r) = x ++ [32] ++ commas [32] (y :: r) := rfl
    rw [e]
    simp only [List.length_append, List.map_cons, List.sum_cons, List.length_cons, List.length_nil] at ih ⊢
    omega
theorem lens_k {B : Nat} : ∀ {ws : List Str}, (∀ w ∈ ws, w.length ≤ B) → (ws.map (·.length)).sum ≤ B * ws.length
  | [], _ => by simp
  | w :: ws, h => by
    have := lens_k (ws := ws) fun x hx => h x (List.mem_cons_of_mem _ hx)
    have h0 := h w List.mem_cons_self
    simp only [List.map_cons, List.sum_cons, List.length_cons, Nat.mul_add]
    omega
theorem cd_BL : cd BL = [32] := by rw [BL_eq]; rfl
theorem join_len (ws : List Str) : (Str.join BL ws).length ≤ (ws.map (·.length)).sum + ws.length := by
  have e : (Str.join BL ws).length = (commas [32] (ws.map cd)).length := by rw [← cd_len, join_cd, cd_BL]
  have := com_len (ws.map cd)
  rw [e]
  have e2 : ((ws.map cd).map (·.length)) = ws.map (·.length) := by
    rw [List.map_map]
    exact List.map_congr_left fun x _ => cd_len x
  rw [e2, List.length_map] at this
  exact this
section
variable {C : Addr} {g n c : Nat} {ws : List Str} {r : PyData}
theorem RX.len (h : RX C g n c ws r) : (ws.map (·.length)).sum + ws.length ≤ 200000 := by
  have a := lens_k (B := 1100) fun w hw => (h.ok w hw).2
  have b := h.ln
  have d := h.c6
  have e : ws.length ≤ 120 := by omega
  have f : 1100 * ws.length ≤ 1100 * 120 := Nat.mul_le_mul_left _ e
  omega
theorem join_sl (hl : (ws.map (·.length)).sum + ws.length ≤ 200000) : joinD (.str (Str.ofString " ")) (.list (sl ws)) = some (.str (Str.join BL ws)) := by
  have e : joinD (.str (Str.ofString " ")) (.list (sl ws)) = (match strsD (sl ws) with | some ys => if (ys.map (·.length)).sum + ys.length * (Str.ofString " ").length ≤ 16777216 then some (.str (Str.join (Str.ofString " ") ys)) else none | none => none) := rfl
  have b : (Str.ofString " ").length = 1 := by decide +kernel
  rw [e, strs_sl, b]
  dsimp only
  rw [Nat.mul_one]
  exact if_pos (by omega)
theorem L_show (h : RX C g n c ws r) (hn : n ≤ 20) (T : Tp) : m_show_recipe [.d r] T = some (.str (Str.join BL ws), T) := by
  have a := h.pw 25 T (by omega)
  have b := join_sl h.len
  simp [m_show_recipe, a, b]
theorem L_text (h : RX C g n c ws r) (hn : n ≤ 20) (T : Tp) : m__law_words 25 [.d r] T = some (.list (sl ws), T) ∧ joinD (.str (Str.ofString " ")) (.list (sl ws)) = some (.str (Str.join BL ws)) := ⟨h.lw 25 T (by omega), join_sl h.len⟩
theorem L_init {t0 : List PyData} (h : RX C g n c ws r) : m_Words____init__ C [.tp 1, .d (.str (Str.join BL ws))] [t0, [tagO C]] = some (.none, TW C t0 ws 0 0) := by
  have sp : splitD (.str (Str.join BL ws)) (.str (Str.ofString " ")) = some (.list (sl ws)) := by
    have jl := join_len ws
    have hl := h.len
    have z : (Str.join BL ws).length + 2 ≤ sizeLine := Nat.le_trans (show _ ≤ 300000 by omega) (by decide)
    have b : ((Str.ofString " ").length == 0) = false := by decide +kernel
    have e : splitD (.str (Str.join BL ws)) (.str (Str.ofString " ")) = if ((Str.ofString " ").length == 0) = false ∧ (Str.join BL ws).length + 2 ≤ sizeLine then some (.list ((Txt.split (Str.join BL ws) (Str.ofString " ")).map .str)) else none := rfl
    rw [e, if_pos ⟨b, z⟩]
    have s := split_back h.ne fun w hw => (h.ok w hw).1
    show some (PyData.list ((Txt.split (Str.join BL ws) BL).map .str)) = _
    rw [s]
    rfl
  have s1 : ∀ {ρ : Rho}, setFK C (Str.ofString "parted") ρ (.d (.list (sl ws))) (.tp 1) [t0, [tagO C]] = some ((.nx, ρ), [t0, [tagO C, .tuple [.str (Str.ofString "parted"), .list (sl ws)]]]) := by
    intro ρ
    simp [setFK, objAt, objR, tagO, putP]
  have s2 : ∀ {ρ : Rho}, setFK C (Str.ofString "place") ρ (.d (.int 0)) (.tp 1) [t0, [tagO C, .tuple [.str (Str.ofString "parted"), .list (sl ws)]]] = some ((.nx, ρ), [t0, [tagO C, .tuple [.str (Str.ofString "parted"), .list (sl ws)], .tuple [.str (Str.ofString "place"), .int 0]]]) := by
    intro ρ
    simp [setFK, objAt, objR, tagO, putP]
  have s3 : ∀ {ρ : Rho}, setFK C (Str.ofString "begun") ρ (.d (.int 0)) (.tp 1) [t0, [tagO C, .tuple [.str (Str.ofString "parted"), .list (sl ws)], .tuple [.str (Str.ofString "place"), .int 0]]] = some ((.nx, ρ), TW C t0 ws 0 0) := by
    intro ρ
    simp [setFK, objAt, objR, tagO, putP, rowW]
  simp [m_Words____init__, ev_fSetF, sp, s1, s2, s3]
theorem L_read {t0 : List PyData} (h : RX C 0 n c ws r) (hn : n ≤ 20) : m_read_recipe C [.d (.str (Str.join BL ws))] [t0] = some (r, [t0]) := by
  have i := L_init (t0 := t0) h
  have rd := h.rd 25 0 (by omega) (by omega) t0 ws 0 0 [] (by have := h.c6; omega) (by simp)
  have e1 : TW C t0 ws ((0 : Nat) : Int) ((0 : Nat) : Int) = TW C t0 ws 0 0 := rfl
  rw [e1, Nat.zero_add, Nat.zero_add] at rd
  have rd' : m_recipe_by C 25 [.tp 1, .d (.int 0), .d (.int 0)] (TW C t0 ws 0 0) = some (r, TW C t0 ws (ws.length : Int) (c : Int)) := rd
  have f := M_finish (C := C) (t0 := t0) (b := (c : Int)) (L := ws) (Nat.le_refl ws.length)
  have lt : lastR (TW C t0 ws (ws.length : Int) (c : Int)) = some ([t0], rowW C ws (ws.length : Int) (c : Int)) := rfl
  have go : (fSeq (fSet 2 (fCall (m_recipe_by C 25) (fCons (fVar 1) (fCons (fC (.int 0)) (fCons (fC (.int 0)) fNil))))) (fSeq (fDrop (fMeth C (Str.ofString "finish") (m_Words__finish C) (fVar 1) fNil)) (fRet (fVar 2)))) [some (.d (.str (Str.join BL ws))), some (.tp 1), none] (TW C t0 ws 0 0) = some ((.rt r, [some (.d (.str (Str.join BL ws))), some (.tp 1), some (.d r)]), TW C t0 ws (ws.length : Int) (c : Int)) := by
    simp [rd', ev_fMeth, m_W, f]
  have mk1 : fMake 1 C (m_Words____init__ C) (fVar 0) (fSeq (fSet 2 (fCall (m_recipe_by C 25) (fCons (fVar 1) (fCons (fC (.int 0)) (fCons (fC (.int 0)) fNil))))) (fSeq (fDrop (fMeth C (Str.ofString "finish") (m_Words__finish C) (fVar 1) fNil)) (fRet (fVar 2)))) [some (.d (.str (Str.join BL ws))), none, none] [t0] = some ((.rt r, [some (.d (.str (Str.join BL ws))), some (.tp 1), some (.d r)]), [t0]) := by
    unfold fMake
    rw [if_pos (show plainR [some (.d (.str (Str.join BL ws))), none, none] = true from rfl)]
    show mkK 1 C (m_Words____init__ C) _ _ (.d (.str (Str.join BL ws))) [t0] = _
    unfold mkK
    dsimp only
    show (match m_Words____init__ C [.tp 1, .d (.str (Str.join BL ws))] [t0, [tagO C]] with | some (.none, T2) => mkEnd _ | _ => none) = _
    rw [i]
    show mkEnd ((fSeq _ _) [some (.d (.str (Str.join BL ws))), some (.tp 1), none] (TW C t0 ws 0 0)) = _
    rw [go]
    unfold mkEnd
    dsimp only
    rw [lt]
  have e0 : m_read_recipe C = mkFn 3 (fMake 1 C (m_Words____init__ C) (fVar 0) (fSeq (fSet 2 (fCall (m_recipe_by C 25) (fCons (fVar 1) (fCons (fC (.int 0)) (fCons (fC (.int 0)) fNil))))) (fSeq (fDrop (fMeth C (Str.ofString "finish") (m_Words__finish C) (fVar 1) fNil)) (fRet (fVar 2))))) := rfl
  rw [e0]
  simp [mk1]
end
end G
namespace G
open PySem PySem.Spec PyProof.Rows L2 D
open K1 (has LET TXT single built manyF lsz isName isVal tdp deepF ldp)
theorem for_cnt {i N : Nat} {body : FS} {P : Nat → Rho → Tp → Prop} : ∀ {ds : List PyData} {j : Nat} {ρ : Rho} {T : Tp}, j + ds.length ≤ N → P j ρ T → (∀ d ∈ ds, ∀ j ρ T, j < N → P j ρ T → ∃ ρ' T', body (ρ.set i (some (.d d))) T = some ((.nx, ρ'), T') ∧ P (j + 1) ρ' T') → ∃ ρ' T', forL i body ds ρ T = some ((.nx, ρ'), T') ∧ P (j + ds.length) ρ' T'
  | [], j, ρ, T, _, p, _ => ⟨ρ, T, rfl, p⟩
  | d :: r, j, ρ, T, hN, p, h => by
    rw [List.length_cons] at hN
    obtain ⟨ρ1, T1, e1, p1⟩ := h d List.mem_cons_self j ρ T (by omega) p
    obtain ⟨ρ2, T2, e2, p2⟩ := for_cnt (ds := r) (by omega) p1 fun x hx => h x (List.mem_cons_of_mem _ hx)
    refine ⟨ρ2, T2, ?_, by rw [List.length_cons, show j + (r.length + 1) = j + 1 + r.length by omega]; exact p2⟩
    unfold forL
    simp [e1, e2]
theorem for_inv {i : Nat} {body : FS} {P : Rho → Tp → Prop} {ds : List PyData} {ρ : Rho} {T : Tp} (p : P ρ T) (h : ∀ d ∈ ds, ∀ ρ T, P ρ T → ∃ ρ' T', body (ρ.set i (some (.d d))) T = some ((.nx, ρ'), T') ∧ P ρ' T') : ∃ ρ' T', forL i body ds ρ T = some ((.nx, ρ'), T') ∧ P ρ' T' :=
  for_cnt (j := 0) (N := 0 + ds.length) (P := fun _ => P) (Nat.le_refl _) p fun d hd _ ρ T _ => h d hd ρ T
variable {C : Addr}
noncomputable def GR (C : Addr) (r : PyData) : Prop := ∃ n c ws, n ≤ 20 ∧ RX C 0 n c ws r
theorem RW.gr {n : Nat} {q : Int} {r : PyData} (h : RW C 0 n q r) (hn : n ≤ 20) : GR C r := by
  obtain ⟨c, ws, h1, _⟩ := h
  exact ⟨n, c, ws, hn, h1⟩
theorem Lq_val4 {T : Tp} (t : TapeOk [] T) : ∃ v T', m__law_value 25 [.tp 0, .d (.int 4), .d (.int 40)] T = some (v, T') ∧ TapeOk [] T' ∧ isVal v = true := by
  obtain ⟨v, T', e, t', hb, hm⟩ := Lg_value 4 25 T 40 t (by decide) (by decide)
  refine ⟨v, T', e, t', ?_⟩
  show (built 4 v && decide (manyF 4 v ≤ 40)) = true
  rw [hb, decide_eq_true hm]
  rfl
theorem L_great {T : Tp} (t : TapeOk [] T) : ∃ r T', m__law_great [.tp 0] T = some (r, T') ∧ TapeOk [] T' ∧ GR C r := by
  obtain ⟨v1, T1, e1, t1, h1⟩ := Lq_val4 t
  obtain ⟨v2, T2, e2, t2, h2⟩ := Lq_val4 t1
  obtain ⟨x, T3, e3, t3, h3⟩ := Lg_name t2
  have a1 : RW C 0 2 2 (.tuple [.str (Str.ofString "say"), .tuple [.str (Str.ofString "put"), v1]]) := RW_say (n := 1) (by decide) ⟨_, _, EX_put (by decide) h1, by decide⟩ (q := 1) (by decide) (by decide)
  have a2 : RW C 0 2 2 (.tuple [.str (Str.ofString "fail"), .str x]) := ⟨_, _, RX_fail (by decide) (by decide) h3, by decide⟩
  have a3 := RW_when (C := C) (g := 0) (n := 2) (Q := 6) (by decide) (EX_put (C := C) (m := ((0 : Nat) : Int)) (n := 2) (by decide) h2) a1 a2 (by decide) (by decide)
  exact ⟨_, T3, by simp [m__law_great, e1, e2, e3], t3, a3.gr (by decide)⟩
noncomputable abbrev rhV (r : PyData) (o2 : Option D.W) : Rho := [some (.tp 0), some (.d r), o2]
noncomputable def wtB : FS := (fSet 1 (fSeqD .tuple (fCons (fBin ixD (fSeqD .list (fCons (fC (.str (Str.ofString "want"))) (fCons (fC (.str (Str.ofString "peek"))) fNil))) (fCall m__law_draw (fCons (fVar 0) (fCons (fC (.int 2)) fNil)))) (fCons (fSeqD .tuple (fCons (fC (.str (Str.ofString "put"))) (fCons (fCall m__law_name (fCons (fVar 0) fNil)) fNil))) (fCons (fVar 1) fNil)))))
theorem wt_step {r : PyData} {o2 : Option D.W} {T : Tp} {j : Nat} (hj : j < 12) (h : RW C (12 - j) (3 + j) (4 + 2 * (j : Int)) r) (t : TapeOk [] T) : ∃ r' T', wtB (rhV r o2) T = some ((.nx, rhV r' o2), T') ∧ RW C (12 - (j + 1)) (3 + (j + 1)) (4 + 2 * ((j + 1 : Nat) : Int)) r' ∧ TapeOk [] T' := by
  obtain ⟨i, T1, e1, t1, i0, i1⟩ := L_draw (m := 2) t (by decide) (by decide)
  obtain ⟨x, T2, e2, t2, hx⟩ := Lg_name t1
  obtain ⟨wd, hwd, hat⟩ : ∃ wd : String, (wd = "want" ∨ wd = "peek") ∧ atI [PyData.str (Str.ofString "want"), .str (Str.ofString "peek")] i = some (.str (Str.ofString wd)) := by
    obtain ⟨d, h, hm⟩ := at_mem (xs := [PyData.str (Str.ofString "want"), .str (Str.ofString "peek")]) i0 (by simpa using i1)
    simp at hm
    rcases hm with rfl | rfl
    · exact ⟨"want", .inl rfl, h⟩
    · exact ⟨"peek", .inr rfl, h⟩
  have iv : isVal (.str x) = true := by
    obtain ⟨u1, u2⟩ := built_single (n := 4) (name_single hx)
    show (built 4 (.str x) && decide (manyF 4 (.str x) ≤ 40)) = true
    rw [u1, u2]
    rfl
  have hr : RW C (12 - (j + 1) + 1) (3 + j) (4 + 2 * (j : Int)) r := by
    rw [show 12 - (j + 1) + 1 = 12 - j by omega]
    exact h
  have a := RW_ask (C := C) (g := 12 - (j + 1)) (n := 3 + j) (Q := 4 + 2 * ((j + 1 : Nat) : Int)) (by omega) hwd (by omega) (EX_put (C := C) (m := ((12 - (j + 1) : Nat) : Int)) (n := 3 + j) (by omega) iv) hr (by omega) (by omega)
  exact ⟨_, T2, by simp [wtB, e1, hat, e2], a, t2⟩
theorem wt_eq : m__law_wants = mkFn 3 (fSeq (fSet 1 (fSeqD .tuple (fCons (fC (.str (Str.ofString "say"))) (fCons (fSeqD .tuple (fCons (fC (.str (Str.ofString "sum"))) (fCons (fSeqD .tuple (fCons (fC (.str (Str.ofString "got"))) (fCons (fC (.int 11)) fNil))) (fCons (fSeqD .tuple (fCons (fC (.str (Str.ofString "got"))) (fCons (fBin addD (fC (.int 8)) (fCall m__law_draw (fCons (fVar 0) (fCons (fC (.int 4)) fNil)))) fNil))) fNil)))) fNil)))) (fSeq (fFor 2 (fRng1 (fC (.int 12))) wtB) (fRet (fVar 1)))) := rfl
theorem L_wants {T : Tp} (t : TapeOk [] T) : ∃ r T', m__law_wants [.tp 0] T = some (r, T') ∧ TapeOk [] T' ∧ GR C r := by
  obtain ⟨i, T1, e1, t1, i0, i1⟩ := L_draw (m := 4) t (by decide) (by decide)
  obtain ⟨j, rfl⟩ : ∃ j : Nat, i = (j : Int) := ⟨i.toNat, by omega⟩
  have g1 : EW C ((12 : Nat) : Int) 1 1 (.tuple [.str (Str.ofString "got"), .int ((11 : Nat) : Int)]) := ⟨_, _, EX_got (g := 12) (j := 11) (by decide) (by decide) (by decide), by decide⟩
  have g2 : EW C ((12 : Nat) : Int) 1 1 (.tuple [.str (Str.ofString "got"), .int ((8 + j : Nat) : Int)]) := ⟨_, _, EX_got (g := 12) (j := 8 + j) (by decide) (by decide) (by omega), by decide⟩
  have g3 := EW_pair (C := C) (w := "sum") (Q := 3) (by simp [PWX]) g1 g2 (by decide) (by decide)
  have g4 := RW_say (C := C) (g := 12) (n := 2) (Q := 4) (by decide) g3 (by decide) (by decide)
  have e8 : ((8 + j : Nat) : Int) = 8 + (j : Int) := by omega
  rw [e8] at g4
  have g5 : RW C (12 - 0) (3 + 0) (4 + 2 * ((0 : Nat) : Int)) (.tuple [.str (Str.ofString "say"), .tuple [.str (Str.ofString "sum"), .tuple [.str (Str.ofString "got"), .int 11], .tuple [.str (Str.ofString "got"), .int (8 + (j : Int))]]]) := g4
  have r12 : rngOk 12 = true := by decide
  have nl : (numsD 0 12).length = 12 := nums_len 12
  obtain ⟨ρ1, T2, f1, r, o2, rfl, h2, t2⟩ := for_cnt (i := 2) (N := 12) (body := wtB) (ds := numsD 0 12) (j := 0) (P := fun j ρ T => ∃ r o2, ρ = rhV r o2 ∧ RW C (12 - j) (3 + j) (4 + 2 * (j : Int)) r ∧ TapeOk [] T)
    (ρ := rhV (.tuple [.str (Str.ofString "say"), .tuple [.str (Str.ofString "sum"), .tuple [.str (Str.ofString "got"), .int 11], .tuple [.str (Str.ofString "got"), .int (8 + (j : Int))]]]) none) (T := T1) (by omega) ⟨_, none, rfl, g5, t1⟩ (by
      rintro d hd j ρ T hj ⟨r, o2, rfl, h, t⟩
      obtain ⟨r', T', e, h', t'⟩ := wt_step (o2 := some (.d d)) hj h t
      exact ⟨_, T', e, r', _, rfl, h', t'⟩)
  rw [nl] at h2
  refine ⟨r, T2, ?_, t2, h2.gr (by decide)⟩
  rw [wt_eq]
  simp only [rhV] at f1
  simp [e1, r12, f1]
end G
namespace G
open PySem PySem.Spec PyProof.Rows L2 D
open K1 (has LET TXT single built manyF lsz isName isVal tdp deepF ldp)
variable {C : Addr}
noncomputable abbrev rhQ (s : PyData) (rs : List PyData) (o3 o4 o5 o6 : Option D.W) : Rho := [some (.d s), some (.tp 0), some (.d (.list rs)), o3, o4, o5, o6]
noncomputable def bdA (C : Addr) : FS := (fSeq (fSet 4 (fBin joinD (fC (.str (Str.ofString " "))) (fCall (m__law_words 25) (fCons (fVar 3) fNil)))) (fIf (fOrT (fNotT (fTru (fCall (m__law_alike 60) (fCons (fVar 4) (fCons (fCall m_show_recipe (fCons (fVar 3) fNil)) fNil))))) (fNotT (fTru (fCall (m__law_alike 60) (fCons (fVar 3) (fCons (fCall (m_read_recipe C) (fCons (fVar 4) fNil)) fNil)))))) (fRet (fC (.bool false))) fNext))
noncomputable def bdB : FS := (fIf (fTst (fBin neD (fBin eqD (fCall m_show_recipe (fCons (fVar 5) fNil)) (fCall m_show_recipe (fCons (fVar 6) fNil))) (fCall (m__law_alike 60) (fCons (fVar 5) (fCons (fVar 6) fNil))))) (fRet (fC (.bool false))) fNext)
theorem GR.bt {r : PyData} (h : GR C r) : built 46 r = true := by
  obtain ⟨n, c, ws, hn, h⟩ := h
  exact built_ge h.bt (by omega)
theorem stepA {s r : PyData} {rs : List PyData} {o4 o5 o6 : Option D.W} {t0 : List PyData} (h : GR C r) : ∃ o4', bdA C (rhQ s rs (some (.d r)) o4 o5 o6) [t0] = some ((.nx, rhQ s rs (some (.d r)) o4' o5 o6), [t0]) := by
  have bt := h.bt
  obtain ⟨n, c, ws, hn, h⟩ := h
  obtain ⟨l1, l2⟩ := L_text h hn [t0]
  have sh := L_show h hn [t0]
  have rd := L_read (t0 := t0) h hn
  have a1 := A_str 59 (Str.join BL ws) (Str.join BL ws) [t0]
  rw [sam_self] at a1
  have a2 := L_alike 46 60 r r [t0] bt bt (by decide)
  rw [sam_self] at a2
  exact ⟨some (.d (.str (Str.join BL ws))), by simp [bdA, rhQ, l1, l2, sh, rd, a1, a2]⟩
theorem stepB {s a b : PyData} {rs : List PyData} {o3 o4 : Option D.W} {t0 : List PyData} (ha : GR C a) (hb : GR C b) : bdB (rhQ s rs o3 o4 (some (.d a)) (some (.d b))) [t0] = some ((.nx, rhQ s rs o3 o4 (some (.d a)) (some (.d b))), [t0]) := by
  have b1 := ha.bt
  have b2 := hb.bt
  obtain ⟨n, c, ws, hn, ha⟩ := ha
  obtain ⟨n', c', ws', hn', hb⟩ := hb
  have s1 := L_show ha hn [t0]
  have s2 := L_show hb hn' [t0]
  have al := L_alike 46 60 a b [t0] b1 b2 (by decide)
  have key : sam a b = decide (Str.join BL ws = Str.join BL ws') := sam_eq ⟨fun e => by
    subst e
    rw [s1] at s2
    injection s2 with s2
    injection s2 with s2 _
    injection s2, fun e => by
    have r1 := L_read (t0 := t0) ha hn
    have r2 := L_read (t0 := t0) hb hn'
    rw [e, r2] at r1
    injection r1 with r1
    injection r1 with r1 _
    exact r1.symm⟩
  rw [key] at al
  by_cases e : Str.join BL ws = Str.join BL ws'
  · rw [decide_eq_true e] at al
    rw [← e] at s2
    simp [bdB, rhQ, s1, s2, al]
  · rw [decide_eq_false e] at al
    simp [bdB, rhQ, s1, s2, al, e]
theorem law_math (C : Addr) (ns : List Int) (h : ns.length ≤ 63) : ∃ ρ' T', m_law C (some (.d (script ns)) :: some (.tp 0) :: List.replicate (List.length [Str.ofString "_law_script", Str.ofString "_law_tape_here", Str.ofString "_law_recipes", Str.ofString "_law_recipe_here", Str.ofString "_law_text_here", Str.ofString "_law_one", Str.ofString "_law_other"] - 2) none) [[script ns, .int 0, .int 0]] = some ((.rt (.bool true), ρ'), T') := by
  have t0 : TapeOk [] [[script ns, .int 0, .int 0]] := ⟨ns, 0, 0, rfl, h, Int.le_refl 0, Int.le_refl 0⟩
  obtain ⟨g, T1, e1, t1, hg⟩ := L_great (C := C) t0
  have r5 : rngOk 5 = true := by decide
  have r3 : rngOk 3 = true := by decide
  have drawn : ∀ (room : Int) (ρ : Rho) (T : Tp), 1 ≤ room → room ≤ 60 → TapeOk [] T → ∃ r T', fCall (m__law_recipe 25) (fCons (fVar 2) (fCons (fC (.int 0)) (fCons (fC (.int room)) (fCons (fC (.int 20)) fNil)))) (some (.d (.int 0)) :: some (.d (script ns)) :: some (.tp 0) :: ρ) T = some (.d r, T') ∧ TapeOk [] T' ∧ GR C r := fun room ρ T h1 h2 t => by
    obtain ⟨r, T', e, t', x⟩ := Lq_recipe (C := C) 20 25 T room 0 t (by decide) (by decide) (by decide) (by decide) (by decide) h1 h2
    have e' : m__law_recipe 25 [.tp 0, .d (.int 0), .d (.int room), .d (.int 20)] T = some (r, T') := e
    exact ⟨r, T', by simp [e'], t', x.gr (by decide)⟩
  obtain ⟨ys, T2, e2, t2, l2, q2⟩ := compL_inv (P := TapeOk []) (Q := GR C) (ds := numsD 0 5) (e := fCall (m__law_recipe 25) (fCons (fVar 2) (fCons (fC (.int 0)) (fCons (fC (.int 60)) (fCons (fC (.int 20)) fNil))))) (ρ := [some (.d (script ns)), some (.tp 0), none, none, none, none, none]) (T := T1) t1 fun d hd T t => by
    obtain ⟨r, T', e, t', x⟩ := drawn 60 [none, none, none, none, none] T (by decide) (by decide) t
    exact ⟨r, T', e, t', x⟩
  obtain ⟨zs, T3, e3, t3, l3, q3⟩ := compL_inv (P := TapeOk []) (Q := GR C) (ds := numsD 0 3) (e := fCall (m__law_recipe 25) (fCons (fVar 2) (fCons (fC (.int 0)) (fCons (fC (.int 3)) (fCons (fC (.int 20)) fNil))))) (ρ := [some (.d (script ns)), some (.tp 0), some (.d (.list (g :: ys))), none, none, none, none]) (T := T2) t2 fun d hd T t => by
    obtain ⟨r, T', e, t', x⟩ := drawn 3 [some (.d (.list (g :: ys))), none, none, none, none] T (by decide) (by decide) t
    exact ⟨r, T', e, t', x⟩
  obtain ⟨w, T4, e4, t4, hw⟩ := L_wants (C := C) t3
  have n2 : ys.length = 5 := by rw [l2]; exact nums_len 5
  have n3 : zs.length = 3 := by rw [l3]; exact nums_len 3
  have all : ∀ r ∈ g :: ys ++ zs ++ [w], GR C r := fun r hr => by
    rcases List.mem_append.mp hr with hr | hr
    · rcases List.mem_append.mp hr with hr | hr
      · rcases List.mem_cons.mp hr with rfl | hr
        · exact hg
        · exact q2 r hr
      · exact q3 r hr
    · rw [List.mem_singleton.mp hr]; exact hw
  obtain ⟨row, rfl⟩ : ∃ row, T4 = [row] := by
    obtain ⟨ns, spot, rest, rfl, _⟩ := t4
    exact ⟨_, rfl⟩
  have z1 : 1 + ys.length ≤ sizeLine := sz_k (by omega)
  have z2 : ys.length + 1 + zs.length ≤ sizeLine := sz_k (by omega)
  have z3 : ys.length + 1 + zs.length + 1 ≤ sizeLine := sz_k (by omega)
  have z4 : ys.length + zs.length + 1 + 1 ≤ sizeLine := sz_k (by omega)
  have z5 : ys.length + (zs.length + 1) + 1 ≤ sizeLine := sz_k (by omega)
  obtain ⟨ρ5, T5, f5, p3, p4, rfl, rfl⟩ := for_inv (i := 3) (body := bdA C) (ds := g :: ys ++ zs ++ [w]) (P := fun ρ T => ∃ p3 p4, T = [row] ∧ ρ = rhQ (script ns) (g :: ys ++ zs ++ [w]) p3 p4 none none)
    (ρ := rhQ (script ns) (g :: ys ++ zs ++ [w]) none none none none) (T := [row]) ⟨none, none, rfl, rfl⟩ (by
      rintro d hd ρ T ⟨p3, p4, rfl, rfl⟩
      obtain ⟨o4, e⟩ := stepA (s := script ns) (rs := g :: ys ++ zs ++ [w]) (o4 := p4) (o5 := none) (o6 := none) (t0 := row) (all d hd)
      exact ⟨_, _, e, _, _, rfl, rfl⟩)
  obtain ⟨ρ6, T6, f6, p5, p6, rfl, rfl⟩ := for_inv (i := 5) (body := fFor 6 (fIter (fVar 2)) bdB) (ds := g :: ys ++ zs ++ [w]) (P := fun ρ T => ∃ p5 p6, T = [row] ∧ ρ = rhQ (script ns) (g :: ys ++ zs ++ [w]) p3 p4 p5 p6)
    (ρ := rhQ (script ns) (g :: ys ++ zs ++ [w]) p3 p4 none none) (T := [row]) ⟨none, none, rfl, rfl⟩ (by
      rintro d hd ρ T ⟨p5, p6, rfl, rfl⟩
      obtain ⟨ρ7, T7, f7, q6, rfl, rfl⟩ := for_inv (i := 6) (body := bdB) (ds := g :: ys ++ zs ++ [w]) (P := fun ρ T => ∃ q6, T = [row] ∧ ρ = rhQ (script ns) (g :: ys ++ zs ++ [w]) p3 p4 (some (.d d)) q6)
        (ρ := rhQ (script ns) (g :: ys ++ zs ++ [w]) p3 p4 (some (.d d)) p6) (T := [row]) ⟨p6, rfl, rfl⟩ (by
          rintro d' hd' ρ T ⟨q6, rfl, rfl⟩
          exact ⟨_, _, stepB (s := script ns) (o3 := p3) (o4 := p4) (t0 := row) (all d hd) (all d' hd'), _, rfl, rfl⟩)
      refine ⟨_, _, ?_, some (.d d), q6, rfl, rfl⟩
      show fFor 6 (fIter (fVar 2)) bdB (rhQ (script ns) (g :: ys ++ zs ++ [w]) p3 p4 (some (.d d)) p6) [row] = _
      generalize g :: ys ++ zs ++ [w] = rs at f7 ⊢
      simp only [rhQ] at f7
      simp [f7])
  refine ⟨rhQ (script ns) (g :: ys ++ zs ++ [w]) p3 p4 p5 p6, [row], ?_⟩
  have e0 : m_law C = (fSeq (fSet 2 (fBin addD (fSeqD .list (fCons (fCall m__law_great (fCons (fVar 1) fNil)) fNil)) (fComp (fRng1 (fC (.int 5))) fTrue (fCall (m__law_recipe 25) (fCons (fVar 2) (fCons (fC (.int 0)) (fCons (fC (.int 60)) (fCons (fC (.int 20)) fNil)))))))) (fSeq (fSet 2 (fBin addD (fBin addD (fVar 2) (fComp (fRng1 (fC (.int 3))) fTrue (fCall (m__law_recipe 25) (fCons (fVar 2) (fCons (fC (.int 0)) (fCons (fC (.int 3)) (fCons (fC (.int 20)) fNil))))))) (fSeqD .list (fCons (fCall m__law_wants (fCons (fVar 1) fNil)) fNil)))) (fSeq (fFor 3 (fIter (fVar 2)) (bdA C)) (fSeq (fFor 5 (fIter (fVar 2)) (fFor 6 (fIter (fVar 2)) bdB)) (fRet (fC (.bool true))))))) := rfl
  have st1 : fSet 2 (fBin addD (fSeqD .list (fCons (fCall m__law_great (fCons (fVar 1) fNil)) fNil)) (fComp (fRng1 (fC (.int 5))) fTrue (fCall (m__law_recipe 25) (fCons (fVar 2) (fCons (fC (.int 0)) (fCons (fC (.int 60)) (fCons (fC (.int 20)) fNil))))))) [some (.d (script ns)), some (.tp 0), none, none, none, none, none] [[script ns, .int 0, .int 0]] = some ((.nx, [some (.d (script ns)), some (.tp 0), some (.d (.list (g :: ys))), none, none, none, none]), T2) := by
    simp [e1, r5, e2, z1]
  have st2 : fSet 2 (fBin addD (fBin addD (fVar 2) (fComp (fRng1 (fC (.int 3))) fTrue (fCall (m__law_recipe 25) (fCons (fVar 2) (fCons (fC (.int 0)) (fCons (fC (.int 3)) (fCons (fC (.int 20)) fNil))))))) (fSeqD .list (fCons (fCall m__law_wants (fCons (fVar 1) fNil)) fNil))) [some (.d (script ns)), some (.tp 0), some (.d (.list (g :: ys))), none, none, none, none] T2 = some ((.nx, rhQ (script ns) (g :: ys ++ zs ++ [w]) none none none none), [row]) := by
    simp [r3, e3, e4, z1, z2, z3, z4, z5]
  rw [e0]
  show fSeq _ _ [some (.d (script ns)), some (.tp 0), none, none, none, none, none] [[script ns, .int 0, .int 0]] = _
  rw [ev_seq, st1, ev_bnd, ev_seqN, ev_seq, st2, ev_bnd, ev_seqN]
  generalize g :: ys ++ zs ++ [w] = rs at f5 f6 ⊢
  simp only [rhQ] at f5 f6
  simp [rhQ, f5, f6]
end G
namespace G
open PySem PySem.Spec PyProof.Rows L2 D
noncomputable def top (i : Nat) : Stmt := PySem.Challenge.pw_redo_k09_recipes_written.main.body.getD i (.Pass ⟨0, 0, 0, 0⟩)
noncomputable def mtop (i j : Nat) : Stmt := match top i with
  | .ClassDef _ _ _ b _ _ _ _ _ _ _ => b.getD j (.Pass ⟨0, 0, 0, 0⟩)
  | s => s
structure Bi (K : PySem.W.Frag) (mg : Str → Option Value) (C : Addr) : Prop where
  k_Words : Cls K C
  m_Words : mg (Str.ofString "Words") = some (.ref C)
  n_Words_begun : NoAttr K C (Str.ofString "begun")
  n_Words_parted : NoAttr K C (Str.ofString "parted")
  n_Words_place : NoAttr K C (Str.ofString "place")
  b_abs : mg (Str.ofString "abs") = none
  b_all : mg (Str.ofString "all") = none
  b_bool : mg (Str.ofString "bool") = none
  b_int : mg (Str.ofString "int") = none
  b_isinstance : mg (Str.ofString "isinstance") = none
  b_len : mg (Str.ofString "len") = none
  b_list : mg (Str.ofString "list") = none
  b_min : mg (Str.ofString "min") = none
  b_range : mg (Str.ofString "range") = none
  b_str : mg (Str.ofString "str") = none
  b_sum : mg (Str.ofString "sum") = none
  b_tuple : mg (Str.ofString "tuple") = none
  t_RECIPES_WITHIN : TabK K mg (Str.ofString "RECIPES_WITHIN") [((Str.ofString "say"), 0), ((Str.ofString "fail"), 0), ((Str.ofString "want"), 1), ((Str.ofString "peek"), 1), ((Str.ofString "when"), 2)]
  t_WITHIN : TabK K mg (Str.ofString "WITHIN") [((Str.ofString "many"), 1), ((Str.ofString "part"), 2), ((Str.ofString "sum"), 2), ((Str.ofString "join"), 2), ((Str.ofString "same"), 2), ((Str.ofString "less"), 2)]
  g_FILLED : TupK K mg (Str.ofString "FILLED") [(Str.ofString "put"), (Str.ofString "got"), (Str.ofString "row")]
  g_GETTING : TupK K mg (Str.ofString "GETTING") [(Str.ofString "want"), (Str.ofString "peek")]
  c_FIGURES : ∃ t, mg (Str.ofString "FIGURES") = some (.str (Str.ofString "0123456789") t)
  c_LETTERS : ∃ t, mg (Str.ofString "LETTERS") = some (.str (Str.ofString "abcdefghijklmnopqrstuvwxyz") t)
  c_MOST_DEEP : ∃ t, mg (Str.ofString "MOST_DEEP") = some (.int 20 t)
  c_MOST_FIGURES : ∃ t, mg (Str.ofString "MOST_FIGURES") = some (.int 19 t)
  c_MOST_IN_ROW : ∃ t, mg (Str.ofString "MOST_IN_ROW") = some (.int 8 t)
  c_MOST_LETTERS : ∃ t, mg (Str.ofString "MOST_LETTERS") = some (.int 8 t)
  c_MOST_PARTS : ∃ t, mg (Str.ofString "MOST_PARTS") = some (.int 8 t)
  c_MOST_PARTS_IN_ALL : ∃ t, mg (Str.ofString "MOST_PARTS_IN_ALL") = some (.int 60 t)
  c_MOST_ROWS : ∃ t, mg (Str.ofString "MOST_ROWS") = some (.int 4 t)
  c_MOST_SIGNS : ∃ t, mg (Str.ofString "MOST_SIGNS") = some (.int 20 t)
  c_MOST_VALUES : ∃ t, mg (Str.ofString "MOST_VALUES") = some (.int 40 t)
  c_MOST_WANTS : ∃ t, mg (Str.ofString "MOST_WANTS") = some (.int 12 t)
  c_TEXT_SIGNS : ∃ t, mg (Str.ofString "TEXT_SIGNS") = some (.str (Str.ofString "abcdefghijklmnopqrstuvwxyz0123456789-") t)
variable {P : Program} {w : World} {K : PySem.W.Frag} {mg : Str → Option Value} {base : Heap} {f : Addr} {fd : FuncData}
theorem rm {j k : Nat} {A : Around} (r : Room k A) (h : j ≤ k := by omega) : Room j A := r.mono h
theorem sc_Words____init__ : FnScope [Str.ofString "self", Str.ofString "text"] [Str.ofString "self", Str.ofString "text"] (defScope (mtop 46 0)) := ⟨rfl, rfl, rfl, by decide +kernel, rfl, by decide +kernel, by decide +kernel⟩
theorem ok_Words____init__ {C : Addr} (B : Bi K mg C) (F : Fun K (Str.ofString "__init__") (Str.ofString "Words.__init__") (mtop 46 0) f fd)  : FnOk P w K mg base CX0 1 f fd [Str.ofString "self", Str.ofString "text"] (spM K (List.length [Str.ofString "self", Str.ofString "text"]) (m_Words____init__ C)) :=
  dfn F sc_Words____init__ fun _ _ _ _ _ _ hr => (dss_cons (ds_fld B.k_Words B.n_Words_parted (de_var 0) (de_split (de_var 1) de_str)) (dss_cons (ds_fld B.k_Words B.n_Words_place (de_var 0) de_int) (dss_one (ds_fld B.k_Words B.n_Words_begun (de_var 0) de_int))))
theorem sc_Words__ahead : FnScope [Str.ofString "self"] [Str.ofString "self"] (defScope (mtop 46 1)) := ⟨rfl, rfl, rfl, by decide +kernel, rfl, by decide +kernel, by decide +kernel⟩
theorem ok_Words__ahead {C : Addr} (B : Bi K mg C) (F : Fun K (Str.ofString "ahead") (Str.ofString "Words.ahead") (mtop 46 1) f fd)  : FnOk P w K mg base CX0 1 f fd [Str.ofString "self"] (spM K (List.length [Str.ofString "self"]) (m_Words__ahead C)) :=
  dfn F sc_Words__ahead fun _ _ _ _ _ _ hr => (dss_one (ds_ret (de_if (dt_cmp o_lt (de_fld B.k_Words B.n_Words_place (de_var 0)) (de_callB c_len rfl B.b_len boot_len (da_cons (de_fld B.k_Words B.n_Words_parted (de_var 0)) da_nil))) (de_ix x_seq (de_fld B.k_Words B.n_Words_parted (de_var 0)) (de_fld B.k_Words B.n_Words_place (de_var 0))) de_str)))
theorem sc_Words__take : FnScope [Str.ofString "self", Str.ofString "fits"] [Str.ofString "self", Str.ofString "fits"] (defScope (mtop 46 2)) := ⟨rfl, rfl, rfl, by decide +kernel, rfl, by decide +kernel, by decide +kernel⟩
theorem ok_Words__take {C : Addr} (B : Bi K mg C) (F : Fun K (Str.ofString "take") (Str.ofString "Words.take") (mtop 46 2) f fd)  : FnOk P w K mg base CX0 1 f fd [Str.ofString "self", Str.ofString "fits"] (spM K (List.length [Str.ofString "self", Str.ofString "fits"]) (m_Words__take C)) :=
  dfn F sc_Words__take fun _ _ _ _ _ _ hr => (dss_cons (ds_if (dt_not (dt_tru (de_var 1))) (dss_one ds_none) dss_nil) (dss_one (ds_fld B.k_Words B.n_Words_place (de_var 0) (de_bin o_add (de_fld B.k_Words B.n_Words_place (de_var 0)) de_int))))
theorem sc_Words__begin : FnScope [Str.ofString "self", Str.ofString "fits", Str.ofString "above"] [Str.ofString "self", Str.ofString "fits", Str.ofString "above"] (defScope (mtop 46 3)) := ⟨rfl, rfl, rfl, by decide +kernel, rfl, by decide +kernel, by decide +kernel⟩
theorem ok_Words__begin {C : Addr} (B : Bi K mg C) (F : Fun K (Str.ofString "begin") (Str.ofString "Words.begin") (mtop 46 3) f fd) (G_Words__take : Mth P w K mg base C (Str.ofString "take") [Str.ofString "self", Str.ofString "fits"] 1 (spM K (List.length [Str.ofString "self", Str.ofString "fits"]) (m_Words__take C))) : FnOk P w K mg base CX0 2 f fd [Str.ofString "self", Str.ofString "fits", Str.ofString "above"] (spM K (List.length [Str.ofString "self", Str.ofString "fits", Str.ofString "above"]) (m_Words__begin C)) :=
  dfn F sc_Words__begin fun _ _ _ _ _ _ hr => (dss_cons (ds_drop (de_meth G_Words__take B.k_Words (rm hr) (de_var 0) (da_cons (de_and (de_var 1) (de_and (de_cmp o_lt (de_var 2) (de_globI rfl B.c_MOST_DEEP)) (de_one (de_cmp o_lt (de_fld B.k_Words B.n_Words_begun (de_var 0)) (de_globI rfl B.c_MOST_PARTS_IN_ALL))))) da_nil) (len_cons len_nil))) (dss_one (ds_fld B.k_Words B.n_Words_begun (de_var 0) (de_bin o_add (de_fld B.k_Words B.n_Words_begun (de_var 0)) de_int))))
theorem sc_Words__finish : FnScope [Str.ofString "self"] [Str.ofString "self"] (defScope (mtop 46 4)) := ⟨rfl, rfl, rfl, by decide +kernel, rfl, by decide +kernel, by decide +kernel⟩
theorem ok_Words__finish {C : Addr} (B : Bi K mg C) (F : Fun K (Str.ofString "finish") (Str.ofString "Words.finish") (mtop 46 4) f fd)  : FnOk P w K mg base CX0 1 f fd [Str.ofString "self"] (spM K (List.length [Str.ofString "self"]) (m_Words__finish C)) :=
  dfn F sc_Words__finish fun _ _ _ _ _ _ hr => (dss_one (ds_if (dt_cmp o_lt (de_fld B.k_Words B.n_Words_place (de_var 0)) (de_callB c_len rfl B.b_len boot_len (da_cons (de_fld B.k_Words B.n_Words_parted (de_var 0)) da_nil))) (dss_one ds_none) dss_nil))
theorem sc_is_whole : FnScope [Str.ofString "thing"] [Str.ofString "thing"] (defScope (top 11)) := ⟨rfl, rfl, rfl, by decide +kernel, rfl, by decide +kernel, by decide +kernel⟩
theorem ok_is_whole {C : Addr} (B : Bi K mg C) (F : Fun K (Str.ofString "is_whole") (Str.ofString "is_whole") (top 11) f fd)  : FnOk P w K mg base CX0 1 f fd [Str.ofString "thing"] (spM K (List.length [Str.ofString "thing"]) (m_is_whole)) :=
  dfn F sc_is_whole fun _ _ _ _ _ _ hr => (dss_one (ds_ret (de_and (de_isi .int B.b_isinstance (de_var 0) B.b_int boot_int) (de_one (de_not (de_isi .bl B.b_isinstance (de_var 0) B.b_bool boot_bool))))))
theorem sc_has_only : FnScope [Str.ofString "text", Str.ofString "signs"] [Str.ofString "text", Str.ofString "signs"] (defScope (top 12)) := ⟨rfl, rfl, rfl, by decide +kernel, rfl, by decide +kernel, by decide +kernel⟩
theorem ok_has_only {C : Addr} (B : Bi K mg C) (F : Fun K (Str.ofString "has_only") (Str.ofString "has_only") (top 12) f fd)  : FnOk P w K mg base CX0 1 f fd [Str.ofString "text", Str.ofString "signs"] (spM K (List.length [Str.ofString "text", Str.ofString "signs"]) (m_has_only)) :=
  dfn F sc_has_only fun _ _ _ _ _ _ hr => (dss_one (ds_ret (de_callB c_all rfl B.b_all boot_all (da_cons (de_comp (osc := defScope (top 12)) (N := [Str.ofString "text", Str.ofString "signs"]) (N' := [Str.ofString "text", Str.ofString "signs"]) (x := (Str.ofString "sign")) ⟨rfl, by decide +kernel, by decide +kernel, rfl, by decide +kernel, by decide +kernel, by decide +kernel, by decide +kernel, rfl, by decide +kernel⟩ (di_iter (de_var 0)) (fun C s0 H0 ex => (de_cmp o_in (de_var 0) (de_var 2))) (fun C s0 H0 ex => dts_nil)) da_nil))))
theorem sc_is_name : FnScope [Str.ofString "thing"] [Str.ofString "thing"] (defScope (top 13)) := ⟨rfl, rfl, rfl, by decide +kernel, rfl, by decide +kernel, by decide +kernel⟩
theorem ok_is_name {C : Addr} (B : Bi K mg C) (F : Fun K (Str.ofString "is_name") (Str.ofString "is_name") (top 13) f fd) (G_has_only : Fn P w K mg base (Str.ofString "has_only") [Str.ofString "text", Str.ofString "signs"] 1 (spM K (List.length [Str.ofString "text", Str.ofString "signs"]) m_has_only)) : FnOk P w K mg base CX0 2 f fd [Str.ofString "thing"] (spM K (List.length [Str.ofString "thing"]) (m_is_name)) :=
  dfn F sc_is_name fun _ _ _ _ _ _ hr => (dss_one (ds_ret (de_and (de_isi .str B.b_isinstance (de_var 0) B.b_str boot_str) (de_and (de_chain o_le o_le de_int (de_callB c_len rfl B.b_len boot_len (da_cons (de_var 0) da_nil)) (de_globI rfl B.c_MOST_LETTERS)) (de_one (de_call G_has_only (rm hr) rfl (da_cons (de_var 0) (da_cons (de_globS rfl B.c_LETTERS) da_nil)) (len_cons (len_cons len_nil))))))))
theorem sc_is_single : FnScope [Str.ofString "thing"] [Str.ofString "thing"] (defScope (top 14)) := ⟨rfl, rfl, rfl, by decide +kernel, rfl, by decide +kernel, by decide +kernel⟩
theorem ok_is_single {C : Addr} (B : Bi K mg C) (F : Fun K (Str.ofString "is_single") (Str.ofString "is_single") (top 14) f fd) (G_is_whole : Fn P w K mg base (Str.ofString "is_whole") [Str.ofString "thing"] 1 (spM K (List.length [Str.ofString "thing"]) m_is_whole)) (G_has_only : Fn P w K mg base (Str.ofString "has_only") [Str.ofString "text", Str.ofString "signs"] 1 (spM K (List.length [Str.ofString "text", Str.ofString "signs"]) m_has_only)) : FnOk P w K mg base CX0 2 f fd [Str.ofString "thing"] (spM K (List.length [Str.ofString "thing"]) (m_is_single)) :=
  dfn F sc_is_single fun _ _ _ _ _ _ hr => (dss_cons (ds_if (dt_tru (de_call G_is_whole (rm hr) rfl (da_cons (de_var 0) da_nil) (len_cons len_nil))) (dss_one (ds_ret (de_cmp o_le (de_callB c_abs rfl B.b_abs boot_abs (da_cons (de_var 0) da_nil)) (de_bin o_pow de_int de_int)))) dss_nil) (dss_one (ds_ret (de_and (de_isi .str B.b_isinstance (de_var 0) B.b_str boot_str) (de_and (de_cmp o_le (de_callB c_len rfl B.b_len boot_len (da_cons (de_var 0) da_nil)) (de_globI rfl B.c_MOST_SIGNS)) (de_one (de_call G_has_only (rm hr) rfl (da_cons (de_var 0) (da_cons (de_globS rfl B.c_TEXT_SIGNS) da_nil)) (len_cons (len_cons len_nil)))))))))
theorem sc_is_built : FnScope [Str.ofString "thing", Str.ofString "rows_left"] [Str.ofString "thing", Str.ofString "rows_left"] (defScope (top 15)) := ⟨rfl, rfl, rfl, by decide +kernel, rfl, by decide +kernel, by decide +kernel⟩
theorem ok_is_built {C : Addr} (n : Nat) (B : Bi K mg C) (F : Fun K (Str.ofString "is_built") (Str.ofString "is_built") (top 15) f fd) (G_is_single : Fn P w K mg base (Str.ofString "is_single") [Str.ofString "thing"] 2 (spM K (List.length [Str.ofString "thing"]) m_is_single)) (G_is_built : Fn P w K mg base (Str.ofString "is_built") [Str.ofString "thing", Str.ofString "rows_left"] (2 + n) (spM K (List.length [Str.ofString "thing", Str.ofString "rows_left"]) (m_is_built n))) : FnOk P w K mg base CX0 (2 + n + 1) f fd [Str.ofString "thing", Str.ofString "rows_left"] (spM K (List.length [Str.ofString "thing", Str.ofString "rows_left"]) (m_is_built (n + 1))) :=
  dfn F sc_is_built fun _ _ _ _ _ _ hr => (dss_cons (ds_if (dt_not (dt_tru (de_isi .tup B.b_isinstance (de_var 0) B.b_tuple boot_tuple))) (dss_one (ds_ret (de_call G_is_single (rm hr) rfl (da_cons (de_var 0) da_nil) (len_cons len_nil)))) dss_nil) (dss_cons (ds_if (dw_pt (dw_or (dt_cmp o_eq (de_var 1) de_int) (dw_or1 (dt_cmp o_gt (de_callB c_len rfl B.b_len boot_len (da_cons (de_var 0) da_nil)) (de_globI rfl B.c_MOST_PARTS))))) (dss_one (ds_ret de_bl)) dss_nil) (dss_one (ds_ret (de_callB c_all rfl B.b_all boot_all (da_cons (de_comp (osc := defScope (top 15)) (N := [Str.ofString "thing", Str.ofString "rows_left"]) (N' := [Str.ofString "thing", Str.ofString "rows_left"]) (x := (Str.ofString "part")) ⟨rfl, by decide +kernel, by decide +kernel, rfl, by decide +kernel, by decide +kernel, by decide +kernel, by decide +kernel, rfl, by decide +kernel⟩ (di_iter (de_var 0)) (fun C s0 H0 ex => (de_call G_is_built (rm hr) rfl (da_cons (de_var 0) (da_cons (de_bin o_sub (de_var 2) de_int) da_nil)) (len_cons (len_cons len_nil)))) (fun C s0 H0 ex => dts_nil)) da_nil))))))
theorem sc_many_of : FnScope [Str.ofString "value"] [Str.ofString "value"] (defScope (top 17)) := ⟨rfl, rfl, rfl, by decide +kernel, rfl, by decide +kernel, by decide +kernel⟩
theorem ok_many_of {C : Addr} (n : Nat) (B : Bi K mg C) (F : Fun K (Str.ofString "many_of") (Str.ofString "many_of") (top 17) f fd) (G_many_of : Fn P w K mg base (Str.ofString "many_of") [Str.ofString "value"] (0 + n) (spM K (List.length [Str.ofString "value"]) (m_many_of n))) : FnOk P w K mg base CX0 (0 + n + 1) f fd [Str.ofString "value"] (spM K (List.length [Str.ofString "value"]) (m_many_of (n + 1))) :=
  dfn F sc_many_of fun _ _ _ _ _ _ hr => (dss_cons (ds_if (dt_not (dt_tru (de_isi .tup B.b_isinstance (de_var 0) B.b_tuple boot_tuple))) (dss_one (ds_ret de_int)) dss_nil) (dss_one (ds_ret (de_bin o_add de_int (de_callB c_sum rfl B.b_sum boot_sum (da_cons (de_comp (osc := defScope (top 17)) (N := [Str.ofString "value"]) (N' := [Str.ofString "value"]) (x := (Str.ofString "part")) ⟨rfl, by decide +kernel, by decide +kernel, rfl, by decide +kernel, by decide +kernel, by decide +kernel, by decide +kernel, rfl, by decide +kernel⟩ (di_iter (de_var 0)) (fun C s0 H0 ex => (de_call G_many_of (rm hr) rfl (da_cons (de_var 0) da_nil) (len_cons len_nil))) (fun C s0 H0 ex => dts_nil)) da_nil))))))
theorem sc_is_value : FnScope [Str.ofString "thing"] [Str.ofString "thing"] (defScope (top 16)) := ⟨rfl, rfl, rfl, by decide +kernel, rfl, by decide +kernel, by decide +kernel⟩
theorem ok_is_value {C : Addr} (B : Bi K mg C) (F : Fun K (Str.ofString "is_value") (Str.ofString "is_value") (top 16) f fd) (G_is_built : Fn P w K mg base (Str.ofString "is_built") [Str.ofString "thing", Str.ofString "rows_left"] 27 (spM K (List.length [Str.ofString "thing", Str.ofString "rows_left"]) (m_is_built 25))) (G_many_of : Fn P w K mg base (Str.ofString "many_of") [Str.ofString "value"] 25 (spM K (List.length [Str.ofString "value"]) (m_many_of 25))) : FnOk P w K mg base CX0 28 f fd [Str.ofString "thing"] (spM K (List.length [Str.ofString "thing"]) (m_is_value)) :=
  dfn F sc_is_value fun _ _ _ _ _ _ hr => (dss_one (ds_ret (de_and (de_call G_is_built (rm hr) rfl (da_cons (de_var 0) (da_cons (de_globI rfl B.c_MOST_ROWS) da_nil)) (len_cons (len_cons len_nil))) (de_one (de_cmp o_le (de_call G_many_of (rm hr) rfl (da_cons (de_var 0) da_nil) (len_cons len_nil)) (de_globI rfl B.c_MOST_VALUES))))))
theorem sc_exprs_within : FnScope [Str.ofString "expr"] [Str.ofString "expr"] (defScope (top 21)) := ⟨rfl, rfl, rfl, by decide +kernel, rfl, by decide +kernel, by decide +kernel⟩
theorem ok_exprs_within {C : Addr} (B : Bi K mg C) (F : Fun K (Str.ofString "exprs_within") (Str.ofString "exprs_within") (top 21) f fd)  : FnOk P w K mg base CX0 1 f fd [Str.ofString "expr"] (spM K (List.length [Str.ofString "expr"]) (m_exprs_within)) :=
  dfn F sc_exprs_within fun _ _ _ _ _ _ hr => (dss_cons (ds_if (dw_pt (dw_or (dt_cmp o_eq (de_ix x_seq (de_var 0) de_int) de_str) (dw_or1 (dt_cmp o_eq (de_ix x_seq (de_var 0) de_int) de_str)))) (dss_one (ds_ret (de_lst da_nil))) dss_nil) (dss_cons (ds_if (dt_cmp o_eq (de_ix x_seq (de_var 0) de_int) de_str) (dss_one (ds_ret (de_callTy c_list rfl B.b_list boot_list (da_cons (de_ix x_seq (de_var 0) de_int) da_nil)))) dss_nil) (dss_one (ds_ret (de_callTy c_list rfl B.b_list boot_list (da_cons (de_sl (de_var 0) (dp_some de_int) dp_none) da_nil))))))
theorem sc_got_behind : FnScope [Str.ofString "word", Str.ofString "got"] [Str.ofString "word", Str.ofString "got"] (defScope (top 28)) := ⟨rfl, rfl, rfl, by decide +kernel, rfl, by decide +kernel, by decide +kernel⟩
theorem ok_got_behind {C : Addr} (B : Bi K mg C) (F : Fun K (Str.ofString "got_behind") (Str.ofString "got_behind") (top 28) f fd)  : FnOk P w K mg base CX0 1 f fd [Str.ofString "word", Str.ofString "got"] (spM K (List.length [Str.ofString "word", Str.ofString "got"]) (m_got_behind)) :=
  dfn F sc_got_behind fun _ _ _ _ _ _ hr => (dss_one (ds_ret (de_if (dt_cmp o_in (de_var 0) (de_globU (ss := [(Str.ofString "want"), (Str.ofString "peek")]) rfl B.g_GETTING)) (de_bin o_add (de_var 1) de_int) (de_var 1))))
theorem sc_stamp_of : FnScope [Str.ofString "value"] [Str.ofString "value"] (defScope (top 32)) := ⟨rfl, rfl, rfl, by decide +kernel, rfl, by decide +kernel, by decide +kernel⟩
theorem ok_stamp_of {C : Addr} (n : Nat) (B : Bi K mg C) (F : Fun K (Str.ofString "stamp_of") (Str.ofString "stamp_of") (top 32) f fd) (G_is_whole : Fn P w K mg base (Str.ofString "is_whole") [Str.ofString "thing"] 1 (spM K (List.length [Str.ofString "thing"]) m_is_whole)) (G_stamp_of : Fn P w K mg base (Str.ofString "stamp_of") [Str.ofString "value"] (1 + n) (spM K (List.length [Str.ofString "value"]) (m_stamp_of n))) : FnOk P w K mg base CX0 (1 + n + 1) f fd [Str.ofString "value"] (spM K (List.length [Str.ofString "value"]) (m_stamp_of (n + 1))) :=
  dfn F sc_stamp_of fun _ _ _ _ _ _ hr => (dss_cons (ds_if (dt_tru (de_call G_is_whole (rm hr) rfl (da_cons (de_var 0) da_nil) (len_cons len_nil))) (dss_one (ds_ret (de_callTy c_str rfl B.b_str boot_str (da_cons (de_var 0) da_nil)))) dss_nil) (dss_cons (ds_if (dt_tru (de_isi .str B.b_isinstance (de_var 0) B.b_str boot_str)) (dss_one (ds_ret (de_bin o_add de_str (de_var 0)))) dss_nil) (dss_one (ds_ret (de_bin o_add (de_bin o_add de_str (de_join de_str (de_comp (osc := defScope (top 32)) (N := [Str.ofString "value"]) (N' := [Str.ofString "value"]) (x := (Str.ofString "part")) ⟨rfl, by decide +kernel, by decide +kernel, rfl, by decide +kernel, by decide +kernel, by decide +kernel, by decide +kernel, rfl, by decide +kernel⟩ (di_iter (de_var 0)) (fun C s0 H0 ex => (de_call G_stamp_of (rm hr) rfl (da_cons (de_var 0) da_nil) (len_cons len_nil))) (fun C s0 H0 ex => dts_nil)))) de_str)))))
theorem sc_is_figures : FnScope [Str.ofString "text"] [Str.ofString "text"] (defScope (top 39)) := ⟨rfl, rfl, rfl, by decide +kernel, rfl, by decide +kernel, by decide +kernel⟩
theorem ok_is_figures {C : Addr} (B : Bi K mg C) (F : Fun K (Str.ofString "is_figures") (Str.ofString "is_figures") (top 39) f fd) (G_has_only : Fn P w K mg base (Str.ofString "has_only") [Str.ofString "text", Str.ofString "signs"] 1 (spM K (List.length [Str.ofString "text", Str.ofString "signs"]) m_has_only)) : FnOk P w K mg base CX0 2 f fd [Str.ofString "text"] (spM K (List.length [Str.ofString "text"]) (m_is_figures)) :=
  dfn F sc_is_figures fun _ _ _ _ _ _ hr => (dss_cons (ds_if (dw_pt (dw_or (dt_cmp o_eq (de_var 0) de_str) (dw_or1 (dt_not (dt_tru (de_call G_has_only (rm hr) rfl (da_cons (de_var 0) (da_cons (de_globS rfl B.c_FIGURES) da_nil)) (len_cons (len_cons len_nil)))))))) (dss_one (ds_ret de_bl)) dss_nil) (dss_one (ds_ret (de_or (de_cmp o_eq (de_var 0) de_str) (de_one (de_not (de_starts (de_var 0) de_str)))))))
theorem sc_number_by : FnScope [Str.ofString "word", Str.ofString "figures"] [Str.ofString "word"] (defScope (top 38)) := ⟨rfl, rfl, rfl, by decide +kernel, rfl, by decide +kernel, by decide +kernel⟩
theorem ok_number_by {C : Addr} (B : Bi K mg C) (F : Fun K (Str.ofString "number_by") (Str.ofString "number_by") (top 38) f fd) (G_is_figures : Fn P w K mg base (Str.ofString "is_figures") [Str.ofString "text"] 2 (spM K (List.length [Str.ofString "text"]) m_is_figures)) : FnOk P w K mg base CX0 3 f fd [Str.ofString "word"] (spM K (List.length [Str.ofString "word"]) (m_number_by)) :=
  dfn F sc_number_by fun _ _ _ _ _ _ hr => (dss_cons (ds_set (i := 1) sc_number_by.nd (de_if (dt_tru (de_starts (de_var 0) de_str)) (de_sl (de_var 0) (dp_some de_int) dp_none) (de_var 0))) (dss_cons (ds_if (dw_pt (dw_or (dt_cmp o_eq (de_var 0) de_str) (dw_or (dt_cmp o_gt (de_callB c_len rfl B.b_len boot_len (da_cons (de_var 1) da_nil)) (de_globI rfl B.c_MOST_FIGURES)) (dw_or1 (dt_not (dt_tru (de_call G_is_figures (rm hr) rfl (da_cons (de_var 1) da_nil) (len_cons len_nil)))))))) (dss_one (ds_ret de_non)) dss_nil) (dss_one (ds_ret (de_callTy c_int rfl B.b_int boot_int (da_cons (de_var 0) da_nil))))))
theorem sc_single_by : FnScope [Str.ofString "word"] [Str.ofString "word"] (defScope (top 37)) := ⟨rfl, rfl, rfl, by decide +kernel, rfl, by decide +kernel, by decide +kernel⟩
theorem ok_single_by {C : Addr} (B : Bi K mg C) (F : Fun K (Str.ofString "single_by") (Str.ofString "single_by") (top 37) f fd) (G_number_by : Fn P w K mg base (Str.ofString "number_by") [Str.ofString "word"] 3 (spM K (List.length [Str.ofString "word"]) m_number_by)) : FnOk P w K mg base CX0 4 f fd [Str.ofString "word"] (spM K (List.length [Str.ofString "word"]) (m_single_by)) :=
  dfn F sc_single_by fun _ _ _ _ _ _ hr => (dss_cons (ds_if (dt_tru (de_starts (de_var 0) de_str)) (dss_one (ds_ret (de_sl (de_var 0) (dp_some de_int) dp_none))) dss_nil) (dss_one (ds_ret (de_call G_number_by (rm hr) rfl (da_cons (de_var 0) da_nil) (len_cons len_nil)))))
theorem sc_single_at : FnScope [Str.ofString "text", Str.ofString "at", Str.ofString "behind", Str.ofString "single"] [Str.ofString "text", Str.ofString "at"] (defScope (top 36)) := ⟨rfl, rfl, rfl, by decide +kernel, rfl, by decide +kernel, by decide +kernel⟩
theorem ok_single_at {C : Addr} (B : Bi K mg C) (F : Fun K (Str.ofString "single_at") (Str.ofString "single_at") (top 36) f fd) (G_single_by : Fn P w K mg base (Str.ofString "single_by") [Str.ofString "word"] 4 (spM K (List.length [Str.ofString "word"]) m_single_by)) : FnOk P w K mg base CX0 5 f fd [Str.ofString "text", Str.ofString "at"] (spM K (List.length [Str.ofString "text", Str.ofString "at"]) (m_single_at)) :=
  dfn F sc_single_at fun _ _ _ _ _ _ hr => (dss_cons (ds_set (i := 2) sc_single_at.nd (de_var 1)) (dss_cons (ds_while 100000 (dw_pt (dw_and (dt_cmp o_lt (de_var 2) (de_callB c_len rfl B.b_len boot_len (da_cons (de_var 0) da_nil))) (dw_and1 (dt_cmp o_notin (de_ix x_seq (de_var 0) (de_var 2)) de_str)))) (dss_one (ds_set (i := 2) sc_single_at.nd (de_bin o_add (de_var 2) de_int)))) (dss_cons (ds_set (i := 3) sc_single_at.nd (de_call G_single_by (rm hr) rfl (da_cons (de_sl (de_var 0) (dp_some (de_var 1)) (dp_some (de_var 2))) da_nil) (len_cons len_nil))) (dss_one (ds_ret (de_if (dt_cmp o_is (de_var 3) de_non) de_non (de_tup (da_cons (de_var 3) (da_cons (de_var 2) da_nil)))))))))
theorem sc_row_at : FnScope [Str.ofString "text", Str.ofString "at", Str.ofString "rows_left", Str.ofString "parts", Str.ofString "found", Str.ofString "sign"] [Str.ofString "text", Str.ofString "at", Str.ofString "rows_left"] (defScope (top 35)) := ⟨rfl, rfl, rfl, by decide +kernel, rfl, by decide +kernel, by decide +kernel⟩
theorem sc_value_at : FnScope [Str.ofString "text", Str.ofString "at", Str.ofString "rows_left"] [Str.ofString "text", Str.ofString "at", Str.ofString "rows_left"] (defScope (top 34)) := ⟨rfl, rfl, rfl, by decide +kernel, rfl, by decide +kernel, by decide +kernel⟩
theorem ok_row_at {C : Addr} (n : Nat) (B : Bi K mg C) (F : Fun K (Str.ofString "row_at") (Str.ofString "row_at") (top 35) f fd) (G_value_at : Fn P w K mg base (Str.ofString "value_at") [Str.ofString "text", Str.ofString "at", Str.ofString "rows_left"] (5 + n) (spM K (List.length [Str.ofString "text", Str.ofString "at", Str.ofString "rows_left"]) (m_value_at n))) : FnOk P w K mg base CX0 (5 + n + 1) f fd [Str.ofString "text", Str.ofString "at", Str.ofString "rows_left"] (spM K (List.length [Str.ofString "text", Str.ofString "at", Str.ofString "rows_left"]) (m_row_at (n + 1))) :=
  dfn F sc_row_at fun _ _ _ _ _ _ hr => (dss_cons (ds_if (dt_cmp o_eq (de_sl (de_var 0) (dp_some (de_var 1)) (dp_some (de_bin o_add (de_var 1) de_int))) de_str) (dss_one (ds_ret (de_tup (da_cons (de_tup da_nil) (da_cons (de_bin o_add (de_var 1) de_int) da_nil))))) dss_nil) (dss_cons (ds_setL (i := 3) sc_row_at.nd da_nil) (dss_one (ds_while 100000 (dt_tru de_bl) (dss_cons (ds_set (i := 4) sc_row_at.nd (de_call G_value_at (rm hr) rfl (da_cons (de_var 0) (da_cons (de_var 1) (da_cons (de_var 2) da_nil))) (len_cons (len_cons (len_cons len_nil))))) (dss_cons (ds_if (dt_cmp o_is (de_var 4) de_non) (dss_one (ds_ret de_non)) dss_nil) (dss_cons (ds_app (i := 3) (by exact (de_ix x_seq (de_var 4) de_int))) (dss_cons (ds_set (i := 1) sc_row_at.nd (de_bin o_add (de_ix x_seq (de_var 4) de_int) de_int)) (dss_cons (ds_set (i := 5) sc_row_at.nd (de_sl (de_var 0) (dp_some (de_ix x_seq (de_var 4) de_int)) (dp_some (de_var 1)))) (dss_cons (ds_if (dt_cmp o_eq (de_var 5) de_str) (dss_one (ds_ret (de_tup (da_cons (de_callTy c_tuple rfl B.b_tuple boot_tuple (da_cons (de_var 3) da_nil)) (da_cons (de_var 1) da_nil))))) dss_nil) (dss_one (ds_if (dt_cmp o_ne (de_var 5) de_str) (dss_one (ds_ret de_non)) dss_nil))))))))))))
theorem ok_value_at {C : Addr} (n : Nat) (B : Bi K mg C) (F : Fun K (Str.ofString "value_at") (Str.ofString "value_at") (top 34) f fd) (G_single_at : Fn P w K mg base (Str.ofString "single_at") [Str.ofString "text", Str.ofString "at"] 5 (spM K (List.length [Str.ofString "text", Str.ofString "at"]) m_single_at)) (G_row_at : Fn P w K mg base (Str.ofString "row_at") [Str.ofString "text", Str.ofString "at", Str.ofString "rows_left"] (5 + n) (spM K (List.length [Str.ofString "text", Str.ofString "at", Str.ofString "rows_left"]) (m_row_at n))) : FnOk P w K mg base CX0 (5 + n + 1) f fd [Str.ofString "text", Str.ofString "at", Str.ofString "rows_left"] (spM K (List.length [Str.ofString "text", Str.ofString "at", Str.ofString "rows_left"]) (m_value_at (n + 1))) :=
  dfn F sc_value_at fun _ _ _ _ _ _ hr => (dss_cons (ds_if (dt_cmp o_ne (de_sl (de_var 0) (dp_some (de_var 1)) (dp_some (de_bin o_add (de_var 1) de_int))) de_str) (dss_one (ds_ret (de_call G_single_at (rm hr) rfl (da_cons (de_var 0) (da_cons (de_var 1) da_nil)) (len_cons (len_cons len_nil))))) dss_nil) (dss_cons (ds_if (dt_cmp o_eq (de_var 2) de_int) (dss_one (ds_ret de_non)) dss_nil) (dss_one (ds_ret (de_call G_row_at (rm hr) rfl (da_cons (de_var 0) (da_cons (de_bin o_add (de_var 1) de_int) (da_cons (de_bin o_sub (de_var 2) de_int) da_nil))) (len_cons (len_cons (len_cons len_nil))))))))
theorem sc_value_by : FnScope [Str.ofString "text", Str.ofString "found"] [Str.ofString "text"] (defScope (top 33)) := ⟨rfl, rfl, rfl, by decide +kernel, rfl, by decide +kernel, by decide +kernel⟩
theorem ok_value_by {C : Addr} (B : Bi K mg C) (F : Fun K (Str.ofString "value_by") (Str.ofString "value_by") (top 33) f fd) (G_value_at : Fn P w K mg base (Str.ofString "value_at") [Str.ofString "text", Str.ofString "at", Str.ofString "rows_left"] 30 (spM K (List.length [Str.ofString "text", Str.ofString "at", Str.ofString "rows_left"]) (m_value_at 25))) (G_is_value : Fn P w K mg base (Str.ofString "is_value") [Str.ofString "thing"] 28 (spM K (List.length [Str.ofString "thing"]) m_is_value)) : FnOk P w K mg base CX0 31 f fd [Str.ofString "text"] (spM K (List.length [Str.ofString "text"]) (m_value_by)) :=
  dfn F sc_value_by fun _ _ _ _ _ _ hr => (dss_cons (ds_set (i := 1) sc_value_by.nd (de_call G_value_at (rm hr) rfl (da_cons (de_var 0) (da_cons de_int (da_cons (de_globI rfl B.c_MOST_ROWS) da_nil))) (len_cons (len_cons (len_cons len_nil))))) (dss_cons (ds_if (dw_pt (dw_or (dt_cmp o_is (de_var 1) de_non) (dw_or1 (dt_cmp o_lt (de_ix x_seq (de_var 1) de_int) (de_callB c_len rfl B.b_len boot_len (da_cons (de_var 0) da_nil)))))) (dss_one (ds_ret de_non)) dss_nil) (dss_one (ds_ret (de_if (dt_tru (de_call G_is_value (rm hr) rfl (da_cons (de_ix x_seq (de_var 1) de_int) da_nil) (len_cons len_nil))) (de_ix x_seq (de_var 1) de_int) de_non)))))
theorem sc_filling_words : FnScope [Str.ofString "expr"] [Str.ofString "expr"] (defScope (top 45)) := ⟨rfl, rfl, rfl, by decide +kernel, rfl, by decide +kernel, by decide +kernel⟩
theorem ok_filling_words {C : Addr} (B : Bi K mg C) (F : Fun K (Str.ofString "filling_words") (Str.ofString "filling_words") (top 45) f fd) (G_stamp_of : Fn P w K mg base (Str.ofString "stamp_of") [Str.ofString "value"] 26 (spM K (List.length [Str.ofString "value"]) (m_stamp_of 25))) : FnOk P w K mg base CX0 27 f fd [Str.ofString "expr"] (spM K (List.length [Str.ofString "expr"]) (m_filling_words)) :=
  dfn F sc_filling_words fun _ _ _ _ _ _ hr => (dss_cons (ds_if (dt_cmp o_eq (de_ix x_seq (de_var 0) de_int) de_str) (dss_one (ds_ret (de_lst (da_cons (de_call G_stamp_of (rm hr) rfl (da_cons (de_ix x_seq (de_var 0) de_int) da_nil) (len_cons len_nil)) da_nil)))) dss_nil) (dss_cons (ds_if (dt_cmp o_eq (de_ix x_seq (de_var 0) de_int) de_str) (dss_one (ds_ret (de_lst (da_cons (de_callTy c_str rfl B.b_str boot_str (da_cons (de_ix x_seq (de_var 0) de_int) da_nil)) da_nil)))) dss_nil) (dss_cons (ds_if (dt_cmp o_eq (de_ix x_seq (de_var 0) de_int) de_str) (dss_one (ds_ret (de_lst (da_cons (de_callTy c_str rfl B.b_str boot_str (da_cons (de_callB c_len rfl B.b_len boot_len (da_cons (de_ix x_seq (de_var 0) de_int) da_nil)) da_nil)) da_nil)))) dss_nil) (dss_one (ds_ret (de_lst da_nil))))))
theorem sc_expr_words : FnScope [Str.ofString "expr", Str.ofString "words", Str.ofString "part"] [Str.ofString "expr"] (defScope (top 44)) := ⟨rfl, rfl, rfl, by decide +kernel, rfl, by decide +kernel, by decide +kernel⟩
theorem ok_expr_words {C : Addr} (n : Nat) (B : Bi K mg C) (F : Fun K (Str.ofString "expr_words") (Str.ofString "expr_words") (top 44) f fd) (G_filling_words : Fn P w K mg base (Str.ofString "filling_words") [Str.ofString "expr"] 27 (spM K (List.length [Str.ofString "expr"]) m_filling_words)) (G_exprs_within : Fn P w K mg base (Str.ofString "exprs_within") [Str.ofString "expr"] 1 (spM K (List.length [Str.ofString "expr"]) m_exprs_within)) (G_expr_words : Fn P w K mg base (Str.ofString "expr_words") [Str.ofString "expr"] (27 + n) (spM K (List.length [Str.ofString "expr"]) (m_expr_words n))) : FnOk P w K mg base CX0 (27 + n + 1) f fd [Str.ofString "expr"] (spM K (List.length [Str.ofString "expr"]) (m_expr_words (n + 1))) :=
  dfn F sc_expr_words fun _ _ _ _ _ _ hr => (dss_cons (ds_setA (i := 1) sc_expr_words.nd (de_lst (da_cons (de_ix x_seq (de_var 0) de_int) da_nil)) (de_call G_filling_words (rm hr) rfl (da_cons (de_var 0) da_nil) (len_cons len_nil))) (dss_cons (ds_for (i := 2) sc_expr_words.nd (di_iter (de_call G_exprs_within (rm hr) rfl (da_cons (de_var 0) da_nil) (len_cons len_nil))) (dss_one (ds_ext (i := 1) (by exact (de_call G_expr_words (rm hr) rfl (da_cons (de_var 2) da_nil) (len_cons len_nil)))))) (dss_one (ds_ret (de_var 1)))))
theorem sc_recipe_words : FnScope [Str.ofString "recipe", Str.ofString "words", Str.ofString "part"] [Str.ofString "recipe"] (defScope (top 43)) := ⟨rfl, rfl, rfl, by decide +kernel, rfl, by decide +kernel, by decide +kernel⟩
theorem ok_recipe_words {C : Addr} (n : Nat) (B : Bi K mg C) (F : Fun K (Str.ofString "recipe_words") (Str.ofString "recipe_words") (top 43) f fd) (G_expr_words : Fn P w K mg base (Str.ofString "expr_words") [Str.ofString "expr"] 52 (spM K (List.length [Str.ofString "expr"]) (m_expr_words 25))) (G_recipe_words : Fn P w K mg base (Str.ofString "recipe_words") [Str.ofString "recipe"] (52 + n) (spM K (List.length [Str.ofString "recipe"]) (m_recipe_words n))) : FnOk P w K mg base CX0 (52 + n + 1) f fd [Str.ofString "recipe"] (spM K (List.length [Str.ofString "recipe"]) (m_recipe_words (n + 1))) :=
  dfn F sc_recipe_words fun _ _ _ _ _ _ hr => (dss_cons (ds_if (dt_cmp o_eq (de_ix x_seq (de_var 0) de_int) de_str) (dss_one (ds_ret (de_lst (da_cons (de_ix x_seq (de_var 0) de_int) (da_cons (de_ix x_seq (de_var 0) de_int) da_nil))))) dss_nil) (dss_cons (ds_setA (i := 1) sc_recipe_words.nd (de_lst (da_cons (de_ix x_seq (de_var 0) de_int) da_nil)) (de_call G_expr_words (rm hr) rfl (da_cons (de_ix x_seq (de_var 0) de_int) da_nil) (len_cons len_nil))) (dss_cons (ds_for (i := 2) sc_recipe_words.nd (di_iter (de_sl (de_var 0) (dp_some de_int) dp_none)) (dss_one (ds_ext (i := 1) (by exact (de_call G_recipe_words (rm hr) rfl (da_cons (de_var 2) da_nil) (len_cons len_nil)))))) (dss_one (ds_ret (de_var 1))))))
theorem sc_show_recipe : FnScope [Str.ofString "recipe"] [Str.ofString "recipe"] (defScope (top 42)) := ⟨rfl, rfl, rfl, by decide +kernel, rfl, by decide +kernel, by decide +kernel⟩
theorem ok_show_recipe {C : Addr} (B : Bi K mg C) (F : Fun K (Str.ofString "show_recipe") (Str.ofString "show_recipe") (top 42) f fd) (G_recipe_words : Fn P w K mg base (Str.ofString "recipe_words") [Str.ofString "recipe"] 77 (spM K (List.length [Str.ofString "recipe"]) (m_recipe_words 25))) : FnOk P w K mg base CX0 78 f fd [Str.ofString "recipe"] (spM K (List.length [Str.ofString "recipe"]) (m_show_recipe)) :=
  dfn F sc_show_recipe fun _ _ _ _ _ _ hr => (dss_one (ds_ret (de_join de_str (de_call G_recipe_words (rm hr) rfl (da_cons (de_var 0) da_nil) (len_cons len_nil)))))
theorem sc_put_by : FnScope [Str.ofString "words", Str.ofString "value"] [Str.ofString "words"] (defScope (top 52)) := ⟨rfl, rfl, rfl, by decide +kernel, rfl, by decide +kernel, by decide +kernel⟩
theorem ok_put_by {C : Addr} (B : Bi K mg C) (F : Fun K (Str.ofString "put_by") (Str.ofString "put_by") (top 52) f fd) (G_Words__ahead : Mth P w K mg base C (Str.ofString "ahead") [Str.ofString "self"] 1 (spM K (List.length [Str.ofString "self"]) (m_Words__ahead C))) (G_value_by : Fn P w K mg base (Str.ofString "value_by") [Str.ofString "text"] 31 (spM K (List.length [Str.ofString "text"]) m_value_by)) (G_Words__take : Mth P w K mg base C (Str.ofString "take") [Str.ofString "self", Str.ofString "fits"] 1 (spM K (List.length [Str.ofString "self", Str.ofString "fits"]) (m_Words__take C))) : FnOk P w K mg base CX0 32 f fd [Str.ofString "words"] (spM K (List.length [Str.ofString "words"]) (m_put_by C)) :=
  dfn F sc_put_by fun _ _ _ _ _ _ hr => (dss_cons (ds_set (i := 1) sc_put_by.nd (de_call G_value_by (rm hr) rfl (da_cons (de_meth0 G_Words__ahead B.k_Words (rm hr) (de_var 0)) da_nil) (len_cons len_nil))) (dss_cons (ds_drop (de_meth G_Words__take B.k_Words (rm hr) (de_var 0) (da_cons (de_cmp o_isnot (de_var 1) de_non) da_nil) (len_cons len_nil))) (dss_one (ds_ret (de_var 1)))))
theorem sc_number_below : FnScope [Str.ofString "words", Str.ofString "bound", Str.ofString "figures", Str.ofString "word"] [Str.ofString "words", Str.ofString "bound"] (defScope (top 53)) := ⟨rfl, rfl, rfl, by decide +kernel, rfl, by decide +kernel, by decide +kernel⟩
theorem ok_number_below {C : Addr} (B : Bi K mg C) (F : Fun K (Str.ofString "number_below") (Str.ofString "number_below") (top 53) f fd) (G_Words__ahead : Mth P w K mg base C (Str.ofString "ahead") [Str.ofString "self"] 1 (spM K (List.length [Str.ofString "self"]) (m_Words__ahead C))) (G_Words__take : Mth P w K mg base C (Str.ofString "take") [Str.ofString "self", Str.ofString "fits"] 1 (spM K (List.length [Str.ofString "self", Str.ofString "fits"]) (m_Words__take C))) : FnOk P w K mg base CX0 2 f fd [Str.ofString "words", Str.ofString "bound"] (spM K (List.length [Str.ofString "words", Str.ofString "bound"]) (m_number_below C)) :=
  dfn F sc_number_below fun _ _ _ _ _ _ hr => (dss_cons (ds_setC (i := 2) (osc := defScope (top 53)) (N := [Str.ofString "words", Str.ofString "bound", Str.ofString "figures", Str.ofString "word"]) (N' := [Str.ofString "words", Str.ofString "bound", Str.ofString "figures", Str.ofString "word"]) (x := (Str.ofString "k")) ⟨rfl, by decide +kernel, by decide +kernel, rfl, by decide +kernel, by decide +kernel, by decide +kernel, by decide +kernel, rfl, by decide +kernel⟩ sc_number_below.nd (di_rng1 rfl B.b_range (de_var 1)) (fun C s0 H0 ex => (de_callTy c_str rfl B.b_str boot_str (da_cons (de_var 0) da_nil))) (fun C s0 H0 ex => dts_nil)) (dss_cons (ds_set (i := 3) sc_number_below.nd (de_meth0 G_Words__ahead B.k_Words (rm hr) (de_var 0))) (dss_cons (ds_drop (de_meth G_Words__take B.k_Words (rm hr) (de_var 0) (da_cons (de_cmp o_in (de_var 3) (de_var 2)) da_nil) (len_cons len_nil))) (dss_one (ds_ret (de_index (de_var 2) (de_var 3)))))))
theorem sc_exprs_by : FnScope [Str.ofString "words", Str.ofString "many", Str.ofString "above", Str.ofString "got"] [Str.ofString "words", Str.ofString "many", Str.ofString "above", Str.ofString "got"] (defScope (top 50)) := ⟨rfl, rfl, rfl, by decide +kernel, rfl, by decide +kernel, by decide +kernel⟩
theorem sc_expr_by : FnScope [Str.ofString "words", Str.ofString "above", Str.ofString "got", Str.ofString "word"] [Str.ofString "words", Str.ofString "above", Str.ofString "got"] (defScope (top 49)) := ⟨rfl, rfl, rfl, by decide +kernel, rfl, by decide +kernel, by decide +kernel⟩
theorem ok_exprs_by {C : Addr} (n : Nat) (B : Bi K mg C) (F : Fun K (Str.ofString "exprs_by") (Str.ofString "exprs_by") (top 50) f fd) (G_expr_by : Fn P w K mg base (Str.ofString "expr_by") [Str.ofString "words", Str.ofString "above", Str.ofString "got"] (32 + n) (spM K (List.length [Str.ofString "words", Str.ofString "above", Str.ofString "got"]) (m_expr_by C n))) : FnOk P w K mg base CX0 (32 + n + 1) f fd [Str.ofString "words", Str.ofString "many", Str.ofString "above", Str.ofString "got"] (spM K (List.length [Str.ofString "words", Str.ofString "many", Str.ofString "above", Str.ofString "got"]) (m_exprs_by C (n + 1))) :=
  dfn F sc_exprs_by fun _ _ _ _ _ _ hr => (dss_one (ds_ret (de_callTy c_tuple rfl B.b_tuple boot_tuple (da_cons (de_comp (osc := defScope (top 50)) (N := [Str.ofString "words", Str.ofString "many", Str.ofString "above", Str.ofString "got"]) (N' := [Str.ofString "words", Str.ofString "many", Str.ofString "above", Str.ofString "got"]) (x := (Str.ofString "k")) ⟨rfl, by decide +kernel, by decide +kernel, rfl, by decide +kernel, by decide +kernel, by decide +kernel, by decide +kernel, rfl, by decide +kernel⟩ (di_rng1 rfl B.b_range (de_var 1)) (fun C s0 H0 ex => (de_call G_expr_by (rm hr) rfl (da_cons (de_var 1) (da_cons (de_var 3) (da_cons (de_var 4) da_nil))) (len_cons (len_cons (len_cons len_nil))))) (fun C s0 H0 ex => dts_nil)) da_nil))))
theorem ok_expr_by {C : Addr} (n : Nat) (B : Bi K mg C) (F : Fun K (Str.ofString "expr_by") (Str.ofString "expr_by") (top 49) f fd) (G_Words__ahead : Mth P w K mg base C (Str.ofString "ahead") [Str.ofString "self"] 1 (spM K (List.length [Str.ofString "self"]) (m_Words__ahead C))) (G_Words__begin : Mth P w K mg base C (Str.ofString "begin") [Str.ofString "self", Str.ofString "fits", Str.ofString "above"] 2 (spM K (List.length [Str.ofString "self", Str.ofString "fits", Str.ofString "above"]) (m_Words__begin C))) (G_put_by : Fn P w K mg base (Str.ofString "put_by") [Str.ofString "words"] 32 (spM K (List.length [Str.ofString "words"]) (m_put_by C))) (G_number_below : Fn P w K mg base (Str.ofString "number_below") [Str.ofString "words", Str.ofString "bound"] 2 (spM K (List.length [Str.ofString "words", Str.ofString "bound"]) (m_number_below C))) (G_exprs_by : Fn P w K mg base (Str.ofString "exprs_by") [Str.ofString "words", Str.ofString "many", Str.ofString "above", Str.ofString "got"] (32 + n) (spM K (List.length [Str.ofString "words", Str.ofString "many", Str.ofString "above", Str.ofString "got"]) (m_exprs_by C n))) : FnOk P w K mg base CX0 (32 + n + 1) f fd [Str.ofString "words", Str.ofString "above", Str.ofString "got"] (spM K (List.length [Str.ofString "words", Str.ofString "above", Str.ofString "got"]) (m_expr_by C (n + 1))) :=
  dfn F sc_expr_by fun _ _ _ _ _ _ hr => (dss_cons (ds_set (i := 3) sc_expr_by.nd (de_meth0 G_Words__ahead B.k_Words (rm hr) (de_var 0))) (dss_cons (ds_drop (de_meth G_Words__begin B.k_Words (rm hr) (de_var 0) (da_cons (de_or (de_cmp o_in (de_var 3) (de_globU (ss := [(Str.ofString "put"), (Str.ofString "got"), (Str.ofString "row")]) rfl B.g_FILLED)) (de_one (de_inT B.t_WITHIN rfl (de_var 3)))) (da_cons (de_var 1) da_nil)) (len_cons (len_cons len_nil)))) (dss_cons (ds_if (dt_cmp o_eq (de_var 3) de_str) (dss_one (ds_ret (de_tup (da_cons (de_var 3) (da_cons (de_call G_put_by (rm hr) rfl (da_cons (de_var 0) da_nil) (len_cons len_nil)) da_nil))))) dss_nil) (dss_cons (ds_if (dt_cmp o_eq (de_var 3) de_str) (dss_one (ds_ret (de_tup (da_cons (de_var 3) (da_cons (de_call G_number_below (rm hr) rfl (da_cons (de_var 0) (da_cons (de_var 2) da_nil)) (len_cons (len_cons len_nil))) da_nil))))) dss_nil) (dss_cons (ds_if (dt_cmp o_eq (de_var 3) de_str) (dss_one (ds_ret (de_tup (da_cons (de_var 3) (da_cons (de_call G_exprs_by (rm hr) rfl (da_cons (de_var 0) (da_cons (de_call G_number_below (rm hr) rfl (da_cons (de_var 0) (da_cons (de_bin o_add (de_globI rfl B.c_MOST_IN_ROW) de_int) da_nil)) (len_cons (len_cons len_nil))) (da_cons (de_bin o_add (de_var 1) de_int) (da_cons (de_var 2) da_nil)))) (len_cons (len_cons (len_cons (len_cons len_nil))))) da_nil))))) dss_nil) (dss_one (ds_ret (de_bin o_add (de_tup (da_cons (de_var 3) da_nil)) (de_call G_exprs_by (rm hr) rfl (da_cons (de_var 0) (da_cons (de_ixT B.t_WITHIN rfl (de_var 3)) (da_cons (de_bin o_add (de_var 1) de_int) (da_cons (de_var 2) da_nil)))) (len_cons (len_cons (len_cons (len_cons len_nil)))))))))))))
theorem sc_name_by : FnScope [Str.ofString "words", Str.ofString "word"] [Str.ofString "words"] (defScope (top 51)) := ⟨rfl, rfl, rfl, by decide +kernel, rfl, by decide +kernel, by decide +kernel⟩
theorem ok_name_by {C : Addr} (B : Bi K mg C) (F : Fun K (Str.ofString "name_by") (Str.ofString "name_by") (top 51) f fd) (G_Words__ahead : Mth P w K mg base C (Str.ofString "ahead") [Str.ofString "self"] 1 (spM K (List.length [Str.ofString "self"]) (m_Words__ahead C))) (G_is_name : Fn P w K mg base (Str.ofString "is_name") [Str.ofString "thing"] 2 (spM K (List.length [Str.ofString "thing"]) m_is_name)) (G_Words__take : Mth P w K mg base C (Str.ofString "take") [Str.ofString "self", Str.ofString "fits"] 1 (spM K (List.length [Str.ofString "self", Str.ofString "fits"]) (m_Words__take C))) : FnOk P w K mg base CX0 3 f fd [Str.ofString "words"] (spM K (List.length [Str.ofString "words"]) (m_name_by C)) :=
  dfn F sc_name_by fun _ _ _ _ _ _ hr => (dss_cons (ds_set (i := 1) sc_name_by.nd (de_meth0 G_Words__ahead B.k_Words (rm hr) (de_var 0))) (dss_cons (ds_drop (de_meth G_Words__take B.k_Words (rm hr) (de_var 0) (da_cons (de_call G_is_name (rm hr) rfl (da_cons (de_var 1) da_nil) (len_cons len_nil)) da_nil) (len_cons len_nil))) (dss_one (ds_ret (de_var 1)))))
theorem sc_recipe_by : FnScope [Str.ofString "words", Str.ofString "above", Str.ofString "got", Str.ofString "word", Str.ofString "expr", Str.ofString "behind"] [Str.ofString "words", Str.ofString "above", Str.ofString "got"] (defScope (top 48)) := ⟨rfl, rfl, rfl, by decide +kernel, rfl, by decide +kernel, by decide +kernel⟩
theorem ok_recipe_by {C : Addr} (n : Nat) (B : Bi K mg C) (F : Fun K (Str.ofString "recipe_by") (Str.ofString "recipe_by") (top 48) f fd) (G_Words__ahead : Mth P w K mg base C (Str.ofString "ahead") [Str.ofString "self"] 1 (spM K (List.length [Str.ofString "self"]) (m_Words__ahead C))) (G_Words__begin : Mth P w K mg base C (Str.ofString "begin") [Str.ofString "self", Str.ofString "fits", Str.ofString "above"] 2 (spM K (List.length [Str.ofString "self", Str.ofString "fits", Str.ofString "above"]) (m_Words__begin C))) (G_name_by : Fn P w K mg base (Str.ofString "name_by") [Str.ofString "words"] 3 (spM K (List.length [Str.ofString "words"]) (m_name_by C))) (G_expr_by : Fn P w K mg base (Str.ofString "expr_by") [Str.ofString "words", Str.ofString "above", Str.ofString "got"] 82 (spM K (List.length [Str.ofString "words", Str.ofString "above", Str.ofString "got"]) (m_expr_by C 50))) (G_got_behind : Fn P w K mg base (Str.ofString "got_behind") [Str.ofString "word", Str.ofString "got"] 1 (spM K (List.length [Str.ofString "word", Str.ofString "got"]) m_got_behind)) (G_recipe_by : Fn P w K mg base (Str.ofString "recipe_by") [Str.ofString "words", Str.ofString "above", Str.ofString "got"] (82 + n) (spM K (List.length [Str.ofString "words", Str.ofString "above", Str.ofString "got"]) (m_recipe_by C n))) : FnOk P w K mg base CX0 (82 + n + 1) f fd [Str.ofString "words", Str.ofString "above", Str.ofString "got"] (spM K (List.length [Str.ofString "words", Str.ofString "above", Str.ofString "got"]) (m_recipe_by C (n + 1))) :=
  dfn F sc_recipe_by fun _ _ _ _ _ _ hr => (dss_cons (ds_set (i := 3) sc_recipe_by.nd (de_meth0 G_Words__ahead B.k_Words (rm hr) (de_var 0))) (dss_cons (ds_drop (de_meth G_Words__begin B.k_Words (rm hr) (de_var 0) (da_cons (de_and (de_inT B.t_RECIPES_WITHIN rfl (de_var 3)) (de_one (de_not (de_and (de_cmp o_in (de_var 3) (de_globU (ss := [(Str.ofString "want"), (Str.ofString "peek")]) rfl B.g_GETTING)) (de_one (de_cmp o_eq (de_var 2) (de_globI rfl B.c_MOST_WANTS))))))) (da_cons (de_var 1) da_nil)) (len_cons (len_cons len_nil)))) (dss_cons (ds_if (dt_cmp o_eq (de_var 3) de_str) (dss_one (ds_ret (de_tup (da_cons (de_var 3) (da_cons (de_call G_name_by (rm hr) rfl (da_cons (de_var 0) da_nil) (len_cons len_nil)) da_nil))))) dss_nil) (dss_cons (ds_set (i := 4) sc_recipe_by.nd (de_call G_expr_by (rm hr) rfl (da_cons (de_var 0) (da_cons (de_bin o_add (de_var 1) de_int) (da_cons (de_var 2) da_nil))) (len_cons (len_cons (len_cons len_nil))))) (dss_cons (ds_set (i := 5) sc_recipe_by.nd (de_call G_got_behind (rm hr) rfl (da_cons (de_var 3) (da_cons (de_var 2) da_nil)) (len_cons (len_cons len_nil)))) (dss_one (ds_ret (de_bin o_add (de_tup (da_cons (de_var 3) (da_cons (de_var 4) da_nil))) (de_callTy c_tuple rfl B.b_tuple boot_tuple (da_cons (de_comp (osc := defScope (top 48)) (N := [Str.ofString "words", Str.ofString "above", Str.ofString "got", Str.ofString "word", Str.ofString "expr", Str.ofString "behind"]) (N' := [Str.ofString "words", Str.ofString "above", Str.ofString "got", Str.ofString "word", Str.ofString "expr", Str.ofString "behind"]) (x := (Str.ofString "k")) ⟨rfl, by decide +kernel, by decide +kernel, rfl, by decide +kernel, by decide +kernel, by decide +kernel, by decide +kernel, rfl, by decide +kernel⟩ (di_rng1 rfl B.b_range (de_ixT B.t_RECIPES_WITHIN rfl (de_var 3))) (fun C s0 H0 ex => (de_call G_recipe_by (rm hr) rfl (da_cons (de_var 1) (da_cons (de_bin o_add (de_var 2) de_int) (da_cons (de_var 6) da_nil))) (len_cons (len_cons (len_cons len_nil))))) (fun C s0 H0 ex => dts_nil)) da_nil))))))))))
theorem sc_read_recipe : FnScope [Str.ofString "text", Str.ofString "words", Str.ofString "recipe"] [Str.ofString "text"] (defScope (top 47)) := ⟨rfl, rfl, rfl, by decide +kernel, rfl, by decide +kernel, by decide +kernel⟩
theorem ok_read_recipe {C : Addr} (B : Bi K mg C) (F : Fun K (Str.ofString "read_recipe") (Str.ofString "read_recipe") (top 47) f fd) (G_recipe_by : Fn P w K mg base (Str.ofString "recipe_by") [Str.ofString "words", Str.ofString "above", Str.ofString "got"] 107 (spM K (List.length [Str.ofString "words", Str.ofString "above", Str.ofString "got"]) (m_recipe_by C 25))) (G_Words__finish : Mth P w K mg base C (Str.ofString "finish") [Str.ofString "self"] 1 (spM K (List.length [Str.ofString "self"]) (m_Words__finish C))) (G_Words____init__ : Ini P w K mg base C [Str.ofString "self", Str.ofString "text"] 1 (spM K (List.length [Str.ofString "self", Str.ofString "text"]) (m_Words____init__ C))) : FnOk P w K mg base CX0 108 f fd [Str.ofString "text"] (spM K (List.length [Str.ofString "text"]) (m_read_recipe C)) :=
  dfn F sc_read_recipe fun _ _ _ _ _ _ hr => (dss_mk (i := 1) G_Words____init__ (rm hr) rfl B.m_Words sc_read_recipe.nd (de_var 0) (dss_cons (ds_set (i := 2) sc_read_recipe.nd (de_call G_recipe_by (rm hr) rfl (da_cons (de_var 1) (da_cons de_int (da_cons de_int da_nil))) (len_cons (len_cons (len_cons len_nil))))) (dss_cons (ds_drop (de_meth0 G_Words__finish B.k_Words (rm hr) (de_var 1))) (dss_one (ds_ret (de_var 2))))))
theorem sc__law_draw : FnScope [Str.ofString "_law_tape_here", Str.ofString "_law_many_here", Str.ofString "_law_spot", Str.ofString "_law_cell", Str.ofString "_law_mixed", Str.ofString "_law_found"] [Str.ofString "_law_tape_here", Str.ofString "_law_many_here"] (defScope (top 56)) := ⟨rfl, rfl, rfl, by decide +kernel, rfl, by decide +kernel, by decide +kernel⟩
theorem ok__law_draw {C : Addr} (B : Bi K mg C) (F : Fun K (Str.ofString "_law_draw") (Str.ofString "_law_draw") (top 56) f fd)  : FnOk P w K mg base CX0 1 f fd [Str.ofString "_law_tape_here", Str.ofString "_law_many_here"] (spM K (List.length [Str.ofString "_law_tape_here", Str.ofString "_law_many_here"]) (m__law_draw)) :=
  dfn F sc__law_draw fun _ _ _ _ _ _ hr => (dss_cons (ds_if (dt_cmp o_eq (de_ix x_seq (de_var 0) de_int) de_int) (dss_cons (ds_set (i := 2) sc__law_draw.nd (de_ix x_seq (de_var 0) de_int)) (dss_cons (ds_put (de_var 0) de_int (de_bin o_add (de_var 2) de_int)) (dss_cons (ds_set (i := 3) sc__law_draw.nd (de_var 2)) (dss_cons (ds_if (dt_cmp o_gt (de_callB c_len rfl B.b_len boot_len (da_cons (de_ix x_seq (de_var 0) de_int) da_nil)) de_int) (dss_one (ds_set (i := 3) sc__law_draw.nd (de_ix x_seq (de_ix x_seq (de_var 0) de_int) (de_bin o_mod (de_var 2) (de_callB c_len rfl B.b_len boot_len (da_cons (de_ix x_seq (de_var 0) de_int) da_nil)))))) dss_nil) (dss_cons (ds_if (dw_pt (dw_or (dt_cmp o_lt (de_var 3) (de_bin o_pow de_int de_int)) (dw_or1 (dt_cmp o_ge (de_var 2) (de_callB c_len rfl B.b_len boot_len (da_cons (de_ix x_seq (de_var 0) de_int) da_nil)))))) (dss_cons (ds_set (i := 4) sc__law_draw.nd (de_bin o_mod (de_bin o_mul (de_bin o_add (de_bin o_mod (de_var 3) de_int) de_int) (de_bin o_add de_int (de_bin o_mul de_int (de_bin o_mod (de_var 2) de_int)))) de_int)) (dss_one (ds_ret (de_bin o_mod (de_bin o_fdiv (de_bin o_mod (de_bin o_mul (de_bin o_add (de_var 4) (de_bin o_mul de_int (de_var 2))) de_int) de_int) de_int) (de_var 1))))) dss_nil) (dss_one (ds_put (de_var 0) de_int (de_var 3)))))))) dss_nil) (dss_cons (ds_set (i := 5) sc__law_draw.nd (de_bin o_mod (de_ix x_seq (de_var 0) de_int) (de_var 1))) (dss_cons (ds_put (de_var 0) de_int (de_bin o_fdiv (de_ix x_seq (de_var 0) de_int) (de_var 1))) (dss_one (ds_ret (de_var 5))))))
theorem sc__law_name : FnScope [Str.ofString "_law_tape_here", Str.ofString "_law_words_here", Str.ofString "_law_way", Str.ofString "_law_letters"] [Str.ofString "_law_tape_here"] (defScope (top 57)) := ⟨rfl, rfl, rfl, by decide +kernel, rfl, by decide +kernel, by decide +kernel⟩
theorem ok__law_name {C : Addr} (B : Bi K mg C) (F : Fun K (Str.ofString "_law_name") (Str.ofString "_law_name") (top 57) f fd) (G__law_draw : Fn P w K mg base (Str.ofString "_law_draw") [Str.ofString "_law_tape_here", Str.ofString "_law_many_here"] 1 (spM K (List.length [Str.ofString "_law_tape_here", Str.ofString "_law_many_here"]) m__law_draw)) : FnOk P w K mg base CX0 2 f fd [Str.ofString "_law_tape_here"] (spM K (List.length [Str.ofString "_law_tape_here"]) (m__law_name)) :=
  dfn F sc__law_name fun _ _ _ _ _ _ hr => (dss_cons (ds_set (i := 1) sc__law_name.nd (de_lst (da_cons de_str (da_cons de_str (da_cons de_str (da_cons de_str (da_cons de_str (da_cons de_str (da_cons de_str (da_cons de_str (da_cons de_str (da_cons de_str (da_cons de_str (da_cons de_str (da_cons de_str (da_cons de_str da_nil)))))))))))))))) (dss_cons (ds_set (i := 1) sc__law_name.nd (de_bin o_add (de_var 1) (de_lst (da_cons de_str da_nil)))) (dss_cons (ds_set (i := 1) sc__law_name.nd (de_bin o_add (de_var 1) (de_lst (da_cons de_str (da_cons de_str (da_cons de_str (da_cons de_str (da_cons de_str (da_cons de_str (da_cons de_str (da_cons de_str da_nil))))))))))) (dss_cons (ds_set (i := 2) sc__law_name.nd (de_call G__law_draw (rm hr) rfl (da_cons (de_var 0) (da_cons de_int da_nil)) (len_cons (len_cons len_nil)))) (dss_cons (ds_if (dt_cmp o_lt (de_var 2) de_int) (dss_one (ds_ret (de_ix x_seq (de_var 1) (de_var 2)))) dss_nil) (dss_cons (ds_set (i := 3) sc__law_name.nd de_str) (dss_one (ds_ret (de_join de_str (de_comp (osc := defScope (top 57)) (N := [Str.ofString "_law_tape_here", Str.ofString "_law_words_here", Str.ofString "_law_way", Str.ofString "_law_letters"]) (N' := [Str.ofString "_law_tape_here", Str.ofString "_law_words_here", Str.ofString "_law_way", Str.ofString "_law_letters"]) (x := (Str.ofString "_law_k")) ⟨rfl, by decide +kernel, by decide +kernel, rfl, by decide +kernel, by decide +kernel, by decide +kernel, by decide +kernel, rfl, by decide +kernel⟩ (di_rng1 rfl B.b_range (de_bin o_add de_int (de_call G__law_draw (rm hr) rfl (da_cons (de_var 0) (da_cons de_int da_nil)) (len_cons (len_cons len_nil))))) (fun C s0 H0 ex => (de_ix x_seq (de_var 4) (de_call G__law_draw (rm hr) rfl (da_cons (de_var 1) (da_cons de_int da_nil)) (len_cons (len_cons len_nil))))) (fun C s0 H0 ex => dts_nil)))))))))))
theorem sc__law_text : FnScope [Str.ofString "_law_tape_here", Str.ofString "_law_signs", Str.ofString "_law_way"] [Str.ofString "_law_tape_here"] (defScope (top 58)) := ⟨rfl, rfl, rfl, by decide +kernel, rfl, by decide +kernel, by decide +kernel⟩
theorem ok__law_text {C : Addr} (B : Bi K mg C) (F : Fun K (Str.ofString "_law_text") (Str.ofString "_law_text") (top 58) f fd) (G__law_draw : Fn P w K mg base (Str.ofString "_law_draw") [Str.ofString "_law_tape_here", Str.ofString "_law_many_here"] 1 (spM K (List.length [Str.ofString "_law_tape_here", Str.ofString "_law_many_here"]) m__law_draw)) (G__law_name : Fn P w K mg base (Str.ofString "_law_name") [Str.ofString "_law_tape_here"] 2 (spM K (List.length [Str.ofString "_law_tape_here"]) m__law_name)) : FnOk P w K mg base CX0 3 f fd [Str.ofString "_law_tape_here"] (spM K (List.length [Str.ofString "_law_tape_here"]) (m__law_text)) :=
  dfn F sc__law_text fun _ _ _ _ _ _ hr => (dss_cons (ds_set (i := 1) sc__law_text.nd de_str) (dss_cons (ds_set (i := 2) sc__law_text.nd (de_call G__law_draw (rm hr) rfl (da_cons (de_var 0) (da_cons de_int da_nil)) (len_cons (len_cons len_nil)))) (dss_cons (ds_if (dt_cmp o_lt (de_var 2) de_int) (dss_one (ds_ret (de_ix x_seq (de_lst (da_cons de_str (da_cons de_str (da_cons de_str da_nil)))) (de_var 2)))) dss_nil) (dss_cons (ds_if (dt_cmp o_lt (de_var 2) de_int) (dss_one (ds_ret (de_call G__law_name (rm hr) rfl (da_cons (de_var 0) da_nil) (len_cons len_nil)))) dss_nil) (dss_one (ds_ret (de_join de_str (de_comp (osc := defScope (top 58)) (N := [Str.ofString "_law_tape_here", Str.ofString "_law_signs", Str.ofString "_law_way"]) (N' := [Str.ofString "_law_tape_here", Str.ofString "_law_signs", Str.ofString "_law_way"]) (x := (Str.ofString "_law_k")) ⟨rfl, by decide +kernel, by decide +kernel, rfl, by decide +kernel, by decide +kernel, by decide +kernel, by decide +kernel, rfl, by decide +kernel⟩ (di_rng1 rfl B.b_range (de_ix x_seq (de_lst (da_cons (de_call G__law_draw (rm hr) rfl (da_cons (de_var 0) (da_cons de_int da_nil)) (len_cons (len_cons len_nil))) (da_cons de_int da_nil))) (de_bin o_sub (de_var 2) de_int))) (fun C s0 H0 ex => (de_ix x_seq (de_var 2) (de_call G__law_draw (rm hr) rfl (da_cons (de_var 1) (da_cons de_int da_nil)) (len_cons (len_cons len_nil))))) (fun C s0 H0 ex => dts_nil)))))))))
theorem sc__law_number : FnScope [Str.ofString "_law_tape_here", Str.ofString "_law_way"] [Str.ofString "_law_tape_here"] (defScope (top 59)) := ⟨rfl, rfl, rfl, by decide +kernel, rfl, by decide +kernel, by decide +kernel⟩
theorem ok__law_number {C : Addr} (B : Bi K mg C) (F : Fun K (Str.ofString "_law_number") (Str.ofString "_law_number") (top 59) f fd) (G__law_draw : Fn P w K mg base (Str.ofString "_law_draw") [Str.ofString "_law_tape_here", Str.ofString "_law_many_here"] 1 (spM K (List.length [Str.ofString "_law_tape_here", Str.ofString "_law_many_here"]) m__law_draw)) : FnOk P w K mg base CX0 2 f fd [Str.ofString "_law_tape_here"] (spM K (List.length [Str.ofString "_law_tape_here"]) (m__law_number)) :=
  dfn F sc__law_number fun _ _ _ _ _ _ hr => (dss_cons (ds_set (i := 1) sc__law_number.nd (de_call G__law_draw (rm hr) rfl (da_cons (de_var 0) (da_cons de_int da_nil)) (len_cons (len_cons len_nil)))) (dss_cons (ds_if (dt_cmp o_lt (de_var 1) de_int) (dss_one (ds_ret (de_ix x_seq (de_lst (da_cons de_int (da_cons de_int (da_cons (de_neg de_int) (da_cons de_int (da_cons de_int (da_cons de_int (da_cons (de_bin o_pow de_int de_int) (da_cons (de_neg (de_bin o_pow de_int de_int)) (da_cons (de_bin o_sub (de_bin o_pow de_int de_int) de_int) da_nil)))))))))) (de_var 1)))) dss_nil) (dss_one (ds_ret (de_bin o_mul (de_bin o_add (de_bin o_mul (de_call G__law_draw (rm hr) rfl (da_cons (de_var 0) (da_cons (de_bin o_pow de_int de_int) da_nil)) (len_cons (len_cons len_nil))) (de_bin o_pow de_int de_int)) (de_call G__law_draw (rm hr) rfl (da_cons (de_var 0) (da_cons (de_bin o_pow de_int de_int) da_nil)) (len_cons (len_cons len_nil)))) (de_ix x_seq (de_lst (da_cons de_int (da_cons (de_neg de_int) da_nil))) (de_call G__law_draw (rm hr) rfl (da_cons (de_var 0) (da_cons de_int da_nil)) (len_cons (len_cons len_nil)))))))))
theorem sc__law_value : FnScope [Str.ofString "_law_tape_here", Str.ofString "_law_deep", Str.ofString "_law_room", Str.ofString "_law_way", Str.ofString "_law_many_here"] [Str.ofString "_law_tape_here", Str.ofString "_law_deep", Str.ofString "_law_room"] (defScope (top 60)) := ⟨rfl, rfl, rfl, by decide +kernel, rfl, by decide +kernel, by decide +kernel⟩
theorem ok__law_value {C : Addr} (n : Nat) (B : Bi K mg C) (F : Fun K (Str.ofString "_law_value") (Str.ofString "_law_value") (top 60) f fd) (G__law_draw : Fn P w K mg base (Str.ofString "_law_draw") [Str.ofString "_law_tape_here", Str.ofString "_law_many_here"] 1 (spM K (List.length [Str.ofString "_law_tape_here", Str.ofString "_law_many_here"]) m__law_draw)) (G__law_number : Fn P w K mg base (Str.ofString "_law_number") [Str.ofString "_law_tape_here"] 2 (spM K (List.length [Str.ofString "_law_tape_here"]) m__law_number)) (G__law_text : Fn P w K mg base (Str.ofString "_law_text") [Str.ofString "_law_tape_here"] 3 (spM K (List.length [Str.ofString "_law_tape_here"]) m__law_text)) (G__law_value : Fn P w K mg base (Str.ofString "_law_value") [Str.ofString "_law_tape_here", Str.ofString "_law_deep", Str.ofString "_law_room"] (3 + n) (spM K (List.length [Str.ofString "_law_tape_here", Str.ofString "_law_deep", Str.ofString "_law_room"]) (m__law_value n))) : FnOk P w K mg base CX0 (3 + n + 1) f fd [Str.ofString "_law_tape_here", Str.ofString "_law_deep", Str.ofString "_law_room"] (spM K (List.length [Str.ofString "_law_tape_here", Str.ofString "_law_deep", Str.ofString "_law_room"]) (m__law_value (n + 1))) :=
  dfn F sc__law_value fun _ _ _ _ _ _ hr => (dss_cons (ds_set (i := 3) sc__law_value.nd (de_call G__law_draw (rm hr) rfl (da_cons (de_var 0) (da_cons de_int da_nil)) (len_cons (len_cons len_nil)))) (dss_cons (ds_if (dt_cmp o_lt (de_var 3) de_int) (dss_one (ds_ret (de_call G__law_number (rm hr) rfl (da_cons (de_var 0) da_nil) (len_cons len_nil)))) dss_nil) (dss_cons (ds_if (dw_pt (dw_or (dt_cmp o_lt (de_var 3) de_int) (dw_or1 (dt_cmp o_eq (de_var 1) de_int)))) (dss_one (ds_ret (de_call G__law_text (rm hr) rfl (da_cons (de_var 0) da_nil) (len_cons len_nil)))) dss_nil) (dss_cons (ds_set (i := 4) sc__law_value.nd (de_call G__law_draw (rm hr) rfl (da_cons (de_var 0) (da_cons (de_callB c_min rfl B.b_min boot_min (da_cons de_int (da_cons (de_var 2) da_nil))) da_nil)) (len_cons (len_cons len_nil)))) (dss_one (ds_ret (de_callTy c_tuple rfl B.b_tuple boot_tuple (da_cons (de_comp (osc := defScope (top 60)) (N := [Str.ofString "_law_tape_here", Str.ofString "_law_deep", Str.ofString "_law_room", Str.ofString "_law_way", Str.ofString "_law_many_here"]) (N' := [Str.ofString "_law_tape_here", Str.ofString "_law_deep", Str.ofString "_law_room", Str.ofString "_law_way", Str.ofString "_law_many_here"]) (x := (Str.ofString "_law_k")) ⟨rfl, by decide +kernel, by decide +kernel, rfl, by decide +kernel, by decide +kernel, by decide +kernel, by decide +kernel, rfl, by decide +kernel⟩ (di_rng1 rfl B.b_range (de_var 4)) (fun C s0 H0 ex => (de_call G__law_value (rm hr) rfl (da_cons (de_var 1) (da_cons (de_bin o_sub (de_var 2) de_int) (da_cons (de_bin o_fdiv (de_bin o_sub (de_var 3) de_int) (de_var 5)) da_nil))) (len_cons (len_cons (len_cons len_nil))))) (fun C s0 H0 ex => dts_nil)) da_nil))))))))
theorem sc__law_alike : FnScope [Str.ofString "_law_due", Str.ofString "_law_found"] [Str.ofString "_law_due", Str.ofString "_law_found"] (defScope (top 61)) := ⟨rfl, rfl, rfl, by decide +kernel, rfl, by decide +kernel, by decide +kernel⟩
theorem ok__law_alike {C : Addr} (n : Nat) (B : Bi K mg C) (F : Fun K (Str.ofString "_law_alike") (Str.ofString "_law_alike") (top 61) f fd) (G__law_alike : Fn P w K mg base (Str.ofString "_law_alike") [Str.ofString "_law_due", Str.ofString "_law_found"] (0 + n) (spM K (List.length [Str.ofString "_law_due", Str.ofString "_law_found"]) (m__law_alike n))) : FnOk P w K mg base CX0 (0 + n + 1) f fd [Str.ofString "_law_due", Str.ofString "_law_found"] (spM K (List.length [Str.ofString "_law_due", Str.ofString "_law_found"]) (m__law_alike (n + 1))) :=
  dfn F sc__law_alike fun _ _ _ _ _ _ hr => (dss_cons (ds_if (dw_pt (dw_or (dt_tru (de_isi .tup B.b_isinstance (de_var 0) B.b_tuple boot_tuple)) (dw_or1 (dt_tru (de_isi .lst B.b_isinstance (de_var 0) B.b_list boot_list))))) (dss_cons (ds_if (dt_cmp o_ne (de_isi .tup B.b_isinstance (de_var 0) B.b_tuple boot_tuple) (de_isi .tup B.b_isinstance (de_var 1) B.b_tuple boot_tuple)) (dss_one (ds_ret de_bl)) dss_nil) (dss_cons (ds_if (dt_cmp o_ne (de_isi .lst B.b_isinstance (de_var 0) B.b_list boot_list) (de_isi .lst B.b_isinstance (de_var 1) B.b_list boot_list)) (dss_one (ds_ret de_bl)) dss_nil) (dss_cons (ds_if (dt_cmp o_ne (de_callB c_len rfl B.b_len boot_len (da_cons (de_var 0) da_nil)) (de_callB c_len rfl B.b_len boot_len (da_cons (de_var 1) da_nil))) (dss_one (ds_ret de_bl)) dss_nil) (dss_one (ds_ret (de_callB c_all rfl B.b_all boot_all (da_cons (de_comp (osc := defScope (top 61)) (N := [Str.ofString "_law_due", Str.ofString "_law_found"]) (N' := [Str.ofString "_law_due", Str.ofString "_law_found"]) (x := (Str.ofString "_law_k")) ⟨rfl, by decide +kernel, by decide +kernel, rfl, by decide +kernel, by decide +kernel, by decide +kernel, by decide +kernel, rfl, by decide +kernel⟩ (di_rng1 rfl B.b_range (de_callB c_len rfl B.b_len boot_len (da_cons (de_var 0) da_nil))) (fun C s0 H0 ex => (de_call G__law_alike (rm hr) rfl (da_cons (de_ix x_seq (de_var 1) (de_var 0)) (da_cons (de_ix x_seq (de_var 2) (de_var 0)) da_nil)) (len_cons (len_cons len_nil)))) (fun C s0 H0 ex => dts_nil)) da_nil))))))) dss_nil) (dss_cons (ds_if (dt_cmp o_is (de_var 0) de_non) (dss_one (ds_ret (de_cmp o_is (de_var 1) de_non))) dss_nil) (dss_cons (ds_if (dt_tru (de_isi .str B.b_isinstance (de_var 0) B.b_str boot_str)) (dss_one (ds_ret (de_and (de_isi .str B.b_isinstance (de_var 1) B.b_str boot_str) (de_one (de_cmp o_eq (de_var 1) (de_var 0)))))) dss_nil) (dss_cons (ds_if (dt_tru (de_isi .bl B.b_isinstance (de_var 0) B.b_bool boot_bool)) (dss_one (ds_ret (de_and (de_isi .bl B.b_isinstance (de_var 1) B.b_bool boot_bool) (de_one (de_cmp o_eq (de_var 1) (de_var 0)))))) dss_nil) (dss_one (ds_ret (de_and (de_isi .int B.b_isinstance (de_var 1) B.b_int boot_int) (de_and (de_not (de_isi .bl B.b_isinstance (de_var 1) B.b_bool boot_bool)) (de_one (de_cmp o_eq (de_var 1) (de_var 0)))))))))))
theorem sc__law_stamp : FnScope [Str.ofString "_law_value_here", Str.ofString "_law_text_here", Str.ofString "_law_part"] [Str.ofString "_law_value_here"] (defScope (top 62)) := ⟨rfl, rfl, rfl, by decide +kernel, rfl, by decide +kernel, by decide +kernel⟩
theorem ok__law_stamp {C : Addr} (n : Nat) (B : Bi K mg C) (F : Fun K (Str.ofString "_law_stamp") (Str.ofString "_law_stamp") (top 62) f fd) (G__law_stamp : Fn P w K mg base (Str.ofString "_law_stamp") [Str.ofString "_law_value_here"] (0 + n) (spM K (List.length [Str.ofString "_law_value_here"]) (m__law_stamp n))) : FnOk P w K mg base CX0 (0 + n + 1) f fd [Str.ofString "_law_value_here"] (spM K (List.length [Str.ofString "_law_value_here"]) (m__law_stamp (n + 1))) :=
  dfn F sc__law_stamp fun _ _ _ _ _ _ hr => (dss_cons (ds_if (dt_tru (de_isi .tup B.b_isinstance (de_var 0) B.b_tuple boot_tuple)) (dss_cons (ds_set (i := 1) sc__law_stamp.nd de_str) (dss_cons (ds_for (i := 2) sc__law_stamp.nd (di_iter (de_var 0)) (dss_one (ds_set (i := 1) sc__law_stamp.nd (de_bin o_add (de_bin o_add (de_var 1) de_str) (de_call G__law_stamp (rm hr) rfl (da_cons (de_var 2) da_nil) (len_cons len_nil)))))) (dss_one (ds_ret (de_bin o_add (de_bin o_add de_str (de_sl (de_var 1) (dp_some de_int) dp_none)) de_str))))) dss_nil) (dss_cons (ds_if (dt_tru (de_isi .str B.b_isinstance (de_var 0) B.b_str boot_str)) (dss_one (ds_ret (de_bin o_add de_str (de_var 0)))) dss_nil) (dss_one (ds_ret (de_callTy c_str rfl B.b_str boot_str (da_cons (de_var 0) da_nil))))))
theorem sc__law_leaf : FnScope [Str.ofString "_law_tape_here", Str.ofString "_law_got"] [Str.ofString "_law_tape_here", Str.ofString "_law_got"] (defScope (top 63)) := ⟨rfl, rfl, rfl, by decide +kernel, rfl, by decide +kernel, by decide +kernel⟩
theorem ok__law_leaf {C : Addr} (B : Bi K mg C) (F : Fun K (Str.ofString "_law_leaf") (Str.ofString "_law_leaf") (top 63) f fd) (G__law_draw : Fn P w K mg base (Str.ofString "_law_draw") [Str.ofString "_law_tape_here", Str.ofString "_law_many_here"] 1 (spM K (List.length [Str.ofString "_law_tape_here", Str.ofString "_law_many_here"]) m__law_draw)) (G__law_value : Fn P w K mg base (Str.ofString "_law_value") [Str.ofString "_law_tape_here", Str.ofString "_law_deep", Str.ofString "_law_room"] 28 (spM K (List.length [Str.ofString "_law_tape_here", Str.ofString "_law_deep", Str.ofString "_law_room"]) (m__law_value 25))) : FnOk P w K mg base CX0 29 f fd [Str.ofString "_law_tape_here", Str.ofString "_law_got"] (spM K (List.length [Str.ofString "_law_tape_here", Str.ofString "_law_got"]) (m__law_leaf)) :=
  dfn F sc__law_leaf fun _ _ _ _ _ _ hr => (dss_cons (ds_if (dw_pt (dw_and (dt_cmp o_gt (de_var 1) de_int) (dw_and1 (dt_cmp o_gt (de_call G__law_draw (rm hr) rfl (da_cons (de_var 0) (da_cons de_int da_nil)) (len_cons (len_cons len_nil))) de_int)))) (dss_one (ds_ret (de_tup (da_cons de_str (da_cons (de_call G__law_draw (rm hr) rfl (da_cons (de_var 0) (da_cons (de_var 1) da_nil)) (len_cons (len_cons len_nil))) da_nil))))) dss_nil) (dss_one (ds_ret (de_tup (da_cons de_str (da_cons (de_call G__law_value (rm hr) rfl (da_cons (de_var 0) (da_cons de_int (da_cons de_int da_nil))) (len_cons (len_cons (len_cons len_nil)))) da_nil))))))
theorem sc__law_expr : FnScope [Str.ofString "_law_tape_here", Str.ofString "_law_got", Str.ofString "_law_room", Str.ofString "_law_deep", Str.ofString "_law_way", Str.ofString "_law_many_here", Str.ofString "_law_word", Str.ofString "_law_one"] [Str.ofString "_law_tape_here", Str.ofString "_law_got", Str.ofString "_law_room", Str.ofString "_law_deep"] (defScope (top 64)) := ⟨rfl, rfl, rfl, by decide +kernel, rfl, by decide +kernel, by decide +kernel⟩
theorem ok__law_expr {C : Addr} (n : Nat) (B : Bi K mg C) (F : Fun K (Str.ofString "_law_expr") (Str.ofString "_law_expr") (top 64) f fd) (G__law_draw : Fn P w K mg base (Str.ofString "_law_draw") [Str.ofString "_law_tape_here", Str.ofString "_law_many_here"] 1 (spM K (List.length [Str.ofString "_law_tape_here", Str.ofString "_law_many_here"]) m__law_draw)) (G__law_leaf : Fn P w K mg base (Str.ofString "_law_leaf") [Str.ofString "_law_tape_here", Str.ofString "_law_got"] 29 (spM K (List.length [Str.ofString "_law_tape_here", Str.ofString "_law_got"]) m__law_leaf)) (G__law_expr : Fn P w K mg base (Str.ofString "_law_expr") [Str.ofString "_law_tape_here", Str.ofString "_law_got", Str.ofString "_law_room", Str.ofString "_law_deep"] (29 + n) (spM K (List.length [Str.ofString "_law_tape_here", Str.ofString "_law_got", Str.ofString "_law_room", Str.ofString "_law_deep"]) (m__law_expr n))) : FnOk P w K mg base CX0 (29 + n + 1) f fd [Str.ofString "_law_tape_here", Str.ofString "_law_got", Str.ofString "_law_room", Str.ofString "_law_deep"] (spM K (List.length [Str.ofString "_law_tape_here", Str.ofString "_law_got", Str.ofString "_law_room", Str.ofString "_law_deep"]) (m__law_expr (n + 1))) :=
  dfn F sc__law_expr fun _ _ _ _ _ _ hr => (dss_cons (ds_set (i := 4) sc__law_expr.nd (de_call G__law_draw (rm hr) rfl (da_cons (de_var 0) (da_cons de_int da_nil)) (len_cons (len_cons len_nil)))) (dss_cons (ds_if (dw_pt (dw_or (dt_cmp o_lt (de_var 4) de_int) (dw_or (dt_cmp o_lt (de_var 2) de_int) (dw_or1 (dt_cmp o_lt (de_var 3) de_int))))) (dss_one (ds_ret (de_call G__law_leaf (rm hr) rfl (da_cons (de_var 0) (da_cons (de_var 1) da_nil)) (len_cons (len_cons len_nil))))) dss_nil) (dss_cons (ds_if (dt_cmp o_lt (de_var 4) de_int) (dss_cons (ds_set (i := 5) sc__law_expr.nd (de_call G__law_draw (rm hr) rfl (da_cons (de_var 0) (da_cons (de_callB c_min rfl B.b_min boot_min (da_cons de_int (da_cons (de_var 2) da_nil))) da_nil)) (len_cons (len_cons len_nil)))) (dss_one (ds_ret (de_tup (da_cons de_str (da_cons (de_callTy c_tuple rfl B.b_tuple boot_tuple (da_cons (de_comp (osc := defScope (top 64)) (N := [Str.ofString "_law_tape_here", Str.ofString "_law_got", Str.ofString "_law_room", Str.ofString "_law_deep", Str.ofString "_law_way", Str.ofString "_law_many_here", Str.ofString "_law_word", Str.ofString "_law_one"]) (N' := [Str.ofString "_law_tape_here", Str.ofString "_law_got", Str.ofString "_law_room", Str.ofString "_law_deep", Str.ofString "_law_way", Str.ofString "_law_many_here", Str.ofString "_law_word", Str.ofString "_law_one"]) (x := (Str.ofString "_law_k")) ⟨rfl, by decide +kernel, by decide +kernel, rfl, by decide +kernel, by decide +kernel, by decide +kernel, by decide +kernel, rfl, by decide +kernel⟩ (di_rng1 rfl B.b_range (de_var 5)) (fun C s0 H0 ex => (de_call G__law_expr (rm hr) rfl (da_cons (de_var 1) (da_cons (de_var 2) (da_cons (de_bin o_fdiv (de_bin o_sub (de_var 3) de_int) (de_var 6)) (da_cons (de_bin o_sub (de_var 4) de_int) da_nil)))) (len_cons (len_cons (len_cons (len_cons len_nil)))))) (fun C s0 H0 ex => dts_nil)) da_nil)) da_nil)))))) dss_nil) (dss_cons (ds_if (dt_cmp o_eq (de_var 4) de_int) (dss_one (ds_ret (de_tup (da_cons de_str (da_cons (de_call G__law_expr (rm hr) rfl (da_cons (de_var 0) (da_cons (de_var 1) (da_cons (de_bin o_sub (de_var 2) de_int) (da_cons (de_bin o_sub (de_var 3) de_int) da_nil)))) (len_cons (len_cons (len_cons (len_cons len_nil))))) da_nil))))) dss_nil) (dss_cons (ds_set (i := 6) sc__law_expr.nd (de_ix x_seq (de_lst (da_cons de_str (da_cons de_str (da_cons de_str (da_cons de_str (da_cons de_str da_nil)))))) (de_call G__law_draw (rm hr) rfl (da_cons (de_var 0) (da_cons de_int da_nil)) (len_cons (len_cons len_nil))))) (dss_cons (ds_set (i := 7) sc__law_expr.nd (de_call G__law_expr (rm hr) rfl (da_cons (de_var 0) (da_cons (de_var 1) (da_cons (de_bin o_fdiv (de_bin o_sub (de_var 2) de_int) de_int) (da_cons (de_bin o_sub (de_var 3) de_int) da_nil)))) (len_cons (len_cons (len_cons (len_cons len_nil)))))) (dss_one (ds_ret (de_tup (da_cons (de_var 6) (da_cons (de_var 7) (da_cons (de_call G__law_expr (rm hr) rfl (da_cons (de_var 0) (da_cons (de_var 1) (da_cons (de_bin o_fdiv (de_bin o_sub (de_var 2) de_int) de_int) (da_cons (de_bin o_sub (de_var 3) de_int) da_nil)))) (len_cons (len_cons (len_cons (len_cons len_nil))))) da_nil))))))))))))
theorem sc__law_within : FnScope [Str.ofString "_law_thing"] [Str.ofString "_law_thing"] (defScope (top 65)) := ⟨rfl, rfl, rfl, by decide +kernel, rfl, by decide +kernel, by decide +kernel⟩
theorem ok__law_within {C : Addr} (B : Bi K mg C) (F : Fun K (Str.ofString "_law_within") (Str.ofString "_law_within") (top 65) f fd)  : FnOk P w K mg base CX0 1 f fd [Str.ofString "_law_thing"] (spM K (List.length [Str.ofString "_law_thing"]) (m__law_within)) :=
  dfn F sc__law_within fun _ _ _ _ _ _ hr => (dss_cons (ds_if (dt_cmp o_in (de_ix x_seq (de_var 0) de_int) (de_lst (da_cons de_str (da_cons de_str (da_cons de_str da_nil))))) (dss_one (ds_ret (de_lst da_nil))) dss_nil) (dss_cons (ds_if (dt_cmp o_eq (de_ix x_seq (de_var 0) de_int) de_str) (dss_one (ds_ret (de_callTy c_list rfl B.b_list boot_list (da_cons (de_ix x_seq (de_var 0) de_int) da_nil)))) dss_nil) (dss_one (ds_ret (de_callTy c_list rfl B.b_list boot_list (da_cons (de_sl (de_var 0) (dp_some de_int) dp_none) da_nil))))))
theorem sc__law_many : FnScope [Str.ofString "_law_thing"] [Str.ofString "_law_thing"] (defScope (top 66)) := ⟨rfl, rfl, rfl, by decide +kernel, rfl, by decide +kernel, by decide +kernel⟩
theorem ok__law_many {C : Addr} (n : Nat) (B : Bi K mg C) (F : Fun K (Str.ofString "_law_many") (Str.ofString "_law_many") (top 66) f fd) (G__law_within : Fn P w K mg base (Str.ofString "_law_within") [Str.ofString "_law_thing"] 1 (spM K (List.length [Str.ofString "_law_thing"]) m__law_within)) (G__law_many : Fn P w K mg base (Str.ofString "_law_many") [Str.ofString "_law_thing"] (1 + n) (spM K (List.length [Str.ofString "_law_thing"]) (m__law_many n))) : FnOk P w K mg base CX0 (1 + n + 1) f fd [Str.ofString "_law_thing"] (spM K (List.length [Str.ofString "_law_thing"]) (m__law_many (n + 1))) :=
  dfn F sc__law_many fun _ _ _ _ _ _ hr => (dss_one (ds_ret (de_bin o_add de_int (de_callB c_sum rfl B.b_sum boot_sum (da_cons (de_comp (osc := defScope (top 66)) (N := [Str.ofString "_law_thing"]) (N' := [Str.ofString "_law_thing"]) (x := (Str.ofString "_law_part")) ⟨rfl, by decide +kernel, by decide +kernel, rfl, by decide +kernel, by decide +kernel, by decide +kernel, by decide +kernel, rfl, by decide +kernel⟩ (di_iter (de_call G__law_within (rm hr) rfl (da_cons (de_var 0) da_nil) (len_cons len_nil))) (fun C s0 H0 ex => (de_call G__law_many (rm hr) rfl (da_cons (de_var 0) da_nil) (len_cons len_nil))) (fun C s0 H0 ex => dts_nil)) da_nil)))))
theorem sc__law_asked : FnScope [Str.ofString "_law_tape_here", Str.ofString "_law_got", Str.ofString "_law_room", Str.ofString "_law_deep"] [Str.ofString "_law_tape_here", Str.ofString "_law_got", Str.ofString "_law_room", Str.ofString "_law_deep"] (defScope (top 67)) := ⟨rfl, rfl, rfl, by decide +kernel, rfl, by decide +kernel, by decide +kernel⟩
theorem ok__law_asked {C : Addr} (B : Bi K mg C) (F : Fun K (Str.ofString "_law_asked") (Str.ofString "_law_asked") (top 67) f fd) (G__law_draw : Fn P w K mg base (Str.ofString "_law_draw") [Str.ofString "_law_tape_here", Str.ofString "_law_many_here"] 1 (spM K (List.length [Str.ofString "_law_tape_here", Str.ofString "_law_many_here"]) m__law_draw)) (G__law_name : Fn P w K mg base (Str.ofString "_law_name") [Str.ofString "_law_tape_here"] 2 (spM K (List.length [Str.ofString "_law_tape_here"]) m__law_name)) (G__law_expr : Fn P w K mg base (Str.ofString "_law_expr") [Str.ofString "_law_tape_here", Str.ofString "_law_got", Str.ofString "_law_room", Str.ofString "_law_deep"] 54 (spM K (List.length [Str.ofString "_law_tape_here", Str.ofString "_law_got", Str.ofString "_law_room", Str.ofString "_law_deep"]) (m__law_expr 25))) : FnOk P w K mg base CX0 55 f fd [Str.ofString "_law_tape_here", Str.ofString "_law_got", Str.ofString "_law_room", Str.ofString "_law_deep"] (spM K (List.length [Str.ofString "_law_tape_here", Str.ofString "_law_got", Str.ofString "_law_room", Str.ofString "_law_deep"]) (m__law_asked)) :=
  dfn F sc__law_asked fun _ _ _ _ _ _ hr => (dss_cons (ds_if (dt_cmp o_gt (de_call G__law_draw (rm hr) rfl (da_cons (de_var 0) (da_cons de_int da_nil)) (len_cons (len_cons len_nil))) de_int) (dss_one (ds_ret (de_tup (da_cons de_str (da_cons (de_call G__law_name (rm hr) rfl (da_cons (de_var 0) da_nil) (len_cons len_nil)) da_nil))))) dss_nil) (dss_one (ds_ret (de_call G__law_expr (rm hr) rfl (da_cons (de_var 0) (da_cons (de_var 1) (da_cons (de_callB c_min rfl B.b_min boot_min (da_cons (de_var 2) (da_cons de_int da_nil))) (da_cons (de_var 3) da_nil)))) (len_cons (len_cons (len_cons (len_cons len_nil))))))))
theorem sc__law_recipe : FnScope [Str.ofString "_law_tape_here", Str.ofString "_law_got", Str.ofString "_law_room", Str.ofString "_law_deep", Str.ofString "_law_way", Str.ofString "_law_asked_here", Str.ofString "_law_left", Str.ofString "_law_one", Str.ofString "_law_first"] [Str.ofString "_law_tape_here", Str.ofString "_law_got", Str.ofString "_law_room", Str.ofString "_law_deep"] (defScope (top 68)) := ⟨rfl, rfl, rfl, by decide +kernel, rfl, by decide +kernel, by decide +kernel⟩
theorem ok__law_recipe {C : Addr} (n : Nat) (B : Bi K mg C) (F : Fun K (Str.ofString "_law_recipe") (Str.ofString "_law_recipe") (top 68) f fd) (G__law_draw : Fn P w K mg base (Str.ofString "_law_draw") [Str.ofString "_law_tape_here", Str.ofString "_law_many_here"] 1 (spM K (List.length [Str.ofString "_law_tape_here", Str.ofString "_law_many_here"]) m__law_draw)) (G__law_name : Fn P w K mg base (Str.ofString "_law_name") [Str.ofString "_law_tape_here"] 2 (spM K (List.length [Str.ofString "_law_tape_here"]) m__law_name)) (G__law_expr : Fn P w K mg base (Str.ofString "_law_expr") [Str.ofString "_law_tape_here", Str.ofString "_law_got", Str.ofString "_law_room", Str.ofString "_law_deep"] 54 (spM K (List.length [Str.ofString "_law_tape_here", Str.ofString "_law_got", Str.ofString "_law_room", Str.ofString "_law_deep"]) (m__law_expr 25))) (G__law_asked : Fn P w K mg base (Str.ofString "_law_asked") [Str.ofString "_law_tape_here", Str.ofString "_law_got", Str.ofString "_law_room", Str.ofString "_law_deep"] 55 (spM K (List.length [Str.ofString "_law_tape_here", Str.ofString "_law_got", Str.ofString "_law_room", Str.ofString "_law_deep"]) m__law_asked)) (G__law_many : Fn P w K mg base (Str.ofString "_law_many") [Str.ofString "_law_thing"] 26 (spM K (List.length [Str.ofString "_law_thing"]) (m__law_many 25))) (G__law_recipe : Fn P w K mg base (Str.ofString "_law_recipe") [Str.ofString "_law_tape_here", Str.ofString "_law_got", Str.ofString "_law_room", Str.ofString "_law_deep"] (55 + n) (spM K (List.length [Str.ofString "_law_tape_here", Str.ofString "_law_got", Str.ofString "_law_room", Str.ofString "_law_deep"]) (m__law_recipe n))) : FnOk P w K mg base CX0 (55 + n + 1) f fd [Str.ofString "_law_tape_here", Str.ofString "_law_got", Str.ofString "_law_room", Str.ofString "_law_deep"] (spM K (List.length [Str.ofString "_law_tape_here", Str.ofString "_law_got", Str.ofString "_law_room", Str.ofString "_law_deep"]) (m__law_recipe (n + 1))) :=
  dfn F sc__law_recipe fun _ _ _ _ _ _ hr => (dss_cons (ds_set (i := 4) sc__law_recipe.nd (de_call G__law_draw (rm hr) rfl (da_cons (de_var 0) (da_cons de_int da_nil)) (len_cons (len_cons len_nil)))) (dss_cons (ds_if (dw_pt (dw_or (dt_cmp o_lt (de_var 2) de_int) (dw_or (dt_cmp o_lt (de_var 3) de_int) (dw_or1 (dt_cmp o_eq (de_var 4) de_int))))) (dss_one (ds_ret (de_tup (da_cons de_str (da_cons (de_call G__law_name (rm hr) rfl (da_cons (de_var 0) da_nil) (len_cons len_nil)) da_nil))))) dss_nil) (dss_cons (ds_if (dw_pt (dw_or (dt_cmp o_lt (de_var 2) de_int) (dw_or (dt_cmp o_lt (de_var 4) de_int) (dw_or1 (dw_pt (dw_and (dt_cmp o_lt (de_var 4) de_int) (dw_and1 (dt_cmp o_eq (de_var 1) de_int)))))))) (dss_one (ds_ret (de_tup (da_cons de_str (da_cons (de_call G__law_expr (rm hr) rfl (da_cons (de_var 0) (da_cons (de_var 1) (da_cons (de_bin o_sub (de_var 2) de_int) (da_cons (de_bin o_sub (de_var 3) de_int) da_nil)))) (len_cons (len_cons (len_cons (len_cons len_nil))))) da_nil))))) dss_nil) (dss_cons (ds_if (dt_cmp o_lt (de_var 4) de_int) (dss_cons (ds_set (i := 5) sc__law_recipe.nd (de_call G__law_asked (rm hr) rfl (da_cons (de_var 0) (da_cons (de_var 1) (da_cons (de_bin o_sub (de_var 2) de_int) (da_cons (de_bin o_sub (de_var 3) de_int) da_nil)))) (len_cons (len_cons (len_cons (len_cons len_nil)))))) (dss_cons (ds_set (i := 6) sc__law_recipe.nd (de_bin o_sub (de_bin o_sub (de_var 2) de_int) (de_call G__law_many (rm hr) rfl (da_cons (de_var 5) da_nil) (len_cons len_nil)))) (dss_one (ds_ret (de_tup (da_cons (de_ix x_seq (de_lst (da_cons de_str (da_cons de_str (da_cons de_str da_nil)))) (de_call G__law_draw (rm hr) rfl (da_cons (de_var 0) (da_cons de_int da_nil)) (len_cons (len_cons len_nil)))) (da_cons (de_var 5) (da_cons (de_call G__law_recipe (rm hr) rfl (da_cons (de_var 0) (da_cons (de_bin o_add (de_var 1) de_int) (da_cons (de_var 6) (da_cons (de_bin o_sub (de_var 3) de_int) da_nil)))) (len_cons (len_cons (len_cons (len_cons len_nil))))) da_nil)))))))) dss_nil) (dss_cons (ds_set (i := 7) sc__law_recipe.nd (de_call G__law_expr (rm hr) rfl (da_cons (de_var 0) (da_cons (de_var 1) (da_cons (de_bin o_fdiv (de_var 2) de_int) (da_cons (de_bin o_sub (de_var 3) de_int) da_nil)))) (len_cons (len_cons (len_cons (len_cons len_nil)))))) (dss_cons (ds_set (i := 6) sc__law_recipe.nd (de_bin o_fdiv (de_bin o_sub (de_bin o_sub (de_var 2) de_int) (de_call G__law_many (rm hr) rfl (da_cons (de_var 7) da_nil) (len_cons len_nil))) de_int)) (dss_cons (ds_set (i := 8) sc__law_recipe.nd (de_call G__law_recipe (rm hr) rfl (da_cons (de_var 0) (da_cons (de_var 1) (da_cons (de_var 6) (da_cons (de_bin o_sub (de_var 3) de_int) da_nil)))) (len_cons (len_cons (len_cons (len_cons len_nil)))))) (dss_one (ds_ret (de_tup (da_cons de_str (da_cons (de_var 7) (da_cons (de_var 8) (da_cons (de_call G__law_recipe (rm hr) rfl (da_cons (de_var 0) (da_cons (de_var 1) (da_cons (de_var 6) (da_cons (de_bin o_sub (de_var 3) de_int) da_nil)))) (len_cons (len_cons (len_cons (len_cons len_nil))))) da_nil))))))))))))))
theorem sc__law_words : FnScope [Str.ofString "_law_thing", Str.ofString "_law_words_here", Str.ofString "_law_part"] [Str.ofString "_law_thing"] (defScope (top 69)) := ⟨rfl, rfl, rfl, by decide +kernel, rfl, by decide +kernel, by decide +kernel⟩
theorem ok__law_words {C : Addr} (n : Nat) (B : Bi K mg C) (F : Fun K (Str.ofString "_law_words") (Str.ofString "_law_words") (top 69) f fd) (G__law_stamp : Fn P w K mg base (Str.ofString "_law_stamp") [Str.ofString "_law_value_here"] 25 (spM K (List.length [Str.ofString "_law_value_here"]) (m__law_stamp 25))) (G__law_within : Fn P w K mg base (Str.ofString "_law_within") [Str.ofString "_law_thing"] 1 (spM K (List.length [Str.ofString "_law_thing"]) m__law_within)) (G__law_words : Fn P w K mg base (Str.ofString "_law_words") [Str.ofString "_law_thing"] (25 + n) (spM K (List.length [Str.ofString "_law_thing"]) (m__law_words n))) : FnOk P w K mg base CX0 (25 + n + 1) f fd [Str.ofString "_law_thing"] (spM K (List.length [Str.ofString "_law_thing"]) (m__law_words (n + 1))) :=
  dfn F sc__law_words fun _ _ _ _ _ _ hr => (dss_cons (ds_setL (i := 1) sc__law_words.nd (da_cons (de_ix x_seq (de_var 0) de_int) da_nil)) (dss_cons (ds_if (dt_cmp o_eq (de_ix x_seq (de_var 0) de_int) de_str) (dss_one (ds_app (i := 1) (by exact (de_call G__law_stamp (rm hr) rfl (da_cons (de_ix x_seq (de_var 0) de_int) da_nil) (len_cons len_nil))))) (dss_one (ds_if (dw_pt (dw_or (dt_cmp o_eq (de_ix x_seq (de_var 0) de_int) de_str) (dw_or1 (dt_cmp o_eq (de_ix x_seq (de_var 0) de_int) de_str)))) (dss_one (ds_app (i := 1) (by exact (de_callTy c_strS rfl B.b_str boot_str (da_cons (de_ix x_seq (de_var 0) de_int) da_nil))))) (dss_one (ds_if (dt_cmp o_eq (de_ix x_seq (de_var 0) de_int) de_str) (dss_one (ds_app (i := 1) (by exact (de_callTy c_strS rfl B.b_str boot_str (da_cons (de_callB c_len rfl B.b_len boot_len (da_cons (de_ix x_seq (de_var 0) de_int) da_nil)) da_nil))))) dss_nil))))) (dss_cons (ds_for (i := 2) sc__law_words.nd (di_iter (de_call G__law_within (rm hr) rfl (da_cons (de_var 0) da_nil) (len_cons len_nil))) (dss_one (ds_ext (i := 1) (by exact (de_call G__law_words (rm hr) rfl (da_cons (de_var 2) da_nil) (len_cons len_nil)))))) (dss_one (ds_ret (de_var 1))))))
theorem sc__law_great : FnScope [Str.ofString "_law_tape_here", Str.ofString "_law_said"] [Str.ofString "_law_tape_here"] (defScope (top 70)) := ⟨rfl, rfl, rfl, by decide +kernel, rfl, by decide +kernel, by decide +kernel⟩
theorem ok__law_great {C : Addr} (B : Bi K mg C) (F : Fun K (Str.ofString "_law_great") (Str.ofString "_law_great") (top 70) f fd) (G__law_value : Fn P w K mg base (Str.ofString "_law_value") [Str.ofString "_law_tape_here", Str.ofString "_law_deep", Str.ofString "_law_room"] 28 (spM K (List.length [Str.ofString "_law_tape_here", Str.ofString "_law_deep", Str.ofString "_law_room"]) (m__law_value 25))) (G__law_name : Fn P w K mg base (Str.ofString "_law_name") [Str.ofString "_law_tape_here"] 2 (spM K (List.length [Str.ofString "_law_tape_here"]) m__law_name)) : FnOk P w K mg base CX0 29 f fd [Str.ofString "_law_tape_here"] (spM K (List.length [Str.ofString "_law_tape_here"]) (m__law_great)) :=
  dfn F sc__law_great fun _ _ _ _ _ _ hr => (dss_cons (ds_set (i := 1) sc__law_great.nd (de_tup (da_cons de_str (da_cons (de_tup (da_cons de_str (da_cons (de_call G__law_value (rm hr) rfl (da_cons (de_var 0) (da_cons de_int (da_cons de_int da_nil))) (len_cons (len_cons (len_cons len_nil)))) da_nil))) da_nil)))) (dss_one (ds_ret (de_tup (da_cons de_str (da_cons (de_tup (da_cons de_str (da_cons (de_call G__law_value (rm hr) rfl (da_cons (de_var 0) (da_cons de_int (da_cons de_int da_nil))) (len_cons (len_cons (len_cons len_nil)))) da_nil))) (da_cons (de_var 1) (da_cons (de_tup (da_cons de_str (da_cons (de_call G__law_name (rm hr) rfl (da_cons (de_var 0) da_nil) (len_cons len_nil)) da_nil))) da_nil))))))))
theorem sc__law_wants : FnScope [Str.ofString "_law_tape_here", Str.ofString "_law_recipe_here", Str.ofString "_law_k"] [Str.ofString "_law_tape_here"] (defScope (top 71)) := ⟨rfl, rfl, rfl, by decide +kernel, rfl, by decide +kernel, by decide +kernel⟩
theorem ok__law_wants {C : Addr} (B : Bi K mg C) (F : Fun K (Str.ofString "_law_wants") (Str.ofString "_law_wants") (top 71) f fd) (G__law_draw : Fn P w K mg base (Str.ofString "_law_draw") [Str.ofString "_law_tape_here", Str.ofString "_law_many_here"] 1 (spM K (List.length [Str.ofString "_law_tape_here", Str.ofString "_law_many_here"]) m__law_draw)) (G__law_name : Fn P w K mg base (Str.ofString "_law_name") [Str.ofString "_law_tape_here"] 2 (spM K (List.length [Str.ofString "_law_tape_here"]) m__law_name)) : FnOk P w K mg base CX0 3 f fd [Str.ofString "_law_tape_here"] (spM K (List.length [Str.ofString "_law_tape_here"]) (m__law_wants)) :=
  dfn F sc__law_wants fun _ _ _ _ _ _ hr => (dss_cons (ds_set (i := 1) sc__law_wants.nd (de_tup (da_cons de_str (da_cons (de_tup (da_cons de_str (da_cons (de_tup (da_cons de_str (da_cons de_int da_nil))) (da_cons (de_tup (da_cons de_str (da_cons (de_bin o_add de_int (de_call G__law_draw (rm hr) rfl (da_cons (de_var 0) (da_cons de_int da_nil)) (len_cons (len_cons len_nil)))) da_nil))) da_nil)))) da_nil)))) (dss_cons (ds_for (i := 2) sc__law_wants.nd (di_rng1 rfl B.b_range de_int) (dss_one (ds_set (i := 1) sc__law_wants.nd (de_tup (da_cons (de_ix x_seq (de_lst (da_cons de_str (da_cons de_str da_nil))) (de_call G__law_draw (rm hr) rfl (da_cons (de_var 0) (da_cons de_int da_nil)) (len_cons (len_cons len_nil)))) (da_cons (de_tup (da_cons de_str (da_cons (de_call G__law_name (rm hr) rfl (da_cons (de_var 0) da_nil) (len_cons len_nil)) da_nil))) (da_cons (de_var 1) da_nil))))))) (dss_one (ds_ret (de_var 1)))))
theorem sc__law_tape : FnScope [Str.ofString "_law_script"] [Str.ofString "_law_script"] (defScope (top 55)) := ⟨rfl, rfl, rfl, by decide +kernel, rfl, by decide +kernel, by decide +kernel⟩
theorem ok__law_tape (F : Fun K (Str.ofString "_law_tape") (Str.ofString "_law_tape") (top 55) f fd) : FnOk P w K mg base CX0 1 f fd [Str.ofString "_law_script"] (spTape K) := by
  refine F.ok sc__law_tape (fun vs H Q E h => ?_) (fun cdv A outer s H vs Q E hr h => ?_)
  · obtain ⟨s, rfl, _⟩ := h
    rfl
  obtain ⟨s, rfl, q⟩ := h
  exact ⟨_, pss_one (ps_ret (pe_lst (pa_cons (pv 0) (pa_cons pe_int (pa_cons pe_int pa_nil))))), _, rfl, (by show 3 ≤ sizeLine; decide), fun p hp => q p hp⟩
theorem sc_law : FnScope [Str.ofString "_law_script", Str.ofString "_law_tape_here", Str.ofString "_law_recipes", Str.ofString "_law_recipe_here", Str.ofString "_law_text_here", Str.ofString "_law_one", Str.ofString "_law_other"] [Str.ofString "_law_script"] (defScope (top 72)) := ⟨rfl, rfl, rfl, by decide +kernel, rfl, by decide +kernel, by decide +kernel⟩
theorem rest_law {C : Addr} {cdv : Value} {A : Around} {outer : List Env} {s : Shared} {H : Hp} {E : XK} (B : Bi K mg C) (G__law_great : Fn P w K mg base (Str.ofString "_law_great") [Str.ofString "_law_tape_here"] 29 (spM K (List.length [Str.ofString "_law_tape_here"]) m__law_great)) (G__law_recipe : Fn P w K mg base (Str.ofString "_law_recipe") [Str.ofString "_law_tape_here", Str.ofString "_law_got", Str.ofString "_law_room", Str.ofString "_law_deep"] 80 (spM K (List.length [Str.ofString "_law_tape_here", Str.ofString "_law_got", Str.ofString "_law_room", Str.ofString "_law_deep"]) (m__law_recipe 25))) (G__law_wants : Fn P w K mg base (Str.ofString "_law_wants") [Str.ofString "_law_tape_here"] 3 (spM K (List.length [Str.ofString "_law_tape_here"]) m__law_wants)) (G__law_words : Fn P w K mg base (Str.ofString "_law_words") [Str.ofString "_law_thing"] 50 (spM K (List.length [Str.ofString "_law_thing"]) (m__law_words 25))) (G_show_recipe : Fn P w K mg base (Str.ofString "show_recipe") [Str.ofString "recipe"] 78 (spM K (List.length [Str.ofString "recipe"]) m_show_recipe)) (G__law_alike : Fn P w K mg base (Str.ofString "_law_alike") [Str.ofString "_law_due", Str.ofString "_law_found"] 60 (spM K (List.length [Str.ofString "_law_due", Str.ofString "_law_found"]) (m__law_alike 60))) (G_read_recipe : Fn P w K mg base (Str.ofString "read_recipe") [Str.ofString "text"] 108 (spM K (List.length [Str.ofString "text"]) (m_read_recipe C))) (hr : Room 108 (A.deeper (envOfC (Str.ofString "law") (defScope (top 72)) s.heap.objs.size f cdv))) :
    DSs (cxOf CX0 P w K mg base [Str.ofString "_law_script", Str.ofString "_law_tape_here", Str.ofString "_law_recipes", Str.ofString "_law_recipe_here", Str.ofString "_law_text_here", Str.ofString "_law_one", Str.ofString "_law_other"] (Str.ofString "law") (defScope (top 72)) f cdv A outer s H E).nox (List.tail (defBody (top 72))) (m_law C) :=
  (dss_cons (ds_set (i := 2) sc_law.nd (de_bin o_add (de_lst (da_cons (de_call G__law_great (rm hr) rfl (da_cons (de_var 1) da_nil) (len_cons len_nil)) da_nil)) (de_comp (osc := defScope (top 72)) (N := [Str.ofString "_law_script", Str.ofString "_law_tape_here", Str.ofString "_law_recipes", Str.ofString "_law_recipe_here", Str.ofString "_law_text_here", Str.ofString "_law_one", Str.ofString "_law_other"]) (N' := [Str.ofString "_law_script", Str.ofString "_law_tape_here", Str.ofString "_law_recipes", Str.ofString "_law_recipe_here", Str.ofString "_law_text_here", Str.ofString "_law_one", Str.ofString "_law_other"]) (x := (Str.ofString "_law_k")) ⟨rfl, by decide +kernel, by decide +kernel, rfl, by decide +kernel, by decide +kernel, by decide +kernel, by decide +kernel, rfl, by decide +kernel⟩ (di_rng1 rfl B.b_range de_int) (fun C s0 H0 ex => (de_call G__law_recipe (rm hr) rfl (da_cons (de_var 2) (da_cons de_int (da_cons de_int (da_cons de_int da_nil)))) (len_cons (len_cons (len_cons (len_cons len_nil)))))) (fun C s0 H0 ex => dts_nil)))) (dss_cons (ds_set (i := 2) sc_law.nd (de_bin o_add (de_bin o_add (de_var 2) (de_comp (osc := defScope (top 72)) (N := [Str.ofString "_law_script", Str.ofString "_law_tape_here", Str.ofString "_law_recipes", Str.ofString "_law_recipe_here", Str.ofString "_law_text_here", Str.ofString "_law_one", Str.ofString "_law_other"]) (N' := [Str.ofString "_law_script", Str.ofString "_law_tape_here", Str.ofString "_law_recipes", Str.ofString "_law_recipe_here", Str.ofString "_law_text_here", Str.ofString "_law_one", Str.ofString "_law_other"]) (x := (Str.ofString "_law_k")) ⟨rfl, by decide +kernel, by decide +kernel, rfl, by decide +kernel, by decide +kernel, by decide +kernel, by decide +kernel, rfl, by decide +kernel⟩ (di_rng1 rfl B.b_range de_int) (fun C s0 H0 ex => (de_call G__law_recipe (rm hr) rfl (da_cons (de_var 2) (da_cons de_int (da_cons de_int (da_cons de_int da_nil)))) (len_cons (len_cons (len_cons (len_cons len_nil)))))) (fun C s0 H0 ex => dts_nil))) (de_lst (da_cons (de_call G__law_wants (rm hr) rfl (da_cons (de_var 1) da_nil) (len_cons len_nil)) da_nil)))) (dss_cons (ds_for (i := 3) sc_law.nd (di_iter (de_var 2)) (dss_cons (ds_set (i := 4) sc_law.nd (de_join de_str (de_call G__law_words (rm hr) rfl (da_cons (de_var 3) da_nil) (len_cons len_nil)))) (dss_one (ds_if (dw_pt (dw_or (dt_not (dt_tru (de_call G__law_alike (rm hr) rfl (da_cons (de_var 4) (da_cons (de_call G_show_recipe (rm hr) rfl (da_cons (de_var 3) da_nil) (len_cons len_nil)) da_nil)) (len_cons (len_cons len_nil))))) (dw_or1 (dt_not (dt_tru (de_call G__law_alike (rm hr) rfl (da_cons (de_var 3) (da_cons (de_call G_read_recipe (rm hr) rfl (da_cons (de_var 4) da_nil) (len_cons len_nil)) da_nil)) (len_cons (len_cons len_nil)))))))) (dss_one (ds_ret de_bl)) dss_nil)))) (dss_cons (ds_for (i := 5) sc_law.nd (di_iter (de_var 2)) (dss_one (ds_for (i := 6) sc_law.nd (di_iter (de_var 2)) (dss_one (ds_if (dt_cmp o_ne (de_cmp o_eq (de_call G_show_recipe (rm hr) rfl (da_cons (de_var 5) da_nil) (len_cons len_nil)) (de_call G_show_recipe (rm hr) rfl (da_cons (de_var 6) da_nil) (len_cons len_nil))) (de_call G__law_alike (rm hr) rfl (da_cons (de_var 5) (da_cons (de_var 6) da_nil)) (len_cons (len_cons len_nil)))) (dss_one (ds_ret de_bl)) dss_nil))))) (dss_one (ds_ret de_bl))))))
theorem ok_law {C : Addr} (B : Bi K mg C) (F : Fun K (Str.ofString "law") (Str.ofString "law") (top 72) f fd) (GT : Fn P w K mg base (Str.ofString "_law_tape") [Str.ofString "_law_script"] 1 (spTape K)) (G__law_great : Fn P w K mg base (Str.ofString "_law_great") [Str.ofString "_law_tape_here"] 29 (spM K (List.length [Str.ofString "_law_tape_here"]) m__law_great)) (G__law_recipe : Fn P w K mg base (Str.ofString "_law_recipe") [Str.ofString "_law_tape_here", Str.ofString "_law_got", Str.ofString "_law_room", Str.ofString "_law_deep"] 80 (spM K (List.length [Str.ofString "_law_tape_here", Str.ofString "_law_got", Str.ofString "_law_room", Str.ofString "_law_deep"]) (m__law_recipe 25))) (G__law_wants : Fn P w K mg base (Str.ofString "_law_wants") [Str.ofString "_law_tape_here"] 3 (spM K (List.length [Str.ofString "_law_tape_here"]) m__law_wants)) (G__law_words : Fn P w K mg base (Str.ofString "_law_words") [Str.ofString "_law_thing"] 50 (spM K (List.length [Str.ofString "_law_thing"]) (m__law_words 25))) (G_show_recipe : Fn P w K mg base (Str.ofString "show_recipe") [Str.ofString "recipe"] 78 (spM K (List.length [Str.ofString "recipe"]) m_show_recipe)) (G__law_alike : Fn P w K mg base (Str.ofString "_law_alike") [Str.ofString "_law_due", Str.ofString "_law_found"] 60 (spM K (List.length [Str.ofString "_law_due", Str.ofString "_law_found"]) (m__law_alike 60))) (G_read_recipe : Fn P w K mg base (Str.ofString "read_recipe") [Str.ofString "text"] 108 (spM K (List.length [Str.ofString "text"]) (m_read_recipe C)))
    (hm : ∀ ns : List Int, ns.length ≤ 63 → ∃ ρ' T', m_law C (some (.d (script ns)) :: some (.tp 0) :: List.replicate (List.length [Str.ofString "_law_script", Str.ofString "_law_tape_here", Str.ofString "_law_recipes", Str.ofString "_law_recipe_here", Str.ofString "_law_text_here", Str.ofString "_law_one", Str.ofString "_law_other"] - 2) none) [[script ns, .int 0, .int 0]] = some ((.rt (.bool true), ρ'), T')) : FnOk P w K mg base CX0 109 f fd [Str.ofString "_law_script"] (spLaw K) := by
  refine F.ok sc_law (fun vs H Q E h => ?_) (fun cdv A outer s H vs Q E hr h => ?_)
  · obtain ⟨a, ns, rfl, _⟩ := h
    rfl
  exact ⟨_, pss_cons (ps_set (i := 1) sc_law.nd rfl (by first | exact Or.inl rfl | exact Or.inr rfl) (pe_fn GT (rm hr) rfl (pa_cons (pv 0) pa_nil))) (rest_law B G__law_great G__law_recipe G__law_wants G__law_words G_show_recipe G__law_alike G_read_recipe hr).pe, law_start h (by decide) hm⟩
end G
namespace G
open PySem PySem.Spec PyProof.Rows L2 D
theorem len1 {α : Type} {us : List α} (h : us.length = 1) : ∃ a, us = [a] := List.length_eq_one_iff.mp h
theorem len2 {α : Type} : ∀ {us : List α}, us.length = 2 → ∃ a b, us = [a, b]
  | [a, b], _ => ⟨a, b, rfl⟩
theorem len3 {α : Type} : ∀ {us : List α}, us.length = 3 → ∃ a b c, us = [a, b, c]
  | [a, b, c], _ => ⟨a, b, c, rfl⟩
theorem len4 {α : Type} : ∀ {us : List α}, us.length = 4 → ∃ a b c d, us = [a, b, c, d]
  | [a, b, c, d], _ => ⟨a, b, c, d, rfl⟩
theorem all_mk {l : PySem.W.OpenLaw} {w : World} {K : PySem.W.Frag} {h : Heap} {mg : Str → Option Value} {fa : Addr} (X : K.In h) (G : h.Ns mainGlobals mg) (hfa : mg (Str.ofString "law") = some (.ref fa)) {C : Addr} (qC : PySem.W.nsIn K mainGlobals (Str.ofString "Words") = some (some (.ref C))) (kC : clsB K C = true) (gC : mkB K C = true) (n_begun : noB K C (Str.ofString "begun") = true) (n_parted : noB K C (Str.ofString "parted") = true) (n_place : noB K C (Str.ofString "place") = true) (d_is_whole : Df K (Str.ofString "is_whole") (top 11)) (d_has_only : Df K (Str.ofString "has_only") (top 12)) (d_is_name : Df K (Str.ofString "is_name") (top 13)) (d_is_single : Df K (Str.ofString "is_single") (top 14)) (d_is_built : Df K (Str.ofString "is_built") (top 15)) (d_many_of : Df K (Str.ofString "many_of") (top 17)) (d_is_value : Df K (Str.ofString "is_value") (top 16)) (d_exprs_within : Df K (Str.ofString "exprs_within") (top 21)) (d_got_behind : Df K (Str.ofString "got_behind") (top 28)) (d_stamp_of : Df K (Str.ofString "stamp_of") (top 32)) (d_is_figures : Df K (Str.ofString "is_figures") (top 39)) (d_number_by : Df K (Str.ofString "number_by") (top 38)) (d_single_by : Df K (Str.ofString "single_by") (top 37)) (d_single_at : Df K (Str.ofString "single_at") (top 36)) (d_row_at : Df K (Str.ofString "row_at") (top 35)) (d_value_at : Df K (Str.ofString "value_at") (top 34)) (d_value_by : Df K (Str.ofString "value_by") (top 33)) (d_filling_words : Df K (Str.ofString "filling_words") (top 45)) (d_expr_words : Df K (Str.ofString "expr_words") (top 44)) (d_recipe_words : Df K (Str.ofString "recipe_words") (top 43)) (d_show_recipe : Df K (Str.ofString "show_recipe") (top 42)) (d_put_by : Df K (Str.ofString "put_by") (top 52)) (d_number_below : Df K (Str.ofString "number_below") (top 53)) (d_exprs_by : Df K (Str.ofString "exprs_by") (top 50)) (d_expr_by : Df K (Str.ofString "expr_by") (top 49)) (d_name_by : Df K (Str.ofString "name_by") (top 51)) (d_recipe_by : Df K (Str.ofString "recipe_by") (top 48)) (d_read_recipe : Df K (Str.ofString "read_recipe") (top 47)) (d__law_tape : Df K (Str.ofString "_law_tape") (top 55)) (d__law_draw : Df K (Str.ofString "_law_draw") (top 56)) (d__law_name : Df K (Str.ofString "_law_name") (top 57)) (d__law_text : Df K (Str.ofString "_law_text") (top 58)) (d__law_number : Df K (Str.ofString "_law_number") (top 59)) (d__law_value : Df K (Str.ofString "_law_value") (top 60)) (d__law_alike : Df K (Str.ofString "_law_alike") (top 61)) (d__law_stamp : Df K (Str.ofString "_law_stamp") (top 62)) (d__law_leaf : Df K (Str.ofString "_law_leaf") (top 63)) (d__law_expr : Df K (Str.ofString "_law_expr") (top 64)) (d__law_within : Df K (Str.ofString "_law_within") (top 65)) (d__law_many : Df K (Str.ofString "_law_many") (top 66)) (d__law_asked : Df K (Str.ofString "_law_asked") (top 67)) (d__law_recipe : Df K (Str.ofString "_law_recipe") (top 68)) (d__law_words : Df K (Str.ofString "_law_words") (top 69)) (d__law_great : Df K (Str.ofString "_law_great") (top 70)) (d__law_wants : Df K (Str.ofString "_law_wants") (top 71)) (d_law : Df K (Str.ofString "law") (top 72)) (d_Words____init__ : DfM K C (Str.ofString "__init__") (Str.ofString "Words.__init__") (mtop 46 0)) (d_Words__ahead : DfM K C (Str.ofString "ahead") (Str.ofString "Words.ahead") (mtop 46 1)) (d_Words__take : DfM K C (Str.ofString "take") (Str.ofString "Words.take") (mtop 46 2)) (d_Words__begin : DfM K C (Str.ofString "begin") (Str.ofString "Words.begin") (mtop 46 3)) (d_Words__finish : DfM K C (Str.ofString "finish") (Str.ofString "Words.finish") (mtop 46 4)) (z_abs : PySem.W.nsIn K mainGlobals (Str.ofString "abs") = some none) (z_all : PySem.W.nsIn K mainGlobals (Str.ofString "all") = some none) (z_bool : PySem.W.nsIn K mainGlobals (Str.ofString "bool") = some none) (z_int : PySem.W.nsIn K mainGlobals (Str.ofString "int") = some none) (z_isinstance : PySem.W.nsIn K mainGlobals (Str.ofString "isinstance") = some none) (z_len : PySem.W.nsIn K mainGlobals (Str.ofString "len") = some none) (z_list : PySem.W.nsIn K mainGlobals (Str.ofString "list") = some none) (z_min : PySem.W.nsIn K mainGlobals (Str.ofString "min") = some none) (z_range : PySem.W.nsIn K mainGlobals (Str.ofString "range") = some none) (z_str : PySem.W.nsIn K mainGlobals (Str.ofString "str") = some none) (z_sum : PySem.W.nsIn K mainGlobals (Str.ofString "sum") = some none) (z_tuple : PySem.W.nsIn K mainGlobals (Str.ofString "tuple") = some none) {t_FIGURES : Tok} (y_FIGURES : PySem.W.nsIn K mainGlobals (Str.ofString "FIGURES") = some (some (.str (Str.ofString "0123456789") t_FIGURES))) {t_LETTERS : Tok} (y_LETTERS : PySem.W.nsIn K mainGlobals (Str.ofString "LETTERS") = some (some (.str (Str.ofString "abcdefghijklmnopqrstuvwxyz") t_LETTERS))) {t_MOST_DEEP : Tok} (y_MOST_DEEP : PySem.W.nsIn K mainGlobals (Str.ofString "MOST_DEEP") = some (some (.int 20 t_MOST_DEEP))) {t_MOST_FIGURES : Tok} (y_MOST_FIGURES : PySem.W.nsIn K mainGlobals (Str.ofString "MOST_FIGURES") = some (some (.int 19 t_MOST_FIGURES))) {t_MOST_IN_ROW : Tok} (y_MOST_IN_ROW : PySem.W.nsIn K mainGlobals (Str.ofString "MOST_IN_ROW") = some (some (.int 8 t_MOST_IN_ROW))) {t_MOST_LETTERS : Tok} (y_MOST_LETTERS : PySem.W.nsIn K mainGlobals (Str.ofString "MOST_LETTERS") = some (some (.int 8 t_MOST_LETTERS))) {t_MOST_PARTS : Tok} (y_MOST_PARTS : PySem.W.nsIn K mainGlobals (Str.ofString "MOST_PARTS") = some (some (.int 8 t_MOST_PARTS))) {t_MOST_PARTS_IN_ALL : Tok} (y_MOST_PARTS_IN_ALL : PySem.W.nsIn K mainGlobals (Str.ofString "MOST_PARTS_IN_ALL") = some (some (.int 60 t_MOST_PARTS_IN_ALL))) {t_MOST_ROWS : Tok} (y_MOST_ROWS : PySem.W.nsIn K mainGlobals (Str.ofString "MOST_ROWS") = some (some (.int 4 t_MOST_ROWS))) {t_MOST_SIGNS : Tok} (y_MOST_SIGNS : PySem.W.nsIn K mainGlobals (Str.ofString "MOST_SIGNS") = some (some (.int 20 t_MOST_SIGNS))) {t_MOST_VALUES : Tok} (y_MOST_VALUES : PySem.W.nsIn K mainGlobals (Str.ofString "MOST_VALUES") = some (some (.int 40 t_MOST_VALUES))) {t_MOST_WANTS : Tok} (y_MOST_WANTS : PySem.W.nsIn K mainGlobals (Str.ofString "MOST_WANTS") = some (some (.int 12 t_MOST_WANTS))) {t_TEXT_SIGNS : Tok} (y_TEXT_SIGNS : PySem.W.nsIn K mainGlobals (Str.ofString "TEXT_SIGNS") = some (some (.str (Str.ofString "abcdefghijklmnopqrstuvwxyz0123456789-") t_TEXT_SIGNS))) {a_RECIPES_WITHIN : Addr} {o_RECIPES_WITHIN : Obj} (u_RECIPES_WITHIN : PySem.W.nsIn K mainGlobals (Str.ofString "RECIPES_WITHIN") = some (some (.ref a_RECIPES_WITHIN))) (l_RECIPES_WITHIN : K.lookup a_RECIPES_WITHIN = some o_RECIPES_WITHIN) (v_RECIPES_WITHIN : tabO a_RECIPES_WITHIN o_RECIPES_WITHIN [((Str.ofString "say"), 0), ((Str.ofString "fail"), 0), ((Str.ofString "want"), 1), ((Str.ofString "peek"), 1), ((Str.ofString "when"), 2)] = true) {a_WITHIN : Addr} {o_WITHIN : Obj} (u_WITHIN : PySem.W.nsIn K mainGlobals (Str.ofString "WITHIN") = some (some (.ref a_WITHIN))) (l_WITHIN : K.lookup a_WITHIN = some o_WITHIN) (v_WITHIN : tabO a_WITHIN o_WITHIN [((Str.ofString "many"), 1), ((Str.ofString "part"), 2), ((Str.ofString "sum"), 2), ((Str.ofString "join"), 2), ((Str.ofString "same"), 2), ((Str.ofString "less"), 2)] = true) {a_FILLED : Addr} {o_FILLED : Obj} (u_FILLED : PySem.W.nsIn K mainGlobals (Str.ofString "FILLED") = some (some (.ref a_FILLED))) (l_FILLED : K.lookup a_FILLED = some o_FILLED) (v_FILLED : tupO o_FILLED [(Str.ofString "put"), (Str.ofString "got"), (Str.ofString "row")] = true) {a_GETTING : Addr} {o_GETTING : Obj} (u_GETTING : PySem.W.nsIn K mainGlobals (Str.ofString "GETTING") = some (some (.ref a_GETTING))) (l_GETTING : K.lookup a_GETTING = some o_GETTING) (v_GETTING : tupO o_GETTING [(Str.ofString "want"), (Str.ofString "peek")] = true)
    (hm : ∀ ns : List Int, ns.length ≤ 63 → ∃ ρ' T', m_law C (some (.d (script ns)) :: some (.tp 0) :: List.replicate (List.length [Str.ofString "_law_script", Str.ofString "_law_tape_here", Str.ofString "_law_recipes", Str.ofString "_law_recipe_here", Str.ofString "_law_text_here", Str.ofString "_law_one", Str.ofString "_law_other"] - 2) none) [[script ns, .int 0, .int 0]] = some ((.rt (.bool true), ρ'), T')) :
    ∃ fd : FuncData, (∀ (s : Shared) (v : Value), BindsTo s fd ⟨[v], []⟩ [((Str.ofString "_law_script"), v)]) ∧ ∀ base : Heap, K.In base → base.Ns mainGlobals mg → FnOk l.prog w K mg base CX0 109 fa fd [Str.ofString "_law_script"] (spLaw K) := by
  have B : Bi K mg C := ⟨clsB_of kC, PySem.W.mg_of X G qC, noB_of n_begun, noB_of n_parted, noB_of n_place, PySem.W.mg_none_of X G z_abs, PySem.W.mg_none_of X G z_all, PySem.W.mg_none_of X G z_bool, PySem.W.mg_none_of X G z_int, PySem.W.mg_none_of X G z_isinstance, PySem.W.mg_none_of X G z_len, PySem.W.mg_none_of X G z_list, PySem.W.mg_none_of X G z_min, PySem.W.mg_none_of X G z_range, PySem.W.mg_none_of X G z_str, PySem.W.mg_none_of X G z_sum, PySem.W.mg_none_of X G z_tuple, ⟨_, PySem.W.mg_of X G u_RECIPES_WITHIN, tabO_look l_RECIPES_WITHIN v_RECIPES_WITHIN⟩, ⟨_, PySem.W.mg_of X G u_WITHIN, tabO_look l_WITHIN v_WITHIN⟩, ⟨_, PySem.W.mg_of X G u_FILLED, tupO_look l_FILLED v_FILLED⟩, ⟨_, PySem.W.mg_of X G u_GETTING, tupO_look l_GETTING v_GETTING⟩, ⟨_, PySem.W.mg_of X G y_FIGURES⟩, ⟨_, PySem.W.mg_of X G y_LETTERS⟩, ⟨_, PySem.W.mg_of X G y_MOST_DEEP⟩, ⟨_, PySem.W.mg_of X G y_MOST_FIGURES⟩, ⟨_, PySem.W.mg_of X G y_MOST_IN_ROW⟩, ⟨_, PySem.W.mg_of X G y_MOST_LETTERS⟩, ⟨_, PySem.W.mg_of X G y_MOST_PARTS⟩, ⟨_, PySem.W.mg_of X G y_MOST_PARTS_IN_ALL⟩, ⟨_, PySem.W.mg_of X G y_MOST_ROWS⟩, ⟨_, PySem.W.mg_of X G y_MOST_SIGNS⟩, ⟨_, PySem.W.mg_of X G y_MOST_VALUES⟩, ⟨_, PySem.W.mg_of X G y_MOST_WANTS⟩, ⟨_, PySem.W.mg_of X G y_TEXT_SIGNS⟩⟩
  obtain ⟨f0, oc, od, an, sl, kV, dc, pm, cd, ct, a, lk, c, kp⟩ := d_law.ex
  have e := hfa.symm.trans (PySem.W.mg_of X G a)
  cases e
  have FL := fun_mk (st := top 72) lk c kp
  refine ⟨PySem.W.fnOf (Str.ofString "law") (Str.ofString "law") (defArgs (top 72)) (defBody (top 72)) (defScope (top 72)) .none kV dc pm an cd ct, fun s v => .of_eq rfl, fun base _ _ => ?_⟩
  have G_Words____init__ : Ini l.prog w K mg base C [Str.ofString "self", Str.ofString "text"] 1 (spM K (List.length [Str.ofString "self", Str.ofString "text"]) (m_Words____init__ C)) := d_Words____init__.ini gC (fun _ _ _ _ _ _ us hl => by obtain ⟨a0, a1, rfl⟩ := len2 hl; rfl) fun f fd F => ok_Words____init__ B F 
  have G_Words__ahead : Mth l.prog w K mg base C (Str.ofString "ahead") [Str.ofString "self"] 1 (spM K (List.length [Str.ofString "self"]) (m_Words__ahead C)) := d_Words__ahead.mth (fun _ _ _ _ _ _ us hl => by obtain ⟨a0, rfl⟩ := len1 hl; rfl) fun f fd F => ok_Words__ahead B F 
  have G_Words__take : Mth l.prog w K mg base C (Str.ofString "take") [Str.ofString "self", Str.ofString "fits"] 1 (spM K (List.length [Str.ofString "self", Str.ofString "fits"]) (m_Words__take C)) := d_Words__take.mth (fun _ _ _ _ _ _ us hl => by obtain ⟨a0, a1, rfl⟩ := len2 hl; rfl) fun f fd F => ok_Words__take B F 
  have G_Words__begin : Mth l.prog w K mg base C (Str.ofString "begin") [Str.ofString "self", Str.ofString "fits", Str.ofString "above"] 2 (spM K (List.length [Str.ofString "self", Str.ofString "fits", Str.ofString "above"]) (m_Words__begin C)) := d_Words__begin.mth (fun _ _ _ _ _ _ us hl => by obtain ⟨a0, a1, a2, rfl⟩ := len3 hl; rfl) fun f fd F => ok_Words__begin B F G_Words__take
  have G_Words__finish : Mth l.prog w K mg base C (Str.ofString "finish") [Str.ofString "self"] 1 (spM K (List.length [Str.ofString "self"]) (m_Words__finish C)) := d_Words__finish.mth (fun _ _ _ _ _ _ us hl => by obtain ⟨a0, rfl⟩ := len1 hl; rfl) fun f fd F => ok_Words__finish B F 
  have G_is_whole : Fn l.prog w K mg base (Str.ofString "is_whole") [Str.ofString "thing"] 1 (spM K (List.length [Str.ofString "thing"]) m_is_whole) := d_is_whole.fn X G (fun _ _ _ _ _ _ us hl => by obtain ⟨a0, rfl⟩ := len1 hl; rfl) fun f fd F => ok_is_whole B F 
  have G_has_only : Fn l.prog w K mg base (Str.ofString "has_only") [Str.ofString "text", Str.ofString "signs"] 1 (spM K (List.length [Str.ofString "text", Str.ofString "signs"]) m_has_only) := d_has_only.fn X G (fun _ _ _ _ _ _ us hl => by obtain ⟨a0, a1, rfl⟩ := len2 hl; rfl) fun f fd F => ok_has_only B F 
  have G_is_name : Fn l.prog w K mg base (Str.ofString "is_name") [Str.ofString "thing"] 2 (spM K (List.length [Str.ofString "thing"]) m_is_name) := d_is_name.fn X G (fun _ _ _ _ _ _ us hl => by obtain ⟨a0, rfl⟩ := len1 hl; rfl) fun f fd F => ok_is_name B F G_has_only
  have G_is_single : Fn l.prog w K mg base (Str.ofString "is_single") [Str.ofString "thing"] 2 (spM K (List.length [Str.ofString "thing"]) m_is_single) := d_is_single.fn X G (fun _ _ _ _ _ _ us hl => by obtain ⟨a0, rfl⟩ := len1 hl; rfl) fun f fd F => ok_is_single B F G_is_whole G_has_only
  have R_is_built : ∀ n : Nat, Fn l.prog w K mg base (Str.ofString "is_built") [Str.ofString "thing", Str.ofString "rows_left"] (2 + n) (spM K (List.length [Str.ofString "thing", Str.ofString "rows_left"]) (m_is_built n)) := by
    intro n
    induction n with
    | zero => exact d_is_built.fn X G (fun _ _ _ _ _ _ us hl => by obtain ⟨a0, a1, rfl⟩ := len2 hl; rfl) fun f fd F => fn_none
    | succ n ih => exact d_is_built.fn X G (fun _ _ _ _ _ _ us hl => by obtain ⟨a0, a1, rfl⟩ := len2 hl; rfl) fun f fd F => ok_is_built n B F G_is_single ih
  have G_is_built := R_is_built 25
  have R_many_of : ∀ n : Nat, Fn l.prog w K mg base (Str.ofString "many_of") [Str.ofString "value"] (0 + n) (spM K (List.length [Str.ofString "value"]) (m_many_of n)) := by
    intro n
    induction n with
    | zero => exact d_many_of.fn X G (fun _ _ _ _ _ _ us hl => by obtain ⟨a0, rfl⟩ := len1 hl; rfl) fun f fd F => fn_none
    | succ n ih => exact d_many_of.fn X G (fun _ _ _ _ _ _ us hl => by obtain ⟨a0, rfl⟩ := len1 hl; rfl) fun f fd F => ok_many_of n B F ih
  have G_many_of := R_many_of 25
  have G_is_value : Fn l.prog w K mg base (Str.ofString "is_value") [Str.ofString "thing"] 28 (spM K (List.length [Str.ofString "thing"]) m_is_value) := d_is_value.fn X G (fun _ _ _ _ _ _ us hl => by obtain ⟨a0, rfl⟩ := len1 hl; rfl) fun f fd F => ok_is_value B F G_is_built G_many_of
  have G_exprs_within : Fn l.prog w K mg base (Str.ofString "exprs_within") [Str.ofString "expr"] 1 (spM K (List.length [Str.ofString "expr"]) m_exprs_within) := d_exprs_within.fn X G (fun _ _ _ _ _ _ us hl => by obtain ⟨a0, rfl⟩ := len1 hl; rfl) fun f fd F => ok_exprs_within B F 
  have G_got_behind : Fn l.prog w K mg base (Str.ofString "got_behind") [Str.ofString "word", Str.ofString "got"] 1 (spM K (List.length [Str.ofString "word", Str.ofString "got"]) m_got_behind) := d_got_behind.fn X G (fun _ _ _ _ _ _ us hl => by obtain ⟨a0, a1, rfl⟩ := len2 hl; rfl) fun f fd F => ok_got_behind B F 
  have R_stamp_of : ∀ n : Nat, Fn l.prog w K mg base (Str.ofString "stamp_of") [Str.ofString "value"] (1 + n) (spM K (List.length [Str.ofString "value"]) (m_stamp_of n)) := by
    intro n
    induction n with
    | zero => exact d_stamp_of.fn X G (fun _ _ _ _ _ _ us hl => by obtain ⟨a0, rfl⟩ := len1 hl; rfl) fun f fd F => fn_none
    | succ n ih => exact d_stamp_of.fn X G (fun _ _ _ _ _ _ us hl => by obtain ⟨a0, rfl⟩ := len1 hl; rfl) fun f fd F => ok_stamp_of n B F G_is_whole ih
  have G_stamp_of := R_stamp_of 25
  have G_is_figures : Fn l.prog w K mg base (Str.ofString "is_figures") [Str.ofString "text"] 2 (spM K (List.length [Str.ofString "text"]) m_is_figures) := d_is_figures.fn X G (fun _ _ _ _ _ _ us hl => by obtain ⟨a0, rfl⟩ := len1 hl; rfl) fun f fd F => ok_is_figures B F G_has_only
  have G_number_by : Fn l.prog w K mg base (Str.ofString "number_by") [Str.ofString "word"] 3 (spM K (List.length [Str.ofString "word"]) m_number_by) := d_number_by.fn X G (fun _ _ _ _ _ _ us hl => by obtain ⟨a0, rfl⟩ := len1 hl; rfl) fun f fd F => ok_number_by B F G_is_figures
  have G_single_by : Fn l.prog w K mg base (Str.ofString "single_by") [Str.ofString "word"] 4 (spM K (List.length [Str.ofString "word"]) m_single_by) := d_single_by.fn X G (fun _ _ _ _ _ _ us hl => by obtain ⟨a0, rfl⟩ := len1 hl; rfl) fun f fd F => ok_single_by B F G_number_by
  have G_single_at : Fn l.prog w K mg base (Str.ofString "single_at") [Str.ofString "text", Str.ofString "at"] 5 (spM K (List.length [Str.ofString "text", Str.ofString "at"]) m_single_at) := d_single_at.fn X G (fun _ _ _ _ _ _ us hl => by obtain ⟨a0, a1, rfl⟩ := len2 hl; rfl) fun f fd F => ok_single_at B F G_single_by
  have R_row_at : ∀ n : Nat, Fn l.prog w K mg base (Str.ofString "row_at") [Str.ofString "text", Str.ofString "at", Str.ofString "rows_left"] (5 + n) (spM K (List.length [Str.ofString "text", Str.ofString "at", Str.ofString "rows_left"]) (m_row_at n)) ∧ Fn l.prog w K mg base (Str.ofString "value_at") [Str.ofString "text", Str.ofString "at", Str.ofString "rows_left"] (5 + n) (spM K (List.length [Str.ofString "text", Str.ofString "at", Str.ofString "rows_left"]) (m_value_at n)) := by
    intro n
    induction n with
    | zero => exact ⟨d_row_at.fn X G (fun _ _ _ _ _ _ us hl => by obtain ⟨a0, a1, a2, rfl⟩ := len3 hl; rfl) fun f fd F => fn_none, d_value_at.fn X G (fun _ _ _ _ _ _ us hl => by obtain ⟨a0, a1, a2, rfl⟩ := len3 hl; rfl) fun f fd F => fn_none⟩
    | succ n ih => exact ⟨d_row_at.fn X G (fun _ _ _ _ _ _ us hl => by obtain ⟨a0, a1, a2, rfl⟩ := len3 hl; rfl) fun f fd F => ok_row_at n B F ih.2, d_value_at.fn X G (fun _ _ _ _ _ _ us hl => by obtain ⟨a0, a1, a2, rfl⟩ := len3 hl; rfl) fun f fd F => ok_value_at n B F G_single_at ih.1⟩
  have G_row_at := (R_row_at 25).1
  have G_value_at := (R_row_at 25).2
  have G_value_by : Fn l.prog w K mg base (Str.ofString "value_by") [Str.ofString "text"] 31 (spM K (List.length [Str.ofString "text"]) m_value_by) := d_value_by.fn X G (fun _ _ _ _ _ _ us hl => by obtain ⟨a0, rfl⟩ := len1 hl; rfl) fun f fd F => ok_value_by B F G_value_at G_is_value
  have G_filling_words : Fn l.prog w K mg base (Str.ofString "filling_words") [Str.ofString "expr"] 27 (spM K (List.length [Str.ofString "expr"]) m_filling_words) := d_filling_words.fn X G (fun _ _ _ _ _ _ us hl => by obtain ⟨a0, rfl⟩ := len1 hl; rfl) fun f fd F => ok_filling_words B F G_stamp_of
  have R_expr_words : ∀ n : Nat, Fn l.prog w K mg base (Str.ofString "expr_words") [Str.ofString "expr"] (27 + n) (spM K (List.length [Str.ofString "expr"]) (m_expr_words n)) := by
    intro n
    induction n with
    | zero => exact d_expr_words.fn X G (fun _ _ _ _ _ _ us hl => by obtain ⟨a0, rfl⟩ := len1 hl; rfl) fun f fd F => fn_none
    | succ n ih => exact d_expr_words.fn X G (fun _ _ _ _ _ _ us hl => by obtain ⟨a0, rfl⟩ := len1 hl; rfl) fun f fd F => ok_expr_words n B F G_filling_words G_exprs_within ih
  have G_expr_words := R_expr_words 25
  have R_recipe_words : ∀ n : Nat, Fn l.prog w K mg base (Str.ofString "recipe_words") [Str.ofString "recipe"] (52 + n) (spM K (List.length [Str.ofString "recipe"]) (m_recipe_words n)) := by
    intro n
    induction n with
    | zero => exact d_recipe_words.fn X G (fun _ _ _ _ _ _ us hl => by obtain ⟨a0, rfl⟩ := len1 hl; rfl) fun f fd F => fn_none
    | succ n ih => exact d_recipe_words.fn X G (fun _ _ _ _ _ _ us hl => by obtain ⟨a0, rfl⟩ := len1 hl; rfl) fun f fd F => ok_recipe_words n B F G_expr_words ih
  have G_recipe_words := R_recipe_words 25
  have G_show_recipe : Fn l.prog w K mg base (Str.ofString "show_recipe") [Str.ofString "recipe"] 78 (spM K (List.length [Str.ofString "recipe"]) m_show_recipe) := d_show_recipe.fn X G (fun _ _ _ _ _ _ us hl => by obtain ⟨a0, rfl⟩ := len1 hl; rfl) fun f fd F => ok_show_recipe B F G_recipe_words
  have G_put_by : Fn l.prog w K mg base (Str.ofString "put_by") [Str.ofString "words"] 32 (spM K (List.length [Str.ofString "words"]) (m_put_by C)) := d_put_by.fn X G (fun _ _ _ _ _ _ us hl => by obtain ⟨a0, rfl⟩ := len1 hl; rfl) fun f fd F => ok_put_by B F G_Words__ahead G_value_by G_Words__take
  have G_number_below : Fn l.prog w K mg base (Str.ofString "number_below") [Str.ofString "words", Str.ofString "bound"] 2 (spM K (List.length [Str.ofString "words", Str.ofString "bound"]) (m_number_below C)) := d_number_below.fn X G (fun _ _ _ _ _ _ us hl => by obtain ⟨a0, a1, rfl⟩ := len2 hl; rfl) fun f fd F => ok_number_below B F G_Words__ahead G_Words__take
  have R_exprs_by : ∀ n : Nat, Fn l.prog w K mg base (Str.ofString "exprs_by") [Str.ofString "words", Str.ofString "many", Str.ofString "above", Str.ofString "got"] (32 + n) (spM K (List.length [Str.ofString "words", Str.ofString "many", Str.ofString "above", Str.ofString "got"]) (m_exprs_by C n)) ∧ Fn l.prog w K mg base (Str.ofString "expr_by") [Str.ofString "words", Str.ofString "above", Str.ofString "got"] (32 + n) (spM K (List.length [Str.ofString "words", Str.ofString "above", Str.ofString "got"]) (m_expr_by C n)) := by
    intro n
    induction n with
    | zero => exact ⟨d_exprs_by.fn X G (fun _ _ _ _ _ _ us hl => by obtain ⟨a0, a1, a2, a3, rfl⟩ := len4 hl; rfl) fun f fd F => fn_none, d_expr_by.fn X G (fun _ _ _ _ _ _ us hl => by obtain ⟨a0, a1, a2, rfl⟩ := len3 hl; rfl) fun f fd F => fn_none⟩
    | succ n ih => exact ⟨d_exprs_by.fn X G (fun _ _ _ _ _ _ us hl => by obtain ⟨a0, a1, a2, a3, rfl⟩ := len4 hl; rfl) fun f fd F => ok_exprs_by n B F ih.2, d_expr_by.fn X G (fun _ _ _ _ _ _ us hl => by obtain ⟨a0, a1, a2, rfl⟩ := len3 hl; rfl) fun f fd F => ok_expr_by n B F G_Words__ahead G_Words__begin G_put_by G_number_below ih.1⟩
  have G_exprs_by := (R_exprs_by 50).1
  have G_expr_by := (R_exprs_by 50).2
  have G_name_by : Fn l.prog w K mg base (Str.ofString "name_by") [Str.ofString "words"] 3 (spM K (List.length [Str.ofString "words"]) (m_name_by C)) := d_name_by.fn X G (fun _ _ _ _ _ _ us hl => by obtain ⟨a0, rfl⟩ := len1 hl; rfl) fun f fd F => ok_name_by B F G_Words__ahead G_is_name G_Words__take
  have R_recipe_by : ∀ n : Nat, Fn l.prog w K mg base (Str.ofString "recipe_by") [Str.ofString "words", Str.ofString "above", Str.ofString "got"] (82 + n) (spM K (List.length [Str.ofString "words", Str.ofString "above", Str.ofString "got"]) (m_recipe_by C n)) := by
    intro n
    induction n with
    | zero => exact d_recipe_by.fn X G (fun _ _ _ _ _ _ us hl => by obtain ⟨a0, a1, a2, rfl⟩ := len3 hl; rfl) fun f fd F => fn_none
    | succ n ih => exact d_recipe_by.fn X G (fun _ _ _ _ _ _ us hl => by obtain ⟨a0, a1, a2, rfl⟩ := len3 hl; rfl) fun f fd F => ok_recipe_by n B F G_Words__ahead G_Words__begin G_name_by G_expr_by G_got_behind ih
  have G_recipe_by := R_recipe_by 25
  have G_read_recipe : Fn l.prog w K mg base (Str.ofString "read_recipe") [Str.ofString "text"] 108 (spM K (List.length [Str.ofString "text"]) (m_read_recipe C)) := d_read_recipe.fn X G (fun _ _ _ _ _ _ us hl => by obtain ⟨a0, rfl⟩ := len1 hl; rfl) fun f fd F => ok_read_recipe B F G_recipe_by G_Words__finish G_Words____init__
  have GT : Fn l.prog w K mg base (Str.ofString "_law_tape") [Str.ofString "_law_script"] 1 (spTape K) := d__law_tape.fn X G (fun _ _ _ _ _ _ us hl => by obtain ⟨a0, rfl⟩ := len1 hl; rfl) fun f fd F => ok__law_tape F
  have G__law_draw : Fn l.prog w K mg base (Str.ofString "_law_draw") [Str.ofString "_law_tape_here", Str.ofString "_law_many_here"] 1 (spM K (List.length [Str.ofString "_law_tape_here", Str.ofString "_law_many_here"]) m__law_draw) := d__law_draw.fn X G (fun _ _ _ _ _ _ us hl => by obtain ⟨a0, a1, rfl⟩ := len2 hl; rfl) fun f fd F => ok__law_draw B F 
  have G__law_name : Fn l.prog w K mg base (Str.ofString "_law_name") [Str.ofString "_law_tape_here"] 2 (spM K (List.length [Str.ofString "_law_tape_here"]) m__law_name) := d__law_name.fn X G (fun _ _ _ _ _ _ us hl => by obtain ⟨a0, rfl⟩ := len1 hl; rfl) fun f fd F => ok__law_name B F G__law_draw
  have G__law_text : Fn l.prog w K mg base (Str.ofString "_law_text") [Str.ofString "_law_tape_here"] 3 (spM K (List.length [Str.ofString "_law_tape_here"]) m__law_text) := d__law_text.fn X G (fun _ _ _ _ _ _ us hl => by obtain ⟨a0, rfl⟩ := len1 hl; rfl) fun f fd F => ok__law_text B F G__law_draw G__law_name
  have G__law_number : Fn l.prog w K mg base (Str.ofString "_law_number") [Str.ofString "_law_tape_here"] 2 (spM K (List.length [Str.ofString "_law_tape_here"]) m__law_number) := d__law_number.fn X G (fun _ _ _ _ _ _ us hl => by obtain ⟨a0, rfl⟩ := len1 hl; rfl) fun f fd F => ok__law_number B F G__law_draw
  have R__law_value : ∀ n : Nat, Fn l.prog w K mg base (Str.ofString "_law_value") [Str.ofString "_law_tape_here", Str.ofString "_law_deep", Str.ofString "_law_room"] (3 + n) (spM K (List.length [Str.ofString "_law_tape_here", Str.ofString "_law_deep", Str.ofString "_law_room"]) (m__law_value n)) := by
    intro n
    induction n with
    | zero => exact d__law_value.fn X G (fun _ _ _ _ _ _ us hl => by obtain ⟨a0, a1, a2, rfl⟩ := len3 hl; rfl) fun f fd F => fn_none
    | succ n ih => exact d__law_value.fn X G (fun _ _ _ _ _ _ us hl => by obtain ⟨a0, a1, a2, rfl⟩ := len3 hl; rfl) fun f fd F => ok__law_value n B F G__law_draw G__law_number G__law_text ih
  have G__law_value := R__law_value 25
  have R__law_alike : ∀ n : Nat, Fn l.prog w K mg base (Str.ofString "_law_alike") [Str.ofString "_law_due", Str.ofString "_law_found"] (0 + n) (spM K (List.length [Str.ofString "_law_due", Str.ofString "_law_found"]) (m__law_alike n)) := by
    intro n
    induction n with
    | zero => exact d__law_alike.fn X G (fun _ _ _ _ _ _ us hl => by obtain ⟨a0, a1, rfl⟩ := len2 hl; rfl) fun f fd F => fn_none
    | succ n ih => exact d__law_alike.fn X G (fun _ _ _ _ _ _ us hl => by obtain ⟨a0, a1, rfl⟩ := len2 hl; rfl) fun f fd F => ok__law_alike n B F ih
  have G__law_alike := R__law_alike 60
  have R__law_stamp : ∀ n : Nat, Fn l.prog w K mg base (Str.ofString "_law_stamp") [Str.ofString "_law_value_here"] (0 + n) (spM K (List.length [Str.ofString "_law_value_here"]) (m__law_stamp n)) := by
    intro n
    induction n with
    | zero => exact d__law_stamp.fn X G (fun _ _ _ _ _ _ us hl => by obtain ⟨a0, rfl⟩ := len1 hl; rfl) fun f fd F => fn_none
    | succ n ih => exact d__law_stamp.fn X G (fun _ _ _ _ _ _ us hl => by obtain ⟨a0, rfl⟩ := len1 hl; rfl) fun f fd F => ok__law_stamp n B F ih
  have G__law_stamp := R__law_stamp 25
  have G__law_leaf : Fn l.prog w K mg base (Str.ofString "_law_leaf") [Str.ofString "_law_tape_here", Str.ofString "_law_got"] 29 (spM K (List.length [Str.ofString "_law_tape_here", Str.ofString "_law_got"]) m__law_leaf) := d__law_leaf.fn X G (fun _ _ _ _ _ _ us hl => by obtain ⟨a0, a1, rfl⟩ := len2 hl; rfl) fun f fd F => ok__law_leaf B F G__law_draw G__law_value
  have R__law_expr : ∀ n : Nat, Fn l.prog w K mg base (Str.ofString "_law_expr") [Str.ofString "_law_tape_here", Str.ofString "_law_got", Str.ofString "_law_room", Str.ofString "_law_deep"] (29 + n) (spM K (List.length [Str.ofString "_law_tape_here", Str.ofString "_law_got", Str.ofString "_law_room", Str.ofString "_law_deep"]) (m__law_expr n)) := by
    intro n
    induction n with
    | zero => exact d__law_expr.fn X G (fun _ _ _ _ _ _ us hl => by obtain ⟨a0, a1, a2, a3, rfl⟩ := len4 hl; rfl) fun f fd F => fn_none
    | succ n ih => exact d__law_expr.fn X G (fun _ _ _ _ _ _ us hl => by obtain ⟨a0, a1, a2, a3, rfl⟩ := len4 hl; rfl) fun f fd F => ok__law_expr n B F G__law_draw G__law_leaf ih
  have G__law_expr := R__law_expr 25
  have G__law_within : Fn l.prog w K mg base (Str.ofString "_law_within") [Str.ofString "_law_thing"] 1 (spM K (List.length [Str.ofString "_law_thing"]) m__law_within) := d__law_within.fn X G (fun _ _ _ _ _ _ us hl => by obtain ⟨a0, rfl⟩ := len1 hl; rfl) fun f fd F => ok__law_within B F 
  have R__law_many : ∀ n : Nat, Fn l.prog w K mg base (Str.ofString "_law_many") [Str.ofString "_law_thing"] (1 + n) (spM K (List.length [Str.ofString "_law_thing"]) (m__law_many n)) := by
    intro n
    induction n with
    | zero => exact d__law_many.fn X G (fun _ _ _ _ _ _ us hl => by obtain ⟨a0, rfl⟩ := len1 hl; rfl) fun f fd F => fn_none
    | succ n ih => exact d__law_many.fn X G (fun _ _ _ _ _ _ us hl => by obtain ⟨a0, rfl⟩ := len1 hl; rfl) fun f fd F => ok__law_many n B F G__law_within ih
  have G__law_many := R__law_many 25
  have G__law_asked : Fn l.prog w K mg base (Str.ofString "_law_asked") [Str.ofString "_law_tape_here", Str.ofString "_law_got", Str.ofString "_law_room", Str.ofString "_law_deep"] 55 (spM K (List.length [Str.ofString "_law_tape_here", Str.ofString "_law_got", Str.ofString "_law_room", Str.ofString "_law_deep"]) m__law_asked) := d__law_asked.fn X G (fun _ _ _ _ _ _ us hl => by obtain ⟨a0, a1, a2, a3, rfl⟩ := len4 hl; rfl) fun f fd F => ok__law_asked B F G__law_draw G__law_name G__law_expr
  have R__law_recipe : ∀ n : Nat, Fn l.prog w K mg base (Str.ofString "_law_recipe") [Str.ofString "_law_tape_here", Str.ofString "_law_got", Str.ofString "_law_room", Str.ofString "_law_deep"] (55 + n) (spM K (List.length [Str.ofString "_law_tape_here", Str.ofString "_law_got", Str.ofString "_law_room", Str.ofString "_law_deep"]) (m__law_recipe n)) := by
    intro n
    induction n with
    | zero => exact d__law_recipe.fn X G (fun _ _ _ _ _ _ us hl => by obtain ⟨a0, a1, a2, a3, rfl⟩ := len4 hl; rfl) fun f fd F => fn_none
    | succ n ih => exact d__law_recipe.fn X G (fun _ _ _ _ _ _ us hl => by obtain ⟨a0, a1, a2, a3, rfl⟩ := len4 hl; rfl) fun f fd F => ok__law_recipe n B F G__law_draw G__law_name G__law_expr G__law_asked G__law_many ih
  have G__law_recipe := R__law_recipe 25
  have R__law_words : ∀ n : Nat, Fn l.prog w K mg base (Str.ofString "_law_words") [Str.ofString "_law_thing"] (25 + n) (spM K (List.length [Str.ofString "_law_thing"]) (m__law_words n)) := by
    intro n
    induction n with
    | zero => exact d__law_words.fn X G (fun _ _ _ _ _ _ us hl => by obtain ⟨a0, rfl⟩ := len1 hl; rfl) fun f fd F => fn_none
    | succ n ih => exact d__law_words.fn X G (fun _ _ _ _ _ _ us hl => by obtain ⟨a0, rfl⟩ := len1 hl; rfl) fun f fd F => ok__law_words n B F G__law_stamp G__law_within ih
  have G__law_words := R__law_words 25
  have G__law_great : Fn l.prog w K mg base (Str.ofString "_law_great") [Str.ofString "_law_tape_here"] 29 (spM K (List.length [Str.ofString "_law_tape_here"]) m__law_great) := d__law_great.fn X G (fun _ _ _ _ _ _ us hl => by obtain ⟨a0, rfl⟩ := len1 hl; rfl) fun f fd F => ok__law_great B F G__law_value G__law_name
  have G__law_wants : Fn l.prog w K mg base (Str.ofString "_law_wants") [Str.ofString "_law_tape_here"] 3 (spM K (List.length [Str.ofString "_law_tape_here"]) m__law_wants) := d__law_wants.fn X G (fun _ _ _ _ _ _ us hl => by obtain ⟨a0, rfl⟩ := len1 hl; rfl) fun f fd F => ok__law_wants B F G__law_draw G__law_name
  exact ok_law B FL GT G__law_great G__law_recipe G__law_wants G__law_words G_show_recipe G__law_alike G_read_recipe hm
theorem walk {l : PySem.W.OpenLaw} {q : Program} {loose : List Str} {XP : (Str → Option Value) → Heap → Prop} {YP : World → Heap → Prop} {d : DefRec} {K : Params → PySem.W.Frag} (hn : l.most = some 63) (hdf : d.params.defaults = [])
    (hY : ∀ (w : World) (h : Heap), YP w h → (K w.params).In h)
    (F : ∀ (w : World) (mg : Str → Option Value) (fa : Addr) (h : Heap), (K w.params).In h → h.Ns mainGlobals mg → mg d.name = some (.ref fa) →
      ∃ fd : FuncData, (∀ (s : Shared) (u : Value), BindsTo s fd ⟨[u], []⟩ [((Str.ofString "_law_script"), u)]) ∧ ∀ base : Heap, (K w.params).In base → base.Ns mainGlobals mg → FnOk l.prog w (K w.params) mg base CX0 109 fa fd [Str.ofString "_law_script"] (spLaw (K w.params))) :
    PySem.W.WalkO q loose XP YP l.row.toRowW d [] (fun f vs => PySem.call f vs) :=
  L2.walk_of (n := 63) (k := 109) (x := (Str.ofString "_law_script")) (CX := fun _ => CX0) (sp := fun w => spLaw (K w.params)) hn (by decide) hdf ⟨rfl, by decide, by decide, rfl⟩ hY F (fun _ _ a ns hl _ hS => ⟨a, ns, rfl, hS, hl, fun _ => rfl⟩) fun _ _ _ _ _ z => z
end G
namespace G
open PySem PySem.Spec PySem.Calls PySem.W PyProof.Rows PySem.W.X PySem.W.ZRun
theorem walkZ {q : Program} {loose : List Str} {XP : (Str → Option Value) → Heap → Prop} {K : Params → PySem.W.Frag} {r : RowW} {d : DefRec} {kwd : List (Str × Expr)}
    {w : World} {s₀ s₁ : Shared} {mg mb : Str → Option Value} {a : Addr} {o : Obj} {pm cd doc dV kV : Value} {args : List WData} {vals : List Value} {as : List Addr}
    (KX : (K w.params).In s₁.heap) (GR : Ground q loose r.records XP w s₀ mg mb s₁.heap) (ho : s₁.heap.get? a = some o)
    (hd : o.data = .func { docDef d.name d.params d.body d.scope pm cd doc with defaults := dV, kwdefaults := kV }) (hcd : s₁.heap.CodeRec cd d.name) (hD : Dflts mg s₁.heap d.params kwd dV kV) (hmg : mg d.name = some (.ref a)) (hg : s₁.gens = #[])
    (hpre : r.claim.pre args = true) (hlay : WData.layableAll args = true) (hrd : ReadsAllW r.records (classAt s₀.heap) s₁.heap vals args as) (hwl : WellAll w.params s₁.heap vals args) (hlo : ∀ a ∈ as, (a == sysModules) = false)
    (W : PySem.W.WalkO q loose XP (fun w h => (K w.params).In h) r d kwd fun f vs => PySem.call f vs) :
    wpAny (model r.prog w) callerA (PySem.call (.ref a) vals) (fun v s' => GoodWG r.claim (classAt s₀.heap) (ExcName.means s₀.heap) args s₁ (.ok (.ret v)) s')
        (fun e s' => GoodWG r.claim (classAt s₀.heap) (ExcName.means s₀.heap) args s₁ (.error e) s') s₁ :=
  W w s₀ s₁ mg mb GR KX a o pm cd doc dV kV ho hd hcd hD hmg hg args vals as hpre hlay hrd hwl hlo
end G
noncomputable def PySem.W.Fast.tw6469452638266281796 : Unit := ()
noncomputable def PySem.W.Fast.tw3092975927472370022 : Unit := ()
noncomputable def PySem.W.Fast.tw18345093844581384475 : Unit := ()
noncomputable def PySem.W.Fast.tw7998828738495840195 : PySem.Program := PySem.Challenge.pw_redo_k09_recipes_written
open PySem PySem.W PyProof.Rows PySem.W.X PySem.W.ZRun
set_option maxRecDepth 100000 in
set_option maxHeartbeats 0 in
theorem PySem.Challenge.cw_redo_k09_recipes_written_holds : PySem.Challenge.rw_redo_k09_recipes_written.Holds := by
  w_on; o_law; z_head; (case hw => w_witness2)
  k_fill
  intro w s₀ s₁ mg mb GR y fa o pm cd doc dV kV ho hd hcd hD hmg hg args vals as L hpre hlay hrd hwl hlo
  z_open y L KX ZH ZN ZT
  clear ZH ZN ZT
  refine G.walkZ KX GR ho hd hcd hD hmg hg hpre hlay hrd hwl hlo ?W
  clear KX GR ho hd hcd hD hmg hg hpre hlay hrd hwl hlo L y
  refine G.walk (l := PySem.Challenge.rw_redo_k09_recipes_written) rfl rfl (fun w h Y => Y) ?F
  case F =>
    intro w mg fa h KX GG hmg
    refine' G.all_mk KX GG hmg ?_ ?_ ?_ ?_ ?_ ?_ ?_ ?_ ?_ ?_ ?_ ?_ ?_ ?_ ?_ ?_ ?_ ?_ ?_ ?_ ?_ ?_ ?_ ?_ ?_ ?_ ?_ ?_ ?_ ?_ ?_ ?_ ?_ ?_ ?_ ?_ ?_ ?_ ?_ ?_ ?_ ?_ ?_ ?_ ?_ ?_ ?_ ?_ ?_ ?_ ?_ ?_ ?_ ?_ ?_ ?_ ?_ ?_ ?_ ?_ ?_ ?_ ?_ ?_ ?_ ?_ ?_ ?_ ?_ ?_ ?_ ?_ ?_ ?_ ?_ ?_ ?_ ?_ ?_ ?_ ?_ ?_ ?_ ?_ ?_ ?_ ?_ ?_ ?_ ?_ ?_ ?_ ?_ ?_ (fun ns h => G.law_math _ ns h)
    any_goals first | (refine' D.df_mk ?a ?l ?c ?k; (case a => k_is); (case l => k_is); (case c => k_is); (case k => k_is)) | (refine' D.dfm_mk ?a ?l ?c ?k ?n; (case a => k_is); (case l => k_is); (case c => k_is); (case k => k_is); (case n => k_is)) | k_is
    all_goals first | rfl | decide +kernel
